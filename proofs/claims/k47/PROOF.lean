import PyProof.Rows.All
import Wide.All
import OpenK.AllK
import Wide.FinOn
import Lean
import PyProof.EqAt
import PyProof.EqKinds
import PyProof.TupleCall
import PyProof.NeKinds
import PyProof.EnumStmt
import PyProof.EnumMake
import PyProof.CompFree
import PyProof.Rows.FStr
import PySem.Challenge.RW_treesay_k47_whole_plain_meaning
open PySem renaming wpAny_bind->aaw,wpAny_pure->aax,wpAny_setState_of->aa9,boot_len->abe,mainGlobals->abl,wpAny_holding->abp,mem_of_lookup->abv,wpAny_setEpoch_of->abx,wpAny_Call_Name_kw->abz,wpAny_mono->ab0,wpAny_truthy_bool->ab6,wpAny_call_entry->ace,fits_of_scanBound->acg,wpAny_newObj_type->ach,wpAny_storeSet_of->aci,Spec->acn,wpAny_passesOwn->acr,wpAny_forIn_list->ac2,tupleKind_room_in1->ac5,codeAny_builtin->ac7,wpAny_setField->adb,codeAny_mono->adf,wpAny_askSetting->adg,entryFor_alias->ad2,wpAny_pyIter_list->ad4,builtinLookup_eq_fast->ad6,wpAny_isInstance->ad9,wpAny_rule->aea,plainId_quiet->aed,wpAny_execs_nil->aeg,wpAny_binaryOp_same->aeh,sub_set_self->aex,typeLookup_type->aey,wpAny_ite_split->aez,seqIndex_of->ae2,sizeLine_eq->ae3,wpAny_BinOp->ae4,wpAny_standAt->ae8,call_meets->afb,Within->afg,seqIndex_neg->afi,wpAny_typeOf->afj
open Bool renaming false_ne_true->aay,false_eq_true->abf,and_eq_true->abn,eq_iff_iff->ab1,not_true->ab2,or_eq_true->ac6,and_self->ae5
open List renaming getElem?_eq_getElem->aaz,getElem?_eq_some_iff->aa8,range->abd,getElem?_eq_none->abw,getElem?_set->aen
open Nat renaming le_refl->aa0,le_trans->aa1,lt_of_lt_of_le->aa2,ne_of_lt->aa4,lt_of_le_of_lt->aa7,zero_le->abg,lt_irrefl->ab3,le_add_right->ab5,not_lt_zero->ab7,lt_succ_self->ab9,le_succ->acf,succ_le_succ->acp,le_of_lt->acv,pow_le_pow_right->acw,le_of_lt_succ->ac9,lt_succ_of_lt->adz,ne_of_gt->ad0,lt_trans->aei,le_of_succ_le->aeo,succ_pos->aev,mod_lt->ae9,le_of_eq->afd,zero_add->afe
open Array renaming getElem?_eq_getElem->aa3,getElem?_eq_none->ab4
open Option.some renaming inj->aa5
open PySem.PassesOwn renaming never->aa6
open PySem.F renaming plainAttrs_list->abb,slot_list_append->abh,type_list_append->abj,slot_list_extend->ado,type_list_extend->adp,slot_dict_get->ad5
open PySem.Builtin renaming bitAnd->abk,bitNot->ac0,bitOr->ac8
open PySem.Builtin.Frozenset renaming unchanged->abm,copyOf->adk
open Sum renaming inr->abo,inl->ab8
open PySem.Value renaming ref->abq,int->acd,isInt_shape->acz,none->adt,type->ad8
open Option renaming isSome_iff_exists->abr,bind_eq_some_iff->ac1,isSome_some->ael,isSome_map->aep
open PyProof.Rows renaming callWith_type1->abt,envOfC->adi,Constant_none->ae6
open PySem.NameKind renaming free->abu,cell->adn
open False renaming elim->aby
open ForInStep renaming yield->acj
open True renaming intro->aco
open PySem.Builtin.Slice renaming slicePlaces->acq
open PySem.Around renaming under_plainId->acs
open Int renaming toNat_natCast->acu,ofNat->ade,emod_lt_of_pos->adq,emod_nonneg->aee,natCast_nonneg->aek,le_refl->aem
open Ne renaming symm->acy
open PySem.Calls renaming spliced_cons->ac3,callWith_builtin->adx,spliced_nil->ady
open PySem.Obj renaming mapSeq->ac4,mapFields->aes,putSet->afa
open PySem.W renaming cellsFrom_some->ada,kia_one->ad3,methodCall_KW->aec,OpenLaw->aef,callWith_K->aew,callWith_K0->ae0,plainGet_of->ae1
open Classical renaming byContradiction->adh
open PySem.Builtin.List renaming listTooLong->adl
open PySem.Builtin.Str renaming occurrences->adu
open PyProof.Rows.F renaming plain_set_update_loop->adv
open PySem.Str renaming empty->adw,ofString->ad1
open PySem.SeqAt renaming EqAt->ad7
open PySem.SetTable renaming fill->aeb
open LawfulBEq renaming eq_of_beq->aej
open Prod.mk renaming inj->aer
open PySem.Paired renaming length->aeu,snoc->afk
open PySem.Value.ref renaming inj->ae7
open Iff renaming rfl->afc
open PySem.pickOrder renaming go->afh
open PySem.W (instObj methodObj Frag lookIn plainGet hasDictIn findIn plainGet_of isFn takerIn typeIn emptyDict keepIn specialIn takesIn mroIn kitOne kia_one callWith_K methodCall_KW callWith_K0 cellsFrom_some fnOf codeIn isClsIn nsIn mg_of)
open List (mem_filter mem_range filterMap_cons mem_cons_of_mem mem_cons mem_append mem_append_left getElem_inj mem_append_right size_toArray any_eq_false length_map append_nil nodup_cons of_mem_zip replicate length_take getElem?_append_right getElem?_append_left getElem?_map getElem?_take_of_lt mem_of_getElem? length_append any_cons length_nil filterMap_map length_drop length_set all_cons Pairwise mem_cons_self all_eq_true lookup_append getD_eq_getElem?_getD toArray map_cons getElem?_cons_zero append_assoc map_append mem_map take_append_drop take_add_one Sublist take_length length_range length_cons range_succ_eq_map range_succ filter_cons length_singleton mem_iff_getElem? mem_singleton nodup_append getElem?_range any_eq_true getElem_mem getElem_of_mem Perm pairwise_cons find?_cons getElem?_toArray length_eq_zero_iff length_eraseIdx ext_getElem? set_set map_id' mem_of_mem_take mem_flatten flatten_append flatten_singleton length_filter_le flatten_cons)
open PySem.Heap (lt_size SameBut get?_push_of_some get?_push_size size_push get?_update_self get?_update_other)
open Array (length_toList getElem?_toList forIn_toList size_map)
open PySem.SetTable (below insertAt probe grown fits eraseAt)
set_option Elab.async false
set_option linter.all false
set_option maxRecDepth 100000
abbrev LI:=List Int
noncomputable section
namespace L2
open PySem PySem.Spec PyProof.Rows
abbrev Key:=Sum Int Str
def QB:Key->Value->Bool
 |.inl k,v=>Value.isInt k v
 |.inr x,v=>Value.isStrOf x v
def Yu(w:World):Key->Int
 |.inl k=>hashInt k
 |.inr x=>hashStr w x
theorem wE:∀{k:Key}{v:Value},QB k v=true->(∃i t,k=ab8 i/\v=acd i t)\/(∃x t,k=abo x/\v=Value.str x t)
 |.inl i,v,h=>by
  obtain⟨t,e⟩:=acz (k:=i) (v:=v) h
  exact .inl ⟨i,t,rfl,e⟩
 |.inr x,v,h=>by
  obtain⟨t,e⟩:=Value.isStrOf_shape (x:=x) (v:=v) h
  exact .inr ⟨x,t,rfl,e⟩
theorem zSl(i:Int)(t:Tok):QB (.inl i) (.int i t)=true:=by simp[QB,Value.isInt]
theorem zSk(x:Str)(t:Tok):QB (.inr x) (.str x t)=true:=by simp[QB,Value.isStrOf]
theorem Ky(a b:Int):decide ((ab8 a:Key)=ab8 b)=(a==b):=by
 grind
theorem Kz(a b:Str):decide ((abo a:Key)=abo b)=decide (a=b):=by
 grind
theorem KC(a:Int)(b:Str):decide ((ab8 a:Key)=abo b)=false:=decide_eq_false (λq=>nomatch q)
theorem KD(a:Str)(b:Int):decide ((abo a:Key)=ab8 b)=false:=decide_eq_false (λq=>nomatch q)
def wL(prog:Program)(w:World):PySem.KeyKind prog w Key where
 is:=QB
 hash:=Yu w
 inj:=λv a b m g=>by
  rcases wE m with⟨i,t,rfl,rfl⟩|⟨x,t,rfl,rfl⟩
  ·rcases wE g with⟨j,u,rfl,e⟩|⟨y,u,rfl,e⟩
   ·injection e with d _;rw[d]
   ·exact nomatch e
  ·rcases wE g with⟨j,u,rfl,e⟩|⟨y,u,rfl,e⟩
   ·exact nomatch e
   ·injection e with d _;rw[d]
 byValue:=λk v h=>by
  rcases wE h with⟨i,t,rfl,rfl⟩|⟨x,t,rfl,rfl⟩<;>rfl
 pyHash:=λf h=>by
  rcases wE f with⟨i,t,rfl,rfl⟩|⟨x,t,rfl,rfl⟩
  ·exact wpAny_pyHash_int h
  ·exact wpAny_pyHash_str h
 eqBool:=λl f h=>by
  rcases wE l with⟨i,t,rfl,rfl⟩|⟨x,t,rfl,rfl⟩
  ·rcases wE f with⟨j,u,rfl,rfl⟩|⟨y,u,rfl,rfl⟩
   ·rw[Ky] at h;exact wpAny_eqBool_int h
   ·rw[KC] at h;exact SeqAt.EqAt.int_str i t y u _ _ _ _ h
  ·rcases wE f with⟨j,u,rfl,rfl⟩|⟨y,u,rfl,rfl⟩
   ·rw[KD] at h;exact SeqAt.EqAt.str_int x t j u _ _ _ _ h
   ·rw[Kz] at h;exact wpAny_eqBool_str h
 «strs»:=λk x t v h=>by
  rcases wE h with⟨i,u,rfl,e⟩|⟨y,u,rfl,e⟩
  ·exact nomatch e
  ·injection e with d _
   subst d
   cases v<;>rfl
theorem zL2(prog:Program)(w:World)(i:Int)(t:Tok):(wL prog w).is (.inl i) (.int i t)=true:=zSl i t
theorem zL1(prog:Program)(w:World)(x:Str)(t:Tok):(wL prog w).is (.inr x) (.str x t)=true:=zSk x t
inductive V where
 |non|bl (b:Bool)|int (i:Int)|str (x:Str)|ug (b:Array UInt8)|flt (b:UInt64)|ref (a:Addr)|ty (n:String)
 deriving DecidableEq
def RelV:V->Value->Prop
 |.non,u=>u=adt
 |.bl b,u=>u=Value.bool b
 |.int i,u=>∃t,u=acd i t
 |.str x,u=>∃t,u=Value.str x t
 |.ug b,u=>∃t,u=Value.bytes b t
 |.flt b,u=>∃t,u=Value.float b t
 |.ref a,u=>u=abq a
 |.ty n,u=>u=ad8 n
abbrev Vals:List V->List Value->Prop:=Paired RelV
theorem Vals.length(r:Vals xs us):xs.length=us.length:=aeu r
theorem Vals.get:∀{xs:List V}{us:List Value}{i:Nat}{x:V},Vals xs us->xs[i]?=some x->∃u,us[i]?=some u/\RelV x u
 |_,_,_,_,.nil,e=>by simp at e
 |_,_,0,_,.cons r _,e=>by simp at e;subst e;exact⟨_,rfl,r⟩
 |_,_,i+1,x,.cons _ t,e=>by
  obtain⟨u,h1,h2⟩:=Vals.get (i:=i) (x:=x) t (by simpa using e)
  exact⟨u,by simpa using h1,h2⟩
theorem Vals.set(r:RelV x u):∀{xs:List V}{us:List Value}(i:Nat),Vals xs us->Vals (xs.set i x) (us.set i u)
 |_,_,_,.nil=>.nil
 |_,_,0,.cons _ t=>.cons r t
 |_,_,i+1,.cons q t=>.cons q (Vals.set r i t)
theorem Vals.append:∀{xs ys:List V}{us ws:List Value},Vals xs us->Vals ys ws->Vals (xs++ys) (us++ws)
 |_,_,_,_,.nil,s=>s
 |_,_,_,_,.cons r t,s=>.cons r (Vals.append t s)
theorem Vals.take:∀{xs:List V}{us:List Value}(n:Nat),Vals xs us->Vals (xs.take n) (us.take n)
 |_,_,0,_=>.nil
 |_,_,_+1,.nil=>.nil
 |_,_,n+1,.cons r t=>.cons r (Vals.take n t)
theorem Vals.drop:∀{xs:List V}{us:List Value}(n:Nat),Vals xs us->Vals (xs.drop n) (us.drop n)
 |_,_,0,r=>r
 |_,_,_+1,.nil=>.nil
 |_,_,n+1,.cons _ t=>Vals.drop n t
theorem Vals.none_of:∀{xs:List V}{us:List Value}{i:Nat},Vals xs us->xs[i]?=none->us[i]?=none:=λ{xs us i} r e=>by
 have h1:=r.length
 have h2:xs.length<=i:=List.getElem?_eq_none_iff.mp e
 exact List.getElem?_eq_none_iff.mpr (by omega)
noncomputable def iy:Option V->Option Value->Prop
 |some v,some u=>RelV v u
 |none,none=>True
 |_,_=>False
def KV{κ:Type}:List (κ×V)->List (κ×Value)->Prop:=Paired λ(p:κ×V) (q:κ×Value)=>p.1=q.1/\RelV p.2 q.2
def kV:Key->V
 |.inl i=>.int i
 |.inr x=>.str x
inductive HO where
 |lst (xs:List V)
 |tup (xs:List V)
 |dK (kvs:List (Key×V))|dT (kvs:List (List Key×V))
 |set (S:Int->Bool) (n:Nat)
 |ins (C dx:Addr) (fs:List (Str×V))
 |own (x:Addr)
 |xd (fs:List (Str×V))
 |met (f x:Addr)
 |rng (lo hi:Int)
 |uc (o:Obj) (u:HO)
 |KH (ps:Array Value)
 |ext (φ:Heap->Prop)
abbrev Hp:=Addr->Option HO
def upd(H:Hp)(a:Addr)(o:HO):Hp:=λb=>if b=a then some o else H b
theorem zM:upd H a o a=some o:=by unfold upd;grind
theorem zT(h:b≠a):upd H a o b=H b:=by unfold upd;rw[if_neg h]
theorem Sh{H:Hp}{a b:Addr}{o u:HO}(h:H a=some o)(h':H b=some u)(d:o≠u):a≠b:=by
 grind
theorem zQ{H:Hp}{a b:Addr}{o:HO}(h:H a=some o)(h':H b=none):a≠b:=by
 grind
section
variable(P:Program)(w:World)
def cu(H:Hp)(h:Heap)(a:Addr):HO->Prop
 |.lst e=>e.length<=sizeLine/\∃(b:List Value)(n:Nat),Vals e b/\h.get? a=some { cls:=.type "list",data:=.seq b.toArray n }
 |.tup e=>e.length<=sizeLine/\∃b:List Value,Vals e b/\IsTup h a b.toArray
 |.dK d=>d.length<=sizeLine/\(a==sysModules)=false/\∃l,KV d l/\h.DictOf (wL P w) a l
 |.dT d=>d.length<=sizeLine/\(a==sysModules)=false/\∃e:List (List Key×Addr×Value),
   Paired (λ(p:List Key×V) (q:List Key×Addr×Value)=>p.1=q.1/\H q.2.1=some (.tup (p.1.map kV))/\RelV p.2 q.2.2) d e /\
   ∃o k z,h.get? a=some o/\o.ExactDict/\o.data=.dict k z/\k.toList=e.map (entryOfKey (tupleKind (wL P w)))/\(e.map (·.1)).Nodup
 |.set S n=>h.SetOf (intKind P w) a S n
 |.ins C j i=>H j=some (.own a)/\i.length<=1000/\j≠a/\h.get? a=some (instObj C j) /\
   ∃g,h.Ns1 j g/\(∀f,iy (i.lookup f) (g f))/\afg g (i.map (·.1))
 |.own _=>∃o,h.get? a=some o
 |.xd i=>∃g,h.Ns1 a g/\∀f,iy (i.lookup f) (g f)
 |.rng lo s=>∃t u v,h.get? a=some { cls:=.type "range",data:=.fields #[.int lo t,.int s u,.int 1 v] }
 |.uc o u=>h.get? a=some o/\cu H h a u
 |.KH y=>h.get? a=some { cls:=.none,data:=.fields y }
 |.met f x=>h.get? a=some (methodObj (.ref f) (.ref x))
 |.ext φ=>φ h/\(∃o,h.get? a=some o)/\∀r m:Heap,φ r->(∀o,r.get? a=some o->m.get? a=some o)->φ m
def iI(H:Hp)(h:Heap):Prop:=∀a o,H a=some o->cu P w H h a o
end
section
variable{P:Program}{w:World}{H H':Hp}{h h':Heap}{a:Addr}{o:HO}
theorem cu.lt(x:cu P w H h a o):a<h.objs.size:=by
 cases o with
 |lst d=>obtain⟨_,_,_,_,e⟩:=x;exact lt_size e
 |tup d=>obtain⟨_,_,_,p⟩:=x;exact p.lt
 |dK b=>obtain⟨_,_,_,_,o,_,_,e,_⟩:=x;exact lt_size e
 |dT b=>obtain⟨_,_,_,_,o,_,_,e,_⟩:=x;exact lt_size e
 |set S n=>obtain⟨o,_,_,_,e,_⟩:=x;exact lt_size e
 |ins C dx c=>obtain⟨_,_,_,e,_⟩:=x;exact lt_size e
 |own y=>obtain⟨_,e⟩:=x;exact lt_size e
 |xd c=>obtain⟨_,⟨_,_,_,e,_⟩,_⟩:=x;exact lt_size e
 |rng lo hi=>obtain⟨_,_,_,e⟩:=x;exact lt_size e
 |uc ob u=>obtain⟨e,_⟩:=x;exact lt_size e
 |KH ps=>exact lt_size (x)
 |met f y=>exact lt_size (x)
 |ext φ=>obtain⟨_,⟨_,e⟩,_⟩:=x;exact lt_size e
theorem Paired.KJ{α β:Type}{F G:α->β->Prop}:∀{l₁:List α}{l₂:List β},Paired F l₁ l₂->(∀a b,F a b->G a b)->Paired G l₁ l₂
 |_,_,.nil,_=>.nil
 |_,_,.cons r t,f=>.cons (f _ _ r) (Paired.KJ t f)
theorem cu.stay(x:cu P w H h a o)(k:∀b u,(b=a\/H b=some (.own a))->h.get? b=some u->h'.get? b=some u)(ho:∀b,H b=some (.own a)->H' b=some (.own a))(ht:∀b xs,H b=some (.tup xs)->H' b=some (.tup xs)):cu P w H' h' a o:=by
 induction o with
 |lst xs=>obtain⟨z,its,n,r,e⟩:=x;exact⟨z,its,n,r,k _ _ (.inl rfl) e⟩
 |tup xs=>obtain⟨z,its,r,ob,e,c⟩:=x;exact⟨z,its,r,ob,k _ _ (.inl rfl) e,c⟩
 |dK kvs=>obtain⟨z,y,vs,r,ob,es,ep,e,c⟩:=x;exact⟨z,y,vs,r,ob,es,ep,k _ _ (.inl rfl) e,c⟩
 |dT kvs =>
  obtain⟨z,y,xs,r,ob,es,ep,e,c⟩:=x
  exact⟨z,y,xs,Paired.KJ r λp q z=>⟨z.1,ht _ _ z.2.1,z.2.2⟩,ob,es,ep,k _ _ (.inl rfl) e,c⟩
 |set S n=>obtain⟨ob,es,ep,t,e,c⟩:=x;exact⟨ob,es,ep,t,k _ _ (.inl rfl) e,c⟩
 |ins C dx fs =>
  obtain⟨d,z,ne,e,mA,⟨od,es,ep,e2,c⟩,r⟩:=x
  exact⟨ho _ d,z,ne,k _ _ (.inl rfl) e,mA,⟨od,es,ep,k _ _ (.inr d) e2,c⟩,r⟩
 |own y=>obtain⟨ob,e⟩:=x;exact⟨ob,k _ _ (.inl rfl) e⟩
 |xd fs=>obtain⟨mA,⟨od,es,ep,e,c⟩,r⟩:=x;exact⟨mA,⟨od,es,ep,k _ _ (.inl rfl) e,c⟩,r⟩
 |rng lo hi=>obtain⟨t,u,v,e⟩:=x;exact⟨t,u,v,k _ _ (.inl rfl) e⟩
 |uc ob u ih=>obtain⟨e,q⟩:=x;exact⟨k _ _ (.inl rfl) e,ih q⟩
 |KH ps =>
  have e:h.get? a=some { cls:=.none,data:=.fields ps }:=x
  show h'.get? a=some { cls:=.none,data:=.fields ps }
  exact k a _ (.inl rfl) e
 |met f y =>
  have e:h.get? a=some (methodObj (.ref f) (.ref y)):=x
  show h'.get? a=some (methodObj (.ref f) (.ref y))
  exact k a _ (.inl rfl) e
 |ext φ=>obtain⟨p,⟨o,e⟩,st⟩:=x;exact⟨st _ _ p λo q=>k _ _ (.inl rfl) q,⟨o,k _ _ (.inl rfl) e⟩,st⟩
theorem iI.lt(x:iI P w H h)(e:H a=some o):a<h.objs.size:=(x a o e).lt
theorem iI.fresh(x:iI P w H h)(e:h.objs.size<=a):H a=none:=by
 cases q:H a with
 |none=>rfl
 |some u=>exact absurd (aa2 (x.lt q) e) (ab3 _)
theorem iI.kept(x:iI P w H h)(k:∀b u,h.get? b=some u->h'.get? b=some u):iI P w H h':=λa o e =>
 (x a o e).stay (λb u _ q=>k b u q) (λ_ q=>q) λ_ _ q=>q
theorem iI.laid(x:iI P w H h)(k:∀b u,h.get? b=some u->h'.get? b=some u)(g:h.objs.size<=a)(new:cu P w (upd H a o) h' a o):iI P w (upd H a o) h':=λb u e=>by
 have f:=x.fresh g
 by_cases d:b=a
 ·subst d;rw[zM] at e;grind
 ·rw[zT d] at e
  exact(x b u e).stay (λc v _ q=>k c v q) (λc q=>by rw[zT (zQ q f)];exact q) λc xs q=>by rw[zT (zQ q f)];exact q
end
def Rd(H:Hp)(a:Addr)(u:HO):Prop:=H a=some u\/∃o,H a=some (.uc o u)
theorem Rd.ok(r:Rd H a u)(x:iI P w H h):cu P w H h a u:=by
 rcases r with r|⟨o,r⟩
 ·exact x a u r
 ·obtain⟨_,q⟩:=x a _ r
  exact q
noncomputable def Sq:Option HO->Prop
 |some (.lst _)=>True
 |some (.dK _)=>True
 |some (.dT _)=>True
 |some (.set _ _)=>True
 |some (.ins _ _ _)=>True
 |some (.ext _)=>True
 |_=>False
section
variable{P:Program}{w:World}{H:Hp}{h h':Heap}{x e:Addr}{o':HO}
theorem iI.write(m:iI P w H h)(g:Sq (H x))(he:e=x\/H e=some (.own x))(k:∀b u,b≠e->h.get? b=some u->h'.get? b=some u)(i:∃u,h'.get? e=some u)(new:cu P w (upd H x o') h' x o'):iI P w (upd H x o') h':=λb u q=>by
 have a:∀c y,H c=some (.own y)->c≠x:=λc y r z=>by subst z;rw[r] at g;exact g
 have d:∀c f,H c=some (.tup f)->c≠x:=λc f r z=>by subst z;rw[r] at g;exact g
 by_cases j:b=x
 ·subst j;rw[zM] at q;grind
 ·rw[zT j] at q
  by_cases hbe:b=e
  ·have l:H b=some (.own x):=by
    grind
   rw[q] at l;cases l
   obtain⟨v,hv⟩:=i
   exact⟨v,by grind⟩
  ·refine(m b u q).stay (λc v hc r=>k c v ?_ r) (λc r=>by rw[zT (a c b r)];exact r) λc f r=>by rw[zT (d c f r)];exact r
   grind
end
structure Un(fs ex:List Addr)(H H':Hp)(h h':Heap):Prop where
 keep:∀b o,h.get? b=some o->H b=none->b∉fs->b∉ex->h'.get? b=some o
 slot:∀b o,h.get? b=some o->H b=none->b∈fs->b∉ex->∃sl,h'.get? b=some { o with slots:=sl }
 free:∀b o,h.get? b=some o->H b=none->b∉ex->H' b=none
 there:∀b o,h.get? b=some o->b∉ex->∃o',h'.get? b=some o'
 tups:∀b xs,H b=some (.tup xs)->H' b=some (.tup xs)
 nQ:∀b o u,H b=some (.uc o u)->H' b=some (.uc o u)
 qg:∀b ps,H b=some (.KH ps)->∃more,H' b=some (.KH (ps++more))
section
variable{fs fs' ex ex':List Addr}{H H1 H2:Hp}{h h1 h2 h':Heap}{a x e:Addr}{o:HO}
theorem Un.any(u:Un fs ex H H1 h h1)(q:h.get? b=some ob)(n:H b=none)(d:b∉ex):∃f,h1.get? b=some { ob with slots:=f }:=by
 by_cases c:b∈fs
 ·exact u.slot b ob q n c d
 ·exact⟨ob.slots,u.keep b ob q n c d⟩
theorem Un.kept(k:∀b u,h.get? b=some u->h'.get? b=some u):Un fs ex H H h h' :=
 ⟨λb ob q _ _ _=>k b ob q,λb ob q _ _ _=>⟨ob.slots,k b ob q⟩,λ_ _ _ n _=>n,λb ob q _=>⟨ob,k b ob q⟩,λ_ _ q=>q,λ_ _ _ q=>q,λ_ ps q=>⟨#[],by rw[q];simp⟩⟩
theorem Un.refl:Un fs ex H H h h:=Un.kept λ_ _ q=>q
theorem Un.laid(k:∀b u,h.get? b=some u->h'.get? b=some u)(d:h.objs.size<=a)(c:H a=none):Un fs ex H (upd H a o) h h' where
 keep:=λb u q _ _ _=>k b u q
 slot:=λb u q _ _ _=>⟨u.slots,k b u q⟩
 free:=λb u q n _=>by rw[zT (aa4 (aa2 (lt_size q) d))];exact n
 there:=λb u q _=>⟨u,k b u q⟩
 tups:=λb f q=>by rw[zT (zQ q c)];exact q
 nQ:=λb u f q=>by rw[zT (zQ q c)];exact q
 qg:=λb ps q=>⟨#[],by rw[zT (zQ q c),q];simp⟩
theorem Un.write(d:Sq (H x))(he:e=x\/H e=some (.own x))(k:∀b u,b≠e->h.get? b=some u->h'.get? b=some u)(heo:∃u,h'.get? e=some u):Un fs ex H (upd H x o) h h':=by
 have g:∀b,H b=none->b≠x:=λb n z=>by subst z;rw[n] at d;exact d
 have f:∀b,H b=none->b≠e:=λb n z=>by
  grind
 have c:∀b u,H b=some u->¬Sq (some u)->b≠x:=λb u q nm z=>by grind
 refine⟨λb u q n _ _=>k b u (f b n) q,λb u q n _ _=>⟨u.slots,k b u (f b n) q⟩,λb u q n _=>by rw[zT (g b n)];exact n,λb u q _=>?_,
  λb i q=>by rw[zT (c b _ q λz=>z)];exact q,λb u i q=>by rw[zT (c b _ q λz=>z)];exact q,λb ps q=>⟨#[],by rw[zT (c b _ q λz=>z),q];simp⟩⟩
 grind
end
def Wg(h:Heap)(H:Hp):List Addr:=(abd h.objs.size).filter λa=>(H a).isSome
def qW(h:Heap)(H:Hp):Heap:=PySem.W.hideAll h (Wg h H)
theorem zSr(h:Heap)(H:Hp):(qW h H).objs.size=h.objs.size:=PySem.W.hideAll_size _ _
theorem zVu{h:Heap}(e:h.get? b=some o)(n:H b=none):(qW h H).get? b=some o :=
 PySem.W.hideAll_get _ e λa=>by
  have q:=(mem_filter.mp a).2
  grind
theorem EY(e:(qW h H).get? b=some o):h.get? b=some o/\H b=none:=by
 have c:=PySem.W.of_hideAll (Wg h H) e
 refine⟨c,?_⟩
 cases q:H b with
 |none=>rfl
 |some x =>
  have d:b∈Wg h H:=mem_filter.mpr ⟨mem_range.mpr (lt_size c),by simp[q]⟩
  have z:(qW h H).get? b=none:=PySem.W.hideAll_none (Wg h H) d
  grind
structure Mod(K:Frag)(mg:Str->Option Value)(base:Heap):Prop where
 QC:K.In base
 glob:base.Ns abl mg
 blt:∃mb,base.Ns builtinsNs mb/\∀x:Str,x ≠ "__name__"->mb x=bootBuiltins x
 nolimit:base.NoLimit
structure Cx where
 prog:Program
 w:World
 K:Frag
 mg:Str->Option Value
 base:Heap
 A:Around
 N:List Str
 s₀:Shared
 H₀:Hp
 env:Env
 outer:List Env
 stack:List Env
 ex:List Addr
 fn:Str->Bool
 calm:Bool
 pn:List (Addr×Obj)
 xe:Value->Shared->Prop
def frs(l:List Env):List Addr:=l.filterMap (·.frame)
abbrev Cx.fs(X:Cx):List Addr:=frs X.outer
def Ss(a:Scope)(x:Str):Prop:=a.names.lookup x=some .local\/a.names.lookup x=some .cell\/a.names.lookup x=some .free
def Loc(a:Scope)(x:Str):Prop:=a.names.lookup x=some .local\/a.names.lookup x=some .cell
def Look(env:Env)(h:Heap)(m:Str->Option Value)(x:Str)(u:Value):Prop :=
 (env.kindOf x=some .local/\m x=some u)\/((env.kindOf x=some .cell\/env.kindOf x=some .free)/\∃c,env.cells.lookup x=some c/\h.IsCell c (some u))
structure Cx.Ok(X:Cx):Prop where
 mod:Mod X.K X.mg X.base
 kind:X.env.scope.kind=.function
 glob:X.env.globals=abl
 blt:X.env.builtins=builtinsNs
 above:X.s₀.heap.objs.size<=X.env.locals
 inj:∀x y c,X.env.cells.lookup x=some c->X.env.cells.lookup y=some c->x=y
 has:∀x,(X.env.kindOf x=some .cell\/X.env.kindOf x=some .free)->∃c,X.env.cells.lookup x=some c
 cab:∀x c,X.fn x=true->X.env.cells.lookup x=some c->X.s₀.heap.objs.size<=c
 hd:X.calm=true->X.A.handled=none
 frames:X.A.frames=some X.stack
 stk:X.stack=X.outer\/(X.stack=X.env::X.outer/\X.env.frame=some X.env.locals)
 Wh:∀b∈X.ex,b≠X.env.locals/\∀x c,X.env.cells.lookup x=some c->c≠b
 bs:∀b o,X.base.get? b=some o->X.s₀.heap.get? b=some o/\X.H₀ b=none
 E_:X.base.objs.size<=X.s₀.heap.objs.size
 Br:∀b o,X.base.get? b=some o->b∉X.ex
 Bt:∀b∈X.ex,b∉X.fs
 m7:X.s₀.heap.FunFrames X.base X.outer
 KN:∀b∈X.fs,X.H₀ b=none
structure Inv(X:Cx)(pins:List (Addr×Obj))(σ:List (Option V))(H:Hp)(s:Shared):Prop where
 ok:X.Ok
 os:s.os=X.s₀.os
 bare:AllBare s.gens
 base:Un X.fs X.ex X.H₀ H X.s₀.heap s.heap
 loc:∃m,s.heap.Ns X.env.locals m/\∀(i:Nat)(x:Str)(v:V),X.N[i]?=some x->σ[i]?=some (some v)->Ss X.env.scope x->∃u,RelV v u/\Look X.env s.heap m x u
 cell:∀x c,X.env.cells.lookup x=some c->∃v,s.heap.IsCell c v
 free:H X.env.locals=none
 iJ:∀x c,X.env.cells.lookup x=some c->H c=none
 pin:∀p∈X.pn++pins,s.heap.get? p.1=some p.2/\H p.1=none/\p.1≠X.env.locals/\p.1∉X.fs/\∀v,p.2.data≠.cell v
 hok:iI X.prog X.w H s.heap
 len:σ.length=X.N.length
section
variable{X:Cx}{pins:List (Addr×Obj)}{σ:List (Option V)}{H H':Hp}{s:Shared}{h':Heap}
theorem Cx.Ok.Yv(c:X.Ok)(e:X.base.get? b=some o):b∉X.fs:=λa=>by
 have:=(c.m7.mem a).1
 grind
theorem Inv.bs(I:Inv X pins σ H s):∀b o,X.base.get? b=some o->s.heap.get? b=some o/\H b=none:=λb o e =>
 ⟨I.base.keep b o (I.ok.bs b o e).1 (I.ok.bs b o e).2 (I.ok.Yv e) (I.ok.Br b o e),I.base.free b o (I.ok.bs b o e).1 (I.ok.bs b o e).2 (I.ok.Br b o e)⟩
theorem Inv.bk(I:Inv X pins σ H s):∀b o,X.base.get? b=some o->s.heap.get? b=some o:=λb o e=>(I.bs b o e).1
theorem Inv.mod(I:Inv X pins σ H s):Mod X.K X.mg X.base:=I.ok.mod
theorem Inv.kh(I:Inv X pins σ H s):X.K.In s.heap:=I.ok.mod.QC.keeps I.bk
theorem Inv.nolimit(I:Inv X pins σ H s):s.heap.NoLimit:=I.ok.mod.nolimit.keeps I.bk
theorem Inv.lt(I:Inv X pins σ H s):X.env.locals<s.heap.objs.size:=let⟨_,a,_⟩:=I.loc;a.lt
theorem Inv.sz(I:Inv X pins σ H s):X.s₀.heap.objs.size<=s.heap.objs.size:=aa1 I.ok.above (acv I.lt)
theorem Inv.KQ(I:Inv X pins σ H s)(h:s.heap.objs.size<=a):a∉X.fs:=λc=>by
 obtain⟨_,o,b,_⟩:=I.ok.m7.mem c
 exact absurd (aa2 (lt_size b) (aa1 I.sz h)) (ab3 _)
theorem Inv.Yw(I:Inv X pins σ H s):∀x c,X.env.cells.lookup x=some c->c≠X.env.locals:=λx c e z=>by
 obtain⟨v,o,ho,hd⟩:=I.cell x c e
 obtain⟨m,⟨o',es,ep,ho',hd',_⟩,_⟩:=I.loc
 grind
theorem Inv.m7(I:Inv X pins σ H s):s.heap.FunFrames X.base X.outer:=by
 have a:∀(l:List Env),(∀b∈frs l,b∈X.fs)->X.s₀.heap.FunFrames X.base l->s.heap.FunFrames X.base l:=by
  intro l
  induction l with
  |nil=>intro _ _;trivial
  |cons env r ih =>
   intro g j
   obtain⟨n,⟨L,o,f,h,k,m⟩,i⟩:=j
   have d:=g L (by unfold frs;grind)
   obtain⟨sl,e⟩:=I.base.slot L o k (I.ok.KN L d) d λz=>I.ok.Bt L z d
   exact⟨n,⟨L,_,f,h,e,m⟩,ih (λb c=>g b (by unfold frs;rw[filterMap_cons,f];exact mem_cons_of_mem _ c)) i⟩
 exact a X.outer (λ_ c=>c) I.ok.m7
theorem Inv.stack(I:Inv X pins σ H s):s.heap.FunFrames X.base X.stack:=by
 rcases I.ok.stk with e|⟨e,c⟩
 ·rw[e];exact I.m7
 ·rw[e]
  obtain⟨m,b,_⟩:=I.loc
  refine .cons (by rw[I.ok.kind];decide) c b ?_ I.m7
  exact Heap.get?_none_of_le (aa1 I.ok.E_ I.ok.above)
theorem Inv.qX(I:Inv X pins σ H s):∀b∈frs X.stack,b∈X.env.locals::X.fs:=λb a=>by
 rcases I.ok.stk with e|⟨e,c⟩
 ·grind
 ·rw[e] at a
  unfold frs at a
  rw[filterMap_cons,c] at a
  exact a
theorem Inv.xq(I:Inv X pins σ H s):∀b∈frs X.stack,H b=none:=λb a=>by
 rcases mem_cons.mp (I.qX b a) with e|a
 ·rw[e];exact I.free
 ·obtain⟨_,o,c,_⟩:=I.ok.m7.mem a
  exact I.base.free b o c (I.ok.KN b a) λz=>I.ok.Bt b z a
theorem Inv.step{g':Array GenState}{t':Nat}{d':Drawn}{ch:List Addr}(I:Inv X pins σ H s)(hch:∀b∈ch,(b∈X.ex\/X.s₀.heap.objs.size<=b)/\b≠X.env.locals/\(∀x c,X.env.cells.lookup x=some c->c≠b)/\∀p∈X.pn++pins,p.1≠b)(keep:∀b o,b≠X.env.locals->b∉X.fs->b∉ch->s.heap.get? b=some o->H b=none->h'.get? b=some o)(slot:∀b o,b≠X.env.locals->b∈X.fs->b∉ch->s.heap.get? b=some o->H b=none->∃sl,h'.get? b=some { o with slots:=sl })(free:∀b o,b∉ch->s.heap.get? b=some o->H b=none->H' b=none)(there:∀b o,b∉ch->s.heap.get? b=some o->∃o',h'.get? b=some o')(tups:∀b xs,H b=some (.tup xs)->H' b=some (.tup xs))(nQ:∀b o u,H b=some (.uc o u)->H' b=some (.uc o u))(qg:∀b ps,H b=some (.KH ps)->∃more,H' b=some (.KH (ps++more)))(ns:∀m,s.heap.Ns X.env.locals m->h'.Ns X.env.locals m)(hok:iI X.prog X.w H' h')(hg:AllBare g') :
  Inv X pins σ H' { s with heap:=h',gens:=g',drawn:=d',toks:=t' }:=by
 have neL:∀b o,X.s₀.heap.get? b=some o->b≠X.env.locals:=λb o e=>aa4 (aa2 (lt_size e) I.ok.above)
 have Wi:∀b o,X.s₀.heap.get? b=some o->b∉X.ex->b∉ch:=λb o e hx hb=>by
  rcases(hch b hb).1 with z|z
  ·exact hx z
  ·exact absurd (aa2 (lt_size e) z) (ab3 _)
 have cellK:∀x c,X.env.cells.lookup x=some c->∀v,s.heap.IsCell c v->h'.IsCell c v:=λx c e v ⟨o,ho,hd⟩=>by
  have Sv:c∉ch:=λz=>(hch c z).2.2.1 x c e rfl
  by_cases hc:c∈X.fs
  ·obtain⟨sl,q⟩:=slot c o (I.Yw x c e) hc Sv ho (I.iJ x c e)
   exact⟨_,q,hd⟩
  ·exact⟨o,keep c o (I.Yw x c e) hc Sv ho (I.iJ x c e),hd⟩
 refine⟨I.ok,I.os,hg,⟨λb o e n hb hx=>?_,λb o e n hb hx=>?_,λb o e n hx=>?_,λb o e hx=>?_,λb xs e=>tups b xs (I.base.tups b xs e),λb o xs e=>nQ b o xs (I.base.nQ b o xs e),λb ps e=>?_⟩,?_,λx c e=>?_,?_,λx c e=>?_,λp hp=>?_,hok,I.len⟩
 ·exact keep b o (neL b o e) hb (Wi b o e hx) (I.base.keep b o e n hb hx) (I.base.free b o e n hx)
 ·obtain⟨sl,e1⟩:=I.base.slot b o e n hb hx
  obtain⟨sl',e2⟩:=slot b _ (neL b o e) hb (Wi b o e hx) e1 (I.base.free b o e n hx)
  exact⟨sl',e2⟩
 ·obtain⟨o',e1⟩:=I.base.there b o e hx
  exact free b o' (Wi b o e hx) e1 (I.base.free b o e n hx)
 ·obtain⟨o',e1⟩:=I.base.there b o e hx
  exact there b o' (Wi b o e hx) e1
 ·obtain⟨m1,e1⟩:=I.base.qg b ps e
  obtain⟨m2,e2⟩:=qg b _ e1
  exact⟨m1++m2,by rw[e2,Array.append_assoc]⟩
 ·obtain⟨m,hn,hl⟩:=I.loc
  refine⟨m,ns m hn,λi x v e1 e2 e3=>?_⟩
  obtain⟨u,r,l⟩:=hl i x v e1 e2 e3
  refine⟨u,r,?_⟩
  rcases l with l|⟨k,c,e,z⟩
  ·exact .inl l
  ·exact .inr ⟨k,c,e,cellK x c e _ z⟩
 ·obtain⟨v,z⟩:=I.cell x c e
  exact⟨v,cellK x c e v z⟩
 ·obtain⟨m,⟨o,_,_,ho,_⟩,_⟩:=I.loc
  exact free _ o (λz=>(hch _ z).2.1 rfl) ho I.free
 ·obtain⟨v,o,ho,hd⟩:=I.cell x c e
  exact free c o (λz=>(hch c z).2.2.1 x c e rfl) ho (I.iJ x c e)
 ·obtain⟨e,n,ne,nf,d⟩:=I.pin p hp
  have Sv:p.1∉ch:=λz=>(hch p.1 z).2.2.2 p hp rfl
  exact⟨keep p.1 p.2 ne nf Sv e n,free p.1 p.2 Sv e n,ne,nf,d⟩
theorem Inv.un(I:Inv X pins σ H s)(u:Un X.fs [] H H' s.heap h')(c:iI X.prog X.w H' h'):Inv X pins σ H' { s with heap:=h',toks:=t' }:=by
 obtain⟨m,⟨o,es,ep,h,r⟩,_⟩:=id I.loc
 obtain⟨sl,i⟩:=u.any h I.free (by simp)
 exact I.step (ch:=[]) (λ_ z=>nomatch z) (λb o _ f _ e n=>u.keep b o e n f (by simp)) (λb o _ f _ e n=>u.slot b o e n f (by simp)) (λb o _ e n=>u.free b o e n (by simp)) (λb o _ e=>u.there b o e (by simp)) u.tups u.nQ u.qg (λm' k=>by
  obtain⟨o',g,d,a,j⟩:=k
  rw[h] at a;cases a
  exact⟨_,g,d,i,j⟩) c I.bare
theorem Inv.call(I:Inv X pins σ H s)(u:Un (frs X.stack) ch H H' s.heap h')(i:iI X.prog X.w H' h')(y:AllBare g')(f:∀b∈ch,(b∈X.ex\/X.s₀.heap.objs.size<=b)/\b≠X.env.locals/\(∀x c,X.env.cells.lookup x=some c->c≠b)/\∀p∈X.pn++pins,p.1≠b) :
  Inv X pins σ H' { s with heap:=h',gens:=g',drawn:=d',toks:=t' }:=by
 obtain⟨m,⟨o,es,ep,l,r⟩,_⟩:=id I.loc
 obtain⟨sl,j⟩:=u.any l I.free λz=>(f _ z).2.1 rfl
 exact I.step f (λb o j q d e n=>u.keep b o e n (λz=>(mem_cons.mp (I.qX b z)).elim j q) d) (λb o _ _ d e n=>u.any e n d) (λb o d e n=>u.free b o e n d) (λb o d e=>u.there b o e d) u.tups u.nQ u.qg (λm' t=>by
  obtain⟨o',k,h,g,v⟩:=t
  rw[l] at g;cases g
  exact⟨_,k,h,j,v⟩) i y
theorem Inv.turned(I:Inv X pins σ H s)(k:∀b o,b≠a->s.heap.get? b=some o->h'.get? b=some o)(hn:H a=none)(i:a≠X.env.locals)(h1:a∈X.ex\/X.s₀.heap.objs.size<=a)(h2:∀x c,X.env.cells.lookup x=some c->c≠a)(h3:∀p∈X.pn++pins,p.1≠a):Inv X pins σ H { s with heap:=h',toks:=t' }:=by
 refine I.step (g':=s.gens) (d':=s.drawn) (ch:=[a]) (λb hb=>?_) (λb o _ _ d e _=>k b o (λz=>d (by simp[z])) e) (λb o _ _ d e _=>⟨o.slots,k b o (λz=>d (by simp[z])) e⟩) (λ_ _ _ _ n=>n)
  (λb o d e=>⟨o,k b o (λz=>d (by simp[z])) e⟩) (λ_ _ e=>e) (λ_ _ _ e=>e) (λb ps e=>⟨#[],by grind⟩) (λm f=>?_) (λb u e=>?_) I.bare
 ·grind
 ·obtain⟨o,j,h,g,r⟩:=f
  exact⟨o,j,h,k _ o (acy i) g,r⟩
 ·refine(I.hok b u e).stay (λc v d q=>k c v ?_ q) (λ_ q=>q) λ_ _ q=>q
  grind
theorem Inv.tok(I:Inv X pins σ H s)(t:Nat):Inv X pins σ H { s with toks:=t }:=I.un Un.refl I.hok
theorem Inv.kept(I:Inv X pins σ H s)(k:∀b u,s.heap.get? b=some u->h'.get? b=some u):Inv X pins σ H { s with heap:=h',toks:=t' }:=I.un (Un.kept k) (I.hok.kept k)
theorem Inv.laid(I:Inv X pins σ H s)(k:∀b u,s.heap.get? b=some u->h'.get? b=some u)(c:s.heap.objs.size<=a)(d:cu X.prog X.w (upd H a o) h' a o) :
  Inv X pins σ (upd H a o) { s with heap:=h',toks:=t' }:=I.un (Un.laid k c (I.hok.fresh c)) (I.hok.laid k c d)
theorem Inv.write(I:Inv X pins σ H s)(d:Sq (H x))(f:e=x\/H e=some (.own x))(k:∀b u,b≠e->s.heap.get? b=some u->h'.get? b=some u)(a:∃u,h'.get? e=some u)(c:cu X.prog X.w (upd H x o) h' x o):Inv X pins σ (upd H x o) { s with heap:=h',toks:=t' }:=I.un (Un.write d f k a) (I.hok.write d f k a c)
theorem Inv.kj(I:Inv X pins σ H s)(h:∀p∈Jg,s.heap.get? p.1=some p.2/\H p.1=none/\p.1≠X.env.locals/\p.1∉X.fs/\∀v,p.2.data≠.cell v):Inv X Jg σ H s :=
 ⟨I.ok,I.os,I.bare,I.base,I.loc,I.cell,I.free,I.iJ,λp a=>(mem_append.mp a).elim (λz=>I.pin p (mem_append_left _ z)) (h p),I.hok,I.len⟩
theorem zNf{N:List Str}(c:N.Nodup){i j:Nat}{x:Str}(a:N[i]?=some x)(b:N[j]?=some x):i=j:=by
 obtain⟨h1,e⟩:=aa8.mp a
 obtain⟨h2,d⟩:=aa8.mp b
 exact(getElem_inj c).mp (e.trans d.symm)
theorem zJl{Q:Unit->Shared->Prop}(I:Inv X pins σ H s)(hN:X.N.Nodup)(S:X.N[i]?=some x)(B:Loc X.env.scope x)(r:RelV v u)(h:∀s',Inv X pins (σ.set i (some v)) H s'->(∃a,SameBut a s.heap s'.heap/\(a=X.env.locals\/X.env.cells.lookup x=some a))->Q () s')(hf:X.fn x=true\/X.env.scope.names.lookup x=some .local:=by first|exact .inl rfl|exact .inr rfl|assumption):wpAny M A (storeName X.env x u) Q E s:=by
 obtain⟨m,hn,hl⟩:=id I.loc
 have U:(X.env.scope.kind==.class||(X.env.scope.kind==.module&&X.env.locals != X.env.globals))=false:=by rw[I.ok.kind];rfl
 have W:i<σ.length:=by rw[I.len];exact(aa8.mp S).1
 have O:=I.Yw
 have l:∀{a:Addr}{h':Heap},(∃o,s.heap.get? a=some o/\H a=none)->SameBut a s.heap h'->iI X.prog X.w H h':=λ{a h'} ha f b ob e=>by
  obtain⟨_,_,C⟩:=ha
  refine(I.hok b ob e).stay (λc w' t q=>(f.2 c ?_).trans q) (λ_ q=>q) λ_ _ q=>q
  rintro rfl
  rcases t with rfl|t
  ·rw[C] at e;cases e
  ·rw[C] at t;cases t
 rcases B with F|F
 ·refine wpAny_storeName_local F hn (λh' hn' f=>?_) U
  obtain⟨oL,_,_,hoL,_⟩:=id hn
  refine h _ ⟨I.ok,I.os,I.bare,⟨λb o e n L B=>?_,λb o e n L B=>?_,I.base.free,λb o e B=>?_,I.base.tups,I.base.nQ,I.base.qg⟩,⟨_,hn',λj y v' g D e3=>?_⟩,λy c e=>?_,I.free,I.iJ,λp hp=>?_,l ⟨oL,hoL,I.free⟩ f,by simpa using I.len⟩ ⟨_,f,.inl rfl⟩
  ·exact(f.2 b (aa4 (aa2 (lt_size e) I.ok.above))).trans (I.base.keep b o e n L B)
  ·obtain⟨sl,g⟩:=I.base.slot b o e n L B
   exact⟨sl,(f.2 b (aa4 (aa2 (lt_size e) I.ok.above))).trans g⟩
  ·obtain⟨o',g⟩:=I.base.there b o e B
   exact⟨o',(f.2 b (aa4 (aa2 (lt_size e) I.ok.above))).trans g⟩
  ·by_cases G:j=i
   ·subst G
    rw[S] at g;cases g
    rw[List.getElem?_set_self W] at D
    cases D
    exact⟨u,r,.inl ⟨F,by simp⟩⟩
   ·rw[List.getElem?_set_ne (acy G)] at D
    obtain⟨u',r',q⟩:=hl j y v' g D e3
    refine⟨u',r',?_⟩
    rcases q with⟨k,e⟩|⟨k,c,e,z⟩
    ·refine .inl ⟨k,?_⟩
     have:y≠x:=λe=>G (zNf hN g (e▸S))
     simp[this,e]
    ·exact .inr ⟨k,c,e,z.sameBut f (O y c e)⟩
  ·obtain⟨w',z⟩:=I.cell y c e
   exact⟨w',z.sameBut f (O y c e)⟩
  ·obtain⟨e,n,ne,nf,d⟩:=I.pin p hp
   exact⟨(f.2 p.1 ne).trans e,n,ne,nf,d⟩
 ·have J:X.fn x=true:=by
   rcases hf with z|z
   ·exact z
   ·rw[z] at F;cases F
  obtain⟨c,t⟩:=I.ok.has x (.inl F)
  obtain⟨w',z⟩:=I.cell x c t
  refine wpAny_storeName_cell I.ok.kind F t z (λh' P f=>?_)
  obtain⟨oc,T,Y⟩:=id z
  refine h { s with heap:=h' } ⟨I.ok,I.os,I.bare,⟨λb o e n L B=>?_,λb o e n L B=>?_,I.base.free,λb o e B=>?_,I.base.tups,I.base.nQ,I.base.qg⟩,⟨m,hn.sameBut f (acy (O x c t)),λj y v' g D e3=>?_⟩,λy Z e=>?_,I.free,I.iJ,λp hp=>?_,l ⟨oc,T,I.iJ x c t⟩ f,by simpa using I.len⟩ ⟨c,f,.inr t⟩
  ·exact(f.2 b (aa4 (aa2 (lt_size e) (I.ok.cab x c J t)))).trans (I.base.keep b o e n L B)
  ·obtain⟨sl,g⟩:=I.base.slot b o e n L B
   exact⟨sl,(f.2 b (aa4 (aa2 (lt_size e) (I.ok.cab x c J t)))).trans g⟩
  ·obtain⟨o',g⟩:=I.base.there b o e B
   exact⟨o',(f.2 b (aa4 (aa2 (lt_size e) (I.ok.cab x c J t)))).trans g⟩
  ·by_cases G:j=i
   ·subst G
    rw[S] at g;cases g
    rw[List.getElem?_set_self W] at D
    cases D
    exact⟨u,r,.inr ⟨.inl F,c,t,P⟩⟩
   ·rw[List.getElem?_set_ne (acy G)] at D
    obtain⟨u',r',q⟩:=hl j y v' g D e3
    refine⟨u',r',?_⟩
    rcases q with q|⟨k,Z,e,z'⟩
    ·exact .inl q
    ·refine .inr ⟨k,Z,e,z'.sameBut f ?_⟩
     rintro rfl
     exact G (zNf hN g (I.ok.inj _ _ _ e t▸S))
  ·by_cases R:Z=c
   ·subst R;exact⟨_,P⟩
   ·obtain⟨w2,z2⟩:=I.cell y Z e
    exact⟨w2,z2.sameBut f R⟩
  ·obtain⟨e,n,ne,nf,d⟩:=I.pin p hp
   refine⟨(f.2 p.1 ?_).trans e,n,ne,nf,d⟩
   intro q
   rw[q,T] at e
   have q':oc=p.2:=aa5 e
   exact d w' (by rw[<-q'];exact Y)
theorem Yx{Q:Unit->Shared->Prop}(I:Inv X pins σ H s)(a:X.N.Nodup)(c:X.N[i]?=some x)(d:Loc X.env.scope x)(r:RelV v u)(h:∀s',Inv X pins (σ.set i (some v)) H s'->Q () s')(e:X.fn x=true\/X.env.scope.names.lookup x=some .local:=by first|exact .inl rfl|exact .inr rfl|assumption):wpAny M A (storeName X.env x u) Q E s :=
 zJl I a c d r (λs' b _=>h s' b) e
theorem Inv.call'{s':Shared}(I:Inv X pins σ H s)(g:s'.os=s.os)(u:Un (frs X.stack) ch H H' s.heap s'.heap)(f:iI X.prog X.w H' s'.heap)(h:AllBare s'.gens)(d:∀b∈ch,(b∈X.ex\/X.s₀.heap.objs.size<=b)/\b≠X.env.locals/\(∀x c,X.env.cells.lookup x=some c->c≠b)/\∀p∈X.pn++pins,p.1≠b):Inv X pins σ H' s':=by
 obtain⟨h',g',d',t',o'⟩:=s'
 have e:=g
 subst e
 exact I.call u f h d
end
abbrev XK:=Value->Option Addr->Hp->Prop
abbrev St:=List (Option V)
abbrev VK:=V->Hp->Prop
abbrev TE:=St->Hp->VK->Prop
abbrev TT:=St->Hp->(Bool->Hp->Prop)->Prop
abbrev TA:=St->Hp->(List V->Hp->Prop)->Prop
structure Ends where
 nx:St->Hp->Prop
 rt:VK
 bk:St->Hp->Prop:=λ_ _=>False
 ct:St->Hp->Prop:=λ_ _=>False
abbrev TS:=Ends->St->Hp->Prop
def EP(X:Cx)(a:List (Addr×Obj))(σ:St)(Q:VK)(u:Value)(s':Shared):Prop:=∃v b,Inv X a σ b s'/\RelV v u/\Q v b
def TP(X:Cx)(a:List (Addr×Obj))(σ:St)(Q:Bool->Hp->Prop)(b:Bool)(s':Shared):Prop:=∃c,Inv X a σ c s'/\Q b c
def AP(X:Cx)(a:List (Addr×Obj))(σ:St)(Q:List V->Hp->Prop)(us:List Value)(s':Shared):Prop:=∃b c,Inv X a σ c s'/\Vals b us/\Q b c
def SP(X:Cx)(a:List (Addr×Obj))(D:Ends)(f:Flow)(s':Shared):Prop :=
 match f with
 |.next=>∃c b,Inv X a c b s'/\D.nx c b
 |.brk=>∃c b,Inv X a c b s'/\D.bk c b
 |.cont=>∃c b,Inv X a c b s'/\D.ct c b
 |.ret u=>∃v c b,Inv X a c b s'/\RelV v u/\D.rt v b
def PE(X:Cx)(e:Expr)(t:TE):Prop :=
 ∀(a:List (Addr×Obj))(s:Shared)(σ:St)(H:Hp)(Q:VK),Inv X a σ H s->t σ H Q->wpAny (model X.prog X.w) X.A (eval e X.env) (EP X a σ Q) X.xe s
def PT(X:Cx)(e:Expr)(t:TT):Prop :=
 ∀(a:List (Addr×Obj))(s:Shared)(σ:St)(H:Hp)(Q:Bool->Hp->Prop),Inv X a σ H s->t σ H Q->wpAny (model X.prog X.w) X.A (isTrue e X.env (eval e X.env)) (TP X a σ Q) X.xe s
def PW(X:Cx)(e:Expr)(t:TT):Prop :=
 ∀(c:Sem Value)(b:List (Addr×Obj))(s:Shared)(σ:St)(H:Hp)(Q:Bool->Hp->Prop),Inv X b σ H s->t σ H Q->wpAny (model X.prog X.w) X.A (isTrue e X.env c) (TP X b σ Q) X.xe s
theorem PW.pt(h:PW X e t):PT X e t:=h _
def PA(X:Cx)(es:List Expr)(t:TA):Prop :=
 ∀(b:Pos)(a:List (Addr×Obj))(s:Shared)(σ:St)(H:Hp)(Q:List V->Hp->Prop),Inv X a σ H s->t σ H Q->wpAny (model X.prog X.w) X.A (spliced (backTo b (starEach es X.env))) (AP X a σ Q) X.xe s
def PS(X:Cx)(st:Stmt)(t:TS):Prop :=
 ∀(a:List (Addr×Obj))(s:Shared)(σ:St)(H:Hp)(D:Ends),Inv X a σ H s->t D σ H->wpAny (model X.prog X.w) X.A (exec st X.env) (SP X a D) X.xe s
def nU(X:Cx)(st:List Stmt)(t:TS):Prop :=
 ∀(a:List (Addr×Obj))(s:Shared)(σ:St)(H:Hp)(D:Ends),Inv X a σ H s->t D σ H->wpAny (model X.prog X.w) X.A (execs st X.env) (SP X a D) X.xe s
theorem aQ{α:Type}{t:Sem α}{Q b:α->Shared->Prop}(h:wpAny M A t Q E s)(c:∀a s,Q a s->b a s):wpAny M A t b E s:=ab0 h c λ_ _ x=>x
section
variable{X:Cx}
def cP(i:Nat):TE:=λσ H Q=>∃v,σ[i]?=some (some v)/\Q v H
def tC(v:V):TE:=λ_ H Q=>Q v H
theorem KR(n:X.N[i]?=some x)(q:Ss X.env.scope x)(j:(x==("__debug__":Str))=false:=by decide)(g:(x==("__classdict__":Str))=false:=by decide):PE X (.Name x pos) (cP i):=by
 intro f s σ H Q I h
 obtain⟨v,e,h⟩:=h
 obtain⟨m,p,o⟩:=I.loc
 obtain⟨u,r,l⟩:=o i x v n e q
 have b:EP X f σ Q u s:=⟨v,H,I,r,h⟩
 rcases l with⟨d,t⟩|⟨d,c,k,a⟩
 ·exact wpAny_Name (wpAny_loadName_local I.ok.kind d p t b) j
 ·rcases d with d|d
  ·exact wpAny_Name (wpAny_loadName_cell I.ok.kind d k a b) j
  ·exact wpAny_Name (wpAny_loadName_free I.ok.kind d k a b g) j
theorem zK{i j pos}:PE X (.Constant (.int i) j pos) (tC (.int i)):=λ_ _ _ H _ I h=>wpAny_Constant_int ⟨.int i,H,I.tok _,⟨_,rfl⟩,h⟩
theorem Bd{b j pos}:PE X (.Constant (.bool b) j pos) (tC (.bl b)):=λ_ _ _ H _ I h=>Constant_bool ⟨.bl b,H,I,rfl,h⟩
theorem zW9{j pos}:PE X (.Constant .none j pos) (tC .non):=λ_ _ _ H _ I h=>ae6 ⟨.non,H,I,rfl,h⟩
theorem zS{x j pos}:PE X (.Constant (.str x) j pos) (tC (.str x)):=λ_ _ _ H _ I h=>Calls.Constant_str ⟨.str x,H,I.tok _,⟨_,rfl⟩,h⟩
def Gl(X:Cx)(x:Str):Prop:=X.env.kindOf x=some .globalImplicit
theorem Sw{Q:Value->Shared->Prop}(I:Inv X pins σ H s)(c:Gl X x)(b:X.mg x=some u)(h:Q u s)(d:(x==("__debug__":Str))=false:=by decide):wpAny (model X.prog X.w) X.A (eval (.Name x pos) X.env) Q E s :=
 Calls.Name_function_global I.ok.kind c (Calls.loadGlobal_global (by rw[I.ok.glob];exact I.mod.glob.keeps I.bk) b h) d
theorem DN{Q:Value->Shared->Prop}(I:Inv X pins σ H s)(f:Gl X x)(b:X.mg x=none)(c:bootBuiltins x=some u)(h:Q u s)(e:x ≠ "__name__":=by decide)(g:(x==("__debug__":Str))=false:=by decide):wpAny (model X.prog X.w) X.A (eval (.Name x pos) X.env) Q E s:=by
 obtain⟨mb,d,i⟩:=I.mod.blt
 exact Calls.Name_function_global I.ok.kind f (Calls.loadGlobal_builtin (by rw[I.ok.glob];exact I.mod.glob.keeps I.bk) b (by rw[I.ok.blt];exact d.keeps I.bk) ((i x e).trans c) h) g
theorem vA(c:Gl X x)(b:X.mg x=some u)(r:RelV v u)(d:(x==("__debug__":Str))=false:=by decide):PE X (.Name x pos) (tC v) :=
 λ_ _ _ H _ I h=>Sw I c b ⟨v,H,I,r,h⟩ d
theorem QD(c:Gl X x)(a:X.mg x=none)(e:bootBuiltins x=some u)(r:RelV v u)(d:x ≠ "__name__":=by decide)(b:(x==("__debug__":Str))=false:=by decide):PE X (.Name x pos) (tC v) :=
 λ_ _ _ H _ I h=>DN I c a e ⟨v,H,I,r,h⟩ d b
variable{a b:Expr}{ta tb:TE}{pos:Pos}
def PC(X:Cx)(op:CmpOp)(a b:Expr)(t:TE):Prop :=
 ∀(c:List (Addr×Obj))(s:Shared)(σ:St)(H:Hp)(Q:VK),Inv X c σ H s->t σ H Q ->
  wpAny (model X.prog X.w) X.A (eval a X.env) (λv e=>wpAny (model X.prog X.w) X.A (eval b X.env) (λu d=>wpAny (model X.prog X.w) X.A (compareOp op v u) (EP X c σ Q) X.xe d) X.xe e) X.xe s
theorem zVg(b:Expr)(h:op≠.In)(h2:op≠.NotIn):behindInMarks op b=false:=by
 have c:(op==CmpOp.In)=false:=by grind
 have d:(op==CmpOp.NotIn)=false:=by grind
 cases b<;>simp[behindInMarks,c,d]
def SJ(ta:TE):TE:=λσ H Q=>ta σ H λx c=>Q (.bl (decide (x=.non))) c
def Jh(ta:TE):TE:=λσ H Q=>ta σ H λx c=>Q (.bl (!decide (x=.non))) c
theorem RelV.sy(r:RelV x v):(v==adt)=decide (x=.non):=by
 cases x with
 |non=>cases r;rfl
 |bl _=>cases r;rfl
 |int _=>obtain⟨t,rfl⟩:=r;rfl
 |str _=>obtain⟨t,rfl⟩:=r;rfl
 |ug _=>obtain⟨t,rfl⟩:=r;rfl
 |flt _=>obtain⟨t,rfl⟩:=r;rfl
 |ref _=>cases r;rfl
 |ty _=>cases r;rfl
theorem Wj{j c}(k:PE X a ta):PC X .Is a (.Constant .none j c) (SJ ta):=by
 intro d s σ H Q I h
 refine aQ (k d s σ H _ I h) ?_
 rintro v s1 ⟨x,g,f,e,i⟩
 exact ae6 (is_none_gen ⟨.bl _,g,f,by rw[e.sy];rfl,i⟩)
theorem Fb{j c}(k:PE X a ta):PC X .IsNot a (.Constant .none j c) (Jh ta):=by
 intro d s σ H Q I h
 refine aQ (k d s σ H _ I h) ?_
 rintro v s1 ⟨x,g,f,e,i⟩
 exact ae6 (isnot_none_gen ⟨.bl _,g,f,by rw[e.sy];rfl,i⟩)
def tB(t:TE):TT:=λσ H Q=>t σ H λx d=>∃c,x=.bl c/\Q c d
theorem Ji(h:PC X op a b t)(f:behindInMarks op b=false:=by first|exact zVg _ (by decide) (by decide)|rfl):PT X (.Compare a [op] [b] pos) (tB t):=by
 intro e s σ H Q I j
 refine wpAny_isTrue_Compare1 (aQ (h e s σ H _ I j) λv s1 f=>aQ f λu s2 g=>aQ g ?_) f
 rintro c s3 ⟨x,k,i,m,l⟩
 obtain⟨d,rfl,q⟩:=l
 cases m
 exact ab6 ⟨k,i,q⟩
theorem xO(h:PE X e t)(m:∀c,isTrue e X.env c=(do let v <-c;standAt e.pos;holding [v] (truthy v)):=by intro _;rfl):PT X e (tB t):=by
 intro f s σ H Q I g
 refine isTrue_plain (aQ (h f s σ H _ I g) ?_) (m _)
 rintro v s1 ⟨x,j,i,k,l⟩
 obtain⟨d,rfl,q⟩:=l
 cases k
 exact ab6 ⟨j,i,q⟩
variable{tA Wk:TT}{rest:List Expr}
def SM(t u:TT):TT:=λσ H Q=>t σ H λc d=>if c=true then u σ d Q else Q false d
def Yy(t u:TT):TT:=λσ H Q=>t σ H λc d=>if c=true then Q true d else u σ d Q
def SN(t:TT):TT:=λσ H Q=>t σ H λc d=>Q (!c) d
theorem pw_and1(f:PT X a tA):PW X (.BoolOp .And [a] pos) tA:=by
 intro wh d s σ H Q I h
 refine isTrue_and (aQ (f d s σ H Q I h) λc s1 e=>?_)
 cases c with
 |true=>exact isTrue_and_nil e
 |false=>exact e
theorem pw_or1(f:PT X a tA):PW X (.BoolOp .Or [a] pos) tA:=by
 intro wh d s σ H Q I h
 refine isTrue_or (aQ (f d s σ H Q I h) λc s1 e=>?_)
 cases c with
 |false=>exact isTrue_or_nil e
 |true=>exact e
theorem pw_and(j:PT X a tA)(l:PW X (.BoolOp .And (b::rest) pos) Wk):PW X (.BoolOp .And (a::b::rest) pos) (SM tA Wk):=by
 intro i d s σ H Q I h
 refine isTrue_and (aQ (j d s σ H _ I h) ?_)
 rintro c k ⟨e,f,g⟩
 cases c with
 |true=>exact l i d k σ e Q f g
 |false=>exact⟨e,f,g⟩
theorem pw_or(j:PT X a tA)(l:PW X (.BoolOp .Or (b::rest) pos) Wk):PW X (.BoolOp .Or (a::b::rest) pos) (Yy tA Wk):=by
 intro i d s σ H Q I h
 refine isTrue_or (aQ (j d s σ H _ I h) ?_)
 rintro c k ⟨e,f,g⟩
 cases c with
 |true=>exact⟨e,f,g⟩
 |false=>exact l i d k σ e Q f g
theorem KY(f:PT X a tA):PT X (.UnaryOp .Not a pos) (SN tA):=by
 intro d s σ H Q I h
 exact isTrue_not (f d s σ H (λc e=>Q (!c) e) I h)
def Jj(ta tb:TE):TE:=λσ H Q=>ta σ H λx d=>∃c,x=.bl c/\if c=true then tb σ d Q else Q (.bl false) d
def SQ(ta tb:TE):TE:=λσ H Q=>ta σ H λx d=>∃c,x=.bl c/\if c=true then Q (.bl true) d else tb σ d Q
def Jk(ta:TE):TE:=λσ H Q=>ta σ H λx d=>∃c,x=.bl c/\Q (.bl (!c)) d
theorem SX{op}(h:PE X a t):PE X (.BoolOp op [a] pos) t:=λc s σ H Q I d=>BoolOp_one (h c s σ H Q I d)
theorem QF(k:PE X a ta)(i:PE X (.BoolOp .And (b::rest) pos) tb):PE X (.BoolOp .And (a::b::rest) pos) (Jj ta tb):=by
 intro d s σ H Q I h
 refine BoolOp_and (aQ (k d s σ H _ I h) ?_)
 rintro v l ⟨x,f,g,j,e⟩
 obtain⟨c,rfl,e⟩:=e
 cases j
 refine ab6 ?_
 cases c with
 |true=>exact i d l σ f Q g e
 |false=>exact⟨.bl false,f,g,rfl,e⟩
theorem S5(k:PE X a ta)(i:PE X (.BoolOp .Or (b::rest) pos) tb):PE X (.BoolOp .Or (a::b::rest) pos) (SQ ta tb):=by
 intro d s σ H Q I h
 refine BoolOp_or (aQ (k d s σ H _ I h) ?_)
 rintro v l ⟨x,f,g,j,e⟩
 obtain⟨c,rfl,e⟩:=e
 cases j
 refine ab6 ?_
 cases c with
 |false=>exact i d l σ f Q g e
 |true=>exact⟨.bl true,f,g,rfl,e⟩
theorem KZ(j:PE X a ta):PE X (.UnaryOp .Not a pos) (Jk ta):=by
 intro d s σ H Q I h
 refine UnaryOp_ (aQ (j d s σ H _ I h) ?_)
 rintro v s1 ⟨x,g,i,f,e⟩
 obtain⟨c,rfl,e⟩:=e
 cases f
 exact not_of (ab6 ⟨.bl (!c),g,i,rfl,e⟩)
def tIf(t:TT)(ta tb:TE):TE:=λσ H Q=>t σ H λc d=>if c=true then ta σ d Q else tb σ d Q
theorem zM8(m:PT X c tA)(l:PE X a ta)(k:PE X b tb):PE X (.IfExp c a b pos) (tIf tA ta tb):=by
 intro e s σ H Q I h
 refine wpAny_IfExp (aQ (m e s σ H _ I h) ?_)
 rintro d i ⟨j,g,f⟩
 cases d with
 |true=>exact l e i σ j Q g f
 |false=>exact k e i σ j Q g f
end
def aZ(K:Frag)(H:Hp)(a:Addr)(xs:List V):Prop :=
 Rd H a (.lst xs) \/
  ∃(o:Obj)(b:Array Value)(n:Nat),K.lookup a=some o/\o.cls=.type "list" /\ o.dict=none/\o.data=.seq b n/\b.size<=sizeLine/\Vals xs b.toList
def cF(K:Frag)(H:Hp)(a:Addr)(xs:List V):Prop :=
 Rd H a (.tup xs) \/
  ∃(o:Obj)(b:Array Value)(n:Nat),K.lookup a=some o/\o.cls=.type "tuple" /\ o.data=.seq b n/\b.size<=sizeLine/\Vals xs b.toList
def Yz:Value->Option V
 |.none=>some .non
 |.bool b=>some (.bl b)
 |.int i _=>some (.int i)
 |.str x _=>some (.str x)
 |.bytes b _=>some (.ug b)
 |.float b _=>some (.flt b)
 |.ref a=>some (.ref a)
 |.type n=>some (.ty n)
 |_=>none
theorem RelV.abs(r:RelV x u):Yz u=some x:=by
 cases x with
 |non=>cases r;rfl
 |bl _=>cases r;rfl
 |int _=>obtain⟨t,rfl⟩:=r;rfl
 |str _=>obtain⟨t,rfl⟩:=r;rfl
 |ug _=>obtain⟨t,rfl⟩:=r;rfl
 |flt _=>obtain⟨t,rfl⟩:=r;rfl
 |ref _=>cases r;rfl
 |ty _=>cases r;rfl
theorem RelV.inj(r:RelV x u)(q:RelV y u):x=y:=aa5 (r.abs.symm.trans q.abs)
theorem Vals.inj:∀{xs ys:List V}{us:List Value},Vals xs us->Vals ys us->xs=ys
 |_,_,_,.nil,.nil=>rfl
 |_,_,_,.cons r t,.cons a b=>by rw[r.inj a,Vals.inj t b]
section
variable{X:Cx}{pins:List (Addr×Obj)}{σ:St}{H:Hp}{s:Shared}{a:Addr}{xs ys:List V}
theorem aZ.of{K:Frag}(h:H a=some (.lst xs)):aZ K H a xs:=.inl (.inl h)
theorem cF.of{K:Frag}(h:H a=some (.tup xs)):cF K H a xs:=.inl (.inl h)
theorem Inv.list(I:Inv X pins σ H s)(h:aZ X.K H a xs):∃b:List Value,Vals xs b/\PlainL s.heap a b.toArray/\xs.length<=sizeLine:=by
 rcases h with h|⟨o,b,n,d,f,c,hs,hz,r⟩
 ·obtain⟨z,b,n,r,e⟩:=h.ok I.hok
  exact⟨b,r,⟨_,n,e,rfl,rfl,rfl⟩,z⟩
 ·refine⟨b.toList,r,⟨o,n,I.kh a o d,f,c,by simp_all⟩,?_⟩
  have e:=r.length
  grind
theorem Inv.tuple(I:Inv X pins σ H s)(h:cF X.K H a xs):∃b:List Value,Vals xs b/\IsTup s.heap a b.toArray/\xs.length<=sizeLine:=by
 rcases h with h|⟨o,b,n,d,c,hs,hz,r⟩
 ·obtain⟨z,b,r,p⟩:=h.ok I.hok
  grind
 ·refine⟨b.toList,r,⟨o,I.kh a o d,c,n,by simp_all⟩,?_⟩
  have e:=r.length
  grind
theorem Inv.nY(I:Inv X pins σ H s)(h:aZ X.K H a xs)(h':aZ X.K H a ys):xs=ys:=by
 obtain⟨c,r,⟨o,n,e,_,_,d⟩,_⟩:=I.list h
 obtain⟨b,f,⟨o',n',e',_,_,d'⟩,_⟩:=I.list h'
 have:c=b:=by grind
 subst this
 exact r.inj f
theorem Inv.zf(I:Inv X pins σ H s)(h:cF X.K H a xs)(h':cF X.K H a ys):xs=ys:=by
 obtain⟨c,r,⟨o,e,_,n,d⟩,_⟩:=I.tuple h
 obtain⟨b,f,⟨o',e',_,n',d'⟩,_⟩:=I.tuple h'
 have:c=b:=by grind
 subst this
 exact r.inj f
end
abbrev Cx.wish(X:Cx)(E:Value->Shared->Prop):Cx:={ X with xe:=E }
abbrev Cx.Fd(X:Cx):Cx:=X.wish λ_ _=>False
theorem Cx.Ok.wish{X:Cx}(a:X.Ok)(E:Value->Shared->Prop):(X.wish E).Ok :=
 ⟨a.mod,a.kind,a.glob,a.blt,a.above,a.inj,a.has,a.cab,a.hd,a.frames,a.stk,a.Wh,a.bs,a.E_,a.Br,a.Bt,a.m7,a.KN⟩
theorem Cx.Ok.iK{X:Cx}(a:(X.wish E).Ok):X.Ok :=
 ⟨a.mod,a.kind,a.glob,a.blt,a.above,a.inj,a.has,a.cab,a.hd,a.frames,a.stk,a.Wh,a.bs,a.E_,a.Br,a.Bt,a.m7,a.KN⟩
section
variable{X:Cx}{pins:List (Addr×Obj)}{σ:St}{H:Hp}{s:Shared}{E:Value->Shared->Prop}
theorem Inv.wish(I:Inv X pins σ H s)(E:Value->Shared->Prop):Inv (X.wish E) pins σ H s:=⟨I.ok.wish E,I.os,I.bare,I.base,I.loc,I.cell,I.free,I.iJ,I.pin,I.hok,I.len⟩
theorem Inv.iK(I:Inv (X.wish E) pins σ H s):Inv X pins σ H s:=⟨I.ok.iK,I.os,I.bare,I.base,I.loc,I.cell,I.free,I.iJ,I.pin,I.hok,I.len⟩
theorem SP.iK(h:SP (X.wish E) pins D f s'):SP X pins D f s':=by
 cases f with
 |next=>obtain⟨a,b,I,q⟩:=h;exact⟨a,b,I.iK,q⟩
 |brk=>obtain⟨a,b,I,q⟩:=h;exact⟨a,b,I.iK,q⟩
 |cont=>obtain⟨a,b,I,q⟩:=h;exact⟨a,b,I.iK,q⟩
 |ret u=>obtain⟨v,a,b,I,r,q⟩:=h;exact⟨v,a,b,I.iK,r,q⟩
theorem nU.Fd{st:List Stmt}{t:TS}(h:nU X.Fd st t):nU X st t:=λpins s σ H D I a =>
 ab0 (h pins s σ H D (I.wish _) a) (λ_ _ q=>q.iK) λ_ _ z=>aby z
end
section
variable{X:Cx}{st:Stmt}{rest:List Stmt}{t u:TS}{e:Expr}{te:TE}{pos:Pos}
def K1:TS:=λD σ H=>D.nx σ H
def jF(t u:TS):TS:=λD σ H=>t { D with nx:=u D } σ H
theorem zG:nU X [] K1:=λ_ _ σ H _ I h=>aeg ⟨σ,H,I,h⟩
theorem zB(d:PS X st t)(h2:nU X rest u):nU X (st::rest) (jF t u):=by
 intro a s σ H D I h
 refine wpAny_execs_cons (aQ (d a s σ H { D with nx:=u D } I h) λf i q=>?_)
 cases f with
 |next =>
  obtain⟨g,b,c,q⟩:=q
  exact h2 a i g b D c q
 |ret v=>exact q
 |brk=>exact q
 |cont=>exact q
theorem yG(b:PS X st t):nU X [st] t:=by
 intro a s σ H D I h
 refine wpAny_execs_cons (aQ (b a s σ H D I h) λf s1 q=>?_)
 cases f with
 |next=>exact aeg q
 |ret v=>exact q
 |brk=>exact q
 |cont=>exact q
theorem Inv.quiet(I:Inv X pins σ H s):interactive X.env=false:=by simp[interactive,I.ok.kind]
def QG(te:TE):TS:=λD σ H=>te σ H λ_ a=>D.nx σ a
theorem yP(f:PE X e te)(g:swapsWith e none pos.line X.env=pure false:=by rfl):PS X (.Expr e pos) (QG te):=by
 intro a s σ H D I h
 exact wpAny_Expr_any (aQ (f a s σ H _ I h) (by rintro v s1 ⟨x,c,b,r1,d⟩;exact⟨σ,c,b,d⟩)) I.quiet g
def uh(te:TE):TS:=λD σ H=>te σ H D.rt
theorem zN(g:PE X e te):PS X (.Return (some e) pos) (uh te):=by
 intro a s σ H D I h
 exact wpAny_Return_some (aQ (g a s σ H _ I h) (by rintro v s1 ⟨x,d,c,b,f⟩;exact⟨x,σ,d,c,b,f⟩))
def zj(c:TT)(t u:TS):TS:=λD σ H=>c σ H λb a=>if b=true then t D σ a else u D σ a
theorem yQ(n:PT X c o)(m:nU X a t)(l:nU X b u):PS X (.If c a b pos) (zj o t u):=by
 intro f s σ H D I h
 refine wpAny_If (aQ (n f s σ H _ I h) ?_)
 rintro d k ⟨g,i,j⟩
 cases d with
 |true=>exact m f k σ g D i j
 |false=>exact l f k σ g D i j
def zWw:TS:=λ_ _ _=>False
theorem QH:nU X sts zWw:=λ_ _ _ _ _ _ h=>h.elim
end
abbrev TG:=V->St->Hp->(St->Hp->Prop)->Prop
abbrev QJ:=List V->St->Hp->(St->Hp->Prop)->Prop
def PG(X:Cx)(a:Expr)(t:TG):Prop :=
 ∀(b:List (Addr×Obj))(s:Shared)(σ:St)(H:Hp)(v:V)(u:Value)(Q:St->Hp->Prop),Inv X b σ H s->RelV v u->t v σ H Q ->
  wpAny (model X.prog X.w) X.A (assign a X.env u) (λ_ e=>∃d c,Inv X b d c e/\Q d c) X.xe s
def DP(X:Cx)(ts:List Expr)(t:QJ):Prop :=
 ∀(a:List (Addr×Obj))(s:Shared)(σ:St)(H:Hp)(c:List V)(d:List Value)(Q:St->Hp->Prop),Inv X a σ H s->Vals c d->t c σ H Q ->
  wpAny (model X.prog X.w) X.A (assignInOrder ((assignEach ts X.env).map (·.2)) d) (λ_ f=>∃e b,Inv X a e b f/\Q e b) X.xe s
abbrev K3:=V->V->V->Hp->(Hp->Prop)->Prop
def K4(X:Cx)(t:K3):Prop :=
 ∀(a:List (Addr×Obj))(s:Shared)(σ:St)(H:Hp)(o i v:V)(b d u:Value)(Q:Hp->Prop),Inv X a σ H s->RelV o b->RelV i d->RelV v u->t o i v H Q ->
  wpAny (model X.prog X.w) X.A (setItem b d u) (λ_ e=>∃c,Inv X a σ c e/\Q c) X.xe s
abbrev Wm:=V->V->Hp->VK->Prop
def Wn(X:Cx)(op:Operator)(t:Wm):Prop :=
 ∀(a:List (Addr×Obj))(s:Shared)(σ:St)(H:Hp)(x y:V)(v u:Value)(Q:VK),Inv X a σ H s->RelV x v->RelV y u->t x y H Q ->
  wpAny (model X.prog X.w) X.A (inplaceOp op v u) (EP X a σ Q) X.xe s
section
variable{X:Cx}{pos:Pos}
def qd(i:Nat):TG:=λv σ H Q=>Q (σ.set i (some v)) H
theorem yE(a:X.N.Nodup)(c:X.N[i]?=some x)(d:Loc X.env.scope x)(e:X.fn x=true\/X.env.scope.names.lookup x=some .local:=by first|exact .inl rfl|exact .inr rfl|assumption):PG X (.Name x pos) (qd i):=by
 intro pins s σ H v u Q I r h
 exact wpAny_assign_Name (Yx I a c d r (λs' b=>⟨_,H,b,h⟩) e)
def K5:QJ:=λa σ H Q=>a=[]/\Q σ H
def QK(t:TG)(u:QJ):QJ:=λa σ H Q=>∃v r,a=v::r/\t v σ H λc b=>u r c b Q
theorem Bu:DP X [] K5:=by
 intro pins s σ H vs us Q I r h
 obtain⟨e,h⟩:=h
 exact assignInOrder_nil ⟨σ,H,I,h⟩
theorem yS(g:PG X e t)(h2:DP X es u)(l:(assignEach (e::es) X.env).map (·.2)=assign e X.env::(assignEach es X.env).map (·.2):=by rfl):DP X (e::es) (QK t u):=by
 intro a s σ H vs us Q I r h
 obtain⟨v,vr,d,h⟩:=h
 subst d
 cases r with
 |cons r c =>
  rw[l]
  refine assignInOrder_cons (aQ (g a s σ H _ _ _ I r h) ?_)
  rintro _ b ⟨i,j,f,k⟩
  exact h2 a b i j _ _ Q f c k
def Fe(K:Frag)(n:Nat)(t:QJ):TG:=λv σ H Q=>∃a c,v=.ref a/\cF K H a c/\c.length=n/\t c σ H Q
theorem Fg(x:X.calm=true)(h:DP X es t)(j:(assignEach es X.env).length=n:=by rfl)(f:(assignEach es X.env).findIdx? (·.1)=none:=by rfl):PG X (.Tuple es k pos) (Fe X.K n t):=by
 intro c s σ H v u Q I r d
 obtain⟨a,p,i,g,q,d⟩:=d
 subst i
 cases r
 obtain⟨its,y,l,hz⟩:=I.tuple g
 refine assign_Tuple_tuple (I.ok.hd x) l (by simp[j,<-q,y.length]) f λh' w=>?_
 have m:=I.kept (t':=s.toks) λb o e=>w b o (aa4 (lt_size e)) e
 exact h c _ σ H p _ Q m (by grind) d
def S6(d a:TE)(t:K3):TG:=λv σ H Q=>d σ H λo b=>a σ b λi e=>t o i v e λc=>Q σ c
theorem QL(f:PE X o E)(A:PE X i p)(l:K4 X t)(ha:∀v,assign (.Subscript o i pos) X.env v=(do
   let b <-holding [v] (eval o X.env)
   let c <-holding [v,b] (eval i X.env)
   standAt pos
   holding [v,b,c] (setItem b c v)
   release [v,b,c] []):=by intro _;rfl):PG X (.Subscript o i pos) (S6 E p t):=by
 intro a s σ H v u Q I r h
 refine aaw (abp (aQ (f a s σ H _ I h) ?_))
 rintro b n ⟨x,g,z,q,j⟩
 refine aaw (abp (aQ (A a n σ g _ z j) ?_))
 rintro c B ⟨y,d,e,D,m⟩
 refine aaw (ae8 (aaw (abp (aQ (l a B σ d x y v b c u _ e q D r m) ?_))))
 rintro _ s3 ⟨k,w,C⟩
 exact wpAny_release ⟨σ,k,w,C⟩
def lU(te:TE)(g:TG):TS:=λD σ H=>te σ H λx a=>g x σ a D.nx
theorem Jl(m:PE X e te)(o:PG X b g)(n:swapsWithSole [b] e pos.line X.env=pure false:=by rfl)(c:swappedStores [b] e X.env=pure none:=by rfl)(i:(assignEach [b] X.env).map (·.2)=[assign b X.env]:=by rfl):PS X (.Assign [b] e pos) (lU te g):=by
 intro a s σ H D I h
 refine wpAny_Assign_stores (aQ (m a s σ H _ I h) ?_) n c
 rintro v j ⟨x,k,f,d,l⟩
 rw[i]
 exact aQ (o a j σ k x v _ f d l) λ_ s2 q=>q
theorem Fi(c:X.N.Nodup)(f:X.N[i]?=some x)(j:Loc X.env.scope x)(m:PE X e te)(o:swapsWith e (some (.Name x b)) pos.line X.env=pure false:=by rfl)(n:X.fn x=true\/X.env.scope.names.lookup x=some .local:=by first|exact .inl rfl|exact .inr rfl|assumption) :
  PS X (.Assign [.Name x b] e pos) (lU te (qd i)):=by
 intro a s σ H D I h
 refine wpAny_Assign_Name (aQ (m a s σ H _ I h) ?_) o
 rintro v s1 ⟨y,k,d,p,l⟩
 exact Yx d c f j p (λs2 g=>⟨_,k,g,l⟩) n
def S7(i:Nat)(te:TE)(a:Wm):TS:=λD σ H=>∃x,σ[i]?=some (some x)/\te σ H λy b=>a x y b λz c=>D.nx (σ.set i (some z)) c
theorem zW8(Z:X.N.Nodup)(j:X.N[i]?=some x)(f:Loc X.env.scope x)(T:PE X e te)(Q:Wn X op F)(S:X.fn x=true\/X.env.scope.names.lookup x=some .local:=by first|exact .inl rfl|exact .inr rfl|assumption) :
  PS X (.AugAssign (.Name x pos') op e pos) (S7 i te F):=by
 intro a s σ H D I h
 obtain⟨v,P,h⟩:=h
 obtain⟨m,J,R⟩:=I.loc
 have g:Ss X.env.scope x:=by rcases f with k|k;exact .inl k;exact .inr (.inl k)
 obtain⟨u,r,l⟩:=R i x v j P g
 refine wpAny_AugAssign_Name ?_
 have n:wpAny (model X.prog X.w) X.A (eval e X.env) (λw o=>wpAny (model X.prog X.w) X.A (inplaceOp op u w) (λr B=>wpAny (model X.prog X.w) X.A (storeName X.env x r) (λ_=>SP X a D .next) X.xe B) X.xe o) X.xe s:=by
  refine aQ (T a s σ H _ I h) ?_
  rintro w G ⟨y,W,O,L,p⟩
  refine aQ (Q a G σ W v y u w _ O r L p) ?_
  rintro z s2 ⟨zv,Y,q,U,C⟩
  exact Yx q Z j f U (λs3 M=>⟨_,Y,M,C⟩) S
 rcases l with⟨b,E⟩|⟨b,c,t,d⟩
 ·exact wpAny_loadName_local I.ok.kind b J E n
 ·rcases b with b|b
  ·exact wpAny_loadName_cell I.ok.kind b t d n
  ·rcases f with k|k
   ·have:X.env.scope.names.lookup x=some .free:=b
    rw[k] at this;cases this
   ·have:X.env.scope.names.lookup x=some .free:=b
    grind
def Jm(j d te:TE)(a:V->V->Hp->VK->Prop)(c:Wm)(b:K3):TS:=λD σ H=>j σ H λo g=>d σ g λi k=>a o i k λx h=>te σ h λy f=>c x y f λz m=>b o i z m λl=>D.nx σ l
def S8(X:Cx)(t:V->V->Hp->VK->Prop):Prop :=
 ∀(a:List (Addr×Obj))(s:Shared)(σ:St)(H:Hp)(o i:V)(b c:Value)(Q:VK),Inv X a σ H s->RelV o b->RelV i c->t o i H Q ->
  wpAny (model X.prog X.w) X.A (getItem b c) (EP X a σ Q) X.xe s
theorem Fj(r:PE X o to)(Y:PE X i L)(hg:S8 X g)(he:PE X e te)(q:Wn X op k)(x:K4 X f)(A:∀d c b,augStore i d c b=(do holding [b,d,c] (setItem d c b);release [b,d,c] [];pure .next):=by intros;rfl):PS X (.AugAssign (.Subscript o i tpos) op e pos) (Jm to L te g k f):=by
 intro a s σ H D I h
 refine wpAny_AugAssign_SubscriptAny (aQ (r a s σ H _ I h) ?_) A
 rintro d s1 ⟨p,t,W,n,u⟩
 refine aQ (Y a s1 σ t _ W u) ?_
 rintro c Z ⟨l,H2,M,m,B⟩
 refine aQ (hg a Z σ H2 p l d c _ M n m B) ?_
 rintro j C ⟨O,w,U,r3,q3⟩
 refine aQ (he a C σ w _ U q3) ?_
 rintro v y ⟨E,R,N,S,Q⟩
 refine aQ (q a y σ R O E j v _ N r3 S Q) ?_
 rintro b s5 ⟨F,G,z,r5,T⟩
 exact aQ (x a s5 σ G p l F d c b _ z n m r5 T) λ_ s6 ⟨P,J,q6⟩=>⟨σ,P,J,q6⟩
def Wo(f:Int->Int->Int):Wm:=λx y H Q=>∃i j,x=.int i/\y=.int j/\Q (.int (f i j)) H
theorem K6:Wn X .Add (Wo λi j=>i+j):=by
 intro pins s σ H x y v u Q I d b h
 obtain⟨i,j,c,a,q⟩:=h
 subst c;subst a
 obtain⟨t,rfl⟩:=d
 obtain⟨t',rfl⟩:=b
 exact iadd_int ⟨.int _,H,I.tok _,⟨_,rfl⟩,q⟩
end
section
variable{X:Cx}{pos:Pos}
def zWv(c:TT)(g:TS):TS:=λD σ H=>∃W:Nat->St->Hp->Prop,(∃m,W m σ H)/\∀m σ H,W m σ H ->
 c σ H λb d=>if b=true then∃N:St->Hp->Prop,(∀a f,N a f->∃e,e<m/\W e a f)/\g { D with nx:=N,ct:=N,bk:=D.nx } σ d else D.nx σ d
theorem zUy(hp:PassesOwn (model X.prog X.w) X.A X.env X.xe)(hc:PT X c tc)(hb:nU X body tb):PS X (.While c body [] pos) (zWv tc tb):=by
 intro pins s σ H D I h
 obtain⟨W,⟨m0,w0⟩,turn⟩:=h
 refine wpAny_While (codeAny_whileLoop (λn s'=>∃σ' H',Inv X pins σ' H' s'/\W n σ' H') ?_ m0 ⟨σ,H,I,w0⟩)
 rintro n s1 ⟨σ1,H1,I1,w1⟩
 refine acr hp (aQ (hc pins s1 σ1 H1 _ I1 (turn n σ1 H1 w1)) λb s2 ⟨H2,I2,q2⟩=>?_)
 cases b with
 |true =>
  obtain⟨N,hN,q2⟩:=q2
  rw[if_pos rfl]
  refine acr hp (aQ (hb pins s2 σ1 H2 _ I2 q2) λf s3 q3=>?_)
  cases f with
  |next =>
   obtain⟨σ3,H3,I3,n3⟩:=q3
   obtain⟨m',hm,w3⟩:=hN σ3 H3 n3
   exact⟨m',hm,σ3,H3,I3,w3⟩
  |cont =>
   obtain⟨σ3,H3,I3,n3⟩:=q3
   obtain⟨m',hm,w3⟩:=hN σ3 H3 n3
   exact⟨m',hm,σ3,H3,I3,w3⟩
  |brk=>exact q3
  |ret v=>exact q3
 |false =>
  rw[if_neg aay]
  exact aeg ⟨σ1,H2,I2,q2⟩
end
structure It where
 go:Nat->Hp->Prop
 K7:Nat->Hp->V->Hp->Prop
 stop:Nat->Hp->Prop
def m8(X:Cx)(d:List (Addr×Obj))(H:Hp)(b:Addr):Prop :=
 H b=none/\b≠X.env.locals/\b∉X.fs/\(b∈X.ex\/X.s₀.heap.objs.size<=b)/\(∀x c,X.env.cells.lookup x=some c->c≠b)/\∀p∈X.pn++d,p.1≠b
theorem Inv.m9(I:Inv X pins σ H s)(hb:s.heap.objs.size<=b)(hn:H' b=none):m8 X pins H' b:=by
 refine⟨hn,ad0 (aa2 I.lt hb),I.KQ hb,.inr (aa1 I.sz hb),λx c e z=>?_,λp hp z=>?_⟩
 ·obtain⟨v,q⟩:=I.cell x c e
  exact absurd (aa2 q.lt (by rw[z];exact hb)) (ab3 _)
 ·exact absurd (aa2 (lt_size (I.pin p hp).1) (by rw[z];exact hb)) (ab3 _)
structure Turn(P:Program)(w:World)(K:Frag)(tg:Expr)(J:It)(fp:List Addr)(it:Addr)(tn:Nat->Heap->Prop):Prop where
 mem:it∈fp
 obj:∀i h,tn i h->∀b∈fp,∃o,h.get? b=some o/\∀v,o.data≠.cell v
 keep:∀i h h',tn i h->(∀b∈fp,∀o,h.get? b=some o->h'.get? b=some o)->tn i h'
 item:∀(X:Cx),X.prog=P->X.w=w->X.K=K->X.calm=true->∀(i:Nat)(pins:List (Addr×Obj))(s:Shared)(σ:St)(H:Hp)(E:Value->Shared->Prop),Inv X pins σ H s->(∀b∈fp,m8 X pins H b)->tn i s.heap->J.go i H ->
  wpAny (model P w) X.A (pyNext (.ref it)) (λr s1=>∃u,r=some u /\
   wpAny (model P w) X.A (letOwnedTupleGo tg (.ref it) u) (λ_ s2=>∃x H',Inv X pins σ H' s2/\RelV x u/\J.K7 i H x H'/\tn (i+1) s2.heap/\∀b∈fp,H' b=none) E s1) E s
 done:∀(X:Cx),X.prog=P->X.w=w->X.K=K->X.calm=true->∀(i:Nat)(pins:List (Addr×Obj))(s:Shared)(σ:St)(H:Hp)(E:Value->Shared->Prop),Inv X pins σ H s->(∀b∈fp,m8 X pins H b)->tn i s.heap->J.stop i H ->
  wpAny (model P w) X.A (pyNext (.ref it)) (λr s1=>r=none/\Inv X pins σ H s1) E s
 self:∀(A:Around)(i:Nat)(s:Shared)(Q:Value->Shared->Prop)(E:Value->Shared->Prop),tn i s.heap->Q (.ref it) s->wpAny (model P w) A (pyIter (.ref it)) Q E s
abbrev TI:=St->Hp->(It->Hp->Prop)->Prop
def PIE(X:Cx)(a:List (Addr×Obj))(σ:St)(i:Expr)(R:It->Hp->Prop)(c:Value)(h:Shared):Prop :=
 ∃(f:Addr)(e:List Addr)(g:Nat->Heap->Prop)(J:It)(d:Hp),c=.ref f/\Inv X a σ d h/\Turn X.prog X.w X.K i J e f g/\g 0 h.heap/\(∀b∈e,m8 X a d b)/\R J d
def PI(X:Cx)(d b:Expr)(c:TI):Prop :=
 ∀(a:List (Addr×Obj))(s:Shared)(σ:St)(H:Hp)(R:It->Hp->Prop),Inv X a σ H s->c σ H R ->
  wpAny (model X.prog X.w) X.A (eval b X.env) (λv e=>wpAny (model X.prog X.w) X.A (pyIter v) (PIE X a σ d R) X.xe e) X.xe s
theorem QM{s:Shared}{Q:Unit->Shared->Prop}(c:s.heap.get? d=some o)(e:o.cls=.type n)(f:o.data=.fields vs)(hn:["enumerate","zip","dict_itemiterator","dict_reverseitemiterator","odict_iterator","itertools.zip_longest","itertools.pairwise"].contains n=false)(a:Q () s):wpAny M A (letOwnedTupleGo b (.ref d) u) Q E s:=by
 unfold letOwnedTupleGo
 cases b<;>first
  |exact aax a
  | (cases u<;>first
    |exact aax a
    | (refine aaw (wpAny_load c ?_)
       rw[e,f]
       show wpAny M A (if(["enumerate","zip","dict_itemiterator","dict_reverseitemiterator","odict_iterator","itertools.zip_longest","itertools.pairwise"].contains n&&vs[0]?==some (rawInt _))=true then _ else _) Q E s
       rw[if_neg (by grind)]
       exact aax a))
def QS(K:Frag)(a:Addr):It :=
 ⟨λi H=>∃b x,aZ K H a b/\b[i]?=some x,λi H x c=>c=H/\∀b,aZ K H a b->b[i]?=some x,λi H=>∃b,aZ K H a b/\b.length<=i⟩
def K8(K:Frag)(a:Addr):It :=
 ⟨λi H=>∃b x,cF K H a b/\b[i]?=some x,λi H x c=>c=H/\∀b,cF K H a b->b[i]?=some x,λi H=>∃b,cF K H a b/\b.length<=i⟩
def YB(lo:Int)(n:Nat):It:=⟨λi _=>i<n,λi H x a=>a=H/\x=.int (lo+i),λi _=>n<=i⟩
theorem zQr{P:Program}{w:World}{K:Frag}{O:Expr}(a g:Addr):Turn P w K O (QS K a) [g] g (λi h=>h.IsListIter g a i) where
 mem:=by simp
 obj:=λi h st b j=>by
  have e:b=g:=by simpa using j
  subst e
  obtain⟨o,e,c,d⟩:=st
  grind
 keep:=λi h m st k=>st.at λo e=>k g (by simp) o e
 item:=by
  intro X v D B L i f s σ H E I q st J
  subst v D B
  obtain⟨N,x,n,t⟩:=J
  obtain⟨A,z,p,R⟩:=I.list n
  obtain⟨u,U,Y⟩:=z.get t
  obtain⟨G,F,Q,y,r,C⟩:=q g (by simp)
  refine wpAny_pyNext_list_item st p.isList (x:=u) (by simpa using U) λm l Z=>?_
  have M:Inv X f σ H { s with heap:=m }:=I.turned (t':=s.toks) (λb o j e=>(Z.2 b j).trans e) G F y r C
  obtain⟨o,e,c,d⟩:=id l
  exact⟨u,rfl,QM (s:={ s with heap:=m }) e c d (by decide) ⟨x,H,M,Y,⟨rfl,λys T=>by rw[I.nY T n];exact t⟩,l,λb j=>(q b j).1⟩⟩
 done:=by
  intro X v D B L i f s σ H E I q st J
  subst v D B
  obtain⟨N,n,t⟩:=J
  obtain⟨A,z,p,R⟩:=I.list n
  obtain⟨G,F,Q,y,r,C⟩:=q g (by simp)
  have hl:=z.length
  exact wpAny_pyNext_list_end (I.ok.hd L) st p.isList (by simp;lia) λm S=>⟨rfl,I.turned (t':=s.toks) (λb o j e=>S b o j e) G F y r C⟩
 self:=λ_ _ _ _ _ st h=>wpAny_pyIter_listiter st h
theorem zOn{P:Program}{w:World}{K:Frag}{O:Expr}(a l:Addr):Turn P w K O (K8 K a) [l] l (λi h=>h.IsTupleIter l a i) where
 mem:=by simp
 obj:=λi h st b j=>by
  have e:b=l:=by simpa using j
  subst e
  obtain⟨o,e,c,d⟩:=st
  grind
 keep:=λi h n st k=>st.at λo e=>k l (by simp) o e
 item:=by
  intro X G C A L i f s σ H E I r st D
  subst G C A
  obtain⟨N,x,q,J⟩:=D
  obtain⟨g,v,p,Y⟩:=I.tuple q
  obtain⟨u,U,M⟩:=v.get J
  obtain⟨z,F,Q,y,t,B⟩:=r l (by simp)
  refine wpAny_pyNext_tuple_item st (show s.heap.IsTuple a g.toArray from p) (x:=u) (by simpa using U) λn m T=>?_
  have Z:Inv X f σ H { s with heap:=n }:=I.turned (t':=s.toks) (λb o j e=>(T.2 b j).trans e) z F y t B
  obtain⟨o,e,c,d⟩:=id m
  exact⟨u,rfl,QM (s:={ s with heap:=n }) e c d (by decide) ⟨x,H,Z,M,⟨rfl,λys R=>by rw[I.zf R q];exact J⟩,m,λb j=>(r b j).1⟩⟩
 done:=by
  intro X G C A L i f s σ H E I r st D
  subst G C A
  obtain⟨N,q,J⟩:=D
  obtain⟨g,v,p,Y⟩:=I.tuple q
  obtain⟨z,F,Q,y,t,B⟩:=r l (by simp)
  have hl:=v.length
  exact wpAny_pyNext_tuple_end (I.ok.hd L) st (show s.heap.IsTuple a g.toArray from p) (by simp;lia) λn S=>⟨rfl,I.turned (t':=s.toks) (λb o j e=>S b o j e) z F y t B⟩
 self:=λ_ _ _ _ _ st h=>wpAny_pyIter_tupleiter st h
theorem zOo{P:Program}{w:World}{K:Frag}{G:Expr}(c:Addr)(lo:Int)(n:Nat):Turn P w K G (YB lo n) [c] c (λi h=>IsRangeIter h c (lo+(i:Nat)*1) ((n:Int)-(i:Nat)) 1) where
 mem:=by simp
 obj:=λi h st b d=>by
  grind
 keep:=λi h g st k=>k c (by simp) _ st
 item:=by
  intro X l q m x i a s σ H E I j st u
  subst l q m
  obtain⟨y,r,L,z,A,p⟩:=j c (by simp)
  have W:=Walks.range (prog:=X.prog) (w:=X.w) (I.ok.hd x) c lo 1 n
  refine W.item i s _ _ u st λv g B F f C=>?_
  obtain⟨t,rfl⟩:=F
  have J:Inv X a σ H { s with heap:=g,toks:=B }:=I.turned (λb o d e=>C b o (by simpa using d) e) y r z A p
  refine⟨_,rfl,QM (s:={ s with heap:=g,toks:=B }) (n:="range_iterator") f rfl rfl (by decide) ⟨.int (lo+i),H,J,⟨t,?_⟩,⟨rfl,rfl⟩,f,λb d=>(j b d).1⟩⟩
  grind
 done:=by
  intro X l q m x i a s σ H E I j st u
  subst l q m
  obtain⟨y,r,L,z,A,p⟩:=j c (by simp)
  exact wpAny_pyNext_range_end (I.ok.hd x) st (by have:n<=i:=u;lia) λg D=>⟨rfl,I.turned (t':=s.toks) (λb o d e=>D b o d e) y r z A p⟩
 self:=λ_ _ _ _ _ st h=>wpAny_pyIter_rangeiter st h
section
variable{X:Cx}{tg:Expr}
def Bv(K:Frag)(c:TE):TI:=λσ H R=>c σ H λx b=>∃a,x=.ref a/\(∃d,aZ K b a d)/\R (QS K a) b
def Fo(K:Frag)(c:TE):TI:=λσ H R=>c σ H λx b=>∃a,x=.ref a/\(∃d,cF K b a d)/\R (K8 K a) b
theorem YC(j:PE X l k):PI X tg l (Bv X.K k):=by
 intro c s σ H R I h
 refine aQ (j c s σ H _ I h) ?_
 rintro v f ⟨x,m,d,i,n⟩
 obtain⟨a,e,⟨xs,g⟩,q⟩:=n
 subst e
 cases i
 obtain⟨its,rv,p,hz⟩:=d.list g
 refine ad4 p.isList ?_
 refine⟨f.heap.objs.size,[f.heap.objs.size],_,_,m,rfl,d.kept λb o e=>get?_push_of_some _ e,zQr a _,⟨_,get?_push_size _ rfl,rfl,rfl⟩,λb hb=>?_,q⟩
 have e:b=f.heap.objs.size:=by grind
 subst e
 exact d.m9 (aa0 _) (d.hok.fresh (aa0 _))
theorem YD(j:PE X l k):PI X tg l (Fo X.K k):=by
 intro c s σ H R I h
 refine aQ (j c s σ H _ I h) ?_
 rintro v f ⟨x,m,d,i,n⟩
 obtain⟨a,e,⟨xs,g⟩,q⟩:=n
 subst e
 cases i
 obtain⟨its,rv,p,hz⟩:=d.tuple g
 refine wpAny_pyIter_tuple (p) ?_
 refine⟨f.heap.objs.size,[f.heap.objs.size],_,_,m,rfl,d.kept λb o e=>get?_push_of_some _ e,zOn a _,⟨_,get?_push_size _ rfl,rfl,rfl⟩,λb hb=>?_,q⟩
 have e:b=f.heap.objs.size:=by grind
 subst e
 exact d.m9 (aa0 _) (d.hok.fresh (aa0 _))
theorem zUw{d:List (Addr×Obj)}{σ:St}{H:Hp}{s:Shared}{R:It->Hp->Prop}{E:Value->Shared->Prop}{lo c:Int}{t u v:Tok}{g:Nat}(I:Inv X d σ H s)(k:-(2^62)<=lo)(h2:lo<2^62)(l:-(2^62)<=c)(h:c<2^62)(q:R (YB lo (c-lo).toNat) H):wpAny (model X.prog X.w) X.A (pyIter (.ref s.heap.objs.size)) (PIE X d σ tg R) E { s with heap:=s.heap.push { cls:=.type "range",data:=.fields #[.int lo t,.int c u,.int 1 v] },toks:=g }:=by
 refine wpAny_pyIter_range (IsRange.new ..) (small_one k h2 l h) ?_
 have f:Inv X d σ H { s with heap:=s.heap.push { cls:=.type "range",data:=.fields #[.int lo t,.int c u,.int 1 v] },toks:=g }:=I.kept λb o e=>get?_push_of_some _ e
 refine⟨(s.heap.push { cls:=.type "range",data:=.fields #[.int lo t,.int c u,.int 1 v] }).objs.size,[(s.heap.push { cls:=.type "range",data:=.fields #[.int lo t,.int c u,.int 1 v] }).objs.size],_,_,H,rfl,
  f.kept (t':=g) λb o e=>get?_push_of_some _ e,zOo _ lo (c-lo).toNat,?_,λb hb=>?_,q⟩
 ·have i:lo+((0:Nat):Int)*1=lo:=by simp
  have j:(((c-lo).toNat:Nat):Int)-((0:Nat):Int)=Builtin.Range.rangeSize lo c 1:=by rw[rangeSize_one];grind
  rw[i,j]
  exact get?_push_size _ rfl
 ·have e:b=(s.heap.push { cls:=.type "range",data:=.fields #[.int lo t,.int c u,.int 1 v] }).objs.size:=by grind
  subst e
  exact f.m9 (aa0 _) (f.hok.fresh (aa0 _))
def Jo(c:TA):TI:=λσ H R=>c σ H λa b=>∃j:Int,a=[.int j] /\ -(2^62)<=j/\j<2^62/\R (YB 0 j.toNat) b
theorem xG(l:Gl X "range")(d:X.mg "range" = none)(m:PA X [a] k)(i:starEach [a] X.env=[(false,eval a X.env)]:=by rfl):PI X tg (.Call (.Name "range" p) [a] [] pos) (Jo k):=by
 intro b s σ H R I h
 refine Call_ (DN I l d boot_range (abt (aQ (m pos b s σ H _ I h) ?_) i rfl))
 rintro us s1 ⟨vs,H1,f,n,c⟩
 obtain⟨j,e,c,o,q⟩:=c
 subst e
 cases n with
 |cons r g =>
  cases g
  obtain⟨t,rfl⟩:=r
  exact call_range_1 (zUw f (by lia) (by lia) c o (by simp_all))
def K9(e:TI)(g:TG)(k:TS):TS:=λD σ H=>e σ H λJ f=>∃W:Nat->Nat->St->Hp->Prop,(∃m,W 0 m σ f)/\∀i m σ H,W i m σ H ->
 (J.stop i H/\D.nx σ H)\/(J.go i H/\∃N:St->Hp->Prop,(∀d b,N d b->∃c,c<m/\W (i+1) c d b)/\∀x b,J.K7 i H x b->g x σ b λj h=>k { D with nx:=N,ct:=N,bk:=D.nx } j h)
def Jp(fp:List Addr)(h:Heap):List (Addr×Obj):=fp.filterMap λb=>(h.get? b).map λo=>(b,o)
theorem uG{h:Heap}(hb:b∈fp)(e:h.get? b=some o):(b,o)∈Jp fp h:=List.mem_filterMap.mpr ⟨b,hb,by rw[e];rfl⟩
theorem zSa(a:p∈Jp fp h):p.1∈fp/\h.get? p.1=some p.2:=by
 obtain⟨b,hb,e⟩:=List.mem_filterMap.mp a
 cases q:h.get? b with
 |none=>grind
 |some o =>
  grind
theorem Inv.pinned(I:Inv X a σ H s)(d:∀b∈fp,m8 X a H b)(ho:∀b∈fp,∃o,s.heap.get? b=some o/\∀v,o.data≠.cell v):Inv X (a++Jp fp s.heap) σ H s :=
 I.kj λp c=>(mem_append.mp c).elim (λz=>I.pin p (mem_append_right _ z)) λz=>by
  obtain⟨f,e⟩:=zSa z
  obtain⟨f0,f1,f2,_⟩:=d p.1 f
  grind
theorem Inv.gD(I:Inv X (a++pl) σ H s):Inv X a σ H s:=I.kj λp b=>I.pin p (mem_append_right _ (mem_append_left _ b))
theorem xK(Q:PassesOwn (model X.prog X.w) X.A X.env X.xe)(hc:X.calm=true)(hi:PI X tg y wi)(hg:PG X tg g)(c:nU X B tb)(hs:∀x,foldedSetIterable y X.env x=pure x:=by intro _;rfl):PS X (.For tg y B [] pos) (K9 wi g tb):=by
 intro a s σ H D I h
 refine wpAny_For (aQ (hi a s σ H _ I h) λv s1 h1=>aQ h1 λitv s2 h2=>?_) hs
 obtain⟨it,L,tn,J,H2,e,I2,T,U,f2,W,⟨m0,w0⟩,E⟩:=h2
 subst e
 have l:∀{q:Hp},(∀b∈L,q b=none)->∀b∈L,m8 X a q b:=λhn b c=>⟨hn b c,(f2 b c).2⟩
 refine codeAny_forLoop_any (λn s'=>∃i G q,Inv X a G q s'/\tn i s'.heap/\(∀b∈L,q b=none)/\W i n G q) ?_ m0 ⟨0,σ,H2,I2,U,λb c=>(f2 b c).1,w0⟩
 rintro n s3 ⟨i,O,R,I3,M,F,w3⟩
 rcases E i n O R w3 with⟨C,qn⟩|⟨go,N,hN,step⟩
 ·refine acr Q (aQ (T.done X rfl rfl rfl hc i a s3 O R X.xe I3 (l F) M C) λr s4 ⟨S,I4⟩=>?_)
  subst S
  exact aeg ⟨O,R,I4,qn⟩
 ·refine acr Q (aQ (T.item X rfl rfl rfl hc i a s3 O R X.xe I3 (l F) M go) λr s4 ⟨u,S,h4⟩=>?_)
  subst S
  refine acr Q (aQ h4 ?_)
  rintro _ s5 ⟨x,H5,I5,r5,y5,z,Y⟩
  have I5':=I5.pinned (l Y) (T.obj _ _ z)
  refine acr Q (aQ (hg _ s5 O H5 x u _ I5' r5 (step x H5 y5)) ?_)
  rintro _ s6 ⟨σ6,H6,I6,q6⟩
  refine acr Q (aQ (c _ s6 σ6 H6 _ I6 q6) λf Z t=>?_)
  have again:∀{j:St}{k:Hp},Inv X (a++Jp L s5.heap) j k Z->N j k->∃m,m<n/\∃i G q,Inv X a G q Z/\tn i Z.heap/\(∀b∈L,q b=none)/\W i m G q:=λ{j k} p P=>by
   obtain⟨m',hm,w7⟩:=hN j k P
   refine⟨m',hm,i+1,j,k,p.gD,T.keep _ _ _ z λb c o e=>(p.pin (b,o) (mem_append_right _ (mem_append_right _ (uG c e)))).1,λb c=>?_,w7⟩
   obtain⟨o,e,d⟩:=T.obj _ _ z b c
   exact(p.pin (b,o) (mem_append_right _ (mem_append_right _ (uG c e)))).2.1
  cases f with
  |next=>obtain⟨j,k,p,P⟩:=t;exact again p P
  |cont=>obtain⟨j,k,p,P⟩:=t;exact again p P
  |brk=>obtain⟨j,k,p,t⟩:=t;exact⟨j,k,p.gD,t⟩
  |ret v=>obtain⟨x7,j,k,p,r7,t⟩:=t;exact⟨x7,j,k,p.gD,r7,t⟩
end
theorem zVx{K:Frag}{a:Addr}{xs:List V}{g:TG}{tb:TS}{D:Ends}{σ:St}{H:Hp}(Pv:Nat->St->Hp->Prop)(h0:Pv 0 σ H)(hl:∀i σ H,i<=xs.length->Pv i σ H->aZ K H a xs)(hs:∀i x σ H,xs[i]?=some x->Pv i σ H->g x σ H λσ2 H2=>tb { D with nx:=Pv (i+1),ct:=Pv (i+1),bk:=D.nx } σ2 H2)(hd:∀σ H,Pv xs.length σ H->D.nx σ H) :
  ∃W:Nat->Nat->St->Hp->Prop,(∃m,W 0 m σ H)/\∀i m σ H,W i m σ H ->
   ((QS K a).stop i H/\D.nx σ H)\/((QS K a).go i H/\∃N:St->Hp->Prop,(∀σ' H',N σ' H'->∃m',m'<m/\W (i+1) m' σ' H')/\∀x H',(QS K a).K7 i H x H'->g x σ H' λσ2 H2=>tb { D with nx:=N,ct:=N,bk:=D.nx } σ2 H2):=by
 refine⟨λi m σ H=>m=xs.length-i/\i<=xs.length/\Pv i σ H,⟨xs.length,by simp,abg _,h0⟩,?_⟩
 rintro i m σ H ⟨rfl,hi,p⟩
 have q:=hl i σ H hi p
 by_cases hlt:i<xs.length
 ·refine .inr ⟨⟨xs,xs[i],q,by simp[hlt]⟩,Pv (i+1),λσ' H' p'=>⟨xs.length-(i+1),by omega,rfl,hlt,p'⟩,λx H' y=>?_⟩
  obtain⟨e,y⟩:=y
  subst e
  exact hs i x σ _ (y xs q) p
 ·have e:i=xs.length:=by omega
  subst e
  exact .inl ⟨⟨xs,q,aa0 _⟩,hd σ H p⟩
theorem Fp{K:Frag}{a:Addr}{xs:List V}{g:TG}{j:TS}{D:Ends}{σ:St}{H:Hp}(b:Nat->St->Hp->Prop)(h0:b 0 σ H)(l:∀i σ H,i<=xs.length->b i σ H->cF K H a xs)(hs:∀i x σ H,xs[i]?=some x->b i σ H->g x σ H λd c=>j { D with nx:=b (i+1),ct:=b (i+1),bk:=D.nx } d c)(o:∀σ H,b xs.length σ H->D.nx σ H) :
  ∃W:Nat->Nat->St->Hp->Prop,(∃m,W 0 m σ H)/\∀i m σ H,W i m σ H ->
   ((K8 K a).stop i H/\D.nx σ H)\/((K8 K a).go i H/\∃N:St->Hp->Prop,(∀f H',N f H'->∃m',m'<m/\W (i+1) m' f H')/\∀x H',(K8 K a).K7 i H x H'->g x σ H' λd c=>j { D with nx:=N,ct:=N,bk:=D.nx } d c):=by
 refine⟨λi m σ H=>m=xs.length-i/\i<=xs.length/\b i σ H,⟨xs.length,by simp,abg _,h0⟩,?_⟩
 rintro i m σ H ⟨rfl,k,p⟩
 have q:=l i σ H k p
 by_cases h:i<xs.length
 ·refine .inr ⟨⟨xs,xs[i],q,by grind⟩,b (i+1),λf H' n=>⟨xs.length-(i+1),by lia,rfl,h,n⟩,λx H' y=>?_⟩
  obtain⟨e,y⟩:=y
  grind
 ·have e:i=xs.length:=by lia
  subst e
  exact .inl ⟨⟨xs,q,aa0 _⟩,o σ H p⟩
abbrev R2:=V->V->Hp->VK->Prop
def lR(X:Cx)(f:Value->Value->Sem Value)(r:R2):Prop :=
 ∀(b:List (Addr×Obj))(s:Shared)(σ:St)(H:Hp)(x y:V)(v u:Value)(Q:VK),Inv X b σ H s->RelV x v->RelV y u->r x y H Q ->
  wpAny (model X.prog X.w) X.A (f v u) (EP X b σ Q) X.xe s
def YF(X:Cx)(f:Value->Sem Value)(r:V->Hp->VK->Prop):Prop :=
 ∀(b:List (Addr×Obj))(s:Shared)(σ:St)(H:Hp)(x:V)(v:Value)(Q:VK),Inv X b σ H s->RelV x v->r x H Q ->
  wpAny (model X.prog X.w) X.A (f v) (EP X b σ Q) X.xe s
def xr(X:Cx)(f:Value)(r:List V->Hp->VK->Prop):Prop :=
 ∀(b:List (Addr×Obj))(s:Shared)(σ:St)(H:Hp)(c:List V)(d:List Value)(Q:VK),Inv X b σ H s->Vals c d->r c H Q ->
  wpAny (model X.prog X.w) X.A (call f d) (EP X b σ Q) X.xe s
def YG(X:Cx)(r:V->Hp->(Bool->Hp->Prop)->Prop):Prop :=
 ∀(b:List (Addr×Obj))(s:Shared)(σ:St)(H:Hp)(x:V)(v:Value)(Q:Bool->Hp->Prop),Inv X b σ H s->RelV x v->r x H Q ->
  wpAny (model X.prog X.w) X.A (truthy v) (TP X b σ Q) X.xe s
def iQ(r:R2)(a d:TE):TE:=λσ H Q=>a σ H λx c=>d σ c λy b=>r x y b Q
def tUn(r:V->Hp->VK->Prop)(a:TE):TE:=λσ H Q=>a σ H λx b=>r x b Q
def rI(C:Int->Int->Prop)(g:Int->Int->V):R2:=λx y H Q=>∃i j,x=.int i/\y=.int j/\C i j/\Q (g i j) H
def um(g:Int->Int->V):R2:=λx y H Q=>∃i j,x=.int i/\y=.int j/\Q (g i j) H
def rU(g:Int->V):V->Hp->VK->Prop:=λx H Q=>∃i,x=.int i/\Q (g i) H
section
variable{X:Cx}{a b c:Expr}{ta tb tc:TE}{pos:Pos}
theorem K_(ha:PE X a ta)(hb:PE X b tb){R:V->V->Hp->Prop}(I:Inv X pins σ H s)(h:ta σ H λx H1=>tb σ H1 λy H2=>R x y H2){f:Value->Value->Sem Value}(hf:∀v u s2 x y H2,Inv X pins σ H2 s2->RelV x v->RelV y u->R x y H2->wpAny (model X.prog X.w) X.A (f v u) Q X.xe s2) :
  wpAny (model X.prog X.w) X.A (eval a X.env) (λv s₁=>wpAny (model X.prog X.w) X.A (eval b X.env) (λu s₂=>wpAny (model X.prog X.w) X.A (f v u) Q X.xe s₂) X.xe s₁) X.xe s:=by
 refine aQ (ha pins s σ H _ I h) λv s1 ⟨x,H1,I1,r1,q1⟩=>?_
 refine aQ (hb pins s1 σ H1 _ I1 q1) λu s2 ⟨y,H2,I2,r2,q2⟩=>?_
 exact hf v u s2 x y H2 I2 r1 r2 q2
theorem wK(g:lR X (binaryOp op) r)(i:PE X a ta)(m:PE X b tb):PE X (.BinOp a op b pos) (iQ r ta tb):=by
 intro d s σ H Q I h
 exact ae4 (K_ i m I h λv u f x y l k j e q=>g d f σ l x y v u Q k j e q)
theorem Bw(i:YF X (unaryOp op) r)(l:PE X a ta):PE X (.UnaryOp op a pos) (tUn r ta):=by
 intro d s σ H Q I h
 exact UnaryOp_ (aQ (l d s σ H _ I h) (by rintro v e ⟨x,j,g,f,k⟩;exact i d e σ j x v Q g f k))
theorem Wq{f:Value->Value->Sem Value}{C:Int->Int->Prop}{g:Int->Int->Int}(rule:∀(i j:Int) (t u:Tok) (s:Shared) (Q:Value->Shared->Prop) (E:Value->Shared->Prop),C i j->Q (.int (g i j) s.toks) { s with toks:=s.toks+1 }->wpAny (model X.prog X.w) X.A (f (.int i t) (.int j u)) Q E s) :
  lR X f (rI C λi j=>.int (g i j)):=by
 intro pins s σ H x y v u Q I l d h
 obtain⟨i,j,rfl,rfl,k,q⟩:=h
 obtain⟨t,rfl⟩:=l
 obtain⟨e,rfl⟩:=d
 exact rule i j t e s _ _ k ⟨.int (g i j),H,I.tok _,⟨_,rfl⟩,q⟩
theorem La{f:Value->Value->Sem Value}{g:Int->Int->Int}(rule:∀(i j:Int) (t u:Tok) (s:Shared) (Q:Value->Shared->Prop) (E:Value->Shared->Prop),Q (.int (g i j) s.toks) { s with toks:=s.toks+1 }->wpAny (model X.prog X.w) X.A (f (.int i t) (.int j u)) Q E s) :
  lR X f (um λi j=>.int (g i j)):=by
 intro pins s σ H x y v u Q I k d h
 obtain⟨i,j,rfl,rfl,q⟩:=h
 obtain⟨t,rfl⟩:=k
 obtain⟨e,rfl⟩:=d
 exact rule i j t e s _ _ ⟨.int (g i j),H,I.tok _,⟨_,rfl⟩,q⟩
theorem Lb{f:Value->Value->Sem Value}{g:Int->Int->Bool}(rule:∀(i j:Int) (t u:Tok) (s:Shared) (Q:Value->Shared->Prop) (E:Value->Shared->Prop),Q (.bool (g i j)) s->wpAny (model X.prog X.w) X.A (f (.int i t) (.int j u)) Q E s) :
  lR X f (um λi j=>.bl (g i j)):=by
 intro pins s σ H x y v u Q I k d h
 obtain⟨i,j,rfl,rfl,q⟩:=h
 obtain⟨t,rfl⟩:=k
 obtain⟨e,rfl⟩:=d
 exact rule i j t e s _ _ ⟨.bl (g i j),H,I,rfl,q⟩
def Ld(i j:Int):Prop:=0<j/\j<1073741824
def S9(i j:Int):Prop:=0<=j/\j<=1000000/\i.natAbs<2^64
theorem zOm(k:Nat):(0:Int)<=2^k:=by
 grind
theorem Wr:lR X (binaryOp .Add) (um λi j=>.int (i+j)):=La λ_ _ _ _ _ _ _ q=>add_int q
theorem YH:lR X (binaryOp .Sub) (um λi j=>.int (i-j)):=La λ_ _ _ _ _ _ _ q=>sub_int q
theorem Jq:lR X (binaryOp .FloorDiv) (rI Ld λi j=>.int (i/j)):=Wq λi j _ _ _ _ _ d q=>by
 have h1:(0:Int)<j:=d.1
 have h2:=d.2
 exact floordiv_int (by lia) (by grind) (.inl (PyProof.noPylong_small (by lia)))
theorem Bx:lR X (binaryOp .Mod) (rI (λ_ j=>0<j) λi j=>.int (i%j)):=Wq λi j _ _ _ _ _ hc q=>by
 exact mod_int' (by lia) (by grind)
theorem Lf:lR X (binaryOp .LShift) (rI S9 λi j=>.int (i*2^j.toNat)):=Wq λ_ _ _ _ _ _ _ d q=>lshift_int_small d.1 d.2.1 d.2.2 q
theorem Ws:lR X (binaryOp .RShift) (rI (λ_ j=>0<=j) λi j=>.int (i/2^j.toNat)):=Wq λi j _ _ _ _ _ hc q =>
 rshift_int hc (by rw[Int.fdiv_eq_ediv_of_nonneg i (zOm _)];exact q)
theorem S_:lR X (binaryOp .BitAnd) (um λi j=>.int (abk i j)):=La λ_ _ _ _ _ _ _ q=>and_int q
theorem unI{f:Value->Sem Value}{g:Int->Int}(rule:∀(i:Int) (t:Tok) (s:Shared) (Q:Value->Shared->Prop) (E:Value->Shared->Prop),Q (.int (g i) s.toks) { s with toks:=s.toks+1 }->wpAny (model X.prog X.w) X.A (f (.int i t)) Q E s) :
  YF X f (rU λi=>.int (g i)):=by
 intro pins s σ H x v Q I d h
 obtain⟨i,rfl,q⟩:=h
 obtain⟨t,rfl⟩:=d
 exact rule i t s _ _ ⟨.int (g i),H,I.tok _,⟨_,rfl⟩,q⟩
theorem YJ:YF X (unaryOp .USub) (rU λi=>.int (-i)):=unI λ_ _ _ _ _ q=>neg_int q
end
def YK:V->V->Bool
 |.non,.non=>true|.non,.int _=>true|.int _,.non=>true|.non,.bl _=>true|.bl _,.non=>true|.non,.str _=>true|.str _,.non=>true
 |.int _,.int _=>true|.bl _,.bl _=>true|.str _,.str _=>true|.ug _,.ug _=>true
 |.int _,.str _=>true|.str _,.int _=>true|.bl _,.str _=>true|.str _,.bl _=>true
 |_,_=>false
def YL:R2:=λx y H Q=>YK x y=true/\Q (.bl (decide (x=y))) H
theorem Fq:decide (V.int i=V.int j)=(i==j):=by
 grind
theorem Lg:decide (V.bl i=V.bl j)=(i==j):=by
 grind
theorem Ft:decide (V.str i=V.str j)=(i==j):=by
 grind
theorem Fv:decide (V.ug i=V.ug j)=(i.toList==j.toList):=by
 rw[ab1]
 cases i
 cases j
 simp
section
variable{X:Cx}{a b c:Expr}{ta tb tc:TE}{pos:Pos}
theorem uV(I:Inv X d σ H s)(q:Q (.bl k) H)(e:k=k'):EP X d σ Q (.bool k') s:=by
 subst e
 exact⟨.bl k,H,I,rfl,q⟩
theorem ud:lR X (compareOp .Eq) YL:=by
 intro pins s σ H x y v u Q I rx ry h
 obtain⟨hs,q⟩:=h
 cases x with
 |non =>
  cases rx
  cases y with
  |non=>cases ry;exact PySem.EqNone.eq_none_none (uV I q (by simp))
  |bl j=>cases ry;exact PySem.EqNone.eq_none_bool (uV I q (by simp))
  |int j=>obtain⟨t',rfl⟩:=ry;exact PySem.EqNone.eq_none_int (uV I q (by simp))
  |str j=>obtain⟨t',rfl⟩:=ry;exact PySem.EqNone.eq_none_str (uV I q (by simp))
  |_=>exact absurd (show false=true from hs) aay
 |bl i =>
  cases rx
  cases y with
  |non=>cases ry;exact PySem.EqNone.eq_bool_none (uV I q (by simp))
  |bl j=>cases ry;exact eq_bool (uV I q Lg)
  |str j=>obtain⟨t',rfl⟩:=ry;exact PySem.EqMixed.eq_bool_str (uV I q (by simp))
  |_=>exact absurd (show false=true from hs) aay
 |int i =>
  obtain⟨t,rfl⟩:=rx
  cases y with
  |non=>cases ry;exact PySem.EqNone.eq_int_none (uV I q (by simp))
  |int j=>obtain⟨t',rfl⟩:=ry;exact eq_int (uV I q Fq)
  |str j=>obtain⟨t',rfl⟩:=ry;exact PySem.EqMixed.eq_int_str (uV I q (by simp))
  |_=>exact absurd (show false=true from hs) aay
 |str i =>
  obtain⟨t,rfl⟩:=rx
  cases y with
  |non=>cases ry;exact PySem.EqNone.eq_str_none (uV I q (by simp))
  |bl j=>cases ry;exact PySem.EqMixed.eq_str_bool (uV I q (by simp))
  |int j=>obtain⟨t',rfl⟩:=ry;exact PySem.EqMixed.eq_str_int (uV I q (by simp))
  |str j=>obtain⟨t',rfl⟩:=ry;exact eq_str (uV I q Ft)
  |_=>exact absurd (show false=true from hs) aay
 |ug i =>
  obtain⟨t,rfl⟩:=rx
  cases y with
  |ug j=>obtain⟨t',rfl⟩:=ry;exact PySem.W.eq_bytes (uV I q Fv)
  |_=>exact absurd (show false=true from hs) aay
 |_=>cases y<;>exact absurd (show false=true from hs) aay
theorem Tc:lR X (compareOp .Lt) (um λi j=>.bl (decide (i<j))):=Lb λ_ _ _ _ _ _ _ q=>lt_int q
theorem BJ:lR X (compareOp .LtE) (um λi j=>.bl (decide (i<=j))):=Lb λ_ _ _ _ _ _ _ q=>le_int q
theorem Wt:lR X (compareOp .Gt) (um λi j=>.bl (decide (j<i))):=Lb λ_ _ _ _ _ _ _ q=>gt_int q
theorem zRw:lR X (compareOp .In) (λx y H Q=>∃i j,x=.str i/\y=.str j/\Q (.bl (!(adu j i 0 j.length 1).isEmpty)) H):=by
 intro pins s σ H x y v u Q I e d h
 obtain⟨i,j,rfl,rfl,q⟩:=h
 obtain⟨t,rfl⟩:=e
 obtain⟨t',rfl⟩:=d
 exact in_str (uV I q rfl)
theorem yK(b:Expr)(h:op≠.In:=by decide)(h2:op≠.NotIn:=by decide):behindInMarks op b=false:=by
 have d:(op==CmpOp.In)=false:=by grind
 have e:(op==CmpOp.NotIn)=false:=by grind
 cases b<;>simp[behindInMarks,d,e]
theorem Lh(g:lR X (compareOp op) r)(i:PE X a ta)(m:PE X b tb)(n:behindInMarks op b=false):PE X (.Compare a [op] [b] pos) (iQ r ta tb):=by
 intro d s σ H Q I h
 exact wpAny_Compare1 (K_ i m I h λv u f x y l k j e q=>g d f σ l x y v u Q k j e q) n
def Wu(t:TE):TT:=λσ H Q=>t σ H λx d=>∃k,x=.bl k/\Q k d
theorem zR(j:lR X (compareOp op) r)(o:PE X a ta)(q:PE X b tb)(t:behindInMarks op b=false):PT X (.Compare a [op] [b] pos) (Wu (iQ r ta tb)):=by
 intro d s σ H Q I h
 refine wpAny_isTrue_Compare1 (aQ (o d s σ H _ I h) λv E ⟨x,l,B,w,m⟩=>aQ (q d E σ l _ B m) λu C ⟨y,F,i,g,p⟩ =>
  aQ (j d C σ F x y v u _ i w g p) ?_) t
 rintro c s3 ⟨z,n,A,f,k,e,D⟩
 subst e
 cases f
 exact ab6 ⟨n,A,D⟩
def zWy(r f:R2)(ta tb tc:TE):TE:=λσ H Q=>ta σ H λx g=>tb σ g λy i=>r x y i λz d=>∃k,z=.bl k /\
 (if k=true then tc σ d λe h=>f y e h Q else Q (.bl false) d)
theorem zNa(T:lR X (compareOp op) r)(i:lR X (compareOp g) S)(A:PE X a ta)(D:PE X b tb)(w:PE X c tc)(E:lastMarks [op,g] [b,c]=false:=by with_unfolding_all rfl):PE X (.Compare a [op,g] [b,c] pos) (zWy r S ta tb tc):=by
 intro f s σ H Q I h
 refine Compare_chain (aQ (A f s σ H _ I h) λv q ⟨x,U,O,M,p⟩=>chain_link (aQ (D f q σ U _ O p) λu R ⟨y,Y,F,n,B⟩ =>
  aQ (T f R σ Y x y v u _ F M n B) ?_)) E
 rintro d C ⟨z,j,m,o,k,e,l⟩
 subst e
 cases o
 refine ab6 ?_
 cases k with
 |false=>exact ite_ff ⟨.bl false,j,m,rfl,l⟩
 |true=>exact ite_tt (chain_last (aQ (w f C σ j _ m l) (by rintro P t ⟨W,L,G,N,J⟩;exact i f t σ L y W u P Q G n N J)))
def Fw(K:Frag)(x:V)(H:Hp)(k:Bool):Prop :=
 match x with
 |.non=>k=false
 |.bl b=>k=b
 |.int i=>k=(i != 0)
 |.str y=>y.length<=sizeLine/\k=((y.length:Int) != 0)
 |.ug y=>y.size<=sizeLine/\k=((y.size:Int) != 0)
 |.ref p=>(∃e,aZ K H p e/\k=!e.isEmpty)\/(∃e,cF K H p e/\k=!e.isEmpty)\/∃d,H p=some (.dK d)/\k=!d.isEmpty
 |_=>False
theorem zPm{κ:Type}{kvs:List (κ×V)}{vs:List (κ×Value)}(r:KV kvs vs):(!vs.isEmpty)=!kvs.isEmpty:=by
 cases r<;>rfl
theorem zHq(r:Vals xs d):(!d.toArray.isEmpty)=!xs.isEmpty:=by
 cases r<;>simp
theorem Li:(sizeLine:Nat)<2^63:=by decide
theorem Lj:YG X (λx H Q=>∃k,Fw X.K x H k/\Q k H):=by
 intro pins s σ H x v Q I rx h
 obtain⟨k,e,q⟩:=h
 have hl:=Li
 have hs:sizeLine=16777216:=ae3
 cases x with
 |non =>
  cases rx
  have e':k=false:=e
  subst e'
  exact truthy_none ⟨H,I,q⟩
 |bl b =>
  cases rx
  have e':k=b:=e
  subst e'
  exact ab6 ⟨H,I,q⟩
 |int i =>
  obtain⟨t,rfl⟩:=rx
  have e':k=(i != 0):=e
  subst e'
  exact PySem.P.truthy_int ⟨H,I,q⟩
 |str y =>
  obtain⟨t,rfl⟩:=rx
  obtain⟨hy,e'⟩:y.length<=sizeLine/\k=((y.length:Int) != 0):=e
  subst e'
  exact PySem.P.truthy_str (by lia) ⟨H,I.tok _,q⟩
 |ug y =>
  obtain⟨t,rfl⟩:=rx
  obtain⟨hy,e'⟩:y.size<=sizeLine/\k=((y.size:Int) != 0):=e
  subst e'
  exact PySem.W.truthy_bytes (by lia) ⟨H,I.tok _,q⟩
 |ref p =>
  cases rx
  have e':(∃xs,aZ X.K H p xs/\k=!xs.isEmpty)\/(∃xs,cF X.K H p xs/\k=!xs.isEmpty)\/∃kvs,H p=some (.dK kvs)/\k=!kvs.isEmpty:=e
  rcases e' with⟨xs,hx,e'⟩|⟨xs,hx,e'⟩|⟨kvs,hx,e'⟩
  ·subst e'
   obtain⟨its,r,pl,hz⟩:=I.list hx
   have hlen:=r.length
   exact wpAny_truthy_list pl.isList (by simp only[size_toArray];lia) ⟨H,I.tok _,by rw[zHq r];exact q⟩
  ·subst e'
   obtain⟨its,r,pl,hz⟩:=I.tuple hx
   have hlen:=r.length
   exact truthy_tuple pl (by simp only[size_toArray];lia) ⟨H,I.tok _,by rw[zHq r];exact q⟩
  ·subst e'
   obtain⟨hz,hS,vs,r,m⟩:kvs.length<=sizeLine/\(p==sysModules)=false/\∃vs,KV kvs vs/\s.heap.DictOf (wL X.prog X.w) p vs:=I.hok p _ hx
   have hlen:kvs.length=vs.length:=aeu r
   exact wpAny_truthy_dict hS m (by lia) ⟨H,I.tok _,by rw[zPm r];exact q⟩
 |_=>exact(show False from e).elim
theorem zUx(n:PE X a ta)(m:∀d,isTrue a X.env d=(do let v <-d;standAt a.pos;holding [v] (truthy v))) :
  PT X a (λσ H Q=>ta σ H λx H'=>∃k,Fw X.K x H' k/\Q k H'):=by
 intro e s σ H Q I h
 exact isTrue_plain (aQ (n e s σ H _ I h) (by rintro v j ⟨x,i,g,f,l⟩;exact Lj e j σ i x v Q g f l)) (m _)
theorem Jr(r:Vals [x] us):∃u,us=[u]/\RelV x u:=by
 cases r with
 |cons r1 r2=>cases r2;exact⟨_,rfl,r1⟩
theorem zTh:xr X (.type "int") (λxs H Q=>(∃i,xs=[.int i]/\Q (.int i) H)\/∃k,xs=[.bl k]/\Q (.int (if k then 1 else 0)) H):=by
 intro pins s σ H xs us Q I r h
 rcases h with⟨i,rfl,q⟩|⟨k,rfl,q⟩
 ·obtain⟨u,rfl,t,rfl⟩:=Jr r
  exact call_int_int ⟨.int i,H,I,⟨_,rfl⟩,q⟩
 ·obtain⟨u,rfl,d⟩:=Jr r
  cases d
  exact call_int_bool ⟨.int (if k then 1 else 0),H,I.tok _,⟨_,rfl⟩,q⟩
def YM(K:Frag)(x:V)(H:Hp)(n:Nat):Prop :=
 match x with
 |.str y=>y.length<=sizeLine/\n=y.length
 |.ug y=>y.size<=sizeLine/\n=y.size
 |.ref p=>(∃d,aZ K H p d/\n=d.length)\/∃d,cF K H p d/\n=d.length
 |_=>False
theorem zWi:xr X (.builtin "len") (λxs H Q=>∃x n,xs=[x]/\YM X.K x H n/\Q (.int n) H):=by
 intro pins s σ H xs us Q I r h
 obtain⟨x,n,rfl,e,q⟩:=h
 obtain⟨u,rfl,rx⟩:=Jr r
 have hl:=Li
 have hs:sizeLine=16777216:=ae3
 cases x with
 |str y =>
  obtain⟨t,rfl⟩:=rx
  obtain⟨hy,e'⟩:y.length<=sizeLine/\n=y.length:=e
  subst e'
  exact len_str (by omega) ⟨.int _,H,I.tok _,⟨_,rfl⟩,q⟩
 |ug y =>
  obtain⟨t,rfl⟩:=rx
  obtain⟨hy,e'⟩:y.size<=sizeLine/\n=y.size:=e
  subst e'
  exact PySem.W.len_bytes (by omega) ⟨.int _,H,I.tok _,⟨_,rfl⟩,q⟩
 |ref p =>
  cases rx
  have e':(∃xs,aZ X.K H p xs/\n=xs.length)\/∃xs,cF X.K H p xs/\n=xs.length:=e
  rcases e' with⟨xs,hx,e'⟩|⟨xs,hx,e'⟩
  ·subst e'
   obtain⟨its,r',pl,hz⟩:=I.list hx
   have hlen:=r'.length
   exact Calls.call_len_list pl.isList (by simp only[size_toArray];omega) ⟨.int xs.length,H,I.tok _,⟨_,by simp only[size_toArray];rw[hlen]⟩,q⟩
  ·subst e'
   obtain⟨its,r',pl,hz⟩:=I.tuple hx
   have hlen:=r'.length
   exact len_tuple pl (by simp only[size_toArray];omega) ⟨.int xs.length,H,I.tok _,⟨_,by simp only[size_toArray];rw[hlen]⟩,q⟩
 |_=>exact(show False from e).elim
end
structure uo(h:Heap)(x dx C:Addr)(mA:Str->Option Value):Prop where
 obj:h.get? x=some (instObj C dx)
 ns:h.Ns1 dx mA
 ne:dx≠x
theorem zSg{h:Heap}(n:h.Ns1 l m):∃od,h.get? l=some od/\∀name,lookIn name od=some (m name):=by
 obtain⟨o,k,ep,g,j,f,_,d⟩:=n
 refine⟨o,g,λname=>?_⟩
 have e:=d name
 unfold nsFind findBy at e
 unfold lookIn
 rw[j]
 dsimp only
 split
 ·grind
 ·have a:k.toList.any (·.refKey)=false:=by
   rw[any_eq_false]
   intro y i
   obtain⟨z,t,c⟩:=f y (Array.mem_toList_iff.mp i)
   simp[DictEntry.refKey,c]
  grind
theorem uo.look(I:uo h x c C d):∃od,PySem.W.InstAt h x (instObj C c) C (some od)/\∀name,lookIn name od=some (d name) :=
 let⟨od,b,e⟩:=zSg I.ns
 ⟨od,⟨I.obj,rfl,rfl,b⟩,e⟩
section
variable{prog:Program}{w:World}{A:Around}{E:Value->Shared->Prop}{s:Shared}{K:Frag}{x dx C f:Addr}{mA:Str->Option Value}{name:Str}{v:Value}
theorem get_map{Q:Value->Shared->Prop}(X:K.In s.heap)(I:uo s.heap x dx C mA)(d:plainGet K C name=true)(c:hasDictIn K C=true)(b:findIn K (.ref C) name=some none)(hv:mA name=some v)(a:PySem.W.handedIn v=true)(h:Q v { s with toks:=s.toks+1 }) :
  wpAny (model prog w) A (getAttr (.ref x) name expr) Q E s:=by
 obtain⟨od,J,hl⟩:=I.look
 exact PySem.W.get_value X J (ae1 d).1 (PySem.W.findObj_own c b rfl (by grind)) a h
theorem zVw{Q:Value×List Value->Shared->Prop}(X:K.In s.heap)(I:uo s.heap x dx C mA)(hg:plainGet K C name=true)(hf:findIn K (.ref C) name=some (some (.ref f)))(ht:isFn K (.ref f)=true)(hv:mA name=none)(h:Q (.ref f,[.ref x]) s) :
  wpAny (model prog w) A (getMethod (.ref x) name pl) Q E s:=by
 obtain⟨od,J,hl⟩:=I.look
 exact PySem.W.method_fn X J (ae1 hg).1 (ae1 hg).2 hf (beq_iff_eq.mp ht) (by show(lookIn name od).map (·.isSome)=some false;rw[hl,hv];rfl) h
theorem Fx{Q:Unit->Shared->Prop}(X:K.In s.heap)(I:uo s.heap x dx C mA)(k:findIn K (.ref C) "__setattr__" = some (some (.builtin "object.__setattr__")))(l:PySem.W.plainOver K C=true)(o:takerIn K C name=some none)(n:hasDictIn K C=true)(q:afg mA ns)(hsz:ns.length<=sizeLine)(h:∀h',uo h' x dx C (λy=>if y=name then some v else mA y)->SameBut dx s.heap h'->Q () { s with heap:=h',toks:=s.toks+2 }) :
  wpAny (model prog w) A (setAttr (.ref x) name v) Q E s:=by
 obtain⟨od,J,hl⟩:=I.look
 refine PySem.W.set_plain X J k (PySem.W.osa_open (s:={ s with toks:=s.toks+1 }) (r:=none) X J l o λb=>?_)
 obtain⟨cd,p,i⟩:=PySem.W.any_some n
 have m:=I.obj
 refine aaw (aax (aaw (aaw (wpAny_loadPart m (aaw (PySem.W.Looks.here (s:={ s with toks:=s.toks+1 }) (PySem.W.looks_clsIn X p) ?_))))))
 rw[i]
 refine aax (a:=some dx) (aaw (aax (aaw ?_)))
 refine wpAny_nsSet1 (s:={ s with toks:=s.toks+1 }) I.ns λh' d c=>?_
 obtain⟨oD,esD,epD,e,g,j⟩:=d.count (PySem.Within.cons name v q)
 refine aaw (wpAny_lookBehind e (by rw[g];exact pastItsLine_dict (aa1 j (by grind))) ?_)
 exact aax (h _ ⟨(c.2 _ (acy I.ne)).trans I.obj,d,I.ne⟩ c)
theorem zVl(X:K.In s.heap)(d:PySem.W.makesIn K C=true)(e:findIn K (.ref C) "__init__" = some (some (.ref f)))(c:typeIn K (.ref f)=some (.type "function"))(h:codeAny (model prog w) (A.under (.builtin "type.__call__" ⟨.ref C::vs,b⟩)) (.call (.ref f) ⟨.ref (s.heap.objs.size+1)::vs,b⟩) (PySem.W.InitBack (s.heap.objs.size+1) R)
   { s with heap:=(s.heap.push emptyDict).push (instObj C s.heap.objs.size) }) :
  codeAny (model prog w) A (.call (.ref C) ⟨vs,b⟩) R s:=by
 exact PySem.W.make_core (PySem.W.makes_of X d) (PySem.W.looks_findIn X e) (λa=>PySem.W.bind_fn X a c) (.inl rfl) h
end
def aH(f:Str)(v:V):List (Str×V)->List (Str×V)
 |[]=>[(f,v)]
 | (g,x)::r=>if g=f then(g,v)::r else(g,x)::aH f v r
theorem zO(f g:Str)(v:V):∀fs:List (Str×V),(aH f v fs).lookup g=if g=f then some v else fs.lookup g
 |[]=>by
  show List.lookup g [(f,v)]=_
  grind
 | (k,x)::r=>by
  have ih:=zO f g v r
  rw[show aH f v ((k,x)::r)=(if k=f then(k,v)::r else(k,x)::aH f v r) from rfl]
  grind
theorem YQ(f:Str)(v:V):∀fs:List (Str×V),f∈(aH f v fs).map (·.1)/\∀g,g∈fs.map (·.1)->g∈(aH f v fs).map (·.1)
 |[]=>⟨by simp[aH],λg h=>by simp at h⟩
 | (k,x)::r=>by
  obtain⟨i1,i2⟩:=YQ f v r
  rw[show aH f v ((k,x)::r)=(if k=f then(k,v)::r else(k,x)::aH f v r) from rfl]
  grind
theorem zF7(f:Str)(v:V):∀fs:List (Str×V),(aH f v fs).length<=fs.length+1
 |[]=>by simp[aH]
 | (k,x)::r=>by
  have ih:=zF7 f v r
  rw[show aH f v ((k,x)::r)=(if k=f then(k,v)::r else(k,x)::aH f v r) from rfl]
  grind
theorem iy.some_of(r:iy (some v) o):∃u,o=some u/\RelV v u:=by
 cases o with
 |none=>exact(r).elim
 |some u=>exact⟨u,rfl,r⟩
theorem iy.none_of(r:iy none o):o=none:=by
 cases o with
 |none=>rfl
 |some u=>exact(r).elim
theorem zSs(r:RelV v u):PySem.W.handedIn u=true:=by
 cases v with
 |non=>cases(r);rfl
 |bl b=>cases(r);rfl
 |int i=>obtain⟨t,e⟩:=(r);cases e;rfl
 |str x=>obtain⟨t,e⟩:=(r);cases e;rfl
 |ug b=>obtain⟨t,e⟩:=(r);cases e;rfl
 |flt b=>obtain⟨t,e⟩:=(r);cases e;rfl
 |ref a=>cases(r);rfl
 |ty n=>cases(r);rfl
section
variable{P:Program}{w:World}{H H':Hp}{h h':Heap}{a C dx:Addr}{fs fs':List (Str×V)}
theorem Wv(c:iI P w H h)(e:H a=some (.ins C dx fs)):∃b,uo h a dx C b/\(∀f,iy (fs.lookup f) (b f))/\afg b (fs.map (·.1))/\fs.length<=1000/\H dx=some (.own a):=by
 obtain⟨d,z,g,i,b,n,r,q⟩:=(c a _ e)
 exact⟨b,⟨i,n,g⟩,r,q,z,d⟩
end
structure Cls(K:Frag)(C:Addr):Prop where
 pg:plainGet K C adw=true
 hd:hasDictIn K C=true
 po:PySem.W.plainOver K C=true
 sa:findIn K (.ref C) "__setattr__" = some (some (.builtin "object.__setattr__"))
theorem Cls.get{K:Frag}{C:Addr}(c:Cls K C)(f:Str):plainGet K C f=true:=c.pg
def bK(K:Frag)(C:Addr)(f:Str):Prop:=findIn K (.ref C) f=some none
theorem bK.taker{K:Frag}{C:Addr}{f:Str}(n:bK K C f):takerIn K C f=some none:=by
 unfold takerIn
 rw[n]
 rfl
structure Meth(K:Frag)(C:Addr)(m:Str)(f:Addr):Prop where
 at_:findIn K (.ref C) m=some (some (.ref f))
 fn:isFn K (.ref f)=true
 kp:keepIn K (.ref f)=true
section
variable{X:Cx}{pins:List (Addr×Obj)}{σ:St}{H:Hp}{s:Shared}{a C dx:Addr}{fs:List (Str×V)}{f:Str}{v:V}{A:Around}{E:Value->Shared->Prop}
theorem zPo{Q:Value->Shared->Prop}(I:Inv X pins σ H s)(e:H a=some (.ins C dx fs))(c:Cls X.K C)(n:bK X.K C f)(l:fs.lookup f=some v)(h:∀u s',Inv X pins σ H s'->RelV v u->Q u s'):wpAny (model X.prog X.w) A (getAttr (.ref a) f b) Q E s:=by
 obtain⟨g,O,r,_,_,_⟩:=Wv I.hok e
 obtain⟨u,i,d⟩:=iy.some_of (v:=v) (o:=g f) (by grind)
 exact get_map I.kh O (c.get f) c.hd n i (zSs d) (h u _ (I.tok _) d)
theorem YS{Q:Value×List Value->Shared->Prop}(I:Inv X pins σ H s)(e:H a=some (.ins C dx fs))(c:Cls X.K C)(k:Meth X.K C m g)(l:fs.lookup m=none)(h:Q (.ref g,[.ref a]) s):wpAny (model X.prog X.w) A (getMethod (.ref a) m pl) Q E s:=by
 obtain⟨b,O,r,_,_,_⟩:=Wv I.hok e
 have d:b m=none:=iy.none_of (by grind)
 exact zVw I.kh O (c.get m) k.at_ k.fn d h
theorem zOw{Q:Unit->Shared->Prop}(I:Inv X pins σ H s)(e:H a=some (.ins C dx fs))(c:Cls X.K C)(n:bK X.K C f)(hl:fs.length<1000)(p:RelV y u)(h:∀s',Inv X pins σ (upd H a (.ins C dx (aH f y fs))) s'->Q () s'):wpAny (model X.prog X.w) A (setAttr (.ref a) f u) Q E s:=by
 obtain⟨m,O,r,i,_,j⟩:=Wv I.hok e
 have B:(fs.map (·.1)).length<=sizeLine:=by rw[length_map,ae3];lia
 refine Fx I.kh O c.sa c.po n.taker c.hd i B λD d k=>h _ ?_
 have t:∃o,D.get? dx=some o:=let⟨o,_,_,G,_⟩:=d.ns;⟨o,G⟩
 refine I.write (x:=a) (e:=dx) (by rw[e];exact aco) (.inr j) (λb q l z=>(k.2 b l).trans z) t ?_
 refine⟨by rw[zT O.ne];exact j,?_,O.ne,d.obj,_,d.ns,λg=>?_,λg F=>?_⟩
 ·have:=zF7 f y fs;lia
 ·show iy ((aH f y fs).lookup g) (if g=f then some u else m g)
  rw[zO]
  by_cases q:g=f
  ·rw[if_pos q,if_pos q];exact p
  grind
 ·by_cases q:g=f
  ·rw[q];exact(YQ f y fs).1
  ·refine(YQ f y fs).2 g (i g λz=>F ?_)
   grind
theorem Inv.made(I:Inv X pins σ H s):Inv X pins σ (upd (upd H s.heap.objs.size (.own (s.heap.objs.size+1))) (s.heap.objs.size+1) (.ins C s.heap.objs.size []))
  { s with heap:=(s.heap.push emptyDict).push (instObj C s.heap.objs.size) }:=by
 have d:(s.heap.push emptyDict).get? s.heap.objs.size=some emptyDict:=get?_push_size s.heap rfl
 have j:=by
  have:=get?_push_size (s.heap.push emptyDict) (o:=instObj C s.heap.objs.size) rfl
  rwa [size_push] at this
 have k:(s.heap.push emptyDict).Ns s.heap.objs.size (λ_=>none):=⟨emptyDict,#[],_,d,rfl,(λe l=>absurd l (by simp)),λ_=>rfl⟩
 have h:=I.laid (o:=.own (s.heap.objs.size+1)) (t':=s.toks) (λb u q=>get?_push_of_some _ q) (aa0 _) ⟨_,d⟩
 refine h.laid (λb u q=>get?_push_of_some _ q) (afd (size_push _ _)) ?_
 have g:s.heap.objs.size≠s.heap.objs.size+1:=aa4 (ab9 _)
 refine⟨by rw[zT g,zM],abg _,g,j,λ_=>none,(Heap.Ns1.of_empty k).at λo q=>get?_push_of_some _ q,λ_=>aco,λy i=>absurd rfl i⟩
theorem Fy(b:attributeBase e f env (eval e env)=eval e env)(h:wpAny (model prog w) A (eval e env) (λo c=>wpAny (model prog w) A (getAttr o f true) Q E c) E s):wpAny (model prog w) A (eval (.Attribute e f pos) env) Q E s :=
 Attribute_any_ h (by rw[arm_eval_Attribute,b])
end
def qY(K:Frag)(d:TE)(f:Str):TE:=λσ H Q=>d σ H λx c=>∃a C g b v,x=.ref a/\c a=some (.ins C g b)/\Cls K C/\bK K C f/\b.lookup f=some v/\Q v c
def YT(K:Frag)(h g:TE)(f:Str):TS:=λD σ H=>g σ H λy i=>h σ i λx d=>∃a C c b,x=.ref a/\d a=some (.ins C c b)/\Cls K C/\bK K C f/\b.length<1000 /\
 D.nx σ (upd d a (.ins C c (aH f y b)))
section
variable{X:Cx}{o e value:Expr}{f:Str}{pos pos' tpos:Pos}{ta tv:TE}
theorem Ww(p:PE X e ta)(d:attributeBase e f X.env (eval e X.env)=eval e X.env):PE X (.Attribute e f pos) (qY X.K ta f):=by
 intro b s σ H Q I h
 refine Fy d (aQ (p b s σ H _ I h) ?_)
 rintro u s1 ⟨x,m,j,r,a,C,dx,fs,v,t,i,c,n,l,q⟩
 subst t
 obtain rfl:u=abq a:=r
 exact zPo j i c n l λu' s2 g k=>⟨v,m,g,k,q⟩
theorem DQ(m:PE X o ta)(i:PE X value tv)(k:swapsWith value (some (.Attribute o f pos')) pos.line X.env=pure false):PS X (.Assign [.Attribute o f pos'] value pos) (YT X.K ta tv f):=by
 intro b s σ H D I h
 refine plainObj_wpAny_Assign_Attribute (aQ (i b s σ H _ I h) λu d ⟨y,j,B,v,q⟩=>aQ (m b d σ j _ B q) ?_) k
 rintro t s2 ⟨x,H2,g,p,a,C,dx,fs,w,z,c,n,l,r⟩
 subst w
 obtain rfl:t=abq a:=p
 exact zOw g z c n l v λs3 A=>⟨σ,_,A,r⟩
end
section
variable{X:Cx}{pins:List (Addr×Obj)}{σ:St}{H:Hp}{s:Shared}{A:Around}{E:Value->Shared->Prop}{Q:Value->Shared->Prop}{c:Value}{b:Bool}
inductive kE(K:Frag)(H:Hp):V->Value->Prop where
 |non:kE K H .non (.type "NoneType")
 |bl (x:Bool):kE K H (.bl x) (.type "bool")
 |int (i:Int):kE K H (.int i) (.type "int")
 |str (x:Str):kE K H (.str x) (.type "str")
 |flt (x:UInt64):kE K H (.flt x) (.type "float")
 |lst {a:Addr} {xs:List V} (e:H a=some (.lst xs)):kE K H (.ref a) (.type "list")
 |uc {a:Addr} {o:Obj} {xs:List V} (e:H a=some (.uc o (.lst xs))):kE K H (.ref a) (.type "list")
 |tup {a:Addr} {xs:List V} (e:H a=some (.tup xs)):kE K H (.ref a) (.type "tuple")
 |dK {a:Addr} {kvs:List (Key×V)} (e:H a=some (.dK kvs)):kE K H (.ref a) (.type "dict")
 |dT {a:Addr} {kvs:List (List Key×V)} (e:H a=some (.dT kvs)):kE K H (.ref a) (.type "dict")
 |ins {a C dx:Addr} {fs:List (Str×V)} (e:H a=some (.ins C dx fs)) (cl:Cls K C) (ha:findIn K (.ref C) "__class__" = some (some (.builtin "object.__class__")))
   (hn:specialIn K (.builtin "object.__class__") "__get__" = some (some (.builtin "getset_descriptor.__get__"))) (htk:takesIn K (.builtin "object.__class__")=some true)
   (hm:mroIn K C (.type "object")=some true):kE K H (.ref a) (.ref C)
theorem zSo(I:Inv X pins σ H s)(g:RelV x u)(F:kE X.K H x t)(e:kitOne X.K t c=some b)(h:∀tk,Q (.bool b) { s with toks:=tk }) :
  wpAny (model X.prog X.w) A (call (.builtin "isinstance") [u,c]) Q E s:=by
 cases F with
 |non=>cases(show u=adt from g);exact ad3 PySem.W.kitx_none I.kh aco e (λz=>nomatch z) h
 |bl y=>cases(show u=Value.bool y from g);exact ad3 PySem.W.kitx_bool I.kh aco e (λz=>nomatch z) h
 |int i=>obtain⟨t,q⟩:=(show∃t,u=acd i t from g);cases q;exact ad3 PySem.W.kitx_int I.kh aco e (λz=>nomatch z) h
 |str y=>obtain⟨t,q⟩:=(show∃t,u=Value.str y t from g);cases q;exact ad3 PySem.W.kitx_str I.kh aco e (λz=>nomatch z) h
 |flt y=>obtain⟨t,q⟩:=(show∃t,u=Value.float y t from g);cases q;exact ad3 PySem.W.kitx_float I.kh aco e (λz=>nomatch z) h
 |@lst a l f =>
  cases(show u=abq a from g)
  obtain⟨_,_,n,_,j⟩:=(show cu X.prog X.w H s.heap a (.lst l) from I.hok a _ f)
  exact ad3 PySem.W.kitx_list I.kh ⟨_,j,rfl⟩ e (λz=>nomatch z) h
 |@uc a ob l f =>
  cases(show u=abq a from g)
  obtain⟨_,_,_,n,_,j⟩:=(show cu X.prog X.w H s.heap a (.uc ob (.lst l)) from I.hok a _ f)
  exact ad3 PySem.W.kitx_list I.kh ⟨_,j,rfl⟩ e (λz=>nomatch z) h
 |@tup a l f =>
  cases(show u=abq a from g)
  obtain⟨_,_,_,p⟩:=(show cu X.prog X.w H s.heap a (.tup l) from I.hok a _ f)
  obtain⟨o,j,m,_⟩:=p
  exact ad3 PySem.W.kitx_tuple I.kh ⟨o,j,m⟩ e (λz=>nomatch z) h
 |@dK a k f =>
  cases(show u=abq a from g)
  obtain⟨_,_,vs,_,p⟩:=(show cu X.prog X.w H s.heap a (.dK k) from I.hok a _ f)
  obtain⟨o,B,G,j,m,_⟩:=p
  exact ad3 PySem.W.kitx_dict I.kh ⟨o,j,m.1⟩ e (λz=>nomatch z) h
 |@dT a k f =>
  cases(show u=abq a from g)
  obtain⟨_,_,l,_,o,B,G,j,m,_⟩:=(show cu X.prog X.w H s.heap a (.dT k) from I.hok a _ f)
  exact ad3 PySem.W.kitx_dict I.kh ⟨o,j,m.1⟩ e (λz=>nomatch z) h
 |@ins a C dx fs f v L hn r D =>
  cases(show u=abq a from g)
  obtain⟨mA,O,_⟩:=Wv I.hok f
  obtain⟨od,J,_⟩:=O.look
  exact ad3 (PySem.W.kitx_own (v.get _) v.hd L hn r D) I.kh J e (λz=>nomatch z) h
end
structure bR(k:Nat)(A:Around):Prop where
 hd:A.handled=none
 dp:A.depth+3*k+5<recursionLimit
 un:A.units+16*k+200<cLine
theorem bR.mono(r:bR k A)(h:j<=k):bR j A:=⟨r.hd,by have:=r.dp;lia,by have:=r.un;omega⟩
theorem bR.deeper(r:bR (k+1) A)(env:Env):bR k (A.deeper env) :=
 ⟨r.hd,by have:=r.dp;show A.depth+1+3*k+5<_;lia,by have:=r.un;show A.units+3+16*k+200<_;omega⟩
theorem zPi{A:Around}:(A.under (.builtin "type.__call__" ⟨.ref C::us,kw⟩)).depth=A.depth+1:=by
 first|rfl|grind
theorem zPh{A:Around}:(A.under (.builtin "type.__call__" ⟨.ref C::us,kw⟩)).units=A.units+1:=by
 first|rfl|grind
theorem bR.make(r:bR (k+1) A)(C:Addr)(us:List Value)(a:List (Str×Value)):bR k (A.under (.builtin "type.__call__" ⟨.ref C::us,a⟩)) :=
 ⟨r.hd,by have:=r.dp;rw[zPi];lia,by have:=r.un;rw[zPh];omega⟩
theorem bR.depth(r:bR k A):A.depth<recursionLimit:=by have:=r.dp;lia
theorem bR.units(r:bR k A):A.units+64<cLine:=by have:=r.un;lia
def bI:TA:=λ_ H Q=>Q [] H
def yW(a:TE)(e:TA):TA:=λσ H Q=>a σ H λx c=>e σ c λd b=>Q (x::d) b
section
variable{X:Cx}{e:Expr}{es:List Expr}{te:TE}{t:TA}{pos:Pos}
theorem zF:PA X [] bI:=λ_ _ _ _ H Q I h=>ady ⟨[],H,I,.nil,h⟩
theorem zA(n:PE X e te)(k:PA X es t)(m:starEach (e::es) X.env=(false,eval e X.env)::starEach es X.env:=by rfl):PA X (e::es) (yW te t):=by
 intro pos a s σ H Q I h
 rw[m]
 refine ac3 (aQ (n a s σ H _ I h) ?_)
 rintro u o ⟨x,j,g,f,l⟩
 exact aQ (k pos a o σ j _ g l) (by rintro us s2 ⟨i,p,d,c,b⟩;exact⟨x::i,p,d,.cons f c,b⟩)
def zp(t:TA):TE:=λσ H Q=>t σ H λb c=>b.length<=sizeLine/\∀p,c p=none->Q (.ref p) (upd c p (.tup b))
def BK(t:TA):TE:=λσ H Q=>t σ H λa b=>a.length<=sizeLine/\∀p,b p=none->Q (.ref p) (upd b p (.lst a))
theorem uU{f}(h:PA X es t):PE X (.Tuple es f pos) (zp t):=by
 intro a s σ H Q I l
 refine wpAny_Tuple_spliced (aQ (h pos a s σ H _ I l) λk d ⟨g,i,c,r,z,q⟩=>⟨by rw[<-r.length];exact z,?_⟩)
 have j:=c.hok.fresh (aa0 _)
 refine⟨.ref d.heap.objs.size,upd i d.heap.objs.size (.tup g),c.laid (λb u e=>get?_push_of_some _ e) (aa0 _) ?_,rfl,q _ j⟩
 exact⟨z,k,r,⟨_,get?_push_size _ rfl,rfl,_,rfl⟩⟩
theorem xY(h:PA X es t):PE X (.List es pos) (BK t):=by
 intro a s σ H Q I f
 refine wpAny_List_spliced (aQ (h pos a s σ H _ I f) λk c ⟨g,i,d,r,z,q⟩=>⟨by rw[<-r.length];exact z,?_⟩)
 have j:=d.hok.fresh (aa0 _)
 refine⟨.ref c.heap.objs.size,upd i c.heap.objs.size (.lst g),d.laid (λb u e=>get?_push_of_some _ e) (aa0 _) ?_,rfl,q _ j⟩
 exact⟨z,k,0,r,get?_push_size _ rfl⟩
end
abbrev Sp:=List V->Hp->VK->XK->Prop
abbrev Bg:=List Env->Hp->Shared->XK->Value->Shared->Prop
structure uq(P:Program)(w:World)(K:Frag)(mg:Str->Option Value)(base:Heap)(A:Around)(outer:List Env)(s:Shared)(H:Hp):Prop where
 frames:A.frames=some outer
 mod:Mod K mg base
 bs:∀b o,base.get? b=some o->s.heap.get? b=some o/\H b=none
 E_:base.objs.size<=s.heap.objs.size
 m7:s.heap.FunFrames base outer
 KN:∀b∈frs outer,H b=none
 hok:iI P w H s.heap
 bare:AllBare s.gens
def CE(b:List Env)(P:Program)(w:World)(H:Hp)(s:Shared)(Q:VK)(u:Value)(s':Shared):Prop :=
 ∃v c,s'.os=s.os/\AllBare s'.gens/\Un (frs b) [] H c s.heap s'.heap/\iI P w c s'.heap/\RelV v u/\Q v c
def CR(CX:Bg)(a:List Env)(P:Program)(w:World)(H:Hp)(s:Shared)(Q:VK)(E:XK)(r:Result)(s':Shared):Prop :=
 match r with
 |.ok (.ret u)=>CE a P w H s Q u s'
 |.ok _=>False
 |.error e=>CX a H s E e s'
structure aq(P:Program)(w:World)(K:Frag)(mg:Str->Option Value)(base:Heap)(CX:Bg)(k:Nat)(f:Addr)(fd:FuncData)(ps:List Str)(sp:Sp):Prop where
 len:∀vs H Q E,sp vs H Q E->vs.length=ps.length
 run:∀(A:Around)(outer:List Env)(s:Shared)(H:Hp)(args:Args)(us:List Value)(vs:List V)(Q:VK)(E:XK),bR k A->uq P w K mg base A outer s H->BindsTo s fd args (ps.zip us)->Vals vs us->sp vs H Q E ->
  codeAny (model P w) A (.call (.ref f) args) (CR CX outer P w H s Q E) s
theorem aq.mono{P:Program}{w:World}{K:Frag}{mg:Str->Option Value}{base:Heap}{CX:Bg}{j k:Nat}{f:Addr}{c:FuncData}{ps:List Str}{sp:Sp}(F:aq P w K mg base CX j f c ps sp)(h:j<=k) :
  aq P w K mg base CX k f c ps sp:=⟨F.len,λA a s H b g d Q E e=>F.run A a s H b g d Q E (e.mono h)⟩
theorem aq.imp{P:Program}{w:World}{K:Frag}{mg:Str->Option Value}{base:Heap}{CX:Bg}{k:Nat}{f:Addr}{e:FuncData}{ps:List Str}{sp d:Sp}(F:aq P w K mg base CX k f e ps sp)(h:∀vs H Q E,d vs H Q E->sp vs H Q E):aq P w K mg base CX k f e ps d :=
 ⟨λvs H Q E q=>F.len vs H Q E (h _ _ _ _ q),λA b s H c l vs Q E n i g m j=>F.run A b s H c l vs Q E n i g m (h _ _ _ _ j)⟩
theorem uq.make{P:Program}{w:World}{K:Frag}{mg:Str->Option Value}{base:Heap}{A:Around}{a:List Env}{s:Shared}{H:Hp}(e:uq P w K mg base A a s H)(C:Addr)(us:List Value)(b:List (Str×Value)) :
  uq P w K mg base (A.under (.builtin "type.__call__" ⟨.ref C::us,b⟩)) a s H:=⟨by first|exact e.frames|grind,e.mod,e.bs,e.E_,e.m7,e.KN,e.hok,e.bare⟩
section
variable{X:Cx}{pins:List (Addr×Obj)}{σ:St}{H:Hp}{s s':Shared}
theorem Inv.env0(I:Inv X pins σ H s):uq X.prog X.w X.K X.mg X.base X.A X.stack s H :=
 ⟨I.ok.frames,I.ok.mod,I.bs,aa1 I.ok.E_ I.sz,I.stack,I.xq,I.hok,I.bare⟩
theorem Inv.after(I:Inv X pins σ H s)(h:CE X.stack X.prog X.w H s Q u s'):EP X pins σ Q u s':=by
 obtain⟨v,j,os,c,i,e,r,q⟩:=h
 obtain⟨hh,g,d,t,f⟩:=s'
 obtain rfl:f=s.os:=os
 exact⟨v,j,I.call i e c (λb z=>absurd z (by simp)),r,q⟩
end
def Bh(sp:Sp)(a:List V)(E:XK)(t:TA):TE:=λσ H Q=>t σ H λb c=>sp (b++a) c Q E
def Td(C:Addr)(m:Str)(sp:Sp)(b:List V)(E:XK)(h:TE)(t:TA):TE:=λσ H Q=>h σ H λx d=>∃a g c,x=.ref a/\d a=some (.ins C g c)/\c.lookup m=none /\
 t σ d λf e=>sp (x::(f++b)) e Q E
def QT(C:Addr)(sp:Sp)(c:List V)(E:XK)(t:TA):TE:=λσ H Q=>t σ H λe d=>∀x b,d x=none->d b=none->b≠x ->
 sp (.ref x::(e++c)) (upd (upd d b (.own x)) x (.ins C b [])) (λv f=>v=.non/\Q (.ref x) f) E
def Binds(K:Frag)(c:FuncData)(ps:List Str)(b:List Value):Prop :=
 ∀(s:Shared)(a:List Value),K.In s.heap->(a++b).length=ps.length->BindsTo s c ⟨a,[]⟩ (ps.zip (a++b))
theorem Binds.all{K:Frag}{b:FuncData}{ps:List Str}(h:∀us:List Value,us.length=ps.length->bindArgs b ⟨us,[]⟩=pure (ps.zip us)):Binds K b ps []:=λs us _ a=>by
 rw[append_nil] at a ⊢
 exact .of_eq (h us a)
def DW(CX:Bg)(X:Cx)(E:XK):Prop:=∀(b:List (Addr×Obj))(σ:St)(H:Hp)(s:Shared)(e:Value)(c:Shared),Inv X b σ H s->CX X.stack H s E e c->X.xe e c
section
variable{X:Cx}{CX:Bg}{k:Nat}{f C:Addr}{fd:FuncData}{ps:List Str}{sp:Sp}{nZ:List V}{ds:List Value}{E:XK}{x m:Str}{p pos apos:Pos}{e o:Expr}{es:List Expr}{ta:TE}{t:TA}
theorem Te(F:aq X.prog X.w X.K X.mg X.base CX k f fd ps sp)(j:bR k X.A)(d:Binds X.K fd ps ds)(n:Vals nZ ds)(i:DW CX X E)(I:Inv X a σ H s)(r:Vals vs us)(h:sp (vs++nZ) H Q E):wpAny (model X.prog X.w) X.A (call (.ref f) us) (EP X a σ Q) X.xe s:=by
 have c:=r.append n
 have q:(us++ds).length=ps.length:=by rw[<-c.length];exact F.len _ _ _ _ h
 refine wpAny_call (adf (F.run X.A X.stack s H ⟨us,[]⟩ (us++ds) (vs++nZ) Q E j I.env0 (d s us I.kh q) c h) λr l b=>?_)
 cases r with
 |error e=>exact i a σ H s e l I b
 |ok g =>
  cases g with
  |ret u=>exact I.after b
  |next=>exact aby b
  |brk=>exact aby b
  |cont=>exact aby b
theorem Lk(F:aq X.prog X.w X.K X.mg X.base CX k f fd ps sp)(i:bR k X.A)(z:Gl X x)(l:X.mg x=some (.ref f))(v:keepIn X.K (.ref f)=true)(j:Binds X.K fd ps ds)(u:Vals nZ ds)(B:DW CX X E)(n:PA X (e::es) t)(d:(x==("__debug__":Str))=false:=by decide)(y:starEach (e::es) X.env=(false,eval e X.env)::starEach es X.env:=by rfl)(c:(backTo pos (starEach es X.env)).any (·.1)=false:=by rfl) :
  PE X (.Call (.Name x p) (e::es) [] pos) (Bh sp nZ E t):=by
 intro b s σ H Q I h
 refine abz (Sw I z l ?_ d)
 refine aew I.ok.mod.QC v (aQ (n pos b s σ H _ I h) λus s1 ⟨vs,H1,g,r,q⟩=>⟨g.kh,?_⟩) y c
 exact Te F i j u B g r q
theorem Fz(he:PE X o ta)(c:Cls X.K C)(j:Meth X.K C m f)(F:aq X.prog X.w X.K X.mg X.base CX k f fd ps sp)(hr:bR k X.A)(G:Binds X.K fd ps ds)(hd:Vals nZ ds)(J:DW CX X E)(ha:PA X (e::es) t)(g:starEach (e::es) X.env=(false,eval e X.env)::starEach es X.env:=by rfl)(i:(backTo pos (starEach es X.env)).any (·.1)=false:=by rfl)(ht:eval (.Call (.Attribute o m apos) (e::es) [] pos) X.env=(do
   let y <-eval o X.env
   standAt apos.atName
   let(f,first) <-holding [y] (getMethod y m pl)
   callWith pos f first (backTo pos (starEach (e::es) X.env)) (backToKw pos (keywordEach [] X.env))):=by rfl) :
  PE X (.Call (.Attribute o m apos) (e::es) [] pos) (Td C m sp nZ E ta t):=by
 intro b s σ H Q I h
 refine aec (aQ (he b s σ H _ I h) ?_) ht
 rintro u z ⟨x,L,v,B,a,dx,fs,ex,ea,l,q⟩
 subst ex
 obtain rfl:u=abq a:=B
 refine YS v ea c j l ?_
 refine aew I.ok.mod.QC j.kp (aQ (ha pos b z σ L _ v q) λus s2 ⟨vs,H2,n,r,D⟩=>⟨n.kh,?_⟩) g i
 exact Te (vs:=.ref a::vs) F hr G hd J n (.cons rfl r) D
theorem zU0(G:PE X o ta)(c:Cls X.K C)(i:Meth X.K C m f)(F:aq X.prog X.w X.K X.mg X.base CX k f fd ps sp)(D:bR k X.A)(r:Binds X.K fd ps ds)(J:Vals nZ ds)(v:DW CX X E)(B:eval (.Call (.Attribute o m apos) [] [] pos) X.env=(do
   let j <-eval o X.env
   standAt apos.atName
   let(f,first) <-holding [j] (getMethod j m pl)
   callWith pos f first (backTo pos (starEach [] X.env)) (backToKw pos (keywordEach [] X.env))):=by rfl) :
  PE X (.Call (.Attribute o m apos) [] [] pos) (Td C m sp nZ E ta bI):=by
 intro d s σ H Q I h
 refine aec (aQ (G d s σ H _ I h) ?_) B
 rintro u s1 ⟨x,H1,g,n,a,dx,fs,y,z,l,q⟩
 subst y
 obtain rfl:u=abq a:=n
 refine YS g z c i l ?_
 exact ae0 g.kh i.kp (Te (vs:=[.ref a]) F D r J v g (.cons rfl .nil) q)
structure Mk(K:Frag)(C f:Addr):Prop where
 makes:PySem.W.makesIn K C=true
 init:findIn K (.ref C) "__init__" = some (some (.ref f))
 fn:isFn K (.ref f)=true
 kp:keepIn K (.ref C)=true
theorem zM2(M:Mk X.K C f)(F:aq X.prog X.w X.K X.mg X.base CX k f fd ps sp)(hr:bR (k+1) X.A)(hb:Binds X.K fd ps ds)(hd:Vals nZ ds)(hx:DW CX X E)(I:Inv X pins σ H s)(r:Vals vs us)(h:∀x dx,H x=none->H dx=none->dx≠x->sp (.ref x::(vs++nZ)) (upd (upd H dx (.own x)) x (.ins C dx [])) (λv H2=>v=.non/\Q (.ref x) H2) E) :
  wpAny (model X.prog X.w) X.A (call (.ref C) us) (EP X pins σ Q) X.xe s:=by
 have hq:=h (s.heap.objs.size+1) s.heap.objs.size (I.hok.fresh (acf _)) (I.hok.fresh (aa0 _)) (aa4 (ab9 _))
 have I2:=Inv.made (C:=C) I
 have r2:Vals (V.ref (s.heap.objs.size+1)::(vs++nZ)) (abq (s.heap.objs.size+1)::(us++ds)):=.cons rfl (r.append hd)
 have hl:(abq (s.heap.objs.size+1)::us++ds).length=ps.length:=by
  have e:=r2.length
  rw[F.len _ _ _ _ hq] at e
  exact e.symm
 refine wpAny_call (zVl (f:=f) I.kh M.makes M.init (beq_iff_eq.mp M.fn) (adf (F.run _ X.stack _ _ ⟨abq (s.heap.objs.size+1)::us,[]⟩ (abq (s.heap.objs.size+1)::(us++ds)) _ _ E (hr.make C us [])
  (I2.env0.make C us []) (hb _ (abq (s.heap.objs.size+1)::us) I2.kh hl) r2 hq) λr s' hq'=>?_))
 cases r with
 |error e=>exact hx pins σ _ _ e s' I2 hq'
 |ok fl =>
  cases fl with
  |ret u =>
   obtain⟨v,H',I3,rv,ev,q3⟩:=I2.after hq'
   subst ev
   exact⟨rv,⟨V.ref (s.heap.objs.size+1),H',I3,rfl,q3⟩⟩
  |next=>exact aby hq'
  |brk=>exact aby hq'
  |cont=>exact aby hq'
theorem vQ(M:Mk X.K C f)(F:aq X.prog X.w X.K X.mg X.base CX k f fd ps sp)(n:bR (k+1) X.A)(y:Gl X x)(l:X.mg x=some (.ref C))(j:Binds X.K fd ps ds)(u:Vals nZ ds)(g:DW CX X E)(i:PA X (e::es) t)(c:(x==("__debug__":Str))=false:=by decide)(v:starEach (e::es) X.env=(false,eval e X.env)::starEach es X.env:=by rfl)(b:(backTo pos (starEach es X.env)).any (·.1)=false:=by rfl) :
  PE X (.Call (.Name x p) (e::es) [] pos) (QT C sp nZ E t):=by
 intro a s σ H Q I h
 refine abz (Sw I y l ?_ c)
 refine aew I.ok.mod.QC M.kp (aQ (i pos a s σ H _ I h) λus s1 ⟨vs,H1,d,r,q⟩=>⟨d.kh,?_⟩) v b
 exact zM2 M F n j u g d r q
theorem zU1(M:Mk X.K C f)(F:aq X.prog X.w X.K X.mg X.base CX k f fd ps sp)(c:bR (k+1) X.A)(d:Gl X x)(j:X.mg x=some (.ref C))(i:Binds X.K fd ps ds)(g:Vals nZ ds)(b:DW CX X E)(a:(x==("__debug__":Str))=false:=by decide):PE X (.Call (.Name x p) [] [] pos) (QT C sp nZ E bI):=by
 intro pins s σ H Q I h
 refine abz (Sw I d j ?_ a)
 exact ae0 I.kh M.kp (zM2 M F c i g b I .nil h)
end
structure ao(N P:List Str)(sc:Scope):Prop where
 kind:sc.kind=.function
 co:sc.isCoroutine=false
 gen:sc.isGenerator=false
 nd:N.Nodup
 pre:N.take P.length=P
 par:∀x∈P,sc.names.lookup x=some .local\/sc.names.lookup x=some .cell
 Ln:∀y∈sc.names,y.2≠.free
theorem zK0{kindOf:Str->Option NameKind}{x:Str}:∀{a:List (Str×Value)}{m:Str->Option Value},(∀v,(x,v)∉a)->bindL kindOf a m x=m x
 |[],_,_=>rfl
 | (n,v)::r,m,h=>by
  unfold bindL
  rw[zK0 λw b=>h w (mem_cons_of_mem _ b)]
  split
  ·grind
  ·rfl
theorem zK2{kindOf:Str->Option NameKind}{x:Str}:∀{a:List (Str×Value)}{m:Str->Option Value},(∀v,(x,v)∉a)->bindC kindOf a m x=m x
 |[],_,_=>rfl
 | (n,v)::r,m,h=>by
  unfold bindC
  rw[zK2 λw b=>h w (mem_cons_of_mem _ b)]
  split
  ·rfl
  grind
theorem zK1{kindOf:Str->Option NameKind}:∀{P:List Str}{vs:List Value}{i:Nat}{m:Str->Option Value},P.Nodup->P[i]?=some x->vs[i]?=some v->kindOf x=some .local ->
  bindL kindOf (P.zip vs) m x=some v
 |[],_,_,_,_,h,_,_=>by simp at h
 |_::_,[],_,_,_,_,h,_=>by simp at h
 |p::P,w::vs,0,m,nd,h1,h2,hk=>by
  simp at h1 h2;subst h1;subst h2
  show bindL kindOf ((p,w)::P.zip vs) m p=_
  unfold bindL
  rw[zK0 λv hv=>(nodup_cons.mp nd).1 (of_mem_zip hv).1,if_pos hk]
  simp
 |p::P,w::vs,i+1,m,nd,h1,h2,hk=>by
  show bindL kindOf ((p,w)::P.zip vs) m x=_
  unfold bindL
  exact zK1 (i:=i) (nodup_cons.mp nd).2 (by simpa using h1) (by simpa using h2) hk
theorem zK3{kindOf:Str->Option NameKind}:∀{P:List Str}{vs:List Value}{i:Nat}{m:Str->Option Value},P.Nodup->P[i]?=some x->vs[i]?=some v->kindOf x≠some .local ->
  bindC kindOf (P.zip vs) m x=some v
 |[],_,_,_,_,h,_,_=>by simp at h
 |_::_,[],_,_,_,_,h,_=>by simp at h
 |p::P,w::vs,0,m,c,b,a,d=>by
  simp at b a;subst b;subst a
  show bindC kindOf ((p,w)::P.zip vs) m p=_
  unfold bindC
  rw[zK2 λv e=>(nodup_cons.mp c).1 (of_mem_zip e).1,if_neg d]
  simp
 |p::P,w::vs,i+1,m,c,b,a,d=>by
  unfold bindC
  exact zK3 (i:=i) (nodup_cons.mp c).2 (by grind) (by grind) d
def start(N:List Str)(vs:List V):St:=vs.map some++replicate (N.length-vs.length) none
def qj(CX:Bg)(P:Program)(w:World)(K:Frag)(mg:Str->Option Value)(base:Heap)(N:List Str)(d:Str)(b:Scope)(f:Addr)(h:Value)(A:Around)(c:List Env)(s:Shared)(H:Hp)(E:XK):Cx where
 prog:=P
 w:=w
 K:=K
 mg:=mg
 base:=base
 A:=A.deeper (envOfC d b s.heap.objs.size f h)
 N:=N
 s₀:=s
 H₀:=H
 env:=envOfC d b s.heap.objs.size f h
 outer:=c
 stack:=envOfC d b s.heap.objs.size f h::c
 ex:=[]
 calm:=true
 fn:=λ_=>true
 pn:=[]
 xe:=λe i=>wpAny (model P w) (A.deeper (envOfC d b s.heap.objs.size f h)) (leaving (envOfC d b s.heap.objs.size f h) e) (λ_ g=>CX c H s E e g) (λj g=>CX c H s E j g) i
theorem zN4{a:Scope}(h:a.names.lookup x=some .cell):∃c,(cellsFrom n a.names []).lookup x=some c:=by
 have q:=ada a.names n [] (.inl h)
 exact abr.mp q
theorem zSp{CX:Bg}{P:Program}{w:World}{K:Frag}{mg:Str->Option Value}{base:Heap}{N ps:List Str}{qual:Str}{scope:Scope}{f:Addr}{cd:Value}{A:Around}{outer:List Env}{s s1:Shared}{H:Hp}{E:XK}{us:List Value}{vs:List V}(S:ao N ps scope)(hd:A.handled=none)(e0:uq P w K mg base A outer s H)(hl:vs.length=ps.length)(r:Vals vs us)(x:InCallC s s.heap.objs.size (bindL (envOfC qual scope s.heap.objs.size f cd).kindOf (ps.zip us) λ_=>none) (cellsFrom (s.heap.objs.size+1) scope.names []) (bindC (envOfC qual scope s.heap.objs.size f cd).kindOf (ps.zip us) λ_=>none) s1) :
  Inv (qj CX P w K mg base N qual scope f cd A outer s H E) [] (start N vs) H s1:=by
 have hpl:ps.length<=N.length:=by have:=congrArg List.length S.pre;rw[length_take] at this;omega
 obtain⟨h1,tk,rfl,hk⟩:=x.done
 have YW:∀b:Addr,b∉(qj CX P w K mg base N qual scope f cd A outer s H E).ex:=λb z=>absurd (show b∈([]:List Addr) from z) (by simp)
 refine⟨⟨e0.mod,S.kind,rfl,rfl,aa0 _,λy z c h1 h2=>?_,λy hy=>?_,λy c _ h=>?_,λ_=>hd,Around.frames_deeper e0.frames,.inr ⟨rfl,rfl⟩,λb z=>absurd z (YW b),e0.bs,e0.E_,λb _ _=>YW b,λb z=>absurd z (YW b),e0.m7,e0.KN⟩,
  rfl,e0.bare,Un.kept hk,⟨_,x.toInCall.ns,λi y v h1 h2 h3=>?_⟩,λy c h=>⟨_,x.cell y c h⟩,e0.hok.fresh (aa0 _),λy c h=>?_,λp hp=>absurd (show p∈([]:List (Addr×Obj)) from hp) (by simp),e0.hok.kept hk,?_⟩
 ·exact name_of_addr x.apart (abv h1) (abv h2)
 ·have hy:scope.names.lookup y=some .cell\/scope.names.lookup y=some .free:=hy
  rcases hy with hy|hy
  ·exact zN4 hy
  ·exact absurd rfl (S.Ln _ (abv hy))
 ·exact acv (x.above y c (abv h))
 ·have hi:i<vs.length:=by
   unfold start at h2
   by_cases hi:i<vs.length
   ·exact hi
   ·rw[getElem?_append_right (by simpa using hi)] at h2
    rw[List.getElem?_replicate] at h2
    split at h2<;>cases h2
  have ha:vs[i]?=some v:=by
   unfold start at h2
   rw[getElem?_append_left (by simpa using hi),getElem?_map] at h2
   cases e:vs[i]? with
   |none=>rw[e] at h2;cases h2
   |some a=>rw[e] at h2;cases h2;rfl
  obtain⟨u,hu,rv⟩:=r.get ha
  have hp:ps[i]?=some y:=by
   rw[<-S.pre,getElem?_take_of_lt (by omega)];exact h1
  have ndP:ps.Nodup:=by rw[<-S.pre];exact S.nd.sublist (List.take_sublist _ _)
  refine⟨u,rv,?_⟩
  rcases S.par y (mem_of_getElem? hp) with k|k
  ·exact .inl ⟨k,zK1 ndP hp hu k⟩
  ·obtain⟨c,e⟩:=zN4 (n:=s.heap.objs.size+1) k
   refine .inr ⟨.inl k,c,e,?_⟩
   have q:=x.cell y c e
   rw[zK3 ndP hp hu (by show scope.names.lookup y≠_;rw[k];decide)] at q
   exact q
 ·exact e0.hok.fresh (acv (x.above y c (abv h)))
 ·unfold start
  show _=N.length
  rw[length_append,length_map,List.length_replicate]
  omega
theorem Js{CX:Bg}{P:Program}{w:World}{K:Frag}{mg:Str->Option Value}{base:Heap}{k:Nat}{f:Addr}{name qual:Str}{params:Arguments}{body:List Stmt}{scope:Scope}{dV kV doc pm cdv ct oc:Value}{an od:Option Addr}{osl:Array (Option Value)}{N ps:List Str}{sp:Sp}(lk:K.lookup f=some ⟨oc,od,.func (fnOf name qual params body scope dV kV doc pm an cdv ct),osl⟩)(hcd:codeIn K cdv qual=true)(S:ao N ps scope)(len:∀vs H Q E,sp vs H Q E->vs.length=ps.length)(hbody:∀(A:Around) (outer:List Env) (s:Shared) (H:Hp) (vs:List V) (Q:VK) (E:XK),bR k (A.deeper (envOfC qual scope s.heap.objs.size f cdv))->sp vs H Q E ->
   ∃t,nU (qj CX P w K mg base N qual scope f cdv A outer s H E) body t/\t { nx:=λ_ H'=>Q .non H',rt:=Q } (start N vs) H) :
  aq P w K mg base CX (k+1) f (fnOf name qual params body scope dV kV doc pm an cdv ct) ps sp:=by
 refine⟨len,λA outer s H args us vs Q E hr e0 hb r hsp=>?_⟩
 have hl:=len _ _ _ _ hsp
 have KX:K.In s.heap:=e0.mod.QC.keeps λb o e=>(e0.bs b o e).1
 have lim:s.heap.NoLimit:=e0.mod.nolimit.keeps λb o e=>(e0.bs b o e).1
 have hkind:∀y∈ps.zip us,scope.names.lookup y.1=some .local\/(scope.names.lookup y.1=some .cell/\((cellsFrom (s.heap.objs.size+1) scope.names []).lookup y.1).isSome=true):=λ⟨n,v⟩ hy=>by
  rcases S.par n (of_mem_zip hy).1 with q|q
  ·exact .inl q
  ·exact .inr ⟨q,ada _ _ _ (.inl q)⟩
 refine codeAny_call_function hr.depth (KX _ _ lk) rfl S.co S.gen rfl (PySem.W.codeRec_of KX hcd) (hb _ _ _ _ ?_)
 refine wpAny_newFunctionEnv_cells S.kind hkind λenv he s1 x=>?_
 subst he
 refine⟨lim.keeps x.toInCall.keep,codeAny_func ?_⟩
 obtain⟨t,ht,hq⟩:=hbody A outer s H vs Q E (hr.deeper _) hsp
 have I:Inv (qj CX P w K mg base N qual scope f cdv A outer s H E) [] (start N vs) H s1:=zSp S hr.hd e0 hl r x
 refine ab0 (ht [] s1 (start N vs) H _ I hq) (λfl s' hs=>?_) λe s' hs=>hs
 have fin:∀{σ':St}{H':Hp}{v:V}{u:Value},Inv (qj CX P w K mg base N qual scope f cdv A outer s H E) [] σ' H' s'->RelV v u->Q v H'->CE outer P w H s Q u s' :=
  λ{σ' H' v u} J rv q=>⟨v,H',J.os,J.bare,J.base,J.hok,rv,q⟩
 cases fl with
 |ret u =>
  obtain⟨v,σ',H',J,rv,q⟩:=hs
  exact fin J rv q
 |next =>
  obtain⟨σ',H',J,q⟩:=hs
  exact fin (v:=V.non) (u:=adt) J rfl q
 |brk =>
  obtain⟨_,_,_,q⟩:=hs
  exact aby q
 |cont =>
  obtain⟨_,_,_,q⟩:=hs
  exact aby q
section
variable{X:Cx}{x:Str}{p pos:Pos}{e:Expr}{es:List Expr}{t:TA}{id T:String}{r:List V->Hp->VK->Prop}
def xu(r:List V->Hp->VK->Prop)(t:TA):TE:=λσ H Q=>t σ H λa b=>r a b Q
theorem zW(k:xr X (.builtin id) r)(z:Gl X x)(n:X.mg x=none)(o:bootBuiltins x=some (.builtin id))(m:PA X (e::es) t)(q:x ≠ "__name__":=by decide)(d:(x==("__debug__":Str))=false:=by decide)(y:starEach (e::es) X.env=(false,eval e X.env)::starEach es X.env:=by rfl)(c:(backTo pos (starEach es X.env)).any (·.1)=false:=by rfl):PE X (.Call (.Name x p) (e::es) [] pos) (xu r t):=by
 intro b s σ H Q I h
 refine abz (DN I z n o ?_ q d)
 exact PyProof.Rows.callWith_builtin1 (aQ (m pos b s σ H _ I h) (by rintro l g ⟨w,i,v,u,j⟩;exact k b g σ i w l Q v u j)) y c
theorem vC(j:xr X (.type T) r)(y:Gl X x)(m:X.mg x=none)(n:bootBuiltins x=some (.type T))(l:PA X (e::es) t)(o:x ≠ "__name__":=by decide)(d:(x==("__debug__":Str))=false:=by decide)(w:starEach (e::es) X.env=(false,eval e X.env)::starEach es X.env:=by rfl)(c:(backTo pos (starEach es X.env)).any (·.1)=false:=by rfl):PE X (.Call (.Name x p) (e::es) [] pos) (xu r t):=by
 intro b s σ H Q I h
 refine abz (DN I y m n ?_ o d)
 exact abt (aQ (l pos b s σ H _ I h) (by rintro k f ⟨v,g,u,q,i⟩;exact j b f σ g v k Q u q i)) w c
end
section
variable{κ:Type}[DecidableEq κ]
noncomputable def iz(kvs:List (κ×V))(k:κ):Option V:=(kvs.find? λa=>decide (a.1=k)).map (·.2)
def putK(kvs:List (κ×V))(k:κ)(v:V):List (κ×V) :=
 if(kvs.any λa=>decide (a.1=k))=true then kvs.map (λa=>if a.1=k then(a.1,v) else a) else kvs++[(k,v)]
theorem YX{p:κ×V}{r:List (κ×V)}{k:κ}(e:p.1=k):iz (p::r) k=some p.2:=by simp[iz,e]
theorem YZ{p:κ×V}{r:List (κ×V)}{k:κ}(e:¬p.1=k):iz (p::r) k=iz r k:=by simp[iz,e]
theorem zMv(k:κ):∀kvs:List (κ×V),(kvs.any λa=>decide (a.1=k))=(iz kvs k).isSome
 |[]=>rfl
 |p::r=>by
  rw[any_cons]
  by_cases e:p.1=k
  ·simp only[YX e,decide_eq_true e,Bool.true_or,ael]
  ·rw[YZ e,decide_eq_false e];exact zMv k r
theorem Y0(kvs:List (κ×V))(k:κ)(v:V):(putK kvs k v).length<=kvs.length+1:=by
 unfold putK
 grind
theorem iy.gF(r:iy o u):o.isSome=u.isSome:=by
 cases o with
 |none=>cases u with
  |none=>rfl
  |some _=>exact(r).elim
 |some _=>cases u with
  |none=>exact(r).elim
  |some _=>rfl
theorem iy.getD(r:iy o u)(a:RelV d d'):RelV (o.getD d) (u.getD d'):=by
 cases o with
 |none=>cases u with
  |none=>exact a
  |some _=>exact(r).elim
 |some _=>cases u with
  |none=>exact(r).elim
  |some _=>exact r
theorem KV.val(r:KV kvs vs)(k:κ):iy (iz kvs k) (valueAt vs k):=by
 induction r with
 |nil=>exact aco
 |@cons p q ps c h t ih =>
  obtain⟨d,f⟩:=h
  by_cases e:p.1=k
  ·have a:=d.symm.trans e
   have b:valueAt (q::c) k=some q.2:=by simp[valueAt,a]
   rw[YX e,b];exact f
  ·have a:¬q.1=k:=λz=>e (d.trans z)
   have b:valueAt (q::c) k=valueAt c k:=by simp[valueAt,a]
   rw[YZ e,b];exact ih
theorem KV.any(r:KV kvs vs)(k:κ):(kvs.any λkv=>decide (kv.1=k))=vs.any λkv=>decide (kv.1=k):=by
 unfold KV at r
 induction r with
 |nil=>rfl
 |cons h t ih=>rw[any_cons,any_cons,ih,h.1]
theorem KV.repl(r:KV kvs vs)(k:κ)(ry:RelV y u) :
  KV (kvs.map λa=>if a.1=k then(a.1,y) else a) (vs.map λa=>if a.1=k then(a.1,u) else a):=by
 induction r with
 |nil=>exact .nil
 |@cons p q ps qs h t ih =>
  refine .cons ?_ ih
  grind
theorem KV.put(r:KV kvs vs)(k:κ)(a:RelV y u):KV (putK kvs k y) (stored vs k u):=by
 unfold putK stored
 rw[r.any k]
 by_cases e:(vs.any λb=>decide (b.1=k))=true
 ·rw[if_pos e,if_pos e];exact r.repl k a
 ·rw[if_neg e,if_neg e];exact afk r ⟨rfl,a⟩
theorem KV.length(r:KV kvs vs):kvs.length=vs.length:=aeu r
end
theorem Lp(r:RelV (kV k) u):(wL P w).is k u=true:=by
 cases k with
 |inl i=>obtain⟨t,e⟩:=(r);subst e;exact zL2 P w i t
 |inr x=>obtain⟨t,e⟩:=(r);subst e;exact zL1 P w x t
theorem zKg:∀{ks:List Key}{us:List Value},Vals (ks.map kV) us->ItemsAre (wL P w) ks us
 |[],_,r=>by cases r;exact .nil
 |k::ks,_,r=>by
  cases r with
  |cons h t=>exact .cons (Lp h) (zKg t)
abbrev KT(H:Hp):List (List Key×V)->List (List Key×Addr×Value)->Prop:=Paired λp q=>p.1=q.1/\H q.2.1=some (.tup (p.1.map kV))/\RelV p.2 q.2.2
theorem KT.val(r:KT H kvs xs)(k:List Key):iy (iz kvs k) ((atKey xs k).map (·.2)):=by
 induction r with
 |nil=>exact aco
 |@cons p q ps c h t ih =>
  obtain⟨d,_,f⟩:=h
  by_cases e:p.1=k
  ·have a:=d.symm.trans e
   have b:atKey (q::c) k=some q.2:=by simp[atKey,a]
   rw[YX e,b];exact f
  ·have a:¬q.1=k:=λz=>e (d.trans z)
   have b:atKey (q::c) k=atKey c k:=by simp[atKey,a]
   rw[YZ e,b];exact ih
theorem KT.repl(r:KT H kvs xs)(k:List Key)(ry:RelV y u) :
  KT H (kvs.map λa=>if a.1=k then(a.1,y) else a) (xs.map (putAt k u)):=by
 induction r with
 |nil=>exact .nil
 |@cons p q ps qs h t ih =>
  refine .cons ?_ ih
  unfold putAt
  grind
theorem KT.put(r:KT H kvs xs)(k:List Key)(d:H b=some (.tup (k.map kV)))(a:RelV y u) :
  KT H (putK kvs k y) (storedH xs k b u):=by
 have e:(kvs.any λc=>decide (c.1=k))=(atKey xs k).isSome:=by
  rw[zMv,(r.val k).gF,aep]
 unfold putK storedH
 rw[e]
 by_cases q:(atKey xs k).isSome=true
 ·rw[if_pos q,if_pos q];exact r.repl k a
 ·rw[if_neg q,if_neg q];exact afk r ⟨rfl,d,a⟩
theorem KT.keeps(r:KT H kvs xs)(a:∀b ys,H b=some (.tup ys)->H' b=some (.tup ys)):KT H' kvs xs :=
 Paired.KJ r λ_ _ z=>⟨z.1,a _ _ z.2.1,z.2.2⟩
section
variable{P:Program}{w:World}{H:Hp}{h:Heap}{a:Addr}
theorem Jt(b:iI P w H h)(e:Rd H a u):cu P w H h a u:=e.ok b
theorem Lq(b:iI P w H h)(e:Rd H a (.dK kvs)):kvs.length<=sizeLine/\(a==sysModules)=false/\∃vs,KV kvs vs/\h.DictOf (wL P w) a vs :=
 Jt b e
theorem Ju(b:iI P w H h)(e:H a=some (.dK kvs)):kvs.length<=sizeLine/\(a==sysModules)=false/\∃vs,KV kvs vs/\h.DictOf (wL P w) a vs:=Lq b (.inl e)
theorem QV{ks:List Key}(g:iI P w H h)(e:H a=some (.tup (ks.map kV))):(tupleKind (wL P w)).is h ks a:=by
 obtain⟨_,b,r,o,c,f,n,d⟩:=(g a _ e)
 exact⟨o,b.toArray,n,c,f,d,by simpa using zKg r⟩
theorem Lr(ok:iI P w H h)(e:Rd H a (.dT kvs)):kvs.length<=sizeLine/\(a==sysModules)=false /\
  ∃xs,KT H kvs xs/\h.DictOfH (tupleKind (wL P w)) a xs:=by
 obtain⟨z,y,xs,r,o,es,ep,h1,h2,h3,h4,h5⟩:=(show cu P w H h a (.dT kvs) from Jt ok e)
 refine⟨z,y,xs,r,o,es,ep,h1,h2,h3,h4,λx hx=>?_,h5⟩
 have all:∀{l:List (List Key×V)}{m:List (List Key×Addr×Value)},KT H l m->∀x∈m,(tupleKind (wL P w)).is h x.1 x.2.1:=by
  intro l m q
  induction q with
  |nil=>intro x hx;exact nomatch hx
  |@cons p q ps qs hq t ih =>
   intro x hx
   rcases mem_cons.mp hx with e|hx
   ·subst e
    exact QV ok (by rw[<-hq.1];exact hq.2.1)
   ·exact ih x hx
 exact all r x hx
theorem Tf(b:iI P w H h)(e:H a=some (.dT kvs)):kvs.length<=sizeLine/\(a==sysModules)=false /\
  ∃xs,KT H kvs xs/\h.DictOfH (tupleKind (wL P w)) a xs:=Lr b (.inl e)
end
noncomputable def iB(H:Hp)(a:Addr)(y:V)(r:Option V):Prop :=
 (∃c k,Rd H a (.dK c)/\y=kV k/\r=iz c k)\/∃c k b,Rd H a (.dT c)/\y=.ref b/\H b=some (.tup (k.map kV))/\r=iz c k
def sE(H:Hp)(a:Addr)(y v:V)(H':Hp):Prop :=
 (∃c k,H a=some (.dK c)/\y=kV k/\c.length<sizeLine/\H'=upd H a (.dK (putK c k v))) \/
 ∃c k b,H a=some (.dT c)/\y=.ref b/\H b=some (.tup (k.map kV))/\c.length<sizeLine/\H'=upd H a (.dT (putK c k v))
theorem iB.k{H:Hp}{a:Addr}{kvs:List (Key×V)}{k:Key}(e:H a=some (.dK kvs)):iB H a (kV k) (iz kvs k):=.inl ⟨kvs,k,.inl e,rfl,rfl⟩
theorem sE.k{H:Hp}{a:Addr}{kvs:List (Key×V)}{k:Key}{v:V}(e:H a=some (.dK kvs))(b:kvs.length<sizeLine):sE H a (kV k) v (upd H a (.dK (putK kvs k v))):=.inl ⟨kvs,k,e,rfl,b,rfl⟩
section
variable{X:Cx}{pins:List (Addr×Obj)}{σ:St}{H:Hp}{s:Shared}{a:Addr}{y v:V}{u r:Value}{o:Option V}{A:Around}{E:Value->Shared->Prop}
theorem Inv.big(I:Inv X pins σ H s):sysModules<s.heap.objs.size:=by
 have h:=(I.mod.glob.keeps I.bk).lt
 exact aei (by decide) h
theorem zTc{Q:Value->Shared->Prop}(F:A.units+1<cLine)(I:Inv X pins σ H s)(g:iB H a y (some v))(t:RelV y u)(h:∀w' s',Inv X pins σ H s'->RelV v w'->Q w' s') :
  wpAny (model X.prog X.w) A (getItem (.ref a) u) Q E s:=by
 rcases g with⟨i,k,e,j,l⟩|⟨i,k,b,e,j,D,l⟩
 ·subst j
  obtain⟨z,B,C,c,m⟩:=Lq I.hok e
  obtain⟨w',q,f⟩:=iy.some_of (v:=v) (o:=valueAt C k) (by rw[l];exact c.val k)
  exact wpAny_getItem_of (Lp t) m.mapOf q (h w' _ (I.tok _) f)
 ·subst j
  cases(t)
  obtain⟨z,B,xs,c,m⟩:=Lr I.hok e
  obtain⟨w',q,f⟩:=iy.some_of (v:=v) (by rw[l];exact c.val k)
  obtain⟨p,x,n⟩:=Option.map_eq_some_iff.mp q
  refine wpAny_getItem_heap (ac5 F) (QV I.hok D) m x ?_
  rw[n]
  exact h w' _ (I.tok _) f
theorem Y4{Q:Value->Shared->Prop}(p:A.units+1<cLine)(I:Inv X pins σ H s)(g:iB H a y o)(n:RelV y u)(h:∀s',Inv X pins σ H s'->Q (.bool o.isSome) s') :
  wpAny (model X.prog X.w) A (compareOp .In u (.ref a)) Q E s:=by
 rcases g with⟨j,k,e,m,l⟩|⟨j,k,b,e,m,t,l⟩
 ·subst m
  obtain⟨z,f,vs,c,i⟩:=Lq I.hok e
  refine wpAny_in_of (Lp n) f i.mapOf ?_
  rw[<-(c.val k).gF,<-l]
  exact h _ (I.tok _)
 ·subst m
  cases(n)
  obtain⟨z,f,xs,c,i⟩:=Lr I.hok e
  refine wpAny_in_heap (ac5 p) (QV I.hok t) f i ?_
  have q:=(c.val k).gF
  rw[aep] at q
  rw[<-q,<-l]
  exact h _ (I.tok _)
theorem FJ{Q:Value->Shared->Prop}(n:A.units+1<cLine)(I:Inv X pins σ H s)(g:iB H a y o)(m:RelV y u)(h:∀s',Inv X pins σ H s'->Q (.bool (!o.isSome)) s') :
  wpAny (model X.prog X.w) A (compareOp .NotIn u (.ref a)) Q E s:=by
 rcases g with⟨i,k,e,j,l⟩|⟨i,k,b,e,j,p,l⟩
 ·subst j
  obtain⟨z,d,vs,c,f⟩:=Lq I.hok e
  refine wpAny_notIn_of (Lp m) d f.mapOf ?_
  rw[<-(c.val k).gF,<-l]
  exact h _ (I.tok _)
 ·subst j
  cases(m)
  obtain⟨z,d,xs,c,f⟩:=Lr I.hok e
  refine wpAny_notIn_heap (ac5 n) (QV I.hok p) d f ?_
  have q:=(c.val k).gF
  rw[aep] at q
  rw[<-q,<-l]
  exact h _ (I.tok _)
theorem Y5(I:Inv X pins σ H s)(g:Sq (H a))(f:SameBut a s.heap h')(e:∃q,h'.get? a=some q)(c:cu X.prog X.w (upd H a ob) h' a ob) :
  Inv X pins σ (upd H a ob) { s with heap:=h',toks:=t' } :=
 I.write g (.inl rfl) (λb q d z=>(f.2 b d).trans z) e c
theorem zXt{h':Heap}{kvs:List (Key×V)}(z:kvs.length<=sizeLine)(c:(a==sysModules)=false)(b:KV kvs vs)(dd:h'.DictOf (wL P w) a vs) :
  cu P w H' h' a (.dK kvs):=⟨z,c,vs,b,dd⟩
theorem zTb{Q:Unit->Shared->Prop}(Z:A.units+1<cLine)(I:Inv X pins σ H s)(g:sE H a y v H')(F:RelV y u)(J:RelV v r)(h:∀s',Inv X pins σ H' s'->Q () s') :
  wpAny (model X.prog X.w) A (setItem (.ref a) u r) Q E s:=by
 rcases g with⟨f,k,e,p,l,n⟩|⟨f,k,b,e,p,M,l,n⟩
 ·subst p n
  obtain⟨z,B,S,i,t⟩:=Ju I.hok e
  have C:S.length<=sizeLine:=by rw[<-i.length];exact z
  have D:(putK f k v).length<=sizeLine:=by have:=Y0 f k v;lia
  refine wpAny_setItem_pairs (hsz:=C) (Lp F) t λL j x=>h _ ?_
  have Y:∃q,L.get? a=some q:=let⟨q,_,_,m,_⟩:=j;⟨q,m⟩
  exact Y5 I (by rw[e];exact aco) x Y (zXt D B (i.put k J) j)
 ·subst p n
  cases(show u=abq b from F)
  obtain⟨z,B,R,i,t⟩:=Tf I.hok e
  have C:R.length<=sizeLine:=by rw[<-aeu i];exact z
  have D:(putK f k v).length<=sizeLine:=by have:=Y0 f k v;lia
  refine wpAny_setItem_heap (hsz:=C) (ac5 Z) (QV I.hok M) t λL j x=>h _ ?_
  obtain⟨q,T,W,m,P,U,O,_,N⟩:=j
  refine Y5 I (by rw[e];exact aco) x ⟨q,m⟩ ⟨D,B,_,(i.put k M J).keeps λc ys G=>?_,q,T,W,m,P,U,O,N⟩
  rw[zT (Sh G e (λz=>nomatch z))]
  exact G
end
def Ti(i:Expr):Prop:=∀b c,subscripted i false b c=operate [b,c] (getItem b c)
theorem FN{prog:Program}{w:World}{A:Around}{E:Value->Shared->Prop}{s:Shared}{env:Env}{b a:Expr}{pos:Pos}{T id:String}{Q:Value->Shared->Prop}(l:typeLookup (.type T) "__getitem__" = pure (some (.builtin id)))(k:Ti a)(h:wpAny (model prog w) A (eval b env) (λo g=>wpAny (model prog w) A (eval a env) (λi c=>c.TypeIs o T/\wpAny (model prog w) A (getItem o i) Q E c) E g) E s) :
  wpAny (model prog w) A (eval (.Subscript b a pos) env) Q E s:=by
 refine Subscript_ (ab0 h (λo g m=>ab0 m (λi c d=>?_) λ_ _ x=>x) λ_ _ x=>x)
 obtain⟨n,d⟩:=d
 refine aaw ?_
 refine aaw (wpAny_specialOf n l ?_)
 have e:wpAny (model prog w) A (subscripted a false o i) (λr f=>wpAny (model prog w) A (letTemporaryGo b o r >>= λ_=>pure r) Q E f) E c:=by
  rw[k o i]
  exact wpAny_operating (ab0 d (λr f j=>aaw (wpAny_letTemporaryGo (aax j))) λ_ _ x=>x)
 first
  |exact aax (aaw e)
  |grind
  |grind
theorem zMh(I:Inv X pins σ H s)(g:iB H a y o):s.TypeIs (.ref a) "dict":=by
 rcases g with⟨c,k,e,_,_⟩|⟨c,k,b,e,_,_,_⟩
 ·obtain⟨_,_,vs,_,d⟩:=Lq I.hok e
  exact d.typeIs
 ·obtain⟨_,_,xs,_,d⟩:=Lr I.hok e
  exact d.typeIs
def Jv(e f:TE):TE:=λσ H Q=>e σ H λx c=>f σ c λy b=>∃a v,x=.ref a/\iB b a y (some v)/\Q v b
def Ls(e f:TE):TE:=λσ H Q=>e σ H λy c=>f σ c λx b=>∃a o,x=.ref a/\iB b a y o/\Q (.bl o.isSome) b
def zQx(d e:TE):TE:=λσ H Q=>d σ H λy c=>e σ c λx b=>∃a o,x=.ref a/\iB b a y o/\Q (.bl (!o.isSome)) b
def BL(e f c:TE):TS:=λD σ H=>c σ H λv h=>e σ h λx i=>f σ i λy g=>∃a b,x=.ref a/\sE g a y v b/\D.nx σ b
section
variable{X:Cx}{o i e value:Expr}{pos pos' tpos:Pos}{td ty tv:TE}
theorem wP(B:X.A.units+1<cLine)(j:PE X o td)(z:PE X i ty)(m:Ti i):PE X (.Subscript o i pos) (Jv td ty):=by
 intro b s σ H Q I h
 refine FN PySem.F.slot_dict_getitem.lookup m (aQ (j b s σ H _ I h) λu C ⟨x,k,w,n,l⟩=>aQ (z b C σ k _ w l) ?_)
 rintro iv s2 ⟨y,f,d,q,a,v,r,g,p⟩
 subst r
 obtain rfl:u=abq a:=n
 exact⟨zMh d g,zTc B d g q λw' s3 t c=>⟨v,f,t,c,p⟩⟩
theorem zXa(q:X.A.units+1<cLine)(l:PE X i ty)(m:PE X o td):PC X .In i o (Ls ty td):=by
 intro b s σ H Q I h
 refine aQ (l b s σ H _ I h) λiv t ⟨y,n,k,c,p⟩=>aQ (m b t σ n _ k p) ?_
 rintro u s2 ⟨x,v,f,r,a,z,d,g,w⟩
 subst d
 obtain rfl:u=abq a:=r
 exact Y4 q f g c λs3 j=>⟨.bl z.isSome,v,j,rfl,w⟩
theorem zRq(q:X.A.units+1<cLine)(l:PE X i ty)(m:PE X o td):PC X .NotIn i o (zQx ty td):=by
 intro b s σ H Q I h
 refine aQ (l b s σ H _ I h) λiv t ⟨y,n,k,c,p⟩=>aQ (m b t σ n _ k p) ?_
 rintro u s2 ⟨x,v,f,r,a,z,d,g,w⟩
 subst d
 obtain rfl:u=abq a:=r
 exact FJ q f g c λs3 j=>⟨.bl (!z.isSome),v,j,rfl,w⟩
theorem Tj(L:X.A.units+1<cLine)(j:PE X o td)(F:PE X i ty)(f:PE X value tv)(m:swapsWith value (some (.Subscript o i pos')) pos.line X.env=pure false) :
  PS X (.Assign [.Subscript o i pos'] value pos) (BL td ty tv):=by
 intro b s σ H D I h
 refine wpAny_Assign_Subscript (aQ (f b s σ H _ I h) λr M ⟨v,k,E,w,l⟩=>aQ (j b M σ k _ E l) λu G ⟨x,c,d,n,p⟩=>aQ (F b G σ c _ d p) ?_) m
 rintro iv s3 ⟨y,H3,C,q,a,B,t,g,J⟩
 subst t
 obtain rfl:u=abq a:=n
 exact zTb L C g q w λs4 z=>⟨σ,B,z,J⟩
end
theorem zNz(h:Heap)(a:sysModules<h.objs.size):cu P w H (h.push { cls:=.type "dict",data:=.dict #[] }) h.objs.size (.dK []) :=
 ⟨abg _,beq_eq_false_iff_ne.mpr (acy (aa4 a)),[],.nil,Heap.DictOf.new h⟩
def zWx:TE:=λ_ H Q=>∀p,H p=none->Q (.ref p) (upd H p (.dK []))
section
variable{X:Cx}{pos:Pos}
theorem Wx:PE X (.Dict [] [] pos) zWx:=λpins s σ H Q I h =>
 wpAny_Dict_empty ⟨.ref s.heap.objs.size,_,I.laid (λ_ _ q=>get?_push_of_some _ q) (aa0 _) (zNz s.heap I.big),rfl,h _ (I.hok.fresh (aa0 _))⟩
end
def Y6:List (TE×TE)->St->Hp->(List (V×V)->Hp->Prop)->Prop
 |[],_,H,Q=>Q [] H
 | (b,g)::r,σ,H,Q=>b σ H λx c=>g σ c λy f=>Y6 r σ f λd e=>Q ((x,y)::d) e
abbrev VV:List (V×V)->List (Value×Value)->Prop:=Paired λp q=>RelV p.1 q.1/\RelV p.2 q.2
def Wy(X:Cx)(pos:Pos)(c:List (Option Expr))(a:List Expr)(d:List (TE×TE)):Prop :=
 ∀(b:List (Addr×Obj))(s:Shared)(σ:St)(H:Hp)(Q:List (V×V)->Hp->Prop),Inv X b σ H s->Y6 d σ H Q ->
  wpAny (model X.prog X.w) X.A (evalPairs (pairTrees c a X.env pos)) (λh g=>∃f e,Inv X b σ e g/\VV f h/\Q f e) X.xe s
theorem FQ:Wy X pos [] [] []:=λpins s σ H Q I h=>pairTrees_nil_walk ⟨[],H,I,.nil,h⟩
theorem Wz(i:PE X k B)(C:PE X v g)(o:Wy X pos ks vs c) :
  Wy X pos (some k::ks) (v::vs) ((B,g)::c):=λa s σ H Q I h =>
 pairTrees_cons_walk (aQ (i a s σ H _ I h) (by rintro u l ⟨x,m,f,t,p⟩;exact aQ (C a l σ m _ f p) (by rintro w2 j ⟨y,z,w,d,A⟩;exact aQ (o a j σ z _ w A) (by rintro ws s3 ⟨n,q,e,b,r⟩;exact⟨(x,y)::n,q,e,.cons ⟨t,d⟩ b,r⟩))))
def QW(kvs a:List (Key×V)):List (Key×V):=a.foldl (λb c=>putK b c.1 c.2) kvs
theorem KV.merge:∀{a:List (Key×V)}{b:List (Key×Value)}{kvs:List (Key×V)}{vs:List (Key×Value)},KV a b->KV kvs vs->KV (QW kvs a) (merged vs b):=by
 intro a b kvs vs r
 induction r generalizing kvs vs with
 |nil=>intro q;exact q
 |@cons p q ps qs h t ih =>
  intro c
  have e:KV (putK kvs p.1 p.2) (stored vs q.1 q.2):=by
   have:=c.put p.1 h.2
   grind
  exact ih e
theorem zDl:∀(a kvs:List (Key×V)),(QW kvs a).length<=kvs.length+a.length
 |[],kvs=>by show kvs.length<=kvs.length+0;lia
 |p::r,kvs=>by
  have h1:=zDl r (putK kvs p.1 p.2)
  have h2:=Y0 kvs p.1 p.2
  show(QW (putK kvs p.1 p.2) r).length<=_
  grind
theorem zHz:∀{kvs:List (Key×V)}{ws:List (Value×Value)},VV (kvs.map λe=>(kV e.1,e.2)) ws->∃d,Carries (wL P w) ws d/\KV kvs d
 |[],_,r=>by cases r;exact⟨[],aco,.nil⟩
 |p::kvs,_,r=>by
  cases r with
  |@cons a b as bs h t =>
   obtain⟨d,c,q⟩:=zHz t
   obtain⟨b1,f⟩:=b
   exact⟨(p.1,f)::d,⟨Lp h.1,rfl,c⟩,.cons ⟨rfl,h.2⟩ q⟩
def Tn(b:List (TE×TE)):TE:=λσ H Q=>∀p,H p=none->Y6 b σ (upd H p (.dK [])) λe c=>c p=some (.dK [])/\∃a:List (Key×V),e=a.map (λd=>(kV d.1,d.2))/\a.length<=15/\Q (.ref p) (upd c p (.dK (QW [] a)))
theorem FT(h:Wy X pos b d k)(i:b.all (·.isSome)=true)(D:b.length=d.length)(h0:b≠[])(l:b.length<=15):PE X (.Dict b d pos) (Tn k):=by
 intro j s σ H Q I q
 have y:=I.hok.fresh (aa0 s.heap.objs.size)
 have A:=I.laid (a:=s.heap.objs.size) (o:=.dK []) (t':=s.toks) (λ_ _ q=>get?_push_of_some _ q) (aa0 _) (zNz s.heap I.big)
 refine wpAny_Dict_walk (knd:=wL X.prog X.w) i D h0 l (aQ (h j _ σ _ _ A (q _ y)) ?_)
 rintro ws s2 ⟨ps,H2,n,m,e,f,x,lk,r⟩
 subst x
 obtain⟨L,c,F⟩:=zHz (P:=X.prog) (w:=X.w) m
 obtain⟨z,J,vs0,u,t⟩:=Ju n.hok e
 cases u
 refine⟨L,c,t,λB g G=>⟨.ref s.heap.objs.size,_,?_,rfl,r⟩⟩
 have v:(QW [] f).length<=sizeLine:=by
  have C:=zDl f []
  rw[length_nil] at C
  rw[ae3];lia
 have E:∃q,B.get? s.heap.objs.size=some q:=let⟨q,_,_,p,_⟩:=g;⟨q,p⟩
 exact Y5 n (by rw[e];exact aco) G E (zXt v J (F.merge .nil) g)
structure M2(X:Cx)(o:Expr)(m:Str)(apos:Pos)(e f:Expr)(cpos:Pos):Prop where
 base:attributeBase o m X.env (eval o X.env)=eval o X.env
 few:((backTo cpos (starEach [e,f] X.env)).all (λx=>!x.1)&&(backToKw cpos (keywordEach [] X.env)).all (λx=>x.1.isSome)
  && decide (([e,f]:List Expr).length+([]:List Keyword).length+(if([]:List Keyword).isEmpty then 0 else 1)<30))=true
 line:(apos.endLine==cpos.line)=true
 trees:backTo cpos (starEach [e,f] X.env)=[(false,eval e X.env),(false,eval f X.env)]
def IsD(H:Hp)(a:Addr):Prop:=(∃b,Rd H a (.dK b))\/∃b,Rd H a (.dT b)
theorem Lw(I:Inv X pins σ H s)(d:IsD H a) :
  s.TypeIs (.ref a) "dict" /\ (∀b,abq a=.ref b->∃ob,s.heap.get? b=some ob/\ob.dict=none)/\(a==sysModules)=false:=by
 rcases d with⟨f,e⟩|⟨f,e⟩
 ·obtain⟨_,h,vs,_,c⟩:=Lq I.hok e
  refine⟨c.typeIs,λb q=>?_,h⟩
  cases q
  obtain⟨ob,_,_,g,i,_⟩:=c
  exact⟨ob,g,i.2.1⟩
 ·obtain⟨_,h,xs,_,c⟩:=Lr I.hok e
  refine⟨c.typeIs,λb q=>?_,h⟩
  cases q
  obtain⟨ob,_,_,g,i,_⟩:=c
  exact⟨ob,g,i.2.1⟩
section
variable{X:Cx}{pins:List (Addr×Obj)}{σ:St}{H:Hp}{s:Shared}{a:Addr}{y d:V}{u r:Value}{o:Option V}{A:Around}{E:Value->Shared->Prop}
theorem Ly{Q:Value->Shared->Prop}(B:A.units+1<cLine)(I:Inv X pins σ H s)(g:iB H a y o)(p:RelV y u)(q:RelV d r)(h:∀w' s',Inv X pins σ H s'->RelV (o.getD d) w'->Q w' s') :
  wpAny (model X.prog X.w) A (call (.builtin "dict.get") [.ref a,u,r]) Q E s:=by
 rcases g with⟨m,k,e,j,l⟩|⟨m,k,b,e,j,v,l⟩
 ·subst j
  obtain⟨z,n,vs,f,i⟩:=Lq I.hok e
  refine call_meetsIn ad5 i.typeIs PySem.F.entry_dict_get (PySem.F.args_dict_get_3 _ _ _) (meets_dict_get_default (wL X.prog X.w) a (Lp p) n r) ⟨_,i.mapOf,h _ _ (I.tok _) ?_⟩
  rw[l]
  exact(f.val k).getD q
 ·subst j
  cases(p)
  obtain⟨z,n,t,f,i⟩:=Lr I.hok e
  refine call_meetsIn ad5 i.typeIs PySem.F.entry_dict_get (PySem.F.args_dict_get_3 _ _ _) (meetsH_dict_get_default (tupleKind (wL X.prog X.w)) a b n r) ⟨ac5 B,k,t,QV I.hok v,i,h _ _ (I.tok _) ?_⟩
  rw[l]
  exact(f.val k).getD q
end
def Y7(f e g:TE):TE:=λσ H Q=>f σ H λx c=>∃a,x=.ref a/\IsD c a/\e σ c λy d=>g σ d λz b=>∃o,iB b a y o/\Q (o.getD z) b
section
variable{X:Cx}{o e f:Expr}{apos cpos:Pos}{td ty tx:TE}
theorem zU2(hu:X.A.units+1<cLine)(ho:PE X o td)(he:PE X e ty)(hf:PE X f tx)(m:M2 X o "get" apos e f cpos):PE X (.Call (.Attribute o "get" apos) [e,f] [] cpos) (Y7 td ty tx):=by
 intro i s σ H Q I h
 refine wpAny_Call_method m.base m.few m.line PySem.F.plainAttrs_dict ad5 PySem.F.type_dict_get (aQ (ho i s σ H _ I h) ?_)
 rintro u l ⟨x,n,k,v,a,ex,d,p⟩
 subst ex
 obtain rfl:u=abq a:=v
 obtain⟨t,q,_⟩:=Lw k d
 refine⟨t,q,?_⟩
 rw[m.trees]
 refine adx rfl (Calls.evalArgs_plain (ac3 (aQ (he i l σ n _ k p) λiv s2 ⟨y,H2,I2,ry,w⟩ =>
  ac3 (aQ (hf i s2 σ H2 _ I2 w) λfv s3 ⟨z,r,I3,B,ov,g,q3⟩=>ady ?_))))
 exact Ly hu I3 g ry B λw' s4 I4 j=>⟨_,r,I4,j,q3⟩
end
end L2
namespace HT
open PySem PyProof.Rows
section
open PySem.SeqAt
open PySem.AutoSeq1 (wpAny_loadPart')
open PySem.MeetsSeq PySem.MeetsSeq2 PySem.MeetsSeq3
end
section
variable{prog:Program}{w:World}{A:Around}{E:Value->Shared->Prop}{s:Shared}
noncomputable def dh(n d:Nat):Option Int->Nat
 |none=>d
 |some v=>if v<0 then(v+(n:Int)).toNat else min v.toNat n
theorem FZ(n d k:Nat):dh n d (some (k:Int))=min k n:=by
 show(if(k:Int)<0 then((k:Int)+(n:Int)).toNat else min (k:Int).toNat n)=min k n
 rw[if_neg (by omega),acu]
theorem Lz(n d:Nat)(a:d<=n)(o:Option Int):dh n d o<=n:=by
 cases o with
 |none=>exact a
 |some v =>
  show(if v<0 then(v+(n:Int)).toNat else min v.toNat n)<=n
  grind
theorem zTf(v:Int)(n d:Nat):(if v<0 then max (v+(n:Int)) 0 else min v (n:Int))=((dh n d (some v):Nat):Int):=by
 show(if v<0 then max (v+(n:Int)) 0 else min v (n:Int))=(((if v<0 then(v+(n:Int)).toNat else min v.toNat n):Nat):Int)
 grind
theorem zP6(lo a:Option Int)(n:Nat):Builtin.Slice.sliceAdjust lo a 1 (n:Int)=(((dh n 0 lo:Nat):Int),((dh n n a:Nat):Int)):=by
 refine Prod.ext ?_ ?_
 ·cases lo with
  |none=>rfl
  |some v=>exact zTf v n 0
 ·cases a with
  |none=>rfl
  |some v=>exact zTf v n n
theorem zO5(i j:Nat):acq (i:Int) (j:Int) 1=j-i:=by
 unfold acq
 grind
theorem zHf{Q:Option Int->Shared->Prop}(p:IsPart v o)(h:Q o s):wpAny (model prog w) A (Builtin.Slice.slicePartIndex v) Q E s:=by
 cases p with
 |none=>exact slicePart_none h
 |int i t=>exact slicePart_int h
theorem zE2{f:Addr}{e d:Value}{lo c:Option Int}{n:Nat}{Q:Int×Int×Nat->Shared->Prop}(i:s.heap.IsSliceOf f e d .none)(pl:IsPart e lo)(g:IsPart d c)(h:Q (((dh n 0 lo:Nat):Int),1,dh n n c-dh n 0 lo) s):wpAny (model prog w) A (Builtin.Slice.sliceApplied (.ref f) (pure (n:Int))) Q E s:=by
 obtain⟨os,a,hcs,b⟩:=id i
 refine aaw (aaw (wpAny_field a b (x:=e) rfl (aaw (wpAny_field a b (x:=d) rfl (aaw (wpAny_field a b rfl (aax ?_)))))))
 refine aaw (slicePart_none ?_)
 refine aaw (zHf pl (aaw (zHf g (aaw (aax ?_)))))
 show wpAny _ _ (match Builtin.Slice.sliceAdjust lo c 1 (n:Int) with|(lo,c)=>pure (lo,(1:Int),acq lo c 1)) _ _ s
 rw[zP6 lo c n]
 show wpAny _ _ (pure (((dh n 0 lo:Nat):Int),(1:Int),acq ((dh n 0 lo:Nat):Int) ((dh n n c:Nat):Int) 1)) _ _ s
 rw[zO5]
 exact aax h
theorem zUz(xs:Array Value)(i k:Nat):((abd k).filterMap λ(m:Nat)=>xs[((i:Int)+(m:Int)*1).toNat]?).toArray=((xs.toList.drop i).take k).toArray:=by
 have e:(λ(m:Nat)=>xs[((i:Int)+(m:Int)*1).toNat]?)=λm=>xs[i+m]?:=by
  grind
 rw[e]
 have:=pick_run xs i k
 rw[filterMap_map] at this
 have a:((λx=>xs[x]?)∘λx=>i+x)=λm=>xs[i+m]?:=rfl
 rw[a] at this
 rw[this]
theorem kI{t f:Addr}{items:Array Value}{l n:Value}{lo b:Option Int}{Q:Value->Shared->Prop}(d:IsTup s.heap t items)(k:s.heap.IsSliceOf f l n .none)(pl:IsPart l lo)(o:IsPart n b)(hw:¬(dh items.size 0 lo=0/\dh items.size items.size b=items.size))(h:Q (.ref s.heap.objs.size) { s with heap:=s.heap.push { cls:=.type "tuple",data:=.seq ((items.toList.drop (dh items.size 0 lo)).take (dh items.size items.size b-dh items.size 0 lo)).toArray } })(hsz:items.size<=sizeLine):wpAny (model prog w) A (getItem (.ref t) (.ref f)) Q E s:=by
 have c:sizeOk (.seq ((items.toList.drop (dh items.size 0 lo)).take (dh items.size items.size b-dh items.size 0 lo)).toArray):=by
  show((items.toList.drop (dh items.size 0 lo)).take (dh items.size items.size b-dh items.size 0 lo)).toArray.size<=sizeLine
  rw[size_toArray,length_take,length_drop,length_toList]
  omega
 have hj:dh items.size items.size b<=items.size:=Lz _ _ (aa0 _) b
 obtain⟨os,e,i,hds⟩:=id k
 have j:s.TypeIs (.ref f) "slice":=⟨os,e,i⟩
 unfold getItem
 try with_reducible refine abp ?_
 first|refine aaw (aax ?_)|skip
 refine aaw (wpAny_sequenceKey d.typeIs (by decide) ?_)
 refine aaw (wpAny_callSpecial?_slot (name:=ad1 "__getitem__") d.typeIs PyProof.Rows.slot_tuple_getitem
  (ace PyProof.Rows.slot_tuple_getitem d.typeIs entry_tuple_getitem ?_ (args_tuple_getitem _ _)))
 show wpAny _ _ (Builtin.Tuple.tupleItemsOf (.ref t) >>= _) _ _ s
 refine aaw (tupleItemsOf_ d ?_)
 refine aaw (afj j ?_)
 rw[if_pos (by decide)]
 refine aaw (zE2 k pl o ?_)
 have g:¬((((dh items.size 0 lo:Nat):Int)==0&&(1:Int)==1&&(dh items.size items.size b-dh items.size 0 lo)==items.size)=true):=by
  grind
 show wpAny _ _ (if(((dh items.size 0 lo:Nat):Int)==0&&(1:Int)==1&&(dh items.size items.size b-dh items.size 0 lo)==items.size)=true then _ else _) _ _ s
 rw[if_neg g,zUz]
 first
  |exact aaw (m:=Builtin.Tuple.tupleExact _) (ach (aax ⟨_,rfl,aax h⟩) c)
  |grind
  |grind
  |grind
end
end HT
namespace L2
open PySem PySem.Spec PyProof.Rows
abbrev TO:=St->Hp->(Option Int->Hp->Prop)->Prop
noncomputable def PO(X:Cx)(e:Option Expr)(t:TO):Prop :=
 ∀(b:List (Addr×Obj))(s:Shared)(σ:St)(H:Hp)(Q:Option Int->Hp->Prop),Inv X b σ H s->t σ H Q ->
  wpAny (model X.prog X.w) X.A (evalPart e X.env) (λu d=>∃o c,Inv X b σ c d/\IsPart u o/\Q o c) X.xe s
def WD:TO:=λ_ H Q=>Q none H
def WK(t:TE):TO:=λσ H Q=>t σ H λx a=>∃i,x=.int i/\Q (some i) a
section
variable{X:Cx}{e:Expr}{te:TE}{lo hi:Option Expr}{tl th:TO}{pos p2:Pos}
theorem WL:PO X none WD:=by
 intro pins s σ H Q I h
 exact aax ⟨none,H,I,.none,h⟩
theorem WM(h:PE X e te):PO X (some e) (WK te):=by
 intro a s σ H Q I b
 refine aQ (h a s σ H _ I b) ?_
 rintro u s1 ⟨x,f,d,c,g⟩
 obtain⟨i,rfl,q⟩:=g
 obtain⟨t,rfl⟩:=c
 exact⟨some i,f,d,.int i t,q⟩
def Tp(X:Cx)(r:V->Option Int->Option Int->Hp->VK->Prop):Prop :=
 ∀(b:List (Addr×Obj))(s:Shared)(σ:St)(H:Hp)(x:V)(v f d:Value)(lo hi:Option Int)(c:Addr)(Q:VK),Inv X b σ H s->RelV x v->s.heap.IsSliceOf c f d .none->IsPart f lo->IsPart d hi->r x lo hi H Q ->
  ∃T id,typeLookup (.type T) "__getitem__" = pure (some (.builtin id))/\s.TypeIs v T/\wpAny (model X.prog X.w) X.A (getItem v (.ref c)) (EP X b σ Q) X.xe s
def WQ(r:V->Option Int->Option Int->Hp->VK->Prop)(te:TE)(tl th:TO):TE:=λσ H Q=>te σ H λx b=>tl σ b λl a=>th σ a λu c=>r x l u c Q
theorem WR(G:Tp X r)(J:PE X e te)(D:PO X lo tl)(L:PO X hi th):PE X (.Subscript e (.Slice lo hi none p2) pos) (WQ r te tl th):=by
 intro c s σ H Q I h
 refine Subscript_ (aQ (J c s σ H _ I h) ?_)
 rintro v k ⟨x,t,A,w,N⟩
 refine wpAny_Slice (aQ (D c k σ t _ A N) λf C ⟨l,j,n,B,m⟩=>aQ (L c C σ j _ n m) ?_)
 rintro g d ⟨u,i,z,o,F⟩
 refine aax ?_
 have p:Inv X c σ i { d with heap:=d.heap.push { cls:=.type "slice",data:=.fields #[f,g,.none] } }:=z.kept λb ob q=>get?_push_of_some _ q
 obtain⟨T,id,E,y,M⟩:=G c { d with heap:=d.heap.push { cls:=.type "slice",data:=.fields #[f,g,.none] } } σ i x v f g l u d.heap.objs.size Q p w (Heap.IsSliceOf.new ..) B o F
 exact tail_any y E M (by with_unfolding_all rfl)
noncomputable def ur(xs:List V)(lo hi:Option Int):List V:=(xs.drop (HT.dh xs.length 0 lo)).take (HT.dh xs.length xs.length hi-HT.dh xs.length 0 lo)
theorem zGl(xs:List V)(lo hi:Option Int):(ur xs lo hi).length<=xs.length:=by
 unfold ur
 rw[length_take,length_drop]
 omega
def LC(K:Frag):V->Option Int->Option Int->Hp->VK->Prop:=λx lo hi H Q=>∃a b,x=.ref a/\cF K H a b /\
 ¬(HT.dh b.length 0 lo=0/\HT.dh b.length b.length hi=b.length)/\∀p,H p=none->Q (.ref p) (upd H p (.tup (ur b lo hi)))
theorem zW1:Tp X (LC X.K):=by
 intro pins s σ H x v vl vu lo hi sl Q I m l n j h
 obtain⟨a,c,rfl,o,hw,q⟩:=h
 cases m
 obtain⟨f,r,i,k⟩:=I.tuple o
 have d:f.toArray.size=c.length:=by exact r.length.symm
 refine⟨"tuple",_,PyProof.Rows.slot_tuple_getitem.lookup,i.typeIs,?_⟩
 refine HT.kI i l n j (by grind) ?_ (by grind)
 rw[d]
 refine⟨.ref s.heap.objs.size,_,I.laid (λb ob q=>get?_push_of_some _ q) (aa0 _) ?_,rfl,q _ (I.hok.fresh (aa0 _))⟩
 exact⟨aa1 (zGl c lo hi) k,_,(r.drop (HT.dh c.length 0 lo)).take (HT.dh c.length c.length hi-HT.dh c.length 0 lo),IsTup.new _ _⟩
end
noncomputable def yc(n:Nat)(i:Int):Option Nat:=if 0<=i then(if i<n then some i.toNat else none) else if -(n:Int)<=i then some (i+n).toNat else none
noncomputable def aU{α:Type}(xs:List α)(i:Int):Option α:=(yc xs.length i).bind λj=>xs[j]?
theorem zSm(h:yc n i=some j):seqIndex? i n=some j/\j<n /\ -(n:Int)<=i/\i<n:=by
 unfold yc at h
 by_cases h0:0<=i
 ·rw[if_pos h0] at h
  by_cases h1:i<n
  ·rw[if_pos h1] at h
   have e:i.toNat=j:=aa5 h
   exact⟨by rw[ae2 h0 h1,e],by omega,by omega,h1⟩
  ·rw[if_neg h1] at h;cases h
 ·rw[if_neg h0] at h
  by_cases h1:-(n:Int)<=i
  ·rw[if_pos h1] at h
   have e:(i+n).toNat=j:=aa5 h
   exact⟨by rw[afi (by omega) h1,e],by omega,h1,by omega⟩
  ·rw[if_neg h1] at h;cases h
theorem Y8{α:Type}{xs:List α}{v:α}(h:aU xs i=some v):∃j,seqIndex? i xs.length=some j/\xs[j]?=some v/\j<xs.length /\ -(xs.length:Int)<=i/\i<xs.length:=by
 unfold aU at h
 cases e:yc xs.length i with
 |none=>rw[e] at h;cases h
 |some j =>
  rw[e] at h
  obtain⟨h1,h2,h3,h4⟩:=zSm e
  exact⟨j,h1,h,h2,h3,h4⟩
theorem Y9{α:Type}{xs:List α}{j:Nat}{v:α}(h:xs[j]?=some v):aU xs (j:Int)=some v:=by
 have hj:j<xs.length:=(aa8.mp h).1
 have e:yc xs.length (j:Int)=some j:=by
  unfold yc
  rw[if_pos (by omega),if_pos (by omega)];simp
 unfold aU;rw[e];exact h
def Ga(b:Expr):Prop:=∀o i,subscripted b false o i=operate [o,i] (getItem o i)
def Tq(X:Cx)(r:R2):Prop :=
 ∀(d b:Expr)(c:List (Addr×Obj))(s:Shared)(σ:St)(H:Hp)(x y:V)(v u:Value)(Q:VK),Inv X c σ H s->RelV x v->RelV y u->r x y H Q ->
  subscripted b false v u=operate [v,u] (getItem v u)->wpAny (model X.prog X.w) X.A (subscriptTail d b v u) (EP X c σ Q) X.xe s
def MtR(X:Cx)(id:String)(r:V->List V->Hp->VK->Prop):Prop :=
 ∀(b:List (Addr×Obj))(s:Shared)(σ:St)(H:Hp)(x:V)(c:List V)(v:Value)(d:List Value)(Q:VK),Inv X b σ H s->RelV x v->Vals c d->r x c H Q ->
  wpAny (model X.prog X.w) X.A (call (.builtin id) (v::d)) (EP X b σ Q) X.xe s
section
variable{X:Cx}{a b:Expr}{ta tb:TE}{pos:Pos}
theorem yD(f:Tq X r)(i:PE X a ta)(m:PE X b tb)(g:Ga b):PE X (.Subscript a b pos) (iQ r ta tb):=by
 intro c s σ H Q I h
 exact Subscript_ (K_ i m I h λv u e x y l k j d q=>f a b c e σ l x y v u Q k j d q (g _ _))
def uw(K:Frag):R2:=λx y H Q=>∃p c i v,x=.ref p/\y=.int i/\aZ K H p c/\aU c i=some v/\Q v H
def ux(K:Frag):R2:=λx y H Q=>∃p c i v,x=.ref p/\y=.int i/\cF K H p c/\aU c i=some v/\Q v H
theorem vG:Tq X (uw X.K):=by
 intro value slice pins s σ H x y v u Q I rx ry h hs
 obtain⟨p,xs,i,z,rfl,rfl,hq,he,q⟩:=h
 cases rx
 obtain⟨t,rfl⟩:=ry
 obtain⟨its,r,pl,hz⟩:=I.list hq
 obtain⟨j,h1,h2,h3,h4,h5⟩:=Y8 he
 obtain⟨w,ew,Y_⟩:=r.get h2
 have hl:=r.length
 have hn:=Li
 have fin:EP X pins σ Q w s:=⟨z,H,I,Y_,q⟩
 by_cases h0:0<=i
 ·have hj:i.toNat=j:=by
   rw[ae2 h0 h5] at h1
   exact aa5 h1
  exact item_listR pl.isList h0 (by omega) (by rw[hj];simpa using ew) fin hs
 ·have hj:(i+(its.toArray.size:Int)).toNat=j:=by
   rw[afi (by omega) h4] at h1
   rw[size_toArray,<-hl]
   exact aa5 h1
  exact subscriptTail_builtinR (x:=w) pl.isList.typeIs slot_list_getitem.lookup
   (wpAny_getItem_list_neg (Q:=λr s'=>r=w/\EP X pins σ Q r s') pl.isList (by omega) (by rw[size_toArray]<;>omega) (by omega) (by rw[hj];simpa using ew) ⟨rfl,fin⟩) hs
theorem DX:Tq X (ux X.K):=by
 intro value slice c s σ H x y v u Q I o k h m
 obtain⟨p,xs,i,z,rfl,rfl,l,n,q⟩:=h
 cases o
 obtain⟨t,rfl⟩:=k
 obtain⟨its,r,f,hz⟩:=I.tuple l
 obtain⟨j,h1,g,h3,h4,h5⟩:=Y8 n
 obtain⟨w,ew,e⟩:=r.get g
 have hl:=r.length
 have hn:=Li
 have d:EP X c σ Q w s:=⟨z,H,I,e,q⟩
 exact subscriptTail_builtinR f.typeIs slot_tuple_getitem.lookup
  (getItem_tuple (j:=j) f (by lia) (by lia) (by grind) (by grind) ⟨rfl,d⟩) m
theorem zPg(c:List Value)(n j:Nat)(u:Value):ac4 (·.setIfInBounds j u) { cls:=.type "list",data:=.seq c.toArray n }={ cls:=.type "list",data:=.seq (c.set j u).toArray n }:=by
 simp[ac4]
theorem Inv.lst(I:Inv X pins σ H s)(h:H p=some (.lst xs)) :
  ∃(its:List Value)(n:Nat),Vals xs its/\s.heap.get? p=some { cls:=.type "list",data:=.seq its.toArray n }/\xs.length<=sizeLine:=by
 obtain⟨z,its,n,r,e⟩:=I.hok p _ h
 exact⟨its,n,r,e,z⟩
theorem Inv.LK{d its':List Value}(I:Inv X c σ H s)(h:H p=some (.lst xs))(j:s.heap.get? p=some { cls:=.type "list",data:=.seq d.toArray n })(g:f { cls:=.type "list",data:=.seq d.toArray n }={ cls:=.type "list",data:=.seq its'.toArray n' })(r:Vals ys its')(hz:ys.length<=sizeLine)(t:Nat) :
  Inv X c σ (upd H p (.lst ys)) { s with heap:=s.heap.update p f,toks:=t }:=by
 have e:(s.heap.update p f).get? p=some { cls:=.type "list",data:=.seq its'.toArray n' }:=by
  rw[get?_update_self f j (by rw[g]<;>rfl),g]
 refine I.write (by rw[h];trivial) (.inl rfl) (λb u i q=>(get?_update_other _ _ (acy i)).trans q) ⟨_,e⟩ ?_
 exact⟨hz,its',n',r,e⟩
def BP:V->V->V->Hp->(Hp->Prop)->Prop:=λo i v H Q=>∃p c k j,o=.ref p/\i=.int k/\H p=some (.lst c)/\yc c.length k=some j/\Q (upd H p (.lst (c.set j v)))
theorem LQ:K4 X BP:=by
 intro pins s σ H o i v ov iv u Q I ro ri rv h
 obtain⟨p,xs,k,j,rfl,rfl,hp,hj,q⟩:=h
 cases ro
 obtain⟨t,rfl⟩:=ri
 obtain⟨its,n,r,ho,hz⟩:=I.lst hp
 obtain⟨h1,h2,h3,h4⟩:=zSm hj
 have hl:=r.length
 have hn:=Li
 have I':Inv X pins σ (upd H p (.lst (xs.set j v))) { s with heap:=s.heap.update p (ac4 (·.setIfInBounds j u)) } :=
  I.LK hp ho (zPg its n j u) (r.set rv j) (by rw[length_set];exact hz) s.toks
 by_cases h0:0<=k
 ·have hk:k.toNat=j:=by
   rw[ae2 h0 h4] at h1
   exact aa5 h1
  exact PySem.W.ki_setAt ho h0 (by omega) (by rw[size_toArray,<-hl];exact h4) (by rw[hk];exact⟨_,I',q⟩)
 ·have hk:(k+(its.toArray.size:Int)).toNat=j:=by
   rw[afi (by omega) h3] at h1
   rw[size_toArray,<-hl]
   exact aa5 h1
  exact PySem.W.ki_setBack ho (by omega) (by rw[size_toArray,<-hl];exact h3) (by omega) (by rw[hk];exact⟨_,I',q⟩)
theorem zJp(lo d:Option Int)(n:Nat):(sliceBounds lo d none n).1=((HT.dh n 0 lo:Nat):Int)/\(sliceBounds lo d none n).2.1=((HT.dh n n d:Nat):Int)/\(sliceBounds lo d none n).2.2=1:=by
 refine⟨?_,?_,rfl⟩
 ·cases lo with
  |none=>simp[sliceBounds,HT.dh]
  |some i =>
   simp only[sliceBounds,HT.dh,Option.getD_none,if_true]
   grind
 ·cases d with
  |none=>simp[sliceBounds,HT.dh]
  |some i =>
   simp only[sliceBounds,HT.dh,Option.getD_none,if_true]
   grind
theorem zH9(c:List Value)(lo d:Option Int):slicePick c.toArray lo d none=((c.drop (HT.dh c.length 0 lo)).take (HT.dh c.length c.length d-HT.dh c.length 0 lo)).toArray:=by
 obtain⟨h,g,f⟩:=zJp lo d c.toArray.size
 unfold slicePick
 rw[h,g,f]
 simp only[sliceRange_one,pick_run]<;>rfl
def Gb(K:Frag):V->Option Int->Option Int->Hp->VK->Prop:=λx lo d H Q=>∃a c,x=.ref a/\aZ K H a c/\∀p,H p=none->Q (.ref p) (upd H p (.lst (ur c lo d)))
theorem Gd:Tp X (Gb X.K):=by
 intro pins s σ H x v vl vu lo e sl Q I l k n i h
 obtain⟨a,d,rfl,j,q⟩:=h
 cases l
 obtain⟨its,r,g,m⟩:=I.list j
 have c:=r.length
 refine⟨"list",_,slot_list_getitem.lookup,g.isList.typeIs,?_⟩
 refine wpAny_getItem_list_slice g.isList k n i .none (by simp) ?_ (by grind)
 rw[zH9,<-c]
 refine⟨.ref s.heap.objs.size,_,I.laid (λb ob q=>get?_push_of_some _ q) (aa0 _) ?_,rfl,q _ (I.hok.fresh (aa0 _))⟩
 exact⟨aa1 (zGl d lo e) m,_,0,(r.drop (HT.dh d.length 0 lo)).take (HT.dh d.length d.length e-HT.dh d.length 0 lo),get?_push_size _ rfl⟩
def DY:V->Bool
 |.non=>true
 |.bl _=>true
 |.int _=>true
 |.str _=>true
 |_=>false
def D_:V->V->Bool
 |.non,.non=>true
 |.bl a,.bl b=>a==b
 |.bl a,.int b=>(if a then 1 else 0)==b
 |.int a,.bl b=>a==(if b then 1 else 0)
 |.int a,.int b=>a==b
 |.str a,.str b=>a==b
 |_,_=>false
theorem zXr(ry:RelV y u)(rx:RelV x v)(fy:DY y=true)(fx:DY x=true):ad7 A s u v (D_ y x):=by
 cases y with
 |non =>
  cases ry
  cases x with
  |non=>cases rx;exact SeqAt.EqAt.same _
  |bl b=>cases rx;exact SeqAt.EqAt.none_bool b
  |int b=>obtain⟨t,rfl⟩:=rx;exact SeqAt.EqAt.none_int b t
  |str b=>obtain⟨t,rfl⟩:=rx;exact SeqAt.EqAt.none_str b t
  |_=>exact absurd (show false=true from fx) aay
 |bl a =>
  cases ry
  cases x with
  |non=>cases rx;exact SeqAt.EqAt.bool_none a
  |bl b=>cases rx;exact SeqAt.EqAt.bool_bool a b
  |int b=>obtain⟨t,rfl⟩:=rx;exact SeqAt.EqAt.bool_int a b t
  |str b=>obtain⟨t,rfl⟩:=rx;exact SeqAt.EqAt.bool_str a b t
  |_=>exact absurd (show false=true from fx) aay
 |int a =>
  obtain⟨t',rfl⟩:=ry
  cases x with
  |non=>cases rx;exact SeqAt.EqAt.int_none a t'
  |bl b=>cases rx;exact SeqAt.EqAt.int_bool a t' b
  |int b=>obtain⟨t,rfl⟩:=rx;exact SeqAt.EqAt.int_int a t' b t
  |str b=>obtain⟨t,rfl⟩:=rx;exact SeqAt.EqAt.int_str a t' b t
  |_=>exact absurd (show false=true from fx) aay
 |str a =>
  obtain⟨t',rfl⟩:=ry
  cases x with
  |non=>cases rx;exact SeqAt.EqAt.str_none a t'
  |bl b=>cases rx;exact SeqAt.EqAt.str_bool a t' b
  |int b=>obtain⟨t,rfl⟩:=rx;exact SeqAt.EqAt.str_int a t' b t
  |str b=>obtain⟨t,rfl⟩:=rx;exact SeqAt.EqAt.str_str a t' b t
  |_=>exact absurd (show false=true from fx) aay
 |_=>exact absurd (show false=true from fy) aay
def uy(x:V)(u:Value):Bool:=match u with
 |.none=>D_ .non x
 |.bool b=>D_ (.bl b) x
 |.int i _=>D_ (.int i) x
 |.str z _=>D_ (.str z) x
 |_=>false
theorem zXq(r:RelV y u)(f:DY y=true):uy x u=D_ y x:=by
 cases y with
 |non=>cases r;rfl
 |bl b=>cases r;rfl
 |int i=>obtain⟨t,rfl⟩:=r;rfl
 |str z=>obtain⟨t,rfl⟩:=r;rfl
 |_=>exact absurd (f) aay
theorem Tt:∀{xs:List V}{us:List Value},Vals xs us->xs.all DY=true->us.any (uy x)=xs.any λy=>D_ y x
 |_,_,.nil,_=>rfl
 |y::xs,u::us,.cons r t,f=>by
  rw[all_cons,abn] at f
  rw[any_cons,any_cons,zXq r f.1,Tt t f.2]
theorem Tv(d:RelV x v)(e:DY x=true):∀{xs:List V}{us:List Value},Vals xs us->xs.all DY=true->∀u∈us,ad7 A s u v (uy x u)
 |_,_,.nil,_=>λu c=>by cases c
 |y::xs,u::us,.cons r t,f=>λg c=>by
  rw[all_cons,abn] at f
  rcases mem_cons.mp c with rfl|c
  ·rw[zXq r f.1];exact zXr r d f.1 e
  ·exact Tv d e t f.2 g c
def inV(x:V)(xs:List V):Bool:=xs.any λy=>D_ y x
def LR(K:Frag)(d:Bool):R2:=λx y H Q=>∃p c,y=.ref p/\(aZ K H p c\/cF K H p c)/\DY x=true/\c.all DY=true/\Q (.bl (if d then !inV x c else inV x c)) H
theorem zRx:lR X (compareOp .In) (LR X.K false):=by
 intro pins s σ H x y v u Q I j k h
 obtain⟨p,xs,rfl,e,i,f,q⟩:=h
 cases k
 rcases e with e|e
 ·obtain⟨c,r,g,l⟩:=I.list e
  refine SeqAt.in_listAt (uy x) g.isList (λw m=>Tv j i r f w (by grind)) ⟨.bl _,H,I,rfl,?_⟩
  rw[show c.toArray.any (uy x)=c.any (uy x) by simp,Tt r f]
  exact q
 ·obtain⟨c,r,g,l⟩:=I.tuple e
  refine SeqAt.in_tupleAt (uy x) g (λw m=>Tv j i r f w (by simp_all)) ⟨.bl _,H,I,rfl,?_⟩
  rw[show c.toArray.any (uy x)=c.any (uy x) by simp,Tt r f]
  exact q
theorem zJ3:lR X (compareOp .NotIn) (LR X.K true):=by
 intro pins s σ H x y v u Q I j k h
 obtain⟨p,xs,rfl,e,i,f,q⟩:=h
 cases k
 rcases e with e|e
 ·obtain⟨c,r,g,l⟩:=I.list e
  refine SeqAt.notIn_listAt (uy x) g.isList (λw m=>Tv j i r f w (by grind)) ⟨.bl _,H,I,rfl,?_⟩
  rw[show c.toArray.any (uy x)=c.any (uy x) by simp,Tt r f]
  exact q
 ·obtain⟨c,r,g,l⟩:=I.tuple e
  refine SeqAt.notIn_tupleAt (uy x) g (λw m=>Tv j i r f w (by grind)) ⟨.bl _,H,I,rfl,?_⟩
  rw[show c.toArray.any (uy x)=c.any (uy x) by simp,Tt r f]
  exact q
theorem uQ:xr X (.builtin "len") (λxs H Q=>∃p ys,xs=[.ref p]/\(aZ X.K H p ys\/cF X.K H p ys)/\Q (.int ys.length) H):=by
 intro pins s σ H xs us Q I r h
 obtain⟨p,ys,rfl,d,q⟩:=h
 obtain⟨u,rfl,j⟩:=Jr r
 cases j
 have hn:=Li
 rcases d with d|d
 ·obtain⟨g,e,f,i⟩:=I.list d
  have c:=e.length
  exact Calls.call_len_list f.isList (by grind) ⟨.int ys.length,H,I.tok _,⟨s.toks+1,by grind⟩,q⟩
 ·obtain⟨g,e,f,i⟩:=I.tuple d
  have c:=e.length
  exact len_tuple f (by grind) ⟨.int ys.length,H,I.tok _,⟨s.toks+1,by grind⟩,q⟩
theorem zKz:xr X (.type "list") (λxs H Q=>∃p ys,xs=[.ref p]/\(aZ X.K H p ys\/cF X.K H p ys)/\∀l,H l=none->Q (.ref l) (upd H l (.lst ys))):=by
 intro v s σ H xs us Q I r h
 obtain⟨p,ys,rfl,t,q⟩:=h
 obtain⟨u,rfl,C⟩:=Jr r
 cases C
 have j:∀(c:List Value),Vals ys c->ys.length<=sizeLine->∀(d:Heap)(f:Nat),(∀b B,s.heap.get? b=some B->d.get? b=some B) ->
   d.get? s.heap.objs.size=some { cls:=.type "list",dict:=none,data:=.seq c.toArray f,slots:=#[] }->EP X v σ Q (.ref s.heap.objs.size) { s with heap:=d }:=λc g k d f m e =>
  ⟨.ref s.heap.objs.size,_,I.laid m (aa0 _) (show cu X.prog X.w _ d _ (.lst ys) from⟨k,c,f,g,e⟩),rfl,q _ (I.hok.fresh (aa0 _))⟩
 rcases t with t|t
 ·obtain⟨c,g,y,k⟩:=I.list t
  have i:=g.length
  obtain⟨o,z,x,n,A⟩:=y.isList
  exact call_list_seq p (.inl rfl) z x A (λd f m e=>j c g k d f m e) (by grind)
 ·obtain⟨c,g,y,k⟩:=I.tuple t
  have i:=g.length
  obtain⟨o,z,x,n,A⟩:=y
  exact call_list_seq p (.inr rfl) z x A (λd f m e=>j c g k d f m e) (by grind)
def Za(K:Frag)(T:String)(x:V)(H:Hp):Prop:=match x with
 |.str _=>T = "str"
 |.int _=>T = "int"
 |.ref p=>(T = "list" /\ ∃d,aZ K H p d)\/(T = "tuple" /\ ∃o,K.lookup p=some o/\o.cls=.type "tuple" /\ o.dict=none) \/
   (T = "dict" /\ ((∃c,H p=some (.dK c))\/∃c,H p=some (.dT c)))\/(T = "set" /\ ∃S n,H p=some (.set S n))
 |_=>False
theorem zWt(I:Inv X pins σ H s)(r:RelV x v)(ty:Za X.K T x H) :
  s.TypeIs v T/\∀a,v=.ref a->∃ob,s.heap.get? a=some ob/\ob.dict=none:=by
 cases x with
 |str z =>
  obtain⟨t,rfl⟩:=r
  cases(show T = "str" from ty)
  exact⟨typeIs_str s z t,λ_ e=>nomatch e⟩
 |int i =>
  obtain⟨t,rfl⟩:=r
  cases(show T = "int" from ty)
  exact⟨typeIs_int s i t,λ_ e=>nomatch e⟩
 |ref p =>
  cases r
  rcases ty with⟨rfl,xs,hq⟩|⟨rfl,o,hk,hc,hd⟩|⟨rfl,hk⟩|⟨rfl,S,n,hk⟩
  ·obtain⟨its,_,pl,_⟩:=I.list hq
   refine⟨pl.isList.typeIs,λa e=>?_⟩
   cases e
   obtain⟨o,n,e,c,hd,_⟩:=pl
   exact⟨o,e,hd⟩
  ·refine⟨⟨o,I.kh p o hk,hc⟩,λa e=>?_⟩
   cases e
   exact⟨o,I.kh _ o hk,hd⟩
  ·have z:∃o,s.heap.get? p=some o/\o.ExactDict:=by
    rcases hk with⟨kvs,hk⟩|⟨kvs,hk⟩
    ·obtain⟨_,_,_,_,o,_,_,e,ex,_⟩:=I.hok p _ hk
     exact⟨o,e,ex⟩
    ·obtain⟨_,_,_,_,o,_,_,e,ex,_⟩:=I.hok p _ hk
     exact⟨o,e,ex⟩
   obtain⟨o,e,ex⟩:=z
   refine⟨⟨o,e,ex.1⟩,λa e2=>?_⟩
   cases e2
   exact⟨o,e,ex.2.1⟩
  ·obtain⟨o,_,_,_,e,ex,_⟩:=I.hok p _ hk
   refine⟨⟨o,e,ex.1⟩,λa e2=>?_⟩
   cases e2
   exact⟨o,e,ex.2.1⟩
 |_=>exact aby ty
def L_(K:Frag)(T:String)(r:V->List V->Hp->VK->Prop)(d:TE):TE:=λσ H Q=>d σ H λx c=>Za K T x c/\r x [] c Q
def QX(K:Frag)(T:String)(r:V->List V->Hp->VK->Prop)(e:TE)(t:TA):TE:=λσ H Q=>e σ H λx c=>Za K T x c/\t σ c λd f=>r x d f Q
variable{o e:Expr}{es:List Expr}{to:TE}{t:TA}{name:Str}{apos cpos:Pos}{T id:String}{r:V->List V->Hp->VK->Prop}
theorem Ma(q:PlainAttrs T)(g:Slot T name id)(i:typeOf (.builtin id)=pure (.type "method_descriptor"))(m:MtR X id r)(u:PE X o to)(f:attributeBase o name X.env (eval o X.env)=eval o X.env:=by rfl)(d:(apos.endLine==cpos.line)=true:=by rfl):PE X (.Call (.Attribute o name apos) [] [] cpos) (L_ X.K T r to):=by
 intro c s σ H Q I h
 refine wpAny_Call_method0_late f d (aQ (u c s σ H _ I h) ?_)
 rintro v n ⟨x,y,k,j,p,z⟩
 obtain⟨w,l⟩:=zWt k j p
 exact⟨T,id,q,g,i,w,l,adx rfl (PySem.evalArgs_none (m c n σ y x [] v [] Q k j .nil z))⟩
theorem BR(pa:PlainAttrs T)(slot:Slot T name id)(hty:typeOf (.builtin id)=pure (.type "method_descriptor"))(hm:MtR X id r)(ho:PE X o to)(ha:PA X (e::es) t)(hbase:attributeBase o name X.env (eval o X.env)=eval o X.env:=by rfl)(hfew:((backTo cpos (starEach (e::es) X.env)).all (λx=>!x.1)&&(backToKw cpos (keywordEach [] X.env)).all (λx=>x.1.isSome)
   && decide ((e::es).length+([]:List Keyword).length+(if([]:List Keyword).isEmpty then 0 else 1)<30))=true:=by rfl)(hline:(apos.endLine==cpos.line)=true:=by rfl)(hs:starEach (e::es) X.env=(false,eval e X.env)::starEach es X.env:=by rfl)(hplain:(backTo cpos (starEach es X.env)).any (·.1)=false:=by rfl) :
  PE X (.Call (.Attribute o name apos) (e::es) [] cpos) (QX X.K T r to t):=by
 intro pins s σ H Q I h
 refine wpAny_Call_method_late hbase hfew hline rfl (aQ (ho pins s σ H _ I h) λv s1 ⟨x,H1,I1,r1,ty,q1⟩=>?_)
 obtain⟨h1,h2⟩:=zWt I1 r1 ty
 refine⟨T,id,pa,slot,hty,h1,h2,?_⟩
 have hA:=ha cpos pins s1 σ H1 _ I1 q1
 rw[hs] at hA ⊢
 refine adx (by show(false||(backTo cpos (starEach es X.env)).any (·.1))=false;rw[hplain]<;>rfl) (Calls.evalArgs_plain ?_)
 exact aQ hA λus s2 ⟨vs,H2,I2,r2,q2⟩=>hm pins s2 σ H2 x vs v us Q I2 r1 r2 q2
end
def Tw(X:Cx)(id:String)(r:V->List V->Hp->VK->Prop):Prop :=
 ∀(a:List (Addr×Obj))(s:Shared)(σ:St)(H:Hp)(x:V)(b:List V)(v:Value)(c:List Value)(Q:VK),Inv X a σ H s->RelV x v->Vals b c->r x b H Q ->
  wpAny (model X.prog X.w) X.A (call (.builtin id) (v::c)) (EP X a σ Q) X.xe s
theorem Vals.one{x:V}{us:List Value}(h:Vals [x] us):∃u,us=[u]/\RelV x u:=by
 cases h with|cons r h=>cases h;exact⟨_,rfl,r⟩
theorem Vals.two{x y:V}{us:List Value}(h:Vals [x,y] us):∃u v,us=[u,v]/\RelV x u/\RelV y v:=by
 cases h with|cons r h=>cases h with|cons q h=>cases h;exact⟨_,_,rfl,r,q⟩
theorem Vals.zero:∀{us:List Value},Vals [] us->us=[]
 |_,.nil=>rfl
theorem Vals.dropLast(h:Vals xs us):Vals xs.dropLast us.dropLast:=by
 induction h with
 |nil=>exact .nil
 |cons r t ih =>
  cases t with
  |nil=>exact .nil
  |cons q t'=>exact .cons r ih
theorem Mf{α:Type}(l:List α):l.eraseIdx (l.length-1)=l.dropLast:=by
 grind
section
variable{X:Cx}{pins:List (Addr×Obj)}{σ:St}{H:Hp}{s:Shared}{l b:Addr}{xs ys zs:List V}
theorem Inv.Mg{a its':List Value}{f:Array Value->Array Value}(I:Inv X pins σ H s)(i:H l=some (.lst xs))(e:s.heap.get? l=some { cls:=.type "list",data:=.seq a.toArray n })(g:f a.toArray=its'.toArray)(d:Vals ys its')(hz:ys.length<=sizeLine) :
  Inv X pins σ (upd H l (.lst ys)) { s with heap:=s.heap.update l (ac4 f),toks:=t' }:=by
 have q:=PySem.IsL.update e f
 rw[g] at q
 refine I.write (by rw[i];exact trivial) (.inl rfl) (λb' u c h=>(get?_update_other s.heap (ac4 f) (acy c)).trans h) ⟨_,q⟩ ?_
 exact⟨hz,its',_,d,q⟩
theorem Inv.Zb(I:Inv X pins σ H s)(c:Vals ys a)(hz:ys.length<=sizeLine) :
  Inv X pins σ (upd H s.heap.objs.size (.lst ys)) { s with heap:=s.heap.push { cls:=.type "list",data:=.seq a.toArray },toks:=t' } :=
 I.laid (λ_ _ q=>get?_push_of_some _ q) (aa0 _) ⟨hz,a,0,c,get?_push_size _ rfl⟩
theorem Inv.fresh(I:Inv X pins σ H s):H s.heap.objs.size=none:=I.hok.fresh (aa0 _)
theorem Inv.zq(I:Inv X pins σ H s)(c:H l=some (.lst xs)):xs.length<=sizeLine/\∃(a:List Value)(n:Nat),Vals xs a/\xs.length=a.length/\s.heap.get? l=some { cls:=.type "list",data:=.seq a.toArray n }:=by
 obtain⟨z,a,n,r,e⟩:=I.hok l _ c
 exact⟨z,a,n,r,r.length,e⟩
theorem zVf(h:n<=sizeLine):adl n=false:=by
 unfold adl
 grind
end
section
variable{X:Cx}
def Zc:V->List V->Hp->VK->Prop:=λx b H Q=>∃l a y,x=.ref l/\b=[y]/\H l=some (.lst a)/\a.length<sizeLine/\Q .non (upd H l (.lst (a++[y])))
theorem wS:Tw X "list.append" Zc:=by
 intro pins s σ H x vs v us Q I c f h
 obtain⟨l,xs,y,rfl,rfl,b,hz,q⟩:=h
 cases c
 obtain⟨u,rfl,d⟩:=f.one
 obtain⟨z,a,n,r,hl,e⟩:=I.zq b
 refine afb F.slot_list_append ⟨_,e,rfl⟩ F.entry_list_append (F.args_list_append_2 _ _) (PySem.list_append l a.toArray n u (by grind)) ⟨e,?_⟩
 refine⟨.non,_,I.Mg b e (by simp) (r.append (.cons d .nil)) ?_,rfl,q⟩
 grind
def Zd:V->List V->Hp->VK->Prop:=λx d H Q=>∃l b c a,x=.ref l/\d=[.ref b]/\H l=some (.lst c)/\H b=some (.lst a)/\c.length+a.length<=sizeLine/\Q .non (upd H l (.lst (c++a)))
theorem Ze:Tw X "list.extend" Zd:=by
 intro pins s σ H x vs v us Q I t o h
 obtain⟨l,b,xs,zs,rfl,rfl,g,j,hz,q⟩:=h
 cases t
 obtain⟨u,rfl,k⟩:=o.one
 cases k
 obtain⟨z,c,n,r,hl,e⟩:=I.zq g
 obtain⟨z2,a,i,p,hl2,m⟩:=I.zq j
 have f:c.toArray.size+a.toArray.size<=sizeLine:=by grind
 have d:¬(!c.toArray.isEmpty&&adl (c.toArray.size+a.toArray.size))=true:=by
  rw[zVf f]
  grind
 refine afb F.slot_list_extend ⟨_,e,rfl⟩ F.entry_list_extend (F.args_list_extend_2 _ _)
  (AutoSeq1.list_extend_list_list_0 l c.toArray n b a.toArray i d (by grind) (by lia)) ⟨e,m,?_⟩
 refine⟨.non,_,I.Mg g e (by simp) (r.append p) ?_,rfl,q⟩
 grind
def Tz:V->List V->Hp->VK->Prop:=λx b H Q=>∃l a y,x=.ref l/\b=[]/\H l=some (.lst a)/\a[a.length-1]?=some y/\Q y (upd H l (.lst a.dropLast))
theorem Mh:Tw X "list.pop" Tz:=by
 intro pins s σ H x vs v us Q I f i h
 obtain⟨l,xs,y,rfl,rfl,d,j,q⟩:=h
 cases f
 have b:=i.zero
 subst b
 obtain⟨z,a,n,r,hl,e⟩:=I.zq d
 obtain⟨u,hu,g⟩:=r.get j
 have c:a.toArray[a.toArray.size-1]?=some u:=by
  grind
 refine afb F.slot_list_pop ⟨_,e,rfl⟩ F.entry_list_pop (F.args_list_pop_1 _) (MeetsSeq.list_pop_last l a.toArray n u c (by grind)) ⟨e,?_⟩
 refine⟨y,_,I.Mg d e ?_ r.dropLast ?_,g,q⟩
 ·grind
 grind
def TF:R2:=λx y H Q=>∃l b c a,x=.ref l/\y=.ref b/\H l=some (.lst c)/\H b=some (.lst a)/\c.length+a.length<=sizeLine/\∀p,H p=none->Q (.ref p) (upd H p (.lst (c++a)))
theorem Mi:lR X (binaryOp .Add) TF:=by
 intro pins s σ H x y v u Q I m d h
 obtain⟨l,b,xs,zs,rfl,rfl,f,j,hz,q⟩:=h
 cases m
 cases d
 obtain⟨z,c,n,r,hl,e⟩:=I.zq f
 obtain⟨z2,a,n2,k,hl2,i⟩:=I.zq j
 refine PySem.P.add_list e i ?_ (by grind)
 have g:c.toArray++a.toArray=(c++a).toArray:=by simp
 rw[g]
 exact⟨.ref _,_,I.Zb (r.append k) (by grind),rfl,q _ I.fresh⟩
end
end L2
namespace Att
open PySem PySem.W PySem.Calls PyProof.Rows
theorem zGa:∀(ns:LI)(vs:List Value),WellAll P h vs (ns.map WData.int)->IntsAre vs ns:=by
 intro ns
 induction ns with
 |nil =>
  intro vs w
  cases w
  exact .nil
 |cons n ns ih =>
  intro vs w
  cases w with
  |cons a b =>
   cases a
   exact .cons _ _ (ih _ b)
theorem zQ8{l:OpenLaw}(hn:l.most=some n)(c:l.row.toRowW.claim.pre b=true)(j:WellAll P h g b) :
  ∃a vs ns,g=[abq a]/\b=[WData.list (ns.map WData.int)]/\h.get? a=some { cls:=.type "list",data:=.seq vs.toArray }/\IntsAre vs ns/\ns.length<=n:=by
 have i:=(pre_splitW c).1
 have m:l.pre.holds [] { args:=b }=true:=(pre_splitW c).2
 obtain⟨d,r,rfl,p,t⟩:=hasAllW_cons i
 obtain rfl:=hasAllW_nil t
 obtain⟨xs,rfl,s⟩:=hasW_list p
 obtain⟨ns,rfl⟩:=items_int s
 have f:ns.length<=n:=by
  unfold OpenLaw.pre at m
  have k:(WTm.not (.lt (.lit (.int (n:Int))) (.len (.arg 0)))).holds [] { args:=[.list (ns.map .int)] }=true:=by
   have k:=(holds_andW m).1
   grind
  have h5:=condW_of k (w_not (w_lt w_lit (w_len_list (w_arg rfl))))
  grind
 cases j with
 |cons q u =>
  cases u
  cases q with
  |list o e=>exact⟨_,_,ns,rfl,rfl,o,zGa ns _ e,f⟩
theorem zRm(l:OpenLaw)(a:List WData):l.row.toRowW.claim.post a (.bool true) a=true :=
 postW_of
  (show WShape.has [] (.bool true) .bool=true by first|rfl|decide|grind)
  (w_eq_bool (w_res rfl) w_lit) rfl
theorem sG{l:OpenLaw}{B:World->Heap->Prop}{d:DefRec}(P:l.most=some n)(v:d.params.defaults=[])(call:∀(w:World) (x b:Shared) (mg t:Str->Option Value) (h:Addr) (o:Obj) (z m c:Value) (a:Addr) (vs:List Value) (ns:LI),
   Ground q e [] L w x mg t b.heap->B w b.heap ->
   b.heap.get? h=some o->o.data=.func (docDef d.name d.params d.body d.scope z m c)->b.heap.CodeRec m d.name->mg d.name=some (.ref h) ->
   b.heap.get? a=some { cls:=.type "list",data:=.seq vs.toArray }->IntsAre vs ns->ns.length<=n->b.gens=#[] ->
   codeAny (model l.prog w) callerA (.call (.ref h) ⟨[.ref a],[]⟩) (λr s'=>r=.ok (.ret (.bool true))/\OldK b.heap s'.heap/\s'.os=b.os/\AllBare s'.gens) b) :
  WalkO q e L B l.row.toRowW d [] (λf vs=>PySem.call f vs):=by
 intro w x b mg t G Y h o z m c N E C I u A p H args vals as j hlay hrd y hlo
 obtain rfl:N=.none:=Dflts.none A v
 obtain rfl:E=.none:=Dflts.noKw A
 obtain⟨a,vs,ns,rfl,rfl,k,g,i⟩:=zQ8 P j y
 refine enter_call (adf (call w x b mg t h o z m c a vs ns G Y C (fd_plain I) u p k g i H) λr s' O=>?_)
 obtain⟨rfl,J,F,D⟩:=O
 exact⟨.inl ⟨.bool true,.bool true,[],rfl,λ_=>rfl,.bool true,zRm l _,λ_=>⟨Pairwise.nil,λ_ M=>(nomatch M)⟩⟩,J,F,D⟩
end Att
namespace L2
open PySem PySem.Spec PyProof.Rows
theorem zJh:∀{vs:List Value}{ns:LI},IntsAre vs ns->Vals (ns.map V.int) vs
 |_,_,.nil=>.nil
 |_,_,.cons n t h=>.cons ⟨t,rfl⟩ (zJh h)
def Only(H:Hp):Prop:=∀b,H b=none\/∃o a,H b=some (.uc o (.lst a))
theorem zVo{K:Frag}{c:Shared}{vs:List Value}(X:K.In c.heap)(D:c.heap.Ns abl mg)(g:c.heap.Ns builtinsNs Y)(L:∀x:Str,x ≠ "__name__"->Y x=bootBuiltins x)(t:c.heap.NoLimit)(hg:c.gens=#[])(J:c.heap.get? a=some { cls:=.type "list",data:=.seq vs.toArray })(Z:IntsAre vs ns)(hl:ns.length<=sizeLine)(hr:bR k callerA)(F:∀base:Heap,K.In base->base.Ns abl mg->aq P w K mg base CX k T fd [x] sp)(l:∀(s:Shared) (u:Value),BindsTo s fd ⟨[u],[]⟩ [(x,u)])(N:∀H:Hp,Only H->aZ K H a (ns.map V.int)->sp [.ref a] H (λv _=>v=.bl true) λ_ _ _=>False)(M:∀H e s',CX [] H c (λ_ _ _=>False) e s'->False) :
  codeAny (model P w) callerA (.call (.ref T) ⟨[.ref a],[]⟩) (λr s'=>r=.ok (.ret (.bool true))/\OldK c.heap s'.heap/\s'.os=c.os/\AllBare s'.gens) c:=by
 have U:=zJh Z
 have B:=Z.length
 have j:∀H:Hp,Only H->aZ K H a (ns.map V.int)->iI P w H c.heap->(∀b,H b≠none->b=a)->(H a≠none->K.lookup a=none) ->
   codeAny (model P w) callerA (.call (.ref T) ⟨[.ref a],[]⟩) (λr s'=>r=.ok (.ret (.bool true))/\OldK c.heap s'.heap/\s'.os=c.os/\AllBare s'.gens) c:=by
  intro H hO hS C S hK
  have f:∀{b:Addr}{o:Obj},c.heap.get? b=some o->H b=none->(qW c.heap H).get? b=some o:=λe n=>zVu e n
  have Q:∀{b:Addr}{o:Obj}{y:Array DictEntry}{A:Nat},c.heap.get? b=some o->o.data=.dict y A->H b=none:=λ{b o y A} e d=>by
   cases q:H b with
   |none=>rfl
   |some u =>
    have R:b=a:=S b (by rw[q];simp)
    subst R
    rw[J] at e;cases e
    have d':Data.seq vs.toArray _=Data.dict y A:=d
    cases d'
  have i:∀{b:Addr}{m:Str->Option Value},c.heap.Ns b m->(qW c.heap H).Ns b m:=λ{b m} ⟨o,y,A,e,d,r⟩=>⟨o,y,A,f e (Q e d),d,r⟩
  have p:K.In (qW c.heap H):=λb o e=>f (X b o e) (by
   cases q:H b with
   |none=>rfl
   |some u =>
    have R:b=a:=S b (by rw[q];simp)
    subst R
    rw[hK (by rw[q];simp)] at e;cases e)
  have hM:Mod K mg (qW c.heap H):=⟨p,i D,⟨Y,i g,L⟩,let⟨mc,h1,h2⟩:=t;⟨mc,i h1,h2⟩⟩
  have e0:uq P w K mg (qW c.heap H) callerA [] c H:=⟨rfl,hM,λb o e=>EY e,afd (zSr _ _),trivial,λb g=>absurd (show b∈([]:List Addr) from g) (by simp),C,.of_eq hg⟩
  refine adf ((F _ p (i D)).run callerA [] c H ⟨[.ref a],[]⟩ [.ref a] [.ref a] _ _ hr e0 (l c (.ref a)) (.cons rfl .nil) (N H hO hS)) λr s' h=>?_
  cases r with
  |error e=>exact(M H e s' h).elim
  |ok fl =>
   cases fl with
   |next=>exact aby h
   |brk=>exact aby h
   |cont=>exact aby h
   |ret u =>
    obtain⟨v,H',os,G,un,E,r',q⟩:=h
    have q':v=.bl true:=q
    subst q'
    obtain rfl:u=Value.bool true:=r'
    refine⟨rfl,OldK.of_keep λb o e=>?_,os,G⟩
    cases q:H b with
    |none=>exact un.keep b o e q (by intro z;exact absurd (show b∈([]:List Addr) from z) (by simp)) (by simp)
    |some u =>
     rcases hO b with z|⟨ob,xs,z⟩
     ·rw[q] at z;cases z
     ·have z2:=un.nQ b ob _ z
      obtain⟨e1,_⟩:=C b _ z
      obtain⟨e2,_⟩:=E b _ z2
      rw[e] at e1;cases e1
      exact e2
 cases O:K.lookup a with
 |some o =>
  have e:=X a o O
  rw[J] at e
  cases e
  refine j (λ_=>none) (λ_=>.inl rfl) (.inr ⟨_,vs.toArray,_,O,rfl,rfl,rfl,by rw[size_toArray,B];exact hl,by simpa using U⟩) (λb u z=>by have I:(none:Option HO)=some u:=z;cases I) (λb z=>absurd rfl z) λz=>absurd rfl z
 |none =>
  refine j (λb=>if b=a then some (.uc { cls:=.type "list",data:=.seq vs.toArray } (.lst (ns.map V.int))) else none) (λb=>?_) (.inl (.inr ⟨{ cls:=.type "list",data:=.seq vs.toArray },if_pos rfl⟩)) (λb u z=>?_) (λb z=>?_) λ_=>O
  ·by_cases g:b=a
   ·exact .inr ⟨_,_,if_pos g⟩
   ·exact .inl (if_neg g)
  ·by_cases g:b=a
   ·have I:=(if_pos g).symm.trans z
    cases I
    subst g
    exact⟨J,by rw[length_map];exact hl,vs,_,U,J⟩
   ·have I:=(if_neg g).symm.trans z
    cases I
  ·by_cases g:b=a
   ·exact g
   ·exact absurd (if_neg g) z
theorem Ge{l:aef}{D:World->Heap->Prop}{d:DefRec}{K:Params->Frag}{CX:World->Bg}{sp:World->Sp}(hn:l.most=some n)(z:n<=sizeLine)(r:d.params.defaults=[])(hr:bR k callerA)(hY:∀(w:World) (h:Heap),D w h->(K w.params).In h)(F:∀(w:World) (mg:Str->Option Value) (p:Addr) (h:Heap),(K w.params).In h->h.Ns abl mg->mg d.name=some (.ref p) ->
   ∃y:FuncData,(∀(s:Shared) (u:Value),BindsTo s y ⟨[u],[]⟩ [(x,u)]) /\
    ∀base:Heap,(K w.params).In base->base.Ns abl mg->aq l.prog w (K w.params) mg base (CX w) k p y [x] (sp w))(t:∀(w:World) (H:Hp) (a:Addr) (ns:LI),ns.length<=n->Only H->aZ (K w.params) H a (ns.map V.int)->sp w [.ref a] H (λv _=>v=.bl true) λ_ _ _=>False)(B:∀(w:World) (H:Hp) (s:Shared) (e:Value) (s':Shared),CX w [] H s (λ_ _ _=>False) e s'->False) :
  PySem.W.WalkO q loose XP D l.row.toRowW d [] (λf vs=>PySem.call f vs):=by
 refine Att.sG hn r λw s₀ s₁ mg mb p o pm cd doc a vs ns G Y ho hd hcd A m j i hg=>?_
 have C:=hY w _ Y
 obtain⟨y,hb,hF⟩:=F w mg p _ C G.T.g A
 exact zVo C G.T.g G.T.b G.T.builtins G.T.nolimit hg m j (aa1 i z) hr hF hb (λH hO E=>t w H a ns i hO E) λH e s'=>B w H s₁ e s'
def xI(s:Stmt)(j:Nat):Stmt:=match s with
 |.ClassDef _ _ _ b _ _ _ _ _ _ _=>b.getD j (.Pass ⟨0,0,0,0⟩)
 |_=>.Pass ⟨0,0,0,0⟩
def uT(s:Stmt):Arguments:=match s with
 |.FunctionDef _ a _ _ _ _ _ _ _ _=>a
 |_=>{ posonlyargs:=[],args:=[],vararg:=none,kwonlyargs:=[],kw_defaults:=[],kwarg:=none,defaults:=[] }
def wV(s:Stmt):List Stmt:=match s with
 |.FunctionDef _ _ b _ _ _ _ _ _ _=>b
 |_=>[]
def zI(s:Stmt):Scope:=match s with
 |.FunctionDef _ _ _ _ _ _ a _ _ _=>a
 |_=>{ kind:=.function,names:=[],isGenerator:=false,isCoroutine:=false }
abbrev aN:Bg:=λ_ _ _ _ _ _=>False
abbrev E0:XK:=λ_ _ _=>False
theorem xZ:DW aN X E0:=λ_ _ _ _ _ _ _ h=>h.elim
structure aW(K:Frag)(x qual:Str)(st:Stmt)(f:Addr)(fd:FuncData):Prop where
 ex:∃(oc:Value)(od:Option Addr)(kV doc pm:Value)(an:Option Addr)(cdv ct:Value)(osl:Array (Option Value)),
  fd=fnOf x qual (uT st) (wV st) (zI st) .none kV doc pm an cdv ct/\K.lookup f=some ⟨oc,od,.func fd,osl⟩/\codeIn K cdv qual=true
 kp:keepIn K (.ref f)=true
section
variable{P:Program}{w:World}{K:Frag}{mg:Str->Option Value}{base:Heap}
theorem aW.ok{x c:Str}{st:Stmt}{f:Addr}{l:FuncData}{N ps:List Str}{k:Nat}{sp:Sp}(F:aW K x c st f l)(S:ao N ps (zI st))(i:∀vs H Q E,sp vs H Q E->vs.length=ps.length)(e:∀(d:Value) (A:Around) (b:List Env) (s:Shared) (H:Hp) (vs:List V) (Q:VK) (E:XK),bR k (A.deeper (envOfC c (zI st) s.heap.objs.size f d))->sp vs H Q E ->
   ∃t,nU (qj aN P w K mg base N c (zI st) f d A b s H E).Fd (wV st) t/\t { nx:=λ_ H'=>Q .non H',rt:=Q } (start N vs) H):aq P w K mg base aN (k+1) f l ps sp:=by
 obtain⟨oc,od,kV,doc,pm,an,d,ct,osl,rfl,n,j⟩:=F.ex
 refine Js n j S i λA b s H vs Q E m g=>?_
 obtain⟨t,h,q⟩:=e d A b s H vs Q E m g
 exact⟨t,h.Fd,q⟩
theorem aW.binds{x b:Str}{st:Stmt}{f:Addr}{j:FuncData}{ps:List Str}(F:aW K x b st f j)(h:∀(kV d g:Value) (i:Option Addr) (c e:Value) (us:List Value),us.length=ps.length->bindArgs (fnOf x b (uT st) (wV st) (zI st) .none kV d g i c e) ⟨us,[]⟩=pure (ps.zip us)):Binds K j ps []:=by
 obtain⟨oc,od,kV,d,g,i,c,e,osl,rfl,lk,hcd⟩:=F.ex
 exact .all (h kV d g i c e)
theorem lV{x a:Str}{st:Stmt}{f:Addr}{j:Value}{od i:Option Addr}{e:Array (Option Value)}{kV d g b h:Value}(l:K.lookup f=some ⟨j,od,.func (fnOf x a (uT st) (wV st) (zI st) .none kV d g i b h),e⟩)(c:codeIn K b a=true)(k:keepIn K (.ref f)=true):aW K x a st f (fnOf x a (uT st) (wV st) (zI st) .none kV d g i b h):=⟨⟨j,od,kV,d,g,i,b,h,e,rfl,l,c⟩,k⟩
end
theorem Gf(a:bR k A):A.units+1<cLine:=aa7 (Nat.add_le_add_left (by decide:1<=64) _) a.units
theorem Zf(h:n<=1000):n<sizeLine:=aa7 h (by decide)
section
variable{X:Cx}
theorem pv(i:Nat)(b:X.N[i]?=some x:=by rfl)(d:Ss X.env.scope x:=by first|exact Or.inl rfl|exact Or.inr (Or.inl rfl)|exact Or.inr (Or.inr rfl))(c:(x==("__debug__":Str))=false:=by decide)(a:(x==("__classdict__":Str))=false:=by decide):PE X (.Name x pos) (cP i):=KR b d c a
end
theorem m_{A B:Prop}(h:B):if false=true then A else B:=by
 grind
theorem jW{A B:Prop}(h:A):if true=true then A else B:=by
 grind
theorem BW{c A B:Prop}[Decidable c](h1:c->A)(h2:¬c->B):if c then A else B:=by
 grind
def Same(H H':Hp):Prop:=∀b o,H b=some o->H' b=some o
theorem Same.refl(H:Hp):Same H H:=λ_ _ h=>h
theorem Same.trans(a:Same H d)(b:Same d e):Same H e:=λc o h=>b c o (a c o h)
theorem Same.free(e:Same H H')(h:H' l=Option.none):H l=Option.none:=by
 cases q:H l with
 |none=>rfl
 |some o =>
  rw[e l o q] at h
  cases h
theorem Same.seq{K:Frag}{H H':Hp}{a:Addr}{xs:List V}(e:Same H H')(h:aZ K H a xs):aZ K H' a xs:=by
 rcases h with(h|⟨o,h⟩)|h
 ·exact .inl (.inl (e _ _ h))
 ·exact .inl (.inr ⟨o,e _ _ h⟩)
 ·exact .inr h
open PySem
section
variable{prog:Program}{w:World}{A:Around}{R:Result->Shared->Prop}{s:Shared}
theorem uF{α:Type}{t:Sem α}{Q b:α->Shared->Prop}(h:wpAny M A t Q (λ_ _=>False) s)(c:∀a s,Q a s->b a s):wpAny M A t b (notedBy M A env E) s :=
 ab0 h c λ_ _ z=>z.elim
theorem zKy(I:Nat->Shared->Prop)(d:∀n s,I n s->wpAny (model prog w) A (pyNext k) (λr j=>match r with
   |none=>R (.ok .next) j
   |some v=>wpAny (model prog w) A (letOwnedTupleGo a k v) (λ_ o=>wpAny (model prog w) A (assign a env v) (λ_ t =>
     wpAny (model prog w) A (forIn f true λc r=>if r=true then do let i <-isTrue c env (eval c env);pure (acj i) else pure (acj r)) (λi l =>
      if i=true then wpAny (model prog w) A (eval g env) (λx u =>
       wpAny (model prog w) A (call (.builtin "list.append") [acc,x]) (λ_ y=>∃m,m<n/\I m y) (λ_ _=>False) u) (λ_ _=>False) l
      else∃m,m<n/\I m l) (λ_ _=>False) t) (λ_ _=>False) o) (λ_ _=>False) j) (λ_ _=>False) s)(n:Nat)(h:I n s):codeAny (model prog w) A (.compLoop (.ListComp g [⟨a,e,f,0⟩] b pos) 0 k acc env) R s:=by
 refine codeAny_loop rfl I (λn s B=>?_) n h
 show wpAny _ A ((compTurn (.ListComp g [⟨a,e,f,0⟩] b pos) 0 k acc env).onRaise (λx=>do noteFrame x env;theTreesLotGoes x)) _ _ s
 refine wpAny_noted ?_
 rw[compTurn_list]
 refine aaw (ae8 (aaw (uF (d n s B) λr j q=>?_)))
 cases r with
 |none=>exact aax q
 |some v =>
  refine aaw (uF q λ_ o D=>?_)
  refine aaw (uF D λ_ t z=>aaw (uF z λi l p=>?_))
  cases i with
  |false=>exact aax ⟨rfl,p⟩
  |true =>
   exact aaw (aaw (uF p λx u E=>aaw (uF E λ_ y C=>aax (aax ⟨rfl,C⟩))))
end
def qz(env:Env):List (Str×NameKind)->List (Str×Addr)->List (Str×Addr)
 |[],a=>a
 | (n,k)::r,a=>if k==.free then qz env r ((n,(env.cells.lookup n).getD 0)::a) else qz env r a
theorem zDv{scope:Scope}{env:Env}(h:∀y∈scope.names,y.2=.free->∃c,env.cells.lookup y.1=some c):closureFor scope env=pure (qz env scope.names []):=by
 unfold closureFor
 generalize scope.names=l at h
 have go:∀(l:List (Str×NameKind))(acc:List (Str×Addr)),(∀y∈l,y.2=.free->∃c,env.cells.lookup y.1=some c) ->
    (forIn l acc (λ(x:Str×NameKind) (r:List (Str×Addr))=>match x with
    | (name,kind)=>if(kind==abu)=true then(do let __do_lift <-cellOf env name;pure (acj ((name,__do_lift)::r))) else pure (acj r)):Sem (List (Str×Addr)))=pure (qz env l acc):=by
  intro l
  induction l with
  |nil=>intro acc _;rfl
  |cons x r ih =>
   intro acc hl
   obtain⟨n,k⟩:=x
   rw[List.forIn_cons]
   unfold qz
   by_cases hk:(k==abu)=true
   ·obtain⟨c,hc⟩:=hl (n,k) mem_cons_self (aej hk)
    simp only[hk,if_true]
    have hc':env.cells.lookup n=some c:=hc
    unfold cellOf
    rw[hc']
    exact ih _ λy hy=>hl y (mem_cons_of_mem _ hy)
   ·simp only[hk,if_false]
    exact ih _ λy hy=>hl y (mem_cons_of_mem _ hy)
 have e:=go l [] h
 simp only[bind_pure]
 exact e
theorem Zg{env:Env}:∀(l:List (Str×NameKind))(acc:List (Str×Addr)),(∀x c,acc.lookup x=some c->(env.cells.lookup x).getD 0=c)->∀x c,(qz env l acc).lookup x=some c->(env.cells.lookup x).getD 0=c
 |[],_,h,x,c,e=>h x c e
 | (n,k)::r,acc,h,x,c,e=>by
  unfold qz at e
  by_cases a:(k==abu)=true
  ·rw[if_pos a] at e
   refine Zg r _ (λy d q=>?_) x c e
   grind
  ·rw[if_neg a] at e
   exact Zg r acc h x c e
theorem Zh:∀(l:List (Str×NameKind))(acc:List (Str×Addr))(x:Str)(c:Addr),(qz env l acc).lookup x=some c->(acc.lookup x).isSome=true\/(x,abu)∈l
 |[],_,x,c,e=>.inl (by unfold qz at e;grind)
 | (n,k)::r,acc,x,c,e=>by
  unfold qz at e
  by_cases a:(k==abu)=true
  ·rw[if_pos a] at e
   rcases Zh r _ x c e with h|h
   ·grind
   grind
  ·rw[if_neg a] at e
   rcases Zh r _ x c e with h|h
   ·grind
   grind
theorem WT:∀(l:List (Str×NameKind))(acc:List (Str×Addr))(x:Str),((acc.lookup x).isSome=true\/(x,abu)∈l)->((qz env l acc).lookup x).isSome=true
 |[],_,x,h=>by
  rcases h with h|h
  ·exact h
  grind
 | (n,k)::r,acc,x,h=>by
  unfold qz
  by_cases a:(k==abu)=true
  ·rw[if_pos a]
   refine WT r _ x ?_
   grind
  ·rw[if_neg a]
   refine WT r _ x ?_
   grind
theorem zEp{env:Env}:∀{a:List (Str×NameKind)}{x:Str},a.lookup x=some .free ->
  (a.map λ(n,k)=>if(k==abu&&env.scope.kind==.function&&env.kindOf n==some .cell) then(n,adn) else(n,k)).lookup x=some .cell \/
  (a.map λ(n,k)=>if(k==abu&&env.scope.kind==.function&&env.kindOf n==some .cell) then(n,adn) else(n,k)).lookup x=some .free
 |[],_,h=>by simp at h
 | (n,k)::r,x,h=>by
  have ih:=@zEp env r x
  grind
theorem Zi{env:Env}:∀{a:List (Str×NameKind)}{x:Str}{k:NameKind},(k=.cell\/k=.free) ->
  (a.map λ(n,k)=>if(k==abu&&env.scope.kind==.function&&env.kindOf n==some .cell) then(n,adn) else(n,k)).lookup x=some k->(x,abu)∈a\/(x,adn)∈a
 |[],_,_,_,h=>by simp at h
 | (n,k')::r,x,k,b,h=>by
  have ih:=@Zi env r x k b
  grind
theorem wG:∀(l:List (Str×NameKind))(n:Nat)(acc:List (Str×Addr)),cellsFrom n l acc=cellsFrom n l []++acc
 |[],_,_=>rfl
 | (x,k)::r,n,acc=>by
  unfold cellsFrom
  split
  ·rw[wG r (n+1) ((x,n)::acc),wG r (n+1) [(x,n)]];simp
  ·exact wG r n acc
theorem Zj:∀(l:List (Str×NameKind))(n:Nat)(x:Str)(c:Addr),(x,c)∈cellsFrom n l []->(x,adn)∈l
 |[],_,_,_,h=>by cases h
 | (y,k)::r,n,x,c,h=>by
  unfold cellsFrom at h
  split at h
  ·rw[wG] at h
   rcases mem_append.mp h with h|h
   ·exact mem_cons_of_mem _ (Zj r _ x c h)
   grind
  ·exact mem_cons_of_mem _ (Zj r _ x c h)
theorem zE0{s:Shared}{a:Scope}{Q:Env->Shared->Prop}(j:∀h',h'.Ns s.heap.objs.size (λ_=>none)->(∀b o,s.heap.get? b=some o->h'.get? b=some o)->CellsOk h' (s.heap.objs.size+1) (cellsFrom (s.heap.objs.size+1) a.names []) ->
   Q (newEnv a s.heap.objs.size c (cellsFrom (s.heap.objs.size+1) a.names d) g none .none (some f) builtinsNs) { s with heap:=h' }) :
  wpAny M A (newFunctionEnv a c d [] g none .none (some f)) Q E s:=by
 refine aaw (wpAny_alloc ?_)
 refine aaw (wpAny_layCells _ (λname kind cells=>by grind) _ _ _ _ ?_)
 have h:=cellsFrom_ok a.names (s.heap.push { cls:=.type "dict",data:=.dict #[] }) (s.heap.objs.size+1) [] ⟨λ_ _ i=>(nomatch i),Pairwise.nil⟩ (by simp_all)
 rw[size_push] at h
 rw[size_push ..]
 refine aaw ?_
 rw[List.forIn_nil]
 exact aax (aax (j _ ((Heap.Ns.new s.heap (.type "dict")).keeps (pushCells_keeps _ _)) (λb o e=>pushCells_keeps _ _ b o (get?_push_of_some _ e)) h))
theorem iI.track(x:iI P w H h)(f:H a=none)(new:cu P w (upd H a o) h a o):iI P w (upd H a o) h:=λb u e=>by
 by_cases d:b=a
 ·subst d;rw[zM] at e;grind
 ·rw[zT d] at e
  exact(x b u e).stay (λc v _ q=>q) (λc q=>by rw[zT (zQ q f)];exact q) λc xs q=>by rw[zT (zQ q f)];exact q
theorem Un.track(u:Un fs i H H' h h')(h0:h.get? a=none)(e:H a=none):Un fs i H (upd H' a o) h h' where
 keep:=u.keep
 slot:=u.slot
 free:=λb c q n f=>by
  rw[zT (λz=>by grind)];exact u.free b c q n f
 there:=u.there
 tups:=λb d q=>by rw[zT (zQ q e)];exact u.tups b d q
 nQ:=λb c d q=>by rw[zT (zQ q e)];exact u.nQ b c d q
 qg:=λb g q=>by rw[zT (zQ q e)];exact u.qg b g q
def nIn(N:List Str)(own:List Str)(ix:List Nat):List Str:=own++ix.map λj=>N.getD j adw
def jG(σ:St)(n:Nat)(ix:List Nat):St:=replicate n none++ix.map λj=>(σ[j]?).getD none
def dR(X:Cx)(a:Scope)(own:List Str)(ix:List Nat)(C:Addr)(s:Shared)(H:Hp)(fp:List Addr):Cx :=
 { X with N:=nIn X.N own ix,s₀:=s,H₀:=H,env:=compEnvC a (cellsFrom (C+1) a.names (qz X.env a.names [])) C X.env,outer:=X.stack,stack:=X.stack,ex:=fp,fn:=λx=>a.names.lookup x==some .cell,pn:=[] }
def WW(b:Scope)(c:List Str)(a:Scope)(ix:List Nat):Bool :=
 a.kind==.function &&
 (a.names.all λy=>(y.2 != .cell||a.names.lookup y.1==some .cell)&&(y.2 != .local||a.names.lookup y.1==some .local)&&(y.2 != .free||(b.names.lookup y.1==some .cell||b.names.lookup y.1==some .free))) &&
 ix.all λj=>match c[j]? with
  |some x=>a.names.lookup x==some .free
  |none=>false
structure jX(osc:Scope)(oN:List Str)(scope:Scope)(ix:List Nat):Prop where
 kind:scope.kind=.function
 clk:∀y∈scope.names,y.2=.cell->scope.names.lookup y.1=some .cell
 nm:∀y∈scope.names,y.2=.local->scope.names.lookup y.1=some .local
 fr:∀y∈scope.names,y.2=.free->osc.names.lookup y.1=some .cell\/osc.names.lookup y.1=some .free
 ix:∀j∈ix,∃x,oN[j]?=some x/\scope.names.lookup x=some .free
theorem zKw(h:WW b d a ix=true):jX b d a ix:=by
 unfold WW at h
 rw[abn,abn,all_eq_true] at h
 obtain⟨⟨f,h2⟩,h3⟩:=h
 refine⟨aej f,λy c e=>?_,λy c e=>?_,λy c e=>?_,λj hj=>?_⟩
 ·grind
 ·grind
 ·grind
 grind
section
variable{X:Cx}{pins:List (Addr×Obj)}{σ:St}{H:Hp}{s:Shared}{scope:Scope}{own:List Str}{ix:List Nat}
theorem Zk(I:Inv X pins σ H s)(a:jX X.env.scope X.N scope ix):∀y∈scope.names,y.2=.free->∃c,X.env.cells.lookup y.1=some c:=λy b e=>by
 rcases a.fr y b e with q|q
 ·exact I.ok.has y.1 (.inl q)
 ·exact I.ok.has y.1 (.inr q)
theorem zN3(I:Inv X pins σ H s)(a:jX X.env.scope X.N scope ix)(e:(qz X.env scope.names []).lookup x=some c):X.env.cells.lookup x=some c:=by
 have h1:=Zg scope.names [] (λx c q=>by simp at q) x c e
 rcases Zh scope.names [] x c e with q|q
 ·simp at q
 ·obtain⟨c',hc⟩:=Zk I a (x,.free) q rfl
  grind
theorem zWg(I:Inv X pins σ H s)(d:jX X.env.scope X.N scope ix)(b:(x,abu)∈scope.names)(e:X.env.cells.lookup x=some c):(qz X.env scope.names []).lookup x=some c:=by
 have a:=WT (env:=X.env) scope.names [] x (.inr b)
 obtain⟨c',f⟩:=abr.mp a
 have:=zN3 I d f
 grind
theorem Mj(I:Inv X pins σ H s)(a:jX X.env.scope X.N scope ix)(e:(cellsFrom (C+1) scope.names (qz X.env scope.names [])).lookup x=some c):(x,c)∈cellsFrom (C+1) scope.names []\/X.env.cells.lookup x=some c:=by
 rw[wG,lookup_append] at e
 cases h:(cellsFrom (C+1) scope.names []).lookup x with
 |some d=>rw[h] at e;cases e;exact .inl (abv h)
 |none=>rw[h] at e;exact .inr (zN3 I a e)
theorem BX(h:(jG σ n ix)[i]?=some (some v)):∃j,ix[i-n]?=some j/\σ[j]?=some (some v)/\n<=i:=by
 unfold jG at h
 grind
theorem Inv.comp{h₁:Heap}(I:Inv X pins σ H s)(f:jX X.env.scope X.N scope ix)(fo:∀b∈fp,m8 X pins H b)(TJ:∀b∈fp,b<s.heap.objs.size)(E:s.heap.objs.size<=C)(hns:h₁.Ns C m₀)(hk:∀b o,s.heap.get? b=some o->h₁.get? b=some o)(F:CellsOk h₁ (C+1) (cellsFrom (C+1) scope.names [])):Inv (dR X scope own ix C s H fp) [] (jG σ own.length ix) H { s with heap:=h₁,toks:=t' }:=by
 have lt:∀{b:Addr},b<s.heap.objs.size->b≠C:=λ{b} n=>aa4 (aa2 n E)
 have A:∀{x:Str}{c:Addr},X.env.cells.lookup x=some c->c<C+1:=λ{x c} e=>by
  obtain⟨v,q⟩:=I.cell x c e
  exact adz (aa2 q.lt E)
 have g:∀{x:Str}{c:Addr},X.env.cells.lookup x=some c->∀v,s.heap.IsCell c v->h₁.IsCell c v:=λ{x c} _ v ⟨o,ho,hd⟩=>⟨o,hk _ _ ho,hd⟩
 refine⟨⟨I.ok.mod,f.kind,I.ok.glob,I.ok.blt,E,λx y c h1 h2=>?_,λx hx=>?_,λx c h e=>by
  have h':scope.names.lookup x=some .cell:=aej h
  have e':(cellsFrom (C+1) scope.names (qz X.env scope.names [])).lookup x=some c:=e
  rw[wG,lookup_append] at e'
  obtain⟨d,hd⟩:=abr.mp (ada scope.names (C+1) [] (.inl h'))
  rw[hd] at e'
  cases e'
  exact aa1 E (aeo (F.empty _ _ (abv hd)).2),I.ok.hd,I.ok.frames,.inl rfl,λb n=>?_,I.bs,aa1 I.ok.E_ I.sz,λb o e n=>?_,λb n z=>?_,I.stack,I.xq⟩,
  rfl,I.bare,Un.kept hk,⟨m₀,hns,λi x v h1 h2 h3=>?_⟩,λx c h=>?_,I.hok.fresh E,λx c h=>?_,λp hp=>?_,I.hok.kept hk,?_⟩
 ·rcases Mj I f h1 with q1|q1
  ·rcases Mj I f h2 with G|G
   ·exact name_of_addr F.apart q1 G
   ·exact absurd (aa2 (A G) (F.empty _ _ q1).2) (ab3 _)
  ·rcases Mj I f h2 with G|G
   ·exact absurd (aa2 (A q1) (F.empty _ _ G).2) (ab3 _)
   ·exact I.ok.inj x y c q1 G
 ·have k:(x,abu)∈scope.names\/(x,adn)∈scope.names:=by
   rcases hx with hx|hx
   ·exact Zi (env:=X.env) (.inl rfl) hx
   ·exact Zi (env:=X.env) (.inr rfl) hx
  refine abr.mp ?_
  show((cellsFrom (C+1) scope.names (qz X.env scope.names [])).lookup x).isSome=true
  rcases k with k|k
  ·exact ada _ _ _ (.inr (WT (env:=X.env) scope.names [] x (.inr k)))
  ·exact ada _ _ _ (.inl (f.clk _ k rfl))
 ·obtain⟨f0,f1,f2,f3,f4,f5⟩:=fo b n
  refine⟨lt (TJ b n),λx c h=>?_⟩
  rcases Mj I f h with q|q
  ·exactλz=>absurd (aa2 (TJ b n) (aa1 E (aeo (z▸(F.empty _ _ q).2)))) (ab3 _)
  ·exact f4 x c q
 ·obtain⟨f0,f1,f2,f3,f4,f5⟩:=fo b n
  rcases f3 with z|z
  ·exact I.ok.Br b o e z
  ·exact absurd (aa2 (lt_size e) (aa1 I.ok.E_ z)) (ab3 _)
 ·obtain⟨f0,f1,f2,f3,f4,f5⟩:=fo b n
  rcases mem_cons.mp (I.qX b z) with z|z
  ·exact f1 z
  ·exact f2 z
 ·obtain⟨j,hj,hv,hn⟩:=BX h2
  obtain⟨y,hy,hf⟩:=f.ix j (mem_of_getElem? hj)
  have e:y=x:=by
   have D:(nIn X.N own ix)[i]?=some x:=h1
   unfold nIn at D
   rw[getElem?_append_right hn,getElem?_map,hj] at D
   have t:X.N.getD j adw=x:=aa5 D
   rw[getD_eq_getElem?_getD,hy] at t
   exact t
  subst e
  have k:(y,abu)∈scope.names:=abv hf
  have vis:Ss X.env.scope y:=by
   rcases f.fr _ k rfl with q|q
   ·exact .inr (.inl q)
   ·exact .inr (.inr q)
  obtain⟨m,_,hl⟩:=I.loc
  obtain⟨u,r,l⟩:=hl j y v hy hv vis
  refine⟨u,r,?_⟩
  rcases l with⟨hk',_⟩|⟨_,c,hc,J⟩
  ·have w:X.env.scope.names.lookup y=some .local:=hk'
   rcases f.fr _ k rfl with q|q
   ·have B:X.env.scope.names.lookup y=some .cell:=q
    rw[w] at B;cases B
   ·have B:X.env.scope.names.lookup y=some .free:=q
    rw[w] at B;cases B
  ·refine .inr ⟨zEp (env:=X.env) hf,c,?_,g hc _ J⟩
   show(cellsFrom (C+1) scope.names (qz X.env scope.names [])).lookup y=some c
   rw[wG,lookup_append,zWg I f k hc]
   cases e:(cellsFrom (C+1) scope.names []).lookup y with
   |none=>rfl
   |some d =>
    have q:=f.clk _ (Zj _ _ _ _ (abv e)) rfl
    have B:scope.names.lookup y=some .cell:=q
    rw[hf] at B;cases B
 ·rcases Mj I f h with q|q
  ·exact⟨_,(F.empty _ _ q).1⟩
  ·obtain⟨v,z⟩:=I.cell x c q
   exact⟨v,g q v z⟩
 ·rcases Mj I f h with q|q
  ·exact I.hok.fresh (aa1 E (aeo (F.empty _ _ q).2))
  ·exact I.iJ x c q
 ·exact absurd (show p∈([]:List (Addr×Obj)) from hp) (by simp)
 ·show(jG σ own.length ix).length=(nIn X.N own ix).length
  unfold jG nIn
  simp
end
def ql(X:Cx)(b:List Expr)(t:TT):Prop :=
 ∀(a:List (Addr×Obj))(s:Shared)(σ:St)(H:Hp)(Q:Bool->Hp->Prop),Inv X a σ H s->t σ H Q ->
  wpAny (model X.prog X.w) X.A (forIn b true λc r=>if r=true then do let d <-isTrue c X.env (eval c X.env);pure (acj d) else pure (acj r)) (TP X a σ Q) X.xe s
def zu:TT:=λ_ H Q=>Q true H
theorem wJ:ql X [] zu:=λ_ _ _ H _ I h=>wpAny_tests_nil ⟨H,I,h⟩
theorem wZ(h:PT X c t):ql X [c] t:=λa s σ H Q I q=>wpAny_tests_one (h a s σ H Q I q)
def QZ(n:Nat)(ix:List Nat)(g:TG)(s:TT)(te:TE)(σ:St)(Q:VK)(J:It)(q:Hp):Prop :=
 ∃W:Nat->Nat->List V->St->Hp->Prop,(∃m,W 0 m [] (jG σ n ix) q)/\∀i m c k a,W i m c k a ->
  (J.stop i a/\c.length<=sizeLine/\∀p,a p=none->Q (.ref p) (upd a p (.lst c))) \/
  (J.go i a/\c.length<sizeLine/\∃N:List V->St->Hp->Prop,(∀d h o,N d h o->∃j,j<m/\W (i+1) j d h o) /\
   ∀x l,J.K7 i a x l->g x k l λe t=>s e t λb f=>if b=true then te e f λy r=>N (c++[y]) e r else N c e f)
def Q_(n:Nat)(ix:List Nat)(a:TI)(g:TG)(b:TT)(te:TE):TE:=λσ H Q=>a σ H (QZ n ix g b te σ Q)
def Zm(X:Cx)(a:List (Addr×Obj))(σ:St)(Q:VK)(acc:Value)(C:Addr)(s':Shared):Prop :=
 ∃p b,acc=.ref p/\Inv X a σ b s'/\(∃m,s'.heap.Ns C m)/\m8 X a b C/\Q (.ref p) b
theorem Zn{X:Cx}{α:Type}{t:Sem α}{Q b:α->Shared->Prop}(hx:X.xe=λ_ _=>False)(h:wpAny M A t Q X.xe s)(c:∀a s,Q a s->b a s):wpAny M A t b E s :=
 ab0 h c λe s' z=>by grind
section
variable{X:Cx}{elt tg iter:Expr}{ifs:List Expr}{scope:Scope}{pos:Pos}{own:List Str}{ix:List Nat}{wi:TI}{g:TG}{tc:TT}{te:TE}
theorem zHy{RR:Value->Addr->Result->Shared->Prop}(hx:X.xe=λ_ _=>False)(hc:X.calm=true)(sc:jX X.env.scope X.N scope ix)(I:Inv X Z σ H s)(T:Turn X.prog X.w X.K tg J fp it tn)(st:tn 0 s.heap)(fo:∀b∈fp,m8 X Z H b)(hg:∀C s H fp,PG (dR X scope own ix C s H fp) tg g)(hif:∀C s H fp,ql (dR X scope own ix C s H fp) ifs tc)(he:∀C s H fp,PE (dR X scope own ix C s H fp) elt te)(rd:QZ own.length ix g tc te σ Q J H)(hRR:∀acc C s',Zm X Z σ Q acc C s'->RR acc C (.ok .next) s') :
  wpAny (model X.prog X.w) X.A (newList []) (λacc s₃=>wpAny (model X.prog X.w) X.A (newFunctionEnv scope X.env.globals (qz X.env scope.names []) [] X.env.qual none .none (some X.env)) (λY s₄ =>
   codeAny (model X.prog X.w) X.A (.compStart (.ListComp elt [⟨tg,iter,ifs,0⟩] scope pos) 0 (.ref it) acc { Y with scope:=relabel scope X.env }) (RR acc Y.locals) s₄) E s₃) E s:=by
 refine ach (zE0 (λh₁ B m co=>?_))
 dsimp only at B m co ⊢
 generalize l:s.heap.objs.size=D at B m co ⊢
 generalize hH2:s.heap.push { cls:=.type "list",dict:=none,data:=.seq ([]:List Value).toArray }=G at B m co ⊢
 generalize hC':G.objs.size=C at B m co ⊢
 have hC:C=D+1:=by rw[<-hC',<-hH2,size_push,l]
 have hDC:D≠C:=by rw[hC];exact aa4 (ab9 _)
 have hle:s.heap.objs.size<=C:=by rw[hC,l];exact acf _
 have old:∀b o,s.heap.get? b=some o->h₁.get? b=some o:=λb o e=>by
  exact m b o (hH2▸get?_push_of_some _ e)
 have oD:h₁.get? D=some { cls:=.type "list",data:=.seq ([]:List Value).toArray 0 }:=by
  refine m D _ ?_
  rw[<-hH2,<-l]
  exact get?_push_size _ rfl
 have TJ:∀b∈fp,b<s.heap.objs.size:=λb j=>by
  obtain⟨o,e,_⟩:=T.obj 0 _ st b j
  exact lt_size e
 have nDf:∀b∈fp,b≠D:=λb j=>by rw[<-l];exact aa4 (TJ b j)
 have sD:s.heap.get? D=none:=by
  cases e:s.heap.get? D with
  |none=>rfl
  |some o=>exact absurd (lt_size e) (by rw[l];exact ab3 _)
 have hDn:H D=none:=I.hok.fresh (by rw[l];exact aa0 _)
 have I0:Inv (dR X scope own ix C s H fp) [] (jG σ own.length ix) H { s with heap:=h₁ }:=I.comp sc fo TJ hle B old co
 have st0:tn 0 h₁:=T.keep 0 _ _ st λb _ o e=>old b o e
 have hx':(dR X scope own ix C s H fp).xe=λ_ _=>False:=hx
 have U:D≠(dR X scope own ix C s H fp).env.locals:=hDC
 have Dex:D∈(dR X scope own ix C s H fp).ex\/(dR X scope own ix C s H fp).s₀.heap.objs.size<=D:=.inr (by show s.heap.objs.size<=D;rw[l];exact aa0 _)
 have Dfs:D∉(dR X scope own ix C s H fp).fs:=I0.KQ (a:=D) |> λk=>λz=>by
  have z':D∈frs X.stack:=z
  rcases mem_cons.mp (I.qX D z') with q|q
  ·exact absurd (q▸I.lt) (by rw[l];exact ab3 _)
  ·exact I.KQ (by rw[l];exact aa0 _) q
 have TQ:∀x c,(dR X scope own ix C s H fp).env.cells.lookup x=some c->c≠D:=λx c e z=>by
  rcases Mj I sc e with q|q
  ·have w1:=(co.empty _ _ q).2
   rw[z,hC] at w1
   lia
  ·obtain⟨v,q⟩:=I.cell x c q
   exact absurd (aa2 q.lt (by rw[z,l];exact aa0 _)) (ab3 _)
 have Zo:∀{P:Hp}{pl:List (Addr×Obj)},(∀b∈fp,P b=none)->(∀p∈pl,p.1=D)->∀b∈fp,m8 (dR X scope own ix C s H fp) pl P b:=λ{P pl} hn L b j=>by
  obtain⟨f0,f1,f2,f3,f4,f5⟩:=fo b j
  refine⟨hn b j,(I0.ok.Wh b j).1,I0.ok.Bt b j,.inl j,(I0.ok.Wh b j).2,λp hp' z=>?_⟩
  rcases mem_append.mp hp' with q|q
  ·exact absurd (show p∈([]:List (Addr×Obj)) from q) (by simp)
  ·exact nDf b j (by rw[<-z];exact L p q)
 obtain⟨W,⟨m0,w0⟩,step⟩:=rd
 have R:codeAny (model X.prog X.w) X.A (.compLoop (.ListComp elt [⟨tg,iter,ifs,0⟩] scope pos) 0 (.ref it) (.ref D) (dR X scope own ix C s H fp).env) (RR (.ref D) C) { s with heap:=h₁ }:=by
  refine zKy (λn s'=>∃i M σ' P f k,Inv (dR X scope own ix C s H fp) [] σ' P s'/\tn i s'.heap/\(∀b∈fp,P b=none)/\P D=none/\s'.heap.get? D=some { cls:=.type "list",data:=.seq (toArray f) k }/\Vals M f/\W i n M σ' P) ?_ m0
   ⟨0,[],_,H,[],0,I0,st0,λb j=>(fo b j).1,hDn,oD,.nil,w0⟩
  rintro n s1 ⟨i,M,σ1,H1,f,k,I1,tn1,fr1,D1,o1,O,w1⟩
  have J1:Inv (dR X scope own ix C s H fp) [(D,{ cls:=.type "list",data:=.seq (toArray f) k })] σ1 H1 s1:=I1.kj λp L=>by
   have e:p=(D,{ cls:=.type "list",data:=.seq (toArray f) k }):=by simpa using L
   subst e
   exact⟨o1,D1,U,Dfs,λv z=>by cases z⟩
  have t:∀p∈[((D,{ cls:=.type "list",data:=.seq (toArray f) k }):Addr×Obj)],p.1=D:=λp L=>by
   have e:p=(D,{ cls:=.type "list",data:=.seq (toArray f) k }):=by simpa using L
   rw[e]
  rcases step i n M σ1 H1 w1 with⟨stop,hz,qn⟩|⟨go,hz,N,hN,stp⟩
  ·refine aQ (T.done (dR X scope own ix C s H fp) rfl rfl rfl hc i _ s1 σ1 H1 _ J1 (Zo fr1 t) tn1 stop) λr s2 ⟨hr,I2⟩=>?_
   subst hr
   obtain⟨e2,_⟩:=I2.pin (D,{ cls:=.type "list",data:=.seq (toArray f) k }) (mem_append_right _ (by simp))
   obtain⟨m2,Zq,_⟩:=I2.loc
   refine hRR _ _ _ ⟨D,upd H1 D (.lst M),rfl,?_,⟨m2,Zq⟩,?_,qn D D1⟩
   ·refine I.call' (ch:=fp) I2.os (Un.track I2.base sD hDn) (I2.hok.track D1 ⟨hz,f,k,O,e2⟩) I2.bare λb j=>?_
    obtain⟨f0,f1,f2,f3,f4,f5⟩:=fo b j
    exact⟨f3,f1,f4,f5⟩
   ·refine I.m9 hle ?_
    rw[zT hDC.symm]
    exact I2.free
  ·refine aQ (T.item (dR X scope own ix C s H fp) rfl rfl rfl hc i _ s1 σ1 H1 _ J1 (Zo fr1 t) tn1 go) λr s2 ⟨u,hr,h2⟩=>?_
   subst hr
   refine aQ h2 ?_
   rintro _ s3 ⟨x,H3,I3,rx,y3,Zr,fr3⟩
   have I3':=I3.pinned (Zo fr3 t) (T.obj _ _ Zr)
   refine Zn hx' (hg C s H fp _ s3 σ1 H3 x u _ I3' rx (stp x H3 y3)) ?_
   rintro _ s4 ⟨σ4,H4,I4,q4⟩
   refine Zn hx' (hif C s H fp _ s4 σ4 H4 _ I4 q4) ?_
   rintro b s5 ⟨H5,I5,q5⟩
   have S:∀{σ7:St}{H7:Hp}{s7:Shared},Inv (dR X scope own ix C s H fp) ([(D,{ cls:=.type "list",data:=.seq (toArray f) k })]++Jp fp s3.heap) σ7 H7 s7 ->
     tn (i+1) s7.heap/\(∀b∈fp,H7 b=none)/\H7 D=none/\s7.heap.get? D=some { cls:=.type "list",data:=.seq (toArray f) k }:=λ{σ7 H7 s7} I7=>by
    have TV:=I7.pin (D,{ cls:=.type "list",data:=.seq (toArray f) k }) (mem_append_right _ (mem_append_left _ (by simp)))
    refine⟨T.keep _ _ _ Zr λb j o e=>(I7.pin (b,o) (mem_append_right _ (mem_append_right _ (uG j e)))).1,λb j=>?_,TV.2.1,TV.1⟩
    obtain⟨o,e,d⟩:=T.obj _ _ Zr b j
    exact(I7.pin (b,o) (mem_append_right _ (mem_append_right _ (uG j e)))).2.1
   cases b with
   |false =>
    obtain⟨m',hm,w'⟩:=hN _ _ _ (show N M σ4 H5 from q5)
    obtain⟨b1,b2,b3,b4⟩:=S I5
    exact⟨m',hm,i+1,M,σ4,H5,f,k,I5.kj (λp L=>absurd L (by simp)),b1,b2,b3,b4,O,w'⟩
   |true =>
    rw[if_pos rfl]
    refine Zn hx' (he C s H fp _ s5 σ4 H5 _ I5 q5) ?_
    rintro v s6 ⟨y,H6,I6,ry,q6⟩
    obtain⟨m',hm,w'⟩:=hN _ _ _ q6
    obtain⟨b1,b2,b3,b4⟩:=S I6
    have zl:f.length=M.length:=O.length.symm
    refine afb F.slot_list_append ⟨_,b4,rfl⟩ F.entry_list_append (F.args_list_append_2 _ _) (PySem.list_append D f.toArray k v (by rw[size_toArray];lia)) ⟨b4,?_⟩
    have q:=PySem.IsL.update b4 (λxs=>xs.push v)
    have keep:∀b o,b≠D->s6.heap.get? b=some o->(s6.heap.update D (ac4 λxs=>xs.push v)).get? b=some o:=λb o j e=>(get?_update_other s6.heap _ (acy j)).trans e
    refine⟨m',hm,i+1,M++[y],σ4,H6,f++[v],(if(f.toArray.push v).size==f.toArray.size then k else k+1),?_,T.keep _ _ _ b1 (λb j o e=>keep b o (nDf b j) e),b2,b3,?_,O.append (.cons ry .nil),w'⟩
    ·exact(I6.kj (Jg:=[]) λp L=>absurd L (by simp)).turned (t':=s6.toks) keep b3 U Dex TQ λp L=>absurd (show p∈([]:List (Addr×Obj)) from L) (by simp)
    ·rw[show(f++[v]).toArray=f.toArray.push v by simp]
     exact q
 exact codeAny_compStart_list R (T.self X.A 0 _ _ _ st0 R)
theorem xH(R:X.xe=λ_ _=>False)(w:X.calm=true)(L:WW X.env.scope X.N scope ix=true)(F:PI X tg iter wi)(P:∀C s H fp,PG (dR X scope own ix C s H fp) tg g)(i:∀C s H fp,ql (dR X scope own ix C s H fp) ifs tc)(O:∀C s H fp,PE (dR X scope own ix C s H fp) elt te)(u:∀x,foldedSetIterable iter X.env x=pure x:=by intro _;rfl):PE X (.ListComp elt [⟨tg,iter,ifs,0⟩] scope pos) (Q_ own.length ix wi g tc te):=by
 intro a s σ H Q I h
 have c:=zKw L
 refine wpAny_comprehension_free rfl u (zDv (Zk I c)) c.kind c.nm (aQ (F a s σ H _ I h) λv s1 E=>aQ E λitv s2 l=>?_)
 obtain⟨it,fp,tn,J,H2,e,B,T,f,k,M⟩:=l
 subst e
 refine zHy R w c B T f k P i O M ?_
 rintro acc C s' ⟨p,y,rfl,r,⟨m,j⟩,t,q⟩
 obtain⟨D,G,k,n,S,z⟩:=t
 exact⟨m,j,λh' d=>⟨.ref p,y,r.turned (λb o A e=>(d.2 b A).trans e) D G n S z,rfl,q⟩⟩
theorem BZ{f:Pos}(hN:X.N.Nodup)(z:X.N[i]?=some x)(j:X.env.scope.names.lookup x=some .local)(Z:X.xe=λ_ _=>False)(hc:X.calm=true)(Y:WW X.env.scope X.N scope ix=true)(hi:PI X tg iter wi)(P:∀C s H fp,PG (dR X scope own ix C s H fp) tg g)(t:∀C s H fp,ql (dR X scope own ix C s H fp) ifs tc)(he:∀C s H fp,PE (dR X scope own ix C s H fp) elt te)(u:swapsWith (.ListComp elt [⟨tg,iter,ifs,0⟩] scope pos) (some (.Name x c)) f.line X.env=pure true:=by rfl)(hs:∀x,foldedSetIterable iter X.env x=pure x:=by intro _;rfl):PS X (.Assign [.Name x c] (.ListComp elt [⟨tg,iter,ifs,0⟩] scope pos) f) (lU (Q_ own.length ix wi g tc te) (qd i)):=by
 intro d s σ H D I h
 have n:=zKw Y
 rw[exec_Assign_Name_used _ _ _ _ u]
 refine aaw (ae8 (aaw ?_))
 refine aaw (ab0 (wpAny_comprehension_free (use:=some (assign (.Name x c) X.env)) (Q:=λ_ k=>SP X d D .next k) rfl hs (zDv (Zk I n)) n.kind n.nm
  (aQ (hi d s σ H _ I h) λv s1 h1=>aQ h1 λitv s2 W=>?_)) (λ_ k hq=>aax (aax hq)) λ_ _ e=>e)
 obtain⟨it,fp,tn,J,H2,e,O,T,E,M,rd⟩:=W
 subst e
 refine zHy (RR:=λl C=>compPost (model X.prog X.w) X.A X.xe (some (assign (.Name x c) X.env)) (λ_ k=>SP X d D .next k) l C) Z hc n O T E M P t he rd ?_
 rintro l C k ⟨p,H',rfl,R,⟨m,y⟩,fC,q⟩
 obtain⟨f0,U,M,f3,S,f5⟩:=fC
 show wpAny _ X.A (assign (.Name x c) X.env (.ref p)) _ _ _
 refine wpAny_assign_Name (zJl (v:=.ref p) R hN z (.inl j) rfl (?_) (.inr j))
 rintro L r ⟨a,B,ha⟩
 have G:C≠a:=by
  grind
 exact⟨m,y.sameBut B G,λh' F=>⟨_,H',r.turned (t':=L.toks) (λb o hb e=>(F.2 b hb).trans e) f0 U f3 S f5,q⟩⟩
end
section
variable{n:Nat}{ix:List Nat}{g:TG}{tc:TT}{te:TE}{σ:St}{Q:VK}{H:Hp}
theorem zTe{K:Frag}{a:Addr}{xs:List V}(Pv:Nat->List V->St->Hp->Prop)(h0:Pv 0 [] (jG σ n ix) H)(hl:∀i ys σ H,i<=xs.length->Pv i ys σ H->aZ K H a xs/\ys.length<=i)(hz:xs.length<sizeLine)(hs:∀i x ys σ H,xs[i]?=some x->Pv i ys σ H->g x σ H λσ4 H4=>tc σ4 H4 λb H5=>if b=true then te σ4 H5 λy H6=>Pv (i+1) (ys++[y]) σ4 H6 else Pv (i+1) ys σ4 H5)(hd:∀ys σ H,Pv xs.length ys σ H->∀p,H p=none->Q (.ref p) (upd H p (.lst ys))):QZ n ix g tc te σ Q (QS K a) H:=by
 refine⟨λi m ys σ H=>m=xs.length-i/\i<=xs.length/\Pv i ys σ H,⟨xs.length,by simp,abg _,h0⟩,?_⟩
 rintro i m ys σ H ⟨rfl,hi,p⟩
 obtain⟨q,hy⟩:=hl i ys σ H hi p
 by_cases hlt:i<xs.length
 ·refine .inr ⟨⟨xs,xs[i],q,by simp[hlt]⟩,by omega,Pv (i+1),λys' σ' H' p'=>⟨xs.length-(i+1),by omega,rfl,hlt,p'⟩,λx H' y=>?_⟩
  obtain⟨e,y⟩:=y
  subst e
  exact hs i x ys σ _ (y xs q) p
 ·have e:i=xs.length:=by omega
  subst e
  exact .inl ⟨⟨xs,q,aa0 _⟩,by omega,hd ys σ H p⟩
theorem zWd{K:Frag}{a:Addr}{xs:List V}(Pv:Nat->List V->St->Hp->Prop)(h0:Pv 0 [] (jG σ n ix) H)(hl:∀i ys σ H,i<=xs.length->Pv i ys σ H->cF K H a xs/\ys.length<=i)(hz:xs.length<sizeLine)(hs:∀i x ys σ H,xs[i]?=some x->Pv i ys σ H->g x σ H λσ4 H4=>tc σ4 H4 λb H5=>if b=true then te σ4 H5 λy H6=>Pv (i+1) (ys++[y]) σ4 H6 else Pv (i+1) ys σ4 H5)(hd:∀ys σ H,Pv xs.length ys σ H->∀p,H p=none->Q (.ref p) (upd H p (.lst ys))):QZ n ix g tc te σ Q (K8 K a) H:=by
 refine⟨λi m ys σ H=>m=xs.length-i/\i<=xs.length/\Pv i ys σ H,⟨xs.length,by simp,abg _,h0⟩,?_⟩
 rintro i m ys σ H ⟨rfl,hi,p⟩
 obtain⟨q,hy⟩:=hl i ys σ H hi p
 by_cases hlt:i<xs.length
 ·refine .inr ⟨⟨xs,xs[i],q,by simp[hlt]⟩,by omega,Pv (i+1),λys' σ' H' p'=>⟨xs.length-(i+1),by omega,rfl,hlt,p'⟩,λx H' y=>?_⟩
  obtain⟨e,y⟩:=y
  subst e
  exact hs i x ys σ _ (y xs q) p
 ·have e:i=xs.length:=by omega
  subst e
  exact .inl ⟨⟨xs,q,aa0 _⟩,by omega,hd ys σ H p⟩
end
def Ite(K:Frag)(a:Addr):It :=
 ⟨λi H=>∃b x,aZ K H a b/\b[i]?=some x,λi H v c=>∃t x,v=.ref t/\H t=none/\c=upd H t (.tup [.int i,x])/\∀b,aZ K H a b->b[i]?=some x,λi H=>∃b,aZ K H a b/\b.length<=i⟩
theorem zQs{P:Program}{w:World}{K:Frag}{M:List Expr}{k:Nat}{tp:Pos}(a e f:Addr)(G:e≠f) :
  Turn P w K (.Tuple M k tp) (Ite K a) [e,f] e (λi h=>(∃g,IsEnum h e f ((i:Nat):Int) g)/\h.IsListIter f a i) where
 mem:=by simp
 obj:=λi h st b r=>by
  obtain⟨⟨g,t⟩,o,ho,c,d⟩:=st
  have m:b=e\/b=f:=by simpa using r
  rcases m with rfl|rfl
  ·exact⟨_,t,λv z=>by
    have z':Data.fields _=Data.cell v:=z
    cases z'⟩
  ·exact⟨o,ho,λv z=>by rw[d] at z;cases z⟩
 keep:=λi h h' st k=>⟨let⟨g,t⟩:=st.1;⟨g,k e (by simp) _ t⟩,st.2.at λo q=>k f (by simp) o q⟩
 item:=by
  intro X Z Y hK hc i N s σ H E I S st hg
  subst Z Y hK
  obtain⟨xs,x,T,j⟩:=hg
  obtain⟨its,rv,p,hz⟩:=I.list T
  obtain⟨u,hu,ru⟩:=rv.get j
  obtain⟨⟨g,t⟩,y⟩:=st
  obtain⟨f0,f1,f2,f3,f4,f5⟩:=S e (by simp)
  obtain⟨Q,g1,g2,g3,g4,g5⟩:=S f (by simp)
  refine wpAny_pyNext_enum_item t y p.isList (x:=u) (by simpa using hu) G λh₁ heo F ht₁ hz₁ hk₁=>?_
  refine⟨_,rfl,wpAny_letOwnedTupleGo_enum (s:={ s with heap:=h₁,toks:=s.toks+1 }) heo λA he₂ l=>?_⟩
  replace l:SameBut e h₁ A:=l
  have J:e<s.heap.objs.size:=lt_size t
  have D:H s.heap.objs.size=none:=I.hok.fresh (aa0 _)
  have ht₂:A.get? s.heap.objs.size=some { cls:=.type "tuple",data:=.seq #[.int i s.toks,u] }:=(l.2 _ (ad0 J)).trans ht₁
  have O:∀b o,b≠e->b≠f->s.heap.get? b=some o->A.get? b=some o:=λb o h1 h2 q=>(l.2 b h1).trans (hk₁ b o h1 h2 q)
  have lt:∀b o,s.heap.get? b=some o->b≠s.heap.objs.size:=λb o q=>aa4 (lt_size q)
  have B:∀b o,s.heap.get? b=some o->b∉[e,f]->∃R,A.get? b=some R:=λb o q j=>⟨o,O b o (λz=>j (by simp[z])) (λz=>j (by simp[z])) q⟩
  have U:Un (frs X.stack) [e,f] H (upd H s.heap.objs.size (.tup [.int i,x])) s.heap A :=
   ⟨λb o q _ _ j=>O b o (λz=>j (by simp[z])) (λz=>j (by simp[z])) q,λb o q _ _ j=>⟨o.slots,O b o (λz=>j (by simp[z])) (λz=>j (by simp[z])) q⟩,
    λb o q n _=>by rw[zT (lt b o q)];exact n,B,λb ys q=>by rw[zT (zQ q D)];exact q,λb o ys q=>by rw[zT (zQ q D)];exact q,λb ps q=>⟨#[],by rw[zT (zQ q D),q];simp⟩⟩
  have ok:iI X.prog X.w (upd H s.heap.objs.size (.tup [.int i,x])) A:=λb o q=>by
   by_cases r:b=s.heap.objs.size
   ·subst r
    rw[zM] at q
    cases q
    exact⟨by show 2<=sizeLine;decide,[.int i s.toks,u],.cons ⟨_,rfl⟩ (.cons ru .nil),⟨_,ht₂,rfl,_,rfl⟩⟩
   ·rw[zT r] at q
    refine(I.hok b o q).stay (λc v C z=>?_) (λc z=>by rw[zT (zQ z D)];exact z) λc ys z=>by rw[zT (zQ z D)];exact z
    have hcs:∃R,H c=some R:=by
     rcases C with rfl|C
     ·exact⟨o,q⟩
     ·exact⟨_,C⟩
    obtain⟨R,L⟩:=hcs
    exact O c v (zQ L f0) (zQ L Q) z
  have I2:=I.call (h':=A) (g':=s.gens) (t':=s.toks+1) (d':=s.drawn) (ch:=[e,f]) U ok I.bare λb r=>by
   have m:b=e\/b=f:=by simpa using r
   rcases m with rfl|rfl
   ·exact⟨f3,f1,f4,f5⟩
   ·exact⟨g3,g1,g4,g5⟩
  refine⟨.ref s.heap.objs.size,_,I2,rfl,⟨s.heap.objs.size,x,rfl,D,rfl,λys hy=>by rw[I.nY hy T];exact j⟩,⟨⟨_,by rw[show((i+1:Nat):Int)=(i:Int)+1 by push_cast;rfl];exact he₂⟩,F.extBut l.extBut G.symm⟩,λb r=>?_⟩
  have m:b=e\/b=f:=by simpa using r
  obtain⟨o2,ho2,_⟩:=y
  rcases m with rfl|rfl
  ·rw[zT (aa4 J)];exact f0
  ·rw[zT (aa4 (lt_size ho2))];exact Q
 done:=by
  intro X Z Y hK hc i N s σ H E I S st hg
  subst Z Y hK
  obtain⟨xs,T,j⟩:=hg
  obtain⟨its,rv,p,hz⟩:=I.list T
  obtain⟨⟨g,t⟩,y⟩:=st
  obtain⟨Q,g1,g2,g3,g4,g5⟩:=S f (by simp)
  have hl:=rv.length
  exact wpAny_pyNext_enum_end (I.ok.hd hc) t y p.isList (by simp;lia) λh' eb=>⟨rfl,I.turned (t':=s.toks) (λb o r e=>eb b o r e) Q g1 g3 g4 g5⟩
 self:=λ_ _ _ _ _ st h=>let⟨⟨_,t⟩,_⟩:=st;wpAny_pyIter_enum t h
def B_(K:Frag)(d:TA):TI:=λσ H R=>d σ H λc b=>∃a,c=[.ref a]/\(∃e,aZ K b a e)/\R (Ite K a) b
theorem ni:bootBuiltins "enumerate" = some (.type "enumerate"):=by decide +kernel
theorem zRp(hg:Gl X "enumerate")(hm:X.mg "enumerate" = none)(ha:PA X [a] ta)(hs:starEach [a] X.env=[(false,eval a X.env)]:=by rfl) :
  PI X (.Tuple elts k tp) (.Call (.Name "enumerate" p) [a] [] pos) (B_ X.K ta):=by
 intro pins s σ H R I h
 refine Call_ (DN I hg hm ni (abt (aQ (ha pos pins s σ H _ I h) λus s1 ⟨vs,H1,I1,r1,q1⟩=>?_) hs rfl))
 obtain⟨l,e,⟨xs,hq⟩,q⟩:=q1
 subst e
 cases r1 with
 |cons r rr =>
  cases rr
  cases r
  obtain⟨its,rv,p,hz⟩:=I1.list hq
  refine call_enumerate_list p.isList λh' hE hI hsz hk=>wpAny_pyIter_enum hE ?_
  have I2:Inv X pins σ H1 { s1 with heap:=h',toks:=s1.toks }:=I1.kept hk
  refine⟨s1.heap.objs.size+1,[s1.heap.objs.size+1,s1.heap.objs.size],_,_,H1,rfl,I2,zQs l _ _ (Nat.succ_ne_self _),⟨⟨.none,hE⟩,hI⟩,λb hb=>?_,q⟩
  have hb':b=s1.heap.objs.size+1\/b=s1.heap.objs.size:=by simpa using hb
  rcases hb' with rfl|rfl
  ·exact I1.m9 (acf _) (I1.hok.fresh (acf _))
  ·exact I1.m9 (aa0 _) (I1.hok.fresh (aa0 _))
theorem zVy{K:Frag}{a:Addr}{xs:List V}{g:TG}{j:TS}{D:Ends}{σ:St}{H:Hp}(b:Nat->St->Hp->Prop)(h0:b 0 σ H)(n:∀i σ H,i<=xs.length->b i σ H->aZ K H a xs)(hs:∀i x t σ H,xs[i]?=some x->H t=none->b i σ H->g (.ref t) σ (upd H t (.tup [.int i,x])) λd c=>j { D with nx:=b (i+1),ct:=b (i+1),bk:=D.nx } d c)(k:∀σ H,b xs.length σ H->D.nx σ H) :
  ∃W:Nat->Nat->St->Hp->Prop,(∃m,W 0 m σ H)/\∀i m σ H,W i m σ H ->
   ((Ite K a).stop i H/\D.nx σ H)\/((Ite K a).go i H/\∃N:St->Hp->Prop,(∀h H',N h H'->∃m',m'<m/\W (i+1) m' h H')/\∀x H',(Ite K a).K7 i H x H'->g x σ H' λd c=>j { D with nx:=N,ct:=N,bk:=D.nx } d c):=by
 refine⟨λi m σ H=>m=xs.length-i/\i<=xs.length/\b i σ H,⟨xs.length,by simp,abg _,h0⟩,?_⟩
 rintro i m σ H ⟨rfl,l,p⟩
 have q:=n i σ H l p
 by_cases f:i<xs.length
 ·refine .inr ⟨⟨xs,xs[i],q,by grind⟩,b (i+1),λh H' o=>⟨xs.length-(i+1),by lia,rfl,f,o⟩,λx H' y=>?_⟩
  obtain⟨t,x',rfl,ht,rfl,y⟩:=y
  grind
 ·have e:i=xs.length:=by lia
  subst e
  exact .inl ⟨⟨xs,q,aa0 _⟩,k σ H p⟩
def Zt(a:Str)(te:TE):TE:=λσ H Q=>te σ H λx b=>(∃i,x=.int i/\i.natAbs.log2<1920/\Q (.str (a++ad1 (toString i))) b)\/∃z,x=.str z/\z.length<=1000/\Q (.str (a++z)) b
theorem zFj(x y:Str):(x++y).length=x.length+y.length:=by rw[<-strLen_append]
theorem Ca{a:Str}(y:PE X e te)(w:a.length<=1000):PE X (.JoinedStr [.Constant (.str a) j p1,.FormattedValue e (-1) none p2] pos) (Zt a te):=by
 intro d s σ H Q I h
 refine JoinedStr_many (joinParts_cons (Calls.Constant_str ?_))
 have m:(adw++a)=a:=by
  cases a with
  |mk c=>show Str.mk _=_;simp[adw]
 refine⟨by rw[m];exact aa1 w (by decide),?_⟩
 rw[m]
 have v:=I.tok (s.toks+1)
 refine joinParts_cons (FormattedValue_plain (aQ (y d _ σ H _ v h) ?_))
 rintro u n ⟨x,g,k,l,p⟩
 rcases p with⟨i,rfl,f,q⟩|⟨z,rfl,o,q⟩
 ·obtain⟨t,rfl⟩:=l
  refine formatField_int_small f ?_
  have b:(a++ad1 (toString i)).length<=sizeLine:=by
   have:=int_text_len_1921 f
   rw[zFj]
   exact aa1 (show a.length+(ad1 (toString i)).length<=4000 by lia) (by decide)
  refine⟨b,joinParts_nil ?_ b⟩
  exact⟨.str (a++ad1 (toString i)),g,(k.tok (n.toks+1+1)).tok _,⟨_,rfl⟩,q⟩
 ·obtain⟨t,rfl⟩:=l
  have b:(a++z).length<=sizeLine:=by
   rw[zFj]
   exact aa1 (show a.length+z.length<=4000 by lia) (by decide)
  refine formatField_str (λt' r=>?_) (aa1 o (by decide))
  refine⟨b,joinParts_nil ?_ b⟩
  exact⟨.str (a++z),g,(k.tok r).tok _,⟨_,rfl⟩,q⟩
def Gg(K:Frag)(c:Value):List V->Hp->VK->Prop:=λd H Q=>∃x y t b,d=[x,y]/\RelV y c/\kE K H x t/\kitOne K t c=some b/\Q (.bl b) H
theorem zWj(i:∀y u,RelV y c->RelV y u->u=c):xr X (.builtin "isinstance") (Gg X.K c):=by
 intro pins s σ H xs us Q I r h
 obtain⟨x,y,t,b,rfl,a,d,e,q⟩:=h
 obtain⟨u,v,rfl,g,f⟩:=r.two
 obtain rfl:=i y v a f
 exact zSo I g d e λj=>⟨.bl b,H,I.tok j,rfl,q⟩
theorem Ra:∀y u,RelV y (.type n)->RelV y u->u=.type n:=λy u h1 h2=>by
 cases y<;>first
  | (cases h1;done)
  | (obtain⟨_,e⟩:=h1;cases e;done)
  | (cases h1;cases h2;rfl)
theorem uR:∀y u,RelV y (.ref a)->RelV y u->u=.ref a:=λy u h1 h2=>by
 cases y<;>first
  | (cases h1;done)
  | (obtain⟨_,e⟩:=h1;cases e;done)
  | (cases h1;cases h2;rfl)
def Zu(t:TS):TS:=λD σ H=>∃I:St->Hp->Prop,t { D with nx:=I } σ H/\∀b c,I b c->D.nx b c
theorem Ml{X:Cx}{st:Stmt}{t:TS}(h:PS X st t):PS X st (Zu t):=by
 intro a s σ H D I i
 obtain⟨J,d,j⟩:=i
 refine aQ (h a s σ H _ I d) λf s' q=>?_
 cases f with
 |next=>obtain⟨g,b,c,e⟩:=q;exact⟨g,b,c,j _ _ e⟩
 |brk=>exact q
 |cont=>exact q
 |ret u=>exact q
theorem zNh{σ:St}{A B:St->Hp->Prop}(h:A (σ.set i (some x)) H):qd i x σ H (λa d=>zu a d λb c=>if b=true then A a c else B a c):=by
 show if true=true then A (σ.set i (some x)) H else B (σ.set i (some x)) H
 grind
theorem Zv{X:Cx}{K:Frag}(h:X.K=K){es:List Expr}{k:Nat}{t:QJ}{n:Nat}{pos:Pos}(d:X.calm=true)(c:DP X es t)(b:(assignEach es X.env).length=n:=by rfl)(a:(assignEach es X.env).findIdx? (·.1)=none:=by rfl):PG X (.Tuple es k pos) (Fe K n t):=by
 subst h
 exact Fg d c b a
end L2
namespace Ts
open PySem L2
theorem au(h:H p=none)(o:HO):Same H (upd H p o):=λb u q=>by rw[zT (zQ q h)];exact q
theorem _root_.L2.Same.put(s:Same H H')(h:H p=none)(o:HO):Same H (upd H' p o):=λb u q=>by rw[zT (zQ q h)];exact s b u q
def A2{α β:Type}(R:α->β->Prop):List α->List β->Prop
 |[],[]=>True
 |x::b,y::a=>R x y/\A2 R b a
 |_,_=>False
section
variable{α β:Type}{R R':α->β->Prop}
theorem A2.len:∀{xs:List α}{ys:List β},A2 R xs ys->xs.length=ys.length
 |[],[],_=>rfl
 |_::_,_::_,h=>congrArg (· + 1) (A2.len h.2)
 |[],_::_,h=>h.elim
 |_::_,[],h=>h.elim
theorem A2.imp(f:∀x y,R x y->R' x y):∀{xs:List α}{ys:List β},A2 R xs ys->A2 R' xs ys
 |[],[],_=>trivial
 |_::_,_::_,h=>⟨f _ _ h.1,A2.imp f h.2⟩
 |[],_::_,h=>h.elim
 |_::_,[],h=>h.elim
theorem A2.app:∀{xs:List α}{ys:List β}{b:List α}{a:List β},A2 R xs ys->A2 R b a->A2 R (xs++b) (ys++a)
 |[],[],_,_,_,h=>h
 |_::_,_::_,_,_,h,c=>⟨h.1,A2.app h.2 c⟩
 |[],_::_,_,_,h,_=>h.elim
 |_::_,[],_,_,h,_=>h.elim
theorem A2.snoc(h:A2 R xs ys)(r:R x y):A2 R (xs++[x]) (ys++[y]):=h.app ⟨r,trivial⟩
theorem A2.at1:∀{xs:List α}{ys:List β}{i:Nat}{x:α},A2 R xs ys->xs[i]?=some x->∃y,ys[i]?=some y/\R x y
 |[],_,_,_,_,e=>by simp at e
 |_::_,_::_,0,_,h,e=>by simp at e;subst e;exact⟨_,rfl,h.1⟩
 |_::_,_::_,i+1,_,h,e=>by
  obtain⟨y,h1,h2⟩:=A2.at1 (i:=i) h.2 (by simpa using e)
  exact⟨y,by simpa using h1,h2⟩
 |_::_,[],_,_,h,_=>h.elim
theorem A2.at2:∀{xs:List α}{ys:List β}{i:Nat}{y:β},A2 R xs ys->ys[i]?=some y->∃x,xs[i]?=some x/\R x y
 |_,[],_,_,_,e=>by simp at e
 |_::_,_::_,0,_,h,e=>by simp at e;subst e;exact⟨_,rfl,h.1⟩
 |_::_,_::_,i+1,_,h,e=>by
  obtain⟨y,h1,h2⟩:=A2.at2 (i:=i) h.2 (by simpa using e)
  exact⟨y,by simpa using h1,h2⟩
 |[],_::_,_,_,h,_=>h.elim
theorem A2.set(r:R x y):∀{xs:List α}{ys:List β}(i:Nat),A2 R xs ys->A2 R (xs.set i x) (ys.set i y)
 |[],[],_,_=>trivial
 |_::_,_::_,0,h=>⟨r,h.2⟩
 |_::_,_::_,i+1,h=>⟨h.1,A2.set r i h.2⟩
 |[],_::_,_,h=>h.elim
 |_::_,[],_,h=>h.elim
theorem A2.rev:∀{xs:List α}{ys:List β},A2 R xs ys->A2 R xs.reverse ys.reverse
 |[],[],_=>trivial
 |_::_,_::_,h=>by
  rw[List.reverse_cons,List.reverse_cons]
  exact(A2.rev h.2).snoc h.1
 |[],_::_,h=>h.elim
 |_::_,[],h=>h.elim
theorem A2.tk:∀{xs:List α}{ys:List β}(i:Nat),A2 R xs ys->A2 R (xs.take i) (ys.take i)
 |[],[],_,_=>by simp[A2]
 |_::_,_::_,0,h=>trivial
 |_::_,_::_,i+1,h=>⟨h.1,A2.tk i h.2⟩
 |[],_::_,_,h=>h.elim
 |_::_,[],_,h=>h.elim
theorem A2.dr:∀{xs:List α}{ys:List β}(i:Nat),A2 R xs ys->A2 R (xs.drop i) (ys.drop i)
 |[],[],_,_=>by simp[A2]
 |_::_,_::_,0,h=>h
 |_::_,_::_,i+1,h=>A2.dr i h.2
 |[],_::_,_,h=>h.elim
 |_::_,[],_,h=>h.elim
theorem A2.of_map{f:β->α}(h:∀y,R (f y) y):∀ys:List β,A2 R (ys.map f) ys
 |[]=>trivial
 |y::ys=>⟨h y,A2.of_map h ys⟩
end
theorem A2.n6{α β:Type}{f:β->α}:∀{xs:List α}{ys:List β},A2 (λx y=>x=f y) xs ys->xs=ys.map f
 |[],[],_=>rfl
 |_::_,_::_,h=>by rw[map_cons,h.1,A2.n6 h.2]
 |[],_::_,h=>h.elim
 |_::_,[],h=>h.elim
class Rp (K:Frag) (α:Type) where
 rp:Hp->V->α->Prop
 mono:∀{F F':Hp}{v:V}{a:α},Same F F'->rp F v a->rp F' v a
abbrev rp(K:Frag){α:Type}[Rp K α]:Hp->V->α->Prop:=Rp.rp (K:=K)
class Nn (K:Frag) (α:Type) [Rp K α]:Prop where
 nn:∀{F:Hp}{v:V}{a:α},rp K F v a->v≠.non
class Sc (K:Frag) (α:Type) [Rp K α] where
 val:α->V
 is:∀{F:Hp}{v:V}{a:α},rp K F v a↔v=val a
 inj:∀{a b:α},val a=val b->a=b
section
variable{K:Frag}
instance:Rp K Int:=⟨λ_ v n=>v=.int n,λ_ h=>h⟩
instance:Rp K Bool:=⟨λ_ v n=>v=.bl n,λ_ h=>h⟩
instance:Rp K Str:=⟨λ_ v n=>v=.str n,λ_ h=>h⟩
instance:Rp K Unit:=⟨λ_ v _=>v=.non,λ_ h=>h⟩
instance{α:Type}[Rp K α]:Rp K (Option α):=⟨λF v a=>match a with
 |none=>v=.non
 |some x=>v≠.non/\rp K F v x,λ{F F' v a} s h=>match a,h with
 |none,h=>h
 |some x,h=>⟨h.1,Rp.mono s h.2⟩⟩
instance{α:Type}[Rp K α]:Rp K (List α):=⟨λF v xs=>∃p vs,v=.ref p/\F p=some (.lst vs)/\A2 (rp K F) vs xs,λs ⟨p,vs,h1,h2,h3⟩=>⟨p,vs,h1,s _ _ h2,h3.imp λ_ _=>Rp.mono s⟩⟩
instance{α β:Type}[Rp K α][Rp K β]:Rp K (α×β):=⟨λF v x=>∃p a b,v=.ref p/\F p=some (.tup [a,b])/\rp K F a x.1/\rp K F b x.2,λs ⟨p,a,b,h1,h2,h3,h4⟩=>⟨p,a,b,h1,s _ _ h2,Rp.mono s h3,Rp.mono s h4⟩⟩
structure Mp where
 ns:LI
instance:Rp K Mp:=⟨λF v x=>∃p,v=.ref p/\aZ K F p (x.ns.map V.int),λs ⟨p,h1,h2⟩=>⟨p,h1,s.seq h2⟩⟩
instance:Nn K Int:=⟨λh=>by cases h;intro e;cases e⟩
instance{α:Type}[Rp K α]:Nn K (List α):=⟨λ⟨_,_,h,_⟩=>by rw[h];intro e;cases e⟩
instance:Sc K Int:=⟨V.int,afc,λh=>by cases h;rfl⟩
instance:Sc K Bool:=⟨V.bl,afc,λh=>by cases h;rfl⟩
instance:Sc K Str:=⟨V.str,afc,λh=>by cases h;rfl⟩
instance{α:Type}[Rp K α][Sc K α][Nn K α]:Sc K (Option α):=⟨λa=>match a with
 |none=>.non
 |some x=>Sc.val K x,λ{F v a}=>match a with
 |none=>afc
 |some x=>⟨λh=>Sc.is.mp h.2,λh=>⟨Nn.nn (K:=K) (F:=F) (a:=x) (Sc.is.mpr h),Sc.is.mpr h⟩⟩,λ{a b} h=>match a,b,h with
 |none,none,_=>rfl
 |some x,some y,h=>by rw[Sc.inj (K:=K) (a:=x) (b:=y) h]
 |none,some y,h=>absurd h.symm (Nn.nn (K:=K) (F:=λ_=>none) (a:=y) (Sc.is.mpr rfl))
 |some x,none,h=>absurd h (Nn.nn (K:=K) (F:=λ_=>none) (a:=x) (Sc.is.mpr rfl))⟩
theorem WX{α:Type}[Rp K α][Sc K α]{a:α}(h:rp K F v a):rp K F' v a:=Sc.is.mpr (Sc.is.mp h)
inductive Md|nw|fz|hp
def dif(H a:Hp):Hp:=λb=>match a b with
 |none=>H b
 |some _=>none
def ext(c a H:Hp):Hp:=λb=>match a b with
 |none=>H b
 |some _=>c b
structure Bs where
 Fa:Hp
 H0:Hp
abbrev Own:=List (Addr×HO)
class Ob (K:Frag) (α:Type) where
 β:Type
 TX:Rp K β
 ro:Hp->V->α->Own->Prop
 mono:∀{F F':Hp}{v:V}{a:α}{O:Own},Same F F'->ro F v a O->ro F' v a O
 val:α->β
 uc:∀{F:Hp}{v:V}{a:α}{O:Own},ro F v a O->(∀x∈O,F x.1=some x.2)->Rp.rp (K:=K) F v (val a)
def reg(B:Bs)(F H:Hp):Md->Hp
 |.nw=>dif F B.H0
 |.fz=>F
 |.hp=>H
theorem aV:Same (dif H H0) H:=λb o h=>by
 unfold dif at h
 grind
theorem xX(h:a b=none):dif H a b=H b:=by
 unfold dif
 rw[h]
theorem yZ(s:Same H H'):Same (dif H a) (dif H' a):=λb o h=>by
 unfold dif at h ⊢
 cases e:a b with
 |none=>rw[e] at h;exact s b o h
 |some u=>grind
structure Ok(B:Bs)(F:Hp)(O:Own)(H:Hp):Prop where
 fh:Same F H
 h0:Same B.H0 H
 fa:∀b o,F b=some o->B.Fa b=some o\/B.H0 b=none
 fo:∀x∈O,F x.1=none/\B.H0 x.1=none/\H x.1=some x.2
 nd:(O.map (·.1)).Nodup
structure bJ(B:Bs)(F H:Hp)(O:Own)(F' H':Hp):Prop where
 ff:Same F F'
 hh:Same H H'
 ok:Ok B F' O H'
 nw:∀b,F b=none->H b≠none->F' b=none
section
variable{B:Bs}{F H F' H' F2 H2:Hp}{O:Own}
theorem bJ.refl(k:Ok B F O H):bJ B F H O F H:=⟨.refl _,.refl _,k,λ_ h _=>h⟩
theorem bJ.trans(a:bJ B F H O F' H')(b:bJ B F' H' O F2 H2):bJ B F H O F2 H2 :=
 ⟨a.ff.trans b.ff,a.hh.trans b.hh,b.ok,λq d c=>b.nw q (a.nw q d c) λe=>c (a.hh.free e)⟩
theorem bJ.new(k:Ok B F O H)(h:H p=none)(o:HO):bJ B F H O (upd F p o) (upd H p o):=by
 have j:=k.fh.free h
 refine⟨au j o,au h o,⟨λb u e=>?_,k.h0.put (k.h0.free h) o,λb u e=>?_,λx f=>?_,k.nd⟩,λb d i=>?_⟩
 ·by_cases q:b=p
  ·subst q;rw[zM] at e ⊢;exact e
  ·rw[zT q] at e ⊢;exact k.fh b u e
 ·by_cases q:b=p
  ·subst q;exact .inr (k.h0.free h)
  ·rw[zT q] at e;exact k.fa b u e
 ·obtain⟨c,g,a⟩:=k.fo x f
  have q:=zQ a h
  exact⟨by rw[zT q];exact c,g,by rw[zT q];exact a⟩
 ·rw[zT λe=>i (by grind)];exact d
theorem xN(g:bJ B F H O F' H')(md:Md):Same (reg B F H md) (reg B F' H' md):=match md with
 |.nw=>yZ g.ff
 |.fz=>g.ff
 |.hp=>g.hh
end
inductive Slot(K:Frag):Type 1
 |un
 |fz (n:Bool) {α:Type} [Rp K α] (a:α)
 |hs {α:Type} [Rp K α] (a:α)
 |nu {α:Type} [Rp K α] (a:α)
 |ow (n:Bool) {α:Type} [Rp K α] (xs:List α)
 |od {α:Type} [Rp K α] (kvs:List (Key×α))
 |ob (n:Bool) {α:Type} [Ob K α] (a:α)
abbrev SL(K:Frag):=List (Slot K)
abbrev fu:Bool->Md
 |true=>.nw
 |false=>.fz
def lo(F:Hp)(O:Own)(H:Hp):Hp:=λb=>if(F b).isSome||(O.any λx=>x.1==b) then none else H b
inductive ak(B:Bs)(F L H:Hp):SL K->St->Own->Prop
 |nil:ak B F L H [] [] []
 |un {sl:SL K} {σ:St} {O:Own} {x:Option V}:ak B F L H sl σ O->ak B F L H (.un::sl) (x::σ) O
 |fz {n:Bool} {α:Type} [Rp K α] {a:α} {sl:SL K} {σ:St} {O:Own} {v:V}:rp K (reg B F H (fu n)) v a->ak B F L H sl σ O->ak B F L H (.fz n a::sl) (some v::σ) O
 |hs {α:Type} [Rp K α] {a:α} {sl:SL K} {σ:St} {O:Own} {v:V}:rp K H v a->ak B F L H sl σ O->ak B F L H (.hs a::sl) (some v::σ) O
 |nu {α:Type} [Rp K α] {a:α} {sl:SL K} {σ:St} {O:Own} {v:V}:rp K (dif L B.H0) v a->ak B F L H sl σ O->ak B F L H (.nu a::sl) (some v::σ) O
 |ow {n:Bool} {α:Type} [Rp K α] {xs:List α} {sl:SL K} {σ:St} {O:Own} {p:Addr} {vs:List V}:A2 (rp K (reg B F H (fu n))) vs xs->ak B F L H sl σ O->ak B F L H (.ow n xs::sl) (some (.ref p)::σ) ((p,.lst vs)::O)
 |od {α:Type} [Rp K α] {kvs:List (Key×α)} {sl:SL K} {σ:St} {O:Own} {p:Addr} {ks:List (Key×V)}:A2 (λ(x:Key×V) (y:Key×α)=>x.1=y.1/\rp K F x.2 y.2) ks kvs->ak B F L H sl σ O->ak B F L H (.od kvs::sl) (some (.ref p)::σ) ((p,.dK ks)::O)
 |ob {n:Bool} {α:Type} [Ob K α] {a:α} {sl:SL K} {σ:St} {O Oc:Own} {v:V}:Ob.ro K (reg B F H (fu n)) v a Oc->ak B F L H sl σ O->ak B F L H (.ob n a::sl) (some v::σ) (Oc++O)
def At(B:Bs)(a:SL K)(F:Hp)(O:Own)(H:Hp)(σ:St):Prop:=Ok B F O H/\ak B F (lo F O H) H a σ O
abbrev iR:Slot K->Bool
 |@Slot.ow _ _ _ _ _=>true
 |@Slot.od _ _ _ _=>true
 |@Slot.ob _ _ _ _ _=>true
 |_=>false
abbrev dj:Slot K->Bool
 |@Slot.hs _ _ _ _=>true
 |_=>false
section
variable{B:Bs}{F H F' H' L L':Hp}{O O':Own}{sl:SL K}{σ:St}
theorem xF(n:Bool)(a:Same F F'):Same (reg B F H (fu n)) (reg B F' H' (fu n)):=match n with
 |true=>yZ a
 |false=>a
theorem ak.mono(a:Same F F')(c:Same L L')(b:Same H H')(h:ak B F L H sl σ O):ak B F' L' H' sl σ O:=by
 induction h with
 |nil=>exact .nil
 |un _ ih=>exact .un ih
 |fz r _ ih=>exact .fz (Rp.mono (xF _ a) r) ih
 |hs r _ ih=>exact .hs (Rp.mono b r) ih
 |nu r _ ih=>exact .nu (Rp.mono (yZ c) r) ih
 |ow r _ ih=>exact .ow (r.imp λ_ _=>Rp.mono (xF _ a)) ih
 |od r _ ih=>exact .od (r.imp λ_ _ z=>⟨z.1,Rp.mono a z.2⟩) ih
 |ob r _ ih=>exact .ob (Ob.mono (xF _ a) r) ih
theorem ak.mut(a:Same L L')(h:ak B F L H sl σ O)(hn:sl.all (λs=>!dj s)=true):ak B F L' H' sl σ O:=by
 induction h with
 |nil=>exact .nil
 |un _ ih=>exact .un (ih (by grind))
 |fz r _ ih=>exact .fz (Rp.mono (xF _ (.refl _)) r) (ih (by grind))
 |hs r _ ih=>grind
 |nu r _ ih=>exact .nu (Rp.mono (yZ a) r) (ih (by grind))
 |ow r _ ih=>exact .ow (r.imp λ_ _=>Rp.mono (xF _ (.refl _))) (ih (by grind))
 |od r _ ih=>exact .od r (ih (by grind))
 |ob r _ ih=>exact .ob (Ob.mono (xF _ (.refl _)) r) (ih (by grind))
theorem Zw(g:bJ B F H O F' H'):Same (lo F O H) (lo F' O H'):=λb o h=>by
 unfold lo at h ⊢
 cases e:(F b).isSome||(O.any λx=>x.1==b) with
 |true=>grind
 |false =>
  rw[e] at h
  have a:H b=some o:=h
  rw[Bool.or_eq_false_iff] at e
  have c:F' b=none:=g.nw b (by cases q:F b with|none=>rfl|some u=>grind) (by grind)
  rw[c,e.2]
  exact g.hh b o a
theorem At.grow(h:At B sl F O H σ)(g:bJ B F H O F' H'):At B sl F' O H' σ:=⟨g.ok,h.2.mono g.ff (Zw g) g.hh⟩
theorem ak.sH{α:Type}[Rp K α]{a:α}(h:ak B F L H sl σ O):∀{i:Nat},sl[i]?=some (.fz n a)->∃v,σ[i]?=some (some v)/\rp K (reg B F H (fu n)) v a:=by
 induction h with
 |nil=>intro i e;simp at e
 |fz r _ ih =>
  intro i e
  cases i with
  |zero=>simp only[getElem?_cons_zero] at e;cases e;exact⟨_,rfl,r⟩
  |succ i=>exact ih (by simpa using e)
 |_ =>
  rename_i ih
  intro i e
  cases i with
  |zero=>simp only[getElem?_cons_zero] at e;cases e
  |succ i=>exact ih (by simpa using e)
theorem ak.Jw{α:Type}[Rp K α]{a:α}(h:ak B F L H sl σ O):∀{i:Nat},sl[i]?=some (.hs a)->∃v,σ[i]?=some (some v)/\rp K H v a:=by
 induction h with
 |nil=>intro i e;simp at e
 |hs r _ ih =>
  intro i e
  cases i with
  |zero=>simp only[getElem?_cons_zero] at e;cases e;exact⟨_,rfl,r⟩
  |succ i=>exact ih (by simpa using e)
 |_ =>
  rename_i ih
  intro i e
  cases i with
  |zero=>simp only[getElem?_cons_zero] at e;cases e
  |succ i=>exact ih (by simpa using e)
theorem ak.Cd{α:Type}[Rp K α]{a:α}(h:ak B F L H sl σ O):∀{i:Nat},sl[i]?=some (.nu a)->∃v,σ[i]?=some (some v)/\rp K (dif L B.H0) v a:=by
 induction h with
 |nil=>intro i e;simp at e
 |nu r _ ih =>
  intro i e
  cases i with
  |zero=>simp only[getElem?_cons_zero] at e;cases e;exact⟨_,rfl,r⟩
  |succ i=>exact ih (by simpa using e)
 |_ =>
  rename_i ih
  intro i e
  cases i with
  |zero=>simp only[getElem?_cons_zero] at e;cases e
  |succ i=>exact ih (by simpa using e)
theorem ak.put(h:ak B F L H sl σ O)(a:∀(sl:SL K) (σ:St) (O:Own),ak B F L H sl σ O->ak B F L H (s'::sl) (x::σ) O):∀{i:Nat},sl[i]?=some s->iR s=false->ak B F L H (sl.set i s') (σ.set i x) O:=by
 induction h with
 |nil=>intro i e;simp at e
 |un g ih =>
  intro i e o
  cases i with
  |zero=>exact a _ _ _ g
  |succ i=>exact .un (ih (by simpa using e) o)
 |fz r g ih =>
  intro i e o
  cases i with
  |zero=>exact a _ _ _ g
  |succ i=>exact .fz r (ih (by simpa using e) o)
 |hs r g ih =>
  intro i e o
  cases i with
  |zero=>exact a _ _ _ g
  |succ i=>exact .hs r (ih (by simpa using e) o)
 |nu r g ih =>
  intro i e o
  cases i with
  |zero=>exact a _ _ _ g
  |succ i=>exact .nu r (ih (by simpa using e) o)
 |ow r g ih =>
  intro i e o
  cases i with
  |zero=>grind
  |succ i=>exact .ow r (ih (by simpa using e) o)
 |od r g ih =>
  intro i e o
  cases i with
  |zero=>simp only[getElem?_cons_zero] at e;cases e;cases o
  |succ i=>exact .od r (ih (by simpa using e) o)
 |ob r g ih =>
  intro i e o
  cases i with
  |zero=>simp only[getElem?_cons_zero] at e;cases e;cases o
  |succ i=>exact .ob r (ih (by simpa using e) o)
theorem ak.own(h:ak B F L H sl σ O)(b:∀(sl:SL K) (σ:St) (O:Own),ak B F L H sl σ O->ak B F L H (s'::sl) (x::σ) (c::O)) :
  ∀{i:Nat},sl[i]?=some s->iR s=false->∃O1 O2,O=O1++O2/\ak B F L H (sl.set i s') (σ.set i x) (O1++c::O2):=by
 induction h with
 |nil=>intro i e;simp at e
 |un g ih =>
  intro i e o
  cases i with
  |zero=>exact⟨[],_,rfl,b _ _ _ g⟩
  |succ i=>obtain⟨O1,O2,q,z⟩:=ih (by simpa using e) o;exact⟨O1,O2,q,.un z⟩
 |fz r g ih =>
  intro i e o
  cases i with
  |zero=>exact⟨[],_,rfl,b _ _ _ g⟩
  |succ i=>obtain⟨O1,O2,q,z⟩:=ih (by simpa using e) o;exact⟨O1,O2,q,.fz r z⟩
 |hs r g ih =>
  intro i e o
  cases i with
  |zero=>exact⟨[],_,rfl,b _ _ _ g⟩
  |succ i=>obtain⟨O1,O2,q,z⟩:=ih (by simpa using e) o;exact⟨O1,O2,q,.hs r z⟩
 |nu r g ih =>
  intro i e o
  cases i with
  |zero=>exact⟨[],_,rfl,b _ _ _ g⟩
  |succ i=>obtain⟨O1,O2,q,z⟩:=ih (by simpa using e) o;exact⟨O1,O2,q,.nu r z⟩
 |ow r g ih =>
  intro i e o
  cases i with
  |zero=>simp only[getElem?_cons_zero] at e;cases e;cases o
  |succ i=>obtain⟨O1,O2,q,z⟩:=ih (by simpa using e) o;exact⟨_::O1,O2,by rw[q]<;>rfl,.ow r z⟩
 |od r g ih =>
  intro i e o
  cases i with
  |zero=>simp only[getElem?_cons_zero] at e;cases e;cases o
  |succ i=>obtain⟨O1,O2,q,z⟩:=ih (by simpa using e) o;exact⟨_::O1,O2,by rw[q]<;>rfl,.od r z⟩
 |@ob _ _ _ _ _ _ _ d _ r g ih =>
  intro i e o
  cases i with
  |zero=>simp only[getElem?_cons_zero] at e;cases e;cases o
  |succ i =>
   obtain⟨O1,O2,q,z⟩:=ih (by simpa using e) o
   refine⟨d++O1,O2,by rw[q,append_assoc],?_⟩
   rw[append_assoc]
   exact .ob r z
abbrev OwR{α:Type}[Rp K α](B:Bs)(F L H:Hp)(n:Bool)(xs:List α)(sl:SL K)(σ:St)(O:Own)(i:Nat):Prop:=∃O1 O2 p vs,O=O1++(p,.lst vs)::O2/\σ[i]?=some (some (.ref p))/\A2 (rp K (reg B F H (fu n))) vs xs/\(∀(s':Slot K)(x:Option V)(c:Addr×HO),(∀(sl:SL K)(σ:St)(O:Own),ak B F L H sl σ O->ak B F L H (s'::sl) (x::σ) (c::O))->ak B F L H (sl.set i s') (σ.set i x) (O1++c::O2))/\(∀(s':Slot K)(x:Option V),(∀(sl:SL K)(σ:St)(O:Own),ak B F L H sl σ O->ak B F L H (s'::sl) (x::σ) O)->ak B F L H (sl.set i s') (σ.set i x) (O1++O2))
theorem ak.qC{α:Type}[Rp K α]{xs:List α}(h:ak B F L H sl σ O):∀{i:Nat},sl[i]?=some (.ow n xs)->OwR B F L H n xs sl σ O i:=by
 induction h with
 |nil=>intro i e;simp at e
 |un g ih =>
  intro i e
  cases i with
  |zero=>simp only[getElem?_cons_zero] at e;cases e
  |succ i=>obtain⟨O1,O2,p,vs,q,f,b,j,d⟩:=ih (by simpa using e);exact⟨O1,O2,p,vs,q,f,b,λs' x c z=>.un (j s' x c z),λs' x z=>.un (d s' x z)⟩
 |fz r g ih =>
  intro i e
  cases i with
  |zero=>simp only[getElem?_cons_zero] at e;cases e
  |succ i=>obtain⟨O1,O2,p,vs,q,f,b,j,d⟩:=ih (by simpa using e);exact⟨O1,O2,p,vs,q,f,b,λs' x c z=>.fz r (j s' x c z),λs' x z=>.fz r (d s' x z)⟩
 |hs r g ih =>
  intro i e
  cases i with
  |zero=>simp only[getElem?_cons_zero] at e;cases e
  |succ i=>obtain⟨O1,O2,p,vs,q,f,b,j,d⟩:=ih (by simpa using e);exact⟨O1,O2,p,vs,q,f,b,λs' x c z=>.hs r (j s' x c z),λs' x z=>.hs r (d s' x z)⟩
 |nu r g ih =>
  intro i e
  cases i with
  |zero=>simp only[getElem?_cons_zero] at e;cases e
  |succ i=>obtain⟨O1,O2,p,vs,q,f,b,j,d⟩:=ih (by simpa using e);exact⟨O1,O2,p,vs,q,f,b,λs' x c z=>.nu r (j s' x c z),λs' x z=>.nu r (d s' x z)⟩
 |ow r g ih =>
  intro i e
  cases i with
  |zero=>simp only[getElem?_cons_zero] at e;cases e;exact⟨[],_,_,_,rfl,rfl,r,λs' x c z=>z _ _ _ g,λs' x z=>z _ _ _ g⟩
  |succ i=>obtain⟨O1,O2,p,vs,q,f,b,j,d⟩:=ih (by simpa using e);exact⟨_::O1,O2,p,vs,by rw[q]<;>rfl,f,b,λs' x c z=>.ow r (j s' x c z),λs' x z=>.ow r (d s' x z)⟩
 |od r g ih =>
  intro i e
  cases i with
  |zero=>simp only[getElem?_cons_zero] at e;cases e
  |succ i=>obtain⟨O1,O2,p,vs,q,f,b,j,d⟩:=ih (by simpa using e);exact⟨_::O1,O2,p,vs,by rw[q]<;>rfl,f,b,λs' x c z=>.od r (j s' x c z),λs' x z=>.od r (d s' x z)⟩
 |@ob _ _ _ _ _ _ _ k _ r g ih =>
  intro i e
  cases i with
  |zero=>simp only[getElem?_cons_zero] at e;cases e
  |succ i =>
   obtain⟨O1,O2,p,vs,q,f,b,j,d⟩:=ih (by simpa using e)
   refine⟨k++O1,O2,p,vs,by rw[q,append_assoc],f,b,λs' x c z=>?_,λs' x z=>?_⟩
   ·rw[append_assoc];exact .ob r (j s' x c z)
   ·rw[append_assoc];exact .ob r (d s' x z)
abbrev OdR{α:Type}[Rp K α](B:Bs)(F L H:Hp)(kvs:List (Key×α))(sl:SL K)(σ:St)(O:Own)(i:Nat):Prop:=∃O1 O2 p ks,O=O1++(p,.dK ks)::O2/\σ[i]?=some (some (.ref p))/\A2 (λ(x:Key×V) (y:Key×α)=>x.1=y.1/\rp K F x.2 y.2) ks kvs/\(∀(s':Slot K)(x:Option V)(c:Addr×HO),(∀(sl:SL K)(σ:St)(O:Own),ak B F L H sl σ O->ak B F L H (s'::sl) (x::σ) (c::O))->ak B F L H (sl.set i s') (σ.set i x) (O1++c::O2))/\(∀(s':Slot K)(x:Option V),(∀(sl:SL K)(σ:St)(O:Own),ak B F L H sl σ O->ak B F L H (s'::sl) (x::σ) O)->ak B F L H (sl.set i s') (σ.set i x) (O1++O2))
theorem ak.Jx{α:Type}[Rp K α]{kvs:List (Key×α)}(h:ak B F L H sl σ O):∀{i:Nat},sl[i]?=some (.od kvs)->OdR B F L H kvs sl σ O i:=by
 induction h with
 |nil=>intro i e;simp at e
 |un g ih =>
  intro i e
  cases i with
  |zero=>simp only[getElem?_cons_zero] at e;cases e
  |succ i=>obtain⟨O1,O2,p,f,q,d,a,j,b⟩:=ih (by simpa using e);exact⟨O1,O2,p,f,q,d,a,λs' x c z=>.un (j s' x c z),λs' x z=>.un (b s' x z)⟩
 |fz r g ih =>
  intro i e
  cases i with
  |zero=>simp only[getElem?_cons_zero] at e;cases e
  |succ i=>obtain⟨O1,O2,p,f,q,d,a,j,b⟩:=ih (by simpa using e);exact⟨O1,O2,p,f,q,d,a,λs' x c z=>.fz r (j s' x c z),λs' x z=>.fz r (b s' x z)⟩
 |hs r g ih =>
  intro i e
  cases i with
  |zero=>simp only[getElem?_cons_zero] at e;cases e
  |succ i=>obtain⟨O1,O2,p,f,q,d,a,j,b⟩:=ih (by simpa using e);exact⟨O1,O2,p,f,q,d,a,λs' x c z=>.hs r (j s' x c z),λs' x z=>.hs r (b s' x z)⟩
 |nu r g ih =>
  intro i e
  cases i with
  |zero=>simp only[getElem?_cons_zero] at e;cases e
  |succ i=>obtain⟨O1,O2,p,f,q,d,a,j,b⟩:=ih (by simpa using e);exact⟨O1,O2,p,f,q,d,a,λs' x c z=>.nu r (j s' x c z),λs' x z=>.nu r (b s' x z)⟩
 |od r g ih =>
  intro i e
  cases i with
  |zero=>simp only[getElem?_cons_zero] at e;cases e;exact⟨[],_,_,_,rfl,rfl,r,λs' x c z=>z _ _ _ g,λs' x z=>z _ _ _ g⟩
  |succ i=>obtain⟨O1,O2,p,f,q,d,a,j,b⟩:=ih (by simpa using e);exact⟨_::O1,O2,p,f,by rw[q]<;>rfl,d,a,λs' x c z=>.od r (j s' x c z),λs' x z=>.od r (b s' x z)⟩
 |ow r g ih =>
  intro i e
  cases i with
  |zero=>simp only[getElem?_cons_zero] at e;cases e
  |succ i=>obtain⟨O1,O2,p,f,q,d,a,j,b⟩:=ih (by simpa using e);exact⟨_::O1,O2,p,f,by rw[q]<;>rfl,d,a,λs' x c z=>.ow r (j s' x c z),λs' x z=>.ow r (b s' x z)⟩
 |@ob _ _ _ _ _ _ _ k _ r g ih =>
  intro i e
  cases i with
  |zero=>simp only[getElem?_cons_zero] at e;cases e
  |succ i =>
   obtain⟨O1,O2,p,f,q,d,a,j,b⟩:=ih (by simpa using e)
   refine⟨k++O1,O2,p,f,by rw[q,append_assoc],d,a,λs' x c z=>?_,λs' x z=>?_⟩
   ·rw[append_assoc];exact .ob r (j s' x c z)
   ·rw[append_assoc];exact .ob r (b s' x z)
end
end
section
variable{K:Frag}{B:Bs}{F H F' H' L L':Hp}{O O' O1 O2:Own}{sl:SL K}{σ:St}{p:Addr}{o o':HO}
theorem Mq{α:Type}{a b:List α}{x:α}:(a++x::b).Nodup↔(a++b).Nodup/\x∉a++b:=by
 grind
theorem Ok.add(k:Ok B F (O1++O2) H)(h:H p=none):Ok B F (O1++(p,o)::O2) (upd H p o):=by
 refine⟨λb u e=>?_,k.h0.put (k.h0.free h) o,k.fa,λx hx=>?_,?_⟩
 ·rw[zT (zQ (k.fh b u e) h)];exact k.fh b u e
 ·have hx':x=(p,o)\/x∈O1++O2:=by
   grind
  rcases hx' with rfl|hx'
  ·exact⟨k.fh.free h,k.h0.free h,zM⟩
  ·obtain⟨a1,a2,a3⟩:=k.fo x hx'
   exact⟨a1,a2,by rw[zT (zQ a3 h)];exact a3⟩
 ·rw[map_append,map_cons,Mq,<-map_append]
  refine⟨k.nd,λz=>?_⟩
  obtain⟨x,hx,e⟩:=mem_map.mp z
  obtain⟨_,_,a3⟩:=k.fo x hx
  grind
theorem Ok.one(k:Ok B F (O1++(p,o)::O2) H):F p=none/\B.H0 p=none/\H p=some o:=k.fo (p,o) (mem_append.mpr (.inr mem_cons_self))
theorem Ok.ndp(k:Ok B F (O1++(p,o)::O2) H):∀x∈O1++O2,x.1≠p:=λx hx e=>by
 have q:=k.nd
 grind
theorem Ok.drop(k:Ok B F (O1++(p,o)::O2) H):Ok B F (O1++O2) H:=by
 refine⟨k.fh,k.h0,k.fa,λx hx=>k.fo x ?_,?_⟩
 ·grind
 ·have q:=k.nd
  grind
theorem Ok.chg(k:Ok B F (O1++(p,o)::O2) H)(o':HO):Ok B F (O1++(p,o')::O2) (upd H p o'):=by
 obtain⟨a1,a2,a3⟩:=k.one
 refine⟨k.fh.put a1 o',k.h0.put a2 o',k.fa,λx hx=>?_,?_⟩
 ·have hx':x=(p,o')\/x∈O1++O2:=by
   grind
  rcases hx' with rfl|hx'
  ·exact⟨a1,a2,zM⟩
  ·obtain⟨b1,b2,b3⟩:=k.drop.fo x hx'
   exact⟨b1,b2,by rw[zT (k.ndp x hx')];exact b3⟩
 ·have q:=k.nd
  grind
theorem Ok.freeze(k:Ok B F (O1++(p,o)::O2) H):Ok B (upd F p o) (O1++O2) H:=by
 obtain⟨a1,a2,a3⟩:=k.one
 refine⟨λb u e=>?_,k.h0,λb u e=>?_,λx hx=>?_,k.drop.nd⟩
 ·by_cases q:b=p
  ·subst q;rw[zM] at e;grind
  ·rw[zT q] at e;exact k.fh b u e
 ·by_cases q:b=p
  ·grind
  ·rw[zT q] at e;exact k.fa b u e
 ·obtain⟨b1,b2,b3⟩:=k.drop.fo x hx
  exact⟨by rw[zT (k.ndp x hx)];exact b1,b2,b3⟩
theorem zXi(h:H p=none):Same (lo F (O1++O2) H) (lo F (O1++(p,o)::O2) (upd H p o)):=λb u e=>by
 unfold lo at e ⊢
 by_cases q:b=p
 ·grind
 ·rw[zT q]
  grind
theorem zXh:Same (lo F (O1++(p,o)::O2) H) (lo F (O1++(p,o')::O2) (upd H p o')):=λb u e=>by
 unfold lo at e ⊢
 by_cases q:b=p
 ·grind
 ·rw[zT q]
  grind
theorem nJ:Same (lo F (O1++(p,o)::O2) H) (lo F (O1++O2) H):=λb u e=>by
 unfold lo at e ⊢
 grind
theorem lW:Same (lo F (O1++(p,o)::O2) H) (lo (upd F p o) (O1++O2) H):=λb u e=>by
 unfold lo at e ⊢
 split at e
 ·cases e
 ·rename_i h
  rw[List.any_append,any_cons] at h
  simp at h
  have q:b≠p:=λz=>h.2.2.1 z.symm
  rw[zT q,if_neg]
  ·exact e
  ·rw[List.any_append]
   simp
   exact⟨h.1,h.2.1,h.2.2.2⟩
theorem Ok.called(k:Ok B F O H)(s:Same H H'):bJ B F H O (ext F H H') H':=by
 have e1:∀b o,ext F H H' b=some o->F b=some o\/H b=none:=λb o h=>by
  unfold ext at h
  grind
 refine⟨λb o h=>?_,s,⟨λb o h=>?_,k.h0.trans s,λb o h=>?_,λx hx=>?_,k.nd⟩,λb h1 h2=>?_⟩
 ·unfold ext
  rw[k.fh b o h]
  exact h
 ·unfold ext at h
  cases q:H b with
  |none=>grind
  |some u=>rw[q] at h;rw[<-k.fh b o h];exact(s b u q).trans q.symm
 ·rcases e1 b o h with z|z
  ·exact k.fa b o z
  ·exact .inr (k.h0.free z)
 ·obtain⟨a1,a2,a3⟩:=k.fo x hx
  refine⟨?_,a2,s _ _ a3⟩
  unfold ext
  grind
 ·unfold ext
  grind
theorem Jy(h0:Same B.H0 H)(s:Same H H'):Same (dif H' H) (dif (ext F H H') B.H0):=λb o h=>by
 unfold dif at h
 cases q:H b with
 |none =>
  rw[xX (h0.free q)]
  unfold ext
  grind
 |some u=>grind
theorem zV2(s:Same H H'):Same (ext H H H') H':=λb o h=>by
 unfold ext at h
 cases q:H b with
 |none=>grind
 |some u=>rw[q] at h;cases(h);exact s b _ q
theorem Mr(h0:Same B.H0 H):Same (ext (dif F B.H0) H H') (dif (ext F H H') B.H0):=λb o h=>by
 unfold ext at h
 cases q:H b with
 |none =>
  rw[xX (h0.free q)]
  unfold ext
  grind
 |some u =>
  have z:B.H0 b=none:=by
   cases z:B.H0 b with
   |none=>rfl
   |some w =>
    unfold dif at h
    grind
  rw[xX z] at h ⊢
  unfold ext
  grind
variable{md md1 md2:Md}{α β γ:Type}[Rp K α][Rp K β][Rp K γ]{t t1 t2:TE}{m:Option α}{m1:Option β}{m2:Option γ}
noncomputable def Ex(B:Bs)(sl:SL K)(md:Md)(t:TE){α:Type}[Rp K α](m:Option α):Prop :=
 ∀a,m=some a->∀(F:Hp)(O:Own)(H:Hp)(σ:St)(Q:VK),At B sl F O H σ->(∀(v:V)(F' H':Hp),bJ B F H O F' H'->rp K (reg B F' H' md) v a->Q v H')->t σ H Q
noncomputable def Et(B:Bs)(sl:SL K)(t:TT)(m:Option Bool):Prop :=
 ∀a,m=some a->∀(F:Hp)(O:Own)(H:Hp)(σ:St)(Q:Bool->Hp->Prop),At B sl F O H σ->(∀(F' H':Hp),bJ B F H O F' H'->Q a H')->t σ H Q
inductive Ar(R:Hp):SL K->List V->Prop
 |nil:Ar R [] []
 |cons {n:Bool} {α:Type} [Rp K α] {a:α} {v:V} {sl:SL K} {vs:List V}:rp K R v a->Ar R sl vs->Ar R (.fz n a::sl) (v::vs)
noncomputable def Ea(B:Bs)(sl:SL K)(md:Md)(t:TA){A:Type}(as:A->SL K)(m:Option A):Prop :=
 ∀a,m=some a->∀(F:Hp)(O:Own)(H:Hp)(σ:St)(Q:List V->Hp->Prop),At B sl F O H σ->(∀(vs:List V)(F' H':Hp),bJ B F H O F' H'->Ar (reg B F' H' md) (as a) vs->Q vs H')->t σ H Q
theorem Ex.sc[Sc K α](h:Ex B sl md t m):Ex B sl md1 t m:=λa ha F O H σ Q s k=>h a ha F O H σ Q s λv F' H' g r=>k v F' H' g (WX r)
theorem Zx[Nn K α](h:Ex B sl md t m):Ex B sl md t (m.bind λa=>some (some a)):=λa ha F O H σ Q s k=>by
 cases m with
 |none=>cases ha
 |some a' =>
  cases(ha)
  exact h a' rfl F O H σ Q s λv F' H' g r=>k v F' H' g ⟨Nn.nn r,r⟩
theorem yM{n:Bool}{a:α}(i:Nat)(hs:sl[i]?=some (.fz n a)):Ex B sl (fu n) (cP i) (some a):=λa' ha F O H σ Q s k=>by
 cases ha
 obtain⟨v,h1,h2⟩:=s.2.sH hs
 exact⟨v,h1,k v F H (.refl s.1) h2⟩
theorem zH[Sc K α]{n:Bool}{a:α}(i:Nat)(hs:sl[i]?=some (.fz n a)):Ex B sl md (cP i) (some a):=(yM i hs).sc
theorem lo_le:Same (lo F O H) H:=λb o h=>by
 unfold lo at h
 grind
theorem Eb(k:Ok B F O H)(n:Bool):Same (reg B F H (fu n)) H:=match n with
 |true=>aV.trans k.fh
 |false=>k.fh
theorem WY{a:α}(i:Nat)(hs:sl[i]?=some (.hs a)):Ex B sl .hp (cP i) (some a):=λa' ha F O H σ Q s k=>by
 cases ha
 obtain⟨v,h1,h2⟩:=s.2.Jw hs
 exact⟨v,h1,k v F H (.refl s.1) h2⟩
theorem zD{n:Bool}{a:α}(i:Nat)(hs:sl[i]?=some (.fz n a)):Ex B sl .hp (cP i) (some a):=λa' ha F O H σ Q s k=>by
 cases ha
 obtain⟨v,h1,h2⟩:=s.2.sH hs
 exact⟨v,h1,k v F H (.refl s.1) (Rp.mono (Eb s.1 n) h2)⟩
theorem Ce{n:Bool}{xs:List α}(i:Nat)(hs:sl[i]?=some (.ow n xs)):Ex B sl .hp (cP i) (some xs):=λa' ha F O H σ Q s k=>by
 cases ha
 obtain⟨O1,O2,p,vs,rfl,h1,h2,_⟩:=s.2.qC hs
 exact⟨_,h1,k _ F H (.refl s.1) ⟨p,vs,rfl,s.1.one.2.2,h2.imp λ_ _=>Rp.mono (Eb s.1 n)⟩⟩
theorem Ms[Sc K α](a:α):Ex B sl md (tC (Sc.val K a)) (some a):=λa' ha F O H σ Q s k=>by cases ha;exact k _ F H (.refl s.1) (Sc.is.mpr rfl)
theorem zP(i:Int):Ex B sl md (tC (.int i)) (some i):=Ms i
theorem Bj(i:Bool):Ex B sl md (tC (.bl i)) (some i):=Ms i
theorem wY(i:Str):Ex B sl md (tC (.str i)) (some i):=Ms i
theorem zSx:Ex B sl md (tC .non) (some (none:Option α)):=λa' ha F O H σ Q s k=>by cases ha;exact k _ F H (.refl s.1) rfl
theorem sI{f:β->γ->Option α}(h:(m1.bind λa=>m2.bind λb=>f a b)=some c):∃a b,m1=some a/\m2=some b/\f a b=some c:=by
 cases m1 with
 |none=>cases h
 |some a =>
  cases m2 with
  |none=>cases h
  |some b=>grind
theorem Ec{f:β->γ->Option α}[Sc K α](hr:∀(a:β) (b:γ) (c:α) (v w:V) (H:Hp) (Q:VK),f a b=some c->rp K H v a->rp K H w b->Q (Sc.val K c) H->r v w H Q)(h1:Ex B sl .hp t1 m1)(h2:Ex B sl .hp t2 m2):Ex B sl md (iQ r t1 t2) (m1.bind λa=>m2.bind λb=>f a b):=λc hc F O H σ Q s k=>by
 obtain⟨a,b,ha,hb,hf⟩:=sI hc
 refine h1 a ha F O H σ _ s λv F' H' g r1=>?_
 refine h2 b hb F' O H' σ _ (s.grow g) λw F2 H2 g2 r2=>?_
 exact hr a b c v w H2 Q hf (Rp.mono g2.hh r1) r2 (k _ F2 H2 (g.trans g2) (Sc.is.mpr rfl))
theorem yF(h:Ex B sl md t m'):Et B sl (Wu t) m':=λc hc F O H σ Q s k=>h c hc F O H σ _ s λv F' H' g r=>⟨c,r,k F' H' g⟩
theorem cg(h:Ex B sl md t m'):Et B sl (tB t) m':=λc hc F O H σ Q s k=>h c hc F O H σ _ s λv F' H' g r=>⟨c,r,k F' H' g⟩
theorem Mt{t:TT}{n:Option Bool}(h:Et B sl t n):Et B sl (SN t) (n.bind λc=>some !c):=λc hc F O H σ Q s k=>by
 cases n with
 |none=>cases hc
 |some c' =>
  cases(hc)
  exact h c' rfl F O H σ _ s λF' H' g=>k F' H' g
theorem Mu(h:Ex B sl .hp t n):Ex B sl md (Jk t) (n.bind λc=>some !c):=λc hc F O H σ Q s k=>by
 cases n with
 |none=>cases hc
 |some c' =>
  cases(hc)
  refine h c' rfl F O H σ _ s λv F' H' g r=>?_
  cases r
  exact⟨c',rfl,k _ F' H' g rfl⟩
theorem TY{t u:TT}{n n':Option Bool}(h:Et B sl t n)(h':Et B sl u n'):Et B sl (SM t u) (n.bind λc=>if c=true then n' else some false):=λc hc F O H σ Q s k=>by
 cases n with
 |none=>cases hc
 |some c' =>
  refine h c' rfl F O H σ _ s λF' H' g=>?_
  cases c' with
  |true=>exact jW (h' c (by simpa using hc) F' O H' σ _ (s.grow g) λF2 H2 g2=>k F2 H2 (g.trans g2))
  |false=>cases(show some false=some c from by simpa using hc);exact m_ (k F' H' g)
theorem Ef{t u:TT}{n n':Option Bool}(h:Et B sl t n)(h':Et B sl u n'):Et B sl (Yy t u) (n.bind λc=>if c=true then some true else n'):=λc hc F O H σ Q s k=>by
 cases n with
 |none=>cases hc
 |some c' =>
  refine h c' rfl F O H σ _ s λF' H' g=>?_
  cases c' with
  |true=>cases(show some true=some c from by simpa using hc);exact jW (k F' H' g)
  |false=>exact m_ (h' c (by simpa using hc) F' O H' σ _ (s.grow g) λF2 H2 g2=>k F2 H2 (g.trans g2))
theorem Rb(h:Ex B sl .hp t1 n)(h':Ex B sl .hp t2 n'):Ex B sl md (Jj t1 t2) (n.bind λc=>if c=true then n' else some false):=λc hc F O H σ Q s k=>by
 cases n with
 |none=>cases hc
 |some c' =>
  refine h c' rfl F O H σ _ s λv F' H' g r=>?_
  cases r
  refine⟨c',rfl,?_⟩
  cases c' with
  |true=>exact jW (h' c (by simpa using hc) F' O H' σ _ (s.grow g) λv F2 H2 g2 r2=>k v F2 H2 (g.trans g2) (WX r2))
  |false=>cases(show some false=some c from by simpa using hc);exact m_ (k _ F' H' g rfl)
theorem T3(h:Ex B sl .hp t1 n)(h':Ex B sl .hp t2 n'):Ex B sl md (SQ t1 t2) (n.bind λc=>if c=true then some true else n'):=λc hc F O H σ Q s k=>by
 cases n with
 |none=>cases hc
 |some c' =>
  refine h c' rfl F O H σ _ s λv F' H' g r=>?_
  cases r
  refine⟨c',rfl,?_⟩
  cases c' with
  |true=>cases(show some true=some c from by simpa using hc);exact jW (k _ F' H' g rfl)
  |false=>exact m_ (h' c (by simpa using hc) F' O H' σ _ (s.grow g) λv F2 H2 g2 r2=>k v F2 H2 (g.trans g2) (WX r2))
theorem zXo{t:TT}{n:Option Bool}{m m':Option α}(h:Et B sl t n)(h1:Ex B sl md t1 m)(h2:Ex B sl md t2 m'):Ex B sl md (tIf t t1 t2) (n.bind λc=>if c=true then m else m'):=λc hc F O H σ Q s k=>by
 cases n with
 |none=>cases hc
 |some c' =>
  refine h c' rfl F O H σ _ s λF' H' g=>?_
  cases c' with
  |true=>exact jW (h1 c (by simpa using hc) F' O H' σ _ (s.grow g) λv F2 H2 g2 r2=>k v F2 H2 (g.trans g2) r2)
  |false=>exact m_ (h2 c (by simpa using hc) F' O H' σ _ (s.grow g) λv F2 H2 g2 r2=>k v F2 H2 (g.trans g2) r2)
theorem zL:Ea B sl md bI (λ_:Unit=>[]) (some ()):=λa ha F O H σ Q s k=>k [] F H (.refl s.1) .nil
theorem zE{A:Type}{as:A->SL K}{ma:Option A}(h1:Ex B sl md t m)(h2:Ea B sl md tr as ma):Ea B sl md (yW t tr) (λx:α×A=>.fz false x.1::as x.2) (m.bind λa=>ma.bind λb=>some (a,b)):=λc hc F O H σ Q s k=>by
 cases m with
 |none=>cases hc
 |some a =>
  cases ma with
  |none=>cases hc
  |some b =>
   cases(show some (a,b)=some c from hc)
   refine h1 a rfl F O H σ _ s λv F' H' g r1=>?_
   refine h2 b rfl F' O H' σ _ (s.grow g) λvs F2 H2 g2 r2=>?_
   exact k (v::vs) F2 H2 (g.trans g2) (.cons (Rp.mono (xN g2 md) r1) r2)
theorem Rf(k:Ok B F O H)(h:H p=none)(md:Md):reg B (upd F p o) (upd H p o) md p=some o:=match md with
 |.nw=>by show dif (upd F p o) B.H0 p=_;rw[xX (k.h0.free h)];exact zM
 |.fz=>zM
 |.hp=>zM
def cap:Nat:=100000
theorem Cg(h:n<cap):n<sizeLine:=aei h (by decide)
theorem zXv(h:n<=cap):n<=sizeLine:=aa1 h (by decide)
noncomputable def El(B:Bs)(sl:SL K)(md:Md)(t:TA){α:Type}[Rp K α](m:Option (List α)):Prop :=
 ∀a,m=some a->∀(F:Hp)(O:Own)(H:Hp)(σ:St)(Q:List V->Hp->Prop),At B sl F O H σ->(∀(vs:List V)(F' H':Hp),bJ B F H O F' H'->A2 (rp K (reg B F' H' md)) vs a->Q vs H')->t σ H Q
theorem Gh:El B sl md bI (some ([]:List α)):=λa ha F O H σ Q s k=>by cases ha;exact k [] F H (.refl s.1) trivial
theorem wU(h1:Ex B sl md t m)(h2:El B sl md tr ma):El B sl md (yW t tr) (m.bind λa=>ma.bind λb=>some (a::b)):=λc hc F O H σ Q s k=>by
 cases m with
 |none=>cases hc
 |some a =>
  cases ma with
  |none=>cases hc
  |some b =>
   cases(show some (a::b)=some c from hc)
   refine h1 a rfl F O H σ _ s λv F' H' g r1=>?_
   refine h2 b rfl F' O H' σ _ (s.grow g) λvs F2 H2 g2 r2=>?_
   exact k (v::vs) F2 H2 (g.trans g2) ⟨Rp.mono (xN g2 md) r1,r2⟩
noncomputable def Eo(B:Bs)(sl:SL K)(md:Md)(t:TE){α:Type}[Rp K α](m:Option (List α)):Prop :=
 ∀a,m=some a->∀(F:Hp)(O:Own)(H:Hp)(σ:St)(Q:VK),At B sl F O H σ->(∀(p:Addr)(vs:List V)(F' H':Hp),bJ B F H O F' H'->H' p=none->A2 (rp K (reg B F' H' md)) vs a->Q (.ref p) (upd H' p (.lst vs)))->t σ H Q
theorem Eo.ex{m:Option (List α)}(h:Eo B sl md t m):Ex B sl md t m:=λa ha F O H σ Q s k=>h a ha F O H σ Q s λp vs F' H' g hp r=>by
 have g2:=bJ.new g.ok hp (.lst vs)
 exact k _ _ _ (g.trans g2) ⟨p,vs,rfl,Rf g.ok hp md,r.imp λ_ _=>Rp.mono (xN g2 md)⟩
theorem zx:Eo B sl md (BK bI) (some ([]:List α)):=λa ha F O H σ Q s k=>by
 cases ha
 exact⟨abg _,λp hp=>k p [] F H (.refl s.1) hp trivial⟩
theorem Gi{t:TA}{ma:Option (List α)}(h:El B sl md t ma)(hl:∀a,ma=some a->a.length<=cap):Eo B sl md (BK t) ma:=λa ha F O H σ Q s k =>
 h a ha F O H σ _ s λvs F' H' g r=>⟨by rw[r.len];exact zXv (hl a ha),λp hp=>k p vs F' H' g hp r⟩
theorem W0(h1:Ex B sl md t1 m1)(h2:Ex B sl md t2 m2):Ex B sl md (zp (yW t1 (yW t2 bI))) (m1.bind λa=>m2.bind λb=>some (a,b)):=λc hc F O H σ Q s kk=>by
 obtain⟨a,b,ha,hb,hf⟩:=sI hc
 cases hf
 refine h1 a ha F O H σ _ s λv F' H' g r1=>?_
 refine h2 b hb F' O H' σ _ (s.grow g) λw F2 H2 g2 r2=>?_
 refine⟨by show 2<=sizeLine;decide,λp hp=>?_⟩
 have g3:=bJ.new g2.ok hp (.tup [v,w])
 exact kk _ _ _ (g.trans (g2.trans g3)) ⟨p,v,w,rfl,Rf g2.ok hp md,Rp.mono (xN (g2.trans g3) md) r1,Rp.mono (xN g3 md) r2⟩
def bY(K:Frag)(al:Bool){A β:Type}[Rp K β](as:A->SL K)(f:A->Option β):Sp:=λvs H Q _ =>
 ∃a b Fa,Same Fa H/\f a=some b/\Ar Fa (as a) vs/\∀v H',Same H H'->rp K (if al=true then ext Fa H H' else dif H' H) v b->Q v H'
theorem zJ{A:Type}{as:A->SL K}{f:A->Option β}{ma:Option A}(h:Ea B sl .hp ta as ma):Ex B sl md (Bh (bY K false as f) [] E0 ta) (ma.bind f):=λc hc F O H σ Q s kk=>by
 cases ma with
 |none=>cases hc
 |some a =>
  refine h a rfl F O H σ _ s λvs F' H' g r=>?_
  rw[append_nil]
  refine⟨a,c,H',.refl _,hc,r,λv H2 s2 r2=>?_⟩
  have g2:=g.ok.called s2
  refine kk v _ H2 (g.trans g2) ?_
  have r3:=Rp.mono (Jy (F:=F') g.ok.h0 s2) r2
  exact match md with
  |.nw=>r3
  |.fz=>Rp.mono aV r3
  |.hp=>Rp.mono (aV.trans g2.ok.fh) r3
theorem zNt{A:Type}{as:A->SL K}{f:A->Option β}{ma:Option A}(h:Ea B sl md ta as ma):Ex B sl md (Bh (bY K true as f) [] E0 ta) (ma.bind f):=λc hc F O H σ Q s kk=>by
 cases ma with
 |none=>cases hc
 |some a =>
  refine h a rfl F O H σ _ s λvs F' H' g r=>?_
  rw[append_nil]
  have hle:Same (reg B F' H' md) H':=match md with
   |.nw=>aV.trans g.ok.fh
   |.fz=>g.ok.fh
   |.hp=>.refl _
  refine⟨a,c,reg B F' H' md,hle,hc,r,λv H2 s2 r2=>?_⟩
  have g2:=g.ok.called s2
  refine kk v _ H2 (g.trans g2) ?_
  exact match md,r2 with
  |.nw,r2=>Rp.mono (Mr g.ok.h0) r2
  |.fz,r2=>r2
  |.hp,r2=>Rp.mono (zV2 s2) r2
end
noncomputable def push{α:Type}(xs:List α)(a:α):Option (List α):=if xs.length<cap then some (xs++[a]) else none
noncomputable def setAt{α:Type}(xs:List α)(i:Int)(a:α):Option (List α):=(yc xs.length i).bind λj=>some (xs.set j a)
noncomputable def bL(n:Int):Option LI:=if -(2^62)<=n/\n<2^62 then some ((abd n.toNat).map ade) else none
def xR{S α:Type}(step:S->α->Option S):List α->S->Option S
 |[],s=>some s
 |x::b,s=>(step s x).bind λa=>xR step b a
inductive Out(S β:Type)|nx (s:S)|rt (b:β)
def n7{S α β:Type}(step:S->α->Option (Out S β)):List α->S->Option (Out S β)
 |[],s=>some (.nx s)
 |x::a,s=>(step s x).bind λo=>match o with
  |.nx c=>n7 step a c
  |.rt b=>some (.rt b)
def Jz{S:Type}(c:S->Option Bool)(a:S->Option S):Nat->S->Option S
 |0,_=>none
 |k+1,s=>(c s).bind λb=>if b=true then(a s).bind λd=>Jz c a k d else some s
def vH{α β:Type}(c:α->Option Bool)(f:α->Option β):List α->Option (List β)
 |[]=>some []
 |x::a=>(c x).bind λb=>if b=true then(f x).bind λy=>(vH c f a).bind λd=>some (y::d) else vH c f a
noncomputable def Out.els{S β:Type}(o:Out S β)(f:S->Option β):Option β:=match o with
 |.nx s=>f s
 |.rt b=>some b
noncomputable def Out.aQ{S a β:Type}(o:Out S β)(f:S->Option (Out a β)):Option (Out a β):=match o with
 |.nx s=>f s
 |.rt b=>some (.rt b)
theorem Zy{S α:Type}(step:S->α->Option S):∀(xs ys:List α)(s:S),xR step (xs++ys) s=(xR step xs s).bind λs'=>xR step ys s'
 |[],ys,s=>rfl
 |x::xs,ys,s=>by
  show(step s x).bind _=((step s x).bind _).bind _
  cases step s x with
  |none=>rfl
  |some s'=>exact Zy step xs ys s'
theorem zHu{S α:Type}{step:S->α->Option S}{xs:List α}{s g:S}(h:xR step xs s=some g){x:α}(j:xs[i]?=some x):∃a b,xR step (xs.take i) s=some a/\step a x=some b/\xR step (xs.take (i+1)) s=some b:=by
 have e:xs=xs.take (i+1)++xs.drop (i+1):=(take_append_drop _ _).symm
 have k:xs.take (i+1)=xs.take i++[x]:=by rw[take_add_one,j]<;>rfl
 rw[e,Zy] at h
 cases q:xR step (xs.take (i+1)) s with
 |none=>rw[q] at h;cases h
 |some b =>
  have d:=q
  rw[k,Zy] at d
  cases z:xR step (xs.take i) s with
  |none=>rw[z] at d;cases d
  |some a =>
   rw[z] at d
   have f:(step a x).bind (λl=>some l)=some b:=d
   refine⟨a,b,rfl,?_,rfl⟩
   cases w:step a x with
   |none=>rw[w] at f;cases f
   |some c=>rw[w] at f;exact f
section
variable{K:Frag}{B:Bs}{F H F' H' G:Hp}{O:Own}{sl sl2:SL K}{σ:St}{md:Md}{α β γ:Type}[Rp K α][Rp K β][Rp K γ]{t u v:TS}{te:TE}{m:Option α}{S S':Type}{al:Bool}
def Sg(B:Bs)(G:Hp)(sl:SL K)(σ:St)(H:Hp):Prop:=∃F O,Same G F/\At B sl F O H σ
def Rt(K:Frag){β:Type}[Rp K β](B:Bs)(al:Bool)(b:β)(v:V)(H':Hp):Prop:=Same B.H0 H'/\rp K (if al=true then ext B.Fa B.H0 H' else dif H' B.H0) v b
noncomputable def Sn(B:Bs)(sl:SL K)(t:TS){S:Type}(L:S->SL K)(m:Option S):Prop :=
 ∀a,m=some a->∀(G:Hp)(D:Ends)(σ:St)(H:Hp),Sg B G sl σ H->(∀b H',Sg B G (L a) b H'->D.nx b H')->t D σ H
noncomputable def SB(B:Bs)(sl:SL K)(t:TS)(al:Bool){β:Type}[Rp K β](m:Option β):Prop :=
 ∀b,m=some b->∀(G:Hp)(D:Ends)(σ:St)(H:Hp),Sg B G sl σ H->(∀v H',Rt K B al b v H'->D.rt v H')->t D σ H
def XE(B:Bs)(G:Hp)(al:Bool)(L:S->SL K)(D:Ends)(o:Out S β):Prop:=match o with
 |.nx s=>∀a H',Sg B G (L s) a H'->D.nx a H'
 |.rt b=>∀v H',Rt K B al b v H'->D.rt v H'
noncomputable def Sx(B:Bs)(sl:SL K)(t:TS)(al:Bool){S β:Type}[Rp K β](L:S->SL K)(m:Option (Out S β)):Prop :=
 ∀o,m=some o->∀(G:Hp)(D:Ends)(σ:St)(H:Hp),Sg B G sl σ H->XE B G al L D o->t D σ H
theorem SB.of(h:SB B sl t al m)(q:m=m'):SB B sl t al m':=q▸h
theorem Sn.of(h:Sn B sl t L m)(q:m=m'):Sn B sl t L m':=q▸h
inductive Le:SL K->SL K->Prop
 |nil:Le [] []
 |eq {s:Slot K} {a b:SL K}:Le a b->Le (s::a) (s::b)
 |un {s:Slot K} {a b:SL K}:Le a b->Le (s::a) (.un::b)
 |fr {n:Bool} {α:Type} [Rp K α] {xs:List α} {a b:SL K}:Le a b->Le (.ow n xs::a) (.fz n xs::b)
 |old {α:Type} [Rp K α] {x:α} {a b:SL K}:Le a b->Le (.fz true x::a) (.fz false x::b)
 |fo {n:Bool} {α:Type} [Ob K α] {x:α} {a b:SL K}:Le a b->Le (.ob n x::a) (@Slot.fz K n (Ob.β K α) (Ob.TX) (Ob.val x)::b)
theorem Ok.sub(k:Ok B F O H)(s:Sublist a O):Ok B F a H:=⟨k.fh,k.h0,k.fa,λx b=>k.fo x (s.subset b),(s.map _).nodup k.nd⟩
theorem zXg(s:Sublist a O):Same (lo F O H) (lo F a H):=λb u e=>by
 unfold lo at e ⊢
 grind
theorem Ok.yg:∀(Oc:Own){F:Hp}{O:Own},Ok B F (P++(Oc++O)) H->∃F2,Same F F2/\Ok B F2 (P++O) H/\Same (lo F (P++(Oc++O)) H) (lo F2 (P++O) H)/\∀x∈Oc,F2 x.1=some x.2/\B.H0 x.1=none
 |[],F,O,k=>⟨F,.refl _,k,.refl _,λx hx=>(by cases hx)⟩
 | (p,o)::Oc,F,O,k=>by
  obtain⟨a1,a2,a3⟩:=k.one
  have sf:Same F (upd F p o):=au a1 _
  obtain⟨F2,s2,k2,l2,m2⟩:=Ok.yg Oc (k.freeze)
  refine⟨F2,sf.trans s2,k2,lW.trans l2,λx hx=>?_⟩
  rcases mem_cons.mp hx with e|hx
  ·subst e;exact⟨s2 _ _ zM,a2⟩
  ·exact m2 x hx
abbrev LeR(B:Bs)(P:Own)(H F:Hp)(sl2:SL K)(σ:St)(O:Own):Prop:=∃F' f,Same F F'/\Ok B F' (P++f) H/\Same (lo F (P++O) H) (lo F' (P++f) H)/\ak B F' (lo F' (P++f) H) H sl2 σ f
theorem ak.le(h:Le sl sl2):∀{F:Hp}{σ:St}{O:Own},Ok B F (P++O) H->ak B F (lo F (P++O) H) H sl σ O->LeR B P H F sl2 σ O:=by
 induction h generalizing P with
 |nil=>intro F σ O k h;cases h;exact⟨F,[],.refl _,k,.refl _,.nil⟩
 |eq _ ih =>
  intro F σ O k h
  cases h with
  |un h=>obtain⟨F',f,a,b,c,d⟩:=ih k h;exact⟨F',f,a,b,c,.un d⟩
  |fz r h=>obtain⟨F',f,a,b,c,d⟩:=ih k h;exact⟨F',f,a,b,c,.fz (Rp.mono (xF _ a) r) d⟩
  |hs r h=>obtain⟨F',f,a,b,c,d⟩:=ih k h;exact⟨F',f,a,b,c,.hs r d⟩
  |nu r h=>obtain⟨F',f,a,b,c,d⟩:=ih k h;exact⟨F',f,a,b,c,.nu (Rp.mono (yZ c) r) d⟩
  |@ow _ _ _ _ _ _ O p g r h =>
   have e:P++(p,HO.lst g)::O=(P++[(p,HO.lst g)])++O:=by simp
   rw[e] at k h
   obtain⟨F',f,a,b,c,d⟩:=ih k h
   have q:(P++[(p,HO.lst g)])++f=P++(p,HO.lst g)::f:=by simp
   rw[q] at b c d
   rw[<-e] at c
   exact⟨F',_::f,a,b,c,.ow (r.imp λ_ _=>Rp.mono (xF _ a)) d⟩
  |@od _ _ _ _ _ O p g r h =>
   have e:P++(p,HO.dK g)::O=(P++[(p,HO.dK g)])++O:=by simp
   rw[e] at k h
   obtain⟨F',f,a,b,c,d⟩:=ih k h
   have q:(P++[(p,HO.dK g)])++f=P++(p,HO.dK g)::f:=by simp
   rw[q] at b c d
   rw[<-e] at c
   exact⟨F',_::f,a,b,c,.od (r.imp λ_ _ z=>⟨z.1,Rp.mono a z.2⟩) d⟩
  |@ob _ _ _ _ _ _ O i v r h =>
   rw[<-append_assoc] at k h
   obtain⟨F',f,a,b,c,d⟩:=ih k h
   rw[append_assoc] at b c d
   rw[append_assoc] at c
   exact⟨F',i++f,a,b,c,.ob (Ob.mono (xF _ a) r) d⟩
 |un _ ih =>
  intro F σ O k h
  cases h with
  |un h=>obtain⟨F',f,a,b,c,d⟩:=ih k h;exact⟨F',f,a,b,c,.un d⟩
  |fz r h=>obtain⟨F',f,a,b,c,d⟩:=ih k h;exact⟨F',f,a,b,c,.un d⟩
  |hs r h=>obtain⟨F',f,a,b,c,d⟩:=ih k h;exact⟨F',f,a,b,c,.un d⟩
  |nu r h=>obtain⟨F',f,a,b,c,d⟩:=ih k h;exact⟨F',f,a,b,c,.un d⟩
  |ow r h=>obtain⟨F',f,a,b,c,d⟩:=ih k.drop (h.mono (.refl _) nJ (.refl _));exact⟨F',f,a,b,nJ.trans c,.un d⟩
  |od r h=>obtain⟨F',f,a,b,c,d⟩:=ih k.drop (h.mono (.refl _) nJ (.refl _));exact⟨F',f,a,b,nJ.trans c,.un d⟩
  |@ob _ _ _ _ _ _ O i v r h =>
   have l:Sublist (P++O) (P++(i++O)):=Sublist.append (Sublist.refl P) (List.sublist_append_right i O)
   obtain⟨F',f,a,b,c,d⟩:=ih (k.sub l) (h.mono (.refl _) (zXg l) (.refl _))
   exact⟨F',f,a,b,(zXg l).trans c,.un d⟩
 |@fr n _ _ _ _ _ _ ih =>
  intro F σ O k h
  cases h with
  |@ow _ _ _ _ _ _ O p g r h =>
   obtain⟨I,A,a3⟩:=k.one
   have j:Same F (upd F p (.lst g)):=au I _
   obtain⟨F',f,a,b,c,d⟩:=ih k.freeze (h.mono j lW (.refl _))
   refine⟨F',f,j.trans a,b,lW.trans c,.fz ⟨p,g,rfl,?_,r.imp λ_ _=>Rp.mono (xF _ (j.trans a))⟩ d⟩
   cases n with
   |true=>exact(xX A).trans (a _ _ zM)
   |false=>exact a _ _ zM
 |old _ ih =>
  intro F σ O k h
  cases h with
  |fz r h=>obtain⟨F',f,a,b,c,d⟩:=ih k h;exact⟨F',f,a,b,c,.fz (Rp.mono (aV.trans a) r) d⟩
 |@fo n _ _ _ _ _ _ ih =>
  intro F σ O k h
  cases h with
  |@ob _ _ _ _ _ _ O i v r h =>
   obtain⟨F2,o,y,s,C⟩:=Ok.yg i k
   obtain⟨F',f,a,b,c,d⟩:=ih y (h.mono o s (.refl _))
   refine⟨F',f,o.trans a,b,s.trans c,@ak.fz _ _ _ _ _ _ _ Ob.TX _ _ _ _ _ (Ob.uc (Ob.mono (xF _ (o.trans a)) r) λx D=>?_) d⟩
   obtain⟨w,E⟩:=C x D
   cases n with
   |true=>exact(xX E).trans (a _ _ w)
   |false=>exact a _ _ w
theorem Sg.le(h:Sg B G sl σ H)(l:Le sl sl2):Sg B G sl2 σ H:=by
 obtain⟨F,O,g,k,s⟩:=h
 obtain⟨F',c,a,b,_,d⟩:=ak.le (P:=[]) l k s
 exact⟨F',c,g.trans a,b,d⟩
theorem Sg.grow(g:Same G F)(h:At B sl F a H σ)(b:bJ B F H a F' H'):Sg B G sl σ H':=⟨F',a,g.trans b.ff,h.grow b⟩
theorem yH(L:S->SL K)(s:S)(h:Le sl (L s)):Sn B sl K1 L (some s):=λa b G D σ H q k=>by cases b;exact k σ H (q.le h)
theorem zU{f:S->Option S'}(d:Sn B sl t L b)(h2:∀s,Sn B (L s) u L' (f s)):Sn B sl (jF t u) L' (b.bind f):=λa c G D σ H q k=>by
 cases b with
 |none=>cases c
 |some s=>exact d s rfl G _ σ H q λe H' g=>h2 s a c G D e H' g k
theorem zV{f:S->Option β}(d:Sn B sl t L b)(h2:∀s,SB B (L s) u al (f s)):SB B sl (jF t u) al (b.bind f):=λa c G D σ H q k=>by
 cases b with
 |none=>cases c
 |some s=>exact d s rfl G _ σ H q λe H' g=>h2 s a c G D e H' g k
theorem Zz{f:S->Option β}(d:Sx B sl t al L e)(h2:∀s,SB B (L s) u al (f s)):SB B sl (jF t u) al (e.bind λo=>o.els f):=λa c G D σ H q k=>by
 cases e with
 |none=>cases c
 |some o =>
  cases o with
  |nx s=>exact d _ rfl G _ σ H q λh H' g=>h2 s a c G D h H' g k
  |rt b=>cases c;exact d _ rfl G { D with nx:=u D } σ H q k
theorem ZC(L:S->SL K)(s:S)(h:Le sl (L s)):Sx B sl K1 al L (some (.nx s):Option (Out S β)):=λa b G D σ H q k=>by cases b;exact k σ H (q.le h)
theorem Ci(k:Ok B F' O H')(n:Bool){v:V}{b:β}(r:rp K (reg B F' H' (fu n)) v b)(a:n=!al):Rt K B al b v H':=by
 refine⟨k.h0,?_⟩
 cases al with
 |false=>subst a;exact Rp.mono (yZ k.fh) r
 |true =>
  subst a
  refine Rp.mono (λb o h=>?_) r
  show ext B.Fa B.H0 H' b=some o
  unfold ext
  cases q:B.H0 b with
  |none=>exact k.fh b o h
  |some u =>
   rcases k.fa b o h with z|z
   ·exact z
   grind
theorem zZ(h:Ex B sl (fu !al) te m):SB B sl (jF (uh te) u) al m:=λb c G D σ H s k=>by
 obtain⟨F,O,g,a⟩:=s
 exact h b c F O H σ _ a λv F' H' d r=>k v H' (Ci d.ok (!al) r rfl)
theorem Gj(h:F p=none):Same (dif F a) (dif (upd F p o) a):=yZ (au h o)
theorem Gk{n:Bool}{xs:List α}(i:Nat)(j:sl[i]?=some (.ow n xs))(o:n=!al):SB B sl (jF (uh (cP i)) u) al (some xs):=λb d G D σ H s k=>by
 cases d
 obtain⟨F,O,g,a⟩:=s
 obtain⟨O1,O2,p,f,rfl,e,l,_⟩:=a.2.qC j
 obtain⟨c,h,a3⟩:=a.1.one
 refine⟨_,e,k _ H (Ci a.1.freeze n ⟨p,f,rfl,?_,l.imp λ_ _=>Rp.mono ?_⟩ o)⟩
 ·cases n with
  |true=>exact(xX h).trans zM
  |false=>exact zM
 ·cases n with
  |true=>exact Gj c
  |false=>exact au c _
theorem uz(hc:Et B sl c n)(h1:Sn B sl t L m1)(h2:Sn B sl u L m2):Sn B sl (zj c t u) L (n.bind λb=>if b=true then m1 else m2):=λa ha G D σ H s k=>by
 cases n with
 |none=>cases ha
 |some b =>
  obtain⟨F,O,g,z⟩:=s
  refine hc b rfl F O H σ _ z λF' H' gr=>?_
  cases b with
  |true=>exact jW (h1 a (by simpa using ha) G D σ H' (Sg.grow g z gr) k)
  |false=>exact m_ (h2 a (by simpa using ha) G D σ H' (Sg.grow g z gr) k)
theorem xM{c:TT}{n:Option Bool}{f e:Option β}(j:Et B sl c n)(i:SB B sl t al f)(h2:SB B sl u al e):SB B sl (jF (zj c t K1) u) al (n.bind λb=>if b=true then f else e):=λa h G D σ H s k=>by
 cases n with
 |none=>cases h
 |some b =>
  obtain⟨F,O,g,z⟩:=s
  refine j b rfl F O H σ _ z λF' H' d=>?_
  cases b with
  |true=>exact jW (i a (by grind) G _ σ H' (Sg.grow g z d) k)
  |false=>exact m_ (h2 a (by grind) G D σ H' (Sg.grow g z d) k)
theorem ZD{c:TT}{n:Option Bool}{m1:Option β}{L:S->SL K}{m2:Option (Out S β)}(hc:Et B sl c n)(h1:SB B sl t al m1)(h2:Sx B sl u al L m2) :
  Sx B sl (jF (zj c t K1) u) al L (n.bind λb=>if b=true then m1.bind λb=>some (.rt b) else m2):=λa ha G D σ H s k=>by
 cases n with
 |none=>cases ha
 |some b =>
  obtain⟨F,O,g,z⟩:=s
  refine hc b rfl F O H σ _ z λF' H' gr=>?_
  cases b with
  |true =>
   have e:=(show(m1.bind λb=>some (Out.rt b))=some a by simpa using ha)
   cases m1 with
   |none=>cases e
   |some b=>cases e;exact jW (h1 b rfl G _ σ H' (Sg.grow g z gr) k)
  |false=>exact m_ (h2 a (by simpa using ha) G D σ H' (Sg.grow g z gr) k)
theorem Sg.set{s:Slot K}{i:Nat}{n:Bool}{a:α}{v:V}{O:Own}(g:Same G F)(h:At B sl F O H σ)(b:sl[i]?=some s)(c:iR s=false)(r:rp K (reg B F H (fu n)) v a):Sg B G (sl.set i (.fz n a)) (σ.set i (some v)) H :=
 ⟨F,O,g,h.1,h.2.put (λ_ _ _ z=>.fz r z) b c⟩
theorem yR(n:Bool)(i:Nat)(d:sl[i]?=some s)(e:iR s=false)(h:Ex B sl (fu n) te m):Sn B sl (lU te (qd i)) (λa=>sl.set i (.fz n a)) m:=λa c G D σ H s k=>by
 obtain⟨F,O,g,z⟩:=s
 exact h a c F O H σ _ z λv F' H' b r=>k _ _ (Sg.set (g.trans b.ff) (z.grow b) d e r)
theorem Rg(h:Ex B sl md te m):Sn B sl (QG te) (λ_=>sl) m:=λa b G D σ H s k=>by
 obtain⟨F,O,g,z⟩:=s
 exact h a b F O H σ _ z λv F' H' c r=>k _ _ (Sg.grow g z c)
theorem At.own{s:Slot K}{i:Nat}{n:Bool}{xs:List α}{vs:List V}{p:Addr}(h:At B sl F O H σ)(e:sl[i]?=some s)(d:iR s=false)(a:H p=none)(r:A2 (rp K (reg B F H (fu n))) vs xs) :
  ∃b,At B (sl.set i (.ow n xs)) F b (upd H p (.lst vs)) (σ.set i (some (.ref p))):=by
 obtain⟨k,f⟩:=h
 obtain⟨O1,O2,rfl,z⟩:=f.own (c:=(p,.lst vs)) (λ_ _ _ z=>.ow r z) e d
 exact⟨_,k.add a,z.mono (.refl _) (zXi a) (au a _)⟩
theorem yh{s:Slot K}{m:Option (List α)}(n:Bool)(i:Nat)(d:sl[i]?=some s)(e:iR s=false)(h:Eo B sl (fu n) te m):Sn B sl (lU te (qd i)) (λa=>sl.set i (.ow n a)) m:=λa f G D σ H s k=>by
 obtain⟨F,O,g,z⟩:=s
 refine h a f F O H σ _ z λp vs F' H' b l r=>k _ _ ?_
 obtain⟨c,j⟩:=(z.grow b).own d e l r
 exact⟨F',c,g.trans b.ff,j⟩
theorem ZF(i:Nat)(f:sl[i]?=some s)(e:iR s=false):Sn B sl (lU zWx (qd i)) (λ_=>sl.set i (.od ([]:List (Key×α)))) (some ()):=λa ha G D σ H s k=>by
 obtain⟨F,O,g,j,d⟩:=s
 intro p b
 refine k _ _ ?_
 obtain⟨O1,O2,rfl,h⟩:=d.own (s':=.od ([]:List (Key×α))) (c:=(p,.dK [])) (λ_ _ _ z=>.od trivial z) f e
 exact⟨F,_,g,j.add b,h.mono (.refl _) (zXi b) (au b _)⟩
theorem ZG{α:Type}:∀{l:List α}{i:Nat}{x:α},l[i]?=some x->l.set i x=l
 |[],_,_,h=>by simp at h
 |_::_,0,_,h=>by simp at h;subst h;rfl
 |_::l,i+1,_,h=>congrArg _ (ZG (l:=l) (i:=i) (by simpa using h))
theorem zTo{P:Slot K->Bool}(hs:P s=true):∀{l:SL K}{i:Nat},l.all P=true->(l.set i s).all P=true
 |[],_,h=>h
 |_::_,0,h=>by grind
 |_::l,i+1,h=>by grind
theorem At.chg{i:Nat}{n:Bool}{xs:List α}(h:At B sl F O H σ)(f:sl[i]?=some (.ow n xs))(d:sl.all (λs=>!dj s)=true):∃p vs,σ[i]?=some (some (.ref p))/\H p=some (.lst vs)/\A2 (rp K (reg B F H (fu n))) vs xs /\
  ∀(ws:List V)(ys:List α),A2 (rp K (reg B F H (fu n))) ws ys->∃b,At B (sl.set i (.ow n ys)) F b (upd H p (.lst ws)) σ:=by
 obtain⟨k,c⟩:=h
 obtain⟨O1,O2,p,vs,rfl,a,g,e,_⟩:=c.qC f
 refine⟨p,vs,a,k.one.2.2,g,λws ys r=>⟨_,k.chg (.lst ws),?_⟩⟩
 have z:=e (.ow n ys) (some (.ref p)) (p,.lst ws) λ_ _ _ z=>.ow r z
 rw[ZG a] at z
 exact z.mut zXh (zTo rfl d)
theorem At.Gm(h:At B sl F O H σ)(g:sl[i]?=some (.od kvs))(d:sl.all (λs=>!dj s)=true):∃p ks,σ[i]?=some (some (.ref p))/\H p=some (.dK ks)/\A2 (λ(x:Key×V) (y:Key×α)=>x.1=y.1/\rp K F x.2 y.2) ks kvs /\
  ∀(ws:List (Key×V))(ys:List (Key×α)),A2 (λ(x:Key×V) (y:Key×α)=>x.1=y.1/\rp K F x.2 y.2) ws ys->∃b,At B (sl.set i (.od ys)) F b (upd H p (.dK ws)) σ:=by
 obtain⟨k,c⟩:=h
 obtain⟨O1,O2,p,e,rfl,a,j,f,_⟩:=c.Jx g
 refine⟨p,e,a,k.one.2.2,j,λws ys r=>⟨_,k.chg (.dK ws),?_⟩⟩
 have z:=f (.od ys) (some (.ref p)) (p,.dK ws) λ_ _ _ z=>.od r z
 rw[ZG a] at z
 exact z.mut zXh (zTo rfl d)
theorem vN(i:Nat)(o:sl[i]?=some (.ow n xs))(x:sl.all (λs=>!dj s)=true)(h:Ex B sl (fu n) te m) :
  Sn B sl (QG (QX K "list" Zc (cP i) (yW te bI))) (λys=>sl.set i (.ow n ys)) (m.bind λa=>push xs a):=λys y G D σ H s k=>by
 cases m with
 |none=>cases y
 |some a =>
  have b:=y
  unfold push at b
  split at b
  case isFalse=>cases b
  rename_i C
  cases b
  obtain⟨F,O,g,z⟩:=s
  obtain⟨p,vs,q,I,h3,_⟩:=z.chg o x
  refine⟨_,q,.inl ⟨rfl,_,aZ.of I⟩,?_⟩
  refine h a rfl F O H σ _ z λv F' H' w r=>?_
  obtain⟨p',c,j,f,d,l⟩:=(z.grow w).chg o x
  have e:=q.symm.trans j
  cases e
  obtain⟨A,E⟩:=l (c++[v]) (xs++[a]) (d.snoc r)
  exact⟨p,c,v,rfl,rfl,f,Cg (by rw[d.len];exact C),k _ _ ⟨F',A,g.trans w.ff,E⟩⟩
theorem T4(i:Nat)(hs:sl[i]?=some (.ow n xs))(hh:sl.all (λs=>!dj s)=true)(hv:Ex B sl (fu n) te m)(hi:Ex B sl .hp ti mi) :
  Sn B sl (lU te (S6 (cP i) ti BP)) (λys=>sl.set i (.ow n ys)) (m.bind λa=>mi.bind λk=>setAt xs k a):=λys ha G D σ H s k=>by
 cases m with
 |none=>cases ha
 |some a =>
  cases mi with
  |none=>cases ha
  |some ix =>
   have ha':setAt xs ix a=some ys:=ha
   obtain⟨F,O,g,z⟩:=s
   refine hv a rfl F O H σ _ z λv F' H' gr r=>?_
   obtain⟨p,vs,h1,h2,h3,_⟩:=(z.grow gr).chg hs hh
   refine⟨_,h1,?_⟩
   refine hi ix rfl F' O H' σ _ (z.grow gr) λw F2 H2 ZJ rw=>?_
   cases rw
   obtain⟨p',vs',h1',h2',h3',h4'⟩:=((z.grow gr).grow ZJ).chg hs hh
   have e:=h1.symm.trans h1'
   cases e
   unfold setAt at ha'
   cases ej:yc xs.length ix with
   |none=>rw[ej] at ha';cases ha'
   |some jj =>
    rw[ej] at ha'
    cases ha'
    obtain⟨O',z'⟩:=h4' (vs'.set jj v) (xs.set jj a) (h3'.set (Rp.mono (xN ZJ (fu n)) r) jj)
    exact⟨p,vs',ix,jj,rfl,rfl,h2',by rw[h3'.len,ej],k _ _ ⟨F2,O',(g.trans gr.ff).trans ZJ.ff,z'⟩⟩
end
section
variable{K:Frag}{B:Bs}{F H F' H' G:Hp}{O:Own}{sl sl2:SL K}{σ:St}{md:Md}{α β γ:Type}[Rp K α][Rp K β][Rp K γ]{tb u v:TS}{te:TE}{m:Option α}{S S':Type}{al n:Bool}
theorem W2{S α β:Type}(step:S->α->Option (Out S β)):∀(xs ys:List α)(s:S),n7 step (xs++ys) s=(n7 step xs s).bind λo=>o.aQ λs'=>n7 step ys s'
 |[],ys,s=>rfl
 |x::xs,ys,s=>by
  show(step s x).bind _=((step s x).bind _).bind _
  cases step s x with
  |none=>rfl
  |some o =>
   cases o with
   |nx s'=>exact W2 step xs ys s'
   |rt b=>rfl
theorem zPq{S α β:Type}{step:S->α->Option (Out S β)}{xs:List α}{s a:S}{x:α}(h:n7 step (xs.take i) s=some (.nx a))(c:xs[i]?=some x):n7 step (xs.take (i+1)) s=step a x:=by
 have b:xs.take (i+1)=xs.take i++[x]:=by rw[take_add_one,c]<;>rfl
 rw[b,W2,h]
 show(step a x).bind _=step a x
 cases step a x with
 |none=>rfl
 |some o=>cases o<;>rfl
theorem zSw{S α β:Type}{step:S->α->Option (Out S β)}{xs:List α}{s:S}{o:Out S β}{b:β}(h:n7 step xs s=some o)(a:n7 step (xs.take i) s=some (.rt b)):o=.rt b:=by
 rw[<-take_append_drop i xs,W2,a] at h
 cases h
 rfl
theorem zPr{S α β:Type}{step:S->α->Option (Out S β)}{xs:List α}{s:S}{o:Out S β}(i:Nat)(h:n7 step xs s=some o):∃a,n7 step (xs.take i) s=some a:=by
 rw[<-take_append_drop i xs,W2] at h
 cases q:n7 step (xs.take i) s with
 |none=>grind
 |some a=>grind
def Yl(K:Frag)(B:Bs)(F':Hp)(n:Bool)(J:It){α:Type}[Rp K α](xs:List α):Prop:=∀(i:Nat)(c:Hp)(f:Own)(b:Hp),Same F' c->Ok B c f b ->
 (xs.length<=i->J.stop i b)/\∀x,xs[i]?=some x->J.go i b/\∀v d,J.K7 i b v d->∃e,bJ B c b f e d/\rp K (reg B e d (fu n)) v x
noncomputable def Ei(B:Bs)(sl:SL K)(n:Bool)(b:TI){α:Type}[Rp K α](mi:Option (List α)):Prop :=
 ∀a,mi=some a->∀(F:Hp)(O:Own)(H:Hp)(σ:St)(R:It->Hp->Prop),At B sl F O H σ->(∀(J:It)(F' H':Hp),bJ B F H O F' H'->Yl K B F' n J a->R J H')->b σ H R
def Tg(B:Bs)(sl:SL K)(n:Bool)(g:TG){α:Type}[Rp K α](L:α->SL K):Prop :=
 ∀(v:V)(x:α)(F:Hp)(O:Own)(H:Hp)(σ:St)(Q:St->Hp->Prop),At B sl F O H σ->rp K (reg B F H (fu n)) v x->(∀b,At B (L x) F O H b->Q b H)->g v σ H Q
theorem yA(i:Nat)(b:sl[i]?=some s)(c:iR s=false):Tg B sl n (qd i) (λx:α=>sl.set i (.fz n x)):=λv x F O H σ Q a r k=>k _ ⟨a.1,a.2.put (λ_ _ _ z=>.fz r z) b c⟩
theorem zQt(k:Ok B F O H)(h:reg B F H (fu n) p=some o):H p=some o:=Eb k n p o h
theorem Mv(i j:Nat)(l:sl[i]?=some s)(g:iR s=false)(d:∀x:Slot K,(sl.set i x)[j]?=some s')(c:iR s'=false) :
  Tg B sl n (Fe K 2 (QK (qd i) (QK (qd j) K5))) (λx:α×β=>(sl.set i (.fz n x.1)).set j (.fz n x.2)):=λv x F O H σ Q a r k=>by
 obtain⟨p,e,b,rfl,f,o,h⟩:=r
 refine⟨p,[e,b],rfl,.inl (.inl (zQt a.1 f)),rfl,e,[b],rfl,b,[],rfl,rfl,?_⟩
 exact k _ ⟨a.1,(a.2.put (λ_ _ _ z=>.fz o z) l g).put (λ_ _ _ z=>.fz h z) (d _) c⟩
theorem wO{L:S->SL K}{A:S->α->SL K}{step:S->α->Option S}(f:S)(h0:Le sl (L f))(R:Ei B (L f) n I mi)(hg:∀s,Tg B (L s) n g (A s))(hb:∀s x,Sn B (A s x) tb L (step s x)) :
  Sn B sl (K9 I g tb) L (mi.bind λxs=>xR step xs f):=λU b G D σ H q k=>by
 cases mi with
 |none=>cases b
 |some xs =>
  have b:xR step xs f=some U:=b
  obtain⟨F,O,Y,a⟩:=q.le h0
  refine R xs rfl F O H σ _ a λJ F' H' y Z=>?_
  refine⟨λi m σ H=>m=xs.length-i/\i<=xs.length/\∃s,xR step (xs.take i) f=some s/\Sg B F' (L s) σ H,⟨xs.length,rfl,abg _,f,rfl,F',O,.refl _,a.grow y⟩,?_⟩
  rintro i m σ H ⟨rfl,hil,s,o,E,h,j,l⟩
  obtain⟨y1,y2⟩:=Z i E h H j l.1
  by_cases d:i<xs.length
  ·obtain⟨M,Q⟩:=y2 xs[i] (aaz d)
   obtain⟨s',c,t,X,N⟩:=zHu b (aaz d)
   rw[o] at t
   cases t
   refine .inr ⟨M,Sg B F' (L c),λw H' z=>⟨xs.length-(i+1),by lia,rfl,d,c,N,z⟩,λv p P=>?_⟩
   obtain⟨r,C,r3⟩:=Q v p P
   exact hg s v xs[i] r h p σ _ (l.grow C) r3 λw T=>hb s xs[i] c X F' _ w p ⟨r,h,j.trans C.ff,T⟩ λσ2 H2 z=>z
  ·have e:i=xs.length:=by lia
   subst e
   rw[take_length,b] at o
   cases o
   exact .inl ⟨y1 (aa0 _),k σ H ⟨E,h,(Y.trans y.ff).trans j,l⟩⟩
theorem ZL{L:S->SL K}{Lx:S->α->SL K}{step:S->α->Option (Out S β)}(s0:S)(h0:Le sl (L s0))(hi:Ei B (L s0) n wi mi)(hg:∀s,Tg B (L s) n g (Lx s))(hb:∀s x,Sx B (Lx s x) tb al L (step s x)) :
  Sx B sl (K9 wi g tb) al L (mi.bind λxs=>n7 step xs s0):=λo ho G D σ H q k=>by
 cases mi with
 |none=>cases ho
 |some xs =>
  have ho:n7 step xs s0=some o:=ho
  obtain⟨F,O,g0,a⟩:=q.le h0
  refine hi xs rfl F O H σ _ a λJ F' H' gr yl=>?_
  refine⟨λi m σ H=>m=xs.length-i/\i<=xs.length/\∃s,n7 step (xs.take i) s0=some (.nx s)/\Sg B F' (L s) σ H,⟨xs.length,rfl,abg _,s0,rfl,F',O,.refl _,a.grow gr⟩,?_⟩
  rintro i m σ H ⟨rfl,hil,s,hs,F2,O2,sf,a2⟩
  obtain⟨y1,y2⟩:=yl i F2 O2 H sf a2.1
  by_cases hlt:i<xs.length
  ·obtain⟨go,y3⟩:=y2 xs[i] (aaz hlt)
   have e2:=zPq hs (aaz hlt)
   obtain⟨o',e3⟩:=zPr (i+1) ho
   refine .inr ⟨go,λσ H=>∃s',o'=.nx s'/\Sg B F' (L s') σ H,λσ' H' ⟨s',e,z⟩=>⟨xs.length-(i+1),by omega,rfl,hlt,s',by rw[e3,e],z⟩,λv H3 yd=>?_⟩
   obtain⟨F3,g3,r3⟩:=y3 v H3 yd
   refine hg s v xs[i] F3 O2 H3 σ _ (a2.grow g3) r3 λσ' a'=>hb s xs[i] o' (by rw[<-e2,e3]) F' _ σ' H3 ⟨F3,O2,sf.trans g3.ff,a'⟩ ?_
   cases o' with
   |nx s'=>exactλσ2 H2 z=>⟨s',rfl,z⟩
   |rt b =>
    have:=zSw ho e3
    subst this
    exact k
  ·have e:i=xs.length:=by omega
   subst e
   rw[take_length,ho] at hs
   cases hs
   exact .inl ⟨y1 (aa0 _),k σ H ⟨F2,O2,(g0.trans gr.ff).trans sf,a2⟩⟩
theorem zUh{L:S->SL K}{cM:S->Option Bool}{bM:S->Option S}(fuel:Nat)(s0:S)(h0:Le sl (L s0))(hc:∀s,Et B (L s) c (cM s))(hb:∀s,Sn B (L s) tb L (bM s)):Sn B sl (zWv c tb) L (Jz cM bM fuel s0):=λs1 hs1 G D σ H q k=>by
 refine⟨λm σ H=>∃s,Jz cM bM m s=some s1/\Sg B G (L s) σ H,⟨fuel,s0,hs1,q.le h0⟩,?_⟩
 rintro m σ H ⟨s,hs,F,O,g,a⟩
 cases m with
 |zero=>cases hs
 |succ m =>
  have hs:((cM s).bind λb=>if b=true then(bM s).bind λs'=>Jz cM bM m s' else some s)=some s1:=hs
  cases e:cM s with
  |none=>rw[e] at hs;cases hs
  |some b =>
   rw[e] at hs
   refine hc s b e F O H σ _ a λF' H' gr=>?_
   cases b with
   |true =>
    have hs:((bM s).bind λs'=>Jz cM bM m s')=some s1:=by simpa using hs
    cases e2:bM s with
    |none=>rw[e2] at hs;cases hs
    |some s' =>
     rw[e2] at hs
     exact jW ⟨Sg B G (L s'),λσ' H' z=>⟨m,ab9 _,s',hs,z⟩,hb s s' e2 G _ σ H' (Sg.grow g a gr) λ_ _ z=>z⟩
   |false =>
    have hs:some s=some s1:=by simpa using hs
    cases hs
    exact m_ (k σ H' (Sg.grow g a gr))
theorem yN{mi:Option (List α)}(h:Ex B sl (fu n) te mi):Ei B sl n (Bv K te) mi:=λt d F O H σ R a k=>by
 refine h t d F O H σ _ a λv F' H' j r=>?_
 obtain⟨p,b,rfl,c,q⟩:=r
 refine⟨p,rfl,⟨b,aZ.of (Eb j.ok n p _ c)⟩,k _ F' H' j λi s O2 C l g=>?_⟩
 have f:aZ K C p b:=aZ.of (g.fh _ _ (l _ _ (by cases n with|true=>exact aV _ _ c|false=>exact c)))
 refine⟨λz=>⟨b,f,by rw[q.len];exact z⟩,λx d=>?_⟩
 obtain⟨w,o,D⟩:=q.at2 d
 refine⟨⟨b,w,f,o⟩,λv H3 A=>?_⟩
 obtain⟨e,y⟩:=A
 subst e
 have:=(o.symm.trans (y b f))
 cases this
 exact⟨s,.refl g,Rp.mono (xF n l) D⟩
theorem ZM{k i:Nat}{x:Int}(h:((abd k).map ade)[i]?=some x):i<k/\x=i:=by
 grind
theorem wF(h:Ex B sl .hp te mi):Ei B sl n (Jo (yW te bI)) (mi.bind bL):=λxs hx F O H σ R a k=>by
 cases mi with
 |none=>cases hx
 |some j =>
  have hx:bL j=some xs:=hx
  unfold bL at hx
  split at hx
  case isFalse=>cases hx
  rename_i hb
  cases hx
  refine h j rfl F O H σ _ a λv F' H' gr r=>?_
  cases r
  refine⟨j,rfl,hb.1,hb.2,k _ F' H' gr λi F2 O2 H2 sf k2=>⟨λhl=>?_,λx hx=>?_⟩⟩
  ·rw[length_map,length_range] at hl;exact hl
  ·obtain⟨h1,rfl⟩:=ZM hx
   refine⟨h1,λv H3 yd=>?_⟩
   obtain⟨rfl,rfl⟩:=yd
   exact⟨F2,.refl k2,by show V.int (0+(i:Int))=V.int i;rw[Int.zero_add]⟩
def Eh{α:Type}(xs:List α):List (Int×α):=((abd xs.length).map ade).zip xs
theorem ZP{α:Type}{xs:List α}{i:Nat}{x:Int×α}(h:(Eh xs)[i]?=some x):x.1=i/\xs[i]?=some x.2:=by
 unfold Eh at h
 rw[List.getElem?_zip_eq_some] at h
 exact⟨(ZM h.1).2,h.2⟩
theorem zKt{α:Type}(xs:List α):(Eh xs).length=xs.length:=by unfold Eh;simp
theorem ZQ{mi:Option (List α)}(h:Ex B sl (fu n) te mi):Ei B sl n (B_ K (yW te bI)) (mi.bind λxs=>some (Eh xs)):=λxs c F O H σ R a k=>by
 cases mi with
 |none=>cases c
 |some z =>
  cases(c)
  refine h z rfl F O H σ _ a λv F' H' l r=>?_
  obtain⟨p,b,rfl,f,s⟩:=r
  refine⟨p,rfl,⟨b,aZ.of (Eb l.ok n p _ f)⟩,k _ F' H' l λi F2 O2 I g d=>?_⟩
  have e:aZ K I p b:=aZ.of (d.fh _ _ (g _ _ (by cases n with|true=>exact aV _ _ f|false=>exact f)))
  refine⟨λD=>⟨b,e,by rw[s.len,<-zKt];exact D⟩,λx c=>?_⟩
  obtain⟨C,E⟩:=ZP c
  obtain⟨w,q,A⟩:=s.at2 E
  refine⟨⟨b,w,e,q⟩,λv H3 J=>?_⟩
  obtain⟨t,x',rfl,o,rfl,y⟩:=J
  have:=(q.symm.trans (y b e))
  cases this
  have j:=bJ.new d o (.tup [.int i,w])
  refine⟨_,j,t,.int i,w,rfl,?_,?_,Rp.mono (xF n (g.trans j.ff)) A⟩
  ·exact Rf d o (fu n)
  ·rw[C];rfl
noncomputable def aK{α β:Type}(c:α->Option Bool)(f:α->Option β)(xs:List α):Option (List β):=if xs.length<cap then vH c f xs else none
theorem W3{α β:Type}(c:α->Option Bool)(f:α->Option β):∀(xs ys:List α),vH c f (xs++ys)=(vH c f xs).bind λa=>(vH c f ys).bind λb=>some (a++b)
 |[],ys=>by
  rw[List.nil_append]
  show vH c f ys=(vH c f ys).bind λb=>some ([]++b)
  cases vH c f ys<;>rfl
 |x::xs,ys=>by
  show(c x).bind _=((c x).bind _).bind _
  cases c x with
  |none=>rfl
  |some b =>
   cases b with
   |true =>
    show(f x).bind _=((f x).bind _).bind _
    cases f x with
    |none=>rfl
    |some y =>
     show(vH c f (xs++ys)).bind _=((vH c f xs).bind _).bind _
     rw[W3 c f xs ys]
     cases vH c f xs with
     |none=>rfl
     |some a =>
      show((vH c f ys).bind _).bind _=(vH c f ys).bind _
      cases vH c f ys<;>rfl
   |false=>exact W3 c f xs ys
theorem ZR{α β:Type}(c:α->Option Bool)(f:α->Option β):∀{xs:List α}{ys:List β},vH c f xs=some ys->ys.length<=xs.length
 |[],ys,h=>by cases h;exact aa0 _
 |x::xs,ys,h=>by
  have h:((c x).bind λb=>if b=true then(f x).bind λy=>(vH c f xs).bind λys=>some (y::ys) else vH c f xs)=some ys:=h
  cases e:c x with
  |none=>rw[e] at h;cases h
  |some b =>
   rw[e] at h
   cases b with
   |true =>
    have h:((f x).bind λy=>(vH c f xs).bind λys=>some (y::ys))=some ys:=by simpa using h
    cases e2:f x with
    |none=>rw[e2] at h;cases h
    |some y =>
     rw[e2] at h
     cases e3:vH c f xs with
     |none=>rw[e3] at h;cases h
     |some zs =>
      rw[e3] at h
      cases h
      exact acp (ZR c f e3)
   |false =>
    have h:vH c f xs=some ys:=by simpa using h
    exact Nat.le_succ_of_le (ZR c f h)
theorem zP1{α β:Type}{c:α->Option Bool}{f:α->Option β}{xs:List α}{zs:List β}(i:Nat)(h:vH c f xs=some zs):∃ys,vH c f (xs.take i)=some ys:=by
 rw[<-take_append_drop i xs,W3] at h
 cases q:vH c f (xs.take i) with
 |none=>grind
 |some o'=>grind
theorem zP2{α β:Type}{c:α->Option Bool}{f:α->Option β}{xs:List α}{zs ys:List β}{x:α}(h:vH c f (xs.take (i+1))=some zs)(d:vH c f (xs.take i)=some ys)(g:xs[i]?=some x) :
  (c x=some false/\zs=ys)\/∃y,c x=some true/\f x=some y/\zs=ys++[y]:=by
 have a:xs.take (i+1)=xs.take i++[x]:=by rw[take_add_one,g]<;>rfl
 rw[a,W3,d] at h
 have h:(((c x).bind λb=>if b=true then(f x).bind λy=>some [y] else some []).bind λb=>some (ys++b))=some zs:=h
 cases e:c x with
 |none=>rw[e] at h;cases h
 |some b =>
  rw[e] at h
  cases b with
  |true =>
   have h:(((f x).bind λy=>some [y]).bind λb=>some (ys++b))=some zs:=by simpa using h
   cases a:f x with
   |none=>rw[a] at h;cases h
   |some y=>rw[a] at h;cases h;exact .inr ⟨y,rfl,rfl,rfl⟩
  |false =>
   have h:some (ys++[])=some zs:=by simpa using h
   rw[append_nil] at h
   cases h
   exact .inl ⟨rfl,rfl⟩
abbrev T5:Slot K->Slot K
 |.un=>.un
 |@Slot.fz _ n _ i a=>@Slot.fz _ n _ i a
 |@Slot.hs _ _ i a=>@Slot.hs _ _ i a
 |@Slot.nu _ _ i a=>@Slot.hs _ _ i a
 |@Slot.ow _ _ _ i b=>@Slot.hs _ _ _ b
 |@Slot.od _ _ _ _=>.un
 |@Slot.ob _ _ _ _ _=>.un
theorem bJ.lift(k:Ok B F O H)(g:bJ B F H [] F' H'):bJ B F H O F' H' :=
 ⟨g.ff,g.hh,⟨g.ok.fh,g.ok.h0,g.ok.fa,λx b=>by
  obtain⟨a,c,d⟩:=k.fo x b
  exact⟨g.nw _ a (by grind),c,g.hh _ _ d⟩,k.nd⟩,g.nw⟩
theorem Ok.nil(k:Ok B F O H):Ok B F [] H:=⟨k.fh,k.h0,k.fa,λx a=>(by cases a),(by simp)⟩
theorem ak.one(a:At B sl F O H σ)(L:Hp)(j:Nat)(f:sl[j]?=some s):∀{e:SL K}{g:St},ak B F L H e g []->ak B F L H (T5 s::e) ((σ[j]?).getD none::g) []:=λ{e g} h=>by
 cases s with
 |un=>exact .un h
 |fz n b=>obtain⟨v,c,d⟩:=a.2.sH f;rw[c];exact .fz d h
 |hs b=>obtain⟨v,c,d⟩:=a.2.Jw f;rw[c];exact .hs d h
 |nu b=>obtain⟨v,c,d⟩:=a.2.Cd f;rw[c];exact .hs (Rp.mono (aV.trans lo_le) d) h
 |ow n xs =>
  obtain⟨k,i⟩:=a
  obtain⟨O1,O2,p,l,rfl,c,d,_⟩:=i.qC f
  rw[c]
  exact .hs ⟨p,l,rfl,k.one.2.2,d.imp λ_ _=>Rp.mono (Eb k n)⟩ h
 |od kvs=>exact .un h
 |ob n a=>exact .un h
def Mw(sl:SL K)(n:Nat)(ix:List Nat):SL K:=replicate n .un++ix.map λj=>T5 ((sl[j]?).getD .un)
theorem Gn(a:At B sl F O H σ)(L:Hp)(n:Nat):∀(ix:List Nat),(∀j∈ix,j<sl.length)->ak B F L H (Mw sl n ix) (jG σ n ix) []:=λix b=>by
 unfold Mw jG
 induction n with
 |zero =>
  induction ix with
  |nil=>exact .nil
  |cons j ix ih =>
   have c:=b j mem_cons_self
   have d:=aaz c
   have z:=ak.one a L j d (ih λk e=>b k (mem_cons_of_mem _ e))
   grind
 |succ n ih=>exact .un ih
inductive sJ:SL K->SL K->Prop
 |nil:sJ [] []
 |eq {s:Slot K} {a b:SL K}:sJ a b->sJ (s::a) (s::b)
 |un {s:Slot K} {a b:SL K}:sJ a b->sJ (s::a) (.un::b)
theorem ak.le1(l:sJ sl sl2):∀{σ:St}{O:Own},ak B F L H sl σ O->O=[]->ak B F L H sl2 σ []:=by
 induction l with
 |nil=>grind
 |eq _ ih =>
  intro σ O h e
  cases h with
  |un h=>exact .un (ih h e)
  |fz r h=>exact .fz r (ih h e)
  |hs r h=>exact .hs r (ih h e)
  |nu r h=>exact .nu r (ih h e)
  |ow r h=>cases e
  |od r h=>cases e
  |ob r h =>
   obtain⟨a,b⟩:=List.append_eq_nil_iff.mp e
   subst a
   exact .ob r (ih h b)
 |un _ ih =>
  intro σ O h e
  cases h with
  |un h=>exact .un (ih h e)
  |fz r h=>exact .un (ih h e)
  |hs r h=>exact .un (ih h e)
  |nu r h=>exact .un (ih h e)
  |ow r h=>cases e
  |od r h=>cases e
  |ob r h=>exact .un (ih h (List.append_eq_nil_iff.mp e).2)
theorem ak.le0(l:sJ sl sl2)(h:ak B F L H sl σ []):ak B F L H sl2 σ []:=h.le1 l rfl
theorem yU{c:α->Option Bool}{f:α->Option β}{ix:List Nat}(Z:(ix.all λj=>decide (j<sl.length))=true)(hI:fG=Mw sl no ix)(hi:Ei B sl n wi mi)(hg:Tg B fG n g Lx)(hc:∀x,Et B (Lx x) tc (c x))(he:∀x,Ex B (Lx x) md te (f x))(hle:∀x,sJ (Lx x) fG) :
  Eo B sl md (Q_ no ix wi g tc te) (mi.bind λxs=>aK c f xs):=λzs r F O H σ Q a k=>by
 cases mi with
 |none=>cases r
 |some xs =>
  have r:aK c f xs=some zs:=r
  unfold aK at r
  split at r
  case isFalse=>cases r
  rename_i N
  have hcl:=Cg N
  refine hi xs rfl F O H σ _ a λJ F' H' gr yl=>?_
  have a':=a.grow gr
  refine⟨λi m D A d=>m=xs.length-i/\i<=xs.length/\∃(h:Hp)(ws:List β),vH c f (xs.take i)=some ws/\bJ B F' H' O h d/\ak B h (lo h [] d) d fG A []/\A2 (rp K (reg B h d md)) D ws,
   ⟨xs.length,rfl,abg _,F',[],rfl,.refl a'.1,?_,trivial⟩,?_⟩
  ·rw[hI]
   exact Gn a' _ no ix λj hj=>by simpa using(all_eq_true.mp Z) j hj
  rintro i m D A d ⟨rfl,hil,h,ws,P,X,s2,U⟩
  have hyl:D.length<=xs.length:=by
   rw[U.len]
   exact aa1 (ZR c f P) (by rw[length_take];lia)
  obtain⟨y1,y2⟩:=yl i h O d X.ff X.ok
  by_cases t:i<xs.length
  ·obtain⟨go,y3⟩:=y2 xs[i] (aaz t)
   obtain⟨E,M⟩:=zP1 (i+1) r
   refine .inr ⟨go,by lia,λD A d=>∃(h:Hp),bJ B F' H' O h d/\ak B h (lo h [] d) d fG A []/\A2 (rp K (reg B h d md)) D E,(by rintro ys' σ' H' ⟨z,I,L,z3⟩;exact⟨xs.length-(i+1),by lia,rfl,t,z,E,M,I,L,z3⟩),λv C yd=>?_⟩
   obtain⟨z,b,r3⟩:=y3 v C yd
   have g23:=X.trans b
   have ZS:At B fG z [] C A:=⟨b.ok.nil,s2.mono b.ff (Zw ⟨b.ff,b.hh,b.ok.nil,b.nw⟩) b.hh⟩
   refine hg v xs[i] z [] C A _ ZS r3 λT R=>?_
   have s:∀{o q:Hp},bJ B z C [] o q->bJ B F' H' O o q/\ak B o (lo o [] q) q fG T []:=λ{o q} l=>⟨g23.trans (bJ.lift b.ok l),(R.grow l).2.le0 (hle xs[i])⟩
   rcases zP2 M P (aaz t) with⟨Y,rfl⟩|⟨y,Y,e2,rfl⟩
   ·refine hc xs[i] false Y z [] C T _ R λo q l=>m_ ?_
    obtain⟨I,L⟩:=s l
    exact⟨o,I,L,U.imp λ_ _=>Rp.mono (xN (b.trans (bJ.lift b.ok l)) md)⟩
   ·refine hc xs[i] true Y z [] C T _ R λo q l=>jW ?_
    refine he xs[i] y e2 o [] q T _ (R.grow l) λw F6 H6 g6 r6=>?_
    obtain⟨I,L⟩:=s (l.trans g6)
    exact⟨F6,I,L,(U.imp λ_ _=>Rp.mono (xN (b.trans (bJ.lift b.ok (l.trans g6))) md)).snoc r6⟩
  ·have e:i=xs.length:=by lia
   subst e
   rw[take_length,r] at P
   cases P
   exact .inl ⟨y1 (aa0 _),by lia,λp hp=>k p D h d (gr.trans X) hp U⟩
abbrev isF:Slot K->Bool
 |@Slot.fz _ false _ _ _=>true
 |_=>false
theorem zFm{as:SL K}(k:Nat)(a:as.all isF=true)(r:Ar F as vs):ak ⟨F,H⟩ F L' H (as++replicate k .un) (vs.map some++replicate k none) []:=by
 induction r with
 |nil =>
  show ak _ _ _ _ ([]++_) ([]++_) []
  induction k with
  |zero=>exact .nil
  |succ k ih=>exact .un ih
 |@cons n _ _ _ _ _ _ r _ ih =>
  rw[all_cons,abn] at a
  cases n with
  |false=>exact .fz r (ih a.2)
  |true=>grind
theorem Ar.len(r:Ar F as vs):vs.length=as.length:=by
 induction r with
 |nil=>rfl
 |cons _ _ ih=>grind
theorem zUf{A:Type}{as:A->SL K}{f:A->Option β}{N:List Str}(p:∀a,(as a).all isF=true)(k:∀a,(as a).length=i)(j:∀c a,SB ⟨c,H⟩ (as a++replicate (N.length-i) .un) t al (f a))(h:bY K al as f vs H Q E):t { nx:=λ_ H'=>Q .non H',rt:=Q } (L2.start N vs) H:=by
 obtain⟨a,b,c,s,d,r,q⟩:=h
 have e:L2.start N vs=vs.map some++replicate (N.length-i) none:=by
  unfold L2.start
  rw[r.len,k]
 rw[e]
 refine j c a b d c _ _ H ⟨c,[],.refl _,⟨s,.refl _,λb o h=>.inl h,λx l=>(by cases l),(by simp)⟩,zFm _ (p a) r⟩ (λv H' z=>q v H' z.1 z.2)
theorem zWz{A:Type}{as:A->SL K}{f:A->Option β}(c:∀a,(as a).length=d)(h:bY K al as f vs H Q E):vs.length=d:=by
 obtain⟨a,b,Fa,s,hfa,r,q⟩:=h
 rw[r.len,c]
end
open PySem.SeqAt (EqAt RcAt RcNeAt)
class Eqv (K:Frag) (α:Type) [Rp K α] [DecidableEq α] where
 dep:Nat
 det:∀{H:Hp}{v:V}{a b:α},rp K H v a->rp K H v b->a=b
 Gp:∀{X:Cx}{pins:List (Addr×Obj)}{σ:St}{H:Hp}{s:Shared},Inv X pins σ H s->∀{A:Around},A.units+dep<cLine->∀{v w:V}{u u':Value}{a b:α},rp K H v a->rp K H w b->RelV v u->RelV w u'->EqAt A s u u' (decide (a=b))
 T6:∀{X:Cx}{pins:List (Addr×Obj)}{σ:St}{H:Hp}{s:Shared},Inv X pins σ H s->∀{A:Around},A.units+dep<cLine->∀{v w:V}{u u':Value}{a b:α},rp K H v a->rp K H w b->RelV v u->RelV w u'->RcAt A s u u' (decide (a=b))
 T7:∀{X:Cx}{pins:List (Addr×Obj)}{σ:St}{H:Hp}{s:Shared},Inv X pins σ H s->∀{A:Around},A.units+dep<cLine->∀{v w:V}{u u':Value}{a b:α},rp K H v a->rp K H w b->RelV v u->RelV w u'->RcNeAt A s u u' (!decide (a=b))
section
variable{K:Frag}
theorem sO{α:Type}[BEq α][LawfulBEq α][DecidableEq α](a b:α):(a==b)=decide (a=b):=by
 grind
instance:Eqv K Int where
 dep:=0
 det h1 h2:=by cases h1;cases h2;rfl
 Gp _ _ _ _ _ _ _ _ _ h1 h2 r1 r2:=by cases h1;cases h2;obtain⟨t,rfl⟩:=r1;obtain⟨t',rfl⟩:=r2;rw[<-sO];exact EqAt.int_int _ _ _ _
 T6 _ _ _ _ _ _ _ _ _ h1 h2 r1 r2:=by cases h1;cases h2;obtain⟨t,rfl⟩:=r1;obtain⟨t',rfl⟩:=r2;rw[<-sO];exact RcAt.int_int _ _ _ _
 T7 _ _ _ _ _ _ _ _ _ h1 h2 r1 r2:=by cases h1;cases h2;obtain⟨t,rfl⟩:=r1;obtain⟨t',rfl⟩:=r2;rw[<-sO];exact RcNeAt.int_int _ _ _ _
instance:Eqv K Str where
 dep:=0
 det h1 h2:=by cases h1;cases h2;rfl
 Gp _ _ _ _ _ _ _ _ _ h1 h2 r1 r2:=by cases h1;cases h2;obtain⟨t,rfl⟩:=r1;obtain⟨t',rfl⟩:=r2;rw[<-sO];exact EqAt.str_str _ _ _ _
 T6 _ _ _ _ _ _ _ _ _ h1 h2 r1 r2:=by cases h1;cases h2;obtain⟨t,rfl⟩:=r1;obtain⟨t',rfl⟩:=r2;rw[<-sO];exact RcAt.str_str _ _ _ _
 T7 _ _ _ _ _ _ _ _ _ h1 h2 r1 r2:=by cases h1;cases h2;obtain⟨t,rfl⟩:=r1;obtain⟨t',rfl⟩:=r2;rw[<-sO];exact RcNeAt.str_str _ _ _ _
theorem A2.det{α β:Type}{R:α->β->Prop}(h:∀x y z,R x y->R x z->y=z):∀{xs:List α}{ys zs:List β},A2 R xs ys->A2 R xs zs->ys=zs
 |[],[],[],_,_=>rfl
 |_::_,_::_,_::_,h1,h2=>by rw[h _ _ _ h1.1 h2.1,A2.det h h1.2 h2.2]
 |[],_::_,_,h1,_=>h1.elim
 |[],[],_::_,_,h2=>h2.elim
 |_::_,[],_,h1,_=>h1.elim
 |_::_,_::_,[],_,h2=>h2.elim
theorem W4{α:Type}[DecidableEq α]:∀{xs ys:List α},xs.length=ys.length->((abd xs.length).all λj=>decide (xs[j]?=ys[j]?))=decide (xs=ys)
 |[],[],_=>by simp
 |x::xs,y::ys,h=>by
  have ih:=W4 (xs:=xs) (ys:=ys) (by simpa using h)
  rw[length_cons,range_succ_eq_map,all_cons,List.all_map]
  have e:((λj=>decide ((x::xs)[j]?=(y::ys)[j]?))∘Nat.succ)=λj=>decide (xs[j]?=ys[j]?):=by
   funext j
   simp
  rw[e,ih]
  by_cases h1:x=y<;>by_cases h2:xs=ys<;>simp[h1,h2]
 |[],_::_,h=>by simp at h
 |_::_,[],h=>by simp at h
theorem Rh{α:Type}[Rp K α]{xs:List α}(r:Vals vs us)(h:A2 (rp K H) vs xs)(j:Nat)(hj:j<us.toArray.size):∃v x,xs[j]?=some x/\rp K H v x/\RelV v us.toArray[j]:=by
 have l1:j<vs.length:=by rw[r.length];grind
 obtain⟨u,hu,ru⟩:=r.get (aaz l1)
 obtain⟨x,hx,rx⟩:=h.at1 (aaz l1)
 grind
theorem ZV{A:Around}:A.in1.units=A.units+1:=rfl
instance{α:Type}[Rp K α][DecidableEq α][Eqv K α]:Eqv K (List α) where
 dep:=Eqv.dep K α+1
 det {H v a b} h1 h2:=by
  obtain⟨p,vs,rfl,h1,r1⟩:=h1
  obtain⟨p',vs',e,h2,r2⟩:=h2
  cases e
  cases h1.symm.trans h2
  exact A2.det (R:=rp K H) (λ_ _ _ z1 z2=>Eqv.det (K:=K) z1 z2) r1 r2
 T6 {X pins σ H s} I {A} hu {v w u u' a b} h1 h2 q1 q2:=by
  obtain⟨p,vs,rfl,h1,r1⟩:=h1
  obtain⟨p',ws,rfl,h2,r2⟩:=h2
  cases q1;cases q2
  obtain⟨us,s1,p1,_⟩:=I.list (aZ.of h1)
  obtain⟨us',s2,p2,_⟩:=I.list (aZ.of h2)
  have n1:us.toArray.size=a.length:=by rw[size_toArray,<-r1.len];exact s1.length.symm
  have n2:us'.toArray.size=b.length:=by rw[size_toArray,<-r2.len];exact s2.length.symm
  by_cases hl:a.length=b.length
  ·have z:=RcAt.lists (e:=λj=>decide (a[j]?=b[j]?)) p1.isList p2.isList (by rw[n1,n2];exact hl) (aa7 (ab5 _ _) hu) (λj h1 h2=>by
    obtain⟨v,x,e1,e2,e3⟩:=Rh s1 r1 j h1
    obtain⟨w,y,f1,f2,f3⟩:=Rh s2 r2 j h2
    rw[e1,f1]
    have z:=Eqv.Gp (K:=K) I (A:=A.in1) (by rw[ZV];omega) e2 f2 e3 f3
    simpa using z)
   rw[n1,W4 hl] at z
   exact z
  ·rw[show decide (a=b)=false by simp;intro e;exact hl (by rw[e])]
   exact RcAt.lists_lengths p1.isList p2.isList (by rw[n1,n2];exact bne_iff_ne.mpr hl) (aa7 (ab5 _ _) hu)
 T7 {X pins σ H s} I {A} hu {v w u u' a b} h1 h2 q1 q2:=by
  obtain⟨p,vs,rfl,h1,r1⟩:=h1
  obtain⟨p',ws,rfl,h2,r2⟩:=h2
  cases q1;cases q2
  obtain⟨us,s1,p1,_⟩:=I.list (aZ.of h1)
  obtain⟨us',s2,p2,_⟩:=I.list (aZ.of h2)
  have n1:us.toArray.size=a.length:=by rw[size_toArray,<-r1.len];exact s1.length.symm
  have n2:us'.toArray.size=b.length:=by rw[size_toArray,<-r2.len];exact s2.length.symm
  by_cases hl:a.length=b.length
  ·have z:=RcNeAt.lists (e:=λj=>decide (a[j]?=b[j]?)) p1.isList p2.isList (by rw[n1,n2];exact hl) (aa7 (ab5 _ _) hu) (λj h1 h2=>by
    obtain⟨v,x,e1,e2,e3⟩:=Rh s1 r1 j h1
    obtain⟨w,y,f1,f2,f3⟩:=Rh s2 r2 j h2
    rw[e1,f1]
    have z:=Eqv.Gp (K:=K) I (A:=A.in1) (by rw[ZV];omega) e2 f2 e3 f3
    simpa using z)
   rw[n1,W4 hl] at z
   exact z
  ·rw[show decide (a=b)=false by simp;intro e;exact hl (by rw[e])]
   exact RcNeAt.lists_lengths p1.isList p2.isList (by rw[n1,n2];exact bne_iff_ne.mpr hl) (aa7 (ab5 _ _) hu)
 Gp {X pins σ H s} I {A} hu {v w u u' a b} h1 h2 q1 q2:=by
  obtain⟨p,vs,rfl,h1,r1⟩:=h1
  obtain⟨p',ws,rfl,h2,r2⟩:=h2
  cases q1;cases q2
  by_cases hp:p=p'
  ·subst hp
   cases h1.symm.trans h2
   rw[show a=b from A2.det (R:=rp K H) (λ_ _ _ z1 z2=>Eqv.det (K:=K) z1 z2) r1 r2]
   simp
   exact EqAt.same _
  ·refine EqAt.of_refs hp ?_
   obtain⟨us,s1,p1,_⟩:=I.list (aZ.of h1)
   obtain⟨us',s2,p2,_⟩:=I.list (aZ.of h2)
   have n1:us.toArray.size=a.length:=by rw[size_toArray,<-r1.len];exact s1.length.symm
   have n2:us'.toArray.size=b.length:=by rw[size_toArray,<-r2.len];exact s2.length.symm
   by_cases hl:a.length=b.length
   ·have z:=RcAt.lists (e:=λj=>decide (a[j]?=b[j]?)) p1.isList p2.isList (by rw[n1,n2];exact hl) (aa7 (ab5 _ _) hu) (λj h1 h2=>by
     obtain⟨v,x,e1,e2,e3⟩:=Rh s1 r1 j h1
     obtain⟨w,y,f1,f2,f3⟩:=Rh s2 r2 j h2
     rw[e1,f1]
     have z:=Eqv.Gp (K:=K) I (A:=A.in1) (by rw[ZV];omega) e2 f2 e3 f3
     simpa using z)
    rw[n1,W4 hl] at z
    exact z
   ·rw[show decide (a=b)=false by simp;intro e;exact hl (by rw[e])]
    exact RcAt.lists_lengths p1.isList p2.isList (by rw[n1,n2];exact bne_iff_ne.mpr hl) (aa7 (ab5 _ _) hu)
theorem zU3{α β:Type}[DecidableEq α][DecidableEq β](a b:α×β):((abd (min 2 2)).all (λj=>if j=0 then decide (a.1=b.1) else decide (a.2=b.2))&&((2:Nat)==2))=decide (a=b):=by
 obtain⟨a1,a2⟩:=a
 obtain⟨b1,b2⟩:=b
 by_cases h1:a1=b1<;>by_cases h2:a2=b2<;>simp[range_succ]
theorem vals2(h:Vals [v1,v2] us):∃u1 u2,us=[u1,u2]/\RelV v1 u1/\RelV v2 u2:=by
 cases h with
 |cons a1 h=>cases h with
  |cons a2 h=>cases h;grind
section
variable{α β:Type}[Rp K α][DecidableEq α][Eqv K α][Rp K β][DecidableEq β][Eqv K β]{X:Cx}{pins:List (Addr×Obj)}{σ:St}{H:Hp}{s:Shared}{A:Around}{a b:α×β}{p p':Addr}{v1 v2 w1 w2:V}
theorem zO6(I:Inv X pins σ H s)(hu:A.units+(Eqv.dep K α+Eqv.dep K β+1)<cLine)(r1:rp K H v1 a.1)(r2:rp K H v2 a.2)(z1:rp K H w1 b.1)(z2:rp K H w2 b.2)(a1:RelV v1 u1)(a2:RelV v2 u2)(b1:RelV w1 t1)(b2:RelV w2 t2) :
  ∀(j:Nat)(h1:j < #[u1,u2].size)(h2:j < #[t1,t2].size),EqAt A.in1 s #[u1,u2][j] #[t1,t2][j] (if j=0 then decide (a.1=b.1) else decide (a.2=b.2)):=by
 intro j h1 h2
 have hj:j=0\/j=1:=by
  grind
 rcases hj with rfl|rfl
 ·exact Eqv.Gp I (by grind) r1 z1 a1 b1
 ·exact Eqv.Gp I (by grind) r2 z2 a2 b2
theorem ZW(I:Inv X pins σ H s)(hu:A.units+(Eqv.dep K α+Eqv.dep K β+1)<cLine)(h1:H p=some (.tup [v1,v2]))(h2:H p'=some (.tup [w1,w2]))(r1:rp K H v1 a.1)(r2:rp K H v2 a.2)(z1:rp K H w1 b.1)(z2:rp K H w2 b.2) :
  RcAt A s (.ref p) (.ref p') (decide (a=b))/\RcNeAt A s (.ref p) (.ref p') (!decide (a=b)):=by
 obtain⟨us,s1,p1,_⟩:=I.tuple (.inl (.inl h1))
 obtain⟨us',s2,p2,_⟩:=I.tuple (.inl (.inl h2))
 obtain⟨u1,u2,rfl,a1,a2⟩:=vals2 s1
 obtain⟨t1,t2,rfl,b1,b2⟩:=vals2 s2
 have he:=zO6 (A:=A) I hu r1 r2 z1 z2 a1 a2 b1 b2
 have hu':A.units<cLine:=aa7 (ab5 _ _) hu
 have q1:=RcAt.tuples p1 p2 hu' he
 have q2:=RcNeAt.tuples p1 p2 hu' he
 rw[<-zU3]
 exact⟨q1,q2⟩
end
instance{α β:Type}[Rp K α][DecidableEq α][Eqv K α][Rp K β][DecidableEq β][Eqv K β]:Eqv K (α×β) where
 dep:=Eqv.dep K α+Eqv.dep K β+1
 det {H v a b} h1 h2:=by
  obtain⟨p,v1,v2,rfl,h1,r1,r2⟩:=h1
  obtain⟨p',w1,w2,e,h2,q1,q2⟩:=h2
  cases e
  cases h1.symm.trans h2
  exact Prod.ext (Eqv.det (K:=K) r1 q1) (Eqv.det (K:=K) r2 q2)
 T6 {X pins σ H s} I {A} hu {v w u u' a b} h1 h2 q1 q2:=by
  obtain⟨p,v1,v2,rfl,h1,r1,r2⟩:=h1
  obtain⟨p',w1,w2,rfl,h2,z1,z2⟩:=h2
  cases q1;cases q2
  exact(ZW I hu h1 h2 r1 r2 z1 z2).1
 T7 {X pins σ H s} I {A} hu {v w u u' a b} h1 h2 q1 q2:=by
  obtain⟨p,v1,v2,rfl,h1,r1,r2⟩:=h1
  obtain⟨p',w1,w2,rfl,h2,z1,z2⟩:=h2
  cases q1;cases q2
  exact(ZW I hu h1 h2 r1 r2 z1 z2).2
 Gp {X pins σ H s} I {A} hu {v w u u' a b} h1 h2 q1 q2:=by
  obtain⟨p,v1,v2,rfl,h1,r1,r2⟩:=h1
  obtain⟨p',w1,w2,rfl,h2,z1,z2⟩:=h2
  cases q1;cases q2
  by_cases hp:p=p'
  ·subst hp
   cases h1.symm.trans h2
   rw[show a=b from Prod.ext (Eqv.det (K:=K) r1 z1) (Eqv.det (K:=K) r2 z2)]
   simp
   exact EqAt.same _
  ·exact EqAt.of_refs hp (ZW I hu h1 h2 r1 r2 z1 z2).1
def Gq(K:Frag)(α:Type)[Rp K α][DecidableEq α](neg:Bool):R2:=λx y H Q=>∃a b:α,rp K H x a/\rp K H y b/\Q (.bl (if neg=true then !decide (a=b) else decide (a=b))) H
theorem vJ(K:Frag)(α:Type)[Rp K α][DecidableEq α][Eqv K α]{X:Cx}(hr:bR k X.A)(hd:Eqv.dep K α<=64:=by exact Nat.le_of_ble_eq_true rfl):lR X (compareOp .Eq) (Gq K α false):=by
 intro pins s σ H x y v u Q I rx ry h
 obtain⟨a,b,h1,h2,q⟩:=h
 exact Eqv.T6 I (by have:=hr.units;lia) h1 h2 rx ry _ _ _ _ ⟨.bl (decide (a=b)),H,I,rfl,q⟩
theorem T8(K:Frag)(α:Type)[Rp K α][DecidableEq α][Eqv K α]{X:Cx}(hr:bR k X.A)(hd:Eqv.dep K α<=64:=by exact Nat.le_of_ble_eq_true rfl):lR X (compareOp .NotEq) (Gq K α true):=by
 intro pins s σ H x y v u Q I rx ry h
 obtain⟨a,b,h1,h2,q⟩:=h
 exact Eqv.T7 I (by have:=hr.units;lia) h1 h2 rx ry _ _ _ _ ⟨.bl (!decide (a=b)),H,I,rfl,q⟩
variable{B:Bs}{sl:SL K}{md md1:Md}{α β:Type}[Rp K α][Rp K β]{t1 t2 t:TE}
theorem vK[DecidableEq α]{m1 m2:Option α}(h1:Ex B sl .hp t1 m1)(h2:Ex B sl .hp t2 m2):Ex B sl md (iQ (Gq K α false) t1 t2) (m1.bind λa=>m2.bind λb=>some (decide (a=b))) :=
 Ec (λa b c v w H Q e r1 r2 q=>by cases e;exact⟨a,b,r1,r2,q⟩) h1 h2
theorem T9[DecidableEq α]{m1 m2:Option α}(h1:Ex B sl .hp t1 m1)(h2:Ex B sl .hp t2 m2):Ex B sl md (iQ (Gq K α true) t1 t2) (m1.bind λa=>m2.bind λb=>some (!decide (a=b))) :=
 Ec (λa b c v w H Q e r1 r2 q=>by cases e;exact⟨a,b,r1,r2,q⟩) h1 h2
section
variable{m1 m2:Option Int}
theorem W5{g:Int->Int->V}{f:Int->Int->α}[Sc K α](hg:∀i j,g i j=Sc.val K (f i j))(h1:Ex B sl .hp t1 m1)(h2:Ex B sl .hp t2 m2):Ex B sl md (iQ (um g) t1 t2) (m1.bind λa=>m2.bind λb=>some (f a b)) :=
 Ec (λa b c v w H Q e r1 r2 q=>by cases r1;cases r2;exact⟨a,b,rfl,rfl,by grind⟩) h1 h2
theorem W6(h1:Ex B sl .hp t1 m1)(h2:Ex B sl .hp t2 m2):Ex B sl md (iQ (um λi j=>.int (i+j)) t1 t2) (m1.bind λa=>m2.bind λb=>some (a+b)):=W5 (λ_ _=>rfl) h1 h2
theorem JB(h1:Ex B sl .hp t1 m1)(h2:Ex B sl .hp t2 m2):Ex B sl md (iQ (um λi j=>.bl (decide (i<j))) t1 t2) (m1.bind λa=>m2.bind λb=>some (decide (a<b))):=W5 (λ_ _=>rfl) h1 h2
theorem W7(h1:Ex B sl .hp t1 m1)(h2:Ex B sl .hp t2 m2):Ex B sl md (iQ (um λi j=>.bl (decide (j<i))) t1 t2) (m1.bind λa=>m2.bind λb=>some (decide (b<a))):=W5 (λ_ _=>rfl) h1 h2
noncomputable def kJ(a b:Int):Option Int:=if 0<b then some (a%b) else none
noncomputable def n8(a b:Int):Option Int:=if 0<b/\b<1073741824 then some (a/b) else none
theorem Mx(h1:Ex B sl .hp t1 m1)(h2:Ex B sl .hp t2 m2):Ex B sl md (iQ (rI (λ_ j=>0<j) λi j=>.int (i%j)) t1 t2) (m1.bind λa=>m2.bind λb=>kJ a b) :=
 Ec (λa b c v w H Q e r1 r2 q=>by
  unfold kJ at e
  split at e
  case isFalse=>cases e
  rename_i hc
  cases e;cases r1;cases r2
  exact⟨a,b,rfl,rfl,hc,q⟩) h1 h2
theorem T_(h1:Ex B sl .hp t1 m1)(h2:Ex B sl .hp t2 m2):Ex B sl md (iQ (rI Ld λi j=>.int (i/j)) t1 t2) (m1.bind λa=>m2.bind λb=>n8 a b) :=
 Ec (λa b c v w H Q e r1 r2 q=>by
  unfold n8 at e
  split at e
  case isFalse=>cases e
  rename_i hc
  cases e;cases r1;cases r2
  exact⟨a,b,rfl,rfl,hc,q⟩) h1 h2
end
theorem A2.aU(h:A2 R vs xs)(e:L2.aU xs i=some a):∃v,L2.aU vs i=some v/\R v a:=by
 unfold L2.aU at e ⊢
 rw[h.len]
 cases q:yc xs.length i with
 |none=>grind
 |some j=>rw[q] at e;exact h.at2 e
theorem yT{m1:Option (List α)}{m2:Option Int}(h1:Ex B sl md t1 m1)(h2:Ex B sl .hp t2 m2):Ex B sl md (iQ (uw K) t1 t2) (m1.bind λxs=>m2.bind λi=>L2.aU xs i):=λc hc F O H σ Q s k=>by
 obtain⟨xs,i,e1,e2,e3⟩:=sI hc
 refine h1 xs e1 F O H σ _ s λv F' H' g r1=>?_
 refine h2 i e2 F' O H' σ _ (s.grow g) λw F2 H2 g2 r2=>?_
 cases r2
 obtain⟨p,vs,rfl,z1,z2⟩:=r1
 obtain⟨u,y1,y2⟩:=z2.aU e3
 have hle:=(match md with
  |.nw=>aV.trans g.ok.fh
  |.fz=>g.ok.fh
  |.hp=>.refl _:Same (reg B F' H' md) H').trans g2.hh
 exact⟨p,vs,i,u,rfl,rfl,aZ.of (hle _ _ z1),y1,k u F2 H2 (g.trans g2) (Rp.mono (xN g2 md) y2)⟩
theorem Mz{n:Bool}{xs:List α}{m2:Option Int}(i:Nat)(hs:sl[i]?=some (.ow n xs))(h2:Ex B sl .hp t2 m2):Ex B sl (fu n) (iQ (uw K) (cP i) t2) (m2.bind λi=>L2.aU xs i):=λc hc F O H σ Q s k=>by
 cases m2 with
 |none=>cases hc
 |some j =>
  obtain⟨O1,O2,p,vs,rfl,y1,y2,_⟩:=s.2.qC hs
  refine⟨_,y1,?_⟩
  refine h2 j rfl F _ H σ _ s λw F2 H2 g2 r2=>?_
  cases r2
  obtain⟨u,z1,z2⟩:=y2.aU hc
  exact⟨p,vs,j,u,rfl,rfl,aZ.of (g2.hh _ _ s.1.one.2.2),z1,k u F2 H2 g2 (Rp.mono (xN g2 (fu n)) z2)⟩
abbrev MF(K:Frag):List V->Hp->VK->Prop:=λxs H Q=>∃p ys,xs=[.ref p]/\(aZ K H p ys\/cF K H p ys)/\Q (.int ys.length) H
theorem uW{m:Option (List α)}(h:Ex B sl .hp t m):Ex B sl md (xu (MF K) (yW t bI)) (m.bind λxs=>some (xs.length:Int)):=λc hc F O H σ Q s k=>by
 cases m with
 |none=>cases hc
 |some xs =>
  cases(hc)
  refine h xs rfl F O H σ _ s λv F' H' g r1=>?_
  obtain⟨p,vs,rfl,z1,z2⟩:=r1
  exact⟨p,vs,rfl,.inl (aZ.of z1),k _ F' H' g (by show V.int vs.length=V.int xs.length;rw[z2.len])⟩
abbrev Cj(K:Frag):List V->Hp->VK->Prop:=λxs H Q=>∃p ys,xs=[V.ref p]/\(aZ K H p ys\/cF K H p ys)/\∀l,H l=none->Q (.ref l) (upd H l (.lst ys))
theorem A2.sc{F F':Hp}[Sc K α]{vs:List V}{xs:List α}(h:A2 (rp K F) vs xs):A2 (rp K F') vs xs:=h.imp λ_ _=>WX
theorem Gs[Sc K α]{m:Option (List α)}(h:Ex B sl .hp t m):Eo B sl md (xu (Cj K) (yW t bI)) m:=λc hc F O H σ Q s k=>by
 refine h c hc F O H σ _ s λv F' H' g r1=>?_
 obtain⟨p,vs,rfl,z1,z2⟩:=r1
 exact⟨p,vs,rfl,.inl (aZ.of z1),λl hl=>k l vs F' H' g hl z2.sc⟩
class Fl (K:Frag) (α:Type) [Rp K α] [Sc K α] [DecidableEq α]:Prop where
 flat:∀a:α,DY (Sc.val K a)=true
 eq:∀a b:α,D_ (Sc.val K a) (Sc.val K b)=decide (a=b)
instance:Fl K Int:=⟨λ_=>rfl,λa b=>by show(a==b)=_;exact sO a b⟩
instance:Fl K Str:=⟨λ_=>rfl,λa b=>by show(a==b)=_;exact sO a b⟩
theorem A2.vals[Sc K α]:∀{vs:List V}{xs:List α},A2 (rp K F) vs xs->vs=xs.map (Sc.val K)
 |[],[],_=>rfl
 |_::_,_::_,h=>by rw[map_cons,Sc.is.mp h.1,A2.vals h.2]
 |[],_::_,h=>h.elim
 |_::_,[],h=>h.elim
theorem W8[Sc K α][DecidableEq α][Fl K α](a:α):∀xs:List α,inV (Sc.val K a) (xs.map (Sc.val K))=decide (a∈xs)
 |[]=>by simp[inV]
 |x::xs=>by
  have ih:=W8 a xs
  unfold inV at ih ⊢
  rw[map_cons,any_cons,Fl.eq]
  grind
theorem ZX[Sc K α][DecidableEq α][Fl K α](xs:List α):(xs.map (Sc.val K)).all DY=true:=by
 rw[List.all_map,all_eq_true]
 intro x _
 exact Fl.flat x
theorem yj[Sc K α][DecidableEq α][Fl K α]{m1:Option α}{m2:Option (List α)}(h1:Ex B sl .hp t1 m1)(h2:Ex B sl .hp t2 m2):Ex B sl md (iQ (LR K false) t1 t2) (m1.bind λa=>m2.bind λxs=>some (decide (a∈xs))) :=
 Ec (λa b c v w H Q e r1 r2 q=>by
  cases e
  obtain⟨p,vs,rfl,z1,z2⟩:=r2
  have ev:=Sc.is.mp r1
  have es:=z2.vals
  subst ev es
  refine⟨p,_,rfl,.inl (aZ.of z1),Fl.flat a,ZX b,?_⟩
  have:=W8 (K:=K) a b
  rw[this]
  exact q) h1 h2
theorem zXn[Sc K α][DecidableEq α][Fl K α]{m1:Option α}{m2:Option (List α)}(h1:Ex B sl .hp t1 m1)(h2:Ex B sl .hp t2 m2):Ex B sl md (iQ (LR K true) t1 t2) (m1.bind λa=>m2.bind λxs=>some (!decide (a∈xs))) :=
 Ec (λa b c v w H Q e r1 r2 q=>by
  cases e
  obtain⟨p,vs,rfl,z1,z2⟩:=r2
  have ev:=Sc.is.mp r1
  have es:=z2.vals
  subst ev es
  refine⟨p,_,rfl,.inl (aZ.of z1),Fl.flat a,ZX b,?_⟩
  have:=W8 (K:=K) a b
  rw[this]
  exact q) h1 h2
theorem W9{m:Option (Option α)}(h:Ex B sl .hp t m):Ex B sl md (SJ t) (m.bind λa=>some a.isNone):=λc hc F O H σ Q s k=>by
 cases m with
 |none=>cases hc
 |some a =>
  cases(hc)
  refine h a rfl F O H σ _ s λv F' H' g r1=>?_
  cases a with
  |none=>cases r1;exact k _ F' H' g rfl
  |some x=>rw[decide_eq_false r1.1];exact k _ F' H' g rfl
theorem Gu{m:Option (Option α)}(h:Ex B sl .hp t m):Ex B sl md (Jh t) (m.bind λa=>some a.isSome):=λc hc F O H σ Q s k=>by
 cases m with
 |none=>cases hc
 |some a =>
  cases(hc)
  refine h a rfl F O H σ _ s λv F' H' g r1=>?_
  cases a with
  |none=>cases r1;exact k _ F' H' g rfl
  |some x=>rw[decide_eq_false r1.1];exact k _ F' H' g rfl
theorem Z0{m:Option (Option α)}(h:Ex B sl md t m):Ex B sl md t (m.bind λa=>a):=λc hc F O H σ Q s k=>by
 cases m with
 |none=>cases hc
 |some a =>
  cases a with
  |none=>cases hc
  |some x =>
   have e:=aa5 hc
   subst e
   exact h (some x) rfl F O H σ _ s λv F' H' g r1=>k v F' H' g r1.2
class Ty (K:Frag) (α:Type) [Rp K α] where
 ty:Value
 is:∀{H:Hp}{v:V}{a:α},rp K H v a->kE K H v ty
instance:Ty K Int:=⟨.type "int",λh=>by cases h;exact .int _⟩
instance:Ty K Str:=⟨.type "str",λh=>by cases h;exact .str _⟩
instance:Ty K (List α):=⟨.type "list",λ⟨p,vs,e,h,_⟩=>by rw[e];exact .lst h⟩
theorem Ri[Ty K α]{c:Value}{y:V}{b:Bool}{m:Option α}(hb:kitOne K (Ty.ty K α) c=some b)(hy:RelV y c)(h:Ex B sl .hp t m):Ex B sl md (xu (Gg K c) (yW t (yW (tC y) bI))) (m.bind λ_=>some b):=λd hd F O H σ Q s k=>by
 cases m with
 |none=>cases hd
 |some a =>
  cases(show some b=some d from hd)
  refine h a rfl F O H σ _ s λv F' H' g r1=>?_
  exact⟨v,y,_,b,rfl,hy,Ty.is r1,hb,k _ F' H' g rfl⟩
end
def src(xss:List LI)(j:Nat):LI:=((abd xss.length).filter λk=>decide ((j:Int)∈xss.getD k [])).map ade
theorem jP{α:Type}{p q:α->Bool}:∀{l:List α},(∀x∈l,p x=q x)->l.filter p=l.filter q
 |[],_=>rfl
 |a::l,h=>by
  rw[filter_cons,filter_cons,h a mem_cons_self,jP λx b=>h x (mem_cons_of_mem _ b)]
theorem zUd(xss:List LI)(xs:LI)(j:Nat):src (xss++[xs]) j=src xss j++(if(j:Int)∈xs then[(xss.length:Int)] else[]):=by
 unfold src
 rw[length_append,length_singleton,range_succ,List.filter_append,map_append]
 congr 1
 ·congr 1
  refine jP λk hk=>?_
  grind
 grind
theorem zUc{xss:List LI}{i:Nat}{xs:LI}(h:xss[i]?=some xs)(j:Nat):src (xss.take (i+1)) j=src (xss.take i) j++(if(j:Int)∈xs then[(i:Int)] else[]):=by
 have a:=(aa8.mp h).1
 rw[take_add_one,h]
 have e:(some xs:Option LI).toList=[xs]:=rfl
 rw[e,zUd,length_take,Nat.min_eq_left (acv a)]
theorem Gv(xss:List LI)(j:Nat):(src xss j).length<=xss.length:=by
 unfold src
 grind
theorem int_at{ns:LI}{i:Nat}{y:V}(h:(ns.map V.int)[i]?=some y):∃z,y=.int z/\ns[i]?=some z:=by
 rw[getElem?_map] at h
 cases e:ns[i]? with
 |none=>rw[e] at h;cases h
 |some z=>rw[e] at h;exact⟨z,(aa5 h).symm,rfl⟩
theorem Ck{bs:List Addr}{i:Nat}{y:V}(h:(bs.map V.ref)[i]?=some y):∃b,y=.ref b/\bs[i]?=some b:=by
 rw[getElem?_map] at h
 cases e:bs[i]? with
 |none=>rw[e] at h;cases h
 |some z=>rw[e] at h;exact⟨z,(aa5 h).symm,rfl⟩
theorem Gw{bs:List Addr}{i:Nat}{b:Addr}(h:bs[i]?=some b):(bs.map V.ref)[i]?=some (.ref b):=by rw[getElem?_map,h]<;>rfl
theorem xQ{α:Type}{xs:List α}{x:α}(h:xs[i]?=some x):i<xs.length:=(aa8.mp h).1
theorem zSh{i:Nat}(h:i<1920):((i:Int)).natAbs.log2<1920:=by
 exact aa7 (Nat.log2_le_self i) h
theorem zHl{ns:LI}(nd:ns.Nodup)(h:ns[i]?=some z):¬z∈ns.take i:=λhz=>by
 obtain⟨j,hj⟩:=mem_iff_getElem?.mp hz
 have hji:j<i:=by
  have:=xQ hj
  rw[length_take] at this
  omega
 rw[getElem?_take_of_lt hji] at hj
 have hi:=xQ h
 have hjl:=xQ hj
 rw[aaz hi] at h
 rw[aaz hjl] at hj
 have e:ns[j]=ns[i]:=(aa5 hj).trans (aa5 h).symm
 have:=(getElem_inj nd).mp e
 omega
theorem W_{α:Type}{ns:List α}{z x:α}(h:ns[i]?=some z):x∈ns.take (i+1)↔x∈ns.take i\/x=z:=by
 rw[take_add_one,h]
 simp
def sS(K:Frag)(H:Hp)(bs:List Addr)(xss:List LI):Prop:=bs.length=xss.length/\∀(i:Nat)(b:Addr),bs[i]?=some b->∃c:LI,xss[i]?=some c/\aZ K H b (c.map V.int)
theorem sS.same(r:sS K H bs xss)(s:Same H H'):sS K H' bs xss:=⟨r.1,λi b h=>let⟨d,a,c⟩:=r.2 i b h;⟨d,a,s.seq c⟩⟩
def Xa(n:Nat)(xss:List LI):Prop:=xss.length=n/\∀a∈xss,a≠[]/\a.Nodup/\a.length<=100/\∀z∈a,0<=z/\z<(n:Int)
def sV(H:Hp)(b:List Addr)(a:Nat->LI):Prop:=∀(j:Nat)(c:Addr),b[j]?=some c->H c=some (.lst ((a j).map V.int))
structure Bl(K:Frag)(mg:Str->Option Value):Prop where
 len:mg "len" = none
 range:mg "range" = none
 qD:mg "isinstance" = none
 int:mg "int" = none
 bool:mg "bool" = none
 list:mg "list" = none
 enum:mg "enumerate" = none
 ii:kitOne K (.type "int") (.type "int")=some true
 ib:kitOne K (.type "int") (.type "bool")=some false
 ll:kitOne K (.type "list") (.type "list")=some true
theorem Ua:kitOne K (.type "int") (.type "int")=some true:=rfl
theorem Ub:kitOne K (.type "list") (.type "list")=some true:=rfl
theorem Uc:kitOne K (.type "int") (.type "bool")=some false:=by
 first|rfl|grind
theorem uC:bootBuiltins "isinstance" = some (.builtin "isinstance"):=by decide +kernel
theorem Z1:bootBuiltins "int" = some (.type "int"):=by decide +kernel
theorem zTm:bootBuiltins "bool" = some (.type "bool"):=by decide +kernel
theorem Ej:bootBuiltins "list" = some (.type "list"):=by decide +kernel
structure News(H H':Hp)(cs:List Addr)(xss:List (List V)):Prop where
 len:cs.length=xss.length
 at_:∀(i:Nat)(c:Addr),cs[i]?=some c->∃xs,xss[i]?=some xs/\H' c=some (.lst xs)
 new:∀c∈cs,H c=none
 nd:cs.Nodup
theorem News.nil:News H H' [] []:=⟨rfl,λi c h=>(by simp at h),λc h=>(by cases h),List.nodup_nil⟩
theorem News.snoc(n:News H H1 cs xss)(s:Same H H1)(h:H1 l=none):News H (upd H1 l (.lst xs)) (cs++[l]) (xss++[xs]):=by
 have hl:∀c∈cs,c≠l:=λc hc e=>by
  obtain⟨i,hi⟩:=mem_iff_getElem?.mp hc
  obtain⟨ys,_,q⟩:=n.at_ i c hi
  rw[e,h] at q
  cases q
 refine⟨by rw[length_append,length_append,n.len]<;>rfl,λi c hc=>?_,λc hc=>?_,?_⟩
 ·by_cases hi:i<cs.length
  ·rw[getElem?_append_left hi] at hc
   obtain⟨ys,h1,h2⟩:=n.at_ i c hc
   refine⟨ys,?_,?_⟩
   ·rw[getElem?_append_left (by rw[<-n.len];exact hi)];exact h1
   ·rw[zT (hl c (mem_of_getElem? hc))];exact h2
  ·rw[getElem?_append_right (by omega)] at hc
   have hi2:i-cs.length=0:=by
    have:=xQ hc
    simp at this
    omega
   rw[hi2] at hc
   have e:l=c:=aa5 hc
   subst e
   refine⟨xs,?_,zM⟩
   rw[getElem?_append_right (by rw[<-n.len];omega),<-n.len,hi2]<;>rfl
 ·rcases mem_append.mp hc with hc|hc
  ·exact n.new c hc
  ·rw[mem_singleton.mp hc];exact s.free h
 ·rw[nodup_append]
  refine⟨n.nd,by simp,λa ha b hb e=>?_⟩
  rw[mem_singleton.mp hb] at e
  exact hl a ha e
theorem News.Ud(n:News H H' c xss)(h:H' r=none):r∉c:=λb=>by
 obtain⟨i,a⟩:=mem_iff_getElem?.mp b
 obtain⟨ys,_,q⟩:=n.at_ i r a
 grind
structure aF(C:Addr) where
 steps:List LI
 marks:List (Str×LI)
 fair:List LI
 sources:List LI
def Z2:List Str:=["many","next_of","before","marked","fair_at","names_at"]
def srcs(xss:List LI):List LI:=(abd xss.length).map (src xss)
def hid(H:Hp)(p:Addr):Hp:=λb=>if b=p then none else H b
section
variable{K:Frag}{C:Addr}
instance:Rp K (aF C):=⟨λF v m=>∃p dx fs vS vM vF vB,v=.ref p/\F p=some (.ins C dx fs)/\fs.lookup ("steps":Str)=some vS/\rp K F vS m.steps/\fs.lookup ("marks":Str)=some vM/\rp K F vM m.marks/\fs.lookup ("fair":Str)=some vF/\rp K F vF m.fair /\
 fs.lookup ("sources":Str)=some vB/\rp K F vB m.sources/\∀g∈Z2,fs.lookup g=none,
 λs h=>by
  obtain⟨p,dx,fs,vS,vM,vF,vB,h1,h2,h3,h4,h5,h6,h7,h8,h9,h10,h11⟩:=h
  exact⟨p,dx,fs,vS,vM,vF,vB,h1,s _ _ h2,h3,Rp.mono s h4,h5,Rp.mono s h6,h7,Rp.mono s h8,h9,Rp.mono s h10,h11⟩⟩
theorem Cm(ns:LI):A2 (rp K F) (ns.map V.int) ns:=A2.of_map (f:=V.int) (λ_=>rfl) ns
theorem zTp:∀{cs:List Addr}{xss:List LI},cs.length=xss.length->(∀(i:Nat)(c:Addr),cs[i]?=some c->∃xs,xss[i]?=some xs/\F c=some (.lst (xs.map V.int)))->A2 (rp K F) (cs.map V.ref) xss
 |[],[],_,_=>trivial
 |c::cs,xs::xss,hl,h=>by
  obtain⟨ys,e1,e2⟩:=h 0 c rfl
  cases e1
  exact⟨⟨c,_,rfl,e2,Cm _⟩,zTp (by simpa using hl) λi c' hc=>h (i+1) c' hc⟩
 |[],_::_,hl,_=>by simp at hl
 |_::_,[],hl,_=>by simp at hl
theorem zQ3{xss:List LI}(h:i<xss.length):(srcs xss)[i]?=some (src xss i):=by
 unfold srcs
 rw[getElem?_map,getElem?_range h]
 rfl
theorem Gx{a:List Addr}{xss:List LI}(d:a.length=xss.length)(n:sV H' a (src xss))(h:∀c∈a,∀o,H' c=some o->D c=some o):A2 (rp K D) (a.map V.ref) (srcs xss):=by
 refine zTp (by rw[d];unfold srcs;simp) λi c b=>?_
 have hi:=xQ b
 exact⟨_,zQ3 (by lia),h c (mem_of_getElem? b) _ (n i c b)⟩
end
section
variable{K:Frag}{B:Bs}{F H F' H' G:Hp}{O:Own}{sl:SL K}{σ:St}{md:Md}{α β:Type}[Rp K α][Rp K β]{te ta:TE}{C:Addr}
theorem Xb{d:aF C->α}(cl:Cls K C)(i:bK K C f)(j:∀(R:Hp) (v:V) (x:aF C),rp K R v x->∃p b fs w,v=.ref p/\R p=some (.ins C b fs)/\fs.lookup f=some w/\rp K R w (d x))(h:Ex B sl md ta m) :
  Ex B sl md (qY K ta f) (m.bind λx=>some (d x)):=λc e F O H σ Q s k=>by
 cases m with
 |none=>cases e
 |some x =>
  cases(e)
  refine h x rfl F O H σ _ s λv F' H' g r=>?_
  obtain⟨p,b,fs,w,rfl,l,o,n⟩:=j _ v x r
  have a:Same (reg B F' H' md) H':=match md with
   |.nw=>aV.trans g.ok.fh
   |.fz=>g.ok.fh
   |.hp=>.refl _
  exact⟨p,C,b,fs,w,rfl,a _ _ l,cl,i,o,k w F' H' g n⟩
theorem Z4{m:Option (aF C)}(cl:Cls K C)(g:bK K C "steps")(h:Ex B sl md ta m):Ex B sl md (qY K ta "steps") (m.bind λx=>some x.steps) :=
 Xb cl g (by rintro R v x ⟨p,b,c,a,vM,vF,vB,e,i,f,d,_⟩;exact⟨p,b,c,a,e,i,f,d⟩) h
theorem zKo{m:Option (aF C)}(cl:Cls K C)(f:bK K C "marks")(h:Ex B sl md ta m):Ex B sl md (qY K ta "marks") (m.bind λx=>some x.marks) :=
 Xb cl f (by rintro R v x ⟨p,b,c,vS,i,vF,vB,e,g,_,_,a,d,_⟩;exact⟨p,b,c,i,e,g,a,d⟩) h
theorem Z5{m:Option (aF C)}(cl:Cls K C)(g:bK K C "fair")(h:Ex B sl md ta m):Ex B sl md (qY K ta "fair") (m.bind λx=>some x.fair) :=
 Xb cl g (by rintro R v x ⟨p,b,c,vS,vM,d,vB,f,i,_,_,_,_,a,e,_⟩;exact⟨p,b,c,d,f,i,a,e⟩) h
theorem zMc{m:Option (aF C)}(cl:Cls K C)(g:bK K C "sources")(h:Ex B sl md ta m):Ex B sl md (qY K ta "sources") (m.bind λx=>some x.sources) :=
 Xb cl g (by rintro R v x ⟨p,i,c,vS,vM,vF,e,f,b,_,_,_,_,_,_,d,a,_⟩;exact⟨p,i,c,e,f,b,d,a⟩) h
theorem Gy{A:Type}{as:A->SL K}{f:aF C×A->Option β}{e:Option A}(z:g∈Z2)(h0:Ex B sl .hp ta k)(h:Ea B sl .hp t as e) :
  Ex B sl md (Td C g (bY K false (λx:aF C×A=>.fz false x.1::as x.2) f) [] E0 ta t) (k.bind λx=>e.bind λa=>f (x,a)):=λc i F O H σ Q s u=>by
 cases k with
 |none=>cases i
 |some x =>
  cases e with
  |none=>cases i
  |some a =>
   refine h0 x rfl F O H σ _ s λv w J l q=>?_
   obtain⟨p,y,E,vS,vM,vF,vB,rfl,I,h3,h4,h5,h6,h7,h8,h9,h10,d⟩:=id q
   refine⟨p,y,E,rfl,I,d g z,?_⟩
   refine h a rfl w O J σ _ (s.grow l) λvs F' H' b r=>?_
   rw[append_nil]
   refine⟨(x,a),c,H',.refl _,i,.cons (Rp.mono b.hh q) r,λv D n L=>?_⟩
   have o:=b.ok.called n
   refine u v _ D (l.trans (b.trans o)) ?_
   have j:=Rp.mono (Jy (F:=F') b.ok.h0 n) L
   exact match md with
   |.nw=>j
   |.fz=>Rp.mono aV j
   |.hp=>Rp.mono (aV.trans o.ok.fh) j
noncomputable def En(B:Bs)(sl:SL K)(t:TE){α:Type}[Rp K α](m:Option α):Prop :=
 ∀a,m=some a->∀(F:Hp)(O:Own)(H:Hp)(σ:St)(Q:VK),At B sl F O H σ->(∀(v:V)(F' c b:Hp),bJ B F H O F' c->Same c b->rp K (dif b c) v a->Q v b)->t σ H Q
theorem Gz{A:Type}{as:A->SL K}{f:A->Option β}{ta:TA}{b:Option A}(h:Ea B sl .hp ta as b):En B sl (Bh (bY K false as f) [] E0 ta) (b.bind f):=λc d F O H σ Q s e=>by
 cases b with
 |none=>cases d
 |some a =>
  refine h a rfl F O H σ _ s λvs F' H' g r=>?_
  rw[append_nil]
  exact⟨a,c,H',.refl _,d,r,λv j k i=>e v F' H' j g k i⟩
theorem En.ex{m:Option α}(h:En B sl te m):Ex B sl md te m:=λc f F O H σ Q s e=>h c f F O H σ Q s λv F' H1 i g b j=>by
 have d:=g.ok.called b
 refine e v _ i (g.trans d) ?_
 have a:=Rp.mono (Jy (F:=F') g.ok.h0 b) j
 exact match md with
 |.nw=>a
 |.fz=>Rp.mono aV a
 |.hp=>Rp.mono (aV.trans d.ok.fh) a
class IsL (K:Frag) (α:Type) [Rp K α]:Prop where
 il:∀{F:Hp}{v:V}{a:α},rp K F v a->∃p vs,v=.ref p/\F p=some (.lst vs)
instance(n:Nat)(xss:List LI):Decidable (Xa n xss):=by unfold Xa;infer_instance
theorem zW0{s:Slot K}(i:Nat)(b:sl[i]?=some (.fz n x))(h:Ex B sl .hp te m):Sn B sl (S7 i te (Wo f)) (λa=>sl.set i (.fz true a)) (m.bind λy=>some (f x y)):=λa d G D σ H s k=>by
 cases m with
 |none=>cases d
 |some y =>
  cases(d)
  obtain⟨F,O,g,z⟩:=s
  obtain⟨v,j,e⟩:=z.2.sH b
  subst e
  refine⟨_,j,h y rfl F O H σ _ z λw F' H' c r=>?_⟩
  cases r
  exact⟨x,y,rfl,rfl,k _ _ (Sg.set (g.trans c.ff) (z.grow c) b rfl rfl)⟩
end
section
variable{K:Frag}{X:Cx}
theorem u5(K:Frag)(h:X.K=K:=by rfl):lR X (compareOp .In) (LR K false):=by subst h;exact zRx
theorem zRu(K:Frag)(h:X.K=K:=by rfl):lR X (compareOp .NotIn) (LR K true):=by subst h;exact zJ3
theorem aO(K:Frag)(h:X.K=K:=by rfl):Tq X (uw K):=by subst h;exact vG
theorem qZ(K:Frag)(h:X.K=K:=by rfl):Tq X (ux K):=by subst h;exact DX
theorem uA(K:Frag)(h:X.K=K:=by rfl):xr X (.builtin "len") (MF K):=by subst h;exact uQ
theorem GD(K:Frag)(h:X.K=K:=by rfl):xr X (.type "list") (Cj K):=by subst h;exact zKz
theorem uB(K:Frag)(a:∀y u,RelV y c->RelV y u->u=c)(h:X.K=K:=by rfl):xr X (.builtin "isinstance") (Gg K c):=by subst h;exact zWj a
theorem Cp(K:Frag)(b:PE X e c)(h:X.K=K:=by rfl)(a:attributeBase e f X.env (eval e X.env)=eval e X.env:=by rfl):PE X (.Attribute e f pos) (qY K c f):=by subst h;exact Ww b a
theorem yL(K:Frag)(b:PE X l a)(h:X.K=K:=by rfl):PI X tg l (Bv K a):=by subst h;exact YC b
theorem Z6(K:Frag)(b:X.mg "enumerate" = none)(f:PA X [a] c)(h:X.K=K:=by rfl)(e:Gl X "enumerate":=by rfl)(d:starEach [a] X.env=[(false,eval a X.env)]:=by rfl) :
  PI X (.Tuple elts k tp) (.Call (.Name "enumerate" p) [a] [] pos) (B_ K c):=by subst h;exact zRp e b f d
theorem Bk(K:Frag){o e:Expr}{es:List Expr}{k:TE}{t:TA}{name:Str}{c a:Pos}{T id:String}{r:V->List V->Hp->VK->Prop}(n:PlainAttrs T)(g:PySem.Slot T name id)(j:typeOf (.builtin id)=pure (.type "method_descriptor"))(m:Tw X id r)(l:PE X o k)(q:PA X (e::es) t)(h:X.K=K:=by rfl)(f:attributeBase o name X.env (eval o X.env)=eval o X.env:=by rfl)(i:((backTo a (starEach (e::es) X.env)).all (λx=>!x.1)&&(backToKw a (keywordEach [] X.env)).all (λx=>x.1.isSome)
   && decide ((e::es).length+([]:List Keyword).length+(if([]:List Keyword).isEmpty then 0 else 1)<30))=true:=by rfl)(d:(c.endLine==a.line)=true:=by rfl)(p:starEach (e::es) X.env=(false,eval e X.env)::starEach es X.env:=by rfl)(b:(backTo a (starEach es X.env)).any (·.1)=false:=by rfl) :
  PE X (.Call (.Attribute o name c) (e::es) [] a) (QX K T r k t):=by subst h;exact BR n g j m l q f i d p b
theorem MJ(K:Frag){o:Expr}{g:TE}{name:Str}{b a:Pos}{T id:String}{r:V->List V->Hp->VK->Prop}(i:PlainAttrs T)(e:PySem.Slot T name id)(f:typeOf (.builtin id)=pure (.type "method_descriptor"))(k:Tw X id r)(j:PE X o g)(h:X.K=K:=by rfl)(d:attributeBase o name X.env (eval o X.env)=eval o X.env:=by rfl)(c:(b.endLine==a.line)=true:=by rfl):PE X (.Call (.Attribute o name b) [] [] a) (L_ K T r g):=by subst h;exact Ma i e f k j d c
theorem MN:bootBuiltins "any" = some (.builtin "any"):=by decide +kernel
theorem M4:bootBuiltins "all" = some (.builtin "all"):=by decide +kernel
theorem Z7:bootBuiltins "sorted" = some (.builtin "sorted"):=by decide +kernel
theorem u_:Et B sl zu (some true):=λa b F O H σ Q s k=>by cases b;exact k F H (.refl s.1)
theorem GF{α:Type}:∀c:List α,some []=some c->c.length<=0:=λc h=>by grind
theorem uP{α:Type}{m:Option α}{ma:Option (List α)}(h:∀b,ma=some b->b.length<=n):∀c,(m.bind λa=>ma.bind λb=>some (a::b))=some c->c.length<=n+1:=λc e=>by
 cases m with
 |none=>cases e
 |some a =>
  cases ma with
  |none=>cases e
  |some b=>cases e;exact acp (h b rfl)
theorem bnd{α β:Type}(a:α)(f:α->Option β):(some a).bind f=f a:=(λ(x:Option α) (e:x=some a)=>by grind:∀x,x=some a->x.bind f=f a) _ rfl
def fuel:Nat:=100000
structure bw(P:Program)(w:World)(K:Frag)(mg:Str->Option Value)(base:Heap)(k:Nat)(x:Str)(ps:List Str)(sp:Sp):Prop where
 ex:∃f fd,aq P w K mg base aN k f fd ps sp/\Binds K fd ps []/\keepIn K (.ref f)=true/\mg x=some (.ref f)
structure gH(P:Program)(w:World)(K:Frag)(mg:Str->Option Value)(base:Heap)(k:Nat)(C:Addr)(m:Str)(ps:List Str)(sp:Sp):Prop where
 ex:∃f fd,aq P w K mg base aN k f fd ps sp/\Binds K fd ps []/\Meth K C m f
 cl:Cls K C
theorem bw.mono(c:bw P w K mg base j x ps sp)(h:j<=k):bw P w K mg base k x ps sp:=by
 obtain⟨f,d,a,b⟩:=c.ex
 exact⟨f,d,a.mono h,b⟩
theorem gH.mono(c:gH P w K mg base j C x ps sp)(h:j<=k):gH P w K mg base k C x ps sp:=by
 obtain⟨f,d,a,b⟩:=c.ex
 exact⟨⟨f,d,a.mono h,b⟩,c.cl⟩
theorem zY(c:bw X.prog X.w X.K X.mg X.base k x ps sp)(i:bR k X.A)(m:PA X (e::es) t)(l:Gl X x:=by rfl)(a:(x==("__debug__":Str))=false:=by decide)(j:starEach (e::es) X.env=(false,eval e X.env)::starEach es X.env:=by rfl)(b:(backTo pos (starEach es X.env)).any (·.1)=false:=by rfl):PE X (.Call (.Name x p) (e::es) [] pos) (Bh sp [] E0 t):=by
 obtain⟨f,fd,g,n,h,d⟩:=c.ex
 exact Lk g i l d h n .nil xZ m a j b
theorem Ue(c:gH X.prog X.w X.K X.mg X.base k C m ps sp)(j:bR k X.A)(l:PE X o n)(p:PA X (e::es) t)(b:starEach (e::es) X.env=(false,eval e X.env)::starEach es X.env:=by rfl)(d:(backTo pos (starEach es X.env)).any (·.1)=false:=by rfl)(h:eval (.Call (.Attribute o m a) (e::es) [] pos) X.env=(do
   let g <-eval o X.env
   standAt a.atName
   let(f,first) <-holding [g] (getMethod g m pl)
   callWith pos f first (backTo pos (starEach (e::es) X.env)) (backToKw pos (keywordEach [] X.env))):=by rfl):PE X (.Call (.Attribute o m a) (e::es) [] pos) (Td C m sp [] E0 n t):=by
 obtain⟨f,fd,r,q,i⟩:=c.ex
 exact Fz l c.cl i r j q .nil xZ p b d h
theorem Xc(c:gH X.prog X.w X.K X.mg X.base k C m ps sp)(h:bR k X.A)(i:PE X o j)(d:eval (.Call (.Attribute o m a) [] [] pos) X.env=(do
   let b <-eval o X.env
   standAt a.atName
   let(f,first) <-holding [b] (getMethod b m pl)
   callWith pos f first (backTo pos (starEach [] X.env)) (backToKw pos (keywordEach [] X.env))):=by rfl):PE X (.Call (.Attribute o m a) [] [] pos) (Td C m sp [] E0 j bI):=by
 obtain⟨f,fd,e,l,g⟩:=c.ex
 exact zU0 i c.cl g e h l .nil xZ d
end
section
variable{P:Program}{w:World}{K:Frag}{mg:Str->Option Value}{base:Heap}
theorem yI{A β:Type}[Rp K β]{as:A->SL K}{e:A->Option β}(F:aW K x d st f i)(S:ao N ps (zI st))(o:∀a,(as a).all isF=true)(g:∀a,(as a).length=ps.length)(l:∀(c:Value) (A:Around) (b:List Env) (s:Shared) (H:Hp) (E:XK),bR k (A.deeper (adi d (zI st) s.heap.objs.size f c)) ->
   ∃t,nU (qj aN P w K mg base N d (zI st) f c A b s H E).Fd (wV st) t/\∀j a,SB ⟨j,H⟩ (as a++replicate (N.length-ps.length) .un) t al (e a)) :
  aq P w K mg base aN (k+1) f i ps (bY K al as e) :=
 F.ok S (λm H Q E h=>zWz g h) λc A b s H m Q E n h=>by
  obtain⟨t,p,q⟩:=l c A b s H E n
  exact⟨t,p,zUf o g q h⟩
end
noncomputable def W{α:Type}(m:Option α)(P:α->Prop):Prop:=∃a,m=some a/\P a
section
variable{α β S:Type}
theorem aj:W (some a) P↔P a:=⟨λ⟨_,e,h⟩=>by grind,λh=>⟨a,rfl,h⟩⟩
theorem JC:W (none:Option α) P↔False:=⟨λ⟨_,e,_⟩=>(by cases e),aby⟩
theorem zC{m:Option α}:W (m.bind f) Q↔W m λa=>W (f a) Q:=by
 cases m with
 |none=>exact⟨λ⟨_,e,_⟩=>(by cases e),λ⟨_,e,_⟩=>(by cases e)⟩
 |some a=>exact⟨λh=>⟨a,rfl,h⟩,by rintro⟨_,e,h⟩;grind⟩
theorem Cq:W ((Out.nx s:Out S β).els f) Q↔W (f s) Q:=afc
theorem W.imp{Q:α->Prop}(h:W m P)(f:∀a,P a->Q a):W m Q:=let⟨a,e,p⟩:=h;⟨a,e,f a p⟩
theorem Ug:W (kJ a b) Q↔0<b/\Q (a%b):=by
 unfold kJ
 split
 ·rw[aj];grind
 ·rw[JC];grind
theorem Xd:W (n8 a b) Q↔(0<b/\b<1073741824)/\Q (a/b):=by
 unfold n8
 split
 ·rename_i h;rw[aj];exact⟨λq=>⟨h,q⟩,λq=>q.2⟩
 ·rename_i h;rw[JC];exact⟨aby,λq=>h q.1⟩
theorem Ek:W (push xs a) Q↔xs.length<cap/\Q (xs++[a]):=by
 unfold push
 split
 ·rename_i h;rw[aj];exact⟨λq=>⟨h,q⟩,λq=>q.2⟩
 ·rename_i h;rw[JC];exact⟨aby,λq=>h q.1⟩
def rng(n:Int):LI:=(abd n.toNat).map ade
theorem dU:W (bL n) Q↔(-(2^62)<=n/\n<2^62)/\Q (rng n):=by
 unfold bL rng
 split
 ·rename_i h;rw[aj];exact⟨λq=>⟨h,q⟩,λq=>q.2⟩
 ·rename_i h;rw[JC];exact⟨aby,λq=>h q.1⟩
theorem vO(h:0<=n):((rng n).length:Int)=n:=by
 unfold rng
 grind
theorem Uh{n:Int}{i:Nat}{x:Int}(h:(rng n)[i]?=some x):x=i/\(i:Int)<n:=by
 obtain⟨a,b⟩:=ZM h
 exact⟨b,by omega⟩
theorem cV:x∈rng n↔0<=x/\x<n:=by
 unfold rng
 rw[mem_map]
 constructor
 ·grind
 ·intro⟨h1,h2⟩
  exact⟨x.toNat,mem_range.mpr (by lia),by grind⟩
theorem JD(h:0<=i):L2.aU xs i=xs[i.toNat]?:=by
 unfold L2.aU yc
 rw[if_pos h]
 by_cases q:i<xs.length
 ·rw[if_pos q];rfl
 ·rw[if_neg q,abw (by omega)];rfl
theorem d_(h0:0<=i):W (L2.aU xs i) Q↔∃a,xs[i.toNat]?=some a/\Q a:=by
 rw[JD h0]
 exact afc
theorem zUm{xs:List α}{i:Int}{a:α}(h0:0<=i)(h1:i<xs.length):setAt xs i a=some (xs.set i.toNat a):=by
 unfold setAt yc
 rw[if_pos h0,if_pos h1]
 rfl
theorem Rj{xs:List α}{i:Int}{a:α}{Q:List α->Prop}(h0:0<=i)(b:i<xs.length):W (setAt xs i a) Q↔Q (xs.set i.toNat a):=by
 rw[zUm h0 b,aj]
theorem wN{step:S->α->Option S}{Q:S->Prop}(I:Nat->S->Prop)(h0:I 0 s)(f:∀i x s,xs[i]?=some x->I i s->W (step s x) (I (i+1)))(g:∀s,I xs.length s->Q s):W (xR step xs s) Q:=by
 have key:∀(a:List α)(i:Nat)(s:S),(∀j x,a[j]?=some x->xs[i+j]?=some x)->i+a.length=xs.length->I i s->W (xR step a s) Q:=by
  intro a
  induction a with
  |nil=>intro i s _ c h;exact⟨s,rfl,g s ((c)▸h)⟩
  |cons y a ih =>
   intro i s d c h
   show W ((step s y).bind λb=>xR step a b) Q
   rw[zC]
   refine(f i y s (d 0 y rfl) h).imp λb e=>ih (i+1) b (λj x hx=>?_) (by grind) e
   have:=d (j+1) x (by grind)
   grind
 grind
theorem zHt{step:S->α->Option (Out S β)}:n7 step (x::xs) s=(step s x).bind λo=>o.aQ λs'=>n7 step xs s':=by
 congr 1
theorem GJ{step:S->α->Option (Out S β)}{Q:Out S β->Prop}(I:Nat->S->Prop)(h0:I 0 s)(e:∀i x s,xs[i]?=some x->I i s->W (step s x) λo=>∃s',o=.nx s'/\I (i+1) s')(f:∀s,I xs.length s->Q (.nx s)):W (n7 step xs s) Q:=by
 have key:∀(a:List α)(i:Nat)(s:S),(∀j x,a[j]?=some x->xs[i+j]?=some x)->i+a.length=xs.length->I i s->W (n7 step a s) Q:=by
  intro a
  induction a with
  |nil=>intro i s _ c h;exact⟨.nx s,rfl,f s ((c)▸h)⟩
  |cons y a ih =>
   intro i s b c h
   rw[zHt,zC]
   refine(e i y s (b 0 y rfl) h).imp ?_
   rintro o ⟨s',rfl,d⟩
   refine ih (i+1) s' (λj x hx=>?_) (by grind) d
   have:=b (j+1) x (by grind)
   grind
 grind
theorem GK{c:S->Option Bool}{a:S->Option S}(I:S->Prop)(μ:S->Nat)(h0:I s)(hk:μ s<k)(d:∀s,I s->W (c s) λb=>if b=true then W (a s) λs'=>I s'/\μ s'<μ s else Q s):W (Jz c a k s) Q:=by
 induction k generalizing s with
 |zero=>lia
 |succ k ih =>
  show W ((c s).bind λb=>if b=true then(a s).bind λs'=>Jz c a k s' else some s) Q
  rw[zC]
  refine(d s h0).imp λb h=>?_
  cases b with
  |true =>
   simp only[if_true]
   rw[zC]
   exact h.imp λs' ⟨e,h2⟩=>ih e (by lia)
  |false=>simpa[aj] using h
theorem zKx(c:α->Bool)(f:α->β):∀xs:List α,vH (λx=>some (c x)) (λx=>some (f x)) xs=some ((xs.filter c).map f)
 |[]=>rfl
 |x::xs=>by
  have ih:=zKx c f xs
  show(some (c x)).bind _=_
  grind
theorem Xe(c:α->Bool)(f:α->β):W (aK (λx=>some (c x)) (λx=>some (f x)) xs) Q↔xs.length<cap/\Q ((xs.filter c).map f):=by
 unfold aK
 split
 ·rename_i h;rw[zKx,aj];exact⟨λq=>⟨h,q⟩,λq=>q.2⟩
 ·rename_i h;rw[JC];exact⟨aby,λq=>h q.1⟩
theorem Xf(xs:List α):xs.filter (λ_=>true)=xs:=List.filter_eq_self.mpr λ_ _=>rfl
theorem M5(f:α->β):W (aK (λ_=>some true) (λx=>some (f x)) xs) Q↔xs.length<cap/\Q (xs.map f):=by
 rw[Xe (λ_=>true) f,Xf]
theorem Rk[Decidable c]:W (if c then a else b) Q↔(c->W a Q)/\(¬c->W b Q):=by
 grind
theorem yO(h:n<=1000):n<cap:=aa7 h (by decide)
def aG(n:Int)(xs:LI):Prop:=xs.Pairwise (· < ·)/\∀x∈xs,0<=x/\x<n
theorem aG.nodup(h:aG n xs):xs.Nodup:=h.1.imp λq=>Int.ne_of_lt q
theorem Rm:aG n []:=⟨.nil,λx h=>by cases h⟩
theorem zJy(h:aG k xs)(h0:0<=k)(hk:k<n):aG n (xs++[k]):=by
 refine⟨List.pairwise_append.mpr ⟨h.1,by simp,λx a y b=>?_⟩,λx a=>?_⟩
 ·rw[mem_singleton.mp b];exact(h.2 x a).2
 ·rcases mem_append.mp a with q|q
  ·have:=h.2 x q;lia
  grind
theorem zRh(h:aG n xs)(l:n<=m):aG m xs:=⟨h.1,λx a=>by have:=h.2 x a;omega⟩
theorem wM:∀{n:Nat}{xs:LI},xs.Nodup->(∀x∈xs,0<=x/\x<(n:Int))->xs.length<=n
 |0,xs,_,h=>by
  cases xs with
  |nil=>grind
  |cons x xs=>have:=h x mem_cons_self;lia
 |n+1,xs,a,h=>by
  by_cases q:(n:Int)∈xs
  ·have l:=List.length_erase_of_mem q
   have ih:=wM (n:=n) (xs:=xs.erase (n:Int)) (a.erase _) λx b=>by
    grind
   lia
  ·have ih:=wM (n:=n) a λx b=>by
    grind
   lia
end
end Ts
namespace L2
open PySem PySem.Spec PyProof.Rows
theorem Z8:∀{ns:LI}{a:List Value},Vals (ns.map V.int) a->IntsAre a ns
 |[],[],_=>.nil
 |n::ns,_::a,h=>by
  cases h with
  |cons r t =>
   obtain⟨k,rfl⟩:=r
   exact .cons n k (Z8 t)
theorem Xg:∀{ns:LI}{a:List Value},IntsAre a ns->Vals (ns.map V.int) a
 |_,_,.nil=>.nil
 |_,_,.cons n t h=>.cons ⟨t,rfl⟩ (Xg h)
section
variable{X:Cx}
def JF(K:Frag):List V->Hp->VK->Prop:=λc H Q=>∃(p:Addr)(b:LI),c=[.ref p]/\aZ K H p (b.map V.int)/\b.length<64/\∀(l:Addr)(a:LI),H l=none->a.Perm b->a.Pairwise (· <= ·)->Q (.ref l) (upd H l (.lst (a.map V.int)))
theorem Z9(K:Frag)(m:X.K=K:=by rfl):xr X (.builtin "sorted") (JF K):=by
 subst m
 intro pins s σ H xs us Q I r h
 obtain⟨p,ns,rfl,k,h64,q⟩:=h
 obtain⟨u,rfl,n⟩:=Jr r
 cases n
 obtain⟨d,g,j,hz⟩:=I.list k
 have i:=g.length
 rw[length_map] at i
 refine sorted_ints j.isList (Z8 g) (by lia) λa c t f o=>?_
 obtain⟨e,he⟩:=sortedAll_at s.heap d a
 have l:=I.hok.fresh (acf _)
 refine⟨.ref (s.heap.objs.size+1),_,I.laid (λb ob w=>sortedAll_old w) (acf _) ?_,rfl,q _ c l f o⟩
 refine⟨?_,a.toList,e,Xg t,?_⟩
 ·rw[length_map,f.length_eq]
  grind
 ·simp_all
theorem zFg{bs:List Bool}(r:Vals (bs.map V.bl) its):TruthOf prog w A (λi v=>its.toArray[i]?=some v) (λi=>bs.getD i false):=by
 intro i v s Q E hv hq
 have hv:its[i]?=some v:=by simpa using hv
 have hi:i<bs.length:=by
  have:=(aa8.mp hv).1
  rw[<-r.length,length_map] at this
  exact this
 obtain⟨u,h1,h2⟩:=r.get (i:=i) (x:=.bl bs[i]) (by rw[getElem?_map,aaz hi]<;>rfl)
 rw[hv] at h1
 cases h1
 cases h2
 have hq:Q (bs.getD i false) s:=hq
 rw[getD_eq_getElem?_getD,aaz hi] at hq
 exact ab6 hq
theorem zRj{bs:List Bool}:((abd bs.length).any λi=>bs.getD i false)=bs.any id:=by
 rw[ab1,any_eq_true,any_eq_true]
 constructor
 ·rintro⟨i,b,c⟩
  have a:=mem_range.mp b
  rw[getD_eq_getElem?_getD,aaz a] at c
  exact⟨_,getElem_mem a,c⟩
 ·rintro⟨x,b,c⟩
  obtain⟨i,a,e⟩:=getElem_of_mem b
  refine⟨i,mem_range.mpr a,?_⟩
  grind
theorem zRk{bs:List Bool}:((abd bs.length).all λi=>bs.getD i false)=bs.all id:=by
 rw[ab1,all_eq_true,all_eq_true]
 constructor
 ·intro h x b
  obtain⟨i,a,e⟩:=getElem_of_mem b
  have z:=h i (mem_range.mpr a)
  grind
 ·intro h i a
  have a:=mem_range.mp a
  rw[getD_eq_getElem?_getD,aaz a]
  exact h _ (getElem_mem a)
def Z_(K:Frag)(f:List Bool->Bool):List V->Hp->VK->Prop:=λb H Q=>∃(p:Addr)(a:List Bool),b=[.ref p]/\aZ K H p (a.map V.bl)/\Q (.bl (f a)) H
theorem JG{s:Shared}{h':Heap}(a:∀b o,b∉[s.heap.objs.size]->(s.heap.push { cls:=.type "list_iterator",data:=.fields #[.ref l,.int 0 0] }).get? b=some o->h'.get? b=some o) :
  ∀b o,s.heap.get? b=some o->h'.get? b=some o:=λb o e=>a b o (λm=>ab3 _ (mem_singleton.mp m▸lt_size e)) (get?_push_of_some _ e)
theorem zTi(K:Frag)(l:X.calm=true)(m:X.K=K:=by rfl):xr X (.builtin "any") (Z_ K λbs=>bs.any id):=by
 subst m
 intro pins s σ H xs us Q I r h
 obtain⟨p,bs,rfl,i,q⟩:=h
 obtain⟨u,rfl,f⟩:=Jr r
 cases f
 obtain⟨a,d,k,hz⟩:=I.list i
 have c:=k.isList
 have b:p<s.heap.objs.size:=by obtain⟨_,e,_⟩:=c;exact lt_size e
 refine call_any_walk (ad4 c ?_)
 refine⟨_,_,_,_,_,_,_,rfl,Walks.list (A:=X.A.in1) (I.ok.hd l) s.heap.objs.size p (aa4 b) a.toArray,⟨⟨_,get?_push_size _ rfl,rfl,rfl⟩,c.push _⟩,zFg d,λh' tk g=>?_⟩
 have j:a.toArray.size=bs.length:=by
  rw[size_toArray,<-d.length,length_map]
 rw[j,zRj]
 exact⟨.bl (bs.any id),H,I.kept (JG g),rfl,q⟩
theorem zTj(K:Frag)(l:X.calm=true)(m:X.K=K:=by rfl):xr X (.builtin "all") (Z_ K λbs=>bs.all id):=by
 subst m
 intro pins s σ H xs us Q I r h
 obtain⟨p,bs,rfl,i,q⟩:=h
 obtain⟨u,rfl,f⟩:=Jr r
 cases f
 obtain⟨a,d,k,hz⟩:=I.list i
 have c:=k.isList
 have b:p<s.heap.objs.size:=by obtain⟨_,e,_⟩:=c;exact lt_size e
 refine call_all_walk (ad4 c ?_)
 refine⟨_,_,_,_,_,_,_,rfl,Walks.list (A:=X.A.in1) (I.ok.hd l) s.heap.objs.size p (aa4 b) a.toArray,⟨⟨_,get?_push_size _ rfl,rfl,rfl⟩,c.push _⟩,zFg d,λh' tk g=>?_⟩
 have j:a.toArray.size=bs.length:=by
  rw[size_toArray,<-d.length,length_map]
 rw[j,zRk]
 exact⟨.bl (bs.all id),H,I.kept (JG g),rfl,q⟩
end
end L2
namespace Ts
open PySem L2
def Xh(ns:LI):LI:=ns.mergeSort (λa b=>decide (a<=b))
noncomputable def kO(ns:LI):Option LI:=if ns.length<64 then some (Xh ns) else none
theorem uI(ns:LI):(Xh ns).Perm ns:=List.mergeSort_perm _ _
theorem zEv(ns:LI):(Xh ns).Pairwise (· <= ·):=by
 have:=List.pairwise_mergeSort (le:=λa b=>decide (a<=b)) (λa b c h1 h2=>by grind) (λa b=>by grind) ns
 exact this.imp λh=>by grind
theorem zFk:∀{xs ys:LI},xs.Perm ys->xs.Pairwise (· <= ·)->ys.Pairwise (· <= ·)->xs=ys
 |[],ys,p,_,_=>(Perm.nil_eq p)
 |x::xs,[],p,_,_=>by simp_all
 |x::xs,y::ys,p,h1,h2=>by
  have a1:=pairwise_cons.mp h1
  have a2:=pairwise_cons.mp h2
  have e:x=y:=by
   have q1:=p.subset mem_cons_self
   have q2:=p.symm.subset mem_cons_self
   grind
  subst e
  rw[zFk (Perm.cons_inv p) a1.2 a2.2]
section
variable{K:Frag}{B:Bs}{sl:SL K}{md:Md}{t t1 t2:TE}{n:Bool}
theorem zMd(h:Ex B sl .hp t m):Eo B sl md (xu (JF K) (yW t bI)) (m.bind kO):=λc hc F O H σ Q s k=>by
 cases m with
 |none=>cases hc
 |some ns =>
  have hc:kO ns=some c:=hc
  unfold kO at hc
  split at hc
  case isFalse=>cases hc
  rename_i hl
  cases hc
  refine h ns rfl F O H σ _ s λv F' H' g r1=>?_
  obtain⟨p,vs,rfl,z1,z2⟩:=r1
  have z3:=z2.vals
  subst z3
  refine⟨p,ns,rfl,aZ.of z1,hl,λl ns' hn p1 p2=>?_⟩
  rw[zFk (p1.trans (uI ns).symm) p2 (zEv ns)]
  exact k l _ F' H' g hn (Cm _)
theorem zNu(h:Ex B sl .hp t m):Ex B sl md (xu (Z_ K f) (yW t bI)) (m.bind λbs=>some (f bs)):=λc hc F O H σ Q s k=>by
 cases m with
 |none=>cases hc
 |some bs =>
  cases(hc)
  refine h bs rfl F O H σ _ s λv F' H' g r1=>?_
  obtain⟨p,vs,rfl,z1,z2⟩:=r1
  have z3:=z2.vals
  subst z3
  exact⟨p,bs,rfl,aZ.of z1,k _ F' H' g rfl⟩
theorem zSy(h:Ex B sl .hp t m):Ex B sl md (tUn (rU λi=>.int (-i)) t) (m.bind λa=>some (-a)):=λc hc F O H σ Q s k=>by
 cases m with
 |none=>cases hc
 |some a =>
  cases(show some (-a)=some c from hc)
  refine h a rfl F O H σ _ s λv F' H' g r1=>?_
  cases r1
  exact⟨a,rfl,k _ F' H' g rfl⟩
end
section
variable{β:Type}
noncomputable def gK(kvs:List (Key×β))(k:Key):Option β:=(kvs.find? λa=>decide (a.1=k)).map (·.2)
def pK(kvs:List (Key×β))(k:Key)(v:β):List (Key×β):=if(kvs.any λa=>decide (a.1=k))=true then kvs.map (λa=>if a.1=k then(a.1,v) else a) else kvs++[(k,v)]
abbrev nj(kvs:List (Key×β))(k:Int):Option β:=gK kvs (ab8 k)
noncomputable def dput(kvs:List (Key×β))(k:Int)(v:β):Option (List (Key×β)):=if kvs.length<cap then some (pK kvs (ab8 k) v) else none
theorem Xi:∀{kvs:List (Key×β)}{k:Key},(kvs.any λa=>decide (a.1=k))=(gK kvs k).isSome
 |[],_=>rfl
 |x::kvs,k=>by
  unfold gK
  grind
theorem zSv:∀(kvs:List (Key×β))(k j:Key)(v:β),gK (pK kvs k v) j=if j=k then some v else gK kvs j:=λkvs k j v=>by
 unfold pK
 cases a:(kvs.any λb=>decide (b.1=k)) with
 |true =>
  rw[if_pos rfl]
  induction kvs with
  |nil=>cases a
  |cons x kvs ih =>
   unfold gK at ih ⊢
   rw[map_cons,find?_cons,find?_cons]
   by_cases e:x.1=k
   ·rw[if_pos e]
    by_cases f:j=k
    ·subst f
     rw[decide_eq_true (show(x.1,v).1=j from e),if_pos rfl];rfl
    ·rw[decide_eq_false (show¬(x.1,v).1=j fromλz=>f (z.symm.trans e)),if_neg f]
     show Option.map (λx=>x.2) (List.find? (λb=>decide (b.1=j)) (List.map (λb=>if b.1=k then(b.1,v) else b) kvs))=Option.map (λx=>x.2) (List.find? (λb=>decide (b.1=j)) kvs)
     clear ih a
     induction kvs with
     |nil=>rfl
     |cons y kvs ih =>
      rw[map_cons,find?_cons,find?_cons]
      by_cases g:y.1=k
      ·rw[if_pos g,decide_eq_false (show¬(y.1,v).1=j fromλz=>f (z.symm.trans g))];exact ih
      ·rw[if_neg g]
       by_cases h:y.1=j
       ·rw[decide_eq_true h]
       ·rw[decide_eq_false h];exact ih
   ·rw[if_neg e]
    have a':(kvs.any λb=>decide (b.1=k))=true:=by rw[any_cons,decide_eq_false e,Bool.false_or] at a;exact a
    by_cases f:x.1=j
    ·rw[decide_eq_true f,if_neg λz=>e (f.trans z)]
    ·rw[decide_eq_false f];exact ih a'
 |false =>
  rw[if_neg (by decide)]
  unfold gK
  rw[List.find?_append]
  have hn:kvs.find? (λb=>decide (b.1=k))=none:=by
   rw[List.find?_eq_none]
   intro x hx
   have:=any_eq_false.mp a x hx
   exact this
  by_cases f:j=k
  ·subst f;rw[hn,if_pos rfl];simp
  ·rw[if_neg f]
   cases kvs.find? (λb=>decide (b.1=j)) with
   |none=>simp[acy f]
   |some y=>rfl
theorem zRs(kvs:List (Key×β))(k:Key)(v:β):(pK kvs k v).length<=kvs.length+1:=by
 unfold pK
 grind
end
section
variable{K:Frag}{α:Type}[Rp K α]
abbrev DR(K:Frag){α:Type}[Rp K α](F:Hp):Key×V->Key×α->Prop:=λx y=>x.1=y.1/\rp K F x.2 y.2
theorem A2.any:∀{ks:List (Key×V)}{kvs:List (Key×α)},A2 (DR K F) ks kvs->(ks.any λa=>decide (a.1=k))=(kvs.any λa=>decide (a.1=k))
 |[],[],_=>rfl
 |_::_,_::_,h=>by rw[any_cons,any_cons,h.1.1,A2.any h.2]
 |[],_::_,h=>h.elim
 |_::_,[],h=>h.elim
theorem A2.val:∀{ks:List (Key×V)}{kvs:List (Key×α)},A2 (DR K F) ks kvs->(gK kvs k=none/\iz ks k=none)\/∃a v,gK kvs k=some a/\iz ks k=some v/\rp K F v a
 |[],[],_=>.inl ⟨rfl,rfl⟩
 |x::ks,y::kvs,h=>by
  unfold gK iz
  rw[find?_cons,find?_cons,h.1.1]
  by_cases e:y.1=k
  ·rw[decide_eq_true e];exact .inr ⟨y.2,x.2,rfl,rfl,h.1.2⟩
  ·rw[decide_eq_false e];exact A2.val h.2
 |[],_::_,h=>h.elim
 |_::_,[],h=>h.elim
theorem A2.Ui(r:rp K F v a):∀{ks:List (Key×V)}{kvs:List (Key×α)},A2 (DR K F) ks kvs->A2 (DR K F) (ks.map λb=>if b.1=k then(b.1,v) else b) (kvs.map λb=>if b.1=k then(b.1,a) else b)
 |[],[],_=>trivial
 |x::ks,y::kvs,h=>by
  rw[map_cons,map_cons]
  refine⟨?_,A2.Ui r h.2⟩
  by_cases e:x.1=k
  ·rw[if_pos e,if_pos (h.1.1▸e)];exact⟨h.1.1,r⟩
  ·rw[if_neg e,if_neg (h.1.1▸e)];exact h.1
 |[],_::_,h=>h.elim
 |_::_,[],h=>h.elim
theorem A2.put{F:Hp}{k:Key}{v:V}{a:α}(r:rp K F v a){ks:List (Key×V)}{kvs:List (Key×α)}(h:A2 (DR K F) ks kvs):A2 (DR K F) (putK ks k v) (pK kvs k a):=by
 unfold putK pK
 rw[h.any]
 split
 ·exact h.Ui r
 ·exact h.snoc ⟨rfl,r⟩
structure Dc(α:Type) where
 kv:List (Key×α)
instance:Rp K (Dc α):=⟨λF v d=>∃p ks,v=.ref p/\F p=some (.dK ks)/\A2 (DR K F) ks d.kv,λs ⟨p,ks,h1,h2,h3⟩=>⟨p,ks,h1,s _ _ h2,h3.imp λ_ _ z=>⟨z.1,Rp.mono s z.2⟩⟩⟩
variable{B:Bs}{sl:SL K}{md:Md}{t t2:TE}{F H G:Hp}{O:Own}{σ:St}{u:TS}{al:Bool}
theorem zL9{kvs:List (Key×α)}(i:Nat)(e:sl[i]?=some (.od kvs)):Ex B sl .hp (cP i) (some (Dc.mk kvs)):=λa' f F O H σ Q s k=>by
 cases f
 obtain⟨a,b⟩:=s
 obtain⟨O1,O2,p,c,rfl,d,g,_⟩:=b.Jx e
 exact⟨_,d,k _ F H (.refl a) ⟨p,c,rfl,a.one.2.2,g.imp λ_ _ z=>⟨z.1,Rp.mono a.fh z.2⟩⟩⟩
theorem M6{m:Option Int}{b:Option (Dc α)}(h:Ex B sl .hp t m)(h2:Ex B sl .hp t2 b):Ex B sl md (Ls t t2) (m.bind λk=>b.bind λd=>some (nj d.kv k).isSome):=λc o F O H σ Q s f=>by
 obtain⟨k,d,i,l,n⟩:=sI o
 cases n
 refine h k i F O H σ _ s λv C q g y=>?_
 refine h2 d l C O q σ _ (s.grow g) λw J E z D=>?_
 cases y
 obtain⟨p,A,rfl,x,I⟩:=D
 refine⟨p,_,rfl,iB.k (k:=ab8 k) x,?_⟩
 have e:(iz A (ab8 k:Key)).isSome=(nj d.kv k).isSome:=by
  rcases I.val (k:=ab8 k) with⟨j,r⟩|⟨a,v,j,r,_⟩
  ·grind
  grind
 rw[e]
 exact f _ J E (g.trans z) rfl
theorem zS0{m:Option Int}{b:Option (Dc α)}(h:Ex B sl .hp t m)(h2:Ex B sl .hp t2 b):Ex B sl md (zQx t t2) (m.bind λk=>b.bind λd=>some !(nj d.kv k).isSome):=λc o F O H σ Q s f=>by
 obtain⟨k,d,i,l,n⟩:=sI o
 cases n
 refine h k i F O H σ _ s λv C q g y=>?_
 refine h2 d l C O q σ _ (s.grow g) λw J E z D=>?_
 cases y
 obtain⟨p,A,rfl,x,I⟩:=D
 refine⟨p,_,rfl,iB.k (k:=ab8 k) x,?_⟩
 have e:(iz A (ab8 k:Key)).isSome=(nj d.kv k).isSome:=by
  rcases I.val (k:=ab8 k) with⟨j,r⟩|⟨a,v,j,r,_⟩
  ·grind
  grind
 rw[e]
 exact f _ J E (g.trans z) rfl
theorem zQ5{kvs:List (Key×α)}{m:Option α}{mi:Option Int}{te x:TE}(i:Nat)(C:sl[i]?=some (.od kvs))(A:sl.all (λs=>!dj s)=true)(J:Ex B sl .fz te m)(N:Ex B sl .hp x mi) :
  Sn B sl (BL (cP i) x te) (λys=>sl.set i (.od ys)) (m.bind λa=>mi.bind λk=>dput kvs k a):=λys E G D σ H s k=>by
 obtain⟨a,h,S,U,f⟩:=sI E
 unfold dput at f
 split at f
 case isFalse=>cases f
 rename_i Q
 cases f
 obtain⟨F,O,g,z⟩:=s
 refine J a S F O H σ _ z λv P M j r=>?_
 obtain⟨p,ks,y,h2,h3,_⟩:=(z.grow j).Gm C A
 refine⟨_,y,?_⟩
 refine N h U P O M σ _ (z.grow j) λw T H2 b L=>?_
 cases L
 obtain⟨p',n,l,q,c,o⟩:=((z.grow j).grow b).Gm C A
 have e:=y.symm.trans l
 cases e
 obtain⟨I,R⟩:=o (putK n (ab8 h) v) (pK kvs (ab8 h) a) (c.put (Rp.mono b.ff r))
 exact⟨p,_,rfl,sE.k (k:=ab8 h) q (Cg (by rw[c.len];exact Q)),k _ _ ⟨T,I,(g.trans j.ff).trans b.ff,R⟩⟩
end
section
variable{K:Frag}{B:Bs}{sl:SL K}{md:Md}{t:TE}{u:TS}{al:Bool}{α:Type}[Rp K α]
abbrev Uj:List V->Hp->VK->Prop:=λa H Q=>(∃i,a=[.int i]/\Q (.int i) H)\/∃k,a=[.bl k]/\Q (.int (if k then 1 else 0)) H
theorem GP(h:Ex B sl .hp t m):Ex B sl md (xu Uj (yW t bI)) (m.bind λb=>some (if b=true then(1:Int) else 0)):=λc a F O H σ Q s k=>by
 cases m with
 |none=>cases a
 |some b =>
  cases(a)
  refine h b rfl F O H σ _ s λv e d g f=>?_
  cases f
  exact .inr ⟨b,rfl,k _ e d g rfl⟩
end
end Ts
namespace L2
open PySem PySem.Spec PyProof.Rows
def Its(x:Str):It:=⟨λi _=>i<x.cps.size,λi H v a=>a=H/\∃c,x.cps[i]?=some c/\v=.str ⟨#[c]⟩,λi _=>x.cps.size<=i⟩
theorem zOp{P:Program}{w:World}{K:Frag}{N:Expr}(d:Addr)(x:Str)(t:Tok):Turn P w K N (Its x) [d] d (λi h=>h.IsStrIter d "str_ascii_iterator" x t i) where
 mem:=mem_singleton.mpr rfl
 obj:=λi h st b f=>by
  have e:b=d:=mem_singleton.mp f
  subst e
  obtain⟨o,m,g,M⟩:=st
  grind
 keep:=λi h l st k=>by
  obtain⟨o,m,r⟩:=st
  exact⟨o,k d (mem_singleton.mpr rfl) _ m,r⟩
 item:=by
  intro X B q y g i a s σ H E I p st G
  subst B q y
  obtain⟨A,D,O,C,J,F⟩:=p d (mem_singleton.mpr rfl)
  refine(Walks.strAscii (prog:=X.prog) (w:=X.w) (I.ok.hd g) d x t).item i s _ _ G st λv l L R j U=>?_
  obtain⟨c,u,S,rfl⟩:=R
  have T:Inv X a σ H { s with heap:=l,toks:=L }:=I.turned (λb o f e=>U b o (λz=>f (mem_singleton.mp z)) e) A D C J F
  obtain⟨o,m,g,M⟩:=id j
  exact⟨_,rfl,QM (s:={ s with heap:=l,toks:=L }) (n:="str_ascii_iterator") m g M (by decide) ⟨.str ⟨#[c]⟩,H,T,⟨u,rfl⟩,⟨rfl,c,S,rfl⟩,j,λb f=>(p b f).1⟩⟩
 done:=by
  intro X B q y g i a s σ H E I p st G
  subst B q y
  obtain⟨A,D,O,C,J,F⟩:=p d (mem_singleton.mpr rfl)
  exact wpAny_pyNext_ascii_end (I.ok.hd g) st (ab4 G) λl Q=>⟨rfl,I.turned (t':=s.toks) (λb o f e=>Q b o f e) A D C J F⟩
 self:=λ_ _ _ _ _ st h=>wpAny_pyIter_striter_ascii st h
theorem zQq{P:Program}{w:World}{K:Frag}{N:Expr}(d:Addr)(x:Str)(t:Tok):Turn P w K N (Its x) [d] d (λi h=>h.IsStrIter d "str_iterator" x t i) where
 mem:=mem_singleton.mpr rfl
 obj:=λi h st b f=>by
  have e:b=d:=mem_singleton.mp f
  subst e
  obtain⟨o,m,g,M⟩:=st
  grind
 keep:=λi h l st k=>by
  obtain⟨o,m,r⟩:=st
  exact⟨o,k d (mem_singleton.mpr rfl) _ m,r⟩
 item:=by
  intro X B q y g i a s σ H E I p st G
  subst B q y
  obtain⟨A,D,O,C,J,F⟩:=p d (mem_singleton.mpr rfl)
  refine(Walks.strWide (prog:=X.prog) (w:=X.w) (I.ok.hd g) d x t).item i s _ _ G st λv l L R j U=>?_
  obtain⟨c,u,S,rfl⟩:=R
  have T:Inv X a σ H { s with heap:=l,toks:=L }:=I.turned (λb o f e=>U b o (λz=>f (mem_singleton.mp z)) e) A D C J F
  obtain⟨o,m,g,M⟩:=id j
  exact⟨_,rfl,QM (s:={ s with heap:=l,toks:=L }) (n:="str_iterator") m g M (by decide) ⟨.str ⟨#[c]⟩,H,T,⟨u,rfl⟩,⟨rfl,c,S,rfl⟩,j,λb f=>(p b f).1⟩⟩
 done:=by
  intro X B q y g i a s σ H E I p st G
  subst B q y
  obtain⟨A,D,O,C,J,F⟩:=p d (mem_singleton.mpr rfl)
  exact wpAny_pyNext_wide_end (I.ok.hd g) st (ab4 G) λl Q=>⟨rfl,I.turned (t':=s.toks) (λb o f e=>Q b o f e) A D C J F⟩
 self:=λ_ _ _ _ _ st h=>wpAny_pyIter_striter_wide st h
section
variable{X:Cx}{tg:Expr}
def Uk(a:TE):TI:=λσ H R=>a σ H λx b=>∃y,x=.str y/\R (Its y) b
theorem M7(n:PE X l p):PI X tg l (Uk p):=by
 intro a s σ H R I h
 refine aQ (n a s σ H _ I h) ?_
 rintro v c ⟨x,f,d,k,m⟩
 obtain⟨y,e,q⟩:=m
 subst e
 obtain⟨t,rfl⟩:=k
 have g:∀b∈[c.heap.objs.size],m8 X a f b:=λb j=>by
  have e:b=c.heap.objs.size:=mem_singleton.mp j
  subst e
  exact d.m9 (aa0 _) (d.hok.fresh (aa0 _))
 cases i:y.cps.all (· < 128)
 ·exact wpAny_pyIter_wide i ⟨c.heap.objs.size,[c.heap.objs.size],_,_,f,rfl,d.kept (t':=c.toks) λb o e=>get?_push_of_some _ e,zQq _ y t,⟨_,get?_push_size _ rfl,rfl,rfl⟩,g,q⟩
 ·exact wpAny_pyIter_ascii i ⟨c.heap.objs.size,[c.heap.objs.size],_,_,f,rfl,d.kept (t':=c.toks) λb o e=>get?_push_of_some _ e,zOp _ y t,⟨_,get?_push_size _ rfl,rfl,rfl⟩,g,q⟩
end
end L2
namespace Ts
open PySem L2
section
variable{K:Frag}{B:Bs}{sl:SL K}{md:Md}{t ta tb tc:TE}{n:Bool}
def Xj(x:Str):List Str:=x.cps.toList.map λc=>(⟨#[c]⟩:Str)
theorem M8(h:Ex B sl .hp t mi):Ei B sl n (Uk t) (mi.bind λx=>some (Xj x)):=λxs f F O H σ R a k=>by
 cases mi with
 |none=>cases f
 |some x =>
  cases(f)
  refine h x rfl F O H σ _ a λv j q p r=>?_
  cases r
  refine⟨x,rfl,k _ j q p λi s O2 H2 sf m=>⟨λl=>?_,λy b=>?_⟩⟩
  ·show x.cps.size<=i
   unfold Xj at l
   grind
  ·unfold Xj at b
   rw[getElem?_map,getElem?_toList] at b
   cases e:x.cps[i]? with
   |none=>grind
   |some c =>
    rw[e] at b
    cases b
    have o:i<x.cps.size:=(Array.getElem?_eq_some_iff.mp e).1
    refine⟨o,λv H3 g=>?_⟩
    obtain⟨rfl,c',d,rfl⟩:=g
    rw[e] at d
    cases d
    exact⟨s,.refl m,rfl⟩
theorem zNs{f g:Int->Int->Bool}(E:Ex B sl .hp ta y)(h2:Ex B sl .hp tb I)(J:Ex B sl .hp tc p) :
  Ex B sl md (zWy (um λi j=>.bl (f i j)) (um λi j=>.bl (g i j)) ta tb tc) (y.bind λa=>I.bind λb=>if f a b=true then p.bind λc=>some (g b c) else some false):=λd z F O H σ Q s k=>by
 obtain⟨a,b,P,M,e⟩:=sI z
 refine E a P F O H σ _ s λv G A h C=>?_
 refine h2 b M G O A σ _ (s.grow h) λw o m l D=>?_
 cases C
 cases D
 refine⟨a,b,rfl,rfl,_,rfl,?_⟩
 by_cases q:f a b=true
 ·rw[if_pos q] at e ⊢
  cases p with
  |none=>cases e
  |some c =>
   cases(e)
   refine J c rfl o O m σ _ ((s.grow h).grow l) λu L N x r=>?_
   cases r
   exact⟨b,c,rfl,rfl,k _ L N ((h.trans l).trans x) rfl⟩
 ·rw[if_neg q] at e ⊢
  cases e
  exact k _ o m (h.trans l) rfl
def JH:List V->Hp->VK->Prop:=λa H Q=>∃x:Str,a=[.str x]/\x.length<cap/\Q (.int x.length) H
theorem zTg:xr X (.builtin "len") JH:=by
 intro a s σ H xs c Q I r h
 obtain⟨x,rfl,b,q⟩:=h
 exact zWi a s σ H _ c Q I r ⟨_,_,rfl,⟨acv (Cg b),rfl⟩,q⟩
noncomputable def GQ(x:Str):Option Int:=if x.length<cap then some (x.length:Int) else none
theorem GR(h:Ex B sl .hp t m):Ex B sl md (xu JH (yW t bI)) (m.bind GQ):=λc a F O H σ Q s k=>by
 cases m with
 |none=>cases a
 |some x =>
  have a:GQ x=some c:=a
  unfold GQ at a
  split at a
  case isFalse=>cases a
  rename_i e
  cases a
  refine h x rfl F O H σ _ s λv d b g f=>?_
  cases f
  exact⟨x,rfl,e,k _ d b g rfl⟩
def inS(i j:Str):Bool:=!(adu j i 0 j.length 1).isEmpty
abbrev aac:R2:=λx y H Q=>∃i j,x=.str i/\y=.str j/\Q (.bl (!(adu j i 0 j.length 1).isEmpty)) H
theorem M9(h:Ex B sl .hp ta d)(h2:Ex B sl .hp tb i):Ex B sl md (iQ aac ta tb) (d.bind λa=>i.bind λb=>some (inS a b)) :=
 Ec (λa b c v w H Q e g f q=>by
  cases e
  cases g
  cases f
  exact⟨a,b,rfl,rfl,q⟩) h h2
theorem M_{ws:List Str}(f:∀H,cF K H p (ws.map V.str))(h:Ex B sl .hp t m):Ex B sl md (iQ (LR K false) t (tC (.ref p))) (m.bind λx=>some (decide (x∈ws))):=λc b F O H σ Q s k=>by
 cases m with
 |none=>cases b
 |some x =>
  cases(b)
  refine h x rfl F O H σ _ s λv i d g e=>?_
  cases e
  refine⟨p,_,rfl,.inr (f d),Fl.flat (K:=K) x,ZX (K:=K) ws,?_⟩
  have:=W8 (K:=K) x ws
  rw[show inV (V.str x) (ws.map V.str)=decide (x∈ws) from this]
  exact k _ i d g rfl
end
section
variable{P:Program}{w:World}{K:Frag}{mg:Str->Option Value}{base:Heap}{B:Bs}{sl:SL K}{al:Bool}{S β:Type}[Rp K β]
theorem Rn:Sn B sl zWw L none:=λa b=>by cases b
theorem Xk{A:Type}{as:A->SL K}{u:A->Option Unit}(F:aW K x i st f fd)(S:ao N ps (zI st))(hf:∀a,(as a).all isF=true)(n:∀a,(as a).length=ps.length)(hb:∀(d:Value) (A:Around) (c:List Env) (s:Shared) (H:Hp) (E:XK),bR k (A.deeper (adi i (zI st) s.heap.objs.size f d)) ->
   ∃t,nU (qj aN P w K mg base N i (zI st) f d A c s H E).Fd (wV st) t/\∀j a,∃L:Unit->SL K,Sn ⟨j,H⟩ (as a++replicate (N.length-ps.length) .un) t L (u a)) :
  aq P w K mg base aN (k+1) f fd ps (bY K al as u) :=
 F.ok S (λm H Q E h=>zWz n h) λd A c s H m Q E C h=>by
  obtain⟨t,p,q⟩:=hb d A c s H E C
  refine⟨t,p,?_⟩
  obtain⟨a,b,j,s,l,r,v⟩:=h
  have e:L2.start N m=m.map some++replicate (N.length-ps.length) none:=by
   unfold L2.start
   rw[r.len,n]
  rw[e]
  obtain⟨L,q⟩:=q j a
  exact q b l j _ _ H ⟨j,[],.refl _,⟨s,.refl _,λb o h=>.inl h,λx z=>(by cases z),(by simp)⟩,zFm _ (hf a) r⟩ (by rintro σ' G ⟨F',O',g,D⟩;exact v .non G D.1.h0 rfl)
noncomputable def Nb(a:Str)(i:Int):Option Str:=if i.natAbs.log2<1920 then some (a++ad1 (toString i)) else none
noncomputable def Ro(a z:Str):Option Str:=if z.length<=1000 then some (a++z) else none
theorem zXp(a:Str)(h:Ex B sl .hp t m):Ex B sl md (Zt a t) (m.bind (Nb a)):=λc b F O H σ Q s k=>by
 cases m with
 |none=>cases b
 |some i =>
  have b:Nb a i=some c:=b
  unfold Nb at b
  split at b
  case isFalse=>cases b
  rename_i f
  cases b
  refine h i rfl F O H σ _ s λv e d g j=>?_
  cases j
  exact .inl ⟨i,rfl,f,k _ e d g rfl⟩
theorem Nf(a:Str)(h:Ex B sl .hp t m):Ex B sl md (Zt a t) (m.bind (Ro a)):=λc b F O H σ Q s k=>by
 cases m with
 |none=>cases b
 |some i =>
  have b:Ro a i=some c:=b
  unfold Ro at b
  split at b
  case isFalse=>cases b
  rename_i f
  cases b
  refine h i rfl F O H σ _ s λv e d g j=>?_
  cases j
  exact .inr ⟨i,rfl,f,k _ e d g rfl⟩
theorem Um:kitOne K (.type "str") (.type "str")=some true:=rfl
theorem Ng:bootBuiltins "str" = some (.type "str"):=by decide +kernel
end
section
variable{β:Type}
abbrev JK(kvs:List (Key×β))(k:Str):Option β:=gK kvs (abo k)
noncomputable def iT(kvs:List (Key×β))(k:Str)(v:β):Option (List (Key×β)):=if kvs.length<cap then some (pK kvs (abo k) v) else none
end
section
variable{K:Frag}{α:Type}[Rp K α]
variable{B:Bs}{sl:SL K}{md:Md}{t t2:TE}{F H G:Hp}{O:Own}{σ:St}{u:TS}{al:Bool}
theorem GX{m:Option Str}{b:Option (Dc α)}(h:Ex B sl .hp t m)(h2:Ex B sl .hp t2 b):Ex B sl md (Ls t t2) (m.bind λk=>b.bind λd=>some (JK d.kv k).isSome):=λc o F O H σ Q s f=>by
 obtain⟨k,d,i,l,n⟩:=sI o
 cases n
 refine h k i F O H σ _ s λv C q g y=>?_
 refine h2 d l C O q σ _ (s.grow g) λw J E z D=>?_
 cases y
 obtain⟨p,A,rfl,x,I⟩:=D
 refine⟨p,_,rfl,iB.k (k:=abo k) x,?_⟩
 have e:(iz A (abo k:Key)).isSome=(JK d.kv k).isSome:=by
  rcases I.val (k:=abo k) with⟨j,r⟩|⟨a,v,j,r,_⟩
  ·grind
  grind
 rw[e]
 exact f _ J E (g.trans z) rfl
theorem zUi{kvs:List (Key×α)}{m:Option α}{mi:Option Str}{te q:TE}(i:Nat)(A:sl[i]?=some (.od kvs))(y:sl.all (λs=>!dj s)=true)(I:Ex B sl .fz te m)(M:Ex B sl .hp q mi) :
  Sn B sl (BL (cP i) q te) (λys=>sl.set i (.od ys)) (m.bind λa=>mi.bind λk=>iT kvs k a):=λys C G D σ H s k=>by
 obtain⟨a,f,R,T,d⟩:=sI C
 unfold iT at d
 split at d
 case isFalse=>cases d
 rename_i P
 cases d
 obtain⟨F,O,g,z⟩:=s
 refine I a R F O H σ _ z λv N L h r=>?_
 obtain⟨p,ks,x,h2,h3,_⟩:=(z.grow h).Gm A y
 refine⟨_,x,?_⟩
 refine M f T N O L σ _ (z.grow h) λw S H2 b J=>?_
 cases J
 obtain⟨p',l,j,o,c,n⟩:=((z.grow h).grow b).Gm A y
 have e:=x.symm.trans j
 cases e
 obtain⟨E,Q⟩:=n (putK l (abo f) v) (pK kvs (abo f) a) (c.put (Rp.mono b.ff r))
 exact⟨p,_,rfl,sE.k (k:=abo f) o (Cg (by rw[c.len];exact P)),k _ _ ⟨S,E,(g.trans h.ff).trans b.ff,Q⟩⟩
end
abbrev LLI:=List LI
abbrev Em:=List (Str×LI)
structure iU(p:Addr) where
 u:Unit
noncomputable def Xl(C:Addr)(h:LLI->Option Unit)(f:Em->Int->Option Unit)(i:LLI->Int->Option Unit)(e g:LLI->Option LLI)(xss:LLI)(mo:Option Em)(fo:Option LLI):Option (aF C) :=
 (h xss).bind λ_=>(f (mo.getD []) (xss.length:Int)).bind λ_=>(i (fo.getD []) (xss.length:Int)).bind λ_=>(e xss).bind λa=>(aK (λ_=>some true) (λx:Str×LI=>some (x.1,x.2)) (mo.getD [])).bind λb =>
  (e (fo.getD [])).bind λc=>(g a).bind λd=>some ⟨a,b,c,d⟩
theorem uS{α β:Type}{m:Option α}{f:α->Option β}{b:β}(h:m.bind f=some b):∃a,m=some a/\f a=some b:=by
 cases m with
 |none=>cases h
 |some a=>exact⟨a,rfl,h⟩
section
variable{K:Frag}{C:Addr}{B:Bs}{sl:SL K}{F H:Hp}{O:Own}{σ:St}
instance:Rp K (iU p):=⟨λ_ v _=>v=.ref p,λ_ h=>h⟩
noncomputable def qF(K:Frag)(C:Addr)(mk:LLI->Option Em->Option LLI->Option (aF C)):Sp:=λj H Q _=>∃(p i:Addr)(g d f:V)(a:LLI)(h:Option Em)(e:Option LLI)(M:aF C),j=[.ref p,g,d,f]/\H p=some (.ins C i []) /\
 rp K (hid H p) g a/\rp K (hid H p) d h/\rp K (hid H p) f e/\mk a h e=some M/\∀c:Hp,(∀b o,b≠p->H b=some o->c b=some o)->rp K (dif c (hid H p)) (.ref p) M->Q .non c
variable{mk:LLI->Option Em->Option LLI->Option (aF C)}
theorem zMx{a:Hp}{x d:Addr}(m:a x=none)(j:a d=none){l h i:V}{xss:LLI}{mo:Option Em}{fo:Option LLI}{c:aF C}(z:rp K a l xss)(r:rp K a h mo)(y:rp K a i fo)(p:mk xss mo fo=some c){Q:VK}{E:XK}(k:∀f:Hp,Same a f->rp K (dif f a) (.ref x) c->Q (.ref x) f):qF K C mk [.ref x,l,h,i] (upd (upd a d (.own x)) x (.ins C d [])) (λv f=>v=.non/\Q (.ref x) f) E:=by
 have n:Same a (upd (upd a d (.own x)) x (.ins C d [])):=λb o e=>by rw[zT (zQ e m),zT (zQ e j)];exact e
 have g:Same a (hid (upd (upd a d (.own x)) x (.ins C d [])) x):=λb o e=>by
  unfold hid
  rw[if_neg (zQ e m)]
  exact n b o e
 refine⟨x,d,l,h,i,xss,mo,fo,c,rfl,zM,Rp.mono g z,Rp.mono g r,Rp.mono g y,p,λf t w=>⟨rfl,?_⟩⟩
 refine k f (λb o e=>t b o (zQ e m) (n b o e)) (Rp.mono (λb o e=>?_) w)
 have s:a b=none:=by
  cases q:a b with
  |none=>rfl
  |some u =>
   have:=g b u q
   unfold dif at e
   grind
 rw[xX s]
 exact aV _ _ e
theorem zS5(D:Ex B sl .hp u t)(h2:Ex B sl .hp E p)(I:Ex B sl .hp v o) :
  En B sl (QT C (qF K C mk) [] E0 (yW u (yW E (yW v bI)))) (t.bind λa=>p.bind λb=>o.bind λc=>mk a (some b) (some c)):=λc e F O H σ Q s r=>by
 obtain⟨a,rfl,e⟩:=uS e
 obtain⟨b,rfl,e⟩:=uS (m:=p) e
 obtain⟨d,rfl,e⟩:=uS (m:=o) e
 refine D a rfl F O H σ _ s λv1 A S l z=>?_
 refine h2 b rfl A O S σ _ (s.grow l) λN R M f n=>?_
 refine I d rfl R O M σ _ ((s.grow l).grow f) λw J h i q=>?_
 intro x dx L j nex
 have g:=n
 have k:=q
 exact zMx L j (Rp.mono (f.hh.trans i.hh) z) (show rp K h N (some b) from⟨Nn.nn g,Rp.mono i.hh n⟩) (show rp K h w (some d) from⟨Nn.nn k,q⟩) e λy P G=>r _ J h y (l.trans (f.trans i)) P G
theorem zS6(u:Ex B sl .hp o n)(h2:Ex B sl .hp v j) :
  En B sl (QT C (qF K C mk) [.non] E0 (yW o (yW v bI))) (n.bind λa=>j.bind λb=>mk a (some b) none):=λc d F O H σ Q s p=>by
 obtain⟨a,rfl,d⟩:=uS d
 obtain⟨b,rfl,d⟩:=uS (m:=j) d
 refine u a rfl F O H σ _ s λv1 t l k r=>?_
 refine h2 b rfl t O l σ _ (s.grow k) λw D h i g=>?_
 intro x dx y e nex
 have f:=g
 exact zMx y e (Rp.mono i.hh r) (show rp K h w (some b) from⟨Nn.nn f,g⟩) (rfl) d λq z A=>p _ D h q (k.trans i) z A
theorem Nh(h:b≠p):hid H p b=H b:=by unfold hid;grind
theorem Rq:hid H p p=none:=by unfold hid;grind
theorem Uo:Same (hid H p) H:=λb o e=>by
 by_cases q:b=p
 ·subst q;rw[Rq] at e;cases e
 ·rw[Nh q] at e;exact e
theorem Rr(s:Same H H'):Same (hid H p) (hid H' p):=λb o e=>by
 by_cases q:b=p
 ·subst q;rw[Rq] at e;cases e
 ·rw[Nh q] at e ⊢;exact s b o e
theorem JL:hid (upd H p o) p=hid H p:=by
 funext b
 by_cases q:b=p
 ·subst q;rw[Rq,Rq]
 ·rw[Nh q,Nh q,zT q]
theorem Xm(kp:∀b o,b≠p->H b=some o->a b=some o)(d:a p≠none):Same (dif H' a) (dif (hid H' p) (hid H p)):=λb o e=>by
 have g:a b=none:=by
  cases q:a b with
  |none=>rfl
  |some u=>unfold dif at e;grind
 have c:b≠p:=λq=>d (by grind)
 rw[xX g] at e
 have f:hid H p b=none:=by
  rw[Nh c]
  cases q:H b with
  |none=>rfl
  |some u=>grind
 rw[xX f,Nh c]
 exact e
theorem zXy(e:ak (K:=K) ⟨hid c p,c⟩ (hid c p) (lo (hid c p) [] c) c sl σ []):At (K:=K) ⟨hid c p,c⟩ sl (hid c p) [] c σ :=
 ⟨⟨Uo,.refl _,λb o h=>.inl h,λx d=>(by cases d),by simp⟩,e⟩
end
end Ts
namespace sW
open PySem
def Rz(xs:Array Nat):Prop:=∀i k a b:Nat,i<k->xs[i]?=some a->xs[k]?=some b->a<b
theorem zI7(hr:Rz xs):∀(fuel lo hi:Nat),hi-lo<=fuel->lo<=hi->hi<=xs.size->(∀i a,i<lo->xs[i]?=some a->a<j)->(∀i a,hi<=i->xs[i]?=some a->j<=a) ->
  (below.go xs j fuel lo hi)<=xs.size/\(∀i a,i<below.go xs j fuel lo hi->xs[i]?=some a->a<j)/\(∀i a,below.go xs j fuel lo hi<=i->xs[i]?=some a->j<=a)
 |0,lo,hi,hf,hl,hz,h1,h2=>by
  have e:lo=hi:=by omega
  subst e
  unfold below.go
  exact⟨hz,h1,h2⟩
 |fuel+1,lo,hi,hf,hl,hz,h1,h2=>by
  unfold below.go
  by_cases hlt:lo<hi
  ·rw[if_pos hlt]
   have hm:(lo+hi)/2<hi:=by omega
   have hm0:lo<=(lo+hi)/2:=by omega
   have hms:(lo+hi)/2<xs.size:=by omega
   have e:xs.getD ((lo+hi)/2) j=xs[(lo+hi)/2]:=by simp[Array.getD,hms]
   dsimp only
   rw[e]
   by_cases hc:xs[(lo+hi)/2]<j
   ·rw[if_pos hc]
    refine zI7 hr fuel _ hi (by omega) (by omega) hz (λi a hi' ha=>?_) h2
    by_cases hi2:i=(lo+hi)/2
    ·subst hi2
     rw[aa3 hms] at ha
     cases ha
     exact hc
    ·exact aei (hr i ((lo+hi)/2) a _ (by omega) ha (aa3 hms)) hc
   ·rw[if_neg hc]
    refine zI7 hr fuel lo _ (by omega) (by omega) (by omega) h1 (λi a hi' ha=>?_)
    by_cases hi2:i=(lo+hi)/2
    ·subst hi2
     rw[aa3 hms] at ha
     cases ha
     omega
    ·have:=hr ((lo+hi)/2) i _ a (by omega) (aa3 hms) ha
     omega
  ·rw[if_neg hlt]
   have e:lo=hi:=by omega
   subst e
   exact⟨hz,h1,h2⟩
theorem zI6(b:Rz xs)(j:Nat):below xs j<=xs.size/\(∀i a,i<below xs j->xs[i]?=some a->a<j)/\(∀i a,below xs j<=i->xs[i]?=some a->j<=a) :=
 zI7 b xs.size 0 xs.size (by lia) (abg _) (aa0 _) (λi a h=>absurd h (ab7 _)) (λi a h1 h2=>by
  grind)
theorem Ni{α:Type}(xs:Array α)(p:Nat)(x:α)(hp:p<=xs.size)(i:Nat):(insertAt xs p x)[i]?=if i<p then xs[i]? else if i=p then some x else xs[i-1]?:=by
 have e:insertAt xs p x=(xs.toList.take p++x::xs.toList.drop p).toArray:=by
  unfold insertAt
  apply Array.ext'
  simp
  rw[List.take_of_length_le (by rw[length_drop,length_toList];exact aa0 _)]
 rw[e,getElem?_toArray]
 have hl:p<=xs.toList.length:=by simpa using hp
 by_cases h1:i<p
 ·rw[if_pos h1,getElem?_append_left (by rw[length_take];omega),getElem?_take_of_lt h1,getElem?_toList]
 ·rw[if_neg h1,getElem?_append_right (by rw[length_take];omega),length_take,Nat.min_eq_left hl]
  by_cases h2:i=p
  ·subst h2;simp
  ·rw[if_neg h2]
   obtain⟨k,rfl⟩:∃k,i=p+1+k:=⟨i-(p+1),by omega⟩
   rw[show p+1+k-p=k+1 by omega,List.getElem?_cons_succ,List.getElem?_drop,getElem?_toList]
   congr 1
   omega
theorem Nj(hr:Rz xs)(hn:xs[below xs j]?≠some j):Rz (insertAt xs (below xs j) j):=by
 obtain⟨b1,b2,b3⟩:=zI6 hr j
 intro i k a b hik ha hb
 rw[Ni _ _ _ b1] at ha hb
 generalize below xs j=p at *
 have up:∀m c,p<=m->xs[m]?=some c->j<c:=λm c hm hc=>by
  have h1:=b3 m c hm hc
  by_cases e:m=p
  ·subst e
   have:c≠j:=λz=>hn (by rw[hc,z])
   omega
  ·have hp:p<xs.size:=by
    have:m<xs.size:=by
     by_cases z:m<xs.size
     ·exact z
     ·rw[ab4 (by omega)] at hc;cases hc
    omega
   have h2:=hr p m _ c (by omega) (aa3 hp) hc
   have h3:=b3 p _ (aa0 _) (aa3 hp)
   omega
 by_cases i1:i<p
 ·rw[if_pos i1] at ha
  have ja:=b2 i a i1 ha
  by_cases k1:k<p
  ·rw[if_pos k1] at hb;exact hr i k a b hik ha hb
  ·rw[if_neg k1] at hb
   by_cases k2:k=p
   ·rw[if_pos k2] at hb;cases hb;exact ja
   ·rw[if_neg k2] at hb
    exact aei ja (up (k-1) b (by omega) hb)
 ·rw[if_neg i1] at ha
  have k1:¬k<p:=by omega
  have k2:¬k=p:=by omega
  rw[if_neg k1,if_neg k2] at hb
  by_cases i2:i=p
  ·rw[if_pos i2] at ha;cases ha;exact up (k-1) b (by omega) hb
  ·rw[if_neg i2] at ha
   exact hr (i-1) (k-1) a b (by omega) ha hb
def Free(t:SetTable)(j:Nat):Prop:=t.place[below t.place j]?≠some j
theorem zJo{t:SetTable}(h:∀i,t.slot j≠.live i):Free t j:=λe=>by
 refine h (below t.place j) ?_
 unfold SetTable.slot
 simp[e]
theorem zEb:∀(a:Nat)(p:SetTable.Probe)(j:Nat)(d:Option Nat),(∀d,p.dummy=some d->Free t d)->probe.go t f h a p=some (.empty j d)->Free t j/\∀e,d=some e->Free t e
 |0,p,j,d,g,e=>by unfold probe.go at e;cases e
 |a+1,p,j,d,g,e=>by
  have b:∀q:SetTable.Probe,(t.advance q).dummy=q.dummy:=λq=>by
   unfold SetTable.advance
   grind
  unfold probe.go at e
  cases c:t.slot p.j with
  |empty =>
   rw[c] at e
   cases e
   exact⟨zJo (λi z=>by grind),g⟩
  |dummy =>
   rw[c] at e
   refine zEb a _ j d (λl k=>?_) e
   rw[b] at k
   cases k
   exact zJo λi z=>by grind
  |live i =>
   rw[c] at e
   dsimp only at e
   split at e
   ·cases e
   ·exact zEb a _ j d (λl k=>g l (by grind)) e
theorem zIz{t:SetTable}(e:t.freeSlot h=some (j,b)):Free t j:=by
 unfold SetTable.freeSlot at e
 split at e
 ·rename_i c d a
  cases e
  have q:=zEb _ _ c d (λd f=>by cases f) a
  cases d with
  |none=>exact q.1
  |some d=>grind
 grind
structure Tb(led:Bool)(t:SetTable):Prop where
 led:t.led=led
 rz:t.plain=true->Rz t.place
theorem Xn(h:Tb led t)(n:Nat):Tb led (t.standIn n):=⟨h.led,λz=>by cases z⟩
theorem Uq(h:Tb led t)(n:Nat):Tb led (t.orStandIn n):=by
 unfold SetTable.orStandIn
 split
 ·exact h
 ·exact Xn h n
theorem Nk(a:Tb led t)(es:Array (Int×Value))(h:Int)(x:Value):Tb led (layNew t es h x).2.1:=by
 unfold layNew
 cases e:t.freeSlot h with
 |none=>exact Xn a _
 |some q =>
  obtain⟨j,b⟩:=q
  dsimp only
  refine Uq (t:=(t.put j).1) ⟨a.led,λz=>?_⟩ _
  exact Nj (a.rz z) (zIz e)
theorem zJv(f:Nat->Option Nat)(n:Nat):Rz (((abd n).filterMap λj=>(f j).map (j,·)).map (·.1)).toArray:=by
 have p:(((abd n).filterMap λj=>(f j).map (j,·)).map (·.1)).Pairwise (· < ·):=by
  rw[List.pairwise_map]
  refine Pairwise.filterMap _ ?_ (List.pairwise_lt_range (n:=n))
  intro a b g x c y d
  cases o:f a with
  |none=>rw[o] at c;cases c
  |some u =>
   cases h:f b with
   |none=>rw[h] at d;cases d
   |some v =>
    rw[o] at c
    rw[h] at d
    cases c
    cases d
    exact g
 intro i k a b e m l
 rw[getElem?_toArray] at m l
 obtain⟨q,t⟩:=aa8.mp m
 obtain⟨r,s⟩:=aa8.mp l
 rw[<-t,<-s]
 exact List.pairwise_iff_getElem.mp p i k q r e
theorem zT8(a:Tb led t)(es:Array (Int×Value))(n:Nat):Tb led (relayAll t es n).2.1:=by
 unfold relayAll
 cases e:t.relaid (es.map (·.1)) n with
 |none=>exact Xn a _
 |some q =>
  obtain⟨t',order⟩:=q
  dsimp only
  split
  ·unfold SetTable.relaid SetTable.laid at e
   cases b:SetTable.layClean (SetTable.sizeAbove n-1) (es.map (·.1)) with
   |none=>rw[b] at e;cases e
   |some owner =>
    rw[b] at e
    cases e
    exact⟨a.led,λ_=>zJv _ _⟩
  ·exact Xn a _
theorem zT9(led:Bool):Tb led (.fresh 0 0 led):=⟨rfl,λ_=>λi k a b _ h _=>by
 have:(#[]:Array Nat)[i]?=some a:=h
 simp at this⟩
section
variable{prog:Program}{w:World}{κ:Type}[DecidableEq κ](knd:KeyKind prog w κ)(dec:Value->κ)
def Good(led:Bool)(h:Heap)(a:Addr)(ks:List κ):Prop :=
 ∃o b c t,h.get? a=some o/\o.ExactSet/\o.data=.set b c t/\ElemsOf knd b.toList/\(b.toList.map λe=>dec e.2).Perm ks/\ks.Nodup/\b.size<scanBound/\t.fits b.size=true/\Tb led t
variable{knd}{dec}{led:Bool}{A:Around}{E:Value->Shared->Prop}{s:Shared}
theorem Good.len(g:Good knd dec led h a ks):ks.length<scanBound:=by
 obtain⟨o,es,ep,t,_,_,_,_,p,_,b,_⟩:=g
 rw[<-p.length_eq,length_map]
 exact b
theorem Good.keep{h':Heap}(g:Good knd dec led h a ks)(k:∀o,h.get? a=some o->h'.get? a=some o):Good knd dec led h' a ks:=by
 obtain⟨o,d,c,t,e,b⟩:=g
 exact⟨o,d,c,t,k _ e,b⟩
theorem zKl(hdec:∀k v,knd.is k v=true->dec v=k)(b:ElemsOf knd es)(k:κ):es.findIdx? (λe=>knd.is k e.2)=none↔k∉es.map λe=>dec e.2:=by
 constructor
 ·intro h c
  obtain⟨e,d,rfl⟩:=mem_map.mp c
  obtain⟨⟨k',hk,_⟩,_⟩:=b e d
  grind
 grind
theorem JM{h:Heap}(c:h.get? a=some o)(b:o.data=.set es ep t):(h.update a (afa es' t')).get? a=some { o with data:=.set es' (ep+1) t' }:=by
 have q:=get?_update_self (afa es' t') c (by rw[putSet_of es' t' b];rfl)
 rw[putSet_of es' t' b] at q
 exact q
theorem zIy{Q:Unit->Shared->Prop}(h:Q () a):wpAny (model prog w) A (match b with|true=>rule "set.scan.the-table-gave-way" | false=>pure ()) Q E a:=by
 cases b
 ·exact aax h
 ·exact aea h
theorem zN7{g:Bool->Sem Unit}(hg:∀(b:Bool) (s₁:Shared) (Q':Unit->Shared->Prop),Q' () s₁->wpAny (model prog w) A (g b) Q' E s₁){es1:Array (Int×Value)}{t2:SetTable}{R:Option Bool->Shared->Prop}(ho:s.heap.get? a=some o)(hx:o.ExactSet)(hd:o.data=.set es ep t)(hel:ElemsOf knd es1.toList)(hp:(es1.toList.map λe=>dec e.2).Perm ks)(nd:ks.Nodup)(hb:es1.size<scanBound)(hf:t2.fits es1.size=true)(tb:Tb led t2)(h:∀h',SameBut a s.heap h'->Good knd dec led h' a ks->R (some true) { s with heap:=h' }) :
  wpAny (model prog w) A (storeSet a es1 t2 >>= λ_=>if(!dum&&t2.tooFull)=true then(g (relayAll t2 es1 (grown es1.size)).2.2 >>= λ_=>storeSet a (relayAll t2 es1 (grown es1.size)).1 (relayAll t2 es1 (grown es1.size)).2.1 >>= λ_=>pure (some true)) else pure (some true)) R E s:=by
 refine aaw (aci ho hd ?_ (acg hb))
 have o1:=JM (es':=es1) (t':=t2) ho hd
 have sb:=SameBut.update s.heap a (afa es1 t2)
 split
 ·have rp:=relayAll_perm t2 es1 (grown es1.size)
  have rf:=relayAll_fits t2 es1 (grown es1.size)
  have rt:=zT8 tb es1 (grown es1.size)
  generalize relayAll t2 es1 (grown es1.size)=L at rp rf rt ⊢
  obtain⟨es2,t3,gv⟩:=L
  dsimp only at rp rf rt ⊢
  have sz:es2.size=es1.size:=by rw[<-length_toList,rp.length_eq,length_toList]
  refine aaw (hg _ _ _ (aaw (aci o1 rfl (aax (h _ (sb.trans (SameBut.update _ a _)) ⟨_,es2,_,t3,JM (es':=es2) (t':=t3) o1 rfl,hx,rfl,hel.perm rp,(rp.map _).trans hp,nd,by rw[sz];exact hb,rf,rt⟩)) (acg (by rw[sz];exact hb)))))
 ·exact aax (h _ sb ⟨_,es1,_,t2,o1,hx,rfl,hel,hp,nd,hb,hf,tb⟩)
theorem Nm(h:Tb led t):Tb led { t with plain:=false }:=⟨h.led,λz=>by cases z⟩
theorem Xo(f:∀k v,knd.is k v=true->dec v=k){Q:Bool->Shared->Prop}(N:knd.is k x=true)(K:x.scannable=true)(g:Good knd dec led s.heap a ks)(i:ks.length+1<scanBound)(h:∀(h':Heap) (b:Bool),SameBut a s.heap h'->Good knd dec led h' a (if k∈ks then ks else k::ks)->Q b { s with heap:=h' }) :
  wpAny (model prog w) A (setAddHashed a x (knd.hash k)) Q E s:=by
 obtain⟨o,d,Z,t,r,O,F,c,G,X,V,S,U⟩:=g
 have n:d.size=ks.length:=by rw[<-G.length_eq,length_map,length_toList]
 unfold setAddHashed setAddHashedIn
 refine abp (aaw (aa9 r F S ?_))
 dsimp only
 rw[byScan_of K V c]
 simp only[↓reduceIte]
 unfold setAddByScan
 refine aaw (aaw (aea (aaw (wpAny_setScan_of N r F S c ?_))))
 have T:=zKl f c k
 cases P:List.findIdx? (λe=>knd.is k e.2) d.toList with
 |some j =>
  have M:k∈ks:=by
   refine G.mem_iff.mp (adh λz=>?_)
   rw[T.mpr z] at P
   cases P
  dsimp only
  refine aax (aax ?_)
  have q:=h s.heap false (SameBut.refl a s.heap)
  rw[if_pos M] at q
  exact q ⟨o,d,Z,t,r,O,F,c,G,X,V,S,U⟩
 |none =>
  have M:k∉ks:=λz=>T.mp P (G.mem_iff.mpr z)
  dsimp only
  have m:=layNew_perm t d (knd.hash k) x
  have H:=layNew_fits t d (knd.hash k) x
  have C:=Nk U d (knd.hash k) x
  generalize layNew t d (knd.hash k) x=L at m H C ⊢
  obtain⟨B,t1,D,gave⟩:=L
  dsimp only at m H C ⊢
  rw[Array.toList_push] at m
  have W:B.size=d.size+1:=by rw[<-length_toList,m.length_eq,length_append,length_toList];rfl
  have y:(B.toList.map λe=>dec e.2).Perm (k::ks):=by
   refine(m.map _).trans ?_
   rw[map_append]
   show(_++[dec x]).Perm _
   rw[f k x N]
   exact Perm.trans (l₂:=k::d.toList.map λ(e:Int×Value)=>dec e.2) List.perm_append_comm (G.cons k)
  have I:∀h',SameBut a s.heap h'->Good knd dec led h' a (k::ks)->Q true { s with heap:=h' }:=λh' J p=>by
   have q:=h h' true J
   rw[if_neg M] at q
   exact q p
  have u:(k::ks).Nodup:=nodup_cons.mpr ⟨M,X⟩
  refine aaw (zIy ?_)
  split
  ·refine aaw ?_
   rw[hashByValue_scannable 8 K]
   refine aax ?_
   refine zN7 (led:=led) (dum:=D) (λb Y Q' R=>zIy R) r O F ((c.push N K).perm m) y u (by rw[W,n];exact i) ?_ ?_ λh' J p=>?_
   ·split
    ·exact H
    ·exact SetTable.fits_plain_off H
   ·split
    ·exact C
    ·exact Nm C
   ·exact aax (I h' J p)
  ·refine aaw (aax ?_)
   simp only[↓reduceIte]
   refine zN7 (led:=led) (dum:=D) (λb Y Q' R=>zIy R) r O F ((c.push N K).perm m) y u (by rw[W,n];exact i) H C λh' J p=>?_
   exact aax (I h' J p)
end
open PySem PySem.Spec PyProof.Rows
section
variable{κ:Type}[DecidableEq κ]
def met(a:Nat->κ):Nat->List κ
 |0=>[]
 |i+1=>if a i∈met a i then met a i else a i::met a i
theorem zSc(a:Nat->κ):∀i,(met a i).length<=i
 |0=>aa0 _
 |i+1=>by
  have ih:=zSc a i
  unfold met
  grind
theorem zSd(a:Nat->κ)(k:κ):∀i,k∈met a i↔∃j,j<i/\a j=k
 |0=>by simp[met]
 |i+1=>by
  have ih:=zSd a k i
  show k∈(if a i∈met a i then met a i else a i::met a i)↔_
  grind
variable{prog:Program}{w:World}{knd:KeyKind prog w κ}{dec:Value->κ}{led:Bool}{A:Around}{R:Result->Shared->Prop}{I:Addr}{fp wr:List Addr}{G:Array GenState->Array GenState->Prop}{n:Nat}{P:Nat->Value->Prop}{St:Nat->Shared->Prop}
theorem GZ(p:∀k v,knd.is k v=true->dec v=k)(W:WalksS prog w A.in1 I fp wr G n P St)(S:Addr)(u:S∉fp)(a:Nat->κ)(r:∀i v,P i v->knd.is (a i) v=true/\v.scannable=true)(f:n+1<scanBound) :
  ∀(k i:Nat)(s:Shared),n-i=k->i<=n->St i s->Good knd dec led s.heap S (met a i)->(∀s',Moved (S::wr) G s s'->Good knd dec led s'.heap S (met a n)->R (.ok (.ret .none)) s')->codeAny (model prog w) A (.builtin "set.update.loop" ⟨[.ref S,.ref I],[]⟩) R s:=by
 have c:S∉wr:=λh=>u (W.sub _ h)
 have j:∀b∈wr,b∈S::wr:=λb f=>mem_cons_of_mem _ f
 intro k
 induction k with
 |zero =>
  intro i s H E st g d
  have e:i=n:=by lia
  subst e
  refine ac7 F.entry_set_update_loop ?_
  rw[acs adv _]
  refine aaw (m:=pyNext (.ref I)) (W.done s _ _ st λs' l=>?_)
  exact aax (d s' (l.mono j) (g.keep λo h=>l.heap S o c h))
 |succ k ih =>
  intro i s H E st g d
  have C:i<n:=by lia
  refine ac7 F.entry_set_update_loop ?_
  rw[acs adv _]
  refine aaw (m:=pyNext (.ref I)) (W.item i s _ _ C st λv s' J z l=>?_)
  obtain⟨q,x⟩:=r i v J
  refine aaw (m:=holding [v] (setAdd S v)) (abp ?_)
  unfold setAdd
  refine abp (aaw (knd.pyHash (k:=a i) q ?_))
  refine Xo (led:=led) (s:={ s' with toks:=s'.toks+1 }) p q x (g.keep λo h=>l.heap S o c h) (by have:=zSc a i;lia) λh' b D L=>?_
  refine aax ⟨aed adv _,ih (i+1) _ (by lia) C (W.frame _ s' _ _ z (acf _) λb f o e=>?_) L λy t B=>?_⟩
  ·rw[D.2 b (λh:b=S=>u (by rw[<-h];exact f))];exact e
  ·refine d y (Moved.trans W.gtrans ((l.mono j).then_heap (acf _) λb o f e=>?_) t) B
   rw[D.2 b (λh:b=S=>f (h▸mem_cons_self))];exact e
end
section
variable{prog:Program}{w:World}{A:Around}{E:Value->Shared->Prop}{s:Shared}
def yC(w:World):Bool:=!w.params.followText "set-order"
theorem zVh(a:Value){Q₁:Value->Shared->Prop}(h:Q₁ (.ref s.heap.objs.size) { s with heap:=s.heap.push { cls:=.type "set",dict:=none,data:=.set #[] 0 (.fresh 0 0 (yC w)) } }) :
  codeAny (model prog w) A (.call (.builtin "set.__new__") ⟨[.type "set",a],[]⟩) (wants Q₁ E) s:=by
 refine codeAny_of_tree (aaw (m:=checkBuiltinCall "set.__new__" ⟨[.type "set",a],[]⟩) (wpAny_of_eq (F.newCall_set_1 a) (aax ⟨aed F.plain_set_new _,ac7 F.entry_set_new ?_⟩)))
 rw[acs F.plain_set_new _]
 unfold Builtin.«set.__new__» Builtin.Frozenset.newClass
 have sub:=aex
 obtain⟨hp,g,d,tk,os⟩:=s
 dsimp only
 wp_walk
 refine adg (aax ?_)
 dsimp only
 simp only[newObj]
 exact aaw (wpAny_alloc (aax (aax h)))
theorem Ur{κ:Type}[DecidableEq κ]{knd:KeyKind prog w κ}{dec:Value->κ}{h:Heap}(e:h.get? a=some { cls:=.type "set",dict:=none,data:=.set #[] 0 (.fresh 0 0 led) }):Good knd dec led h a [] :=
 ⟨_,#[],0,.fresh 0 0 led,e,⟨rfl,rfl,rfl⟩,rfl,λx hx=>by simp at hx,by simp,List.nodup_nil,by show 0<4096;decide,by cases led<;>rfl,zT9 led⟩
set_option maxHeartbeats 4000000 in
theorem zWh{κ:Type}[DecidableEq κ]{knd:KeyKind prog w κ}{dec:Value->κ}(hdec:∀k v,knd.is k v=true->dec v=k){Q:Value->Shared->Prop}(val:Nat->κ)(hh:A.handled=none)(hl:s.heap.IsList l items)(hi:∀(i:Nat) (v:Value),items[i]?=some v->knd.is (val i) v=true/\v.scannable=true)(hb:items.size+1<scanBound)(h:∀(h':Heap) (tk:Nat),Good knd dec (yC w) h' s.heap.objs.size (met val items.size)->(∀b o,b<s.heap.objs.size->s.heap.get? b=some o->h'.get? b=some o)->Q (.ref s.heap.objs.size) { s with heap:=h',toks:=tk }) :
  wpAny (model prog w) A (call (.type "set") [.ref l]) Q E s:=by
 obtain⟨c,tl,hmro⟩:=F.called_set.mro
 have hmade:=F.called_set.made
 have hsub:=F.called_set.sub
 refine wpAny_call (codeAny_of_tree (aax ⟨Code.quiet_builtin _ (by decide +kernel),ac7 F.entry_type_call ?_⟩))
 rw[Around.under_plain (weight_type_call_type "set" [.ref l] []) rfl]
 have h1:=F.called_set.notType
 have h2:=F.called_set.canCreate
 have hct:=F.typeCall_set_1 (.ref l)
 repeat(any_goals (first|assumption|wp_step))
 refine adf (zVh (.ref l) (E:=E) (Q₁:=λobj s₁=>obj=.ref s.heap.objs.size/\s₁={ s with heap:=s.heap.push { cls:=.type "set",dict:=none,data:=.set #[] 0 (.fresh 0 0 (yC w)) } }) ⟨rfl,rfl⟩) λr s₁ hr=>?_
 cases r with
 |error e=>exact hr
 |ok fl =>
  cases fl with
  |ret obj =>
   obtain⟨rfl,rfl⟩:=hr
   have hS:(s.heap.push { cls:=.type "set",dict:=none,data:=.set #[] 0 (.fresh 0 0 (yC w)) }).get? s.heap.objs.size=some { cls:=.type "set",dict:=none,data:=.set #[] 0 (.fresh 0 0 (yC w)) }:=get?_push_size _ rfl
   have hT:Shared.TypeIs { s with heap:=s.heap.push { cls:=.type "set",dict:=none,data:=.set #[] 0 (.fresh 0 0 (yC w)) } } (.ref s.heap.objs.size) "set":=⟨_,hS,rfl⟩
   have hli:=F.called_set.init.lookup
   have hbi:=F.called_set.init.bind (.ref s.heap.objs.size)
   repeat(any_goals (first|assumption|wp_step))
   refine adf (codeAny_call_builtin (R:=wants (λr s₂=>r=.none/\∃h' tk,s₂={ s with heap:=h',toks:=tk }/\Good knd dec (yC w) h' s.heap.objs.size (met val items.size)/\(∀b o,b<s.heap.objs.size->s.heap.get? b=some o->h'.get? b=some o)) E)
    F.called_set.init.plain F.entry_set_init (check_set_init_1 hT ?_)) λr₂ s₂ hr₂=>?_
   ·obtain⟨ol,hol,hcl,nl,hdl⟩:=hl
    obtain⟨ocls,odict,odata,oslots⟩:=ol
    simp only at hcl hdl
    subst hcl
    subst hdl
    have hol':(s.heap.push { cls:=.type "set",dict:=none,data:=.set #[] 0 (.fresh 0 0 (yC w)) }).get? l=some { cls:=.type "list",dict:=odict,data:=.seq items nl,slots:=oslots }:=get?_push_of_some _ hol
    have hsls:=F.sub_list_set
    have hslf:=F.sub_list_frozenset
    have hne:(ad8 "list" == ad8 "dict")=false:=by decide
    have hl1:(s.heap.push { cls:=.type "set",dict:=none,data:=.set #[] 0 (.fresh 0 0 (yC w)) }).IsList l items:=⟨_,hol',rfl,nl,rfl⟩
    unfold Builtin.«set.__init__» noKeywords Builtin.Frozenset.updateFrom
    generalize hPI:pyIter=PI
    wp_walk
    subst hPI
    refine ad4 hl1 (aaw (wpAny_runValue ?_))
    have hlS:l<s.heap.objs.size:=lt_size hol
    have sz:(s.heap.push { cls:=.type "set",dict:=none,data:=.set #[] 0 (.fresh 0 0 (yC w)) }).objs.size=s.heap.objs.size+1:=size_push ..
    have hneI:l≠(s.heap.push { cls:=.type "set",dict:=none,data:=.set #[] 0 (.fresh 0 0 (yC w)) }).objs.size:=by rw[sz];exact aa4 (adz hlS)
    refine GZ (led:=yC w) hdec ((Walks.list (by simp[hh]) _ l hneI items).toS) s.heap.objs.size (by
     rw[sz]
     intro z
     rcases mem_cons.mp z with z|z
     ·exact absurd z (aa4 (ab9 _))
     ·exact absurd (mem_singleton.mp z) (ad0 hlS)) val hi hb (items.size-0) 0 _ (by omega) (abg _) ⟨⟨_,get?_push_size _ rfl,rfl,rfl⟩,hl1.push _⟩ (Ur (get?_push_of_some _ hS)) λs' hm g'=>?_
    obtain⟨h',g1,d1,tk',os1⟩:=s'
    have eg:g1=s.gens:=hm.gens
    have ed:d1=s.drawn:=hm.drawn
    have eo:os1=s.os:=hm.os
    subst eg ed eo
    refine aax ?_
    refine aax ⟨rfl,h',tk',rfl,g',λb o hb e=>hm.heap b o (λz=>?_) (get?_push_of_some _ (get?_push_of_some _ e))⟩
    rcases mem_cons.mp z with z|z
    ·exact absurd z (aa4 hb)
    ·have z:=mem_singleton.mp z
     rw[sz] at z
     exact absurd z (aa4 (adz hb))
   ·cases r₂ with
    |error e=>exact hr₂
    |ok fl₂ =>
     cases fl₂ with
     |ret r =>
      obtain⟨rfl,h',tk,rfl,hS',hk'⟩:=hr₂
      repeat(any_goals (first|assumption|wp_step))
      exact h _ _ hS' hk'
     |_=>exact hr₂.elim
  |_=>exact hr.elim
end
theorem zMy:Manifest.owners.lookup (String.ofList ['r','o','t','a','r','e','t','i','_','t','e','s'].reverse)=some Manifest.sig_set_iterator:=by kernel_rfl
theorem kW:Slot "set_iterator" "__next__" "set_iterator.__next__":=.of (owner:="set_iterator") (n:="__next__") (by rw[aey,ad6];kernel_rfl) (by decide +kernel) (by decide +kernel) (by decide +kernel) (by first|exact .inl (by decide +kernel)|grind) (by rw[isSubtype_type];kernel_rfl)
theorem zIa:entryFor table "set_iterator.__next__" = some Builtin.«set_iterator.__next__»:=entryFor_of_tree (by kernel_rfl)
theorem zJq(a:Value):argsOk "set_iterator.__next__" ⟨[a],[]⟩:=by unfold argsOk;rw[signature?_of (n:=['_','_','t','x','e','n','_','_']) (by kernel_rfl) zMy];kernel_rfl
theorem zQ6:Slot "set_iterator" "__iter__" "set_iterator.__iter__":=.of (owner:="set_iterator") (n:="__iter__") (by rw[aey,ad6];kernel_rfl) (by decide +kernel) (by decide +kernel) (by decide +kernel) (by first|exact .inl (by decide +kernel)|exact .inr (by decide +kernel)) (by rw[isSubtype_type];kernel_rfl)
theorem zIb:entryFor table "set_iterator.__iter__" = some Builtin.«dict_keyiterator.__iter__»:=ad2 (id':="dict_keyiterator.__iter__") (by kernel_rfl) rfl (by decide +kernel) (by kernel_rfl)
theorem zJr(a:Value):argsOk "set_iterator.__iter__" ⟨[a],[]⟩:=by unfold argsOk;rw[signature?_of (n:=['_','_','r','e','t','i','_','_']) (by kernel_rfl) zMy];kernel_rfl
theorem zG0:entryFor table "set.__iter__" = some Builtin.«frozenset.__iter__»:=ad2 (id':="frozenset.__iter__") (by kernel_rfl) rfl (by decide +kernel) (by kernel_rfl)
theorem yp:typeLookup (.type "set") "__len__" = pure (some (.builtin "set.__len__")):=by rw[aey,ad6];kernel_rfl
section
variable{prog:Program}{w:World}{A:Around}{E:Value->Shared->Prop}{s:Shared}
theorem Xp{α:Type}:∀{l:List α}{i:Nat}(h:i<l.length),(l[i]::l.eraseIdx i).Perm l
 |x::l,0,h=>.refl _
 |x::l,i+1,h=>by
  have a:i<l.length:=by grind
  have ih:=Xp a
  exact(Perm.swap _ _ _).trans (ih.cons x)
theorem zP5{Q:Nat->Shared->Prop}(a:0<n)(h:∀i d,i<n->Q i { s with drawn:=d }):wpAny (model prog w) A (choose src n) Q E s :=
 λ_ _ _=>⟨ad0 a,h _ _ (ae9 _ a)⟩
theorem zS7{α:Type}:∀(n:Nat)(xs:List α)(s:Shared)(Q:List α->Shared->Prop),xs.length=n->(∀ys d,ys.Perm xs->Q ys { s with drawn:=d })->wpAny (model prog w) A (drawOrder n xs) Q E s
 |0,xs,s,Q,hl,h=>by
  have e:xs=[]:=length_eq_zero_iff.mp hl
  subst e
  unfold drawOrder
  exact aax (h [] s.drawn (.refl _))
 |n+1,[],s,Q,hl,h=>by simp at hl
 |n+1,x::xs,s,Q,hl,h=>by
  unfold drawOrder
  refine aaw (zP5 (by rw[hl];omega) λi d hi=>?_)
  have e:(x::xs)[i]?=some (x::xs)[i]:=aaz hi
  rw[e]
  refine aaw (zS7 n _ _ _ (by rw[length_eraseIdx,if_pos hi,hl];rfl) λys d' p=>?_)
  exact aax (h _ d' ((p.cons _).trans (Xp hi)))
theorem zRn{α:Type}(next:Nat->Nat):∀(fuel k:Nat)(left:List α)(out:Array α),left.length=fuel->(afh next fuel k left out).toList.Perm (out.toList++left)
 |0,k,left,out,hl=>by
  have e:left=[]:=length_eq_zero_iff.mp hl
  subst e
  unfold afh
  rw[append_nil]
 |fuel+1,k,left,out,hl=>by
  have hi:next k%left.length<left.length:=ae9 _ (by omega)
  unfold afh
  rw[aaz hi]
  dsimp only
  refine(zRn next fuel (k+1) _ _ (by rw[length_eraseIdx,if_pos hi,hl];rfl)).trans ?_
  rw[Array.toList_push,append_assoc]
  exact Perm.append_left _ (Xp hi)
theorem Ru{α:Type}(next:Nat->Nat)(xs:Array α):(pickOrder next xs).toList.Perm xs.toList:=by
 have q:=zRn next xs.size 0 xs.toList #[] (by simp)
 exact q
variable{a it T:Addr}{o:Obj}{es:Array (Int×Value)}{ep:Nat}{t:SetTable}
theorem Np{Q:Bool->Shared->Prop}(h:Q (w.params.followText "set-order") s):wpAny (model prog w) A setsByText Q E s:=by
 exact aaw (adg (aax h))
theorem zWa{Q:Bool->Shared->Prop}(c:s.heap.get? a=some o)(b:o.data=.set es ep t)(d:t.fits es.size=true)(h:Q (!w.params.followText "set-order" && (!t.plain&&decide (es.size > 1))) s):wpAny (model prog w) A (setDrawn a) Q E s:=by
 refine aaw (aa9 c b d ?_)
 exact aaw (Np (aax h))
theorem Xq{Q:Array (Int×Value)->Shared->Prop}(c:s.heap.get? a=some o)(b:o.data=.set es ep t)(d:t.fits es.size=true)(h:Q es s):wpAny (model prog w) A (setEntries a) Q E s:=by
 exact aaw (aa9 c b d (aax h))
theorem zKe{Q:Option (Value×Nat)->Shared->Prop}(d:s.heap.get? a=some o)(g:o.data=.set es ep t)(f:t.fits es.size=true)(c:w.params.followText "set-order" = true)(h:Q (((pickOrder (w.params.setOrder a ep) es)[i]?).map λe=>(e.2,b)) s):wpAny (model prog w) A (setNext a b i ep) Q E s:=by
 refine aaw (aa9 d g f ?_)
 refine aaw (Np ?_)
 rw[c]
 simp only[↓reduceIte,bne_self_eq_false]
 refine aaw ?_
 refine aaw (aa9 d g f ?_)
 refine aaw (Np ?_)
 rw[c]
 refine aaw (adg (aax ?_))
 exact aax h
theorem zHm{Q:Option (Value×Nat)->Shared->Prop}(ho:s.heap.get? a=some o)(hd:o.data=.set es ep t)(hf:t.fits es.size=true)(hb:w.params.followText "set-order" = false)(hl:t.led=true)(hn:(!t.plain&&decide (es.size > 1))=false)(h:Q (match es[below t.place slot]?,t.place[below t.place slot]? with|some (_,x),some j=>some (x,j+1)|_,_=>none) s):wpAny (model prog w) A (setNext a slot i ep) Q E s:=by
 unfold setNext
 refine aaw (aa9 ho hd hf ?_)
 refine aaw (Np ?_)
 rw[hb]
 simp only[↓reduceIte,abf]
 show wpAny _ _ (if(!t.plain&&decide (es.size > 1))=true then _ else _) _ _ _
 rw[if_neg (by rw[hn];exact aay)]
 refine aaw ?_
 show wpAny _ _ (if(!t.led&&!es.isEmpty)=true then _ else pure ()) _ _ _
 rw[if_neg (by rw[hl];exact aay)]
 exact aax (aax h)
theorem zPf{Q:Value->Shared->Prop}(c:s.heap.get? a=some o)(b:o.data=.set es ep t)(e:t.fits es.size=true)(d:es[place]?=some x)(h:Q x.2 s):wpAny (model prog w) A (setNextDrawn a place ep) Q E s:=by
 refine aaw (aa9 c b e ?_)
 simp only[bne_self_eq_false,d]
 exact aax h
def qm(first:Value)(i:Nat)(a:Addr)(n ep:Nat):Obj:={ cls:=.type "set_iterator",data:=.fields #[first,.int i 0,.ref a,.int n 0,.int ep 0] }
theorem zVp{Q:Value->Shared->Prop}(b:s.heap.get? a=some o)(n:o.ExactSet)(c:o.data=.set es ep t)(e:t.fits es.size=true)(m:(!w.params.followText "set-order" && (!t.plain&&decide (es.size > 1)))=false->Q (.ref s.heap.objs.size) { s with heap:=s.heap.push (qm (.int 0 0) 0 a es.size ep) })(h2:(!w.params.followText "set-order" && (!t.plain&&decide (es.size > 1)))=true->es.size<=sizeLine/\∀(d:Drawn) (ps:List Nat),ps.Perm (abd es.size)->Q (.ref (s.heap.objs.size+1)) { s with drawn:=d,heap:=(s.heap.push { cls:=.type "tuple",data:=.seq (ps.map λ(i:Nat)=>acd i 0).toArray }).push (qm (.ref s.heap.objs.size) 0 a es.size ep) }) :
  wpAny (model prog w) A (pyIter (.ref a)) Q E s:=by
 have h:s.TypeIs (.ref a) "set":=⟨o,b,n.1⟩
 refine wpAny_pyIter_slot h F.slot_set_iter (ace F.slot_set_iter h zG0 ?_ (F.args_set_iter_1 _))
 unfold Builtin.«frozenset.__iter__»
 refine aaw (aax ?_)
 refine aaw ?_
 unfold Builtin.Frozenset.sizeOf
 refine aaw (Xq b c e (aax ?_))
 refine aaw (zWa b c e ?_)
 cases j:(!w.params.followText "set-order" && (!t.plain&&decide (es.size > 1))) with
 |false =>
  simp only[abf,↓reduceIte]
  refine aaw (aax ?_)
  refine aaw (abx b c e ?_)
  exact aaw (ach (aax ⟨_,rfl,"set_iterator",_,⟨_,get?_push_size _ rfl,rfl⟩,kW.lookup,m j⟩))
 |true =>
  obtain⟨k,h2⟩:=h2 j
  simp only[↓reduceIte]
  refine aaw (zS7 _ _ _ _ (by simp) λps d g=>?_)
  refine aaw (wpAny_newTuple ?_ (by rw[length_map,g.length_eq,length_range];exact k))
  have f:=get?_push_of_some ({ cls:=.type "tuple",data:=.seq (ps.map λ(i:Nat)=>rawInt i).toArray }:Obj) b
  refine aaw (abx (s:={ s with drawn:=d,heap:=_ }) f c e ?_)
  refine aaw (ach (aax ⟨_,rfl,"set_iterator",_,⟨_,get?_push_size _ rfl,rfl⟩,kW.lookup,?_⟩))
  have q:=h2 d ps g
  have l:(s.heap.push ({ cls:=.type "tuple",data:=.seq (ps.map λ(i:Nat)=>acd i 0).toArray }:Obj)).objs.size=s.heap.objs.size+1:=size_push ..
  rw[<-l] at q
  exact q
end
section
variable{prog:Program}{w:World}{A:Around}{E:Value->Shared->Prop}{s:Shared}{a it T:Addr}{o:Obj}{es:Array (Int×Value)}{ep:Nat}{t:SetTable}{i:Nat}{first:Value}
theorem Xr{Q:Option Value->Shared->Prop}(g:s.heap.get? it=some (qm first i a es.size ep))(l:s.heap.get? a=some o)(m:o.data=.set es ep t)(k:t.fits es.size=true)(h:wpAny (model prog w) A.in1 (if let .int d _:=first then do
    match <-setNext a d.toNat (i:Int).toNat (ep:Int).toNat with
    |some (x,next) =>
     setField (.ref it) 0 (rawInt next)
     setField (.ref it) 1 (rawInt ((i:Int)+1))
     ret x
    |none=>setField (.ref it) 2 .none;raiseNew (<-newExc (.type "StopIteration") [])
   else do
    let some c <-seqItems? first|unsupported "internal:set_iterator"
    match c[(i:Int).toNat]? with
    |some (.int place _) =>
     let x <-setNextDrawn a place.toNat (ep:Int).toNat
     setField (.ref it) 1 (rawInt ((i:Int)+1))
     ret x
    |some _=>unsupported "internal:set_iterator"
    |none=>setField (.ref it) 0 (rawInt 0);setField (.ref it) 2 .none;raiseNew (<-newExc (.type "StopIteration") []))
   (λf s'=>∃v,f=.done (.ret v)/\Q (some v) s')
   (λe s'=>s'.TypeIs e "StopIteration" /\ Q none s') s):wpAny (model prog w) A (pyNext (.ref it)) Q E s:=by
 have j:s.TypeIs (.ref it) "set_iterator":=⟨_,g,rfl⟩
 unfold pyNext
 refine aaw (wpAny_attempt (wpAny_callSpecial?_slot j kW (ace kW j zIa ?_ (zJq _))))
 refine aaw (aax ?_)
 refine aaw (wpAny_fieldsOf g rfl ?_)
 dsimp only
 refine aaw (Xq l m k ?_)
 rw[if_neg (by simp)]
 exact ab0 h (λf s' ⟨v,e,q⟩=>⟨v,e,aax q⟩) λe s' ⟨n,q⟩=>aaw (ad9 (T:="StopIteration") (b:=true) n isSubtype_stop (aax q))
theorem zQ2{α:Type}{Q:α->Shared->Prop}{c:Value->Shared->Prop}(d:A.handled=none)(h:∀(e:Value) (h':Heap),(∀b u,s.heap.get? b=some u->h'.get? b=some u)->({ s with heap:=h' }:Shared).TypeIs e "StopIteration"->c e { s with heap:=h' }) :
  wpAny (model prog w) A (newExc (.type "StopIteration") [] >>= λe=>(raiseNew e:Sem α)) Q c s:=by
 refine aaw ?_
 simp only[newExc,newTuple]
 refine aaw (ach (aaw (m:=firstArgMember _ _) (wpAny_of_eq (a:=adt) (by first|rfl|grind) (ach ?_ (by size_fits)))) (by size_fits))
 simp only[raiseNew]
 refine aaw (wpAny_handled ?_)
 rw[d]
 refine aaw (aax (wpAny_throw ?_))
 refine h _ _ (λb u e=>get?_push_of_some _ (get?_push_of_some _ e)) ?_
 exact⟨_,get?_push_size _ rfl,rfl⟩
theorem Xu{f:Obj->Obj}(c:s.heap.get? it=some u)(b:(f u).isFreed=false):(s.heap.update it f).get? it=some (f u):=get?_update_self f c b
theorem Rv(c:b≠it)(e:s.heap.get? b=some u):(s.heap.update it f).get? b=some u:=(get?_update_other _ _ (acy c)).trans e
theorem zHp{Q:Option Value->Shared->Prop}{c next:Nat}{n:Tok}{x:Value}(d:s.heap.get? it=some (qm (.int c n) i a es.size ep))(p:s.heap.get? a=some o)(l:o.data=.set es ep t)(r:t.fits es.size=true)(q:∀(R:Option (Value×Nat)->Shared->Prop) (k:Value->Shared->Prop),R (some (x,next)) s->wpAny (model prog w) A.in1 (setNext a c i ep) R k s)(h:∀h',h'.get? it=some (qm (.int next 0) (i+1) a es.size ep)->(∀b u,b≠it->s.heap.get? b=some u->h'.get? b=some u)->Q (some x) { s with heap:=h' }):wpAny (model prog w) A (pyNext (.ref it)) Q E s:=by
 refine Xr d p l r ?_
 dsimp only
 refine aaw (q _ _ ?_)
 dsimp only
 refine aaw (adb d rfl (by simp) ?_)
 have j:=Xu (f:=aes (·.setIfInBounds 0 (rawInt next))) d rfl
 refine aaw (adb j rfl (by simp) ?_)
 have m:=Xu (s:={ s with heap:=_ }) (f:=aes (·.setIfInBounds 1 (rawInt ((i:Int)+1)))) j rfl
 exact aax ⟨x,rfl,h _ m λb u g e=>Rv g (Rv g e)⟩
theorem zKu{Q:Option Value->Shared->Prop}{c:Nat}{n:Tok}(p:A.handled=none)(d:s.heap.get? it=some (qm (.int c n) i a es.size ep))(r:s.heap.get? a=some o)(l:o.data=.set es ep t)(f:t.fits es.size=true)(j:∀(R:Option (Value×Nat)->Shared->Prop) (g:Value->Shared->Prop),R none s->wpAny (model prog w) A.in1 (setNext a c i ep) R g s)(h:∀h',(∀b u,b≠it->s.heap.get? b=some u->h'.get? b=some u)->Q none { s with heap:=h' }):wpAny (model prog w) A (pyNext (.ref it)) Q E s:=by
 refine Xr d r l f ?_
 refine aaw (j _ _ ?_)
 refine aaw (adb d rfl (by simp) ?_)
 exact zQ2 (by simp[p]) λe h' k q=>⟨q,h h' λb u m e=>k b u (Rv m e)⟩
theorem zPk{Q:Option Value->Shared->Prop}{ps:List Nat}(c:s.heap.get? it=some (qm (.ref T) i a es.size ep))(g:s.heap.get? a=some o)(j:o.data=.set es ep t)(d:t.fits es.size=true)(n:s.heap.get? T=some { cls:=.type "tuple",data:=.seq (ps.map λ(i:Nat)=>acd i 0).toArray })(hp:ps[i]?=some place)(l:es[place]?=some x)(h:∀h',h'.get? it=some (qm (.ref T) (i+1) a es.size ep)->(∀b u,b≠it->s.heap.get? b=some u->h'.get? b=some u)->Q (some x.2) { s with heap:=h' }):wpAny (model prog w) A (pyNext (.ref it)) Q E s:=by
 refine Xr c g j d ?_
 dsimp only
 refine aaw (wpAny_seqItems n rfl ?_)
 have e:((ps.map λ(i:Nat)=>acd i 0).toArray)[(i:Int).toNat]?=some (.int (place:Nat) 0):=by
  simp_all
 dsimp only
 rw[e]
 dsimp only
 refine aaw (zPf g j d (x:=x) (by rw[acu];exact l) ?_)
 refine aaw (adb c rfl (by simp) ?_)
 have m:=Xu (f:=aes (·.setIfInBounds 1 (rawInt ((i:Int)+1)))) c rfl
 exact aax ⟨x.2,rfl,h _ m λb u k e=>Rv k e⟩
theorem zS4{Q:Option Value->Shared->Prop}{ps:List Nat}(hh:A.handled=none)(hi:s.heap.get? it=some (qm (.ref T) i a es.size ep))(ho:s.heap.get? a=some o)(hd:o.data=.set es ep t)(hf:t.fits es.size=true)(hT:s.heap.get? T=some { cls:=.type "tuple",data:=.seq (ps.map λ(i:Nat)=>acd i 0).toArray })(hp:ps[i]?=none)(h:∀h',(∀b u,b≠it->s.heap.get? b=some u->h'.get? b=some u)->Q none { s with heap:=h' }):wpAny (model prog w) A (pyNext (.ref it)) Q E s:=by
 refine Xr hi ho hd hf ?_
 dsimp only
 refine aaw (wpAny_seqItems hT rfl ?_)
 have e:((ps.map λ(i:Nat)=>acd i 0).toArray)[(i:Int).toNat]?=none:=by
  rw[acu,getElem?_toArray,getElem?_map,hp]
  rfl
 dsimp only
 rw[e]
 dsimp only
 refine aaw (adb hi rfl (by simp) ?_)
 have h1:=Xu (f:=aes (·.setIfInBounds 0 (rawInt 0))) hi rfl
 refine aaw (adb (s:={ s with heap:=_ }) h1 rfl (by simp) ?_)
 exact zQ2 (s:={ s with heap:=_ }) (by simp[hh]) λe h' k ty=>⟨ty,h h' λb u hb e=>k b u (Rv (s:={ s with heap:=_ }) hb (Rv hb e))⟩
end
section
variable{prog:Program}{w:World}{A:Around}{E:Value->Shared->Prop}{s:Shared}{a it T:Addr}{o:Obj}{es:Array (Int×Value)}{ep:Nat}{t:SetTable}
theorem zIv{Q:Value->Shared->Prop}(c:s.heap.get? it=some (qm first i a n ep))(h:Q (.ref it) s):wpAny (model prog w) A (pyIter (.ref it)) Q E s:=by
 have b:s.TypeIs (.ref it) "set_iterator":=⟨_,c,rfl⟩
 refine wpAny_pyIter_slot b zQ6 (ace zQ6 b zIb ?_ (zJr _))
 exact aax ⟨_,rfl,"set_iterator",_,b,kW.lookup,h⟩
theorem Us(b:t.fits es.size=true):t.place.size=es.size:=by
 unfold fits at b
 grind
theorem zP3(d:Rz xs):below xs 0=0:=by
 obtain⟨f,b,b3⟩:=zI6 d 0
 cases e:below xs 0 with
 |zero=>rfl
 |succ k =>
  rw[e] at f b
  have c:0<xs.size:=by lia
  exact absurd (b 0 _ (aev k) (aa3 c)) (ab7 _)
theorem zP4(c:Rz xs)(h:xs[i]?=some j):below xs (j+1)=i+1:=by
 obtain⟨b1,d,b3⟩:=zI6 c (j+1)
 generalize below xs (j+1)=p at *
 have h1:i<p:=by
  grind
 by_cases z:p=i+1
 ·exact z
 ·have b:i+1<xs.size:=by lia
  have q1:=d (i+1) _ (by lia) (aa3 b)
  have q2:=c i (i+1) j _ (by lia) h (aa3 b)
  lia
theorem zUr{xs:Array Nat}(h:xs.size<=1):Rz xs:=λi k a b hik ha hb=>by
 rw[ab4 (by omega)] at hb
 cases hb
theorem zOf(hh:A.handled=none)(hne:a≠it)(hd:o.data=.set es ep t)(hf:t.fits es.size=true)(hb:w.params.followText "set-order" = false)(hl:t.led=true)(hn:(!t.plain&&decide (es.size > 1))=false)(hr:Rz t.place) :
  Walks prog w A it [it,a] [it] es.size (λi v=>(es.toList.map (·.2))[i]?=some v) (λi h=>h.get? a=some o/\∃(slot:Nat)(tk:Tok),h.get? it=some (qm (.int slot tk) i a es.size ep)/\below t.place slot=i) where
 sub:=λb hb=>by simp at hb;simp[hb]
 frame:=λi h h' ⟨h1,slot,tk,h2,h3⟩ k=>⟨k a (by simp) _ h1,slot,tk,k it (by simp) _ h2,h3⟩
 item:=λi s Q E hi ⟨h1,slot,tk,h2,h3⟩ hQ=>by
  have hp:i<t.place.size:=by rw[Us hf];exact hi
  refine zHp (x:=es[i].2) (next:=t.place[i]+1) h2 h1 hd hf (λR E' hR=>zHm h1 hd hf hb hl hn ?_) λh' hi' k=>?_
  ·rw[h3,aa3 hi,aa3 hp]
   exact hR
  ·refine hQ _ h' s.toks (by simp[hi]) ⟨k a o hne h1,_,_,hi',zP4 hr (aa3 hp)⟩ λb u hb e=>k b u (λz=>hb (by simp[z])) e
 done:=λs Q E ⟨h1,slot,tk,h2,h3⟩ hQ=>by
  refine zKu hh h2 h1 hd hf (λR E' hR=>zHm h1 hd hf hb hl hn ?_) λh' k=>hQ h' s.toks λb u hb e=>k b u (λz=>hb (by simp[z])) e
  rw[h3,ab4 (aa0 _)]
  exact hR
 self:=λi s Q E ⟨h1,slot,tk,h2,h3⟩ hQ=>zIv h2 hQ
theorem zQb(hh:A.handled=none)(hne:a≠it)(hd:o.data=.set es ep t)(hf:t.fits es.size=true)(hb:w.params.followText "set-order" = true) :
  Walks prog w A it [it,a] [it] es.size (λi v=>((pickOrder (w.params.setOrder a ep) es).toList.map (·.2))[i]?=some v) (λi h=>h.get? a=some o/\∃(slot:Nat)(tk:Tok),h.get? it=some (qm (.int slot tk) i a es.size ep)) where
 sub:=λb hb=>by simp at hb;simp[hb]
 frame:=λi h h' ⟨h1,slot,tk,h2⟩ k=>⟨k a (by simp) _ h1,slot,tk,k it (by simp) _ h2⟩
 item:=λi s Q E hi ⟨h1,slot,tk,h2⟩ hQ=>by
  have hz:i<(pickOrder (w.params.setOrder a ep) es).size:=by rw[<-length_toList,(Ru _ es).length_eq,length_toList];exact hi
  refine zHp (x:=(pickOrder (w.params.setOrder a ep) es)[i].2) (next:=slot) h2 h1 hd hf (λR E' hR=>zKe h1 hd hf hb ?_) λh' hi' k=>?_
  ·rw[aa3 hz]
   exact hR
  ·refine hQ _ h' s.toks (by simp[hz]) ⟨k a o hne h1,_,_,hi'⟩ λb u hb e=>k b u (λz=>hb (by simp[z])) e
 done:=λs Q E ⟨h1,slot,tk,h2⟩ hQ=>by
  have hz:(pickOrder (w.params.setOrder a ep) es).size=es.size:=by rw[<-length_toList,(Ru _ es).length_eq,length_toList]
  refine zKu hh h2 h1 hd hf (λR E' hR=>zKe h1 hd hf hb ?_) λh' k=>hQ h' s.toks λb u hb e=>k b u (λz=>hb (by simp[z])) e
  rw[ab4 (by rw[hz];exact aa0 _)]
  exact hR
 self:=λi s Q E ⟨h1,slot,tk,h2⟩ hQ=>zIv h2 hQ
theorem zOg{ps:List Nat}(hh:A.handled=none)(hne:a≠it)(hnT:T≠it)(hd:o.data=.set es ep t)(hf:t.fits es.size=true)(hp:ps.Perm (abd es.size)) :
  Walks prog w A it [it,a,T] [it] es.size (λi v=>(ps.map λp=>((es[p]?).map (·.2)).getD .none)[i]?=some v)
   (λi h=>h.get? a=some o/\h.get? T=some { cls:=.type "tuple",data:=.seq (ps.map λ(i:Nat)=>acd i 0).toArray }/\h.get? it=some (qm (.ref T) i a es.size ep)) where
 sub:=λb hb=>by simp at hb;simp[hb]
 frame:=λi h h' ⟨h1,h2,h3⟩ k=>⟨k a (by simp) _ h1,k T (by simp) _ h2,k it (by simp) _ h3⟩
 item:=λi s Q E hi ⟨h1,h2,h3⟩ hQ=>by
  have hl:ps.length=es.size:=by rw[hp.length_eq,length_range]
  have hi':i<ps.length:=by omega
  have hm:ps[i]<es.size:=mem_range.mp (hp.mem_iff.mp (getElem_mem hi'))
  refine zPk (place:=ps[i]) (x:=es[ps[i]]) h3 h1 hd hf h2 (aaz hi') (aa3 hm) λh' hi' k=>?_
  refine hQ _ h' s.toks ?_ ⟨k a o hne h1,k T _ hnT h2,hi'⟩ λb u hb e=>k b u (λz=>hb (by simp[z])) e
  rw[getElem?_map,aaz (by omega),Option.map_some,aa3 hm]
  rfl
 done:=λs Q E ⟨h1,h2,h3⟩ hQ=>by
  have hl:ps.length=es.size:=by rw[hp.length_eq,length_range]
  exact zS4 hh h3 h1 hd hf h2 (abw (by omega)) λh' k=>hQ h' s.toks λb u hb e=>k b u (λz=>hb (by simp[z])) e
 self:=λi s Q E ⟨h1,h2,h3⟩ hQ=>zIv h3 hQ
end
section
variable{prog:Program}{w:World}{A:Around}{E:Value->Shared->Prop}{s:Shared}{a it T:Addr}{o:Obj}{es:Array (Int×Value)}{ep:Nat}{t:SetTable}
theorem zVt{Q:Bool->Shared->Prop}(d:s.TypeIs (.ref a) "set")(h:Q false s):wpAny (model prog w) A (Builtin.List.listLengthHint (.ref a)) Q E s:=by
 refine aaw (wpAny_specialOf d F.slot_set_len.lookup ?_)
 generalize c:("set.__len__":String)=id0
 subst c
 refine aaw (ad9 d aex (aez (λb=>absurd b (by decide)) λ_=>aez (λ_=>aaw (afj d (aax h))) λb=>absurd (by decide +kernel) b))
theorem zSf{R:Result->Shared->Prop}{P:Nat->Value->Prop}{St:Nat->Heap->Prop}(W:Walks prog w A.in1 it fp [it] n P St)(l:n<=sizeLine)(g:S∉fp)(st:St 0 s.heap)(k:s.heap.get? S=some { cls:=.type "list",data:=.seq #[] p })(m:∀h' q acc h,(∀b u,b≠S->b≠it->s.heap.get? b=some u->h'.get? b=some u)->h'.get? S=some { cls:=.type "list",dict:=none,data:=.seq acc h,slots:=#[] }->ItemsOf P acc n->R (.ok (.ret res)) { s with heap:=h',toks:=q }) :
  codeAny (model prog w) A (.builtin "list.extend.loop" ⟨[.ref S,.ref it,res],[]⟩) R s:=by
 refine codeAny_extend_loopS W.toS l S g res n 0 _ #[] p rfl (abg _) st k (ItemsOf.nil _) λi acc h j f d=>?_
 rw[Moved.eq_with j]
 refine m i.heap i.toks acc h (λb u h1 h2 e=>j.heap b u (λz=>?_) e) f d
 grind
theorem zLe{R:Result->Shared->Prop}{P:Nat->Value->Prop}{St:Nat->Heap->Prop}(W:Walks prog w A.in1 it fp [it] n P St)(x:n<=sizeLine)(g:S∉fp)(B:s.TypeIs (.ref a) "set")(st:St 0 s.heap)(m:s.heap.get? S=some { cls:=.type "list",data:=.seq #[] c₀ })(v:∀h' q acc h,(∀b u,b≠S->b≠it->s.heap.get? b=some u->h'.get? b=some u)->h'.get? S=some { cls:=.type "list",dict:=none,data:=.seq acc h,slots:=#[] }->ItemsOf P acc n->R (.ok (.ret res)) { s with heap:=h',toks:=q }) :
  wpAny (model prog w) A.in1 (holding [.ref it] (Builtin.List.listLengthHint (.ref a)) >>= λj=>if(j||b)=true then(rule "list.extend.makes-room" >>= λ_=>Builtin.List.listTouch (.ref S) >>= λ_=>again (.builtin "list.extend.loop" ⟨[.ref S,.ref it,res],[]⟩)) else again (.builtin "list.extend.loop" ⟨[.ref S,.ref it,res],[]⟩))
   (λp s'=>match p with|.done f=>R (.ok f) s'|.again h=>h.quiet=true/\codeAny (model prog w) A h R s') (λe s'=>R (.error e) s') s:=by
 refine aaw (abp (zVt B ?_))
 refine aez (λ_=>?_) λ_=>aax ⟨aed F.plain_extend_loop _,zSf W x g st m v⟩
 refine aaw (aea ?_)
 refine aaw ?_
 show wpAny _ _ (updateSeq S (·.push .none) >>= λ_=>updateSeq S (·.pop)) _ _ _
 refine aaw (wpAny_updateSeq m rfl ?_)
 have i:=get?_update_self (ac4 (·.push adt)) m rfl
 refine wpAny_updateSeq (hz:=by seq_fits) i rfl ?_
 have r:=get?_update_self (ac4 (·.pop)) i rfl
 have d:∀c u,c≠S->s.heap.get? c=some u->((s.heap.update S (ac4 (·.push adt))).update S (ac4 (·.pop))).get? c=some u:=λc u l e=>(get?_update_other _ _ (acy l)).trans ((get?_update_other _ _ (acy l)).trans e)
 refine aax ⟨aed F.plain_extend_loop _,zSf (s:={ s with heap:=_ }) W x g (W.frame 0 _ _ st λc l u e=>d c u (λz=>g (z▸l)) e) r λh' q acc h k D G=>v h' q acc h (λc u y C e=>k c u y C (d c u y e)) D G⟩
theorem zIu(h:ItemsOf (λi v=>b[i]?=some v) acc n)(d:b.length=n):acc.toList=b:=by
 apply ext_getElem?
 intro i
 rw[getElem?_toList]
 by_cases c:i<acc.size
 ·rw[aa3 c]
  exact(h.2 i _ (aa3 c)).symm
 ·rw[ab4 (by lia),abw (by rw[d,<-h.1];lia)]
theorem zO3(es:Array (Int×Value)):(abd es.size).map (λp=>((es[p]?).map (·.2)).getD adt)=es.toList.map (·.2):=by
 apply List.ext_getElem (by simp)
 intro i h1 h2
 have hi:i<es.size:=by simpa using h1
 simp[hi]
theorem zPt{R:Result->Shared->Prop}(X:A.handled=none)(m:s.heap.get? a=some o)(y:o.ExactSet)(J:o.data=.set es ep t)(x:t.fits es.size=true)(W:Tb (yC w) t)(hz:es.size<=sizeLine)(p:S≠a)(r:s.heap.get? S=some { cls:=.type "list",data:=.seq #[] c₀ })(U:∀h' q d acc h,(∀b u,b≠S->s.heap.get? b=some u->h'.get? b=some u)->h'.get? S=some { cls:=.type "list",dict:=none,data:=.seq acc h,slots:=#[] }->acc.toList.Perm (es.toList.map (·.2))->R (.ok (.ret res)) { s with heap:=h',toks:=q,drawn:=d }) :
  wpAny (model prog w) A.in1 (Builtin.List.listExtendWith (.ref S) (.ref a) res)
   (λP s'=>match P with|.done f=>R (.ok f) s'|.again h=>h.quiet=true/\codeAny (model prog w) A h R s') (λe s'=>R (.error e) s') s:=by
 have hT:s.TypeIs (.ref a) "set":=⟨o,m,y.1⟩
 have lta:a<s.heap.objs.size:=lt_size m
 have ltS:S<s.heap.objs.size:=lt_size r
 have Q:A.in1.handled=none:=by simp[X]
 unfold Builtin.List.listExtendWith
 refine aaw (afj hT ?_)
 have h1:Builtin.List.listSameRef (.ref S) (.ref a)=false:=by simp[Builtin.List.listSameRef,p]
 simp only[h1,show(ad8 "set" == ad8 "list")=false by decide,show(ad8 "set" == ad8 "tuple")=false by decide,Bool.or_false,abf,if_false]
 have g:∀{b:Addr}{u:Obj}{n:Nat},s.heap.get? b=some u->s.heap.objs.size<=n->b≠n:=λe H z=>absurd (lt_size e) (by rw[z];exact Nat.not_lt_of_le H)
 refine aaw (zVp m y J x (λN=>?_) λN=>⟨hz,λd C v=>?_⟩)
 ·have G:=get?_push_of_some (qm (.int 0 0) 0 a es.size ep) r
  have l:=get?_push_of_some (qm (.int 0 0) 0 a es.size ep) m
  have M:(s.heap.push (qm (.int 0 0) 0 a es.size ep)).get? s.heap.objs.size=some (qm (.int 0 0) 0 a es.size ep):=get?_push_size _ rfl
  have j:S∉[s.heap.objs.size,a]:=λz=>by
   rcases mem_cons.mp z with z|z
   ·exact g r (aa0 _) z
   ·exact p (mem_singleton.mp z)
  have F:a≠s.heap.objs.size:=g m (aa0 _)
  cases L:w.params.followText "set-order" with
  |true =>
   refine zLe (s:={ s with heap:=_ }) (zQb Q F J x L) hz j ⟨o,l,y.1⟩ ⟨l,0,0,M⟩ G λh' q acc h k D B=>?_
   refine U h' q s.drawn acc h (λb u n e=>k b u n (g e (aa0 _)) (get?_push_of_some _ e)) D ?_
   rw[zIu B (by rw[length_map,(Ru _ es).length_eq,length_toList])]
   exact(Ru _ es).map _
  |false =>
   have Z:t.led=true:=by rw[W.led];unfold yC;rw[L];rfl
   have H:(!t.plain&&decide (es.size > 1))=false:=by rw[L] at N;exact N
   have V:Rz t.place:=by
    cases v:t.plain with
    |true=>exact W.rz v
    |false =>
     rw[v] at H
     refine zUr ?_
     rw[Us x]
     have:¬es.size > 1:=of_decide_eq_false (by simpa using H)
     lia
   refine zLe (s:={ s with heap:=_ }) (zOf Q F J x L Z H V) hz j ⟨o,l,y.1⟩ ⟨l,0,0,M,zP3 V⟩ G λh' q acc h k D B=>?_
   refine U h' q s.drawn acc h (λb u n e=>k b u n (g e (aa0 _)) (get?_push_of_some _ e)) D ?_
   rw[zIu B (by rw[length_map,length_toList])]
 ·have I:∀{b:Addr}{u:Obj},s.heap.get? b=some u->((s.heap.push { cls:=.type "tuple",data:=.seq (C.map λ(i:Nat)=>acd i 0).toArray }).push (qm (.ref s.heap.objs.size) 0 a es.size ep)).get? b=some u:=λe=>get?_push_of_some _ (get?_push_of_some _ e)
  have sz:(s.heap.push ({ cls:=.type "tuple",data:=.seq (C.map λ(i:Nat)=>acd i 0).toArray }:Obj)).objs.size=s.heap.objs.size+1:=size_push ..
  have M:((s.heap.push { cls:=.type "tuple",data:=.seq (C.map λ(i:Nat)=>acd i 0).toArray }).push (qm (.ref s.heap.objs.size) 0 a es.size ep)).get? (s.heap.objs.size+1)=some (qm (.ref s.heap.objs.size) 0 a es.size ep):=by
   rw[<-sz];exact get?_push_size _ rfl
  have O:((s.heap.push { cls:=.type "tuple",data:=.seq (C.map λ(i:Nat)=>acd i 0).toArray }).push (qm (.ref s.heap.objs.size) 0 a es.size ep)).get? s.heap.objs.size=some { cls:=.type "tuple",data:=.seq (C.map λ(i:Nat)=>acd i 0).toArray }:=get?_push_of_some _ (get?_push_size _ rfl)
  have j:S∉[s.heap.objs.size+1,a,s.heap.objs.size]:=λz=>by
   rcases mem_cons.mp z with z|z
   ·exact g r (acf _) z
   ·rcases mem_cons.mp z with z|z
    ·exact p z
    ·exact g r (aa0 _) (mem_singleton.mp z)
  refine zLe (s:={ s with drawn:=d,heap:=_ }) (zOg Q (g m (acf _)) (aa4 (ab9 _)) J x v) hz j ⟨o,I m,y.1⟩ ⟨I m,O,M⟩ (I r) λh' q acc h k D B=>?_
  refine U h' q d acc h (λb u n e=>k b u n (g e (acf _)) (I e)) D ?_
  rw[zIu B (by rw[length_map,v.length_eq,length_range])]
  have Y:=zO3 es
  rw[<-Y]
  exact v.map _
theorem zMj{R:List Value->Shared->Prop}(G:A.handled=none)(r:s.heap.get? a=some o)(D:o.ExactSet)(z:o.data=.set es ep t)(H:t.fits es.size=true)(v:Tb (yC w) t)(hz:es.size<=sizeLine)(h:∀h' c d (acc:List Value),(∀b u,s.heap.get? b=some u->h'.get? b=some u)->acc.Perm (es.toList.map (·.2))->R acc { s with heap:=h',toks:=c,drawn:=d }) :
  wpAny (model prog w) A (collect (.ref a)) R E s:=by
 have B:a<s.heap.objs.size:=lt_size r
 unfold collect
 refine aaw (wpAny_runValue (ac7 entry_proto_collect' ?_))
 rw[acs F.plain_proto_collect _]
 refine aaw (m:=newList []) (ach (aax ⟨aed F.plain_list_iadd _,ac7 entry_list_iadd' ?_⟩))
 rw[acs F.plain_list_iadd _]
 have C:(s.heap.push { cls:=.type "list",data:=.seq ([]:List Value).toArray }).get? s.heap.objs.size=some { cls:=.type "list",data:=.seq #[] }:=get?_push_size _ rfl
 have l:=zPt (prog:=prog) (A:=A) (S:=s.heap.objs.size) (res:=.ref s.heap.objs.size) (s:={ s with heap:=s.heap.push { cls:=.type "list",data:=.seq ([]:List Value).toArray } })
  (R:=λ(q:Result) (n:Shared)=>∃(h':Heap)(c:Nat)(d:Drawn)(acc:Array Value)(g:Nat),q=.ok (.ret (.ref s.heap.objs.size))/\n={ s with heap:=h',toks:=c,drawn:=d }/\(∀b u,s.heap.get? b=some u->h'.get? b=some u) /\
   h'.get? s.heap.objs.size=some { cls:=.type "list",dict:=none,data:=.seq acc g,slots:=#[] }/\acc.toList.Perm (es.toList.map (·.2)))
  G (get?_push_of_some _ r) D z H v hz (ad0 B) C λh' c d acc g k j i=>⟨h',c,d,acc,g,rfl,rfl,λb u e=>k b u (aa4 (lt_size e)) (get?_push_of_some _ e),j,i⟩
 refine ab0 l (λp n x=>?_) λe n x=>?_
 ·cases p with
  |done f =>
   obtain⟨h',c,d,acc,g,e,rfl,k,j,i⟩:=x
   cases e
   refine aaw (m:=load s.heap.objs.size) (wpAny_load j ?_)
   exact aax (h h' c d acc.toList k i)
  |again c1 =>
   refine⟨x.1,adf x.2 λq s2 y=>?_⟩
   obtain⟨h',c,d,acc,g,rfl,rfl,k,j,i⟩:=y
   refine aaw (m:=load s.heap.objs.size) (wpAny_load j ?_)
   exact aax (h h' c d acc.toList k i)
 grind
end
end sW
namespace L2
open PySem PySem.Spec PyProof.Rows sW
def sX:Value->Int
 |.int k _=>k
 |_=>0
theorem Xv:∀k v,(intKind P w).is k v=true->sX v=k:=λk v h=>by
 obtain⟨t,rfl⟩:=acz h
 rfl
theorem Inv.drew(I:Inv X a σ H s)(d:Drawn):Inv X a σ H { s with drawn:=d }:=⟨I.ok,I.os,I.bare,I.base,I.loc,I.cell,I.free,I.iJ,I.pin,I.hok,I.len⟩
abbrev G3:=St->Hp->(LI->Hp->Prop)->Prop
def StP(X:Cx)(b:List (Addr×Obj))(σ:St)(Q:LI->Hp->Prop)(v:Value)(s':Shared):Prop :=
 ∃(a:Addr)(d:LI)(c:Hp),v=.ref a/\Inv X b σ c s'/\Good (intKind X.prog X.w) sX (yC X.w) s'.heap a d/\m8 X b c a/\Q d c
def Cr(X:Cx)(e:Expr)(t:G3):Prop:=∀(a:List (Addr×Obj))(s:Shared)(σ:St)(H:Hp)(Q:LI->Hp->Prop),Inv X a σ H s->t σ H Q->wpAny (model X.prog X.w) X.A (eval e X.env) (StP X a σ Q) X.xe s
section
variable{X:Cx}
theorem zXz:∀{ns:LI}{its:List Value},IntsAre its ns->∀{i:Nat}{v:Value},its[i]?=some v->∃t,v=.int (ns.getD i 0) t
 |_,_,.nil,i,v,h=>by simp at h
 |_,_,.cons n t r,0,v,h=>by simp at h;subst h;exact⟨t,rfl⟩
 |_,_,.cons n t r,i+1,v,h=>by
  obtain⟨t',e⟩:=zXz r (by simpa using h)
  exact⟨t',e⟩
theorem zTn:∀{ns:LI}{a:List Value},IntsAre a ns->a.length=ns.length
 |_,_,.nil=>rfl
 |_,_,.cons n t r=>congrArg (· + 1) (zTn r)
def JN(K:Frag)(te:TE):G3:=λσ H Q=>yW te bI σ H λd c=>∃(p:Addr)(b:LI),d=[.ref p]/\aZ K c p (b.map V.int)/\b.length<4000/\∀a:LI,a.Nodup->(∀z,z∈a↔z∈b)->Q a c
theorem Nq:bootBuiltins "set" = some (.type "set"):=by decide +kernel
theorem Nr(K:Frag)(T:X.calm=true)(E:X.mg "set" = none)(U:PE X e te)(Z:X.K=K:=by rfl)(Y:Gl X "set":=by rfl)(A:starEach [e] X.env=[(false,eval e X.env)]:=by rfl):Cr X (.Call (.Name "set" p) [e] [] pos) (JN K te):=by
 subst Z
 intro c s σ H Q I h
 refine abz (DN I Y E Nq ?_)
 have C:PA X [e] (yW te bI):=zA U zF A
 refine abt (aQ (C pos c s σ H _ I h) ?_) A rfl
 rintro us s1 ⟨vs,G,a,M,J⟩
 obtain⟨l,f,O,B,h4,q⟩:=J
 subst O
 cases M with
 |cons r L =>
  cases L
  cases r
  obtain⟨d,F,P,n⟩:=a.list B
  have u:IntsAre d f:=Z8 F
  have y:=zTn u
  refine zWh (knd:=intKind X.prog X.w) (dec:=sX) Xv (λi=>f.getD i 0) (a.ok.hd T) P.isList (λi v x=>?_) (by rw[size_toArray,y];show f.length+1<4096;lia) λR D g k=>?_
  ·obtain⟨t,rfl⟩:=zXz u (by rw[getElem?_toArray] at x;exact x)
   exact⟨intKind_is _ _ _ _,rfl⟩
  ·have S:=a.kept (h':=R) (t':=D) λb o e=>k b o (lt_size e) e
   obtain⟨_,_,_,_,_,_,_,_,_,N,_⟩:=id g
   refine⟨_,_,G,rfl,S,g,a.m9 (aa0 _) (a.hok.fresh (aa0 _)),q _ N λz=>?_⟩
   rw[zSd,size_toArray,y]
   constructor
   ·grind
   ·intro n
    obtain⟨j,m,e⟩:=getElem_of_mem n
    exact⟨j,m,by rw[getD_eq_getElem?_getD,aaz m];exact e⟩
def Ut(ts:G3):TE:=λσ H Q=>ts σ H λb c=>b.length<64/\∀(l:Addr)(a:LI),c l=none->a.Perm b->a.Pairwise (· <= ·)->Q (.ref l) (upd c l (.lst (a.map V.int)))
theorem zNk:∀{vs:List Value},(∀v∈vs,∃k,(intKind P w).is k v=true)->IntsAre vs (vs.map sX)
 |[],_=>.nil
 |v::vs,h=>by
  obtain⟨k,a⟩:=h v mem_cons_self
  obtain⟨t,rfl⟩:=acz a
  exact .cons k t (zNk λu b=>h u (mem_cons_of_mem _ b))
theorem zUg(hc:X.calm=true)(I:Inv X pins σ H s)(g:Good (intKind X.prog X.w) sX (yC X.w) s.heap a ks)(h64:ks.length<64)(q:∀(l:Addr) (ms:LI),H l=none->ms.Perm ks->ms.Pairwise (· <= ·)->Q (.ref l) (upd H l (.lst (ms.map V.int)))):wpAny (model X.prog X.w) X.A (call (.builtin "sorted") [.ref a]) (EP X pins σ Q) X.xe s:=by
 obtain⟨o,es,ep,t,ho,hx,hd,hel,hp,nd,hb,hf,tb⟩:=g
 have hsz:es.size=ks.length:=by rw[<-hp.length_eq,length_map,length_toList]
 refine PySem.Calls.call_function_entry kind_sorted plain_sorted entry_sorted (args_sorted1 _) ?_
 unfold Builtin.«sorted»
 refine aaw (m:=checkCount "sorted" 1 1 _) (aax ?_)
 refine aaw (zMj (A:=X.A.in1) (I.ok.hd hc) ho hx hd hf tb (acg hb) λh' tk d acc hkeep hacc=>?_)
 have I':Inv X pins σ H { s with heap:=h',toks:=tk,drawn:=d }:=(I.kept (h':=h') (t':=tk) hkeep).drew d
 have hI:IntsAre acc (acc.map sX):=zNk (P:=X.prog) (w:=X.w) λv hv=>by
  obtain⟨e,he,rfl⟩:=mem_map.mp (hacc.mem_iff.mp hv)
  obtain⟨⟨k,hk,_⟩,_⟩:=hel e he
  exact⟨k,hk⟩
 have hpk:(acc.map sX).Perm ks:=by
  refine(hacc.map sX).trans ?_
  rw[List.map_map]
  exact hp
 have hal:acc.length=ks.length:=by rw[<-hpk.length_eq,length_map]
 have hsl:acc.length<=sizeLine:=by rw[hal];exact acv (aei h64 (by decide))
 refine aaw (wpAny_newList ?_ hsl)
 have hoL:(h'.push (seqObj "list" acc.toArray 0)).get? h'.objs.size=some (seqObj "list" acc.toArray 0):=get?_push_size _ rfl
 refine aaw (abp (ace slot_list_sort ⟨_,hoL,rfl⟩ entry_list_sort (list_sort_tree hoL hI (by omega) λout ns' a1 a2 a3=>⟨_,rfl,?_⟩) (args_list_sort _)))
 refine aax ⟨_,rfl,?_⟩
 obtain⟨e,he⟩:=sortedHeap_at (out:=out) hoL
 refine⟨.ref h'.objs.size,_,I'.laid (t':=tk) (o:=.lst (ns'.map V.int)) (λb ob w=>?_) (aa0 _) ?_,rfl,q _ ns' (I'.hok.fresh (aa0 _)) (a2.trans hpk) a3⟩
 ·have hb:h'.get? b=some ob:=w
  have hlt:=lt_size hb
  rw[sortedHeap_old (aa4 hlt) (by rw[size_push'];exact adz hlt),Heap.get?_push_ne _ _ _ (aa4 hlt)]
  exact hb
 ·refine⟨?_,out.toList,e,Xg a1,?_⟩
  ·rw[length_map,a2.length_eq,length_map];exact hsl
  ·rw[Array.toArray_toList];exact he
theorem Xw(n:X.calm=true)(j:X.mg "sorted" = none)(l:Cr X e ts)(m:Gl X "sorted":=by rfl)(f:starEach [e] X.env=[(false,eval e X.env)]:=by rfl):PE X (.Call (.Name "sorted" p) [e] [] pos) (Ut ts):=by
 intro c s σ H Q I h
 refine abz (DN I m j (by decide +kernel:bootBuiltins "sorted" = some (.builtin "sorted")) ?_)
 refine PyProof.Rows.callWith_builtin1 (Q:=_) ?_ f rfl
 rw[f]
 show wpAny _ _ (spliced ((false,eval e X.env)::backTo pos [])) _ _ s
 refine ac3 (aQ (l c s σ H _ I h) ?_)
 rintro u s1 ⟨a,ks,H1,i,k,g,fo,d,q⟩
 subst i
 refine ady ?_
 exact zUg n k g d q
end
end L2
namespace Ts
open PySem L2
def q9(z:Int):LI->LI
 |[]=>[z]
 |y::a=>if z<y then z::y::a else if z=y then y::a else y::q9 z a
def uD(ns:LI):LI:=ns.foldr q9 []
noncomputable def lX(ns:LI):Option LI:=if ns.length<64 then some (uD ns) else none
theorem n_:∀{ys:LI},x∈q9 z ys↔x=z\/x∈ys
 |[]=>by simp[q9]
 |y::ys=>by
  unfold q9
  split
  ·simp
  ·split
   ·grind
   ·rw[mem_cons,n_]
    grind
theorem zSq:∀{ys:LI},ys.Pairwise (· < ·)->(q9 z ys).Pairwise (· < ·)
 |[],_=>by simp[q9]
 |y::ys,h=>by
  have h1:=pairwise_cons.mp h
  unfold q9
  split
  ·rename_i hz
   refine pairwise_cons.mpr ⟨λx hx=>?_,h⟩
   rcases mem_cons.mp hx with e|e
   ·rw[e];exact hz
   ·exact Int.lt_trans hz (h1.1 x e)
  ·split
   ·exact h
   ·refine pairwise_cons.mpr ⟨λx hx=>?_,zSq h1.2⟩
    rcases n_.mp hx with e|e
    ·rw[e];omega
    ·exact h1.1 x e
theorem bZ:∀{ns:LI},x∈uD ns↔x∈ns
 |[]=>by simp[uD]
 |n::ns=>by
  show x∈q9 n (uD ns)↔_
  rw[n_,bZ,mem_cons]
theorem JQ:∀ns:LI,(uD ns).Pairwise (· < ·)
 |[]=>.nil
 |n::ns=>zSq (JQ ns)
theorem JR:∀{xs ys:LI},xs.Pairwise (· < ·)->ys.Pairwise (· < ·)->(∀s,s∈xs↔s∈ys)->xs=ys
 |[],[],_,_,_=>rfl
 |[],y::ys,_,_,h=>absurd ((h y).mpr mem_cons_self) (by simp)
 |x::xs,[],_,_,h=>absurd ((h x).mp mem_cons_self) (by simp)
 |x::xs,y::ys,b,c,h=>by
  have a:=pairwise_cons.mp b
  have d:=pairwise_cons.mp c
  have e:x=y:=by
   rcases mem_cons.mp ((h x).mp mem_cons_self) with e|e
   ·exact e
   ·rcases mem_cons.mp ((h y).mpr mem_cons_self) with f|f
    ·grind
    grind
  subst e
  rw[JR a.2 d.2 λs=>?_]
  grind
theorem G4:∀{ks ns:LI},ks.Nodup->(∀z∈ks,z∈ns)->ks.length<=ns.length
 |[],_,_,_=>abg _
 |k::ks,ns,d,h=>by
  obtain⟨a,b,e⟩:=List.append_of_mem (h k mem_cons_self)
  have c:=nodup_cons.mp d
  have q:=G4 (ns:=a++b) c.2 λz hz=>by
   grind
  grind
theorem uH:∀{a:LI},a.Pairwise (· <= ·)->a.Nodup->a.Pairwise (· < ·)
 |[],_,_=>.nil
 |m::a,h,c=>by
  have d:=pairwise_cons.mp h
  have b:=nodup_cons.mp c
  refine pairwise_cons.mpr ⟨λx hx=>?_,uH d.2 b.2⟩
  grind
section
variable{K:Frag}{B:Bs}{sl:SL K}{md:Md}{t:TE}
theorem zPw(h:Ex B sl .hp t m):Eo B sl md (Ut (JN K t)) (m.bind lX):=λc a F O H σ Q s k=>by
 cases m with
 |none=>cases a
 |some b =>
  have a:lX b=some c:=a
  unfold lX at a
  split at a
  case isFalse=>cases a
  rename_i x
  cases a
  refine h b rfl F O H σ _ s λv w A g r=>?_
  obtain⟨p,vs,rfl,o,j⟩:=r
  have y:=j.vals
  subst y
  refine⟨p,b,rfl,aZ.of o,by lia,λks i d=>⟨aa7 (G4 i λz n=>(d z).mp n) x,λl ms q f u=>?_⟩⟩
  have e:=JR (uH u (f.nodup_iff.mpr i)) (JQ b) λz=>by rw[f.mem_iff,d,bZ]
  subst e
  exact k l _ w A g q (Cm _)
end
end Ts
namespace sW
open PySem PySem.Spec PyProof.Rows
theorem zIf:entryFor table "set.__and__" = some Builtin.«frozenset.__and__»:=ad2 (id':="frozenset.__and__") (by kernel_rfl) rfl (by decide +kernel) (by kernel_rfl)
section
variable{prog:Program}{w:World}{κ:Type}[DecidableEq κ]{knd:KeyKind prog w κ}{dec:Value->κ}{led:Bool}{A:Around}{E:Value->Shared->Prop}{s:Shared}
theorem Good.setOf(hdec:∀k v,knd.is k v=true->dec v=k)(g:Good knd dec led h a ks):h.SetOf knd a (λk=>decide (k∈ks)) ks.length:=by
 obtain⟨o,n,d,t,m,l,f,b,c,nd,p,j,tb⟩:=g
 refine⟨o,n,d,t,m,l,f,b,λk=>?_,p,j,by rw[<-c.length_eq,length_map,length_toList]⟩
 rw[decide_eq_true_iff,<-c.mem_iff,mem_map]
 constructor
 ·rintro⟨e,i,rfl⟩
  obtain⟨⟨k',hk,_⟩,_⟩:=b e i
  grind
 grind
theorem Good.size(g:Good knd dec led h a ks):∃o es ep t,h.get? a=some o/\o.ExactSet/\o.data=.set es ep t/\t.fits es.size=true/\es.size=ks.length/\Tb led t/\ElemsOf knd es.toList/\(es.toList.map λe=>dec e.2).Perm ks:=by
 obtain⟨o,es,ep,t,k,j,f,b,c,nd,hb,i,d⟩:=g
 exact⟨o,es,ep,t,k,j,f,i,by rw[<-c.length_eq,length_map,length_toList],d,b,c⟩
theorem Good.type{s:Shared}(g:Good knd dec led s.heap a ks):s.TypeIs (.ref a) "set":=by
 obtain⟨o,_,_,_,b,c,_⟩:=g
 exact⟨o,b,c.1⟩
theorem Ep{Q:Bool->Shared->Prop}(b:s.TypeIs (.ref a) "set")(h:Q true s):wpAny (model prog w) A (Builtin.Frozenset.isAnySet (.ref a)) Q E s:=by
 refine aaw (ad9 b aex ?_)
 exact aax h
theorem Rw{Q:Nat->Shared->Prop}(g:Good knd dec led s.heap a ks)(h:Q ks.length s):wpAny (model prog w) A (Builtin.Frozenset.sizeOf a) Q E s:=by
 obtain⟨o,es,ep,t,c,h2,d,b,hl,_⟩:=g.size
 refine aaw (Xq c d b (aax ?_))
 grind
theorem zM5(sets:List Addr)(hs:∀a∈sets,∃ks:List κ,Good knd dec led s.heap a ks)(hn:∀k v,knd.is k v=true->∀b,v≠.ref b){Q:Bool->Shared->Prop}(h:Q true s):wpAny (model prog w) A (setsQuiet sets) Q E s:=by
 unfold setsQuiet
 refine aaw (ab0 (ac2 (β:=Option Bool×Unit) _ (λl b s'=>s'=s/\b=(none,())/\∀a∈l,∃ks:List κ,Good knd dec led s.heap a ks) (λb s'=>s'=s/\b=(none,())) ?turn (λb s' hI=>⟨hI.1,hI.2.1⟩) sets _ ⟨rfl,rfl,hs⟩) ?post (λ_ _ h=>h))
 case post =>
  rintro b s' ⟨rfl,rfl⟩
  exact aax h
 case turn =>
  rintro a rest b s' ⟨rfl,rfl,hg⟩
  obtain⟨ks,g⟩:=hg a mem_cons_self
  obtain⟨o,es,ep,t,h1,h2,h3,hf,hl,tb,hel,hp⟩:=g.size
  refine aaw (Xq h1 h3 hf ?_)
  rw[<-forIn_toList]
  refine aaw (ab0 (ac2 (β:=Option Bool×Unit) _ (λl b s''=>s''=s'/\b=(none,())/\∀e∈l,∀c,e.2≠.ref c) (λb s''=>s''=s'/\b=(none,())) ?t2 (λb s' hI=>⟨hI.1,hI.2.1⟩) es.toList _ ⟨rfl,rfl,?p0⟩) ?p2 (λ_ _ h=>h))
  case p0 =>
   intro e he c z
   obtain⟨⟨k,hk,_⟩,_⟩:=hel e he
   exact hn k _ hk c z
  case p2 =>
   rintro b s'' ⟨rfl,rfl⟩
   exact aax ⟨rfl,rfl,λa ha=>hg a (mem_cons_of_mem _ ha)⟩
  case t2 =>
   rintro⟨hh,x⟩ l b s'' ⟨rfl,rfl,hl⟩
   have hx:=hl _ mem_cons_self
   dsimp only at hx ⊢
   split
   ·exact absurd rfl (hx _)
   ·exact aax ⟨rfl,rfl,λe he=>hl e (mem_cons_of_mem _ he)⟩
theorem zQc(g:Good knd dec (yC w) s.heap a ks)(i:w.params.followText "set-order" = false->∀o es ep t,s.heap.get? a=some o->o.data=.set es ep t->(!t.plain&&decide (es.size > 1))=false){Q:Array (Int×Value)->Shared->Prop}(h:∀es:Array (Int×Value),ElemsOf knd es.toList->(es.toList.map λe=>dec e.2).Perm ks->Q es s):wpAny (model prog w) A (setWalk a) Q E s:=by
 obtain⟨o,es,ep,t,c,h2,f,l,hl,j,b,d⟩:=g.size
 unfold setWalk
 refine aaw (aa9 c f l ?_)
 dsimp only
 refine aaw (Np ?_)
 cases k:w.params.followText "set-order" with
 |true =>
  simp only[↓reduceIte]
  refine aaw (adg (aax ?_))
  exact h _ (b.perm (Ru _ es)) (((Ru _ es).map _).trans d)
 |false =>
  have q:=i k o es ep t c f
  have aat:t.led=true:=by rw[j.led];unfold yC;grind
  simp only[abf,↓reduceIte]
  show wpAny _ _ (if(!t.plain&&decide (es.size > 1))=true then _ else _) _ _ _
  rw[if_neg (by grind)]
  refine aaw ?_
  show wpAny _ _ (if(!t.led&&decide (es.size > 1))=true then _ else pure ()) _ _ _
  rw[if_neg (by grind)]
  exact aax (aax (h es b d))
theorem zFf(g:Good knd dec (yC w) s.heap a ks)(l:Good knd dec (yC w) s.heap f H)(M:∀b∈d,∃ks:List κ,Good knd dec (yC w) s.heap b ks)(S:∀k v,knd.is k v=true->∀b,v≠.ref b){Q:Array (Int×Value)->Shared->Prop}(h:∀(es:Array (Int×Value)) (h':Heap),ElemsOf knd es.toList->(es.toList.map λe=>dec e.2).Perm ks->SameBut f s.heap h'->Good knd dec (yC w) h' f H->Q es { s with heap:=h' }):wpAny (model prog w) A (setWalkUnseen a d (some f)) Q E s:=by
 obtain⟨o,es,ep,t,J,h2,O,R,hl,G,m,F⟩:=g.size
 unfold setWalkUnseen
 refine aaw (aa9 J O R ?_)
 dsimp only
 refine aaw (Np ?_)
 split
 ·rename_i c
  refine zQc g (λx o' p ep' t' h1' h3'=>?_) λp n r=>h p s.heap n r (SameBut.refl f s.heap) l
  grind
 ·refine aaw (zM5 (knd:=knd) (dec:=dec) (led:=yC w) (a::d) (λb x=>(mem_cons.mp x).elim (λe=>e▸⟨ks,g⟩) (M b)) S ?_)
  simp only[ab2,abf,↓reduceIte]
  refine aaw (aea ?_)
  obtain⟨of,C,epf,P,u,N,q,y,B,i,j,L⟩:=l.size
  refine aaw (aa9 u q y ?_)
  dsimp only
  split
  ·have D:=l.len
   refine aaw (aci u q ?_ (acg (by rw[B];exact D)))
   obtain⟨_,_,_,_,e1,_,_,_,_,I,x,_,_⟩:=l
   refine aax (h es _ m F (SameBut.update _ f _) ⟨_,C,_,_,JM (es':=C) (t':=_) u q,N,rfl,j,L,I,?_,?_,?_⟩)
   ·rw[B];exact D
   ·exact y
   ·refine⟨?_,λz=>?_⟩
    ·show(P.led&&t.led)=_
     rw[i.led,G.led,ae5]
    ·exact i.rz (Bool.and_eq_true_iff.mp z).1
  ·exact aax (h es s.heap m F (SameBut.refl f s.heap) l)
theorem zHr(p:∀k v,knd.is k v=true->dec v=k)(id:String)(hn:∀k v,knd.is k v=true->∀b,v≠.ref b)(V:x≠r)(R:y≠r)(gx:Good knd dec (yC w) s.heap x i)(U:Good knd dec (yC w) s.heap y u)(gr:Good knd dec (yC w) s.heap r []){Q:Unit->Shared->Prop}(h:∀(h':Heap) (a:List κ),SameBut r s.heap h'->Good knd dec (yC w) h' r a->(∀k,k∈a↔k∈i/\k∈u)->Q () { s with heap:=h' }) :
  wpAny (model prog w) A (do
   let T <-setEpoch y
   for (h,W) in <-setWalkUnseen y [x,r] (some r) do
    holding [W] do
     if(<-setFind x W h).isSome then
      let _ <-setAddHashed r W h
    abm id y T) Q E s:=by
 obtain⟨o,es,ep,t,h1,d,h3,hf,hl,tb,hel,hp⟩:=U.size
 refine aaw (abx h1 h3 hf ?_)
 refine aaw (zFf U gr (λb hb=>(mem_cons.mp hb).elim (λe=>e▸⟨i,gx⟩) λe=>(mem_singleton.mp e)▸⟨[],gr⟩) hn λM h' L N sb X=>?_)
 rw[<-forIn_toList]
 have ln:M.toList.length=u.length:=by rw[<-N.length_eq,length_map]
 refine aaw (ab0 (ac2 (β:=Unit) _ (λl _ I=>∃d a,I={ s with heap:=d }/\SameBut r s.heap d/\Good knd dec (yC w) d r a/\ElemsOf knd l/\a.length+l.length<=u.length/\∀k,(k∈a\/(k∈i/\k∈l.map λe=>dec e.2))↔(k∈i/\k∈u)) (λ_ I=>∃d a,I={ s with heap:=d }/\SameBut r s.heap d/\Good knd dec (yC w) d r a/\∀k,k∈a↔k∈i/\k∈u) ?turn ?fin M.toList () ⟨h',[],rfl,sb,X,L,by rw[ln,length_nil];lia,λk=>?_⟩) ?post (λ_ _ h=>h))
 case turn =>
  rintro⟨hs,v⟩ l b I ⟨d,a,rfl,g,H,O,P,J⟩
  obtain⟨⟨k,S,hh⟩,G⟩:=O _ mem_cons_self
  dsimp only at S hh G ⊢
  subst hh
  have kx:∀o,s.heap.get? x=some o->d.get? x=some o:=λo e=>by rw[g.2 x V];exact e
  have ky':∀o,s.heap.get? y=some o->d.get? y=some o:=λo e=>by rw[g.2 y R];exact e
  have Y:=gx.keep kx
  have dv:dec v=k:=p k v S
  rw[length_cons] at P
  have F:∀(f:Heap)(n:List κ),SameBut r s.heap f->Good knd dec (yC w) f r n->n.length+l.length<=u.length->(∀c,(c∈n\/(c∈i/\c∈l.map λe=>dec e.2))↔(c∈i/\c∈u)) ->
    wpAny (model prog w) A (abm id y ep) (λ_ C=>wpAny (model prog w) A (pure (acj ())) (λq C=>match q with|.yield _=>∃d a,C={ s with heap:=d }/\SameBut r s.heap d/\Good knd dec (yC w) d r a/\ElemsOf knd l/\a.length+l.length<=u.length/\∀k,(k∈a\/(k∈i/\k∈l.map λe=>dec e.2))↔(k∈i/\k∈u)|.done _=>∃d a,C={ s with heap:=d }/\SameBut r s.heap d/\Good knd dec (yC w) d r a/\∀k,k∈a↔k∈i/\k∈u) E C) E { s with heap:=f }:=λf n B Z l3 m3=>by
   unfold abm
   refine aaw (abx (s:={ s with heap:=f }) (by show f.get? y=_;rw[B.2 y R];exact h1) h3 hf ?_)
   simp only[bne_self_eq_false,abf,↓reduceIte]
   exact aax (aax ⟨f,n,rfl,B,Z,λe he=>O e (mem_cons_of_mem _ he),l3,m3⟩)
  refine aaw (abp (aaw (wpAny_setFind_of (s:={ s with heap:=d }) S G (Y.setOf p) λq hq=>?_)))
  cases q with
  |none =>
   have nk:k∉i:=by simpa using hq.symm
   simp only[Option.isSome_none,abf,↓reduceIte]
   refine aax (aaw (F d a g H (by lia) λc=>?_))
   rw[<-J c,map_cons,mem_cons]
   show _↔(c∈a\/c∈i/\(c=dec v\/_))
   rw[dv]
   constructor
   ·rintro(z|⟨D,m⟩)
    ·exact .inl z
    ·exact .inr ⟨D,.inr m⟩
   ·rintro(z|⟨D,m|m⟩)
    ·exact .inl z
    ·exact absurd (m▸D) nk
    ·exact .inr ⟨D,m⟩
  |some j =>
   have mk:k∈i:=by simpa using hq.symm
   simp only[ael,↓reduceIte]
   refine aaw (Xo (led:=yC w) (s:={ s with heap:=d }) p S G H (by have:=U.len;lia) λf b' B Z=>?_)
   refine aax (aaw (F f _ (g.trans B) Z ?_ λc=>?_))
   ·split
    ·lia
    ·rw[length_cons];lia
   ·rw[<-J c,map_cons,mem_cons]
    show _↔(c∈a\/c∈i/\(c=dec v\/_))
    rw[dv]
    have e:c∈(if k∈a then a else k::a)↔c=k\/c∈a:=by
     split
     ·rename_i z
      exact⟨.inr,λq=>q.elim (λq=>q▸z) λq=>q⟩
     ·exact mem_cons
    rw[e]
    constructor
    ·rintro((z|z)|⟨D,m⟩)
     ·exact .inr ⟨z▸mk,.inl z⟩
     ·exact .inl z
     ·exact .inr ⟨D,.inr m⟩
    ·rintro(z|⟨D,m|m⟩)
     ·exact .inl (.inr z)
     ·exact .inl (.inl m)
     ·exact .inr ⟨D,m⟩
 case fin =>
  rintro b I ⟨d,a,rfl,g,H,_,_,J⟩
  refine⟨d,a,rfl,g,H,λk=>?_⟩
  rw[<-J k]
  simp
 case post =>
  rintro b I ⟨d,a,rfl,g,H,J⟩
  exact aax (h d a g H J)
 ·rw[N.mem_iff]
  simp
theorem zMl(b:s.TypeIs (.ref a) "set"){Q:Value->Shared->Prop}(h:Q (.type "set") s):wpAny (model prog w) A (Builtin.Frozenset.baseOf a) Q E s:=by
 refine aaw (ad9 b aex ?_)
 exact aax h
theorem zF3{Q:Value->Shared->Prop}(h:Q (.ref s.heap.objs.size) { s with heap:=s.heap.push { cls:=.type "set",dict:=none,data:=.set #[] 0 (.fresh 0 0 (yC w)) } }):wpAny (model prog w) A (newSet (.type "set")) Q E s:=by
 refine aaw (aaw (adg (aax ?_)))
 exact aaw (wpAny_alloc (aax h))
theorem zVr(j:∀k v,knd.is k v=true->dec v=k)(id:String)(F:∀k v,knd.is k v=true->∀b,v≠.ref b)(t:b≠a)(u:Good knd dec (yC w) s.heap a B)(y:Good knd dec (yC w) s.heap b C){Q:Value->Shared->Prop}(h:∀(h':Heap) (d:List κ),Good knd dec (yC w) h' s.heap.objs.size d->(∀k,k∈d↔k∈B/\k∈C)->(∀c o,c<s.heap.objs.size->s.heap.get? c=some o->h'.get? c=some o)->Q (.ref s.heap.objs.size) { s with heap:=h' }) :
  wpAny (model prog w) A (Builtin.Frozenset.intersection id a (.ref b)) Q E s:=by
 have z:a<s.heap.objs.size:=by obtain⟨o,_,_,_,x,_⟩:=u;exact lt_size x
 have D:b<s.heap.objs.size:=by obtain⟨o,_,_,_,x,_⟩:=y;exact lt_size x
 unfold Builtin.Frozenset.intersection
 rw[if_neg (λe=>t (ae7 (aej e)))]
 refine aaw (zMl u.type (aaw (zF3 ?_)))
 refine aaw (aax ?_)
 have r:∀c o,s.heap.get? c=some o->(s.heap.push { cls:=.type "set",dict:=none,data:=.set #[] 0 (.fresh 0 0 (yC w)) }).get? c=some o:=λc o e=>get?_push_of_some _ e
 have i:=u.keep (r a)
 have f:=y.keep (r b)
 have n:Good knd dec (yC w) (s.heap.push { cls:=.type "set",dict:=none,data:=.set #[] 0 (.fresh 0 0 (yC w)) }) s.heap.objs.size []:=Ur (get?_push_size _ rfl)
 generalize hp:s.heap.push { cls:=.type "set",dict:=none,data:=.set #[] 0 (.fresh 0 0 (yC w)) }=l at r i f n ⊢
 have p:∀(h':Heap)(d:List κ),SameBut s.heap.objs.size l h'->Good knd dec (yC w) h' s.heap.objs.size d->(∀k,k∈d↔k∈B/\k∈C)->Q (.ref s.heap.objs.size) { s with heap:=h' }:=λh' d q g m =>
  h h' d g m λc o G e=>by rw[q.2 c (aa4 G)];exact r c o e
 refine aaw (abp (aaw (Ep (s:={ s with heap:=l }) (Good.type (s:={ s with heap:=l }) f) ?_)))
 simp only[↓reduceIte]
 refine aaw (aax ?_)
 refine aaw (Rw (s:={ s with heap:=l }) f (aaw (Rw (s:={ s with heap:=l }) i ?_)))
 split
 ·exact zHr (s:={ s with heap:=l }) j id F (aa4 D) (aa4 z) f i n λh' d q g m=>aax (p h' d q g λk=>by rw[m k,and_comm])
 ·exact zHr (s:={ s with heap:=l }) j id F (aa4 z) (aa4 D) i f n λh' d q g m=>aax (p h' d q g m)
theorem Nt(d:∀k v,knd.is k v=true->dec v=k)(n:∀k v,knd.is k v=true->∀b,v≠.ref b)(j:b≠a)(f:Good knd dec (yC w) s.heap a l)(i:Good knd dec (yC w) s.heap b p){Q:Value->Shared->Prop}(h:∀(h':Heap) (e:List κ),Good knd dec (yC w) h' s.heap.objs.size e->(∀k,k∈e↔k∈l/\k∈p)->(∀c o,c<s.heap.objs.size->s.heap.get? c=some o->h'.get? c=some o)->Q (.ref s.heap.objs.size) { s with heap:=h' }) :
  wpAny (model prog w) A (binaryOp .BitAnd (.ref a) (.ref b)) Q E s:=by
 refine aeh (T:="set") f.type i.type F.fills_set_and F.slot_set_and (ace F.slot_set_and f.type zIf ?_ (F.args_set_and_2 _ _))
 refine aaw ?_
 refine aax ?_
 dsimp only
 refine aaw (aaw (Ep f.type ?_))
 refine Ep i.type ?_
 refine aaw (aax (aaw (zVr d _ n j f i λh' e g m k=>aax ⟨.ref s.heap.objs.size,rfl,?_,h h' e g m k⟩)))
 grind
end
end sW
namespace L2
open PySem PySem.Spec PyProof.Rows sW
section
variable{X:Cx}
def JT(c d:G3):G3:=λσ H Q=>c σ H λg f=>d σ f λb e=>∀a:LI,a.Nodup->(∀z,z∈a↔z∈g/\z∈b)->Q a e
theorem G5(F:Cr X a D)(l:Cr X b C):Cr X (.BinOp a .BitAnd b pos) (JT D C):=by
 intro c s σ H Q I h
 refine ae4 (aQ (F c s σ H _ I h) ?_)
 rintro u w ⟨p,ks,B,e,J,g,fo,N⟩
 subst e
 obtain⟨o,es,ep,t,x,gx,gd,_⟩:=id g
 have f:=J.pinned (fp:=[p]) (λb l=>by grind) (λb l=>by
  grind)
 refine aQ (l _ w σ B _ f N) ?_
 rintro u2 d ⟨P,js,U,Y,q,L,j,R⟩
 subst Y
 have n:(p,o)∈X.pn++(c++Jp [p] w.heap):=mem_append_right _ (mem_append_right _ (uG (mem_singleton.mpr rfl) x))
 have S:d.heap.get? p=some o:=(q.pin (p,o) n).1
 have W:=g.keep (h':=d.heap) λo' A=>by rw[x] at A;cases A;exact S
 have T:P≠p:=acy (j.2.2.2.2.2 (p,o) n)
 have i:=q.gD
 refine Nt Xv (λk v O b z=>?_) T W L λM y r m k=>?_
 ·obtain⟨t,rfl⟩:=acz O
  cases z
 ·have E:=i.kept (h':=M) (t':=d.toks) λb o e=>k b o (lt_size e) e
  obtain⟨_,_,_,_,_,_,_,_,_,G,_⟩:=id r
  exact⟨_,y,U,rfl,E,r,i.m9 (aa0 _) (i.hok.fresh (aa0 _)),R y G m⟩
end
end L2
namespace Ts
open PySem L2
noncomputable def yq(ns a:LI):Option LI:=if(ns.length<64\/a.length<64)/\ns.length<4000/\a.length<4000 then some (uD (ns.filter λz=>decide (z∈a))) else none
section
variable{K:Frag}{B:Bs}{sl:SL K}{md:Md}{t1 t2:TE}
theorem zPx(J:Ex B sl .hp t1 N)(h2:Ex B sl .hp t2 M):Eo B sl md (Ut (JT (JN K t1) (JN K t2))) (N.bind λa=>M.bind λb=>yq a b):=λc A F O H σ Q s k=>by
 obtain⟨n,i,P,S,d⟩:=sI A
 unfold yq at d
 split at d
 case isFalse=>cases d
 rename_i f
 cases d
 refine J n P F O H σ _ s λv L R g E=>?_
 obtain⟨p,vs,rfl,C,z2⟩:=E
 have U:=z2.vals
 subst U
 refine⟨p,n,rfl,aZ.of C,f.2.1,λks nd r=>?_⟩
 refine h2 i S L O R σ _ (s.grow g) λw t Z I x=>?_
 obtain⟨T,vs',rfl,X,Y⟩:=x
 have G:=Y.vals
 subst G
 refine⟨T,i,rfl,aZ.of X,f.2.2,λjs jd q rs h m=>⟨f.1.elim (aa7 (G4 h λz j=>(r z).mp ((m z).mp j).1)) (aa7 (G4 h λz j=>(q z).mp ((m z).mp j).2)),λl y D o u=>?_⟩⟩
 have e:y=uD (n.filter λz=>decide (z∈i)):=JR (uH u (o.nodup_iff.mpr h)) (JQ _) λz=>by rw[o.mem_iff,m,r,q,bZ,mem_filter,decide_eq_true_iff]
 subst e
 exact k l _ t Z (g.trans I) D (Cm _)
end
end Ts
namespace L2
open PySem PySem.Spec PyProof.Rows
section
variable{X:Cx}
theorem JV:Wn X .BitOr (Wo λi j=>ac8 i j):=by
 intro pins s σ H x y v u Q I d b h
 obtain⟨i,j,c,a,q⟩:=h
 subst c;subst a
 obtain⟨t,rfl⟩:=d
 obtain⟨t',rfl⟩:=b
 exact ior_int ⟨.int _,H,I.tok _,⟨_,rfl⟩,q⟩
def JW(K:Frag):V->V->Hp->VK->Prop:=λx y H Q=>∃p b i v,x=.ref p/\y=.int i/\0<=i/\aZ K H p b/\aU b i=some v/\Q v H
theorem zSu(K:Frag)(h:X.K=K:=by rfl):S8 X (JW K):=by
 subst h
 intro pins s σ H o i ov iv Q I rx ry h
 obtain⟨p,xs,i,z,rfl,rfl,h0,hq,he,q⟩:=h
 cases rx
 obtain⟨t,rfl⟩:=ry
 obtain⟨its,r,pl,hz⟩:=I.list hq
 obtain⟨j,h1,h2,h3,h4,h5⟩:=Y8 he
 obtain⟨w,ew,Y_⟩:=r.get h2
 have hl:=r.length
 have hn:=Li
 have hj:i.toNat=j:=by
  rw[ae2 h0 h5] at h1
  exact aa5 h1
 exact wpAny_getItem_list pl.isList h0 (by omega) (by rw[hj];simpa using ew) ⟨z,H,I,Y_,q⟩
theorem zFv(K:Frag)(f:PE X a e)(c:X.K=K:=by rfl)(d:∀b,isTrue a X.env b=(do let v <-b;standAt a.pos;holding [v] (truthy v)):=by intro _;rfl) :
  PT X a (λσ H Q=>e σ H λx H'=>∃k,Fw K x H' k/\Q k H'):=by
 subst c
 exact zUx f d
def tLR(c:TA):TE:=λσ H Q=>c σ H λb a=>∃j:Int,b=[.int j] /\ -(2^62)<=j/\j<1000000/\∀l,a l=none->Q (.ref l) (upd a l (.lst (((abd j.toNat).map ade).map V.int)))
theorem G6{acc:List Value}:∀{ns:LI},acc.length=ns.length->(∀(i:Nat)(v:Value),acc[i]?=some v->∃t:Tok,v=acd (ns.getD i 0) t)->IntsAre acc ns:=by
 induction acc with
 |nil =>
  intro ns h _
  cases ns with
  |nil=>exact .nil
  |cons n ns=>simp at h
 |cons v acc ih =>
  intro ns h g
  cases ns with
  |nil=>simp at h
  |cons n ns =>
   obtain⟨t,e⟩:=g 0 v rfl
   subst e
   exact .cons n t (ih (by simpa using h) λi v hv=>g (i+1) v hv)
theorem zM7(hc:X.calm=true)(hg:Gl X "list")(hm:X.mg "list" = none)(y:Gl X "range")(A:X.mg "range" = none)(ha:PA X [a] ta)(hs:starEach [a] X.env=[(false,eval a X.env)]:=by rfl)(m:starEach [Expr.Call (.Name "range" p2) [a] [] c] X.env=[(false,eval (Expr.Call (.Name "range" p2) [a] [] c) X.env)]:=by rfl):PE X (.Call (.Name "list" p) [.Call (.Name "range" p2) [a] [] c] [] pos) (tLR ta):=by
 intro k s σ H Q I h
 refine abz (DN I hg hm (by decide +kernel:bootBuiltins "list" = some (.type "list")) ?_)
 refine abt ?_ m rfl
 rw[m]
 show wpAny _ _ (spliced ((false,eval (Expr.Call (.Name "range" p2) [a] [] c) X.env)::backTo pos [])) _ _ s
 refine ac3 (abz (DN I y A boot_range (abt (aQ (ha c k s σ H _ I h) ?_) hs rfl)))
 rintro us u ⟨vs,H1,I1,r1,z⟩
 obtain⟨j,e,z,q2,q⟩:=z
 subst e
 cases r1 with
 |cons r rr =>
  cases rr
  obtain⟨t,rfl⟩:=r
  refine call_range_1 (ady ?_)
  have x:Inv X k σ H1 { u with heap:=u.heap.push { cls:=.type "range",data:=.fields #[.int 0 u.toks,.int j t,.int 1 (u.toks+1)] },toks:=u.toks+1+1 }:=I1.kept λb o e=>get?_push_of_some _ e
  refine call_list_range (n:=j.toNat) (x.ok.hd hc) (IsRange.new ..) (small_one (by lia) (by lia) z (by lia)) (by rw[rangeSize_one];split<;>lia) (by lia) λh' tk g c' hk hS f=>?_
  have hI:IntsAre g.toList ((abd j.toNat).map ade):=G6 (by rw[length_toList,f.1,length_map,length_range]) λi v B=>by
   rw[getElem?_toList] at B
   obtain⟨C,rfl⟩:=f.2 i v B
   have hi:i<j.toNat:=by
    have:=(Array.getElem?_eq_some_iff.mp B).1
    rw[f.1] at this
    exact this
   refine⟨C,?_⟩
   have e:((abd j.toNat).map ade).getD i 0=(i:Int):=by
    rw[getD_eq_getElem?_getD,getElem?_map,getElem?_range hi]
    rfl
   rw[e]
   simp
  refine⟨.ref _,_,x.laid (h':=h') (t':=tk) (o:=.lst (((abd j.toNat).map ade).map V.int)) (λb ob w=>hk b ob w) (aa0 _) ?_,rfl,q _ (x.hok.fresh (aa0 _))⟩
  refine⟨?_,g.toList,c',Xg hI,?_⟩
  ·rw[length_map,length_map,length_range]
   exact aa1 (show j.toNat<=1000000 by lia) (by decide)
  ·rw[Array.toArray_toList];exact hS
end
end L2
namespace Ts
open PySem L2
noncomputable def Cu(a b:Int):Option Int:=if 0<=b/\b<=1000000/\a.natAbs<2^64 then some (a*2^b.toNat) else none
noncomputable def kY(a b:Int):Option Int:=if 0<=b then some (a/2^b.toNat) else none
section
variable{K:Frag}{B:Bs}{sl:SL K}{md:Md}{t t1 t2 te:TE}{m1 m2:Option Int}
theorem Uu(c:Ex B sl .hp t1 m1)(h2:Ex B sl .hp t2 m2):Ex B sl md (iQ (um λi j=>.int (abk i j)) t1 t2) (m1.bind λa=>m2.bind λb=>some (abk a b)):=W5 (λ_ _=>rfl) c h2
theorem Nu(h:Ex B sl .hp t1 m1)(h2:Ex B sl .hp t2 m2):Ex B sl md (iQ (rI S9 λi j=>.int (i*2^j.toNat)) t1 t2) (m1.bind λa=>m2.bind λb=>Cu a b) :=
 Ec (λa b c v w H Q e g f q=>by
  unfold Cu at e
  split at e
  case isFalse=>cases e
  rename_i d
  cases e;cases g;cases f
  exact⟨a,b,rfl,rfl,d,q⟩) h h2
theorem Xx(h:Ex B sl .hp t1 m1)(h2:Ex B sl .hp t2 m2):Ex B sl md (iQ (rI (λ_ j=>0<=j) λi j=>.int (i/2^j.toNat)) t1 t2) (m1.bind λa=>m2.bind λb=>kY a b) :=
 Ec (λa b c v w H Q e g f q=>by
  unfold kY at e
  split at e
  case isFalse=>cases e
  rename_i d
  cases e;cases g;cases f
  exact⟨a,b,rfl,rfl,d,q⟩) h h2
theorem zS2{m:Option Int}(h:Ex B sl .hp t m):Et B sl (λσ H Q=>t σ H λx H'=>∃k,Fw K x H' k/\Q k H') (m.bind λi=>some (i != 0)):=λc b F O H σ Q s k=>by
 cases m with
 |none=>cases b
 |some i =>
  cases(b)
  refine h i rfl F O H σ _ s λv d H' g r=>?_
  cases r
  exact⟨_,rfl,k d H' g⟩
noncomputable def Er(n:Int):Option LI:=if -(2^62)<=n/\n<1000000 then some ((abd n.toNat).map ade) else none
theorem zV5(h:Ex B sl .hp t m):Eo B sl md (tLR (yW t bI)) (m.bind Er):=λc a F O H σ Q s k=>by
 cases m with
 |none=>cases a
 |some n =>
  have a:Er n=some c:=a
  unfold Er at a
  split at a
  case isFalse=>cases a
  rename_i b
  cases a
  refine h n rfl F O H σ _ s λv e d g i=>?_
  cases i
  exact⟨n,rfl,b.1,b.2,λl f=>k l _ e d g f (Cm _)⟩
noncomputable def Cv(xs ys:LI):Option LI:=if xs.length+ys.length<cap then some (xs++ys) else none
theorem zQ4(i:Nat)(w:sl[i]?=some (.ow n xs))(u:sl.all (λs=>!dj s)=true)(h:Ex B sl .hp te m) :
  Sn B sl (QG (QX K "list" Zd (cP i) (yW te bI))) (λys=>sl.set i (.ow n ys)) (m.bind λa=>Cv xs a):=λys o G D σ H s k=>by
 cases m with
 |none=>cases o
 |some a =>
  have b:Cv xs a=some ys:=o
  unfold Cv at b
  split at b
  case isFalse=>cases b
  rename_i E
  cases b
  obtain⟨F,O,g,z⟩:=s
  obtain⟨p,vs,l,M,h3,_⟩:=z.chg w u
  refine⟨_,l,.inl ⟨rfl,_,aZ.of M⟩,?_⟩
  refine h a rfl F O H σ _ z λv C H' x r=>?_
  obtain⟨p',vs',j,c,f,d⟩:=(z.grow x).chg w u
  have e:=l.symm.trans j
  cases e
  obtain⟨q,us,rfl,I,N⟩:=r
  have J:=N.vals
  subst J
  have A:=f.vals
  subst A
  obtain⟨y,L⟩:=d (xs.map V.int++a.map V.int) (xs++a) (by rw[<-map_append];exact Cm _)
  exact⟨p,q,_,_,rfl,rfl,c,I,by rw[length_map,length_map];exact acv (Cg E),k _ _ ⟨C,y,g.trans x.ff,L⟩⟩
noncomputable def G7(f:Int->Int->Int)(xs:LI)(ix:Int)(y:Int):Option LI:=if 0<=ix then(L2.aU xs ix).bind λx=>setAt xs ix (f x y) else none
theorem zUj(i:Nat)(I:sl[i]?=some (.ow n xs))(o:sl.all (λs=>!dj s)=true)(Y:Ex B sl .hp ti mi)(N:Ex B sl .hp te m) :
  Sn B sl (Jm (cP i) ti te (JW K) (Wo f) BP) (λys=>sl.set i (.ow n ys)) (mi.bind λk=>m.bind λa=>G7 f xs k a):=λys X G D σ H s k=>by
 obtain⟨l,a,P,S,b⟩:=sI X
 unfold G7 at b
 split at b
 case isFalse=>cases b
 rename_i h0
 obtain⟨x,Z,b⟩:=ac1.mp b
 obtain⟨F,O,g,z⟩:=s
 obtain⟨p,vs,A,h2,h3,_⟩:=z.chg I o
 refine⟨_,A,?_⟩
 refine Y l P F O H σ _ z λv U H' h r=>?_
 cases r
 obtain⟨p',u,E,J,C,h4'⟩:=(z.grow h).chg I o
 have e:=A.symm.trans E
 cases e
 obtain⟨Q,y,q⟩:=C.aU Z
 have q:Q=.int x:=Sc.is.mp q
 subst q
 refine⟨p,u,l,_,rfl,rfl,h0,aZ.of J,y,?_⟩
 refine N a S U O H' σ _ (z.grow h) λw F2 H2 d T=>?_
 cases T
 obtain⟨p2,c,y1,y2,L,R⟩:=((z.grow h).grow d).chg I o
 have e:=A.symm.trans y1
 cases e
 refine⟨x,a,rfl,rfl,?_⟩
 unfold setAt at b
 cases M:yc xs.length l with
 |none=>simp_all
 |some j =>
  rw[M] at b
  cases b
  obtain⟨O',z'⟩:=R (c.set j (.int (f x a))) (xs.set j (f x a)) (L.set (Sc.is.mpr rfl) j)
  exact⟨p,c,l,j,rfl,rfl,y2,by rw[L.len,M],k _ _ ⟨F2,O',(g.trans h.ff).trans d.ff,z'⟩⟩
end
section
variable{K:Frag}{B:Bs}{sl:SL K}{F H H2:Hp}{O:Own}{σ:St}{te:TE}
theorem At.same(z:At B sl F O H σ)(a:Same H H2):At B sl F O H2 σ:=by
 have d:Same (lo F O H) (lo F O H2):=λb o e=>by
  unfold lo at e ⊢
  split at e
  ·cases e
  ·rename_i f
   rw[if_neg f]
   exact a _ _ e
 exact⟨⟨z.1.fh.trans a,z.1.h0.trans a,z.1.fa,λx c=>⟨(z.1.fo x c).1,(z.1.fo x c).2.1,a _ _ (z.1.fo x c).2.2⟩,z.1.nd⟩,z.2.mono (.refl _) d a⟩
theorem G8{s:Slot K}{m:Option LI}(i:Nat)(w:sl[i]?=some s)(l:iR s=false)(h:En B sl te m):Sn B sl (lU te (qd i)) (λa=>sl.set i (.ow true a)) m:=λa y G D σ H s k=>by
 obtain⟨F,O,g,z⟩:=s
 refine h a y F O H σ _ z λv E j H2 d I r=>k _ _ ?_
 obtain⟨p,J,rfl,c,A⟩:=r
 have t:J=a.map V.int:=A.vals
 subst t
 have f:j p=none:=by
  cases q:j p with
  |none=>rfl
  |some u=>unfold dif at c;grind
 have h2:=by rw[xX f] at c;exact c
 obtain⟨C,x⟩:=(z.grow d).own (n:=true) w l f (Cm a)
 exact⟨E,C,g.trans d.ff,x.same λb o e=>by
  by_cases q:b=p
  ·subst q
   rw[zM] at e
   grind
  ·rw[zT q] at e
   exact I b o e⟩
end
noncomputable def sY{α:Type}(xs:List α)(lo b:Option Int):List α:=(xs.drop (HT.dh xs.length 0 lo)).take (HT.dh xs.length xs.length b-HT.dh xs.length 0 lo)
noncomputable def G9{α:Type}(xs ys:List α):Option (List α):=if xs.length+ys.length<=cap then some (xs++ys) else none
section
variable{P:Program}{w:World}{K:Frag}{mg:Str->Option Value}{base:Heap}{B:Bs}{sl:SL K}{md:Md}{α β:Type}[Rp K α][Rp K β]{tA:Addr}{tO:HO}{te t1 t2:TE}
theorem A2.cut(h:A2 R vs xs)(lo a:Option Int):A2 R (ur vs lo a) (sY xs lo a):=by
 unfold ur sY
 rw[h.len]
 exact(h.dr _).tk _
theorem zV7[Sc K α]{m:Option (List α)}{mi:Option Int}{e:TE}(h:Ex B sl .hp te m)(q:Ex B sl .hp e mi):Eo B sl md (WQ (Gb K) te (WK e) WD) (m.bind λxs=>mi.bind λi=>some (sY xs (some i) none)):=λc b F O H σ Q s k=>by
 obtain⟨xs,i,j,a,b⟩:=sI b
 cases b
 refine h xs j F O H σ _ s λv t z g r=>?_
 refine q i a t O z σ _ (s.grow g) λu f A d o=>?_
 obtain⟨p,y,rfl,n,C⟩:=r
 exact⟨i,o,p,y,rfl,aZ.of (d.hh _ _ n),λl x=>k l _ f A (g.trans d) x (C.cut _ _).sc⟩
theorem Nv[Sc K α]{h j:Option (List α)}(z:Ex B sl .hp t1 h)(h2:Ex B sl .hp t2 j):Eo B sl md (iQ TF t1 t2) (h.bind λa=>j.bind λb=>G9 a b):=λc d F O H σ Q s k=>by
 obtain⟨D,M,I,C,d⟩:=sI d
 unfold G9 at d
 split at d
 case isFalse=>cases d
 rename_i E
 cases d
 refine z D I F O H σ _ s λv A o g r=>?_
 refine h2 M C A O o σ _ (s.grow g) λu n L f y=>?_
 obtain⟨p,G,rfl,t,m⟩:=r
 obtain⟨q,x,rfl,J,i⟩:=y
 refine⟨p,q,G,x,rfl,rfl,f.hh _ _ t,J,?_,λl e=>k l _ n L (g.trans f) e (m.sc.app i.sc)⟩
 rw[m.len,i.len]
 exact zXv E
theorem Uv(K:Frag){X:Cx}(h:X.K=K:=by rfl):Tp X (Gb K):=by subst h;exact Gd
end
section
variable{X:Cx}{pos pos':Pos}{x:Str}{e:Expr}{te:TE}
theorem xA(i:Nat)(a:X.N.Nodup)(d:PE X e te)(b:X.N[i]?=some x:=by rfl)(c:Loc X.env.scope x:=by first|exact .inl rfl|exact .inr rfl)(g:swapsWith e (some (.Name x pos')) pos.line X.env=pure false:=by rfl)(f:X.fn x=true\/X.env.scope.names.lookup x=some .local:=by first|exact .inl rfl|exact .inr rfl|assumption):PS X (.Assign [.Name x pos'] e pos) (lU te (qd i)):=Fi a b c d g f
theorem bV(i:Nat)(a:X.N.Nodup)(d:X.N[i]?=some x:=by rfl)(b:Loc X.env.scope x:=by first|exact .inl rfl|exact .inr rfl)(c:X.fn x=true\/X.env.scope.names.lookup x=some .local:=by first|exact .inl rfl|exact .inr rfl|assumption):PG X (.Name x pos) (qd i):=yE a d b c
end
theorem esc{K:Frag}{B:Bs}{a:SL K}{md:Md}{α:Type}[Rp K α][Sc K α]{t:TE}{m:Option α}(h:Ex B a .hp t m):Ex B a md t m:=h.sc
theorem fsc{N P:List Str}{s:Scope}(g:s.kind=.function:=by rfl)(h2:s.isCoroutine=false:=by rfl)(d:s.isGenerator=false:=by rfl)(e:N.Nodup:=by decide +kernel)(b:N.take P.length=P:=by rfl)(c:∀x∈P,s.names.lookup x=some .local\/s.names.lookup x=some .cell:=by decide +kernel)(f:∀y∈s.names,y.2≠.free:=by decide +kernel):ao N P s:=⟨g,h2,d,e,b,c,f⟩
section
variable{K:Frag}{x y:Str}{st:Stmt}{f:Addr}{fd:FuncData}{p0 p1 p2 p3 p4:Str}
theorem sZ(F:aW K x y st f fd)(h:∀kV p o n j l i,bindArgs (fnOf x y (uT st) (wV st) (zI st) .none kV p o n j l) ⟨[i],[]⟩=pure [(p0,i)]:=by intros;rfl):Binds K fd [p0] []:=F.binds λa b c d e g m k=>by
 rcases m with _|⟨i,_|_⟩<;>cases k
 exact h a b c d e g i
theorem iC(F:aW K x y st f fd)(h:∀kV m p o k l i j,bindArgs (fnOf x y (uT st) (wV st) (zI st) .none kV m p o k l) ⟨[i,j],[]⟩=pure [(p0,i),(p1,j)]:=by intros;rfl):Binds K fd [p0,p1] []:=F.binds λa b c d e g n q=>by
 rcases n with _|⟨i,_|⟨j,_|_⟩⟩<;>cases q
 exact h a b c d e g i j
theorem oh(F:aW K x y st f fd)(h:∀kV n q p l r k i j,bindArgs (fnOf x y (uT st) (wV st) (zI st) .none kV n q p l r) ⟨[k,i,j],[]⟩=pure [(p0,k),(p1,i),(p2,j)]:=by intros;rfl):Binds K fd [p0,p1,p2] []:=F.binds λa b c d e g o m=>by
 rcases o with _|⟨k,_|⟨i,_|⟨j,_|_⟩⟩⟩<;>cases m
 exact h a b c d e g k i j
theorem Rx(F:aW K x y st f fd)(h:∀kV o r q m s l i j k,bindArgs (fnOf x y (uT st) (wV st) (zI st) .none kV o r q m s) ⟨[l,i,j,k],[]⟩=pure [(p0,l),(p1,i),(p2,j),(p3,k)]:=by intros;rfl):Binds K fd [p0,p1,p2,p3] []:=F.binds λa b c d e g p n=>by
 rcases p with _|⟨l,_|⟨i,_|⟨j,_|⟨k,_|_⟩⟩⟩⟩<;>cases n
 exact h a b c d e g l i j k
end
theorem bN{K:Frag}{a b:SL K}(h:Le a b:=by repeat(first|exact Le.nil|refine Le.eq ?_|refine Le.un ?_|refine Le.fr ?_)):Le a b:=h
theorem cU{K:Frag}{a b:SL K}(h:sJ a b:=by repeat(first|exact sJ.nil|refine sJ.eq ?_|refine sJ.un ?_)):sJ a b:=h
abbrev Slot.z{α:Type}[Rp K α](a:α):Slot K:=.fz false a
abbrev Slot.y{α:Type}[Rp K α](a:α):Slot K:=.fz true a
end Ts
namespace sW
open PySem PySem.SetTable
def Xy(m:Nat):Nat->Nat->Nat
 |0,i=>i
 |t+1,i=>Xy m t ((i*5+1)%m)
def seen(m:Nat):Nat->Nat->Nat->Nat
 |0,_,a=>a
 |t+1,i,a=>seen m t ((i*5+1)%m) (a|||1 <<< i)
theorem zM0(m j:Nat):∀(t i acc:Nat),(seen m t i acc).testBit j=true->acc.testBit j=true\/∃u,u<t/\Xy m u i=j
 |0,i,acc,h=>.inl h
 |t+1,i,acc,h=>by
  rcases zM0 m j t _ _ h with z|⟨u,b,e⟩
  ·rw[Nat.testBit_or,ac6] at z
   rcases z with z|z
   ·exact .inl z
   ·rw[Nat.testBit_shiftLeft,abn,decide_eq_true_eq] at z
    obtain⟨z1,a⟩:=z
    have:j-i=0:=by
     cases q:j-i with
     |zero=>rfl
     |succ n =>
      rw[q] at a
      have:(1:Nat).testBit (n+1)=false:=Nat.testBit_lt_two_pow (aa2 (by decide) (acw (by decide) (acp (abg n))))
      rw[this] at a
      cases a
    exact .inr ⟨0,aev _,by show i=j;omega⟩
  ·exact .inr ⟨u+1,Nat.succ_lt_succ b,e⟩
def zy(m:Nat):Bool:=(abd m).all λi=>seen m m i 0==2^m-1
theorem G_(h:zy m=true)(a:i<m)(hj:j<m):∃u,u<m/\Xy m u i=j:=by
 have q:=all_eq_true.mp h i (mem_range.mpr a)
 have t:(seen m m i 0).testBit j=true:=by grind
 rcases zM0 m j m i 0 t with z|z
 ·grind
 ·exact z
theorem Uw:zy 8=true:=by decide +kernel
theorem Ux:zy 16=true:=by decide +kernel
theorem Uy:zy 32=true:=by decide +kernel
theorem Uz:zy 64=true:=by decide +kernel
theorem Nx:zy 128=true:=by decide +kernel
theorem Ny:zy 256=true:=by decide +kernel
theorem UG{owner:Array (Option Nat)}{mask i:Nat}(h:owner.getD i (some 0)=none):(abd (runEnd mask i+1-i)).find? (λk=>(owner.getD (i+k) (some 0)).isNone)≠none:=λe=>by
 have q:=List.find?_eq_none.mp e 0 (mem_range.mpr (by unfold runEnd;grind))
 grind
theorem zKj{owner:Array (Option Nat)}{mask:Nat}:∀(a i p j:Nat),layClean.free mask owner a i p=some j->owner.getD j (some 0)=none
 |0,_,_,_,h=>by cases h
 |a+1,i,p,j,h=>by
  unfold layClean.free at h
  split at h
  ·simp_all
  ·exact zKj a _ _ j h
theorem zKk{owner:Array (Option Nat)}{mask j:Nat}(b:owner.getD j (some 0)=none):∀(a u i:Nat),u<a->Xy (mask+1) u i=j->layClean.free mask owner a i 0≠none
 |0,u,i,h,_=>absurd h (ab7 _)
 |a+1,0,i,_,e=>by
  have c:=e
  subst c
  unfold layClean.free
  cases q:(abd (runEnd mask i+1-i)).find? λk=>(owner.getD (i+k) (some 0)).isNone with
  |none=>exact absurd q (UG b)
  |some k=>grind
 |a+1,u+1,i,h,e=>by
  unfold layClean.free
  cases q:(abd (runEnd mask i+1-i)).find? λk=>(owner.getD (i+k) (some 0)).isNone with
  |none=>exact zKk b a u _ (Nat.lt_of_succ_lt_succ h) e
  |some k=>grind
theorem zNm{owner:Array (Option Nat)}{mask:Nat}(a:Nat)(h0:∀i,i<=mask->layClean.free mask owner a i 0≠none):∀(d i p:Nat),i<=mask->p<32^d->layClean.free mask owner (a+d) i p≠none
 |0,i,p,c,b=>by
  grind
 |d+1,i,p,c,b=>by
  unfold layClean.free
  cases q:(abd (runEnd mask i+1-i)).find? λk=>(owner.getD (i+k) (some 0)).isNone with
  |none=>exact zNm a h0 d _ _ (ac9 (ae9 _ (aev _))) (by grind)
  |some k=>grind
theorem Hf{owner:Array (Option Nat)}{mask j:Nat}(a:zy (mask+1)=true)(d:j<=mask)(b:owner.getD j (some 0)=none)(h:Int):∃k,layClean.free mask owner (turns mask) (bits h%(mask+1)) (bits h)=some k/\owner.getD k (some 0)=none:=by
 have q:layClean.free mask owner (mask+2+13) (bits h%(mask+1)) (bits h)≠none:=zNm (mask+2) (λi c=>by
  obtain⟨u,hu,e⟩:=G_ a (Nat.lt_succ_of_le c) (Nat.lt_succ_of_le d)
  exact zKk b _ u i (by lia) e) 13 _ _ (ac9 (ae9 _ (aev _))) (by unfold bits;grind)
 unfold turns
 cases e:layClean.free mask owner (mask+15) (bits h%(mask+1)) (bits h) with
 |none=>grind
 |some k=>exact⟨k,rfl,zKj _ _ _ _ e⟩
theorem zIe{α:Type}(v:α):∀(l:List (Option α))(j:Nat),l[j]?=some none->((l.set j (some v)).filterMap id).Perm (v::l.filterMap id)
 |[],j,h=>by simp at h
 |x::l,0,h=>by
  have e:x=none:=by simpa using h
  subst e
  exact .refl _
 |none::l,j+1,h=>by
  show((l.set j (some v)).filterMap id).Perm (v::l.filterMap id)
  exact zIe v l j (by simpa using h)
 |some x::l,j+1,h=>by
  show(x::(l.set j (some v)).filterMap id).Perm (v::x::l.filterMap id)
  exact((zIe v l j (by simpa using h)).cons x).trans (.swap _ _ _)
theorem zJm:∀(l:List (Option Nat)),(l.filterMap id).length<l.length->∃j,j<l.length/\l[j]?=some none
 |[],h=>by simp at h
 |none::l,_=>⟨0,by simp,rfl⟩
 |some x::l,h=>by
  obtain⟨j,hj,e⟩:=zJm l (by simpa using h)
  exact⟨j+1,by simpa using hj,e⟩
theorem getD_none{owner:Array (Option Nat)}:owner.getD j (some 0)=none↔owner.toList[j]?=some none:=by
 rw[Array.getD_eq_getD_getElem?,getElem?_toList]
 cases owner[j]? with
 |none=>simp
 |some x=>simp
theorem zXk{mask:Nat}(hc:zy (mask+1)=true):∀(hs:LI)(owner:Array (Option Nat))(k:Nat),owner.size=mask+1->(owner.toList.filterMap id).Perm (abd k)->k+hs.length<=mask ->
  ∃vd,hs.foldl (λacc h=>do
   let(owner,k) <-acc
   let j <-layClean.free mask owner (turns mask) (bits h%(mask+1)) (bits h)
   pure (owner.setIfInBounds j (some k),k+1)) (some (owner,k))=some (vd,k+hs.length)/\vd.size=mask+1/\(vd.toList.filterMap id).Perm (abd (k+hs.length))
 |[],owner,k,h1,h2,h3=>⟨owner,rfl,h1,h2⟩
 |h::hs,owner,k,h1,h2,h3=>by
  obtain⟨j,hj,ej⟩:=zJm owner.toList (by rw[h2.length_eq,length_range,length_toList,h1];rw[length_cons] at h3;omega)
  obtain⟨i,ei,fi⟩:=Hf hc (owner:=owner) (j:=j) (by rw[length_toList,h1] at hj;omega) (getD_none.mpr ej) h
  have q:=zXk hc hs (owner.setIfInBounds i (some k)) (k+1) (by rw[Array.size_setIfInBounds];exact h1) ?_ (by rw[length_cons] at h3;omega)
  ·obtain⟨o',e,z1,z2⟩:=q
   have ek:k+(h::hs).length=k+1+hs.length:=by rw[length_cons];omega
   refine⟨o',?_,z1,by rw[ek];exact z2⟩
   rw[ek,List.foldl_cons,<-e]
   refine congrArg (λz=>List.foldl _ z hs) ?_
   show(layClean.free mask owner (turns mask) (bits h%(mask+1)) (bits h)).bind _=_
   rw[ei]
   rfl
  ·rw[Array.toList_setIfInBounds,range_succ]
   exact((zIe k owner.toList i (getD_none.mp fi)).trans (h2.cons k)).trans (List.perm_append_singleton k _).symm
theorem zJz:∀(l:List (Option Nat)),(abd l.length).filterMap (λj=>(l[j]?).getD none)=l.filterMap id
 |[]=>rfl
 |x::l=>by
  rw[length_cons,range_succ_eq_map,filterMap_cons,filterMap_map]
  have e:((λj=>((x::l)[j]?).getD none)∘Nat.succ)=λj=>(l[j]?).getD none:=rfl
  rw[e,zJz l]
  cases x<;>rfl
theorem zSj{mask:Nat}(i:zy (mask+1)=true)(finger moves:Nat)(led plain:Bool)(c:Array Int)(l:c.size<=mask) :
  ∃t a,laid mask finger moves led plain c=some (t,a)/\a.toList.Perm (abd c.size)/\t.place.size=c.size/\t.dummies=#[]/\t.mask=mask/\t.led=led/\t.plain=plain/\Rz t.place:=by
 obtain⟨b,e,m,d⟩:=zXk i c.toList (Array.replicate (mask+1) none) 0 (by rw[Array.size_replicate]) (by rw[Array.toList_replicate,List.filterMap_replicate_of_none rfl];exact .refl _) (by rw[afe,length_toList];exact l)
 rw[afe,length_toList] at d
 have h:layClean mask c=some b:=by
  unfold layClean
  rw[<-Array.foldl_toList,e]
  rfl
 have g:((abd (mask+1)).filterMap λj=>(b.getD j none).map λk=>(j,k)).map (·.2)=b.toList.filterMap id:=by
  rw[<-zJz b.toList,length_toList,m,List.map_filterMap]
  refine congrArg (λf=>List.filterMap f _) (funext λj=>?_)
  rw[Array.getD_eq_getD_getElem?,getElem?_toList]
  cases(b[j]?).getD none<;>rfl
 refine⟨_,_,by unfold laid;rw[h];rfl,?_,?_,rfl,rfl,rfl,rfl,zJv (λj=>b.getD j none) _⟩
 ·show((abd (mask+1)).filterMap λj=>(b.getD j none).map λk=>(j,k)).map (·.2) |>.Perm _
  rw[g]
  exact d
 ·show(((abd (mask+1)).filterMap λj=>(b.getD j none).map λk=>(j,k)).map (·.1)).length=_
  rw[length_map,<-length_map (f:=(·.2)),g,d.length_eq,length_range]
theorem zWk(h:n<=255):∃m,sizeAbove n=m+1/\n<=m/\zy (m+1)=true/\m<=255:=by
 by_cases h1:n<8
 ·exact⟨7,by unfold sizeAbove;unfold sizeAbove.go;rw[if_neg (by lia)],by lia,Uw,by omega⟩
 by_cases h2:n<16
 ·exact⟨15,by unfold sizeAbove;unfold sizeAbove.go;rw[if_pos (by lia)];unfold sizeAbove.go;rw[if_neg (by lia)],by lia,Ux,by omega⟩
 by_cases h3:n<32
 ·exact⟨31,by unfold sizeAbove;unfold sizeAbove.go;rw[if_pos (by lia)];unfold sizeAbove.go;rw[if_pos (by lia)];unfold sizeAbove.go;rw[if_neg (by lia)],by lia,Uy,by omega⟩
 by_cases h4:n<64
 ·exact⟨63,by unfold sizeAbove;unfold sizeAbove.go;rw[if_pos (by lia)];unfold sizeAbove.go;rw[if_pos (by lia)];unfold sizeAbove.go;rw[if_pos (by lia)];unfold sizeAbove.go;rw[if_neg (by lia)],by lia,Uz,by omega⟩
 by_cases h5:n<128
 ·exact⟨127,by unfold sizeAbove;unfold sizeAbove.go;rw[if_pos (by lia)];unfold sizeAbove.go;rw[if_pos (by lia)];unfold sizeAbove.go;rw[if_pos (by lia)];unfold sizeAbove.go;rw[if_pos (by lia)];unfold sizeAbove.go;rw[if_neg (by lia)],by lia,Nx,by omega⟩
 ·exact⟨255,by unfold sizeAbove;unfold sizeAbove.go;rw[if_pos (by lia)];unfold sizeAbove.go;rw[if_pos (by lia)];unfold sizeAbove.go;rw[if_pos (by lia)];unfold sizeAbove.go;rw[if_pos (by lia)];unfold sizeAbove.go;rw[if_pos (by lia)];unfold sizeAbove.go;rw[if_neg (by lia)],by lia,Ny,by omega⟩
open PySem PySem.Spec PyProof.Rows
section
variable{prog:Program}{w:World}{κ:Type}[DecidableEq κ]{knd:KeyKind prog w κ}{dec:Value->κ}{led:Bool}{A:Around}{E:Value->Shared->Prop}{s:Shared}
theorem zHk{α:Type}(es:Array α)(a:Array Nat)(h:a.toList.Perm (abd es.size)):(a.filterMap (es[·]?)).toList.Perm es.toList:=by
 rw[Array.toList_filterMap]
 refine(h.filterMap _).trans ?_
 have e:(abd es.size).filterMap (es[·]?)=es.toList:=by
  have:∀l:List α,(abd l.length).filterMap (λj=>l[j]?)=l:=λl=>by
   induction l with
   |nil=>rfl
   |cons x l ih =>
    rw[length_cons,range_succ_eq_map,filterMap_cons,filterMap_map]
    show x::List.filterMap (λj=>l[j]?) _=_
    rw[ih]
  have q:=this es.toList
  grind
 rw[e]
theorem zM4{Q:Unit->Shared->Prop}(e:s.heap.get? a=some o)(d:o.data=.set es ep t)(y:t.fits es.size=true)(x:b<=255)(hn:es.size<=b)(h:∀(es':Array (Int×Value)) (t':SetTable),es'.toList.Perm es.toList->t'.place.size=es.size->t'.dummies=#[]->b<=t'.mask->zy (t'.mask+1)=true->t'.led=t.led->Rz t'.place->Q () { s with heap:=s.heap.update a (afa es' t') }):wpAny (model prog w) A (setRelay a b) Q E s:=by
 obtain⟨m,i,e2,f,e4⟩:=zWk x
 unfold setRelay
 refine aaw (aa9 e d y ?_)
 dsimp only
 rw[if_neg (by rw[i];show¬m+1 > 2^24;lia)]
 obtain⟨t',c,r,g,k,u,v,l,q7,q⟩:=zSj (mask:=m) f t.finger (t.movedTo m) t.led t.plain (es.map (·.1)) (by grind)
 rw[size_map] at g k
 have n:t.relaid (es.map (·.1)) b=some (t',c):=by
  unfold SetTable.relaid
  rw[i]
  exact r
 rw[n]
 have p:=zHk es c g
 have j:(c.filterMap (es[·]?)).size=es.size:=by rw[<-length_toList,p.length_eq,length_toList]
 refine aaw (m:=(if((c.filterMap (es[·]?)).size != es.size)=true then unsupported "internal:set-table-lost-an-element" else pure (c.filterMap (es[·]?),t'))) ?_
 rw[if_neg (by rw[j];simp)]
 refine aax ?_
 exact aci e d (h _ t' p k u (by grind) (by rw[v];exact f) l q) (by rw[j];show es.size<=2^24;lia)
theorem zEj{t':SetTable}(h1:t'.place.size=n)(h2:t'.dummies=#[])(h3:a<=t'.mask)(h4:n<=a):t'.fits n=true:=by
 unfold fits aeb
 grind
theorem zM3{Q:Unit->Shared->Prop}(g:Good knd dec led s.heap a ks)(hw:wanted<=255)(hn:ks.length<=wanted)(h:∀h',SameBut a s.heap h'->Good knd dec led h' a ks->Q () { s with heap:=h' }):wpAny (model prog w) A (setRelay a wanted) Q E s:=by
 obtain⟨o,es,ep,t,ho,hx,hd,hel,hp,nd,hb,hf,tb⟩:=g
 have ln:es.size=ks.length:=by rw[<-hp.length_eq,length_map,length_toList]
 refine zM4 ho hd hf hw (by rw[ln];exact hn) λes' t' p q3 q4 q5 q6 q7 q8=>h _ (SameBut.update _ a _) ?_
 have sz:es'.size=es.size:=by rw[<-length_toList,p.length_eq,length_toList]
 exact⟨_,es',_,t',JM (es':=es') (t':=t') ho hd,hx,rfl,hel.perm p,(p.map _).trans hp,nd,by rw[sz];exact hb,by rw[sz];exact zEj q3 q4 q5 (by rw[ln];exact hn),⟨q7.trans tb.led,λ_=>q8⟩⟩
theorem Hg{Q:Unit->Shared->Prop}(g:Good knd dec led s.heap a ks)(hw:(ks.length+b)*2<=255)(h:∀h',SameBut a s.heap h'->Good knd dec led h' a ks->Q () { s with heap:=h' }):wpAny (model prog w) A (setRoomFor a b) Q E s:=by
 obtain⟨o,i,ep,t,d,hx,f,hel,e,nd,hb,c,tb⟩:=id g
 have ln:i.size=ks.length:=by rw[<-e.length_eq,length_map,length_toList]
 unfold setRoomFor
 refine aaw (aa9 d f c ?_)
 dsimp only
 unfold SetTable.roomFor
 have pl:=Us c
 split
 ·rename_i z
  split at z
  ·cases z
   exact zM3 g (by grind) (by grind) h
  grind
 ·exact aax (h _ (SameBut.refl a s.heap) g)
theorem zF5{Q:Unit->Shared->Prop}(l:s.heap.get? r=some { cls:=.type "set",dict:=none,data:=.set #[] 0 (.fresh 0 0 (yC w)) })(G:r≠o)(g:Good knd dec (yC w) s.heap o ks)(hl:ks.length<=127)(h:∀h',SameBut r s.heap h'->Good knd dec (yC w) h' r ks->Q () { s with heap:=h' }):wpAny (model prog w) A (setMerge r o each) Q E s:=by
 obtain⟨ob,b,ep,t,ho,hx,Z,u,F,V,C,X,D⟩:=id g
 have ln:b.size=ks.length:=by rw[<-F.length_eq,length_map,length_toList]
 unfold setMerge
 rw[if_neg (by simpa using G)]
 refine aaw (aa9 ho Z X ?_)
 dsimp only
 by_cases e:b.isEmpty=true
 ·rw[if_pos e]
  have e0:b.size=0:=by simpa[Array.isEmpty] using e
  have k0:ks=[]:=length_eq_zero_iff.mp (by rw[<-ln];exact e0)
  subst k0
  exact aax (h _ (SameBut.refl r s.heap) (Ur l))
 rw[if_neg e]
 refine aaw (ab0 (Q:=λ_ s'=>∃(i:Heap)(x:Obj)(k:Nat)(d:SetTable),s'={ s with heap:=i }/\SameBut r s.heap i/\i.get? r=some x/\x.ExactSet/\x.data=.set #[] k d/\d.place.size=0/\d.dummies=#[]/\d.led=yC w/\zy (d.mask+1)=true/\b.size<=d.mask) ?first ?post (λ_ _ h=>h))
 case post =>
  rintro _ _ ⟨i,x,k,d,rfl,O,q,T,n,L,N,P,Y,M⟩
  refine aaw (aa9 (s:={ s with heap:=i }) q n (by show d.fits 0=true;exact zEj L N (abg _) (aa0 0)) ?_)
  dsimp only
  have f:d.fill=0:=by unfold aeb;rw[L,N];rfl
  unfold SetTable.road
  rw[f]
  rw[if_neg (by simp)]
  by_cases v:(d.mask==t.mask&&t.dummies.isEmpty)=true
  ·rw[if_pos v]
   refine aci (s:={ s with heap:=i }) q n (h _ (O.trans (SameBut.update _ r _)) ⟨_,b,_,_,JM (es':=b) (t':=_) q n,T,rfl,u,F,V,C,X,⟨?_,λz=>D.rz (Bool.and_eq_true_iff.mp z).2⟩⟩) (acg C)
   show(d.led&&t.led)=_
   rw[P,D.led,ae5]
  ·rw[if_neg v]
   obtain⟨j,a,q1,S,y,H,W,J,R,U⟩:=zSj (mask:=d.mask) Y d.finger d.moves (d.led&&t.led) (d.plain&&t.plain) (b.map (·.1)) (by rw[size_map];exact M)
   rw[size_map] at S y
   dsimp only
   rw[q1]
   have p:=zHk b a S
   have B:(a.filterMap (b[·]?)).size=b.size:=by rw[<-length_toList,p.length_eq,length_toList]
   refine aaw (m:=(if((a.filterMap (b[·]?)).size != b.size)=true then unsupported "internal:set-table-lost-an-element" else pure (a.filterMap (b[·]?),j))) ?_
   rw[if_neg (by rw[B];simp)]
   refine aax ?_
   refine aci (s:={ s with heap:=i }) q n (h _ (O.trans (SameBut.update _ r _)) ⟨_,_,_,j,JM (es':=a.filterMap (b[·]?)) (t':=j) q n,T,rfl,u.perm p,(p.map _).trans F,V,by rw[B];exact C,by rw[B];exact zEj y H (by rw[W];exact M) (aa0 _),⟨?_,λ_=>U⟩⟩) (acg (by rw[B];exact C))
   rw[J,P,D.led,ae5]
 case first =>
  unfold setRoomFor
  refine aaw (aa9 l rfl rfl ?_)
  dsimp only
  have e1:(SetTable.fresh 0 0 (yC w)).roomFor b.size=if(b.size*5 ≥ 21) then some (b.size*2) else none:=by
   unfold SetTable.roomFor aeb SetTable.fresh
   simp
  rw[e1]
  by_cases c:b.size*5 ≥ 21
  ·rw[if_pos c]
   refine zM4 l rfl rfl (by lia) (abg _) λI j p y H W J R U=>?_
   have ee:I=#[]:=by
    have:=p.length_eq
    rw[length_toList] at this
    exact Array.eq_empty_of_size_eq_zero this
   subst ee
   exact⟨_,_,_,j,rfl,SameBut.update _ r _,JM (es':=#[]) (t':=j) l rfl,⟨rfl,rfl,rfl⟩,rfl,y,H,R,J,by omega⟩
  ·rw[if_neg c]
   exact aax ⟨s.heap,_,0,_,rfl,SameBut.refl r s.heap,l,⟨rfl,rfl,rfl⟩,rfl,rfl,rfl,rfl,Uw,by show b.size<=7;omega⟩
end
section
variable{prog:Program}{w:World}{κ:Type}[DecidableEq κ]{knd:KeyKind prog w κ}{dec:Value->κ}{led:Bool}{A:Around}{E:Value->Shared->Prop}{s:Shared}
theorem zTd{Q:Value->Shared->Prop}(g:Good knd dec (yC w) s.heap a ks)(n:ks.length<=127)(h:∀(h':Heap),Good knd dec (yC w) h' s.heap.objs.size ks->(∀c o,c<s.heap.objs.size->s.heap.get? c=some o->h'.get? c=some o)->(ks=[]->h'=s.heap.push { cls:=.type "set",dict:=none,data:=.set #[] 0 (.fresh 0 0 (yC w)) })->Q (.ref s.heap.objs.size) { s with heap:=h' }) :
  wpAny (model prog w) A (adk a) Q E s:=by
 have l:a<s.heap.objs.size:=by obtain⟨o,_,_,_,m,_⟩:=g;exact lt_size m
 have b:∀c o,s.heap.get? c=some o->(s.heap.push { cls:=.type "set",dict:=none,data:=.set #[] 0 (.fresh 0 0 (yC w)) }).get? c=some o:=λc o e=>get?_push_of_some _ e
 have d:=g.keep (b a)
 unfold adk
 refine aaw (zMl g.type (aaw (zF3 ?_)))
 refine aaw (aax ?_)
 cases ks with
 |nil =>
  obtain⟨o,k,ep,t,r,hx,j,hel,f,nd,hb,p,tb⟩:=d
  have e0:k.size=0:=by rw[<-length_toList];have:=f.length_eq;grind
  unfold setMerge
  rw[if_neg (by grind)]
  refine aaw (aaw (aa9 (s:={ s with heap:=_ }) r j p ?_))
  dsimp only
  rw[if_pos (by grind)]
  refine aax (aax (h _ (Ur (get?_push_size _ rfl)) (λc o _ e=>b c o e) λ_=>rfl))
 |cons k0 ks0 =>
  refine aaw (zF5 (s:={ s with heap:=_ }) (get?_push_size _ rfl) (ad0 l) d n λh' u q=>?_)
  exact aax (h h' q (λc o i e=>by rw[u.2 c (aa4 i)];exact b c o e) λz=>by cases z)
theorem UJ{α:Type}(xs:Array α)(p:Nat):(eraseAt xs p).toList=xs.toList.eraseIdx p:=by
 unfold eraseAt
 rw[List.eraseIdx_eq_take_drop_succ]
 simp[List.extract_eq_take_drop]
 exact List.take_of_length_le (by grind)
theorem zVs{α:Type}(xs:Array α)(p:Nat)(x:α):(insertAt xs p x).size=xs.size+1:=by
 unfold insertAt
 grind
theorem UL(hr:Rz xs)(p:Nat):Rz (eraseAt xs p):=by
 intro i k a b hik ha hb
 rw[<-getElem?_toList,UJ,List.getElem?_eraseIdx] at ha hb
 have q:∀j,xs.toList[j]?=xs[j]?:=λj=>getElem?_toList
 split at ha<;>split at hb
 ·exact hr i k a b hik (by rw[<-q];exact ha) (by rw[<-q];exact hb)
 ·exact hr i (k+1) a b (by omega) (by rw[<-q];exact ha) (by rw[<-q];exact hb)
 ·omega
 ·exact hr (i+1) (k+1) a b (by omega) (by rw[<-q];exact ha) (by rw[<-q];exact hb)
theorem zPz(f:∀k v,knd.is k v=true->dec v=k){Q:Bool->Shared->Prop}(P:knd.is k x=true)(U:x.scannable=true)(g:Good knd dec led s.heap a ks)(h:∀(h':Heap) (b:Bool),SameBut a s.heap h'->Good knd dec led h' a (ks.erase k)->Q b { s with heap:=h' }) :
  wpAny (model prog w) A (setDiscardHashed a x (knd.hash k)) Q E s:=by
 obtain⟨o,c,ep,t,m,V,l,d,C,N,M,n,I⟩:=id g
 unfold setDiscardHashed
 refine aaw ?_
 unfold setFind setFindIn
 refine aaw (aa9 m l n ?_)
 dsimp only
 rw[byScan_of U M d]
 simp only[↓reduceIte]
 refine aaw (aea (aaw (wpAny_setScan_of P m l n d ?_)))
 have R:=zKl f d k
 cases H:List.findIdx? (λe=>knd.is k e.2) c.toList with
 |none =>
  have O:k∉ks:=λz=>R.mp H (C.mem_iff.mpr z)
  dsimp only
  refine aax (aax ?_)
  have q:=h s.heap false (SameBut.refl a s.heap)
  rw[List.erase_of_not_mem O] at q
  exact q g
 |some j =>
  obtain⟨p,u,_⟩:=List.findIdx?_eq_some_iff_getElem.mp H
  dsimp only
  rw[afe]
  refine aax (aaw (aa9 m l n ?_))
  dsimp only
  have D:t.place.size=c.size:=Us n
  have i:j<t.place.size:=by rw[D,<-length_toList];exact p
  have y:(eraseAt c j).size=c.size-1:=by rw[<-length_toList,UJ,length_eraseIdx,if_pos p,length_toList]
  have F:t.drop j={ t with place:=eraseAt t.place j,dummies:=insertAt t.dummies (below t.dummies t.place[j]) t.place[j] }:=by
   unfold SetTable.drop
   rw[aa3 i]
  have jz:j<c.size:=by rw[<-length_toList];exact p
  have T:(t.drop j).fits (eraseAt c j).size=true:=by
   rw[F]
   unfold fits aeb at n ⊢
   have S:(eraseAt t.place j).size=c.size-1:=by rw[<-length_toList,UJ,length_eraseIdx,length_toList,if_pos i,D]
   dsimp only
   rw[S,zVs,y]
   grind
  have B:Tb led (t.drop j):=by
   rw[F]
   exact⟨I.led,λz=>UL (I.rz z) j⟩
  have r:((eraseAt c j).toList.map λe=>dec e.2).Perm (ks.erase k):=by
   rw[UJ]
   have G:=((Xp p).map λe=>dec e.2).trans C
   rw[map_cons,f k _ u] at G
   have J:=G.erase k
   rw[List.erase_cons_head] at J
   exact J
  refine aaw (aci m l (aaw (wpAny_point (aax (h _ true (SameBut.update _ a _) ⟨_,_,_,_,JM (es':=eraseAt c j) (t':=t.drop j) m l,V,rfl,λe L=>?_,r,N.erase k,by rw[y];lia,T,B⟩)))) (acg (by rw[y];lia)))
  rw[UJ] at L
  exact d e (List.mem_of_mem_eraseIdx L)
theorem Hh{Q:Unit->Shared->Prop}(g:Good knd dec led s.heap a ks)(hw:ks.length<=63)(h:∀h',SameBut a s.heap h'->Good knd dec led h' a ks->Q () { s with heap:=h' }):wpAny (model prog w) A (setTidy a) Q E s:=by
 obtain⟨o,b,ep,t,i,hx,f,hel,c,nd,hb,d,tb⟩:=id g
 have ln:b.size=ks.length:=by rw[<-c.length_eq,length_map,length_toList]
 refine aaw (aa9 i f d ?_)
 dsimp only
 split
 ·have e:grown b.size=ks.length*4:=by unfold grown;grind
  exact zM3 g (by lia) (by lia) h
 ·exact aax (h _ (SameBut.refl a s.heap) g)
theorem zOl(g:Good knd dec (yC w) s.heap a ks)(r:∀b∈d,∃ks:List κ,Good knd dec (yC w) s.heap b ks)(p:∀k v,knd.is k v=true->∀b,v≠.ref b){Q:Array (Int×Value)->Shared->Prop}(h:∀(es:Array (Int×Value)),ElemsOf knd es.toList->(es.toList.map λe=>dec e.2).Perm ks->Q es s):wpAny (model prog w) A (setWalkUnseen a d none) Q E s:=by
 obtain⟨o,es,ep,t,q,h2,u,x,hl,tb,l,n⟩:=g.size
 refine aaw (aa9 q u x ?_)
 dsimp only
 refine aaw (Np ?_)
 split
 ·rename_i c
  refine zQc g (λm o' i ep' t' h1' h3'=>?_) λi f j=>h i f j
  grind
 ·refine aaw (zM5 (knd:=knd) (dec:=dec) (led:=yC w) (a::d) (λb m=>(mem_cons.mp m).elim (λe=>e▸⟨ks,g⟩) (r b)) p ?_)
  exact aaw (aea (aax (h es l n)))
theorem Hi(p:∀k v,knd.is k v=true->dec v=k)(id:String)(hn:∀k v,knd.is k v=true->∀b,v≠.ref b)(x:b≠r)(I:Good knd dec (yC w) s.heap r u)(J:Good knd dec (yC w) s.heap b G)(hl:u.length<=63)(Y:¬G.length/8 > u.length){Q:Unit->Shared->Prop}(h:∀(h':Heap) (d:List κ),SameBut r s.heap h'->Good knd dec (yC w) h' r d->(∀k,k∈d↔k∈u/\k∉G)->Q () { s with heap:=h' }) :
  wpAny (model prog w) A (Builtin.Frozenset.differenceUpdate id r (.ref b)) Q E s:=by
 obtain⟨o,es,ep,t,X,n,T,V,hlb,tb,hel,hp⟩:=J.size
 have nda:u.Nodup:=by obtain⟨_,_,_,_,_,_,_,_,_,L,_⟩:=I;exact L
 unfold Builtin.Frozenset.differenceUpdate
 rw[if_neg (λe=>x (ae7 (aej e)))]
 refine aaw (Ep J.type ?_)
 simp only[↓reduceIte]
 refine aaw (aax ?_)
 refine aaw (Rw J (aaw (Rw I ?_)))
 rw[if_neg Y]
 refine aaw (abx X T V ?_)
 refine aaw (abp (aaw (zOl J (λc Z=>(mem_singleton.mp Z)▸⟨u,I⟩) hn λR F O=>?_)))
 rw[<-forIn_toList]
 refine aaw (ab0 (ac2 (β:=Unit) _ (λl _ z=>∃n d,z={ s with heap:=n }/\SameBut r s.heap n/\Good knd dec (yC w) n r d/\ElemsOf knd l/\d.length<=63/\∀k,(k∈d/\k∉l.map λe=>dec e.2)↔(k∈u/\k∉G)) (λ_ z=>∃n d,z={ s with heap:=n }/\SameBut r s.heap n/\Good knd dec (yC w) n r d/\d.length<=63/\∀k,k∈d↔k∈u/\k∉G) ?turn ?fin R.toList () ⟨s.heap,u,rfl,SameBut.refl r s.heap,I,F,hl,λk=>?_⟩) ?post (λ_ _ h=>h))
 case turn =>
  rintro⟨hs',v⟩ l W z ⟨g,d,rfl,i,y,B,f,C⟩
  obtain⟨⟨k,P,U⟩,D⟩:=B _ mem_cons_self
  dsimp only at P U D ⊢
  subst U
  have dv:dec v=k:=p k v P
  have S:d.Nodup:=by obtain⟨_,_,_,_,_,_,_,_,_,L,_⟩:=y;exact L
  refine aaw (abp (zPz (led:=yC w) (s:={ s with heap:=g }) p P D y λj b'' m M=>?_))
  refine aaw ?_
  unfold abm
  refine aaw (abx (s:={ s with heap:=j }) (by show j.get? b=_;rw[m.2 b x];show g.get? b=_;rw[i.2 b x];exact X) T V ?_)
  simp only[bne_self_eq_false,abf,↓reduceIte]
  refine aax (aax ⟨j,d.erase k,rfl,i.trans m,M,λe he=>B e (mem_cons_of_mem _ he),?_,λc=>?_⟩)
  ·have:=List.length_erase_le (a:=k) (l:=d)
   lia
  ·rw[<-C c,map_cons,mem_cons]
   show _↔(c∈d/\¬(c=dec v\/_))
   rw[dv,S.mem_erase_iff]
   constructor
   ·rintro⟨⟨N,H⟩,z3⟩
    exact⟨H,λq=>q.elim N z3⟩
   ·rintro⟨N,H⟩
    exact⟨⟨λq=>H (.inl q),N⟩,λq=>H (.inr q)⟩
 case fin =>
  rintro W z ⟨g,d,rfl,i,y,_,f,C⟩
  refine⟨g,d,rfl,i,y,f,λk=>?_⟩
  rw[<-C k]
  simp
 case post =>
  rintro W z ⟨g,d,rfl,i,y,f,C⟩
  refine aax ?_
  exact Hh (s:={ s with heap:=g }) y f λj m M=>h j d (i.trans m) M C
 ·rw[O.mem_iff]
end
theorem zIc:entryFor table "set.__sub__" = some Builtin.«frozenset.__sub__»:=ad2 (id':="frozenset.__sub__") (by kernel_rfl) rfl (by decide +kernel) (by kernel_rfl)
theorem zJs:entryFor table "set.__or__" = some Builtin.«frozenset.__or__»:=ad2 (id':="frozenset.__or__") (by kernel_rfl) rfl (by decide +kernel) (by kernel_rfl)
section
variable{prog:Program}{w:World}{κ:Type}[DecidableEq κ]{knd:KeyKind prog w κ}{dec:Value->κ}{led:Bool}{A:Around}{E:Value->Shared->Prop}{s:Shared}
theorem zS8(u:∀k v,knd.is k v=true->dec v=k)(id:String)(hn:∀k v,knd.is k v=true->∀b,v≠.ref b)(hxr:x≠r)(W:y≠r)(gx:Good knd dec (yC w) s.heap x m)(X:Good knd dec (yC w) s.heap y B)(gr:Good knd dec (yC w) s.heap r [])(Z:∀o es e t,s.heap.get? y=some o->o.data=.set es e t->e=ep){Q:Unit->Shared->Prop}(h:∀(h':Heap) (a:List κ),SameBut r s.heap h'->Good knd dec (yC w) h' r a->(∀k,k∈a↔k∈B/\k∉m)->Q () { s with heap:=h' }) :
  wpAny (model prog w) A (do
   for (h,V) in <-setWalkUnseen y [x,r] (some r) do
    holding [V] do
     let G <-pure (<-setFind x V h).isSome
     if !G then
      let _ <-setAddHashed r V h
    abm id y ep) Q E s:=by
 obtain⟨o,es,M,t,h1,d,h3,hf,hl,tb,hel,hp⟩:=X.size
 have e1:=Z o es M t h1 h3
 subst e1
 refine aaw (zFf X gr (λb hb=>(mem_cons.mp hb).elim (λe=>e▸⟨m,gx⟩) λe=>(mem_singleton.mp e)▸⟨[],gr⟩) hn λR h' N O sb gr'=>?_)
 rw[<-forIn_toList]
 have ln:R.toList.length=B.length:=by rw[<-O.length_eq,length_map]
 refine aaw (ab0 (ac2 (β:=Unit) _ (λl _ J=>∃d a,J={ s with heap:=d }/\SameBut r s.heap d/\Good knd dec (yC w) d r a/\ElemsOf knd l/\a.length+l.length<=B.length/\∀k,(k∈a\/(k∉m/\k∈l.map λe=>dec e.2))↔(k∈B/\k∉m)) (λ_ J=>∃d a,J={ s with heap:=d }/\SameBut r s.heap d/\Good knd dec (yC w) d r a/\∀k,k∈a↔k∈B/\k∉m) ?turn ?fin R.toList () ⟨h',[],rfl,sb,gr',N,by rw[ln,length_nil];lia,λk=>?_⟩) ?post (λ_ _ h=>h))
 case turn =>
  rintro⟨hs,v⟩ l b J ⟨d,a,rfl,i,L,S,P,I⟩
  obtain⟨⟨k,T,hh⟩,H⟩:=S _ mem_cons_self
  dsimp only at T hh H ⊢
  subst hh
  have kx':∀o,s.heap.get? x=some o->d.get? x=some o:=λo e=>by rw[i.2 x hxr];exact e
  have U:=gx.keep kx'
  have dv:dec v=k:=u k v T
  rw[length_cons] at P
  have F:∀(f:Heap)(p:List κ),SameBut r s.heap f->Good knd dec (yC w) f r p->p.length+l.length<=B.length->(∀c,(c∈p\/(c∉m/\c∈l.map λe=>dec e.2))↔(c∈B/\c∉m)) ->
    wpAny (model prog w) A (abm id y M) (λ_ D=>wpAny (model prog w) A (pure (acj ())) (λq D=>match q with|.yield _=>∃d a,D={ s with heap:=d }/\SameBut r s.heap d/\Good knd dec (yC w) d r a/\ElemsOf knd l/\a.length+l.length<=B.length/\∀k,(k∈a\/(k∉m/\k∈l.map λe=>dec e.2))↔(k∈B/\k∉m)|.done _=>∃d a,D={ s with heap:=d }/\SameBut r s.heap d/\Good knd dec (yC w) d r a/\∀k,k∈a↔k∈B/\k∉m) E D) E { s with heap:=f }:=λf p C Y l3 m3=>by
   unfold abm
   refine aaw (abx (s:={ s with heap:=f }) (by show f.get? y=_;rw[C.2 y W];exact h1) h3 hf ?_)
   simp only[bne_self_eq_false,abf,↓reduceIte]
   exact aax (aax ⟨f,p,rfl,C,Y,λe he=>S e (mem_cons_of_mem _ he),l3,m3⟩)
  refine aaw (abp (aaw (wpAny_setFind_of (s:={ s with heap:=d }) T H (U.setOf u) λq hq=>aaw (aax ?_))))
  cases q with
  |some j =>
   have nk:k∈m:=by simpa using hq.symm
   simp only[ael,ab2,abf,↓reduceIte]
   refine aax (aaw (F d a i L (by lia) λc=>?_))
   rw[<-I c,map_cons,mem_cons]
   show _↔(c∈a\/c∉m/\(c=dec v\/_))
   rw[dv]
   constructor
   ·rintro(z|⟨n,g⟩)
    ·exact .inl z
    ·exact .inr ⟨n,.inr g⟩
   ·rintro(z|⟨n,g|g⟩)
    ·exact .inl z
    ·exact absurd nk (g▸n)
    ·exact .inr ⟨n,g⟩
  |none =>
   have mk:k∉m:=by simpa using hq.symm
   simp only[Option.isSome_none,Bool.not_false,↓reduceIte]
   refine aaw (Xo (led:=yC w) (s:={ s with heap:=d }) u T H L (by have:=X.len;lia) λf b' C Y=>?_)
   refine aax (aaw (F f _ (i.trans C) Y ?_ λc=>?_))
   ·split
    ·lia
    ·rw[length_cons];lia
   ·rw[<-I c,map_cons,mem_cons]
    show _↔(c∈a\/c∉m/\(c=dec v\/_))
    rw[dv]
    have e:c∈(if k∈a then a else k::a)↔c=k\/c∈a:=by
     split
     ·rename_i z
      exact⟨.inr,λq=>q.elim (λq=>q▸z) λq=>q⟩
     ·exact mem_cons
    rw[e]
    constructor
    ·rintro((z|z)|⟨n,g⟩)
     ·exact .inr ⟨z▸mk,.inl z⟩
     ·exact .inl z
     ·exact .inr ⟨n,.inr g⟩
    ·rintro(z|⟨n,g|g⟩)
     ·exact .inl (.inr z)
     ·exact .inl (.inl g)
     ·exact .inr ⟨n,g⟩
 case fin =>
  rintro b J ⟨d,a,rfl,i,L,_,_,I⟩
  refine⟨d,a,rfl,i,L,λk=>?_⟩
  rw[<-I k]
  simp
 case post =>
  rintro b J ⟨d,a,rfl,i,L,I⟩
  exact aax (h d a i L I)
 ·rw[O.mem_iff]
  constructor
  ·rintro(z|⟨n,g⟩)
   ·cases z
   ·exact⟨g,n⟩
  ·exactλ⟨n,g⟩=>.inr ⟨g,n⟩
theorem Hj(d:∀k v,knd.is k v=true->dec v=k)(id:String)(D:∀k v,knd.is k v=true->∀b,v≠.ref b)(hab:b≠a)(q:Good knd dec (yC w) s.heap a H)(n:Good knd dec (yC w) s.heap b P)(F:H.length<=63){Q:Value->Shared->Prop}(h:∀(h':Heap) (j:List κ),Good knd dec (yC w) h' s.heap.objs.size j->(∀k,k∈j↔k∈H/\k∉P)->(∀c o,c<s.heap.objs.size->s.heap.get? c=some o->h'.get? c=some o)->Q (.ref s.heap.objs.size) { s with heap:=h' }) :
  wpAny (model prog w) A (Builtin.Frozenset.difference id a (.ref b)) Q E s:=by
 have R:a<s.heap.objs.size:=by obtain⟨o,_,_,_,i,_⟩:=q;exact lt_size i
 have z:b<s.heap.objs.size:=by obtain⟨o,_,_,_,i,_⟩:=n;exact lt_size i
 unfold Builtin.Frozenset.difference
 refine aaw (Ep n.type ?_)
 simp only[ab2,abf,Bool.false_and,↓reduceIte]
 refine aaw (aax ?_)
 refine aaw (Rw n (aaw (Rw q ?_)))
 split
 ·rename_i c
  refine aaw (aea (aaw (zTd q (by lia) λh' N J _=>?_)))
  refine aaw (aax ?_)
  refine aaw (abp (Hi (s:={ s with heap:=h' }) d id D (aa4 z) N (n.keep λo e=>J b o z e) F (by lia) λG j B O m=>aax (h G j O m λc o u e=>?_)))
  rw[B.2 c (aa4 u)]
  exact J c o u e
 ·refine aaw (zMl q.type (aaw (zF3 ?_)))
  refine aaw (aax ?_)
  have x:∀c o,s.heap.get? c=some o->(s.heap.push { cls:=.type "set",dict:=none,data:=.set #[] 0 (.fresh 0 0 (yC w)) }).get? c=some o:=λc o e=>get?_push_of_some _ e
  have f:=q.keep (x a)
  have l:=n.keep (x b)
  have r:Good knd dec (yC w) (s.heap.push { cls:=.type "set",dict:=none,data:=.set #[] 0 (.fresh 0 0 (yC w)) }) s.heap.objs.size []:=Ur (get?_push_size _ rfl)
  generalize hp:s.heap.push { cls:=.type "set",dict:=none,data:=.set #[] 0 (.fresh 0 0 (yC w)) }=y at x f l r ⊢
  obtain⟨o,es,ep,t,i,G,C,S,F,tb,hel,hpp⟩:=f.size
  refine aaw (abx (s:={ s with heap:=y }) i C S ?_)
  refine aaw (abp (zS8 (s:={ s with heap:=y }) d id D (aa4 z) (aa4 R) l f r (λM es' e' t' L I=>?_) λh' j B g m=>aax (h h' j g m λc o u e=>?_)))
  ·have p:y.get? a=some M:=L
   rw[i] at p
   cases p
   rw[C] at I
   cases I
   rfl
  ·rw[B.2 c (aa4 u)];exact x c o e
theorem Nz(d:∀k v,knd.is k v=true->dec v=k)(q:∀k v,knd.is k v=true->∀b,v≠.ref b)(j:b≠a)(f:Good knd dec (yC w) s.heap a l)(i:Good knd dec (yC w) s.heap b n)(p:l.length<=63){Q:Value->Shared->Prop}(h:∀(h':Heap) (e:List κ),Good knd dec (yC w) h' s.heap.objs.size e->(∀k,k∈e↔k∈l/\k∉n)->(∀c o,c<s.heap.objs.size->s.heap.get? c=some o->h'.get? c=some o)->Q (.ref s.heap.objs.size) { s with heap:=h' }) :
  wpAny (model prog w) A (binaryOp .Sub (.ref a) (.ref b)) Q E s:=by
 refine aeh (op:=.Sub) f.type i.type F.fills_set_sub F.slot_set_sub (ace F.slot_set_sub f.type zIc ?_ (F.args_set_sub_2 _ _))
 refine aaw ?_
 refine aax ?_
 dsimp only
 refine aaw (aaw (Ep f.type ?_))
 refine Ep i.type ?_
 refine aaw (aax (aaw (Hj d _ q j f i p λh' e g m k=>aax ⟨.ref s.heap.objs.size,rfl,?_,h h' e g m k⟩)))
 grind
end
section
variable{prog:Program}{w:World}{κ:Type}[DecidableEq κ]{knd:KeyKind prog w κ}{dec:Value->κ}{led:Bool}{A:Around}{E:Value->Shared->Prop}{s:Shared}
theorem zVj(u:∀k v,knd.is k v=true->dec v=k)(id:String)(hn:∀k v,knd.is k v=true->∀b,v≠.ref b)(n:o≠r)(g:Good knd dec (yC w) s.heap r j)(go:Good knd dec (yC w) s.heap o B)(hk:j≠[])(hl:(j.length+B.length)*2<=255)(Y:∀ob es e t,s.heap.get? o=some ob->ob.data=.set es e t->e=ep){Q:Unit->Shared->Prop}(h:∀(h':Heap) (ks:List κ),SameBut r s.heap h'->Good knd dec (yC w) h' r ks->(∀k,k∈ks↔k∈j\/k∈B)->Q () { s with heap:=h' }) :
  wpAny (model prog w) A (setMerge r o (abm id o ep)) Q E s:=by
 obtain⟨ob,es,V,t,X,p,U,hf,M,tb,hel,hp⟩:=go.size
 have e1:=Y ob es V t X U
 subst e1
 unfold setMerge
 rw[if_neg (by simpa using(acy n))]
 refine aaw (aa9 X U hf ?_)
 dsimp only
 by_cases i:es.isEmpty=true
 ·rw[if_pos i]
  have e0:es.size=0:=by simpa[Array.isEmpty] using i
  have k0:B=[]:=length_eq_zero_iff.mp (by rw[<-M];exact e0)
  subst k0
  exact aax (h _ j (SameBut.refl r s.heap) g λk=>by simp)
 rw[if_neg i]
 refine aaw (Hg g (by rw[M];exact hl) λW T Z=>?_)
 obtain⟨o5,es5,ep5,t5,i1,i2,i3,D,il5,tb5,aau,ip5⟩:=Z.size
 have go4:=go.keep (h':=W) λob' e=>by rw[T.2 o n];exact e
 refine aaw (aa9 (s:={ s with heap:=W }) i1 i3 D ?_)
 dsimp only
 have y:t5.fill≠0:=by
  unfold aeb
  rw[Us D,il5]
  cases j with
  |nil=>exact absurd rfl hk
  |cons a l=>rw[length_cons];lia
 unfold SetTable.road
 rw[if_pos (by simpa using y)]
 dsimp only
 refine aaw (zFf (s:={ s with heap:=W }) go4 Z (λb hb=>(mem_singleton.mp hb)▸⟨j,Z⟩) hn λR h' N P sb gr'=>?_)
 rw[<-forIn_toList]
 have ln:R.toList.length=B.length:=by rw[<-P.length_eq,length_map]
 refine aaw (ab0 (ac2 (β:=Unit) _ (λl _ C=>∃p ks,C={ s with heap:=p }/\SameBut r s.heap p/\Good knd dec (yC w) p r ks/\ElemsOf knd l/\ks.length+l.length<=128/\∀k,(k∈ks\/k∈l.map λe=>dec e.2)↔(k∈j\/k∈B)) (λ_ C=>∃p ks,C={ s with heap:=p }/\SameBut r s.heap p/\Good knd dec (yC w) p r ks/\∀k,k∈ks↔k∈j\/k∈B) ?turn ?fin R.toList () ⟨h',j,rfl,T.trans sb,gr',N,by rw[ln];lia,λk=>?_⟩) ?post (λ_ _ h=>h))
 case turn =>
  rintro⟨hs,v⟩ l b C ⟨f,ks,rfl,d,F,O,H,J⟩
  obtain⟨⟨k,x,hh⟩,L⟩:=O _ mem_cons_self
  dsimp only at x hh L ⊢
  subst hh
  have dv:dec v=k:=u k v x
  rw[length_cons] at H
  have big:(129:Nat)<scanBound:=by decide
  have I:ks.length+1<scanBound:=by lia
  refine aaw (abp (Xo (led:=yC w) (s:={ s with heap:=f }) u x L F I λm b' S g3=>?_))
  have G:m.get? o=some ob:=by rw[S.2 o n];show f.get? o=_;rw[d.2 o n];exact X
  refine aaw ?_
  unfold abm
  refine aaw (abx (s:={ s with heap:=m }) G U hf ?_)
  simp only[bne_self_eq_false,abf,↓reduceIte]
  refine aax (aaw (aa9 (s:={ s with heap:=m }) G U hf ?_))
  simp only[bne_self_eq_false,abf,↓reduceIte]
  refine aax ⟨m,_,rfl,d.trans S,g3,λe he=>O e (mem_cons_of_mem _ he),?_,λc=>?_⟩
  ·split
   ·lia
   ·rw[length_cons];lia
  ·rw[<-J c,map_cons,mem_cons]
   show _↔(c∈ks\/(c=dec v\/_))
   rw[dv]
   have e:c∈(if k∈ks then ks else k::ks)↔c=k\/c∈ks:=by
    split
    ·rename_i z
     exact⟨.inr,λq=>q.elim (λq=>q▸z) λq=>q⟩
    ·exact mem_cons
   rw[e]
   constructor
   ·rintro((z|z)|z)
    ·exact .inr (.inl z)
    ·exact .inl z
    ·exact .inr (.inr z)
   ·rintro(z|z|z)
    ·exact .inl (.inr z)
    ·exact .inl (.inl z)
    ·exact .inr z
 case fin =>
  rintro b C ⟨f,ks,rfl,d,F,_,_,J⟩
  refine⟨f,ks,rfl,d,F,λk=>?_⟩
  rw[<-J k]
  simp
 case post =>
  rintro b C ⟨f,ks,rfl,d,F,J⟩
  exact aax (h f ks d F J)
 ·rw[P.mem_iff]
theorem NK(c:∀k v,knd.is k v=true->dec v=k)(id:String)(m:∀k v,knd.is k v=true->∀b,v≠.ref b)(d:o≠r)(g:Good knd dec (yC w) s.heap r f)(e:Good knd dec (yC w) s.heap o i)(h0:f=[]->s.heap.get? r=some { cls:=.type "set",dict:=none,data:=.set #[] 0 (.fresh 0 0 (yC w)) })(p:(f.length+i.length)*2<=255){Q:Unit->Shared->Prop}(h:∀(h':Heap) (ks:List κ),SameBut r s.heap h'->Good knd dec (yC w) h' r ks->(∀k,k∈ks↔k∈f\/k∈i)->Q () { s with heap:=h' }) :
  wpAny (model prog w) A (Builtin.Frozenset.updateFrom id r (.ref o)) Q E s:=by
 obtain⟨ob,es,ep',t,n,h2,q,x,hlo,tb,hel,hp⟩:=e.size
 refine aaw (Ep e.type ?_)
 simp only[↓reduceIte]
 refine aaw (aax ?_)
 refine aaw (abx n q x ?_)
 cases f with
 |nil=>exact zF5 (h0 rfl) (acy d) e (by grind) λh' u j=>h h' i u j λk=>by simp
 |cons a l =>
  refine zVj c id m d g e (λz=>by cases z) p (λob' es' e' t' z1 z2=>?_) h
  grind
theorem UW(d:∀k v,knd.is k v=true->dec v=k)(u:∀k v,knd.is k v=true->∀b,v≠.ref b)(hab:b≠a)(g:Good knd dec (yC w) s.heap a n)(f:Good knd dec (yC w) s.heap b q)(hl:n.length<=63)(hl':q.length<=63){Q:Value->Shared->Prop}(h:∀(h':Heap) (p:List κ),Good knd dec (yC w) h' s.heap.objs.size p->(∀k,k∈p↔k∈n\/k∈q)->(∀c o,c<s.heap.objs.size->s.heap.get? c=some o->h'.get? c=some o)->Q (.ref s.heap.objs.size) { s with heap:=h' }) :
  wpAny (model prog w) A (binaryOp .BitOr (.ref a) (.ref b)) Q E s:=by
 have l:b<s.heap.objs.size:=by obtain⟨o,_,_,_,B,_⟩:=f;exact lt_size B
 refine aeh (op:=.BitOr) (T:="set") g.type f.type F.fills_set_or F.slot_set_or (ace F.slot_set_or g.type zJs ?_ (F.args_set_or_2 _ _))
 refine aaw (m:=Builtin.Frozenset.slot1 "__or__" ⟨[.ref a,.ref b],[]⟩) ?_
 unfold Builtin.Frozenset.slot1 slotArgs
 refine aax ?_
 dsimp only
 refine aaw (aaw (Ep g.type ?_))
 refine Ep f.type ?_
 simp only[ab2,abf,↓reduceIte]
 refine aaw (aax (aaw ?_))
 refine aaw (m:=adk a) (zTd g (by lia) λh' G j D=>?_)
 have C:(abq b != .ref a)=true:=by
  grind
 rw[if_pos C]
 refine aaw (aax ?_)
 refine aaw (abp (NK (s:={ s with heap:=h' }) d _ u (aa4 l) G (f.keep λo e=>j b o l e) (λz=>?_) (by lia) λr y t x m=>aax (aax ⟨.ref s.heap.objs.size,rfl,?_,h r y x m λc o i e=>?_⟩)))
 ·show h'.get? _=_
  rw[D z]
  exact get?_push_size _ rfl
 ·exactλz=>Value.noConfusion z
 ·rw[t.2 c (aa4 i)]
  exact j c o i e
end
end sW
namespace L2
open PySem PySem.Spec PyProof.Rows sW
section
variable{X:Cx}
def JX(g d:G3):G3:=λσ H Q=>g σ H λb f=>b.length<64/\d σ f λc e=>∀a:LI,a.Nodup->(∀z,z∈a↔z∈b/\z∉c)->Q a e
theorem Hl(F:Cr X a D)(l:Cr X b C):Cr X (.BinOp a .Sub b pos) (JX D C):=by
 intro c s σ H Q I h
 refine ae4 (aQ (F c s σ H _ I h) ?_)
 rintro u w ⟨p,ks,B,e,J,g,fo,R,N⟩
 subst e
 obtain⟨o,es,ep,t,x,gx,gd,_⟩:=id g
 have f:=J.pinned (fp:=[p]) (λb l=>by grind) (λb l=>by
  grind)
 refine aQ (l _ w σ B _ f N) ?_
 rintro u2 d ⟨P,js,W,Z,q,L,j,S⟩
 subst Z
 have n:(p,o)∈X.pn++(c++Jp [p] w.heap):=mem_append_right _ (mem_append_right _ (uG (mem_singleton.mpr rfl) x))
 have T:d.heap.get? p=some o:=(q.pin (p,o) n).1
 have Y:=g.keep (h':=d.heap) λo' A=>by rw[x] at A;cases A;exact T
 have U:P≠p:=acy (j.2.2.2.2.2 (p,o) n)
 have i:=q.gD
 refine Nz Xv (λk v O b z=>?_) U Y L (ac9 R) λM y r m k=>?_
 ·obtain⟨t,rfl⟩:=acz O
  cases z
 ·have E:=i.kept (h':=M) (t':=d.toks) λb o e=>k b o (lt_size e) e
  obtain⟨_,_,_,_,_,_,_,_,_,G,_⟩:=id r
  exact⟨_,y,W,rfl,E,r,i.m9 (aa0 _) (i.hok.fresh (aa0 _)),S y G m⟩
def U0(f g:G3):G3:=λσ H Q=>f σ H λc d=>c.length<64/\g σ d λb e=>b.length<64/\∀a:LI,a.Nodup->(∀z,z∈a↔z∈c\/z∈b)->Q a e
theorem NP(D:Cr X a ta)(f:Cr X b T):Cr X (.BinOp a .BitOr b pos) (U0 ta T):=by
 intro c s σ H Q I h
 refine ae4 (aQ (D c s σ H _ I h) ?_)
 rintro u r ⟨p,ks,W,e,J,g,fo,R,N⟩
 subst e
 obtain⟨o,es,ep,t,y,gx,gd,_⟩:=id g
 have i:=J.pinned (fp:=[p]) (λb f=>by grind) (λb f=>by
  grind)
 refine aQ (f _ r σ W _ i N) ?_
 rintro u2 d ⟨P,js,Y,C,x,L,j,l,F⟩
 subst C
 have q:(p,o)∈X.pn++(c++Jp [p] r.heap):=mem_append_right _ (mem_append_right _ (uG (mem_singleton.mpr rfl) y))
 have S:d.heap.get? p=some o:=(x.pin (p,o) q).1
 have Z:=g.keep (h':=d.heap) λo' B=>by rw[y] at B;cases B;exact S
 have U:P≠p:=acy (j.2.2.2.2.2 (p,o) q)
 have n:=x.gD
 refine UW Xv (λk v O b z=>?_) U Z L (ac9 R) (ac9 l) λM A w m k=>?_
 ·obtain⟨t,rfl⟩:=acz O
  cases z
 ·have E:=n.kept (h':=M) (t':=d.toks) λb o e=>k b o (lt_size e) e
  obtain⟨_,_,_,_,_,_,_,_,_,G,_⟩:=id w
  exact⟨_,A,Y,rfl,E,w,n.m9 (aa0 _) (n.hok.fresh (aa0 _)),F A G m⟩
end
end L2
namespace Ts
open PySem L2
noncomputable def qG(ns a:LI):Option LI:=if ns.length<64/\a.length<4000 then some (uD (ns.filter λz=>!decide (z∈a))) else none
noncomputable def Ho(ns a:LI):Option LI:=if ns.length<64/\a.length<64/\(uD (ns++a)).length<64 then some (uD (ns++a)) else none
section
variable{K:Frag}{B:Bs}{sl:SL K}{md:Md}{t1 t2:TE}
theorem zPv(L:Ex B sl .hp t1 R)(h2:Ex B sl .hp t2 N):Eo B sl md (Ut (JX (JN K t1) (JN K t2))) (R.bind λa=>N.bind λb=>qG a b):=λc P F O H σ Q s k=>by
 obtain⟨m,h,S,Z,d⟩:=sI P
 unfold qG at d
 split at d
 case isFalse=>cases d
 rename_i f
 cases d
 refine L m S F O H σ _ s λv M T g E=>?_
 obtain⟨p,vs,rfl,C,z2⟩:=E
 have X:=z2.vals
 subst X
 refine⟨p,m,rfl,aZ.of C,aa2 f.1 (by decide),λks I j=>⟨aa7 (G4 I λz i=>(j z).mp i) f.1,?_⟩⟩
 refine h2 h Z M O T σ _ (s.grow g) λw r H2 J x=>?_
 obtain⟨U,vs',rfl,Y,t⟩:=x
 have G:=t.vals
 subst G
 refine⟨U,h,rfl,aZ.of Y,f.2,λjs jd A rs o n=>⟨aa7 (G4 o λz i=>(j z).mp ((n z).mp i).1) f.1,λl y D q u=>?_⟩⟩
 have e:y=uD (m.filter λz=>!decide (z∈h)):=JR (uH u (q.nodup_iff.mpr o)) (JQ _) λz=>by rw[q.mem_iff,n,j,A,bZ,mem_filter,Bool.not_eq_true',decide_eq_false_iff_not]
 subst e
 exact k l _ r H2 (g.trans J) D (Cm _)
theorem zS3(L:Ex B sl .hp t1 P)(h2:Ex B sl .hp t2 N):Eo B sl md (Ut (U0 (JN K t1) (JN K t2))) (P.bind λa=>N.bind λb=>Ho a b):=λc A F O H σ Q s k=>by
 obtain⟨r,o,R,T,h⟩:=sI A
 unfold Ho at h
 split at h
 case isFalse=>cases h
 rename_i f
 cases h
 refine L r R F O H σ _ s λv M S g E=>?_
 obtain⟨p,vs,rfl,C,z2⟩:=E
 have X:=z2.vals
 subst X
 refine⟨p,r,rfl,aZ.of C,aa2 f.1 (by decide),λks I i=>⟨aa7 (G4 I λz d=>(i z).mp d) f.1,?_⟩⟩
 refine h2 o T M O S σ _ (s.grow g) λw t H2 J y=>?_
 obtain⟨U,vs',rfl,Y,Z⟩:=y
 have G:=Z.vals
 subst G
 refine⟨U,o,rfl,aZ.of Y,aa2 f.2.1 (by decide),λjs x j=>⟨aa7 (G4 x λz d=>(j z).mp d) f.2.1,λrs q m=>⟨aa7 (G4 q λz d=>bZ.mpr (mem_append.mpr (((m z).mp d).imp (i z).mp (j z).mp))) f.2.2,λl us D n u=>?_⟩⟩⟩
 have e:=JR (uH u (n.nodup_iff.mpr q)) (JQ _) λz=>by rw[n.mem_iff,m,i,j,bZ,mem_append]
 subst e
 exact k l _ t H2 (g.trans J) D (Cm _)
end
end Ts
namespace L2
open PySem PySem.Spec PyProof.Rows
def Itv(K:Frag)(a:Addr)(n:Nat):It :=
 ⟨λi H=>i<n/\∃b x,aZ K H a b/\b[n-1-i]?=some x,λi H x c=>c=H/\∀b,aZ K H a b->b[n-1-i]?=some x,λi _=>i=n⟩
theorem zT7{P:Program}{w:World}{K:Frag}{R:Expr}(a g:Addr)(n:Nat):Turn P w K R (Itv K a n) [g] g (λi h=>h.IsRevIter g a ((n:Int)-1-(i:Nat))) where
 mem:=by simp
 obj:=λi h st b l=>by
  have e:b=g:=by simpa using l
  subst e
  obtain⟨o,e,c,d⟩:=st
  exact⟨o,e,λv z=>by rw[d] at z;cases z⟩
 keep:=λi h m st k=>st.at λo e=>k g (by simp) o e
 item:=by
  intro X t F B N i f s σ H E I q st G
  subst t F B
  obtain⟨M,xs,x,L,J⟩:=G
  obtain⟨its,Q,p,hz⟩:=I.list L
  obtain⟨u,Z,O⟩:=Q.get J
  obtain⟨y,D,S,A,r,C⟩:=q g (by simp)
  have e:(n:Int)-1-(i:Nat)=((n-1-i:Nat):Int):=by lia
  rw[e] at st
  refine wpAny_pyNext_rev_item st p.isList (x:=u) (by simpa using Z) λm j sb=>?_
  have T:Inv X f σ H { s with heap:=m }:=I.turned (t':=s.toks) (λb o l e=>(sb.2 b l).trans e) y D A r C
  have e2:((n-1-i:Nat):Int)-1=(n:Int)-1-((i+1:Nat):Int):=by lia
  rw[e2] at j
  obtain⟨o,e,c,d⟩:=id j
  exact⟨u,rfl,QM (s:={ s with heap:=m }) e c d (by decide) ⟨x,H,T,O,⟨rfl,λys Y=>by rw[I.nY Y L];exact J⟩,j,λb l=>(q b l).1⟩⟩
 done:=by
  intro X t F B N i f s σ H E I q st G
  subst t F B
  have M:i=n:=G
  subst M
  obtain⟨y,D,S,A,r,C⟩:=q g (by simp)
  have e:(i:Int)-1-(i:Nat)=-1:=by lia
  rw[e] at st
  exact wpAny_pyNext_rev_end (I.ok.hd N) st λm U=>⟨rfl,I.turned (t':=s.toks) (λb o l e=>U b o l e) y D A r C⟩
 self:=λ_ _ _ _ _ st h=>wpAny_pyIter_revIter st h
def Hq(K:Frag)(e:TA):TI:=λσ H R=>e σ H λd c=>∃a b,d=[.ref a]/\aZ K c a b/\R (Itv K a b.length) c
theorem ou:bootBuiltins "reversed" = some (.type "reversed"):=by decide +kernel
theorem NQ(B:Gl X "reversed")(w:X.mg "reversed" = none)(v:PA X [a] n)(r:starEach [a] X.env=[(false,eval a X.env)]:=by rfl):PI X tg (.Call (.Name "reversed" p) [a] [] pos) (Hq X.K n):=by
 intro f s σ H R I h
 refine Call_ (DN I B w ou (abt (aQ (v pos f s σ H _ I h) ?_) r rfl))
 rintro us c ⟨vs,j,g,y,A⟩
 obtain⟨l,i,e,t,q⟩:=A
 subst e
 obtain⟨u,rfl,z⟩:=y.one
 cases z
 obtain⟨d,x,p,hz⟩:=g.list t
 have hl:=x.length
 refine call_reversed_list p.isList ?_
 have m:Inv X f σ j { c with heap:=c.heap.push (revObj l ((d.toArray.size:Int)-1)),toks:=c.toks }:=g.kept λb o e=>get?_push_of_some _ e
 have k:(c.heap.push (revObj l ((d.toArray.size:Int)-1))).IsRevIter c.heap.objs.size l ((i.length:Int)-1-((0:Nat):Int)):=by
  refine⟨_,get?_push_size _ rfl,rfl,?_⟩
  show Data.fields #[.ref l,rawInt ((d.toArray.size:Int)-1)]=_
  grind
 refine wpAny_pyIter_revIter (s:={ c with heap:=c.heap.push (revObj l ((d.toArray.size:Int)-1)) }) k ?_
 refine⟨c.heap.objs.size,[c.heap.objs.size],_,_,j,rfl,m,zT7 l _ i.length,k,λb hb=>?_,q⟩
 have e:b=c.heap.objs.size:=by grind
 subst e
 exact g.m9 (aa0 _) (g.hok.fresh (aa0 _))
theorem zWe{n:Nat}{ix:List Nat}{g:TG}{h:TT}{te:TE}{σ:St}{Q:VK}{H:Hp}{K:Frag}{a:Addr}{xs:List V}(c:Nat->List V->St->Hp->Prop)(h0:c 0 [] (jG σ n ix) H)(u:∀i ys σ H,i<=xs.length->c i ys σ H->aZ K H a xs/\ys.length<=i)(hz:xs.length<sizeLine)(hs:∀i x ys σ H,xs[xs.length-1-i]?=some x->i<xs.length->c i ys σ H->g x σ H λf s=>h f s λb j=>if b=true then te f j λy r=>c (i+1) (ys++[y]) f r else c (i+1) ys f j)(o:∀ys σ H,c xs.length ys σ H->∀p,H p=none->Q (.ref p) (upd H p (.lst ys))):QZ n ix g h te σ Q (Itv K a xs.length) H:=by
 refine⟨λi m ys σ H=>m=xs.length-i/\i<=xs.length/\c i ys σ H,⟨xs.length,by simp,abg _,h0⟩,?_⟩
 rintro i m ys σ H ⟨rfl,t,p⟩
 obtain⟨q,hy⟩:=u i ys σ H t p
 by_cases d:i<xs.length
 ·refine .inr ⟨⟨d,xs,xs[xs.length-1-i]'(by lia),q,aaz (by lia)⟩,by lia,c (i+1),λys' σ' l k=>⟨xs.length-(i+1),by lia,rfl,d,k⟩,λx l y=>?_⟩
  obtain⟨e,y⟩:=y
  grind
 ·have e:i=xs.length:=by lia
  subst e
  exact .inl ⟨rfl,by lia,o ys σ H p⟩
structure su(K:Frag)(C:Addr)(m:Str)(f:Addr):Prop where
 sp:specialIn K (.ref C) "__getattribute__" = some (some (.builtin "type.__getattribute__"))
 rd:PySem.W.readsIn K C (.type "type")=true
 at_:PySem.W.findCls K (.ref C) (.type "type") m=some (.val (.ref f))
 kp:keepIn K (.ref f)=true
section
variable{X:Cx}{CX:Bg}{k:Nat}{f C:Addr}{fd:FuncData}{ps:List Str}{sp:Sp}{nZ:List V}{ds:List Value}{E:XK}{x m:Str}{p pos apos:Pos}{e o:Expr}{es:List Expr}{ta:TE}{t:TA}
theorem vf(D:Gl X x)(v:X.mg x=some (.ref C))(c:su X.K C m f)(F:aq X.prog X.w X.K X.mg X.base CX k f fd ps sp)(hr:bR k X.A)(B:Binds X.K fd ps ds)(hd:Vals nZ ds)(y:DW CX X E)(n:PA X (e::es) t)(d:(x==("__debug__":Str))=false:=by decide)(i:starEach (e::es) X.env=(false,eval e X.env)::starEach es X.env:=by rfl)(g:(backTo pos (starEach es X.env)).any (·.1)=false:=by rfl)(z:eval (.Call (.Attribute (.Name x p) m apos) (e::es) [] pos) X.env=(do
   let j <-eval (.Name x p) X.env
   standAt apos.atName
   let(f,first) <-holding [j] (getMethod j m pl)
   callWith pos f first (backTo pos (starEach (e::es) X.env)) (backToKw pos (keywordEach [] X.env))):=by rfl) :
  PE X (.Call (.Attribute (.Name x p) m apos) (e::es) [] pos) (Bh sp nZ E t):=by
 intro b s σ H Q I h
 refine aec (Sw I D v ?_ d) z
 refine PySem.W.method_cls I.kh c.sp (PySem.W.cls_value I.kh c.rd c.at_ rfl ?_)
 have u:=I.tok (s.toks+1)
 refine aew I.ok.mod.QC c.kp (aQ (n pos b _ σ H _ u h) λus s1 ⟨vs,H1,l,r,q⟩=>⟨l.kh,?_⟩) i g
 exact Te F hr B hd y l r q
def zQv(K:Frag)(m:Str)(f:Addr)(sp:Sp)(nZ:List V)(E:XK)(ta:TE):TE:=λσ H Q=>ta σ H λx b=>∃a C d c,x=.ref a/\b a=some (.ins C d c)/\Cls K C/\Meth K C m f/\c.lookup m=none/\sp (x::nZ) b Q E
theorem zM6(G:PE X o ta)(F:aq X.prog X.w X.K X.mg X.base CX k f fd ps sp)(D:bR k X.A)(r:Binds X.K fd ps ds)(J:Vals nZ ds)(v:DW CX X E)(B:eval (.Call (.Attribute o m apos) [] [] pos) X.env=(do
   let j <-eval o X.env
   standAt apos.atName
   let(f,first) <-holding [j] (getMethod j m pl)
   callWith pos f first (backTo pos (starEach [] X.env)) (backToKw pos (keywordEach [] X.env))):=by rfl) :
  PE X (.Call (.Attribute o m apos) [] [] pos) (zQv X.K m f sp nZ E ta):=by
 intro d s σ H Q I h
 refine aec (aQ (G d s σ H _ I h) ?_) B
 rintro u s1 ⟨x,H1,g,n,a,C,dx,fs,y,z,c,i,l,q⟩
 subst y
 obtain rfl:u=abq a:=n
 refine YS g z c i l ?_
 exact ae0 g.kh i.kp (Te (vs:=[.ref a]) F D r J v g (.cons rfl .nil) q)
end
theorem Hr{X:Cx}{K:Frag}(h:X.K=K):Tp X (LC K):=by
 subst h
 exact zW1
theorem z_{x y:V}{A B:Prop}(h:x=y)(a:A):if decide (x=y)=true then A else B:=by
 grind
theorem cN{x y:V}{A B:Prop}(h:¬x=y)(b:B):if decide (x=y)=true then A else B:=by
 grind
end L2
namespace Sy
open PySem L2
inductive Tr where
 |all
 |mark (x:Str)
 |one (i:Fin 7) (t:Tr)
 |two (i:Fin 4) (l r:Tr)
def w1(i:Fin 7):Str:=(["not","somenext","eachnext","somealways","eachalways","someever","eachever"]:List Str).getD i.val adw
def w2(i:Fin 4):Str:=(["both","either","sometill","eachtill"]:List Str).getD i.val adw
def Tr.depth:Tr->Nat
 |.all=>0
 |.mark _=>0
 |.one _ t=>t.depth+1
 |.two _ l r=>max l.depth r.depth+1
def Kp(p:Addr)(H H':Hp):Prop:=∀b o,b≠p->H b=some o->H' b=some o
theorem Kp.of(s:Same H H'):Kp p H H':=λb o _ e=>s b o e
theorem Kp.trans(a:Kp p H d)(b:Kp p d f):Kp p H f:=λc o n e=>b c o n (a c o n e)
theorem Kp.put(p:Addr)(H:Hp)(o:HO):Kp p H (upd H p o):=λb u n e=>by rw[zT n];exact e
theorem au(h:H p=none)(o:HO):Same H (upd H p o):=λb u q=>by rw[zT (zQ q h)];exact q
theorem Xz(h:aZ K H b xs)(n:b≠a)(k:Kp a H H'):aZ K H' b xs:=by
 rcases h with(h|⟨c,h⟩)|h
 ·exact .inl (.inl (k _ _ n h))
 ·exact .inl (.inr ⟨c,k _ _ n h⟩)
 ·exact .inr h
def Bo(w:V)(q:Addr):List (Str×V):=aH "parts" (.ref q) (aH "word" w [])
def Aa(w v:V)(q:Addr):List (Str×V):=aH "part" v (Bo w q)
def Ab(w v u:V)(q:Addr):List (Str×V):=aH "right" u (aH "left" v (Bo w q))
def Ry(x:V)(q:Addr):List (Str×V):=aH "name" x (Bo x q)
theorem cG(f:Str)(v:V):∀fs:List (Str×V),(aH f v fs).length<=fs.length+1
 |[]=>aa0 _
 | (g,x)::r=>by
  unfold aH
  split
  ·exact acf _
  ·exact acp (cG f v r)
theorem XC(w:V)(q:Addr):(Bo w q).length<=2:=by
 have a1:=cG "parts" (V.ref q) (aH "word" w [])
 have a2:=cG "word" w []
 have a3:([]:List (Str×V)).length=0:=rfl
 show(aH "parts" (V.ref q) (aH "word" w [])).length<=2
 lia
structure gJ(K:Frag)(C:Addr):Prop where
 cl:Cls K C
 nW:bK K C "word"
 nP:bK K C "parts"
 n1:bK K C "part"
 nL:bK K C "left"
 nR:bK K C "right"
 nN:bK K C "name"
inductive Hd where
 |all
 |mark
 |one (i:Fin 7)
 |two (i:Fin 4)
def spS(K:Frag):Sp:=λc H Q _=>∃(p C b:Addr)(x y:V),c=[.ref p,x,y]/\H p=some (.ins C b [])/\gJ K C/\∀a:Hp,Kp p H a->a p=some (.ins C b (aH "parts" y (aH "word" x [])))->Q .non a
def tu(K:Frag):Sp:=λc H Q _=>∃(p C b:Addr)(x v:V),c=[.ref p,x,v]/\H p=some (.ins C b [])/\gJ K C/\∀(q:Addr)(a:Hp),Kp p H a->H q=none->a q=some (.tup [v])->a p=some (.ins C b (Aa x v q))->Q .non a
def Cw(K:Frag):Sp:=λc H Q _=>∃(p C b:Addr)(x v u:V),c=[.ref p,x,v,u]/\H p=some (.ins C b [])/\gJ K C/\∀(q:Addr)(a:Hp),Kp p H a->H q=none->a q=some (.tup [v,u])->a p=some (.ins C b (Ab x v u q))->Q .non a
def U3(C:Addr):Sp:=λc H Q _=>∃(p b:Addr),c=[.ref p]/\H p=some (.ins C b [])/\∀(q:Addr)(a:Hp),Kp p H a->H q=none->a q=some (.tup [])->a p=some (.ins C b (Bo (.str "all") q))->Q .non a
def U4(C:Addr):Sp:=λc H Q _=>∃(p b:Addr)(x:V),c=[.ref p,x]/\H p=some (.ins C b [])/\∀(q:Addr)(a:Hp),Kp p H a->H q=none->a q=some (.tup [])->a p=some (.ins C b (Ry x q))->Q .non a
def q_(C:Addr)(w:Str):Sp:=λc H Q _=>∃(p b:Addr)(v:V),c=[.ref p,v]/\H p=some (.ins C b [])/\∀(q:Addr)(a:Hp),Kp p H a->H q=none->a q=some (.tup [v])->a p=some (.ins C b (Aa (.str w) v q))->Q .non a
def Ac(C:Addr)(w:Str):Sp:=λc H Q _=>∃(p b:Addr)(v u:V),c=[.ref p,v,u]/\H p=some (.ins C b [])/\∀(q:Addr)(a:Hp),Kp p H a->H q=none->a q=some (.tup [v,u])->a p=some (.ins C b (Ab (.str w) v u q))->Q .non a
inductive bx(cl:Hd->Addr)(H:Hp):Addr->Tr->Prop where
 |all {p q dx:Addr}:H p=some (.ins (cl .all) dx (Bo (.str "all") q))->H q=some (.tup [])->bx cl H p .all
 |mark {p q dx:Addr} {x:Str}:H p=some (.ins (cl .mark) dx (Ry (.str x) q))->H q=some (.tup [])->bx cl H p (.mark x)
 |one {p q dx c:Addr} {i:Fin 7} {t:Tr}:H p=some (.ins (cl (.one i)) dx (Aa (.str (w1 i)) (.ref c) q))->H q=some (.tup [.ref c])->bx cl H c t->bx cl H p (.one i t)
 |two {p q dx c d:Addr} {i:Fin 4} {l r:Tr}:H p=some (.ins (cl (.two i)) dx (Ab (.str (w2 i)) (.ref c) (.ref d) q))->H q=some (.tup [.ref c,.ref d])->bx cl H c l->bx cl H d r->bx cl H p (.two i l r)
theorem bx.same(h:bx cl H p t)(s:Same H H'):bx cl H' p t:=by
 induction h with
 |all a b=>exact .all (s _ _ a) (s _ _ b)
 |mark a b=>exact .mark (s _ _ a) (s _ _ b)
 |one a b _ ih=>exact .one (s _ _ a) (s _ _ b) ih
 |two a b _ _ d c=>exact .two (s _ _ a) (s _ _ b) d c
def hd:Tr->Hd
 |.all=>.all
 |.mark _=>.mark
 |.one i _=>.one i
 |.two i _ _=>.two i
def hw:Tr->Str
 |.all=>"all"
 |.mark x=>x
 |.one i _=>w1 i
 |.two i _ _=>w2 i
def nq:Tr->List Tr
 |.all=>[]
 |.mark _=>[]
 |.one _ t=>[t]
 |.two _ l r=>[l,r]
theorem kw1:¬(("word":Str) = "parts"):=by decide +kernel
theorem kw2:¬(("word":Str) = "part"):=by decide +kernel
theorem kw3:¬(("word":Str) = "left"):=by decide +kernel
theorem kw4:¬(("word":Str) = "right"):=by decide +kernel
theorem kw5:¬(("word":Str) = "name"):=by decide +kernel
theorem kp2:¬(("parts":Str) = "part"):=by decide +kernel
theorem kp3:¬(("parts":Str) = "left"):=by decide +kernel
theorem kp4:¬(("parts":Str) = "right"):=by decide +kernel
theorem kp5:¬(("parts":Str) = "name"):=by decide +kernel
theorem XD(w:V)(q:Addr):(Bo w q).lookup ("word":Str)=some w:=by unfold Bo;rw[zO,if_neg kw1,zO,if_pos rfl]
theorem XF(w:V)(q:Addr):(Bo w q).lookup ("parts":Str)=some (.ref q):=by unfold Bo;rw[zO,if_pos rfl]
theorem XH(w:V)(q:Addr){m:Str}(a:¬m = "parts")(h2:¬m = "word"):(Bo w q).lookup m=none:=by
 unfold Bo
 rw[zO,if_neg a,zO,if_neg h2]
 rfl
theorem bx.look(h:bx cl H p t):∃(l q:Addr)(fs:List (Str×V))(j:List Addr),H p=some (.ins (cl (hd t)) l fs)/\fs.lookup ("word":Str)=some (.str (hw t))/\fs.lookup ("parts":Str)=some (.ref q) /\
  (∀m:Str,¬m = "word"->¬m = "parts"->¬m = "part"->¬m = "left"->¬m = "right"->¬m = "name"->fs.lookup m=none)/\H q=some (.tup (j.map V.ref))/\Paired (bx cl H) j (nq t):=by
 cases h with
 |all e g=>exact⟨_,_,_,[],e,XD _ _,XF _ _,λm a b _ _ _ _=>XH _ _ b a,g,.nil⟩
 |mark e g =>
  refine⟨_,_,_,[],e,?_,?_,λm a b _ _ _ f=>?_,g,.nil⟩
  ·unfold Ry;rw[zO,if_neg kw5];exact XD _ _
  ·unfold Ry;rw[zO,if_neg kp5];exact XF _ _
  ·unfold Ry;rw[zO,if_neg f];exact XH _ _ b a
 |one e g i =>
  refine⟨_,_,_,[_],e,?_,?_,λm a b c _ _ _=>?_,g,.cons i .nil⟩
  ·unfold Aa;rw[zO,if_neg kw2];exact XD _ _
  ·unfold Aa;rw[zO,if_neg kp2];exact XF _ _
  ·unfold Aa;rw[zO,if_neg c];exact XH _ _ b a
 |two e g i k =>
  refine⟨_,_,_,[_,_],e,?_,?_,λm a b _ c d _=>?_,g,.cons i (.cons k .nil)⟩
  ·unfold Ab;rw[zO,if_neg kw4,zO,if_neg kw3];exact XD _ _
  ·unfold Ab;rw[zO,if_neg kp4,zO,if_neg kp3];exact XF _ _
  ·unfold Ab;rw[zO,if_neg d,zO,if_neg c];exact XH _ _ b a
theorem zJ0(h:u∈nq t):u.depth<t.depth:=by
 cases t with
 |all=>cases h
 |mark x=>cases h
 |one i t=>simp[nq] at h;subst h;exact ab9 _
 |two i l r =>
  simp[nq] at h
  rcases h with rfl|rfl
  ·show _<max _ _+1;lia
  ·show _<max _ _+1;lia
def n1(i:Fin 7):Str:=(["Not","SomeNext","EachNext","SomeAlways","EachAlways","SomeEver","EachEver"]:List Str).getD i.val adw
def n2(i:Fin 4):Str:=(["Both","Either","SomeTill","EachTill"]:List Str).getD i.val adw
structure Ini(P:Program)(w:World)(K:Frag)(mg:Str->Option Value)(base:Heap)(k:Nat)(cl fi:Hd->Addr)(di:Hd->FuncData):Prop where
 made:∀h,Mk K (cl h) (fi h)
 iA:aq P w K mg base aN k (fi .all) (di .all) ["self"] (U3 (cl .all))
 bA:Binds K (di .all) ["self"] []
 iM:aq P w K mg base aN k (fi .mark) (di .mark) ["self","name"] (U4 (cl .mark))
 bM:Binds K (di .mark) ["self","name"] []
 i1:∀i,aq P w K mg base aN k (fi (.one i)) (di (.one i)) ["self","part"] (q_ (cl (.one i)) (w1 i))
 b1:∀i,Binds K (di (.one i)) ["self","part"] []
 i2:∀i,aq P w K mg base aN k (fi (.two i)) (di (.two i)) ["self","left","right"] (Ac (cl (.two i)) (w2 i))
 b2:∀i,Binds K (di (.two i)) ["self","left","right"] []
 mA:mg "All" = some (.ref (cl .all))
 mM:mg "Mark" = some (.ref (cl .mark))
 m1:∀i,mg (n1 i)=some (.ref (cl (.one i)))
 m2:∀i,mg (n2 i)=some (.ref (cl (.two i)))
theorem U5(d:H x=none)(c:H a=none):Same H (upd (upd H a (.own x)) x (.ins C a [])):=λb o e=>by
 rw[zT (zQ e d),zT (zQ e c)]
 exact e
theorem NT(a:H x=none)(d:H c=none)(k:Kp x (upd (upd H c (.own x)) x (.ins C c [])) H'):Same H H':=λb o e=>k b o (zQ e a) (U5 a d b o e)
end Sy
namespace Ts
open PySem L2 Sy
structure fH(cl:Hd->Addr) where
 t:Tr
def jY:Hd->Tr->Bool
 |.all,.all=>true
 |.mark,.mark _=>true
 |.one i,.one j _=>decide (j=i)
 |.two i,.two j _ _=>decide (j=i)
 |_,_=>false
def fH.parts(x:fH cl):List (fH cl):=(nq x.t).map fH.mk
noncomputable def fH.name(x:fH cl):Option Str:=match x.t with
 |.mark s=>some s
 |_=>none
structure oE(P:Program)(w:World)(K:Frag)(mg:Str->Option Value)(base:Heap)(k:Nat)(cl fi:Hd->Addr)(di:Hd->FuncData):Prop where
 ini:Ini P w K mg base k cl fi di
 kd:∀h,gJ K (cl h)
 qD:∀h h':Hd,∀t:Tr,hd t=h->kitOne K (.ref (cl h)) (.ref (cl h'))=some (jY h' t)
 c1:∀h,findIn K (.ref (cl h)) "__class__" = some (some (.builtin "object.__class__"))
 c2:specialIn K (.builtin "object.__class__") "__get__" = some (some (.builtin "getset_descriptor.__get__"))
 c3:takesIn K (.builtin "object.__class__")=some true
 c4:∀h,mroIn K (cl h) (.type "object")=some true
section
variable{K:Frag}{cl:Hd->Addr}
instance:Rp K (fH cl):=⟨λF v x=>∃p,v=.ref p/\bx cl F p x.t,λs ⟨p,h1,h2⟩=>⟨p,h1,h2.same s⟩⟩
end
section
variable{P:Program}{w:World}{K:Frag}{mg:Str->Option Value}{base:Heap}{B:Bs}{sl:SL K}{md:Md}{te t1 t2:TE}{cl fi:Hd->Addr}{di:Hd->FuncData}{k:Nat}
theorem vE(I:oE P w K mg base k cl fi di)(b:Hd){m:Option (fH cl)}(h:Ex B sl .hp te m):Ex B sl md (xu (Gg K (.ref (cl b))) (yW te (yW (tC (.ref (cl b))) bI))) (m.bind λa=>some (jY b a.t)):=λc d F O H σ Q s e=>by
 cases m with
 |none=>cases d
 |some a =>
  cases d
  refine h a rfl F O H σ _ s λv l f g j=>?_
  obtain⟨p,rfl,i⟩:=j
  obtain⟨dx,q,fs,cs,n,_⟩:=i.look
  exact⟨.ref p,.ref (cl b),_,_,rfl,rfl,.ins n (I.kd (hd a.t)).cl (I.c1 _) I.c2 I.c3 (I.c4 _),I.qD (hd a.t) b a.t rfl,e _ l f g rfl⟩
theorem zPu(I:oE P w K mg base k cl fi di){m:Option (fH cl)}(h:Ex B sl .hp te m):Ex B sl md (qY K te "name") (m.bind λa=>a.name):=λc b F O H σ Q s d=>by
 cases m with
 |none=>cases b
 |some a =>
  obtain⟨t⟩:=a
  cases t with
  |mark x =>
   cases b
   refine h _ rfl F O H σ _ s λv i l g f=>?_
   obtain⟨p,rfl,e⟩:=f
   cases e with
   |mark j e2=>exact⟨p,_,_,_,_,rfl,j,(I.kd .mark).cl,(I.kd .mark).nN,by unfold Ry;rw[zO,if_pos rfl],d _ i l g rfl⟩
  |_=>cases b
theorem JZ:∀{a:List Addr}{ts:List Tr},Paired (bx cl F) a ts->A2 (rp K F) (a.map V.ref) (ts.map (fH.mk (cl:=cl)))
 |_,_,.nil=>trivial
 |_,_,.cons h r=>⟨⟨_,rfl,h⟩,JZ r⟩
theorem zV9{n:Bool}(I:oE P w K mg base k cl fi di){mi:Option (fH cl)}(h:Ex B sl (fu n) te mi):Ei B sl n (Fo K (qY K te "parts")) (mi.bind λa=>some a.parts):=λxs b F O H σ R a t=>by
 cases mi with
 |none=>cases b
 |some y =>
  cases b
  refine h y rfl F O H σ _ a λv l j c r=>?_
  obtain⟨p,rfl,A⟩:=r
  obtain⟨L,q,N,o,S,l2,E,l4,f,D⟩:=A.look
  have s:A2 (rp K (reg B l j (fu n))) (o.map V.ref) y.parts:=JZ D
  have u:=Eb c.ok n p _ S
  refine⟨p,_,L,N,.ref q,rfl,u,(I.kd _).cl,(I.kd _).nP,E,q,rfl,⟨_,cF.of (Eb c.ok n q _ f)⟩,t _ l j c λi Q O2 M m g=>?_⟩
  have d:cF K M q (o.map V.ref):=cF.of (g.fh _ _ (m _ _ (by cases n with|true=>exact aV _ _ f|false=>exact f)))
  refine⟨λG=>⟨_,d,by rw[s.len];exact G⟩,λx b=>?_⟩
  obtain⟨w,hw,C⟩:=s.at2 b
  refine⟨⟨_,w,d,hw⟩,λv H3 z=>?_⟩
  obtain⟨e,J⟩:=z
  subst e
  have:=(hw.symm.trans (J _ d))
  cases this
  exact⟨Q,.refl g,Rp.mono (xF n m) C⟩
end
theorem zXm(K:Frag)(b:PE X l a)(h:X.K=K:=by rfl):PI X tg l (Fo K a):=by subst h;exact YD b
section
variable{K:Frag}{B:Bs}{sl:SL K}{md:Md}{te:TE}{α:Type}[Rp K α]
noncomputable def Cy{α:Type}(xs ys:List α):Option (List α):=if xs.length+ys.length<cap then some (xs++ys) else none
theorem zOu{n:Bool}{xs:List α}{m:Option (List α)}(i:Nat)(t:sl[i]?=some (.ow n xs))(w:sl.all (λs=>!dj s)=true)(h:Ex B sl (fu n) te m) :
  Sn B sl (QG (QX K "list" Zd (cP i) (yW te bI))) (λys=>sl.set i (.ow n ys)) (m.bind λa=>Cy xs a):=λys u G D σ H s k=>by
 cases m with
 |none=>cases u
 |some a =>
  have b:Cy xs a=some ys:=u
  unfold Cy at b
  split at b
  case isFalse=>cases b
  rename_i E
  cases b
  obtain⟨F,O,g,z⟩:=s
  obtain⟨p,vs,x,L,h3,_⟩:=z.chg t w
  refine⟨_,x,.inl ⟨rfl,_,aZ.of L⟩,?_⟩
  refine h a rfl F O H σ _ z λv M H' l r=>?_
  obtain⟨p',j,o,d,c,f⟩:=(z.grow l).chg t w
  have e:=x.symm.trans o
  cases e
  obtain⟨q,A,rfl,I,y⟩:=r
  obtain⟨C,J⟩:=f (j++A) (xs++a) (c.app y)
  exact⟨p,q,_,_,rfl,rfl,d,Eb l.ok n q _ I,by rw[c.len,y.len];exact acv (Cg E),k _ _ ⟨M,C,g.trans l.ff,J⟩⟩
end
section
variable{K:Frag}
end
open PySem L2
section
variable{K:Frag}{B:Bs}{sl:SL K}{F H H' L L':Hp}{O:Own}{σ:St}{α:Type}[Rp K α]
abbrev kZ:Slot K->Bool
 |@Slot.nu _ _ _ _=>true
 |_=>false
theorem ak.U6(h:ak B F L H sl σ O)(a:sl.all (λs=>!dj s&&!kZ s)=true):ak B F L' H' sl σ O:=by
 induction h with
 |nil=>exact .nil
 |un _ ih=>exact .un (ih (by grind))
 |fz r _ ih=>exact .fz (Rp.mono (xF _ (.refl _)) r) (ih (by grind))
 |hs r _ ih=>grind
 |nu r _ ih=>grind
 |ow r _ ih=>exact .ow (r.imp λ_ _=>Rp.mono (xF _ (.refl _))) (ih (by grind))
 |od r _ ih=>exact .od r (ih (by rw[all_cons,abn] at a;exact a.2))
 |ob r _ ih=>exact .ob (Ob.mono (xF _ (.refl _)) r) (ih (by rw[all_cons,abn] at a;exact a.2))
end
theorem NZ{β:Type}[Rp K β]{m:Option β}(sl2:SL K)(h:SB B sl2 t al m)(e:a=sl2:=by rfl):SB B a t al m:=e▸h
def del(H:Hp)(p:Addr):Hp:=λb=>if b=p then none else H b
def N5(K:Frag){A β:Type}[Rp K β](as:A->SL K)(f:LI->A->Option (β×LI)):Sp:=λi H Q _ =>
 ∃(p:Addr)(g:LI)(h:List V)(a:A)(b:β)(c:LI)(e:Hp),i=.ref p::h/\H p=some (.lst (g.map V.int))/\e p=none/\Same e H/\f g a=some (b,c)/\Ar e (as a) h /\
  ∀v d,Same (del H p) d->d p=some (.lst (c.map V.int))->rp K (dif d H) v b->Q v d
section
variable{K:Frag}{B:Bs}{sl:SL K}{md:Md}{β:Type}[Rp K β]
noncomputable def Ey(B:Bs)(sl:SL K)(md:Md)(t:TE){α S:Type}[Rp K α](L:S->SL K)(m:Option (α×S)):Prop :=
 ∀a s,m=some (a,s)->∀(F:Hp)(O:Own)(H:Hp)(σ:St)(Q:VK),At B sl F O H σ->(∀(v:V)(c:Hp)(d:Own)(b:Hp),Same F c->At B (L s) c d b σ->rp K (reg B c b md) v a->Q v b)->t σ H Q
theorem zV1{A:Type}{as:A->SL K}{f:LI->A->Option (β×LI)}{I:Option A}(i:Nat)(D:sl[i]?=some (.ow n ws))(U:sl.all (λs=>!dj s)=true)(h:Ea B sl .fz Z as I) :
  Ey B sl md (Bh (N5 K as f) [] E0 (yW (cP i) Z)) (λg=>sl.set i (.ow n g)) (I.bind λa=>f ws a):=λb g u F O H σ Q z k=>by
 cases I with
 |none=>cases u
 |some a =>
  have u:f ws a=some (b,g):=u
  obtain⟨p,vs,N,h2,h3,_⟩:=z.chg D U
  refine⟨_,N,?_⟩
  refine h a rfl F O H σ _ z λS t l L r=>?_
  have E:=z.grow L
  obtain⟨p',J,x,j,M,y⟩:=E.chg D U
  cases N.symm.trans x
  obtain⟨O1,O2,p2,vs2,eO,m,_⟩:=E.2.qC D
  cases N.symm.trans m
  have fp:t p=none:=by
   have X:=E.1
   rw[eO] at X
   exact X.one.1
  have ev:J=ws.map V.int:=A2.n6 M
  show N5 K as f ((.ref p::S)++[]) l Q E0
  rw[append_nil]
  refine⟨p,ws,S,a,b,g,t,rfl,by rw[j,ev],fp,L.ok.fh,u,r,λv w s2 e2 r2=>?_⟩
  obtain⟨Y,P⟩:=y (g.map V.int) g (A2.of_map (R:=rp K (reg B t l (fu n))) (f:=V.int) (λ_=>rfl) g)
  have T:Same (upd l p (.lst (g.map V.int))) w:=λc o e=>by
   by_cases q:c=p
   ·subst q
    rw[zM] at e
    rw[e2]
    exact e
   ·rw[zT q] at e
    refine s2 c o ?_
    unfold del
    grind
  have G:=P.1.called T
  refine k v _ Y w (L.ff.trans G.ff) (P.grow G) ?_
  have d:Same (dif w l) (dif w (upd l p (.lst (g.map V.int)))):=λc o e=>by
   unfold dif at e ⊢
   by_cases q:c=p
   ·subst q
    rw[j] at e
    cases e
   ·rw[zT q]
    exact e
  have C:=Rp.mono (Jy (F:=t) P.1.h0 T) (Rp.mono d r2)
  exact match md with
  |.nw=>C
  |.fz=>Rp.mono aV C
  |.hp=>Rp.mono (aV.trans G.ok.fh) C
end
structure RL(p:Addr) where
 ws:LI
section
variable{K:Frag}{B:Bs}{sl:SL K}{F H:Hp}{O:Own}{σ:St}{md:Md}{β:Type}[Rp K β]{p:Addr}{ws:LI}
instance:Rp K (RL p):=⟨λF v x=>v=.ref p/\F p=some (.lst (x.ws.map V.int)),λs ⟨h1,h2⟩=>⟨h1,s _ _ h2⟩⟩
theorem At.jH(z:At B sl F O H σ)(k:sl[i]?=some (.nu (RL.mk (p:=p) ws)))(E:(sl.set i .un).all (λs=>!dj s&&!kZ s)=true) :
  σ[i]?=some (some (.ref p))/\H p=some (.lst (ws.map V.int))/\B.H0 p=none/\F p=none/\(∀x∈O,x.1≠p)/\∀a:LI,At B (sl.set i (.nu (RL.mk (p:=p) a))) F O (upd H p (.lst (a.map V.int))) σ:=by
 obtain⟨v,m,rfl,d⟩:=z.2.Cd k
 have n:B.H0 p=none:=by
  cases q:B.H0 p with
  |none=>rfl
  |some u=>unfold dif at d;rw[q] at d;cases d
 rw[xX n] at d
 have h2':=d
 unfold lo at d
 split at d
 case isTrue=>cases d
 rename_i b
 have f:=b
 rw[ac6,not_or] at b
 have w:F p=none:=by
  cases q:F p with
  |none=>rfl
  |some u=>exact absurd (by rw[q];rfl) b.1
 have t:∀x∈O,x.1≠p:=λx l e=>b.2 (any_eq_true.mpr ⟨x,l,by simpa using e⟩)
 refine⟨m,d,n,w,t,λa=>⟨⟨z.1.fh.put w _,z.1.h0.put n _,z.1.fa,λx l=>?_,z.1.nd⟩,?_⟩⟩
 ·obtain⟨y,D,C⟩:=z.1.fo x l
  exact⟨y,D,by rw[zT (t x l)];exact C⟩
 ·have e:σ.set i (some (.ref p))=σ:=by
   apply ext_getElem?
   intro j
   rw[aen]
   split
   ·rename_i o
    subst o
    split
    ·exact m.symm
    ·rename_i g
     rw[abw (by omega)] at m
     cases m
   ·rfl
  have q:=z.2.put (s':=.un) (x:=some (.ref p)) (λsl σ O h=>.un h) k rfl
  rw[e] at q
  have A:=q.U6 (L':=lo F O (upd H p (.lst (a.map V.int)))) (H':=upd H p (.lst (a.map V.int))) E
  have g:i<sl.length:=by
   cases c:decide (i<sl.length) with
   |true=>exact of_decide_eq_true c
   |false=>rw[abw (by have:=of_decide_eq_false c;omega)] at k;cases k
  have r:=A.put (s:=.un) (s':=.nu (RL.mk (p:=p) a)) (x:=some (.ref p)) (i:=i) (λsl σ O h=>.nu (by
   refine⟨rfl,?_⟩
   rw[xX n]
   unfold lo
   rw[if_neg f,zM]) h) (by rw[aen,if_pos rfl,if_pos g]) rfl
  rw[e,set_set] at r
  exact r
end
section
variable{K:Frag}{B:Bs}{sl:SL K}{F H:Hp}{O:Own}{σ:St}{md:Md}{α β S:Type}[Rp K α][Rp K β]{p:Addr}{ws:LI}{te:TE}{t u:TS}
noncomputable def tD(B:Bs)(p:Addr)(sl:SL K)(t:TS){β:Type}[Rp K β](m:Option (β×LI)):Prop :=
 ∀b ws,m=some (b,ws)->∀(G:Hp)(D:Ends)(σ:St)(H:Hp),Sg B G sl σ H->(∀v a,Same B.H0 a->a p=some (.lst (ws.map V.int))->(∃F:Hp,F p=none/\Same F a/\rp K (dif F B.H0) v b)->D.rt v a)->t D σ H
theorem tD.of{m m':Option (β×LI)}(h:tD B p sl t m)(e:m=m'):tD B p sl t m':=e▸h
theorem zQ9{m:Option β}(i:Nat)(l:sl[i]?=some (.nu (RL.mk (p:=p) ws)))(f:(sl.set i .un).all (λs=>!dj s&&!kZ s)=true)(h:Ex B sl .nw te m):tD B p sl (jF (uh te) u) (m.bind λb=>some (b,ws)):=λb ws' e G D σ H s k=>by
 cases m with
 |none=>cases e
 |some c =>
  obtain⟨rfl,rfl⟩:=aer (aa5 (e))
  obtain⟨F,O,g,a⟩:=s
  refine h c rfl F O H σ _ a λv j q d r=>?_
  obtain⟨_,o,_,n,_⟩:=(a.grow d).jH l f
  exact k v q d.ok.h0 o ⟨j,n,d.ok.fh,r⟩
theorem RB(hs:sl[i]?=some s):(sl.set i s')[i]?=some s':=by
 grind
theorem zUp{s:Slot K}{m:Option (β×LI)}(i:Nat)(hs:sl[i]?=some s)(hh:(sl.set i .un).all (λs=>!dj s&&!kZ s)=true)(h:Ey B sl .nw te (λws'=>sl.set i (.nu (RL.mk (p:=p) ws'))) m):tD B p sl (jF (uh te) u) m:=λb ws' hb G D σ H s k=>by
 obtain⟨F,O,g,a⟩:=s
 refine h b ws' hb F O H σ _ a λv F' O' H' sf a' r=>?_
 obtain⟨_,h2,_,f0,_⟩:=a'.jH (RB hs) (by rw[set_set];exact hh)
 exact k v H' a'.1.h0 h2 ⟨F',f0,a'.1.fh,r⟩
theorem N6{f:S->Option (β×LI)}(g:Sn B sl t L c)(h2:∀s,tD B p (L s) u (f s)):tD B p sl (jF t u) (c.bind f):=λa w b G D σ H q k=>by
 cases c with
 |none=>cases b
 |some s=>exact g s rfl G _ σ H q λe d h=>h2 s a w b G D e d h k
theorem Hs{c:TT}{n:Option Bool}{m1 m2:Option (β×LI)}(hc:Et B sl c n)(h1:tD B p sl t m1)(h2:tD B p sl u m2):tD B p sl (jF (zj c t K1) u) (n.bind λb=>if b=true then m1 else m2):=λa w ha G D σ H s k=>by
 cases n with
 |none=>cases ha
 |some b =>
  obtain⟨F,O,g,z⟩:=s
  refine hc b rfl F O H σ _ z λF' H' gr=>?_
  cases b with
  |true=>exact jW (h1 a w (by simpa using ha) G _ σ H' (Sg.grow g z gr) k)
  |false=>exact m_ (h2 a w (by simpa using ha) G D σ H' (Sg.grow g z gr) k)
theorem Ht(i:Nat)(hs:sl[i]?=some (.nu (RL.mk (p:=p) ws)))(hh:(sl.set i .un).all (λs=>!dj s&&!kZ s)=true):Ey B sl md (L_ K "list" Tz (cP i)) (λws'=>sl.set i (.nu (RL.mk (p:=p) ws'))) (ws.getLast?.bind λy=>some (y,ws.dropLast)):=λb ws' hb F O H σ Q z k=>by
 cases e2:ws.getLast? with
 |none=>rw[e2] at hb;cases hb
 |some y =>
  rw[e2] at hb
  obtain⟨rfl,rfl⟩:=aer (aa5 (show some (y,ws.dropLast)=some (b,ws') from hb))
  obtain⟨h1,h2,b0,f0,o0,ch⟩:=z.jH hs hh
  refine⟨_,h1,.inl ⟨rfl,_,aZ.of h2⟩,p,ws.map V.int,V.int y,rfl,rfl,h2,?_,?_⟩
  ·rw[length_map,getElem?_map,<-List.getLast?_eq_getElem?,e2];rfl
  rw[<-List.map_dropLast]
  exact k _ F O _ (.refl _) (ch ws.dropLast) rfl
theorem Hu(i:Nat)(e:sl[i]?=some (.nu (RL.mk (p:=p) ws)))(b:(sl.set i .un).all (λs=>!dj s&&!kZ s)=true):Ex B sl md (xu (MF K) (yW (cP i) bI)) (some (ws.length:Int)):=λd f F O H σ Q z k=>by
 cases f
 obtain⟨c,a,_⟩:=z.jH e b
 refine⟨_,c,p,_,rfl,.inl (aZ.of a),k _ F H (.refl z.1) ?_⟩
 rw[length_map]
 rfl
theorem zJn{as:SL K}(k:Nat)(a:as.all isF=true)(r:Ar F as vs):ak B F L' H (as++replicate k .un) (vs.map some++replicate k none) []:=by
 induction r with
 |nil =>
  show ak _ _ _ _ ([]++_) ([]++_) []
  induction k with
  |zero=>exact .nil
  |succ k ih=>exact .un ih
 |@cons n _ _ _ _ _ _ r _ ih =>
  rw[all_cons,abn] at a
  cases n with
  |false=>exact .fz r (ih a.2)
  |true=>grind
end
section
variable{P:Program}{w:World}{K:Frag}{mg:Str->Option Value}{base:Heap}
theorem zTa{A β:Type}[Rp K β]{as:A->SL K}{C:LI->A->Option (β×LI)}(F:aW K x i st f fd)(S:ao N ps (zI st))(hf:∀a,(as a).all isF=true)(G:∀a,(as a).length+1=ps.length)(hb:∀(g:Value) (A:Around) (d:List Env) (s:Shared) (H:Hp) (E:XK),bR k (A.deeper (adi i (zI st) s.heap.objs.size f g)) ->
   ∃t,nU (qj aN P w K mg base N i (zI st) f g A d s H E).Fd (wV st) t/\∀j p ws a,tD ⟨j,del H p⟩ p (.nu (RL.mk (p:=p) ws)::(as a++replicate (N.length-ps.length) .un)) t (C ws a)) :
  aq P w K mg base aN (k+1) f fd ps (N5 K as C) :=
 F.ok S (λvs H Q E h=>by
  obtain⟨p,ws,m,a,b,l,j,rfl,_,_,_,_,r,_⟩:=h
  rw[length_cons,r.len,G]) λg A d s H vs Q E hr h=>by
  obtain⟨t,pt,q⟩:=hb g A d s H E hr
  refine⟨t,pt,?_⟩
  obtain⟨p,ws,m,a,b,l,j,rfl,hp,fp,sf,n,r,kk⟩:=h
  have e:L2.start N (.ref p::m)=some (.ref p)::(m.map some++replicate (N.length-ps.length) none):=by
   unfold L2.start
   rw[length_cons,r.len,G]
   rfl
  have d0:Same (del H p) H:=λc o e=>by
   unfold del at e
   split at e
   ·cases e
   ·exact e
  have B:del H p p=none:=by
   unfold del
   rw[if_pos rfl]
  rw[e]
  refine q j p ws a b l n j _ _ H ⟨j,[],.refl _,⟨sf,d0,λb o h=>.inl h,λx hx=>(by cases hx),(by simp)⟩,.nu ⟨rfl,?_⟩ (zJn _ (hf a) r)⟩ (λv D s1 e1 z=>?_)
  ·rw[xX B]
   unfold lo
   rw[fp]
   exact hp
  ·obtain⟨J,f2,s2,r2⟩:=z
   refine kk v D s1 e1 (Rp.mono (λc o e=>?_) r2)
   unfold dif at e ⊢
   by_cases I:c=p
   ·subst I
    have e:(match del H c c with|none=>J c|some _=>none)=some o:=e
    rw[B,f2] at e
    cases e
   ·have ed:del H p c=H c:=by
     unfold del
     rw[if_neg I]
    have e:(match del H p c with|none=>J c|some _=>none)=some o:=e
    rw[ed] at e
    show(match H c with|none=>D c|some _=>none)=some o
    cases y:H c with
    |none=>rw[y] at e;exact s2 _ _ e
    |some u=>rw[y] at e;cases e
end
section
variable{K:Frag}{B:Bs}{sl:SL K}{md:Md}{α β S:Type}[Rp K α][Rp K β]{te:TE}
theorem zLg{L:S->SL K}(n:Bool)(j:Nat)(f:∀s,∃x,(L s)[j]?=some x/\iR x=false)(h:Ey B sl (fu n) te L m):Sn B sl (lU te (qd j)) (λr:α×S=>(L r.2).set j (.fz n r.1)) m:=λa i G D σ H s k=>by
 obtain⟨F,O,g,z⟩:=s
 obtain⟨x,d,b⟩:=f a.2
 exact h a.1 a.2 i F O H σ _ z λv F' O' H' c l r=>k _ _ (Sg.set (g.trans c) l d b r)
end
section
variable{K:Frag}{B:Bs}{sl:SL K}{md:Md}{α β S:Type}[Rp K α][Rp K β]{te:TE}{p:Addr}{ws:LI}
structure Fr(p:Addr)(F H F' H':Hp):Prop where
 ff:Same F F'
 hh:∀b o,b≠p->H b=some o->H' b=some o
 nw:∀b,F b=none->H b≠none->F' b=none
theorem Fr.of(g:bJ B F H O a H'):Fr p F H a H':=⟨g.ff,λb o _ e=>g.hh b o e,g.nw⟩
theorem Fr.refl(F H:Hp):Fr p F H F H:=⟨.refl _,λ_ _ _ e=>e,λ_ h _=>h⟩
theorem Fr.trans(a:Fr p F H g d)(b:Fr p g d j h)(hp:d p≠none):Fr p F H j h :=
 ⟨a.ff.trans b.ff,λc o n e=>b.hh c o n (a.hh c o n e),λc f i=>b.nw c (a.nw c f i) (by
  by_cases n:c=p
  ·grind
  ·cases q:H c with
   |none=>grind
   |some o=>rw[a.hh c o n q];grind)⟩
noncomputable def Ad(B:Bs)(p:Addr)(sl:SL K)(md:Md)(t:TE){α S:Type}[Rp K α](L:S->SL K)(m:Option (α×S)):Prop :=
 ∀a s,m=some (a,s)->∀(F:Hp)(O:Own)(H:Hp)(σ:St)(Q:VK),At B sl F O H σ->(∀(v:V)(c b:Hp),Fr p F H c b->At B (L s) c O b σ->rp K (reg B c b md) v a->Q v b)->t σ H Q
theorem Ad.ey{L:S->SL K}{m:Option (α×S)}(h:Ad B p sl md te L m):Ey B sl md te L m:=λa s e F O H σ Q z k=>h a s e F O H σ Q z λv c b f d r=>k v c O b f.ff d r
theorem XJ{A:Type}{as:A->SL K}{f:LI->A->Option (β×LI)}{D:Option A}(i:Nat)(E:sl[i]?=some (.nu (RL.mk (p:=p) ws)))(I:(sl.set i .un).all (λs=>!dj s&&!kZ s)=true)(h:Ea B sl .fz T as D) :
  Ad B p sl md (Bh (N5 K as f) [] E0 (yW (cP i) T)) (λg=>sl.set i (.nu (RL.mk (p:=p) g))) (D.bind λa=>f ws a):=λb g t F O H σ Q z k=>by
 cases D with
 |none=>cases t
 |some a =>
  have t:f ws a=some (b,g):=t
  obtain⟨U,_⟩:=z.jH E I
  refine⟨_,U,?_⟩
  refine h a rfl F O H σ _ z λG l j C r=>?_
  obtain⟨_,L,b0,R,o0,P⟩:=(z.grow C).jH E I
  show N5 K as f ((.ref p::G)++[]) j Q E0
  rw[append_nil]
  refine⟨p,ws,G,a,b,g,l,rfl,L,R,C.ok.fh,t,r,λv m N Y M=>?_⟩
  have w:=P g
  have J:Same (upd j p (.lst (g.map V.int))) m:=λc o e=>by
   by_cases q:c=p
   ·subst q
    rw[zM] at e
    rw[Y]
    exact e
   ·rw[zT q] at e
    refine N c o ?_
    unfold del
    rw[if_neg q]
    exact e
  have x:=w.1.called J
  have u:Fr p l j l (upd j p (.lst (g.map V.int))):=⟨.refl _,λc o n e=>by rw[zT n];exact e,λ_ h _=>h⟩
  have X:upd j p (.lst (g.map V.int)) p≠none:=by rw[zM];intro q;cases q
  refine k v _ m ((Fr.of C).trans (u.trans (.of x) X) (by rw[L];intro q;cases q)) (w.grow x) ?_
  have d:Same (dif m j) (dif m (upd j p (.lst (g.map V.int)))):=λc o e=>by
   unfold dif at e ⊢
   by_cases q:c=p
   ·grind
   ·rw[zT q]
    exact e
  have y:=Rp.mono (Jy (F:=l) w.1.h0 J) (Rp.mono d M)
  exact match md with
  |.nw=>y
  |.fz=>Rp.mono aV y
  |.hp=>Rp.mono (aV.trans x.ok.fh) y
theorem zGe{A:Type}{as:A->SL K}{f:α×A->Option β}{l:S->Option A}(h0:Ad B p sl .hp te L m)(E:∀s,∃(i:Nat) (ws:LI),(L s)[i]?=some (.nu (RL.mk (p:=p) ws))/\((L s).set i .un).all (λs=>!dj s&&!kZ s)=true)(h:∀s,Ea B (L s) .hp U as (l s)) :
  Ad B p sl md (Bh (bY K false (λx:α×A=>.fz false x.1::as x.2) f) [] E0 (yW te U)) L (m.bind λr=>(l r.2).bind λa=>(f (r.1,a)).bind λb=>some (b,r.2)):=λc s g F O H σ Q z k=>by
 cases m with
 |none=>cases g
 |some r =>
  obtain⟨a,d⟩:=r
  have g:((l d).bind λx=>(f (a,x)).bind λb=>some (b,d))=some (c,s):=g
  cases y:l d with
  |none=>grind
  |some x =>
   rw[y] at g
   have g:((f (a,x)).bind λb=>some (b,d))=some (c,s):=g
   cases u:f (a,x) with
   |none=>grind
   |some b =>
    rw[u] at g
    obtain⟨rfl,rfl⟩:=aer (aa5 (show some (b,d)=some (c,s) from g))
    refine h0 a d rfl F O H σ _ z λv I G P n J=>?_
    obtain⟨i,w1,N,X⟩:=E d
    obtain⟨_,hp1,_⟩:=n.jH N X
    refine h d x y I O G σ _ n λR Y w j M=>?_
    show bY K false (λx:α×A=>.fz false x.1::as x.2) f ((v::R)++[]) w Q E0
    rw[append_nil]
    refine⟨(a,x),b,w,.refl _,u,.cons (Rp.mono j.hh J) M,λD T t C=>?_⟩
    have o:=j.ok.called t
    refine k D _ T (P.trans (.of (j.trans o)) (by grind)) (n.grow (j.trans o)) ?_
    have q:=Rp.mono (Jy (F:=Y) j.ok.h0 t) C
    exact match md with
    |.nw=>q
    |.fz=>Rp.mono aV q
    |.hp=>Rp.mono (aV.trans o.ok.fh) q
end
def nA{α β:Type}(f:LI->α->Option (β×LI)):LI->List α->Option (List β×LI)
 |a,[]=>some ([],a)
 |a,x::b=>(f a x).bind λr=>(nA f r.2 b).bind λq=>some (r.1::q.1,q.2)
noncomputable def oF{α β:Type}(f:LI->α->Option (β×LI))(ws:LI)(xs:List α):Option (List β×LI):=if xs.length<cap then nA f ws xs else none
section
variable{K:Frag}{B:Bs}{sl:SL K}{md:Md}{α β S:Type}[Rp K α][Rp K β]{te:TE}{p:Addr}{ws:LI}{n n':Bool}
noncomputable def U7(B:Bs)(p:Addr)(sl:SL K)(md:Md)(t:TE){α S:Type}[Rp K α](L:S->SL K)(m:Option (List α×S)):Prop :=
 ∀a s,m=some (a,s)->∀(F:Hp)(O:Own)(H:Hp)(σ:St)(Q:VK),At B sl F O H σ->(∀(q:Addr)(d:List V)(c b:Hp),Fr p F H c b->At B (L s) c O b σ->b q=none->A2 (rp K (reg B c b md)) d a->Q (.ref q) (upd b q (.lst d)))->t σ H Q
theorem At.U8{f:LI}(z:At B sl F O H σ)(d:sl[i]?=some (.nu (RL.mk (p:=p) ws)))(l:(sl.set i .un).all (λs=>!dj s&&!kZ s)=true)(c:Fr p F H b a)(k2:Ok B b [] a)(hp:a p=some (.lst (f.map V.int)))(fp:b p=none):At B (sl.set i (.nu (RL.mk (p:=p) f))) b O a σ:=by
 obtain⟨h1,h2,o,f0,m,_⟩:=z.jH d l
 refine⟨⟨k2.fh,k2.h0,k2.fa,λx g=>?_,z.1.nd⟩,?_⟩
 ·obtain⟨u,t,k⟩:=z.1.fo x g
  exact⟨c.nw _ u (by rw[k];intro q;cases q),t,c.hh _ _ (m x g) k⟩
 ·have e:σ.set i (some (.ref p))=σ:=by
   apply ext_getElem?
   grind
  have q:=z.2.put (s':=.un) (x:=some (.ref p)) (λsl σ O h=>.un h) d rfl
  rw[e] at q
  have r:=(q.U6 (L':=lo b O a) (H':=a) l).mono c.ff (.refl _) (.refl _)
  have j:=r.put (s:=.un) (s':=.nu (RL.mk (p:=p) f)) (x:=some (.ref p)) (i:=i) (λsl σ O h=>.nu (by
   refine⟨rfl,?_⟩
   rw[xX o]
   unfold lo
   grind) h) (RB d) rfl
  rw[e,set_set] at j
  exact j
theorem zNw{fG:LI->SL K}{R:LI->α->SL K}{f:LI->α->Option (β×LI)}(j:Nat)(I:sl[j]?=some (.nu (RL.mk (p:=p) ws)))(hh:(sl.set j .un).all (λs=>!dj s&&!kZ s)=true)(h0:∀(F:Hp) (O:Own) (H:Hp) (σ:St),At B sl F O H σ->ak B F (lo F [] H) H (fG ws) (jG σ no ix) [])(hi:Ei B sl n l mi)(hg:∀ws,Tg B (fG ws) n g (R ws))(hc:∀ws x,Et B (R ws x) tc (some true))(he:∀ws x,Ad B p (R ws x) (fu n') te (λP=>R P x) (f ws x))(hle:∀ws x,sJ (R ws x) (fG ws))(hI:∀ws x,∃jI,(R ws x)[jI]?=some (.nu (RL.mk (p:=p) ws))/\((R ws x).set jI .un).all (λs=>!dj s&&!kZ s)=true) :
  U7 B p sl (fu n') (Q_ no ix l g tc te) (λP=>sl.set j (.nu (RL.mk (p:=p) P))) (mi.bind λxs=>oF f ws xs):=λd c E F O H σ Q a k=>by
 cases mi with
 |none=>cases E
 |some xs =>
  have E:oF f ws xs=some (d,c):=E
  unfold oF at E
  split at E
  case isFalse=>cases E
  rename_i hcap
  have hcl:=Cg hcap
  refine hi xs rfl F O H σ _ a λJ F' H' gr yl=>?_
  have a':=a.grow gr
  have zl:d.length=xs.length:=by
   have key:∀(xs:List α)(ws:LI)(d:List β)(c:LI),nA f ws xs=some (d,c)->d.length=xs.length:=by
    intro xs
    induction xs with
    |nil=>intro ws d c h;cases h;rfl
    |cons x xs ih =>
     intro ws d c h
     unfold nA at h
     cases X:f ws x with
     |none=>rw[X] at h;cases h
     |some r =>
      rw[X] at h
      have h:((nA f r.2 xs).bind λq=>some (r.1::q.1,q.2))=some (d,c):=h
      cases M:nA f r.2 xs with
      |none=>rw[M] at h;cases h
      |some q =>
       rw[M] at h
       cases(show some (r.1::q.1,q.2)=some (d,c) from h)
       rw[length_cons,length_cons,ih r.2 q.1 q.2 M]
   exact key xs ws d c E
  refine⟨λi m ys σ2 C=>m=xs.length-i/\i<=xs.length/\∃(D:Hp)(l:LI)(Z Y:List β),nA f l (xs.drop i)=some (Y,c)/\Z++Y=d/\Z.length=i/\Fr p F' H' D C/\At B (sl.set j (.nu (RL.mk (p:=p) l))) D O C σ/\ak B D (lo D [] C) C (fG l) σ2 []/\A2 (rp K (reg B D C (fu n'))) ys Z,
   ⟨xs.length,rfl,abg _,F',ws,[],d,E,rfl,rfl,.refl _ _,?_,h0 F' O H' σ a',trivial⟩,?_⟩
  ·have e:sl.set j (.nu (RL.mk (p:=p) ws))=sl:=by
    apply ext_getElem?
    intro i
    rw[aen]
    split
    ·rename_i hij
     subst hij
     split
     ·exact I.symm
     ·rename_i t
      rw[abw (by lia)] at I
      cases I
    ·rfl
   rw[e]
   exact a'
  rintro i m ys σ2 C ⟨rfl,hil,D,l,Z,Y,b,ez,bl,T,A,s2,r2⟩
  have hyl:ys.length=i:=by rw[r2.len,bl]
  obtain⟨y1,y2⟩:=yl i D O C T.ff A.1
  by_cases t:i<xs.length
  ·obtain⟨go,y3⟩:=y2 xs[i] (aaz t)
   rw[List.drop_eq_getElem_cons t] at b
   unfold nA at b
   cases X:f l xs[i] with
   |none=>rw[X] at b;cases b
   |some r =>
    rw[X] at b
    have b:((nA f r.2 (xs.drop (i+1))).bind λq=>some (r.1::q.1,q.2))=some (Y,c):=b
    cases M:nA f r.2 (xs.drop (i+1)) with
    |none=>rw[M] at b;cases b
    |some q =>
     rw[M] at b
     obtain⟨y,w2⟩:=r
     obtain⟨cs',wE'⟩:=q
     obtain⟨rfl,rfl⟩:=aer (aa5 (show some (y::cs',wE')=some (Y,c) from b))
     refine .inr ⟨go,by lia,λys' σ' U=>∃(L:Hp),Fr p F' H' L U/\At B (sl.set j (.nu (RL.mk (p:=p) w2))) L O U σ/\ak B L (lo L [] U) U (fG w2) σ' []/\A2 (rp K (reg B L U (fu n'))) ys' (Z++[y]),(by rintro ys' σ' U ⟨L,z1,z2,z3,z4⟩;exact⟨xs.length-(i+1),by lia,rfl,t,L,w2,Z++[y],cs',M,by rw[append_assoc];exact ez,by rw[length_append,bl];rfl,z1,z2,z3,z4⟩),λv H3 yd=>?_⟩
     obtain⟨F3,o,r3⟩:=y3 v H3 yd
     have G:=A.grow o
     have ZS:At B (fG l) F3 [] H3 σ2:=⟨o.ok.nil,s2.mono o.ff (Zw ⟨o.ff,o.hh,o.ok.nil,o.nw⟩) o.hh⟩
     refine hg l v xs[i] F3 [] H3 σ2 _ ZS r3 λσ4 a4=>?_
     refine hc l xs[i] true rfl F3 [] H3 σ4 _ a4 λF5 H5 g5=>jW ?_
     have g5':=bJ.lift o.ok g5
     have at5:=G.grow g5'
     refine he l xs[i] y w2 X F5 [] H5 σ4 _ (a4.grow g5) λu F6 H6 N a6 r6=>?_
     obtain⟨_,XM,b5,f5,o5,ch5⟩:=at5.jH (RB I) (by rw[set_set];exact hh)
     obtain⟨jI,i1,i2⟩:=hI w2 xs[i]
     obtain⟨_,hp6,_,f6,_⟩:=a6.jH i1 i2
     obtain⟨_,hp2,_⟩:=A.jH (RB I) (by rw[set_set];exact hh)
     obtain⟨_,hp3,_⟩:=G.jH (RB I) (by rw[set_set];exact hh)
     have nn:∀{H:Hp}{w:LI},H p=some (.lst (w.map V.int))->H p≠none:=λe=>by rw[e];intro z;cases z
     have at6:=at5.U8 (RB I) (by rw[set_set];exact hh) N a6.1 hp6 f6
     rw[set_set] at at6
     exact⟨F6,T.trans ((Fr.of o).trans ((Fr.of g5').trans N (nn XM)) (nn hp3)) (nn hp2),at6,a6.2.le0 (hle w2 xs[i]),(r2.imp λ_ _=>Rp.mono (xF _ (o.ff.trans (g5.ff.trans N.ff)))).snoc r6⟩
  ·have e:i=xs.length:=by lia
   subst e
   rw[List.drop_length] at b
   cases(show some (([]:List β),l)=some (Y,c) from b)
   rw[append_nil] at ez
   subst ez
   exact .inl ⟨y1 (aa0 _),by lia,λq hq=>k q ys D C ((Fr.of gr).trans T (by
    obtain⟨_,h2,_⟩:=a'.jH I hh
    rw[h2];intro q;cases q)) A hq r2⟩
end
section
variable{K:Frag}{B:Bs}{sl:SL K}{md:Md}{α β S:Type}[Rp K α][Rp K β]{te t1 t2:TE}{p:Addr}
theorem U7.eyn{L:S->SL K}{m:Option (List α×S)}(n:∀s,∃(i:Nat) (ws:LI),(L s)[i]?=some (.nu (RL.mk (p:=p) ws))/\((L s).set i .un).all (λs=>!dj s&&!kZ s)=true)(h:U7 B p sl md te L m):Ad B p sl md te L m:=λa s e F O H σ Q z k=>h a s e F O H σ Q z λq d F' H' j b f r=>by
 have c:=bJ.new b.1 f (.lst d)
 obtain⟨i,w1,l,g⟩:=n s
 obtain⟨_,hp1,_⟩:=b.jH l g
 exact k _ _ _ (j.trans (.of c) (by grind)) (b.grow c) ⟨q,d,rfl,Rf b.1 f md,r.imp λ_ _=>Rp.mono (xN c md)⟩
theorem zV0{n:Bool}{L:S->SL K}{h:Option α}{m:Option (β×S)}{i:Nat}{ws:LI}(x:sl[i]?=some (.nu (RL.mk (p:=p) ws)))(A:(sl.set i .un).all (λs=>!dj s&&!kZ s)=true)(y:∀s,∃(i:Nat) (ws:LI),(L s)[i]?=some (.nu (RL.mk (p:=p) ws))/\((L s).set i .un).all (λs=>!dj s&&!kZ s)=true)(I:Ex B sl (fu n) t1 h)(h2:Ad B p sl (fu n) t2 L m):Ad B p sl (fu n) (zp (yW t1 (yW t2 bI))) L (h.bind λa=>m.bind λr=>some ((a,r.1),r.2)):=λc s j F O H σ Q z k=>by
 cases h with
 |none=>cases j
 |some a =>
  cases m with
  |none=>cases j
  |some r =>
   obtain⟨b,t⟩:=r
   obtain⟨rfl,rfl⟩:=aer (aa5 (j))
   refine I a rfl F O H σ _ z λv C M g D=>?_
   obtain⟨_,l,_⟩:=(z.grow g).jH x A
   refine h2 b t rfl C O M σ _ (z.grow g) λw F2 H2 u f J=>?_
   obtain⟨i',w1,E,G⟩:=y t
   obtain⟨_,hp2,_⟩:=f.jH E G
   refine⟨by show 2<=sizeLine;decide,λq o=>?_⟩
   have d:=bJ.new f.1 o (.tup [v,w])
   exact k _ _ _ ((Fr.of g).trans (u.trans (.of d) (by grind)) (by rw[l];intro q;cases q)) (f.grow d) ⟨q,v,w,rfl,Rf f.1 o _,Rp.mono (xF _ (u.ff.trans d.ff)) D,Rp.mono (xF _ d.ff) J⟩
theorem zOv{L:S->SL K}(i:Nat)(J:sl[i]?=some (.ow n xs))(y:sl.all (λs=>!dj s)=true)(w:∀s,(L s)[i]?=some (.ow n xs)/\(L s).all (λs=>!dj s)=true)(h:Ad B p sl (fu n) te L m) :
  Sn B sl (QG (QX K "list" Zc (cP i) (yW te bI))) (λr:List α×S=>(L r.2).set i (.ow n r.1)) (m.bind λr=>(push xs r.1).bind λys=>some (ys,r.2)):=λys f G D σ H s k=>by
 cases m with
 |none=>cases f
 |some r =>
  obtain⟨a,j⟩:=r
  have f:((push xs a).bind λys=>some (ys,j))=some ys:=f
  cases c:push xs a with
  |none=>grind
  |some t =>
   rw[c] at f
   cases(show some (t,j)=some ys from f)
   unfold push at c
   split at c
   case isFalse=>cases c
   rename_i I
   cases c
   obtain⟨F,O,g,z⟩:=s
   obtain⟨q,vs,x,N,h3,_⟩:=z.chg J y
   refine⟨_,x,.inl ⟨rfl,_,aZ.of N⟩,?_⟩
   refine h a j rfl F O H σ _ z λv C H' A M r=>?_
   obtain⟨q',b,o,l,d,u⟩:=M.chg (w j).1 (w j).2
   cases x.symm.trans o
   obtain⟨E,P⟩:=u (b++[v]) (xs++[a]) (d.snoc r)
   exact⟨q,b,v,rfl,rfl,l,Cg (by rw[d.len];exact I),k _ _ ⟨C,E,g.trans A.ff,P⟩⟩
end
section
variable{K:Frag}{B:Bs}{sl:SL K}{F H:Hp}{O:Own}{σ:St}
abbrev U9:Slot K->Slot K
 |@Slot.fz _ n _ i a=>@Slot.fz _ n _ i a
 |@Slot.nu _ _ i a=>@Slot.nu _ _ i a
 |_=>.un
theorem N7:Same (lo F O H) (lo F [] H):=λb o h=>by
 unfold lo at h ⊢
 grind
theorem ak.aad(a:At B sl F O H σ)(j:Nat)(g:sl[j]?=some s):∀{c:SL K}{e:St},ak B F (lo F [] H) H c e []->ak B F (lo F [] H) H (U9 s::c) ((σ[j]?).getD none::e) []:=λ{c e} h=>by
 cases s with
 |un=>exact .un h
 |fz n b=>obtain⟨v,f,d⟩:=a.2.sH g;rw[f];exact .fz d h
 |hs b=>exact .un h
 |nu b=>obtain⟨v,f,d⟩:=a.2.Cd g;rw[f];exact .nu (Rp.mono (yZ N7) d) h
 |ow n xs=>exact .un h
 |od kvs=>exact .un h
 |ob n a=>exact .un h
def Cz(sl:SL K)(n:Nat)(ix:List Nat):SL K:=replicate n .un++ix.map λj=>U9 ((sl[j]?).getD .un)
theorem zUk(a:At B sl F O H σ)(n:Nat):∀(ix:List Nat),(∀j∈ix,j<sl.length)->ak B F (lo F [] H) H (Cz sl n ix) (jG σ n ix) []:=λix b=>by
 unfold Cz jG
 induction n with
 |zero =>
  induction ix with
  |nil=>exact .nil
  |cons j ix ih =>
   have c:=b j mem_cons_self
   have d:=aaz c
   have z:=ak.aad a j d (ih λk e=>b k (mem_cons_of_mem _ e))
   grind
 |succ n ih=>exact .un ih
theorem zXu{ix:List Nat}(hix:(ix.all λj=>decide (j<sl.length))=true)(hI:fG=Cz sl no ix):∀(F:Hp)(O:Own)(H:Hp)(σ:St),At B sl F O H σ->ak B F (lo F [] H) H fG (jG σ no ix) []:=λF O H σ a=>by
 rw[hI]
 exact zUk a no ix λj hj=>by simpa using(all_eq_true.mp hix) j hj
end
structure uf(α β γ:Type) where
 a:α
 b:β
 c:γ
section
variable{K:Frag}{B:Bs}{sl:SL K}{md:Md}{n:Bool}{α β γ S:Type}[Rp K α][Rp K β][Rp K γ]{te t1 t2 t3:TE}
instance:Rp K (uf α β γ):=⟨λF v x=>∃p u w z,v=.ref p/\F p=some (.tup [u,w,z])/\rp K F u x.a/\rp K F w x.b/\rp K F z x.c,λs h=>by
  obtain⟨p,u,w,z,h1,h2,h3,h4,h5⟩:=h
  exact⟨p,u,w,z,h1,s _ _ h2,Rp.mono s h3,Rp.mono s h4,Rp.mono s h5⟩⟩
theorem zMa{h:Option α}{j:Option β}{i:Option γ}(r:Ex B sl md t1 h)(h2:Ex B sl md t2 j)(x:Ex B sl md t3 i):Ex B sl md (zp (yW t1 (yW t2 (yW t3 bI)))) (h.bind λa=>j.bind λb=>i.bind λc=>some (uf.mk a b c)):=λd g F O H σ Q s o=>by
 cases h with
 |none=>cases g
 |some a =>
  cases j with
  |none=>cases g
  |some b =>
   cases i with
   |none=>cases g
   |some c =>
    cases(g)
    refine r a rfl F O H σ _ s λv z t l D=>?_
    refine h2 b rfl z O t σ _ (s.grow l) λw A y k q=>?_
    refine x c rfl A O y σ _ ((s.grow l).grow k) λu F3 H3 e C=>?_
    refine⟨by show 3<=sizeLine;decide,λp m=>?_⟩
    have f:=bJ.new e.ok m (.tup [v,w,u])
    exact o _ _ _ (l.trans (k.trans (e.trans f))) ⟨p,v,w,u,rfl,Rf e.ok m md,Rp.mono (xN (k.trans (e.trans f)) md) D,Rp.mono (xN (e.trans f) md) q,Rp.mono (xN f md) C⟩
theorem Hv(i j l:Nat)(q:sl[i]?=some s)(D:iR s=false)(f:∀x:Slot K,(sl.set i x)[j]?=some s')(m:iR s'=false)(e:∀x y:Slot K,((sl.set i x).set j y)[l]?=some u)(g:iR u=false) :
  Tg B sl n (Fe K 3 (QK (qd i) (QK (qd j) (QK (qd l) K5)))) (λx:uf α β γ=>((sl.set i (.fz n x.a)).set j (.fz n x.b)).set l (.fz n x.c)):=λv x F O H σ Q a r k=>by
 obtain⟨p,o,h,d,rfl,t,C,A,w⟩:=r
 refine⟨p,[o,h,d],rfl,.inl (.inl (zQt a.1 t)),rfl,o,[h,d],rfl,h,[d],rfl,d,[],rfl,rfl,?_⟩
 exact k _ ⟨a.1,((a.2.put (λ_ _ _ z=>.fz C z) q D).put (λ_ _ _ z=>.fz A z) (f _) m).put (λ_ _ _ z=>.fz w z) (e _ _) g⟩
theorem N8{d:S->α->SL K}(h:Ey B sl (fu n) te L m)(o:∀s,Tg B (L s) n g (d s)):Sn B sl (lU te g) (λr:α×S=>d r.2 r.1) m:=λa p G D σ H s k=>by
 obtain⟨F,O,j,z⟩:=s
 exact h a.1 a.2 p F O H σ _ z λv i f u l q r=>o a.2 v a.1 i f u σ _ q r λσ' t=>k _ _ ⟨i,f,j.trans l,t⟩
end
section
variable{K:Frag}{B:Bs}{sl:SL K}{md:Md}{te:TE}
theorem N_{mi:Option LI}(h:Ex B sl .hp te mi):Eo B sl md (Q_ 1 [] (Hq K (yW te bI)) (qd 0) zu (cP 0)) (mi.bind λus=>if us.length<cap then some us.reverse else none):=λy c F O H σ Q a k=>by
 cases mi with
 |none=>cases c
 |some us =>
  have c:(if us.length<cap then some us.reverse else none)=some y:=c
  split at c
  case isFalse=>cases c
  rename_i e
  cases c
  refine h us rfl F O H σ _ a λv s o D r=>?_
  obtain⟨p,b,rfl,m,w⟩:=r
  have m:o p=some (.lst b):=m
  have z:b=us.map V.int:=A2.n6 w
  have A:b.length=us.length:=w.len
  refine⟨p,b,rfl,aZ.of m,zWe (xs:=b) (λi l j d=>d=o/\(∃v,j=[v])/\l=b.reverse.take i) ⟨rfl,⟨none,rfl⟩,rfl⟩ (?_) (by rw[A];exact Cg e) (λi x l j d C t ⟨g,⟨v,u⟩,n⟩=>?_) (λl j d ⟨g,_,n⟩ q E=>?_)⟩
  rintro i l j d t ⟨g,_,u⟩
  ·subst g
   exact⟨aZ.of m,by grind⟩
  ·subst g
   subst u
   subst n
   refine⟨x,rfl,rfl,⟨some x,rfl⟩,?_⟩
   rw[take_add_one,List.getElem?_reverse t,C]
   rfl
  ·subst g
   subst n
   refine k q _ s d D E ?_
   rw[<-List.length_reverse,take_length,z]
   exact(A2.of_map (R:=rp K (reg B s d md)) (f:=V.int) (λ_=>rfl) us).rev
end
noncomputable def Oa(us:LI):Option LI:=if us.length<cap then some us.reverse else none
section
variable{K:Frag}{B:Bs}{sl sl2:SL K}{md:Md}{te:TE}{t:TS}{β:Type}[Rp K β]{p:Addr}
theorem zV6{m:Option Mp}{mi:Option Int}{d:TE}(h:Ex B sl .hp te m)(w:Ex B sl .hp d mi):Eo B sl md (WQ (Gb K) te WD (WK d)) (m.bind λxs=>mi.bind λi=>some (sY xs.ns none (some i))):=λc b F O H σ Q s k=>by
 obtain⟨xs,i,n,a,b⟩:=sI b
 cases b
 refine h xs n F O H σ _ s λv x z g r=>?_
 refine w i a x O z σ _ (s.grow g) λu j A e q=>?_
 obtain⟨p,rfl,o⟩:=r
 exact⟨i,q,p,xs.ns.map V.int,rfl,e.hh.seq o,λl y=>k l _ j A (g.trans e) y ((A2.of_map (f:=V.int) (λ_=>rfl) xs.ns).cut _ _)⟩
theorem Hw(h:Ex B sl .hp te mi):Eo B sl md (Q_ 1 [] (Hq K (yW te bI)) (qd 0) zu (cP 0)) (mi.bind λus=>Oa us):=N_ h
theorem Od(K:Frag){X:Cx}(b:X.mg "reversed" = none)(f:PA X [a] d)(h:X.K=K:=by rfl)(e:Gl X "reversed":=by rfl)(c:starEach [a] X.env=[(false,eval a X.env)]:=by rfl):PI X tg (.Call (.Name "reversed" q) [a] [] pos) (Hq K d):=by subst h;exact NQ e b f c
theorem Hx{m:Option (β×LI)}(l:Le sl sl2)(h:tD B p sl2 t m):tD B p sl t m:=λa w b G D σ H q k=>h a w b G D σ H (q.le l) k
theorem Oe{m:Option (β×LI)}(sl2:SL K)(h:tD B p sl2 t m)(e:sl=sl2:=by rfl):tD B p sl t m:=e▸h
end
section
variable{K:Frag}{B:Bs}{sl:SL K}{F H:Hp}{O:Own}{σ:St}{t u:TS}{al:Bool}{α β S A A1 A2:Type}[Rp K α][Rp K β]{b:β}
def SnA(B:Bs)(sl:SL K)(t:TS){S:Type}(L:S->SL K)(P:S->Prop):Prop :=
 ∀(G:Hp)(D:Ends)(σ:St)(H:Hp),Sg B G sl σ H->(∀s,P s->∀a c,Sg B G (L s) a c->D.nx a c)->t D σ H
def Bp(B:Bs)(sl:SL K)(t:TS)(al:Bool){β A:Type}[Rp K β](m:A->Option β)(P:A->Prop)(b:β):Prop :=
 (∃a,P a)->(∀a,P a->m a=some b)->∀(G:Hp)(D:Ends)(σ:St)(H:Hp),Sg B G sl σ H->(∀v c,Rt K B al b v c->D.rt v c)->t D σ H
theorem Hy(h:SB B sl t al m):Bp B sl t al (λ_:Unit=>m) (λ_=>True) b:=λ_ a G D σ H q k=>h b (a () trivial) G D σ H q k
theorem zIg{f:S->A->Option β}(i:Sn B sl t L c)(h2:∀s,Bp B (L s) u al (f s) P b):Bp B sl (jF t u) al (λa=>c.bind λs=>f s a) P b:=λh d G D σ H q k=>by
 cases c with
 |none=>grind
 |some s=>exact i s rfl G _ σ H q λg l e=>h2 s h (λa j=>d a j) G D g l e k
theorem Hz{g:A1->A2->Option β}(d:SnA B sl t L l)(h2:∀s,Bp B (L s) u al (g s) m b):Bp B sl (jF t u) al (λa:A1×A2=>g a.1 a.2) (λa=>l a.1/\m a.2) b:=λne c G D σ H q k =>
 d G _ σ H q λs h f j e=>h2 s (by grind) (λa i=>c (s,a) ⟨h,i⟩) G D f j e k
theorem XQ(sl2:SL K)(h:Bp B sl2 t al m P b)(e:sl=sl2:=by rfl):Bp B sl t al m P b:=e▸h
theorem Bp.sb(h:Bp B sl t al m P b)(d:∃a,P a)(f:∀a,P a->m a=some b):SB B sl t al (some b):=λc e G D σ H q k=>by
 cases e
 exact h d f G D σ H q k
end
open PySem.SeqAt (EqAt RcAt RcNeAt)
section
variable{K:Frag}{B:Bs}{sl:SL K}{md:Md}{te t1 t2:TE}{α β γ δ:Type}[Rp K α][Rp K β][Rp K γ][Rp K δ]
theorem zNo{o:uf α β γ->δ}(i:Int)(r:∀(R:Hp) (x:uf α β γ) (u w z:V),rp K R u x.a->rp K R w x.b->rp K R z x.c->∃y,L2.aU [u,w,z] i=some y/\rp K R y (o x))(E:Ex B sl md t1 m)(h2:Ex B sl .hp t2 (some i)):Ex B sl md (iQ (ux K) t1 t2) (m.bind λx=>some (o x)):=λc h F O H σ Q s k=>by
 cases m with
 |none=>cases h
 |some x =>
  cases(h)
  refine E x rfl F O H σ _ s λv q d g C=>?_
  refine h2 i rfl q O d σ _ (s.grow g) λw N L f G=>?_
  cases G
  obtain⟨p,l,j,n,rfl,A,M,J,I⟩:=C
  have e:=(match md with
   |.nw=>aV.trans g.ok.fh
   |.fz=>g.ok.fh
   |.hp=>.refl _:Same (reg B q d md) d).trans f.hh
  obtain⟨y,D,t⟩:=r _ x l j n M J I
  exact⟨p,[l,j,n],i,y,rfl,rfl,.inl (.inl (e _ _ A)),D,k y N L (g.trans f) (Rp.mono (xN f md) t)⟩
theorem HB{m:Option (uf α β γ)}(b:Ex B sl md t1 m)(h2:Ex B sl .hp t2 (some (0:Int))):Ex B sl md (iQ (ux K) t1 t2) (m.bind λx=>some x.a):=zNo 0 (λ_ _ u _ _ h _ _=>⟨u,rfl,h⟩) b h2
theorem HD{m:Option (uf α β γ)}(a:Ex B sl md t1 m)(h2:Ex B sl .hp t2 (some (1:Int))):Ex B sl md (iQ (ux K) t1 t2) (m.bind λx=>some x.b):=zNo 1 (λ_ _ _ u _ _ h _=>⟨u,rfl,h⟩) a h2
end
end Ts
namespace Sy
open PySem L2 Ts
inductive bG(H:Hp):V->Tr->Prop where
 |all {a:Addr}:H a=some (.tup [.str "all"])->bG H (.ref a) .all
 |mark {a:Addr} {x:Str}:H a=some (.tup [.str "mark",.str x])->bG H (.ref a) (.mark x)
 |one {a:Addr} {i:Fin 7} {v:V} {t:Tr}:H a=some (.tup [.str (w1 i),v])->bG H v t->bG H (.ref a) (.one i t)
 |two {a:Addr} {i:Fin 4} {v u:V} {l r:Tr}:H a=some (.tup [.str (w2 i),v,u])->bG H v l->bG H u r->bG H (.ref a) (.two i l r)
theorem bG.mono(h:bG H v t)(k:∀a xs,H a=some (.tup xs)->H' a=some (.tup xs)):bG H' v t:=by
 induction h with
 |all h=>exact .all (k _ _ h)
 |mark h=>exact .mark (k _ _ h)
 |one h _ ih=>exact .one (k _ _ h) ih
 |two h _ _ b c=>exact .two (k _ _ h) b c
theorem bG.same(h:bG H v t)(s:Same H H'):bG H' v t:=h.mono λa xs e=>s a _ e
inductive Itm where
 |s (x:Str)
 |t (t:Tr)
def items:Tr->List Itm
 |.all=>[.s "all"]
 |.mark x=>[.s "mark",.s x]
 |.one i t=>[.s (w1 i),.t t]
 |.two i l r=>[.s (w2 i),.t l,.t r]
theorem zWs:∀i j:Fin 7,w1 i=w1 j->i=j:=by decide +kernel
theorem zWr:∀i j:Fin 4,w2 i=w2 j->i=j:=by decide +kernel
theorem zLd:∀i:Fin 7,¬w1 i = "mark":=by decide +kernel
theorem Og:∀i:Fin 7,¬w1 i = "all":=by decide +kernel
theorem HF:∀i:Fin 4,¬w2 i = "mark":=by decide +kernel
theorem Oh:∀i:Fin 4,¬w2 i = "all":=by decide +kernel
theorem zVk:¬(("mark":Str) = "all"):=by decide +kernel
theorem zSn:∀{t u:Tr},items t=items u->t=u
 |.all,.all,_=>rfl
 |.all,.mark _,h=>by simp[items] at h
 |.all,.one _ _,h=>by simp[items] at h
 |.all,.two _ _ _,h=>by simp[items] at h
 |.mark _,.all,h=>by simp[items] at h
 |.mark x,.mark y,h=>by
  simp[items] at h
  rw[h]
 |.mark _,.one i t,h=>by simp[items] at h
 |.mark _,.two _ _ _,h=>by simp[items] at h
 |.one _ _,.all,h=>by simp[items] at h
 |.one i t,.mark _,h=>by simp[items] at h
 |.one i t,.one j u,h=>by
  simp[items] at h
  rw[zWs i j h.1,h.2]
 |.one _ _,.two _ _ _,h=>by simp[items] at h
 |.two _ _ _,.all,h=>by simp[items] at h
 |.two _ _ _,.mark _,h=>by simp[items] at h
 |.two _ _ _,.one _ _,h=>by simp[items] at h
 |.two i l r,.two j l' r',h=>by
  simp[items] at h
  rw[zWr i j h.1,h.2.1,h.2.2]
def aae(H:Hp)(x:V):Itm->Prop
 |.s y=>x=.str y
 |.t t=>bG H x t
theorem bG.items(h:bG H v t):∃a xs,v=.ref a/\H a=some (.tup xs)/\Paired (aae H) xs (items t):=by
 cases h with
 |all h=>exact⟨_,_,rfl,h,.cons rfl .nil⟩
 |mark h=>exact⟨_,_,rfl,h,.cons rfl (.cons rfl .nil)⟩
 |one h b=>exact⟨_,_,rfl,h,.cons rfl (.cons b .nil)⟩
 |two h b c=>exact⟨_,_,rfl,h,.cons rfl (.cons b (.cons c .nil))⟩
theorem U_{α β:Type}{F:α->β->Prop}:∀{l₁:List α}{l₂:List β}{j:Nat}{x:α},Paired F l₁ l₂->l₁[j]?=some x->∃y,l₂[j]?=some y/\F x y
 |_,_,_,_,.nil,e=>by simp at e
 |_,_,0,_,.cons r _,e=>by simp at e;subst e;exact⟨_,rfl,r⟩
 |_,_,j+1,x,.cons _ t,e=>by
  obtain⟨u,h1,h2⟩:=U_ (j:=j) (x:=x) t (by simpa using e)
  exact⟨u,by simpa using h1,h2⟩
theorem zP0(h:Itm.t u∈items t):u.depth<t.depth:=by
 cases t with
 |all=>simp[items] at h
 |mark x=>simp[items] at h
 |one i t=>simp[items] at h;subst h;exact ab9 _
 |two i l r =>
  simp[items] at h
  rcases h with rfl|rfl
  ·show _<max _ _+1;lia
  ·show _<max _ _+1;lia
theorem bG.inj:∀{t u:Tr},bG H v t->bG H v u->t=u:=by
 intro t u h
 induction h generalizing u with
 |all h =>
  intro b
  cases b with
  |all _=>rfl
  |mark a=>grind
  |one a _=>rw[h] at a;simp at a
  |two a _ _=>rw[h] at a;simp at a
 |mark h =>
  intro b
  cases b with
  |all a=>rw[h] at a;simp at a
  |mark a=>grind
  |one a _=>rw[h] at a;simp at a;exact absurd a.1.symm (zLd _)
  |two a _ _=>rw[h] at a;simp at a
 |one h l ih =>
  intro b
  cases b with
  |all a=>rw[h] at a;simp at a
  |mark a=>rw[h] at a;simp at a;exact absurd a.1 (zLd _)
  |one a c =>
   rw[h] at a
   simp at a
   obtain⟨e,f⟩:=a
   subst f
   rw[zWs _ _ e,ih c]
  |two a _ _=>rw[h] at a;simp at a
 |two h l a g d =>
  intro b
  cases b with
  |all a=>rw[h] at a;simp at a
  |mark a=>rw[h] at a;simp at a
  |one a _=>rw[h] at a;simp at a
  |two c j i =>
   rw[h] at c
   simp at c
   obtain⟨e,f,k⟩:=c
   subst f k
   rw[zWr _ _ e,g j,d i]
theorem Ae{α:Type}{l m:List α}(h:l.length=m.length)(k:∀j,j<l.length->l[j]?=m[j]?):l=m:=by
 refine ext_getElem? λj=>?_
 grind
theorem J0(s:Shared)(ok:iI P w H s.heap)(n:Nat)(ih:∀(t u:Tr) (A:Around) (v1 v2:V) (x1 x2:Value),t.depth<n->A.units+n<cLine->bG H v1 t->bG H v2 u->RelV v1 x1->RelV v2 x2->∃b,ad7 A s x1 x2 b/\(b=true->t=u))(t u:Tr)(A:Around)(a1 a2:Addr)(hd:t.depth<n+1)(hu:A.units+(n+1)<cLine)(h1:bG H (.ref a1) t)(h2:bG H (.ref a2) u):∃b,SeqAt.RcAt A s (.ref a1) (.ref a2) b/\(b=true->t=u):=by
 obtain⟨_,v,q1,e1,p1⟩:=h1.items
 obtain⟨_,o,q2,e2,p2⟩:=h2.items
 cases q1
 cases q2
 obtain⟨z1,f,rv1,T1⟩:=ok a1 _ e1
 obtain⟨z2,d,rv2,T2⟩:=ok a2 _ e2
 have l1:=rv1.length
 have l2:=rv2.length
 have m1:=p1.length
 have m2:=p2.length
 have it:∀j:Nat,∃b:Bool,(∀(x:j<f.toArray.size)(k2:j<d.toArray.size),ad7 A.in1 s f.toArray[j] d.toArray[j] b)/\(b=true->j<f.length->j<d.length->(items t)[j]?=(items u)[j]?):=λj=>by
  by_cases x:j<f.length
  ·by_cases k2:j<d.length
   ·have g1:v[j]?=some (v[j]'(by lia)):=aaz (by lia)
    have g2:o[j]?=some (o[j]'(by lia)):=aaz (by lia)
    obtain⟨y1,hy1,i⟩:=rv1.get g1
    obtain⟨y2,hy2,h⟩:=rv2.get g2
    obtain⟨i1,hi1,f1⟩:=U_ p1 g1
    obtain⟨i2,hi2,f2⟩:=U_ p2 g2
    have q1:f[j]=y1:=aa5 ((aaz x).symm.trans hy1)
    have q2:d[j]=y2:=aa5 ((aaz k2).symm.trans hy2)
    rw[hi1,hi2]
    have m:∀b,ad7 A.in1 s y1 y2 b->∀(x:j<f.toArray.size)(k2:j<d.toArray.size),ad7 A.in1 s f.toArray[j] d.toArray[j] b:=λb g _ _=>by
     simp only[List.getElem_toArray,q1,q2]
     exact g
    have hu1:A.in1.units+n<cLine:=by show A.units+1+n<cLine;lia
    cases i1 with
    |s p =>
     have f1':v[j]'(by lia)=.str p:=f1
     rw[f1'] at i
     cases i2 with
     |s l =>
      have r:o[j]'(by lia)=.str l:=f2
      rw[r] at h
      refine⟨D_ (.str p) (.str l),m _ (zXr i h rfl rfl),λg _ _=>?_⟩
      rw[aej (show(p==l)=true from g)]
     |t l =>
      obtain⟨a,ys,e,ea,pa⟩:=bG.items f2
      rw[e] at h
      cases h
      obtain⟨tk,rfl⟩:=i
      obtain⟨_,_,_,Ta⟩:=ok a _ ea
      exact⟨false,m _ (SeqAt.EqAt.str_tuple p tk (show s.heap.IsTuple a _ from Ta) (by lia)),λg=>by cases g⟩
    |t p =>
     cases i2 with
     |s l =>
      have r:o[j]'(by lia)=.str l:=f2
      rw[r] at h
      obtain⟨a,ys,e,ea,pa⟩:=bG.items f1
      rw[e] at i
      cases i
      obtain⟨tk,rfl⟩:=h
      obtain⟨_,_,_,Ta⟩:=ok a _ ea
      exact⟨false,m _ (SeqAt.EqAt.tuple_str l tk (show s.heap.IsTuple a _ from Ta) (by lia)),λg=>by cases g⟩
     |t l =>
      have dlt:p.depth<n:=by
       have:=zP0 (mem_of_getElem? hi1)
       lia
      obtain⟨b,g,q⟩:=ih p l A.in1 _ _ y1 y2 dlt hu1 f1 f2 i h
      exact⟨b,m _ g,λhbt _ _=>by rw[q hbt]⟩
   ·exact⟨false,λ_ k=>absurd (by simpa using k) k2,λg=>by cases g⟩
  ·exact⟨false,λk _=>absurd (by simpa using k) x,λg=>by cases g⟩
 obtain⟨e,he⟩:=Classical.axiomOfChoice it
 refine⟨_,SeqAt.RcAt.tuples (show s.heap.IsTuple a1 _ from T1) (show s.heap.IsTuple a2 _ from T2) (by lia) (e:=e) (λj x k2=>(he j).1 x k2),λg=>?_⟩
 rw[abn] at g
 obtain⟨hb1,q⟩:=g
 have hs:f.length=d.length:=by simpa using q
 rw[all_eq_true] at hb1
 refine zSn (Ae (by lia) λj hj=>?_)
 refine(he j).2 (hb1 j ?_) (by lia) (by lia)
 rw[mem_range]
 simp
 lia
theorem J2(s:Shared)(m:iI P w H s.heap):∀(n:Nat)(t u:Tr)(A:Around)(c d:V)(e f:Value),t.depth<n->A.units+n<cLine->bG H c t->bG H d u->RelV c e->RelV d f ->
  ∃b,ad7 A s e f b/\(b=true->t=u)
 |0,_,_,_,_,_,_,_,h,_,_,_,_,_=>absurd h (ab7 _)
 |n+1,t,u,A,c,d,e,f,hd,q,i,j,p,r2=>by
  obtain⟨l,xs1,rfl,e1,p1⟩:=i.items
  obtain⟨k,xs2,rfl,e2,p2⟩:=j.items
  cases p
  cases r2
  by_cases o:l=k
  ·subst o
   exact⟨true,SeqAt.EqAt.same _,λ_=>i.inj j⟩
  obtain⟨b,hb,g⟩:=J0 s m n (λt u A c d e f=>J2 s m n t u A c d e f) t u A l k hd q i j
  exact⟨b,SeqAt.EqAt.of_refs o hb,g⟩
def Va:R2:=λx y H Q=>∃t u,bG H x t/\bG H y u/\t.depth<20/\∀b:Bool,(b=true->t=u)->Q (.bl b) H
theorem HJ{X:Cx}(hu:X.A.units+64<cLine):lR X (compareOp .Eq) Va:=by
 intro pins s σ H x y v u Q I k e h
 obtain⟨t,j,d,a,hd,q⟩:=h
 obtain⟨m,xs1,rfl,e1,p1⟩:=d.items
 obtain⟨i,xs2,rfl,e2,p2⟩:=a.items
 cases k
 cases e
 obtain⟨b,o,c⟩:=J0 s I.hok 19 (λt u A n g l f=>J2 s I.hok 19 t u A n g l f) t j X.A m i hd (by lia) d a
 exact o _ _ _ _ ⟨.bl b,H,I,rfl,q b c⟩
end Sy
namespace Ts
open PySem L2
section
variable{K:Frag}{B:Bs}{sl:SL K}{F H G:Hp}{O:Own}{σ:St}{md:Md}{te ti t t2 t3:TE}{u:TS}{al:Bool}{α β:Type}[Rp K α][Rp K β]
theorem zVv(k:Ok B F O H)(a:H p=none)(o:HO):bJ B F H O F (upd H p o):=⟨.refl _,au a _,⟨k.fh.put (k.fh.free a) _,k.h0.put (k.h0.free a) _,k.fa,λx b=>by
 obtain⟨e,c,d⟩:=k.fo x b
 exact⟨e,c,au a _ _ _ d⟩,k.nd⟩,λ_ h _=>h⟩
end
def top(i:Nat):Stmt:=PySem.Challenge.pw_treesay_k47_whole_plain_meaning.main.body.getD i (.Pass ⟨0,0,0,0⟩)
abbrev gM:Stmt:=top 2
abbrev rm:Stmt:=top 3
abbrev oG:Stmt:=top 4
abbrev oH:Stmt:=top 5
abbrev jZ:Stmt:=top 6
abbrev lY:Stmt:=top 7
abbrev iV:Stmt:=top 9
abbrev j4:Stmt:=top 10
abbrev gO:Stmt:=top 11
abbrev fU:Stmt:=top 12
abbrev lZ:Stmt:=top 14
abbrev fV:Stmt:=top 15
abbrev rA:Stmt:=top 16
abbrev iW:Stmt:=top 17
abbrev gP:Stmt:=top 18
abbrev oJ:Stmt:=top 19
abbrev vg:Stmt:=top 20
abbrev s_alive:Stmt:=top 21
abbrev lg:Stmt:=xI (top 23) 0
abbrev cW:Stmt:=xI (top 23) 1
abbrev mj:Stmt:=xI (top 24) 0
abbrev mq:Stmt:=xI (top 25) 0
abbrev oK:Stmt:=xI (top 26) 0
abbrev nD:Stmt:=xI (top 27) 0
abbrev oM:Stmt:=xI (top 28) 0
abbrev nG:Stmt:=xI (top 29) 0
abbrev lq:Stmt:=xI (top 30) 0
abbrev jJ:Stmt:=xI (top 31) 0
abbrev jK:Stmt:=xI (top 32) 0
abbrev jL:Stmt:=xI (top 33) 0
abbrev jM:Stmt:=xI (top 34) 0
abbrev iD:Stmt:=xI (top 35) 0
abbrev iG:Stmt:=xI (top 36) 0
abbrev jN:Stmt:=xI (top 37) 0
abbrev jO:Stmt:=xI (top 38) 0
abbrev iY:Stmt:=top 40
abbrev iZ:Stmt:=top 41
abbrev j5:Stmt:=top 42
abbrev i_:Stmt:=top 43
abbrev cI:Stmt:=top 44
abbrev mz:Stmt:=top 45
abbrev fX:Stmt:=top 46
abbrev rB:Stmt:=top 47
abbrev rC:Stmt:=top 48
abbrev j6:Stmt:=top 59
abbrev eE:Stmt:=top 60
abbrev fY:Stmt:=top 61
abbrev mD:Stmt:=top 62
abbrev fZ:Stmt:=top 63
abbrev gQ:Stmt:=top 64
abbrev oO:Stmt:=top 65
abbrev XR:Stmt:=top 66
abbrev XS:Stmt:=xI (top 67) 0
abbrev eF:Stmt:=xI (top 67) 1
abbrev cX:Stmt:=xI (top 67) 2
abbrev dw:Stmt:=xI (top 67) 3
abbrev dz:Stmt:=xI (top 67) 4
abbrev cY:Stmt:=xI (top 67) 6
abbrev oR:Stmt:=top 69
abbrev qH:Stmt:=top 70
abbrev tE:Stmt:=top 71
abbrev oU:Stmt:=top 72
abbrev oV:Stmt:=top 73
abbrev oW:Stmt:=top 74
abbrev mG:Stmt:=top 75
abbrev rD:Stmt:=top 76
abbrev jc:Stmt:=top 77
abbrev oX:Stmt:=top 78
abbrev mH:Stmt:=top 79
abbrev oY:Stmt:=top 80
abbrev mJ:Stmt:=top 81
abbrev je:Stmt:=top 82
abbrev gb:Stmt:=top 83
abbrev gj:Stmt:=top 84
abbrev gk:Stmt:=top 85
abbrev oZ:Stmt:=top 86
abbrev rE:Stmt:=top 87
abbrev mK:Stmt:=top 88
abbrev rG:Stmt:=top 89
abbrev qI:Stmt:=top 90
section
variable{P:Program}{w:World}{K:Frag}{mg:Str->Option Value}{base:Heap}
def aaf(K:Frag):Sp:=λg H Q _=>∃(a:Addr)(f:List Addr)(b:List LI),g=[.ref a]/\aZ K H a (f.map V.ref)/\sS K H f b/\b.length<=60/\Xa b.length b /\
 ∀(r:Addr)(e:List Addr)(d:Hp),Same H d->H r=none->d r=some (.lst (e.map V.ref))->e.length=b.length->sV d e (src b)->(∀c∈e,H c=none)->Q (.ref r) d
theorem CG:ao ["steps","sources","stand","targets","target"] ["steps"] (zI XR):=⟨rfl,rfl,rfl,by decide +kernel,rfl,by decide +kernel,by decide +kernel⟩
theorem aag:(["stand"]:List Str).Nodup:=by grind
theorem Oi{a:List Addr}(e:a.Nodup){i j:Nat}{c:Addr}(b:a[i]?=some c)(h2:a[j]?=some c):i=j:=by
 obtain⟨k1,d⟩:=aa8.mp b
 obtain⟨k2,f⟩:=aa8.mp h2
 exact(getElem_inj e).mp (d.trans f.symm)
theorem sV.put{a:Nat->LI}(r:sV H h f)(l:h.Nodup)(i:h[j]?=some c)(e:a j=xs)(m:∀k,k≠j->a k=f k):sV (upd H c (.lst (xs.map V.int))) h a:=λk d b=>by
 by_cases g:k=j
 ·subst g
  rw[i] at b
  cases b
  rw[zM,e]
 ·rw[zT (λz=>g (Oi l b (by grind))),m k g]
  exact r k d b
theorem Vb(F:aW K "sources_of" "sources_of" XR f fd)(B:Bl K mg):aq P w K mg base aN 1 f fd ["steps"] (aaf K):=by
 refine F.ok CG (λvs H Q E h=>?_) (λcdv A outer s H vs Q E hr h=>?_)
 ·obtain⟨a,bs,g,rfl,_⟩:=h
  rfl
 obtain⟨a,bs,g,rfl,hS,hR,Vc,hV,q⟩:=h
 have Y:(bs.map V.ref).length=g.length:=by rw[length_map];exact hR.1
 refine⟨_,zB (BZ (i:=1) (own:=["stand"]) (ix:=[]) CG.nd rfl rfl rfl rfl rfl (YC (pv 0)) (λC s H fp=>yE (i:=0) aag rfl (Or.inl rfl)) (λC s H fp=>wJ) (λC s H fp=>xY zF))
  (zB (xK aa6 rfl (zRp rfl B.enum (zA (pv 0) zF)) (Fg rfl (yS (yE (i:=2) CG.nd rfl (Or.inl rfl)) (yS (yE (i:=3) CG.nd rfl (Or.inl rfl)) Bu)))
   (yG (xK aa6 rfl (YC (pv 3)) (yE (i:=4) CG.nd rfl (Or.inl rfl))
    (yG (yP (BR abb abh abj wS (yD vG (pv 1) (pv 4) (λ_ _=>rfl)) (zA (pv 2) zF)))))))
  (yG (zN (pv 1)))),?_⟩
 refine⟨_,rfl,a,rfl,⟨_,hS⟩,zTe (K:=K) (a:=a) (xs:=bs.map V.ref) (λi ys σ M=>∃(d:List Addr)(v:Option V),ys=d.map V.ref/\σ=[v]/\Same H M/\News H M d (replicate i [])/\d.length=i)
  ⟨[],none,rfl,rfl,Same.refl H,News.nil,rfl⟩ (by rintro i ys σ M _ ⟨d,v,e,_,I,_,hi⟩;exact⟨I.seq hS,by rw[e,length_map,hi];exact aa0 _⟩) (Zf (by lia)) ?_ ?_⟩
 ·rintro i y ys σ M hi ⟨d,v,rfl,rfl,I,N,J⟩
  refine zNh ?_
  refine⟨(by show 0<=sizeLine;decide),λl hl'=>?_⟩
  refine⟨d++[l],_,by rw[map_append]<;>rfl,rfl,I.trans (au hl' _),?_,by rw[length_append,J]<;>rfl⟩
  have e:replicate (i+1) ([]:List V)=replicate i []++[[]]:=List.replicate_succ'
  rw[e]
  exact N.snoc I hl'
 rintro ys σ M ⟨d,v,rfl,rfl,I,N,J⟩ r R
 have T:d.length=g.length:=by rw[J,Y]
 have s3:Same H (upd M r (.lst (d.map V.ref))):=I.trans (au R _)
 have hrH:H r=none:=I.free R
 have nrc:r∉d:=N.Ud R
 have R0:sV (upd M r (.lst (d.map V.ref))) d (src (g.take 0)):=λj c n=>by
  obtain⟨G,h1,h2⟩:=N.at_ j c n
  have e:G=[]:=by
   rw[List.getElem?_replicate] at h1
   split at h1
   ·exact(aa5 h1).symm
   ·cases h1
  subst e
  rw[zT (λz=>nrc (by rw[<-z];exact mem_of_getElem? n)),h2]
  rfl
 refine⟨_,rfl,a,rfl,⟨_,s3.seq hS⟩,zVy (K:=K) (a:=a) (xs:=bs.map V.ref) (λi σ D=>∃u v t,σ=[some (.ref a),some (.ref r),u,v,t]/\Same H D/\D r=some (.lst (d.map V.ref))/\sV D d (src (g.take i)))
  ⟨none,none,none,rfl,s3,zM,R0⟩ (by rintro i σ D _ ⟨_,_,_,_,Z,_⟩;exact Z.seq hS) ?_ ?_⟩
 ·rintro i x t σ D hi ht ⟨u,v,t',rfl,Z,O,R4⟩
  obtain⟨b,rfl,hb⟩:=Ck hi
  obtain⟨G,hx,U⟩:=hR.2 i b hb
  obtain⟨ne,nd,len,vr⟩:=hV.2 G (mem_of_getElem? hx)
  have il:=xQ hx
  have st:Same D (upd D t (.tup [.int i,.ref b])):=au ht _
  have s5:=Z.trans st
  refine⟨t,_,rfl,cF.of zM,rfl,_,_,rfl,_,_,rfl,rfl,?_⟩
  refine⟨_,rfl,b,rfl,⟨_,s5.seq U⟩,zVx (K:=K) (a:=b) (xs:=G.map V.int) (λm σ S=>∃tt,σ=[some (.ref a),some (.ref r),some (.int i),some (.ref b),tt]/\Same H S/\S r=some (.lst (d.map V.ref)) /\
   sV S d λj=>src (g.take i) j++(if(j:Int)∈G.take m then[(i:Int)] else[])) ⟨t',rfl,s5,st _ _ O,λj c n=>?_⟩ (by rintro m σ S _ ⟨_,_,X,_⟩;exact X.seq U) ?_ ?_⟩
  ·rw[st _ _ (R4 j c n)]
   simp
  ·rintro m y σ S hm ⟨tt,rfl,X,p,R6⟩
   obtain⟨z,rfl,hz⟩:=int_at hm
   obtain⟨z0,z1⟩:=vr z (mem_of_getElem? hz)
   have zl:z.toNat<d.length:=by rw[T];lia
   have n:d[z.toNat]?=some d[z.toNat]:=aaz zl
   have L:((z.toNat:Nat):Int)=z:=by lia
   have o:=R6 z.toNat _ n
   have hno:¬z∈G.take m:=zHl nd hz
   simp only[L,if_neg hno,append_nil] at o
   have hix:aU (d.map V.ref) z=some (.ref d[z.toNat]):=by
    have:=Y9 (Gw n)
    rw[L] at this
    exact this
   refine⟨_,rfl,_,rfl,r,_,z,_,rfl,rfl,aZ.of p,hix,.inl ⟨rfl,_,aZ.of o⟩,_,rfl,_,_,_,rfl,rfl,o,?_,?_⟩
   ·have:=Gv (g.take i) z.toNat
    rw[length_take] at this
    refine Zf ?_
    rw[length_map]
    lia
   ·have cH:H d[z.toNat]=none:=N.new _ (mem_of_getElem? n)
    have cr:r≠d[z.toNat]:=λe=>nrc (by rw[e];exact mem_of_getElem? n)
    refine⟨_,rfl,X.put cH _,by rw[zT cr];exact p,?_⟩
    have em:(src (g.take i) z.toNat).map V.int++[V.int i]=(src (g.take i) z.toNat++[(i:Int)]).map V.int:=by rw[map_append]<;>rfl
    rw[em]
    refine R6.put N.nd n ?_ λk hk=>?_
    ·rw[L,if_pos ((W_ hz).mpr (.inr rfl))]
    ·have hk':((k:Int)∈G.take (m+1))=((k:Int)∈G.take m):=by
      rw[W_ hz]
      refine propext ⟨λh=>h.elim id λe=>absurd (by lia) hk,.inl⟩
     simp only[hk']
  ·rintro σ S ⟨tt,rfl,X,p,R6⟩
   refine⟨_,_,_,rfl,X,p,λj c n=>?_⟩
   rw[R6 j c n,zUc hx j,length_map,take_length]
 ·rintro σ D ⟨u,v,t,rfl,Z,O,R4⟩
  refine⟨_,rfl,?_⟩
  have e:g.take (bs.map V.ref).length=g:=by rw[Y];exact take_length
  rw[e] at R4
  exact q r d D Z hrH O T R4 N.new
end
structure Af(K:Frag)(x qual:Str)(st:Stmt)(dV:Value)(f:Addr)(fd:FuncData):Prop where
 ex:∃(oc:Value)(od:Option Addr)(kV doc pm:Value)(an:Option Addr)(cdv ct:Value)(osl:Array (Option Value)),
  fd=fnOf x qual (uT st) (wV st) (zI st) dV kV doc pm an cdv ct/\K.lookup f=some ⟨oc,od,.func fd,osl⟩/\codeIn K cdv qual=true
 kp:keepIn K (.ref f)=true
section
variable{P:Program}{w:World}{K:Frag}{mg:Str->Option Value}{base:Heap}
theorem Af.ok(F:Af K x c st dV f j)(S:ao N ps (zI st))(g:∀vs H Q E,sp vs H Q E->vs.length=ps.length)(d:∀(b:Value) (A:Around) (a:List Env) (s:Shared) (H:Hp) (vs:List V) (Q:VK) (E:XK),bR k (A.deeper (adi c (zI st) s.heap.objs.size f b))->sp vs H Q E ->
   ∃t,nU (qj aN P w K mg base N c (zI st) f b A a s H E).Fd (wV st) t/\t { nx:=λ_ H'=>Q .non H',rt:=Q } (start N vs) H):aq P w K mg base aN (k+1) f j ps sp:=by
 obtain⟨oc,od,kV,doc,pm,an,b,ct,osl,rfl,m,i⟩:=F.ex
 refine Js m i S g λA a s H vs Q E l e=>?_
 obtain⟨t,h,q⟩:=d b A a s H vs Q E l e
 exact⟨t,h.Fd,q⟩
structure Cl(K:Frag)(mg:Str->Option Value)(C:Addr):Prop where
 cl:Cls K C
 nS:bK K C "steps"
 nM:bK K C "marks"
 nF:bK K C "fair"
 nB:bK K C "sources"
 mgC:mg "Machine" = some (.ref C)
theorem Oj:ao ["self","steps","marks","fair","given_marks","given_fair"] ["self","steps","marks","fair"] (zI XS):=⟨rfl,rfl,rfl,by decide +kernel,rfl,by decide +kernel,by decide +kernel⟩
theorem Vd:(["name","stands"]:List Str).Nodup:=by decide +kernel
theorem cG(f:Str)(v:V):∀fs:List (Str×V),(aH f v fs).length<=fs.length+1
 |[]=>aa0 _
 | (g,x)::r=>by
  unfold aH
  split
  ·grind
  ·exact acp (cG f v r)
theorem zRe:∀{vs:List V}{xss:List LI},A2 (rp K R) vs xss->∃bs:List Addr,vs=bs.map V.ref/\sS K R bs xss
 |[],[],_=>⟨[],rfl,rfl,λi b h=>by simp at h⟩
 |v::vs,a::xss,h=>by
  obtain⟨bs,e,h1,h2⟩:=zRe h.2
  obtain⟨p,c,rfl,h3,d⟩:=h.1
  have h5:c=a.map V.int:=d.vals
  refine⟨p::bs,by grind,by grind,λi b hb=>?_⟩
  cases i with
  |zero=>exact⟨a,rfl,aZ.of (by grind)⟩
  |succ i=>simp_all
 |[],_::_,h=>h.elim
 |_::_,[],h=>h.elim
noncomputable def RD(xss:LLI):Option LLI:=if xss.length<=60/\Xa xss.length xss then some (srcs xss) else none
theorem Ol(F:aW K "sources_of" "sources_of" XR f m)(B:Bl K mg):aq P w K mg base aN 1 f m ["steps"] (bY K false (λa:LLI×Unit=>([.fz false a.1]:SL K)) λa=>RD a.1):=by
 refine(Vb F B).imp λvs H Q E h=>?_
 obtain⟨⟨g,⟨⟩⟩,b,Fa,s,d,r,q⟩:=h
 have d:RD g=some b:=d
 unfold RD at d
 split at d
 case isFalse=>cases d
 rename_i j
 cases d
 cases r with
 |cons u t =>
  cases t
  obtain⟨a,ws,rfl,v,A⟩:=u
  obtain⟨z,rfl,x⟩:=zRe A
  refine⟨a,z,g,rfl,aZ.of (s _ _ v),x.same s,j.1,j.2,λk cs i y p e l R N=>q _ _ y ?_⟩
  refine⟨k,_,rfl,by show dif i H k=_;rw[xX p];exact e,?_⟩
  exact Gx l R λc n o e=>by show dif i H c=_;rw[xX (N c n)];exact e
theorem Om{fS:LLI->Option Unit}{fM:Em->Int->Option Unit}{fF:LLI->Int->Option Unit}{fC fO:LLI->Option LLI}(F:Af K "__init__" "Machine.__init__" XS dV f fd)(T:Cl K mg C)(B:Bl K mg)(CS:bw P w K mg base k "check_steps" ["steps"] (bY K false (λa:LLI×Unit=>([.fz false a.1]:SL K)) λa=>fS a.1))(CM:bw P w K mg base k "check_marks" ["marks","many"] (bY K false (λa:Em×Int×Unit=>([.fz false a.1,.fz false a.2.1]:SL K)) λa=>fM a.1 a.2.1))(CF:bw P w K mg base k "check_fair" ["fair","many"] (bY K false (λa:LLI×Int×Unit=>([.fz false a.1,.fz false a.2.1]:SL K)) λa=>fF a.1 a.2.1))(CC:bw P w K mg base k "copied" ["lists"] (bY K false (λa:LLI×Unit=>([.fz false a.1]:SL K)) λa=>fC a.1))(CO:bw P w K mg base k "sources_of" ["steps"] (bY K false (λa:LLI×Unit=>([.fz false a.1]:SL K)) λa=>fO a.1)) :
  aq P w K mg base aN (k+1) f fd ["self","steps","marks","fair"] (qF K C (Xl C fS fM fF fC fO)):=by
 refine F.ok Oj (λvs H Q E h=>?_) (λcdv A outer s H vs Q E hr h=>?_)
 ·obtain⟨p,dx,vS,vM,vF,xss,mo,fo,M,rfl,_⟩:=h
  rfl
 obtain⟨p,dx,vS,vM,vF,xss,mo,fo,M,rfl,hp,rS,rM,rF,hm,q⟩:=h
 unfold Xl at hm
 obtain⟨⟨⟩,e1,hm⟩:=uS hm
 obtain⟨⟨⟩,e2,hm⟩:=uS hm
 obtain⟨⟨⟩,e3,hm⟩:=uS hm
 obtain⟨a,e4,hm⟩:=uS hm
 obtain⟨b,e5,hm⟩:=uS hm
 obtain⟨c,e6,hm⟩:=uS hm
 obtain⟨d,e7,hm⟩:=uS hm
 cases hm
 refine⟨_,zB (Fi (i:=4) Oj.nd rfl (Or.inl rfl) (zM8 (Ji (Wj (pv 2))) (xY zF) (pv 2)))
  (zB (Fi (i:=5) Oj.nd rfl (Or.inl rfl) (zM8 (Ji (Wj (pv 3))) (xY zF) (pv 3)))
  (zB (yP (zY CS hr (zA (pv 1) zF)))
  (zB (yP (zY CM hr (zA (pv 4) (zA (zW (uA K) rfl B.len abe (zA (pv 1) zF)) zF))))
  (zB (yP (zY CF hr (zA (pv 5) (zA (zW (uA K) rfl B.len abe (zA (pv 1) zF)) zF))))
  (zB (DQ (pv 0) (zY CC hr (zA (pv 1) zF)) rfl)
  (zB (DQ (pv 0) (xH (own:=["name","stands"]) (ix:=[]) rfl rfl rfl (yL K (pv 4)) (λC s H fp=>Zv (K:=K) (n:=2) rfl rfl (yS (yE (i:=0) Vd rfl (Or.inl rfl)) (yS (yE (i:=1) Vd rfl (Or.inl rfl)) Bu))) (λC s H fp=>wJ)
   (λC s H fp=>uU (zA (pv 0) (zA (vC (GD K) rfl B.list Ej (zA (pv 1) zF)) zF)))) rfl)
  (zB (DQ (pv 0) (zY CC hr (zA (pv 5) zF)) rfl)
  (yG (DQ (pv 0) (zY CO hr (zA (Ww (pv 0) rfl) zF)) rfl))))))))),?_⟩
 have sg0:Sg (K:=K) ⟨hid H p,H⟩ (hid H p) [.fz false (iU.mk ():iU p),.fz false xss,.fz false mo,.fz false fo,.un,.un] [some (.ref p),some vS,some vM,some vF,none,none] H :=
  ⟨hid H p,[],.refl _,zXy (.fz (show rp K _ _ (iU.mk ():iU p) from rfl) (.fz rS (.fz rM (.fz rF (.un (.un .nil))))))⟩
 refine(Sn.of (yR false 4 rfl rfl (zXo (cg (md:=.hp) (W9 (zD 2 rfl))) (Eo.ex (zx (α:=Str×LI))) (Z0 (yM 2 rfl)))) (show _=some (mo.getD []) by cases mo<;>rfl)) _ rfl (hid H p) _ _ H sg0 λσ1 H1 sg1=>?_
 refine(Sn.of (yR false 5 rfl rfl (zXo (cg (md:=.hp) (W9 (zD 3 rfl))) (Eo.ex (zx (α:=LI))) (Z0 (yM 3 rfl)))) (show _=some (fo.getD []) by cases fo<;>rfl)) _ rfl (hid H p) _ _ H1 sg1 λσ2 H2 sg2=>?_
 refine(Sn.of (Rg (md:=.hp) (zJ (f:=λa:LLI×Unit=>fS a.1) (zE (zD 1 rfl) zL))) (show _=fS xss from rfl)) () e1 (hid H p) _ _ H2 sg2 λσ3 H3 sg3=>?_
 refine(Sn.of (Rg (md:=.hp) (zJ (f:=λa:Em×Int×Unit=>fM a.1 a.2.1) (zE (zD 4 rfl) (zE (Ex.sc (md:=.hp) (uW (zD 1 rfl))) zL)))) (show _=fM (mo.getD []) (xss.length:Int) from rfl)) () e2 (hid H p) _ _ H3 sg3 λσ4 H4 sg4=>?_
 refine(Sn.of (Rg (md:=.hp) (zJ (f:=λa:LLI×Int×Unit=>fF a.1 a.2.1) (zE (zD 5 rfl) (zE (Ex.sc (md:=.hp) (uW (zD 1 rfl))) zL)))) (show _=fF (fo.getD []) (xss.length:Int) from rfl)) () e3 (hid H p) _ _ H4 sg4 λσ5 H5 sg5=>?_
 obtain⟨F5,O5,g5,k5,s5⟩:=sg5
 have s5:ak (K:=K) ⟨hid H p,H⟩ F5 (lo F5 O5 H5) H5 [.fz false (iU.mk ():iU p),.fz false xss,.fz false mo,.fz false fo,.fz false (mo.getD []),.fz false (fo.getD [])] σ5 O5:=s5
 cases s5 with|fz r0 s5 =>
 cases s5 with|fz r1 s5 =>
 cases s5 with|fz r2 s5 =>
 cases s5 with|fz r3 s5 =>
 cases s5 with|fz r4 s5 =>
 cases s5 with|fz r5 s5 =>
 cases s5
 rename_i v0 v1 v2 v3 v4 v5
 have r0:v0=.ref p:=r0
 subst r0
 have hF:Same F5 (hid H5 p):=λb o e=>by
  by_cases z:b=p
  ·subst z
   rcases k5.fa b o e with z|z
   ·have z:hid H b b=some o:=z
    rw[Rq] at z
    cases z
   ·have z:H b=none:=z
    rw[hp] at z
    cases z
  ·rw[Nh z];exact k5.fh b o e
 have r1:rp K (hid H5 p) v1 xss:=Rp.mono hF r1
 have r2:rp K (hid H5 p) v2 mo:=Rp.mono hF r2
 have r3:rp K (hid H5 p) v3 fo:=Rp.mono hF r3
 have r4:rp K (hid H5 p) v4 (mo.getD []):=Rp.mono hF r4
 have r5:rp K (hid H5 p) v5 (fo.getD []):=Rp.mono hF r5
 have s05:Same H H5:=k5.h0
 have XM:H5 p=some (.ins C dx []):=s05 _ _ hp
 refine⟨_,rfl,(xss,()),a,H5,.refl _,e4,.cons (Rp.mono Uo r1) .nil,λy1 H6 s6 t1=>?_⟩
 have t1:rp K (dif H6 H5) y1 a:=t1
 have hp6:=s6 _ _ XM
 refine⟨_,rfl,p,C,dx,[],rfl,hp6,T.cl,T.nS,(by show 0<1000;decide),?_⟩
 have f1:=Rp.mono (Xm (H:=H) (p:=p) (λb o _ e=>s05 b o e) (by rw[XM];intro z;cases z)) t1
 have kp6:∀b o,b≠p->H b=some o->(upd H6 p (.ins C dx (aH "steps" y1 []))) b=some o:=λb o n e=>by rw[zT n];exact s6 _ _ (s05 _ _ e)
 have h6:Same (hid H5 p) (hid (upd H6 p (.ins C dx (aH "steps" y1 []))) p):=by rw[JL];exact Rr s6
 have E2:Ex (K:=K) ⟨hid (upd H6 p (.ins C dx (aH "steps" y1 []))) p,upd H6 p (.ins C dx (aH "steps" y1 []))⟩ [.fz false (iU.mk ():iU p),.fz false xss,.fz false mo,.fz false fo,.fz false (mo.getD []),.fz false (fo.getD [])] .nw _ _ :=
  (yU (n:=false) (fG:=[.un,.un]) (no:=2) (ix:=[]) rfl rfl (yN (yM 4 rfl)) (Mv 0 1 rfl rfl (λ_=>rfl) rfl) (λx=>u_) (λx=>W0 (zH 0 rfl) (Gs (zD 1 rfl)).ex) (λx=>sJ.un (sJ.un sJ.nil))).ex
 refine E2 b e5 (hid (upd H6 p (.ins C dx (aH "steps" y1 []))) p) [] _ _ _ (zXy (.fz (show rp K _ _ (iU.mk ():iU p) from rfl) (.fz (Rp.mono h6 r1) (.fz (Rp.mono h6 r2) (.fz (Rp.mono h6 r3) (.fz (Rp.mono h6 r4) (.fz (Rp.mono h6 r5) .nil))))))) λy2 F7 H7 g7 t2=>?_
 have s7:=g7.hh
 have t2:rp K (dif H7 (upd H6 p (.ins C dx (aH "steps" y1 [])))) y2 b:=Rp.mono (yZ g7.ok.fh) t2
 have hp7:H7 p=some (.ins C dx (aH "steps" y1 [])):=s7 _ _ zM
 refine⟨_,rfl,p,C,dx,_,rfl,hp7,T.cl,T.nM,(by show 1<1000;decide),?_⟩
 have f2:=Rp.mono (Xm (H:=H) (p:=p) kp6 (by rw[zM];intro z;cases z)) t2
 have kp7:∀b o,b≠p->H b=some o->(upd H7 p (.ins C dx (aH "marks" y2 (aH "steps" y1 [])))) b=some o:=λb o n e=>by rw[zT n];exact s7 _ _ (kp6 _ _ n e)
 have h7:Same (hid (upd H6 p (.ins C dx (aH "steps" y1 []))) p) (hid (upd H7 p (.ins C dx (aH "marks" y2 (aH "steps" y1 [])))) p):=by rw[JL (H:=H7)];exact Rr s7
 refine⟨_,rfl,(fo.getD [],()),c,_,.refl _,e6,.cons (Rp.mono (h6.trans (h7.trans Uo)) r5) .nil,λy3 H8 s8 t3=>?_⟩
 have t3:rp K (dif H8 (upd H7 p (.ins C dx (aH "marks" y2 (aH "steps" y1 []))))) y3 c:=t3
 have hp8:H8 p=some (.ins C dx (aH "marks" y2 (aH "steps" y1 []))):=s8 _ _ zM
 have l2:(aH "marks" y2 (aH "steps" y1 [])).length<1000:=by
  have a1:=cG "marks" y2 (aH "steps" y1 [])
  have a2:=cG "steps" y1 []
  have a3:([]:List (Str×V)).length=0:=rfl
  lia
 refine⟨_,rfl,p,C,dx,_,rfl,hp8,T.cl,T.nF,l2,?_⟩
 have f3:=Rp.mono (Xm (H:=H) (p:=p) kp7 (by rw[zM];intro z;cases z)) t3
 have kp8:∀b o,b≠p->H b=some o->(upd H8 p (.ins C dx (aH "fair" y3 (aH "marks" y2 (aH "steps" y1 []))))) b=some o:=λb o n e=>by rw[zT n];exact s8 _ _ (kp7 _ _ n e)
 have h8:Same (hid (upd H7 p (.ins C dx (aH "marks" y2 (aH "steps" y1 [])))) p) (hid (upd H8 p (.ins C dx (aH "fair" y3 (aH "marks" y2 (aH "steps" y1 []))))) p):=by rw[JL (H:=H8)];exact Rr s8
 have lk:(aH "fair" y3 (aH "marks" y2 (aH "steps" y1 []))).lookup ("steps":Str)=some y1:=by
  rw[zO,if_neg (by decide +kernel),zO,if_neg (by decide +kernel),zO,if_pos rfl]
 have d1:Same (dif (hid H6 p) (hid H p)) (hid (upd H8 p (.ins C dx (aH "fair" y3 (aH "marks" y2 (aH "steps" y1 []))))) p):=aV.trans ((by rw[JL];exact .refl _:Same (hid H6 p) (hid (upd H6 p (.ins C dx (aH "steps" y1 []))) p)).trans (h7.trans h8))
 refine⟨_,rfl,p,C,dx,_,_,rfl,zM,T.cl,T.nS,lk,(a,()),d,_,.refl _,e7,.cons (Rp.mono (d1.trans Uo) f1) .nil,λy4 H9 s9 t4=>?_⟩
 have t4:rp K (dif H9 (upd H8 p (.ins C dx (aH "fair" y3 (aH "marks" y2 (aH "steps" y1 [])))))) y4 d:=t4
 have hp9:H9 p=some (.ins C dx (aH "fair" y3 (aH "marks" y2 (aH "steps" y1 [])))):=s9 _ _ zM
 have l3:(aH "fair" y3 (aH "marks" y2 (aH "steps" y1 []))).length<1000:=by
  have a0:=cG "fair" y3 (aH "marks" y2 (aH "steps" y1 []))
  have a1:=cG "marks" y2 (aH "steps" y1 [])
  have a2:=cG "steps" y1 []
  have a3:([]:List (Str×V)).length=0:=rfl
  lia
 refine⟨_,rfl,p,C,dx,_,rfl,hp9,T.cl,T.nB,l3,?_⟩
 have f4:=Rp.mono (Xm (H:=H) (p:=p) kp8 (by rw[zM];intro z;cases z)) t4
 have kp9:∀b o,b≠p->H b=some o->(upd H9 p (.ins C dx (aH "sources" y4 (aH "fair" y3 (aH "marks" y2 (aH "steps" y1 [])))))) b=some o:=λb o n e=>by rw[zT n];exact s9 _ _ (kp8 _ _ n e)
 have u9:Same (hid H9 p) (upd H9 p (.ins C dx (aH "sources" y4 (aH "fair" y3 (aH "marks" y2 (aH "steps" y1 [])))))):=(by rw[JL];exact .refl _:Same (hid H9 p) (hid (upd H9 p (.ins C dx (aH "sources" y4 (aH "fair" y3 (aH "marks" y2 (aH "steps" y1 [])))))) p)).trans Uo
 have u8:Same (hid H8 p) (hid H9 p):=(by rw[JL];exact .refl _:Same (hid H8 p) (hid (upd H8 p (.ins C dx (aH "fair" y3 (aH "marks" y2 (aH "steps" y1 []))))) p)).trans (Rr s9)
 have u7:Same (hid H7 p) (hid H8 p):=(by rw[JL];exact .refl _:Same (hid H7 p) (hid (upd H7 p (.ins C dx (aH "marks" y2 (aH "steps" y1 [])))) p)).trans (Rr s8)
 have u6:Same (hid H6 p) (hid H7 p):=(by rw[JL];exact .refl _:Same (hid H6 p) (hid (upd H6 p (.ins C dx (aH "steps" y1 []))) p)).trans (Rr s7)
 refine q _ kp9 ⟨p,dx,aH "sources" y4 (aH "fair" y3 (aH "marks" y2 (aH "steps" y1 []))),y1,y2,y3,y4,rfl,?_,?_,Rp.mono (yZ (u6.trans (u7.trans (u8.trans u9)))) f1,?_,Rp.mono (yZ (u7.trans (u8.trans u9))) f2,?_,Rp.mono (yZ (u8.trans u9)) f3,?_,Rp.mono (yZ u9) f4,?_⟩
 ·rw[xX Rq];exact zM
 ·rw[zO,if_neg (by decide +kernel)];exact lk
 ·rw[zO,if_neg (by decide +kernel),zO,if_neg (by decide +kernel),zO,if_pos rfl]
 ·rw[zO,if_neg (by decide +kernel),zO,if_pos rfl]
 ·rw[zO,if_pos rfl]
 ·intro g hg
  simp only[Z2,mem_cons,List.not_mem_nil,or_false] at hg
  rcases hg with rfl|rfl|rfl|rfl|rfl|rfl<;>(rw[zO,if_neg (by decide +kernel),zO,if_neg (by decide +kernel),zO,if_neg (by decide +kernel),zO,if_neg (by decide +kernel)];rfl)
end
end Ts
namespace Sy
open PySem L2
abbrev zLj:Stmt:=Ts.lg
abbrev zRd:Stmt:=Ts.mj
abbrev zRc:Stmt:=Ts.mq
abbrev Oo:Stmt:=Ts.oK
abbrev CJ:Stmt:=Ts.nD
abbrev Oq:Stmt:=Ts.oM
abbrev zFp:Stmt:=Ts.jJ
abbrev zFs:Stmt:=Ts.jK
abbrev zC1:Stmt:=Ts.iD
abbrev zC2:Stmt:=Ts.iG
abbrev zFq:Stmt:=Ts.jN
abbrev zFt:Stmt:=Ts.jO
abbrev CK:Stmt:=Ts.nG
abbrev zLk:Stmt:=Ts.lq
abbrev zFo:Stmt:=Ts.jL
abbrev zFr:Stmt:=Ts.jM
section
variable{P:Program}{w:World}{K:Frag}{mg:Str->Option Value}{base:Heap}
theorem zUn:ao ["self","word","parts"] ["self","word","parts"] (zI zLj):=⟨rfl,rfl,rfl,by decide +kernel,rfl,by decide +kernel,by decide +kernel⟩
theorem zR8(F:aW K "__init__" "Saying.__init__" zLj f d):aq P w K mg base aN 1 f d ["self","word","parts"] (spS K):=by
 refine F.ok zUn (λc H Q E h=>?_) (λcdv A outer s H c Q E hr h=>?_)
 ·obtain⟨p,C,a,x,y,rfl,_⟩:=h
  rfl
 obtain⟨p,C,a,x,y,rfl,b,T,q⟩:=h
 refine⟨_,zB (DQ (pv 0) (pv 1) rfl) (yG (DQ (pv 0) (pv 2) rfl)),?_⟩
 refine⟨_,rfl,_,rfl,p,C,a,[],rfl,b,T.cl,T.nW,(by grind),_,rfl,_,rfl,p,C,a,_,rfl,zM,T.cl,T.nP,(by show 1<1000;decide),?_⟩
 exact q _ ((Kp.put p H _).trans (Kp.put p _ _)) zM
theorem HN:ao ["self","word","part"] ["self","word","part"] (zI zRd):=⟨rfl,rfl,rfl,by decide +kernel,rfl,by decide +kernel,by decide +kernel⟩
theorem zVe(F:aW K "__init__" "OfOne.__init__" zRd f u)(l:mg "Saying" = some (.ref D))(r:su K D "__init__" g)(G:aq P w K mg base aN 1 g j ["self","word","parts"] (spS K))(m:Binds K j ["self","word","parts"] []) :
  aq P w K mg base aN 2 f u ["self","word","part"] (tu K):=by
 refine F.ok HN (λo H Q E h=>?_) (λcdv A outer s H o Q E n h=>?_)
 ·obtain⟨p,C,c,x,v,rfl,_⟩:=h
  rfl
 obtain⟨p,C,c,x,v,rfl,d,T,q⟩:=h
 refine⟨_,zB (yP (vf rfl l r G n m .nil xZ (zA (pv 0) (zA (pv 1) (zA (uU (zA (pv 2) zF)) zF))))) (yG (DQ (pv 0) (pv 2) rfl)),?_⟩
 refine⟨_,rfl,_,rfl,_,rfl,(by show 1<=sizeLine;decide),λt a=>?_⟩
 have b:=au a (.tup [v]) _ _ d
 refine⟨p,C,c,_,_,rfl,b,T,λH' i k=>?_⟩
 have e:t≠p:=(zQ d a).symm
 refine⟨_,rfl,_,rfl,p,C,c,_,rfl,k,T.cl,T.n1,aa7 (XC x t) (by decide),?_⟩
 exact q t _ (((Kp.of (au a _)).trans i).trans (Kp.put p _ _)) a (by rw[zT e];exact i _ _ e zM) zM
theorem HS:ao ["self","word","left","right"] ["self","word","left","right"] (zI zRc):=⟨rfl,rfl,rfl,by decide +kernel,rfl,by decide +kernel,by decide +kernel⟩
theorem zVd(F:aW K "__init__" "OfTwo.__init__" zRc f y)(l:mg "Saying" = some (.ref D))(j:su K D "__init__" g)(G:aq P w K mg base aN 1 g r ["self","word","parts"] (spS K))(m:Binds K r ["self","word","parts"] []) :
  aq P w K mg base aN 2 f y ["self","word","left","right"] (Cw K):=by
 refine F.ok HS (λo H Q E h=>?_) (λcdv A outer s H o Q E n h=>?_)
 ·obtain⟨p,C,b,x,v,u,rfl,_⟩:=h
  rfl
 obtain⟨p,C,b,x,v,u,rfl,e,T,q⟩:=h
 refine⟨_,zB (yP (vf rfl l j G n m .nil xZ (zA (pv 0) (zA (pv 1) (zA (uU (zA (pv 2) (zA (pv 3) zF))) zF))))) (zB (DQ (pv 0) (pv 2) rfl) (yG (DQ (pv 0) (pv 3) rfl))),?_⟩
 refine⟨_,rfl,_,rfl,_,rfl,_,rfl,(by show 2<=sizeLine;decide),λt a=>?_⟩
 have c:=au a (.tup [v,u]) _ _ e
 refine⟨p,C,b,_,_,rfl,c,T,λH' i k=>?_⟩
 have d:t≠p:=(zQ e a).symm
 refine⟨_,rfl,_,rfl,p,C,b,_,rfl,k,T.cl,T.nL,aa7 (XC x t) (by decide),?_⟩
 refine⟨_,rfl,_,rfl,p,C,b,_,rfl,zM,T.cl,T.nR,aa7 (aa1 (cG "left" v _) (acp (XC x t))) (by decide),?_⟩
 exact q t _ ((((Kp.of (au a _)).trans i).trans (Kp.put p _ _)).trans (Kp.put p _ _)) a (by rw[zT d,zT d];exact i _ _ d zM) zM
theorem Ve:ao ["self"] ["self"] (zI Oo):=⟨rfl,rfl,rfl,by grind,rfl,by decide +kernel,by decide +kernel⟩
theorem Ot(F:aW K "__init__" "All.__init__" Oo f v)(T:gJ K C)(o:mg "Saying" = some (.ref D))(k:su K D "__init__" g)(G:aq P w K mg base aN 1 g m ["self","word","parts"] (spS K))(n:Binds K m ["self","word","parts"] []) :
  aq P w K mg base aN 2 f v ["self"] (U3 C):=by
 refine F.ok Ve (λr H Q E h=>?_) (λcdv A outer s H r Q E i h=>?_)
 ·obtain⟨p,e,rfl,_⟩:=h
  rfl
 obtain⟨p,e,rfl,c,q⟩:=h
 refine⟨_,yG (yP (vf rfl o k G i n .nil xZ (zA (pv 0) (zA zS (zA (uU zF) zF))))),?_⟩
 refine⟨_,rfl,(by grind),λt a=>?_⟩
 have b:=au a (.tup []) _ _ c
 have u:t≠p:=(zQ c a).symm
 exact⟨p,C,e,_,_,rfl,b,T,λj d l=>q t j ((Kp.of (au a _)).trans d) a (d _ _ u zM) l⟩
theorem Ou:ao ["self","name"] ["self","name"] (zI CJ):=⟨rfl,rfl,rfl,by decide +kernel,rfl,by decide +kernel,by decide +kernel⟩
theorem HW(F:aW K "__init__" "Mark.__init__" CJ f u)(T:gJ K C)(l:mg "Saying" = some (.ref D))(r:su K D "__init__" g)(G:aq P w K mg base aN 1 g j ["self","word","parts"] (spS K))(m:Binds K j ["self","word","parts"] []) :
  aq P w K mg base aN 2 f u ["self","name"] (U4 C):=by
 refine F.ok Ou (λo H Q E h=>?_) (λcdv A outer s H o Q E n h=>?_)
 ·obtain⟨p,c,x,rfl,_⟩:=h
  rfl
 obtain⟨p,c,x,rfl,d,q⟩:=h
 refine⟨_,zB (yP (vf rfl l r G n m .nil xZ (zA (pv 0) (zA (pv 1) (zA (uU zF) zF))))) (yG (DQ (pv 0) (pv 1) rfl)),?_⟩
 refine⟨_,rfl,_,rfl,(by grind),λt a=>?_⟩
 have b:=au a (.tup []) _ _ d
 have e:t≠p:=(zQ d a).symm
 refine⟨p,C,c,_,_,rfl,b,T,λH' i k=>?_⟩
 refine⟨_,rfl,_,rfl,p,C,c,_,rfl,k,T.cl,T.nN,aa7 (XC x t) (by decide),?_⟩
 exact q t _ (((Kp.of (au a _)).trans i).trans (Kp.put p _ _)) a (by rw[zT e];exact i _ _ e zM) zM
end
section
variable{P:Program}{w:World}{K:Frag}{mg:Str->Option Value}{base:Heap}
theorem Vf:ao ["self","part"] ["self","part"] (zI Oq):=⟨rfl,rfl,rfl,by decide +kernel,rfl,by decide +kernel,by decide +kernel⟩
theorem Ov(F:aW K "__init__" "Not.__init__" Oq f v)(T:gJ K C)(d:mg "OfOne" = some (.ref D))(n:su K D "__init__" g)(G:aq P w K mg base aN 2 g k ["self","word","part"] (tu K))(r:Binds K k ["self","word","part"] []) :
  aq P w K mg base aN 3 f v ["self","part"] (q_ C "not"):=by
 refine F.ok Vf (λu H Q E h=>?_) (λcdv A outer s H u Q E i h=>?_)
 ·obtain⟨p,a,c,rfl,_⟩:=h
  rfl
 obtain⟨p,a,c,rfl,b,q⟩:=h
 refine⟨_,yG (yP (vf rfl d n G i r .nil xZ (zA (pv 0) (zA zS (zA (pv 1) zF))))),?_⟩
 exact⟨_,rfl,_,rfl,p,C,a,_,_,rfl,b,T,λe m l t o j=>q e m l t o j⟩
theorem zOy:ao ["self","part"] ["self","part"] (zI zFp):=⟨rfl,rfl,rfl,by decide +kernel,rfl,by decide +kernel,by decide +kernel⟩
theorem zLw(F:aW K "__init__" "SomeNext.__init__" zFp f v)(T:gJ K C)(d:mg "OfOne" = some (.ref D))(n:su K D "__init__" g)(G:aq P w K mg base aN 2 g k ["self","word","part"] (tu K))(r:Binds K k ["self","word","part"] []) :
  aq P w K mg base aN 3 f v ["self","part"] (q_ C "somenext"):=by
 refine F.ok zOy (λu H Q E h=>?_) (λcdv A outer s H u Q E i h=>?_)
 ·obtain⟨p,a,c,rfl,_⟩:=h
  rfl
 obtain⟨p,a,c,rfl,b,q⟩:=h
 refine⟨_,yG (yP (vf rfl d n G i r .nil xZ (zA (pv 0) (zA zS (zA (pv 1) zF))))),?_⟩
 exact⟨_,rfl,_,rfl,p,C,a,_,_,rfl,b,T,λe m l t o j=>q e m l t o j⟩
theorem zO1:ao ["self","part"] ["self","part"] (zI zFs):=⟨rfl,rfl,rfl,by decide +kernel,rfl,by decide +kernel,by decide +kernel⟩
theorem zLz(F:aW K "__init__" "EachNext.__init__" zFs f v)(T:gJ K C)(d:mg "OfOne" = some (.ref D))(n:su K D "__init__" g)(G:aq P w K mg base aN 2 g k ["self","word","part"] (tu K))(r:Binds K k ["self","word","part"] []) :
  aq P w K mg base aN 3 f v ["self","part"] (q_ C "eachnext"):=by
 refine F.ok zO1 (λu H Q E h=>?_) (λcdv A outer s H u Q E i h=>?_)
 ·obtain⟨p,a,c,rfl,_⟩:=h
  rfl
 obtain⟨p,a,c,rfl,b,q⟩:=h
 refine⟨_,yG (yP (vf rfl d n G i r .nil xZ (zA (pv 0) (zA zS (zA (pv 1) zF))))),?_⟩
 exact⟨_,rfl,_,rfl,p,C,a,_,_,rfl,b,T,λe m l t o j=>q e m l t o j⟩
theorem zJt:ao ["self","part"] ["self","part"] (zI zC1):=⟨rfl,rfl,rfl,by decide +kernel,rfl,by decide +kernel,by decide +kernel⟩
theorem zIr(F:aW K "__init__" "SomeAlways.__init__" zC1 f v)(T:gJ K C)(d:mg "OfOne" = some (.ref D))(n:su K D "__init__" g)(G:aq P w K mg base aN 2 g k ["self","word","part"] (tu K))(r:Binds K k ["self","word","part"] []) :
  aq P w K mg base aN 3 f v ["self","part"] (q_ C "somealways"):=by
 refine F.ok zJt (λu H Q E h=>?_) (λcdv A outer s H u Q E i h=>?_)
 ·obtain⟨p,a,c,rfl,_⟩:=h
  rfl
 obtain⟨p,a,c,rfl,b,q⟩:=h
 refine⟨_,yG (yP (vf rfl d n G i r .nil xZ (zA (pv 0) (zA zS (zA (pv 1) zF))))),?_⟩
 exact⟨_,rfl,_,rfl,p,C,a,_,_,rfl,b,T,λe m l t o j=>q e m l t o j⟩
theorem zJu:ao ["self","part"] ["self","part"] (zI zC2):=⟨rfl,rfl,rfl,by decide +kernel,rfl,by decide +kernel,by decide +kernel⟩
theorem zIs(F:aW K "__init__" "EachAlways.__init__" zC2 f v)(T:gJ K C)(d:mg "OfOne" = some (.ref D))(n:su K D "__init__" g)(G:aq P w K mg base aN 2 g k ["self","word","part"] (tu K))(r:Binds K k ["self","word","part"] []) :
  aq P w K mg base aN 3 f v ["self","part"] (q_ C "eachalways"):=by
 refine F.ok zJu (λu H Q E h=>?_) (λcdv A outer s H u Q E i h=>?_)
 ·obtain⟨p,a,c,rfl,_⟩:=h
  rfl
 obtain⟨p,a,c,rfl,b,q⟩:=h
 refine⟨_,yG (yP (vf rfl d n G i r .nil xZ (zA (pv 0) (zA zS (zA (pv 1) zF))))),?_⟩
 exact⟨_,rfl,_,rfl,p,C,a,_,_,rfl,b,T,λe m l t o j=>q e m l t o j⟩
theorem zOz:ao ["self","part"] ["self","part"] (zI zFq):=⟨rfl,rfl,rfl,by decide +kernel,rfl,by decide +kernel,by decide +kernel⟩
theorem zLx(F:aW K "__init__" "SomeEver.__init__" zFq f v)(T:gJ K C)(d:mg "OfOne" = some (.ref D))(n:su K D "__init__" g)(G:aq P w K mg base aN 2 g k ["self","word","part"] (tu K))(r:Binds K k ["self","word","part"] []) :
  aq P w K mg base aN 3 f v ["self","part"] (q_ C "someever"):=by
 refine F.ok zOz (λu H Q E h=>?_) (λcdv A outer s H u Q E i h=>?_)
 ·obtain⟨p,a,c,rfl,_⟩:=h
  rfl
 obtain⟨p,a,c,rfl,b,q⟩:=h
 refine⟨_,yG (yP (vf rfl d n G i r .nil xZ (zA (pv 0) (zA zS (zA (pv 1) zF))))),?_⟩
 exact⟨_,rfl,_,rfl,p,C,a,_,_,rfl,b,T,λe m l t o j=>q e m l t o j⟩
theorem zO2:ao ["self","part"] ["self","part"] (zI zFt):=⟨rfl,rfl,rfl,by decide +kernel,rfl,by decide +kernel,by decide +kernel⟩
theorem zL0(F:aW K "__init__" "EachEver.__init__" zFt f v)(T:gJ K C)(d:mg "OfOne" = some (.ref D))(n:su K D "__init__" g)(G:aq P w K mg base aN 2 g k ["self","word","part"] (tu K))(r:Binds K k ["self","word","part"] []) :
  aq P w K mg base aN 3 f v ["self","part"] (q_ C "eachever"):=by
 refine F.ok zO2 (λu H Q E h=>?_) (λcdv A outer s H u Q E i h=>?_)
 ·obtain⟨p,a,c,rfl,_⟩:=h
  rfl
 obtain⟨p,a,c,rfl,b,q⟩:=h
 refine⟨_,yG (yP (vf rfl d n G i r .nil xZ (zA (pv 0) (zA zS (zA (pv 1) zF))))),?_⟩
 exact⟨_,rfl,_,rfl,p,C,a,_,_,rfl,b,T,λe m l t o j=>q e m l t o j⟩
theorem Ow:ao ["self","left","right"] ["self","left","right"] (zI CK):=⟨rfl,rfl,rfl,by decide +kernel,rfl,by decide +kernel,by decide +kernel⟩
theorem HX(F:aW K "__init__" "Both.__init__" CK f x)(T:gJ K C)(e:mg "OfTwo" = some (.ref D))(o:su K D "__init__" g)(G:aq P w K mg base aN 2 g l ["self","word","left","right"] (Cw K))(t:Binds K l ["self","word","left","right"] []) :
  aq P w K mg base aN 3 f x ["self","left","right"] (Ac C "both"):=by
 refine F.ok Ow (λv H Q E h=>?_) (λcdv A outer s H v Q E j h=>?_)
 ·obtain⟨p,a,c,d,rfl,_⟩:=h
  rfl
 obtain⟨p,a,c,d,rfl,b,q⟩:=h
 refine⟨_,yG (yP (vf rfl e o G j t .nil xZ (zA (pv 0) (zA zS (zA (pv 1) (zA (pv 2) zF)))))),?_⟩
 exact⟨_,rfl,_,rfl,_,rfl,p,C,a,_,_,_,rfl,b,T,λi n m u r k=>q i n m u r k⟩
theorem zUo:ao ["self","left","right"] ["self","left","right"] (zI zLk):=⟨rfl,rfl,rfl,by decide +kernel,rfl,by decide +kernel,by decide +kernel⟩
theorem zR9(F:aW K "__init__" "Either.__init__" zLk f x)(T:gJ K C)(e:mg "OfTwo" = some (.ref D))(o:su K D "__init__" g)(G:aq P w K mg base aN 2 g l ["self","word","left","right"] (Cw K))(t:Binds K l ["self","word","left","right"] []) :
  aq P w K mg base aN 3 f x ["self","left","right"] (Ac C "either"):=by
 refine F.ok zUo (λv H Q E h=>?_) (λcdv A outer s H v Q E j h=>?_)
 ·obtain⟨p,a,c,d,rfl,_⟩:=h
  rfl
 obtain⟨p,a,c,d,rfl,b,q⟩:=h
 refine⟨_,yG (yP (vf rfl e o G j t .nil xZ (zA (pv 0) (zA zS (zA (pv 1) (zA (pv 2) zF)))))),?_⟩
 exact⟨_,rfl,_,rfl,_,rfl,p,C,a,_,_,_,rfl,b,T,λi n m u r k=>q i n m u r k⟩
theorem zOx:ao ["self","left","right"] ["self","left","right"] (zI zFo):=⟨rfl,rfl,rfl,by decide +kernel,rfl,by decide +kernel,by decide +kernel⟩
theorem zLv(F:aW K "__init__" "SomeTill.__init__" zFo f x)(T:gJ K C)(e:mg "OfTwo" = some (.ref D))(o:su K D "__init__" g)(G:aq P w K mg base aN 2 g l ["self","word","left","right"] (Cw K))(t:Binds K l ["self","word","left","right"] []) :
  aq P w K mg base aN 3 f x ["self","left","right"] (Ac C "sometill"):=by
 refine F.ok zOx (λv H Q E h=>?_) (λcdv A outer s H v Q E j h=>?_)
 ·obtain⟨p,a,c,d,rfl,_⟩:=h
  rfl
 obtain⟨p,a,c,d,rfl,b,q⟩:=h
 refine⟨_,yG (yP (vf rfl e o G j t .nil xZ (zA (pv 0) (zA zS (zA (pv 1) (zA (pv 2) zF)))))),?_⟩
 exact⟨_,rfl,_,rfl,_,rfl,p,C,a,_,_,_,rfl,b,T,λi n m u r k=>q i n m u r k⟩
theorem zO0:ao ["self","left","right"] ["self","left","right"] (zI zFr):=⟨rfl,rfl,rfl,by decide +kernel,rfl,by decide +kernel,by decide +kernel⟩
theorem zLy(F:aW K "__init__" "EachTill.__init__" zFr f x)(T:gJ K C)(e:mg "OfTwo" = some (.ref D))(o:su K D "__init__" g)(G:aq P w K mg base aN 2 g l ["self","word","left","right"] (Cw K))(t:Binds K l ["self","word","left","right"] []) :
  aq P w K mg base aN 3 f x ["self","left","right"] (Ac C "eachtill"):=by
 refine F.ok zO0 (λv H Q E h=>?_) (λcdv A outer s H v Q E j h=>?_)
 ·obtain⟨p,a,c,d,rfl,_⟩:=h
  rfl
 obtain⟨p,a,c,d,rfl,b,q⟩:=h
 refine⟨_,yG (yP (vf rfl e o G j t .nil xZ (zA (pv 0) (zA zS (zA (pv 1) (zA (pv 2) zF)))))),?_⟩
 exact⟨_,rfl,_,rfl,_,rfl,p,C,a,_,_,_,rfl,b,T,λi n m u r k=>q i n m u r k⟩
end
open PySem L2 Ts
abbrev zW3:Stmt:=Ts.qH
abbrev J3:Stmt:=Ts.tE
abbrev zRb:Stmt:=Ts.oU
section
variable{P:Program}{w:World}{K:Frag}{mg:Str->Option Value}{base:Heap}
theorem vac(no:∀vs H Q E,¬sp vs H Q E):aq P w K mg base aN k f fd ps sp :=
 ⟨λvs H Q E h=>absurd h (no vs H Q E),λA outer s H args us vs Q E _ _ _ _ h=>absurd h (no vs H Q E)⟩
def Vg:Sp:=λd H Q _=>∃(a:Addr)(e:LI),d=[.ref a]/\H a=some (.lst (e.map V.int))/\∀(z:Int)(b:LI)(c:Hp),Kp a H c->c a=some (.lst (b.map V.int))->Q (.int z) c
end
section
variable{P:Program}{w:World}{K:Frag}{mg:Str->Option Value}{base:Heap}
def ZK(Z:Hp)(a:Addr)(H:Hp):Prop:=∀b o,Z b=some o->b≠a/\H b=some o
theorem ZK.kp(z:ZK Z a H)(k:Kp a H H'):ZK Z a H':=λb o e=>⟨(z b o e).1,k b o (z b o e).1 (z b o e).2⟩
theorem ZK.free(z:ZK Z a H)(h:H p=none):Z p=none:=by
 cases q:Z p with
 |none=>rfl
 |some o=>rw[(z p o q).2] at h;cases h
theorem ZK.new(z:ZK Z a H)(h:H p=none):dif (upd H p o) Z p=some o:=by rw[xX (z.free h)];exact zM
theorem bG.aah(h:bG (dif H Z) v t)(e:H a=some (.lst xs))(k:Kp a H H'):bG (dif H' Z) v t:=h.mono λc ys q=>by
 unfold dif at q ⊢
 cases b:Z c with
 |some u=>grind
 |none=>rw[b] at q;exact k c _ (λn=>by grind) q
def HY(K:Frag)(n:Nat):Sp:=λh H Q _=>∃(a b:Addr)(d:Nat)(g:LI)(f:List Str),h=[.ref a,.ref b,.int d]/\d<n/\H a=some (.lst (g.map V.int))/\aZ K H b (f.map V.str)/\b≠a/\f.length<=1000 /\
 ∃Z:Hp,ZK Z a H/\∀(v:V)(t:Tr)(e:LI)(c:Hp),Kp a H c->c a=some (.lst (e.map V.int))->bG (dif c Z) v t->t.depth<=d->Q v c
theorem Ag:ao ["_law_rest","_law_names","_law_deep","_law_cell_here","_law_way","_law_word","_law_left"] ["_law_rest","_law_names","_law_deep"] (zI zW3):=⟨rfl,rfl,rfl,by decide +kernel,rfl,by decide +kernel,by decide +kernel⟩
theorem Vh(h0:0<=c)(h1:c<7):∃i:Fin 7,aU [V.str "not",V.str "somenext",V.str "eachnext",V.str "somealways",V.str "eachalways",V.str "someever",V.str "eachever"] c=some (.str (w1 i)):=by
 have h:c=0\/c=1\/c=2\/c=3\/c=4\/c=5\/c=6:=by lia
 rcases h with rfl|rfl|rfl|rfl|rfl|rfl|rfl
 ·exact⟨0,rfl⟩
 ·exact⟨1,rfl⟩
 ·exact⟨2,rfl⟩
 ·exact⟨3,rfl⟩
 ·exact⟨4,rfl⟩
 ·exact⟨5,rfl⟩
 ·exact⟨6,rfl⟩
theorem Vi(h0:0<=c)(h1:c<4):∃i:Fin 4,aU [V.str "both",V.str "either",V.str "sometill",V.str "eachtill"] c=some (.str (w2 i)):=by
 have h:c=0\/c=1\/c=2\/c=3:=by lia
 rcases h with rfl|rfl|rfl|rfl
 ·exact⟨0,rfl⟩
 ·exact⟨1,rfl⟩
 ·exact⟨2,rfl⟩
 ·exact⟨3,rfl⟩
set_option maxHeartbeats 4000000 in
theorem J4(F:aW K "_law_grown" "_law_grown" zW3 f fd)(bF:Binds K fd ["_law_rest","_law_names","_law_deep"] [])(mF:mg "_law_grown" = some (.ref f))(GC:aq P w K mg base aN 1 g gd ["_law_rest"] Vg)(bC:Binds K gd ["_law_rest"] [])(kC:keepIn K (.ref g)=true)(mC:mg "_law_cell" = some (.ref g))(B:Bl K mg) :
  ∀n:Nat,aq P w K mg base aN (n+2) f fd ["_law_rest","_law_names","_law_deep"] (HY K n)
 |0=>vac λvs H Q E h=>by
  obtain⟨_,_,_,_,_,_,h,_⟩:=h
  exact ab7 _ h
 |n+1=>by
  have G:=J4 F bF mF GC bC kC mC B n
  refine F.ok Ag (λvs H Q E h=>?_) (λcdv A outer s H vs Q E hr h=>?_)
  ·obtain⟨a,b,d,ns,xs,rfl,_⟩:=h
   rfl
  obtain⟨a,b,d,ns,xs,rfl,hdn,hA,hB,hba,hxl,Z,hz,q⟩:=h
  refine⟨_,zB (Fi (i:=3) Ag.nd rfl (Or.inl rfl) (Lk (GC.mono (by omega)) hr rfl mC kC bC .nil xZ (zA (pv 0) zF)))
   (zB (Fi (i:=4) Ag.nd rfl (Or.inl rfl) (wK Bx (pv 3) zK))
   (zB (yQ (PW.pt (pw_or (zR ud (pv 2) zK (yK _)) (pw_or1 (zR Tc (pv 4) zK (yK _)))))
    (zB (yQ (PW.pt (pw_or (zR ud (pv 4) zK (yK _)) (pw_or1 (zR ud (zW uQ rfl B.len abe (zA (pv 1) zF)) zK (yK _))))) (yG (zN (uU (zA zS zF)))) zG)
     (yG (zN (uU (zA zS (zA (yD vG (pv 1) (wK Bx (wK Jq (pv 3) zK) (zW uQ rfl B.len abe (zA (pv 1) zF))) (λ_ _=>rfl)) zF)))))) zG)
   (zB (yQ (zR Tc (pv 4) zK (yK _))
    (zB (Fi (i:=5) Ag.nd rfl (Or.inl rfl) (yD vG (xY (zA zS (zA zS (zA zS (zA zS (zA zS (zA zS (zA zS zF)))))))) (wK Bx (wK Jq (pv 3) zK) zK) (λ_ _=>rfl)))
     (yG (zN (uU (zA (pv 5) (zA (Lk G hr rfl mF F.kp bF .nil xZ (zA (pv 0) (zA (pv 1) (zA (wK YH (pv 2) zK) zF)))) zF)))))) zG)
   (zB (Fi (i:=5) Ag.nd rfl (Or.inl rfl) (yD vG (xY (zA zS (zA zS (zA zS (zA zS zF))))) (wK Bx (wK Jq (pv 3) zK) zK) (λ_ _=>rfl)))
   (zB (Fi (i:=6) Ag.nd rfl (Or.inl rfl) (Lk G hr rfl mF F.kp bF .nil xZ (zA (pv 0) (zA (pv 1) (zA (wK YH (pv 2) zK) zF)))))
   (yG (zN (uU (zA (pv 5) (zA (pv 6) (zA (Lk G hr rfl mF F.kp bF .nil xZ (zA (pv 0) (zA (pv 1) (zA (wK YH (pv 2) zK) zF)))) zF))))))))))),?_⟩
  refine⟨_,rfl,a,ns,rfl,hA,λc X3 H1 k1 e1=>?_⟩
  have RG:=Xz hB hba k1
  have hz1:=hz.kp k1
  refine⟨_,rfl,_,_,rfl,rfl,(by show(0:Int)<16;decide),?_⟩
  have c0:=aee (c/16) (show(7:Int)≠0 by decide)
  have c1:=adq (c/16) (show(0:Int)<7 by decide)
  have c2:=aee (c/16) (show(4:Int)≠0 by decide)
  have c3:=adq (c/16) (show(0:Int)<4 by decide)
  have stop:∀{D:Ends},D.rt=Q->jF (zj (Yy (Wu (iQ YL (cP 4) (tC (.int 0)))) (Wu (iQ YL (xu (λxs H Q=>∃p ys,xs=[V.ref p]/\(aZ K H p ys\/cF K H p ys)/\Q (.int ys.length) H) (yW (cP 1) bI)) (tC (.int 0))))) (uh (zp (yW (tC (.str "all")) bI))) K1)
    (uh (zp (yW (tC (.str "mark")) (yW (iQ (uw K) (cP 1) (iQ (rI (λ_ j=>0<j) λi j=>.int (i%j)) (iQ (rI Ld λi j=>.int (i/j)) (cP 3) (tC (.int 16))) (xu (λxs H Q=>∃p ys,xs=[V.ref p]/\(aZ K H p ys\/cF K H p ys)/\Q (.int ys.length) H) (yW (cP 1) bI)))) bI)))) D
    [some (.ref a),some (.ref b),some (.int d),some (.int c),some (.int (c%16)),none,none] H1:=by
   intro D hD
   have J5:∀p,H1 p=none->D.rt (.ref p) (upd H1 p (.tup [.str "all"])):=λp hp=>by
    rw[hD]
    exact q _ .all X3 _ (k1.trans (Kp.of (au hp _))) (au hp _ _ _ e1) (.all (hz1.new hp)) (abg _)
   refine⟨_,rfl,rfl,_,rfl,?_⟩
   refine BW (λ_=>jW ⟨(by show 1<=sizeLine;decide),J5⟩) (λ_=>?_)
   refine⟨_,rfl,b,_,rfl,.inl RG,rfl,_,rfl,BW (λ_=>⟨(by show 1<=sizeLine;decide),J5⟩) (λhne=>?_)⟩
   have hx0:xs.length≠0:=λe=>hne (by rw[length_map,e];exact decide_eq_true rfl)
   have hpos:(0:Int)<((xs.map V.str).length:Int):=by rw[length_map];omega
   have d0:=aee (c/16) (show((xs.map V.str).length:Int)≠0 by omega)
   have d1:=adq (c/16) hpos
   rw[length_map] at d0 d1
   have hil:((c/16)%(xs.length:Int)).toNat<xs.length:=by omega
   have hat:aU (xs.map V.str) ((((c/16)%(xs.length:Int)).toNat:Nat):Int)=some (.str xs[((c/16)%(xs.length:Int)).toNat]):=Y9 (by rw[getElem?_map,aaz hil]<;>rfl)
   rw[show((((c/16)%(xs.length:Int)).toNat:Nat):Int)=(c/16)%(xs.length:Int) by omega] at hat
   refine⟨_,rfl,_,rfl,_,_,rfl,rfl,⟨by decide,by decide⟩,_,rfl,b,_,rfl,.inl RG,_,_,rfl,rfl,hpos,b,_,_,_,rfl,rfl,RG,(by rw[length_map];exact hat),(by show 2<=sizeLine;decide),λp hp=>?_⟩
   rw[hD]
   exact q _ (.mark _) X3 _ (k1.trans (Kp.of (au hp _))) (au hp _ _ _ e1) (.mark (hz1.new hp)) (abg _)
  refine⟨_,rfl,rfl,_,rfl,?_⟩
  refine BW (λ_=>jW (stop rfl)) (λhd0=>?_)
  have hd1:1<=d:=by
   have:¬((d:Int)=0):=λe=>hd0 (by rw[e];exact decide_eq_true rfl)
   omega
  refine⟨_,rfl,_,_,rfl,rfl,_,rfl,?_⟩
  refine BW (λ_=>stop rfl) (λ_=>?_)
  have dm:(d:Int)-1=((d-1:Nat):Int):=by omega
  refine⟨_,rfl,_,_,rfl,rfl,_,rfl,BW (λ_=>?_) (λ_=>?_)⟩
  ·obtain⟨i,hi⟩:=Vh c0 c1
   refine⟨(by show 7<=sizeLine;decide),λt0 h0=>?_⟩
   have k2:=Kp.of (p:=a) (au h0 (.lst [V.str "not",V.str "somenext",V.str "eachnext",V.str "somealways",V.str "eachalways",V.str "someever",V.str "eachever"]))
   have at0:a≠t0:=zQ e1 h0
   refine⟨_,rfl,_,_,rfl,rfl,⟨by decide,by decide⟩,_,_,rfl,rfl,(by show(0:Int)<7;decide),t0,_,_,_,rfl,rfl,aZ.of zM,hi,?_⟩
   refine⟨_,rfl,_,rfl,_,rfl,_,rfl,_,_,rfl,rfl,a,b,d-1,X3,xs,congrArg (λz=>[V.ref a,V.ref b,V.int z]) dm,by omega,by rw[zT at0];exact e1,Xz RG hba k2,hba,hxl,Z,hz1.kp k2,λv t ns2 H2 k3 e2 ht hdt=>?_⟩
   refine⟨(by show 2<=sizeLine;decide),λp hp=>?_⟩
   refine q _ (.one i t) ns2 _ (((k1.trans k2).trans k3).trans (Kp.of (au hp _))) (au hp _ _ _ e2) (.one (((hz1.kp k2).kp k3).new hp) (ht.same (yZ (au hp _)))) ?_
   show t.depth+1<=d
   omega
  ·obtain⟨i,hi⟩:=Vi c2 c3
   refine⟨(by show 4<=sizeLine;decide),λt0 h0=>?_⟩
   have k2:=Kp.of (p:=a) (au h0 (.lst [V.str "both",V.str "either",V.str "sometill",V.str "eachtill"]))
   have at0:a≠t0:=zQ e1 h0
   refine⟨_,rfl,_,_,rfl,rfl,⟨by decide,by decide⟩,_,_,rfl,rfl,(by show(0:Int)<4;decide),t0,_,_,_,rfl,rfl,aZ.of zM,hi,?_⟩
   refine⟨_,rfl,_,rfl,_,rfl,_,_,rfl,rfl,a,b,d-1,X3,xs,congrArg (λz=>[V.ref a,V.ref b,V.int z]) dm,by omega,by rw[zT at0];exact e1,Xz RG hba k2,hba,hxl,Z,hz1.kp k2,λv t ns2 H2 k3 e2 ht hdt=>?_⟩
   refine⟨_,rfl,_,rfl,_,rfl,_,rfl,_,rfl,_,_,rfl,rfl,a,b,d-1,ns2,xs,congrArg (λz=>[V.ref a,V.ref b,V.int z]) dm,by omega,e2,Xz RG hba (k2.trans k3),hba,hxl,Z,(hz1.kp k2).kp k3,λv' t' ns3 H3 k4 e3 ht' hdt'=>?_⟩
   refine⟨(by show 3<=sizeLine;decide),λp hp=>?_⟩
   have ht3:=(ht.aah e2 k4).same (yZ (au hp (.tup [V.str (w2 i),v,v'])))
   refine q _ (.two i t t') ns3 _ ((((k1.trans k2).trans k3).trans k4).trans (Kp.of (au hp _))) (au hp _ _ _ e3) (.two ((((hz1.kp k2).kp k3).kp k4).new hp) ht3 (ht'.same (yZ (au hp _)))) ?_
   show max t.depth t'.depth+1<=d
   omega
end
section
variable{P:Program}{w:World}{K:Frag}{mg:Str->Option Value}{base:Heap}{cl fi:Hd->Addr}{di:Hd->FuncData}
theorem Ox(d:Same Z H)(m:bx cl (dif H Z) c t)(g:σ[1]?=some (some (.ref c)))(k:∀(p:Addr) (H':Hp),Same H H'->bx cl (dif H' Z) p (.one i t)->Q (.ref p) H') :
  QT (cl (.one i)) (q_ (cl (.one i)) (w1 i)) [] E0 (yW (cP 1) bI) σ H Q:=by
 refine⟨_,g,?_⟩
 intro x f a b ne
 exact⟨x,f,.ref c,rfl,zM,λq H' e j n l=>⟨rfl,k x H' (NT a b e) (.one (by rw[xX (d.free a)];exact l) (by rw[xX (d.free ((U5 a b).free j))];exact n) (m.same (yZ (NT a b e))))⟩⟩
def Oz(cl:Hd->Addr):Sp:=λb H Q _=>∃(Z:Hp)(i:Fin 7)(c:Addr)(t:Tr),b=[.str (w1 i),.ref c]/\Same Z H/\bx cl (dif H Z) c t/\∀(p:Addr)(a:Hp),Same H a->bx cl (dif a Z) p (.one i t)->Q (.ref p) a
theorem aai:ao ["_law_word","_law_part"] ["_law_word","_law_part"] (zI zRb):=⟨rfl,rfl,rfl,by decide +kernel,rfl,by decide +kernel,by decide +kernel⟩
theorem fi7:∀i:Fin 7,i=0\/i=1\/i=2\/i=3\/i=4\/i=5\/i=6:=by decide
theorem fi4:∀i:Fin 4,i=0\/i=1\/i=2\/i=3:=by decide
theorem jQ(h:¬x=y):¬V.str x=V.str y:=λe=>h (V.str.inj e)
set_option maxHeartbeats 4000000 in
theorem Vj(F:aW K "_law_single" "_law_single" zRb f fd)(I:Ini P w K mg base 3 cl fi di):aq P w K mg base aN 5 f fd ["_law_word","_law_part"] (Oz cl):=by
 refine F.ok aai (λvs H Q E h=>?_) (λcdv A outer s H vs Q E hr h=>?_)
 ·obtain⟨_,i,c,t,rfl,_⟩:=h
  rfl
 obtain⟨Z,i,c,t,rfl,sz,hc,q⟩:=h
 refine⟨_,zB (yQ (zR ud (pv 0) zS (yK _)) (yG (zN (vQ (I.made (.one 0)) (I.i1 0) hr rfl (I.m1 0) (I.b1 0) .nil xZ (zA (pv 1) zF)))) zG)
  (zB (yQ (zR ud (pv 0) zS (yK _)) (yG (zN (vQ (I.made (.one 1)) (I.i1 1) hr rfl (I.m1 1) (I.b1 1) .nil xZ (zA (pv 1) zF)))) zG)
  (zB (yQ (zR ud (pv 0) zS (yK _)) (yG (zN (vQ (I.made (.one 2)) (I.i1 2) hr rfl (I.m1 2) (I.b1 2) .nil xZ (zA (pv 1) zF)))) zG)
  (zB (yQ (zR ud (pv 0) zS (yK _)) (yG (zN (vQ (I.made (.one 3)) (I.i1 3) hr rfl (I.m1 3) (I.b1 3) .nil xZ (zA (pv 1) zF)))) zG)
  (zB (yQ (zR ud (pv 0) zS (yK _)) (yG (zN (vQ (I.made (.one 4)) (I.i1 4) hr rfl (I.m1 4) (I.b1 4) .nil xZ (zA (pv 1) zF)))) zG)
  (zB (yQ (zR ud (pv 0) zS (yK _)) (yG (zN (vQ (I.made (.one 5)) (I.i1 5) hr rfl (I.m1 5) (I.b1 5) .nil xZ (zA (pv 1) zF)))) zG)
  (yG (zN (vQ (I.made (.one 6)) (I.i1 6) hr rfl (I.m1 6) (I.b1 6) .nil xZ (zA (pv 1) zF))))))))),?_⟩
 rcases fi7 i with rfl|rfl|rfl|rfl|rfl|rfl|rfl
 ·exact⟨_,rfl,rfl,_,rfl,z_ rfl (Ox sz hc rfl q)⟩
 ·exact⟨_,rfl,rfl,_,rfl,cN (jQ (by decide +kernel)) ⟨_,rfl,rfl,_,rfl,z_ rfl (Ox sz hc rfl q)⟩⟩
 ·exact⟨_,rfl,rfl,_,rfl,cN (jQ (by decide +kernel)) ⟨_,rfl,rfl,_,rfl,cN (jQ (by decide +kernel)) ⟨_,rfl,rfl,_,rfl,z_ rfl (Ox sz hc rfl q)⟩⟩⟩
 ·exact⟨_,rfl,rfl,_,rfl,cN (jQ (by decide +kernel)) ⟨_,rfl,rfl,_,rfl,cN (jQ (by decide +kernel)) ⟨_,rfl,rfl,_,rfl,cN (jQ (by decide +kernel)) ⟨_,rfl,rfl,_,rfl,z_ rfl (Ox sz hc rfl q)⟩⟩⟩⟩
 ·exact⟨_,rfl,rfl,_,rfl,cN (jQ (by decide +kernel)) ⟨_,rfl,rfl,_,rfl,cN (jQ (by decide +kernel)) ⟨_,rfl,rfl,_,rfl,cN (jQ (by decide +kernel)) ⟨_,rfl,rfl,_,rfl,cN (jQ (by decide +kernel)) ⟨_,rfl,rfl,_,rfl,z_ rfl (Ox sz hc rfl q)⟩⟩⟩⟩⟩
 ·exact⟨_,rfl,rfl,_,rfl,cN (jQ (by decide +kernel)) ⟨_,rfl,rfl,_,rfl,cN (jQ (by decide +kernel)) ⟨_,rfl,rfl,_,rfl,cN (jQ (by decide +kernel)) ⟨_,rfl,rfl,_,rfl,cN (jQ (by decide +kernel)) ⟨_,rfl,rfl,_,rfl,cN (jQ (by decide +kernel)) ⟨_,rfl,rfl,_,rfl,z_ rfl (Ox sz hc rfl q)⟩⟩⟩⟩⟩⟩
 ·exact⟨_,rfl,rfl,_,rfl,cN (jQ (by decide +kernel)) ⟨_,rfl,rfl,_,rfl,cN (jQ (by decide +kernel)) ⟨_,rfl,rfl,_,rfl,cN (jQ (by decide +kernel)) ⟨_,rfl,rfl,_,rfl,cN (jQ (by decide +kernel)) ⟨_,rfl,rfl,_,rfl,cN (jQ (by decide +kernel)) ⟨_,rfl,rfl,_,rfl,cN (jQ (by decide +kernel)) (Ox sz hc rfl q)⟩⟩⟩⟩⟩⟩
def OD(cl:Hd->Addr)(n:Nat):Sp:=λb H Q _=>∃(Z:Hp)(v:V)(t:Tr),b=[v]/\Same Z H/\bG H v t/\t.depth<n/\t.depth<8/\∀(p:Addr)(a:Hp),Same H a->bx cl (dif a Z) p t->Q (.ref p) a
theorem Vk:ao ["_law_tree","_law_parts"] ["_law_tree"] (zI J3):=⟨rfl,rfl,rfl,by decide +kernel,rfl,by decide +kernel,by decide +kernel⟩
theorem aaj:(["_law_part"]:List Str).Nodup:=by grind
theorem zC8(s:Same H H'):∀{a:List Addr}{ts:List Tr},Paired (bx cl H) a ts->Paired (bx cl H') a ts
 |_,_,.nil=>.nil
 |_,_,.cons r t=>.cons (r.same s) (zC8 s t)
theorem zRr{α β:Type}{F:α->β->Prop}{ts:List β}{a:List α}{t:β}{c:α}(h:Paired F a (ts.take i))(b:ts[i]?=some t)(f:F c t):Paired F (a++[c]) (ts.take (i+1)):=by
 rw[take_add_one,b]
 exact afk h f
theorem zHj(D:Same Z H)(f:cF K H b vs)(z:Paired (bG H) vs ts)(hd:∀t∈ts,t.depth<n/\t.depth<8)(hz:vs.length<=2)(k:∀(l:Addr) (c:List Addr) (H':Hp),Same H H'->H' l=some (.lst (c.map V.ref))->H l=none->Paired (bx cl (dif H' Z)) c ts->Q (.ref l) H') :
  QZ 1 [] (qd 0) zu (Bh (OD cl n) [] E0 (yW (cP 0) bI)) σ Q (K8 K b) H:=by
 have hln:=z.length
 refine zWd (K:=K) (a:=b) (xs:=vs) (λi j σ h=>∃(c:List Addr)(v:Option V),j=c.map V.ref/\σ=[v]/\Same H h/\Paired (bx cl (dif h Z)) c (ts.take i)/\c.length=i)
  ⟨[],none,rfl,rfl,Same.refl H,.nil,rfl⟩ (λi j σ h _ ⟨c,v,e,_,d,_,x⟩=>⟨?_,by grind⟩) (Zf (by lia)) ?_ ?_
 ·rcases f with(f|⟨o,f⟩)|f
  ·exact .inl (.inl (d _ _ f))
  ·exact .inl (.inr ⟨o,d _ _ f⟩)
  ·exact .inr f
 ·rintro i y j σ h x ⟨c,v,rfl,rfl,d,m,q⟩
  obtain⟨t,s,r⟩:=U_ z x
  obtain⟨A,B⟩:=hd t (mem_of_getElem? s)
  refine zNh ?_
  refine⟨_,rfl,Z,_,t,rfl,D.trans d,r.same d,A,B,λp H3 u C=>?_⟩
  exact⟨c++[p],_,by rw[map_append]<;>rfl,rfl,d.trans u,zRr (zC8 (yZ u) m) s C,by grind⟩
 ·rintro j σ h ⟨c,v,rfl,rfl,d,m,q⟩ p g
  have e:ts.take vs.length=ts:=by grind
  rw[e] at m
  exact k p c _ (d.trans (au g _)) zM (d.free g) (zC8 (yZ (au g _)) m)
theorem X4(j:Same Z H)(g:H l=some (.lst [V.ref c,V.ref d]))(o:bx cl (dif H Z) c t)(hd:bx cl (dif H Z) d u)(f:σ[1]?=some (some (.ref l)))(k:∀(p:Addr) (H':Hp),Same H H'->bx cl (dif H' Z) p (.two i t u)->Q (.ref p) H') :
  QT (cl (.two i)) (Ac (cl (.two i)) (w2 i)) [] E0 (yW (iQ (uw K) (cP 1) (tC (.int 0))) (yW (iQ (uw K) (cP 1) (tC (.int 1))) bI)) σ H Q:=by
 refine⟨_,f,l,_,_,_,rfl,rfl,aZ.of g,rfl,_,f,l,_,_,_,rfl,rfl,aZ.of g,rfl,?_⟩
 intro x s a b ne
 exact⟨x,s,.ref c,.ref d,rfl,zM,λq H' e n m r=>⟨rfl,k x H' (NT a b e) (.two (by rw[xX (j.free a)];exact r) (by rw[xX (j.free ((U5 a b).free n))];exact m) (o.same (yZ (NT a b e))) (hd.same (yZ (NT a b e))))⟩⟩
set_option maxHeartbeats 8000000 in
theorem J6(F:aW K "_law_made" "_law_made" J3 f fd)(bF:Binds K fd ["_law_tree"] [])(mF:mg "_law_made" = some (.ref f))(I:Ini P w K mg base 3 cl fi di)(GS:aq P w K mg base aN 5 g gd ["_law_word","_law_part"] (Oz cl))(bS:Binds K gd ["_law_word","_law_part"] [])(kS:keepIn K (.ref g)=true)(mS:mg "_law_single" = some (.ref g))(B:Bl K mg) :
  ∀n:Nat,aq P w K mg base aN (n+5) f fd ["_law_tree"] (OD cl n)
 |0=>vac λvs H Q E h=>by
  obtain⟨_,_,_,_,_,_,h,_⟩:=h
  exact ab7 _ h
 |n+1=>by
  have G:=J6 F bF mF I GS bS kS mS B n
  refine F.ok Vk (λvs H Q E h=>?_) (λcdv A outer s H vs Q E hr h=>?_)
  ·obtain⟨_,v,t,rfl,_⟩:=h
   rfl
  obtain⟨Z,v,t,rfl,sz,hT,hn,h8,q⟩:=h
  have hu:=hr.units
  have RJ:bR 4 _:=hr.mono (show 4<=n+5 by omega)
  refine⟨_,zB (yQ (zR ud (yD DX (pv 0) zK (λ_ _=>rfl)) zS (yK _)) (yG (zN (zU1 (I.made .all) I.iA RJ rfl I.mA I.bA .nil xZ))) zG)
   (zB (yQ (zR ud (yD DX (pv 0) zK (λ_ _=>rfl)) zS (yK _)) (yG (zN (vQ (I.made .mark) I.iM RJ rfl I.mM I.bM .nil xZ (zA (yD DX (pv 0) zK (λ_ _=>rfl)) zF)))) zG)
   (zB (BZ (i:=1) (own:=["_law_part"]) (ix:=[]) Vk.nd rfl rfl rfl rfl rfl (YD (WR zW1 (pv 0) (WM zK) WL)) (λC s H fp=>yE (i:=0) aaj rfl (Or.inl rfl)) (λC s H fp=>wJ)
    (λC s H fp=>Lk G hr rfl mF F.kp bF .nil xZ (zA (pv 0) zF)))
   (zB (Ml (yQ (PW.pt (pw_and (zR ud (zW uQ rfl B.len abe (zA (pv 0) zF)) zK (yK _)) (pw_and1 (zR (HJ hu) (yD DX (pv 0) zK (λ_ _=>rfl)) (yD DX (pv 0) zK (λ_ _=>rfl)) (yK _)))))
    (yG (Jl (yD vG (pv 1) zK (λ_ _=>rfl)) (QL (pv 1) zK LQ))) zG))
   (zB (yQ (zR ud (zW uQ rfl B.len abe (zA (pv 0) zF)) zK (yK _)) (yG (zN (Lk (GS.mono (show 5<=n+5 by omega)) hr rfl mS kS bS .nil xZ (zA (yD DX (pv 0) zK (λ_ _=>rfl)) (zA (yD vG (pv 1) zK (λ_ _=>rfl)) zF))))) zG)
   (zB (yQ (zR ud (yD DX (pv 0) zK (λ_ _=>rfl)) zS (yK _)) (yG (zN (vQ (I.made (.two 0)) (I.i2 0) RJ rfl (I.m2 0) (I.b2 0) .nil xZ (zA (yD vG (pv 1) zK (λ_ _=>rfl)) (zA (yD vG (pv 1) zK (λ_ _=>rfl)) zF))))) zG)
   (zB (yQ (zR ud (yD DX (pv 0) zK (λ_ _=>rfl)) zS (yK _)) (yG (zN (vQ (I.made (.two 1)) (I.i2 1) RJ rfl (I.m2 1) (I.b2 1) .nil xZ (zA (yD vG (pv 1) zK (λ_ _=>rfl)) (zA (yD vG (pv 1) zK (λ_ _=>rfl)) zF))))) zG)
   (zB (yQ (zR ud (yD DX (pv 0) zK (λ_ _=>rfl)) zS (yK _)) (yG (zN (vQ (I.made (.two 2)) (I.i2 2) RJ rfl (I.m2 2) (I.b2 2) .nil xZ (zA (yD vG (pv 1) zK (λ_ _=>rfl)) (zA (yD vG (pv 1) zK (λ_ _=>rfl)) zF))))) zG)
   (yG (zN (vQ (I.made (.two 3)) (I.i2 3) RJ rfl (I.m2 3) (I.b2 3) .nil xZ (zA (yD vG (pv 1) zK (λ_ _=>rfl)) (zA (yD vG (pv 1) zK (λ_ _=>rfl)) zF)))))))))))),?_⟩
  cases hT with
  |@all a h1 =>
   refine⟨_,rfl,a,_,_,_,rfl,rfl,cF.of h1,rfl,rfl,_,rfl,z_ rfl ?_⟩
   intro x dx nx nd ne
   exact⟨x,dx,rfl,zM,λq0 H' k1 f0 e1 e2=>⟨rfl,q x H' (NT nx nd k1) (.all (by rw[xX (sz.free nx)];exact e2) (by rw[xX (sz.free ((U5 nx nd).free f0))];exact e1))⟩⟩
  |@mark a x0 h1 =>
   refine⟨_,rfl,a,_,_,_,rfl,rfl,cF.of h1,rfl,rfl,_,rfl,cN (jQ zVk) ?_⟩
   refine⟨_,rfl,a,_,_,_,rfl,rfl,cF.of h1,rfl,rfl,_,rfl,z_ rfl ?_⟩
   refine⟨_,rfl,a,_,_,_,rfl,rfl,cF.of h1,rfl,?_⟩
   intro x dx nx nd ne
   exact⟨x,dx,.str x0,rfl,zM,λq0 H' k1 f0 e1 e2=>⟨rfl,q x H' (NT nx nd k1) (.mark (by rw[xX (sz.free nx)];exact e2) (by rw[xX (sz.free ((U5 nx nd).free f0))];exact e1))⟩⟩
  |@one a i v t h1 ht =>
   have hd1:t.depth+1<n+1:=hn
   have hd8:t.depth+1<8:=h8
   refine⟨_,rfl,a,_,_,_,rfl,rfl,cF.of h1,rfl,rfl,_,rfl,cN (jQ (Og i)) ?_⟩
   refine⟨_,rfl,a,_,_,_,rfl,rfl,cF.of h1,rfl,rfl,_,rfl,cN (jQ (zLd i)) ?_⟩
   refine⟨_,rfl,1,rfl,a,_,rfl,cF.of h1,(by show¬(1=0/\2=2);decide),λb hb=>⟨b,rfl,⟨_,cF.of zM⟩,?_⟩⟩
   have s1:=au hb (.tup [v])
   refine zHj (n:=n) (vs:=[v]) (ts:=[t]) (sz.trans s1) (cF.of zM) (.cons (ht.same s1) .nil) (λt' h'=>by
    have e:t'=t:=by simpa using h'
    subst e
    exact⟨by omega,by omega⟩) (by show 1<=2;decide) λl cs H2 s2 e2 f2 hp=>?_
   cases hp with
   |@cons c _ _ _ hc hnil =>
    cases hnil
    have hA:=s2 _ _ (s1 _ _ h1)
    refine⟨λσ H3=>σ=[some (.ref a),some (.ref l)]/\H3=H2,?_,?_⟩
    ·refine⟨_,rfl,a,_,rfl,.inr (cF.of hA),rfl,_,rfl,?_⟩
     refine cN (by intro z;injection z with z;have z':((2:Nat):Int)=3:=z;omega) ?_
     exact⟨rfl,rfl⟩
    rintro σ H3 ⟨rfl,rfl⟩
    refine⟨_,rfl,a,_,rfl,.inr (cF.of hA),rfl,_,rfl,z_ rfl ?_⟩
    refine⟨_,rfl,a,_,_,_,rfl,rfl,cF.of hA,rfl,_,rfl,l,_,_,_,rfl,rfl,aZ.of e2,rfl,Z,i,c,t,rfl,sz.trans (s1.trans s2),hc,λp H4 s4 hs=>?_⟩
    exact q p H4 (s1.trans (s2.trans s4)) hs
  |@two a i v u t t' h1 ht ht' =>
   have hd1:max t.depth t'.depth+1<n+1:=hn
   have hd8:max t.depth t'.depth+1<8:=h8
   refine⟨_,rfl,a,_,_,_,rfl,rfl,cF.of h1,rfl,rfl,_,rfl,cN (jQ (Oh i)) ?_⟩
   refine⟨_,rfl,a,_,_,_,rfl,rfl,cF.of h1,rfl,rfl,_,rfl,cN (jQ (HF i)) ?_⟩
   refine⟨_,rfl,1,rfl,a,_,rfl,cF.of h1,(by show¬(1=0/\3=3);decide),λb hb=>⟨b,rfl,⟨_,cF.of zM⟩,?_⟩⟩
   have s1:=au hb (.tup [v,u])
   refine zHj (n:=n) (vs:=[v,u]) (ts:=[t,t']) (sz.trans s1) (cF.of zM) (.cons (ht.same s1) (.cons (ht'.same s1) .nil)) (λt0 h'=>by
    have e:t0=t\/t0=t':=by simpa using h'
    rcases e with rfl|rfl
    ·exact⟨by omega,by omega⟩
    ·exact⟨by omega,by omega⟩) (by show 2<=2;decide) λl cs H2 s2 e2 f2 hp=>?_
   cases hp with
   |@cons c _ _ _ hc hrest =>
    cases hrest with
    |@cons d _ _ _ hd hnil =>
     cases hnil
     have hA:=s2 _ _ (s1 _ _ h1)
     have ht2:=(ht.same s1).same s2
     have aak:=(ht'.same s1).same s2
     refine⟨λσ H3=>σ=[some (.ref a),some (.ref l)]/\∃d',Kp l H2 H3/\H3 l=some (.lst [V.ref c,V.ref d'])/\bx cl (dif H2 Z) d' t',?_,?_⟩
     ·refine⟨_,rfl,a,_,rfl,.inr (cF.of hA),rfl,_,rfl,z_ rfl ?_⟩
      refine⟨_,rfl,a,_,_,_,rfl,rfl,cF.of hA,rfl,_,rfl,a,_,_,_,rfl,rfl,cF.of hA,rfl,t,t',ht2,aak,by omega,λb hb=>⟨_,rfl,?_⟩⟩
      cases b with
      |true =>
       refine jW ?_
       refine⟨_,rfl,l,_,_,_,rfl,rfl,aZ.of e2,rfl,_,rfl,l,_,_,_,rfl,rfl,e2,rfl,rfl,c,Kp.put l H2 _,zM,?_⟩
       rw[<-hb rfl]
       exact hc
      |false =>
       refine m_ ?_
       exact⟨rfl,d,λb o _ e=>e,e2,hd⟩
     rintro σ H3 ⟨rfl,d',k3,e3,hd'⟩
     have s3:Same H H3:=λb o e=>k3 b o (zQ e (s1.free f2)) ((s1.trans s2) b o e)
     have Es:H3 a=some (.tup [V.str (w2 i),v,u]):=s3 _ _ h1
     have dk:∀{b:Addr}{o:HO},(∀xs,o≠.lst xs)->dif H2 Z b=some o->dif H3 Z b=some o:=λ{b o} no e=>by
      unfold dif at e ⊢
      cases hz:Z b with
      |some u=>rw[hz] at e;cases e
      |none=>rw[hz] at e;exact k3 b o (λq=>by subst q;rw[e2] at e;exact no _ (aa5 e).symm) e
     have Vl:∀{p:Addr}{t0:Tr},bx cl (dif H2 Z) p t0->bx cl (dif H3 Z) p t0:=λ{p t0} h0=>by
      induction h0 with
      |all g1 g2=>exact .all (dk (by intro _ z;cases z) g1) (dk (by intro _ z;cases z) g2)
      |mark g1 g2=>exact .mark (dk (by intro _ z;cases z) g1) (dk (by intro _ z;cases z) g2)
      |one g1 g2 _ ih=>exact .one (dk (by intro _ z;cases z) g1) (dk (by intro _ z;cases z) g2) ih
      |two g1 g2 _ _ ih1 ih2=>exact .two (dk (by intro _ z;cases z) g1) (dk (by intro _ z;cases z) g2) ih1 ih2
     have hc3:=Vl hc
     have X5:=Vl hd'
     have fin:∀(p:Addr)(H4:Hp),Same H3 H4->bx cl (dif H4 Z) p (.two i t t')->Q (.ref p) H4:=λp H4 s4 hs=>q p H4 (s3.trans s4) hs
     refine⟨_,rfl,a,_,rfl,.inr (cF.of Es),rfl,_,rfl,cN (by intro z;injection z with z;have z':((3:Nat):Int)=2:=z;omega) ?_⟩
     rcases fi4 i with rfl|rfl|rfl|rfl
     ·exact⟨_,rfl,a,_,_,_,rfl,rfl,cF.of Es,rfl,rfl,_,rfl,z_ rfl (X4 (sz.trans s3) e3 hc3 X5 rfl fin)⟩
     ·exact⟨_,rfl,a,_,_,_,rfl,rfl,cF.of Es,rfl,rfl,_,rfl,cN (jQ (by decide +kernel)) ⟨_,rfl,a,_,_,_,rfl,rfl,cF.of Es,rfl,rfl,_,rfl,z_ rfl (X4 (sz.trans s3) e3 hc3 X5 rfl fin)⟩⟩
     ·exact⟨_,rfl,a,_,_,_,rfl,rfl,cF.of Es,rfl,rfl,_,rfl,cN (jQ (by decide +kernel)) ⟨_,rfl,a,_,_,_,rfl,rfl,cF.of Es,rfl,rfl,_,rfl,cN (jQ (by decide +kernel)) ⟨_,rfl,a,_,_,_,rfl,rfl,cF.of Es,rfl,rfl,_,rfl,z_ rfl (X4 (sz.trans s3) e3 hc3 X5 rfl fin)⟩⟩⟩
     ·exact⟨_,rfl,a,_,_,_,rfl,rfl,cF.of Es,rfl,rfl,_,rfl,cN (jQ (by decide +kernel)) ⟨_,rfl,a,_,_,_,rfl,rfl,cF.of Es,rfl,rfl,_,rfl,cN (jQ (by decide +kernel)) ⟨_,rfl,a,_,_,_,rfl,rfl,cF.of Es,rfl,rfl,_,rfl,cN (jQ (by decide +kernel)) (X4 (sz.trans s3) e3 hc3 X5 rfl fin)⟩⟩⟩
end
end Sy
namespace Ts
open PySem L2 Sy
structure gn where
 t:Tr
section
variable{P:Program}{w:World}{K:Frag}{mg:Str->Option Value}{base:Heap}{B:Bs}{sl:SL K}{md:Md}{cl:Hd->Addr}{te t1 t2 t3:TE}
instance:Rp K gn:=⟨λF v x=>bG F v x.t,λs h=>h.same s⟩
def ExA(B:Bs)(sl:SL K)(md:Md)(t:TE){α:Type}[Rp K α](P:α->Prop):Prop :=
 ∀(F:Hp)(O:Own)(H:Hp)(σ:St)(Q:VK),At B sl F O H σ->(∀a,P a->∀(v:V)(c b:Hp),bJ B F H O c b->rp K (reg B c b md) v a->Q v b)->t σ H Q
theorem zS1{L:Option LI}{M:Option (List Str)}{ws:LI}{xs:List Str}{d n:Nat}{G:Int}(h1:Eo B sl .fz t1 L)(e1:L=some ws)(h2:Ex B sl .fz t2 M)(e2:M=some xs)(T:xs.length<=1000)(h3:Ex B sl .hp t3 (some G))(Y:G=(d:Int))(dn:d<n) :
  ExA B sl md (Bh (HY K n) [] E0 (yW t1 (yW t2 (yW t3 bI)))) (λx:gn=>x.t.depth<=d):=λF O H σ Q z k=>by
 subst Y
 refine h1 ws e1 F O H σ _ z λp vs A a j C r=>?_
 have Z:vs=ws.map V.int:=A2.n6 r
 subst Z
 have y:=z.grow j
 have g:=y.grow (zVv j.ok C (.lst (ws.map V.int)))
 refine h2 xs e2 A O _ σ _ g λv2 m I h r2=>?_
 refine h3 _ rfl m O I σ _ (g.grow h) λv3 F3 R u s=>?_
 have s:v3=.int d:=s
 obtain⟨b,bs,rfl,b1,b2⟩:=r2
 have S:bs=xs.map V.str:=A2.n6 b2
 subst S
 have X:upd a p (.lst (ws.map V.int)) p≠none:=by rw[zM];grind
 have U:I p=some (.lst (ws.map V.int)):=h.hh _ _ zM
 have f2:m p=none:=h.nw p (j.ok.fh.free C) X
 have D:m b=some (.lst (xs.map V.str)):=b1
 subst s
 have i:Same a R:=λc o e=>u.hh _ _ (h.hh _ _ (au C _ _ _ e))
 have N:∀c o,a c=some o->c≠p:=λc o e q=>by grind
 refine⟨p,b,d,ws,xs,rfl,dn,u.hh _ _ U,aZ.of (u.hh _ _ (h.ok.fh _ _ D)),λq=>(by grind),T,a,λc o e=>⟨N c o e,i _ _ e⟩,λv t ns' l kp _ tr dt=>?_⟩
 have f:Same a l:=λc o e=>kp c o (N c o e) (i _ _ e)
 have J:=y.1.called f
 have E:rp K (dif (ext A a l) B.H0) v (gn.mk t):=Rp.mono (Jy (F:=A) y.1.h0 f) (show bG (dif l a) v t from tr)
 refine k (gn.mk t) dt v _ l (j.trans J) ?_
 exact match md with
 |.nw=>E
 |.fz=>Rp.mono aV E
 |.hp=>Rp.mono (aV.trans J.ok.fh) E
theorem H_{α:Type}[Rp K α]{b:α->Prop}(j:Nat)(d:sl[j]?=some s)(f:iR s=false)(h:ExA B sl .nw te b):SnA B sl (lU te (qd j)) (λx:α=>sl.set j (.fz true x)) b:=λG D σ H q k=>by
 obtain⟨F,O,g,z⟩:=q
 exact h F O H σ _ z λa i v F' H' c r=>k a i _ _ (Sg.set (g.trans c.ff) (z.grow c) d f r)
end
end Ts
namespace Sy
open PySem L2 Ts
def kn:Tr->Str
 |.all=>"all"
 |.mark _=>"mark"
 |.one i _=>w1 i
 |.two i _ _=>w2 i
def zXl:Tr->Bool
 |.mark _=>true
 |_=>false
theorem bG.look(h:bG H v t)(d:zXl t=false):∃(a:Addr)(vs:List V),v=.ref a/\H a=some (.tup (.str (kn t)::vs))/\Paired (bG H) vs (nq t):=by
 cases h with
 |all b=>exact⟨_,[],rfl,b,.nil⟩
 |mark b=>cases d
 |one b c=>exact⟨_,[_],rfl,b,.cons c .nil⟩
 |two b c e=>exact⟨_,[_,_],rfl,b,.cons c (.cons e .nil)⟩
theorem zWb(x:V)(vs:List V):ur (x::vs) (some 1) none=vs:=by
 show(vs).take ((vs.length+1)-1)=vs
 grind
theorem zWc(x:V)(vs:List V):¬(HT.dh (x::vs).length 0 (some 1)=0/\HT.dh (x::vs).length (x::vs).length none=(x::vs).length):=by
 have e1:HT.dh (x::vs).length 0 (some 1)=1:=by
  show(if(1:Int)<0 then((1:Int)+((vs.length+1:Nat):Int)).toNat else min (1:Int).toNat (vs.length+1))=1
  grind
 lia
theorem Ia(x:V)(vs:List V):aU (x::vs) 0=some x:=Y9 rfl
end Sy
namespace Ts
open PySem L2 Sy
theorem _root_.Sy.bG.head(h:bG H v t):∃(a:Addr)(vs:List V),v=.ref a/\H a=some (.tup (.str (kn t)::vs)):=by
 cases h with
 |all b=>exact⟨_,_,rfl,b⟩
 |mark b=>exact⟨_,_,rfl,b⟩
 |one b _=>exact⟨_,_,rfl,b⟩
 |two b _ _=>exact⟨_,_,rfl,b⟩
noncomputable def rH(x:gn):Option Str:=match x.t with
 |.mark s=>some s
 |_=>none
noncomputable def rJ(x:gn):Option (List gn):=if zXl x.t=true then none else some ((nq x.t).map gn.mk)
section
variable{K:Frag}{B:Bs}{sl:SL K}{md:Md}{t1 t2 te:TE}
theorem RK{m:Option gn}(j:Ex B sl .hp t1 m)(h2:Ex B sl .hp t2 (some (0:Int))):Ex B sl md (iQ (ux K) t1 t2) (m.bind λx=>some (kn x.t)):=λc b F O H σ Q s k=>by
 cases m with
 |none=>cases b
 |some x =>
  cases(b)
  refine j x rfl F O H σ _ s λv i o g l=>?_
  refine h2 0 rfl i O o σ _ (s.grow g) λw f n d h=>?_
  cases h
  obtain⟨a,vs,rfl,e⟩:=l.head
  exact⟨a,_,0,.str (kn x.t),rfl,rfl,cF.of (d.hh _ _ e),Ia _ _,k _ f n (g.trans d) rfl⟩
theorem OJ(j:Ex B sl .hp t1 m)(h2:Ex B sl .hp t2 (some (1:Int))):Ex B sl md (iQ (ux K) t1 t2) (m.bind λx=>rH x):=λc b F O H σ Q s k=>by
 cases m with
 |none=>cases b
 |some x =>
  have b:rH x=some c:=b
  refine j x rfl F O H σ _ s λv o h g d=>?_
  refine h2 1 rfl o O h σ _ (s.grow g) λw i n f l=>?_
  cases l
  have d:bG h v x.t:=d
  unfold rH at b
  generalize x.t=t at d b
  cases d with
  |@mark a y e =>
   cases b
   exact⟨a,_,1,.str _,rfl,rfl,cF.of (f.hh _ _ e),rfl,k _ i n (g.trans f) rfl⟩
  |all _=>cases b
  |one _ _=>cases b
  |two _ _ _=>cases b
theorem zWu:∀{vs:List V}{ts:List Tr},Paired (bG F) vs ts->A2 (rp K F) vs (ts.map gn.mk)
 |_,_,.nil=>trivial
 |_,_,.cons r t=>⟨r,zWu t⟩
theorem zMw(s:Same F a):∀{vs:List V}{ts:List Tr},Paired (bG F) vs ts->Paired (bG a) vs ts
 |_,_,.nil=>.nil
 |_,_,.cons r t=>.cons (r.same s) (zMw s t)
theorem O6(h:Ex B sl (fu n) te m)(L:Ex B sl .hp t1 (some (1:Int))):Ei B sl n (Fo K (WQ (LC K) te (WK t1) WD)) (m.bind λx=>rJ x):=λT d F O H σ R a Z=>by
 cases m with
 |none=>cases d
 |some x =>
  have d:rJ x=some T:=d
  unfold rJ at d
  split at d
  case isTrue=>cases d
  rename_i hm
  cases d
  refine h x rfl F O H σ _ a λv M l o r=>?_
  refine L 1 rfl M O l σ _ (a.grow o) λw X z g j=>?_
  have j:w=.int 1:=j
  have r:=r.same (xF (B:=B) (H:=l) (H':=z) n g.ff)
  obtain⟨b,f,rfl,e,D⟩:=r.look (by grind)
  have Y:=Eb g.ok n b _ e
  refine⟨1,j,b,_,rfl,cF.of Y,zWc _ _,λq J=>?_⟩
  rw[zWb]
  have s:=bJ.new g.ok J (.tup f)
  refine⟨q,rfl,⟨_,cF.of zM⟩,Z _ _ _ (o.trans (g.trans s)) λi S O4 I k p=>?_⟩
  have c:cF K I q f:=cF.of (p.fh _ _ (k _ _ zM))
  have C:A2 (rp K (reg B (upd X q (.tup f)) (upd z q (.tup f)) (fu n))) f ((nq x.t).map gn.mk):=zWu (zMw (xF n s.ff) D)
  refine⟨λN=>⟨_,c,by rw[C.len];exact N⟩,λy E=>?_⟩
  obtain⟨u,A,P⟩:=C.at2 E
  refine⟨⟨_,u,c,A⟩,λv H5 G=>?_⟩
  obtain⟨Q,U⟩:=G
  subst Q
  have:=A.symm.trans (U _ c)
  cases this
  exact⟨S,.refl p,Rp.mono (xF n k) P⟩
end
abbrev zK7(K:Frag):Sp:=HY K 7
def RM(cl:Hd->Addr)(q0:gn):Option (fH cl):=if q0.t.depth<7 then some (fH.mk q0.t) else none
abbrev zJa(K:Frag)(cl:Hd->Addr):Sp:=bY K false (λa:gn×Unit=>([.fz false a.1]:SL K)) (λa=>RM cl a.1)
section
variable{P:Program}{w:World}{K:Frag}{mg:Str->Option Value}{base:Heap}{B:Bs}{sl:SL K}{cl:Hd->Addr}{t1 t2 t3:TE}
theorem O7(h:aq P w K mg base aN k f fd ps (OD cl 7)):aq P w K mg base aN k f fd ps (zJa K cl):=aq.imp h λvs H Q E ⟨a,b,Fa,sf,e,r,q⟩=>by
 cases r with
 |cons r1 rn =>
  cases rn
  have e:RM cl a.1=some b:=e
  unfold RM at e
  split at e
  case isFalse=>cases e
  rename_i hd
  cases e
  have r1:bG Fa _ a.1.t:=r1
  exact⟨H,_,a.1.t,rfl,.refl _,r1.same sf,hd,by lia,λp H' s say=>q _ H' s ⟨p,rfl,say⟩⟩
theorem zRa{u:TS}{al:Bool}{A2 β:Type}[Rp K β]{b:β}{e:A2->Prop}{g:gn->A2->Option β}{s:Slot K}{c:Option LI}{i:Option (List Str)}{xs:List Str}{d n:Nat}{k:Int}(j:Nat)(m:sl[j]?=some s)(o:iR s=false)(r:Eo B sl .fz t1 c)(h2:Ex B sl .fz t2 i)(y:i=some xs)(z:xs.length<=1000)(x:Ex B sl .hp t3 (some k))(q:k=(d:Int))(l:d<n)(h:∀s,Bp B (sl.set j (.fz true s)) u al (g s) e b):Bp B sl (jF (lU (Bh (HY K n) [] E0 (yW t1 (yW t2 (yW t3 bI)))) (qd j)) u) al (λa:gn×A2=>c.bind λ_=>g a.1 a.2) (λa=>a.1.t.depth<=d/\e a.2) b:=λf hm=>by
 cases v:c with
 |none =>
  obtain⟨a,p⟩:=f
  grind
 |some ws =>
  exact Hz (H_ j m o (zS1 r v h2 y z x q l)) h f λa p=>by
   grind
end
structure mX where
 steps:List LI
 fair:List LI
 every:LI
 marks:List (Key×LI)
 alive:LI
def X6(x:mX)(n:Str):LI:=(gK x.marks (abo n)).getD []
abbrev CN(d a c e b:V):List (Key×V):=[(abo "steps",d),(abo "fair",a),(abo "every",c),(abo "marks",e),(abo "alive",b)]
section
variable{K:Frag}{B:Bs}{sl:SL K}{md:Md}{t t2:TE}
instance:Rp K mX:=⟨λF v x=>∃p v1 v2 v3 v4 v5,v=.ref p/\F p=some (.dK (CN v1 v2 v3 v4 v5))/\rp K F v1 x.steps/\rp K F v2 x.fair/\rp K F v3 x.every/\rp K F v4 (Dc.mk x.marks)/\rp K F v5 x.alive,
 λs h=>by
  obtain⟨p,v1,v2,v3,v4,v5,h,h0,h1,h2,h3,h4,h5⟩:=h
  exact⟨p,v1,v2,v3,v4,v5,h,s _ _ h0,Rp.mono s h1,Rp.mono s h2,Rp.mono s h3,Rp.mono s h4,Rp.mono s h5⟩⟩
theorem Ib(k:Ok B F O H):∀md:Md,Same (reg B F H md) H
 |.nw=>aV.trans k.fh
 |.fz=>k.fh
 |.hp=>.refl _
theorem Vm{α:Type}[Rp K α]{f:mX->α}(E:∀(F:Hp) (x:mX) (i a d j b:V),rp K F i x.steps->rp K F a x.fair->rp K F d x.every->rp K F j (Dc.mk x.marks)->rp K F b x.alive->∃v,iz (CN i a d j b) (abo k)=some v/\rp K F v (f x))(h:Ex B sl md t m):Ex B sl md (Jv t (tC (.str k))) (m.bind λx=>some (f x)):=λc l F O H σ Q s o=>by
 cases m with
 |none=>cases l
 |some x =>
  cases(l)
  refine h x rfl F O H σ _ s λv y A g u=>?_
  obtain⟨p,i,a,d,j,b,rfl,C,z,G,D,w,q⟩:=u
  obtain⟨v,e,r⟩:=E _ x _ _ _ _ _ z G D w q
  have n:=iB.k (k:=abo k) (Ib g.ok md _ _ C)
  rw[e] at n
  exact⟨p,v,rfl,n,o v y A g r⟩
variable{m:Option mX}
theorem uO(h:Ex B sl md t m):Ex B sl md (Jv t (tC (.str "steps"))) (m.bind λx=>some x.steps):=Vm (λ_ _ _ _ _ _ _ a _ _ _ _=>⟨_,rfl,a⟩) h
theorem zGi(h:Ex B sl md t m):Ex B sl md (Jv t (tC (.str "fair"))) (m.bind λx=>some x.fair):=Vm (λ_ _ _ _ _ _ _ _ a _ _ _=>⟨_,rfl,a⟩) h
theorem X7(h:Ex B sl md t m):Ex B sl md (Jv t (tC (.str "every"))) (m.bind λx=>some x.every):=Vm (λ_ _ _ _ _ _ _ _ _ a _ _=>⟨_,rfl,a⟩) h
theorem zKq(h:Ex B sl md t m):Ex B sl md (Jv t (tC (.str "marks"))) (m.bind λx=>some (Dc.mk x.marks)):=Vm (λ_ _ _ _ _ _ _ _ _ _ a _=>⟨_,rfl,a⟩) h
theorem zB8(h:Ex B sl md t m):Ex B sl md (Jv t (tC (.str "alive"))) (m.bind λx=>some x.alive):=Vm (λ_ _ _ _ _ _ _ _ _ _ _ a=>⟨_,rfl,a⟩) h
theorem zV4{α:Type}[Rp K α]{m:Option (Dc (List α))}(h:Ex B sl .hp t m)(h2:Ex B sl .hp t2 E):Ex B sl .hp (Y7 t t2 (BK bI)) (m.bind λd=>E.bind λk=>some ((gK d.kv (abo k)).getD [])):=λc r F O H σ Q s l=>by
 obtain⟨d,k,y,G,o⟩:=sI r
 cases o
 refine h d y F O H σ _ s λv D u g z=>?_
 obtain⟨p,C,rfl,n,J⟩:=z
 refine⟨p,rfl,.inl ⟨C,.inl n⟩,?_⟩
 refine h2 k G D O u σ _ (s.grow g) λw F2 H2 b A=>?_
 cases A
 refine⟨abg _,λq x=>?_⟩
 have e:=bJ.new b.ok x (.lst [])
 have i:=e.hh _ _ (b.hh _ _ n)
 refine⟨_,iB.k (k:=abo k) i,?_⟩
 rcases J.val with⟨j,f⟩|⟨a,v,j,f,I⟩
 ·rw[f]
  refine l _ _ _ (g.trans (b.trans e)) ?_
  rw[j]
  exact⟨q,[],rfl,zM,trivial⟩
 ·rw[f]
  refine l _ _ _ (g.trans (b.trans e)) ?_
  rw[j]
  exact Rp.mono ((xN b .hp).trans (xN e .hp)) I
theorem zPy(h:Ex B sl .hp t m)(h2:Ex B sl .hp t2 a):Eo B sl md (xu (Cj K) (yW (Y7 (Jv t (tC (.str "marks"))) t2 (BK bI)) bI)) (m.bind λx=>a.bind λn=>some (X6 x n)):=by
 have q:=Gs (md:=md) (zV4 (zKq h) h2)
 cases m<;>exact q
end
end Ts
namespace Sy
open PySem L2
abbrev zW2:Stmt:=Ts.cW
def tG:Tr->List Str
 |.all=>["all"]
 |.mark x=>[x]
 |.one i t=>w1 i::tG t
 |.two i l r=>w2 i::(tG l++tG r)
theorem O8:∀t:Tr,tG t=hw t::(nq t).flatMap tG
 |.all=>rfl
 |.mark _=>rfl
 |.one i t=>by simp[tG,nq,hw]
 |.two i l r=>by simp[tG,nq,hw]
theorem X8:∀t:Tr,(tG t).length<2^(t.depth+1)
 |.all=>by show 1<2^1;decide
 |.mark _=>by show 1<2^1;decide
 |.one i t=>by
  have h:=X8 t
  have d:(Tr.one i t).depth=t.depth+1:=rfl
  rw[d,Nat.pow_succ 2 (t.depth+1)]
  show(tG t).length+1<_
  lia
 |.two i l r=>by
  have h1:=X8 l
  have h2:=X8 r
  have d:(Tr.two i l r).depth=max l.depth r.depth+1:=rfl
  have p1:2^(l.depth+1)<=2^(max l.depth r.depth+1):=acw (by decide) (by lia)
  have p2:2^(r.depth+1)<=2^(max l.depth r.depth+1):=acw (by decide) (by lia)
  show(tG l++tG r).length+1<_
  grind
theorem zQa{t:Tr}(h:t.depth<9):(tG t).length<512:=aa2 (X8 t) (aa1 (acw (by decide) (show t.depth+1<=9 by lia)) (by decide))
theorem zKm{α:Type}{f:Tr->List α}{ts:List Tr}{i:Nat}{t:Tr}(h:ts[i]?=some t):(ts.take (i+1)).flatMap f=(ts.take i).flatMap f++f t:=by
 rw[take_add_one,h]
 simp
theorem Ie{α:Type}{f:Tr->List α}{ts:List Tr}(i:Nat):((ts.take i).flatMap f).length<=(ts.flatMap f).length:=by
 have e:ts.flatMap f=(ts.take i).flatMap f++(ts.drop i).flatMap f:=by rw[<-List.flatMap_append,take_append_drop]
 grind
section
variable{P:Program}{w:World}{K:Frag}{mg:Str->Option Value}{base:Heap}{cl:Hd->Addr}
def spW(cl:Hd->Addr)(n:Nat):Sp:=λb H Q _=>∃(p:Addr)(t:Tr),b=[.ref p]/\bx cl H p t/\t.depth<n/\t.depth<9/\∀(l:Addr)(a:Hp),Same H a->H l=none->a l=some (.lst ((tG t).map V.str))->Q (.ref l) a
theorem scW:ao ["self","told","part"] ["self"] (zI zW2):=⟨rfl,rfl,rfl,by decide +kernel,rfl,by decide +kernel,by decide +kernel⟩
theorem Vn(F:aW K "words" "Saying.words" zW2 f fd)(T:∀h,gJ K (cl h))(wd:∀h,Meth K (cl h) "words" f)(bF:Binds K fd ["self"] []):∀n:Nat,aq P w K mg base aN n f fd ["self"] (spW cl n)
 |0=>vac λvs H Q E h=>by
  obtain⟨_,_,_,_,h,_⟩:=h
  exact ab7 _ h
 |n+1=>by
  have G:=Vn F T wd bF n
  refine F.ok scW (λvs H Q E h=>?_) (λcdv A outer s H vs Q E hr h=>?_)
  ·obtain⟨p,t,rfl,_⟩:=h
   rfl
  obtain⟨p,t,rfl,hS,hn,h8,q⟩:=h
  obtain⟨dx,q0,fs,cs,e1,e2,e3,e4,e5,e6⟩:=hS.look
  have KT:=T (hd t)
  have d:=zQa h8
  have ew:=O8 t
  refine⟨_,zB (Fi (i:=1) scW.nd rfl (Or.inl rfl) (xY (zA (Ww (pv 0) rfl) zF)))
   (zB (xK aa6 rfl (YD (Ww (pv 0) rfl)) (yE (i:=2) scW.nd rfl (Or.inl rfl))
    (yG (yP (BR abb ado adp Ze (pv 1) (zA (zM6 (pv 2) G hr bF .nil xZ) zF)))))
   (yG (zN (pv 1)))),?_⟩
  refine⟨_,rfl,p,_,dx,fs,_,rfl,e1,KT.cl,KT.nW,e2,(by show 1<=sizeLine;decide),λl z=>?_⟩
  have D:=au z (.lst [V.str (hw t)])
  refine⟨_,rfl,p,_,dx,fs,_,rfl,D _ _ e1,KT.cl,KT.nP,e3,q0,rfl,⟨_,cF.of (D _ _ e5)⟩,Fp (K:=K) (a:=q0) (xs:=cs.map V.ref) (λi σ m=>∃v,σ=[some (.ref p),some (.ref l),v]/\Same H m/\m l=some (.lst ((hw t::((nq t).take i).flatMap tG).map V.str)))
   ⟨none,rfl,D,zM⟩ (by rintro i σ m _ ⟨_,_,k,_⟩;exact cF.of (k _ _ e5)) ?_ ?_⟩
  ·rintro i y σ m hi ⟨v,rfl,k,g⟩
   obtain⟨c,rfl,hc⟩:=Ts.Ck hi
   obtain⟨t',j,r⟩:=U_ e6 hc
   have dlt:=zJ0 (mem_of_getElem? j)
   have o:=r.same k
   obtain⟨C,q',x,cs',g1,g2,g3,g4,g5,g6⟩:=o.look
   refine⟨_,rfl,.inl ⟨rfl,_,aZ.of g⟩,_,rfl,c,_,C,x,rfl,g1,(T _).cl,wd _,g4 _ (by decide +kernel) (by decide +kernel) (by decide +kernel) (by decide +kernel) (by decide +kernel) (by decide +kernel),c,t',rfl,o,by lia,by lia,λl2 H3 s3 f3 u=>?_⟩
   have B:=s3 _ _ g
   refine⟨l,l2,_,_,rfl,rfl,B,u,?_,?_⟩
   ·have:=Ie (f:=tG) (ts:=nq t) (i+1)
    rw[zKm j] at this
    rw[ew] at d
    simp only[length_append,length_cons] at this d
    rw[length_map,length_map]
    simp only[length_cons]
    exact aa1 (show _<=1000 by lia) (by decide)
   ·refine⟨_,rfl,(k.trans s3).put z _,?_⟩
    rw[zM,zKm j,<-map_append,List.cons_append]
  ·rintro σ m ⟨v,rfl,k,g⟩
   refine⟨_,rfl,q l m k z ?_⟩
   have e:(nq t).take (cs.map V.ref).length=nq t:=by
    rw[length_map,e6.length]
    exact take_length
   rw[g,e,<-ew]
end
end Sy
namespace Ts
open PySem L2 Sy
structure qp(P:Program)(w:World)(K:Frag)(mg:Str->Option Value)(base:Heap)(k:Nat)(cl:Hd->Addr)(m:Str)(f:Addr)(sp:Sp):Prop where
 ex:∃fd,aq P w K mg base aN k f fd ["self"] sp/\Binds K fd ["self"] []
 mt:∀h,Meth K (cl h) m f
def xW(a:fH cl):Option (List Str):=if a.t.depth<9 then some (tG a.t) else none
abbrev zA9(K:Frag)(cl:Hd->Addr):Sp:=bY K false (λa:fH cl×Unit=>([.z a.1]:SL K)) (λa=>xW a.1)
section
variable{P:Program}{w:World}{K:Frag}{mg:Str->Option Value}{base:Heap}{k kS j:Nat}{f:Addr}{fd:FuncData}{sp:Sp}{cl fi:Hd->Addr}{di:Hd->FuncData}{B:Bs}{sl:SL K}{md:Md}{ta:TE}{m:Str}{β:Type}[Rp K β]
theorem qp.mono(c:qp P w K mg base j cl m f sp)(h:j<=k):qp P w K mg base k cl m f sp:=by
 obtain⟨fd,a,b⟩:=c.ex
 exact⟨⟨fd,a.mono h,b⟩,c.mt⟩
theorem O9(h:aq P w K mg base aN k f fd ps (spW cl 9)):aq P w K mg base aN k f fd ps (zA9 K cl):=aq.imp h λvs H Q E ⟨a,b,Fa,o,e,r,q⟩=>by
 cases r with
 |cons c g =>
  cases g
  have e:xW a.1=some b:=e
  unfold xW at e
  split at e
  case isFalse=>cases e
  rename_i hd
  cases e
  obtain⟨p,rfl,c⟩:=c
  exact⟨p,a.1.t,rfl,c.same o,hd,hd,λl d s n i=>q _ d s ⟨l,_,rfl,(show dif d H l=_ by rw[xX n];exact i),A2.of_map (f:=V.str) (λ_=>rfl) _⟩⟩
theorem Ig(I:oE P w K mg base kS cl fi di){F:Hp}{v:V}{x:fH cl}(h:rp K F v x)(i:¬m = "word")(h2:¬m = "parts")(l:¬m = "part")(g:¬m = "left")(c:¬m = "right")(e:¬m = "name"):∃a b fs,v=.ref a/\F a=some (.ins (cl (hd x.t)) b fs)/\Cls K (cl (hd x.t))/\fs.lookup m=none:=by
 obtain⟨p,rfl,d⟩:=h
 obtain⟨b,q,fs,cs,n,l2,l3,o,_⟩:=d.look
 exact⟨p,b,fs,rfl,n,(I.kd _).cl,o m i h2 l g c e⟩
theorem zNx{g:fH cl×Unit->Option β}(I:oE P w K mg base kS cl fi di)(c:qp P w K mg base k cl m f (bY K false (λa:fH cl×Unit=>([.z a.1]:SL K)) g))(E:¬m = "word":=by decide +kernel)(h2:¬m = "parts":=by decide +kernel)(J:¬m = "part":=by decide +kernel)(D:¬m = "left":=by decide +kernel)(t:¬m = "right":=by decide +kernel)(r:¬m = "name":=by decide +kernel)(h0:Ex B sl .hp ta l) :
  En B sl (zQv K m f (bY K false (λa:fH cl×Unit=>([.z a.1]:SL K)) g) [] E0 ta) (l.bind λx=>g (x,())):=λb e F O H σ Q s n=>by
 cases l with
 |none=>cases e
 |some x =>
  refine h0 x rfl F O H σ _ s λv o h N i=>?_
  obtain⟨a,u,y,L,p,q,A⟩:=Ig I i E h2 J D t r
  exact⟨a,_,u,y,L,p,q,c.mt _,A,(x,()),b,h,.refl _,e,.cons i .nil,λv M G C=>n v o h M N G C⟩
theorem zXb{X:Cx}(c:qp X.prog X.w X.K X.mg X.base k cl m f sp)(g:bR k X.A)(h:PE X o ta)(d:eval (.Call (.Attribute o m a) [] [] pos) X.env=(do
   let b <-eval o X.env
   standAt a.atName
   let(f,first) <-holding [b] (getMethod b m pl)
   callWith pos f first (backTo pos (starEach [] X.env)) (backToKw pos (keywordEach [] X.env))):=by rfl):PE X (.Call (.Attribute o m a) [] [] pos) (zQv X.K m f sp [] E0 ta):=by
 obtain⟨fd,e,i⟩:=c.ex
 exact zM6 h e g i .nil xZ d
end
end Ts
set_option maxHeartbeats 40000000
namespace Ts
open PySem L2 Sy
section
variable{P:Program}{w:World}{K:Frag}{mg:Str->Option Value}{base:Heap}
seal L2.PE L2.PT L2.PW L2.PA L2.PS L2.nU L2.PC L2.PG L2.DP L2.PI L2.ql L2.PO
def Vo(q0:Int)(q1:Int):Option Bool:=if true=true then if(!false)=true then if decide ((0:Int)<=q0)=true then some (decide (q0<q1)) else some false else some false else some false
theorem mY:ao ["thing","many"] ["thing","many"] (zI j6):=fsc
abbrev zH1(K:Frag):Sp:=bY K false (λa:Int×Int×Unit=>([.z a.1,.z a.2.1]:SL K)) (λa=>Vo a.1 a.2.1)
theorem zLt(F:aW K "is_stand" "is_stand" j6 f fd)(B:Bl K mg):aq P w K mg base aN (k+1) f fd ["thing","many"] (zH1 K):=by
 refine yI F mY (λ_=>rfl) (λ_=>rfl) λcdv A outer s H E hr=>?_
 have nd:=mY.nd
 refine⟨_,(zB (zN (QF (zW (uB K (Ra (n:="int"))) rfl B.qD uC (zA (pv 0) (zA (QD (v:=.ty "int") rfl B.int Z1 rfl) zF))) (QF (KZ (zW (uB K (Ra (n:="bool"))) rfl B.qD uC (zA (pv 0) (zA (QD (v:=.ty "bool") rfl B.bool zTm rfl) zF)))) (SX (zNa BJ Tc zK (pv 0) (pv 1)))))) zG),?_⟩
 rintro Fa ⟨q0,q1,⟨⟩⟩
 exact SB.of (zZ (esc (Rb (Ri B.ii rfl (zH 0 rfl)) (Rb (Mu (Ri B.ib rfl (zH 0 rfl))) (zNs (f:=(λi j=>decide (i<=j))) (g:=(λi j=>decide (i<j))) (zP 0) (zH 0 rfl) (zH 1 rfl)))))) (by unfold Vo;simp only[bnd])
def xV(q0:LI)(q1:Int)(q2:Str):Option Unit:=(some ()).bind λvh=>((some q0).bind λxs=>xR (λ(s2:List (Key×Bool)) (x4:Int)=>(((Vo x4 q1).bind λa5=>some (!a5)).bind λb=>if b=true then none else some ()).bind λs6=>(if((nj (Dc.mk s2).kv x4).isSome)=true then none else some ()).bind λs8=>(dput s2 x4 true).bind λgR=>some gR) xs (([]:List (Key×Bool)))).bind λs3=>some ()
theorem ig:ao ["stands","many","where","ahead","stand"] ["stands","many","where"] (zI eE):=fsc
abbrev uK(K:Frag):Sp:=bY K false (λa:LI×Int×Str×Unit=>([.z a.1,.z a.2.1,.z a.2.2.1]:SL K)) (λa=>xV a.1 a.2.1 a.2.2.1)
theorem zF0(F:aW K "check_stands" "check_stands" eE f fd)(B:Bl K mg)(j7:bw P w K mg base k "is_stand" ["thing","many"] (zH1 K)):aq P w K mg base aN (k+1) f fd ["stands","many","where"] (uK K):=by
 refine Xk F ig (λ_=>rfl) (λ_=>rfl) λcdv A outer s H E hr=>?_
 have nd:=ig.nd
 have hu:=Gf hr
 refine⟨_,(zB (xA 3 nd Wx) (zB (xK aa6 rfl (yL K (pv 0)) (bV 4 nd) (zB (yQ (KY (xO (zY j7 hr (zA (pv 4) (zA (pv 1) zF))))) QH zG) (zB (yQ (Ji (zXa hu (pv 4) (pv 3))) QH zG) (zB (Tj hu (pv 3) (pv 4) Bd rfl) zG)))) zG)),?_⟩
 rintro Fa ⟨q0,q1,q2,⟨⟩⟩
 exact⟨_,Sn.of (zU (ZF (α:=Bool) 3 rfl rfl) (λvh=>(zU (wO (n:=false) (L:=(λs2:List (Key×Bool)=>([.z q0,.z q1,.z q2,.od (s2:List (Key×Bool)),.un]:SL K))) (([]:List (Key×Bool))) bN (yN (yM 0 rfl)) (λs2=>(yA 4 rfl rfl)) (λs2 x4=>(zU (uz (Mt (cg (md:=.hp) (zJ (zE (esc (zH 4 rfl)) (zE (esc (zH 1 rfl)) zL))))) Rn (yH (λs7:Unit=>([.z q0,.z q1,.z q2,.od (s2:List (Key×Bool)),.z x4]:SL K)) () bN)) (λs6=>(zU (uz (cg (md:=.hp) (M6 (zH 4 rfl) (zL9 3 rfl))) Rn (yH (λs9:Unit=>([.z q0,.z q1,.z q2,.od (s2:List (Key×Bool)),.z x4]:SL K)) () bN)) (λs8=>(zU (zQ5 3 rfl rfl (esc (Bj true)) (zH 4 rfl)) (λgR=>(yH (λs2:List (Key×Bool)=>([.z q0,.z q1,.z q2,.od (s2:List (Key×Bool)),.un]:SL K)) gR bN))))))))) (λs3=>(yH (λ_:Unit=>([.un,.un,.un,.un,.un]:SL K)) () bN))))) (by unfold xV;simp only[bnd])⟩
def vY(q0:List LI):Option Unit:=(some (q0.length:Int)).bind λmany1=>((if(decide (many1<(1:Int)))=true then some true else some (decide ((60:Int)<many1))).bind λb=>if b=true then none else some ()).bind λs2=>((some (Eh q0)).bind λxs=>xR (λ(s4:Unit) (x6:Int×LI)=>(((((Nb "steps of stand " x6.1).bind λa8=>some ((a8,()))).bind λb9=>some (many1,b9)).bind λb10=>some (x6.2,b10)).bind λz7=>xV z7.1 z7.2.1 z7.2.2.1).bind λu11=>(if(decide ((x6.2.length:Int)=(0:Int)))=true then none else some ()).bind λs12=>some ()) xs ()).bind λs5=>some ()
theorem jf:ao ["steps","many","stand","targets"] ["steps"] (zI fY):=fsc
abbrev zJd(K:Frag):Sp:=bY K false (λa:((List LI))×Unit=>([.z a.1]:SL K)) (λa=>vY a.1)
theorem zG7(F:aW K "check_steps" "check_steps" fY f fd)(B:Bl K mg)(qt:mg "MOST_STANDS" = some (.int 60 qu))(aR:bw P w K mg base k "check_stands" ["stands","many","where"] (uK K)):aq P w K mg base aN (k+1) f fd ["steps"] (zJd K):=by
 refine Xk F jf (λ_=>rfl) (λ_=>rfl) λcdv A outer s H E hr=>?_
 have nd:=jf.nd
 refine⟨_,(zB (xA 1 nd (zW (uA K) rfl B.len abe (zA (pv 0) zF))) (zB (yQ (PW.pt (pw_or (zR Tc (pv 1) zK (yK _)) (pw_or1 (zR Wt (pv 1) (vA (v:=.int 60) rfl qt ⟨_,rfl⟩) (yK _))))) QH zG) (zB (xK aa6 rfl (Z6 K B.enum (zA (pv 0) zF)) (Fg rfl (yS (bV 2 nd) (yS (bV 3 nd) Bu))) (zB (yP (zY aR hr (zA (pv 3) (zA (pv 1) (zA (Ca (pv 2) (by decide)) zF))))) (zB (yQ (zR (vJ K Int hr) (zW (uA K) rfl B.len abe (zA (pv 3) zF)) zK (yK _)) QH zG) zG))) zG))),?_⟩
 rintro Fa ⟨q0,⟨⟩⟩
 exact⟨_,Sn.of (zU (yR true 1 rfl rfl (esc (uW (zD 0 rfl)))) (λmany1=>(zU (uz (Ef (yF (md:=.hp) (JB (zH 1 rfl) (zP 1))) (yF (md:=.hp) (W7 (zH 1 rfl) (zP 60)))) Rn (yH (λs3:Unit=>([.z q0,.y many1,.un,.un]:SL K)) () bN)) (λs2=>(zU (wO (n:=false) (L:=(λs4:Unit=>([.z q0,.y many1,.un,.un]:SL K))) () bN (ZQ (yM 0 rfl)) (λs4=>(Mv 2 3 rfl rfl (λ_=>rfl) rfl)) (λs4 x6=>(zU (Rg (md:=.hp) (zJ (zE (zD 3 rfl) (zE (esc (zH 1 rfl)) (zE (esc (zXp "steps of stand " (zH 2 rfl))) zL))))) (λu11=>(zU (uz (yF (md:=.hp) (vK (uW (zD 3 rfl)) (zP 0))) Rn (yH (λIh:Unit=>([.z q0,.y many1,.z x6.1,.z x6.2]:SL K)) () bN)) (λs12=>(yH (λs4:Unit=>([.z q0,.y many1,.un,.un]:SL K)) () bN))))))) (λs5=>(yH (λ_:Unit=>([.un,.un,.un,.un]:SL K)) () bN))))))) (by unfold vY;simp only[bnd])⟩
def vX(q0:Str):Option Bool:=(if(!true)=true then some true else some (decide (q0∈(["all","not","both","either","somenext","eachnext","sometill","eachtill","someever","eachever"]:List Str)))).bind λb=>if b=true then some false else((GQ q0).bind λb1=>if decide ((1:Int)<=b1)=true then some (decide (b1<=(8:Int))) else some false).bind λc4=>if c4=true then((some (Xj q0)).bind λxs=>aK (λ(x2:Str)=>some true) (λ(x2:Str)=>some (inS x2 ("abcdefghijklmnopqrstuvwxyz":Str))) xs).bind λa3=>some (a3.all id) else some false
theorem o_:ao ["name"] ["name"] (zI mD):=fsc
abbrev zK9(K:Frag):Sp:=bY K false (λa:Str×Unit=>([.z a.1]:SL K)) (λa=>vX a.1)
theorem zPd(F:aW K "is_name" "is_name" mD f fd)(B:Bl K mg)(Ah:mg "LETTERS" = some (.str "abcdefghijklmnopqrstuvwxyz" Ai))(pq:mg "LONGEST_NAME" = some (.int 8 pA))(pB:mg "SAYING_WORDS" = some (.ref cJ))(eG:∀H,cF K H cJ ((["all","not","both","either","somenext","eachnext","sometill","eachtill","someever","eachever"]:List Str).map V.str))(O_:mg "all" = none)(Pa:mg "str" = none):aq P w K mg base aN (k+1) f fd ["name"] (zK9 K):=by
 refine yI F o_ (λ_=>rfl) (λ_=>rfl) λcdv A outer s H E hr=>?_
 have nd:=o_.nd
 refine⟨_,(zB (yQ (PW.pt (pw_or (KY (xO (zW (uB K (Ra (n:="str"))) rfl B.qD uC (zA (pv 0) (zA (QD (v:=.ty "str") rfl Pa Ng rfl) zF))))) (pw_or1 (zR (u5 K) (pv 0) (vA (v:=.ref cJ) rfl pB rfl) (by with_unfolding_all rfl))))) (zB (zN Bd) zG) zG) (zB (zN (QF (zNa BJ BJ zK (zW zTg rfl B.len abe (zA (pv 0) zF)) (vA (v:=.int 8) rfl pq ⟨_,rfl⟩)) (SX (zW (zTj K rfl) rfl O_ M4 (zA (xH (own:=["sign"]) (ix:=[]) rfl rfl rfl (M7 (pv 0)) (λC s H fp=>yE (i:=0) (show(["sign"]:List Str).Nodup from by decide +kernel) rfl (Or.inl rfl)) (λC s H fp=>wJ) (λC s H fp=>(Lh zRw (pv 0) (vA (v:=.str "abcdefghijklmnopqrstuvwxyz") rfl Ah ⟨_,rfl⟩) (by with_unfolding_all rfl)))) zF))))) zG)),?_⟩
 rintro Fa ⟨q0,⟨⟩⟩
 exact SB.of (xM (Ef (Mt (cg (md:=.hp) (Ri Um rfl (zH 0 rfl)))) (yF (md:=.hp) (M_ eG (zH 0 rfl)))) (zZ (esc (Bj false))) (zZ (esc (Rb (zNs (f:=(λi j=>decide (i<=j))) (g:=(λi j=>decide (i<=j))) (zP 1) (GR (zH 0 rfl)) (zP 8)) (zNu (yU (n:=true) (fG:=[.un]) (no:=1) (ix:=[]) rfl rfl (M8 (zH 0 rfl)) (yA 0 rfl rfl) (λx2=>u_) (λx2=>(esc (M9 (zH 0 rfl) (wY "abcdefghijklmnopqrstuvwxyz")))) (λx2=>cU)).ex))))) (by unfold vX;simp only[bnd])
def vZ(q0:List (Str×LI))(q1:Int):Option Unit:=(some ()).bind λvh=>((some q0).bind λxs=>xR (λ(s2:List (Key×Bool)) (x4:Str×LI)=>(((vX x4.1).bind λa5=>some (!a5)).bind λb=>if b=true then none else some ()).bind λs6=>(if((JK (Dc.mk s2).kv x4.1).isSome)=true then none else some ()).bind λs8=>(iT s2 x4.1 true).bind λgR=>(((((Ro "mark " x4.1).bind λa12=>some ((a12,()))).bind λIi=>some (q1,Ii)).bind λPb=>some (x4.2,Pb)).bind λRN=>xV RN.1 RN.2.1 RN.2.2.1).bind λu15=>some gR) xs (([]:List (Key×Bool)))).bind λs3=>some ()
theorem jg:ao ["marks","many","ahead","name","stands"] ["marks","many"] (zI fZ):=fsc
abbrev zJe(K:Frag):Sp:=bY K false (λa:((List (Str×LI)))×Int×Unit=>([.z a.1,.z a.2.1]:SL K)) (λa=>vZ a.1 a.2.1)
theorem zG8(F:aW K "check_marks" "check_marks" fZ f fd)(B:Bl K mg)(aR:bw P w K mg base k "check_stands" ["stands","many","where"] (uK K))(mL:bw P w K mg base k "is_name" ["name"] (zK9 K)):aq P w K mg base aN (k+1) f fd ["marks","many"] (zJe K):=by
 refine Xk F jg (λ_=>rfl) (λ_=>rfl) λcdv A outer s H E hr=>?_
 have nd:=jg.nd
 have hu:=Gf hr
 refine⟨_,(zB (xA 2 nd Wx) (zB (xK aa6 rfl (yL K (pv 0)) (Fg rfl (yS (bV 3 nd) (yS (bV 4 nd) Bu))) (zB (yQ (KY (xO (zY mL hr (zA (pv 3) zF)))) QH zG) (zB (yQ (Ji (zXa hu (pv 3) (pv 2))) QH zG) (zB (Tj hu (pv 2) (pv 3) Bd rfl) (zB (yP (zY aR hr (zA (pv 4) (zA (pv 1) (zA (Ca (pv 3) (by decide)) zF))))) zG))))) zG)),?_⟩
 rintro Fa ⟨q0,q1,⟨⟩⟩
 exact⟨_,Sn.of (zU (ZF (α:=Bool) 2 rfl rfl) (λvh=>(zU (wO (n:=false) (L:=(λs2:List (Key×Bool)=>([.z q0,.z q1,.od (s2:List (Key×Bool)),.un,.un]:SL K))) (([]:List (Key×Bool))) bN (yN (yM 0 rfl)) (λs2=>(Mv 3 4 rfl rfl (λ_=>rfl) rfl)) (λs2 x4=>(zU (uz (Mt (cg (md:=.hp) (zJ (zE (esc (zH 3 rfl)) zL)))) Rn (yH (λs7:Unit=>([.z q0,.z q1,.od (s2:List (Key×Bool)),.z x4.1,.z x4.2]:SL K)) () bN)) (λs6=>(zU (uz (cg (md:=.hp) (GX (zH 3 rfl) (zL9 2 rfl))) Rn (yH (λs9:Unit=>([.z q0,.z q1,.od (s2:List (Key×Bool)),.z x4.1,.z x4.2]:SL K)) () bN)) (λs8=>(zU (zUi 2 rfl rfl (esc (Bj true)) (zH 3 rfl)) (λgR=>(zU (Rg (md:=.hp) (zJ (zE (zD 4 rfl) (zE (esc (zH 1 rfl)) (zE (esc (Nf "mark " (zH 3 rfl))) zL))))) (λu15=>(yH (λs2:List (Key×Bool)=>([.z q0,.z q1,.od (s2:List (Key×Bool)),.un,.un]:SL K)) gR bN))))))))))) (λs3=>(yH (λ_:Unit=>([.un,.un,.un,.un,.un]:SL K)) () bN))))) (by unfold vZ;simp only[bnd])⟩
def uN(q0:List LI)(q1:Int):Option Unit:=((some (Eh q0)).bind λxs=>xR (λ(s1:Unit) (x3:Int×LI)=>(((((Nb "fair set " x3.1).bind λa5=>some ((a5,()))).bind λb6=>some (q1,b6)).bind λb7=>some (x3.2,b7)).bind λz4=>xV z4.1 z4.2.1 z4.2.2.1).bind λu8=>some ()) xs ()).bind λs2=>some ()
theorem jR:ao ["fair","many","number","stands"] ["fair","many"] (zI gQ):=fsc
abbrev zLa(K:Frag):Sp:=bY K false (λa:((List LI))×Int×Unit=>([.z a.1,.z a.2.1]:SL K)) (λa=>uN a.1 a.2.1)
theorem zIq(F:aW K "check_fair" "check_fair" gQ f fd)(B:Bl K mg)(aR:bw P w K mg base k "check_stands" ["stands","many","where"] (uK K)):aq P w K mg base aN (k+1) f fd ["fair","many"] (zLa K):=by
 refine Xk F jR (λ_=>rfl) (λ_=>rfl) λcdv A outer s H E hr=>?_
 have nd:=jR.nd
 refine⟨_,(zB (xK aa6 rfl (Z6 K B.enum (zA (pv 0) zF)) (Fg rfl (yS (bV 2 nd) (yS (bV 3 nd) Bu))) (zB (yP (zY aR hr (zA (pv 3) (zA (pv 1) (zA (Ca (pv 2) (by decide)) zF))))) zG)) zG),?_⟩
 rintro Fa ⟨q0,q1,⟨⟩⟩
 exact⟨_,Sn.of (zU (wO (n:=false) (L:=(λs1:Unit=>([.z q0,.z q1,.un,.un]:SL K))) () bN (ZQ (yM 0 rfl)) (λs1=>(Mv 2 3 rfl rfl (λ_=>rfl) rfl)) (λs1 x3=>(zU (Rg (md:=.hp) (zJ (zE (zD 3 rfl) (zE (esc (zH 1 rfl)) (zE (esc (zXp "fair set " (zH 2 rfl))) zL))))) (λu8=>(yH (λs1:Unit=>([.z q0,.z q1,.un,.un]:SL K)) () bN))))) (λs2=>(yH (λ_:Unit=>([.un,.un,.un,.un]:SL K)) () bN))) (by unfold uN;simp only[bnd])⟩
def RP(q0:List LI):Option (List LI):=(some q0).bind λxs=>aK (λ(x1:LI)=>some true) (λ(x1:LI)=>some x1) xs
theorem qJ:ao ["lists"] ["lists"] (zI oO):=fsc
abbrev zWp(K:Frag):Sp:=bY K false (λa:((List LI))×Unit=>([.z a.1]:SL K)) (λa=>RP a.1)
theorem zR7(F:aW K "copied" "copied" oO f fd)(B:Bl K mg):aq P w K mg base aN (k+1) f fd ["lists"] (zWp K):=by
 refine yI F qJ (λ_=>rfl) (λ_=>rfl) λcdv A outer s H E hr=>?_
 have nd:=qJ.nd
 refine⟨_,(zB (zN (xH (own:=["things"]) (ix:=[]) rfl rfl rfl (yL K (pv 0)) (λC s H fp=>yE (i:=0) (show(["things"]:List Str).Nodup from by decide +kernel) rfl (Or.inl rfl)) (λC s H fp=>wJ) (λC s H fp=>(vC (GD K) rfl B.list Ej (zA (pv 0) zF))))) zG),?_⟩
 rintro Fa ⟨q0,⟨⟩⟩
 exact SB.of (zZ (yU (n:=false) (fG:=[.un]) (no:=1) (ix:=[]) rfl rfl (yN (yM 0 rfl)) (yA 0 rfl rfl) (λx1=>u_) (λx1=>(Gs (zD 0 rfl)).ex) (λx1=>cU)).ex) (by unfold RP;simp only[bnd])
end
abbrev RQ(C:Addr):=Xl C vY vZ uN RP RD
section
variable{P:Program}{w:World}{K:Frag}{mg:Str->Option Value}{base:Heap}
seal L2.PE L2.PT L2.PW L2.PA L2.PS L2.nU L2.PC L2.PG L2.DP L2.PI L2.ql L2.PO
def xD(q0:aF C):Option Int:=some (q0.steps.length:Int)
theorem iu:ao ["self"] ["self"] (zI eF):=fsc
abbrev vD(K:Frag)(C:Addr):Sp:=bY K false (λa:(aF C)×Unit=>([.z a.1]:SL K)) (λa=>xD a.1)
theorem zF1(F:aW K "many" "Machine.many" eF f fd)(B:Bl K mg)(T:Cl K mg C):aq P w K mg base aN (k+1) f fd ["self"] (vD K C):=by
 refine yI F iu (λ_=>rfl) (λ_=>rfl) λcdv A outer s H E hr=>?_
 have nd:=iu.nd
 refine⟨_,(zB (zN (zW (uA K) rfl B.len abe (zA (Cp K (pv 0)) zF))) zG),?_⟩
 rintro Fa ⟨q0,⟨⟩⟩
 exact SB.of (zZ (esc (uW (Z4 T.cl T.nS (zD 0 rfl))))) (by unfold xD;simp only[bnd])
def xE(q0:aF C)(q1:Int):Option LI:=(aU q0.steps q1).bind λa1=>kO a1
theorem eH:ao ["self","stand"] ["self","stand"] (zI cX):=fsc
abbrev uJ(K:Frag)(C:Addr):Sp:=bY K false (λa:(aF C)×Int×Unit=>([.z a.1,.z a.2.1]:SL K)) (λa=>xE a.1 a.2.1)
theorem zDh(F:aW K "next_of" "Machine.next_of" cX f fd)(B:Bl K mg)(T:Cl K mg C)(bT:mg "sorted" = none):aq P w K mg base aN (k+1) f fd ["self","stand"] (uJ K C):=by
 refine yI F eH (λ_=>rfl) (λ_=>rfl) λcdv A outer s H E hr=>?_
 have nd:=eH.nd
 refine⟨_,(zB (zN (zW (Z9 K) rfl bT Z7 (zA (yD (aO K) (Cp K (pv 0)) (pv 1) (λ_ _=>rfl)) zF))) zG),?_⟩
 rintro Fa ⟨q0,q1,⟨⟩⟩
 exact SB.of (zZ (zMd (yT (Z4 T.cl T.nS (zD 0 rfl)) (zH 1 rfl))).ex) (by unfold xE;simp only[bnd])
def wH(q0:aF C)(q1:Int):Option LI:=aU q0.sources q1
theorem fK:ao ["self","stand"] ["self","stand"] (zI dw):=fsc
abbrev zBx(K:Frag)(C:Addr):Sp:=bY K false (λa:(aF C)×Int×Unit=>([.z a.1,.z a.2.1]:SL K)) (λa=>wH a.1 a.2.1)
theorem zEg(F:aW K "before" "Machine.before" dw f fd)(B:Bl K mg)(T:Cl K mg C):aq P w K mg base aN (k+1) f fd ["self","stand"] (zBx K C):=by
 refine yI F fK (λ_=>rfl) (λ_=>rfl) λcdv A outer s H E hr=>?_
 have nd:=fK.nd
 refine⟨_,(zB (zN (vC (GD K) rfl B.list Ej (zA (yD (aO K) (Cp K (pv 0)) (pv 1) (λ_ _=>rfl)) zF))) zG),?_⟩
 rintro Fa ⟨q0,q1,⟨⟩⟩
 exact SB.of (zZ (Gs (yT (zMc T.cl T.nB (zD 0 rfl)) (zH 1 rfl))).ex) (by unfold wH;simp only[bnd])
def yJ(q0:aF C)(q1:Str):Option LI:=((some q0.marks).bind λxs=>n7 (λ(s1:Unit) (x3:Str×LI)=>if(decide (x3.1=q1))=true then(kO x3.2).bind λb=>some (.rt b) else some (.nx ())) xs ()).bind λo=>o.els λs2=>some ([]:LI)
theorem fL:ao ["self","name","known","stands"] ["self","name"] (zI dz):=fsc
abbrev zBw(K:Frag)(C:Addr):Sp:=bY K false (λa:(aF C)×Str×Unit=>([.z a.1,.z a.2.1]:SL K)) (λa=>yJ a.1 a.2.1)
theorem zEf(F:aW K "marked" "Machine.marked" dz f fd)(B:Bl K mg)(T:Cl K mg C)(bT:mg "sorted" = none):aq P w K mg base aN (k+1) f fd ["self","name"] (zBw K C):=by
 refine yI F fL (λ_=>rfl) (λ_=>rfl) λcdv A outer s H E hr=>?_
 have nd:=fL.nd
 refine⟨_,(zB (xK aa6 rfl (yL K (Cp K (pv 0))) (Fg rfl (yS (bV 2 nd) (yS (bV 3 nd) Bu))) (zB (yQ (zR (vJ K Str hr) (pv 2) (pv 1) (yK _)) (zB (zN (zW (Z9 K) rfl bT Z7 (zA (pv 3) zF))) zG) zG) zG)) (zB (zN (xY zF)) zG)),?_⟩
 rintro Fa ⟨q0,q1,⟨⟩⟩
 exact SB.of (Zz (ZL (n:=false) (L:=(λs1:Unit=>([.z q0,.z q1,.un,.un]:SL K))) () bN (yN (zKo T.cl T.nM (yM 0 rfl))) (λs1=>(Mv 2 3 rfl rfl (λ_=>rfl) rfl)) (λs1 x3=>(ZD (yF (md:=.hp) (vK (zH 2 rfl) (zH 1 rfl))) (zZ (zMd (zD 3 rfl)).ex) (ZC (λs1:Unit=>([.z q0,.z q1,.un,.un]:SL K)) () bN)))) (λs2=>(zZ (zx (α:=Int)).ex))) (by unfold yJ;simp only[bnd])
def wA(q0:aF C)(q1:Int):Option LI:=(aU q0.fair q1).bind λa1=>kO a1
theorem eN:ao ["self","number"] ["self","number"] (zI cY):=fsc
abbrev zBj(K:Frag)(C:Addr):Sp:=bY K false (λa:(aF C)×Int×Unit=>([.z a.1,.z a.2.1]:SL K)) (λa=>wA a.1 a.2.1)
theorem zDi(F:aW K "fair_at" "Machine.fair_at" cY f fd)(B:Bl K mg)(T:Cl K mg C)(bT:mg "sorted" = none):aq P w K mg base aN (k+1) f fd ["self","number"] (zBj K C):=by
 refine yI F eN (λ_=>rfl) (λ_=>rfl) λcdv A outer s H E hr=>?_
 have nd:=eN.nd
 refine⟨_,(zB (zN (zW (Z9 K) rfl bT Z7 (zA (yD (aO K) (Cp K (pv 0)) (pv 1) (λ_ _=>rfl)) zF))) zG),?_⟩
 rintro Fa ⟨q0,q1,⟨⟩⟩
 exact SB.of (zZ (zMd (yT (Z5 T.cl T.nF (zD 0 rfl)) (zH 1 rfl))).ex) (by unfold wA;simp only[bnd])
def yV(q0:aF C):Option LI:=(xD q0).bind λa1=>Er a1
theorem jT:ao ["machine"] ["machine"] (zI gM):=fsc
abbrev vL(K:Frag)(C:Addr):Sp:=bY K false (λa:(aF C)×Unit=>([.z a.1]:SL K)) (λa=>yV a.1)
theorem zIp(F:aW K "everywhere" "everywhere" gM f fd)(B:Bl K mg)(aM:gH P w K mg base k C "many" ["self"] (vD K C)):aq P w K mg base aN (k+1) f fd ["machine"] (vL K C):=by
 refine yI F jT (λ_=>rfl) (λ_=>rfl) λcdv A outer s H E hr=>?_
 have nd:=jT.nd
 refine⟨_,(zB (zN (zM7 rfl rfl B.list rfl B.range (zA (Xc aM hr (pv 0)) zF))) zG),?_⟩
 rintro Fa ⟨q0,⟨⟩⟩
 exact SB.of (zZ (zV5 (Gy (by decide +kernel) (zD 0 rfl) zL)).ex) (by unfold yV;simp only[bnd])
def RT(q0:aF C)(q1:LI):Option (List Bool):=(((xD q0).bind λa2=>bL a2).bind λxs=>aK (λ(x3:Int)=>some true) (λ(x3:Int)=>some false) xs).bind λeU=>((some q1).bind λxs=>xR (λ(s4:List Bool) (x6:Int)=>(setAt s4 x6 true).bind λCP=>some CP) xs eU).bind λs5=>some s5
theorem tH:ao ["machine","stands","told","stand"] ["machine","stands"] (zI rm):=fsc
abbrev zMp(K:Frag)(C:Addr):Sp:=bY K false (λa:(aF C)×LI×Unit=>([.z a.1,.z a.2.1]:SL K)) (λa=>RT a.1 a.2.1)
theorem zVb(F:aW K "flags" "flags" rm f fd)(B:Bl K mg)(aM:gH P w K mg base k C "many" ["self"] (vD K C)):aq P w K mg base aN (k+1) f fd ["machine","stands"] (zMp K C):=by
 refine yI F tH (λ_=>rfl) (λ_=>rfl) λcdv A outer s H E hr=>?_
 have nd:=tH.nd
 refine⟨_,(zB (BZ (i:=2) (own:=["stand"]) (ix:=[]) nd rfl rfl rfl rfl rfl (xG rfl B.range (zA (Xc aM hr (pv 0)) zF)) (λC s H fp=>yE (i:=0) (show(["stand"]:List Str).Nodup from by decide +kernel) rfl (Or.inl rfl)) (λC s H fp=>wJ) (λC s H fp=>Bd)) (zB (xK aa6 rfl (yL K (pv 1)) (bV 3 nd) (zB (Jl Bd (QL (pv 2) (pv 3) LQ)) zG)) (zB (zN (pv 2)) zG))),?_⟩
 rintro Fa ⟨q0,q1,⟨⟩⟩
 exact SB.of (zV (yh true 2 rfl rfl (yU (n:=true) (fG:=[.un]) (no:=1) (ix:=[]) rfl rfl (wF (Gy (by decide +kernel) (zD 0 rfl) zL)) (yA 0 rfl rfl) (λx3=>u_) (λx3=>(esc (Bj false))) (λx3=>cU))) (λeU=>(zV (wO (n:=false) (L:=(λs4:List Bool=>([.z q0,.z q1,.ow true s4,.un]:SL K))) eU bN (yN (yM 1 rfl)) (λs4=>(yA 3 rfl rfl)) (λs4 x6=>(zU (T4 2 rfl rfl (esc (Bj true)) (zH 3 rfl)) (λCP=>(yH (λs4:List Bool=>([.z q0,.z q1,.ow true s4,.un]:SL K)) CP bN))))) (λs5=>(Gk 2 rfl rfl))))) (by unfold RT;simp only[bnd])
def Pg(q0:LI)(q1:LI):Option LI:=qG q0 q1
theorem pC:ao ["one","other"] ["one","other"] (zI lY):=fsc
abbrev zGr(K:Frag):Sp:=bY K false (λa:LI×LI×Unit=>([.z a.1,.z a.2.1]:SL K)) (λa=>Pg a.1 a.2.1)
theorem zO7(F:aW K "without" "without" lY f fd)(B:Bl K mg)(bT:mg "sorted" = none)(nH:mg "set" = none):aq P w K mg base aN (k+1) f fd ["one","other"] (zGr K):=by
 refine yI F pC (λ_=>rfl) (λ_=>rfl) λcdv A outer s H E hr=>?_
 have nd:=pC.nd
 refine⟨_,(zB (zN (Xw rfl bT (Hl (Nr K rfl nH (pv 0)) (Nr K rfl nH (pv 1))))) zG),?_⟩
 rintro Fa ⟨q0,q1,⟨⟩⟩
 exact SB.of (zZ (zPv (zD 0 rfl) (zD 1 rfl)).ex) (by unfold Pg;simp only[bnd])
def xP(q0:aF C)(q1:LI):Option LI:=((yV q0).bind λa2=>some ((a2,(q1,())))).bind λz1=>Pg z1.1 z1.2.1
theorem qK:ao ["machine","stands"] ["machine","stands"] (zI oG):=fsc
abbrev Vp(K:Frag)(C:Addr):Sp:=bY K false (λa:(aF C)×LI×Unit=>([.z a.1,.z a.2.1]:SL K)) (λa=>xP a.1 a.2.1)
theorem zRz(F:aW K "others" "others" oG f fd)(B:Bl K mg)(aJ:bw P w K mg base k "everywhere" ["machine"] (vL K C))(dY:bw P w K mg base k "without" ["one","other"] (zGr K)):aq P w K mg base aN (k+1) f fd ["machine","stands"] (Vp K C):=by
 refine yI F qK (λ_=>rfl) (λ_=>rfl) λcdv A outer s H E hr=>?_
 have nd:=qK.nd
 refine⟨_,(zB (zN (zY dY hr (zA (zY aJ hr (zA (pv 0) zF)) (zA (pv 1) zF)))) zG),?_⟩
 rintro Fa ⟨q0,q1,⟨⟩⟩
 exact SB.of (zZ (zJ (zE (zJ (zE (zD 0 rfl) zL)) (zE (zD 1 rfl) zL)))) (by unfold xP;simp only[bnd])
def uE(q0:LI)(q1:LI):Option LI:=Ho q0 q1
theorem mZ:ao ["one","other"] ["one","other"] (zI jZ):=fsc
abbrev zEn(K:Frag):Sp:=bY K false (λa:LI×LI×Unit=>([.z a.1,.z a.2.1]:SL K)) (λa=>uE a.1 a.2.1)
theorem zLr(F:aW K "together" "together" jZ f fd)(B:Bl K mg)(bT:mg "sorted" = none)(nH:mg "set" = none):aq P w K mg base aN (k+1) f fd ["one","other"] (zEn K):=by
 refine yI F mZ (λ_=>rfl) (λ_=>rfl) λcdv A outer s H E hr=>?_
 have nd:=mZ.nd
 refine⟨_,(zB (zN (Xw rfl bT (NP (Nr K rfl nH (pv 0)) (Nr K rfl nH (pv 1))))) zG),?_⟩
 rintro Fa ⟨q0,q1,⟨⟩⟩
 exact SB.of (zZ (zS3 (zD 0 rfl) (zD 1 rfl)).ex) (by unfold uE;simp only[bnd])
def wC(q0:LI)(q1:LI):Option LI:=yq q0 q1
theorem qL:ao ["one","other"] ["one","other"] (zI oH):=fsc
abbrev RV(K:Frag):Sp:=bY K false (λa:LI×LI×Unit=>([.z a.1,.z a.2.1]:SL K)) (λa=>wC a.1 a.2.1)
theorem zRy(F:aW K "shared" "shared" oH f fd)(B:Bl K mg)(bT:mg "sorted" = none)(nH:mg "set" = none):aq P w K mg base aN (k+1) f fd ["one","other"] (RV K):=by
 refine yI F qL (λ_=>rfl) (λ_=>rfl) λcdv A outer s H E hr=>?_
 have nd:=qL.nd
 refine⟨_,(zB (zN (Xw rfl bT (G5 (Nr K rfl nH (pv 0)) (Nr K rfl nH (pv 1))))) zG),?_⟩
 rintro Fa ⟨q0,q1,⟨⟩⟩
 exact SB.of (zZ (zPx (zD 0 rfl) (zD 1 rfl)).ex) (by unfold wC;simp only[bnd])
def Vq(q0:aF C)(q1:LI)(q2:LI):Option (List (Option Int)):=(RT q0 q1).bind λb_=>(((xD q0).bind λa3=>bL a3).bind λxs=>aK (λ(x4:Int)=>some true) (λ(x4:Int)=>some (none:Option Int)) xs).bind λCQ=>((some q2).bind λxs=>xR (λ(s5:List (Option Int)) (x7:Int)=>(setAt s5 x7 (some (0:Int))).bind λCT=>some CT) xs CQ).bind λs6=>(some q2).bind λPh=>(some (0:Int)).bind λrK=>(Jz (λiH:(List (Option Int))×LI×Int=>some (decide (iH.2.2<(iH.2.1.length:Int)))) (λiH:(List (Option Int))×LI×Int=>(aU iH.2.1 iH.2.2).bind λgU=>((wH q0 gU).bind λxs=>xR (λ(rN:(List (Option Int))×LI) (Pj:Int)=>(((aU b_ Pj).bind λc18=>if c18=true then(aU rN.1 Pj).bind λa17=>some a17.isNone else some false).bind λb=>if b=true then(((((aU rN.1 gU).bind λa22=>a22).bind λa23=>some (a23+(1:Int))).bind λa24=>some (some a24)).bind λa25=>setAt rN.1 Pj a25).bind λgV=>(push rN.2 Pj).bind λCV=>some (gV,CV) else some (rN.1,rN.2)).bind λAj=>some (Aj.1,Aj.2)) xs (iH.1,iH.2.1)).bind λVr=>(some (iH.2.2+(1:Int))).bind λrO=>some (Vr.1,Vr.2,rO)) fuel (s6,Ph,rK)).bind λs12=>some s12.1
theorem lu:ao ["machine","through","goal","passable","told","stand","row","place","source"] ["machine","through","goal"] (zI iV):=fsc
abbrev zGz(K:Frag)(C:Addr):Sp:=bY K false (λa:(aF C)×LI×LI×Unit=>([.z a.1,.z a.2.1,.z a.2.2.1]:SL K)) (λa=>Vq a.1 a.2.1 a.2.2.1)
theorem zKc(F:aW K "distances" "distances" iV f fd)(B:Bl K mg)(dF:gH P w K mg base k C "before" ["self","stand"] (zBx K C))(aM:gH P w K mg base k C "many" ["self"] (vD K C))(jx:bw P w K mg base k "flags" ["machine","stands"] (zMp K C)):aq P w K mg base aN (k+1) f fd ["machine","through","goal"] (zGz K C):=by
 refine yI F lu (λ_=>rfl) (λ_=>rfl) λcdv A outer s H E hr=>?_
 have nd:=lu.nd
 refine⟨_,(zB (xA 3 nd (zY jx hr (zA (pv 0) (zA (pv 1) zF)))) (zB (BZ (i:=4) (own:=["stand"]) (ix:=[]) nd rfl rfl rfl rfl rfl (xG rfl B.range (zA (Xc aM hr (pv 0)) zF)) (λC s H fp=>yE (i:=0) (show(["stand"]:List Str).Nodup from by decide +kernel) rfl (Or.inl rfl)) (λC s H fp=>wJ) (λC s H fp=>zW9)) (zB (xK aa6 rfl (yL K (pv 2)) (bV 5 nd) (zB (Jl zK (QL (pv 4) (pv 5) LQ)) zG)) (zB (xA 6 nd (vC (GD K) rfl B.list Ej (zA (pv 2) zF))) (zB (xA 7 nd zK) (zB (zUy aa6 (zR Tc (pv 7) (zW (uA K) rfl B.len abe (zA (pv 6) zF)) (yK _)) (zB (xA 5 nd (yD (aO K) (pv 6) (pv 7) (λ_ _=>rfl))) (zB (xK aa6 rfl (yL K (Ue dF hr (pv 0) (zA (pv 5) zF))) (bV 8 nd) (zB (yQ (PW.pt (pw_and (xO (yD (aO K) (pv 3) (pv 8) (λ_ _=>rfl))) (pw_and1 (Ji (Wj (yD (aO K) (pv 4) (pv 8) (λ_ _=>rfl))))))) (zB (Jl (wK Wr (yD (aO K) (pv 4) (pv 5) (λ_ _=>rfl)) zK) (QL (pv 4) (pv 8) LQ)) (zB (yP (Bk K abb abh abj wS (pv 6) (zA (pv 8) zF))) zG)) zG) zG)) (zB (zW8 (i:=7) nd rfl (by first|exact .inl rfl|exact .inr rfl) zK K6) zG)))) (zB (zN (pv 4)) zG))))))),?_⟩
 rintro Fa ⟨q0,q1,q2,⟨⟩⟩
 exact SB.of (zV (yR true 3 rfl rfl (zJ (zE (zD 0 rfl) (zE (zD 1 rfl) zL)))) (λb_=>(zV (yh true 4 rfl rfl (yU (n:=true) (fG:=[.un]) (no:=1) (ix:=[]) rfl rfl (wF (Gy (by decide +kernel) (zD 0 rfl) zL)) (yA 0 rfl rfl) (λx4=>u_) (λx4=>(esc (zSx (α:=Int)))) (λx4=>cU))) (λCQ=>(zV (wO (n:=false) (L:=(λs5:List (Option Int)=>([.z q0,.z q1,.z q2,.y b_,.ow true s5,.un,.un,.un,.un]:SL K))) CQ bN (yN (yM 2 rfl)) (λs5=>(yA 5 rfl rfl)) (λs5 x7=>(zU (T4 4 rfl rfl (esc (Zx (zP 0))) (zH 5 rfl)) (λCT=>(yH (λs5:List (Option Int)=>([.z q0,.z q1,.z q2,.y b_,.ow true s5,.un,.un,.un,.un]:SL K)) CT bN))))) (λs6=>(zV (yh true 6 rfl rfl (Gs (zD 2 rfl))) (λPh=>(zV (yR true 7 rfl rfl (esc (zP 0))) (λrK=>(zV (zUh (L:=(λiH:(List (Option Int))×LI×Int=>([.z q0,.z q1,.z q2,.y b_,.ow true iH.1,.un,.ow true iH.2.1,.y iH.2.2,.un]:SL K))) fuel (s6,Ph,rK) bN (λiH=>(yF (md:=.hp) (JB (zH 7 rfl) (uW (Ce 6 rfl))))) (λiH=>(zU (yR true 5 rfl rfl (esc (esc (yT (Ce 6 rfl) (zH 7 rfl))))) (λgU=>(zU (wO (n:=true) (L:=(λrN:(List (Option Int))×LI=>([.z q0,.z q1,.z q2,.y b_,.ow true rN.1,.y gU,.ow true rN.2,.y iH.2.2,.un]:SL K))) (iH.1,iH.2.1) bN (yN (Gy (by decide +kernel) (zD 0 rfl) (zE (esc (zH 5 rfl)) zL))) (λrN=>(yA 8 rfl rfl)) (λrN Pj=>(zU (uz (TY (cg (md:=.hp) (esc (yT (zD 3 rfl) (zH 8 rfl)))) (cg (md:=.hp) (W9 (esc (yT (Ce 4 rfl) (zH 8 rfl)))))) (zU (T4 4 rfl rfl (esc (Zx (W6 (Z0 (esc (yT (Ce 4 rfl) (zH 5 rfl)))) (zP 1)))) (zH 8 rfl)) (λgV=>(zU (vN 6 rfl rfl (esc (zH 8 rfl))) (λCV=>(yH (λVs:(List (Option Int))×LI=>([.z q0,.z q1,.z q2,.y b_,.ow true Vs.1,.y gU,.ow true Vs.2,.y iH.2.2,.y Pj]:SL K)) (gV,CV) bN))))) (yH (λVs:(List (Option Int))×LI=>([.z q0,.z q1,.z q2,.y b_,.ow true Vs.1,.y gU,.ow true Vs.2,.y iH.2.2,.y Pj]:SL K)) (rN.1,rN.2) bN)) (λAj=>(yH (λrN:(List (Option Int))×LI=>([.z q0,.z q1,.z q2,.y b_,.ow true rN.1,.y gU,.ow true rN.2,.y iH.2.2,.un]:SL K)) (Aj.1,Aj.2) bN))))) (λVr=>(zU (zW0 (s:=.un) 7 rfl (zP 1)) (λrO=>(yH (λiH:(List (Option Int))×LI×Int=>([.z q0,.z q1,.z q2,.y b_,.ow true iH.1,.un,.ow true iH.2.1,.y iH.2.2,.un]:SL K)) (Vr.1,Vr.2,rO) bN))))))))) (λs12=>(Gk 4 rfl rfl))))))))))))) (by unfold Vq;simp only[bnd])
def xL(q0:aF C)(q1:LI)(q2:LI):Option LI:=(Vq q0 q1 q2).bind λJ7=>(some (Eh J7)).bind λxs=>aK (λ(x2:Int×(Option Int))=>some x2.2.isSome) (λ(x2:Int×(Option Int))=>some x2.1) xs
theorem m5:ao ["machine","through","goal","away"] ["machine","through","goal"] (zI j4):=fsc
abbrev X_(K:Frag)(C:Addr):Sp:=bY K false (λa:(aF C)×LI×LI×Unit=>([.z a.1,.z a.2.1,.z a.2.2.1]:SL K)) (λa=>xL a.1 a.2.1 a.2.2.1)
theorem zLu(F:aW K "comes_to" "comes_to" j4 f fd)(B:Bl K mg)(jh:bw P w K mg base k "distances" ["machine","through","goal"] (zGz K C)):aq P w K mg base aN (k+1) f fd ["machine","through","goal"] (X_ K C):=by
 refine yI F m5 (λ_=>rfl) (λ_=>rfl) λcdv A outer s H E hr=>?_
 have nd:=m5.nd
 refine⟨_,(zB (xA 3 nd (zY jh hr (zA (pv 0) (zA (pv 1) (zA (pv 2) zF))))) (zB (zN (xH (own:=["stand","steps"]) (ix:=[]) rfl rfl rfl (Z6 K B.enum (zA (pv 3) zF)) (λC s H fp=>Zv (K:=K) (n:=2) rfl rfl (yS (yE (i:=0) (show(["stand","steps"]:List Str).Nodup from by decide +kernel) rfl (Or.inl rfl)) (yS (yE (i:=1) (show(["stand","steps"]:List Str).Nodup from by decide +kernel) rfl (Or.inl rfl)) Bu))) (λC s H fp=>wZ (Ji (Fb (pv 1)))) (λC s H fp=>(pv 0)))) zG)),?_⟩
 rintro Fa ⟨q0,q1,q2,⟨⟩⟩
 exact SB.of (zV (yR true 3 rfl rfl (zJ (zE (zD 0 rfl) (zE (zD 1 rfl) (zE (zD 2 rfl) zL))))) (λJ7=>(zZ (yU (n:=true) (fG:=[.un,.un]) (no:=2) (ix:=[]) rfl rfl (ZQ (yM 3 rfl)) (Mv 0 1 rfl rfl (λ_=>rfl) rfl) (λx2=>(cg (md:=.hp) (Gu (zH 1 rfl)))) (λx2=>(esc (zH 0 rfl))) (λx2=>cU)).ex))) (by unfold xL;simp only[bnd])
def uL(q0:aF C)(q1:Int)(q2:List Bool):Option Bool:=((xE q0 q1).bind λxs=>aK (λ(x1:Int)=>some true) (λ(x1:Int)=>aU q2 x1) xs).bind λa2=>some (a2.any id)
theorem jU:ao ["machine","stand","hit"] ["machine","stand","hit"] (zI gO):=fsc
abbrev zEy(K:Frag)(C:Addr):Sp:=bY K false (λa:(aF C)×Int×(List Bool)×Unit=>([.z a.1,.z a.2.1,.z a.2.2.1]:SL K)) (λa=>uL a.1 a.2.1 a.2.2.1)
theorem zIn(F:aW K "steps_into" "steps_into" gO f fd)(B:Bl K mg)(Pk:mg "any" = none)(aY:gH P w K mg base k C "next_of" ["self","stand"] (uJ K C)):aq P w K mg base aN (k+1) f fd ["machine","stand","hit"] (zEy K C):=by
 refine yI F jU (λ_=>rfl) (λ_=>rfl) λcdv A outer s H E hr=>?_
 have nd:=jU.nd
 refine⟨_,(zB (zN (zW (zTi K rfl) rfl Pk MN (zA (xH (own:=["after"]) (ix:=[2]) rfl rfl rfl (yL K (Ue aY hr (pv 0) (zA (pv 1) zF))) (λC s H fp=>yE (i:=0) (show(["after","hit"]:List Str).Nodup from by decide +kernel) rfl (Or.inl rfl)) (λC s H fp=>wJ) (λC s H fp=>(yD (aO K) (pv 1) (pv 0) (λ_ _=>rfl)))) zF))) zG),?_⟩
 rintro Fa ⟨q0,q1,q2,⟨⟩⟩
 exact SB.of (zZ (esc (zNu (yU (n:=true) (fG:=[.un,.z q2]) (no:=1) (ix:=[2]) rfl rfl (yN (Gy (by decide +kernel) (zD 0 rfl) (zE (esc (zH 1 rfl)) zL))) (yA 0 rfl rfl) (λx1=>u_) (λx1=>(esc (esc (yT (zD 1 rfl) (zH 0 rfl))))) (λx1=>cU)).ex))) (by unfold uL;simp only[bnd])
def vR(q0:aF C)(q1:LI)(q2:LI):Option LI:=(RT q0 q2).bind λhit1=>(some q1).bind λxs=>aK (λ(x2:Int)=>uL q0 x2 hit1) (λ(x2:Int)=>some x2) xs
theorem ji:ao ["machine","among","goal","hit"] ["machine","among","goal"] (zI fU):=fsc
abbrev zDz(K:Frag)(C:Addr):Sp:=bY K false (λa:(aF C)×LI×LI×Unit=>([.z a.1,.z a.2.1,.z a.2.2.1]:SL K)) (λa=>vR a.1 a.2.1 a.2.2.1)
theorem zG2(F:aW K "stepping_to" "stepping_to" fU f fd)(B:Bl K mg)(jx:bw P w K mg base k "flags" ["machine","stands"] (zMp K C))(gY:bw P w K mg base k "steps_into" ["machine","stand","hit"] (zEy K C)):aq P w K mg base aN (k+1) f fd ["machine","among","goal"] (zDz K C):=by
 refine yI F ji (λ_=>rfl) (λ_=>rfl) λcdv A outer s H E hr=>?_
 have nd:=ji.nd
 refine⟨_,(zB (xA 3 nd (zY jx hr (zA (pv 0) (zA (pv 2) zF)))) (zB (zN (xH (own:=["stand"]) (ix:=[0,3]) rfl rfl rfl (yL K (pv 1)) (λC s H fp=>yE (i:=0) (show(["stand","machine","hit"]:List Str).Nodup from by decide +kernel) rfl (Or.inl rfl)) (λC s H fp=>wZ (xO (zY gY hr (zA (pv 1) (zA (pv 0) (zA (pv 2) zF)))))) (λC s H fp=>(pv 0)))) zG)),?_⟩
 rintro Fa ⟨q0,q1,q2,⟨⟩⟩
 exact SB.of (zV (yR true 3 rfl rfl (zJ (zE (zD 0 rfl) (zE (zD 2 rfl) zL)))) (λhit1=>(zZ (yU (n:=false) (fG:=[.un,.z q0,.y hit1]) (no:=1) (ix:=[0,3]) rfl rfl (yN (yM 1 rfl)) (yA 0 rfl rfl) (λx2=>(cg (md:=.hp) (zJ (zE (zD 1 rfl) (zE (esc (zH 0 rfl)) (zE (zD 2 rfl) zL)))))) (λx2=>(esc (zH 0 rfl))) (λx2=>cU)).ex))) (by unfold vR;simp only[bnd])
def RW(q0:LI):Option Int:=(some (0:Int)).bind λeU=>((some q0).bind λxs=>xR (λ(s2:Int) (x4:Int)=>((Cu (1:Int) x4).bind λa6=>some (ac8 s2 a6)).bind λpD=>some pD) xs eU).bind λs3=>some s3
theorem pF:ao ["stands","told","stand"] ["stands"] (zI lZ):=fsc
abbrev zLb(K:Frag):Sp:=bY K false (λa:LI×Unit=>([.z a.1]:SL K)) (λa=>RW a.1)
theorem zPe(F:aW K "bits_of" "bits_of" lZ f fd)(B:Bl K mg):aq P w K mg base aN (k+1) f fd ["stands"] (zLb K):=by
 refine yI F pF (λ_=>rfl) (λ_=>rfl) λcdv A outer s H E hr=>?_
 have nd:=pF.nd
 refine⟨_,(zB (xA 1 nd zK) (zB (xK aa6 rfl (yL K (pv 0)) (bV 2 nd) (zB (zW8 (i:=1) nd rfl (by first|exact .inl rfl|exact .inr rfl) (wK Lf zK (pv 2)) JV) zG)) (zB (zN (pv 1)) zG))),?_⟩
 rintro Fa ⟨q0,⟨⟩⟩
 exact SB.of (zV (yR true 1 rfl rfl (esc (zP 0))) (λeU=>(zV (wO (n:=false) (L:=(λs2:Int=>([.z q0,.y s2,.un]:SL K))) eU bN (yN (yM 0 rfl)) (λs2=>(yA 2 rfl rfl)) (λs2 x4=>(zU (zW0 (s:=.un) 1 rfl (Nu (zP 1) (zH 2 rfl))) (λpD=>(yH (λs2:Int=>([.z q0,.y s2,.un]:SL K)) pD bN))))) (λs3=>(zZ (esc (zH 1 rfl))))))) (by unfold RW;simp only[bnd])
def vT(q0:aF C)(q1:LI):Option LI:=(RW q1).bind λdI=>(((xD q0).bind λa3=>bL a3).bind λxs=>aK (λ(x4:Int)=>some true) (λ(x4:Int)=>some (0:Int)) xs).bind λeV=>((some q1).bind λxs=>xR (λ(s5:LI) (x7:Int)=>(((((xE q0 x7).bind λa10=>some ((a10,()))).bind λz9=>RW z9.1).bind λa11=>some (abk a11 dI)).bind λa12=>setAt s5 x7 a12).bind λCW=>some CW) xs eV).bind λs6=>((some q1).bind λxs=>xR (λ(Ih:LI) (Pn:Int)=>((some q1).bind λxs=>xR (λ(CZ:LI) (x18:Int)=>(((((aU CZ x18).bind λa19=>kY a19 Pn).bind λa20=>some (abk a20 (1:Int))).bind λa21=>some (a21 != 0)).bind λb=>if b=true then((aU CZ Pn).bind λb25=>G7 (λi j=>ac8 i j) CZ x18 b25).bind λvm=>some vm else some CZ).bind λC_=>some C_) xs Ih).bind λPq=>some Pq) xs s6).bind λrN=>some rN
theorem jk:ao ["machine","within","inside","rows","stand","middle"] ["machine","within"] (zI fV):=fsc
abbrev zD1(K:Frag)(C:Addr):Sp:=bY K false (λa:(aF C)×LI×Unit=>([.z a.1,.z a.2.1]:SL K)) (λa=>vT a.1 a.2.1)
theorem zG3(F:aW K "onward_bits" "onward_bits" fV f fd)(B:Bl K mg)(aM:gH P w K mg base k C "many" ["self"] (vD K C))(aY:gH P w K mg base k C "next_of" ["self","stand"] (uJ K C))(jy:bw P w K mg base k "bits_of" ["stands"] (zLb K)):aq P w K mg base aN (k+1) f fd ["machine","within"] (zD1 K C):=by
 refine yI F jk (λ_=>rfl) (λ_=>rfl) λcdv A outer s H E hr=>?_
 have nd:=jk.nd
 refine⟨_,(zB (xA 2 nd (zY jy hr (zA (pv 1) zF))) (zB (BZ (i:=3) (own:=["stand"]) (ix:=[]) nd rfl rfl rfl rfl rfl (xG rfl B.range (zA (Xc aM hr (pv 0)) zF)) (λC s H fp=>yE (i:=0) (show(["stand"]:List Str).Nodup from by decide +kernel) rfl (Or.inl rfl)) (λC s H fp=>wJ) (λC s H fp=>zK)) (zB (xK aa6 rfl (yL K (pv 1)) (bV 4 nd) (zB (Jl (wK S_ (zY jy hr (zA (Ue aY hr (pv 0) (zA (pv 4) zF)) zF)) (pv 2)) (QL (pv 3) (pv 4) LQ)) zG)) (zB (xK aa6 rfl (yL K (pv 1)) (bV 5 nd) (zB (xK aa6 rfl (yL K (pv 1)) (bV 4 nd) (zB (yQ (zFv K (wK S_ (wK Ws (yD (aO K) (pv 3) (pv 4) (λ_ _=>rfl)) (pv 5)) zK)) (zB (Fj (pv 3) (pv 4) (zSu K) (yD (aO K) (pv 3) (pv 5) (λ_ _=>rfl)) JV LQ) zG) zG) zG)) zG)) (zB (zN (pv 3)) zG))))),?_⟩
 rintro Fa ⟨q0,q1,⟨⟩⟩
 exact SB.of (zV (yR true 2 rfl rfl (esc (zJ (zE (zD 1 rfl) zL)))) (λdI=>(zV (yh true 3 rfl rfl (yU (n:=true) (fG:=[.un]) (no:=1) (ix:=[]) rfl rfl (wF (Gy (by decide +kernel) (zD 0 rfl) zL)) (yA 0 rfl rfl) (λx4=>u_) (λx4=>(esc (zP 0))) (λx4=>cU))) (λeV=>(zV (wO (n:=false) (L:=(λs5:LI=>([.z q0,.z q1,.y dI,.ow true s5,.un,.un]:SL K))) eV bN (yN (yM 1 rfl)) (λs5=>(yA 4 rfl rfl)) (λs5 x7=>(zU (T4 3 rfl rfl (esc (Uu (zJ (zE (Gy (by decide +kernel) (zD 0 rfl) (zE (esc (zH 4 rfl)) zL)) zL)) (zH 2 rfl))) (zH 4 rfl)) (λCW=>(yH (λs5:LI=>([.z q0,.z q1,.y dI,.ow true s5,.un,.un]:SL K)) CW bN))))) (λs6=>(zV (wO (n:=false) (L:=(λIh:LI=>([.z q0,.z q1,.y dI,.ow true Ih,.un,.un]:SL K))) s6 bN (yN (yM 1 rfl)) (λIh=>(yA 5 rfl rfl)) (λIh Pn=>(zU (wO (n:=false) (L:=(λCZ:LI=>([.z q0,.z q1,.y dI,.ow true CZ,.un,.z Pn]:SL K))) Ih bN (yN (yM 1 rfl)) (λCZ=>(yA 4 rfl rfl)) (λCZ x18=>(zU (uz (zS2 (Uu (Xx (esc (yT (Ce 3 rfl) (zH 4 rfl))) (zH 5 rfl)) (zP 1))) (zU (zUj 3 rfl rfl (zH 4 rfl) (esc (yT (Ce 3 rfl) (zH 5 rfl)))) (λvm=>(yH (λPr:LI=>([.z q0,.z q1,.y dI,.ow true Pr,.z x18,.z Pn]:SL K)) vm bN))) (yH (λPr:LI=>([.z q0,.z q1,.y dI,.ow true Pr,.z x18,.z Pn]:SL K)) CZ bN)) (λC_=>(yH (λCZ:LI=>([.z q0,.z q1,.y dI,.ow true CZ,.un,.z Pn]:SL K)) C_ bN))))) (λPq=>(yH (λIh:LI=>([.z q0,.z q1,.y dI,.ow true Ih,.un,.un]:SL K)) Pq bN))))) (λrN=>(Gk 3 rfl rfl))))))))) (by unfold vT;simp only[bnd])
def Vt(q0:aF C)(q1:LI):Option (List LI):=(lX q1).bind λdJ=>(vT q0 dJ).bind λeV=>(some (([]:List LI))).bind λDd=>(some ()).bind λVu=>((some dJ).bind λxs=>xR (λ(s5:(List LI)×(List (Key×Bool))) (x7:Int)=>((if(!(nj (Dc.mk s5.2).kv x7).isSome)=true then(((aU eV x7).bind λa8=>kY a8 x7).bind λa9=>some (abk a9 (1:Int))).bind λa10=>some (a10 != 0) else some false).bind λb=>if b=true then((some dJ).bind λxs=>aK (λ(yr:Int)=>((((aU eV x7).bind λa15=>kY a15 yr).bind λa17=>((aU eV yr).bind λa16=>kY a16 x7).bind λVv=>some (abk a17 Vv)).bind λa19=>some (abk a19 (1:Int))).bind λa20=>some (a20 != 0)) (λ(yr:Int)=>some yr) xs).bind λpG=>(push s5.1 pG).bind λgV=>((some pG).bind λxs=>xR (λ(C_:List (Key×Bool)) (x24:Int)=>(dput C_ x24 true).bind λvo=>some vo) xs s5.2).bind λPr=>some (gV,Pr) else some (s5.1,s5.2)).bind λiH=>some (iH.1,iH.2)) xs ((Dd,([]:List (Key×Bool))))).bind λs6=>some s6.1
theorem tK:ao ["machine","within","stands","rows","told","done","stand","ring","other"] ["machine","within"] (zI rA):=fsc
abbrev zTu(K:Frag)(C:Addr):Sp:=bY K false (λa:(aF C)×LI×Unit=>([.z a.1,.z a.2.1]:SL K)) (λa=>Vt a.1 a.2.1)
theorem zU6(F:aW K "rings" "rings" rA f fd)(B:Bl K mg)(bT:mg "sorted" = none)(nH:mg "set" = none)(gq:bw P w K mg base k "onward_bits" ["machine","within"] (zD1 K C)):aq P w K mg base aN (k+1) f fd ["machine","within"] (zTu K C):=by
 refine yI F tK (λ_=>rfl) (λ_=>rfl) λcdv A outer s H E hr=>?_
 have nd:=tK.nd
 have hu:=Gf hr
 refine⟨_,(zB (xA 2 nd (Xw rfl bT (Nr K rfl nH (pv 1)))) (zB (xA 3 nd (zY gq hr (zA (pv 0) (zA (pv 2) zF)))) (zB (xA 4 nd (xY zF)) (zB (xA 5 nd Wx) (zB (xK aa6 rfl (yL K (pv 2)) (bV 6 nd) (zB (yQ (PW.pt (pw_and (Ji (zRq hu (pv 6) (pv 5))) (pw_and1 (zFv K (wK S_ (wK Ws (yD (aO K) (pv 3) (pv 6) (λ_ _=>rfl)) (pv 6)) zK))))) (zB (BZ (i:=7) (own:=["other"]) (ix:=[3,6]) nd rfl rfl rfl rfl rfl (yL K (pv 2)) (λC s H fp=>yE (i:=0) (show(["other","rows","stand"]:List Str).Nodup from by decide +kernel) rfl (Or.inl rfl)) (λC s H fp=>wZ (zFv K (wK S_ (wK S_ (wK Ws (yD (aO K) (pv 1) (pv 2) (λ_ _=>rfl)) (pv 0)) (wK Ws (yD (aO K) (pv 1) (pv 0) (λ_ _=>rfl)) (pv 2))) zK))) (λC s H fp=>(pv 0))) (zB (yP (Bk K abb abh abj wS (pv 4) (zA (pv 7) zF))) (zB (xK aa6 rfl (yL K (pv 7)) (bV 8 nd) (zB (Tj hu (pv 5) (pv 8) Bd rfl) zG)) zG))) zG) zG)) (zB (zN (pv 4)) zG)))))),?_⟩
 rintro Fa ⟨q0,q1,⟨⟩⟩
 exact SB.of (zV (yR true 2 rfl rfl (zPw (zD 1 rfl)).ex) (λdJ=>(zV (yR true 3 rfl rfl (zJ (zE (zD 0 rfl) (zE (zD 2 rfl) zL)))) (λeV=>(zV (yh true 4 rfl rfl (zx (α:=LI))) (λDd=>(zV (ZF (α:=Bool) 5 rfl rfl) (λVu=>(zV (wO (n:=true) (L:=(λs5:(List LI)×(List (Key×Bool))=>([.z q0,.z q1,.y dJ,.y eV,.ow true s5.1,.od (s5.2:List (Key×Bool)),.un,.un,.un]:SL K))) ((Dd,([]:List (Key×Bool)))) bN (yN (yM 2 rfl)) (λs5=>(yA 6 rfl rfl)) (λs5 x7=>(zU (uz (TY (cg (md:=.hp) (zS0 (zH 6 rfl) (zL9 5 rfl))) (zS2 (Uu (Xx (esc (yT (zD 3 rfl) (zH 6 rfl))) (zH 6 rfl)) (zP 1)))) (zU (yR true 7 rfl rfl (yU (n:=true) (fG:=[.un,.y eV,.y x7]) (no:=1) (ix:=[3,6]) rfl rfl (yN (yM 2 rfl)) (yA 0 rfl rfl) (λyr=>(zS2 (Uu (Uu (Xx (esc (yT (zD 1 rfl) (zH 2 rfl))) (zH 0 rfl)) (Xx (esc (yT (zD 1 rfl) (zH 0 rfl))) (zH 2 rfl))) (zP 1)))) (λyr=>(esc (zH 0 rfl))) (λyr=>cU)).ex) (λpG=>(zU (vN 4 rfl rfl (yM 7 rfl)) (λgV=>(zU (wO (n:=true) (L:=(λC_:List (Key×Bool)=>([.z q0,.z q1,.y dJ,.y eV,.ow true gV,.od (C_:List (Key×Bool)),.y x7,.y pG,.un]:SL K))) s5.2 bN (yN (yM 7 rfl)) (λC_=>(yA 8 rfl rfl)) (λC_ x24=>(zU (zQ5 5 rfl rfl (esc (Bj true)) (zH 8 rfl)) (λvo=>(yH (λC_:List (Key×Bool)=>([.z q0,.z q1,.y dJ,.y eV,.ow true gV,.od (C_:List (Key×Bool)),.y x7,.y pG,.un]:SL K)) vo bN))))) (λPr=>(yH (λs12:(List LI)×(List (Key×Bool))=>([.z q0,.z q1,.y dJ,.y eV,.ow true s12.1,.od (s12.2:List (Key×Bool)),.y x7,.un,.un]:SL K)) (gV,Pr) bN))))))) (yH (λs12:(List LI)×(List (Key×Bool))=>([.z q0,.z q1,.y dJ,.y eV,.ow true s12.1,.od (s12.2:List (Key×Bool)),.y x7,.un,.un]:SL K)) (s5.1,s5.2) bN)) (λiH=>(yH (λs5:(List LI)×(List (Key×Bool))=>([.z q0,.z q1,.y dJ,.y eV,.ow true s5.1,.od (s5.2:List (Key×Bool)),.un,.un,.un]:SL K)) (iH.1,iH.2) bN))))) (λs6=>(Gk 4 rfl rfl))))))))))) (by unfold Vt;simp only[bnd])
def Vw(q0:aF C)(q1:LI):Option (Option Int):=((bL (q0.fair.length:Int)).bind λxs=>n7 (λ(s1:Unit) (x3:Int)=>((((((wA q0 x3).bind λa5=>some ((a5,()))).bind λb6=>some (q1,b6)).bind λz4=>wC z4.1 z4.2.1).bind λa7=>some (a7.length:Int)).bind λa8=>some (decide (a8=(0:Int)))).bind λb=>if b=true then(some (some x3)).bind λb=>some (.rt b) else some (.nx ())) xs ()).bind λo=>o.els λs2=>some (none:Option Int)
theorem lB:ao ["machine","ring","number"] ["machine","ring"] (zI iW):=fsc
abbrev zGu(K:Frag)(C:Addr):Sp:=bY K false (λa:(aF C)×LI×Unit=>([.z a.1,.z a.2.1]:SL K)) (λa=>Vw a.1 a.2.1)
theorem zJ8(F:aW K "missed_by" "missed_by" iW f fd)(B:Bl K mg)(T:Cl K mg C)(cZ:gH P w K mg base k C "fair_at" ["self","number"] (zBj K C))(bH:bw P w K mg base k "shared" ["one","other"] (RV K)):aq P w K mg base aN (k+1) f fd ["machine","ring"] (zGu K C):=by
 refine yI F lB (λ_=>rfl) (λ_=>rfl) λcdv A outer s H E hr=>?_
 have nd:=lB.nd
 refine⟨_,(zB (xK aa6 rfl (xG rfl B.range (zA (zW (uA K) rfl B.len abe (zA (Cp K (pv 0)) zF)) zF)) (bV 2 nd) (zB (yQ (zR (vJ K Int hr) (zW (uA K) rfl B.len abe (zA (zY bH hr (zA (pv 1) (zA (Ue cZ hr (pv 0) (zA (pv 2) zF)) zF))) zF)) zK (yK _)) (zB (zN (pv 2)) zG) zG) zG)) (zB (zN zW9) zG)),?_⟩
 rintro Fa ⟨q0,q1,⟨⟩⟩
 exact SB.of (Zz (ZL (n:=true) (L:=(λs1:Unit=>([.z q0,.z q1,.un]:SL K))) () bN (wF (uW (Z5 T.cl T.nF (zD 0 rfl)))) (λs1=>(yA 2 rfl rfl)) (λs1 x3=>(ZD (yF (md:=.hp) (vK (uW (zJ (zE (zD 1 rfl) (zE (Gy (by decide +kernel) (zD 0 rfl) (zE (esc (zH 2 rfl)) zL)) zL)))) (zP 0))) (zZ (esc (Zx (zH 2 rfl)))) (ZC (λs1:Unit=>([.z q0,.z q1,.un]:SL K)) () bN)))) (λs2=>(zZ (esc (zSx (α:=Int)))))) (by unfold Vw;simp only[bnd])
def vI(q0:aF C)(q1:LI):Option (List LI):=(Vt q0 q1).bind λxs=>aK (λ(x1:LI)=>(Vw q0 x1).bind λa2=>some a2.isNone) (λ(x1:LI)=>some x1) xs
theorem jV:ao ["machine","within"] ["machine","within"] (zI gP):=fsc
abbrev zEz(K:Frag)(C:Addr):Sp:=bY K false (λa:(aF C)×LI×Unit=>([.z a.1,.z a.2.1]:SL K)) (λa=>vI a.1 a.2.1)
theorem zIo(F:aW K "fair_rings" "fair_rings" gP f fd)(B:Bl K mg)(jl:bw P w K mg base k "missed_by" ["machine","ring"] (zGu K C))(rP:bw P w K mg base k "rings" ["machine","within"] (zTu K C)):aq P w K mg base aN (k+1) f fd ["machine","within"] (zEz K C):=by
 refine yI F jV (λ_=>rfl) (λ_=>rfl) λcdv A outer s H E hr=>?_
 have nd:=jV.nd
 refine⟨_,(zB (zN (xH (own:=["ring"]) (ix:=[0]) rfl rfl rfl (yL K (zY rP hr (zA (pv 0) (zA (pv 1) zF)))) (λC s H fp=>yE (i:=0) (show(["ring","machine"]:List Str).Nodup from by decide +kernel) rfl (Or.inl rfl)) (λC s H fp=>wZ (Ji (Wj (zY jl hr (zA (pv 1) (zA (pv 0) zF)))))) (λC s H fp=>(pv 0)))) zG),?_⟩
 rintro Fa ⟨q0,q1,⟨⟩⟩
 exact SB.of (zZ (yU (n:=true) (fG:=[.un,.z q0]) (no:=1) (ix:=[0]) rfl rfl (yN (zJ (zE (zD 0 rfl) (zE (zD 1 rfl) zL)))) (yA 0 rfl rfl) (λx1=>(cg (md:=.hp) (W9 (zJ (zE (zD 1 rfl) (zE (zD 0 rfl) zL)))))) (λx1=>(yM 0 rfl)) (λx1=>cU)).ex) (by unfold vI;simp only[bnd])
def Pu(q0:List LI):Option LI:=(some ([]:LI)).bind λeU=>((some q0).bind λxs=>xR (λ(s2:LI) (x4:LI)=>(Cv s2 x4).bind λpD=>some pD) xs eU).bind λs3=>some s3
theorem qM:ao ["lists","told","things"] ["lists"] (zI oJ):=fsc
abbrev zOd(K:Frag):Sp:=bY K false (λa:((List LI))×Unit=>([.z a.1]:SL K)) (λa=>Pu a.1)
theorem zR6(F:aW K "joined" "joined" oJ f fd)(B:Bl K mg):aq P w K mg base aN (k+1) f fd ["lists"] (zOd K):=by
 refine yI F qM (λ_=>rfl) (λ_=>rfl) λcdv A outer s H E hr=>?_
 have nd:=qM.nd
 refine⟨_,(zB (xA 1 nd (xY zF)) (zB (xK aa6 rfl (yL K (pv 0)) (bV 2 nd) (zB (yP (Bk K abb ado adp Ze (pv 1) (zA (pv 2) zF))) zG)) (zB (zN (pv 1)) zG))),?_⟩
 rintro Fa ⟨q0,⟨⟩⟩
 exact SB.of (zV (yh true 1 rfl rfl (zx (α:=Int))) (λeU=>(zV (wO (n:=false) (L:=(λs2:LI=>([.z q0,.ow true s2,.un]:SL K))) eU bN (yN (yM 0 rfl)) (λs2=>(yA 2 rfl rfl)) (λs2 x4=>(zU (zQ4 1 rfl rfl (zD 2 rfl)) (λpD=>(yH (λs2:LI=>([.z q0,.ow true s2,.un]:SL K)) pD bN))))) (λs3=>(Gk 1 rfl rfl))))) (by unfold Pu;simp only[bnd])
def Eu(q0:aF C)(q1:LI):Option LI:=((((((vI q0 q1).bind λa2=>some ((a2,()))).bind λz1=>Pu z1.1).bind λa4=>some ((a4,()))).bind λb5=>some (q1,b5)).bind λb6=>some (q0,b6)).bind λz3=>xL z3.1 z3.2.1 z3.2.2.1
theorem yt:ao ["machine","within"] ["machine","within"] (zI vg):=fsc
abbrev Yb(K:Frag)(C:Addr):Sp:=bY K false (λa:(aF C)×LI×Unit=>([.z a.1,.z a.2.1]:SL K)) (λa=>Eu a.1 a.2.1)
theorem Ij(F:aW K "core" "core" vg f fd)(B:Bl K mg)(bU:bw P w K mg base k "comes_to" ["machine","through","goal"] (X_ K C))(gZ:bw P w K mg base k "fair_rings" ["machine","within"] (zEz K C))(pH:bw P w K mg base k "joined" ["lists"] (zOd K)):aq P w K mg base aN (k+1) f fd ["machine","within"] (Yb K C):=by
 refine yI F yt (λ_=>rfl) (λ_=>rfl) λcdv A outer s H E hr=>?_
 have nd:=yt.nd
 refine⟨_,(zB (zN (zY bU hr (zA (pv 0) (zA (pv 1) (zA (zY pH hr (zA (zY gZ hr (zA (pv 0) (zA (pv 1) zF))) zF)) zF))))) zG),?_⟩
 rintro Fa ⟨q0,q1,⟨⟩⟩
 exact SB.of (zZ (zJ (zE (zD 0 rfl) (zE (zD 1 rfl) (zE (zJ (zE (zJ (zE (zD 0 rfl) (zE (zD 1 rfl) zL))) zL)) zL))))) (by unfold Eu;simp only[bnd])
def RX(q0:aF C):Option LI:=(((yV q0).bind λa2=>some ((a2,()))).bind λb3=>some (q0,b3)).bind λz1=>Eu z1.1 z1.2.1
theorem tL:ao ["machine"] ["machine"] (zI s_alive):=fsc
abbrev zTz(K:Frag)(C:Addr):Sp:=bY K false (λa:(aF C)×Unit=>([.z a.1]:SL K)) (λa=>RX a.1)
theorem zVc(F:aW K "alive" "alive" s_alive f fd)(B:Bl K mg)(g8:bw P w K mg base k "core" ["machine","within"] (Yb K C))(aJ:bw P w K mg base k "everywhere" ["machine"] (vL K C)):aq P w K mg base aN (k+1) f fd ["machine"] (zTz K C):=by
 refine yI F tL (λ_=>rfl) (λ_=>rfl) λcdv A outer s H E hr=>?_
 have nd:=tL.nd
 refine⟨_,(zB (zN (zY g8 hr (zA (pv 0) (zA (zY aJ hr (zA (pv 0) zF)) zF)))) zG),?_⟩
 rintro Fa ⟨q0,⟨⟩⟩
 exact SB.of (zZ (zJ (zE (zD 0 rfl) (zE (zJ (zE (zD 0 rfl) zL)) zL)))) (by unfold RX;simp only[bnd])
def wQ(q0:aF C)(q1:LI)(q2:LI):Option LI:=(((yV q0).bind λa3=>((wC q1 q2).bind λa2=>some ((a2,()))).bind λb4=>some (a3,b4)).bind λb5=>some (q0,b5)).bind λz1=>vR z1.1 z1.2.1 z1.2.2.1
theorem lC:ao ["machine","living","part"] ["machine","living","part"] (zI iY):=fsc
abbrev zGt(K:Frag)(C:Addr):Sp:=bY K false (λa:(aF C)×LI×LI×Unit=>([.z a.1,.z a.2.1,.z a.2.2.1]:SL K)) (λa=>wQ a.1 a.2.1 a.2.2.1)
theorem zJ7(F:aW K "some_next" "some_next" iY f fd)(B:Bl K mg)(aJ:bw P w K mg base k "everywhere" ["machine"] (vL K C))(bH:bw P w K mg base k "shared" ["one","other"] (RV K))(gw:bw P w K mg base k "stepping_to" ["machine","among","goal"] (zDz K C)):aq P w K mg base aN (k+1) f fd ["machine","living","part"] (zGt K C):=by
 refine yI F lC (λ_=>rfl) (λ_=>rfl) λcdv A outer s H E hr=>?_
 have nd:=lC.nd
 refine⟨_,(zB (zN (zY gw hr (zA (pv 0) (zA (zY aJ hr (zA (pv 0) zF)) (zA (zY bH hr (zA (pv 1) (zA (pv 2) zF))) zF))))) zG),?_⟩
 rintro Fa ⟨q0,q1,q2,⟨⟩⟩
 exact SB.of (zZ (zJ (zE (zD 0 rfl) (zE (zJ (zE (zD 0 rfl) zL)) (zE (zJ (zE (zD 1 rfl) (zE (zD 2 rfl) zL))) zL))))) (by unfold wQ;simp only[bnd])
def xT(q0:aF C)(q1:LI)(q2:LI)(q3:LI):Option LI:=((((wC q1 q3).bind λa2=>some ((a2,()))).bind λb3=>some (q2,b3)).bind λb4=>some (q0,b4)).bind λz1=>xL z1.1 z1.2.1 z1.2.2.1
theorem lD:ao ["machine","living","left","right"] ["machine","living","left","right"] (zI iZ):=fsc
abbrev zGs(K:Frag)(C:Addr):Sp:=bY K false (λa:(aF C)×LI×LI×LI×Unit=>([.z a.1,.z a.2.1,.z a.2.2.1,.z a.2.2.2.1]:SL K)) (λa=>xT a.1 a.2.1 a.2.2.1 a.2.2.2.1)
theorem zJ6(F:aW K "some_till" "some_till" iZ f fd)(B:Bl K mg)(bU:bw P w K mg base k "comes_to" ["machine","through","goal"] (X_ K C))(bH:bw P w K mg base k "shared" ["one","other"] (RV K)):aq P w K mg base aN (k+1) f fd ["machine","living","left","right"] (zGs K C):=by
 refine yI F lD (λ_=>rfl) (λ_=>rfl) λcdv A outer s H E hr=>?_
 have nd:=lD.nd
 refine⟨_,(zB (zN (zY bU hr (zA (pv 0) (zA (pv 2) (zA (zY bH hr (zA (pv 1) (zA (pv 3) zF))) zF))))) zG),?_⟩
 rintro Fa ⟨q0,q1,q2,q3,⟨⟩⟩
 exact SB.of (zZ (zJ (zE (zD 0 rfl) (zE (zD 2 rfl) (zE (zJ (zE (zD 1 rfl) (zE (zD 3 rfl) zL))) zL))))) (by unfold xT;simp only[bnd])
def Vx(q0:aF C)(q1:LI)(q2:LI)(q3:LI):Option LI:=(((((xP q0 q3).bind λa2=>some ((a2,()))).bind λb3=>some (q1,b3)).bind λz1=>wC z1.1 z1.2.1).bind λa5=>some ((a5,(q2,())))).bind λz4=>Pg z4.1 z4.2.1
theorem m6:ao ["machine","living","left","right"] ["machine","living","left","right"] (zI j5):=fsc
abbrev zH0(K:Frag)(C:Addr):Sp:=bY K false (λa:(aF C)×LI×LI×LI×Unit=>([.z a.1,.z a.2.1,.z a.2.2.1,.z a.2.2.2.1]:SL K)) (λa=>Vx a.1 a.2.1 a.2.2.1 a.2.2.2.1)
theorem zLs(F:aW K "spoilers" "spoilers" j5 f fd)(B:Bl K mg)(bh:bw P w K mg base k "others" ["machine","stands"] (Vp K C))(bH:bw P w K mg base k "shared" ["one","other"] (RV K))(dY:bw P w K mg base k "without" ["one","other"] (zGr K)):aq P w K mg base aN (k+1) f fd ["machine","living","left","right"] (zH0 K C):=by
 refine yI F m6 (λ_=>rfl) (λ_=>rfl) λcdv A outer s H E hr=>?_
 have nd:=m6.nd
 refine⟨_,(zB (zN (zY dY hr (zA (zY bH hr (zA (pv 1) (zA (zY bh hr (zA (pv 0) (zA (pv 3) zF))) zF))) (zA (pv 2) zF)))) zG),?_⟩
 rintro Fa ⟨q0,q1,q2,q3,⟨⟩⟩
 exact SB.of (zZ (zJ (zE (zJ (zE (zD 1 rfl) (zE (zJ (zE (zD 0 rfl) (zE (zD 3 rfl) zL))) zL))) (zE (zD 2 rfl) zL)))) (by unfold Vx;simp only[bnd])
def wR(q0:aF C)(q1:LI)(q2:LI)(q3:LI):Option LI:=(xP q0 q3).bind λpI=>(((((Vx q0 q1 q2 q3).bind λa4=>some ((a4,()))).bind λb5=>some (pI,b5)).bind λb6=>some (q0,b6)).bind λz3=>xL z3.1 z3.2.1 z3.2.2.1).bind λyu=>((((((Eu q0 pI).bind λa8=>some ((a8,()))).bind λb9=>some (yu,b9)).bind λz7=>uE z7.1 z7.2.1).bind λa11=>some ((a11,()))).bind λb12=>some (q0,b12)).bind λVy=>xP Vy.1 Vy.2.1
theorem lE:ao ["machine","living","left","right","waiting","broken"] ["machine","living","left","right"] (zI i_):=fsc
abbrev zGy(K:Frag)(C:Addr):Sp:=bY K false (λa:(aF C)×LI×LI×LI×Unit=>([.z a.1,.z a.2.1,.z a.2.2.1,.z a.2.2.2.1]:SL K)) (λa=>wR a.1 a.2.1 a.2.2.1 a.2.2.2.1)
theorem zKb(F:aW K "each_till" "each_till" i_ f fd)(B:Bl K mg)(bU:bw P w K mg base k "comes_to" ["machine","through","goal"] (X_ K C))(g8:bw P w K mg base k "core" ["machine","within"] (Yb K C))(bh:bw P w K mg base k "others" ["machine","stands"] (Vp K C))(j8:bw P w K mg base k "spoilers" ["machine","living","left","right"] (zH0 K C))(dG:bw P w K mg base k "together" ["one","other"] (zEn K)):aq P w K mg base aN (k+1) f fd ["machine","living","left","right"] (zGy K C):=by
 refine yI F lE (λ_=>rfl) (λ_=>rfl) λcdv A outer s H E hr=>?_
 have nd:=lE.nd
 refine⟨_,(zB (xA 4 nd (zY bh hr (zA (pv 0) (zA (pv 3) zF)))) (zB (xA 5 nd (zY bU hr (zA (pv 0) (zA (pv 4) (zA (zY j8 hr (zA (pv 0) (zA (pv 1) (zA (pv 2) (zA (pv 3) zF))))) zF))))) (zB (zN (zY bh hr (zA (pv 0) (zA (zY dG hr (zA (pv 5) (zA (zY g8 hr (zA (pv 0) (zA (pv 4) zF))) zF))) zF)))) zG))),?_⟩
 rintro Fa ⟨q0,q1,q2,q3,⟨⟩⟩
 exact SB.of (zV (yR true 4 rfl rfl (zJ (zE (zD 0 rfl) (zE (zD 3 rfl) zL)))) (λpI=>(zV (yR true 5 rfl rfl (zJ (zE (zD 0 rfl) (zE (zD 4 rfl) (zE (zJ (zE (zD 0 rfl) (zE (zD 1 rfl) (zE (zD 2 rfl) (zE (zD 3 rfl) zL))))) zL))))) (λyu=>(zZ (zJ (zE (zD 0 rfl) (zE (zJ (zE (zD 5 rfl) (zE (zJ (zE (zD 0 rfl) (zE (zD 4 rfl) zL))) zL))) zL)))))))) (by unfold wR;simp only[bnd])
def yB(q0:aF C)(q1:LI)(q2:fH cl)(q3:List LI):Option LI:=if(jY (.one 1) q2.t)=true then((((aU q3 (0:Int)).bind λa2=>some ((a2,()))).bind λb3=>some (q1,b3)).bind λb4=>some (q0,b4)).bind λz1=>wQ z1.1 z1.2.1 z1.2.2.1 else if(jY (.one 2) q2.t)=true then((((((((((aU q3 (0:Int)).bind λa6=>some ((a6,()))).bind λb7=>some (q0,b7)).bind λz5=>xP z5.1 z5.2.1).bind λa9=>some ((a9,()))).bind λb10=>some (q1,b10)).bind λb11=>some (q0,b11)).bind λz8=>wQ z8.1 z8.2.1 z8.2.2.1).bind λa13=>some ((a13,()))).bind λPb=>some (q0,Pb)).bind λVz=>xP Vz.1 Vz.2.1 else if(jY (.two 2) q2.t)=true then((((aU q3 (0:Int)).bind λa17=>((aU q3 (1:Int)).bind λa16=>some ((a16,()))).bind λVv=>some (a17,Vv)).bind λb19=>some (q1,b19)).bind λb20=>some (q0,b20)).bind λPx=>xT Px.1 Px.2.1 Px.2.2.1 Px.2.2.2.1 else if(jY (.two 3) q2.t)=true then((((aU q3 (0:Int)).bind λa23=>((aU q3 (1:Int)).bind λa22=>some ((a22,()))).bind λVB=>some (a23,VB)).bind λb25=>some (q1,b25)).bind λb26=>some (q0,b26)).bind λPy=>wR Py.1 Py.2.1 Py.2.2.1 Py.2.2.2.1 else if(jY (.one 3) q2.t)=true then(((aU q3 (0:Int)).bind λa28=>some ((a28,()))).bind λb29=>some (q0,b29)).bind λz27=>Eu z27.1 z27.2.1 else if(jY (.one 4) q2.t)=true then(((((((yV q0).bind λa35=>(((((aU q3 (0:Int)).bind λa31=>some ((a31,()))).bind λb32=>some (q0,b32)).bind λz30=>xP z30.1 z30.2.1).bind λa34=>some ((a34,()))).bind λb36=>some (a35,b36)).bind λb37=>some (q1,b37)).bind λb38=>some (q0,b38)).bind λYc=>xT Yc.1 Yc.2.1 Yc.2.2.1 Yc.2.2.2.1).bind λa40=>some ((a40,()))).bind λb41=>some (q0,b41)).bind λz39=>xP z39.1 z39.2.1 else if(jY (.one 5) q2.t)=true then((((yV q0).bind λa44=>((aU q3 (0:Int)).bind λa43=>some ((a43,()))).bind λb45=>some (a44,b45)).bind λb46=>some (q1,b46)).bind λb47=>some (q0,b47)).bind λJ8=>xT J8.1 J8.2.1 J8.2.2.1 J8.2.2.2.1 else((((yV q0).bind λa50=>((aU q3 (0:Int)).bind λa49=>some ((a49,()))).bind λb51=>some (a50,b51)).bind λb52=>some (q1,b52)).bind λb53=>some (q0,b53)).bind λYd=>wR Yd.1 Yd.2.1 Yd.2.2.1 Yd.2.2.2.1
theorem c7:ao ["machine","living","saying","sets"] ["machine","living","saying","sets"] (zI cI):=fsc
abbrev uX(K:Frag)(C:Addr)(cl:Hd->Addr):Sp:=bY K false (λa:(aF C)×LI×(fH cl)×((List LI))×Unit=>([.z a.1,.z a.2.1,.z a.2.2.1,.z a.2.2.2.1]:SL K)) (λa=>yB a.1 a.2.1 a.2.2.1 a.2.2.2.1)
theorem zB2(F:aW K "meaning_over_walks" "meaning_over_walks" cI f fd)(B:Bl K mg)(I:oE P w K mg base kS cl fi di)(g8:bw P w K mg base k "core" ["machine","within"] (Yb K C))(fP:bw P w K mg base k "each_till" ["machine","living","left","right"] (zGy K C))(aJ:bw P w K mg base k "everywhere" ["machine"] (vL K C))(bh:bw P w K mg base k "others" ["machine","stands"] (Vp K C))(fQ:bw P w K mg base k "some_next" ["machine","living","part"] (zGt K C))(dO:bw P w K mg base k "some_till" ["machine","living","left","right"] (zGs K C)):aq P w K mg base aN (k+1) f fd ["machine","living","saying","sets"] (uX K C cl):=by
 refine yI F c7 (λ_=>rfl) (λ_=>rfl) λcdv A outer s H E hr=>?_
 have nd:=c7.nd
 refine⟨_,(zB (yQ (xO (zW (uB K (uR (a:=cl (.one 1)))) rfl B.qD uC (zA (pv 2) (zA (vA (v:=.ref (cl (.one 1))) rfl (I.ini.m1 1) rfl) zF)))) (zB (zN (zY fQ hr (zA (pv 0) (zA (pv 1) (zA (yD (aO K) (pv 3) zK (λ_ _=>rfl)) zF))))) zG) zG) (zB (yQ (xO (zW (uB K (uR (a:=cl (.one 2)))) rfl B.qD uC (zA (pv 2) (zA (vA (v:=.ref (cl (.one 2))) rfl (I.ini.m1 2) rfl) zF)))) (zB (zN (zY bh hr (zA (pv 0) (zA (zY fQ hr (zA (pv 0) (zA (pv 1) (zA (zY bh hr (zA (pv 0) (zA (yD (aO K) (pv 3) zK (λ_ _=>rfl)) zF))) zF)))) zF)))) zG) zG) (zB (yQ (xO (zW (uB K (uR (a:=cl (.two 2)))) rfl B.qD uC (zA (pv 2) (zA (vA (v:=.ref (cl (.two 2))) rfl (I.ini.m2 2) rfl) zF)))) (zB (zN (zY dO hr (zA (pv 0) (zA (pv 1) (zA (yD (aO K) (pv 3) zK (λ_ _=>rfl)) (zA (yD (aO K) (pv 3) zK (λ_ _=>rfl)) zF)))))) zG) zG) (zB (yQ (xO (zW (uB K (uR (a:=cl (.two 3)))) rfl B.qD uC (zA (pv 2) (zA (vA (v:=.ref (cl (.two 3))) rfl (I.ini.m2 3) rfl) zF)))) (zB (zN (zY fP hr (zA (pv 0) (zA (pv 1) (zA (yD (aO K) (pv 3) zK (λ_ _=>rfl)) (zA (yD (aO K) (pv 3) zK (λ_ _=>rfl)) zF)))))) zG) zG) (zB (yQ (xO (zW (uB K (uR (a:=cl (.one 3)))) rfl B.qD uC (zA (pv 2) (zA (vA (v:=.ref (cl (.one 3))) rfl (I.ini.m1 3) rfl) zF)))) (zB (zN (zY g8 hr (zA (pv 0) (zA (yD (aO K) (pv 3) zK (λ_ _=>rfl)) zF)))) zG) zG) (zB (yQ (xO (zW (uB K (uR (a:=cl (.one 4)))) rfl B.qD uC (zA (pv 2) (zA (vA (v:=.ref (cl (.one 4))) rfl (I.ini.m1 4) rfl) zF)))) (zB (zN (zY bh hr (zA (pv 0) (zA (zY dO hr (zA (pv 0) (zA (pv 1) (zA (zY aJ hr (zA (pv 0) zF)) (zA (zY bh hr (zA (pv 0) (zA (yD (aO K) (pv 3) zK (λ_ _=>rfl)) zF))) zF))))) zF)))) zG) zG) (zB (yQ (xO (zW (uB K (uR (a:=cl (.one 5)))) rfl B.qD uC (zA (pv 2) (zA (vA (v:=.ref (cl (.one 5))) rfl (I.ini.m1 5) rfl) zF)))) (zB (zN (zY dO hr (zA (pv 0) (zA (pv 1) (zA (zY aJ hr (zA (pv 0) zF)) (zA (yD (aO K) (pv 3) zK (λ_ _=>rfl)) zF)))))) zG) zG) (zB (zN (zY fP hr (zA (pv 0) (zA (pv 1) (zA (zY aJ hr (zA (pv 0) zF)) (zA (yD (aO K) (pv 3) zK (λ_ _=>rfl)) zF)))))) zG)))))))),?_⟩
 rintro Fa ⟨q0,q1,q2,q3,⟨⟩⟩
 exact SB.of (xM (cg (md:=.hp) (vE I (.one 1) (zD 2 rfl))) (zZ (zJ (zE (zD 0 rfl) (zE (zD 1 rfl) (zE (yT (zD 3 rfl) (zP 0)) zL))))) (xM (cg (md:=.hp) (vE I (.one 2) (zD 2 rfl))) (zZ (zJ (zE (zD 0 rfl) (zE (zJ (zE (zD 0 rfl) (zE (zD 1 rfl) (zE (zJ (zE (zD 0 rfl) (zE (yT (zD 3 rfl) (zP 0)) zL))) zL)))) zL)))) (xM (cg (md:=.hp) (vE I (.two 2) (zD 2 rfl))) (zZ (zJ (zE (zD 0 rfl) (zE (zD 1 rfl) (zE (yT (zD 3 rfl) (zP 0)) (zE (yT (zD 3 rfl) (zP 1)) zL)))))) (xM (cg (md:=.hp) (vE I (.two 3) (zD 2 rfl))) (zZ (zJ (zE (zD 0 rfl) (zE (zD 1 rfl) (zE (yT (zD 3 rfl) (zP 0)) (zE (yT (zD 3 rfl) (zP 1)) zL)))))) (xM (cg (md:=.hp) (vE I (.one 3) (zD 2 rfl))) (zZ (zJ (zE (zD 0 rfl) (zE (yT (zD 3 rfl) (zP 0)) zL)))) (xM (cg (md:=.hp) (vE I (.one 4) (zD 2 rfl))) (zZ (zJ (zE (zD 0 rfl) (zE (zJ (zE (zD 0 rfl) (zE (zD 1 rfl) (zE (zJ (zE (zD 0 rfl) zL)) (zE (zJ (zE (zD 0 rfl) (zE (yT (zD 3 rfl) (zP 0)) zL))) zL))))) zL)))) (xM (cg (md:=.hp) (vE I (.one 5) (zD 2 rfl))) (zZ (zJ (zE (zD 0 rfl) (zE (zD 1 rfl) (zE (zJ (zE (zD 0 rfl) zL)) (zE (yT (zD 3 rfl) (zP 0)) zL)))))) (zZ (zJ (zE (zD 0 rfl) (zE (zD 1 rfl) (zE (zJ (zE (zD 0 rfl) zL)) (zE (yT (zD 3 rfl) (zP 0)) zL))))))))))))) (by unfold yB;simp only[bnd])
def vV(q0:aF C)(q1:LI)(q2:fH cl)(q3:List LI):Option LI:=if(jY .all q2.t)=true then yV q0 else if(jY .mark q2.t)=true then(q2.name.bind λa2=>some ((a2,()))).bind λz1=>yJ q0 z1.1 else if(jY (.one 0) q2.t)=true then(((aU q3 (0:Int)).bind λa4=>some ((a4,()))).bind λb5=>some (q0,b5)).bind λz3=>xP z3.1 z3.2.1 else if(jY (.two 0) q2.t)=true then((aU q3 (0:Int)).bind λa8=>((aU q3 (1:Int)).bind λa7=>some ((a7,()))).bind λb9=>some (a8,b9)).bind λz6=>wC z6.1 z6.2.1 else if(jY (.two 1) q2.t)=true then((aU q3 (0:Int)).bind λa12=>((aU q3 (1:Int)).bind λa11=>some ((a11,()))).bind λIi=>some (a12,Ii)).bind λVy=>uE Vy.1 Vy.2.1 else yB q0 q1 q2 q3
theorem pJ:ao ["machine","living","saying","sets"] ["machine","living","saying","sets"] (zI mz):=fsc
abbrev zK5(K:Frag)(C:Addr)(cl:Hd->Addr):Sp:=bY K false (λa:(aF C)×LI×(fH cl)×((List LI))×Unit=>([.z a.1,.z a.2.1,.z a.2.2.1,.z a.2.2.2.1]:SL K)) (λa=>vV a.1 a.2.1 a.2.2.1 a.2.2.2.1)
theorem zO8(F:aW K "meaning" "meaning" mz f fd)(B:Bl K mg)(I:oE P w K mg base kS cl fi di)(dH:gH P w K mg base k C "marked" ["self","name"] (zBw K C))(aJ:bw P w K mg base k "everywhere" ["machine"] (vL K C))(cL:bw P w K mg base k "meaning_over_walks" ["machine","living","saying","sets"] (uX K C cl))(bh:bw P w K mg base k "others" ["machine","stands"] (Vp K C))(bH:bw P w K mg base k "shared" ["one","other"] (RV K))(dG:bw P w K mg base k "together" ["one","other"] (zEn K)):aq P w K mg base aN (k+1) f fd ["machine","living","saying","sets"] (zK5 K C cl):=by
 refine yI F pJ (λ_=>rfl) (λ_=>rfl) λcdv A outer s H E hr=>?_
 have nd:=pJ.nd
 refine⟨_,(zB (yQ (xO (zW (uB K (uR (a:=cl .all))) rfl B.qD uC (zA (pv 2) (zA (vA (v:=.ref (cl .all)) rfl I.ini.mA rfl) zF)))) (zB (zN (zY aJ hr (zA (pv 0) zF))) zG) zG) (zB (yQ (xO (zW (uB K (uR (a:=cl .mark))) rfl B.qD uC (zA (pv 2) (zA (vA (v:=.ref (cl .mark)) rfl I.ini.mM rfl) zF)))) (zB (zN (Ue dH hr (pv 0) (zA (Cp K (pv 2)) zF))) zG) zG) (zB (yQ (xO (zW (uB K (uR (a:=cl (.one 0)))) rfl B.qD uC (zA (pv 2) (zA (vA (v:=.ref (cl (.one 0))) rfl (I.ini.m1 0) rfl) zF)))) (zB (zN (zY bh hr (zA (pv 0) (zA (yD (aO K) (pv 3) zK (λ_ _=>rfl)) zF)))) zG) zG) (zB (yQ (xO (zW (uB K (uR (a:=cl (.two 0)))) rfl B.qD uC (zA (pv 2) (zA (vA (v:=.ref (cl (.two 0))) rfl (I.ini.m2 0) rfl) zF)))) (zB (zN (zY bH hr (zA (yD (aO K) (pv 3) zK (λ_ _=>rfl)) (zA (yD (aO K) (pv 3) zK (λ_ _=>rfl)) zF)))) zG) zG) (zB (yQ (xO (zW (uB K (uR (a:=cl (.two 1)))) rfl B.qD uC (zA (pv 2) (zA (vA (v:=.ref (cl (.two 1))) rfl (I.ini.m2 1) rfl) zF)))) (zB (zN (zY dG hr (zA (yD (aO K) (pv 3) zK (λ_ _=>rfl)) (zA (yD (aO K) (pv 3) zK (λ_ _=>rfl)) zF)))) zG) zG) (zB (zN (zY cL hr (zA (pv 0) (zA (pv 1) (zA (pv 2) (zA (pv 3) zF)))))) zG)))))),?_⟩
 rintro Fa ⟨q0,q1,q2,q3,⟨⟩⟩
 exact SB.of (xM (cg (md:=.hp) (vE I .all (zD 2 rfl))) (zZ (zJ (zE (zD 0 rfl) zL))) (xM (cg (md:=.hp) (vE I .mark (zD 2 rfl))) (zZ (Gy (by decide +kernel) (zD 0 rfl) (zE (esc (esc (zPu I (zD 2 rfl)))) zL))) (xM (cg (md:=.hp) (vE I (.one 0) (zD 2 rfl))) (zZ (zJ (zE (zD 0 rfl) (zE (yT (zD 3 rfl) (zP 0)) zL)))) (xM (cg (md:=.hp) (vE I (.two 0) (zD 2 rfl))) (zZ (zJ (zE (yT (zD 3 rfl) (zP 0)) (zE (yT (zD 3 rfl) (zP 1)) zL)))) (xM (cg (md:=.hp) (vE I (.two 1) (zD 2 rfl))) (zZ (zJ (zE (yT (zD 3 rfl) (zP 0)) (zE (yT (zD 3 rfl) (zP 1)) zL)))) (zZ (zJ (zE (zD 0 rfl) (zE (zD 1 rfl) (zE (zD 2 rfl) (zE (zD 3 rfl) zL))))))))))) (by unfold vV;simp only[bnd])
def vP(rec:(aF C)->LI->(fH cl)->Option (List LI))(q0:aF C)(q1:LI)(q2:fH cl):Option (List LI):=(some (([]:List LI))).bind λeU=>(some (([]:List LI))).bind λDf=>((some q2.parts).bind λxs=>xR (λ(s3:(List LI)×(List LI)) (x5:fH cl)=>((rec q0 q1 x5).bind λa7=>Cy s3.1 a7).bind λyw=>((aU yw (-(1:Int))).bind λa9=>push s3.2 a9).bind λDg=>some (yw,Dg)) xs (eU,Df)).bind λs4=>((vV q0 q1 q2 s4.2).bind λa11=>push s4.1 a11).bind λDh=>some Dh
def wB:Nat->(aF C)->LI->(fH cl)->Option (List LI)
 |0=>λ_ _ _=>none
 |n+1=>vP (wB n)
theorem jm:ao ["machine","living","saying","told","sets","part"] ["machine","living","saying"] (zI fX):=fsc
abbrev Ye(K:Frag)(C:Addr)(cl:Hd->Addr)(rec:(aF C)->LI->(fH cl)->Option (List LI)):Sp:=bY K false (λa:(aF C)×LI×(fH cl)×Unit=>([.z a.1,.z a.2.1,.z a.2.2.1]:SL K)) (λa=>rec a.1 a.2.1 a.2.2.1)
abbrev zDy(K:Frag)(C:Addr)(cl:Hd->Addr):Sp:=Ye K C cl (wB 9 )
theorem zG1(F:aW K "table_among" "table_among" fX f fd)(B:Bl K mg)(I:oE P w K mg base kS cl fi di)(mO:bw P w K mg base k "meaning" ["machine","living","saying","sets"] (zK5 K C cl))(cQ:bw P w K mg base k "table_among" ["machine","living","saying"] (Ye K C cl rec)):aq P w K mg base aN (k+1) f fd ["machine","living","saying"] (Ye K C cl (vP rec)):=by
 refine yI F jm (λ_=>rfl) (λ_=>rfl) λcdv A outer s H E hr=>?_
 have nd:=jm.nd
 refine⟨_,(zB (xA 3 nd (xY zF)) (zB (xA 4 nd (xY zF)) (zB (xK aa6 rfl (zXm K (Cp K (pv 2))) (bV 5 nd) (zB (yP (Bk K abb ado adp Ze (pv 3) (zA (zY cQ hr (zA (pv 0) (zA (pv 1) (zA (pv 5) zF)))) zF))) (zB (yP (Bk K abb abh abj wS (pv 4) (zA (yD (aO K) (pv 3) (Bw YJ zK) (λ_ _=>rfl)) zF))) zG))) (zB (yP (Bk K abb abh abj wS (pv 3) (zA (zY mO hr (zA (pv 0) (zA (pv 1) (zA (pv 2) (zA (pv 4) zF))))) zF))) (zB (zN (pv 3)) zG))))),?_⟩
 rintro Fa ⟨q0,q1,q2,⟨⟩⟩
 exact SB.of (zV (yh true 3 rfl rfl (zx (α:=LI))) (λeU=>(zV (yh true 4 rfl rfl (zx (α:=LI))) (λDf=>(zV (wO (n:=false) (L:=(λs3:(List LI)×(List LI)=>([.z q0,.z q1,.z q2,.ow true s3.1,.ow true s3.2,.un]:SL K))) (eU,Df) bN (zV9 I (yM 2 rfl)) (λs3=>(yA 5 rfl rfl)) (λs3 x5=>(zU (zOu 3 rfl rfl (zJ (zE (zD 0 rfl) (zE (zD 1 rfl) (zE (zD 5 rfl) zL))))) (λyw=>(zU (vN 4 rfl rfl (Mz 3 rfl (zSy (zP 1)))) (λDg=>(yH (λs3:(List LI)×(List LI)=>([.z q0,.z q1,.z q2,.ow true s3.1,.ow true s3.2,.un]:SL K)) (yw,Dg) bN))))))) (λs4=>(zV (vN 3 rfl rfl (zJ (zE (zD 0 rfl) (zE (zD 1 rfl) (zE (zD 2 rfl) (zE (Ce 4 rfl) zL)))))) (λDh=>(Gk 3 rfl rfl))))))))) (by unfold vP;simp only[bnd])
def Yg(q0:aF C)(q1:fH cl):Option (List LI):=(((RX q0).bind λa2=>some ((a2,(q1,())))).bind λb3=>some (q0,b3)).bind λz1=>wB 9 z1.1 z1.2.1 z1.2.2.1
theorem tM:ao ["machine","saying"] ["machine","saying"] (zI rB):=fsc
abbrev zTt(K:Frag)(C:Addr)(cl:Hd->Addr):Sp:=bY K false (λa:(aF C)×(fH cl)×Unit=>([.z a.1,.z a.2.1]:SL K)) (λa=>Yg a.1 a.2.1)
theorem zU5(F:aW K "table" "table" rB f fd)(B:Bl K mg)(rQ:bw P w K mg base k "alive" ["machine"] (zTz K C))(cQ:bw P w K mg base k "table_among" ["machine","living","saying"] (zDy K C cl)):aq P w K mg base aN (k+1) f fd ["machine","saying"] (zTt K C cl):=by
 refine yI F tM (λ_=>rfl) (λ_=>rfl) λcdv A outer s H E hr=>?_
 have nd:=tM.nd
 refine⟨_,(zB (zN (zY cQ hr (zA (pv 0) (zA (zY rQ hr (zA (pv 0) zF)) (zA (pv 1) zF))))) zG),?_⟩
 rintro Fa ⟨q0,q1,⟨⟩⟩
 exact SB.of (zZ (zJ (zE (zD 0 rfl) (zE (zJ (zE (zD 0 rfl) zL)) (zE (zD 1 rfl) zL))))) (by unfold Yg;simp only[bnd])
def Ik(q0:aF C)(q1:fH cl):Option LI:=(Yg q0 q1).bind λa1=>aU a1 (-(1:Int))
theorem tQ:ao ["machine","saying"] ["machine","saying"] (zI rC):=fsc
abbrev zTy(K:Frag)(C:Addr)(cl:Hd->Addr):Sp:=bY K false (λa:(aF C)×(fH cl)×Unit=>([.z a.1,.z a.2.1]:SL K)) (λa=>Ik a.1 a.2.1)
theorem zVa(F:aW K "holds" "holds" rC f fd)(B:Bl K mg)(rR:bw P w K mg base k "table" ["machine","saying"] (zTt K C cl)):aq P w K mg base aN (k+1) f fd ["machine","saying"] (zTy K C cl):=by
 refine yI F tQ (λ_=>rfl) (λ_=>rfl) λcdv A outer s H E hr=>?_
 have nd:=tQ.nd
 refine⟨_,(zB (zN (yD (aO K) (zY rR hr (zA (pv 0) (zA (pv 1) zF))) (Bw YJ zK) (λ_ _=>rfl))) zG),?_⟩
 rintro Fa ⟨q0,q1,⟨⟩⟩
 exact SB.of (zZ (yT (zJ (zE (zD 0 rfl) (zE (zD 1 rfl) zL))) (zSy (zP 1)))) (by unfold Ik;simp only[bnd])
end
end Ts
set_option maxHeartbeats 40000000
namespace Ts
open PySem L2 Sy
section
variable{P:Program}{w:World}{K:Frag}{mg:Str->Option Value}{base:Heap}
seal L2.PE L2.PT L2.PW L2.PA L2.PS L2.nU L2.PC L2.PG L2.DP L2.PI L2.ql L2.PO
def uZ(q0:LI) :Option (Int×LI):=if(decide ((q0.length:Int)=(0:Int)))=true then some ((0:Int),q0) else q0.getLast?.bind λy=>some (y,q0.dropLast)
theorem qN:ao ["_law_rest"] ["_law_rest"] (zI oR):=fsc
abbrev zJc(K:Frag):Sp:=N5 K (λa:Unit=>([]:SL K)) (λws a=>uZ ws )
theorem zR4(F:aW K "_law_cell" "_law_cell" oR f fd)(B:Bl K mg):aq P w K mg base aN (k+1) f fd ["_law_rest"] (zJc K):=by
 refine zTa F qN (λ_=>rfl) (λ_=>rfl) λcdv A outer s H E hr=>?_
 have nd:=qN.nd
 refine⟨_,(zB (yQ (zR (vJ K Int hr) (zW (uA K) rfl B.len abe (zA (pv 0) zF)) zK (yK _)) (zB (zN zK) zG) zG) (zB (zN (MJ K abb PySem.F.slot_list_pop PySem.F.type_list_pop Mh (pv 0))) zG)),?_⟩
 rintro Fa p q0 ⟨⟩
 exact tD.of (Hs (yF (md:=.hp) (vK (Hu 0 rfl rfl) (zP 0))) (zQ9 0 rfl rfl (esc (zP 0))) (zUp 0 rfl rfl (Ht 0 rfl rfl))) (by unfold uZ;simp only[bnd])
def Il(q0:Int)(q1:Int):Option LI:=(some ([]:LI)).bind λeX=>((bL q1).bind λxs=>xR (λ(s2:LI×Int) (x4:Int)=>(((kJ s2.2 (2:Int)).bind λa5=>some (decide (a5=(1:Int)))).bind λb=>if b=true then(push s2.1 x4).bind λvp=>some vp else some s2.1).bind λs6=>(n8 s2.2 (2:Int)).bind λmQ=>some (s6,mQ)) xs (eX,q0)).bind λs3=>some s3.1
theorem qO:ao ["_law_cell_here","_law_many","_law_found","_law_stand"] ["_law_cell_here","_law_many"] (zI oV):=fsc
abbrev zOc(K:Frag):Sp:=bY K false (λa:Int×Int×Unit=>([.z a.1,.z a.2.1]:SL K)) (λa=>Il a.1 a.2.1)
theorem zR5(F:aW K "_law_bits" "_law_bits" oV f fd)(B:Bl K mg):aq P w K mg base aN (k+1) f fd ["_law_cell_here","_law_many"] (zOc K):=by
 refine yI F qO (λ_=>rfl) (λ_=>rfl) λcdv A outer s H E hr=>?_
 have nd:=qO.nd
 refine⟨_,(zB (xA 2 nd (xY zF)) (zB (xK aa6 rfl (xG rfl B.range (zA (pv 1) zF)) (bV 3 nd) (zB (yQ (zR (vJ K Int hr) (wK Bx (pv 0) zK) zK (yK _)) (zB (yP (Bk K abb abh abj wS (pv 2) (zA (pv 3) zF))) zG) zG) (zB (xA 0 nd (wK Jq (pv 0) zK)) zG))) (zB (zN (pv 2)) zG))),?_⟩
 rintro Fa ⟨q0,q1,⟨⟩⟩
 exact SB.of (zV (yh true 2 rfl rfl (zx (α:=Int))) (λeX=>(zV (wO (n:=true) (L:=(λs2:LI×Int=>([.z s2.2,.z q1,.ow true s2.1,.un]:SL K))) (eX,q0) bN (wF (zH 1 rfl)) (λs2=>(yA 3 rfl rfl)) (λs2 x4=>(zU (uz (yF (md:=.hp) (vK (Mx (zH 0 rfl) (zP 2)) (zP 1))) (zU (vN 2 rfl rfl (esc (zH 3 rfl))) (λvp=>(yH (λs7:LI=>([.z s2.2,.z q1,.ow true s7,.y x4]:SL K)) vp bN))) (yH (λs7:LI=>([.z s2.2,.z q1,.ow true s7,.y x4]:SL K)) s2.1 bN)) (λs6=>(zU (yR true 0 rfl rfl (esc (T_ (zH 0 rfl) (zP 2)))) (λmQ=>(yH (λs2:LI×Int=>([.z s2.2,.z q1,.ow true s2.1,.un]:SL K)) (s6,mQ) (Le.old bN)))))))) (λs3=>(Gk 2 rfl rfl))))) (by unfold Il;simp only[bnd])
def RZ(q0:Int)(q1:Int)(q2:Int):Option LI:=(some ([]:LI)).bind λeX=>(some q0).bind λDi=>((bL q2).bind λxs=>xR (λ(s3:LI×Int) (x5:Int)=>(((kJ s3.2 (3:Int)).bind λa6=>some (decide (a6=(1:Int)))).bind λb=>if b=true then(push s3.1 x5).bind λvq=>some vq else some s3.1).bind λs7=>(n8 s3.2 (3:Int)).bind λv7=>some (s7,v7)) xs (eX,Di)).bind λs4=>(if(decide (s4.1=([]:LI)))=true then((kJ (q0+q1) q2).bind λa14=>push s4.1 a14).bind λrT=>some rT else some s4.1).bind λiH=>some iH
theorem qP:ao ["_law_cell_here","_law_k","_law_many","_law_found","_law_rest","_law_stand"] ["_law_cell_here","_law_k","_law_many"] (zI oW):=fsc
abbrev zOb(K:Frag):Sp:=bY K false (λa:Int×Int×Int×Unit=>([.z a.1,.z a.2.1,.z a.2.2.1]:SL K)) (λa=>RZ a.1 a.2.1 a.2.2.1)
theorem zR1(F:aW K "_law_next" "_law_next" oW f fd)(B:Bl K mg):aq P w K mg base aN (k+1) f fd ["_law_cell_here","_law_k","_law_many"] (zOb K):=by
 refine yI F qP (λ_=>rfl) (λ_=>rfl) λcdv A outer s H E hr=>?_
 have nd:=qP.nd
 refine⟨_,(zB (xA 3 nd (xY zF)) (zB (xA 4 nd (pv 0)) (zB (xK aa6 rfl (xG rfl B.range (zA (pv 2) zF)) (bV 5 nd) (zB (yQ (zR (vJ K Int hr) (wK Bx (pv 4) zK) zK (yK _)) (zB (yP (Bk K abb abh abj wS (pv 3) (zA (pv 5) zF))) zG) zG) (zB (xA 4 nd (wK Jq (pv 4) zK)) zG))) (zB (yQ (zR (vJ K LI hr) (pv 3) (xY zF) (yK _)) (zB (yP (Bk K abb abh abj wS (pv 3) (zA (wK Bx (wK Wr (pv 0) (pv 1)) (pv 2)) zF))) zG) zG) (zB (zN (pv 3)) zG))))),?_⟩
 rintro Fa ⟨q0,q1,q2,⟨⟩⟩
 exact SB.of (zV (yh true 3 rfl rfl (zx (α:=Int))) (λeX=>(zV (yR true 4 rfl rfl (esc (zH 0 rfl))) (λDi=>(zV (wO (n:=true) (L:=(λs3:LI×Int=>([.z q0,.z q1,.z q2,.ow true s3.1,.y s3.2,.un]:SL K))) (eX,Di) bN (wF (zH 2 rfl)) (λs3=>(yA 5 rfl rfl)) (λs3 x5=>(zU (uz (yF (md:=.hp) (vK (Mx (zH 4 rfl) (zP 3)) (zP 1))) (zU (vN 3 rfl rfl (esc (zH 5 rfl))) (λvq=>(yH (λs8:LI=>([.z q0,.z q1,.z q2,.ow true s8,.y s3.2,.y x5]:SL K)) vq bN))) (yH (λs8:LI=>([.z q0,.z q1,.z q2,.ow true s8,.y s3.2,.y x5]:SL K)) s3.1 bN)) (λs7=>(zU (yR true 4 rfl rfl (esc (T_ (zH 4 rfl) (zP 3)))) (λv7=>(yH (λs3:LI×Int=>([.z q0,.z q1,.z q2,.ow true s3.1,.y s3.2,.un]:SL K)) (s7,v7) bN))))))) (λs4=>(zV (uz (yF (md:=.hp) (vK (Ce 3 rfl) (zx (α:=Int)).ex)) (zU (vN 3 rfl rfl (esc (Mx (W6 (zH 0 rfl) (zH 1 rfl)) (zH 2 rfl)))) (λrT=>(yH (λs12:LI=>([.z q0,.z q1,.z q2,.ow true s12,.y s4.2,.un]:SL K)) rT bN))) (yH (λs12:LI=>([.z q0,.z q1,.z q2,.ow true s12,.y s4.2,.un]:SL K)) s4.1 bN)) (λiH=>(Gk 3 rfl rfl))))))))) (by unfold RZ;simp only[bnd])
def VD(q0:LI) :Option ((uf (List LI) (List (Str×LI)) (List LI))×LI):=(uZ q0 ).bind λaL=>(((n8 aL.1 (8:Int)).bind λa3=>kJ a3 (7:Int)).bind λb4=>some ((1:Int)+b4)).bind λyx=>(((kJ aL.1 (8:Int)).bind λa5=>some (decide (a5=(1:Int)))).bind λb=>if b=true then(((n8 aL.1 (8:Int)).bind λa9=>kJ a9 (5:Int)).bind λb10=>some ((8:Int)+b10)).bind λDj=>some Dj else some yx).bind λs6=>((bL s6).bind λxs=>oF (λ(w13:LI) (x12:Int)=>(uZ w13 ).bind λr15=>(RZ r15.1 x12 s6).bind λb16=>some (b16,r15.2)) aL.2 xs).bind λcO=>(some (([]:List (Str×LI)))).bind λnO=>((some ([("p":Str),("wet":Str),("darkness":Str)])).bind λxs=>xR (λ(za:(List (Str×LI))×LI) (x20:Str)=>((((uZ za.2 ).bind λr23=>(Il r23.1 s6).bind λVB=>some (VB,r23.2)).bind λr25=>some ((x20,r25.1),r25.2)).bind λr26=>(push za.1 r26.1).bind λy27=>some (y27,r26.2)).bind λlF=>some (lF.1,lF.2)) xs (nO,cO.2)).bind λAj=>((((n8 aL.1 (60:Int)).bind λa29=>kJ a29 (4:Int)).bind λa30=>bL a30).bind λxs=>oF (λ(w32:LI) (x31:Int)=>(uZ w32 ).bind λr34=>(Il r34.1 s6).bind λb35=>some (b35,r34.2)) Aj.2 xs).bind λj9=>some (uf.mk cO.1 Aj.1 j9.1,j9.2)
theorem pL:ao ["_law_rest","_law_cell_here","_law_many","_law_steps","_law_marks","_law_name","_law_fair"] ["_law_rest"] (zI mG):=fsc
abbrev zK8(K:Frag):Sp:=N5 K (λa:Unit=>([]:SL K)) (λws a=>VD ws )
theorem zPb(F:aW K "_law_drawn" "_law_drawn" mG f fd)(B:Bl K mg)(lG:bw P w K mg base k "_law_bits" ["_law_cell_here","_law_many"] (zOc K))(eY:bw P w K mg base k "_law_cell" ["_law_rest"] (zJc K))(pN:bw P w K mg base k "_law_next" ["_law_cell_here","_law_k","_law_many"] (zOb K)):aq P w K mg base aN (k+1) f fd ["_law_rest"] (zK8 K):=by
 refine zTa F pL (λ_=>rfl) (λ_=>rfl) λcdv A outer s H E hr=>?_
 have nd:=pL.nd
 refine⟨_,(zB (xA 1 nd (zY eY hr (zA (pv 0) zF))) (zB (xA 2 nd (wK Wr zK (wK Bx (wK Jq (pv 1) zK) zK))) (zB (yQ (zR (vJ K Int hr) (wK Bx (pv 1) zK) zK (yK _)) (zB (xA 2 nd (wK Wr zK (wK Bx (wK Jq (pv 1) zK) zK))) zG) zG) (zB (BZ (i:=3) (own:=["_law_k"]) (ix:=[2,0]) nd rfl rfl rfl rfl rfl (xG rfl B.range (zA (pv 2) zF)) (λC s H fp=>yE (i:=0) (show(["_law_k","_law_many","_law_rest"]:List Str).Nodup from by decide +kernel) rfl (Or.inl rfl)) (λC s H fp=>wJ) (λC s H fp=>(zY pN hr (zA (zY eY hr (zA (pv 2) zF)) (zA (pv 0) (zA (pv 1) zF)))))) (zB (xA 4 nd (xY zF)) (zB (xK aa6 rfl (yL K (xY (zA zS (zA zS (zA zS zF))))) (bV 5 nd) (zB (yP (Bk K abb abh abj wS (pv 4) (zA (uU (zA (pv 5) (zA (zY lG hr (zA (zY eY hr (zA (pv 0) zF)) (zA (pv 2) zF))) zF))) zF))) zG)) (zB (BZ (i:=6) (own:=["_law_k"]) (ix:=[2,0]) nd rfl rfl rfl rfl rfl (xG rfl B.range (zA (wK Bx (wK Jq (pv 1) zK) zK) zF)) (λC s H fp=>yE (i:=0) (show(["_law_k","_law_many","_law_rest"]:List Str).Nodup from by decide +kernel) rfl (Or.inl rfl)) (λC s H fp=>wJ) (λC s H fp=>(zY lG hr (zA (zY eY hr (zA (pv 2) zF)) (zA (pv 1) zF))))) (zB (zN (uU (zA (pv 3) (zA (pv 4) (zA (pv 6) zF))))) zG)))))))),?_⟩
 rintro Fa p q0 ⟨⟩
 exact tD.of (N6 (zLg true 1 (λ_=>⟨_,rfl,rfl⟩) (Ad.ey (XJ 0 rfl rfl zL))) (λaL=>(Oe [.nu (RL.mk (p:=p) aL.2),.y aL.1,.un,.un,.un,.un,.un] (N6 (yR true 2 rfl rfl (esc (W6 (zP 1) (Mx (T_ (zH 1 rfl) (zP 8)) (zP 7))))) (λyx=>(Oe [.nu (RL.mk (p:=p) aL.2),.y aL.1,.y yx,.un,.un,.un,.un] (N6 (uz (yF (md:=.hp) (vK (Mx (zH 1 rfl) (zP 8)) (zP 1))) (zU (yR true 2 rfl rfl (esc (W6 (zP 8) (Mx (T_ (zH 1 rfl) (zP 8)) (zP 5))))) (λDj=>(yH (λs7:Int=>([.nu (RL.mk (p:=p) aL.2),.y aL.1,.y s7,.un,.un,.un,.un]:SL K)) Dj bN))) (yH (λs7:Int=>([.nu (RL.mk (p:=p) aL.2),.y aL.1,.y s7,.un,.un,.un,.un]:SL K)) yx bN)) (λs6=>(Oe [.nu (RL.mk (p:=p) aL.2),.y aL.1,.y s6,.un,.un,.un,.un] (N6 (zLg true 3 (λ_=>⟨_,rfl,rfl⟩) (Ad.ey (U7.eyn (λ_=>⟨0,_,rfl,rfl⟩) (zNw (n:=true) (n':=true) (fG:=λw13:LI=>([.un,.y s6,.nu (RL.mk (p:=p) w13)]:SL K)) (no:=1) (ix:=[2,0]) 0 rfl rfl (zXu rfl rfl) (wF (zH 2 rfl)) (λw13=>yA 0 rfl rfl) (λw13 x12=>u_) (λw13 x12=>(zGe (as:=(λa:Int×Int×Unit=>([.z a.1,.z a.2.1]:SL K))) (f:=(λa=>RZ a.1 a.2.1 a.2.2.1)) (XJ 2 rfl rfl zL) (λ_=>⟨2,_,rfl,rfl⟩) (λw14=>(zE (esc (zH 0 rfl)) (zE (esc (zH 1 rfl)) zL))))) (λw13 x12=>cU) (λw13 x12=>⟨2,rfl,rfl⟩))))) (λcO=>(Oe [.nu (RL.mk (p:=p) cO.2),.y aL.1,.y s6,.y cO.1,.un,.un,.un] (N6 (yh true 4 rfl rfl (zx (α:=Str×LI))) (λnO=>(Oe [.nu (RL.mk (p:=p) cO.2),.y aL.1,.y s6,.y cO.1,.ow true nO,.un,.un] (N6 (wO (n:=true) (L:=(λza:(List (Str×LI))×LI=>([.nu (RL.mk (p:=p) za.2),.y aL.1,.y s6,.y cO.1,.ow true za.1,.un,.un]:SL K))) (nO,cO.2) bN (yN (Gi (wU (esc (wY "p")) (wU (esc (wY "wet")) (wU (esc (wY "darkness")) Gh))) (λa h=>aa1 ((uP (uP (uP GF))) a h) (by decide))).ex) (λza=>(yA 5 rfl rfl)) (λza x20=>(zU (zOv (n:=true) 4 rfl rfl (λ_=>⟨rfl,rfl⟩) (zV0 (n:=true) (i:=0) rfl rfl (λ_=>⟨0,_,rfl,rfl⟩) (esc (zH 5 rfl)) (zGe (as:=(λa:Int×Unit=>([.z a.1]:SL K))) (f:=(λa=>Il a.1 a.2.1)) (XJ 0 rfl rfl zL) (λ_=>⟨0,_,rfl,rfl⟩) (λw22=>(zE (esc (zH 2 rfl)) zL))))) (λlF=>(yH (λza:(List (Str×LI))×LI=>([.nu (RL.mk (p:=p) za.2),.y aL.1,.y s6,.y cO.1,.ow true za.1,.un,.un]:SL K)) (lF.1,lF.2) bN))))) (λAj=>(Oe [.nu (RL.mk (p:=p) Aj.2),.y aL.1,.y s6,.y cO.1,.ow true Aj.1,.un,.un] (N6 (zLg true 6 (λ_=>⟨_,rfl,rfl⟩) (Ad.ey (U7.eyn (λ_=>⟨0,_,rfl,rfl⟩) (zNw (n:=true) (n':=true) (fG:=λw32:LI=>([.un,.y s6,.nu (RL.mk (p:=p) w32)]:SL K)) (no:=1) (ix:=[2,0]) 0 rfl rfl (zXu rfl rfl) (wF (Mx (T_ (zH 1 rfl) (zP 60)) (zP 4))) (λw32=>yA 0 rfl rfl) (λw32 x31=>u_) (λw32 x31=>(zGe (as:=(λa:Int×Unit=>([.z a.1]:SL K))) (f:=(λa=>Il a.1 a.2.1)) (XJ 2 rfl rfl zL) (λ_=>⟨2,_,rfl,rfl⟩) (λw33=>(zE (esc (zH 1 rfl)) zL)))) (λw32 x31=>cU) (λw32 x31=>⟨2,rfl,rfl⟩))))) (λj9=>(Oe [.nu (RL.mk (p:=p) j9.2),.y aL.1,.y s6,.y cO.1,.ow true Aj.1,.un,.y j9.1] (Hx (sl2:=[.nu (RL.mk (p:=p) j9.2),.y aL.1,.y s6,.y cO.1,.y Aj.1,.un,.y j9.1]) bN (zQ9 0 rfl rfl (zMa (md:=fu true) (yM 3 rfl) (yM 4 rfl) (yM 6 rfl))))))))))))))))))))))))) (by unfold VD;simp only[bnd])
def VF(q0:List LI)(q1:LI)(q2:Int):Option (List Bool):=(bL (q0.length:Int)).bind λxs=>aK (λ(x1:Int)=>some true) (λ(x1:Int)=>if(decide (q2∈q1))=true then if(decide (x1∈q1))=true then(aU q0 q2).bind λb2=>some (decide (x1∈b2)) else some false else some false) xs
theorem tR:ao ["_law_steps","_law_within","_law_s"] ["_law_steps","_law_within","_law_s"] (zI rD):=fsc
abbrev zTw(K:Frag):Sp:=bY K false (λa:((List LI))×LI×Int×Unit=>([.z a.1,.z a.2.1,.z a.2.2.1]:SL K)) (λa=>VF a.1 a.2.1 a.2.2.1)
theorem zU8(F:aW K "_law_row" "_law_row" rD f fd)(B:Bl K mg):aq P w K mg base aN (k+1) f fd ["_law_steps","_law_within","_law_s"] (zTw K):=by
 refine yI F tR (λ_=>rfl) (λ_=>rfl) λcdv A outer s H E hr=>?_
 have nd:=tR.nd
 refine⟨_,(zB (zN (xH (own:=["_law_t"]) (ix:=[2,1,0]) rfl rfl rfl (xG rfl B.range (zA (zW (uA K) rfl B.len abe (zA (pv 0) zF)) zF)) (λC s H fp=>yE (i:=0) (show(["_law_t","_law_s","_law_within","_law_steps"]:List Str).Nodup from by decide +kernel) rfl (Or.inl rfl)) (λC s H fp=>wJ) (λC s H fp=>(QF (Lh (u5 K) (pv 1) (pv 2) (by with_unfolding_all rfl)) (QF (Lh (u5 K) (pv 0) (pv 2) (by with_unfolding_all rfl)) (SX (Lh (u5 K) (pv 0) (yD (aO K) (pv 3) (pv 1) (λ_ _=>rfl)) (by with_unfolding_all rfl)))))))) zG),?_⟩
 rintro Fa ⟨q0,q1,q2,⟨⟩⟩
 exact SB.of (zZ (yU (n:=true) (fG:=[.un,.z q2,.z q1,.z q0]) (no:=1) (ix:=[2,1,0]) rfl rfl (wF (uW (zD 0 rfl))) (yA 0 rfl rfl) (λx1=>u_) (λx1=>(esc (Rb (yj (zH 1 rfl) (zD 2 rfl)) (Rb (yj (zH 0 rfl) (zD 2 rfl)) (yj (zH 0 rfl) (yT (zD 3 rfl) (zH 1 rfl))))))) (λx1=>cU)).ex) (by unfold VF;simp only[bnd])
def VG(q0:List LI)(q1:LI):Option (List (List Bool)):=(some (q0.length:Int)).bind λmany1=>((bL many1).bind λxs=>aK (λ(x3:Int)=>some true) (λ(x3:Int)=>VF q0 q1 x3) xs).bind λPz=>((bL many1).bind λxs=>xR (λ(s4:List (List Bool)) (x6:Int)=>((bL many1).bind λxs=>xR (λ(s7:List (List Bool)) (x9:Int)=>(((aU s7 x9).bind λa10=>aU a10 x6).bind λb=>if b=true then(((bL many1).bind λxs=>aK (λ(yr:Int)=>some true) (λ(yr:Int)=>((aU s7 x9).bind λa15=>aU a15 yr).bind λc17=>if c17=true then some true else(aU s7 x6).bind λa16=>aU a16 yr) xs).bind λa18=>setAt s7 x9 a18).bind λDk=>some Dk else some s7).bind λiH=>some iH) xs s4).bind λs8=>some s8) xs Pz).bind λs5=>some s5
theorem lH:ao ["_law_steps","_law_within","_law_many","_law_led","_law_mid","_law_s"] ["_law_steps","_law_within"] (zI jc):=fsc
abbrev zGw(K:Frag):Sp:=bY K false (λa:((List LI))×LI×Unit=>([.z a.1,.z a.2.1]:SL K)) (λa=>VG a.1 a.2.1)
theorem zKa(F:aW K "_law_closure" "_law_closure" jc f fd)(B:Bl K mg)(rW:bw P w K mg base k "_law_row" ["_law_steps","_law_within","_law_s"] (zTw K)):aq P w K mg base aN (k+1) f fd ["_law_steps","_law_within"] (zGw K):=by
 refine yI F lH (λ_=>rfl) (λ_=>rfl) λcdv A outer s H E hr=>?_
 have nd:=lH.nd
 refine⟨_,(zB (xA 2 nd (zW (uA K) rfl B.len abe (zA (pv 0) zF))) (zB (xA 3 nd (xH (own:=["_law_s"]) (ix:=[0,1]) rfl rfl rfl (xG rfl B.range (zA (pv 2) zF)) (λC s H fp=>yE (i:=0) (show(["_law_s","_law_steps","_law_within"]:List Str).Nodup from by decide +kernel) rfl (Or.inl rfl)) (λC s H fp=>wJ) (λC s H fp=>(zY rW hr (zA (pv 1) (zA (pv 2) (zA (pv 0) zF))))))) (zB (xK aa6 rfl (xG rfl B.range (zA (pv 2) zF)) (bV 4 nd) (zB (xK aa6 rfl (xG rfl B.range (zA (pv 2) zF)) (bV 5 nd) (zB (yQ (xO (yD (aO K) (yD (aO K) (pv 3) (pv 5) (λ_ _=>rfl)) (pv 4) (λ_ _=>rfl))) (zB (Jl (xH (own:=["_law_t"]) (ix:=[3,5,4]) rfl rfl rfl (xG rfl B.range (zA (pv 2) zF)) (λC s H fp=>yE (i:=0) (show(["_law_t","_law_led","_law_s","_law_mid"]:List Str).Nodup from by decide +kernel) rfl (Or.inl rfl)) (λC s H fp=>wJ) (λC s H fp=>(S5 (yD (aO K) (yD (aO K) (pv 1) (pv 2) (λ_ _=>rfl)) (pv 0) (λ_ _=>rfl)) (SX (yD (aO K) (yD (aO K) (pv 1) (pv 3) (λ_ _=>rfl)) (pv 0) (λ_ _=>rfl)))))) (QL (pv 3) (pv 5) LQ)) zG) zG) zG)) zG)) (zB (zN (pv 3)) zG)))),?_⟩
 rintro Fa ⟨q0,q1,⟨⟩⟩
 exact SB.of (zV (yR true 2 rfl rfl (esc (uW (zD 0 rfl)))) (λmany1=>(zV (yh true 3 rfl rfl (yU (n:=true) (fG:=[.un,.z q0,.z q1]) (no:=1) (ix:=[0,1]) rfl rfl (wF (zH 2 rfl)) (yA 0 rfl rfl) (λx3=>u_) (λx3=>(zJ (zE (zD 1 rfl) (zE (zD 2 rfl) (zE (esc (zH 0 rfl)) zL))))) (λx3=>cU))) (λPz=>(zV (wO (n:=true) (L:=(λs4:List (List Bool)=>([.z q0,.z q1,.y many1,.ow true s4,.un,.un]:SL K))) Pz bN (wF (zH 2 rfl)) (λs4=>(yA 4 rfl rfl)) (λs4 x6=>(zU (wO (n:=true) (L:=(λs7:List (List Bool)=>([.z q0,.z q1,.y many1,.ow true s7,.y x6,.un]:SL K))) s4 bN (wF (zH 2 rfl)) (λs7=>(yA 5 rfl rfl)) (λs7 x9=>(zU (uz (cg (md:=.hp) (esc (yT (yT (Ce 3 rfl) (zH 5 rfl)) (zH 4 rfl)))) (zU (T4 3 rfl rfl (yU (n:=true) (fG:=[.un,.hs (s7:List (List Bool)),.y x9,.y x6]) (no:=1) (ix:=[3,5,4]) rfl rfl (wF (zH 2 rfl)) (yA 0 rfl rfl) (λyr=>u_) (λyr=>(esc (T3 (esc (yT (yT (WY 1 rfl) (zH 2 rfl)) (zH 0 rfl))) (esc (yT (yT (WY 1 rfl) (zH 3 rfl)) (zH 0 rfl)))))) (λyr=>cU)).ex (zH 5 rfl)) (λDk=>(yH (λs12:List (List Bool)=>([.z q0,.z q1,.y many1,.ow true s12,.y x6,.y x9]:SL K)) Dk bN))) (yH (λs12:List (List Bool)=>([.z q0,.z q1,.y many1,.ow true s12,.y x6,.y x9]:SL K)) s7 bN)) (λiH=>(yH (λs7:List (List Bool)=>([.z q0,.z q1,.y many1,.ow true s7,.y x6,.un]:SL K)) iH bN))))) (λs8=>(yH (λs4:List (List Bool)=>([.z q0,.z q1,.y many1,.ow true s4,.un,.un]:SL K)) s8 bN))))) (λs5=>(Gk 3 rfl rfl))))))) (by unfold VG;simp only[bnd])
def vW(q0:List Bool)(q1:LI):Option Bool:=(((some q1).bind λxs=>aK (λ(x1:Int)=>aU q0 x1) (λ(x1:Int)=>some x1) xs).bind λa2=>some (a2.length:Int)).bind λa3=>some (decide ((0:Int)<a3))
theorem pO:ao ["_law_row_here","_law_some"] ["_law_row_here","_law_some"] (zI mH):=fsc
abbrev zK6(K:Frag):Sp:=bY K false (λa:(List Bool)×LI×Unit=>([.z a.1,.z a.2.1]:SL K)) (λa=>vW a.1 a.2.1)
theorem zPa(F:aW K "_law_leads" "_law_leads" mH f fd)(B:Bl K mg):aq P w K mg base aN (k+1) f fd ["_law_row_here","_law_some"] (zK6 K):=by
 refine yI F pO (λ_=>rfl) (λ_=>rfl) λcdv A outer s H E hr=>?_
 have nd:=pO.nd
 refine⟨_,(zB (zN (Lh Wt (zW (uA K) rfl B.len abe (zA (xH (own:=["_law_t"]) (ix:=[0]) rfl rfl rfl (yL K (pv 1)) (λC s H fp=>yE (i:=0) (show(["_law_t","_law_row_here"]:List Str).Nodup from by decide +kernel) rfl (Or.inl rfl)) (λC s H fp=>wZ (xO (yD (aO K) (pv 1) (pv 0) (λ_ _=>rfl)))) (λC s H fp=>(pv 0))) zF)) zK (yK _))) zG),?_⟩
 rintro Fa ⟨q0,q1,⟨⟩⟩
 exact SB.of (zZ (esc (W7 (uW (yU (n:=false) (fG:=[.un,.z q0]) (no:=1) (ix:=[0]) rfl rfl (yN (yM 1 rfl)) (yA 0 rfl rfl) (λx1=>(cg (md:=.hp) (esc (yT (zD 1 rfl) (zH 0 rfl))))) (λx1=>(esc (zH 0 rfl))) (λx1=>cU)).ex) (zP 0)))) (by unfold vW;simp only[bnd])
def J9(q0:List LI)(q1:List LI)(q2:LI):Option LI:=(VG q0 q2).bind λmR=>(some ([]:LI)).bind λgood2=>((some q2).bind λxs=>xR (λ(s3:LI) (x5:Int)=>((aU mR x5).bind λa7=>aU a7 x5).bind λj_=>((some q1).bind λxs=>xR (λ(s8:Bool) (x10:LI)=>((some x10).bind λxs=>aK (λ(x12:Int)=>(aU mR x12).bind λa13=>aU a13 x5) (λ(x12:Int)=>some x12) xs).bind λDl=>(if s8=true then((aU mR x5).bind λa16=>some ((a16,(Dl,())))).bind λPx=>vW Px.1 Px.2.1 else some false).bind λjo=>some jo) xs j_).bind λs9=>(if s9=true then(push s3 x5).bind λv8=>some v8 else some s3).bind λPq=>some Pq) xs good2).bind λs4=>(some q2).bind λxs=>aK (λ(x20:Int)=>if(decide (x20∈s4))=true then some true else((aU mR x20).bind λa22=>some ((a22,(s4,())))).bind λPy=>vW Py.1 Py.2.1) (λ(x20:Int)=>some x20) xs
theorem qQ:ao ["_law_steps","_law_fair","_law_within","_law_led","_law_good","_law_t","_law_meets_here","_law_some","_law_back"] ["_law_steps","_law_fair","_law_within"] (zI oX):=fsc
abbrev Yh(K:Frag):Sp:=bY K false (λa:((List LI))×((List LI))×LI×Unit=>([.z a.1,.z a.2.1,.z a.2.2.1]:SL K)) (λa=>J9 a.1 a.2.1 a.2.2.1)
theorem zR3(F:aW K "_law_core" "_law_core" oX f fd)(B:Bl K mg)(jq:bw P w K mg base k "_law_closure" ["_law_steps","_law_within"] (zGw K))(jA:bw P w K mg base k "_law_leads" ["_law_row_here","_law_some"] (zK6 K)):aq P w K mg base aN (k+1) f fd ["_law_steps","_law_fair","_law_within"] (Yh K):=by
 refine yI F qQ (λ_=>rfl) (λ_=>rfl) λcdv A outer s H E hr=>?_
 have nd:=qQ.nd
 refine⟨_,(zB (xA 3 nd (zY jq hr (zA (pv 0) (zA (pv 2) zF)))) (zB (xA 4 nd (xY zF)) (zB (xK aa6 rfl (yL K (pv 2)) (bV 5 nd) (zB (xA 6 nd (yD (aO K) (yD (aO K) (pv 3) (pv 5) (λ_ _=>rfl)) (pv 5) (λ_ _=>rfl))) (zB (xK aa6 rfl (yL K (pv 1)) (bV 7 nd) (zB (BZ (i:=8) (own:=["_law_f"]) (ix:=[3,5]) nd rfl rfl rfl rfl rfl (yL K (pv 7)) (λC s H fp=>yE (i:=0) (show(["_law_f","_law_led","_law_t"]:List Str).Nodup from by decide +kernel) rfl (Or.inl rfl)) (λC s H fp=>wZ (xO (yD (aO K) (yD (aO K) (pv 1) (pv 0) (λ_ _=>rfl)) (pv 2) (λ_ _=>rfl)))) (λC s H fp=>(pv 0))) (zB (xA 6 nd (QF (pv 6) (SX (zY jA hr (zA (yD (aO K) (pv 3) (pv 5) (λ_ _=>rfl)) (zA (pv 8) zF)))))) zG))) (zB (yQ (xO (pv 6)) (zB (yP (Bk K abb abh abj wS (pv 4) (zA (pv 5) zF))) zG) zG) zG)))) (zB (zN (xH (own:=["_law_s"]) (ix:=[4,3]) rfl rfl rfl (yL K (pv 2)) (λC s H fp=>yE (i:=0) (show(["_law_s","_law_good","_law_led"]:List Str).Nodup from by decide +kernel) rfl (Or.inl rfl)) (λC s H fp=>wZ (PW.pt (pw_or (zR (u5 K) (pv 0) (pv 1) (by with_unfolding_all rfl)) (pw_or1 (xO (zY jA hr (zA (yD (aO K) (pv 2) (pv 0) (λ_ _=>rfl)) (zA (pv 1) zF)))))))) (λC s H fp=>(pv 0)))) zG)))),?_⟩
 rintro Fa ⟨q0,q1,q2,⟨⟩⟩
 exact SB.of (zV (yR true 3 rfl rfl (zJ (zE (zD 0 rfl) (zE (zD 2 rfl) zL)))) (λmR=>(zV (yh true 4 rfl rfl (zx (α:=Int))) (λgood2=>(zV (wO (n:=false) (L:=(λs3:LI=>([.z q0,.z q1,.z q2,.y mR,.ow true s3,.un,.un,.un,.un]:SL K))) good2 bN (yN (yM 2 rfl)) (λs3=>(yA 5 rfl rfl)) (λs3 x5=>(zU (yR true 6 rfl rfl (esc (esc (yT (yT (zD 3 rfl) (zH 5 rfl)) (zH 5 rfl))))) (λj_=>(zU (wO (n:=false) (L:=(λs8:Bool=>([.z q0,.z q1,.z q2,.y mR,.ow true s3,.z x5,.y s8,.un,.un]:SL K))) j_ bN (yN (yM 1 rfl)) (λs8=>(yA 7 rfl rfl)) (λs8 x10=>(zU (yR true 8 rfl rfl (yU (n:=false) (fG:=[.un,.y mR,.z x5]) (no:=1) (ix:=[3,5]) rfl rfl (yN (yM 7 rfl)) (yA 0 rfl rfl) (λx12=>(cg (md:=.hp) (esc (yT (yT (zD 1 rfl) (zH 0 rfl)) (zH 2 rfl))))) (λx12=>(esc (zH 0 rfl))) (λx12=>cU)).ex) (λDl=>(zU (yR true 6 rfl rfl (esc (Rb (zH 6 rfl) (zJ (zE (yT (zD 3 rfl) (zH 5 rfl)) (zE (zD 8 rfl) zL)))))) (λjo=>(yH (λs8:Bool=>([.z q0,.z q1,.z q2,.y mR,.ow true s3,.z x5,.y s8,.un,.un]:SL K)) jo bN))))))) (λs9=>(zU (uz (cg (md:=.hp) (zH 6 rfl)) (zU (vN 4 rfl rfl (esc (zH 5 rfl))) (λv8=>(yH (λza:LI=>([.z q0,.z q1,.z q2,.y mR,.ow true za,.z x5,.y s9,.un,.un]:SL K)) v8 bN))) (yH (λza:LI=>([.z q0,.z q1,.z q2,.y mR,.ow true za,.z x5,.y s9,.un,.un]:SL K)) s3 bN)) (λPq=>(yH (λs3:LI=>([.z q0,.z q1,.z q2,.y mR,.ow true s3,.un,.un,.un,.un]:SL K)) Pq bN))))))))) (λs4=>(zZ (yU (n:=false) (fG:=[.un,.hs (s4:LI),.y mR]) (no:=1) (ix:=[4,3]) rfl rfl (yN (yM 2 rfl)) (yA 0 rfl rfl) (λx20=>(Ef (yF (md:=.hp) (yj (zH 0 rfl) (WY 1 rfl))) (cg (md:=.hp) (zJ (zE (yT (zD 2 rfl) (zH 0 rfl)) (zE (WY 1 rfl) zL)))))) (λx20=>(esc (zH 0 rfl))) (λx20=>cU)).ex))))))) (by unfold J9;simp only[bnd])
def PB(q0:LI)(q1:LI):Option Bool:=(((some q0).bind λxs=>aK (λ(x1:Int)=>some (decide (x1∈q1))) (λ(x1:Int)=>some x1) xs).bind λa2=>some (a2.length:Int)).bind λa3=>some (decide ((0:Int)<a3))
theorem pP:ao ["_law_some","_law_others"] ["_law_some","_law_others"] (zI mJ):=fsc
abbrev zGv(K:Frag):Sp:=bY K false (λa:LI×LI×Unit=>([.z a.1,.z a.2.1]:SL K)) (λa=>PB a.1 a.2.1)
theorem zO9(F:aW K "_law_meets" "_law_meets" mJ f fd)(B:Bl K mg):aq P w K mg base aN (k+1) f fd ["_law_some","_law_others"] (zGv K):=by
 refine yI F pP (λ_=>rfl) (λ_=>rfl) λcdv A outer s H E hr=>?_
 have nd:=pP.nd
 refine⟨_,(zB (zN (Lh Wt (zW (uA K) rfl B.len abe (zA (xH (own:=["_law_one"]) (ix:=[1]) rfl rfl rfl (yL K (pv 0)) (λC s H fp=>yE (i:=0) (show(["_law_one","_law_others"]:List Str).Nodup from by decide +kernel) rfl (Or.inl rfl)) (λC s H fp=>wZ (zR (u5 K) (pv 0) (pv 1) (by with_unfolding_all rfl))) (λC s H fp=>(pv 0))) zF)) zK (yK _))) zG),?_⟩
 rintro Fa ⟨q0,q1,⟨⟩⟩
 exact SB.of (zZ (esc (W7 (uW (yU (n:=false) (fG:=[.un,.z q1]) (no:=1) (ix:=[1]) rfl rfl (yN (yM 0 rfl)) (yA 0 rfl rfl) (λx1=>(yF (md:=.hp) (yj (zH 0 rfl) (zD 1 rfl)))) (λx1=>(esc (zH 0 rfl))) (λx1=>cU)).ex) (zP 0)))) (by unfold PB;simp only[bnd])
def R3(q0:List LI)(q1:LI)(q2:LI):Option LI:=(some q2).bind λeX=>((bL (q0.length:Int)).bind λxs=>xR (λ(s2:LI) (x4:Int)=>((bL (q0.length:Int)).bind λxs=>aK (λ(x6:Int)=>if(decide (x6∈s2))=true then some true else if(decide (x6∈q1))=true then((aU q0 x6).bind λa8=>some ((a8,(s2,())))).bind λz7=>PB z7.1 z7.2.1 else some false) (λ(x6:Int)=>some x6) xs).bind λv9=>some v9) xs eX).bind λs3=>some s3
theorem qR:ao ["_law_steps","_law_left","_law_goal","_law_found","_law_turn"] ["_law_steps","_law_left","_law_goal"] (zI oY):=fsc
abbrev zJb(K:Frag):Sp:=bY K false (λa:((List LI))×LI×LI×Unit=>([.z a.1,.z a.2.1,.z a.2.2.1]:SL K)) (λa=>R3 a.1 a.2.1 a.2.2.1)
theorem zR2(F:aW K "_law_grow" "_law_grow" oY f fd)(B:Bl K mg)(dZ:bw P w K mg base k "_law_meets" ["_law_some","_law_others"] (zGv K)):aq P w K mg base aN (k+1) f fd ["_law_steps","_law_left","_law_goal"] (zJb K):=by
 refine yI F qR (λ_=>rfl) (λ_=>rfl) λcdv A outer s H E hr=>?_
 have nd:=qR.nd
 refine⟨_,(zB (xA 3 nd (vC (GD K) rfl B.list Ej (zA (pv 2) zF))) (zB (xK aa6 rfl (xG rfl B.range (zA (zW (uA K) rfl B.len abe (zA (pv 0) zF)) zF)) (bV 4 nd) (zB (xA 3 nd (xH (own:=["_law_s"]) (ix:=[3,1,0]) rfl rfl rfl (xG rfl B.range (zA (zW (uA K) rfl B.len abe (zA (pv 0) zF)) zF)) (λC s H fp=>yE (i:=0) (show(["_law_s","_law_found","_law_left","_law_steps"]:List Str).Nodup from by decide +kernel) rfl (Or.inl rfl)) (λC s H fp=>wZ (PW.pt (pw_or (zR (u5 K) (pv 0) (pv 1) (by with_unfolding_all rfl)) (pw_or1 (PW.pt (pw_and (zR (u5 K) (pv 0) (pv 2) (by with_unfolding_all rfl)) (pw_and1 (xO (zY dZ hr (zA (yD (aO K) (pv 3) (pv 0) (λ_ _=>rfl)) (zA (pv 1) zF))))))))))) (λC s H fp=>(pv 0)))) zG)) (zB (zN (pv 3)) zG))),?_⟩
 rintro Fa ⟨q0,q1,q2,⟨⟩⟩
 exact SB.of (zV (yR true 3 rfl rfl (Gs (zD 2 rfl)).ex) (λeX=>(zV (wO (n:=true) (L:=(λs2:LI=>([.z q0,.z q1,.z q2,.y s2,.un]:SL K))) eX bN (wF (uW (zD 0 rfl))) (λs2=>(yA 4 rfl rfl)) (λs2 x4=>(zU (yR true 3 rfl rfl (yU (n:=true) (fG:=[.un,.y s2,.z q1,.z q0]) (no:=1) (ix:=[3,1,0]) rfl rfl (wF (uW (zD 0 rfl))) (yA 0 rfl rfl) (λx6=>(Ef (yF (md:=.hp) (yj (zH 0 rfl) (zD 1 rfl))) (TY (yF (md:=.hp) (yj (zH 0 rfl) (zD 2 rfl))) (cg (md:=.hp) (zJ (zE (yT (zD 3 rfl) (zH 0 rfl)) (zE (zD 1 rfl) zL))))))) (λx6=>(esc (zH 0 rfl))) (λx6=>cU)).ex) (λv9=>(yH (λs2:LI=>([.z q0,.z q1,.z q2,.y s2,.un]:SL K)) v9 bN))))) (λs3=>(zZ (yM 3 rfl)))))) (by unfold R3;simp only[bnd])
def xB(q0:LI)(q1:LI):Option LI:=(some q0).bind λxs=>aK (λ(x1:Int)=>some (!decide (x1∈q1))) (λ(x1:Int)=>some x1) xs
theorem lJ:ao ["_law_every","_law_some"] ["_law_every","_law_some"] (zI je):=fsc
abbrev Yi(K:Frag):Sp:=bY K false (λa:LI×LI×Unit=>([.z a.1,.z a.2.1]:SL K)) (λa=>xB a.1 a.2.1)
theorem zJ9(F:aW K "_law_without" "_law_without" je f fd)(B:Bl K mg):aq P w K mg base aN (k+1) f fd ["_law_every","_law_some"] (Yi K):=by
 refine yI F lJ (λ_=>rfl) (λ_=>rfl) λcdv A outer s H E hr=>?_
 have nd:=lJ.nd
 refine⟨_,(zB (zN (xH (own:=["_law_stand"]) (ix:=[1]) rfl rfl rfl (yL K (pv 0)) (λC s H fp=>yE (i:=0) (show(["_law_stand","_law_some"]:List Str).Nodup from by decide +kernel) rfl (Or.inl rfl)) (λC s H fp=>wZ (zR (zRu K) (pv 0) (pv 1) (by with_unfolding_all rfl))) (λC s H fp=>(pv 0)))) zG),?_⟩
 rintro Fa ⟨q0,q1,⟨⟩⟩
 exact SB.of (zZ (yU (n:=false) (fG:=[.un,.z q1]) (no:=1) (ix:=[1]) rfl rfl (yN (yM 0 rfl)) (yA 0 rfl rfl) (λx1=>(yF (md:=.hp) (zXn (zH 0 rfl) (zD 1 rfl)))) (λx1=>(esc (zH 0 rfl))) (λx1=>cU)).ex) (by unfold xB;simp only[bnd])
def wX(q0:mX)(q1:LI)(q2:LI):Option LI:=(some q0.every).bind λcj=>(xB cj q2).bind λdX=>((some dX).bind λxs=>aK (λ(x4:Int)=>if(!decide (x4∈q1))=true then some (decide (x4∈q0.alive)) else some false) (λ(x4:Int)=>some x4) xs).bind λJ_=>((R3 q0.steps dX J_).bind λa6=>(J9 q0.steps q0.fair dX).bind λb7=>G9 a6 b7).bind λtU=>xB cj tU
theorem jr:ao ["_law_about_here","_law_left","_law_right","_law_every","_law_without_here","_law_lost","_law_against"] ["_law_about_here","_law_left","_law_right"] (zI gb):=fsc
abbrev zD4(K:Frag):Sp:=bY K false (λa:mX×LI×LI×Unit=>([.z a.1,.z a.2.1,.z a.2.2.1]:SL K)) (λa=>wX a.1 a.2.1 a.2.2.1)
theorem zG6(F:aW K "_law_each_till" "_law_each_till" gb f fd)(B:Bl K mg)(eZ:bw P w K mg base k "_law_core" ["_law_steps","_law_fair","_law_within"] (Yh K))(gG:bw P w K mg base k "_law_grow" ["_law_steps","_law_left","_law_goal"] (zJb K))(aP:bw P w K mg base k "_law_without" ["_law_every","_law_some"] (Yi K)):aq P w K mg base aN (k+1) f fd ["_law_about_here","_law_left","_law_right"] (zD4 K):=by
 refine yI F jr (λ_=>rfl) (λ_=>rfl) λcdv A outer s H E hr=>?_
 have nd:=jr.nd
 have hu:=Gf hr
 refine⟨_,(zB (xA 3 nd (wP hu (pv 0) zS (λ_ _=>rfl))) (zB (xA 4 nd (zY aP hr (zA (pv 3) (zA (pv 2) zF)))) (zB (BZ (i:=5) (own:=["_law_s"]) (ix:=[1,0]) nd rfl rfl rfl rfl rfl (yL K (pv 4)) (λC s H fp=>yE (i:=0) (show(["_law_s","_law_left","_law_about_here"]:List Str).Nodup from by decide +kernel) rfl (Or.inl rfl)) (λC s H fp=>wZ (PW.pt (pw_and (zR (zRu K) (pv 0) (pv 1) (by with_unfolding_all rfl)) (pw_and1 (zR (u5 K) (pv 0) (wP hu (pv 2) zS (λ_ _=>rfl)) (by with_unfolding_all rfl)))))) (λC s H fp=>(pv 0))) (zB (xA 6 nd (wK Mi (zY gG hr (zA (wP hu (pv 0) zS (λ_ _=>rfl)) (zA (pv 4) (zA (pv 5) zF)))) (zY eZ hr (zA (wP hu (pv 0) zS (λ_ _=>rfl)) (zA (wP hu (pv 0) zS (λ_ _=>rfl)) (zA (pv 4) zF)))))) (zB (zN (zY aP hr (zA (pv 3) (zA (pv 6) zF)))) zG))))),?_⟩
 rintro Fa ⟨q0,q1,q2,⟨⟩⟩
 exact SB.of (zV (yR false 3 rfl rfl (X7 (yM 0 rfl))) (λcj=>(zV (yR true 4 rfl rfl (zJ (zE (zD 3 rfl) (zE (zD 2 rfl) zL)))) (λdX=>(zV (yR true 5 rfl rfl (yU (n:=true) (fG:=[.un,.z q1,.z q0]) (no:=1) (ix:=[1,0]) rfl rfl (yN (yM 4 rfl)) (yA 0 rfl rfl) (λx4=>(TY (yF (md:=.hp) (zXn (zH 0 rfl) (zD 1 rfl))) (yF (md:=.hp) (yj (zH 0 rfl) (zB8 (zD 2 rfl)))))) (λx4=>(esc (zH 0 rfl))) (λx4=>cU)).ex) (λJ_=>(zV (yR true 6 rfl rfl (Nv (zJ (zE (uO (zD 0 rfl)) (zE (zD 4 rfl) (zE (zD 5 rfl) zL)))) (zJ (zE (uO (zD 0 rfl)) (zE (zGi (zD 0 rfl)) (zE (zD 4 rfl) zL))))).ex) (λtU=>(zZ (zJ (zE (zD 3 rfl) (zE (zD 6 rfl) zL)))))))))))) (by unfold wX;simp only[bnd])
def wD(q0:mX)(q1:LI)(q2:LI):Option LI:=(((((some q2).bind λxs=>aK (λ(x1:Int)=>some (decide (x1∈q0.alive))) (λ(x1:Int)=>some x1) xs).bind λa3=>some ((a3,()))).bind λb4=>some (q1,b4)).bind λb5=>some (q0.steps,b5)).bind λz2=>R3 z2.1 z2.2.1 z2.2.2.1
theorem jt:ao ["_law_about_here","_law_left","_law_right"] ["_law_about_here","_law_left","_law_right"] (zI gj):=fsc
abbrev zD2(K:Frag):Sp:=bY K false (λa:mX×LI×LI×Unit=>([.z a.1,.z a.2.1,.z a.2.2.1]:SL K)) (λa=>wD a.1 a.2.1 a.2.2.1)
theorem zG4(F:aW K "_law_some_till" "_law_some_till" gj f fd)(B:Bl K mg)(gG:bw P w K mg base k "_law_grow" ["_law_steps","_law_left","_law_goal"] (zJb K)):aq P w K mg base aN (k+1) f fd ["_law_about_here","_law_left","_law_right"] (zD2 K):=by
 refine yI F jt (λ_=>rfl) (λ_=>rfl) λcdv A outer s H E hr=>?_
 have nd:=jt.nd
 have hu:=Gf hr
 refine⟨_,(zB (zN (zY gG hr (zA (wP hu (pv 0) zS (λ_ _=>rfl)) (zA (pv 1) (zA (xH (own:=["_law_s"]) (ix:=[0]) rfl rfl rfl (yL K (pv 2)) (λC s H fp=>yE (i:=0) (show(["_law_s","_law_about_here"]:List Str).Nodup from by decide +kernel) rfl (Or.inl rfl)) (λC s H fp=>wZ (zR (u5 K) (pv 0) (wP hu (pv 1) zS (λ_ _=>rfl)) (by with_unfolding_all rfl))) (λC s H fp=>(pv 0))) zF))))) zG),?_⟩
 rintro Fa ⟨q0,q1,q2,⟨⟩⟩
 exact SB.of (zZ (zJ (zE (uO (zD 0 rfl)) (zE (zD 1 rfl) (zE (yU (n:=false) (fG:=[.un,.z q0]) (no:=1) (ix:=[0]) rfl rfl (yN (yM 2 rfl)) (yA 0 rfl rfl) (λx1=>(yF (md:=.hp) (yj (zH 0 rfl) (zB8 (zD 1 rfl))))) (λx1=>(esc (zH 0 rfl))) (λx1=>cU)).ex zL))))) (by unfold wD;simp only[bnd])
def wW(q0:mX)(q1:LI):Option LI:=((some q1).bind λxs=>aK (λ(x2:Int)=>some (decide (x2∈q0.alive))) (λ(x2:Int)=>some x2) xs).bind λgoal1=>(some q0.every).bind λxs=>aK (λ(x3:Int)=>((aU q0.steps x3).bind λa5=>some ((a5,(goal1,())))).bind λz4=>PB z4.1 z4.2.1) (λ(x3:Int)=>some x3) xs
theorem ju:ao ["_law_about_here","_law_part","_law_goal"] ["_law_about_here","_law_part"] (zI gk):=fsc
abbrev zD3(K:Frag):Sp:=bY K false (λa:mX×LI×Unit=>([.z a.1,.z a.2.1]:SL K)) (λa=>wW a.1 a.2.1)
theorem zG5(F:aW K "_law_some_next" "_law_some_next" gk f fd)(B:Bl K mg)(dZ:bw P w K mg base k "_law_meets" ["_law_some","_law_others"] (zGv K)):aq P w K mg base aN (k+1) f fd ["_law_about_here","_law_part"] (zD3 K):=by
 refine yI F ju (λ_=>rfl) (λ_=>rfl) λcdv A outer s H E hr=>?_
 have nd:=ju.nd
 have hu:=Gf hr
 refine⟨_,(zB (xA 2 nd (xH (own:=["_law_s"]) (ix:=[0]) rfl rfl rfl (yL K (pv 1)) (λC s H fp=>yE (i:=0) (show(["_law_s","_law_about_here"]:List Str).Nodup from by decide +kernel) rfl (Or.inl rfl)) (λC s H fp=>wZ (zR (u5 K) (pv 0) (wP hu (pv 1) zS (λ_ _=>rfl)) (by with_unfolding_all rfl))) (λC s H fp=>(pv 0)))) (zB (zN (xH (own:=["_law_s"]) (ix:=[0,2]) rfl rfl rfl (yL K (wP hu (pv 0) zS (λ_ _=>rfl))) (λC s H fp=>yE (i:=0) (show(["_law_s","_law_about_here","_law_goal"]:List Str).Nodup from by decide +kernel) rfl (Or.inl rfl)) (λC s H fp=>wZ (xO (zY dZ hr (zA (yD (aO K) (wP hu (pv 1) zS (λ_ _=>rfl)) (pv 0) (λ_ _=>rfl)) (zA (pv 2) zF))))) (λC s H fp=>(pv 0)))) zG)),?_⟩
 rintro Fa ⟨q0,q1,⟨⟩⟩
 exact SB.of (zV (yR true 2 rfl rfl (yU (n:=false) (fG:=[.un,.z q0]) (no:=1) (ix:=[0]) rfl rfl (yN (yM 1 rfl)) (yA 0 rfl rfl) (λx2=>(yF (md:=.hp) (yj (zH 0 rfl) (zB8 (zD 1 rfl))))) (λx2=>(esc (zH 0 rfl))) (λx2=>cU)).ex) (λgoal1=>(zZ (yU (n:=false) (fG:=[.un,.z q0,.y goal1]) (no:=1) (ix:=[0,2]) rfl rfl (yN (X7 (yM 0 rfl))) (yA 0 rfl rfl) (λx3=>(cg (md:=.hp) (zJ (zE (yT (uO (zD 1 rfl)) (zH 0 rfl)) (zE (zD 2 rfl) zL))))) (λx3=>(esc (zH 0 rfl))) (λx3=>cU)).ex))) (by unfold wW;simp only[bnd])
def uY(q0:Str)(q1:mX)(q2:List LI):Option LI:=(some q1.every).bind λcj=>if(decide (q0=("somenext":Str)))=true then(((aU q2 (0:Int)).bind λa3=>some ((a3,()))).bind λb4=>some (q1,b4)).bind λz2=>wW z2.1 z2.2.1 else if(decide (q0=("eachnext":Str)))=true then(((((((((aU q2 (0:Int)).bind λa6=>some ((a6,()))).bind λb7=>some (cj,b7)).bind λz5=>xB z5.1 z5.2.1).bind λa9=>some ((a9,()))).bind λb10=>some (q1,b10)).bind λz8=>wW z8.1 z8.2.1).bind λa12=>some ((a12,()))).bind λIi=>some (cj,Ii)).bind λRN=>xB RN.1 RN.2.1 else if(decide (q0=("sometill":Str)))=true then(((aU q2 (0:Int)).bind λa16=>((aU q2 (1:Int)).bind λa15=>some ((a15,()))).bind λb17=>some (a16,b17)).bind λVv=>some (q1,Vv)).bind λz14=>wD z14.1 z14.2.1 z14.2.2.1 else if(decide (q0=("eachtill":Str)))=true then(((aU q2 (0:Int)).bind λa21=>((aU q2 (1:Int)).bind λa20=>some ((a20,()))).bind λb22=>some (a21,b22)).bind λb23=>some (q1,b23)).bind λz19=>wX z19.1 z19.2.1 z19.2.2.1 else if(decide (q0=("somealways":Str)))=true then((((aU q2 (0:Int)).bind λa25=>some ((a25,()))).bind λb26=>some (q1.fair,b26)).bind λb27=>some (q1.steps,b27)).bind λz24=>J9 z24.1 z24.2.1 z24.2.2.1 else if(decide (q0=("eachalways":Str)))=true then((((((((((aU q2 (0:Int)).bind λa29=>some ((a29,()))).bind λb30=>some (cj,b30)).bind λz28=>xB z28.1 z28.2.1).bind λa32=>some ((a32,()))).bind λb33=>some (cj,b33)).bind λb34=>some (q1,b34)).bind λz31=>wD z31.1 z31.2.1 z31.2.2.1).bind λa36=>some ((a36,()))).bind λb37=>some (cj,b37)).bind λz35=>xB z35.1 z35.2.1 else if(decide (q0=("someever":Str)))=true then((((aU q2 (0:Int)).bind λa39=>some ((a39,()))).bind λb40=>some (cj,b40)).bind λb41=>some (q1,b41)).bind λz38=>wD z38.1 z38.2.1 z38.2.2.1 else((((aU q2 (0:Int)).bind λa43=>some ((a43,()))).bind λb44=>some (cj,b44)).bind λb45=>some (q1,b45)).bind λJ8=>wX J8.1 J8.2.1 J8.2.2.1
theorem qT:ao ["_law_word","_law_about_here","_law_sets","_law_every"] ["_law_word","_law_about_here","_law_sets"] (zI oZ):=fsc
abbrev zOa(K:Frag):Sp:=bY K false (λa:Str×mX×((List LI))×Unit=>([.z a.1,.z a.2.1,.z a.2.2.1]:SL K)) (λa=>uY a.1 a.2.1 a.2.2.1)
theorem zR0(F:aW K "_law_over" "_law_over" oZ f fd)(B:Bl K mg)(eZ:bw P w K mg base k "_law_core" ["_law_steps","_law_fair","_law_within"] (Yh K))(dM:bw P w K mg base k "_law_each_till" ["_law_about_here","_law_left","_law_right"] (zD4 K))(dN:bw P w K mg base k "_law_some_next" ["_law_about_here","_law_part"] (zD3 K))(cR:bw P w K mg base k "_law_some_till" ["_law_about_here","_law_left","_law_right"] (zD2 K))(aP:bw P w K mg base k "_law_without" ["_law_every","_law_some"] (Yi K)):aq P w K mg base aN (k+1) f fd ["_law_word","_law_about_here","_law_sets"] (zOa K):=by
 refine yI F qT (λ_=>rfl) (λ_=>rfl) λcdv A outer s H E hr=>?_
 have nd:=qT.nd
 have hu:=Gf hr
 refine⟨_,(zB (xA 3 nd (wP hu (pv 1) zS (λ_ _=>rfl))) (zB (yQ (zR (vJ K Str hr) (pv 0) zS (yK _)) (zB (zN (zY dN hr (zA (pv 1) (zA (yD (aO K) (pv 2) zK (λ_ _=>rfl)) zF)))) zG) zG) (zB (yQ (zR (vJ K Str hr) (pv 0) zS (yK _)) (zB (zN (zY aP hr (zA (pv 3) (zA (zY dN hr (zA (pv 1) (zA (zY aP hr (zA (pv 3) (zA (yD (aO K) (pv 2) zK (λ_ _=>rfl)) zF))) zF))) zF)))) zG) zG) (zB (yQ (zR (vJ K Str hr) (pv 0) zS (yK _)) (zB (zN (zY cR hr (zA (pv 1) (zA (yD (aO K) (pv 2) zK (λ_ _=>rfl)) (zA (yD (aO K) (pv 2) zK (λ_ _=>rfl)) zF))))) zG) zG) (zB (yQ (zR (vJ K Str hr) (pv 0) zS (yK _)) (zB (zN (zY dM hr (zA (pv 1) (zA (yD (aO K) (pv 2) zK (λ_ _=>rfl)) (zA (yD (aO K) (pv 2) zK (λ_ _=>rfl)) zF))))) zG) zG) (zB (yQ (zR (vJ K Str hr) (pv 0) zS (yK _)) (zB (zN (zY eZ hr (zA (wP hu (pv 1) zS (λ_ _=>rfl)) (zA (wP hu (pv 1) zS (λ_ _=>rfl)) (zA (yD (aO K) (pv 2) zK (λ_ _=>rfl)) zF))))) zG) zG) (zB (yQ (zR (vJ K Str hr) (pv 0) zS (yK _)) (zB (zN (zY aP hr (zA (pv 3) (zA (zY cR hr (zA (pv 1) (zA (pv 3) (zA (zY aP hr (zA (pv 3) (zA (yD (aO K) (pv 2) zK (λ_ _=>rfl)) zF))) zF)))) zF)))) zG) zG) (zB (yQ (zR (vJ K Str hr) (pv 0) zS (yK _)) (zB (zN (zY cR hr (zA (pv 1) (zA (pv 3) (zA (yD (aO K) (pv 2) zK (λ_ _=>rfl)) zF))))) zG) zG) (zB (zN (zY dM hr (zA (pv 1) (zA (pv 3) (zA (yD (aO K) (pv 2) zK (λ_ _=>rfl)) zF))))) zG))))))))),?_⟩
 rintro Fa ⟨q0,q1,q2,⟨⟩⟩
 exact SB.of (zV (yR false 3 rfl rfl (X7 (yM 1 rfl))) (λcj=>(xM (yF (md:=.hp) (vK (zH 0 rfl) (wY "somenext"))) (zZ (zJ (zE (zD 1 rfl) (zE (yT (zD 2 rfl) (zP 0)) zL)))) (xM (yF (md:=.hp) (vK (zH 0 rfl) (wY "eachnext"))) (zZ (zJ (zE (zD 3 rfl) (zE (zJ (zE (zD 1 rfl) (zE (zJ (zE (zD 3 rfl) (zE (yT (zD 2 rfl) (zP 0)) zL))) zL))) zL)))) (xM (yF (md:=.hp) (vK (zH 0 rfl) (wY "sometill"))) (zZ (zJ (zE (zD 1 rfl) (zE (yT (zD 2 rfl) (zP 0)) (zE (yT (zD 2 rfl) (zP 1)) zL))))) (xM (yF (md:=.hp) (vK (zH 0 rfl) (wY "eachtill"))) (zZ (zJ (zE (zD 1 rfl) (zE (yT (zD 2 rfl) (zP 0)) (zE (yT (zD 2 rfl) (zP 1)) zL))))) (xM (yF (md:=.hp) (vK (zH 0 rfl) (wY "somealways"))) (zZ (zJ (zE (uO (zD 1 rfl)) (zE (zGi (zD 1 rfl)) (zE (yT (zD 2 rfl) (zP 0)) zL))))) (xM (yF (md:=.hp) (vK (zH 0 rfl) (wY "eachalways"))) (zZ (zJ (zE (zD 3 rfl) (zE (zJ (zE (zD 1 rfl) (zE (zD 3 rfl) (zE (zJ (zE (zD 3 rfl) (zE (yT (zD 2 rfl) (zP 0)) zL))) zL)))) zL)))) (xM (yF (md:=.hp) (vK (zH 0 rfl) (wY "someever"))) (zZ (zJ (zE (zD 1 rfl) (zE (zD 3 rfl) (zE (yT (zD 2 rfl) (zP 0)) zL))))) (zZ (zJ (zE (zD 1 rfl) (zE (zD 3 rfl) (zE (yT (zD 2 rfl) (zP 0)) zL)))))))))))))) (by unfold uY;simp only[bnd])
def Dm(rec:gn->mX->Option LI)(q0:gn)(q1:mX):Option LI:=(some q1.every).bind λcj=>if(decide ((kn q0.t)=("all":Str)))=true then some cj else if(decide ((kn q0.t)=("mark":Str)))=true then(rH q0).bind λb2=>some (X6 q1 b2) else((rJ q0).bind λxs=>aK (λ(x4:gn)=>some true) (λ(x4:gn)=>rec x4 q1) xs).bind λlK=>if(decide ((kn q0.t)=("not":Str)))=true then(((aU lK (0:Int)).bind λa6=>some ((a6,()))).bind λb7=>some (cj,b7)).bind λz5=>xB z5.1 z5.2.1 else if(decide ((kn q0.t)=("both":Str)))=true then(some cj).bind λxs=>aK (λ(x8:Int)=>((aU lK (0:Int)).bind λb9=>some (decide (x8∈b9))).bind λc11=>if c11=true then(aU lK (1:Int)).bind λb10=>some (decide (x8∈b10)) else some false) (λ(x8:Int)=>some x8) xs else if(decide ((kn q0.t)=("either":Str)))=true then(some cj).bind λxs=>aK (λ(x12:Int)=>((aU lK (0:Int)).bind λIi=>some (decide (x12∈Ii))).bind λc15=>if c15=true then some true else(aU lK (1:Int)).bind λPb=>some (decide (x12∈Pb))) (λ(x12:Int)=>some x12) xs else uY (kn q0.t) q1 lK
def Dn:Nat->gn->mX->Option LI
 |0=>λ_ _=>none
 |n+1=>Dm (Dn n)
theorem tV:ao ["_law_tree","_law_about_here","_law_every","_law_sets"] ["_law_tree","_law_about_here"] (zI rE):=fsc
abbrev Yj(K:Frag)(rec:gn->mX->Option LI):Sp:=bY K false (λa:gn×mX×Unit=>([.z a.1,.z a.2.1]:SL K)) (λa=>rec a.1 a.2.1)
abbrev zTx(K:Frag):Sp:=Yj K (Dn 7 )
theorem zU9(F:aW K "_law_due" "_law_due" rE f fd)(B:Bl K mg)(jB:bw P w K mg base k "_law_due" ["_law_tree","_law_about_here"] (Yj K rec))(pQ:bw P w K mg base k "_law_over" ["_law_word","_law_about_here","_law_sets"] (zOa K))(aP:bw P w K mg base k "_law_without" ["_law_every","_law_some"] (Yi K)):aq P w K mg base aN (k+1) f fd ["_law_tree","_law_about_here"] (Yj K (Dm rec)):=by
 refine yI F tV (λ_=>rfl) (λ_=>rfl) λcdv A outer s H E hr=>?_
 have nd:=tV.nd
 have hu:=Gf hr
 refine⟨_,(zB (xA 2 nd (wP hu (pv 1) zS (λ_ _=>rfl))) (zB (yQ (zR (vJ K Str hr) (yD (qZ K) (pv 0) zK (λ_ _=>rfl)) zS (yK _)) (zB (zN (vC (GD K) rfl B.list Ej (zA (pv 2) zF))) zG) zG) (zB (yQ (zR (vJ K Str hr) (yD (qZ K) (pv 0) zK (λ_ _=>rfl)) zS (yK _)) (zB (zN (vC (GD K) rfl B.list Ej (zA (zU2 hu (wP hu (pv 1) zS (λ_ _=>rfl)) (yD (qZ K) (pv 0) zK (λ_ _=>rfl)) (xY zF) ⟨rfl,rfl,rfl,rfl⟩) zF))) zG) zG) (zB (xA 3 nd (xH (own:=["_law_part"]) (ix:=[1]) rfl rfl rfl (zXm K (WR (Hr rfl) (pv 0) (WM zK) WL)) (λC s H fp=>yE (i:=0) (show(["_law_part","_law_about_here"]:List Str).Nodup from by decide +kernel) rfl (Or.inl rfl)) (λC s H fp=>wJ) (λC s H fp=>(zY jB hr (zA (pv 0) (zA (pv 1) zF)))))) (zB (yQ (zR (vJ K Str hr) (yD (qZ K) (pv 0) zK (λ_ _=>rfl)) zS (yK _)) (zB (zN (zY aP hr (zA (pv 2) (zA (yD (aO K) (pv 3) zK (λ_ _=>rfl)) zF)))) zG) zG) (zB (yQ (zR (vJ K Str hr) (yD (qZ K) (pv 0) zK (λ_ _=>rfl)) zS (yK _)) (zB (zN (xH (own:=["_law_s"]) (ix:=[3]) rfl rfl rfl (yL K (pv 2)) (λC s H fp=>yE (i:=0) (show(["_law_s","_law_sets"]:List Str).Nodup from by decide +kernel) rfl (Or.inl rfl)) (λC s H fp=>wZ (PW.pt (pw_and (zR (u5 K) (pv 0) (yD (aO K) (pv 1) zK (λ_ _=>rfl)) (by with_unfolding_all rfl)) (pw_and1 (zR (u5 K) (pv 0) (yD (aO K) (pv 1) zK (λ_ _=>rfl)) (by with_unfolding_all rfl)))))) (λC s H fp=>(pv 0)))) zG) zG) (zB (yQ (zR (vJ K Str hr) (yD (qZ K) (pv 0) zK (λ_ _=>rfl)) zS (yK _)) (zB (zN (xH (own:=["_law_s"]) (ix:=[3]) rfl rfl rfl (yL K (pv 2)) (λC s H fp=>yE (i:=0) (show(["_law_s","_law_sets"]:List Str).Nodup from by decide +kernel) rfl (Or.inl rfl)) (λC s H fp=>wZ (PW.pt (pw_or (zR (u5 K) (pv 0) (yD (aO K) (pv 1) zK (λ_ _=>rfl)) (by with_unfolding_all rfl)) (pw_or1 (zR (u5 K) (pv 0) (yD (aO K) (pv 1) zK (λ_ _=>rfl)) (by with_unfolding_all rfl)))))) (λC s H fp=>(pv 0)))) zG) zG) (zB (zN (zY pQ hr (zA (yD (qZ K) (pv 0) zK (λ_ _=>rfl)) (zA (pv 1) (zA (pv 3) zF))))) zG)))))))),?_⟩
 rintro Fa ⟨q0,q1,⟨⟩⟩
 exact SB.of (zV (yR false 2 rfl rfl (X7 (yM 1 rfl))) (λcj=>(xM (yF (md:=.hp) (vK (RK (zD 0 rfl) (zP 0)) (wY "all"))) (zZ (Gs (zD 2 rfl)).ex) (xM (yF (md:=.hp) (vK (RK (zD 0 rfl) (zP 0)) (wY "mark"))) (zZ (zPy (zD 1 rfl) (OJ (zD 0 rfl) (zP 1))).ex) (zV (yR true 3 rfl rfl (yU (n:=false) (fG:=[.un,.z q1]) (no:=1) (ix:=[1]) rfl rfl (O6 (yM 0 rfl) (zP 1)) (yA 0 rfl rfl) (λx4=>u_) (λx4=>(zJ (zE (zD 0 rfl) (zE (zD 1 rfl) zL)))) (λx4=>cU)).ex) (λlK=>(xM (yF (md:=.hp) (vK (RK (zD 0 rfl) (zP 0)) (wY "not"))) (zZ (zJ (zE (zD 2 rfl) (zE (yT (zD 3 rfl) (zP 0)) zL)))) (xM (yF (md:=.hp) (vK (RK (zD 0 rfl) (zP 0)) (wY "both"))) (zZ (yU (n:=false) (fG:=[.un,.y lK]) (no:=1) (ix:=[3]) rfl rfl (yN (yM 2 rfl)) (yA 0 rfl rfl) (λx8=>(TY (yF (md:=.hp) (yj (zH 0 rfl) (yT (zD 1 rfl) (zP 0)))) (yF (md:=.hp) (yj (zH 0 rfl) (yT (zD 1 rfl) (zP 1)))))) (λx8=>(esc (zH 0 rfl))) (λx8=>cU)).ex) (xM (yF (md:=.hp) (vK (RK (zD 0 rfl) (zP 0)) (wY "either"))) (zZ (yU (n:=false) (fG:=[.un,.y lK]) (no:=1) (ix:=[3]) rfl rfl (yN (yM 2 rfl)) (yA 0 rfl rfl) (λx12=>(Ef (yF (md:=.hp) (yj (zH 0 rfl) (yT (zD 1 rfl) (zP 0)))) (yF (md:=.hp) (yj (zH 0 rfl) (yT (zD 1 rfl) (zP 1)))))) (λx12=>(esc (zH 0 rfl))) (λx12=>cU)).ex) (zZ (zJ (zE (esc (RK (zD 0 rfl) (zP 0))) (zE (zD 1 rfl) (zE (zD 3 rfl) zL)))))))))))))) (by unfold Dm;simp only[bnd])
def PJ(q0:LI)(q1:LI):Option Bool:=(if(!true)=true then some true else some (!decide (q0=q1))).bind λb=>if b=true then some false else((some q0).bind λxs=>n7 (λ(s1:Unit) (x3:Int)=>(if(!true)=true then some true else some false).bind λb=>if b=true then(some false).bind λb=>some (.rt b) else some (.nx ())) xs ()).bind λo=>o.els λs2=>some true
theorem tX:ao ["_law_found","_law_due_here","_law_number"] ["_law_found","_law_due_here"] (zI rG):=fsc
abbrev zTv(K:Frag):Sp:=bY K false (λa:LI×LI×Unit=>([.z a.1,.z a.2.1]:SL K)) (λa=>PJ a.1 a.2.1)
theorem zU7(F:aW K "_law_set" "_law_set" rG f fd)(B:Bl K mg):aq P w K mg base aN (k+1) f fd ["_law_found","_law_due_here"] (zTv K):=by
 refine yI F tX (λ_=>rfl) (λ_=>rfl) λcdv A outer s H E hr=>?_
 have nd:=tX.nd
 refine⟨_,(zB (yQ (PW.pt (pw_or (KY (xO (zW (uB K (Ra (n:="list"))) rfl B.qD uC (zA (pv 0) (zA (QD (v:=.ty "list") rfl B.list Ej rfl) zF))))) (pw_or1 (zR (T8 K LI hr) (pv 0) (pv 1) (yK _))))) (zB (zN Bd) zG) zG) (zB (xK aa6 rfl (yL K (pv 0)) (bV 2 nd) (zB (yQ (PW.pt (pw_or (KY (xO (zW (uB K (Ra (n:="int"))) rfl B.qD uC (zA (pv 2) (zA (QD (v:=.ty "int") rfl B.int Z1 rfl) zF))))) (pw_or1 (xO (zW (uB K (Ra (n:="bool"))) rfl B.qD uC (zA (pv 2) (zA (QD (v:=.ty "bool") rfl B.bool zTm rfl) zF))))))) (zB (zN Bd) zG) zG) zG)) (zB (zN Bd) zG))),?_⟩
 rintro Fa ⟨q0,q1,⟨⟩⟩
 exact SB.of (xM (Ef (Mt (cg (md:=.hp) (Ri B.ll rfl (zD 0 rfl)))) (yF (md:=.hp) (T9 (zD 0 rfl) (zD 1 rfl)))) (zZ (esc (Bj false))) (Zz (ZL (n:=false) (L:=(λs1:Unit=>([.z q0,.z q1,.un]:SL K))) () bN (yN (yM 0 rfl)) (λs1=>(yA 2 rfl rfl)) (λs1 x3=>(ZD (Ef (Mt (cg (md:=.hp) (Ri B.ii rfl (zH 2 rfl)))) (cg (md:=.hp) (Ri B.ib rfl (zH 2 rfl)))) (zZ (esc (Bj false))) (ZC (λs1:Unit=>([.z q0,.z q1,.un]:SL K)) () bN)))) (λs2=>(zZ (esc (Bj true)))))) (by unfold PJ;simp only[bnd])
end
end Ts
set_option maxHeartbeats 4000000
namespace Ts
open PySem L2 Sy
section
variable{P:Program}{w:World}{K:Frag}{mg:Str->Option Value}{base:Heap}
theorem ak.R5(h:ak B F L H (.un::b) σ O):∃x a,σ=x::a/\ak B F L H b a O:=by
 cases h with
 |un h=>grind
theorem ak.fz1{B:Bs}{F L H:Hp}{n:Bool}{α:Type}[Rp K α]{a:α}{c:SL K}{σ:St}{O:Own}(h:ak B F L H (.fz n a::c) σ O):∃v b,σ=some v::b/\rp K (reg B F H (fu n)) v a/\ak B F L H c b O:=by
 cases h with
 |fz r h=>grind
theorem ak.aal(h:ak (K:=K) B F L H [] σ O):σ=[]/\O=[]:=by
 cases h with
 |nil=>grind
abbrev Ak(c a b d:V):List (Key×V):=[(abo "steps",c),(abo "fair",a),(abo "every",b),(abo "marks",d)]
def uM(d:uf (List LI) (List (Str×LI)) (List LI)):Option mX:=(Er (d.a.length:Int)).bind λe=>(xR (λ(f:List (Key×LI)) (x:Str×LI)=>iT f x.1 x.2) d.b []).bind λg=>(J9 d.a d.c e).bind λh=>some ⟨d.a,d.c,e,g,h⟩
theorem pR:ao ["_law_drawn_here","_law_steps","_law_marks","_law_fair","_law_about_here","_law_name","_law_some"] ["_law_drawn_here"] (zI mK):=fsc
abbrev zGx(K:Frag):Sp:=bY K true (λa:(uf (List LI) (List (Str×LI)) (List LI))×Unit=>([.z a.1]:SL K)) (λa=>uM a.1)
theorem zPc(F:aW K "_law_about" "_law_about" mK f fd)(B:Bl K mg)(n:bw P w K mg base k "_law_core" ["_law_steps","_law_fair","_law_within"] (Yh K)):aq P w K mg base aN (k+1) f fd ["_law_drawn_here"] (zGx K):=by
 refine yI F pR (λ_=>rfl) (λ_=>rfl) λcdv A outer s H E hr=>?_
 have U:=pR.nd
 have hu:=Gf hr
 refine⟨_,(zB (Jl (pv 0) (Fg rfl (yS (bV 1 U) (yS (bV 2 U) (yS (bV 3 U) Bu)))))
  (zB (xA 4 U (FT (Wz zS (pv 1) (Wz zS (pv 3) (Wz zS (zM7 rfl rfl B.list rfl B.range (zA (zW (uA K) rfl B.len abe (zA (pv 1) zF)) zF)) (Wz zS Wx FQ)))) rfl rfl (by simp) (by show 4<=15;omega)))
  (zB (xK aa6 rfl (yL K (pv 2)) (Fg rfl (yS (bV 5 U) (yS (bV 6 U) Bu))) (zB (Tj hu (wP hu (pv 4) zS (λ_ _=>rfl)) (pv 5) (pv 6) rfl) zG))
  (zB (Tj hu (pv 4) zS (zY n hr (zA (pv 1) (zA (pv 3) (zA (wP hu (pv 4) zS (λ_ _=>rfl)) zF)))) rfl) (zB (zN (pv 4)) zG))))),?_⟩
 rintro Fa ⟨d,⟨⟩⟩
 intro b u G D σ H' s kk
 obtain⟨F,O,g0,k0,z0⟩:=s
 obtain⟨v0,σ1,rfl,r,z1⟩:=ak.fz1 z0
 obtain⟨x1,σ2,rfl,z2⟩:=ak.R5 z1
 obtain⟨x2,σ3,rfl,z3⟩:=ak.R5 z2
 obtain⟨x3,σ4,rfl,z4⟩:=ak.R5 z3
 obtain⟨x4,σ5,rfl,z5⟩:=ak.R5 z4
 obtain⟨Y,σ6,rfl,z6⟩:=ak.R5 z5
 obtain⟨x6,σ7,rfl,z7⟩:=ak.R5 z6
 obtain⟨rfl,rfl⟩:=ak.aal z7
 obtain⟨p0,u1,u2,j,rfl,e0,r1,r2,r3⟩:=r
 obtain⟨h,va,rfl,a1,a2⟩:=r1
 obtain⟨pb,Z,rfl,b1,b2⟩:=r2
 have u:uM d=some b:=u
 unfold uM at u
 obtain⟨T,S,u⟩:=ac1.mp u
 obtain⟨ms1,c2,u⟩:=ac1.mp u
 obtain⟨al,c3,u⟩:=ac1.mp u
 cases u
 unfold Er at S
 split at S
 case isFalse=>cases S
 rename_i hl
 have S:=(aa5 S).symm
 have M:=a2.len
 refine⟨_,rfl,p0,[.ref h,.ref pb,j],rfl,.inl (.inl (k0.fh _ _ e0)),rfl,_,_,rfl,_,_,rfl,_,_,rfl,rfl,?_⟩
 intro p hp
 have k1:Ok _ F [(p,HO.dK [])] _:=k0.add (O1:=[]) (O2:=[]) hp
 refine⟨_,rfl,_,rfl,_,rfl,h,va,rfl,.inl (aZ.of (k1.fh _ _ a1)),(va.length:Int),rfl,(by rw[M];exact hl.1),(by rw[M];exact hl.2),λl hl0=>?_⟩
 rw[M,<-S]
 have k2:=bJ.new k1 hl0 (.lst (T.map V.int))
 intro q hq
 have k3:Ok _ _ [(q,HO.dK []),(p,HO.dK [])] _:=k2.ok.add (O1:=[]) (O2:=[(p,HO.dK [])]) hq
 refine⟨(Ok.one (O1:=[(q,HO.dK [])]) (O2:=[]) k3).2.2,Ak (V.ref h) j (.ref l) (.ref q),rfl,by show 4<=15;omega,?_⟩
 have em:QW [] (Ak (V.ref h) j (.ref l) (.ref q))=Ak (V.ref h) j (.ref l) (.ref q):=rfl
 rw[em]
 have k4:Ok _ _ [(q,HO.dK []),(p,HO.dK (Ak (V.ref h) j (.ref l) (.ref q)))] _:=k3.chg (O1:=[(q,HO.dK [])]) (O2:=[]) _
 have g:Same F (upd F l (.lst (T.map V.int))):=k2.ff
 have R:upd F l (.lst (T.map V.int)) l=some (.lst (T.map V.int)):=zM
 generalize upd F l (.lst (T.map V.int))=C at k4 g R
 clear k3 k2 k1
 refine⟨_,rfl,pb,rfl,⟨Z,aZ.of (k4.fh _ _ (g _ _ b1))⟩,?_⟩
 refine⟨λi m σ L=>m=d.b.length-i/\i<=d.b.length/\∃Y x6 o t,σ=[some (.ref p0),some (.ref h),some (.ref pb),some j,some (.ref p),Y,x6]/\Ok ⟨Fa,H⟩ C [(q,HO.dK o),(p,HO.dK (Ak (V.ref h) j (.ref l) (.ref q)))] L/\A2 (DR K C) o t/\xR (λ(t:List (Key×LI)) (x:Str×LI)=>iT t x.1 x.2) (d.b.take i) []=some t,⟨d.b.length,rfl,abg _,Y,x6,[],[],rfl,k4,trivial,rfl⟩,?_⟩
 clear k4
 rintro i m σ L ⟨rfl,hil,y5,y6,o,t,rfl,I,r5,e5⟩
 have Q:aZ K L pb Z:=aZ.of (I.fh _ _ (g _ _ b1))
 by_cases N:i<d.b.length
 ·obtain⟨v,hv,rv⟩:=b2.at2 (aaz N)
  obtain⟨kv',kv2,e6,X,e8⟩:=zHu c2 (aaz N)
  rw[e5] at e6
  cases e6
  refine .inr ⟨⟨Z,v,Q,hv⟩,λσ L=>∃Y x6 o t,σ=[some (.ref p0),some (.ref h),some (.ref pb),some j,some (.ref p),Y,x6]/\Ok ⟨Fa,H⟩ C [(q,HO.dK o),(p,HO.dK (Ak (V.ref h) j (.ref l) (.ref q)))] L/\A2 (DR K C) o t/\xR (λ(t:List (Key×LI)) (x:Str×LI)=>iT t x.1 x.2) (d.b.take (i+1)) []=some t,λσ' H' z=>⟨d.b.length-(i+1),by omega,rfl,N,z⟩,λv' H3 yd=>?_⟩
  obtain⟨e,y⟩:=yd
  subst e
  have:=hv.symm.trans (y Z Q)
  cases this
  obtain⟨pt,w1,w2,rfl,t1,t2,t3⟩:=rv
  cases t2
  have X:iT t (d.b[i]).1 (d.b[i]).2=some kv2:=X
  unfold iT at X
  split at X
  case isFalse=>cases X
  rename_i hcap
  cases X
  have J:=(Ok.one (O1:=[(q,HO.dK o)]) (O2:=[]) I).2.2
  have hqq:=(Ok.one (O1:=[]) I).2.2
  refine⟨pt,_,rfl,.inl (.inl (I.fh _ _ (g _ _ t1))),rfl,_,_,rfl,_,_,rfl,rfl,?_⟩
  refine⟨_,rfl,_,rfl,p,.ref q,rfl,iB.k (k:=abo "marks") J,_,rfl,q,_,rfl,sE.k (k:=abo (d.b[i]).1) hqq (Cg (by rw[r5.len];exact hcap)),?_⟩
  exact⟨_,_,_,_,rfl,I.chg (O1:=[]) _,r5.put (Rp.mono g t3),e8⟩
 ·have e:i=d.b.length:=by omega
  subst e
  rw[take_length,c2] at e5
  cases e5
  refine .inl ⟨⟨Z,Q,afd b2.len⟩,?_⟩
  have J:=(Ok.one (O1:=[(q,HO.dK o)]) (O2:=[]) I).2.2
  refine⟨_,rfl,_,rfl,_,rfl,p,.ref l,rfl,iB.k (k:=abo "every") J,?_⟩
  refine⟨(d.a,d.c,T,()),al,C,I.fh,c3,.cons (Rp.mono g ⟨h,va,rfl,a1,a2⟩) (.cons (Rp.mono g r3) (.cons ⟨l,_,rfl,R,Cm _⟩ .nil)),λv H3 s3 rv=>?_⟩
  have g6:=I.called s3
  have r6:=Rp.mono (aV) (Rp.mono (Jy (F:=C) I.h0 s3) rv)
  have hp3:=s3 _ _ J
  refine⟨_,rfl,p,_,rfl,sE.k (k:=abo "alive") hp3 (by show 4<sizeLine;decide),?_⟩
  have k7:Ok _ _ [(q,HO.dK o),(p,HO.dK (CN (.ref h) j (.ref l) (.ref q) v))] _:=g6.ok.chg (O1:=[(q,HO.dK o)]) (O2:=[]) (HO.dK (CN (.ref h) j (.ref l) (.ref q) v))
  have k8:=Ok.freeze (O1:=[]) k7
  have k9:=Ok.freeze (O1:=[]) (O2:=[]) k8
  have q2:ext C L H3 q=none:=(Ok.one (O1:=[]) k7).1
  have p8:=(Ok.one (O1:=[]) (O2:=[]) k8).1
  have s8:Same (ext C L H3) (upd (upd (ext C L H3) q (HO.dK o)) p (HO.dK (CN (.ref h) j (.ref l) (.ref q) v))):=(au q2 _).trans (au p8 _)
  have s9:=g6.ff.trans s8
  exact⟨_,rfl,kk _ _ (Ci (al:=true) k9 false ⟨p,.ref h,j,.ref l,.ref q,v,rfl,zM,Rp.mono (g.trans s9) ⟨h,va,rfl,a1,a2⟩,Rp.mono (g.trans s9) r3,⟨l,_,rfl,s9 _ _ R,Cm _⟩,⟨q,o,rfl,au p8 _ _ _ zM,r5.imp λ_ _ z=>⟨z.1,Rp.mono s9 z.2⟩⟩,Rp.mono s8 r6⟩ rfl)⟩
end
open PySem L2
def VH(n:Int)(xs:LI):Prop:=xs≠[]/\xs.Nodup/\xs.length<=60/\∀z∈xs,0<=z/\z<n
structure Gr{C:Addr}(m:aF C)(n:Int):Prop where
 len:(m.steps.length:Int)=n
 pos:1<=n
 few:n<=60
 row:∀xs∈m.steps,xs≠[]/\xs.Nodup/\∀z∈xs,0<=z/\z<n
 src:m.sources=srcs m.steps
def nxt(xss:List LI)(s:Int):LI:=xss.getD s.toNat []
theorem Im:x∈src xss j↔0<=x/\x<(xss.length:Int)/\(j:Int)∈nxt xss x:=by
 unfold src nxt
 rw[mem_map]
 constructor
 ·rintro⟨k,h,rfl⟩
  rw[mem_filter,mem_range] at h
  exact⟨aek _,by show(k:Int)<_;lia,of_decide_eq_true h.2⟩
 ·intro⟨h0,h1,h2⟩
  refine⟨x.toNat,?_,by show((x.toNat:Nat):Int)=x;lia⟩
  rw[mem_filter,mem_range]
  exact⟨by lia,decide_eq_true h2⟩
theorem Yk{C:Addr}{m:aF C}(g:Gr m n):xD m=some n:=by
 unfold xD
 rw[g.len]
theorem zT5{C:Addr}{m:aF C}(g:Gr m n)(h0:0<=s)(h1:s<n):W (wH m s) λxs=>∀x,x∈xs↔0<=x/\x<n/\s∈nxt m.steps x:=by
 unfold wH
 rw[d_ h0,g.src]
 have a:=g.len
 refine⟨_,zQ3 (by lia),λx=>?_⟩
 rw[Im,a,show((s.toNat:Nat):Int)=s by lia]
theorem VJ{α:Type}{xs:List α}{a d:α}(h:i<xs.length):(xs.set i a).getD j d=if j=i then a else xs.getD j d:=by
 grind
theorem zQk{C:Addr}{m:aF C}(g:Gr m n)(k:∀x∈xs,0<=x/\x<n):W (RT m xs) λa=>(a.length:Int)=n/\∀s:Int,0<=s->s<n->a.getD s.toNat false=decide (s∈xs):=by
 unfold RT
 have hp:=g.pos
 have hf:=g.few
 simp only[zC,aj,Yk g,dU]
 refine⟨⟨by lia,by omega⟩,?_⟩
 rw[M5 (λ_=>false)]
 have e:=vO (n:=n) (by lia)
 refine⟨yO (by lia),wN (λi a=>(a.length:Int)=n/\∀s:Int,0<=s->s<n->a.getD s.toNat false=decide (s∈xs.take i)) ⟨by rw[length_map];exact e,λs _ _=>?_⟩ (λi x a f b=>?_) λa b=>?_⟩
 ·rw[getD_eq_getElem?_getD,getElem?_map]
  cases(rng n)[s.toNat]?<;>simp
 ·have c:=k x (mem_of_getElem? f)
  simp only[zC,aj]
  rw[Rj c.1 (by lia)]
  refine⟨by rw[length_set];exact b.1,λs j h=>?_⟩
  rw[VJ (by lia)]
  have d:xs.take (i+1)=xs.take i++[x]:=by rw[take_add_one,f]<;>rfl
  by_cases q:s.toNat=x.toNat
  ·have:s=x:=by lia
   subst this
   rw[if_pos rfl,d];simp
  ·have:s≠x:=λz=>q (by rw[z])
   rw[if_neg q,b.2 s j h,d]
   simp[this]
 ·rw[take_length] at b
  exact b
abbrev dg(d:List (Option Int))(s:Int):Option Int:=d.getD s.toNat none
structure wg(xss:List LI)(through goal:LI)(n:Int)(d:List (Option Int)):Prop where
 len:(d.length:Int)=n
 pos:∀s k,0<=s->s<n->dg d s=some k->0<=k/\k<n
 zero:∀s,0<=s->s<n->(dg d s=some 0↔s∈goal)
 via:∀s k,0<=s->s<n->dg d s=some k->s∉goal->s∈through/\∃t∈nxt xss s,0<=t/\t<n/\dg d t=some (k-1)
 near:∀s t k,0<=s->s<n->0<=t->t<n->s∈through->t∈nxt xss s->dg d t=some k->∃j,dg d s=some j/\j<=k+1
structure Bf(xss:List LI)(pass:Int->Prop)(goal:LI)(n:Int)(d:List (Option Int))(row:LI)(place:Nat):Prop where
 len:(d.length:Int)=n
 rng:∀s∈row,0<=s/\s<n
 nd:row.Nodup
 iff:∀s:Int,0<=s->s<n->((dg d s).isSome=true↔s∈row)
 idx:∀(i:Nat)(s:Int),row[i]?=some s->∃k:Int,dg d s=some k/\0<=k/\k<=i
 mono:∀(i j:Nat)(s t k l:Int),i<=j->row[i]?=some s->row[j]?=some t->dg d s=some k->dg d t=some l->k<=l
 top:∀(j:Nat)(s t k l:Int),row[place]?=some s->row[j]?=some t->dg d s=some k->dg d t=some l->l<=k+1
 zero:∀s:Int,0<=s->s<n->(dg d s=some 0↔s∈goal)
 via:∀(s k:Int),s∈row->dg d s=some k->s∉goal->pass s/\∃t∈nxt xss s,0<=t/\t<n/\dg d t=some (k-1)
 done:∀(i:Nat)(s t k:Int),i<place->row[i]?=some t->dg d t=some k->0<=s->s<n->pass s->t∈nxt xss s->∃j,dg d s=some j/\j<=k+1
theorem zS9{d:List (Option Int)}(hl:(d.length:Int)=n)(h0:0<=s)(h1:s<n)(t0:0<=t):dg (d.set s.toNat v) t=if t=s then v else dg d t:=by
 show(d.set s.toNat v).getD t.toNat none=_
 rw[VJ (by lia)]
 by_cases e:t=s
 ·rw[if_pos e,if_pos (by rw[e])]
 ·rw[if_neg e,if_neg (by lia)]
theorem R7{a:LI}{i:Nat}{s x:Int}(h:(a++[x])[i]?=some s):a[i]?=some s\/(i=a.length/\s=x):=by
 grind
structure Bm(xss:List LI)(pass:Int->Prop)(goal:LI)(n:Int)(d:List (Option Int))(row:LI)(place:Nat)(t k:Int)(seen:LI):Prop where
 bf:Bf xss pass goal n d row place
 at_:row[place]?=some t
 k_:dg d t=some k
 zc:∀s∈seen,pass s->∃j,dg d s=some j/\j<=k+1
theorem Bm.put(b:Bm xss F goal n d A place t k P)(r:0<=x)(C:x<n)(hp:F x)(I:dg d x=none)(ht:t∈nxt xss x) :
  Bm xss F goal n (d.set x.toNat (some (k+1))) (A++[x]) place t k (P++[x]):=by
 have B:=b.bf
 have L:=B.rng t (mem_of_getElem? b.at_)
 have R:x∉A:=λh=>by have:=(B.iff x r C).mpr h;rw[I] at this;cases this
 have X:t≠x:=λe=>R (e▸mem_of_getElem? b.at_)
 obtain⟨k',e1,k0,kp⟩:=B.idx place t b.at_
 rw[b.k_] at e1
 cases e1
 have pl:=xQ b.at_
 have f:∀s:Int,0<=s->s≠x->dg (d.set x.toNat (some (k+1))) s=dg d s:=λs p q=>by rw[zS9 B.len r C p,if_neg q]
 have g:dg (d.set x.toNat (some (k+1))) x=some (k+1):=by rw[zS9 B.len r C r,if_pos rfl]
 have y:∀{i:Nat}{s:Int},A[i]?=some s->0<=s/\s<n/\s≠x:=λh=>by
  have:=B.rng _ (mem_of_getElem? h)
  exact⟨this.1,this.2,λe=>R (e▸mem_of_getElem? h)⟩
 refine⟨⟨by rw[length_set];exact B.len,λs J=>?_,?_,λs p H=>?_,λi s h=>?_,λi j s u a l ij o m G v=>?_,λj s u a l o m G v=>?_,λs p H=>?_,λs a J o m=>?_,λi s u a hi o m p H U hu=>?_⟩,?_,?_,λs J U=>?_⟩
 ·rcases mem_append.mp J with q|q
  ·exact B.rng s q
  ·rw[mem_singleton.mp q];exact⟨r,C⟩
 ·rw[nodup_append]
  exact⟨B.nd,by simp,λa ha c hc e=>by rw[mem_singleton.mp hc] at e;exact R (e▸ha)⟩
 ·by_cases e:s=x
  ·subst e;rw[g];simp
  ·rw[f s p e,B.iff s p H];simp[e]
 ·rcases R7 h with h|⟨rfl,rfl⟩
  ·obtain⟨Z,a2,S⟩:=y h
   rw[f s Z S];exact B.idx i s h
  ·exact⟨k+1,g,by lia,by omega⟩
 ·rcases R7 o with T|⟨rfl,rfl⟩
  ·obtain⟨Z,a2,S⟩:=y T
   rw[f s Z S] at G
   rcases R7 m with g2|⟨rfl,rfl⟩
   ·obtain⟨K,b2,O⟩:=y g2
    rw[f u K O] at v
    exact B.mono i j s u a l ij T g2 G v
   ·rw[g] at v
    cases v
    exact B.top i t s k a b.at_ T b.k_ G
  ·rcases R7 m with m|⟨rfl,rfl⟩
   ·have:=xQ m;lia
   ·rw[G] at v;cases v;exact aem _
 ·have D:s=t:=by
   rcases R7 o with o|⟨e,_⟩
   ·rw[b.at_] at o;exact(aa5 o).symm
   ·lia
  subst D
  rw[f s L.1 X,b.k_] at G
  cases G
  rcases R7 m with m|⟨rfl,rfl⟩
  ·obtain⟨K,b2,O⟩:=y m
   rw[f u K O] at v
   exact B.top j s u k l b.at_ m b.k_ v
  ·rw[g] at v;cases v;exact aem _
 ·by_cases e:s=x
  ·subst e
   rw[g]
   constructor
   ·intro q;have q:=aa5 q;lia
   ·intro q;have:=(B.zero s p H).mpr q;rw[I] at this;cases this
  ·rw[f s p e];exact B.zero s p H
 ·rcases mem_append.mp J with q|q
  ·have sr:=B.rng s q
   have sx:s≠x:=λe=>R (e▸q)
   rw[f s sr.1 sx] at o
   obtain⟨p1,u,u1,u2,u3,Y⟩:=B.via s a q o m
   refine⟨p1,u,u1,u2,u3,?_⟩
   rw[f u u2 λe=>by rw[e,I] at Y;cases Y]
   exact Y
  ·have:=mem_singleton.mp q
   subst this
   rw[g] at o
   cases o
   exact⟨hp,t,ht,L.1,L.2,by rw[f t L.1 X,b.k_,show k+1-1=k by lia]⟩
 ·have D:A[i]?=some u:=by rw[getElem?_append_left (by lia)] at o;exact o
  obtain⟨K,b2,O⟩:=y D
  rw[f u K O] at m
  obtain⟨j,E,Q⟩:=B.done i s u a hi D m p H U hu
  by_cases e:s=x
  ·subst e;rw[I] at E;cases E
  ·exact⟨j,by rw[f s p e];exact E,Q⟩
 ·rw[getElem?_append_left pl];exact b.at_
 ·rw[f t L.1 X];exact b.k_
 ·rcases mem_append.mp J with q|q
  ·obtain⟨j,E,Q⟩:=b.zc s q U
   by_cases e:s=x
   ·subst e;rw[I] at E;cases E
   ·by_cases p:0<=s
    ·exact⟨j,by rw[f s p e];exact E,Q⟩
    ·refine⟨j,?_,Q⟩
     show(d.set x.toNat (some (k+1))).getD s.toNat none=some j
     have z:s.toNat=0:=by lia
     rw[VJ (by have:=B.len;lia)]
     by_cases w:s.toNat=x.toNat
     ·have xz:x=0:=by lia
      have M:d.getD s.toNat none=some j:=E
      have N:d.getD x.toNat none=none:=I
      rw[w] at M
      rw[M] at N
      cases N
     ·rw[if_neg w];exact E
  ·rw[mem_singleton.mp q];exact⟨k+1,g,aem _⟩
theorem zLc{C:Addr}{m:aF C}(g:Gr m n){goal:LI}(ht:∀x∈through,0<=x/\x<n)(F:goal.Nodup/\∀x∈goal,0<=x/\x<n):W (Vq m through goal) (wg m.steps through goal n):=by
 unfold Vq
 have hp:=g.pos
 have hf:=g.few
 simp only[zC,aj,Yk g,dU]
 refine(zQk g ht).imp λfl ⟨fl1,fl2⟩=>⟨⟨by lia,by omega⟩,?_⟩
 rw[M5 (λ_=>(none:Option Int))]
 have e:=vO (n:=n) (by lia)
 refine⟨yO (by lia),wN (λi (d:List (Option Int))=>(d.length:Int)=n/\∀s:Int,0<=s->s<n->dg d s=if s∈goal.take i then some 0 else none) ⟨by rw[length_map];exact e,λs _ _=>?_⟩ (λi x d p hI=>?_) λd L=>?_⟩
 ·show(List.map (λ_=>(none:Option Int)) (rng n)).getD s.toNat none=_
  rw[getD_eq_getElem?_getD,getElem?_map]
  cases(rng n)[s.toNat]?<;>simp
 ·have c:=F.2 x (mem_of_getElem? p)
  simp only[zC,aj]
  rw[Rj c.1 (by lia)]
  refine⟨by rw[length_set];exact hI.1,λs I J=>?_⟩
  have tk:goal.take (i+1)=goal.take i++[x]:=by rw[take_add_one,p]<;>rfl
  rw[zS9 hI.1 c.1 c.2 I,hI.2 s I J,tk]
  by_cases q:s=x<;>simp[q]
 rw[take_length] at L
 have U:Bf m.steps (· ∈ through) goal n d goal 0:=by
  have z:∀s:Int,0<=s->s<n->∀k,dg d s=some k->k=0/\s∈goal:=λs I J k h=>by
   rw[L.2 s I J] at h
   split at h
   ·rename_i q;cases h;exact⟨rfl,q⟩
   ·cases h
  refine⟨L.1,F.2,F.1,λs I J=>?_,λi s h=>?_,λi j s t k l _ w o X Q=>?_,λj s t k l w o X Q=>?_,λs I J=>?_,λs k A w o=>absurd A o,λi s t k p=>by omega⟩
  ·rw[L.2 s I J];by_cases q:s∈goal<;>simp[q]
  ·have A:=mem_of_getElem? h
   have:=F.2 s A
   exact⟨0,by rw[L.2 s this.1 this.2,if_pos A],aem _,by omega⟩
  ·have S:=F.2 s (mem_of_getElem? w)
   have Y:=F.2 t (mem_of_getElem? o)
   have:=(z s S.1 S.2 k X).1
   have:=(z t Y.1 Y.2 l Q).1
   lia
  ·have S:=F.2 s (mem_of_getElem? w)
   have Y:=F.2 t (mem_of_getElem? o)
   have:=(z s S.1 S.2 k X).1
   have:=(z t Y.1 Y.2 l Q).1
   lia
  ·rw[L.2 s I J];by_cases q:s∈goal<;>simp[q]
 have O:n.toNat<=60:=by lia
 refine GK (λs=>∃f:Nat,s.2.2=(f:Int)/\Bf m.steps (· ∈ through) goal n s.1 s.2.1 f) (λs=>n.toNat-s.2.2.toNat) ⟨0,rfl,U⟩ (show n.toNat-(0:Int).toNat<fuel from aa7 (Nat.sub_le _ _) (aa7 O (by decide))) ?_
 rintro s ⟨f,hpl,B⟩
 rw[aj]
 have rl:s.2.1.length<=n.toNat:=wM B.nd λx c=>by have:=B.rng x c;lia
 by_cases lt:s.2.2<(s.2.1.length:Int)
 ·rw[decide_eq_true lt,if_pos rfl]
  simp only[zC,aj]
  rw[d_ (by lia)]
  have N:f<s.2.1.length:=by lia
  have e1:s.2.2.toNat=f:=by lia
  rw[e1]
  refine⟨_,aaz N,?_⟩
  have D:s.2.1[f]?=some s.2.1[f]:=aaz N
  generalize s.2.1[f]=t at D
  have tr:=B.rng t (mem_of_getElem? D)
  obtain⟨k,hk,k0,k1⟩:=B.idx f t D
  refine(zT5 g tr.1 tr.2).imp λxs P=>?_
  refine wN (λi (r:List (Option Int)×LI)=>Bm m.steps (· ∈ through) goal n r.1 r.2 f t k (xs.take i)) ⟨B,D,hk,λs A=>by cases A⟩ (λi x r p b=>?_) λr b=>?_
  ·have c:=(P x).mp (mem_of_getElem? p)
   have tk:xs.take (i+1)=xs.take i++[x]:=by rw[take_add_one,p]<;>rfl
   rw[tk]
   simp only[zC,aj]
   rw[d_ c.1]
   have fx:=fl2 x c.1 c.2.1
   have T:x.toNat<fl.length:=by lia
   refine⟨_,aaz T,?_⟩
   rw[getD_eq_getElem?_getD,aaz T] at fx
   have fx:fl[x.toNat]=decide (x∈through):=fx
   rw[fx]
   have dl:x.toNat<r.1.length:=by have:=b.bf.len;lia
   have dx:dg r.1 x=r.1[x.toNat]:=by show r.1.getD x.toNat none=_;rw[getD_eq_getElem?_getD,aaz dl];rfl
   by_cases px:x∈through
   ·rw[decide_eq_true px,if_pos rfl,zC,d_ c.1]
    refine⟨_,aaz dl,?_⟩
    rw[<-dx,aj]
    cases E:dg r.1 x with
    |none =>
     simp only[Option.isNone_none,if_true,zC,aj]
     have R:t.toNat<r.1.length:=by have:=b.bf.len;lia
     rw[d_ tr.1]
     refine⟨_,aaz R,?_⟩
     have ek:r.1[t.toNat]=some k:=by
      have:=b.k_
      have z:r.1.getD t.toNat none=some k:=this
      rw[getD_eq_getElem?_getD,aaz R] at z
      exact z
     rw[ek,aj,Rj c.1 (by have:=b.bf.len;lia),Ek]
     have rl2:r.2.length<=n.toNat:=wM b.bf.nd λx c=>by have:=b.bf.rng x c;lia
     exact⟨yO (by lia),b.put c.1 c.2.1 px E c.2.2⟩
    |some j =>
     simp only[Option.isNone_some,abf,if_false,aj]
     refine⟨b.bf,b.at_,b.k_,λs A Z=>?_⟩
     rcases mem_append.mp A with q|q
     ·exact b.zc s q Z
     ·rw[mem_singleton.mp q]
      have K:x∈r.2:=(b.bf.iff x c.1 c.2.1).mp (by rw[E];rfl)
      obtain⟨ii,hii⟩:=mem_iff_getElem?.mp K
      exact⟨j,E,b.bf.top ii t x k j b.at_ hii b.k_ E⟩
   ·rw[decide_eq_false px,if_neg (by decide),aj]
    simp only[abf,if_false,aj]
    refine⟨b.bf,b.at_,b.k_,λs A Z=>?_⟩
    rcases mem_append.mp A with q|q
    ·exact b.zc s q Z
    ·rw[mem_singleton.mp q] at Z;exact absurd Z px
  ·rw[take_length] at b
   refine⟨⟨f+1,by show s.2.2+1=_;lia,?_⟩,?_⟩
   ·have y:=b.bf
    refine⟨y.len,y.rng,y.nd,y.iff,y.idx,y.mono,λj u v a l w o X Q=>?_,y.zero,y.via,λi u v a p w o H G pu M=>?_⟩
    ·have q1:=y.mono f (f+1) t u k a (by lia) b.at_ w b.k_ X
     have q2:=y.top j t v k l b.at_ o b.k_ Q
     lia
    ·by_cases q:i=f
     ·subst q
      rw[b.at_] at w
      cases w
      rw[b.k_] at o
      cases o
      exact b.zc u ((P u).mpr ⟨H,G,M⟩) pu
     ·exact y.done i u v a (by lia) w o H G pu M
   ·show n.toNat-(s.2.2+1).toNat<n.toNat-f
    lia
 ·rw[decide_eq_false lt,if_neg (by decide)]
  have all:∀t∈s.2.1,∃i,i<f/\s.2.1[i]?=some t:=λt h=>by
   obtain⟨i,p⟩:=mem_iff_getElem?.mp h
   exact⟨i,by have:=xQ p;lia,p⟩
  refine⟨B.len,λu k H G h=>?_,B.zero,λu k H G h M=>?_,λu t k H G t0 t1 M ht hk=>?_⟩
  ·have K:=(B.iff u H G).mp (by rw[h];rfl)
   obtain⟨i,p⟩:=mem_iff_getElem?.mp K
   obtain⟨k',e1,e2,e3⟩:=B.idx i u p
   rw[h] at e1
   cases e1
   have:=xQ p
   exact⟨e2,by omega⟩
  ·exact B.via u k ((B.iff u H G).mp (by rw[h];rfl)) h M
  ·obtain⟨i,w,o⟩:=all t ((B.iff t t0 t1).mp (by rw[hk];rfl))
   exact B.done i u t k w o hk H G M ht
theorem PK{xss:List LI}(hl:(xss.length:Int)=n)(h0:0<=s)(h1:s<n):xss[s.toNat]?=some (nxt xss s):=by
 unfold nxt
 grind
theorem Ka:∀{xs ys:LI},xs.Pairwise (· < ·)->ys.Pairwise (· < ·)->(∀s,s∈xs↔s∈ys)->xs=ys
 |[],[],_,_,_=>rfl
 |[],y::ys,_,_,h=>by have:=(h y).mpr mem_cons_self;grind
 |x::xs,[],_,_,h=>by have:=(h x).mp mem_cons_self;grind
 |x::xs,y::ys,d,c,h=>by
  have a:=pairwise_cons.mp d
  have b:=pairwise_cons.mp c
  have e:x=y:=by
   rcases mem_cons.mp ((h x).mp mem_cons_self) with q|q
   ·exact q
   ·rcases mem_cons.mp ((h y).mpr mem_cons_self) with r|r
    ·grind
    grind
  subst e
  rw[Ka a.2 b.2 λs=>?_]
  grind
theorem zW6(n:Int):(rng n).Pairwise (· < ·):=by
 unfold rng
 rw[List.pairwise_map]
 exact List.pairwise_lt_range.imp λh=>by grind
def pick(n:Int)(p:Int->Bool):LI:=(rng n).filter p
theorem fj:s∈pick n p↔0<=s/\s<n/\p s=true:=by
 unfold pick
 rw[mem_filter,cV,and_assoc]
theorem yX(n:Int)(p:Int->Bool):aG n (pick n p):=⟨(zW6 n).filter p,λx a=>by have:=fj.mp a;omega⟩
theorem zV8{d:List (Option Int)}(hl:(d.length:Int)=n):Eh d=(rng n).map λs=>(s,dg d s):=by
 refine ext_getElem? λi=>?_
 have e:n.toNat=d.length:=by lia
 by_cases q:i<d.length
 ·have a:(rng n)[i]?=some (i:Int):=by unfold rng;rw[getElem?_map,getElem?_range (by lia)];rfl
  rw[getElem?_map,a]
  unfold Eh
  rw[List.getElem?_zip_eq_some (z:=((i:Int),dg d i))|>.mpr ⟨?_,?_⟩]
  ·rfl
  ·rw[getElem?_map,getElem?_range q];rfl
  ·show d[i]?=some (d.getD ((i:Int).toNat) none)
   rw[acu,getD_eq_getElem?_getD,aaz q];rfl
 ·rw[abw (by rw[zKt];lia),abw (by rw[length_map];unfold rng;rw[length_map,length_range];lia)]
theorem Io:W (dput kvs k v) Q↔kvs.length<cap/\Q (pK kvs (ab8 k) v):=by
 unfold dput
 rw[Rk]
 constructor
 ·intro⟨a,b⟩
  by_cases h:kvs.length<cap
  ·exact⟨h,aj.mp (a h)⟩
  ·exact absurd (b h) (by rw[JC];exact id)
 ·intro⟨h,q⟩
  exact⟨λ_=>aj.mpr q,λz=>absurd h z⟩
theorem zWm:W (iT kvs k v) Q↔kvs.length<cap/\Q (pK kvs (abo k) v):=by
 unfold iT
 rw[Rk]
 constructor
 ·intro⟨a,b⟩
  by_cases h:kvs.length<cap
  ·exact⟨h,aj.mp (a h)⟩
  ·exact absurd (b h) (by rw[JC];exact id)
 ·intro⟨h,q⟩
  exact⟨λ_=>aj.mpr q,λz=>absurd h z⟩
def Ew(n:Int)(xs:LI):Prop:=xs.Nodup/\xs.length<=100/\∀z∈xs,0<=z/\z<n
theorem zQj(h:0<=z/\z<n):Vo z n=some true:=by
 unfold Vo
 grind
theorem zCz(h:Ew n xs)(x:Str):W (xV xs n x) λ_=>True:=by
 unfold xV
 rw[zC,aj,zC,zC,aj]
 refine wN (λi s=>s.length<=i/\∀z,(nj s z).isSome=true->z∈xs.take i) ⟨abg _,λz c=>by cases c⟩ (λi y s a f=>?_) λs _=>aj.mpr trivial
 have il:=xQ a
 rw[zQj (h.2.2 y (mem_of_getElem? a)),zC,zC,zC,aj,aj,if_neg (by decide),aj,zC]
 have d:(nj s y).isSome=false:=by
  cases q:(nj s y).isSome with
  |false=>rfl
  |true=>exact absurd (f.2 y q) (zHl h.1 a)
 have b:=d
 rw[b,if_neg (by decide),aj,zC,Io]
 have l1:=h.2.1
 refine⟨yO (by lia),?_⟩
 rw[aj]
 have l2:=zRs s (ab8 y) true
 refine⟨by lia,λz c=>?_⟩
 rw[W_ a]
 have e:=zSv s (ab8 y) (ab8 z) true
 grind
theorem Kc(a:Str){i:Nat}(h:i<1000):W (Nb a (i:Int)) λ_=>True:=by
 unfold Nb
 rw[if_pos (zSh (by lia)),aj]
 trivial
theorem zOj{xss:List LI}(d:(xss.length:Int)=n)(h0:1<=n)(h1:n<=60)(h:∀xs∈xss,xs≠[]/\Ew n xs):W (vY xss) λ_=>True:=by
 unfold vY
 rw[zC,aj,zC,zC,d,decide_eq_false (by lia),if_neg (by decide),aj,decide_eq_false (by lia),if_neg (by decide),aj,zC,zC,aj]
 refine wN (λ_ _=>True) trivial (λi y s c _=>?_) λs _=>aj.mpr trivial
 obtain⟨f,a⟩:=ZP c
 have il:=xQ a
 obtain⟨e,b⟩:=h y.2 (mem_of_getElem? a)
 rw[f]
 simp only[zC]
 refine(Kc "steps of stand " (i:=i) (by lia)).imp λt _=>?_
 rw[aj,aj,aj]
 refine(zCz b t).imp λ_ _=>?_
 rw[decide_eq_false (λz=>e (length_eq_zero_iff.mp (by lia))),if_neg (by decide),aj,aj]
 trivial
theorem zQo{xss:List LI}(hl:xss.length<=100)(h:∀xs∈xss,Ew n xs):W (uN xss n) λ_=>True:=by
 unfold uN
 rw[zC,zC,aj]
 refine wN (λ_ _=>True) trivial (λi y s c _=>?_) λs _=>aj.mpr trivial
 obtain⟨b,a⟩:=ZP c
 have il:=xQ a
 rw[b]
 simp only[zC]
 refine(Kc "fair set " (by lia)).imp λt _=>?_
 rw[aj,aj,aj]
 refine(zCz (h y.2 (mem_of_getElem? a)) t).imp λ_ _=>?_
 rw[aj]
 trivial
def zMq(n:Int)(a:List (Str×LI)):Prop:=(a.map (·.1)).Nodup/\a.length<=100/\∀m∈a,vX m.1=some true/\m.1.length<=1000/\Ew n m.2
theorem zOk(h:zMq n b):W (vZ b n) λ_=>True:=by
 unfold vZ
 rw[zC,aj,zC,zC,aj]
 refine wN (λi s=>s.length<=i/\∀z,(JK s z).isSome=true->z∈(b.map (·.1)).take i) ⟨abg _,λz d=>by cases d⟩ (λi y s g o=>?_) λs _=>aj.mpr trivial
 have il:=xQ g
 have a:(b.map (·.1))[i]?=some y.1:=by rw[getElem?_map,g];rfl
 obtain⟨m,r,w⟩:=h.2.2 y (mem_of_getElem? g)
 have k:y.1∉(b.map (·.1)).take i:=λd=>by
  obtain⟨j,c⟩:=mem_iff_getElem?.mp d
  have f:j<i:=by
   have:=xQ c
   rw[length_take] at this
   lia
  rw[getElem?_take_of_lt f] at c
  have l:=xQ a
  have v:=xQ c
  rw[aaz l] at a
  rw[aaz v] at c
  have e:(b.map (·.1))[j]=(b.map (·.1))[i]:=(aa5 c).trans (aa5 a).symm
  have:=(getElem_inj h.1).mp e
  lia
 rw[m,zC,zC,zC,aj,aj,ab2,if_neg (by decide),aj,zC]
 have u:(JK (Dc.mk s).kv y.1).isSome=false:=by
  cases q:(JK s y.1).isSome with
  |false=>rfl
  |true=>exact absurd (o.2 y.1 q) k
 rw[u,if_neg (by decide),aj,zC,zWm]
 have l1:=h.2.1
 refine⟨yO (by lia),?_⟩
 simp only[zC]
 have p:W (Ro "mark " y.1) λ_=>True:=by
  unfold Ro
  rw[if_pos r,aj]
  trivial
 refine p.imp λt _=>?_
 rw[aj,aj,aj]
 refine(zCz w t).imp λ_ _=>?_
 rw[aj]
 have l2:=zRs s (abo y.1) true
 refine⟨by lia,λz d=>?_⟩
 rw[W_ a]
 have e:JK (pK s (abo y.1) true) z=if(abo z:Key)=abo y.1 then some true else JK s z:=zSv s (abo y.1) (abo z) true
 grind
theorem zMu{xss:List LI}(h:xss.length<=100):RP xss=some xss:=by
 have q:W (RP xss) (· = xss):=by
  unfold RP
  rw[zC,aj,M5 (λx=>x),map_id']
  exact⟨yO (by lia),rfl⟩
 obtain⟨a,e,rfl⟩:=q
 exact e
theorem Kd(C:Addr){xss:List LI}{mo:Option Em}{fo:Option LLI}(i:(xss.length:Int)=n)(h0:1<=n)(k:n<=60)(h:∀xs∈xss,xs≠[]/\Ew n xs)(j:zMq n (mo.getD []))(g:(fo.getD []).length<=100/\∀xs∈fo.getD [],Ew n xs) :
  W (RQ C xss mo fo) λm=>Gr m n/\m.steps=xss/\m.marks=mo.getD []/\m.fair=fo.getD []:=by
 unfold RQ Xl
 rw[zC]
 refine(zOj i h0 k h).imp λ_ _=>?_
 rw[zC,i]
 refine(zOk j).imp λ_ _=>?_
 rw[zC]
 refine(zQo g.1 g.2).imp λ_ _=>?_
 have m1:=j.2.1
 rw[zMu (by lia),zC,aj,zC,M5 (λx:Str×LI=>(x.1,x.2))]
 refine⟨yO (by lia),?_⟩
 have e:(mo.getD []).map (λx:Str×LI=>(x.1,x.2))=mo.getD []:=map_id' _
 rw[zMu g.1,zC,aj,zC]
 have l:RD xss=some (srcs xss):=by
  unfold RD
  rw[if_pos ⟨by lia,rfl,λxs f=>by obtain⟨a,b,c,d⟩:=h xs f;exact⟨a,b,c,λz o=>by have:=d z o;omega⟩⟩]
 rw[l,aj,aj,e]
 exact⟨⟨i,h0,k,λxs f=>by obtain⟨a,b,c,d⟩:=h xs f;exact⟨a,b,d⟩,rfl⟩,rfl,rfl,rfl⟩
theorem R8(h:aG n xs)(Vc:n<=60):Ew n xs:=⟨h.nodup,by
 by_cases hn:0<=n
 ·have:=wM (n:=n.toNat) h.nodup λx a=>by have:=h.2 x a;lia
  lia
 ·cases xs with
  |nil=>grind
  |cons x xs=>have:=h.2 x mem_cons_self;lia,h.2⟩
theorem zLl(h:VH n xs):xs≠[]/\Ew n xs:=⟨h.1,h.2.1,by have:=h.2.2.1;lia,h.2.2.2⟩
theorem zGp(hx:0<=x)(hy:0<=y):abk x y=((x.toNat&&&y.toNat:Nat):Int):=by
 unfold abk
 grind
theorem zN6(hx:0<=x)(hy:0<=y):ac8 x y=((x.toNat|||y.toNat:Nat):Int):=by
 have h1:¬0<=ac0 x:=by unfold ac0;lia
 have h2:¬0<=ac0 y:=by unfold ac0;lia
 have nn:∀z,ac0 (ac0 z)=z:=λz=>by unfold ac0;lia
 unfold ac8 abk
 grind
def bt(x t:Int):Bool:=x.toNat.testBit t.toNat
theorem Ke(a:0<=x)(b:0<=y)(t:Int):bt (ac8 x y) t=(bt x t||bt y t):=by
 unfold bt
 rw[zN6 a b,acu,Nat.testBit_or]
theorem zXx(a:0<=x)(b:0<=y)(t:Int):bt (abk x y) t=(bt x t&&bt y t):=by
 unfold bt
 rw[zGp a b,acu,Nat.testBit_and]
theorem Kf(a:0<=x)(b:0<=y):0<=ac8 x y:=by rw[zN6 a b];grind
theorem zX0(a:0<=x)(b:0<=y):0<=abk x y:=by rw[zGp a b];grind
theorem Ip(t:Int):bt 0 t=false:=by unfold bt;simp
theorem PL(ht:0<=t)(hu:0<=u):bt (1*2^t.toNat) u=decide (u=t):=by
 unfold bt
 rw[Int.one_mul,show((2:Int)^t.toNat).toNat=2^t.toNat by
  grind]
 grind
theorem zQ7{x:Int}(a:0<=x)(k:Nat):0<=x/2^k:=Int.ediv_nonneg a (Int.le_of_lt (Int.pow_pos (by decide)))
theorem Ym{x:Int}(hx:0<=x)(k:Nat):(x/2^k).toNat=x.toNat>>>k:=by
 rw[Nat.shiftRight_eq_div_pow]
 grind
theorem zTk{t:Int}(hx:0<=x):bt (x/2^t.toNat) 0=bt x t:=by
 unfold bt
 grind
theorem zXw(a:0<=x):(abk x 1 != 0)=bt x 0:=by
 rw[zGp a (by decide)]
 unfold bt
 grind
theorem zWq(h:∀x∈xs,0<=x/\x<n)(Vc:n<=60):W (RW xs) λb=>0<=b/\∀t:Int,0<=t->bt b t=decide (t∈xs):=by
 unfold RW
 rw[zC,aj,zC,zC,aj]
 refine wN (λi s=>0<=s/\∀t:Int,0<=t->bt s t=decide (t∈xs.take i)) ⟨by decide,λt _=>by rw[Ip];simp⟩ (λi x s c a=>?_) λs a=>?_
 ·obtain⟨g,l⟩:=a
  have j:=h x (mem_of_getElem? c)
  have e:Cu 1 x=some (1*2^x.toNat):=by unfold Cu;rw[if_pos ⟨j.1,by lia,by decide⟩]
  have k:xs.take (i+1)=xs.take i++[x]:=by rw[take_add_one,c]<;>rfl
  have d:(0:Int)<=1*2^x.toNat:=by rw[Int.one_mul];exact Int.le_of_lt (Int.pow_pos (by decide))
  rw[zC,zC,e,aj,aj,aj]
  refine⟨Kf g d,λt f=>?_⟩
  rw[Ke g d,l t f,PL j.1 f,k,ab1]
  simp
 ·rw[aj]
  rw[take_length] at a
  exact a
def rb(rows:LI)(s t:Int):Bool:=bt (rows.getD s.toNat 0) t
theorem VL{rows:LI}(hl:(rows.length:Int)=n)(h0:0<=s)(h1:s<n):L2.aU rows s=some (rows.getD s.toNat 0):=by
 rw[JD h0,getD_eq_getElem?_getD,aaz (by lia)]
 rfl
def Kg(rows:LI):Prop:=∀i:Nat,0<=rows.getD i 0
theorem zN5{rows:LI}{n s t:Int}(c:(rows.length:Int)=n)(b:Kg rows)(h0:0<=s)(e:s<n)(d:0<=t) :
  ((((L2.aU rows s).bind λa=>kY a t).bind λa=>some (abk a 1)).bind λa=>some (a != 0))=some (rb rows s t):=by
 rw[VL c h0 e]
 show(((kY _ t).bind _).bind _)=_
 unfold kY
 rw[if_pos d]
 show some (abk (rows.getD s.toNat 0/2^t.toNat) 1 != 0)=_
 rw[zXw (zQ7 (b _) _),zTk (b _)]
 rfl
theorem zT6{rows:LI}{n s t:Int}(e:(rows.length:Int)=n)(c:Kg rows)(h0:0<=s)(i:s<n)(f:0<=t)(j:t<n) :
  (((((L2.aU rows s).bind λa=>kY a t).bind λa=>((L2.aU rows t).bind λb=>kY b s).bind λb=>some (abk a b)).bind λa=>some (abk a 1)).bind λa=>some (a != 0))=some (rb rows s t&&rb rows t s):=by
 rw[VL e h0 i,VL e f j]
 show((((kY _ t).bind λa=>(kY _ s).bind _).bind _).bind _)=_
 unfold kY
 rw[if_pos f,if_pos h0]
 show some (abk (abk (rows.getD s.toNat 0/2^t.toNat) (rows.getD t.toNat 0/2^s.toNat)) 1 != 0)=_
 have d:=zQ7 (c s.toNat) t.toNat
 have g:=zQ7 (c t.toNat) s.toNat
 rw[zXw (zX0 d g),zXx d g,zTk (c _),zTk (c _)]
 rfl
theorem zW7{rows:LI}(hl:(rows.length:Int)=n)(x0:0<=x)(x1:x<n)(s0:0<=s):rb (rows.set x.toNat v) s t=if s=x then bt v t else rb rows s t:=by
 unfold rb
 rw[VJ (by lia)]
 by_cases e:s=x
 ·subst e;rw[if_pos rfl,if_pos rfl]
 ·rw[if_neg (by lia),if_neg e]
theorem zXc{rows:LI}(hl:(rows.length:Int)=n)(x0:0<=x)(x1:x<n)(b:Kg rows)(a:0<=v):Kg (rows.set x.toNat v):=λi=>by
 rw[VJ (by lia)]
 split
 ·exact a
 ·exact b i
inductive jC(xss:List LI)(U:LI):Int->Int->Prop
 |one {s t:Int}:t∈nxt xss s->t∈U->jC xss U s t
 |step {s u t:Int}:u∈nxt xss s->u∈U->jC xss U u t->jC xss U s t
theorem jC.trans(h:jC xss U s t)(k:jC xss U t u):jC xss U s u:=by
 induction h with
 |one a b=>exact .step a b k
 |step a b _ ih=>exact .step a b (ih k)
theorem jC.mem(h:jC xss U s t):t∈U:=by
 induction h with
 |one _ b=>exact b
 |step _ _ _ ih=>exact ih
theorem jC.mono{xss:List LI}{U V:LI}{s t:Int}(h:jC xss U s t)(k:∀x∈U,x∈V):jC xss V s t:=by
 induction h with
 |one a b=>exact .one a (k _ b)
 |step a b _ ih=>exact .step a (k _ b) ih
structure pU(xss:List LI)(U rows:LI):Prop where
 nn:Kg rows
 edge:∀s∈U,∀t∈U,t∈nxt xss s->rb rows s t=true
 sound:∀s∈U,∀t:Int,0<=t->rb rows s t=true->jC xss U s t
 trans:∀s∈U,∀u∈U,∀t:Int,0<=t->rb rows s u=true->rb rows u t=true->rb rows s t=true
theorem zN2{α β:Type}{c:α->Option Bool}{f:α->Option β}{p:α->Bool}{g:α->β}:∀{xs:List α},(∀x∈xs,c x=some (p x))->(∀x∈xs,f x=some (g x))->vH c f xs=some ((xs.filter p).map g)
 |[],_,_=>rfl
 |x::xs,h,e=>by
  have ih:=zN2 (λy a=>h y (mem_cons_of_mem _ a)) λy a=>e y (mem_cons_of_mem _ a)
  show((c x).bind λb=>if b=true then(f x).bind λy=>(vH c f xs).bind λd=>some (y::d) else vH c f xs)=_
  grind
theorem xJ{α β:Type}{c:α->Option Bool}{f:α->Option β}{p:α->Bool}{g:α->β}{xs:List α}(a:xs.length<cap)(d:∀x∈xs,c x=some (p x))(b:∀x∈xs,f x=some (g x)):aK c f xs=some ((xs.filter p).map g):=by
 unfold aK
 rw[if_pos a]
 exact zN2 d b
theorem zW4{C:Addr}{m:aF C}(g:Gr m n)(h0:0<=s)(a:s<n):nxt m.steps s∈m.steps:=mem_of_getElem? (PK g.len h0 a)
theorem zMs{C:Addr}{m:aF C}(g:Gr m n)(h0:0<=s)(a:s<n):W (xE m s) λxs=>xs.length<=60/\∀x,x∈xs↔x∈nxt m.steps s:=by
 unfold xE
 have f:=g.few
 obtain⟨_,b,rg⟩:=g.row _ (zW4 g h0 a)
 have l:=wM (n:=n.toNat) b λx hx=>by grind
 rw[zC,d_ h0]
 refine⟨_,PK g.len h0 a,?_⟩
 unfold kO
 rw[if_pos (by lia),aj]
 refine⟨by rw[(uI _).length_eq];lia,λx=>(uI _).mem_iff⟩
def dl(xs:LI):List (Key×Bool):=xs.map λx=>((ab8 x:Key),true)
theorem zXs:∀(xs:LI)(x:Int),(nj (dl xs) x).isSome=decide (x∈xs)
 |[],x=>by simp[dl,gK]
 |y::xs,x=>by
  have ih:=zXs xs x
  unfold nj gK dl at ih ⊢
  grind
theorem PN(h:x∉xs):pK (dl xs) (ab8 x) true=dl (xs++[x]):=by
 unfold pK
 unfold dl
 grind
theorem PX(xs:LI):(dl xs).length=xs.length:=length_map ..
theorem P0:W (dput kvs k v) Q↔kvs.length<cap/\Q (pK kvs (ab8 k) v):=by
 unfold dput
 split
 ·rw[aj];grind
 ·rw[JC];grind
section
variable{S α β:Type}
theorem zTr{step:S->α->Option (Out S β)}{Q:Out S β->Prop}(I:Nat->S->Prop)(h0:I 0 s)(f:∀i x s,xs[i]?=some x->I i s->W (step s x) λo=>(∃s',o=.nx s'/\I (i+1) s')\/∃b,o=.rt b/\Q (.rt b))(g:∀s,I xs.length s->Q (.nx s)):W (n7 step xs s) Q:=by
 have key:∀(a:List α)(i:Nat)(s:S),(∀j x,a[j]?=some x->xs[i+j]?=some x)->i+a.length=xs.length->I i s->W (n7 step a s) Q:=by
  intro a
  induction a with
  |nil=>intro i s _ d h;exact⟨.nx s,rfl,g s ((show i=xs.length from d)▸h)⟩
  |cons y a ih =>
   intro i s e d h
   rw[zHt,zC]
   refine(f i y s (e 0 y rfl) h).imp ?_
   rintro o (⟨s',rfl,c⟩|⟨b,rfl,c⟩)
   ·refine ih (i+1) s' (λj x hx=>?_) (by grind) c
    have:=e (j+1) x (by grind)
    grind
   ·exact⟨.rt b,rfl,c⟩
 grind
end
theorem R9{α:Type}{xs:List α}{x:α}(h:xs[i]?=some x):xs.take (i+1)=xs.take i++[x]:=by rw[take_add_one,h]<;>rfl
theorem Kh{xs:LI}{i:Nat}{x s:Int}(h:xs[i]?=some x):s∈xs.take (i+1)↔s∈xs.take i\/s=x:=by rw[R9 h,mem_append,mem_singleton]
theorem zSb{C:Addr}{m:aF C}(g:Gr m n)(h0:0<=s)(a:s<n):∀x∈nxt m.steps s,0<=x/\x<n:=(g.row _ (zW4 g h0 a)).2.2
theorem zT2{C:Addr}{m:aF C}(g:Gr m n)(z:∀x∈U,0<=x/\x<n):W (vT m U) λrows=>(rows.length:Int)=n/\pU m.steps U rows:=by
 unfold vT
 have L:=g.few
 have pos:=g.pos
 rw[zC]
 refine(zWq z L).imp λinside ⟨Z,ib⟩=>?_
 rw[zC,zC,zC,Yk g,aj,dU]
 refine⟨⟨by lia,by omega⟩,?_⟩
 have rl:=vO (n:=n) (by lia)
 rw[M5 (λ_=>(0:Int))]
 refine⟨yO (by lia),?_⟩
 rw[zC,zC,aj]
 refine wN (λi rows=>(rows.length:Int)=n/\Kg rows/\∀s∈U.take i,∀t:Int,0<=t->rb rows s t=decide (t∈nxt m.steps s/\t∈U)) ⟨by rw[length_map];exact rl,λi=>?_,λs l=>by simp at l⟩ (λi x rows K E=>?_) λrows E=>?_
 ·rw[getD_eq_getElem?_getD,getElem?_map]
  cases(rng n)[i]?<;>exact aem 0
 ·obtain⟨I,R,H⟩:=E
  have q:=z x (mem_of_getElem? K)
  rw[zC,zC,zC,zC,zC]
  refine(zMs g q.1 q.2).imp ?_
  rintro ns ⟨_,F⟩
  rw[aj]
  refine(zWq (xs:=ns) (λy hy=>zSb g q.1 q.2 y ((F y).mp hy)) L).imp λb ⟨b0,bb⟩=>?_
  rw[aj,Rj q.1 (by lia),aj]
  refine⟨by rw[length_set];exact I,zXc I q.1 q.2 R (zX0 b0 Z),λs l t f=>?_⟩
  rw[Kh K] at l
  have s0:0<=s:=l.elim (λh=>(z s (mem_of_mem_take h)).1) λh=>h▸q.1
  rw[zW7 I q.1 q.2 s0]
  by_cases e:s=x
  ·subst e
   rw[if_pos rfl,zXx b0 Z,bb t f,ib t f,ab1]
   simp[F]
  ·rw[if_neg e]
   exact H s (l.resolve_right e) t f
 ·obtain⟨I,R,H⟩:=E
  rw[take_length] at H
  rw[zC,zC,aj]
  refine wN (λi rows=>(rows.length:Int)=n/\Kg rows/\(∀s∈U,∀t∈U,t∈nxt m.steps s->rb rows s t=true)/\(∀s∈U,∀t:Int,0<=t->rb rows s t=true->jC m.steps U s t)/\∀u∈U.take i,∀s∈U,∀t:Int,0<=t->rb rows s u=true->rb rows u t=true->rb rows s t=true)
   ⟨I,R,λs l t f h=>by rw[H s l t (z t f).1];exact decide_eq_true ⟨h,f⟩,λs l t f h=>by
    rw[H s l t f] at h
    have:=of_decide_eq_true h
    exact .one this.1 this.2,λu P=>by simp at P⟩ (λi u w K E=>?_) λrows E=>?_
  ·obtain⟨Q,N,X,B,O⟩:=E
   have J:=mem_of_getElem? K
   have D:=z u J
   rw[zC,zC,aj]
   refine wN (λj rows=>(rows.length:Int)=n/\Kg rows/\∀s∈U,∀t:Int,0<=t->rb rows s t=(rb w s t||(decide (s∈U.take j)&&(rb w s u&&rb w u t)))) ⟨Q,N,λs _ t _=>by simp⟩ (λj x rows M S=>?_) λrows S=>?_
   ·obtain⟨o,p,r⟩:=S
    have xm:=mem_of_getElem? M
    have q:=z x xm
    have ex:rb rows x u=rb w x u:=by
     rw[r x xm u D.1]
     cases rb w x u<;>simp
    have eu:∀t:Int,0<=t->rb rows u t=rb w u t:=λt f=>by
     rw[r u J t f]
     cases rb w u t<;>simp
    rw[zN5 o p q.1 q.2 D.1,zC,zC,aj,ex]
    by_cases c:rb w x u=true
    ·rw[c,if_pos rfl,zC,zC,VL o D.1 D.2,aj]
     unfold G7
     rw[if_pos q.1,VL o q.1 q.2]
     show W (setAt rows x _) _
     rw[Rj q.1 (by lia),aj,aj]
     refine⟨by rw[length_set];exact o,zXc o q.1 q.2 p (Kf (p _) (p _)),λs l t f=>?_⟩
     rw[zW7 o q.1 q.2 (z s l).1]
     by_cases e:s=x
     ·subst e
      rw[if_pos rfl,Ke (p _) (p _)]
      show(rb rows s t||rb rows u t)=_
      rw[r s l t f,eu t f,c,decide_eq_true ((Kh M).mpr (.inr rfl))]
      cases rb w s t<;>cases rb w u t<;>simp
     ·rw[if_neg e,r s l t f]
      have:decide (s∈U.take (j+1))=decide (s∈U.take j):=by
       rw[ab1,decide_eq_true_iff,decide_eq_true_iff,Kh M]
       exact⟨λh=>h.resolve_right e,.inl⟩
      rw[this]
    ·have c:rb w x u=false:=by simpa using c
     rw[c,if_neg (by decide),aj,aj]
     refine⟨o,p,λs l t f=>?_⟩
     rw[r s l t f]
     by_cases e:s=x
     ·subst e
      rw[c]
      simp
     ·have:decide (s∈U.take (j+1))=decide (s∈U.take j):=by
       rw[ab1,decide_eq_true_iff,decide_eq_true_iff,Kh M]
       exact⟨λh=>h.resolve_right e,.inl⟩
      rw[this]
   ·obtain⟨o,p,r⟩:=S
    rw[take_length] at r
    have A:∀s∈U,∀t:Int,0<=t->(rb rows s t=true↔rb w s t=true\/(rb w s u=true/\rb w u t=true)):=λs l t f=>by
     rw[r s l t f,decide_eq_true l]
     simp
    rw[aj]
    refine⟨o,p,λs l t f h=>(A s l t (z t f).1).mpr (.inl (X s l t f h)),λs l t f h=>?_,λv G s l t f h1 h2=>?_⟩
    ·rcases(A s l t f).mp h with h|⟨h,k⟩
     ·exact B s l t f h
     ·exact(B s l u D.1 h).trans (B u J t f k)
    ·rw[Kh K] at G
     refine(A s l t f).mpr ?_
     rcases G with G|rfl
     ·have vU:=mem_of_mem_take G
      have v0:=(z v vU).1
      have T:=O v G
      rcases(A s l v v0).mp h1 with a|⟨a,b⟩<;>rcases(A v vU t f).mp h2 with c|⟨c,d⟩
      ·exact .inl (T s l t f a c)
      ·exact .inr ⟨T s l u D.1 a c,d⟩
      ·exact .inr ⟨a,T u J t f b c⟩
      ·exact .inr ⟨a,d⟩
     ·have a:rb w s v=true:=((A s l v D.1).mp h1).elim id And.left
      have b:rb w v t=true:=((A v J t f).mp h2).elim id And.right
      exact .inr ⟨a,b⟩
  ·obtain⟨o,p,ed,so,Y⟩:=E
   rw[take_length] at Y
   rw[aj]
   exact⟨o,p,ed,so,λs l u P t f=>Y u P s l t f⟩
def ring(rows U:LI)(s:Int):LI:=U.filter λt=>rb rows s t&&rb rows t s
theorem aX:t∈ring rows U s↔t∈U/\rb rows s t=true/\rb rows t s=true:=by
 unfold ring
 grind
structure wj(xss:List LI)(U G:LI):Prop where
 sub:∀s∈G,s∈U
 nd:G.Nodup
 go:∀s∈G,∀t∈G,jC xss G s t
theorem pU.full(R:pU xss U rows)(h0:∀x∈U,0<=x)(h:jC xss U s t):s∈U->rb rows s t=true:=by
 induction h with
 |one a b=>exactλc=>R.edge _ c _ b a
 |step a b p ih=>exactλc=>R.trans _ c _ b _ (h0 _ p.mem) (R.edge _ c _ b a) (ih b)
theorem zRi(R:pU xss U rows)(h0:∀x∈U,0<=x)(r:U.Nodup)(i:o∈U):wj xss U (ring rows U o):=by
 have g:∀{s t:Int},jC xss U s t->s∈ring rows U o->t∈ring rows U o->jC xss (ring rows U o) s t:=by
  intro s t h
  induction h with
  |one a b=>exactλ_ c=>.one a c
  |@step s u t a b p ih =>
   intro d c
   obtain⟨e,j,m⟩:=aX.mp d
   obtain⟨f,n,k⟩:=aX.mp c
   have v:=R.trans o i s e u (h0 u b) j (R.edge s e u b a)
   have q:=R.trans u b t f o (h0 o i) (R.full h0 p b) k
   have l:=aX.mpr ⟨b,v,q⟩
   exact .step a l (ih l c)
 refine⟨λs d=>(aX.mp d).1,r.filter _,λs d t c=>?_⟩
 obtain⟨e,j,m⟩:=aX.mp d
 obtain⟨f,n,k⟩:=aX.mp c
 exact g (R.sound s e t (h0 t f) (R.trans s e o i t (h0 t f) m n)) d c
structure Ir(rows U:LI)(told:List LI):Prop where
 are:∀G∈told,∃s∈U,rb rows s s=true/\G=ring rows U s
 nd:told.flatten.Nodup
 all:∀s∈U,rb rows s s=true->s∈told.flatten
theorem zQd(h:∀x∈xs,0<=x/\x<n)(a:xs.length<64):lX xs=some (uD xs)/\aG n (uD xs):=by
 unfold lX
 rw[if_pos a]
 exact⟨rfl,JQ xs,λx b=>h x (bZ.mp b)⟩
theorem Iu{C:Addr}{m:aF C}(g:Gr m n)(I:∀x∈xs,0<=x/\x<n)(hl:xs.length<64):W (Vt m xs) λf=>∃rows,pU m.steps (uD xs) rows/\Ir rows (uD xs) f:=by
 obtain⟨e,r⟩:=zQd I hl
 have few:=g.few
 have pos:=g.pos
 unfold Vt
 rw[e,zC,aj,zC]
 generalize uD xs=U at r ⊢
 have h0:∀x∈U,0<=x:=λx I=>(r.2 x I).1
 have Ul:U.length<=n.toNat:=wM r.nodup λx I=>by have:=r.2 x I;lia
 refine(zT2 g r.2).imp λrows ⟨T,R⟩=>?_
 rw[zC,aj,zC,aj,zC,zC,aj]
 refine wN (λi z=>∃f:List LI,z=(f,dl f.flatten)/\(∀G∈f,∃s∈U,rb rows s s=true/\G=ring rows U s)/\f.flatten.Nodup/\(∀s∈U.take i,rb rows s s=true->s∈f.flatten)/\f.length<=i) ⟨[],rfl,λG u=>(by cases u),by simp,λs v=>(by simp at v),aa0 _⟩ (λi x z J O=>?_) λz O=>?_
 ·obtain⟨f,rfl,l,E,o,tl⟩:=O
  have F:=mem_of_getElem? J
  have w:=r.2 x F
  have M:∀t∈f.flatten,t∈U:=λt B=>by
   obtain⟨G,u,N⟩:=mem_flatten.mp B
   obtain⟨s,_,_,rfl⟩:=l G u
   exact(aX.mp N).1
  have il:i<U.length:=(aa8.mp J).1
  rw[zC,zC]
  show W (if(!(nj (dl f.flatten) x).isSome)=true then _ else _) _
  rw[zXs]
  by_cases K:x∈f.flatten
  ·rw[decide_eq_true K,ab2,if_neg (by decide),aj,if_neg (by decide),aj,aj]
   exact⟨f,rfl,l,E,λs v h=>((Kh J).mp v).elim (λq=>o s q h) λq=>q▸K,by omega⟩
  ·rw[decide_eq_false K,Bool.not_false,if_pos rfl,zN5 T R.nn w.1 w.2 w.1,aj]
   by_cases c:rb rows x x=true
   ·have D:∀t∈ring rows U x,t∉f.flatten:=λt B Y=>by
     obtain⟨G,u,N⟩:=mem_flatten.mp Y
     obtain⟨s,P,_,rfl⟩:=l G u
     obtain⟨S,t1,t2⟩:=aX.mp B
     obtain⟨_,t3,X⟩:=aX.mp N
     exact K (mem_flatten.mpr ⟨_,u,aX.mpr ⟨F,R.trans s P t S x w.1 t3 t2,R.trans x F t S s (h0 s P) t1 X⟩⟩)
    have Q:(ring rows U x).Nodup:=r.nodup.filter _
    have H:(f.flatten++ring rows U x).Nodup:=by
     rw[nodup_append]
     exact⟨E,Q,λa ha b hb e=>D b hb (e▸ha)⟩
    have ln:(f.flatten++ring rows U x).length<=n.toNat:=wM H λy hy=>by
     have:y∈U:=(mem_append.mp hy).elim (M y) λq=>(aX.mp q).1
     have:=r.2 y this
     lia
    rw[c,if_pos rfl,zC,zC,aj,xJ (p:=λt=>rb rows x t&&rb rows t x) (g:=λt=>t) (yO (by lia)) (λt B=>zT6 T R.nn w.1 w.2 (r.2 t B).1 (r.2 t B).2) (λt _=>rfl),aj,map_id']
    show W ((push f (ring rows U x)).bind _) _
    rw[zC,Ek]
    refine⟨yO (by lia),?_⟩
    rw[zC,zC,aj]
    refine wN (λk d=>d=dl (f.flatten++(ring rows U x).take k)) (by rw[List.take_zero,append_nil]) (λk y d A L=>?_) λd L=>?_
    ·subst L
     have A:(ring rows U x)[k]?=some y:=A
     have ym:=mem_of_getElem? A
     have kl:=(aa8.mp A).1
     have yn:y∉f.flatten++(ring rows U x).take k:=λq=>by
      rcases mem_append.mp q with q|q
      ·exact D y ym q
      ·obtain⟨j,hj,e⟩:=getElem_of_mem q
       rw[List.getElem_take] at e
       rw[length_take] at hj
       have Z:=(aa8.mp A).2
       have:=(List.nodup_iff_pairwise_ne.mp Q)
       have ne:=List.pairwise_iff_getElem.mp this j k (by lia) kl (by lia)
       exact ne (e.trans Z.symm)
     rw[zC,P0,PN yn,PX]
     refine⟨yO ?_,?_⟩
     ·rw[length_append] at ln ⊢
      rw[length_take]
      lia
     ·rw[aj,R9 A,append_assoc]
    ·subst L
     rw[show(ring rows U x).take (U.filter λt=>rb rows x t&&rb rows t x).length=ring rows U x from take_length,aj,aj]
     refine⟨f++[ring rows U x],by rw[flatten_append,flatten_singleton],λG u=>?_,by rw[flatten_append,flatten_singleton];exact H,λs v h=>?_,by rw[length_append];exact acp tl⟩
     ·rcases mem_append.mp u with q|q
      ·exact l G q
      ·exact⟨x,F,c,mem_singleton.mp q⟩
     ·rw[flatten_append,flatten_singleton,mem_append]
      exact((Kh J).mp v).elim (λq=>.inl (o s q h)) λq=>.inr (by rw[q];exact aX.mpr ⟨F,c,c⟩)
   ·have c':rb rows x x=false:=by simpa using c
    rw[c',if_neg (by decide),aj,aj]
    exact⟨f,rfl,l,E,λs v h=>((Kh J).mp v).elim (λq=>o s q h) λq=>absurd (q▸h) c,by omega⟩
 ·obtain⟨f,rfl,l,E,o,_⟩:=O
  rw[take_length] at o
  rw[aj]
  exact⟨rows,R,l,E,o⟩
def wI(n:Int)(a:List LI):Prop:=a.length<=100/\∀F∈a,Ew n F
def wT(a:List LI)(G:LI):Bool:=a.all λF=>G.any λx=>decide (x∈F)
theorem yp(h:Ew n xs)(Vc:n<=60)(h0:0<=n):xs.length<=60:=by
 have:=wM (n:=n.toNat) h.1 λx a=>by have:=h.2.2 x a;omega
 lia
theorem zT4{C:Addr}{m:aF C}{n:Int}(g:Gr m n)(b:wI n m.fair){i:Nat}{F:LI}(c:m.fair[i]?=some F):W (wA m (i:Int)) λxs=>xs.length<=60/\∀x,x∈xs↔x∈F:=by
 unfold wA
 have a:=g.few
 have pos:=g.pos
 have l:=yp (b.2 F (mem_of_getElem? c)) a (by lia)
 rw[zC,d_ (by lia)]
 refine⟨F,by grind,?_⟩
 unfold kO
 rw[if_pos (by lia),aj]
 exact⟨by rw[(uI _).length_eq];exact l,λx=>(uI _).mem_iff⟩
theorem zQe{xs ys:LI}(h:xs.length<64\/ys.length<64)(h1:xs.length<4000)(h2:ys.length<4000):wC xs ys=some (uD (xs.filter λz=>decide (z∈ys))):=by
 unfold wC yq
 grind
theorem zMr{xs ys:LI}(a:xs.length<64)(h2:ys.length<4000):wC xs ys=some (uD (xs.filter λz=>decide (z∈ys))):=zQe (.inl a) (by lia) h2
theorem qU:(uD xs).length=0↔xs=[]:=by
 constructor
 ·intro h
  cases xs with
  |nil=>rfl
  |cons x xs =>
   have:=(bZ (ns:=x::xs)).mpr mem_cons_self
   grind
 ·intro h;subst h;rfl
theorem zT3{C:Addr}{m:aF C}(g:Gr m n)(h:wI n m.fair){G:LI}(p:G.length<64):W (Vw m G) λo=>o.isNone=wT m.fair G:=by
 unfold Vw
 have hl:=h.1
 rw[zC,zC,dU]
 refine⟨⟨by lia,by omega⟩,zTr (λi _=>∀F∈m.fair.take i,(G.any λx=>decide (x∈F))=true) (λF c=>by simp at c) (λi x s l f=>?_) λs f=>?_⟩
 ·obtain⟨rfl,a⟩:=Uh l
  have j:i<m.fair.length:=by lia
  have c:m.fair[i]?=some m.fair[i]:=aaz j
  rw[zC,zC,zC,zC,zC,zC]
  refine(zT4 g h c).imp λd ⟨yl,k⟩=>?_
  rw[aj,aj]
  show W (wC G d) _
  rw[zMr p (by lia),aj,aj,aj]
  by_cases e:G.filter (λz=>decide (z∈d))=[]
  ·rw[decide_eq_true (show((uD (G.filter λz=>decide (z∈d))).length:Int)=0 by have:=qU.mpr e;lia),if_pos rfl,zC,aj,aj]
   refine .inr ⟨_,rfl,?_⟩
   show W (some (some (i:Int))) _
   rw[aj]
   symm
   show wT m.fair G=false
   have:(G.any λx=>decide (x∈m.fair[i]))=false:=by
    rw[any_eq_false]
    intro x a q
    have q:=of_decide_eq_true q
    have:x∈G.filter (λz=>decide (z∈d)):=mem_filter.mpr ⟨a,decide_eq_true ((k x).mpr q)⟩
    rw[e] at this
    cases this
   unfold wT
   rw[List.all_eq_false]
   exact⟨_,getElem_mem j,by rw[this];decide⟩
  ·rw[decide_eq_false (λz=>e (qU.mp (by lia))),if_neg (by decide),aj]
   refine .inl ⟨(),rfl,λF b=>?_⟩
   rw[R9 c,mem_append,mem_singleton] at b
   rcases b with q|q
   ·exact f F q
   ·subst q
    obtain⟨x,a⟩:=List.exists_mem_of_ne_nil _ e
    rw[mem_filter] at a
    exact any_eq_true.mpr ⟨x,a.1,decide_eq_true ((k x).mp (of_decide_eq_true a.2))⟩
 ·have e:(rng (m.fair.length:Int)).length=m.fair.length:=by have:=vO (n:=(m.fair.length:Int)) (by lia);lia
  rw[e,take_length] at f
  rw[Cq,aj]
  symm
  show wT m.fair G=true
  exact all_eq_true.mpr f
theorem zUv{U:LI}(h:U.length<=k):(ring rows U s).length<=k:=aa1 (length_filter_le ..) h
structure wk(xss:List LI)(fair:List LI)(U goal:LI):Prop where
 nd:goal.Nodup
 sub:∀s∈goal,s∈U
 of:∀s∈goal,∃G:LI,wj xss U G/\s∈G/\wT fair G=true/\∀t∈G,t∈goal
 all:∀s∈U,∀G:LI,(∀t,t∈G↔t∈U/\jC xss U s t/\jC xss U t s)->jC xss U s s->wT fair G=true->s∈goal
theorem zKf(h:∀t,t∈G↔t∈G'):wT a G=wT a G':=by
 unfold wT
 grind
theorem Iv{C:Addr}{m:aF C}(g:Gr m n)(hf:wI n m.fair)(A:∀x∈xs,0<=x/\x<n)(M:xs.length<64) :
  W (vI m xs) λa=>a.length<=60/\(∀G∈a,wj m.steps (uD xs) G/\wT m.fair G=true)/\W (Pu a) λgoal=>goal=a.flatten/\wk m.steps m.fair (uD xs) goal:=by
 have few:=g.few
 have pos:=g.pos
 have z:=(zQd A M).2
 have k:∀x∈uD xs,0<=x:=λx A=>(z.2 x A).1
 have Q:(uD xs).length<=n.toNat:=wM z.nodup λx A=>by have:=z.2 x A;lia
 unfold vI
 rw[zC]
 refine(Iu g A M).imp λd ⟨D,R,T⟩=>?_
 have Z:d.length<=60/\d.flatten.length<=60:=by
  have f:d.flatten.length<=n.toNat:=wM T.nd λy O=>by
   obtain⟨G,j,X⟩:=mem_flatten.mp O
   obtain⟨s,_,_,rfl⟩:=T.are G j
   have:=z.2 y (aX.mp X).1
   lia
  refine⟨?_,by omega⟩
  have ne:∀G∈d,1<=G.length:=λG j=>by
   obtain⟨s,r,c,rfl⟩:=T.are G j
   exact List.length_pos_of_mem (aX.mpr ⟨r,c,c⟩)
  have:∀l:List LI,(∀G∈l,1<=G.length)->l.length<=l.flatten.length:=λl=>by
   induction l with
   |nil=>intro _;exact abg _
   |cons G l ih =>
    intro h
    rw[flatten_cons,length_append,length_cons]
    have a:=ih λF v=>h F (mem_cons_of_mem _ v)
    have b:=h G mem_cons_self
    lia
  have:=this d ne
  lia
 have Y:∀G∈d,G.length<64:=λG j=>by
  obtain⟨s,_,_,rfl⟩:=T.are G j
  have:=zUv (rows:=D) (s:=s) Q
  lia
 rw[xJ (p:=wT m.fair) (g:=λG=>G) (yO (by lia)) (λG j=>by
  obtain⟨o,e,q⟩:=zT3 g hf (Y G j)
  rw[e]
  exact congrArg some q) (λ_ _=>rfl),aj,map_id']
 have N:∀l:List LI,(l.filter (wT m.fair)).flatten.Sublist l.flatten:=λl=>by
  induction l with
  |nil=>exact Sublist.refl _
  |cons G l ih =>
   rw[filter_cons]
   split
   ·rw[flatten_cons,flatten_cons];exact(Sublist.refl _).append ih
   ·rw[flatten_cons];exact ih.trans (List.sublist_append_right ..)
 have S:W (Pu (d.filter (wT m.fair))) (· = (d.filter (wT m.fair)).flatten):=by
  unfold Pu
  rw[zC,aj,zC,zC,aj]
  refine wN (λi s=>s=((d.filter (wT m.fair)).take i).flatten) (by rw[List.take_zero];rfl) (λi G s P I=>?_) λs I=>?_
  ·subst I
   unfold Cv
   have e:((d.filter (wT m.fair)).take i).flatten++G=((d.filter (wT m.fair)).take (i+1)).flatten:=by rw[R9 P,flatten_append,flatten_singleton]
   have l:(((d.filter (wT m.fair)).take i).flatten++G).length<=60:=by
    rw[e]
    have a:((d.filter (wT m.fair)).take (i+1)).flatten.Sublist (d.filter (wT m.fair)).flatten:=by
     have U:(d.filter (wT m.fair)).flatten=((d.filter (wT m.fair)).take (i+1)).flatten++((d.filter (wT m.fair)).drop (i+1)).flatten:=by rw[<-flatten_append,take_append_drop]
     rw[U]
     exact List.sublist_append_left ..
    have:=(a.trans (N d)).length_le
    lia
   rw[length_append] at l
   rw[if_pos (yO (by lia)),zC,aj,aj,e]
  ·subst I
   rw[take_length,aj]
 refine⟨aa1 (length_filter_le ..) Z.1,λG j=>?_,S.imp λgoal e=>⟨e,?_⟩⟩
 ·obtain⟨o,w,_,rfl⟩:=T.are G (mem_filter.mp j).1
  exact⟨zRi R k z.nodup w,(mem_filter.mp j).2⟩
 subst e
 refine⟨T.nd.sublist (N d),λs E=>?_,λs E=>?_,λs r G j p q=>?_⟩
 ·obtain⟨G,j,B⟩:=mem_flatten.mp E
  obtain⟨o,_,_,rfl⟩:=T.are G (mem_filter.mp j).1
  exact(aX.mp B).1
 ·obtain⟨G,j,B⟩:=mem_flatten.mp E
  obtain⟨o,w,_,rfl⟩:=T.are G (mem_filter.mp j).1
  exact⟨_,zRi R k z.nodup w,B,(mem_filter.mp j).2,λt ht=>mem_flatten.mpr ⟨_,j,ht⟩⟩
 ·obtain⟨F,v,B⟩:=mem_flatten.mp (T.all s r (R.full k p r))
  obtain⟨o,w,oo,rfl⟩:=T.are F v
  obtain⟨_,K,L⟩:=aX.mp B
  refine mem_flatten.mpr ⟨_,mem_filter.mpr ⟨v,?_⟩,B⟩
  rw[<-q]
  refine zKf λt=>?_
  rw[j t,aX]
  constructor
  ·rintro⟨u,J,H⟩
   exact⟨u,R.sound s r t (k t u) (R.trans s r o w t (k t u) L J),R.sound t u s (k s r) (R.trans t u o w s (k s r) H K)⟩
  ·rintro⟨u,J,H⟩
   exact⟨u,R.trans o w s r t (k t u) K (R.full k J r),R.trans t u s r o (k o w) (R.full k H u) L⟩
theorem P_{C:Addr}{m:aF C}(g:Gr m n)(d:wI n m.fair)(c:∀x∈xs,0<=x/\x<n)(b:xs.length<64) :
  W ((vI m xs).bind λa=>Pu a) (wk m.steps m.fair (uD xs)):=by
 rw[zC]
 exact(Iv g d c b).imp (by rintro a ⟨_,_,h⟩;exact h.imp λ_ q=>q.2)
theorem zQm{C:Addr}{m:aF C}(g:Gr m n){goal:LI}(b:∀x∈through,0<=x/\x<n)(a:goal.Nodup/\∀x∈goal,0<=x/\x<n):W (xL m through goal) λR=>∃d,wg m.steps through goal n d/\R=pick n λs=>(dg d s).isSome:=by
 unfold xL
 have few:=g.few
 have pos:=g.pos
 rw[zC]
 refine(zLc g b a).imp λd D=>?_
 have rl:=vO (n:=n) (by lia)
 rw[zC,aj,zV8 D.len]
 have e:aK (λx=>some x.2.isSome) (λx=>some x.1) ((rng n).map λs=>(s,dg d s))=some (pick n λs=>(dg d s).isSome):=by
  rw[xJ (yO (by grind)) (λ_ _=>rfl) (λ_ _=>rfl)]
  congr 1
  rw[List.filter_map,List.map_map]
  exact map_id' _
 rw[e,aj]
 grind
theorem Yn(h:aG n U):uD U=U:=JR (JQ U) h.1 λ_=>bZ
inductive Rc(xss:List LI)(U:LI)(s:Int):Int->Prop
 |here:Rc xss U s s
 |on {t u:Int}:Rc xss U s t->u∈nxt xss t->u∈U->Rc xss U s u
theorem Rc.mem(h:Rc xss U s t)(a:s∈U):t∈U:=by
 cases h with
 |here=>exact a
 |on _ _ h=>exact h
theorem Rc.trans(h:Rc xss U s t)(k:Rc xss U t u):Rc xss U s u:=by
 induction k with
 |here=>exact h
 |on _ a b ih=>exact .on ih a b
theorem Rc.VN(h:Rc xss U s t):t=s\/jC xss U s t:=by
 induction h with
 |here=>grind
 |@on t u _ a b ih =>
  rcases ih with rfl|ih
  ·exact .inr (.one a b)
  ·exact .inr (ih.trans (.one a b))
theorem jC.rc(h:jC xss U s t):Rc xss U s t:=by
 induction h with
 |one a b=>exact .on .here a b
 |step a b _ ih=>exact(Rc.on .here a b).trans ih
theorem cls(P:Int->Prop):∃p:Int->Bool,∀x,p x=true↔P x:=⟨λx=>@decide _ (Classical.propDecidable (P x)),λx=>by
 grind⟩
def R_(xss c:List LI)(U:LI)(b:Int):Prop:=jC xss U b b/\∀F∈c,∃x∈F,Rc xss U b x/\Rc xss U x b
theorem zVz{U:LI}{p:Int->Bool}{i:Nat}{x:Int}(h:U[i]?=some x):(U.take (i+1)).filter p=(U.take i).filter p++(if p x=true then[x] else[]):=by
 rw[R9 h]
 grind
theorem Iw(D:wg xss U goal n d)(G:wk xss l U goal)(i:∀x∈U,0<=x/\x<n)(s:Int):s∈pick n (λs=>(dg d s).isSome)↔s∈U/\∃b∈U,R_ xss l U b/\Rc xss U s b:=by
 have g:∀b∈U,(b∈goal↔R_ xss l U b):=λb z=>by
  constructor
  ·intro h
   obtain⟨R,N,E,H,_⟩:=G.of b h
   have L:∀{x y:Int},x∈R->y∈R->jC xss U x y:=λZ hy=>(N.go _ Z _ hy).mono N.sub
   refine⟨L E E,λF I=>?_⟩
   obtain⟨x,P,J⟩:=any_eq_true.mp (all_eq_true.mp H F I)
   exact⟨x,of_decide_eq_true J,(L E P).rc,(L P E).rc⟩
  ·rintro⟨p,m⟩
   obtain⟨f,M⟩:=cls λt=>jC xss U b t/\jC xss U t b
   refine G.all b z (U.filter f) (λt=>by rw[mem_filter,M t]) p ?_
   refine all_eq_true.mpr λF I=>?_
   obtain⟨x,J,r1,Q⟩:=m F I
   have O:jC xss U b x:=r1.VN.elim (λe=>e▸p) id
   have Y:jC xss U x b:=Q.VN.elim (λe=>by rw[<-e];exact e▸p) id
   exact any_eq_true.mpr ⟨x,mem_filter.mpr ⟨O.mem,(M x).mpr ⟨O,Y⟩⟩,decide_eq_true J⟩
 have K:∀(k:Nat)(s:Int),0<=s->s<n->dg d s=some (k:Int)->s∈U/\∃b∈goal,Rc xss U s b:=by
  intro k
  induction k with
  |zero =>
   intro s v o e
   have C:=(D.zero s v o).mp e
   exact⟨G.sub s C,s,C,.here⟩
  |succ k ih =>
   intro s v o e
   have S:s∉goal:=λC=>by
    have:=(D.zero s v o).mpr C
    rw[e] at this
    have:=aa5 this
    lia
   obtain⟨c,t,tn,t0,T,e2⟩:=D.via s _ v o e S
   obtain⟨A,b,w,r⟩:=ih t t0 T (by rw[e2];congr 1;lia)
   exact⟨c,b,w,(Rc.on .here tn A).trans r⟩
 have B:∀{s t:Int},Rc xss U s t->s∈U->(dg d t).isSome=true->(dg d s).isSome=true:=λh=>by
  induction h with
  |here=>exactλ_ q=>q
  |@on t u r a b ih =>
   intro c q
   have A:=r.mem c
   obtain⟨k,e⟩:=abr.mp q
   obtain⟨j,X,_⟩:=D.near t u k (i t A).1 (i t A).2 (i u b).1 (i u b).2 A a e
   exact ih c (by rw[X];rfl)
 rw[fj]
 constructor
 ·rintro⟨v,o,q⟩
  obtain⟨k,e⟩:=abr.mp q
  have kp:=D.pos s k v o e
  obtain⟨c,b,w,r⟩:=K k.toNat s v o (by rw[e];congr 1;lia)
  exact⟨c,b,G.sub b w,(g b (G.sub b w)).mp w,r⟩
 ·rintro⟨c,b,z,bB,r⟩
  refine⟨(i s c).1,(i s c).2,B r c ?_⟩
  rw[(D.zero b (i b z).1 (i b z).2).mpr ((g b z).mpr bB)]
  rfl
theorem zQl{C:Addr}{m:aF C}(g:Gr m n)(j:wI n m.fair)(c:aG n U):W (Eu m U) λR=>aG n R/\∀s,s∈R↔s∈U/\∃b∈U,R_ m.steps m.fair U b/\Rc m.steps U s b:=by
 unfold Eu
 have few:=g.few
 have Ul:U.length<=n.toNat:=wM c.nodup λx k=>by have:=c.2 x k;lia
 have q:=P_ g j c.2 (by lia)
 rw[Yn c,zC] at q
 rw[zC,zC,zC,zC,zC,zC]
 refine q.imp λa i=>?_
 rw[aj]
 refine i.imp λf G=>?_
 rw[aj,aj,aj]
 show W (xL m U f) _
 refine(zQm g c.2 ⟨G.nd,λx h=>c.2 x (G.sub x h)⟩).imp ?_
 rintro R ⟨d,D,e⟩
 subst e
 exact⟨yX n _,Iw D G c.2⟩
theorem Qa{C:Addr}{m:aF C}(g:Gr m n):yV m=some (rng n):=by
 unfold yV
 rw[Yk g]
 have:=g.pos
 have:=g.few
 show Er n=_
 unfold Er
 rw[if_pos ⟨by lia,by omega⟩]
 rfl
theorem Iz(h:n<=60)(h0:0<=n):(rng n).length<=60:=by have:=vO h0;lia
theorem zT1{C:Addr}{m:aF C}(g:Gr m n){xs:LI}(a:xs.length<4000):xP m xs=some (pick n λz=>!decide (z∈xs)):=by
 unfold xP
 rw[Qa g]
 have r:=Iz g.few (by have:=g.pos;lia)
 show qG (rng n) xs=_
 unfold qG
 rw[if_pos ⟨by lia,a⟩]
 exact congrArg some (Yn (yX n _))
theorem xC(h:aG n xs)(Vc:n<=60):xs.length<=60:=by
 by_cases h0:0<=n
 ·have:=wM (n:=n.toNat) h.nodup λx b=>by have:=h.2 x b;lia
  lia
 ·cases xs with
  |nil=>grind
  |cons a l=>have:=h.2 a mem_cons_self;lia
theorem zJg{ys:LI}(b:aG n xs)(a:n<=60)(c:ys.length<4000):wC xs ys=some (xs.filter λz=>decide (z∈ys)):=by
 rw[zMr (by have:=xC b a;lia) c]
 exact congrArg some (Yn ⟨b.1.filter _,λx h=>b.2 x (mem_filter.mp h).1⟩)
theorem zOh{ys:LI}(b:aG n xs)(a:n<=60)(c:ys.length<4000):Pg xs ys=some (xs.filter λz=>!decide (z∈ys)):=by
 unfold Pg qG
 rw[if_pos ⟨by have:=xC b a;lia,c⟩]
 exact congrArg some (Yn ⟨b.1.filter _,λx h=>b.2 x (mem_filter.mp h).1⟩)
theorem Qc(n:Int):aG n (rng n):=⟨zW6 n,λx a=>cV.mp a⟩
def into(xss:List LI)(G:LI)(s:Int):Bool:=(nxt xss s).any λt=>decide (t∈G)
theorem Qd{C:Addr}{m:aF C}(g:Gr m n)(h0:0<=s)(h:s<n){c:List Bool}(hl:(c.length:Int)=n)(hh:∀t:Int,0<=t->t<n->c.getD t.toNat false=decide (t∈G)):uL m s c=some (into m.steps G s):=by
 unfold uL
 obtain⟨f,e,xl,i⟩:=zMs g h0 h
 rw[e]
 have k:∀x∈f,0<=x/\x<n:=λx b=>by
  have d:=(i x).mp b
  have j:nxt m.steps s∈m.steps:=mem_of_getElem? (PK g.len h0 h)
  exact(g.row _ j).2.2 x d
 show((aK _ _ f).bind _)=_
 rw[xJ (p:=λ_=>true) (g:=λx=>decide (x∈G)) (yO (by lia)) (λ_ _=>rfl) (λx b=>?_)]
 ·show some _=some _
  congr 1
  rw[List.filter_eq_self.mpr (λ_ _=>rfl)]
  unfold into
  rw[ab1,any_eq_true,any_eq_true]
  constructor
  ·grind
  ·rintro⟨x,b,e⟩
   exact⟨_,mem_map.mpr ⟨x,(i x).mpr b,rfl⟩,e⟩
 ·obtain⟨l,x1⟩:=k x b
  have q:W (aU c x) (· = decide (x∈G)):=by
   rw[d_ l]
   grind
  obtain⟨a,o,r⟩:=q
  rw[o,r]
theorem zOi{C:Addr}{m:aF C}(g:Gr m n)(c:∀x∈G,0<=x/\x<n):vR m (rng n) G=some (pick n (into m.steps G)):=by
 unfold vR
 obtain⟨fl,e,d,b⟩:=zQk g c
 rw[e]
 have r:=Iz g.few (by grind)
 show aK _ _ (rng n)=_
 rw[xJ (yO (by lia)) (λx f=>?_) (λ_ _=>rfl),map_id']
 ·rfl
 ·obtain⟨h,a⟩:=cV.mp f
  exact Qd g h a d b
theorem aam{α:Type}{m:Option α}{a:α}(h:m=some a):W m (· = a):=⟨a,h,rfl⟩
theorem fJ{α:Type}{m:Option α}{a:α}(h:W m (· = a)):m=some a:=by obtain⟨b,e,rfl⟩:=h;exact e
theorem zHe{C:Addr}{m:aF C}(g:Gr m n)(a:aG n L)(b:aG n S):wQ m L S=some (pick n (into m.steps (L.filter λz=>decide (z∈S)))):=by
 apply fJ
 unfold wQ
 rw[zC,zC,zC,Qa g,aj,zC,zC,zJg a g.few (by have:=xC b g.few;lia),aj,aj,aj,aj]
 exact aam (zOi g λx c=>a.2 x (mem_filter.mp c).1)
theorem tY{α:Type}{pre:List α}{x:α}:L2.aU (pre++[x]) (-(1:Int))=some x:=by
 unfold L2.aU yc
 rw[if_neg (by decide),if_pos (by rw[length_append,length_singleton];lia)]
 show(pre++[x])[((-(1:Int))+((pre++[x]).length:Nat)).toNat]?=some x
 have e:((-(1:Int))+((pre++[x]).length:Nat)).toNat=pre.length:=by rw[length_append,length_singleton];lia
 rw[e,getElem?_append_right (aa0 _),Nat.sub_self]
 rfl
theorem zPl(h:aG n xs):Xh xs=xs :=
 JR (uH (zEv xs) ((uI xs).nodup_iff.mpr h.nodup)) h.1 λs=>(uI xs).mem_iff
theorem zMt{C:Addr}{m:aF C}(a:n<=60)(f:∀mk∈m.marks,aG n mk.2)(x:Str):W (yJ m x) λS=>(∃mk∈m.marks,mk.1=x/\S=mk.2)\/((∀mk∈m.marks,mk.1≠x)/\S=[]):=by
 unfold yJ
 rw[zC,zC,aj]
 refine zTr (λi _=>∀mk∈m.marks.take i,mk.1≠x) (λmk h=>by simp at h) (λi mk _ d e=>?_) λ_ e=>?_
 ·have b:=mem_of_getElem? d
  by_cases c:mk.1=x
  ·rw[decide_eq_true c,if_pos rfl,zC]
   have r:=xC (f mk b) a
   unfold kO
   rw[if_pos (by lia),aj,aj,zPl (f mk b)]
   refine .inr ⟨_,rfl,?_⟩
   show W (some mk.2) _
   rw[aj]
   grind
  ·rw[decide_eq_false c,if_neg (by decide),aj]
   refine .inl ⟨(),rfl,λmk' h=>?_⟩
   rw[take_add_one,d,mem_append] at h
   grind
 ·rw[take_length] at e
  rw[Cq,aj]
  grind
theorem VP(ws:LI):W (uZ ws) λ_=>True:=by
 unfold uZ
 rw[Rk]
 refine⟨λ_=>aj.mpr trivial,λh=>?_⟩
 cases ws with
 |nil=>grind
 |cons x r =>
  exact⟨_,rfl,trivial⟩
theorem zQi(c:Int)(h0:0<=n)(h1:n<=60):W (Il c n) (aG n):=by
 unfold Il
 rw[zC,aj,zC,zC,dU]
 refine⟨⟨by lia,by omega⟩,?_⟩
 have rn:=vO h0
 refine wN (λj z=>aG j z.1/\z.1.length<=j) ⟨Rm,aa0 _⟩ (λj y z b a=>?_) λz a=>?_
 ·obtain⟨rfl,hy⟩:=Uh b
  simp only[zC,Xd,Ug,aj,Rk,Ek]
  exact⟨by decide,λ_=>⟨yO (by lia),⟨by decide,by decide⟩,zJy a.1 (by lia) (by lia),by grind⟩,λ_=>⟨⟨by decide,by decide⟩,zRh a.1 (by lia),by omega⟩⟩
 ·rw[aj]
  grind
theorem zC3(h:aG n xs)(a:n<=60)(b:xs≠[]):VH n xs:=⟨b,h.nodup,xC h a,h.2⟩
theorem IK(c k:Int)(h0:1<=n)(d:n<=60):W (RZ c k n) (VH n):=by
 unfold RZ
 rw[zC,aj,zC,aj,zC,zC,dU]
 refine⟨⟨by lia,by omega⟩,?_⟩
 have b:=vO (n:=n) (by lia)
 refine wN (λj z=>aG j z.1/\z.1.length<=j) ⟨Rm,aa0 _⟩ (λj y z g a=>?_) λz a=>?_
 ·obtain⟨rfl,f⟩:=Uh g
  simp only[zC,Xd,Ug,aj,Rk,Ek]
  exact⟨by decide,λ_=>⟨yO (by lia),⟨by decide,by decide⟩,zJy a.1 (by lia) (by lia),by grind⟩,λ_=>⟨⟨by decide,by decide⟩,zRh a.1 (by lia),by omega⟩⟩
 ·rw[b] at a
  rw[zC]
  by_cases e:z.1=[]
  ·rw[if_pos (decide_eq_true e),zC,zC,Ug]
   refine⟨by lia,?_⟩
   have z0:=aee (c+k) (show n≠0 by lia)
   have z1:=adq (c+k) (show 0<n by lia)
   rw[e,Ek]
   refine⟨yO (by simp),?_⟩
   rw[aj,aj]
   refine⟨by simp,by simp,by simp,λy f=>?_⟩
   grind
  ·rw[if_neg (by grind),aj,aj]
   exact zC3 a.1 d e
section
variable{α β:Type}{f:LI->α->Option (β×LI)}{R:β->Prop}
theorem zX1:∀(xs:List α)(ws:LI),(∀ws,∀x∈xs,W (f ws x) λr=>R r.1)->W (nA f ws xs) λr=>r.1.length=xs.length/\∀y∈r.1,R y
 |[],ws,_=>aj.mpr ⟨rfl,λy h=>by cases h⟩
 |x::xs,ws,h=>by
  unfold nA
  rw[zC]
  refine(h ws x mem_cons_self).imp λr hr=>?_
  rw[zC]
  refine(zX1 xs r.2 λw y a=>h w y (mem_cons_of_mem _ a)).imp λq hq=>?_
  rw[aj]
  grind
theorem zTs{xs:List α}(a:xs.length<cap)(h:∀ws,∀x∈xs,W (f ws x) λr=>R r.1):W (oF f ws xs) λr=>r.1.length=xs.length/\∀y∈r.1,R y:=by
 unfold oF
 rw[if_pos a]
 exact zX1 xs ws h
end
structure Qe(n:Int)(T:uf (List LI) (List (Str×LI)) (List LI)):Prop where
 pos:1<=n
 few:n<=60
 len:(T.a.length:Int)=n
 row:∀xs∈T.a,VH n xs
 marks:∃A B D,T.b=[(("p":Str),A),(("wet":Str),B),(("darkness":Str),D)]/\aG n A/\aG n B/\aG n D
 fair:wI n T.c
 aav:T.c.length<=4
theorem IV(h0:1<=n)(g:n<=60)(s:List (Str×LI))(ws:LI)(x:Str)(hs:s.length<=100):W (((((uZ ws).bind λd=>(Il d.1 n).bind λe=>some (e,d.2)).bind λb=>some ((x,b.1),b.2)).bind λc=>(push s c.1).bind λf=>some (f,c.2)).bind λa=>some (a.1,a.2)) λz=>∃A,z.1=s++[(x,A)]/\aG n A:=by
 rw[zC,zC,zC,zC]
 refine(VP ws).imp λr _=>?_
 rw[zC]
 refine(zQi r.1 (by lia) g).imp λA hA=>?_
 rw[aj,aj,zC,Ek]
 refine⟨yO (by lia),?_⟩
 rw[aj,aj]
 grind
theorem IW(ws:LI):W (VD ws) λv=>∃n,Qe n v.1:=by
 unfold VD
 rw[zC]
 refine(VP ws).imp λc _=>?_
 have K:∀Q:Int->Prop,(∀n,1<=n->n<=60->Q n)->W ((((n8 c.1 (8:Int)).bind λL=>kJ L (7:Int)).bind λO=>some ((1:Int)+O))) λg=>W (((kJ c.1 (8:Int)).bind λN=>some (decide (N=(1:Int)))).bind λb=>if b=true then(((n8 c.1 (8:Int)).bind λI=>kJ I (5:Int)).bind λC=>some ((8:Int)+C)).bind λo=>some o else some g) Q:=λQ h=>by
  simp only[zC,Ug,Xd,aj,Rk]
  exact⟨⟨by decide,by decide⟩,by decide,by decide,λ_=>⟨⟨by decide,by decide⟩,by decide,h _ (by lia) (by lia)⟩,λ_=>h _ (by lia) (by lia)⟩
 rw[zC]
 refine(K _ λn n1 f=>?_).imp λg h=>by rw[zC];exact h
 have rl:=Iz f (by lia)
 have S:=vO (n:=n) (by lia)
 rw[zC,zC,dU]
 refine⟨⟨by lia,by omega⟩,?_⟩
 refine(zTs (R:=VH n) (yO (by lia)) λw x _=>?_).imp λm q=>?_
 ·rw[zC]
  refine(VP w).imp λr _=>?_
  rw[zC]
  refine(IK r.1 x n1 f).imp λb M=>?_
  rw[aj]
  exact M
 rw[zC,aj,zC,zC,aj]
 refine wN (λi z=>z.1.length=i/\∃A B D,aG n A/\aG n B/\aG n D/\z.1=([(("p":Str),A),("wet",B),("darkness",D)]:List (Str×LI)).take i) ⟨rfl,[],[],[],Rm,Rm,Rm,rfl⟩ (λi x z j t=>?_) λz t=>?_
 ·obtain⟨l,A,B,D,a,b,d,e⟩:=t
  have P:i<3:=by
   have:=(aa8.mp j).1
   simpa using this
  refine(IV n1 f z.1 z.2 x (by lia)).imp λz' ⟨E,H,G⟩=>⟨by rw[H,length_append,l];rfl,?_⟩
  rw[H,e]
  match i,j,P with
  |0,j,_ =>
   have s:x = "p":=by simpa using j.symm
   subst s
   exact⟨E,B,D,G,b,d,rfl⟩
  |1,j,_ =>
   have s:x = "wet":=by simpa using j.symm
   subst s
   exact⟨A,E,D,a,G,d,rfl⟩
  |2,j,_ =>
   have s:x = "darkness":=by simpa using j.symm
   subst s
   exact⟨A,B,E,a,b,G,rfl⟩
 ·obtain⟨l,A,B,D,a,b,d,e⟩:=t
  have e:z.1=[(("p":Str),A),("wet",B),("darkness",D)]:=e
  rw[zC,zC,zC,zC,Xd]
  refine⟨⟨by decide,by decide⟩,?_⟩
  rw[Ug]
  refine⟨by decide,?_⟩
  have J:0<=c.1/60%4/\c.1/60%4<4:=by lia
  have r4:=vO J.1
  rw[dU]
  refine⟨⟨by lia,by omega⟩,?_⟩
  refine(zTs (R:=aG n) (yO (by lia)) λw x _=>?_).imp λk y=>?_
  ·rw[zC]
   refine(VP w).imp λr _=>?_
   rw[zC]
   refine(zQi r.1 (by lia) f).imp λF u=>?_
   rw[aj]
   exact u
  rw[aj]
  exact⟨n,n1,f,by show(m.1.length:Int)=n;rw[q.1];exact S,q.2,⟨A,B,D,e,a,b,d⟩,⟨by show k.1.length<=100;lia,λF u=>R8 (y.2 F u) f⟩,by show k.1.length<=4;omega⟩
theorem zX{α:Type}[Decidable c]{a b:Option α}{Q:α->Prop}(h:¬c)(q:W b Q):W (if c then a else b) Q:=by rw[if_neg h];exact q
theorem qe{α:Type}[Decidable c]{a b:Option α}{Q:α->Prop}(h:c)(q:W a Q):W (if c then a else b) Q:=by rw[if_pos h];exact q
inductive Al(xss:List LI)(U G:LI):Int->Prop
 |here {s:Int}:s∈G->Al xss U G s
 |on {s t:Int}:s∈U->t∈nxt xss s->Al xss U G t->Al xss U G s
section
variable{C:Addr}{cl:Hd->Addr}{m:aF C}{n:Int}
theorem yY(a:aG n L)(p:Int->Bool):aG n (L.filter p):=⟨a.1.filter p,λx b=>a.2 x (mem_filter.mp b).1⟩
def nt(n:Int)(S:LI):LI:=pick n λz=>!decide (z∈S)
def tg(n:Int)(A B:LI):LI:=pick n λz=>decide (z∈A)||decide (z∈B)
def sn(m:aF C)(n:Int)(L S:LI):LI:=pick n (into m.steps (L.filter λz=>decide (z∈S)))
def cm(m:aF C)(U G:LI):LI:=(xL m U G).getD []
def co(m:aF C)(U:LI):LI:=(Eu m U).getD []
def st(m:aF C)(L A B:LI):LI:=cm m A (L.filter λz=>decide (z∈B))
def Kl(n:Int)(L A B:LI):LI:=(L.filter λz=>decide (z∈nt n B)).filter λz=>!decide (z∈A)
def et(m:aF C)(n:Int)(L A B:LI):LI:=nt n (tg n (cm m (nt n B) (Kl n L A B)) (co m (nt n B)))
theorem Yo(g:Gr m n)(w:aG n U)(u:aG n G):xL m U G=some (cm m U G)/\aG n (cm m U G)/\∀s,s∈cm m U G↔0<=s/\s<n/\Al m.steps U G s:=by
 obtain⟨R,e,d,D,rfl⟩:=zQm g w.2 ⟨u.nodup,u.2⟩
 have o:cm m U G=pick n λs=>(dg d s).isSome:=by
  unfold cm
  rw[e]
  rfl
 refine⟨by rw[e,o],by rw[o];exact yX n _,λs=>?_⟩
 rw[o,fj]
 have l:∀(k:Nat)(s:Int),0<=s->s<n->dg d s=some (k:Int)->Al m.steps U G s:=by
  intro k
  induction k with
  |zero=>exactλs a b e=>.here ((D.zero s a b).mp e)
  |succ k ih =>
   intro s a b e
   by_cases r:s∈G
   ·exact .here r
   ·obtain⟨p,t,i,f,c,x⟩:=D.via s _ a b e r
    exact .on p i (ih t f c (by rw[x];exact congrArg some (by lia)))
 constructor
 ·rintro⟨a,b,q⟩
  obtain⟨k,e⟩:=abr.mp q
  have kp:=D.pos s k a b e
  exact⟨a,b,l k.toNat s a b (by rw[e];exact congrArg some (by lia))⟩
 ·rintro⟨a,b,h⟩
  refine⟨a,b,?_⟩
  induction h with
  |here h=>rw[(D.zero _ a b).mpr h];rfl
  |@on s t p i _ ih =>
   obtain⟨f,c⟩:=zSb g a b t i
   obtain⟨k,e⟩:=abr.mp (ih f c)
   obtain⟨j,v,_⟩:=D.near s t k a b f c p i e
   rw[v];rfl
theorem Qf(g:Gr m n)(c:wI n m.fair)(a:aG n U):Eu m U=some (co m U)/\aG n (co m U):=by
 obtain⟨R,e,h,_⟩:=zQl g c a
 have b:co m U=R:=by
  unfold co
  rw[e]
  rfl
 rw[b]
 exact⟨e,h⟩
theorem Km(g:Gr m n)(a:aG n S):xP m S=some (nt n S):=zT1 g (by have:=xC a g.few;lia)
theorem Dp(S:LI):aG n (nt n S):=yX n _
theorem Ko(g:Gr m n)(c:aG n A)(d:aG n B):uE A B=some (tg n A B):=by
 have la:=xC c g.few
 have lb:=xC d g.few
 have e:uD (A++B)=tg n A B:=JR (JQ _) (yX n _).1 λs=>by
  rw[bZ,mem_append]
  unfold tg
  rw[fj,ac6,decide_eq_true_iff,decide_eq_true_iff]
  exact⟨λh=>h.elim (λa=>⟨(c.2 s a).1,(c.2 s a).2,.inl a⟩) λb=>⟨(d.2 s b).1,(d.2 s b).2,.inr b⟩,λh=>h.2.2⟩
 have lt:=xC (yX n λz=>decide (z∈A)||decide (z∈B)) g.few
 unfold uE Ho
 rw[e,if_pos ⟨by lia,by lia,by unfold tg;omega⟩]
theorem Dq(g:Gr m n)(a:aG n A)(b:aG n B):wC A B=some (A.filter λz=>decide (z∈B)):=zJg a g.few (by have:=xC b g.few;lia)
theorem Sd(g:Gr m n)(a:aG n L)(c:aG n A)(b:aG n B):xT m L A B=some (st m L A B)/\aG n (st m L A B):=by
 have q:=Yo g c (yY a λz=>decide (z∈B))
 refine⟨fJ ?_,q.2.1⟩
 unfold xT
 rw[zC,zC,zC,zC,Dq g a b,aj,aj,aj,aj]
 show W (xL m A _) _
 rw[q.1]
 exact aj.mpr rfl
theorem Kq(g:Gr m n)(h:wI n m.fair)(a:aG n L)(f:aG n A)(c:aG n B):wR m L A B=some (et m n L A B):=by
 apply fJ
 have e:aG n (Kl n L A B):=yY (yY a _) _
 have d:=Yo g (Dp (n:=n) B) e
 have b:=Qf g h (Dp (n:=n) B)
 have lA:=xC f g.few
 have i:Vx m L A B=some (Kl n L A B):=by
  apply fJ
  unfold Vx
  rw[zC,zC,zC,zC,zC,Km g c,aj,aj,aj]
  show W (wC L (nt n B)) _
  rw[Dq g a (Dp B),aj,aj]
  show W (Pg _ A) _
  rw[zOh (yY a _) g.few (by lia),aj]
  rfl
 unfold wR
 rw[zC,Km g c,aj,zC,zC,zC,zC,zC,i,aj,aj,aj,aj]
 show W (xL m (nt n B) (Kl n L A B)) _
 rw[d.1,aj,zC,zC,zC,zC,zC,zC,b.1,aj,aj,aj]
 dsimp only
 rw[Ko g d.2.1 b.2,aj,aj,aj]
 dsimp only
 rw[Km g (S:=tg n (cm m (nt n B) (Kl n L A B)) (co m (nt n B))) (yX n _)]
 exact aj.mpr rfl
def one(m:aF C)(n:Int)(L:LI)(i:Fin 7)(S:LI):LI :=
 if i=0 then nt n S else if i=1 then sn m n L S else if i=2 then nt n (sn m n L (nt n S)) else if i=3 then co m S else if i=4 then nt n (st m L (rng n) (nt n S)) else if i=5 then st m L (rng n) S else et m n L (rng n) S
def two(m:aF C)(n:Int)(L:LI)(i:Fin 4)(A B:LI):LI :=
 if i=0 then A.filter (λz=>decide (z∈B)) else if i=1 then tg n A B else if i=2 then st m L A B else et m n L A B
def vv(m:aF C)(n:Int)(L:LI):Tr->LI
 |.all=>rng n
 |.mark x=>(yJ m x).getD []
 |.one i t=>one m n L i (vv m n L t)
 |.two i l r=>two m n L i (vv m n L l) (vv m n L r)
theorem f7:∀i:Fin 7,i=0\/i=1\/i=2\/i=3\/i=4\/i=5\/i=6:=by decide
theorem f4:∀i:Fin 4,i=0\/i=1\/i=2\/i=3:=by decide
theorem Kr(g:Gr m n)(a:∀mk∈m.marks,aG n mk.2)(x:Str):yJ m x=some ((yJ m x).getD [])/\aG n ((yJ m x).getD []):=by
 obtain⟨S,e,h⟩:=zMt g.few a x
 rw[e]
 refine⟨rfl,?_⟩
 rcases h with⟨mk,h1,_,rfl⟩|⟨_,rfl⟩
 ·grind
 ·exact Rm
theorem zUu(g:Gr m n)(b:wI n m.fair)(d:aG n L)(a:aG n S)(i:Fin 7):aG n (one m n L i S):=by
 have c:=Qc n
 rcases f7 i with rfl|rfl|rfl|rfl|rfl|rfl|rfl
 ·exact yX n _
 ·exact yX n _
 ·exact yX n _
 ·exact(Qf g b a).2
 ·exact yX n _
 ·exact(Sd g d c a).2
 ·exact yX n _
theorem zUt(g:Gr m n)(c:aG n L)(a:aG n A)(b:aG n B)(i:Fin 4):aG n (two m n L i A B):=by
 rcases f4 i with rfl|rfl|rfl|rfl
 ·exact yY a _
 ·exact yX n _
 ·exact(Sd g c a b).2
 ·exact yX n _
theorem Ez(g:Gr m n)(b:wI n m.fair)(c:∀mk∈m.marks,aG n mk.2)(a:aG n L):∀t:Tr,aG n (vv m n L t)
 |.all=>Qc n
 |.mark x=>(Kr g c x).2
 |.one i t=>zUu g b a (Ez g b c a t) i
 |.two i l r=>zUt g a (Ez g b c a l) (Ez g b c a r) i
theorem Qg(g:Gr m n)(d:wI n m.fair)(b:aG n L)(a:aG n S)(i:Fin 7)(t:Tr):vV m L (fH.mk (cl:=cl) (.one i t)) [S]=some (one m n L i S):=by
 have c:=Qc n
 apply fJ
 unfold vV
 rcases f7 i with rfl|rfl|rfl|rfl|rfl|rfl|rfl
 ·refine(zX aay (zX aay (qe (by show decide ((0:Fin 7)=0)=true;decide) ?_)))
  rw[zC,zC,zC,d_ (by decide)]
  refine⟨S,rfl,?_⟩
  rw[aj,aj]
  show W (xP m S) _
  rw[Km g a]
  exact aj.mpr rfl
 ·refine(zX aay (zX aay (zX (by show¬decide ((1:Fin 7)=0)=true;decide) (zX aay (zX aay ?_)))))
  unfold yB
  refine(qe (by show decide ((1:Fin 7)=1)=true;decide) ?_)
  rw[zC,zC,zC,zC,d_ (by decide)]
  refine⟨S,rfl,?_⟩
  rw[aj,aj,aj]
  show W (wQ m L S) _
  rw[zHe g b a]
  exact aj.mpr rfl
 ·refine(zX aay (zX aay (zX (by show¬decide ((2:Fin 7)=0)=true;decide) (zX aay (zX aay ?_)))))
  unfold yB
  refine(zX (by show¬decide ((2:Fin 7)=1)=true;decide) (qe (by show decide ((2:Fin 7)=2)=true;decide) ?_))
  rw[zC,zC,zC,zC,zC,zC,zC,zC,zC,zC,d_ (by decide)]
  refine⟨S,rfl,?_⟩
  rw[aj,aj]
  show W (xP m S) _
  rw[Km g a,aj,aj,aj,aj]
  show W (wQ m L (nt n S)) _
  rw[zHe g b (Dp S),aj,aj,aj]
  show W (xP m (sn m n L (nt n S))) _
  rw[Km g (S:=sn m n L (nt n S)) (yX n _)]
  exact aj.mpr rfl
 ·refine(zX aay (zX aay (zX (by show¬decide ((3:Fin 7)=0)=true;decide) (zX aay (zX aay ?_)))))
  unfold yB
  refine(zX (by show¬decide ((3:Fin 7)=1)=true;decide) (zX (by show¬decide ((3:Fin 7)=2)=true;decide) (zX aay (zX aay (qe (by show decide ((3:Fin 7)=3)=true;decide) ?_)))))
  rw[zC,zC,zC,d_ (by decide)]
  refine⟨S,rfl,?_⟩
  rw[aj,aj]
  show W (Eu m S) _
  rw[(Qf g d a).1]
  exact aj.mpr rfl
 ·refine(zX aay (zX aay (zX (by show¬decide ((4:Fin 7)=0)=true;decide) (zX aay (zX aay ?_)))))
  unfold yB
  refine(zX (by show¬decide ((4:Fin 7)=1)=true;decide) (zX (by show¬decide ((4:Fin 7)=2)=true;decide) (zX aay (zX aay (zX (by show¬decide ((4:Fin 7)=3)=true;decide) (qe (by show decide ((4:Fin 7)=4)=true;decide) ?_))))))
  rw[zC,zC,zC,zC,zC,zC,zC,Qa g,aj]
  rw[zC,zC,zC,zC,zC,d_ (by decide)]
  refine⟨S,rfl,?_⟩
  rw[aj,aj]
  show W (xP m S) _
  rw[Km g a,aj,aj,aj,aj,aj]
  show W (xT m L (rng n) (nt n S)) _
  rw[(Sd g b c (Dp S)).1,aj,aj,aj]
  dsimp only
  rw[Km g (Sd g b c (Dp S)).2]
  exact aj.mpr rfl
 ·refine(zX aay (zX aay (zX (by show¬decide ((5:Fin 7)=0)=true;decide) (zX aay (zX aay ?_)))))
  unfold yB
  refine(zX (by show¬decide ((5:Fin 7)=1)=true;decide) (zX (by show¬decide ((5:Fin 7)=2)=true;decide) (zX aay (zX aay (zX (by show¬decide ((5:Fin 7)=3)=true;decide) (zX (by show¬decide ((5:Fin 7)=4)=true;decide) (qe (by show decide ((5:Fin 7)=5)=true;decide) ?_)))))))
  rw[zC,zC,zC,zC,Qa g,aj]
  rw[zC,zC,d_ (by decide)]
  refine⟨S,rfl,?_⟩
  rw[aj,aj,aj,aj]
  show W (xT m L (rng n) S) _
  rw[(Sd g b c a).1]
  exact aj.mpr rfl
 ·refine(zX aay (zX aay (zX (by show¬decide ((6:Fin 7)=0)=true;decide) (zX aay (zX aay ?_)))))
  unfold yB
  refine(zX (by show¬decide ((6:Fin 7)=1)=true;decide) (zX (by show¬decide ((6:Fin 7)=2)=true;decide) (zX aay (zX aay (zX (by show¬decide ((6:Fin 7)=3)=true;decide) (zX (by show¬decide ((6:Fin 7)=4)=true;decide) (zX (by show¬decide ((6:Fin 7)=5)=true;decide) ?_)))))))
  rw[zC,zC,zC,zC,Qa g,aj]
  rw[zC,zC,d_ (by decide)]
  refine⟨S,rfl,?_⟩
  rw[aj,aj,aj,aj]
  show W (wR m L (rng n) S) _
  rw[Kq g d b c a]
  exact aj.mpr rfl
theorem Qh(g:Gr m n)(d:wI n m.fair)(c:aG n L)(a:aG n A)(b:aG n B)(i:Fin 4)(l r:Tr):vV m L (fH.mk (cl:=cl) (.two i l r)) [A,B]=some (two m n L i A B):=by
 apply fJ
 unfold vV
 rcases f4 i with rfl|rfl|rfl|rfl
 ·refine(zX aay (zX aay (zX aay (qe (by show decide ((0:Fin 4)=0)=true;decide) ?_))))
  rw[zC,zC,d_ (by decide)]
  refine⟨A,rfl,?_⟩
  rw[zC,zC,d_ (by decide)]
  refine⟨B,rfl,?_⟩
  rw[aj,aj]
  show W (wC A B) _
  rw[Dq g a b]
  exact aj.mpr rfl
 ·refine(zX aay (zX aay (zX aay (zX (by show¬decide ((1:Fin 4)=0)=true;decide) (qe (by show decide ((1:Fin 4)=1)=true;decide) ?_)))))
  rw[zC,zC,d_ (by decide)]
  refine⟨A,rfl,?_⟩
  rw[zC,zC,d_ (by decide)]
  refine⟨B,rfl,?_⟩
  rw[aj,aj]
  show W (uE A B) _
  rw[Ko g a b]
  exact aj.mpr rfl
 ·refine(zX aay (zX aay (zX aay (zX (by show¬decide ((2:Fin 4)=0)=true;decide) (zX (by show¬decide ((2:Fin 4)=1)=true;decide) ?_)))))
  unfold yB
  refine(zX aay (zX aay (qe (by show decide ((2:Fin 4)=2)=true;decide) ?_)))
  rw[zC,zC,zC,zC,d_ (by decide)]
  refine⟨A,rfl,?_⟩
  rw[zC,zC,d_ (by decide)]
  refine⟨B,rfl,?_⟩
  rw[aj,aj,aj,aj]
  show W (xT m L A B) _
  rw[(Sd g c a b).1]
  exact aj.mpr rfl
 ·refine(zX aay (zX aay (zX aay (zX (by show¬decide ((3:Fin 4)=0)=true;decide) (zX (by show¬decide ((3:Fin 4)=1)=true;decide) ?_)))))
  unfold yB
  refine(zX aay (zX aay (zX (by show¬decide ((3:Fin 4)=2)=true;decide) (qe (by show decide ((3:Fin 4)=3)=true;decide) ?_))))
  rw[zC,zC,zC,zC,d_ (by decide)]
  refine⟨A,rfl,?_⟩
  rw[zC,zC,d_ (by decide)]
  refine⟨B,rfl,?_⟩
  rw[aj,aj,aj,aj]
  show W (wR m L A B) _
  rw[Kq g d c a b]
  exact aj.mpr rfl
theorem VR(g:Gr m n)(b:wI n m.fair)(c:∀mk∈m.marks,aG n mk.2)(a:aG n L)(t:Tr):vV m L (fH.mk (cl:=cl) t) ((nq t).map (vv m n L))=some (vv m n L t):=by
 cases t with
 |all =>
  show yV m=_
  exact Qa g
 |mark x =>
  show yJ m x=_
  exact(Kr g c x).1
 |one i t=>exact Qg g b a (Ez g b c a t) i t
 |two i l r=>exact Qh g b a (Ez g b c a l) (Ez g b c a r) i l r
theorem w_tab(g:Gr m n)(o:wI n m.fair)(l:∀mk∈m.marks,aG n mk.2)(q:aG n L):∀(k:Nat)(t:Tr),t.depth<k->k<=9->W (wB k m L (fH.mk (cl:=cl) t)) λT=>∃pre,T=pre++[vv m n L t]/\T.length<2^k
 |0,t,h,_=>absurd h (ab7 _)
 |k+1,t,h,h9=>by
  show W (vP (wB k) m L _) _
  unfold vP
  rw[zC,aj,zC,aj,zC,zC,aj]
  show W (xR _ ((nq t).map fH.mk) _) _
  have r:2^k<=2^8:=acw (by decide) (by lia)
  have p9':2^k<=256:=r
  have p1:1<=2^k:=Nat.one_le_two_pow
  have s:(nq t).length<=2:=by cases t<;>simp[nq]
  refine wN (λi z=>z.1.length<=i*(2^k-1)/\z.2=((nq t).take i).map (vv m n L)) ⟨abg _,rfl⟩ (λi x z p j=>?_) λz j=>?_
  ·obtain⟨d,b⟩:=j
   rw[getElem?_map] at p
   obtain⟨u,f,rfl⟩:=Option.map_eq_some_iff.mp p
   have il:i<2:=by
    have:=(aa8.mp f).1
    lia
   have du:=zJ0 (mem_of_getElem? f)
   have im:i*(2^k-1)<=1*255:=Nat.mul_le_mul (by lia) (by lia)
   rw[zC,zC]
   refine(w_tab g o l q k u (by lia) (by lia)).imp ?_
   rintro T ⟨pre,e,hl⟩
   subst e
   unfold Cy
   rw[if_pos (yO (by lia)),aj,zC,zC]
   show W (L2.aU (z.1++(pre++[vv m n L u])) (-(1:Int))) _
   rw[<-append_assoc,tY,aj,b,Ek]
   refine⟨yO (by rw[length_map,length_take];lia),?_⟩
   rw[aj]
   refine⟨?_,?_⟩
   ·show((z.1++pre)++[vv m n L u]).length<=(i+1)*(2^k-1)
    rw[append_assoc,length_append,Nat.succ_mul]
    lia
   ·show((nq t).take i).map (vv m n L)++[vv m n L u]=_
    rw[take_add_one,f,map_append]
    rfl
  ·obtain⟨a,c⟩:=z
   obtain⟨d,b⟩:=j
   rw[length_map] at d b
   rw[take_length] at b
   have b:c=(nq t).map (vv m n L):=b
   have d:a.length<=(nq t).length*(2^k-1):=d
   have zm:(nq t).length*(2^k-1)<=2*(2^k-1):=Nat.mul_le_mul_right _ s
   subst b
   rw[zC,zC]
   show W (vV m L (fH.mk (cl:=cl) t) ((nq t).map (vv m n L))) _
   rw[VR g o l q t,aj,Ek]
   refine⟨yO (by show a.length<=1000;lia),?_⟩
   rw[aj]
   refine⟨a,rfl,?_⟩
   show(a++[_]).length<2^(k+1)
   rw[length_append,Nat.pow_succ]
   show a.length+1<_
   lia
theorem Qi(g:Gr m n)(b:wI n m.fair)(c:∀mk∈m.marks,aG n mk.2)(a:aG n L)(d:RX m=some L){t:Tr}(hd:t.depth<9):Ik m (fH.mk (cl:=cl) t)=some (vv m n L t):=by
 apply fJ
 unfold Ik Yg
 rw[zC,zC,zC,zC,d,aj,aj,aj]
 show W (wB 9 m L (fH.mk t)) _
 refine(w_tab g b c a 9 t hd (by decide)).imp ?_
 rintro T ⟨pre,e,_⟩
 subst e
 rw[tY,aj]
end
theorem V0(xs:LI):(sY xs none (some (60:Int))).length<=60:=by
 unfold sY
 rw[length_take,show(60:Int)=((60:Nat):Int) from rfl,HT.FZ]
 lia
theorem pX:vX "p" = some true/\vX "wet" = some true/\vX "darkness" = some true:=by decide +kernel
section
variable{C:Addr}{cl:Hd->Addr}{m:aF C}{n:Int}{L:LI}
theorem zXe:s∈nt n S↔0<=s/\s<n/\s∉S:=by
 unfold nt
 rw[fj]
 simp
theorem Qj(i:Fin 7)(t:Tr):vv m n L (.one i t)=one m n L i (vv m n L t):=by rw[vv]
theorem Qk(i:Fin 4)(l r:Tr):vv m n L (.two i l r)=two m n L i (vv m n L l) (vv m n L r):=by rw[vv]
theorem Ql:vv m n L .all=rng n:=by rw[vv]
theorem on0(S:LI):one m n L 0 S=nt n S:=by unfold one;grind
theorem on1(S:LI):one m n L 1 S=sn m n L S:=by unfold one;grind
theorem on2(S:LI):one m n L 2 S=nt n (sn m n L (nt n S)):=by unfold one;grind
theorem on3(S:LI):one m n L 3 S=co m S:=by unfold one;grind
theorem on4(S:LI):one m n L 4 S=nt n (st m L (rng n) (nt n S)):=by unfold one;grind
theorem on5(S:LI):one m n L 5 S=st m L (rng n) S:=by unfold one;grind
theorem on6(S:LI):one m n L 6 S=et m n L (rng n) S:=by unfold one;grind
theorem tw0(A B:LI):two m n L 0 A B=A.filter (λz=>decide (z∈B)):=by unfold two;grind
theorem tw1(A B:LI):two m n L 1 A B=tg n A B:=by unfold two;grind
theorem tw2(A B:LI):two m n L 2 A B=st m L A B:=by unfold two;grind
theorem tw3(A B:LI):two m n L 3 A B=et m n L A B:=by unfold two;grind
end
def tZ(led:List (List Bool))(s:Int):List Bool:=led.getD s.toNat []
def lb(led:List (List Bool))(s t:Int):Bool:=(tZ led s).getD t.toNat false
structure LW(n:Int)(led:List (List Bool)):Prop where
 len:(led.length:Int)=n
 row:∀r∈led,(r.length:Int)=n
section
variable{n:Int}{led:List (List Bool)}{xss:List LI}
theorem LW.at1(h:LW n led)(a:0<=s)(s1:s<n):L2.aU led s=some (tZ led s):=by
 have:=h.len
 unfold tZ
 rw[JD a,getD_eq_getElem?_getD,aaz (by lia)]
 rfl
theorem LW.rlen(h:LW n led)(a:0<=s)(b:s<n):((tZ led s).length:Int)=n:=by
 apply h.row
 have e:=h.at1 a b
 rw[JD a] at e
 grind
theorem zW5{r:List Bool}(hl:(r.length:Int)=n)(a:0<=t)(t1:t<n):L2.aU r t=some (r.getD t.toNat false):=by
 rw[JD a,getD_eq_getElem?_getD,aaz (by lia)]
 rfl
theorem LW.at2(h:LW n led)(b:0<=s)(c:s<n)(d:0<=t)(f:t<n):((L2.aU led s).bind λa=>L2.aU a t)=some (lb led s t):=by
 rw[h.at1 b c]
 exact zW5 (h.rlen b c) d f
theorem LW.set(h:LW n led){x:Int}{r:List Bool}(hr:(r.length:Int)=n):LW n (led.set x.toNat r) :=
 ⟨by rw[length_set];exact h.len,λq b=>by
  rcases List.mem_or_eq_of_mem_set b with a|a
  ·exact h.row q a
  grind⟩
theorem Qm(h:LW n led)(x0:0<=x)(x1:x<n)(s0:0<=s):lb (led.set x.toNat r) s t=if s=x then r.getD t.toNat false else lb led s t:=by
 have:=h.len
 unfold lb tZ
 grind
theorem zRg(h0:0<=n)(Vc:n<=60):bL n=some (rng n):=fJ (dU.mpr ⟨⟨by lia,by omega⟩,rfl⟩)
theorem zFu{α:Type}(f:Int->α){d:α}(t0:0<=t)(t1:t<n):((rng n).map f).getD t.toNat d=f t:=by
 have e:(rng n)[t.toNat]?=some t:=by
  unfold rng
  grind
 grind
theorem zD9{α:Type}(f:Int->α)(h:0<=n):(((rng n).map f).length:Int)=n:=by rw[length_map];exact vO h
def Ed(xss:List LI)(U:LI)(s t:Int):Bool:=decide (s∈U)&&(decide (t∈U)&&decide (t∈nxt xss s))
theorem Qn(e:(xss.length:Int)=n)(c:n<=60)(d:0<=s)(f:s<n):VF xss U s=some ((rng n).map (Ed xss U s)):=by
 have rl:=Iz c (by lia)
 unfold VF
 rw[e,zRg (by lia) c]
 show aK _ _ (rng n)=_
 rw[xJ (p:=λ_=>true) (g:=Ed xss U s) (yO (by lia)) (λ_ _=>rfl) (λt ht=>?_),Xf]
 unfold Ed
 by_cases a:s∈U
 ·rw[decide_eq_true a]
  by_cases b:t∈U
  ·rw[decide_eq_true b,JD d,PK e d f]
   rfl
  grind
 grind
theorem wu:Ed xss U s t=true↔s∈U/\t∈U/\t∈nxt xss s:=by
 unfold Ed
 grind
structure V1(xss:List LI)(n:Int)(U:LI)(led:List (List Bool)):Prop where
 lw:LW n led
 iff:∀s t:Int,0<=s->s<n->0<=t->t<n->(lb led s t=true↔s∈U/\jC xss U s t)
theorem zQn(Y:(xss.length:Int)=n)(n1:1<=n)(F:n<=60)(hU:∀x∈U,0<=x/\x<n):W (VG xss U) (V1 xss n U):=by
 have rl:=Iz F (by lia)
 have rn:=vO (n:=n) (by lia)
 unfold VG
 rw[Y,zC,aj,zC,zRg (by lia) F]
 show W (aK _ _ (rng n)) _
 rw[xJ (p:=λ_=>true) (g:=λs=>(rng n).map (Ed xss U s)) (yO (by lia)) (λ_ _=>rfl) (λs Z=>Qn Y F (cV.mp Z).1 (cV.mp Z).2),Xf,aj,zC]
 show W (xR _ (rng n) _) _
 have l0:LW n ((rng n).map λs=>(rng n).map (Ed xss U s)):=⟨zD9 _ (by lia),λr hr=>by
  obtain⟨s,_,rfl⟩:=mem_map.mp hr
  exact zD9 _ (by lia)⟩
 have b0:∀s t:Int,0<=s->s<n->0<=t->t<n->lb ((rng n).map λs=>(rng n).map (Ed xss U s)) s t=Ed xss U s t:=λs t o w m l=>by
  unfold lb tZ
  rw[zFu _ o w,zFu _ m l]
 refine wN (λi led=>LW n led/\(∀s t:Int,0<=s->s<n->0<=t->t<n->Ed xss U s t=true->lb led s t=true)/\(∀s t:Int,0<=s->s<n->0<=t->t<n->lb led s t=true->s∈U/\jC xss U s t)/\∀u s t:Int,0<=u->u<i->0<=s->s<n->0<=t->t<n->lb led s u=true->lb led u t=true->lb led s t=true)
  ⟨l0,λs t o w m l h=>by rw[b0 s t o w m l];exact h,λs t o w m l h=>by rw[b0 s t o w m l] at h;obtain⟨a,b,c⟩:=wu.mp h;exact⟨a,.one c b⟩,λu s t z M=>by omega⟩ (λi u B hi N=>?_) λled N=>?_
 ·obtain⟨rfl,C⟩:=Uh hi
  obtain⟨J,L,D,O⟩:=N
  have z:(0:Int)<=(i:Int):=aek _
  rw[zC]
  show W (xR _ (rng n) _) _
  refine wN (λj f=>LW n f/\∀s t:Int,0<=s->s<n->0<=t->t<n->lb f s t=(lb B s t||(decide (s<j)&&(lb B s i&&lb B i t)))) ⟨J,λs t o _ _ _=>by rw[decide_eq_false (by lia)];simp⟩ (λj x f hj I=>?_) λf I=>?_
  ·obtain⟨rfl,H⟩:=Uh hj
   obtain⟨y,A⟩:=I
   have G:(0:Int)<=(j:Int):=aek _
   have ex:lb f j i=lb B j i:=by
    rw[A j i G H z C]
    cases lb B j i<;>simp
   have eu:∀t:Int,0<=t->t<n->lb f i t=lb B i t:=λt m l=>by
    rw[A i t z C m l]
    cases lb B i t<;>simp
   rw[zC,zC,y.at2 G H z C,aj,ex]
   by_cases c:lb B j i=true
   ·rw[c,if_pos rfl,zC,zC]
    show W (aK _ _ (rng n)) _
    rw[xJ (p:=λ_=>true) (g:=λt=>lb f j t||lb f i t) (yO (by lia)) (λ_ _=>rfl) (λt ht=>?_),Xf,aj,Rj G (by have:=y.len;lia),aj,aj]
    ·refine⟨y.set (zD9 _ (by lia)),λs t o w m l=>?_⟩
     rw[Qm y G H o]
     by_cases e:s=j
     ·subst e
      rw[if_pos rfl,zFu _ m l,A j t G H m l,eu t m l,c,decide_eq_false (show¬((j:Int)<(j:Int)) by lia),decide_eq_true (show(j:Int)<((j+1:Nat):Int) by lia)]
      cases lb B j t<;>cases lb B i t<;>simp
     ·rw[if_neg e,A s t o w m l]
      have:decide (s<((j+1:Nat):Int))=decide (s<(j:Int)):=by rw[decide_eq_decide];lia
      rw[this]
    ·obtain⟨m,l⟩:=cV.mp ht
     rw[y.at2 G H m l]
     show(if lb f j t=true then some true else _)=_
     by_cases q:lb f j t=true
     ·rw[if_pos q,q];rfl
     ·rw[if_neg q,y.at2 z C m l,(by simpa using q:lb f j t=false)];rfl
   ·have c:lb B j i=false:=by simpa using c
    rw[c,if_neg (by decide),aj,aj]
    refine⟨y,λs t o w m l=>?_⟩
    rw[A s t o w m l]
    by_cases e:s=j
    ·subst e
     rw[c]
     simp
    ·have:decide (s<((j+1:Nat):Int))=decide (s<(j:Int)):=by rw[decide_eq_decide];lia
     rw[this]
  ·obtain⟨y,A⟩:=I
   have E:∀s t:Int,0<=s->s<n->0<=t->t<n->(lb f s t=true↔lb B s t=true\/(lb B s i=true/\lb B i t=true)):=λs t o w m l=>by
    rw[A s t o w m l,decide_eq_true (by lia)]
    simp
   rw[aj]
   refine⟨y,λs t o w m l h=>(E s t o w m l).mpr (.inl (L s t o w m l h)),λs t o w m l h=>?_,λv s t K v1 o w m l Q P=>?_⟩
   ·rcases(E s t o w m l).mp h with h|⟨h,k⟩
    ·exact D s t o w m l h
    ·exact⟨(D s i o w z C h).1,(D s i o w z C h).2.trans (D i t z C m l k).2⟩
   ·refine(E s t o w m l).mpr ?_
    by_cases e:v=i
    ·subst e
     exact .inr ⟨((E s i o w z C).mp Q).elim id And.left,((E i t z C m l).mp P).elim id And.right⟩
    ·have vi:v<(i:Int):=by lia
     have X:v<n:=by lia
     have T:=λs t=>O v s t K vi
     rcases(E s v o w K X).mp Q with a|⟨a,b⟩<;>rcases(E v t K X m l).mp P with c|⟨c,d⟩
     ·exact .inl (T s t o w m l a c)
     ·exact .inr ⟨T s i o w z C a c,d⟩
     ·exact .inr ⟨a,T i t z C m l b c⟩
     ·exact .inr ⟨a,d⟩
 ·obtain⟨lw,R,so,tr⟩:=N
  rw[aj]
  refine⟨lw,λs t o w m l=>⟨so s t o w m l,λ⟨S,h⟩=>?_⟩⟩
  induction h with
  |one a b=>exact R _ _ o w m l (wu.mpr ⟨S,b,a⟩)
  |@step s u t a b p ih =>
   obtain⟨z,M⟩:=hU u b
   exact tr u s t z (by lia) o w m l (R s u o w z M (wu.mpr ⟨S,b,a⟩)) (ih z M m l ⟨b,p⟩ b)
theorem zQh{r:List Bool}(d:(r.length:Int)=n)(c:∀x∈xs,0<=x/\x<n)(f:xs.length<=1000):vW r xs=some (xs.any λt=>r.getD t.toNat false):=by
 unfold vW
 have e:((some xs).bind λxs=>aK (λ(a:Int)=>L2.aU r a) (λ(a:Int)=>some a) xs)=some (xs.filter λt=>r.getD t.toNat false):=by
  show aK _ _ xs=_
  rw[xJ (g:=λx=>x) (yO f) (λt b=>zW5 d (c t b).1 (c t b).2) (λ_ _=>rfl),map_id']
 rw[e]
 show some (decide ((0:Int)<_))=_
 congr 1
 rw[ab1,any_eq_true]
 constructor
 ·simp_all
 ·simp_all
def gd(led:List (List Bool))(b:List LI)(t:Int):Bool:=lb led t t&&b.all λF=>F.any λf=>lb led f t&&lb led t f
theorem I8(hl:(xss.length:Int)=n)(n1:1<=n)(J:n<=60)(Q:wI n a)(rU:aG n U):W (J9 xss a U) λR=>aG n R/\∀s,s∈R↔s∈U/\∃b∈U,R_ xss a U b/\Rc xss U s b:=by
 have rl:=xC rU J
 unfold J9
 rw[zC]
 refine(zQn hl n1 J rU.2).imp λled w=>?_
 have C:=w.lw
 rw[zC,aj,zC,zC,aj]
 refine wN (λi z=>z=(U.take i).filter (gd led a)) rfl (λi t z hi L=>?_) λz L=>?_
 ·obtain⟨H,G⟩:=rU.2 t (mem_of_getElem? hi)
  subst L
  rw[zC,C.at2 H G H G,aj,zC,zC,aj]
  refine wN (λj b=>b=(lb led t t&&(a.take j).all λF=>F.any λf=>lb led f t&&lb led t f)) (by simp) (λj F b X l=>?_) λb l=>?_
  ·have k:=Q.2 F (mem_of_getElem? X)
   have e:((some F).bind λxs=>aK (λ(y:Int)=>(L2.aU led y).bind λO=>L2.aU O t) (λ(y:Int)=>some y) xs)=some (F.filter λf=>lb led f t):=by
    show aK _ _ F=_
    rw[xJ (p:=λf=>lb led f t) (g:=λx=>x) (yO (by have:=k.2.1;lia)) (λf h=>C.at2 (k.2.2 f h).1 (k.2.2 f h).2 H G) (λ_ _=>rfl),map_id']
   rw[zC,e,aj,zC]
   have q:(if b=true then(((L2.aU led t).bind λP=>some ((P,((F.filter λf=>lb led f t),())))).bind λE=>vW E.1 E.2.1) else some false)=some (b&&F.any λf=>lb led f t&&lb led t f):=by
    cases b with
    |false=>rfl
    |true =>
     rw[if_pos rfl,C.at1 H G]
     show vW (tZ led t) _=_
     rw[zQh (C.rlen H G) (λx h=>k.2.2 x (mem_filter.mp h).1) (aa1 (length_filter_le ..) (by have:=k.2.1;lia))]
     congr 1
     rw[Bool.true_and,ab1,any_eq_true,any_eq_true]
     constructor
     ·rintro⟨x,K,I⟩
      obtain⟨N,M⟩:=mem_filter.mp K
      exact⟨x,N,by rw[M];exact I⟩
     ·rintro⟨x,K,I⟩
      obtain⟨N,M⟩:=(abn _ _).mp I
      exact⟨x,mem_filter.mpr ⟨K,N⟩,M⟩
   rw[q,aj,aj,l,R9 X,List.all_append]
   simp[Bool.and_assoc]
  ·rw[take_length] at l
   have hg:b=gd led a t:=l
   rw[hg,zC,zVz hi]
   by_cases c:gd led a t=true
   ·rw[c,if_pos rfl,if_pos rfl,zC,Ek]
    exact⟨yO (aa1 (length_filter_le ..) (by rw[length_take];lia)),by rw[aj,aj]⟩
   ·rw[if_neg c,if_neg c,aj,aj,append_nil]
 ·rw[take_length] at L
  subst L
  rw[zC,aj]
  have gr:∀x∈U.filter (gd led a),0<=x/\x<n:=λx h=>rU.2 x (mem_filter.mp h).1
  have gl:(U.filter (gd led a)).length<=1000:=aa1 (length_filter_le ..) (by lia)
  rw[xJ (p:=λs=>decide (s∈U.filter (gd led a))||(U.filter (gd led a)).any λb=>lb led s b) (g:=λx=>x) (yO (by lia)) (λs hs=>?_) (λ_ _=>rfl),map_id',aj]
  ·have d:∀b∈U,(gd led a b=true↔R_ xss a U b):=λb l=>by
    obtain⟨o,m⟩:=rU.2 _ l
    unfold gd
    rw[abn,w.iff b b o m o m,and_iff_right l,all_eq_true]
    constructor
    ·rintro⟨p,h⟩
     refine⟨p,λF k=>?_⟩
     obtain⟨x,Y,x2⟩:=any_eq_true.mp (h F k)
     obtain⟨x3,x4⟩:=(abn _ _).mp x2
     have u:=(Q.2 F k).2.2 x Y
     exact⟨x,Y,((w.iff b x o m u.1 u.2).mp x4).2.rc,((w.iff x b u.1 u.2 o m).mp x3).2.rc⟩
    ·rintro⟨p,h⟩
     refine⟨p,λF k=>?_⟩
     obtain⟨x,Z,S,r2⟩:=h F k
     have u:=(Q.2 F k).2.2 x Z
     have p1:jC xss U b x:=S.VN.elim (λe=>e▸p) id
     have p2:jC xss U x b:=r2.VN.elim (λe=>by rw[<-e];exact e▸p) id
     exact any_eq_true.mpr ⟨x,Z,by rw[(w.iff x b u.1 u.2 o m).mpr ⟨S.mem l,p2⟩,(w.iff b x o m u.1 u.2).mpr ⟨l,p1⟩];rfl⟩
   refine⟨yY rU _,λs=>?_⟩
   rw[mem_filter,ac6,decide_eq_true_iff,any_eq_true]
   constructor
   ·rintro⟨v,h|⟨b,K,I⟩⟩
    ·exact⟨v,s,v,(d s v).mp (mem_filter.mp h).2,.here⟩
    ·obtain⟨A,bg⟩:=mem_filter.mp K
     obtain⟨D,B⟩:=rU.2 _ v
     obtain⟨o,m⟩:=rU.2 _ A
     exact⟨v,b,A,(d b A).mp bg,((w.iff s b D B o m).mp I).2.rc⟩
   ·rintro⟨v,b,A,l,r⟩
    obtain⟨D,B⟩:=rU.2 _ v
    obtain⟨o,m⟩:=rU.2 _ A
    have T:=mem_filter.mpr ⟨A,(d b A).mpr l⟩
    refine⟨v,?_⟩
    rcases r.VN with e|p
    ·subst e;exact .inl T
    ·exact .inr ⟨b,T,(w.iff s b D B o m).mpr ⟨v,p⟩⟩
  ·obtain⟨D,B⟩:=rU.2 _ hs
   by_cases c:s∈U.filter (gd led a)
   ·rw[if_pos (decide_eq_true c),decide_eq_true c];rfl
   ·rw[if_neg (by rw[decide_eq_false c];decide),decide_eq_false c,C.at1 D B]
    show vW (tZ led s) _=_
    rw[zQh (C.rlen D B) gr gl]
    rfl
end
end Ts
set_option maxHeartbeats 40000000
namespace Ts
open PySem L2 Sy
section
variable{P:Program}{w:World}{K:Frag}{mg:Str->Option Value}{base:Heap}
seal L2.PE L2.PT L2.PW L2.PA L2.PS L2.nU L2.PC L2.PG L2.DP L2.PI L2.ql L2.PO
def Yp(C:Addr)(cl:Hd->Addr)(q0:Mp)(ch:gn×Unit):Option Bool:=(Oa (sY q0.ns none (some (60:Int)))).bind λDr=>(VD Dr ).bind λv2=>(aU ([(22:Int),(8:Int)]) (if(decide ((7:Int)<(v2.1.a.length:Int)))=true then(1:Int) else 0)).bind λjw=>(some (sY v2.2 (some (-jw)) none)).bind λ_=>(λiw:gn=>(((some v2.1.a).bind λxs=>aK (λ(x6:LI)=>some true) (λ(x6:LI)=>some x6) xs).bind λa8=>((some v2.1.b).bind λxs=>aK (λ(x7:Str×LI)=>some true) (λ(x7:Str×LI)=>some (x7.1,x7.2)) xs).bind λa9=>RQ C a8 (some a9) (some v2.1.c)).bind λbO=>(RM cl iw).bind λbW=>((((uM (uf.mk v2.1.a v2.1.b v2.1.c)).bind λa13=>some ((a13,()))).bind λPb=>some (iw,Pb)).bind λVz=>Dn 7 Vz.1 Vz.2.1).bind λcT=>(xW bW).bind λjD=>(Ik bO bW).bind λrY=>((PJ rY cT).bind λa17=>some (!a17)).bind λb=>if b=true then some false else(push rY (v2.1.a.length:Int)).bind λwz=>(some (uf.mk ([[(1:Int)],[(0:Int)]]) ([(("wet":Str),[(1:Int)]),(("x":Str),[(0:Int)])]) (([]:List LI)))).bind λlM=>((((((RQ C lM.a (some lM.b) none).bind λa21=>some ((a21,(bW,())))).bind λz20=>Ik z20.1 z20.2.1).bind λa27=>(((((uM lM).bind λa23=>some ((a23,()))).bind λVB=>some (iw,VB)).bind λz22=>Dn 7 z22.1 z22.2.1).bind λa26=>some ((a26,()))).bind λb28=>some (a27,b28)).bind λz25=>PJ z25.1 z25.2.1).bind λa29=>some (!a29)).bind λb=>if b=true then some false else(((xW bW).bind λa30=>some (!decide (a30=jD))).bind λc31=>if c31=true then some true else if(!decide (bO.steps=v2.1.a))=true then some true else if(!decide (bO.marks=v2.1.b))=true then some true else some (!decide (bO.fair=v2.1.c))).bind λb=>if b=true then some false else((Ik bO bW).bind λa33=>some ((a33,(cT,())))).bind λz32=>PJ z32.1 z32.2.1) ch.1
def Ks(C:Addr)(cl:Hd->Addr)(_:Mp):Option Bool:=some true
end
theorem Qo{C:Addr}{m:aF C}{n:Int}(g:Gr m n)(c:wI n m.fair){U:LI}(a:aG n U)(s:Int):s∈co m U↔s∈U/\∃b∈U,R_ m.steps m.fair U b/\Rc m.steps U s b:=by
 obtain⟨R,e,_,h⟩:=zQl g c a
 have ec:co m U=R:=by
  unfold co
  grind
 grind
theorem zIt{C:Addr}{m:aF C}{n:Int}(g:Gr m n)(b:wI n m.fair){U:LI}(a:aG n U):J9 m.steps m.fair U=some (co m U):=by
 apply fJ
 refine(I8 g.len g.pos g.few b a).imp λR ⟨c,d⟩=>?_
 exact Ka c.1 (Qf g b a).2.1 λs=>by rw[d,Qo g b a]
theorem zQf{xs ys:LI}(h:xs.length<=1000):PB xs ys=some (xs.any λt=>decide (t∈ys)):=by
 apply fJ
 unfold PB
 rw[zC,zC,zC,aj,Xe (λt=>decide (t∈ys)) (λx=>x)]
 refine⟨yO h,?_⟩
 rw[aj,aj,ab1]
 constructor
 ·simp_all
 ·simp_all
def gs(xss:List LI)(n:Int)(U S:LI):LI:=pick n λs=>decide (s∈S)||(decide (s∈U)&&into xss S s)
def lack(n:Int)(S:LI):Nat:=(rng n).countP λs=>!decide (s∈S)
theorem I9{n:Int}{S c:LI}(h:∀s∈S,s∈c){x:Int}(x0:0<=x)(d:x<n)(h1:x∈c)(h2:x∉S):lack n c<lack n S:=by
 unfold lack
 obtain⟨a,b,e⟩:=List.append_of_mem (cV.mpr ⟨x0,d⟩)
 have m:∀l:LI,(l.countP λs=>!decide (s∈c))<=l.countP λs=>!decide (s∈S):=λl=>List.countP_mono_left λy _ hy=>by
  grind
 grind
section
variable{C:Addr}{cl:Hd->Addr}{m:aF C}{n:Int}
theorem zRf(g:Gr m n){s:Int}(a:0<=s)(b:s<n):(nxt m.steps s).length<=60:=by
 obtain⟨_,c,rg⟩:=g.row _ (mem_of_getElem? (PK g.len a b))
 have n60:=g.few
 have:=wM (n:=n.toNat) c λx hx=>by grind
 lia
theorem zSt(g:Gr m n){U G:LI}(hU:aG n U)(H:aG n G):R3 m.steps U G=some (cm m U G):=by
 apply fJ
 have rl:=Iz g.few (by have:=g.pos;lia)
 have n1:=g.pos
 unfold R3
 rw[zC,aj,zC,g.len,zRg (by lia) g.few,zC,aj]
 refine wN (λi S=>aG n S/\(∀s∈S,Al m.steps U G s)/\(∀s∈G,s∈S)/\(lack n S+i<=n.toNat\/∀s,0<=s->s<n->s∈U->into m.steps S s=true->s∈S)) ⟨H,λs h=>.here h,λ_ h=>h,.inl ?_⟩ (λi x S hi D=>?_) λS D=>?_
 ·have e:(rng n).length=n.toNat:=by have:=vO (n:=n) (by lia);lia
  rw[<-e]
  exact List.countP_le_length
 ·obtain⟨k,y,E,B⟩:=D
  have lS:=xC k g.few
  have e:aK (λ(v:Int)=>if(decide (v∈S))=true then some true else if(decide (v∈U))=true then((L2.aU m.steps v).bind λa8=>some ((a8,(S,())))).bind λz7=>PB z7.1 z7.2.1 else some false) (λ(v:Int)=>some v) (rng n)=some (gs m.steps n U S):=by
   rw[xJ (p:=λs=>decide (s∈S)||(decide (s∈U)&&into m.steps S s)) (g:=λx=>x) (yO (by lia)) (λs hs=>?_) (λ_ _=>rfl),map_id']
   ·rfl
   ·obtain⟨r,u⟩:=cV.mp hs
    by_cases a:s∈S
    ·rw[if_pos (decide_eq_true a),decide_eq_true a];rfl
    ·rw[if_neg (by rw[decide_eq_false a];decide),decide_eq_false a]
     by_cases b:s∈U
     ·rw[if_pos (decide_eq_true b),decide_eq_true b,JD r,PK g.len r u]
      exact zQf (aa1 (zRf g r u) (by decide))
     ·rw[if_neg (by rw[decide_eq_false b];decide),decide_eq_false b];rfl
  rw[zC,zC,aj,e,aj,aj]
  have o:∀s,s∈gs m.steps n U S↔0<=s/\s<n/\(s∈S\/s∈U/\into m.steps S s=true):=λs=>by
   unfold gs
   rw[fj,ac6,abn,decide_eq_true_iff,decide_eq_true_iff]
  have w:∀s∈S,s∈gs m.steps n U S:=λs h=>(o s).mpr ⟨(k.2 s h).1,(k.2 s h).2,.inl h⟩
  refine⟨yX n _,λs h=>?_,λs h=>w s (E s h),?_⟩
  ·rcases((o s).mp h).2.2 with h|⟨h1,h2⟩
   ·exact y s h
   ·obtain⟨t,A,t2⟩:=any_eq_true.mp h2
    exact .on h1 A (y t (of_decide_eq_true t2))
  ·by_cases c:∀s,0<=s->s<n->s∈U->into m.steps S s=true->s∈S
   ·have e:gs m.steps n U S=S:=Ka (yX n _).1 k.1 λs=>by
     rw[o]
     exact⟨(by rintro⟨a,b,h⟩;exact h.elim id λh=>c s a b h.1 h.2),λh=>⟨(k.2 s h).1,(k.2 s h).2,.inl h⟩⟩
    rw[e]
    exact .inr c
   ·rcases B with l|q
    ·have:∃x,0<=x/\x<n/\x∈U/\into m.steps S x=true/\x∉S:=adh λne=>c λs a b d e=>adh λf=>ne ⟨s,a,b,d,e,f⟩
     obtain⟨x,x0,F,xU,xi,xS⟩:=this
     have:=I9 w x0 F ((o x).mpr ⟨x0,F,.inr ⟨xU,xi⟩⟩) xS
     exact .inl (by lia)
    ·exact absurd q c
 ·obtain⟨k,y,E,B⟩:=D
  have q:=Yo g hU H
  rw[aj]
  have cl:∀s,0<=s->s<n->s∈U->into m.steps S s=true->s∈S:=by
   rcases B with l|c
   ·have e:(rng n).length=n.toNat:=by have:=vO (n:=n) (by lia);lia
    intro s r u _ _
    have z:lack n S=0:=by lia
    have:=List.countP_eq_zero.mp z s (cV.mpr ⟨r,u⟩)
    simpa using this
   ·exact c
  refine Ka k.1 q.2.1.1 λs=>?_
  rw[q.2.2]
  refine⟨λh=>⟨(k.2 s h).1,(k.2 s h).2,y s h⟩,λ⟨r,u,h⟩=>?_⟩
  induction h with
  |here h=>exact E _ h
  |@on s t sU tn p ih =>
   obtain⟨t0,A⟩:=zSb g r u t tn
   exact cl s r u sU (any_eq_true.mpr ⟨t,tn,decide_eq_true (ih ⟨t0,A,p⟩ t0 A)⟩)
structure pY(m:aF C)(n:Int)(L:LI)(A:mX):Prop where
 steps:A.steps=m.steps
 fair:A.fair=m.fair
 every:A.every=rng n
 alive:A.alive=L
 marks:∀x,X6 A x=(yJ m x).getD []
theorem Yq{S:LI}(a:n<=60)(h0:0<=n):xB (rng n) S=some (nt n S):=by
 apply fJ
 have rl:=Iz a h0
 unfold xB
 rw[zC,aj,Xe (λx=>!decide (x∈S)) (λx=>x),map_id']
 exact⟨yO (by lia),rfl⟩
theorem Ku(c:Int->Bool){xs:LI}(h:xs.length<=1000):((some xs).bind λxs=>aK (λx=>some (c x)) (λx=>some x) xs)=some (xs.filter c):=by
 apply fJ
 rw[zC,aj,Xe c (λx=>x),map_id']
 exact⟨yO h,rfl⟩
theorem zNn{A B:LI}(a:aG n A)(b:aG n B):A.filter (λz=>decide (z∈B))=B.filter λz=>decide (z∈A):=Ka (yY a _).1 (yY b _).1 λs=>by
 rw[mem_filter,mem_filter,decide_eq_true_iff,decide_eq_true_iff]
 exact And.comm
theorem zSe(g:Gr m n){L X Y:LI}{A:mX}(a:pY m n L A)(b:aG n L)(d:aG n X)(c:aG n Y):wD A X Y=some (st m L X Y):=by
 apply fJ
 unfold wD
 rw[a.alive,Ku (λx=>decide (x∈L)) (aa1 (xC c g.few) (by decide)),zNn c b,a.steps,zC,zC,zC,zC,aj,aj,aj,aj]
 dsimp only
 rw[zSt g d (yY b _),aj]
 unfold st
 rfl
theorem zXj(g:Gr m n)(f:wI n m.fair){L X Y:LI}{A:mX}(a:pY m n L A)(l:aG n L)(hX:aG n X)(hY:aG n Y):wX A X Y=some (et m n L X Y):=by
 have n1:=g.pos
 have c:=Dp (n:=n) Y
 have lN:=xC c g.few
 have e:aG n (Kl n L X Y):=yY (yY l _) _
 have o:((some (nt n Y)).bind λk=>aK (λ(d:Int)=>if(!decide (d∈X))=true then some (decide (d∈L)) else some false) (λ(d:Int)=>some d) k)=some (Kl n L X Y):=by
  show aK _ _ (nt n Y)=_
  rw[xJ (p:=λz=>!decide (z∈X)&&decide (z∈L)) (g:=λx=>x) (yO (by lia)) (λz _=>by cases q:!decide (z∈X)<;>simp) (λ_ _=>rfl),map_id']
  congr 1
  refine Ka (yY c _).1 e.1 λs=>?_
  unfold Kl
  rw[mem_filter,mem_filter,mem_filter,abn,decide_eq_true_iff,decide_eq_true_iff]
  exact⟨λ⟨p,q,r⟩=>⟨⟨r,p⟩,q⟩,λ⟨⟨r,p⟩,q⟩=>⟨p,q,r⟩⟩
 have i:=Yo g c e
 have j:=Qf g f c
 have lc:=xC i.2.1 g.few
 have lo:=xC j.2 g.few
 apply fJ
 unfold wX
 rw[a.every,zC,aj,zC,Yq g.few (by lia),aj,zC,a.alive,o,aj,zC,zC,a.steps,zSt g c e,aj,zC,a.fair,zIt g f c,aj]
 unfold G9
 rw[if_pos (acv (yO (by lia))),aj,Yq g.few (by lia),aj]
 unfold et
 refine Ka (Dp _).1 (Dp _).1 λs=>?_
 rw[zXe,zXe]
 unfold tg
 rw[fj,ac6,decide_eq_true_iff,decide_eq_true_iff,mem_append]
 exact⟨(by rintro⟨a,b,h⟩;exact⟨a,b,λq=>h q.2.2⟩),(by rintro⟨a,b,h⟩;exact⟨a,b,λq=>h ⟨a,b,q⟩⟩)⟩
theorem zXf(g:Gr m n){L X:LI}{A:mX}(a:pY m n L A)(e:aG n L)(c:aG n X):wW A X=some (sn m n L X):=by
 have rl:=Iz g.few (by have:=g.pos;lia)
 unfold wW
 rw[a.alive,Ku (λx=>decide (x∈L)) (aa1 (xC c g.few) (by decide)),zNn c e,a.every,a.steps]
 show aK _ _ (rng n)=_
 rw[xJ (p:=into m.steps (L.filter λz=>decide (z∈X))) (g:=λx=>x) (yO (by lia)) (λs f=>?_) (λ_ _=>rfl),map_id']
 ·rfl
 ·obtain⟨b,d⟩:=cV.mp f
  rw[JD b,PK g.len b d]
  exact zQf (aa1 (zRf g b d) (by decide))
theorem Qp:∀i:Fin 7,¬w1 i=("all":Str)/\¬w1 i=("mark":Str)/\¬w1 i=("both":Str)/\¬w1 i=("either":Str)/\(i≠0->¬w1 i=("not":Str)):=by decide +kernel
theorem Qq:∀i:Fin 4,¬w2 i=("all":Str)/\¬w2 i=("mark":Str)/\¬w2 i=("not":Str)/\(i≠0->¬w2 i=("both":Str))/\(i≠1->¬w2 i=("either":Str)):=by decide +kernel
theorem V2(g:Gr m n)(h:wI n m.fair){L S:LI}{A:mX}(a:pY m n L A)(d:aG n L)(e:aG n S)(i:Fin 7)(h0:i≠0):uY (w1 i) A [S]=some (one m n L i S):=by
 have n1:=g.pos
 have f:=Qc n
 have c:L2.aU [S] (0:Int)=some S:=rfl
 have w:∀X,xB (rng n) X=some (nt n X):=λX=>Yq g.few (by lia)
 apply fJ
 unfold uY
 rw[zC,aj,a.every]
 rcases f7 i with rfl|rfl|rfl|rfl|rfl|rfl|rfl
 ·exact absurd rfl h0
 ·refine qe (by decide +kernel) ?_
  rw[zC,zC,zC,c,aj,aj,aj]
  dsimp only
  rw[zXf g a d e,on1]
  exact aj.mpr rfl
 ·refine zX (by decide +kernel) (qe (by decide +kernel) ?_)
  rw[zC,zC,zC,zC,zC,zC,zC,zC,zC,c,aj,aj,aj]
  dsimp only
  rw[w,aj,aj,aj]
  dsimp only
  rw[zXf g a d (Dp S),aj,aj,aj]
  dsimp only
  rw[w,on2]
  exact aj.mpr rfl
 ·refine zX (by decide +kernel) (zX (by decide +kernel) (zX (by decide +kernel) (zX (by decide +kernel) (qe (by decide +kernel) ?_))))
  rw[zC,zC,zC,zC,c,aj,aj,aj,aj]
  dsimp only
  rw[a.steps,a.fair,zIt g h e,on3]
  exact aj.mpr rfl
 ·refine zX (by decide +kernel) (zX (by decide +kernel) (zX (by decide +kernel) (zX (by decide +kernel) (zX (by decide +kernel) (qe (by decide +kernel) ?_)))))
  rw[zC,zC,zC,zC,zC,zC,zC,zC,zC,zC,c,aj,aj,aj]
  dsimp only
  rw[w,aj,aj,aj,aj]
  dsimp only
  rw[zSe g a d f (Dp S),aj,aj,aj]
  dsimp only
  rw[w,on4]
  exact aj.mpr rfl
 ·refine zX (by decide +kernel) (zX (by decide +kernel) (zX (by decide +kernel) (zX (by decide +kernel) (zX (by decide +kernel) (zX (by decide +kernel) (qe (by decide +kernel) ?_))))))
  rw[zC,zC,zC,zC,c,aj,aj,aj,aj]
  dsimp only
  rw[zSe g a d f e,on5]
  exact aj.mpr rfl
 ·refine zX (by decide +kernel) (zX (by decide +kernel) (zX (by decide +kernel) (zX (by decide +kernel) (zX (by decide +kernel) (zX (by decide +kernel) (zX (by decide +kernel) ?_))))))
  rw[zC,zC,zC,zC,c,aj,aj,aj,aj]
  dsimp only
  rw[zXj g h a d f e,on6]
  exact aj.mpr rfl
theorem V3(g:Gr m n)(l:wI n m.fair){L X Y:LI}{A:mX}(a:pY m n L A)(f:aG n L)(h:aG n X)(e:aG n Y)(i:Fin 4)(h0:i≠0)(j:i≠1):uY (w2 i) A [X,Y]=some (two m n L i X Y):=by
 have d:L2.aU [X,Y] (0:Int)=some X:=rfl
 have c:L2.aU [X,Y] (1:Int)=some Y:=rfl
 apply fJ
 unfold uY
 rw[zC,aj]
 rcases f4 i with rfl|rfl|rfl|rfl
 ·exact absurd rfl h0
 ·exact absurd rfl j
 ·refine zX (by decide +kernel) (zX (by decide +kernel) (qe (by decide +kernel) ?_))
  rw[zC,zC,zC,d,aj,zC,zC,c,aj,aj,aj,aj]
  dsimp only
  rw[zSe g a f h e,tw2]
  exact aj.mpr rfl
 ·refine zX (by decide +kernel) (zX (by decide +kernel) (zX (by decide +kernel) (qe (by decide +kernel) ?_)))
  rw[zC,zC,zC,d,aj,zC,zC,c,aj,aj,aj,aj]
  dsimp only
  rw[zXj g l a f h e,tw3]
  exact aj.mpr rfl
theorem Yr(g:Gr m n)(d:wI n m.fair)(o:∀mk∈m.marks,aG n mk.2){L:LI}{A:mX}(a:pY m n L A)(f:aG n L):∀(k:Nat)(t:Tr),t.depth<k->W (Dn k (gn.mk t) A) (· = vv m n L t)
 |0,t,h=>absurd h (ab7 _)
 |k+1,.all,h=>by
  show W (Dm (Dn k) (gn.mk .all) A) _
  unfold Dm
  rw[zC,aj]
  refine qe (by decide +kernel) ?_
  rw[aj,Ql]
  exact a.every
 |k+1,.mark x,h=>by
  show W (Dm (Dn k) (gn.mk (.mark x)) A) _
  unfold Dm
  rw[zC,aj]
  refine zX (show¬decide (("mark":Str) = "all")=true by decide +kernel) (qe (show decide (("mark":Str) = "mark")=true by decide +kernel) ?_)
  show W (some (X6 A x)) _
  rw[aj,a.marks,vv]
 |k+1,.one i t,h=>by
  have ih:=fJ (Yr g d o a f k t (by have h:t.depth+1<k+1:=h;lia))
  have rt:=Ez g d o f t
  obtain⟨h1,D,B,h4,w⟩:=Qp i
  show W (Dm (Dn k) (gn.mk (.one i t)) A) _
  unfold Dm
  rw[zC,aj]
  refine zX (show¬decide (w1 i=("all":Str))=true by rw[decide_eq_false h1];decide) (zX (show¬decide (w1 i=("mark":Str))=true by rw[decide_eq_false D];decide) ?_)
  rw[zC]
  show W (aK _ _ [gn.mk t]) _
  rw[xJ (p:=λ_=>true) (g:=λx:gn=>vv m n L x.t) (yO (by simp)) (λ_ _=>rfl) (λx q=>by cases mem_singleton.mp q;exact ih),aj,Qj,show(List.map (λx:gn=>vv m n L x.t) (List.filter (λ_=>true) [gn.mk t]))=[vv m n L t] from rfl]
  show W (if(decide (w1 i=("not":Str)))=true then _ else if(decide (w1 i=("both":Str)))=true then _ else if(decide (w1 i=("either":Str)))=true then _ else uY (w1 i) A [vv m n L t]) _
  by_cases e:i=0
  ·subst e
   refine qe (by decide +kernel) ?_
   rw[zC,zC,zC,show L2.aU [vv m n L t] (0:Int)=some (vv m n L t) from rfl,aj,aj,aj,a.every]
   dsimp only
   rw[Yq g.few (by have:=g.pos;lia),on0]
   exact aj.mpr rfl
  ·refine zX (by rw[decide_eq_false (w e)];decide) (zX (by rw[decide_eq_false B];decide) (zX (by rw[decide_eq_false h4];decide) ?_))
   rw[V2 g d a f rt i e]
   exact aj.mpr rfl
 |k+1,.two i l r,h=>by
  have h:max l.depth r.depth+1<k+1:=h
  have il:=fJ (Yr g d o a f k l (by lia))
  have ir:=fJ (Yr g d o a f k r (by lia))
  have rl:=Ez g d o f l
  have rr:=Ez g d o f r
  have rn:=Iz g.few (by have:=g.pos;lia)
  obtain⟨h1,D,B,h4,w⟩:=Qq i
  have v:L2.aU [vv m n L l,vv m n L r] (0:Int)=some (vv m n L l):=rfl
  have at1:L2.aU [vv m n L l,vv m n L r] (1:Int)=some (vv m n L r):=rfl
  show W (Dm (Dn k) (gn.mk (.two i l r)) A) _
  unfold Dm
  rw[zC,aj]
  refine zX (show¬decide (w2 i=("all":Str))=true by rw[decide_eq_false h1];decide) (zX (show¬decide (w2 i=("mark":Str))=true by rw[decide_eq_false D];decide) ?_)
  rw[zC]
  show W (aK _ _ [gn.mk l,gn.mk r]) _
  rw[xJ (p:=λ_=>true) (g:=λx:gn=>vv m n L x.t) (yO (by simp)) (λ_ _=>rfl) (λx q=>by
   rcases mem_cons.mp q with rfl|q
   ·exact il
   ·cases mem_singleton.mp q;exact ir),aj,Qk,show(List.map (λx:gn=>vv m n L x.t) (List.filter (λ_=>true) [gn.mk l,gn.mk r]))=[vv m n L l,vv m n L r] from rfl]
  refine zX (show¬decide (w2 i=("not":Str))=true by rw[decide_eq_false B];decide) ?_
  show W (if(decide (w2 i=("both":Str)))=true then(some A.every).bind λE=>aK (λ(u:Int)=>((L2.aU [vv m n L l,vv m n L r] (0:Int)).bind λb9=>some (decide (u∈b9))).bind λc11=>if c11=true then(L2.aU [vv m n L l,vv m n L r] (1:Int)).bind λb10=>some (decide (u∈b10)) else some false) (λ(u:Int)=>some u) E else if(decide (w2 i=("either":Str)))=true then(some A.every).bind λE=>aK (λ(c:Int)=>((L2.aU [vv m n L l,vv m n L r] (0:Int)).bind λIi=>some (decide (c∈Ii))).bind λc15=>if c15=true then some true else(L2.aU [vv m n L l,vv m n L r] (1:Int)).bind λy=>some (decide (c∈y))) (λ(c:Int)=>some c) E else uY (w2 i) A [vv m n L l,vv m n L r]) _
  rw[v,at1,a.every]
  by_cases e:i=0
  ·subst e
   refine qe (by decide +kernel) ?_
   rw[zC,aj,xJ (p:=λz=>decide (z∈vv m n L l)&&decide (z∈vv m n L r)) (g:=λx=>x) (yO (by lia)) (λz _=>by show(if decide (z∈vv m n L l)=true then _ else _)=_;cases decide (z∈vv m n L l)<;>rfl) (λ_ _=>rfl),map_id',aj,tw0]
   refine Ka (yX n _).1 (yY rl _).1 λs=>?_
   rw[mem_filter,mem_filter,abn,decide_eq_true_iff,decide_eq_true_iff]
   exact⟨λh=>h.2,λh=>⟨cV.mpr (rl.2 s h.1),h⟩⟩
  ·refine zX (by rw[decide_eq_false (h4 e)];decide) ?_
   by_cases e1:i=1
   ·subst e1
    refine qe (by decide +kernel) ?_
    rw[zC,aj,xJ (p:=λz=>decide (z∈vv m n L l)||decide (z∈vv m n L r)) (g:=λx=>x) (yO (by lia)) (λz _=>by show(if decide (z∈vv m n L l)=true then _ else _)=_;cases decide (z∈vv m n L l)<;>rfl) (λ_ _=>rfl),map_id',aj,tw1]
    rfl
   ·refine zX (by rw[decide_eq_false (w e1)];decide) ?_
    rw[V3 g d a f rl rr i e e1]
    exact aj.mpr rfl
theorem zXd{α β:Type}:∀{xs:List (α×β)}{a b:α×β},(xs.map (·.1)).Nodup->a∈xs->b∈xs->a.1=b.1->a=b
 |x::xs,a,b,f,c,d,e=>by
  rw[map_cons,nodup_cons] at f
  cases c with
  |head=>grind
  |tail _ c=>cases d with
   |head=>exact absurd (e▸mem_map.mpr ⟨_,c,rfl⟩) f.1
   |tail _ d=>exact zXd f.2 c d e
theorem V4(g:Gr m n)(a:wI n m.fair):RX m=some (co m (rng n)):=by
 apply fJ
 unfold RX
 rw[zC,zC,zC,Qa g,aj,aj,aj]
 rw[(Qf g a (Qc n)).1]
 exact aj.mpr rfl
theorem zWl(g:Gr m n)(s:wI n m.fair)(r:∀mk∈m.marks,aG n mk.2)(p:(m.marks.map (·.1)).Nodup)(ml:m.marks.length<=100):W (uM (uf.mk m.steps m.marks m.fair)) (pY m n (co m (rng n))):=by
 have n1:=g.pos
 have n60:=g.few
 have o:Er n=some (rng n):=by
  unfold Er
  rw[if_pos ⟨by lia,by omega⟩]
  rfl
 unfold uM
 rw[zC,g.len,o,aj,zC]
 refine wN (λi b=>b.length<=i/\∀x S,gK b (abo x)=some S↔(x,S)∈m.marks.take i) ⟨aa0 _,λx S=>⟨λh=>(by cases h),λh=>(by simp at h)⟩⟩ (λi y b d f=>?_) λb f=>?_
 ·obtain⟨kl,c⟩:=f
  have il:i<m.marks.length:=(aa8.mp d).1
  unfold iT
  rw[if_pos (yO (by lia)),aj]
  refine⟨aa1 (zRs _ _ _) (by lia),λx S=>?_⟩
  rw[zSv,take_add_one,d,mem_append]
  have l:y∈m.marks:=mem_of_getElem? d
  by_cases e:x=y.1
  ·subst e
   rw[if_pos rfl]
   constructor
   ·intro h;cases h;exact .inr (by simp)
   ·rintro(h|h)
    ·exact(congrArg (λz:Str×LI=>some z.2) (zXd (a:=(y.1,S)) p (mem_of_mem_take h) l rfl)).symm
    ·have:(y.1,S)=y:=by simpa using h
     rw[<-this]
  grind
 ·obtain⟨_,c⟩:=f
  rw[take_length] at c
  rw[zC,zIt g s (Qc n),aj,aj]
  refine⟨rfl,rfl,rfl,rfl,λx=>?_⟩
  obtain⟨S,e,h⟩:=zMt g.few r x
  rw[e]
  show(gK b (abo x)).getD []=S
  rcases h with⟨mk,j,k,rfl⟩|⟨j,rfl⟩
  ·rw[(c x mk.2).mpr (by rw[<-k];exact j)]
   rfl
  ·cases q:gK b (abo x) with
   |none=>rfl
   |some S=>exact absurd rfl (j _ ((c x S).mp q))
theorem zKh(g:Gr m n)(b:wI n m.fair)(c:∀mk∈m.marks,aG n mk.2)(f:(m.marks.map (·.1)).Nodup)(e:m.marks.length<=100){t:Tr}(ht:t.depth<=6):∃S,Ik m (fH.mk (cl:=cl) t)=some S/\S.length<=60/\W (uM (uf.mk m.steps m.marks m.fair)) λA=>W (Dn 7 (gn.mk t) A) (· = S):=by
 have d:=(Qf g b (Qc n)).2
 refine⟨_,Qi g b c d (V4 g b) (show t.depth<9 by lia),xC (Ez g b c d t) g.few,?_⟩
 exact(zWl g b c f e).imp λA a=>Yr g b c a d 7 t (by lia)
theorem V5(t:Tr)(h:t.depth<=6):RM cl (gn.mk t)=some (fH.mk t):=by
 unfold RM
 grind
end
theorem zQg(xs:LI):W (PJ xs xs) (· = true):=by
 unfold PJ
 rw[zC,if_neg (show¬((!true)=true) by decide),aj,decide_eq_true rfl,ab2,if_neg (show¬(false=true) by decide),zC,zC,aj]
 refine GJ (λ_ _=>True) trivial (λi x _ _ _=>?_) λ_ _=>by rw[Cq,aj]
 rw[zC,if_neg (show¬(false=true) by decide),aj,if_neg (show¬(false=true) by decide),aj]
 exact⟨(),rfl,trivial⟩
theorem zSi(C:Addr)(cl:Hd->Addr)(scr:Mp)(ch:gn×Unit)(hch:ch.1.t.depth<=6/\True):Yp C cl scr ch=some true:=by
 apply fJ
 obtain⟨⟨t⟩,_⟩:=ch
 obtain⟨ht,_⟩:=hch
 have ht:t.depth<=6:=ht
 unfold Yp
 rw[zC]
 have c60:=V0 scr.ns
 unfold Oa
 rw[if_pos (yO (by lia)),aj,zC]
 refine(IW _).imp ?_
 rintro v ⟨n,D⟩
 obtain⟨⟨q,d,o⟩,rest⟩:=v
 obtain⟨n1,l,hl,hr,⟨A0,A1,A2,k,r,s,r2⟩,hf,f4⟩:=D
 dsimp only at hl hr k hf f4
 have y:(d.map (·.1)).Nodup:=by
  rw[k]
  show([("p":Str),"wet","darkness"]:List Str).Nodup
  decide +kernel
 have hm:∀f∈d,f=(("p":Str),A0)\/f=(("wet":Str),A1)\/f=(("darkness":Str),A2):=λf h=>by
  rw[k] at h
  simpa using h
 have mr:∀f∈d,aG n f.2:=λf h=>by
  rcases hm f h with rfl|rfl|rfl
  ·exact r
  ·exact s
  ·exact r2
 have ml:d.length<=100:=by rw[k];simp
 have mo:zMq n d:=⟨y,ml,λf h=>by
  rcases hm f h with rfl|rfl|rfl
  ·exact⟨pX.1,(show("p":Str).length<=1000 by decide +kernel),R8 r l⟩
  ·exact⟨pX.2.1,(show("wet":Str).length<=1000 by decide +kernel),R8 s l⟩
  ·exact⟨pX.2.2,(show("darkness":Str).length<=1000 by decide +kernel),R8 r2 l⟩⟩
 clear k hm
 have mo2:W (L2.aU ([(22:Int),(8:Int)]) (if(decide ((7:Int)<(q.length:Int)))=true then(1:Int) else 0)) λ_=>True:=by
  by_cases c:(decide ((7:Int)<(q.length:Int)))=true
  ·rw[if_pos c]
   exact⟨8,rfl,trivial⟩
  ·rw[if_neg c]
   exact⟨22,rfl,trivial⟩
 rw[zC]
 refine mo2.imp λmost _=>?_
 rw[zC,aj]
 dsimp only
 rw[zC,zC,zC,aj,M5 (λx=>x),map_id']
 refine⟨yO (by lia),?_⟩
 rw[zC,zC,aj,M5 (λx:Str×LI=>(x.1,x.2))]
 refine⟨yO (by lia),?_⟩
 rw[show(d.map λx=>(x.1,x.2))=d by simp]
 refine(Kd C (mo:=some d) (fo:=some o) hl n1 l (λxs w=>zLl (hr xs w)) mo hf).imp λm ⟨g,es,k,ef⟩=>?_
 have es:m.steps=q:=es
 have k:m.marks=d:=k
 have ef:m.fair=o:=ef
 subst es
 subst k
 subst ef
 obtain⟨S,q1,q2,q3⟩:=zKh (cl:=cl) g hf mr y ml ht
 rw[zC,V5 t ht,aj,zC,zC,zC,zC]
 refine q3.imp λA qA=>?_
 rw[aj,aj]
 refine qA.imp λS' e=>?_
 subst e
 have wd:xW (fH.mk (cl:=cl) t)=some (tG t):=by
  unfold xW
  rw[if_pos (show t.depth<9 by lia)]
 rw[zC,wd,aj,zC,q1,aj,zC,zC]
 refine(zQg S').imp λb e=>?_
 subst e
 rw[aj,ab2,if_neg (show¬(false=true) by decide),zC,Ek]
 refine⟨yO (by lia),?_⟩
 rw[zC,aj,zC,zC,zC,zC,zC,zC]
 have s:aG 2 [(1:Int)]:=⟨by simp,λx w=>by cases mem_singleton.mp w;decide⟩
 have r:aG 2 [(0:Int)]:=⟨by simp,λx w=>by cases mem_singleton.mp w;decide⟩
 have n2:vX "wet" = some true/\vX "x" = some true:=by decide +kernel
 have sm:∀f∈([(("wet":Str),[(1:Int)]),(("x":Str),[(0:Int)])]),f=(("wet":Str),[(1:Int)])\/f=(("x":Str),[(0:Int)]):=λf h=>by simpa using h
 have u:(([(("wet":Str),[(1:Int)]),(("x":Str),[(0:Int)])]).map (·.1)).Nodup:=by
  show([("wet":Str),"x"]:List Str).Nodup
  decide +kernel
 refine(Kd C (xss:=[[(1:Int)],[(0:Int)]]) (n:=2) (mo:=some [(("wet":Str),[(1:Int)]),(("x":Str),[(0:Int)])]) (fo:=none) rfl (by decide) (by decide) (λxs h=>?_) ⟨u,by simp,λf h=>?_⟩ ⟨by simp,λF h=>by cases h⟩).imp λm2 ⟨g2,es2,i,j⟩=>?_
 ·have h:xs=[1]\/xs=[0]:=by simpa using h
  rcases h with rfl|rfl
  ·exact zLl (zC3 s (by decide) (by simp))
  ·exact zLl (zC3 r (by decide) (by simp))
 ·rcases sm f h with rfl|rfl
  ·exact⟨n2.1,(show("wet":Str).length<=1000 by decide +kernel),R8 s (by decide)⟩
  ·exact⟨n2.2,(show("x":Str).length<=1000 by decide +kernel),R8 r (by decide)⟩
 have i:m2.marks=[(("wet":Str),[(1:Int)]),(("x":Str),[(0:Int)])]:=i
 have j:m2.fair=[]:=j
 obtain⟨S2,p1,_,p3⟩:=zKh (cl:=cl) g2 (by rw[j];exact⟨by simp,λF h=>by cases h⟩) (λf h=>by
  rw[i] at h
  rcases sm f h with rfl|rfl
  ·exact s
  ·exact r) (by rw[i];exact u) (by rw[i];simp) ht
 rw[aj]
 show W (Ik m2 (fH.mk (cl:=cl) t)) _
 rw[p1,aj,zC,zC,zC,zC,zC]
 rw[es2,i,j] at p3
 refine p3.imp λA2 qA2=>?_
 rw[aj,aj]
 refine qA2.imp λS3 e=>?_
 subst e
 rw[aj,aj]
 refine(zQg S3).imp λb e=>?_
 subst e
 rw[aj,ab2,if_neg (show¬(false=true) by decide),zC,zC,zC,aj,aj,decide_eq_true rfl,ab2,if_neg (show¬(false=true) by decide),decide_eq_true rfl,ab2,if_neg (show¬(false=true) by decide),decide_eq_true rfl,ab2,if_neg (show¬(false=true) by decide),aj,decide_eq_true rfl,ab2,if_neg (show¬(false=true) by decide),zC,zC,aj,aj]
 exact zQg S'
end Ts
set_option maxHeartbeats 40000000
namespace Ts
open PySem L2 Sy
section
variable{P:Program}{w:World}{K:Frag}{mg:Str->Option Value}{base:Heap}
seal L2.PE L2.PT L2.PW L2.PA L2.PS L2.nU L2.PC L2.PG L2.DP L2.PI L2.ql L2.PO
theorem Ds:ao ["_law_script","_law_rest","_law_steps","_law_marks","_law_fair","_law_most","_law_tree","_law_machine","_law_saying","_law_due_here","_law_words","_law_told","_law_small"] ["_law_script"] (zI qI):=fsc
abbrev V6(K:Frag)(C:Addr)(cl:Hd->Addr):Sp:=bY K false (λa:Mp×Unit=>([.z a.1]:SL K)) (λa=>Ks C cl a.1)
theorem Qs(F:aW K "law" "law" qI f fd)(B:Bl K mg)(T:Cl K mg C)(I:oE P w K mg base kS cl fi di)(MK:Mk K C fI)(GI:aq P w K mg base aN k0 fI Qt ["self","steps","marks","fair"] (qF K C (RQ C)))(bI1:Binds K Qt ["self","steps","marks","fair"] [.none])(bI0:Binds K Qt ["self","steps","marks","fair"] [])(mU:mg "reversed" = none)(bQ:qp P w K mg base (k0+1) cl "words" Dt (zA9 K cl))(jE:bw P w K mg base (k0+1) "_law_about" ["_law_drawn_here"] (zGx K))(mV:bw P w K mg base (k0+1) "_law_drawn" ["_law_rest"] (zK8 K))(jB:bw P w K mg base (k0+1) "_law_due" ["_law_tree","_law_about_here"] (zTx K))(mW:bw P w K mg base (k0+1) "_law_grown" ["_law_rest","_law_names","_law_deep"] (zK7 K))(pZ:bw P w K mg base (k0+1) "_law_made" ["_law_tree"] (zJa K cl))(lO:bw P w K mg base (k0+1) "_law_set" ["_law_found","_law_due_here"] (zTv K))(lQ:bw P w K mg base (k0+1) "holds" ["machine","saying"] (zTy K C cl)):aq P w K mg base aN ((k0+1)+1) f fd ["_law_script"] (V6 K C cl):=by
 refine yI F Ds (λ_=>rfl) (λ_=>rfl) λcdv A outer s H E hr=>?_
 have nd:=Ds.nd
 refine⟨_,(zB (BZ (i:=1) (own:=["_law_cell_here"]) (ix:=[]) nd rfl rfl rfl rfl rfl (Od K mU (zA (WR (Uv K) (pv 0) WL (WM zK)) zF)) (λC s H fp=>yE (i:=0) (show(["_law_cell_here"]:List Str).Nodup from by decide +kernel) rfl (Or.inl rfl)) (λC s H fp=>wJ) (λC s H fp=>(pv 0))) (zB (Jl (zY mV hr (zA (pv 1) zF)) (Fg rfl (yS (bV 2 nd) (yS (bV 3 nd) (yS (bV 4 nd) Bu))))) (zB (xA 5 nd (yD (aO K) (xY (zA zK (zA zK zF))) (vC zTh rfl B.int Z1 (zA (Lh Wt (zW (uA K) rfl B.len abe (zA (pv 2) zF)) zK (yK _)) zF)) (λ_ _=>rfl))) (zB (xA 6 nd (zY mW hr (zA (WR (Uv K) (pv 1) (WM (Bw YJ (pv 5))) WL) (zA (xY (zA zS (zA zS (zA zS (zA zS zF))))) (zA zK zF))))) (zB (xA 7 nd (vQ MK GI hr rfl T.mgC bI0 .nil xZ (zA (xH (own:=["_law_some"]) (ix:=[]) rfl rfl rfl (yL K (pv 2)) (λC s H fp=>yE (i:=0) (show(["_law_some"]:List Str).Nodup from by decide +kernel) rfl (Or.inl rfl)) (λC s H fp=>wJ) (λC s H fp=>(vC (GD K) rfl B.list Ej (zA (pv 0) zF)))) (zA (xH (own:=["_law_name","_law_some"]) (ix:=[]) rfl rfl rfl (yL K (pv 3)) (λC s H fp=>Zv (K:=K) (n:=2) rfl rfl (yS (yE (i:=0) (show(["_law_name","_law_some"]:List Str).Nodup from by decide +kernel) rfl (Or.inl rfl)) (yS (yE (i:=1) (show(["_law_name","_law_some"]:List Str).Nodup from by decide +kernel) rfl (Or.inl rfl)) Bu))) (λC s H fp=>wJ) (λC s H fp=>(uU (zA (pv 0) (zA (vC (GD K) rfl B.list Ej (zA (pv 1) zF)) zF))))) (zA (pv 4) zF))))) (zB (xA 8 nd (zY pZ hr (zA (pv 6) zF))) (zB (xA 9 nd (zY jB hr (zA (pv 6) (zA (zY jE hr (zA (uU (zA (pv 2) (zA (pv 3) (zA (pv 4) zF)))) zF)) zF)))) (zB (xA 10 nd (zXb bQ hr (pv 8))) (zB (xA 11 nd (zY lQ hr (zA (pv 7) (zA (pv 8) zF)))) (zB (yQ (KY (xO (zY lO hr (zA (pv 11) (zA (pv 9) zF))))) (zB (zN Bd) zG) zG) (zB (yP (Bk K abb abh abj wS (pv 11) (zA (zW (uA K) rfl B.len abe (zA (pv 2) zF)) zF))) (zB (xA 12 nd (uU (zA (xY (zA (xY (zA zK zF)) (zA (xY (zA zK zF)) zF))) (zA (xY (zA (uU (zA zS (zA (xY (zA zK zF)) zF))) (zA (uU (zA zS (zA (xY (zA zK zF)) zF))) zF))) (zA (xY zF) zF))))) (zB (yQ (KY (xO (zY lO hr (zA (zY lQ hr (zA (vQ MK GI hr rfl T.mgC bI1 (.cons (show RelV .non .none from rfl) .nil) xZ (zA (yD (qZ K) (pv 12) zK (λ_ _=>rfl)) (zA (yD (qZ K) (pv 12) zK (λ_ _=>rfl)) zF))) (zA (pv 8) zF))) (zA (zY jB hr (zA (pv 6) (zA (zY jE hr (zA (pv 12) zF)) zF))) zF))))) (zB (zN Bd) zG) zG) (zB (yQ (PW.pt (pw_or (zR (T8 K (List Str) hr) (zXb bQ hr (pv 8)) (pv 10) (yK _)) (pw_or (zR (T8 K (List LI) hr) (Cp K (pv 7)) (pv 2) (yK _)) (pw_or (zR (T8 K (List (Str×LI)) hr) (Cp K (pv 7)) (pv 3) (yK _)) (pw_or1 (zR (T8 K (List LI) hr) (Cp K (pv 7)) (pv 4) (yK _))))))) (zB (zN Bd) zG) zG) (zB (zN (zY lO hr (zA (zY lQ hr (zA (pv 7) (zA (pv 8) zF))) (zA (pv 9) zF)))) zG))))))))))))))),?_⟩
 rintro Fa ⟨q0,⟨⟩⟩
 refine Bp.sb (zIg (yh true 1 rfl rfl (Hw (zV6 (zD 0 rfl) (zP 60)).ex)) (λDr=>(XQ [.z q0,.ow true Dr,.un,.un,.un,.un,.un,.un,.un,.un,.un,.un,.un] (zIg (N8 (n:=true) (zV1 1 rfl rfl zL) (λ_=>Hv 2 3 4 rfl rfl (λ_=>rfl) rfl (λ_ _=>rfl) rfl)) (λv2=>(XQ [.z q0,.ow true v2.2,.y v2.1.a,.y v2.1.b,.y v2.1.c,.un,.un,.un,.un,.un,.un,.un,.un] (zIg (yR true 5 rfl rfl (esc (esc (yT (Gi (wU (esc (zP 22)) (wU (esc (zP 8)) Gh)) (λa h=>aa1 ((uP (uP GF)) a h) (by decide))).ex (GP (W7 (uW (zD 2 rfl)) (zP 7))))))) (λjw=>(XQ [.z q0,.ow true v2.2,.y v2.1.a,.y v2.1.b,.y v2.1.c,.y jw,.un,.un,.un,.un,.un,.un,.un] (zRa (d:=6) 6 rfl rfl (zV7 (Ce 1 rfl) (zSy (zH 5 rfl))) (Gi (wU (esc (wY "p")) (wU (esc (wY "wet")) (wU (esc (wY "darkness")) (wU (esc (wY "x")) Gh)))) (λa h=>aa1 ((uP (uP (uP (uP GF)))) a h) (by decide))).ex rfl (by decide) (zP 6) rfl (by decide) (λiw=>(XQ [.z q0,.ow true v2.2,.y v2.1.a,.y v2.1.b,.y v2.1.c,.y jw,.y iw,.un,.un,.un,.un,.un,.un] (Hy (zV (yR true 7 rfl rfl (zS5 (yU (n:=true) (fG:=[.un]) (no:=1) (ix:=[]) rfl rfl (yN (yM 2 rfl)) (yA 0 rfl rfl) (λx6=>u_) (λx6=>(Gs (zD 0 rfl)).ex) (λx6=>cU)).ex (yU (n:=true) (fG:=[.un,.un]) (no:=2) (ix:=[]) rfl rfl (yN (yM 3 rfl)) (Mv 0 1 rfl rfl (λ_=>rfl) rfl) (λx7=>u_) (λx7=>(W0 (zH 0 rfl) (Gs (zD 1 rfl)).ex)) (λx7=>cU)).ex (zD 4 rfl)).ex) (λbO=>(NZ [.z q0,.ow true v2.2,.y v2.1.a,.y v2.1.b,.y v2.1.c,.y jw,.y iw,.y bO,.un,.un,.un,.un,.un] (zV (yR true 8 rfl rfl (zJ (zE (zD 6 rfl) zL))) (λbW=>(NZ [.z q0,.ow true v2.2,.y v2.1.a,.y v2.1.b,.y v2.1.c,.y jw,.y iw,.y bO,.y bW,.un,.un,.un,.un] (zV (yR true 9 rfl rfl (zJ (zE (zD 6 rfl) (zE (zNt (zE (zMa (zD 2 rfl) (zD 3 rfl) (zD 4 rfl)) zL)) zL)))) (λcT=>(NZ [.z q0,.ow true v2.2,.y v2.1.a,.y v2.1.b,.y v2.1.c,.y jw,.y iw,.y bO,.y bW,.y cT,.un,.un,.un] (zV (yR true 10 rfl rfl (zNx I bQ (h0:=(zD 8 rfl))).ex) (λjD=>(NZ [.z q0,.ow true v2.2,.y v2.1.a,.y v2.1.b,.y v2.1.c,.y jw,.y iw,.y bO,.y bW,.y cT,.y jD,.un,.un] (zV (G8 11 rfl rfl (Gz (zE (zD 7 rfl) (zE (zD 8 rfl) zL)))) (λrY=>(NZ [.z q0,.ow true v2.2,.y v2.1.a,.y v2.1.b,.y v2.1.c,.y jw,.y iw,.y bO,.y bW,.y cT,.y jD,.ow true rY,.un] (xM (Mt (cg (md:=.hp) (zJ (zE (Ce 11 rfl) (zE (zD 9 rfl) zL))))) (zZ (esc (Bj false))) (zV (vN 11 rfl rfl (esc (uW (zD 2 rfl)))) (λwz=>(NZ [.z q0,.ow true v2.2,.y v2.1.a,.y v2.1.b,.y v2.1.c,.y jw,.y iw,.y bO,.y bW,.y cT,.y jD,.ow true wz,.un] (zV (yR true 12 rfl rfl (zMa (Gi (wU (Gi (wU (esc (zP 1)) Gh) (λa h=>aa1 ((uP GF) a h) (by decide))).ex (wU (Gi (wU (esc (zP 0)) Gh) (λa h=>aa1 ((uP GF) a h) (by decide))).ex Gh)) (λa h=>aa1 ((uP (uP GF)) a h) (by decide))).ex (Gi (wU (W0 (wY "wet") (Gi (wU (esc (zP 1)) Gh) (λa h=>aa1 ((uP GF) a h) (by decide))).ex) (wU (W0 (wY "x") (Gi (wU (esc (zP 0)) Gh) (λa h=>aa1 ((uP GF) a h) (by decide))).ex) Gh)) (λa h=>aa1 ((uP (uP GF)) a h) (by decide))).ex (zx (α:=LI)).ex)) (λlM=>(NZ [.z q0,.ow true v2.2,.y v2.1.a,.y v2.1.b,.y v2.1.c,.y jw,.y iw,.y bO,.y bW,.y cT,.y jD,.ow true wz,.y lM] (xM (Mt (cg (md:=.hp) (zJ (zE (zJ (zE (zS6 (HB (zD 12 rfl) (zP 0)) (HD (zD 12 rfl) (zP 1))).ex (zE (zD 8 rfl) zL))) (zE (zJ (zE (zD 6 rfl) (zE (zNt (zE (zD 12 rfl) zL)) zL))) zL))))) (zZ (esc (Bj false))) (xM (Ef (yF (md:=.hp) (T9 (zNx I bQ (h0:=(zD 8 rfl))).ex (zD 10 rfl))) (Ef (yF (md:=.hp) (T9 (Z4 T.cl T.nS (zD 7 rfl)) (zD 2 rfl))) (Ef (yF (md:=.hp) (T9 (zKo T.cl T.nM (zD 7 rfl)) (zD 3 rfl))) (yF (md:=.hp) (T9 (Z5 T.cl T.nF (zD 7 rfl)) (zD 4 rfl)))))) (zZ (esc (Bj false))) (zZ (esc (zJ (zE (zJ (zE (zD 7 rfl) (zE (zD 8 rfl) zL))) (zE (zD 9 rfl) zL)))))))))))))))))))))))))))))))))))))))))) ⟨(gn.mk .all,()),by show 0<=6;decide,trivial⟩ λch hch=>?_
 exact(show _=Yp C cl q0 ch by unfold Yp;simp only[bnd]).trans (zSi C cl q0 ch hch)
end
open PySem L2
theorem V7(h:aq P w K mg base aN k f m ["_law_rest"] (zJc K)):aq P w K mg base aN k f m ["_law_rest"] Sy.Vg:=aq.imp h λvs H Q E ⟨a,d,e,j,q⟩=>by
 subst e
 obtain⟨⟨z,c⟩,i,_⟩:=VP d
 refine⟨a,d,[],(),z,c,λ_=>none,rfl,j,rfl,(λb o e=>by cases e),i,.nil,λv p g l r=>?_⟩
 have r:v=.int z:=r
 subst r
 exact q z c p (λb o n e=>g b o (by unfold del;rw[if_neg n];exact e)) l
theorem zVn(C:Addr)(cl:Sy.Hd->Addr)(a:Mp):W (Ks C cl a) (· = true):=⟨true,rfl,rfl⟩
end Ts
namespace Sy
open PySem L2
section
variable{K:Frag}{C D:Addr}
theorem I_(c:isClsIn K D=true)(b:typeIn K (.ref D)=some (.type "type"))(a:mroIn K C (.ref D)=some true):kitOne K (.ref C) (.ref D)=some true:=by
 unfold kitOne
 split
 ·rfl
 ·unfold PySem.W.kitCls PySem.W.subIn
  dsimp only
  rw[b,a,show(PySem.W.clsIn K D).isSome=true from c]
  rfl
theorem Qu(b:isClsIn K D=true)(c:typeIn K (.ref D)=some (.type "type"))(d:mroIn K C (.ref D)=some false)(hs:mroIn K C (.ref C)=some true):kitOne K (.ref C) (.ref D)=some false:=by
 have a:C≠D:=λe=>by
  grind
 unfold kitOne
 rw[if_neg (λe=>a (ae7 (aej e)))]
 unfold PySem.W.kitCls PySem.W.subIn
 dsimp only
 rw[c,d,show(PySem.W.clsIn K D).isSome=true from b]
 rfl
def Ys(K:Frag)(C:Addr):List Addr->Prop
 |[]=>True
 |D::r=>mroIn K C (.ref D)=some false/\Ys K C r
def Du(K:Frag):List Addr->List Addr->Prop
 |_,[]=>True
 |p,C::r=>mroIn K C (.ref C)=some true/\Ys K C p/\Ys K C r/\Du K (C::p) r
theorem zNi(h:Ys K C a)(m:D∈a):mroIn K C (.ref D)=some false:=by
 induction a with
 |nil=>cases m
 |cons E r ih =>
  cases m with
  |head=>exact h.1
  |tail _ m=>exact ih h.2 m
theorem V8:∀{p:List Addr},Du K p r->∀{i:Nat},r[i]?=some C->mroIn K C (.ref C)=some true/\(D∈p->mroIn K C (.ref D)=some false)/\∀{j:Nat},r[j]?=some D->j≠i->mroIn K C (.ref D)=some false:=by
 induction r with
 |nil=>grind
 |cons E r ih =>
  intro p h i e
  cases i with
  |zero =>
   cases e
   refine⟨h.1,zNi h.2.1,λ{j} f n=>?_⟩
   cases j with
   |zero=>exact absurd rfl n
   |succ j=>exact zNi h.2.2.1 (mem_of_getElem? f)
  |succ i =>
   obtain⟨a,b,c⟩:=ih h.2.2.2 e
   grind
end
def hix:Hd->Nat
 |.all=>0
 |.mark=>1
 |.one i=>i.val+2
 |.two i=>i.val+9
theorem Ja(h:Hd)(t:Tr):Ts.jY h t=decide (hix h=hix (hd t)):=by
 cases h<;>cases t
 case one.one i j _=>exact decide_eq_decide.2 ⟨λe=>by subst e;rfl,λe=>Fin.ext (by have e:i.val+2=j.val+2:=e;lia)⟩
 case two.two i j _ _=>exact decide_eq_decide.2 ⟨λe=>by subst e;rfl,λe=>Fin.ext (by have e:i.val+9=j.val+9:=e;lia)⟩
 all_goals first|rfl|(symm;apply decide_eq_false;intro e;simp only[hix,hd] at e;lia)
theorem Jb:∀i:Fin 7,i=0\/i=1\/i=2\/i=3\/i=4\/i=5\/i=6:=by decide
theorem Jc:∀i:Fin 4,i=0\/i=1\/i=2\/i=3:=by decide
abbrev HdR(K:Frag)(C:Addr):Prop:=findIn K (.ref C) "__class__" = some (some (.builtin "object.__class__"))/\mroIn K C (.type "object")=some true/\isClsIn K C=true/\typeIn K (.ref C)=some (.type "type")
abbrev w5(K:Frag)(C:Addr)(x y:Str)(st:Stmt):Prop:=nsIn K abl x=some (some (.ref C))/\(∃f b,Mk K C f/\aW K "__init__" y st f b)/\Cls K C/\(findIn K (.ref C) "word" = some none/\findIn K (.ref C) "parts" = some none/\findIn K (.ref C) "part" = some none/\findIn K (.ref C) "left" = some none/\findIn K (.ref C) "right" = some none/\findIn K (.ref C) "name" = some none)/\HdR K C
abbrev Yt(K:Frag)(C:Addr)(x y:Str)(st:Stmt):Prop:=nsIn K abl x=some (some (.ref C))/\∃f b,su K C "__init__" f/\aW K "__init__" y st f b
def HdQ(K:Frag)(C f:Addr):Prop:=Mk K C f/\gJ K C/\HdR K C
section
variable{K:Frag}{h:Heap}{mg:Str->Option Value}{C:Addr}{x y:Str}{st:Stmt}
theorem Qv(a:nsIn K abl x=some (some (.ref C)))(c:su K C "__init__" f)(F:aW K "__init__" y st f b):Yt K C x y st:=⟨a,f,b,c,F⟩
theorem Qw(a:nsIn K abl x=some (some (.ref C)))(m:Mk K C f)(F:aW K "__init__" y st f b)(c:Cls K C)(n:(findIn K (.ref C) "word" = some none/\findIn K (.ref C) "parts" = some none/\findIn K (.ref C) "part" = some none/\findIn K (.ref C) "left" = some none/\findIn K (.ref C) "right" = some none/\findIn K (.ref C) "name" = some none)/\HdR K C):w5 K C x y st:=⟨a,⟨f,b,m,F⟩,c,n⟩
theorem Am(X:K.In h)(G:h.Ns abl mg)(p:w5 K C x y st):mg x=some (.ref C)/\∃f b,aW K "__init__" y st f b/\HdQ K C f:=by
 obtain⟨a,⟨f,b,m,F⟩,c,⟨n1,n2,d,g,e,i⟩,r⟩:=p
 exact⟨mg_of X G a,f,b,F,m,⟨c,n1,n2,d,g,e,i⟩,r⟩
end
def Dv(K:Frag)(m:Str)(f:Addr):List Addr->Prop
 |[]=>True
 |C::r=>findIn K (.ref C) m=some (some (.ref f))/\Dv K m f r
abbrev WP(K:Frag)(f:Addr)(x y:Str)(st:Stmt):Prop:=∃fd,isFn K (.ref f)=true/\aW K x y st f fd
theorem V9(a:isFn K (.ref f)=true)(F:aW K x y st f fd):WP K f x y st:=⟨fd,a,F⟩
theorem Kv:∀{r:List Addr},Dv K m f r->∀{i:Nat},r[i]?=some C->findIn K (.ref C) m=some (some (.ref f))
 |[],_,i,e=>by cases i<;>cases e
 |D::r,h,0,e=>by cases e;exact h.1
 |D::r,h,i+1,e=>Kv h.2 e
set_option maxHeartbeats 8000000 in
theorem Qx{l:aef}{K:Frag}(X:K.In h)(G:h.Ns abl mg)(bA:Yt K CA "Saying" "Saying.__init__" zLj)(bB:Yt K CB "OfOne" "OfOne.__init__" zRd)(bD:Yt K CD "OfTwo" "OfTwo.__init__" zRc)(h0:w5 K C0 "All" "All.__init__" Oo)(h1:w5 K C1 "Mark" "Mark.__init__" CJ)(h2:w5 K C2 "Not" "Not.__init__" Oq)(h3:w5 K C3 "SomeNext" "SomeNext.__init__" zFp)(h4:w5 K C4 "EachNext" "EachNext.__init__" zFs)(h5:w5 K C5 "SomeAlways" "SomeAlways.__init__" zC1)(h6:w5 K C6 "EachAlways" "EachAlways.__init__" zC2)(h7:w5 K C7 "SomeEver" "SomeEver.__init__" zFq)(h8:w5 K C8 "EachEver" "EachEver.__init__" zFt)(h9:w5 K C9 "Both" "Both.__init__" CK)(h10:w5 K C10 "Either" "Either.__init__" zLk)(h11:w5 K C11 "SomeTill" "SomeTill.__init__" zFo)(h12:w5 K C12 "EachTill" "EachTill.__init__" zFr)(m:Du K [] [C0,C1,C2,C3,C4,C5,C6,C7,C8,C9,C10,C11,C12])(hn:specialIn K (.builtin "object.__class__") "__get__" = some (some (.builtin "getset_descriptor.__get__")))(ht:takesIn K (.builtin "object.__class__")=some true)(tW:Dv K "words" fW [C0,C1,C2,C3,C4,C5,C6,C7,C8,C9,C10,C11,C12])(pW:WP K fW "words" "Saying.words" Ts.cW)
   :∃(cl fi:Hd->Addr)(di:Hd->FuncData)(fW:Addr)(dW:FuncData),(∀base:Heap,Ts.oE l.prog w K mg base 3 cl fi di)/\(∀h,Meth K (cl h) "words" fW)/\aW K "words" "Saying.words" Ts.cW fW dW:=by
 obtain⟨aA,fA,dA,cA,FA⟩:=bA
 have aA:=mg_of X G aA
 obtain⟨aB,fB,dB,cB,FB⟩:=bB
 have aB:=mg_of X G aB
 obtain⟨aD,fD,dD,cD,FD⟩:=bD
 have aD:=mg_of X G aD
 obtain⟨a0,f0,d0,F0,Q0⟩:=Am X G h0
 obtain⟨a1,f1,d1,F1,Q1⟩:=Am X G h1
 obtain⟨a2,f2,d2,F2,Q2⟩:=Am X G h2
 obtain⟨a3,f3,d3,F3,Q3⟩:=Am X G h3
 obtain⟨a4,f4,d4,F4,Q4⟩:=Am X G h4
 obtain⟨a5,f5,d5,F5,Q5⟩:=Am X G h5
 obtain⟨a6,f6,d6,F6,Q6⟩:=Am X G h6
 obtain⟨a7,f7,d7,F7,Q7⟩:=Am X G h7
 obtain⟨a8,f8,d8,F8,Q8⟩:=Am X G h8
 obtain⟨a9,f9,d9,F9,Q9⟩:=Am X G h9
 obtain⟨a10,f10,d10,F10,Q10⟩:=Am X G h10
 obtain⟨a11,f11,d11,F11,Q11⟩:=Am X G h11
 obtain⟨a12,f12,d12,F12,Q12⟩:=Am X G h12
 obtain⟨dW,gW,FW⟩:=pW
 refine⟨λh=>([C0,C1,C2,C3,C4,C5,C6,C7,C8,C9,C10,C11,C12]:List Addr).getD (hix h) 0,λh=>([f0,f1,f2,f3,f4,f5,f6,f7,f8,f9,f10,f11,f12]:List Addr).getD (hix h) 0,λh=>([d0,d1,d2,d3,d4,d5,d6,d7,d8,d9,d10,d11,d12]:List FuncData).getD (hix h) d0,fW,dW,?_⟩
 have Z:∀h,HdQ K (([C0,C1,C2,C3,C4,C5,C6,C7,C8,C9,C10,C11,C12]:List Addr).getD (hix h) 0) (([f0,f1,f2,f3,f4,f5,f6,f7,f8,f9,f10,f11,f12]:List Addr).getD (hix h) 0)/\([C0,C1,C2,C3,C4,C5,C6,C7,C8,C9,C10,C11,C12]:List Addr)[hix h]?=some (([C0,C1,C2,C3,C4,C5,C6,C7,C8,C9,C10,C11,C12]:List Addr).getD (hix h) 0):=λh=>by
  rcases h with _|_|i|i
  ·exact⟨Q0,rfl⟩
  ·exact⟨Q1,rfl⟩
  ·rcases Jb i with rfl|rfl|rfl|rfl|rfl|rfl|rfl<;>exact⟨by assumption,rfl⟩
  ·rcases Jc i with rfl|rfl|rfl|rfl<;>exact⟨by assumption,rfl⟩
 refine⟨λbase=>?_,λh=>⟨Kv tW (Z h).2,gW,FW.kp⟩,FW⟩
 have oA:=zR8 (P:=l.prog) (w:=w) (mg:=mg) (base:=base) FA
 have bA:=Ts.oh (p0:="self") (p1:="word") (p2:="parts") FA
 have oB:=zVe FB aA cA oA bA
 have bB:=Ts.oh (p0:="self") (p1:="word") (p2:="part") FB
 have oD:=zVd FD aA cA oA bA
 have bD:=Ts.Rx (p0:="self") (p1:="word") (p2:="left") (p3:="right") FD
 have o0:=Ot F0 Q0.2.1 aA cA oA bA
 have o1:=HW F1 Q1.2.1 aA cA oA bA
 have o2:=Ov F2 Q2.2.1 aB cB oB bB
 have o3:=zLw F3 Q3.2.1 aB cB oB bB
 have o4:=zLz F4 Q4.2.1 aB cB oB bB
 have o5:=zIr F5 Q5.2.1 aB cB oB bB
 have o6:=zIs F6 Q6.2.1 aB cB oB bB
 have o7:=zLx F7 Q7.2.1 aB cB oB bB
 have o8:=zL0 F8 Q8.2.1 aB cB oB bB
 have o9:=HX F9 Q9.2.1 aD cD oD bD
 have o10:=zR9 F10 Q10.2.1 aD cD oD bD
 have o11:=zLv F11 Q11.2.1 aD cD oD bD
 have o12:=zLy F12 Q12.2.1 aD cD oD bD
 refine⟨⟨λh=>(Z h).1.1,o0.mono (by decide),Ts.sZ F0,o1.mono (by decide),Ts.iC F1,λi=>by rcases Jb i with rfl|rfl|rfl|rfl|rfl|rfl|rfl<;>assumption,λi=>by rcases Jb i with rfl|rfl|rfl|rfl|rfl|rfl|rfl<;>(first|exact Ts.iC F2|exact Ts.iC F3|exact Ts.iC F4|exact Ts.iC F5|exact Ts.iC F6|exact Ts.iC F7|exact Ts.iC F8),λi=>by rcases Jc i with rfl|rfl|rfl|rfl<;>assumption,λi=>by rcases Jc i with rfl|rfl|rfl|rfl<;>(first|exact Ts.oh F9|exact Ts.oh F10|exact Ts.oh F11|exact Ts.oh F12),a0,a1,λi=>by rcases Jb i with rfl|rfl|rfl|rfl|rfl|rfl|rfl<;>assumption,λi=>by rcases Jc i with rfl|rfl|rfl|rfl<;>assumption⟩,λh=>(Z h).1.2.1,λh h' t e=>?_,λh=>(Z h).1.2.2.1,hn,ht,λh=>(Z h).1.2.2.2.1⟩
 subst e
 rw[Ja]
 obtain⟨x,_,y⟩:=V8 (D:=_) m (Z (hd t)).2
 by_cases e:hix h'=hix (hd t)
 ·rw[decide_eq_true e]
  exact I_ (Z h').1.2.2.2.2.1 (Z h').1.2.2.2.2.2 (by rw[e];exact x)
 ·rw[decide_eq_false e]
  exact Qu (Z h').1.2.2.2.2.1 (Z h').1.2.2.2.2.2 (y (Z h').2 e) x
end Sy
namespace Ts
open PySem L2 Sy
def Dw(K:Frag):Sp:=λc H Q _=>∃(a:Addr)(b:LI),c=[.ref a]/\aZ K H a (b.map V.int)/\b.length<=63/\∀d,Q (.bl true) d
section
variable{P:Program}{w:World}{K:Frag}{mg:Str->Option Value}{base h:Heap}{j k:Nat}{f C:Addr}{fd:FuncData}{ps:List Str}{sp:Sp}{x y:Str}{st:Stmt}
theorem V_(no:∀vs H Q E,¬sp vs H Q E):aq P w K mg base aN k f fd ps sp :=
 ⟨λvs H Q E h=>absurd h (no vs H Q E),λA outer s H args us vs Q E _ _ _ _ h=>absurd h (no vs H Q E)⟩
abbrev FP(K:Frag)(x:Str)(st:Stmt):Prop:=∃f fd,nsIn K abl x=some (some (.ref f))/\aW K x x st f fd
abbrev MP(K:Frag)(C:Addr)(x y:Str)(st:Stmt):Prop:=∃f fd,Meth K C x f/\aW K x y st f fd
def Kw(K:Frag):List Str->Prop
 |[]=>True
 |x::r=>nsIn K abl x=some none/\Kw K r
theorem Wa(a:nsIn K abl x=some (some (.ref f)))(F:aW K x x st f fd):FP K x st:=⟨f,fd,a,F⟩
theorem Wb(a:Meth K C x f)(F:aW K x y st f fd):MP K C x y st:=⟨f,fd,a,F⟩
theorem Jd{g n kV b m a e:Value}{od i:Option Addr}{d:Array (Option Value)}(l:K.lookup f=some ⟨n,od,.func (fnOf x y (uT st) (wV st) (zI st) g kV b m i a e),d⟩)(c:codeIn K a y=true)(k:keepIn K (.ref f)=true):Af K x y st g f (fnOf x y (uT st) (wV st) (zI st) g kV b m i a e):=⟨⟨n,od,kV,b,m,i,a,e,d,rfl,l,c⟩,k⟩
theorem Qy(X:K.In h)(G:h.Ns abl mg)(p:FP K x st)(t:∀f fd,aW K x x st f fd->aq P w K mg base aN k f fd ps sp/\Binds K fd ps []):bw P w K mg base k x ps sp:=by
 obtain⟨f,fd,a,F⟩:=p
 exact⟨f,fd,(t f fd F).1,(t f fd F).2,F.kp,mg_of X G a⟩
theorem Je(c:Cls K C)(p:MP K C x y st)(t:∀f fd,aW K x y st f fd->aq P w K mg base aN k f fd ps sp/\Binds K fd ps []):gH P w K mg base k C x ps sp:=by
 obtain⟨f,fd,a,F⟩:=p
 exact⟨⟨f,fd,(t f fd F).1,(t f fd F).2,a⟩,c⟩
theorem bw.m(c:bw P w K mg base j x ps sp)(h:j<=k:=by decide):bw P w K mg base k x ps sp:=c.mono h
theorem qp.m(c:qp P w K mg base j cl x f sp)(h:j<=k:=by decide):qp P w K mg base k cl x f sp:=c.mono h
theorem gH.m(c:gH P w K mg base j C x ps sp)(h:j<=k:=by decide):gH P w K mg base k C x ps sp:=c.mono h
end
theorem Wc{K:Frag}(FI:Af K "__init__" "Machine.__init__" XS (.ref TD) fI Qt)(lT:K.lookup TD=some ⟨ocT,odT,.seq #[.none,.none] nT,slT⟩):Binds K Qt ["self","steps","marks","fair"] [.none]/\Binds K Qt ["self","steps","marks","fair"] []:=by
 obtain⟨_,_,_,_,_,_,_,_,_,rfl,_⟩:=FI.ex
 constructor
 all_goals
  intro s us KX hl
  rw[length_append] at hl
 ·match us,Nat.succ.inj hl with
  |[u0,u1,u2],_=>exact BindsTo.of_defaults rfl (KX _ _ lT) rfl rfl rfl
 ·match us,hl with
  |[u0,u1,u2,u3],_=>exact BindsTo.of_defaults rfl (KX _ _ lT) rfl rfl rfl
set_option maxHeartbeats 8000000 in
theorem all_mk{l:aef}{K:Frag}(X:K.In h)(G:h.Ns abl mg)(hfa:mg "law" = some (.ref fa))(SY:∃(cl fi:Hd->Addr) (di:Hd->FuncData) (fW:Addr) (dW:FuncData),(∀base:Heap,Ts.oE l.prog w K mg base 3 cl fi di)/\(∀h,Meth K (cl h) "words" fW)/\aW K "words" "Saying.words" Ts.cW fW dW)(h1:FP K "sources_of" XR)(h2:FP K "is_stand" j6)(h3:FP K "check_stands" eE)(h4:FP K "check_steps" fY)(h5:FP K "is_name" mD)(h6:FP K "check_marks" fZ)(h7:FP K "check_fair" gQ)(h8:FP K "copied" oO)(h9:FP K "everywhere" gM)(h10:FP K "flags" rm)(h11:FP K "without" lY)(h12:FP K "others" oG)(h13:FP K "together" jZ)(h14:FP K "shared" oH)(h15:FP K "distances" iV)(h16:FP K "comes_to" j4)(h17:FP K "steps_into" gO)(h18:FP K "stepping_to" fU)(h19:FP K "bits_of" lZ)(h20:FP K "onward_bits" fV)(h21:FP K "rings" rA)(h22:FP K "missed_by" iW)(h23:FP K "fair_rings" gP)(h24:FP K "joined" oJ)(h25:FP K "core" vg)(h26:FP K "alive" s_alive)(h27:FP K "some_next" iY)(h28:FP K "some_till" iZ)(h29:FP K "spoilers" j5)(h30:FP K "each_till" i_)(h31:FP K "meaning_over_walks" cI)(h32:FP K "meaning" mz)(h33:FP K "table_among" fX)(h34:FP K "table" rB)(h35:FP K "holds" rC)(h36:FP K "_law_cell" oR)(h37:FP K "_law_grown" qH)(h38:FP K "_law_single" oU)(h39:FP K "_law_made" tE)(h40:FP K "_law_bits" oV)(h41:FP K "_law_next" oW)(h42:FP K "_law_drawn" mG)(h43:FP K "_law_row" rD)(h44:FP K "_law_closure" jc)(h45:FP K "_law_leads" mH)(h46:FP K "_law_core" oX)(h47:FP K "_law_meets" mJ)(h48:FP K "_law_grow" oY)(h49:FP K "_law_without" je)(h50:FP K "_law_each_till" gb)(h51:FP K "_law_some_till" gj)(h52:FP K "_law_some_next" gk)(h53:FP K "_law_over" oZ)(h54:FP K "_law_due" rE)(h55:FP K "_law_about" mK)(h56:FP K "_law_set" rG)(h57:FP K "law" qI)(aC:nsIn K abl "Machine" = some (some (.ref C)))(mk:Mk K C fI)(FI:Af K "__init__" "Machine.__init__" XS (.ref TD) fI Qt)(lT:K.lookup TD=some ⟨ocT,odT,.seq #[.none,.none] nT,slT⟩)(m0:MP K C "many" "Machine.many" eF)(m1:MP K C "next_of" "Machine.next_of" cX)(m2:MP K C "before" "Machine.before" dw)(m3:MP K C "marked" "Machine.marked" dz)(m4:MP K C "fair_at" "Machine.fair_at" cY)(cC:Cls K C)(nC:findIn K (.ref C) "steps" = some none/\findIn K (.ref C) "marks" = some none/\findIn K (.ref C) "fair" = some none/\findIn K (.ref C) "sources" = some none)(p7:nsIn K abl "LETTERS" = some (some (.str "abcdefghijklmnopqrstuvwxyz" Ai)))(gA:nsIn K abl "LONGEST_NAME" = some (some (.int 8 pA)))(g_:nsIn K abl "MOST_STANDS" = some (some (.int 60 qu)))(gB:nsIn K abl "SAYING_WORDS" = some (some (.ref cJ)))(qw:K.lookup cJ=some ⟨.type "tuple",none,.seq #[.str "all" Ao,.str "not" Aq,.str "both" Av,.str "either" Aw,.str "somenext" Ax,.str "eachnext" Ay,.str "sometill" Az,.str "eachtill" A_,.str "someever" Ba,.str "eachever" Bb] Dy,Bq⟩)(z:Kw K ["len","range","isinstance","int","bool","list","enumerate","any","all","sorted","str","set","reversed"]) :
  ∃fd:FuncData,(∀(s:Shared)(v:Value),BindsTo s fd ⟨[v],[]⟩ [("_law_script",v)])/\∀base:Heap,K.In base->base.Ns abl mg->aq l.prog w K mg base aN 20 fa fd ["_law_script"] (Dw K):=by
 obtain⟨f,fd,a,⟨oc,od,kV,dc,pm,an,cd,ct,sl,rfl,lk,ck⟩,kp⟩:=h57
 have e:=hfa.symm.trans (mg_of X G a)
 cases e
 obtain⟨cl,fi,di,fW,dW,I0,MW,FW⟩:=SY
 obtain⟨aan,Qz,t_,aao,Wd,Wf,w6,Pk,O_,bT,Pa,nH,mU,_⟩:=z
 obtain⟨nS,nM,nF,nB⟩:=nC
 have N:∀{x:Str},nsIn K abl x=some none->mg x=none:=λe=>PySem.W.mg_none_of X G e
 have B:Bl K mg:=⟨N aan,N Qz,N t_,N aao,N Wd,N Wf,N w6,Ua,Uc,Ub⟩
 have aap:=N Pk
 have aaq:=N O_
 have h_:=N bT
 have aar:=N Pa
 have Jf:=N nH
 have Bc:=N mU
 have p7:=mg_of X G p7
 have gA:=mg_of X G gA
 have g_:=mg_of X G g_
 have gB:=mg_of X G gB
 have T:Cl K mg C:=⟨cC,nS,nM,nF,nB,mg_of X G aC⟩
 obtain⟨bI1,bI0⟩:=Wc FI lT
 refine⟨fnOf "law" "law" (uT qI) (wV qI) (zI qI) .none kV dc pm an cd ct,λs v=>.of_eq rfl,λbase _ _=>?_⟩
 have cal:∀{k:Nat}{x:Str}{st:Stmt}{ps:List Str}{sp:Sp},FP K x st->(∀f fd,aW K x x st f fd->aq l.prog w K mg base aN k f fd ps sp/\Binds K fd ps [])->bw l.prog w K mg base k x ps sp:=λh t=>Qy X G h t
 have Dz:∀{k:Nat}{x y:Str}{st:Stmt}{ps:List Str}{sp:Sp},MP K C x y st->(∀f fd,aW K x y st f fd->aq l.prog w K mg base aN k f fd ps sp/\Binds K fd ps [])->gH l.prog w K mg base k C x ps sp:=λh t=>Je cC h t
 have I:=I0 base
 have eG:∀H:Hp,cF K H cJ ((["all","not","both","either","somenext","eachnext","sometill","eachtill","someever","eachever"]:List Str).map V.str):=λH=>.inr ⟨_,_,_,qw,rfl,rfl,(by show 10<=sizeLine;decide),by repeat(first|exact Paired.nil|refine Paired.cons ⟨_,rfl⟩ ?_)⟩
 have j7:=cal h2 λ_ _ F=>⟨zLt (k:=0) F B,iC F⟩
 have aR:=cal h3 λ_ _ F=>⟨zF0 (k:=1) F B j7.m,oh F⟩
 have qx:=cal h4 λ_ _ F=>⟨zG7 (k:=2) F B g_ aR.m,sZ F⟩
 have mL:=cal h5 λ_ _ F=>⟨zPd (k:=0) F B p7 gA gB eG aaq aar,sZ F⟩
 have qy:=cal h6 λ_ _ F=>⟨zG8 (k:=2) F B aR.m mL.m,iC F⟩
 have rZ:=cal h7 λ_ _ F=>⟨zIq (k:=2) F B aR.m,iC F⟩
 have DG:=cal h8 λ_ _ F=>⟨zR7 (k:=0) F B,sZ F⟩
 have aas:=cal h1 λ_ _ F=>⟨Ol F B,sZ F⟩
 have OI:aq l.prog w K mg base aN 4 fI Qt ["self","steps","marks","fair"] (qF K C (RQ C)):=Om (k:=3) FI T B qx.m qy.m rZ.m DG.m aas.m
 have aM:=Dz m0 λ_ _ F=>⟨zF1 (k:=0) (C:=C) F B T,sZ F⟩
 have aY:=Dz m1 λ_ _ F=>⟨zDh (k:=0) (C:=C) F B T h_,iC F⟩
 have dF:=Dz m2 λ_ _ F=>⟨zEg (k:=0) (C:=C) F B T,iC F⟩
 have dH:=Dz m3 λ_ _ F=>⟨zEf (k:=0) (C:=C) F B T h_,iC F⟩
 have cZ:=Dz m4 λ_ _ F=>⟨zDi (k:=0) (C:=C) F B T h_,iC F⟩
 have aJ:=cal h9 λ_ _ F=>⟨zIp (k:=1) (C:=C) F B aM.m,sZ F⟩
 have jx:=cal h10 λ_ _ F=>⟨zVb (k:=1) (C:=C) F B aM.m,iC F⟩
 have dY:=cal h11 λ_ _ F=>⟨zO7 (k:=0) F B h_ Jf,iC F⟩
 have bh:=cal h12 λ_ _ F=>⟨zRz (k:=2) (C:=C) F B aJ.m dY.m,iC F⟩
 have dG:=cal h13 λ_ _ F=>⟨zLr (k:=0) F B h_ Jf,iC F⟩
 have bH:=cal h14 λ_ _ F=>⟨zRy (k:=0) F B h_ Jf,iC F⟩
 have jh:=cal h15 λ_ _ F=>⟨zKc (k:=2) (C:=C) F B dF.m aM.m jx.m,oh F⟩
 have bU:=cal h16 λ_ _ F=>⟨zLu (k:=3) (C:=C) F B jh.m,oh F⟩
 have gY:=cal h17 λ_ _ F=>⟨zIn (k:=1) (C:=C) F B aap aY.m,oh F⟩
 have gw:=cal h18 λ_ _ F=>⟨zG2 (k:=2) (C:=C) F B jx.m gY.m,oh F⟩
 have jy:=cal h19 λ_ _ F=>⟨zPe (k:=0) F B,sZ F⟩
 have gq:=cal h20 λ_ _ F=>⟨zG3 (k:=1) (C:=C) F B aM.m aY.m jy.m,iC F⟩
 have rP:=cal h21 λ_ _ F=>⟨zU6 (k:=2) (C:=C) F B h_ Jf gq.m,iC F⟩
 have jl:=cal h22 λ_ _ F=>⟨zJ8 (k:=1) (C:=C) F B T cZ.m bH.m,iC F⟩
 have gZ:=cal h23 λ_ _ F=>⟨zIo (k:=3) (C:=C) F B jl.m rP.m,iC F⟩
 have pH:=cal h24 λ_ _ F=>⟨zR6 (k:=0) F B,sZ F⟩
 have g8:=cal h25 λ_ _ F=>⟨Ij (k:=4) (C:=C) F B bU.m gZ.m pH.m,iC F⟩
 have rQ:=cal h26 λ_ _ F=>⟨zVc (k:=5) (C:=C) F B g8.m aJ.m,sZ F⟩
 have fQ:=cal h27 λ_ _ F=>⟨zJ7 (k:=3) (C:=C) F B aJ.m bH.m gw.m,oh F⟩
 have dO:=cal h28 λ_ _ F=>⟨zJ6 (k:=4) (C:=C) F B bU.m bH.m,Rx F⟩
 have j8:=cal h29 λ_ _ F=>⟨zLs (k:=3) (C:=C) F B bh.m bH.m dY.m,Rx F⟩
 have fP:=cal h30 λ_ _ F=>⟨zKb (k:=5) (C:=C) F B bU.m g8.m bh.m j8.m dG.m,Rx F⟩
 have cL:=cal h31 λ_ _ F=>⟨zB2 (k:=6) (C:=C) (cl:=cl) F B I g8.m fP.m aJ.m bh.m fQ.m dO.m,Rx F⟩
 have mO:=cal h32 λ_ _ F=>⟨zO8 (k:=7) (C:=C) (cl:=cl) F B I dH.m aJ.m cL.m bh.m bH.m dG.m,Rx F⟩
 have qb:∀n:Nat,bw l.prog w K mg base (8+n) "table_among" ["machine","living","saying"] (Ye K C cl (wB n)):=λn=>by
  induction n with
  |zero=>exact cal h33 λ_ _ F=>⟨V_ (by rintro _ _ _ _ ⟨_,_,_,_,z,_⟩;cases z),oh F⟩
  |succ n ih=>exact cal h33 λ_ _ F=>⟨zG1 (k:=8+n) F B I (mO.mono (aa1 (by decide) (ab5 8 n))) ih,oh F⟩
 have cQ:bw l.prog w K mg base 17 "table_among" ["machine","living","saying"] (zDy K C cl):=qb 9
 have rR:=cal h34 λ_ _ F=>⟨zU5 (k:=17) (C:=C) (cl:=cl) F B rQ.m cQ.m,iC F⟩
 have lQ:=cal h35 λ_ _ F=>⟨zVa (k:=18) (C:=C) (cl:=cl) F B rR.m,iC F⟩
 have bQ:qp l.prog w K mg base 9 cl "words" fW (zA9 K cl):=⟨⟨dW,O9 (Sy.Vn FW I.kd MW (sZ FW) 9),sZ FW⟩,MW⟩
 have eY:=cal h36 λ_ _ F=>⟨zR4 (k:=0) F B,sZ F⟩
 have mW:bw l.prog w K mg base 9 "_law_grown" ["_law_rest","_law_names","_law_deep"] (zK7 K):=by
  obtain⟨f,fd,a,F⟩:=h37
  obtain⟨gC,dC,GC0,bC,kC,mC⟩:=eY
  exact⟨f,fd,Sy.J4 F (oh F) (mg_of X G a) (V7 GC0) bC kC mC B 7,oh F,F.kp,mg_of X G a⟩
 have xg:bw l.prog w K mg base 5 "_law_single" ["_law_word","_law_part"] (Sy.Oz cl):=by
  obtain⟨f,fd,a,F⟩:=h38
  exact⟨f,fd,Sy.Vj F I.ini,iC F,F.kp,mg_of X G a⟩
 have pZ:bw l.prog w K mg base 12 "_law_made" ["_law_tree"] (zJa K cl):=by
  obtain⟨f,fd,a,F⟩:=h39
  obtain⟨gS,dS,GS,bS,kS,mS⟩:=xg
  exact⟨f,fd,O7 (Sy.J6 F (sZ F) (mg_of X G a) I.ini GS bS kS mS B 7),sZ F,F.kp,mg_of X G a⟩
 have lG:=cal h40 λ_ _ F=>⟨zR5 (k:=0) F B,iC F⟩
 have pN:=cal h41 λ_ _ F=>⟨zR1 (k:=0) F B,oh F⟩
 have mV:=cal h42 λ_ _ F=>⟨zPb (k:=1) F B lG.m eY.m pN.m,sZ F⟩
 have rW:=cal h43 λ_ _ F=>⟨zU8 (k:=0) F B,oh F⟩
 have jq:=cal h44 λ_ _ F=>⟨zKa (k:=1) F B rW.m,iC F⟩
 have jA:=cal h45 λ_ _ F=>⟨zPa (k:=0) F B,iC F⟩
 have eZ:=cal h46 λ_ _ F=>⟨zR3 (k:=2) F B jq.m jA.m,oh F⟩
 have dZ:=cal h47 λ_ _ F=>⟨zO9 (k:=0) F B,iC F⟩
 have gG:=cal h48 λ_ _ F=>⟨zR2 (k:=1) F B dZ.m,oh F⟩
 have aP:=cal h49 λ_ _ F=>⟨zJ9 (k:=0) F B,iC F⟩
 have dM:=cal h50 λ_ _ F=>⟨zG6 (k:=3) F B eZ.m gG.m aP.m,oh F⟩
 have cR:=cal h51 λ_ _ F=>⟨zG4 (k:=2) F B gG.m,oh F⟩
 have dN:=cal h52 λ_ _ F=>⟨zG5 (k:=1) F B dZ.m,iC F⟩
 have pQ:=cal h53 λ_ _ F=>⟨zR0 (k:=4) F B eZ.m dM.m dN.m cR.m aP.m,oh F⟩
 have DK:∀n:Nat,bw l.prog w K mg base (5+n) "_law_due" ["_law_tree","_law_about_here"] (Yj K (Dn n)):=λn=>by
  induction n with
  |zero=>exact cal h54 λ_ _ F=>⟨V_ (by rintro _ _ _ _ ⟨_,_,_,_,z,_⟩;cases z),iC F⟩
  |succ n ih=>exact cal h54 λ_ _ F=>⟨zU9 (k:=5+n) F B ih (pQ.mono (aa1 (by decide) (ab5 5 n))) (aP.mono (aa1 (by decide) (ab5 5 n))),iC F⟩
 have jB:bw l.prog w K mg base 12 "_law_due" ["_law_tree","_law_about_here"] (zTx K):=DK 7
 have jE:bw l.prog w K mg base 4 "_law_about" ["_law_drawn_here"] (zGx K):=by
  obtain⟨f,fd,a,F⟩:=h55
  exact⟨f,fd,zPc (k:=3) F B eZ.m,sZ F,F.kp,mg_of X G a⟩
 have lO:=cal h56 λ_ _ F=>⟨zU7 (k:=0) F B,iC F⟩
 refine aq.imp (Qs (k0:=18) (C:=C) (cl:=cl) (lV lk ck kp) B T I mk (OI.mono (by decide)) bI1 bI0 Bc bQ.m jE.m mV.m jB.m mW.m pZ.m lO.m lQ.m) λvs H Q E h=>?_
 obtain⟨a,ns,rfl,hS,h63,hQ⟩:=h
 obtain⟨b,e1,e2⟩:=zVn C cl ⟨ns⟩
 subst e2
 exact⟨(⟨ns⟩,()),true,H,.refl _,e1,.cons ⟨a,rfl,hS⟩ .nil,λv H' _ r=>by cases r;exact hQ H'⟩
theorem walk{l:aef}{YP:World->Heap->Prop}{d:DefRec}{K:Params->Frag}(hn:l.most=some 63)(hdf:d.params.defaults=[])(hY:∀(w:World) (h:Heap),YP w h->(K w.params).In h)(F:∀(w:World) (mg:Str->Option Value) (fa:Addr) (h:Heap),(K w.params).In h->h.Ns abl mg->mg d.name=some (.ref fa) ->
   ∃fd:FuncData,(∀(s:Shared) (u:Value),BindsTo s fd ⟨[u],[]⟩ [("_law_script",u)])/\∀base:Heap,(K w.params).In base->base.Ns abl mg->aq l.prog w (K w.params) mg base aN 20 fa fd ["_law_script"] (Dw (K w.params))) :
  PySem.W.WalkO q loose XP YP l.row.toRowW d [] (λf vs=>PySem.call f vs) :=
 L2.Ge (n:=63) (k:=20) (x:="_law_script") (CX:=λ_=>aN) (sp:=λw=>Dw (K w.params)) hn (by decide) hdf ⟨rfl,by decide,by decide⟩ hY F (λ_ _ a ns hl _ hS=>⟨a,ns,rfl,hS,hl,λ_=>rfl⟩) λ_ _ _ _ _ z=>z
end Ts
namespace PySem.W.Fast
def tw2908763150884201799:=0
def tw3249161079592552152:=0
def tw2460562220781727550:=0
def tw10526645076900137226:=0
def tw17195713353173557859:=0
def tw13316400490310736333:=0
def tw9173485091524600602:=0
def tw4936914955438179199:=0
def tw10957167360788616613:=0
def tw5176822832753070030:=0
def tw2381978981374857295:=0
def tw6697655353886641083:=0
def tw15155580355036847084:=0
def tw17263245583723739479:=0
def tw4181849839438261954:=0
def tw8053445033416642108:=0
def tw16278751886308678473:=0
def tw7743948300176818485:=0
def tw6261382527719137043:=0
def tw5775425686819223919:=0
def tw16527702761857658074:=0
def tw17462931417923177531:=0
def tw8115463677367088822:=0
def tw2408948857501846181:=0
def tw13606586275856376070:=0
def tw7860959628818175009:=0
def tw17358227416261335322:=0
def tw3439025903386181054:=0
def tw11850098167667278024:=0
def tw15905550107242969368:=0
def tw10755055876089309445:=0
def tw1453261817545748145:=0
def tw3567827436688998899:=0
def tw16818150231096770802:=0
def tw15434781463628835887:=0
def tw17019335209926437501:=0
def tw17377078062904032833:=0
def tw7259683095042807879:=0
def tw7570706099847316318:=0
def tw14651697460460766173:=0
def tw3081681164476171554:=0
def tw16226181619082061933:=0
def tw15883832846007176917:=0
def tw13950828417328430390:=0
def tw2890878181179941681:=0
def tw3589228170818463434:=0
def tw526228243320006403:=0
def tw2050416954220714729:=0
def tw13868220396344193834:=0
def tw546985583759398714:=0
def tw8631875480751539465:=0
def tw2901196965152742623:=0
def tw4997180201257335177:=0
def tw11945509913183935474:=0
def tw16701938038310453823:=0
def tw1116957321743851619:=0
def tw12120275623934165187:=0
def tw4788938226948480200:=0
def tw5741552522367139722:=0
def tw10286484430536365714:=0
def tw697216109099711370:=0
def tw7602801818319662666:=0
def tw2138108568137226204:=0
def tw12761786609820784373:=0
def tw3051172474694328968:=0
def tw7622112686844754916:=0
def tw6474334426607292070:=0
def tw16381583828964406856:=0
def tw14469732409098279048:=0
def tw14449627914491564342:=0
def tw5248368590880611191:=0
def tw11647789914170723369:=0
def tw5883212710233720602:=0
def tw6732482248217123016:=0
def tw15712512845865271615:=0
def tw13542527544348084500:=0
def tw16969644647870600166:=0
def tw10912719843321118001:=0
def tw644516872621215178:=0
def tw3024211488609885283:=0
def tw6587126610154369848:=0
def tw13035347642298151571:=0
def tw5016387261304938005:=0
def tw12987801833575766335:=0
def tw16626878894563619081:=0
def tw6373184904354082749:=0
def tw9758143377285119423:=0
def tw14010075775524438778:=0
def tw3794324848501878471:=0
def tw1817723498437305751:=0
def tw6325447686119938136:=0
def tw1678975235903014592:=0
def tw13779188508925984164:=0
def tw10843072834012809493:=0
def tw7691415868703318091:=0
def tw621933994659747288:=0
def tw9633115246147584956:=0
def tw16100749408982633099:=0
def tw4122515417362741620:=0
def tw6802580338202977326:=0
def tw9673657608864431097:=0
def tw16949337356868012197:=0
def tw5240519266512918571:=0
def tw10540216510236865287:=0
def tw15052609249397622913:=0
def tw15558011260641068100:=0
def tw7827593021547216388:=0
def tw9728086264066129753:=0
def tw8340899312828946567:=0
def tw9990305095005905903:=0
def tw4798222990828282213:=0
def tw7179555512749563563:=0
def tw4561786365075310605:=0
def tw18267191975782745353:=0
def tw18185660377607891961:=0
def tw5826023105320019195:=0
def tw16479244304414527918:=0
def tw7990742979583791926:=0
def tw6681507859862761600:=0
def tw9820134292057142197:=0
def tw9938729533996626074:=0
def tw2917079211037333628:=0
def tw10567002587754897567:=0
def tw5736343850758114600:=0
def tw3552462971595569305:=0
def tw10598956053505749861:=0
def tw7271287356609412664:=0
def tw6336789884852094522:=0
def tw15038257853521843263:=0
def tw9116432704618454581:=0
def tw8493428418687642289:=0
def tw2662859713472269804:=0
def tw5132110374626959301:=0
def tw416497168449635884:=0
def tw17571082418236535835:=0
def tw2789913504942934870:=0
def tw394712774840019895:=0
def tw12193752255188905146:=0
def tw10036244041376278270:=0
def tw4783628026609280158:=0
def tw9617801561903068950:=0
def tw11913270416022420947:=0
def tw14180274859994310401:=0
def tw9659209054133064470:=0
def tw2896785285938826581:=0
def tw9679882707814127378:=0
def tw2774630826250427602:=0
def tw4035902528047719155:=0
def tw9743568737260914980:=0
def tw9815466013831970494:=0
def tw13459236333847222629:=0
def tw10169402208731544436:=0
def tw9861273864676322799:=0
def tw8157309537172120492:=0
def tw111522056791074604:=0
def tw5914837591563310487:=0
def tw17525191192838307329:=0
def tw14919084354075716509:=0
def tw16121825359565204079:=0
def tw7900248052178998026:=0
def tw13225031522967491113:=0
def tw14182549343214517890:=0
def tw4741666920002181516:=0
def tw563921686193752863:=0
def tw13244102734912937031:=0
def tw855002842762283765:=0
def tw17909230951532017918:=0
def tw7758963258704494896:=0
def tw1896857525682463817:=0
def tw2928292280647497589:=0
def tw3619931714322087527:=0
def tw17467316768373818183:=0
def tw8967265140098564335:=0
def tw7323590509147719109:=0
def tw14309202814478589078:=0
def tw16378953666748547329:=0
def tw17256179872772537495:=0
def tw9237286329386390150:=0
def tw2421907581454618729:=0
def tw16939408116008733252:=0
def tw12500023069256383217:=0
def tw3010315732762100222:=0
def tw2696628108654065998:=0
def tw9151050892811601165:=0
def tw7394899995135855053:=0
def tw5136866530252264347:=0
def tw15993409293313029862:=0
def tw6256276885405054360:=0
def tw7445466684820106886:=0
def tw5590401814125598885:=0
def tw17328425997541711759:=0
def tw18045816502195018419:=0
def tw5582280165491294098:=0
def tw3202725497022227077:=0
def tw9095989659387277960:=0
def tw12310726810632583511:=0
def tw17561807052694981862:=0
def tw3190148765718003216:=0
def tw16016558937097478058:=0
def tw11795785066984368262:=0
def tw3332241151719625652:=0
def tw18135603577642738468:=0
def tw3691983021810432323:=0
def tw6585694265756663990:=0
def tw11045012717663471365:=0
def tw12107094402427933017:=0
def tw14776837524316901814:=0
def tw629555480527383211:=0
def tw11487532234710743970:=0
def tw12563435432308434333:=0
def tw4678272414983253421:=0
def tw8097439577683011480:=0
def tw1229928932503552279:=0
def tw10990191049457131006:=0
def tw14781544867653691287:=0
def tw3552867623897357055:=0
def tw7322196383180954927:=0
def tw1924710477555096641:=0
def tw6235959373788500759:=0
def tw13369833397200106288:=0
def tw1434114248111515673:=0
def tw1579340537009218104:=0
def tw11586550389948927373:=0
def tw14434956195607829447:=0
def tw14500009566075636341:=0
def tw472234858005538719:=0
def tw15214831079254403898:=0
def tw1308276676211476895:=0
def tw15756507617653999189:=0
def tw5982842017963520493:=0
def tw14343477351242314288:=0
def tw9772105245229757971:=0
def tw3055213533577820659:=0
def tw12520231867632502046:=0
def tw8470004994482942855:=0
def tw8869892442956345113:=0
def tw16741236132141505975:=0
def tw6148151154022089899:=0
def tw3462489755891288159:=0
def tw13773085408453445749:=0
def tw7548230738422928073:=0
def tw14508485134049622740:=0
def tw13912362840055318947:=0
def tw5545176484030382537:=0
def tw16631374942289566248:=0
def tw751574529331585848:=0
def tw12787023308709985671:=0
def tw12432236243000453800:=0
def tw5411009600110015152:=0
def tw14823324384272336892:=0
def tw10439528930302106649:=0
def tw16590101861736803599:=0
def tw8558615872363216021:=0
def tw224190949299972057:=0
def tw3093498256650165611:=0
def tw7588113754229701561:=0
def tw4259799695991210704:=0
def tw3882657155515652493:=0
def tw2198693566341649695:=0
def tw4345644437139044321:=0
def tw2094102985454937143:=0
def tw2583932424074375717:=0
def tw13803251931839131590:=0
def tw267082078722295416:=0
def tw1638351228951132339:=0
def tw9747471276803968918:=0
def tw17404262556939955303:=0
def tw16722824132026411928:=0
def tw1918661427913264452:=0
def tw16922839046377762983:=0
def tw5987841386191348167:=0
def tw5459571664158417344:=0
def tw6497557767202873387:=0
def tw17093752997195604438:=0
def tw16908990195224147480:=0
def tw5844612842007680065:=0
def tw6862819080993245265:=0
def tw10333632438886589607:=0
def tw10135875488561947134:=0
def tw15926545324033831537:=0
def tw17513252483284426674:=0
def tw14317905173643587103:=0
def tw1227350122041191306:=0
def tw18266204425469978334:=0
def tw9621215529946626763:=0
def tw12853454445865048113:=0
def tw5636445093257067066:=0
def tw16390808548805798546:=0
def tw9292752321341499056:=0
def tw14666414716287372550:=0
def tw2341997930636029451:=0
def tw17713291902251160475:=0
def tw18171494047571118314:=0
def tw5235806079207255661:=0
def tw10109570022337931860:=0
def tw1548076617819607747:=0
def tw10509660761509605038:=0
def tw592239112827050512:=0
def tw10700338967513884608:=0
def tw4754468485971817943:=0
def tw2847659169063797460:=0
def tw1230509118200928017:=0
def tw9534312268409358542:=0
def tw4264429821116303689:=0
def tw7766010020227954003:=0
def tw9310727172976991988:=0
def tw16447448242307033243:=0
def tw6117775927436680429:=0
def tw10292010832228092937:=0
def tw11165455495398309268:=0
def tw13441934183089247445:=0
def tw9580018688945065972:=0
def tw1172239983049740094:=0
def tw11043318259133051122:=0
def tw4866618285136557341:=0
def tw5615799275859063466:=0
def tw11084398520799439710:=0
def tw1678978977837445057:=0
def tw8550288414872865253:=0
def tw12424242129305909791:=0
def tw9811495977596067047:=0
def tw1664472489227442672:=0
def tw8131596795130707393:=0
def tw5211239853552614559:=0
def tw6403614527885848947:=0
def tw15937696694619744541:=0
def tw13428805097116876392:=0
def tw10733723699454591132:=0
def tw6027461395709096972:=0
def tw9404694815007297962:=0
def tw9536365438500138740:=0
def tw463843242522403056:=0
def tw13249289656942683419:=0
def tw3969512656214394654:=0
def tw6952513454563083622:=0
def tw13111119099310426505:=0
def tw3193379217369402280:=0
def tw2499639802322060912:=0
def tw7563461996212344765:=0
def tw382681797406296147:=0
def tw242119451052248282:=0
def tw9130724388472256091:=0
def tw8173872804289701273:=0
def tw15557760682365779285:=0
def tw10756547826265637951:=0
def tw10179592541594025193:=0
def tw1954444145589360558:=0
def tw2140592993464528935:=0
def tw14870761721139569427:=0
def tw13726801533978607794:=0
def tw6607820658877345216:=0
def tw2732000403649579737:=0
def tw17347914645567669911:=0
def tw16279085541862436344:=0
def tw7563309959975065129:=0
def tw8639339610805681905:=0
def tw4456246481058233162:=0
def tw533962285413960930:=0
def tw13935784834065480:=0
def tw10212451486309679289:=0
def tw6765544478266585713:=0
def tw10645595640581685042:=0
def tw8116489598021912255:=0
def tw4828090309059876513:=0
def tw17125705032223497780:=0
def tw6208613307872457397:=0
def tw10185191818339292941:=0
def tw17055610193966508173:=0
def tw10106389532742230879:=0
def tw2737477979292955576:=0
def tw9602919411092513819:=0
def tw11769247799431785223:=0
def tw12376106594389945066:=0
def tw15656150399199850028:=0
def tw9413982612776515661:=0
def tw2489896636375293597:=0
def tw7508686464586171185:=0
def tw5559995575358040428:=0
def tw3578546619019572139:=0
def tw14745585874030223892:=0
def tw14077282866605995518:=0
def tw7868483619634046315:=0
def tw7863138162592859369:=0
def tw9452690992879758467:=0
def tw17047100277713240422:=0
def tw3698557166505488418:=0
def tw16774305982924532294:=0
def tw1802017009246384496:=0
def tw12193217662142872442:=0
def tw11508974115235889899:=0
def tw5147349544196809949:=0
def tw365140650652943594:=0
def tw15056356417928989800:=0
def tw146469466298935708:=0
def tw5597098058612864186:=0
def tw15866317813915534531:=0
def tw17000944473400921562:=0
def tw13580240053010005899:=0
def tw3219152060538659535:=0
def tw6463242193404049448:=0
def tw7972326016904875688:=0
def tw9432152593734090091:=0
def tw7100656937307959630:=0
def tw5982022250985477474:=0
def tw5314588526891933005:=0
def tw17537241648052612043:=0
def tw10761919196244380975:=0
def tw12554090649650001206:=0
def tw14663848012840490844:=0
def tw16839715166475808042:=0
def tw13812933574303448676:=0
def tw1826816004882793258:=0
def tw153999464110601446:=0
def tw6496448364060930895:=0
def tw16430576229992323639:=0
def tw1751452253537988941:=0
def tw5859278117766685666:=0
def tw1876300198063266680:=0
def tw242393914276856959:=0
def tw381873147901390567:=0
def tw5444976303645227446:=0
def tw11892849636859407275:=0
def tw7159097606257777832:=0
def tw11579169614006219636:=0
def tw3158992877648464006:=0
def tw10464197459226375934:=0
def tw15283642857430793753:=0
def tw6487900728831564774:=0
def tw12472168467672343619:=0
def tw925205334786847795:=0
def tw9392926938739845913:=0
def tw12000086081424922931:=0
def tw1794238357648382902:=0
def tw13481760091043739629:=0
def tw3323638890409523544:=0
def tw7666756834823403860:=0
def tw13970402327041439802:=0
def tw867509715928714429:=0
def tw9554230207286488184:=0
def tw2837009773205821013:=0
def tw12899854729582098650:=0
def tw17897668659460688799:=0
def tw943151996301048110:=0
def tw6342743688586598591:=0
def tw6141647318566811600:=0
def tw8485371100857602739:=0
def tw3991798598767203251:=0
def tw14907490246688400961:=0
def tw5543897863991147923:=0
def tw13227399509998429736:=0
def tw4074140959086830910:=0
def tw14453151879602294377:=0
def tw10869491249924132210:=0
def tw8995742440056236712:=0
def tw18165102281941848220:=0
def tw4238461507574694729:=0
def tw7343690989114176591:=0
def tw6319882689321096038:=0
def tw17654754322788287909:=0
def tw17890233831973087660:=0
def tw12272287697433216535:=0
def tw3195250084166837849:=0
def tw14056584827559580959:=0
def tw12568951899432561990:=0
def tw17506866074893661122:=0
def tw3636757562867792274:=0
def tw7190889499436215202:=0
def tw696327499052785693:=0
def tw11083173631707037309:=0
def tw6347681539601612949:=0
def tw9719814099068625298:=0
def tw8595912748710138045:=0
def tw4556919706776135381:=0
def tw6602257930472106756:=0
def tw11524016244447871689:=0
def tw14076121381898956545:=0
def tw9364379865452365921:=0
def tw571691461444415393:=0
def tw8221238279998258420:=0
def tw7851991970525825365:=0
def tw3000594590041700499:=0
def tw7746272475434999703:=0
def tw3693431192319441832:=0
def tw8049211973898499260:=0
def tw14966782594413390651:=0
def tw789684012248358182:=0
def tw315981707130322894:=0
def tw11590981427867549229:=0
def tw14182675493945278751:=0
def tw10552218965457356064:=0
def tw4222168130837410975:=0
def tw3978945913265290797:=0
def tw10349911718298283567:=0
def tw3042861708540136865:=0
def tw17395971289642026875:=0
def tw17713130916974443827:=0
def tw12754922421347645636:=0
def tw18383429865357868474:=0
def tw3712012333306688513:=0
def tw15066161036495139919:=0
def tw11035940142344726835:=0
def tw1943610990620358411:=0
def tw15890498408495064998:=0
def tw3287861884798671670:=0
def tw3439895731152932967:=0
def tw13390500420443554974:=0
def tw5732520675360632654:=0
def tw12326914397286745117:=0
def tw4819123962914581817:=0
def tw9768530995136939652:=0
def tw2643536042627770651:=0
def tw5260841636504002495:=0
def tw7677366512418847011:=0
def tw14002495856047822206:=0
def tw15514955455115294681:=0
def tw3078563219079216798:=0
def tw11386526463997840715:=0
def tw6324928301864735498:=0
def tw8172892713611805824:=0
def tw1652839630493317932:=0
def tw2551265938312468112:=0
def tw10099635165791074185:=0
def tw9932597228096237566:=0
def tw11441710144579403999:=0
def tw8259977155829640292:=0
def tw15076366459346766528:=0
def tw11845983061529225438:=0
def tw16908320096662569276:=0
def tw13579808037532073932:=0
def tw2056588667723841304:=0
def tw12852384717210571370:=0
def tw15147276212860081925:=0
def tw2531211994745267012:=0
def tw6945179097659240134:=0
def tw2704096896173566269:=0
def tw4503956238852882498:=0
def tw12190428309087360654:=0
def tw11422145010091684318:=0
def tw12156641481740197650:=0
def tw10560104668228275148:=0
def tw1640233210159838480:=0
def tw11687042483692128479:=0
def tw13266060034296119643:=0
def tw15510380026511701503:=0
def tw8935374199080370614:=0
def tw17077585754614808513:=0
def tw10467227802204410623:=0
def tw6572760366134915531:=0
def tw15383467908160213032:=0
def tw60673878398576140:=0
def tw14988068657799495072:=0
def tw12662138414070092077:=0
def tw11888137431105712040:=0
def tw18215286640264955164:=0
def tw10647941395353764753:=0
def tw10557030652554294986:=0
def tw6637007776267928767:=0
def tw15706634386350025326:=0
def tw10247701786254406348:=0
def tw17613300599078105006:=0
def tw9531113229150029175:=0
def tw10980228069138947756:=0
def tw7916822229602243351:=0
def tw12978647960217008126:=0
def tw7108506138396904156:=0
def tw15842693731898125402:=0
def tw6658122634881569614:=0
def tw12400427345126780044:=0
def tw17072869927697431607:=0
def tw7183156767829209729:=0
def tw12195196234674782371:=0
def tw15947008311926081070:=0
def tw13476606105395021138:=0
def tw10456174634815725911:=0
def tw11732128395164231954:=0
def tw13388848023361104544:=0
def tw5576090060508215364:=0
def tw11867944138220979023:=0
def tw15840736755156090430:=0
def tw1148556395508120663:=0
def tw13381161318012954404:=0
def tw15592462052749305228:=0
def tw8353037349484565821:=0
def tw7241219402417168611:=0
def tw4789854056426610794:=0
def tw15135633495903572520:=0
def tw13053495109664812682:=0
def tw16993500537342155623:=0
def tw7891436512480000269:=0
def tw7413064333777984682:=0
def tw6653292600674720952:=0
def tw8755982465737035906:=0
def tw5814251325895120876:=0
def tw11243784430042685273:=0
def tw14572470029586859694:=0
def tw15251718042729210117:=0
def tw12420324270275791754:=0
def tw9158836555492577744:=0
def tw15471264298601584333:=0
def tw310945049071729366:=0
end PySem.W.Fast
open PySem PySem.W PyProof.Rows
set_option maxRecDepth 100000 in
set_option maxHeartbeats 0 in
theorem PySem.Challenge.cw_treesay_k47_whole_plain_meaning_holds : PySem.Challenge.rw_treesay_k47_whole_plain_meaning.Holds := by
 w_on; o_law; k_head; (case hw=>w_witness2)
 k_fill
 refine Ts.walk (l:=PySem.Challenge.rw_treesay_k47_whole_plain_meaning) rfl rfl (fun w h Y=>by first | exact PySem.W.kIn_of Y | exact PySem.W.km_in_of Y) ?F
 case F =>
  intro w mg fa h KX G hmg
  refine' Ts.all_mk KX G hmg (Sy.Qx KX G ?_ ?_ ?_ ?_ ?_ ?_ ?_ ?_ ?_ ?_ ?_ ?_ ?_ ?_ ?_ ?_ ?_ ?_ ?_ ?_ ?_) ?_ ?_ ?_ ?_ ?_ ?_ ?_ ?_ ?_ ?_ ?_ ?_ ?_ ?_ ?_ ?_ ?_ ?_ ?_ ?_ ?_ ?_ ?_ ?_ ?_ ?_ ?_ ?_ ?_ ?_ ?_ ?_ ?_ ?_ ?_ ?_ ?_ ?_ ?_ ?_ ?_ ?_ ?_ ?_ ?_ ?_ ?_ ?_ ?_ ?_ ?_ ?_ ?_ ?_ ?_ ?_ ?_ ?_ ?_ ?_ ?_ ?_ ?_ ?_ ?_ ?_ ?_ ?_ ?_ ?_ ?_ ?_ ?_ ?_
  all_goals first | refine' Sy.Qw ?_ ⟨?_,?_,?_,?_⟩ (L2.lV ?_ ?_ ?_) ⟨?_,?_,?_,?_⟩ ?_ | refine' Sy.Qv ?_ ⟨?_,?_,?_,?_⟩ (L2.lV ?_ ?_ ?_) | refine' Sy.V9 ?_ (L2.lV ?_ ?_ ?_) | refine' Ts.Wb ⟨?_,?_,?_⟩ (L2.lV ?_ ?_ ?_) | refine' Ts.Wa ?_ (L2.lV ?_ ?_ ?_) | refine' Ts.Jd ?_ ?_ ?_ | refine' ⟨?_,?_,?_,?_⟩ | skip
  all_goals repeat' first | refine' And.intro ?_ ?_ | exact True.intro
  all_goals first | k_is | skip
  all_goals first | k_is | skip
#print axioms PySem.Challenge.cw_treesay_k47_whole_plain_meaning_holds
