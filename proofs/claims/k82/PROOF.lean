import PyProof.Rows.All
import Wide.All
import OpenK.AllK
import Wide.FinOn
import Lean
import PyProof.EqAt
import PyProof.EqKinds
import PyProof.TupleCall
import PyProof.NeKinds
import PyProof.EnumStmt
import PyProof.EnumMake
import PyProof.CompFree
import PyProof.Rows.FStr
import PySem.Challenge.RW_treesay_k82_no_machines
open PySem.W renaming Frag->afh,kitOne->afo,findIn->afv,mg_of->afx,nsIn->af7,kia_one->agd,fnOf->agl,keepIn->agw,emptyDict->ag0,hideAll_get->ag5,cellsFrom_some->ag7,hideAll_none->ahc,instObj->ahi,kitCls->aho,hideAll->ahx,of_hideAll->ahy,codeIn->ah3,funFrames_hide->ah4,plainGet->ah8,mroIn->ah9,plainGet_of->aif,exmOne->aio,lookIn->aip,hasDictIn->aiu,methodObj->aiv,specialIn->aiw,excIn->aiz,hideAll_none->ai6,OpenLaw->ai8,takerIn->ai9,takesIn->aja,isFn->ajl,looks_findIn->ajo
open List renaming getElem?_eq_getElem->afi,getElem?_eq_some_iff->afu,getElem?_eq_none->agx,range->aha,getElem?_set->ah2
open Nat renaming le_refl->afj,le_trans->afl,lt_of_lt_of_le->afq,lt_of_le_of_lt->aft,ne_of_lt->afy,zero_le->afz,lt_irrefl->af3,le_of_lt->af6,le_add_right->ahf,succ_le_succ->ahg,le_succ->ahn,add_sub_cancel_left->ah1,lt_succ_self->ah6,toDigits->aij,le_of_succ_le->ait,min_eq_left->ai7,lt_trans->ajk
open PySem renaming wpAny_bind->afk,boot_len->afp,mainGlobals->afs,wpAny_pure->afw,wpAny_mono->agc,mem_of_lookup->agk,Spec->ago,wpAny_passesOwn->ags,call_meets->agy,wpAny_truthy_bool->ag2,wpAny_comprehension_free->ahe,wpAny_execs_nil->ahj,wpAny_holding->ahw,typeIs_str->ahz,wpAny_Call_Name_kw->ah0,wpAny_standAt->aia,length_partsBetween->aii,list_append->aix,wpAny_assign_Name->aiy,wpAny_execs_cons->ai3,codeAny_mono->ai5,seqIndex_of->ajd,wpAny_field->aje,wpAny_call->aji,Within->ajm,seqIndex_neg->ajp
open Option.some renaming inj->afm
open PySem.F renaming plainAttrs_list->afn,plainAttrs_str->afr,slot_str_join->af8,type_str_join->af9,slot_list_append->agh,type_list_append->agi,slot_str_split->agu,type_str_split->agv,slot_list_insert->ahu,type_list_insert->ahv,args_list_append_2->aib,entry_list_append->aie,args_str_split_2->ail,slot_list_append->ain,entry_str_split->ais,slot_str_split->ai0
open PySem.Txt renaming partition->af0,split->ag1,slice->ai2,join->ajn
open Bool renaming false_ne_true->af2,and_eq_true->agf
open False renaming elim->af4
open PySem.PassesOwn renaming never->af5
open PySem.Builtin.Str renaming occurrences->aga,partsBetween->ahr
open PySem.Str renaming join->agb,ofString->agr,empty->ag8,length->ajh
open PySem.NameKind renaming free->agg,cell->aht
open PySem.Value renaming ref->agj,bool->ahb,none->ahh
open Sum renaming inl->agm,inr->agn
open PyProof.Rows renaming envOfC->agp,callWith_type1->ahl,joinParts_cons->ah5,formatField_str->ajb,joinParts_consE->ajc,joinParts_nil->ajg
open Option renaming isSome_iff_exists->agq,map_eq_some_iff->ag6,none->ajr
open Int renaming emod_lt_of_pos->agt,toNat_natCast->agz,emod_nonneg->ag4,ofNat->ai1
open ForInStep renaming yield->ag3
open Array renaming getElem?_eq_some_iff->ag9
open True renaming intro->ahd
open Ne renaming symm->ahk
open PySem.Builtin.List renaming listFitsIndex->ahm,listTooLong->ahq
open Classical renaming byContradiction->ahp
open List.cons renaming inj->ahs
open PySem.Obj renaming mapSeq->ah7
open Prod.mk renaming inj->aic
open PySem.Calls renaming Constant_str->aik
open PySem.StrLaws renaming join_split->aiq,split_free->air
open Char renaming toNat->ai4
open PySem.Paired renaming length->ajf
open Iff renaming rfl->ajj
open LawfulBEq renaming eq_of_beq->ajq
open List (mem_filter mem_range filterMap_cons mem_cons_of_mem mem_cons mem_append mem_append_left getElem_inj getElem?_set_self getElem?_set_ne mem_filterMap mem_append_right size_toArray length_map append_nil nodup_cons of_mem_zip replicate length length_take getElem?_take_of_lt mem_of_getElem? length_append length_replicate any_cons all_cons reverse_cons mem_cons_self all_eq_true lookup_append getElem?_append_right getElem?_map getD_eq_getElem?_getD toArray map_cons getElem?_cons_zero append_assoc map_append mem_map take_append_drop take_add_one Sublist take_length nil_append append_eq_nil_iff length_cons all_map filter_cons length_singleton filter_append mem_iff_getElem? getElem?_append_left mem_singleton nodup_append filter_eq_self getElem_mem find?_cons any_eq_true ext_getElem? set_set take_of_length_le length_drop getElem?_replicate map_id' eq_of_mem_replicate map_map length_nil map_congr_left length_filter_le pairwise_iff_getElem tail filter_map map_set length_set mem_or_eq_of_mem_set mem_of_mem_take mem_of_mem_drop set_append)
open PySem.Heap (lt_size SameBut get?_push_of_some get?_push_size size_push get?_update_other)
open Array (toList_append)
set_option Elab.async false
set_option linter.all false
set_option maxRecDepth 100000
noncomputable section
namespace L2
open PySem PySem.Spec PyProof.Rows
abbrev Key := Sum Int Str
def DP : Key→Value→Bool
  |.inl k, v => Value.isInt k v
  |.inr x, v => Value.isStrOf x v
def aei(w : World) : Key→Int
  |.inl k => hashInt k
  |.inr x => hashStr w x
theorem fj : ∀{k : Key}{v : Value}, DP k v=true→(∃i t, k=agm i∧v=Value.int i t)∨(∃x t, k=agn x∧v=Value.str x t)
  |.inl i, v, h => by
    obtain⟨t, e⟩ := Value.isInt_shape h
    grind
  |.inr x, v, h => by
    obtain⟨t, e⟩ := Value.isStrOf_shape h
    grind
theorem Pq(i : Int)(t : Tok) : DP (.inl i) (.int i t)=true := by simp[DP, Value.isInt]
theorem Pr(x : Str)(t : Tok) : DP (.inr x) (.str x t)=true := by simp[DP, Value.isStrOf]
theorem Z5(a b : Int) : decide ((agm a : Key)=agm b)=(a==b) := by
  grind
theorem Z6(a b : Str) : decide ((agn a : Key)=agn b)=decide (a=b) := by
  grind
theorem Z7(a : Int)(b : Str) : decide ((agm a : Key)=agn b)=false := decide_eq_false (λq => nomatch q)
theorem Z8(a : Str)(b : Int) : decide ((agn a : Key)=agm b)=false := decide_eq_false (λq => nomatch q)
def ig(prog : Program)(w : World) : PySem.KeyKind prog w Key where
  is := DP
  hash := aei w
  inj := λv a b m g => by
    rcases fj m with⟨i, t, rfl, rfl⟩|⟨x, t, rfl, rfl⟩
    · rcases fj g with⟨j, u, rfl, e⟩|⟨y, u, rfl, e⟩
      · injection e with d _;rw[d]
      · exact nomatch e
    · rcases fj g with⟨j, u, rfl, e⟩|⟨y, u, rfl, e⟩
      · exact nomatch e
      · injection e with d _;rw[d]
  byValue := λk v h => by
    rcases fj h with⟨i, t, rfl, rfl⟩|⟨x, t, rfl, rfl⟩<;>rfl
  pyHash := λf h => by
    rcases fj f with⟨i, t, rfl, rfl⟩|⟨x, t, rfl, rfl⟩
    · exact wpAny_pyHash_int h
    · exact wpAny_pyHash_str h
  eqBool := λl f h => by
    rcases fj l with⟨i, t, rfl, rfl⟩|⟨x, t, rfl, rfl⟩
    · rcases fj f with⟨j, u, rfl, rfl⟩|⟨y, u, rfl, rfl⟩
      · rw[Z5] at h;exact wpAny_eqBool_int h
      · rw[Z7] at h;exact SeqAt.EqAt.int_str i t y u _ _ _ _ h
    · rcases fj f with⟨j, u, rfl, rfl⟩|⟨y, u, rfl, rfl⟩
      · rw[Z8] at h;exact SeqAt.EqAt.str_int x t j u _ _ _ _ h
      · rw[Z6] at h;exact wpAny_eqBool_str h
  «strs» := λk x t v h => by
    rcases fj h with⟨i, u, rfl, e⟩|⟨y, u, rfl, e⟩
    · exact nomatch e
    · injection e with d _
      subst d
      cases v<;>rfl
theorem Iu(prog : Program)(w : World)(i : Int)(t : Tok) : (ig prog w).is (.inl i) (.int i t)=true := Pq i t
theorem Iv(prog : Program)(w : World)(x : Str)(t : Tok) : (ig prog w).is (.inr x) (.str x t)=true := Pr x t
inductive V where
  |non|bl (b : Bool)|int (i : Int)|str (x : Str)|Pu (b : Array UInt8)|flt (b : UInt64)|ref (a : Addr)|ty (n : String)
  deriving DecidableEq
def RelV : V→Value→Prop
  |.non, u => u=ahh
  |.bl b, u => u=ahb b
  |.int i, u => ∃t, u=Value.int i t
  |.str x, u => ∃t, u=Value.str x t
  |.Pu b, u => ∃t, u=Value.bytes b t
  |.flt b, u => ∃t, u=Value.float b t
  |.ref a, u => u=agj a
  |.ty n, u => u=Value.type n
abbrev Vals : List V→List Value→Prop := Paired RelV
theorem Vals.length(r : Vals xs us) : xs.length=us.length := ajf r
theorem Vals.get : ∀{xs : List V}{us : List Value}{i : Nat}{x : V}, Vals xs us→xs[i]?=some x→∃u, us[i]?=some u∧RelV x u
  |_, _, _, _, .nil, e => by simp at e
  |_, _, 0, _, .cons r _, e => by grind
  |_, _, i+1, x, .cons _ t, e => by
    obtain⟨u, h1, h2⟩ := Vals.get (i := i) (x := x) t (by grind)
    grind
theorem Vals.set(r : RelV x u) : ∀{xs : List V}{us : List Value}(i : Nat), Vals xs us→Vals (xs.set i x) (us.set i u)
  |_, _, _, .nil => .nil
  |_, _, 0, .cons _ t => .cons r t
  |_, _, i+1, .cons q t => .cons q (Vals.set r i t)
theorem Vals.append : ∀{xs ys : List V}{us ws : List Value}, Vals xs us→Vals ys ws→Vals (xs++ys) (us++ws)
  |_, _, _, _, .nil, s => s
  |_, _, _, _, .cons r t, s => .cons r (Vals.append t s)
theorem Vals.take : ∀{xs : List V}{us : List Value}(n : Nat), Vals xs us→Vals (xs.take n) (us.take n)
  |_, _, 0, _ => .nil
  |_, _, _+1, .nil => .nil
  |_, _, n+1, .cons r t => .cons r (Vals.take n t)
theorem Vals.drop : ∀{xs : List V}{us : List Value}(n : Nat), Vals xs us→Vals (xs.drop n) (us.drop n)
  |_, _, 0, r => r
  |_, _, _+1, .nil => .nil
  |_, _, n+1, .cons _ t => Vals.drop n t
theorem Vals.none_of : ∀{xs : List V}{us : List Value}{i : Nat}, Vals xs us→xs[i]?=none→us[i]?=none := λ{xs us i} r e => by
  have h1 := r.length
  grind
noncomputable def uF : Option V→Option Value→Prop
  |some v, some u => RelV v u
  |none, none => True
  |_, _ => False
def KV{κ : Type} : List (κ×V)→List (κ×Value)→Prop := Paired λ(p : κ×V) (q : κ×Value) => p.1=q.1∧RelV p.2 q.2
def kV : Key→V
  |.inl i => .int i
  |.inr x => .str x
inductive HO where
  |lst (xs : List V)
  |tup (xs : List V)
  |dK (kvs : List (Key×V))|dT (kvs : List (List Key×V))
  |set (S : Int→Bool) (n : Nat)
  |ins (C dx : Addr) (fs : List (Str×V))
  |own (x : Addr)
  |xd (fs : List (Str×V))
  |met (f x : Addr)
  |rng (lo hi : Int)
  |Iw (o : Obj) (u : HO)
  |Zb (ps : Array Value)
  |ext (φ : Heap→Prop)
abbrev Hp := Addr→Option HO
def upd(H : Hp)(a : Addr)(o : HO) : Hp := λb => if b=a then some o else H b
theorem aY : upd H a o a=some o := by unfold upd;grind
theorem aP(h : b≠a) : upd H a o b=H b := by unfold upd;grind
theorem ach{H : Hp}{a b : Addr}{o u : HO}(h : H a=some o)(h' : H b=some u)(d : o≠u) : a≠b := by
  grind
theorem aR{H : Hp}{a b : Addr}{o : HO}(h : H a=some o)(h' : H b=none) : a≠b := by
  grind
section
variable(P : Program)(w : World)
def gb(H : Hp)(h : Heap)(a : Addr) : HO→Prop
  |.lst e => e.length≤sizeLine∧∃(b : List Value)(n : Nat), Vals e b∧h.get? a=some { cls := .type "list", data := .seq b.toArray n }
  |.tup e => e.length≤sizeLine∧∃b : List Value, Vals e b∧IsTup h a b.toArray
  |.dK d => d.length≤sizeLine∧(a==sysModules)=false∧∃l, KV d l∧h.DictOf (ig P w) a l
  |.dT d => d.length≤sizeLine∧(a==sysModules)=false∧∃e : List (List Key×Addr×Value),
      Paired (λ(p : List Key×V) (q : List Key×Addr×Value) => p.1=q.1∧H q.2.1=some (.tup (p.1.map kV))∧RelV p.2 q.2.2) d e ∧
      ∃o k z, h.get? a=some o∧o.ExactDict∧o.data=.dict k z∧k.toList=e.map (entryOfKey (tupleKind (ig P w)))∧(e.map (·.1)).Nodup
  |.set S n => h.SetOf (intKind P w) a S n
  |.ins C j i => H j=some (.own a)∧i.length≤1000∧j≠a∧h.get? a=some (ahi C j) ∧
      ∃g, h.Ns1 j g∧(∀f, uF (i.lookup f) (g f))∧ajm g (i.map (·.1))
  |.own _ => ∃o, h.get? a=some o
  |.xd i => ∃g, h.Ns1 a g∧∀f, uF (i.lookup f) (g f)
  |.rng lo s => ∃t u v, h.get? a=some { cls := .type "range", data := .fields #[.int lo t, .int s u, .int 1 v] }
  |.Iw o u => h.get? a=some o∧gb H h a u
  |.Zb y => h.get? a=some { cls := .none, data := .fields y }
  |.met f x => h.get? a=some (aiv (.ref f) (.ref x))
  |.ext φ => φ h∧(∃o, h.get? a=some o)∧∀r m : Heap, φ r→(∀o, r.get? a=some o→m.get? a=some o)→φ m
def qj(H : Hp)(h : Heap) : Prop := ∀a o, H a=some o→gb P w H h a o
end
section
variable{P : Program}{w : World}{H H' : Hp}{h h' : Heap}{a : Addr}{o : HO}
theorem gb.lt(x : gb P w H h a o) : a<h.objs.size := by
  cases o with
  |lst d => obtain⟨_, _, _, _, e⟩ := x;exact lt_size e
  |tup d => obtain⟨_, _, _, p⟩ := x;exact p.lt
  |dK b => obtain⟨_, _, _, _, o, _, _, e, _⟩ := x;exact lt_size e
  |dT b => obtain⟨_, _, _, _, o, _, _, e, _⟩ := x;exact lt_size e
  |set S n => obtain⟨o, _, _, _, e, _⟩ := x;exact lt_size e
  |ins C dx c => obtain⟨_, _, _, e, _⟩ := x;exact lt_size e
  |own y => obtain⟨_, e⟩ := x;exact lt_size e
  |xd c => obtain⟨_, ⟨_, _, _, e, _⟩, _⟩ := x;exact lt_size e
  |rng lo hi => obtain⟨_, _, _, e⟩ := x;exact lt_size e
  |Iw ob u => obtain⟨e, _⟩ := x;exact lt_size e
  |Zb ps => exact lt_size (x)
  |met f y => exact lt_size (x)
  |ext φ => obtain⟨_, ⟨_, e⟩, _⟩ := x;exact lt_size e
theorem Paired.Z9{α β : Type}{F G : α→β→Prop} : ∀{d : List α}{c : List β}, Paired F d c→(∀a b, F a b→G a b)→Paired G d c
  |_, _, .nil, _ => .nil
  |_, _, .cons r t, f => .cons (f _ _ r) (Paired.Z9 t f)
theorem gb.stay(x : gb P w H h a o)(k : ∀b u, (b=a∨H b=some (.own a))→h.get? b=some u→h'.get? b=some u)(G : ∀b, H b=some (.own a)→H' b=some (.own a))(I : ∀b xs, H b=some (.tup xs)→H' b=some (.tup xs)) : gb P w H' h' a o := by
  induction o with
  |lst xs => obtain⟨z, m, n, r, e⟩ := x;exact⟨z, m, n, r, k _ _ (.inl rfl) e⟩
  |tup xs => obtain⟨z, m, r, g, e, c⟩ := x;exact⟨z, m, r, g, k _ _ (.inl rfl) e, c⟩
  |dK B => obtain⟨z, y, J, r, g, i, j, e, c⟩ := x;exact⟨z, y, J, r, g, i, j, k _ _ (.inl rfl) e, c⟩
  |dT B =>
    obtain⟨z, y, xs, r, g, i, j, e, c⟩ := x
    exact⟨z, y, xs, Paired.Z9 r λp q z => ⟨z.1, I _ _ z.2.1, z.2.2⟩, g, i, j, k _ _ (.inl rfl) e, c⟩
  |set S n => obtain⟨g, i, j, t, e, c⟩ := x;exact⟨g, i, j, t, k _ _ (.inl rfl) e, c⟩
  |ins C dx F =>
    obtain⟨d, z, E, e, A, ⟨s, i, j, e2, c⟩, r⟩ := x
    exact⟨G _ d, z, E, k _ _ (.inl rfl) e, A, ⟨s, i, j, k _ _ (.inr d) e2, c⟩, r⟩
  |own y => obtain⟨g, e⟩ := x;exact⟨g, k _ _ (.inl rfl) e⟩
  |xd F => obtain⟨A, ⟨s, i, j, e, c⟩, r⟩ := x;exact⟨A, ⟨s, i, j, k _ _ (.inl rfl) e, c⟩, r⟩
  |rng lo hi => obtain⟨t, u, v, e⟩ := x;exact⟨t, u, v, k _ _ (.inl rfl) e⟩
  |Iw g u ih => obtain⟨e, q⟩ := x;exact⟨k _ _ (.inl rfl) e, ih q⟩
  |Zb D =>
    have e : h.get? a=some { cls := .none, data := .fields D } := x
    show h'.get? a=some { cls := .none, data := .fields D }
    grind
  |met f y =>
    have e : h.get? a=some (aiv (.ref f) (.ref y)) := x
    show h'.get? a=some (aiv (.ref f) (.ref y))
    grind
  |ext φ => obtain⟨p, ⟨o, e⟩, st⟩ := x;exact⟨st _ _ p λo q => k _ _ (.inl rfl) q, ⟨o, k _ _ (.inl rfl) e⟩, st⟩
theorem qj.lt(x : qj P w H h)(e : H a=some o) : a<h.objs.size := (x a o e).lt
theorem qj.fresh(x : qj P w H h)(e : h.objs.size≤a) : H a=none := by
  cases q : H a with
  |none => rfl
  |some u => exact absurd (afq (x.lt q) e) (af3 _)
theorem qj.kept(x : qj P w H h)(k : ∀b u, h.get? b=some u→h'.get? b=some u) : qj P w H h' := λa o e =>
  (x a o e).stay (λb u _ q => k b u q) (λ_ q => q) λ_ _ q => q
theorem qj.laid(x : qj P w H h)(k : ∀b u, h.get? b=some u→h'.get? b=some u)(g : h.objs.size≤a)(new : gb P w (upd H a o) h' a o) : qj P w (upd H a o) h' := λb u e => by
  have f := x.fresh g
  by_cases d : b=a
  · subst d;rw[aY] at e;grind
  · rw[aP d] at e
    exact(x b u e).stay (λc v _ q => k c v q) (λc q => by rw[aP (aR q f)];exact q) λc xs q => by rw[aP (aR q f)];exact q
end
def Rd(H : Hp)(a : Addr)(u : HO) : Prop := H a=some u∨∃o, H a=some (.Iw o u)
theorem Rd.ok(r : Rd H a u)(x : qj P w H h) : gb P w H h a u := by
  rcases r with r|⟨o, r⟩
  · exact x a u r
  · obtain⟨_, q⟩ := x a _ r
    exact q
noncomputable def Mut : Option HO→Prop
  |some (.lst _) => True
  |some (.dK _) => True
  |some (.dT _) => True
  |some (.set _ _) => True
  |some (.ins _ _ _) => True
  |some (.ext _) => True
  |_ => False
section
variable{P : Program}{w : World}{H : Hp}{h h' : Heap}{x e : Addr}{o' : HO}
theorem qj.write(m : qj P w H h)(g : Mut (H x))(he : e=x∨H e=some (.own x))(k : ∀b u, b≠e→h.get? b=some u→h'.get? b=some u)(i : ∃u, h'.get? e=some u)(new : gb P w (upd H x o') h' x o') : qj P w (upd H x o') h' := λb u q => by
  have a : ∀c y, H c=some (.own y)→c≠x := λc y r z => by subst z;rw[r] at g;exact g
  have d : ∀c f, H c=some (.tup f)→c≠x := λc f r z => by subst z;rw[r] at g;exact g
  by_cases j : b=x
  · subst j;rw[aY] at q;grind
  · rw[aP j] at q
    by_cases hbe : b=e
    · have l : H b=some (.own x) := by
        grind
      rw[q] at l;cases l
      obtain⟨v, hv⟩ := i
      exact⟨v, by grind⟩
    · refine(m b u q).stay (λc v hc r => k c v ?_ r) (λc r => by rw[aP (a c b r)];exact r) λc f r => by rw[aP (d c f r)];exact r
      grind
end
structure Un(fs ex : List Addr)(H H' : Hp)(h h' : Heap) : Prop where
  keep : ∀b o, h.get? b=some o→H b=none→b∉fs→b∉ex→h'.get? b=some o
  slot : ∀b o, h.get? b=some o→H b=none→b∈fs→b∉ex→∃sl, h'.get? b=some { o with slots := sl }
  free : ∀b o, h.get? b=some o→H b=none→b∉ex→H' b=none
  there : ∀b o, h.get? b=some o→b∉ex→∃o', h'.get? b=some o'
  tups : ∀b xs, H b=some (.tup xs)→H' b=some (.tup xs)
  zM : ∀b o u, H b=some (.Iw o u)→H' b=some (.Iw o u)
  Ax : ∀b ps, H b=some (.Zb ps)→∃more, H' b=some (.Zb (ps++more))
section
variable{fs fs' ex ex' : List Addr}{H H1 H2 : Hp}{h h1 h2 h' : Heap}{a x e : Addr}{o : HO}
theorem Un.any(u : Un fs ex H H1 h h1)(q : h.get? b=some ob)(n : H b=none)(d : b∉ex) : ∃f, h1.get? b=some { ob with slots := f } := by
  by_cases c : b∈fs
  · exact u.slot b ob q n c d
  · exact⟨ob.slots, u.keep b ob q n c d⟩
theorem Un.kept(k : ∀b u, h.get? b=some u→h'.get? b=some u) : Un fs ex H H h h' :=
  ⟨λb c q _ _ _ => k b c q, λb c q _ _ _ => ⟨c.slots, k b c q⟩, λ_ _ _ n _ => n, λb c q _ => ⟨c, k b c q⟩, λ_ _ q => q, λ_ _ _ q => q, λ_ ps q => ⟨#[], by grind⟩⟩
theorem Un.refl : Un fs ex H H h h := Un.kept λ_ _ q => q
theorem Un.laid(k : ∀b u, h.get? b=some u→h'.get? b=some u)(d : h.objs.size≤a)(c : H a=none) : Un fs ex H (upd H a o) h h' where
  keep := λb u q _ _ _ => k b u q
  slot := λb u q _ _ _ => ⟨u.slots, k b u q⟩
  free := λb u q n _ => by rw[aP (afy (afq (lt_size q) d))];exact n
  there := λb u q _ => ⟨u, k b u q⟩
  tups := λb f q => by rw[aP (aR q c)];exact q
  zM := λb u f q => by rw[aP (aR q c)];exact q
  Ax := λb ps q => ⟨#[], by rw[aP (aR q c), q];simp⟩
theorem Un.write(d : Mut (H x))(he : e=x∨H e=some (.own x))(k : ∀b u, b≠e→h.get? b=some u→h'.get? b=some u)(heo : ∃u, h'.get? e=some u) : Un fs ex H (upd H x o) h h' := by
  have g : ∀b, H b=none→b≠x := λb n z => by subst z;rw[n] at d;exact d
  have f : ∀b, H b=none→b≠e := λb n z => by
    grind
  have c : ∀b u, H b=some u→¬Mut (some u)→b≠x := λb u q nm z => by grind
  refine⟨λb u q n _ _ => k b u (f b n) q, λb u q n _ _ => ⟨u.slots, k b u (f b n) q⟩, λb u q n _ => by rw[aP (g b n)];exact n, λb u q _ => ?_,
    λb i q => by rw[aP (c b _ q λz => z)];exact q, λb u i q => by rw[aP (c b _ q λz => z)];exact q, λb ps q => ⟨#[], by rw[aP (c b _ q λz => z), q];simp⟩⟩
  grind
end
def trk(h : Heap)(H : Hp) : List Addr := (aha h.objs.size).filter λa => (H a).isSome
def Gh(h : Heap)(H : Hp) : Heap := ahx h (trk h H)
theorem Px(h : Heap)(H : Hp) : (Gh h H).objs.size=h.objs.size := PySem.W.hideAll_size _ _
theorem RB{h : Heap}(e : h.get? b=some o)(n : H b=none) : (Gh h H).get? b=some o :=
  ag5 _ e λa => by
    have q := (mem_filter.mp a).2
    grind
theorem W_(e : (Gh h H).get? b=some o) : h.get? b=some o∧H b=none := by
  have c := ahy (trk h H) e
  refine⟨c, ?_⟩
  cases q : H b with
  |none => rfl
  |some x =>
    have d : b∈trk h H := mem_filter.mpr ⟨mem_range.mpr (lt_size c), by simp[q]⟩
    have z : (Gh h H).get? b=none := ahc (trk h H) d
    grind
def Xa(g h : Heap)(L : Addr) : List (Addr×Obj) := (aha h.objs.size).filterMap λa => if a=L∨(g.get? a).isSome=true then none else(h.get? a).map λo => (a, o)
def rest(g h : Heap)(L d : Addr) : List (Addr×Obj) := (Xa g h L).filter λp => decide (p.1≠d)
structure Mod(K : afh)(mg : Str→Option Value)(base : Heap) : Prop where
  kin : K.In base
  glob : base.Ns afs mg
  blt : ∃mb, base.Ns builtinsNs mb∧∀x : Str, x ≠ "__name__" → mb x=bootBuiltins x
  nolimit : base.NoLimit
structure Cx where
  prog : Program
  w : World
  K : afh
  mg : Str→Option Value
  base : Heap
  A : Around
  N : List Str
  s₀ : Shared
  H₀ : Hp
  env : Env
  outer : List Env
  stack : List Env
  ex : List Addr
  fn : Str→Bool
  calm : Bool
  pn : List (Addr×Obj)
  xe : Value→Shared→Prop
def frs(l : List Env) : List Addr := l.filterMap (·.frame)
abbrev Cx.fs(X : Cx) : List Addr := frs X.outer
def Vis(a : Scope)(x : Str) : Prop := a.names.lookup x=some .local∨a.names.lookup x=some .cell∨a.names.lookup x=some .free
def Loc(a : Scope)(x : Str) : Prop := a.names.lookup x=some .local∨a.names.lookup x=some .cell
def Look(env : Env)(h : Heap)(m : Str→Option Value)(x : Str)(u : Value) : Prop :=
  (env.kindOf x=some .local∧m x=some u)∨((env.kindOf x=some .cell∨env.kindOf x=some .free)∧∃c, env.cells.lookup x=some c∧h.IsCell c (some u))
structure Cx.Ok(X : Cx) : Prop where
  mod : Mod X.K X.mg X.base
  kind : X.env.scope.kind=.function
  glob : X.env.globals=afs
  blt : X.env.builtins=builtinsNs
  above : X.s₀.heap.objs.size≤X.env.locals
  inj : ∀x y c, X.env.cells.lookup x=some c→X.env.cells.lookup y=some c→x=y
  has : ∀x, (X.env.kindOf x=some .cell∨X.env.kindOf x=some .free)→∃c, X.env.cells.lookup x=some c
  cab : ∀x c, X.fn x=true→X.env.cells.lookup x=some c→X.s₀.heap.objs.size≤c
  hd : X.calm=true→X.A.handled=none
  frames : X.A.frames=some X.stack
  stk : X.stack=X.outer∨(X.stack=X.env::X.outer∧X.env.frame=some X.env.locals)
  Zc : ∀b∈X.ex, b≠X.env.locals∧∀x c, X.env.cells.lookup x=some c→c≠b
  bs : ∀b o, X.base.get? b=some o→X.s₀.heap.get? b=some o∧X.H₀ b=none
  RD : X.base.objs.size≤X.s₀.heap.objs.size
  Kh : ∀b o, X.base.get? b=some o→b∉X.ex
  Iz : ∀b∈X.ex, b∉X.fs
  wF : X.s₀.heap.FunFrames X.base X.outer
  Xb : ∀b∈X.fs, X.H₀ b=none
structure Inv(X : Cx)(pins : List (Addr×Obj))(σ : List (Option V))(H : Hp)(s : Shared) : Prop where
  ok : X.Ok
  os : s.os=X.s₀.os
  bare : AllBare s.gens
  base : Un X.fs X.ex X.H₀ H X.s₀.heap s.heap
  loc : ∃m, s.heap.Ns X.env.locals m∧∀(i : Nat)(x : Str)(v : V), X.N[i]?=some x→σ[i]?=some (some v)→Vis X.env.scope x→∃u, RelV v u∧Look X.env s.heap m x u
  cell : ∀x c, X.env.cells.lookup x=some c→∃v, s.heap.IsCell c v
  free : H X.env.locals=none
  mQ : ∀x c, X.env.cells.lookup x=some c→H c=none
  pin : ∀p∈X.pn++pins, s.heap.get? p.1=some p.2∧H p.1=none∧p.1≠X.env.locals∧p.1∉X.fs∧∀v, p.2.data≠.cell v
  hok : qj X.prog X.w H s.heap
  len : σ.length=X.N.length
section
variable{X : Cx}{pins : List (Addr×Obj)}{σ : List (Option V)}{H H' : Hp}{s : Shared}{h' : Heap}
theorem Cx.Ok.aej(c : X.Ok)(e : X.base.get? b=some o) : b∉X.fs := λa => by
  have := (c.wF.mem a).1
  grind
theorem Inv.bs(I : Inv X pins σ H s) : ∀b o, X.base.get? b=some o→s.heap.get? b=some o∧H b=none := λb o e =>
  ⟨I.base.keep b o (I.ok.bs b o e).1 (I.ok.bs b o e).2 (I.ok.aej e) (I.ok.Kh b o e), I.base.free b o (I.ok.bs b o e).1 (I.ok.bs b o e).2 (I.ok.Kh b o e)⟩
theorem Inv.bk(I : Inv X pins σ H s) : ∀b o, X.base.get? b=some o→s.heap.get? b=some o := λb o e => (I.bs b o e).1
theorem Inv.mod(I : Inv X pins σ H s) : Mod X.K X.mg X.base := I.ok.mod
theorem Inv.za(I : Inv X pins σ H s) : X.K.In s.heap := I.ok.mod.kin.keeps I.bk
theorem Inv.nolimit(I : Inv X pins σ H s) : s.heap.NoLimit := I.ok.mod.nolimit.keeps I.bk
theorem Inv.lt(I : Inv X pins σ H s) : X.env.locals<s.heap.objs.size := let⟨_, a, _⟩ := I.loc;a.lt
theorem Inv.sz(I : Inv X pins σ H s) : X.s₀.heap.objs.size≤s.heap.objs.size := afl I.ok.above (af6 I.lt)
theorem Inv.Py(I : Inv X pins σ H s)(h : s.heap.objs.size≤a) : a∉X.fs := λc => by
  obtain⟨_, o, b, _⟩ := I.ok.wF.mem c
  exact absurd (afq (lt_size b) (afl I.sz h)) (af3 _)
theorem Inv.cne(I : Inv X pins σ H s) : ∀x c, X.env.cells.lookup x=some c→c≠X.env.locals := λx c e z => by
  obtain⟨v, o, ho, hd⟩ := I.cell x c e
  obtain⟨m, ⟨o', es, ep, ho', hd', _⟩, _⟩ := I.loc
  grind
theorem Inv.wF(I : Inv X pins σ H s) : s.heap.FunFrames X.base X.outer := by
  have a : ∀(l : List Env), (∀b∈frs l, b∈X.fs)→X.s₀.heap.FunFrames X.base l→s.heap.FunFrames X.base l := by
    intro l
    induction l with
    |nil => intro _ _;trivial
    |cons env r ih =>
      intro g j
      obtain⟨n, ⟨L, o, f, h, k, m⟩, i⟩ := j
      have d := g L (by unfold frs;grind)
      obtain⟨sl, e⟩ := I.base.slot L o k (I.ok.Xb L d) d λz => I.ok.Iz L z d
      exact⟨n, ⟨L, _, f, h, e, m⟩, ih (λb c => g b (by unfold frs;rw[filterMap_cons, f];exact mem_cons_of_mem _ c)) i⟩
  exact a X.outer (λ_ c => c) I.ok.wF
theorem Inv.stack(I : Inv X pins σ H s) : s.heap.FunFrames X.base X.stack := by
  rcases I.ok.stk with e|⟨e, c⟩
  · rw[e];exact I.wF
  · rw[e]
    obtain⟨m, b, _⟩ := I.loc
    refine .cons (by rw[I.ok.kind];decide) c b ?_ I.wF
    exact Heap.get?_none_of_le (afl I.ok.RD I.ok.above)
theorem Inv.rz(I : Inv X pins σ H s) : ∀b∈frs X.stack, b∈X.env.locals::X.fs := λb a => by
  rcases I.ok.stk with e|⟨e, c⟩
  · grind
  · rw[e] at a
    unfold frs at a
    rw[filterMap_cons, c] at a
    exact a
theorem Inv.Gi(I : Inv X pins σ H s) : ∀b∈frs X.stack, H b=none := λb a => by
  rcases mem_cons.mp (I.rz b a) with e|a
  · rw[e];exact I.free
  · obtain⟨_, o, c, _⟩ := I.ok.wF.mem a
    exact I.base.free b o c (I.ok.Xb b a) λz => I.ok.Iz b z a
theorem Inv.step{g' : Array GenState}{t' : Nat}{d' : Drawn}{ch : List Addr}(I : Inv X pins σ H s)(t : ∀b∈ch, (b∈X.ex∨X.s₀.heap.objs.size≤b)∧b≠X.env.locals∧(∀x c, X.env.cells.lookup x=some c→c≠b)∧∀p∈X.pn++pins, p.1≠b)(A : ∀b o, b≠X.env.locals→b∉X.fs→b∉ch→s.heap.get? b=some o→H b=none→h'.get? b=some o)(y : ∀b o, b≠X.env.locals→b∈X.fs→b∉ch→s.heap.get? b=some o→H b=none→∃Q, h'.get? b=some { o with slots := Q })(f : ∀b o, b∉ch→s.heap.get? b=some o→H b=none→H' b=none)(B : ∀b o, b∉ch→s.heap.get? b=some o→∃J, h'.get? b=some J)(E : ∀b xs, H b=some (.tup xs)→H' b=some (.tup xs))(F : ∀b o u, H b=some (.Iw o u)→H' b=some (.Iw o u))(G : ∀b ps, H b=some (.Zb ps)→∃N, H' b=some (.Zb (ps++N)))(ns : ∀m, s.heap.Ns X.env.locals m→h'.Ns X.env.locals m)(S : qj X.prog X.w H' h')(Y : AllBare g') :
    Inv X pins σ H' { s with heap := h', gens := g', drawn := d', toks := t' } := by
  have M : ∀b o, X.s₀.heap.get? b=some o→b≠X.env.locals := λb o e => afy (afq (lt_size e) I.ok.above)
  have h : ∀b o, X.s₀.heap.get? b=some o→b∉X.ex→b∉ch := λb o e a C => by
    rcases(t b C).1 with z|z
    · exact a z
    · exact absurd (afq (lt_size e) z) (af3 _)
  have g : ∀x c, X.env.cells.lookup x=some c→∀v, s.heap.IsCell c v→h'.IsCell c v := λx c e v ⟨o, D, P⟩ => by
    have L : c∉ch := λz => (t c z).2.2.1 x c e rfl
    by_cases T : c∈X.fs
    · obtain⟨Q, q⟩ := y c o (I.cne x c e) T L D (I.mQ x c e)
      exact⟨_, q, P⟩
    · exact⟨o, A c o (I.cne x c e) T L D (I.mQ x c e), P⟩
  refine⟨I.ok, I.os, Y, ⟨λb o e n C a => ?_, λb o e n C a => ?_, λb o e n a => ?_, λb o e a => ?_, λb xs e => E b xs (I.base.tups b xs e), λb o xs e => F b o xs (I.base.zM b o xs e), λb ps e => ?_⟩, ?_, λx c e => ?_, ?_, λx c e => ?_, λp hp => ?_, S, I.len⟩
  · exact A b o (M b o e) C (h b o e a) (I.base.keep b o e n C a) (I.base.free b o e n a)
  · obtain⟨Q, j⟩ := I.base.slot b o e n C a
    obtain⟨R, O⟩ := y b _ (M b o e) C (h b o e a) j (I.base.free b o e n a)
    exact⟨R, O⟩
  · obtain⟨J, j⟩ := I.base.there b o e a
    exact f b J (h b o e a) j (I.base.free b o e n a)
  · obtain⟨J, j⟩ := I.base.there b o e a
    exact B b J (h b o e a) j
  · obtain⟨m1, j⟩ := I.base.Ax b ps e
    obtain⟨W, O⟩ := G b _ j
    exact⟨m1++W, by rw[O, Array.append_assoc]⟩
  · obtain⟨m, Z, U⟩ := I.loc
    refine⟨m, ns m Z, λi x v j O e3 => ?_⟩
    obtain⟨u, r, l⟩ := U i x v j O e3
    refine⟨u, r, ?_⟩
    rcases l with l|⟨k, c, e, z⟩
    · exact .inl l
    · exact .inr ⟨k, c, e, g x c e _ z⟩
  · obtain⟨v, z⟩ := I.cell x c e
    exact⟨v, g x c e v z⟩
  · obtain⟨m, ⟨o, _, _, D, _⟩, _⟩ := I.loc
    exact f _ o (λz => (t _ z).2.1 rfl) D I.free
  · obtain⟨v, o, D, P⟩ := I.cell x c e
    exact f c o (λz => (t c z).2.2.1 x c e rfl) D (I.mQ x c e)
  · obtain⟨e, n, ne, nf, d⟩ := I.pin p hp
    grind
theorem Inv.un(I : Inv X pins σ H s)(u : Un X.fs [] H H' s.heap h')(c : qj X.prog X.w H' h') : Inv X pins σ H' { s with heap := h', toks := t' } := by
  obtain⟨m, ⟨o, es, ep, h, r⟩, _⟩ := id I.loc
  obtain⟨sl, i⟩ := u.any h I.free (by simp)
  exact I.step (ch := []) (λ_ z => nomatch z) (λb o _ f _ e n => u.keep b o e n f (by simp)) (λb o _ f _ e n => u.slot b o e n f (by simp)) (λb o _ e n => u.free b o e n (by simp)) (λb o _ e => u.there b o e (by simp)) u.tups u.zM u.Ax (λm' k => by
    obtain⟨o', g, d, a, j⟩ := k
    rw[h] at a;cases a
    exact⟨_, g, d, i, j⟩) c I.bare
theorem Inv.call(I : Inv X pins σ H s)(u : Un (frs X.stack) ch H H' s.heap h')(i : qj X.prog X.w H' h')(y : AllBare g')(f : ∀b∈ch, (b∈X.ex∨X.s₀.heap.objs.size≤b)∧b≠X.env.locals∧(∀x c, X.env.cells.lookup x=some c→c≠b)∧∀p∈X.pn++pins, p.1≠b) :
    Inv X pins σ H' { s with heap := h', gens := g', drawn := d', toks := t' } := by
  obtain⟨m, ⟨o, es, ep, l, r⟩, _⟩ := id I.loc
  obtain⟨sl, j⟩ := u.any l I.free λz => (f _ z).2.1 rfl
  exact I.step f (λb o j q d e n => u.keep b o e n (λz => (mem_cons.mp (I.rz b z)).elim j q) d) (λb o _ _ d e n => u.any e n d) (λb o d e n => u.free b o e n d) (λb o d e => u.there b o e d) u.tups u.zM u.Ax (λm' t => by
    obtain⟨o', k, h, g, v⟩ := t
    rw[l] at g;cases g
    exact⟨_, k, h, j, v⟩) i y
theorem Inv.turned(I : Inv X pins σ H s)(k : ∀b o, b≠a→s.heap.get? b=some o→h'.get? b=some o)(hn : H a=none)(i : a≠X.env.locals)(h1 : a∈X.ex∨X.s₀.heap.objs.size≤a)(h2 : ∀x c, X.env.cells.lookup x=some c→c≠a)(h3 : ∀p∈X.pn++pins, p.1≠a) : Inv X pins σ H { s with heap := h', toks := t' } := by
  refine I.step (g' := s.gens) (d' := s.drawn) (ch := [a]) (λb hb => ?_) (λb o _ _ d e _ => k b o (λz => d (by simp[z])) e) (λb o _ _ d e _ => ⟨o.slots, k b o (λz => d (by simp[z])) e⟩) (λ_ _ _ _ n => n)
    (λb o d e => ⟨o, k b o (λz => d (by simp[z])) e⟩) (λ_ _ e => e) (λ_ _ _ e => e) (λb ps e => ⟨#[], by grind⟩) (λm f => ?_) (λb u e => ?_) I.bare
  · grind
  · obtain⟨o, j, h, g, r⟩ := f
    exact⟨o, j, h, k _ o (ahk i) g, r⟩
  · refine(I.hok b u e).stay (λc v d q => k c v ?_ q) (λ_ q => q) λ_ _ q => q
    grind
theorem Inv.tok(I : Inv X pins σ H s)(t : Nat) : Inv X pins σ H { s with toks := t } := I.un Un.refl I.hok
theorem Inv.kept(I : Inv X pins σ H s)(k : ∀b u, s.heap.get? b=some u→h'.get? b=some u) : Inv X pins σ H { s with heap := h', toks := t' } := I.un (Un.kept k) (I.hok.kept k)
theorem Inv.laid(I : Inv X pins σ H s)(k : ∀b u, s.heap.get? b=some u→h'.get? b=some u)(c : s.heap.objs.size≤a)(d : gb X.prog X.w (upd H a o) h' a o) :
    Inv X pins σ (upd H a o) { s with heap := h', toks := t' } := I.un (Un.laid k c (I.hok.fresh c)) (I.hok.laid k c d)
theorem Inv.write(I : Inv X pins σ H s)(d : Mut (H x))(f : e=x∨H e=some (.own x))(k : ∀b u, b≠e→s.heap.get? b=some u→h'.get? b=some u)(a : ∃u, h'.get? e=some u)(c : gb X.prog X.w (upd H x o) h' x o) : Inv X pins σ (upd H x o) { s with heap := h', toks := t' } := I.un (Un.write d f k a) (I.hok.write d f k a c)
theorem Inv.oO(I : Inv X pins σ H s)(h : ∀p∈Nf, s.heap.get? p.1=some p.2∧H p.1=none∧p.1≠X.env.locals∧p.1∉X.fs∧∀v, p.2.data≠.cell v) : Inv X Nf σ H s :=
  ⟨I.ok, I.os, I.bare, I.base, I.loc, I.cell, I.free, I.mQ, λp a => (mem_append.mp a).elim (λz => I.pin p (mem_append_left _ z)) (h p), I.hok, I.len⟩
theorem IV{N : List Str}(c : N.Nodup){i j : Nat}{x : Str}(a : N[i]?=some x)(b : N[j]?=some x) : i=j := by
  obtain⟨h1, e⟩ := afu.mp a
  obtain⟨h2, d⟩ := afu.mp b
  exact(getElem_inj c).mp (e.trans d.symm)
theorem xZ{Q : Unit→Shared→Prop}(I : Inv X pins σ H s)(hN : X.N.Nodup)(S : X.N[i]?=some x)(B : Loc X.env.scope x)(r : RelV v u)(h : ∀s', Inv X pins (σ.set i (some v)) H s'→(∃a, SameBut a s.heap s'.heap∧(a=X.env.locals∨X.env.cells.lookup x=some a))→Q () s')(hf : X.fn x=true∨X.env.scope.names.lookup x=some .local := by first|exact .inl rfl|exact .inr rfl|assumption) : wpAny M A (storeName X.env x u) Q E s := by
  obtain⟨m, hn, hl⟩ := id I.loc
  have U : (X.env.scope.kind==.class||(X.env.scope.kind==.module&&X.env.locals != X.env.globals))=false := by rw[I.ok.kind];rfl
  have W : i<σ.length := by rw[I.len];exact(afu.mp S).1
  have O := I.cne
  have l : ∀{a : Addr}{h' : Heap}, (∃o, s.heap.get? a=some o∧H a=none)→SameBut a s.heap h'→qj X.prog X.w H h' := λ{a h'} ha f b ob e => by
    obtain⟨_, _, C⟩ := ha
    refine(I.hok b ob e).stay (λc w' t q => (f.2 c ?_).trans q) (λ_ q => q) λ_ _ q => q
    rintro rfl
    rcases t with rfl|t
    · rw[C] at e;cases e
    · rw[C] at t;cases t
  rcases B with F|F
  · refine wpAny_storeName_local F hn (λh' hn' f => ?_) U
    obtain⟨oL, _, _, hoL, _⟩ := id hn
    refine h _ ⟨I.ok, I.os, I.bare, ⟨λb o e n L B => ?_, λb o e n L B => ?_, I.base.free, λb o e B => ?_, I.base.tups, I.base.zM, I.base.Ax⟩, ⟨_, hn', λj y v' g D e3 => ?_⟩, λy c e => ?_, I.free, I.mQ, λp hp => ?_, l ⟨oL, hoL, I.free⟩ f, by simpa using I.len⟩ ⟨_, f, .inl rfl⟩
    · exact(f.2 b (afy (afq (lt_size e) I.ok.above))).trans (I.base.keep b o e n L B)
    · obtain⟨sl, g⟩ := I.base.slot b o e n L B
      exact⟨sl, (f.2 b (afy (afq (lt_size e) I.ok.above))).trans g⟩
    · obtain⟨o', g⟩ := I.base.there b o e B
      exact⟨o', (f.2 b (afy (afq (lt_size e) I.ok.above))).trans g⟩
    · by_cases G : j=i
      · subst G
        rw[S] at g;cases g
        rw[getElem?_set_self W] at D
        cases D
        exact⟨u, r, .inl ⟨F, by simp⟩⟩
      · rw[getElem?_set_ne (ahk G)] at D
        obtain⟨u', r', q⟩ := hl j y v' g D e3
        refine⟨u', r', ?_⟩
        rcases q with⟨k, e⟩|⟨k, c, e, z⟩
        · refine .inl ⟨k, ?_⟩
          have : y≠x := λe => G (IV hN g (e▸S))
          simp[this, e]
        · exact .inr ⟨k, c, e, z.sameBut f (O y c e)⟩
    · obtain⟨w', z⟩ := I.cell y c e
      exact⟨w', z.sameBut f (O y c e)⟩
    · obtain⟨e, n, ne, nf, d⟩ := I.pin p hp
      exact⟨(f.2 p.1 ne).trans e, n, ne, nf, d⟩
  · have J : X.fn x=true := by
      rcases hf with z|z
      · exact z
      · rw[z] at F;cases F
    obtain⟨c, t⟩ := I.ok.has x (.inl F)
    obtain⟨w', z⟩ := I.cell x c t
    refine wpAny_storeName_cell I.ok.kind F t z (λh' P f => ?_)
    obtain⟨oc, T, Y⟩ := id z
    refine h { s with heap := h' } ⟨I.ok, I.os, I.bare, ⟨λb o e n L B => ?_, λb o e n L B => ?_, I.base.free, λb o e B => ?_, I.base.tups, I.base.zM, I.base.Ax⟩, ⟨m, hn.sameBut f (ahk (O x c t)), λj y v' g D e3 => ?_⟩, λy Z e => ?_, I.free, I.mQ, λp hp => ?_, l ⟨oc, T, I.mQ x c t⟩ f, by simpa using I.len⟩ ⟨c, f, .inr t⟩
    · exact(f.2 b (afy (afq (lt_size e) (I.ok.cab x c J t)))).trans (I.base.keep b o e n L B)
    · obtain⟨sl, g⟩ := I.base.slot b o e n L B
      exact⟨sl, (f.2 b (afy (afq (lt_size e) (I.ok.cab x c J t)))).trans g⟩
    · obtain⟨o', g⟩ := I.base.there b o e B
      exact⟨o', (f.2 b (afy (afq (lt_size e) (I.ok.cab x c J t)))).trans g⟩
    · by_cases G : j=i
      · subst G
        rw[S] at g;cases g
        rw[getElem?_set_self W] at D
        cases D
        exact⟨u, r, .inr ⟨.inl F, c, t, P⟩⟩
      · rw[getElem?_set_ne (ahk G)] at D
        obtain⟨u', r', q⟩ := hl j y v' g D e3
        refine⟨u', r', ?_⟩
        rcases q with q|⟨k, Z, e, z'⟩
        · exact .inl q
        · refine .inr ⟨k, Z, e, z'.sameBut f ?_⟩
          rintro rfl
          exact G (IV hN g (I.ok.inj _ _ _ e t▸S))
    · by_cases R : Z=c
      · subst R;exact⟨_, P⟩
      · obtain⟨w2, z2⟩ := I.cell y Z e
        exact⟨w2, z2.sameBut f R⟩
    · obtain⟨e, n, ne, nf, d⟩ := I.pin p hp
      refine⟨(f.2 p.1 ?_).trans e, n, ne, nf, d⟩
      intro q
      rw[q, T] at e
      have q' : oc=p.2 := afm e
      exact d w' (by rw[← q'];exact Y)
theorem Ay{Q : Unit→Shared→Prop}(I : Inv X pins σ H s)(a : X.N.Nodup)(c : X.N[i]?=some x)(d : Loc X.env.scope x)(r : RelV v u)(h : ∀s', Inv X pins (σ.set i (some v)) H s'→Q () s')(e : X.fn x=true∨X.env.scope.names.lookup x=some .local := by first|exact .inl rfl|exact .inr rfl|assumption) : wpAny M A (storeName X.env x u) Q E s :=
  xZ I a c d r (λs' b _ => h s' b) e
theorem Inv.call'{s' : Shared}(I : Inv X pins σ H s)(g : s'.os=s.os)(u : Un (frs X.stack) ch H H' s.heap s'.heap)(f : qj X.prog X.w H' s'.heap)(h : AllBare s'.gens)(d : ∀b∈ch, (b∈X.ex∨X.s₀.heap.objs.size≤b)∧b≠X.env.locals∧(∀x c, X.env.cells.lookup x=some c→c≠b)∧∀p∈X.pn++pins, p.1≠b) : Inv X pins σ H' s' := by
  obtain⟨h', g', d', t', o'⟩ := s'
  have e := g
  subst e
  exact I.call u f h d
end
abbrev XK := Value→Option Addr→Hp→Prop
abbrev St := List (Option V)
abbrev VK := V→Hp→Prop
abbrev TE := St→Hp→VK→Prop
abbrev TT := St→Hp→(Bool→Hp→Prop)→Prop
abbrev TA := St→Hp→(List V→Hp→Prop)→Prop
structure Ends where
  nx : St→Hp→Prop
  rt : VK
  bk : St→Hp→Prop := λ_ _ => False
  ct : St→Hp→Prop := λ_ _ => False
abbrev TS := Ends→St→Hp→Prop
def EP(X : Cx)(a : List (Addr×Obj))(σ : St)(Q : VK)(u : Value)(s' : Shared) : Prop := ∃v b, Inv X a σ b s'∧RelV v u∧Q v b
def TP(X : Cx)(a : List (Addr×Obj))(σ : St)(Q : Bool→Hp→Prop)(b : Bool)(s' : Shared) : Prop := ∃c, Inv X a σ c s'∧Q b c
def AP(X : Cx)(a : List (Addr×Obj))(σ : St)(Q : List V→Hp→Prop)(us : List Value)(s' : Shared) : Prop := ∃b c, Inv X a σ c s'∧Vals b us∧Q b c
def SP(X : Cx)(a : List (Addr×Obj))(D : Ends)(f : Flow)(s' : Shared) : Prop :=
  match f with
  |.next => ∃c b, Inv X a c b s'∧D.nx c b
  |.brk => ∃c b, Inv X a c b s'∧D.bk c b
  |.cont => ∃c b, Inv X a c b s'∧D.ct c b
  |.ret u => ∃v c b, Inv X a c b s'∧RelV v u∧D.rt v b
def PE(X : Cx)(e : Expr)(t : TE) : Prop :=
  ∀(a : List (Addr×Obj))(s : Shared)(σ : St)(H : Hp)(Q : VK), Inv X a σ H s→t σ H Q→wpAny (model X.prog X.w) X.A (eval e X.env) (EP X a σ Q) X.xe s
def PT(X : Cx)(e : Expr)(t : TT) : Prop :=
  ∀(a : List (Addr×Obj))(s : Shared)(σ : St)(H : Hp)(Q : Bool→Hp→Prop), Inv X a σ H s→t σ H Q→wpAny (model X.prog X.w) X.A (isTrue e X.env (eval e X.env)) (TP X a σ Q) X.xe s
def PW(X : Cx)(e : Expr)(t : TT) : Prop :=
  ∀(c : Sem Value)(b : List (Addr×Obj))(s : Shared)(σ : St)(H : Hp)(Q : Bool→Hp→Prop), Inv X b σ H s→t σ H Q→wpAny (model X.prog X.w) X.A (isTrue e X.env c) (TP X b σ Q) X.xe s
theorem PW.pt(h : PW X e t) : PT X e t := h _
def PA(X : Cx)(es : List Expr)(t : TA) : Prop :=
  ∀(b : Pos)(a : List (Addr×Obj))(s : Shared)(σ : St)(H : Hp)(Q : List V→Hp→Prop), Inv X a σ H s→t σ H Q→wpAny (model X.prog X.w) X.A (spliced (backTo b (starEach es X.env))) (AP X a σ Q) X.xe s
def PS(X : Cx)(st : Stmt)(t : TS) : Prop :=
  ∀(a : List (Addr×Obj))(s : Shared)(σ : St)(H : Hp)(D : Ends), Inv X a σ H s→t D σ H→wpAny (model X.prog X.w) X.A (exec st X.env) (SP X a D) X.xe s
def xY(X : Cx)(st : List Stmt)(t : TS) : Prop :=
  ∀(a : List (Addr×Obj))(s : Shared)(σ : St)(H : Hp)(D : Ends), Inv X a σ H s→t D σ H→wpAny (model X.prog X.w) X.A (execs st X.env) (SP X a D) X.xe s
theorem dN{α : Type}{t : Sem α}{Q b : α→Shared→Prop}(h : wpAny M A t Q E s)(c : ∀a s, Q a s→b a s) : wpAny M A t b E s := agc h c λ_ _ x => x
section
variable{X : Cx}
def mU(i : Nat) : TE := λσ H Q => ∃v, σ[i]?=some (some v)∧Q v H
def tC(v : V) : TE := λ_ H Q => Q v H
theorem Z_(n : X.N[i]?=some x)(q : Vis X.env.scope x)(j : (x==("__debug__" : Str))=false := by decide)(g : (x==("__classdict__" : Str))=false := by decide) : PE X (.Name x pos) (mU i) := by
  intro f s σ H Q I h
  obtain⟨v, e, h⟩ := h
  obtain⟨m, p, o⟩ := I.loc
  obtain⟨u, r, l⟩ := o i x v n e q
  have b : EP X f σ Q u s := ⟨v, H, I, r, h⟩
  rcases l with⟨d, t⟩|⟨d, c, k, a⟩
  · exact wpAny_Name (wpAny_loadName_local I.ok.kind d p t b) j
  · rcases d with d|d
    · exact wpAny_Name (wpAny_loadName_cell I.ok.kind d k a b) j
    · exact wpAny_Name (wpAny_loadName_free I.ok.kind d k a b g) j
theorem aL{i j pos} : PE X (.Constant (.int i) j pos) (tC (.int i)) := λ_ _ _ H _ I h => wpAny_Constant_int ⟨.int i, H, I.tok _, ⟨_, rfl⟩, h⟩
theorem pH{b j pos} : PE X (.Constant (.bool b) j pos) (tC (.bl b)) := λ_ _ _ H _ I h => Constant_bool ⟨.bl b, H, I, rfl, h⟩
theorem aM{x j pos} : PE X (.Constant (.str x) j pos) (tC (.str x)) := λ_ _ _ H _ I h => aik ⟨.str x, H, I.tok _, ⟨_, rfl⟩, h⟩
def Gl(X : Cx)(x : Str) : Prop := X.env.kindOf x=some .globalImplicit
theorem wG{Q : Value→Shared→Prop}(I : Inv X pins σ H s)(c : Gl X x)(b : X.mg x=some u)(h : Q u s)(d : (x==("__debug__" : Str))=false := by decide) : wpAny (model X.prog X.w) X.A (eval (.Name x pos) X.env) Q E s :=
  Calls.Name_function_global I.ok.kind c (Calls.loadGlobal_global (by rw[I.ok.glob];exact I.mod.glob.keeps I.bk) b h) d
theorem Az{Q : Value→Shared→Prop}(I : Inv X pins σ H s)(f : Gl X x)(b : X.mg x=none)(c : bootBuiltins x=some u)(h : Q u s)(e : x ≠ "__name__" := by decide)(g : (x==("__debug__" : Str))=false := by decide) : wpAny (model X.prog X.w) X.A (eval (.Name x pos) X.env) Q E s := by
  obtain⟨mb, d, i⟩ := I.mod.blt
  exact Calls.Name_function_global I.ok.kind f (Calls.loadGlobal_builtin (by rw[I.ok.glob];exact I.mod.glob.keeps I.bk) b (by rw[I.ok.blt];exact d.keeps I.bk) ((i x e).trans c) h) g
theorem dZ(c : Gl X x)(b : X.mg x=some u)(r : RelV v u)(d : (x==("__debug__" : Str))=false := by decide) : PE X (.Name x pos) (tC v) :=
  λ_ _ _ H _ I h => wG I c b ⟨v, H, I, r, h⟩ d
theorem ql(c : Gl X x)(a : X.mg x=none)(e : bootBuiltins x=some u)(r : RelV v u)(d : x ≠ "__name__" := by decide)(b : (x==("__debug__" : Str))=false := by decide) : PE X (.Name x pos) (tC v) :=
  λ_ _ _ H _ I h => Az I c a e ⟨v, H, I, r, h⟩ d b
variable{a b : Expr}{ta tb : TE}{pos : Pos}
def PC(X : Cx)(op : CmpOp)(a b : Expr)(t : TE) : Prop :=
  ∀(c : List (Addr×Obj))(s : Shared)(σ : St)(H : Hp)(Q : VK), Inv X c σ H s→t σ H Q →
    wpAny (model X.prog X.w) X.A (eval a X.env) (λv e => wpAny (model X.prog X.w) X.A (eval b X.env) (λu d => wpAny (model X.prog X.w) X.A (compareOp op v u) (EP X c σ Q) X.xe d) X.xe e) X.xe s
theorem RG(b : Expr)(h : op≠.In)(h2 : op≠.NotIn) : behindInMarks op b=false := by
  have c : (op==CmpOp.In)=false := by grind
  have d : (op==CmpOp.NotIn)=false := by grind
  cases b<;>simp[behindInMarks, c, d]
def aci(ta : TE) : TE := λσ H Q => ta σ H λx c => Q (.bl (decide (x=.non))) c
theorem RelV.RJ(r : RelV x v) : (v==ahh)=decide (x=.non) := by
  cases x with
  |non => cases r;rfl
  |bl _ => cases r;rfl
  |int _ => obtain⟨t, rfl⟩ := r;rfl
  |str _ => obtain⟨t, rfl⟩ := r;rfl
  |Pu _ => obtain⟨t, rfl⟩ := r;rfl
  |flt _ => obtain⟨t, rfl⟩ := r;rfl
  |ref _ => cases r;rfl
  |ty _ => cases r;rfl
theorem Gj{j c}(k : PE X a ta) : PC X .Is a (.Constant .none j c) (aci ta) := by
  intro d s σ H Q I h
  refine dN (k d s σ H _ I h) ?_
  rintro v s1 ⟨x, g, f, e, i⟩
  exact Constant_none (is_none_gen ⟨.bl _, g, f, by rw[e.RJ];rfl, i⟩)
def tB(t : TE) : TT := λσ H Q => t σ H λx d => ∃c, x=.bl c∧Q c d
theorem rA(h : PC X op a b t)(f : behindInMarks op b=false := by first|exact RG _ (by decide) (by decide)|rfl) : PT X (.Compare a [op] [b] pos) (tB t) := by
  intro e s σ H Q I j
  refine wpAny_isTrue_Compare1 (dN (h e s σ H _ I j) λv s1 f => dN f λu s2 g => dN g ?_) f
  rintro c s3 ⟨x, k, i, m, l⟩
  obtain⟨d, rfl, q⟩ := l
  cases m
  exact ag2 ⟨k, i, q⟩
theorem kW(h : PE X e t)(m : ∀c, isTrue e X.env c=(do let v ← c;standAt e.pos;holding [v] (truthy v)) := by intro _;rfl) : PT X e (tB t) := by
  intro f s σ H Q I g
  refine isTrue_plain (dN (h f s σ H _ I g) ?_) (m _)
  rintro v s1 ⟨x, j, i, k, l⟩
  obtain⟨d, rfl, q⟩ := l
  cases k
  exact ag2 ⟨j, i, q⟩
variable{tA tB' : TT}{rest : List Expr}
def acj(t u : TT) : TT := λσ H Q => t σ H λc d => if c=true then u σ d Q else Q false d
def tOr(t u : TT) : TT := λσ H Q => t σ H λc d => if c=true then Q true d else u σ d Q
def acn(t : TT) : TT := λσ H Q => t σ H λc d => Q (!c) d
theorem pw_and1(f : PT X a tA) : PW X (.BoolOp .And [a] pos) tA := by
  intro wh d s σ H Q I h
  refine isTrue_and (dN (f d s σ H Q I h) λc s1 e => ?_)
  cases c with
  |true => exact isTrue_and_nil e
  |false => exact e
theorem pw_or1(f : PT X a tA) : PW X (.BoolOp .Or [a] pos) tA := by
  intro wh d s σ H Q I h
  refine isTrue_or (dN (f d s σ H Q I h) λc s1 e => ?_)
  cases c with
  |false => exact isTrue_or_nil e
  |true => exact e
theorem pw_and(j : PT X a tA)(l : PW X (.BoolOp .And (b::rest) pos) tB') : PW X (.BoolOp .And (a::b::rest) pos) (acj tA tB') := by
  intro i d s σ H Q I h
  refine isTrue_and (dN (j d s σ H _ I h) ?_)
  rintro c k ⟨e, f, g⟩
  cases c with
  |true => exact l i d k σ e Q f g
  |false => exact⟨e, f, g⟩
theorem pw_or(j : PT X a tA)(l : PW X (.BoolOp .Or (b::rest) pos) tB') : PW X (.BoolOp .Or (a::b::rest) pos) (tOr tA tB') := by
  intro i d s σ H Q I h
  refine isTrue_or (dN (j d s σ H _ I h) ?_)
  rintro c k ⟨e, f, g⟩
  cases c with
  |true => exact⟨e, f, g⟩
  |false => exact l i d k σ e Q f g
theorem qm(f : PT X a tA) : PT X (.UnaryOp .Not a pos) (acn tA) := by
  intro d s σ H Q I h
  exact isTrue_not (f d s σ H (λc e => Q (!c) e) I h)
def Zd(ta tb : TE) : TE := λσ H Q => ta σ H λx d => ∃c, x=.bl c∧if c=true then tb σ d Q else Q (.bl false) d
def Ze(ta : TE) : TE := λσ H Q => ta σ H λx d => ∃c, x=.bl c∧Q (.bl (!c)) d
theorem A_{op}(h : PE X a t) : PE X (.BoolOp op [a] pos) t := λc s σ H Q I d => BoolOp_one (h c s σ H Q I d)
theorem uV(k : PE X a ta)(i : PE X (.BoolOp .And (b::rest) pos) tb) : PE X (.BoolOp .And (a::b::rest) pos) (Zd ta tb) := by
  intro d s σ H Q I h
  refine BoolOp_and (dN (k d s σ H _ I h) ?_)
  rintro v l ⟨x, f, g, j, e⟩
  obtain⟨c, rfl, e⟩ := e
  cases j
  refine ag2 ?_
  cases c with
  |true => exact i d l σ f Q g e
  |false => exact⟨.bl false, f, g, rfl, e⟩
theorem RK(j : PE X a ta) : PE X (.UnaryOp .Not a pos) (Ze ta) := by
  intro d s σ H Q I h
  refine UnaryOp_ (dN (j d s σ H _ I h) ?_)
  rintro v s1 ⟨x, g, i, f, e⟩
  obtain⟨c, rfl, e⟩ := e
  cases f
  exact not_of (ag2 ⟨.bl (!c), g, i, rfl, e⟩)
def tIf(t : TT)(ta tb : TE) : TE := λσ H Q => t σ H λc d => if c=true then ta σ d Q else tb σ d Q
theorem wH(m : PT X c tA)(l : PE X a ta)(k : PE X b tb) : PE X (.IfExp c a b pos) (tIf tA ta tb) := by
  intro e s σ H Q I h
  refine wpAny_IfExp (dN (m e s σ H _ I h) ?_)
  rintro d i ⟨j, g, f⟩
  cases d with
  |true => exact l e i σ j Q g f
  |false => exact k e i σ j Q g f
end
def gj(K : afh)(H : Hp)(a : Addr)(xs : List V) : Prop :=
  Rd H a (.lst xs) ∨
    ∃(o : Obj)(b : Array Value)(n : Nat), K.lookup a=some o∧o.cls=.type "list" ∧ o.dict=none∧o.data=.seq b n∧b.size≤sizeLine∧Vals xs b.toList
def zN(K : afh)(H : Hp)(a : Addr)(xs : List V) : Prop :=
  Rd H a (.tup xs) ∨
    ∃(o : Obj)(b : Array Value)(n : Nat), K.lookup a=some o∧o.cls=.type "tuple" ∧ o.data=.seq b n∧b.size≤sizeLine∧Vals xs b.toList
def aek : Value→Option V
  |.none => some .non
  |.bool b => some (.bl b)
  |.int i _ => some (.int i)
  |.str x _ => some (.str x)
  |.bytes b _ => some (.Pu b)
  |.float b _ => some (.flt b)
  |.ref a => some (.ref a)
  |.type n => some (.ty n)
  |_ => none
theorem RelV.abs(r : RelV x u) : aek u=some x := by
  cases x with
  |non => cases r;rfl
  |bl _ => cases r;rfl
  |int _ => obtain⟨t, rfl⟩ := r;rfl
  |str _ => obtain⟨t, rfl⟩ := r;rfl
  |Pu _ => obtain⟨t, rfl⟩ := r;rfl
  |flt _ => obtain⟨t, rfl⟩ := r;rfl
  |ref _ => cases r;rfl
  |ty _ => cases r;rfl
theorem RelV.inj(r : RelV x u)(q : RelV y u) : x=y := afm (r.abs.symm.trans q.abs)
theorem Vals.inj : ∀{xs ys : List V}{us : List Value}, Vals xs us→Vals ys us→xs=ys
  |_, _, _, .nil, .nil => rfl
  |_, _, _, .cons r t, .cons a b => by rw[r.inj a, Vals.inj t b]
section
variable{X : Cx}{pins : List (Addr×Obj)}{σ : St}{H : Hp}{s : Shared}{a : Addr}{xs ys : List V}
theorem gj.of{K : afh}(h : H a=some (.lst xs)) : gj K H a xs := .inl (.inl h)
theorem zN.of{K : afh}(h : H a=some (.tup xs)) : zN K H a xs := .inl (.inl h)
theorem Inv.list(I : Inv X pins σ H s)(h : gj X.K H a xs) : ∃b : List Value, Vals xs b∧PlainL s.heap a b.toArray∧xs.length≤sizeLine := by
  rcases h with h|⟨o, b, n, d, f, c, hs, hz, r⟩
  · obtain⟨z, b, n, r, e⟩ := h.ok I.hok
    exact⟨b, r, ⟨_, n, e, rfl, rfl, rfl⟩, z⟩
  · refine⟨b.toList, r, ⟨o, n, I.za a o d, f, c, by simp_all⟩, ?_⟩
    have e := r.length
    grind
theorem Inv.tuple(I : Inv X pins σ H s)(h : zN X.K H a xs) : ∃b : List Value, Vals xs b∧IsTup s.heap a b.toArray∧xs.length≤sizeLine := by
  rcases h with h|⟨o, b, n, d, c, hs, hz, r⟩
  · obtain⟨z, b, r, p⟩ := h.ok I.hok
    grind
  · refine⟨b.toList, r, ⟨o, I.za a o d, c, n, by simp_all⟩, ?_⟩
    have e := r.length
    grind
theorem Inv.IW(I : Inv X pins σ H s)(h : gj X.K H a xs)(h' : gj X.K H a ys) : xs=ys := by
  obtain⟨c, r, ⟨o, n, e, _, _, d⟩, _⟩ := I.list h
  obtain⟨b, f, ⟨o', n', e', _, _, d'⟩, _⟩ := I.list h'
  have : c=b := by grind
  subst this
  exact r.inj f
theorem Inv.Pz(I : Inv X pins σ H s)(h : zN X.K H a xs)(h' : zN X.K H a ys) : xs=ys := by
  obtain⟨c, r, ⟨o, e, _, n, d⟩, _⟩ := I.tuple h
  obtain⟨b, f, ⟨o', e', _, n', d'⟩, _⟩ := I.tuple h'
  have : c=b := by grind
  subst this
  exact r.inj f
end
abbrev Cx.wish(X : Cx)(E : Value→Shared→Prop) : Cx := { X with xe := E }
abbrev Cx.rB(X : Cx) : Cx := X.wish λ_ _ => False
theorem Cx.Ok.wish{X : Cx}(a : X.Ok)(E : Value→Shared→Prop) : (X.wish E).Ok :=
  ⟨a.mod, a.kind, a.glob, a.blt, a.above, a.inj, a.has, a.cab, a.hd, a.frames, a.stk, a.Zc, a.bs, a.RD, a.Kh, a.Iz, a.wF, a.Xb⟩
theorem Cx.Ok.kY{X : Cx}(a : (X.wish E).Ok) : X.Ok :=
  ⟨a.mod, a.kind, a.glob, a.blt, a.above, a.inj, a.has, a.cab, a.hd, a.frames, a.stk, a.Zc, a.bs, a.RD, a.Kh, a.Iz, a.wF, a.Xb⟩
section
variable{X : Cx}{pins : List (Addr×Obj)}{σ : St}{H : Hp}{s : Shared}{E : Value→Shared→Prop}
theorem Inv.wish(I : Inv X pins σ H s)(E : Value→Shared→Prop) : Inv (X.wish E) pins σ H s := ⟨I.ok.wish E, I.os, I.bare, I.base, I.loc, I.cell, I.free, I.mQ, I.pin, I.hok, I.len⟩
theorem Inv.kY(I : Inv (X.wish E) pins σ H s) : Inv X pins σ H s := ⟨I.ok.kY, I.os, I.bare, I.base, I.loc, I.cell, I.free, I.mQ, I.pin, I.hok, I.len⟩
theorem SP.kY(h : SP (X.wish E) pins D f s') : SP X pins D f s' := by
  cases f with
  |next => obtain⟨a, b, I, q⟩ := h;exact⟨a, b, I.kY, q⟩
  |brk => obtain⟨a, b, I, q⟩ := h;exact⟨a, b, I.kY, q⟩
  |cont => obtain⟨a, b, I, q⟩ := h;exact⟨a, b, I.kY, q⟩
  |ret u => obtain⟨v, a, b, I, r, q⟩ := h;exact⟨v, a, b, I.kY, r, q⟩
theorem xY.rB{st : List Stmt}{t : TS}(h : xY X.rB st t) : xY X st t := λpins s σ H D I a =>
  agc (h pins s σ H D (I.wish _) a) (λ_ _ q => q.kY) λ_ _ z => af4 z
end
section
variable{X : Cx}{st : Stmt}{rest : List Stmt}{t u : TS}{e : Expr}{te : TE}{pos : Pos}
def lR : TS := λD σ H => D.nx σ H
def jD(t u : TS) : TS := λD σ H => t { D with nx := u D } σ H
theorem aD : xY X [] lR := λ_ _ σ H _ I h => ahj ⟨σ, H, I, h⟩
theorem ak(d : PS X st t)(h2 : xY X rest u) : xY X (st::rest) (jD t u) := by
  intro a s σ H D I h
  refine ai3 (dN (d a s σ H { D with nx := u D } I h) λf i q => ?_)
  cases f with
  |next =>
    obtain⟨g, b, c, q⟩ := q
    exact h2 a i g b D c q
  |ret v => exact q
  |brk => exact q
  |cont => exact q
theorem jG(b : PS X st t) : xY X [st] t := by
  intro a s σ H D I h
  refine ai3 (dN (b a s σ H D I h) λf s1 q => ?_)
  cases f with
  |next => exact ahj q
  |ret v => exact q
  |brk => exact q
  |cont => exact q
theorem Inv.quiet(I : Inv X pins σ H s) : interactive X.env=false := by simp[interactive, I.ok.kind]
def uK(te : TE) : TS := λD σ H => te σ H λ_ a => D.nx σ a
theorem cP(f : PE X e te)(g : swapsWith e none pos.line X.env=pure false := by rfl) : PS X (.Expr e pos) (uK te) := by
  intro a s σ H D I h
  exact wpAny_Expr_any (dN (f a s σ H _ I h) (by rintro v s1 ⟨x, c, b, r1, d⟩;exact⟨σ, c, b, d⟩)) I.quiet g
def PB(te : TE) : TS := λD σ H => te σ H D.rt
theorem bJ(g : PE X e te) : PS X (.Return (some e) pos) (PB te) := by
  intro a s σ H D I h
  exact wpAny_Return_some (dN (g a s σ H _ I h) (by rintro v s1 ⟨x, d, c, b, f⟩;exact⟨x, σ, d, c, b, f⟩))
def Gk(c : TT)(t u : TS) : TS := λD σ H => c σ H λb a => if b=true then t D σ a else u D σ a
theorem dh(n : PT X c o)(m : xY X a t)(l : xY X b u) : PS X (.If c a b pos) (Gk o t u) := by
  intro f s σ H D I h
  refine wpAny_If (dN (n f s σ H _ I h) ?_)
  rintro d k ⟨g, i, j⟩
  cases d with
  |true => exact m f k σ g D i j
  |false => exact l f k σ g D i j
def Gm : TS := λ_ _ _ => False
theorem eX : xY X sts Gm := λ_ _ _ _ _ _ h => h.elim
end
abbrev TG := V→St→Hp→(St→Hp→Prop)→Prop
abbrev TGs := List V→St→Hp→(St→Hp→Prop)→Prop
def PG(X : Cx)(a : Expr)(t : TG) : Prop :=
  ∀(b : List (Addr×Obj))(s : Shared)(σ : St)(H : Hp)(v : V)(u : Value)(Q : St→Hp→Prop), Inv X b σ H s→RelV v u→t v σ H Q →
    wpAny (model X.prog X.w) X.A (assign a X.env u) (λ_ e => ∃d c, Inv X b d c e∧Q d c) X.xe s
def Rq(X : Cx)(ts : List Expr)(t : TGs) : Prop :=
  ∀(a : List (Addr×Obj))(s : Shared)(σ : St)(H : Hp)(c : List V)(d : List Value)(Q : St→Hp→Prop), Inv X a σ H s→Vals c d→t c σ H Q →
    wpAny (model X.prog X.w) X.A (assignInOrder ((assignEach ts X.env).map (·.2)) d) (λ_ f => ∃e b, Inv X a e b f∧Q e b) X.xe s
abbrev aco := V→V→V→Hp→(Hp→Prop)→Prop
def acp(X : Cx)(t : aco) : Prop :=
  ∀(a : List (Addr×Obj))(s : Shared)(σ : St)(H : Hp)(o i v : V)(b d u : Value)(Q : Hp→Prop), Inv X a σ H s→RelV o b→RelV i d→RelV v u→t o i v H Q →
    wpAny (model X.prog X.w) X.A (setItem b d u) (λ_ e => ∃c, Inv X a σ c e∧Q c) X.xe s
section
variable{X : Cx}{pos : Pos}
def kO(i : Nat) : TG := λv σ H Q => Q (σ.set i (some v)) H
theorem bN(a : X.N.Nodup)(c : X.N[i]?=some x)(d : Loc X.env.scope x)(e : X.fn x=true∨X.env.scope.names.lookup x=some .local := by first|exact .inl rfl|exact .inr rfl|assumption) : PG X (.Name x pos) (kO i) := by
  intro pins s σ H v u Q I r h
  exact aiy (Ay I a c d r (λs' b => ⟨_, H, b, h⟩) e)
def aac : TGs := λa σ H Q => a=[]∧Q σ H
def DQ(t : TG)(u : TGs) : TGs := λa σ H Q => ∃v r, a=v::r∧t v σ H λc b => u r c b Q
theorem iu : Rq X [] aac := by
  intro pins s σ H vs us Q I r h
  obtain⟨e, h⟩ := h
  exact assignInOrder_nil ⟨σ, H, I, h⟩
theorem cG(g : PG X e t)(h2 : Rq X es u)(l : (assignEach (e::es) X.env).map (·.2)=assign e X.env::(assignEach es X.env).map (·.2) := by rfl) : Rq X (e::es) (DQ t u) := by
  intro a s σ H vs us Q I r h
  obtain⟨v, vr, d, h⟩ := h
  subst d
  cases r with
  |cons r c =>
    rw[l]
    refine assignInOrder_cons (dN (g a s σ H _ _ _ I r h) ?_)
    rintro _ b ⟨i, j, f, k⟩
    exact h2 a b i j _ _ Q f c k
def Xc(K : afh)(n : Nat)(t : TGs) : TG := λv σ H Q => ∃a c, v=.ref a∧zN K H a c∧c.length=n∧t c σ H Q
theorem nH(x : X.calm=true)(h : Rq X es t)(j : (assignEach es X.env).length=n := by rfl)(f : (assignEach es X.env).findIdx? (·.1)=none := by rfl) : PG X (.Tuple es k pos) (Xc X.K n t) := by
  intro c s σ H v u Q I r d
  obtain⟨a, p, i, g, q, d⟩ := d
  subst i
  cases r
  obtain⟨its, y, l, hz⟩ := I.tuple g
  refine assign_Tuple_tuple (I.ok.hd x) l (by simp[j, ← q, y.length]) f λh' w => ?_
  have m := I.kept (t' := s.toks) λb o e => w b o (afy (lt_size e)) e
  exact h c _ σ H p _ Q m (by grind) d
def acq(d a : TE)(t : aco) : TG := λv σ H Q => d σ H λo b => a σ b λi e => t o i v e λc => Q σ c
theorem uX(f : PE X o E)(A : PE X i p)(l : acp X t)(ha : ∀v, assign (.Subscript o i pos) X.env v=(do
      let b ← holding [v] (eval o X.env)
      let c ← holding [v, b] (eval i X.env)
      standAt pos
      holding [v, b, c] (setItem b c v)
      release [v, b, c] []) := by intro _;rfl) : PG X (.Subscript o i pos) (acq E p t) := by
  intro a s σ H v u Q I r h
  refine afk (ahw (dN (f a s σ H _ I h) ?_))
  rintro b n ⟨x, g, z, q, j⟩
  refine afk (ahw (dN (A a n σ g _ z j) ?_))
  rintro c B ⟨y, d, e, D, m⟩
  refine afk (aia (afk (ahw (dN (l a B σ d x y v b c u _ e q D r m) ?_))))
  rintro _ s3 ⟨k, w, C⟩
  exact wpAny_release ⟨σ, k, w, C⟩
def yc(te : TE)(g : TG) : TS := λD σ H => te σ H λx a => g x σ a D.nx
theorem qp(m : PE X e te)(o : PG X b g)(n : swapsWithSole [b] e pos.line X.env=pure false := by rfl)(c : swappedStores [b] e X.env=pure none := by rfl)(i : (assignEach [b] X.env).map (·.2)=[assign b X.env] := by rfl) : PS X (.Assign [b] e pos) (yc te g) := by
  intro a s σ H D I h
  refine wpAny_Assign_stores (dN (m a s σ H _ I h) ?_) n c
  rintro v j ⟨x, k, f, d, l⟩
  rw[i]
  exact dN (o a j σ k x v _ f d l) λ_ s2 q => q
theorem Ba(c : X.N.Nodup)(f : X.N[i]?=some x)(j : Loc X.env.scope x)(m : PE X e te)(o : swapsWith e (some (.Name x b)) pos.line X.env=pure false := by rfl)(n : X.fn x=true∨X.env.scope.names.lookup x=some .local := by first|exact .inl rfl|exact .inr rfl|assumption) :
    PS X (.Assign [.Name x b] e pos) (yc te (kO i)) := by
  intro a s σ H D I h
  refine wpAny_Assign_Name (dN (m a s σ H _ I h) ?_) o
  rintro v s1 ⟨y, k, d, p, l⟩
  exact Ay d c f j p (λs2 g => ⟨_, k, g, l⟩) n
end
structure It where
  go : Nat→Hp→Prop
  yld : Nat→Hp→V→Hp→Prop
  stop : Nat→Hp→Prop
def uY(X : Cx)(d : List (Addr×Obj))(H : Hp)(b : Addr) : Prop :=
  H b=none∧b≠X.env.locals∧b∉X.fs∧(b∈X.ex∨X.s₀.heap.objs.size≤b)∧(∀x c, X.env.cells.lookup x=some c→c≠b)∧∀p∈X.pn++d, p.1≠b
theorem Inv.I9(I : Inv X a σ H s)(d : s.heap.objs.size≤b)(g : H' b=none) : uY X a H' b := by
  refine⟨g, Nat.ne_of_gt (afq I.lt d), I.Py d, .inr (afl I.sz d), λx c e z => ?_, λp f z => ?_⟩
  · obtain⟨v, q⟩ := I.cell x c e
    exact absurd (afq q.lt (by grind)) (af3 _)
  · exact absurd (afq (lt_size (I.pin p f).1) (by grind)) (af3 _)
structure Turn(P : Program)(w : World)(K : afh)(tg : Expr)(J : It)(fp : List Addr)(it : Addr)(tn : Nat→Heap→Prop) : Prop where
  mem : it∈fp
  obj : ∀i h, tn i h→∀b∈fp, ∃o, h.get? b=some o∧∀v, o.data≠.cell v
  keep : ∀i h h', tn i h→(∀b∈fp, ∀o, h.get? b=some o→h'.get? b=some o)→tn i h'
  item : ∀(X : Cx), X.prog=P→X.w=w→X.K=K→X.calm=true→∀(i : Nat)(pins : List (Addr×Obj))(s : Shared)(σ : St)(H : Hp)(E : Value→Shared→Prop), Inv X pins σ H s→(∀b∈fp, uY X pins H b)→tn i s.heap→J.go i H →
    wpAny (model P w) X.A (pyNext (.ref it)) (λr s1 => ∃u, r=some u ∧
      wpAny (model P w) X.A (letOwnedTupleGo tg (.ref it) u) (λ_ s2 => ∃x H', Inv X pins σ H' s2∧RelV x u∧J.yld i H x H'∧tn (i+1) s2.heap∧∀b∈fp, H' b=none) E s1) E s
  done : ∀(X : Cx), X.prog=P→X.w=w→X.K=K→X.calm=true→∀(i : Nat)(pins : List (Addr×Obj))(s : Shared)(σ : St)(H : Hp)(E : Value→Shared→Prop), Inv X pins σ H s→(∀b∈fp, uY X pins H b)→tn i s.heap→J.stop i H →
    wpAny (model P w) X.A (pyNext (.ref it)) (λr s1 => r=none∧Inv X pins σ H s1) E s
  self : ∀(A : Around)(i : Nat)(s : Shared)(Q : Value→Shared→Prop)(E : Value→Shared→Prop), tn i s.heap→Q (.ref it) s→wpAny (model P w) A (pyIter (.ref it)) Q E s
abbrev TI := St→Hp→(It→Hp→Prop)→Prop
def PIE(X : Cx)(a : List (Addr×Obj))(σ : St)(i : Expr)(R : It→Hp→Prop)(c : Value)(h : Shared) : Prop :=
  ∃(f : Addr)(e : List Addr)(g : Nat→Heap→Prop)(J : It)(d : Hp), c=.ref f∧Inv X a σ d h∧Turn X.prog X.w X.K i J e f g∧g 0 h.heap∧(∀b∈e, uY X a d b)∧R J d
def PI(X : Cx)(d b : Expr)(c : TI) : Prop :=
  ∀(a : List (Addr×Obj))(s : Shared)(σ : St)(H : Hp)(R : It→Hp→Prop), Inv X a σ H s→c σ H R →
    wpAny (model X.prog X.w) X.A (eval b X.env) (λv e => wpAny (model X.prog X.w) X.A (pyIter v) (PIE X a σ d R) X.xe e) X.xe s
theorem I_{s : Shared}{Q : Unit→Shared→Prop}(c : s.heap.get? d=some o)(e : o.cls=.type n)(f : o.data=.fields vs)(hn : ["enumerate", "zip", "dict_itemiterator", "dict_reverseitemiterator", "odict_iterator", "itertools.zip_longest", "itertools.pairwise"].contains n=false)(a : Q () s) : wpAny M A (letOwnedTupleGo b (.ref d) u) Q E s := by
  unfold letOwnedTupleGo
  cases b<;>first
    |exact afw a
    | (cases u<;>first
        |exact afw a
        | (refine afk (wpAny_load c ?_)
           rw[e, f]
           show wpAny M A (if(["enumerate", "zip", "dict_itemiterator", "dict_reverseitemiterator", "odict_iterator", "itertools.zip_longest", "itertools.pairwise"].contains n&&vs[0]?==some (rawInt _))=true then _ else _) Q E s
           rw[if_neg (by grind)]
           exact afw a))
def Itl(K : afh)(a : Addr) : It :=
  ⟨λi H => ∃b x, gj K H a b∧b[i]?=some x, λi H x c => c=H∧∀b, gj K H a b→b[i]?=some x, λi H => ∃b, gj K H a b∧b.length≤i⟩
def Itt(K : afh)(a : Addr) : It :=
  ⟨λi H => ∃b x, zN K H a b∧b[i]?=some x, λi H x c => c=H∧∀b, zN K H a b→b[i]?=some x, λi H => ∃b, zN K H a b∧b.length≤i⟩
def Itr(lo : Int)(n : Nat) : It := ⟨λi _ => i<n, λi H x a => a=H∧x=.int (lo+i), λi _ => n≤i⟩
theorem PK{P : Program}{w : World}{K : afh}{O : Expr}(a g : Addr) : Turn P w K O (Itl K a) [g] g (λi h => h.IsListIter g a i) where
  mem := by simp
  obj := λi h st b j => by
    have e : b=g := by simpa using j
    subst e
    obtain⟨o, e, c, d⟩ := st
    grind
  keep := λi h m st k => st.at λo e => k g (by simp) o e
  item := by
    intro X v D B L i f s σ H E I q st J
    subst v D B
    obtain⟨N, x, n, t⟩ := J
    obtain⟨A, z, p, R⟩ := I.list n
    obtain⟨u, U, Y⟩ := z.get t
    obtain⟨G, F, Q, y, r, C⟩ := q g (by simp)
    refine wpAny_pyNext_list_item st p.isList (x := u) (by simpa using U) λm l Z => ?_
    have M : Inv X f σ H { s with heap := m } := I.turned (t' := s.toks) (λb o j e => (Z.2 b j).trans e) G F y r C
    obtain⟨o, e, c, d⟩ := id l
    exact⟨u, rfl, I_ (s := { s with heap := m }) e c d (by decide) ⟨x, H, M, Y, ⟨rfl, λys T => by rw[I.IW T n];exact t⟩, l, λb j => (q b j).1⟩⟩
  done := by
    intro X v D B L i f s σ H E I q st J
    subst v D B
    obtain⟨N, n, t⟩ := J
    obtain⟨A, z, p, R⟩ := I.list n
    obtain⟨G, F, Q, y, r, C⟩ := q g (by simp)
    have hl := z.length
    exact wpAny_pyNext_list_end (I.ok.hd L) st p.isList (by simp;lia) λm S => ⟨rfl, I.turned (t' := s.toks) (λb o j e => S b o j e) G F y r C⟩
  self := λ_ _ _ _ _ st h => wpAny_pyIter_listiter st h
theorem Kl{P : Program}{w : World}{K : afh}{O : Expr}(a l : Addr) : Turn P w K O (Itt K a) [l] l (λi h => h.IsTupleIter l a i) where
  mem := by simp
  obj := λi h st b j => by
    have e : b=l := by simpa using j
    subst e
    obtain⟨o, e, c, d⟩ := st
    grind
  keep := λi h n st k => st.at λo e => k l (by simp) o e
  item := by
    intro X G C A L i f s σ H E I r st D
    subst G C A
    obtain⟨N, x, q, J⟩ := D
    obtain⟨g, v, p, Y⟩ := I.tuple q
    obtain⟨u, U, M⟩ := v.get J
    obtain⟨z, F, Q, y, t, B⟩ := r l (by simp)
    refine wpAny_pyNext_tuple_item st (show s.heap.IsTuple a g.toArray from p) (x := u) (by simpa using U) λn m T => ?_
    have Z : Inv X f σ H { s with heap := n } := I.turned (t' := s.toks) (λb o j e => (T.2 b j).trans e) z F y t B
    obtain⟨o, e, c, d⟩ := id m
    exact⟨u, rfl, I_ (s := { s with heap := n }) e c d (by decide) ⟨x, H, Z, M, ⟨rfl, λys R => by rw[I.Pz R q];exact J⟩, m, λb j => (r b j).1⟩⟩
  done := by
    intro X G C A L i f s σ H E I r st D
    subst G C A
    obtain⟨N, q, J⟩ := D
    obtain⟨g, v, p, Y⟩ := I.tuple q
    obtain⟨z, F, Q, y, t, B⟩ := r l (by simp)
    have hl := v.length
    exact wpAny_pyNext_tuple_end (I.ok.hd L) st (show s.heap.IsTuple a g.toArray from p) (by simp;lia) λn S => ⟨rfl, I.turned (t' := s.toks) (λb o j e => S b o j e) z F y t B⟩
  self := λ_ _ _ _ _ st h => wpAny_pyIter_tupleiter st h
theorem Km{P : Program}{w : World}{K : afh}{G : Expr}(c : Addr)(lo : Int)(n : Nat) : Turn P w K G (Itr lo n) [c] c (λi h => IsRangeIter h c (lo+(i : Nat)*1) ((n : Int)-(i : Nat)) 1) where
  mem := by simp
  obj := λi h st b d => by
    grind
  keep := λi h g st k => k c (by simp) _ st
  item := by
    intro X l q m x i a s σ H E I j st u
    subst l q m
    obtain⟨y, r, L, z, A, p⟩ := j c (by simp)
    have W := Walks.range (prog := X.prog) (w := X.w) (I.ok.hd x) c lo 1 n
    refine W.item i s _ _ u st λv g B F f C => ?_
    obtain⟨t, rfl⟩ := F
    have J : Inv X a σ H { s with heap := g, toks := B } := I.turned (λb o d e => C b o (by simpa using d) e) y r z A p
    refine⟨_, rfl, I_ (s := { s with heap := g, toks := B }) (n := "range_iterator") f rfl rfl (by decide) ⟨.int (lo+i), H, J, ⟨t, ?_⟩, ⟨rfl, rfl⟩, f, λb d => (j b d).1⟩⟩
    grind
  done := by
    intro X l q m x i a s σ H E I j st u
    subst l q m
    obtain⟨y, r, L, z, A, p⟩ := j c (by simp)
    exact wpAny_pyNext_range_end (I.ok.hd x) st (by have : n≤i := u;lia) λg D => ⟨rfl, I.turned (t' := s.toks) (λb o d e => D b o d e) y r z A p⟩
  self := λ_ _ _ _ _ st h => wpAny_pyIter_rangeiter st h
section
variable{X : Cx}{tg : Expr}
def RM(K : afh)(c : TE) : TI := λσ H R => c σ H λx b => ∃a, x=.ref a∧(∃d, gj K b a d)∧R (Itl K a) b
def aad(K : afh)(c : TE) : TI := λσ H R => c σ H λx b => ∃a, x=.ref a∧(∃d, zN K b a d)∧R (Itt K a) b
theorem Gn(j : PE X l k) : PI X tg l (RM X.K k) := by
  intro c s σ H R I h
  refine dN (j c s σ H _ I h) ?_
  rintro v f ⟨x, m, d, i, n⟩
  obtain⟨a, e, ⟨xs, g⟩, q⟩ := n
  subst e
  cases i
  obtain⟨its, rv, p, hz⟩ := d.list g
  refine wpAny_pyIter_list p.isList ?_
  refine⟨f.heap.objs.size, [f.heap.objs.size], _, _, m, rfl, d.kept λb o e => get?_push_of_some _ e, PK a _, ⟨_, get?_push_size _ rfl, rfl, rfl⟩, λb hb => ?_, q⟩
  have e : b=f.heap.objs.size := by grind
  subst e
  exact d.I9 (afj _) (d.hok.fresh (afj _))
theorem aae(j : PE X l k) : PI X tg l (aad X.K k) := by
  intro c s σ H R I h
  refine dN (j c s σ H _ I h) ?_
  rintro v f ⟨x, m, d, i, n⟩
  obtain⟨a, e, ⟨xs, g⟩, q⟩ := n
  subst e
  cases i
  obtain⟨its, rv, p, hz⟩ := d.tuple g
  refine wpAny_pyIter_tuple (p) ?_
  refine⟨f.heap.objs.size, [f.heap.objs.size], _, _, m, rfl, d.kept λb o e => get?_push_of_some _ e, Kl a _, ⟨_, get?_push_size _ rfl, rfl, rfl⟩, λb hb => ?_, q⟩
  have e : b=f.heap.objs.size := by grind
  subst e
  exact d.I9 (afj _) (d.hok.fresh (afj _))
theorem RN{d : List (Addr×Obj)}{σ : St}{H : Hp}{s : Shared}{R : It→Hp→Prop}{E : Value→Shared→Prop}{lo c : Int}{t u v : Tok}{g : Nat}(I : Inv X d σ H s)(k : -(2^62)≤lo)(h2 : lo<2^62)(l : -(2^62)≤c)(h : c<2^62)(q : R (Itr lo (c-lo).toNat) H) : wpAny (model X.prog X.w) X.A (pyIter (.ref s.heap.objs.size)) (PIE X d σ tg R) E { s with heap := s.heap.push { cls := .type "range", data := .fields #[.int lo t, .int c u, .int 1 v] }, toks := g } := by
  refine wpAny_pyIter_range (IsRange.new ..) (small_one k h2 l h) ?_
  have f : Inv X d σ H { s with heap := s.heap.push { cls := .type "range", data := .fields #[.int lo t, .int c u, .int 1 v] }, toks := g } := I.kept λb o e => get?_push_of_some _ e
  refine⟨(s.heap.push { cls := .type "range", data := .fields #[.int lo t, .int c u, .int 1 v] }).objs.size, [(s.heap.push { cls := .type "range", data := .fields #[.int lo t, .int c u, .int 1 v] }).objs.size], _, _, H, rfl,
    f.kept (t' := g) λb o e => get?_push_of_some _ e, Km _ lo (c-lo).toNat, ?_, λb hb => ?_, q⟩
  · have i : lo+((0 : Nat) : Int)*1=lo := by simp
    have j : (((c-lo).toNat : Nat) : Int)-((0 : Nat) : Int)=Builtin.Range.rangeSize lo c 1 := by rw[rangeSize_one];grind
    rw[i, j]
    exact get?_push_size _ rfl
  · have e : b=(s.heap.push { cls := .type "range", data := .fields #[.int lo t, .int c u, .int 1 v] }).objs.size := by grind
    subst e
    exact f.I9 (afj _) (f.hok.fresh (afj _))
def Zf(c : TA) : TI := λσ H R => c σ H λa b => ∃j : Int, a=[.int j] ∧ -(2^62)≤j∧j<2^62∧R (Itr 0 j.toNat) b
theorem gG(l : Gl X "range")(d : X.mg "range" = none)(m : PA X [a] k)(i : starEach [a] X.env=[(false, eval a X.env)] := by rfl) : PI X tg (.Call (.Name "range" p) [a] [] pos) (Zf k) := by
  intro b s σ H R I h
  refine Call_ (Az I l d boot_range (ahl (dN (m pos b s σ H _ I h) ?_) i rfl))
  rintro us s1 ⟨vs, H1, f, n, c⟩
  obtain⟨j, e, c, o, q⟩ := c
  subst e
  cases n with
  |cons r g =>
    cases g
    obtain⟨t, rfl⟩ := r
    exact call_range_1 (RN f (by lia) (by lia) c o (by simp_all))
def Xd(e : TI)(g : TG)(k : TS) : TS := λD σ H => e σ H λJ f => ∃W : Nat→Nat→St→Hp→Prop, (∃m, W 0 m σ f)∧∀i m σ H, W i m σ H →
  (J.stop i H∧D.nx σ H)∨(J.go i H∧∃N : St→Hp→Prop, (∀d b, N d b→∃c, c<m∧W (i+1) c d b)∧∀x b, J.yld i H x b→g x σ b λj h => k { D with nx := N, ct := N, bk := D.nx } j h)
def uZ(fp : List Addr)(h : Heap) : List (Addr×Obj) := fp.filterMap λb => (h.get? b).map λo => (b, o)
theorem jk{h : Heap}(a : b∈fp)(e : h.get? b=some o) : (b, o)∈uZ fp h := mem_filterMap.mpr ⟨b, a, by grind⟩
theorem PL(a : p∈uZ fp h) : p.1∈fp∧h.get? p.1=some p.2 := by
  obtain⟨b, hb, e⟩ := mem_filterMap.mp a
  cases q : h.get? b with
  |none => grind
  |some o =>
    grind
theorem Inv.pinned(I : Inv X a σ H s)(d : ∀b∈fp, uY X a H b)(ho : ∀b∈fp, ∃o, s.heap.get? b=some o∧∀v, o.data≠.cell v) : Inv X (a++uZ fp s.heap) σ H s :=
  I.oO λp c => (mem_append.mp c).elim (λz => I.pin p (mem_append_right _ z)) λz => by
    obtain⟨f, e⟩ := PL z
    obtain⟨f0, f1, f2, _⟩ := d p.1 f
    grind
theorem Inv.rC(I : Inv X (a++pl) σ H s) : Inv X a σ H s := I.oO λp b => I.pin p (mem_append_right _ (mem_append_left _ b))
theorem jH(Q : PassesOwn (model X.prog X.w) X.A X.env X.xe)(hc : X.calm=true)(hi : PI X tg y wi)(hg : PG X tg g)(c : xY X B tb)(hs : ∀x, foldedSetIterable y X.env x=pure x := by intro _;rfl) : PS X (.For tg y B [] pos) (Xd wi g tb) := by
  intro a s σ H D I h
  refine wpAny_For (dN (hi a s σ H _ I h) λv s1 h1 => dN h1 λitv s2 h2 => ?_) hs
  obtain⟨it, L, tn, J, H2, e, I2, T, U, f2, W, ⟨m0, w0⟩, E⟩ := h2
  subst e
  have l : ∀{q : Hp}, (∀b∈L, q b=none)→∀b∈L, uY X a q b := λhn b c => ⟨hn b c, (f2 b c).2⟩
  refine codeAny_forLoop_any (λn s' => ∃i G q, Inv X a G q s'∧tn i s'.heap∧(∀b∈L, q b=none)∧W i n G q) ?_ m0 ⟨0, σ, H2, I2, U, λb c => (f2 b c).1, w0⟩
  rintro n s3 ⟨i, O, R, I3, M, F, w3⟩
  rcases E i n O R w3 with⟨C, qn⟩|⟨go, N, hN, step⟩
  · refine ags Q (dN (T.done X rfl rfl rfl hc i a s3 O R X.xe I3 (l F) M C) λr s4 ⟨S, I4⟩ => ?_)
    subst S
    exact ahj ⟨O, R, I4, qn⟩
  · refine ags Q (dN (T.item X rfl rfl rfl hc i a s3 O R X.xe I3 (l F) M go) λr s4 ⟨u, S, h4⟩ => ?_)
    subst S
    refine ags Q (dN h4 ?_)
    rintro _ s5 ⟨x, H5, I5, r5, y5, z, Y⟩
    have I5' := I5.pinned (l Y) (T.obj _ _ z)
    refine ags Q (dN (hg _ s5 O H5 x u _ I5' r5 (step x H5 y5)) ?_)
    rintro _ s6 ⟨σ6, H6, I6, q6⟩
    refine ags Q (dN (c _ s6 σ6 H6 _ I6 q6) λf Z t => ?_)
    have again : ∀{j : St}{k : Hp}, Inv X (a++uZ L s5.heap) j k Z→N j k→∃m, m<n∧∃i G q, Inv X a G q Z∧tn i Z.heap∧(∀b∈L, q b=none)∧W i m G q := λ{j k} p P => by
      obtain⟨m', hm, w7⟩ := hN j k P
      refine⟨m', hm, i+1, j, k, p.rC, T.keep _ _ _ z λb c o e => (p.pin (b, o) (mem_append_right _ (mem_append_right _ (jk c e)))).1, λb c => ?_, w7⟩
      obtain⟨o, e, d⟩ := T.obj _ _ z b c
      exact(p.pin (b, o) (mem_append_right _ (mem_append_right _ (jk c e)))).2.1
    cases f with
    |next => obtain⟨j, k, p, P⟩ := t;exact again p P
    |cont => obtain⟨j, k, p, P⟩ := t;exact again p P
    |brk => obtain⟨j, k, p, t⟩ := t;exact⟨j, k, p.rC, t⟩
    |ret v => obtain⟨x7, j, k, p, r7, t⟩ := t;exact⟨x7, j, k, p.rC, r7, t⟩
end
theorem RP{K : afh}{a : Addr}{xs : List V}{g : TG}{j : TS}{D : Ends}{σ : St}{H : Hp}(b : Nat→St→Hp→Prop)(h0 : b 0 σ H)(l : ∀i σ H, i≤xs.length→b i σ H→gj K H a xs)(hs : ∀i x σ H, xs[i]?=some x→b i σ H→g x σ H λd c => j { D with nx := b (i+1), ct := b (i+1), bk := D.nx } d c)(o : ∀σ H, b xs.length σ H→D.nx σ H) :
    ∃W : Nat→Nat→St→Hp→Prop, (∃m, W 0 m σ H)∧∀i m σ H, W i m σ H →
      ((Itl K a).stop i H∧D.nx σ H)∨((Itl K a).go i H∧∃N : St→Hp→Prop, (∀f H', N f H'→∃m', m'<m∧W (i+1) m' f H')∧∀x H', (Itl K a).yld i H x H'→g x σ H' λd c => j { D with nx := N, ct := N, bk := D.nx } d c) := by
  refine⟨λi m σ H => m=xs.length-i∧i≤xs.length∧b i σ H, ⟨xs.length, by simp, afz _, h0⟩, ?_⟩
  rintro i m σ H ⟨rfl, k, p⟩
  have q := l i σ H k p
  by_cases h : i<xs.length
  · refine .inr ⟨⟨xs, xs[i], q, by grind⟩, b (i+1), λf H' n => ⟨xs.length-(i+1), by lia, rfl, h, n⟩, λx H' y => ?_⟩
    obtain⟨e, y⟩ := y
    grind
  · have e : i=xs.length := by lia
    subst e
    exact .inl ⟨⟨xs, q, afj _⟩, o σ H p⟩
abbrev R2 := V→V→Hp→VK→Prop
def zj(X : Cx)(f : Value→Value→Sem Value)(r : R2) : Prop :=
  ∀(b : List (Addr×Obj))(s : Shared)(σ : St)(H : Hp)(x y : V)(v u : Value)(Q : VK), Inv X b σ H s→RelV x v→RelV y u→r x y H Q →
    wpAny (model X.prog X.w) X.A (f v u) (EP X b σ Q) X.xe s
def mR(X : Cx)(f : Value)(r : List V→Hp→VK→Prop) : Prop :=
  ∀(b : List (Addr×Obj))(s : Shared)(σ : St)(H : Hp)(c : List V)(d : List Value)(Q : VK), Inv X b σ H s→Vals c d→r c H Q →
    wpAny (model X.prog X.w) X.A (call f d) (EP X b σ Q) X.xe s
def wD(r : R2)(a d : TE) : TE := λσ H Q => a σ H λx c => d σ c λy b => r x y b Q
def rI(C : Int→Int→Prop)(g : Int→Int→V) : R2 := λx y H Q => ∃i j, x=.int i∧y=.int j∧C i j∧Q (g i j) H
def Ko(g : Int→Int→V) : R2 := λx y H Q => ∃i j, x=.int i∧y=.int j∧Q (g i j) H
section
variable{X : Cx}{a b c : Expr}{ta tb tc : TE}{pos : Pos}
theorem Xe(m : PE X a ta)(p : PE X b tb){R : V→V→Hp→Prop}(I : Inv X d σ H s)(h : ta σ H λx i => tb σ i λy e => R x y e){f : Value→Value→Sem Value}(hf : ∀v u g x y e, Inv X d σ e g→RelV x v→RelV y u→R x y e→wpAny (model X.prog X.w) X.A (f v u) Q X.xe g) :
    wpAny (model X.prog X.w) X.A (eval a X.env) (λv k => wpAny (model X.prog X.w) X.A (eval b X.env) (λu j => wpAny (model X.prog X.w) X.A (f v u) Q X.xe j) X.xe k) X.xe s := by
  refine dN (m d s σ H _ I h) λv o ⟨x, i, n, r1, l⟩ => ?_
  refine dN (p d o σ i _ n l) λu g ⟨y, e, I2, r2, q2⟩ => ?_
  grind
theorem aX(g : zj X (binaryOp op) r)(i : PE X a ta)(m : PE X b tb) : PE X (.BinOp a op b pos) (wD r ta tb) := by
  intro d s σ H Q I h
  exact wpAny_BinOp (Xe i m I h λv u f x y l k j e q => g d f σ l x y v u Q k j e q)
theorem opI{f : Value→Value→Sem Value}{C : Int→Int→Prop}{g : Int→Int→Int}(rule : ∀(i j : Int) (t u : Tok) (s : Shared) (Q : Value→Shared→Prop) (E : Value→Shared→Prop), C i j→Q (.int (g i j) s.toks) { s with toks := s.toks+1 }→wpAny (model X.prog X.w) X.A (f (.int i t) (.int j u)) Q E s) :
    zj X f (rI C λi j => .int (g i j)) := by
  intro pins s σ H x y v u Q I l d h
  obtain⟨i, j, rfl, rfl, k, q⟩ := h
  obtain⟨t, rfl⟩ := l
  obtain⟨e, rfl⟩ := d
  exact rule i j t e s _ _ k ⟨.int (g i j), H, I.tok _, ⟨_, rfl⟩, q⟩
theorem acr{f : Value→Value→Sem Value}{g : Int→Int→Int}(rule : ∀(i j : Int) (t u : Tok) (s : Shared) (Q : Value→Shared→Prop) (E : Value→Shared→Prop), Q (.int (g i j) s.toks) { s with toks := s.toks+1 }→wpAny (model X.prog X.w) X.A (f (.int i t) (.int j u)) Q E s) :
    zj X f (Ko λi j => .int (g i j)) := by
  intro pins s σ H x y v u Q I k d h
  obtain⟨i, j, rfl, rfl, q⟩ := h
  obtain⟨t, rfl⟩ := k
  obtain⟨e, rfl⟩ := d
  exact rule i j t e s _ _ ⟨.int (g i j), H, I.tok _, ⟨_, rfl⟩, q⟩
theorem aaf{f : Value→Value→Sem Value}{g : Int→Int→Bool}(rule : ∀(i j : Int) (t u : Tok) (s : Shared) (Q : Value→Shared→Prop) (E : Value→Shared→Prop), Q (.bool (g i j)) s→wpAny (model X.prog X.w) X.A (f (.int i t) (.int j u)) Q E s) :
    zj X f (Ko λi j => .bl (g i j)) := by
  intro pins s σ H x y v u Q I k d h
  obtain⟨i, j, rfl, rfl, q⟩ := h
  obtain⟨t, rfl⟩ := k
  obtain⟨e, rfl⟩ := d
  exact rule i j t e s _ _ ⟨.bl (g i j), H, I, rfl, q⟩
def acs(i j : Int) : Prop := 0<j∧j<1073741824
def acu(i j : Int) : Prop := 0≤j∧j≤1000000∧i.natAbs<2^64
def Xf(i j : Int) : Prop := (-(2^64)<i∧i<2^64)∨(-(2^64)<j∧j<2^64)
theorem Xf.ok(h : Xf i j) : IntMulOk i j := by
  rcases h with⟨d, e⟩|⟨d, e⟩
  · exact .of_left (intBits_le_64 d e)
  · exact .of_right (intBits_le_64 d e)
theorem gU : zj X (binaryOp .Add) (Ko λi j => .int (i+j)) := acr λ_ _ _ _ _ _ _ q => add_int q
theorem rD : zj X (binaryOp .Sub) (Ko λi j => .int (i-j)) := acr λ_ _ _ _ _ _ _ q => sub_int q
theorem RQ : zj X (binaryOp .Mult) (rI Xf λi j => .int (i*j)) := opI λ_ _ _ _ _ _ _ d q => mul_int q d.ok
theorem jJ : zj X (binaryOp .FloorDiv) (rI acs λi j => .int (i/j)) := opI λi j _ _ _ _ _ d q => by
  have h1 : (0 : Int)<j := d.1
  have h2 := d.2
  exact floordiv_int (by lia) (by grind) (.inl (PyProof.noPylong_small (by lia)))
theorem cJ : zj X (binaryOp .Mod) (rI (λ_ j => 0<j) λi j => .int (i%j)) := opI λi j _ _ _ _ _ hc q => by
  exact mod_int' (by lia) (by grind)
theorem Kp : zj X (binaryOp .Pow) (rI acu λi j => .int (i^j.toNat)) := opI λ_ _ _ _ _ _ _ d q => pow_int_small d.1 d.2.1 d.2.2 q
end
def ael : V→V→Bool
  |.non, .non => true|.non, .int _ => true|.int _, .non => true|.non, .bl _ => true|.bl _, .non => true|.non, .str _ => true|.str _, .non => true
  |.int _, .int _ => true|.bl _, .bl _ => true|.str _, .str _ => true|.Pu _, .Pu _ => true
  |.int _, .str _ => true|.str _, .int _ => true|.bl _, .str _ => true|.str _, .bl _ => true
  |_, _ => false
def rNe : R2 := λx y H Q => ael x y=true∧Q (.bl (!decide (x=y))) H
theorem Xg : decide (V.int i=V.int j)=(i==j) := by
  grind
theorem aag : decide (V.bl i=V.bl j)=(i==j) := by
  grind
theorem Xh : decide (V.str i=V.str j)=(i==j) := by
  grind
theorem Xi : decide (V.Pu i=V.Pu j)=(i.toList==j.toList) := by
  rw[Bool.eq_iff_iff]
  cases i
  cases j
  simp
section
variable{X : Cx}{a b c : Expr}{ta tb tc : TE}{pos : Pos}
theorem iM(I : Inv X d σ H s)(q : Q (.bl k) H)(e : k=k') : EP X d σ Q (.bool k') s := by
  subst e
  exact⟨.bl k, H, I, rfl, q⟩
theorem Zg : zj X (compareOp .NotEq) rNe := by
  intro pins s σ H x y v u Q I rx ry h
  obtain⟨hs, q⟩ := h
  cases x with
  |non =>
    cases rx
    cases y with
    |non => cases ry;exact PySem.EqNone.ne_none_none (iM I q (by simp))
    |bl j => cases ry;exact PySem.EqNone.ne_none_bool (iM I q (by simp))
    |int j => obtain⟨t', rfl⟩ := ry;exact PySem.EqNone.ne_none_int (iM I q (by simp))
    |str j => obtain⟨t', rfl⟩ := ry;exact PySem.EqNone.ne_none_str (iM I q (by simp))
    |_ => exact absurd (show false=true from hs) af2
  |bl i =>
    cases rx
    cases y with
    |non => cases ry;exact PySem.EqNone.ne_bool_none (iM I q (by simp))
    |bl j => cases ry;exact ne_bool (iM I q (congrArg not aag))
    |str j => obtain⟨t', rfl⟩ := ry;exact PySem.EqMixed.ne_bool_str (iM I q (by simp))
    |_ => exact absurd (show false=true from hs) af2
  |int i =>
    obtain⟨t, rfl⟩ := rx
    cases y with
    |non => cases ry;exact PySem.EqNone.ne_int_none (iM I q (by simp))
    |int j => obtain⟨t', rfl⟩ := ry;exact ne_int (iM I q (congrArg not Xg))
    |str j => obtain⟨t', rfl⟩ := ry;exact PySem.EqMixed.ne_int_str (iM I q (by simp))
    |_ => exact absurd (show false=true from hs) af2
  |str i =>
    obtain⟨t, rfl⟩ := rx
    cases y with
    |non => cases ry;exact PySem.EqNone.ne_str_none (iM I q (by simp))
    |bl j => cases ry;exact PySem.EqMixed.ne_str_bool (iM I q (by simp))
    |int j => obtain⟨t', rfl⟩ := ry;exact PySem.EqMixed.ne_str_int (iM I q (by simp))
    |str j => obtain⟨t', rfl⟩ := ry;exact ne_str (iM I q (congrArg not Xh))
    |_ => exact absurd (show false=true from hs) af2
  |Pu i =>
    obtain⟨t, rfl⟩ := rx
    cases y with
    |Pu j => obtain⟨t', rfl⟩ := ry;exact PySem.W.ne_bytes (iM I q (congrArg not Xi))
    |_ => exact absurd (show false=true from hs) af2
  |_ => cases y<;>exact absurd (show false=true from hs) af2
theorem Ja : zj X (compareOp .Lt) (Ko λi j => .bl (decide (i<j))) := aaf λ_ _ _ _ _ _ _ q => lt_int q
theorem DW : zj X (compareOp .LtE) (Ko λi j => .bl (decide (i≤j))) := aaf λ_ _ _ _ _ _ _ q => le_int q
theorem Jb : zj X (compareOp .Gt) (Ko λi j => .bl (decide (j<i))) := aaf λ_ _ _ _ _ _ _ q => gt_int q
theorem DX : zj X (compareOp .In) (λx y H Q => ∃i j, x=.str i∧y=.str j∧Q (.bl (!(aga j i 0 j.length 1).isEmpty)) H) := by
  intro pins s σ H x y v u Q I e d h
  obtain⟨i, j, rfl, rfl, q⟩ := h
  obtain⟨t, rfl⟩ := e
  obtain⟨t', rfl⟩ := d
  exact in_str (iM I q rfl)
theorem bG(b : Expr)(h : op≠.In := by decide)(h2 : op≠.NotIn := by decide) : behindInMarks op b=false := by
  have d : (op==CmpOp.In)=false := by grind
  have e : (op==CmpOp.NotIn)=false := by grind
  cases b<;>simp[behindInMarks, d, e]
theorem wI(g : zj X (compareOp op) r)(i : PE X a ta)(m : PE X b tb)(n : behindInMarks op b=false) : PE X (.Compare a [op] [b] pos) (wD r ta tb) := by
  intro d s σ H Q I h
  exact wpAny_Compare1 (Xe i m I h λv u f x y l k j e q => g d f σ l x y v u Q k j e q) n
def Zh(t : TE) : TT := λσ H Q => t σ H λx d => ∃k, x=.bl k∧Q k d
theorem aZ(j : zj X (compareOp op) r)(o : PE X a ta)(q : PE X b tb)(t : behindInMarks op b=false) : PT X (.Compare a [op] [b] pos) (Zh (wD r ta tb)) := by
  intro d s σ H Q I h
  refine wpAny_isTrue_Compare1 (dN (o d s σ H _ I h) λv E ⟨x, l, B, w, m⟩ => dN (q d E σ l _ B m) λu C ⟨y, F, i, g, p⟩ =>
    dN (j d C σ F x y v u _ i w g p) ?_) t
  rintro c s3 ⟨z, n, A, f, k, e, D⟩
  subst e
  cases f
  exact ag2 ⟨n, A, D⟩
def RT(r f : R2)(ta tb tc : TE) : TE := λσ H Q => ta σ H λx g => tb σ g λy i => r x y i λz d => ∃k, z=.bl k ∧
  (if k=true then tc σ d λe h => f y e h Q else Q (.bl false) d)
theorem wJ(T : zj X (compareOp op) r)(i : zj X (compareOp g) S)(A : PE X a ta)(D : PE X b tb)(w : PE X c tc)(E : lastMarks [op, g] [b, c]=false := by with_unfolding_all rfl) : PE X (.Compare a [op, g] [b, c] pos) (RT r S ta tb tc) := by
  intro f s σ H Q I h
  refine Compare_chain (dN (A f s σ H _ I h) λv q ⟨x, U, O, M, p⟩ => chain_link (dN (D f q σ U _ O p) λu R ⟨y, Y, F, n, B⟩ =>
    dN (T f R σ Y x y v u _ F M n B) ?_)) E
  rintro d C ⟨z, j, m, o, k, e, l⟩
  subst e
  cases o
  refine ag2 ?_
  cases k with
  |false => exact ite_ff ⟨.bl false, j, m, rfl, l⟩
  |true => exact ite_tt (chain_last (dN (w f C σ j _ m l) (by rintro P t ⟨W, L, G, N, J⟩;exact i f t σ L y W u P Q G n N J)))
theorem Bb : (sizeLine : Nat)<2^63 := by decide
theorem Kq : zj X (binaryOp .Add) (λx y H Q => ∃i j, x=.str i∧y=.str j∧i.length+j.length≤sizeLine∧Q (.str (i++j)) H) := by
  intro pins s σ H x y v u Q I g d h
  obtain⟨i, j, rfl, rfl, f, q⟩ := h
  obtain⟨t, rfl⟩ := g
  obtain⟨e, rfl⟩ := d
  exact add_str (λe tk => ⟨.str (i++j), H, I.tok _, ⟨_, rfl⟩, q⟩) f
def Jc(b : Expr) : Prop := ∀o i, subscripted b false o i=operate [o, i] (getItem o i)
theorem Jd(n : PE X a ta)(r : PE X b tb)(l : Jc b) :
    PE X (.Subscript a b pos) (wD (λx y H Q => ∃z i c, x=.str z∧y=.int i∧0≤i∧i<2^63∧i<z.length∧z.cps[i.toNat]?=some c∧Q (.str ⟨#[c]⟩) H) ta tb) := by
  intro pins s σ H Q I h
  refine Subscript_ (Xe n r I h λv u j x y p f o d q => ?_)
  obtain⟨z, i, c, rfl, rfl, k, h63, g, m, q⟩ := q
  obtain⟨t, rfl⟩ := o
  obtain⟨t', rfl⟩ := d
  have e := PySem.StrLaws.seqIndex_nonneg k g
  exact tail_any (ahz j z t) slot_str_getitem.lookup (getItem_str (c := c) (by
    grind) (by rw[e];exact m) ⟨.str ⟨#[c]⟩, p, f.tok _, ⟨_, rfl⟩, q⟩) (l _ _)
theorem vals1(r : Vals [x] us) : ∃u, us=[u]∧RelV x u := by
  cases r with
  |cons r1 d => cases d;grind
theorem PN : mR X (.type "int") (λxs H Q => (∃i, xs=[.int i]∧Q (.int i) H)∨∃k, xs=[.bl k]∧Q (.int (if k then 1 else 0)) H) := by
  intro pins s σ H xs us Q I r h
  rcases h with⟨i, rfl, q⟩|⟨k, rfl, q⟩
  · obtain⟨u, rfl, t, rfl⟩ := vals1 r
    exact call_int_int ⟨.int i, H, I, ⟨_, rfl⟩, q⟩
  · obtain⟨u, rfl, d⟩ := vals1 r
    cases d
    exact call_int_bool ⟨.int (if k then 1 else 0), H, I.tok _, ⟨_, rfl⟩, q⟩
theorem iw : mR X (.type "str") (λxs H Q => ∃i, xs=[.int i]∧i.natAbs.log2<1920∧Q (.str (toString i)) H) := by
  intro pins s σ H xs us Q I r h
  obtain⟨i, rfl, d, q⟩ := h
  obtain⟨u, rfl, t, rfl⟩ := vals1 r
  exact PySem.P.str_of_int d ⟨.str _, H, I.tok _, ⟨_, rfl⟩, q⟩
def aem(K : afh)(x : V)(H : Hp)(n : Nat) : Prop :=
  match x with
  |.str y => y.length≤sizeLine∧n=y.length
  |.Pu y => y.size≤sizeLine∧n=y.size
  |.ref p => (∃d, gj K H p d∧n=d.length)∨∃d, zN K H p d∧n=d.length
  |_ => False
theorem RV : mR X (.builtin "len") (λxs H Q => ∃x n, xs=[x]∧aem X.K x H n∧Q (.int n) H) := by
  intro pins s σ H xs us Q I r h
  obtain⟨x, n, rfl, e, q⟩ := h
  obtain⟨u, rfl, l⟩ := vals1 r
  have hl := Bb
  have hs : sizeLine=16777216 := sizeLine_eq
  cases x with
  |str y =>
    obtain⟨t, rfl⟩ := l
    obtain⟨m, f⟩ : y.length≤sizeLine∧n=y.length := e
    subst f
    exact len_str (by lia) ⟨.int _, H, I.tok _, ⟨_, rfl⟩, q⟩
  |Pu y =>
    obtain⟨t, rfl⟩ := l
    obtain⟨m, f⟩ : y.size≤sizeLine∧n=y.size := e
    subst f
    exact PySem.W.len_bytes (by lia) ⟨.int _, H, I.tok _, ⟨_, rfl⟩, q⟩
  |ref p =>
    cases l
    have f : (∃xs, gj X.K H p xs∧n=xs.length)∨∃xs, zN X.K H p xs∧n=xs.length := e
    rcases f with⟨xs, i, f⟩|⟨xs, i, f⟩
    · subst f
      obtain⟨j, g, k, o⟩ := I.list i
      have d := g.length
      exact Calls.call_len_list k.isList (by grind) ⟨.int xs.length, H, I.tok _, ⟨_, by simp only[size_toArray];rw[d]⟩, q⟩
    · subst f
      obtain⟨j, g, k, o⟩ := I.tuple i
      have d := g.length
      exact len_tuple k (by grind) ⟨.int xs.length, H, I.tok _, ⟨_, by simp only[size_toArray];rw[d]⟩, q⟩
  |_ => exact(show False from e).elim
end
structure Kr(h : Heap)(x dx C : Addr)(mA : Str→Option Value) : Prop where
  obj : h.get? x=some (ahi C dx)
  ns : h.Ns1 dx mA
  ne : dx≠x
theorem PX{h : Heap}(n : h.Ns1 l m) : ∃od, h.get? l=some od∧∀name, aip name od=some (m name) := by
  obtain⟨o, k, ep, g, j, f, _, d⟩ := n
  refine⟨o, g, λname => ?_⟩
  have e := d name
  unfold nsFind findBy at e
  unfold aip
  rw[j]
  dsimp only
  split
  · grind
  · have a : k.toList.any (·.refKey)=false := by
      rw[List.any_eq_false]
      intro y i
      obtain⟨z, t, c⟩ := f y (Array.mem_toList_iff.mp i)
      simp[DictEntry.refKey, c]
    grind
theorem Kr.look(I : Kr h x c C d) : ∃od, PySem.W.InstAt h x (ahi C c) C (some od)∧∀name, aip name od=some (d name) :=
  let⟨od, b, e⟩ := PX I.ns
  ⟨od, ⟨I.obj, rfl, rfl, b⟩, e⟩
section
variable{prog : Program}{w : World}{A : Around}{E : Value→Shared→Prop}{s : Shared}{K : afh}{x dx C f : Addr}{mA : Str→Option Value}{name : Str}{v : Value}
theorem get_map{Q : Value→Shared→Prop}(X : K.In s.heap)(I : Kr s.heap x dx C mA)(d : ah8 K C name=true)(c : aiu K C=true)(b : afv K (.ref C) name=some none)(hv : mA name=some v)(a : PySem.W.handedIn v=true)(h : Q v { s with toks := s.toks+1 }) :
    wpAny (model prog w) A (getAttr (.ref x) name expr) Q E s := by
  obtain⟨od, J, hl⟩ := I.look
  exact PySem.W.get_value X J (aif d).1 (PySem.W.findObj_own c b rfl (by grind)) a h
theorem RW{Q : Value×List Value→Shared→Prop}(X : K.In s.heap)(I : Kr s.heap x dx C mA)(a : ah8 K C name=true)(d : afv K (.ref C) name=some (some (.ref f)))(b : ajl K (.ref f)=true)(hv : mA name=none)(h : Q (.ref f, [.ref x]) s) :
    wpAny (model prog w) A (getMethod (.ref x) name pl) Q E s := by
  obtain⟨c, J, hl⟩ := I.look
  exact PySem.W.method_fn X J (aif a).1 (aif a).2 d (beq_iff_eq.mp b) (by show(aip name c).map (·.isSome)=some false;grind) h
theorem Xj{Q : Unit→Shared→Prop}(X : K.In s.heap)(I : Kr s.heap x dx C mA)(k : afv K (.ref C) "__setattr__" = some (some (.builtin "object.__setattr__")))(l : PySem.W.plainOver K C=true)(o : ai9 K C name=some none)(n : aiu K C=true)(q : ajm mA ns)(hsz : ns.length≤sizeLine)(h : ∀h', Kr h' x dx C (λy => if y=name then some v else mA y)→SameBut dx s.heap h'→Q () { s with heap := h', toks := s.toks+2 }) :
    wpAny (model prog w) A (setAttr (.ref x) name v) Q E s := by
  obtain⟨od, J, hl⟩ := I.look
  refine PySem.W.set_plain X J k (PySem.W.osa_open (s := { s with toks := s.toks+1 }) (r := none) X J l o λb => ?_)
  obtain⟨cd, p, i⟩ := PySem.W.any_some n
  have m := I.obj
  refine afk (afw (afk (afk (wpAny_loadPart m (afk (PySem.W.Looks.here (s := { s with toks := s.toks+1 }) (PySem.W.looks_clsIn X p) ?_))))))
  rw[i]
  refine afw (a := some dx) (afk (afw (afk ?_)))
  refine wpAny_nsSet1 (s := { s with toks := s.toks+1 }) I.ns λh' d c => ?_
  obtain⟨oD, esD, epD, e, g, j⟩ := d.count (PySem.Within.cons name v q)
  refine afk (wpAny_lookBehind e (by rw[g];exact pastItsLine_dict (afl j (by grind))) ?_)
  exact afw (h _ ⟨(c.2 _ (ahk I.ne)).trans I.obj, d, I.ne⟩ c)
theorem RX(X : K.In s.heap)(d : PySem.W.makesIn K C=true)(e : afv K (.ref C) "__init__" = some (some (.ref f)))(c : PySem.W.typeIn K (.ref f)=some (.type "function"))(h : codeAny (model prog w) (A.under (.builtin "type.__call__" ⟨.ref C::vs, b⟩)) (.call (.ref f) ⟨.ref (s.heap.objs.size+1)::vs, b⟩) (PySem.W.InitBack (s.heap.objs.size+1) R)
      { s with heap := (s.heap.push ag0).push (ahi C s.heap.objs.size) }) :
    codeAny (model prog w) A (.call (.ref C) ⟨vs, b⟩) R s := by
  exact PySem.W.make_core (PySem.W.makes_of X d) (PySem.W.looks_findIn X e) (λa => PySem.W.bind_fn X a c) (.inl rfl) h
end
def cA(f : Str)(v : V) : List (Str×V)→List (Str×V)
  |[] => [(f, v)]
  | (g, x)::r => if g=f then(g, v)::r else(g, x)::cA f v r
theorem cO(f g : Str)(v : V) : ∀fs : List (Str×V), (cA f v fs).lookup g=if g=f then some v else fs.lookup g
  |[] => by
    show List.lookup g [(f, v)]=_
    grind
  | (k, x)::r => by
    have ih := cO f g v r
    rw[show cA f v ((k, x)::r)=(if k=f then(k, v)::r else(k, x)::cA f v r) from rfl]
    grind
theorem yg(f : Str)(v : V) : ∀fs : List (Str×V), f∈(cA f v fs).map (·.1)∧∀g, g∈fs.map (·.1)→g∈(cA f v fs).map (·.1)
  |[] => ⟨by simp[cA], λg h => by simp at h⟩
  | (k, x)::r => by
    obtain⟨i1, i2⟩ := yg f v r
    rw[show cA f v ((k, x)::r)=(if k=f then(k, v)::r else(k, x)::cA f v r) from rfl]
    grind
theorem zm(f : Str)(v : V) : ∀fs : List (Str×V), (cA f v fs).length≤fs.length+1
  |[] => by simp[cA]
  | (k, x)::r => by
    have ih := zm f v r
    rw[show cA f v ((k, x)::r)=(if k=f then(k, v)::r else(k, x)::cA f v r) from rfl]
    grind
theorem uF.some_of(r : uF (some v) o) : ∃u, o=some u∧RelV v u := by
  cases o with
  |none => exact(r).elim
  |some u => exact⟨u, rfl, r⟩
theorem uF.none_of(r : uF none o) : o=none := by
  cases o with
  |none => rfl
  |some u => exact(r).elim
theorem P0(r : RelV v u) : PySem.W.handedIn u=true := by
  cases v with
  |non => cases(r);rfl
  |bl b => cases(r);rfl
  |int i => obtain⟨t, e⟩ := (r);cases e;rfl
  |str x => obtain⟨t, e⟩ := (r);cases e;rfl
  |Pu b => obtain⟨t, e⟩ := (r);cases e;rfl
  |flt b => obtain⟨t, e⟩ := (r);cases e;rfl
  |ref a => cases(r);rfl
  |ty n => cases(r);rfl
section
variable{P : Program}{w : World}{H H' : Hp}{h h' : Heap}{a C dx : Addr}{fs fs' : List (Str×V)}
theorem Ad(c : qj P w H h)(e : H a=some (.ins C dx fs)) : ∃b, Kr h a dx C b∧(∀f, uF (fs.lookup f) (b f))∧ajm b (fs.map (·.1))∧fs.length≤1000∧H dx=some (.own a) := by
  obtain⟨d, z, g, i, b, n, r, q⟩ := (c a _ e)
  exact⟨b, ⟨i, n, g⟩, r, q, z, d⟩
end
structure Cls(K : afh)(C : Addr) : Prop where
  pg : ah8 K C ag8=true
  hd : aiu K C=true
  po : PySem.W.plainOver K C=true
  sa : afv K (.ref C) "__setattr__" = some (some (.builtin "object.__setattr__"))
theorem Cls.get{K : afh}{C : Addr}(c : Cls K C)(f : Str) : ah8 K C f=true := c.pg
def jK(K : afh)(C : Addr)(f : Str) : Prop := afv K (.ref C) f=some none
theorem jK.taker{K : afh}{C : Addr}{f : Str}(n : jK K C f) : ai9 K C f=some none := by
  unfold ai9
  rw[n]
  rfl
structure Meth(K : afh)(C : Addr)(m : Str)(f : Addr) : Prop where
  at_ : afv K (.ref C) m=some (some (.ref f))
  fn : ajl K (.ref f)=true
  kp : agw K (.ref f)=true
section
variable{X : Cx}{pins : List (Addr×Obj)}{σ : St}{H : Hp}{s : Shared}{a C dx : Addr}{fs : List (Str×V)}{f : Str}{v : V}{A : Around}{E : Value→Shared→Prop}
theorem Ks{Q : Value→Shared→Prop}(I : Inv X pins σ H s)(e : H a=some (.ins C dx fs))(c : Cls X.K C)(n : jK X.K C f)(l : fs.lookup f=some v)(h : ∀u s', Inv X pins σ H s'→RelV v u→Q u s') : wpAny (model X.prog X.w) A (getAttr (.ref a) f b) Q E s := by
  obtain⟨g, O, r, _, _, _⟩ := Ad I.hok e
  obtain⟨u, i, d⟩ := uF.some_of (v := v) (o := g f) (by grind)
  exact get_map I.za O (c.get f) c.hd n i (P0 d) (h u _ (I.tok _) d)
theorem Ku{Q : Value×List Value→Shared→Prop}(I : Inv X pins σ H s)(e : H a=some (.ins C dx fs))(c : Cls X.K C)(k : Meth X.K C m g)(l : fs.lookup m=none)(h : Q (.ref g, [.ref a]) s) : wpAny (model X.prog X.w) A (getMethod (.ref a) m pl) Q E s := by
  obtain⟨b, O, r, _, _, _⟩ := Ad I.hok e
  have d : b m=none := uF.none_of (by grind)
  exact RW I.za O (c.get m) k.at_ k.fn d h
theorem Kv{Q : Unit→Shared→Prop}(I : Inv X pins σ H s)(e : H a=some (.ins C dx fs))(c : Cls X.K C)(n : jK X.K C f)(hl : fs.length<1000)(p : RelV y u)(h : ∀s', Inv X pins σ (upd H a (.ins C dx (cA f y fs))) s'→Q () s') : wpAny (model X.prog X.w) A (setAttr (.ref a) f u) Q E s := by
  obtain⟨m, O, r, i, _, j⟩ := Ad I.hok e
  have B : (fs.map (·.1)).length≤sizeLine := by rw[length_map, sizeLine_eq];lia
  refine Xj I.za O c.sa c.po n.taker c.hd i B λD d k => h _ ?_
  have t : ∃o, D.get? dx=some o := let⟨o, _, _, G, _⟩ := d.ns;⟨o, G⟩
  refine I.write (x := a) (e := dx) (by rw[e];exact ahd) (.inr j) (λb q l z => (k.2 b l).trans z) t ?_
  refine⟨by rw[aP O.ne];exact j, ?_, O.ne, d.obj, _, d.ns, λg => ?_, λg F => ?_⟩
  · have := zm f y fs;lia
  · show uF ((cA f y fs).lookup g) (if g=f then some u else m g)
    rw[cO]
    by_cases q : g=f
    · rw[if_pos q, if_pos q];exact p
    grind
  · by_cases q : g=f
    · rw[q];exact(yg f y fs).1
    · refine(yg f y fs).2 g (i g λz => F ?_)
      grind
theorem Inv.made(I : Inv X pins σ H s) : Inv X pins σ (upd (upd H s.heap.objs.size (.own (s.heap.objs.size+1))) (s.heap.objs.size+1) (.ins C s.heap.objs.size []))
    { s with heap := (s.heap.push ag0).push (ahi C s.heap.objs.size) } := by
  have d : (s.heap.push ag0).get? s.heap.objs.size=some ag0 := get?_push_size s.heap rfl
  have j := by
    have := get?_push_size (s.heap.push ag0) (o := ahi C s.heap.objs.size) rfl
    rwa [size_push] at this
  have k : (s.heap.push ag0).Ns s.heap.objs.size (λ_ => none) := ⟨ag0, #[], _, d, rfl, (λe l => absurd l (by simp)), λ_ => rfl⟩
  have h := I.laid (o := .own (s.heap.objs.size+1)) (t' := s.toks) (λb u q => get?_push_of_some _ q) (afj _) ⟨_, d⟩
  refine h.laid (λb u q => get?_push_of_some _ q) (Nat.le_of_eq (size_push _ _)) ?_
  have g : s.heap.objs.size≠s.heap.objs.size+1 := afy (ah6 _)
  refine⟨by rw[aP g, aY], afz _, g, j, λ_ => none, (Heap.Ns1.of_empty k).at λo q => get?_push_of_some _ q, λ_ => ahd, λy i => absurd rfl i⟩
theorem Xk(b : attributeBase e f env (eval e env)=eval e env)(h : wpAny (model prog w) A (eval e env) (λo c => wpAny (model prog w) A (getAttr o f true) Q E c) E s) : wpAny (model prog w) A (eval (.Attribute e f pos) env) Q E s :=
  Attribute_any_ h (by rw[arm_eval_Attribute, b])
end
def Xl(K : afh)(d : TE)(f : Str) : TE := λσ H Q => d σ H λx c => ∃a C g b v, x=.ref a∧c a=some (.ins C g b)∧Cls K C∧jK K C f∧b.lookup f=some v∧Q v c
def aen(K : afh)(h g : TE)(f : Str) : TS := λD σ H => g σ H λy i => h σ i λx d => ∃a C c b, x=.ref a∧d a=some (.ins C c b)∧Cls K C∧jK K C f∧b.length<1000 ∧
  D.nx σ (upd d a (.ins C c (cA f y b)))
section
variable{X : Cx}{o e value : Expr}{f : Str}{pos pos' tpos : Pos}{ta tv : TE}
theorem RZ(p : PE X e ta)(d : attributeBase e f X.env (eval e X.env)=eval e X.env) : PE X (.Attribute e f pos) (Xl X.K ta f) := by
  intro b s σ H Q I h
  refine Xk d (dN (p b s σ H _ I h) ?_)
  rintro u s1 ⟨x, m, j, r, a, C, dx, fs, v, t, i, c, n, l, q⟩
  subst t
  obtain rfl : u=agj a := r
  exact Ks j i c n l λu' s2 g k => ⟨v, m, g, k, q⟩
theorem u5(m : PE X o ta)(i : PE X value tv)(k : swapsWith value (some (.Attribute o f pos')) pos.line X.env=pure false) : PS X (.Assign [.Attribute o f pos'] value pos) (aen X.K ta tv f) := by
  intro b s σ H D I h
  refine plainObj_wpAny_Assign_Attribute (dN (i b s σ H _ I h) λu d ⟨y, j, B, v, q⟩ => dN (m b d σ j _ B q) ?_) k
  rintro t s2 ⟨x, H2, g, p, a, C, dx, fs, w, z, c, n, l, r⟩
  subst w
  obtain rfl : t=agj a := p
  exact Kv g z c n l v λs3 A => ⟨σ, _, A, r⟩
end
section
variable{X : Cx}{pins : List (Addr×Obj)}{σ : St}{H : Hp}{s : Shared}{A : Around}{E : Value→Shared→Prop}{Q : Value→Shared→Prop}{c : Value}{b : Bool}
inductive u_(K : afh)(H : Hp) : V→Value→Prop where
  |non : u_ K H .non (.type "NoneType")
  |bl (x : Bool) : u_ K H (.bl x) (.type "bool")
  |int (i : Int) : u_ K H (.int i) (.type "int")
  |str (x : Str) : u_ K H (.str x) (.type "str")
  |flt (x : UInt64) : u_ K H (.flt x) (.type "float")
  |lst {a : Addr} {xs : List V} (e : H a=some (.lst xs)) : u_ K H (.ref a) (.type "list")
  |Iw {a : Addr} {o : Obj} {xs : List V} (e : H a=some (.Iw o (.lst xs))) : u_ K H (.ref a) (.type "list")
  |tup {a : Addr} {xs : List V} (e : H a=some (.tup xs)) : u_ K H (.ref a) (.type "tuple")
  |dK {a : Addr} {kvs : List (Key×V)} (e : H a=some (.dK kvs)) : u_ K H (.ref a) (.type "dict")
  |dT {a : Addr} {kvs : List (List Key×V)} (e : H a=some (.dT kvs)) : u_ K H (.ref a) (.type "dict")
  |ins {a C dx : Addr} {fs : List (Str×V)} (e : H a=some (.ins C dx fs)) (cl : Cls K C) (ha : afv K (.ref C) "__class__" = some (some (.builtin "object.__class__")))
      (hn : aiw K (.builtin "object.__class__") "__get__" = some (some (.builtin "getset_descriptor.__get__"))) (htk : aja K (.builtin "object.__class__")=some true)
      (hm : ah9 K C (.type "object")=some true) : u_ K H (.ref a) (.ref C)
theorem P_(I : Inv X pins σ H s)(g : RelV x u)(F : u_ X.K H x t)(e : afo X.K t c=some b)(h : ∀tk, Q (.bool b) { s with toks := tk }) :
    wpAny (model X.prog X.w) A (call (.builtin "isinstance") [u, c]) Q E s := by
  cases F with
  |non => cases(show u=ahh from g);exact agd PySem.W.kitx_none I.za ahd e (λz => nomatch z) h
  |bl y => cases(show u=ahb y from g);exact agd PySem.W.kitx_bool I.za ahd e (λz => nomatch z) h
  |int i => obtain⟨t, q⟩ := (show∃t, u=Value.int i t from g);cases q;exact agd PySem.W.kitx_int I.za ahd e (λz => nomatch z) h
  |str y => obtain⟨t, q⟩ := (show∃t, u=Value.str y t from g);cases q;exact agd PySem.W.kitx_str I.za ahd e (λz => nomatch z) h
  |flt y => obtain⟨t, q⟩ := (show∃t, u=Value.float y t from g);cases q;exact agd PySem.W.kitx_float I.za ahd e (λz => nomatch z) h
  |@lst a l f =>
    cases(show u=agj a from g)
    obtain⟨_, _, n, _, j⟩ := (show gb X.prog X.w H s.heap a (.lst l) from I.hok a _ f)
    exact agd PySem.W.kitx_list I.za ⟨_, j, rfl⟩ e (λz => nomatch z) h
  |@Iw a ob l f =>
    cases(show u=agj a from g)
    obtain⟨_, _, _, n, _, j⟩ := (show gb X.prog X.w H s.heap a (.Iw ob (.lst l)) from I.hok a _ f)
    exact agd PySem.W.kitx_list I.za ⟨_, j, rfl⟩ e (λz => nomatch z) h
  |@tup a l f =>
    cases(show u=agj a from g)
    obtain⟨_, _, _, p⟩ := (show gb X.prog X.w H s.heap a (.tup l) from I.hok a _ f)
    obtain⟨o, j, m, _⟩ := p
    exact agd PySem.W.kitx_tuple I.za ⟨o, j, m⟩ e (λz => nomatch z) h
  |@dK a k f =>
    cases(show u=agj a from g)
    obtain⟨_, _, vs, _, p⟩ := (show gb X.prog X.w H s.heap a (.dK k) from I.hok a _ f)
    obtain⟨o, B, G, j, m, _⟩ := p
    exact agd PySem.W.kitx_dict I.za ⟨o, j, m.1⟩ e (λz => nomatch z) h
  |@dT a k f =>
    cases(show u=agj a from g)
    obtain⟨_, _, l, _, o, B, G, j, m, _⟩ := (show gb X.prog X.w H s.heap a (.dT k) from I.hok a _ f)
    exact agd PySem.W.kitx_dict I.za ⟨o, j, m.1⟩ e (λz => nomatch z) h
  |@ins a C dx fs f v L hn r D =>
    cases(show u=agj a from g)
    obtain⟨mA, O, _⟩ := Ad I.hok f
    obtain⟨od, J, _⟩ := O.look
    exact agd (PySem.W.kitx_own (v.get _) v.hd L hn r D) I.za J e (λz => nomatch z) h
end
structure f9(k : Nat)(A : Around) : Prop where
  hd : A.handled=none
  dp : A.depth+3*k+5<recursionLimit
  un : A.units+16*k+200<cLine
theorem f9.mono(r : f9 k A)(h : j≤k) : f9 j A := ⟨r.hd, by have := r.dp;lia, by have := r.un;omega⟩
theorem f9.deeper(r : f9 (k+1) A)(env : Env) : f9 k (A.deeper env) :=
  ⟨r.hd, by have := r.dp;show A.depth+1+3*k+5<_;lia, by have := r.un;show A.units+3+16*k+200<_;omega⟩
theorem Kw{A : Around} : (A.under (.builtin "type.__call__" ⟨.ref C::us, kw⟩)).depth=A.depth+1 := by
  first|rfl|grind
theorem Ky{A : Around} : (A.under (.builtin "type.__call__" ⟨.ref C::us, kw⟩)).units=A.units+1 := by
  first|rfl|grind
theorem f9.make(r : f9 (k+1) A)(C : Addr)(us : List Value)(a : List (Str×Value)) : f9 k (A.under (.builtin "type.__call__" ⟨.ref C::us, a⟩)) :=
  ⟨r.hd, by have := r.dp;rw[Kw];lia, by have := r.un;rw[Ky];omega⟩
theorem f9.depth(r : f9 k A) : A.depth<recursionLimit := by have := r.dp;lia
theorem f9.units(r : f9 k A) : A.units+64<cLine := by have := r.un;lia
def fu : TA := λ_ H Q => Q [] H
def cD(a : TE)(e : TA) : TA := λσ H Q => a σ H λx c => e σ c λd b => Q (x::d) b
section
variable{X : Cx}{e : Expr}{es : List Expr}{te : TE}{t : TA}{pos : Pos}
theorem aA : PA X [] fu := λ_ _ _ _ H Q I h => Calls.spliced_nil ⟨[], H, I, .nil, h⟩
theorem aj(n : PE X e te)(k : PA X es t)(m : starEach (e::es) X.env=(false, eval e X.env)::starEach es X.env := by rfl) : PA X (e::es) (cD te t) := by
  intro pos a s σ H Q I h
  rw[m]
  refine Calls.spliced_cons (dN (n a s σ H _ I h) ?_)
  rintro u o ⟨x, j, g, f, l⟩
  exact dN (k pos a o σ j _ g l) (by rintro us s2 ⟨i, p, d, c, b⟩;exact⟨x::i, p, d, .cons f c, b⟩)
def Qa(t : TA) : TE := λσ H Q => t σ H λb c => b.length≤sizeLine∧∀p, c p=none→Q (.ref p) (upd c p (.tup b))
def aah(t : TA) : TE := λσ H Q => t σ H λa b => a.length≤sizeLine∧∀p, b p=none→Q (.ref p) (upd b p (.lst a))
theorem iQ{f}(h : PA X es t) : PE X (.Tuple es f pos) (Qa t) := by
  intro a s σ H Q I l
  refine wpAny_Tuple_spliced (dN (h pos a s σ H _ I l) λk d ⟨g, i, c, r, z, q⟩ => ⟨by rw[← r.length];exact z, ?_⟩)
  have j := c.hok.fresh (afj _)
  refine⟨.ref d.heap.objs.size, upd i d.heap.objs.size (.tup g), c.laid (λb u e => get?_push_of_some _ e) (afj _) ?_, rfl, q _ j⟩
  exact⟨z, k, r, ⟨_, get?_push_size _ rfl, rfl, _, rfl⟩⟩
theorem cX(h : PA X es t) : PE X (.List es pos) (aah t) := by
  intro a s σ H Q I f
  refine wpAny_List_spliced (dN (h pos a s σ H _ I f) λk c ⟨g, i, d, r, z, q⟩ => ⟨by rw[← r.length];exact z, ?_⟩)
  have j := d.hok.fresh (afj _)
  refine⟨.ref c.heap.objs.size, upd i c.heap.objs.size (.lst g), d.laid (λb u e => get?_push_of_some _ e) (afj _) ?_, rfl, q _ j⟩
  exact⟨z, k, 0, r, get?_push_size _ rfl⟩
end
abbrev Sp := List V→Hp→VK→XK→Prop
abbrev Rr := List Env→Hp→Shared→XK→Value→Shared→Prop
structure Kz(P : Program)(w : World)(K : afh)(mg : Str→Option Value)(base : Heap)(A : Around)(outer : List Env)(s : Shared)(H : Hp) : Prop where
  frames : A.frames=some outer
  mod : Mod K mg base
  bs : ∀b o, base.get? b=some o→s.heap.get? b=some o∧H b=none
  RD : base.objs.size≤s.heap.objs.size
  wF : s.heap.FunFrames base outer
  Xb : ∀b∈frs outer, H b=none
  hok : qj P w H s.heap
  bare : AllBare s.gens
def CE(b : List Env)(P : Program)(w : World)(H : Hp)(s : Shared)(Q : VK)(u : Value)(s' : Shared) : Prop :=
  ∃v c, s'.os=s.os∧AllBare s'.gens∧Un (frs b) [] H c s.heap s'.heap∧qj P w c s'.heap∧RelV v u∧Q v c
def CR(CX : Rr)(a : List Env)(P : Program)(w : World)(H : Hp)(s : Shared)(Q : VK)(E : XK)(r : Result)(s' : Shared) : Prop :=
  match r with
  |.ok (.ret u) => CE a P w H s Q u s'
  |.ok _ => False
  |.error e => CX a H s E e s'
structure bY(P : Program)(w : World)(K : afh)(mg : Str→Option Value)(base : Heap)(CX : Rr)(k : Nat)(f : Addr)(fd : FuncData)(ps : List Str)(sp : Sp) : Prop where
  len : ∀vs H Q E, sp vs H Q E→vs.length=ps.length
  run : ∀(A : Around)(outer : List Env)(s : Shared)(H : Hp)(args : Args)(us : List Value)(vs : List V)(Q : VK)(E : XK), f9 k A→Kz P w K mg base A outer s H→BindsTo s fd args (ps.zip us)→Vals vs us→sp vs H Q E →
    codeAny (model P w) A (.call (.ref f) args) (CR CX outer P w H s Q E) s
theorem bY.mono{P : Program}{w : World}{K : afh}{mg : Str→Option Value}{base : Heap}{CX : Rr}{j k : Nat}{f : Addr}{c : FuncData}{ps : List Str}{sp : Sp}(F : bY P w K mg base CX j f c ps sp)(h : j≤k) :
    bY P w K mg base CX k f c ps sp := ⟨F.len, λA a s H b g d Q E e => F.run A a s H b g d Q E (e.mono h)⟩
theorem bY.imp{P : Program}{w : World}{K : afh}{mg : Str→Option Value}{base : Heap}{CX : Rr}{k : Nat}{f : Addr}{e : FuncData}{ps : List Str}{sp d : Sp}(F : bY P w K mg base CX k f e ps sp)(h : ∀vs H Q E, d vs H Q E→sp vs H Q E) : bY P w K mg base CX k f e ps d :=
  ⟨λvs H Q E q => F.len vs H Q E (h _ _ _ _ q), λA b s H c l vs Q E n i g m j => F.run A b s H c l vs Q E n i g m (h _ _ _ _ j)⟩
theorem Kz.make{P : Program}{w : World}{K : afh}{mg : Str→Option Value}{base : Heap}{A : Around}{a : List Env}{s : Shared}{H : Hp}(e : Kz P w K mg base A a s H)(C : Addr)(us : List Value)(b : List (Str×Value)) :
    Kz P w K mg base (A.under (.builtin "type.__call__" ⟨.ref C::us, b⟩)) a s H := ⟨by first|exact e.frames|grind, e.mod, e.bs, e.RD, e.wF, e.Xb, e.hok, e.bare⟩
section
variable{X : Cx}{pins : List (Addr×Obj)}{σ : St}{H : Hp}{s s' : Shared}
theorem Inv.env0(I : Inv X pins σ H s) : Kz X.prog X.w X.K X.mg X.base X.A X.stack s H :=
  ⟨I.ok.frames, I.ok.mod, I.bs, afl I.ok.RD I.sz, I.stack, I.Gi, I.hok, I.bare⟩
theorem Inv.after(I : Inv X pins σ H s)(h : CE X.stack X.prog X.w H s Q u s') : EP X pins σ Q u s' := by
  obtain⟨v, j, os, c, i, e, r, q⟩ := h
  obtain⟨hh, g, d, t, f⟩ := s'
  obtain rfl : f=s.os := os
  exact⟨v, j, I.call i e c (λb z => absurd z (by simp)), r, q⟩
end
def uL(sp : Sp)(a : List V)(E : XK)(t : TA) : TE := λσ H Q => t σ H λb c => sp (b++a) c Q E
def R_(C : Addr)(m : Str)(sp : Sp)(b : List V)(E : XK)(h : TE)(t : TA) : TE := λσ H Q => h σ H λx d => ∃a g c, x=.ref a∧d a=some (.ins C g c)∧c.lookup m=none ∧
  t σ d λf e => sp (x::(f++b)) e Q E
def zp(C : Addr)(sp : Sp)(c : List V)(E : XK)(t : TA) : TE := λσ H Q => t σ H λe d => ∀x b, d x=none→d b=none→b≠x →
  sp (.ref x::(e++c)) (upd (upd d b (.own x)) x (.ins C b [])) (λv f => v=.non∧Q (.ref x) f) E
def Binds(K : afh)(c : FuncData)(ps : List Str)(b : List Value) : Prop :=
  ∀(s : Shared)(a : List Value), K.In s.heap→(a++b).length=ps.length→BindsTo s c ⟨a, []⟩ (ps.zip (a++b))
theorem Binds.all{K : afh}{b : FuncData}{ps : List Str}(h : ∀us : List Value, us.length=ps.length→bindArgs b ⟨us, []⟩=pure (ps.zip us)) : Binds K b ps [] := λs us _ a => by
  rw[append_nil] at a ⊢
  exact .of_eq (h us a)
def Passes(CX : Rr)(X : Cx)(E : XK) : Prop := ∀(b : List (Addr×Obj))(σ : St)(H : Hp)(s : Shared)(e : Value)(c : Shared), Inv X b σ H s→CX X.stack H s E e c→X.xe e c
section
variable{X : Cx}{CX : Rr}{k : Nat}{f C : Addr}{fd : FuncData}{ps : List Str}{sp : Sp}{Ru : List V}{ds : List Value}{E : XK}{x m : Str}{p pos apos : Pos}{e o : Expr}{es : List Expr}{ta : TE}{t : TA}
theorem Sd(F : bY X.prog X.w X.K X.mg X.base CX k f fd ps sp)(j : f9 k X.A)(d : Binds X.K fd ps ds)(n : Vals Ru ds)(i : Passes CX X E)(I : Inv X a σ H s)(r : Vals vs us)(h : sp (vs++Ru) H Q E) : wpAny (model X.prog X.w) X.A (call (.ref f) us) (EP X a σ Q) X.xe s := by
  have c := r.append n
  have q : (us++ds).length=ps.length := by rw[← c.length];exact F.len _ _ _ _ h
  refine aji (ai5 (F.run X.A X.stack s H ⟨us, []⟩ (us++ds) (vs++Ru) Q E j I.env0 (d s us I.za q) c h) λr l b => ?_)
  cases r with
  |error e => exact i a σ H s e l I b
  |ok g =>
    cases g with
    |ret u => exact I.after b
    |next => exact af4 b
    |brk => exact af4 b
    |cont => exact af4 b
theorem Gp(F : bY X.prog X.w X.K X.mg X.base CX k f fd ps sp)(i : f9 k X.A)(z : Gl X x)(l : X.mg x=some (.ref f))(v : agw X.K (.ref f)=true)(j : Binds X.K fd ps ds)(u : Vals Ru ds)(B : Passes CX X E)(n : PA X (e::es) t)(d : (x==("__debug__" : Str))=false := by decide)(y : starEach (e::es) X.env=(false, eval e X.env)::starEach es X.env := by rfl)(c : (backTo pos (starEach es X.env)).any (·.1)=false := by rfl) :
    PE X (.Call (.Name x p) (e::es) [] pos) (uL sp Ru E t) := by
  intro b s σ H Q I h
  refine ah0 (wG I z l ?_ d)
  refine PySem.W.callWith_K I.ok.mod.kin v (dN (n pos b s σ H _ I h) λus s1 ⟨vs, H1, g, r, q⟩ => ⟨g.za, ?_⟩) y c
  exact Sd F i j u B g r q
theorem Sh(G : PE X o ta)(c : Cls X.K C)(i : Meth X.K C m f)(F : bY X.prog X.w X.K X.mg X.base CX k f fd ps sp)(D : f9 k X.A)(r : Binds X.K fd ps ds)(J : Vals Ru ds)(v : Passes CX X E)(B : eval (.Call (.Attribute o m apos) [] [] pos) X.env=(do
      let j ← eval o X.env
      standAt apos.atName
      let(f, first) ← holding [j] (getMethod j m pl)
      callWith pos f first (backTo pos (starEach [] X.env)) (backToKw pos (keywordEach [] X.env))) := by rfl) :
    PE X (.Call (.Attribute o m apos) [] [] pos) (R_ C m sp Ru E ta fu) := by
  intro d s σ H Q I h
  refine PySem.W.methodCall_KW (dN (G d s σ H _ I h) ?_) B
  rintro u s1 ⟨x, H1, g, n, a, dx, fs, y, z, l, q⟩
  subst y
  obtain rfl : u=agj a := n
  refine Ku g z c i l ?_
  exact PySem.W.callWith_K0 g.za i.kp (Sd (vs := [.ref a]) F D r J v g (.cons rfl .nil) q)
structure Mk(K : afh)(C f : Addr) : Prop where
  makes : PySem.W.makesIn K C=true
  init : afv K (.ref C) "__init__" = some (some (.ref f))
  fn : ajl K (.ref f)=true
  kp : agw K (.ref C)=true
theorem Sq(M : Mk X.K C f)(F : bY X.prog X.w X.K X.mg X.base CX k f fd ps sp)(j : f9 (k+1) X.A)(n : Binds X.K fd ps ds)(q : Vals Ru ds)(O : Passes CX X E)(I : Inv X b σ H s)(r : Vals vs us)(h : ∀x c, H x=none→H c=none→c≠x→sp (.ref x::(vs++Ru)) (upd (upd H c (.own x)) x (.ins C c [])) (λv y => v=.non∧Q (.ref x) y) E) :
    wpAny (model X.prog X.w) X.A (call (.ref C) us) (EP X b σ Q) X.xe s := by
  have g := h (s.heap.objs.size+1) s.heap.objs.size (I.hok.fresh (ahn _)) (I.hok.fresh (afj _)) (afy (ah6 _))
  have d := Inv.made (C := C) I
  have i : Vals (V.ref (s.heap.objs.size+1)::(vs++Ru)) (agj (s.heap.objs.size+1)::(us++ds)) := .cons rfl (r.append q)
  have G : (agj (s.heap.objs.size+1)::us++ds).length=ps.length := by
    have e := i.length
    rw[F.len _ _ _ _ g] at e
    grind
  refine aji (RX (f := f) I.za M.makes M.init (beq_iff_eq.mp M.fn) (ai5 (F.run _ X.stack _ _ ⟨agj (s.heap.objs.size+1)::us, []⟩ (agj (s.heap.objs.size+1)::(us++ds)) _ _ E (j.make C us [])
    (d.env0.make C us []) (n _ (agj (s.heap.objs.size+1)::us) d.za G) i g) λr N a => ?_))
  cases r with
  |error e => exact O b σ _ _ e N d a
  |ok J =>
    cases J with
    |ret u =>
      obtain⟨v, l, D, B, z, L⟩ := d.after a
      subst z
      exact⟨B, ⟨V.ref (s.heap.objs.size+1), l, D, rfl, L⟩⟩
    |next => exact af4 a
    |brk => exact af4 a
    |cont => exact af4 a
theorem Ae(M : Mk X.K C f)(F : bY X.prog X.w X.K X.mg X.base CX k f fd ps sp)(n : f9 (k+1) X.A)(y : Gl X x)(l : X.mg x=some (.ref C))(j : Binds X.K fd ps ds)(u : Vals Ru ds)(g : Passes CX X E)(i : PA X (e::es) t)(c : (x==("__debug__" : Str))=false := by decide)(v : starEach (e::es) X.env=(false, eval e X.env)::starEach es X.env := by rfl)(b : (backTo pos (starEach es X.env)).any (·.1)=false := by rfl) :
    PE X (.Call (.Name x p) (e::es) [] pos) (zp C sp Ru E t) := by
  intro a s σ H Q I h
  refine ah0 (wG I y l ?_ c)
  refine PySem.W.callWith_K I.ok.mod.kin M.kp (dN (i pos a s σ H _ I h) λus s1 ⟨vs, H1, d, r, q⟩ => ⟨d.za, ?_⟩) v b
  exact Sq M F n j u g d r q
end
structure bf(N P : List Str)(sc : Scope) : Prop where
  kind : sc.kind=.function
  co : sc.isCoroutine=false
  gen : sc.isGenerator=false
  nd : N.Nodup
  pre : N.take P.length=P
  par : ∀x∈P, sc.names.lookup x=some .local∨sc.names.lookup x=some .cell
  aai : ∀y∈sc.names, y.2≠.free
theorem DY{kindOf : Str→Option NameKind}{x : Str} : ∀{a : List (Str×Value)}{m : Str→Option Value}, (∀v, (x, v)∉a)→bindL kindOf a m x=m x
  |[], _, _ => rfl
  | (n, v)::r, m, h => by
    unfold bindL
    rw[DY λw b => h w (mem_cons_of_mem _ b)]
    split
    · grind
    · rfl
theorem D_{kindOf : Str→Option NameKind}{x : Str} : ∀{a : List (Str×Value)}{m : Str→Option Value}, (∀v, (x, v)∉a)→bindC kindOf a m x=m x
  |[], _, _ => rfl
  | (n, v)::r, m, h => by
    unfold bindC
    rw[D_ λw b => h w (mem_cons_of_mem _ b)]
    split
    · rfl
    grind
theorem Eb{kindOf : Str→Option NameKind} : ∀{P : List Str}{vs : List Value}{i : Nat}{m : Str→Option Value}, P.Nodup→P[i]?=some x→vs[i]?=some v→kindOf x=some .local →
    bindL kindOf (P.zip vs) m x=some v
  |[], _, _, _, _, h, _, _ => by simp at h
  |_::_, [], _, _, _, _, h, _ => by simp at h
  |p::P, w::vs, 0, m, c, b, a, d => by
    simp at b a;subst b;subst a
    show bindL kindOf ((p, w)::P.zip vs) m p=_
    unfold bindL
    rw[DY λv e => (nodup_cons.mp c).1 (of_mem_zip e).1, if_pos d]
    simp
  |p::P, w::vs, i+1, m, c, b, a, d => by
    unfold bindL
    exact Eb (i := i) (nodup_cons.mp c).2 (by grind) (by grind) d
theorem Ec{kindOf : Str→Option NameKind} : ∀{P : List Str}{vs : List Value}{i : Nat}{m : Str→Option Value}, P.Nodup→P[i]?=some x→vs[i]?=some v→kindOf x≠some .local →
    bindC kindOf (P.zip vs) m x=some v
  |[], _, _, _, _, h, _, _ => by simp at h
  |_::_, [], _, _, _, _, h, _ => by simp at h
  |p::P, w::vs, 0, m, c, b, a, d => by
    simp at b a;subst b;subst a
    show bindC kindOf ((p, w)::P.zip vs) m p=_
    unfold bindC
    rw[D_ λv e => (nodup_cons.mp c).1 (of_mem_zip e).1, if_neg d]
    simp
  |p::P, w::vs, i+1, m, c, b, a, d => by
    unfold bindC
    exact Ec (i := i) (nodup_cons.mp c).2 (by grind) (by grind) d
def start(N : List Str)(vs : List V) : St := vs.map some++replicate (N.length-vs.length) none
def nJ(CX : Rr)(P : Program)(w : World)(K : afh)(mg : Str→Option Value)(base : Heap)(N : List Str)(d : Str)(b : Scope)(f : Addr)(h : Value)(A : Around)(c : List Env)(s : Shared)(H : Hp)(E : XK) : Cx where
  prog := P
  w := w
  K := K
  mg := mg
  base := base
  A := A.deeper (envOfC d b s.heap.objs.size f h)
  N := N
  s₀ := s
  H₀ := H
  env := envOfC d b s.heap.objs.size f h
  outer := c
  stack := envOfC d b s.heap.objs.size f h::c
  ex := []
  calm := true
  fn := λ_ => true
  pn := []
  xe := λe i => wpAny (model P w) (A.deeper (envOfC d b s.heap.objs.size f h)) (leaving (envOfC d b s.heap.objs.size f h) e) (λ_ g => CX c H s E e g) (λj g => CX c H s E j g) i
theorem Je{a : Scope}(h : a.names.lookup x=some .cell) : ∃c, (cellsFrom n a.names []).lookup x=some c := by
  have q := ag7 a.names n [] (.inl h)
  exact agq.mp q
theorem Qc{CX : Rr}{P : Program}{w : World}{K : afh}{mg : Str→Option Value}{base : Heap}{N ps : List Str}{qual : Str}{scope : Scope}{f : Addr}{cd : Value}{A : Around}{outer : List Env}{s s1 : Shared}{H : Hp}{E : XK}{us : List Value}{vs : List V}(S : bf N ps scope)(hd : A.handled=none)(e0 : Kz P w K mg base A outer s H)(hl : vs.length=ps.length)(r : Vals vs us)(x : InCallC s s.heap.objs.size (bindL (envOfC qual scope s.heap.objs.size f cd).kindOf (ps.zip us) λ_ => none) (cellsFrom (s.heap.objs.size+1) scope.names []) (bindC (envOfC qual scope s.heap.objs.size f cd).kindOf (ps.zip us) λ_ => none) s1) :
    Inv (nJ CX P w K mg base N qual scope f cd A outer s H E) [] (start N vs) H s1 := by
  have hpl : ps.length≤N.length := by have := congrArg length S.pre;rw[length_take] at this;lia
  obtain⟨h1, tk, rfl, hk⟩ := x.done
  have noA : ∀b : Addr, b∉(nJ CX P w K mg base N qual scope f cd A outer s H E).ex := λb z => absurd (show b∈([] : List Addr) from z) (by simp)
  refine⟨⟨e0.mod, S.kind, rfl, rfl, afj _, λy z c h1 h2 => ?_, λy hy => ?_, λy c _ h => ?_, λ_ => hd, Around.frames_deeper e0.frames, .inr ⟨rfl, rfl⟩, λb z => absurd z (noA b), e0.bs, e0.RD, λb _ _ => noA b, λb z => absurd z (noA b), e0.wF, e0.Xb⟩,
    rfl, e0.bare, Un.kept hk, ⟨_, x.toInCall.ns, λi y v h1 h2 h3 => ?_⟩, λy c h => ⟨_, x.cell y c h⟩, e0.hok.fresh (afj _), λy c h => ?_, λp hp => absurd (show p∈([] : List (Addr×Obj)) from hp) (by simp), e0.hok.kept hk, ?_⟩
  · exact name_of_addr x.apart (agk h1) (agk h2)
  · have hy : scope.names.lookup y=some .cell∨scope.names.lookup y=some .free := hy
    rcases hy with hy|hy
    · exact Je hy
    · exact absurd rfl (S.aai _ (agk hy))
  · exact af6 (x.above y c (agk h))
  · have hi : i<vs.length := by
      unfold start at h2
      grind
    have ha : vs[i]?=some v := by
      unfold start at h2
      grind
    obtain⟨u, hu, rv⟩ := r.get ha
    have hp : ps[i]?=some y := by
      rw[← S.pre, getElem?_take_of_lt (by lia)];exact h1
    have ndP : ps.Nodup := by rw[← S.pre];exact S.nd.sublist (List.take_sublist _ _)
    refine⟨u, rv, ?_⟩
    rcases S.par y (mem_of_getElem? hp) with k|k
    · exact .inl ⟨k, Eb ndP hp hu k⟩
    · obtain⟨c, e⟩ := Je (n := s.heap.objs.size+1) k
      refine .inr ⟨.inl k, c, e, ?_⟩
      have q := x.cell y c e
      rw[Ec ndP hp hu (by show scope.names.lookup y≠_;rw[k];decide)] at q
      exact q
  · exact e0.hok.fresh (af6 (x.above y c (agk h)))
  · unfold start
    show _=N.length
    rw[length_append, length_map, length_replicate]
    lia
theorem Jf{CX : Rr}{P : Program}{w : World}{K : afh}{mg : Str→Option Value}{base : Heap}{k : Nat}{f : Addr}{name qual : Str}{params : Arguments}{body : List Stmt}{scope : Scope}{dV kV doc pm cdv ct oc : Value}{an od : Option Addr}{osl : Array (Option Value)}{N ps : List Str}{sp : Sp}(lk : K.lookup f=some ⟨oc, od, .func (agl name qual params body scope dV kV doc pm an cdv ct), osl⟩)(hcd : ah3 K cdv qual=true)(S : bf N ps scope)(len : ∀vs H Q E, sp vs H Q E→vs.length=ps.length)(hbody : ∀(A : Around) (outer : List Env) (s : Shared) (H : Hp) (vs : List V) (Q : VK) (E : XK), f9 k (A.deeper (envOfC qual scope s.heap.objs.size f cdv))→sp vs H Q E →
      ∃t, xY (nJ CX P w K mg base N qual scope f cdv A outer s H E) body t∧t { nx := λ_ H' => Q .non H', rt := Q } (start N vs) H) :
    bY P w K mg base CX (k+1) f (agl name qual params body scope dV kV doc pm an cdv ct) ps sp := by
  refine⟨len, λA outer s H args us vs Q E hr e0 hb r hsp => ?_⟩
  have hl := len _ _ _ _ hsp
  have KX : K.In s.heap := e0.mod.kin.keeps λb o e => (e0.bs b o e).1
  have lim : s.heap.NoLimit := e0.mod.nolimit.keeps λb o e => (e0.bs b o e).1
  have hkind : ∀y∈ps.zip us, scope.names.lookup y.1=some .local∨(scope.names.lookup y.1=some .cell∧((cellsFrom (s.heap.objs.size+1) scope.names []).lookup y.1).isSome=true) := λ⟨n, v⟩ hy => by
    rcases S.par n (of_mem_zip hy).1 with q|q
    · grind
    · exact .inr ⟨q, ag7 _ _ _ (.inl q)⟩
  refine codeAny_call_function hr.depth (KX _ _ lk) rfl S.co S.gen rfl (PySem.W.codeRec_of KX hcd) (hb _ _ _ _ ?_)
  refine wpAny_newFunctionEnv_cells S.kind hkind λenv he s1 x => ?_
  subst he
  refine⟨lim.keeps x.toInCall.keep, codeAny_func ?_⟩
  obtain⟨t, ht, hq⟩ := hbody A outer s H vs Q E (hr.deeper _) hsp
  have I : Inv (nJ CX P w K mg base N qual scope f cdv A outer s H E) [] (start N vs) H s1 := Qc S hr.hd e0 hl r x
  refine agc (ht [] s1 (start N vs) H _ I hq) (λfl s' hs => ?_) λe s' hs => hs
  have fin : ∀{σ' : St}{H' : Hp}{v : V}{u : Value}, Inv (nJ CX P w K mg base N qual scope f cdv A outer s H E) [] σ' H' s'→RelV v u→Q v H'→CE outer P w H s Q u s' :=
    λ{σ' H' v u} J rv q => ⟨v, H', J.os, J.bare, J.base, J.hok, rv, q⟩
  cases fl with
  |ret u =>
    obtain⟨v, σ', H', J, rv, q⟩ := hs
    exact fin J rv q
  |next =>
    obtain⟨σ', H', J, q⟩ := hs
    exact fin (v := V.non) (u := ahh) J rfl q
  |brk =>
    obtain⟨_, _, _, q⟩ := hs
    grind
  |cont =>
    obtain⟨_, _, _, q⟩ := hs
    grind
section
variable{X : Cx}{x : Str}{p pos : Pos}{e : Expr}{es : List Expr}{t : TA}{id T : String}{r : List V→Hp→VK→Prop}
def Ng(r : List V→Hp→VK→Prop)(t : TA) : TE := λσ H Q => t σ H λa b => r a b Q
theorem aO(k : mR X (.builtin id) r)(z : Gl X x)(n : X.mg x=none)(o : bootBuiltins x=some (.builtin id))(m : PA X (e::es) t)(q : x ≠ "__name__" := by decide)(d : (x==("__debug__" : Str))=false := by decide)(y : starEach (e::es) X.env=(false, eval e X.env)::starEach es X.env := by rfl)(c : (backTo pos (starEach es X.env)).any (·.1)=false := by rfl) : PE X (.Call (.Name x p) (e::es) [] pos) (Ng r t) := by
  intro b s σ H Q I h
  refine ah0 (Az I z n o ?_ q d)
  exact PyProof.Rows.callWith_builtin1 (dN (m pos b s σ H _ I h) (by rintro l g ⟨w, i, v, u, j⟩;exact k b g σ i w l Q v u j)) y c
theorem dj(j : mR X (.type T) r)(y : Gl X x)(m : X.mg x=none)(n : bootBuiltins x=some (.type T))(l : PA X (e::es) t)(o : x ≠ "__name__" := by decide)(d : (x==("__debug__" : Str))=false := by decide)(w : starEach (e::es) X.env=(false, eval e X.env)::starEach es X.env := by rfl)(c : (backTo pos (starEach es X.env)).any (·.1)=false := by rfl) : PE X (.Call (.Name x p) (e::es) [] pos) (Ng r t) := by
  intro b s σ H Q I h
  refine ah0 (Az I y m n ?_ o d)
  exact ahl (dN (l pos b s σ H _ I h) (by rintro k f ⟨v, g, u, q, i⟩;exact j b f σ g v k Q u q i)) w c
end
section
variable{κ : Type}[DecidableEq κ]
noncomputable def uG(kvs : List (κ×V))(k : κ) : Option V := (kvs.find? λa => decide (a.1=k)).map (·.2)
def putK(kvs : List (κ×V))(k : κ)(v : V) : List (κ×V) :=
  if(kvs.any λa => decide (a.1=k))=true then kvs.map (λa => if a.1=k then(a.1, v) else a) else kvs++[(k, v)]
theorem Bc{p : κ×V}{r : List (κ×V)}{k : κ}(e : p.1=k) : uG (p::r) k=some p.2 := by simp[uG, e]
theorem Bd{p : κ×V}{r : List (κ×V)}{k : κ}(e : ¬p.1=k) : uG (p::r) k=uG r k := by simp[uG, e]
theorem Jg(k : κ) : ∀kvs : List (κ×V), (kvs.any λa => decide (a.1=k))=(uG kvs k).isSome
  |[] => rfl
  |p::r => by
    rw[any_cons]
    by_cases e : p.1=k
    · simp only[Bc e, decide_eq_true e, Bool.true_or, Option.isSome_some]
    · rw[Bd e, decide_eq_false e];exact Jg k r
theorem zq(kvs : List (κ×V))(k : κ)(v : V) : (putK kvs k v).length≤kvs.length+1 := by
  unfold putK
  grind
theorem uF.yh(r : uF o u) : o.isSome=u.isSome := by
  cases o with
  |none => cases u with
    |none => rfl
    |some _ => exact(r).elim
  |some _ => cases u with
    |none => exact(r).elim
    |some _ => rfl
theorem uF.getD(r : uF o u)(a : RelV d d') : RelV (o.getD d) (u.getD d') := by
  cases o with
  |none => cases u with
    |none => exact a
    |some _ => exact(r).elim
  |some _ => cases u with
    |none => exact(r).elim
    |some _ => exact r
theorem KV.val(r : KV kvs vs)(k : κ) : uF (uG kvs k) (valueAt vs k) := by
  induction r with
  |nil => exact ahd
  |@cons p q ps c h t ih =>
    obtain⟨d, f⟩ := h
    by_cases e : p.1=k
    · have a := d.symm.trans e
      have b : valueAt (q::c) k=some q.2 := by simp[valueAt, a]
      rw[Bc e, b];exact f
    · have a : ¬q.1=k := λz => e (d.trans z)
      have b : valueAt (q::c) k=valueAt c k := by simp[valueAt, a]
      rw[Bd e, b];exact ih
theorem KV.any(r : KV kvs vs)(k : κ) : (kvs.any λa => decide (a.1=k))=vs.any λa => decide (a.1=k) := by
  induction r with
  |nil => rfl
  |cons h t ih => grind
theorem KV.repl(r : KV kvs vs)(k : κ)(ry : RelV y u) :
    KV (kvs.map λa => if a.1=k then(a.1, y) else a) (vs.map λa => if a.1=k then(a.1, u) else a) := by
  induction r with
  |nil => exact .nil
  |@cons p q ps qs h t ih =>
    refine .cons ?_ ih
    grind
theorem KV.put(r : KV kvs vs)(k : κ)(a : RelV y u) : KV (putK kvs k y) (stored vs k u) := by
  unfold putK stored
  rw[r.any k]
  by_cases e : (vs.any λb => decide (b.1=k))=true
  · rw[if_pos e, if_pos e];exact r.repl k a
  · rw[if_neg e, if_neg e];exact Paired.snoc r ⟨rfl, a⟩
theorem KV.length(r : KV kvs vs) : kvs.length=vs.length := ajf r
end
theorem Ss(r : RelV (kV k) u) : (ig P w).is k u=true := by
  cases k with
  |inl i => obtain⟨t, e⟩ := (r);subst e;exact Iu P w i t
  |inr x => obtain⟨t, e⟩ := (r);subst e;exact Iv P w x t
theorem Ed : ∀{ks : List Key}{us : List Value}, Vals (ks.map kV) us→ItemsAre (ig P w) ks us
  |[], _, r => by cases r;exact .nil
  |k::ks, _, r => by
    cases r with
    |cons h t => exact .cons (Ss h) (Ed t)
abbrev KT(H : Hp) : List (List Key×V)→List (List Key×Addr×Value)→Prop := Paired λp q => p.1=q.1∧H q.2.1=some (.tup (p.1.map kV))∧RelV p.2 q.2.2
theorem KT.val(r : KT H kvs xs)(k : List Key) : uF (uG kvs k) ((atKey xs k).map (·.2)) := by
  induction r with
  |nil => exact ahd
  |@cons p q ps c h t ih =>
    obtain⟨d, _, f⟩ := h
    by_cases e : p.1=k
    · have a := d.symm.trans e
      have b : atKey (q::c) k=some q.2 := by simp[atKey, a]
      rw[Bc e, b];exact f
    · have a : ¬q.1=k := λz => e (d.trans z)
      have b : atKey (q::c) k=atKey c k := by simp[atKey, a]
      rw[Bd e, b];exact ih
theorem KT.repl(r : KT H kvs xs)(k : List Key)(ry : RelV y u) :
    KT H (kvs.map λa => if a.1=k then(a.1, y) else a) (xs.map (putAt k u)) := by
  induction r with
  |nil => exact .nil
  |@cons p q ps qs h t ih =>
    refine .cons ?_ ih
    unfold putAt
    grind
theorem KT.put(r : KT H kvs xs)(k : List Key)(d : H b=some (.tup (k.map kV)))(a : RelV y u) :
    KT H (putK kvs k y) (storedH xs k b u) := by
  have e : (kvs.any λc => decide (c.1=k))=(atKey xs k).isSome := by
    rw[Jg, (r.val k).yh, Option.isSome_map]
  unfold putK storedH
  rw[e]
  by_cases q : (atKey xs k).isSome=true
  · rw[if_pos q, if_pos q];exact r.repl k a
  · rw[if_neg q, if_neg q];exact Paired.snoc r ⟨rfl, d, a⟩
theorem KT.keeps(r : KT H kvs xs)(a : ∀b ys, H b=some (.tup ys)→H' b=some (.tup ys)) : KT H' kvs xs :=
  Paired.Z9 r λ_ _ z => ⟨z.1, a _ _ z.2.1, z.2.2⟩
section
variable{P : Program}{w : World}{H : Hp}{h : Heap}{a : Addr}
theorem Zi(b : qj P w H h)(e : Rd H a u) : gb P w H h a u := e.ok b
theorem Zj(b : qj P w H h)(e : Rd H a (.dK kvs)) : kvs.length≤sizeLine∧(a==sysModules)=false∧∃vs, KV kvs vs∧h.DictOf (ig P w) a vs :=
  Zi b e
theorem acv(b : qj P w H h)(e : H a=some (.dK kvs)) : kvs.length≤sizeLine∧(a==sysModules)=false∧∃vs, KV kvs vs∧h.DictOf (ig P w) a vs := Zj b (.inl e)
theorem KC{ks : List Key}(g : qj P w H h)(e : H a=some (.tup (ks.map kV))) : (tupleKind (ig P w)).is h ks a := by
  obtain⟨_, b, r, o, c, f, n, d⟩ := (g a _ e)
  exact⟨o, b.toArray, n, c, f, d, by simpa using Ed r⟩
theorem Zk(c : qj P w H h)(e : Rd H a (.dT kvs)) : kvs.length≤sizeLine∧(a==sysModules)=false ∧
    ∃xs, KT H kvs xs∧h.DictOfH (tupleKind (ig P w)) a xs := by
  obtain⟨z, y, xs, r, o, n, g, f, j, i, k, d⟩ := (Zi c e)
  refine⟨z, y, xs, r, o, n, g, f, j, i, k, λx b => ?_, d⟩
  have all : ∀{l : List (List Key×V)}{m : List (List Key×Addr×Value)}, KT H l m→∀x∈m, (tupleKind (ig P w)).is h x.1 x.2.1 := by
    intro l m q
    induction q with
    |nil => grind
    |@cons p q ps qs hq t ih =>
      intro x b
      rcases mem_cons.mp b with e|b
      · subst e
        exact KC c (by grind)
      grind
  grind
theorem acw(b : qj P w H h)(e : H a=some (.dT kvs)) : kvs.length≤sizeLine∧(a==sysModules)=false ∧
    ∃xs, KT H kvs xs∧h.DictOfH (tupleKind (ig P w)) a xs := Zk b (.inl e)
end
noncomputable def Qd(H : Hp)(a : Addr)(y : V)(r : Option V) : Prop :=
  (∃c k, Rd H a (.dK c)∧y=kV k∧r=uG c k)∨∃c k b, Rd H a (.dT c)∧y=.ref b∧H b=some (.tup (k.map kV))∧r=uG c k
def Qe(H : Hp)(a : Addr)(y v : V)(H' : Hp) : Prop :=
  (∃c k, H a=some (.dK c)∧y=kV k∧c.length<sizeLine∧H'=upd H a (.dK (putK c k v))) ∨
  ∃c k b, H a=some (.dT c)∧y=.ref b∧H b=some (.tup (k.map kV))∧c.length<sizeLine∧H'=upd H a (.dT (putK c k v))
theorem Qd.k{H : Hp}{a : Addr}{kvs : List (Key×V)}{k : Key}(e : H a=some (.dK kvs)) : Qd H a (kV k) (uG kvs k) := .inl ⟨kvs, k, .inl e, rfl, rfl⟩
theorem Qe.k{H : Hp}{a : Addr}{kvs : List (Key×V)}{k : Key}{v : V}(e : H a=some (.dK kvs))(b : kvs.length<sizeLine) : Qe H a (kV k) v (upd H a (.dK (putK kvs k v))) := .inl ⟨kvs, k, e, rfl, b, rfl⟩
section
variable{X : Cx}{pins : List (Addr×Obj)}{σ : St}{H : Hp}{s : Shared}{a : Addr}{y v : V}{u r : Value}{o : Option V}{A : Around}{E : Value→Shared→Prop}
theorem Inv.big(I : Inv X pins σ H s) : sysModules<s.heap.objs.size := by
  have h := (I.mod.glob.keeps I.bk).lt
  exact ajk (by decide) h
theorem aeo{Q : Value→Shared→Prop}(p : A.units+1<cLine)(I : Inv X pins σ H s)(g : Qd H a y o)(n : RelV y u)(h : ∀s', Inv X pins σ H s'→Q (.bool o.isSome) s') :
    wpAny (model X.prog X.w) A (compareOp .In u (.ref a)) Q E s := by
  rcases g with⟨j, k, e, m, l⟩|⟨j, k, b, e, m, t, l⟩
  · subst m
    obtain⟨z, f, vs, c, i⟩ := Zj I.hok e
    refine wpAny_in_of (Ss n) f i.mapOf ?_
    rw[← (c.val k).yh, ← l]
    exact h _ (I.tok _)
  · subst m
    cases(n)
    obtain⟨z, f, xs, c, i⟩ := Zk I.hok e
    refine wpAny_in_heap (tupleKind_room_in1 p) (KC I.hok t) f i ?_
    have q := (c.val k).yh
    rw[Option.isSome_map] at q
    rw[← q, ← l]
    exact h _ (I.tok _)
theorem Nh(I : Inv X pins σ H s)(g : Mut (H a))(f : SameBut a s.heap h')(e : ∃q, h'.get? a=some q)(c : gb X.prog X.w (upd H a ob) h' a ob) :
    Inv X pins σ (upd H a ob) { s with heap := h', toks := t' } :=
  I.write g (.inl rfl) (λb q d z => (f.2 b d).trans z) e c
theorem aaj{h' : Heap}{kvs : List (Key×V)}(z : kvs.length≤sizeLine)(c : (a==sysModules)=false)(b : KV kvs vs)(dd : h'.DictOf (ig P w) a vs) :
    gb P w H' h' a (.dK kvs) := ⟨z, c, vs, b, dd⟩
theorem Qf{Q : Unit→Shared→Prop}(Z : A.units+1<cLine)(I : Inv X pins σ H s)(g : Qe H a y v H')(F : RelV y u)(J : RelV v r)(h : ∀s', Inv X pins σ H' s'→Q () s') :
    wpAny (model X.prog X.w) A (setItem (.ref a) u r) Q E s := by
  rcases g with⟨f, k, e, p, l, n⟩|⟨f, k, b, e, p, M, l, n⟩
  · subst p n
    obtain⟨z, B, S, i, t⟩ := acv I.hok e
    have C : S.length≤sizeLine := by rw[← i.length];exact z
    have D : (putK f k v).length≤sizeLine := by have := zq f k v;lia
    refine wpAny_setItem_pairs (hsz := C) (Ss F) t λL j x => h _ ?_
    have Y : ∃q, L.get? a=some q := let⟨q, _, _, m, _⟩ := j;⟨q, m⟩
    exact Nh I (by rw[e];exact ahd) x Y (aaj D B (i.put k J) j)
  · subst p n
    cases(show u=agj b from F)
    obtain⟨z, B, R, i, t⟩ := acw I.hok e
    have C : R.length≤sizeLine := by rw[← ajf i];exact z
    have D : (putK f k v).length≤sizeLine := by have := zq f k v;lia
    refine wpAny_setItem_heap (hsz := C) (tupleKind_room_in1 Z) (KC I.hok M) t λL j x => h _ ?_
    obtain⟨q, T, W, m, P, U, O, _, N⟩ := j
    refine Nh I (by rw[e];exact ahd) x ⟨q, m⟩ ⟨D, B, _, (i.put k M J).keeps λc ys G => ?_, q, T, W, m, P, U, O, N⟩
    rw[aP (ach G e (λz => nomatch z))]
    exact G
end
def aak(e f : TE) : TE := λσ H Q => e σ H λy c => f σ c λx b => ∃a o, x=.ref a∧Qd b a y o∧Q (.bl o.isSome) b
def Sv(e f c : TE) : TS := λD σ H => c σ H λv h => e σ h λx i => f σ i λy g => ∃a b, x=.ref a∧Qe g a y v b∧D.nx σ b
section
variable{X : Cx}{o i e value : Expr}{pos pos' tpos : Pos}{td ty tv : TE}
theorem Gq(q : X.A.units+1<cLine)(l : PE X i ty)(m : PE X o td) : PC X .In i o (aak ty td) := by
  intro b s σ H Q I h
  refine dN (l b s σ H _ I h) λiv t ⟨y, n, k, c, p⟩ => dN (m b t σ n _ k p) ?_
  rintro u s2 ⟨x, v, f, r, a, z, d, g, w⟩
  subst d
  obtain rfl : u=agj a := r
  exact aeo q f g c λs3 j => ⟨.bl z.isSome, v, j, rfl, w⟩
theorem Af(L : X.A.units+1<cLine)(j : PE X o td)(F : PE X i ty)(f : PE X value tv)(m : swapsWith value (some (.Subscript o i pos')) pos.line X.env=pure false) :
    PS X (.Assign [.Subscript o i pos'] value pos) (Sv td ty tv) := by
  intro b s σ H D I h
  refine wpAny_Assign_Subscript (dN (f b s σ H _ I h) λr M ⟨v, k, E, w, l⟩ => dN (j b M σ k _ E l) λu G ⟨x, c, d, n, p⟩ => dN (F b G σ c _ d p) ?_) m
  rintro iv s3 ⟨y, H3, C, q, a, B, t, g, J⟩
  subst t
  obtain rfl : u=agj a := n
  exact Qf L C g q w λs4 z => ⟨σ, B, z, J⟩
end
theorem Sw(h : Heap)(a : sysModules<h.objs.size) : gb P w H (h.push { cls := .type "dict", data := .dict #[] }) h.objs.size (.dK []) :=
  ⟨afz _, beq_eq_false_iff_ne.mpr (ahk (afy a)), [], .nil, Heap.DictOf.new h⟩
def SJ : TE := λ_ H Q => ∀p, H p=none→Q (.ref p) (upd H p (.dK []))
section
variable{X : Cx}{pos : Pos}
theorem wK : PE X (.Dict [] [] pos) SJ := λpins s σ H Q I h =>
  wpAny_Dict_empty ⟨.ref s.heap.objs.size, _, I.laid (λ_ _ q => get?_push_of_some _ q) (afj _) (Sw s.heap I.big), rfl, h _ (I.hok.fresh (afj _))⟩
end
end L2
namespace HT
open PySem PyProof.Rows
section
open PySem.SeqAt
open PySem.AutoSeq1 (wpAny_loadPart')
open PySem.MeetsSeq PySem.MeetsSeq2 PySem.MeetsSeq3
end
section
variable{prog : Program}{w : World}{A : Around}{E : Value→Shared→Prop}{s : Shared}
noncomputable def Dn(n d : Nat) : Option Int→Nat
  |none => d
  |some v => if v<0 then(v+(n : Int)).toNat else min v.toNat n
theorem Ni(n d k : Nat) : Dn n d (some (k : Int))=min k n := by
  show(if(k : Int)<0 then((k : Int)+(n : Int)).toNat else min (k : Int).toNat n)=min k n
  grind
end
end HT
namespace L2
open PySem PySem.Spec PyProof.Rows
abbrev TO := St→Hp→(Option Int→Hp→Prop)→Prop
noncomputable def PO(X : Cx)(e : Option Expr)(t : TO) : Prop :=
  ∀(b : List (Addr×Obj))(s : Shared)(σ : St)(H : Hp)(Q : Option Int→Hp→Prop), Inv X b σ H s→t σ H Q →
    wpAny (model X.prog X.w) X.A (evalPart e X.env) (λu d => ∃o c, Inv X b σ c d∧IsPart u o∧Q o c) X.xe s
def qt : TO := λ_ H Q => Q none H
def wL(t : TE) : TO := λσ H Q => t σ H λx a => ∃i, x=.int i∧Q (some i) a
section
variable{X : Cx}{e : Expr}{te : TE}{lo hi : Option Expr}{tl th : TO}{pos p2 : Pos}
theorem gQ : PO X none qt := by
  intro pins s σ H Q I h
  exact afw ⟨none, H, I, .none, h⟩
theorem eO(h : PE X e te) : PO X (some e) (wL te) := by
  intro a s σ H Q I b
  refine dN (h a s σ H _ I b) ?_
  rintro u s1 ⟨x, f, d, c, g⟩
  obtain⟨i, rfl, q⟩ := g
  obtain⟨t, rfl⟩ := c
  exact⟨some i, f, d, .int i t, q⟩
def SlR(X : Cx)(r : V→Option Int→Option Int→Hp→VK→Prop) : Prop :=
  ∀(b : List (Addr×Obj))(s : Shared)(σ : St)(H : Hp)(x : V)(v f d : Value)(lo hi : Option Int)(c : Addr)(Q : VK), Inv X b σ H s→RelV x v→s.heap.IsSliceOf c f d .none→IsPart f lo→IsPart d hi→r x lo hi H Q →
    ∃T id, typeLookup (.type T) "__getitem__" = pure (some (.builtin id))∧s.TypeIs v T∧wpAny (model X.prog X.w) X.A (getItem v (.ref c)) (EP X b σ Q) X.xe s
def Zm(r : V→Option Int→Option Int→Hp→VK→Prop)(te : TE)(tl th : TO) : TE := λσ H Q => te σ H λx b => tl σ b λl a => th σ a λu c => r x l u c Q
theorem dY(G : SlR X r)(J : PE X e te)(D : PO X lo tl)(L : PO X hi th) : PE X (.Subscript e (.Slice lo hi none p2) pos) (Zm r te tl th) := by
  intro c s σ H Q I h
  refine Subscript_ (dN (J c s σ H _ I h) ?_)
  rintro v k ⟨x, t, A, w, N⟩
  refine wpAny_Slice (dN (D c k σ t _ A N) λf C ⟨l, j, n, B, m⟩ => dN (L c C σ j _ n m) ?_)
  rintro g d ⟨u, i, z, o, F⟩
  refine afw ?_
  have p : Inv X c σ i { d with heap := d.heap.push { cls := .type "slice", data := .fields #[f, g, .none] } } := z.kept λb ob q => get?_push_of_some _ q
  obtain⟨T, id, E, y, M⟩ := G c { d with heap := d.heap.push { cls := .type "slice", data := .fields #[f, g, .none] } } σ i x v f g l u d.heap.objs.size Q p w (Heap.IsSliceOf.new ..) B o F
  exact tail_any y E M (by with_unfolding_all rfl)
noncomputable def SM(xs : List V)(lo hi : Option Int) : List V := (xs.drop (HT.Dn xs.length 0 lo)).take (HT.Dn xs.length xs.length hi-HT.Dn xs.length 0 lo)
theorem Jh(xs : List V)(lo hi : Option Int) : (SM xs lo hi).length≤xs.length := by
  unfold SM
  grind
end
noncomputable def Rv(n : Nat)(i : Int) : Option Nat := if 0≤i then(if i<n then some i.toNat else none) else if -(n : Int)≤i then some (i+n).toNat else none
noncomputable def jL{α : Type}(xs : List α)(i : Int) : Option α := (Rv xs.length i).bind λj => xs[j]?
theorem Nj(h : Rv n i=some j) : seqIndex? i n=some j∧j<n ∧ -(n : Int)≤i∧i<n := by
  unfold Rv at h
  by_cases b : 0≤i
  · rw[if_pos b] at h
    by_cases a : i<n
    · rw[if_pos a] at h
      have e : i.toNat=j := afm h
      exact⟨by rw[ajd b a, e], by lia, by lia, a⟩
    grind
  · rw[if_neg b] at h
    by_cases a : -(n : Int)≤i
    · rw[if_pos a] at h
      have e := afm h
      exact⟨by rw[ajp (by lia) a, e], by lia, a, by omega⟩
    grind
theorem Nk{α : Type}{xs : List α}{v : α}(h : jL xs i=some v) : ∃j, seqIndex? i xs.length=some j∧xs[j]?=some v∧j<xs.length ∧ -(xs.length : Int)≤i∧i<xs.length := by
  unfold jL at h
  cases e : Rv xs.length i with
  |none => grind
  |some j =>
    obtain⟨h1, h2, h3, h4⟩ := Nj e
    grind
theorem Xm{α : Type}{xs : List α}{j : Nat}{v : α}(h : xs[j]?=some v) : jL xs (j : Int)=some v := by
  have e : Rv xs.length (j : Int)=some j := by
    unfold Rv
    grind
  unfold jL;grind
def Xn(b : Expr) : Prop := ∀o i, subscripted b false o i=operate [o, i] (getItem o i)
def IxR(X : Cx)(r : R2) : Prop :=
  ∀(d b : Expr)(c : List (Addr×Obj))(s : Shared)(σ : St)(H : Hp)(x y : V)(v u : Value)(Q : VK), Inv X c σ H s→RelV x v→RelV y u→r x y H Q →
    subscripted b false v u=operate [v, u] (getItem v u)→wpAny (model X.prog X.w) X.A (subscriptTail d b v u) (EP X c σ Q) X.xe s
def MtR(X : Cx)(id : String)(r : V→List V→Hp→VK→Prop) : Prop :=
  ∀(b : List (Addr×Obj))(s : Shared)(σ : St)(H : Hp)(x : V)(c : List V)(v : Value)(d : List Value)(Q : VK), Inv X b σ H s→RelV x v→Vals c d→r x c H Q →
    wpAny (model X.prog X.w) X.A (call (.builtin id) (v::d)) (EP X b σ Q) X.xe s
section
variable{X : Cx}{a b : Expr}{ta tb : TE}{pos : Pos}
theorem eG(f : IxR X r)(i : PE X a ta)(m : PE X b tb)(g : Xn b) : PE X (.Subscript a b pos) (wD r ta tb) := by
  intro c s σ H Q I h
  exact Subscript_ (Xe i m I h λv u e x y l k j d q => f a b c e σ l x y v u Q k j d q (g _ _))
def aal(K : afh) : R2 := λx y H Q => ∃p c i v, x=.ref p∧y=.int i∧gj K H p c∧jL c i=some v∧Q v H
def Xo(K : afh) : R2 := λx y H Q => ∃p c i v, x=.ref p∧y=.int i∧zN K H p c∧jL c i=some v∧Q v H
theorem Nm : IxR X (aal X.K) := by
  intro value slice c s σ H x y v u Q I C E h l
  obtain⟨p, xs, i, z, rfl, rfl, A, G, q⟩ := h
  cases C
  obtain⟨t, rfl⟩ := E
  obtain⟨f, r, e, hz⟩ := I.list A
  obtain⟨j, m, o, h3, B, D⟩ := Nk G
  obtain⟨w, J, g⟩ := r.get o
  have hl := r.length
  have hn := Bb
  have d : EP X c σ Q w s := ⟨z, H, I, g, q⟩
  by_cases n : 0≤i
  · have k : i.toNat=j := by
      rw[ajd n D] at m
      grind
    exact item_listR e.isList n (by lia) (by grind) d l
  · have k : (i+(f.toArray.size : Int)).toNat=j := by
      rw[ajp (by lia) B] at m
      grind
    exact subscriptTail_builtinR (x := w) e.isList.typeIs slot_list_getitem.lookup
      (wpAny_getItem_list_neg (Q := λr F => r=w∧EP X c σ Q r F) e.isList (by lia) (by grind) (by lia) (by rw[k];simpa using J) ⟨rfl, d⟩) l
theorem aam : IxR X (Xo X.K) := by
  intro value slice c s σ H x y v u Q I o k h m
  obtain⟨p, xs, i, z, rfl, rfl, l, n, q⟩ := h
  cases o
  obtain⟨t, rfl⟩ := k
  obtain⟨its, r, f, hz⟩ := I.tuple l
  obtain⟨j, h1, g, h3, h4, h5⟩ := Nk n
  obtain⟨w, ew, e⟩ := r.get g
  have hl := r.length
  have hn := Bb
  have d : EP X c σ Q w s := ⟨z, H, I, e, q⟩
  exact subscriptTail_builtinR f.typeIs slot_tuple_getitem.lookup
    (getItem_tuple (j := j) f (by lia) (by lia) (by grind) (by grind) ⟨rfl, d⟩) m
theorem KD(c : List Value)(n j : Nat)(u : Value) : ah7 (·.setIfInBounds j u) { cls := .type "list", data := .seq c.toArray n }={ cls := .type "list", data := .seq (c.set j u).toArray n } := by
  simp[ah7]
theorem Inv.lst(I : Inv X pins σ H s)(h : H p=some (.lst xs)) :
    ∃(c : List Value)(n : Nat), Vals xs c∧s.heap.get? p=some { cls := .type "list", data := .seq c.toArray n }∧xs.length≤sizeLine := by
  obtain⟨z, c, n, r, e⟩ := I.hok p _ h
  grind
theorem Inv.aan{d its' : List Value}(I : Inv X c σ H s)(h : H p=some (.lst xs))(j : s.heap.get? p=some { cls := .type "list", data := .seq d.toArray n })(g : f { cls := .type "list", data := .seq d.toArray n }={ cls := .type "list", data := .seq its'.toArray n' })(r : Vals ys its')(hz : ys.length≤sizeLine)(t : Nat) :
    Inv X c σ (upd H p (.lst ys)) { s with heap := s.heap.update p f, toks := t } := by
  have e : (s.heap.update p f).get? p=some { cls := .type "list", data := .seq its'.toArray n' } := by
    rw[Heap.get?_update_self f j (by rw[g]<;>rfl), g]
  refine I.write (by rw[h];trivial) (.inl rfl) (λb u i q => (get?_update_other _ _ (ahk i)).trans q) ⟨_, e⟩ ?_
  exact⟨hz, its', n', r, e⟩
def Zn : V→V→V→Hp→(Hp→Prop)→Prop := λo i v H Q => ∃p c k j, o=.ref p∧i=.int k∧H p=some (.lst c)∧Rv c.length k=some j∧Q (upd H p (.lst (c.set j v)))
theorem set_list : acp X Zn := by
  intro d s σ H o i v ov iv u Q I B y C h
  obtain⟨p, w, k, j, rfl, rfl, l, hj, q⟩ := h
  cases B
  obtain⟨t, rfl⟩ := y
  obtain⟨e, n, r, g, hz⟩ := I.lst l
  obtain⟨f, h2, A, x⟩ := Nj hj
  have hl := r.length
  have hn := Bb
  have I' : Inv X d σ (upd H p (.lst (w.set j v))) { s with heap := s.heap.update p (ah7 (·.setIfInBounds j u)) } :=
    I.aan l g (KD e n j u) (r.set C j) (by grind) s.toks
  by_cases m : 0≤k
  · have z : k.toNat=j := by
      rw[ajd m x] at f
      exact afm f
    exact PySem.W.ki_setAt g m (by lia) (by grind) (by grind)
  · have z : (k+(e.toArray.size : Int)).toNat=j := by
      rw[ajp (by lia) A] at f
      grind
    exact PySem.W.ki_setBack g (by lia) (by grind) (by lia) (by grind)
theorem Gs(lo d : Option Int)(n : Nat) : (sliceBounds lo d none n).1=((HT.Dn n 0 lo : Nat) : Int)∧(sliceBounds lo d none n).2.1=((HT.Dn n n d : Nat) : Int)∧(sliceBounds lo d none n).2.2=1 := by
  refine⟨?_, ?_, rfl⟩
  · cases lo with
    |none => simp[sliceBounds, HT.Dn]
    |some i =>
      simp only[sliceBounds, HT.Dn, Option.getD_none, if_true]
      grind
  · cases d with
    |none => simp[sliceBounds, HT.Dn]
    |some i =>
      simp only[sliceBounds, HT.Dn, Option.getD_none, if_true]
      grind
theorem Dp(c : List Value)(lo d : Option Int) : slicePick c.toArray lo d none=((c.drop (HT.Dn c.length 0 lo)).take (HT.Dn c.length c.length d-HT.Dn c.length 0 lo)).toArray := by
  obtain⟨h, g, f⟩ := Gs lo d c.toArray.size
  unfold slicePick
  rw[h, g, f]
  simp only[sliceRange_one, pick_run]<;>rfl
def KH(K : afh) : V→Option Int→Option Int→Hp→VK→Prop := λx lo d H Q => ∃a c, x=.ref a∧gj K H a c∧∀p, H p=none→Q (.ref p) (upd H p (.lst (SM c lo d)))
theorem Xp : SlR X (KH X.K) := by
  intro pins s σ H x v vl vu lo e sl Q I l k n i h
  obtain⟨a, d, rfl, j, q⟩ := h
  cases l
  obtain⟨its, r, g, m⟩ := I.list j
  have c := r.length
  refine⟨"list", _, slot_list_getitem.lookup, g.isList.typeIs, ?_⟩
  refine wpAny_getItem_list_slice g.isList k n i .none (by simp) ?_ (by grind)
  rw[Dp, ← c]
  refine⟨.ref s.heap.objs.size, _, I.laid (λb ob q => get?_push_of_some _ q) (afj _) ?_, rfl, q _ (I.hok.fresh (afj _))⟩
  exact⟨afl (Jh d lo e) m, _, 0, (r.drop (HT.Dn d.length 0 lo)).take (HT.Dn d.length d.length e-HT.Dn d.length 0 lo), get?_push_size _ rfl⟩
def uM : V→Bool
  |.non => true
  |.bl _ => true
  |.int _ => true
  |.str _ => true
  |_ => false
def Xq : V→V→Bool
  |.non, .non => true
  |.bl a, .bl b => a==b
  |.bl a, .int b => (if a then 1 else 0)==b
  |.int a, .bl b => a==(if b then 1 else 0)
  |.int a, .int b => a==b
  |.str a, .str b => a==b
  |_, _ => false
theorem aao(ry : RelV y u)(rx : RelV x v)(fy : uM y=true)(fx : uM x=true) : SeqAt.EqAt A s u v (Xq y x) := by
  cases y with
  |non =>
    cases ry
    cases x with
    |non => cases rx;exact SeqAt.EqAt.same _
    |bl b => cases rx;exact SeqAt.EqAt.none_bool b
    |int b => obtain⟨t, rfl⟩ := rx;exact SeqAt.EqAt.none_int b t
    |str b => obtain⟨t, rfl⟩ := rx;exact SeqAt.EqAt.none_str b t
    |_ => exact absurd (show false=true from fx) af2
  |bl a =>
    cases ry
    cases x with
    |non => cases rx;exact SeqAt.EqAt.bool_none a
    |bl b => cases rx;exact SeqAt.EqAt.bool_bool a b
    |int b => obtain⟨t, rfl⟩ := rx;exact SeqAt.EqAt.bool_int a b t
    |str b => obtain⟨t, rfl⟩ := rx;exact SeqAt.EqAt.bool_str a b t
    |_ => exact absurd (show false=true from fx) af2
  |int a =>
    obtain⟨t', rfl⟩ := ry
    cases x with
    |non => cases rx;exact SeqAt.EqAt.int_none a t'
    |bl b => cases rx;exact SeqAt.EqAt.int_bool a t' b
    |int b => obtain⟨t, rfl⟩ := rx;exact SeqAt.EqAt.int_int a t' b t
    |str b => obtain⟨t, rfl⟩ := rx;exact SeqAt.EqAt.int_str a t' b t
    |_ => exact absurd (show false=true from fx) af2
  |str a =>
    obtain⟨t', rfl⟩ := ry
    cases x with
    |non => cases rx;exact SeqAt.EqAt.str_none a t'
    |bl b => cases rx;exact SeqAt.EqAt.str_bool a t' b
    |int b => obtain⟨t, rfl⟩ := rx;exact SeqAt.EqAt.str_int a t' b t
    |str b => obtain⟨t, rfl⟩ := rx;exact SeqAt.EqAt.str_str a t' b t
    |_ => exact absurd (show false=true from fx) af2
  |_ => exact absurd (show false=true from fy) af2
def Xr(x : V)(u : Value) : Bool := match u with
  |.none => Xq .non x
  |.bool b => Xq (.bl b) x
  |.int i _ => Xq (.int i) x
  |.str z _ => Xq (.str z) x
  |_ => false
theorem SN(r : RelV y u)(f : uM y=true) : Xr x u=Xq y x := by
  cases y with
  |non => cases r;rfl
  |bl b => cases r;rfl
  |int i => obtain⟨t, rfl⟩ := r;rfl
  |str z => obtain⟨t, rfl⟩ := r;rfl
  |_ => exact absurd (f) af2
theorem Gu : ∀{xs : List V}{us : List Value}, Vals xs us→xs.all uM=true→us.any (Xr x)=xs.any λy => Xq y x
  |_, _, .nil, _ => rfl
  |y::xs, u::us, .cons r t, f => by
    rw[all_cons, agf] at f
    rw[any_cons, any_cons, SN r f.1, Gu t f.2]
theorem Bf(d : RelV x v)(e : uM x=true) : ∀{xs : List V}{us : List Value}, Vals xs us→xs.all uM=true→∀u∈us, SeqAt.EqAt A s u v (Xr x u)
  |_, _, .nil, _ => λu c => by cases c
  |y::xs, u::us, .cons r t, f => λg c => by
    rw[all_cons, agf] at f
    rcases mem_cons.mp c with rfl|c
    · rw[SN r f.1];exact aao r d f.1 e
    · exact Bf d e t f.2 g c
def inV(x : V)(xs : List V) : Bool := xs.any λy => Xq y x
def rIn(K : afh)(d : Bool) : R2 := λx y H Q => ∃p c, y=.ref p∧(gj K H p c∨zN K H p c)∧uM x=true∧c.all uM=true∧Q (.bl (if d then !inV x c else inV x c)) H
theorem Qg : zj X (compareOp .In) (rIn X.K false) := by
  intro pins s σ H x y v u Q I j k h
  obtain⟨p, xs, rfl, e, i, f, q⟩ := h
  cases k
  rcases e with e|e
  · obtain⟨c, r, g, l⟩ := I.list e
    refine SeqAt.in_listAt (Xr x) g.isList (λw m => Bf j i r f w (by grind)) ⟨.bl _, H, I, rfl, ?_⟩
    rw[show c.toArray.any (Xr x)=c.any (Xr x) by simp, Gu r f]
    exact q
  · obtain⟨c, r, g, l⟩ := I.tuple e
    refine SeqAt.in_tupleAt (Xr x) g (λw m => Bf j i r f w (by simp_all)) ⟨.bl _, H, I, rfl, ?_⟩
    rw[show c.toArray.any (Xr x)=c.any (Xr x) by simp, Gu r f]
    exact q
theorem Gv : mR X (.builtin "len") (λxs H Q => ∃p ys, xs=[.ref p]∧(gj X.K H p ys∨zN X.K H p ys)∧Q (.int ys.length) H) := by
  intro pins s σ H xs us Q I r h
  obtain⟨p, ys, rfl, d, q⟩ := h
  obtain⟨u, rfl, j⟩ := vals1 r
  cases j
  have hn := Bb
  rcases d with d|d
  · obtain⟨g, e, f, i⟩ := I.list d
    have c := e.length
    exact Calls.call_len_list f.isList (by grind) ⟨.int ys.length, H, I.tok _, ⟨s.toks+1, by grind⟩, q⟩
  · obtain⟨g, e, f, i⟩ := I.tuple d
    have c := e.length
    exact len_tuple f (by grind) ⟨.int ys.length, H, I.tok _, ⟨s.toks+1, by grind⟩, q⟩
theorem Gw : mR X (.type "list") (λxs H Q => ∃p ys, xs=[.ref p]∧(gj X.K H p ys∨zN X.K H p ys)∧∀l, H l=none→Q (.ref l) (upd H l (.lst ys))) := by
  intro v s σ H xs us Q I r h
  obtain⟨p, ys, rfl, t, q⟩ := h
  obtain⟨u, rfl, C⟩ := vals1 r
  cases C
  have j : ∀(c : List Value), Vals ys c→ys.length≤sizeLine→∀(d : Heap)(f : Nat), (∀b B, s.heap.get? b=some B→d.get? b=some B) →
      d.get? s.heap.objs.size=some { cls := .type "list", dict := none, data := .seq c.toArray f, slots := #[] }→EP X v σ Q (.ref s.heap.objs.size) { s with heap := d } := λc g k d f m e =>
    ⟨.ref s.heap.objs.size, _, I.laid m (afj _) (show gb X.prog X.w _ d _ (.lst ys) from⟨k, c, f, g, e⟩), rfl, q _ (I.hok.fresh (afj _))⟩
  rcases t with t|t
  · obtain⟨c, g, y, k⟩ := I.list t
    have i := g.length
    obtain⟨o, z, x, n, A⟩ := y.isList
    exact call_list_seq p (.inl rfl) z x A (λd f m e => j c g k d f m e) (by grind)
  · obtain⟨c, g, y, k⟩ := I.tuple t
    have i := g.length
    obtain⟨o, z, x, n, A⟩ := y
    exact call_list_seq p (.inr rfl) z x A (λd f m e => j c g k d f m e) (by grind)
def tyV(K : afh)(T : String)(x : V)(H : Hp) : Prop := match x with
  |.str _ => T = "str"
  |.int _ => T = "int"
  |.ref p => (T = "list" ∧ ∃d, gj K H p d)∨(T = "tuple" ∧ ∃o, K.lookup p=some o∧o.cls=.type "tuple" ∧ o.dict=none) ∨
      (T = "dict" ∧ ((∃c, H p=some (.dK c))∨∃c, H p=some (.dT c)))∨(T = "set" ∧ ∃S n, H p=some (.set S n))
  |_ => False
theorem SQ(I : Inv X pins σ H s)(r : RelV x v)(g : tyV X.K T x H) :
    s.TypeIs v T∧∀a, v=.ref a→∃ob, s.heap.get? a=some ob∧ob.dict=none := by
  cases x with
  |str z =>
    obtain⟨t, rfl⟩ := r
    cases(show T = "str" from g)
    exact⟨ahz s z t, λ_ e => nomatch e⟩
  |int i =>
    obtain⟨t, rfl⟩ := r
    cases(show T = "int" from g)
    exact⟨typeIs_int s i t, λ_ e => nomatch e⟩
  |ref p =>
    cases r
    rcases g with⟨rfl, xs, m⟩|⟨rfl, o, d, q, l⟩|⟨rfl, d⟩|⟨rfl, S, n, d⟩
    · obtain⟨its, _, k, _⟩ := I.list m
      refine⟨k.isList.typeIs, λa e => ?_⟩
      cases e
      obtain⟨o, n, e, c, l, _⟩ := k
      grind
    · refine⟨⟨o, I.za p o d, q⟩, λa e => ?_⟩
      cases e
      exact⟨o, I.za _ o d, l⟩
    · have z : ∃o, s.heap.get? p=some o∧o.ExactDict := by
        rcases d with⟨h, d⟩|⟨h, d⟩
        · obtain⟨_, _, _, _, o, _, _, e, f, _⟩ := I.hok p _ d
          grind
        · obtain⟨_, _, _, _, o, _, _, e, f, _⟩ := I.hok p _ d
          exact⟨o, e, f⟩
      obtain⟨o, e, f⟩ := z
      refine⟨⟨o, e, f.1⟩, λa j => ?_⟩
      cases j
      exact⟨o, e, f.2.1⟩
    · obtain⟨o, _, _, _, e, f, _⟩ := I.hok p _ d
      refine⟨⟨o, e, f.1⟩, λa j => ?_⟩
      cases j
      exact⟨o, e, f.2.1⟩
  |_ => exact af4 g
def Xu(K : afh)(T : String)(r : V→List V→Hp→VK→Prop)(d : TE) : TE := λσ H Q => d σ H λx c => tyV K T x c∧r x [] c Q
def W4(K : afh)(T : String)(r : V→List V→Hp→VK→Prop)(e : TE)(t : TA) : TE := λσ H Q => e σ H λx c => tyV K T x c∧t σ c λd f => r x d f Q
variable{o e : Expr}{es : List Expr}{to : TE}{t : TA}{name : Str}{apos cpos : Pos}{T id : String}{r : V→List V→Hp→VK→Prop}
theorem aap(q : PlainAttrs T)(g : Slot T name id)(i : typeOf (.builtin id)=pure (.type "method_descriptor"))(m : MtR X id r)(u : PE X o to)(f : attributeBase o name X.env (eval o X.env)=eval o X.env := by rfl)(d : (apos.endLine==cpos.line)=true := by rfl) : PE X (.Call (.Attribute o name apos) [] [] cpos) (Xu X.K T r to) := by
  intro c s σ H Q I h
  refine wpAny_Call_method0_late f d (dN (u c s σ H _ I h) ?_)
  rintro v n ⟨x, y, k, j, p, z⟩
  obtain⟨w, l⟩ := SQ k j p
  exact⟨T, id, q, g, i, w, l, Calls.callWith_builtin rfl (PySem.evalArgs_none (m c n σ y x [] v [] Q k j .nil z))⟩
theorem Zo(pa : PlainAttrs T)(j : Slot T name id)(k : typeOf (.builtin id)=pure (.type "method_descriptor"))(hm : MtR X id r)(ho : PE X o to)(ha : PA X (e::es) t)(d : attributeBase o name X.env (eval o X.env)=eval o X.env := by rfl)(i : ((backTo cpos (starEach (e::es) X.env)).all (λx => !x.1)&&(backToKw cpos (keywordEach [] X.env)).all (λx => x.1.isSome)
      && decide ((e::es).length+([] : List Keyword).length+(if([] : List Keyword).isEmpty then 0 else 1)<30))=true := by rfl)(g : (apos.endLine==cpos.line)=true := by rfl)(u : starEach (e::es) X.env=(false, eval e X.env)::starEach es X.env := by rfl)(hplain : (backTo cpos (starEach es X.env)).any (·.1)=false := by rfl) :
    PE X (.Call (.Attribute o name apos) (e::es) [] cpos) (W4 X.K T r to t) := by
  intro c s σ H Q I h
  refine wpAny_Call_method_late d i g rfl (dN (ho c s σ H _ I h) ?_)
  rintro v q ⟨x, H1, m, l, ty, q1⟩
  obtain⟨h1, p⟩ := SQ m l ty
  refine⟨T, id, pa, j, k, h1, p, ?_⟩
  have n := ha cpos c q σ H1 _ m q1
  rw[u] at n ⊢
  refine Calls.callWith_builtin (by grind) (Calls.evalArgs_plain ?_)
  exact dN n (by rintro w s2 ⟨vs, H2, I2, r2, q2⟩;exact hm c s2 σ H2 x vs v w Q I2 l r2 q2)
end
def Qh(X : Cx)(id : String)(r : V→List V→Hp→VK→Prop) : Prop :=
  ∀(a : List (Addr×Obj))(s : Shared)(σ : St)(H : Hp)(x : V)(b : List V)(v : Value)(c : List Value)(Q : VK), Inv X a σ H s→RelV x v→Vals b c→r x b H Q →
    wpAny (model X.prog X.w) X.A (call (.builtin id) (v::c)) (EP X a σ Q) X.xe s
theorem Vals.one{x : V}{us : List Value}(h : Vals [x] us) : ∃u, us=[u]∧RelV x u := by
  cases h with|cons r h => cases h;exact⟨_, rfl, r⟩
theorem Vals.two{x y : V}{us : List Value}(h : Vals [x, y] us) : ∃u v, us=[u, v]∧RelV x u∧RelV y v := by
  cases h with|cons r h => cases h with|cons q h => cases h;exact⟨_, _, rfl, r, q⟩
theorem Vals.zero : ∀{us : List Value}, Vals [] us→us=[]
  |_, .nil => rfl
theorem Vals.dropLast(h : Vals xs us) : Vals xs.dropLast us.dropLast := by
  induction h with
  |nil => exact .nil
  |cons r t ih =>
    cases t with
    |nil => grind
    |cons q t' => exact .cons r ih
theorem Vals.eraseIdx : ∀{xs : List V}{us : List Value}(i : Nat), Vals xs us→Vals (xs.eraseIdx i) (us.eraseIdx i)
  |_, _, _, .nil => .nil
  |_, _, 0, .cons _ t => t
  |_, _, i+1, .cons r t => .cons r (Vals.eraseIdx i t)
theorem Vals.reverse(h : Vals xs us) : Vals xs.reverse us.reverse := by
  induction h with
  |nil => exact .nil
  |cons r t ih => rw[reverse_cons, reverse_cons];exact Vals.append ih (.cons r .nil)
theorem aaq{α : Type}(l : List α) : l.eraseIdx (l.length-1)=l.dropLast := by
  grind
theorem Qi{α : Type} : ∀(l : List α)(i : Nat), (l.eraseIdx i).length≤l.length
  |[], _ => afj _
  |_::_, 0 => ahn _
  |_::r, i+1 => ahg (Qi r i)
section
variable{X : Cx}{pins : List (Addr×Obj)}{σ : St}{H : Hp}{s : Shared}{l b : Addr}{xs ys zs : List V}
theorem Inv.Qj{a its' : List Value}{f : Array Value→Array Value}(I : Inv X pins σ H s)(i : H l=some (.lst xs))(e : s.heap.get? l=some { cls := .type "list", data := .seq a.toArray n })(g : f a.toArray=its'.toArray)(d : Vals ys its')(hz : ys.length≤sizeLine) :
    Inv X pins σ (upd H l (.lst ys)) { s with heap := s.heap.update l (ah7 f), toks := t' } := by
  have q := PySem.IsL.update e f
  rw[g] at q
  refine I.write (by rw[i];exact trivial) (.inl rfl) (λb' u c h => (get?_update_other s.heap (ah7 f) (ahk c)).trans h) ⟨_, q⟩ ?_
  exact⟨hz, its', _, d, q⟩
theorem Inv.aep(I : Inv X pins σ H s)(c : Vals ys a)(hz : ys.length≤sizeLine) :
    Inv X pins σ (upd H s.heap.objs.size (.lst ys)) { s with heap := s.heap.push { cls := .type "list", data := .seq a.toArray }, toks := t' } :=
  I.laid (λ_ _ q => get?_push_of_some _ q) (afj _) ⟨hz, a, 0, c, get?_push_size _ rfl⟩
theorem Inv.fresh(I : Inv X pins σ H s) : H s.heap.objs.size=none := I.hok.fresh (afj _)
theorem Inv.Bg(I : Inv X pins σ H s)(c : H l=some (.lst xs)) : xs.length≤sizeLine∧∃(a : List Value)(n : Nat), Vals xs a∧xs.length=a.length∧s.heap.get? l=some { cls := .type "list", data := .seq a.toArray n } := by
  obtain⟨z, a, n, r, e⟩ := I.hok l _ c
  exact⟨z, a, n, r, r.length, e⟩
theorem SX(h : n≤sizeLine) : ahq n=false := by
  unfold ahq
  grind
end
section
variable{X : Cx}
def Gx : V→List V→Hp→VK→Prop := λx b H Q => ∃l a y, x=.ref l∧b=[y]∧H l=some (.lst a)∧a.length<sizeLine∧Q .non (upd H l (.lst (a++[y])))
theorem kZ : Qh X "list.append" Gx := by
  intro pins s σ H x vs v us Q I c f h
  obtain⟨l, xs, y, rfl, rfl, b, hz, q⟩ := h
  cases c
  obtain⟨u, rfl, d⟩ := f.one
  obtain⟨z, a, n, r, hl, e⟩ := I.Bg b
  refine agy ain ⟨_, e, rfl⟩ aie (aib _ _) (aix l a.toArray n u (by grind)) ⟨e, ?_⟩
  refine⟨.non, _, I.Qj b e (by simp) (r.append (.cons d .nil)) ?_, rfl, q⟩
  grind
def Np : V→List V→Hp→VK→Prop := λx d H Q => ∃l b c a, x=.ref l∧d=[.ref b]∧H l=some (.lst c)∧H b=some (.lst a)∧c.length+a.length≤sizeLine∧Q .non (upd H l (.lst (c++a)))
theorem Ef : Qh X "list.extend" Np := by
  intro pins s σ H x vs v us Q I t o h
  obtain⟨l, b, xs, zs, rfl, rfl, g, j, hz, q⟩ := h
  cases t
  obtain⟨u, rfl, k⟩ := o.one
  cases k
  obtain⟨z, c, n, r, hl, e⟩ := I.Bg g
  obtain⟨z2, a, i, p, hl2, m⟩ := I.Bg j
  have f : c.toArray.size+a.toArray.size≤sizeLine := by grind
  have d : ¬(!c.toArray.isEmpty&&ahq (c.toArray.size+a.toArray.size))=true := by
    rw[SX f]
    grind
  refine agy F.slot_list_extend ⟨_, e, rfl⟩ F.entry_list_extend (F.args_list_extend_2 _ _)
    (AutoSeq1.list_extend_list_list_0 l c.toArray n b a.toArray i d (by grind) (by lia)) ⟨e, m, ?_⟩
  refine⟨.non, _, I.Qj g e (by simp) (r.append p) ?_, rfl, q⟩
  grind
def acy : V→List V→Hp→VK→Prop := λx b H Q => ∃l a y, x=.ref l∧b=[]∧H l=some (.lst a)∧a[a.length-1]?=some y∧Q y (upd H l (.lst a.dropLast))
theorem aar : Qh X "list.pop" acy := by
  intro pins s σ H x vs v us Q I f i h
  obtain⟨l, xs, y, rfl, rfl, d, j, q⟩ := h
  cases f
  have b := i.zero
  subst b
  obtain⟨z, a, n, r, hl, e⟩ := I.Bg d
  obtain⟨u, hu, g⟩ := r.get j
  have c : a.toArray[a.toArray.size-1]?=some u := by
    grind
  refine agy F.slot_list_pop ⟨_, e, rfl⟩ F.entry_list_pop (F.args_list_pop_1 _) (MeetsSeq.list_pop_last l a.toArray n u c (by grind)) ⟨e, ?_⟩
  refine⟨y, _, I.Qj d e ?_ r.dropLast ?_, g, q⟩
  · grind
  grind
def S5 : V→List V→Hp→VK→Prop := λx b H Q => ∃l a i k y, x=.ref l∧b=[.int i]∧H l=some (.lst a) ∧ -(2^63)≤i∧i<2^63∧seqIndex? i a.length=some k∧a[k]?=some y∧Q y (upd H l (.lst (a.eraseIdx k)))
theorem S6 : Qh X "list.pop" S5 := by
  intro pins s σ H x vs v us Q I o m h
  obtain⟨l, xs, i, k, y, rfl, rfl, c, f, d, hk, g, q⟩ := h
  cases o
  obtain⟨u, rfl, j⟩ := m.one
  obtain⟨t, rfl⟩ := j
  obtain⟨z, a, n, r, hl, e⟩ := I.Bg c
  obtain⟨w, hw, b⟩ := r.get g
  refine agy F.slot_list_pop ⟨_, e, rfl⟩ F.entry_list_pop (F.args_list_pop_2 _ _)
    (MeetsSeq.list_pop_at l a.toArray n i t k w (fitsIndex_both f d) (by grind) (by grind) (by grind)) ⟨e, ?_⟩
  refine⟨y, _, I.Qj c e ?_ (r.eraseIdx k) ?_, b, q⟩
  · grind
  grind
def Ji : V→List V→Hp→VK→Prop := λx b H Q => ∃l a, x=.ref l∧b=[]∧H l=some (.lst a)∧Q .non (upd H l (.lst a.reverse))
theorem Bh : Qh X "list.reverse" Ji := by
  intro pins s σ H x vs v us Q I d f h
  obtain⟨l, xs, rfl, rfl, c, q⟩ := h
  cases d
  have b := f.zero
  subst b
  obtain⟨z, a, n, r, hl, e⟩ := I.Bg c
  refine agy F.slot_list_reverse ⟨_, e, rfl⟩ F.entry_list_reverse (F.args_list_reverse_1 _) (AutoSeq1.list_reverse_list_0 l a.toArray n (by grind)) ⟨e, ?_⟩
  refine⟨.non, _, I.Qj c e (by simp) r.reverse ?_, rfl, q⟩
  grind
def acz : R2 := λx y H Q => ∃l b c a, x=.ref l∧y=.ref b∧H l=some (.lst c)∧H b=some (.lst a)∧c.length+a.length≤sizeLine∧∀p, H p=none→Q (.ref p) (upd H p (.lst (c++a)))
theorem rE : zj X (binaryOp .Add) acz := by
  intro pins s σ H x y v u Q I m d h
  obtain⟨l, b, xs, zs, rfl, rfl, f, j, hz, q⟩ := h
  cases m
  cases d
  obtain⟨z, c, n, r, hl, e⟩ := I.Bg f
  obtain⟨z2, a, n2, k, hl2, i⟩ := I.Bg j
  refine PySem.P.add_list e i ?_ (by grind)
  have g : c.toArray++a.toArray=(c++a).toArray := by simp
  rw[g]
  exact⟨.ref _, _, I.aep (r.append k) (by grind), rfl, q _ I.fresh⟩
end
end L2
namespace Att
open PySem PySem.W PySem.Calls PyProof.Rows
theorem zO : ∀(ns : List Int)(vs : List Value), WellAll P h vs (ns.map WData.int)→IntsAre vs ns := by
  intro ns
  induction ns with
  |nil =>
    intro vs w
    cases w
    exact .nil
  |cons n ns ih =>
    intro vs w
    cases w with
    |cons a b =>
      cases a
      exact .cons _ _ (ih _ b)
theorem Qk{l : OpenLaw}(hn : l.most=some n)(c : l.row.toRowW.claim.pre b=true)(j : WellAll P h g b) :
    ∃a vs ns, g=[agj a]∧b=[WData.list (ns.map WData.int)]∧h.get? a=some { cls := .type "list", data := .seq vs.toArray }∧IntsAre vs ns∧ns.length≤n := by
  have i := (pre_splitW c).1
  have m : l.pre.holds [] { args := b }=true := (pre_splitW c).2
  obtain⟨d, r, rfl, p, t⟩ := hasAllW_cons i
  obtain rfl := hasAllW_nil t
  obtain⟨xs, rfl, s⟩ := hasW_list p
  obtain⟨ns, rfl⟩ := items_int s
  have f : ns.length≤n := by
    unfold OpenLaw.pre at m
    have k : (WTm.not (.lt (.lit (.int (n : Int))) (.len (.arg 0)))).holds [] { args := [.list (ns.map .int)] }=true := by
      have k := (holds_andW m).1
      grind
    have h5 := condW_of k (w_not (w_lt w_lit (w_len_list (w_arg rfl))))
    grind
  cases j with
  |cons q u =>
    cases u
    cases q with
    |list o e => exact⟨_, _, ns, rfl, rfl, o, zO ns _ e, f⟩
theorem Ql(l : OpenLaw)(a : List WData) : l.row.toRowW.claim.post a (.bool true) a=true :=
  postW_of
    (show WShape.has [] (.bool true) .bool=true by first|rfl|decide|grind)
    (w_eq_bool (w_res rfl) w_lit) rfl
theorem Jj{l : OpenLaw}{B : World→Heap→Prop}{d : DefRec}(P : l.most=some n)(v : d.params.defaults=[])(call : ∀(w : World) (x b : Shared) (mg t : Str→Option Value) (h : Addr) (o : Obj) (z m c : Value) (a : Addr) (vs : List Value) (ns : List Int),
      Ground q e [] L w x mg t b.heap→B w b.heap →
      b.heap.get? h=some o→o.data=.func (docDef d.name d.params d.body d.scope z m c)→b.heap.CodeRec m d.name→mg d.name=some (.ref h) →
      b.heap.get? a=some { cls := .type "list", data := .seq vs.toArray }→IntsAre vs ns→ns.length≤n→b.gens=#[] →
      codeAny (model l.prog w) callerA (.call (.ref h) ⟨[.ref a], []⟩) (λr s' => r=.ok (.ret (.bool true))∧OldK b.heap s'.heap∧s'.os=b.os∧AllBare s'.gens) b) :
    WalkO q e L B l.row.toRowW d [] (λf vs => PySem.call f vs) := by
  intro w x b mg t G Y h o z m c N E C I u A p H args vals as j hlay hrd y hlo
  obtain rfl : N=.none := Dflts.none A v
  obtain rfl : E=.none := Dflts.noKw A
  obtain⟨a, vs, ns, rfl, rfl, k, g, i⟩ := Qk P j y
  refine enter_call (ai5 (call w x b mg t h o z m c a vs ns G Y C (fd_plain I) u p k g i H) λr s' O => ?_)
  obtain⟨rfl, J, F, D⟩ := O
  exact⟨.inl ⟨.bool true, .bool true, [], rfl, λ_ => rfl, .bool true, Ql l _, λ_ => ⟨List.Pairwise.nil, λ_ M => (nomatch M)⟩⟩, J, F, D⟩
end Att
namespace L2
open PySem PySem.Spec PyProof.Rows
theorem Eh : ∀{vs : List Value}{ns : List Int}, IntsAre vs ns→Vals (ns.map V.int) vs
  |_, _, .nil => .nil
  |_, _, .cons n t h => .cons ⟨t, rfl⟩ (Eh h)
def Only(H : Hp) : Prop := ∀b, H b=none∨∃o a, H b=some (.Iw o (.lst a))
theorem S7{K : afh}{c : Shared}{vs : List Value}(X : K.In c.heap)(D : c.heap.Ns afs mg)(g : c.heap.Ns builtinsNs Y)(L : ∀x : Str, x ≠ "__name__" → Y x=bootBuiltins x)(t : c.heap.NoLimit)(hg : c.gens=#[])(J : c.heap.get? a=some { cls := .type "list", data := .seq vs.toArray })(Z : IntsAre vs ns)(hl : ns.length≤sizeLine)(hr : f9 k callerA)(F : ∀base : Heap, K.In base→base.Ns afs mg→bY P w K mg base CX k T fd [x] sp)(l : ∀(s : Shared) (u : Value), BindsTo s fd ⟨[u], []⟩ [(x, u)])(N : ∀H : Hp, Only H→gj K H a (ns.map V.int)→sp [.ref a] H (λv _ => v=.bl true) λ_ _ _ => False)(M : ∀H e s', CX [] H c (λ_ _ _ => False) e s'→False) :
    codeAny (model P w) callerA (.call (.ref T) ⟨[.ref a], []⟩) (λr s' => r=.ok (.ret (.bool true))∧OldK c.heap s'.heap∧s'.os=c.os∧AllBare s'.gens) c := by
  have U := Eh Z
  have B := Z.length
  have j : ∀H : Hp, Only H→gj K H a (ns.map V.int)→qj P w H c.heap→(∀b, H b≠none→b=a)→(H a≠none→K.lookup a=none) →
      codeAny (model P w) callerA (.call (.ref T) ⟨[.ref a], []⟩) (λr s' => r=.ok (.ret (.bool true))∧OldK c.heap s'.heap∧s'.os=c.os∧AllBare s'.gens) c := by
    intro H hO hS C S hK
    have f : ∀{b : Addr}{o : Obj}, c.heap.get? b=some o→H b=none→(Gh c.heap H).get? b=some o := λe n => RB e n
    have Q : ∀{b : Addr}{o : Obj}{y : Array DictEntry}{A : Nat}, c.heap.get? b=some o→o.data=.dict y A→H b=none := λ{b o y A} e d => by
      cases q : H b with
      |none => rfl
      |some u =>
        have R : b=a := S b (by rw[q];simp)
        subst R
        rw[J] at e;cases e
        have d' : Data.seq vs.toArray _=Data.dict y A := d
        cases d'
    have i : ∀{b : Addr}{m : Str→Option Value}, c.heap.Ns b m→(Gh c.heap H).Ns b m := λ{b m} ⟨o, y, A, e, d, r⟩ => ⟨o, y, A, f e (Q e d), d, r⟩
    have p : K.In (Gh c.heap H) := λb o e => f (X b o e) (by
      cases q : H b with
      |none => rfl
      |some u =>
        have R : b=a := S b (by rw[q];simp)
        subst R
        rw[hK (by rw[q];simp)] at e;cases e)
    have hM : Mod K mg (Gh c.heap H) := ⟨p, i D, ⟨Y, i g, L⟩, let⟨mc, h1, h2⟩ := t;⟨mc, i h1, h2⟩⟩
    have e0 : Kz P w K mg (Gh c.heap H) callerA [] c H := ⟨rfl, hM, λb o e => W_ e, Nat.le_of_eq (Px _ _), trivial, λb g => absurd (show b∈([] : List Addr) from g) (by simp), C, .of_eq hg⟩
    refine ai5 ((F _ p (i D)).run callerA [] c H ⟨[.ref a], []⟩ [.ref a] [.ref a] _ _ hr e0 (l c (.ref a)) (.cons rfl .nil) (N H hO hS)) λr s' h => ?_
    cases r with
    |error e => exact(M H e s' h).elim
    |ok fl =>
      cases fl with
      |next => exact af4 h
      |brk => exact af4 h
      |cont => exact af4 h
      |ret u =>
        obtain⟨v, H', os, G, un, E, r', q⟩ := h
        have q' : v=.bl true := q
        subst q'
        obtain rfl : u=ahb true := r'
        refine⟨rfl, OldK.of_keep λb o e => ?_, os, G⟩
        cases q : H b with
        |none => exact un.keep b o e q (by intro z;exact absurd (show b∈([] : List Addr) from z) (by simp)) (by simp)
        |some u =>
          rcases hO b with z|⟨ob, xs, z⟩
          · rw[q] at z;cases z
          · have z2 := un.zM b ob _ z
            obtain⟨e1, _⟩ := C b _ z
            obtain⟨e2, _⟩ := E b _ z2
            rw[e] at e1;cases e1
            exact e2
  cases O : K.lookup a with
  |some o =>
    have e := X a o O
    rw[J] at e
    cases e
    refine j (λ_ => none) (λ_ => .inl rfl) (.inr ⟨_, vs.toArray, _, O, rfl, rfl, rfl, by rw[size_toArray, B];exact hl, by simpa using U⟩) (λb u z => by have I : (none : Option HO)=some u := z;cases I) (λb z => absurd rfl z) λz => absurd rfl z
  |none =>
    refine j (λb => if b=a then some (.Iw { cls := .type "list", data := .seq vs.toArray } (.lst (ns.map V.int))) else none) (λb => ?_) (.inl (.inr ⟨{ cls := .type "list", data := .seq vs.toArray }, if_pos rfl⟩)) (λb u z => ?_) (λb z => ?_) λ_ => O
    · by_cases g : b=a
      · exact .inr ⟨_, _, if_pos g⟩
      · exact .inl (if_neg g)
    · by_cases g : b=a
      · have I := (if_pos g).symm.trans z
        cases I
        subst g
        exact⟨J, by rw[length_map];exact hl, vs, _, U, J⟩
      · have I := (if_neg g).symm.trans z
        cases I
    · by_cases g : b=a
      · exact g
      · exact absurd (if_neg g) z
theorem Xv{l : ai8}{D : World→Heap→Prop}{d : DefRec}{K : Params→afh}{CX : World→Rr}{sp : World→Sp}(hn : l.most=some n)(z : n≤sizeLine)(r : d.params.defaults=[])(hr : f9 k callerA)(hY : ∀(w : World) (h : Heap), D w h→(K w.params).In h)(F : ∀(w : World) (mg : Str→Option Value) (p : Addr) (h : Heap), (K w.params).In h→h.Ns afs mg→mg d.name=some (.ref p) →
      ∃y : FuncData, (∀(s : Shared) (u : Value), BindsTo s y ⟨[u], []⟩ [(x, u)]) ∧
        ∀base : Heap, (K w.params).In base→base.Ns afs mg→bY l.prog w (K w.params) mg base (CX w) k p y [x] (sp w))(t : ∀(w : World) (H : Hp) (a : Addr) (ns : List Int), ns.length≤n→Only H→gj (K w.params) H a (ns.map V.int)→sp w [.ref a] H (λv _ => v=.bl true) λ_ _ _ => False)(B : ∀(w : World) (H : Hp) (s : Shared) (e : Value) (s' : Shared), CX w [] H s (λ_ _ _ => False) e s'→False) :
    PySem.W.WalkO q loose XP D l.row.toRowW d [] (λf vs => PySem.call f vs) := by
  refine Att.Jj hn r λw s₀ s₁ mg mb p o pm cd doc a vs ns G Y ho hd hcd A m j i hg => ?_
  have C := hY w _ Y
  obtain⟨y, hb, hF⟩ := F w mg p _ C G.T.g A
  exact S7 C G.T.g G.T.b G.T.builtins G.T.nolimit hg m j (afl i z) hr hF hb (λH hO E => t w H a ns i hO E) λH e s' => B w H s₁ e s'
def inClass(s : Stmt)(j : Nat) : Stmt := match s with
  |.ClassDef _ _ _ b _ _ _ _ _ _ _ => b.getD j (.Pass ⟨0, 0, 0, 0⟩)
  |_ => .Pass ⟨0, 0, 0, 0⟩
def iy(s : Stmt) : Arguments := match s with
  |.FunctionDef _ a _ _ _ _ _ _ _ _ => a
  |_ => { posonlyargs := [], args := [], vararg := none, kwonlyargs := [], kw_defaults := [], kwarg := none, defaults := [] }
def dB(s : Stmt) : List Stmt := match s with
  |.FunctionDef _ _ b _ _ _ _ _ _ _ => b
  |_ => []
def aH(s : Stmt) : Scope := match s with
  |.FunctionDef _ _ _ _ _ _ a _ _ _ => a
  |_ => { kind := .function, names := [], isGenerator := false, isCoroutine := false }
abbrev jE : Rr := λ_ _ _ _ _ _ => False
abbrev E0 : XK := λ_ _ _ => False
theorem Nq : Passes jE X E0 := λ_ _ _ _ _ _ _ h => h.elim
structure gn(K : afh)(x qual : Str)(st : Stmt)(f : Addr)(fd : FuncData) : Prop where
  ex : ∃(oc : Value)(od : Option Addr)(kV doc pm : Value)(an : Option Addr)(cdv ct : Value)(osl : Array (Option Value)),
    fd=agl x qual (iy st) (dB st) (aH st) .none kV doc pm an cdv ct∧K.lookup f=some ⟨oc, od, .func fd, osl⟩∧ah3 K cdv qual=true
  kp : agw K (.ref f)=true
section
variable{P : Program}{w : World}{K : afh}{mg : Str→Option Value}{base : Heap}
theorem gn.ok{x c : Str}{st : Stmt}{f : Addr}{l : FuncData}{N ps : List Str}{k : Nat}{sp : Sp}(F : gn K x c st f l)(S : bf N ps (aH st))(i : ∀vs H Q E, sp vs H Q E→vs.length=ps.length)(e : ∀(d : Value) (A : Around) (b : List Env) (s : Shared) (H : Hp) (vs : List V) (Q : VK) (E : XK), f9 k (A.deeper (envOfC c (aH st) s.heap.objs.size f d))→sp vs H Q E →
      ∃t, xY (nJ jE P w K mg base N c (aH st) f d A b s H E).rB (dB st) t∧t { nx := λ_ H' => Q .non H', rt := Q } (start N vs) H) : bY P w K mg base jE (k+1) f l ps sp := by
  obtain⟨oc, od, kV, doc, pm, an, d, ct, osl, rfl, n, j⟩ := F.ex
  refine Jf n j S i λA b s H vs Q E m g => ?_
  obtain⟨t, h, q⟩ := e d A b s H vs Q E m g
  exact⟨t, h.rB, q⟩
theorem gn.binds{x b : Str}{st : Stmt}{f : Addr}{j : FuncData}{ps : List Str}(F : gn K x b st f j)(h : ∀(kV d g : Value) (i : Option Addr) (c e : Value) (us : List Value), us.length=ps.length→bindArgs (agl x b (iy st) (dB st) (aH st) .none kV d g i c e) ⟨us, []⟩=pure (ps.zip us)) : Binds K j ps [] := by
  obtain⟨oc, od, kV, d, g, i, c, e, osl, rfl, lk, hcd⟩ := F.ex
  exact .all (h kV d g i c e)
theorem Gy{x a : Str}{st : Stmt}{f : Addr}{j : Value}{od i : Option Addr}{e : Array (Option Value)}{kV d g b h : Value}(l : K.lookup f=some ⟨j, od, .func (agl x a (iy st) (dB st) (aH st) .none kV d g i b h), e⟩)(c : ah3 K b a=true)(k : agw K (.ref f)=true) : gn K x a st f (agl x a (iy st) (dB st) (aH st) .none kV d g i b h) := ⟨⟨j, od, kV, d, g, i, b, h, e, rfl, l, c⟩, k⟩
end
theorem Nr(a : f9 k A) : A.units+1<cLine := aft (Nat.add_le_add_left (by decide : 1≤64) _) a.units
theorem Em(h : n≤1000) : n<sizeLine := aft h (by decide)
section
variable{X : Cx}
theorem pv(i : Nat)(b : X.N[i]?=some x := by rfl)(d : Vis X.env.scope x := by first|exact Or.inl rfl|exact Or.inr (Or.inl rfl)|exact Or.inr (Or.inr rfl))(c : (x==("__debug__" : Str))=false := by decide)(a : (x==("__classdict__" : Str))=false := by decide) : PE X (.Name x pos) (mU i) := Z_ b d c a
end
theorem oM{A B : Prop}(h : B) : if false=true then A else B := by
  grind
theorem Bj{A B : Prop}(h : A) : if true=true then A else B := by
  grind
def Same(H H' : Hp) : Prop := ∀b o, H b=some o→H' b=some o
theorem Same.refl(H : Hp) : Same H H := λ_ _ h => h
theorem Same.trans(a : Same H d)(b : Same d e) : Same H e := λc o h => b c o (a c o h)
theorem Same.free(e : Same H H')(h : H' l=ajr) : H l=ajr := by
  cases q : H l with
  |none => rfl
  |some o =>
    rw[e l o q] at h
    cases h
theorem Same.seq{K : afh}{H H' : Hp}{a : Addr}{xs : List V}(e : Same H H')(h : gj K H a xs) : gj K H' a xs := by
  rcases h with(h|⟨o, h⟩)|h
  · exact .inl (.inl (e _ _ h))
  · exact .inl (.inr ⟨o, e _ _ h⟩)
  · exact .inr h
open PySem
section
variable{prog : Program}{w : World}{A : Around}{R : Result→Shared→Prop}{s : Shared}
theorem dO{α : Type}{t : Sem α}{Q b : α→Shared→Prop}(h : wpAny M A t Q (λ_ _ => False) s)(c : ∀a s, Q a s→b a s) : wpAny M A t b (notedBy M A env E) s :=
  agc h c λ_ _ z => z.elim
theorem Gz(I : Nat→Shared→Prop)(d : ∀n s, I n s→wpAny (model prog w) A (pyNext k) (λr j => match r with
      |none => R (.ok .next) j
      |some v => wpAny (model prog w) A (letOwnedTupleGo a k v) (λ_ o => wpAny (model prog w) A (assign a env v) (λ_ t =>
          wpAny (model prog w) A (forIn f true λc r => if r=true then do let i ← isTrue c env (eval c env);pure (ag3 i) else pure (ag3 r)) (λi l =>
            if i=true then wpAny (model prog w) A (eval g env) (λx u =>
              wpAny (model prog w) A (call (.builtin "list.append") [acc, x]) (λ_ y => ∃m, m<n∧I m y) (λ_ _ => False) u) (λ_ _ => False) l
            else∃m, m<n∧I m l) (λ_ _ => False) t) (λ_ _ => False) o) (λ_ _ => False) j) (λ_ _ => False) s)(n : Nat)(h : I n s) : codeAny (model prog w) A (.compLoop (.ListComp g [⟨a, e, f, 0⟩] b pos) 0 k acc env) R s := by
  refine codeAny_loop rfl I (λn s B => ?_) n h
  show wpAny _ A ((compTurn (.ListComp g [⟨a, e, f, 0⟩] b pos) 0 k acc env).onRaise (λx => do noteFrame x env;theTreesLotGoes x)) _ _ s
  refine wpAny_noted ?_
  rw[compTurn_list]
  refine afk (aia (afk (dO (d n s B) λr j q => ?_)))
  cases r with
  |none => exact afw q
  |some v =>
    refine afk (dO q λ_ o D => ?_)
    refine afk (dO D λ_ t z => afk (dO z λi l p => ?_))
    cases i with
    |false => exact afw ⟨rfl, p⟩
    |true =>
      exact afk (afk (dO p λx u E => afk (dO E λ_ y C => afw (afw ⟨rfl, C⟩))))
end
def iV(env : Env) : List (Str×NameKind)→List (Str×Addr)→List (Str×Addr)
  |[], a => a
  | (n, k)::r, a => if k==.free then iV env r ((n, (env.cells.lookup n).getD 0)::a) else iV env r a
theorem lD{a : Scope}{env : Env}(h : ∀y∈a.names, y.2=.free→∃c, env.cells.lookup y.1=some c) : closureFor a env=pure (iV env a.names []) := by
  unfold closureFor
  generalize a.names=l at h
  have go : ∀(l : List (Str×NameKind))(d : List (Str×Addr)), (∀y∈l, y.2=.free→∃c, env.cells.lookup y.1=some c) →
     (forIn l d (λ(x : Str×NameKind) (r : List (Str×Addr)) => match x with
        | (e, f) => if(f==agg)=true then(do let b ← cellOf env e;pure (ag3 ((e, b)::r))) else pure (ag3 r)) : Sem (List (Str×Addr)))=pure (iV env l d) := by
    intro l
    induction l with
    |nil => intro d _;rfl
    |cons x r ih =>
      intro d j
      obtain⟨n, k⟩ := x
      rw[List.forIn_cons]
      unfold iV
      by_cases i : (k==agg)=true
      · obtain⟨c, o⟩ := j (n, k) mem_cons_self (ajq i)
        simp only[i, if_true]
        have g : env.cells.lookup n=some c := o
        unfold cellOf
        rw[g]
        exact ih _ λy m => j y (mem_cons_of_mem _ m)
      grind
  grind
theorem yj{env : Env} : ∀(l : List (Str×NameKind))(acc : List (Str×Addr)), (∀x c, acc.lookup x=some c→(env.cells.lookup x).getD 0=c)→∀x c, (iV env l acc).lookup x=some c→(env.cells.lookup x).getD 0=c
  |[], _, h, x, c, e => h x c e
  | (n, k)::r, acc, h, x, c, e => by
    unfold iV at e
    by_cases a : (k==agg)=true
    · rw[if_pos a] at e
      refine yj r _ (λy d q => ?_) x c e
      grind
    · rw[if_neg a] at e
      exact yj r acc h x c e
theorem vd : ∀(l : List (Str×NameKind))(acc : List (Str×Addr))(x : Str)(c : Addr), (iV env l acc).lookup x=some c→(acc.lookup x).isSome=true∨(x, agg)∈l
  |[], _, x, c, e => .inl (by unfold iV at e;grind)
  | (n, k)::r, acc, x, c, e => by
    unfold iV at e
    by_cases a : (k==agg)=true
    · rw[if_pos a] at e
      rcases vd r _ x c e with h|h
      · grind
      grind
    · rw[if_neg a] at e
      rcases vd r _ x c e with h|h
      · grind
      grind
theorem uc : ∀(l : List (Str×NameKind))(acc : List (Str×Addr))(x : Str), ((acc.lookup x).isSome=true∨(x, agg)∈l)→((iV env l acc).lookup x).isSome=true
  |[], _, x, h => by
    rcases h with h|h
    · exact h
    grind
  | (n, k)::r, acc, x, h => by
    unfold iV
    by_cases a : (k==agg)=true
    · rw[if_pos a]
      refine uc r _ x ?_
      grind
    · rw[if_neg a]
      refine uc r _ x ?_
      grind
theorem wM{env : Env} : ∀{a : List (Str×NameKind)}{x : Str}, a.lookup x=some .free →
    (a.map λ(n, k) => if(k==agg&&env.scope.kind==.function&&env.kindOf n==some .cell) then(n, aht) else(n, k)).lookup x=some .cell ∨
    (a.map λ(n, k) => if(k==agg&&env.scope.kind==.function&&env.kindOf n==some .cell) then(n, aht) else(n, k)).lookup x=some .free
  |[], _, h => by simp at h
  | (n, k)::r, x, h => by
    have ih := @wM env r x
    grind
theorem rG{env : Env} : ∀{a : List (Str×NameKind)}{x : Str}{k : NameKind}, (k=.cell∨k=.free) →
    (a.map λ(n, k) => if(k==agg&&env.scope.kind==.function&&env.kindOf n==some .cell) then(n, aht) else(n, k)).lookup x=some k→(x, agg)∈a∨(x, aht)∈a
  |[], _, _, _, h => by simp at h
  | (n, k')::r, x, k, b, h => by
    have ih := @rG env r x k b
    grind
theorem fG : ∀(l : List (Str×NameKind))(n : Nat)(acc : List (Str×Addr)), cellsFrom n l acc=cellsFrom n l []++acc
  |[], _, _ => rfl
  | (x, k)::r, n, acc => by
    unfold cellsFrom
    split
    · rw[fG r (n+1) ((x, n)::acc), fG r (n+1) [(x, n)]];simp
    · exact fG r n acc
theorem nO : ∀(l : List (Str×NameKind))(n : Nat)(x : Str)(c : Addr), (x, c)∈cellsFrom n l []→(x, aht)∈l
  |[], _, _, _, h => by cases h
  | (y, k)::r, n, x, c, h => by
    unfold cellsFrom at h
    split at h
    · rw[fG] at h
      rcases mem_append.mp h with h|h
      · exact mem_cons_of_mem _ (nO r _ x c h)
      grind
    · exact mem_cons_of_mem _ (nO r _ x c h)
theorem pI{s : Shared}{a : Scope}{Q : Env→Shared→Prop}(j : ∀h', h'.Ns s.heap.objs.size (λ_ => none)→(∀b o, s.heap.get? b=some o→h'.get? b=some o)→CellsOk h' (s.heap.objs.size+1) (cellsFrom (s.heap.objs.size+1) a.names []) →
      Q (newEnv a s.heap.objs.size c (cellsFrom (s.heap.objs.size+1) a.names d) g none .none (some f) builtinsNs) { s with heap := h' }) :
    wpAny M A (newFunctionEnv a c d [] g none .none (some f)) Q E s := by
  refine afk (wpAny_alloc ?_)
  refine afk (wpAny_layCells _ (λname kind cells => by grind) _ _ _ _ ?_)
  have h := cellsFrom_ok a.names (s.heap.push { cls := .type "dict", data := .dict #[] }) (s.heap.objs.size+1) [] ⟨λ_ _ i => (nomatch i), List.Pairwise.nil⟩ (by simp_all)
  rw[size_push] at h
  rw[size_push ..]
  refine afk ?_
  rw[List.forIn_nil]
  exact afw (afw (j _ ((Heap.Ns.new s.heap (.type "dict")).keeps (pushCells_keeps _ _)) (λb o e => pushCells_keeps _ _ b o (get?_push_of_some _ e)) h))
theorem qj.track(x : qj P w H h)(f : H a=none)(new : gb P w (upd H a o) h a o) : qj P w (upd H a o) h := λb u e => by
  by_cases d : b=a
  · subst d;rw[aY] at e;grind
  · rw[aP d] at e
    exact(x b u e).stay (λc v _ q => q) (λc q => by rw[aP (aR q f)];exact q) λc xs q => by rw[aP (aR q f)];exact q
theorem Un.track(u : Un fs i H H' h h')(h0 : h.get? a=none)(e : H a=none) : Un fs i H (upd H' a o) h h' where
  keep := u.keep
  slot := u.slot
  free := λb c q n f => by
    rw[aP (λz => by grind)];exact u.free b c q n f
  there := u.there
  tups := λb d q => by rw[aP (aR q e)];exact u.tups b d q
  zM := λb c d q => by rw[aP (aR q e)];exact u.zM b c d q
  Ax := λb g q => by rw[aP (aR q e)];exact u.Ax b g q
def nIn(N : List Str)(own : List Str)(ix : List Nat) : List Str := own++ix.map λj => N.getD j ag8
def vf(σ : St)(n : Nat)(ix : List Nat) : St := replicate n none++ix.map λj => (σ[j]?).getD none
def dM(X : Cx)(a : Scope)(own : List Str)(ix : List Nat)(C : Addr)(s : Shared)(H : Hp)(fp : List Addr) : Cx :=
  { X with N := nIn X.N own ix, s₀ := s, H₀ := H, env := compEnvC a (cellsFrom (C+1) a.names (iV X.env a.names [])) C X.env, outer := X.stack, stack := X.stack, ex := fp, fn := λx => a.names.lookup x==some .cell, pn := [] }
def yp(b : Scope)(c : List Str)(a : Scope)(ix : List Nat) : Bool :=
  a.kind==.function &&
  (a.names.all λy => (y.2 != .cell||a.names.lookup y.1==some .cell)&&(y.2 != .local||a.names.lookup y.1==some .local)&&(y.2 != .free||(b.names.lookup y.1==some .cell||b.names.lookup y.1==some .free))) &&
  ix.all λj => match c[j]? with
    |some x => a.names.lookup x==some .free
    |none => false
structure rH(osc : Scope)(oN : List Str)(scope : Scope)(ix : List Nat) : Prop where
  kind : scope.kind=.function
  clk : ∀y∈scope.names, y.2=.cell→scope.names.lookup y.1=some .cell
  nm : ∀y∈scope.names, y.2=.local→scope.names.lookup y.1=some .local
  fr : ∀y∈scope.names, y.2=.free→osc.names.lookup y.1=some .cell∨osc.names.lookup y.1=some .free
  ix : ∀j∈ix, ∃x, oN[j]?=some x∧scope.names.lookup x=some .free
theorem ud(h : yp b d a ix=true) : rH b d a ix := by
  unfold yp at h
  rw[agf, agf, all_eq_true] at h
  obtain⟨⟨f, h2⟩, h3⟩ := h
  refine⟨ajq f, λy c e => ?_, λy c e => ?_, λy c e => ?_, λj hj => ?_⟩
  · grind
  · grind
  · grind
  grind
section
variable{X : Cx}{pins : List (Addr×Obj)}{σ : St}{H : Hp}{s : Shared}{scope : Scope}{own : List Str}{ix : List Nat}
theorem nP(I : Inv X pins σ H s)(a : rH X.env.scope X.N scope ix) : ∀y∈scope.names, y.2=.free→∃c, X.env.cells.lookup y.1=some c := λy b e => by
  rcases a.fr y b e with q|q
  · exact I.ok.has y.1 (.inl q)
  · exact I.ok.has y.1 (.inr q)
theorem Jk(I : Inv X pins σ H s)(a : rH X.env.scope X.N scope ix)(e : (iV X.env scope.names []).lookup x=some c) : X.env.cells.lookup x=some c := by
  have h1 := yj scope.names [] (λx c q => by simp at q) x c e
  rcases vd scope.names [] x c e with q|q
  · simp at q
  · obtain⟨c', hc⟩ := nP I a (x, .free) q rfl
    grind
theorem S8(I : Inv X pins σ H s)(d : rH X.env.scope X.N scope ix)(b : (x, agg)∈scope.names)(e : X.env.cells.lookup x=some c) : (iV X.env scope.names []).lookup x=some c := by
  have a := uc (env := X.env) scope.names [] x (.inr b)
  obtain⟨c', f⟩ := agq.mp a
  have := Jk I d f
  grind
theorem jy(I : Inv X pins σ H s)(a : rH X.env.scope X.N scope ix)(e : (cellsFrom (C+1) scope.names (iV X.env scope.names [])).lookup x=some c) : (x, c)∈cellsFrom (C+1) scope.names []∨X.env.cells.lookup x=some c := by
  rw[fG, lookup_append] at e
  cases h : (cellsFrom (C+1) scope.names []).lookup x with
  |some d => rw[h] at e;cases e;exact .inl (agk h)
  |none => rw[h] at e;exact .inr (Jk I a e)
theorem S9(h : (vf σ n ix)[i]?=some (some v)) : ∃j, ix[i-n]?=some j∧σ[j]?=some (some v)∧n≤i := by
  unfold vf at h
  grind
theorem Inv.comp{h₁ : Heap}(I : Inv X pins σ H s)(f : rH X.env.scope X.N scope ix)(fo : ∀b∈fp, uY X pins H b)(Zq : ∀b∈fp, b<s.heap.objs.size)(E : s.heap.objs.size≤C)(hns : h₁.Ns C m₀)(hk : ∀b o, s.heap.get? b=some o→h₁.get? b=some o)(F : CellsOk h₁ (C+1) (cellsFrom (C+1) scope.names [])) : Inv (dM X scope own ix C s H fp) [] (vf σ own.length ix) H { s with heap := h₁, toks := t' } := by
  have lt : ∀{b : Addr}, b<s.heap.objs.size→b≠C := λ{b} n => afy (afq n E)
  have A : ∀{x : Str}{c : Addr}, X.env.cells.lookup x=some c→c<C+1 := λ{x c} e => by
    obtain⟨v, q⟩ := I.cell x c e
    exact Nat.lt_succ_of_lt (afq q.lt E)
  have g : ∀{x : Str}{c : Addr}, X.env.cells.lookup x=some c→∀v, s.heap.IsCell c v→h₁.IsCell c v := λ{x c} _ v ⟨o, ho, hd⟩ => ⟨o, hk _ _ ho, hd⟩
  refine⟨⟨I.ok.mod, f.kind, I.ok.glob, I.ok.blt, E, λx y c h1 h2 => ?_, λx hx => ?_, λx c h e => by
    have h' : scope.names.lookup x=some .cell := ajq h
    have e' : (cellsFrom (C+1) scope.names (iV X.env scope.names [])).lookup x=some c := e
    rw[fG, lookup_append] at e'
    obtain⟨d, hd⟩ := agq.mp (ag7 scope.names (C+1) [] (.inl h'))
    rw[hd] at e'
    cases e'
    exact afl E (ait (F.empty _ _ (agk hd)).2), I.ok.hd, I.ok.frames, .inl rfl, λb n => ?_, I.bs, afl I.ok.RD I.sz, λb o e n => ?_, λb n z => ?_, I.stack, I.Gi⟩,
    rfl, I.bare, Un.kept hk, ⟨m₀, hns, λi x v h1 h2 h3 => ?_⟩, λx c h => ?_, I.hok.fresh E, λx c h => ?_, λp hp => ?_, I.hok.kept hk, ?_⟩
  · rcases jy I f h1 with q1|q1
    · rcases jy I f h2 with G|G
      · exact name_of_addr F.apart q1 G
      · exact absurd (afq (A G) (F.empty _ _ q1).2) (af3 _)
    · rcases jy I f h2 with G|G
      · exact absurd (afq (A q1) (F.empty _ _ G).2) (af3 _)
      · exact I.ok.inj x y c q1 G
  · have k : (x, agg)∈scope.names∨(x, aht)∈scope.names := by
      rcases hx with hx|hx
      · exact rG (env := X.env) (.inl rfl) hx
      · exact rG (env := X.env) (.inr rfl) hx
    refine agq.mp ?_
    show((cellsFrom (C+1) scope.names (iV X.env scope.names [])).lookup x).isSome=true
    rcases k with k|k
    · exact ag7 _ _ _ (.inr (uc (env := X.env) scope.names [] x (.inr k)))
    · exact ag7 _ _ _ (.inl (f.clk _ k rfl))
  · obtain⟨f0, f1, f2, f3, f4, f5⟩ := fo b n
    refine⟨lt (Zq b n), λx c h => ?_⟩
    rcases jy I f h with q|q
    · exactλz => absurd (afq (Zq b n) (afl E (ait (z▸(F.empty _ _ q).2)))) (af3 _)
    · exact f4 x c q
  · obtain⟨f0, f1, f2, f3, f4, f5⟩ := fo b n
    rcases f3 with z|z
    · exact I.ok.Kh b o e z
    · exact absurd (afq (lt_size e) (afl I.ok.RD z)) (af3 _)
  · obtain⟨f0, f1, f2, f3, f4, f5⟩ := fo b n
    rcases mem_cons.mp (I.rz b z) with z|z
    · exact f1 z
    · exact f2 z
  · obtain⟨j, hj, hv, hn⟩ := S9 h2
    obtain⟨y, hy, hf⟩ := f.ix j (mem_of_getElem? hj)
    have e : y=x := by
      have D : (nIn X.N own ix)[i]?=some x := h1
      unfold nIn at D
      rw[getElem?_append_right hn, getElem?_map, hj] at D
      have t : X.N.getD j ag8=x := afm D
      rw[getD_eq_getElem?_getD, hy] at t
      exact t
    subst e
    have k : (y, agg)∈scope.names := agk hf
    have vis : Vis X.env.scope y := by
      rcases f.fr _ k rfl with q|q
      · exact .inr (.inl q)
      · exact .inr (.inr q)
    obtain⟨m, _, hl⟩ := I.loc
    obtain⟨u, r, l⟩ := hl j y v hy hv vis
    refine⟨u, r, ?_⟩
    rcases l with⟨hk', _⟩|⟨_, c, hc, J⟩
    · have w : X.env.scope.names.lookup y=some .local := hk'
      rcases f.fr _ k rfl with q|q
      · have B : X.env.scope.names.lookup y=some .cell := q
        rw[w] at B;cases B
      · have B : X.env.scope.names.lookup y=some .free := q
        rw[w] at B;cases B
    · refine .inr ⟨wM (env := X.env) hf, c, ?_, g hc _ J⟩
      show(cellsFrom (C+1) scope.names (iV X.env scope.names [])).lookup y=some c
      rw[fG, lookup_append, S8 I f k hc]
      cases e : (cellsFrom (C+1) scope.names []).lookup y with
      |none => rfl
      |some d =>
        have q := f.clk _ (nO _ _ _ _ (agk e)) rfl
        have B : scope.names.lookup y=some .cell := q
        rw[hf] at B;cases B
  · rcases jy I f h with q|q
    · exact⟨_, (F.empty _ _ q).1⟩
    · obtain⟨v, z⟩ := I.cell x c q
      exact⟨v, g q v z⟩
  · rcases jy I f h with q|q
    · exact I.hok.fresh (afl E (ait (F.empty _ _ q).2))
    · exact I.mQ x c q
  · exact absurd (show p∈([] : List (Addr×Obj)) from hp) (by simp)
  · show(vf σ own.length ix).length=(nIn X.N own ix).length
    unfold vf nIn
    simp
end
def vg(X : Cx)(b : List Expr)(t : TT) : Prop :=
  ∀(a : List (Addr×Obj))(s : Shared)(σ : St)(H : Hp)(Q : Bool→Hp→Prop), Inv X a σ H s→t σ H Q →
    wpAny (model X.prog X.w) X.A (forIn b true λc r => if r=true then do let d ← isTrue c X.env (eval c X.env);pure (ag3 d) else pure (ag3 r)) (TP X a σ Q) X.xe s
def S_ : TT := λ_ H Q => Q true H
theorem dD : vg X [] S_ := λ_ _ _ H _ I h => wpAny_tests_nil ⟨H, I, h⟩
theorem lE(h : PT X c t) : vg X [c] t := λa s σ H Q I q => wpAny_tests_one (h a s σ H Q I q)
def Nt(n : Nat)(ix : List Nat)(g : TG)(s : TT)(te : TE)(σ : St)(Q : VK)(J : It)(q : Hp) : Prop :=
  ∃W : Nat→Nat→List V→St→Hp→Prop, (∃m, W 0 m [] (vf σ n ix) q)∧∀i m c k a, W i m c k a →
    (J.stop i a∧c.length≤sizeLine∧∀p, a p=none→Q (.ref p) (upd a p (.lst c))) ∨
    (J.go i a∧c.length<sizeLine∧∃N : List V→St→Hp→Prop, (∀d h o, N d h o→∃j, j<m∧W (i+1) j d h o) ∧
      ∀x l, J.yld i a x l→g x k l λe t => s e t λb f => if b=true then te e f λy r => N (c++[y]) e r else N c e f)
def Bk(n : Nat)(ix : List Nat)(a : TI)(g : TG)(b : TT)(te : TE) : TE := λσ H Q => a σ H (Nt n ix g b te σ Q)
def ac0(X : Cx)(a : List (Addr×Obj))(σ : St)(Q : VK)(acc : Value)(C : Addr)(s' : Shared) : Prop :=
  ∃p b, acc=.ref p∧Inv X a σ b s'∧(∃m, s'.heap.Ns C m)∧uY X a b C∧Q (.ref p) b
theorem thx{X : Cx}{α : Type}{t : Sem α}{Q b : α→Shared→Prop}(hx : X.xe=λ_ _ => False)(h : wpAny M A t Q X.xe s)(c : ∀a s, Q a s→b a s) : wpAny M A t b E s :=
  agc h c λe s' z => by grind
section
variable{X : Cx}{elt tg iter : Expr}{ifs : List Expr}{scope : Scope}{pos : Pos}{own : List Str}{ix : List Nat}{wi : TI}{g : TG}{tc : TT}{te : TE}
theorem Bm{RR : Value→Addr→Result→Shared→Prop}(hx : X.xe=λ_ _ => False)(hc : X.calm=true)(sc : rH X.env.scope X.N scope ix)(I : Inv X Z σ H s)(T : Turn X.prog X.w X.K tg J fp it tn)(st : tn 0 s.heap)(fo : ∀b∈fp, uY X Z H b)(hg : ∀C s H fp, PG (dM X scope own ix C s H fp) tg g)(hif : ∀C s H fp, vg (dM X scope own ix C s H fp) ifs tc)(he : ∀C s H fp, PE (dM X scope own ix C s H fp) elt te)(rd : Nt own.length ix g tc te σ Q J H)(hRR : ∀acc C s', ac0 X Z σ Q acc C s'→RR acc C (.ok .next) s') :
    wpAny (model X.prog X.w) X.A (newList []) (λacc s₃ => wpAny (model X.prog X.w) X.A (newFunctionEnv scope X.env.globals (iV X.env scope.names []) [] X.env.qual none .none (some X.env)) (λY s₄ =>
      codeAny (model X.prog X.w) X.A (.compStart (.ListComp elt [⟨tg, iter, ifs, 0⟩] scope pos) 0 (.ref it) acc { Y with scope := relabel scope X.env }) (RR acc Y.locals) s₄) E s₃) E s := by
  refine wpAny_newObj_type (pI (λh₁ B m co => ?_))
  dsimp only at B m co ⊢
  generalize l : s.heap.objs.size=D at B m co ⊢
  generalize hH2 : s.heap.push { cls := .type "list", dict := none, data := .seq ([] : List Value).toArray }=G at B m co ⊢
  generalize hC' : G.objs.size=C at B m co ⊢
  have hC : C=D+1 := by rw[← hC', ← hH2, size_push, l]
  have hDC : D≠C := by rw[hC];exact afy (ah6 _)
  have hle : s.heap.objs.size≤C := by rw[hC, l];exact ahn _
  have old : ∀b o, s.heap.get? b=some o→h₁.get? b=some o := λb o e => by
    exact m b o (hH2▸get?_push_of_some _ e)
  have oD : h₁.get? D=some { cls := .type "list", data := .seq ([] : List Value).toArray 0 } := by
    refine m D _ ?_
    rw[← hH2, ← l]
    exact get?_push_size _ rfl
  have Zq : ∀b∈fp, b<s.heap.objs.size := λb j => by
    obtain⟨o, e, _⟩ := T.obj 0 _ st b j
    exact lt_size e
  have nDf : ∀b∈fp, b≠D := λb j => by rw[← l];exact afy (Zq b j)
  have sD : s.heap.get? D=none := by
    cases e : s.heap.get? D with
    |none => rfl
    |some o => exact absurd (lt_size e) (by rw[l];exact af3 _)
  have hDn : H D=none := I.hok.fresh (by rw[l];exact afj _)
  have I0 : Inv (dM X scope own ix C s H fp) [] (vf σ own.length ix) H { s with heap := h₁ } := I.comp sc fo Zq hle B old co
  have st0 : tn 0 h₁ := T.keep 0 _ _ st λb _ o e => old b o e
  have hx' : (dM X scope own ix C s H fp).xe=λ_ _ => False := hx
  have U : D≠(dM X scope own ix C s H fp).env.locals := hDC
  have Dex : D∈(dM X scope own ix C s H fp).ex∨(dM X scope own ix C s H fp).s₀.heap.objs.size≤D := .inr (by show s.heap.objs.size≤D;rw[l];exact afj _)
  have Dfs : D∉(dM X scope own ix C s H fp).fs := I0.Py (a := D) |> λk => λz => by
    have z' : D∈frs X.stack := z
    rcases mem_cons.mp (I.rz D z') with q|q
    · exact absurd (q▸I.lt) (by rw[l];exact af3 _)
    · exact I.Py (by rw[l];exact afj _) q
  have Tc : ∀x c, (dM X scope own ix C s H fp).env.cells.lookup x=some c→c≠D := λx c e z => by
    rcases jy I sc e with q|q
    · have w1 := (co.empty _ _ q).2
      rw[z, hC] at w1
      lia
    · obtain⟨v, q⟩ := I.cell x c q
      exact absurd (afq q.lt (by rw[z, l];exact afj _)) (af3 _)
  have fo' : ∀{P : Hp}{pl : List (Addr×Obj)}, (∀b∈fp, P b=none)→(∀p∈pl, p.1=D)→∀b∈fp, uY (dM X scope own ix C s H fp) pl P b := λ{P pl} hn L b j => by
    obtain⟨f0, f1, f2, f3, f4, f5⟩ := fo b j
    refine⟨hn b j, (I0.ok.Zc b j).1, I0.ok.Iz b j, .inl j, (I0.ok.Zc b j).2, λp hp' z => ?_⟩
    rcases mem_append.mp hp' with q|q
    · exact absurd (show p∈([] : List (Addr×Obj)) from q) (by simp)
    · exact nDf b j (by rw[← z];exact L p q)
  obtain⟨W, ⟨m0, w0⟩, step⟩ := rd
  have R : codeAny (model X.prog X.w) X.A (.compLoop (.ListComp elt [⟨tg, iter, ifs, 0⟩] scope pos) 0 (.ref it) (.ref D) (dM X scope own ix C s H fp).env) (RR (.ref D) C) { s with heap := h₁ } := by
    refine Gz (λn s' => ∃i M σ' P f k, Inv (dM X scope own ix C s H fp) [] σ' P s'∧tn i s'.heap∧(∀b∈fp, P b=none)∧P D=none∧s'.heap.get? D=some { cls := .type "list", data := .seq (toArray f) k }∧Vals M f∧W i n M σ' P) ?_ m0
      ⟨0, [], _, H, [], 0, I0, st0, λb j => (fo b j).1, hDn, oD, .nil, w0⟩
    rintro n s1 ⟨i, M, σ1, H1, f, k, I1, tn1, fr1, D1, o1, O, w1⟩
    have J1 : Inv (dM X scope own ix C s H fp) [(D, { cls := .type "list", data := .seq (toArray f) k })] σ1 H1 s1 := I1.oO λp L => by
      have e : p=(D, { cls := .type "list", data := .seq (toArray f) k }) := by simpa using L
      subst e
      exact⟨o1, D1, U, Dfs, λv z => by cases z⟩
    have t : ∀p∈[((D, { cls := .type "list", data := .seq (toArray f) k }) : Addr×Obj)], p.1=D := λp L => by
      have e : p=(D, { cls := .type "list", data := .seq (toArray f) k }) := by simpa using L
      rw[e]
    rcases step i n M σ1 H1 w1 with⟨stop, hz, qn⟩|⟨go, hz, N, hN, stp⟩
    · refine dN (T.done (dM X scope own ix C s H fp) rfl rfl rfl hc i _ s1 σ1 H1 _ J1 (fo' fr1 t) tn1 stop) λr s2 ⟨hr, I2⟩ => ?_
      subst hr
      obtain⟨e2, _⟩ := I2.pin (D, { cls := .type "list", data := .seq (toArray f) k }) (mem_append_right _ (by simp))
      obtain⟨m2, aas, _⟩ := I2.loc
      refine hRR _ _ _ ⟨D, upd H1 D (.lst M), rfl, ?_, ⟨m2, aas⟩, ?_, qn D D1⟩
      · refine I.call' (ch := fp) I2.os (Un.track I2.base sD hDn) (I2.hok.track D1 ⟨hz, f, k, O, e2⟩) I2.bare λb j => ?_
        obtain⟨f0, f1, f2, f3, f4, f5⟩ := fo b j
        exact⟨f3, f1, f4, f5⟩
      · refine I.I9 hle ?_
        rw[aP hDC.symm]
        exact I2.free
    · refine dN (T.item (dM X scope own ix C s H fp) rfl rfl rfl hc i _ s1 σ1 H1 _ J1 (fo' fr1 t) tn1 go) λr s2 ⟨u, hr, h2⟩ => ?_
      subst hr
      refine dN h2 ?_
      rintro _ s3 ⟨x, H3, I3, rx, y3, tn3, fr3⟩
      have I3' := I3.pinned (fo' fr3 t) (T.obj _ _ tn3)
      refine thx hx' (hg C s H fp _ s3 σ1 H3 x u _ I3' rx (stp x H3 y3)) ?_
      rintro _ s4 ⟨σ4, H4, I4, q4⟩
      refine thx hx' (hif C s H fp _ s4 σ4 H4 _ I4 q4) ?_
      rintro b s5 ⟨H5, I5, q5⟩
      have S : ∀{σ7 : St}{H7 : Hp}{s7 : Shared}, Inv (dM X scope own ix C s H fp) ([(D, { cls := .type "list", data := .seq (toArray f) k })]++uZ fp s3.heap) σ7 H7 s7 →
          tn (i+1) s7.heap∧(∀b∈fp, H7 b=none)∧H7 D=none∧s7.heap.get? D=some { cls := .type "list", data := .seq (toArray f) k } := λ{σ7 H7 s7} I7 => by
        have Td := I7.pin (D, { cls := .type "list", data := .seq (toArray f) k }) (mem_append_right _ (mem_append_left _ (by simp)))
        refine⟨T.keep _ _ _ tn3 λb j o e => (I7.pin (b, o) (mem_append_right _ (mem_append_right _ (jk j e)))).1, λb j => ?_, Td.2.1, Td.1⟩
        obtain⟨o, e, d⟩ := T.obj _ _ tn3 b j
        exact(I7.pin (b, o) (mem_append_right _ (mem_append_right _ (jk j e)))).2.1
      cases b with
      |false =>
        obtain⟨m', hm, w'⟩ := hN _ _ _ (show N M σ4 H5 from q5)
        obtain⟨b1, b2, b3, b4⟩ := S I5
        exact⟨m', hm, i+1, M, σ4, H5, f, k, I5.oO (λp L => absurd L (by simp)), b1, b2, b3, b4, O, w'⟩
      |true =>
        rw[if_pos rfl]
        refine thx hx' (he C s H fp _ s5 σ4 H5 _ I5 q5) ?_
        rintro v s6 ⟨y, H6, I6, ry, q6⟩
        obtain⟨m', hm, w'⟩ := hN _ _ _ q6
        obtain⟨b1, b2, b3, b4⟩ := S I6
        have zl : f.length=M.length := O.length.symm
        refine agy ain ⟨_, b4, rfl⟩ aie (aib _ _) (aix D f.toArray k v (by rw[size_toArray];lia)) ⟨b4, ?_⟩
        have q := PySem.IsL.update b4 (λxs => xs.push v)
        have keep : ∀b o, b≠D→s6.heap.get? b=some o→(s6.heap.update D (ah7 λxs => xs.push v)).get? b=some o := λb o j e => (get?_update_other s6.heap _ (ahk j)).trans e
        refine⟨m', hm, i+1, M++[y], σ4, H6, f++[v], (if(f.toArray.push v).size==f.toArray.size then k else k+1), ?_, T.keep _ _ _ b1 (λb j o e => keep b o (nDf b j) e), b2, b3, ?_, O.append (.cons ry .nil), w'⟩
        · exact(I6.oO (Nf := []) λp L => absurd L (by simp)).turned (t' := s6.toks) keep b3 U Dex Tc λp L => absurd (show p∈([] : List (Addr×Obj)) from L) (by simp)
        · rw[show(f++[v]).toArray=f.toArray.push v by simp]
          exact q
  exact codeAny_compStart_list R (T.self X.A 0 _ _ _ st0 R)
theorem fB(R : X.xe=λ_ _ => False)(w : X.calm=true)(L : yp X.env.scope X.N scope ix=true)(F : PI X tg iter wi)(P : ∀C s H fp, PG (dM X scope own ix C s H fp) tg g)(i : ∀C s H fp, vg (dM X scope own ix C s H fp) ifs tc)(O : ∀C s H fp, PE (dM X scope own ix C s H fp) elt te)(u : ∀x, foldedSetIterable iter X.env x=pure x := by intro _;rfl) : PE X (.ListComp elt [⟨tg, iter, ifs, 0⟩] scope pos) (Bk own.length ix wi g tc te) := by
  intro a s σ H Q I h
  have c := ud L
  refine ahe rfl u (lD (nP I c)) c.kind c.nm (dN (F a s σ H _ I h) λv s1 E => dN E λitv s2 l => ?_)
  obtain⟨it, fp, tn, J, H2, e, B, T, f, k, M⟩ := l
  subst e
  refine Bm R w c B T f k P i O M ?_
  rintro acc C s' ⟨p, y, rfl, r, ⟨m, j⟩, t, q⟩
  obtain⟨D, G, k, n, S, z⟩ := t
  exact⟨m, j, λh' d => ⟨.ref p, y, r.turned (λb o A e => (d.2 b A).trans e) D G n S z, rfl, q⟩⟩
theorem jh{f : Pos}(hN : X.N.Nodup)(z : X.N[i]?=some x)(j : X.env.scope.names.lookup x=some .local)(Z : X.xe=λ_ _ => False)(hc : X.calm=true)(Y : yp X.env.scope X.N scope ix=true)(hi : PI X tg iter wi)(P : ∀C s H fp, PG (dM X scope own ix C s H fp) tg g)(t : ∀C s H fp, vg (dM X scope own ix C s H fp) ifs tc)(he : ∀C s H fp, PE (dM X scope own ix C s H fp) elt te)(u : swapsWith (.ListComp elt [⟨tg, iter, ifs, 0⟩] scope pos) (some (.Name x c)) f.line X.env=pure true := by rfl)(hs : ∀x, foldedSetIterable iter X.env x=pure x := by intro _;rfl) : PS X (.Assign [.Name x c] (.ListComp elt [⟨tg, iter, ifs, 0⟩] scope pos) f) (yc (Bk own.length ix wi g tc te) (kO i)) := by
  intro d s σ H D I h
  have n := ud Y
  rw[exec_Assign_Name_used _ _ _ _ u]
  refine afk (aia (afk ?_))
  refine afk (agc (ahe (use := some (assign (.Name x c) X.env)) (Q := λ_ k => SP X d D .next k) rfl hs (lD (nP I n)) n.kind n.nm
    (dN (hi d s σ H _ I h) λv s1 h1 => dN h1 λitv s2 W => ?_)) (λ_ k hq => afw (afw hq)) λ_ _ e => e)
  obtain⟨it, fp, tn, J, H2, e, O, T, E, M, rd⟩ := W
  subst e
  refine Bm (RR := λl C => compPost (model X.prog X.w) X.A X.xe (some (assign (.Name x c) X.env)) (λ_ k => SP X d D .next k) l C) Z hc n O T E M P t he rd ?_
  rintro l C k ⟨p, H', rfl, R, ⟨m, y⟩, fC, q⟩
  obtain⟨f0, U, M, f3, S, f5⟩ := fC
  show wpAny _ X.A (assign (.Name x c) X.env (.ref p)) _ _ _
  refine aiy (xZ (v := .ref p) R hN z (.inl j) rfl (?_) (.inr j))
  rintro L r ⟨a, B, ha⟩
  have G : C≠a := by
    grind
  exact⟨m, y.sameBut B G, λh' F => ⟨_, H', r.turned (t' := L.toks) (λb o hb e => (F.2 b hb).trans e) f0 U f3 S f5, q⟩⟩
end
section
variable{n : Nat}{ix : List Nat}{g : TG}{tc : TT}{te : TE}{σ : St}{Q : VK}{H : Hp}
theorem Qm{K : afh}{a : Addr}{xs : List V}(c : Nat→List V→St→Hp→Prop)(h0 : c 0 [] (vf σ n ix) H)(t : ∀i ys σ H, i≤xs.length→c i ys σ H→gj K H a xs∧ys.length≤i)(hz : xs.length<sizeLine)(hs : ∀i x ys σ H, xs[i]?=some x→c i ys σ H→g x σ H λf r => tc f r λb h => if b=true then te f h λy o => c (i+1) (ys++[y]) f o else c (i+1) ys f h)(j : ∀ys σ H, c xs.length ys σ H→∀p, H p=none→Q (.ref p) (upd H p (.lst ys))) : Nt n ix g tc te σ Q (Itl K a) H := by
  refine⟨λi m ys σ H => m=xs.length-i∧i≤xs.length∧c i ys σ H, ⟨xs.length, by simp, afz _, h0⟩, ?_⟩
  rintro i m ys σ H ⟨rfl, s, p⟩
  obtain⟨q, hy⟩ := t i ys σ H s p
  by_cases d : i<xs.length
  · refine .inr ⟨⟨xs, xs[i], q, by simp[d]⟩, by lia, c (i+1), λys' σ' k l => ⟨xs.length-(i+1), by lia, rfl, d, l⟩, λx k y => ?_⟩
    obtain⟨e, y⟩ := y
    grind
  · have e : i=xs.length := by lia
    subst e
    exact .inl ⟨⟨xs, q, afj _⟩, by lia, j ys σ H p⟩
end
def Ite(K : afh)(a : Addr) : It :=
  ⟨λi H => ∃b x, gj K H a b∧b[i]?=some x, λi H v c => ∃t x, v=.ref t∧H t=none∧c=upd H t (.tup [.int i, x])∧∀b, gj K H a b→b[i]?=some x, λi H => ∃b, gj K H a b∧b.length≤i⟩
theorem Qn{P : Program}{w : World}{K : afh}{M : List Expr}{k : Nat}{tp : Pos}(a e f : Addr)(G : e≠f) :
    Turn P w K (.Tuple M k tp) (Ite K a) [e, f] e (λi h => (∃g, IsEnum h e f ((i : Nat) : Int) g)∧h.IsListIter f a i) where
  mem := by simp
  obj := λi h st b r => by
    obtain⟨⟨g, t⟩, o, ho, c, d⟩ := st
    have m : b=e∨b=f := by simpa using r
    rcases m with rfl|rfl
    · exact⟨_, t, λv z => by
        have z' : Data.fields _=Data.cell v := z
        cases z'⟩
    · exact⟨o, ho, λv z => by rw[d] at z;cases z⟩
  keep := λi h h' st k => ⟨let⟨g, t⟩ := st.1;⟨g, k e (by simp) _ t⟩, st.2.at λo q => k f (by simp) o q⟩
  item := by
    intro X Z Y hK hc i N s σ H E I S st hg
    subst Z Y hK
    obtain⟨xs, x, T, j⟩ := hg
    obtain⟨its, rv, p, hz⟩ := I.list T
    obtain⟨u, hu, ru⟩ := rv.get j
    obtain⟨⟨g, t⟩, y⟩ := st
    obtain⟨f0, f1, f2, f3, f4, f5⟩ := S e (by simp)
    obtain⟨Q, g1, g2, g3, g4, g5⟩ := S f (by simp)
    refine wpAny_pyNext_enum_item t y p.isList (x := u) (by simpa using hu) G λh₁ heo F ht₁ hz₁ hk₁ => ?_
    refine⟨_, rfl, wpAny_letOwnedTupleGo_enum (s := { s with heap := h₁, toks := s.toks+1 }) heo λA he₂ l => ?_⟩
    replace l : SameBut e h₁ A := l
    have J : e<s.heap.objs.size := lt_size t
    have D : H s.heap.objs.size=none := I.hok.fresh (afj _)
    have ht₂ : A.get? s.heap.objs.size=some { cls := .type "tuple", data := .seq #[.int i s.toks, u] } := (l.2 _ (Nat.ne_of_gt J)).trans ht₁
    have O : ∀b o, b≠e→b≠f→s.heap.get? b=some o→A.get? b=some o := λb o h1 h2 q => (l.2 b h1).trans (hk₁ b o h1 h2 q)
    have lt : ∀b o, s.heap.get? b=some o→b≠s.heap.objs.size := λb o q => afy (lt_size q)
    have B : ∀b o, s.heap.get? b=some o→b∉[e, f]→∃R, A.get? b=some R := λb o q j => ⟨o, O b o (λz => j (by simp[z])) (λz => j (by simp[z])) q⟩
    have U : Un (frs X.stack) [e, f] H (upd H s.heap.objs.size (.tup [.int i, x])) s.heap A :=
      ⟨λb o q _ _ j => O b o (λz => j (by simp[z])) (λz => j (by simp[z])) q, λb o q _ _ j => ⟨o.slots, O b o (λz => j (by simp[z])) (λz => j (by simp[z])) q⟩,
        λb o q n _ => by rw[aP (lt b o q)];exact n, B, λb ys q => by rw[aP (aR q D)];exact q, λb o ys q => by rw[aP (aR q D)];exact q, λb ps q => ⟨#[], by rw[aP (aR q D), q];simp⟩⟩
    have ok : qj X.prog X.w (upd H s.heap.objs.size (.tup [.int i, x])) A := λb o q => by
      by_cases r : b=s.heap.objs.size
      · subst r
        rw[aY] at q
        cases q
        exact⟨by show 2≤sizeLine;decide, [.int i s.toks, u], .cons ⟨_, rfl⟩ (.cons ru .nil), ⟨_, ht₂, rfl, _, rfl⟩⟩
      · rw[aP r] at q
        refine(I.hok b o q).stay (λc v C z => ?_) (λc z => by rw[aP (aR z D)];exact z) λc ys z => by rw[aP (aR z D)];exact z
        have hcs : ∃R, H c=some R := by
          rcases C with rfl|C
          · exact⟨o, q⟩
          · exact⟨_, C⟩
        obtain⟨R, L⟩ := hcs
        exact O c v (aR L f0) (aR L Q) z
    have I2 := I.call (h' := A) (g' := s.gens) (t' := s.toks+1) (d' := s.drawn) (ch := [e, f]) U ok I.bare λb r => by
      have m : b=e∨b=f := by simpa using r
      rcases m with rfl|rfl
      · exact⟨f3, f1, f4, f5⟩
      · exact⟨g3, g1, g4, g5⟩
    refine⟨.ref s.heap.objs.size, _, I2, rfl, ⟨s.heap.objs.size, x, rfl, D, rfl, λys hy => by rw[I.IW hy T];exact j⟩, ⟨⟨_, by rw[show((i+1 : Nat) : Int)=(i : Int)+1 by push_cast;rfl];exact he₂⟩, F.extBut l.extBut G.symm⟩, λb r => ?_⟩
    have m : b=e∨b=f := by simpa using r
    obtain⟨o2, ho2, _⟩ := y
    rcases m with rfl|rfl
    · rw[aP (afy J)];exact f0
    · rw[aP (afy (lt_size ho2))];exact Q
  done := by
    intro X Z Y hK hc i N s σ H E I S st hg
    subst Z Y hK
    obtain⟨xs, T, j⟩ := hg
    obtain⟨its, rv, p, hz⟩ := I.list T
    obtain⟨⟨g, t⟩, y⟩ := st
    obtain⟨Q, g1, g2, g3, g4, g5⟩ := S f (by simp)
    have hl := rv.length
    exact wpAny_pyNext_enum_end (I.ok.hd hc) t y p.isList (by simp;lia) λh' eb => ⟨rfl, I.turned (t' := s.toks) (λb o r e => eb b o r e) Q g1 g3 g4 g5⟩
  self := λ_ _ _ _ _ st h => let⟨⟨_, t⟩, _⟩ := st;wpAny_pyIter_enum t h
def Te(K : afh)(d : TA) : TI := λσ H R => d σ H λc b => ∃a, c=[.ref a]∧(∃e, gj K b a e)∧R (Ite K a) b
theorem zP : bootBuiltins "enumerate" = some (.type "enumerate") := by decide +kernel
theorem Nu(B : Gl X "enumerate")(t : X.mg "enumerate" = none)(o : PA X [a] C)(n : starEach [a] X.env=[(false, eval a X.env)] := by rfl) :
    PI X (.Tuple elts k tp) (.Call (.Name "enumerate" p) [a] [] pos) (Te X.K C) := by
  intro c s σ H R I h
  refine Call_ (Az I B t zP (ahl (dN (o pos c s σ H _ I h) ?_) n rfl))
  rintro us d ⟨vs, j, f, w, m⟩
  obtain⟨l, e, ⟨xs, v⟩, q⟩ := m
  subst e
  cases w with
  |cons r u =>
    cases u
    cases r
    obtain⟨its, rv, p, hz⟩ := f.list v
    refine call_enumerate_list p.isList λy i A hsz z => wpAny_pyIter_enum i ?_
    have x : Inv X c σ j { d with heap := y, toks := d.toks } := f.kept z
    refine⟨d.heap.objs.size+1, [d.heap.objs.size+1, d.heap.objs.size], _, _, j, rfl, x, Qn l _ _ (Nat.succ_ne_self _), ⟨⟨.none, i⟩, A⟩, λb hb => ?_, q⟩
    have g : b=d.heap.objs.size+1∨b=d.heap.objs.size := by grind
    rcases g with rfl|rfl
    · exact f.I9 (ahn _) (f.hok.fresh (ahn _))
    · exact f.I9 (afj _) (f.hok.fresh (afj _))
theorem Tf{K : afh}{a : Addr}{xs : List V}{g : TG}{j : TS}{D : Ends}{σ : St}{H : Hp}(b : Nat→St→Hp→Prop)(h0 : b 0 σ H)(n : ∀i σ H, i≤xs.length→b i σ H→gj K H a xs)(hs : ∀i x t σ H, xs[i]?=some x→H t=none→b i σ H→g (.ref t) σ (upd H t (.tup [.int i, x])) λd c => j { D with nx := b (i+1), ct := b (i+1), bk := D.nx } d c)(k : ∀σ H, b xs.length σ H→D.nx σ H) :
    ∃W : Nat→Nat→St→Hp→Prop, (∃m, W 0 m σ H)∧∀i m σ H, W i m σ H →
      ((Ite K a).stop i H∧D.nx σ H)∨((Ite K a).go i H∧∃N : St→Hp→Prop, (∀h H', N h H'→∃m', m'<m∧W (i+1) m' h H')∧∀x H', (Ite K a).yld i H x H'→g x σ H' λd c => j { D with nx := N, ct := N, bk := D.nx } d c) := by
  refine⟨λi m σ H => m=xs.length-i∧i≤xs.length∧b i σ H, ⟨xs.length, by simp, afz _, h0⟩, ?_⟩
  rintro i m σ H ⟨rfl, l, p⟩
  have q := n i σ H l p
  by_cases f : i<xs.length
  · refine .inr ⟨⟨xs, xs[i], q, by grind⟩, b (i+1), λh H' o => ⟨xs.length-(i+1), by lia, rfl, f, o⟩, λx H' y => ?_⟩
    obtain⟨t, x', rfl, ht, rfl, y⟩ := y
    grind
  · have e : i=xs.length := by lia
    subst e
    exact .inl ⟨⟨xs, q, afj _⟩, k σ H p⟩
def tFs(a : Str)(te : TE) : TE := λσ H Q => te σ H λx b => (∃i, x=.int i∧i.natAbs.log2<1920∧Q (.str (a++agr (toString i))) b)∨∃z, x=.str z∧z.length≤1000∧Q (.str (a++z)) b
theorem lU(x y : Str) : (x++y).length=x.length+y.length := by rw[← strLen_append]
theorem Ep{a : Str}(y : PE X e te)(w : a.length≤1000) : PE X (.JoinedStr [.Constant (.str a) j p1, .FormattedValue e (-1) none p2] pos) (tFs a te) := by
  intro d s σ H Q I h
  refine JoinedStr_many (ah5 (aik ?_))
  have m : (ag8++a)=a := by
    cases a with
    |mk c => show Str.mk _=_;simp[ag8]
  refine⟨by rw[m];exact afl w (by decide), ?_⟩
  rw[m]
  have v := I.tok (s.toks+1)
  refine ah5 (FormattedValue_plain (dN (y d _ σ H _ v h) ?_))
  rintro u n ⟨x, g, k, l, p⟩
  rcases p with⟨i, rfl, f, q⟩|⟨z, rfl, o, q⟩
  · obtain⟨t, rfl⟩ := l
    refine formatField_int_small f ?_
    have b : (a++agr (toString i)).length≤sizeLine := by
      have := int_text_len_1921 f
      rw[lU]
      exact afl (show a.length+(agr (toString i)).length≤4000 by lia) (by decide)
    refine⟨b, ajg ?_ b⟩
    exact⟨.str (a++agr (toString i)), g, (k.tok (n.toks+1+1)).tok _, ⟨_, rfl⟩, q⟩
  · obtain⟨t, rfl⟩ := l
    have b : (a++z).length≤sizeLine := by
      rw[lU]
      exact afl (show a.length+z.length≤4000 by lia) (by decide)
    refine ajb (λt' r => ?_) (afl o (by decide))
    refine⟨b, ajg ?_ b⟩
    exact⟨.str (a++z), g, (k.tok r).tok _, ⟨_, rfl⟩, q⟩
def Ti(K : afh)(c : Value) : List V→Hp→VK→Prop := λd H Q => ∃x y t b, d=[x, y]∧RelV y c∧u_ K H x t∧afo K t c=some b∧Q (.bl b) H
theorem Tj(i : ∀y u, RelV y c→RelV y u→u=c) : mR X (.builtin "isinstance") (Ti X.K c) := by
  intro pins s σ H xs us Q I r h
  obtain⟨x, y, t, b, rfl, a, d, e, q⟩ := h
  obtain⟨u, v, rfl, g, f⟩ := r.two
  obtain rfl := i y v a f
  exact P_ I g d e λj => ⟨.bl b, H, I.tok j, rfl, q⟩
theorem vh : ∀y u, RelV y (.type n)→RelV y u→u=.type n := λy u a b => by
  cases y<;>first
    | (cases a;done)
    | (obtain⟨_, e⟩ := a;grind)
    | (cases a;cases b;rfl)
theorem lF : ∀y u, RelV y (.ref a)→RelV y u→u=.ref a := λy u b c => by
  cases y<;>first
    | (cases b;done)
    | (obtain⟨_, e⟩ := b;grind)
    | (cases b;cases c;rfl)
theorem Tn{σ : St}{A B : St→Hp→Prop}(h : A (σ.set i (some x)) H) : kO i x σ H (λa d => S_ a d λb c => if b=true then A a c else B a c) := by
  show if true=true then A (σ.set i (some x)) H else B (σ.set i (some x)) H
  grind
theorem GC{X : Cx}{K : afh}(h : X.K=K){es : List Expr}{k : Nat}{t : TGs}{n : Nat}{pos : Pos}(d : X.calm=true)(c : Rq X es t)(b : (assignEach es X.env).length=n := by rfl)(a : (assignEach es X.env).findIdx? (·.1)=none := by rfl) : PG X (.Tuple es k pos) (Xc K n t) := by
  subst h
  exact nH d c b a
end L2
namespace Ts
open PySem L2
theorem dI(h : H p=none)(o : HO) : Same H (upd H p o) := λb u q => by rw[aP (aR q h)];exact q
theorem _root_.L2.Same.put(s : Same H H')(h : H p=none)(o : HO) : Same H (upd H' p o) := λb u q => by rw[aP (aR q h)];exact s b u q
def A2{α β : Type}(R : α→β→Prop) : List α→List β→Prop
  |[], [] => True
  |x::b, y::a => R x y∧A2 R b a
  |_, _ => False
section
variable{α β : Type}{R R' : α→β→Prop}
theorem A2.len : ∀{xs : List α}{ys : List β}, A2 R xs ys→xs.length=ys.length
  |[], [], _ => rfl
  |_::_, _::_, h => congrArg (· + 1) (A2.len h.2)
  |[], _::_, h => h.elim
  |_::_, [], h => h.elim
theorem A2.imp(f : ∀x y, R x y→R' x y) : ∀{xs : List α}{ys : List β}, A2 R xs ys→A2 R' xs ys
  |[], [], _ => trivial
  |_::_, _::_, h => ⟨f _ _ h.1, A2.imp f h.2⟩
  |[], _::_, h => h.elim
  |_::_, [], h => h.elim
theorem A2.app : ∀{xs : List α}{ys : List β}{b : List α}{a : List β}, A2 R xs ys→A2 R b a→A2 R (xs++b) (ys++a)
  |[], [], _, _, _, h => h
  |_::_, _::_, _, _, h, c => ⟨h.1, A2.app h.2 c⟩
  |[], _::_, _, _, h, _ => h.elim
  |_::_, [], _, _, h, _ => h.elim
theorem A2.snoc(h : A2 R xs ys)(r : R x y) : A2 R (xs++[x]) (ys++[y]) := h.app ⟨r, trivial⟩
theorem A2.at1 : ∀{xs : List α}{ys : List β}{i : Nat}{x : α}, A2 R xs ys→xs[i]?=some x→∃y, ys[i]?=some y∧R x y
  |[], _, _, _, _, e => by simp at e
  |_::_, _::_, 0, _, h, e => by simp at e;subst e;exact⟨_, rfl, h.1⟩
  |_::_, _::_, i+1, _, h, e => by
    obtain⟨y, h1, h2⟩ := A2.at1 h.2 (by simpa using e)
    grind
  |_::_, [], _, _, h, _ => h.elim
theorem A2.at2 : ∀{xs : List α}{ys : List β}{i : Nat}{y : β}, A2 R xs ys→ys[i]?=some y→∃x, xs[i]?=some x∧R x y
  |_, [], _, _, _, e => by simp at e
  |_::_, _::_, 0, _, h, e => by simp at e;subst e;exact⟨_, rfl, h.1⟩
  |_::_, _::_, i+1, _, h, e => by
    obtain⟨y, h1, h2⟩ := A2.at2 h.2 (by simpa using e)
    grind
  |[], _::_, _, _, h, _ => h.elim
theorem A2.set(r : R x y) : ∀{xs : List α}{ys : List β}(i : Nat), A2 R xs ys→A2 R (xs.set i x) (ys.set i y)
  |[], [], _, _ => trivial
  |_::_, _::_, 0, h => ⟨r, h.2⟩
  |_::_, _::_, i+1, h => ⟨h.1, A2.set r i h.2⟩
  |[], _::_, _, h => h.elim
  |_::_, [], _, h => h.elim
theorem A2.rev : ∀{xs : List α}{ys : List β}, A2 R xs ys→A2 R xs.reverse ys.reverse
  |[], [], _ => trivial
  |_::_, _::_, h => by
    rw[reverse_cons, reverse_cons]
    exact(A2.rev h.2).snoc h.1
  |[], _::_, h => h.elim
  |_::_, [], h => h.elim
theorem A2.tk : ∀{xs : List α}{ys : List β}(i : Nat), A2 R xs ys→A2 R (xs.take i) (ys.take i)
  |[], [], _, _ => by simp[A2]
  |_::_, _::_, 0, h => trivial
  |_::_, _::_, i+1, h => ⟨h.1, A2.tk i h.2⟩
  |[], _::_, _, h => h.elim
  |_::_, [], _, h => h.elim
theorem A2.dr : ∀{xs : List α}{ys : List β}(i : Nat), A2 R xs ys→A2 R (xs.drop i) (ys.drop i)
  |[], [], _, _ => by simp[A2]
  |_::_, _::_, 0, h => h
  |_::_, _::_, i+1, h => A2.dr i h.2
  |[], _::_, _, h => h.elim
  |_::_, [], _, h => h.elim
theorem A2.of_map{f : β→α}(h : ∀y, R (f y) y) : ∀ys : List β, A2 R (ys.map f) ys
  |[] => trivial
  |y::ys => ⟨h y, A2.of_map h ys⟩
end
theorem A2.KJ{α β : Type}{f : β→α} : ∀{xs : List α}{ys : List β}, A2 (λx y => x=f y) xs ys→xs=ys.map f
  |[], [], _ => rfl
  |_::_, _::_, h => by rw[map_cons, h.1, A2.KJ h.2]
  |[], _::_, h => h.elim
  |_::_, [], h => h.elim
class Rp (K : afh) (α : Type) where
  rp : Hp→V→α→Prop
  mono : ∀{F F' : Hp}{v : V}{a : α}, Same F F'→rp F v a→rp F' v a
abbrev rp(K : afh){α : Type}[Rp K α] : Hp→V→α→Prop := Rp.rp (K := K)
class Nn (K : afh) (α : Type) [Rp K α] : Prop where
  nn : ∀{F : Hp}{v : V}{a : α}, rp K F v a→v≠.non
class Sc (K : afh) (α : Type) [Rp K α] where
  val : α→V
  is : ∀{F : Hp}{v : V}{a : α}, rp K F v a↔v=val a
  inj : ∀{a b : α}, val a=val b→a=b
section
variable{K : afh}
instance : Rp K Int := ⟨λ_ v n => v=.int n, λ_ h => h⟩
instance : Rp K Bool := ⟨λ_ v n => v=.bl n, λ_ h => h⟩
instance : Rp K Str := ⟨λ_ v n => v=.str n, λ_ h => h⟩
instance : Rp K Unit := ⟨λ_ v _ => v=.non, λ_ h => h⟩
instance{α : Type}[Rp K α] : Rp K (Option α) := ⟨λF v a => match a with
  |none => v=.non
  |some x => v≠.non∧rp K F v x, λ{F F' v a} s h => match a, h with
  |none, h => h
  |some x, h => ⟨h.1, Rp.mono s h.2⟩⟩
instance{α : Type}[Rp K α] : Rp K (List α) := ⟨λF v xs => ∃p vs, v=.ref p∧F p=some (.lst vs)∧A2 (rp K F) vs xs, λs ⟨p, vs, h1, h2, h3⟩ => ⟨p, vs, h1, s _ _ h2, h3.imp λ_ _ => Rp.mono s⟩⟩
instance{α β : Type}[Rp K α][Rp K β] : Rp K (α×β) := ⟨λF v x => ∃p a b, v=.ref p∧F p=some (.tup [a, b])∧rp K F a x.1∧rp K F b x.2, λs ⟨p, a, b, h1, h2, h3, h4⟩ => ⟨p, a, b, h1, s _ _ h2, Rp.mono s h3, Rp.mono s h4⟩⟩
structure Scr where
  ns : List Int
instance : Rp K Scr := ⟨λF v x => ∃p, v=.ref p∧gj K F p (x.ns.map V.int), λs ⟨p, h1, h2⟩ => ⟨p, h1, s.seq h2⟩⟩
instance{α : Type}[Rp K α] : Nn K (List α) := ⟨λ⟨_, _, h, _⟩ => by rw[h];intro e;cases e⟩
instance : Sc K Int := ⟨V.int, ajj, λh => by cases h;rfl⟩
instance : Sc K Bool := ⟨V.bl, ajj, λh => by cases h;rfl⟩
instance : Sc K Str := ⟨V.str, ajj, λh => by cases h;rfl⟩
theorem Tp{α : Type}[Rp K α][Sc K α]{a : α}(h : rp K F v a) : rp K F' v a := Sc.is.mpr (Sc.is.mp h)
inductive Md|nw|fz|hp
def dif(H a : Hp) : Hp := λb => match a b with
  |none => H b
  |some _ => none
def ext(c a H : Hp) : Hp := λb => match a b with
  |none => H b
  |some _ => c b
structure Bs where
  Fa : Hp
  H0 : Hp
abbrev Own := List (Addr×HO)
class Ob (K : afh) (α : Type) where
  β : Type
  ac1 : Rp K β
  ro : Hp→V→α→Own→Prop
  mono : ∀{F F' : Hp}{v : V}{a : α}{O : Own}, Same F F'→ro F v a O→ro F' v a O
  val : α→β
  Iw : ∀{F : Hp}{v : V}{a : α}{O : Own}, ro F v a O→(∀x∈O, F x.1=some x.2)→Rp.rp (K := K) F v (val a)
def reg(B : Bs)(F H : Hp) : Md→Hp
  |.nw => dif F B.H0
  |.fz => F
  |.hp => H
theorem eU : Same (dif H H0) H := λb o h => by
  unfold dif at h
  grind
theorem iR(h : a b=none) : dif H a b=H b := by
  unfold dif
  rw[h]
theorem fK(s : Same H H') : Same (dif H a) (dif H' a) := λb o h => by
  unfold dif at h ⊢
  cases e : a b with
  |none => rw[e] at h;exact s b o h
  |some u => grind
structure Ok(B : Bs)(F : Hp)(O : Own)(H : Hp) : Prop where
  fh : Same F H
  h0 : Same B.H0 H
  fa : ∀b o, F b=some o→B.Fa b=some o∨B.H0 b=none
  fo : ∀x∈O, F x.1=none∧B.H0 x.1=none∧H x.1=some x.2
  nd : (O.map (·.1)).Nodup
structure dU(B : Bs)(F H : Hp)(O : Own)(F' H' : Hp) : Prop where
  ff : Same F F'
  hh : Same H H'
  ok : Ok B F' O H'
  nw : ∀b, F b=none→H b≠none→F' b=none
section
variable{B : Bs}{F H F' H' F2 H2 : Hp}{O : Own}
theorem dU.refl(k : Ok B F O H) : dU B F H O F H := ⟨.refl _, .refl _, k, λ_ h _ => h⟩
theorem dU.trans(a : dU B F H O F' H')(b : dU B F' H' O F2 H2) : dU B F H O F2 H2 :=
  ⟨a.ff.trans b.ff, a.hh.trans b.hh, b.ok, λq d c => b.nw q (a.nw q d c) λe => c (a.hh.free e)⟩
theorem dU.new(k : Ok B F O H)(h : H p=none)(o : HO) : dU B F H O (upd F p o) (upd H p o) := by
  have j := k.fh.free h
  refine⟨dI j o, dI h o, ⟨λb u e => ?_, k.h0.put (k.h0.free h) o, λb u e => ?_, λx f => ?_, k.nd⟩, λb d i => ?_⟩
  · by_cases q : b=p
    · subst q;rw[aY] at e ⊢;exact e
    · rw[aP q] at e ⊢;exact k.fh b u e
  · by_cases q : b=p
    · subst q;exact .inr (k.h0.free h)
    · rw[aP q] at e;exact k.fa b u e
  · obtain⟨c, g, a⟩ := k.fo x f
    have q := aR a h
    exact⟨by rw[aP q];exact c, g, by rw[aP q];exact a⟩
  · rw[aP λe => i (by grind)];exact d
theorem dJ(g : dU B F H O F' H')(md : Md) : Same (reg B F H md) (reg B F' H' md) := match md with
  |.nw => fK g.ff
  |.fz => g.ff
  |.hp => g.hh
end
inductive Slot(K : afh) : Type 1
  |un
  |fz (n : Bool) {α : Type} [Rp K α] (a : α)
  |hs {α : Type} [Rp K α] (a : α)
  |nu {α : Type} [Rp K α] (a : α)
  |ow (n : Bool) {α : Type} [Rp K α] (xs : List α)
  |od {α : Type} [Rp K α] (kvs : List (Key×α))
  |ob (n : Bool) {α : Type} [Ob K α] (a : α)
abbrev qg : Bool→Md
  |true => .nw
  |false => .fz
def lo(F : Hp)(O : Own)(H : Hp) : Hp := λb => if(F b).isSome||(O.any λx => x.1==b) then none else H b
inductive aJ(B : Bs)(F L H : Hp) : List (Slot K)→St→Own→Prop
  |nil : aJ B F L H [] [] []
  |un {sl : List (Slot K)} {σ : St} {O : Own} {x : Option V} : aJ B F L H sl σ O→aJ B F L H (.un::sl) (x::σ) O
  |fz {n : Bool} {α : Type} [Rp K α] {a : α} {sl : List (Slot K)} {σ : St} {O : Own} {v : V} : rp K (reg B F H (qg n)) v a→aJ B F L H sl σ O→aJ B F L H (.fz n a::sl) (some v::σ) O
  |hs {α : Type} [Rp K α] {a : α} {sl : List (Slot K)} {σ : St} {O : Own} {v : V} : rp K H v a→aJ B F L H sl σ O→aJ B F L H (.hs a::sl) (some v::σ) O
  |nu {α : Type} [Rp K α] {a : α} {sl : List (Slot K)} {σ : St} {O : Own} {v : V} : rp K (dif L B.H0) v a→aJ B F L H sl σ O→aJ B F L H (.nu a::sl) (some v::σ) O
  |ow {n : Bool} {α : Type} [Rp K α] {xs : List α} {sl : List (Slot K)} {σ : St} {O : Own} {p : Addr} {vs : List V} : A2 (rp K (reg B F H (qg n))) vs xs→aJ B F L H sl σ O→aJ B F L H (.ow n xs::sl) (some (.ref p)::σ) ((p, .lst vs)::O)
  |od {α : Type} [Rp K α] {kvs : List (Key×α)} {sl : List (Slot K)} {σ : St} {O : Own} {p : Addr} {ks : List (Key×V)} : A2 (λ(x : Key×V) (y : Key×α) => x.1=y.1∧rp K F x.2 y.2) ks kvs→aJ B F L H sl σ O→aJ B F L H (.od kvs::sl) (some (.ref p)::σ) ((p, .dK ks)::O)
  |ob {n : Bool} {α : Type} [Ob K α] {a : α} {sl : List (Slot K)} {σ : St} {O Oc : Own} {v : V} : Ob.ro K (reg B F H (qg n)) v a Oc→aJ B F L H sl σ O→aJ B F L H (.ob n a::sl) (some v::σ) (Oc++O)
def At(B : Bs)(a : List (Slot K))(F : Hp)(O : Own)(H : Hp)(σ : St) : Prop := Ok B F O H∧aJ B F (lo F O H) H a σ O
abbrev vm : Slot K→Bool
  |@Slot.ow _ _ _ _ _ => true
  |@Slot.od _ _ _ _ => true
  |@Slot.ob _ _ _ _ _ => true
  |_ => false
abbrev jm : Slot K→Bool
  |@Slot.hs _ _ _ _ => true
  |_ => false
section
variable{B : Bs}{F H F' H' L L' : Hp}{O O' : Own}{sl : List (Slot K)}{σ : St}
theorem d7(n : Bool)(a : Same F F') : Same (reg B F H (qg n)) (reg B F' H' (qg n)) := match n with
  |true => fK a
  |false => a
theorem aJ.mono(a : Same F F')(c : Same L L')(b : Same H H')(h : aJ B F L H sl σ O) : aJ B F' L' H' sl σ O := by
  induction h with
  |nil => exact .nil
  |un _ ih => exact .un ih
  |fz r _ ih => exact .fz (Rp.mono (d7 _ a) r) ih
  |hs r _ ih => exact .hs (Rp.mono b r) ih
  |nu r _ ih => exact .nu (Rp.mono (fK c) r) ih
  |ow r _ ih => exact .ow (r.imp λ_ _ => Rp.mono (d7 _ a)) ih
  |od r _ ih => exact .od (r.imp λ_ _ z => ⟨z.1, Rp.mono a z.2⟩) ih
  |ob r _ ih => exact .ob (Ob.mono (d7 _ a) r) ih
theorem aJ.mut(a : Same L L')(h : aJ B F L H sl σ O)(hn : sl.all (λs => !jm s)=true) : aJ B F L' H' sl σ O := by
  induction h with
  |nil => exact .nil
  |un _ ih => exact .un (ih (by grind))
  |fz r _ ih => exact .fz (Rp.mono (d7 _ (.refl _)) r) (ih (by grind))
  |hs r _ ih => grind
  |nu r _ ih => exact .nu (Rp.mono (fK a) r) (ih (by grind))
  |ow r _ ih => exact .ow (r.imp λ_ _ => Rp.mono (d7 _ (.refl _))) (ih (by grind))
  |od r _ ih => exact .od r (ih (by grind))
  |ob r _ ih => exact .ob (Ob.mono (d7 _ (.refl _)) r) (ih (by grind))
theorem Ag(g : dU B F H O F' H') : Same (lo F O H) (lo F' O H') := λb o h => by
  unfold lo at h ⊢
  cases e : (F b).isSome||(O.any λx => x.1==b) with
  |true => grind
  |false =>
    rw[e] at h
    have a : H b=some o := h
    rw[Bool.or_eq_false_iff] at e
    have c : F' b=none := g.nw b (by cases q : F b with|none => rfl|some u => grind) (by grind)
    rw[c, e.2]
    exact g.hh b o a
theorem At.grow(h : At B sl F O H σ)(g : dU B F H O F' H') : At B sl F' O H' σ := ⟨g.ok, h.2.mono g.ff (Ag g) g.hh⟩
theorem aJ.Nv{α : Type}[Rp K α]{a : α}(h : aJ B F L H sl σ O) : ∀{i : Nat}, sl[i]?=some (.fz n a)→∃v, σ[i]?=some (some v)∧rp K (reg B F H (qg n)) v a := by
  induction h with
  |nil => intro i e;simp at e
  |fz r _ ih =>
    grind
  |_ =>
    rename_i ih
    intro i e
    cases i with
    |zero => simp_all
    |succ i => exact ih (by simpa using e)
theorem aJ.ac2{α : Type}[Rp K α]{a : α}(h : aJ B F L H sl σ O) : ∀{i : Nat}, sl[i]?=some (.hs a)→∃v, σ[i]?=some (some v)∧rp K H v a := by
  induction h with
  |nil => grind
  |hs r _ ih =>
    grind
  |_ =>
    rename_i ih
    intro i e
    cases i with
    |zero => grind
    |succ i => exact ih (by simpa using e)
theorem aJ.Tq{α : Type}[Rp K α]{a : α}(h : aJ B F L H sl σ O) : ∀{i : Nat}, sl[i]?=some (.nu a)→∃v, σ[i]?=some (some v)∧rp K (dif L B.H0) v a := by
  induction h with
  |nil => grind
  |nu r _ ih =>
    grind
  |_ =>
    rename_i ih
    intro i e
    cases i with
    |zero => grind
    |succ i => exact ih (by simpa using e)
theorem aJ.put(h : aJ B F L H sl σ O)(a : ∀(sl : List (Slot K)) (σ : St) (O : Own), aJ B F L H sl σ O→aJ B F L H (s'::sl) (x::σ) O) : ∀{i : Nat}, sl[i]?=some s→vm s=false→aJ B F L H (sl.set i s') (σ.set i x) O := by
  induction h with
  |nil => intro i e;simp at e
  |un g ih =>
    intro i e o
    cases i with
    |zero => exact a _ _ _ g
    |succ i => exact .un (ih (by simpa using e) o)
  |fz r g ih =>
    intro i e o
    cases i with
    |zero => exact a _ _ _ g
    |succ i => exact .fz r (ih (by simpa using e) o)
  |hs r g ih =>
    intro i e o
    cases i with
    |zero => exact a _ _ _ g
    |succ i => exact .hs r (ih (by simpa using e) o)
  |nu r g ih =>
    intro i e o
    cases i with
    |zero => exact a _ _ _ g
    |succ i => exact .nu r (ih (by simpa using e) o)
  |ow r g ih =>
    intro i e o
    cases i with
    |zero => grind
    |succ i => exact .ow r (ih (by simpa using e) o)
  |od r g ih =>
    intro i e o
    cases i with
    |zero => simp only[getElem?_cons_zero] at e;cases e;cases o
    |succ i => exact .od r (ih (by simpa using e) o)
  |ob r g ih =>
    intro i e o
    cases i with
    |zero => simp only[getElem?_cons_zero] at e;cases e;cases o
    |succ i => exact .ob r (ih (by simpa using e) o)
theorem aJ.own(h : aJ B F L H sl σ O)(b : ∀(sl : List (Slot K)) (σ : St) (O : Own), aJ B F L H sl σ O→aJ B F L H (s'::sl) (x::σ) (c::O)) :
    ∀{i : Nat}, sl[i]?=some s→vm s=false→∃O1 O2, O=O1++O2∧aJ B F L H (sl.set i s') (σ.set i x) (O1++c::O2) := by
  induction h with
  |nil => intro i e;simp at e
  |un g ih =>
    intro i e o
    cases i with
    |zero => exact⟨[], _, rfl, b _ _ _ g⟩
    |succ i => obtain⟨O1, O2, q, z⟩ := ih (by simpa using e) o;exact⟨O1, O2, q, .un z⟩
  |fz r g ih =>
    intro i e o
    cases i with
    |zero => exact⟨[], _, rfl, b _ _ _ g⟩
    |succ i => obtain⟨O1, O2, q, z⟩ := ih (by simpa using e) o;exact⟨O1, O2, q, .fz r z⟩
  |hs r g ih =>
    intro i e o
    cases i with
    |zero => exact⟨[], _, rfl, b _ _ _ g⟩
    |succ i => obtain⟨O1, O2, q, z⟩ := ih (by simpa using e) o;exact⟨O1, O2, q, .hs r z⟩
  |nu r g ih =>
    intro i e o
    cases i with
    |zero => exact⟨[], _, rfl, b _ _ _ g⟩
    |succ i => obtain⟨O1, O2, q, z⟩ := ih (by simpa using e) o;exact⟨O1, O2, q, .nu r z⟩
  |ow r g ih =>
    intro i e o
    cases i with
    |zero => simp only[getElem?_cons_zero] at e;cases e;cases o
    |succ i => obtain⟨O1, O2, q, z⟩ := ih (by simpa using e) o;exact⟨_::O1, O2, by rw[q]<;>rfl, .ow r z⟩
  |od r g ih =>
    intro i e o
    cases i with
    |zero => simp only[getElem?_cons_zero] at e;cases e;cases o
    |succ i => obtain⟨O1, O2, q, z⟩ := ih (by simpa using e) o;exact⟨_::O1, O2, by rw[q]<;>rfl, .od r z⟩
  |@ob _ _ _ _ _ _ _ d _ r g ih =>
    intro i e o
    cases i with
    |zero => simp only[getElem?_cons_zero] at e;cases e;cases o
    |succ i =>
      obtain⟨O1, O2, q, z⟩ := ih (by simpa using e) o
      refine⟨d++O1, O2, by rw[q, append_assoc], ?_⟩
      rw[append_assoc]
      exact .ob r z
theorem aJ.Jl{α : Type}[Rp K α]{xs : List α}(h : aJ B F L H sl σ O) : ∀{i : Nat}, sl[i]?=some (.ow n xs) →
    ∃O1 O2 p vs, O=O1++(p, .lst vs)::O2∧σ[i]?=some (some (.ref p))∧A2 (rp K (reg B F H (qg n))) vs xs ∧
      (∀(s' : Slot K)(x : Option V)(c : Addr×HO), (∀(sl : List (Slot K))(σ : St)(O : Own), aJ B F L H sl σ O→aJ B F L H (s'::sl) (x::σ) (c::O))→aJ B F L H (sl.set i s') (σ.set i x) (O1++c::O2)) ∧
      (∀(s' : Slot K)(x : Option V), (∀(sl : List (Slot K))(σ : St)(O : Own), aJ B F L H sl σ O→aJ B F L H (s'::sl) (x::σ) O)→aJ B F L H (sl.set i s') (σ.set i x) (O1++O2)) := by
  induction h with
  |nil => intro i e;simp at e
  |un g ih =>
    intro i e
    cases i with
    |zero => simp only[getElem?_cons_zero] at e;cases e
    |succ i => obtain⟨O1, O2, p, vs, q, f, b, j, d⟩ := ih (by simpa using e);exact⟨O1, O2, p, vs, q, f, b, λs' x c z => .un (j s' x c z), λs' x z => .un (d s' x z)⟩
  |fz r g ih =>
    intro i e
    cases i with
    |zero => simp only[getElem?_cons_zero] at e;cases e
    |succ i => obtain⟨O1, O2, p, vs, q, f, b, j, d⟩ := ih (by simpa using e);exact⟨O1, O2, p, vs, q, f, b, λs' x c z => .fz r (j s' x c z), λs' x z => .fz r (d s' x z)⟩
  |hs r g ih =>
    intro i e
    cases i with
    |zero => simp only[getElem?_cons_zero] at e;cases e
    |succ i => obtain⟨O1, O2, p, vs, q, f, b, j, d⟩ := ih (by simpa using e);exact⟨O1, O2, p, vs, q, f, b, λs' x c z => .hs r (j s' x c z), λs' x z => .hs r (d s' x z)⟩
  |nu r g ih =>
    intro i e
    cases i with
    |zero => simp only[getElem?_cons_zero] at e;cases e
    |succ i => obtain⟨O1, O2, p, vs, q, f, b, j, d⟩ := ih (by simpa using e);exact⟨O1, O2, p, vs, q, f, b, λs' x c z => .nu r (j s' x c z), λs' x z => .nu r (d s' x z)⟩
  |ow r g ih =>
    intro i e
    cases i with
    |zero => simp only[getElem?_cons_zero] at e;cases e;exact⟨[], _, _, _, rfl, rfl, r, λs' x c z => z _ _ _ g, λs' x z => z _ _ _ g⟩
    |succ i => obtain⟨O1, O2, p, vs, q, f, b, j, d⟩ := ih (by simpa using e);exact⟨_::O1, O2, p, vs, by rw[q]<;>rfl, f, b, λs' x c z => .ow r (j s' x c z), λs' x z => .ow r (d s' x z)⟩
  |od r g ih =>
    intro i e
    cases i with
    |zero => simp only[getElem?_cons_zero] at e;cases e
    |succ i => obtain⟨O1, O2, p, vs, q, f, b, j, d⟩ := ih (by simpa using e);exact⟨_::O1, O2, p, vs, by rw[q]<;>rfl, f, b, λs' x c z => .od r (j s' x c z), λs' x z => .od r (d s' x z)⟩
  |@ob _ _ _ _ _ _ _ k _ r g ih =>
    intro i e
    cases i with
    |zero => simp only[getElem?_cons_zero] at e;cases e
    |succ i =>
      obtain⟨O1, O2, p, vs, q, f, b, j, d⟩ := ih (by simpa using e)
      refine⟨k++O1, O2, p, vs, by rw[q, append_assoc], f, b, λs' x c z => ?_, λs' x z => ?_⟩
      · rw[append_assoc];exact .ob r (j s' x c z)
      · rw[append_assoc];exact .ob r (d s' x z)
theorem aJ.Zr{α : Type}[Rp K α]{kvs : List (Key×α)}(h : aJ B F L H sl σ O) : ∀{i : Nat}, sl[i]?=some (.od kvs) →
    ∃O1 O2 p ks, O=O1++(p, .dK ks)::O2∧σ[i]?=some (some (.ref p))∧A2 (λ(x : Key×V) (y : Key×α) => x.1=y.1∧rp K F x.2 y.2) ks kvs ∧
      (∀(s' : Slot K)(x : Option V)(c : Addr×HO), (∀(sl : List (Slot K))(σ : St)(O : Own), aJ B F L H sl σ O→aJ B F L H (s'::sl) (x::σ) (c::O))→aJ B F L H (sl.set i s') (σ.set i x) (O1++c::O2)) ∧
      (∀(s' : Slot K)(x : Option V), (∀(sl : List (Slot K))(σ : St)(O : Own), aJ B F L H sl σ O→aJ B F L H (s'::sl) (x::σ) O)→aJ B F L H (sl.set i s') (σ.set i x) (O1++O2)) := by
  induction h with
  |nil => intro i e;simp at e
  |un g ih =>
    intro i e
    cases i with
    |zero => simp only[getElem?_cons_zero] at e;cases e
    |succ i => obtain⟨O1, O2, p, f, q, d, a, j, b⟩ := ih (by simpa using e);exact⟨O1, O2, p, f, q, d, a, λs' x c z => .un (j s' x c z), λs' x z => .un (b s' x z)⟩
  |fz r g ih =>
    intro i e
    cases i with
    |zero => simp only[getElem?_cons_zero] at e;cases e
    |succ i => obtain⟨O1, O2, p, f, q, d, a, j, b⟩ := ih (by simpa using e);exact⟨O1, O2, p, f, q, d, a, λs' x c z => .fz r (j s' x c z), λs' x z => .fz r (b s' x z)⟩
  |hs r g ih =>
    intro i e
    cases i with
    |zero => simp only[getElem?_cons_zero] at e;cases e
    |succ i => obtain⟨O1, O2, p, f, q, d, a, j, b⟩ := ih (by simpa using e);exact⟨O1, O2, p, f, q, d, a, λs' x c z => .hs r (j s' x c z), λs' x z => .hs r (b s' x z)⟩
  |nu r g ih =>
    intro i e
    cases i with
    |zero => simp only[getElem?_cons_zero] at e;cases e
    |succ i => obtain⟨O1, O2, p, f, q, d, a, j, b⟩ := ih (by simpa using e);exact⟨O1, O2, p, f, q, d, a, λs' x c z => .nu r (j s' x c z), λs' x z => .nu r (b s' x z)⟩
  |od r g ih =>
    intro i e
    cases i with
    |zero => simp only[getElem?_cons_zero] at e;cases e;exact⟨[], _, _, _, rfl, rfl, r, λs' x c z => z _ _ _ g, λs' x z => z _ _ _ g⟩
    |succ i => obtain⟨O1, O2, p, f, q, d, a, j, b⟩ := ih (by simpa using e);exact⟨_::O1, O2, p, f, by rw[q]<;>rfl, d, a, λs' x c z => .od r (j s' x c z), λs' x z => .od r (b s' x z)⟩
  |ow r g ih =>
    intro i e
    cases i with
    |zero => simp only[getElem?_cons_zero] at e;cases e
    |succ i => obtain⟨O1, O2, p, f, q, d, a, j, b⟩ := ih (by simpa using e);exact⟨_::O1, O2, p, f, by rw[q]<;>rfl, d, a, λs' x c z => .ow r (j s' x c z), λs' x z => .ow r (b s' x z)⟩
  |@ob _ _ _ _ _ _ _ k _ r g ih =>
    intro i e
    cases i with
    |zero => simp only[getElem?_cons_zero] at e;cases e
    |succ i =>
      obtain⟨O1, O2, p, f, q, d, a, j, b⟩ := ih (by simpa using e)
      refine⟨k++O1, O2, p, f, by rw[q, append_assoc], d, a, λs' x c z => ?_, λs' x z => ?_⟩
      · rw[append_assoc];exact .ob r (j s' x c z)
      · rw[append_assoc];exact .ob r (b s' x z)
end
end
section
variable{K : afh}{B : Bs}{F H F' H' L L' : Hp}{O O' O1 O2 : Own}{sl : List (Slot K)}{σ : St}{p : Addr}{o o' : HO}
theorem aat{α : Type}{a b : List α}{x : α} : (a++x::b).Nodup↔(a++b).Nodup∧x∉a++b := by
  grind
theorem Ok.add(k : Ok B F (O1++O2) H)(h : H p=none) : Ok B F (O1++(p, o)::O2) (upd H p o) := by
  refine⟨λb u e => ?_, k.h0.put (k.h0.free h) o, k.fa, λx hx => ?_, ?_⟩
  · rw[aP (aR (k.fh b u e) h)];exact k.fh b u e
  · have hx' : x=(p, o)∨x∈O1++O2 := by
      grind
    rcases hx' with rfl|hx'
    · exact⟨k.fh.free h, k.h0.free h, aY⟩
    · obtain⟨a1, a2, a3⟩ := k.fo x hx'
      exact⟨a1, a2, by rw[aP (aR a3 h)];exact a3⟩
  · rw[map_append, map_cons, aat, ← map_append]
    refine⟨k.nd, λz => ?_⟩
    obtain⟨x, hx, e⟩ := mem_map.mp z
    obtain⟨_, _, a3⟩ := k.fo x hx
    grind
theorem Ok.one(k : Ok B F (O1++(p, o)::O2) H) : F p=none∧B.H0 p=none∧H p=some o := k.fo (p, o) (mem_append.mpr (.inr mem_cons_self))
theorem Ok.ndp(k : Ok B F (O1++(p, o)::O2) H) : ∀x∈O1++O2, x.1≠p := λx hx e => by
  have q := k.nd
  grind
theorem Ok.drop(k : Ok B F (O1++(p, o)::O2) H) : Ok B F (O1++O2) H := by
  refine⟨k.fh, k.h0, k.fa, λx hx => k.fo x ?_, ?_⟩
  · grind
  · have q := k.nd
    grind
theorem Ok.chg(k : Ok B F (O1++(p, o)::O2) H)(o' : HO) : Ok B F (O1++(p, o')::O2) (upd H p o') := by
  obtain⟨a1, a2, a3⟩ := k.one
  refine⟨k.fh.put a1 o', k.h0.put a2 o', k.fa, λx hx => ?_, ?_⟩
  · have hx' : x=(p, o')∨x∈O1++O2 := by
      grind
    rcases hx' with rfl|hx'
    · exact⟨a1, a2, aY⟩
    · obtain⟨b1, b2, b3⟩ := k.drop.fo x hx'
      exact⟨b1, b2, by rw[aP (k.ndp x hx')];exact b3⟩
  · have q := k.nd
    grind
theorem Ok.freeze(k : Ok B F (O1++(p, o)::O2) H) : Ok B (upd F p o) (O1++O2) H := by
  obtain⟨a1, a2, a3⟩ := k.one
  refine⟨λb u e => ?_, k.h0, λb u e => ?_, λx hx => ?_, k.drop.nd⟩
  · by_cases q : b=p
    · subst q;rw[aY] at e;grind
    · rw[aP q] at e;exact k.fh b u e
  · by_cases q : b=p
    · grind
    · rw[aP q] at e;exact k.fa b u e
  · obtain⟨b1, b2, b3⟩ := k.drop.fo x hx
    exact⟨by rw[aP (k.ndp x hx)];exact b1, b2, b3⟩
theorem Tt(h : H p=none) : Same (lo F (O1++O2) H) (lo F (O1++(p, o)::O2) (upd H p o)) := λb u e => by
  unfold lo at e ⊢
  by_cases q : b=p
  · grind
  · rw[aP q]
    grind
theorem Tv : Same (lo F (O1++(p, o)::O2) H) (lo F (O1++(p, o')::O2) (upd H p o')) := λb u e => by
  unfold lo at e ⊢
  by_cases q : b=p
  · grind
  · rw[aP q]
    grind
theorem wN : Same (lo F (O1++(p, o)::O2) H) (lo F (O1++O2) H) := λb u e => by
  unfold lo at e ⊢
  grind
theorem yq : Same (lo F (O1++(p, o)::O2) H) (lo (upd F p o) (O1++O2) H) := λb u e => by
  unfold lo at e ⊢
  split at e
  · cases e
  · rename_i h
    rw[List.any_append, any_cons] at h
    simp at h
    have q : b≠p := λz => h.2.2.1 z.symm
    rw[aP q, if_neg]
    · exact e
    · rw[List.any_append]
      simp
      exact⟨h.1, h.2.1, h.2.2.2⟩
theorem Ok.called(k : Ok B F O H)(s : Same H H') : dU B F H O (ext F H H') H' := by
  have e1 : ∀b o, ext F H H' b=some o→F b=some o∨H b=none := λb o h => by
    unfold ext at h
    grind
  refine⟨λb o h => ?_, s, ⟨λb o h => ?_, k.h0.trans s, λb o h => ?_, λx hx => ?_, k.nd⟩, λb h1 h2 => ?_⟩
  · unfold ext
    rw[k.fh b o h]
    exact h
  · unfold ext at h
    cases q : H b with
    |none => grind
    |some u => rw[q] at h;rw[← k.fh b o h];exact(s b u q).trans q.symm
  · rcases e1 b o h with z|z
    · exact k.fa b o z
    · exact .inr (k.h0.free z)
  · obtain⟨a1, a2, a3⟩ := k.fo x hx
    refine⟨?_, a2, s _ _ a3⟩
    unfold ext
    grind
  · unfold ext
    grind
theorem uf(h0 : Same B.H0 H)(s : Same H H') : Same (dif H' H) (dif (ext F H H') B.H0) := λb o h => by
  unfold dif at h
  cases q : H b with
  |none =>
    rw[iR (h0.free q)]
    unfold ext
    grind
  |some u => grind
variable{md md1 md2 : Md}{α β γ : Type}[Rp K α][Rp K β][Rp K γ]{t t1 t2 : TE}{m : Option α}{m1 : Option β}{m2 : Option γ}
noncomputable def Ex(B : Bs)(sl : List (Slot K))(md : Md)(t : TE){α : Type}[Rp K α](m : Option α) : Prop :=
  ∀a, m=some a→∀(F : Hp)(O : Own)(H : Hp)(σ : St)(Q : VK), At B sl F O H σ→(∀(v : V)(F' H' : Hp), dU B F H O F' H'→rp K (reg B F' H' md) v a→Q v H')→t σ H Q
noncomputable def Et(B : Bs)(sl : List (Slot K))(t : TT)(m : Option Bool) : Prop :=
  ∀a, m=some a→∀(F : Hp)(O : Own)(H : Hp)(σ : St)(Q : Bool→Hp→Prop), At B sl F O H σ→(∀(F' H' : Hp), dU B F H O F' H'→Q a H')→t σ H Q
inductive Ar(R : Hp) : List (Slot K)→List V→Prop
  |nil : Ar R [] []
  |cons {n : Bool} {α : Type} [Rp K α] {a : α} {v : V} {sl : List (Slot K)} {vs : List V} : rp K R v a→Ar R sl vs→Ar R (.fz n a::sl) (v::vs)
noncomputable def Ea(B : Bs)(sl : List (Slot K))(md : Md)(t : TA){A : Type}(as : A→List (Slot K))(m : Option A) : Prop :=
  ∀a, m=some a→∀(F : Hp)(O : Own)(H : Hp)(σ : St)(Q : List V→Hp→Prop), At B sl F O H σ→(∀(vs : List V)(F' H' : Hp), dU B F H O F' H'→Ar (reg B F' H' md) (as a) vs→Q vs H')→t σ H Q
theorem Ex.sc[Sc K α](h : Ex B sl md t m) : Ex B sl md1 t m := λa ha F O H σ Q s k => h a ha F O H σ Q s λv F' H' g r => k v F' H' g (Tp r)
theorem bU{n : Bool}{a : α}(i : Nat)(hs : sl[i]?=some (.fz n a)) : Ex B sl (qg n) (mU i) (some a) := λa' ha F O H σ Q s k => by
  cases ha
  obtain⟨v, h1, h2⟩ := s.2.Nv hs
  exact⟨v, h1, k v F H (.refl s.1) h2⟩
theorem aq[Sc K α]{n : Bool}{a : α}(i : Nat)(hs : sl[i]?=some (.fz n a)) : Ex B sl md (mU i) (some a) := (bU i hs).sc
theorem lo_le : Same (lo F O H) H := λb o h => by
  unfold lo at h
  grind
theorem vo(k : Ok B F O H)(n : Bool) : Same (reg B F H (qg n)) H := match n with
  |true => eU.trans k.fh
  |false => k.fh
theorem aF{n : Bool}{a : α}(i : Nat)(hs : sl[i]?=some (.fz n a)) : Ex B sl .hp (mU i) (some a) := λa' ha F O H σ Q s k => by
  cases ha
  obtain⟨v, h1, h2⟩ := s.2.Nv hs
  exact⟨v, h1, k v F H (.refl s.1) (Rp.mono (vo s.1 n) h2)⟩
theorem qu{n : Bool}{xs : List α}(i : Nat)(hs : sl[i]?=some (.ow n xs)) : Ex B sl .hp (mU i) (some xs) := λa' ha F O H σ Q s k => by
  cases ha
  obtain⟨O1, O2, p, vs, rfl, h1, h2, _⟩ := s.2.Jl hs
  exact⟨_, h1, k _ F H (.refl s.1) ⟨p, vs, rfl, s.1.one.2.2, h2.imp λ_ _ => Rp.mono (vo s.1 n)⟩⟩
theorem aau[Sc K α](a : α) : Ex B sl md (tC (Sc.val K a)) (some a) := λa' ha F O H σ Q s k => by cases ha;exact k _ F H (.refl s.1) (Sc.is.mpr rfl)
theorem aK(i : Int) : Ex B sl md (tC (.int i)) (some i) := aau i
theorem wO(i : Bool) : Ex B sl md (tC (.bl i)) (some i) := aau i
theorem aU(i : Str) : Ex B sl md (tC (.str i)) (some i) := aau i
theorem jM{f : β→γ→Option α}(h : (m1.bind λa => m2.bind λb => f a b)=some c) : ∃a b, m1=some a∧m2=some b∧f a b=some c := by
  cases m1 with
  |none => cases h
  |some a =>
    cases m2 with
    |none => cases h
    |some b => grind
theorem wQ{f : β→γ→Option α}[Sc K α](hr : ∀(a : β) (b : γ) (c : α) (v w : V) (H : Hp) (Q : VK), f a b=some c→rp K H v a→rp K H w b→Q (Sc.val K c) H→r v w H Q)(h1 : Ex B sl .hp t1 m1)(h2 : Ex B sl .hp t2 m2) : Ex B sl md (wD r t1 t2) (m1.bind λa => m2.bind λb => f a b) := λc hc F O H σ Q s k => by
  obtain⟨a, b, ha, hb, hf⟩ := jM hc
  refine h1 a ha F O H σ _ s λv F' H' g r1 => ?_
  refine h2 b hb F' O H' σ _ (s.grow g) λw F2 H2 g2 r2 => ?_
  exact hr a b c v w H2 Q hf (Rp.mono g2.hh r1) r2 (k _ F2 H2 (g.trans g2) (Sc.is.mpr rfl))
theorem bw(h : Ex B sl md t m') : Et B sl (Zh t) m' := λc hc F O H σ Q s k => h c hc F O H σ _ s λv F' H' g r => ⟨c, r, k F' H' g⟩
theorem rJ(h : Ex B sl md t m') : Et B sl (tB t) m' := λc hc F O H σ Q s k => h c hc F O H σ _ s λv F' H' g r => ⟨c, r, k F' H' g⟩
theorem vp{t : TT}{n : Option Bool}(h : Et B sl t n) : Et B sl (acn t) (n.bind λc => some !c) := λc hc F O H σ Q s k => by
  cases n with
  |none => cases hc
  |some c' =>
    cases(hc)
    exact h c' rfl F O H σ _ s λF' H' g => k F' H' g
theorem Tw(h : Ex B sl .hp t n) : Ex B sl md (Ze t) (n.bind λc => some !c) := λc hc F O H σ Q s k => by
  cases n with
  |none => cases hc
  |some c' =>
    cases(hc)
    refine h c' rfl F O H σ _ s λv F' H' g r => ?_
    cases r
    exact⟨c', rfl, k _ F' H' g rfl⟩
theorem GD{t u : TT}{n n' : Option Bool}(h : Et B sl t n)(h' : Et B sl u n') : Et B sl (acj t u) (n.bind λc => if c=true then n' else some false) := λc hc F O H σ Q s k => by
  cases n with
  |none => cases hc
  |some c' =>
    refine h c' rfl F O H σ _ s λF' H' g => ?_
    cases c' with
    |true => exact Bj (h' c (by simpa using hc) F' O H' σ _ (s.grow g) λF2 H2 g2 => k F2 H2 (g.trans g2))
    |false => cases(show some false=some c from by simpa using hc);exact oM (k F' H' g)
theorem Nx{t u : TT}{n n' : Option Bool}(h : Et B sl t n)(h' : Et B sl u n') : Et B sl (tOr t u) (n.bind λc => if c=true then some true else n') := λc hc F O H σ Q s k => by
  cases n with
  |none => cases hc
  |some c' =>
    refine h c' rfl F O H σ _ s λF' H' g => ?_
    cases c' with
    |true => cases(show some true=some c from by simpa using hc);exact Bj (k F' H' g)
    |false => exact oM (h' c (by simpa using hc) F' O H' σ _ (s.grow g) λF2 H2 g2 => k F2 H2 (g.trans g2))
theorem vq(h : Ex B sl .hp t1 n)(h' : Ex B sl .hp t2 n') : Ex B sl md (Zd t1 t2) (n.bind λc => if c=true then n' else some false) := λc hc F O H σ Q s k => by
  cases n with
  |none => cases hc
  |some c' =>
    refine h c' rfl F O H σ _ s λv F' H' g r => ?_
    cases r
    refine⟨c', rfl, ?_⟩
    cases c' with
    |true => exact Bj (h' c (by simpa using hc) F' O H' σ _ (s.grow g) λv F2 H2 g2 r2 => k v F2 H2 (g.trans g2) (Tp r2))
    |false => cases(show some false=some c from by simpa using hc);exact oM (k _ F' H' g rfl)
theorem GF{t : TT}{n : Option Bool}{m m' : Option α}(h : Et B sl t n)(h1 : Ex B sl md t1 m)(h2 : Ex B sl md t2 m') : Ex B sl md (tIf t t1 t2) (n.bind λc => if c=true then m else m') := λc hc F O H σ Q s k => by
  cases n with
  |none => cases hc
  |some c' =>
    refine h c' rfl F O H σ _ s λF' H' g => ?_
    cases c' with
    |true => exact Bj (h1 c (by simpa using hc) F' O H' σ _ (s.grow g) λv F2 H2 g2 r2 => k v F2 H2 (g.trans g2) r2)
    |false => exact oM (h2 c (by simpa using hc) F' O H' σ _ (s.grow g) λv F2 H2 g2 r2 => k v F2 H2 (g.trans g2) r2)
theorem aV : Ea B sl md fu (λ_ : Unit => []) (some ()) := λa ha F O H σ Q s k => k [] F H (.refl s.1) .nil
theorem aG{A : Type}{as : A→List (Slot K)}{ma : Option A}(h1 : Ex B sl md t m)(h2 : Ea B sl md tr as ma) : Ea B sl md (cD t tr) (λx : α×A => .fz false x.1::as x.2) (m.bind λa => ma.bind λb => some (a, b)) := λc hc F O H σ Q s k => by
  cases m with
  |none => cases hc
  |some a =>
    cases ma with
    |none => cases hc
    |some b =>
      cases(show some (a, b)=some c from hc)
      refine h1 a rfl F O H σ _ s λv F' H' g r1 => ?_
      refine h2 b rfl F' O H' σ _ (s.grow g) λvs F2 H2 g2 r2 => ?_
      exact k (v::vs) F2 H2 (g.trans g2) (.cons (Rp.mono (dJ g2 md) r1) r2)
theorem mW(k : Ok B F O H)(h : H p=none)(md : Md) : reg B (upd F p o) (upd H p o) md p=some o := match md with
  |.nw => by show dif (upd F p o) B.H0 p=_;rw[iR (k.h0.free h)];exact aY
  |.fz => aY
  |.hp => aY
def cap : Nat := 100000
theorem k_(h : n<cap) : n<sizeLine := ajk h (by decide)
theorem Tz(h : n≤cap) : n≤sizeLine := afl h (by decide)
noncomputable def El(B : Bs)(sl : List (Slot K))(md : Md)(t : TA){α : Type}[Rp K α](m : Option (List α)) : Prop :=
  ∀a, m=some a→∀(F : Hp)(O : Own)(H : Hp)(σ : St)(Q : List V→Hp→Prop), At B sl F O H σ→(∀(vs : List V)(F' H' : Hp), dU B F H O F' H'→A2 (rp K (reg B F' H' md)) vs a→Q vs H')→t σ H Q
theorem jo : El B sl md fu (some ([] : List α)) := λa ha F O H σ Q s k => by cases ha;exact k [] F H (.refl s.1) trivial
theorem bx(h1 : Ex B sl md t m)(h2 : El B sl md tr ma) : El B sl md (cD t tr) (m.bind λa => ma.bind λb => some (a::b)) := λc hc F O H σ Q s k => by
  cases m with
  |none => cases hc
  |some a =>
    cases ma with
    |none => cases hc
    |some b =>
      cases(show some (a::b)=some c from hc)
      refine h1 a rfl F O H σ _ s λv F' H' g r1 => ?_
      refine h2 b rfl F' O H' σ _ (s.grow g) λvs F2 H2 g2 r2 => ?_
      exact k (v::vs) F2 H2 (g.trans g2) ⟨Rp.mono (dJ g2 md) r1, r2⟩
noncomputable def Eo(B : Bs)(sl : List (Slot K))(md : Md)(t : TE){α : Type}[Rp K α](m : Option (List α)) : Prop :=
  ∀a, m=some a→∀(F : Hp)(O : Own)(H : Hp)(σ : St)(Q : VK), At B sl F O H σ→(∀(p : Addr)(vs : List V)(F' H' : Hp), dU B F H O F' H'→H' p=none→A2 (rp K (reg B F' H' md)) vs a→Q (.ref p) (upd H' p (.lst vs)))→t σ H Q
theorem Eo.ex{m : Option (List α)}(h : Eo B sl md t m) : Ex B sl md t m := λa ha F O H σ Q s k => h a ha F O H σ Q s λp vs F' H' g hp r => by
  have g2 := dU.new g.ok hp (.lst vs)
  exact k _ _ _ (g.trans g2) ⟨p, vs, rfl, mW g.ok hp md, r.imp λ_ _ => Rp.mono (dJ g2 md)⟩
theorem lg : Eo B sl md (aah fu) (some ([] : List α)) := λa ha F O H σ Q s k => by
  cases ha
  exact⟨afz _, λp hp => k p [] F H (.refl s.1) hp trivial⟩
theorem jq{t : TA}{ma : Option (List α)}(h : El B sl md t ma)(hl : ∀a, ma=some a→a.length≤cap) : Eo B sl md (aah t) ma := λa ha F O H σ Q s k =>
  h a ha F O H σ _ s λvs F' H' g r => ⟨by rw[r.len];exact Tz (hl a ha), λp hp => k p vs F' H' g hp r⟩
theorem jN(h1 : Ex B sl md t1 m1)(h2 : Ex B sl md t2 m2) : Ex B sl md (Qa (cD t1 (cD t2 fu))) (m1.bind λa => m2.bind λb => some (a, b)) := λc hc F O H σ Q s kk => by
  obtain⟨a, b, ha, hb, hf⟩ := jM hc
  cases hf
  refine h1 a ha F O H σ _ s λv F' H' g r1 => ?_
  refine h2 b hb F' O H' σ _ (s.grow g) λw F2 H2 g2 r2 => ?_
  refine⟨by show 2≤sizeLine;decide, λp hp => ?_⟩
  have g3 := dU.new g2.ok hp (.tup [v, w])
  exact kk _ _ _ (g.trans (g2.trans g3)) ⟨p, v, w, rfl, mW g2.ok hp md, Rp.mono (dJ (g2.trans g3) md) r1, Rp.mono (dJ g3 md) r2⟩
def nD(K : afh)(al : Bool){A β : Type}[Rp K β](as : A→List (Slot K))(f : A→Option β) : Sp := λvs H Q _ =>
  ∃a b Fa, Same Fa H∧f a=some b∧Ar Fa (as a) vs∧∀v H', Same H H'→rp K (if al=true then ext Fa H H' else dif H' H) v b→Q v H'
theorem bA{A : Type}{as : A→List (Slot K)}{f : A→Option β}{ma : Option A}(h : Ea B sl .hp ta as ma) : Ex B sl md (uL (nD K false as f) [] E0 ta) (ma.bind f) := λc hc F O H σ Q s kk => by
  cases ma with
  |none => cases hc
  |some a =>
    refine h a rfl F O H σ _ s λvs F' H' g r => ?_
    rw[append_nil]
    refine⟨a, c, H', .refl _, hc, r, λv H2 s2 r2 => ?_⟩
    have g2 := g.ok.called s2
    refine kk v _ H2 (g.trans g2) ?_
    have r3 := Rp.mono (uf (F := F') g.ok.h0 s2) r2
    exact match md with
    |.nw => r3
    |.fz => Rp.mono eU r3
    |.hp => Rp.mono (eU.trans g2.ok.fh) r3
end
noncomputable def push{α : Type}(xs : List α)(a : α) : Option (List α) := if xs.length<cap then some (xs++[a]) else none
noncomputable def setAt{α : Type}(xs : List α)(i : Int)(a : α) : Option (List α) := (Rv xs.length i).bind λj => some (xs.set j a)
noncomputable def gO(n : Int) : Option (List Int) := if -(2^62)≤n∧n<2^62 then some ((aha n.toNat).map ai1) else none
def foldM{S α : Type}(step : S→α→Option S) : List α→S→Option S
  |[], s => some s
  |x::b, s => (step s x).bind λa => foldM step b a
inductive Out(S β : Type)|nx (s : S)|rt (b : β)
def fD{S α β : Type}(step : S→α→Option (Out S β)) : List α→S→Option (Out S β)
  |[], s => some (.nx s)
  |x::a, s => (step s x).bind λo => match o with
    |.nx c => fD step a c
    |.rt b => some (.rt b)
def dz{α β : Type}(c : α→Option Bool)(f : α→Option β) : List α→Option (List β)
  |[] => some []
  |x::a => (c x).bind λb => if b=true then(f x).bind λy => (dz c f a).bind λd => some (y::d) else dz c f a
noncomputable def Out.els{S β : Type}(o : Out S β)(f : S→Option β) : Option β := match o with
  |.nx s => f s
  |.rt b => some b
noncomputable def Out.dN{S a β : Type}(o : Out S β)(f : S→Option (Out a β)) : Option (Out a β) := match o with
  |.nx s => f s
  |.rt b => some (.rt b)
theorem yr{S α : Type}(step : S→α→Option S) : ∀(xs ys : List α)(s : S), foldM step (xs++ys) s=(foldM step xs s).bind λs' => foldM step ys s'
  |[], ys, s => rfl
  |x::xs, ys, s => by
    show(step s x).bind _=((step s x).bind _).bind _
    cases step s x with
    |none => rfl
    |some s' => exact yr step xs ys s'
theorem KN{S α : Type}{step : S→α→Option S}{xs : List α}{s g : S}(h : foldM step xs s=some g){x : α}(j : xs[i]?=some x) : ∃a b, foldM step (xs.take i) s=some a∧step a x=some b∧foldM step (xs.take (i+1)) s=some b := by
  have e : xs=xs.take (i+1)++xs.drop (i+1) := (take_append_drop _ _).symm
  have k : xs.take (i+1)=xs.take i++[x] := by rw[take_add_one, j]<;>rfl
  rw[e, yr] at h
  cases q : foldM step (xs.take (i+1)) s with
  |none => rw[q] at h;cases h
  |some b =>
    have d := q
    rw[k, yr] at d
    cases z : foldM step (xs.take i) s with
    |none => rw[z] at d;cases d
    |some a =>
      rw[z] at d
      have f : (step a x).bind (λl => some l)=some b := d
      refine⟨a, b, rfl, ?_, rfl⟩
      cases w : step a x with
      |none => rw[w] at f;cases f
      |some c => rw[w] at f;exact f
section
variable{K : afh}{B : Bs}{F H F' H' G : Hp}{O : Own}{sl sl2 : List (Slot K)}{σ : St}{md : Md}{α β γ : Type}[Rp K α][Rp K β][Rp K γ]{t u v : TS}{te : TE}{m : Option α}{S S' : Type}{al : Bool}
def Sg(B : Bs)(G : Hp)(sl : List (Slot K))(σ : St)(H : Hp) : Prop := ∃F O, Same G F∧At B sl F O H σ
def Rt(K : afh){β : Type}[Rp K β](B : Bs)(al : Bool)(b : β)(v : V)(H' : Hp) : Prop := Same B.H0 H'∧rp K (if al=true then ext B.Fa B.H0 H' else dif H' B.H0) v b
noncomputable def Sn(B : Bs)(sl : List (Slot K))(t : TS){S : Type}(L : S→List (Slot K))(m : Option S) : Prop :=
  ∀a, m=some a→∀(G : Hp)(D : Ends)(σ : St)(H : Hp), Sg B G sl σ H→(∀b H', Sg B G (L a) b H'→D.nx b H')→t D σ H
noncomputable def SB(B : Bs)(sl : List (Slot K))(t : TS)(al : Bool){β : Type}[Rp K β](m : Option β) : Prop :=
  ∀b, m=some b→∀(G : Hp)(D : Ends)(σ : St)(H : Hp), Sg B G sl σ H→(∀v H', Rt K B al b v H'→D.rt v H')→t D σ H
def XE(B : Bs)(G : Hp)(al : Bool)(L : S→List (Slot K))(D : Ends)(o : Out S β) : Prop := match o with
  |.nx s => ∀a H', Sg B G (L s) a H'→D.nx a H'
  |.rt b => ∀v H', Rt K B al b v H'→D.rt v H'
noncomputable def Sx(B : Bs)(sl : List (Slot K))(t : TS)(al : Bool){S β : Type}[Rp K β](L : S→List (Slot K))(m : Option (Out S β)) : Prop :=
  ∀o, m=some o→∀(G : Hp)(D : Ends)(σ : St)(H : Hp), Sg B G sl σ H→XE B G al L D o→t D σ H
theorem SB.of(h : SB B sl t al m)(q : m=m') : SB B sl t al m' := q▸h
theorem Sn.of(h : Sn B sl t L m)(q : m=m') : Sn B sl t L m' := q▸h
theorem Sx.of{L : S→List (Slot K)}{m m' : Option (Out S β)}(h : Sx B sl t al L m)(q : m=m') : Sx B sl t al L m' := q▸h
inductive Le : List (Slot K)→List (Slot K)→Prop
  |nil : Le [] []
  |eq {s : Slot K} {a b : List (Slot K)} : Le a b→Le (s::a) (s::b)
  |un {s : Slot K} {a b : List (Slot K)} : Le a b→Le (s::a) (.un::b)
  |fr {n : Bool} {α : Type} [Rp K α] {xs : List α} {a b : List (Slot K)} : Le a b→Le (.ow n xs::a) (.fz n xs::b)
  |old {α : Type} [Rp K α] {x : α} {a b : List (Slot K)} : Le a b→Le (.fz true x::a) (.fz false x::b)
  |fo {n : Bool} {α : Type} [Ob K α] {x : α} {a b : List (Slot K)} : Le a b→Le (.ob n x::a) (@Slot.fz K n (Ob.β K α) (Ob.ac1) (Ob.val x)::b)
theorem Ok.sub(k : Ok B F O H)(s : Sublist a O) : Ok B F a H := ⟨k.fh, k.h0, k.fa, λx b => k.fo x (s.subset b), (s.map _).nodup k.nd⟩
theorem TF(s : Sublist a O) : Same (lo F O H) (lo F a H) := λb u e => by
  unfold lo at e ⊢
  grind
theorem Ok.Ny : ∀(Oc : Own){F : Hp}{O : Own}, Ok B F (P++(Oc++O)) H→∃a, Same F a∧Ok B a (P++O) H∧Same (lo F (P++(Oc++O)) H) (lo a (P++O) H)∧∀x∈Oc, a x.1=some x.2∧B.H0 x.1=none
  |[], F, O, k => ⟨F, .refl _, k, .refl _, λx b => (by cases b)⟩
  | (p, o)::Oc, F, O, k => by
    obtain⟨i, g, a3⟩ := k.one
    have h : Same F (upd F p o) := dI i _
    obtain⟨a, c, f, d, m2⟩ := Ok.Ny Oc (k.freeze)
    refine⟨a, h.trans c, f, yq.trans d, λx b => ?_⟩
    rcases mem_cons.mp b with e|b
    · subst e;exact⟨c _ _ aY, g⟩
    grind
theorem aJ.le(h : Le sl sl2) : ∀{F : Hp}{σ : St}{O : Own}, Ok B F (P++O) H→aJ B F (lo F (P++O) H) H sl σ O→∃F' f, Same F F'∧Ok B F' (P++f) H∧Same (lo F (P++O) H) (lo F' (P++f) H)∧aJ B F' (lo F' (P++f) H) H sl2 σ f := by
  induction h generalizing P with
  |nil => intro F σ O k h;cases h;exact⟨F, [], .refl _, k, .refl _, .nil⟩
  |eq _ ih =>
    intro F σ O k h
    cases h with
    |un h => obtain⟨F', f, a, b, c, d⟩ := ih k h;exact⟨F', f, a, b, c, .un d⟩
    |fz r h => obtain⟨F', f, a, b, c, d⟩ := ih k h;exact⟨F', f, a, b, c, .fz (Rp.mono (d7 _ a) r) d⟩
    |hs r h => obtain⟨F', f, a, b, c, d⟩ := ih k h;exact⟨F', f, a, b, c, .hs r d⟩
    |nu r h => obtain⟨F', f, a, b, c, d⟩ := ih k h;exact⟨F', f, a, b, c, .nu (Rp.mono (fK c) r) d⟩
    |@ow _ _ _ _ _ _ O p g r h =>
      have e : P++(p, HO.lst g)::O=(P++[(p, HO.lst g)])++O := by simp
      rw[e] at k h
      obtain⟨F', f, a, b, c, d⟩ := ih k h
      have q : (P++[(p, HO.lst g)])++f=P++(p, HO.lst g)::f := by simp
      rw[q] at b c d
      rw[← e] at c
      exact⟨F', _::f, a, b, c, .ow (r.imp λ_ _ => Rp.mono (d7 _ a)) d⟩
    |@od _ _ _ _ _ O p g r h =>
      have e : P++(p, HO.dK g)::O=(P++[(p, HO.dK g)])++O := by simp
      rw[e] at k h
      obtain⟨F', f, a, b, c, d⟩ := ih k h
      have q : (P++[(p, HO.dK g)])++f=P++(p, HO.dK g)::f := by simp
      rw[q] at b c d
      rw[← e] at c
      exact⟨F', _::f, a, b, c, .od (r.imp λ_ _ z => ⟨z.1, Rp.mono a z.2⟩) d⟩
    |@ob _ _ _ _ _ _ O i v r h =>
      rw[← append_assoc] at k h
      obtain⟨F', f, a, b, c, d⟩ := ih k h
      rw[append_assoc] at b c d
      rw[append_assoc] at c
      exact⟨F', i++f, a, b, c, .ob (Ob.mono (d7 _ a) r) d⟩
  |un _ ih =>
    intro F σ O k h
    cases h with
    |un h => obtain⟨F', f, a, b, c, d⟩ := ih k h;exact⟨F', f, a, b, c, .un d⟩
    |fz r h => obtain⟨F', f, a, b, c, d⟩ := ih k h;exact⟨F', f, a, b, c, .un d⟩
    |hs r h => obtain⟨F', f, a, b, c, d⟩ := ih k h;exact⟨F', f, a, b, c, .un d⟩
    |nu r h => obtain⟨F', f, a, b, c, d⟩ := ih k h;exact⟨F', f, a, b, c, .un d⟩
    |ow r h => obtain⟨F', f, a, b, c, d⟩ := ih k.drop (h.mono (.refl _) wN (.refl _));exact⟨F', f, a, b, wN.trans c, .un d⟩
    |od r h => obtain⟨F', f, a, b, c, d⟩ := ih k.drop (h.mono (.refl _) wN (.refl _));exact⟨F', f, a, b, wN.trans c, .un d⟩
    |@ob _ _ _ _ _ _ O i v r h =>
      have l : Sublist (P++O) (P++(i++O)) := Sublist.append (Sublist.refl P) (List.sublist_append_right i O)
      obtain⟨F', f, a, b, c, d⟩ := ih (k.sub l) (h.mono (.refl _) (TF l) (.refl _))
      exact⟨F', f, a, b, (TF l).trans c, .un d⟩
  |@fr n _ _ _ _ _ _ ih =>
    intro F σ O k h
    cases h with
    |@ow _ _ _ _ _ _ O p g r h =>
      obtain⟨I, A, a3⟩ := k.one
      have j : Same F (upd F p (.lst g)) := dI I _
      obtain⟨F', f, a, b, c, d⟩ := ih k.freeze (h.mono j yq (.refl _))
      refine⟨F', f, j.trans a, b, yq.trans c, .fz ⟨p, g, rfl, ?_, r.imp λ_ _ => Rp.mono (d7 _ (j.trans a))⟩ d⟩
      cases n with
      |true => exact(iR A).trans (a _ _ aY)
      |false => exact a _ _ aY
  |old _ ih =>
    intro F σ O k h
    cases h with
    |fz r h => obtain⟨F', f, a, b, c, d⟩ := ih k h;exact⟨F', f, a, b, c, .fz (Rp.mono (eU.trans a) r) d⟩
  |@fo n _ _ _ _ _ _ ih =>
    intro F σ O k h
    cases h with
    |@ob _ _ _ _ _ _ O i v r h =>
      obtain⟨F2, o, y, s, C⟩ := Ok.Ny i k
      obtain⟨F', f, a, b, c, d⟩ := ih y (h.mono o s (.refl _))
      refine⟨F', f, o.trans a, b, s.trans c, @aJ.fz _ _ _ _ _ _ _ Ob.ac1 _ _ _ _ _ (Ob.Iw (Ob.mono (d7 _ (o.trans a)) r) λx D => ?_) d⟩
      obtain⟨w, E⟩ := C x D
      cases n with
      |true => exact(iR E).trans (a _ _ w)
      |false => exact a _ _ w
theorem Sg.le(h : Sg B G sl σ H)(l : Le sl sl2) : Sg B G sl2 σ H := by
  obtain⟨F, O, g, k, s⟩ := h
  obtain⟨F', c, a, b, _, d⟩ := aJ.le (P := []) l k s
  exact⟨F', c, g.trans a, b, d⟩
theorem Sg.grow(g : Same G F)(h : At B sl F a H σ)(b : dU B F H a F' H') : Sg B G sl σ H' := ⟨F', a, g.trans b.ff, h.grow b⟩
theorem bQ(L : S→List (Slot K))(s : S)(h : Le sl (L s)) : Sn B sl lR L (some s) := λa b G D σ H q k => by cases b;exact k σ H (q.le h)
theorem bB{f : S→Option S'}(d : Sn B sl t L b)(h2 : ∀s, Sn B (L s) u L' (f s)) : Sn B sl (jD t u) L' (b.bind f) := λa c G D σ H q k => by
  cases b with
  |none => cases c
  |some s => exact d s rfl G _ σ H q λe H' g => h2 s a c G D e H' g k
theorem aN{f : S→Option β}(d : Sn B sl t L b)(h2 : ∀s, SB B (L s) u al (f s)) : SB B sl (jD t u) al (b.bind f) := λa c G D σ H q k => by
  cases b with
  |none => cases c
  |some s => exact d s rfl G _ σ H q λe H' g => h2 s a c G D e H' g k
theorem gq{f : S→Option (Out S' β)}(d : Sn B sl t L b)(h2 : ∀s, Sx B (L s) u al L' (f s)) : Sx B sl (jD t u) al L' (b.bind f) := λa c G D σ H q k => by
  cases b with
  |none => cases c
  |some s => exact d s rfl G _ σ H q λe H' g => h2 s a c G D e H' g k
theorem TQ{f : S→Option β}(d : Sx B sl t al L e)(h2 : ∀s, SB B (L s) u al (f s)) : SB B sl (jD t u) al (e.bind λo => o.els f) := λa c G D σ H q k => by
  cases e with
  |none => cases c
  |some o =>
    cases o with
    |nx s => exact d _ rfl G _ σ H q λh H' g => h2 s a c G D h H' g k
    |rt b => cases c;exact d _ rfl G { D with nx := u D } σ H q k
theorem wR{f : S→Option (Out S' β)}(d : Sx B sl t al L e)(h2 : ∀s, Sx B (L s) u al L' (f s)) : Sx B sl (jD t u) al L' (e.bind λo => o.dN f) := λa c G D σ H q k => by
  cases e with
  |none => cases c
  |some o =>
    cases o with
    |nx s => exact d _ rfl G _ σ H q λh H' g => h2 s a c G D h H' g k
    |rt b => cases c;exact d _ rfl G { D with nx := u D } σ H q k
theorem mH(L : S→List (Slot K))(s : S)(h : Le sl (L s)) : Sx B sl lR al L (some (.nx s) : Option (Out S β)) := λa b G D σ H q k => by cases b;exact k σ H (q.le h)
theorem TV(k : Ok B F' O H')(n : Bool){v : V}{b : β}(r : rp K (reg B F' H' (qg n)) v b)(a : n=!al) : Rt K B al b v H' := by
  refine⟨k.h0, ?_⟩
  cases al with
  |false => subst a;exact Rp.mono (fK k.fh) r
  |true =>
    subst a
    refine Rp.mono (λb o h => ?_) r
    show ext B.Fa B.H0 H' b=some o
    unfold ext
    cases q : B.H0 b with
    |none => exact k.fh b o h
    |some u =>
      rcases k.fa b o h with z|z
      · exact z
      grind
theorem cL(h : Ex B sl (qg !al) te m) : SB B sl (jD (PB te) u) al m := λb c G D σ H s k => by
  obtain⟨F, O, g, a⟩ := s
  exact h b c F O H σ _ a λv F' H' d r => k v H' (TV d.ok (!al) r rfl)
theorem Xw(h : F p=none) : Same (dif F a) (dif (upd F p o) a) := fK (dI h o)
theorem Nz{n : Bool}{xs : List α}(i : Nat)(j : sl[i]?=some (.ow n xs))(o : n=!al) : SB B sl (jD (PB (mU i)) u) al (some xs) := λb d G D σ H s k => by
  cases d
  obtain⟨F, O, g, a⟩ := s
  obtain⟨O1, O2, p, f, rfl, e, l, _⟩ := a.2.Jl j
  obtain⟨c, h, a3⟩ := a.1.one
  refine⟨_, e, k _ H (TV a.1.freeze n ⟨p, f, rfl, ?_, l.imp λ_ _ => Rp.mono ?_⟩ o)⟩
  · cases n with
    |true => exact(iR h).trans aY
    |false => exact aY
  · cases n with
    |true => exact Xw c
    |false => exact dI c _
theorem iW(h : Et B sl c n)(i : Sn B sl t L j)(h2 : Sn B sl u L f) : Sn B sl (Gk c t u) L (n.bind λb => if b=true then j else f) := λa e G D σ H s k => by
  cases n with
  |none => cases e
  |some b =>
    obtain⟨F, O, g, z⟩ := s
    refine h b rfl F O H σ _ z λF' H' d => ?_
    cases b with
    |true => exact Bj (i a (by grind) G D σ H' (Sg.grow g z d) k)
    |false => exact oM (h2 a (by grind) G D σ H' (Sg.grow g z d) k)
theorem ac3{c : TT}{n : Option Bool}{L : S→List (Slot K)}{f e : Option (Out S β)}(j : Et B sl c n)(i : Sx B sl t al L f)(h2 : Sx B sl u al L e) : Sx B sl (Gk c t u) al L (n.bind λb => if b=true then f else e) := λa h G D σ H s k => by
  cases n with
  |none => cases h
  |some b =>
    obtain⟨F, O, g, z⟩ := s
    refine j b rfl F O H σ _ z λF' H' d => ?_
    cases b with
    |true => exact Bj (i a (by grind) G D σ H' (Sg.grow g z d) k)
    |false => exact oM (h2 a (by grind) G D σ H' (Sg.grow g z d) k)
theorem nQ{c : TT}{n : Option Bool}{f e : Option β}(j : Et B sl c n)(i : SB B sl t al f)(h2 : SB B sl u al e) : SB B sl (jD (Gk c t lR) u) al (n.bind λb => if b=true then f else e) := λa h G D σ H s k => by
  cases n with
  |none => cases h
  |some b =>
    obtain⟨F, O, g, z⟩ := s
    refine j b rfl F O H σ _ z λF' H' d => ?_
    cases b with
    |true => exact Bj (i a (by grind) G _ σ H' (Sg.grow g z d) k)
    |false => exact oM (h2 a (by grind) G D σ H' (Sg.grow g z d) k)
theorem qw{c : TT}{n : Option Bool}{d : Option β}{L : S→List (Slot K)}{f : Option (Out S β)}(i : Et B sl c n)(l : SB B sl t al d)(h2 : Sx B sl u al L f) :
    Sx B sl (jD (Gk c t lR) u) al L (n.bind λb => if b=true then d.bind λb => some (.rt b) else f) := λa j G D σ H s k => by
  cases n with
  |none => cases j
  |some b =>
    obtain⟨F, O, g, z⟩ := s
    refine i b rfl F O H σ _ z λF' H' h => ?_
    cases b with
    |true =>
      have e := (show(d.bind λb => some (Out.rt b))=some a by grind)
      cases d with
      |none => cases e
      |some b => cases e;exact Bj (l b rfl G _ σ H' (Sg.grow g z h) k)
    |false => exact oM (h2 a (by grind) G D σ H' (Sg.grow g z h) k)
theorem Sg.set{s : Slot K}{i : Nat}{n : Bool}{a : α}{v : V}{O : Own}(g : Same G F)(h : At B sl F O H σ)(b : sl[i]?=some s)(c : vm s=false)(r : rp K (reg B F H (qg n)) v a) : Sg B G (sl.set i (.fz n a)) (σ.set i (some v)) H :=
  ⟨F, O, g, h.1, h.2.put (λ_ _ _ z => .fz r z) b c⟩
theorem bR(n : Bool)(i : Nat)(d : sl[i]?=some s)(e : vm s=false)(h : Ex B sl (qg n) te m) : Sn B sl (yc te (kO i)) (λa => sl.set i (.fz n a)) m := λa c G D σ H s k => by
  obtain⟨F, O, g, z⟩ := s
  exact h a c F O H σ _ z λv F' H' b r => k _ _ (Sg.set (g.trans b.ff) (z.grow b) d e r)
theorem mX(h : Ex B sl md te m) : Sn B sl (uK te) (λ_ => sl) m := λa b G D σ H s k => by
  obtain⟨F, O, g, z⟩ := s
  exact h a b F O H σ _ z λv F' H' c r => k _ _ (Sg.grow g z c)
theorem At.own{s : Slot K}{i : Nat}{n : Bool}{xs : List α}{vs : List V}{p : Addr}(h : At B sl F O H σ)(e : sl[i]?=some s)(d : vm s=false)(a : H p=none)(r : A2 (rp K (reg B F H (qg n))) vs xs) :
    ∃b, At B (sl.set i (.ow n xs)) F b (upd H p (.lst vs)) (σ.set i (some (.ref p))) := by
  obtain⟨k, f⟩ := h
  obtain⟨O1, O2, rfl, z⟩ := f.own (c := (p, .lst vs)) (λ_ _ _ z => .ow r z) e d
  exact⟨_, k.add a, z.mono (.refl _) (Tt a) (dI a _)⟩
theorem jO{s : Slot K}{m : Option (List α)}(n : Bool)(i : Nat)(d : sl[i]?=some s)(e : vm s=false)(h : Eo B sl (qg n) te m) : Sn B sl (yc te (kO i)) (λa => sl.set i (.ow n a)) m := λa f G D σ H s k => by
  obtain⟨F, O, g, z⟩ := s
  refine h a f F O H σ _ z λp vs F' H' b l r => k _ _ ?_
  obtain⟨c, j⟩ := (z.grow b).own d e l r
  exact⟨F', c, g.trans b.ff, j⟩
theorem Ah(i : Nat)(f : sl[i]?=some s)(e : vm s=false) : Sn B sl (yc SJ (kO i)) (λ_ => sl.set i (.od ([] : List (Key×α)))) (some ()) := λa ha G D σ H s k => by
  obtain⟨F, O, g, j, d⟩ := s
  intro p b
  refine k _ _ ?_
  obtain⟨O1, O2, rfl, h⟩ := d.own (s' := .od ([] : List (Key×α))) (c := (p, .dK [])) (λ_ _ _ z => .od trivial z) f e
  exact⟨F, _, g, j.add b, h.mono (.refl _) (Tt b) (dI b _)⟩
theorem rK{α : Type} : ∀{l : List α}{i : Nat}{x : α}, l[i]?=some x→l.set i x=l
  |[], _, _, h => by simp at h
  |_::_, 0, _, h => by grind
  |_::l, i+1, _, h => congrArg _ (rK (by grind))
theorem NK{P : Slot K→Bool}(hs : P s=true) : ∀{l : List (Slot K)}{i : Nat}, l.all P=true→(l.set i s).all P=true
  |[], _, h => h
  |_::_, 0, h => by grind
  |_::l, i+1, h => by grind
theorem At.chg{i : Nat}{n : Bool}{xs : List α}(h : At B sl F O H σ)(f : sl[i]?=some (.ow n xs))(d : sl.all (λs => !jm s)=true) : ∃p vs, σ[i]?=some (some (.ref p))∧H p=some (.lst vs)∧A2 (rp K (reg B F H (qg n))) vs xs ∧
    ∀(ws : List V)(ys : List α), A2 (rp K (reg B F H (qg n))) ws ys→∃b, At B (sl.set i (.ow n ys)) F b (upd H p (.lst ws)) σ := by
  obtain⟨k, c⟩ := h
  obtain⟨O1, O2, p, vs, rfl, a, g, e, _⟩ := c.Jl f
  refine⟨p, vs, a, k.one.2.2, g, λws ys r => ⟨_, k.chg (.lst ws), ?_⟩⟩
  have z := e (.ow n ys) (some (.ref p)) (p, .lst ws) λ_ _ _ z => .ow r z
  rw[rK a] at z
  exact z.mut Tv (NK rfl d)
theorem At.Xx(h : At B sl F O H σ)(g : sl[i]?=some (.od kvs))(d : sl.all (λs => !jm s)=true) : ∃p ks, σ[i]?=some (some (.ref p))∧H p=some (.dK ks)∧A2 (λ(x : Key×V) (y : Key×α) => x.1=y.1∧rp K F x.2 y.2) ks kvs ∧
    ∀(ws : List (Key×V))(ys : List (Key×α)), A2 (λ(x : Key×V) (y : Key×α) => x.1=y.1∧rp K F x.2 y.2) ws ys→∃b, At B (sl.set i (.od ys)) F b (upd H p (.dK ws)) σ := by
  obtain⟨k, c⟩ := h
  obtain⟨O1, O2, p, e, rfl, a, j, f, _⟩ := c.Zr g
  refine⟨p, e, a, k.one.2.2, j, λws ys r => ⟨_, k.chg (.dK ws), ?_⟩⟩
  have z := f (.od ys) (some (.ref p)) (p, .dK ws) λ_ _ _ z => .od r z
  rw[rK a] at z
  exact z.mut Tv (NK rfl d)
theorem pJ(i : Nat)(o : sl[i]?=some (.ow n xs))(x : sl.all (λs => !jm s)=true)(h : Ex B sl (qg n) te m) :
    Sn B sl (uK (W4 K "list" Gx (mU i) (cD te fu))) (λys => sl.set i (.ow n ys)) (m.bind λa => push xs a) := λys y G D σ H s k => by
  cases m with
  |none => cases y
  |some a =>
    have b := y
    unfold push at b
    split at b
    case isFalse => cases b
    rename_i C
    cases b
    obtain⟨F, O, g, z⟩ := s
    obtain⟨p, vs, q, I, h3, _⟩ := z.chg o x
    refine⟨_, q, .inl ⟨rfl, _, gj.of I⟩, ?_⟩
    refine h a rfl F O H σ _ z λv F' H' w r => ?_
    obtain⟨p', c, j, f, d, l⟩ := (z.grow w).chg o x
    have e := q.symm.trans j
    cases e
    obtain⟨A, E⟩ := l (c++[v]) (xs++[a]) (d.snoc r)
    exact⟨p, c, v, rfl, rfl, f, k_ (by rw[d.len];exact C), k _ _ ⟨F', A, g.trans w.ff, E⟩⟩
theorem nR(i : Nat)(J : sl[i]?=some (.ow n xs))(C : sl.all (λs => !jm s)=true)(T : Ex B sl (qg n) te m)(M : Ex B sl .hp P mi) :
    Sn B sl (yc te (acq (mU i) P Zn)) (λys => sl.set i (.ow n ys)) (m.bind λa => mi.bind λk => setAt xs k a) := λys o G D σ H s k => by
  cases m with
  |none => cases o
  |some a =>
    cases mi with
    |none => cases o
    |some l =>
      have b : setAt xs l a=some ys := o
      obtain⟨F, O, g, z⟩ := s
      refine T a rfl F O H σ _ z λv F' H' h r => ?_
      obtain⟨p, vs, I, h2, h3, _⟩ := (z.grow h).chg J C
      refine⟨_, I, ?_⟩
      refine M l rfl F' O H' σ _ (z.grow h) λw Q H2 c L => ?_
      cases L
      obtain⟨p', d, q, A, f, y⟩ := ((z.grow h).grow c).chg J C
      have e := I.symm.trans q
      cases e
      unfold setAt at b
      cases E : Rv xs.length l with
      |none => grind
      |some j =>
        rw[E] at b
        cases b
        obtain⟨R, N⟩ := y (d.set j v) (xs.set j a) (f.set (Rp.mono (dJ c (qg n)) r) j)
        exact⟨p, d, l, j, rfl, rfl, A, by rw[f.len, E], k _ _ ⟨Q, R, (g.trans h.ff).trans c.ff, N⟩⟩
end
section
variable{K : afh}{B : Bs}{F H F' H' G : Hp}{O : Own}{sl sl2 : List (Slot K)}{σ : St}{md : Md}{α β γ : Type}[Rp K α][Rp K β][Rp K γ]{tb u v : TS}{te : TE}{m : Option α}{S S' : Type}{al n : Bool}
theorem ug{S α β : Type}(step : S→α→Option (Out S β)) : ∀(xs ys : List α)(s : S), fD step (xs++ys) s=(fD step xs s).bind λo => o.dN λs' => fD step ys s'
  |[], ys, s => rfl
  |x::xs, ys, s => by
    show(step s x).bind _=((step s x).bind _).bind _
    cases step s x with
    |none => rfl
    |some o =>
      cases o with
      |nx s' => exact ug step xs ys s'
      |rt b => rfl
theorem KQ{S α β : Type}{step : S→α→Option (Out S β)}{xs : List α}{s a : S}{x : α}(h : fD step (xs.take i) s=some (.nx a))(c : xs[i]?=some x) : fD step (xs.take (i+1)) s=step a x := by
  have b : xs.take (i+1)=xs.take i++[x] := by rw[take_add_one, c]<;>rfl
  rw[b, ug, h]
  show(step a x).bind _=step a x
  cases step a x with
  |none => rfl
  |some o => cases o<;>rfl
theorem Qo{S α β : Type}{step : S→α→Option (Out S β)}{xs : List α}{s : S}{o : Out S β}{b : β}(h : fD step xs s=some o)(a : fD step (xs.take i) s=some (.rt b)) : o=.rt b := by
  rw[← take_append_drop i xs, ug, a] at h
  cases h
  rfl
theorem KR{S α β : Type}{step : S→α→Option (Out S β)}{xs : List α}{s : S}{o : Out S β}(i : Nat)(h : fD step xs s=some o) : ∃a, fD step (xs.take i) s=some a := by
  rw[← take_append_drop i xs, ug] at h
  cases q : fD step (xs.take i) s with
  |none => grind
  |some a => grind
def Yl(K : afh)(B : Bs)(F' : Hp)(n : Bool)(J : It){α : Type}[Rp K α](xs : List α) : Prop := ∀(i : Nat)(c : Hp)(f : Own)(b : Hp), Same F' c→Ok B c f b →
  (xs.length≤i→J.stop i b)∧∀x, xs[i]?=some x→J.go i b∧∀v d, J.yld i b v d→∃e, dU B c b f e d∧rp K (reg B e d (qg n)) v x
noncomputable def Ei(B : Bs)(sl : List (Slot K))(n : Bool)(b : TI){α : Type}[Rp K α](mi : Option (List α)) : Prop :=
  ∀a, mi=some a→∀(F : Hp)(O : Own)(H : Hp)(σ : St)(R : It→Hp→Prop), At B sl F O H σ→(∀(J : It)(F' H' : Hp), dU B F H O F' H'→Yl K B F' n J a→R J H')→b σ H R
def Tg(B : Bs)(sl : List (Slot K))(n : Bool)(g : TG){α : Type}[Rp K α](L : α→List (Slot K)) : Prop :=
  ∀(v : V)(x : α)(F : Hp)(O : Own)(H : Hp)(σ : St)(Q : St→Hp→Prop), At B sl F O H σ→rp K (reg B F H (qg n)) v x→(∀b, At B (L x) F O H b→Q b H)→g v σ H Q
theorem bO(i : Nat)(b : sl[i]?=some s)(c : vm s=false) : Tg B sl n (kO i) (λx : α => sl.set i (.fz n x)) := λv x F O H σ Q a r k => k _ ⟨a.1, a.2.put (λ_ _ _ z => .fz r z) b c⟩
theorem NP(k : Ok B F O H)(h : reg B F H (qg n) p=some o) : H p=some o := vo k n p o h
theorem nU(i j : Nat)(l : sl[i]?=some s)(g : vm s=false)(d : ∀x : Slot K, (sl.set i x)[j]?=some s')(c : vm s'=false) :
    Tg B sl n (Xc K 2 (DQ (kO i) (DQ (kO j) aac))) (λx : α×β => (sl.set i (.fz n x.1)).set j (.fz n x.2)) := λv x F O H σ Q a r k => by
  obtain⟨p, e, b, rfl, f, o, h⟩ := r
  refine⟨p, [e, b], rfl, .inl (.inl (NP a.1 f)), rfl, e, [b], rfl, b, [], rfl, rfl, ?_⟩
  exact k _ ⟨a.1, (a.2.put (λ_ _ _ z => .fz o z) l g).put (λ_ _ _ z => .fz h z) (d _) c⟩
theorem lq{L : S→List (Slot K)}{A : S→α→List (Slot K)}{step : S→α→Option S}(f : S)(h0 : Le sl (L f))(R : Ei B (L f) n I mi)(hg : ∀s, Tg B (L s) n g (A s))(hb : ∀s x, Sn B (A s x) tb L (step s x)) :
    Sn B sl (Xd I g tb) L (mi.bind λxs => foldM step xs f) := λU b G D σ H q k => by
  cases mi with
  |none => cases b
  |some xs =>
    have b : foldM step xs f=some U := b
    obtain⟨F, O, Y, a⟩ := q.le h0
    refine R xs rfl F O H σ _ a λJ F' H' y Z => ?_
    refine⟨λi m σ H => m=xs.length-i∧i≤xs.length∧∃s, foldM step (xs.take i) f=some s∧Sg B F' (L s) σ H, ⟨xs.length, rfl, afz _, f, rfl, F', O, .refl _, a.grow y⟩, ?_⟩
    rintro i m σ H ⟨rfl, hil, s, o, E, h, j, l⟩
    obtain⟨y1, y2⟩ := Z i E h H j l.1
    by_cases d : i<xs.length
    · obtain⟨M, Q⟩ := y2 xs[i] (afi d)
      obtain⟨s', c, t, X, N⟩ := KN b (afi d)
      rw[o] at t
      cases t
      refine .inr ⟨M, Sg B F' (L c), λw H' z => ⟨xs.length-(i+1), by lia, rfl, d, c, N, z⟩, λv p P => ?_⟩
      obtain⟨r, C, r3⟩ := Q v p P
      exact hg s v xs[i] r h p σ _ (l.grow C) r3 λw T => hb s xs[i] c X F' _ w p ⟨r, h, j.trans C.ff, T⟩ λσ2 H2 z => z
    · have e : i=xs.length := by lia
      subst e
      rw[take_length, b] at o
      cases o
      exact .inl ⟨y1 (afj _), k σ H ⟨E, h, (Y.trans y.ff).trans j, l⟩⟩
theorem Bo{L : S→List (Slot K)}{A : S→α→List (Slot K)}{step : S→α→Option (Out S β)}(h : S)(h0 : Le sl (L h))(T : Ei B (L h) n N mi)(hg : ∀s, Tg B (L s) n g (A s))(Z : ∀s x, Sx B (A s x) tb al L (step s x)) :
    Sx B sl (Xd N g tb) al L (mi.bind λxs => fD step xs h) := λo d G D σ H q k => by
  cases mi with
  |none => cases d
  |some xs =>
    have d : fD step xs h=some o := d
    obtain⟨F, O, Y, a⟩ := q.le h0
    refine T xs rfl F O H σ _ a λJ F' H' y X => ?_
    refine⟨λi m σ H => m=xs.length-i∧i≤xs.length∧∃s, fD step (xs.take i) h=some (.nx s)∧Sg B F' (L s) σ H, ⟨xs.length, rfl, afz _, h, rfl, F', O, .refl _, a.grow y⟩, ?_⟩
    rintro i m σ H ⟨rfl, hil, s, t, M, j, r, p⟩
    obtain⟨y1, y2⟩ := X i M j H r p.1
    by_cases c : i<xs.length
    · obtain⟨go, R⟩ := y2 xs[i] (afi c)
      have e2 := KQ t (afi c)
      obtain⟨l, P⟩ := KR (i+1) d
      refine .inr ⟨go, λσ H => ∃f, l=.nx f∧Sg B F' (L f) σ H, (by rintro C H' ⟨f, e, z⟩;exact⟨xs.length-(i+1), by lia, rfl, c, f, by grind, z⟩), λv w Q => ?_⟩
      obtain⟨E, I, r3⟩ := R v w Q
      refine hg s v xs[i] E j w σ _ (p.grow I) r3 λC U => Z s xs[i] l (by grind) F' _ C w ⟨E, j, r.trans I.ff, U⟩ ?_
      cases l with
      |nx f => exactλσ2 H2 z => ⟨f, rfl, z⟩
      |rt b =>
        have := Qo d P
        subst this
        exact k
    · have e : i=xs.length := by lia
      subst e
      rw[take_length, d] at t
      cases t
      exact .inl ⟨y1 (afj _), k σ H ⟨M, j, (Y.trans y.ff).trans r, p⟩⟩
theorem cM{mi : Option (List α)}(h : Ex B sl (qg n) te mi) : Ei B sl n (RM K te) mi := λt d F O H σ R a k => by
  refine h t d F O H σ _ a λv F' H' j r => ?_
  obtain⟨p, b, rfl, c, q⟩ := r
  refine⟨p, rfl, ⟨b, gj.of (vo j.ok n p _ c)⟩, k _ F' H' j λi s O2 C l g => ?_⟩
  have f : gj K C p b := gj.of (g.fh _ _ (l _ _ (by cases n with|true => exact eU _ _ c|false => exact c)))
  refine⟨λz => ⟨b, f, by rw[q.len];exact z⟩, λx d => ?_⟩
  obtain⟨w, o, D⟩ := q.at2 d
  refine⟨⟨b, w, f, o⟩, λv H3 A => ?_⟩
  obtain⟨e, y⟩ := A
  subst e
  have := (o.symm.trans (y b f))
  cases this
  exact⟨s, .refl g, Rp.mono (d7 n l) D⟩
theorem Jm{k i : Nat}{x : Int}(h : ((aha k).map ai1)[i]?=some x) : i<k∧x=i := by
  grind
theorem iY(h : Ex B sl .hp te mi) : Ei B sl n (Zf (cD te fu)) (mi.bind gO) := λl b F O H σ R a k => by
  cases mi with
  |none => cases b
  |some j =>
    have b : gO j=some l := b
    unfold gO at b
    split at b
    case isFalse => cases b
    rename_i c
    cases b
    refine h j rfl F O H σ _ a λv F' H' o r => ?_
    cases r
    refine⟨j, rfl, c.1, c.2, k _ F' H' o λi p O2 H2 sf g => ⟨λd => ?_, λx b => ?_⟩⟩
    · rw[length_map, List.length_range] at d;exact d
    · obtain⟨f, rfl⟩ := Jm b
      refine⟨f, λv H3 e => ?_⟩
      obtain⟨rfl, rfl⟩ := e
      exact⟨p, .refl g, by show V.int (0+(i : Int))=V.int i;grind⟩
def bT{α : Type}(xs : List α) : List (Int×α) := ((aha xs.length).map ai1).zip xs
theorem jP{α : Type}{xs : List α}{i : Nat}{x : Int×α}(h : (bT xs)[i]?=some x) : x.1=i∧xs[i]?=some x.2 := by
  unfold bT at h
  grind
theorem cu{α : Type}(xs : List α) : (bT xs).length=xs.length := by unfold bT;simp
theorem uh{mi : Option (List α)}(h : Ex B sl (qg n) te mi) : Ei B sl n (Te K (cD te fu)) (mi.bind λxs => some (bT xs)) := λxs c F O H σ R a k => by
  cases mi with
  |none => cases c
  |some z =>
    cases(c)
    refine h z rfl F O H σ _ a λv F' H' l r => ?_
    obtain⟨p, b, rfl, f, s⟩ := r
    refine⟨p, rfl, ⟨b, gj.of (vo l.ok n p _ f)⟩, k _ F' H' l λi F2 O2 I g d => ?_⟩
    have e : gj K I p b := gj.of (d.fh _ _ (g _ _ (by cases n with|true => exact eU _ _ f|false => exact f)))
    refine⟨λD => ⟨b, e, by rw[s.len, ← cu];exact D⟩, λx c => ?_⟩
    obtain⟨C, E⟩ := jP c
    obtain⟨w, q, A⟩ := s.at2 E
    refine⟨⟨b, w, e, q⟩, λv H3 J => ?_⟩
    obtain⟨t, x', rfl, o, rfl, y⟩ := J
    have := (q.symm.trans (y b e))
    cases this
    have j := dU.new d o (.tup [.int i, w])
    refine⟨_, j, t, .int i, w, rfl, ?_, ?_, Rp.mono (d7 n (g.trans j.ff)) A⟩
    · exact mW d o (qg n)
    · rw[C];rfl
noncomputable def bL{α β : Type}(c : α→Option Bool)(f : α→Option β)(xs : List α) : Option (List β) := if xs.length<cap then dz c f xs else none
theorem um{α β : Type}(c : α→Option Bool)(f : α→Option β) : ∀(xs ys : List α), dz c f (xs++ys)=(dz c f xs).bind λa => (dz c f ys).bind λb => some (a++b)
  |[], ys => by
    rw[nil_append]
    show dz c f ys=(dz c f ys).bind λb => some ([]++b)
    cases dz c f ys<;>rfl
  |x::xs, ys => by
    show(c x).bind _=((c x).bind _).bind _
    cases c x with
    |none => rfl
    |some b =>
      cases b with
      |true =>
        show(f x).bind _=((f x).bind _).bind _
        cases f x with
        |none => rfl
        |some y =>
          show(dz c f (xs++ys)).bind _=((dz c f xs).bind _).bind _
          rw[um c f xs ys]
          cases dz c f xs with
          |none => rfl
          |some a =>
            show((dz c f ys).bind _).bind _=(dz c f ys).bind _
            cases dz c f ys<;>rfl
      |false => exact um c f xs ys
theorem yt{α β : Type}(c : α→Option Bool)(f : α→Option β) : ∀{xs : List α}{ys : List β}, dz c f xs=some ys→ys.length≤xs.length
  |[], ys, h => by cases h;grind
  |x::xs, ys, h => by
    have h : ((c x).bind λb => if b=true then(f x).bind λy => (dz c f xs).bind λys => some (y::ys) else dz c f xs)=some ys := h
    cases e : c x with
    |none => grind
    |some b =>
      rw[e] at h
      cases b with
      |true =>
        have h : ((f x).bind λy => (dz c f xs).bind λys => some (y::ys))=some ys := by grind
        cases d : f x with
        |none => grind
        |some y =>
          rw[d] at h
          cases a : dz c f xs with
          |none => grind
          |some zs =>
            rw[a] at h
            cases h
            exact ahg (yt c f a)
      |false =>
        have h : dz c f xs=some ys := by grind
        exact Nat.le_succ_of_le (yt c f h)
theorem KY{α β : Type}{c : α→Option Bool}{f : α→Option β}{xs : List α}{zs : List β}(i : Nat)(h : dz c f xs=some zs) : ∃ys, dz c f (xs.take i)=some ys := by
  rw[← take_append_drop i xs, um] at h
  cases q : dz c f (xs.take i) with
  |none => grind
  |some o' => grind
theorem KZ{α β : Type}{c : α→Option Bool}{f : α→Option β}{xs : List α}{zs ys : List β}{x : α}(h : dz c f (xs.take (i+1))=some zs)(d : dz c f (xs.take i)=some ys)(g : xs[i]?=some x) :
    (c x=some false∧zs=ys)∨∃y, c x=some true∧f x=some y∧zs=ys++[y] := by
  have a : xs.take (i+1)=xs.take i++[x] := by rw[take_add_one, g]<;>rfl
  rw[a, um, d] at h
  have h : (((c x).bind λb => if b=true then(f x).bind λy => some [y] else some []).bind λb => some (ys++b))=some zs := h
  cases e : c x with
  |none => rw[e] at h;cases h
  |some b =>
    rw[e] at h
    cases b with
    |true =>
      have h : (((f x).bind λy => some [y]).bind λb => some (ys++b))=some zs := by simpa using h
      cases a : f x with
      |none => rw[a] at h;cases h
      |some y => rw[a] at h;cases h;exact .inr ⟨y, rfl, rfl, rfl⟩
    |false =>
      have h : some (ys++[])=some zs := by simpa using h
      rw[append_nil] at h
      cases h
      exact .inl ⟨rfl, rfl⟩
abbrev ac4 : Slot K→Slot K
  |.un => .un
  |@Slot.fz _ n _ i a => @Slot.fz _ n _ i a
  |@Slot.hs _ _ i a => @Slot.hs _ _ i a
  |@Slot.nu _ _ i a => @Slot.hs _ _ i a
  |@Slot.ow _ _ _ i b => @Slot.hs _ _ _ b
  |@Slot.od _ _ _ _ => .un
  |@Slot.ob _ _ _ _ _ => .un
theorem dU.lift(k : Ok B F O H)(g : dU B F H [] F' H') : dU B F H O F' H' :=
  ⟨g.ff, g.hh, ⟨g.ok.fh, g.ok.h0, g.ok.fa, λx b => by
    obtain⟨a, c, d⟩ := k.fo x b
    exact⟨g.nw _ a (by grind), c, g.hh _ _ d⟩, k.nd⟩, g.nw⟩
theorem Ok.nil(k : Ok B F O H) : Ok B F [] H := ⟨k.fh, k.h0, k.fa, λx a => (by cases a), (by simp)⟩
theorem aJ.one(a : At B sl F O H σ)(L : Hp)(j : Nat)(f : sl[j]?=some s) : ∀{e : List (Slot K)}{g : St}, aJ B F L H e g []→aJ B F L H (ac4 s::e) ((σ[j]?).getD none::g) [] := λ{e g} h => by
  cases s with
  |un => exact .un h
  |fz n b => obtain⟨v, c, d⟩ := a.2.Nv f;rw[c];exact .fz d h
  |hs b => obtain⟨v, c, d⟩ := a.2.ac2 f;rw[c];exact .hs d h
  |nu b => obtain⟨v, c, d⟩ := a.2.Tq f;rw[c];exact .hs (Rp.mono (eU.trans lo_le) d) h
  |ow n xs =>
    obtain⟨k, i⟩ := a
    obtain⟨O1, O2, p, l, rfl, c, d, _⟩ := i.Jl f
    rw[c]
    exact .hs ⟨p, l, rfl, k.one.2.2, d.imp λ_ _ => Rp.mono (vo k n)⟩ h
  |od kvs => exact .un h
  |ob n a => exact .un h
def Xy(sl : List (Slot K))(n : Nat)(ix : List Nat) : List (Slot K) := replicate n .un++ix.map λj => ac4 ((sl[j]?).getD .un)
theorem NQ(a : At B sl F O H σ)(L : Hp)(n : Nat) : ∀(ix : List Nat), (∀j∈ix, j<sl.length)→aJ B F L H (Xy sl n ix) (vf σ n ix) [] := λix b => by
  unfold Xy vf
  induction n with
  |zero =>
    induction ix with
    |nil => exact .nil
    |cons j ix ih =>
      have c := b j mem_cons_self
      have d := afi c
      have z := aJ.one a L j d (ih λk e => b k (mem_cons_of_mem _ e))
      grind
  |succ n ih => exact .un ih
inductive Ir : List (Slot K)→List (Slot K)→Prop
  |nil : Ir [] []
  |eq {s : Slot K} {a b : List (Slot K)} : Ir a b→Ir (s::a) (s::b)
  |un {s : Slot K} {a b : List (Slot K)} : Ir a b→Ir (s::a) (.un::b)
theorem aJ.le1(l : Ir sl sl2) : ∀{σ : St}{O : Own}, aJ B F L H sl σ O→O=[]→aJ B F L H sl2 σ [] := by
  induction l with
  |nil => grind
  |eq _ ih =>
    intro σ O h e
    cases h with
    |un h => exact .un (ih h e)
    |fz r h => exact .fz r (ih h e)
    |hs r h => exact .hs r (ih h e)
    |nu r h => exact .nu r (ih h e)
    |ow r h => cases e
    |od r h => cases e
    |ob r h =>
      obtain⟨a, b⟩ := append_eq_nil_iff.mp e
      subst a
      exact .ob r (ih h b)
  |un _ ih =>
    intro σ O h e
    cases h with
    |un h => exact .un (ih h e)
    |fz r h => exact .un (ih h e)
    |hs r h => exact .un (ih h e)
    |nu r h => exact .un (ih h e)
    |ow r h => cases e
    |od r h => cases e
    |ob r h => exact .un (ih h (append_eq_nil_iff.mp e).2)
theorem aJ.le0(l : Ir sl sl2)(h : aJ B F L H sl σ []) : aJ B F L H sl2 σ [] := h.le1 l rfl
theorem cY{c : α→Option Bool}{f : α→Option β}{ix : List Nat}(Z : (ix.all λj => decide (j<sl.length))=true)(hI : lu=Xy sl no ix)(hi : Ei B sl n wi mi)(hg : Tg B lu n g Lx)(hc : ∀x, Et B (Lx x) tc (c x))(he : ∀x, Ex B (Lx x) md te (f x))(hle : ∀x, Ir (Lx x) lu) :
    Eo B sl md (Bk no ix wi g tc te) (mi.bind λxs => bL c f xs) := λzs r F O H σ Q a k => by
  cases mi with
  |none => cases r
  |some xs =>
    have r : bL c f xs=some zs := r
    unfold bL at r
    split at r
    case isFalse => cases r
    rename_i N
    have hcl := k_ N
    refine hi xs rfl F O H σ _ a λJ F' H' gr yl => ?_
    have a' := a.grow gr
    refine⟨λi m D A d => m=xs.length-i∧i≤xs.length∧∃(h : Hp)(ws : List β), dz c f (xs.take i)=some ws∧dU B F' H' O h d∧aJ B h (lo h [] d) d lu A []∧A2 (rp K (reg B h d md)) D ws,
      ⟨xs.length, rfl, afz _, F', [], rfl, .refl a'.1, ?_, trivial⟩, ?_⟩
    · rw[hI]
      exact NQ a' _ no ix λj hj => by simpa using(all_eq_true.mp Z) j hj
    rintro i m D A d ⟨rfl, hil, h, ws, P, X, s2, U⟩
    have hyl : D.length≤xs.length := by
      rw[U.len]
      exact afl (yt c f P) (by rw[length_take];lia)
    obtain⟨y1, y2⟩ := yl i h O d X.ff X.ok
    by_cases t : i<xs.length
    · obtain⟨go, y3⟩ := y2 xs[i] (afi t)
      obtain⟨E, M⟩ := KY (i+1) r
      refine .inr ⟨go, by lia, λD A d => ∃(h : Hp), dU B F' H' O h d∧aJ B h (lo h [] d) d lu A []∧A2 (rp K (reg B h d md)) D E, (by rintro ys' σ' H' ⟨z, I, L, z3⟩;exact⟨xs.length-(i+1), by lia, rfl, t, z, E, M, I, L, z3⟩), λv C yd => ?_⟩
      obtain⟨z, b, r3⟩ := y3 v C yd
      have g23 := X.trans b
      have at3 : At B lu z [] C A := ⟨b.ok.nil, s2.mono b.ff (Ag ⟨b.ff, b.hh, b.ok.nil, b.nw⟩) b.hh⟩
      refine hg v xs[i] z [] C A _ at3 r3 λT R => ?_
      have s : ∀{o q : Hp}, dU B z C [] o q→dU B F' H' O o q∧aJ B o (lo o [] q) q lu T [] := λ{o q} l => ⟨g23.trans (dU.lift b.ok l), (R.grow l).2.le0 (hle xs[i])⟩
      rcases KZ M P (afi t) with⟨Y, rfl⟩|⟨y, Y, e2, rfl⟩
      · refine hc xs[i] false Y z [] C T _ R λo q l => oM ?_
        obtain⟨I, L⟩ := s l
        exact⟨o, I, L, U.imp λ_ _ => Rp.mono (dJ (b.trans (dU.lift b.ok l)) md)⟩
      · refine hc xs[i] true Y z [] C T _ R λo q l => Bj ?_
        refine he xs[i] y e2 o [] q T _ (R.grow l) λw F6 H6 g6 r6 => ?_
        obtain⟨I, L⟩ := s (l.trans g6)
        exact⟨F6, I, L, (U.imp λ_ _ => Rp.mono (dJ (b.trans (dU.lift b.ok (l.trans g6))) md)).snoc r6⟩
    · have e : i=xs.length := by lia
      subst e
      rw[take_length, r] at P
      cases P
      exact .inl ⟨y1 (afj _), by lia, λp hp => k p D h d (gr.trans X) hp U⟩
abbrev isF : Slot K→Bool
  |@Slot.fz _ false _ _ _ => true
  |_ => false
theorem oR{as : List (Slot K)}(k : Nat)(a : as.all isF=true)(r : Ar F as vs) : aJ ⟨F, H⟩ F L' H (as++replicate k .un) (vs.map some++replicate k none) [] := by
  induction r with
  |nil =>
    show aJ _ _ _ _ ([]++_) ([]++_) []
    induction k with
    |zero => exact .nil
    |succ k ih => exact .un ih
  |@cons n _ _ _ _ _ _ r _ ih =>
    rw[all_cons, agf] at a
    cases n with
    |false => exact .fz r (ih a.2)
    |true => grind
theorem Ar.len(r : Ar F as vs) : vs.length=as.length := by
  induction r with
  |nil => rfl
  |cons _ _ ih => grind
theorem TX{A : Type}{as : A→List (Slot K)}{f : A→Option β}{N : List Str}(p : ∀a, (as a).all isF=true)(k : ∀a, (as a).length=i)(j : ∀c a, SB ⟨c, H⟩ (as a++replicate (N.length-i) .un) t al (f a))(h : nD K al as f vs H Q E) : t { nx := λ_ H' => Q .non H', rt := Q } (L2.start N vs) H := by
  obtain⟨a, b, c, s, d, r, q⟩ := h
  have e : L2.start N vs=vs.map some++replicate (N.length-i) none := by
    unfold L2.start
    rw[r.len, k]
  rw[e]
  refine j c a b d c _ _ H ⟨c, [], .refl _, ⟨s, .refl _, λb o h => .inl h, λx l => (by cases l), (by simp)⟩, oR _ (p a) r⟩ (λv H' z => q v H' z.1 z.2)
theorem K1{A : Type}{as : A→List (Slot K)}{f : A→Option β}(c : ∀a, (as a).length=d)(h : nD K al as f vs H Q E) : vs.length=d := by
  obtain⟨a, b, Fa, s, hfa, r, q⟩ := h
  rw[r.len, c]
end
open PySem.SeqAt (EqAt RcAt RcNeAt)
class Eqv (K : afh) (α : Type) [Rp K α] [DecidableEq α] where
  dep : Nat
  det : ∀{H : Hp}{v : V}{a b : α}, rp K H v a→rp K H v b→a=b
  eqA : ∀{X : Cx}{pins : List (Addr×Obj)}{σ : St}{H : Hp}{s : Shared}, Inv X pins σ H s→∀{A : Around}, A.units+dep<cLine→∀{v w : V}{u u' : Value}{a b : α}, rp K H v a→rp K H w b→RelV v u→RelV w u'→EqAt A s u u' (decide (a=b))
  rcA : ∀{X : Cx}{pins : List (Addr×Obj)}{σ : St}{H : Hp}{s : Shared}, Inv X pins σ H s→∀{A : Around}, A.units+dep<cLine→∀{v w : V}{u u' : Value}{a b : α}, rp K H v a→rp K H w b→RelV v u→RelV w u'→RcAt A s u u' (decide (a=b))
  neA : ∀{X : Cx}{pins : List (Addr×Obj)}{σ : St}{H : Hp}{s : Shared}, Inv X pins σ H s→∀{A : Around}, A.units+dep<cLine→∀{v w : V}{u u' : Value}{a b : α}, rp K H v a→rp K H w b→RelV v u→RelV w u'→RcNeAt A s u u' (!decide (a=b))
section
variable{K : afh}
theorem K3{α : Type}[BEq α][LawfulBEq α][DecidableEq α](a b : α) : (a==b)=decide (a=b) := by
  grind
instance : Eqv K Int where
  dep := 0
  det h1 h2 := by cases h1;cases h2;rfl
  eqA _ _ _ _ _ _ _ _ _ h1 h2 r1 r2 := by cases h1;cases h2;obtain⟨t, rfl⟩ := r1;obtain⟨t', rfl⟩ := r2;rw[← K3];exact EqAt.int_int _ _ _ _
  rcA _ _ _ _ _ _ _ _ _ h1 h2 r1 r2 := by cases h1;cases h2;obtain⟨t, rfl⟩ := r1;obtain⟨t', rfl⟩ := r2;rw[← K3];exact RcAt.int_int _ _ _ _
  neA _ _ _ _ _ _ _ _ _ h1 h2 r1 r2 := by cases h1;cases h2;obtain⟨t, rfl⟩ := r1;obtain⟨t', rfl⟩ := r2;rw[← K3];exact RcNeAt.int_int _ _ _ _
instance : Eqv K Str where
  dep := 0
  det h1 h2 := by cases h1;cases h2;rfl
  eqA _ _ _ _ _ _ _ _ _ h1 h2 r1 r2 := by cases h1;cases h2;obtain⟨t, rfl⟩ := r1;obtain⟨t', rfl⟩ := r2;rw[← K3];exact EqAt.str_str _ _ _ _
  rcA _ _ _ _ _ _ _ _ _ h1 h2 r1 r2 := by cases h1;cases h2;obtain⟨t, rfl⟩ := r1;obtain⟨t', rfl⟩ := r2;rw[← K3];exact RcAt.str_str _ _ _ _
  neA _ _ _ _ _ _ _ _ _ h1 h2 r1 r2 := by cases h1;cases h2;obtain⟨t, rfl⟩ := r1;obtain⟨t', rfl⟩ := r2;rw[← K3];exact RcNeAt.str_str _ _ _ _
theorem A2.det{α β : Type}{R : α→β→Prop}(h : ∀x y z, R x y→R x z→y=z) : ∀{xs : List α}{ys zs : List β}, A2 R xs ys→A2 R xs zs→ys=zs
  |[], [], [], _, _ => rfl
  |_::_, _::_, _::_, h1, h2 => by rw[h _ _ _ h1.1 h2.1, A2.det h h1.2 h2.2]
  |[], _::_, _, h1, _ => h1.elim
  |[], [], _::_, _, h2 => h2.elim
  |_::_, [], _, h1, _ => h1.elim
  |_::_, _::_, [], _, h2 => h2.elim
theorem mY{α : Type}[DecidableEq α] : ∀{xs ys : List α}, xs.length=ys.length→((aha xs.length).all λj => decide (xs[j]?=ys[j]?))=decide (xs=ys)
  |[], [], _ => by simp
  |x::xs, y::ys, h => by
    have ih := mY (xs := xs) (ys := ys) (by grind)
    rw[length_cons, List.range_succ_eq_map, all_cons, all_map]
    grind
  |[], _::_, h => by simp at h
  |_::_, [], h => by simp at h
theorem Er{α : Type}[Rp K α]{xs : List α}(r : Vals vs us)(h : A2 (rp K H) vs xs)(j : Nat)(hj : j<us.toArray.size) : ∃v x, xs[j]?=some x∧rp K H v x∧RelV v us.toArray[j] := by
  have l1 : j<vs.length := by rw[r.length];grind
  obtain⟨u, hu, ru⟩ := r.get (afi l1)
  obtain⟨x, hx, rx⟩ := h.at1 (afi l1)
  grind
theorem in1_units{A : Around} : A.in1.units=A.units+1 := rfl
instance{α : Type}[Rp K α][DecidableEq α][Eqv K α] : Eqv K (List α) where
  dep := Eqv.dep K α+1
  det {H v a b} h1 h2 := by
    obtain⟨p, vs, rfl, h1, r1⟩ := h1
    obtain⟨p', vs', e, h2, r2⟩ := h2
    cases e
    cases h1.symm.trans h2
    exact A2.det (R := rp K H) (λ_ _ _ z1 z2 => Eqv.det (K := K) z1 z2) r1 r2
  rcA {X pins σ H s} I {A} hu {v w u u' a b} h1 h2 q1 q2 := by
    obtain⟨p, vs, rfl, h1, r1⟩ := h1
    obtain⟨p', ws, rfl, h2, r2⟩ := h2
    cases q1;cases q2
    obtain⟨us, s1, p1, _⟩ := I.list (gj.of h1)
    obtain⟨us', s2, p2, _⟩ := I.list (gj.of h2)
    have n1 : us.toArray.size=a.length := by rw[size_toArray, ← r1.len];exact s1.length.symm
    have n2 : us'.toArray.size=b.length := by rw[size_toArray, ← r2.len];exact s2.length.symm
    by_cases hl : a.length=b.length
    · have z := RcAt.lists (e := λj => decide (a[j]?=b[j]?)) p1.isList p2.isList (by rw[n1, n2];exact hl) (aft (ahf _ _) hu) (λj h1 h2 => by
        obtain⟨v, x, e1, e2, e3⟩ := Er s1 r1 j h1
        obtain⟨w, y, f1, f2, f3⟩ := Er s2 r2 j h2
        rw[e1, f1]
        have z := Eqv.eqA (K := K) I (A := A.in1) (by rw[in1_units];omega) e2 f2 e3 f3
        simpa using z)
      rw[n1, mY hl] at z
      exact z
    · rw[show decide (a=b)=false by simp;intro e;exact hl (by rw[e])]
      exact RcAt.lists_lengths p1.isList p2.isList (by rw[n1, n2];exact bne_iff_ne.mpr hl) (aft (ahf _ _) hu)
  neA {X pins σ H s} I {A} hu {v w u u' a b} h1 h2 q1 q2 := by
    obtain⟨p, vs, rfl, h1, r1⟩ := h1
    obtain⟨p', ws, rfl, h2, r2⟩ := h2
    cases q1;cases q2
    obtain⟨us, s1, p1, _⟩ := I.list (gj.of h1)
    obtain⟨us', s2, p2, _⟩ := I.list (gj.of h2)
    have n1 : us.toArray.size=a.length := by rw[size_toArray, ← r1.len];exact s1.length.symm
    have n2 : us'.toArray.size=b.length := by rw[size_toArray, ← r2.len];exact s2.length.symm
    by_cases hl : a.length=b.length
    · have z := RcNeAt.lists (e := λj => decide (a[j]?=b[j]?)) p1.isList p2.isList (by rw[n1, n2];exact hl) (aft (ahf _ _) hu) (λj h1 h2 => by
        obtain⟨v, x, e1, e2, e3⟩ := Er s1 r1 j h1
        obtain⟨w, y, f1, f2, f3⟩ := Er s2 r2 j h2
        rw[e1, f1]
        have z := Eqv.eqA (K := K) I (A := A.in1) (by rw[in1_units];omega) e2 f2 e3 f3
        simpa using z)
      rw[n1, mY hl] at z
      exact z
    · rw[show decide (a=b)=false by simp;intro e;exact hl (by rw[e])]
      exact RcNeAt.lists_lengths p1.isList p2.isList (by rw[n1, n2];exact bne_iff_ne.mpr hl) (aft (ahf _ _) hu)
  eqA {X pins σ H s} I {A} hu {v w u u' a b} h1 h2 q1 q2 := by
    obtain⟨p, vs, rfl, h1, r1⟩ := h1
    obtain⟨p', ws, rfl, h2, r2⟩ := h2
    cases q1;cases q2
    by_cases hp : p=p'
    · subst hp
      cases h1.symm.trans h2
      rw[show a=b from A2.det (R := rp K H) (λ_ _ _ z1 z2 => Eqv.det (K := K) z1 z2) r1 r2]
      simp
      exact EqAt.same _
    · refine EqAt.of_refs hp ?_
      obtain⟨us, s1, p1, _⟩ := I.list (gj.of h1)
      obtain⟨us', s2, p2, _⟩ := I.list (gj.of h2)
      have n1 : us.toArray.size=a.length := by rw[size_toArray, ← r1.len];exact s1.length.symm
      have n2 : us'.toArray.size=b.length := by rw[size_toArray, ← r2.len];exact s2.length.symm
      by_cases hl : a.length=b.length
      · have z := RcAt.lists (e := λj => decide (a[j]?=b[j]?)) p1.isList p2.isList (by rw[n1, n2];exact hl) (aft (ahf _ _) hu) (λj h1 h2 => by
          obtain⟨v, x, e1, e2, e3⟩ := Er s1 r1 j h1
          obtain⟨w, y, f1, f2, f3⟩ := Er s2 r2 j h2
          rw[e1, f1]
          have z := Eqv.eqA (K := K) I (A := A.in1) (by rw[in1_units];omega) e2 f2 e3 f3
          simpa using z)
        rw[n1, mY hl] at z
        exact z
      · rw[show decide (a=b)=false by simp;intro e;exact hl (by rw[e])]
        exact RcAt.lists_lengths p1.isList p2.isList (by rw[n1, n2];exact bne_iff_ne.mpr hl) (aft (ahf _ _) hu)
def Xz(K : afh)(α : Type)[Rp K α][DecidableEq α](neg : Bool) : R2 := λx y H Q => ∃a b : α, rp K H x a∧rp K H y b∧Q (.bl (if neg=true then !decide (a=b) else decide (a=b))) H
theorem cR(K : afh)(α : Type)[Rp K α][DecidableEq α][Eqv K α]{X : Cx}(hr : f9 k X.A)(hd : Eqv.dep K α≤64 := by exact Nat.le_of_ble_eq_true rfl) : zj X (compareOp .Eq) (Xz K α false) := by
  intro pins s σ H x y v u Q I rx ry h
  obtain⟨a, b, h1, h2, q⟩ := h
  exact Eqv.rcA I (by have := hr.units;lia) h1 h2 rx ry _ _ _ _ ⟨.bl (decide (a=b)), H, I, rfl, q⟩
theorem qx(K : afh)(α : Type)[Rp K α][DecidableEq α][Eqv K α]{X : Cx}(hr : f9 k X.A)(hd : Eqv.dep K α≤64 := by exact Nat.le_of_ble_eq_true rfl) : zj X (compareOp .NotEq) (Xz K α true) := by
  intro pins s σ H x y v u Q I rx ry h
  obtain⟨a, b, h1, h2, q⟩ := h
  exact Eqv.neA I (by have := hr.units;lia) h1 h2 rx ry _ _ _ _ ⟨.bl (!decide (a=b)), H, I, rfl, q⟩
variable{B : Bs}{sl : List (Slot K)}{md md1 : Md}{α β : Type}[Rp K α][Rp K β]{t1 t2 t : TE}
theorem cT[DecidableEq α]{m1 m2 : Option α}(h1 : Ex B sl .hp t1 m1)(h2 : Ex B sl .hp t2 m2) : Ex B sl md (wD (Xz K α false) t1 t2) (m1.bind λa => m2.bind λb => some (decide (a=b))) :=
  wQ (λa b c v w H Q e r1 r2 q => by cases e;exact⟨a, b, r1, r2, q⟩) h1 h2
theorem qy[DecidableEq α]{m1 m2 : Option α}(h1 : Ex B sl .hp t1 m1)(h2 : Ex B sl .hp t2 m2) : Ex B sl md (wD (Xz K α true) t1 t2) (m1.bind λa => m2.bind λb => some (!decide (a=b))) :=
  wQ (λa b c v w H Q e r1 r2 q => by cases e;exact⟨a, b, r1, r2, q⟩) h1 h2
section
variable{m1 m2 : Option Int}
theorem GJ{g : Int→Int→V}{f : Int→Int→α}[Sc K α](hg : ∀i j, g i j=Sc.val K (f i j))(h1 : Ex B sl .hp t1 m1)(h2 : Ex B sl .hp t2 m2) : Ex B sl md (wD (Ko g) t1 t2) (m1.bind λa => m2.bind λb => some (f a b)) :=
  wQ (λa b c v w H Q e r1 r2 q => by cases r1;cases r2;exact⟨a, b, rfl, rfl, by grind⟩) h1 h2
theorem iT(h1 : Ex B sl .hp t1 m1)(h2 : Ex B sl .hp t2 m2) : Ex B sl md (wD (Ko λi j => .int (i+j)) t1 t2) (m1.bind λa => m2.bind λb => some (a+b)) := GJ (λ_ _ => rfl) h1 h2
theorem rN(h1 : Ex B sl .hp t1 m1)(h2 : Ex B sl .hp t2 m2) : Ex B sl md (wD (Ko λi j => .int (i-j)) t1 t2) (m1.bind λa => m2.bind λb => some (a-b)) := GJ (λ_ _ => rfl) h1 h2
theorem TY(h1 : Ex B sl .hp t1 m1)(h2 : Ex B sl .hp t2 m2) : Ex B sl md (wD (Ko λi j => .bl (decide (i<j))) t1 t2) (m1.bind λa => m2.bind λb => some (decide (a<b))) := GJ (λ_ _ => rfl) h1 h2
theorem Jo(h1 : Ex B sl .hp t1 m1)(h2 : Ex B sl .hp t2 m2) : Ex B sl md (wD (Ko λi j => .bl (decide (j<i))) t1 t2) (m1.bind λa => m2.bind λb => some (decide (b<a))) := GJ (λ_ _ => rfl) h1 h2
noncomputable def mulM(a b : Int) : Option Int := if(-(2^64)<a∧a<2^64)∨(-(2^64)<b∧b<2^64) then some (a*b) else none
noncomputable def dW(a b : Int) : Option Int := if 0<b then some (a%b) else none
noncomputable def uH(a b : Int) : Option Int := if 0<b∧b<1073741824 then some (a/b) else none
noncomputable def Jp(a b : Int) : Option Int := if 0≤b∧b≤1000000∧a.natAbs<2^64 then some (a^b.toNat) else none
theorem T3(h1 : Ex B sl .hp t1 m1)(h2 : Ex B sl .hp t2 m2) : Ex B sl md (wD (rI Xf λi j => .int (i*j)) t1 t2) (m1.bind λa => m2.bind λb => mulM a b) :=
  wQ (λa b c v w H Q e r1 r2 q => by
    unfold mulM at e
    split at e
    case isFalse => cases e
    rename_i hc
    cases e;cases r1;cases r2
    exact⟨a, b, rfl, rfl, hc, q⟩) h1 h2
theorem cU(h1 : Ex B sl .hp t1 m1)(h2 : Ex B sl .hp t2 m2) : Ex B sl md (wD (rI (λ_ j => 0<j) λi j => .int (i%j)) t1 t2) (m1.bind λa => m2.bind λb => dW a b) :=
  wQ (λa b c v w H Q e r1 r2 q => by
    unfold dW at e
    split at e
    case isFalse => cases e
    rename_i hc
    cases e;cases r1;cases r2
    exact⟨a, b, rfl, rfl, hc, q⟩) h1 h2
theorem nY(h1 : Ex B sl .hp t1 m1)(h2 : Ex B sl .hp t2 m2) : Ex B sl md (wD (rI acs λi j => .int (i/j)) t1 t2) (m1.bind λa => m2.bind λb => uH a b) :=
  wQ (λa b c v w H Q e r1 r2 q => by
    unfold uH at e
    split at e
    case isFalse => cases e
    rename_i hc
    cases e;cases r1;cases r2
    exact⟨a, b, rfl, rfl, hc, q⟩) h1 h2
theorem K4(h1 : Ex B sl .hp t1 m1)(h2 : Ex B sl .hp t2 m2) : Ex B sl md (wD (rI acu λi j => .int (i^j.toNat)) t1 t2) (m1.bind λa => m2.bind λb => Jp a b) :=
  wQ (λa b c v w H Q e r1 r2 q => by
    unfold Jp at e
    split at e
    case isFalse => cases e
    rename_i hc
    cases e;cases r1;cases r2
    exact⟨a, b, rfl, rfl, hc, q⟩) h1 h2
end
theorem A2.jL(h : A2 R vs xs)(e : L2.jL xs i=some a) : ∃v, L2.jL vs i=some v∧R v a := by
  unfold L2.jL at e ⊢
  rw[h.len]
  cases q : Rv xs.length i with
  |none => grind
  |some j => rw[q] at e;exact h.at2 e
theorem gk{m1 : Option (List α)}{m2 : Option Int}(h1 : Ex B sl md t1 m1)(h2 : Ex B sl .hp t2 m2) : Ex B sl md (wD (aal K) t1 t2) (m1.bind λxs => m2.bind λi => L2.jL xs i) := λc hc F O H σ Q s k => by
  obtain⟨xs, i, e1, e2, e3⟩ := jM hc
  refine h1 xs e1 F O H σ _ s λv F' H' g r1 => ?_
  refine h2 i e2 F' O H' σ _ (s.grow g) λw F2 H2 g2 r2 => ?_
  cases r2
  obtain⟨p, vs, rfl, z1, z2⟩ := r1
  obtain⟨u, y1, y2⟩ := z2.jL e3
  have hle := (match md with
    |.nw => eU.trans g.ok.fh
    |.fz => g.ok.fh
    |.hp => .refl _ : Same (reg B F' H' md) H').trans g2.hh
  exact⟨p, vs, i, u, rfl, rfl, gj.of (hle _ _ z1), y1, k u F2 H2 (g.trans g2) (Rp.mono (dJ g2 md) y2)⟩
abbrev aav(K : afh) : List V→Hp→VK→Prop := λxs H Q => ∃p ys, xs=[.ref p]∧(gj K H p ys∨zN K H p ys)∧Q (.int ys.length) H
theorem dH{m : Option (List α)}(h : Ex B sl .hp t m) : Ex B sl md (Ng (aav K) (cD t fu)) (m.bind λxs => some (xs.length : Int)) := λc hc F O H σ Q s k => by
  cases m with
  |none => cases hc
  |some xs =>
    cases(hc)
    refine h xs rfl F O H σ _ s λv F' H' g r1 => ?_
    obtain⟨p, vs, rfl, z1, z2⟩ := r1
    exact⟨p, vs, rfl, .inl (gj.of z1), k _ F' H' g (by show V.int vs.length=V.int xs.length;rw[z2.len])⟩
abbrev Zt(K : afh) : List V→Hp→VK→Prop := λxs H Q => ∃p ys, xs=[V.ref p]∧(gj K H p ys∨zN K H p ys)∧∀l, H l=none→Q (.ref l) (upd H l (.lst ys))
theorem A2.sc{F F' : Hp}[Sc K α]{vs : List V}{xs : List α}(h : A2 (rp K F) vs xs) : A2 (rp K F') vs xs := h.imp λ_ _ => Tp
theorem nZ[Sc K α]{m : Option (List α)}(h : Ex B sl .hp t m) : Eo B sl md (Ng (Zt K) (cD t fu)) m := λc hc F O H σ Q s k => by
  refine h c hc F O H σ _ s λv F' H' g r1 => ?_
  obtain⟨p, vs, rfl, z1, z2⟩ := r1
  exact⟨p, vs, rfl, .inl (gj.of z1), λl hl => k l vs F' H' g hl z2.sc⟩
class Fl (K : afh) (α : Type) [Rp K α] [Sc K α] [DecidableEq α] : Prop where
  flat : ∀a : α, uM (Sc.val K a)=true
  eq : ∀a b : α, Xq (Sc.val K a) (Sc.val K b)=decide (a=b)
instance : Fl K Str := ⟨λ_ => rfl, λa b => by show(a==b)=_;exact K3 a b⟩
theorem A2.vals[Sc K α] : ∀{vs : List V}{xs : List α}, A2 (rp K F) vs xs→vs=xs.map (Sc.val K)
  |[], [], _ => rfl
  |_::_, _::_, h => by rw[map_cons, Sc.is.mp h.1, A2.vals h.2]
  |[], _::_, h => h.elim
  |_::_, [], h => h.elim
theorem K5[Sc K α][DecidableEq α][Fl K α](a : α) : ∀xs : List α, inV (Sc.val K a) (xs.map (Sc.val K))=decide (a∈xs)
  |[] => by simp[inV]
  |x::xs => by
    have ih := K5 a xs
    unfold inV at ih ⊢
    rw[map_cons, any_cons, Fl.eq]
    grind
theorem NT[Sc K α][DecidableEq α][Fl K α](xs : List α) : (xs.map (Sc.val K)).all uM=true := by
  rw[all_map, all_eq_true]
  intro x _
  exact Fl.flat x
theorem Zu[Sc K α][DecidableEq α][Fl K α]{m1 : Option α}{m2 : Option (List α)}(h1 : Ex B sl .hp t1 m1)(h2 : Ex B sl .hp t2 m2) : Ex B sl md (wD (rIn K false) t1 t2) (m1.bind λa => m2.bind λxs => some (decide (a∈xs))) :=
  wQ (λa b c v w H Q e r1 r2 q => by
    cases e
    obtain⟨p, vs, rfl, z1, z2⟩ := r2
    have ev := Sc.is.mp r1
    have es := z2.vals
    subst ev es
    refine⟨p, _, rfl, .inl (gj.of z1), Fl.flat a, NT b, ?_⟩
    have := K5 (K := K) a b
    rw[this]
    exact q) h1 h2
theorem GK{m : Option (Option α)}(h : Ex B sl .hp t m) : Ex B sl md (aci t) (m.bind λa => some a.isNone) := λc hc F O H σ Q s k => by
  cases m with
  |none => cases hc
  |some a =>
    cases(hc)
    refine h a rfl F O H σ _ s λv F' H' g r1 => ?_
    cases a with
    |none => cases r1;exact k _ F' H' g rfl
    |some x => rw[decide_eq_false r1.1];exact k _ F' H' g rfl
theorem GP{m : Option (Option α)}(h : Ex B sl md t m) : Ex B sl md t (m.bind λa => a) := λc hc F O H σ Q s k => by
  cases m with
  |none => cases hc
  |some a =>
    cases a with
    |none => cases hc
    |some x =>
      have e := afm hc
      subst e
      exact h (some x) rfl F O H σ _ s λv F' H' g r1 => k v F' H' g r1.2
class Ty (K : afh) (α : Type) [Rp K α] where
  ty : Value
  is : ∀{H : Hp}{v : V}{a : α}, rp K H v a→u_ K H v ty
instance : Ty K Int := ⟨.type "int", λh => by cases h;exact .int _⟩
instance : Ty K Str := ⟨.type "str", λh => by cases h;exact .str _⟩
theorem K6[Ty K α]{c : Value}{y : V}{b : Bool}{m : Option α}(hb : afo K (Ty.ty K α) c=some b)(hy : RelV y c)(h : Ex B sl .hp t m) : Ex B sl md (Ng (Ti K c) (cD t (cD (tC y) fu))) (m.bind λ_ => some b) := λd hd F O H σ Q s k => by
  cases m with
  |none => cases hd
  |some a =>
    cases(show some b=some d from hd)
    refine h a rfl F O H σ _ s λv F' H' g r1 => ?_
    exact⟨v, y, _, b, rfl, hy, Ty.is r1, hb, k _ F' H' g rfl⟩
end
def src(xss : List (List Int))(j : Nat) : List Int := ((aha xss.length).filter λk => decide ((j : Int)∈xss.getD k [])).map ai1
theorem uN{α : Type}{p q : α→Bool} : ∀{l : List α}, (∀x∈l, p x=q x)→l.filter p=l.filter q
  |[], _ => rfl
  |a::l, h => by
    rw[filter_cons, filter_cons, h a mem_cons_self, uN λx b => h x (mem_cons_of_mem _ b)]
theorem T4(xss : List (List Int))(xs : List Int)(j : Nat) : src (xss++[xs]) j=src xss j++(if(j : Int)∈xs then[(xss.length : Int)] else[]) := by
  unfold src
  rw[length_append, length_singleton, List.range_succ, filter_append, map_append]
  congr 1
  · congr 1
    refine uN λk hk => ?_
    grind
  grind
theorem T5{xss : List (List Int)}{i : Nat}{xs : List Int}(h : xss[i]?=some xs)(j : Nat) : src (xss.take (i+1)) j=src (xss.take i) j++(if(j : Int)∈xs then[(i : Int)] else[]) := by
  have a := (afu.mp h).1
  rw[take_add_one, h]
  have e : (some xs : Option (List Int)).toList=[xs] := rfl
  rw[e, T4, length_take, ai7 (af6 a)]
theorem XC(xss : List (List Int))(j : Nat) : (src xss j).length≤xss.length := by
  unfold src
  grind
theorem int_at{ns : List Int}{i : Nat}{y : V}(h : (ns.map V.int)[i]?=some y) : ∃z, y=.int z∧ns[i]?=some z := by
  grind
theorem aaw{bs : List Addr}{i : Nat}{y : V}(h : (bs.map V.ref)[i]?=some y) : ∃b, y=.ref b∧bs[i]?=some b := by
  grind
theorem XD{bs : List Addr}{i : Nat}{b : Addr}(h : bs[i]?=some b) : (bs.map V.ref)[i]?=some (.ref b) := by grind
theorem bK{α : Type}{xs : List α}{x : α}(h : xs[i]?=some x) : i<xs.length := (afu.mp h).1
theorem lA{i : Nat}(h : i<1920) : ((i : Int)).natAbs.log2<1920 := by
  exact aft (Nat.log2_le_self i) h
theorem Bp{ns : List Int}(f : ns.Nodup)(h : ns[i]?=some z) : ¬z∈ns.take i := λd => by
  obtain⟨j, a⟩ := mem_iff_getElem?.mp d
  have c : j<i := by
    grind
  rw[getElem?_take_of_lt c] at a
  have g := bK h
  have b := bK a
  rw[afi g] at h
  rw[afi b] at a
  have e := (afm a).trans (afm h).symm
  have := (getElem_inj f).mp e
  lia
theorem lG{α : Type}{ns : List α}{z x : α}(h : ns[i]?=some z) : x∈ns.take (i+1)↔x∈ns.take i∨x=z := by
  rw[take_add_one, h]
  simp
def Jq(K : afh)(H : Hp)(bs : List Addr)(xss : List (List Int)) : Prop := bs.length=xss.length∧∀(i : Nat)(b : Addr), bs[i]?=some b→∃c : List Int, xss[i]?=some c∧gj K H b (c.map V.int)
theorem Jq.same(r : Jq K H bs xss)(s : Same H H') : Jq K H' bs xss := ⟨r.1, λi b h => let⟨d, a, c⟩ := r.2 i b h;⟨d, a, s.seq c⟩⟩
def Valid(n : Nat)(xss : List (List Int)) : Prop := xss.length=n∧∀a∈xss, a≠[]∧a.Nodup∧a.length≤100∧∀z∈a, 0≤z∧z<(n : Int)
def Jr(H : Hp)(b : List Addr)(a : Nat→List Int) : Prop := ∀(j : Nat)(c : Addr), b[j]?=some c→H c=some (.lst ((a j).map V.int))
structure Bl(K : afh)(mg : Str→Option Value) : Prop where
  len : mg "len" = none
  range : mg "range" = none
  Js : mg "isinstance" = none
  int : mg "int" = none
  bool : mg "bool" = none
  list : mg "list" = none
  enum : mg "enumerate" = none
  ii : afo K (.type "int") (.type "int")=some true
  ib : afo K (.type "int") (.type "bool")=some false
  ll : afo K (.type "list") (.type "list")=some true
theorem Zv : afo K (.type "int") (.type "int")=some true := rfl
theorem ac5 : afo K (.type "list") (.type "list")=some true := rfl
theorem Zw : afo K (.type "int") (.type "bool")=some false := by
  first|rfl|grind
theorem gV : bootBuiltins "isinstance" = some (.builtin "isinstance") := by decide +kernel
theorem yu : bootBuiltins "int" = some (.type "int") := by decide +kernel
theorem NZ : bootBuiltins "bool" = some (.type "bool") := by decide +kernel
theorem qz : bootBuiltins "list" = some (.type "list") := by decide +kernel
structure News(H H' : Hp)(cs : List Addr)(xss : List (List V)) : Prop where
  len : cs.length=xss.length
  at_ : ∀(i : Nat)(c : Addr), cs[i]?=some c→∃xs, xss[i]?=some xs∧H' c=some (.lst xs)
  new : ∀c∈cs, H c=none
  nd : cs.Nodup
theorem News.nil : News H H' [] [] := ⟨rfl, λi c h => (by simp at h), λc h => (by cases h), List.nodup_nil⟩
theorem News.snoc(n : News H j g xss)(s : Same H j)(h : j l=none) : News H (upd j l (.lst xs)) (g++[l]) (xss++[xs]) := by
  have m : ∀c∈g, c≠l := λc d e => by
    obtain⟨i, k⟩ := mem_iff_getElem?.mp d
    obtain⟨o, _, q⟩ := n.at_ i c k
    rw[e, h] at q
    cases q
  refine⟨by rw[length_append, length_append, n.len]<;>rfl, λi c d => ?_, λc d => ?_, ?_⟩
  · by_cases k : i<g.length
    · rw[getElem?_append_left k] at d
      obtain⟨o, h1, t⟩ := n.at_ i c d
      refine⟨o, ?_, ?_⟩
      · grind
      · rw[aP (m c (mem_of_getElem? d))];exact t
    · rw[getElem?_append_right (by lia)] at d
      have f : i-g.length=0 := by
        have := bK d
        simp at this
        lia
      rw[f] at d
      have e : l=c := afm d
      subst e
      refine⟨xs, ?_, aY⟩
      rw[getElem?_append_right (by rw[← n.len];lia), ← n.len, f]<;>rfl
  · rcases mem_append.mp d with d|d
    · exact n.new c d
    · rw[mem_singleton.mp d];exact s.free h
  · rw[nodup_append]
    refine⟨n.nd, by simp, λa r b p e => ?_⟩
    rw[mem_singleton.mp p] at e
    exact m a r e
theorem News.ac6(n : News H H' c xss)(h : H' r=none) : r∉c := λb => by
  obtain⟨i, a⟩ := mem_iff_getElem?.mp b
  obtain⟨ys, _, q⟩ := n.at_ i r a
  grind
structure qC(C : Addr) where
  steps : List (List Int)
  marks : List (Str×List Int)
  fair : List (List Int)
  sources : List (List Int)
def mth : List Str := ["many", "next_of", "before", "marked", "fair_at", "names_at"]
def srcs(xss : List (List Int)) : List (List Int) := (aha xss.length).map (src xss)
def hid(H : Hp)(p : Addr) : Hp := λb => if b=p then none else H b
section
variable{K : afh}{C : Addr}
instance : Rp K (qC C) := ⟨λF v m => ∃p dx fs vS vM vF vB, v=.ref p∧F p=some (.ins C dx fs)∧fs.lookup ("steps" : Str)=some vS∧rp K F vS m.steps∧fs.lookup ("marks" : Str)=some vM∧rp K F vM m.marks∧fs.lookup ("fair" : Str)=some vF∧rp K F vF m.fair ∧
  fs.lookup ("sources" : Str)=some vB∧rp K F vB m.sources∧∀g∈mth, fs.lookup g=none,
  λs h => by
    obtain⟨p, dx, fs, vS, vM, vF, vB, h1, h2, h3, h4, h5, h6, h7, h8, h9, h10, h11⟩ := h
    exact⟨p, dx, fs, vS, vM, vF, vB, h1, s _ _ h2, h3, Rp.mono s h4, h5, Rp.mono s h6, h7, Rp.mono s h8, h9, Rp.mono s h10, h11⟩⟩
theorem XF(ns : List Int) : A2 (rp K F) (ns.map V.int) ns := A2.of_map (f := V.int) (λ_ => rfl) ns
theorem N5 : ∀{a : List Addr}{xss : List (List Int)}, a.length=xss.length→(∀(i : Nat)(c : Addr), a[i]?=some c→∃xs, xss[i]?=some xs∧F c=some (.lst (xs.map V.int)))→A2 (rp K F) (a.map V.ref) xss
  |[], [], _, _ => trivial
  |c::a, xs::xss, b, h => by
    obtain⟨ys, e, g⟩ := h 0 c rfl
    cases e
    exact⟨⟨c, _, rfl, g, XF _⟩, N5 (by grind) λi f d => h (i+1) f d⟩
  |[], _::_, b, _ => by grind
  |_::_, [], b, _ => by grind
theorem XH{xss : List (List Int)}(h : i<xss.length) : (srcs xss)[i]?=some (src xss i) := by
  unfold srcs
  grind
theorem XJ{a : List Addr}{xss : List (List Int)}(d : a.length=xss.length)(n : Jr H' a (src xss))(h : ∀c∈a, ∀o, H' c=some o→D c=some o) : A2 (rp K D) (a.map V.ref) (srcs xss) := by
  refine N5 (by rw[d];unfold srcs;simp) λi c b => ?_
  have hi := bK b
  exact⟨_, XH (by lia), h c (mem_of_getElem? b) _ (n i c b)⟩
end
section
variable{K : afh}{B : Bs}{F H F' H' G : Hp}{O : Own}{sl : List (Slot K)}{σ : St}{md : Md}{α β : Type}[Rp K α][Rp K β]{te ta : TE}{C : Addr}
theorem XM{d : qC C→α}(cl : Cls K C)(i : jK K C f)(j : ∀(R : Hp) (v : V) (x : qC C), rp K R v x→∃p b fs w, v=.ref p∧R p=some (.ins C b fs)∧fs.lookup f=some w∧rp K R w (d x))(h : Ex B sl md ta m) :
    Ex B sl md (Xl K ta f) (m.bind λx => some (d x)) := λc e F O H σ Q s k => by
  cases m with
  |none => cases e
  |some x =>
    cases(e)
    refine h x rfl F O H σ _ s λv F' H' g r => ?_
    obtain⟨p, b, fs, w, rfl, l, o, n⟩ := j _ v x r
    have a : Same (reg B F' H' md) H' := match md with
      |.nw => eU.trans g.ok.fh
      |.fz => g.ok.fh
      |.hp => .refl _
    exact⟨p, C, b, fs, w, rfl, a _ _ l, cl, i, o, k w F' H' g n⟩
theorem Qp{m : Option (qC C)}(cl : Cls K C)(g : jK K C "steps")(h : Ex B sl md ta m) : Ex B sl md (Xl K ta "steps") (m.bind λx => some x.steps) :=
  XM cl g (by rintro R v x ⟨p, b, c, a, vM, vF, vB, e, i, f, d, _⟩;exact⟨p, b, c, a, e, i, f, d⟩) h
theorem N6{A : Type}{as : A→List (Slot K)}{f : qC C×A→Option β}{e : Option A}(z : g∈mth)(h0 : Ex B sl .hp ta k)(h : Ea B sl .hp t as e) :
    Ex B sl md (R_ C g (nD K false (λx : qC C×A => .fz false x.1::as x.2) f) [] E0 ta t) (k.bind λx => e.bind λa => f (x, a)) := λc i F O H σ Q s u => by
  cases k with
  |none => cases i
  |some x =>
    cases e with
    |none => cases i
    |some a =>
      refine h0 x rfl F O H σ _ s λv w J l q => ?_
      obtain⟨p, y, E, vS, vM, vF, vB, rfl, I, h3, h4, h5, h6, h7, h8, h9, h10, d⟩ := id q
      refine⟨p, y, E, rfl, I, d g z, ?_⟩
      refine h a rfl w O J σ _ (s.grow l) λvs F' H' b r => ?_
      rw[append_nil]
      refine⟨(x, a), c, H', .refl _, i, .cons (Rp.mono b.hh q) r, λv D n L => ?_⟩
      have o := b.ok.called n
      refine u v _ D (l.trans (b.trans o)) ?_
      have j := Rp.mono (uf (F := F') b.ok.h0 n) L
      exact match md with
      |.nw => j
      |.fz => Rp.mono eU j
      |.hp => Rp.mono (eU.trans o.ok.fh) j
noncomputable def En(B : Bs)(sl : List (Slot K))(t : TE){α : Type}[Rp K α](m : Option α) : Prop :=
  ∀a, m=some a→∀(F : Hp)(O : Own)(H : Hp)(σ : St)(Q : VK), At B sl F O H σ→(∀(v : V)(F' c b : Hp), dU B F H O F' c→Same c b→rp K (dif b c) v a→Q v b)→t σ H Q
theorem En.ex{m : Option α}(h : En B sl te m) : Ex B sl md te m := λc f F O H σ Q s e => h c f F O H σ Q s λv F' H1 i g b j => by
  have d := g.ok.called b
  refine e v _ i (g.trans d) ?_
  have a := Rp.mono (uf (F := F') g.ok.h0 b) j
  exact match md with
  |.nw => a
  |.fz => Rp.mono eU a
  |.hp => Rp.mono (eU.trans d.ok.fh) a
theorem ac7(h1 : F b=none)(h2 : ∀x∈O, x.1≠b) : lo F O H b=H b := by
  unfold lo
  grind
class IsL (K : afh) (α : Type) [Rp K α] : Prop where
  il : ∀{F : Hp}{v : V}{a : α}, rp K F v a→∃p vs, v=.ref p∧F p=some (.lst vs)
instance(n : Nat)(xss : List (List Int)) : Decidable (Valid n xss) := by unfold Valid;infer_instance
end
section
variable{K : afh}{X : Cx}
theorem K7(K : afh)(h : X.K=K := by rfl) : zj X (compareOp .In) (rIn K false) := by subst h;exact Qg
theorem kI(K : afh)(h : X.K=K := by rfl) : IxR X (aal K) := by subst h;exact Nm
theorem ac8(K : afh)(h : X.K=K := by rfl) : IxR X (Xo K) := by subst h;exact aam
theorem dF(K : afh)(h : X.K=K := by rfl) : mR X (.builtin "len") (aav K) := by subst h;exact Gv
theorem qD(K : afh)(h : X.K=K := by rfl) : mR X (.type "list") (Zt K) := by subst h;exact Gw
theorem Bq(K : afh)(a : ∀y u, RelV y c→RelV y u→u=c)(h : X.K=K := by rfl) : mR X (.builtin "isinstance") (Ti K c) := by subst h;exact Tj a
theorem aax(K : afh)(b : PE X e c)(h : X.K=K := by rfl)(a : attributeBase e f X.env (eval e X.env)=eval e X.env := by rfl) : PE X (.Attribute e f pos) (Xl K c f) := by subst h;exact RZ b a
theorem cN(K : afh)(b : PE X l a)(h : X.K=K := by rfl) : PI X tg l (RM K a) := by subst h;exact Gn b
theorem uo(K : afh)(b : X.mg "enumerate" = none)(f : PA X [a] c)(h : X.K=K := by rfl)(e : Gl X "enumerate" := by rfl)(d : starEach [a] X.env=[(false, eval a X.env)] := by rfl) :
    PI X (.Tuple elts k tp) (.Call (.Name "enumerate" p) [a] [] pos) (Te K c) := by subst h;exact Nu e b f d
theorem d9(K : afh){o e : Expr}{es : List Expr}{k : TE}{t : TA}{name : Str}{c a : Pos}{T id : String}{r : V→List V→Hp→VK→Prop}(n : PlainAttrs T)(g : PySem.Slot T name id)(j : typeOf (.builtin id)=pure (.type "method_descriptor"))(m : Qh X id r)(l : PE X o k)(q : PA X (e::es) t)(h : X.K=K := by rfl)(f : attributeBase o name X.env (eval o X.env)=eval o X.env := by rfl)(i : ((backTo a (starEach (e::es) X.env)).all (λx => !x.1)&&(backToKw a (keywordEach [] X.env)).all (λx => x.1.isSome)
      && decide ((e::es).length+([] : List Keyword).length+(if([] : List Keyword).isEmpty then 0 else 1)<30))=true := by rfl)(d : (c.endLine==a.line)=true := by rfl)(p : starEach (e::es) X.env=(false, eval e X.env)::starEach es X.env := by rfl)(b : (backTo a (starEach es X.env)).any (·.1)=false := by rfl) :
    PE X (.Call (.Attribute o name c) (e::es) [] a) (W4 K T r k t) := by subst h;exact Zo n g j m l q f i d p b
theorem K8(K : afh){o : Expr}{g : TE}{name : Str}{b a : Pos}{T id : String}{r : V→List V→Hp→VK→Prop}(i : PlainAttrs T)(e : PySem.Slot T name id)(f : typeOf (.builtin id)=pure (.type "method_descriptor"))(k : Qh X id r)(j : PE X o g)(h : X.K=K := by rfl)(d : attributeBase o name X.env (eval o X.env)=eval o X.env := by rfl)(c : (b.endLine==a.line)=true := by rfl) : PE X (.Call (.Attribute o name b) [] [] a) (Xu K T r g) := by subst h;exact aap i e f k j d c
theorem T6 : bootBuiltins "all" = some (.builtin "all") := by decide +kernel
theorem gP : Et B sl S_ (some true) := λa b F O H σ Q s k => by cases b;exact k F H (.refl s.1)
theorem T7{S : Type}{L : S→List (Slot K)}{m : Option S}(l : Le c sl2)(h : Sn B sl2 t L m) : Sn B c t L m := λa b G D σ H q k => h a b G D σ H (q.le l) k
theorem qF{B : Bs}{b sl2 : List (Slot K)}{t : TS}{al : Bool}{β : Type}[Rp K β]{m : Option β}(l : Le b sl2)(h : SB B sl2 t al m) : SB B b t al m := λa c G D σ H q k => h a c G D σ H (q.le l) k
theorem gw{α : Type} : ∀c : List α, some []=some c→c.length≤0 := λc h => by grind
theorem bV{α : Type}{m : Option α}{d : Option (List α)}(h : ∀b, d=some b→b.length≤n) : ∀c, (m.bind λa => d.bind λb => some (a::b))=some c→c.length≤n+1 := λc e => by
  cases m with
  |none => cases e
  |some a =>
    cases d with
    |none => cases e
    |some b => grind
theorem bnd{α β : Type}(a : α)(f : α→Option β) : (some a).bind f=f a := (λ(x : Option α) (e : x=some a) => by grind : ∀x, x=some a→x.bind f=f a) _ rfl
structure mJ(P : Program)(w : World)(K : afh)(mg : Str→Option Value)(base : Heap)(k : Nat)(x : Str)(ps : List Str)(sp : Sp) : Prop where
  ex : ∃f fd, bY P w K mg base jE k f fd ps sp∧Binds K fd ps []∧agw K (.ref f)=true∧mg x=some (.ref f)
structure Dq(P : Program)(w : World)(K : afh)(mg : Str→Option Value)(base : Heap)(k : Nat)(C : Addr)(m : Str)(ps : List Str)(sp : Sp) : Prop where
  ex : ∃f fd, bY P w K mg base jE k f fd ps sp∧Binds K fd ps []∧Meth K C m f
  cl : Cls K C
theorem mJ.mono(c : mJ P w K mg base j x ps sp)(h : j≤k) : mJ P w K mg base k x ps sp := by
  obtain⟨f, d, a, b⟩ := c.ex
  exact⟨f, d, a.mono h, b⟩
theorem Dq.mono(c : Dq P w K mg base j C x ps sp)(h : j≤k) : Dq P w K mg base k C x ps sp := by
  obtain⟨f, d, a, b⟩ := c.ex
  exact⟨⟨f, d, a.mono h, b⟩, c.cl⟩
theorem cj(c : mJ X.prog X.w X.K X.mg X.base k x ps sp)(i : f9 k X.A)(m : PA X (e::es) t)(l : Gl X x := by rfl)(a : (x==("__debug__" : Str))=false := by decide)(j : starEach (e::es) X.env=(false, eval e X.env)::starEach es X.env := by rfl)(b : (backTo pos (starEach es X.env)).any (·.1)=false := by rfl) : PE X (.Call (.Name x p) (e::es) [] pos) (uL sp [] E0 t) := by
  obtain⟨f, fd, g, n, h, d⟩ := c.ex
  exact Gp g i l d h n .nil Nq m a j b
theorem N7(c : Dq X.prog X.w X.K X.mg X.base k C m ps sp)(h : f9 k X.A)(i : PE X o j)(d : eval (.Call (.Attribute o m a) [] [] pos) X.env=(do
      let b ← eval o X.env
      standAt a.atName
      let(f, first) ← holding [b] (getMethod b m pl)
      callWith pos f first (backTo pos (starEach [] X.env)) (backToKw pos (keywordEach [] X.env))) := by rfl) : PE X (.Call (.Attribute o m a) [] [] pos) (R_ C m sp [] E0 j fu) := by
  obtain⟨f, fd, e, l, g⟩ := c.ex
  exact Sh i c.cl g e h l .nil Nq d
end
section
variable{P : Program}{w : World}{K : afh}{mg : Str→Option Value}{base : Heap}
theorem dX{A β : Type}[Rp K β]{as : A→List (Slot K)}{e : A→Option β}(F : gn K x d st f i)(S : bf N ps (aH st))(o : ∀a, (as a).all isF=true)(g : ∀a, (as a).length=ps.length)(l : ∀(c : Value) (A : Around) (b : List Env) (s : Shared) (H : Hp) (E : XK), f9 k (A.deeper (agp d (aH st) s.heap.objs.size f c)) →
      ∃t, xY (nJ jE P w K mg base N d (aH st) f c A b s H E).rB (dB st) t∧∀j a, SB ⟨j, H⟩ (as a++replicate (N.length-ps.length) .un) t al (e a)) :
    bY P w K mg base jE (k+1) f i ps (nD K al as e) :=
  F.ok S (λm H Q E h => K1 g h) λc A b s H m Q E n h => by
    obtain⟨t, p, q⟩ := l c A b s H E n
    exact⟨t, p, TX o g q h⟩
end
noncomputable def W{α : Type}(m : Option α)(P : α→Prop) : Prop := ∃a, m=some a∧P a
section
variable{α β S : Type}
theorem aB : W (some a) P↔P a := ⟨λ⟨_, e, h⟩ => by grind, λh => ⟨a, rfl, h⟩⟩
theorem qG : W (none : Option α) P↔False := ⟨λ⟨_, e, _⟩ => (by cases e), af4⟩
theorem au{m : Option α} : W (m.bind f) Q↔W m λa => W (f a) Q := by
  cases m with
  |none => exact⟨λ⟨_, e, _⟩ => (by cases e), λ⟨_, e, _⟩ => (by cases e)⟩
  |some a => exact⟨λh => ⟨a, rfl, h⟩, by rintro⟨_, e, h⟩;grind⟩
theorem N8 : W ((Out.nx s : Out S β).els f) Q↔W (f s) Q := ajj
theorem W.imp{Q : α→Prop}(h : W m P)(f : ∀a, P a→Q a) : W m Q := let⟨a, e, p⟩ := h;⟨a, e, f a p⟩
theorem dG : W (dW a b) Q↔0<b∧Q (a%b) := by
  unfold dW
  split
  · rw[aB];grind
  · rw[qG];grind
theorem rO : W (uH a b) Q↔(0<b∧b<1073741824)∧Q (a/b) := by
  unfold uH
  split
  · rw[aB];grind
  · rw[qG];grind
theorem Zx : W (mulM a b) Q↔((-(2^64)<a∧a<2^64)∨(-(2^64)<b∧b<2^64))∧Q (a*b) := by
  unfold mulM
  split
  · rw[aB];grind
  · rw[qG];grind
theorem Zy : W (Jp a b) Q↔(0≤b∧b≤1000000∧a.natAbs<2^64)∧Q (a^b.toNat) := by
  unfold Jp
  split
  · rw[aB];grind
  · rw[qG];grind
theorem yw : W (push xs a) Q↔xs.length<cap∧Q (xs++[a]) := by
  unfold push
  split
  · rw[aB];grind
  · rw[qG];grind
def rng(n : Int) : List Int := (aha n.toNat).map ai1
theorem mZ : W (gO n) Q↔(-(2^62)≤n∧n<2^62)∧Q (rng n) := by
  unfold gO rng
  split
  · rw[aB];grind
  · rw[qG];grind
theorem oU(h : 0≤n) : ((rng n).length : Int)=n := by
  unfold rng
  grind
theorem GQ{n : Int}{i : Nat}{x : Int}(h : (rng n)[i]?=some x) : x=i∧(i : Int)<n := by
  obtain⟨a, b⟩ := Jm h
  grind
theorem GR : x∈rng n↔0≤x∧x<n := by
  unfold rng
  rw[mem_map]
  constructor
  · grind
  · intro⟨h1, h2⟩
    exact⟨x.toNat, mem_range.mpr (by lia), by grind⟩
theorem vA(h : 0≤i) : L2.jL xs i=xs[i.toNat]? := by
  unfold L2.jL Rv
  grind
theorem uI(h0 : 0≤i) : W (L2.jL xs i) Q↔∃a, xs[i.toNat]?=some a∧Q a := by
  rw[vA h0]
  exact ajj
theorem T8{xs : List α}{i : Int}{a : α}(h0 : 0≤i)(h1 : i<xs.length) : setAt xs i a=some (xs.set i.toNat a) := by
  unfold setAt Rv
  grind
theorem Br{xs : List α}{i : Int}{a : α}{Q : List α→Prop}(h0 : 0≤i)(b : i<xs.length) : W (setAt xs i a) Q↔Q (xs.set i.toNat a) := by
  rw[T8 h0 b, aB]
theorem n6{step : S→α→Option S}{Q : S→Prop}(I : Nat→S→Prop)(h0 : I 0 s)(f : ∀i x s, xs[i]?=some x→I i s→W (step s x) (I (i+1)))(g : ∀s, I xs.length s→Q s) : W (foldM step xs s) Q := by
  have key : ∀(a : List α)(i : Nat)(s : S), (∀j x, a[j]?=some x→xs[i+j]?=some x)→i+a.length=xs.length→I i s→W (foldM step a s) Q := by
    intro a
    induction a with
    |nil => intro i s _ c h;exact⟨s, rfl, g s ((c)▸h)⟩
    |cons y a ih =>
      intro i s d c h
      show W ((step s y).bind λb => foldM step a b) Q
      rw[au]
      refine(f i y s (d 0 y rfl) h).imp λb e => ih (i+1) b (λj x hx => ?_) (by grind) e
      have := d (j+1) x (by grind)
      grind
  grind
theorem qH{step : S→α→Option (Out S β)} : fD step (x::xs) s=(step s x).bind λo => o.dN λs' => fD step xs s' := by
  congr 1
theorem Es(c : α→Bool)(f : α→β) : ∀xs : List α, dz (λx => some (c x)) (λx => some (f x)) xs=some ((xs.filter c).map f)
  |[] => rfl
  |x::xs => by
    have ih := Es c f xs
    show(some (c x)).bind _=_
    grind
theorem yx(c : α→Bool)(f : α→β) : W (bL (λx => some (c x)) (λx => some (f x)) xs) Q↔xs.length<cap∧Q ((xs.filter c).map f) := by
  unfold bL
  split
  · rw[Es, aB];grind
  · rw[qG];grind
theorem filter_tt(xs : List α) : xs.filter (λ_ => true)=xs := filter_eq_self.mpr λ_ _ => rfl
theorem T9(f : α→β) : W (bL (λ_ => some true) (λx => some (f x)) xs) Q↔xs.length<cap∧Q (xs.map f) := by
  rw[yx (λ_ => true) f, filter_tt]
theorem Eu[Decidable c] : W (if c then a else b) Q↔(c→W a Q)∧(¬c→W b Q) := by
  grind
theorem bZ(h : n≤1000) : n<cap := aft h (by decide)
theorem Bt : ∀{n : Nat}{xs : List Int}, xs.Nodup→(∀x∈xs, 0≤x∧x<(n : Int))→xs.length≤n
  |0, xs, _, h => by
    cases xs with
    |nil => grind
    |cons x xs => have := h x mem_cons_self;lia
  |n+1, xs, a, h => by
    by_cases q : (n : Int)∈xs
    · have l := List.length_erase_of_mem q
      have ih := Bt (n := n) (xs := xs.erase (n : Int)) (a.erase _) λx b => by
        grind
      lia
    · have ih := Bt (n := n) a λx b => by
        grind
      lia
end
end Ts
namespace L2
open PySem PySem.Spec PyProof.Rows
section
variable{X : Cx}
theorem Jt{bs : List Bool}(r : Vals (bs.map V.bl) a) : TruthOf prog w A (λi v => a.toArray[i]?=some v) (λi => bs.getD i false) := by
  intro i v s Q E c b
  have c : a[i]?=some v := by grind
  have f : i<bs.length := by
    have := (afu.mp c).1
    rw[← r.length, length_map] at this
    grind
  obtain⟨u, d, e⟩ := r.get (i := i) (x := .bl bs[i]) (by grind)
  rw[c] at d
  cases d
  cases e
  have b : Q (bs.getD i false) s := b
  rw[getD_eq_getElem?_getD, afi f] at b
  exact ag2 b
theorem range_all{bs : List Bool} : ((aha bs.length).all λi => bs.getD i false)=bs.all id := by
  rw[Bool.eq_iff_iff, all_eq_true, all_eq_true]
  constructor
  · intro h x b
    obtain⟨i, a, e⟩ := List.getElem_of_mem b
    have z := h i (mem_range.mpr a)
    grind
  · intro h i a
    have a := mem_range.mp a
    rw[getD_eq_getElem?_getD, afi a]
    exact h _ (getElem_mem a)
def T_(K : afh)(f : List Bool→Bool) : List V→Hp→VK→Prop := λb H Q => ∃(p : Addr)(a : List Bool), b=[.ref p]∧gj K H p (a.map V.bl)∧Q (.bl (f a)) H
theorem ac9{s : Shared}{h' : Heap}(a : ∀b o, b∉[s.heap.objs.size]→(s.heap.push { cls := .type "list_iterator", data := .fields #[.ref l, .int 0 0] }).get? b=some o→h'.get? b=some o) :
    ∀b o, s.heap.get? b=some o→h'.get? b=some o := λb o e => a b o (λm => af3 _ (mem_singleton.mp m▸lt_size e)) (get?_push_of_some _ e)
theorem Ew(K : afh)(l : X.calm=true)(m : X.K=K := by rfl) : mR X (.builtin "all") (T_ K λbs => bs.all id) := by
  subst m
  intro pins s σ H xs us Q I r h
  obtain⟨p, bs, rfl, i, q⟩ := h
  obtain⟨u, rfl, f⟩ := vals1 r
  cases f
  obtain⟨a, d, k, hz⟩ := I.list i
  have c := k.isList
  have b : p<s.heap.objs.size := by obtain⟨_, e, _⟩ := c;exact lt_size e
  refine call_all_walk (wpAny_pyIter_list c ?_)
  refine⟨_, _, _, _, _, _, _, rfl, Walks.list (A := X.A.in1) (I.ok.hd l) s.heap.objs.size p (afy b) a.toArray, ⟨⟨_, get?_push_size _ rfl, rfl, rfl⟩, c.push _⟩, Jt d, λh' tk g => ?_⟩
  have j : a.toArray.size=bs.length := by
    rw[size_toArray, ← d.length, length_map]
  rw[j, range_all]
  exact⟨.bl (bs.all id), H, I.kept (ac9 g), rfl, q⟩
end
end L2
namespace Ts
open PySem L2
section
variable{K : afh}{B : Bs}{sl : List (Slot K)}{md : Md}{t t1 t2 : TE}{n : Bool}
theorem Ju(h : Ex B sl .hp t m) : Ex B sl md (Ng (T_ K f) (cD t fu)) (m.bind λbs => some (f bs)) := λc hc F O H σ Q s k => by
  cases m with
  |none => cases hc
  |some bs =>
    cases(hc)
    refine h bs rfl F O H σ _ s λv F' H' g r1 => ?_
    obtain⟨p, vs, rfl, z1, z2⟩ := r1
    have z3 := z2.vals
    subst z3
    exact⟨p, bs, rfl, gj.of z1, k _ F' H' g rfl⟩
end
section
variable{β : Type}
noncomputable def gK(kvs : List (Key×β))(k : Key) : Option β := (kvs.find? λa => decide (a.1=k)).map (·.2)
def pK(kvs : List (Key×β))(k : Key)(v : β) : List (Key×β) := if(kvs.any λa => decide (a.1=k))=true then kvs.map (λa => if a.1=k then(a.1, v) else a) else kvs++[(k, v)]
abbrev vC(kvs : List (Key×β))(k : Int) : Option β := gK kvs (agm k)
noncomputable def dput(kvs : List (Key×β))(k : Int)(v : β) : Option (List (Key×β)) := if kvs.length<cap then some (pK kvs (agm k) v) else none
theorem GZ : ∀(kvs : List (Key×β))(k j : Key)(v : β), gK (pK kvs k v) j=if j=k then some v else gK kvs j := λkvs k j v => by
  unfold pK
  cases a : (kvs.any λb => decide (b.1=k)) with
  |true =>
    rw[if_pos rfl]
    induction kvs with
    |nil => cases a
    |cons x kvs ih =>
      unfold gK at ih ⊢
      rw[map_cons, find?_cons, find?_cons]
      by_cases e : x.1=k
      · rw[if_pos e]
        by_cases f : j=k
        · subst f
          rw[decide_eq_true (show(x.1, v).1=j from e), if_pos rfl];rfl
        · rw[decide_eq_false (show¬(x.1, v).1=j fromλz => f (z.symm.trans e)), if_neg f]
          show Option.map (λx => x.2) (List.find? (λb => decide (b.1=j)) (List.map (λb => if b.1=k then(b.1, v) else b) kvs))=Option.map (λx => x.2) (List.find? (λb => decide (b.1=j)) kvs)
          clear ih a
          induction kvs with
          |nil => rfl
          |cons y kvs ih =>
            grind
      grind
  |false =>
    rw[if_neg (by decide)]
    unfold gK
    grind
theorem G3(kvs : List (Key×β))(k : Key)(v : β) : (pK kvs k v).length≤kvs.length+1 := by
  unfold pK
  grind
end
section
variable{K : afh}{α : Type}[Rp K α]
abbrev DR(K : afh){α : Type}[Rp K α](F : Hp) : Key×V→Key×α→Prop := λx y => x.1=y.1∧rp K F x.2 y.2
theorem A2.any : ∀{ks : List (Key×V)}{kvs : List (Key×α)}, A2 (DR K F) ks kvs→(ks.any λa => decide (a.1=k))=(kvs.any λa => decide (a.1=k))
  |[], [], _ => rfl
  |_::_, _::_, h => by rw[any_cons, any_cons, h.1.1, A2.any h.2]
  |[], _::_, h => h.elim
  |_::_, [], h => h.elim
theorem A2.val : ∀{ks : List (Key×V)}{kvs : List (Key×α)}, A2 (DR K F) ks kvs→(gK kvs k=none∧uG ks k=none)∨∃a v, gK kvs k=some a∧uG ks k=some v∧rp K F v a
  |[], [], _ => .inl ⟨rfl, rfl⟩
  |x::ks, y::kvs, h => by
    unfold gK uG
    rw[find?_cons, find?_cons, h.1.1]
    by_cases e : y.1=k
    · rw[decide_eq_true e];exact .inr ⟨y.2, x.2, rfl, rfl, h.1.2⟩
    · rw[decide_eq_false e];exact A2.val h.2
  |[], _::_, h => h.elim
  |_::_, [], h => h.elim
theorem A2.ada(r : rp K F v a) : ∀{ks : List (Key×V)}{kvs : List (Key×α)}, A2 (DR K F) ks kvs→A2 (DR K F) (ks.map λb => if b.1=k then(b.1, v) else b) (kvs.map λb => if b.1=k then(b.1, a) else b)
  |[], [], _ => trivial
  |x::ks, y::kvs, h => by
    rw[map_cons, map_cons]
    refine⟨?_, A2.ada r h.2⟩
    by_cases e : x.1=k
    · rw[if_pos e, if_pos (h.1.1▸e)];exact⟨h.1.1, r⟩
    · rw[if_neg e, if_neg (h.1.1▸e)];exact h.1
  |[], _::_, h => h.elim
  |_::_, [], h => h.elim
theorem A2.put{F : Hp}{k : Key}{v : V}{a : α}(r : rp K F v a){ks : List (Key×V)}{kvs : List (Key×α)}(h : A2 (DR K F) ks kvs) : A2 (DR K F) (putK ks k v) (pK kvs k a) := by
  unfold putK pK
  rw[h.any]
  split
  · exact h.ada r
  · exact h.snoc ⟨rfl, r⟩
structure Dc(α : Type) where
  kv : List (Key×α)
instance : Rp K (Dc α) := ⟨λF v d => ∃p ks, v=.ref p∧F p=some (.dK ks)∧A2 (DR K F) ks d.kv, λs ⟨p, ks, h1, h2, h3⟩ => ⟨p, ks, h1, s _ _ h2, h3.imp λ_ _ z => ⟨z.1, Rp.mono s z.2⟩⟩⟩
variable{B : Bs}{sl : List (Slot K)}{md : Md}{t t2 : TE}{F H G : Hp}{O : Own}{σ : St}{u : TS}{al : Bool}
theorem Ai{kvs : List (Key×α)}(i : Nat)(e : sl[i]?=some (.od kvs)) : Ex B sl .hp (mU i) (some (Dc.mk kvs)) := λa' f F O H σ Q s k => by
  cases f
  obtain⟨a, b⟩ := s
  obtain⟨O1, O2, p, c, rfl, d, g, _⟩ := b.Zr e
  exact⟨_, d, k _ F H (.refl a) ⟨p, c, rfl, a.one.2.2, g.imp λ_ _ z => ⟨z.1, Rp.mono a.fh z.2⟩⟩⟩
theorem Ua{m : Option Int}{b : Option (Dc α)}(h : Ex B sl .hp t m)(h2 : Ex B sl .hp t2 b) : Ex B sl md (aak t t2) (m.bind λk => b.bind λd => some (vC d.kv k).isSome) := λc o F O H σ Q s f => by
  obtain⟨k, d, i, l, n⟩ := jM o
  cases n
  refine h k i F O H σ _ s λv C q g y => ?_
  refine h2 d l C O q σ _ (s.grow g) λw J E z D => ?_
  cases y
  obtain⟨p, A, rfl, x, I⟩ := D
  refine⟨p, _, rfl, Qd.k (k := agm k) x, ?_⟩
  have e : (uG A (agm k : Key)).isSome=(vC d.kv k).isSome := by
    rcases I.val (k := agm k) with⟨j, r⟩|⟨a, v, j, r, _⟩
    · grind
    grind
  rw[e]
  exact f _ J E (g.trans z) rfl
theorem N_{kvs : List (Key×α)}{m : Option α}{mi : Option Int}{te x : TE}(i : Nat)(C : sl[i]?=some (.od kvs))(A : sl.all (λs => !jm s)=true)(J : Ex B sl .fz te m)(N : Ex B sl .hp x mi) :
    Sn B sl (Sv (mU i) x te) (λys => sl.set i (.od ys)) (m.bind λa => mi.bind λk => dput kvs k a) := λys E G D σ H s k => by
  obtain⟨a, h, S, U, f⟩ := jM E
  unfold dput at f
  split at f
  case isFalse => cases f
  rename_i Q
  cases f
  obtain⟨F, O, g, z⟩ := s
  refine J a S F O H σ _ z λv P M j r => ?_
  obtain⟨p, ks, y, h2, h3, _⟩ := (z.grow j).Xx C A
  refine⟨_, y, ?_⟩
  refine N h U P O M σ _ (z.grow j) λw T H2 b L => ?_
  cases L
  obtain⟨p', n, l, q, c, o⟩ := ((z.grow j).grow b).Xx C A
  have e := y.symm.trans l
  cases e
  obtain⟨I, R⟩ := o (putK n (agm h) v) (pK kvs (agm h) a) (c.put (Rp.mono b.ff r))
  exact⟨p, _, rfl, Qe.k (k := agm h) q (k_ (by rw[c.len];exact Q)), k _ _ ⟨T, I, (g.trans j.ff).trans b.ff, R⟩⟩
end
section
variable{K : afh}{B : Bs}{sl : List (Slot K)}{md : Md}{t : TE}{u : TS}{al : Bool}{α : Type}[Rp K α]
abbrev adb : List V→Hp→VK→Prop := λa H Q => (∃i, a=[.int i]∧Q (.int i) H)∨∃k, a=[.bl k]∧Q (.int (if k then 1 else 0)) H
theorem XQ(h : Ex B sl .hp t m) : Ex B sl md (Ng adb (cD t fu)) (m.bind λb => some (if b=true then(1 : Int) else 0)) := λc a F O H σ Q s k => by
  cases m with
  |none => cases a
  |some b =>
    cases(a)
    refine h b rfl F O H σ _ s λv e d g f => ?_
    cases f
    exact .inr ⟨b, rfl, k _ e d g rfl⟩
end
end Ts
namespace L2
open PySem PySem.Spec PyProof.Rows
def Its(x : Str) : It := ⟨λi _ => i<x.cps.size, λi H v a => a=H∧∃c, x.cps[i]?=some c∧v=.str ⟨#[c]⟩, λi _ => x.cps.size≤i⟩
theorem K9{P : Program}{w : World}{K : afh}{N : Expr}(d : Addr)(x : Str)(t : Tok) : Turn P w K N (Its x) [d] d (λi h => h.IsStrIter d "str_ascii_iterator" x t i) where
  mem := mem_singleton.mpr rfl
  obj := λi h st b f => by
    have e : b=d := mem_singleton.mp f
    subst e
    obtain⟨o, m, g, M⟩ := st
    grind
  keep := λi h l st k => by
    obtain⟨o, m, r⟩ := st
    exact⟨o, k d (mem_singleton.mpr rfl) _ m, r⟩
  item := by
    intro X B q y g i a s σ H E I p st G
    subst B q y
    obtain⟨A, D, O, C, J, F⟩ := p d (mem_singleton.mpr rfl)
    refine(Walks.strAscii (prog := X.prog) (w := X.w) (I.ok.hd g) d x t).item i s _ _ G st λv l L R j U => ?_
    obtain⟨c, u, S, rfl⟩ := R
    have T : Inv X a σ H { s with heap := l, toks := L } := I.turned (λb o f e => U b o (λz => f (mem_singleton.mp z)) e) A D C J F
    obtain⟨o, m, g, M⟩ := id j
    exact⟨_, rfl, I_ (s := { s with heap := l, toks := L }) (n := "str_ascii_iterator") m g M (by decide) ⟨.str ⟨#[c]⟩, H, T, ⟨u, rfl⟩, ⟨rfl, c, S, rfl⟩, j, λb f => (p b f).1⟩⟩
  done := by
    intro X B q y g i a s σ H E I p st G
    subst B q y
    obtain⟨A, D, O, C, J, F⟩ := p d (mem_singleton.mpr rfl)
    exact wpAny_pyNext_ascii_end (I.ok.hd g) st (Array.getElem?_eq_none G) λl Q => ⟨rfl, I.turned (t' := s.toks) (λb o f e => Q b o f e) A D C J F⟩
  self := λ_ _ _ _ _ st h => wpAny_pyIter_striter_ascii st h
theorem Qq{P : Program}{w : World}{K : afh}{N : Expr}(d : Addr)(x : Str)(t : Tok) : Turn P w K N (Its x) [d] d (λi h => h.IsStrIter d "str_iterator" x t i) where
  mem := mem_singleton.mpr rfl
  obj := λi h st b f => by
    have e : b=d := mem_singleton.mp f
    subst e
    obtain⟨o, m, g, M⟩ := st
    grind
  keep := λi h l st k => by
    obtain⟨o, m, r⟩ := st
    exact⟨o, k d (mem_singleton.mpr rfl) _ m, r⟩
  item := by
    intro X B q y g i a s σ H E I p st G
    subst B q y
    obtain⟨A, D, O, C, J, F⟩ := p d (mem_singleton.mpr rfl)
    refine(Walks.strWide (prog := X.prog) (w := X.w) (I.ok.hd g) d x t).item i s _ _ G st λv l L R j U => ?_
    obtain⟨c, u, S, rfl⟩ := R
    have T : Inv X a σ H { s with heap := l, toks := L } := I.turned (λb o f e => U b o (λz => f (mem_singleton.mp z)) e) A D C J F
    obtain⟨o, m, g, M⟩ := id j
    exact⟨_, rfl, I_ (s := { s with heap := l, toks := L }) (n := "str_iterator") m g M (by decide) ⟨.str ⟨#[c]⟩, H, T, ⟨u, rfl⟩, ⟨rfl, c, S, rfl⟩, j, λb f => (p b f).1⟩⟩
  done := by
    intro X B q y g i a s σ H E I p st G
    subst B q y
    obtain⟨A, D, O, C, J, F⟩ := p d (mem_singleton.mpr rfl)
    exact wpAny_pyNext_wide_end (I.ok.hd g) st (Array.getElem?_eq_none G) λl Q => ⟨rfl, I.turned (t' := s.toks) (λb o f e => Q b o f e) A D C J F⟩
  self := λ_ _ _ _ _ st h => wpAny_pyIter_striter_wide st h
section
variable{X : Cx}{tg : Expr}
def ade(a : TE) : TI := λσ H R => a σ H λx b => ∃y, x=.str y∧R (Its y) b
theorem Ub(n : PE X l p) : PI X tg l (ade p) := by
  intro a s σ H R I h
  refine dN (n a s σ H _ I h) ?_
  rintro v c ⟨x, f, d, k, m⟩
  obtain⟨y, e, q⟩ := m
  subst e
  obtain⟨t, rfl⟩ := k
  have g : ∀b∈[c.heap.objs.size], uY X a f b := λb j => by
    have e : b=c.heap.objs.size := mem_singleton.mp j
    subst e
    exact d.I9 (afj _) (d.hok.fresh (afj _))
  cases i : y.cps.all (· < 128)
  · exact wpAny_pyIter_wide i ⟨c.heap.objs.size, [c.heap.objs.size], _, _, f, rfl, d.kept (t' := c.toks) λb o e => get?_push_of_some _ e, Qq _ y t, ⟨_, get?_push_size _ rfl, rfl, rfl⟩, g, q⟩
  · exact wpAny_pyIter_ascii i ⟨c.heap.objs.size, [c.heap.objs.size], _, _, f, rfl, d.kept (t' := c.toks) λb o e => get?_push_of_some _ e, K9 _ y t, ⟨_, get?_push_size _ rfl, rfl, rfl⟩, g, q⟩
end
end L2
namespace Ts
open PySem L2
section
variable{K : afh}{B : Bs}{sl : List (Slot K)}{md : Md}{t ta tb tc : TE}{n : Bool}
def signs(x : Str) : List Str := x.cps.toList.map λc => (⟨#[c]⟩ : Str)
theorem Uc(h : Ex B sl .hp t mi) : Ei B sl n (ade t) (mi.bind λx => some (signs x)) := λxs f F O H σ R a k => by
  cases mi with
  |none => cases f
  |some x =>
    cases(f)
    refine h x rfl F O H σ _ a λv j q p r => ?_
    cases r
    refine⟨x, rfl, k _ j q p λi s O2 H2 sf m => ⟨λl => ?_, λy b => ?_⟩⟩
    · show x.cps.size≤i
      unfold signs at l
      grind
    · unfold signs at b
      rw[getElem?_map, Array.getElem?_toList] at b
      cases e : x.cps[i]? with
      |none => grind
      |some c =>
        rw[e] at b
        cases b
        have o : i<x.cps.size := (ag9.mp e).1
        refine⟨o, λv H3 g => ?_⟩
        obtain⟨rfl, c', d, rfl⟩ := g
        rw[e] at d
        cases d
        exact⟨s, .refl m, rfl⟩
theorem wU{f g : Int→Int→Bool}(E : Ex B sl .hp ta y)(h2 : Ex B sl .hp tb I)(J : Ex B sl .hp tc p) :
    Ex B sl md (RT (Ko λi j => .bl (f i j)) (Ko λi j => .bl (g i j)) ta tb tc) (y.bind λa => I.bind λb => if f a b=true then p.bind λc => some (g b c) else some false) := λd z F O H σ Q s k => by
  obtain⟨a, b, P, M, e⟩ := jM z
  refine E a P F O H σ _ s λv G A h C => ?_
  refine h2 b M G O A σ _ (s.grow h) λw o m l D => ?_
  cases C
  cases D
  refine⟨a, b, rfl, rfl, _, rfl, ?_⟩
  by_cases q : f a b=true
  · rw[if_pos q] at e ⊢
    cases p with
    |none => cases e
    |some c =>
      cases(e)
      refine J c rfl o O m σ _ ((s.grow h).grow l) λu L N x r => ?_
      cases r
      exact⟨b, c, rfl, rfl, k _ L N ((h.trans l).trans x) rfl⟩
  · rw[if_neg q] at e ⊢
    cases e
    exact k _ o m (h.trans l) rfl
def Zz : List V→Hp→VK→Prop := λa H Q => ∃x : Str, a=[.str x]∧x.length<cap∧Q (.int x.length) H
theorem pL : mR X (.builtin "len") Zz := by
  intro a s σ H xs c Q I r h
  obtain⟨x, rfl, b, q⟩ := h
  exact RV a s σ H _ c Q I r ⟨_, _, rfl, ⟨af6 (k_ b), rfl⟩, q⟩
noncomputable def zQ(x : Str) : Option Int := if x.length<cap then some (x.length : Int) else none
theorem wV(h : Ex B sl .hp t m) : Ex B sl md (Ng Zz (cD t fu)) (m.bind zQ) := λc a F O H σ Q s k => by
  cases m with
  |none => cases a
  |some x =>
    have a : zQ x=some c := a
    unfold zQ at a
    split at a
    case isFalse => cases a
    rename_i e
    cases a
    refine h x rfl F O H σ _ s λv d b g f => ?_
    cases f
    exact⟨x, rfl, e, k _ d b g rfl⟩
def XR(i j : Str) : Bool := !(aga j i 0 j.length 1).isEmpty
abbrev aer : R2 := λx y H Q => ∃i j, x=.str i∧y=.str j∧Q (.bl (!(aga j i 0 j.length 1).isEmpty)) H
theorem Ud(h : Ex B sl .hp ta d)(h2 : Ex B sl .hp tb i) : Ex B sl md (wD aer ta tb) (d.bind λa => i.bind λb => some (XR a b)) :=
  wQ (λa b c v w H Q e g f q => by
    cases e
    cases g
    cases f
    exact⟨a, b, rfl, rfl, q⟩) h h2
theorem aay{ws : List Str}(f : ∀H, zN K H p (ws.map V.str))(h : Ex B sl .hp t m) : Ex B sl md (wD (rIn K false) t (tC (.ref p))) (m.bind λx => some (decide (x∈ws))) := λc b F O H σ Q s k => by
  cases m with
  |none => cases b
  |some x =>
    cases(b)
    refine h x rfl F O H σ _ s λv i d g e => ?_
    cases e
    refine⟨p, _, rfl, .inr (f d), Fl.flat (K := K) x, NT (K := K) ws, ?_⟩
    have := K5 (K := K) x ws
    rw[show inV (V.str x) (ws.map V.str)=decide (x∈ws) from this]
    exact k _ i d g rfl
end
section
variable{P : Program}{w : World}{K : afh}{mg : Str→Option Value}{base : Heap}{B : Bs}{sl : List (Slot K)}{al : Bool}{S β : Type}[Rp K β]
theorem gW : Sn B sl Gm L none := λa b => by cases b
theorem Ue : Sx B sl Gm al L (none : Option (Out S β)) := λa b => by cases b
theorem uq{A : Type}{as : A→List (Slot K)}{u : A→Option Unit}(F : gn K x i st f fd)(S : bf N ps (aH st))(hf : ∀a, (as a).all isF=true)(n : ∀a, (as a).length=ps.length)(hb : ∀(d : Value) (A : Around) (c : List Env) (s : Shared) (H : Hp) (E : XK), f9 k (A.deeper (agp i (aH st) s.heap.objs.size f d)) →
      ∃t, xY (nJ jE P w K mg base N i (aH st) f d A c s H E).rB (dB st) t∧∀j a, ∃L : Unit→List (Slot K), Sn ⟨j, H⟩ (as a++replicate (N.length-ps.length) .un) t L (u a)) :
    bY P w K mg base jE (k+1) f fd ps (nD K al as u) :=
  F.ok S (λm H Q E h => K1 n h) λd A c s H m Q E C h => by
    obtain⟨t, p, q⟩ := hb d A c s H E C
    refine⟨t, p, ?_⟩
    obtain⟨a, b, j, s, l, r, v⟩ := h
    have e : L2.start N m=m.map some++replicate (N.length-ps.length) none := by
      unfold L2.start
      rw[r.len, n]
    rw[e]
    obtain⟨L, q⟩ := q j a
    exact q b l j _ _ H ⟨j, [], .refl _, ⟨s, .refl _, λb o h => .inl h, λx z => (by cases z), (by simp)⟩, oR _ (hf a) r⟩ (by rintro σ' G ⟨F', O', g, D⟩;exact v .non G D.1.h0 rfl)
noncomputable def Rw(a : Str)(i : Int) : Option Str := if i.natAbs.log2<1920 then some (a++agr (toString i)) else none
noncomputable def XS(a z : Str) : Option Str := if z.length≤1000 then some (a++z) else none
theorem G4(a : Str)(h : Ex B sl .hp t m) : Ex B sl md (tFs a t) (m.bind (Rw a)) := λc b F O H σ Q s k => by
  cases m with
  |none => cases b
  |some i =>
    have b : Rw a i=some c := b
    unfold Rw at b
    split at b
    case isFalse => cases b
    rename_i f
    cases b
    refine h i rfl F O H σ _ s λv e d g j => ?_
    cases j
    exact .inl ⟨i, rfl, f, k _ e d g rfl⟩
theorem Ug(a : Str)(h : Ex B sl .hp t m) : Ex B sl md (tFs a t) (m.bind (XS a)) := λc b F O H σ Q s k => by
  cases m with
  |none => cases b
  |some i =>
    have b : XS a i=some c := b
    unfold XS at b
    split at b
    case isFalse => cases b
    rename_i f
    cases b
    refine h i rfl F O H σ _ s λv e d g j => ?_
    cases j
    exact .inr ⟨i, rfl, f, k _ e d g rfl⟩
theorem adf : afo K (.type "str") (.type "str")=some true := rfl
theorem vD : bootBuiltins "str" = some (.type "str") := by decide +kernel
end
section
variable{β : Type}
abbrev oV(kvs : List (Key×β))(k : Str) : Option β := gK kvs (agn k)
noncomputable def wW(kvs : List (Key×β))(k : Str)(v : β) : Option (List (Key×β)) := if kvs.length<cap then some (pK kvs (agn k) v) else none
end
section
variable{K : afh}{α : Type}[Rp K α]
variable{B : Bs}{sl : List (Slot K)}{md : Md}{t t2 : TE}{F H G : Hp}{O : Own}{σ : St}{u : TS}{al : Bool}
theorem Oa{m : Option Str}{b : Option (Dc α)}(h : Ex B sl .hp t m)(h2 : Ex B sl .hp t2 b) : Ex B sl md (aak t t2) (m.bind λk => b.bind λd => some (oV d.kv k).isSome) := λc o F O H σ Q s f => by
  obtain⟨k, d, i, l, n⟩ := jM o
  cases n
  refine h k i F O H σ _ s λv C q g y => ?_
  refine h2 d l C O q σ _ (s.grow g) λw J E z D => ?_
  cases y
  obtain⟨p, A, rfl, x, I⟩ := D
  refine⟨p, _, rfl, Qd.k (k := agn k) x, ?_⟩
  have e : (uG A (agn k : Key)).isSome=(oV d.kv k).isSome := by
    rcases I.val (k := agn k) with⟨j, r⟩|⟨a, v, j, r, _⟩
    · grind
    grind
  rw[e]
  exact f _ J E (g.trans z) rfl
theorem Jv{kvs : List (Key×α)}{m : Option α}{mi : Option Str}{te q : TE}(i : Nat)(A : sl[i]?=some (.od kvs))(y : sl.all (λs => !jm s)=true)(I : Ex B sl .fz te m)(M : Ex B sl .hp q mi) :
    Sn B sl (Sv (mU i) q te) (λys => sl.set i (.od ys)) (m.bind λa => mi.bind λk => wW kvs k a) := λys C G D σ H s k => by
  obtain⟨a, f, R, T, d⟩ := jM C
  unfold wW at d
  split at d
  case isFalse => cases d
  rename_i P
  cases d
  obtain⟨F, O, g, z⟩ := s
  refine I a R F O H σ _ z λv N L h r => ?_
  obtain⟨p, ks, x, h2, h3, _⟩ := (z.grow h).Xx A y
  refine⟨_, x, ?_⟩
  refine M f T N O L σ _ (z.grow h) λw S H2 b J => ?_
  cases J
  obtain⟨p', l, j, o, c, n⟩ := ((z.grow h).grow b).Xx A y
  have e := x.symm.trans j
  cases e
  obtain⟨E, Q⟩ := n (putK l (agn f) v) (pK kvs (agn f) a) (c.put (Rp.mono b.ff r))
  exact⟨p, _, rfl, Qe.k (k := agn f) o (k_ (by rw[c.len];exact P)), k _ _ ⟨S, E, (g.trans h.ff).trans b.ff, Q⟩⟩
end
abbrev LLI := List (List Int)
abbrev W5 := List (Str×List Int)
structure lV(p : Addr) where
  u : Unit
noncomputable def mkG(C : Addr)(h : LLI→Option Unit)(f : W5→Int→Option Unit)(i : LLI→Int→Option Unit)(e g : LLI→Option LLI)(xss : LLI)(mo : Option W5)(fo : Option LLI) : Option (qC C) :=
  (h xss).bind λ_ => (f (mo.getD []) (xss.length : Int)).bind λ_ => (i (fo.getD []) (xss.length : Int)).bind λ_ => (e xss).bind λa => (bL (λ_ => some true) (λx : Str×List Int => some (x.1, x.2)) (mo.getD [])).bind λb =>
    (e (fo.getD [])).bind λc => (g a).bind λd => some ⟨a, b, c, d⟩
theorem lH{α β : Type}{m : Option α}{f : α→Option β}{b : β}(h : m.bind f=some b) : ∃a, m=some a∧f a=some b := by
  cases m with
  |none => cases h
  |some a => grind
section
variable{K : afh}{C : Addr}{B : Bs}{sl : List (Slot K)}{F H : Hp}{O : Own}{σ : St}
instance : Rp K (lV p) := ⟨λ_ v _ => v=.ref p, λ_ h => h⟩
noncomputable def Jw(K : afh)(C : Addr)(mk : LLI→Option W5→Option LLI→Option (qC C)) : Sp := λj H Q _ => ∃(p i : Addr)(g d f : V)(a : LLI)(h : Option W5)(e : Option LLI)(M : qC C), j=[.ref p, g, d, f]∧H p=some (.ins C i []) ∧
  rp K (hid H p) g a∧rp K (hid H p) d h∧rp K (hid H p) f e∧mk a h e=some M∧∀c : Hp, (∀b o, b≠p→H b=some o→c b=some o)→rp K (dif c (hid H p)) (.ref p) M→Q .non c
variable{mk : LLI→Option W5→Option LLI→Option (qC C)}
theorem Uh{a : Hp}{x d : Addr}(m : a x=none)(j : a d=none){l h i : V}{xss : LLI}{mo : Option W5}{fo : Option LLI}{c : qC C}(z : rp K a l xss)(r : rp K a h mo)(y : rp K a i fo)(p : mk xss mo fo=some c){Q : VK}{E : XK}(k : ∀f : Hp, Same a f→rp K (dif f a) (.ref x) c→Q (.ref x) f) : Jw K C mk [.ref x, l, h, i] (upd (upd a d (.own x)) x (.ins C d [])) (λv f => v=.non∧Q (.ref x) f) E := by
  have n : Same a (upd (upd a d (.own x)) x (.ins C d [])) := λb o e => by rw[aP (aR e m), aP (aR e j)];exact e
  have g : Same a (hid (upd (upd a d (.own x)) x (.ins C d [])) x) := λb o e => by
    unfold hid
    rw[if_neg (aR e m)]
    exact n b o e
  refine⟨x, d, l, h, i, xss, mo, fo, c, rfl, aY, Rp.mono g z, Rp.mono g r, Rp.mono g y, p, λf t w => ⟨rfl, ?_⟩⟩
  refine k f (λb o e => t b o (aR e m) (n b o e)) (Rp.mono (λb o e => ?_) w)
  have s : a b=none := by
    cases q : a b with
    |none => rfl
    |some u =>
      have := g b u q
      unfold dif at e
      grind
  rw[iR s]
  exact eU _ _ e
theorem Qs(D : Ex B sl .hp u t)(h2 : Ex B sl .hp E p)(I : Ex B sl .hp v o) :
    En B sl (zp C (Jw K C mk) [] E0 (cD u (cD E (cD v fu)))) (t.bind λa => p.bind λb => o.bind λc => mk a (some b) (some c)) := λc e F O H σ Q s r => by
  obtain⟨a, rfl, e⟩ := lH e
  obtain⟨b, rfl, e⟩ := lH (m := p) e
  obtain⟨d, rfl, e⟩ := lH (m := o) e
  refine D a rfl F O H σ _ s λv1 A S l z => ?_
  refine h2 b rfl A O S σ _ (s.grow l) λN R M f n => ?_
  refine I d rfl R O M σ _ ((s.grow l).grow f) λw J h i q => ?_
  intro x dx L j nex
  have g := n
  have k := q
  exact Uh L j (Rp.mono (f.hh.trans i.hh) z) (show rp K h N (some b) from⟨Nn.nn g, Rp.mono i.hh n⟩) (show rp K h w (some d) from⟨Nn.nn k, q⟩) e λy P G => r _ J h y (l.trans (f.trans i)) P G
theorem vH(h : b≠p) : hid H p b=H b := by unfold hid;grind
theorem yC : hid H p p=none := by unfold hid;grind
theorem Bu : Same (hid H p) H := λb o e => by
  by_cases q : b=p
  · subst q;rw[yC] at e;cases e
  · rw[vH q] at e;exact e
theorem pN(s : Same H H') : Same (hid H p) (hid H' p) := λb o e => by
  by_cases q : b=p
  · subst q;rw[yC] at e;cases e
  · rw[vH q] at e ⊢;exact s b o e
theorem oW : hid (upd H p o) p=hid H p := by
  funext b
  by_cases q : b=p
  · subst q;rw[yC, yC]
  · rw[vH q, vH q, aP q]
theorem G5(kp : ∀b o, b≠p→H b=some o→a b=some o)(d : a p≠none) : Same (dif H' a) (dif (hid H' p) (hid H p)) := λb o e => by
  have g : a b=none := by
    cases q : a b with
    |none => rfl
    |some u => unfold dif at e;grind
  have c : b≠p := λq => d (by grind)
  rw[iR g] at e
  have f : hid H p b=none := by
    rw[vH c]
    cases q : H b with
    |none => rfl
    |some u => grind
  rw[iR f, vH c]
  exact e
theorem K_(e : aJ (K := K) ⟨hid c p, c⟩ (hid c p) (lo (hid c p) [] c) c sl σ []) : At (K := K) ⟨hid c p, c⟩ sl (hid c p) [] c σ :=
  ⟨⟨Bu, .refl _, λb o h => .inl h, λx d => (by cases d), by simp⟩, e⟩
end
end Ts
namespace aaz
open PySem PySem.Spec PyProof.Rows
section
variable{κ : Type}[DecidableEq κ]
def met(a : Nat→κ) : Nat→List κ
  |0 => []
  |i+1 => if a i∈met a i then met a i else a i::met a i
variable{prog : Program}{w : World}{knd : KeyKind prog w κ}{dec : Value→κ}{led : Bool}{A : Around}{R : Result→Shared→Prop}{I : Addr}{fp wr : List Addr}{G : Array GenState→Array GenState→Prop}{n : Nat}{P : Nat→Value→Prop}{St : Nat→Shared→Prop}
end
end aaz
namespace Ts
open PySem L2
section
variable{K : afh}{B : Bs}{sl sl2 : List (Slot K)}{G F H : Hp}{O : Own}{σ : St}{te : TE}
theorem X4{α β : Type}[Rp K α][Rp K β]{m : Option (α×β)}{L : α×β→List (Slot K)}(h : Ex B sl (qg n) te m)(f : Tg B sl n g L) : Sn B sl (yc te g) L m := λa i G D σ H s k => by
  obtain⟨F, O, e, z⟩ := s
  exact h a i F O H σ _ z λv c d b r => f v a c O d σ _ (z.grow b) r λσ' j => k _ _ ⟨c, O, e.trans b.ff, j⟩
end
noncomputable def iz{α : Type}(xs : List α)(lo b : Option Int) : List α := (xs.drop (HT.Dn xs.length 0 lo)).take (HT.Dn xs.length xs.length b-HT.Dn xs.length 0 lo)
noncomputable def pO{α : Type}(xs ys : List α) : Option (List α) := if xs.length+ys.length≤cap then some (xs++ys) else none
section
variable{P : Program}{w : World}{K : afh}{mg : Str→Option Value}{base : Heap}{B : Bs}{sl : List (Slot K)}{md : Md}{α β : Type}[Rp K α][Rp K β]{tA : Addr}{tO : HO}{te t1 t2 : TE}
theorem A2.cut(h : A2 R vs xs)(lo a : Option Int) : A2 R (SM vs lo a) (iz xs lo a) := by
  unfold SM iz
  rw[h.len]
  exact(h.dr _).tk _
theorem pP[Sc K α]{m : Option (List α)}{mi : Option Int}{e : TE}(h : Ex B sl .hp te m)(q : Ex B sl .hp e mi) : Eo B sl md (Zm (KH K) te (wL e) qt) (m.bind λxs => mi.bind λi => some (iz xs (some i) none)) := λc b F O H σ Q s k => by
  obtain⟨xs, i, j, a, b⟩ := jM b
  cases b
  refine h xs j F O H σ _ s λv t z g r => ?_
  refine q i a t O z σ _ (s.grow g) λu f A d o => ?_
  obtain⟨p, y, rfl, n, C⟩ := r
  exact⟨i, o, p, y, rfl, gj.of (d.hh _ _ n), λl x => k l _ f A (g.trans d) x (C.cut _ _).sc⟩
theorem wX[Sc K α]{m : Option (List α)}{mi : Option Int}{e : TE}(h : Ex B sl .hp te m)(q : Ex B sl .hp e mi) : Eo B sl md (Zm (KH K) te qt (wL e)) (m.bind λxs => mi.bind λi => some (iz xs none (some i))) := λc b F O H σ Q s k => by
  obtain⟨xs, i, j, a, b⟩ := jM b
  cases b
  refine h xs j F O H σ _ s λv t z g r => ?_
  refine q i a t O z σ _ (s.grow g) λu f A d o => ?_
  obtain⟨p, y, rfl, n, C⟩ := r
  exact⟨i, o, p, y, rfl, gj.of (d.hh _ _ n), λl x => k l _ f A (g.trans d) x (C.cut _ _).sc⟩
theorem rP[Sc K α]{h j : Option (List α)}(z : Ex B sl .hp t1 h)(h2 : Ex B sl .hp t2 j) : Eo B sl md (wD acz t1 t2) (h.bind λa => j.bind λb => pO a b) := λc d F O H σ Q s k => by
  obtain⟨D, M, I, C, d⟩ := jM d
  unfold pO at d
  split at d
  case isFalse => cases d
  rename_i E
  cases d
  refine z D I F O H σ _ s λv A o g r => ?_
  refine h2 M C A O o σ _ (s.grow g) λu n L f y => ?_
  obtain⟨p, G, rfl, t, m⟩ := r
  obtain⟨q, x, rfl, J, i⟩ := y
  refine⟨p, q, G, x, rfl, rfl, f.hh _ _ t, J, ?_, λl e => k l _ n L (g.trans f) e (m.sc.app i.sc)⟩
  rw[m.len, i.len]
  exact Tz E
theorem wY(K : afh){X : Cx}(h : X.K=K := by rfl) : SlR X (KH K) := by subst h;exact Xp
end
section
variable{X : Cx}{pos pos' : Pos}{x : Str}{e : Expr}{te : TE}
theorem cg(i : Nat)(a : X.N.Nodup)(d : PE X e te)(b : X.N[i]?=some x := by rfl)(c : Loc X.env.scope x := by first|exact .inl rfl|exact .inr rfl)(g : swapsWith e (some (.Name x pos')) pos.line X.env=pure false := by rfl)(f : X.fn x=true∨X.env.scope.names.lookup x=some .local := by first|exact .inl rfl|exact .inr rfl|assumption) : PS X (.Assign [.Name x pos'] e pos) (yc te (kO i)) := Ba a b c d g f
theorem jF(i : Nat)(a : X.N.Nodup)(d : X.N[i]?=some x := by rfl)(b : Loc X.env.scope x := by first|exact .inl rfl|exact .inr rfl)(c : X.fn x=true∨X.env.scope.names.lookup x=some .local := by first|exact .inl rfl|exact .inr rfl|assumption) : PG X (.Name x pos) (kO i) := bN a d b c
end
theorem esc{K : afh}{B : Bs}{a : List (Slot K)}{md : Md}{α : Type}[Rp K α][Sc K α]{t : TE}{m : Option α}(h : Ex B a .hp t m) : Ex B a md t m := h.sc
theorem fsc{N P : List Str}{s : Scope}(g : s.kind=.function := by rfl)(h2 : s.isCoroutine=false := by rfl)(d : s.isGenerator=false := by rfl)(e : N.Nodup := by decide +kernel)(b : N.take P.length=P := by rfl)(c : ∀x∈P, s.names.lookup x=some .local∨s.names.lookup x=some .cell := by decide +kernel)(f : ∀y∈s.names, y.2≠.free := by decide +kernel) : bf N P s := ⟨g, h2, d, e, b, c, f⟩
section
variable{K : afh}{x y : Str}{st : Stmt}{f : Addr}{fd : FuncData}{p0 p1 p2 p3 p4 : Str}
theorem Ez(F : gn K x y st f fd)(h : ∀kV p o n j l i, bindArgs (agl x y (iy st) (dB st) (aH st) .none kV p o n j l) ⟨[i], []⟩=pure [(p0, i)] := by intros;rfl) : Binds K fd [p0] [] := F.binds λa b c d e g m k => by
  rcases m with _|⟨i, _|_⟩<;>cases k
  exact h a b c d e g i
theorem G6(F : gn K x y st f fd)(h : ∀kV m p o k l i j, bindArgs (agl x y (iy st) (dB st) (aH st) .none kV m p o k l) ⟨[i, j], []⟩=pure [(p0, i), (p1, j)] := by intros;rfl) : Binds K fd [p0, p1] [] := F.binds λa b c d e g n q => by
  rcases n with _|⟨i, _|⟨j, _|_⟩⟩<;>cases q
  exact h a b c d e g i j
theorem bi3(F : gn K x y st f fd)(h : ∀kV n q p l r k i j, bindArgs (agl x y (iy st) (dB st) (aH st) .none kV n q p l r) ⟨[k, i, j], []⟩=pure [(p0, k), (p1, i), (p2, j)] := by intros;rfl) : Binds K fd [p0, p1, p2] [] := F.binds λa b c d e g o m => by
  rcases o with _|⟨k, _|⟨i, _|⟨j, _|_⟩⟩⟩<;>cases m
  exact h a b c d e g k i j
theorem bi4(F : gn K x y st f fd)(h : ∀kV o r q m s l i j k, bindArgs (agl x y (iy st) (dB st) (aH st) .none kV o r q m s) ⟨[l, i, j, k], []⟩=pure [(p0, l), (p1, i), (p2, j), (p3, k)] := by intros;rfl) : Binds K fd [p0, p1, p2, p3] [] := F.binds λa b c d e g p n => by
  rcases p with _|⟨l, _|⟨i, _|⟨j, _|⟨k, _|_⟩⟩⟩⟩<;>cases n
  exact h a b c d e g l i j k
theorem bi5(F : gn K x y st f fd)(h : ∀kV o s r n t m j l k i, bindArgs (agl x y (iy st) (dB st) (aH st) .none kV o s r n t) ⟨[m, j, l, k, i], []⟩=pure [(p0, m), (p1, j), (p2, l), (p3, k), (p4, i)] := by intros;rfl) : Binds K fd [p0, p1, p2, p3, p4] [] := F.binds λa b c d e g q p => match q, p with|[m, j, l, k, i], _ => h a b c d e g m j l k i
end
theorem eV{K : afh}{a b : List (Slot K)}(h : Le a b := by repeat(first|exact Le.nil|refine Le.eq ?_|refine Le.un ?_|refine Le.fr ?_)) : Le a b := h
theorem jr{K : afh}{a b : List (Slot K)}(h : Ir a b := by repeat(first|exact Ir.nil|refine Ir.eq ?_|refine Ir.un ?_)) : Ir a b := h
abbrev Slot.z{α : Type}[Rp K α](a : α) : Slot K := .fz false a
abbrev Slot.y{α : Type}[Rp K α](a : α) : Slot K := .fz true a
end Ts
namespace aaz
open PySem PySem.SetTable
def seen(m : Nat) : Nat→Nat→Nat→Nat
  |0, _, a => a
  |t+1, i, a => seen m t ((i*5+1)%m) (a|||1 <<< i)
theorem getD_none{owner : Array (Option Nat)} : owner.getD j (some 0)=none↔owner.toList[j]?=some none := by
  rw[Array.getD_eq_getD_getElem?]
  grind
end aaz
namespace Sy
open PySem L2
inductive Tr where
  |all
  |mark (x : Str)
  |one (i : Fin 7) (t : Tr)
  |two (i : Fin 4) (l r : Tr)
def w1(i : Fin 7) : Str := (["not", "somenext", "eachnext", "somealways", "eachalways", "someever", "eachever"] : List Str).getD i.val ag8
def w2(i : Fin 4) : Str := (["both", "either", "sometill", "eachtill"] : List Str).getD i.val ag8
def Tr.depth : Tr→Nat
  |.all => 0
  |.mark _ => 0
  |.one _ t => t.depth+1
  |.two _ l r => max l.depth r.depth+1
theorem dI(h : H p=none)(o : HO) : Same H (upd H p o) := λb u q => by rw[aP (aR q h)];exact q
theorem lW(f : Str)(v : V) : ∀fs : List (Str×V), (cA f v fs).length≤fs.length+1
  |[] => afj _
  | (g, x)::r => by
    unfold cA
    split
    · grind
    · exact ahg (lW f v r)
inductive Hd where
  |all
  |mark
  |one (i : Fin 7)
  |two (i : Fin 4)
def hd : Tr→Hd
  |.all => .all
  |.mark _ => .mark
  |.one i _ => .one i
  |.two i _ _ => .two i
def hw : Tr→Str
  |.all => "all"
  |.mark x => x
  |.one i _ => w1 i
  |.two i _ _ => w2 i
def n1(i : Fin 7) : Str := (["Not", "SomeNext", "EachNext", "SomeAlways", "EachAlways", "SomeEver", "EachEver"] : List Str).getD i.val ag8
def n2(i : Fin 4) : Str := (["Both", "Either", "SomeTill", "EachTill"] : List Str).getD i.val ag8
end Sy
namespace Ts
open PySem L2 Sy
structure Say(cl : Hd→Addr) where
  t : Tr
noncomputable def Say.name(x : Say cl) : Option Str := match x.t with
  |.mark s => some s
  |_ => none
theorem Ui(K : afh)(b : PE X l a)(h : X.K=K := by rfl) : PI X tg l (aad K a) := by subst h;exact aae b
section
variable{K : afh}{B : Bs}{sl : List (Slot K)}{md : Md}{te : TE}{α : Type}[Rp K α]
noncomputable def G7{α : Type}(xs ys : List α) : Option (List α) := if xs.length+ys.length<cap then some (xs++ys) else none
theorem Bv{n : Bool}{xs : List α}{m : Option (List α)}(i : Nat)(t : sl[i]?=some (.ow n xs))(w : sl.all (λs => !jm s)=true)(h : Ex B sl (qg n) te m) :
    Sn B sl (uK (W4 K "list" Np (mU i) (cD te fu))) (λys => sl.set i (.ow n ys)) (m.bind λa => G7 xs a) := λys u G D σ H s k => by
  cases m with
  |none => cases u
  |some a =>
    have b : G7 xs a=some ys := u
    unfold G7 at b
    split at b
    case isFalse => cases b
    rename_i E
    cases b
    obtain⟨F, O, g, z⟩ := s
    obtain⟨p, vs, x, L, h3, _⟩ := z.chg t w
    refine⟨_, x, .inl ⟨rfl, _, gj.of L⟩, ?_⟩
    refine h a rfl F O H σ _ z λv M H' l r => ?_
    obtain⟨p', j, o, d, c, f⟩ := (z.grow l).chg t w
    have e := x.symm.trans o
    cases e
    obtain⟨q, A, rfl, I, y⟩ := r
    obtain⟨C, J⟩ := f (j++A) (xs++a) (c.app y)
    exact⟨p, q, _, _, rfl, rfl, d, vo l.ok n q _ I, by rw[c.len, y.len];exact af6 (k_ E), k _ _ ⟨M, C, g.trans l.ff, J⟩⟩
end
inductive ZC where
  |none
  |step (n : Int)
  |shut
  |walk (xs : List Int)
  |out
  |loop (xs ys : List Int)
  |rank (n : Int) (o : Option Int)
  |here
  |dead
  |plain
def ZC.word : ZC→Str
  |.none => "none"
  |.step _ => "step"
  |.shut => "shut"
  |.walk _ => "walk"
  |.out => "out"
  |.loop _ _ => "loop"
  |.rank _ _ => "rank"
  |.here => "here"
  |.dead => "dead"
  |.plain => "plain"
def ZC.len : ZC→Int
  |.step _ => 2
  |.walk _ => 2
  |.loop _ _ => 3
  |.rank _ _ => 3
  |_ => 1
def ZC.at1 : ZC→Option Int
  |.step n => some n
  |.rank n _ => some n
  |_ => ajr
section
variable{K : afh}
def ZC.rest(K : afh)(F : Hp) : ZC→List V→Prop
  |.step n, c => c=[.int n]
  |.walk d, c => ∃a, c=[a]∧rp K F a d
  |.loop d e, c => ∃a b, c=[a, b]∧rp K F a d∧rp K F b e
  |.rank n o, c => ∃b, c=[.int n, b]∧rp K F b o
  |_, c => c=[]
end
end Ts
namespace L2
open PySem PySem.Spec PyProof.Rows
section
variable{X : Cx}
def adg : V→Option Int→Option Int→Hp→VK→Prop := λx lo a H Q => ∃z j, x=.str z∧lo=none∧a=some j∧z.length≤sizeLine∧Q (.str (ai2 z none (some j))) H
theorem aa0 : SlR X adg := by
  intro pins s σ H x v vl vu lo hi sl Q I f e d a h
  obtain⟨z, j, rfl, rfl, rfl, c, q⟩ := h
  obtain⟨t, rfl⟩ := f
  cases d
  cases a with
  |int _ g =>
    refine⟨"str", _, PySem.F.slot_str_getitem.lookup, ahz _ _ _, ?_⟩
    exact wpAny_getItem_str_slice (l := none) (u := some (j, g)) (st := none) e rfl (post_val_or_str ⟨afl (Txt.slice_le z _ _) c, λb k => ⟨.str _, H, I.tok k, ⟨b, rfl⟩, q⟩⟩)
def ZD : R2 := λx y H Q => ∃i j, x=.str i∧y=.str j∧i.length+j.length≤sizeLine∧Q (.str (i++j)) H
theorem m5 : zj X (binaryOp .Add) ZD := Kq
def ZF : R2 := λx y H Q => ∃z i c, x=.str z∧y=.int i∧0≤i∧i<2^63∧i<z.length∧z.cps[i.toNat]?=some c∧Q (.str ⟨#[c]⟩) H
theorem G8(g : PE X a d)(c : PE X b e)(f : Jc b) : PE X (.Subscript a b pos) (wD ZF d e) := Jd g c f
end
end L2
namespace Ts
open PySem L2
section
variable{K : afh}{B : Bs}{sl : List (Slot K)}{md : Md}{t t1 t2 : TE}
noncomputable def W6(z : Str)(i : Int) : Option Str := if 0≤i∧i<2^63∧i<z.length then(z.cps[i.toNat]?).map λc => ⟨#[c]⟩ else none
theorem G9(l : Ex B sl .hp t1 q)(h2 : Ex B sl .hp t2 n) : Ex B sl md (wD ZF t1 t2) (q.bind λa => n.bind λb => W6 a b) := λc p F O H σ Q s k => by
  obtain⟨a, b, r, h, d⟩ := jM p
  unfold W6 at d
  split at d
  case isFalse => cases d
  rename_i f
  cases e : a.cps[b.toNat]? with
  |none => grind
  |some z =>
    rw[e] at d
    cases d
    refine l a r F O H σ _ s λv j x g m => ?_
    refine h2 b h j O x σ _ (s.grow g) λw y u i o => ?_
    cases m
    cases o
    exact⟨a, b, z, rfl, rfl, f.1, f.2.1, f.2.2, e, k _ y u (g.trans i) rfl⟩
def Uj : List Str→TA
  |[] => fu
  |w::a => cD (tC (.str w)) (Uj a)
theorem Od : ∀(ws : List Str)(σ : St)(H : Hp)(Q : List V→Hp→Prop), Q (ws.map V.str) H→Uj ws σ H Q
  |[], _, _, _, h => h
  |_::ws, σ, H, _, h => Od ws σ H _ h
end
section
variable{K : afh}{B : Bs}{sl : List (Slot K)}{F H H' L L' : Hp}{O : Own}{σ : St}{α : Type}[Rp K α]
abbrev rQ : Slot K→Bool
  |@Slot.nu _ _ _ _ => true
  |_ => false
theorem aJ.adh(h : aJ B F L H sl σ O)(a : sl.all (λs => !jm s&&!rQ s)=true) : aJ B F L' H' sl σ O := by
  induction h with
  |nil => exact .nil
  |un _ ih => exact .un (ih (by grind))
  |fz r _ ih => exact .fz (Rp.mono (d7 _ (.refl _)) r) (ih (by grind))
  |hs r _ ih => grind
  |nu r _ ih => grind
  |ow r _ ih => exact .ow (r.imp λ_ _ => Rp.mono (d7 _ (.refl _))) (ih (by grind))
  |od r _ ih => exact .od r (ih (by rw[all_cons, agf] at a;exact a.2))
  |ob r _ ih => exact .ob (Ob.mono (d7 _ (.refl _)) r) (ih (by rw[all_cons, agf] at a;exact a.2))
end
theorem EY{β : Type}[Rp K β]{m : Option β}(sl2 : List (Slot K))(h : SB B sl2 t al m)(e : a=sl2 := by rfl) : SB B a t al m := e▸h
def del(H : Hp)(p : Addr) : Hp := λb => if b=p then none else H b
def spR(K : afh){A β : Type}[Rp K β](as : A→List (Slot K))(f : List Int→A→Option (β×List Int)) : Sp := λi H Q _ =>
  ∃(p : Addr)(g : List Int)(h : List V)(a : A)(b : β)(c : List Int)(e : Hp), i=.ref p::h∧H p=some (.lst (g.map V.int))∧e p=none∧Same e H∧f g a=some (b, c)∧Ar e (as a) h ∧
    ∀v d, Same (del H p) d→d p=some (.lst (c.map V.int))→rp K (dif d H) v b→Q v d
section
variable{K : afh}{B : Bs}{sl : List (Slot K)}{md : Md}{β : Type}[Rp K β]
noncomputable def Ey(B : Bs)(sl : List (Slot K))(md : Md)(t : TE){α S : Type}[Rp K α](L : S→List (Slot K))(m : Option (α×S)) : Prop :=
  ∀a s, m=some (a, s)→∀(F : Hp)(O : Own)(H : Hp)(σ : St)(Q : VK), At B sl F O H σ→(∀(v : V)(c : Hp)(d : Own)(b : Hp), Same F c→At B (L s) c d b σ→rp K (reg B c b md) v a→Q v b)→t σ H Q
end
structure RL(p : Addr) where
  ws : List Int
section
variable{K : afh}{B : Bs}{sl : List (Slot K)}{F H : Hp}{O : Own}{σ : St}{md : Md}{β : Type}[Rp K β]{p : Addr}{ws : List Int}
instance : Rp K (RL p) := ⟨λF v x => v=.ref p∧F p=some (.lst (x.ws.map V.int)), λs ⟨h1, h2⟩ => ⟨h1, s _ _ h2⟩⟩
theorem At.rR(z : At B sl F O H σ)(k : sl[i]?=some (.nu (RL.mk (p := p) ws)))(E : (sl.set i .un).all (λs => !jm s&&!rQ s)=true) :
    σ[i]?=some (some (.ref p))∧H p=some (.lst (ws.map V.int))∧B.H0 p=none∧F p=none∧(∀x∈O, x.1≠p)∧∀a : List Int, At B (sl.set i (.nu (RL.mk (p := p) a))) F O (upd H p (.lst (a.map V.int))) σ := by
  obtain⟨v, m, rfl, d⟩ := z.2.Tq k
  have n : B.H0 p=none := by
    cases q : B.H0 p with
    |none => rfl
    |some u => unfold dif at d;rw[q] at d;cases d
  rw[iR n] at d
  have h2' := d
  unfold lo at d
  split at d
  case isTrue => cases d
  rename_i b
  have f := b
  rw[Bool.or_eq_true, not_or] at b
  have w : F p=none := by
    cases q : F p with
    |none => rfl
    |some u => exact absurd (by rw[q];rfl) b.1
  have t : ∀x∈O, x.1≠p := λx l e => b.2 (any_eq_true.mpr ⟨x, l, by simpa using e⟩)
  refine⟨m, d, n, w, t, λa => ⟨⟨z.1.fh.put w _, z.1.h0.put n _, z.1.fa, λx l => ?_, z.1.nd⟩, ?_⟩⟩
  · obtain⟨y, D, C⟩ := z.1.fo x l
    exact⟨y, D, by rw[aP (t x l)];exact C⟩
  · have e : σ.set i (some (.ref p))=σ := by
      apply ext_getElem?
      intro j
      rw[ah2]
      split
      · rename_i o
        subst o
        split
        · exact m.symm
        · rename_i g
          rw[agx (by omega)] at m
          cases m
      · rfl
    have q := z.2.put (s' := .un) (x := some (.ref p)) (λsl σ O h => .un h) k rfl
    rw[e] at q
    have A := q.adh (L' := lo F O (upd H p (.lst (a.map V.int)))) (H' := upd H p (.lst (a.map V.int))) E
    have g : i<sl.length := by
      cases c : decide (i<sl.length) with
      |true => exact of_decide_eq_true c
      |false => rw[agx (by have := of_decide_eq_false c;omega)] at k;cases k
    have r := A.put (s := .un) (s' := .nu (RL.mk (p := p) a)) (x := some (.ref p)) (i := i) (λsl σ O h => .nu (by
      refine⟨rfl, ?_⟩
      rw[iR n]
      unfold lo
      rw[if_neg f, aY]) h) (by rw[ah2, if_pos rfl, if_pos g]) rfl
    rw[e, set_set] at r
    exact r
end
section
variable{K : afh}{B : Bs}{sl : List (Slot K)}{F H : Hp}{O : Own}{σ : St}{md : Md}{α β S : Type}[Rp K α][Rp K β]{p : Addr}{ws : List Int}{te : TE}{t u : TS}
noncomputable def W7(B : Bs)(p : Addr)(sl : List (Slot K))(t : TS){β : Type}[Rp K β](m : Option (β×List Int)) : Prop :=
  ∀b ws, m=some (b, ws)→∀(G : Hp)(D : Ends)(σ : St)(H : Hp), Sg B G sl σ H→(∀v a, Same B.H0 a→a p=some (.lst (ws.map V.int))→(∃F : Hp, F p=none∧Same F a∧rp K (dif F B.H0) v b)→D.rt v a)→t D σ H
theorem W7.of{m m' : Option (β×List Int)}(h : W7 B p sl t m)(e : m=m') : W7 B p sl t m' := e▸h
theorem X5{m : Option β}(i : Nat)(l : sl[i]?=some (.nu (RL.mk (p := p) ws)))(f : (sl.set i .un).all (λs => !jm s&&!rQ s)=true)(h : Ex B sl .nw te m) : W7 B p sl (jD (PB te) u) (m.bind λb => some (b, ws)) := λb ws' e G D σ H s k => by
  cases m with
  |none => cases e
  |some c =>
    obtain⟨rfl, rfl⟩ := aic (afm (e))
    obtain⟨F, O, g, a⟩ := s
    refine h c rfl F O H σ _ a λv j q d r => ?_
    obtain⟨_, o, _, n, _⟩ := (a.grow d).rR l f
    exact k v q d.ok.h0 o ⟨j, n, d.ok.fh, r⟩
theorem slot_self(hs : sl[i]?=some s) : (sl.set i s')[i]?=some s' := by
  grind
theorem Uk{s : Slot K}{m : Option (β×List Int)}(i : Nat)(o : sl[i]?=some s)(hh : (sl.set i .un).all (λs => !jm s&&!rQ s)=true)(h : Ey B sl .nw te (λc => sl.set i (.nu (RL.mk (p := p) c))) m) : W7 B p sl (jD (PB te) u) m := λb c j G D σ H s k => by
  obtain⟨F, O, g, a⟩ := s
  refine h b c j F O H σ _ a λv n O' f sf d r => ?_
  obtain⟨_, e, _, l, _⟩ := d.rR (slot_self o) (by simp_all)
  exact k v f d.1.h0 e ⟨n, l, d.1.fh, r⟩
theorem X6{c : TT}{n : Option Bool}{h f : Option (β×List Int)}(j : Et B sl c n)(i : W7 B p sl t h)(h2 : W7 B p sl u f) : W7 B p sl (jD (Gk c t lR) u) (n.bind λb => if b=true then h else f) := λa w l G D σ H s k => by
  cases n with
  |none => cases l
  |some b =>
    obtain⟨F, O, g, z⟩ := s
    refine j b rfl F O H σ _ z λF' d e => ?_
    cases b with
    |true => exact Bj (i a w (by grind) G _ σ d (Sg.grow g z e) k)
    |false => exact oM (h2 a w (by grind) G D σ d (Sg.grow g z e) k)
theorem X7(i : Nat)(h : sl[i]?=some (.nu (RL.mk (p := p) ws)))(f : (sl.set i .un).all (λs => !jm s&&!rQ s)=true) : Ey B sl md (Xu K "list" acy (mU i)) (λa => sl.set i (.nu (RL.mk (p := p) a))) (ws.getLast?.bind λy => some (y, ws.dropLast)) := λb a c F O H σ Q z k => by
  cases g : ws.getLast? with
  |none => grind
  |some y =>
    rw[g] at c
    obtain⟨rfl, rfl⟩ := aic (afm (c))
    obtain⟨j, d, b0, f0, o0, e⟩ := z.rR h f
    refine⟨_, j, .inl ⟨rfl, _, gj.of d⟩, p, ws.map V.int, V.int y, rfl, rfl, d, ?_, ?_⟩
    · grind
    rw[← List.map_dropLast]
    exact k _ F O _ (.refl _) (e ws.dropLast) rfl
theorem X8(i : Nat)(e : sl[i]?=some (.nu (RL.mk (p := p) ws)))(b : (sl.set i .un).all (λs => !jm s&&!rQ s)=true) : Ex B sl md (Ng (aav K) (cD (mU i) fu)) (some (ws.length : Int)) := λd f F O H σ Q z k => by
  cases f
  obtain⟨c, a, _⟩ := z.rR e b
  refine⟨_, c, p, _, rfl, .inl (gj.of a), k _ F H (.refl z.1) ?_⟩
  rw[length_map]
  rfl
theorem G_{as : List (Slot K)}(k : Nat)(a : as.all isF=true)(r : Ar F as vs) : aJ B F L' H (as++replicate k .un) (vs.map some++replicate k none) [] := by
  induction r with
  |nil =>
    show aJ _ _ _ _ ([]++_) ([]++_) []
    induction k with
    |zero => exact .nil
    |succ k ih => exact .un ih
  |@cons n _ _ _ _ _ _ r _ ih =>
    rw[all_cons, agf] at a
    cases n with
    |false => exact .fz r (ih a.2)
    |true => grind
end
section
variable{P : Program}{w : World}{K : afh}{mg : Str→Option Value}{base : Heap}
theorem X_{A β : Type}[Rp K β]{as : A→List (Slot K)}{C : List Int→A→Option (β×List Int)}(F : gn K x i st f fd)(S : bf N ps (aH st))(hf : ∀a, (as a).all isF=true)(G : ∀a, (as a).length+1=ps.length)(hb : ∀(g : Value) (A : Around) (d : List Env) (s : Shared) (H : Hp) (E : XK), f9 k (A.deeper (agp i (aH st) s.heap.objs.size f g)) →
      ∃t, xY (nJ jE P w K mg base N i (aH st) f g A d s H E).rB (dB st) t∧∀j p ws a, W7 ⟨j, del H p⟩ p (.nu (RL.mk (p := p) ws)::(as a++replicate (N.length-ps.length) .un)) t (C ws a)) :
    bY P w K mg base jE (k+1) f fd ps (spR K as C) :=
  F.ok S (λvs H Q E h => by
    obtain⟨p, ws, m, a, b, l, j, rfl, _, _, _, _, r, _⟩ := h
    rw[length_cons, r.len, G]) λg A d s H vs Q E hr h => by
    obtain⟨t, pt, q⟩ := hb g A d s H E hr
    refine⟨t, pt, ?_⟩
    obtain⟨p, ws, m, a, b, l, j, rfl, hp, fp, sf, n, r, kk⟩ := h
    have e : L2.start N (.ref p::m)=some (.ref p)::(m.map some++replicate (N.length-ps.length) none) := by
      unfold L2.start
      rw[length_cons, r.len, G]
      rfl
    have d0 : Same (del H p) H := λc o e => by
      unfold del at e
      split at e
      · cases e
      · exact e
    have B : del H p p=none := by
      unfold del
      rw[if_pos rfl]
    rw[e]
    refine q j p ws a b l n j _ _ H ⟨j, [], .refl _, ⟨sf, d0, λb o h => .inl h, λx hx => (by cases hx), (by simp)⟩, .nu ⟨rfl, ?_⟩ (G_ _ (hf a) r)⟩ (λv D s1 e1 z => ?_)
    · rw[iR B]
      unfold lo
      rw[fp]
      exact hp
    · obtain⟨J, f2, s2, r2⟩ := z
      refine kk v D s1 e1 (Rp.mono (λc o e => ?_) r2)
      unfold dif at e ⊢
      by_cases I : c=p
      · subst I
        have e : (match del H c c with|none => J c|some _ => none)=some o := e
        rw[B, f2] at e
        cases e
      · have ed : del H p c=H c := by
          unfold del
          rw[if_neg I]
        have e : (match del H p c with|none => J c|some _ => none)=some o := e
        rw[ed] at e
        show(match H c with|none => D c|some _ => none)=some o
        cases y : H c with
        |none => rw[y] at e;exact s2 _ _ e
        |some u => rw[y] at e;cases e
end
section
variable{K : afh}{B : Bs}{sl : List (Slot K)}{md : Md}{α β S : Type}[Rp K α][Rp K β]{te : TE}
theorem Aj{L : S→List (Slot K)}(n : Bool)(j : Nat)(f : ∀s, ∃x, (L s)[j]?=some x∧vm x=false)(h : Ey B sl (qg n) te L m) : Sn B sl (yc te (kO j)) (λr : α×S => (L r.2).set j (.fz n r.1)) m := λa i G D σ H s k => by
  obtain⟨F, O, g, z⟩ := s
  obtain⟨x, d, b⟩ := f a.2
  exact h a.1 a.2 i F O H σ _ z λv F' O' H' c l r => k _ _ (Sg.set (g.trans c) l d b r)
end
section
variable{K : afh}{B : Bs}{sl : List (Slot K)}{md : Md}{α β S : Type}[Rp K α][Rp K β]{te : TE}{p : Addr}{ws : List Int}
structure Fr(p : Addr)(F H F' H' : Hp) : Prop where
  ff : Same F F'
  hh : ∀b o, b≠p→H b=some o→H' b=some o
  nw : ∀b, F b=none→H b≠none→F' b=none
theorem Fr.of(g : dU B F H O a H') : Fr p F H a H' := ⟨g.ff, λb o _ e => g.hh b o e, g.nw⟩
theorem Fr.refl(F H : Hp) : Fr p F H F H := ⟨.refl _, λ_ _ _ e => e, λ_ h _ => h⟩
theorem Fr.trans(a : Fr p F H g d)(b : Fr p g d j h)(hp : d p≠none) : Fr p F H j h :=
  ⟨a.ff.trans b.ff, λc o n e => b.hh c o n (a.hh c o n e), λc f i => b.nw c (a.nw c f i) (by
    by_cases n : c=p
    · grind
    · cases q : H c with
      |none => grind
      |some o => rw[a.hh c o n q];grind)⟩
noncomputable def E_(B : Bs)(p : Addr)(sl : List (Slot K))(md : Md)(t : TE){α S : Type}[Rp K α](L : S→List (Slot K))(m : Option (α×S)) : Prop :=
  ∀a s, m=some (a, s)→∀(F : Hp)(O : Own)(H : Hp)(σ : St)(Q : VK), At B sl F O H σ→(∀(v : V)(c b : Hp), Fr p F H c b→At B (L s) c O b σ→rp K (reg B c b md) v a→Q v b)→t σ H Q
theorem E_.ey{L : S→List (Slot K)}{m : Option (α×S)}(h : E_ B p sl md te L m) : Ey B sl md te L m := λa s e F O H σ Q z k => h a s e F O H σ Q z λv c b f d r => k v c O b f.ff d r
theorem pQ{A : Type}{as : A→List (Slot K)}{f : List Int→A→Option (β×List Int)}{D : Option A}(i : Nat)(E : sl[i]?=some (.nu (RL.mk (p := p) ws)))(I : (sl.set i .un).all (λs => !jm s&&!rQ s)=true)(h : Ea B sl .fz T as D) :
    E_ B p sl md (uL (spR K as f) [] E0 (cD (mU i) T)) (λg => sl.set i (.nu (RL.mk (p := p) g))) (D.bind λa => f ws a) := λb g t F O H σ Q z k => by
  cases D with
  |none => cases t
  |some a =>
    have t : f ws a=some (b, g) := t
    obtain⟨U, _⟩ := z.rR E I
    refine⟨_, U, ?_⟩
    refine h a rfl F O H σ _ z λG l j C r => ?_
    obtain⟨_, L, b0, R, o0, P⟩ := (z.grow C).rR E I
    show spR K as f ((.ref p::G)++[]) j Q E0
    rw[append_nil]
    refine⟨p, ws, G, a, b, g, l, rfl, L, R, C.ok.fh, t, r, λv m N Y M => ?_⟩
    have w := P g
    have J : Same (upd j p (.lst (g.map V.int))) m := λc o e => by
      by_cases q : c=p
      · subst q
        rw[aY] at e
        rw[Y]
        exact e
      · rw[aP q] at e
        refine N c o ?_
        unfold del
        rw[if_neg q]
        exact e
    have x := w.1.called J
    have u : Fr p l j l (upd j p (.lst (g.map V.int))) := ⟨.refl _, λc o n e => by rw[aP n];exact e, λ_ h _ => h⟩
    have X : upd j p (.lst (g.map V.int)) p≠none := by rw[aY];intro q;cases q
    refine k v _ m ((Fr.of C).trans (u.trans (.of x) X) (by rw[L];intro q;cases q)) (w.grow x) ?_
    have d : Same (dif m j) (dif m (upd j p (.lst (g.map V.int)))) := λc o e => by
      unfold dif at e ⊢
      by_cases q : c=p
      · grind
      · rw[aP q]
        exact e
    have y := Rp.mono (uf (F := l) w.1.h0 J) (Rp.mono d M)
    exact match md with
    |.nw => y
    |.fz => Rp.mono eU y
    |.hp => Rp.mono (eU.trans x.ok.fh) y
theorem yD{A : Type}{as : A→List (Slot K)}{f : α×A→Option β}{l : S→Option A}(h0 : E_ B p sl .hp te L m)(E : ∀s, ∃(i : Nat) (ws : List Int), (L s)[i]?=some (.nu (RL.mk (p := p) ws))∧((L s).set i .un).all (λs => !jm s&&!rQ s)=true)(h : ∀s, Ea B (L s) .hp U as (l s)) :
    E_ B p sl md (uL (nD K false (λx : α×A => .fz false x.1::as x.2) f) [] E0 (cD te U)) L (m.bind λr => (l r.2).bind λa => (f (r.1, a)).bind λb => some (b, r.2)) := λc s g F O H σ Q z k => by
  cases m with
  |none => cases g
  |some r =>
    obtain⟨a, d⟩ := r
    have g : ((l d).bind λx => (f (a, x)).bind λb => some (b, d))=some (c, s) := g
    cases y : l d with
    |none => grind
    |some x =>
      rw[y] at g
      have g : ((f (a, x)).bind λb => some (b, d))=some (c, s) := g
      cases u : f (a, x) with
      |none => grind
      |some b =>
        rw[u] at g
        obtain⟨rfl, rfl⟩ := aic (afm (show some (b, d)=some (c, s) from g))
        refine h0 a d rfl F O H σ _ z λv I G P n J => ?_
        obtain⟨i, w1, N, X⟩ := E d
        obtain⟨_, hp1, _⟩ := n.rR N X
        refine h d x y I O G σ _ n λR Y w j M => ?_
        show nD K false (λx : α×A => .fz false x.1::as x.2) f ((v::R)++[]) w Q E0
        rw[append_nil]
        refine⟨(a, x), b, w, .refl _, u, .cons (Rp.mono j.hh J) M, λD T t C => ?_⟩
        have o := j.ok.called t
        refine k D _ T (P.trans (.of (j.trans o)) (by grind)) (n.grow (j.trans o)) ?_
        have q := Rp.mono (uf (F := Y) j.ok.h0 t) C
        exact match md with
        |.nw => q
        |.fz => Rp.mono eU q
        |.hp => Rp.mono (eU.trans o.ok.fh) q
end
def zR{α β : Type}(f : List Int→α→Option (β×List Int)) : List Int→List α→Option (List β×List Int)
  |a, [] => some ([], a)
  |a, x::b => (f a x).bind λr => (zR f r.2 b).bind λq => some (r.1::q.1, q.2)
noncomputable def Fb{α β : Type}(f : List Int→α→Option (β×List Int))(ws : List Int)(xs : List α) : Option (List β×List Int) := if xs.length<cap then zR f ws xs else none
section
variable{K : afh}{B : Bs}{sl : List (Slot K)}{md : Md}{α β S : Type}[Rp K α][Rp K β]{te : TE}{p : Addr}{ws : List Int}{n n' : Bool}
noncomputable def EoN(B : Bs)(p : Addr)(sl : List (Slot K))(md : Md)(t : TE){α S : Type}[Rp K α](L : S→List (Slot K))(m : Option (List α×S)) : Prop :=
  ∀a s, m=some (a, s)→∀(F : Hp)(O : Own)(H : Hp)(σ : St)(Q : VK), At B sl F O H σ→(∀(q : Addr)(d : List V)(c b : Hp), Fr p F H c b→At B (L s) c O b σ→b q=none→A2 (rp K (reg B c b md)) d a→Q (.ref q) (upd b q (.lst d)))→t σ H Q
theorem At.adi{f : List Int}(z : At B sl F O H σ)(d : sl[i]?=some (.nu (RL.mk (p := p) ws)))(l : (sl.set i .un).all (λs => !jm s&&!rQ s)=true)(c : Fr p F H b a)(k2 : Ok B b [] a)(hp : a p=some (.lst (f.map V.int)))(fp : b p=none) : At B (sl.set i (.nu (RL.mk (p := p) f))) b O a σ := by
  obtain⟨h1, h2, o, f0, m, _⟩ := z.rR d l
  refine⟨⟨k2.fh, k2.h0, k2.fa, λx g => ?_, z.1.nd⟩, ?_⟩
  · obtain⟨u, t, k⟩ := z.1.fo x g
    exact⟨c.nw _ u (by rw[k];intro q;cases q), t, c.hh _ _ (m x g) k⟩
  · have e : σ.set i (some (.ref p))=σ := by
      apply ext_getElem?
      grind
    have q := z.2.put (s' := .un) (x := some (.ref p)) (λsl σ O h => .un h) d rfl
    rw[e] at q
    have r := (q.adh (L' := lo b O a) (H' := a) l).mono c.ff (.refl _) (.refl _)
    have j := r.put (s := .un) (s' := .nu (RL.mk (p := p) f)) (x := some (.ref p)) (i := i) (λsl σ O h => .nu (by
      refine⟨rfl, ?_⟩
      rw[iR o]
      unfold lo
      grind) h) (slot_self d) rfl
    rw[e, set_set] at j
    exact j
theorem Ul{lu : List Int→List (Slot K)}{R : List Int→α→List (Slot K)}{f : List Int→α→Option (β×List Int)}(j : Nat)(I : sl[j]?=some (.nu (RL.mk (p := p) ws)))(hh : (sl.set j .un).all (λs => !jm s&&!rQ s)=true)(h0 : ∀(F : Hp) (O : Own) (H : Hp) (σ : St), At B sl F O H σ→aJ B F (lo F [] H) H (lu ws) (vf σ no ix) [])(hi : Ei B sl n l mi)(hg : ∀ws, Tg B (lu ws) n g (R ws))(hc : ∀ws x, Et B (R ws x) tc (some true))(he : ∀ws x, E_ B p (R ws x) (qg n') te (λP => R P x) (f ws x))(hle : ∀ws x, Ir (R ws x) (lu ws))(hI : ∀ws x, ∃jI, (R ws x)[jI]?=some (.nu (RL.mk (p := p) ws))∧((R ws x).set jI .un).all (λs => !jm s&&!rQ s)=true) :
    EoN B p sl (qg n') (Bk no ix l g tc te) (λP => sl.set j (.nu (RL.mk (p := p) P))) (mi.bind λxs => Fb f ws xs) := λd c E F O H σ Q a k => by
  cases mi with
  |none => cases E
  |some xs =>
    have E : Fb f ws xs=some (d, c) := E
    unfold Fb at E
    split at E
    case isFalse => cases E
    rename_i hcap
    have hcl := k_ hcap
    refine hi xs rfl F O H σ _ a λJ F' H' gr yl => ?_
    have a' := a.grow gr
    have zl : d.length=xs.length := by
      have key : ∀(xs : List α)(ws : List Int)(d : List β)(c : List Int), zR f ws xs=some (d, c)→d.length=xs.length := by
        intro xs
        induction xs with
        |nil => intro ws d c h;cases h;rfl
        |cons x xs ih =>
          intro ws d c h
          unfold zR at h
          cases X : f ws x with
          |none => rw[X] at h;cases h
          |some r =>
            rw[X] at h
            have h : ((zR f r.2 xs).bind λq => some (r.1::q.1, q.2))=some (d, c) := h
            cases M : zR f r.2 xs with
            |none => rw[M] at h;cases h
            |some q =>
              rw[M] at h
              cases(show some (r.1::q.1, q.2)=some (d, c) from h)
              rw[length_cons, length_cons, ih r.2 q.1 q.2 M]
      exact key xs ws d c E
    refine⟨λi m ys σ2 C => m=xs.length-i∧i≤xs.length∧∃(D : Hp)(l : List Int)(Z Y : List β), zR f l (xs.drop i)=some (Y, c)∧Z++Y=d∧Z.length=i∧Fr p F' H' D C∧At B (sl.set j (.nu (RL.mk (p := p) l))) D O C σ∧aJ B D (lo D [] C) C (lu l) σ2 []∧A2 (rp K (reg B D C (qg n'))) ys Z,
      ⟨xs.length, rfl, afz _, F', ws, [], d, E, rfl, rfl, .refl _ _, ?_, h0 F' O H' σ a', trivial⟩, ?_⟩
    · have e : sl.set j (.nu (RL.mk (p := p) ws))=sl := by
        apply ext_getElem?
        intro i
        rw[ah2]
        split
        · rename_i hij
          subst hij
          split
          · exact I.symm
          · rename_i t
            rw[agx (by lia)] at I
            cases I
        · rfl
      rw[e]
      exact a'
    rintro i m ys σ2 C ⟨rfl, hil, D, l, Z, Y, b, ez, bl, T, A, s2, r2⟩
    have hyl : ys.length=i := by rw[r2.len, bl]
    obtain⟨y1, y2⟩ := yl i D O C T.ff A.1
    by_cases t : i<xs.length
    · obtain⟨go, y3⟩ := y2 xs[i] (afi t)
      rw[List.drop_eq_getElem_cons t] at b
      unfold zR at b
      cases X : f l xs[i] with
      |none => rw[X] at b;cases b
      |some r =>
        rw[X] at b
        have b : ((zR f r.2 (xs.drop (i+1))).bind λq => some (r.1::q.1, q.2))=some (Y, c) := b
        cases M : zR f r.2 (xs.drop (i+1)) with
        |none => rw[M] at b;cases b
        |some q =>
          rw[M] at b
          obtain⟨y, w2⟩ := r
          obtain⟨cs', wE'⟩ := q
          obtain⟨rfl, rfl⟩ := aic (afm (show some (y::cs', wE')=some (Y, c) from b))
          refine .inr ⟨go, by lia, λys' σ' U => ∃(L : Hp), Fr p F' H' L U∧At B (sl.set j (.nu (RL.mk (p := p) w2))) L O U σ∧aJ B L (lo L [] U) U (lu w2) σ' []∧A2 (rp K (reg B L U (qg n'))) ys' (Z++[y]), (by rintro ys' σ' U ⟨L, z1, z2, z3, z4⟩;exact⟨xs.length-(i+1), by lia, rfl, t, L, w2, Z++[y], cs', M, by rw[append_assoc];exact ez, by rw[length_append, bl];rfl, z1, z2, z3, z4⟩), λv H3 yd => ?_⟩
          obtain⟨F3, o, r3⟩ := y3 v H3 yd
          have G := A.grow o
          have at3 : At B (lu l) F3 [] H3 σ2 := ⟨o.ok.nil, s2.mono o.ff (Ag ⟨o.ff, o.hh, o.ok.nil, o.nw⟩) o.hh⟩
          refine hg l v xs[i] F3 [] H3 σ2 _ at3 r3 λσ4 a4 => ?_
          refine hc l xs[i] true rfl F3 [] H3 σ4 _ a4 λF5 H5 g5 => Bj ?_
          have g5' := dU.lift o.ok g5
          have at5 := G.grow g5'
          refine he l xs[i] y w2 X F5 [] H5 σ4 _ (a4.grow g5) λu F6 H6 N a6 r6 => ?_
          obtain⟨_, hp5, b5, f5, o5, ch5⟩ := at5.rR (slot_self I) (by rw[set_set];exact hh)
          obtain⟨jI, i1, i2⟩ := hI w2 xs[i]
          obtain⟨_, hp6, _, f6, _⟩ := a6.rR i1 i2
          obtain⟨_, hp2, _⟩ := A.rR (slot_self I) (by rw[set_set];exact hh)
          obtain⟨_, hp3, _⟩ := G.rR (slot_self I) (by rw[set_set];exact hh)
          have nn : ∀{H : Hp}{w : List Int}, H p=some (.lst (w.map V.int))→H p≠none := λe => by rw[e];intro z;cases z
          have at6 := at5.adi (slot_self I) (by rw[set_set];exact hh) N a6.1 hp6 f6
          rw[set_set] at at6
          exact⟨F6, T.trans ((Fr.of o).trans ((Fr.of g5').trans N (nn hp5)) (nn hp3)) (nn hp2), at6, a6.2.le0 (hle w2 xs[i]), (r2.imp λ_ _ => Rp.mono (d7 _ (o.ff.trans (g5.ff.trans N.ff)))).snoc r6⟩
    · have e : i=xs.length := by lia
      subst e
      rw[List.drop_length] at b
      cases(show some (([] : List β), l)=some (Y, c) from b)
      rw[append_nil] at ez
      subst ez
      exact .inl ⟨y1 (afj _), by lia, λq hq => k q ys D C ((Fr.of gr).trans T (by
        obtain⟨_, h2, _⟩ := a'.rR I hh
        rw[h2];intro q;cases q)) A hq r2⟩
end
section
variable{K : afh}{B : Bs}{sl : List (Slot K)}{md : Md}{α β S : Type}[Rp K α][Rp K β]{te t1 t2 : TE}{p : Addr}
theorem EoN.eyn{L : S→List (Slot K)}{m : Option (List α×S)}(n : ∀s, ∃(i : Nat) (ws : List Int), (L s)[i]?=some (.nu (RL.mk (p := p) ws))∧((L s).set i .un).all (λs => !jm s&&!rQ s)=true)(h : EoN B p sl md te L m) : E_ B p sl md te L m := λa s e F O H σ Q z k => h a s e F O H σ Q z λq d F' H' j b f r => by
  have c := dU.new b.1 f (.lst d)
  obtain⟨i, w1, l, g⟩ := n s
  obtain⟨_, hp1, _⟩ := b.rR l g
  exact k _ _ _ (j.trans (.of c) (by grind)) (b.grow c) ⟨q, d, rfl, mW b.1 f md, r.imp λ_ _ => Rp.mono (dJ c md)⟩
theorem Um{n : Bool}{L : S→List (Slot K)}{h : Option α}{m : Option (β×S)}{i : Nat}{ws : List Int}(x : sl[i]?=some (.nu (RL.mk (p := p) ws)))(A : (sl.set i .un).all (λs => !jm s&&!rQ s)=true)(y : ∀s, ∃(i : Nat) (ws : List Int), (L s)[i]?=some (.nu (RL.mk (p := p) ws))∧((L s).set i .un).all (λs => !jm s&&!rQ s)=true)(I : Ex B sl (qg n) t1 h)(h2 : E_ B p sl (qg n) t2 L m) : E_ B p sl (qg n) (Qa (cD t1 (cD t2 fu))) L (h.bind λa => m.bind λr => some ((a, r.1), r.2)) := λc s j F O H σ Q z k => by
  cases h with
  |none => cases j
  |some a =>
    cases m with
    |none => cases j
    |some r =>
      obtain⟨b, t⟩ := r
      obtain⟨rfl, rfl⟩ := aic (afm (j))
      refine I a rfl F O H σ _ z λv C M g D => ?_
      obtain⟨_, l, _⟩ := (z.grow g).rR x A
      refine h2 b t rfl C O M σ _ (z.grow g) λw F2 H2 u f J => ?_
      obtain⟨i', w1, E, G⟩ := y t
      obtain⟨_, hp2, _⟩ := f.rR E G
      refine⟨by show 2≤sizeLine;decide, λq o => ?_⟩
      have d := dU.new f.1 o (.tup [v, w])
      exact k _ _ _ ((Fr.of g).trans (u.trans (.of d) (by grind)) (by rw[l];intro q;cases q)) (f.grow d) ⟨q, v, w, rfl, mW f.1 o _, Rp.mono (d7 _ (u.ff.trans d.ff)) D, Rp.mono (d7 _ d.ff) J⟩
theorem La{L : S→List (Slot K)}(i : Nat)(J : sl[i]?=some (.ow n xs))(y : sl.all (λs => !jm s)=true)(w : ∀s, (L s)[i]?=some (.ow n xs)∧(L s).all (λs => !jm s)=true)(h : E_ B p sl (qg n) te L m) :
    Sn B sl (uK (W4 K "list" Gx (mU i) (cD te fu))) (λr : List α×S => (L r.2).set i (.ow n r.1)) (m.bind λr => (push xs r.1).bind λys => some (ys, r.2)) := λys f G D σ H s k => by
  cases m with
  |none => cases f
  |some r =>
    obtain⟨a, j⟩ := r
    have f : ((push xs a).bind λys => some (ys, j))=some ys := f
    cases c : push xs a with
    |none => grind
    |some t =>
      rw[c] at f
      cases(show some (t, j)=some ys from f)
      unfold push at c
      split at c
      case isFalse => cases c
      rename_i I
      cases c
      obtain⟨F, O, g, z⟩ := s
      obtain⟨q, vs, x, N, h3, _⟩ := z.chg J y
      refine⟨_, x, .inl ⟨rfl, _, gj.of N⟩, ?_⟩
      refine h a j rfl F O H σ _ z λv C H' A M r => ?_
      obtain⟨q', b, o, l, d, u⟩ := M.chg (w j).1 (w j).2
      cases x.symm.trans o
      obtain⟨E, P⟩ := u (b++[v]) (xs++[a]) (d.snoc r)
      exact⟨q, b, v, rfl, rfl, l, k_ (by rw[d.len];exact I), k _ _ ⟨C, E, g.trans A.ff, P⟩⟩
end
section
variable{K : afh}{B : Bs}{sl : List (Slot K)}{F H : Hp}{O : Own}{σ : St}
abbrev adk : Slot K→Slot K
  |@Slot.fz _ n _ i a => @Slot.fz _ n _ i a
  |@Slot.nu _ _ i a => @Slot.nu _ _ i a
  |_ => .un
theorem aa1 : Same (lo F O H) (lo F [] H) := λb o h => by
  unfold lo at h ⊢
  grind
theorem aJ.aes(a : At B sl F O H σ)(j : Nat)(g : sl[j]?=some s) : ∀{c : List (Slot K)}{e : St}, aJ B F (lo F [] H) H c e []→aJ B F (lo F [] H) H (adk s::c) ((σ[j]?).getD none::e) [] := λ{c e} h => by
  cases s with
  |un => exact .un h
  |fz n b => obtain⟨v, f, d⟩ := a.2.Nv g;rw[f];exact .fz d h
  |hs b => exact .un h
  |nu b => obtain⟨v, f, d⟩ := a.2.Tq g;rw[f];exact .nu (Rp.mono (fK aa1) d) h
  |ow n xs => exact .un h
  |od kvs => exact .un h
  |ob n a => exact .un h
def Uo(sl : List (Slot K))(n : Nat)(ix : List Nat) : List (Slot K) := replicate n .un++ix.map λj => adk ((sl[j]?).getD .un)
theorem Uq(a : At B sl F O H σ)(n : Nat) : ∀(ix : List Nat), (∀j∈ix, j<sl.length)→aJ B F (lo F [] H) H (Uo sl n ix) (vf σ n ix) [] := λix b => by
  unfold Uo vf
  induction n with
  |zero =>
    induction ix with
    |nil => exact .nil
    |cons j ix ih =>
      have c := b j mem_cons_self
      have d := afi c
      have z := aJ.aes a j d (ih λk e => b k (mem_cons_of_mem _ e))
      grind
  |succ n ih => exact .un ih
theorem aa2{ix : List Nat}(hix : (ix.all λj => decide (j<sl.length))=true)(b : lu=Uo sl no ix) : ∀(F : Hp)(O : Own)(H : Hp)(σ : St), At B sl F O H σ→aJ B F (lo F [] H) H lu (vf σ no ix) [] := λF O H σ a => by
  rw[b]
  exact Uq a no ix λj hj => by grind
end
structure Qt(α β γ : Type) where
  a : α
  b : β
  c : γ
section
variable{K : afh}{B : Bs}{sl : List (Slot K)}{md : Md}{n : Bool}{α β γ S : Type}[Rp K α][Rp K β][Rp K γ]{te t1 t2 t3 : TE}
instance : Rp K (Qt α β γ) := ⟨λF v x => ∃p u w z, v=.ref p∧F p=some (.tup [u, w, z])∧rp K F u x.a∧rp K F w x.b∧rp K F z x.c, λs h => by
    obtain⟨p, u, w, z, h1, h2, h3, h4, h5⟩ := h
    exact⟨p, u, w, z, h1, s _ _ h2, Rp.mono s h3, Rp.mono s h4, Rp.mono s h5⟩⟩
theorem Yb{h : Option α}{j : Option β}{i : Option γ}(r : Ex B sl md t1 h)(h2 : Ex B sl md t2 j)(x : Ex B sl md t3 i) : Ex B sl md (Qa (cD t1 (cD t2 (cD t3 fu)))) (h.bind λa => j.bind λb => i.bind λc => some (Qt.mk a b c)) := λd g F O H σ Q s o => by
  cases h with
  |none => cases g
  |some a =>
    cases j with
    |none => cases g
    |some b =>
      cases i with
      |none => cases g
      |some c =>
        cases(g)
        refine r a rfl F O H σ _ s λv z t l D => ?_
        refine h2 b rfl z O t σ _ (s.grow l) λw A y k q => ?_
        refine x c rfl A O y σ _ ((s.grow l).grow k) λu F3 H3 e C => ?_
        refine⟨by show 3≤sizeLine;decide, λp m => ?_⟩
        have f := dU.new e.ok m (.tup [v, w, u])
        exact o _ _ _ (l.trans (k.trans (e.trans f))) ⟨p, v, w, u, rfl, mW e.ok m md, Rp.mono (dJ (k.trans (e.trans f)) md) D, Rp.mono (dJ (e.trans f) md) q, Rp.mono (dJ f md) C⟩
theorem Yc(i j l : Nat)(q : sl[i]?=some s)(D : vm s=false)(f : ∀x : Slot K, (sl.set i x)[j]?=some s')(m : vm s'=false)(e : ∀x y : Slot K, ((sl.set i x).set j y)[l]?=some u)(g : vm u=false) :
    Tg B sl n (Xc K 3 (DQ (kO i) (DQ (kO j) (DQ (kO l) aac)))) (λx : Qt α β γ => ((sl.set i (.fz n x.a)).set j (.fz n x.b)).set l (.fz n x.c)) := λv x F O H σ Q a r k => by
  obtain⟨p, o, h, d, rfl, t, C, A, w⟩ := r
  refine⟨p, [o, h, d], rfl, .inl (.inl (NP a.1 t)), rfl, o, [h, d], rfl, h, [d], rfl, d, [], rfl, rfl, ?_⟩
  exact k _ ⟨a.1, ((a.2.put (λ_ _ _ z => .fz C z) q D).put (λ_ _ _ z => .fz A z) (f _) m).put (λ_ _ _ z => .fz w z) (e _ _) g⟩
end
section
variable{K : afh}{B : Bs}{sl sl2 : List (Slot K)}{md : Md}{te : TE}{t : TS}{β : Type}[Rp K β]{p : Addr}
theorem Ur{m : Option Scr}{mi : Option Int}{d : TE}(h : Ex B sl .hp te m)(w : Ex B sl .hp d mi) : Eo B sl md (Zm (KH K) te qt (wL d)) (m.bind λxs => mi.bind λi => some (iz xs.ns none (some i))) := λc b F O H σ Q s k => by
  obtain⟨xs, i, n, a, b⟩ := jM b
  cases b
  refine h xs n F O H σ _ s λv x z g r => ?_
  refine w i a x O z σ _ (s.grow g) λu j A e q => ?_
  obtain⟨p, rfl, o⟩ := r
  exact⟨i, q, p, xs.ns.map V.int, rfl, e.hh.seq o, λl y => k l _ j A (g.trans e) y ((A2.of_map (f := V.int) (λ_ => rfl) xs.ns).cut _ _)⟩
end
end Ts
namespace L2
open PySem PySem.Spec PyProof.Rows
section
variable{X : Cx}
theorem Jx : ∀{ns : List Int}{a : List Value}, Vals (ns.map V.int) a→IntsAre a ns
  |[], [], _ => .nil
  |n::ns, _::a, h => by
    cases h with
    |cons r t =>
      obtain⟨k, rfl⟩ := r
      exact .cons n k (Jx t)
def adl(K : afh) : List V→Hp→VK→Prop := λb H Q => ∃(p : Addr)(a : List Int), b=[.ref p]∧gj K H p (a.map V.int)∧Q (.int a.sum) H
theorem yE(K : afh)(B : X.calm=true)(C : X.K=K := by rfl) : mR X (.builtin "sum") (adl K) := by
  subst C
  intro pins s σ H xs us Q I r h
  obtain⟨p, d, rfl, D, q⟩ := h
  obtain⟨u, rfl, t⟩ := vals1 r
  cases t
  obtain⟨i, z, v, hz⟩ := I.list D
  have n := Jx z
  obtain⟨a, e⟩ := n.allInts.items
  have c : d=a.toList.map (·.1) := (n.numsOf.symm.trans (congrArg numsOf (show i=(intItems a).toList by rw[← e]))).trans (nums_intItems a)
  have m := v.isList
  rw[e] at m
  refine call_sum_walkAnyS (iter_intList m λs₂ E st f j => ?_)
  subst E
  refine⟨_, _, _, _, _, _, _, numAt a, rfl, (Walks.list (A := X.A.in1) (I.ok.hd B) _ p j (intItems a)).toS, st, f, λ_ _ => intItems_at, λg w l => ?_⟩
  have x : ∀b o, s.heap.get? b=some o→g.heap.get? b=some o := λb o k =>
    l.heap b o (λhI => absurd (lt_size k) (by grind)) (get?_push_of_some _ k)
  rw[Moved.eq_with l]
  have y : preSum (numAt a) (intItems a).size=d.sum := by
    rw[preSum_eq, ← c]
    have hsz : (intItems a).size=d.length := by rw[c];simp[intItems]
    grind
  rw[y]
  exact⟨.int d.sum, H, I.kept (h' := g.heap) (t' := g.toks) x, ⟨w, rfl⟩, q⟩
theorem Jy : ∀{ts : List Str}{a : List Value}, Vals (ts.map V.str) a→∃l : List (Str×Tok), a=strValues l∧l.map (·.1)=ts
  |[], [], _ => ⟨[], rfl, rfl⟩
  |x::ts, _::a, h => by
    cases h with
    |cons r t =>
      obtain⟨k, rfl⟩ := r
      obtain⟨l, b, e2⟩ := Jy t
      exact⟨(x, k)::l, by rw[b]<;>rfl, by grind⟩
def rJoin(K : afh) : V→List V→Hp→VK→Prop := λx c H Q => ∃(a : Str)(p : Addr)(b : List Str), x=.str a∧c=[.ref p]∧gj K H p (b.map V.str)∧JoinOk a b=true∧Q (.str (ajn a b)) H
theorem m6(K : afh)(n : X.K=K := by rfl) : Qh X "str.join" (rJoin K) := by
  subst n
  intro pins s σ H x vs v us Q I o d h
  obtain⟨b, p, f, rfl, rfl, w, a, q⟩ := h
  obtain⟨t, rfl⟩ := o
  obtain⟨u, rfl, j⟩ := d.one
  cases j
  obtain⟨its, r, g, hz⟩ := I.list w
  obtain⟨l, e, m⟩ := Jy r
  have c := g.isList
  rw[e] at c
  exact SC.join c m a λi k => ⟨.str (ajn b f), H, I.tok k, ⟨i, rfl⟩, q⟩
theorem Oe{a : Str}(h : ∀y∈ts, y.length≤n)(b : ts.length*n+ts.length*a.length≤16777216) : JoinOk a ts=true := by
  unfold JoinOk
  rw[StrLaws.joinFits h b]
  rfl
end
end L2
namespace Ts
open PySem L2
open PySem.SeqAt (EqAt RcAt RcNeAt)
noncomputable def joinM(a : Str)(ts : List Str) : Option Str := if JoinOk a ts=true then some (ajn a ts) else none
section
variable{K : afh}{B : Bs}{sl : List (Slot K)}{md : Md}{te t1 t2 : TE}{α β γ δ : Type}[Rp K α][Rp K β][Rp K γ][Rp K δ]
theorem m7(a : Str)(h : Ex B sl .hp te m) : Ex B sl md (W4 K "str" (rJoin K) (tC (.str a)) (cD te fu)) (m.bind (joinM a)) := λc b F O H σ Q s k => by
  cases m with
  |none => cases b
  |some e =>
    have b : joinM a e=some c := b
    unfold joinM at b
    split at b
    case isFalse => cases b
    rename_i d
    cases b
    refine⟨rfl, h e rfl F O H σ _ s λv n l g r => ?_⟩
    obtain⟨p, vs, rfl, f, j⟩ := r
    have i := j.vals
    subst i
    exact⟨a, p, e, rfl, rfl, gj.of f, d, k _ n l g rfl⟩
theorem Bw{n : Bool}{xs : List α}(i : Nat)(j : sl[i]?=some (.ow n xs))(f : sl.all (λs => !jm s)=true) : Sn B sl (uK (Xu K "list" Ji (mU i))) (λys => sl.set i (.ow n ys)) (some xs.reverse) := λa l G D σ H s k => by
  cases l
  obtain⟨F, O, g, z⟩ := s
  obtain⟨p, b, e, c, h, o⟩ := z.chg j f
  obtain⟨d, m⟩ := o b.reverse xs.reverse h.rev
  exact⟨_, e, .inl ⟨rfl, b, gj.of c⟩, p, b, rfl, rfl, c, k _ _ ⟨F, d, g, m⟩⟩
theorem aa3{L : α→List (Slot K)}(h : Ex B sl (qg n) te m)(f : Tg B sl n g L) : Sn B sl (yc te g) L m := λa i G D σ H s k => by
  obtain⟨F, O, e, z⟩ := s
  exact h a i F O H σ _ z λv c d b r => f v a c O d σ _ (z.grow b) r λσ' j => k _ _ ⟨c, O, e.trans b.ff, j⟩
theorem Us{o : Qt α β γ→δ}(i : Int)(r : ∀(R : Hp) (x : Qt α β γ) (u w z : V), rp K R u x.a→rp K R w x.b→rp K R z x.c→∃y, L2.jL [u, w, z] i=some y∧rp K R y (o x))(E : Ex B sl md t1 m)(h2 : Ex B sl .hp t2 (some i)) : Ex B sl md (wD (Xo K) t1 t2) (m.bind λx => some (o x)) := λc h F O H σ Q s k => by
  cases m with
  |none => cases h
  |some x =>
    cases(h)
    refine E x rfl F O H σ _ s λv q d g C => ?_
    refine h2 i rfl q O d σ _ (s.grow g) λw N L f G => ?_
    cases G
    obtain⟨p, l, j, n, rfl, A, M, J, I⟩ := C
    have e := (match md with
      |.nw => eU.trans g.ok.fh
      |.fz => g.ok.fh
      |.hp => .refl _ : Same (reg B q d md) d).trans f.hh
    obtain⟨y, D, t⟩ := r _ x l j n M J I
    exact⟨p, [l, j, n], i, y, rfl, rfl, .inl (.inl (e _ _ A)), D, k y N L (g.trans f) (Rp.mono (dJ f md) t)⟩
theorem Og{m : Option (Qt α β γ)}(b : Ex B sl md t1 m)(h2 : Ex B sl .hp t2 (some (0 : Int))) : Ex B sl md (wD (Xo K) t1 t2) (m.bind λx => some x.a) := Us 0 (λ_ _ u _ _ h _ _ => ⟨u, rfl, h⟩) b h2
end
end Ts
namespace L2
open PySem PySem.Spec PyProof.Rows
section
variable{X : Cx}
theorem split_len(x y : Str) : (ag1 x y).length≤x.length+2 := by
  unfold ag1
  split
  · grind
  · split
    · grind
    · have e1 := StrLaws.occ_length_le x y 0 x.length (x.length+1)
      rw[aii]
      lia
theorem aa4{s : Shared}{Q : Value→Shared→Prop}{x y : Str}(d : (y.length==0)=false)(hz : x.length+2≤sizeLine)(h : ∀(l : List (Str×Tok)) (k : Nat), l.map (·.1)=ag1 x y→Q (.ref s.heap.objs.size) { s with heap := s.heap.push (seqObj "list" (strValues l).toArray 0), toks := k }) : wpAny (model P w) A (call (.builtin "str.split") [.str x t, .str y u]) Q E s := by
  cases a : (decide (x.length<y.length)||decide (Builtin.Str.strKind x<Builtin.Str.strKind y)) with
  |true => exact agy ai0 (ahz _ _ _) ais (ail _ _) (meets_str_split_cannot_occur x y t u a) (h [(x, t)] s.toks (if_pos a).symm)
  |false =>
    have c := ne_true_of_eq_false a
    cases b : (aga x y 0 x.length (x.length+1)).isEmpty with
    |true => exact agy ai0 (ahz _ _ _) ais (ail _ _) (meets_str_split_not_found x y t u a d b) (h [(x, t)] s.toks ((if_neg c).trans (if_pos b)).symm)
    |false =>
      have e := ne_true_of_eq_false b
      have n1 := StrLaws.occ_length_le x y 0 x.length (x.length+1)
      have f : (ahr x (aga x y 0 x.length (x.length+1)) y.length).length≤sizeLine := by
        rw[aii]
        lia
      refine agy ai0 (ahz _ _ _) ais (ail _ _) (meets_str_split_sep x y t u a d b (by lia) f) ?_
      have z := h (numbered s.toks (ahr x (aga x y 0 x.length (x.length+1)) y.length)) (s.toks+(ahr x (aga x y 0 x.length (x.length+1)) y.length).length) ((numbered_texts _ _).trans ((if_neg c).trans (if_neg e)).symm)
      rw[← strsFrom_eq] at z
      exact z
def Ut : V→List V→Hp→VK→Prop := λx a H Q => ∃(z y : Str), x=.str z∧a=[.str y]∧(y.length==0)=false∧z.length+2≤sizeLine∧∀l, H l=none→Q (.ref l) (upd H l (.lst ((ag1 z y).map V.str)))
theorem Fd : ∀(l : List (Str×Tok)), Vals ((l.map (·.1)).map V.str) (strValues l)
  |[] => .nil
  |p::l => .cons ⟨p.2, rfl⟩ (Fd l)
theorem pR : Qh X "str.split" Ut := by
  intro pins s σ H x vs v us Q I a c h
  obtain⟨z, y, rfl, rfl, f, d, q⟩ := h
  obtain⟨t, rfl⟩ := a
  obtain⟨u, rfl, g⟩ := c.one
  obtain⟨t', rfl⟩ := g
  refine aa4 f d λl k e => ?_
  have i := I.hok.fresh (afj _)
  have hl := split_len z y
  refine⟨.ref s.heap.objs.size, _, I.laid (t' := k) (λb u e => get?_push_of_some _ e) (afj _) ?_, rfl, q _ i⟩
  refine⟨by grind, strValues l, 0, by rw[← e];exact Fd l, get?_push_size _ rfl⟩
theorem o_ : mR X (.type "int") (λxs H Q => ∃x n, xs=[.str x]∧intText? x=some n∧x.length≤640∧Q (.int n) H) := by
  intro pins s σ H xs us Q I r h
  obtain⟨x, n, rfl, b, a, q⟩ := h
  obtain⟨u, rfl, t, rfl⟩ := vals1 r
  exact PySem.W.KIN.call_text b a ⟨.int n, H, I.tok _, ⟨_, rfl⟩, q⟩
end
end L2
namespace Ts
open PySem L2
noncomputable def splitM(x y : Str) : Option (List Str) := if x.length+2<cap then some (ag1 x y) else none
noncomputable def vI(i : Int) : Option Str := if i.natAbs.log2<1920 then some (agr (toString i)) else none
noncomputable def Hf(x : Str) : Option Int := if x.length≤640 then intText? x else none
section
variable{K : afh}{mg : Str→Option Value}{B : Bs}{sl : List (Slot K)}{md : Md}{te t1 t2 : TE}{C : Addr}{α β γ S : Type}[Rp K α][Rp K β][Rp K γ]{u : TS}{al : Bool}
theorem pU(y : Str)(e : (y.length==0)=false)(h : Ex B sl .hp te m) : Eo B sl md (W4 K "str" Ut te (cD (tC (.str y)) fu)) (m.bind λx => splitM x y) := λc a F O H σ Q s k => by
  cases m with
  |none => cases a
  |some x =>
    have a : splitM x y=some c := a
    unfold splitM at a
    split at a
    case isFalse => cases a
    rename_i b
    cases a
    refine h x rfl F O H σ _ s λv i d g r => ?_
    subst r
    exact⟨rfl, x, y, rfl, rfl, e, af6 (k_ b), λl b => k l _ i d g b (A2.of_map (f := V.str) (λ_ => rfl) _)⟩
theorem ur(h : Ex B sl .hp te m) : Ex B sl md (Ng (λxs H Q => ∃i : Int, xs=[.int i]∧i.natAbs.log2<1920∧Q (.str (agr (toString i))) H) (cD te fu)) (m.bind vI) := λc a F O H σ Q s k => by
  cases m with
  |none => cases a
  |some i =>
    have a : vI i=some c := a
    unfold vI at a
    split at a
    case isFalse => cases a
    rename_i d
    cases a
    refine h i rfl F O H σ _ s λv e b g r => ?_
    cases r
    exact⟨i, rfl, d, k _ e b g rfl⟩
theorem Hg(h : Ex B sl .hp te m) : Ex B sl md (Ng (λxs H Q => ∃(x : Str)(n : Int), xs=[.str x]∧intText? x=some n∧x.length≤640∧Q (.int n) H) (cD te fu)) (m.bind Hf) := λc a F O H σ Q s k => by
  cases m with
  |none => cases a
  |some x =>
    have a : Hf x=some c := a
    unfold Hf at a
    split at a
    case isFalse => cases a
    rename_i d
    refine h x rfl F O H σ _ s λv e b g r => ?_
    cases r
    exact⟨x, c, rfl, a, d, k _ e b g rfl⟩
theorem Oh(ws : List Str)(b : ws.length≤1000) : Ei B sl true (aad K (Qa (Uj ws))) (some ws) := λxs h F O H σ R a n => by
  refine Od ws σ H _ ⟨by rw[length_map];exact af6 (k_ (bZ b)), λp f => ?_⟩
  have g := dU.new a.1 f (.tup (ws.map V.str))
  refine⟨p, rfl, ⟨_, zN.of aY⟩, n _ _ _ g λi m O2 l j d => ?_⟩
  have c : zN K l p (ws.map V.str) := zN.of (d.fh _ _ (j _ _ aY))
  refine⟨λhl => ⟨_, c, by grind⟩, λx h => ?_⟩
  have b : (ws.map V.str)[i]?=some (.str x) := by grind
  refine⟨⟨_, _, c, b⟩, λv H3 k => ?_⟩
  obtain⟨e, y⟩ := k
  subst e
  have := b.symm.trans (y _ c)
  cases this
  exact⟨m, .refl d, rfl⟩
theorem Uu{f : β→γ→Option α}[Sc K α]{h : S→Option γ}(D : ∀(a : β) (b : γ) (c : α) (v w : V) (H : Hp) (Q : VK), f a b=some c→rp K H v a→rp K H w b→Q (Sc.val K c) H→r v w H Q)(M : E_ B p sl .hp t1 L o)(A : ∀s, ∃(i : Nat) (ws : List Int), (L s)[i]?=some (.nu (RL.mk (p := p) ws))∧((L s).set i .un).all (λs => !jm s&&!rQ s)=true)(h2 : ∀s, Ex B (L s) .hp t2 (h s)) : E_ B p sl md (wD r t1 t2) L (o.bind λq => (h q.2).bind λb => (f q.1 b).bind λc => some (c, q.2)) := λc s e F O H σ Q z k => by
  cases o with
  |none => cases e
  |some q =>
    obtain⟨a, g⟩ := q
    have e : ((h g).bind λb => (f a b).bind λc => some (c, g))=some (c, s) := e
    cases n : h g with
    |none => rw[n] at e;cases e
    |some b =>
      rw[n] at e
      have e : ((f a b).bind λc => some (c, g))=some (c, s) := e
      cases t : f a b with
      |none => grind
      |some d =>
        rw[t] at e
        obtain⟨rfl, rfl⟩ := aic (afm (show some (d, g)=some (c, s) from e))
        refine M a g rfl F O H σ _ z λv R P J l G => ?_
        obtain⟨i, w1, I, N⟩ := A g
        obtain⟨_, j, _⟩ := l.rR I N
        refine h2 g b n R O P σ _ l λw y x m E => ?_
        exact D a b d v w x Q t (Rp.mono m.hh G) E (k _ y x (J.trans (.of m) (by rw[j];intro q;cases q)) (l.grow m) (Sc.is.mpr rfl))
theorem Hh{d : S→Option Int}(h : E_ B p sl .hp t1 L m)(f : ∀s, ∃(i : Nat) (ws : List Int), (L s)[i]?=some (.nu (RL.mk (p := p) ws))∧((L s).set i .un).all (λs => !jm s&&!rQ s)=true)(h2 : ∀s, Ex B (L s) .hp t2 (d s)) :
    E_ B p sl md (wD (rI (λ_ j => 0<j) λi j => .int (i%j)) t1 t2) L (m.bind λq => (d q.2).bind λb => (dW q.1 b).bind λc => some (c, q.2)) :=
  Uu (λa b c v w H Q e g k q => by
    unfold dW at e
    split at e
    case isFalse => cases e
    rename_i l
    cases e;cases g;cases k
    exact⟨a, b, rfl, rfl, l, q⟩) h f h2
theorem Yd{d : S→Option Int}(k : E_ B p sl .hp t1 L m)(g : ∀s, ∃(i : Nat) (ws : List Int), (L s)[i]?=some (.nu (RL.mk (p := p) ws))∧((L s).set i .un).all (λs => !jm s&&!rQ s)=true)(h2 : ∀s, Ex B (L s) .hp t2 (d s)) :
    E_ B p sl md (wD (Ko λi j => .int (i+j)) t1 t2) L (m.bind λq => (d q.2).bind λb => some (q.1+b, q.2)) := λc s hc => Uu (md := md) (f := λa b => some (a+b)) (λa b c v w H Q e h l q => by
    cases e;cases h;cases l
    exact⟨a, b, rfl, rfl, q⟩) k g h2 c s (by grind)
theorem Uv{n : Bool}{ws : List Int}{m : Option β}(i : Nat)(j : sl[i]?=some (.ow n ws))(hh : sl.all (λs => !jm s)=true)(h : ∀p, SB B (sl.set i (.nu (RL.mk (p := p) ws))) u al m) : SB B sl u al m := λb r G D σ H s k => by
  obtain⟨F, O, g, c, A⟩ := s
  obtain⟨d, e, p, I, rfl, l, L, _, w⟩ := A.Jl j
  obtain⟨q, E, J⟩ := c.one
  have t : I=ws.map V.int := A2.KJ L
  subst t
  have v := c.ndp
  have f : lo F (d++e) H p=some (.lst (ws.map V.int)) := by rw[ac7 q v];exact J
  have z := w .un (some (.ref p)) λ_ _ _ y => .un y
  rw[rK l] at z
  have M := z.mono (.refl _) wN (.refl _)
  have hi : i<sl.length := (afu.mp j).1
  have o := M.put (i := i) (s := .un) (s' := .nu (RL.mk (p := p) ws)) (x := some (.ref p)) (λ_ _ _ y => .nu (show V.ref p=.ref p∧dif (lo F (d++e) H) B.H0 p=some (.lst (ws.map V.int)) from⟨rfl, by rw[iR E];exact f⟩) y) (by grind) rfl
  rw[set_set, rK l] at o
  exact h p b r G D σ H ⟨F, d++e, g, c.drop, o⟩ k
end
end Ts
namespace PySem
open Sem (wp)
structure IK(prog : Program)(w : World)(α : Type)[DecidableEq α] where
  is : Heap→α→Value→Prop
  hash : α→Int
  draws : α→Nat
  inj : ∀{h : Heap}{v : Value}{x y : α}, is h x v→is h y v→x=y
  keeps : ∀{h h' : Heap}{k : α}{v : Value}{d : Addr}{o : Obj}{es ep}, is h k v→h.get? d=some o→o.data=.dict es ep→SameBut d h h'→is h' k v
  pyHash : ∀{A : Around}{E : Value→Shared→Prop}{s : Shared}{k : α}{v : Value}{Q : Int→Shared→Prop}, A.units<cLine→is s.heap k v→Q (hash k) { s with toks := s.toks+draws k }→wpAny (model prog w) A (PySem.pyHash v) Q E s
  eqBool : ∀{A : Around}{E : Value→Shared→Prop}{s : Shared}{x y : α}{u v : Value}{Q : Bool→Shared→Prop}, A.units<cLine→is s.heap x u→is s.heap y v→Q (decide (x=y)) s→wpAny (model prog w) A (PySem.eqBool u v) Q E s
  quiet : ∀{A : Around}{E : Value→Shared→Prop}{s : Shared}{k : α}{v : Value}{Q : Bool→Shared→Prop}, is s.heap k v→Q true s→wpAny (model prog w) A (eqIsQuiet 7 v) Q E s
end PySem
namespace L2
open PySem PySem.Spec PyProof.Rows
structure AK(α : Type)[DecidableEq α] where
  at_ : Hp→α→V→Prop
  ik : ∀(P : Program)(w : World), IK P w α
  ok : ∀{P : Program}{w : World}{H : Hp}{h : Heap}{x : α}{v : V}{u : Value}, qj P w H h→at_ H x v→RelV v u→(ik P w).is h x u
  mono : ∀{H H' : Hp}{x : α}{v : V}, at_ H x v→(∀b xs, H b=some (.tup xs)→H' b=some (.tup xs))→at_ H' x v
section
variable{α β : Type}[DecidableEq α][DecidableEq β]
abbrev NKV(α β : Type) := List ((α×β)×Addr×Int)
variable{X : Cx}{pins : List (Addr×Obj)}{σ : St}{H : Hp}{s : Shared}{a1 : AK α}{a2 : AK β}{d : Addr}{kvs : NKV α β}
end
end L2
namespace Ts
open PySem L2
section
variable{κ : Type}[DecidableEq κ]
def dd : List κ→List κ→List κ
  |acc, [] => acc
  |acc, k::r => dd (if k∈acc then acc else acc++[k]) r
end
section
variable{K : afh}{B : Bs}{sl : List (Slot K)}{md : Md}{te ti tj : TE}
theorem Fe{m : Option Scr}{mi mj : Option Int}(h : Ex B sl .hp te m)(hi : Ex B sl .hp ti mi)(hj : Ex B sl .hp tj mj) : Eo B sl md (Zm (KH K) te (wL ti) (wL tj)) (m.bind λxs => mi.bind λi => mj.bind λj => some (iz xs.ns (some i) (some j))) := λc hc F O H σ Q s k => by
  obtain⟨xs, i, hx, hi', hc⟩ := jM hc
  cases ej : mj with
  |none => grind
  |some j =>
    rw[ej] at hc
    cases hc
    refine h xs hx F O H σ _ s λv F' H' g r => ?_
    refine hi i hi' F' O H' σ _ (s.grow g) λu F2 H2 g2 r2 => ?_
    refine⟨i, r2, ?_⟩
    refine hj j ej F2 O H2 σ _ ((s.grow g).grow g2) λu3 F3 H3 g3 r3 => ?_
    obtain⟨p, rfl, z1⟩ := r
    exact⟨j, r3, p, xs.ns.map V.int, rfl, (g2.trans g3).hh.seq z1, λl hl => k l _ F3 H3 (g.trans (g2.trans g3)) hl ((A2.of_map (f := V.int) (λ_ => rfl) xs.ns).cut _ _)⟩
theorem Qu{m : Option Scr}{mi : Option Int}(h : Ex B sl .hp te m)(hi : Ex B sl .hp ti mi) : Eo B sl md (Zm (KH K) te (wL ti) qt) (m.bind λxs => mi.bind λi => some (iz xs.ns (some i) none)) := λc hc F O H σ Q s k => by
  obtain⟨xs, i, hx, hi', hc⟩ := jM hc
  cases hc
  refine h xs hx F O H σ _ s λv F' H' g r => ?_
  refine hi i hi' F' O H' σ _ (s.grow g) λu F2 H2 g2 r2 => ?_
  obtain⟨p, rfl, z1⟩ := r
  exact⟨i, r2, p, xs.ns.map V.int, rfl, g2.hh.seq z1, λl hl => k l _ F2 H2 (g.trans g2) hl ((A2.of_map (f := V.int) (λ_ => rfl) xs.ns).cut _ _)⟩
end
end Ts
namespace Sy
open PySem L2 Ts
inductive Itm where
  |s (x : Str)
  |t (t : Tr)
def items : Tr→List Itm
  |.all => [.s "all"]
  |.mark x => [.s "mark", .s x]
  |.one i t => [.s (w1 i), .t t]
  |.two i l r => [.s (w2 i), .t l, .t r]
end Sy
namespace L2
open PySem PySem.Spec PyProof.Rows
def vJ{α : Type}(k : Nat)(y : α)(xs : List α) : List α := xs.take k++y::xs.drop k
def Oi : V→List V→Hp→VK→Prop := λx vs H Q => ∃l xs i y, x=.ref l∧vs=[.int i, y]∧H l=some (.lst xs)∧0≤i∧i≤(xs.length : Int)∧xs.length<sizeLine∧Q .non (upd H l (.lst (vJ i.toNat y xs)))
theorem Uw{α : Type}{y : α}{xs : List α}(h : k≤xs.length) : (vJ k y xs).length=xs.length+1 := by
  unfold vJ
  grind
theorem yF : Qh X "list.insert" Oi := by
  intro pins s σ H x vs v us Q I rx rv h
  obtain⟨l, xs, i, y, rfl, rfl, hH, h0, h1, hz, q⟩ := h
  cases rx
  obtain⟨u0, u, rfl, ri, ru⟩ := rv.two
  obtain⟨t, rfl⟩ := ri
  obtain⟨z, its, n, r, hl, e⟩ := I.Bg hH
  have hfit : ¬(!ahm i)=true := by
    have hc : sizeLine<2^62 := by decide
    have : ahm i=true := by
      unfold ahm
      simp
      omega
    rw[this]
    decide
  refine agy F.slot_list_insert ⟨_, e, rfl⟩ F.entry_list_insert (F.args_list_insert_3 _ _ _) (AutoListH.list_insert_list_int_val_1 l its.toArray n i t u hfit (by rw[size_toArray];omega)) ⟨e, ?_⟩
  refine⟨.non, _, I.Qj (its' := vJ i.toNat u its) hH e ?_ ((r.take i.toNat).append (.cons ru (r.drop i.toNat))) ?_, rfl, q⟩
  · have ek : (if i<0 then(i+((its.toArray.size : Nat) : Int)).toNat else min i.toNat its.toArray.size)=i.toNat := by
      rw[if_neg (by omega), size_toArray]
      omega
    show((its.toArray.extract 0 (if i<0 then(i+((its.toArray.size : Nat) : Int)).toNat else min i.toNat its.toArray.size)).push u++its.toArray.extract (if i<0 then(i+((its.toArray.size : Nat) : Int)).toNat else min i.toNat its.toArray.size))=_
    rw[ek]
    unfold vJ
    simp
    exact take_of_length_le (by rw[length_drop];exact afj _)
  · show(vJ i.toNat y xs).length≤sizeLine
    rw[Uw (by omega)]
    omega
end L2
namespace Ts
open PySem L2
noncomputable def Dr{α : Type}(xs : List α)(i : Int)(a : α) : Option (List α) := if 0≤i∧i≤(xs.length : Int)∧xs.length<cap then some (vJ i.toNat a xs) else none
section
variable{K : afh}{B : Bs}{sl : List (Slot K)}{md : Md}{α : Type}[Rp K α]{te ti : TE}
theorem A2.take(h : A2 R vs xs)(k : Nat) : A2 R (vs.take k) (xs.take k) := by
  induction vs generalizing xs k with
  |nil => cases xs with
    |nil => grind
    |cons x xs => cases h
  |cons v vs ih => cases xs with
    |nil => cases h
    |cons x xs => cases k with
      |zero => trivial
      |succ k => exact⟨h.1, ih h.2 k⟩
theorem A2.drop(h : A2 R vs xs)(k : Nat) : A2 R (vs.drop k) (xs.drop k) := by
  induction vs generalizing xs k with
  |nil => cases xs with
    |nil => grind
    |cons x xs => cases h
  |cons v vs ih => cases xs with
    |nil => cases h
    |cons x xs => cases k with
      |zero => exact h
      |succ k => exact ih h.2 k
theorem yG{n : Bool}{xs : List α}{mi : Option Int}{m : Option α}(i : Nat)(hs : sl[i]?=some (.ow n xs))(hh : sl.all (λs => !jm s)=true)(hi : Ex B sl .hp ti mi)(h : Ex B sl (qg n) te m) :
    Sn B sl (uK (W4 K "list" Oi (mU i) (cD ti (cD te fu)))) (λys => sl.set i (.ow n ys)) (mi.bind λj => m.bind λa => Dr xs j a) := λys ha G D σ H s k => by
  obtain⟨j, a, ej, ea, hf⟩ := jM ha
  unfold Dr at hf
  split at hf
  case isFalse => cases hf
  rename_i hb
  cases hf
  obtain⟨F, O, g, z⟩ := s
  obtain⟨p, vs, h1, h2, h3, _⟩ := z.chg hs hh
  refine⟨_, h1, .inl ⟨rfl, _, gj.of h2⟩, ?_⟩
  refine hi j ej F O H σ _ z λv0 F0 H0 g0 r0 => ?_
  refine h a ea F0 O H0 σ _ (z.grow g0) λv F' H' gr r => ?_
  obtain⟨p', vs', h1', h2', h3', h4'⟩ := ((z.grow g0).grow gr).chg hs hh
  cases h1.symm.trans h1'
  obtain⟨O', z'⟩ := h4' (vJ j.toNat v vs') (vJ j.toNat a xs) ((h3'.take j.toNat).app (⟨r, h3'.drop j.toNat⟩))
  subst r0
  exact⟨p, vs', j, v, rfl, rfl, h2', hb.1, by rw[h3'.len];grind, k_ (by rw[h3'.len];grind), k _ _ ⟨F', O', g.trans (g0.ff.trans gr.ff), z'⟩⟩
end
end Ts
namespace L2
open PySem PySem.Spec PyProof.Rows
theorem gb.is(x : gb P w H h a o) : ∃u, h.get? a=some u := by
  cases o with
  |lst xs => obtain⟨_, _, _, _, e⟩ := x;exact⟨_, e⟩
  |tup xs => obtain⟨_, _, _, ob, e, _⟩ := x;exact⟨_, e⟩
  |dK kvs => obtain⟨_, _, _, _, o, _, _, e, _⟩ := x;exact⟨_, e⟩
  |dT kvs => obtain⟨_, _, _, _, o, _, _, e, _⟩ := x;exact⟨_, e⟩
  |set S n => obtain⟨o, _, _, _, e, _⟩ := x;exact⟨_, e⟩
  |ins C dx fs => obtain⟨_, _, _, e, _⟩ := x;exact⟨_, e⟩
  |own y => exact x
  |xd fs => obtain⟨_, ⟨_, _, _, e, _⟩, _⟩ := x;exact⟨_, e⟩
  |rng lo hi => obtain⟨_, _, _, e⟩ := x;exact⟨_, e⟩
  |Iw ob u => obtain⟨e, _⟩ := x;exact⟨_, e⟩
  |Zb ps => exact⟨_, x⟩
  |met f y => exact⟨_, x⟩
  |ext φ => exact x.2.1
theorem qj.non(x : qj P w H h)(e : h.get? a=none) : H a=none := by
  cases q : H a with
  |none => rfl
  |some o =>
    obtain⟨u, z⟩ := (x a o q).is
    rw[e] at z;cases z
def Trc(h : Heap)(a T : Addr)(C : Value) : Prop := ∃a0 oe vs oT ts, h.get? a=some oe∧(oe.cls=C∧vs[0]?=some a0)∧oe.data=.fields vs∧vs[1]?=some (.ref T)∧T≠a∧h.get? T=some oT∧oT.data=.fields ts∧ts[3]?=some .none
def kE(P : Program)(w : World) : Rr := λouter H s E e s' => ∃a T C H', e=.ref a∧s'.os=s.os∧AllBare s'.gens∧Un (frs outer) [] H H' s.heap s'.heap∧qj P w H' s'.heap∧s.heap.get? a=none∧s.heap.get? T=none∧H' a=none∧H' T=none∧Trc s'.heap a T C∧E C none H'
theorem kE.mono(h : kE P w outer H s E e s')(k : ∀C H, E C none H→E' C none H) : kE P w outer H s E' e s' := by
  obtain⟨a, T, C, H', r, h1, h2, h3, h4, h5, h6, h7, h8, h9, q⟩ := h
  exact⟨a, T, C, H', r, h1, h2, h3, h4, h5, h6, h7, h8, h9, k C H' q⟩
section
variable{X : Cx}{pins : List (Addr×Obj)}{σ : St}{H : Hp}{s : Shared}{h2 : Heap}{E : XK}{C : Value}
theorem Inv.Hi(I : Inv X pins σ H s)(hx : X.ex=[])(e : s.heap.get? a=none) : X.s₀.heap.get? a=none := by
  cases q : X.s₀.heap.get? a with
  |none => rfl
  |some o =>
    obtain⟨u, z⟩ := I.base.there a o q (by rw[hx];simp)
    rw[e] at z;cases z
theorem Inv.gone(I : Inv X pins σ H s)(hx : X.ex=[]){bad : List Addr}(hb : ∀b∈bad, X.s₀.heap.get? b=none∧H b=none)(k : ∀b o, s.heap.get? b=some o→b∉frs X.stack→b∉bad→h2.get? b=some o)(k2 : ∀b o, s.heap.get? b=some o→b∈frs X.stack→∃sl, h2.get? b=some { o with slots := sl }) : Un X.fs [] X.H₀ H X.s₀.heap h2∧qj X.prog X.w H h2 := by
  have nx : ∀b : Addr, b∉X.ex := λb => by rw[hx];simp
  have nb : ∀b o, X.s₀.heap.get? b=some o→b∉bad := λb o e z => by rw[(hb b z).1] at e;cases e
  have nf : ∀b o, X.s₀.heap.get? b=some o→b∉X.fs→b∉frs X.stack := λb o e n z => by
    rcases mem_cons.mp (I.rz b z) with q|q
    · have := lt_size e
      have l := I.ok.above
      rw[q] at this
      exact absurd (afq this l) (af3 _)
    · exact n q
  have ex2 : ∀b o, s.heap.get? b=some o→b∉bad→∃o', h2.get? b=some o' := λb o e n => by
    by_cases z : b∈frs X.stack
    · obtain⟨sl, q⟩ := k2 b o e z
      exact⟨_, q⟩
    · exact⟨o, k b o e z n⟩
  refine⟨⟨λb o q n hf _ => k b o (I.base.keep b o q n hf (nx b)) (nf b o q hf) (nb b o q), λb o q n hf _ => ?_, λb o q n _ => I.base.free b o q n (nx b), λb o q _ => ?_, I.base.tups, I.base.zM, I.base.Ax⟩, λb u e => ?_⟩
  · obtain⟨sl, q1⟩ := I.base.slot b o q n hf (nx b)
    have z : b∈frs X.stack := by
      rcases I.ok.stk with e|⟨e, _⟩
      · rw[e];exact hf
      · rw[e]
        unfold frs
        rw[filterMap_cons]
        split
        · exact hf
        · exact mem_cons_of_mem _ hf
    obtain⟨sl2, q2⟩ := k2 b _ q1 z
    exact⟨sl2, q2⟩
  · obtain⟨o', q1⟩ := I.base.there b o q (nx b)
    exact ex2 b o' q1 (nb b o q)
  · have tr : ∀c v, H c=some v→c∉frs X.stack∧c∉bad := λc v ec => ⟨λz => (by rw[I.Gi c z] at ec;cases ec), λz => (by rw[(hb c z).2] at ec;cases ec)⟩
    refine(I.hok b u e).stay (λc v hc q => ?_) (λ_ q => q) λ_ _ q => q
    rcases hc with rfl|hc
    · exact k _ _ q (tr _ _ e).1 (tr _ _ e).2
    · exact k _ _ q (tr _ _ hc).1 (tr _ _ hc).2
theorem Ux(I : Inv X pins σ H s)(hx : X.ex=[])(hst : X.stack=X.env::X.outer)(hf : X.env.frame=some X.env.locals)(fa : X.s₀.heap.get? a=none)(fT : X.s₀.heap.get? T=none)(na : H a=none)(nT : H T=none)(tr : Trc s.heap a T C)(hE : E C none H) : wpAny M X.A (leaving X.env (.ref a)) (λ_ s2 => kE X.prog X.w X.outer X.H₀ X.s₀ E (.ref a) s2) E2 s := by
  obtain⟨a0, oe, vs, oT, ts, he, hc, hd, h1, hne, hT, hdT, h3⟩ := tr
  have hin : ∀env∈(X.env::X.outer), ∀b, env.frame=some b→b∈a::T::frs X.stack := λenv z b e => by
    rw[hst]
    exact .tail _ (.tail _ (mem_filterMap.mpr ⟨env, z, e⟩))
  have stk := I.stack
  refine wpAny_leaves_onW (base := ahx s.heap (a::T::frs X.stack)) (by rw[I.ok.frames, hst]) hf ⟨λb o q => ahy _ q, ahc _ (.head _), ah4 (by rw[← hst];exact stk) hin, oe, vs, T, oT, ts, he, hc, hd, h1, ahc _ (.tail _ (.head _)), hne, hT, hdT, h3⟩ λg2 fl up => ?_
  obtain⟨st, _, _, oe', vs', T', oT', ts', he', hc', hd', h1', hn', hne', hT', hdT', h3'⟩ := fl
  have fr : ∀b∈frs X.stack, ∃o, s.heap.get? b=some o∧∀vs, o.data≠.fields vs := λb z => (stk.mem z).2
  have new : X.s₀.heap.get? T'=none∧H T'=none := by
    cases q : s.heap.get? T' with
    |none => exact⟨I.Hi hx q, I.hok.non q⟩
    |some o =>
      have z : T'∈a::T::frs X.stack := ahp λz => by rw[ag5 _ q z] at hn';cases hn'
      rcases mem_cons.mp z with e|z
      · exact absurd e hne'
      rcases mem_cons.mp z with e|z
      · rw[e];exact⟨fT, nT⟩
      · obtain⟨o2, e2, nd⟩ := fr T' z
        obtain⟨sl, e3⟩ := up T' o2 e2 nd
        rw[e3] at hT';cases hT'
        exact absurd hdT' (nd _)
  obtain⟨un, ok⟩ := I.gone (h2 := g2) hx (bad := [a, T]) (λb z => by
    rcases mem_cons.mp z with e|z
    · rw[e];exact⟨fa, na⟩
    · rw[mem_singleton.mp z];exact⟨fT, nT⟩) (λb o q n1 n2 => st b o (ag5 _ q λz => by
      rcases mem_cons.mp z with e|z
      · exact n2 (by rw[e];exact .head _)
      rcases mem_cons.mp z with e|z
      · exact n2 (by rw[e];exact .tail _ (.head _))
      · exact n1 z)) (λb o q z => by
      obtain⟨o2, e2, nd⟩ := fr b z
      rw[q] at e2;cases e2
      exact up b o q nd)
  exact⟨a, T', C, H, rfl, I.os, I.bare, un, ok, fa, new.1, na, new.2, ⟨a0, oe', vs', oT', ts', he', hc', hd', h1', hne', hT', hdT', h3'⟩, hE⟩
theorem Lb(I : Inv X pins σ H s)(hx : X.ex=[])(hst : X.stack=X.env::X.outer)(hf : X.env.frame=some X.env.locals)(hm : Heap.MadeExcOf s.heap h1 e C us)(hE : E C none H) :
    wpAny M X.A (leaving X.env (.ref e)) (λ_ s2 => kE X.prog X.w X.outer X.H₀ X.s₀ E (.ref e) s2) E2 { s with heap := h1 } := by
  have hin : ∀env∈(X.env::X.outer), ∀b, env.frame=some b→b∈frs X.stack := λenv z b q => by
    rw[hst]
    exact mem_filterMap.mpr ⟨env, z, q⟩
  have stk := I.stack
  refine wpAny_leaves_madeW (base := ahx s.heap (frs X.stack)) (h := s.heap) (by rw[I.ok.frames, hst]) hf (λb o q => ahy _ q) (ah4 (by rw[← hst];exact stk) hin) hm λh2 t fl _ _ up => ?_
  have up : h1.UpToSlots h2 := up
  obtain⟨st, _, _, oe', vs', T', oT', ts', he', hc', hd', h1', hn', hne', hT', hdT', h3'⟩ := fl
  have fr : ∀b∈frs X.stack, ∃o, s.heap.get? b=some o∧∀vs, o.data≠.fields vs := λb z => (stk.mem z).2
  have new : X.s₀.heap.get? T'=none∧H T'=none := by
    cases q : s.heap.get? T' with
    |none => exact⟨I.Hi hx q, I.hok.non q⟩
    |some o =>
      have z : T'∈frs X.stack := ahp λz => by rw[ag5 _ q z] at hn';cases hn'
      obtain⟨o2, e2, nd⟩ := fr T' z
      obtain⟨sl, e3⟩ := up T' o2 (hm.keeps _ _ e2) nd
      rw[e3] at hT';cases hT'
      exact absurd hdT' (nd _)
  obtain⟨un, ok⟩ := I.gone (h2 := h2) hx (bad := []) (λb z => by cases z) (λb o q n1 _ => st b o (ag5 _ q n1)) (λb o q z => by
      obtain⟨o2, e2, nd⟩ := fr b z
      rw[q] at e2;cases e2
      exact up b o (hm.keeps _ _ q) nd)
  exact⟨e, T', C, H, rfl, I.os, I.bare, un, ok, I.Hi hx hm.new, new.1, I.hok.non hm.new, new.2, ⟨.ref t, oe', vs', oT', ts', he', hc', hd', h1', hne', hT', hdT', h3'⟩, hE⟩
end
def Lk(C : Value)(E : XK)(D : Ends) : Prop := ∀v H, D.rt v H→E C none H
def noR(D : Ends) : Ends := { D with rt := λ_ _ => False }
def PSr(X : Cx)(C : Value)(E : XK)(st : Stmt)(t : TS) : Prop :=
  ∀(pins : List (Addr×Obj))(s : Shared)(σ : St)(H : Hp)(D : Ends), Lk C E D→Inv X pins σ H s→t D σ H→wpAny (model X.prog X.w) X.A (exec st X.env) (SP X pins (noR D)) X.xe s
def Thr(X : Cx)(C : Value)(E : XK) : Prop := ∀(pins : List (Addr×Obj))(σ : St)(H : Hp)(s : Shared)(h1 : Heap)(e : Addr)(us : List Value), Inv X pins σ H s→Heap.MadeExcOf s.heap h1 e C us→E C none H→X.xe (.ref e) { s with heap := h1 }
structure aa5(K : afh)(C : Addr) : Prop where
  ex : ∃(newId Bn inN B nid initId : String)(bm bmN : List Value), aiz K C bm newId=true∧ExcBaseFacts Bn newId inN bmN∧bm.contains (.type Bn)=true∧ExcBaseFacts B nid initId bm
def aa6(ta : TA) : TS := λD σ H => ta σ H λvs H1 => vs.length≤sizeLine∧D.rt .non H1
section
variable{X : Cx}{E : XK}{C : Addr}
theorem Qv{x : Str}{np cpos pos : Pos}{e₀ : Expr}{rest : List Expr}{ta : TA}(T : Thr X (.ref C) E)(hcm : X.calm=true)(O : aa5 X.K C)(hg : Gl X x)(hm : X.mg x=some (.ref C))(ha : PA X (e₀::rest) ta)(hdb : (x==("__debug__" : Str))=false := by decide)(he : starEach (e₀::rest) X.env=(false, eval e₀ X.env)::starEach rest X.env := by rfl)(hpl : (backTo cpos (starEach rest X.env)).any (·.1)=false := by rfl) :
    PSr X (.ref C) E (.Raise (some (.Call (.Name x np) (e₀::rest) [] cpos)) none pos) (aa6 ta) := by
  intro pins s σ H D L I h
  obtain⟨newId, Bn, inN, B, nid, initId, bm, bmN, q, Fn, hBn, FB⟩ := O.ex
  have obj : ∀h : Heap, X.K.In h→∃tl N nm qn bs hd sn sub ab col dd k0 k1 k2 k3 k5 mN, h.get? C=some (excClassObj nm qn C N bs tl hd sn sub ab col dd k0 k1 k2 k3 k5 newId)∧h.Ns N mN∧mN "__init__" = none∧OwnTail h bm tl := λh XI => by
    unfold aiz at q
    cases hl : X.K.lookup C with
    |none => rw[hl] at q;cases q
    |some o =>
      rw[hl] at q
      obtain⟨c, dd, dt, sl⟩ := o
      have ho := XI _ _ hl
      split at q
      · rename_i dd2 cd sl2 heq
        cases heq
        split at q
        · rename_i C' tl k0 k1 k2 k3 n k5 hmr hs
          simp only[agf, beq_iff_eq, Bool.not_eq_true'] at q
          obtain⟨⟨⟨⟨⟨rfl, rfl⟩, hdel⟩, ht⟩, hok⟩, hni⟩ := q
          cases cd
          dsimp only at hmr hdel hok hni
          subst hmr hdel
          obtain rfl : sl=#[k0, k1, k2, k3, some (.builtin n), k5] := by cases sl;exact congrArg Array.mk hs
          exact⟨tl, _, _, _, _, _, _, _, _, _, dd, k0, k1, k2, k3, k5, _, ho, .of_isNs (PySem.W.isNs_of_in XI hok), PySem.W.nsMap_none_of_in XI hok hni, PySem.W.tail_of_in XI ht⟩
        · cases q
      · cases q
  obtain⟨tl, N, nm, qn, bs, hd, sn, sub, ab, col, dd, k0, k1, k2, k3, k5, mN, hC, hN, hni, OT⟩ := obj X.base I.ok.mod.kin
  refine wpAny_Raise_call_subU (C := C) (nm := nm) (q := qn) (N := N) (bs := bs) (bm := tl) (hdct := hd) (sn := sn) (sub := sub) (ab := ab) (col := col) (dd := dd) (k0 := k0) (k1 := k1) (k2 := k2) (k3 := k3) (k5 := k5)
    Fn hBn FB (mN := mN) (OT.hasType FB.hasBase) (I.ok.hd hcm) (by rw[he];exact hpl) hni (wG I hg hm ⟨rfl, ?_⟩ hdb)
  have h9 := ha cpos pins s σ H _ I h
  rw[he] at h9 ⊢
  refine Calls.evalArgs_plain (dN h9 λus s1 ⟨vs, H1, I1, r, z1, z2⟩ => ⟨rfl, by rw[← r.length];exact z1, I1.bk _ _ hC, hN.keeps I1.bk, OT.keeps I1.bk, λh' e hm' => T pins σ H1 s1 h' e us I1 hm' (L _ _ z2)⟩)
end
section
variable{P : Program}{w : World}{K : afh}{mg : Str→Option Value}{base : Heap}
theorem n8 : Thr (nJ (kE P w) P w K mg base N qual scope f cd A outer s H E) C E := λpins σ H1 s1 h1 e us I hm hE =>
  Lb (X := nJ (kE P w) P w K mg base N qual scope f cd A outer s H E) I rfl rfl rfl hm hE
theorem gR : Passes (kE P w) (nJ (kE P w) P w K mg base N qual scope f cd A outer s H E) E := λpins σ H1 s1 e s2 I h => by
  obtain⟨a, T, C, H', rfl, h1, h2, h3, h4, h5, h6, h7, h8, h9, q⟩ := h
  have I2 := I.call' h1 h3 h4 h2 (λb z => absurd z (by simp))
  exact Ux (X := nJ (kE P w) P w K mg base N qual scope f cd A outer s H E) I2 rfl rfl rfl (I.Hi rfl h5) (I.Hi rfl h6) h7 h8 h9 q
theorem yH : PassesOwn (model P w) (nJ (kE P w) P w K mg base N qual scope f cd A outer s H E).A (nJ (kE P w) P w K mg base N qual scope f cd A outer s H E).env (nJ (kE P w) P w K mg base N qual scope f cd A outer s H E).xe := λa b h => PassesOwn.leaving a b h
end
def Qw(a : Addr)(C : Value) : HO := .ext λh => ∃oe, h.get? a=some oe∧oe.cls=C
section
variable{X : Cx}{pins : List (Addr×Obj)}{σ : St}{H : Hp}{s : Shared}{h2 : Heap}
def Apart(X : Cx)(pins : List (Addr×Obj))(H : Hp)(b : Addr) : Prop := (X.s₀.heap.get? b=none∧H b=none)∧b≠X.env.locals∧∀p∈X.pn++pins, p.1≠b
theorem Inv.caught{t' : Nat}(I : Inv X pins σ H s)(hx : X.ex=[])(hcl : X.env.cells=[])(hfr : X.env.locals∈frs X.stack){bad : List Addr}(hb : ∀b∈bad, Apart X pins H b)(k : ∀b o, s.heap.get? b=some o→b∉frs X.stack→b∉bad→h2.get? b=some o)(k2 : ∀b o, s.heap.get? b=some o→b∈frs X.stack→∃sl, h2.get? b=some { o with slots := sl }) : Inv X pins σ H { s with heap := h2, toks := t' } := by
  obtain⟨un, ok⟩ := I.gone hx (λb z => (hb b z).1) k k2
  refine⟨I.ok, I.os, I.bare, by rw[hx];exact un, ?_, λx c e => (by rw[hcl] at e;cases e), I.free, I.mQ, λp hp => ?_, ok, I.len⟩
  · obtain⟨m, ⟨o, es, ep, ho, r⟩, hl⟩ := I.loc
    obtain⟨sl, q⟩ := k2 _ o ho hfr
    refine⟨m, ⟨_, es, ep, q, r⟩, λi x v e1 e2 e3 => ?_⟩
    obtain⟨u, ru, lk⟩ := hl i x v e1 e2 e3
    refine⟨u, ru, ?_⟩
    rcases lk with lk|⟨_, c, e, _⟩
    · exact .inl lk
    · rw[hcl] at e;cases e
  · obtain⟨e, n, ne, nf, d⟩ := I.pin p hp
    exact⟨k _ _ e (λz => (mem_cons.mp (I.rz _ z)).elim ne nf) (λz => (hb _ z).2.2 p hp rfl), n, ne, nf, d⟩
theorem Inv.track(I : Inv X pins σ H s)(hx : X.ex=[])(hcl : X.env.cells=[])(ap : Apart X pins H a)(new : gb X.prog X.w (upd H a o) s.heap a o) : Inv X pins σ (upd H a o) s := by
  obtain⟨⟨f, n⟩, nl, np⟩ := ap
  have up : ∀{b u}, H b=some u→upd H a o b=some u := λ{b u} e => by rw[aP (aR e n)];exact e
  refine⟨I.ok, I.os, I.bare, ⟨I.base.keep, I.base.slot, λb ob q nn hxx => ?_, I.base.there, λb xs e => up (I.base.tups b xs e), λb ob u e => up (I.base.zM b ob u e), λb ps e => ?_⟩, I.loc, I.cell, (by rw[aP (ahk nl)];exact I.free), λx c e => (by rw[hcl] at e;cases e), λp hp => ?_, λb u e => ?_, I.len⟩
  · rw[aP (λz => by rw[z, f] at q;cases q)]
    exact I.base.free b ob q nn hxx
  · obtain⟨more, z⟩ := I.base.Ax b ps e
    exact⟨more, up z⟩
  · obtain⟨e, n', ne, nf, d⟩ := I.pin p hp
    exact⟨e, by rw[aP (np p hp)];exact n', ne, nf, d⟩
  · by_cases hb : b=a
    · subst hb
      rw[aY] at e
      cases e
      exact new
    · rw[aP hb] at e
      exact(I.hok b u e).stay (λ_ _ _ q => q) (λc q => up q) λc xs q => up q
theorem Inv.forget(I : Inv X pins σ H s)(hn : h2.Ns X.env.locals m')(sb : SameBut X.env.locals s.heap h2)(hcl : X.env.cells=[]) : Inv X pins (replicate X.N.length none) H { s with heap := h2, toks := t' } := by
  have neL : ∀b o, X.s₀.heap.get? b=some o→b≠X.env.locals := λb o e => afy (afq (lt_size e) I.ok.above)
  refine⟨I.ok, I.os, I.bare, ⟨λb o q n hf hx => (sb.2 b (neL b o q)).trans (I.base.keep b o q n hf hx), λb o q n hf hx => ?_, I.base.free, λb o q hx => ?_, I.base.tups, I.base.zM, I.base.Ax⟩, ⟨m', hn, λi x v e1 e2 _ => ?_⟩, λx c e => (by rw[hcl] at e;cases e), I.free, I.mQ, λp hp => ?_, λb u e => ?_, (by rw[length_replicate])⟩
  · obtain⟨sl, e⟩ := I.base.slot b o q n hf hx
    exact⟨sl, (sb.2 b (neL b o q)).trans e⟩
  · obtain⟨o', e⟩ := I.base.there b o q hx
    exact⟨o', (sb.2 b (neL b o q)).trans e⟩
  · rw[getElem?_replicate] at e2
    split at e2<;>cases e2
  · obtain⟨e, n, ne, nf, d⟩ := I.pin p hp
    exact⟨(sb.2 _ ne).trans e, n, ne, nf, d⟩
  · have nl : ∀c v, H c=some v→c≠X.env.locals := λc v z q => by rw[q, I.free] at z;cases z
    refine(I.hok b u e).stay (λc v hc q => ?_) (λ_ q => q) λ_ _ q => q
    rcases hc with rfl|hc
    · exact(sb.2 _ (nl _ _ e)).trans q
    · exact(sb.2 _ (nl _ _ hc)).trans q
end
abbrev Cx.held(X : Cx)(a : Addr) : Cx := { X with A := X.A.mark (some (.ref a)), calm := false, xe := λ_ _ => False }
abbrev Cx.tried(X : Cx)(pins : List (Addr×Obj))(xe : Value→Shared→Prop) : Cx := { X with pn := X.pn++pins, xe := xe }
section
variable{X : Cx}{pins : List (Addr×Obj)}{σ : St}{H : Hp}{s : Shared}
theorem Cx.Ok.held(ok : X.Ok)(a : Addr) : (X.held a).Ok := ⟨ok.mod, ok.kind, ok.glob, ok.blt, ok.above, ok.inj, ok.has, ok.cab, (λe => by cases e), ok.frames, ok.stk, ok.Zc, ok.bs, ok.RD, ok.Kh, ok.Iz, ok.wF, ok.Xb⟩
theorem Inv.held(I : Inv X pins σ H s)(a : Addr) : Inv (X.held a) pins σ H s := ⟨I.ok.held a, I.os, I.bare, I.base, I.loc, I.cell, I.free, I.mQ, I.pin, I.hok, I.len⟩
theorem Inv.aa7(I : Inv (X.held a) pins σ H s)(ok : X.Ok) : Inv X pins σ H s := ⟨ok, I.os, I.bare, I.base, I.loc, I.cell, I.free, I.mQ, I.pin, I.hok, I.len⟩
theorem Cx.Ok.tried(ok : X.Ok)(xe : Value→Shared→Prop) : (X.tried pins xe).Ok := ⟨ok.mod, ok.kind, ok.glob, ok.blt, ok.above, ok.inj, ok.has, ok.cab, ok.hd, ok.frames, ok.stk, ok.Zc, ok.bs, ok.RD, ok.Kh, ok.Iz, ok.wF, ok.Xb⟩
theorem Inv.tried(I : Inv X pins σ H s)(xe : Value→Shared→Prop) : Inv (X.tried pins xe) [] σ H s := ⟨I.ok.tried xe, I.os, I.bare, I.base, I.loc, I.cell, I.free, I.mQ, (λp hp => I.pin p (by rw[append_nil] at hp;exact hp)), I.hok, I.len⟩
theorem Inv.Oj(I : Inv (X.tried pins xe) Uy σ H s)(ok : X.Ok) : Inv X pins σ H s := ⟨ok, I.os, I.bare, I.base, I.loc, I.cell, I.free, I.mQ, (λp hp => I.pin p (mem_append_left _ hp)), I.hok, I.len⟩
end
end L2
namespace PySem.W
open PySem PySem.Spec PySem.Calls PyProof.Rows Builtin Builtin.ObjectAttr Builtin.Getset_descriptor
section
variable{prog : Program}{w : World}{A : Around}{E : Value→Shared→Prop}{s : Shared}{K : Frag}{x D : Addr}
theorem Ye{R : Result→Shared→Prop}(X : K.In s.heap)(L0 : Looks (model prog w) s.heap (typeOf (.ref x)) (.ref D))(hm : mroIn K D (.type "object")=some true)(h : R (.ok (.ret (.ref D))) s) :
    codeAny (model prog w) A (.call (.builtin "getset_descriptor.__get__") ⟨[.builtin "object.__class__", .ref x, tp], []⟩) R s := by
  obtain⟨hp, ge, dw, tk, so⟩ := s
  have L1 := looks_mroIn (M := model prog w) X hm
  refine codeAny_call_builtin KF.slot_gs.plain KF.entry_gs (KF.slot_gs.check _ _ _ _ _ _ _ _ KF.type_class (KF.args_gs _ _ _) (by
    unfold Builtin.«getset_descriptor.__get__» descrGet
    rw[dga_obj]
    refine afk (afw ?_);unfold descrGetter descrCheckInstance descrNameAndClass isInstance
    simp only[KF.owner_class]
    (repeat lk);refine⟨Code.quiet_builtin _ (by decide +kernel), codeAny_builtin KF.entry_class ?_⟩
    unfold Builtin.«object.__class__» shownTypeOf
    (repeat lk);exact h))
structure Uz(K : Frag)(D : Addr) : Prop where
  ga : findIn K (.ref D) "__getattribute__" = some (some (.builtin "BaseException.__getattribute__"))
  no : findIn K (.ref D) "__getattr__" = some none
  cl : findIn K (.ref D) "__class__" = some (some (.builtin "object.__class__"))
  gt : specialIn K (.builtin "object.__class__") "__get__" = some (some (.builtin "getset_descriptor.__get__"))
  tk : takesIn K (.builtin "object.__class__")=some true
  ob : mroIn K D (.type "object")=some true
  be : mroIn K D (.type "BaseException")=some true
  ty : (clsIn K D).isSome=true
theorem UG(X : K.In s.heap)(T : Uz K D) : Looks (model prog w) s.heap (find (.ref x) (.ref D) "__class__") (.bind (.builtin "getset_descriptor.__get__") (.builtin "object.__class__")) := by
  have L1 := ajo (M := model prog w) X T.cl
  have L2 := looks_specialIn (M := model prog w) X T.gt
  have L3 := looks_takesIn (M := model prog w) X T.tk
  have L2' : Looks (model prog w) s.heap (getOf (some (.builtin "object.__class__"))) (some (.builtin "getset_descriptor.__get__")) := L2
  refine L1.andThen (L2'.andThen ?_)
  have L4 : Looks (model prog w) s.heap (dataDescriptor? (some (.builtin "object.__class__")) (some (.builtin "getset_descriptor.__get__"))) (some (.builtin "getset_descriptor.__get__", .builtin "object.__class__")) := by
    unfold dataDescriptor?
    exact L3.andThen .now
  exact L4.andThen (Looks.tag .now)
theorem UJ{Q : Option Value→Shared→Prop}(X : K.In s.heap)(T : Uz K D)(L0 : ∀t, Looks (model prog w) ({ s with toks := t } : Shared).heap (typeOf (.ref x)) (.ref D))(h : Q (some (.ref D)) { s with toks := s.toks+1 }) : wpAny (model prog w) A (getAttr? (.ref x) "__class__") Q E s := by
  obtain⟨hp, ge, dw, tk, so⟩ := s
  have X : K.In hp := X
  have L0 : Looks (model prog w) hp (typeOf (.ref x)) (.ref D) := L0 tk
  have L1 := ajo (M := model prog w) X T.ga
  have L2 := ajo (M := model prog w) X T.no
  have L3 := looks_mroIn (M := model prog w) X T.be
  have L4 : Looks (model prog w) hp (find (.ref x) (.ref D) "__class__") (.bind (.builtin "getset_descriptor.__get__") (.builtin "object.__class__")) := UG (s := ⟨hp, ge, dw, tk, so⟩) X T
  unfold getAttr? getAttrBy? getAttrBy
  refine afk (wpAny_mkText (afk (wpAny_attempt (ahw (afk (L0.at (afk (L1.at ?_))))))))
  show wpAny _ _ (getAttrByItsOwn _ _ _ _ _ _) _ _ _
  unfold getAttrByItsOwn
  refine afk ?_
  show wpAny _ _ (typeLookup (.ref D) "__getattr__") _ _ _
  refine L2.at ?_
  refine afk (wpAny_attempt (ahw ?_))
  show wpAny _ _ (boundAndCalled _ _ _) _ _ _
  unfold boundAndCalled
  rw[F.excAttr_ValueError.ga.bind]
  refine afk (afw ?_)
  refine aji (codeAny_call_builtin F.excAttr_ValueError.ga.plain F.entry_bexc_ga ?_)
  have kd : builtinKind "BaseException.__getattribute__" = some .slot := by decide +kernel
  have sp : splitId "BaseException.__getattribute__" = some ("BaseException", "__getattribute__") := by decide +kernel
  simp only[checkBuiltinCall, kd, sp]
  have LI : Looks (model prog w) hp (isInstance (.ref x) (.type "BaseException")) true := L0.andThen L3
  have ao := F.args_bexc_ga (.ref x) (.str "__class__" tk)
  unfold argsOk at ao
  show wpAny (model prog w) A.in1 (isInstance (.ref x) (.type "BaseException") >>= _) _ _ _
  refine afk (LI.at ?_)
  rw[if_neg (by decide)]
  refine wpAny_of_eq (a := ()) (by revert ao;cases Manifest.signature? "BaseException.__getattribute__" <;> exactλz => z) ?_
  unfold «object.__getattribute__»
  show wpAny (model prog w) A.in1 (slotArgs "__getattribute__" 1 ⟨[.ref x, .str "__class__" tk], []⟩ >>= _) _ _ _
  refine afk (afw ?_)
  show wpAny (model prog w) A.in1 (attrName (.str "__class__" tk) >>= _) _ _ _
  refine afk (afw ?_)
  refine afk (L0.at (afk (L4.at ?_)))
  show wpAny (model prog w) A.in1 (bindTo _ _ _ _) _ _ _
  unfold bindTo
  dsimp only
  refine afk (ahw (aji (Ye (s := ⟨hp, ge, dw, tk+1, so⟩) X L0 T.ob (afw ?_))))
  exact afw (afw h)
theorem UL(T : Uz K D) : KitX K (.ref x) (.ref D) (λh => ∃oe, h.get? x=some oe∧oe.cls=.ref D) where
  ty := λM h _ ⟨oe, h1, h2⟩ => h2▸(Looks.ld h1).andThen .now
  it := λM h X _ => by
    obtain⟨cd, hc⟩ := agq.mp T.ty
    unfold clsIn at hc
    split at hc
    · rename_i c' d' cd' sl' ho
      intro A' Q' E' s' k q;unfold isType loadHead;exact afk (wpAny_loadPart (k _ _ (X _ _ ho)) (afw q))
    · cases hc
  ne := λh tp dd its n sl X htp => Bool.eq_false_iff.mpr λq => by
    obtain rfl : D=tp := Value.ref.inj (beq_iff_eq.mp q)
    obtain⟨cd, hc⟩ := agq.mp T.ty
    unfold clsIn at hc
    split at hc
    · rename_i c' d' cd' sl' ho
      cases(X _ _ ho).symm.trans htp
    · cases hc
  ca := λX ⟨oe, h1, h2⟩ k => UJ X T (λt => h2▸(Looks.ld h1).andThen .now) k
end
end PySem.W
namespace L2
open PySem PySem.Spec PyProof.Rows
section
variable{X : Cx}{D : Addr}
def aeu(K : afh)(D : Addr)(c : Value)(b : Bool) : List V→Hp→VK→Prop := λxs H Q => ∃a y, xs=[.ref a, y]∧RelV y c∧H a=some (Qw a (.ref D))∧Q (.bl b) H
theorem gB(T : PySem.W.Uz X.K D)(e : afo X.K (.ref D) c=some b)(hc : ∀y u, RelV y c→RelV y u→u=c) : mR X (.builtin "isinstance") (aeu X.K D c b) := by
  intro pins s σ H xs us Q I r h
  obtain⟨a, y, rfl, ry, ha, q⟩ := h
  obtain⟨u, v, rfl, ru, rv⟩ := r.two
  obtain rfl := hc y v ry rv
  obtain rfl : u=.ref a := ru
  exact agd (PySem.W.UL T) I.za (I.hok a _ ha).1 e (λz => nomatch z) λtk => ⟨.bl b, H, I.tok tk, rfl, q⟩
end
section
variable{X : Cx}
def adn : V→Option Int→Option Int→Hp→VK→Prop := λx lo hi H Q => ∃z i, x=.str z∧lo=some i∧hi=none∧z.length≤sizeLine∧Q (.str (ai2 z (some i) none)) H
theorem Yg : SlR X adn := by
  intro pins s σ H x v vl vu lo hi sl Q I rx hs pl pu h
  obtain⟨z, j, rfl, rfl, rfl, hz, q⟩ := h
  obtain⟨t, rfl⟩ := rx
  cases pu
  cases pl with
  |int _ tk =>
    refine⟨"str", _, PySem.F.slot_str_getitem.lookup, ahz _ _ _, ?_⟩
    exact wpAny_getItem_str_slice (l := some (j, tk)) (u := none) (st := none) hs rfl (post_val_or_str ⟨afl (Txt.slice_le z _ _) hz, λt' k => ⟨.str _, H, I.tok k, ⟨t', rfl⟩, q⟩⟩)
end
end L2
namespace Ts
open PySem L2
section
variable{K : afh}{B : Bs}{sl : List (Slot K)}{md : Md}{t t1 t2 : TE}
noncomputable def rT(a b : Str) : Option Str := if a.length+b.length≤9000 then some (a++b) else none
theorem m8(h1 : Ex B sl .hp t1 m1)(h2 : Ex B sl .hp t2 m2) : Ex B sl md (wD ZD t1 t2) (m1.bind λa => m2.bind λb => rT a b) := λc hc F O H σ Q s k => by
  obtain⟨a, b, ha, hb, hf⟩ := jM hc
  unfold rT at hf
  split at hf
  case isFalse => cases hf
  rename_i hl
  cases hf
  refine h1 a ha F O H σ _ s λv F' H' g r1 => ?_
  refine h2 b hb F' O H' σ _ (s.grow g) λw F2 H2 g2 r2 => ?_
  cases r1
  cases r2
  exact⟨a, b, rfl, rfl, afl hl (by decide), k _ F2 H2 (g.trans g2) rfl⟩
noncomputable def UW(z : Str)(j : Int) : Option Str := if z.length≤9000 then some (ai2 z none (some j)) else none
theorem Yh(h1 : Ex B sl .hp t1 m1)(h2 : Ex B sl .hp t2 m2) : Ex B sl md (Zm adg t1 qt (wL t2)) (m1.bind λa => m2.bind λb => UW a b) := λc hc F O H σ Q s k => by
  obtain⟨a, b, ha, hb, hf⟩ := jM hc
  unfold UW at hf
  split at hf
  case isFalse => cases hf
  rename_i hl
  cases hf
  refine h1 a ha F O H σ _ s λv F' H' g r1 => ?_
  refine h2 b hb F' O H' σ _ (s.grow g) λw F2 H2 g2 r2 => ?_
  cases r1
  cases r2
  exact⟨b, rfl, a, b, rfl, rfl, rfl, afl hl (by decide), k _ F2 H2 (g.trans g2) rfl⟩
noncomputable def U0(z : Str)(j : Int) : Option Str := if z.length≤9000 then some (ai2 z (some j) none) else none
theorem Yi(h1 : Ex B sl .hp t1 m1)(h2 : Ex B sl .hp t2 m2) : Ex B sl md (Zm adn t1 (wL t2) qt) (m1.bind λa => m2.bind λb => U0 a b) := λc hc F O H σ Q s k => by
  obtain⟨a, b, ha, hb, hf⟩ := jM hc
  unfold U0 at hf
  split at hf
  case isFalse => cases hf
  rename_i hl
  cases hf
  refine h1 a ha F O H σ _ s λv F' H' g r1 => ?_
  refine h2 b hb F' O H' σ _ (s.grow g) λw F2 H2 g2 r2 => ?_
  cases r1
  cases r2
  exact⟨b, rfl, a, b, rfl, rfl, rfl, afl hl (by decide), k _ F2 H2 (g.trans g2) rfl⟩
end
inductive Mx where
  |mi (n : Int)
  |mb (c : Bool)
  |mn
  |ms (x : Str)
def Mx.v : Mx→V
  |.mi n => .int n
  |.mb c => .bl c
  |.mn => .non
  |.ms x => .str x
def Yj : Mx→Option Int
  |.mi n => some n
  |_ => none
def aa8 : Mx→Bool
  |.mi _ => true
  |.mb _ => true
  |_ => false
def aa9 : Mx→Bool
  |.mb _ => true
  |_ => false
section
variable{K : afh}{B : Bs}{sl : List (Slot K)}{md : Md}{t : TE}{F : Hp}{v : V}
instance : Rp K Mx := ⟨λ_ v a => v=a.v, λ_ h => h⟩
instance : Sc K Mx := ⟨Mx.v, ajj, λ{a b} h => by cases a<;>cases b<;>cases h<;>rfl⟩
theorem abb(e : Yj x=some n)(h : rp K F v x) : rp K F v n := by
  cases x<;>cases e
  exact h
theorem ZG{α β : Type}[Rp K α][Rp K β]{f : α→Option β}(hf : ∀{F : Hp} {v : V} {a : α} {b : β}, f a=some b→rp K F v a→rp K F v b){m : Option α}(h : Ex B sl md t m) : Ex B sl md t (m.bind f) := λc hc F O H σ Q s k => by
  cases m with
  |none => cases hc
  |some a => exact h a rfl F O H σ Q s λv F' H' g r => k v F' H' g (hf hc r)
theorem Hj(h : Ex B sl md t m) : Ex B sl md t (m.bind Yj) := ZG abb h
theorem ZJ(h : rp K H v x) : ∃t, u_ K H v t∧afo K t (.type "int")=some (aa8 x)∧afo K t (.type "bool")=some (aa9 x) := by
  have e : v=x.v := h
  subst e
  cases x with
  |mi n => exact⟨_, .int _, Zv, Zw⟩
  |mb c => exact⟨_, .bl _, (by first|rfl|(unfold afo aho;decide +kernel)), (by first|rfl|(unfold afo aho;decide +kernel))⟩
  |mn => exact⟨_, .non, (by first|rfl|(unfold afo aho;decide +kernel)), (by first|rfl|(unfold afo aho;decide +kernel))⟩
  |ms z => exact⟨_, .str _, (by first|rfl|(unfold afo aho;decide +kernel)), (by first|rfl|(unfold afo aho;decide +kernel))⟩
theorem Yk(h : Ex B sl .hp t m) : Ex B sl md (Ng (Ti K (.type "int")) (cD t (cD (tC (.ty "int")) fu))) (m.bind λx => some (aa8 x)) := λd hd F O H σ Q s k => by
  cases m with
  |none => cases hd
  |some a =>
    cases hd
    refine h a rfl F O H σ _ s λv F' H' g r1 => ?_
    obtain⟨y, z1, z2, _⟩ := ZJ r1
    exact⟨v, _, y, _, rfl, rfl, z1, z2, k _ F' H' g rfl⟩
theorem Ym(h : Ex B sl .hp t m) : Ex B sl md (Ng (Ti K (.type "bool")) (cD t (cD (tC (.ty "bool")) fu))) (m.bind λx => some (aa9 x)) := λd hd F O H σ Q s k => by
  cases m with
  |none => cases hd
  |some a =>
    cases hd
    refine h a rfl F O H σ _ s λv F' H' g r1 => ?_
    obtain⟨y, z1, _, z2⟩ := ZJ r1
    exact⟨v, _, y, _, rfl, rfl, z1, z2, k _ F' H' g rfl⟩
end
end Ts
namespace L2
open PySem PySem.Spec PyProof.Rows
def exD(E : XK)(D : Ends) : Ends := { D with rt := λv H => ∃c, v=.ref c∧E (.ref c) none H }
def Lm(E : XK)(D : Ends) : Prop := ∀v H, D.rt v H→∃c, v=.ref c∧E (.ref c) none H
def Qx(X : Cx)(E : XK)(st : Stmt)(t : TS) : Prop :=
  ∀(pins : List (Addr×Obj))(s : Shared)(σ : St)(H : Hp)(D : Ends), Lm E D→Inv X pins σ H s→t D σ H→wpAny (model X.prog X.w) X.A (exec st X.env) (SP X pins (noR D)) X.xe s
def zT(X : Cx)(E : XK)(st : List Stmt)(t : TS) : Prop :=
  ∀(pins : List (Addr×Obj))(s : Shared)(σ : St)(H : Hp)(D : Ends), Lm E D→Inv X pins σ H s→t D σ H→wpAny (model X.prog X.w) X.A (execs st X.env) (SP X pins (noR D)) X.xe s
section
variable{X : Cx}{E : XK}{st : Stmt}{rest : List Stmt}{t u : TS}{pos : Pos}
theorem pq(h : PS X st t)(ht : ∀D σ H, t D σ H→t (noR D) σ H := by exactλ_ _ _ h => h) : Qx X E st t := λpins s σ H D _ I q => h pins s σ H (noR D) I (ht D σ H q)
theorem Ld : zT X E rest Gm := λ_ _ _ _ _ _ _ h => h.elim
theorem cI : zT X E [] lR := λpins s σ H D _ I h => ahj ⟨σ, H, I, h⟩
theorem bh(h1 : Qx X E st t)(h2 : zT X E rest u) : zT X E (st::rest) (jD t u) := by
  intro pins s σ H D L I h
  refine ai3 (dN (h1 pins s σ H { D with nx := u D } L I h) λf s1 q => ?_)
  cases f with
  |next =>
    obtain⟨σ', H', I', q⟩ := q
    exact h2 pins s1 σ' H' D L I' q
  |ret v => exact q
  |brk => exact q
  |cont => exact q
theorem rU{c : Expr}{a b : List Stmt}{tc : TT}(hc : PT X c tc)(ha : zT X E a t)(hb : zT X E b u) : Qx X E (.If c a b pos) (Gk tc t u) := by
  intro pins s σ H D L I h
  refine wpAny_If (dN (hc pins s σ H _ I h) λd s1 ⟨H1, I1, q1⟩ => ?_)
  cases d with
  |true => exact ha pins s1 σ H1 D L I1 q1
  |false => exact hb pins s1 σ H1 D L I1 q1
theorem uw{tg : Expr}{iter : Expr}{body : List Stmt}{wi : TI}{g : TG}{tb : TS}(hp : PassesOwn (model X.prog X.w) X.A X.env X.xe)(hc : X.calm=true)(hi : PI X tg iter wi)(hg : PG X tg g)(hb : zT X E body tb)(hs : ∀x, foldedSetIterable iter X.env x=pure x := by intro _;rfl) : Qx X E (.For tg iter body [] pos) (Xd wi g tb) := by
  intro pins s σ H D L I h
  refine wpAny_For (dN (hi pins s σ H _ I h) λv s1 h1 => dN h1 λitv s2 h2 => ?_) hs
  obtain⟨it, fp, tn, J, H2, e, I2, T, st2, f2, Wd, ⟨m0, w0⟩, turn⟩ := h2
  subst e
  have stat : ∀{H' : Hp}, (∀b∈fp, H' b=none)→∀b∈fp, uY X pins H' b := λhn b hb => ⟨hn b hb, (f2 b hb).2⟩
  refine codeAny_forLoop_any (λn s' => ∃i σ' H', Inv X pins σ' H' s'∧tn i s'.heap∧(∀b∈fp, H' b=none)∧Wd i n σ' H') ?_ m0 ⟨0, σ, H2, I2, st2, λb hb => (f2 b hb).1, w0⟩
  rintro n s3 ⟨i, σ3, H3, I3, st3, fr3, w3⟩
  rcases turn i n σ3 H3 w3 with⟨stop, qn⟩|⟨go, N, hN, step⟩
  · refine ags hp (dN (T.done X rfl rfl rfl hc i pins s3 σ3 H3 X.xe I3 (stat fr3) st3 stop) λr s4 ⟨hr, I4⟩ => ?_)
    subst hr
    exact ahj ⟨σ3, H3, I4, qn⟩
  · refine ags hp (dN (T.item X rfl rfl rfl hc i pins s3 σ3 H3 X.xe I3 (stat fr3) st3 go) λr s4 ⟨u, hr, h4⟩ => ?_)
    subst hr
    refine ags hp (dN h4 λ_ s5 ⟨x, H5, I5, r5, y5, st5, fr5⟩ => ?_)
    have I5' := I5.pinned (stat fr5) (T.obj _ _ st5)
    refine ags hp (dN (hg _ s5 σ3 H5 x u _ I5' r5 (step x H5 y5)) λ_ s6 ⟨σ6, H6, I6, q6⟩ => ?_)
    refine ags hp (dN (hb _ s6 σ6 H6 { D with nx := N, ct := N, bk := D.nx } L I6 q6) λf s7 q7 => ?_)
    have again : ∀{σ7 : St}{H7 : Hp}, Inv X (pins++uZ fp s5.heap) σ7 H7 s7→N σ7 H7→∃m, m<n∧∃i σ' H', Inv X pins σ' H' s7∧tn i s7.heap∧(∀b∈fp, H' b=none)∧Wd i m σ' H' := λ{σ7 H7} I7 n7 => by
      obtain⟨m', hm, w7⟩ := hN σ7 H7 n7
      have pin : ∀b∈fp, ∀o, s5.heap.get? b=some o→s7.heap.get? b=some o∧H7 b=none := λb hb o e => by
        have z := I7.pin (b, o) (mem_append_right _ (mem_append_right _ (jk hb e)))
        exact⟨z.1, z.2.1⟩
      refine⟨m', hm, i+1, σ7, H7, I7.rC, T.keep _ _ _ st5 λb hb o e => (pin b hb o e).1, λb hb => ?_, w7⟩
      obtain⟨o, e, d⟩ := T.obj _ _ st5 b hb
      exact(pin b hb o e).2
    cases f with
    |next => obtain⟨σ7, H7, I7, n7⟩ := q7;exact again I7 n7
    |cont => obtain⟨σ7, H7, I7, n7⟩ := q7;exact again I7 n7
    |brk => obtain⟨σ7, H7, I7, q7⟩ := q7;exact⟨σ7, H7, I7.rC, q7⟩
    |ret v => obtain⟨x7, σ7, H7, I7, r7, q7⟩ := q7;exact q7.elim
theorem zT.pss(h : zT X E rest t) : xY X rest (λD σ H => t (exD E D) σ H) := λpins s σ H D I q =>
  agc (h pins s σ H _ (λ_ _ z => z) I q) (λfl s' hs => by
    cases fl with
    |next => exact hs
    |brk => exact hs
    |cont => exact hs
    |ret v => obtain⟨x7, σ7, H7, I7, r7, q7⟩ := hs;exact q7.elim) λ_ _ z => z
end
abbrev TJ := Str→St→Hp→VK→Prop
def PJ(X : Cx)(es : List Expr)(t : TJ) : Prop :=
  ∀(pins : List (Addr×Obj))(s : Shared)(σ : St)(H : Hp)(Q : VK)(out : Str), Inv X pins σ H s→out.length≤sizeLine→t out σ H Q→wpAny (model X.prog X.w) X.A (joinParts out (evalEach es X.env)) (EP X pins σ Q) X.xe s
def ado(x : V)(z : Str) : Prop := (∃i, x=.int i∧i.natAbs.log2<1920∧z=agr (toString i))∨(x=.str z∧z.length≤1000)
def U3(x : V)(z : Str) : Prop := (∃i, x=.int i∧i.natAbs.log2<1920∧z=agr (toString i))∨(∃y, x=.str y∧z=reprText y∧z.length≤1000)∨(∃b, x=.bl b∧z=if b then("True" : Str) else("False" : Str))∨(x=.non∧z = "None")
def adp : TJ := λout _ H Q => Q (.str out) H
def adq(a : Str)(t : TJ) : TJ := λout σ H Q => (out++a).length≤sizeLine∧t (out++a) σ H Q
def abd(te : TE)(t : TJ) : TJ := λout σ H Q => te σ H λx H1 => ∃z, ado x z∧(out++z).length≤sizeLine∧t (out++z) σ H1 Q
def abe(te : TE)(t : TJ) : TJ := λout σ H Q => te σ H λx H1 => ∃z, U3 x z∧(out++z).length≤sizeLine∧t (out++z) σ H1 Q
def tJ(t : TJ) : TE := λσ H Q => t ag8 σ H Q
section
variable{X : Cx}{e e1 e2 : Expr}{es : List Expr}{t : TJ}{te : TE}{p1 pos : Pos}
theorem rW : PJ X [] adp := λpins s σ H Q out I hl h => joinParts_nilE (ajg ⟨.str out, H, I.tok _, ⟨_, rfl⟩, h⟩ hl)
theorem jQ{a : Str}{j : Nat}(h : PJ X es t) : PJ X (.Constant (.str a) j p1::es) (adq a t) := λpins s σ H Q out I hl q =>
  ajc (ah5 (aik ⟨q.1, h pins _ σ H Q _ (I.tok _) q.1 q.2⟩))
theorem pB(he : PE X e te)(h : PJ X es t) : PJ X (.FormattedValue e (-1) none p1::es) (abd te t) := λpins s σ H Q out I hl q => by
  refine ajc (ah5 (FormattedValue_plain (dN (he pins _ σ H _ I q) λu s1 ⟨x, H1, I1, r1, q1⟩ => ?_)))
  obtain⟨z, hz, hl2, q1⟩ := q1
  rcases hz with⟨i, rfl, hd, rfl⟩|⟨rfl, hz⟩
  · obtain⟨t, rfl⟩ := r1
    exact formatField_int_small hd ⟨hl2, h pins _ σ H1 Q _ (I1.tok (s1.toks+1+1)) hl2 q1⟩
  · obtain⟨t, rfl⟩ := r1
    exact ajb (λt' tk => ⟨hl2, h pins _ σ H1 Q _ (I1.tok tk) hl2 q1⟩) (afl hz (by decide))
theorem Lf(he : PE X e te)(h : PJ X es t) : PJ X (.FormattedValue e 114 none p1::es) (abe te t) := λpins s σ H Q out I hl q => by
  refine ajc (ah5 (wpAny_FormattedValue_repr (dN (he pins _ σ H _ I q) λu s1 ⟨x, H1, I1, r1, q1⟩ => ?_)))
  obtain⟨z, hz, hl2, q1⟩ := q1
  have last : z.length≤2000→∀tk, ∀t : Tok, wpAny (model X.prog X.w) X.A (formatField (.str z t) ag8) (λv s₁ => match v with|.str y _ => (out++y).length≤sizeLine∧wpAny (model X.prog X.w) X.A (joinParts (out++y) (evalEach es X.env)) (EP X pins σ Q) X.xe s₁|_ => False) X.xe { s1 with toks := tk } := λhz tk t =>
    ajb (λt' tk' => ⟨hl2, h pins _ σ H1 Q _ (I1.tok tk') hl2 q1⟩) (afl hz (by decide))
  rcases hz with⟨i, rfl, hd, rfl⟩|⟨y, rfl, rfl, hz⟩|⟨b, rfl, rfl⟩|⟨rfl, rfl⟩
  · obtain⟨t, rfl⟩ := r1
    exact pyReprObj_int hd (last (by have := int_text_len_1921 hd;omega) _ _)
  · obtain⟨t, rfl⟩ := r1
    exact pyReprObj_str (last (by omega) _ _) (afl hz (by decide))
  · have r1 : u=.bool b := r1
    subst r1
    exact pyReprObj_bool (last (by cases b<;>decide) _ _)
  · have r1 : u=.none := r1
    subst r1
    exact pyReprObj_none (last (by decide) _ _)
theorem jz(h : PJ X (e1::e2::es) t) : PE X (.JoinedStr (e1::e2::es) pos) (tJ t) := λpins s σ H Q I q => JoinedStr_many (h pins s σ H Q ag8 I (afz _) q)
end
def wZ(c : Addr)(ta : TA) : TS := λD σ H => ta σ H λvs H1 => vs.length≤sizeLine∧D.rt (.ref c) H1
def Lg(sp : Sp)(t : TA) : TS := λD σ H => t σ H λvs H1 => sp (vs++[]) H1 (λ_ H2 => D.nx σ H2) λB _ H' => ∃c, B=.ref c∧D.rt (.ref c) H'
section
variable{X : Cx}{E : XK}{C : Addr}
theorem fL{x : Str}{np cpos pos : Pos}{e₀ : Expr}{rest : List Expr}{ta : TA}(T : Thr X (.ref C) E)(hcm : X.calm=true)(O : aa5 X.K C)(hg : Gl X x)(hm : X.mg x=some (.ref C))(ha : PA X (e₀::rest) ta)(hdb : (x==("__debug__" : Str))=false := by decide)(he : starEach (e₀::rest) X.env=(false, eval e₀ X.env)::starEach rest X.env := by rfl)(hpl : (backTo cpos (starEach rest X.env)).any (·.1)=false := by rfl) :
    Qx X E (.Raise (some (.Call (.Name x np) (e₀::rest) [] cpos)) none pos) (wZ C ta) := by
  intro pins s σ H D L I h
  have z := Qv (pos := pos) (np := np) (cpos := cpos) T hcm O hg hm ha hdb he hpl pins s σ H { D with rt := λ_ H1 => D.rt (.ref C) H1 } (λv H1 q => by
    obtain⟨c, e, q⟩ := L _ _ q
    cases e
    exact q) I h
  exact agc z (λfl s' hs => by
    cases fl with
    |next => exact hs
    |brk => exact hs
    |cont => exact hs
    |ret v => obtain⟨x7, σ7, H7, I7, r7, q7⟩ := hs;exact q7.elim) λ_ _ z => z
theorem U4{k : Nat}{f : Addr}{fd : FuncData}{ps : List Str}{sp : Sp}{x : Str}{p cpos pos : Pos}{e : Expr}{es : List Expr}{t : TA}(F : bY X.prog X.w X.K X.mg X.base (kE X.prog X.w) k f fd ps sp)(hr : f9 k X.A)(hg : Gl X x)(hm : X.mg x=some (.ref f))(hk : agw X.K (.ref f)=true)(hb : Binds X.K fd ps [])(hx : Passes (kE X.prog X.w) X E)(ha : PA X (e::es) t)(hdb : (x==("__debug__" : Str))=false := by decide)(he : starEach (e::es) X.env=(false, eval e X.env)::starEach es X.env := by rfl)(hpl : (backTo cpos (starEach es X.env)).any (·.1)=false := by rfl)(hs : swapsWith (.Call (.Name x p) (e::es) [] cpos) none pos.line X.env=pure false := by rfl) : Qx X E (.Expr (.Call (.Name x p) (e::es) [] cpos) pos) (Lg sp t) := by
  intro pins s σ H D L I h
  exact(cP (Gp (E := λB _ H' => ∃c, B=.ref c∧D.rt (.ref c) H') F hr hg hm hk hb .nil (λUy σ2 H2 s2 e2 s3 I2 q => hx Uy σ2 H2 s2 e2 s3 I2 (q.mono λB H ⟨c, z1, z2⟩ => by
    obtain⟨c2, e2, z⟩ := L _ _ z2
    cases e2
    exact z1▸z)) ha hdb he hpl) hs) pins s σ H (noR D) I h
end
section
variable{P : Program}{w : World}{K : afh}{mg : Str→Option Value}{base : Heap}
theorem gn.okM{x qual : Str}{st : Stmt}{f : Addr}{fd : FuncData}{N ps : List Str}{k : Nat}{sp : Sp}(F : gn K x qual st f fd)(S : bf N ps (aH st))(len : ∀vs H Q E, sp vs H Q E→vs.length=ps.length)(hbody : ∀(cdv : Value) (A : Around) (outer : List Env) (s : Shared) (H : Hp) (vs : List V) (Q : VK) (E : XK), f9 k (A.deeper (envOfC qual (aH st) s.heap.objs.size f cdv))→sp vs H Q E →
      ∃t, zT (nJ (kE P w) P w K mg base N qual (aH st) f cdv A outer s H E) E (dB st) t∧t { nx := λ_ H' => Q .non H', rt := λv H' => ∃c, v=.ref c∧E (.ref c) none H' } (start N vs) H) : bY P w K mg base (kE P w) (k+1) f fd ps sp := by
  obtain⟨oc, od, kV, doc, pm, an, cdv, ct, osl, rfl, lk, hcd⟩ := F.ex
  refine Jf lk hcd S len λA outer s H vs Q E hr hsp => ?_
  obtain⟨t, h, q⟩ := hbody cdv A outer s H vs Q E hr hsp
  exact⟨_, h.pss, q⟩
end
end L2
namespace Ts
open PySem L2
structure Ek(cx : Fin 4→Addr) where
  k : Fin 4
section
variable{P : Program}{w : World}{mg : Str→Option Value}{base : Heap}{K : afh}{B : Bs}{sl : List (Slot K)}{md : Md}{t te : TE}{al : Bool}{u tt : TS}{cx : Fin 4→Addr}{S : Type}{L : S→List (Slot K)}
instance : Rp K (Ek cx) := ⟨λ_ v e => v=.ref (cx e.k), λ_ h => h⟩
def ZK(K : afh)(cx : Fin 4→Addr){A : Type}(as : A→List (Slot K))(f : A→Option (Out Unit (Ek cx))) : Sp := λvs H Q E => ∃(a : A)(o : Out Unit (Ek cx))(Fa : Hp), Same Fa H∧f a=some o∧Ar Fa (as a) vs∧(match o with
  |.nx _ => ∀H', Same H H'→Q .non H'
  |.rt e => ∀H', Same H H'→E (.ref (cx e.k)) none H')
noncomputable def Ej(B : Bs)(sl : List (Slot K))(t : TJ)(n : Nat)(m : Option Unit) : Prop := m=some ()→∀out : Str, out.length+n≤100000→∀(F : Hp)(O : Own)(H : Hp)(σ : St)(Q : VK), At B sl F O H σ→(∀z F' H', dU B F H O F' H'→Q (.str z) H')→t out σ H Q
section
variable{tj : TJ}{n : Nat}{m2 : Option Unit}
theorem Hl{out z : Str}{k n : Nat}(h : out.length+(n+k)≤100000)(hz : z.length≤k) : (out++z).length+n≤100000∧(out++z).length≤sizeLine := by
  rw[lU]
  exact⟨by omega, afl (show out.length+z.length≤100000 by omega) (by decide)⟩
theorem rY : Ej B sl adp 0 (some ()) := λ_ out _ F O H σ Q z k => k _ F H (.refl z.1)
theorem jR(a : Str)(h : Ej B sl tj n m2) : Ej B sl (adq a tj) (n+a.length) m2 := λe out hl F O H σ Q z k => by
  obtain⟨h1, h2⟩ := Hl (z := a) hl (afj _)
  exact⟨h2, h e _ h1 F O H σ Q z k⟩
noncomputable def mK(i : Int)(m : Option Unit) : Option Unit := if i.natAbs.log2<1920 then m else none
noncomputable def pW(x : Str)(m : Option Unit) : Option Unit := if x.length≤1000 then m else none
noncomputable def Lh(x : Mx)(m : Option Unit) : Option Unit := match x with
  |.mi i => mK i m
  |.ms x => pW (reprText x) m
  |_ => m
theorem vK{m : Option Int}(h1 : Ex B sl .hp te m)(h : Ej B sl tj n m2) : Ej B sl (abd te tj) (n+2000) (m.bind λi => mK i m2) := λe out hl F O H σ Q z k => by
  cases m with
  |none => cases e
  |some i =>
    have e : mK i m2=some () := e
    unfold mK at e
    split at e
    case isFalse => cases e
    rename_i hd
    refine h1 i rfl F O H σ _ z λv F' H' g r => ?_
    have r : v=.int i := r
    obtain⟨l1, l2⟩ := Hl (z := agr (toString i)) hl (by have := PyProof.Rows.int_text_len_1921 hd;omega)
    exact⟨_, .inl ⟨i, r, hd, rfl⟩, l2, h e _ l1 F' O H' σ Q (z.grow g) λz F2 H2 g2 => k z F2 H2 (g.trans g2)⟩
theorem Li{m : Option Str}(h1 : Ex B sl .hp te m)(h : Ej B sl tj n m2) : Ej B sl (abd te tj) (n+1000) (m.bind λx => pW x m2) := λe out hl F O H σ Q z k => by
  cases m with
  |none => cases e
  |some i =>
    have e : pW i m2=some () := e
    unfold pW at e
    split at e
    case isFalse => cases e
    rename_i hd
    refine h1 i rfl F O H σ _ z λv F' H' g r => ?_
    have r : v=.str i := r
    obtain⟨l1, l2⟩ := Hl (z := i) hl hd
    exact⟨_, .inr ⟨r, hd⟩, l2, h e _ l1 F' O H' σ Q (z.grow g) λz F2 H2 g2 => k z F2 H2 (g.trans g2)⟩
theorem U5{m : Option Mx}(h1 : Ex B sl .hp te m)(h : Ej B sl tj n m2) : Ej B sl (abe te tj) (n+2000) (m.bind λx => Lh x m2) := λe out hl F O H σ Q z k => by
  cases m with
  |none => cases e
  |some x =>
    have e : Lh x m2=some () := e
    refine h1 x rfl F O H σ _ z λv F' H' g r => ?_
    have r : v=x.v := r
    have go : ∀y : Str, y.length≤2000→U3 v y→m2=some ()→∃z, U3 v z∧(out++z).length≤sizeLine∧tj (out++z) σ H' Q := λy hy ry e2 => by
      obtain⟨l1, l2⟩ := Hl (z := y) hl hy
      exact⟨y, ry, l2, h e2 _ l1 F' O H' σ Q (z.grow g) λz F2 H2 g2 => k z F2 H2 (g.trans g2)⟩
    cases x with
    |mi i =>
      have e : mK i m2=some () := e
      unfold mK at e
      split at e
      case isFalse => cases e
      rename_i hd
      exact go _ (by have := PyProof.Rows.int_text_len_1921 hd;omega) (.inl ⟨i, r, hd, rfl⟩) e
    |ms y =>
      have e : pW (reprText y) m2=some () := e
      unfold pW at e
      split at e
      case isFalse => cases e
      rename_i hd
      exact go _ (by omega) (.inr (.inl ⟨y, r, rfl, hd⟩)) e
    |mb c => exact go _ (by cases c<;>decide) (.inr (.inr (.inl ⟨c, r, rfl⟩))) e
    |mn => exact go _ (by decide) (.inr (.inr (.inr ⟨r, rfl⟩))) e
end
theorem U6{m : Option Unit}{C : Addr}(i : Fin 4)(hC : C=cx i){tj : TJ}{n : Nat}(h : Ej B sl tj n m)(hn : n≤100000 := by decide) : Sx B sl (jD (wZ C (cD (tJ tj) fu)) u) al L (m.bind λ_ => some (Out.rt (Ek.mk i : Ek cx))) := λb hb G D σ H s k => by
  cases m with
  |none => cases hb
  |some a =>
    cases hb
    obtain⟨F, O, g, z⟩ := s
    refine h rfl ag8 (by show 0+n≤_;omega) F O H σ _ z λz F' H' gr => ⟨(by show 1≤sizeLine;decide), k (.ref C) H' ⟨gr.ok.h0, ?_⟩⟩
    subst hC
    rfl
noncomputable def w5{S β : Type}(r : Out Unit β)(m : Option (Out S β)) : Option (Out S β) := match r with
  |.nx _ => m
  |.rt e => some (.rt e)
theorem pX{A : Type}{as : A→List (Slot K)}{f : A→Option (Out Unit (Ek cx))}{ta : TA}{ma : Option A}{m : Option (Out S (Ek cx))}(h : Ea B sl .hp ta as ma)(h2 : Sx B sl u al L m) : Sx B sl (jD (Lg (ZK K cx as f) ta) u) al L ((ma.bind f).bind λr => w5 r m) := λb hb G D σ H s k => by
  cases ma with
  |none => cases hb
  |some a =>
    cases hf : f a with
    |none => rw[show(some a).bind f=f a from rfl, hf] at hb;cases hb
    |some r =>
      rw[show(some a).bind f=f a from rfl, hf] at hb
      have hb : w5 r m=some b := hb
      obtain⟨F, O, g, z⟩ := s
      refine h a rfl F O H σ _ z λvs F' H' gr ra => ?_
      rw[append_nil]
      refine⟨a, r, H', .refl _, hf, ra, ?_⟩
      cases r with
      |nx c => exactλH2 s2 => h2 b hb G D σ H2 ⟨_, O, g.trans (gr.ff.trans (gr.ok.called s2).ff), (z.grow gr).grow (gr.ok.called s2)⟩ k
      |rt e =>
        cases hb
        exactλH2 s2 => ⟨_, rfl, k _ H2 ⟨gr.ok.h0.trans s2, rfl⟩⟩
theorem w6{x qual : Str}{st : Stmt}{f : Addr}{fd : FuncData}{N ps : List Str}{k : Nat}{A : Type}{as : A→List (Slot K)}{fM : A→Option (Out Unit (Ek cx))}(F : gn K x qual st f fd)(S : bf N ps (aH st))(hf : ∀a, (as a).all isF=true)(hl : ∀a, (as a).length=ps.length)(hb : ∀(cdv : Value) (A : Around) (outer : List Env) (s : Shared) (H : Hp) (E : XK), f9 k (A.deeper (agp qual (aH st) s.heap.objs.size f cdv)) →
      ∃t, zT (nJ (kE P w) P w K mg base N qual (aH st) f cdv A outer s H E) E (dB st) t∧∀Fa a, ∃(L : Unit→List (Slot K)) (al : Bool), Sx ⟨Fa, H⟩ (as a++replicate (N.length-ps.length) .un) t al L (fM a)) :
    bY P w K mg base (kE P w) (k+1) f fd ps (ZK K cx as fM) :=
  F.okM S (λvs H Q E ⟨a, o, Fa, _, _, r, _⟩ => by rw[r.len, hl]) λcdv A outer s H vs Q E hr h => by
    obtain⟨a, o, Fa, sf, hfa, r, q⟩ := h
    obtain⟨t, p, z⟩ := hb cdv A outer s H E hr
    refine⟨t, p, ?_⟩
    obtain⟨L, al, z⟩ := z Fa a
    have e : L2.start N vs=vs.map some++replicate (N.length-ps.length) none := by
      unfold L2.start
      rw[r.len, hl]
    rw[e]
    refine z o hfa Fa _ _ H ⟨Fa, [], .refl _, ⟨sf, .refl _, λb o h => .inl h, λx hx => (by cases hx), (by simp)⟩, oR _ (hf a) r⟩ ?_
    cases o with
    |nx c => exactλσ' H' ⟨F', O', g, a'⟩ => q H' a'.1.h0
    |rt e => exactλv H' z => ⟨_, z.2, q H' z.1⟩
end
end Ts
namespace L2
open PySem PySem.Spec PyProof.Rows
section
variable{X : Cx}{cx : Fin 4→Addr}{e0 : Expr}{te : XK→TE}{epos pos : Pos}
def Arr(X : Cx)(pins : List (Addr×Obj))(R : Value→Hp→Prop)(e : Value)(s' : Shared) : Prop := ∃a T C σ' H', e=.ref a∧Inv X pins σ' H' s'∧Apart X pins H' a∧Apart X pins H' T∧Trc s'.heap a T C∧R C H'
theorem U7{pins : List (Addr×Obj)}{σ : St}{H : Hp}{s : Shared}{R : Value→Hp→Prop}{N : St→Hp→Prop}(hx : X.ex=[])(hb : ∀pins xe E, Passes (kE X.prog X.w) (X.tried pins xe) E→PE (X.tried pins xe) e0 (te E))(I : Inv X pins σ H s)(h : te (λB _ H' => R B H') σ H λ_ H1 => N σ H1)(hs : swapsWith e0 none epos.line X.env=pure false) :
    wpAny (model X.prog X.w) X.A (execs [.Expr e0 epos] X.env) (λf s1 => f=.next∧∃σ1 H1, Inv X pins σ1 H1 s1∧N σ1 H1) (Arr X pins R) s := by
  have hok := I.ok
  have z := jG (cP (X := X.tried pins (Arr X pins R)) (pos := epos) (hb pins (Arr X pins R) (λB _ H' => R B H') λUy σ2 H2 s2 e2 s3 I2 q => by
    obtain⟨a, T, B, H', rfl, h1, h2, h3, h4, h5, h6, h7, h8, h9, w⟩ := q
    have I3 := I2.call' h1 h3 h4 h2 (λb z => absurd z (by simp))
    have ap : ∀b, s2.heap.get? b=none→H' b=none→Apart X pins H' b := λb f n => by
      refine⟨⟨I2.Hi hx f, n⟩, λz => ?_, λq hq z => ?_⟩
      · obtain⟨m, ⟨o, _, _, ho, _⟩, _⟩ := I2.loc
        rw[← z] at ho
        rw[f] at ho;cases ho
      · have := (I2.pin q (mem_append_left _ hq)).1
        rw[z, f] at this;cases this
    exact⟨a, T, B, σ2, H', rfl, I3.Oj hok, ap a h5 h7, ap T h6 h8, h9, w⟩) hs) [] s σ H { nx := N, rt := λ_ _ => False } (I.tried _) h
  refine agc z (λfl s1 q => ?_) λ_ _ q => q
  cases fl with
  |next => obtain⟨σ1, H1, I1, z⟩ := q;exact⟨rfl, σ1, H1, I1.Oj hok, z⟩
  |ret u => obtain⟨_, _, _, _, _, z⟩ := q;exact af4 z
  |brk => obtain⟨_, _, _, z⟩ := q;exact af4 z
  |cont => obtain⟨_, _, _, z⟩ := q;exact af4 z
theorem U8{pins : List (Addr×Obj)}{σ1 : St}{H1 : Hp}{s1 : Shared}{a T : Addr}{C : Value}{hs : List ExceptHandler}{Q : Flow→Shared→Prop}(hx : X.ex=[])(hcl : X.env.cells=[])(hst : X.stack=X.env::X.outer)(hf : X.env.frame=some X.env.locals)(I1 : Inv X pins σ1 H1 s1)(apA : Apart X pins H1 a)(apT : Apart X pins H1 T)(tr : Trc s1.heap a T C)(k : ∀g5, Inv X pins σ1 H1 { s1 with heap := g5 }→PySem.W.Looks (model X.prog X.w) g5 (typeOf (.ref a)) C→(∀(A' : Around) (E' : Value→Shared→Prop) (Q' : Unit→Shared→Prop), (∀g6, Inv X pins σ1 H1 { s1 with heap := g6 }→(∃ob, g6.get? a=some ob∧ob.cls=C)→Q' () { s1 with heap := g6 })→wpAny (model X.prog X.w) A' (setFlight (.ref a) none) Q' E' { s1 with heap := g5 }) →
      wpAny (model X.prog X.w) X.A (handleBy (.ref a) X.env hs) Q X.xe { s1 with heap := g5 }) :
    wpAny (model X.prog X.w) X.A (noteFrame (.ref a) X.env) (λ_ s₂ => wpAny (model X.prog X.w) X.A (setFlight (.ref a) none) (λ_ s₃ => wpAny (model X.prog X.w) X.A (handleBy (.ref a) X.env hs) Q X.xe s₃) X.xe s₂) X.xe s1 := by
  obtain⟨a0, oe, vs, oT, ts, z1, z2, z3, z4, z5, z6, z7, z8⟩ := tr
  have hfl : X.env.locals∈frs X.stack := by
    rw[hst]
    exact mem_filterMap.mpr ⟨X.env, .head _, hf⟩
  have hin : ∀env∈(X.env::X.outer), ∀b, env.frame=some b→b∈a::T::frs X.stack := λenv z b e => by
    rw[hst]
    exact .tail _ (.tail _ (mem_filterMap.mpr ⟨env, z, e⟩))
  have stk := I1.stack
  have fr : ∀b∈frs X.stack, ∃o, s1.heap.get? b=some o∧∀vs, o.data≠.fields vs := λb z => (stk.mem z).2
  have turn : ∀(g : Heap), (ahx s1.heap (a::T::frs X.stack)).StaysIn g→s1.heap.UpToSlots g→Inv X pins σ1 H1 { s1 with heap := g } := λg st up =>
    I1.caught (t' := s1.toks) hx hcl hfl (bad := [a, T]) (λb z => by
      rcases mem_cons.mp z with e|z
      · rw[e];exact apA
      · rw[mem_singleton.mp z];exact apT) (λb o q n1 n2 => st b o (ag5 _ q λz => by
      rcases mem_cons.mp z with e|z
      · exact n2 (by rw[e];exact .head _)
      rcases mem_cons.mp z with e|z
      · exact n2 (by rw[e];exact .tail _ (.head _))
      · exact n1 z)) (λb o q z => by
      obtain⟨o2, e2, nd⟩ := fr b z
      rw[q] at e2;cases e2
      exact up b o q nd)
  refine wpAny_looks_onW (base := ahx s1.heap (a::T::frs X.stack)) (by rw[I1.ok.frames, hst]) hf ⟨λb o q => ahy _ q, ahc _ (.head _), ah4 (by rw[← hst];exact stk) hin, oe, vs, T, oT, ts, z1, z2, z3, z4, ahc _ (.tail _ (.head _)), z5, z6, z7, z8⟩ λg4 hd4 up4 => ?_
  refine wpAny_landsW hd4 λg5 fl5 up5 => ?_
  have up5 := up4.trans up5
  have I5 := turn g5 fl5.1 up5
  have ty : PySem.W.Looks (model X.prog X.w) g5 (typeOf (.ref a)) C := by
    obtain⟨ob, hob, hc⟩ := fl5.there
    subst hc
    exact(PySem.W.Looks.ld hob).andThen .now
  exact k g5 I5 ty λA' E' Q' q => lands_againW fl5 λg6 fl6 up6 => q g6 (turn g6 fl6.1 (up5.trans up6)) fl6.there
def U9(cx : Fin 4→Addr)(i : Nat)(te : XK→TE)(th : Fin 4→TS) : TS := λD σ H => te (λB _ H' => ∃k : Fin 4, B=.ref (cx k)∧∀(a : Addr)(σ' : St), H' a=none→σ'.length=σ.length→th k { nx := λ_ _ => False, rt := D.rt } (σ'.set i (some (.ref a))) (upd H' a (Qw a (.ref (cx k))))) σ H λ_ H1 => D.nx σ H1
theorem Ol{c : Value}{i : Nat}{x n : Str}{np hpos : Pos}{b₀ : Stmt}{suite : List Stmt}{th : Fin 4→TS}(hb : ∀pins xe E, Passes (kE X.prog X.w) (X.tried pins xe) E→PE (X.tried pins xe) e0 (te E))(hgx : Gl X x)(hmx : X.mg x=some c)(hex : ∀k, aio X.K (.ref (cx k)) c=some true)(hN : X.N.Nodup)(hi : X.N[i]?=some n)(hln : X.env.scope.names.lookup n=some .local)(hx : X.ex=[])(hcl : X.env.cells=[])(hst : X.stack=X.env::X.outer)(hf : X.env.frame=some X.env.locals)(hsu : ∀k a, xY (X.held a) (b₀::suite) (th k))(hdx : (x==("__debug__" : Str))=false := by decide)(hs : swapsWith e0 none epos.line X.env=pure false := by rfl) :
    PS X (.Try [.Expr e0 epos] [.ExceptHandler (some (.Name x np)) (some n) (b₀::suite) hpos] [] [] pos) (U9 cx i te th) := by
  intro pins s σ H D I h
  have hok := I.ok
  refine wpAny_Try_except (agc (U7 hx hb I (N := D.nx) h hs) (λfl s1 q => ?_) λe1 s1 q => ?_)
  · obtain⟨rfl, σ1, H1, I1, q⟩ := q
    exact ahj ⟨σ1, H1, I1, q⟩
  · obtain⟨a, T, C, σ1, H1, rfl, I1, apA, apT, tr, k, rfl, w⟩ := q
    refine U8 hx hcl hst hf I1 apA apT tr λg5 I5 ty go => ?_
    refine wpAny_handleBy_cons (codeAny_handlers_test (wG (X := X.held a) (I5.held a) hgx hmx ?_ hdx)) (by intro q;cases q)
    refine(PySem.W.exm_one I5.za ty (hex k)).here ?_
    refine codeAny_handlers_suite_as (go _ _ _ λg6 I6 there => ?_)
    have I6 := I6.track (o := Qw a (.ref (cx k))) hx hcl apA ⟨there, (let⟨ob, hob, _⟩ := there;⟨ob, hob⟩), λh1 h2 ⟨ob, q1, q2⟩ k => ⟨ob, k _ q1, q2⟩⟩
    refine Ay (X := X.held a) (v := V.ref a) (I6.held a) hN hi (.inl hln) rfl (λs7 I7 => ?_) (.inr hln)
    refine agc (hsu k a pins s7 _ _ { nx := λ_ _ => False, rt := D.rt } I7 (w a σ1 apA.1.2 (by rw[I1.len, I.len]))) (λfl s8 q => ?_) (λ_ _ z => z.elim)
    cases fl with
    |next => obtain⟨_, _, _, z⟩ := q;exact af4 z
    |brk => obtain⟨_, _, _, z⟩ := q;exact af4 z
    |cont => obtain⟨_, _, _, z⟩ := q;exact af4 z
    |ret u =>
      obtain⟨v, σ8, H8, I8, r8, q8⟩ := q
      obtain⟨m, hn, _⟩ := I8.loc
      exact wpAny_nameGoes hln hn (by rw[hok.kind];rfl) λh' m' hn' sb => ⟨v, _, H8, (I8.aa7 hok).forget hn' sb hcl, r8, q8⟩
end
end L2
namespace Ts
open PySem L2
open PySem.SeqAt (EqAt RcAt RcNeAt)
section
variable{P : Program}{w : World}{mg : Str→Option Value}{base : Heap}{K : afh}{B : Bs}{sl : List (Slot K)}{md : Md}{t te : TE}{al : Bool}{u tt : TS}{cx : Fin 4→Addr}{S : Type}{L : S→List (Slot K)}{tj : TJ}{n : Nat}{m2 : Option Unit}
theorem adt{m : Option Str}(h : Ex B sl md t m) : Ex B sl md t (m.bind λa => some (Mx.ms a)) := ZG (λ{F v a b} e r => by cases e;exact r) h
noncomputable def Yn(x : Str)(m : Option Unit) : Option Unit := pW (reprText x) m
theorem Om{m : Option Str}(h1 : Ex B sl .hp te m)(h : Ej B sl tj n m2) : Ej B sl (abe te tj) (n+2000) (m.bind λx => Yn x m2) := λe => by
  have z := U5 (adt h1) h
  cases m with
  |none => cases e
  |some x => exact z e
theorem nG{m : Option Unit}{C : Addr}(i : Fin 4)(hC : C=cx i)(h : Ej B sl tj n m)(hn : n≤100000 := by decide) : SB B sl (jD (wZ C (cD (tJ tj) fu)) u) al (m.bind λ_ => some (Ek.mk i : Ek cx)) := λb hb G D σ H s k => by
  cases m with
  |none => cases hb
  |some a =>
    cases hb
    exact U6 (S := Unit) (L := λ_ => []) i hC h hn _ rfl G D σ H s k
structure m9(P : Program)(w : World)(K : afh)(mg : Str→Option Value)(base : Heap)(k : Nat)(x : Str)(ps : List Str)(sp : Sp) : Prop where
  ex : ∃f fd, bY P w K mg base (kE P w) k f fd ps sp∧Binds K fd ps []∧agw K (.ref f)=true∧mg x=some (.ref f)
theorem m9.mono{j k : Nat}{x : Str}{ps : List Str}{sp : Sp}(c : m9 P w K mg base j x ps sp)(h : j≤k) : m9 P w K mg base k x ps sp := by
  obtain⟨f, fd, h1, h2⟩ := c.ex
  exact⟨f, fd, h1.mono h, h2⟩
structure Ho(K : afh)(mg : Str→Option Value)(cx : Fin 4→Addr) : Prop where
  m0 : mg "NoStand" = some (.ref (cx 0))
  m1 : mg "NoStep" = some (.ref (cx 1))
  m2 : mg "NoMark" = some (.ref (cx 2))
  m3 : mg "NoText" = some (.ref (cx 3))
  o : ∀i, aa5 K (cx i)
end
section
variable{X : Cx}{E : XK}
theorem ux{k : Nat}{x : Str}{ps : List Str}{sp : Sp}{e : Expr}{es : List Expr}{t : TA}{p cpos pos : Pos}(c : m9 X.prog X.w X.K X.mg X.base k x ps sp)(hr : f9 k X.A)(hx : Passes (kE X.prog X.w) X E)(ha : PA X (e::es) t)(hg : Gl X x := by rfl)(hdb : (x==("__debug__" : Str))=false := by decide)(he : starEach (e::es) X.env=(false, eval e X.env)::starEach es X.env := by rfl)(hpl : (backTo cpos (starEach es X.env)).any (·.1)=false := by rfl)(hs : swapsWith (.Call (.Name x p) (e::es) [] cpos) none pos.line X.env=pure false := by rfl) : Qx X E (.Expr (.Call (.Name x p) (e::es) [] cpos) pos) (Lg sp t) := by
  obtain⟨f, fd, h1, h2, h3, h4⟩ := c.ex
  exact U4 h1 hr hg h4 h3 h2 hx ha hdb he hpl hs
end
end Ts
namespace L2
open PySem PyProof.Rows
section
variable{X : Cx}
def ZL : V→List V→Hp→VK→Prop := λx vs H Q => ∃(z y : Str), x=.str z∧vs=[.str y]∧(y.length==0)=false∧z.length≤sizeLine∧∀l, H l=none→Q (.ref l) (upd H l (.tup [.str (af0 z y).1, .str (af0 z y).2.1, .str (af0 z y).2.2]))
theorem Yo{P : Program}{w : World}{A : Around}{E : Value→Shared→Prop}{s : Shared}{x y : Str}{t u : Tok}{Q : Value→Shared→Prop}(hy : (y.length==0)=false)(hx : x.length≤sizeLine)(h : ∀(ta tb tc : Tok) (k : Nat), Q (.ref s.heap.objs.size) { s with heap := s.heap.push { cls := .type "tuple", data := .seq [.str (af0 x y).1 ta, .str (af0 x y).2.1 tb, .str (af0 x y).2.2 tc].toArray }, toks := k }) : wpAny (model P w) A (call (.builtin "str.partition") [.str x t, .str y u]) Q E s := by
  refine agy F.slot_str_partition (ahz _ _ _) F.entry_str_partition (F.args_str_partition_2 _ _) (meets_str_partition x y t u hy hx) ?_
  have h' := h
  unfold af0 at h'
  revert h'
  cases aga x y 0 x.length 1 with
  |nil => intro h';exact h' _ _ _ _
  |cons i r => intro h';exact h' _ _ _ _
theorem Hq : Qh X "str.partition" ZL := by
  intro pins s σ H x vs v us Q I rx rv h
  obtain⟨z, y, rfl, rfl, ne, hz, q⟩ := h
  obtain⟨t, rfl⟩ := rx
  obtain⟨u, rfl, ru⟩ := rv.one
  obtain⟨t', rfl⟩ := ru
  refine Yo ne hz λta tb tc k => ?_
  have hf : H s.heap.objs.size=none := I.hok.fresh (afj _)
  refine⟨.ref s.heap.objs.size, _, I.laid (t' := k) (o := .tup [.str (af0 z y).1, .str (af0 z y).2.1, .str (af0 z y).2.2]) (λb u e => get?_push_of_some _ e) (afj _) ?_, rfl, q _ hf⟩
  exact⟨by show 3≤sizeLine;decide, _, .cons ⟨_, rfl⟩ (.cons ⟨_, rfl⟩ (.cons ⟨_, rfl⟩ .nil)), IsTup.new _ _⟩
end
end L2
namespace Ts
open PySem L2
noncomputable def Jz(x y : Str) : Option (Qt Str Str Str) := if x.length<cap then some ⟨(af0 x y).1, (af0 x y).2.1, (af0 x y).2.2⟩ else none
section
variable{K : afh}{B : Bs}{sl : List (Slot K)}{md : Md}{te : TE}
theorem Yp{m : Option Str}(y : Str)(ne : (y.length==0)=false)(h : Ex B sl .hp te m) : Ex B sl md (W4 K "str" ZL te (cD (tC (.str y)) fu)) (m.bind λx => Jz x y) := λc hc F O H σ Q s k => by
  cases m with
  |none => cases hc
  |some x =>
    have hc : Jz x y=some c := hc
    unfold Jz at hc
    split at hc
    case isFalse => cases hc
    rename_i hl
    cases hc
    refine h x rfl F O H σ _ s λv F' H' g r => ?_
    have r : v=.str x := r
    subst r
    refine⟨rfl, x, y, rfl, rfl, ne, af6 (k_ hl), λl hl => ?_⟩
    have g2 := dU.new g.ok hl (.tup [.str (af0 x y).1, .str (af0 x y).2.1, .str (af0 x y).2.2])
    exact k _ _ _ (g.trans g2) ⟨l, _, _, _, rfl, mW g.ok hl md, rfl, rfl, rfl⟩
noncomputable def vP{α : Type}(xs : List α)(i : Int) : Option (List α) := if 0≤i∧i<(xs.length : Int)∧i<2^63 then some (xs.eraseIdx i.toNat) else none
theorem A2.erase{α β : Type}{R : α→β→Prop} : ∀{xs : List α}{ys : List β}, A2 R xs ys→∀k : Nat, A2 R (xs.eraseIdx k) (ys.eraseIdx k)
  |[], [], _, _ => trivial
  |_::_, _::_, h, 0 => h.2
  |_::_, _::_, h, k+1 => ⟨h.1, A2.erase h.2 k⟩
  |[], _::_, h, _ => h.elim
  |_::_, [], h, _ => h.elim
theorem U_{α : Type}[Rp K α]{ti : TE}{n : Bool}{xs : List α}{mi : Option Int}(i : Nat)(hs : sl[i]?=some (.ow n xs))(hh : sl.all (λs => !jm s)=true)(hi : Ex B sl .hp ti mi) :
    Sn B sl (uK (W4 K "list" S5 (mU i) (cD ti fu))) (λys => sl.set i (.ow n ys)) (mi.bind λj => vP xs j) := λys ha G D σ H s k => by
  cases mi with
  |none => cases ha
  |some j =>
    have hf : vP xs j=some ys := ha
    unfold vP at hf
    split at hf
    case isFalse => cases hf
    rename_i hb
    cases hf
    obtain⟨F, O, g, z⟩ := s
    obtain⟨p, vs, h1, h2, h3, _⟩ := z.chg hs hh
    refine⟨_, h1, .inl ⟨rfl, _, gj.of h2⟩, ?_⟩
    refine hi j rfl F O H σ _ z λv0 F0 H0 g0 r0 => ?_
    obtain⟨p', vs', h1', h2', h3', h4'⟩ := (z.grow g0).chg hs hh
    cases h1.symm.trans h1'
    have r0 : v0=.int j := r0
    subst r0
    have hl : j.toNat<vs'.length := by rw[h3'.len];omega
    obtain⟨O', z'⟩ := h4' (vs'.eraseIdx j.toNat) (xs.eraseIdx j.toNat) (h3'.erase j.toNat)
    refine⟨p, vs', j, j.toNat, _, rfl, rfl, h2', by omega, hb.2.2, ?_, afi hl, k _ _ ⟨F0, O', g.trans g0.ff, z'⟩⟩
    rw[ajd hb.1 (by rw[h3'.len];exact hb.2.1)]
end
end Ts
namespace L2
open PySem
section
variable{prog : Program}{w : World}{A : Around}{R : Result→Shared→Prop}{s : Shared}
theorem Ds(I : Nat→Shared→Prop)(turn : ∀n s, I n s→wpAny (model prog w) A (pyNext it) (λr s₁ => match r with
      |none => R (.ok .next) s₁
      |some v => wpAny (model prog w) A (letOwnedTupleGo target it v) (λ_ s₂ => wpAny (model prog w) A (assign target env v) (λ_ s₃ =>
          wpAny (model prog w) A (forIn ifs true λc r => if r=true then do let ok ← isTrue c env (eval c env);pure (ag3 ok) else pure (ag3 r)) (λok s₄ =>
            if ok=true then wpAny (model prog w) A (eval elt env) (λx s₅ =>
              wpAny (model prog w) A (call (.builtin "list.append") [acc, x]) (λ_ s₆ => ∃m, m<n∧I m s₆) (λ_ _ => False) s₅) (notedBy (model prog w) A env λe s' => R (.error e) s') s₄
            else∃m, m<n∧I m s₄) (λ_ _ => False) s₃) (λ_ _ => False) s₂) (λ_ _ => False) s₁) (λ_ _ => False) s)(n : Nat)(h : I n s) : codeAny (model prog w) A (.compLoop (.ListComp elt [⟨target, iter, ifs, 0⟩] scope pos) 0 it acc env) R s := by
  refine codeAny_loop rfl I (λn s hI => ?_) n h
  show wpAny _ A ((compTurn (.ListComp elt [⟨target, iter, ifs, 0⟩] scope pos) 0 it acc env).onRaise (λx => do noteFrame x env;theTreesLotGoes x)) _ _ s
  refine wpAny_noted ?_
  rw[compTurn_list]
  refine afk (aia (afk (dO (turn n s hI) λr s₁ h₁ => ?_)))
  cases r with
  |none => exact afw h₁
  |some v =>
    refine afk (dO h₁ λ_ s₂ h₂ => ?_)
    refine afk (dO h₂ λ_ s₃ h₃ => afk (dO h₃ λok s₄ h₄ => ?_))
    cases ok with
    |false => exact afw ⟨rfl, h₄⟩
    |true =>
      exact afk (afk (agc h₄ (λx s₅ h₅ => afk (dO h₅ λ_ s₆ h₆ => afw (afw ⟨rfl, h₆⟩))) λ_ _ z => z))
end
section
variable{X : Cx}{elt tg iter : Expr}{ifs : List Expr}{scope : Scope}{pos : Pos}{own : List Str}{ix : List Nat}{wi : TI}{g : TG}{tc : TT}{te : TE}
theorem zu{RR : Value→Addr→Result→Shared→Prop}(hx : X.xe=λ_ _ => False)(hc : X.calm=true)(sc : rH X.env.scope X.N scope ix)(I : Inv X pins σ H s)(T : Turn X.prog X.w X.K tg J fp it tn)(st : tn 0 s.heap)(fo : ∀b∈fp, uY X pins H b)(hg : ∀C s H fp, PG (dM X scope own ix C s H fp) tg g)(hif : ∀C s H fp, vg (dM X scope own ix C s H fp) ifs tc)(he : ∀D C, D=s.heap.objs.size→C=D+1→PE ((dM X scope own ix C s H fp).wish (notedBy (model X.prog X.w) X.A (dM X scope own ix C s H fp).env λe s' => RR (.ref D) C (.error e) s')) elt te)(rd : Nt own.length ix g tc te σ Q J H)(hRR : ∀acc C s', ac0 X pins σ Q acc C s'→RR acc C (.ok .next) s') :
    wpAny (model X.prog X.w) X.A (newList []) (λacc s₃ => wpAny (model X.prog X.w) X.A (newFunctionEnv scope X.env.globals (iV X.env scope.names []) [] X.env.qual none .none (some X.env)) (λcenv s₄ =>
      codeAny (model X.prog X.w) X.A (.compStart (.ListComp elt [⟨tg, iter, ifs, 0⟩] scope pos) 0 (.ref it) acc { cenv with scope := relabel scope X.env }) (RR acc cenv.locals) s₄) E s₃) E s := by
  refine wpAny_newObj_type (pI (λh₁ hns₁ hsb₁ co => ?_))
  dsimp only at hns₁ hsb₁ co ⊢
  generalize hD' : s.heap.objs.size=D at hns₁ hsb₁ co ⊢
  generalize hH2 : s.heap.push { cls := .type "list", dict := none, data := .seq ([] : List Value).toArray }=G at hns₁ hsb₁ co ⊢
  generalize hC' : G.objs.size=C at hns₁ hsb₁ co ⊢
  have hC : C=D+1 := by rw[← hC', ← hH2, size_push, hD']
  have hDC : D≠C := by rw[hC];exact afy (ah6 _)
  have hle : s.heap.objs.size≤C := by rw[hC, hD'];exact ahn _
  have old : ∀b o, s.heap.get? b=some o→h₁.get? b=some o := λb o e => by
    exact hsb₁ b o (hH2▸get?_push_of_some _ e)
  have oD : h₁.get? D=some { cls := .type "list", data := .seq ([] : List Value).toArray 0 } := by
    refine hsb₁ D _ ?_
    rw[← hH2, ← hD']
    exact get?_push_size _ rfl
  have Zq : ∀b∈fp, b<s.heap.objs.size := λb hb => by
    obtain⟨o, e, _⟩ := T.obj 0 _ st b hb
    exact lt_size e
  have nDf : ∀b∈fp, b≠D := λb hb => by rw[← hD'];exact afy (Zq b hb)
  have sD : s.heap.get? D=none := by
    cases e : s.heap.get? D with
    |none => rfl
    |some o => exact absurd (lt_size e) (by rw[hD'];exact af3 _)
  have hDn : H D=none := I.hok.fresh (by rw[hD'];exact afj _)
  have I0 : Inv (dM X scope own ix C s H fp) [] (vf σ own.length ix) H { s with heap := h₁ } := I.comp sc fo Zq hle hns₁ old co
  have st0 : tn 0 h₁ := T.keep 0 _ _ st λb _ o e => old b o e
  have hx' : (dM X scope own ix C s H fp).xe=λ_ _ => False := hx
  have adu : D≠(dM X scope own ix C s H fp).env.locals := hDC
  have Dex : D∈(dM X scope own ix C s H fp).ex∨(dM X scope own ix C s H fp).s₀.heap.objs.size≤D := .inr (by show s.heap.objs.size≤D;rw[hD'];exact afj _)
  have Dfs : D∉(dM X scope own ix C s H fp).fs := I0.Py (a := D) |> λk => λz => by
    have z' : D∈frs X.stack := z
    rcases mem_cons.mp (I.rz D z') with q|q
    · exact absurd (q▸I.lt) (by rw[hD'];exact af3 _)
    · exact I.Py (by rw[hD'];exact afj _) q
  have Tc : ∀x c, (dM X scope own ix C s H fp).env.cells.lookup x=some c→c≠D := λx c e z => by
    rcases jy I sc e with q|q
    · have w1 := (co.empty _ _ q).2
      rw[z, hC] at w1
      omega
    · obtain⟨v, q⟩ := I.cell x c q
      exact absurd (afq q.lt (by rw[z, hD'];exact afj _)) (af3 _)
  have fo' : ∀{H' : Hp}{pl : List (Addr×Obj)}, (∀b∈fp, H' b=none)→(∀p∈pl, p.1=D)→∀b∈fp, uY (dM X scope own ix C s H fp) pl H' b := λ{H' pl} hn hp b hb => by
    obtain⟨f0, f1, f2, f3, f4, f5⟩ := fo b hb
    refine⟨hn b hb, (I0.ok.Zc b hb).1, I0.ok.Iz b hb, .inl hb, (I0.ok.Zc b hb).2, λp hp' z => ?_⟩
    rcases mem_append.mp hp' with q|q
    · exact absurd (show p∈([] : List (Addr×Obj)) from q) (by simp)
    · exact nDf b hb (by rw[← z];exact hp p q)
  obtain⟨W, ⟨m0, w0⟩, step⟩ := rd
  have loop : codeAny (model X.prog X.w) X.A (.compLoop (.ListComp elt [⟨tg, iter, ifs, 0⟩] scope pos) 0 (.ref it) (.ref D) (dM X scope own ix C s H fp).env) (RR (.ref D) C) { s with heap := h₁ } := by
    refine Ds (λn s' => ∃i ys σ' H' its k, Inv (dM X scope own ix C s H fp) [] σ' H' s'∧tn i s'.heap∧(∀b∈fp, H' b=none)∧H' D=none∧s'.heap.get? D=some { cls := .type "list", data := .seq (toArray its) k }∧Vals ys its∧W i n ys σ' H') ?_ m0
      ⟨0, [], _, H, [], 0, I0, st0, λb hb => (fo b hb).1, hDn, oD, .nil, w0⟩
    rintro n s1 ⟨i, ys, σ1, H1, its, k, I1, tn1, fr1, D1, o1, rv1, w1⟩
    have J1 : Inv (dM X scope own ix C s H fp) [(D, { cls := .type "list", data := .seq (toArray its) k })] σ1 H1 s1 := I1.oO λp hp => by
      have e : p=(D, { cls := .type "list", data := .seq (toArray its) k }) := by simpa using hp
      subst e
      exact⟨o1, D1, adu, Dfs, λv z => by cases z⟩
    have single : ∀p∈[((D, { cls := .type "list", data := .seq (toArray its) k }) : Addr×Obj)], p.1=D := λp hp => by
      have e : p=(D, { cls := .type "list", data := .seq (toArray its) k }) := by simpa using hp
      rw[e]
    rcases step i n ys σ1 H1 w1 with⟨stop, hz, qn⟩|⟨go, hz, N, hN, stp⟩
    · refine dN (T.done (dM X scope own ix C s H fp) rfl rfl rfl hc i _ s1 σ1 H1 _ J1 (fo' fr1 single) tn1 stop) λr s2 ⟨hr, I2⟩ => ?_
      subst hr
      obtain⟨e2, _⟩ := I2.pin (D, { cls := .type "list", data := .seq (toArray its) k }) (mem_append_right _ (by simp))
      obtain⟨m2, aas, _⟩ := I2.loc
      refine hRR _ _ _ ⟨D, upd H1 D (.lst ys), rfl, ?_, ⟨m2, aas⟩, ?_, qn D D1⟩
      · refine I.call' (ch := fp) I2.os (Un.track I2.base sD hDn) (I2.hok.track D1 ⟨hz, its, k, rv1, e2⟩) I2.bare λb hb => ?_
        obtain⟨f0, f1, f2, f3, f4, f5⟩ := fo b hb
        exact⟨f3, f1, f4, f5⟩
      · refine I.I9 hle ?_
        rw[aP hDC.symm]
        exact I2.free
    · refine dN (T.item (dM X scope own ix C s H fp) rfl rfl rfl hc i _ s1 σ1 H1 _ J1 (fo' fr1 single) tn1 go) λr s2 ⟨u, hr, h2⟩ => ?_
      subst hr
      refine dN h2 λ_ s3 ⟨x, H3, I3, rx, y3, tn3, fr3⟩ => ?_
      have I3' := I3.pinned (fo' fr3 single) (T.obj _ _ tn3)
      refine thx hx' (hg C s H fp _ s3 σ1 H3 x u _ I3' rx (stp x H3 y3)) λ_ s4 ⟨σ4, H4, I4, q4⟩ => ?_
      refine thx hx' (hif C s H fp _ s4 σ4 H4 _ I4 q4) λb s5 ⟨H5, I5, q5⟩ => ?_
      have back : ∀{σ7 : St}{H7 : Hp}{s7 : Shared}, Inv (dM X scope own ix C s H fp) ([(D, { cls := .type "list", data := .seq (toArray its) k })]++uZ fp s3.heap) σ7 H7 s7 →
          tn (i+1) s7.heap∧(∀b∈fp, H7 b=none)∧H7 D=none∧s7.heap.get? D=some { cls := .type "list", data := .seq (toArray its) k } := λ{σ7 H7 s7} I7 => by
        have Td := I7.pin (D, { cls := .type "list", data := .seq (toArray its) k }) (mem_append_right _ (mem_append_left _ (by simp)))
        refine⟨T.keep _ _ _ tn3 λb hb o e => (I7.pin (b, o) (mem_append_right _ (mem_append_right _ (jk hb e)))).1, λb hb => ?_, Td.2.1, Td.1⟩
        obtain⟨o, e, d⟩ := T.obj _ _ tn3 b hb
        exact(I7.pin (b, o) (mem_append_right _ (mem_append_right _ (jk hb e)))).2.1
      cases b with
      |false =>
        obtain⟨m', hm, w'⟩ := hN _ _ _ (show N ys σ4 H5 from q5)
        obtain⟨b1, b2, b3, b4⟩ := back I5
        exact⟨m', hm, i+1, ys, σ4, H5, its, k, I5.oO (λp hp => absurd hp (by simp)), b1, b2, b3, b4, rv1, w'⟩
      |true =>
        rw[if_pos rfl]
        refine agc (he D C hD'.symm hC _ s5 σ4 H5 _ (I5.wish _) q5) (λv s6 ⟨y, H6, I6w, ry, q6⟩ => ?_) λ_ _ z => z
        have I6 := I6w.kY
        obtain⟨m', hm, w'⟩ := hN _ _ _ q6
        obtain⟨b1, b2, b3, b4⟩ := back I6
        have zl : its.length=ys.length := rv1.length.symm
        refine agy ain ⟨_, b4, rfl⟩ aie (aib _ _) (aix D its.toArray k v (by rw[size_toArray];omega)) ⟨b4, ?_⟩
        have q := PySem.IsL.update b4 (λxs => xs.push v)
        have keep : ∀b o, b≠D→s6.heap.get? b=some o→(s6.heap.update D (ah7 λxs => xs.push v)).get? b=some o := λb o hb e => (get?_update_other s6.heap _ (ahk hb)).trans e
        refine⟨m', hm, i+1, ys++[y], σ4, H6, its++[v], (if(its.toArray.push v).size==its.toArray.size then k else k+1), ?_, T.keep _ _ _ b1 (λb hb o e => keep b o (nDf b hb) e), b2, b3, ?_, rv1.append (.cons ry .nil), w'⟩
        · exact(I6.oO (Nf := []) λp hp => absurd hp (by simp)).turned (t' := s6.toks) keep b3 adu Dex Tc λp hp => absurd (show p∈([] : List (Addr×Obj)) from hp) (by simp)
        · rw[show(its++[v]).toArray=its.toArray.push v by simp]
          exact q
  exact codeAny_compStart_list loop (T.self X.A 0 _ _ _ st0 loop)
end
open PySem PySem.W PyProof.Rows PySem.Spec
section
variable{M : Model}{A : Around}{E : Value→Shared→Prop}{s : Shared}
theorem Dt{env env' : Env}(h : env.frame=env'.frame)(e : Value) : noteFrame e env=noteFrame e env' := by
  unfold noteFrame PySem.frameOf
  rw[h]
theorem Bx{base : Heap}{l : List Env}{e : Addr}{cls a0 fl : Value}{Q : Unit→Shared→Prop}(fr : Option Addr)(hkb : base.StaysIn s.heap)(hl : s.heap.FunFrames base l)(ht : s.heap.TracedAtW base e cls a0 fl)(h : ∀h', base.StaysIn h'→h'.FunFrames base l→h'.TracedAtW base e cls a0 (fr.elim ahh λf => rawInt f)→(∀b o, s.heap.get? b=some o→(∀vs, o.data≠.fields vs)→h'.get? b=some o)→Q () { s with heap := h' }) :
    wpAny M A (setFlight (.ref e) fr) Q E s := by
  obtain⟨oe, vs, T, oT, ts, he, hcls, hd, h1, hnT, hTe, hT, hdT, h3⟩ := ht
  have hsz3 : 3<ts.size := (ag9.mp h3).1
  have other : ∀b, b≠T→(s.heap.update T (Obj.mapFields (·.setIfInBounds 3 (fr.elim ahh λf => rawInt f)))).get? b=s.heap.get? b :=
    λb hb => get?_update_other _ _ (ahk hb)
  have noRecord : ∀b o, s.heap.get? b=some o→(∀vs, o.data≠.fields vs)→b≠T := λb o hb hnf q => by
    rw[q, hT] at hb;injection hb with hb;subst hb;exact hnf ts hdT
  unfold setFlight
  refine afk (aje he hd h1 ?_)
  rw[if_pos (show(agj T != ahh)=true from by simp)]
  refine wpAny_setField hT hdT hsz3 (h _ (λb o hbo => (other b λq => by rw[q, hnT] at hbo;cases hbo).trans (hkb b o hbo))
    (hl.of_keeps λb o hb hnf => ⟨o, (other b (noRecord b o hb hnf)).trans hb, rfl⟩) ?_ λb o hb hnf => (other b (noRecord b o hb hnf)).trans hb)
  exact⟨oe, vs, T, _, _, (other e (ahk hTe)).trans he, hcls, hd, h1, hnT, hTe, Heap.get?_update_self _ hT (Obj.isFreed_of_fields (Obj.data_mapFields hdT _)), Obj.data_mapFields hdT _, by simp[hsz3]⟩
theorem rZ{base : Heap}{env : Env}{outer : List Env}{L e : Addr}{cls a0 fl : Value}{Q : Unit→Shared→Prop}(hfr : A.frames=some (env::outer))(hl : s.heap.FunFrames base (env::outer))(hf : env.frame=some L)(ht : s.heap.TracedAtW base e cls a0 fl)(hkb : base.StaysIn s.heap)(hen : base.get? e=none)(h : ∀h', base.StaysIn h'→h'.FunFrames base (env::outer)→h'.TracedAtW base e cls a0 (rawInt L)→s.heap.UpToSlots h'→Q () { s with heap := h' }) : wpAny M A (noteFrame (.ref e) env) Q E s := by
  by_cases eq : (fl==rawInt L)=true
  · have eq := ajq eq
    subst eq
    exact wpAny_noteFrame_againW hf ht (h s.heap hkb hl ht λb o q _ => ⟨o.slots, q⟩)
  · obtain⟨oe, vs, T, oT, ts, he, ⟨hcls, h0⟩, hd, h1, hnT, hTe, hT, hdT, h3⟩ := ht
    subst hcls
    unfold noteFrame
    simp only[hf]
    refine afk (aje he hd h1 ?_)
    rw[if_pos (show(agj T != ahh)=true from by simp)]
    refine afk (aje hT hdT h3 ?_)
    rw[if_neg eq]
    refine afk (wpAny_setField hT hdT (ag9.mp h3).1 ?_)
    have other : ∀b, b≠T→(s.heap.update T (Obj.mapFields (·.setIfInBounds 3 ahh))).get? b=s.heap.get? b := λb hb => get?_update_other _ _ (ahk hb)
    have noRecord : ∀b o, s.heap.get? b=some o→(∀vs, o.data≠.fields vs)→b≠T := λb o hb hnf q => by
      rw[q, hT] at hb;injection hb with hb;subst hb;exact hnf ts hdT
    refine wpAny_entryW hfr (hl.of_keeps λb o hb hnf => ⟨o, (other b (noRecord b o hb hnf)).trans hb, rfl⟩) hf ((other e (ahk hTe)).trans he)
      (λb o hbo => (other b λq => by rw[q, hnT] at hbo;cases hbo).trans (hkb b o hbo)) hen hd (ag9.mp h1).1 h0
      λh' ⟨x1, x2, x3, x4⟩ => h h' x1 x2 x3 λb o hb hnf => x4 b o ((other b (noRecord b o hb hnf)).trans hb) hnf
end
theorem BJ{h h' base : Heap}{C : Addr}(sb : SameBut C h h') : ∀{l : List Env}, h.FunFrames base l→(∀env∈l, env.frame≠some C)→h'.FunFrames base l
  |[], _, _ => trivial
  |env::l, ⟨hk, ⟨L, o, hf, hn, ho, hd⟩, hr⟩, k => ⟨hk, ⟨L, o, hf, hn, (sb.2 L λe => k env mem_cons_self (by rw[hf, e])).trans ho, hd⟩, BJ sb hr λe he => k e (mem_cons_of_mem _ he)⟩
section
variable{X : Cx}{pins : List (Addr×Obj)}{σ : St}{H : Hp}{s : Shared}{E : XK}
theorem Va{M : Model}{E2 E3 : Value→Shared→Prop}{a T C : Addr}{Cl : Value}{m : Str→Option Value}(I : Inv X pins σ H s)(hx : X.ex=[])(hst : X.stack=X.env::X.outer)(hf : X.env.frame=some X.env.locals)(fa : X.s₀.heap.get? a=none)(fT : X.s₀.heap.get? T=none)(na : H a=none)(nT : H T=none)(tr : Trc s.heap a T Cl)(hE : E Cl none H)(hC : s.heap.Ns C m)(nC : H C=none)(fC : X.s₀.heap.get? C=none)(Cs : C∉frs X.stack) :
    wpAny M X.A (noteFrame (.ref a) X.env) (λ_ s2 => ∃m, s2.heap.Ns C m∧∀h', SameBut C s2.heap h'→∀cenv : Env, cenv.locals=C→wpAny M X.A (PySem.passOn "comprehension.variables-let-go" (.ref a) cenv : Sem Value) (λ_ _ => False) (λe s' => wpAny M X.A (leaving X.env e) (λ_ s'' => kE X.prog X.w X.outer X.H₀ X.s₀ E e s'') E3 s') { s2 with heap := h' }) E2 s := by
  obtain⟨a0, oe, vs, oT, ts, he, hc, hd, h1, hne, hT, hdT, h3⟩ := tr
  obtain⟨oC, es, ep, hoC, hdC, hks, hnm⟩ := hC
  have nfC : ∀vs, oC.data≠.fields vs := λvs z => by rw[hdC] at z;cases z
  have Ca : C≠a := λe => by rw[e, he] at hoC;cases hoC;exact nfC _ hd
  have CT : C≠T := λe => by rw[e, hT] at hoC;cases hoC;exact nfC _ hdT
  have hin : ∀env∈(X.env::X.outer), ∀b, env.frame=some b→b∈a::T::C::frs X.stack := λenv z b e => by
    rw[hst]
    exact .tail _ (.tail _ (.tail _ (mem_filterMap.mpr ⟨env, z, e⟩)))
  have stk := I.stack
  have frC : ∀env∈(X.env::X.outer), env.frame≠some C := λenv z e => Cs (by rw[hst];exact mem_filterMap.mpr ⟨env, z, e⟩)
  have bC : (hideAll s.heap (a::T::C::frs X.stack)).get? C=none := ai6 _ (.tail _ (.tail _ (.head _)))
  have fr : ∀b∈frs X.stack, ∃o, s.heap.get? b=some o∧∀vs, o.data≠.fields vs := λb z => (stk.mem z).2
  have hfr : X.A.frames=some (X.env::X.outer) := by rw[I.ok.frames, hst]
  refine rZ (base := hideAll s.heap (a::T::C::frs X.stack)) (fl := .none) hfr (funFrames_hide (by rw[← hst];exact stk) hin) hf ⟨oe, vs, T, oT, ts, he, hc, hd, h1, ai6 _ (.tail _ (.head _)), hne, hT, hdT, h3⟩ (λb o q => of_hideAll _ q) (ai6 _ (.head _)) λg2 k1 k2 k3 up => ?_
  obtain⟨slC, hC2⟩ := up C oC hoC nfC
  refine⟨m, ⟨_, es, ep, hC2, hdC, hks, hnm⟩, λg3 sb cenv hcv => ?_⟩
  have k3' := k3
  obtain⟨oe2, vs2, T2, oT2, ts2, he2, hc2, hd2, h12, hn2, aev, hT2, adv, h32⟩ := k3
  have Ca2 : a≠C := Ca.symm
  have CT2 : T2≠C := λe => by rw[e, hC2] at hT2;cases hT2;exact nfC _ adv
  have st3 : (hideAll s.heap (a::T::C::frs X.stack)).StaysIn g3 := λb o q => (sb.2 b λe => by rw[e, bC] at q;cases q).trans (k1 b o q)
  have ff3 := BJ sb k2 frC
  have tr3 : g3.TracedAtW (hideAll s.heap (a::T::C::frs X.stack)) a Cl a0 (rawInt X.env.locals) := ⟨oe2, vs2, T2, oT2, ts2, (sb.2 _ Ca2).trans he2, hc2, hd2, h12, hn2, aev, (sb.2 _ CT2).trans hT2, adv, h32⟩
  unfold PySem.passOn
  refine afk (aje ((sb.2 _ Ca2).trans he2) hd2 h12 ?_)
  rw[if_neg (show¬((agj T2==ahh)=true) from by simp)]
  refine afk (Bx (s := { s with heap := g3 }) cenv.frame st3 ff3 tr3 λg4 st4 ff4 tr4 kp4 => wpAny_throw ?_)
  unfold leaving
  refine afk (rZ hfr ff4 hf tr4 st4 (ai6 _ (.head _)) λg5 st5 ff5 tr5 up5 => ?_)
  refine wpAny_setFlight_noneW st5 ff5 tr5 λg6 st6 ff6 tr6 kp6 => ?_
  obtain⟨oe', vs', T', oT', ts', he', hc', hd', h1', hn', hne', hT', hdT', h3'⟩ := tr6
  have slots : ∀b o, s.heap.get? b=some o→b∈frs X.stack→∃sl, g6.get? b=some { o with slots := sl } := λb o q z => by
    obtain⟨o2, e2, nd⟩ := fr b z
    rw[q] at e2
    cases e2
    obtain⟨s1, q1⟩ := up b o q nd
    have q2 := (sb.2 b λe => Cs (e▸z)).trans q1
    have q3 := kp4 b _ q2 nd
    obtain⟨s4, q4⟩ := up5 b _ q3 nd
    exact⟨s4, kp6 b _ q4 nd⟩
  have new : X.s₀.heap.get? T'=none∧H T'=none := by
    cases q : s.heap.get? T' with
    |none => exact⟨I.Hi hx q, I.hok.non q⟩
    |some o =>
      have z : T'∈a::T::C::frs X.stack := ahp λz => by rw[hideAll_get _ q z] at hn';cases hn'
      rcases mem_cons.mp z with e|z
      · exact absurd e hne'
      rcases mem_cons.mp z with e|z
      · rw[e];exact⟨fT, nT⟩
      rcases mem_cons.mp z with e|z
      · rw[e];exact⟨fC, nC⟩
      · obtain⟨o2, e2, nd⟩ := fr T' z
        obtain⟨sl, e3⟩ := slots T' o2 e2 z
        rw[e3] at hT';cases hT'
        exact absurd hdT' (nd _)
  obtain⟨un, ok⟩ := I.gone (h2 := g6) hx (bad := [a, T, C]) (λb z => by
    rcases mem_cons.mp z with e|z
    · rw[e];exact⟨fa, na⟩
    rcases mem_cons.mp z with e|z
    · rw[e];exact⟨fT, nT⟩
    · rw[mem_singleton.mp z];exact⟨fC, nC⟩) (λb o q n1 n2 => st6 b o (hideAll_get _ q λz => by
      rcases mem_cons.mp z with e|z
      · exact n2 (by rw[e];exact .head _)
      rcases mem_cons.mp z with e|z
      · exact n2 (by rw[e];exact .tail _ (.head _))
      rcases mem_cons.mp z with e|z
      · exact n2 (by rw[e];exact .tail _ (.tail _ (.head _)))
      · exact n1 z)) slots
  exact⟨a, T', Cl, H, rfl, I.os, I.bare, un, ok, fa, new.1, na, new.2, ⟨a0, oe', vs', oT', ts', he', hc', hd', h1', hne', hT', hdT', h3'⟩, hE⟩
end
open PySem PyProof.Rows
structure Hr(X : Cx)(E : XK) : Prop where
  ex : X.ex=[]
  st : X.stack=X.env::X.outer
  fr : X.env.frame=some X.env.locals
  xe : X.xe=λe s' => wpAny (model X.prog X.w) X.A (leaving X.env e) (λ_ s'' => kE X.prog X.w X.outer X.H₀ X.s₀ E e s'') (λe' s'' => kE X.prog X.w X.outer X.H₀ X.s₀ E e' s'') s'
section
variable{X : Cx}{elt tg iter : Expr}{ifs : List Expr}{scope : Scope}{pos : Pos}{own : List Str}{ix : List Nat}{wi : TI}{g : TG}{tc : TT}{te : TE}{E : XK}
theorem zx(R : Hr X E){pins : List (Addr×Obj)}{σ : St}{H : Hp}{s : Shared}{D C : Addr}{fp : List Addr}{use : Option (Value→Sem Unit)}{Q : Value→Shared→Prop}(I : Inv X.rB pins σ H s)(fo : ∀b∈fp, uY X.rB pins H b)(hD : D=s.heap.objs.size)(hC : C=D+1) :
    Passes (kE X.prog X.w) ((dM X.rB scope own ix C s H fp).wish (notedBy (model X.prog X.w) X.A (dM X.rB scope own ix C s H fp).env λe s' => compPost (model X.prog X.w) X.A X.xe use Q (.ref D) C (.error e) s')) E := λNf σ' H1 s1 e s3 I1 hcx => by
  have I1' := I1.kY
  have IO : Inv X.rB pins σ H1 s1 := I.call' (ch := fp) I1'.os I1'.base I1'.hok I1'.bare λb hb => by
    obtain⟨f0, f1, f2, f3, f4, f5⟩ := fo b hb
    exact⟨f3, f1, f4, f5⟩
  obtain⟨a, T, Cl, H', rfl, h1, h2, h3, h4, h5, h6, h7, h8, h9, q⟩ := hcx
  have IO2 : Inv X.rB pins σ H' s3 := IO.call' h1 h3 h4 h2 (λb z => absurd z (by simp))
  obtain⟨m, hns, _⟩ := I1'.loc
  have cC : H1 C=none := I1'.free
  have hle : s.heap.objs.size≤C := by rw[hC, hD];exact ahn _
  have Cs : C∉frs X.stack := λz => by
    rcases mem_cons.mp (I.rz C z) with q|q
    · exact absurd (q▸I.lt) (Nat.not_lt_of_le hle)
    · exact I.Py hle q
  obtain⟨oC, es, ep, hoC, hr⟩ := hns
  have hC3 := h3.keep C oC hoC cC Cs (by simp)
  have fC : X.s₀.heap.get? C=none := by
    cases q : X.s₀.heap.get? C with
    |none => rfl
    |some o => exact absurd (lt_size q) (Nat.not_lt_of_le (afl I.sz hle))
  have key := Va (M := model X.prog X.w) (E2 := λe s' => compPost (model X.prog X.w) X.A X.xe use Q (.ref D) C (.error e) s') (E3 := λe' s'' => kE X.prog X.w X.outer X.H₀ X.s₀ E e' s'') (X := X.rB) (E := E) IO2 R.ex R.st R.fr (IO.Hi R.ex h5) (IO.Hi R.ex h6) h7 h8 h9 q (C := C) (m := m) ⟨oC, es, ep, hC3, hr⟩ (h3.free C oC hoC cC (by simp)) fC Cs
  show wpAny (model X.prog X.w) X.A (noteFrame (.ref a) (dM X.rB scope own ix C s H fp).env) _ _ s3
  rw[Dt (env := (dM X.rB scope own ix C s H fp).env) (env' := X.env) rfl]
  refine agc key (λ_ s4 h => ?_) λ_ _ z => z
  show∃m, _
  rw[R.xe]
  exact h
theorem Vb(R : Hr X E)(hc : X.calm=true)(ho : yp X.env.scope X.N scope ix=true)(hi : PI X.rB tg iter wi)(hg : ∀C s H fp, PG (dM X.rB scope own ix C s H fp) tg g)(hif : ∀C s H fp, vg (dM X.rB scope own ix C s H fp) ifs tc)(he : ∀C s H fp y, Passes (kE X.prog X.w) ((dM X.rB scope own ix C s H fp).wish y) E→PE ((dM X.rB scope own ix C s H fp).wish y) elt te)(hs : ∀x, foldedSetIterable iter X.env x=pure x := by intro _;rfl) : PE X (.ListComp elt [⟨tg, iter, ifs, 0⟩] scope pos) (Bk own.length ix wi g tc te) := by
  intro pins s σ H Q I h
  have sc := ud ho
  rw[eval_ListComp]
  refine ahe (use := none) rfl hs (lD (nP I sc)) sc.kind sc.nm (agc (hi pins s σ H _ (I.wish _) h) (λv s1 h1 => agc h1 (λitv s2 h2 => ?_) λ_ _ z => af4 z) λ_ _ z => af4 z)
  obtain⟨it, fp, tn, J, H2, e, I2, T, st2, f2, rd⟩ := h2
  subst e
  refine zu (X := X.rB) (RR := λacc C => compPost (model X.prog X.w) X.A X.xe none (EP X pins σ Q) acc C) rfl hc sc I2 T st2 f2 hg hif (λD C hD hC => he C s2 H2 fp _ (zx R I2 f2 hD hC)) rd ?_
  rintro acc C s' ⟨p, H', rfl, I', ⟨m, hns⟩, fC, q⟩
  obtain⟨f0, f1, f2, f3, f4, f5⟩ := fC
  have I'' := I'.kY
  exact⟨m, hns, λh' hs' => ⟨.ref p, H', I''.turned (t' := s'.toks) (λb o hb e => (hs'.2 b hb).trans e) f0 f1 f3 f4 f5, rfl, q⟩⟩
end
end L2
namespace Ts
open PySem L2
def iD{α β ε : Type}(f : α→Option (Out β ε)) : List α→Option (Out (List β) ε)
  |[] => some (.nx [])
  |x::xs => (f x).bind λo => match o with
    |.rt e => some (.rt e)
    |.nx b => (iD f xs).bind λo => match o with
      |.rt e => some (.rt e)
      |.nx bs => some (.nx (b::bs))
theorem JB{α β ε : Type}{f : α→Option (Out β ε)} : ∀{xs : List α}{o : Out (List β) ε}, iD f xs=some o→∃zs : List β, zs.length≤xs.length∧(∀(i : Nat)(x : α)(z : β), xs[i]?=some x→zs[i]?=some z→f x=some (.nx z))∧((o=.nx zs∧zs.length=xs.length)∨∃e x, o=.rt e∧xs[zs.length]?=some x∧f x=some (.rt e))
  |[], o, h => by
    cases h
    exact⟨[], afj _, (λi x z h => by cases i<;>cases h), .inl ⟨rfl, rfl⟩⟩
  |x::xs, o, h => by
    unfold iD at h
    cases e : f x with
    |none => rw[e] at h;cases h
    |some r =>
      rw[e] at h
      cases r with
      |rt er =>
        have h : some (Out.rt er)=some o := h
        cases h
        exact⟨[], afz _, (λi y z _ hz => by cases i<;>cases hz), .inr ⟨er, x, rfl, rfl, e⟩⟩
      |nx b =>
        cases em : iD f xs with
        |none =>
          have h : (iD f xs).bind _=some o := h
          rw[em] at h;cases h
        |some r2 =>
          have h : (iD f xs).bind _=some o := h
          rw[em] at h
          obtain⟨zs, hl, hz, hc⟩ := JB em
          refine⟨b::zs, ahg hl, λi y z hy hzz => ?_, ?_⟩
          · cases i with
            |zero => cases hy;cases hzz;exact e
            |succ i => exact hz i y z hy hzz
          · rcases hc with⟨rfl, hq⟩|⟨er, y, rfl, hy, hf⟩
            · have h : some (Out.nx (b::zs))=some o := h
              cases h
              exact .inl ⟨rfl, congrArg (· + 1) hq⟩
            · have h : some (Out.rt er)=some o := h
              cases h
              exact .inr ⟨er, y, rfl, hy, hf⟩
section
variable{K : afh}{B : Bs}{sl : List (Slot K)}{md : Md}{n : Bool}{cx : Fin 4→Addr}{α β : Type}[Rp K α][Rp K β]
def Yq(K : afh)(cx : Fin 4→Addr){A β : Type}[Rp K β](as : A→List (Slot K))(f : A→Option (Out β (Ek cx))) : Sp := λvs H Q E => ∃(a : A)(o : Out β (Ek cx))(Fa : Hp), Same Fa H∧f a=some o∧Ar Fa (as a) vs∧(match o with
  |.nx b => ∀v H', Same H H'→rp K (dif H' H) v b→Q v H'
  |.rt e => ∀H', Same H H'→E (.ref (cx e.k)) none H')
noncomputable def Rx(B : Bs)(sl : List (Slot K))(md : Md)(t : XK→TE)(m : Option (Out α (Ek cx))) : Prop :=
  ∀o, m=some o→∀(F : Hp)(O : Own)(H : Hp)(σ : St)(Q : VK)(E : XK), At B sl F O H σ→(match o with
    |.nx a => ∀(v : V)(F' H' : Hp), dU B F H O F' H'→rp K (reg B F' H' md) v a→Q v H'
    |.rt e => ∀H', Same H H'→E (.ref (cx e.k)) none H')→t E σ H Q
noncomputable def EoX(B : Bs)(sl : List (Slot K))(md : Md)(t : XK→TE)(m : Option (Out (List α) (Ek cx))) : Prop :=
  ∀o, m=some o→∀(F : Hp)(O : Own)(H : Hp)(σ : St)(Q : VK)(E : XK), At B sl F O H σ→(match o with
    |.nx a => ∀(p : Addr)(vs : List V)(F' H' : Hp), dU B F H O F' H'→H' p=none→A2 (rp K (reg B F' H' md)) vs a→Q (.ref p) (upd H' p (.lst vs))
    |.rt e => ∀H', Same H H'→E (.ref (cx e.k)) none H')→t E σ H Q
theorem lX{A : Type}{as : A→List (Slot K)}{f : A→Option (Out β (Ek cx))}{ta : TA}{ma : Option A}(h : Ea B sl .hp ta as ma) : Rx B sl md (λE => uL (Yq K cx as f) [] E ta) (ma.bind f) := λo ho F O H σ Q E s kk => by
  cases ma with
  |none => cases ho
  |some a =>
    refine h a rfl F O H σ _ s λvs F' H' g r => ?_
    rw[append_nil]
    refine⟨a, o, H', .refl _, ho, r, ?_⟩
    cases o with
    |rt e => exactλH2 s2 => kk H2 (g.hh.trans s2)
    |nx c =>
      intro v H2 s2 r2
      have g2 := g.ok.called s2
      refine kk v _ H2 (g.trans g2) ?_
      have r3 := Rp.mono (uf (F := F') g.ok.h0 s2) r2
      exact match md with
      |.nw => r3
      |.fz => Rp.mono eU r3
      |.hp => Rp.mono (eU.trans g2.ok.fh) r3
theorem xg{mi : Option (List α)}{wi : TI}{g : TG}{te : XK→TE}{lu : List (Slot K)}{Lx : α→List (Slot K)}{f : α→Option (Out β (Ek cx))}{no : Nat}{ix : List Nat}(hix : (ix.all λj => decide (j<sl.length))=true)(hI : lu=Xy sl no ix)(hi : Ei B sl n wi mi)(hg : Tg B lu n g Lx)(he : ∀x, Rx B (Lx x) md te (f x))(hle : ∀x, Ir (Lx x) lu) :
    EoX B sl md (λE => Bk no ix wi g S_ (te E)) (mi.bind λxs => if xs.length<cap then iD f xs else none) := λo ho F O H σ Q E a k => by
  cases mi with
  |none => cases ho
  |some xs =>
    have hz : (if xs.length<cap then iD f xs else none)=some o := ho
    split at hz
    case isFalse => cases hz
    rename_i hcap
    have hcl := k_ hcap
    obtain⟨zs, zl, zf, zc⟩ := JB hz
    refine hi xs rfl F O H σ _ a λJ F' H' gr yl => ?_
    have a' := a.grow gr
    refine⟨λi m ys σ2 H2 => m=xs.length-i∧i≤zs.length∧∃(F2 : Hp), dU B F' H' O F2 H2∧aJ B F2 (lo F2 [] H2) H2 lu σ2 []∧A2 (rp K (reg B F2 H2 md)) ys (zs.take i),
      ⟨xs.length, rfl, afz _, F', .refl a'.1, ?_, trivial⟩, ?_⟩
    · rw[hI]
      exact NQ a' _ no ix λj hj => by simpa using(all_eq_true.mp hix) j hj
    rintro i m ys σ2 H2 ⟨rfl, hil, F2, g2, s2, r2⟩
    have hyl : ys.length≤xs.length := by
      rw[r2.len, length_take]
      omega
    obtain⟨y1, y2⟩ := yl i F2 O H2 g2.ff g2.ok
    by_cases hlt : i<xs.length
    · obtain⟨go, y3⟩ := y2 xs[i] (afi hlt)
      refine .inr ⟨go, by omega, λys σ2 H2 => i+1≤zs.length∧∃(F2 : Hp), dU B F' H' O F2 H2∧aJ B F2 (lo F2 [] H2) H2 lu σ2 []∧A2 (rp K (reg B F2 H2 md)) ys (zs.take (i+1)), λys' σ' H' ⟨z0, F3, z1, z2, z3⟩ => ⟨xs.length-(i+1), by omega, rfl, z0, F3, z1, z2, z3⟩, λv H3 yd => ?_⟩
      obtain⟨F3, g3, r3⟩ := y3 v H3 yd
      have g23 := g2.trans g3
      have at3 : At B lu F3 [] H3 σ2 := ⟨g3.ok.nil, s2.mono g3.ff (Ag ⟨g3.ff, g3.hh, g3.ok.nil, g3.nw⟩) g3.hh⟩
      refine hg v xs[i] F3 [] H3 σ2 _ at3 r3 λσ4 a4 => ?_
      have back : ∀{F5 H5 : Hp}, dU B F3 H3 [] F5 H5→dU B F' H' O F5 H5∧aJ B F5 (lo F5 [] H5) H5 lu σ4 [] := λ{F5 H5} g5 => ⟨g23.trans (dU.lift g3.ok g5), (a4.grow g5).2.le0 (hle xs[i])⟩
      unfold S_
      dsimp only
      rw[if_pos rfl]
      by_cases hzl : i<zs.length
      · refine he xs[i] (.nx zs[i]) (zf i _ _ (afi hlt) (afi hzl)) F3 [] H3 σ4 _ E a4 λw F6 H6 g6 r6 => ⟨hzl, ?_⟩
        obtain⟨z1, z2⟩ := back g6
        refine⟨F6, z1, z2, ?_⟩
        rw[List.take_succ, afi hzl]
        exact(r2.imp λ_ _ => Rp.mono (dJ (g3.trans (dU.lift g3.ok g6)) md)).snoc r6
      · have e : i=zs.length := by omega
        rcases zc with⟨_, hq⟩|⟨er, x, rfl, hx, hf⟩
        · omega
        · have ex : xs[i]=x := by
            have h1 : xs[i]?=some x := by rw[e];exact hx
            rw[afi hlt] at h1
            exact afm h1
          exact he xs[i] (.rt er) (by rw[ex];exact hf) F3 [] H3 σ4 _ E a4 λH6 s6 => k H6 (gr.hh.trans (g23.hh.trans s6))
    · rcases zc with⟨rfl, hq⟩|⟨er, x, _, hx, _⟩
      · have e : i=xs.length := by omega
        subst e
        refine .inl ⟨y1 (afj _), af6 (aft hyl hcl), λp hp => ?_⟩
        rw[take_of_length_le (by omega)] at r2
        exact k p ys F2 H2 (gr.trans g2) hp r2
      · have := (afu.mp hx).1
        omega
end
end Ts
namespace L2
open PySem PyProof.Rows
section
variable{X : Cx}{E : XK}{st : Stmt}{t : TS}
theorem Qx.ps(h : Qx X E st t) : PS X st (λD σ H => t (exD E D) σ H) := λpins s σ H D I q => by
  refine dN (h pins s σ H (exD E D) (λv H z => z) I q) λf s1 z => ?_
  cases f with
  |next => exact z
  |brk => exact z
  |cont => exact z
  |ret u => obtain⟨v, σ', H', I', r, q⟩ := z;exact q.elim
end
def Oo(E : XK)(c : Addr)(ta : TA) : TS := λD σ H => wZ c ta (exD E D) σ H
section
variable{P : Program}{w : World}{K : afh}{mg : Str→Option Value}{base : Heap}
theorem gn.okV{x qual : Str}{st : Stmt}{f : Addr}{fd : FuncData}{N ps : List Str}{k : Nat}{sp : Sp}(F : gn K x qual st f fd)(S : bf N ps (aH st))(len : ∀vs H Q E, sp vs H Q E→vs.length=ps.length)(hbody : ∀(cdv : Value) (A : Around) (outer : List Env) (s : Shared) (H : Hp) (vs : List V) (Q : VK) (E : XK), f9 k (A.deeper (agp qual (aH st) s.heap.objs.size f cdv))→sp vs H Q E →
      ∃t, xY (nJ (kE P w) P w K mg base N qual (aH st) f cdv A outer s H E) (dB st) t∧t { nx := λ_ H' => Q .non H', rt := Q } (start N vs) H) : bY P w K mg base (kE P w) (k+1) f fd ps sp := by
  obtain⟨oc, od, kV, doc, pm, an, cdv, ct, osl, rfl, lk, hcd⟩ := F.ex
  refine Jf lk hcd S len λA outer s H vs Q E hr hsp => ?_
  exact hbody cdv A outer s H vs Q E hr hsp
end
end L2
namespace Ts
open PySem L2
noncomputable def vQ{α β ε : Type}(r : Out α ε)(f : α→Option (Out β ε)) : Option (Out β ε) := match r with
  |.nx a => f a
  |.rt e => some (.rt e)
section
variable{P : Program}{w : World}{mg : Str→Option Value}{base : Heap}{K : afh}{B : Bs}{sl : List (Slot K)}{cx : Fin 4→Addr}{α β S : Type}[Rp K α][Rp K β]
noncomputable def Fg(B : Bs)(sl : List (Slot K))(t : XK→TS){β : Type}[Rp K β](m : Option (Out β (Ek cx))) : Prop :=
  ∀o, m=some o→∀(G : Hp)(D : Ends)(σ : St)(H : Hp)(E : XK), Sg B G sl σ H→(match o with
    |.nx b => ∀v H', Rt K B false b v H'→D.rt v H'
    |.rt e => ∀H', Same B.H0 H'→E (.ref (cx e.k)) none H')→t E D σ H
theorem Vc{t : TS}{u : XK→TS}{L : S→List (Slot K)}{m1 : Option S}{f : S→Option (Out β (Ek cx))}(h1 : Sn B sl t L m1)(h2 : ∀s, Fg B (L s) u (f s)) : Fg B sl (λE => jD t (u E)) (m1.bind f) := λo ho G D σ H E q k => by
  cases m1 with
  |none => cases ho
  |some s => exact h1 s rfl G _ σ H q λσ' H' q' => h2 s o ho G D σ' H' E q' k
theorem xq{s : Slot K}{te : XK→TE}{u : XK→TS}{m : Option (Out α (Ek cx))}{f : α→Option (Out β (Ek cx))}(n : Bool)(i : Nat)(hs : sl[i]?=some s)(ho : vm s=false)(h : Rx B sl (qg n) te m)(h2 : ∀a, Fg B (sl.set i (.fz n a)) u (f a)) : Fg B sl (λE => jD (yc (te E) (kO i)) (u E)) (m.bind λr => vQ r f) := λo hq G D σ H E q k => by
  cases m with
  |none => cases hq
  |some r =>
    obtain⟨F, O, g, z⟩ := q
    refine h r rfl F O H σ _ E z ?_
    cases r with
    |nx a =>
      have hq : f a=some o := hq
      exactλv F' H' gr rv => h2 a o hq G D _ H' E (Sg.set (g.trans gr.ff) (z.grow gr) hs ho rv) k
    |rt e =>
      have hq : some (Out.rt e)=some o := hq
      cases hq
      exactλH' s' => k H' (z.1.h0.trans s')
theorem Vd{te : XK→TE}{u : XK→TS}{md : Md}{m : Option (Out α (Ek cx))}{f : Option (Out β (Ek cx))}(h : Rx B sl md te m)(h2 : Fg B sl u f) : Fg B sl (λE => jD (uK (te E)) (u E)) (m.bind λr => vQ r λ_ => f) := λo hq G D σ H E q k => by
  cases m with
  |none => cases hq
  |some r =>
    obtain⟨F, O, g, z⟩ := q
    refine h r rfl F O H σ _ E z ?_
    cases r with
    |nx a =>
      have hq : f=some o := hq
      exactλv F' H' gr rv => h2 o hq G D _ H' E (Sg.grow g z gr) k
    |rt e =>
      have hq : some (Out.rt e)=some o := hq
      cases hq
      exactλH' s' => k H' (z.1.h0.trans s')
theorem Hs{te : XK→TE}{u : XK→TS}{m : Option (Out β (Ek cx))}(h : Rx B sl .nw te m) : Fg B sl (λE => jD (PB (te E)) (u E)) m := λo ho G D σ H E q k => by
  obtain⟨F, O, g, z⟩ := q
  refine h o ho F O H σ _ E z ?_
  cases o with
  |nx b => exactλv F' H' gr r => k v H' (TV gr.ok true r rfl)
  |rt e => exactλH' s' => k H' (z.1.h0.trans s')
theorem Lj{t : TS}{m : Option β}(h : SB B sl t false m) : Fg (cx := cx) B sl (λ_ => t) (m.bind λb => some (.nx b)) := λo ho G D σ H E q k => by
  cases m with
  |none => cases ho
  |some b =>
    have ho : some (Out.nx b)=some o := ho
    cases ho
    exact h b rfl G D σ H q k
theorem Fi{u : XK→TS}{m : Option Unit}{C : Addr}(i : Fin 4)(hC : C=cx i){tj : TJ}{n : Nat}(h : Ej B sl tj n m)(hn : n≤100000 := by decide) : Fg (β := β) B sl (λE => jD (Oo E C (cD (tJ tj) fu)) (u E)) (m.bind λ_ => some (.rt (Ek.mk i : Ek cx))) := λo ho G D σ H E q k => by
  cases m with
  |none => cases ho
  |some a =>
    have ho : some (Out.rt (Ek.mk i : Ek cx))=some o := ho
    cases ho
    obtain⟨F, O, g, z⟩ := q
    refine h rfl ag8 (by show 0+n≤_;omega) F O H σ _ z λz F' H' gr => ⟨(by show 1≤sizeLine;decide), C, rfl, ?_⟩
    subst hC
    exact k H' gr.ok.h0
theorem Ht{tc : TT}{t u : XK→TS}{mc : Option Bool}{m1 m2 : Option (Out β (Ek cx))}(h : Et B sl tc mc)(h1 : Fg B sl t m1)(h2 : Fg B sl u m2) : Fg B sl (λE => jD (Gk tc (t E) lR) (u E)) (mc.bind λb => if b=true then m1 else m2) := λo ho G D σ H E q k => by
  cases mc with
  |none => cases ho
  |some b =>
    obtain⟨F, O, g, z⟩ := q
    refine h b rfl F O H σ _ z λF' H' gr => ?_
    cases b with
    |true => exact h1 o ho G _ σ H' E ⟨F', O, g.trans gr.ff, z.grow gr⟩ k
    |false => exact h2 o ho G D σ H' E ⟨F', O, g.trans gr.ff, z.grow gr⟩ k
theorem qI{x qual : Str}{st : Stmt}{f : Addr}{fd : FuncData}{N ps : List Str}{k : Nat}{A : Type}{as : A→List (Slot K)}{fM : A→Option (Out β (Ek cx))}(F : gn K x qual st f fd)(S : bf N ps (aH st))(hf : ∀a, (as a).all isF=true)(hl : ∀a, (as a).length=ps.length)(hb : ∀(cdv : Value) (A : Around) (outer : List Env) (s : Shared) (H : Hp), f9 k (A.deeper (agp qual (aH st) s.heap.objs.size f cdv)) →
      ∃t : XK→TS, (∀E, xY (nJ (kE P w) P w K mg base N qual (aH st) f cdv A outer s H E) (dB st) (t E))∧∀Fa a, Fg ⟨Fa, H⟩ (as a++replicate (N.length-ps.length) .un) t (fM a)) :
    bY P w K mg base (kE P w) (k+1) f fd ps (Yq K cx as fM) :=
  F.okV S (λvs H Q E ⟨a, o, Fa, _, _, r, _⟩ => by rw[r.len, hl]) λcdv A outer s H vs Q E hr h => by
    obtain⟨a, o, Fa, sf, hfa, r, q⟩ := h
    obtain⟨t, p, z⟩ := hb cdv A outer s H hr
    refine⟨t E, p E, ?_⟩
    have e : L2.start N vs=vs.map some++replicate (N.length-ps.length) none := by
      unfold L2.start
      rw[r.len, hl]
    rw[e]
    refine z Fa a o hfa Fa _ _ H E ⟨Fa, [], .refl _, ⟨sf, .refl _, λb o h => .inl h, λx hx => (by cases hx), (by simp)⟩, oR _ (hf a) r⟩ ?_
    cases o with
    |nx b => exactλv H' z => q v H' z.1 z.2
    |rt e => exact q
end
end Ts
namespace L2
open PySem
section
variable{X : Cx}
theorem PS.rB{st : Stmt}{t : TS}(h : PS X.rB st t) : PS X st t := λpins s σ H D I hw =>
  agc (h pins s σ H D (I.wish _) hw) (λ_ _ q => q.kY) λ_ _ z => af4 z
end
end L2
namespace Ts
open PySem L2
section
variable{K : afh}{B : Bs}{sl : List (Slot K)}{cx : Fin 4→Addr}{α β S : Type}[Rp K α][Rp K β]
noncomputable def SnX(B : Bs)(sl : List (Slot K))(t : XK→TS){S : Type}(L : S→List (Slot K))(m : Option (Out S (Ek cx))) : Prop :=
  ∀o, m=some o→∀(G : Hp)(D : Ends)(σ : St)(H : Hp)(E : XK), Sg B G sl σ H→(match o with
    |.nx s => ∀σ' H', Sg B G (L s) σ' H'→D.nx σ' H'
    |.rt e => ∀H', Same B.H0 H'→E (.ref (cx e.k)) none H')→t E D σ H
theorem abf{t : TS}{al : Bool}{L : S→List (Slot K)}{m : Option (Out S (Ek cx))}(h : Sx B sl t al L m) : SnX B sl (λE D σ H => t (exD E D) σ H) L m := λo ho G D σ H E q k => by
  refine h o ho G (exD E D) σ H q ?_
  cases o with
  |nx s => exact k
  |rt e => exactλv H' z => ⟨_, z.2, k H' z.1⟩
theorem Qy{t u : XK→TS}{L : S→List (Slot K)}{m : Option (Out S (Ek cx))}{f : S→Option (Out β (Ek cx))}(h1 : SnX B sl t L m)(h2 : ∀s, Fg B (L s) u (f s)) : Fg B sl (λE => jD (t E) (u E)) (m.bind λr => vQ r f) := λo ho G D σ H E q k => by
  cases m with
  |none => cases ho
  |some r =>
    refine h1 r rfl G _ σ H E q ?_
    cases r with
    |nx s => exactλσ' H' q' => h2 s o ho G D σ' H' E q' k
    |rt e =>
      have ho : some (Out.rt e)=some o := ho
      cases ho
      exact k
theorem Ve{md : Md}{t1 : TE}{t2 : XK→TE}{m1 : Option α}{m2 : Option (Out β (Ek cx))}(h1 : Ex B sl md t1 m1)(h2 : Rx B sl md t2 m2) : Rx B sl md (λE => Qa (cD t1 (cD (t2 E) fu))) (m1.bind λa => m2.bind λr => vQ r λb => some (.nx (a, b))) := λo ho F O H σ Q E z k => by
  cases m1 with
  |none => cases ho
  |some a =>
    cases m2 with
    |none => cases ho
    |some r =>
      refine h1 a rfl F O H σ _ z λv F' H' g r1 => ?_
      refine h2 r rfl F' O H' σ _ E (z.grow g) ?_
      cases r with
      |rt e =>
        have ho : some (Out.rt e)=some o := ho
        cases ho
        exactλH2 s2 => k H2 (g.hh.trans s2)
      |nx b =>
        have ho : some (Out.nx (a, b))=some o := ho
        cases ho
        intro w F2 H2 g2 r2
        refine⟨by show 2≤sizeLine;decide, λp hp => ?_⟩
        have g3 := dU.new g2.ok hp (.tup [v, w])
        exact k _ _ _ (g.trans (g2.trans g3)) ⟨p, v, w, rfl, mW g2.ok hp md, Rp.mono (dJ (g2.trans g3) md) r1, Rp.mono (dJ g3 md) r2⟩
theorem Ln{u : XK→TS}{te : TE}{m : Option α}{C : Addr}(i : Fin 4)(hC : C=cx i)(h : Ex B sl .hp te m) : Fg (β := β) B sl (λE => jD (Oo E C (cD te fu)) (u E)) (m.bind λ_ => some (.rt (Ek.mk i : Ek cx))) := λo ho G D σ H E q k => by
  cases m with
  |none => cases ho
  |some a =>
    have ho : some (Out.rt (Ek.mk i : Ek cx))=some o := ho
    cases ho
    obtain⟨F, O, g, z⟩ := q
    refine h a rfl F O H σ _ z λv F' H' gr r => ⟨(by show 1≤sizeLine;decide), C, rfl, ?_⟩
    subst hC
    exact k H' gr.ok.h0
theorem Qz{md : Md}{A : Type}{as : A→List (Slot K)}{f : A→Option (Out Unit (Ek cx))}{ta : TA}{ma : Option A}(h : Ea B sl .hp ta as ma) : Rx B sl md (λE => uL (ZK K cx as f) [] E ta) (ma.bind f) := λo ho F O H σ Q E s kk => by
  cases ma with
  |none => cases ho
  |some a =>
    refine h a rfl F O H σ _ s λvs F' H' g r => ?_
    rw[append_nil]
    refine⟨a, o, H', .refl _, ho, r, ?_⟩
    cases o with
    |rt e => exactλH2 s2 => kk H2 (g.hh.trans s2)
    |nx c => exactλH2 s2 => kk _ _ H2 (g.trans (g.ok.called s2)) rfl
end
end Ts
namespace L2
open PySem PyProof.Rows
section
variable{X : Cx}{elt tg iter : Expr}{ifs : List Expr}{scope : Scope}{pos : Pos}{own : List Str}{ix : List Nat}{wi : TI}{g : TG}{tc : TT}{te : TE}{E : XK}
theorem BK{i : Nat}{x : Str}{pos' spos : Pos}(R : Hr X E)(hN : X.N.Nodup)(hi' : X.N[i]?=some x)(hxl : X.env.scope.names.lookup x=some .local)(hc : X.calm=true)(ho : yp X.env.scope X.N scope ix=true)(hi : PI X.rB tg iter wi)(hg : ∀C s H fp, PG (dM X.rB scope own ix C s H fp) tg g)(hif : ∀C s H fp, vg (dM X.rB scope own ix C s H fp) ifs tc)(he : ∀C s H fp y, Passes (kE X.prog X.w) ((dM X.rB scope own ix C s H fp).wish y) E→PE ((dM X.rB scope own ix C s H fp).wish y) elt te)(hsw : swapsWith (.ListComp elt [⟨tg, iter, ifs, 0⟩] scope pos) (some (.Name x pos')) spos.line X.env=pure true := by rfl)(hs : ∀x, foldedSetIterable iter X.env x=pure x := by intro _;rfl) : PS X (.Assign [.Name x pos'] (.ListComp elt [⟨tg, iter, ifs, 0⟩] scope pos) spos) (yc (Bk own.length ix wi g tc te) (kO i)) := by
  intro pins s σ H D I h
  have sc := ud ho
  rw[exec_Assign_Name_used _ _ _ _ hsw]
  refine afk (aia (afk ?_))
  show wpAny _ X.A (do let _ ← comprehension (.ListComp elt [⟨tg, iter, ifs, 0⟩] scope pos) scope X.env _ (newList []) false (eval iter X.env) (some (assign (.Name x pos') X.env))) _ _ s
  refine afk (agc (ahe (use := some (assign (.Name x pos') X.env)) (Q := λ_ s' => SP X pins D .next s') rfl hs (lD (nP I sc)) sc.kind sc.nm
    (agc (hi pins s σ H _ (I.wish _) h) (λv s1 h1 => agc h1 (λitv s2 h2 => ?_) λ_ _ z => af4 z) λ_ _ z => af4 z)) (λ_ s' hq => afw (afw hq)) λ_ _ e => e)
  obtain⟨it, fp, tn, J, H2, e, I2, T, st2, f2, rd⟩ := h2
  subst e
  refine zu (X := X.rB) (RR := λacc C => compPost (model X.prog X.w) X.A X.xe (some (assign (.Name x pos') X.env)) (λ_ s' => SP X pins D .next s') acc C) rfl hc sc I2 T st2 f2 hg hif (λD C hD hC => he C s2 H2 fp _ (zx R I2 f2 hD hC)) rd ?_
  rintro acc C s' ⟨p, H', rfl, I'w, ⟨m, hns⟩, fC, q⟩
  have I' := I'w.kY
  obtain⟨f0, f1, f2, f3, f4, f5⟩ := fC
  show wpAny _ X.A (assign (.Name x pos') X.env (.ref p)) _ _ _
  refine aiy (xZ (v := .ref p) I' hN hi' (.inl hxl) rfl (λs'' I'' ⟨a, hsa, ha⟩ => ?_) (.inr hxl))
  have haC : C≠a := by
    rcases ha with ha|ha
    · rw[ha];exact f1
    · exact(f4 x a ha).symm
  exact⟨m, hns.sameBut hsa haC, λh' hs' => ⟨_, H', I''.turned (t' := s''.toks) (λb o hb e => (hs'.2 b hb).trans e) f0 f1 f3 f4 f5, q⟩⟩
end
end L2
namespace Ts
open PySem L2
def top(i : Nat) : Stmt := PySem.Challenge.pw_treesay_k82_no_machines.main.body.getD i (.Pass ⟨0, 0, 0, 0⟩)
abbrev n_ : Stmt := top 13
abbrev gY : Stmt := top 14
abbrev iZ : Stmt := top 15
abbrev yI : Stmt := top 16
abbrev i_ : Stmt := top 17
abbrev jT : Stmt := top 18
abbrev BL : Stmt := top 19
abbrev xr : Stmt := top 20
abbrev Oq : Stmt := inClass (top 21) 0
abbrev oh : Stmt := inClass (top 21) 1
abbrev su : Stmt := top 25
abbrev lJ : Stmt := top 26
abbrev lK : Stmt := top 27
abbrev oX : Stmt := top 28
abbrev oY : Stmt := top 29
abbrev pC : Stmt := top 30
abbrev oZ : Stmt := top 31
abbrev lM : Stmt := top 32
abbrev jU : Stmt := top 33
abbrev iG : Stmt := inClass (top 35) 0
abbrev BP : Stmt := top 37
abbrev BR : Stmt := top 38
abbrev BW : Stmt := top 39
abbrev yJ : Stmt := top 40
abbrev BX : Stmt := top 41
abbrev BZ : Stmt := top 42
abbrev yK : Stmt := top 43
abbrev yL : Stmt := top 44
abbrev vR : Stmt := top 45
abbrev B_ : Stmt := top 46
abbrev yM : Stmt := top 47
abbrev vU : Stmt := top 48
abbrev uy : Stmt := top 49
abbrev Hu : Stmt := top 50
abbrev Fj : Stmt := top 51
section
variable{P : Program}{w : World}{K : afh}{mg : Str→Option Value}{base : Heap}
def aew(K : afh) : Sp := λvs H Q _ => ∃(a : Addr)(bs : List Addr)(xss : List (List Int)), vs=[.ref a]∧gj K H a (bs.map V.ref)∧Jq K H bs xss∧xss.length≤60∧Valid xss.length xss ∧
  ∀(r : Addr)(cs : List Addr)(H' : Hp), Same H H'→H r=none→H' r=some (.lst (cs.map V.ref))→cs.length=xss.length→Jr H' cs (src xss)→(∀c∈cs, H c=none)→Q (.ref r) H'
theorem Vf : bf ["steps", "sources", "stand", "targets", "target"] ["steps"] (aH xr) := ⟨rfl, rfl, rfl, by decide +kernel, rfl, by decide +kernel, by decide +kernel⟩
theorem aex : (["stand"] : List Str).Nodup := by decide +kernel
theorem abg{cs : List Addr}(nd : cs.Nodup){i j : Nat}{c : Addr}(h1 : cs[i]?=some c)(h2 : cs[j]?=some c) : i=j := by
  obtain⟨k1, e1⟩ := afu.mp h1
  obtain⟨k2, e2⟩ := afu.mp h2
  exact(getElem_inj nd).mp (e1.trans e2.symm)
theorem Jr.put{abh : Nat→List Int}(r : Jr H cs row)(nd : cs.Nodup)(hc : cs[j]?=some c)(e : abh j=xs)(e' : ∀k, k≠j→abh k=row k) : Jr (upd H c (.lst (xs.map V.int))) cs abh := λk d hd => by
  by_cases hk : k=j
  · subst hk
    rw[hc] at hd
    cases hd
    rw[aY, e]
  · rw[aP (λz => hk (abg nd hd (by rw[z];exact hc))), e' k hk]
    exact r k d hd
theorem adw(F : gn K "sources_of" "sources_of" xr f fd)(B : Bl K mg) : bY P w K mg base jE 1 f fd ["steps"] (aew K) := by
  refine F.ok Vf (λvs H Q E h => ?_) (λcdv A outer s H vs Q E hr h => ?_)
  · obtain⟨a, bs, xss, rfl, _⟩ := h
    rfl
  obtain⟨a, bs, xss, rfl, hS, hR, h60, hV, q⟩ := h
  have hbl : (bs.map V.ref).length=xss.length := by rw[length_map];exact hR.1
  refine⟨_, ak (jh (i := 1) (own := ["stand"]) (ix := []) Vf.nd rfl rfl rfl rfl rfl (Gn (pv 0)) (λC s H fp => bN (i := 0) aex rfl (Or.inl rfl)) (λC s H fp => dD) (λC s H fp => cX aA))
    (ak (jH af5 rfl (Nu rfl B.enum (aj (pv 0) aA)) (nH rfl (cG (bN (i := 2) Vf.nd rfl (Or.inl rfl)) (cG (bN (i := 3) Vf.nd rfl (Or.inl rfl)) iu)))
      (jG (jH af5 rfl (Gn (pv 3)) (bN (i := 4) Vf.nd rfl (Or.inl rfl))
        (jG (cP (Zo afn agh agi kZ (eG Nm (pv 1) (pv 4) (λ_ _ => rfl)) (aj (pv 2) aA)))))))
    (jG (bJ (pv 1)))), ?_⟩
  refine⟨_, rfl, a, rfl, ⟨_, hS⟩, Qm (K := K) (a := a) (xs := bs.map V.ref) (λi ys σ H2 => ∃(cs : List Addr)(v : Option V), ys=cs.map V.ref∧σ=[v]∧Same H H2∧News H H2 cs (replicate i [])∧cs.length=i)
    ⟨[], none, rfl, rfl, Same.refl H, News.nil, rfl⟩ (λi ys σ H2 _ ⟨cs, v, e, _, s2, _, hi⟩ => ⟨s2.seq hS, by rw[e, length_map, hi];exact afj _⟩) (Em (by omega)) ?_ ?_⟩
  · rintro i y ys σ H2 hi ⟨cs, v, rfl, rfl, s2, hN, hci⟩
    refine Tn ?_
    refine⟨(by show 0≤sizeLine;decide), λl hl' => ?_⟩
    refine⟨cs++[l], _, by rw[map_append]<;>rfl, rfl, s2.trans (dI hl' _), ?_, by rw[length_append, hci]<;>rfl⟩
    have e : replicate (i+1) ([] : List V)=replicate i []++[[]] := List.replicate_succ'
    rw[e]
    exact hN.snoc s2 hl'
  rintro ys σ H2 ⟨cs, v, rfl, rfl, s2, hN, hci⟩ r hr0
  have hcl : cs.length=xss.length := by rw[hci, hbl]
  have s3 : Same H (upd H2 r (.lst (cs.map V.ref))) := s2.trans (dI hr0 _)
  have hrH : H r=none := s2.free hr0
  have nrc : r∉cs := hN.ac6 hr0
  have R0 : Jr (upd H2 r (.lst (cs.map V.ref))) cs (src (xss.take 0)) := λj c hc => by
    obtain⟨xs, h1, h2⟩ := hN.at_ j c hc
    have e : xs=[] := by
      rw[getElem?_replicate] at h1
      split at h1
      · exact(afm h1).symm
      · cases h1
    subst e
    rw[aP (λz => nrc (by rw[← z];exact mem_of_getElem? hc)), h2]
    rfl
  refine⟨_, rfl, a, rfl, ⟨_, s3.seq hS⟩, Tf (K := K) (a := a) (xs := bs.map V.ref) (λi σ H4 => ∃u v t, σ=[some (.ref a), some (.ref r), u, v, t]∧Same H H4∧H4 r=some (.lst (cs.map V.ref))∧Jr H4 cs (src (xss.take i)))
    ⟨none, none, none, rfl, s3, aY, R0⟩ (λi σ H4 _ ⟨_, _, _, _, s4, _⟩ => s4.seq hS) ?_ ?_⟩
  · rintro i x t σ H4 hi ht ⟨u, v, t', rfl, s4, hr4, R4⟩
    obtain⟨b, rfl, hb⟩ := aaw hi
    obtain⟨xs, hx, hsq⟩ := hR.2 i b hb
    obtain⟨ne, nd, len, vr⟩ := hV.2 xs (mem_of_getElem? hx)
    have il := bK hx
    have st : Same H4 (upd H4 t (.tup [.int i, .ref b])) := dI ht _
    have s5 := s4.trans st
    refine⟨t, _, rfl, zN.of aY, rfl, _, _, rfl, _, _, rfl, rfl, ?_⟩
    refine⟨_, rfl, b, rfl, ⟨_, s5.seq hsq⟩, RP (K := K) (a := b) (xs := xs.map V.int) (λm σ H6 => ∃tt, σ=[some (.ref a), some (.ref r), some (.int i), some (.ref b), tt]∧Same H H6∧H6 r=some (.lst (cs.map V.ref)) ∧
      Jr H6 cs λj => src (xss.take i) j++(if(j : Int)∈xs.take m then[(i : Int)] else[])) ⟨t', rfl, s5, st _ _ hr4, λj c hc => ?_⟩ (λm σ H6 _ ⟨_, _, s6, _⟩ => s6.seq hsq) ?_ ?_⟩
    · rw[st _ _ (R4 j c hc)]
      simp
    · rintro m y σ H6 hm ⟨tt, rfl, s6, hr6, R6⟩
      obtain⟨z, rfl, hz⟩ := int_at hm
      obtain⟨z0, z1⟩ := vr z (mem_of_getElem? hz)
      have zl : z.toNat<cs.length := by rw[hcl];omega
      have hc : cs[z.toNat]?=some cs[z.toNat] := afi zl
      have hz' : ((z.toNat : Nat) : Int)=z := by omega
      have hrow := R6 z.toNat _ hc
      have hno : ¬z∈xs.take m := Bp nd hz
      simp only[hz', if_neg hno, append_nil] at hrow
      have hix : jL (cs.map V.ref) z=some (.ref cs[z.toNat]) := by
        have := Xm (XD hc)
        rw[hz'] at this
        exact this
      refine⟨_, rfl, _, rfl, r, _, z, _, rfl, rfl, gj.of hr6, hix, .inl ⟨rfl, _, gj.of hrow⟩, _, rfl, _, _, _, rfl, rfl, hrow, ?_, ?_⟩
      · have := XC (xss.take i) z.toNat
        rw[length_take] at this
        refine Em ?_
        rw[length_map]
        omega
      · have cH : H cs[z.toNat]=none := hN.new _ (mem_of_getElem? hc)
        have cr : r≠cs[z.toNat] := λe => nrc (by rw[e];exact mem_of_getElem? hc)
        refine⟨_, rfl, s6.put cH _, by rw[aP cr];exact hr6, ?_⟩
        have em : (src (xss.take i) z.toNat).map V.int++[V.int i]=(src (xss.take i) z.toNat++[(i : Int)]).map V.int := by rw[map_append]<;>rfl
        rw[em]
        refine R6.put hN.nd hc ?_ λk hk => ?_
        · rw[hz', if_pos ((lG hz).mpr (.inr rfl))]
        · have hk' : ((k : Int)∈xs.take (m+1))=((k : Int)∈xs.take m) := by
            rw[lG hz]
            refine propext ⟨λh => h.elim id λe => absurd (by omega) hk, .inl⟩
          simp only[hk']
    · rintro σ H6 ⟨tt, rfl, s6, hr6, R6⟩
      refine⟨_, _, _, rfl, s6, hr6, λj c hc => ?_⟩
      rw[R6 j c hc, T5 hx j, length_map, take_length]
  · rintro σ H4 ⟨u, v, t, rfl, s4, hr4, R4⟩
    refine⟨_, rfl, ?_⟩
    have e : xss.take (bs.map V.ref).length=xss := by rw[hbl];exact take_length
    rw[e] at R4
    exact q r cs H4 s4 hrH hr4 hcl R4 hN.new
end
structure JC(K : afh)(x qual : Str)(st : Stmt)(dV : Value)(f : Addr)(fd : FuncData) : Prop where
  ex : ∃(oc : Value)(od : Option Addr)(kV doc pm : Value)(an : Option Addr)(cdv ct : Value)(osl : Array (Option Value)),
    fd=agl x qual (iy st) (dB st) (aH st) dV kV doc pm an cdv ct∧K.lookup f=some ⟨oc, od, .func fd, osl⟩∧ah3 K cdv qual=true
  kp : agw K (.ref f)=true
section
variable{P : Program}{w : World}{K : afh}{mg : Str→Option Value}{base : Heap}
theorem JC.ok(F : JC K x qual st dV f fd)(S : bf N ps (aH st))(len : ∀vs H Q E, sp vs H Q E→vs.length=ps.length)(hbody : ∀(cdv : Value) (A : Around) (outer : List Env) (s : Shared) (H : Hp) (vs : List V) (Q : VK) (E : XK), f9 k (A.deeper (agp qual (aH st) s.heap.objs.size f cdv))→sp vs H Q E →
      ∃t, xY (nJ jE P w K mg base N qual (aH st) f cdv A outer s H E).rB (dB st) t∧t { nx := λ_ H' => Q .non H', rt := Q } (start N vs) H) : bY P w K mg base jE (k+1) f fd ps sp := by
  obtain⟨oc, od, kV, doc, pm, an, cdv, ct, osl, rfl, lk, hcd⟩ := F.ex
  refine Jf lk hcd S len λA outer s H vs Q E hr hsp => ?_
  obtain⟨t, h, q⟩ := hbody cdv A outer s H vs Q E hr hsp
  exact⟨t, h.rB, q⟩
structure Cl(K : afh)(mg : Str→Option Value)(C : Addr) : Prop where
  cl : Cls K C
  nS : jK K C "steps"
  nM : jK K C "marks"
  nF : jK K C "fair"
  nB : jK K C "sources"
  mgC : mg "Machine" = some (.ref C)
theorem Vg : bf ["self", "steps", "marks", "fair", "given_marks", "given_fair"] ["self", "steps", "marks", "fair"] (aH Oq) := ⟨rfl, rfl, rfl, by decide +kernel, rfl, by decide +kernel, by decide +kernel⟩
theorem adx : (["name", "stands"] : List Str).Nodup := by decide +kernel
theorem lW(f : Str)(v : V) : ∀fs : List (Str×V), (cA f v fs).length≤fs.length+1
  |[] => afj _
  | (g, x)::r => by
    unfold cA
    split
    · exact ahn _
    · exact ahg (lW f v r)
theorem Ot : ∀{vs : List V}{xss : List (List Int)}, A2 (rp K R) vs xss→∃bs : List Addr, vs=bs.map V.ref∧Jq K R bs xss
  |[], [], _ => ⟨[], rfl, rfl, λi b h => by simp at h⟩
  |v::vs, xs::xss, h => by
    obtain⟨bs, e, h1, h2⟩ := Ot h.2
    obtain⟨p, ws, rfl, h3, h4⟩ := h.1
    have h5 : ws=xs.map V.int := h4.vals
    refine⟨p::bs, by rw[e, map_cons], by rw[length_cons, length_cons, h1], λi b hb => ?_⟩
    cases i with
    |zero => simp at hb;subst hb;exact⟨xs, rfl, gj.of (by rw[h3, h5])⟩
    |succ i => exact h2 i b (by simpa using hb)
  |[], _::_, h => h.elim
  |_::_, [], h => h.elim
noncomputable def fSo(xss : LLI) : Option LLI := if xss.length≤60∧Valid xss.length xss then some (srcs xss) else none
theorem abj(F : gn K "sources_of" "sources_of" xr f fd)(B : Bl K mg) : bY P w K mg base jE 1 f fd ["steps"] (nD K false (λa : LLI×Unit => ([.fz false a.1] : List (Slot K))) λa => fSo a.1) := by
  refine(adw F B).imp λvs H Q E h => ?_
  obtain⟨⟨xss, ⟨⟩⟩, b, Fa, s, hb, r, q⟩ := h
  have hb : fSo xss=some b := hb
  unfold fSo at hb
  split at hb
  case isFalse => cases hb
  rename_i hv
  cases hb
  cases r with
  |cons r1 r2 =>
    cases r2
    obtain⟨a, ws, rfl, h1, h2⟩ := r1
    obtain⟨bs, rfl, h3⟩ := Ot (K := K) h2
    refine⟨a, bs, xss, rfl, gj.of (s _ _ h1), h3.same s, hv.1, hv.2, λrr cs H' s' hr e l R N => q _ _ s' ?_⟩
    refine⟨rr, _, rfl, by show dif H' H rr=_;rw[iR hr];exact e, ?_⟩
    exact XJ (K := K) l R λc hc o e => by show dif H' H c=_;rw[iR (N c hc)];exact e
theorem abk{fS : LLI→Option Unit}{fM : W5→Int→Option Unit}{fF : LLI→Int→Option Unit}{fC fO : LLI→Option LLI}(F : JC K "__init__" "Machine.__init__" Oq dV f fd)(T : Cl K mg C)(B : Bl K mg)(CS : mJ P w K mg base k "check_steps" ["steps"] (nD K false (λa : LLI×Unit => ([.fz false a.1] : List (Slot K))) λa => fS a.1))(CM : mJ P w K mg base k "check_marks" ["marks", "many"] (nD K false (λa : W5×Int×Unit => ([.fz false a.1, .fz false a.2.1] : List (Slot K))) λa => fM a.1 a.2.1))(CF : mJ P w K mg base k "check_fair" ["fair", "many"] (nD K false (λa : LLI×Int×Unit => ([.fz false a.1, .fz false a.2.1] : List (Slot K))) λa => fF a.1 a.2.1))(CC : mJ P w K mg base k "copied" ["lists"] (nD K false (λa : LLI×Unit => ([.fz false a.1] : List (Slot K))) λa => fC a.1))(CO : mJ P w K mg base k "sources_of" ["steps"] (nD K false (λa : LLI×Unit => ([.fz false a.1] : List (Slot K))) λa => fO a.1)) :
    bY P w K mg base jE (k+1) f fd ["self", "steps", "marks", "fair"] (Jw K C (mkG C fS fM fF fC fO)) := by
  refine F.ok Vg (λvs H Q E h => ?_) (λcdv A outer s H vs Q E hr h => ?_)
  · obtain⟨p, dx, vS, vM, vF, xss, mo, fo, M, rfl, _⟩ := h
    rfl
  obtain⟨p, dx, vS, vM, vF, xss, mo, fo, M, rfl, hp, rS, rM, rF, hm, q⟩ := h
  unfold mkG at hm
  obtain⟨⟨⟩, e1, hm⟩ := lH hm
  obtain⟨⟨⟩, e2, hm⟩ := lH hm
  obtain⟨⟨⟩, e3, hm⟩ := lH hm
  obtain⟨a, e4, hm⟩ := lH hm
  obtain⟨b, e5, hm⟩ := lH hm
  obtain⟨c, e6, hm⟩ := lH hm
  obtain⟨d, e7, hm⟩ := lH hm
  cases hm
  refine⟨_, ak (Ba (i := 4) Vg.nd rfl (Or.inl rfl) (wH (rA (Gj (pv 2))) (cX aA) (pv 2)))
    (ak (Ba (i := 5) Vg.nd rfl (Or.inl rfl) (wH (rA (Gj (pv 3))) (cX aA) (pv 3)))
    (ak (cP (cj CS hr (aj (pv 1) aA)))
    (ak (cP (cj CM hr (aj (pv 4) (aj (aO (dF K) rfl B.len afp (aj (pv 1) aA)) aA))))
    (ak (cP (cj CF hr (aj (pv 5) (aj (aO (dF K) rfl B.len afp (aj (pv 1) aA)) aA))))
    (ak (u5 (pv 0) (cj CC hr (aj (pv 1) aA)) rfl)
    (ak (u5 (pv 0) (fB (own := ["name", "stands"]) (ix := []) rfl rfl rfl (cN K (pv 4)) (λC s H fp => GC (K := K) (n := 2) rfl rfl (cG (bN (i := 0) adx rfl (Or.inl rfl)) (cG (bN (i := 1) adx rfl (Or.inl rfl)) iu))) (λC s H fp => dD)
      (λC s H fp => iQ (aj (pv 0) (aj (dj (qD K) rfl B.list qz (aj (pv 1) aA)) aA)))) rfl)
    (ak (u5 (pv 0) (cj CC hr (aj (pv 5) aA)) rfl)
    (jG (u5 (pv 0) (cj CO hr (aj (RZ (pv 0) rfl) aA)) rfl))))))))), ?_⟩
  have sg0 : Sg (K := K) ⟨hid H p, H⟩ (hid H p) [.fz false (lV.mk () : lV p), .fz false xss, .fz false mo, .fz false fo, .un, .un] [some (.ref p), some vS, some vM, some vF, none, none] H :=
    ⟨hid H p, [], .refl _, K_ (.fz (show rp K _ _ (lV.mk () : lV p) from rfl) (.fz rS (.fz rM (.fz rF (.un (.un .nil))))))⟩
  refine(Sn.of (bR false 4 rfl rfl (GF (rJ (md := .hp) (GK (aF 2 rfl))) (Eo.ex (lg (α := Str×List Int))) (GP (bU 2 rfl)))) (show _=some (mo.getD []) by cases mo<;>rfl)) _ rfl (hid H p) _ _ H sg0 λσ1 H1 sg1 => ?_
  refine(Sn.of (bR false 5 rfl rfl (GF (rJ (md := .hp) (GK (aF 3 rfl))) (Eo.ex (lg (α := List Int))) (GP (bU 3 rfl)))) (show _=some (fo.getD []) by cases fo<;>rfl)) _ rfl (hid H p) _ _ H1 sg1 λσ2 H2 sg2 => ?_
  refine(Sn.of (mX (md := .hp) (bA (f := λa : LLI×Unit => fS a.1) (aG (aF 1 rfl) aV))) (show _=fS xss from rfl)) () e1 (hid H p) _ _ H2 sg2 λσ3 H3 sg3 => ?_
  refine(Sn.of (mX (md := .hp) (bA (f := λa : W5×Int×Unit => fM a.1 a.2.1) (aG (aF 4 rfl) (aG (Ex.sc (md := .hp) (dH (aF 1 rfl))) aV)))) (show _=fM (mo.getD []) (xss.length : Int) from rfl)) () e2 (hid H p) _ _ H3 sg3 λσ4 H4 sg4 => ?_
  refine(Sn.of (mX (md := .hp) (bA (f := λa : LLI×Int×Unit => fF a.1 a.2.1) (aG (aF 5 rfl) (aG (Ex.sc (md := .hp) (dH (aF 1 rfl))) aV)))) (show _=fF (fo.getD []) (xss.length : Int) from rfl)) () e3 (hid H p) _ _ H4 sg4 λσ5 H5 sg5 => ?_
  obtain⟨F5, O5, g5, k5, s5⟩ := sg5
  have s5 : aJ (K := K) ⟨hid H p, H⟩ F5 (lo F5 O5 H5) H5 [.fz false (lV.mk () : lV p), .fz false xss, .fz false mo, .fz false fo, .fz false (mo.getD []), .fz false (fo.getD [])] σ5 O5 := s5
  cases s5 with|fz r0 s5 =>
  cases s5 with|fz r1 s5 =>
  cases s5 with|fz r2 s5 =>
  cases s5 with|fz r3 s5 =>
  cases s5 with|fz r4 s5 =>
  cases s5 with|fz r5 s5 =>
  cases s5
  rename_i v0 v1 v2 v3 v4 v5
  have r0 : v0=.ref p := r0
  subst r0
  have hF : Same F5 (hid H5 p) := λb o e => by
    by_cases z : b=p
    · subst z
      rcases k5.fa b o e with z|z
      · have z : hid H b b=some o := z
        rw[yC] at z
        cases z
      · have z : H b=none := z
        rw[hp] at z
        cases z
    · rw[vH z];exact k5.fh b o e
  have r1 : rp K (hid H5 p) v1 xss := Rp.mono hF r1
  have r2 : rp K (hid H5 p) v2 mo := Rp.mono hF r2
  have r3 : rp K (hid H5 p) v3 fo := Rp.mono hF r3
  have r4 : rp K (hid H5 p) v4 (mo.getD []) := Rp.mono hF r4
  have r5 : rp K (hid H5 p) v5 (fo.getD []) := Rp.mono hF r5
  have s05 : Same H H5 := k5.h0
  have hp5 : H5 p=some (.ins C dx []) := s05 _ _ hp
  refine⟨_, rfl, (xss, ()), a, H5, .refl _, e4, .cons (Rp.mono Bu r1) .nil, λy1 H6 s6 t1 => ?_⟩
  have t1 : rp K (dif H6 H5) y1 a := t1
  have hp6 := s6 _ _ hp5
  refine⟨_, rfl, p, C, dx, [], rfl, hp6, T.cl, T.nS, (by show 0<1000;decide), ?_⟩
  have f1 := Rp.mono (G5 (H := H) (p := p) (λb o _ e => s05 b o e) (by rw[hp5];intro z;cases z)) t1
  have kp6 : ∀b o, b≠p→H b=some o→(upd H6 p (.ins C dx (cA "steps" y1 []))) b=some o := λb o n e => by rw[aP n];exact s6 _ _ (s05 _ _ e)
  have h6 : Same (hid H5 p) (hid (upd H6 p (.ins C dx (cA "steps" y1 []))) p) := by rw[oW];exact pN s6
  have E2 : Ex (K := K) ⟨hid (upd H6 p (.ins C dx (cA "steps" y1 []))) p, upd H6 p (.ins C dx (cA "steps" y1 []))⟩ [.fz false (lV.mk () : lV p), .fz false xss, .fz false mo, .fz false fo, .fz false (mo.getD []), .fz false (fo.getD [])] .nw _ _ :=
    (cY (n := false) (lu := [.un, .un]) (no := 2) (ix := []) rfl rfl (cM (bU 4 rfl)) (nU 0 1 rfl rfl (λ_ => rfl) rfl) (λx => gP) (λx => jN (aq 0 rfl) (nZ (aF 1 rfl)).ex) (λx => Ir.un (Ir.un Ir.nil))).ex
  refine E2 b e5 (hid (upd H6 p (.ins C dx (cA "steps" y1 []))) p) [] _ _ _ (K_ (.fz (show rp K _ _ (lV.mk () : lV p) from rfl) (.fz (Rp.mono h6 r1) (.fz (Rp.mono h6 r2) (.fz (Rp.mono h6 r3) (.fz (Rp.mono h6 r4) (.fz (Rp.mono h6 r5) .nil))))))) λy2 F7 H7 g7 t2 => ?_
  have s7 := g7.hh
  have t2 : rp K (dif H7 (upd H6 p (.ins C dx (cA "steps" y1 [])))) y2 b := Rp.mono (fK g7.ok.fh) t2
  have hp7 : H7 p=some (.ins C dx (cA "steps" y1 [])) := s7 _ _ aY
  refine⟨_, rfl, p, C, dx, _, rfl, hp7, T.cl, T.nM, (by show 1<1000;decide), ?_⟩
  have f2 := Rp.mono (G5 (H := H) (p := p) kp6 (by rw[aY];intro z;cases z)) t2
  have kp7 : ∀b o, b≠p→H b=some o→(upd H7 p (.ins C dx (cA "marks" y2 (cA "steps" y1 [])))) b=some o := λb o n e => by rw[aP n];exact s7 _ _ (kp6 _ _ n e)
  have h7 : Same (hid (upd H6 p (.ins C dx (cA "steps" y1 []))) p) (hid (upd H7 p (.ins C dx (cA "marks" y2 (cA "steps" y1 [])))) p) := by rw[oW (H := H7)];exact pN s7
  refine⟨_, rfl, (fo.getD [], ()), c, _, .refl _, e6, .cons (Rp.mono (h6.trans (h7.trans Bu)) r5) .nil, λy3 H8 s8 t3 => ?_⟩
  have t3 : rp K (dif H8 (upd H7 p (.ins C dx (cA "marks" y2 (cA "steps" y1 []))))) y3 c := t3
  have hp8 : H8 p=some (.ins C dx (cA "marks" y2 (cA "steps" y1 []))) := s8 _ _ aY
  have l2 : (cA "marks" y2 (cA "steps" y1 [])).length<1000 := by
    have a1 := lW "marks" y2 (cA "steps" y1 [])
    have a2 := lW "steps" y1 []
    have a3 : ([] : List (Str×V)).length=0 := rfl
    omega
  refine⟨_, rfl, p, C, dx, _, rfl, hp8, T.cl, T.nF, l2, ?_⟩
  have f3 := Rp.mono (G5 (H := H) (p := p) kp7 (by rw[aY];intro z;cases z)) t3
  have kp8 : ∀b o, b≠p→H b=some o→(upd H8 p (.ins C dx (cA "fair" y3 (cA "marks" y2 (cA "steps" y1 []))))) b=some o := λb o n e => by rw[aP n];exact s8 _ _ (kp7 _ _ n e)
  have h8 : Same (hid (upd H7 p (.ins C dx (cA "marks" y2 (cA "steps" y1 [])))) p) (hid (upd H8 p (.ins C dx (cA "fair" y3 (cA "marks" y2 (cA "steps" y1 []))))) p) := by rw[oW (H := H8)];exact pN s8
  have lk : (cA "fair" y3 (cA "marks" y2 (cA "steps" y1 []))).lookup ("steps" : Str)=some y1 := by
    rw[cO, if_neg (by decide +kernel), cO, if_neg (by decide +kernel), cO, if_pos rfl]
  have d1 : Same (dif (hid H6 p) (hid H p)) (hid (upd H8 p (.ins C dx (cA "fair" y3 (cA "marks" y2 (cA "steps" y1 []))))) p) := eU.trans ((by rw[oW];exact .refl _ : Same (hid H6 p) (hid (upd H6 p (.ins C dx (cA "steps" y1 []))) p)).trans (h7.trans h8))
  refine⟨_, rfl, p, C, dx, _, _, rfl, aY, T.cl, T.nS, lk, (a, ()), d, _, .refl _, e7, .cons (Rp.mono (d1.trans Bu) f1) .nil, λy4 H9 s9 t4 => ?_⟩
  have t4 : rp K (dif H9 (upd H8 p (.ins C dx (cA "fair" y3 (cA "marks" y2 (cA "steps" y1 [])))))) y4 d := t4
  have hp9 : H9 p=some (.ins C dx (cA "fair" y3 (cA "marks" y2 (cA "steps" y1 [])))) := s9 _ _ aY
  have l3 : (cA "fair" y3 (cA "marks" y2 (cA "steps" y1 []))).length<1000 := by
    have a0 := lW "fair" y3 (cA "marks" y2 (cA "steps" y1 []))
    have a1 := lW "marks" y2 (cA "steps" y1 [])
    have a2 := lW "steps" y1 []
    have a3 : ([] : List (Str×V)).length=0 := rfl
    omega
  refine⟨_, rfl, p, C, dx, _, rfl, hp9, T.cl, T.nB, l3, ?_⟩
  have f4 := Rp.mono (G5 (H := H) (p := p) kp8 (by rw[aY];intro z;cases z)) t4
  have kp9 : ∀b o, b≠p→H b=some o→(upd H9 p (.ins C dx (cA "sources" y4 (cA "fair" y3 (cA "marks" y2 (cA "steps" y1 [])))))) b=some o := λb o n e => by rw[aP n];exact s9 _ _ (kp8 _ _ n e)
  have u9 : Same (hid H9 p) (upd H9 p (.ins C dx (cA "sources" y4 (cA "fair" y3 (cA "marks" y2 (cA "steps" y1 [])))))) := (by rw[oW];exact .refl _ : Same (hid H9 p) (hid (upd H9 p (.ins C dx (cA "sources" y4 (cA "fair" y3 (cA "marks" y2 (cA "steps" y1 [])))))) p)).trans Bu
  have u8 : Same (hid H8 p) (hid H9 p) := (by rw[oW];exact .refl _ : Same (hid H8 p) (hid (upd H8 p (.ins C dx (cA "fair" y3 (cA "marks" y2 (cA "steps" y1 []))))) p)).trans (pN s9)
  have u7 : Same (hid H7 p) (hid H8 p) := (by rw[oW];exact .refl _ : Same (hid H7 p) (hid (upd H7 p (.ins C dx (cA "marks" y2 (cA "steps" y1 [])))) p)).trans (pN s8)
  have u6 : Same (hid H6 p) (hid H7 p) := (by rw[oW];exact .refl _ : Same (hid H6 p) (hid (upd H6 p (.ins C dx (cA "steps" y1 []))) p)).trans (pN s7)
  refine q _ kp9 ⟨p, dx, cA "sources" y4 (cA "fair" y3 (cA "marks" y2 (cA "steps" y1 []))), y1, y2, y3, y4, rfl, ?_, ?_, Rp.mono (fK (u6.trans (u7.trans (u8.trans u9)))) f1, ?_, Rp.mono (fK (u7.trans (u8.trans u9))) f2, ?_, Rp.mono (fK (u8.trans u9)) f3, ?_, Rp.mono (fK u9) f4, ?_⟩
  · rw[iR yC];exact aY
  · rw[cO, if_neg (by decide +kernel)];exact lk
  · rw[cO, if_neg (by decide +kernel), cO, if_neg (by decide +kernel), cO, if_pos rfl]
  · rw[cO, if_neg (by decide +kernel), cO, if_pos rfl]
  · rw[cO, if_pos rfl]
  · intro g hg
    simp only[mth, mem_cons, List.not_mem_nil, or_false] at hg
    rcases hg with rfl|rfl|rfl|rfl|rfl|rfl<;>(rw[cO, if_neg (by decide +kernel), cO, if_neg (by decide +kernel), cO, if_neg (by decide +kernel), cO, if_neg (by decide +kernel)];rfl)
end
end Ts
set_option maxHeartbeats 40000000
namespace Ts
open PySem L2
section
variable{P : Program}{w : World}{K : afh}{mg : Str→Option Value}{base : Heap}
def ou(q0 : Int)(q1 : Int) : Option Bool := if true=true then if(!false)=true then if decide ((0 : Int)≤q0)=true then some (decide (q0<q1)) else some false else some false else some false
theorem zy : bf ["thing", "many"] ["thing", "many"] (aH n_) := fsc
abbrev Cd(K : afh) : Sp := nD K false (λa : Int×Int×Unit => ([.z a.1, .z a.2.1] : List (Slot K))) (λa => ou a.1 a.2.1)
theorem JD(F : gn K "is_stand" "is_stand" n_ f fd)(B : Bl K mg) : bY P w K mg base jE (k+1) f fd ["thing", "many"] (Cd K) := by
  refine dX F zy (λ_ => rfl) (λ_ => rfl) λcdv A outer s H E hr => ?_
  have nd := zy.nd
  refine⟨_, (ak (bJ (uV (aO (Bq K (vh (n := "int"))) rfl B.Js gV (aj (pv 0) (aj (ql (v := .ty "int") rfl B.int yu rfl) aA))) (uV (RK (aO (Bq K (vh (n := "bool"))) rfl B.Js gV (aj (pv 0) (aj (ql (v := .ty "bool") rfl B.bool NZ rfl) aA)))) (A_ (wJ DW Ja aL (pv 0) (pv 1)))))) aD), ?_⟩
  rintro Fa ⟨q0, q1, ⟨⟩⟩
  exact SB.of (cL (esc (vq (K6 B.ii rfl (aq 0 rfl)) (vq (Tw (K6 B.ib rfl (aq 0 rfl))) (wU (f := (λi j => decide (i≤j))) (g := (λi j => decide (i<j))) (aK 0) (aq 0 rfl) (aq 1 rfl)))))) (by unfold ou;simp only[bnd])
def eH(q0 : List Int)(q1 : Int)(q2 : Str) : Option Unit := (some ()).bind λvV => ((some q0).bind λxs => foldM (λ(s2 : List (Key×Bool)) (x4 : Int) => (((ou x4 q1).bind λa5 => some (!a5)).bind λb => if b=true then none else some ()).bind λs6 => (if((vC (Dc.mk s2).kv x4).isSome)=true then none else some ()).bind λs8 => (dput s2 x4 true).bind λqJ => some qJ) xs (([] : List (Key×Bool)))).bind λs3 => some ()
theorem qU : bf ["stands", "many", "where", "ahead", "stand"] ["stands", "many", "where"] (aH gY) := fsc
abbrev jV(K : afh) : Sp := nD K false (λa : (List Int)×Int×Str×Unit => ([.z a.1, .z a.2.1, .z a.2.2.1] : List (Slot K))) (λa => eH a.1 a.2.1 a.2.2.1)
theorem zU(F : gn K "check_stands" "check_stands" gY f fd)(B : Bl K mg)(Lp : mJ P w K mg base k "is_stand" ["thing", "many"] (Cd K)) : bY P w K mg base jE (k+1) f fd ["stands", "many", "where"] (jV K) := by
  refine uq F qU (λ_ => rfl) (λ_ => rfl) λcdv A outer s H E hr => ?_
  have nd := qU.nd
  have hu := Nr hr
  refine⟨_, (ak (cg 3 nd wK) (ak (jH af5 rfl (cN K (pv 0)) (jF 4 nd) (ak (dh (qm (kW (cj Lp hr (aj (pv 4) (aj (pv 1) aA))))) eX aD) (ak (dh (rA (Gq hu (pv 4) (pv 3))) eX aD) (ak (Af hu (pv 3) (pv 4) pH rfl) aD)))) aD)), ?_⟩
  rintro Fa ⟨q0, q1, q2, ⟨⟩⟩
  exact⟨_, Sn.of (bB (Ah (α := Bool) 3 rfl rfl) (λvV => (bB (lq (n := false) (L := (λs2 : List (Key×Bool) => ([.z q0, .z q1, .z q2, .od (s2 : List (Key×Bool)), .un] : List (Slot K)))) (([] : List (Key×Bool))) eV (cM (bU 0 rfl)) (λs2 => (bO 4 rfl rfl)) (λs2 x4 => (bB (iW (vp (rJ (md := .hp) (bA (aG (esc (aq 4 rfl)) (aG (esc (aq 1 rfl)) aV))))) gW (bQ (λs7 : Unit => ([.z q0, .z q1, .z q2, .od (s2 : List (Key×Bool)), .z x4] : List (Slot K))) () eV)) (λs6 => (bB (iW (rJ (md := .hp) (Ua (aq 4 rfl) (Ai 3 rfl))) gW (bQ (λs9 : Unit => ([.z q0, .z q1, .z q2, .od (s2 : List (Key×Bool)), .z x4] : List (Slot K))) () eV)) (λs8 => (bB (N_ 3 rfl rfl (esc (wO true)) (aq 4 rfl)) (λqJ => (bQ (λs2 : List (Key×Bool) => ([.z q0, .z q1, .z q2, .od (s2 : List (Key×Bool)), .un] : List (Slot K))) qJ eV))))))))) (λs3 => (bQ (λ_ : Unit => ([.un, .un, .un, .un, .un] : List (Slot K))) () eV))))) (by unfold eH;simp only[bnd])⟩
def jc(q0 : List (List Int)) : Option Unit := (some (q0.length : Int)).bind λmany1 => ((if(decide (many1<(1 : Int)))=true then some true else some (decide ((60 : Int)<many1))).bind λb => if b=true then none else some ()).bind λs2 => ((some (bT q0)).bind λxs => foldM (λ(s4 : Unit) (x6 : Int×(List Int)) => (((((Rw "steps of stand " x6.1).bind λa8 => some ((a8, ()))).bind λb9 => some (many1, b9)).bind λb10 => some (x6.2, b10)).bind λz7 => eH z7.1 z7.2.1 z7.2.2.1).bind λu11 => (if(decide ((x6.2.length : Int)=(0 : Int)))=true then none else some ()).bind λs12 => some ()) xs ()).bind λs5 => some ()
theorem sy : bf ["steps", "many", "stand", "targets"] ["steps"] (aH iZ) := fsc
abbrev Du(K : afh) : Sp := nD K false (λa : ((List (List Int)))×Unit => ([.z a.1] : List (Slot K))) (λa => jc a.1)
theorem Ce(F : gn K "check_steps" "check_steps" iZ f fd)(B : Bl K mg)(lN : mg "MOST_STANDS" = some (.int 60 Dv))(gZ : mJ P w K mg base k "check_stands" ["stands", "many", "where"] (jV K)) : bY P w K mg base jE (k+1) f fd ["steps"] (Du K) := by
  refine uq F sy (λ_ => rfl) (λ_ => rfl) λcdv A outer s H E hr => ?_
  have nd := sy.nd
  refine⟨_, (ak (cg 1 nd (aO (dF K) rfl B.len afp (aj (pv 0) aA))) (ak (dh (PW.pt (pw_or (aZ Ja (pv 1) aL (bG _)) (pw_or1 (aZ Jb (pv 1) (dZ (v := .int 60) rfl lN ⟨_, rfl⟩) (bG _))))) eX aD) (ak (jH af5 rfl (uo K B.enum (aj (pv 0) aA)) (nH rfl (cG (jF 2 nd) (cG (jF 3 nd) iu))) (ak (cP (cj gZ hr (aj (pv 3) (aj (pv 1) (aj (Ep (pv 2) (by decide)) aA))))) (ak (dh (aZ (cR K Int hr) (aO (dF K) rfl B.len afp (aj (pv 3) aA)) aL (bG _)) eX aD) aD))) aD))), ?_⟩
  rintro Fa ⟨q0, ⟨⟩⟩
  exact⟨_, Sn.of (bB (bR true 1 rfl rfl (esc (dH (aF 0 rfl)))) (λmany1 => (bB (iW (Nx (bw (md := .hp) (TY (aq 1 rfl) (aK 1))) (bw (md := .hp) (Jo (aq 1 rfl) (aK 60)))) gW (bQ (λs3 : Unit => ([.z q0, .y many1, .un, .un] : List (Slot K))) () eV)) (λs2 => (bB (lq (n := false) (L := (λs4 : Unit => ([.z q0, .y many1, .un, .un] : List (Slot K)))) () eV (uh (bU 0 rfl)) (λs4 => (nU 2 3 rfl rfl (λ_ => rfl) rfl)) (λs4 x6 => (bB (mX (md := .hp) (bA (aG (aF 3 rfl) (aG (esc (aq 1 rfl)) (aG (esc (G4 "steps of stand " (aq 2 rfl))) aV))))) (λu11 => (bB (iW (bw (md := .hp) (cT (dH (aF 3 rfl)) (aK 0))) gW (bQ (λs13 : Unit => ([.z q0, .y many1, .z x6.1, .z x6.2] : List (Slot K))) () eV)) (λs12 => (bQ (λs4 : Unit => ([.z q0, .y many1, .un, .un] : List (Slot K))) () eV))))))) (λs5 => (bQ (λ_ : Unit => ([.un, .un, .un, .un] : List (Slot K))) () eV))))))) (by unfold jc;simp only[bnd])⟩
def eF(q0 : Str) : Option Bool := (if(!true)=true then some true else some (decide (q0∈(["all", "not", "both", "either", "somenext", "eachnext", "sometill", "eachtill", "someever", "eachever"] : List Str)))).bind λb => if b=true then some false else((zQ q0).bind λb1 => if decide ((1 : Int)≤b1)=true then some (decide (b1≤(8 : Int))) else some false).bind λc4 => if c4=true then((some (signs q0)).bind λxs => bL (λ(x2 : Str) => some true) (λ(x2 : Str) => some (XR x2 ("abcdefghijklmnopqrstuvwxyz" : Str))) xs).bind λa3 => some (a3.all id) else some false
theorem Cg : bf ["name"] ["name"] (aH yI) := fsc
abbrev yN(K : afh) : Sp := nD K false (λa : Str×Unit => ([.z a.1] : List (Slot K))) (λa => eF a.1)
theorem Lq(F : gn K "is_name" "is_name" yI f fd)(B : Bl K mg)(QB : mg "LETTERS" = some (.str "abcdefghijklmnopqrstuvwxyz" acf))(Ci : mg "LONGEST_NAME" = some (.int 8 Vh))(Cj : mg "SAYING_WORDS" = some (.ref sE))(Ck : ∀H, zN K H sE ((["all", "not", "both", "either", "somenext", "eachnext", "sometill", "eachtill", "someever", "eachever"] : List Str).map V.str))(QC : mg "all" = none)(vX : mg "str" = none) : bY P w K mg base jE (k+1) f fd ["name"] (yN K) := by
  refine dX F Cg (λ_ => rfl) (λ_ => rfl) λcdv A outer s H E hr => ?_
  have nd := Cg.nd
  refine⟨_, (ak (dh (PW.pt (pw_or (qm (kW (aO (Bq K (vh (n := "str"))) rfl B.Js gV (aj (pv 0) (aj (ql (v := .ty "str") rfl vX vD rfl) aA))))) (pw_or1 (aZ (K7 K) (pv 0) (dZ (v := .ref sE) rfl Cj rfl) (by with_unfolding_all rfl))))) (ak (bJ pH) aD) aD) (ak (bJ (uV (wJ DW DW aL (aO pL rfl B.len afp (aj (pv 0) aA)) (dZ (v := .int 8) rfl Ci ⟨_, rfl⟩)) (A_ (aO (Ew K rfl) rfl QC T6 (aj (fB (own := ["sign"]) (ix := []) rfl rfl rfl (Ub (pv 0)) (λC s H fp => bN (i := 0) (show(["sign"] : List Str).Nodup from by decide +kernel) rfl (Or.inl rfl)) (λC s H fp => dD) (λC s H fp => (wI DX (pv 0) (dZ (v := .str "abcdefghijklmnopqrstuvwxyz") rfl QB ⟨_, rfl⟩) (by with_unfolding_all rfl)))) aA))))) aD)), ?_⟩
  rintro Fa ⟨q0, ⟨⟩⟩
  exact SB.of (nQ (Nx (vp (rJ (md := .hp) (K6 adf rfl (aq 0 rfl)))) (bw (md := .hp) (aay Ck (aq 0 rfl)))) (cL (esc (wO false))) (cL (esc (vq (wU (f := (λi j => decide (i≤j))) (g := (λi j => decide (i≤j))) (aK 1) (wV (aq 0 rfl)) (aK 8)) (Ju (cY (n := true) (lu := [.un]) (no := 1) (ix := []) rfl rfl (Uc (aq 0 rfl)) (bO 0 rfl rfl) (λx2 => gP) (λx2 => (esc (Ud (aq 0 rfl) (aU "abcdefghijklmnopqrstuvwxyz")))) (λx2 => jr)).ex))))) (by unfold eF;simp only[bnd])
def jd(q0 : List (Str×(List Int)))(q1 : Int) : Option Unit := (some ()).bind λvV => ((some q0).bind λxs => foldM (λ(s2 : List (Key×Bool)) (x4 : Str×(List Int)) => (((eF x4.1).bind λa5 => some (!a5)).bind λb => if b=true then none else some ()).bind λs6 => (if((oV (Dc.mk s2).kv x4.1).isSome)=true then none else some ()).bind λs8 => (wW s2 x4.1 true).bind λqJ => (((((XS "mark " x4.1).bind λa12 => some ((a12, ()))).bind λVi => some (q1, Vi)).bind λVj => some (x4.2, Vj)).bind λz11 => eH z11.1 z11.2.1 z11.2.2.1).bind λu15 => some qJ) xs (([] : List (Key×Bool)))).bind λs3 => some ()
theorem sH : bf ["marks", "many", "ahead", "name", "stands"] ["marks", "many"] (aH i_) := fsc
abbrev Dw(K : afh) : Sp := nD K false (λa : ((List (Str×(List Int))))×Int×Unit => ([.z a.1, .z a.2.1] : List (Slot K))) (λa => jd a.1 a.2.1)
theorem Cp(F : gn K "check_marks" "check_marks" i_ f fd)(B : Bl K mg)(gZ : mJ P w K mg base k "check_stands" ["stands", "many", "where"] (jV K))(yO : mJ P w K mg base k "is_name" ["name"] (yN K)) : bY P w K mg base jE (k+1) f fd ["marks", "many"] (Dw K) := by
  refine uq F sH (λ_ => rfl) (λ_ => rfl) λcdv A outer s H E hr => ?_
  have nd := sH.nd
  have hu := Nr hr
  refine⟨_, (ak (cg 2 nd wK) (ak (jH af5 rfl (cN K (pv 0)) (nH rfl (cG (jF 3 nd) (cG (jF 4 nd) iu))) (ak (dh (qm (kW (cj yO hr (aj (pv 3) aA)))) eX aD) (ak (dh (rA (Gq hu (pv 3) (pv 2))) eX aD) (ak (Af hu (pv 2) (pv 3) pH rfl) (ak (cP (cj gZ hr (aj (pv 4) (aj (pv 1) (aj (Ep (pv 3) (by decide)) aA))))) aD))))) aD)), ?_⟩
  rintro Fa ⟨q0, q1, ⟨⟩⟩
  exact⟨_, Sn.of (bB (Ah (α := Bool) 2 rfl rfl) (λvV => (bB (lq (n := false) (L := (λs2 : List (Key×Bool) => ([.z q0, .z q1, .od (s2 : List (Key×Bool)), .un, .un] : List (Slot K)))) (([] : List (Key×Bool))) eV (cM (bU 0 rfl)) (λs2 => (nU 3 4 rfl rfl (λ_ => rfl) rfl)) (λs2 x4 => (bB (iW (vp (rJ (md := .hp) (bA (aG (esc (aq 3 rfl)) aV)))) gW (bQ (λs7 : Unit => ([.z q0, .z q1, .od (s2 : List (Key×Bool)), .z x4.1, .z x4.2] : List (Slot K))) () eV)) (λs6 => (bB (iW (rJ (md := .hp) (Oa (aq 3 rfl) (Ai 2 rfl))) gW (bQ (λs9 : Unit => ([.z q0, .z q1, .od (s2 : List (Key×Bool)), .z x4.1, .z x4.2] : List (Slot K))) () eV)) (λs8 => (bB (Jv 2 rfl rfl (esc (wO true)) (aq 3 rfl)) (λqJ => (bB (mX (md := .hp) (bA (aG (aF 4 rfl) (aG (esc (aq 1 rfl)) (aG (esc (Ug "mark " (aq 3 rfl))) aV))))) (λu15 => (bQ (λs2 : List (Key×Bool) => ([.z q0, .z q1, .od (s2 : List (Key×Bool)), .un, .un] : List (Slot K))) qJ eV))))))))))) (λs3 => (bQ (λ_ : Unit => ([.un, .un, .un, .un, .un] : List (Slot K))) () eV))))) (by unfold jd;simp only[bnd])⟩
def jW(q0 : List (List Int))(q1 : Int) : Option Unit := ((some (bT q0)).bind λxs => foldM (λ(s1 : Unit) (x3 : Int×(List Int)) => (((((Rw "fair set " x3.1).bind λa5 => some ((a5, ()))).bind λb6 => some (q1, b6)).bind λb7 => some (x3.2, b7)).bind λz4 => eH z4.1 z4.2.1 z4.2.2.1).bind λu8 => some ()) xs ()).bind λs2 => some ()
theorem uO : bf ["fair", "many", "number", "stands"] ["fair", "many"] (aH jT) := fsc
abbrev Hv(K : afh) : Sp := nD K false (λa : ((List (List Int)))×Int×Unit => ([.z a.1, .z a.2.1] : List (Slot K))) (λa => jW a.1 a.2.1)
theorem Dy(F : gn K "check_fair" "check_fair" jT f fd)(B : Bl K mg)(gZ : mJ P w K mg base k "check_stands" ["stands", "many", "where"] (jV K)) : bY P w K mg base jE (k+1) f fd ["fair", "many"] (Hv K) := by
  refine uq F uO (λ_ => rfl) (λ_ => rfl) λcdv A outer s H E hr => ?_
  have nd := uO.nd
  refine⟨_, (ak (jH af5 rfl (uo K B.enum (aj (pv 0) aA)) (nH rfl (cG (jF 2 nd) (cG (jF 3 nd) iu))) (ak (cP (cj gZ hr (aj (pv 3) (aj (pv 1) (aj (Ep (pv 2) (by decide)) aA))))) aD)) aD), ?_⟩
  rintro Fa ⟨q0, q1, ⟨⟩⟩
  exact⟨_, Sn.of (bB (lq (n := false) (L := (λs1 : Unit => ([.z q0, .z q1, .un, .un] : List (Slot K)))) () eV (uh (bU 0 rfl)) (λs1 => (nU 2 3 rfl rfl (λ_ => rfl) rfl)) (λs1 x3 => (bB (mX (md := .hp) (bA (aG (aF 3 rfl) (aG (esc (aq 1 rfl)) (aG (esc (G4 "fair set " (aq 2 rfl))) aV))))) (λu8 => (bQ (λs1 : Unit => ([.z q0, .z q1, .un, .un] : List (Slot K))) () eV))))) (λs2 => (bQ (λ_ : Unit => ([.un, .un, .un, .un] : List (Slot K))) () eV))) (by unfold jW;simp only[bnd])⟩
def pY(q0 : List (List Int)) : Option (List (List Int)) := (some q0).bind λxs => bL (λ(x1 : List Int) => some true) (λ(x1 : List Int) => some x1) xs
theorem Fo : bf ["lists"] ["lists"] (aH BL) := fsc
abbrev Vk(K : afh) : Sp := nD K false (λa : ((List (List Int)))×Unit => ([.z a.1] : List (Slot K))) (λa => pY a.1)
theorem QD(F : gn K "copied" "copied" BL f fd)(B : Bl K mg) : bY P w K mg base jE (k+1) f fd ["lists"] (Vk K) := by
  refine dX F Fo (λ_ => rfl) (λ_ => rfl) λcdv A outer s H E hr => ?_
  have nd := Fo.nd
  refine⟨_, (ak (bJ (fB (own := ["things"]) (ix := []) rfl rfl rfl (cN K (pv 0)) (λC s H fp => bN (i := 0) (show(["things"] : List Str).Nodup from by decide +kernel) rfl (Or.inl rfl)) (λC s H fp => dD) (λC s H fp => (dj (qD K) rfl B.list qz (aj (pv 0) aA))))) aD), ?_⟩
  rintro Fa ⟨q0, ⟨⟩⟩
  exact SB.of (cL (cY (n := false) (lu := [.un]) (no := 1) (ix := []) rfl rfl (cM (bU 0 rfl)) (bO 0 rfl rfl) (λx1 => gP) (λx1 => (nZ (aF 0 rfl)).ex) (λx1 => jr)).ex) (by unfold pY;simp only[bnd])
end
abbrev mkK(C : Addr) := mkG C jc jd jW pY fSo
section
variable{P : Program}{w : World}{K : afh}{mg : Str→Option Value}{base : Heap}
def dR(q0 : qC C) : Option Int := some (q0.steps.length : Int)
theorem qW : bf ["self"] ["self"] (aH oh) := fsc
abbrev sI(K : afh)(C : Addr) : Sp := nD K false (λa : (qC C)×Unit => ([.z a.1] : List (Slot K))) (λa => dR a.1)
theorem zV(F : gn K "many" "Machine.many" oh f fd)(B : Bl K mg)(T : Cl K mg C) : bY P w K mg base jE (k+1) f fd ["self"] (sI K C) := by
  refine dX F qW (λ_ => rfl) (λ_ => rfl) λcdv A outer s H E hr => ?_
  have nd := qW.nd
  refine⟨_, (ak (bJ (aO (dF K) rfl B.len afp (aj (aax K (pv 0)) aA))) aD), ?_⟩
  rintro Fa ⟨q0, ⟨⟩⟩
  exact SB.of (cL (esc (dH (Qp T.cl T.nS (aF 0 rfl))))) (by unfold dR;simp only[bnd])
end
end Ts
set_option maxHeartbeats 40000000
namespace Ts
open PySem L2
section
variable{P : Program}{w : World}{K : afh}{mg : Str→Option Value}{base : Heap}
def d_(q0 : Str)(q1 : Int) : Option Bool := (((zQ q0).bind λa1 => some (decide ((1 : Int)<a1))).bind λc3 => if c3=true then(W6 q0 (0 : Int)).bind λa2 => some (decide (a2=("0" : Str))) else some false).bind λb => if b=true then some false else((zQ q0).bind λb4 => if decide ((1 : Int)≤b4)=true then some (decide (b4≤q1)) else some false).bind λc7 => if c7=true then((some (signs q0)).bind λxs => bL (λ(x5 : Str) => some true) (λ(x5 : Str) => some (XR x5 ("0123456789" : Str))) xs).bind λa6 => some (a6.all id) else some false
theorem xu : bf ["word", "most"] ["word", "most"] (aH su) := fsc
abbrev sJ(K : afh) : Sp := nD K false (λa : Str×Int×Unit => ([.z a.1, .z a.2.1] : List (Slot K))) (λa => d_ a.1 a.2.1)
theorem Hw(F : gn K "is_number" "is_number" su f fd)(B : Bl K mg)(QF : mg "FIGURES" = some (.str "0123456789" acg))(QC : mg "all" = none) : bY P w K mg base jE (k+1) f fd ["word", "most"] (sJ K) := by
  refine dX F xu (λ_ => rfl) (λ_ => rfl) λcdv A outer s H E hr => ?_
  have nd := xu.nd
  refine⟨_, (ak (dh (PW.pt (pw_and (aZ Jb (aO pL rfl B.len afp (aj (pv 0) aA)) aL (bG _)) (pw_and1 (aZ (cR K Str hr) (G8 (pv 0) aL (λ_ _ => rfl)) aM (bG _))))) (ak (bJ pH) aD) aD) (ak (bJ (uV (wJ DW DW aL (aO pL rfl B.len afp (aj (pv 0) aA)) (pv 1)) (A_ (aO (Ew K rfl) rfl QC T6 (aj (fB (own := ["sign"]) (ix := []) rfl rfl rfl (Ub (pv 0)) (λC s H fp => bN (i := 0) (show(["sign"] : List Str).Nodup from by decide +kernel) rfl (Or.inl rfl)) (λC s H fp => dD) (λC s H fp => (wI DX (pv 0) (dZ (v := .str "0123456789") rfl QF ⟨_, rfl⟩) (by with_unfolding_all rfl)))) aA))))) aD)), ?_⟩
  rintro Fa ⟨q0, q1, ⟨⟩⟩
  exact SB.of (nQ (GD (bw (md := .hp) (Jo (wV (aq 0 rfl)) (aK 1))) (bw (md := .hp) (cT (esc (G9 (aq 0 rfl) (aK 0))) (aU "0")))) (cL (esc (wO false))) (cL (esc (vq (wU (f := (λi j => decide (i≤j))) (g := (λi j => decide (i≤j))) (aK 1) (wV (aq 0 rfl)) (aq 1 rfl)) (Ju (cY (n := true) (lu := [.un]) (no := 1) (ix := []) rfl rfl (Uc (aq 0 rfl)) (bO 0 rfl rfl) (λx5 => gP) (λx5 => (esc (Ud (aq 0 rfl) (aU "0123456789")))) (λx5 => jr)).ex))))) (by unfold d_;simp only[bnd])
def je(q0 : Str)(q1 : Int) : Option Int := (((d_ q0 q1).bind λa1 => some (!a1)).bind λb => if b=true then none else some ()).bind λs2 => Hf q0
theorem jX : bf ["word", "most"] ["word", "most"] (aH lJ) := fsc
abbrev uP(K : afh) : Sp := nD K false (λa : Str×Int×Unit => ([.z a.1, .z a.2.1] : List (Slot K))) (λa => je a.1 a.2.1)
theorem Cq(F : gn K "read_number" "read_number" lJ f fd)(B : Bl K mg)(sO : mJ P w K mg base k "is_number" ["word", "most"] (sJ K)) : bY P w K mg base jE (k+1) f fd ["word", "most"] (uP K) := by
  refine dX F jX (λ_ => rfl) (λ_ => rfl) λcdv A outer s H E hr => ?_
  have nd := jX.nd
  refine⟨_, (ak (dh (qm (kW (cj sO hr (aj (pv 0) (aj (pv 1) aA))))) eX aD) (ak (bJ (dj o_ rfl B.int yu (aj (pv 0) aA))) aD)), ?_⟩
  rintro Fa ⟨q0, q1, ⟨⟩⟩
  exact SB.of (aN (iW (vp (rJ (md := .hp) (bA (aG (esc (aq 0 rfl)) (aG (esc (aq 1 rfl)) aV))))) gW (bQ (λs3 : Unit => ([.z q0, .z q1] : List (Slot K))) () eV)) (λs2 => (cL (esc (Hg (aq 0 rfl)))))) (by unfold je;simp only[bnd])
def eE(q0 : List Str) : Option (List Int) := (some q0).bind λxs => bL (λ(x1 : Str) => some true) (λ(x1 : Str) => je x1 (2 : Int)) xs
theorem jY : bf ["words"] ["words"] (aH lK) := fsc
abbrev lO(K : afh) : Sp := nD K false (λa : (List Str)×Unit => ([.z a.1] : List (Slot K))) (λa => eE a.1)
theorem Cr(F : gn K "read_stands" "read_stands" lK f fd)(B : Bl K mg)(iU : mg "FIGURES_OF_STANDS" = some (.int 2 uJ))(pD : mJ P w K mg base k "read_number" ["word", "most"] (uP K)) : bY P w K mg base jE (k+1) f fd ["words"] (lO K) := by
  refine dX F jY (λ_ => rfl) (λ_ => rfl) λcdv A outer s H E hr => ?_
  have nd := jY.nd
  refine⟨_, (ak (bJ (fB (own := ["word"]) (ix := []) rfl rfl rfl (cN K (pv 0)) (λC s H fp => bN (i := 0) (show(["word"] : List Str).Nodup from by decide +kernel) rfl (Or.inl rfl)) (λC s H fp => dD) (λC s H fp => (cj pD hr (aj (pv 0) (aj (dZ (v := .int 2) rfl iU ⟨_, rfl⟩) aA)))))) aD), ?_⟩
  rintro Fa ⟨q0, ⟨⟩⟩
  exact SB.of (cL (cY (n := false) (lu := [.un]) (no := 1) (ix := []) rfl rfl (cM (bU 0 rfl)) (bO 0 rfl rfl) (λx1 => gP) (λx1 => (esc (bA (aG (esc (aq 0 rfl)) (aG (esc (aK 2)) aV))))) (λx1 => jr)).ex) (by unfold eE;simp only[bnd])
def jA(q0 : Int)(q1 : List Str) : Option (List Int) := (eE q1).bind λAk => (if(!decide ((iz Ak none (some (1 : Int)))=([q0])))=true then none else some ()).bind λs2 => some (iz Ak (some (1 : Int)) none)
theorem m_ : bf ["stand", "words", "stands"] ["stand", "words"] (aH oX) := fsc
abbrev zA(K : afh) : Sp := nD K false (λa : Int×(List Str)×Unit => ([.z a.1, .z a.2.1] : List (Slot K))) (λa => jA a.1 a.2.1)
theorem Hx(F : gn K "read_from" "read_from" oX f fd)(B : Bl K mg)(cZ : mJ P w K mg base k "read_stands" ["words"] (lO K)) : bY P w K mg base jE (k+1) f fd ["stand", "words"] (zA K) := by
  refine dX F m_ (λ_ => rfl) (λ_ => rfl) λcdv A outer s H E hr => ?_
  have nd := m_.nd
  refine⟨_, (ak (cg 2 nd (cj cZ hr (aj (pv 1) aA))) (ak (dh (aZ (qx K (List Int) hr) (dY (wY K) (pv 2) gQ (eO aL)) (cX (aj (pv 0) aA)) (bG _)) eX aD) (ak (bJ (dY (wY K) (pv 2) (eO aL) gQ)) aD))), ?_⟩
  rintro Fa ⟨q0, q1, ⟨⟩⟩
  exact SB.of (aN (bR true 2 rfl rfl (bA (aG (aF 1 rfl) aV))) (λAk => (aN (iW (bw (md := .hp) (qy (wX (aF 2 rfl) (aK 1)).ex (jq (bx (esc (aq 0 rfl)) jo) (λa h => afl ((bV gw) a h) (by decide))).ex)) gW (bQ (λs3 : Unit => ([.z q0, .z q1, .y Ak] : List (Slot K))) () eV)) (λs2 => (cL (pP (aF 2 rfl) (aK 1)).ex))))) (by unfold jA;simp only[bnd])
def jB(q0 : List Str) : Option (Str×(List Int)) := (if(decide ((q0.length : Int)=(0 : Int)))=true then none else some ()).bind λs1 => (jL q0 (0 : Int)).bind λa3 => (eE (iz q0 (some (1 : Int)) none)).bind λb4 => some (a3, b4)
theorem ni : bf ["words"] ["words"] (aH oY) := fsc
abbrev zB(K : afh) : Sp := nD K false (λa : (List Str)×Unit => ([.z a.1] : List (Slot K))) (λa => jB a.1)
theorem Hy(F : gn K "read_mark" "read_mark" oY f fd)(B : Bl K mg)(cZ : mJ P w K mg base k "read_stands" ["words"] (lO K)) : bY P w K mg base jE (k+1) f fd ["words"] (zB K) := by
  refine dX F ni (λ_ => rfl) (λ_ => rfl) λcdv A outer s H E hr => ?_
  have nd := ni.nd
  refine⟨_, (ak (dh (aZ (cR K Int hr) (aO (dF K) rfl B.len afp (aj (pv 0) aA)) aL (bG _)) eX aD) (ak (bJ (iQ (aj (eG (kI K) (pv 0) aL (λ_ _ => rfl)) (aj (cj cZ hr (aj (dY (wY K) (pv 0) (eO aL) gQ) aA)) aA)))) aD)), ?_⟩
  rintro Fa ⟨q0, ⟨⟩⟩
  exact SB.of (aN (iW (bw (md := .hp) (cT (dH (aF 0 rfl)) (aK 0))) gW (bQ (λs2 : Unit => ([.z q0] : List (Slot K))) () eV)) (λs1 => (cL (jN (esc (gk (aF 0 rfl) (aK 0))) (bA (aG (pP (aF 0 rfl) (aK 1)).ex aV)))))) (by unfold jB;simp only[bnd])
def b_(q0 : List (List Str))(q1 : Str) : Option (List (List Str)) := (some q0).bind λxs => bL (λ(x1 : List Str) => (jL x1 (0 : Int)).bind λa2 => some (decide (a2=q1))) (λ(x1 : List Str) => some (iz x1 (some (1 : Int)) none)) xs
theorem sS : bf ["rows", "head"] ["rows", "head"] (aH pC) := fsc
abbrev pF(K : afh) : Sp := nD K false (λa : ((List (List Str)))×Str×Unit => ([.z a.1, .z a.2.1] : List (Slot K))) (λa => b_ a.1 a.2.1)
theorem Cu(F : gn K "rows_behind" "rows_behind" pC f fd)(B : Bl K mg) : bY P w K mg base jE (k+1) f fd ["rows", "head"] (pF K) := by
  refine dX F sS (λ_ => rfl) (λ_ => rfl) λcdv A outer s H E hr => ?_
  have nd := sS.nd
  refine⟨_, (ak (bJ (fB (own := ["words"]) (ix := [1]) rfl rfl rfl (cN K (pv 0)) (λC s H fp => bN (i := 0) (show(["words", "head"] : List Str).Nodup from by decide +kernel) rfl (Or.inl rfl)) (λC s H fp => lE (aZ (cR K Str hr) (eG (kI K) (pv 0) aL (λ_ _ => rfl)) (pv 1) (bG _))) (λC s H fp => (dY (wY K) (pv 0) (eO aL) gQ)))) aD), ?_⟩
  rintro Fa ⟨q0, q1, ⟨⟩⟩
  exact SB.of (cL (cY (n := false) (lu := [.un, .z q1]) (no := 1) (ix := [1]) rfl rfl (cM (bU 0 rfl)) (bO 0 rfl rfl) (λx1 => (bw (md := .hp) (cT (esc (gk (aF 0 rfl) (aK 0))) (aq 1 rfl)))) (λx1 => (pP (aF 0 rfl) (aK 1)).ex) (λx1 => jr)).ex) (by unfold b_;simp only[bnd])
def lY(q0 : Str) : Option (List (List Str)) := ((splitM q0 "\n").bind λxs => bL (λ(x2 : Str) => some true) (λ(x2 : Str) => splitM x2 " ") xs).bind λqX => ((some qX).bind λxs => foldM (λ(s3 : Unit) (x5 : List Str) => (if(decide (("" : Str)∈x5))=true then none else some ()).bind λs6 => some ()) xs ()).bind λs4 => some qX
theorem nj : bf ["text", "rows", "words"] ["text"] (aH oZ) := fsc
abbrev zE(K : afh) : Sp := nD K false (λa : Str×Unit => ([.z a.1] : List (Slot K))) (λa => lY a.1)
theorem Hz(F : gn K "read_rows" "read_rows" oZ f fd)(B : Bl K mg) : bY P w K mg base jE (k+1) f fd ["text"] (zE K) := by
  refine dX F nj (λ_ => rfl) (λ_ => rfl) λcdv A outer s H E hr => ?_
  have nd := nj.nd
  refine⟨_, (ak (jh (i := 1) (own := ["row"]) (ix := []) nd rfl rfl rfl rfl rfl (cN K (d9 K afr agu agv pR (pv 0) (aj aM aA))) (λC s H fp => bN (i := 0) (show(["row"] : List Str).Nodup from by decide +kernel) rfl (Or.inl rfl)) (λC s H fp => dD) (λC s H fp => (d9 K afr agu agv pR (pv 0) (aj aM aA)))) (ak (jH af5 rfl (cN K (pv 1)) (jF 2 nd) (ak (dh (aZ (K7 K) aM (pv 2) (by with_unfolding_all rfl)) eX aD) aD)) (ak (bJ (pv 1)) aD))), ?_⟩
  rintro Fa ⟨q0, ⟨⟩⟩
  exact SB.of (aN (bR true 1 rfl rfl (cY (n := true) (lu := [.un]) (no := 1) (ix := []) rfl rfl (cM (pU "\n" (by decide +kernel) (aq 0 rfl)).ex) (bO 0 rfl rfl) (λx2 => gP) (λx2 => (pU " " (by decide +kernel) (aq 0 rfl)).ex) (λx2 => jr)).ex) (λqX => (aN (lq (n := true) (L := (λs3 : Unit => ([.z q0, .y qX, .un] : List (Slot K)))) () eV (cM (bU 1 rfl)) (λs3 => (bO 2 rfl rfl)) (λs3 x5 => (bB (iW (bw (md := .hp) (Zu (aU "") (aF 2 rfl))) gW (bQ (λs7 : Unit => ([.z q0, .y qX, .y x5] : List (Slot K))) () eV)) (λs6 => (bQ (λs3 : Unit => ([.z q0, .y qX, .un] : List (Slot K))) () eV))))) (λs4 => (cL (bU 1 rfl)))))) (by unfold lY;simp only[bnd])
def jf(q0 : List (List Str)) : Option Unit := ((some q0).bind λxs => bL (λ(x2 : List Str) => some true) (λ(x2 : List Str) => jL x2 (0 : Int)) xs).bind λqK => (some ([] : List Str)).bind λsU => ((some (["from", "mark", "fair"] : List Str)).bind λxs => foldM (λ(s4 : List Str) (x6 : Str) => (((some qK).bind λxs => bL (λ(x8 : Str) => some (decide (x8=x6))) (λ(x8 : Str) => some x8) xs).bind λa9 => G7 s4 a9).bind λjZ => some jZ) xs sU).bind λs5 => (if(!decide (qK=s5))=true then none else some ()).bind λs10 => some ()
theorem j4 : bf ["rows", "heads", "ordered", "head"] ["rows"] (aH lM) := fsc
abbrev uQ(K : afh) : Sp := nD K false (λa : ((List (List Str)))×Unit => ([.z a.1] : List (Slot K))) (λa => jf a.1)
theorem Cv(F : gn K "check_heads" "check_heads" lM f fd)(B : Bl K mg) : bY P w K mg base jE (k+1) f fd ["rows"] (uQ K) := by
  refine uq F j4 (λ_ => rfl) (λ_ => rfl) λcdv A outer s H E hr => ?_
  have nd := j4.nd
  refine⟨_, (ak (jh (i := 1) (own := ["words"]) (ix := []) nd rfl rfl rfl rfl rfl (cN K (pv 0)) (λC s H fp => bN (i := 0) (show(["words"] : List Str).Nodup from by decide +kernel) rfl (Or.inl rfl)) (λC s H fp => dD) (λC s H fp => (eG (kI K) (pv 0) aL (λ_ _ => rfl)))) (ak (cg 2 nd (cX aA)) (ak (jH af5 rfl (Ui K (iQ (aj aM (aj aM (aj aM aA))))) (jF 3 nd) (ak (cP (d9 K afn PySem.F.slot_list_extend PySem.F.type_list_extend Ef (pv 2) (aj (fB (own := ["word"]) (ix := [3]) rfl rfl rfl (cN K (pv 1)) (λC s H fp => bN (i := 0) (show(["word", "head"] : List Str).Nodup from by decide +kernel) rfl (Or.inl rfl)) (λC s H fp => lE (aZ (cR K Str hr) (pv 0) (pv 1) (bG _))) (λC s H fp => (pv 0))) aA))) aD)) (ak (dh (aZ (qx K (List Str) hr) (pv 1) (pv 2) (bG _)) eX aD) aD)))), ?_⟩
  rintro Fa ⟨q0, ⟨⟩⟩
  exact⟨_, Sn.of (bB (bR true 1 rfl rfl (cY (n := false) (lu := [.un]) (no := 1) (ix := []) rfl rfl (cM (bU 0 rfl)) (bO 0 rfl rfl) (λx2 => gP) (λx2 => (esc (esc (gk (aF 0 rfl) (aK 0))))) (λx2 => jr)).ex) (λqK => (bB (jO true 2 rfl rfl (lg (α := Str))) (λsU => (bB (lq (n := true) (L := (λs4 : List Str => ([.z q0, .y qK, .ow true s4, .un] : List (Slot K)))) sU eV (Oh (["from", "mark", "fair"] : List Str) (by decide)) (λs4 => (bO 3 rfl rfl)) (λs4 x6 => (bB (Bv 2 rfl rfl (cY (n := true) (lu := [.un, .y x6]) (no := 1) (ix := [3]) rfl rfl (cM (bU 1 rfl)) (bO 0 rfl rfl) (λx8 => (bw (md := .hp) (cT (aq 0 rfl) (aq 1 rfl)))) (λx8 => (esc (aq 0 rfl))) (λx8 => jr)).ex) (λjZ => (bQ (λs4 : List Str => ([.z q0, .y qK, .ow true s4, .un] : List (Slot K))) jZ eV))))) (λs5 => (bB (iW (bw (md := .hp) (qy (aF 1 rfl) (qu 2 rfl))) gW (bQ (λQG : Unit => ([.z q0, .y qK, .ow true s5, .un] : List (Slot K))) () eV)) (λs10 => (bQ (λ_ : Unit => ([.un, .un, .un, .un] : List (Slot K))) () eV))))))))) (by unfold jf;simp only[bnd])⟩
def cB(C : Addr)(q0 : Str) : Option (qC C) := (lY q0).bind λqX => (jf qX).bind λu2 => (((b_ qX ("from" : Str)).bind λa4 => some (bT a4)).bind λxs => bL (λ(x5 : Int×(List Str)) => some true) (λ(x5 : Int×(List Str)) => jA x5.1 x5.2) xs).bind λVl => ((b_ qX ("mark" : Str)).bind λxs => bL (λ(x7 : List Str) => some true) (λ(x7 : List Str) => jB x7) xs).bind λVm => ((b_ qX ("fair" : Str)).bind λxs => bL (λ(x9 : List Str) => some true) (λ(x9 : List Str) => eE x9) xs).bind λZM => mkK C Vl (some Vm) (some ZM)
theorem ji : bf ["text", "rows", "steps", "marks", "fair"] ["text"] (aH jU) := fsc
abbrev j5(K : afh)(C : Addr) : Sp := nD K false (λa : Str×Unit => ([.z a.1] : List (Slot K))) (λa => cB C a.1)
theorem zW(F : gn K "read_machine" "read_machine" jU f fd)(B : Bl K mg)(T : Cl K mg C)(MK : Mk K C fI)(GI : bY P w K mg base jE k0 fI fdI ["self", "steps", "marks", "fair"] (Jw K C (mkK C)))(bI0 : Binds K fdI ["self", "steps", "marks", "fair"] [])(pG : mJ P w K mg base (k0+1) "check_heads" ["rows"] (uQ K))(sV : mJ P w K mg base (k0+1) "read_from" ["stand", "words"] (zA K))(sW : mJ P w K mg base (k0+1) "read_mark" ["words"] (zB K))(sX : mJ P w K mg base (k0+1) "read_rows" ["text"] (zE K))(cZ : mJ P w K mg base (k0+1) "read_stands" ["words"] (lO K))(fH : mJ P w K mg base (k0+1) "rows_behind" ["rows", "head"] (pF K)) : bY P w K mg base jE ((k0+1)+1) f fd ["text"] (j5 K C) := by
  refine dX F ji (λ_ => rfl) (λ_ => rfl) λcdv A outer s H E hr => ?_
  have nd := ji.nd
  refine⟨_, (ak (cg 1 nd (cj sX hr (aj (pv 0) aA))) (ak (cP (cj pG hr (aj (pv 1) aA))) (ak (jh (i := 2) (own := ["stand", "words"]) (ix := []) nd rfl rfl rfl rfl rfl (uo K B.enum (aj (cj fH hr (aj (pv 1) (aj aM aA))) aA)) (λC s H fp => GC (K := K) (n := 2) rfl rfl (cG (bN (i := 0) (show(["stand", "words"] : List Str).Nodup from by decide +kernel) rfl (Or.inl rfl)) (cG (bN (i := 1) (show(["stand", "words"] : List Str).Nodup from by decide +kernel) rfl (Or.inl rfl)) iu))) (λC s H fp => dD) (λC s H fp => (cj sV hr (aj (pv 0) (aj (pv 1) aA))))) (ak (jh (i := 3) (own := ["words"]) (ix := []) nd rfl rfl rfl rfl rfl (cN K (cj fH hr (aj (pv 1) (aj aM aA)))) (λC s H fp => bN (i := 0) (show(["words"] : List Str).Nodup from by decide +kernel) rfl (Or.inl rfl)) (λC s H fp => dD) (λC s H fp => (cj sW hr (aj (pv 0) aA)))) (ak (jh (i := 4) (own := ["words"]) (ix := []) nd rfl rfl rfl rfl rfl (cN K (cj fH hr (aj (pv 1) (aj aM aA)))) (λC s H fp => bN (i := 0) (show(["words"] : List Str).Nodup from by decide +kernel) rfl (Or.inl rfl)) (λC s H fp => dD) (λC s H fp => (cj cZ hr (aj (pv 0) aA)))) (ak (bJ (Ae MK GI hr rfl T.mgC bI0 .nil Nq (aj (pv 2) (aj (pv 3) (aj (pv 4) aA))))) aD)))))), ?_⟩
  rintro Fa ⟨q0, ⟨⟩⟩
  exact SB.of (aN (bR true 1 rfl rfl (bA (aG (esc (aq 0 rfl)) aV))) (λqX => (aN (mX (md := .hp) (bA (aG (aF 1 rfl) aV))) (λu2 => (aN (bR true 2 rfl rfl (cY (n := true) (lu := [.un, .un]) (no := 2) (ix := []) rfl rfl (uh (bA (aG (aF 1 rfl) (aG (esc (aU "from")) aV)))) (nU 0 1 rfl rfl (λ_ => rfl) rfl) (λx5 => gP) (λx5 => (bA (aG (esc (aq 0 rfl)) (aG (aF 1 rfl) aV)))) (λx5 => jr)).ex) (λVl => (aN (bR true 3 rfl rfl (cY (n := true) (lu := [.un]) (no := 1) (ix := []) rfl rfl (cM (bA (aG (aF 1 rfl) (aG (esc (aU "mark")) aV)))) (bO 0 rfl rfl) (λx7 => gP) (λx7 => (bA (aG (aF 0 rfl) aV))) (λx7 => jr)).ex) (λVm => (aN (bR true 4 rfl rfl (cY (n := true) (lu := [.un]) (no := 1) (ix := []) rfl rfl (cM (bA (aG (aF 1 rfl) (aG (esc (aU "fair")) aV)))) (bO 0 rfl rfl) (λx9 => gP) (λx9 => (bA (aG (aF 0 rfl) aV))) (λx9 => jr)).ex) (λZM => (cL (Qs (aF 2 rfl) (aF 3 rfl) (aF 4 rfl)).ex))))))))))) (by unfold cB;simp only[bnd])
end
end Ts
set_option maxHeartbeats 40000000
namespace Ts
open PySem L2
section
variable{P : Program}{w : World}{K : afh}{mg : Str→Option Value}{base : Heap}
def jg(q0 : List Int)  : Option (Int×List Int) := if(decide ((q0.length : Int)=(0 : Int)))=true then some ((0 : Int), q0) else q0.getLast?.bind λy => some (y, q0.dropLast)
theorem Fp : bf ["_law_rest"] ["_law_rest"] (aH BP) := fsc
abbrev JF(K : afh) : Sp := spR K (λa : Unit => ([] : List (Slot K))) (λws a => jg ws )
theorem QH(F : gn K "_law_cell" "_law_cell" BP f fd)(B : Bl K mg) : bY P w K mg base jE (k+1) f fd ["_law_rest"] (JF K) := by
  refine X_ F Fp (λ_ => rfl) (λ_ => rfl) λcdv A outer s H E hr => ?_
  have nd := Fp.nd
  refine⟨_, (ak (dh (aZ (cR K Int hr) (aO (dF K) rfl B.len afp (aj (pv 0) aA)) aL (bG _)) (ak (bJ aL) aD) aD) (ak (bJ (K8 K afn PySem.F.slot_list_pop PySem.F.type_list_pop aar (pv 0))) aD)), ?_⟩
  rintro Fa p q0 ⟨⟩
  exact W7.of (X6 (bw (md := .hp) (cT (X8 0 rfl rfl) (aK 0))) (X5 0 rfl rfl (esc (aK 0))) (Uk 0 rfl rfl (X7 0 rfl rfl))) (by unfold jg;simp only[bnd])
def sY(q0 : Int)(q1 : Int) : Option Str := (some ("abcdefghijklmnopqrstuvwxyz" : Str)).bind λCw => ((dW q1 (8 : Int)).bind λb3 => some ((1 : Int)+b3)).bind λVn => ((uH q1 (8 : Int)).bind λa5 => dW a5 Vn).bind λVo => (((uH q1 (1664 : Int)).bind λa7 => dW a7 (26 : Int)).bind λb8 => W6 Cw b8).bind λJG => ((((gO Vo).bind λxs => bL (λ(x10 : Int) => some true) (λ(x10 : Int) => some JG) xs).bind λa11 => joinM "" a11).bind λa15 => ((((uH q1 (64 : Int)).bind λa12 => some (a12+q0)).bind λa13 => dW a13 (26 : Int)).bind λVj => W6 Cw Vj).bind λb16 => rT a15 b16).bind λZP => ((((gO ((Vn-Vo)-(1 : Int))).bind λxs => bL (λ(x18 : Int) => some true) (λ(x18 : Int) => some JG) xs).bind λa19 => joinM "" a19).bind λb20 => rT ZP b20).bind λLr => if(decide (Lr=("all" : Str)))=true then some ("alla" : Str) else some Lr
theorem Fq : bf ["_law_k", "_law_seed", "_law_letters", "_law_size", "_law_spot", "_law_base", "_law_text"] ["_law_k", "_law_seed"] (aH BR) := fsc
abbrev JH(K : afh) : Sp := nD K false (λa : Int×Int×Unit => ([.z a.1, .z a.2.1] : List (Slot K))) (λa => sY a.1 a.2.1)
theorem QJ(F : gn K "_law_name" "_law_name" BR f fd)(B : Bl K mg) : bY P w K mg base jE (k+1) f fd ["_law_k", "_law_seed"] (JH K) := by
  refine dX F Fq (λ_ => rfl) (λ_ => rfl) λcdv A outer s H E hr => ?_
  have nd := Fq.nd
  refine⟨_, (ak (cg 2 nd aM) (ak (cg 3 nd (aX gU aL (aX cJ (pv 1) aL))) (ak (cg 4 nd (aX cJ (aX jJ (pv 1) aL) (pv 3))) (ak (cg 5 nd (G8 (pv 2) (aX cJ (aX jJ (pv 1) aL) aL) (λ_ _ => rfl))) (ak (cg 6 nd (aX m5 (d9 K afr af8 af9 (m6 K) aM (aj (fB (own := ["_law_j"]) (ix := [5]) rfl rfl rfl (gG rfl B.range (aj (pv 4) aA)) (λC s H fp => bN (i := 0) (show(["_law_j", "_law_base"] : List Str).Nodup from by decide +kernel) rfl (Or.inl rfl)) (λC s H fp => dD) (λC s H fp => (pv 1))) aA)) (G8 (pv 2) (aX cJ (aX gU (aX jJ (pv 1) aL) (pv 0)) aL) (λ_ _ => rfl)))) (ak (cg 6 nd (aX m5 (pv 6) (d9 K afr af8 af9 (m6 K) aM (aj (fB (own := ["_law_j"]) (ix := [5]) rfl rfl rfl (gG rfl B.range (aj (aX rD (aX rD (pv 3) (pv 4)) aL) aA)) (λC s H fp => bN (i := 0) (show(["_law_j", "_law_base"] : List Str).Nodup from by decide +kernel) rfl (Or.inl rfl)) (λC s H fp => dD) (λC s H fp => (pv 1))) aA)))) (ak (dh (aZ (cR K Str hr) (pv 6) aM (bG _)) (ak (bJ aM) aD) aD) (ak (bJ (pv 6)) aD)))))))), ?_⟩
  rintro Fa ⟨q0, q1, ⟨⟩⟩
  exact SB.of (aN (bR true 2 rfl rfl (esc (aU "abcdefghijklmnopqrstuvwxyz"))) (λCw => (aN (bR true 3 rfl rfl (esc (iT (aK 1) (cU (aq 1 rfl) (aK 8))))) (λVn => (aN (bR true 4 rfl rfl (esc (cU (nY (aq 1 rfl) (aK 8)) (aq 3 rfl)))) (λVo => (aN (bR true 5 rfl rfl (esc (esc (G9 (aq 2 rfl) (cU (nY (aq 1 rfl) (aK 1664)) (aK 26)))))) (λJG => (aN (bR true 6 rfl rfl (esc (m8 (m7 "" (cY (n := true) (lu := [.un, .y JG]) (no := 1) (ix := [5]) rfl rfl (iY (aq 4 rfl)) (bO 0 rfl rfl) (λx10 => gP) (λx10 => (esc (aq 1 rfl))) (λx10 => jr)).ex) (esc (G9 (aq 2 rfl) (cU (iT (nY (aq 1 rfl) (aK 64)) (aq 0 rfl)) (aK 26))))))) (λZP => (aN (bR true 6 rfl rfl (esc (m8 (aq 6 rfl) (m7 "" (cY (n := true) (lu := [.un, .y JG]) (no := 1) (ix := [5]) rfl rfl (iY (rN (rN (aq 3 rfl) (aq 4 rfl)) (aK 1))) (bO 0 rfl rfl) (λx18 => gP) (λx18 => (esc (aq 1 rfl))) (λx18 => jr)).ex)))) (λLr => (nQ (bw (md := .hp) (cT (aq 6 rfl) (aU "all"))) (cL (esc (aU "alla"))) (cL (esc (aq 6 rfl)))))))))))))))) (by unfold sY;simp only[bnd])
def g8(q0 : Int)(q1 : Int) : Option (List Int) := ((uH q0 (3 : Int)).bind λa2 => dW a2 q1).bind λsZ => (some ([] : List Int)).bind λLs => (uH q0 (7 : Int)).bind λVp => ((gO q1).bind λxs => foldM (λ(s5 : (List Int)×Int) (x7 : Int) => (((dW s5.2 (3 : Int)).bind λa8 => some (decide (a8=(1 : Int)))).bind λb => if b=true then((dW (sZ+x7) q1).bind λa12 => push s5.1 a12).bind λHB => some HB else some s5.1).bind λs9 => (uH s5.2 (3 : Int)).bind λLw => some (s9, Lw)) xs (Ls, Vp)).bind λs6 => (((dW q0 (3 : Int)).bind λa14 => some (decide (a14=(1 : Int)))).bind λb => if b=true then(some s6.1.reverse).bind λHD => some HD else some s6.1).bind λRy => some Ry
theorem Ft : bf ["_law_cell_here", "_law_many", "_law_start", "_law_picks", "_law_rest", "_law_k"] ["_law_cell_here", "_law_many"] (aH BW) := fsc
abbrev JK(K : afh) : Sp := nD K false (λa : Int×Int×Unit => ([.z a.1, .z a.2.1] : List (Slot K))) (λa => g8 a.1 a.2.1)
theorem QK(F : gn K "_law_some" "_law_some" BW f fd)(B : Bl K mg) : bY P w K mg base jE (k+1) f fd ["_law_cell_here", "_law_many"] (JK K) := by
  refine dX F Ft (λ_ => rfl) (λ_ => rfl) λcdv A outer s H E hr => ?_
  have nd := Ft.nd
  refine⟨_, (ak (cg 2 nd (aX cJ (aX jJ (pv 0) aL) (pv 1))) (ak (cg 3 nd (cX aA)) (ak (cg 4 nd (aX jJ (pv 0) aL)) (ak (jH af5 rfl (gG rfl B.range (aj (pv 1) aA)) (jF 5 nd) (ak (dh (aZ (cR K Int hr) (aX cJ (pv 4) aL) aL (bG _)) (ak (cP (d9 K afn agh agi kZ (pv 3) (aj (aX cJ (aX gU (pv 2) (pv 5)) (pv 1)) aA))) aD) aD) (ak (cg 4 nd (aX jJ (pv 4) aL)) aD))) (ak (dh (aZ (cR K Int hr) (aX cJ (pv 0) aL) aL (bG _)) (ak (cP (K8 K afn PySem.F.slot_list_reverse PySem.F.type_list_reverse Bh (pv 3))) aD) aD) (ak (bJ (pv 3)) aD)))))), ?_⟩
  rintro Fa ⟨q0, q1, ⟨⟩⟩
  exact SB.of (aN (bR true 2 rfl rfl (esc (cU (nY (aq 0 rfl) (aK 3)) (aq 1 rfl)))) (λsZ => (aN (jO true 3 rfl rfl (lg (α := Int))) (λLs => (aN (bR true 4 rfl rfl (esc (nY (aq 0 rfl) (aK 7)))) (λVp => (aN (lq (n := true) (L := (λs5 : (List Int)×Int => ([.z q0, .z q1, .y sZ, .ow true s5.1, .y s5.2, .un] : List (Slot K)))) (Ls, Vp) eV (iY (aq 1 rfl)) (λs5 => (bO 5 rfl rfl)) (λs5 x7 => (bB (iW (bw (md := .hp) (cT (cU (aq 4 rfl) (aK 3)) (aK 1))) (bB (pJ 3 rfl rfl (esc (cU (iT (aq 2 rfl) (aq 5 rfl)) (aq 1 rfl)))) (λHB => (bQ (λs10 : List Int => ([.z q0, .z q1, .y sZ, .ow true s10, .y s5.2, .y x7] : List (Slot K))) HB eV))) (bQ (λs10 : List Int => ([.z q0, .z q1, .y sZ, .ow true s10, .y s5.2, .y x7] : List (Slot K))) s5.1 eV)) (λs9 => (bB (bR true 4 rfl rfl (esc (nY (aq 4 rfl) (aK 3)))) (λLw => (bQ (λs5 : (List Int)×Int => ([.z q0, .z q1, .y sZ, .ow true s5.1, .y s5.2, .un] : List (Slot K))) (s9, Lw) eV))))))) (λs6 => (aN (iW (bw (md := .hp) (cT (cU (aq 0 rfl) (aK 3)) (aK 1))) (bB (Bw 3 rfl rfl) (λHD => (bQ (λs16 : List Int => ([.z q0, .z q1, .y sZ, .ow true s16, .y s6.2, .un] : List (Slot K))) HD eV))) (bQ (λs16 : List Int => ([.z q0, .z q1, .y sZ, .ow true s16, .y s6.2, .un] : List (Slot K))) s6.1 eV)) (λRy => (Nz 3 rfl rfl))))))))))) (by unfold g8;simp only[bnd])
def pZ(q0 : List Int) : Option (Qt (List (List Int)) (List (Str×(List Int))) (List (List Int))) := (some (iz q0 none (some (60 : Int)))).bind λZQ => (some ZQ.reverse).bind λZR => (jg ZR ).bind λfP => (((uH fP.1 (4 : Int)).bind λa6 => ((dW fP.1 (4 : Int)).bind λb5 => jL ([(8 : Int), (8 : Int), (8 : Int), (60 : Int)]) b5).bind λb7 => dW a6 b7).bind λb8 => some ((1 : Int)+b8)).bind λo7 => (jg fP.2 ).bind λoA => (some (([] : List (List Int)))).bind λHF => ((gO o7).bind λxs => foldM (λ(QG : (List Int)×(List (List Int))) (x13 : Int) => ((((jg QG.1 ).bind λr16 => (Jp (10 : Int) (30 : Int)).bind λy17 => (dW r16.1 y17).bind λc => some (c, r16.2)).bind λr21 => (((mulM x13 x13).bind λa19 => mulM a19 oA.1).bind λa20 => dW a20 (1009 : Int)).bind λy22 => some (r21.1+y22, r21.2)).bind λr24 => (g8 r24.1 o7).bind λb25 => some (b25, r24.2)).bind λg_ => (if(decide (g_.1=([] : List Int)))=true then((dW (oA.1+x13) o7).bind λa29 => some (a29::([]))).bind λvY => some vY else some g_.1).bind λs26 => (push QG.2 s26).bind λxG => some (g_.2, xG)) xs (oA.2, HF)).bind λs12 => (some (([] : List (Str×(List Int))))).bind λHJ => ((((uH oA.1 (5 : Int)).bind λa35 => dW a35 (7 : Int)).bind λa36 => gO a36).bind λxs => foldM (λ(W8 : (List (Str×(List Int)))×(List Int)) (x34 : Int) => (((sY x34 oA.1).bind λx44 => (((jg W8.2 ).bind λr39 => (Jp (10 : Int) (30 : Int)).bind λy40 => (dW r39.1 y40).bind λc => some (c, r39.2)).bind λr42 => (g8 r42.1 o7).bind λb43 => some (b43, r42.2)).bind λr45 => some ((x44, r45.1), r45.2)).bind λr46 => (push W8.1 r46.1).bind λy47 => some (y47, r46.2)).bind λxH => some (xH.1, xH.2)) xs (HJ, s12.1)).bind λs33 => ((((uH oA.1 (35 : Int)).bind λa49 => dW a49 (4 : Int)).bind λa50 => gO a50).bind λxs => Fb (λ(ZS : List Int) (x51 : Int) => ((jg ZS ).bind λr54 => (Jp (10 : Int) (30 : Int)).bind λy55 => (dW r54.1 y55).bind λc => some (c, r54.2)).bind λr57 => (g8 r57.1 o7).bind λb58 => some (b58, r57.2)) s33.2 xs).bind λHN => some (Qt.mk s12.2 s33.1 HN.1)
theorem Cy : bf ["_law_script", "_law_rest", "_law_cell_here", "_law_many", "_law_seed", "_law_steps", "_law_k", "_law_some_here", "_law_marks", "_law_fair"] ["_law_script"] (aH yJ) := fsc
abbrev Fv(K : afh) : Sp := nD K false (λa : (List Int)×Unit => ([.z a.1] : List (Slot K))) (λa => pZ a.1)
theorem Ly(F : gn K "_law_parts" "_law_parts" yJ f fd)(B : Bl K mg)(tu : mJ P w K mg base k "_law_cell" ["_law_rest"] (JF K))(Vq : mJ P w K mg base k "_law_name" ["_law_k", "_law_seed"] (JH K))(Cz : mJ P w K mg base k "_law_some" ["_law_cell_here", "_law_many"] (JK K)) : bY P w K mg base jE (k+1) f fd ["_law_script"] (Fv K) := by
  refine dX F Cy (λ_ => rfl) (λ_ => rfl) λcdv A outer s H E hr => ?_
  have nd := Cy.nd
  refine⟨_, (ak (cg 1 nd (dY (wY K) (pv 0) gQ (eO aL))) (ak (cP (K8 K afn PySem.F.slot_list_reverse PySem.F.type_list_reverse Bh (pv 1))) (ak (cg 2 nd (cj tu hr (aj (pv 1) aA))) (ak (cg 3 nd (aX gU aL (aX cJ (aX jJ (pv 2) aL) (eG (kI K) (cX (aj aL (aj aL (aj aL (aj aL aA))))) (aX cJ (pv 2) aL) (λ_ _ => rfl))))) (ak (cg 4 nd (cj tu hr (aj (pv 1) aA))) (ak (cg 5 nd (cX aA)) (ak (jH af5 rfl (gG rfl B.range (aj (pv 3) aA)) (jF 6 nd) (ak (cg 7 nd (cj Cz hr (aj (aX gU (aX cJ (cj tu hr (aj (pv 1) aA)) (aX Kp aL aL)) (aX cJ (aX RQ (aX RQ (pv 6) (pv 6)) (pv 4)) aL)) (aj (pv 3) aA)))) (ak (dh (aZ (cR K (List Int) hr) (pv 7) (cX aA) (bG _)) (ak (cg 7 nd (cX (aj (aX cJ (aX gU (pv 4) (pv 6)) (pv 3)) aA))) aD) aD) (ak (cP (d9 K afn agh agi kZ (pv 5) (aj (pv 7) aA))) aD)))) (ak (cg 8 nd (cX aA)) (ak (jH af5 rfl (gG rfl B.range (aj (aX cJ (aX jJ (pv 4) aL) aL) aA)) (jF 6 nd) (ak (cP (d9 K afn agh agi kZ (pv 8) (aj (iQ (aj (cj Vq hr (aj (pv 6) (aj (pv 4) aA))) (aj (cj Cz hr (aj (aX cJ (cj tu hr (aj (pv 1) aA)) (aX Kp aL aL)) (aj (pv 3) aA))) aA))) aA))) aD)) (ak (jh (i := 9) (own := ["_law_k"]) (ix := [3, 1]) nd rfl rfl rfl rfl rfl (gG rfl B.range (aj (aX cJ (aX jJ (pv 4) aL) aL) aA)) (λC s H fp => bN (i := 0) (show(["_law_k", "_law_many", "_law_rest"] : List Str).Nodup from by decide +kernel) rfl (Or.inl rfl)) (λC s H fp => dD) (λC s H fp => (cj Cz hr (aj (aX cJ (cj tu hr (aj (pv 2) aA)) (aX Kp aL aL)) (aj (pv 1) aA))))) (ak (bJ (iQ (aj (pv 5) (aj (pv 8) (aj (pv 9) aA))))) aD))))))))))), ?_⟩
  rintro Fa ⟨q0, ⟨⟩⟩
  exact SB.of (aN (jO true 1 rfl rfl (wX (aF 0 rfl) (aK 60))) (λZQ => (aN (Bw 1 rfl rfl) (λZR => (Uv 1 rfl rfl (λp => (aN (Aj true 2 (λ_ => ⟨_, rfl, rfl⟩) (E_.ey (pQ 1 rfl rfl aV))) (λfP => (aN (bR true 3 rfl rfl (esc (iT (aK 1) (cU (nY (aq 2 rfl) (aK 4)) (esc (gk (jq (bx (esc (aK 8)) (bx (esc (aK 8)) (bx (esc (aK 8)) (bx (esc (aK 60)) jo)))) (λa h => afl ((bV (bV (bV (bV gw)))) a h) (by decide))).ex (cU (aq 2 rfl) (aK 4)))))))) (λo7 => (aN (Aj true 4 (λ_ => ⟨_, rfl, rfl⟩) (E_.ey (pQ 1 rfl rfl aV))) (λoA => (aN (jO true 5 rfl rfl (lg (α := List Int))) (λHF => (aN (lq (n := true) (L := (λQG : (List Int)×(List (List Int)) => ([.z q0, .nu (RL.mk (p := p) QG.1), .y fP.1, .y o7, .y oA.1, .ow true QG.2, .un, .un, .un, .un] : List (Slot K)))) (oA.2, HF) eV (iY (aq 3 rfl)) (λQG => (bO 6 rfl rfl)) (λQG x13 => (bB (Aj true 7 (λ_ => ⟨_, rfl, rfl⟩) (E_.ey (yD (as := (λa : Int×Unit => ([.z a.1] : List (Slot K)))) (f := (λa => g8 a.1 a.2.1)) (Yd (Hh (pQ 1 rfl rfl aV) (λ_ => ⟨1, _, rfl, rfl⟩) (λw15 => (K4 (aK 10) (aK 30)))) (λ_ => ⟨1, _, rfl, rfl⟩) (λw18 => (cU (T3 (T3 (aq 6 rfl) (aq 6 rfl)) (aq 4 rfl)) (aK 1009)))) (λ_ => ⟨1, _, rfl, rfl⟩) (λw23 => (aG (esc (aq 3 rfl)) aV))))) (λg_ => (bB (iW (bw (md := .hp) (cT (aF 7 rfl) (lg (α := Int)).ex)) (bB (bR true 7 rfl rfl (jq (bx (esc (cU (iT (aq 4 rfl) (aq 6 rfl)) (aq 3 rfl))) jo) (λa h => afl ((bV gw) a h) (by decide))).ex) (λvY => (bQ (λs27 : List Int => ([.z q0, .nu (RL.mk (p := p) g_.2), .y fP.1, .y o7, .y oA.1, .ow true QG.2, .y x13, .y s27, .un, .un] : List (Slot K))) vY eV))) (bQ (λs27 : List Int => ([.z q0, .nu (RL.mk (p := p) g_.2), .y fP.1, .y o7, .y oA.1, .ow true QG.2, .y x13, .y s27, .un, .un] : List (Slot K))) g_.1 eV)) (λs26 => (bB (pJ 5 rfl rfl (bU 7 rfl)) (λxG => (bQ (λQG : (List Int)×(List (List Int)) => ([.z q0, .nu (RL.mk (p := p) QG.1), .y fP.1, .y o7, .y oA.1, .ow true QG.2, .un, .un, .un, .un] : List (Slot K))) (g_.2, xG) eV))))))))) (λs12 => (aN (jO true 8 rfl rfl (lg (α := Str×(List Int)))) (λHJ => (aN (lq (n := true) (L := (λW8 : (List (Str×(List Int)))×(List Int) => ([.z q0, .nu (RL.mk (p := p) W8.2), .y fP.1, .y o7, .y oA.1, .ow true s12.2, .un, .un, .ow true W8.1, .un] : List (Slot K)))) (HJ, s12.1) eV (iY (cU (nY (aq 4 rfl) (aK 5)) (aK 7))) (λW8 => (bO 6 rfl rfl)) (λW8 x34 => (bB (La (n := true) 8 rfl rfl (λ_ => ⟨rfl, rfl⟩) (Um (n := true) (i := 1) rfl rfl (λ_ => ⟨1, _, rfl, rfl⟩) (esc (bA (aG (esc (aq 6 rfl)) (aG (esc (aq 4 rfl)) aV)))) (yD (as := (λa : Int×Unit => ([.z a.1] : List (Slot K)))) (f := (λa => g8 a.1 a.2.1)) (Hh (pQ 1 rfl rfl aV) (λ_ => ⟨1, _, rfl, rfl⟩) (λw38 => (K4 (aK 10) (aK 30)))) (λ_ => ⟨1, _, rfl, rfl⟩) (λw41 => (aG (esc (aq 3 rfl)) aV))))) (λxH => (bQ (λW8 : (List (Str×(List Int)))×(List Int) => ([.z q0, .nu (RL.mk (p := p) W8.2), .y fP.1, .y o7, .y oA.1, .ow true s12.2, .un, .un, .ow true W8.1, .un] : List (Slot K))) (xH.1, xH.2) eV))))) (λs33 => (aN (Aj true 9 (λ_ => ⟨_, rfl, rfl⟩) (E_.ey (EoN.eyn (λ_ => ⟨1, _, rfl, rfl⟩) (Ul (n := true) (n' := true) (lu := λZS : List Int => ([.un, .y o7, .nu (RL.mk (p := p) ZS)] : List (Slot K))) (no := 1) (ix := [3, 1]) 1 rfl rfl (aa2 rfl rfl) (iY (cU (nY (aq 4 rfl) (aK 35)) (aK 4))) (λZS => bO 0 rfl rfl) (λZS x51 => gP) (λZS x51 => (yD (as := (λa : Int×Unit => ([.z a.1] : List (Slot K)))) (f := (λa => g8 a.1 a.2.1)) (Hh (pQ 2 rfl rfl aV) (λ_ => ⟨2, _, rfl, rfl⟩) (λw53 => (K4 (aK 10) (aK 30)))) (λ_ => ⟨2, _, rfl, rfl⟩) (λw56 => (aG (esc (aq 1 rfl)) aV)))) (λZS x51 => jr) (λZS x51 => ⟨2, rfl, rfl⟩))))) (λHN => (qF (sl2 := [.z q0, .nu (RL.mk (p := p) HN.2), .y fP.1, .y o7, .y oA.1, .y s12.2, .un, .un, .y s33.1, .y HN.1]) eV (cL (Yb (bU 5 rfl) (bU 8 rfl) (bU 9 rfl)))))))))))))))))))))))))) (by unfold pZ;simp only[bnd])
def tD(q0 : Qt (List (List Int)) (List (Str×(List Int))) (List (List Int))) : Option (List Str) := (some q0).bind λv1 => (some ([] : List Str)).bind λeY => ((gO (v1.a.length : Int)).bind λxs => foldM (λ(s3 : List Str) (x5 : Int) => ((((((vI x5).bind λa7 => some (a7::([]))).bind λb8 => some (("from" : Str)::b8)).bind λa10 => ((jL v1.a x5).bind λxs => bL (λ(x9 : Int) => some true) (λ(x9 : Int) => vI x9) xs).bind λb11 => pO a10 b11).bind λa12 => joinM " " a12).bind λa13 => push s3 a13).bind λyP => some yP) xs eY).bind λs4 => ((some v1.b).bind λxs => foldM (λ(Al : List Str) (x16 : Str×(List Int)) => (((((some x16.2).bind λxs => bL (λ(x18 : Int) => some true) (λ(x18 : Int) => vI x18) xs).bind λb19 => pO ([("mark" : Str), x16.1]) b19).bind λa20 => joinM " " a20).bind λa21 => push Al a21).bind λvZ => some vZ) xs s4).bind λRy => ((some v1.c).bind λxs => foldM (λ(s22 : List Str) (x24 : List Int) => (((((some x24).bind λxs => bL (λ(x26 : Int) => some true) (λ(x26 : Int) => vI x26) xs).bind λb27 => pO ([("fair" : Str)]) b27).bind λa28 => joinM " " a28).bind λa29 => push s22 a29).bind λv7 => some v7) xs Ry).bind λs23 => some s23
theorem Fw : bf ["_law_parts_here", "_law_steps", "_law_marks", "_law_fair", "_law_rows_here", "_law_k", "_law_name_here", "_law_some_here"] ["_law_parts_here"] (aH BX) := fsc
abbrev JL(K : afh) : Sp := nD K false (λa : ((Qt (List (List Int)) (List (Str×(List Int))) (List (List Int))))×Unit => ([.z a.1] : List (Slot K))) (λa => tD a.1)
theorem QL(F : gn K "_law_rows" "_law_rows" BX f fd)(B : Bl K mg)(vX : mg "str" = none) : bY P w K mg base jE (k+1) f fd ["_law_parts_here"] (JL K) := by
  refine dX F Fw (λ_ => rfl) (λ_ => rfl) λcdv A outer s H E hr => ?_
  have nd := Fw.nd
  refine⟨_, (ak (qp (pv 0) (nH rfl (cG (jF 1 nd) (cG (jF 2 nd) (cG (jF 3 nd) iu))))) (ak (cg 4 nd (cX aA)) (ak (jH af5 rfl (gG rfl B.range (aj (aO (dF K) rfl B.len afp (aj (pv 1) aA)) aA)) (jF 5 nd) (ak (cP (d9 K afn agh agi kZ (pv 4) (aj (d9 K afr af8 af9 (m6 K) aM (aj (aX rE (cX (aj aM (aj (dj iw rfl vX vD (aj (pv 5) aA)) aA))) (fB (own := ["_law_stand"]) (ix := []) rfl rfl rfl (cN K (eG (kI K) (pv 1) (pv 5) (λ_ _ => rfl))) (λC s H fp => bN (i := 0) (show(["_law_stand"] : List Str).Nodup from by decide +kernel) rfl (Or.inl rfl)) (λC s H fp => dD) (λC s H fp => (dj iw rfl vX vD (aj (pv 0) aA))))) aA)) aA))) aD)) (ak (jH af5 rfl (cN K (pv 2)) (nH rfl (cG (jF 6 nd) (cG (jF 7 nd) iu))) (ak (cP (d9 K afn agh agi kZ (pv 4) (aj (d9 K afr af8 af9 (m6 K) aM (aj (aX rE (cX (aj aM (aj (pv 6) aA))) (fB (own := ["_law_stand"]) (ix := []) rfl rfl rfl (cN K (pv 7)) (λC s H fp => bN (i := 0) (show(["_law_stand"] : List Str).Nodup from by decide +kernel) rfl (Or.inl rfl)) (λC s H fp => dD) (λC s H fp => (dj iw rfl vX vD (aj (pv 0) aA))))) aA)) aA))) aD)) (ak (jH af5 rfl (cN K (pv 3)) (jF 7 nd) (ak (cP (d9 K afn agh agi kZ (pv 4) (aj (d9 K afr af8 af9 (m6 K) aM (aj (aX rE (cX (aj aM aA)) (fB (own := ["_law_stand"]) (ix := []) rfl rfl rfl (cN K (pv 7)) (λC s H fp => bN (i := 0) (show(["_law_stand"] : List Str).Nodup from by decide +kernel) rfl (Or.inl rfl)) (λC s H fp => dD) (λC s H fp => (dj iw rfl vX vD (aj (pv 0) aA))))) aA)) aA))) aD)) (ak (bJ (pv 4)) aD)))))), ?_⟩
  rintro Fa ⟨q0, ⟨⟩⟩
  exact SB.of (aN (aa3 (n := false) (bU 0 rfl) (Yc 1 2 3 rfl rfl (λ_ => rfl) rfl (λ_ _ => rfl) rfl)) (λv1 => (aN (jO true 4 rfl rfl (lg (α := Str))) (λeY => (aN (lq (n := true) (L := (λs3 : List Str => ([.z q0, .z v1.a, .z v1.b, .z v1.c, .ow true s3, .un, .un, .un] : List (Slot K)))) eY eV (iY (dH (aF 1 rfl))) (λs3 => (bO 5 rfl rfl)) (λs3 x5 => (bB (pJ 4 rfl rfl (esc (m7 " " (rP (jq (bx (esc (aU "from")) (bx (esc (ur (aq 5 rfl))) jo)) (λa h => afl ((bV (bV gw)) a h) (by decide))).ex (cY (n := false) (lu := [.un]) (no := 1) (ix := []) rfl rfl (cM (gk (bU 1 rfl) (aq 5 rfl))) (bO 0 rfl rfl) (λx9 => gP) (λx9 => (esc (ur (aq 0 rfl)))) (λx9 => jr)).ex).ex))) (λyP => (bQ (λs3 : List Str => ([.z q0, .z v1.a, .z v1.b, .z v1.c, .ow true s3, .un, .un, .un] : List (Slot K))) yP eV))))) (λs4 => (aN (lq (n := false) (L := (λAl : List Str => ([.z q0, .z v1.a, .z v1.b, .z v1.c, .ow true Al, .un, .un, .un] : List (Slot K)))) s4 eV (cM (bU 2 rfl)) (λAl => (nU 6 7 rfl rfl (λ_ => rfl) rfl)) (λAl x16 => (bB (pJ 4 rfl rfl (esc (m7 " " (rP (jq (bx (esc (aU "mark")) (bx (esc (aq 6 rfl)) jo)) (λa h => afl ((bV (bV gw)) a h) (by decide))).ex (cY (n := false) (lu := [.un]) (no := 1) (ix := []) rfl rfl (cM (bU 7 rfl)) (bO 0 rfl rfl) (λx18 => gP) (λx18 => (esc (ur (aq 0 rfl)))) (λx18 => jr)).ex).ex))) (λvZ => (bQ (λAl : List Str => ([.z q0, .z v1.a, .z v1.b, .z v1.c, .ow true Al, .un, .un, .un] : List (Slot K))) vZ eV))))) (λRy => (aN (lq (n := false) (L := (λs22 : List Str => ([.z q0, .z v1.a, .z v1.b, .z v1.c, .ow true s22, .un, .un, .un] : List (Slot K)))) Ry eV (cM (bU 3 rfl)) (λs22 => (bO 7 rfl rfl)) (λs22 x24 => (bB (pJ 4 rfl rfl (esc (m7 " " (rP (jq (bx (esc (aU "fair")) jo) (λa h => afl ((bV gw) a h) (by decide))).ex (cY (n := false) (lu := [.un]) (no := 1) (ix := []) rfl rfl (cM (bU 7 rfl)) (bO 0 rfl rfl) (λx26 => gP) (λx26 => (esc (ur (aq 0 rfl)))) (λx26 => jr)).ex).ex))) (λv7 => (bQ (λs22 : List Str => ([.z q0, .z v1.a, .z v1.b, .z v1.c, .ow true s22, .un, .un, .un] : List (Slot K))) v7 eV))))) (λs23 => (Nz 4 rfl rfl))))))))))) (by unfold tD;simp only[bnd])
end
end Ts
set_option maxHeartbeats 40000000
namespace Ts
open PySem L2
section
variable{P : Program}{w : World}{K : afh}{mg : Str→Option Value}{base : Heap}
seal L2.PE L2.PT L2.PW L2.PA L2.PS L2.xY L2.PC L2.PG L2.Rq L2.PI L2.vg L2.PO
def cV(q0 : Str) : Option Str := (Jz q0 " ").bind λa1 => some a1.a
theorem Fx : bf ["_law_row"] ["_law_row"] (aH BZ) := fsc
abbrev CG(K : afh) : Sp := nD K false (λa : Str×Unit => ([.z a.1] : List (Slot K))) (λa => cV a.1)
theorem QM(F : gn K "_law_kind" "_law_kind" BZ f fd)(B : Bl K mg) : bY P w K mg base jE (k+1) f fd ["_law_row"] (CG K) := by
  refine dX F Fx (λ_ => rfl) (λ_ => rfl) λcdv A outer s H E hr => ?_
  have nd := Fx.nd
  refine⟨_, (ak (bJ (eG (ac8 K) (d9 K afr PySem.F.slot_str_partition PySem.F.type_str_partition Hq (pv 0) (aj aM aA)) aL (λ_ _ => rfl))) aD), ?_⟩
  rintro Fa ⟨q0, ⟨⟩⟩
  exact SB.of (cL (esc (Og (Yp " " (by decide +kernel) (aq 0 rfl)) (aK 0)))) (by unfold cV;simp only[bnd])
def p8(q0 : List Str)(q1 : Int)(q2 : Int) : Option (Str×(List Str)) := (some q0).bind λiK => (dW q1 (q0.length : Int)).bind λat2 => (jL iK at2).bind λJM => ((((zQ JM).bind λa5 => some (a5::([]))).bind λb6 => some ((0 : Int)::b6)).bind λa10 => (((zQ JM).bind λa7 => gO a7).bind λxs => bL (λ(x8 : Int) => (W6 JM x8).bind λa9 => some (decide (a9=(" " : Str)))) (λ(x8 : Int) => some x8) xs).bind λb11 => pO a10 b11).bind λHS => ((dW q2 (HS.length : Int)).bind λVi => jL HS Vi).bind λHW => ((((UW JM HW).bind λa15 => rT a15 (" " : Str)).bind λa16 => (U0 JM HW).bind λb17 => rT a16 b17).bind λa18 => setAt iK at2 a18).bind λLz => some ((("text" : Str), Lz))
theorem CJ : bf ["_law_rows_here", "_law_place", "_law_cell_here", "_law_made", "_law_at", "_law_row", "_law_spots", "_law_spot"] ["_law_rows_here", "_law_place", "_law_cell_here"] (aH yK) := fsc
abbrev Fy(K : afh) : Sp := nD K false (λa : (List Str)×Int×Int×Unit => ([.z a.1, .z a.2.1, .z a.2.2.1] : List (Slot K))) (λa => p8 a.1 a.2.1 a.2.2.1)
theorem LK(F : gn K "_law_blank" "_law_blank" yK f fd)(B : Bl K mg) : bY P w K mg base jE (k+1) f fd ["_law_rows_here", "_law_place", "_law_cell_here"] (Fy K) := by
  refine dX F CJ (λ_ => rfl) (λ_ => rfl) λcdv A outer s H E hr => ?_
  have nd := CJ.nd
  refine⟨_, (ak (cg 3 nd (dj (qD K) rfl B.list qz (aj (pv 0) aA))) (ak (cg 4 nd (aX cJ (pv 1) (aO (dF K) rfl B.len afp (aj (pv 0) aA)))) (ak (cg 5 nd (eG (kI K) (pv 3) (pv 4) (λ_ _ => rfl))) (ak (cg 6 nd (aX rE (cX (aj aL (aj (aO pL rfl B.len afp (aj (pv 5) aA)) aA))) (fB (own := ["_law_k"]) (ix := [5]) rfl rfl rfl (gG rfl B.range (aj (aO pL rfl B.len afp (aj (pv 5) aA)) aA)) (λC s H fp => bN (i := 0) (show(["_law_k", "_law_row"] : List Str).Nodup from by decide +kernel) rfl (Or.inl rfl)) (λC s H fp => lE (aZ (cR K Str hr) (G8 (pv 1) (pv 0) (λ_ _ => rfl)) aM (bG _))) (λC s H fp => (pv 0))))) (ak (cg 7 nd (eG (kI K) (pv 6) (aX cJ (pv 2) (aO (dF K) rfl B.len afp (aj (pv 6) aA))) (λ_ _ => rfl))) (ak (qp (aX m5 (aX m5 (dY aa0 (pv 5) gQ (eO (pv 7))) aM) (dY Yg (pv 5) (eO (pv 7)) gQ)) (uX (pv 3) (pv 4) set_list)) (ak (bJ (iQ (aj aM (aj (pv 3) aA)))) aD))))))), ?_⟩
  rintro Fa ⟨q0, q1, q2, ⟨⟩⟩
  exact SB.of (aN (jO true 3 rfl rfl (nZ (aF 0 rfl))) (λiK => (aN (bR true 4 rfl rfl (esc (cU (aq 1 rfl) (dH (aF 0 rfl))))) (λat2 => (aN (bR true 5 rfl rfl (esc (esc (gk (qu 3 rfl) (aq 4 rfl))))) (λJM => (aN (bR true 6 rfl rfl (rP (jq (bx (esc (aK 0)) (bx (esc (wV (aq 5 rfl))) jo)) (λa h => afl ((bV (bV gw)) a h) (by decide))).ex (cY (n := true) (lu := [.un, .y JM]) (no := 1) (ix := [5]) rfl rfl (iY (wV (aq 5 rfl))) (bO 0 rfl rfl) (λx8 => (bw (md := .hp) (cT (esc (G9 (aq 1 rfl) (aq 0 rfl))) (aU " ")))) (λx8 => (esc (aq 0 rfl))) (λx8 => jr)).ex).ex) (λHS => (aN (bR true 7 rfl rfl (esc (esc (gk (aF 6 rfl) (cU (aq 2 rfl) (dH (aF 6 rfl))))))) (λHW => (aN (nR 3 rfl rfl (esc (m8 (m8 (esc (Yh (aq 5 rfl) (aq 7 rfl))) (aU " ")) (esc (Yi (aq 5 rfl) (aq 7 rfl))))) (aq 4 rfl)) (λLz => (qF (sl2 := [.z q0, .z q1, .z q2, .y Lz, .y at2, .y JM, .y HS, .y HW]) eV (cL (jN (aU "text") (bU 3 rfl)))))))))))))))) (by unfold p8;simp only[bnd])
def fQ(q0 : List Str)(q1 : Int)(q2 : Int)(q3 : Int) : Option (Str×(List Str)) := (some q0).bind λiK => (dW q2 (q0.length : Int)).bind λat2 => (if(decide (q1=(1 : Int)))=true then((dW q3 ((q0.length : Int)+(1 : Int))).bind λa6 => Dr iK a6 ("" : Str)).bind λCK => some CK else some iK).bind λs3 => (if(decide (q1=(2 : Int)))=true then((((dW q3 (8 : Int)).bind λb10 => jL ([("x" : Str), ("-" : Str), ("F" : Str), ("0" : Str), (":" : Str), ("from" : Str), ("fair" : Str), ("markk " : Str)]) b10).bind λa11 => (jL s3 at2).bind λb12 => rT a11 b12).bind λa13 => setAt s3 at2 a13).bind λVr => some Vr else some s3).bind λs7 => ((if(decide (q1=(3 : Int)))=true then((gO ((q0.length : Int)-(1 : Int))).bind λxs => bL (λ(x17 : Int) => (((jL q0 x17).bind λa19 => some ((a19, ()))).bind λz18 => cV z18.1).bind λa22 => (((jL q0 (x17+(1 : Int))).bind λa21 => some ((a21, ()))).bind λz20 => cV z20.1).bind λb23 => some (!decide (a22=b23))) (λ(x17 : Int) => some x17) xs).bind λJN => (((gO ((q0.length : Int)-(1 : Int))).bind λxs => bL (λ(x25 : Int) => (((jL q0 (x25+(1 : Int))).bind λa27 => some ((a27, ()))).bind λz26 => cV z26.1).bind λa28 => some (decide (a28=("from" : Str)))) (λ(x25 : Int) => some x25) xs).bind λb29 => pO JN b29).bind λtE => if(decide (tE=([] : List Int)))=true then(some ((("by" : Str), s7))).bind λb => some (.rt b) else((dW q2 (tE.length : Int)).bind λb31 => jL tE b31).bind λLQ => ((jL q0 (LQ+(1 : Int))).bind λa33 => setAt s7 LQ a33).bind λVs => ((jL q0 LQ).bind λa35 => setAt Vs (LQ+(1 : Int)) a35).bind λLR => some (.nx (LQ, LR)) else some (.nx (at2, s7))) : Option (Out (Int×(List Str)) (Str×(List Str)))).bind λo => o.els λAl => (((some q0).bind λxs => bL (λ(x37 : Str) => (cV x37).bind λa38 => some (decide (a38=("from" : Str)))) (λ(x37 : Str) => some x37) xs).bind λa39 => some (a39.length : Int)).bind λlB => ((if(decide (q1=(4 : Int)))=true then((dW q3 (2 : Int)).bind λa40 => some (decide (a40=(1 : Int)))).bind λc41 => if c41=true then some (decide ((1 : Int)<lB)) else some false else some false).bind λb => if b=true then((dW q2 (lB-(1 : Int))).bind λa45 => vP Al.2 a45).bind λv8 => some v8 else(if(decide (q1=(4 : Int)))=true then(((dW q2 lB).bind λb49 => jL q0 b49).bind λb50 => Dr Al.2 (0 : Int) b50).bind λv9 => some v9 else some Al.2).bind λs46 => some s46).bind λs42 => some ((("text" : Str), s42))
theorem CN : bf ["_law_rows_here", "_law_way", "_law_place", "_law_cell_here", "_law_made", "_law_at", "_law_unlike", "_law_many"] ["_law_rows_here", "_law_way", "_law_place", "_law_cell_here"] (aH yL) := fsc
abbrev Fz(K : afh) : Sp := nD K false (λa : (List Str)×Int×Int×Int×Unit => ([.z a.1, .z a.2.1, .z a.2.2.1, .z a.2.2.2.1] : List (Slot K))) (λa => fQ a.1 a.2.1 a.2.2.1 a.2.2.2.1)
theorem L_(F : gn K "_law_moved" "_law_moved" yL f fd)(B : Bl K mg)(lZ : mJ P w K mg base k "_law_kind" ["_law_row"] (CG K)) : bY P w K mg base jE (k+1) f fd ["_law_rows_here", "_law_way", "_law_place", "_law_cell_here"] (Fz K) := by
  refine dX F CN (λ_ => rfl) (λ_ => rfl) λcdv A outer s H E hr => ?_
  have nd := CN.nd
  refine⟨_, (ak (cg 4 nd (dj (qD K) rfl B.list qz (aj (pv 0) aA))) (ak (cg 5 nd (aX cJ (pv 2) (aO (dF K) rfl B.len afp (aj (pv 0) aA)))) (ak (dh (aZ (cR K Int hr) (pv 1) aL (bG _)) (ak (cP (d9 K afn ahu ahv yF (pv 4) (aj (aX cJ (pv 3) (aX gU (aO (dF K) rfl B.len afp (aj (pv 0) aA)) aL)) (aj aM aA)))) aD) aD) (ak (dh (aZ (cR K Int hr) (pv 1) aL (bG _)) (ak (qp (aX m5 (eG (kI K) (cX (aj aM (aj aM (aj aM (aj aM (aj aM (aj aM (aj aM (aj aM aA))))))))) (aX cJ (pv 3) aL) (λ_ _ => rfl)) (eG (kI K) (pv 4) (pv 5) (λ_ _ => rfl))) (uX (pv 4) (pv 5) set_list)) aD) aD) (ak (dh (aZ (cR K Int hr) (pv 1) aL (bG _)) (ak (jh (i := 6) (own := ["_law_k"]) (ix := [0]) nd rfl rfl rfl rfl rfl (gG rfl B.range (aj (aX rD (aO (dF K) rfl B.len afp (aj (pv 0) aA)) aL) aA)) (λC s H fp => bN (i := 0) (show(["_law_k", "_law_rows_here"] : List Str).Nodup from by decide +kernel) rfl (Or.inl rfl)) (λC s H fp => lE (aZ (qx K Str hr) (cj lZ hr (aj (eG (kI K) (pv 1) (pv 0) (λ_ _ => rfl)) aA)) (cj lZ hr (aj (eG (kI K) (pv 1) (aX gU (pv 0) aL) (λ_ _ => rfl)) aA)) (bG _))) (λC s H fp => (pv 0))) (ak (cg 6 nd (aX rE (pv 6) (fB (own := ["_law_k"]) (ix := [0]) rfl rfl rfl (gG rfl B.range (aj (aX rD (aO (dF K) rfl B.len afp (aj (pv 0) aA)) aL) aA)) (λC s H fp => bN (i := 0) (show(["_law_k", "_law_rows_here"] : List Str).Nodup from by decide +kernel) rfl (Or.inl rfl)) (λC s H fp => lE (aZ (cR K Str hr) (cj lZ hr (aj (eG (kI K) (pv 1) (aX gU (pv 0) aL) (λ_ _ => rfl)) aA)) aM (bG _))) (λC s H fp => (pv 0))))) (ak (dh (aZ (cR K (List Int) hr) (pv 6) (cX aA) (bG _)) (ak (bJ (iQ (aj aM (aj (pv 4) aA)))) aD) aD) (ak (cg 5 nd (eG (kI K) (pv 6) (aX cJ (pv 2) (aO (dF K) rfl B.len afp (aj (pv 6) aA))) (λ_ _ => rfl))) (ak (qp (eG (kI K) (pv 0) (aX gU (pv 5) aL) (λ_ _ => rfl)) (uX (pv 4) (pv 5) set_list)) (ak (qp (eG (kI K) (pv 0) (pv 5) (λ_ _ => rfl)) (uX (pv 4) (aX gU (pv 5) aL) set_list)) aD)))))) aD) (ak (cg 7 nd (aO (dF K) rfl B.len afp (aj (fB (own := ["_law_row"]) (ix := []) rfl rfl rfl (cN K (pv 0)) (λC s H fp => bN (i := 0) (show(["_law_row"] : List Str).Nodup from by decide +kernel) rfl (Or.inl rfl)) (λC s H fp => lE (aZ (cR K Str hr) (cj lZ hr (aj (pv 0) aA)) aM (bG _))) (λC s H fp => (pv 0))) aA))) (ak (dh (PW.pt (pw_and (aZ (cR K Int hr) (pv 1) aL (bG _)) (pw_and (aZ (cR K Int hr) (aX cJ (pv 3) aL) aL (bG _)) (pw_and1 (aZ Jb (pv 7) aL (bG _)))))) (ak (cP (d9 K afn PySem.F.slot_list_pop PySem.F.type_list_pop S6 (pv 4) (aj (aX cJ (pv 2) (aX rD (pv 7) aL)) aA))) aD) (ak (dh (aZ (cR K Int hr) (pv 1) aL (bG _)) (ak (cP (d9 K afn ahu ahv yF (pv 4) (aj aL (aj (eG (kI K) (pv 0) (aX cJ (pv 2) (pv 7)) (λ_ _ => rfl)) aA)))) aD) aD) aD)) (ak (bJ (iQ (aj aM (aj (pv 4) aA)))) aD)))))))), ?_⟩
  rintro Fa ⟨q0, q1, q2, q3, ⟨⟩⟩
  exact SB.of (aN (jO true 4 rfl rfl (nZ (aF 0 rfl))) (λiK => (aN (bR true 5 rfl rfl (esc (cU (aq 2 rfl) (dH (aF 0 rfl))))) (λat2 => (aN (iW (bw (md := .hp) (cT (aq 1 rfl) (aK 1))) (bB (yG 4 rfl rfl (cU (aq 3 rfl) (iT (dH (aF 0 rfl)) (aK 1))) (esc (aU ""))) (λCK => (bQ (λs4 : List Str => ([.z q0, .z q1, .z q2, .z q3, .ow true s4, .y at2, .un, .un] : List (Slot K))) CK eV))) (bQ (λs4 : List Str => ([.z q0, .z q1, .z q2, .z q3, .ow true s4, .y at2, .un, .un] : List (Slot K))) iK eV)) (λs3 => (aN (iW (bw (md := .hp) (cT (aq 1 rfl) (aK 2))) (bB (nR 4 rfl rfl (esc (m8 (esc (gk (jq (bx (esc (aU "x")) (bx (esc (aU "-")) (bx (esc (aU "F")) (bx (esc (aU "0")) (bx (esc (aU ":")) (bx (esc (aU "from")) (bx (esc (aU "fair")) (bx (esc (aU "markk ")) jo)))))))) (λa h => afl ((bV (bV (bV (bV (bV (bV (bV (bV gw)))))))) a h) (by decide))).ex (cU (aq 3 rfl) (aK 8)))) (esc (gk (qu 4 rfl) (aq 5 rfl))))) (aq 5 rfl)) (λVr => (bQ (λs8 : List Str => ([.z q0, .z q1, .z q2, .z q3, .ow true s8, .y at2, .un, .un] : List (Slot K))) Vr eV))) (bQ (λs8 : List Str => ([.z q0, .z q1, .z q2, .z q3, .ow true s8, .y at2, .un, .un] : List (Slot K))) s3 eV)) (λs7 => (TQ (ac3 (bw (md := .hp) (cT (aq 1 rfl) (aK 3))) (gq (bR true 6 rfl rfl (cY (n := true) (lu := [.un, .z q0]) (no := 1) (ix := [0]) rfl rfl (iY (rN (dH (aF 0 rfl)) (aK 1))) (bO 0 rfl rfl) (λx17 => (bw (md := .hp) (qy (bA (aG (esc (esc (gk (aF 1 rfl) (aq 0 rfl)))) aV)) (bA (aG (esc (esc (gk (aF 1 rfl) (iT (aq 0 rfl) (aK 1))))) aV))))) (λx17 => (esc (aq 0 rfl))) (λx17 => jr)).ex) (λJN => (gq (bR true 6 rfl rfl (rP (aF 6 rfl) (cY (n := true) (lu := [.un, .z q0]) (no := 1) (ix := [0]) rfl rfl (iY (rN (dH (aF 0 rfl)) (aK 1))) (bO 0 rfl rfl) (λx25 => (bw (md := .hp) (cT (bA (aG (esc (esc (gk (aF 1 rfl) (iT (aq 0 rfl) (aK 1))))) aV)) (aU "from")))) (λx25 => (esc (aq 0 rfl))) (λx25 => jr)).ex).ex) (λtE => (qw (bw (md := .hp) (cT (aF 6 rfl) (lg (α := Int)).ex)) (qF (sl2 := [.z q0, .z q1, .z q2, .z q3, .y s7, .y at2, .y tE, .un]) eV (cL (jN (aU "by") (bU 4 rfl)))) (gq (bR true 5 rfl rfl (esc (esc (gk (aF 6 rfl) (cU (aq 2 rfl) (dH (aF 6 rfl))))))) (λLQ => (gq (nR 4 rfl rfl (esc (esc (gk (aF 0 rfl) (iT (aq 5 rfl) (aK 1))))) (aq 5 rfl)) (λVs => (gq (nR 4 rfl rfl (esc (esc (gk (aF 0 rfl) (aq 5 rfl)))) (iT (aq 5 rfl) (aK 1))) (λLR => (mH (λRy : Int×(List Str) => ([.z q0, .z q1, .z q2, .z q3, .ow true Ry.2, .y Ry.1, .un, .un] : List (Slot K))) (LQ, LR) eV)))))))))))) (mH (λRy : Int×(List Str) => ([.z q0, .z q1, .z q2, .z q3, .ow true Ry.2, .y Ry.1, .un, .un] : List (Slot K))) (at2, s7) eV)) (λAl => (aN (bR true 7 rfl rfl (esc (dH (cY (n := false) (lu := [.un]) (no := 1) (ix := []) rfl rfl (cM (bU 0 rfl)) (bO 0 rfl rfl) (λx37 => (bw (md := .hp) (cT (bA (aG (esc (aq 0 rfl)) aV)) (aU "from")))) (λx37 => (esc (aq 0 rfl))) (λx37 => jr)).ex))) (λlB => (aN (iW (GD (bw (md := .hp) (cT (aq 1 rfl) (aK 4))) (GD (bw (md := .hp) (cT (cU (aq 3 rfl) (aK 2)) (aK 1))) (bw (md := .hp) (Jo (aq 7 rfl) (aK 1))))) (bB (U_ 4 rfl rfl (cU (aq 2 rfl) (rN (aq 7 rfl) (aK 1)))) (λv8 => (bQ (λs43 : List Str => ([.z q0, .z q1, .z q2, .z q3, .ow true s43, .y Al.1, .un, .y lB] : List (Slot K))) v8 eV))) (bB (iW (bw (md := .hp) (cT (aq 1 rfl) (aK 4))) (bB (yG 4 rfl rfl (aK 0) (esc (esc (gk (aF 0 rfl) (cU (aq 2 rfl) (aq 7 rfl)))))) (λv9 => (bQ (λs47 : List Str => ([.z q0, .z q1, .z q2, .z q3, .ow true s47, .y Al.1, .un, .y lB] : List (Slot K))) v9 eV))) (bQ (λs47 : List Str => ([.z q0, .z q1, .z q2, .z q3, .ow true s47, .y Al.1, .un, .y lB] : List (Slot K))) Al.2 eV)) (λs46 => (bQ (λs43 : List Str => ([.z q0, .z q1, .z q2, .z q3, .ow true s43, .y Al.1, .un, .y lB] : List (Slot K))) s46 eV)))) (λs42 => (qF (sl2 := [.z q0, .z q1, .z q2, .z q3, .y s42, .y Al.1, .un, .y lB]) eV (cL (jN (aU "text") (bU 4 rfl)))))))))))))))))) (by unfold fQ;simp only[bnd])
def oE(q0 : List Str)(q1 : Int)(q2 : Int) : Option (Str×(List Str)) := (some q0).bind λiK => (dW q1 (q0.length : Int)).bind λat2 => ((dW q2 (10 : Int)).bind λb4 => jL ([("00" : Str), ("100" : Str), ("x" : Str), ("-1" : Str), ("+1" : Str), ("1." : Str), ("07" : Str), ("a" : Str), ("1," : Str), ("0x" : Str)]) b4).bind λVt => ((((jL iK at2).bind λa6 => rT a6 (" " : Str)).bind λa7 => rT a7 Vt).bind λa8 => setAt iK at2 a8).bind λCK => some ((("text" : Str), CK))
theorem zF : bf ["_law_rows_here", "_law_place", "_law_cell_here", "_law_made", "_law_at", "_law_word"] ["_law_rows_here", "_law_place", "_law_cell_here"] (aH vR) := fsc
abbrev CP(K : afh) : Sp := nD K false (λa : (List Str)×Int×Int×Unit => ([.z a.1, .z a.2.1, .z a.2.2.1] : List (Slot K))) (λa => oE a.1 a.2.1 a.2.2.1)
theorem JQ(F : gn K "_law_number" "_law_number" vR f fd)(B : Bl K mg) : bY P w K mg base jE (k+1) f fd ["_law_rows_here", "_law_place", "_law_cell_here"] (CP K) := by
  refine dX F zF (λ_ => rfl) (λ_ => rfl) λcdv A outer s H E hr => ?_
  have nd := zF.nd
  refine⟨_, (ak (cg 3 nd (dj (qD K) rfl B.list qz (aj (pv 0) aA))) (ak (cg 4 nd (aX cJ (pv 1) (aO (dF K) rfl B.len afp (aj (pv 0) aA)))) (ak (cg 5 nd (eG (kI K) (cX (aj aM (aj aM (aj aM (aj aM (aj aM (aj aM (aj aM (aj aM (aj aM (aj aM aA))))))))))) (aX cJ (pv 2) aL) (λ_ _ => rfl))) (ak (qp (aX m5 (aX m5 (eG (kI K) (pv 3) (pv 4) (λ_ _ => rfl)) aM) (pv 5)) (uX (pv 3) (pv 4) set_list)) (ak (bJ (iQ (aj aM (aj (pv 3) aA)))) aD))))), ?_⟩
  rintro Fa ⟨q0, q1, q2, ⟨⟩⟩
  exact SB.of (aN (jO true 3 rfl rfl (nZ (aF 0 rfl))) (λiK => (aN (bR true 4 rfl rfl (esc (cU (aq 1 rfl) (dH (aF 0 rfl))))) (λat2 => (aN (bR true 5 rfl rfl (esc (esc (gk (jq (bx (esc (aU "00")) (bx (esc (aU "100")) (bx (esc (aU "x")) (bx (esc (aU "-1")) (bx (esc (aU "+1")) (bx (esc (aU "1.")) (bx (esc (aU "07")) (bx (esc (aU "a")) (bx (esc (aU "1,")) (bx (esc (aU "0x")) jo)))))))))) (λa h => afl ((bV (bV (bV (bV (bV (bV (bV (bV (bV (bV gw)))))))))) a h) (by decide))).ex (cU (aq 2 rfl) (aK 10)))))) (λVt => (aN (nR 3 rfl rfl (esc (m8 (m8 (esc (gk (qu 3 rfl) (aq 4 rfl))) (aU " ")) (aq 5 rfl))) (aq 4 rfl)) (λCK => (qF (sl2 := [.z q0, .z q1, .z q2, .y CK, .y at2, .y Vt]) eV (cL (jN (aU "text") (bU 3 rfl)))))))))))) (by unfold oE;simp only[bnd])
def qb(q0 : List Str)(q1 : Int)(q2 : Int)(q3 : Int) : Option (Str×(List Str)) := (some q0).bind λiK => (dW q2 (q0.length : Int)).bind λat2 => ((jL iK at2).bind λa4 => splitM a4 " ").bind λoF => ((((jL oF (0 : Int)).bind λa6 => some (!decide (a6=("fair" : Str)))).bind λa7 => some (if a7=true then(1 : Int) else 0)).bind λb8 => some ((1 : Int)+b8)).bind λxJ => ((dW q3 ((100 : Int)-q1)).bind λb10 => some (q1+b10)).bind λtH => ((((dW q3 (2 : Int)).bind λa11 => some (decide (a11=(1 : Int)))).bind λc12 => if c12=true then some (decide (xJ<(oF.length : Int))) else some false).bind λb => if b=true then(((((uH q3 (2 : Int)).bind λa16 => dW a16 ((oF.length : Int)-xJ)).bind λb17 => some (xJ+b17)).bind λb18 => jL oF b18).bind λa19 => Hf a19).bind λqL => some qL else some tH).bind λs13 => (((uH q3 (200 : Int)).bind λa21 => dW a21 (((oF.length : Int)-xJ)+(1 : Int))).bind λb22 => some (xJ+b22)).bind λwg => ((((((vI s13).bind λa24 => some (a24::([]))).bind λb25 => pO (iz oF none (some wg)) b25).bind λa26 => pO a26 (iz oF (some wg) none)).bind λa27 => joinM " " a27).bind λa28 => setAt iK at2 a28).bind λCQ => some ((("stand" : Str), CQ))
theorem FJ : bf ["_law_rows_here", "_law_many", "_law_place", "_law_cell_here", "_law_made", "_law_at", "_law_words", "_law_head", "_law_number_here", "_law_spot"] ["_law_rows_here", "_law_many", "_law_place", "_law_cell_here"] (aH B_) := fsc
abbrev JR(K : afh) : Sp := nD K false (λa : (List Str)×Int×Int×Int×Unit => ([.z a.1, .z a.2.1, .z a.2.2.1, .z a.2.2.2.1] : List (Slot K))) (λa => qb a.1 a.2.1 a.2.2.1 a.2.2.2.1)
theorem QS(F : gn K "_law_more" "_law_more" B_ f fd)(B : Bl K mg)(vX : mg "str" = none) : bY P w K mg base jE (k+1) f fd ["_law_rows_here", "_law_many", "_law_place", "_law_cell_here"] (JR K) := by
  refine dX F FJ (λ_ => rfl) (λ_ => rfl) λcdv A outer s H E hr => ?_
  have nd := FJ.nd
  refine⟨_, (ak (cg 4 nd (dj (qD K) rfl B.list qz (aj (pv 0) aA))) (ak (cg 5 nd (aX cJ (pv 2) (aO (dF K) rfl B.len afp (aj (pv 0) aA)))) (ak (cg 6 nd (d9 K afr agu agv pR (eG (kI K) (pv 4) (pv 5) (λ_ _ => rfl)) (aj aM aA))) (ak (cg 7 nd (aX gU aL (dj PN rfl B.int yu (aj (wI (qx K Str hr) (eG (kI K) (pv 6) aL (λ_ _ => rfl)) aM (bG _)) aA)))) (ak (cg 8 nd (aX gU (pv 1) (aX cJ (pv 3) (aX rD aL (pv 1))))) (ak (dh (PW.pt (pw_and (aZ (cR K Int hr) (aX cJ (pv 3) aL) aL (bG _)) (pw_and1 (aZ Jb (aO (dF K) rfl B.len afp (aj (pv 6) aA)) (pv 7) (bG _))))) (ak (cg 8 nd (dj o_ rfl B.int yu (aj (eG (kI K) (pv 6) (aX gU (pv 7) (aX cJ (aX jJ (pv 3) aL) (aX rD (aO (dF K) rfl B.len afp (aj (pv 6) aA)) (pv 7)))) (λ_ _ => rfl)) aA))) aD) aD) (ak (cg 9 nd (aX gU (pv 7) (aX cJ (aX jJ (pv 3) aL) (aX gU (aX rD (aO (dF K) rfl B.len afp (aj (pv 6) aA)) (pv 7)) aL)))) (ak (qp (d9 K afr af8 af9 (m6 K) aM (aj (aX rE (aX rE (dY (wY K) (pv 6) gQ (eO (pv 9))) (cX (aj (dj iw rfl vX vD (aj (pv 8) aA)) aA))) (dY (wY K) (pv 6) (eO (pv 9)) gQ)) aA)) (uX (pv 4) (pv 5) set_list)) (ak (bJ (iQ (aj aM (aj (pv 4) aA)))) aD))))))))), ?_⟩
  rintro Fa ⟨q0, q1, q2, q3, ⟨⟩⟩
  exact SB.of (aN (jO true 4 rfl rfl (nZ (aF 0 rfl))) (λiK => (aN (bR true 5 rfl rfl (esc (cU (aq 2 rfl) (dH (aF 0 rfl))))) (λat2 => (aN (bR true 6 rfl rfl (pU " " (by decide +kernel) (esc (gk (qu 4 rfl) (aq 5 rfl)))).ex) (λoF => (aN (bR true 7 rfl rfl (esc (iT (aK 1) (XQ (qy (esc (gk (aF 6 rfl) (aK 0))) (aU "fair")))))) (λxJ => (aN (bR true 8 rfl rfl (esc (iT (aq 1 rfl) (cU (aq 3 rfl) (rN (aK 100) (aq 1 rfl)))))) (λtH => (aN (iW (GD (bw (md := .hp) (cT (cU (aq 3 rfl) (aK 2)) (aK 1))) (bw (md := .hp) (Jo (dH (aF 6 rfl)) (aq 7 rfl)))) (bB (bR true 8 rfl rfl (esc (Hg (esc (gk (aF 6 rfl) (iT (aq 7 rfl) (cU (nY (aq 3 rfl) (aK 2)) (rN (dH (aF 6 rfl)) (aq 7 rfl))))))))) (λqL => (bQ (λAl : Int => ([.z q0, .z q1, .z q2, .z q3, .ow true iK, .y at2, .y oF, .y xJ, .y Al, .un] : List (Slot K))) qL eV))) (bQ (λAl : Int => ([.z q0, .z q1, .z q2, .z q3, .ow true iK, .y at2, .y oF, .y xJ, .y Al, .un] : List (Slot K))) tH eV)) (λs13 => (aN (bR true 9 rfl rfl (esc (iT (aq 7 rfl) (cU (nY (aq 3 rfl) (aK 200)) (iT (rN (dH (aF 6 rfl)) (aq 7 rfl)) (aK 1)))))) (λwg => (aN (nR 4 rfl rfl (esc (m7 " " (rP (rP (wX (aF 6 rfl) (aq 9 rfl)).ex (jq (bx (esc (ur (aq 8 rfl))) jo) (λa h => afl ((bV gw) a h) (by decide))).ex).ex (pP (aF 6 rfl) (aq 9 rfl)).ex).ex)) (aq 5 rfl)) (λCQ => (qF (sl2 := [.z q0, .z q1, .z q2, .z q3, .y CQ, .y at2, .y oF, .y xJ, .y s13, .y wg]) eV (cL (jN (aU "stand") (bU 4 rfl)))))))))))))))))))) (by unfold qb;simp only[bnd])
def fU(q0 : List Str)(q1 : Int)(q2 : Int)(q3 : Int)(q4 : Int) : Option (Str×(List Str)) := (some q0).bind λiK => if(decide (q2=(7 : Int)))=true then((((dW q3 q1).bind λa3 => vI a3).bind λb4 => rT ("from " : Str) b4).bind λa5 => (dW q3 q1).bind λb6 => setAt iK b6 a5).bind λVu => some ((("step" : Str), Vu)) else if(decide (q2=(8 : Int)))=true then((some q0).bind λxs => bL (λ(x8 : Str) => (cV x8).bind λa9 => some (decide (a9=("mark" : Str)))) (λ(x8 : Str) => (splitM x8 " ").bind λa11 => jL a11 (1 : Int)) xs).bind λnames7 => (pO names7 ([("all" : Str), ("not" : Str), ("sometill" : Str), ("abcdefghi" : Str), ("a1" : Str), ("A" : Str), ("*" : Str), ("somenext" : Str), ("eachalways" : Str), ("." : Str)])).bind λnames12 => (((((some q0).bind λxs => bL (λ(x14 : Str) => (cV x14).bind λa15 => some (decide (a15=("mark" : Str)))) (λ(x14 : Str) => some x14) xs).bind λa16 => some (a16.length : Int)).bind λb17 => some (q1+b17)).bind λa20 => (((dW q4 (names12.length : Int)).bind λb18 => jL names12 b18).bind λb19 => rT ("mark " : Str) b19).bind λb21 => Dr iK a20 b21).bind λMa => some ((("mark" : Str), Ma)) else if(decide (q2=(9 : Int)))=true then((some q0).bind λxs => bL (λ(x23 : Str) => (cV x23).bind λa24 => some (!decide (a24=("from" : Str)))) (λ(x23 : Str) => some x23) xs).bind λHX => (if(decide (HX=([] : List Str)))=true then(((dW q4 (3 : Int)).bind λb28 => jL ([("fair" : Str), ("mark a" : Str), ("fair 0" : Str)]) b28).bind λa29 => some (a29::([]))).bind λMf => some Mf else some HX).bind λs25 => some ((("stand" : Str), s25)) else some ((("text" : Str), [("" : Str)]))
theorem CV : bf ["_law_rows_here", "_law_many", "_law_way", "_law_place", "_law_cell_here", "_law_made", "_law_names"] ["_law_rows_here", "_law_many", "_law_way", "_law_place", "_law_cell_here"] (aH yM) := fsc
abbrev FN(K : afh) : Sp := nD K false (λa : (List Str)×Int×Int×Int×Int×Unit => ([.z a.1, .z a.2.1, .z a.2.2.1, .z a.2.2.2.1, .z a.2.2.2.2.1] : List (Slot K))) (λa => fU a.1 a.2.1 a.2.2.1 a.2.2.2.1 a.2.2.2.2.1)
theorem Mg(F : gn K "_law_other" "_law_other" yM f fd)(B : Bl K mg)(vX : mg "str" = none)(lZ : mJ P w K mg base k "_law_kind" ["_law_row"] (CG K)) : bY P w K mg base jE (k+1) f fd ["_law_rows_here", "_law_many", "_law_way", "_law_place", "_law_cell_here"] (FN K) := by
  refine dX F CV (λ_ => rfl) (λ_ => rfl) λcdv A outer s H E hr => ?_
  have nd := CV.nd
  refine⟨_, (ak (cg 5 nd (dj (qD K) rfl B.list qz (aj (pv 0) aA))) (ak (dh (aZ (cR K Int hr) (pv 2) aL (bG _)) (ak (qp (aX m5 aM (dj iw rfl vX vD (aj (aX cJ (pv 3) (pv 1)) aA))) (uX (pv 5) (aX cJ (pv 3) (pv 1)) set_list)) (ak (bJ (iQ (aj aM (aj (pv 5) aA)))) aD)) aD) (ak (dh (aZ (cR K Int hr) (pv 2) aL (bG _)) (ak (jh (i := 6) (own := ["_law_row"]) (ix := []) nd rfl rfl rfl rfl rfl (cN K (pv 0)) (λC s H fp => bN (i := 0) (show(["_law_row"] : List Str).Nodup from by decide +kernel) rfl (Or.inl rfl)) (λC s H fp => lE (aZ (cR K Str hr) (cj lZ hr (aj (pv 0) aA)) aM (bG _))) (λC s H fp => (eG (kI K) (d9 K afr agu agv pR (pv 0) (aj aM aA)) aL (λ_ _ => rfl)))) (ak (cg 6 nd (aX rE (pv 6) (cX (aj aM (aj aM (aj aM (aj aM (aj aM (aj aM (aj aM (aj aM (aj aM (aj aM aA))))))))))))) (ak (cP (d9 K afn ahu ahv yF (pv 5) (aj (aX gU (pv 1) (aO (dF K) rfl B.len afp (aj (fB (own := ["_law_row"]) (ix := []) rfl rfl rfl (cN K (pv 0)) (λC s H fp => bN (i := 0) (show(["_law_row"] : List Str).Nodup from by decide +kernel) rfl (Or.inl rfl)) (λC s H fp => lE (aZ (cR K Str hr) (cj lZ hr (aj (pv 0) aA)) aM (bG _))) (λC s H fp => (pv 0))) aA))) (aj (aX m5 aM (eG (kI K) (pv 6) (aX cJ (pv 4) (aO (dF K) rfl B.len afp (aj (pv 6) aA))) (λ_ _ => rfl))) aA)))) (ak (bJ (iQ (aj aM (aj (pv 5) aA)))) aD)))) aD) (ak (dh (aZ (cR K Int hr) (pv 2) aL (bG _)) (ak (jh (i := 5) (own := ["_law_row"]) (ix := []) nd rfl rfl rfl rfl rfl (cN K (pv 0)) (λC s H fp => bN (i := 0) (show(["_law_row"] : List Str).Nodup from by decide +kernel) rfl (Or.inl rfl)) (λC s H fp => lE (aZ (qx K Str hr) (cj lZ hr (aj (pv 0) aA)) aM (bG _))) (λC s H fp => (pv 0))) (ak (dh (aZ (cR K (List Str) hr) (pv 5) (cX aA) (bG _)) (ak (cg 5 nd (cX (aj (eG (kI K) (cX (aj aM (aj aM (aj aM aA)))) (aX cJ (pv 4) aL) (λ_ _ => rfl)) aA))) aD) aD) (ak (bJ (iQ (aj aM (aj (pv 5) aA)))) aD))) aD) (ak (bJ (iQ (aj aM (aj (cX (aj aM aA)) aA)))) aD))))), ?_⟩
  rintro Fa ⟨q0, q1, q2, q3, q4, ⟨⟩⟩
  exact SB.of (aN (jO true 5 rfl rfl (nZ (aF 0 rfl))) (λiK => (nQ (bw (md := .hp) (cT (aq 2 rfl) (aK 7))) (aN (nR 5 rfl rfl (esc (m8 (aU "from ") (ur (cU (aq 3 rfl) (aq 1 rfl))))) (cU (aq 3 rfl) (aq 1 rfl))) (λVu => (qF (sl2 := [.z q0, .z q1, .z q2, .z q3, .z q4, .y Vu, .un]) eV (cL (jN (aU "step") (bU 5 rfl)))))) (nQ (bw (md := .hp) (cT (aq 2 rfl) (aK 8))) (aN (bR true 6 rfl rfl (cY (n := false) (lu := [.un]) (no := 1) (ix := []) rfl rfl (cM (bU 0 rfl)) (bO 0 rfl rfl) (λx8 => (bw (md := .hp) (cT (bA (aG (esc (aq 0 rfl)) aV)) (aU "mark")))) (λx8 => (esc (esc (gk (pU " " (by decide +kernel) (aq 0 rfl)).ex (aK 1))))) (λx8 => jr)).ex) (λnames7 => (aN (bR true 6 rfl rfl (rP (aF 6 rfl) (jq (bx (esc (aU "all")) (bx (esc (aU "not")) (bx (esc (aU "sometill")) (bx (esc (aU "abcdefghi")) (bx (esc (aU "a1")) (bx (esc (aU "A")) (bx (esc (aU "*")) (bx (esc (aU "somenext")) (bx (esc (aU "eachalways")) (bx (esc (aU ".")) jo)))))))))) (λa h => afl ((bV (bV (bV (bV (bV (bV (bV (bV (bV (bV gw)))))))))) a h) (by decide))).ex).ex) (λnames12 => (aN (yG 5 rfl rfl (iT (aq 1 rfl) (dH (cY (n := false) (lu := [.un]) (no := 1) (ix := []) rfl rfl (cM (bU 0 rfl)) (bO 0 rfl rfl) (λx14 => (bw (md := .hp) (cT (bA (aG (esc (aq 0 rfl)) aV)) (aU "mark")))) (λx14 => (esc (aq 0 rfl))) (λx14 => jr)).ex)) (esc (m8 (aU "mark ") (esc (gk (aF 6 rfl) (cU (aq 4 rfl) (dH (aF 6 rfl)))))))) (λMa => (qF (sl2 := [.z q0, .z q1, .z q2, .z q3, .z q4, .y Ma, .y names12]) eV (cL (jN (aU "mark") (bU 5 rfl)))))))))) (nQ (bw (md := .hp) (cT (aq 2 rfl) (aK 9))) (aN (T7 (sl2 := [.z q0, .z q1, .z q2, .z q3, .z q4, .un, .un]) eV (jO true 5 rfl rfl (cY (n := false) (lu := [.un]) (no := 1) (ix := []) rfl rfl (cM (bU 0 rfl)) (bO 0 rfl rfl) (λx23 => (bw (md := .hp) (qy (bA (aG (esc (aq 0 rfl)) aV)) (aU "from")))) (λx23 => (esc (aq 0 rfl))) (λx23 => jr)))) (λHX => (aN (iW (bw (md := .hp) (cT (qu 5 rfl) (lg (α := Str)).ex)) (bB (T7 (sl2 := [.z q0, .z q1, .z q2, .z q3, .z q4, .un, .un]) eV (jO true 5 rfl rfl (jq (bx (esc (esc (gk (jq (bx (esc (aU "fair")) (bx (esc (aU "mark a")) (bx (esc (aU "fair 0")) jo))) (λa h => afl ((bV (bV (bV gw))) a h) (by decide))).ex (cU (aq 4 rfl) (aK 3))))) jo) (λa h => afl ((bV gw) a h) (by decide))))) (λMf => (bQ (λs26 : List Str => ([.z q0, .z q1, .z q2, .z q3, .z q4, .ow true s26, .un] : List (Slot K))) Mf eV))) (bQ (λs26 : List Str => ([.z q0, .z q1, .z q2, .z q3, .z q4, .ow true s26, .un] : List (Slot K))) HX eV)) (λs25 => (qF (sl2 := [.z q0, .z q1, .z q2, .z q3, .z q4, .y s25, .un]) eV (cL (jN (aU "stand") (bU 5 rfl)))))))) (cL (jN (aU "text") (jq (bx (esc (aU "")) jo) (λa h => afl ((bV gw) a h) (by decide))).ex))))))) (by unfold fU;simp only[bnd])
def oG(q0 : List Str)(q1 : Int)(q2 : Int)(q3 : Int)(q4 : Int) : Option (Str×(List Str)) := if(decide (q2=(0 : Int)))=true then p8 q0 q3 q4 else if(decide (q2<(5 : Int)))=true then fQ q0 q2 q3 q4 else if(decide (q2=(5 : Int)))=true then oE q0 q3 q4 else if(decide (q2=(6 : Int)))=true then qb q0 q1 q3 q4 else fU q0 q1 q2 q3 q4
theorem zG : bf ["_law_rows_here", "_law_many", "_law_way", "_law_place", "_law_cell_here"] ["_law_rows_here", "_law_many", "_law_way", "_law_place", "_law_cell_here"] (aH vU) := fsc
abbrev CW(K : afh) : Sp := nD K false (λa : (List Str)×Int×Int×Int×Int×Unit => ([.z a.1, .z a.2.1, .z a.2.2.1, .z a.2.2.2.1, .z a.2.2.2.2.1] : List (Slot K))) (λa => oG a.1 a.2.1 a.2.2.1 a.2.2.2.1 a.2.2.2.2.1)
theorem JT(F : gn K "_law_spoilt" "_law_spoilt" vU f fd)(B : Bl K mg)(QT : mJ P w K mg base k "_law_blank" ["_law_rows_here", "_law_place", "_law_cell_here"] (Fy K))(Vv : mJ P w K mg base k "_law_more" ["_law_rows_here", "_law_many", "_law_place", "_law_cell_here"] (JR K))(QV : mJ P w K mg base k "_law_moved" ["_law_rows_here", "_law_way", "_law_place", "_law_cell_here"] (Fz K))(Mh : mJ P w K mg base k "_law_number" ["_law_rows_here", "_law_place", "_law_cell_here"] (CP K))(QW : mJ P w K mg base k "_law_other" ["_law_rows_here", "_law_many", "_law_way", "_law_place", "_law_cell_here"] (FN K)) : bY P w K mg base jE (k+1) f fd ["_law_rows_here", "_law_many", "_law_way", "_law_place", "_law_cell_here"] (CW K) := by
  refine dX F zG (λ_ => rfl) (λ_ => rfl) λcdv A outer s H E hr => ?_
  have nd := zG.nd
  refine⟨_, (ak (dh (aZ (cR K Int hr) (pv 2) aL (bG _)) (ak (bJ (cj QT hr (aj (pv 0) (aj (pv 3) (aj (pv 4) aA))))) aD) aD) (ak (dh (aZ Ja (pv 2) aL (bG _)) (ak (bJ (cj QV hr (aj (pv 0) (aj (pv 2) (aj (pv 3) (aj (pv 4) aA)))))) aD) aD) (ak (dh (aZ (cR K Int hr) (pv 2) aL (bG _)) (ak (bJ (cj Mh hr (aj (pv 0) (aj (pv 3) (aj (pv 4) aA))))) aD) aD) (ak (dh (aZ (cR K Int hr) (pv 2) aL (bG _)) (ak (bJ (cj Vv hr (aj (pv 0) (aj (pv 1) (aj (pv 3) (aj (pv 4) aA)))))) aD) aD) (ak (bJ (cj QW hr (aj (pv 0) (aj (pv 1) (aj (pv 2) (aj (pv 3) (aj (pv 4) aA))))))) aD))))), ?_⟩
  rintro Fa ⟨q0, q1, q2, q3, q4, ⟨⟩⟩
  exact SB.of (nQ (bw (md := .hp) (cT (aq 2 rfl) (aK 0))) (cL (bA (aG (aF 0 rfl) (aG (esc (aq 3 rfl)) (aG (esc (aq 4 rfl)) aV))))) (nQ (bw (md := .hp) (TY (aq 2 rfl) (aK 5))) (cL (bA (aG (aF 0 rfl) (aG (esc (aq 2 rfl)) (aG (esc (aq 3 rfl)) (aG (esc (aq 4 rfl)) aV)))))) (nQ (bw (md := .hp) (cT (aq 2 rfl) (aK 5))) (cL (bA (aG (aF 0 rfl) (aG (esc (aq 3 rfl)) (aG (esc (aq 4 rfl)) aV))))) (nQ (bw (md := .hp) (cT (aq 2 rfl) (aK 6))) (cL (bA (aG (aF 0 rfl) (aG (esc (aq 1 rfl)) (aG (esc (aq 3 rfl)) (aG (esc (aq 4 rfl)) aV)))))) (cL (bA (aG (aF 0 rfl) (aG (esc (aq 1 rfl)) (aG (esc (aq 2 rfl)) (aG (esc (aq 3 rfl)) (aG (esc (aq 4 rfl)) aV))))))))))) (by unfold oG;simp only[bnd])
end
end Ts
set_option maxHeartbeats 40000000
namespace Ts
open PySem L2
section
variable{P : Program}{w : World}{K : afh}{mg : Str→Option Value}{base : Heap}
seal L2.PE L2.PT L2.PW L2.PA L2.PS L2.xY L2.PC L2.PG L2.Rq L2.PI L2.vg L2.PO
def jC(q0 : Mx)(q1 : Int) : Option Bool := if(aa8 q0)=true then if(!(aa9 q0))=true then(Yj q0).bind λb1 => if decide ((0 : Int)≤b1)=true then some (decide (b1<q1)) else some false else some false else some false
theorem xK : bf ["thing", "many"] ["thing", "many"] (aH n_) := fsc
abbrev zH(K : afh) : Sp := nD K false (λa : Mx×Int×Unit => ([.z a.1, .z a.2.1] : List (Slot K))) (λa => jC a.1 a.2.1)
theorem HY(F : gn K "is_stand" "is_stand" n_ f fd)(B : Bl K mg) : bY P w K mg base jE (k+1) f fd ["thing", "many"] (zH K) := by
  refine dX F xK (λ_ => rfl) (λ_ => rfl) λcdv A outer s H E hr => ?_
  have nd := xK.nd
  refine⟨_, (ak (bJ (uV (aO (Bq K (vh (n := "int"))) rfl B.Js gV (aj (pv 0) (aj (ql (v := .ty "int") rfl B.int yu rfl) aA))) (uV (RK (aO (Bq K (vh (n := "bool"))) rfl B.Js gV (aj (pv 0) (aj (ql (v := .ty "bool") rfl B.bool NZ rfl) aA)))) (A_ (wJ DW Ja aL (pv 0) (pv 1)))))) aD), ?_⟩
  rintro Fa ⟨q0, q1, ⟨⟩⟩
  exact SB.of (cL (esc (vq (Yk (aq 0 rfl)) (vq (Tw (Ym (aq 0 rfl))) (wU (f := (λi j => decide (i≤j))) (g := (λi j => decide (i<j))) (aK 0) (Hj (aq 0 rfl)) (aq 1 rfl)))))) (by unfold jC;simp only[bnd])
def bD(cx : Fin 4→Addr)(q0 : List Mx)(q1 : Int)(q2 : Str) : Option (Out Unit (Ek cx)) := (some ()).bind λvV => ((some q0).bind λxs => fD (λ(s2 : List (Key×Bool)) (x4 : Mx) => ((jC x4 q1).bind λa5 => some (!a5)).bind λb => if b=true then(((some q2).bind λj8 => pW j8 ((some x4).bind λj7 => Lh j7 ((some q1).bind λj6 => mK j6 (some ())))).bind λ_ => some (Ek.mk 0 : Ek cx)).bind λb => some (.rt b) else((Yj x4).bind λa9 => some ((vC (Dc.mk s2).kv a9).isSome)).bind λb => if b=true then(((some q2).bind λj11 => pW j11 ((Yj x4).bind λj10 => mK j10 (some ()))).bind λ_ => some (Ek.mk 0 : Ek cx)).bind λb => some (.rt b) else((Yj x4).bind λVi => dput s2 Vi true).bind λqM => some (.nx qM)) xs (([] : List (Key×Bool)))).bind λo => o.dN λs3 => some (.nx ())
theorem qd : bf ["stands", "many", "where", "ahead", "stand"] ["stands", "many", "where"] (aH gY) := fsc
abbrev jj(K : afh)(cx : Fin 4→Addr) : Sp := ZK K cx (λa : (List Mx)×Int×Str×Unit => ([.z a.1, .z a.2.1, .z a.2.2.1] : List (Slot K))) (λa => bD cx a.1 a.2.1 a.2.2.1)
theorem yQ(F : gn K "check_stands" "check_stands" gY f fd)(B : Bl K mg)(X3 : Ho K mg cx)(JV : mJ P w K mg base k "is_stand" ["thing", "many"] (zH K)) : bY P w K mg base (kE P w) (k+1) f fd ["stands", "many", "where"] (jj K cx) := by
  refine w6 F qd (λ_ => rfl) (λ_ => rfl) λcdv A outer s H E hr => ?_
  have nd := qd.nd
  have nd := nd
  have hu := Nr hr
  refine⟨_, (bh (pq (cg 3 nd wK)) (bh (uw yH rfl (cN K (pv 0)) (jF 4 nd) (bh (rU (qm (kW (cj JV hr (aj (pv 4) (aj (pv 1) aA))))) (bh (fL n8 rfl (X3.o 0) rfl X3.m0 (aj (jz (pB (pv 2) (jQ (Lf (pv 4) (jQ (pB (pv 1) (jQ rW))))))) aA)) cI) cI) (bh (rU (rA (Gq hu (pv 4) (pv 3))) (bh (fL n8 rfl (X3.o 0) rfl X3.m0 (aj (jz (pB (pv 2) (jQ (pB (pv 4) (jQ rW))))) aA)) cI) cI) (bh (pq (Af hu (pv 3) (pv 4) pH rfl)) cI)))) cI)), ?_⟩
  rintro Fa ⟨q0, q1, q2, ⟨⟩⟩
  exact⟨_, false, Sx.of (gq (Ah (α := Bool) 3 rfl rfl) (λvV => (wR (Bo (n := false) (L := (λs2 : List (Key×Bool) => ([.z q0, .z q1, .z q2, .od (s2 : List (Key×Bool)), .un] : List (Slot K)))) (([] : List (Key×Bool))) eV (cM (bU 0 rfl)) (λs2 => (bO 4 rfl rfl)) (λs2 x4 => (qw (vp (rJ (md := .hp) (bA (aG (esc (aq 4 rfl)) (aG (esc (aq 1 rfl)) aV))))) (nG 0 rfl (Li (aq 2 rfl) (jR ": " (U5 (aq 4 rfl) (jR " is none of the " (vK (aq 1 rfl) (jR " stands" rY))))))) (qw (rJ (md := .hp) (Ua (Hj (aq 4 rfl)) (Ai 3 rfl))) (nG 0 rfl (Li (aq 2 rfl) (jR ": " (vK (Hj (aq 4 rfl)) (jR " stands there twice" rY))))) (gq (N_ 3 rfl rfl (esc (wO true)) (Hj (aq 4 rfl))) (λqM => (mH (λs2 : List (Key×Bool) => ([.z q0, .z q1, .z q2, .od (s2 : List (Key×Bool)), .un] : List (Slot K))) qM eV))))))) (λs3 => (mH (λ_ : Unit => ([.un, .un, .un, .un, .un] : List (Slot K))) () eV))))) (by unfold bD;simp only[bnd])⟩
def fV(cx : Fin 4→Addr)(q0 : List (List Mx)) : Option (Out Unit (Ek cx)) := (some (q0.length : Int)).bind λmany1 => (if(decide (many1<(1 : Int)))=true then some true else some (decide ((60 : Int)<many1))).bind λb => if b=true then(((some many1).bind λj3 => mK j3 ((some (60 : Int)).bind λj2 => mK j2 (some ()))).bind λ_ => some (Ek.mk 0 : Ek cx)).bind λb => some (.rt b) else((some (bT q0)).bind λxs => fD (λ(s4 : Unit) (x6 : Int×(List Mx)) => ((((((Rw "steps of stand " x6.1).bind λa12 => some ((a12, ()))).bind λVi => some (many1, Vi)).bind λVj => some (x6.2, Vj))).bind λz7 => bD cx z7.1 z7.2.1 z7.2.2.1).bind λr => w5 r (if(decide ((x6.2.length : Int)=(0 : Int)))=true then(((some x6.1).bind λj8 => mK j8 (some ())).bind λ_ => some (Ek.mk 1 : Ek cx)).bind λb => some (.rt b) else some (.nx ()))) xs ()).bind λo => o.dN λs5 => some (.nx ())
theorem qY : bf ["steps", "many", "stand", "targets"] ["steps"] (aH iZ) := fsc
abbrev tK(K : afh)(cx : Fin 4→Addr) : Sp := ZK K cx (λa : ((List (List Mx)))×Unit => ([.z a.1] : List (Slot K))) (λa => fV cx a.1)
theorem zX(F : gn K "check_steps" "check_steps" iZ f fd)(B : Bl K mg)(X3 : Ho K mg cx)(lN : mg "MOST_STANDS" = some (.int 60 Dv))(gC : m9 P w K mg base k "check_stands" ["stands", "many", "where"] (jj K cx)) : bY P w K mg base (kE P w) (k+1) f fd ["steps"] (tK K cx) := by
  refine w6 F qY (λ_ => rfl) (λ_ => rfl) λcdv A outer s H E hr => ?_
  have nd := qY.nd
  have nd := nd
  refine⟨_, (bh (pq (cg 1 nd (aO (dF K) rfl B.len afp (aj (pv 0) aA)))) (bh (rU (PW.pt (pw_or (aZ Ja (pv 1) aL (bG _)) (pw_or1 (aZ Jb (pv 1) (dZ (v := .int 60) rfl lN ⟨_, rfl⟩) (bG _))))) (bh (fL n8 rfl (X3.o 0) rfl X3.m0 (aj (jz (pB (pv 1) (jQ (pB (dZ (v := .int 60) rfl lN ⟨_, rfl⟩) rW)))) aA)) cI) cI) (bh (uw yH rfl (uo K B.enum (aj (pv 0) aA)) (nH rfl (cG (jF 2 nd) (cG (jF 3 nd) iu))) (bh (ux gC hr gR (aj (pv 3) (aj (pv 1) (aj (Ep (pv 2) (by decide)) aA)))) (bh (rU (aZ (cR K Int hr) (aO (dF K) rfl B.len afp (aj (pv 3) aA)) aL (bG _)) (bh (fL n8 rfl (X3.o 1) rfl X3.m1 (aj (jz (jQ (pB (pv 2) (jQ rW)))) aA)) cI) cI) cI))) cI))), ?_⟩
  rintro Fa ⟨q0, ⟨⟩⟩
  exact⟨_, false, Sx.of (gq (bR true 1 rfl rfl (esc (dH (aF 0 rfl)))) (λmany1 => (qw (Nx (bw (md := .hp) (TY (aq 1 rfl) (aK 1))) (bw (md := .hp) (Jo (aq 1 rfl) (aK 60)))) (nG 0 rfl (vK (aq 1 rfl) (jR " stands, and not 1 to " (vK (aK 60) rY)))) (wR (Bo (n := false) (L := (λs4 : Unit => ([.z q0, .y many1, .un, .un] : List (Slot K)))) () eV (uh (bU 0 rfl)) (λs4 => (nU 2 3 rfl rfl (λ_ => rfl) rfl)) (λs4 x6 => (pX (as := (λa : (List Mx)×Int×Str×Unit => ([.z a.1, .z a.2.1, .z a.2.2.1] : List (Slot K)))) (f := (λa => bD cx a.1 a.2.1 a.2.2.1)) (aG (aF 3 rfl) (aG (esc (aq 1 rfl)) (aG (esc (G4 "steps of stand " (aq 2 rfl))) aV))) (qw (bw (md := .hp) (cT (dH (aF 3 rfl)) (aK 0))) (nG 1 rfl (jR "stand " (vK (aq 2 rfl) (jR " has no step" rY)))) (mH (λs4 : Unit => ([.z q0, .y many1, .un, .un] : List (Slot K))) () eV))))) (λs5 => (mH (λ_ : Unit => ([.un, .un, .un, .un] : List (Slot K))) () eV)))))) (by unfold fV;simp only[bnd])⟩
def fW(cx : Fin 4→Addr)(q0 : List (Str×(List Mx)))(q1 : Int) : Option (Out Unit (Ek cx)) := (some ()).bind λvV => ((some q0).bind λxs => fD (λ(s2 : List (Key×Bool)) (x4 : Str×(List Mx)) => ((eF x4.1).bind λa5 => some (!a5)).bind λb => if b=true then(((some x4.1).bind λj6 => Yn j6 (some ())).bind λ_ => some (Ek.mk 2 : Ek cx)).bind λb => some (.rt b) else if((oV (Dc.mk s2).kv x4.1).isSome)=true then(((some x4.1).bind λj7 => pW j7 (some ())).bind λ_ => some (Ek.mk 2 : Ek cx)).bind λb => some (.rt b) else(wW s2 x4.1 true).bind λCZ => ((((((XS "mark " x4.1).bind λa13 => some ((a13, ()))).bind λVj => some (q1, Vj)).bind λb15 => some (x4.2, b15))).bind λz9 => bD cx z9.1 z9.2.1 z9.2.2.1).bind λr => w5 r (some (.nx CZ))) xs (([] : List (Key×Bool)))).bind λo => o.dN λs3 => some (.nx ())
theorem qZ : bf ["marks", "many", "ahead", "name", "stands"] ["marks", "many"] (aH i_) := fsc
abbrev tQ(K : afh)(cx : Fin 4→Addr) : Sp := ZK K cx (λa : ((List (Str×(List Mx))))×Int×Unit => ([.z a.1, .z a.2.1] : List (Slot K))) (λa => fW cx a.1 a.2.1)
theorem zY(F : gn K "check_marks" "check_marks" i_ f fd)(B : Bl K mg)(X3 : Ho K mg cx)(yO : mJ P w K mg base k "is_name" ["name"] (yN K))(gC : m9 P w K mg base k "check_stands" ["stands", "many", "where"] (jj K cx)) : bY P w K mg base (kE P w) (k+1) f fd ["marks", "many"] (tQ K cx) := by
  refine w6 F qZ (λ_ => rfl) (λ_ => rfl) λcdv A outer s H E hr => ?_
  have nd := qZ.nd
  have nd := nd
  have hu := Nr hr
  refine⟨_, (bh (pq (cg 2 nd wK)) (bh (uw yH rfl (cN K (pv 0)) (nH rfl (cG (jF 3 nd) (cG (jF 4 nd) iu))) (bh (rU (qm (kW (cj yO hr (aj (pv 3) aA)))) (bh (fL n8 rfl (X3.o 2) rfl X3.m2 (aj (jz (Lf (pv 3) (jQ rW))) aA)) cI) cI) (bh (rU (rA (Gq hu (pv 3) (pv 2))) (bh (fL n8 rfl (X3.o 2) rfl X3.m2 (aj (jz (jQ (pB (pv 3) rW))) aA)) cI) cI) (bh (pq (Af hu (pv 2) (pv 3) pH rfl)) (bh (ux gC hr gR (aj (pv 4) (aj (pv 1) (aj (Ep (pv 3) (by decide)) aA)))) cI))))) cI)), ?_⟩
  rintro Fa ⟨q0, q1, ⟨⟩⟩
  exact⟨_, false, Sx.of (gq (Ah (α := Bool) 2 rfl rfl) (λvV => (wR (Bo (n := false) (L := (λs2 : List (Key×Bool) => ([.z q0, .z q1, .od (s2 : List (Key×Bool)), .un, .un] : List (Slot K)))) (([] : List (Key×Bool))) eV (cM (bU 0 rfl)) (λs2 => (nU 3 4 rfl rfl (λ_ => rfl) rfl)) (λs2 x4 => (qw (vp (rJ (md := .hp) (bA (aG (esc (aq 3 rfl)) aV)))) (nG 2 rfl (Om (aq 3 rfl) (jR " is no name of a mark" rY))) (qw (rJ (md := .hp) (Oa (aq 3 rfl) (Ai 2 rfl))) (nG 2 rfl (jR "two marks are called " (Li (aq 3 rfl) rY))) (gq (Jv 2 rfl rfl (esc (wO true)) (aq 3 rfl)) (λCZ => (pX (as := (λa : (List Mx)×Int×Str×Unit => ([.z a.1, .z a.2.1, .z a.2.2.1] : List (Slot K)))) (f := (λa => bD cx a.1 a.2.1 a.2.2.1)) (aG (aF 4 rfl) (aG (esc (aq 1 rfl)) (aG (esc (Ug "mark " (aq 3 rfl))) aV))) (mH (λs2 : List (Key×Bool) => ([.z q0, .z q1, .od (s2 : List (Key×Bool)), .un, .un] : List (Slot K))) CZ eV)))))))) (λs3 => (mH (λ_ : Unit => ([.un, .un, .un, .un, .un] : List (Slot K))) () eV))))) (by unfold fW;simp only[bnd])⟩
def gJ(cx : Fin 4→Addr)(q0 : List (List Mx))(q1 : Int) : Option (Out Unit (Ek cx)) := ((some (bT q0)).bind λxs => fD (λ(s1 : Unit) (x3 : Int×(List Mx)) => ((((((Rw "fair set " x3.1).bind λa8 => some ((a8, ()))).bind λb9 => some (q1, b9)).bind λb10 => some (x3.2, b10))).bind λz4 => bD cx z4.1 z4.2.1 z4.2.2.1).bind λr => w5 r (some (.nx ()))) xs ()).bind λo => o.dN λs2 => some (.nx ())
theorem tR : bf ["fair", "many", "number", "stands"] ["fair", "many"] (aH jT) := fsc
abbrev uR(K : afh)(cx : Fin 4→Addr) : Sp := ZK K cx (λa : ((List (List Mx)))×Int×Unit => ([.z a.1, .z a.2.1] : List (Slot K))) (λa => gJ cx a.1 a.2.1)
theorem C_(F : gn K "check_fair" "check_fair" jT f fd)(B : Bl K mg)(gC : m9 P w K mg base k "check_stands" ["stands", "many", "where"] (jj K cx)) : bY P w K mg base (kE P w) (k+1) f fd ["fair", "many"] (uR K cx) := by
  refine w6 F tR (λ_ => rfl) (λ_ => rfl) λcdv A outer s H E hr => ?_
  have nd := tR.nd
  have nd := nd
  refine⟨_, (bh (uw yH rfl (uo K B.enum (aj (pv 0) aA)) (nH rfl (cG (jF 2 nd) (cG (jF 3 nd) iu))) (bh (ux gC hr gR (aj (pv 3) (aj (pv 1) (aj (Ep (pv 2) (by decide)) aA)))) cI)) cI), ?_⟩
  rintro Fa ⟨q0, q1, ⟨⟩⟩
  exact⟨_, false, Sx.of (wR (Bo (n := false) (L := (λs1 : Unit => ([.z q0, .z q1, .un, .un] : List (Slot K)))) () eV (uh (bU 0 rfl)) (λs1 => (nU 2 3 rfl rfl (λ_ => rfl) rfl)) (λs1 x3 => (pX (as := (λa : (List Mx)×Int×Str×Unit => ([.z a.1, .z a.2.1, .z a.2.2.1] : List (Slot K)))) (f := (λa => bD cx a.1 a.2.1 a.2.2.1)) (aG (aF 3 rfl) (aG (esc (aq 1 rfl)) (aG (esc (G4 "fair set " (aq 2 rfl))) aV))) (mH (λs1 : Unit => ([.z q0, .z q1, .un, .un] : List (Slot K))) () eV)))) (λs2 => (mH (λ_ : Unit => ([.un, .un, .un, .un] : List (Slot K))) () eV))) (by unfold gJ;simp only[bnd])⟩
end
end Ts
set_option maxHeartbeats 40000000
namespace Ts
open PySem L2
abbrev QX := List (List Mx)
abbrev MKM := List (Str×List Mx)
abbrev Prt := Qt QX MKM QX
section
variable{P : Program}{w : World}{K : afh}{mg : Str→Option Value}{base : Heap}
def q9(cx : Fin 4→Addr)(a : QX)(b : MKM)(c : QX) : Option (Out Unit (Ek cx)) :=
  (fV cx a).bind λr => w5 r ((fW cx b (a.length : Int)).bind λr => w5 r ((gJ cx c (a.length : Int)).bind λr => w5 r (none : Option (Out Unit (Ek cx)))))
def Ou(K : afh)(C : Addr)(cx : Fin 4→Addr) : Sp := λvs H _ E => ∃(p dx : Addr)(vS vM vF : V)(a : QX)(b : MKM)(c : QX)(e : Ek cx), vs=[.ref p, vS, vM, vF]∧H p=some (.ins C dx []) ∧
  rp K (hid H p) vS a∧rp K (hid H p) vM b∧rp K (hid H p) vF c∧q9 cx a b c=some (.rt e)∧∀H' : Hp, Same H H'→E (.ref (cx e.k)) none H'
theorem JC.okM(F : JC K x qual st dV f fd)(S : bf N ps (aH st))(len : ∀vs H Q E, sp vs H Q E→vs.length=ps.length)(hbody : ∀(cdv : Value) (A : Around) (outer : List Env) (s : Shared) (H : Hp) (vs : List V) (Q : VK) (E : XK), f9 k (A.deeper (agp qual (aH st) s.heap.objs.size f cdv))→sp vs H Q E →
      ∃t, zT (nJ (kE P w) P w K mg base N qual (aH st) f cdv A outer s H E) E (dB st) t∧t { nx := λ_ H' => Q .non H', rt := λv H' => ∃c, v=.ref c∧E (.ref c) none H' } (start N vs) H) : bY P w K mg base (kE P w) (k+1) f fd ps sp := by
  obtain⟨oc, od, kV, doc, pm, an, cdv, ct, osl, rfl, lk, hcd⟩ := F.ex
  refine Jf lk hcd S len λA outer s H vs Q E hr hsp => ?_
  obtain⟨t, h, q⟩ := hbody cdv A outer s H vs Q E hr hsp
  exact⟨_, h.pss, q⟩
theorem abl(F : JC K "__init__" "Machine.__init__" Oq dV f fd)(B : Bl K mg)(CS : m9 P w K mg base k "check_steps" ["steps"] (tK K cx))(CM : m9 P w K mg base k "check_marks" ["marks", "many"] (tQ K cx))(CF : m9 P w K mg base k "check_fair" ["fair", "many"] (uR K cx)) :
    bY P w K mg base (kE P w) (k+1) f fd ["self", "steps", "marks", "fair"] (Ou K C cx) := by
  refine F.okM Vg (λvs H Q E h => ?_) (λcdv A outer s H vs Q E hr h => ?_)
  · obtain⟨p, dx, vS, vM, vF, a, b, c, e, rfl, _⟩ := h
    rfl
  obtain⟨p, dx, vS, vM, vF, a, b, c, e, rfl, hp, rS, rM, rF, hm, q⟩ := h
  have nd := Vg.nd
  refine⟨_, bh (pq (Ba (i := 4) nd rfl (Or.inl rfl) (wH (rA (Gj (pv 2))) (cX aA) (pv 2))))
    (bh (pq (Ba (i := 5) nd rfl (Or.inl rfl) (wH (rA (Gj (pv 3))) (cX aA) (pv 3))))
    (bh (ux CS hr gR (aj (pv 1) aA))
    (bh (ux CM hr gR (aj (pv 4) (aj (aO (dF K) rfl B.len afp (aj (pv 1) aA)) aA)))
    (bh (ux CF hr gR (aj (pv 5) (aj (aO (dF K) rfl B.len afp (aj (pv 1) aA)) aA))) Ld)))), ?_⟩
  have some_of : ∀{α : Type}[Rp K (List α)][Nn K (List α)]{F : Hp}{v : V}{x : List α}, rp K F v x→v≠.non∧rp K F v x := λ{α} _ _ {F v x} h => ⟨Nn.nn (K := K) h, h⟩
  have sg0 : Sg (K := K) ⟨hid H p, H⟩ (hid H p) [.fz false (lV.mk () : lV p), .fz false a, .fz false (some b), .fz false (some c), .un, .un] [some (.ref p), some vS, some vM, some vF, none, none] H :=
    ⟨hid H p, [], .refl _, K_ (.fz (show rp K _ _ (lV.mk () : lV p) from rfl) (.fz rS (.fz (show rp K _ vM (some b) from⟨Nn.nn (K := K) rM, rM⟩) (.fz (show rp K _ vF (some c) from⟨Nn.nn (K := K) rF, rF⟩) (.un (.un .nil))))))⟩
  have main := (gq (bR (B := ⟨hid H p, H⟩) (sl := ([.fz false (lV.mk () : lV p), .fz false a, .fz false (some b), .fz false (some c), .un, .un] : List (Slot K))) false 4 rfl rfl (GF (rJ (md := .hp) (GK (aF 2 rfl))) (Eo.ex (lg (α := Str×List Mx))) (GP (bU 2 rfl))))
    (λgm => gq (bR false 5 rfl rfl (GF (rJ (md := .hp) (GK (aF 3 rfl))) (Eo.ex (lg (α := List Mx))) (GP (bU 3 rfl))))
    (λgf => pX (as := λx : QX×Unit => ([.fz false x.1] : List (Slot K))) (f := λx => fV cx x.1) (aG (aF 1 rfl) aV)
    (pX (as := λx : MKM×Int×Unit => ([.fz false x.1, .fz false x.2.1] : List (Slot K))) (f := λx => fW cx x.1 x.2.1) (aG (aF 4 rfl) (aG (Ex.sc (md := .hp) (dH (aF 1 rfl))) aV))
    (pX (as := λx : QX×Int×Unit => ([.fz false x.1, .fz false x.2.1] : List (Slot K))) (f := λx => gJ cx x.1 x.2.1) (aG (aF 5 rfl) (aG (Ex.sc (md := .hp) (dH (aF 1 rfl))) aV))
    (Ue (al := false) (S := Unit) (β := Ek cx) (L := λ_ => ([.un, .un, .un, .un, .un, .un] : List (Slot K)))))))))
  exact(Sx.of main (show _=q9 cx a b c from rfl)) (.rt e) hm (hid H p) _ _ H sg0 λv H' z => ⟨_, z.2, q H' z.1⟩
end
end Ts
set_option maxHeartbeats 40000000
namespace L2
open PySem
section
variable{X : Cx}{E : XK}
theorem oH(c : Ts.m9 X.prog X.w X.K X.mg X.base k x ps sp)(hr : f9 k X.A)(hx : Passes (kE X.prog X.w) X E)(ha : PA X (e::es) t)(hg : Gl X x := by rfl)(hdb : (x==("__debug__" : Str))=false := by decide)(he : starEach (e::es) X.env=(false, eval e X.env)::starEach es X.env := by rfl)(hpl : (backTo pos (starEach es X.env)).any (·.1)=false := by rfl) : PE X (.Call (.Name x p) (e::es) [] pos) (uL sp [] E t) := by
  obtain⟨f, fd, h1, h2, h3, h4⟩ := c.ex
  exact Gp h1 hr hg h4 h3 h2 .nil hx ha hdb he hpl
theorem Ov : Hr (nJ (kE P w) P w K mg base N qual scope f cd A outer s H E) E := ⟨rfl, rfl, rfl, rfl⟩
end
end L2
namespace Ts
open PySem L2
theorem EoX.exx{K : afh}{B : Bs}{sl : List (Slot K)}{md : Md}{cx : Fin 4→Addr}{α : Type}[Rp K α]{t : XK→TE}{m : Option (Out (List α) (Ek cx))}(h : EoX B sl md t m) : Rx B sl md t m := λo ho F O H σ Q E z k => by
  refine h o ho F O H σ Q E z ?_
  cases o with
  |nx a =>
    intro p vs F' H' g hp r
    have g2 := dU.new g.ok hp (.lst vs)
    exact k _ _ _ (g.trans g2) ⟨p, vs, rfl, mW g.ok hp md, r.imp λ_ _ => Rp.mono (dJ g2 md)⟩
  |rt e => exact k
theorem FQ{K : afh}{B : Bs}{sl : List (Slot K)}{cx : Fin 4→Addr}{α : Type}[Rp K α]{u : TS}{al : Bool}{te : TE}{m : Option α}{C : Addr}(i : Fin 4)(hC : C=cx i)(h : Ex B sl .hp te m) : SB B sl (jD (wZ C (cD te fu)) u) al (m.bind λ_ => some (Ek.mk i : Ek cx)) := λb hb G D σ H s k => by
  cases m with
  |none => cases hb
  |some a =>
    have hb : some (Ek.mk i : Ek cx)=some b := hb
    cases hb
    obtain⟨F, O, g, z⟩ := s
    refine h a rfl F O H σ _ z λv F' H' gr r => ⟨(by show 1≤sizeLine;decide), k (.ref C) H' ⟨gr.ok.h0, ?_⟩⟩
    subst hC
    rfl
section
variable{P : Program}{w : World}{K : afh}{mg : Str→Option Value}{base : Heap}
seal L2.PE L2.PT L2.PW L2.PA L2.PS L2.xY L2.PC L2.PG L2.Rq L2.PI L2.vg L2.PO
def fX(cx : Fin 4→Addr)(q0 : Str)(q1 : Int) : Option (Out Int (Ek cx)) := ((d_ q0 q1).bind λa => some (!a)).bind λb => if b=true then((some q0).bind λj => Yn j ((some q1).bind λi => mK i (some ()))).bind λ_ => some (.rt (Ek.mk 3 : Ek cx)) else(Hf q0).bind λn => some (.nx n)
abbrev tU(K : afh)(cx : Fin 4→Addr) : Sp := Yq K cx (λa : Str×Int×Unit => ([.z a.1, .z a.2.1] : List (Slot K))) (λa => fX cx a.1 a.2.1)
theorem zZ(F : gn K "read_number" "read_number" lJ f fd)(B : Bl K mg)(X3 : Ho K mg cx)(sO : mJ P w K mg base k "is_number" ["word", "most"] (sJ K)) : bY P w K mg base (kE P w) (k+1) f fd ["word", "most"] (tU K cx) := by
  refine qI F jX (λ_ => rfl) (λ_ => rfl) λcdv A outer s H hr => ?_
  have nd := jX.nd
  refine⟨λE => _, λE => ak (dh (qm (kW (cj sO hr (aj (pv 0) (aj (pv 1) aA))))) (ak (Qx.ps (fL n8 rfl (X3.o 3) rfl X3.m3 (aj (jz (Lf (pv 0) (jQ (pB (pv 1) (jQ rW))))) aA))) aD) aD) (ak (bJ (dj o_ rfl B.int yu (aj (pv 0) aA))) aD), ?_⟩
  rintro Fa ⟨q0, q1, ⟨⟩⟩
  exact Ht (u := λ_ => _) (vp (rJ (md := .hp) (bA (aG (esc (aq 0 rfl)) (aG (esc (aq 1 rfl)) aV))))) (Fi (u := λ_ => lR) 3 rfl (Om (aq 0 rfl) (jR " is no number of 1 to " (vK (aq 1 rfl) (jR " figures" rY))))) (Lj (cL (esc (Hg (aq 0 rfl)))))
def cW(cx : Fin 4→Addr)(q0 : List Str) : Option (Out (List Int) (Ek cx)) := if q0.length<cap then iD (λx => fX cx x 2) q0 else none
abbrev j9(K : afh)(cx : Fin 4→Addr) : Sp := Yq K cx (λa : (List Str)×Unit => ([.z a.1] : List (Slot K))) (λa => cW cx a.1)
theorem z_(F : gn K "read_stands" "read_stands" lK f fd)(B : Bl K mg)(iU : mg "FIGURES_OF_STANDS" = some (.int 2 uJ))(pD : m9 P w K mg base k "read_number" ["word", "most"] (tU K cx)) : bY P w K mg base (kE P w) (k+1) f fd ["words"] (j9 K cx) := by
  refine qI F jY (λ_ => rfl) (λ_ => rfl) λcdv A outer s H hr => ?_
  have nd := jY.nd
  refine⟨λE => _, λE => ak (bJ (Vb (own := ["word"]) (ix := []) Ov rfl rfl (cN K (pv 0)) (λC s H fp => bN (i := 0) (show(["word"] : List Str).Nodup from by decide +kernel) rfl (Or.inl rfl)) (λC s H fp => dD) (λC s H fp y hp => (oH pD hr hp (aj (pv 0) (aj (dZ (v := .int 2) rfl iU ⟨_, rfl⟩) aA)))))) aD, ?_⟩
  rintro Fa ⟨q0, ⟨⟩⟩
  exact Hs (u := λ_ => lR) (EoX.exx (xg (n := false) (lu := [.un]) (no := 1) (ix := []) rfl rfl (cM (bU 0 rfl)) (bO 0 rfl rfl) (λx1 => lX (aG (esc (aq 0 rfl)) (aG (esc (aK 2)) aV))) (λx1 => jr)))
def cQ(cx : Fin 4→Addr)(q0 : Int)(q1 : List Str) : Option (Out (List Int) (Ek cx)) := (cW cx q1).bind λr => vQ r λst => if(!decide ((iz st none (some (1 : Int)))=([q0])))=true then((some q0).bind λi => mK i (some ())).bind λ_ => some (.rt (Ek.mk 3 : Ek cx)) else some (.nx (iz st (some (1 : Int)) none))
abbrev xM(K : afh)(cx : Fin 4→Addr) : Sp := Yq K cx (λa : Int×(List Str)×Unit => ([.z a.1, .z a.2.1] : List (Slot K))) (λa => cQ cx a.1 a.2.1)
theorem Dz(F : gn K "read_from" "read_from" oX f fd)(B : Bl K mg)(X3 : Ho K mg cx)(cZ : m9 P w K mg base k "read_stands" ["words"] (j9 K cx)) : bY P w K mg base (kE P w) (k+1) f fd ["stand", "words"] (xM K cx) := by
  refine qI F m_ (λ_ => rfl) (λ_ => rfl) λcdv A outer s H hr => ?_
  have nd := m_.nd
  refine⟨λE => _, λE => ak (cg 2 nd (oH cZ hr gR (aj (pv 1) aA))) (ak (dh (aZ (qx K (List Int) hr) (dY (wY K) (pv 2) gQ (eO aL)) (cX (aj (pv 0) aA)) (bG _)) (ak (Qx.ps (fL n8 rfl (X3.o 3) rfl X3.m3 (aj (jz (jQ (pB (pv 0) (jQ rW)))) aA))) aD) aD) (ak (bJ (dY (wY K) (pv 2) (eO aL) gQ)) aD)), ?_⟩
  rintro Fa ⟨q0, q1, ⟨⟩⟩
  exact xq (u := λ_ => _) true 2 rfl rfl (lX (aG (aF 1 rfl) aV)) λst => Ht (u := λ_ => _) (bw (md := .hp) (qy (wX (aF 2 rfl) (aK 1)).ex (jq (bx (esc (aq 0 rfl)) jo) (λa h => afl ((bV gw) a h) (by decide))).ex)) (Fi (u := λ_ => lR) 3 rfl (jR "the steps of stand " (vK (aq 0 rfl) (jR " are not in their place" rY)))) (Lj (cL (pP (aF 2 rfl) (aK 1)).ex))
def d8(cx : Fin 4→Addr)(q0 : List Str) : Option (Out (Str×(List Int)) (Ek cx)) := if(decide ((q0.length : Int)=(0 : Int)))=true then some (.rt (Ek.mk 3 : Ek cx)) else(jL q0 (0 : Int)).bind λa => (cW cx (iz q0 (some (1 : Int)) none)).bind λr => vQ r λb => some (.nx (a, b))
abbrev xO(K : afh)(cx : Fin 4→Addr) : Sp := Yq K cx (λa : (List Str)×Unit => ([.z a.1] : List (Slot K))) (λa => d8 cx a.1)
theorem DG(F : gn K "read_mark" "read_mark" oY f fd)(B : Bl K mg)(X3 : Ho K mg cx)(cZ : m9 P w K mg base k "read_stands" ["words"] (j9 K cx)) : bY P w K mg base (kE P w) (k+1) f fd ["words"] (xO K cx) := by
  refine qI F ni (λ_ => rfl) (λ_ => rfl) λcdv A outer s H hr => ?_
  have nd := ni.nd
  refine⟨λE => _, λE => ak (dh (aZ (cR K Int hr) (aO (dF K) rfl B.len afp (aj (pv 0) aA)) aL (bG _)) (ak (Qx.ps (fL n8 rfl (X3.o 3) rfl X3.m3 (aj aM aA))) aD) aD) (ak (bJ (iQ (aj (eG (kI K) (pv 0) aL (λ_ _ => rfl)) (aj (oH cZ hr gR (aj (dY (wY K) (pv 0) (eO aL) gQ) aA)) aA)))) aD), ?_⟩
  rintro Fa ⟨q0, ⟨⟩⟩
  exact Ht (u := λ_ => _) (bw (md := .hp) (cT (dH (aF 0 rfl)) (aK 0))) (Ln (u := λ_ => lR) 3 rfl (aU "a mark without a name")) (Hs (u := λ_ => lR) (Ve (esc (gk (aF 0 rfl) (aK 0))) (lX (aG (pP (aF 0 rfl) (aK 1)).ex aV))))
def j_(cx : Fin 4→Addr)(q0 : Str) : Option (Out (List (List Str)) (Ek cx)) := ((splitM q0 "\n").bind λxs => bL (λ(_ : Str) => some true) (λ(x2 : Str) => splitM x2 " ") xs).bind λrows => ((some rows).bind λxs => fD (λ(_ : Unit) (x5 : List Str) => if(decide (("" : Str)∈x5))=true then some (.rt (Ek.mk 3 : Ek cx)) else some (.nx ())) xs ()).bind λr => vQ r λ_ => some (.nx rows)
abbrev xP(K : afh)(cx : Fin 4→Addr) : Sp := Yq K cx (λa : Str×Unit => ([.z a.1] : List (Slot K))) (λa => j_ cx a.1)
theorem DK(F : gn K "read_rows" "read_rows" oZ f fd)(B : Bl K mg)(X3 : Ho K mg cx) : bY P w K mg base (kE P w) (k+1) f fd ["text"] (xP K cx) := by
  refine qI F nj (λ_ => rfl) (λ_ => rfl) λcdv A outer s H hr => ?_
  have nd := nj.nd
  refine⟨λE => _, λE => ak (PS.rB (jh (i := 1) (own := ["row"]) (ix := []) nd rfl rfl rfl rfl rfl (cN K (d9 K afr agu agv pR (pv 0) (aj aM aA))) (λC s H fp => bN (i := 0) (show(["row"] : List Str).Nodup from by decide +kernel) rfl (Or.inl rfl)) (λC s H fp => dD) (λC s H fp => (d9 K afr agu agv pR (pv 0) (aj aM aA))))) (ak (Qx.ps (uw yH rfl (cN K (pv 1)) (jF 2 nd) (bh (rU (aZ (K7 K) aM (pv 2) (by with_unfolding_all rfl)) (bh (fL n8 rfl (X3.o 3) rfl X3.m3 (aj aM aA)) cI) cI) cI))) (ak (bJ (pv 1)) aD)), ?_⟩
  rintro Fa ⟨q0, ⟨⟩⟩
  exact Vc (u := λ_ => _) (bR true 1 rfl rfl (cY (n := true) (lu := [.un]) (no := 1) (ix := []) rfl rfl (cM (pU "\n" (by decide +kernel) (aq 0 rfl)).ex) (bO 0 rfl rfl) (λx2 => gP) (λx2 => (pU " " (by decide +kernel) (aq 0 rfl)).ex) (λx2 => jr)).ex) λrows => Qy (u := λ_ => _) (abf (al := false) (Bo (n := true) (L := (λs3 : Unit => ([.z q0, .y rows, .un] : List (Slot K)))) () eV (cM (bU 1 rfl)) (λs3 => (bO 2 rfl rfl)) (λs3 x5 => qw (bw (md := .hp) (Zu (aU "") (aF 2 rfl))) (FQ 3 rfl (aU "a row without signs, or a blank too many")) (mH (λs3 : Unit => ([.z q0, .y rows, .un] : List (Slot K))) () eV)))) λ_ => Lj (cL (bU 1 rfl))
def fY(cx : Fin 4→Addr)(q0 : List (List Str)) : Option (Out Unit (Ek cx)) := ((some q0).bind λxs => bL (λ(_ : List Str) => some true) (λ(x2 : List Str) => jL x2 (0 : Int)) xs).bind λheads => (some ([] : List Str)).bind λordered => ((some (["from", "mark", "fair"] : List Str)).bind λxs => foldM (λ(s4 : List Str) (x6 : Str) => (((some heads).bind λxs => bL (λ(x8 : Str) => some (decide (x8=x6))) (λ(x8 : Str) => some x8) xs).bind λa9 => G7 s4 a9).bind λjZ => some jZ) xs ordered).bind λs5 => if(!decide (heads=s5))=true then some (.rt (Ek.mk 3 : Ek cx)) else some (.nx ())
abbrev tV(K : afh)(cx : Fin 4→Addr) : Sp := ZK K cx (λa : ((List (List Str)))×Unit => ([.z a.1] : List (Slot K))) (λa => fY cx a.1)
theorem Aa(F : gn K "check_heads" "check_heads" lM f fd)(B : Bl K mg)(X3 : Ho K mg cx) : bY P w K mg base (kE P w) (k+1) f fd ["rows"] (tV K cx) := by
  refine w6 F j4 (λ_ => rfl) (λ_ => rfl) λcdv A outer s H E hr => ?_
  have nd := j4.nd
  refine⟨_, bh (pq (PS.rB (jh (i := 1) (own := ["words"]) (ix := []) nd rfl rfl rfl rfl rfl (cN K (pv 0)) (λC s H fp => bN (i := 0) (show(["words"] : List Str).Nodup from by decide +kernel) rfl (Or.inl rfl)) (λC s H fp => dD) (λC s H fp => (eG (kI K) (pv 0) aL (λ_ _ => rfl)))))) (bh (pq (cg 2 nd (cX aA))) (bh (uw yH rfl (Ui K (iQ (aj aM (aj aM (aj aM aA))))) (jF 3 nd) (bh (pq (PS.rB (cP (d9 K afn PySem.F.slot_list_extend PySem.F.type_list_extend Ef (pv 2) (aj (fB (own := ["word"]) (ix := [3]) rfl rfl rfl (cN K (pv 1)) (λC s H fp => bN (i := 0) (show(["word", "head"] : List Str).Nodup from by decide +kernel) rfl (Or.inl rfl)) (λC s H fp => lE (aZ (cR K Str hr) (pv 0) (pv 1) (bG _))) (λC s H fp => (pv 0))) aA))))) cI)) (bh (rU (aZ (qx K (List Str) hr) (pv 1) (pv 2) (bG _)) (bh (fL n8 rfl (X3.o 3) rfl X3.m3 (aj aM aA)) cI) cI) cI))), ?_⟩
  rintro Fa ⟨q0, ⟨⟩⟩
  exact⟨λ_ : Unit => ([.un, .un, .un, .un] : List (Slot K)), false, gq (bR true 1 rfl rfl (cY (n := false) (lu := [.un]) (no := 1) (ix := []) rfl rfl (cM (bU 0 rfl)) (bO 0 rfl rfl) (λx2 => gP) (λx2 => (esc (esc (gk (aF 0 rfl) (aK 0))))) (λx2 => jr)).ex) (λqK => gq (jO true 2 rfl rfl (lg (α := Str))) (λsU => gq (lq (n := true) (L := (λs4 : List Str => ([.z q0, .y qK, .ow true s4, .un] : List (Slot K)))) sU eV (Oh (["from", "mark", "fair"] : List Str) (by decide)) (λs4 => (bO 3 rfl rfl)) (λs4 x6 => (bB (Bv 2 rfl rfl (cY (n := true) (lu := [.un, .y x6]) (no := 1) (ix := [3]) rfl rfl (cM (bU 1 rfl)) (bO 0 rfl rfl) (λx8 => (bw (md := .hp) (cT (aq 0 rfl) (aq 1 rfl)))) (λx8 => (esc (aq 0 rfl))) (λx8 => jr)).ex) (λjZ => (bQ (λs4 : List Str => ([.z q0, .y qK, .ow true s4, .un] : List (Slot K))) jZ eV))))) (λs5 => qw (bw (md := .hp) (qy (aF 1 rfl) (qu 2 rfl))) (FQ 3 rfl (aU "the rows do not begin with from, then mark, then fair")) (mH (λ_ : Unit => ([.un, .un, .un, .un] : List (Slot K))) () eV))))⟩
end
end Ts
set_option maxHeartbeats 40000000
namespace Ts
open PySem L2
theorem A2.mapR{α β γ : Type}{R : α→β→Prop}{S : α→γ→Prop}{f : β→γ}(h : ∀a b, R a b→S a (f b)) : ∀{xs : List α}{ys : List β}, A2 R xs ys→A2 S xs (ys.map f)
  |[], [], _ => trivial
  |_::_, _::_, q => ⟨h _ _ q.1, A2.mapR h q.2⟩
  |[], _::_, q => q.elim
  |_::_, [], q => q.elim
def eN(xs : List (List Int)) : QX := xs.map (·.map Mx.mi)
def mq(ms : List (Str×List Int)) : MKM := ms.map λm => (m.1, m.2.map Mx.mi)
section
variable{K : afh}{B : Bs}{sl : List (Slot K)}{F : Hp}{v : V}{cx : Fin 4→Addr}
theorem ZV{xs : List Int}(h : rp K F v xs) : rp K F v (xs.map Mx.mi) := by
  obtain⟨p, vs, h1, h2, h3⟩ := h
  exact⟨p, vs, h1, h2, A2.mapR (R := rp K F) (S := rp K F) (f := Mx.mi) (λa b (z : a=.int b) => (z : a=(Mx.mi b).v)) h3⟩
theorem Ow(h : rp K F v xs) : rp K F v (eN xs) := by
  obtain⟨p, vs, h1, h2, h3⟩ := h
  exact⟨p, vs, h1, h2, A2.mapR (λa b z => ZV z) h3⟩
theorem Yr(h : rp K F v xs) : rp K F v (mq xs) := by
  obtain⟨p, vs, h1, h2, h3⟩ := h
  refine⟨p, vs, h1, h2, A2.mapR (λa b z => ?_) h3⟩
  obtain⟨q, u, w, e, hq, r1, r2⟩ := z
  exact⟨q, u, w, e, hq, r1, ZV r2⟩
noncomputable def tW{β ε : Type}(o : Out Unit ε) : Option (Out β ε) := match o with
  |.rt e => some (.rt e)
  |.nx _ => none
theorem QZ(h1 : Ex B sl .hp t1 m1)(h2 : Ex B sl .hp t2 m2)(h3 : Ex B sl .hp t3 m3) :
    Rx (α := Unit) B sl md (λE => zp C (Ou K C cx) [] E (cD t1 (cD t2 (cD t3 fu)))) (m1.bind λa => m2.bind λb => m3.bind λc => (q9 cx (eN a) (mq b) (eN c)).bind tW) := λo ho F O H σ Q E z k => by
  cases m1 with
  |none => cases ho
  |some a =>
  cases m2 with
  |none => cases ho
  |some b =>
  cases m3 with
  |none => cases ho
  |some c =>
  have ho : (q9 cx (eN a) (mq b) (eN c)).bind tW=some o := ho
  cases hp : q9 cx (eN a) (mq b) (eN c) with
  |none => rw[hp] at ho;cases ho
  |some r =>
  rw[hp] at ho
  cases r with
  |nx _ => cases ho
  |rt e =>
  have ho : some (Out.rt e)=some o := ho
  cases ho
  unfold zp
  refine h1 a rfl F O H σ _ z λv1 F1 H1 g1 r1 => ?_
  refine h2 b rfl F1 O H1 σ _ (z.grow g1) λv2 F2 H2 g2 r2 => ?_
  refine h3 c rfl F2 O H2 σ _ ((z.grow g1).grow g2) λv3 F3 H3 g3 r3 => ?_
  intro y dx ny ndx ne
  have sG : Same H3 (upd (upd H3 dx (.own y)) y (.ins C dx [])) := λb o e => by rw[aP (aR e ny), aP (aR e ndx)];exact e
  have sh : Same H3 (hid (upd (upd H3 dx (.own y)) y (.ins C dx [])) y) := λb o e => by
    unfold hid
    rw[if_neg (aR e ny)]
    exact sG b o e
  exact⟨y, dx, v1, v2, v3, eN a, mq b, eN c, e, rfl, aY, Ow (Rp.mono ((g2.hh.trans g3.hh).trans sh) r1), Yr (Rp.mono (g3.hh.trans sh) r2), Ow (Rp.mono sh r3), hp, λH' s' => k H' (g1.hh.trans (g2.hh.trans (g3.hh.trans (sG.trans s'))))⟩
end
section
variable{P : Program}{w : World}{K : afh}{mg : Str→Option Value}{base : Heap}
seal L2.PE L2.PT L2.PW L2.PA L2.PS L2.xY L2.PC L2.PG L2.Rq L2.PI L2.vg L2.PO
def bW(cx : Fin 4→Addr)(q0 : Str) : Option (Out Unit (Ek cx)) := (j_ cx q0).bind λr => vQ r λrows => (fY cx rows).bind λr => vQ r λ_ =>
  (((b_ rows ("from" : Str)).bind λa4 => some (bT a4)).bind λxs => if xs.length<cap then iD (λx5 : Int×(List Str) => cQ cx x5.1 x5.2) xs else none).bind λr => vQ r λsteps =>
  ((b_ rows ("mark" : Str)).bind λxs => if xs.length<cap then iD (λx7 : List Str => d8 cx x7) xs else none).bind λr => vQ r λmarks =>
  ((b_ rows ("fair" : Str)).bind λxs => if xs.length<cap then iD (λx9 : List Str => cW cx x9) xs else none).bind λr => vQ r λfair => (q9 cx (eN steps) (mq marks) (eN fair)).bind tW
abbrev mL(K : afh)(cx : Fin 4→Addr) : Sp := Yq K cx (λa : Str×Unit => ([.z a.1] : List (Slot K))) (λa => bW cx a.1)
theorem yR(F : gn K "read_machine" "read_machine" jU f fd)(B : Bl K mg)(mC : mg "Machine" = some (.ref C))(MK : Mk K C fI)(GX : bY P w K mg base (kE P w) k0 fI fdI ["self", "steps", "marks", "fair"] (Ou K C cx))(bI0 : Binds K fdI ["self", "steps", "marks", "fair"] [])(pG : m9 P w K mg base (k0+1) "check_heads" ["rows"] (tV K cx))(sV : m9 P w K mg base (k0+1) "read_from" ["stand", "words"] (xM K cx))(sW : m9 P w K mg base (k0+1) "read_mark" ["words"] (xO K cx))(sX : m9 P w K mg base (k0+1) "read_rows" ["text"] (xP K cx))(cZ : m9 P w K mg base (k0+1) "read_stands" ["words"] (j9 K cx))(fH : mJ P w K mg base (k0+1) "rows_behind" ["rows", "head"] (pF K)) : bY P w K mg base (kE P w) ((k0+1)+1) f fd ["text"] (mL K cx) := by
  refine qI F ji (λ_ => rfl) (λ_ => rfl) λcdv A outer s H hr => ?_
  have nd := ji.nd
  refine⟨λE => _, λE => ak (cg 1 nd (oH sX hr gR (aj (pv 0) aA))) (ak (cP (oH pG hr gR (aj (pv 1) aA)))
    (ak (BK (i := 2) (own := ["stand", "words"]) (ix := []) Ov nd rfl rfl rfl rfl (uo K B.enum (aj (cj fH hr (aj (pv 1) (aj aM aA))) aA)) (λC s H fp => GC (K := K) (n := 2) rfl rfl (cG (bN (i := 0) (show(["stand", "words"] : List Str).Nodup from by decide +kernel) rfl (Or.inl rfl)) (cG (bN (i := 1) (show(["stand", "words"] : List Str).Nodup from by decide +kernel) rfl (Or.inl rfl)) iu))) (λC s H fp => dD) (λC s H fp y hp => (oH sV hr hp (aj (pv 0) (aj (pv 1) aA)))))
    (ak (BK (i := 3) (own := ["words"]) (ix := []) Ov nd rfl rfl rfl rfl (cN K (cj fH hr (aj (pv 1) (aj aM aA)))) (λC s H fp => bN (i := 0) (show(["words"] : List Str).Nodup from by decide +kernel) rfl (Or.inl rfl)) (λC s H fp => dD) (λC s H fp y hp => (oH sW hr hp (aj (pv 0) aA))))
    (ak (BK (i := 4) (own := ["words"]) (ix := []) Ov nd rfl rfl rfl rfl (cN K (cj fH hr (aj (pv 1) (aj aM aA)))) (λC s H fp => bN (i := 0) (show(["words"] : List Str).Nodup from by decide +kernel) rfl (Or.inl rfl)) (λC s H fp => dD) (λC s H fp y hp => (oH cZ hr hp (aj (pv 0) aA))))
    (ak (bJ (Ae MK GX hr rfl mC bI0 .nil gR (aj (pv 2) (aj (pv 3) (aj (pv 4) aA))))) aD))))), ?_⟩
  rintro Fa ⟨q0, ⟨⟩⟩
  exact xq (u := λ_ => _) true 1 rfl rfl (lX (aG (esc (aq 0 rfl)) aV)) λrows => Vd (u := λ_ => _) (md := .hp) (Qz (aG (aF 1 rfl) aV))
    (xq (u := λ_ => _) true 2 rfl rfl (EoX.exx (xg (n := true) (lu := [.un, .un]) (no := 2) (ix := []) rfl rfl (uh (bA (aG (aF 1 rfl) (aG (esc (aU "from")) aV)))) (nU 0 1 rfl rfl (λ_ => rfl) rfl) (λx5 => lX (aG (esc (aq 0 rfl)) (aG (aF 1 rfl) aV))) (λx5 => jr))) λsteps =>
    xq (u := λ_ => _) true 3 rfl rfl (EoX.exx (xg (n := true) (lu := [.un]) (no := 1) (ix := []) rfl rfl (cM (bA (aG (aF 1 rfl) (aG (esc (aU "mark")) aV)))) (bO 0 rfl rfl) (λx7 => lX (aG (aF 0 rfl) aV)) (λx7 => jr))) λmarks =>
    xq (u := λ_ => _) true 4 rfl rfl (EoX.exx (xg (n := true) (lu := [.un]) (no := 1) (ix := []) rfl rfl (cM (bA (aG (aF 1 rfl) (aG (esc (aU "fair")) aV)))) (bO 0 rfl rfl) (λx9 => lX (aG (aF 0 rfl) aV)) (λx9 => jr))) λfair =>
    Hs (u := λ_ => lR) (QZ (aF 2 rfl) (aF 3 rfl) (aF 4 rfl)))
end
end Ts
set_option maxHeartbeats 40000000
namespace Ts
open PySem L2
section
variable{P : Program}{w : World}{K : afh}{mg : Str→Option Value}{base : Heap}
theorem o8 : bf ["self", "text"] ["self", "text"] (aH iG) := fsc
def Ox(C : Addr)(cx : Fin 4→Addr) : Sp := λvs H _ E => ∃(p dx : Addr)(x : Str)(e : Ek cx), vs=[.ref p, .str x]∧H p=some (.ins C dx [])∧bW cx x=some (.rt e)∧∀H' : Hp, Same H H'→E (.ref (cx e.k)) none H'
theorem abm(F : gn K "__init__" "Sayer.__init__" iG f fd)(dg : m9 P w K mg base k "read_machine" ["text"] (mL K cx)) : bY P w K mg base (kE P w) (k+1) f fd ["self", "text"] (Ox C cx) := by
  refine F.okV o8 (λvs H Q E h => ?_) λcdv A outer s H vs Q E hr h => ?_
  · obtain⟨p, dx, x, e, rfl, _⟩ := h
    rfl
  obtain⟨p, dx, x, e, rfl, hp, hm, q⟩ := h
  have nd := o8.nd
  refine⟨_, ak (u5 (pv 0) (oH dg hr gR (aj (pv 1) aA)) rfl) eX, ?_⟩
  refine⟨_, rfl, (x, ()), .rt e, H, .refl _, hm, .cons rfl .nil, q⟩
theorem Q0(h : Ex B sl .hp te m) : Rx (α := Unit) B sl md (λE => zp C (Ox C cx) [] E (cD te fu)) (m.bind λx => (bW cx x).bind tW) := λo ho F O H σ Q E z k => by
  cases m with
  |none => cases ho
  |some x =>
  have ho : (bW cx x).bind tW=some o := ho
  cases hp : bW cx x with
  |none => rw[hp] at ho;cases ho
  |some r =>
  rw[hp] at ho
  cases r with
  |nx _ => cases ho
  |rt e =>
  have ho : some (Out.rt e)=some o := ho
  cases ho
  unfold zp
  refine h x rfl F O H σ _ z λv F1 H1 g1 r1 => ?_
  have r1 : v=.str x := r1
  subst r1
  intro y dx ny ndx ne
  have sG : Same H1 (upd (upd H1 dx (.own y)) y (.ins C dx [])) := λb o e => by rw[aP (aR e ny), aP (aR e ndx)];exact e
  exact⟨y, dx, x, e, rfl, aY, hp, λH' s' => k H' (g1.hh.trans (sG.trans s'))⟩
theorem FT{B : Bs}{sl : List (Slot K)}{md : Md}{cx : Fin 4→Addr}{β : Type}[Rp K β]{te : XK→TE}{u : XK→TS}{m : Option (Out Unit (Ek cx))}(h : Rx B sl md te m) : Fg (β := β) B sl (λE => jD (uK (te E)) (u E)) (m.bind tW) := λo ho G D σ H E q k => by
  cases m with
  |none => cases ho
  |some r =>
  obtain⟨F, O, g, z⟩ := q
  cases r with
  |nx _ => cases ho
  |rt e =>
  have ho : some (Out.rt e)=some o := ho
  cases ho
  exact h (.rt e) rfl F O H σ _ E z λH' s' => k H' (z.1.h0.trans s')
theorem Ys{B : Bs}{sl : List (Slot K)}{cx : Fin 4→Addr}{β : Type}[Rp K β]{tc : TT}{t t2 u : XK→TS}{mc : Option Bool}{m1 m2 : Option (Out β (Ek cx))}(h : Et B sl tc mc)(h1 : Fg B sl t m1)(h2 : Fg B sl t2 m2) : Fg B sl (λE => jD (Gk tc (t E) (t2 E)) (u E)) (mc.bind λb => if b=true then m1 else m2) := λo ho G D σ H E q k => by
  cases mc with
  |none => cases ho
  |some b =>
    obtain⟨F, O, g, z⟩ := q
    refine h b rfl F O H σ _ z λF' H' gr => ?_
    cases b with
    |true => exact h1 o ho G _ σ H' E ⟨F', O, g.trans gr.ff, z.grow gr⟩ k
    |false => exact h2 o ho G _ σ H' E ⟨F', O, g.trans gr.ff, z.grow gr⟩ k
seal L2.PE L2.PT L2.PW L2.PA L2.PS L2.xY L2.PC L2.PG L2.Rq L2.PI L2.vg L2.PO
theorem qN : bf ["_law_text", "_law_whole"] ["_law_text", "_law_whole"] (aH uy) := fsc
def oJ(cx : Fin 4→Addr)(q0 : Str)(q1 : Bool) : Option (Out Unit (Ek cx)) := if q1=true then((bW cx q0).bind tW).bind tW else(bW cx q0).bind tW
abbrev wj(K : afh)(cx : Fin 4→Addr) : Sp := Yq K cx (λa : Str×Bool×Unit => ([.z a.1, .z a.2.1] : List (Slot K))) (λa => oJ cx a.1 a.2.1)
theorem JW(F : gn K "_law_asked" "_law_asked" uy f fd)(mS : mg "Sayer" = some (.ref C))(MK : Mk K C fS)(GS : bY P w K mg base (kE P w) k fS fdS ["self", "text"] (Ox C cx))(bS : Binds K fdS ["self", "text"] [])(dg : m9 P w K mg base (k+1) "read_machine" ["text"] (mL K cx)) : bY P w K mg base (kE P w) ((k+1)+1) f fd ["_law_text", "_law_whole"] (wj K cx) := by
  refine qI F qN (λ_ => rfl) (λ_ => rfl) λcdv A outer s H hr => ?_
  have nd := qN.nd
  refine⟨λE => _, λE => ak (dh (kW (pv 1)) (ak (cP (Ae MK GS hr rfl mS bS .nil gR (aj (pv 0) aA))) aD) (ak (cP (oH dg hr gR (aj (pv 0) aA))) aD)) aD, ?_⟩
  rintro Fa ⟨q0, q1, ⟨⟩⟩
  exact Ys (u := λ_ => lR) (rJ (md := .hp) (aq 1 rfl)) (FT (u := λ_ => lR) (md := .hp) (Q0 (aq 0 rfl))) (FT (u := λ_ => lR) (md := .hp) (lX (aG (esc (aq 0 rfl)) aV)))
end
end Ts
namespace L2
open PySem PySem.Spec PyProof.Rows
section
variable{X : Cx}
theorem H_ : ∀{bs : List Bool}{us : List Value}, Vals (bs.map V.bl) us→us=bs.map ahb
  |[], _, h => by cases h;rfl
  |b::bs, _, h => by
    cases h with
    |cons r h => rw[H_ h, show _=ahb b from r];rfl
def isT : Value→Bool
  |.bool b => b
  |_ => false
def ady : V→List V→Hp→VK→Prop := λx vs H Q => ∃l, ∃bs : List Bool, x=.ref l∧vs=[.bl true]∧H l=some (.lst (bs.map V.bl))∧Q (.int (bs.countP id : Nat)) H
theorem eqT{bs : List Bool} : ∀y, y∈(bs.map ahb).toArray→PySem.SeqAt.EqAt A s y (.bool true) (isT y) := λy hy => by
  rw[List.mem_toArray, mem_map] at hy
  obtain⟨b, _, rfl⟩ := hy
  have z := PySem.SeqAt.EqAt.bool_bool (A := A) (s := s) b true
  cases b<;>exact z
theorem FW : Qh X "list.count" ady := by
  intro pins s σ H x vs v us Q I rx rv h
  obtain⟨l, bs, rfl, rfl, hH, q⟩ := h
  cases rx
  obtain⟨u, rfl, ru⟩ := rv.one
  have ru : u=.bool true := ru
  subst ru
  obtain⟨z, its, n, r, hl, e⟩ := I.Bg hH
  obtain rfl := H_ r
  refine agy F.slot_list_count ⟨_, e, rfl⟩ F.entry_list_count (F.args_list_count_2 _ _) (PySem.SeqAt.list_countAt l _ n none #[] (.bool true) isT) ⟨e, eqT, ?_⟩
  have ec : (bs.map ahb).toArray.toList.countP isT=bs.countP id := by
    rw[List.countP_map]
    rfl
  rw[ec]
  exact⟨.int _, H, I.tok _, ⟨_, rfl⟩, q⟩
def aey : V→List V→Hp→VK→Prop := λx vs H Q => ∃l, ∃bs : List Bool, ∃j : Nat, x=.ref l∧vs=[.bl true]∧H l=some (.lst (bs.map V.bl))∧j<1000∧bs[j]?=some true∧(∀m, m<j→bs[m]?=some false)∧Q (.int j) H
theorem FZ : Qh X "list.index" aey := by
  intro pins s σ H x vs v us Q I rx rv h
  obtain⟨l, bs, j, rfl, rfl, hH, hj, h1, h2, q⟩ := h
  cases rx
  obtain⟨u, rfl, ru⟩ := rv.one
  have ru : u=.bool true := ru
  subst ru
  obtain⟨z, its, n, r, hl, e⟩ := I.Bg hH
  obtain rfl := H_ r
  have lt : ∀{m : Nat}{b : Bool}, bs[m]?=some b→∀hm : m<(bs.map ahb).toArray.size, isT (bs.map ahb).toArray[m]=b := λ{m b} e hm => by
    have z : (bs.map ahb)[m]?=some (ahb b) := by rw[getElem?_map, e];rfl
    rw[List.getElem_toArray]
    rw[afi (by simpa using hm)] at z
    rw[afm z]
    rfl
  have hsz : j<(bs.map ahb).toArray.size := by
    rw[size_toArray, length_map]
    exact(afu.mp h1).1
  refine agy F.slot_list_index ⟨_, e, rfl⟩ F.entry_list_index (F.args_list_index_2 _ _) (PySem.SeqAt.list_indexAt l _ n none #[] (.bool true) isT j hsz (by omega) (lt h1 hsz) (λm hm hlt => lt (h2 m hlt) hm)) ⟨e, eqT, ?_⟩
  exact⟨.int _, H, I.tok _, ⟨_, rfl⟩, q⟩
end
end L2
set_option maxHeartbeats 40000000
namespace Ts
open PySem L2
section
variable{P : Program}{w : World}{K : afh}{mg : Str→Option Value}{base : Heap}
def nm4(i : Fin 4) : Str := (["stand", "step", "mark", "text"] : List Str).getD i.val "by"
def kh(cx : Fin 4→Addr)(pA : Str→Bool→Option Unit)(x : Str)(b : Bool) : Option Str := match oJ cx x b with
  |some (.rt e) => some (nm4 e.k)
  |_ => (pA x b).bind λ_ => some "by"
structure ZW(K : afh)(mg : Str→Option Value)(cx : Fin 4→Addr)(cS cF : Addr) : Prop extends Ho K mg cx where
  mS : mg "SayError" = some (.ref cS)
  mF : mg "NoFold" = some (.ref cF)
  mV : mg "ValueError" = none
  ty : ∀i, PySem.W.Uz K (cx i)
  hS : ∀i, aio K (.ref (cx i)) (.ref cS)=some true
  k : ∀i j, afo K (.ref (cx i)) (.ref (cx j))=some (decide (i=j))
  no : ∀i, afo K (.ref (cx i)) (.ref cF)=some false
  ve : ∀i, afo K (.ref (cx i)) (.type "ValueError")=some true
abbrev JX(K : afh)(cx : Fin 4→Addr)(pA : Str→Bool→Option Unit) : Sp := nD K false (λa : Str×Bool×Unit => ([.z a.1, .z a.2.1] : List (Slot K))) (λa => kh cx pA a.1 a.2.1)
theorem Oz : bf ["_law_text", "_law_whole", "e", "_law_kinds"] ["_law_text", "_law_whole"] (aH Hu) := fsc
theorem Yt{pA : Str→Bool→Option Unit}(F : gn K "_law_got" "_law_got" Hu f fd)(B : Bl K mg)(X : ZW K mg cx cS cF)(CX : m9 P w K mg base k "_law_asked" ["_law_text", "_law_whole"] (wj K cx))(CA : mJ P w K mg base k "_law_asked" ["_law_text", "_law_whole"] (nD K false (λa : Str×Bool×Unit => ([.z a.1, .z a.2.1] : List (Slot K))) λa => pA a.1 a.2.1)) :
    bY P w K mg base jE (k+1) f fd ["_law_text", "_law_whole"] (JX K cx pA) := by
  refine F.ok Oz (λvs H Q E h => K1 (λ_ => rfl) h) λcdv A outer s H vs Q E hr h => ?_
  obtain⟨⟨t, wh, ⟨⟩⟩, b, Fa, sf, hx, r, q⟩ := h
  have nd := Oz.nd
  have hx : kh cx pA t wh=some b := hx
  cases r with
  |cons r1 r =>
  cases r with
  |cons r2 r =>
  cases r
  have r1 : _=V.str t := r1
  have r2 : _=V.bl wh := r2
  subst r1 r2
  by_cases hn : ∃e, oJ cx t wh=some (.rt e)
  · obtain⟨e, hI⟩ := hn
    have hx' : b=nm4 e.k := by
      unfold kh at hx
      rw[hI] at hx
      cases hx
      rfl
    subst hx'
    refine⟨_, ak (Ol (cx := cx) (i := 2) (c := .ref cS) (te := λE => uL (wj K cx) [] E (cD (mU 0) (cD (mU 1) fu))) (λpins xe E hp => oH CX hr hp (aj (pv 0) (aj (pv 1) aA))) rfl X.mS X.hS nd rfl rfl rfl rfl rfl rfl (λk a => ak (cg 3 nd (cX (aj (aO (gB (X.ty k) (X.k k 3) lF) rfl B.Js gV (aj (pv 2) (aj (dZ (v := .ref (cx 3)) rfl X.m3 rfl) aA))) (aj (aO (gB (X.ty k) (X.k k 0) lF) rfl B.Js gV (aj (pv 2) (aj (dZ (v := .ref (cx 0)) rfl X.m0 rfl) aA))) (aj (aO (gB (X.ty k) (X.k k 1) lF) rfl B.Js gV (aj (pv 2) (aj (dZ (v := .ref (cx 1)) rfl X.m1 rfl) aA))) (aj (aO (gB (X.ty k) (X.k k 2) lF) rfl B.Js gV (aj (pv 2) (aj (dZ (v := .ref (cx 2)) rfl X.m2 rfl) aA))) aA))))))
      (ak (dh (PW.pt (pw_or (aZ Zg (d9 K afn PySem.F.slot_list_count PySem.F.type_list_count FW (pv 3) (aj pH aA)) aL (bG _))
        (pw_or (kW (aO (gB (X.ty k) (X.no k) lF) rfl B.Js gV (aj (pv 2) (aj (dZ (v := .ref cF) rfl X.mF rfl) aA))))
        (pw_or1 (qm (kW (aO (gB (X.ty k) (X.ve k) vh) rfl B.Js gV (aj (pv 2) (aj (ql (v := .ty "ValueError") rfl X.mV PyProof.Rows.Boot.«ValueError» rfl) aA)))))))))
        (jG (bJ aM)) aD)
      (jG (bJ (eG (kI K) (cX (aj aM (aj aM (aj aM (aj aM aA))))) (d9 K afn PySem.F.slot_list_index PySem.F.type_list_index FZ (pv 3) (aj pH aA)) (λ_ _ => rfl))))))) (jG (bJ aM)), ?_⟩
    unfold jD U9
    refine⟨_, rfl, _, rfl, (t, wh, ()), .rt e, H, .refl _, hI, .cons rfl (.cons rfl .nil), λH' s' => ?_⟩
    refine⟨e.k, rfl, λx σ' ha hl => ?_⟩
    obtain⟨y0, y1, y2, y3, rfl⟩ : ∃y0 y1 y2 y3, σ'=[y0, y1, y2, y3] := by
      match σ', hl with
      |[y0, y1, y2, y3], _ => exact⟨y0, y1, y2, y3, rfl⟩
    have e0 : upd H' x (Qw x (.ref (cx e.k))) x=some (Qw x (.ref (cx e.k))) := aY
    generalize hH : upd H' x (Qw x (.ref (cx e.k)))=H2 at e0 ⊢
    have s2 : Same H' H2 := by rw[← hH];exact dI ha _
    generalize e.k=i at *
    refine⟨_, rfl, x, _, rfl, rfl, e0, _, rfl, x, _, rfl, rfl, e0, _, rfl, x, _, rfl, rfl, e0, _, rfl, x, _, rfl, rfl, e0, (by show 4≤sizeLine;decide), λl hl => ?_⟩
    have s3 := dI hl (.lst [.bl (decide (i=3)), .bl (decide (i=0)), .bl (decide (i=1)), .bl (decide (i=2))])
    have hL : upd H2 l (.lst [.bl (decide (i=3)), .bl (decide (i=0)), .bl (decide (i=1)), .bl (decide (i=2))]) l=some (.lst ([decide (i=3), decide (i=0), decide (i=1), decide (i=2)].map V.bl)) := aY
    have e1 := s3 _ _ e0
    generalize upd H2 l (.lst [.bl (decide (i=3)), .bl (decide (i=0)), .bl (decide (i=1)), .bl (decide (i=2))])=H3 at s3 hL e1 ⊢
    have fin : ∀x : Str, nm4 i=x→∀H', Same H3 H'→Q (.str x) H' := λx hx H4 s4 => q (.str x) H4 (((s'.trans s2).trans s3).trans s4) (by rw[hx];exact rfl)
    have hi : i=0∨i=1∨i=2∨i=3 := by omega
    refine⟨_, rfl, .inl ⟨rfl, _, gj.of hL⟩, l, _, rfl, rfl, hL, rfl, ?_⟩
    rcases hi with rfl|rfl|rfl|rfl
    · refine⟨false, rfl, oM ?_⟩
      refine⟨_, rfl, x, _, rfl, rfl, e1, false, rfl, oM ?_⟩
      refine⟨_, rfl, x, _, rfl, rfl, e1, true, rfl, oM ?_⟩
      refine⟨(by show 4≤sizeLine;decide), λr hr => ?_⟩
      have s6 := dI hr (.lst [.str "text", .str "stand", .str "step", .str "mark"])
      refine⟨_, rfl, .inl ⟨rfl, _, gj.of (s6 _ _ hL)⟩, l, _, 1, rfl, rfl, s6 _ _ hL, by decide, rfl, (by decide : ∀m, m<1→([decide ((0 : Fin 4)=3), decide ((0 : Fin 4)=0), decide ((0 : Fin 4)=1), decide ((0 : Fin 4)=2)] : List Bool)[m]?=some false), ?_⟩
      exact⟨r, _, 1, _, rfl, rfl, gj.of aY, rfl, fin "stand" rfl _ s6⟩
    · refine⟨false, rfl, oM ?_⟩
      refine⟨_, rfl, x, _, rfl, rfl, e1, false, rfl, oM ?_⟩
      refine⟨_, rfl, x, _, rfl, rfl, e1, true, rfl, oM ?_⟩
      refine⟨(by show 4≤sizeLine;decide), λr hr => ?_⟩
      have s6 := dI hr (.lst [.str "text", .str "stand", .str "step", .str "mark"])
      refine⟨_, rfl, .inl ⟨rfl, _, gj.of (s6 _ _ hL)⟩, l, _, 2, rfl, rfl, s6 _ _ hL, by decide, rfl, (by decide : ∀m, m<2→([decide ((1 : Fin 4)=3), decide ((1 : Fin 4)=0), decide ((1 : Fin 4)=1), decide ((1 : Fin 4)=2)] : List Bool)[m]?=some false), ?_⟩
      exact⟨r, _, 2, _, rfl, rfl, gj.of aY, rfl, fin "step" rfl _ s6⟩
    · refine⟨false, rfl, oM ?_⟩
      refine⟨_, rfl, x, _, rfl, rfl, e1, false, rfl, oM ?_⟩
      refine⟨_, rfl, x, _, rfl, rfl, e1, true, rfl, oM ?_⟩
      refine⟨(by show 4≤sizeLine;decide), λr hr => ?_⟩
      have s6 := dI hr (.lst [.str "text", .str "stand", .str "step", .str "mark"])
      refine⟨_, rfl, .inl ⟨rfl, _, gj.of (s6 _ _ hL)⟩, l, _, 3, rfl, rfl, s6 _ _ hL, by decide, rfl, (by decide : ∀m, m<3→([decide ((2 : Fin 4)=3), decide ((2 : Fin 4)=0), decide ((2 : Fin 4)=1), decide ((2 : Fin 4)=2)] : List Bool)[m]?=some false), ?_⟩
      exact⟨r, _, 3, _, rfl, rfl, gj.of aY, rfl, fin "mark" rfl _ s6⟩
    · refine⟨false, rfl, oM ?_⟩
      refine⟨_, rfl, x, _, rfl, rfl, e1, false, rfl, oM ?_⟩
      refine⟨_, rfl, x, _, rfl, rfl, e1, true, rfl, oM ?_⟩
      refine⟨(by show 4≤sizeLine;decide), λr hr => ?_⟩
      have s6 := dI hr (.lst [.str "text", .str "stand", .str "step", .str "mark"])
      refine⟨_, rfl, .inl ⟨rfl, _, gj.of (s6 _ _ hL)⟩, l, _, 0, rfl, rfl, s6 _ _ hL, by decide, rfl, (by decide : ∀m, m<0→([decide ((3 : Fin 4)=3), decide ((3 : Fin 4)=0), decide ((3 : Fin 4)=1), decide ((3 : Fin 4)=2)] : List Bool)[m]?=some false), ?_⟩
      exact⟨r, _, 0, _, rfl, rfl, gj.of aY, rfl, fin "text" rfl _ s6⟩
  · have hA : pA t wh=some ()∧b = "by" := by
      unfold kh at hx
      split at hx
      · rename_i e he
        exact absurd ⟨e, he⟩ hn
      · cases ha : pA t wh with
        |none => rw[ha] at hx;cases hx
        |some u => rw[ha] at hx;cases hx;exact⟨rfl, rfl⟩
    obtain⟨hA, rfl⟩ := hA
    refine⟨_, ak (Ol (cx := cx) (i := 2) (c := .ref cS) (te := λ_ => uL (nD K false (λa : Str×Bool×Unit => ([.z a.1, .z a.2.1] : List (Slot K))) λa => pA a.1 a.2.1) [] E0 (cD (mU 0) (cD (mU 1) fu))) (λpins xe E hp => cj CA hr (aj (pv 0) (aj (pv 1) aA))) rfl X.mS X.hS nd rfl rfl rfl rfl rfl rfl (λk a => ak (cg 3 nd (cX (aj (aO (gB (X.ty k) (X.k k 3) lF) rfl B.Js gV (aj (pv 2) (aj (dZ (v := .ref (cx 3)) rfl X.m3 rfl) aA))) (aj (aO (gB (X.ty k) (X.k k 0) lF) rfl B.Js gV (aj (pv 2) (aj (dZ (v := .ref (cx 0)) rfl X.m0 rfl) aA))) (aj (aO (gB (X.ty k) (X.k k 1) lF) rfl B.Js gV (aj (pv 2) (aj (dZ (v := .ref (cx 1)) rfl X.m1 rfl) aA))) (aj (aO (gB (X.ty k) (X.k k 2) lF) rfl B.Js gV (aj (pv 2) (aj (dZ (v := .ref (cx 2)) rfl X.m2 rfl) aA))) aA))))))
      (ak (dh (PW.pt (pw_or (aZ Zg (d9 K afn PySem.F.slot_list_count PySem.F.type_list_count FW (pv 3) (aj pH aA)) aL (bG _))
        (pw_or (kW (aO (gB (X.ty k) (X.no k) lF) rfl B.Js gV (aj (pv 2) (aj (dZ (v := .ref cF) rfl X.mF rfl) aA))))
        (pw_or1 (qm (kW (aO (gB (X.ty k) (X.ve k) vh) rfl B.Js gV (aj (pv 2) (aj (ql (v := .ty "ValueError") rfl X.mV PyProof.Rows.Boot.«ValueError» rfl) aA)))))))))
        (jG (bJ aM)) aD)
      (jG (bJ (eG (kI K) (cX (aj aM (aj aM (aj aM (aj aM aA))))) (d9 K afn PySem.F.slot_list_index PySem.F.type_list_index FZ (pv 3) (aj pH aA)) (λ_ _ => rfl))))))) (jG (bJ aM)), ?_⟩
    unfold jD U9
    exact⟨_, rfl, _, rfl, (t, wh, ()), (), H, .refl _, hA, .cons rfl (.cons rfl .nil), λv' H' s' _ => q (.str "by") H' s' rfl⟩
end
end Ts
set_option maxHeartbeats 40000000
namespace Ts
open PySem L2
structure Yu where
section
variable{P : Program}{w : World}{K : afh}{mg : Str→Option Value}{base : Heap}
instance : Rp K Yu := ⟨λ_ _ _ => True, λ_ h => h⟩
def OD(C Cm : Addr) : Sp := λvs H Q _ => ∃(p dx : Addr)(x : Str)(M : qC Cm), vs=[.ref p, .str x]∧H p=some (.ins C dx [])∧cB Cm x=some M∧∀H', (∀b o, H b=some o→b≠p→H' b=some o)→Q .non H'
theorem abn(F : gn K "__init__" "Sayer.__init__" iG f fd)(cC : Cls K C)(n1 : jK K C "machine")(n2 : jK K C "unfolded")(dg : mJ P w K mg base k "read_machine" ["text"] (j5 K Cm)) : bY P w K mg base jE (k+1) f fd ["self", "text"] (OD C Cm) := by
  refine F.ok o8 (λvs H Q E h => ?_) λcdv A outer s H vs Q E hr h => ?_
  · obtain⟨p, dx, x, M, rfl, _⟩ := h
    rfl
  obtain⟨p, dx, x, M, rfl, hp, hm, q⟩ := h
  have nd := o8.nd
  refine⟨_, ak (u5 (pv 0) (cj dg hr (aj (pv 1) aA)) rfl) (ak (u5 (pv 0) (cX aA) rfl) aD), ?_⟩
  refine⟨_, rfl, (x, ()), M, H, .refl _, hm, .cons rfl .nil, λy H1 s1 _ => ⟨_, rfl, p, C, dx, [], rfl, s1 p _ hp, cC, n1, by decide, ?_⟩⟩
  refine⟨afz _, λl hl => ?_⟩
  have lp : l≠p := λe => by rw[e, aY] at hl;cases hl
  have l1 : H1 l=none := by rw[aP lp] at hl;exact hl
  refine⟨_, rfl, p, C, dx, cA "machine" y [], rfl, by rw[aP lp.symm, aY], cC, n2, by show 1<1000;decide, q _ λb o e hb => ?_⟩
  have e1 := s1 b o e
  rw[aP hb, aP (λz => by rw[z, l1] at e1;cases e1), aP hb]
  exact e1
theorem Q5(h : Ex B sl .hp te m) : Ex B sl .hp (zp C (OD C Cm) [] E0 (cD te fu)) (m.bind λx => (cB Cm x).bind λ_ => some (Yu.mk)) := λo ho F O H σ Q z k => by
  cases m with
  |none => cases ho
  |some x =>
  have ho : ((cB Cm x).bind λ_ => some Yu.mk)=some o := ho
  cases hp : cB Cm x with
  |none => rw[hp] at ho;cases ho
  |some M =>
  unfold zp
  refine h x rfl F O H σ _ z λv F1 H1 g1 r1 => ?_
  have r1 : v=.str x := r1
  subst r1
  intro y dx ny ndx ne
  refine⟨y, dx, x, M, rfl, aY, hp, λH' k' => ⟨rfl, ?_⟩⟩
  have s2 : Same H1 H' := λb o e => k' b o (by rw[aP (aR e ny), aP (aR e ndx)];exact e) (aR e ny)
  exact k _ _ H' (g1.trans (g1.ok.called s2)) trivial
seal L2.PE L2.PT L2.PW L2.PA L2.PS L2.xY L2.PC L2.PG L2.Rq L2.PI L2.vg L2.PO
def eZ(Cm : Addr)(q0 : Str)(q1 : Bool) : Option Unit := if q1=true then((cB Cm q0).bind λ_ => some Yu.mk).bind λ_ => some () else(cB Cm q0).bind λ_ => some ()
theorem Mi(F : gn K "_law_asked" "_law_asked" uy f fd)(mS : mg "Sayer" = some (.ref C))(MK : Mk K C fS)(GS : bY P w K mg base jE k fS fdS ["self", "text"] (OD C Cm))(bS : Binds K fdS ["self", "text"] [])(dg : mJ P w K mg base (k+1) "read_machine" ["text"] (j5 K Cm)) : bY P w K mg base jE ((k+1)+1) f fd ["_law_text", "_law_whole"] (nD K false (λa : Str×Bool×Unit => ([.z a.1, .z a.2.1] : List (Slot K))) λa => eZ Cm a.1 a.2.1) := by
  refine uq F qN (λ_ => rfl) (λ_ => rfl) λcdv A outer s H E hr => ?_
  have nd := qN.nd
  refine⟨_, ak (dh (kW (pv 1)) (ak (cP (Ae MK GS hr rfl mS bS .nil Nq (aj (pv 0) aA))) aD) (ak (cP (cj dg hr (aj (pv 0) aA))) aD)) aD, ?_⟩
  rintro Fa ⟨q0, q1, ⟨⟩⟩
  exact⟨λ_ : Unit => ([.un, .un] : List (Slot K)), Sn.of (bB (iW (rJ (md := .hp) (aq 1 rfl)) (bB (mX (Q5 (aq 0 rfl))) (λ_ => bQ (λ_ : Unit => ([.un, .un] : List (Slot K))) () eV)) (bB (mX (md := .hp) (bA (aG (esc (aq 0 rfl)) aV))) (λ_ => bQ (λ_ : Unit => ([.un, .un] : List (Slot K))) () eV))) (λ_ => bQ (λ_ : Unit => ([.un, .un] : List (Slot K))) () eV)) (by unfold eZ;cases q1<;>simp only[bnd]<;>cases cB Cm q0<;>rfl)⟩
end
end Ts
namespace L2
open PySem
theorem Mj : bootBuiltins "sum" = some (.builtin "sum") := by decide +kernel
end L2
namespace Ts
open PySem L2
section
variable{K : afh}{B : Bs}{sl : List (Slot K)}{md : Md}{α β : Type}[Rp K α][Rp K β]{te t1 t2 : TE}
theorem Ml{m : Option (List Int)}(h : Ex B sl .hp te m) : Ex B sl md (Ng (adl K) (cD te fu)) (m.bind λns => some ns.sum) := λc hc F O H σ Q s k => by
  cases m with
  |none => cases hc
  |some ns =>
    cases(show some ns.sum=some c from hc)
    refine h ns rfl F O H σ _ s λv F' H' g r => ?_
    obtain⟨p, vs, rfl, z1, z2⟩ := r
    have ev : vs=ns.map V.int := A2.KJ z2
    subst ev
    exact⟨p, ns, rfl, gj.of z1, k _ F' H' g rfl⟩
end
end Ts
set_option maxHeartbeats 40000000
namespace Ts
open PySem L2
section
variable{P : Program}{w : World}{K : afh}{mg : Str→Option Value}{base : Heap}
seal L2.PE L2.PT L2.PW L2.PA L2.PS L2.xY L2.PC L2.PG L2.Rq L2.PI L2.vg L2.PO
def OJ(C : Addr)(cx : Fin 4→Addr)(q0 : Scr) : Option Bool := (pZ (iz q0.ns (some (3 : Int)) none)).bind λgA => (tD gA).bind λeY => (some (gA.a.length : Int)).bind λzJ => (dW ((iz q0.ns none (some (1 : Int))).sum) (11 : Int)).bind λMp => (oG eY zJ Mp ((iz q0.ns (some (1 : Int)) (some (2 : Int))).sum) ((iz q0.ns (some (2 : Int)) (some (3 : Int))).sum)).bind λv5 => (joinM "\n" eY).bind λO4 => ((((cB C O4).bind λz7 => dR z7).bind λa8 => some (!decide (a8=zJ))).bind λc12 => if c12=true then some true else(((joinM "\n" v5.2).bind λa10 => some ((a10, (false, ())))).bind λz9 => kh cx (eZ C) z9.1 z9.2.1).bind λa11 => some (!decide (a11=v5.1))).bind λb => if b=true then some false else((((joinM "\n" v5.2).bind λa14 => some ((a14, (true, ())))).bind λz13 => kh cx (eZ C) z13.1 z13.2.1).bind λa15 => some (decide (a15=v5.1))).bind λc18 => if c18=true then((cB C O4).bind λz16 => dR z16).bind λa17 => some (decide (a17=zJ)) else some false
theorem Vw : bf ["_law_script", "_law_parts_here", "_law_rows_here", "_law_many", "_law_way", "_law_due", "_law_made", "_law_good"] ["_law_script"] (aH Fj) := fsc
abbrev adz(K : afh)(C : Addr)(cx : Fin 4→Addr) : Sp := nD K false (λa : Scr×Unit => ([.z a.1] : List (Slot K))) (λa => OJ C cx a.1)
theorem abo(F : gn K "law" "law" Fj f fd)(B : Bl K mg)(Vx : mg "sum" = none)(tX : Dq P w K mg base k C "many" ["self"] (sI K C))(O6 : mJ P w K mg base k "_law_got" ["_law_text", "_law_whole"] (JX K cx (eZ C)))(Q6 : mJ P w K mg base k "_law_parts" ["_law_script"] (Fv K))(Vy : mJ P w K mg base k "_law_rows" ["_law_parts_here"] (JL K))(Mq : mJ P w K mg base k "_law_spoilt" ["_law_rows_here", "_law_many", "_law_way", "_law_place", "_law_cell_here"] (CW K))(dg : mJ P w K mg base k "read_machine" ["text"] (j5 K C)) : bY P w K mg base jE (k+1) f fd ["_law_script"] (adz K C cx) := by
  refine dX F Vw (λ_ => rfl) (λ_ => rfl) λcdv A outer s H E hr => ?_
  have nd := Vw.nd
  refine⟨_, (ak (cg 1 nd (cj Q6 hr (aj (dY (wY K) (pv 0) (eO aL) gQ) aA))) (ak (cg 2 nd (cj Vy hr (aj (pv 1) aA))) (ak (cg 3 nd (aO (dF K) rfl B.len afp (aj (eG (ac8 K) (pv 1) aL (λ_ _ => rfl)) aA))) (ak (cg 4 nd (aX cJ (aO (yE K rfl) rfl Vx Mj (aj (dY (wY K) (pv 0) gQ (eO aL)) aA)) aL)) (ak (qp (cj Mq hr (aj (pv 2) (aj (pv 3) (aj (pv 4) (aj (aO (yE K rfl) rfl Vx Mj (aj (dY (wY K) (pv 0) (eO aL) (eO aL)) aA)) (aj (aO (yE K rfl) rfl Vx Mj (aj (dY (wY K) (pv 0) (eO aL) (eO aL)) aA)) aA)))))) (nH rfl (cG (jF 5 nd) (cG (jF 6 nd) iu)))) (ak (cg 7 nd (d9 K afr af8 af9 (m6 K) aM (aj (pv 2) aA))) (ak (dh (PW.pt (pw_or (aZ (qx K Int hr) (N7 tX hr (cj dg hr (aj (pv 7) aA))) (pv 3) (bG _)) (pw_or1 (aZ (qx K Str hr) (cj O6 hr (aj (d9 K afr af8 af9 (m6 K) aM (aj (pv 6) aA)) (aj pH aA))) (pv 5) (bG _))))) (ak (bJ pH) aD) aD) (ak (bJ (uV (wI (cR K Str hr) (cj O6 hr (aj (d9 K afr af8 af9 (m6 K) aM (aj (pv 6) aA)) (aj pH aA))) (pv 5) (bG _)) (A_ (wI (cR K Int hr) (N7 tX hr (cj dg hr (aj (pv 7) aA))) (pv 3) (bG _))))) aD)))))))), ?_⟩
  rintro Fa ⟨q0, ⟨⟩⟩
  exact SB.of (aN (bR true 1 rfl rfl (bA (aG (Qu (aF 0 rfl) (aK 3)).ex aV))) (λgA => (EY [.z q0, .y gA, .un, .un, .un, .un, .un, .un] (aN (bR true 2 rfl rfl (bA (aG (aF 1 rfl) aV))) (λeY => (EY [.z q0, .y gA, .y eY, .un, .un, .un, .un, .un] (aN (bR true 3 rfl rfl (esc (dH (Og (aF 1 rfl) (aK 0))))) (λzJ => (EY [.z q0, .y gA, .y eY, .y zJ, .un, .un, .un, .un] (aN (bR true 4 rfl rfl (esc (cU (Ml (Ur (aF 0 rfl) (aK 1)).ex) (aK 11)))) (λMp => (EY [.z q0, .y gA, .y eY, .y zJ, .y Mp, .un, .un, .un] (aN (X4 (n := true) (bA (aG (aF 2 rfl) (aG (esc (aq 3 rfl)) (aG (esc (aq 4 rfl)) (aG (esc (Ml (Fe (aF 0 rfl) (aK 1) (aK 2)).ex)) (aG (esc (Ml (Fe (aF 0 rfl) (aK 2) (aK 3)).ex)) aV)))))) (nU 5 6 rfl rfl (λ_ => rfl) rfl)) (λv5 => (EY [.z q0, .y gA, .y eY, .y zJ, .y Mp, .y v5.1, .y v5.2, .un] (aN (bR true 7 rfl rfl (esc (m7 "\n" (aF 2 rfl)))) (λO4 => (EY [.z q0, .y gA, .y eY, .y zJ, .y Mp, .y v5.1, .y v5.2, .y O4] (nQ (Nx (bw (md := .hp) (qy (N6 (by decide +kernel) (bA (aG (esc (aq 7 rfl)) aV)) aV) (aq 3 rfl))) (bw (md := .hp) (qy (bA (aG (esc (m7 "\n" (aF 6 rfl))) (aG (esc (wO false)) aV))) (aq 5 rfl)))) (cL (esc (wO false))) (cL (esc (vq (cT (bA (aG (esc (m7 "\n" (aF 6 rfl))) (aG (esc (wO true)) aV))) (aq 5 rfl)) (cT (N6 (by decide +kernel) (bA (aG (esc (aq 7 rfl)) aV)) aV) (aq 3 rfl)))))))))))))))))))))))) (by unfold OJ;simp only[bnd])
end
structure Gr{C : Addr}(m : qC C)(n : Int) : Prop where
  len : (m.steps.length : Int)=n
  pos : 1≤n
  few : n≤60
  row : ∀xs∈m.steps, xs≠[]∧xs.Nodup∧∀z∈xs, 0≤z∧z<n
  src : m.sources=srcs m.steps
theorem Yv{C : Addr}{m : qC C}(g : Gr m n) : dR m=some n := by
  unfold dR
  rw[g.len]
theorem Yw : W (dput kvs k v) Q↔kvs.length<cap∧Q (pK kvs (agm k) v) := by
  unfold dput
  rw[Eu]
  constructor
  · intro⟨h1, h2⟩
    by_cases h : kvs.length<cap
    · exact⟨h, aB.mp (h1 h)⟩
    · exact absurd (h2 h) (by rw[qG];exact id)
  · intro⟨h, q⟩
    exact⟨λ_ => aB.mpr q, λz => absurd h z⟩
theorem Vz : W (wW kvs k v) Q↔kvs.length<cap∧Q (pK kvs (agn k) v) := by
  unfold wW
  rw[Eu]
  constructor
  · intro⟨h1, h2⟩
    by_cases h : kvs.length<cap
    · exact⟨h, aB.mp (h1 h)⟩
    · exact absurd (h2 h) (by rw[qG];exact id)
  · intro⟨h, q⟩
    exact⟨λ_ => aB.mpr q, λz => absurd h z⟩
def gD(n : Int)(xs : List Int) : Prop := xs.Nodup∧xs.length≤100∧∀z∈xs, 0≤z∧z<n
theorem Q7(h : 0≤z∧z<n) : ou z n=some true := by
  unfold ou
  rw[if_pos rfl, if_pos (show(!false)=true from rfl), decide_eq_true h.1, if_pos rfl, decide_eq_true h.2]
theorem tY(h : gD n xs)(x : Str) : W (eH xs n x) λ_ => True := by
  unfold eH
  rw[au, aB, au, au, aB]
  refine n6 (λi s => s.length≤i∧∀z, (vC s z).isSome=true→z∈xs.take i) ⟨afz _, λz hz => by cases hz⟩ (λi y s hi hI => ?_) λs _ => aB.mpr trivial
  have il := bK hi
  rw[Q7 (h.2.2 y (mem_of_getElem? hi)), au, au, au, aB, aB, Bool.not_true, if_neg (by decide), aB, au]
  have hn : (vC s y).isSome=false := by
    cases q : (vC s y).isSome with
    |false => rfl
    |true => exact absurd (hI.2 y q) (Bp h.1 hi)
  have hn' : (vC (Dc.mk s).kv y).isSome=false := hn
  rw[hn', if_neg (by decide), aB, au, Yw]
  have l1 := h.2.1
  refine⟨bZ (by omega), ?_⟩
  rw[aB]
  have l2 := G3 s (agm y) true
  refine⟨by omega, λz hz => ?_⟩
  rw[lG hi]
  have e : vC (pK s (agm y) true) z=if(agm z : Key)=agm y then some true else vC s z := GZ s (agm y) (agm z) true
  rw[e] at hz
  by_cases q : (agm z : Key)=agm y
  · exact .inr (Sum.inl.inj q)
  · rw[if_neg q] at hz
    exact .inl (hI.2 z hz)
theorem ZX(a : Str){i : Nat}(h : i<1000) : W (Rw a (i : Int)) λ_ => True := by
  unfold Rw
  rw[if_pos (lA (by omega)), aB]
  trivial
theorem Mr{xss : List (List Int)}(hl : (xss.length : Int)=n)(h0 : 1≤n)(h1 : n≤60)(h : ∀xs∈xss, xs≠[]∧gD n xs) : W (jc xss) λ_ => True := by
  unfold jc
  rw[au, aB, au, au, hl, decide_eq_false (by omega), if_neg (by decide), aB, decide_eq_false (by omega), if_neg (by decide), aB, au, au, aB]
  refine n6 (λ_ _ => True) trivial (λi y s hi _ => ?_) λs _ => aB.mpr trivial
  obtain⟨e1, e2⟩ := jP hi
  have il := bK e2
  obtain⟨ne, ok⟩ := h y.2 (mem_of_getElem? e2)
  rw[e1]
  simp only[au]
  refine(ZX "steps of stand " (i := i) (by omega)).imp λt _ => ?_
  rw[aB, aB, aB]
  refine(tY ok t).imp λ_ _ => ?_
  rw[decide_eq_false (λz => ne (List.length_eq_zero_iff.mp (by omega))), if_neg (by decide), aB, aB]
  trivial
theorem Q8{xss : List (List Int)}(hl : xss.length≤100)(h : ∀xs∈xss, gD n xs) : W (jW xss n) λ_ => True := by
  unfold jW
  rw[au, au, aB]
  refine n6 (λ_ _ => True) trivial (λi y s hi _ => ?_) λs _ => aB.mpr trivial
  obtain⟨e1, e2⟩ := jP hi
  have il := bK e2
  rw[e1]
  simp only[au]
  refine(ZX "fair set " (i := i) (by omega)).imp λt _ => ?_
  rw[aB, aB, aB]
  refine(tY (h y.2 (mem_of_getElem? e2)) t).imp λ_ _ => ?_
  rw[aB]
  trivial
def qO(n : Int)(ms : List (Str×List Int)) : Prop := (ms.map (·.1)).Nodup∧ms.length≤100∧∀m∈ms, eF m.1=some true∧m.1.length≤1000∧gD n m.2
theorem Ms(h : qO n ms) : W (jd ms n) λ_ => True := by
  unfold jd
  rw[au, aB, au, au, aB]
  refine n6 (λi s => s.length≤i∧∀z, (oV s z).isSome=true→z∈(ms.map (·.1)).take i) ⟨afz _, λz hz => by cases hz⟩ (λi y s hi hI => ?_) λs _ => aB.mpr trivial
  have il := bK hi
  have hi' : (ms.map (·.1))[i]?=some y.1 := by rw[getElem?_map, hi];rfl
  obtain⟨nm, ln, ok⟩ := h.2.2 y (mem_of_getElem? hi)
  have nin : y.1∉(ms.map (·.1)).take i := λhz => by
    obtain⟨j, hj⟩ := mem_iff_getElem?.mp hz
    have hji : j<i := by
      have := bK hj
      rw[length_take] at this
      omega
    rw[getElem?_take_of_lt hji] at hj
    have a1 := bK hi'
    have a2 := bK hj
    rw[afi a1] at hi'
    rw[afi a2] at hj
    have e : (ms.map (·.1))[j]=(ms.map (·.1))[i] := (afm hj).trans (afm hi').symm
    have := (getElem_inj h.1).mp e
    omega
  rw[nm, au, au, au, aB, aB, Bool.not_true, if_neg (by decide), aB, au]
  have hn : (oV (Dc.mk s).kv y.1).isSome=false := by
    cases q : (oV s y.1).isSome with
    |false => rfl
    |true => exact absurd (hI.2 y.1 q) nin
  rw[hn, if_neg (by decide), aB, au, Vz]
  have l1 := h.2.1
  refine⟨bZ (by omega), ?_⟩
  simp only[au]
  have fs : W (XS "mark " y.1) λ_ => True := by
    unfold XS
    rw[if_pos ln, aB]
    trivial
  refine fs.imp λt _ => ?_
  rw[aB, aB, aB]
  refine(tY ok t).imp λ_ _ => ?_
  rw[aB]
  have l2 := G3 s (agn y.1) true
  refine⟨by omega, λz hz => ?_⟩
  rw[lG hi']
  have e : oV (pK s (agn y.1) true) z=if(agn z : Key)=agn y.1 then some true else oV s z := GZ s (agn y.1) (agn z) true
  rw[e] at hz
  by_cases q : (agn z : Key)=agn y.1
  · exact .inr (Sum.inr.inj q)
  · rw[if_neg q] at hz
    exact .inl (hI.2 z hz)
theorem JZ{xss : List (List Int)}(h : xss.length≤100) : pY xss=some xss := by
  have q : W (pY xss) (· = xss) := by
    unfold pY
    rw[au, aB, T9 (λx => x), map_id']
    exact⟨bZ (by omega), rfl⟩
  obtain⟨a, e, rfl⟩ := q
  exact e
theorem ad0(C : Addr){xss : List (List Int)}{mo : Option W5}{fo : Option LLI}(hl : (xss.length : Int)=n)(h0 : 1≤n)(h1 : n≤60)(h : ∀xs∈xss, xs≠[]∧gD n xs)(hm : qO n (mo.getD []))(hf : (fo.getD []).length≤100∧∀xs∈fo.getD [], gD n xs) :
    W (mkK C xss mo fo) λm => Gr m n∧m.steps=xss∧m.marks=mo.getD []∧m.fair=fo.getD [] := by
  unfold mkK mkG
  rw[au]
  refine(Mr hl h0 h1 h).imp λ_ _ => ?_
  rw[au, hl]
  refine(Ms hm).imp λ_ _ => ?_
  rw[au]
  refine(Q8 hf.1 hf.2).imp λ_ _ => ?_
  have m1 := hm.2.1
  rw[JZ (by omega), au, aB, au, T9 (λx : Str×List Int => (x.1, x.2))]
  refine⟨bZ (by omega), ?_⟩
  have e : (mo.getD []).map (λx : Str×List Int => (x.1, x.2))=mo.getD [] := map_id' _
  rw[JZ hf.1, au, aB, au]
  have hv : fSo xss=some (srcs xss) := by
    unfold fSo
    rw[if_pos ⟨by omega, rfl, λxs hx => by obtain⟨a, b, c, d⟩ := h xs hx;exact⟨a, b, c, λz hz => by have := d z hz;omega⟩⟩]
  rw[hv, aB, aB, e]
  exact⟨⟨hl, h0, h1, λxs hx => by obtain⟨a, b, c, d⟩ := h xs hx;exact⟨a, b, d⟩, rfl⟩, rfl, rfl, rfl⟩
theorem J0{α : Type}{m : Option α}{a : α}(h : W m (· = a)) : m=some a := by obtain⟨b, e, rfl⟩ := h;exact e
def resv : List Str := ["all", "not", "both", "either", "somenext", "eachnext", "sometill", "eachtill", "someever", "eachever"]
theorem ad1 : ∀w∈resv, w = "all" ∨ (w.cps[0]?≠w.cps[1]?∧w.cps[0]?≠w.cps[2]?∧w.cps[1]?≠w.cps[2]?∧3≤w.cps.size) := by decide +kernel
theorem Yx : ∀i, i<26→(("abcdefghijklmnopqrstuvwxyz" : Str).cps)[i]?=some (97+i) := by decide +kernel
theorem Yy : ∀i, i<26→XR ⟨#[97+i]⟩ ("abcdefghijklmnopqrstuvwxyz" : Str)=true := by decide +kernel
theorem VB : ("abcdefghijklmnopqrstuvwxyz" : Str).length=26 := by decide +kernel
theorem J2(x : Int) : W6 ("abcdefghijklmnopqrstuvwxyz" : Str) (x%26)=some ⟨#[97+(x%26).toNat]⟩ := by
  have h0 : 0≤x%26∧x%26<26 := by omega
  unfold W6
  rw[if_pos ⟨h0.1, by omega, by rw[VB];exact h0.2⟩, Yx _ (by omega)]
  rfl
theorem Am(a b : Str) : (a++b).cps=a.cps++b.cps := by
  first
    |rfl
    | (show(Str.append a b).cps=_;unfold Str.append;rfl)
def mz(l : List Nat) : Str := ⟨l.toArray⟩
theorem Dd{x : Str}(h : x.cps.toList=l) : x=mz l := by
  obtain⟨c⟩ := x
  have h : c.toList=l := h
  unfold mz
  rw[← h]
theorem Yz(a b : List Nat) : mz a++mz b=mz (a++b) := Dd (by rw[Am];unfold mz;simp)
theorem o9(l : List Nat) : (mz l).length=l.length := by
  show l.toArray.size=_
  rw[size_toArray]
theorem YB(h : mz a=mz b) : a=b := by
  have h : a.toArray=b.toArray := congrArg Str.cps h
  have := congrArg Array.toList h
  simpa using this
theorem VD(b : Nat) : ∀n, (agb "" (replicate n (mz [b]))).cps.toList=replicate n b
  |0 => by
    show(agb "" []).cps.toList=[]
    decide +kernel
  |1 => rfl
  |n+2 => by
    have ih := VD b (n+1)
    show((mz [b] ++ "")++agb "" (replicate (n+1) (mz [b]))).cps.toList=_
    rw[Am, Am, toList_append, toList_append, ih]
    have e : ("" : Str).cps.toList=[] := by decide +kernel
    rw[e]
    rfl
theorem aez(b n : Nat)(h : n≤8) : joinM "" (replicate n (mz [b]))=some (mz (replicate n b)) := by
  unfold joinM
  rw[if_pos]
  · rw[show ajn "" (replicate n (mz [b]))=agb "" (replicate n (mz [b])) from StrLaws.glued_eq_join _ _, Dd (VD b n)]
  · refine Oe (n := 1) (λy hy => by rw[eq_of_mem_replicate hy];exact afj 1) ?_
    have h4 : ("" : Str).length=0 := by decide +kernel
    rw[length_replicate, h4]
    omega
theorem Z0(h0 : 0≤n)(h8 : n≤8)(b : Nat) : W (((gO n).bind λxs => bL (λ(_ : Int) => some true) (λ(_ : Int) => some (mz [b])) xs).bind λa => joinM "" a) λx => x=mz (replicate n.toNat b) := by
  rw[au, au, mZ]
  refine⟨⟨by omega, by omega⟩, ?_⟩
  have rl := oU h0
  rw[T9 (λ_ => mz [b])]
  refine⟨bZ (by omega), ?_⟩
  have e : (rng n).map (λ_ => mz [b])=replicate n.toNat (mz [b]) := by
    rw[List.map_const']
    congr 1
    omega
  rw[e, aez b _ (by omega), aB]
def lw(s r b c : Nat) : List Nat := replicate s b++(c::replicate r b)
theorem zK : (lw s r b c)[j]?=if j=s then some c else if j<s+r+1 then some b else none := by
  unfold lw
  by_cases h : j<s
  · rw[getElem?_append_left (by rw[length_replicate];exact h), getElem?_replicate, if_pos h, if_neg (by omega), if_pos (by omega)]
  · rw[getElem?_append_right (by rw[length_replicate];omega), length_replicate]
    by_cases e : j=s
    · subst e
      rw[if_pos rfl, Nat.sub_self]
      rfl
    · rw[if_neg e, show j-s=(j-s-1)+1 by omega, List.getElem?_cons_succ, getElem?_replicate]
      by_cases h2 : j<s+r+1
      · rw[if_pos (by omega), if_pos h2]
      · rw[if_neg (by omega), if_neg h2]
theorem VF : (lw s r b c).length=s+r+1 := by
  unfold lw
  rw[length_append, length_cons, length_replicate, length_replicate]
  omega
theorem YC(h : mz (lw s r b c)∈resv) : mz (lw s r b c) = "all" := by
  rcases ad1 _ h with e|⟨h1, h2, h3, h4⟩
  · exact e
  · exfalso
    have at' : ∀j : Nat, (mz (lw s r b c)).cps[j]?=(lw s r b c)[j]? := λj => by
      show(lw s r b c).toArray[j]?=_
      rw[List.getElem?_toArray]
    have hl : 3≤s+r+1 := by
      have : (mz (lw s r b c)).cps.size=s+r+1 := by
        show(lw s r b c).toArray.size=_
        rw[size_toArray, VF]
      omega
    rw[at', at', zK, zK] at h1
    rw[at', at', zK, zK] at h2
    rw[at', at', zK, zK] at h3
    by_cases s0 : s=0
    · subst s0
      simp[show 1<r+1 by omega, show 2<r+1 by omega] at h3
    · by_cases s1 : s=1
      · subst s1
        simp[show 2<1+r+1 by omega] at h2
      · rw[if_neg (by omega), if_pos (by omega), if_neg (by omega), if_pos (by omega)] at h1
        exact h1 rfl
theorem yS{α β : Type}{c : α→Option Bool}{f : α→Option β}{g : α→β} : ∀{xs : List α}, (∀x∈xs, c x=some true)→(∀x∈xs, f x=some (g x))→dz c f xs=some (xs.map g)
  |[], _, _ => rfl
  |x::xs, hc, hf => by
    have ih := yS (λy hy => hc y (mem_cons_of_mem _ hy)) (λy hy => hf y (mem_cons_of_mem _ hy))
    show(c x).bind _=_
    rw[hc x mem_cons_self]
    show(f x).bind _=_
    rw[hf x mem_cons_self]
    show(dz c f xs).bind _=_
    rw[ih]
    rfl
theorem Q9{l : List Nat}(h1 : 1≤l.length)(h8 : l.length≤8)(hl : ∀x∈l, ∃i, i<26∧x=97+i)(hr : mz l∉resv) : eF (mz l)=some true := by
  have ln := o9 l
  unfold resv at hr
  apply J0
  unfold eF
  rw[au, if_neg (by decide), aB, if_neg (λz => hr (of_decide_eq_true z)), au, au]
  unfold zQ
  rw[if_pos (bZ (by omega)), aB, decide_eq_true (by omega), if_pos rfl, aB, decide_eq_true (by omega), if_pos rfl, au, au, aB]
  have ls : signs (mz l)=l.map λc => (⟨#[c]⟩ : Str) := by
    unfold signs mz
    rfl
  have e : bL (λ(_ : Str) => some true) (λ(x2 : Str) => some (XR x2 ("abcdefghijklmnopqrstuvwxyz" : Str))) (signs (mz l))=some ((signs (mz l)).map λ_ => true) := by
    unfold bL
    rw[if_pos (by rw[ls, length_map];exact bZ (by omega))]
    refine yS (λ_ _ => rfl) λx hx => ?_
    rw[ls] at hx
    obtain⟨y, hy, rfl⟩ := mem_map.mp hx
    obtain⟨i, hi, rfl⟩ := hl y hy
    rw[Yy i hi]
  rw[e, aB, aB, all_eq_true]
  intro x hx
  obtain⟨y, _, rfl⟩ := mem_map.mp hx
  rfl
theorem uT : (" " : Str)=⟨#[32]⟩ := by decide +kernel
theorem O7 : ("\n" : Str)=⟨#[10]⟩ := by decide +kernel
def fJ(x : Str) : List Nat := x.cps.toList
theorem Df(l : List Nat) : fJ (mz l)=l := by
  show l.toArray.toList=l
  simp
theorem iH(a b : Str) : fJ (a++b)=fJ a++fJ b := by
  unfold fJ
  rw[Am, toList_append]
theorem nq(h : fJ a=fJ b) : a=b := by
  rw[Dd (x := a) (l := fJ a) rfl, Dd (x := b) (l := fJ b) rfl, h]
theorem lQ(x : Str) : (fJ x).length=x.length := by
  show x.cps.toList.length=x.cps.size
  simp
theorem kj(c : Nat)(x y : Str)(r : List Str) : fJ (agb ⟨#[c]⟩ (x::y::r))=fJ x++c::fJ (agb ⟨#[c]⟩ (y::r)) := by
  show fJ (x++⟨#[c]⟩++agb ⟨#[c]⟩ (y::r))=_
  rw[iH, iH, append_assoc]
  rfl
theorem VG : ∀{a b x y : List Nat}, c∉a→c∉b→a++c::x=b++c::y→a=b∧x=y
  |[], [], x, y, _, _, h => ⟨rfl, (ahs h).2⟩
  |[], d::b, x, y, _, hb, h => absurd (by rw[show c=d from(ahs h).1];exact mem_cons_self) hb
  |d::a, [], x, y, ha, _, h => absurd (by rw[show d=c from(ahs h).1];exact mem_cons_self) ha
  |d::a, e::b, x, y, ha, hb, h => by
    obtain⟨h1, h2⟩ := ahs h
    obtain⟨e1, e2⟩ := VG (λq => ha (mem_cons_of_mem _ q)) (λq => hb (mem_cons_of_mem _ q)) h2
    exact⟨by rw[h1, e1], e2⟩
theorem J3 : ∀{ws vs : List Str}, ws≠[]→vs≠[]→(∀w∈ws, c∉fJ w)→(∀w∈vs, c∉fJ w)→fJ (agb ⟨#[c]⟩ ws)=fJ (agb ⟨#[c]⟩ vs)→ws=vs
  |[], _, h, _, _, _, _ => absurd rfl h
  |_::_, [], _, h, _, _, _ => absurd rfl h
  |[x], [y], _, _, _, _, h => by rw[nq (a := x) (b := y) h]
  |[x], y::z::r, _, _, h1, _, h => by
    rw[kj] at h
    have h : fJ x=fJ y++c::fJ (agb ⟨#[c]⟩ (z::r)) := h
    exact absurd (by rw[h];simp) (h1 x mem_cons_self)
  |x::x'::r, [y], _, _, _, h2, h => by
    rw[kj] at h
    have h : fJ x++c::fJ (agb ⟨#[c]⟩ (x'::r))=fJ y := h
    exact absurd (by rw[← h];simp) (h2 y mem_cons_self)
  |x::x'::r, y::y'::q, _, _, h1, h2, h => by
    rw[kj, kj] at h
    obtain⟨e1, e2⟩ := VG (h1 x mem_cons_self) (h2 y mem_cons_self) h
    have e3 := J3 (ws := x'::r) (vs := y'::q) (by simp) (by simp) (λw hw => h1 w (mem_cons_of_mem _ hw)) (λw hw => h2 w (mem_cons_of_mem _ hw)) e2
    rw[nq e1, e3]
theorem xQ(x y : Str) : ag1 x y≠[] := by
  unfold ag1
  split
  · simp
  · split
    · simp
    · intro e
      have := congrArg length e
      rw[aii] at this
      simp at this
theorem oK(ne : ws≠[])(h : ∀w∈ws, c∉fJ w) : ag1 (agb ⟨#[c]⟩ ws) ⟨#[c]⟩=ws :=
  (J3 ne (xQ _ _) h (air _ c) (by rw[aiq])).symm
theorem mem_join : ∀{ws : List Str}, d∈fJ (agb ⟨#[c]⟩ ws)→d=c∨∃w∈ws, d∈fJ w
  |[], h => by
    have e : fJ (agb ⟨#[c]⟩ [])=[] := rfl
    rw[e] at h
    cases h
  |[x], h => .inr ⟨x, mem_cons_self, h⟩
  |x::y::r, h => by
    rw[kj] at h
    rcases mem_append.mp h with h|h
    · exact .inr ⟨x, mem_cons_self, h⟩
    · rcases mem_cons.mp h with h|h
      · exact .inl h
      · rcases mem_join h with e|⟨w, hw, e⟩
        · exact .inl e
        · exact .inr ⟨w, mem_cons_of_mem _ hw, e⟩
theorem VH : ∀{ws : List Str}, (∀w∈ws, w.length≤n)→(ws.map (·.length)).sum≤ws.length*n
  |[], _ => afz _
  |x::r, h => by
    have h1 := h x mem_cons_self
    have h2 := VH (ws := r) λw hw => h w (mem_cons_of_mem _ hw)
    rw[map_cons, List.sum_cons, length_cons, Nat.succ_mul]
    omega
theorem Ao(c : Nat)(hw : ∀y∈ws, y.length≤n)(hl : ws.length*n+ws.length≤90000) : joinM ⟨#[c]⟩ ws=some (agb ⟨#[c]⟩ ws)∧(agb ⟨#[c]⟩ ws).length≤ws.length*n+ws.length := by
  have e1 : (⟨#[c]⟩ : Str).length=1 := rfl
  constructor
  · unfold joinM
    rw[if_pos (Oe hw (by rw[e1];omega)), show ajn ⟨#[c]⟩ ws=agb ⟨#[c]⟩ ws from StrLaws.glued_eq_join _ _]
  · have h1 := StrLaws.join_length_le ⟨#[c]⟩ ws
    have h2 := VH hw
    rw[e1] at h1
    omega
theorem J4{α β : Type}{c : α→Option Bool}{f : α→Option β} : ∀{xs : List α}{ys : List β}, xs.length=ys.length→(∀x∈xs, c x=some true)→(∀(i : Nat) x y, xs[i]?=some x→ys[i]?=some y→f x=some y)→dz c f xs=some ys
  |[], [], _, _, _ => rfl
  |x::xs, y::ys, hl, hc, h => by
    have ih := J4 (xs := xs) (ys := ys) (by simpa using hl) (λz hz => hc z (mem_cons_of_mem _ hz)) λi a b ha hb => h (i+1) a b (by simpa using ha) (by simpa using hb)
    show(c x).bind _=_
    rw[hc x mem_cons_self]
    show(f x).bind _=_
    rw[h 0 x y rfl rfl]
    show(dz c f xs).bind _=_
    rw[ih]
    rfl
  |[], _::_, hl, _, _ => by cases hl
  |_::_, [], hl, _, _ => by cases hl
theorem tZ{α β : Type}{f : α→Option β}{xs : List α}{ys : List β}(hcap : xs.length≤1000)(hl : xs.length=ys.length)(h : ∀(i : Nat) x y, xs[i]?=some x→ys[i]?=some y→f x=some y) : bL (λ_ => some true) f xs=some ys := by
  unfold bL
  rw[if_pos (bZ hcap)]
  exact J4 hl (λ_ _ => rfl) h
theorem uz{α β : Type}{f : α→Option β}{g : α→β}{xs : List α}(hcap : xs.length≤1000)(h : ∀x∈xs, f x=some (g x)) : bL (λ_ => some true) f xs=some (xs.map g) := by
  unfold bL
  rw[if_pos (bZ hcap)]
  exact yS (λ_ _ => rfl) h
theorem nA{α : Type}(y : α)(r : List α) : iz (y::r) (some (1 : Int)) none=r := by
  unfold iz
  have e1 : HT.Dn (y::r).length 0 (some 1)=1 := by
    show(if(1 : Int)<0 then((1 : Int)+((r.length+1 : Nat) : Int)).toNat else min (1 : Int).toNat (r.length+1))=1
    rw[if_neg (by decide)]
    show min 1 (r.length+1)=1
    omega
  rw[e1]
  show r.take ((r.length+1)-1)=r
  rw[Nat.add_sub_cancel]
  exact take_length
theorem Ia{α : Type}(y : α)(r : List α) : iz (y::r) none (some (1 : Int))=[y] := by
  unfold iz
  have e1 : HT.Dn (y::r).length (y::r).length (some 1)=1 := by
    show(if(1 : Int)<0 then((1 : Int)+((r.length+1 : Nat) : Int)).toNat else min (1 : Int).toNat (r.length+1))=1
    rw[if_neg (by decide)]
    show min 1 (r.length+1)=1
    omega
  rw[e1]
  rfl
theorem iI{α : Type}{xs : List α}{i : Nat}{x : α}(h : xs[i]?=some x) : (bT xs)[i]?=some ((i : Int), x) := by
  unfold bT
  rw[List.getElem?_zip_eq_some]
  have := bK h
  refine⟨?_, h⟩
  rw[getElem?_map, List.getElem?_range this]
  rfl
def so(i : Int) : Str := agr (toString i)
theorem VJ(k : Nat) : so (k : Int)=mz ((aij 10 k).map ai4) := Dd (PySem.W.KIN.signs_num k)
def ju(w : Str) : Prop := w.length≤8∧fJ w≠[]∧32∉fJ w∧10∉fJ w
instance(w : Str) : Decidable (ju w) := by unfold ju;infer_instance
theorem VL : ∀k, k<60→ju (mz ((aij 10 k).map ai4)) := by decide +kernel
theorem Ib(h0 : 0≤i)(h1 : i<60) : ju (so i) := by
  have e : i=((i.toNat : Nat) : Int) := by omega
  rw[e, VJ]
  exact VL _ (by omega)
theorem VN(h0 : 0≤i)(h1 : i<60) : vI i=some (so i) := by
  have e : i=((i.toNat : Nat) : Int) := by omega
  unfold vI
  rw[e, if_pos (lA (by omega))]
  rfl
theorem Mt{xs : List Int}(hl : xs.length≤1000)(h : ∀x∈xs, 0≤x∧x<60) : bL (λ(_ : Int) => some true) (λ(x : Int) => vI x) xs=some (xs.map so) := uz hl λx hx => VN (h x hx).1 (h x hx).2
def RowW(ws : List Str) : Prop := ws≠[]∧ws.length≤62∧∀w∈ws, ju w
def rt(ws : List Str) : Str := agb ⟨#[32]⟩ ws
theorem Q_(h : RowW ws) : joinM " " ws=some (rt ws)∧(rt ws).length≤558∧splitM (rt ws) " " = some ws∧10∉fJ (rt ws) := by
  obtain⟨h1, h2, h3⟩ := h
  obtain⟨a, b⟩ := Ao 32 (n := 8) (λy hy => (h3 y hy).1) (by omega)
  have hl : (rt ws).length≤558 := by
    have b : (rt ws).length≤_ := b
    omega
  refine⟨by rw[uT];exact a, hl, ?_, λq => ?_⟩
  · unfold splitM
    rw[if_pos (bZ (by omega)), uT]
    exact congrArg some (oK h1 λw hw => (h3 w hw).2.2.1)
  · rcases mem_join q with e|⟨w, hw, e⟩
    · omega
    · exact(h3 w hw).2.2.2 e
def tx(W : List (List Str)) : Str := agb ⟨#[10]⟩ (W.map rt)
theorem ad2{W : List (List Str)}(ne : W≠[])(hl : W.length≤100)(h : ∀ws∈W, RowW ws) : joinM "\n" (W.map rt)=some (tx W)∧splitM (tx W) "\n" = some (W.map rt) := by
  have h1 : ∀y∈W.map rt, y.length≤558∧10∉fJ y := λy hy => by
    obtain⟨ws, hw, rfl⟩ := mem_map.mp hy
    exact⟨(Q_ (h ws hw)).2.1, (Q_ (h ws hw)).2.2.2⟩
  obtain⟨a, b⟩ := Ao 10 (n := 558) (λy hy => (h1 y hy).1) (by rw[length_map];omega)
  rw[length_map] at b
  refine⟨by rw[O7];exact a, ?_⟩
  unfold splitM
  have b : (tx W).length≤_ := b
  rw[if_pos (aft (show(tx W).length+2≤90000 by omega) (by decide)), O7]
  exact congrArg some (oK (by simpa using ne) λw hw => (h1 w hw).2)
theorem VP : ∀k, k<60→d_ (mz ((aij 10 k).map ai4)) 2=some true := by decide +kernel
theorem Ie(h0 : 0≤i)(h1 : i<60) : je (so i) 2=some i := by
  apply J0
  unfold je
  have e : i=((i.toNat : Nat) : Int) := by omega
  have hn : d_ (so i) 2=some true := by
    rw[e, VJ]
    exact VP _ (by omega)
  have hl := (Ib h0 h1).1
  rw[hn, au, au, au, aB, aB, if_neg (by decide), aB]
  unfold Hf
  rw[if_pos (by omega)]
  exact⟨i, PySem.W.KIN.num_reads h0 (by omega), rfl⟩
theorem qP{xs : List Int}(hl : xs.length≤1000)(h : ∀x∈xs, 0≤x∧x<60) : eE (xs.map so)=some xs := by
  unfold eE
  show bL _ _ _=_
  refine tZ (by rw[length_map];exact hl) (length_map _) λi x y hx hy => ?_
  rw[getElem?_map, hy] at hx
  cases hx
  obtain⟨a, b⟩ := h y (mem_of_getElem? hy)
  exact Ie a b
theorem Mu{xs : List Int}(h0 : 0≤i)(h1 : i<60)(hl : xs.length≤900)(h : ∀x∈xs, 0≤x∧x<60) : jA i (so i::xs.map so)=some xs := by
  apply J0
  unfold jA
  have e := qP (xs := i::xs) (by rw[length_cons];omega) λx hx => by
    rcases mem_cons.mp hx with rfl|hx
    · exact⟨h0, h1⟩
    · exact h x hx
  rw[show so i::xs.map so=(i::xs).map so from rfl, e, au, aB, Ia, decide_eq_true rfl, au, if_neg (by decide), aB, aB, nA]
theorem Mv{xs : List Int}(hl : xs.length≤900)(h : ∀x∈xs, 0≤x∧x<60) : jB (x::xs.map so)=some (x, xs) := by
  apply J0
  unfold jB
  rw[au, decide_eq_false (by rw[length_cons];omega), if_neg (by decide), aB, au, uI (by decide)]
  refine⟨x, rfl, ?_⟩
  rw[au, nA, qP (by omega) h, aB, aB]
def fS(p : Int×List Int) : List Str := "from" :: so p.1::p.2.map so
def fM(p : Str×List Int) : List Str := "mark" :: p.1::p.2.map so
def fF(xs : List Int) : List Str := "fair" :: xs.map so
abbrev yU := Qt (List (List Int)) (List (Str×(List Int))) (List (List Int))
def wT(T : yU) : List (List Str) := (bT T.a).map fS++(T.b.map fM++T.c.map fF)
structure aQ(n : Int)(T : yU) : Prop where
  pos : 1≤n
  few : n≤60
  len : (T.a.length : Int)=n
  row : ∀xs∈T.a, xs≠[]∧gD n xs
  marks : qO n T.b
  names : T.b.length≤10∧∀m∈T.b, ju m.1∧∀c∈fJ m.1, c<1000
  fair : T.c.length≤10∧∀xs∈T.c, gD n xs
theorem xR(h : gD n xs)(h60 : n≤60) : xs.length≤60∧∀x∈xs, 0≤x∧x<60 := ⟨by
  by_cases hn : 0≤n
  · have := Bt (n := n.toNat) h.1 λx hx => by have := h.2.2 x hx;omega
    omega
  · cases xs with
    |nil => exact afz _
    |cons x xs => have := h.2.2 x mem_cons_self;omega, λx hx => by have := h.2.2 x hx;omega⟩
theorem VR : ju "from" := by decide +kernel
theorem V0 : ju "mark" := by decide +kernel
theorem V1 : ju "fair" := by decide +kernel
theorem Mw{xs : List Int}(h : ∀x∈xs, 0≤x∧x<60) : ∀w∈xs.map so, ju w := λw hw => by
  obtain⟨x, hx, rfl⟩ := mem_map.mp hw
  exact Ib (h x hx).1 (h x hx).2
section
variable{n : Int}{T : yU}{C : Addr}{m : qC C}
theorem aQ.atS(h : aQ n T){i : Nat}{p : Int×List Int}(hp : (bT T.a)[i]?=some p) : p.1=i∧0≤p.1∧p.1<60∧p.2.length≤60∧(∀x∈p.2, 0≤x∧x<60)∧RowW (fS p) := by
  obtain⟨e1, e2⟩ := jP hp
  have hl := bK e2
  have l := h.len
  have f := h.few
  obtain⟨Ab, r60⟩ := xR (h.row p.2 (mem_of_getElem? e2)).2 f
  refine⟨e1, by omega, by omega, Ab, r60, by simp[fS], by simp[fS];omega, λw hw => ?_⟩
  rcases mem_cons.mp hw with rfl|hw
  · exact VR
  · rcases mem_cons.mp hw with rfl|hw
    · exact Ib (by omega) (by omega)
    · exact Mw r60 w hw
theorem aQ.atM(h : aQ n T)(hp : p∈T.b) : p.2.length≤60∧(∀x∈p.2, 0≤x∧x<60)∧RowW (fM p) := by
  obtain⟨Ab, r60⟩ := xR (h.marks.2.2 p hp).2.2 h.few
  refine⟨Ab, r60, by simp[fM], by simp[fM];omega, λw hw => ?_⟩
  rcases mem_cons.mp hw with rfl|hw
  · exact V0
  · rcases mem_cons.mp hw with rfl|hw
    · exact(h.names.2 p hp).1
    · exact Mw r60 w hw
theorem aQ.atF(h : aQ n T)(hp : xs∈T.c) : xs.length≤60∧(∀x∈xs, 0≤x∧x<60)∧RowW (fF xs) := by
  obtain⟨Ab, r60⟩ := xR (h.fair.2 xs hp) h.few
  refine⟨Ab, r60, by simp[fF], by simp[fF];omega, λw hw => ?_⟩
  rcases mem_cons.mp hw with rfl|hw
  · exact V1
  · exact Mw r60 w hw
theorem qQ(h : aQ n T) : ∀ws∈wT T, RowW ws := λws hw => by
  rcases mem_append.mp hw with hw|hw
  · obtain⟨p, hp, rfl⟩ := mem_map.mp hw
    obtain⟨i, hi⟩ := mem_iff_getElem?.mp hp
    exact(h.atS hi).2.2.2.2.2
  · rcases mem_append.mp hw with hw|hw
    · obtain⟨p, hp, rfl⟩ := mem_map.mp hw
      exact(h.atM hp).2.2
    · obtain⟨p, hp, rfl⟩ := mem_map.mp hw
      exact(h.atF hp).2.2
theorem wk(h : aQ n T) : (wT T).length≤80∧wT T≠[] := by
  have l := h.len
  have f := h.few
  have p := h.pos
  have a := h.names.1
  have b := h.fair.1
  have e : (wT T).length=T.a.length+(T.b.length+T.c.length) := by
    unfold wT
    rw[length_append, length_append, length_map, length_map, length_map, cu]
  refine⟨by omega, λz => ?_⟩
  rw[z] at e
  simp at e
  omega
theorem take_snoc{α β : Type}{xs : List α}{x : α}(f : α→β)(h : xs[i]?=some x) : (xs.take (i+1)).map f=(xs.take i).map f++[f x] := by
  rw[take_add_one, h, map_append]
  rfl
theorem YD(h : aQ n T) : tD T=some ((wT T).map rt) := by
  have l := h.len
  have f := h.few
  have ln := wk h
  have el := cu T.a
  have lb := h.names.1
  have lc := h.fair.1
  apply J0
  unfold tD
  rw[au, aB, au, aB, au, au, mZ]
  refine⟨⟨by omega, by omega⟩, ?_⟩
  have rl := oU (n := (T.a.length : Int)) (by omega)
  refine n6 (λi z => z=((bT T.a).take i).map λp => rt (fS p)) rfl (λi x z hi hI => ?_) λz hI => ?_
  · obtain⟨rfl, hx⟩ := GQ hi
    have hil : i<T.a.length := by omega
    have ha := afi hil
    have he := iI ha
    obtain⟨_, _, _, Ab, r60, rw⟩ := h.atS he
    have ha' : L2.jL T.a (i : Int)=some T.a[i] := by rw[vA (by omega)];exact ha
    subst hI
    simp only[au]
    rw[VN (by omega) (by omega), aB, aB, aB, ha', aB, Mt (by omega) r60, aB]
    unfold pO
    have e2 : (["from", so (i : Int)] : List Str)++T.a[i].map so=fS ((i : Int), T.a[i]) := rfl
    rw[if_pos (af6 (bZ (by rw[length_map];show 2+_≤1000;omega))), aB]
    show W (joinM " " (fS ((i : Int), T.a[i]))) _
    rw[(Q_ rw).1, aB, yw]
    refine⟨bZ (by rw[length_map, length_take];omega), ?_⟩
    rw[aB, take_snoc _ he]
  rw[show(rng (T.a.length : Int)).length=(bT T.a).length by omega, take_length] at hI
  rw[au, au, aB]
  refine n6 (λi y => y=z++(T.b.take i).map λp => rt (fM p)) (by simp) (λi x y hi hJ => ?_) λy hJ => ?_
  · obtain⟨Ab, r60, rw⟩ := h.atM (mem_of_getElem? hi)
    have hil := bK hi
    subst hJ
    simp only[au]
    rw[aB, Mt (by omega) r60, aB]
    unfold pO
    rw[if_pos (af6 (bZ (by rw[length_map];show 2+_≤1000;omega))), aB]
    show W (joinM " " (fM x)) _
    rw[(Q_ rw).1, aB, yw]
    refine⟨bZ (by rw[hI, length_append, length_map, length_map, length_take];omega), ?_⟩
    rw[aB, take_snoc _ hi, append_assoc]
  rw[take_length] at hJ
  rw[au, au, aB]
  refine n6 (λi u => u=y++(T.c.take i).map λp => rt (fF p)) (by simp) (λi x u hi hK => ?_) λu hK => ?_
  · obtain⟨Ab, r60, rw⟩ := h.atF (mem_of_getElem? hi)
    have hil := bK hi
    subst hK
    simp only[au]
    rw[aB, Mt (by omega) r60, aB]
    unfold pO
    rw[if_pos (af6 (bZ (by rw[length_map];show 1+_≤1000;omega))), aB]
    show W (joinM " " (fF x)) _
    rw[(Q_ rw).1, aB, yw]
    refine⟨bZ (by rw[hJ, hI, length_append, length_append, length_map, length_map, length_map, length_take];omega), ?_⟩
    rw[aB, take_snoc _ hi, append_assoc]
  rw[take_length] at hK
  rw[aB, hK, hJ, hI]
  unfold wT
  rw[map_append, map_append, map_map, map_map, map_map, append_assoc]
  rfl
theorem Mz(h : aQ n T) : lY (tx (wT T))=some (wT T) := by
  have ln := wk h
  apply J0
  unfold lY
  rw[au, au, (ad2 ln.2 (by omega) (qQ h)).2, aB]
  have s1 : bL (λ(_ : Str) => some true) (λ(x2 : Str) => splitM x2 " ") ((wT T).map rt)=some (wT T) := tZ (by rw[length_map];omega) (length_map _) λi x y hx hy => by
    rw[getElem?_map, hy] at hx
    cases hx
    exact(Q_ (qQ h y (mem_of_getElem? hy))).2.2.1
  rw[s1, aB, au, au, aB]
  refine n6 (λ_ _ => True) trivial (λi x s hi _ => ?_) λs _ => aB.mpr rfl
  have hx : ("" : Str)∉x := λz => ((qQ h x (mem_of_getElem? hi)).2.2 _ z).2.1 (by decide +kernel)
  rw[au, decide_eq_false hx, if_neg (by decide), aB, aB]
  trivial
def hd0(ws : List Str) : Str := ws.headD ""
theorem Dg(h : ws≠[]) : L2.jL ws (0 : Int)=some (hd0 ws) := by
  cases ws with
  |nil => exact absurd rfl h
  |cons x r => rw[vA (by decide)];rfl
theorem Aq{α β : Type}{f : α→β}{b : β}(h : ∀x, f x=b) : ∀xs : List α, xs.map f=replicate xs.length b
  |[] => rfl
  |x::xs => by rw[map_cons, h, Aq h xs];rfl
theorem hds(T : yU) : (wT T).map hd0=replicate (bT T.a).length ("from" : Str)++(replicate T.b.length ("mark" : Str)++replicate T.c.length ("fair" : Str)) := by
  unfold wT
  rw[map_append, map_append, map_map, map_map, map_map, Aq (f := hd0∘fS) (b := ("from" : Str)) (λ_ => rfl), Aq (f := hd0∘fM) (b := ("mark" : Str)) (λ_ => rfl), Aq (f := hd0∘fF) (b := ("fair" : Str)) (λ_ => rfl)]
theorem V6 : ¬(("mark" : Str) = "from") := by decide +kernel
theorem V_ : ¬(("fair" : Str) = "from") := by decide +kernel
theorem abp : ¬(("from" : Str) = "mark") := by decide +kernel
theorem abq : ¬(("fair" : Str) = "mark") := by decide +kernel
theorem YF : ¬(("from" : Str) = "fair") := by decide +kernel
theorem YG : ¬(("mark" : Str) = "fair") := by decide +kernel
theorem MF{x : Str}{k : Nat} : (replicate k x).filter (λy => decide (y=x))=replicate k x := filter_eq_self.mpr λy hy => decide_eq_true (eq_of_mem_replicate hy)
theorem yV{x z : Str}{k : Nat}(h : ¬x=z) : (replicate k x).filter (λy => decide (y=z))=[] := List.filter_eq_nil_iff.mpr λy hy => by rw[eq_of_mem_replicate hy, decide_eq_false h];decide
theorem YH(h : aQ n T) : W (jf (wT T)) λ_ => True := by
  have ln := wk h
  have hr := qQ h
  unfold jf
  rw[au, au, aB]
  have s1 : bL (λ(_ : List Str) => some true) (λ(x2 : List Str) => L2.jL x2 (0 : Int)) (wT T)=some ((wT T).map hd0) := uz (by omega) λws hw => Dg (hr ws hw).1
  have hl : ((wT T).map hd0).length≤80 := by rw[length_map];exact ln.1
  rw[s1, aB, au, aB, au, au, aB]
  rw[hds T] at hl ⊢
  generalize(bT T.a).length=a at hl ⊢
  generalize T.b.length=b at hl ⊢
  generalize T.c.length=c at hl ⊢
  rw[length_append, length_append, length_replicate, length_replicate, length_replicate] at hl
  simp only[foldM]
  have cp : ∀(x6 : Str)(s r : List Str), (replicate a ("from" : Str)++(replicate b ("mark" : Str)++replicate c ("fair" : Str))).filter (λx => decide (x=x6))=r→s.length+r.length≤1000→((bL (λ(x8 : Str) => some (decide (x8=x6))) (λ(x8 : Str) => some x8) (replicate a ("from" : Str)++(replicate b ("mark" : Str)++replicate c ("fair" : Str)))).bind λa9 => G7 s a9)=some (s++r) := λx6 s r e1 e2 => by
    apply J0
    rw[au, yx (λx8 : Str => decide (x8=x6)) (λx8 : Str => x8)]
    refine⟨bZ (by rw[length_append, length_append, length_replicate, length_replicate, length_replicate];omega), ?_⟩
    rw[map_id', e1]
    unfold G7
    rw[if_pos (bZ e2), aB]
  have f1 : (replicate a ("from" : Str)++(replicate b ("mark" : Str)++replicate c ("fair" : Str))).filter (λ(x : Str) => decide (x = "from"))=replicate a ("from" : Str) := by
    rw[filter_append, filter_append, MF, yV V6, yV V_, append_nil, append_nil]
  have f2 : (replicate a ("from" : Str)++(replicate b ("mark" : Str)++replicate c ("fair" : Str))).filter (λ(x : Str) => decide (x = "mark"))=replicate b ("mark" : Str) := by
    rw[filter_append, filter_append, MF, yV abp, yV abq, append_nil, nil_append]
  have f3 : (replicate a ("from" : Str)++(replicate b ("mark" : Str)++replicate c ("fair" : Str))).filter (λ(x : Str) => decide (x = "fair"))=replicate c ("fair" : Str) := by
    rw[filter_append, filter_append, MF, yV YF, yV YG, nil_append, nil_append]
  simp only[au, aB]
  have g1 := cp "from" [] _ f1 (by rw[length_nil, length_replicate];omega)
  have g2 := cp "mark" ([]++replicate a ("from" : Str)) _ f2 (by rw[length_append, length_nil, length_replicate, length_replicate];omega)
  have g3 := cp "fair" ([]++replicate a ("from" : Str)++replicate b ("mark" : Str)) _ f3 (by rw[length_append, length_append, length_nil, length_replicate, length_replicate, length_replicate];omega)
  have k1 := (au (Q := (· = []++replicate a ("from" : Str)))).mp ⟨_, g1, rfl⟩
  have k2 := (au (Q := (· = []++replicate a ("from" : Str)++replicate b ("mark" : Str)))).mp ⟨_, g2, rfl⟩
  have k3 := (au (Q := (· = []++replicate a ("from" : Str)++replicate b ("mark" : Str)++replicate c ("fair" : Str)))).mp ⟨_, g3, rfl⟩
  refine k1.imp λy1 q1 => q1.imp λz1 e1 => ?_
  subst e1
  refine k2.imp λy2 q2 => q2.imp λz2 e2 => ?_
  subst e2
  refine k3.imp λy3 q3 => q3.imp λz3 e3 => ?_
  subst e3
  rw[decide_eq_true (by rw[nil_append, append_assoc]), if_neg (by decide), aB]
  trivial
end
theorem yW{α β : Type}{c : α→Option Bool}{f : α→Option β}{p : α→Bool}{g : α→β} : ∀{xs : List α}, (∀x∈xs, c x=some (p x))→(∀x∈xs, f x=some (g x))→dz c f xs=some ((xs.filter p).map g)
  |[], _, _ => rfl
  |x::xs, hc, hf => by
    have ih := yW (p := p) (g := g) (xs := xs) (λy hy => hc y (mem_cons_of_mem _ hy)) (λy hy => hf y (mem_cons_of_mem _ hy))
    show(c x).bind _=_
    rw[hc x mem_cons_self]
    cases h : p x with
    |true =>
      show(f x).bind _=_
      rw[hf x mem_cons_self, filter_cons, if_pos h]
      show(dz c f xs).bind _=_
      rw[ih]
      rfl
    |false =>
      show dz c f xs=_
      rw[ih, filter_cons, if_neg (by rw[h];decide)]
section
variable{n : Int}{T : yU}{C : Addr}{m : qC C}
theorem w_behind(h : aQ n T)(x : Str) : b_ (wT T) x=some (((wT T).filter λws => decide (hd0 ws=x)).map λws => iz ws (some (1 : Int)) none) := by
  have ln := wk h
  have hr := qQ h
  unfold b_
  show bL _ _ _=_
  unfold bL
  rw[if_pos (bZ (by omega))]
  exact yW (λws hw => by rw[Dg (hr ws hw).1];rfl) λ_ _ => rfl
theorem uD{α : Type}{p : α→Bool}{xs : List α}(h : ∀x∈xs, p x=true) : xs.filter p=xs := filter_eq_self.mpr h
theorem mD{α : Type}{p : α→Bool}{xs : List α}(h : ∀x∈xs, p x=false) : xs.filter p=[] := List.filter_eq_nil_iff.mpr λx hx => by rw[h x hx];decide
theorem hS(x : List Str)(h : x∈(bT T.a).map fS) : hd0 x = "from" := by obtain⟨_, _, rfl⟩ := mem_map.mp h;rfl
theorem hM(x : List Str)(h : x∈T.b.map fM) : hd0 x = "mark" := by obtain⟨_, _, rfl⟩ := mem_map.mp h;rfl
theorem hF(x : List Str)(h : x∈T.c.map fF) : hd0 x = "fair" := by obtain⟨_, _, rfl⟩ := mem_map.mp h;rfl
theorem Wa : (wT T).filter (λws => decide (hd0 ws = "from"))=(bT T.a).map fS := by
  unfold wT
  rw[filter_append, filter_append, uD λx hx => decide_eq_true (hS x hx), mD λx hx => decide_eq_false (by rw[hM x hx];exact V6), mD λx hx => decide_eq_false (by rw[hF x hx];exact V_), append_nil, append_nil]
theorem Wb : (wT T).filter (λws => decide (hd0 ws = "mark"))=T.b.map fM := by
  unfold wT
  rw[filter_append, filter_append, mD λx hx => decide_eq_false (by rw[hS x hx];exact abp), uD λx hx => decide_eq_true (hM x hx), mD λx hx => decide_eq_false (by rw[hF x hx];exact abq), append_nil, nil_append]
theorem Wc : (wT T).filter (λws => decide (hd0 ws = "fair"))=T.c.map fF := by
  unfold wT
  rw[filter_append, filter_append, mD λx hx => decide_eq_false (by rw[hS x hx];exact YF), mD λx hx => decide_eq_false (by rw[hM x hx];exact YG), uD λx hx => decide_eq_true (hF x hx), nil_append, nil_append]
theorem abr(h : aQ n T) : b_ (wT T) "from" = some ((bT T.a).map λp => so p.1::p.2.map so) := by
  rw[w_behind h, Wa, map_map]
  congr 1
  exact map_congr_left λp _ => nA _ _
theorem abt(h : aQ n T) : b_ (wT T) "mark" = some (T.b.map λp => p.1::p.2.map so) := by
  rw[w_behind h, Wb, map_map]
  congr 1
  exact map_congr_left λp _ => nA _ _
theorem abu(h : aQ n T) : b_ (wT T) "fair" = some (T.c.map λp => p.map so) := by
  rw[w_behind h, Wc, map_map]
  congr 1
  exact map_congr_left λp _ => nA _ _
theorem aQ.mk'(C : Addr)(h : aQ n T) : W (mkK C T.a (some T.b) (some T.c)) λm => Gr m n∧m.steps=T.a∧m.marks=T.b∧m.fair=T.c := by
  have lc := h.fair.1
  exact ad0 C (mo := some T.b) (fo := some T.c) h.len h.pos h.few h.row h.marks ⟨by show T.c.length≤100;omega, h.fair.2⟩
theorem uU(C : Addr)(h : aQ n T) : W (cB C (tx (wT T))) λm => Gr m n∧m.steps=T.a∧m.marks=T.b∧m.fair=T.c := by
  have l := h.len
  have f := h.few
  have el := cu T.a
  have lb := h.names.1
  have lc := h.fair.1
  unfold cB
  rw[au, Mz h, aB, au]
  refine(YH h).imp λ_ _ => ?_
  rw[au, au, au, abr h, aB, aB]
  have s1 : bL (λ(_ : Int×(List Str)) => some true) (λ(x5 : Int×(List Str)) => jA x5.1 x5.2) (bT ((bT T.a).map λp => so p.1::p.2.map so))=some T.a := tZ (by rw[cu, length_map];omega) (by rw[cu, length_map, el]) λi x y hx hy => by
    obtain⟨e1, e2⟩ := jP hx
    have hy' := iI hy
    rw[getElem?_map, hy'] at e2
    obtain⟨_, a0, a1, Ab, r60, _⟩ := h.atS hy'
    have e2 : x.2=so (i : Int)::y.map so := (afm e2).symm
    rw[e1, e2]
    exact Mu a0 a1 (by have Ab : y.length≤60 := Ab;omega) r60
  rw[s1, aB, au, au, abt h, aB]
  have s2 : bL (λ(_ : List Str) => some true) (λ(x7 : List Str) => jB x7) (T.b.map λp => p.1::p.2.map so)=some T.b := tZ (by rw[length_map];omega) (length_map _) λi x y hx hy => by
    rw[getElem?_map, hy] at hx
    cases hx
    obtain⟨Ab, r60, _⟩ := h.atM (mem_of_getElem? hy)
    exact Mv (by omega) r60
  rw[s2, aB, au, au, abu h, aB]
  have s3 : bL (λ(_ : List Str) => some true) (λ(x9 : List Str) => eE x9) (T.c.map λp => p.map so)=some T.c := tZ (by rw[length_map];omega) (length_map _) λi x y hx hy => by
    rw[getElem?_map, hy] at hx
    cases hx
    obtain⟨Ab, r60, _⟩ := h.atF (mem_of_getElem? hy)
    exact qP (by omega) r60
  rw[s3, aB]
  exact h.mk' C
end
def MJ(k seed : Int) : List Nat := lw (seed/8%(1+seed%8)).toNat ((1+seed%8)-(seed/8%(1+seed%8))-1).toNat (97+(seed/1664%26).toNat) (97+((seed/64+k)%26).toNat)
def Ra(k seed : Int) : Str := if mz (MJ k seed) = "all" then "alla" else mz (MJ k seed)
theorem O8{a b : List Nat}(h : a.length+b.length≤1000) : rT (mz a) (mz b)=some (mz (a++b)) := by
  unfold rT
  rw[if_pos (by rw[o9, o9];omega), Yz]
theorem YJ(k seed : Int) : W (sY k seed) λx => x=Ra k seed := by
  have h8 : 0≤seed%8∧seed%8<8 := by omega
  unfold sY
  rw[au, aB, au, au, dG]
  refine⟨by decide, ?_⟩
  rw[aB]
  unfold Ra MJ
  obtain⟨size, hsz⟩ : ∃size : Int, size=1+seed%8 := ⟨_, rfl⟩
  rw[← hsz]
  have hs : 1≤size∧size≤8 := by omega
  rw[au, au, rO]
  refine⟨⟨by decide, by decide⟩, ?_⟩
  rw[dG]
  refine⟨by omega, ?_⟩
  obtain⟨spot, hsp⟩ : ∃spot : Int, spot=seed/8%size := ⟨_, rfl⟩
  rw[← hsp]
  have h0 : 0≤spot∧spot<size := by
    rw[hsp]
    exact⟨ag4 _ (by omega), agt _ (by omega)⟩
  rw[au, au, au, rO]
  refine⟨⟨by decide, by decide⟩, ?_⟩
  rw[dG]
  refine⟨by decide, ?_⟩
  rw[J2, aB, au, au]
  refine(Z0 (n := spot) h0.1 (by omega) (97+(seed/1664%26).toNat)).imp λx hx => ?_
  subst hx
  rw[au, au, au, au, rO]
  refine⟨⟨by decide, by decide⟩, ?_⟩
  rw[aB, dG]
  refine⟨by decide, ?_⟩
  rw[J2, aB]
  have e1 : rT (mz (replicate spot.toNat (97+(seed/1664%26).toNat))) ⟨#[97+((seed/64+k)%26).toNat]⟩=some (mz (replicate spot.toNat (97+(seed/1664%26).toNat)++[97+((seed/64+k)%26).toNat])) := O8 (b := [97+((seed/64+k)%26).toNat]) (by rw[length_replicate, length_singleton];omega)
  rw[e1, aB, au, au]
  refine(Z0 (n := size-spot-1) (by omega) (by omega) (97+(seed/1664%26).toNat)).imp λx hx => ?_
  subst hx
  rw[O8 (by rw[length_append, length_replicate, length_replicate, length_singleton];omega), aB]
  have e2 : replicate spot.toNat (97+(seed/1664%26).toNat)++[97+((seed/64+k)%26).toNat]++replicate (size-spot-1).toNat (97+(seed/1664%26).toNat)=lw spot.toNat (size-spot-1).toNat (97+(seed/1664%26).toNat) (97+((seed/64+k)%26).toNat) := by
    unfold lw
    rw[append_assoc]
    rfl
  rw[e2]
  generalize mz (lw spot.toNat (size-spot-1).toNat (97+(seed/1664%26).toNat) (97+((seed/64+k)%26).toNat))=y
  by_cases hy : y = "all"
  · rw[if_pos (decide_eq_true hy), aB, if_pos hy]
  · rw[if_neg (by rw[decide_eq_false hy];decide), aB, if_neg hy]
theorem Ig(k seed : Int) : ((MJ k seed).length : Int)=1+seed%8 := by
  have h8 : 0≤seed%8∧seed%8<8 := by omega
  unfold MJ
  rw[VF]
  obtain⟨size, hsz⟩ : ∃size : Int, size=1+seed%8 := ⟨_, rfl⟩
  rw[← hsz]
  have a : 0≤seed/8%size := ag4 _ (by omega)
  have b : seed/8%size<size := agt _ (by omega)
  omega
theorem Av(k seed : Int) : ∀x∈MJ k seed, ∃i, i<26∧x=97+i := λx hx => by
  unfold MJ lw at hx
  have h26 : ∀z : Int, (z%26).toNat<26 := λz => by omega
  rcases mem_append.mp hx with q|q
  · exact⟨_, h26 _, eq_of_mem_replicate q⟩
  · rcases mem_cons.mp q with q|q
    · exact⟨_, h26 _, q⟩
    · exact⟨_, h26 _, eq_of_mem_replicate q⟩
theorem Wf(k seed : Int) : eF (Ra k seed)=some true∧ju (Ra k seed) := by
  have hl := Ig k seed
  unfold Ra
  by_cases h : mz (MJ k seed) = "all"
  · rw[if_pos h]
    exact⟨by decide +kernel, by decide +kernel⟩
  · rw[if_neg h]
    refine⟨Q9 (by omega) (by omega) (Av k seed) λz => h (YC z), by rw[o9];omega, ?_, ?_, ?_⟩
    · rw[Df]
      intro z
      rw[z] at hl
      simp at hl
      omega
    · rw[Df]
      intro z
      obtain⟨i, _, e⟩ := Av k seed _ z
      omega
    · rw[Df]
      intro z
      obtain⟨i, _, e⟩ := Av k seed _ z
      omega
theorem abv(seed : Int)(h0 : 0≤k)(h1 : k<13)(h0' : 0≤k')(h1' : k'<13)(hk : k≠k') : Ra k seed≠Ra k' seed := by
  have ne : mz (MJ k seed)≠mz (MJ k' seed) := λe => by
    have e := YB e
    unfold MJ at e
    have a := congrArg (λl : List Nat => l[(seed/8%(1+seed%8)).toNat]?) e
    rw[zK, zK, if_pos rfl, if_pos rfl] at a
    have a := afm a
    omega
  have l6 : ("alla" : Str).length=4 := by decide +kernel
  have l3 : ("all" : Str).length=3 := by decide +kernel
  have q := Ig k seed
  have q' := Ig k' seed
  unfold Ra
  by_cases a : mz (MJ k seed) = "all"
  · rw[if_pos a]
    have a3 := congrArg ajh a
    rw[o9, l3] at a3
    by_cases b : mz (MJ k' seed) = "all"
    · exact absurd (a.trans b.symm) ne
    · rw[if_neg b]
      intro e
      have := congrArg ajh e
      rw[o9, l6] at this
      omega
  · rw[if_neg a]
    by_cases b : mz (MJ k' seed) = "all"
    · rw[if_pos b]
      intro e
      have b3 := congrArg ajh b
      rw[o9, l3] at b3
      have := congrArg ajh e
      rw[o9, l6] at this
      omega
    · rw[if_neg b]
      exact ne
theorem YK(k seed : Int) : ∀c∈fJ (Ra k seed), c<1000 := by
  unfold Ra
  by_cases h : mz (MJ k seed) = "all"
  · rw[if_pos h]
    decide +kernel
  · rw[if_neg h, Df]
    intro c hc
    obtain⟨i, hi, rfl⟩ := Av k seed c hc
    omega
theorem Wg{ms : List (Str×List Int)}(hk : k≤7)(h : ms.map (·.1)=(aha k).map λ(j : Nat) => Ra j seed)(hs : ∀m∈ms, gD n m.2) : qO n ms∧ms.length≤10∧∀m∈ms, ju m.1∧∀c∈fJ m.1, c<1000 := by
  have hl : ms.length=k := by
    have := congrArg length h
    rw[length_map, length_map, List.length_range] at this
    exact this
  have nm : ∀m∈ms, eF m.1=some true∧ju m.1∧∀c∈fJ m.1, c<1000 := λm hm => by
    have : m.1∈ms.map (·.1) := mem_map.mpr ⟨m, hm, rfl⟩
    rw[h] at this
    obtain⟨j, _, e⟩ := mem_map.mp this
    rw[← e]
    exact⟨(Wf j seed).1, (Wf j seed).2, YK j seed⟩
  refine⟨⟨?_, by omega, λm hm => ⟨(nm m hm).1, by have := (nm m hm).2.1.1;omega, hs m hm⟩⟩, by omega, λm hm => (nm m hm).2⟩
  rw[h]
  unfold List.Nodup
  rw[List.pairwise_map]
  refine List.nodup_range.imp_of_mem λ{a b} ha hb hab => ?_
  rw[mem_range] at ha hb
  exact abv seed (by omega) (by omega) (by omega) (by omega) (by omega)
theorem Aw(ws : List Int) : W (jg ws) λ_ => True := by
  unfold jg
  rw[Eu]
  refine⟨λ_ => aB.mpr trivial, λh => ?_⟩
  cases ws with
  |nil => exact absurd rfl h
  |cons x r =>
    rw[List.getLast?_cons]
    exact⟨_, rfl, trivial⟩
theorem YL{s n : Int}{i j : Nat}(hij : j<i)(hi : (i : Int)<n) : (s+(i : Int))%n≠(s+(j : Int))%n := λe => by
  have e2 := Int.emod_eq_emod_iff_emod_sub_eq_zero.mp e
  rw[show s+(i : Int)-(s+(j : Int))=(i : Int)-j by omega, Int.emod_eq_of_lt (by omega) (by omega)] at e2
  omega
theorem Wh(c : Int){n : Int}(h0 : 1≤n)(h1 : n≤60) : W (g8 c n) (gD n) := by
  unfold g8
  rw[au, au, rO]
  refine⟨⟨by decide, by decide⟩, ?_⟩
  rw[dG]
  refine⟨by omega, ?_⟩
  generalize c/3%n=st
  rw[au, aB, au, rO]
  refine⟨⟨by decide, by decide⟩, ?_⟩
  rw[au, au, mZ]
  refine⟨⟨by omega, by omega⟩, ?_⟩
  have rl := oU (n := n) (by omega)
  refine n6 (λi z => z.1.Nodup∧z.1.length≤i∧∀y∈z.1, ∃j : Nat, j<i∧y=(st+(j : Int))%n) ⟨List.nodup_nil, afj _, λy hy => by cases hy⟩ (λi x z hi hI => ?_) λz hI => ?_
  · obtain⟨rfl, hx⟩ := GQ hi
    obtain⟨i1, i2, i3⟩ := hI
    simp only[au, rO, dG, aB, Eu, yw]
    refine⟨by decide, λ_ => ⟨by omega, bZ (by omega), ⟨by decide, by decide⟩, ?_, ?_, ?_⟩, λ_ => ⟨⟨by decide, by decide⟩, i1, by omega, λy hy => ?_⟩⟩
    · refine nodup_append.mpr ⟨i1, by simp, λa ha b hb => ?_⟩
      rw[mem_singleton] at hb
      subst hb
      obtain⟨j, hj, e⟩ := i3 a ha
      rw[e]
      exact(YL hj hx).symm
    · rw[length_append]
      exact ahg i2
    · intro y hy
      rcases mem_append.mp hy with q|q
      · obtain⟨j, hj, e⟩ := i3 y q
        exact⟨j, by omega, e⟩
      · exact⟨i, by omega, mem_singleton.mp q⟩
    · obtain⟨j, hj, e⟩ := i3 y hy
      exact⟨j, by omega, e⟩
  · obtain⟨i1, i2, i3⟩ := hI
    have rg : ∀y∈z.1, 0≤y∧y<n := λy hy => by
      obtain⟨j, _, e⟩ := i3 y hy
      rw[e]
      exact⟨ag4 _ (by omega), agt _ (by omega)⟩
    simp only[au, dG, aB, Eu]
    refine⟨by decide, λ_ => ⟨(List.reverse_perm z.1).nodup_iff.mpr i1, by rw[List.length_reverse];omega, λy hy => rg y (List.mem_reverse.mp hy)⟩, λ_ => ⟨i1, by omega, rg⟩⟩
theorem YM(c : Int) : ∃a : Int, ([(8 : Int), 8, 8, 60] : List Int)[(c%4).toNat]?=some a∧1≤a∧a≤60 := by
  have h : (c%4).toNat<4 := by omega
  generalize(c%4).toNat=j at h
  match j, h with
  |0, _ => exact⟨8, rfl, by decide, by decide⟩
  |1, _ => exact⟨8, rfl, by decide, by decide⟩
  |2, _ => exact⟨8, rfl, by decide, by decide⟩
  |3, _ => exact⟨60, rfl, by decide, by decide⟩
section
variable{α β : Type}{f : List Int→α→Option (β×List Int)}{R : β→Prop}
theorem Wi : ∀(xs : List α)(ws : List Int), (∀ws, ∀x∈xs, W (f ws x) λr => R r.1)→W (zR f ws xs) λr => r.1.length=xs.length∧∀y∈r.1, R y
  |[], ws, _ => aB.mpr ⟨rfl, λy h => by cases h⟩
  |x::xs, ws, h => by
    unfold zR
    rw[au]
    refine(h ws x mem_cons_self).imp λr hr => ?_
    rw[au]
    refine(Wi xs r.2 λw y hy => h w y (mem_cons_of_mem _ hy)).imp λq hq => ?_
    rw[aB]
    refine⟨by rw[length_cons, length_cons, hq.1], λy hy => ?_⟩
    rcases mem_cons.mp hy with rfl|hy
    · exact hr
    · exact hq.2 y hy
theorem YQ{xs : List α}(hl : xs.length<cap)(h : ∀ws, ∀x∈xs, W (f ws x) λr => R r.1) : W (Fb f ws xs) λr => r.1.length=xs.length∧∀y∈r.1, R y := by
  unfold Fb
  rw[if_pos hl]
  exact Wi xs ws h
end
theorem Dh(h0 : 1≤n)(h1 : n≤60)(ws : List Int) : W (((jg ws).bind λr47 => (Jp (10 : Int) (30 : Int)).bind λy48 => (dW r47.1 y48).bind λc => some (c, r47.2)).bind λr50 => (g8 r50.1 n).bind λb51 => some (b51, r50.2)) λr => gD n r.1 := by
  rw[au, au]
  refine(Aw ws).imp λr _ => ?_
  rw[au, Zy]
  refine⟨⟨by decide, by decide, by decide⟩, ?_⟩
  rw[au, dG]
  refine⟨by decide, ?_⟩
  rw[aB, au]
  refine(Wh _ h0 h1).imp λb hb => ?_
  rw[aB]
  exact hb
theorem YS(q : List Int) : W (pZ q) λT => ∃n, aQ n T := by
  unfold pZ
  rw[au, aB, au, aB, au]
  refine(Aw _).imp λc _ => ?_
  rw[au, au, au, rO]
  refine⟨⟨by decide, by decide⟩, ?_⟩
  rw[au, au, dG]
  refine⟨by decide, ?_⟩
  rw[uI (by omega)]
  obtain⟨a, ea, a1, a60⟩ := YM c.1
  refine⟨a, ea, ?_⟩
  rw[dG]
  refine⟨by omega, ?_⟩
  rw[aB]
  obtain⟨n, hn⟩ : ∃n : Int, n=1+c.1/4%a := ⟨_, rfl⟩
  rw[← hn]
  have n0 : 1≤n∧n≤60 := by
    have z0 := ag4 (c.1/4) (show a≠0 by omega)
    have z1 := agt (c.1/4) (show 0<a by omega)
    omega
  rw[au]
  refine(Aw _).imp λsd _ => ?_
  obtain⟨seed, sr⟩ := sd
  rw[au, aB, au, au, mZ]
  refine⟨⟨by omega, by omega⟩, ?_⟩
  have rl := oU (n := n) (by omega)
  refine n6 (λi z => z.2.length=i∧∀xs∈z.2, xs≠[]∧gD n xs) ⟨rfl, λm hm => by cases hm⟩ (λi x z hi hI => ?_) λz hI => ?_
  · obtain⟨rfl, hx⟩ := GQ hi
    obtain⟨j1, j2⟩ := hI
    rw[au, au, au, au]
    refine(Aw _).imp λr _ => ?_
    rw[au, Zy]
    refine⟨⟨by decide, by decide, by decide⟩, ?_⟩
    rw[au, dG]
    refine⟨by decide, ?_⟩
    rw[aB, au, au, au, Zx]
    refine⟨.inl ⟨by omega, by omega⟩, ?_⟩
    have hxx : (i : Int)*(i : Int)≤60*60 := Int.mul_le_mul (by omega) (by omega) (by omega) (by omega)
    have afg : 0≤(i : Int)*(i : Int) := Int.mul_nonneg (by omega) (by omega)
    rw[Zx]
    refine⟨.inl ⟨by omega, by omega⟩, ?_⟩
    rw[dG]
    refine⟨by decide, ?_⟩
    rw[aB, au]
    refine(Wh _ n0.1 n0.2).imp λb hb => ?_
    rw[aB, au]
    have fin : ∀ys : List Int, ys≠[]→gD n ys→W ((push z.2 ys).bind λxG => some (r.2, xG)) λz' => z'.2.length=i+1∧∀xs∈z'.2, xs≠[]∧gD n xs := λys ne ok => by
      rw[au, yw]
      refine⟨bZ (by omega), ?_⟩
      rw[aB]
      refine⟨by rw[length_append, j1];rfl, λxs hx => ?_⟩
      rcases mem_append.mp hx with q|q
      · exact j2 xs q
      · rw[mem_singleton.mp q]
        exact⟨ne, ok⟩
    rw[Eu]
    refine⟨λe => ?_, λe => ?_⟩
    · rw[au, au, dG]
      refine⟨by omega, ?_⟩
      rw[aB, aB]
      exact fin _ (by simp) ⟨by simp, by simp, λy hy => by
        rw[mem_singleton.mp hy]
        exact⟨ag4 _ (by omega), agt _ (by omega)⟩⟩
    · rw[aB]
      exact fin _ (λq => e (decide_eq_true q)) hb
  have zl : (z.2.length : Int)=n := by rw[hI.1];exact rl
  rw[au, aB, au, au, au, au, rO]
  refine⟨⟨by decide, by decide⟩, ?_⟩
  rw[dG]
  refine⟨by decide, ?_⟩
  have m0 : 0≤seed/5%7∧seed/5%7<7 := by omega
  have rm := oU m0.1
  show W (gO (seed/5%7)) _
  rw[mZ]
  refine⟨⟨by omega, by omega⟩, ?_⟩
  refine n6 (λi y => y.1.map (·.1)=(aha i).map (λ(j : Nat) => Ra j seed)∧y.1.length=i∧∀m∈y.1, gD n m.2) ⟨rfl, rfl, λm hm => by cases hm⟩ (λi x y hi hJ => ?_) λy hJ => ?_
  · obtain⟨rfl, hx⟩ := GQ hi
    obtain⟨i1, i2, i3⟩ := hJ
    rw[au, au, au]
    refine(YJ i seed).imp λnm hnm => ?_
    subst hnm
    rw[au]
    refine(Dh n0.1 n0.2 y.2).imp λr hr => ?_
    rw[aB, au, yw]
    refine⟨bZ (by omega), ?_⟩
    rw[aB, aB]
    refine⟨?_, by rw[length_append, i2];rfl, λm hm => ?_⟩
    · show(y.1++[(Ra (i : Int) seed, r.1)]).map (·.1)=_
      rw[map_append, i1, List.range_succ, map_append]
      rfl
    · rcases mem_append.mp hm with q|q
      · exact i3 m q
      · rw[mem_singleton.mp q]
        exact hr
  obtain⟨i1, i2, i3⟩ := hJ
  have lz : (rng (seed/5%7)).length≤7 := by omega
  have mk := Wg lz i1 i3
  rw[au, au, au, au, rO]
  refine⟨⟨by decide, by decide⟩, ?_⟩
  rw[dG]
  refine⟨by decide, ?_⟩
  have f0 : 0≤seed/35%4∧seed/35%4<4 := by omega
  have rf := oU f0.1
  show W (gO (seed/35%4)) _
  rw[mZ]
  refine⟨⟨by omega, by omega⟩, ?_⟩
  refine(YQ (R := gD n) (bZ (by omega)) λw x _ => Dh n0.1 n0.2 w).imp λfr hfr => ?_
  rw[aB]
  exact⟨n, n0.1, n0.2, zl, hI.2, mk.1, mk.2, by show fr.1.length≤10;omega, hfr.2⟩
def okX(n : Int) : Mx→Bool
  |.mi z => decide (0≤z)&&decide (z<n)
  |_ => false
def kJ(n : Int) : List Int→List Mx→Bool
  |_, [] => true
  |seen, x::xs => match x with
    |.mi z => (decide (0≤z)&&decide (z<n))&&!decide (z∈seen)&&kJ n (seen++[z]) xs
    |_ => false
def MxF : Mx→Prop
  |.mi z => z.natAbs.log2<1920
  |.ms x => (reprText x).length≤1000
  |_ => True
def Wj(xs : List Mx) : Prop := xs.length≤90∧∀x∈xs, MxF x
theorem Wk(x : Mx)(n : Int) : jC x n=some (okX n x) := by
  unfold jC okX
  cases x with
  |mi z =>
    show(if(true : Bool)=true then if(true : Bool)=true then(some z).bind λb1 => if decide ((0 : Int)≤b1)=true then some (decide (b1<n)) else some false else some false else some false)=_
    rw[if_pos rfl, if_pos rfl]
    show(if decide ((0 : Int)≤z)=true then some (decide (z<n)) else some false)=_
    show _=some (decide (0≤z)&&decide (z<n))
    cases decide ((0 : Int)≤z)<;>rfl
  |mb c => rfl
  |mn => rfl
  |ms x => rfl
theorem qR{i : Int}(h : i.natAbs.log2<1920) : mK i m=m := if_pos h
theorem uE{x : Str}(h : x.length≤1000) : pW x m=m := if_pos h
theorem YT(h : MxF x) : Lh x m=m := by
  cases x with
  |mi z => exact qR h
  |ms x => exact uE h
  |mb c => rfl
  |mn => rfl
abbrev abw(b : Bool) : Out Unit (Ek cx) := if b=true then .nx () else .rt ⟨0⟩
theorem O9{n : Int}{wh : Str}(hn : n.natAbs.log2<1920)(hw : wh.length≤1000) : ∀(xs : List Mx)(seen : List Int)(s : List (Key×Bool)), (∀x∈xs, MxF x)→s.length+xs.length<cap→(∀z : Int, (vC s z).isSome=decide (z∈seen)) →
    (fD (λ(s2 : List (Key×Bool)) (x4 : Mx) => ((jC x4 n).bind λa5 => some (!a5)).bind λb => if b=true then(((some wh).bind λj8 => pW j8 ((some x4).bind λj7 => Lh j7 ((some n).bind λj6 => mK j6 (some ())))).bind λ_ => some (Ek.mk 0 : Ek cx)).bind λb => some (.rt b) else((Yj x4).bind λa9 => some ((vC (Dc.mk s2).kv a9).isSome)).bind λb => if b=true then(((some wh).bind λj11 => pW j11 ((Yj x4).bind λj10 => mK j10 (some ()))).bind λ_ => some (Ek.mk 0 : Ek cx)).bind λb => some (.rt b) else((Yj x4).bind λVi => dput s2 Vi true).bind λqM => some (.nx qM)) xs s).bind (λo => o.dN λ_ => some (.nx ()))=some (abw (kJ n seen xs))
  |[], seen, s, _, _, _ => rfl
  |x::xs, seen, s, hx, hc, hs => by
    have hx0 := hx x mem_cons_self
    rw[qH, Wk]
    have bad : ∀{r : Option (Out (List (Key×Bool)) (Ek cx))}, (if(!okX n x)=true then(((some wh).bind λj8 => pW j8 ((some x).bind λj7 => Lh j7 ((some n).bind λj6 => mK j6 (some ())))).bind λ_ => some (Ek.mk 0 : Ek cx)).bind λb => some (Out.rt b) else r)=if okX n x=true then r else some (.rt ⟨0⟩) := λ{r} => by
      cases okX n x with
      |true => rfl
      |false =>
        show((pW wh (Lh x (mK n (some ())))).bind λ_ => some (Ek.mk 0 : Ek cx)).bind _=_
        rw[uE hw, YT hx0, qR hn]
        rfl
    show(((if(!okX n x)=true then _ else _ : Option (Out (List (Key×Bool)) (Ek cx)))).bind λo => o.dN λs' => fD _ xs s').bind _=_
    rw[bad]
    cases x with
    |mb c => rfl
    |mn => rfl
    |ms y => rfl
    |mi z =>
      show(((if(decide (0≤z)&&decide (z<n))=true then(if(vC s z).isSome=true then((pW wh (mK z (some ()))).bind λ_ => some (Ek.mk 0 : Ek cx)).bind λb => some (Out.rt b) else(dput s z true).bind λqM => some (.nx qM)) else some (.rt ⟨0⟩)) : Option (Out (List (Key×Bool)) (Ek cx))).bind λo => o.dN λs' => fD _ xs s').bind _=some (abw ((decide (0≤z)&&decide (z<n))&&!decide (z∈seen)&&kJ n (seen++[z]) xs))
      cases(decide (0≤z)&&decide (z<n)) with
      |false => rfl
      |true =>
        rw[if_pos rfl, hs z]
        cases hm : decide (z∈seen) with
        |true =>
          rw[if_pos rfl, uE hw, qR hx0]
          rfl
        |false =>
          rw[if_neg (by decide)]
          have hd : dput s z true=some (pK s (agm z) true) := by
            unfold dput
            exact if_pos (by rw[length_cons] at hc;omega)
          rw[hd]
          refine O9 hn hw xs (seen++[z]) (pK s (agm z) true) (λx h => hx x (mem_cons_of_mem _ h)) ?_ λy => ?_
          · have := G3 s (agm z) true
            rw[length_cons] at hc
            omega
          · have e : vC (pK s (agm z) true) y=if(agm y : Key)=agm z then some true else vC s y := GZ s (agm z) (agm y) true
            rw[e]
            by_cases q : y=z
            · subst q
              rw[if_pos rfl]
              simp
            · rw[if_neg (λe => q (Sum.inl.inj e)), hs y]
              simp[q]
theorem abx{n : Int}{wh : Str}(hn : n.natAbs.log2<1920)(hw : wh.length≤1000)(h : Wj xs) : bD cx xs n wh=some (abw (kJ n [] xs)) := by
  unfold bD
  refine O9 hn hw xs [] [] h.2 ?_ λz => rfl
  have := h.1
  have c : (90 : Nat)<cap := by decide +kernel
  show 0+xs.length<cap
  omega
abbrev Ih : List Str := ["all", "not", "both", "either", "somenext", "eachnext", "sometill", "eachtill", "someever", "eachever"]
abbrev abc : Str := "abcdefghijklmnopqrstuvwxyz"
def nameB(x : Str) : Bool := !decide (x∈Ih)&&(decide ((1 : Int)≤x.length)&&decide ((x.length : Int)≤8))&&(signs x).all λz => XR z abc
theorem Wm : 1000<cap := by decide +kernel
theorem YW{x : Str}(h : x.length≤1000) : zQ x=some (x.length : Int) := if_pos (aft h Wm)
theorem comp_map{α β : Type}{g : α→β} : ∀xs : List α, dz (λ_ => some true) (λx => some (g x)) xs=some (xs.map g)
  |[] => rfl
  |x::xs => by
    show(some true).bind _=_
    show(dz _ _ xs).bind _=_
    rw[comp_map xs]
    rfl
theorem Rb(x : Str) : (signs x).length=x.length := by
  unfold signs
  rw[length_map]
  rfl
theorem O_{x : Str}(h : x.length≤1000) : eF x=some (nameB x) := by
  unfold eF nameB
  rw[YW h]
  show(if decide (x∈Ih)=true then some false else _)=_
  cases decide (x∈Ih) with
  |true => rfl
  |false =>
    rw[if_neg (by decide)]
    show(if decide ((1 : Int)≤x.length)=true then some (decide ((x.length : Int)≤8)) else some false).bind _=some ((true&&(decide ((1 : Int)≤x.length)&&decide ((x.length : Int)≤8)))&&(signs x).all λz => XR z abc)
    cases decide ((1 : Int)≤x.length) with
    |false => rfl
    |true =>
      cases decide ((x.length : Int)≤8) with
      |false => rfl
      |true =>
        show(bL (λ_ => some true) (λz => some (XR z abc)) (signs x)).bind (λa3 => some (a3.all id))=some ((signs x).all λz => XR z abc)
        unfold bL
        rw[if_pos (by rw[Rb];exact aft h Wm), comp_map]
        show some (((signs x).map _).all id)=_
        rw[all_map]
        rfl
def h_(n : Int) : List (List Mx)→Option (Fin 4)
  |[] => none
  |r::rs => if kJ n [] r=true then if r.isEmpty=true then some 1 else h_ n rs else some 0
def qe(n : Int) : List (List Mx)→Option (Fin 4)
  |[] => none
  |r::rs => if kJ n [] r=true then qe n rs else some 0
def jw(n : Int) : List Str→List (Str×List Mx)→Option (Fin 4)
  |_, [] => none
  |seen, m::ms => if(!nameB m.1)=true then some 2 else if decide (m.1∈seen)=true then some 2 else if kJ n [] m.2=true then jw n (seen++[m.1]) ms else some 0
abbrev Ii(o : Option (Fin 4)) : Out Unit (Ek cx) := match o with
  |none => .nx ()
  |some i => .rt ⟨i⟩
theorem ad3 : ∀k : Fin 1000, (agr (toString (ai1 k.val))).length≤20 := by decide +kernel
theorem Wn(a : Str){k : Nat}(ha : a.length≤100)(h : k<1000) : ∃w : Str, Rw a (k : Int)=some w∧w.length≤1000 := by
  refine⟨_, if_pos (lA (by omega)), ?_⟩
  rw[lU]
  have := ad3 ⟨k, h⟩
  have : (agr (toString (k : Int))).length≤20 := this
  omega
theorem Ij{k : Nat}(h : k<1000) : (k : Int).natAbs.log2<1920 := lA (by omega)
theorem J5{cx : Fin 4→Addr}{n : Int}(hn : n.natAbs.log2<1920) : ∀L : List (Int×List Mx), (∀p∈L, (∃k : Nat, p.1=k∧k<1000)∧Wj p.2) →
    (fD (λ(s4 : Unit) (x6 : Int×(List Mx)) => ((((((Rw "steps of stand " x6.1).bind λa12 => some ((a12, ()))).bind λVi => some (n, Vi)).bind λVj => some (x6.2, Vj))).bind λz7 => bD cx z7.1 z7.2.1 z7.2.2.1).bind λr => w5 r (if(decide ((x6.2.length : Int)=(0 : Int)))=true then(((some x6.1).bind λj8 => mK j8 (some ())).bind λ_ => some (Ek.mk 1 : Ek cx)).bind λb => some (.rt b) else some (.nx ()))) L ()).bind (λo => o.dN λs5 => some (.nx ()))=some (Ii (h_ n (L.map (·.2))))
  |[], _ => rfl
  |x::L, h => by
    obtain⟨⟨k, e, hk⟩, hr⟩ := h x mem_cons_self
    obtain⟨w, e1, e2⟩ := Wn "steps of stand " (by decide +kernel) hk
    rw[qH, e, e1]
    show(((bD cx x.2 n w).bind λr => w5 r _).bind _).bind _=some (Ii (if kJ n [] x.2=true then if x.2.isEmpty=true then some 1 else h_ n (L.map (·.2)) else some 0))
    rw[abx hn e2 hr]
    cases kJ n [] x.2 with
    |false => rfl
    |true =>
      rw[if_pos rfl]
      show((if decide ((x.2.length : Int)=0)=true then((mK (k : Int) (some ())).bind λ_ => some (Ek.mk 1 : Ek cx)).bind λb => some (Out.rt b) else some (Out.nx ())).bind _).bind _=_
      rw[qR (Ij (by omega))]
      cases hx : x.2 with
      |nil => rfl
      |cons a b =>
        rw[decide_eq_false (by rw[length_cons];omega)]
        exact J5 hn L λp hp => h p (mem_cons_of_mem _ hp)
theorem J6{α : Type}(xs : List α) : (bT xs).map (·.2)=xs := by
  unfold bT
  exact List.map_snd_zip (by simp)
theorem J7{α : Type}{xs : List α}{p : Int×α}(h : p∈bT xs) : (∃k : Nat, p.1=k∧k<xs.length)∧p.2∈xs := by
  obtain⟨i, hi⟩ := mem_iff_getElem?.mp h
  obtain⟨e1, e2⟩ := jP hi
  exact⟨⟨i, e1, bK e2⟩, mem_of_getElem? e2⟩
noncomputable def zL(n : Int) : Option (Fin 4) := if(decide (n<1)||decide (60<n))=true then some 0 else none
theorem Rc{a : QX}(hl : a.length<1000)(h : ∀r∈a, Wj r) : fV cx a=some (Ii ((zL a.length).or (h_ a.length a))) := by
  unfold fV zL
  have hn : (a.length : Int).natAbs.log2<1920 := Ij (by omega)
  show((if decide ((a.length : Int)<1)=true then some true else some (decide ((60 : Int)<a.length))).bind λb => if b=true then((mK (a.length : Int) (mK 60 (some ()))).bind λ_ => some (Ek.mk 0 : Ek cx)).bind λb => some (Out.rt b) else _)=_
  rw[qR hn, qR (show(60 : Int).natAbs.log2<1920 by decide +kernel)]
  cases decide ((a.length : Int)<1) with
  |true => rfl
  |false =>
    cases decide ((60 : Int)<a.length) with
    |true => rfl
    |false =>
      have z := J5 (cx := cx) hn (bT a) λp hp => by
        obtain⟨⟨k, e, hk⟩, hm⟩ := J7 hp
        exact⟨⟨k, e, by omega⟩, h _ hm⟩
      rw[J6] at z
      exact z
theorem Pa{cx : Fin 4→Addr}{n : Int}(hn : n.natAbs.log2<1920) : ∀L : List (Int×List Mx), (∀p∈L, (∃k : Nat, p.1=k∧k<1000)∧Wj p.2) →
    (fD (λ(s1 : Unit) (x3 : Int×(List Mx)) => ((((((Rw "fair set " x3.1).bind λa8 => some ((a8, ()))).bind λb9 => some (n, b9)).bind λb10 => some (x3.2, b10))).bind λz4 => bD cx z4.1 z4.2.1 z4.2.2.1).bind λr => w5 r (some (.nx ()))) L ()).bind (λo => o.dN λs2 => some (.nx ()))=some (Ii (qe n (L.map (·.2))))
  |[], _ => rfl
  |x::L, h => by
    obtain⟨⟨k, e, hk⟩, hr⟩ := h x mem_cons_self
    obtain⟨w, e1, e2⟩ := Wn "fair set " (by decide +kernel) hk
    rw[qH, e, e1]
    show(((bD cx x.2 n w).bind λr => w5 r _).bind _).bind _=some (Ii (if kJ n [] x.2=true then qe n (L.map (·.2)) else some 0))
    rw[abx hn e2 hr]
    cases kJ n [] x.2 with
    |false => rfl
    |true => exact Pa hn L λp hp => h p (mem_cons_of_mem _ hp)
theorem Wo{n : Int}{a : QX}(hn : n.natAbs.log2<1920)(hl : a.length<1000)(h : ∀r∈a, Wj r) : gJ cx a n=some (Ii (qe n a)) := by
  unfold gJ
  have z := Pa (cx := cx) hn (bT a) λp hp => by
    obtain⟨⟨k, e, hk⟩, hm⟩ := J7 hp
    exact⟨⟨k, e, by omega⟩, h _ hm⟩
  rw[J6] at z
  exact z
def NmF(x : Str) : Prop := x.length≤100∧(reprText x).length≤1000
theorem J8{n : Int}(hn : n.natAbs.log2<1920) : ∀(ms : List (Str×List Mx))(seen : List Str)(s : List (Key×Bool)), (∀m∈ms, NmF m.1∧Wj m.2)→s.length+ms.length<cap→(∀z : Str, (oV s z).isSome=decide (z∈seen)) →
    (fD (λ(s2 : List (Key×Bool)) (x4 : Str×(List Mx)) => ((eF x4.1).bind λa5 => some (!a5)).bind λb => if b=true then(((some x4.1).bind λj6 => Yn j6 (some ())).bind λ_ => some (Ek.mk 2 : Ek cx)).bind λb => some (.rt b) else if((oV (Dc.mk s2).kv x4.1).isSome)=true then(((some x4.1).bind λj7 => pW j7 (some ())).bind λ_ => some (Ek.mk 2 : Ek cx)).bind λb => some (.rt b) else(wW s2 x4.1 true).bind λCZ => ((((((XS "mark " x4.1).bind λa13 => some ((a13, ()))).bind λVj => some (n, Vj)).bind λb15 => some (x4.2, b15))).bind λz9 => bD cx z9.1 z9.2.1 z9.2.2.1).bind λr => w5 r (some (.nx CZ))) ms s).bind (λo => o.dN λs3 => some (.nx ()))=some (Ii (jw n seen ms))
  |[], _, _, _, _, _ => rfl
  |x::ms, seen, s, h, hc, hs => by
    obtain⟨hm, hr⟩ := h x mem_cons_self
    have l1 : x.1.length≤1000 := by have := hm.1;omega
    rw[qH, O_ l1]
    show((if(!nameB x.1)=true then((pW (reprText x.1) (some ())).bind λ_ => some (Ek.mk 2 : Ek cx)).bind λb => some (Out.rt b) else if((oV s x.1).isSome)=true then((pW x.1 (some ())).bind λ_ => some (Ek.mk 2 : Ek cx)).bind λb => some (Out.rt b) else _).bind _).bind _=some (Ii (if(!nameB x.1)=true then some 2 else if decide (x.1∈seen)=true then some 2 else if kJ n [] x.2=true then jw n (seen++[x.1]) ms else some 0))
    rw[uE hm.2, uE l1, hs x.1]
    cases nameB x.1 with
    |false => rfl
    |true =>
      cases hq : decide (x.1∈seen) with
      |true => rfl
      |false =>
        have hd : wW s x.1 true=some (pK s (agn x.1) true) := by
          unfold wW
          exact if_pos (by rw[length_cons] at hc;omega)
        have hf : XS "mark " x.1=some ("mark " ++ x.1) := if_pos l1
        rw[hd, hf]
        show(((bD cx x.2 n ("mark " ++ x.1)).bind λr => w5 r _).bind _).bind _=_
        have lw : (("mark " : Str)++x.1).length≤1000 := by
          rw[lU]
          have := hm.1
          have : ("mark " : Str).length=5 := by decide +kernel
          omega
        rw[abx hn lw hr]
        cases kJ n [] x.2 with
        |false => rfl
        |true =>
          refine J8 hn ms (seen++[x.1]) (pK s (agn x.1) true) (λp hp => h p (mem_cons_of_mem _ hp)) ?_ λy => ?_
          · have := G3 s (agn x.1) true
            rw[length_cons] at hc
            omega
          · have e : oV (pK s (agn x.1) true) y=if(agn y : Key)=agn x.1 then some true else oV s y := GZ s (agn x.1) (agn y) true
            rw[e]
            by_cases q : y=x.1
            · subst q
              rw[if_pos rfl]
              simp
            · rw[if_neg (λe => q (Sum.inr.inj e)), hs y]
              simp[q]
theorem Rf{n : Int}{ms : MKM}(hn : n.natAbs.log2<1920)(hl : ms.length≤100)(h : ∀m∈ms, NmF m.1∧Wj m.2) : fW cx ms n=some (Ii (jw n [] ms)) := by
  unfold fW
  refine J8 hn ms [] [] h ?_ λz => rfl
  have := Wm
  show 0+ms.length<cap
  omega
structure ad4(a : Prt) : Prop where
  la : a.a.length<1000
  lb : a.b.length≤100
  lc : a.c.length≤100
  ra : ∀r∈a.a, Wj r
  rb : ∀m∈a.b, NmF m.1∧Wj m.2
  rc : ∀r∈a.c, Wj r
noncomputable def refusal(a : Prt) : Option (Fin 4) := (zL a.a.length).or ((h_ a.a.length a.a).or ((jw a.a.length [] a.b).or (qe a.a.length a.c)))
theorem Wq(h : ad4 a) : q9 cx a.a a.b a.c=(refusal a).bind λi => some (.rt ⟨i⟩) := by
  have hn : (a.a.length : Int).natAbs.log2<1920 := Ij (by have := h.la;omega)
  unfold q9 refusal
  rw[Rc h.la h.ra, Rf hn h.lb h.rb, Wo hn (by have := h.lc;omega) h.rc]
  cases zL a.a.length with
  |some i => rfl
  |none =>
    cases h_ a.a.length a.a with
    |some i => rfl
    |none =>
      cases jw a.a.length [] a.b with
      |some i => rfl
      |none =>
        cases qe a.a.length a.c with
        |some i => rfl
        |none => rfl
theorem MN : ∀{a b : List Str}, a≠[]→b≠[]→fJ (agb ⟨#[c]⟩ (a++b))=fJ (agb ⟨#[c]⟩ a)++c::fJ (agb ⟨#[c]⟩ b)
  |[], _, h, _ => absurd rfl h
  |[x], [], _, h => absurd rfl h
  |[x], y::r, _, _ => kj c x y r
  |x::y::r, b, _, hb => by
    show fJ (agb ⟨#[c]⟩ (x::y::(r++b)))=_
    rw[kj, kj, show y::(r++b)=(y::r)++b from rfl, MN (by simp) hb]
    simp
theorem Ga(c : Nat)(a b : Str) : ag1 (a++⟨#[c]⟩++b) ⟨#[c]⟩=ag1 a ⟨#[c]⟩++ag1 b ⟨#[c]⟩ := by
  have e : a++⟨#[c]⟩++b=agb ⟨#[c]⟩ (ag1 a ⟨#[c]⟩++ag1 b ⟨#[c]⟩) := by
    apply nq
    rw[MN (xQ _ _) (xQ _ _), aiq, aiq, iH, iH]
    show(fJ a++[c])++fJ b=_
    simp
  rw[e]
  refine oK (by intro z;exact xQ a ⟨#[c]⟩ (append_eq_nil_iff.mp z).1) λw hw => ?_
  rcases mem_append.mp hw with h|h
  · exact air a c w h
  · exact air b c w h
theorem xT : ag1 (⟨#[]⟩ : Str) ⟨#[32]⟩=[⟨#[]⟩] := by decide +kernel
theorem M4 : ("" : Str)=⟨#[]⟩ := by decide +kernel
theorem qT{a b : Str}(h : a.length+b.length≤9000) : rT a b=some (a++b) := by unfold rT;rw[if_pos h]
theorem len_app(a b : Str) : (a++b).length=a.length+b.length := by rw[← lQ, ← lQ, ← lQ, iH, length_append]
def spl(x : Str) : List Str := ag1 x ⟨#[32]⟩
def jt(R : List Str) : Str := agb ⟨#[10]⟩ R
structure wu(R : List Str) : Prop where
  ne : R≠[]
  few : R.length≤100
  row : ∀r∈R, r.length≤750∧10∉fJ r
theorem Gb{α ε : Type}{p : α→Bool}{e : ε} : ∀xs : List α, fD (λ(_ : Unit) (x : α) => if p x=true then some (.rt e) else some (.nx ())) xs ()=some (if xs.any p=true then Out.rt e else .nx ())
  |[] => rfl
  |x::xs => by
    show(if p x=true then _ else _ : Option (Out Unit ε)).bind _=_
    cases h : p x with
    |true => rw[any_cons, h];rfl
    |false =>
      rw[any_cons, h]
      exact Gb xs
section
variable{cx : Fin 4→Addr}{R : List Str}
theorem wu.join(h : wu R) : joinM "\n" R=some (jt R)∧splitM (jt R) "\n" = some R := by
  obtain⟨a, b⟩ := Ao 10 (n := 750) (λy hy => (h.row y hy).1) (by have := h.few;omega)
  refine⟨by rw[O7];exact a, ?_⟩
  unfold splitM
  have b : (jt R).length≤_ := b
  have := h.few
  rw[if_pos (aft (show(jt R).length+2≤90000 by omega) (by decide)), O7]
  exact congrArg some (oK h.ne λw hw => (h.row w hw).2)
theorem Wr{r : Str}(h : r.length≤9000) : splitM r " " = some (spl r) := by
  unfold splitM
  rw[if_pos (aft (show r.length+2≤90000 by omega) (by decide)), uT]
  rfl
theorem wu.rows(h : wu R) : j_ cx (jt R)=some (if(R.map spl).any (λws => decide (("" : Str)∈ws))=true then Out.rt (⟨3⟩ : Ek cx) else .nx (R.map spl)) := by
  unfold j_
  rw[h.join.2]
  show(bL _ _ R).bind _=_
  rw[uz (g := spl) (by have := h.few;omega) λx hx => Wr (by have := (h.row x hx).1;omega)]
  show(fD _ (R.map spl) ()).bind _=_
  rw[Gb (p := λws : List Str => decide (("" : Str)∈ws))]
  cases(R.map spl).any (λws => decide (("" : Str)∈ws))<;>rfl
def Ref(cx : Fin 4→Addr)(R : List Str)(i : Fin 4) : Prop := wu R∧bW cx (jt R)=some (.rt ⟨i⟩)
theorem wu.blank(h : wu R)(hb : ∃r∈R, ("" : Str)∈spl r) : Ref cx R 3 := ⟨h, by
  unfold bW
  obtain⟨r, hr, hb⟩ := hb
  rw[h.rows, if_pos (any_eq_true.mpr ⟨spl r, mem_map.mpr ⟨r, hr, rfl⟩, decide_eq_true hb⟩)]
  rfl⟩
end
def mG(w : Str) : Prop := w.length≤10∧fJ w≠[]∧32∉fJ w∧10∉fJ w
instance(w : Str) : Decidable (mG w) := by unfold mG;infer_instance
theorem ju.o(h : ju w) : mG w := ⟨by have := h.1;omega, h.2⟩
structure iJ(ws : List Str) : Prop where
  ne : ws≠[]
  few : ws.length≤64
  word : ∀w∈ws, mG w
theorem RowW.o(h : RowW ws) : iJ ws := ⟨h.1, by have := h.2.1;omega, λw hw => (h.2.2 w hw).o⟩
section
variable{ws : List Str}
theorem iJ.jn(h : iJ ws) : joinM " " ws=some (rt ws)∧(rt ws).length≤704∧10∉fJ (rt ws)∧spl (rt ws)=ws∧("" : Str)∉ws := by
  have f := h.few
  obtain⟨a, b⟩ := Ao 32 (n := 10) (λy hy => (h.word y hy).1) (by omega)
  have b : (rt ws).length≤_ := b
  refine⟨by rw[uT];exact a, by omega, λq => ?_, oK h.ne λw hw => (h.word w hw).2.2.1, λq => (h.word _ q).2.1 (by decide +kernel)⟩
  rcases mem_join q with e|⟨w, hw, e⟩
  · omega
  · exact(h.word w hw).2.2.2 e
theorem Ik(h : iJ ws) : (rt ws).length≤704 := h.jn.2.1
theorem aby(x h : Str)(r : List Str) : x++rt (h::r)=rt ((x++h)::r) := by
  apply nq
  cases r with
  |nil => rfl
  |cons y r =>
    rw[iH]
    show _++fJ (agb ⟨#[32]⟩ (h::y::r))=fJ (agb ⟨#[32]⟩ ((x++h)::y::r))
    rw[kj, kj, iH, append_assoc]
theorem M5(ha : a≠[])(hb : b≠[]) : rt a ++ " " ++ rt b=rt (a++b) := by
  apply nq
  rw[iH, iH, uT]
  show(fJ (rt a)++[32])++fJ (rt b)=fJ (agb ⟨#[32]⟩ (a++b))
  rw[MN ha hb]
  simp[rt]
theorem YX(hw : ws≠[])(x : Str) : rt ws ++ " " ++ x=rt (ws++[x]) := M5 (b := [x]) hw (by simp)
theorem Pb(h : iJ ws) : cV (rt ws)=some (hd0 ws) := by
  have hl := Ik h
  unfold cV Jz
  rw[if_pos (bZ (by omega))]
  show some (af0 (rt ws) " ").1=_
  congr 1
  rw[uT]
  unfold af0
  have one : ∀i, StrLaws.At (rt ws) ⟨#[32]⟩ (rt ws).length i↔(fJ (rt ws))[i]?=some 32 := λi => StrLaws.subAt_one (rt ws) 32 i
  cases hw : ws with
  |nil => exact absurd hw h.ne
  |cons x r =>
  have hx : 32∉fJ x := (h.word x (by rw[hw];exact mem_cons_self)).2.2.1
  cases r with
  |nil =>
    rw[hw] at one
    rcases StrLaws.occ_head (rt [x]) ⟨#[32]⟩ 1 (afj 1) with⟨e, _⟩|⟨i, r, e, hi, _⟩
    · rw[e]
      rfl
    · exact absurd (mem_of_getElem? ((one i).mp hi)) hx
  |cons y r =>
    rw[hw] at one
    have ec : fJ (rt (x::y::r))=fJ x++32::fJ (rt (y::r)) := kj 32 x y r
    have at0 : (fJ (rt (x::y::r)))[(fJ x).length]?=some 32 := by rw[ec];simp
    rcases StrLaws.occ_head (rt (x::y::r)) ⟨#[32]⟩ 1 (afj 1) with⟨_, hn⟩|⟨i, q, e, hi, hn⟩
    · exact absurd ((one _).mpr at0) (hn _)
    · rw[e]
      show PySem.Builtin.Str.strSub (rt (x::y::r)) 0 i=x
      have hi := (one i).mp hi
      have i1 : ¬i<(fJ x).length := λq => by
        rw[ec, getElem?_append_left q] at hi
        exact hx (mem_of_getElem? hi)
      have i2 : ¬(fJ x).length<i := λq => hn _ q ((one _).mpr at0)
      have ie : i=(fJ x).length := by omega
      apply nq
      show(PySem.Builtin.Str.strSub (rt (x::y::r)) 0 i).cps.toList=_
      rw[StrLaws.strSub_toList]
      show((fJ (rt (x::y::r))).drop 0).take (i-0)=_
      rw[ec, ie]
      simp
end
theorem xU{α β ε : Type}{f : α→Option (Out β ε)} : ∀{xs : List α}{ys : List β}, xs.length=ys.length→(∀(i : Nat) x y, xs[i]?=some x→ys[i]?=some y→f x=some (.nx y))→iD f xs=some (.nx ys)
  |[], [], _, _ => rfl
  |x::xs, y::ys, hl, h => by
    have ih := xU (xs := xs) (ys := ys) (by simpa using hl) λi a b ha hb => h (i+1) a b (by simpa using ha) (by simpa using hb)
    unfold iD
    rw[h 0 x y rfl rfl, ih]
    rfl
  |[], _::_, hl, _ => by cases hl
  |_::_, [], hl, _ => by cases hl
theorem t_{α β ε : Type}{f : α→Option (Out β ε)}{e : ε} : ∀{xs : List α}{j : Nat}{x : α}, xs[j]?=some x→f x=some (.rt e)→(∀(i : Nat) y, i<j→xs[i]?=some y→∃b, f y=some (.nx b))→iD f xs=some (.rt e)
  |[], _, _, hj, _, _ => by cases hj
  |y::xs, 0, x, hj, hx, _ => by
    cases hj
    unfold iD
    rw[hx]
    rfl
  |y::xs, j+1, x, hj, hx, h => by
    have ih := t_ (xs := xs) (j := j) (x := x) (by simpa using hj) hx λi z hi hz => h (i+1) z (by omega) (by simpa using hz)
    obtain⟨b, hb⟩ := h 0 y (by omega) rfl
    unfold iD
    rw[hb, ih]
    rfl
theorem ad5 : ∀k, k<100→mG (mz ((aij 10 k).map ai4))∧d_ (mz ((aij 10 k).map ai4)) 2=some true := by decide +kernel
section
variable{cx : Fin 4→Addr}{i : Int}{xs : List Int}
theorem Ws(h0 : 0≤i)(h1 : i<100) : mG (so i)∧d_ (so i) 2=some true := by
  have e : i=((i.toNat : Nat) : Int) := by omega
  rw[e, VJ]
  exact ad5 _ (by omega)
theorem Pg(h0 : 0≤i)(h1 : i<100) : vI i=some (so i) := by
  have e : i=((i.toNat : Nat) : Int) := by omega
  unfold vI
  rw[e, if_pos (lA (by omega))]
  rfl
theorem Wt(h0 : 0≤i)(h1 : i<100) : Hf (so i)=some i := by
  unfold Hf
  rw[if_pos (by have := (Ws h0 h1).1.1;omega)]
  exact PySem.W.KIN.num_reads h0 (by omega)
theorem ad6(h0 : 0≤i)(h1 : i<100) : fX cx (so i) 2=some (.nx i) := by
  unfold fX
  rw[(Ws h0 h1).2, Wt h0 h1]
  rfl
def J9(w : Str) : Prop := d_ w 2=some false∧(reprText w).length≤1000
theorem ae0(h : J9 w) : fX cx w 2=some (.rt ⟨3⟩) := by
  unfold fX
  rw[h.1]
  show(pW (reprText w) (mK 2 (some ()))).bind _=_
  rw[uE h.2]
  rfl
def Di(xs : List Int) : Prop := xs.length≤200∧∀x∈xs, 0≤x∧x<100
theorem xV(h : Di xs) : cW cx (xs.map so)=some (.nx xs) := by
  unfold cW
  rw[if_pos (bZ (by rw[length_map];have := h.1;omega))]
  refine xU (length_map _) λi x y hx hy => ?_
  rw[getElem?_map, hy] at hx
  cases hx
  obtain⟨a, b⟩ := h.2 y (mem_of_getElem? hy)
  exact ad6 a b
theorem Il(h : Di xs)(hw : J9 w) : cW cx (xs.map so++[w])=some (.rt ⟨3⟩) := by
  unfold cW
  have hl : (xs.map so).length=xs.length := length_map _
  rw[if_pos (bZ (by rw[length_append, hl, length_singleton];have := h.1;omega))]
  refine t_ (j := xs.length) (x := w) (by rw[getElem?_append_right (by omega), hl];simp) (ae0 hw) λi y hi hy => ?_
  rw[getElem?_append_left (by omega), getElem?_map] at hy
  obtain⟨z, hz, rfl⟩ := ag6.mp hy
  obtain⟨a, b⟩ := h.2 z (mem_of_getElem? hz)
  exact⟨z, ad6 a b⟩
theorem Di.cons(h : Di xs)(hl : xs.length<200)(h0 : 0≤i)(h1 : i<100) : Di (i::xs) := ⟨by rw[length_cons];omega, λx hx => by
  rcases mem_cons.mp hx with rfl|hx
  · exact⟨h0, h1⟩
  · exact h.2 x hx⟩
theorem Z1(h : Di xs)(hl : xs.length<200)(h0 : 0≤i)(h1 : i<100) : cQ cx i (so i::xs.map so)=some (.nx xs) := by
  unfold cQ
  rw[show so i::xs.map so=(i::xs).map so from rfl, xV (h.cons hl h0 h1)]
  show(if(!decide ((iz (i::xs) none (some (1 : Int)))=[i]))=true then _ else _)=_
  rw[Ia, decide_eq_true rfl, if_neg (by decide), nA]
theorem Ph(h : Di xs)(hl : xs.length<200)(h0 : 0≤i)(h1 : i<100)(hj : 0≤j∧j<100)(ne : i≠j) : cQ cx j (so i::xs.map so)=some (.rt ⟨3⟩) := by
  unfold cQ
  rw[show so i::xs.map so=(i::xs).map so from rfl, xV (h.cons hl h0 h1)]
  show(if(!decide ((iz (i::xs) none (some (1 : Int)))=[j]))=true then(mK j (some ())).bind _ else _)=_
  rw[Ia, decide_eq_false (λq => ne (ahs q).1), if_pos (by decide), qR (by rw[show j=((j.toNat : Nat) : Int) by omega];exact lA (by omega))]
  rfl
theorem ad7(h : Di xs)(hl : xs.length<200)(h0 : 0≤i)(h1 : i<100)(hw : J9 w)(j : Int) : cQ cx j (so i::(xs.map so++[w]))=some (.rt ⟨3⟩) := by
  unfold cQ
  rw[show so i::(xs.map so++[w])=(i::xs).map so++[w] from rfl, Il (h.cons hl h0 h1) hw]
  rfl
theorem markV(h : Di xs) : d8 cx (x::xs.map so)=some (.nx (x, xs)) := by
  unfold d8
  rw[decide_eq_false (by rw[length_cons];omega), if_neg (by decide), nA, xV h]
  show(L2.jL (x::xs.map so) 0).bind _=_
  rw[vA (by decide)]
  rfl
theorem markX(h : Di xs)(hw : J9 w) : d8 cx (x::(xs.map so++[w]))=some (.rt ⟨3⟩) := by
  unfold d8
  rw[decide_eq_false (by rw[length_cons];omega), if_neg (by decide), nA, Il h hw]
  show(L2.jL (x::(xs.map so++[w])) 0).bind _=_
  rw[vA (by decide)]
  rfl
end
def jx(k : Str)(x : Str) : Bool := decide (x=k)
def xW(hs : List Str) : List Str := []++hs.filter (jx "from")++hs.filter (jx "mark")++hs.filter (jx "fair")
noncomputable def stH(hs s4 : List Str)(x6 : Str) : Option (List Str) := (((some hs).bind λxs => bL (λ(x8 : Str) => some (decide (x8=x6))) (λ(x8 : Str) => some x8) xs).bind λa9 => G7 s4 a9).bind λjZ => some jZ
theorem M6{hs s : List Str}(x : Str)(hl : hs.length≤100)(sl : s.length≤300) : stH hs s x=some (s++hs.filter (jx x)) := by
  apply J0
  unfold stH
  rw[au, au, au, aB, yx (λx8 : Str => decide (x8=x)) (λx8 : Str => x8)]
  refine⟨bZ (by omega), ?_⟩
  rw[map_id']
  unfold G7
  have := length_filter_le (λx8 => decide (x8=x)) hs
  rw[if_pos (bZ (by omega)), aB, aB]
  rfl
theorem Wu{hs : List Str}(hl : hs.length≤100) : foldM (stH hs) ["from", "mark", "fair"] []=some (xW hs) := by
  have l1 := length_filter_le (jx "from") hs
  have l2 := length_filter_le (jx "mark") hs
  show(stH hs [] "from").bind (λs => (stH hs s "mark").bind λs => (stH hs s "fair").bind λs => some s)=_
  rw[M6 "from" hl (by show 0≤300;omega)]
  show(stH hs ([]++hs.filter (jx "from")) "mark").bind (λs => (stH hs s "fair").bind λs => some s)=_
  rw[M6 "mark" hl (by rw[nil_append];omega)]
  show(stH hs ([]++hs.filter (jx "from")++hs.filter (jx "mark")) "fair").bind (λs => some s)=_
  rw[M6 "fair" hl (by rw[nil_append, length_append];omega)]
  rfl
def Rz(x : Str) : Nat := if x = "from" then 0 else if x = "mark" then 1 else 2
def Is3(x : Str) : Prop := x = "from" ∨ x = "mark" ∨ x = "fair"
theorem YZ(hx : Is3 x)(hy : Is3 y)(h : Rz x=Rz y) : x=y := by
  rcases hx with rfl|rfl|rfl<;>rcases hy with rfl|rfl|rfl<;>first|rfl|exact absurd h (by decide +kernel)
theorem Pj(h : x∈xW hs) : Is3 x := by
  unfold xW at h
  rw[nil_append] at h
  rcases mem_append.mp h with h|h
  · rcases mem_append.mp h with h|h
    · exact .inl (of_decide_eq_true (mem_filter.mp h).2)
    · exact .inr (.inl (of_decide_eq_true (mem_filter.mp h).2))
  · exact .inr (.inr (of_decide_eq_true (mem_filter.mp h).2))
theorem pw_const{hs : List Str} : (hs.filter (jx k)).Pairwise λa b => Rz a≤Rz b := pairwise_iff_getElem.mpr λi j hi hj _ => by
  have e1 : (hs.filter (jx k))[i]=k := of_decide_eq_true (mem_filter.mp (getElem_mem hi)).2
  have e2 : (hs.filter (jx k))[j]=k := of_decide_eq_true (mem_filter.mp (getElem_mem hj)).2
  rw[e1, e2]
  exact afj _
theorem Wv(hs : List Str) : (xW hs).Pairwise λa b => Rz a≤Rz b := by
  unfold xW
  rw[nil_append]
  refine List.pairwise_append.mpr ⟨List.pairwise_append.mpr ⟨pw_const, pw_const, λa ha b hb => ?_⟩, pw_const, λa ha b hb => ?_⟩
  · have e1 : a = "from" := of_decide_eq_true (mem_filter.mp ha).2
    rw[e1]
    exact afz _
  · have e2 : b = "fair" := of_decide_eq_true (mem_filter.mp hb).2
    rw[e2, show Rz "fair" = 2 by decide +kernel]
    unfold Rz
    split
    · omega
    · split<;>omega
section
variable{cx : Fin 4→Addr}{W : List (List Str)}
theorem Ww(hr : ∀ws∈W, iJ ws)(hl : W.length≤100) : fY cx W=some (if W.map hd0=xW (W.map hd0) then Out.nx () else .rt ⟨3⟩) := by
  unfold fY
  show(bL _ _ W).bind _=_
  rw[uz (g := hd0) (by omega) λws hw => Dg (hr ws hw).ne]
  show(foldM (stH (W.map hd0)) ["from", "mark", "fair"] []).bind _=_
  rw[Wu (by rw[length_map];exact hl)]
  generalize W.map hd0=hs
  by_cases e : hs=xW hs
  · show(if(!decide (hs=xW hs))=true then _ else _)=_
    rw[decide_eq_true e, if_neg (by decide), if_pos e]
  · show(if(!decide (hs=xW hs))=true then _ else _)=_
    rw[decide_eq_false e, if_pos (by decide), if_neg e]
theorem M7(ne : W≠[])(hl : W.length≤100)(hr : ∀ws∈W, iJ ws) : wu (W.map rt) := ⟨by simpa using ne, by rw[length_map];exact hl, λr h => by
  obtain⟨ws, hw, rfl⟩ := mem_map.mp h
  obtain⟨_, a, b, _⟩ := (hr ws hw).jn
  exact⟨by omega, b⟩⟩
theorem abz(hr : ∀ws∈W, iJ ws) : (W.map rt).map spl=W := by
  rw[map_map]
  exact(map_congr_left λws hw => (hr ws hw).jn.2.2.2.1).trans (map_id' W)
theorem J_(ne : W≠[])(hl : W.length≤100)(hr : ∀ws∈W, iJ ws) : j_ cx (jt (W.map rt))=some (.nx W) := by
  rw[(M7 ne hl hr).rows, abz hr, if_neg]
  intro q
  obtain⟨ws, hw, e⟩ := any_eq_true.mp q
  exact(hr ws hw).jn.2.2.2.2 (of_decide_eq_true e)
theorem Gd(ne : W≠[])(hl : W.length≤100)(hr : ∀ws∈W, iJ ws)(hb : W.map hd0≠xW (W.map hd0)) : Ref cx (W.map rt) 3 := ⟨M7 ne hl hr, by
  unfold bW
  rw[J_ ne hl hr]
  show(fY cx W).bind _=_
  rw[Ww hr hl, if_neg hb]
  rfl⟩
theorem behind(hr : ∀ws∈W, iJ ws)(hl : W.length≤100)(x : Str) : b_ W x=some ((W.filter λws => jx x (hd0 ws)).map tail) := by
  unfold b_
  show bL _ _ _=_
  unfold bL
  rw[if_pos (bZ (by omega))]
  refine yW (λws hw => by rw[Dg (hr ws hw).ne];rfl) λws hw => ?_
  cases ws with
  |nil => exact absurd rfl (hr _ hw).ne
  |cons y r => rw[nA];rfl
end
structure Blk(F M H : List (List Str)) : Prop where
  f : ∀ws∈F, iJ ws∧hd0 ws = "from"
  m : ∀ws∈M, iJ ws∧hd0 ws = "mark"
  h : ∀ws∈H, iJ ws∧hd0 ws = "fair"
  few : F.length+(M.length+H.length)≤100
  ne : F++(M++H)≠[]
section
variable{cx : Fin 4→Addr}{F M H : List (List Str)}
theorem Blk.row(h : Blk F M H) : ∀ws∈F++(M++H), iJ ws := λws hw => by
  rcases mem_append.mp hw with hw|hw
  · exact(h.f ws hw).1
  · rcases mem_append.mp hw with hw|hw
    · exact(h.m ws hw).1
    · exact(h.h ws hw).1
theorem Blk.len(h : Blk F M H) : (F++(M++H)).length≤100 := by rw[length_append, length_append];exact h.few
theorem Im(h : ∀ws∈G, iJ ws∧hd0 ws=y) : G.filter (λws => jx x (hd0 ws))=if y=x then G else[] := by
  by_cases e : y=x
  · rw[if_pos e]
    exact uD λws hw => decide_eq_true ((h ws hw).2.trans e)
  · rw[if_neg e]
    exact mD λws hw => decide_eq_false λq => e ((h ws hw).2.symm.trans q)
theorem Blk.flt(h : Blk F M H) : (F++(M++H)).filter (λws => jx "from" (hd0 ws))=F∧(F++(M++H)).filter (λws => jx "mark" (hd0 ws))=M∧(F++(M++H)).filter (λws => jx "fair" (hd0 ws))=H := by
  refine⟨?_, ?_, ?_⟩
  · rw[filter_append, filter_append, Im h.f, Im h.m, Im h.h, if_pos rfl, if_neg V6, if_neg V_, append_nil, append_nil]
  · rw[filter_append, filter_append, Im h.f, Im h.m, Im h.h, if_neg abp, if_pos rfl, if_neg abq, append_nil, nil_append]
  · rw[filter_append, filter_append, Im h.f, Im h.m, Im h.h, if_neg YF, if_neg YG, if_pos rfl, nil_append, nil_append]
theorem Blk.ord(h : Blk F M H) : (F++(M++H)).map hd0=xW ((F++(M++H)).map hd0) := by
  obtain⟨a, b, c⟩ := h.flt
  unfold xW
  rw[filter_map, filter_map, filter_map, nil_append]
  have e : ∀k : Str, (jx k∘hd0)=λws => jx k (hd0 ws) := λ_ => rfl
  rw[e, e, e, a, b, c, ← map_append, ← map_append, append_assoc]
theorem Blk.txt(h : Blk F M H) : wu ((F++(M++H)).map rt) := M7 h.ne h.len h.row
theorem Blk.read(h : Blk F M H) : bW cx (jt ((F++(M++H)).map rt))=(iD (λx5 : Int×(List Str) => cQ cx x5.1 x5.2) (bT (F.map tail))).bind λr => vQ r λsteps => (iD (λx7 : List Str => d8 cx x7) (M.map tail)).bind λr => vQ r λmarks => (iD (λx9 : List Str => cW cx x9) (H.map tail)).bind λr => vQ r λfair => (q9 cx (eN steps) (mq marks) (eN fair)).bind tW := by
  obtain⟨a, b, c⟩ := h.flt
  have few := h.few
  have b1 := behind h.row h.len "from"
  have b2 := behind h.row h.len "mark"
  have b3 := behind h.row h.len "fair"
  rw[a] at b1
  rw[b] at b2
  rw[c] at b3
  unfold bW
  rw[J_ h.ne h.len h.row]
  show(fY cx (F++(M++H))).bind _=_
  rw[Ww h.row h.len, if_pos h.ord]
  show(((b_ (F++(M++H)) "from").bind λa4 => some (bT a4)).bind _).bind _=_
  rw[b1, b2, b3]
  show(if(bT (F.map tail)).length<cap then iD _ (bT (F.map tail)) else none).bind _=_
  rw[if_pos (bZ (by rw[cu, length_map];omega))]
  congr 1
  funext r
  congr 1
  funext steps
  show(if(M.map tail).length<cap then iD _ (M.map tail) else none).bind _=_
  rw[if_pos (bZ (by rw[length_map];omega))]
  congr 1
  funext r
  congr 1
  funext marks
  show(if(H.map tail).length<cap then iD _ (H.map tail) else none).bind _=_
  rw[if_pos (bZ (by rw[length_map];omega))]
def mO(xs : List Int) : Prop := xs.length≤61∧∀x∈xs, 0≤x∧x<100
theorem mO.i(h : mO xs) : Di xs := ⟨by have := h.1;omega, h.2⟩
theorem Blk.Wx(h : Blk F M H){k : Nat}{ws : List Str}(hk : F[k]?=some ws)(hb : cQ cx (k : Int) ws.tail=some (.rt ⟨3⟩))(hp : ∀i : Nat, i<k→∃xs, F[i]?=some (fS ((i : Int), xs))∧mO xs) : Ref cx ((F++(M++H)).map rt) 3 := ⟨h.txt, by
  have kl := bK hk
  have few := h.few
  rw[h.read]
  have e : iD (λx5 : Int×(List Str) => cQ cx x5.1 x5.2) (bT (F.map tail))=some (.rt ⟨3⟩) := by
    refine t_ (j := k) (x := ((k : Int), ws.tail)) (iI (by rw[getElem?_map, hk];rfl)) hb λi y hi hy => ?_
    obtain⟨xs, e1, e2⟩ := hp i hi
    obtain⟨y1, y2⟩ := jP hy
    rw[getElem?_map, e1] at y2
    have y2 : y.2=so (i : Int)::xs.map so := (afm y2).symm
    show∃b, cQ cx y.1 y.2=_
    rw[y1, y2]
    exact⟨xs, Z1 e2.i (by have := e2.1;omega) (by omega) (by omega)⟩
  rw[e]
  rfl⟩
theorem gF{A : List (List Int)}(hl : A.length≤99)(hA : ∀xs∈A, mO xs) : iD (λx5 : Int×(List Str) => cQ cx x5.1 x5.2) (bT (((bT A).map fS).map tail))=some (.nx A) := by
  refine xU (by rw[cu, length_map, length_map, cu]) λi x y hx hy => ?_
  obtain⟨y1, y2⟩ := jP hx
  have il := bK hy
  have hy' := iI hy
  rw[getElem?_map, getElem?_map, hy'] at y2
  have y2 : x.2=so (i : Int)::y.map so := (afm y2).symm
  have q := hA y (mem_of_getElem? hy)
  show cQ cx x.1 x.2=_
  rw[y1, y2]
  exact Z1 q.i (by have := q.1;omega) (by omega) (by omega)
theorem gM(hB : ∀m∈B, mO m.2) : iD (λx7 : List Str => d8 cx x7) ((B.map fM).map tail)=some (.nx B) := by
  refine xU (by rw[length_map, length_map]) λi x y hx hy => ?_
  rw[getElem?_map, getElem?_map, hy] at hx
  cases hx
  exact markV (hB y (mem_of_getElem? hy)).i
theorem gH(hC : ∀xs∈Cc, mO xs) : iD (λx9 : List Str => cW cx x9) ((Cc.map fF).map tail)=some (.nx Cc) := by
  refine xU (by rw[length_map, length_map]) λi x y hx hy => ?_
  rw[getElem?_map, getElem?_map, hy] at hx
  cases hx
  exact xV (hC y (mem_of_getElem? hy)).i
end
structure fZ(T : yU) : Prop where
  la : T.a.length≤60
  ra : ∀xs∈T.a, mO xs
  lb : T.b.length≤11
  rb : ∀m∈T.b, (mG m.1∧NmF m.1)∧mO m.2
  lc : T.c.length≤10
  rc : ∀xs∈T.c, mO xs
  ne : wT T≠[]
section
variable{cx : Fin 4→Addr}{T : yU}{n : Int}
theorem Wy(h : mO xs) : ∀w∈xs.map so, mG w := λw hw => by
  obtain⟨x, hx, rfl⟩ := mem_map.mp hw
  exact(Ws (h.2 x hx).1 (h.2 x hx).2).1
theorem ab0(h : mO xs)(h0 : 0≤i)(h1 : i<100) : iJ (fS (i, xs)) := ⟨by simp[fS], by simp[fS];have := h.1;omega, λw hw => by
  rcases mem_cons.mp hw with rfl|hw
  · exact VR.o
  · rcases mem_cons.mp hw with rfl|hw
    · exact(Ws h0 h1).1
    · exact Wy h w hw⟩
theorem ad8(h : mO xs)(hx : mG x) : iJ (fM (x, xs)) := ⟨by simp[fM], by simp[fM];have := h.1;omega, λw hw => by
  rcases mem_cons.mp hw with rfl|hw
  · exact V0.o
  · rcases mem_cons.mp hw with rfl|hw
    · exact hx
    · exact Wy h w hw⟩
theorem ad9(h : mO xs) : iJ (fF xs) := ⟨by simp[fF], by simp[fF];have := h.1;omega, λw hw => by
  rcases mem_cons.mp hw with rfl|hw
  · exact V1.o
  · exact Wy h w hw⟩
theorem bF(hl : T.a.length≤60)(h : ∀xs∈T.a, mO xs) : ∀ws∈(bT T.a).map fS, iJ ws∧hd0 ws = "from" := λws hw => by
  obtain⟨p, hp, rfl⟩ := mem_map.mp hw
  obtain⟨i, hi⟩ := mem_iff_getElem?.mp hp
  obtain⟨e1, e2⟩ := jP hi
  have := bK e2
  exact⟨ab0 (i := p.1) (h p.2 (mem_of_getElem? e2)) (by omega) (by omega), rfl⟩
theorem bM(h : ∀m∈T.b, mG m.1∧mO m.2) : ∀ws∈T.b.map fM, iJ ws∧hd0 ws = "mark" := λws hw => by
  obtain⟨p, hp, rfl⟩ := mem_map.mp hw
  exact⟨ad8 (h p hp).2 (h p hp).1, rfl⟩
theorem bH(h : ∀xs∈T.c, mO xs) : ∀ws∈T.c.map fF, iJ ws∧hd0 ws = "fair" := λws hw => by
  obtain⟨p, hp, rfl⟩ := mem_map.mp hw
  exact⟨ad9 (h p hp), rfl⟩
theorem fZ.blk(h : fZ T) : Blk ((bT T.a).map fS) (T.b.map fM) (T.c.map fF) := ⟨bF h.la h.ra, bM λm hm => ⟨(h.rb m hm).1.1, (h.rb m hm).2⟩, bH h.rc, by
  rw[length_map, length_map, length_map, cu]
  have := h.la;have := h.lb;have := h.lc
  omega, h.ne⟩
theorem fZ.read(h : fZ T) : bW cx (jt ((wT T).map rt))=(q9 cx (eN T.a) (mq T.b) (eN T.c)).bind tW := by
  unfold wT
  rw[h.blk.read, gF (by have := h.la;omega) h.ra]
  show(iD _ ((T.b.map fM).map tail)).bind _=_
  rw[gM λm hm => (h.rb m hm).2]
  show(iD _ ((T.c.map fF).map tail)).bind _=_
  rw[gH h.rc]
  rfl
theorem rwf(h : mO xs) : Wj (xs.map Mx.mi) := ⟨by rw[length_map];have := h.1;omega, λx hx => by
  obtain⟨z, hz, rfl⟩ := mem_map.mp hx
  have := h.2 z hz
  show z.natAbs.log2<1920
  rw[show z=((z.toNat : Nat) : Int) by omega]
  exact lA (by omega)⟩
abbrev Wz(T : yU) : Prt := ⟨eN T.a, mq T.b, eN T.c⟩
theorem fZ.fine(h : fZ T) : ad4 (Wz T) := ⟨by
  show(T.a.map _).length<1000
  rw[length_map];have := h.la;omega, by
  show(T.b.map _).length≤100
  rw[length_map];have := h.lb;omega, by
  show(T.c.map _).length≤100
  rw[length_map];have := h.lc;omega, λr hr => by
  obtain⟨xs, hx, rfl⟩ := mem_map.mp hr
  exact rwf (h.ra xs hx), λr hr => by
  obtain⟨m, hm, rfl⟩ := mem_map.mp hr
  exact⟨(h.rb m hm).1.2, rwf (h.rb m hm).2⟩, λr hr => by
  obtain⟨xs, hx, rfl⟩ := mem_map.mp hr
  exact rwf (h.rc xs hx)⟩
theorem fZ.ref(h : fZ T)(hr : refusal (Wz T)=some i) : Ref cx ((wT T).map rt) i := ⟨h.blk.txt, by
  rw[h.read, show q9 cx (eN T.a) (mq T.b) (eN T.c)=_ from Wq h.fine, hr]
  rfl⟩
theorem fZ.no(h : fZ T)(hr : refusal (Wz T)=none) : bW cx (jt ((wT T).map rt))=none := by
  rw[h.read, show q9 cx (eN T.a) (mq T.b) (eN T.c)=_ from Wq h.fine, hr]
  rfl
theorem Dj{n : Int} : ∀{xs seen : List Int}, kJ n seen (xs.map Mx.mi)=true↔(∀x∈xs, 0≤x∧x<n)∧xs.Nodup∧∀x∈xs, x∉seen
  |[], seen => by simp[kJ]
  |x::xs, seen => by
    show((decide (0≤x)&&decide (x<n))&&!decide (x∈seen)&&kJ n (seen++[x]) (xs.map Mx.mi))=true↔_
    have ih := Dj (n := n) (xs := xs) (seen := seen++[x])
    rw[agf, ih]
    simp only[agf, decide_eq_true_eq, Bool.not_eq_true', decide_eq_false_iff_not, mem_cons, nodup_cons, mem_append, List.not_mem_nil, or_false]
    constructor
    · rintro⟨⟨⟨a, b⟩, c⟩, d, e, f⟩
      refine⟨λy hy => ?_, ⟨λq => f x q (.inr rfl), e⟩, λy hy => ?_⟩
      · rcases hy with rfl|hy
        · exact⟨a, b⟩
        · exact d y hy
      · rcases hy with rfl|hy
        · exact c
        · exactλq => f y hy (.inl q)
    · rintro⟨a, ⟨b, c⟩, d⟩
      refine⟨⟨a x (.inl rfl), d x (.inl rfl)⟩, λy hy => a y (.inr hy), c, λy hy q => ?_⟩
      rcases q with q|q
      · exact d y (.inr hy) q
      · exact b (q▸hy)
theorem Io(h : gD n xs) : kJ n [] (xs.map Mx.mi)=true := Dj.mpr ⟨h.2.2, h.1, λ_ _ => by simp⟩
theorem yX{xs : List Int}{v : Int}{p : Nat}(h : n≤v∨v∈xs) : kJ n [] ((xs.take p++v::xs.drop p).map Mx.mi)=false := by
  cases e : kJ n [] ((xs.take p++v::xs.drop p).map Mx.mi) with
  |false => rfl
  |true =>
    exfalso
    obtain⟨a, b, _⟩ := Dj.mp e
    rcases h with h|h
    · have := a v (by simp)
      omega
    · have pm : (xs.take p++v::xs.drop p).Perm (v::xs) := List.perm_middle.trans (by rw[take_append_drop])
      have := pm.nodup_iff.mp b
      exact(nodup_cons.mp this).1 h
theorem wz(h : ∀r∈rs, r≠[]∧gD n r)(rest : QX) : h_ n (eN rs++rest)=h_ n rest := by
  induction rs with
  |nil => rfl
  |cons r rs ih =>
    have q := h r mem_cons_self
    show(if kJ n [] (r.map Mx.mi)=true then if(r.map Mx.mi).isEmpty=true then some 1 else h_ n (eN rs++rest) else some 0)=_
    rw[if_pos (Io q.2), if_neg (by cases r with|nil => exact absurd rfl q.1|cons => simp), ih λr hr => h r (mem_cons_of_mem _ hr)]
theorem Ge(h : ∀r∈rs, gD n r)(rest : QX) : qe n (eN rs++rest)=qe n rest := by
  induction rs with
  |nil => rfl
  |cons r rs ih =>
    show(if kJ n [] (r.map Mx.mi)=true then qe n (eN rs++rest) else some 0)=_
    rw[if_pos (Io (h r mem_cons_self)), ih λr hr => h r (mem_cons_of_mem _ hr)]
theorem WD(h : eF x=some true)(hl : x.length≤1000) : nameB x=true := afm ((O_ hl).symm.trans h)
theorem wA : ∀{seen : List Str}, (∀m∈ms, nameB m.1=true∧gD n m.2)→(seen++ms.map (·.1)).Nodup→∀rest : MKM, jw n seen (mq ms++rest)=jw n (seen++ms.map (·.1)) rest := by
  induction ms with
  |nil => intro seen _ _ rest;rw[List.map_nil, append_nil];rfl
  |cons m ms ih =>
    intro seen h hn rest
    obtain⟨a, b⟩ := h m mem_cons_self
    show(if(!nameB m.1)=true then some 2 else if decide (m.1∈seen)=true then some 2 else if kJ n [] (m.2.map Mx.mi)=true then jw n (seen++[m.1]) (mq ms++rest) else some 0)=_
    have hn' : (seen++[m.1]++ms.map (·.1)).Nodup := by rw[append_assoc];exact hn
    have ns : m.1∉seen := λq => (nodup_append.mp hn).2.2 _ q _ (by simp) rfl
    rw[a, if_neg (by decide), decide_eq_false ns, if_neg (by decide), if_pos (Io b), ih (λm hm => h m (mem_cons_of_mem _ hm)) hn' rest, append_assoc]
    rfl
end
def Due(cx : Fin 4→Addr)(Cm : Addr)(due : Str)(made : List Str) : Prop := joinM "\n" made=some (jt made)∧∀b, kh cx (eZ Cm) (jt made) b=some due
section
variable{cx : Fin 4→Addr}{Cm : Addr}{R : List Str}{i : Fin 4}{T : yU}{n : Int}
theorem Ref.due(h : Ref cx R i) : Due cx Cm (nm4 i) R := ⟨h.1.join.1, λb => by
  unfold kh oJ
  rw[h.2]
  cases b<;>rfl⟩
theorem aQ.w(h : aQ n T) : fZ T := by
  have l := h.len
  have f := h.few
  refine⟨by omega, λxs hx => ?_, by have := h.names.1;omega, λm hm => ?_, h.fair.1, λxs hx => ?_, (wk h).2⟩
  · obtain⟨a, b⟩ := xR (h.row xs hx).2 f
    exact⟨by omega, λx hx => by have := b x hx;omega⟩
  · obtain⟨a, b⟩ := xR (h.marks.2.2 m hm).2.2 f
    obtain⟨w, asc⟩ := h.names.2 m hm
    refine⟨⟨w.o, ?_, ?_⟩, by omega, λx hx => by have := b x hx;omega⟩
    · have := w.1;omega
    · have := StrLaws.reprText_len m.1 λc hc => ajk (asc c hc) (by decide)
      have := w.1
      omega
  · obtain⟨a, b⟩ := xR (h.fair.2 xs hx) f
    exact⟨by omega, λx hx => by have := b x hx;omega⟩
theorem lC(e : (T.a.length : Int)=n) : refusal (Wz T)=(zL n).or ((h_ n (eN T.a)).or ((jw n [] (mq T.b)).or (qe n (eN T.c)))) := by
  have e : ((eN T.a).length : Int)=n := by unfold eN;rw[length_map];exact e
  unfold refusal
  show(zL ((eN T.a).length : Int)).or ((h_ ((eN T.a).length : Int) (eN T.a)).or ((jw ((eN T.a).length : Int) [] (mq T.b)).or (qe ((eN T.a).length : Int) (eN T.c))))=_
  rw[e]
theorem Gf(h0 : 1≤n)(h1 : n≤60) : zL n=none := by
  unfold zL
  rw[decide_eq_false (by omega), decide_eq_false (by omega)]
  rfl
theorem Ip{rs : List (List Int)}(h : ∀r∈rs, r≠[]∧gD n r) : h_ n (eN rs)=none := by
  have := wz h []
  rw[append_nil] at this
  exact this
theorem aea{rs : List (List Int)}(h : ∀r∈rs, gD n r) : qe n (eN rs)=none := by
  have := Ge h []
  rw[append_nil] at this
  exact this
theorem qO.nm{ms : List (Str×List Int)}(h : qO n ms) : ∀m∈ms, nameB m.1=true∧gD n m.2 := λm hm => ⟨WD (h.2.2 m hm).1 (h.2.2 m hm).2.1, (h.2.2 m hm).2.2⟩
theorem WK{ms : List (Str×List Int)}(h : qO n ms) : jw n [] (mq ms)=none := by
  have := wA (seen := []) h.nm (by rw[nil_append];exact h.1) []
  rw[append_nil] at this
  exact this
theorem aQ.no(h : aQ n T) : refusal (Wz T)=none := by
  rw[lC h.len, Gf h.pos h.few, Ip h.row, WK h.marks, aea h.fair.2]
  rfl
theorem WL(h : aQ n T) : Due cx Cm "by" ((wT T).map rt) := ⟨h.w.blk.txt.join.1, λb => by
  obtain⟨m, e, _⟩ := uU Cm h
  have e : cB Cm (jt ((wT T).map rt))=some m := e
  unfold kh oJ eZ
  rw[h.w.no h.no, e]
  cases b<;>rfl⟩
theorem xX(h : aQ n T) : ((wT T).map rt).length=(wT T).length∧0<(wT T).length∧(wT T).length≤80 := by
  obtain⟨a, b⟩ := wk h
  refine⟨length_map _, ?_, a⟩
  cases e : wT T with
  |nil => exact absurd e b
  |cons => simp
theorem q_{N : Nat}(pl : Int)(h : 0<N) : ∃k : Nat, pl%(N : Int)=(k : Int)∧k<N := by
  have a := ag4 pl (show(N : Int)≠0 by omega)
  have b := agt pl (show 0<(N : Int) by omega)
  exact⟨(pl%(N : Int)).toNat, by omega, by omega⟩
theorem wB(h : aQ n T) : ∀ws∈wT T, iJ ws := λws hw => (qQ h ws hw).o
theorem atT{W : List (List Str)}{k : Nat}{ws : List Str}(h : W[k]?=some ws) : (W.map rt)[((k : Nat) : Int).toNat]?=some (rt ws) := by
  rw[agz, getElem?_map, h]
  rfl
theorem Rg{W : List (List Str)}{k : Nat}{ws : List Str} : (W.map rt).set ((k : Nat) : Int).toNat (rt ws)=(W.set k ws).map rt := by
  rw[agz, map_set]
theorem Y0{k : Nat}{x : Str}(h : wu R)(hx : x.length≤750∧10∉fJ x) : wu (R.set k x) := ⟨λq => h.ne (by simpa using q), by rw[length_set];exact h.few, λr hr => by
  rcases mem_or_eq_of_mem_set hr with q|q
  · exact h.row r q
  · rw[q];exact hx⟩
theorem Y4{x : Str}{k : Nat}(h : x.length≤9000)(hk : k≤x.length) : ∃y, UW x (k : Int)=some y∧fJ y=(fJ x).take k := by
  unfold UW
  rw[if_pos h]
  refine⟨_, rfl, ?_⟩
  have e : ai2 x none (some (k : Int))=StrLaws.sliceText x none (some (k : Int)) := rfl
  rw[e, StrLaws.sliceText_to ⟨by omega, by show(k : Int)≤((fJ x).length : Int);rw[lQ];omega⟩]
  show((x.cps.toList.drop 0).take ((k : Int)-0).toNat)=_
  rw[List.drop_zero, show((k : Int)-0).toNat=k by omega]
  rfl
theorem Y5{x : Str}{k : Nat}(h : x.length≤9000)(hk : k≤x.length) : ∃y, U0 x (k : Int)=some y∧fJ y=(fJ x).drop k := by
  unfold U0
  rw[if_pos h]
  refine⟨_, rfl, ?_⟩
  have e : ai2 x (some (k : Int)) none=StrLaws.sliceText x (some (k : Int)) none := rfl
  have lx : x.cps.toList.length=x.length := lQ x
  rw[e, StrLaws.sliceText_from ⟨by omega, by rw[lx];omega⟩]
  show((x.cps.toList.drop (k : Int).toNat).take ((x.cps.toList.length : Int)-(k : Int)).toNat)=_
  rw[show(k : Int).toNat=k by omega, take_of_length_le (by rw[length_drop];omega)]
  rfl
theorem ae1{y z : Str}(h : y=⟨#[]⟩∨z=⟨#[]⟩∨∃r, fJ z=32::r) : ("" : Str)∈spl (y++⟨#[32]⟩++z) := by
  unfold spl
  rw[Ga, M4]
  rcases h with h|h|⟨r, h⟩
  · rw[h, xT];simp
  · rw[h, xT];simp
  · have e : z=(⟨#[]⟩ : Str)++⟨#[32]⟩++mz r := by
      apply nq
      rw[h, iH, iH, Df]
      rfl
    rw[e, Ga, xT]
    simp
theorem Dk{α β : Type}{c c' : α→Option Bool}{f : α→Option β} : ∀{xs : List α}, (∀x∈xs, c x=c' x)→dz c f xs=dz c' f xs
  |[], _ => rfl
  |x::xs, h => by
    show(c x).bind _=(c' x).bind _
    rw[h x mem_cons_self, Dk (xs := xs) λy hy => h y (mem_cons_of_mem _ hy)]
theorem wC{α β : Type}{c c' : α→Option Bool}{f : α→Option β}{xs : List α}(h : ∀x∈xs, c x=c' x) : bL c f xs=bL c' f xs := by
  unfold bL
  rw[Dk h]
theorem ae2(h : aQ n T)(pl ce : Int) : W (p8 ((wT T).map rt) pl ce) λr => Due cx Cm r.1 r.2 := by
  obtain⟨e1, e2, e3⟩ := xX h
  obtain⟨k0, ek0, kl0⟩ := q_ pl e2
  have hws := afi kl0
  have DN := wB h _ (mem_of_getElem? hws)
  generalize(wT T)[k0]=ws at hws DN
  have tx := h.w.blk.txt
  have tx : wu ((wT T).map rt) := tx
  obtain⟨_, rl, r10, _, _⟩ := DN.jn
  unfold p8
  rw[au, aB, au, dG]
  refine⟨by omega, ?_⟩
  rw[e1, ek0, au, uI (by omega)]
  refine⟨rt ws, atT hws, ?_⟩
  generalize hx : rt ws=x at rl r10
  have ls : zQ x=some (x.length : Int) := by unfold zQ;rw[if_pos (bZ (by omega))]
  have hix : ∀k∈rng (x.length : Int), ((W6 x k).bind λa11 => some (decide (a11=(" " : Str))))=some (decide ((fJ x)[k.toNat]?=some 32)) := λk hk => by
    have hk : 0≤k∧k<x.length := GR.mp hk
    unfold W6
    rw[if_pos ⟨hk.1, by omega, hk.2⟩]
    have lt : k.toNat<(fJ x).length := by rw[lQ];omega
    have e : x.cps[k.toNat]?=some ((fJ x)[k.toNat]) := by
      have := afi lt
      rw[← this]
      show _=x.cps.toList[k.toNat]?
      rw[Array.getElem?_toList]
    rw[e, afi lt, uT]
    show some (decide ((⟨#[(fJ x)[k.toNat]]⟩ : Str)=⟨#[32]⟩))=some (decide (some ((fJ x)[k.toNat])=some 32))
    congr 1
    rw[decide_eq_decide]
    constructor
    · intro q
      have := congrArg fJ q
      have this : [(fJ x)[k.toNat]]=[32] := this
      rw[ahs this |>.1]
    · intro q
      rw[afm q]
  rw[au, au, au, au, ls, aB, aB, aB, au, au, au, aB, mZ]
  refine⟨by omega, ?_⟩
  have rl2 := oU (n := (x.length : Int)) (by omega)
  rw[wC hix, yx (λk : Int => decide ((fJ x)[k.toNat]?=some 32)) (λk : Int => k)]
  refine⟨bZ (by omega), ?_⟩
  unfold pO
  have fl : ((rng (x.length : Int)).filter λk : Int => decide ((fJ x)[k.toNat]?=some 32)).length≤900 := afl (length_filter_le _ _) (by omega)
  rw[if_pos (by rw[length_map];simp only[length_cons, length_nil];exact af6 (bZ (by omega))), aB]
  obtain⟨Z2, hsp⟩ : ∃Z2 : List Int, Z2=[(0 : Int), (x.length : Int)]++(((rng (x.length : Int)).filter λk : Int => decide ((fJ x)[k.toNat]?=some 32)).map λk => k) := ⟨_, rfl⟩
  have inv : ∀k∈Z2, ∃n : Nat, k=(n : Int)∧n≤x.length∧(n=0∨n=x.length∨(fJ x)[n]?=some 32) := λk hk => by
    rw[hsp] at hk
    rcases mem_append.mp hk with q|q
    · rcases mem_cons.mp q with q|q
      · exact⟨0, q, afz _, .inl rfl⟩
      · exact⟨x.length, mem_singleton.mp q, afj _, .inr (.inl rfl)⟩
    · rw[map_id'] at q
      obtain⟨q1, q2⟩ := mem_filter.mp q
      have hk := GR.mp q1
      exact⟨k.toNat, by omega, by omega, .inr (.inr (of_decide_eq_true q2))⟩
  have ns : 0<Z2.length := by rw[hsp];simp
  rw[← hsp, au, au, dG]
  refine⟨by omega, ?_⟩
  have m0 := ag4 ce (show(Z2.length : Int)≠0 by omega)
  have m1 := agt ce (show 0<(Z2.length : Int) by omega)
  rw[uI m0]
  have hlt : (ce%(Z2.length : Int)).toNat<Z2.length := by omega
  refine⟨_, afi hlt, ?_⟩
  obtain⟨k, ek, kl, kc⟩ := inv _ (getElem_mem hlt)
  rw[ek]
  obtain⟨y, ey, cy⟩ := Y4 (x := x) (by omega) kl
  obtain⟨z, ez, cz⟩ := Y5 (x := x) (by omega) kl
  have l1 : y.length+z.length=x.length := by
    rw[← lQ y, ← lQ z, ← lQ x, cy, cz, ← length_append, take_append_drop]
  rw[au, au, au, au, ey, aB, uT, qT (by show _+1≤_;omega), aB, au, ez, aB, qT (by rw[len_app];show _+1+_≤_;omega), aB, Br (by omega) (by rw[e1];omega), aB]
  have hin : ("" : Str)∈spl (y++⟨#[32]⟩++z) := by
    refine ae1 ?_
    rcases kc with kc|kc|kc
    · exact .inl (nq (by rw[cy, kc];rfl))
    · exact .inr (.inl (nq (by rw[cz, kc, ← lQ, List.drop_length];rfl)))
    · have lt : k<(fJ x).length := by
        rcases Nat.lt_or_ge k (fJ x).length with q|q
        · exact q
        · rw[agx q] at kc;cases kc
      rw[afi lt] at kc
      exact .inr (.inr ⟨(fJ x).drop (k+1), by rw[cz, List.drop_eq_getElem_cons lt, afm kc]⟩)
  have hr : Ref cx (((wT T).map rt).set ((k0 : Int)).toNat (y++⟨#[32]⟩++z)) 3 := by
    refine(Y0 tx ⟨?_, λq => ?_⟩).blank ⟨_, mem_iff_getElem?.mpr ⟨k0, ?_⟩, hin⟩
    · rw[len_app, len_app]
      show _+1+_≤_
      omega
    · rw[iH, iH] at q
      rcases mem_append.mp q with q|q
      · rcases mem_append.mp q with q|q
        · rw[cy] at q;exact r10 (mem_of_mem_take q)
        · exact absurd q (by decide)
      · rw[cz] at q;exact r10 (mem_of_mem_drop q)
    · rw[agz, getElem?_set_self (by omega)]
  exact hr.due
theorem M8{β : Type}{W : List (List Str)}{f : Str→Option β}{g : List Str→β}(hr : ∀ws∈W, iJ ws)(hl : W.length≤100)(k : Str)(b : Bool)(hf : ∀ws∈W, (jx k (hd0 ws)==b)=true→f (rt ws)=some (g ws)) : bL (λ(x : Str) => (cV x).bind λa => some (decide (a=k)==b)) f (W.map rt)=some ((W.filter λws => jx k (hd0 ws)==b).map g) := by
  unfold bL
  rw[if_pos (bZ (by rw[length_map];omega))]
  clear hl
  induction W with
  |nil => rfl
  |cons ws W ih =>
    have ih := ih (λw hw => hr w (mem_cons_of_mem _ hw)) λw hw => hf w (mem_cons_of_mem _ hw)
    show((cV (rt ws)).bind λa => some (decide (a=k)==b)).bind _=_
    rw[Pb (hr ws mem_cons_self)]
    show(some (jx k (hd0 ws)==b)).bind _=_
    cases hb : (jx k (hd0 ws)==b) with
    |true =>
      show(f (rt ws)).bind _=_
      rw[hf ws mem_cons_self hb, filter_cons, if_pos hb]
      show(dz _ _ (W.map rt)).bind _=_
      rw[ih]
      rfl
    |false =>
      show dz _ _ (W.map rt)=_
      rw[ih, filter_cons, if_neg (by rw[hb];decide)]
theorem kinds{W : List (List Str)}(hr : ∀ws∈W, iJ ws)(hl : W.length≤100)(k : Str) : bL (λ(x : Str) => (cV x).bind λa => some (decide (a=k))) (λx : Str => some x) (W.map rt)=some ((W.filter λws => jx k (hd0 ws)).map rt) := by
  have := M8 (f := λx : Str => some x) (g := rt) hr hl k true λ_ _ _ => rfl
  simpa using this
noncomputable def Ka(q0 : List Str)(q1 q2 q3 : Int)(m : List Str) : Option (Str×(List Str)) := (((some q0).bind λxs => bL (λ(x37 : Str) => (cV x37).bind λa38 => some (decide (a38=("from" : Str)))) (λ(x37 : Str) => some x37) xs).bind λa39 => some (a39.length : Int)).bind λlB => ((if(decide (q1=(4 : Int)))=true then((dW q3 (2 : Int)).bind λa40 => some (decide (a40=(1 : Int)))).bind λc41 => if c41=true then some (decide ((1 : Int)<lB)) else some false else some false).bind λb => if b=true then((dW q2 (lB-(1 : Int))).bind λa45 => vP m a45).bind λv8 => some v8 else(if(decide (q1=(4 : Int)))=true then(((dW q2 lB).bind λb49 => jL q0 b49).bind λb50 => Dr m (0 : Int) b50).bind λv9 => some v9 else some m).bind λs46 => some s46).bind λs42 => some ((("text" : Str), s42))
theorem tail_eq(h : aQ n T){q1 : Int}(h4 : q1≠4)(q2 q3 : Int)(m : List Str) : Ka ((wT T).map rt) q1 q2 q3 m=some (("text" : Str), m) := by
  unfold Ka
  show((bL _ _ ((wT T).map rt)).bind _).bind _=_
  rw[kinds (wB h) (by have := (xX h).2.2;omega) "from", decide_eq_false h4]
  rfl
theorem ae3(h : aQ n T)(pl ce : Int) : W (fQ ((wT T).map rt) 1 pl ce) λr => Due cx Cm r.1 r.2 := by
  obtain⟨e1, e2, e3⟩ := xX h
  have tx : wu ((wT T).map rt) := h.w.blk.txt
  obtain⟨k, ek, kl⟩ := q_ (N := (wT T).length+1) ce (by omega)
  have hk : ce%(((wT T).map rt).length+1 : Int)=(k : Int) := by rw[e1];exact ek
  unfold fQ
  rw[au, aB, au, dG]
  refine⟨by omega, ?_⟩
  rw[if_pos (by decide), au, au, au, dG]
  refine⟨by omega, ?_⟩
  rw[hk]
  unfold Dr
  rw[if_pos ⟨by omega, by omega, bZ (by omega)⟩, aB, aB, au, if_neg (by decide), aB, au, if_neg (by decide), aB, N8]
  show W (Ka ((wT T).map rt) 1 pl ce (vJ ((k : Int)).toNat ("" : Str) ((wT T).map rt))) _
  rw[tail_eq h (by decide), aB]
  have hr : Ref cx (vJ ((k : Int)).toNat ("" : Str) ((wT T).map rt)) 3 := by
    unfold vJ
    refine wu.blank ⟨by simp, ?_, λr hr => ?_⟩ ⟨"", by simp, by unfold spl;rw[M4, xT];simp⟩
    · simp only[length_append, length_take, length_cons, length_drop]
      omega
    · rcases mem_append.mp hr with q|q
      · exact tx.row r (mem_of_mem_take q)
      · rcases mem_cons.mp q with q|q
        · rw[q];exact⟨by decide, by decide⟩
        · exact tx.row r (mem_of_mem_drop q)
  exact hr.due
def ab1 : List Str := ["x", "-", "F", "0", ":", "from", "fair"]
theorem Y6 : ∀x∈ab1, ∀k∈(["from", "mark", "fair"] : List Str), mG (x++k)∧x++k ≠ "from" ∧ x++k ≠ "mark" ∧ x++k ≠ "fair" := by decide +kernel
theorem hd3(h : aQ n T) : ∀ws∈wT T, hd0 ws∈(["from", "mark", "fair"] : List Str) := λws hw => by
  have : hd0 ws∈(wT T).map hd0 := mem_map.mpr ⟨ws, hw, rfl⟩
  rw[show(wT T).map hd0=xW ((wT T).map hd0) from h.w.blk.ord] at this
  rcases Pj this with e|e|e<;>rw[e]<;>simp
theorem ae4{W : List (List Str)}(ne : W≠[])(hl : W.length≤100)(hr : ∀ws∈W, iJ ws){ws : List Str}(hw : ws∈W)(hb : hd0 ws ≠ "from" ∧ hd0 ws ≠ "mark" ∧ hd0 ws ≠ "fair") : Ref cx (W.map rt) 3 := Gd ne hl hr λe => by
  have : hd0 ws∈W.map hd0 := mem_map.mpr ⟨ws, hw, rfl⟩
  rw[e] at this
  rcases Pj this with q|q|q
  · exact hb.1 q
  · exact hb.2.1 q
  · exact hb.2.2 q
theorem Kc(h : aQ n T){k : Nat}{ws : List Str}(hw : iJ ws) : (wT T).set k ws≠[]∧((wT T).set k ws).length≤100∧∀v∈(wT T).set k ws, iJ v := by
  obtain⟨_, e2, e3⟩ := xX h
  refine⟨λq => ?_, by rw[length_set];omega, λv hv => ?_⟩
  · have := congrArg length q
    rw[length_set] at this
    simp at this
    rw[this] at e2
    exact absurd e2 (by decide)
  · rcases mem_or_eq_of_mem_set hv with q|q
    · exact wB h v q
    · rw[q];exact hw
theorem ae5(h : aQ n T)(pl ce : Int) : W (fQ ((wT T).map rt) 2 pl ce) λr => Due cx Cm r.1 r.2 := by
  obtain⟨e1, e2, e3⟩ := xX h
  obtain⟨k, ek, kl⟩ := q_ pl e2
  have hws := afi kl
  have hmem := mem_of_getElem? hws
  generalize(wT T)[k]=ws at hws hmem
  have DN := wB h _ hmem
  have h3 := hd3 h ws hmem
  have rl := Ik DN
  unfold fQ
  rw[au, aB, au, dG]
  refine⟨by omega, ?_⟩
  rw[e1, ek, if_neg (by decide), au, aB, if_pos (by decide), au, au, au, au, au, dG]
  refine⟨by decide, ?_⟩
  have hm : 0≤ce%8∧ce%8<8 := by omega
  rw[uI hm.1]
  have fin : ∀(P : Str)(ws' : List Str), P.length≤10→P++rt ws=rt ws'→iJ ws'→(hd0 ws' ≠ "from" ∧ hd0 ws' ≠ "mark" ∧ hd0 ws' ≠ "fair")→W ((L2.jL ((wT T).map rt) (k : Int)).bind λb12 => rT P b12) λa13 => W (setAt ((wT T).map rt) (k : Int) a13) λa => W (some a) λs7 => W (((if(decide ((2 : Int)=(3 : Int)))=true then none else some (.nx ((k : Int), s7))) : Option (Out (Int×(List Str)) (Str×(List Str)))).bind λo => o.els λAl => Ka ((wT T).map rt) 2 pl ce Al.2) λr => Due cx Cm r.1 r.2 := λP ws' lp er ro hb => by
    rw[au, uI (by omega)]
    refine⟨rt ws, atT hws, ?_⟩
    rw[qT (by omega), aB, er, Br (by omega) (by rw[e1];omega), aB, if_neg (by decide), au, aB, N8, tail_eq h (by decide), aB, Rg]
    obtain⟨s1, s2, s3⟩ := Kc h (k := k) ro
    exact(ae4 s1 s2 s3 (ws := ws') (mem_iff_getElem?.mpr ⟨k, getElem?_set_self kl⟩) hb).due
  cases hw : ws with
  |nil => exact absurd hw DN.ne
  |cons y r =>
  have hy : y∈(["from", "mark", "fair"] : List Str) := by rw[hw] at h3;exact h3
  have p7 : ∀x∈ab1, x.length≤10∧x++rt ws=rt ((x++y)::r)∧iJ ((x++y)::r)∧(hd0 ((x++y)::r) ≠ "from" ∧ hd0 ((x++y)::r) ≠ "mark" ∧ hd0 ((x++y)::r) ≠ "fair") := λx hx => by
    obtain⟨o, ne⟩ := Y6 x hx y hy
    refine⟨?_, by rw[hw];exact aby x y r, ⟨by simp, by have := DN.few;rw[hw] at this;exact this, λw hw' => ?_⟩, ne⟩
    · have := o.1
      rw[len_app] at this
      omega
    · rcases mem_cons.mp hw' with q|q
      · rw[q];exact o
      · exact DN.word w (by rw[hw];exact mem_cons_of_mem _ q)
  have f7 : ∀x∈ab1, _ := λx hx => fin x _ (p7 x hx).1 (p7 x hx).2.1 (p7 x hx).2.2.1 (p7 x hx).2.2.2
  have f8 := fin "markk " ("markk" :: ws) (by decide +kernel) (by
    have := M5 (a := ["markk"]) (b := ws) (by simp) DN.ne
    rw[← show(("markk" : Str) ++ " ") = "markk " by decide +kernel]
    exact this) ⟨by simp, by rw[length_cons];have := (qQ h ws hmem).2.1;omega, λw hw' => by
      rcases mem_cons.mp hw' with q|q
      · rw[q];decide +kernel
      · exact DN.word w q⟩ (by show("markk" : Str) ≠ "from" ∧ ("markk" : Str) ≠ "mark" ∧ ("markk" : Str) ≠ "fair"; decide +kernel)
  have hc : (ce%8).toNat<8 := by omega
  generalize(ce%8).toNat=c at hc
  match c, hc with
  |0, _ => exact⟨_, rfl, f7 "x" (by decide +kernel)⟩
  |1, _ => exact⟨_, rfl, f7 "-" (by decide +kernel)⟩
  |2, _ => exact⟨_, rfl, f7 "F" (by decide +kernel)⟩
  |3, _ => exact⟨_, rfl, f7 "0" (by decide +kernel)⟩
  |4, _ => exact⟨_, rfl, f7 ":" (by decide +kernel)⟩
  |5, _ => exact⟨_, rfl, f7 "from" (by decide +kernel)⟩
  |6, _ => exact⟨_, rfl, f7 "fair" (by decide +kernel)⟩
  |7, _ => exact⟨_, rfl, f8⟩
end
section
variable{cx : Fin 4→Addr}{Cm : Addr}{R : List Str}{i : Fin 4}{T : yU}{n : Int}
theorem WM(T : yU)(hk : k<(wT T).length) :
    (∃xs, T.a[k]?=some xs∧(wT T)[k]?=some (fS ((k : Int), xs))∧∀ws, (wT T).set k ws=((bT T.a).map fS).set k ws++(T.b.map fM++T.c.map fF)) ∨
    (∃j m, T.b[j]?=some m∧(wT T)[k]?=some (fM m)∧∀ws, (wT T).set k ws=(bT T.a).map fS++((T.b.map fM).set j ws++T.c.map fF)) ∨
    (∃j xs, T.c[j]?=some xs∧(wT T)[k]?=some (fF xs)∧∀ws, (wT T).set k ws=(bT T.a).map fS++(T.b.map fM++(T.c.map fF).set j ws)) := by
  have la : ((bT T.a).map fS).length=T.a.length := by rw[length_map, cu]
  have lb : (T.b.map fM).length=T.b.length := length_map _
  have lc : (T.c.map fF).length=T.c.length := length_map _
  unfold wT at hk ⊢
  rw[length_append, length_append, la, lb, lc] at hk
  by_cases h1 : k<T.a.length
  · left
    have ha := afi h1
    refine⟨_, ha, ?_, λws => ?_⟩
    · rw[getElem?_append_left (by omega), getElem?_map, iI ha];rfl
    · rw[set_append, if_pos (by omega)]
  · by_cases h2 : k-T.a.length<T.b.length
    · right;left
      have hb := afi h2
      refine⟨k-T.a.length, _, hb, ?_, λws => ?_⟩
      · rw[getElem?_append_right (by omega), la, getElem?_append_left (by omega), getElem?_map, hb];rfl
      · rw[set_append, if_neg (by omega), la, set_append, if_pos (by omega)]
    · right;right
      have h3 : k-T.a.length-T.b.length<T.c.length := by omega
      have hc := afi h3
      refine⟨k-T.a.length-T.b.length, _, hc, ?_, λws => ?_⟩
      · rw[getElem?_append_right (by omega), la, getElem?_append_right (by omega), lb, getElem?_map, hc];rfl
      · rw[set_append, if_neg (by omega), la, set_append, if_neg (by omega), lb]
theorem aQ.i60(h : aQ n T) : (∀xs∈T.a, mO xs)∧(∀m∈T.b, mG m.1∧mO m.2)∧∀xs∈T.c, mO xs := ⟨h.w.ra, λm hm => ⟨(h.w.rb m hm).1.1, (h.w.rb m hm).2⟩, h.w.rc⟩
theorem mem_set{P : List Str→Prop}{L : List (List Str)}{j : Nat}{ws : List Str}(h : ∀v∈L, P v)(hw : P ws) : ∀v∈L.set j ws, P v := λv hv => by
  rcases mem_or_eq_of_mem_set hv with q|q
  · exact h v q
  · rw[q];exact hw
theorem atS(h : aQ n T){i : Nat}(hi : i<T.a.length) : ∃xs, ((bT T.a).map fS)[i]?=some (fS ((i : Int), xs))∧mO xs∧T.a[i]?=some xs := by
  have ha := afi hi
  exact⟨_, by rw[getElem?_map, iI ha];rfl, h.i60.1 _ (mem_of_getElem? ha), ha⟩
theorem Kd(h : aQ n T) : T.a.length≤60∧T.b.length≤10∧T.c.length≤10∧1≤T.a.length := by
  have l := h.len;have f := h.few;have p := h.pos
  exact⟨by omega, h.names.1, h.fair.1, by omega⟩
theorem aeb(h : RowW ws)(hw : mG w) : iJ (ws++[w]) := ⟨by simp, by rw[length_append];have := h.2.1;show _+1≤_;omega, λv hv => by
  rcases mem_append.mp hv with q|q
  · exact(h.2.2 v q).o
  · rw[mem_singleton.mp q];exact hw⟩
theorem Rh(h : aQ n T){F M H : List (List Str)}(hF : F.length≤T.a.length+1)(hM : M.length≤T.b.length+1)(hH : H.length≤T.c.length) : F.length+(M.length+H.length)≤100 := by
  obtain⟨a, b, c, _⟩ := Kd h
  omega
theorem WQ(h : aQ n T){k : Nat}{ws : List Str}{w : Str}(hk : (wT T)[k]?=some ws)(hw : mG w)(hn : J9 w) : Ref cx (((wT T).set k (ws++[w])).map rt) 3 := by
  obtain⟨iA, iB, iC⟩ := h.i60
  have hl := bK hk
  have DN := aeb (qQ h ws (mem_of_getElem? hk)) hw
  have pw := h.w
  obtain⟨s1, _, _⟩ := Kc h (k := k) DN
  rcases WM T hl with⟨xs, ea, ew, es⟩|⟨j, m, eb, ew, es⟩|⟨j, xs, ec, ew, es⟩
  · have ha := bK ea
    rw[ew] at hk
    cases hk
    rw[es] at s1 ⊢
    have b : Blk (((bT T.a).map fS).set k (fS ((k : Int), xs)++[w])) (T.b.map fM) (T.c.map fF) := ⟨mem_set (bF pw.la iA) ⟨DN, rfl⟩, bM iB, bH iC, Rh h (by rw[length_set, length_map, cu];omega) (by rw[length_map];omega) (by rw[length_map];omega), s1⟩
    refine b.Wx (k := k) (getElem?_set_self (by rw[length_map, cu];exact ha)) ?_ λi hi => ?_
    · exact ad7 (iA xs (mem_of_getElem? ea)).i (by have := (iA xs (mem_of_getElem? ea)).1;omega) (by omega) (by have := pw.la;omega) hn _
    · obtain⟨ys, e1, e2, _⟩ := atS h (show i<T.a.length by omega)
      exact⟨ys, by rw[getElem?_set_ne (by omega)];exact e1, e2⟩
  · rw[ew] at hk
    cases hk
    rw[es] at s1 ⊢
    have b : Blk ((bT T.a).map fS) ((T.b.map fM).set j (fM m++[w])) (T.c.map fF) := ⟨bF pw.la iA, mem_set (bM iB) ⟨DN, rfl⟩, bH iC, Rh h (by rw[length_map, cu];omega) (by rw[length_set, length_map];omega) (by rw[length_map];omega), s1⟩
    refine⟨b.txt, ?_⟩
    rw[b.read, gF (by have := pw.la;omega) iA]
    have e : iD (λx7 : List Str => d8 cx x7) (((T.b.map fM).set j (fM m++[w])).map tail)=some (.rt ⟨3⟩) := by
      refine t_ (j := j) (x := (fM m++[w]).tail) (by rw[getElem?_map, getElem?_set_self (by rw[length_map];exact bK eb)];rfl) (markX (iB m (mem_of_getElem? eb)).2.i hn) λi y hi hy => ?_
      rw[getElem?_map, getElem?_set_ne (by omega), getElem?_map] at hy
      obtain⟨v, hv, rfl⟩ := ag6.mp hy
      obtain⟨u, hu, rfl⟩ := ag6.mp hv
      exact⟨u, markV (iB u (mem_of_getElem? hu)).2.i⟩
    show(iD _ _).bind _=_
    rw[e]
    rfl
  · rw[ew] at hk
    cases hk
    rw[es] at s1 ⊢
    have b : Blk ((bT T.a).map fS) (T.b.map fM) ((T.c.map fF).set j (fF xs++[w])) := ⟨bF pw.la iA, bM iB, mem_set (bH iC) ⟨DN, rfl⟩, Rh h (by rw[length_map, cu];omega) (by rw[length_map];omega) (by rw[length_set, length_map];omega), s1⟩
    refine⟨b.txt, ?_⟩
    rw[b.read, gF (by have := pw.la;omega) iA]
    show(iD _ _).bind _=_
    rw[gM λm hm => (iB m hm).2]
    have e : iD (λx9 : List Str => cW cx x9) (((T.c.map fF).set j (fF xs++[w])).map tail)=some (.rt ⟨3⟩) := by
      refine t_ (j := j) (x := (fF xs++[w]).tail) (by rw[getElem?_map, getElem?_set_self (by rw[length_map];exact bK ec)];rfl) (Il (iC xs (mem_of_getElem? ec)).i hn) λi y hi hy => ?_
      rw[getElem?_map, getElem?_set_ne (by omega), getElem?_map] at hy
      obtain⟨v, hv, rfl⟩ := ag6.mp hy
      obtain⟨u, hu, rfl⟩ := ag6.mp hv
      exact⟨u, xV (iC u (mem_of_getElem? hu)).i⟩
    show(iD _ _).bind _=_
    rw[e]
    rfl
def ab2 : List Str := [("00" : Str), ("100" : Str), ("x" : Str), ("-1" : Str), ("+1" : Str), ("1." : Str), ("07" : Str), ("a" : Str), ("1," : Str), ("0x" : Str)]
theorem Y7 : ∀w∈ab2, mG w∧d_ w 2=some false∧(reprText w).length≤1000 := by decide +kernel
theorem ae6(h : aQ n T)(pl ce : Int) : W (oE ((wT T).map rt) pl ce) λr => Due cx Cm r.1 r.2 := by
  obtain⟨e1, e2, e3⟩ := xX h
  obtain⟨k, ek, kl⟩ := q_ pl e2
  have hws := afi kl
  have hmem := mem_of_getElem? hws
  generalize(wT T)[k]=ws at hws hmem
  have DN := wB h _ hmem
  have rl := Ik DN
  unfold oE
  rw[au, aB, au, dG]
  refine⟨by omega, ?_⟩
  rw[e1, ek, au, au, dG]
  refine⟨by decide, ?_⟩
  have hm : 0≤ce%10∧ce%10<10 := by omega
  rw[uI hm.1]
  have hc : (ce%10).toNat<ab2.length := by show _<10;omega
  have hg := afi hc
  have ho := Y7 _ (getElem_mem hc)
  generalize ab2[(ce%10).toNat]=w at hg ho
  refine⟨w, hg, ?_⟩
  obtain⟨o, n1, n2⟩ := ho
  rw[au, au, au, au, uI (by omega)]
  refine⟨rt ws, atT hws, ?_⟩
  rw[qT (by rw[uT];show _+1≤_;omega), aB, qT (by have := o.1;rw[len_app, uT];show _+1+_≤_;omega), aB, Br (by omega) (by rw[e1];omega), aB, YX DN.ne, Rg]
  exact(WQ h hws o ⟨n1, n2⟩).due
theorem Gg{α β : Type}(f : α→β) : ∀(L : List α)(j : Nat), (L.map f).eraseIdx j=(L.eraseIdx j).map f
  |[], _ => rfl
  |_::_, 0 => rfl
  |x::L, j+1 => congrArg (f x :: ·) (Gg f L j)
theorem Mp(h : aQ n T)(pl ce : Int) : W (fQ ((wT T).map rt) 4 pl ce) λr => Due cx Cm r.1 r.2 := by
  obtain⟨e1, e2, e3⟩ := xX h
  obtain⟨a60, b10, c10, a1⟩ := Kd h
  obtain⟨iA, iB, iC⟩ := h.i60
  have pw := h.w
  have lf : ((bT T.a).map fS).length=T.a.length := by rw[length_map, cu]
  unfold fQ
  rw[au, aB, au, dG]
  refine⟨by omega, ?_⟩
  rw[if_neg (by decide), au, aB, if_neg (by decide), au, aB, if_neg (by decide), au, aB, N8]
  have hk : bL (λ(x : Str) => (cV x).bind λa => some (decide (a=("from" : Str)))) (λx : Str => some x) ((wT T).map rt)=some (((bT T.a).map fS).map rt) := by
    rw[kinds (wB h) (by omega) "from"]
    congr 2
    exact pw.blk.flt.1
  rw[au, au, au, aB, hk, aB, aB, length_map, lf, au, if_pos (by decide), au, au, au, dG]
  refine⟨by decide, ?_⟩
  rw[aB]
  have pop : 1<T.a.length→W (((dW pl ((T.a.length : Int)-(1 : Int))).bind λa45 => vP ((wT T).map rt) a45).bind λv8 => some v8) λa => W (some (("text" : Str), a)) λr => Due cx Cm r.1 r.2 := λh1 => by
    obtain⟨j, ej, jl⟩ := q_ (N := T.a.length-1) pl (by omega)
    have ej : pl%((T.a.length : Int)-1)=(j : Int) := by rw[← ej];congr 1;omega
    rw[au, au, dG]
    refine⟨by omega, ?_⟩
    rw[ej]
    unfold vP
    have lw : (wT T).length=T.a.length+(T.b.length+T.c.length) := by
      unfold wT
      rw[length_append, length_append, lf, length_map, length_map]
    rw[if_pos ⟨by omega, by omega, by omega⟩, aB, aB, aB, agz]
    have es : ((wT T).map rt).eraseIdx j=(((bT T.a).map fS).eraseIdx j++(T.b.map fM++T.c.map fF)).map rt := by
      rw[Gg]
      congr 1
      unfold wT
      exact List.eraseIdx_append_of_lt_length (by omega) _
    rw[es]
    have le : (((bT T.a).map fS).eraseIdx j).length=T.a.length-1 := by rw[List.length_eraseIdx, lf, if_pos (by omega)]
    have b : Blk (((bT T.a).map fS).eraseIdx j) (T.b.map fM) (T.c.map fF) := ⟨λws hw => bF pw.la iA ws (List.mem_of_mem_eraseIdx hw), bM iB, bH iC, Rh h (by omega) (by rw[length_map];omega) (by rw[length_map];omega), λq => by
      have := congrArg length q
      rw[length_append, le] at this
      simp only[length_nil] at this
      omega⟩
    obtain⟨ys, f1, f2, _⟩ := atS h (show j+1<T.a.length by omega)
    refine(b.Wx (k := j) (ws := fS (((j+1 : Nat) : Int), ys)) (by rw[List.getElem?_eraseIdx_of_ge (afj _)];exact f1) ?_ λi hi => ?_).due
    · exact Ph (i := ((j+1 : Nat) : Int)) (xs := ys) f2.i (by have := f2.1;omega) (by omega) (by omega) ⟨by omega, by omega⟩ (by omega)
    · obtain⟨zs, z1, z2, _⟩ := atS h (show i<T.a.length by omega)
      exact⟨zs, by rw[List.getElem?_eraseIdx_of_lt hi];exact z1, z2⟩
  have ins : W (((((dW pl (T.a.length : Int)).bind λb49 => L2.jL ((wT T).map rt) b49).bind λb50 => Dr ((wT T).map rt) (0 : Int) b50).bind λv9 => some v9).bind λs46 => some s46) λa => W (some (("text" : Str), a)) λr => Due cx Cm r.1 r.2 := by
    obtain⟨j, ej, jl⟩ := q_ (N := T.a.length) pl (by omega)
    obtain⟨ys, f1, f2, _⟩ := atS h jl
    rw[au, au, au, au, dG]
    refine⟨by omega, ?_⟩
    rw[ej, uI (by omega)]
    have hj : (wT T)[j]?=some (fS ((j : Int), ys)) := by
      unfold wT
      rw[getElem?_append_left (by omega)]
      exact f1
    refine⟨_, atT hj, ?_⟩
    unfold Dr
    rw[if_pos ⟨by omega, by omega, bZ (by omega)⟩, aB, aB, aB, aB]
    show Due cx Cm "text" ((fS ((j : Int), ys)::(bT T.a).map fS++(T.b.map fM++T.c.map fF)).map rt)
    have hm : ∀ws∈fS ((j : Int), ys)::(bT T.a).map fS, iJ ws∧hd0 ws = "from" := λws hw => by
      rcases mem_cons.mp hw with q|q
      · rw[q]
        exact⟨ab0 f2 (by omega) (by omega), rfl⟩
      · exact bF pw.la iA ws q
    have b : Blk (fS ((j : Int), ys)::(bT T.a).map fS) (T.b.map fM) (T.c.map fF) := ⟨hm, bM iB, bH iC, Rh h (by rw[length_cons, lf];exact afj _) (by rw[length_map];omega) (by rw[length_map];omega), by simp⟩
    by_cases j0 : j=0
    · subst j0
      refine(b.Wx (k := 1) (ws := fS (((0 : Nat) : Int), ys)) (by rw[List.getElem?_cons_succ];exact f1) ?_ λi hi => ?_).due
      · exact Ph (i := ((0 : Nat) : Int)) (xs := ys) f2.i (by have := f2.1;omega) (by omega) (by omega) ⟨by omega, by omega⟩ (by omega)
      · have : i=0 := by omega
        subst this
        exact⟨ys, rfl, f2⟩
    · refine(b.Wx (k := 0) (ws := fS ((j : Int), ys)) rfl ?_ λi hi => absurd hi (Nat.not_lt_zero _)).due
      exact Ph (i := (j : Int)) (xs := ys) f2.i (by have := f2.1;omega) (by omega) (by omega) ⟨by omega, by omega⟩ (by omega)
  by_cases c1 : ce%2=1
  · rw[decide_eq_true c1, if_pos rfl, aB]
    by_cases h1 : 1<T.a.length
    · rw[decide_eq_true (show(1 : Int)<(T.a.length : Int) by omega), if_pos rfl]
      exact pop h1
    · rw[decide_eq_false (show¬(1 : Int)<(T.a.length : Int) by omega), if_neg (by decide)]
      exact ins
  · rw[decide_eq_false c1, if_neg (by decide), aB, if_neg (by decide)]
    exact ins
end
section
variable{cx : Fin 4→Addr}{Cm : Addr}{R : List Str}{i : Fin 4}{T : yU}{n : Int}
theorem kindAt(h : aQ n T){k : Nat}{ws : List Str}(hk : (wT T)[k]?=some ws) : ((L2.jL ((wT T).map rt) (k : Int)).bind λa => some (a, ()))=some (rt ws, ())∧cV (rt ws)=some (hd0 ws) := by
  refine⟨?_, Pb (wB h ws (mem_of_getElem? hk))⟩
  rw[vA (by omega), atT hk]
  rfl
theorem WR(h : aQ n T)(hx : (wT T)[u]?=some x)(hy : (wT T)[u+1]?=some y)(hc : hd0 x≠hd0 y∨hd0 y = "from") : Ref cx ((((wT T).set u y).set (u+1) x).map rt) 3 := by
  obtain⟨e1, e2, e3⟩ := xX h
  have hux := bK hx
  have huy := bK hy
  have rx := wB h x (mem_of_getElem? hx)
  have ry := wB h y (mem_of_getElem? hy)
  have row : ∀v∈((wT T).set u y).set (u+1) x, iJ v := mem_set (mem_set (wB h) ry) rx
  have ne : ((wT T).set u y).set (u+1) x≠[] := λq => by
    have := congrArg length q
    rw[length_set, length_set] at this
    simp only[length_nil] at this
    omega
  by_cases hf : hd0 y = "from"
  ·
    obtain⟨iA, iB, iC⟩ := h.i60
    obtain⟨a60, b10, c10, a1⟩ := Kd h
    have pw := h.w
    have lf : ((bT T.a).map fS).length=T.a.length := by rw[length_map, cu]
    have ua : u+1<T.a.length := by
      rcases WM T huy with⟨xs, ea, _, _⟩|⟨j, m, _, ew, _⟩|⟨j, xs, _, ew, _⟩
      · exact bK ea
      · rw[ew] at hy
        cases hy
        exact absurd hf V6
      · rw[ew] at hy
        cases hy
        exact absurd hf V_
    have es : ((wT T).set u y).set (u+1) x=(((bT T.a).map fS).set u y).set (u+1) x++(T.b.map fM++T.c.map fF) := by
      unfold wT
      rw[set_append, if_pos (by omega), set_append, if_pos (by rw[length_set];omega)]
    obtain⟨xs, x1, x2, _⟩ := atS h (show u<T.a.length by omega)
    obtain⟨ys, y1, y2, _⟩ := atS h ua
    have ey : y=fS (((u+1 : Nat) : Int), ys) := by
      have : (wT T)[u+1]?=some (fS (((u+1 : Nat) : Int), ys)) := by
        unfold wT
        rw[getElem?_append_left (by omega)]
        exact y1
      rw[hy] at this
      exact afm this
    have ex : x=fS ((u : Int), xs) := by
      have : (wT T)[u]?=some (fS ((u : Int), xs)) := by
        unfold wT
        rw[getElem?_append_left (by omega)]
        exact x1
      rw[hx] at this
      exact afm this
    have hdx : hd0 x = "from" := by rw[ex];rfl
    rw[es] at ne ⊢
    have b : Blk ((((bT T.a).map fS).set u y).set (u+1) x) (T.b.map fM) (T.c.map fF) := ⟨mem_set (mem_set (bF pw.la iA) ⟨ry, hf⟩) ⟨rx, hdx⟩, bM iB, bH iC, Rh h (by rw[length_set, length_set, lf];omega) (by rw[length_map];omega) (by rw[length_map];omega), ne⟩
    refine b.Wx (k := u) (ws := y) (by rw[getElem?_set_ne (by omega), getElem?_set_self (by omega)]) ?_ λi hi => ?_
    · rw[ey]
      exact Ph (i := ((u+1 : Nat) : Int)) (xs := ys) y2.i (by have := y2.1;omega) (by omega) (by omega) ⟨by omega, by omega⟩ (by omega)
    · obtain⟨zs, z1, z2, _⟩ := atS h (show i<T.a.length by omega)
      exact⟨zs, by rw[getElem?_set_ne (by omega), getElem?_set_ne (by omega)];exact z1, z2⟩
  · have hne : hd0 x≠hd0 y := hc.elim id λq => absurd q hf
    refine Gd ne (by rw[length_set, length_set];omega) row λe => ?_
    have po := Wv ((wT T).map hd0)
    rw[← show(wT T).map hd0=xW ((wT T).map hd0) from h.w.blk.ord] at po
    have pn := Wv ((((wT T).set u y).set (u+1) x).map hd0)
    rw[← e] at pn
    have g : ∀{L : List (List Str)}{p q : List Str}, (L.map hd0).Pairwise (λa b => Rz a≤Rz b)→L[u]?=some p→L[u+1]?=some q→Rz (hd0 p)≤Rz (hd0 q) := λ{L p q} hp h1 h2 => by
      rw[List.pairwise_map] at hp
      have l2 := bK h2
      have := pairwise_iff_getElem.mp hp u (u+1) (by omega) l2 (by omega)
      rw[afi (by omega)] at h1
      rw[afi l2] at h2
      rw[afm h1, afm h2] at this
      exact this
    have a1 := g po hx hy
    have a2 := g pn (p := y) (q := x) (by rw[getElem?_set_ne (by omega), getElem?_set_self hux]) (by rw[getElem?_set_self (by rw[length_set];exact huy)])
    have i3 : ∀{z : List Str}, z∈wT T→Is3 (hd0 z) := λ{z} hz => by
      have := hd3 h z hz
      simpa[Is3] using this
    exact hne (YZ (i3 (mem_of_getElem? hx)) (i3 (mem_of_getElem? hy)) (by omega))
theorem ae7(h : aQ n T)(pl ce : Int) : W (fQ ((wT T).map rt) 3 pl ce) λr => Due cx Cm r.1 r.2 := by
  obtain⟨e1, e2, e3⟩ := xX h
  have nb : ∀x∈rng (((wT T).length : Int)-1), ∃(u : Nat)(a b : List Str), x=(u : Int)∧(wT T)[u]?=some a∧(wT T)[u+1]?=some b := λx hx => by
    have := GR.mp hx
    exact⟨x.toNat, _, _, by omega, afi (show x.toNat<_ by omega), afi (show x.toNat+1<_ by omega)⟩
  have kat : ∀{u : Nat}{a : List Str}, (wT T)[u]?=some a→(((L2.jL ((wT T).map rt) (u : Int)).bind λa19 => some (a19, ())).bind λz18 => cV z18.1)=some (hd0 a) := λ{u a} ha => by
    rw[(kindAt h ha).1]
    exact(kindAt h ha).2
  let Ri : Int→Str := λx => hd0 ((wT T).getD x.toNat [])
  have Rj : ∀{u : Nat}{a : List Str}, (wT T)[u]?=some a→Ri (u : Int)=hd0 a := λ{u a} ha => by
    show hd0 ((wT T).getD ((u : Int)).toNat [])=_
    rw[agz, getD_eq_getElem?_getD, ha]
    rfl
  have c1 : ∀x∈rng (((wT T).length : Int)-1), ((((L2.jL ((wT T).map rt) x).bind λa19 => some (a19, ())).bind λz18 => cV z18.1).bind λa22 => (((L2.jL ((wT T).map rt) (x+(1 : Int))).bind λa21 => some (a21, ())).bind λz20 => cV z20.1).bind λb23 => some (!decide (a22=b23)))=some (!decide (Ri x=Ri (x+1))) := λx hx => by
    obtain⟨u, a, b, rfl, ha, hb⟩ := nb x hx
    rw[kat ha, show(u : Int)+1=((u+1 : Nat) : Int) by omega, kat hb, Rj ha, Rj hb]
    rfl
  have c2 : ∀x∈rng (((wT T).length : Int)-1), ((((L2.jL ((wT T).map rt) (x+(1 : Int))).bind λa27 => some (a27, ())).bind λz26 => cV z26.1).bind λa28 => some (decide (a28=("from" : Str))))=some (decide (Ri (x+1) = "from")) := λx hx => by
    obtain⟨u, a, b, rfl, ha, hb⟩ := nb x hx
    rw[show(u : Int)+1=((u+1 : Nat) : Int) by omega, kat hb, Rj hb]
    rfl
  have rl := oU (n := ((wT T).length : Int)-1) (by omega)
  unfold fQ
  rw[au, aB, au, dG]
  refine⟨by omega, ?_⟩
  rw[e1, if_neg (by decide), au, aB, if_neg (by decide), au, aB, if_pos (by decide), au, au, au, mZ]
  refine⟨by omega, ?_⟩
  rw[wC c1, yx (λx : Int => !decide (Ri x=Ri (x+1))) (λx : Int => x)]
  refine⟨bZ (by omega), ?_⟩
  rw[au, au, au, mZ]
  refine⟨by omega, ?_⟩
  rw[wC c2, yx (λx : Int => decide (Ri (x+1) = "from")) (λx : Int => x)]
  refine⟨bZ (by omega), ?_⟩
  have f1 := length_filter_le (λx : Int => !decide (Ri x=Ri (x+1))) (rng (((wT T).length : Int)-1))
  have f2 := length_filter_le (λx : Int => decide (Ri (x+1) = "from")) (rng (((wT T).length : Int)-1))
  unfold pO
  rw[if_pos (af6 (bZ (by rw[length_map, length_map];omega))), aB]
  generalize hun : ((rng (((wT T).length : Int)-1)).filter λx : Int => !decide (Ri x=Ri (x+1))).map (λx : Int => x)++((rng (((wT T).length : Int)-1)).filter λx : Int => decide (Ri (x+1) = "from")).map (λx : Int => x)=un
  have inv : ∀x∈un, ∃(u : Nat)(a b : List Str), x=(u : Int)∧(wT T)[u]?=some a∧(wT T)[u+1]?=some b∧(hd0 a≠hd0 b∨hd0 b = "from") := λx hx => by
    rw[← hun, map_id', map_id'] at hx
    rcases mem_append.mp hx with q|q
    · obtain⟨q1, q2⟩ := mem_filter.mp q
      obtain⟨u, a, b, rfl, ha, hb⟩ := nb x q1
      rw[show(u : Int)+1=((u+1 : Nat) : Int) by omega, Rj ha, Rj hb] at q2
      exact⟨u, a, b, rfl, ha, hb, .inl (by simpa using q2)⟩
    · obtain⟨q1, q2⟩ := mem_filter.mp q
      obtain⟨u, a, b, rfl, ha, hb⟩ := nb x q1
      rw[show(u : Int)+1=((u+1 : Nat) : Int) by omega, Rj hb] at q2
      exact⟨u, a, b, rfl, ha, hb, .inr (of_decide_eq_true q2)⟩
  by_cases hu : un=[]
  · rw[decide_eq_true hu, if_pos rfl, au, aB, aB]
    show W (some (("by" : Str), (wT T).map rt)) _
    rw[aB]
    exact WL h
  · rw[decide_eq_false hu, if_neg (by decide), au, au, dG]
    have ul : 0<un.length := List.length_pos_iff.mpr hu
    refine⟨by omega, ?_⟩
    obtain⟨v, ev, vl⟩ := q_ pl ul
    rw[ev, uI (by omega), agz]
    refine⟨_, afi vl, ?_⟩
    obtain⟨u, a, b, eu, ha, hb, hc⟩ := inv _ (getElem_mem vl)
    have hub := bK hb
    rw[eu, au, au, show(u : Int)+1=((u+1 : Nat) : Int) by omega, uI (by omega)]
    refine⟨_, atT hb, ?_⟩
    rw[Br (by omega) (by rw[e1];omega), au, au, uI (by omega)]
    refine⟨_, atT ha, ?_⟩
    rw[Rg, Br (by omega) (by rw[length_map, length_set];omega), Rg, aB, N8]
    show W (Ka ((wT T).map rt) 3 pl ce ((((wT T).set u b).set (u+1) a).map rt)) _
    rw[tail_eq h (by decide), aB]
    exact(WR h ha hb hc).due
theorem ab3{α : Type}{xs : List α}(h : k≤xs.length) : iz xs none (some (k : Int))=xs.take k := by
  unfold iz
  rw[HT.Ni, ai7 h]
  show(xs.drop 0).take (k-0)=_
  rw[List.drop_zero, Nat.sub_zero]
theorem ab4{α : Type}{xs : List α}(h : k≤xs.length) : iz xs (some (k : Int)) none=xs.drop k := by
  unfold iz
  rw[HT.Ni, ai7 h]
  show(xs.drop k).take (xs.length-k)=_
  rw[take_of_length_le (by rw[length_drop];exact afj _)]
def more(xs : List Int)(v : Int)(p : Nat) : List Int := xs.take p++v::xs.drop p
theorem yZ{xs : List Int}(hl : xs.length≤60)(h : ∀x∈xs, 0≤x∧x<60)(hv : 0≤v∧v<100) : mO (more xs v p) := by
  unfold more
  refine⟨?_, λx hx => ?_⟩
  · rw[length_append, length_cons, length_take, length_drop]
    omega
  · rcases mem_append.mp hx with q|q
    · have := h x (mem_of_mem_take q);omega
    · rcases mem_cons.mp q with q|q
      · rw[q];exact hv
      · have := h x (mem_of_mem_drop q);omega
theorem M9(h : aQ n T){k : Nat}{hd : List Str}{xs : List Int}(hk : (wT T)[k]?=some (hd++xs.map so))(hl : xs.length≤60)(h60 : ∀x∈xs, 0≤x∧x<60)(hh : (hd.length : Int)=1+(if hd0 hd = "fair" then 0 else 1))(ne : hd≠[])(hr : ∀v p, 0≤v∧v<100→iJ (hd++(more xs v p).map so))(pl ce : Int)(ek : pl%((wT T).length : Int)=(k : Int)){Q : Str×List Str→Prop}(q : ∀v p, (n≤v∨v∈xs)→(0≤v∧v<100)→Q ("stand", ((wT T).set k (hd++(more xs v p).map so)).map rt)) : W (qb ((wT T).map rt) n pl ce) Q := by
  obtain⟨e1, e2, e3⟩ := xX h
  have n1 := h.pos
  have n60 := h.few
  have kl := bK hk
  have DN := wB h _ (mem_of_getElem? hk)
  obtain⟨_, rl, _, spw, _⟩ := DN.jn
  have lw : (hd++xs.map so).length=hd.length+xs.length := by rw[length_append, length_map]
  unfold qb
  rw[au, aB, au, dG]
  refine⟨by omega, ?_⟩
  rw[e1, ek, au, au, uI (by omega)]
  refine⟨_, atT hk, ?_⟩
  rw[Wr (by omega), spw, aB, au, au, au, au, Dg DN.ne, aB, aB, aB, aB]
  have h0 : hd0 (hd++xs.map so)=hd0 hd := by
    cases hd with
    |nil => exact absurd rfl ne
    |cons => rfl
  have hd5 : (1 : Int)+(if(!decide (hd0 (hd++xs.map so)=("fair" : Str)))=true then(1 : Int) else 0)=(hd.length : Int) := by
    rw[h0, hh]
    by_cases q : hd0 hd = "fair"
    · rw[decide_eq_true q, if_pos q];rfl
    · rw[decide_eq_false q, if_neg q];rfl
  rw[hd5, au, au, dG]
  refine⟨by omega, ?_⟩
  rw[aB]
  have m0 := ag4 ce (show(100-n : Int)≠0 by omega)
  have m1 := agt ce (show 0<(100-n : Int) by omega)
  have rest : ∀v : Int, (n≤v∨v∈xs)→(0≤v∧v<100)→W ((((uH ce (200 : Int)).bind λa21 => dW a21 ((((hd++xs.map so).length : Int)-(hd.length : Int))+(1 : Int))).bind λb22 => some ((hd.length : Int)+b22)).bind λwg => ((((((vI v).bind λa24 => some (a24::([]))).bind λb25 => pO (iz (hd++xs.map so) none (some wg)) b25).bind λa26 => pO a26 (iz (hd++xs.map so) (some wg) none)).bind λa27 => joinM " " a27).bind λa28 => setAt ((wT T).map rt) (k : Int) a28).bind λCQ => some ((("stand" : Str), CQ))) Q := λv hv hv2 => by
    rw[au, au, au, rO]
    refine⟨by decide, ?_⟩
    rw[dG]
    refine⟨by omega, ?_⟩
    obtain⟨p, ep, ppl⟩ := q_ (N := xs.length+1) (ce/200) (by omega)
    have ep : ce/200%((((hd++xs.map so).length : Int)-(hd.length : Int))+(1 : Int))=(p : Int) := by rw[← ep];congr 1;omega
    rw[ep, aB]
    have hs : (hd.length : Int)+(p : Int)=((hd.length+p : Nat) : Int) := by omega
    rw[hs, au, au, au, au, au, au, Pg hv2.1 hv2.2, aB, aB, ab3 (by omega), ab4 (by omega)]
    have t1 : (hd++xs.map so).take (hd.length+p)=hd++(xs.take p).map so := by
      rw[List.take_append, take_of_length_le (by omega), ah1, List.map_take]
    have t2 : (hd++xs.map so).drop (hd.length+p)=(xs.drop p).map so := by
      rw[List.drop_append, List.drop_eq_nil_of_le (by omega), ah1, List.map_drop, nil_append]
    have em : (hd++(xs.take p).map so++[so v])++(xs.drop p).map so=hd++(more xs v p).map so := by
      unfold more
      rw[map_append, map_cons]
      simp
    have few := DN.few
    rw[lw] at few
    rw[t1, t2]
    unfold pO
    rw[if_pos (af6 (bZ (by simp only[length_append, length_map, length_take, length_cons, length_nil];omega))), aB, if_pos (af6 (bZ (by simp only[length_append, length_map, length_take, length_drop, length_cons, length_nil];omega))), aB, em, (hr v p hv2).jn.1, aB, Br (by omega) (by rw[e1];omega), Rg, aB]
    exact q v p hv hv2
  rw[au, au, au, au, dG]
  refine⟨by decide, ?_⟩
  rw[aB]
  have r1 := rest (n+ce%(100-n)) (.inl (by omega)) ⟨by omega, by omega⟩
  by_cases c1 : ce%2=1
  · rw[decide_eq_true c1, if_pos rfl, aB]
    by_cases c2 : (hd.length : Int)<((hd++xs.map so).length : Int)
    · rw[decide_eq_true c2, if_pos rfl]
      obtain⟨p, ep, ppl⟩ := q_ (N := xs.length) (ce/2) (by omega)
      have ep : ce/2%(((hd++xs.map so).length : Int)-(hd.length : Int))=(p : Int) := by rw[← ep];congr 1;omega
      rw[au, au, au, au, au, rO]
      refine⟨by decide, ?_⟩
      rw[dG]
      refine⟨by omega, ?_⟩
      rw[ep, aB, uI (by omega)]
      have hx := afi ppl
      have hm := getElem_mem ppl
      generalize xs[p]=x at hx hm
      refine⟨so x, ?_, ?_⟩
      · rw[show((hd.length : Int)+(p : Int)).toNat=hd.length+p by omega, getElem?_append_right (by omega), ah1, getElem?_map, hx]
        rfl
      · have := h60 x hm
        rw[Wt (by omega) (by omega), aB, aB]
        exact rest x (.inr hm) ⟨by omega, by omega⟩
    · rw[decide_eq_false c2, if_neg (by decide), aB]
      exact r1
  · rw[decide_eq_false c1, if_neg (by decide), aB, if_neg (by decide), aB]
    exact r1
end
section
variable{cx : Fin 4→Addr}{Cm : Addr}{R : List Str}{i : Fin 4}{T : yU}{n : Int}
theorem Rk{α : Type}{A : List α}{x : α} : (bT A).set k ((k : Int), x)=bT (A.set k x) := by
  apply ext_getElem?
  intro i
  by_cases hi : i<A.length
  · rw[ah2]
    by_cases e : k=i
    · subst e
      rw[if_pos rfl, if_pos (by rw[cu];exact hi), iI (getElem?_set_self hi)]
    · rw[if_neg e, iI (afi hi), iI (by rw[getElem?_set_ne e];exact afi hi)]
  · rw[agx (by rw[length_set, cu];omega), agx (by rw[cu, length_set];omega)]
theorem Pk{α : Type}{L : List α}{x y : α}(h : L[k]?=some x) : L.set k y=L.take k++y::L.drop (k+1) := by
  rw[List.set_eq_take_append_cons_drop, if_pos (bK h)]
theorem Dl{L : List (List Int)}{k : Nat}{x y : List Int}(h : L[k]?=some x) : eN (L.set k y)=eN (L.take k)++y.map Mx.mi::eN (L.drop (k+1)) := by
  unfold eN
  rw[Pk h, map_append, map_cons]
theorem Rm(h : aQ n T){y : List Int}(hk : T.a[k]?=some x)(hb : kJ n [] (y.map Mx.mi)=false) : refusal (Wz ⟨T.a.set k y, T.b, T.c⟩)=some 0 := by
  rw[lC (n := n) (by show((T.a.set k y).length : Int)=n;rw[length_set];exact h.len), Gf h.pos h.few]
  show(h_ n (eN (T.a.set k y))).or _=_
  rw[Dl hk, wz λr hr => h.row r (mem_of_mem_take hr)]
  show(if kJ n [] (y.map Mx.mi)=true then _ else some 0 : Option (Fin 4)).or _=_
  rw[hb]
  rfl
theorem M_(h : aQ n T)(hk : T.a[k]?=some x) : refusal (Wz ⟨T.a.set k [], T.b, T.c⟩)=some 1 := by
  rw[lC (n := n) (by show((T.a.set k []).length : Int)=n;rw[length_set];exact h.len), Gf h.pos h.few]
  show(h_ n (eN (T.a.set k []))).or _=_
  rw[Dl hk, wz λr hr => h.row r (mem_of_mem_take hr)]
  rfl
theorem Rn(h : aQ n T)(hj : T.b[j]?=some m) : (∀p∈T.b.take j, nameB p.1=true∧gD n p.2)∧(([] : List Str)++(T.b.take j).map (·.1)).Nodup∧m.1∉(T.b.take j).map (·.1) := by
  have nd := h.marks.1
  refine⟨λp hp => h.marks.nm p (mem_of_mem_take hp), ?_, λq => ?_⟩
  · rw[nil_append, List.map_take]
    exact nd.sublist (List.take_sublist _ _)
  · obtain⟨p, hp, e⟩ := mem_map.mp q
    obtain⟨i, hi⟩ := mem_iff_getElem?.mp hp
    rw[List.getElem?_take] at hi
    by_cases il : i<j
    · rw[if_pos il] at hi
      have jl := bK hj
      have := pairwise_iff_getElem.mp nd i j (by rw[length_map];omega) (by rw[length_map];exact jl) il
      rw[List.getElem_map, List.getElem_map] at this
      rw[afi (show i<T.b.length by omega)] at hi
      rw[afi jl] at hj
      rw[afm hi, afm hj] at this
      exact this e
    · rw[if_neg il] at hi
      cases hi
theorem WT(h : aQ n T){y : List Int}(hj : T.b[j]?=some m)(hb : kJ n [] (y.map Mx.mi)=false) : refusal (Wz ⟨T.a, T.b.set j (m.1, y), T.c⟩)=some 0 := by
  obtain⟨c1, c2, c3⟩ := Rn h hj
  rw[lC (T := ⟨T.a, T.b.set j (m.1, y), T.c⟩) (n := n) h.len, Gf h.pos h.few]
  show(h_ n (eN T.a)).or ((jw n [] (mq (T.b.set j (m.1, y)))).or _)=_
  have e : mq (T.b.set j (m.1, y))=mq (T.b.take j)++(m.1, y.map Mx.mi)::mq (T.b.drop (j+1)) := by
    unfold mq
    rw[Pk hj, map_append, map_cons]
  rw[Ip h.row, e, wA c1 c2, nil_append]
  show((if(!nameB m.1)=true then some 2 else if decide (m.1∈(T.b.take j).map (·.1))=true then some 2 else if kJ n [] (y.map Mx.mi)=true then _ else some 0 : Option (Fin 4)).or _)=_
  rw[(h.marks.nm m (mem_of_getElem? hj)).1, decide_eq_false c3, hb]
  rfl
theorem WW(h : aQ n T){y : List Int}(hj : T.c[j]?=some x)(hb : kJ n [] (y.map Mx.mi)=false) : refusal (Wz ⟨T.a, T.b, T.c.set j y⟩)=some 0 := by
  rw[lC (T := ⟨T.a, T.b, T.c.set j y⟩) (n := n) h.len, Gf h.pos h.few]
  show(h_ n (eN T.a)).or ((jw n [] (mq T.b)).or (qe n (eN (T.c.set j y))))=_
  rw[Ip h.row, WK h.marks, Dl hj, Ge λr hr => h.fair.2 r (mem_of_mem_take hr)]
  show(if kJ n [] (y.map Mx.mi)=true then _ else some 0 : Option (Fin 4))=_
  rw[hb]
  rfl
theorem Dm{α : Type}{P : α→Prop}{L : List α}{x : α}(h : ∀v∈L, P v)(hw : P x) : ∀v∈L.set j x, P v := λv hv => by
  rcases mem_or_eq_of_mem_set hv with q|q
  · exact h v q
  · rw[q];exact hw
theorem WX(h : aQ n T)(hk : T.a[k]?=some x)(hy : mO y) : fZ ⟨T.a.set k y, T.b, T.c⟩∧wT ⟨T.a.set k y, T.b, T.c⟩=(wT T).set k (fS ((k : Int), y)) := by
  have w := h.w
  have kl := bK hk
  have e : wT ⟨T.a.set k y, T.b, T.c⟩=(wT T).set k (fS ((k : Int), y)) := by
    unfold wT
    rw[set_append, if_pos (by rw[length_map, cu];exact kl)]
    show(bT (T.a.set k y)).map fS++_=_
    rw[← Rk, map_set]
  exact⟨⟨by show(T.a.set k y).length≤60;rw[length_set];exact w.la, Dm w.ra hy, w.lb, w.rb, w.lc, w.rc, by rw[e];intro q;exact w.ne (by simpa using q)⟩, e⟩
theorem ab5(h : aQ n T)(hj : T.b[j]?=some m)(hy : mO y) : fZ ⟨T.a, T.b.set j (m.1, y), T.c⟩ := by
  have w := h.w
  refine⟨w.la, w.ra, by show(T.b.set j (m.1, y)).length≤11;rw[length_set];exact w.lb, Dm w.rb ⟨(w.rb m (mem_of_getElem? hj)).1, hy⟩, w.lc, w.rc, λq => ?_⟩
  have := congrArg length q
  unfold wT at this
  rw[length_append, length_map, cu] at this
  have := (Kd h).2.2.2
  simp only[length_nil] at *
  omega
theorem ab6(h : aQ n T)(hy : mO y) : fZ ⟨T.a, T.b, T.c.set j y⟩ := by
  have w := h.w
  refine⟨w.la, w.ra, w.lb, w.rb, by show(T.c.set j y).length≤10;rw[length_set];exact w.lc, Dm w.rc hy, λq => ?_⟩
  have := congrArg length q
  unfold wT at this
  rw[length_append, length_map, cu] at this
  have := (Kd h).2.2.2
  simp only[length_nil] at *
  omega
theorem ae8(h : aQ n T)(pl ce : Int) : W (qb ((wT T).map rt) n pl ce) λr => Due cx Cm r.1 r.2 := by
  obtain⟨e1, e2, e3⟩ := xX h
  obtain⟨k, ek, kl⟩ := q_ pl e2
  have f := h.few
  rcases WM T kl with⟨xs, ea, ew, es⟩|⟨j, m, eb, ew, es⟩|⟨j, xs, ec, ew, es⟩
  · obtain⟨Ab, r60⟩ := xR (h.row xs (mem_of_getElem? ea)).2 f
    have k60 := bK ea
    have a60 := (Kd h).1
    refine M9 h (hd := ["from", so (k : Int)]) (xs := xs) ew Ab r60 (by show(2 : Int)=1+(if("from" : Str) = "fair" then 0 else 1);rw[if_neg YF];rfl) (by simp) (λv p hv => ab0 (i := (k : Int)) (yZ Ab r60 hv) (by omega) (by omega)) pl ce ek λv p hv hv2 => ?_
    obtain⟨w, e⟩ := WX h ea (yZ (p := p) Ab r60 hv2)
    have r := w.ref (cx := cx) (Rm h ea (yX hv))
    rw[e] at r
    exact r.due
  · obtain⟨Ab, r60⟩ := xR (h.marks.2.2 m (mem_of_getElem? eb)).2.2 f
    refine M9 h (hd := ["mark", m.1]) (xs := m.2) ew Ab r60 (by show(2 : Int)=1+(if("mark" : Str) = "fair" then 0 else 1);rw[if_neg YG];rfl) (by simp) (λv p hv => ad8 (yZ Ab r60 hv) (h.i60.2.1 m (mem_of_getElem? eb)).1) pl ce ek λv p hv hv2 => ?_
    have w := ab5 h eb (yZ (p := p) Ab r60 hv2)
    have r := w.ref (cx := cx) (WT h eb (yX hv))
    have e : wT ⟨T.a, T.b.set j (m.1, more m.2 v p), T.c⟩=(wT T).set k ((["mark", m.1] : List Str)++(more m.2 v p).map so) := by
      rw[es]
      show(bT T.a).map fS++((T.b.set j (m.1, more m.2 v p)).map fM++T.c.map fF)=_
      rw[map_set]
      rfl
    rw[e] at r
    exact r.due
  · obtain⟨Ab, r60⟩ := xR (h.fair.2 xs (mem_of_getElem? ec)) f
    refine M9 h (hd := ["fair"]) (xs := xs) ew Ab r60 (by show(1 : Int)=1+(if("fair" : Str) = "fair" then 0 else 1);rw[if_pos rfl];rfl) (by simp) (λv p hv => ad9 (yZ Ab r60 hv)) pl ce ek λv p hv hv2 => ?_
    have w := ab6 h (j := j) (yZ (p := p) Ab r60 hv2)
    have r := w.ref (cx := cx) (WW h ec (yX hv))
    have e : wT ⟨T.a, T.b, T.c.set j (more xs v p)⟩=(wT T).set k ((["fair"] : List Str)++(more xs v p).map so) := by
      rw[es]
      show(bT T.a).map fS++(T.b.map fM++(T.c.set j (more xs v p)).map fF)=_
      rw[map_set]
      rfl
    rw[e] at r
    exact r.due
theorem two_rt(x y z : Str)(h : x ++ " " = z) : z++y=rt [x, y] := by
  rw[← h]
  exact M5 (a := [x]) (b := [y]) (by simp) (by simp)
theorem ae9(h : aQ n T)(pl ce : Int) : W (fU ((wT T).map rt) n 7 pl ce) λr => Due cx Cm r.1 r.2 := by
  obtain⟨e1, e2, e3⟩ := xX h
  obtain⟨a60, b10, c10, a1⟩ := Kd h
  have ln := h.len
  obtain⟨j, ej, jl⟩ := q_ (N := T.a.length) pl (by omega)
  have ej : pl%n=(j : Int) := by rw[← ej, ln]
  obtain⟨xs, _, _, ea⟩ := atS h jl
  have lw : (wT T).length=T.a.length+(T.b.length+T.c.length) := by
    unfold wT
    rw[length_append, length_append, length_map, cu, length_map, length_map]
  unfold fU
  rw[au, aB, if_pos (by decide), au, au, au, au, dG]
  refine⟨by omega, ?_⟩
  have so8 := (Ws (i := (j : Int)) (by omega) (by omega)).1.1
  have fl : ("from " : Str).length=5 := by decide +kernel
  rw[ej, Pg (by omega) (by omega), aB, qT (by omega), aB, au, dG]
  refine⟨by omega, ?_⟩
  rw[ej, Br (by omega) (by rw[e1];omega), aB, two_rt "from" _ "from " (by decide +kernel), Rg]
  obtain⟨w, e⟩ := WX h ea (y := []) ⟨by decide, λx hx => by cases hx⟩
  have r := w.ref (cx := cx) (M_ h ea)
  rw[e] at r
  exact r.due
def Pn : List Str := [("all" : Str), ("not" : Str), ("sometill" : Str), ("abcdefghi" : Str), ("a1" : Str), ("A" : Str), ("*" : Str), ("somenext" : Str), ("eachalways" : Str), ("." : Str)]
theorem WY : ∀x∈Pn, mG x∧(reprText x).length≤1000∧nameB x=false := by decide +kernel
theorem W0(h : aQ n T)(hx : nameB x=false∨x∈T.b.map (·.1)) : refusal (Wz ⟨T.a, T.b++[(x, [])], T.c⟩)=some 2 := by
  rw[lC (T := ⟨T.a, T.b++[(x, [])], T.c⟩) (n := n) h.len, Gf h.pos h.few]
  show(h_ n (eN T.a)).or ((jw n [] (mq (T.b++[(x, [])]))).or _)=_
  have e : mq (T.b++[(x, [])])=mq T.b++[(x, [])] := by
    unfold mq
    rw[map_append]
    rfl
  rw[Ip h.row, e, wA h.marks.nm (by rw[nil_append];exact h.marks.1), nil_append]
  show((if(!nameB x)=true then some 2 else if decide (x∈T.b.map (·.1))=true then some 2 else _ : Option (Fin 4)).or _)=_
  rcases hx with q|q
  · rw[q];rfl
  · rw[decide_eq_true q]
    cases nameB x<;>rfl
theorem Y8{α : Type}(y : α)(A B : List α) : vJ A.length y (A++B)=A++y::B := by
  unfold vJ
  rw[List.take_left, List.drop_left]
theorem afa(h : aQ n T)(pl ce : Int) : W (fU ((wT T).map rt) n 8 pl ce) λr => Due cx Cm r.1 r.2 := by
  obtain⟨e1, e2, e3⟩ := xX h
  obtain⟨a60, b10, c10, a1⟩ := Kd h
  have ln := h.len
  have w := h.w
  have lf : ((bT T.a).map fS).length=T.a.length := by rw[length_map, cu]
  have nm : bL (λ(x : Str) => (cV x).bind λa => some (decide (a=("mark" : Str)))) (λx : Str => (splitM x " ").bind λa11 => L2.jL a11 (1 : Int)) ((wT T).map rt)=some (T.b.map (·.1)) := by
    have := M8 (f := λx : Str => (splitM x " ").bind λa11 => L2.jL a11 (1 : Int)) (g := λws => ws.getD 1 "") (wB h) (by omega) "mark" true λws hw hd => by
      have hd : hd0 ws = "mark" := by
        rw[beq_true] at hd
        exact of_decide_eq_true hd
      have : ws∈(wT T).filter λws => jx "mark" (hd0 ws) := mem_filter.mpr ⟨hw, decide_eq_true hd⟩
      rw[show(wT T).filter (λws => jx "mark" (hd0 ws))=T.b.map fM from w.blk.flt.2.1] at this
      obtain⟨m, _, rfl⟩ := mem_map.mp this
      have ro := wB h _ hw
      rw[Wr (by have := Ik ro;omega), ro.jn.2.2.2.1]
      show L2.jL (fM m) 1=_
      rw[vA (by decide)]
      rfl
    simp only[beq_true] at this
    rw[this, show(wT T).filter (λws => jx "mark" (hd0 ws))=T.b.map fM from w.blk.flt.2.1, map_map]
    rfl
  have km := kinds (wB h) (by omega) "mark"
  rw[show(wT T).filter (λws => jx "mark" (hd0 ws))=T.b.map fM from w.blk.flt.2.1] at km
  unfold fU
  rw[au, aB, if_neg (by decide), if_pos (by decide), au, au, aB, nm, aB, au]
  show W (pO (T.b.map (·.1)) Pn) _
  unfold pO
  rw[if_pos (af6 (bZ (by rw[length_map];show _+10≤_;omega))), aB, au, au, au, au, au, aB, km, aB, aB, aB, au, au, au, dG]
  have nl : 0<(T.b.map (·.1)++Pn).length := by rw[length_append];show 0<_+10;omega
  obtain⟨c, ec, cl⟩ := q_ ce nl
  refine⟨by omega, ?_⟩
  rw[ec, uI (by omega), agz]
  have hx := getElem_mem cl
  refine⟨_, afi cl, ?_⟩
  generalize(T.b.map (·.1)++Pn)[c]=x at hx
  have hx : (mG x∧NmF x)∧(nameB x=false∨x∈T.b.map (·.1)) := by
    rcases mem_append.mp hx with q|q
    · refine⟨?_, .inr q⟩
      obtain⟨m, hm, rfl⟩ := mem_map.mp q
      exact(w.rb m hm).1
    · obtain⟨o, p, q⟩ := WY x q
      exact⟨⟨o, by have := o.1;omega, p⟩, .inl q⟩
  have l5 : ("mark " : Str).length=5 := by decide +kernel
  rw[qT (by have := hx.1.1.1;omega), aB]
  unfold Dr
  rw[length_map, length_map, if_pos ⟨by omega, by
    rw[length_map]
    have : (wT T).length=T.a.length+(T.b.length+T.c.length) := by
      unfold wT
      rw[length_append, length_append, lf, length_map, length_map]
    omega, bZ (by rw[length_map];omega)⟩, aB, aB]
  have hw : fZ ⟨T.a, T.b++[(x, [])], T.c⟩ := by
    refine⟨w.la, w.ra, by show(T.b++[(x, [])]).length≤11;rw[length_append];show _+1≤11;omega, λm hm => ?_, w.lc, w.rc, by unfold wT;simp⟩
    rcases mem_append.mp hm with q|q
    · exact w.rb m q
    · rw[mem_singleton.mp q]
      exact⟨hx.1, afz _, λx hx => by cases hx⟩
  have r := hw.ref (cx := cx) (W0 h hx.2)
  have e : (wT ⟨T.a, T.b++[(x, [])], T.c⟩).map rt=vJ (n+(T.b.length : Int)).toNat ("mark " ++ x) ((wT T).map rt) := by
    have e0 : (wT T).map rt=((bT T.a).map fS++T.b.map fM).map rt++(T.c.map fF).map rt := by
      unfold wT
      rw[← map_append, append_assoc]
    have l0 : (n+(T.b.length : Int)).toNat=(((bT T.a).map fS++T.b.map fM).map rt).length := by
      rw[length_map, length_append, lf, length_map]
      omega
    rw[two_rt "mark" _ "mark " (by decide +kernel), l0, e0, Y8]
    unfold wT
    show((bT T.a).map fS++((T.b++[(x, [])]).map fM++T.c.map fF)).map rt=_
    rw[map_append (f := fM), map_append, map_append, map_append, map_append, append_assoc, append_assoc]
    rfl
  rw[e] at r
  exact r.due
theorem Ke : refusal (Wz ⟨[], B, Cc⟩)=some 0 := rfl
theorem afb(h : aQ n T)(pl ce : Int) : W (fU ((wT T).map rt) n 9 pl ce) λr => Due cx Cm r.1 r.2 := by
  obtain⟨e1, e2, e3⟩ := xX h
  have w := h.w
  have nf : bL (λ(x : Str) => (cV x).bind λa => some (!decide (a=("from" : Str)))) (λx : Str => some x) ((wT T).map rt)=some ((T.b.map fM++T.c.map fF).map rt) := by
    have := M8 (f := λx : Str => some x) (g := rt) (wB h) (by omega) "from" false λ_ _ _ => rfl
    simp only[beq_false] at this
    rw[this]
    congr 2
    unfold wT
    rw[filter_append, filter_append, mD λws hw => by rw[show jx "from" (hd0 ws)=true from decide_eq_true (w.blk.f ws hw).2];rfl, uD λws hw => by rw[show jx "from" (hd0 ws)=false from decide_eq_false λq => V6 ((w.blk.m ws hw).2.symm.trans q)];rfl, uD λws hw => by rw[show jx "from" (hd0 ws)=false from decide_eq_false λq => V_ ((w.blk.h ws hw).2.symm.trans q)];rfl, nil_append]
  unfold fU
  rw[au, aB, if_neg (by decide), if_neg (by decide), if_pos (by decide), au, au, aB, nf, aB]
  by_cases hz : (T.b.map fM++T.c.map fF).map rt=[]
  · rw[decide_eq_true hz, if_pos rfl, au, au, au, au, dG]
    refine⟨by decide, ?_⟩
    have hm : 0≤ce%3∧ce%3<3 := by omega
    rw[uI hm.1]
    have one : ∀(B : List (Str×List Int))(Cc : List (List Int))(x : Str), fZ ⟨[], B, Cc⟩→(wT ⟨[], B, Cc⟩).map rt=[x]→W (some (x::([] : List Str))) λa => W (some a) λa => W (some (("stand" : Str), a)) λr => Due cx Cm r.1 r.2 := λB Cc x hw e => by
      rw[aB, aB, aB, ← e]
      exact(hw.ref (cx := cx) Ke).due
    have hc : (ce%3).toNat<3 := by omega
    generalize(ce%3).toNat=c at hc
    have p0 : fZ ⟨[], [], [[]]⟩ := ⟨by decide, λ_ h => (by cases h), by decide, λ_ h => (by cases h), by decide, λr hr => by rw[mem_singleton.mp hr];exact⟨by decide, λx hx => by cases hx⟩, by decide⟩
    have p1 : fZ ⟨[], [("a", [])], []⟩ := ⟨by decide, λ_ h => (by cases h), by decide, λr hr => by rw[mem_singleton.mp hr];exact⟨⟨by decide +kernel, by decide +kernel, by decide +kernel⟩, by decide, λx hx => by cases hx⟩, by decide, λ_ h => (by cases h), by decide⟩
    have p2 : fZ ⟨[], [], [[0]]⟩ := ⟨by decide, λ_ h => (by cases h), by decide, λ_ h => (by cases h), by decide, λr hr => by rw[mem_singleton.mp hr];exact⟨by decide, λx hx => by rw[mem_singleton.mp hx];decide⟩, by decide⟩
    match c, hc with
    |0, _ => exact⟨_, rfl, one [] [[]] "fair" p0 (by decide +kernel)⟩
    |1, _ => exact⟨_, rfl, one [("a", [])] [] "mark a" p1 (by decide +kernel)⟩
    |2, _ => exact⟨_, rfl, one [] [[0]] "fair 0" p2 (by decide +kernel)⟩
  · rw[decide_eq_false hz, if_neg (by decide), au, aB, aB]
    have hw : fZ ⟨[], T.b, T.c⟩ := ⟨afz _, λ_ h => (by cases h), w.lb, w.rb, w.lc, w.rc, λq => hz (by
      have q : T.b.map fM++T.c.map fF=[] := q
      rw[q];rfl)⟩
    exact(hw.ref (cx := cx) Ke).due
theorem aec(h : aQ n T)(pl ce : Int) : W (fU ((wT T).map rt) n 10 pl ce) λr => Due cx Cm r.1 r.2 := by
  unfold fU
  rw[au, aB, if_neg (by decide), if_neg (by decide), if_neg (by decide), aB]
  have t : wu [("" : Str)] := ⟨by simp, by decide, λr hr => by rw[mem_singleton.mp hr];exact⟨by decide, by decide⟩⟩
  exact(t.blank (cx := cx) ⟨"", by simp, by unfold spl;rw[M4, xT];simp⟩).due
theorem Ro(h : aQ n T)(h0 : 0≤wy∧wy<11)(pl ce : Int) : W (oG ((wT T).map rt) n wy pl ce) λr => Due cx Cm r.1 r.2 := by
  unfold oG
  have : wy=0∨wy=1∨wy=2∨wy=3∨wy=4∨wy=5∨wy=6∨wy=7∨wy=8∨wy=9∨wy=10 := by omega
  rcases this with rfl|rfl|rfl|rfl|rfl|rfl|rfl|rfl|rfl|rfl|rfl
  · exact ae2 h pl ce
  · exact ae3 h pl ce
  · exact ae5 h pl ce
  · exact ae7 h pl ce
  · exact Mp h pl ce
  · exact ae6 h pl ce
  · exact ae8 h pl ce
  · exact ae9 h pl ce
  · exact afa h pl ce
  · exact afb h pl ce
  · exact aec h pl ce
end
theorem W2(C : Addr)(cx : Fin 4→Addr)(scr : Scr) : W (OJ C cx scr) (· = true) := by
  unfold OJ
  rw[au]
  refine(YS _).imp λT ⟨n, h⟩ => ?_
  have ln := wk h
  rw[au, YD h, aB, au, aB, h.len, au, dG]
  refine⟨by decide, ?_⟩
  rw[au]
  refine(Ro (cx := cx) (Cm := C) h ⟨by omega, by omega⟩ _ _).imp λr hr => ?_
  obtain⟨due, made⟩ := r
  obtain⟨hj, hg⟩ := hr
  have hj : joinM "\n" made=some (jt made) := hj
  have hg : ∀b, kh cx (eZ C) (jt made) b=some due := hg
  obtain⟨m, em, g, _⟩ := uU C h
  rw[au, (ad2 ln.2 (by omega) (qQ h)).1, aB, em]
  show W (((dR m).bind λa8 => some (!decide (a8=n))).bind (λc12 => if c12=true then some true else(((joinM "\n" made).bind λa10 => some (a10, false, ())).bind λz9 => kh cx (eZ C) z9.1 z9.2.1).bind λa11 => some (!decide (a11=due))) |>.bind λb => if b=true then some false else((((joinM "\n" made).bind λa14 => some (a14, true, ())).bind λz13 => kh cx (eZ C) z13.1 z13.2.1).bind λa15 => some (decide (a15=due))).bind λc18 => if c18=true then(dR m).bind λa17 => some (decide (a17=n)) else some false) _
  rw[Yv g, hj]
  show W (((some (!decide (n=n))).bind (λc12 => if c12=true then some true else(kh cx (eZ C) (jt made) false).bind λa11 => some (!decide (a11=due)))).bind λb => if b=true then some false else((kh cx (eZ C) (jt made) true).bind λa15 => some (decide (a15=due))).bind λc18 => if c18=true then some (decide (n=n)) else some false) _
  rw[hg, hg, decide_eq_true rfl]
  show W (if(!decide (due=due))=true then some false else(some (decide (due=due))).bind λc18 => if c18=true then some true else some false) _
  rw[decide_eq_true rfl]
  exact aB.mpr rfl
def W3(K : afh) : Sp := λvs H Q _ => ∃(a : Addr)(ns : List Int), vs=[.ref a]∧gj K H a (ns.map V.int)∧ns.length≤63∧∀H', Q (.bl true) H'
section
variable{P : Program}{w : World}{K : afh}{mg : Str→Option Value}{base h : Heap}{j k : Nat}{f C : Addr}{fd : FuncData}{ps : List Str}{sp : Sp}{x y : Str}{st : Stmt}
abbrev FP(K : afh)(x : Str)(st : Stmt) : Prop := ∃f fd, af7 K afs x=some (some (.ref f))∧gn K x x st f fd
abbrev MP(K : afh)(C : Addr)(x y : Str)(st : Stmt) : Prop := ∃f fd, Meth K C x f∧gn K x y st f fd
def Z4(K : afh) : List Str→Prop
  |[] => True
  |x::r => af7 K afs x=some none∧Z4 K r
theorem aed(a : af7 K afs x=some (some (.ref f)))(F : gn K x x st f fd) : FP K x st := ⟨f, fd, a, F⟩
theorem aee(a : Meth K C x f)(F : gn K x y st f fd) : MP K C x y st := ⟨f, fd, a, F⟩
theorem Y9{dV oc kV doc pm cdv ct : Value}{od an : Option Addr}{osl : Array (Option Value)}(l : K.lookup f=some ⟨oc, od, .func (agl x y (iy st) (dB st) (aH st) dV kV doc pm an cdv ct), osl⟩)(c : ah3 K cdv y=true)(k : agw K (.ref f)=true) : JC K x y st dV f (agl x y (iy st) (dB st) (aH st) dV kV doc pm an cdv ct) := ⟨⟨oc, od, kV, doc, pm, an, cdv, ct, osl, rfl, l, c⟩, k⟩
theorem ab7(X : K.In h)(G : h.Ns afs mg)(p : FP K x st)(t : ∀f fd, gn K x x st f fd→bY P w K mg base jE k f fd ps sp∧Binds K fd ps []) : mJ P w K mg base k x ps sp := by
  obtain⟨f, fd, a, F⟩ := p
  exact⟨f, fd, (t f fd F).1, (t f fd F).2, F.kp, afx X G a⟩
theorem Y_(c : Cls K C)(p : MP K C x y st)(t : ∀f fd, gn K x y st f fd→bY P w K mg base jE k f fd ps sp∧Binds K fd ps []) : Dq P w K mg base k C x ps sp := by
  obtain⟨f, fd, a, F⟩ := p
  exact⟨⟨f, fd, (t f fd F).1, (t f fd F).2, a⟩, c⟩
theorem mJ.m(c : mJ P w K mg base j x ps sp)(h : j≤k := by decide) : mJ P w K mg base k x ps sp := c.mono h
theorem Dq.m(c : Dq P w K mg base j C x ps sp)(h : j≤k := by decide) : Dq P w K mg base k C x ps sp := c.mono h
end
structure W9(K : afh)(cS cF c0 c1 c2 c3 c : Addr)(b0 b1 b2 b3 : Bool) : Prop where
  ex : aiz K c [.type "ValueError", .type "Exception", .type "BaseException", .type "object"] "ValueError.__new__" = true
  ga : afv K (.ref c) "__getattribute__" = some (some (.builtin "BaseException.__getattribute__"))
  no : afv K (.ref c) "__getattr__" = some none
  cl : afv K (.ref c) "__class__" = some (some (.builtin "object.__class__"))
  gt : aiw K (.builtin "object.__class__") "__get__" = some (some (.builtin "getset_descriptor.__get__"))
  tk : aja K (.builtin "object.__class__")=some true
  ob : ah9 K c (.type "object")=some true
  be : ah9 K c (.type "BaseException")=some true
  ty : (PySem.W.clsIn K c).isSome=true
  hex : aio K (.ref c) (.ref cS)=some true
  nn : afo K (.ref c) (.ref cF)=some false
  ve : afo K (.ref c) (.type "ValueError")=some true
  k0 : afo K (.ref c) (.ref c0)=some b0
  k1 : afo K (.ref c) (.ref c1)=some b1
  k2 : afo K (.ref c) (.ref c2)=some b2
  k3 : afo K (.ref c) (.ref c3)=some b3
theorem ab8(ex : aiz K c [.type "ValueError", .type "Exception", .type "BaseException", .type "object"] "ValueError.__new__" = true)(ga : afv K (.ref c) "__getattribute__" = some (some (.builtin "BaseException.__getattribute__")))(no : afv K (.ref c) "__getattr__" = some none)(cl : afv K (.ref c) "__class__" = some (some (.builtin "object.__class__")))(gt : aiw K (.builtin "object.__class__") "__get__" = some (some (.builtin "getset_descriptor.__get__")))(tk : aja K (.builtin "object.__class__")=some true)(ob : ah9 K c (.type "object")=some true)(be : ah9 K c (.type "BaseException")=some true)(ty : (PySem.W.clsIn K c).isSome=true)(hex : aio K (.ref c) (.ref cS)=some true)(nn : afo K (.ref c) (.ref cF)=some false)(ve : afo K (.ref c) (.type "ValueError")=some true)(k0 : afo K (.ref c) (.ref c0)=some b0)(k1 : afo K (.ref c) (.ref c1)=some b1)(k2 : afo K (.ref c) (.ref c2)=some b2)(k3 : afo K (.ref c) (.ref c3)=some b3) : W9 K cS cF c0 c1 c2 c3 c b0 b1 b2 b3 := ⟨ex, ga, no, cl, gt, tk, ob, be, ty, hex, nn, ve, k0, k1, k2, k3⟩
theorem ab9 : ∀i : Fin 4, i=0∨i=1∨i=2∨i=3 := by decide
theorem Za{K : afh}(X : K.In h)(G : h.Ns afs mg)(p : FP K x st)(t : ∀f fd, gn K x x st f fd→bY P w K mg base (kE P w) k f fd ps sp∧Binds K fd ps []) : m9 P w K mg base k x ps sp := by
  obtain⟨f, fd, a, F⟩ := p
  exact⟨f, fd, (t f fd F).1, (t f fd F).2, F.kp, afx X G a⟩
theorem acd{mg : Str→Option Value}(m0 : mg "NoStand" = some (.ref c0))(m1 : mg "NoStep" = some (.ref c1))(m2 : mg "NoMark" = some (.ref c2))(m3 : mg "NoText" = some (.ref c3))(mS : mg "SayError" = some (.ref cS))(mF : mg "NoFold" = some (.ref cF))(mV : mg "ValueError" = none)(e0 : W9 K cS cF c0 c1 c2 c3 c0 true false false false)(e1 : W9 K cS cF c0 c1 c2 c3 c1 false true false false)(e2 : W9 K cS cF c0 c1 c2 c3 c2 false false true false)(e3 : W9 K cS cF c0 c1 c2 c3 c3 false false false true) : ∃cx, ZW K mg cx cS cF := by
  have all : ∀i : Fin 4, ∃b0 b1 b2 b3, W9 K cS cF c0 c1 c2 c3 (([c0, c1, c2, c3] : List Addr).getD i.val 0) b0 b1 b2 b3 := λi => by
    rcases ab9 i with rfl|rfl|rfl|rfl
    · exact⟨_, _, _, _, e0⟩
    · exact⟨_, _, _, _, e1⟩
    · exact⟨_, _, _, _, e2⟩
    · exact⟨_, _, _, _, e3⟩
  refine⟨λi => ([c0, c1, c2, c3] : List Addr).getD i.val 0, ⟨m0, m1, m2, m3, λi => ?_⟩, mS, mF, mV, λi => ?_, λi => ?_, λi j => ?_, λi => ?_, λi => ?_⟩
  · obtain⟨_, _, _, _, e⟩ := all i
    exact⟨_, _, _, _, _, _, _, _, e.ex, PySem.F.excBase_ValueError, rfl, PySem.F.excBase_ValueError⟩
  · obtain⟨_, _, _, _, e⟩ := all i
    exact⟨e.ga, e.no, e.cl, e.gt, e.tk, e.ob, e.be, e.ty⟩
  · obtain⟨_, _, _, _, e⟩ := all i
    exact e.hex
  · rcases ab9 i with rfl|rfl|rfl|rfl<;>rcases ab9 j with rfl|rfl|rfl|rfl<;>first|exact e0.k0|exact e0.k1|exact e0.k2|exact e0.k3|exact e1.k0|exact e1.k1|exact e1.k2|exact e1.k3|exact e2.k0|exact e2.k1|exact e2.k2|exact e2.k3|exact e3.k0|exact e3.k1|exact e3.k2|exact e3.k3
  · obtain⟨_, _, _, _, e⟩ := all i
    exact e.nn
  · obtain⟨_, _, _, _, e⟩ := all i
    exact e.ve
set_option maxHeartbeats 8000000 in
theorem all_mk{l : ai8}{K : afh}(X : K.In h)(G : h.Ns afs mg)(hfa : mg "law" = some (.ref fa))(h1 : FP K "sources_of" xr)(h2 : FP K "is_stand" n_)(h3 : FP K "check_stands" gY)(h4 : FP K "check_steps" iZ)(h5 : FP K "is_name" yI)(h6 : FP K "check_marks" i_)(h7 : FP K "check_fair" jT)(h8 : FP K "copied" BL)(h9 : FP K "is_number" su)(h10 : FP K "read_number" lJ)(h11 : FP K "read_stands" lK)(h12 : FP K "read_from" oX)(h13 : FP K "read_mark" oY)(h14 : FP K "rows_behind" pC)(h15 : FP K "read_rows" oZ)(h16 : FP K "check_heads" lM)(h17 : FP K "read_machine" jU)(h18 : FP K "_law_cell" BP)(h19 : FP K "_law_name" BR)(h20 : FP K "_law_some" BW)(h21 : FP K "_law_parts" yJ)(h22 : FP K "_law_rows" BX)(h23 : FP K "_law_kind" BZ)(h24 : FP K "_law_blank" yK)(h25 : FP K "_law_moved" yL)(h26 : FP K "_law_number" vR)(h27 : FP K "_law_more" B_)(h28 : FP K "_law_other" yM)(h29 : FP K "_law_spoilt" vU)(h30 : FP K "_law_asked" uy)(h31 : FP K "_law_got" Hu)(h32 : FP K "law" Fj)(aC : af7 K afs "Machine" = some (some (.ref C)))(mk : Mk K C fI)(FI : JC K "__init__" "Machine.__init__" Oq (.ref TD) fI fdI)(lT : K.lookup TD=some ⟨ocT, odT, .seq #[.none, .none] nT, slT⟩)(mm : MP K C "many" "Machine.many" oh)(aS : af7 K afs "Sayer" = some (some (.ref Cs)))(mkS : Mk K Cs fYs)(FS : gn K "__init__" "Sayer.__init__" iG fYs aef)(cS2 : Cls K Cs)(nS2 : afv K (.ref Cs) "machine" = some none∧afv K (.ref Cs) "unfolded" = some none)(cC : Cls K C)(nC : afv K (.ref C) "steps" = some none∧afv K (.ref C) "marks" = some none∧afv K (.ref C) "fair" = some none∧afv K (.ref C) "sources" = some none)(vM : af7 K afs "MOST_STANDS" = some (some (.int 60 tM)))(vL : af7 K afs "LETTERS" = some (some (.str "abcdefghijklmnopqrstuvwxyz" tL)))(vN : af7 K afs "LONGEST_NAME" = some (some (.int 8 tN)))(vG : af7 K afs "FIGURES" = some (some (.str "0123456789" tG)))(vO : af7 K afs "FIGURES_OF_STANDS" = some (some (.int 2 tO)))(vW : af7 K afs "SAYING_WORDS" = some (some (.ref aW)))(uW : K.lookup aW=some ⟨.type "tuple", none, .seq #[.str "all" k0, .str "not" k1, .str "both" k2, .str "either" k3, .str "somenext" k4, .str "eachnext" k5, .str "sometill" k6, .str "eachtill" k7, .str "someever" k8, .str "eachever" k9] nW, slW⟩)(ec0 : af7 K afs "NoStand" = some (some (.ref c0)))(ec1 : af7 K afs "NoStep" = some (some (.ref c1)))(ec2 : af7 K afs "NoMark" = some (some (.ref c2)))(ec3 : af7 K afs "NoText" = some (some (.ref c3)))(ecS : af7 K afs "SayError" = some (some (.ref cS)))(ecF : af7 K afs "NoFold" = some (some (.ref cF)))(k0K : W9 K cS cF c0 c1 c2 c3 c0 true false false false)(k1K : W9 K cS cF c0 c1 c2 c3 c1 false true false false)(k2K : W9 K cS cF c0 c1 c2 c3 c2 false false true false)(k3K : W9 K cS cF c0 c1 c2 c3 c3 false false false true)(z : Z4 K ["len", "range", "isinstance", "int", "bool", "list", "enumerate", "all", "str", "sum", "ValueError"]) :
    ∃fd : FuncData, (∀(s : Shared)(v : Value), BindsTo s fd ⟨[v], []⟩ [("_law_script", v)])∧∀base : Heap, K.In base→base.Ns afs mg→bY l.prog w K mg base jE 12 fa fd ["_law_script"] (W3 K) := by
  obtain⟨f, fd, a, ⟨oc, od, kV, dc, pm, an, cd, ct, sl, rfl, lk, ck⟩, kp⟩ := h32
  have e := hfa.symm.trans (afx X G a)
  cases e
  obtain⟨afc, ace, Kf, afd, aeg, aeh, Nb, QC, vX, Vx, Kg, _⟩ := z
  obtain⟨nS, nM, nF, nB⟩ := nC
  obtain⟨nS1, nS3⟩ := nS2
  have N : ∀{x : Str}, af7 K afs x=some none→mg x=none := λe => PySem.W.mg_none_of X G e
  have B : Bl K mg := ⟨N afc, N ace, N Kf, N afd, N aeg, N aeh, N Nb, Zv, Zw, ac5⟩
  have T : Cl K mg C := ⟨cC, nS, nM, nF, nB, afx X G aC⟩
  obtain⟨cx, XT⟩ := acd (afx X G ec0) (afx X G ec1) (afx X G ec2) (afx X G ec3) (afx X G ecS) (afx X G ecF) (N Kg) k0K k1K k2K k3K
  have bI : Binds K fdI ["self", "steps", "marks", "fair"] [] := λs us KX hl => by
    obtain⟨_, _, _, _, _, _, _, _, _, rfl, _⟩ := FI.ex
    have h2 : us.length=4 := by
      rw[append_nil] at hl
      exact hl
    match us, h2 with
    |[u0, u1, u2, u3], _ => exact BindsTo.of_defaults rfl (KX _ _ lT) rfl rfl rfl
  refine⟨agl "law" "law" (iy Fj) (dB Fj) (aH Fj) .none kV dc pm an cd ct, λs v => .of_eq rfl, λbase _ _ => ?_⟩
  have cal : ∀{k : Nat}{x : Str}{st : Stmt}{ps : List Str}{sp : Sp}, FP K x st→(∀f fd, gn K x x st f fd→bY l.prog w K mg base jE k f fd ps sp∧Binds K fd ps [])→mJ l.prog w K mg base k x ps sp := λh t => ab7 X G h t
  have afe : ∀{k : Nat}{x y : Str}{st : Stmt}{ps : List Str}{sp : Sp}, MP K C x y st→(∀f fd, gn K x y st f fd→bY l.prog w K mg base jE k f fd ps sp∧Binds K fd ps [])→Dq l.prog w K mg base k C x ps sp := λh t => Y_ cC h t
  have Ac : ∀{k : Nat}{x : Str}{st : Stmt}{ps : List Str}{sp : Sp}, FP K x st→(∀f fd, gn K x x st f fd→bY l.prog w K mg base (kE l.prog w) k f fd ps sp∧Binds K fd ps [])→m9 l.prog w K mg base k x ps sp := λh t => Za X G h t
  have hW : ∀H : Hp, zN K H aW ((["all", "not", "both", "either", "somenext", "eachnext", "sometill", "eachtill", "someever", "eachever"] : List Str).map V.str) := λH => .inr ⟨_, _, _, uW, rfl, rfl, (by show 10≤sizeLine;decide), by repeat(first|exact Paired.nil|refine Paired.cons ⟨_, rfl⟩ ?_)⟩
  have C1 := cal h2 λ_ _ F => ⟨JD (k := 0) F B, G6 F⟩
  have C2 := cal h3 λ_ _ F => ⟨zU (k := 1) F B C1.m, bi3 F⟩
  have C3 := cal h4 λ_ _ F => ⟨Ce (k := 2) F B (afx X G vM) C2.m, Ez F⟩
  have C4 := cal h5 λ_ _ F => ⟨Lq (k := 0) F B (afx X G vL) (afx X G vN) (afx X G vW) hW (N QC) (N vX), Ez F⟩
  have C5 := cal h6 λ_ _ F => ⟨Cp (k := 2) F B C2.m C4.m, G6 F⟩
  have C6 := cal h7 λ_ _ F => ⟨Dy (k := 2) F B C2.m, G6 F⟩
  have C7 := cal h8 λ_ _ F => ⟨QD (k := 2) F B, Ez F⟩
  have C8 := cal h1 λ_ _ F => ⟨abj F B, Ez F⟩
  have OI : bY l.prog w K mg base jE 4 fI fdI ["self", "steps", "marks", "fair"] (Jw K C (mkK C)) := abk (k := 3) FI T B C3.m C5.m C6.m C7.m C8.m
  have D1 := cal h2 λ_ _ F => ⟨HY (k := 0) F B, G6 F⟩
  have D2 := Ac h3 λ_ _ F => ⟨yQ (k := 1) F B ⟨XT.m0, XT.m1, XT.m2, XT.m3, XT.o⟩ D1.m, bi3 F⟩
  have D3 := Ac h4 λ_ _ F => ⟨zX (k := 2) F B ⟨XT.m0, XT.m1, XT.m2, XT.m3, XT.o⟩ (afx X G vM) D2, Ez F⟩
  have D5 := Ac h6 λ_ _ F => ⟨zY (k := 2) F B ⟨XT.m0, XT.m1, XT.m2, XT.m3, XT.o⟩ C4.m D2, G6 F⟩
  have D6 := Ac h7 λ_ _ F => ⟨C_ (k := 2) F B D2, G6 F⟩
  have OX : bY l.prog w K mg base (kE l.prog w) 4 fI fdI ["self", "steps", "marks", "fair"] (Ou K C cx) := abl (k := 3) FI B D3 D5 D6
  have MM := afe mm λ_ _ F => ⟨zV (k := 0) F B T, Ez F⟩
  have R1 := cal h9 λ_ _ F => ⟨Hw (k := 0) F B (afx X G vG) (N QC), G6 F⟩
  have R2 := cal h10 λ_ _ F => ⟨Cq (k := 1) F B R1.m, G6 F⟩
  have R3 := cal h11 λ_ _ F => ⟨Cr (k := 2) F B (afx X G vO) R2.m, Ez F⟩
  have R4 := cal h12 λ_ _ F => ⟨Hx (k := 3) F B R3.m, G6 F⟩
  have R5 := cal h13 λ_ _ F => ⟨Hy (k := 3) F B R3.m, Ez F⟩
  have R6 := cal h14 λ_ _ F => ⟨Cu (k := 0) F B, G6 F⟩
  have R7 := cal h15 λ_ _ F => ⟨Hz (k := 0) F B, Ez F⟩
  have R8 := cal h16 λ_ _ F => ⟨Cv (k := 0) F B, Ez F⟩
  have R9 := cal h17 λ_ _ F => ⟨zW (k0 := 5) F B T mk (OI.mono (by decide)) bI R8.m R4.m R5.m R7.m R3.m R6.m, Ez F⟩
  have V2 := Ac h10 λ_ _ F => ⟨zZ (k := 1) F B ⟨XT.m0, XT.m1, XT.m2, XT.m3, XT.o⟩ R1.m, G6 F⟩
  have V3 := Ac h11 λ_ _ F => ⟨z_ (k := 2) F B (afx X G vO) V2, Ez F⟩
  have V4 := Ac h12 λ_ _ F => ⟨Dz (k := 5) F B ⟨XT.m0, XT.m1, XT.m2, XT.m3, XT.o⟩ (V3.mono (by decide)), G6 F⟩
  have V5 := Ac h13 λ_ _ F => ⟨DG (k := 5) F B ⟨XT.m0, XT.m1, XT.m2, XT.m3, XT.o⟩ (V3.mono (by decide)), Ez F⟩
  have V7 := Ac h15 λ_ _ F => ⟨DK (k := 5) F B ⟨XT.m0, XT.m1, XT.m2, XT.m3, XT.o⟩, Ez F⟩
  have V8 := Ac h16 λ_ _ F => ⟨Aa (k := 5) F B ⟨XT.m0, XT.m1, XT.m2, XT.m3, XT.o⟩, Ez F⟩
  have V9 := Ac h17 λ_ _ F => ⟨yR (k0 := 5) F B (afx X G aC) mk (OX.mono (by decide)) bI V8 V4 V5 V7 (V3.mono (by decide)) R6.m, Ez F⟩
  have OS : bY l.prog w K mg base jE 8 fYs aef ["self", "text"] (OD Cs C) := abn (k := 7) FS cS2 nS1 nS3 R9.m
  have OY : bY l.prog w K mg base (kE l.prog w) 8 fYs aef ["self", "text"] (Ox Cs cx) := abm (k := 7) FS V9
  have A1 := cal h30 λ_ _ F => ⟨Mi (k := 8) F (afx X G aS) mkS OS (G6 FS) R9.m, G6 F⟩
  have A2 := Ac h30 λ_ _ F => ⟨JW (k := 8) F (afx X G aS) mkS OY (G6 FS) (V9.mono (by decide)), G6 F⟩
  have G1 := cal h31 λ_ _ F => ⟨Yt (k := 10) F B XT A2 A1, G6 F⟩
  have L1 := cal h18 λ_ _ F => ⟨QH (k := 0) F B, Ez F⟩
  have L2 := cal h19 λ_ _ F => ⟨QJ (k := 0) F B, G6 F⟩
  have L3 := cal h20 λ_ _ F => ⟨QK (k := 0) F B, G6 F⟩
  have L4 := cal h21 λ_ _ F => ⟨Ly (k := 1) F B L1.m L2.m L3.m, Ez F⟩
  have L5 := cal h22 λ_ _ F => ⟨QL (k := 0) F B (N vX), Ez F⟩
  have L6 := cal h23 λ_ _ F => ⟨QM (k := 0) F B, Ez F⟩
  have L7 := cal h24 λ_ _ F => ⟨LK (k := 0) F B, bi3 F⟩
  have L8 := cal h25 λ_ _ F => ⟨L_ (k := 1) F B L6.m, bi4 F⟩
  have L9 := cal h26 λ_ _ F => ⟨JQ (k := 0) F B, bi3 F⟩
  have LA := cal h27 λ_ _ F => ⟨QS (k := 0) F B (N vX), bi4 F⟩
  have LB := cal h28 λ_ _ F => ⟨Mg (k := 1) F B (N vX) L6.m, bi5 F⟩
  have LC := cal h29 λ_ _ F => ⟨JT (k := 2) F B L7.m LA.m L8.m L9.m LB.m, bi5 F⟩
  refine bY.imp (abo (k := 11) (C := C) (cx := cx) (Gy lk ck kp) B (N Vx) MM.m G1.m L4.m L5.m LC.m R9.m) λvs H Q E h => ?_
  obtain⟨a, ns, rfl, hS, h63, hQ⟩ := h
  obtain⟨b, e1, e2⟩ := W2 C cx ⟨ns⟩
  subst e2
  exact⟨(⟨ns⟩, ()), true, H, .refl _, e1, .cons ⟨a, rfl, hS⟩ .nil, λv H' _ r => by cases r;exact hQ H'⟩
theorem walk{l : ai8}{YP : World→Heap→Prop}{d : DefRec}{K : Params→afh}(hn : l.most=some 63)(hdf : d.params.defaults=[])(hY : ∀(w : World) (h : Heap), YP w h→(K w.params).In h)(F : ∀(w : World) (mg : Str→Option Value) (fa : Addr) (h : Heap), (K w.params).In h→h.Ns afs mg→mg d.name=some (.ref fa) →
      ∃fd : FuncData, (∀(s : Shared) (u : Value), BindsTo s fd ⟨[u], []⟩ [("_law_script", u)])∧∀base : Heap, (K w.params).In base→base.Ns afs mg→bY l.prog w (K w.params) mg base jE 12 fa fd ["_law_script"] (W3 (K w.params))) :
    PySem.W.WalkO q loose XP YP l.row.toRowW d [] (λf vs => PySem.call f vs) :=
  L2.Xv (n := 63) (k := 12) (x := "_law_script") (CX := λ_ => jE) (sp := λw => W3 (K w.params)) hn (by decide) hdf ⟨rfl, by decide, by decide⟩ hY F (λ_ _ a ns hl _ hS => ⟨a, ns, rfl, hS, hl, λ_ => rfl⟩) λ_ _ _ _ _ z => z
end Ts
namespace PySem.W.Fast
def tw5235308824432566483:=0
def tw16758217467018654332:=0
def tw9482281367487852801:=0
def tw16245946719744831228:=0
def tw2035504308942561317:=0
def tw12583314568565261652:=0
def tw4725119443241624261:=0
def tw5774417120733736534:=0
def tw1756533672356118083:=0
def tw17850781546334930934:=0
def tw5546109571978202974:=0
def tw16973544781626129691:=0
def tw10413167436734587376:=0
def tw6666450498434804940:=0
def tw13625893805975636826:=0
def tw4099691930542386780:=0
def tw9928832276105778209:=0
def tw12315159074639512871:=0
def tw14730030851492076319:=0
def tw6121499459623518406:=0
def tw17897301832649106439:=0
def tw15432726464444769804:=0
def tw15087818678952263731:=0
def tw11849814538076405249:=0
def tw8288324235740368329:=0
def tw10563126599109566356:=0
def tw17776718337569517815:=0
def tw11985108692391401253:=0
def tw17180240259473779687:=0
def tw7738139334505657233:=0
def tw8625995581466099890:=0
def tw9722670979056678048:=0
def tw234386544589895544:=0
def tw15946519309178056372:=0
def tw15724850045959624450:=0
def tw2977916586371433102:=0
def tw2045575520476205455:=0
def tw11163420373405611571:=0
def tw16398153994274135653:=0
def tw13749583900204389168:=0
def tw12710722242693122332:=0
def tw14397725350372888350:=0
def tw4395679868195421455:=0
def tw16043085151857383193:=0
def tw6311059907717894588:=0
def tw16399111189613576633:=0
def tw16674741169961871219:=0
def tw6309727201027858998:=0
def tw12121090450990087467:=0
def tw18090790628730386047:=0
def tw2003687762650623294:=0
def tw749646126188824470:=0
def tw10467796733802521105:=0
def tw9032541630515764212:=0
def tw4608395493879295460:=0
def tw5251638961631748521:=0
def tw11125411696665877226:=0
def tw666427024003498786:=0
def tw9768266229296529245:=0
def tw4989553854467134853:=0
end PySem.W.Fast
open PySem PySem.W PyProof.Rows
set_option maxRecDepth 100000 in
set_option maxHeartbeats 0 in
theorem PySem.Challenge.cw_treesay_k82_no_machines_holds : PySem.Challenge.rw_treesay_k82_no_machines.Holds := by
  w_on; o_law; k_head; (case hw => w_witness2)
  k_fill
  refine Ts.walk (l := PySem.Challenge.rw_treesay_k82_no_machines) rfl rfl (fun w h Y => by first | exact PySem.W.kIn_of Y | exact PySem.W.km_in_of Y) ?F
  case F =>
    intro w mg fa h KX G hmg
    refine' Ts.all_mk KX G hmg ?_ ?_ ?_ ?_ ?_ ?_ ?_ ?_ ?_ ?_ ?_ ?_ ?_ ?_ ?_ ?_ ?_ ?_ ?_ ?_ ?_ ?_ ?_ ?_ ?_ ?_ ?_ ?_ ?_ ?_ ?_ ?_ ?_ ?_ ?_ ?_ ?_ ?_ ?_ ?_ ?_ ?_ ?_ ?_ ?_ ?_ ?_ ?_ ?_ ?_ ?_ ?_ ?_ ?_ ?_ ?_ ?_ ?_ ?_ ?_ ?_ ?_
    all_goals first | refine' Ts.aee ⟨?_, ?_, ?_⟩ (L2.Gy ?_ ?_ ?_) | refine' Ts.aed ?_ (L2.Gy ?_ ?_ ?_) | refine' Ts.Y9 ?_ ?_ ?_ | refine' L2.Gy ?_ ?_ ?_ | refine' Ts.ab8 ?_ ?_ ?_ ?_ ?_ ?_ ?_ ?_ ?_ ?_ ?_ ?_ ?_ ?_ ?_ ?_ | refine' ⟨?_, ?_, ?_, ?_⟩ | skip
    all_goals repeat' first | refine' And.intro ?_ ?_ | exact True.intro
    all_goals first | k_is | skip
    all_goals first | exact ⟨_, _, rfl, rfl⟩ | k_is | decide | skip
    all_goals first | k_is | kernel_rfl

#print axioms PySem.Challenge.cw_treesay_k82_no_machines_holds
