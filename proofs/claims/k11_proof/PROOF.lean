import PyProof.Rows.All
import Wide.All
import OpenK.AllK
import Wide.FinOn
import HandS.ForMost
import HandS.ExcInit
import HandS.ExcIs
import KE.KExcInit
import KE.KExcSuper
import HandS.MakeKwOnly
import HandS.IsInst
import HandS.EndBits
import HandS.Conv
import HandS.Walk
import HandS.Text
import HandS.Dict
import HandS.Iter
import HandS.Comp
import PySem.Challenge.RW_settlesfirst_k11_things_refused
import KE.GoesMore
import KE.GoesEnum
import HandS.SetKeys
import HandS.Defaults
import HandS.Lambda
import HandS.Style
import HandS.Codes
import HandS.FStr
import HandS.Property
import HandS.DictComp
import HandS.Evl
import KE.KStateDown
import HandS.Head0
import HandS.Head1
import HandS.Head2
import HandS.HeadEnd
import HandS.HeadHook1
import HandS.Steps
import HandS.Sort
import PyProof.ZipIter
import PyProof.ListNew
import KE.KItemsList
import HandS.Zip
import HandS.SetFor
import HandS.ListItems
import HandS.ExcField
import HandS.ExcOwn
import HandS.WordsExc
import KE.Datum
import HandS.Small
import KE.KOpsOwn
import PyProof.ReprLen
import HandS.CallSlots
import HandS.EndTab
set_option Elab.async false
set_option linter.all false
set_option maxRecDepth 100000
set_option maxHeartbeats 2000000
namespace PySem
namespace Xv
open PySem.W PySem.Calls PyProof.Rows
section
variable {M : Model} {A : Around} {E : Value → Shared → Prop} {h : Heap} {g : Array GenState} {d : Drawn} {t : Nat} {os : OsState}
variable {nm q : Str} {C N : Addr} {bs bm bmB : List Value} {hdct : Bool} {sn : List Str} {sub : List Value} {ab : Bool} {col : Option Bool} {dd : Option Addr} {k0 k1 k2 k3 k5 : Option Value} {B newId initId : String}
/-- the arguments that a class of exceptions is called with, keywords among them, pass the look ahead of its maker -/
theorem look_new (F : ExcBaseFacts B newId initId bmB) (hT : ∀ X : String, bm.contains (.type X) = bmB.contains (.type X)) {rest : List Value} {kw : List (Str × Value)} {Q : Unit → Shared → Prop}
    (hC : h.get? C = some (excClassObj nm q C N bs bm hdct sn sub ab col dd k0 k1 k2 k3 k5 newId)) (hq : Q () ⟨h, g, d, t, os⟩) : wpAny M A (checkBuiltinCall newId ⟨.ref C :: rest, kw⟩) Q E ⟨h, g, d, t, os⟩ := by
  have c1 : (Value.ref C :: bm).contains (.type B) = true := by
    rw [List.contains_cons, hT, F.hasB, Bool.or_true]
  have c2 := F.noStar
  simp only [checkBuiltinCall, F.newKind, F.newSplit, F.newRow]
  repeat (first
    | refine wpAny_loadPart_at hC ?_
    | (refine wpAny_isSubtype_exc hC ?_; rw [c1])
    | refine wpAny_staticBase_exc hC ?_
    | refine wpAny_madeBy_exc hC ?_
    | simp only [bne_self_eq_false, Bool.false_eq_true, if_false]
    | wp_step)
  exact hq
theorem look_tcall {rest : List Value} {kw : List (Str × Value)} {Q : Unit → Shared → Prop} (hC : h.get? C = some (excClassObj nm q C N bs bm hdct sn sub ab col dd k0 k1 k2 k3 k5 newId))
    (hq : Q () ⟨h, g, d, t, os⟩) : wpAny M A (checkBuiltinCall "type.__call__" ⟨.ref C :: rest, kw⟩) Q E ⟨h, g, d, t, os⟩ := by
  have f3 := tc_sub
  have hT : (⟨h, g, d, t, os⟩ : Shared).TypeIs (.ref C) "type" := ⟨_, hC, rfl⟩
  simp only [checkBuiltinCall, tc_kind, tc_split]
  repeat (any_goals (first
    | assumption
    | with_reducible refine wpAny_loadPart_at hC ?_
    | with_reducible refine wpAny_onRaise ?_
    | with_reducible refine wpAny_map ?_
    | wp_step))
end
section
variable {prog : Program} {w : World} {A : Around} {E : Value → Shared → Prop} {R : Result → Shared → Prop} {h : Heap} {g : Array GenState} {d : Drawn} {t : Nat} {os : OsState}
variable {nm q : Str} {C N : Addr} {bs bm bmB : List Value} {hdct : Bool} {sn : List Str} {sub : List Value} {ab : Bool} {col : Option Bool} {dd : Option Addr} {k0 k1 k2 k3 k5 : Option Value} {B newId initId : String}
/-- BaseException's maker, keywords or not -/
theorem new_kw (F : ExcBaseFacts B newId initId bmB) (hT : ∀ X : String, bm.contains (.type X) = bmB.contains (.type X)) {rest : List Value} {kw : List (Str × Value)}
    (hC : h.get? C = some (excClassObj nm q C N bs bm hdct sn sub ab col dd k0 k1 k2 k3 k5 newId))
    (hq : R (.ok (.ret (.ref (h.objs.size + 1)))) ⟨(h.push (kdv_tup rest)).push (HandSPX.excO C h.objs.size), g, d, t, os⟩) (hrest : rest.length ≤ sizeLine) :
    codeAny (model prog w) A (.builtin newId ⟨.ref C :: rest, kw⟩) R ⟨h, g, d, t, os⟩ := by
  have e0 := F.ends
  have c1 : (Value.ref C :: bm).contains (.type B) = true := by
    rw [List.contains_cons, hT, F.hasB, Bool.or_true]
  have c2 : (Value.ref C :: bm).contains (.type "AttributeError") = false := by
    rw [List.contains_cons, hT, F.noAttr]; rfl
  have c3 : (Value.ref C :: bm).contains (.type "NameError") = false := by
    rw [List.contains_cons, hT, F.noName]; rfl
  refine codeAny_builtinAt F.entry ?_
  unfold Builtin.«BaseException.__new__»
  refine wpAt_bind ?_
  show wpAt _ _ _ (stack >>= _) _ _ _
  refine wpAt_bind (wpAt_stack fun p below => wpAt_of_wpAny ?_)
  wp_walk
  refine wpAt_of_wpAny ?_
  rw [F.owner]
  repeat (first
    | with_reducible refine wpAny_madeHere_exc F.canon hC ?_
    | with_reducible refine wpAny_loadPart_at hC ?_
    | (with_reducible refine wpAny_isSubtype_exc hC ?_; first | rw [c1] | rw [c2] | rw [c3])
    | wp_step)
  show R _ _
  rw [Heap.size_push]
  exact hq
theorem tcall_kw (F : ExcBaseFacts B newId initId bmB) (hT : ∀ X : String, bm.contains (.type X) = bmB.contains (.type X)) {rest : List Value} {kw : List (Str × Value)} {fI : Addr} {Q : Fin → Shared → Prop}
    (hC : h.get? C = some (excClassObj nm q C N bs bm hdct sn sub ab col dd k0 k1 k2 k3 k5 newId))
    (hi : Looks (model prog w) h (typeLookup (.ref C) "__init__") (some (.ref fI))) (hb : ∀ self, Looks (model prog w) h (bindSpecial (.ref fI) self) (.ref fI, [self])) (hrest : rest.length ≤ sizeLine)
    (hq : codeAny (model prog w) A (.call (.ref fI) ⟨.ref (h.objs.size + 1) :: rest, kw⟩)
      (fun r s' => match r with | .ok (.ret v) => v = .none ∧ Q (.done (.ret (.ref (h.objs.size + 1)))) s' | .ok _ => False | .error e => E e s')
      ⟨(h.push (kdv_tup rest)).push (HandSPX.excO C h.objs.size), g, d, t, os⟩) :
    wpAny (model prog w) A (Builtin.«type.__call__» ⟨.ref C :: rest, kw⟩) Q E ⟨h, g, d, t, os⟩ := by
  repeat (first
    | with_reducible refine wpAny_loadPart_at hC ?_
    | with_reducible refine wpAny_madeBy_exc hC ?_
    | wp_step)
  refine codeAny_call_builtin_code (Code.quiet_builtin _ F.quiet) (look_new F hT hC ?_)
  refine new_kw F hT hC ?_ hrest
  show wpAny _ _ _ _ _ _
  have k : ∀ b o, h.get? b = some o → ((h.push (kdv_tup rest)).push (HandSPX.excO C h.objs.size)).get? b = some o := fun b o e => Heap.get?_push_of_some _ (Heap.get?_push_of_some _ e)
  have hC₁ := k _ _ hC
  have hget : ((h.push (kdv_tup rest)).push (HandSPX.excO C h.objs.size)).get? (h.objs.size + 1) = some (HandSPX.excO C h.objs.size) := by heap_get
  have cC : (Value.ref C :: bm).contains (.ref C) = true := by simp
  have i1 := hi.keeps k
  have b1 := (hb (.ref (h.objs.size + 1))).keeps k
  unfold isInstance
  repeat (first
    | with_reducible refine wpAny_loadPart_at hget ?_
    | (with_reducible refine wpAny_isSubtype_exc hC₁ ?_; rw [cC])
    | wp_step)
  show wpAny _ _ (typeLookup (.ref C) _) _ _ _
  refine i1.at ?_
  refine wpAny_holding (wpAny_bind (b1.at ?_))
  refine wpAny_bind (wpAny_call (codeAny_mono hq fun r s' z => ?_))
  rcases r with e | (v | _ | _ | _) <;> first | exact z | exact z.elim | skip
  obtain ⟨rfl, z⟩ := z
  first
    | exact wpAny_pure (wpAny_pure z)
    | (wp_walk; exact z)
/-- an own class of exceptions is called, keywords or not -/
theorem call_kw (F : ExcBaseFacts B newId initId bmB) (hT : ∀ X : String, bm.contains (.type X) = bmB.contains (.type X)) {rest : List Value} {kw : List (Str × Value)} {fI : Addr}
    (hC : h.get? C = some (excClassObj nm q C N bs bm hdct sn sub ab col dd k0 k1 k2 k3 k5 newId))
    (hi : Looks (model prog w) h (typeLookup (.ref C) "__init__") (some (.ref fI))) (hb : ∀ self, Looks (model prog w) h (bindSpecial (.ref fI) self) (.ref fI, [self])) (hrest : rest.length ≤ sizeLine)
    (hq : codeAny (model prog w) (A.under (.builtin "type.__call__" ⟨.ref C :: rest, kw⟩)) (.call (.ref fI) ⟨.ref (h.objs.size + 1) :: rest, kw⟩) (InitBack (h.objs.size + 1) R)
      ⟨(h.push (kdv_tup rest)).push (HandSPX.excO C h.objs.size), g, d, t, os⟩) :
    codeAny (model prog w) A (.call (.ref C) ⟨rest, kw⟩) R ⟨h, g, d, t, os⟩ := by
  have f1 := tc_lookup
  have f2 := tc_bind (.ref C)
  have hTy : (⟨h, g, d, t, os⟩ : Shared).TypeIs (.ref C) "type" := ⟨_, hC, rfl⟩
  refine codeAny_of_tree ?_
  show wpAny _ _ (callAny (.ref C) _) _ _ _
  repeat (any_goals (first
    | assumption
    | with_reducible refine wpAny_loadPart_at hC ?_
    | wp_step))
  refine ⟨rfl, ?_⟩
  refine codeAny_call_builtin_at (Code.quiet_builtin _ (by decide +kernel)) entry_typeCall (look_tcall hC (tcall_kw F hT hC hi hb hrest ?_))
  refine codeAny_mono hq fun r s' z => ?_
  rcases r with e | (v | _ | _ | _) <;> exact z
end
end Xv
end PySem

namespace PySem
namespace Xv
open PySem.W PySem.Calls PyProof.Rows
open Builtin Builtin.ObjectAttr
section
variable {prog : Program} {w : World} {A : Around} {E : Value → Shared → Prop} {R : Result → Shared → Prop} {hp : Heap} {g : Array GenState} {d : Drawn} {t : Nat} {os : OsState}
variable {B : String} {bmB : List Value} {K : Frag}
/-- the first field of an exception: its dict is made -/
theorem field_first (SF : StoreFacts B bmB "object.__setattr__" "object") {name : Str} {tk : Tok} {v : Value} {x C : Addr} {fv : Array Value}
    (X : K.In hp) (hx : hp.get? x = some { cls := .ref C, data := .fields fv }) (ho : excOver K C bmB = true) (hh : hasDictIn K C = true) (ha : takerIn K C name = some none)
    (hq : ∀ h' tk' dx, (∀ b o, b ≠ x → hp.get? b = some o → h'.get? b = some o) → hp.objs.size ≤ dx → dx ≠ x → h'.get? x = some { cls := .ref C, dict := some dx, data := .fields fv } →
      h'.Ns1 dx (fun y => if y = name then some v else none) → R (.ok (.ret .none)) ⟨h', g, d, tk', os⟩) :
    codeAny (model prog w) A (.call (.builtin "object.__setattr__") ⟨[.ref x, .str name tk, v], []⟩) R ⟨hp, g, d, t, os⟩ := by
  have I : InstAt hp x { cls := .ref C, data := .fields fv } C none := ⟨hx, rfl, rfl, trivial⟩
  have hxs : x ≠ hp.objs.size := Nat.ne_of_lt (Heap.lt_size hx)
  refine osa_openX SF X I ho ha fun b => ?_
  obtain ⟨cd, hc, hd⟩ := any_some hh
  have hcls : Looks (model prog w) hp (classData C) cd := looks_clsIn X hc
  obtain ⟨nm, bs, mro, ns, qn, hdd, sn, sb, ab, col, del⟩ := cd
  dsimp only at hd
  subst hd
  show wpAny _ _ (storeInOwnDict (.ref x) (.ref C) (.str name tk) name v b) _ _ _
  unfold storeInOwnDict ownDictForStores
  repeat (first
    | with_reducible refine HandSPX.store_in_new ?_ ?_
    | with_reducible refine wpAny_loadPart_at hx ?_
    | with_reducible refine hcls.at ?_
    | wp_step)
  · exact ⟨_, #[], _, (Heap.get?_update_ne _ _ _ _ hxs.symm).trans (Heap.get?_push_at rfl rfl), rfl, fun e he => absurd he (by simp), fun _ => rfl⟩
  · intro h' tk' hn' hs
    have hx₁ : (hp.push { cls := .type "dict", data := .dict #[] }).get? x = some { cls := .ref C, data := .fields fv } := Heap.get?_push_of_some _ hx
    refine hq h' tk' hp.objs.size (fun b o hb ho => ?_) (Nat.le_refl _) hxs.symm ?_ hn'
    · exact (hs.2 b (Nat.ne_of_lt (Heap.lt_size ho))).trans ((Heap.get?_update_ne _ _ _ _ hb).trans (Heap.get?_push_of_some _ ho))
    · exact (hs.2 x hxs).trans (Heap.get?_update_self _ hx₁ rfl)
/-- a further one -/
theorem field_more (SF : StoreFacts B bmB "object.__setattr__" "object") {name : Str} {tk : Tok} {v : Value} {x C dx : Addr} {fv : Array Value} {m0 : Str → Option Value} {nl : List Str}
    (X : K.In hp) (hx : hp.get? x = some { cls := .ref C, dict := some dx, data := .fields fv }) (hns : hp.Ns1 dx m0) (hw : Within m0 nl) (hz : nl.length ≤ 1000) (ho : excOver K C bmB = true) (hh : hasDictIn K C = true) (ha : takerIn K C name = some none)
    (hq : ∀ h' tk', (∀ b o, b ≠ dx → hp.get? b = some o → h'.get? b = some o) → h'.Ns1 dx (fun y => if y = name then some v else m0 y) → R (.ok (.ret .none)) ⟨h', g, d, tk', os⟩) :
    codeAny (model prog w) A (.call (.builtin "object.__setattr__") ⟨[.ref x, .str name tk, v], []⟩) R ⟨hp, g, d, t, os⟩ := by
  obtain ⟨oD, esD, epD, hoD, hdD, _⟩ := hns.count hw
  have I : InstAt hp x { cls := .ref C, dict := some dx, data := .fields fv } C (some oD) := ⟨hx, rfl, rfl, hoD⟩
  refine osa_openX SF X I ho ha fun b => ?_
  obtain ⟨cd, hc, hd⟩ := any_some hh
  have hcls : Looks (model prog w) hp (classData C) cd := looks_clsIn X hc
  obtain ⟨nm, bs, mro, ns, qn, hdd, sn, sb, ab, col, del⟩ := cd
  dsimp only at hd
  subst hd
  show wpAny _ _ (storeInOwnDict (.ref x) (.ref C) (.str name tk) name v b) _ _ _
  unfold storeInOwnDict ownDictForStores
  repeat (first
    | with_reducible refine OEX.store_in_old hns hw hz ?_
    | with_reducible refine wpAny_loadPart_at hx ?_
    | with_reducible refine hcls.at ?_
    | wp_step)
  intro h' tk' hn' hs
  exact hq h' tk' (fun b o hb ho => (hs.2 b hb).trans ho) hn'
end
end Xv
end PySem

namespace Xv
open PySem PySem.Spec PyProof.Rows L2
abbrev St := L2.St
/-- what the written part says of an own class of exceptions, at C; its __init__ at fI; over the built-in B -/
structure ExT (K : PySem.W.Frag) (C fI : Addr) (newId : String) (bmB : List Value) : Prop where
  ini : PySem.W.excInitIn K C bmB newId = true
  ov : PySem.W.excOver K C bmB = true
  hd : PySem.W.hasDictIn K C = true
  sa : PySem.W.findIn K (.ref C) "__setattr__" = some (some (.builtin "object.__setattr__"))
  iC : PySem.W.findIn K (.ref C) "__init__" = some (some (.ref fI))
  fn : PySem.W.isFn K (.ref fI) = true
  kC : PySem.W.keepIn K (.ref C) = true
/-- bases -/
structure Bas (B newId initId : String) (bmB : List Value) : Prop where
  F : ExcBaseFacts B newId initId bmB
  S : StoreFacts B bmB "object.__setattr__" "object"
section
variable {X : Cx} {pins : List (Addr × Obj)} {σ : St} {H : Hp} {s : Shared} {a C dx fI : Addr} {f : Str} {y : V} {u : Value} {fs : List (Str × V)} {Q : Unit → Shared → Prop} {E : Value → Shared → Prop} {A : Around}
variable {B newId initId : String} {bmB : List Value}
/-- self.f = y, the first one -/
theorem put_first (b : Bas B newId initId bmB) (T : ExT X.K C fI newId bmB) (I : Inv X pins σ H s) (e : H a = some (exo a C none)) (hno : PySem.W.takerIn X.K C f = some none) (ry : RelV y u)
    (h : ∀ dx s', H dx = none → dx ≠ a → Inv X pins σ (upd (upd H dx (exd dx [(f, y)])) a (exo a C (some dx))) s' → Q () s') : wpAny (model X.prog X.w) A (setAttr (.ref a) f u) Q E s := by
  obtain ⟨t1, ho⟩ := exo_at I.hok e
  obtain ⟨hp, g, d, t, os⟩ := s
  refine PySem.W.set_plain I.kIn (ox := { cls := .ref C, dict := none, data := .fields #[.ref t1, .none, .none, .none, .bool false, .none] }) (od := none) ⟨ho, rfl, rfl, trivial⟩ T.sa ?_
  refine PySem.Xv.field_first b.S I.kIn ho T.ov T.hd hno (fun h' tk' dx k dn dne hx hn => ?_)
  have hnd : H dx = none := I.hok.fresh dn
  have nd : ∀ {b : Addr} {o : Obj}, hp.get? b = some o → b ≠ dx := fun {b o} q => Nat.ne_of_lt (Nat.lt_of_lt_of_le (Heap.lt_size q) dn)
  have na : ∀ {b : Addr}, H b = none → b ≠ a := fun {b} n z => by
    rw [z, e] at n
    cases n
  have U : Un X.fs [] H (upd (upd H dx (exd dx [(f, y)])) a (exo a C (some dx))) hp h' := {
    keep := fun b o q n _ _ => k b o (na n) q
    slot := fun b o q n _ _ => ⟨o.slots, k b o (na n) q⟩
    free := fun b o q n _ => by
      rw [upd_ne (na n), upd_ne (nd q)]
      exact n
    there := fun b o q _ => by
      by_cases hb : b = a
      · exact ⟨_, by rw [hb]; exact hx⟩
      · exact ⟨o, k b o hb q⟩
    tups := fun b xs q => by
      rw [upd_ne (at_ne e q exo_tup), upd_ne (ne_of_none q hnd)]
      exact q
    frzs := fun b o v q => by
      rw [upd_ne (at_ne e q exo_frz), upd_ne (ne_of_none q hnd)]
      exact q
    tbls := fun b ps q => ⟨#[], by
      rw [upd_ne (at_ne e q exo_tbl), upd_ne (ne_of_none q hnd), q]
      simp⟩ }
  have hok : HOk X.prog X.w (upd (upd H dx (exd dx [(f, y)])) a (exo a C (some dx))) h' := fun b o q => by
    by_cases hb : b = a
    · subst hb
      rw [upd_same] at q
      cases q
      exact exo_ok hx
    · rw [upd_ne hb] at q
      by_cases hbd : b = dx
      · subst hbd
        rw [upd_same] at q
        cases q
        exact exd_ok hn (fun z => relO_put (fs := []) (mA := fun _ => none) ry (fun _ => trivial) z)
      · rw [upd_ne hbd] at q
        exact (I.hok b o q).stay (fun c v hc z => k c v (by
            rcases hc with hc | hc
            · rw [hc]
              exact hb
            · exact at_ne e hc exo_own) z)
          (fun c hc => by
            rw [upd_ne (at_ne e hc exo_own), upd_ne (ne_of_none hc hnd)]
            exact hc) (fun c xs hc => by
            rw [upd_ne (at_ne e hc exo_tup), upd_ne (ne_of_none hc hnd)]
            exact hc)
  exact h dx _ hnd dne (I.un (t' := tk') U hok)
/-- a further one -/
theorem put_more (b : Bas B newId initId bmB) (T : ExT X.K C fI newId bmB) (I : Inv X pins σ H s) (e : H a = some (exo a C (some dx))) (ed : H dx = some (exd dx fs)) (hl : fs.length ≤ 900) (hno : PySem.W.takerIn X.K C f = some none) (ry : RelV y u)
    (h : ∀ s', Inv X pins σ (upd H dx (exd dx ((f, y) :: fs))) s' → Q () s') : wpAny (model X.prog X.w) A (setAttr (.ref a) f u) Q E s := by
  obtain ⟨t1, ho⟩ := exo_at I.hok e
  obtain ⟨mA, hns, rel⟩ := exd_at I.hok ed
  have hw := within_of rel
  obtain ⟨hp, g, d, t, os⟩ := s
  obtain ⟨oD, _, _, hoD, _, _⟩ := hns.count hw
  refine PySem.W.set_plain I.kIn (ox := { cls := .ref C, dict := some dx, data := .fields #[.ref t1, .none, .none, .none, .bool false, .none] }) (od := some oD) ⟨ho, rfl, rfl, hoD⟩ T.sa ?_
  refine PySem.Xv.field_more b.S I.kIn ho hns hw (by rw [List.length_map]; omega) T.ov T.hd hno (fun h' tk' k hn => ?_)
  have hd : ∃ o, h'.get? dx = some o := by
    obtain ⟨o, _, _, e', _⟩ := hn
    exact ⟨o, e'⟩
  exact h _ (I.write (t' := tk') (x := dx) (e := dx) (o := exd dx ((f, y) :: fs)) (by rw [ed]; exact True.intro) (.inl rfl) k hd (exd_ok hn (relO_put ry rel)))
end
end Xv

set_option maxHeartbeats 4000000
namespace PySem.W
open PySem PySem.Spec PySem.Calls PyProof.Rows
section
variable {prog : Program} {w : World} {A : Around} {E : Value → Shared → Prop} {s : Shared} {K : Frag} {x D : Addr} {ox : Obj} {od : Option Obj}
theorem xv_data {C : Addr} {name : Str} {a g : Value} (hc : (clsIn K C).isSome = true) (ha : findIn K (.ref C) name = some (some a)) (hg : specialIn K a "__get__" = some (some g)) (ht : takesIn K a = some true) : findObj K C od name = some (.bind g a) := by
  obtain ⟨cd, hc⟩ := Option.isSome_iff_exists.mp hc
  unfold findObj
  rw [hc, Option.bind_some, ha, Option.bind_some]
  simp [hg, ht]
/-- the class of an exception that has its dict, or none as yet -/
theorem xv_class {Q : Option Value → Shared → Prop} (T : L2.ExcC K D)
    (X : K.In s.heap) (I : InstAt s.heap x ox D od) (h : Q (some (.ref D)) { s with toks := s.toks + 1 }) : wpAny (model prog w) A (getAttr? (.ref x) "__class__") Q E s := by
  have hf : findObj K D od "__class__" = some (.bind (.builtin "getset_descriptor.__get__") (.builtin "object.__class__")) :=
    xv_data (by obtain ⟨cd, hc, _⟩ := any_some T.hd; rw [hc]; rfl) T.ha T.hn T.ht
  obtain ⟨hp, g, d, t, os⟩ := s
  have L0 := I.type (M := model prog w)
  have L1 := looks_findIn (M := model prog w) X T.hg
  have L2 := looks_findIn (M := model prog w) X T.hk
  have L3 := looks_find (M := model prog w) X I hf
  have sub : Looks (model prog w) hp (isInstance (.ref x) (.type "BaseException")) true := L0.andThen (looks_subIn X T.hs)
  have z0 : (false && onTheHeap (Value.builtin "BaseException.__getattribute__")) = false := rfl
  have z2 : (Value.builtin "BaseException.__getattribute__" == Value.builtin "object.__getattribute__") = false := by decide +kernel
  have z1 : (onTheHeap (Value.ref D) && Value.builtin "BaseException.__getattribute__" == Value.builtin "object.__getattribute__") = false := by
    rw [z2]; rfl
  unfold getAttr? getAttrBy? getAttrBy
  refine wpAny_bind (wpAny_mkText (wpAny_bind (wpAny_attempt (wpAny_holding (wpAny_bind (L0.at (wpAny_bind (L1.at ?_))))))))
  show wpAny _ _ (if (onTheHeap (Value.ref D) && Value.builtin "BaseException.__getattribute__" == Value.builtin "object.__getattribute__") = true then _ else _) _ _ _
  rw [z1, if_neg Bool.false_ne_true]
  unfold getAttrByItsOwn hookBefore
  refine wpAny_bind ?_
  rw [if_pos (show onTheHeap (Value.ref D) = true from rfl)]
  refine L2.at ?_
  refine wpAny_bind (wpAny_attempt (wpAny_holding ?_))
  unfold callGetattribute
  rw [z0, if_neg Bool.false_ne_true]
  unfold boundAndCalled
  rw [PySem.F.excAttr_ValueError.ga.bind (.ref x)]
  refine wpAny_bind (wpAny_pure ?_)
  show wpAny _ _ (call (.builtin "BaseException.__getattribute__") [.ref x, .str "__class__" t]) _ _ _
  refine wpAny_call (codeAny_call_builtin PySem.F.excAttr_ValueError.ga.plain PySem.F.entry_bexc_ga ?_)
  refine @check_slot (model prog w) _ _ ⟨hp, g, d, t + 1, os⟩ "BaseException.__getattribute__" "BaseException" "__getattribute__" (.ref x) [.str "__class__" t] [] _ (by decide +kernel) (by decide +kernel) sub (PySem.F.args_bexc_ga (.ref x) (.str "__class__" t)) ?_
  unfold Builtin.«object.__getattribute__»
  refine wpAny_bind (wpAny_of_eq (a := ((Value.ref x : Value), [Value.str "__class__" t])) (by first | rfl | (simp only [slotArgs]; rfl)) ?_)
  refine wpAny_bind (wpAny_pure (wpAny_bind (L0.at (wpAny_bind (L3.at ?_)))))
  show wpAny _ _ (holding [Value.builtin "object.__class__"] (call (.builtin "getset_descriptor.__get__") [.builtin "object.__class__", .ref x, .ref D]) >>= ret) _ _ _
  refine wpAny_bind (wpAny_holding (wpAny_call (class_get (s := ⟨hp, g, d, t + 1, os⟩) (ox := ox) (od := od) X I T.hm ?_)))
  refine wpAny_pure ?_
  show wpAny _ _ (handedOut (.ref D)) _ _ _
  rw [handedOut_of (v := .ref D) rfl]
  first
    | exact wpAny_pure (wpAny_pure h)
    | exact wpAny_pure h
    | exact wpAny_pure (wpAny_bind (wpAny_pure (wpAny_pure h)))
theorem xv_kit (T : L2.ExcC K D) : KitX K (.ref x) (.ref D) (fun h => ∃ ox od, InstAt h x ox D od) where
  ty := fun _ _ _ ⟨_, _, I⟩ => I.type
  it := fun _ _ X _ => by
    obtain ⟨cdD, hcD, _⟩ := any_some T.hd
    unfold clsIn at hcD
    split at hcD
    · rename_i c' d' cd' sl' ho
      intro A' Q' E' s' k q
      unfold isType loadHead
      exact wpAny_bind (wpAny_loadPart (k _ _ (X _ _ ho)) (wpAny_pure q))
    · cases hcD
  ne := fun h tp dd its n sl X htp => by
    obtain ⟨cdD, hcD, _⟩ := any_some T.hd
    refine Bool.eq_false_iff.mpr fun q => ?_
    have e : D = tp := Value.ref.inj (beq_iff_eq.mp q)
    subst e
    unfold clsIn at hcD
    split at hcD
    · rename_i c' d' cd' sl' ho
      have z := (X _ _ ho).symm.trans htp
      cases z
    · cases hcD
  ca := fun X ⟨_, _, I⟩ k => xv_class T X I k
end
end PySem.W
namespace Xv
open PySem PySem.Spec PyProof.Rows L2
/-! ### a new exception as a value -/
def tExv (C : Addr) (sp : Sp) (ta : TA) : TE := fun σ H Q => ta σ H fun vs H1 => vs.length ≤ 1000 ∧ ∀ a, H1 a = none → sp (.ref a :: vs) (upd H1 a (exo a C none)) (fun v H2 => v = .non ∧ Q (.ref a) H2) E0
def tExvK (C : Addr) (n : Nat) (sp : Sp) (gV : List V → List V → List V) (tk : TA) : TE := fun σ H Q => tk σ H fun zs H1 => zs.length = n ∧ ∀ a, H1 a = none → sp (gV [.ref a] zs) (upd H1 a (exo a C none)) (fun v H2 => v = .non ∧ Q (.ref a) H2) E0
section
variable {X : Cx} {k : Nat} {C fI : Addr} {fd : FuncData} {ps ks : List Str} {sp : Sp} {x : Str} {p pos : Pos} {e : Expr} {es : List Expr} {kws : List Keyword} {ta tk : TA} {g : List Value → List Value → List Value} {gV : List V → List V → List V} {B newId initId : String} {bmB : List Value}
theorem run_exv {pins : List (Addr × Obj)} {σ : St} {H : Hp} {s : Shared} {Q : VK} {us : List Value} {kw : List (Str × Value)} (b : Bas B newId initId bmB) (T : ExT X.K C fI newId bmB) (F1 : FnOk X.prog X.w X.K X.mg X.base CX0 k fI fd ps sp) (hr : Room (k + 1) X.A)
    (I : Inv X pins σ H s) (hz : us.length ≤ 1000) {al : Addr → List V} {bl : Addr → List Value} (hbl : ∀ a, Vals (al a) (bl a)) (hbind : ∀ a s', X.K.In s'.heap → BindsTo s' fd ⟨.ref a :: us, kw⟩ (ps.zip (bl a)))
    (h : ∀ a, H a = none → sp (al a) (upd H a (exo a C none)) (fun v H2 => v = .non ∧ Q (.ref a) H2) E0) :
    wpAny (model X.prog X.w) X.A (call (.ref C) us kw) (EP X pins σ Q) X.xe s := by
  obtain ⟨nm, N', qn, bs, bm, hdct, sn, sub, ab, col, dd, k0, k1, k2, k3, k5, hC, hT⟩ := PySem.W.excInit_of I.kIn T.ini
  obtain ⟨hp, gg, dr, tk, os⟩ := s
  have hn : H (hp.objs.size + 1) = none := I.hok.fresh (Nat.le_succ _)
  have kk : ∀ b o, hp.get? b = some o → ((hp.push (PySem.W.kdv_tup us)).push (PySem.HandSPX.excO C hp.objs.size)).get? b = some o := fun b o e => Heap.get?_push_of_some _ (Heap.get?_push_of_some _ e)
  have hget : ((hp.push (PySem.W.kdv_tup us)).push (PySem.HandSPX.excO C hp.objs.size)).get? (hp.objs.size + 1) = some (PySem.HandSPX.excO C hp.objs.size) := by heap_get
  have I2 : Inv X pins σ (upd H (hp.objs.size + 1) (exo (hp.objs.size + 1) C none)) ⟨(hp.push (PySem.W.kdv_tup us)).push (PySem.HandSPX.excO C hp.objs.size), gg, dr, tk, os⟩ :=
    I.laid (t' := tk) (a := hp.objs.size + 1) (o := exo (hp.objs.size + 1) C none) (h' := (hp.push (PySem.W.kdv_tup us)).push (PySem.HandSPX.excO C hp.objs.size)) kk (Nat.le_succ _) (exo_ok hget)
  have hus : us.length ≤ sizeLine := by
    rw [sizeLine_eq]
    omega
  refine wpAny_call (PySem.Xv.call_kw b.F hT hC (PySem.W.looks_findIn I.kIn T.iC) (fun self => PySem.W.bind_fn I.kIn self (beq_iff_eq.mp T.fn)) hus
    (codeAny_mono (F1.run _ X.stack _ _ ⟨Value.ref (hp.objs.size + 1) :: us, kw⟩ _ _ _ E0 (hr.make C us kw) (I2.env0.make C us kw) (hbind _ _ I2.kIn) (hbl (hp.objs.size + 1)) (h _ hn)) fun r s' hq' => ?_))
  cases r with
  | error er => exact False.elim hq'
  | ok fl =>
    cases fl with
    | ret u =>
      obtain ⟨v, H2, I3, rv, ev, q3⟩ := I2.after hq'
      subst ev
      exact ⟨rv, ⟨V.ref (hp.objs.size + 1), H2, I3, rfl, q3⟩⟩
    | next => exact False.elim hq'
    | brk => exact False.elim hq'
    | cont => exact False.elim hq'
theorem pe_exv (b : Bas B newId initId bmB) (T : ExT X.K C fI newId bmB) (F1 : FnOk X.prog X.w X.K X.mg X.base CX0 k fI fd ps sp) (hr : Room (k + 1) X.A) (hb : Binds X.K fd ps []) (hg : Gl X x) (hm : X.mg x = some (.ref C)) (ha : PA X (e :: es) ta)
    (hdb : (x == ("__debug__" : Str)) = false := by decide) (he : starEach (e :: es) X.env = (false, eval e X.env) :: starEach es X.env := by rfl) (hpl : (backTo pos (starEach es X.env)).any (·.1) = false := by rfl) :
    PE X (.Call (.Name x p) (e :: es) [] pos) (tExv C sp ta) := by
  refine ⟨fun pins s σ H Q I h => ?_⟩
  refine wpAny_Call_Name_kw (ld_glob I hg hm ?_ hdb)
  refine PySem.W.callWith_K (h₀ := X.base) I.ok.mod.kin T.kC (thn (ha.run pos pins s σ H _ I h) fun us s1 ⟨vs, H1, I1, r1, hz, q1⟩ => ⟨I1.kIn, ?_⟩) he hpl
  have hl : us.length + 1 = ps.length := by
    rw [← F1.len _ _ _ _ (q1 _ (I1.hok.fresh (Nat.le_refl _))), List.length_cons, r1.length]
  exact run_exv (al := fun a => .ref a :: vs) (bl := fun a => .ref a :: us) b T F1 hr I1 (by show us.length ≤ 1000; rw [← r1.length]; exact hz) (fun a => .cons rfl r1)
    (fun a s' ki => by
      have z := hb s' (.ref a :: us) ki (by rw [List.append_nil, List.length_cons, hl])
      rw [List.append_nil] at z
      exact z) q1
theorem pe_exv0 (b : Bas B newId initId bmB) (T : ExT X.K C fI newId bmB) (F1 : FnOk X.prog X.w X.K X.mg X.base CX0 k fI fd ps sp) (hr : Room (k + 1) X.A) (hb : Binds X.K fd ps []) (hg : Gl X x) (hm : X.mg x = some (.ref C))
    (hdb : (x == ("__debug__" : Str)) = false := by decide) :
    PE X (.Call (.Name x p) [] [] pos) (tExv C sp tNil) := by
  refine ⟨fun pins s σ H Q I h => ?_⟩
  refine wpAny_Call_Name_kw (ld_glob I hg hm ?_ hdb)
  refine PySem.W.callWith_K0 I.kIn T.kC ?_
  obtain ⟨hz, q1⟩ := h
  have hl : 1 = ps.length := F1.len _ _ _ _ (q1 _ (I.hok.fresh (Nat.le_refl _)))
  exact run_exv (us := []) (kw := []) (al := fun a => [.ref a]) (bl := fun a => [.ref a]) b T F1 hr I (Nat.zero_le _) (fun a => .cons rfl .nil)
    (fun a s' ki => by
      have z := hb s' [.ref a] ki (by rw [List.append_nil]; exact hl)
      rw [List.append_nil] at z
      exact z) q1
theorem pe_exvK (b : Bas B newId initId bmB) (T : ExT X.K C fI newId bmB) (F1 : FnOk X.prog X.w X.K X.mg X.base CX0 k fI fd ps sp) (hr : Room (k + 1) X.A) (hb : KBn X.K fd ps 1 ks g gV) (hg : Gl X x) (hm : X.mg x = some (.ref C)) (hkw : PK X kws tk)
    (hall : (backToKw pos (keywordEach kws X.env)).all (·.1.isSome) = true := by rfl) (hks : (backToKw pos (keywordEach kws X.env)).filterMap (·.1) = ks := by rfl) (hdb : (x == ("__debug__" : Str)) = false := by decide)
    (hpl : ((backTo pos (starEach [] X.env)).any (·.1) || (backToKw pos (keywordEach kws X.env)).any (·.1.isNone)) = false := by rfl) :
    PE X (.Call (.Name x p) [] kws pos) (tExvK C ks.length sp gV tk) := by
  refine ⟨fun pins s σ H Q I h => ?_⟩
  refine wpAny_Call_Name_kw (ld_glob I hg hm ?_ hdb)
  refine PySem.W.callWith_KW0 (h₀ := X.base) I.ok.mod.kin T.kC hall ?_ hpl
  refine thn (hkw.run pos pins s σ H _ I h) fun ws s2 ⟨zs, H2, I2, rz, l2, q2⟩ => ⟨I2.kIn, ?_⟩
  rw [hks]
  exact run_exv (us := []) (al := fun a => gV [.ref a] zs) (bl := fun a => g [.ref a] ws) b T F1 hr I2 (Nat.zero_le _) (fun a => hb.rel (.cons rfl .nil) rz)
    (fun a s' ki => hb.to s' [.ref a] ws ki rfl (rz.length.symm.trans l2)) q2
end
/-! ### its field, its class -/
section
variable {X : Cx} {a C d : Addr} {dd : Option Addr} {fs : List (Str × V)} {H : Hp} {s : Shared} {pins : List (Addr × Obj)} {σ : St}
theorem exo_inst (I : Inv X pins σ H s) (e : H a = some (exo a C dd)) (hd : ∀ d, dd = some d → ∃ fs, H d = some (exd d fs)) : ∃ ox od, PySem.W.InstAt s.heap a ox C od := by
  obtain ⟨t1, ho⟩ := exo_at I.hok e
  cases dd with
  | none => exact ⟨_, none, ho, rfl, rfl, trivial⟩
  | some d =>
    obtain ⟨fs, ed⟩ := hd d rfl
    obtain ⟨mA, hns, rel⟩ := exd_at I.hok ed
    obtain ⟨oD, _, _, hoD, _⟩ := id hns
    exact ⟨_, some oD, ho, rfl, rfl, hoD⟩
def tXf (K : PySem.W.Frag) (f : Str) (te : TE) : TE := fun σ H Q => te σ H fun x H1 => ∃ a C d fs v, x = .ref a ∧ ExcC K C ∧ PySem.W.findIn K (.ref C) f = some none ∧ H1 a = some (exo a C (some d)) ∧ H1 d = some (exd d fs) ∧ fs.lookup f = some v ∧ Q v H1
/-- e.f of an exception that is held -/
theorem pe_xf {e : Expr} {f : Str} {te : TE} {pos : Pos} (he : PE X e te) (hb : attributeBase e f X.env (eval e X.env) = eval e X.env := by rfl) : PE X (.Attribute e f pos) (tXf X.K f te) := by
  refine ⟨fun pins s σ H Q I h => ?_⟩
  refine attr_of hb (thn (he.run pins s σ H _ I h) fun u s1 hh => ?_)
  obtain ⟨x, H1, I1, rx, a, C, d, fs, v, ex, T, hno, ea, ed, hl, q⟩ := hh
  subst ex
  obtain rfl : u = Value.ref a := rx
  obtain ⟨t1, ho⟩ := exo_at I1.hok ea
  obtain ⟨mA, hns, rel⟩ := exd_at I1.hok ed
  obtain ⟨od, hod, hlk⟩ := lookIn_ns hns
  obtain ⟨uv, hu, ru⟩ := RelO.some_of (v := v) (o := mA f) (by rw [← hl]; exact rel f)
  have J : PySem.W.InstAt s1.heap a { cls := .ref C, dict := some d, data := .fields #[.ref t1, .none, .none, .none, .bool false, .none] } C (some od) := ⟨ho, rfl, rfl, hod⟩
  exact HandSPX.exc_get I1.kIn J T.hg T.hk T.hs (PySem.W.findObj_own T.hd hno rfl (by rw [hlk, hu])) (handed_of ru) ⟨v, H1, I1.tok _, ru, q⟩
/-- isinstance(e, c), e an exception that is held -/
def rXi (K : PySem.W.Frag) : List V → Hp → VK → Prop := fun xs H Q => ∃ (a D : Addr) (dd : Option Addr) (c : V) (cv : Value) (b : Bool), xs = [.ref a, c] ∧ ClsV c cv ∧ ExcC K D ∧ H a = some (exo a D dd) ∧ (∀ d, dd = some d → ∃ fs, H d = some (exd d fs)) ∧ PySem.W.kitOne K (.ref D) cv = some b ∧ Q (.bl b) H
theorem call_xi : CallR X (.builtin "isinstance") (rXi X.K) := by
  intro pins s σ H xs us Q I r h
  obtain ⟨a, D, dd, c, cv, b, rfl, k, T, ea, hd, e, q⟩ := h
  obtain ⟨u1, u2, rfl, r1, r2⟩ := vals2 r
  have e2 := k.eq r2
  subst e2
  cases (show u1 = Value.ref a from r1)
  exact PySem.W.kia_one (PySem.W.xv_kit T) I.kIn (exo_inst I ea hd) e (fun z => nomatch z) fun tk => ⟨.bl b, H, I.tok tk, rfl, q⟩
end
end Xv

namespace PySem
mutual
/-- data in a heap, its dicts none of the interpreter's own -/
inductive Sees (h : Heap) : Value → PyData → Prop
  | none : Sees h .none .none
  | bool (b) : Sees h (.bool b) (.bool b)
  | int (i t) : Sees h (.int i t) (.int i)
  | str (x t) : Sees h (.str x t) (.str x)
  | list {a o vs n xs} : h.get? a = some o → o.cls = .type "list" → o.data = .seq vs n → SeesAll h vs.toList xs → Sees h (.ref a) (.list xs)
  | tuple {a o vs n xs} : h.get? a = some o → o.cls = .type "tuple" → o.data = .seq vs n → SeesAll h vs.toList xs → Sees h (.ref a) (.tuple xs)
  | dict {a o es n kvs} : h.get? a = some o → o.cls = .type "dict" → o.data = .dict es n → (a == sysModules) = false → SeesAll h (es.toList.map (·.key)) (kvs.map (·.1)) →
      SeesAll h (es.toList.map (·.val)) (kvs.map (·.2)) → Sees h (.ref a) (.dict kvs)
inductive SeesAll (h : Heap) : List Value → List PyData → Prop
  | nil : SeesAll h [] []
  | cons {v vs d ds} : Sees h v d → SeesAll h vs ds → SeesAll h (v :: vs) (d :: ds)
end
mutual
theorem Sees.reads {h : Heap} : ∀ {v : Value} {d : PyData}, Sees h v d → ∃ as, Reads h v d as
  | _, _, .none => ⟨_, .none⟩
  | _, _, .bool b => ⟨_, .bool b⟩
  | _, _, .int i t => ⟨_, .int i t⟩
  | _, _, .str x t => ⟨_, .str x t⟩
  | _, _, .list h1 h2 h3 h4 => let ⟨_, r⟩ := SeesAll.reads h4; ⟨_, .list h1 h2 h3 r⟩
  | _, _, .tuple h1 h2 h3 h4 => let ⟨_, r⟩ := SeesAll.reads h4; ⟨_, .tuple h1 h2 h3 r⟩
  | _, _, .dict h1 h2 h3 _ h4 h5 => let ⟨_, r⟩ := SeesAll.reads h4; let ⟨_, r'⟩ := SeesAll.reads h5; ⟨_, .dict h1 h2 h3 r r'⟩
theorem SeesAll.reads {h : Heap} : ∀ {vs : List Value} {ds : List PyData}, SeesAll h vs ds → ∃ as, ReadsAll h vs ds as
  | _, _, .nil => ⟨_, .nil⟩
  | _, _, .cons r rs => let ⟨_, q⟩ := Sees.reads r; let ⟨_, q'⟩ := SeesAll.reads rs; ⟨_, .cons q q'⟩
end
section
variable {prog : Program} {w : World} {h₀ : Heap}
mutual
theorem Sees.reprK : ∀ {v : Value} {d : PyData}, Sees h₀ v d → d.showable = true → d.shown.length ≤ sizeLine → ∃ bs, ReadAtMost h₀ d.depth bs ∧ ReprK prog w bs h₀ d.depth v d.shown
  | _, _, .none, _, _ => ⟨[], (fun _ h => nomatch h), by simp only [PyData.shown]; exact .of_is ReprIs.none _ _ _⟩
  | _, _, .bool b, _, _ => ⟨[], (fun _ h => nomatch h), by simp only [PyData.shown]; exact .of_is (ReprIs.bool b) _ _ _⟩
  | _, _, .int i t, hs, _ => ⟨[], (fun _ h => nomatch h), by simp only [PyData.shown]; exact .of_is (ReprIs.int t (by simpa [PyData.showable] using hs)) _ _ _⟩
  | _, _, .str x t, _, hz => ⟨[], (fun _ h => nomatch h), by simp only [PyData.shown]; exact .of_is (ReprIs.str x t (by simpa only [PyData.shown] using hz)) _ _ _⟩
  | _, _, .list (a := a) (vs := vs) (xs := xs) h1 h2 h3 h4, hs, hz => by
    have zz : (listText (PyData.shownAll xs)).length ≤ sizeLine := by simpa only [PyData.shown] using hz
    obtain ⟨bs, hb, hk⟩ := SeesAll.reprK h4 (by simpa [PyData.showable] using hs) (fun t ht => Nat.le_trans (listText_mem_le ht) zz)
    obtain ⟨_, r⟩ := (Sees.list h1 h2 h3 h4).reads
    have hna : a ∉ bs := not_mem_of_deeper r (by simp only [PyData.depth]; omega) hb
    refine ⟨a :: bs, ReadAtMost.cons r (by simp only [PyData.depth]; omega) hb, ?_⟩
    simp only [PyData.depth, PyData.shown]
    obtain ⟨l⟩ := vs
    cases l with
    | nil =>
      have h5 : SeesAll h₀ [] xs := h4
      cases h5
      simp only [PyData.shownAll, listText_nil]
      exact ReprK.listEmpty h1 h2 h3
    | cons x l => exact ReprK.list h1 h2 h3 hna (by simpa using hk.length_eq) (fun i y e => hk.item i y (by simpa using e))
  | _, _, .tuple (a := a) (xs := xs) h1 h2 h3 h4, hs, hz => by
    have zz : (tupleText (PyData.shownAll xs)).length ≤ sizeLine := by simpa only [PyData.shown] using hz
    obtain ⟨bs, hb, hk⟩ := SeesAll.reprK h4 (by simpa [PyData.showable] using hs) (fun t ht => Nat.le_trans (tupleText_mem_le ht) zz)
    obtain ⟨_, r⟩ := (Sees.tuple h1 h2 h3 h4).reads
    have hna : a ∉ bs := not_mem_of_deeper r (by simp only [PyData.depth]; omega) hb
    refine ⟨a :: bs, ReadAtMost.cons r (by simp only [PyData.depth]; omega) hb, ?_⟩
    simp only [PyData.depth, PyData.shown]
    exact ReprK.tuple h1 h2 h3 hna hk
  | _, _, .dict (a := a) (es := es) (kvs := kvs) h1 h2 h3 hy h4 h5, hs, hz => by
    have zz : (dictText (PyData.shownKv kvs)).length ≤ sizeLine := by simpa only [PyData.shown] using hz
    obtain ⟨s1, s2⟩ := PyData.showableKv_split kvs (by simpa [PyData.showable] using hs)
    obtain ⟨b1, hb1, k1⟩ := SeesAll.reprK h4 s1 (fun t ht => let ⟨p, hp, hl⟩ := PyData.shownKv_key_le kvs t ht; Nat.le_trans hl (Nat.le_trans (dictText_mem_le hp) zz))
    obtain ⟨b2, hb2, k2⟩ := SeesAll.reprK h5 s2 (fun t ht => let ⟨p, hp, hl⟩ := PyData.shownKv_val_le kvs t ht; Nat.le_trans hl (Nat.le_trans (dictText_mem_le hp) zz))
    obtain ⟨_, r⟩ := (Sees.dict h1 h2 h3 hy h4 h5).reads
    have hb : ReadAtMost h₀ (PyData.depthKv kvs) (b1 ++ b2) := (hb1.mono (PyData.depthAll_keys_le kvs)).append (hb2.mono (PyData.depthAll_vals_le kvs))
    have hna : a ∉ b1 ++ b2 := not_mem_of_deeper r (by simp only [PyData.depth]; omega) hb
    refine ⟨a :: (b1 ++ b2), ReadAtMost.cons r (by simp only [PyData.depth]; omega) hb, ?_⟩
    simp only [PyData.depth, PyData.shown, PyData.shownKv_eq]
    exact ReprK.dict h1 h2 h3 hy hna (ReprEntriesK.of_two es.toList _ _
      (k1.more_le (fun b hb => List.mem_append_left _ hb) (PyData.depthAll_keys_le kvs))
      (k2.more_le (fun b hb => List.mem_append_right _ hb) (PyData.depthAll_vals_le kvs)))
theorem SeesAll.reprK : ∀ {vs : List Value} {ds : List PyData}, SeesAll h₀ vs ds → PyData.showableAll ds = true → (∀ t ∈ PyData.shownAll ds, t.length ≤ sizeLine) →
    ∃ bs, ReadAtMost h₀ (PyData.depthAll ds) bs ∧ ReprAllK prog w bs h₀ (PyData.depthAll ds) vs (PyData.shownAll ds)
  | _, _, .nil, _, _ => ⟨[], (fun _ h => nomatch h), by simp only [PyData.shownAll]; exact .nil⟩
  | _, _, .cons (d := d) (ds := ds) r rs, hs, hz => by
    have ss : d.showable = true ∧ PyData.showableAll ds = true := by simpa [PyData.showableAll] using hs
    obtain ⟨b1, hb1, k1⟩ := Sees.reprK r ss.1 (hz _ (by simp only [PyData.shownAll]; exact List.mem_cons_self ..))
    obtain ⟨b2, hb2, k2⟩ := SeesAll.reprK rs ss.2 (fun t ht => hz t (by simp only [PyData.shownAll]; exact List.mem_cons_of_mem _ ht))
    refine ⟨b1 ++ b2, fun b hm => ?_, ?_⟩
    · simp only [PyData.depthAll]
      rcases List.mem_append.mp hm with hm | hm
      · obtain ⟨d', as', r', hd'⟩ := hb1 b hm
        exact ⟨d', as', r', Nat.le_trans hd' (Nat.le_max_left _ _)⟩
      · obtain ⟨d', as', r', hd'⟩ := hb2 b hm
        exact ⟨d', as', r', Nat.le_trans hd' (Nat.le_max_right _ _)⟩
    · simp only [PyData.depthAll, PyData.shownAll]
      exact .cons ((k1.more fun b hb => List.mem_append_left _ hb).level_le (Nat.le_max_left _ _)) (k2.more_le (fun b hb => List.mem_append_right _ hb) (Nat.le_max_right _ _))
end
theorem Sees.showsBy {a : Addr} {d : PyData} (r : Sees h₀ (.ref a) d) (hs : d.showable = true) (hsz : d.shown.length ≤ sizeLine) : ∃ T idr, ShowsBy prog w h₀ a d T idr := by
  cases r with
  | list h1 h2 h3 h4 =>
    rename_i o vs n xs
    have zz : (listText (PyData.shownAll xs)).length ≤ sizeLine := by simpa only [PyData.shown] using hsz
    obtain ⟨bs, hb, hk⟩ := SeesAll.reprK (prog := prog) (w := w) h4 (by simpa [PyData.showable] using hs) (fun t ht => Nat.le_trans (listText_mem_le ht) zz)
    obtain ⟨_, rr⟩ := (Sees.list h1 h2 h3 h4).reads
    have hna : a ∉ bs := not_mem_of_deeper rr (by simp only [PyData.depth]; omega) hb
    refine ⟨"list", "list.__repr__", F.slot_list_repr.toG, F.slot_list_str, F.slot_list_format, fun s hk0 => ⟨o, hk0 _ _ h1, h2⟩, fun A E s Q hg hu hk0 hQ => ?_⟩
    simp only [PyData.depth] at hu
    simp only [PyData.shown] at hQ
    obtain ⟨l⟩ := vs
    cases l with
    | nil =>
      have h5 : SeesAll h₀ [] xs := h4
      cases h5
      simp only [PyData.shownAll, listText_nil] at hQ
      exact call_list_repr_empty ⟨o, hk0 _ _ h1, h2⟩ (hk0 _ _ h1) h3 (hQ s.heap _ _ fun _ _ e => e)
    | cons x l => exact call_list_reprK h1 h2 h3 hna (by simpa using hk.length_eq) (fun i y e => hk.item i y (by simpa using e)) hg (fun b _ => Clear.nil b) hu hk0 hQ zz
  | tuple h1 h2 h3 h4 =>
    rename_i o vs n xs
    have zz : (tupleText (PyData.shownAll xs)).length ≤ sizeLine := by simpa only [PyData.shown] using hsz
    obtain ⟨bs, hb, hk⟩ := SeesAll.reprK (prog := prog) (w := w) h4 (by simpa [PyData.showable] using hs) (fun t ht => Nat.le_trans (tupleText_mem_le ht) zz)
    obtain ⟨_, rr⟩ := (Sees.tuple h1 h2 h3 h4).reads
    have hna : a ∉ bs := not_mem_of_deeper rr (by simp only [PyData.depth]; omega) hb
    refine ⟨"tuple", "tuple.__repr__", F.slot_tuple_repr, F.slot_tuple_str, F.slot_tuple_format, fun s hk0 => ⟨o, hk0 _ _ h1, h2⟩, fun A E s Q hg hu hk0 hQ => ?_⟩
    simp only [PyData.depth] at hu
    simp only [PyData.shown] at hQ
    exact call_tuple_reprK h1 h2 h3 hna hk hg (fun b _ => Clear.nil b) hu hk0 hQ zz
  | dict h1 h2 h3 hy h4 h5 =>
    rename_i o es n kvs
    have zz : (dictText (PyData.shownKv kvs)).length ≤ sizeLine := by simpa only [PyData.shown] using hsz
    obtain ⟨s1, s2⟩ := PyData.showableKv_split kvs (by simpa [PyData.showable] using hs)
    obtain ⟨b1, hb1, k1⟩ := SeesAll.reprK (prog := prog) (w := w) h4 s1 (fun t ht => let ⟨p, hp, hl⟩ := PyData.shownKv_key_le kvs t ht; Nat.le_trans hl (Nat.le_trans (dictText_mem_le hp) zz))
    obtain ⟨b2, hb2, k2⟩ := SeesAll.reprK (prog := prog) (w := w) h5 s2 (fun t ht => let ⟨p, hp, hl⟩ := PyData.shownKv_val_le kvs t ht; Nat.le_trans hl (Nat.le_trans (dictText_mem_le hp) zz))
    obtain ⟨_, rr⟩ := (Sees.dict h1 h2 h3 hy h4 h5).reads
    have hb : ReadAtMost h₀ (PyData.depthKv kvs) (b1 ++ b2) := (hb1.mono (PyData.depthAll_keys_le kvs)).append (hb2.mono (PyData.depthAll_vals_le kvs))
    have hna : a ∉ b1 ++ b2 := not_mem_of_deeper rr (by simp only [PyData.depth]; omega) hb
    refine ⟨"dict", "dict.__repr__", F.slot_dict_repr, F.slot_dict_str, F.slot_dict_format, fun s hk0 => ⟨o, hk0 _ _ h1, h2⟩, fun A E s Q hg hu hk0 hQ => ?_⟩
    simp only [PyData.depth] at hu
    simp only [PyData.shown, PyData.shownKv_eq] at hQ
    exact call_dict_reprK h1 h2 h3 hy hna (ReprEntriesK.of_two es.toList _ _
      (k1.more_le (fun b hb => List.mem_append_left _ hb) (PyData.depthAll_keys_le kvs))
      (k2.more_le (fun b hb => List.mem_append_right _ hb) (PyData.depthAll_vals_le kvs))) hg (fun b _ => Clear.nil b) hu hk0 hQ (by rw [← PyData.shownKv_eq]; exact zz)
/-- repr of data -/
theorem Sees.repr {A : Around} {E : Value → Shared → Prop} {s : Shared} {Q : Value → Shared → Prop} {v : Value} {d : PyData} (r : Sees s.heap v d) (hs : d.showable = true) (hsz : d.shown.length ≤ sizeLine) (hg : A.guards = some []) (hu : A.units + (d.depth + 1) < cLine)
    (hQ : ∀ h' u tk, (∀ b o, s.heap.get? b = some o → h'.get? b = some o) → Q (.str d.shown u) { s with heap := h', toks := tk }) : wpAny (model prog w) A (call (.builtin "repr") [v]) Q E s := by
  cases v with
  | ref a =>
    obtain ⟨T, idr, S⟩ := r.showsBy (prog := prog) (w := w) hs hsz
    exact call_repr_slot (by omega) (S.typeIs s fun _ _ e => e) S.slotRepr (S.call A.in1 E s _ hg (by show A.units + 1 + d.depth < cLine; omega) (fun _ _ e => e) fun h' u tk hk => ⟨_, _, rfl, hQ h' u tk hk⟩)
  | none => cases r with | none => exact P.repr_of_none (by have z := hQ s.heap s.toks (s.toks + 1) (fun _ _ e => e); simpa only [PyData.shown] using z)
  | bool b => cases r with | bool b => exact P.repr_of_bool (by have z := hQ s.heap s.toks (s.toks + 1) (fun _ _ e => e); simpa only [PyData.shown] using z)
  | int i t => cases r with | int i t => exact P.repr_of_int (by simpa [PyData.showable] using hs) (by have z := hQ s.heap s.toks (s.toks + 1) (fun _ _ e => e); simpa only [PyData.shown] using z)
  | str x t => cases r with | str x t => exact P.repr_of_str (by have z := hQ s.heap s.toks (s.toks + 1) (fun _ _ e => e); simpa only [PyData.shown] using z) (by simpa only [PyData.shown] using hsz)
  | ellipsis => cases r
  | notImplemented => cases r
  | float _ _ => cases r
  | bytes _ _ => cases r
  | type _ => cases r
  | builtin _ => cases r
end
end PySem

namespace Xv
open PySem PySem.Spec PyProof.Rows L2
/-! ### data, dicts among them -/
def kD : Key → PyData
  | .inl i => .int i
  | .inr x => .str x
mutual
inductive Dr (K : PySem.W.Frag) (H : Hp) : V → PyData → Prop
  | non : Dr K H .non .none
  | bl (b : Bool) : Dr K H (.bl b) (.bool b)
  | int (i : Int) : Dr K H (.int i) (.int i)
  | str (x : Str) : Dr K H (.str x) (.str x)
  | lst {a : Addr} {xs : List V} {ds : List PyData} : SqL K H a xs → DrAll K H xs ds → Dr K H (.ref a) (.list ds)
  | tup {a : Addr} {xs : List V} {ds : List PyData} : SqT K H a xs → DrAll K H xs ds → Dr K H (.ref a) (.tuple ds)
  | dct {a : Addr} {kvs : List (Key × V)} {ps : List (PyData × PyData)} : H a = some (.dK kvs) → DrKv K H kvs ps → Dr K H (.ref a) (.dict ps)
inductive DrAll (K : PySem.W.Frag) (H : Hp) : List V → List PyData → Prop
  | nil : DrAll K H [] []
  | cons {v : V} {vs : List V} {d : PyData} {ds : List PyData} : Dr K H v d → DrAll K H vs ds → DrAll K H (v :: vs) (d :: ds)
inductive DrKv (K : PySem.W.Frag) (H : Hp) : List (Key × V) → List (PyData × PyData) → Prop
  | nil : DrKv K H [] []
  | cons {k : Key} {v : V} {kvs : List (Key × V)} {d : PyData} {ps : List (PyData × PyData)} : Dr K H v d → DrKv K H kvs ps → DrKv K H ((k, v) :: kvs) ((kD k, d) :: ps)
end
theorem same_tup {K : PySem.W.Frag} {H H' : Hp} {a : Addr} {xs : List V} (e : Same H H') (h : SqT K H a xs) : SqT K H' a xs := by
  rcases h with (h | ⟨o, h⟩) | h
  · exact .inl (.inl (e _ _ h))
  · exact .inl (.inr ⟨o, e _ _ h⟩)
  · exact .inr h
mutual
theorem Dr.same {K : PySem.W.Frag} {H H' : Hp} (e : Same H H') : ∀ {v : V} {d : PyData}, Dr K H v d → Dr K H' v d
  | _, _, .non => .non
  | _, _, .bl b => .bl b
  | _, _, .int i => .int i
  | _, _, .str x => .str x
  | _, _, .lst h hs => .lst (e.seq h) (DrAll.same e hs)
  | _, _, .tup h hs => .tup (same_tup e h) (DrAll.same e hs)
  | _, _, .dct h h1 => .dct (e _ _ h) (DrKv.same e h1)
theorem DrAll.same {K : PySem.W.Frag} {H H' : Hp} (e : Same H H') : ∀ {vs : List V} {ds : List PyData}, DrAll K H vs ds → DrAll K H' vs ds
  | _, _, .nil => .nil
  | _, _, .cons h hs => .cons (Dr.same e h) (DrAll.same e hs)
theorem DrKv.same {K : PySem.W.Frag} {H H' : Hp} (e : Same H H') : ∀ {vs : List (Key × V)} {ds : List (PyData × PyData)}, DrKv K H vs ds → DrKv K H' vs ds
  | _, _, .nil => .nil
  | _, _, .cons h hs => .cons (Dr.same e h) (DrKv.same e hs)
end
section
variable {X : Cx} {pins : List (Addr × Obj)} {σ : St} {H : Hp} {s : Shared}
theorem key_sees {P : Program} {w : World} {h : Heap} {k : Key} {v : Value} (e : (mixKind P w).is k v = true) : Sees h v (kD k) := by
  rcases keyIs_shape e with ⟨i, t, rfl, rfl⟩ | ⟨x, t, rfl, rfl⟩
  · exact .int i t
  · exact .str x t
mutual
theorem Dr.sees (I : Inv X pins σ H s) : ∀ {v : V} {d : PyData}, Dr X.K H v d → ∀ {u : Value}, RelV v u → Sees s.heap u d
  | _, _, .non, _, r => by
    cases r
    exact .none
  | _, _, .bl b, _, r => by
    cases r
    exact .bool b
  | _, _, .int i, _, r => by
    obtain ⟨t, rfl⟩ := r
    exact .int i t
  | _, _, .str x, _, r => by
    obtain ⟨t, rfl⟩ := r
    exact .str x t
  | _, _, .lst hs ha, _, r => by
    cases r
    obtain ⟨its, rv, ⟨o, n, ho, hc, _, hd⟩, _⟩ := I.list hs
    exact .list ho hc hd (DrAll.sees I ha rv)
  | _, _, .tup hs ha, _, r => by
    cases r
    obtain ⟨its, rv, ⟨o, ho, hc, n, hd⟩, _⟩ := I.tuple hs
    exact .tuple ho hc hd (DrAll.sees I ha rv)
  | _, _, .dct ha h1, _, r => by
    cases r
    obtain ⟨_, hy, vs, rel, o, es, ep, ho, hx, hd, _, hp, _⟩ := dk_of I.hok ha
    obtain ⟨z1, z2⟩ := DrKv.sees I h1 rel hp
    exact .dict ho hx.1 hd hy z1 z2
theorem DrAll.sees (I : Inv X pins σ H s) : ∀ {vs : List V} {ds : List PyData}, DrAll X.K H vs ds → ∀ {us : List Value}, Vals vs us → SeesAll s.heap us ds
  | _, _, .nil, _, r => by
    cases r
    exact .nil
  | _, _, .cons h1 h2, _, r => by
    cases r with
    | cons r1 r2 => exact .cons (Dr.sees I h1 r1) (DrAll.sees I h2 r2)
theorem DrKv.sees (I : Inv X pins σ H s) : ∀ {kvs : List (Key × V)} {ps : List (PyData × PyData)}, DrKv X.K H kvs ps → ∀ {vs : List (Key × Value)} {es : List DictEntry}, KV kvs vs → PySem.Pairs (mixKind X.prog X.w) es vs →
    SeesAll s.heap (es.map (·.key)) (ps.map (·.1)) ∧ SeesAll s.heap (es.map (·.val)) (ps.map (·.2))
  | _, _, .nil, _, _, r, p => by
    cases r
    cases p
    exact ⟨.nil, .nil⟩
  | _, _, .cons (k := k) h1 h2, _, _, r, p => by
    cases r with
    | cons r1 r2 =>
      cases p with
      | cons hk hv p2 =>
        obtain ⟨e1, e2⟩ := r1
        dsimp only at e1 e2
        obtain ⟨z1, z2⟩ := DrKv.sees I h2 r2 p2
        rw [← e1] at hk
        rw [← hv] at e2
        exact ⟨.cons (key_sees hk) z1, .cons (Dr.sees I h1 e2) z2⟩
end
/-- repr(e), e data -/
@[irreducible] def rRepr (K : PySem.W.Frag) : List V → Hp → VK → Prop := fun xs H Q => ∃ v d, xs = [v] ∧ Dr K H v d ∧ d.showable = true ∧ d.depth ≤ 60 ∧ d.shown.length ≤ sizeLine ∧ Q (.str d.shown) H
theorem call_repr (hg : X.A.guards = some []) (hu : X.A.units + 64 < cLine) : CallR X (.builtin "repr") (rRepr X.K) := by
  intro pins s σ H xs us Q I r h
  unfold rRepr at h
  obtain ⟨v, d, rfl, hd, hs, hdp, hz, q⟩ := h
  obtain ⟨u, rfl, ru⟩ := vals1 r
  exact (Dr.sees I hd ru).repr hs hz hg (by omega) fun h' t tk k => ⟨.str d.shown, H, I.kept (t' := tk) k, ⟨t, rfl⟩, q⟩
end
/-! ### defs that are called while nothing is being shown -/
structure FnG (P : Program) (w : World) (K : PySem.W.Frag) (mg : Str → Option Value) (base : Heap) (k : Nat) (f : Addr) (fd : FuncData) (ps : List Str) (sp : Sp) : Prop where
  len : ∀ vs H Q E, sp vs H Q E → vs.length = ps.length
  run : ∀ (A : Around) (outer : List Env) (s : Shared) (H : Hp) (args : Args) (us : List Value) (vs : List V) (Q : VK), Room k A → A.guards = some [] → Env0 P w K mg base A outer s H → BindsTo s fd args (ps.zip us) → Vals vs us → sp vs H Q E0 →
    codeAny (model P w) A (.call (.ref f) args) (CR CX0 outer P w H s Q E0) s
section
variable {P : Program} {w : World} {K : PySem.W.Frag} {mg : Str → Option Value} {base : Heap}
theorem Fun.okG {x qual : Str} {st : Stmt} {f : Addr} {fd : FuncData} {N ps : List Str} {k : Nat} {sp : Sp} (F : Fun K x qual st f fd) (S : FnScope N ps (defScope st)) (len : ∀ vs H Q E, sp vs H Q E → vs.length = ps.length)
    (hbody : ∀ (cdv : Value) (A : Around) (outer : List Env) (s : Shared) (H : Hp) (vs : List V) (Q : VK), Room k (A.deeper (envOfC qual (defScope st) s.heap.objs.size f cdv)) → (A.deeper (envOfC qual (defScope st) s.heap.objs.size f cdv)).guards = some [] → sp vs H Q E0 →
      ∃ t, PSs (cxOf CX0 P w K mg base N qual (defScope st) f cdv A outer s H E0).nox (defBody st) t ∧ t { nx := fun _ H' => Q .non H', rt := Q } (start N vs) H) : FnG P w K mg base (k + 1) f fd ps sp := by
  obtain ⟨oc, od, kV, doc, pm, an, cdv, ct, osl, rfl, lk, hcd⟩ := F.ex
  refine ⟨len, fun A outer s H args us vs Q hr hgd e0 hb r hsp => ?_⟩
  have hl := len _ _ _ _ hsp
  have X1 : K.In s.heap := e0.mod.kin.keeps fun b o e => (e0.bs b o e).1
  have lim : s.heap.NoLimit := e0.mod.nolimit.keeps fun b o e => (e0.bs b o e).1
  have kinds : ∀ y ∈ ps.zip us, (defScope st).names.lookup y.1 = some .local ∨ ((defScope st).names.lookup y.1 = some .cell ∧ ((cellsFrom (s.heap.objs.size + 1) (defScope st).names []).lookup y.1).isSome = true) := fun ⟨n, v⟩ hy => by
    rcases S.par n (List.of_mem_zip hy).1 with q | q
    · exact .inl q
    · exact .inr ⟨q, PySem.W.cellsFrom_some _ _ _ (.inl q)⟩
  refine codeAny_call_function hr.depth (X1 _ _ lk) rfl S.co S.gen rfl (PySem.W.codeRec_of X1 hcd) (hb _ _ _ _ ?_)
  refine wpAny_newFunctionEnv_cells S.kind kinds fun env he s1 x => ?_
  subst he
  refine ⟨lim.keeps x.toInCall.keep, codeAny_func ?_⟩
  obtain ⟨t, ht, hq⟩ := hbody cdv A outer s H vs Q (hr.deeper _) hgd hsp
  have I : Inv (cxOf CX0 P w K mg base N qual (defScope st) f cdv A outer s H E0) [] (start N vs) H s1 := inv_start S hr.hd e0 hl r x
  refine wpAny_mono (ht.nox.run [] s1 (start N vs) H _ I hq) (fun fl s' hs => ?_) fun e s' hs => hs
  have fin : ∀ {σ' : St} {H' : Hp} {v : V} {u : Value}, Inv (cxOf CX0 P w K mg base N qual (defScope st) f cdv A outer s H E0) [] σ' H' s' → RelV v u → Q v H' → CE outer P w H s Q u s' :=
    fun {σ' H' v u} J rv q => ⟨v, H', J.os, J.bare, J.base, J.hok, rv, q⟩
  cases fl with
  | ret u =>
    obtain ⟨v, σ', H', J, rv, q⟩ := hs
    exact fin J rv q
  | next =>
    obtain ⟨σ', H', J, q⟩ := hs
    exact fin (v := V.non) (u := Value.none) J rfl q
  | brk =>
    obtain ⟨_, _, _, q⟩ := hs
    exact False.elim q
  | cont =>
    obtain ⟨_, _, _, q⟩ := hs
    exact False.elim q
end
section
variable {X : Cx} {k : Nat} {f : Addr} {fd : FuncData} {ps : List Str} {sp : Sp} {x : Str} {p pos : Pos} {e : Expr} {es : List Expr} {t : TA}
theorem pe_callGd (F : FnG X.prog X.w X.K X.mg X.base k f fd ps sp) (hr : Room k X.A) (hgd : X.A.guards = some []) (hg : Gl X x) (hm : X.mg x = some (.ref f)) (hk : PySem.W.keepIn X.K (.ref f) = true) (hb : Binds X.K fd ps [])
    (ha : PA X (e :: es) t) (hdb : (x == ("__debug__" : Str)) = false := by decide) (he : starEach (e :: es) X.env = (false, eval e X.env) :: starEach es X.env := by rfl) (hpl : (backTo pos (starEach es X.env)).any (·.1) = false := by rfl) :
    PE X (.Call (.Name x p) (e :: es) [] pos) (tCall sp [] E0 t) := by
  refine ⟨fun pins s σ H Q I h => ?_⟩
  refine wpAny_Call_Name_kw (ld_glob I hg hm ?_ hdb)
  refine PySem.W.callWith_K (h₀ := X.base) I.ok.mod.kin hk (thn (ha.run pos pins s σ H _ I h) fun us s1 ⟨vs, H1, I1, r, q⟩ => ⟨I1.kIn, ?_⟩) he hpl
  dsimp only at q
  rw [List.append_nil] at q
  have hl : us.length = ps.length := by
    rw [← r.length]
    exact F.len _ _ _ _ q
  have bb := hb s1 us I1.kIn (by rw [List.append_nil]; exact hl)
  rw [List.append_nil] at bb
  refine wpAny_call (codeAny_mono (F.run X.A X.stack s1 H1 ⟨us, []⟩ us vs Q hr hgd I1.env0 bb r q) fun r s' hq => ?_)
  cases r with
  | error e => exact False.elim hq
  | ok fl =>
    cases fl with
    | ret u => exact I1.after hq
    | next => exact False.elim hq
    | brk => exact False.elim hq
    | cont => exact False.elim hq
end
/-! ### the law's call -/
theorem law_callG {P : Program} {w : World} {K : PySem.W.Frag} {mg mb : Str → Option Value} {k : Nat} {fa a : Addr} {fd : FuncData} {x : Str} {sp : Sp} {s₁ : Shared} {vs : List Value} {ns : List Int}
    (KX : K.In s₁.heap) (hns : s₁.heap.Ns mainGlobals mg) (hb : s₁.heap.Ns builtinsNs mb) (hbb : ∀ x : Str, x ≠ "__name__" → mb x = bootBuiltins x) (hlim : s₁.heap.NoLimit) (hg : s₁.gens = #[])
    (ha : s₁.heap.get? a = some { cls := .type "list", data := .seq vs.toArray }) (hi : IntsAre vs ns) (hl : ns.length ≤ sizeLine) (hr : Room k callerA)
    (F : ∀ base : Heap, K.In base → base.Ns mainGlobals mg → FnG P w K mg base k fa fd [x] sp) (hbind : ∀ (s : Shared) (u : Value), BindsTo s fd ⟨[u], []⟩ [(x, u)])
    (hsp : ∀ H : Hp, Only H → SqL K H a (ns.map V.int) → sp [.ref a] H (fun v _ => v = .bl true) E0) :
    codeAny (model P w) callerA (.call (.ref fa) ⟨[.ref a], []⟩) (fun r s' => r = .ok (.ret (.bool true)) ∧ OldK s₁.heap s'.heap ∧ s'.os = s₁.os ∧ AllBare s'.gens) s₁ := by
  have rv := vals_ints hi
  have lenV := hi.length
  have core : ∀ H : Hp, Only H → SqL K H a (ns.map V.int) → HOk P w H s₁.heap → (∀ b, H b ≠ none → b = a) → (H a ≠ none → K.lookup a = none) →
      codeAny (model P w) callerA (.call (.ref fa) ⟨[.ref a], []⟩) (fun r s' => r = .ok (.ret (.bool true)) ∧ OldK s₁.heap s'.heap ∧ s'.os = s₁.os ∧ AllBare s'.gens) s₁ := by
    intro H hO hS hok hA hK
    have noA : ∀ {b : Addr} {o : Obj} {es : Array DictEntry} {ep : Nat}, s₁.heap.get? b = some o → o.data = .dict es ep → H b = none := fun {b o es ep} e d => by
      cases q : H b with
      | none => rfl
      | some u =>
        obtain rfl : b = a := hA b (by rw [q]; simp)
        rw [ha] at e
        cases e
        cases (show Data.seq vs.toArray _ = Data.dict es ep from d)
    have nsK : ∀ {b : Addr} {m : Str → Option Value}, s₁.heap.Ns b m → (hidT s₁.heap H).Ns b m := fun {b m} ⟨o, es, ep, e, d, r⟩ => ⟨o, es, ep, hidT_get e (noA e d), d, r⟩
    have hKb : K.In (hidT s₁.heap H) := fun b o e => hidT_get (KX b o e) (by
      cases q : H b with
      | none => rfl
      | some u =>
        obtain rfl : b = a := hA b (by rw [q]; simp)
        rw [hK (by rw [q]; simp)] at e
        cases e)
    have hM : Mod K mg (hidT s₁.heap H) := ⟨hKb, nsK hns, ⟨mb, nsK hb, hbb⟩, let ⟨mc, h1, h2⟩ := hlim; ⟨mc, nsK h1, h2⟩⟩
    have e0 : Env0 P w K mg (hidT s₁.heap H) callerA [] s₁ H := ⟨rfl, hM, fun b o e => of_hidT e, Nat.le_of_eq (hidT_size _ _), trivial, fun b hb => absurd (show b ∈ ([] : List Addr) from hb) (by simp), hok, .of_eq hg⟩
    refine codeAny_mono ((F _ hKb (nsK hns)).run callerA [] s₁ H ⟨[.ref a], []⟩ [.ref a] [.ref a] _ hr rfl e0 (hbind s₁ (.ref a)) (.cons rfl .nil) (hsp H hO hS)) fun r s' h => ?_
    cases r with
    | error e => exact False.elim h
    | ok fl =>
      cases fl with
      | next => exact False.elim h
      | brk => exact False.elim h
      | cont => exact False.elim h
      | ret u =>
        obtain ⟨v, H', os, bare, un, hok', r', q⟩ := h
        obtain rfl : v = .bl true := q
        obtain rfl : u = Value.bool true := r'
        refine ⟨rfl, OldK.of_keep fun b o e => ?_, os, bare⟩
        cases q : H b with
        | none => exact un.keep b o e q (by intro z; exact absurd (show b ∈ ([] : List Addr) from z) (by simp)) (by simp)
        | some u =>
          rcases hO b with z | ⟨ob, xs, z⟩
          · rw [q] at z
            cases z
          · have z2 := un.frzs b ob _ z
            obtain ⟨e1, _⟩ := hok b _ z
            obtain ⟨e2, _⟩ := hok' b _ z2
            rw [e] at e1
            cases e1
            exact e2
  cases hk : K.lookup a with
  | some o =>
    have e := KX a o hk
    rw [ha] at e
    cases e
    refine core (fun _ => none) (fun _ => .inl rfl) (.inr ⟨_, vs.toArray, _, hk, rfl, rfl, rfl, by rw [List.size_toArray, lenV]; exact hl, by simpa using rv⟩) (fun b u z => ?_) (fun b z => absurd rfl z) fun z => absurd rfl z
    cases (show (none : Option HO) = some u from z)
  | none =>
    refine core (fun b => if b = a then some (.frz { cls := .type "list", data := .seq vs.toArray } (.lst (ns.map V.int))) else none) (fun b => ?_) (.inl (.inr ⟨{ cls := .type "list", data := .seq vs.toArray }, if_pos rfl⟩)) (fun b u z => ?_) (fun b z => ?_) fun _ => hk
    · by_cases hb : b = a
      · exact .inr ⟨_, _, if_pos hb⟩
      · exact .inl (if_neg hb)
    · by_cases hb : b = a
      · cases (if_pos hb).symm.trans z
        subst hb
        exact ⟨ha, by rw [List.length_map]; exact hl, vs, _, rv, ha⟩
      · cases (if_neg hb).symm.trans z
    · by_cases hb : b = a
      · exact hb
      · exact absurd (if_neg hb) z
theorem walkG {l : PySem.W.OpenLaw} {n k : Nat} {q : Program} {loose : List Str} {XP : (Str → Option Value) → Heap → Prop} {YP : World → Heap → Prop} {d : DefRec} {K : Params → PySem.W.Frag} {sp : World → Sp} {x : Str}
    (hn : l.most = some n) (hn2 : n ≤ sizeLine) (hdf : d.params.defaults = []) (hr : Room k callerA)
    (hY : ∀ (w : World) (h : Heap), YP w h → (K w.params).In h)
    (F : ∀ (w : World) (mg : Str → Option Value) (fa : Addr) (h : Heap), (K w.params).In h → h.Ns mainGlobals mg → mg d.name = some (.ref fa) →
      ∃ fd : FuncData, (∀ (s : Shared) (u : Value), BindsTo s fd ⟨[u], []⟩ [(x, u)]) ∧
        ∀ base : Heap, (K w.params).In base → base.Ns mainGlobals mg → FnG l.prog w (K w.params) mg base k fa fd [x] (sp w))
    (hsp : ∀ (w : World) (H : Hp) (a : Addr) (ns : List Int), ns.length ≤ n → Only H → SqL (K w.params) H a (ns.map V.int) → sp w [.ref a] H (fun v _ => v = .bl true) E0) :
    PySem.W.WalkO q loose XP YP l.row.toRowW d [] (fun f vs => PySem.call f vs) := by
  refine Att.attach_call hn hdf fun w s₀ s₁ mg mb fa o pm cd doc a vs ns G Y ho hd hcd hmg hobj hints hlen hg => ?_
  have KX := hY w _ Y
  obtain ⟨fd, hb, hF⟩ := F w mg fa _ KX G.T.g hmg
  exact law_callG KX G.T.g G.T.b G.T.builtins G.T.nolimit hg hobj hints (Nat.le_trans hlen hn2) hr hF hb (fun H hO hS => hsp w H a ns hlen hO hS)
end Xv

namespace PySem
namespace Xv
open PySem.W PySem.Calls PyProof.Rows
def supS : Scope := { kind := .function, names := [(PySem.Str.ofString "self", .local), (PySem.Str.ofString "__class__", .free), (PySem.Str.ofString "super", .globalImplicit)], isGenerator := false, isCoroutine := false, more := [] }
/-- what the written part says of an __init__ that hands a text on to the base's -/
structure SupT (prog : Program) (K : Frag) (C fI : Addr) (fd : FuncData) (i B newId : String) (bmB : List Value) : Prop where
  fn : ∃ (qual : Str) (params : Arguments) (kV doc pm : Value) (an : Option Addr) (cda cc : Addr) (ct oc : Value) (od : Option Addr) (osl : Array (Option Value)) (ar : Arg) (p0 p1 p2 p3 p4 p5 : Pos) (txt : Str) (kd : Nat)
      (vs : Array Value) (file : Str) (tf : Tok) (ccl cl : Value) (cdd cld : Option Addr) (ccs csl : Array (Option Value)),
    fd = ksFn "__init__" qual params [.Expr (.Call (.Attribute (.Call (.Name "super" p0) [] [] p1) "__init__" p2) [.Constant (.str txt) kd p3] [] p4) p5] supS .none kV doc pm an (.ref cda) ct cc ∧
    K.lookup fI = some ⟨oc, od, .func fd, osl⟩ ∧ codeIn K (.ref cda) qual = true ∧
    (params.posonlyargs ++ params.args).head? = some ar ∧ ar.arg = ("self" : Str) ∧
    K.lookup cda = some ⟨ccl, cdd, .fields vs, ccs⟩ ∧ vs[2]? = some (.str file tf) ∧ ((prog.main.file : Str) == file) = true ∧
    K.lookup cc = some ⟨cl, cld, .cell (some (.ref C)), csl⟩ ∧
    (∀ L : Addr, ∃ pl, eval (.Call (.Attribute (.Call (.Name "super" p0) [] [] p1) "__init__" p2) [.Constant (.str txt) kd p3] [] p4) (ksEnv qual supS L fI (.ref cda) cc) = (do
      let ov ← attributeBase (.Call (.Name "super" p0) [] [] p1) "__init__" (ksEnv qual supS L fI (.ref cda) cc) (eval (.Call (.Name "super" p0) [] [] p1) (ksEnv qual supS L fI (.ref cda) cc))
      standAt p2.atName
      let (f, first) ← holding [ov] (getMethod ov "__init__" pl)
      callWith p4 f first (backTo p4 (starEach [.Constant (.str txt) kd p3] (ksEnv qual supS L fI (.ref cda) cc))) []))
  hD : (clsIn K C).isSome = true
  sup : ks_superIn K C C "__init__" = some (some (.builtin i))
  self : mroIn K C (.ref C) = some true
  base : subIn K (.ref C) (.type B) = some true
  opq : nsIn K cStatics "thirdparty.any" = some none
  sup0 : nsIn K mainGlobals "super" = some none
  top : (prog.main.scope.names.lookup ("super" : Str)).isSome = false
  ini : excInitIn K C bmB newId = true
theorem sup_init {prog : Program} {w : World} {A : Around} {R : Result → Shared → Prop} {s : Shared} {K : Frag} {C fI x t0 : Addr} {fd : FuncData} {i B newId : String} {bmB : List Value} {mg mb : Str → Option Value} {args : Args}
    (T : SupT prog K C fI fd i B newId bmB) (KF : KxsFacts B i) (FB : ExcBaseFacts B newId i bmB) (X : K.In s.heap) (hlim : s.heap.NoLimit) (hG : s.heap.Ns mainGlobals mg) (hS : mg "super" = none) (hB : s.heap.Ns builtinsNs mb) (hBB : ∀ x : Str, x ≠ "__name__" → mb x = bootBuiltins x)
    (hx : s.heap.get? x = some (excObj C t0 none .none)) (hroom : A.depth < recursionLimit) (hbind : BindsTo s fd args [("self", .ref x)])
    (hq : ∀ h' tk t1, (∀ b o, b ≠ x → s.heap.get? b = some o → h'.get? b = some o) → h'.get? x = some (excObj C t1 none .none) → R (.ok (.ret .none)) { s with heap := h', toks := tk }) :
    codeAny (model prog w) A (.call (.ref fI) args) R s := by
  obtain ⟨qual, params, kV, doc, pm, an, cda, cc, ct, oc, od, osl, ar, p0, p1, p2, p3, p4, p5, txt, kd, vs, file, tf, ccl, cl, cdd, cld, ccs, csl, rfl, lk, hcd, hhead, har, hcda, hvs, hfile, hcc, hev⟩ := T.fn
  obtain ⟨cd, hcl⟩ := Option.isSome_iff_exists.mp T.hD
  obtain ⟨oD, hD1, hD2⟩ : ∃ oD, s.heap.get? C = some oD ∧ oD.data = .cls cd := by
    unfold clsIn at hcl
    split at hcl
    · rename_i c d cd' sl ho
      cases hcl
      exact ⟨_, X _ _ ho, rfl⟩
    · cases hcl
  refine ks_codeAny_call_defAt (fd := ksFn "__init__" qual params _ supS .none kV doc pm an (.ref cda) ct cc) (binds := [(("self" : Str), .ref x)]) hroom (X _ _ lk) rfl hlim (codeRec_of X hcd) rfl hbind (show ∀ y ∈ supS.names, y.2 ≠ .cell by decide) (fun y hy => by
    rcases List.mem_cons.mp hy with rfl | hy
    · rfl
    · cases hy) (fun h₁ hns hk₁ => ?_)
  have X₁ : K.In h₁ := X.keeps hk₁
  have hx₁ := hk₁ _ _ hx
  have I₁ : InstAt h₁ x (excObj C t0 none .none) C none := ⟨hx₁, rfl, rfl, trivial⟩
  obtain ⟨pl, hev⟩ := hev s.heap.objs.size
  refine ks_wpAt_execs_cons (ks_wpAt_Expr_any (ks_wpAt_MethodCall ?_ hev))
  refine ks_wpAt_super_base (env := ksEnv qual supS s.heap.objs.size fI (.ref cda) cc) rfl rfl (by decide +kernel) rfl (hk₁ _ _ (X _ _ lk)) rfl hhead rfl (hk₁ _ _ (X _ _ hcda)) rfl hvs hfile T.top ?_
  refine ks_loadName_global rfl rfl (loadGlobal_builtin (env := ksEnv qual supS s.heap.objs.size fI (.ref cda) cc) (hG.keeps hk₁) hS (hB.keeps hk₁) ((hBB _ (by decide +kernel)).trans PyProof.Rows.Boot.«super») ⟨rfl, ?_⟩)
  refine wpAny_loadName_free rfl rfl rfl ⟨_, hk₁ _ _ (X _ _ hcc), rfl⟩ ?_
  rw [har]
  refine wpAny_loadName_local (v := .ref x) rfl rfl hns (by rfl) ?_
  refine ks_wpAny_isType_cls (hk₁ _ _ hD1) hD2 ⟨rfl, ?_⟩
  refine ks_wpAny_call_super (hk₁ _ _ hD1) hD2 I₁.at_ I₁.cls (fun c e => nomatch e) (looks_mroIn X₁ T.self) (fun h₂ e₂ k₂ => ?_)
  have X₂ : K.In h₂ := X₁.keeps k₂
  have hx₂ := k₂ _ _ hx₁
  have I₂ : InstAt h₂ x (excObj C t0 none .none) C none := ⟨hx₂, rfl, rfl, trivial⟩
  have hI : Looks (model prog w) h₂ (isInstance (.ref x) (.type B)) true := I₂.type.andThen (looks_subIn X₂ T.base)
  have hm := T.sup
  unfold ks_superIn at hm
  rw [hcl] at hm
  refine kxs_getMethod KF e₂ (looks_opaque X₂ T.opq) (l₀ := cd.mro) (fun A Q E s k q => wpAny_bind ((looks_clsIn X₂ hcl) A _ E s k (wpAny_pure q))) rfl X₂ hm hI (ks_ne X₂ I₂ hcl) (by decide +kernel) ?_
  have hu : (h₂.push (kxs_mw i x)).get? h₂.objs.size = some (kxs_mw i x) := Heap.get?_push_at rfl rfl
  have k₃ : ∀ b o, s.heap.get? b = some o → (h₂.push (kxs_mw i x)).get? b = some o := fun b o e => Heap.get?_push_of_some _ (k₂ _ _ (hk₁ _ _ e))
  refine kxs_callWith (i := i) (x := x) rfl ?_
  refine evalArgs_plain ?_
  refine Calls.spliced_cons ?_
  show wpAny _ _ (eval (.Constant (.str txt) kd p3) (ksEnv qual supS s.heap.objs.size fI (.ref cda) cc)) _ _ _
  refine Calls.Constant_str ?_
  refine Calls.spliced_nil ⟨hu, ?_⟩
  obtain ⟨nm, N', qn, bs, bm, hdct, sn, sub, ab, col, dd, k0, k1, k2, k3, k5, hC, hT⟩ := excInit_of (X.keeps k₃) T.ini
  refine wpAny_call (codeAny_of_tree ?_)
  show wpAny _ _ (callAny (.ref h₂.objs.size) _) _ _ _
  simp only [callAny]
  refine wpAny_bind (wpAny_load hu ?_)
  simp only [kxs_mw, show (Value.type "method-wrapper" == Value.type "method" || Value.type "method-wrapper" == Value.type "builtin_function_or_method" || Value.type "method-wrapper" == Value.type "method-wrapper") = true by decide, if_true]
  refine KFB.if_so (by decide) ?_
  refine wpAny_bind (check_bound_init FB.toExcCallFacts hC (k₃ _ _ hx) rfl ?_)
  refine wpAny_bind (wpAny_pure (wpAny_pure ?_))
  refine ⟨plainId_quiet FB.init.plain _, codeAny_builtin FB.initEntry ?_⟩
  refine exc_init_tree (cls := .ref C) (t0 := t0) (dv := none) (c2 := .none) (c3 := .none) (b4 := .bool false) (k₃ _ _ hx) (by rw [sizeLine_eq]; show 1 ≤ 16777216; decide) (fun h' kk ex _ => ?_)
  refine wpAt_of_wpAny (wpAny_execs_nil ?_)
  exact hq _ _ _ (fun b o hb e => kk b o hb (k₃ _ _ e)) ex
end Xv
end PySem

namespace Xv
open PySem PySem.Spec PyProof.Rows L2
/-- a stronger reading -/
theorem PE.imp {X : Cx} {e : Expr} {t t' : TE} (h : PE X e t) (k : ∀ σ H Q, t' σ H Q → t σ H Q) : PE X e t' := ⟨fun pins s σ H Q I q => h.run pins s σ H Q I (k σ H Q q)⟩
/-! ### self.f = e -/
def tPut (K : PySem.W.Frag) (f : Str) (to te : TE) : TS := fun D σ H => te σ H fun y H1 => to σ H1 fun x H2 => ∃ (a C fI : Addr) (B newId initId : String) (bmB : List Value), x = .ref a ∧ Bas B newId initId bmB ∧ ExT K C fI newId bmB ∧ PySem.W.takerIn K C f = some none ∧
  ((H2 a = some (exo a C none) ∧ ∀ dx, H2 dx = none → dx ≠ a → D.nx σ (upd (upd H2 dx (exd dx [(f, y)])) a (exo a C (some dx)))) ∨
    ∃ (dx : Addr) (fs : List (Str × V)), H2 a = some (exo a C (some dx)) ∧ H2 dx = some (exd dx fs) ∧ fs.length ≤ 900 ∧ D.nx σ (upd H2 dx (exd dx ((f, y) :: fs))))
theorem ps_put {X : Cx} {o e : Expr} {to te : TE} {f : Str} {p' pos : Pos} (ho : PE X o to) (he : PE X e te) (hs : swapsWith e (some (.Attribute o f p')) pos.line X.env = pure false := by rfl) : PS X (.Assign [.Attribute o f p'] e pos) (tPut X.K f to te) := by
  refine ⟨fun pins s σ H D I h => ?_⟩
  refine plainObj_wpAny_Assign_Attribute (thn (he.run pins s σ H _ I h) fun v s1 ⟨y, H1, I1, r1, q1⟩ => thn (ho.run pins s1 σ H1 _ I1 q1) fun u s2 ⟨x, H2, I2, r2, a, C, fI, B, newId, initId, bmB, ex, b, T, hno, q⟩ => ?_) hs
  subst ex
  obtain rfl : u = Value.ref a := r2
  rcases q with ⟨ea, q⟩ | ⟨dx, fs, ea, ed, hl, q⟩
  · exact put_first b T I2 ea hno r1 fun dx s' n ne J => ⟨σ, _, J, q dx n ne⟩
  · exact put_more b T I2 ea ed hl hno r1 fun s' J => ⟨σ, _, J, q⟩
/-! ### exceptions as values -/
def XV (H : Hp) (C : Addr) (fo : Option (List (Str × V))) (x : V) : Prop := ∃ a, x = .ref a ∧ ((fo = none ∧ H a = some (exo a C none)) ∨ ∃ d fs, fo = some fs ∧ H a = some (exo a C (some d)) ∧ H d = some (exd d fs))
theorem XV.same {H H' : Hp} {C : Addr} {fo : Option (List (Str × V))} {x : V} (e : Same H H') (h : XV H C fo x) : XV H' C fo x := by
  obtain ⟨a, rfl, ⟨r, q⟩ | ⟨d, fs, r, q1, q2⟩⟩ := h
  · exact ⟨a, rfl, .inl ⟨r, e _ _ q⟩⟩
  · exact ⟨a, rfl, .inr ⟨d, fs, r, e _ _ q1, e _ _ q2⟩⟩
def spI1 (C : Addr) (f : Str) : Sp := fun vs H Q _ => ∃ (a : Addr) (v : V), vs = [.ref a, v] ∧ H a = some (exo a C none) ∧ ∀ dx, H dx = none → dx ≠ a → Q .non (upd (upd H dx (exd dx [(f, v)])) a (exo a C (some dx)))
def spI2 (C : Addr) (f g : Str) : Sp := fun vs H Q _ => ∃ (a : Addr) (v w : V), vs = [.ref a, v, w] ∧ H a = some (exo a C none) ∧ ∀ dx, H dx = none → dx ≠ a → ∀ H', Same H (fun b => if b = a then H a else H' b) → H' a = some (exo a C (some dx)) → H' dx = some (exd dx [(g, w), (f, v)]) → Q .non H'
def spI0 (C : Addr) : Sp := fun vs H Q _ => ∃ (a : Addr), vs = [.ref a] ∧ H a = some (exo a C none) ∧ Q .non H
section
variable {P : Program} {w : World} {K : PySem.W.Frag} {mg : Str → Option Value} {base : Heap} {fI C : Addr} {fd : FuncData} {qual f g : Str} {st : Stmt} {B newId initId : String} {bmB : List Value}
theorem ok_one (b : Bas B newId initId bmB) (T : ExT K C fI newId bmB) (hno : PySem.W.takerIn K C f = some none) (F : Fun K "__init__" qual st fI fd) (sc : FnScope ["self", f] ["self", f] (defScope st)) {p1 p2 p3 p4 : Pos}
    (hb : defBody st = [.Assign [.Attribute (.Name "self" p1) f p2] (.Name f p3) p4]) (vS : (defScope st).names.lookup ("self" : Str) = some .local) (vF : (defScope st).names.lookup f = some .local) (hd : (f == ("__debug__" : Str)) = false) (hcd : (f == ("__classdict__" : Str)) = false) :
    FnOk P w K mg base CX0 1 fI fd ["self", f] (spI1 C f) := by
  refine F.ok sc (fun vs H Q E h => ?_) (fun cdv A outer s H vs Q E hr h => ?_)
  · obtain ⟨a, v, rfl, _⟩ := h
    rfl
  · obtain ⟨a, v, rfl, ea, k⟩ := h
    rw [hb]
    refine ⟨_, pss_one (ps_put (pe_var (i := 0) rfl (.inl vS)) (pe_var (i := 1) rfl (.inl vF) hd hcd)), ?_⟩
    exact ⟨_, rfl, _, rfl, a, C, fI, B, newId, initId, bmB, rfl, b, T, hno, .inl ⟨ea, fun dx n ne => k dx n ne⟩⟩
theorem ok_two (b : Bas B newId initId bmB) (T : ExT K C fI newId bmB) (hno : PySem.W.takerIn K C f = some none) (hno2 : PySem.W.takerIn K C g = some none) (F : Fun K "__init__" qual st fI fd) (sc : FnScope ["self", f, g] ["self", f, g] (defScope st)) {p1 p2 p3 p4 q1 q2 q3 q4 : Pos}
    (hb : defBody st = [.Assign [.Attribute (.Name "self" p1) f p2] (.Name f p3) p4, .Assign [.Attribute (.Name "self" q1) g q2] (.Name g q3) q4]) (vS : (defScope st).names.lookup ("self" : Str) = some .local) (vF : (defScope st).names.lookup f = some .local) (vG : (defScope st).names.lookup g = some .local)
    (hd : (f == ("__debug__" : Str)) = false) (hcd : (f == ("__classdict__" : Str)) = false) (gd : (g == ("__debug__" : Str)) = false) (gcd : (g == ("__classdict__" : Str)) = false) :
    FnOk P w K mg base CX0 1 fI fd ["self", f, g] (spI2 C f g) := by
  refine F.ok sc (fun vs H Q E h => ?_) (fun cdv A outer s H vs Q E hr h => ?_)
  · obtain ⟨a, v, w, rfl, _⟩ := h
    rfl
  · obtain ⟨a, v, w, rfl, ea, k⟩ := h
    rw [hb]
    refine ⟨_, pss_cons (ps_put (pe_var (i := 0) rfl (.inl vS)) (pe_var (i := 1) rfl (.inl vF) hd hcd)) (pss_one (ps_put (pe_var (i := 0) rfl (.inl vS)) (pe_var (i := 2) rfl (.inl vG) gd gcd))), ?_⟩
    refine ⟨_, rfl, _, rfl, a, C, fI, B, newId, initId, bmB, rfl, b, T, hno, .inl ⟨ea, fun dx n ne => ?_⟩⟩
    refine ⟨_, rfl, _, rfl, a, C, fI, B, newId, initId, bmB, rfl, b, T, hno2, .inr ⟨dx, _, upd_same, by rw [upd_ne ne, upd_same], by show 1 ≤ 900; decide, ?_⟩⟩
    refine k dx n ne _ (fun c o q => ?_) (by rw [upd_ne ne.symm, upd_same]) upd_same
    by_cases hc : c = a
    · subst hc
      simp only [if_true]
      exact q
    · simp only [if_neg hc]
      rw [upd_ne (ne_of_none q n), upd_ne hc, upd_ne (ne_of_none q n)]
      exact q
/-- an __init__ that hands a text on -/
theorem ok_sup (T : PySem.Xv.SupT P K C fI fd initId B newId bmB) (KF : PySem.W.KxsFacts B initId) (FB : ExcBaseFacts B newId initId bmB) (hS : mg "super" = none) :
    FnOk P w K mg base CX0 1 fI fd ["self"] (spI0 C) := by
  refine ⟨fun vs H Q E h => ?_, fun A outer s H args us vs Q E hr e0 hb r h => ?_⟩
  · obtain ⟨a, rfl, _⟩ := h
    rfl
  · obtain ⟨a, rfl, ea, k⟩ := h
    cases r with
    | cons r1 r2 =>
      cases r2
      cases r1
      obtain ⟨t0, ho⟩ := exo_at e0.hok ea
      have kb : ∀ b o, base.get? b = some o → s.heap.get? b = some o := fun b o e => (e0.bs b o e).1
      obtain ⟨mb, h1, h2⟩ := e0.mod.blt
      refine PySem.Xv.sup_init (x := a) (t0 := t0) T KF FB (e0.mod.kin.keeps kb) (e0.mod.nolimit.keeps kb) (e0.mod.glob.keeps kb) hS (h1.keeps kb) h2 ho hr.depth hb fun h' tk t1 kk ex => ?_
      have eu : upd H a (exo a C none) = H := by
        funext b
        by_cases hb : b = a
        · rw [hb, upd_same, ea]
        · rw [upd_ne hb]
      have mu : Mut (H a) := by
        rw [ea]
        exact True.intro
      have U := Un.write (fs := frs outer) (ex := []) (o := exo a C none) mu (.inl rfl) kk ⟨_, ex⟩
      have W := HOk.write (o' := exo a C none) e0.hok mu (.inl rfl) kk ⟨_, ex⟩ (exo_ok ex)
      rw [eu] at U W
      exact ⟨.non, H, rfl, e0.bare, U, W, rfl, k⟩
end
/-! ### classes of exceptions, by their names -/
/-- a class with one field f -/
structure Ex1 (P : Program) (w : World) (K : PySem.W.Frag) (mg : Str → Option Value) (base : Heap) (x : Str) (C : Addr) (f : Str) : Prop where
  ex : ∃ (fI : Addr) (fd : FuncData) (B newId initId : String) (bmB : List Value), Bas B newId initId bmB ∧ ExT K C fI newId bmB ∧ FnOk P w K mg base CX0 1 fI fd ["self", f] (spI1 C f) ∧ Binds K fd ["self", f] [] ∧ KBn K fd ["self", f] 1 [f] (fun us ws => us ++ ws) (fun vs zs => vs ++ zs)
  gm : mg x = some (.ref C)
structure Ex2 (P : Program) (w : World) (K : PySem.W.Frag) (mg : Str → Option Value) (base : Heap) (x : Str) (C : Addr) (f g : Str) : Prop where
  ex : ∃ (fI : Addr) (fd : FuncData) (B newId initId : String) (bmB : List Value), Bas B newId initId bmB ∧ ExT K C fI newId bmB ∧ FnOk P w K mg base CX0 1 fI fd ["self", f, g] (spI2 C f g) ∧ Binds K fd ["self", f, g] [] ∧ KBn K fd ["self", f, g] 1 [g, f] (fun us ws => us ++ ws.reverse) (fun vs zs => vs ++ zs.reverse)
  gm : mg x = some (.ref C)
structure Ex0 (P : Program) (w : World) (K : PySem.W.Frag) (mg : Str → Option Value) (base : Heap) (x : Str) (C : Addr) : Prop where
  ex : ∃ (fI : Addr) (fd : FuncData) (B newId initId : String) (bmB : List Value), Bas B newId initId bmB ∧ ExT K C fI newId bmB ∧ FnOk P w K mg base CX0 1 fI fd ["self"] (spI0 C) ∧ Binds K fd ["self"] []
  gm : mg x = some (.ref C)
/-- X(e): a new exception -/
def tNew (C : Addr) (ta : TA) (fo : List V → Option (List (Str × V))) (n : Nat) : TE := fun σ H Q => ta σ H fun vs H1 => vs.length = n ∧ ∀ H2 x, Same H1 H2 → XV H2 C (fo vs) x → Q x H2
section
variable {X : Cx} {x f g : Str} {C : Addr} {e e2 : Expr} {ta : TA} {te te2 : TE} {p pos kp kp2 : Pos} {k : Nat}
theorem new_one {H1 : Hp} {v : V} {Q : VK} (q : ∀ H2 x, Same H1 H2 → XV H2 C (some [(f, v)]) x → Q x H2) (a : Addr) (n : H1 a = none) : spI1 C f [.ref a, v] (upd H1 a (exo a C none)) (fun u H2 => u = .non ∧ Q (.ref a) H2) E0 := by
  refine ⟨a, v, rfl, upd_same, fun dx nd ne => ⟨rfl, q _ _ (fun b o hb => ?_) ⟨a, rfl, .inr ⟨dx, _, rfl, upd_same, by rw [upd_ne ne, upd_same]⟩⟩⟩⟩
  rw [upd_ne ne] at nd
  rw [upd_ne (ne_of_none hb n), upd_ne (ne_of_none hb nd), upd_ne (ne_of_none hb n)]
  exact hb
theorem new_two {H1 : Hp} {v w : V} {Q : VK} (q : ∀ H2 x, Same H1 H2 → XV H2 C (some [(g, w), (f, v)]) x → Q x H2) (a : Addr) (n : H1 a = none) : spI2 C f g [.ref a, v, w] (upd H1 a (exo a C none)) (fun u H2 => u = .non ∧ Q (.ref a) H2) E0 := by
  refine ⟨a, v, w, rfl, upd_same, fun dx nd ne H' s ea ed => ⟨rfl, q _ _ (fun b o hb => ?_) ⟨a, rfl, .inr ⟨dx, _, rfl, ea, ed⟩⟩⟩⟩
  have z := s b o (by rw [upd_ne (ne_of_none hb n)]; exact hb)
  simp only [if_neg (ne_of_none hb n)] at z
  exact z
/-- arguments' readings may be weakened behind -/
def tMonA (t : TA) : TA := fun σ H Q => ∃ Q0 : List V → Hp → Prop, t σ H Q0 ∧ ∀ vs H1, Q0 vs H1 → Q vs H1
theorem pa_mon {es : List Expr} {t : TA} (h : PA X es t) : PA X es (tMonA t) := ⟨fun pos pins s σ H Q I ⟨Q0, q0, k⟩ => thn (h.run pos pins s σ H Q0 I q0) fun us s1 ⟨vs, H1, I1, r, q⟩ => ⟨vs, H1, I1, r, k vs H1 q⟩⟩
theorem pk_mon {kws : List Keyword} {t : TA} (h : PK X kws t) : PK X kws (tMonA t) := ⟨fun pos pins s σ H Q I ⟨Q0, q0, k⟩ => thn (h.run pos pins s σ H Q0 I q0) fun us s1 ⟨vs, H1, I1, r, q⟩ => ⟨vs, H1, I1, r, k vs H1 q⟩⟩
theorem pe_new1 (c : Ex1 X.prog X.w X.K X.mg X.base x C f) (hr : Room k X.A) (hk : 2 ≤ k) (hg : Gl X x) (ha : PA X [e] ta) (hdb : (x == ("__debug__" : Str)) = false := by decide) (he : starEach [e] X.env = (false, eval e X.env) :: starEach [] X.env := by rfl) :
    PE X (.Call (.Name x p) [e] [] pos) (tNew C ta (fun vs => some [(f, vs.headD .non)]) 1) := by
  obtain ⟨fI, fd, B, newId, initId, bmB, b, T, F, bi, _⟩ := c.ex
  refine PE.imp (pe_exv b T F (hr.mono hk) bi hg c.gm (pa_mon ha) hdb he (by rfl)) fun σ H Q h => ⟨_, h, fun vs H1 q => ?_⟩
  obtain ⟨hl, q⟩ := q
  match vs, hl with
  | [v], _ => exact ⟨by show 1 ≤ 1000; decide, fun a n => new_one q a n⟩
theorem pe_new2 (c : Ex2 X.prog X.w X.K X.mg X.base x C f g) (hr : Room k X.A) (hk : 2 ≤ k) (hg : Gl X x) (ha : PA X [e, e2] ta) (hdb : (x == ("__debug__" : Str)) = false := by decide) (he : starEach [e, e2] X.env = (false, eval e X.env) :: starEach [e2] X.env := by rfl)
    (hpl : (backTo pos (starEach [e2] X.env)).any (·.1) = false := by rfl) :
    PE X (.Call (.Name x p) [e, e2] [] pos) (tNew C ta (fun vs => some [(g, vs.getD 1 .non), (f, vs.headD .non)]) 2) := by
  obtain ⟨fI, fd, B, newId, initId, bmB, b, T, F, bi, _⟩ := c.ex
  refine PE.imp (pe_exv b T F (hr.mono hk) bi hg c.gm (pa_mon ha) hdb he hpl) fun σ H Q h => ⟨_, h, fun vs H1 q => ?_⟩
  obtain ⟨hl, q⟩ := q
  match vs, hl with
  | [v, w], _ => exact ⟨by show 2 ≤ 1000; decide, fun a n => new_two q a n⟩
theorem pe_new0 (c : Ex0 X.prog X.w X.K X.mg X.base x C) (hr : Room k X.A) (hk : 2 ≤ k) (hg : Gl X x) (hdb : (x == ("__debug__" : Str)) = false := by decide) :
    PE X (.Call (.Name x p) [] [] pos) (tNew C tNil (fun _ => none) 0) := by
  obtain ⟨fI, fd, B, newId, initId, bmB, b, T, F, bi⟩ := c.ex
  refine PE.imp (pe_exv0 b T F (hr.mono hk) bi hg c.gm hdb) fun σ H Q h => ?_
  obtain ⟨_, q⟩ := h
  exact ⟨by decide, fun a n => ⟨a, rfl, upd_same, rfl, q _ _ (fun b o hb => by rw [upd_ne (ne_of_none hb n)]; exact hb) ⟨a, rfl, .inl ⟨rfl, upd_same⟩⟩⟩⟩
theorem pe_new1K (c : Ex1 X.prog X.w X.K X.mg X.base x C f) (hr : Room k X.A) (hk : 2 ≤ k) (hg : Gl X x) (he : PE X e te) (hdb : (x == ("__debug__" : Str)) = false := by decide) :
    PE X (.Call (.Name x p) [] [⟨some f, e, kp⟩] pos) (tNew C (tCons te tNil) (fun vs => some [(f, vs.headD .non)]) 1) := by
  obtain ⟨fI, fd, B, newId, initId, bmB, b, T, F, _, bi⟩ := c.ex
  refine PE.imp (pe_exvK b T F (hr.mono hk) bi hg c.gm (pk_mon (pk_cons he pk_nil)) (by rfl) (by rfl) hdb (by rfl)) fun σ H Q h => ⟨_, h, fun vs H1 q => ?_⟩
  obtain ⟨hl, q⟩ := q
  match vs, hl with
  | [v], _ => exact ⟨rfl, fun a n => new_one q a n⟩
theorem pe_new2K (c : Ex2 X.prog X.w X.K X.mg X.base x C f g) (hr : Room k X.A) (hk : 2 ≤ k) (hg : Gl X x) (he : PE X e te) (he2 : PE X e2 te2) (hdb : (x == ("__debug__" : Str)) = false := by decide) :
    PE X (.Call (.Name x p) [] [⟨some g, e, kp⟩, ⟨some f, e2, kp2⟩] pos) (tNew C (tCons te (tCons te2 tNil)) (fun vs => some [(g, vs.headD .non), (f, vs.getD 1 .non)]) 2) := by
  obtain ⟨fI, fd, B, newId, initId, bmB, b, T, F, _, bi⟩ := c.ex
  refine PE.imp (pe_exvK b T F (hr.mono hk) bi hg c.gm (pk_mon (pk_cons he (pk_cons he2 pk_nil))) (by rfl) (by rfl) hdb (by rfl)) fun σ H Q h => ⟨_, h, fun vs H1 q => ?_⟩
  obtain ⟨hl, q⟩ := q
  match vs, hl with
  | [v, w], _ => exact ⟨rfl, fun a n => new_two q a n⟩
/-! ### fields and classes of such values -/
def tXat (K : PySem.W.Frag) (f : Str) (te : TE) : TE := fun σ H Q => te σ H fun x H1 => ∃ C fs v, XV H1 C (some fs) x ∧ ExcC K C ∧ PySem.W.findIn K (.ref C) f = some none ∧ fs.lookup f = some v ∧ Q v H1
theorem pe_mon {X : Cx} {e : Expr} {t : TE} (h : PE X e t) : PE X e (fun σ H Q => ∃ Q0 : VK, t σ H Q0 ∧ ∀ v H1, Q0 v H1 → Q v H1) := ⟨fun pins s σ H Q I ⟨Q0, q0, k⟩ => thn (h.run pins s σ H Q0 I q0) fun u s1 ⟨v, H1, I1, r, q⟩ => ⟨v, H1, I1, r, k v H1 q⟩⟩
theorem pe_xat (he : PE X e te) (hb : attributeBase e f X.env (eval e X.env) = eval e X.env := by rfl) : PE X (.Attribute e f pos) (tXat X.K f te) := by
  refine PE.imp (pe_xf (pe_mon he) hb) fun σ H Q h => ⟨_, h, fun x H1 q => ?_⟩
  obtain ⟨C, fs, v, ⟨a, rfl, ⟨r, _⟩ | ⟨d, fs', r, q1, q2⟩⟩, T, hno, hl, q⟩ := q
  · cases r
  · cases r
    exact ⟨a, C, d, fs, v, rfl, T, hno, q1, q2, hl, q⟩
def rXis (K : PySem.W.Frag) : List V → Hp → VK → Prop := fun xs H Q => ∃ (x c : V) (C : Addr) (fo : Option (List (Str × V))) (cv : Value) (b : Bool), xs = [x, c] ∧ ClsV c cv ∧ ExcC K C ∧ XV H C fo x ∧ PySem.W.kitOne K (.ref C) cv = some b ∧ Q (.bl b) H
theorem call_xis : CallR X (.builtin "isinstance") (rXis X.K) := by
  intro pins s σ H xs us Q I r h
  obtain ⟨x, c, C, fo, cv, b, rfl, k, T, ⟨a, rfl, v⟩, e, q⟩ := h
  rcases v with ⟨rfl, ea⟩ | ⟨d, fs, rfl, ea, ed⟩
  · exact call_xi pins s σ H _ us Q I r ⟨a, C, none, c, cv, b, rfl, k, T, ea, (fun d z => nomatch z), e, q⟩
  · exact call_xi pins s σ H _ us Q I r ⟨a, C, some d, c, cv, b, rfl, k, T, ea, (fun d' z => by cases z; exact ⟨fs, ed⟩), e, q⟩
end
end Xv

namespace Xv
open PySem PySem.Spec PyProof.Rows L2
/-! ### a def by its name -/
structure Cl (P : Program) (w : World) (K : PySem.W.Frag) (mg : Str → Option Value) (base : Heap) (k : Nat) (x : Str) (sp : Sp) : Prop where
  ex : ∃ (f : Addr) (fd : FuncData) (ps : List Str), FnOk P w K mg base CX0 k f fd ps sp ∧ mg x = some (.ref f) ∧ PySem.W.keepIn K (.ref f) = true ∧ Binds K fd ps []
structure ClG (P : Program) (w : World) (K : PySem.W.Frag) (mg : Str → Option Value) (base : Heap) (k : Nat) (x : Str) (sp : Sp) : Prop where
  ex : ∃ (f : Addr) (fd : FuncData) (ps : List Str), FnG P w K mg base k f fd ps sp ∧ mg x = some (.ref f) ∧ PySem.W.keepIn K (.ref f) = true ∧ Binds K fd ps []
section
variable {X : Cx} {x : Str} {p pos : Pos} {e : Expr} {es : List Expr} {t : TA} {k j : Nat} {sp : Sp}
theorem pe_cl (c : Cl X.prog X.w X.K X.mg X.base k x sp) (hr : Room j X.A) (hk : k ≤ j) (hg : Gl X x) (ha : PA X (e :: es) t)
    (hdb : (x == ("__debug__" : Str)) = false := by decide) (he : starEach (e :: es) X.env = (false, eval e X.env) :: starEach es X.env := by rfl) (hpl : (backTo pos (starEach es X.env)).any (·.1) = false := by rfl) :
    PE X (.Call (.Name x p) (e :: es) [] pos) (tCall sp [] E0 t) := by
  obtain ⟨f, fd, ps, F, hm, kp, b⟩ := c.ex
  exact pe_call F (hr.mono hk) hg hm kp b .nil pass0 ha hdb he hpl
theorem pe_clG (c : ClG X.prog X.w X.K X.mg X.base k x sp) (hr : Room j X.A) (hk : k ≤ j) (hgd : X.A.guards = some []) (hg : Gl X x) (ha : PA X (e :: es) t)
    (hdb : (x == ("__debug__" : Str)) = false := by decide) (he : starEach (e :: es) X.env = (false, eval e X.env) :: starEach es X.env := by rfl) (hpl : (backTo pos (starEach es X.env)).any (·.1) = false := by rfl) :
    PE X (.Call (.Name x p) (e :: es) [] pos) (tCall sp [] E0 t) := by
  obtain ⟨f, fd, ps, F, hm, kp, b⟩ := c.ex
  exact pe_callGd F (hr.mono hk) hgd hg hm kp b ha hdb he hpl
end
/-! ### heaps -/
theorem same_upd {H : Hp} {p : Addr} {o : HO} (n : H p = none) : Same H (upd H p o) := fun b u e => by
  rw [upd_ne (ne_of_none e n)]
  exact e
theorem Same.upd {H H' : Hp} {p : Addr} {o : HO} (s : Same H H') (n : H' p = none) : Same H (upd H' p o) := s.trans (same_upd n)
/-- all but p is as it was -/
def But (p : Addr) (H H' : Hp) : Prop := ∀ b o, b ≠ p → H b = some o → H' b = some o
theorem But.refl (p : Addr) (H : Hp) : But p H H := fun _ _ _ h => h
theorem But.trans {p : Addr} {H H1 H2 : Hp} (a : But p H H1) (b : But p H1 H2) : But p H H2 := fun c o n h => b c o n (a c o n h)
theorem Same.but {p : Addr} {H H' : Hp} (s : Same H H') : But p H H' := fun b o _ h => s b o h
theorem But.upd {p : Addr} {H H' : Hp} {o : HO} (s : But p H H') : But p H (upd H' p o) := fun b u n h => by
  rw [upd_ne n]
  exact s b u n h
theorem But.new {p q : Addr} {H H' : Hp} {o : HO} (s : But p H H') (n : H' q = none) : But p H (L2.upd H' q o) := s.trans (Same.but (same_upd n))
/-- a pot: two numbers that are drawn from -/
def Pot (H : Hp) (p : Addr) : Prop := ∃ a b : Int, H p = some (.lst [.int a, .int b]) ∧ 0 ≤ a ∧ 0 ≤ b ∧ b < 4294967296
/-! ### short data -/
def Sml (d : PyData) : Prop := d.showable = true ∧ d.depth ≤ 10 ∧ d.shown.length ≤ 40
theorem sml_all : ∀ {ds : List PyData}, (∀ d ∈ ds, Sml d) → PyData.showableAll ds = true ∧ PyData.depthAll ds ≤ 10 ∧ ((PyData.shownAll ds).map (·.length)).sum ≤ 40 * ds.length ∧ (PyData.shownAll ds).length = ds.length
  | [], _ => by simp [PyData.showableAll, PyData.depthAll, PyData.shownAll]
  | d :: ds, h => by
    obtain ⟨h1, h2, h3, h4⟩ := sml_all (ds := ds) fun x hx => h x (List.mem_cons_of_mem _ hx)
    obtain ⟨k1, k2, k3⟩ := h d List.mem_cons_self
    refine ⟨?_, ?_, ?_, ?_⟩
    · simp only [PyData.showableAll, k1, h1, Bool.and_self]
    · simp only [PyData.depthAll]
      omega
    · simp only [PyData.shownAll, List.map_cons, List.sum_cons, List.length_cons]
      omega
    · simp only [PyData.shownAll, List.length_cons, h4]
theorem sml_list {ds : List PyData} (h : ∀ d ∈ ds, Sml d) (hz : ds.length ≤ 1000) : (PyData.list ds).showable = true ∧ (PyData.list ds).depth ≤ 60 ∧ (PyData.list ds).shown.length ≤ sizeLine := by
  obtain ⟨h1, h2, h3, h4⟩ := sml_all h
  refine ⟨by simpa only [PyData.showable] using h1, ?_, ?_⟩
  · simp only [PyData.depth]
    omega
  · simp only [PyData.shown]
    have z := listText_len_le (PyData.shownAll ds)
    rw [sizeLine_eq]
    omega
theorem DrAll.rep {K : PySem.W.Frag} {H : Hp} {v : V} {d : PyData} (h : Dr K H v d) : ∀ n, DrAll K H (List.replicate n v) (List.replicate n d)
  | 0 => .nil
  | n + 1 => by
    rw [List.replicate_succ, List.replicate_succ]
    exact .cons h (DrAll.rep h n)
theorem rep_flat {α : Type} (v : α) : ∀ n, (List.replicate n [v]).flatten = List.replicate n v
  | 0 => rfl
  | n + 1 => by
    rw [List.replicate_succ, List.flatten_cons, rep_flat v n, List.replicate_succ]
    rfl
/-! ### lists of exceptions -/
/-- each with its class and its fields -/
def XVs (H : Hp) (cfs : List (Addr × Option (List (Str × V)))) (es : List V) : Prop := Paired (fun c x => XV H c.1 c.2 x) cfs es
theorem XVs.same {H H' : Hp} (s : Same H H') {cfs : List (Addr × Option (List (Str × V)))} {es : List V} (h : XVs H cfs es) : XVs H' cfs es := Paired.mapP h fun _ _ q => q.same s
theorem XVs.append {H : Hp} : ∀ {cs ds : List (Addr × Option (List (Str × V)))} {es fs : List V}, XVs H cs es → XVs H ds fs → XVs H (cs ++ ds) (es ++ fs)
  | _, _, _, _, .nil, h => h
  | _, _, _, _, .cons a b, h => .cons a (XVs.append b h)
/-- new ones, all with the value that stands in slot j -/
def tX (C : Addr) (f : Str) (j : Nat) : TE := fun σ H Q => ∃ v, σ[j]? = some (some v) ∧ ∀ H' x, Same H H' → XV H' C (some [(f, v)]) x → Q x H'
def one (v : V) (c : Addr × Str) : Addr × Option (List (Str × V)) := (c.1, some [(c.2, v)])
def tXs (cs : List (Addr × Str)) (j : Nat) : TA := fun σ H Q => ∃ v, σ[j]? = some (some v) ∧ ∀ H' es, Same H H' → XVs H' (cs.map (one v)) es → Q es H'
section
variable {X : Cx} {x f : Str} {C : Addr} {e : Expr} {es : List Expr} {p pos kp ap : Pos} {k j : Nat} {cs : List (Addr × Str)} {n : Str}
theorem PA.imp {es : List Expr} {t t' : TA} (h : PA X es t) (k : ∀ σ H Q, t' σ H Q → t σ H Q) : PA X es t' := ⟨fun pos pins s σ H Q I q => h.run pos pins s σ H Q I (k σ H Q q)⟩
theorem pe_x (c : Ex1 X.prog X.w X.K X.mg X.base x C f) (hr : Room k X.A) (hk : 2 ≤ k) (hg : Gl X x) (ha : PE X (.Name n ap) (tVar j)) (hdb : (x == ("__debug__" : Str)) = false := by decide) (he : starEach [.Name n ap] X.env = (false, eval (.Name n ap) X.env) :: starEach [] X.env := by rfl) :
    PE X (.Call (.Name x p) [.Name n ap] [] pos) (tX C f j) :=
  PE.imp (pe_new1 c hr hk hg (pa_cons ha pa_nil (by exact he)) hdb he) fun σ H Q ⟨v, hv, q⟩ => ⟨v, hv, rfl, fun H2 x s h => q H2 x s h⟩
theorem pe_xK (c : Ex1 X.prog X.w X.K X.mg X.base x C f) (hr : Room k X.A) (hk : 2 ≤ k) (hg : Gl X x) (ha : PE X (.Name n ap) (tVar j)) (hdb : (x == ("__debug__" : Str)) = false := by decide) :
    PE X (.Call (.Name x p) [] [⟨some f, .Name n ap, kp⟩] pos) (tX C f j) :=
  PE.imp (pe_new1K c hr hk hg ha hdb) fun σ H Q ⟨v, hv, q⟩ => ⟨v, hv, rfl, fun H2 x s h => q H2 x s h⟩
theorem pa_xs1 (h : PE X e (tX C f j)) (hs : starEach [e] X.env = (false, eval e X.env) :: starEach [] X.env := by rfl) : PA X [e] (tXs [(C, f)] j) :=
  PA.imp (pa_cons h pa_nil hs) fun σ H Q ⟨v, hv, q⟩ => ⟨v, hv, fun H' x s h => q H' [x] s (.cons h .nil)⟩
theorem pa_xs (h : PE X e (tX C f j)) (hr : PA X es (tXs cs j)) (hs : starEach (e :: es) X.env = (false, eval e X.env) :: starEach es X.env := by rfl) : PA X (e :: es) (tXs ((C, f) :: cs) j) :=
  PA.imp (pa_cons h hr hs) fun σ H Q ⟨v, hv, q⟩ => ⟨v, hv, fun H' x s h => ⟨v, hv, fun H2 es s2 hh => q H2 (x :: es) (s.trans s2) (.cons (h.same s2) hh)⟩⟩
/-- a new list of such -/
def tXL (cs : List (Addr × Str)) (j : Nat) : TE := fun σ H Q => ∃ v, σ[j]? = some (some v) ∧ ∀ H' l es, Same H H' → H l = none → H' l = some (.lst es) → XVs H' (cs.map (one v)) es → Q (.ref l) H'
theorem pe_xl (h : PA X es (tXs cs j)) (hz : cs.length ≤ 100) : PE X (.List es pos) (tXL cs j) :=
  PE.imp (pe_lst h) fun σ H Q ⟨v, hv, q⟩ => ⟨v, hv, fun H' es s hh => ⟨by
    have z : (cs.map (one v)).length = es.length := Paired.length hh
    rw [List.length_map] at z
    rw [← z, sizeLine_eq]
    omega, fun l hl => q _ l es (s.trans (same_upd hl)) (s.free hl) upd_same (hh.same (same_upd hl))⟩⟩
end
/-! ### the fields of a list of exceptions -/
def AtV (K : PySem.W.Frag) (H : Hp) (f : Str) (x v : V) : Prop := ∃ C fs, XV H C (some fs) x ∧ ExcC K C ∧ PySem.W.findIn K (.ref C) f = some none ∧ fs.lookup f = some v
theorem AtV.same {K : PySem.W.Frag} {H H' : Hp} {f : Str} {x v : V} (s : Same H H') (h : AtV K H f x v) : AtV K H' f x v := by
  obtain ⟨C, fs, q, r⟩ := h
  exact ⟨C, fs, q.same s, r⟩
abbrev AtVs (K : PySem.W.Frag) (H : Hp) (f : Str) : List V → List V → Prop := Paired (AtV K H f)
theorem paired_get {α β : Type} {F : α → β → Prop} : ∀ {l₁ : List α} {l₂ : List β} {i : Nat} {x : α}, Paired F l₁ l₂ → l₁[i]? = some x → ∃ y, l₂[i]? = some y ∧ F x y
  | _, _, _, _, .nil, e => by simp at e
  | _, _, 0, _, .cons r _, e => by simp at e; subst e; exact ⟨_, rfl, r⟩
  | _, _, i + 1, x, .cons _ t, e => by
    obtain ⟨u, h1, h2⟩ := paired_get (i := i) (x := x) t (by simpa using e)
    exact ⟨u, by simpa using h1, h2⟩
theorem take_step {α : Type} {l : List α} {i : Nat} {x : α} (h : l[i]? = some x) : l.take (i + 1) = l.take i ++ [x] := by
  rw [List.take_succ, h]
  rfl
theorem attrs_end {K : PySem.W.Frag} {a : Addr} {xs vs : List V} {i : Nat} {f : Str} {σ : St} {H1 : Hp} {D : Addr} {Qd : Hp → Prop} (hs : SqL K H1 a xs) (hv : AtVs K H1 f xs vs) (hD : H1 D = none) (hz : xs.length ≤ 1000) (hi : i < σ.length)
    (hd : ∀ H2, Same H1 H2 → H2 D = some (.lst vs) → Qd H2) :
    ∃ W : Nat → Nat → Hp → Prop, (∃ m, W 0 m (upd H1 D (.lst []))) ∧ ∀ k m H, W k m H →
      ((Itl K a).stop k H ∧ Qd H) ∨ ((Itl K a).go k H ∧ ∃ Nx : Hp → Prop, (∀ H', Nx H' → ∃ m', m' < m ∧ W (k + 1) m' H') ∧ ∀ x H', (Itl K a).yld k H x H' → gName i x (wipe σ [i]) H' fun σ2 H2 => wipe σ2 [i] = wipe σ [i] ∧ tYes σ2 H2 fun b H3 =>
        if b = true then tXat K f (tVar i) σ2 H3 fun y H4 => ∃ acc, H4 D = some (.lst acc) ∧ acc.length < sizeLine ∧ Nx (upd H4 D (.lst (acc ++ [y]))) else Nx H3) := by
  have hl : xs.length = vs.length := Paired.length hv
  refine lc_list (K := K) (a := a) (xs := xs) (fun n H => H = upd H1 D (.lst (vs.take n)) ∧ n ≤ vs.length) ⟨by rw [List.take_zero], Nat.zero_le _⟩ (fun n H _ p => ?_) (fun n x H hx p => ?_) (fun H p => ?_)
  · rw [p.1]
    exact (same_upd hD).seq hs
  · obtain ⟨rfl, hn⟩ := p
    obtain ⟨v, hv1, hv2⟩ := paired_get hv hx
    have hn1 : n + 1 ≤ vs.length := (List.getElem?_eq_some_iff.mp hv1).1
    refine ⟨?_, ?_⟩
    · show wipe ((wipe σ [i]).set i (some x)) [i] = wipe σ [i]
      simp only [wipe]
      exact List.ext_getElem? fun m => by
        by_cases hm : m = i
        · subst hm
          simp [List.getElem?_set, wipe]
        · simp [List.getElem?_set, wipe, Ne.symm hm]
    · unfold tYes
      dsimp only
      rw [if_pos rfl]
      obtain ⟨C, fs, q, T, hno, hlk⟩ := hv2.same (same_upd (o := .lst (vs.take n)) hD)
      have hset : ((wipe σ [i]).set i (some x))[i]? = some (some x) := by
        rw [List.getElem?_set_self]
        rw [wipe_length]
        exact hi
      refine ⟨x, hset, C, fs, v, q, T, hno, hlk, vs.take n, upd_same, ?_, ?_, hn1⟩
      · rw [List.length_take, sizeLine_eq]
        omega
      · rw [upd_upd, take_step hv1]
  · obtain ⟨rfl, _⟩ := p
    rw [hl, List.take_length]
    exact hd _ (same_upd hD) upd_same
end Xv

namespace Cr
open PySem PySem.Spec PyProof.Rows L2 Xv
abbrev St := L2.St
/-! ### frames: all but what M names is as it was -/
def Fr (M : Addr → Prop) (H H' : Hp) : Prop := ∀ b o, ¬ M b → H b = some o → H' b = some o
theorem Fr.refl (M : Addr → Prop) (H : Hp) : Fr M H H := fun _ _ _ h => h
theorem Fr.trans {M : Addr → Prop} {H H1 H2 : Hp} (a : Fr M H H1) (b : Fr M H1 H2) : Fr M H H2 := fun c o n h => b c o n (a c o n h)
theorem Fr.mono {M N : Addr → Prop} {H H' : Hp} (a : Fr M H H') (h : ∀ b, M b → N b) : Fr N H H' := fun c o n e => a c o (fun z => n (h c z)) e
theorem Fr.of {M : Addr → Prop} {H H' : Hp} (s : Same H H') : Fr M H H' := fun b o _ h => s b o h
theorem Fr.set {M : Addr → Prop} {H H' : Hp} {p : Addr} {o : HO} (a : Fr M H H') (h : M p) : Fr M H (L2.upd H' p o) := fun c u n e => by
  rw [upd_ne (fun z => n (by rw [z]; exact h))]
  exact a c u n e
theorem Fr.new {M : Addr → Prop} {H H' : Hp} {p : Addr} {o : HO} (a : Fr M H H') (h : H' p = none) : Fr M H (L2.upd H' p o) := a.trans (Fr.of (same_upd h))
theorem Fr.but {p : Addr} {H H' : Hp} (b : But p H H') : Fr (fun q => q = p) H H' := fun c o n h => b c o n h
/-! ### a part of a heap, data that stands in it -/
open Classical in
noncomputable def Vw (S : Addr → Prop) (H : Hp) : Hp := fun b => if S b then H b else none
theorem vw_same (S : Addr → Prop) (H : Hp) : Same (Vw S H) H := fun b o h => by
  unfold Vw at h
  split at h
  · exact h
  · cases h
theorem vw_fr {S M : Addr → Prop} {H H' : Hp} (f : Fr M H H') (d : ∀ b, S b → ¬ M b) : Same (Vw S H) (Vw S H') := fun b o h => by
  unfold Vw at h ⊢
  split at h
  · rename_i s
    rw [if_pos s]
    exact f b o (d b s) h
  · cases h
theorem vw_mono {S T : Addr → Prop} {H : Hp} (d : ∀ b, S b → T b) : Same (Vw S H) (Vw T H) := fun b o h => by
  unfold Vw at h ⊢
  split at h
  · rename_i s
    rw [if_pos (d b s)]
    exact h
  · cases h
theorem vw_at {S : Addr → Prop} {H : Hp} {b : Addr} (h : S b) : Vw S H b = H b := if_pos h
/-! ### data in tracked lists, tuples, dicts -/
mutual
inductive Tr (H : Hp) : V → PyData → Prop
  | non : Tr H .non .none
  | bl (b : Bool) : Tr H (.bl b) (.bool b)
  | int (i : Int) : Tr H (.int i) (.int i)
  | str (x : Str) : Tr H (.str x) (.str x)
  | lst {a : Addr} {xs : List V} {ds : List PyData} : H a = some (.lst xs) → TrAll H xs ds → Tr H (.ref a) (.list ds)
  | tup {a : Addr} {xs : List V} {ds : List PyData} : H a = some (.tup xs) → TrAll H xs ds → Tr H (.ref a) (.tuple ds)
  | dct {a : Addr} {kvs : List (Key × V)} {ps : List (PyData × PyData)} : H a = some (.dK kvs) → TrKv H kvs ps → Tr H (.ref a) (.dict ps)
inductive TrAll (H : Hp) : List V → List PyData → Prop
  | nil : TrAll H [] []
  | cons {v : V} {vs : List V} {d : PyData} {ds : List PyData} : Tr H v d → TrAll H vs ds → TrAll H (v :: vs) (d :: ds)
inductive TrKv (H : Hp) : List (Key × V) → List (PyData × PyData) → Prop
  | nil : TrKv H [] []
  | cons {k : Key} {v : V} {kvs : List (Key × V)} {d : PyData} {ps : List (PyData × PyData)} : Tr H v d → TrKv H kvs ps → TrKv H ((k, v) :: kvs) ((kD k, d) :: ps)
end
mutual
theorem Tr.same {H H' : Hp} (e : Same H H') : ∀ {v : V} {d : PyData}, Tr H v d → Tr H' v d
  | _, _, .non => .non
  | _, _, .bl b => .bl b
  | _, _, .int i => .int i
  | _, _, .str x => .str x
  | _, _, .lst h hs => .lst (e _ _ h) (TrAll.same e hs)
  | _, _, .tup h hs => .tup (e _ _ h) (TrAll.same e hs)
  | _, _, .dct h hs => .dct (e _ _ h) (TrKv.same e hs)
theorem TrAll.same {H H' : Hp} (e : Same H H') : ∀ {vs : List V} {ds : List PyData}, TrAll H vs ds → TrAll H' vs ds
  | _, _, .nil => .nil
  | _, _, .cons h hs => .cons (Tr.same e h) (TrAll.same e hs)
theorem TrKv.same {H H' : Hp} (e : Same H H') : ∀ {vs : List (Key × V)} {ds : List (PyData × PyData)}, TrKv H vs ds → TrKv H' vs ds
  | _, _, .nil => .nil
  | _, _, .cons h hs => .cons (Tr.same e h) (TrKv.same e hs)
end
mutual
theorem Tr.dr {K : PySem.W.Frag} {H : Hp} : ∀ {v : V} {d : PyData}, Tr H v d → Dr K H v d
  | _, _, .non => .non
  | _, _, .bl b => .bl b
  | _, _, .int i => .int i
  | _, _, .str x => .str x
  | _, _, .lst h hs => .lst (SqL.of h) (TrAll.dr hs)
  | _, _, .tup h hs => .tup (.inl (.inl h)) (TrAll.dr hs)
  | _, _, .dct h hs => .dct h (TrKv.dr hs)
theorem TrAll.dr {K : PySem.W.Frag} {H : Hp} : ∀ {vs : List V} {ds : List PyData}, TrAll H vs ds → DrAll K H vs ds
  | _, _, .nil => .nil
  | _, _, .cons h hs => .cons (Tr.dr h) (TrAll.dr hs)
theorem TrKv.dr {K : PySem.W.Frag} {H : Hp} : ∀ {vs : List (Key × V)} {ds : List (PyData × PyData)}, TrKv H vs ds → DrKv K H vs ds
  | _, _, .nil => .nil
  | _, _, .cons h hs => .cons (Tr.dr h) (TrKv.dr hs)
end
/-- v is the data d, and all of it stands within S -/
def Dt (K : PySem.W.Frag) (S : Addr → Prop) (H : Hp) (v : V) (d : PyData) : Prop := Tr (Vw S H) v d
section
variable {K : PySem.W.Frag} {S T M : Addr → Prop} {H H' : Hp} {v : V} {d : PyData}
theorem Dt.tr (h : Dt K S H v d) : Tr H v d := Tr.same (vw_same S H) h
theorem Dt.dr (h : Dt K S H v d) : Dr K H v d := Tr.dr (Tr.same (vw_same S H) h)
theorem Dt.fr (h : Dt K S H v d) (f : Fr M H H') (n : ∀ b, S b → ¬ M b) : Dt K S H' v d := Tr.same (vw_fr f n) h
theorem Dt.keep (h : Dt K S H v d) (s : Same H H') : Dt K S H' v d := Tr.same (vw_fr (M := fun _ => False) (Fr.of s) fun _ _ z => z) h
theorem Dt.mono (h : Dt K S H v d) (n : ∀ b, S b → T b) : Dt K T H v d := Tr.same (vw_mono n) h
end
/-- new between H and H' -/
def Nw (H H' : Hp) : Addr → Prop := fun b => H b = none ∧ H' b ≠ none
theorem Nw.ext {H H1 H2 : Hp} {M : Addr → Prop} {b : Addr} (h : Nw H H1 b) (f : Fr M H1 H2) (n : ¬ M b) : Nw H H2 b := by
  refine ⟨h.1, ?_⟩
  obtain ⟨o, e⟩ := Option.ne_none_iff_exists'.mp h.2
  rw [f b o n e]
  simp
/-! ### len, by a name that does not hang on the place -/
def rLn (K : PySem.W.Frag) : List V → Hp → VK → Prop := fun xs H Q => ∃ p ys, xs = [.ref p] ∧ (SqL K H p ys ∨ SqT K H p ys) ∧ Q (.int ys.length) H
theorem call_ln {X : Cx} : CallR X (.builtin "len") (rLn X.K) := call_len_seq
theorem at_i {xs : List V} {n : Nat} {x : V} (h : xs[n]? = some x) : atI xs (n : Int) = some x := by
  have hn := (List.getElem?_eq_some_iff.mp h).1
  unfold atI ixN
  rw [if_pos (by omega), if_pos (by omega)]
  exact h
theorem wipe_back {σ : St} {i : Nat} {v : Option V} : wipe ((wipe σ [i]).set i v) [i] = wipe σ [i] := by
  simp only [wipe]
  exact List.ext_getElem? fun m => by
    by_cases hm : m = i
    · subst hm
      simp [List.getElem?_set, wipe]
    · simp [List.getElem?_set, wipe, Ne.symm hm]
theorem pot_same {H H' : Hp} {p : Addr} (h : Pot H p) (s : Same H H') : Pot H' p := by
  obtain ⟨a, b, e, r⟩ := h
  exact ⟨a, b, s _ _ e, r⟩
theorem pot_but {H H' : Hp} {p q : Addr} (h : Pot H q) (n : q ≠ p) (s : But p H H') : Pot H' q := by
  obtain ⟨a, b, e, r⟩ := h
  exact ⟨a, b, s _ _ n e, r⟩
theorem pot_ne {H : Hp} {p q : Addr} (h : Pot H p) (n : H q = none) : p ≠ q := fun z => by
  obtain ⟨a, b, e, _⟩ := h
  rw [z, n] at e
  cases e
theorem pot_upd {H : Hp} {p q : Addr} {o : HO} (h : Pot H p) (n : p ≠ q) : Pot (upd H q o) p := by
  obtain ⟨a, b, e, r⟩ := h
  exact ⟨a, b, by rw [upd_ne n]; exact e, r⟩
/-- a list that is new since H may be written -/
theorem but_new {p q : Addr} {H H' : Hp} {o : HO} (b : But p H H') (n : H q = none) : But p H (L2.upd H' q o) := fun c u ne e => by
  rw [upd_ne (ne_of_none e n)]
  exact b c u ne e
def rInt1 : List V → Hp → VK → Prop := fun xs H Q => (∃ i, xs = [.int i] ∧ Q (.int i) H) ∨ ∃ k, xs = [.bl k] ∧ Q (.int (if k then 1 else 0)) H
theorem call_i1 {X : Cx} : CallR X (.type "int") rInt1 := call_int1
def rMin2 : List V → Hp → VK → Prop := fun xs H Q => ∃ i j, xs = [.int i, .int j] ∧ Q (.int (if j < i then j else i)) H
theorem call_m2 {X : Cx} (hc : X.calm = true) : CallR X (.builtin "min") rMin2 := call_min2 hc
/-! ### tables and names -/
abbrev Rw := List (Int × Int)
def rowD (r : Rw) : PyData := .list (r.map fun e => .tuple [.int e.1, .int e.2])
def rowsD (rs : List Rw) : PyData := .list (rs.map rowD)
def namesD (ns : List Str) : PyData := .list (ns.map .str)
def modelD (ns : List Str) (rs : List Rw) : PyData := .dict [(.str "deeds", namesD ns), (.str "rows", rowsD rs)]
/-- a name: one to eight letters -/
def Nm (x : Str) : Prop := 1 ≤ x.length ∧ x.length ≤ 8 ∧ ∀ c ∈ x.cps.toList, 97 ≤ c ∧ c < 123
/-- a right table for so many states and deeds -/
def Tb (size many : Nat) (rs : List Rw) : Prop := rs.length = size ∧ ∀ r ∈ rs, r.length = many ∧ ∀ e ∈ r, (0 ≤ e.1 ∧ e.1 < 10) ∧ (0 ≤ e.2 ∧ e.2 < (size : Int))
end Cr

namespace Cr
open PySem PySem.Spec PyProof.Rows L2 Xv TL
/-! ### letters and names -/
def sgn : Str := "abcdefghijklmnopqrstuvwxyz"
theorem sgn_list : sgn.cps.toList = List.range' 97 26 := by decide +kernel
theorem sgn_len : sgn.length = 26 := by decide +kernel
def ch (c : Nat) : Str := ⟨#[c]⟩
theorem tl_ch (c : Nat) : tl (ch c) = [c] := rfl
theorem joinL_nil : ∀ ps : List (List Nat), joinL [] ps = ps.flatten
  | [] => rfl
  | [p] => by simp [joinL]
  | p :: q :: r => by
    rw [joinL, joinL_nil (q :: r), List.nil_append]
    rfl
theorem tl_chs (cs : List Nat) : tl (Txt.join "" (cs.map ch)) = cs := by
  rw [join_eq, tl_join, show tl ("" : Str) = [] from by decide +kernel, joinL_nil, List.map_map]
  induction cs with
  | nil => rfl
  | cons c r ih =>
    rw [List.map_cons, List.flatten_cons, ih]
    rfl
theorem nm_chs {cs : List Nat} (h1 : 1 ≤ cs.length) (h2 : cs.length ≤ 8) (h : ∀ c ∈ cs, 97 ≤ c ∧ c < 123) : Nm (Txt.join "" (cs.map ch)) := by
  refine ⟨?_, ?_, ?_⟩
  · rw [len_tl, tl_chs]
    exact h1
  · rw [len_tl, tl_chs]
    exact h2
  · show ∀ c ∈ tl _, _
    rw [tl_chs]
    exact h
theorem tl_cut7 (w : Str) : tl (cutS w none (some 7)) = (tl w).take 7 := by
  show (((w.cps.toList.drop (HT.sIx w.length 0 none)).take (HT.sIx w.length w.length (some ((7 : Nat) : Int)) - HT.sIx w.length 0 none)).toArray).toList = _
  rw [HT.sIx_none, HT.sIx_nat]
  show List.take (min 7 w.length - 0) (tl w) = _
  rw [len_tl, Nat.sub_zero]
  by_cases h : 7 ≤ (tl w).length
  · rw [Nat.min_eq_left h]
  · rw [Nat.min_eq_right (by omega), List.take_of_length_le (Nat.le_refl _), List.take_of_length_le (by omega)]
def nx7 (w : Str) (c : Nat) : Str := cutS w none (some 7) ++ ch c
theorem tl_nx (w : Str) (c : Nat) : tl (nx7 w c) = (tl w).take 7 ++ [c] := by
  unfold nx7
  rw [tl_append, tl_cut7, tl_ch]
theorem nm_nx {w : Str} {c : Nat} (h : Nm w) (hc : 97 ≤ c ∧ c < 123) : Nm (nx7 w c) := by
  refine ⟨?_, ?_, ?_⟩
  · rw [len_tl, tl_nx, List.length_append]
    simp
  · rw [len_tl, tl_nx, List.length_append, List.length_take]
    simp
    omega
  · show ∀ d ∈ tl _, _
    rw [tl_nx]
    intro d hd
    rcases List.mem_append.mp hd with z | z
    · exact h.2.2 d (List.mem_of_mem_take z)
    · rw [List.mem_singleton.mp z]
      exact hc
theorem nx_inj {w : Str} {c d : Nat} (h : nx7 w c = nx7 w d) : c = d := by
  have e := congrArg tl h
  rw [tl_nx, tl_nx] at e
  have := List.append_cancel_left e
  simpa using this
theorem nodup_len {α : Type} [DecidableEq α] : ∀ {l m : List α}, l.Nodup → (∀ x ∈ l, x ∈ m) → l.length ≤ m.length
  | [], _, _, _ => Nat.zero_le _
  | x :: l, m, h, s => by
    obtain ⟨h1, h2⟩ := List.nodup_cons.mp h
    have hx := s x List.mem_cons_self
    have := nodup_len (l := l) (m := m.erase x) h2 fun y hy => (List.mem_erase_of_ne (fun e => h1 (by rw [← e]; exact hy))).mpr (s y (List.mem_cons_of_mem _ hy))
    rw [List.length_erase_of_mem hx] at this
    have hp := List.length_pos_of_mem hx
    rw [List.length_cons]
    omega
/-- the words that are looked at, in their sequence -/
def near (w : Str) : List Str := w :: (List.range' 97 26).map (nx7 w)
theorem near_nm {w : Str} (h : Nm w) : ∀ x ∈ near w, Nm x := fun x hx => by
  rcases List.mem_cons.mp hx with rfl | hx
  · exact h
  · obtain ⟨c, hc, rfl⟩ := List.mem_map.mp hx
    rw [List.mem_range'_1] at hc
    exact nm_nx h (by omega)
theorem near_free (w : Str) (found : List Str) (hl : found.length < 26) : (near w).filter (fun x => !found.contains x) ≠ [] := fun e => by
  have nd : ((List.range' 97 26).map (nx7 w)).Nodup := by
    refine List.Pairwise.map (R := fun a b : Nat => a ≠ b) _ (fun a b h e => h (nx_inj e)) ?_
    exact List.nodup_range'
  have := nodup_len nd (m := found) fun x hx => by
    have hm : x ∈ near w := List.mem_cons_of_mem _ hx
    have z : x ∉ (near w).filter (fun x => !found.contains x) := by rw [e]; simp
    rw [List.mem_filter] at z
    have z2 : ¬ (!found.contains x) = true := fun q => z ⟨hm, q⟩
    simpa using z2
  rw [List.length_map, List.length_range'] at this
  omega
end Cr

namespace Cr
open PySem PySem.Spec PyProof.Rows L2 Xv
section
variable {K : PySem.W.Frag}
theorem pr_app {α β : Type} {F : α → β → Prop} : ∀ {a c : List α} {b d : List β}, Paired F a b → Paired F c d → Paired F (a ++ c) (b ++ d)
  | _, _, _, _, .nil, h => h
  | _, _, _, _, .cons h t, k => .cons h (pr_app t k)
theorem pr_mem {α β : Type} {F : α → β → Prop} {x : α} : ∀ {a : List α} {b : List β}, Paired F a b → x ∈ a → ∃ y, F x y
  | _, _, .nil, h => by cases h
  | _, _, .cons h t, k => by
    rcases List.mem_cons.mp k with rfl | k
    · exact ⟨_, h⟩
    · exact pr_mem t k
theorem pr_map {α β : Type} {F G : α → β → Prop} : ∀ {a : List α} {b : List β}, Paired F a b → (∀ x y, x ∈ a → F x y → G x y) → Paired G a b
  | _, _, .nil, _ => .nil
  | _, _, .cons h t, k => .cons (k _ _ List.mem_cons_self h) (pr_map t fun x y hx => k x y (List.mem_cons_of_mem _ hx))
/-- the rows of a table, made by a list in a list: the states in slot i1, the deeds in slot i2 -/
theorem rows_lc {ta : TA} {size many i1 i2 j1 j2 : Nat} {σ : L2.St} {H1 : Hp} {p : Addr} {Q : VK} (hP : Pot H1 p) (h1 : σ[j1]? = some (some (.int size))) (h2 : ∀ v, ((wipe σ [i1]).set i1 v)[j2]? = some (some (.int many))) (hs : size ≤ 1000) (hm : many ≤ 1000)
    (he : ∀ i j H Q, i < size → j < many → Pot H p → (∀ H' a n, But p H H' → Pot H' p → (0 ≤ a ∧ a < 10) → (0 ≤ n ∧ n < (size : Int)) → Q [V.int a, V.int n] H') → ta ((wipe ((wipe σ [i1]).set i1 (some (.int (0 + (i : Int))))) [i2]).set i2 (some (.int (0 + (j : Int))))) H Q)
    (k : ∀ H' l rs S, But p H1 H' → Pot H' p → (∀ b, S b → Nw H1 H' b) → Dt K S H' (.ref l) (rowsD rs) → Tb size many rs → Q (.ref l) H') :
    tLc (iRng1 (tCons (tVar j1) tNil)) (gName i1) tYes (tLc (iRng1 (tCons (tVar j2) tNil)) (gName i2) tYes (tTup ta) [i2]) [i1] σ H1 Q := by
  refine ⟨_, h1, size, rfl, by omega, by omega, fun D hD => ?_⟩
  have npD : p ≠ D := pot_ne hP hD
  refine lc_range (lo := 0) (n := size) (fun i H' => ∃ (ls : List Addr) (rs : List Rw) (S : Addr → Prop), rs.length = i ∧ H' D = some (.lst (ls.map V.ref)) ∧ But p H1 H' ∧ Pot H' p ∧ (∀ b, S b → Nw H1 H' b ∧ b ≠ D) ∧ Paired (fun l r => Dt K S H' (.ref l) (rowD r)) ls rs ∧ ∀ r ∈ rs, r.length = many ∧ ∀ e ∈ r, (0 ≤ e.1 ∧ e.1 < 10) ∧ (0 ≤ e.2 ∧ e.2 < (size : Int)))
    ⟨[], [], fun _ => False, rfl, upd_same, Same.but (same_upd hD), pot_same hP (same_upd hD), fun _ z => z.elim, .nil, by simp⟩ (fun i H2 hi hp => ?_) (fun H2 hp => ?_)
  · obtain ⟨ls, rs, S, r1, r2, r3, P2, r5, r6, r7⟩ := hp
    refine ⟨wipe_back, ?_⟩
    unfold tYes
    dsimp only
    rw [if_pos rfl]
    refine ⟨_, h2 _, many, rfl, by omega, by omega, fun D2 hD2 => ?_⟩
    have npD2 : p ≠ D2 := pot_ne P2 hD2
    have nDD : D ≠ D2 := ne_of_none r2 hD2
    refine lc_range (lo := 0) (n := many) (g := gName i2) (tt := tYes) (te := tTup ta) (vs := [i2]) (fun j H' => ∃ (ts : List Addr) (r : Rw), r.length = j ∧ H' D2 = some (.lst (ts.map V.ref)) ∧ But p H2 H' ∧ Pot H' p ∧ (∀ t ∈ ts, H2 t = none ∧ t ≠ D2) ∧ Paired (fun t (e : Int × Int) => H' t = some (.tup [.int e.1, .int e.2])) ts r ∧ ∀ e ∈ r, (0 ≤ e.1 ∧ e.1 < 10) ∧ (0 ≤ e.2 ∧ e.2 < (size : Int)))
      ⟨[], [], rfl, upd_same, Same.but (same_upd hD2), pot_same P2 (same_upd hD2), by simp, .nil, by simp⟩ (fun j H3 hj hp => ?_) (fun H3 hp => ?_)
    · obtain ⟨ts, r, t1, t2, t3, P3, t5, t6, t7⟩ := hp
      refine ⟨wipe_back, ?_⟩
      unfold tYes
      dsimp only
      rw [if_pos rfl]
      refine he i j H3 _ hi hj P3 fun H4 a n b4 P4 ba bn => ⟨by show 2 ≤ sizeLine; decide, fun t nt => ?_⟩
      have ntD2 : D2 ≠ t := ne_of_none (b4 _ _ npD2.symm t2) nt
      have nt2 : H2 t = none := by
        cases e : H2 t with
        | none => rfl
        | some o =>
          have : t ≠ p := (pot_ne P4 nt).symm
          rw [(t3.trans b4) _ _ this e] at nt
          cases nt
      have keep : ∀ s o, s ≠ p → s ≠ D2 → H3 s = some o → upd (upd H4 t (.tup [.int a, .int n])) D2 (.lst (ts.map V.ref ++ [V.ref t])) s = some o := fun s o np n2 e => by
        rw [upd_ne n2, upd_ne (ne_of_none (b4 _ _ np e) nt)]
        exact b4 _ _ np e
      refine ⟨_, by rw [upd_ne ntD2]; exact b4 _ _ npD2.symm t2, ?_, ts ++ [t], r ++ [(a, n)], by rw [List.length_append, t1]; rfl, by rw [upd_same, List.map_append]; rfl, but_new ((t3.trans b4).trans (Same.but (same_upd nt))) hD2, pot_upd (pot_same P4 (same_upd nt)) npD2, ?_, ?_, ?_⟩
      · have : ts.length = r.length := Paired.length t6
        rw [List.length_map, sizeLine_eq]
        omega
      · intro s hs'
        rcases List.mem_append.mp hs' with z | z
        · exact t5 s z
        · rw [List.mem_singleton.mp z]
          exact ⟨nt2, ntD2.symm⟩
      · refine pr_app (pr_map t6 fun s e hs' q => ?_) (.cons ?_ .nil)
        · obtain ⟨z1, z2⟩ := t5 s hs'
          refine keep s _ (fun z => ?_) z2 q
          obtain ⟨x, y, e, _⟩ := P2
          rw [← z, z1] at e
          cases e
        · rw [upd_ne ntD2.symm, upd_same]
      · intro e he'
        rcases List.mem_append.mp he' with z | z
        · exact t7 e z
        · rw [List.mem_singleton.mp z]
          exact ⟨ba, bn⟩
    · obtain ⟨ts, r, t1, t2, t3, P3, t5, t6, t7⟩ := hp
      have np : ∀ b, H1 b = none → b ≠ p := fun b e z => by
        obtain ⟨x, y, q, _⟩ := hP
        rw [← z, e] at q
        cases q
      have np2 : ∀ b, H2 b = none → b ≠ p := fun b e z => by
        obtain ⟨x, y, q, _⟩ := P2
        rw [← z, e] at q
        cases q
      have nD2 : ∀ b, H2 b = none → b ≠ D := fun b e z => by
        rw [z, r2] at e
        cases e
      have n12 : ∀ b, H2 b = none → H1 b = none := fun b e => by
        cases q : H1 b with
        | none => rfl
        | some o =>
          rw [r3 _ _ (np2 b e) q] at e
          cases e
      refine ⟨_, t3 _ _ npD.symm r2, ?_, ls ++ [D2], rs ++ [r], fun b => S b ∨ b = D2 ∨ b ∈ ts, by rw [List.length_append, r1]; rfl, by rw [upd_same, List.map_append]; rfl, but_new (r3.trans t3) hD, pot_upd P3 npD, ?_, ?_, ?_⟩
      · have : ls.length = rs.length := Paired.length r6
        rw [List.length_map, sizeLine_eq]
        omega
      · intro b hb
        rcases hb with z | z | z
        · obtain ⟨⟨z1, z2⟩, z3⟩ := r5 b z
          refine ⟨⟨z1, ?_⟩, z3⟩
          obtain ⟨o, e⟩ := Option.ne_none_iff_exists'.mp z2
          rw [upd_ne z3, t3 _ _ (np b z1) e]
          simp
        · subst z
          refine ⟨⟨n12 _ hD2, ?_⟩, nDD.symm⟩
          rw [upd_ne nDD.symm, t2]
          simp
        · have z1 := (t5 b z).1
          refine ⟨⟨n12 _ z1, ?_⟩, nD2 b z1⟩
          obtain ⟨e, q⟩ := pr_mem t6 z
          rw [upd_ne (nD2 b z1), q]
          simp
      · have fr : Fr (fun b => b = p ∨ b = D) H2 (upd H3 D (.lst (ls.map V.ref ++ [V.ref D2]))) := fun b o n e => by
          rw [upd_ne (fun z => n (.inr z))]
          exact t3 _ _ (fun z => n (.inl z)) e
        refine pr_app (pr_map r6 fun l q _ d => Dt.mono (d.fr fr fun b hb => ?_) fun b hb => .inl hb) (.cons ?_ .nil)
        · obtain ⟨⟨z1, _⟩, z3⟩ := r5 b hb
          rintro (z | z)
          · exact np b z1 z
          · exact z3 z
        · have at_ : ∀ b, (b = D2 ∨ b ∈ ts) → b ≠ D → ∀ o, H3 b = some o → Vw (fun b => S b ∨ b = D2 ∨ b ∈ ts) (upd H3 D (.lst (ls.map V.ref ++ [V.ref D2]))) b = some o := fun b hb n o e => by
            rw [vw_at (.inr hb), upd_ne n]
            exact e
          refine .lst ((at_ D2 (.inl rfl) nDD.symm _ t2)) ?_
          clear r6 r7 t7
          have all : ∀ {us : List Addr} {q : Rw}, (∀ t ∈ us, t ∈ ts) → Paired (fun t (e : Int × Int) => H3 t = some (.tup [.int e.1, .int e.2])) us q → TrAll (Vw (fun b => S b ∨ b = D2 ∨ b ∈ ts) (upd H3 D (.lst (ls.map V.ref ++ [V.ref D2])))) (us.map V.ref) (q.map fun e => .tuple [.int e.1, .int e.2]) := fun {us q} hm hq => by
            induction hq with
            | nil => exact .nil
            | cons h _ ih =>
              refine .cons (.tup (((at_ _ (.inr (hm _ List.mem_cons_self)) (nD2 _ (t5 _ (hm _ List.mem_cons_self)).1) _ h))) (.cons (.int _) (.cons (.int _) .nil))) (ih fun t ht => hm t (List.mem_cons_of_mem _ ht))
          exact all (fun _ h => h) t6
      · intro q hq
        rcases List.mem_append.mp hq with z | z
        · exact r7 q z
        · rw [List.mem_singleton.mp z]
          exact ⟨t1, t7⟩
  · obtain ⟨ls, rs, S, r1, r2, r3, P2, r5, r6, r7⟩ := hp
    refine k H2 D rs (fun b => S b ∨ b = D) r3 P2 (fun b hb => ?_) ?_ ⟨r1, r7⟩
    · rcases hb with z | z
      · exact (r5 b z).1
      · subst z
        exact ⟨hD, by rw [r2]; simp⟩
    · refine .lst ((by rw [vw_at (.inr rfl)]; exact r2)) ?_
      have all : ∀ {us : List Addr} {q : List Rw}, Paired (fun l r => Dt K S H2 (.ref l) (rowD r)) us q → TrAll (Vw (fun b => S b ∨ b = D) H2) (us.map V.ref) (q.map rowD) := fun {us q} hq => by
        induction hq with
        | nil => exact .nil
        | cons h _ ih => exact .cons (Dt.mono h fun b hb => .inl hb) ih
      exact all r6
end
end Cr


namespace K11
open PySem PySem.Spec PyProof.Rows L2 Xv Cr TL
abbrev pr : Program := PySem.Challenge.pw_settlesfirst_k11_things_refused
def top (i : Nat) : Stmt := pr.main.body.getD i (.Pass ⟨0, 0, 0, 0⟩)
/-- the names of builtins stand for them -/
structure Bl (mg : Str → Option Value) : Prop where
  len : mg "len" = none
  abs : mg "abs" = none
  max : mg "max" = none
  min : mg "min" = none
  int : mg "int" = none
  divmod : mg "divmod" = none
  repr : mg "repr" = none
  isinstance : mg "isinstance" = none
  enumerate : mg "enumerate" = none
  range : mg "range" = none
  all : mg "all" = none
  list : mg "list" = none
  tuple : mg "tuple" = none
  set : mg "set" = none
  str : mg "str" = none
  bool : mg "bool" = none
  ValueError : mg "ValueError" = none
/-! ### what each helper does -/
def spPot (K : PySem.W.Frag) : Sp := fun vs H Q _ => ∃ (a : Addr) (ns : List Int) (k : Nat), vs = [.ref a, .int k] ∧ SqL K H a (ns.map V.int) ∧ k < 64 ∧ ∀ H' p, Same H H' → H p = none → Pot H' p → Q (.ref p) H'
def spDraw : Sp := fun vs H Q _ => ∃ (p : Addr) (n : Int), vs = [.ref p, .int n] ∧ Pot H p ∧ 0 < n ∧ n < 1073741824 ∧ ∀ H' (d : Int), But p H H' → Pot H' p → 0 ≤ d → d < n → Q (.int d) H'
/-- out of a list, or a sign of a text -/
def spPick : Sp := fun vs H Q _ => ∃ (p : Addr) (y : V), vs = [.ref p, y] ∧ Pot H p ∧
  ((∃ (l : Addr) (xs : List V), y = .ref l ∧ l ≠ p ∧ H l = some (.lst xs) ∧ 0 < xs.length ∧ xs.length < 1000 ∧ ∀ H' (i : Nat) x, xs[i]? = some x → But p H H' → Pot H' p → Q x H') ∨
    ∃ z : Str, y = .str z ∧ 0 < z.length ∧ z.length < 1000 ∧ ∀ H' c, c ∈ z.cps.toList → But p H H' → Pot H' p → Q (.str (ch c)) H')
def spNames : Sp := fun vs H Q _ => ∃ (p : Addr) (n : Nat), vs = [.ref p, .int n] ∧ Pot H p ∧ n ≤ 20 ∧ ∀ H' l (ns : List Str), But p H H' → Pot H' p → H l = none → H' l = some (.lst (ns.map V.str)) → ns.length = n → ns.Nodup → (∀ x ∈ ns, Nm x) → Q (.ref l) H'
def spTable (K : PySem.W.Frag) : Sp := fun vs H Q _ => ∃ (p : Addr) (size many : Nat), vs = [.ref p, .int size, .int many] ∧ Pot H p ∧ 0 < size ∧ size ≤ 10 ∧ many ≤ 20 ∧ ∀ H' v rs S, But p H H' → Pot H' p → (∀ b, S b → Nw H H' b) → Dt K S H' v (rowsD rs) → Tb size many rs → Q v H'
def spModel (K : PySem.W.Frag) : Sp := fun vs H Q _ => ∃ (p : Addr) (ms md : Nat), vs = [.ref p, .int ms, .int md] ∧ Pot H p ∧ 0 < ms ∧ ms ≤ 9 ∧ 0 < md ∧ md ≤ 15 ∧ ∀ H' m (ns : List Str) (rs : List Rw) (size many : Nat) S, But p H H' → Pot H' p → (∀ b, S b → Nw H H' b) → Dt K S H' (.ref m) (modelD ns rs) → (1 ≤ size ∧ size ≤ ms) → (1 ≤ many ∧ many ≤ md) → ns.length = many → ns.Nodup → (∀ x ∈ ns, Nm x) → Tb size many rs → Q (.ref m) H'
abbrev s_pot : Stmt := top 37
abbrev N_pot : List Str := ["_law_script", "_law_k", "_law_cell"]
theorem sc_pot : FnScope N_pot ["_law_script", "_law_k"] (defScope s_pot) := ⟨rfl, rfl, rfl, by decide +kernel, rfl, by decide +kernel, by decide +kernel⟩
abbrev s_draw : Stmt := top 38
abbrev N_draw : List Str := ["_law_pot_here", "_law_many", "_law_digit"]
theorem sc_draw : FnScope N_draw ["_law_pot_here", "_law_many"] (defScope s_draw) := ⟨rfl, rfl, rfl, by decide +kernel, rfl, by decide +kernel, by decide +kernel⟩
abbrev s_pick : Stmt := top 39
abbrev N_pick : List Str := ["_law_pot_here", "_law_some"]
theorem sc_pick : FnScope N_pick ["_law_pot_here", "_law_some"] (defScope s_pick) := ⟨rfl, rfl, rfl, by decide +kernel, rfl, by decide +kernel, by decide +kernel⟩
abbrev s_names : Stmt := top 40
abbrev N_names : List Str := ["_law_pot_here", "_law_size", "_law_signs", "_law_found", "_law_turn", "_law_word", "_law_spot", "_law_near", "_law_sign", "_law_one"]
theorem sc_names : FnScope N_names ["_law_pot_here", "_law_size"] (defScope s_names) := ⟨rfl, rfl, rfl, by decide +kernel, rfl, by decide +kernel, by decide +kernel⟩
abbrev s_table : Stmt := top 41
abbrev N_table : List Str := ["_law_pot_here", "_law_size", "_law_many", "_law_way", "_law_top", "_law_last", "_law_state", "_law_place"]
theorem sc_table : FnScope N_table ["_law_pot_here", "_law_size", "_law_many"] (defScope s_table) := ⟨rfl, rfl, rfl, by decide +kernel, rfl, by decide +kernel, by decide +kernel⟩
abbrev s_model : Stmt := top 42
abbrev N_model : List Str := ["_law_pot_here", "_law_most_states", "_law_most_deeds", "_law_size", "_law_many"]
theorem sc_model : FnScope N_model ["_law_pot_here", "_law_most_states", "_law_most_deeds"] (defScope s_model) := ⟨rfl, rfl, rfl, by decide +kernel, rfl, by decide +kernel, by decide +kernel⟩
section
variable {P : Program} {w : World} {K : PySem.W.Frag} {mg : Str → Option Value} {base : Heap}
theorem ok_pot {f : Addr} {fd : FuncData} (F : Fun K "_law_pot" "_law_pot" s_pot f fd) (T : Bl mg) : FnOk P w K mg base CX0 1 f fd ["_law_script", "_law_k"] (spPot K) := by
  refine F.ok sc_pot (fun vs H Q E h => ?_) (fun cdv A outer s H vs Q E hr h => ?_)
  · obtain ⟨a, ns, k, rfl, _⟩ := h
    rfl
  · obtain ⟨a, ns, k, rfl, hS, hk, q⟩ := h
    refine ⟨_, (pss_cons (ps_set (i := 2) sc_pot.nd rfl (Or.inl rfl) (pe_op op_add (pe_op op_mul pe_int (pv 1)) pe_int))
  (pss_cons (ps_if (pt_cmpR op_lt (pv 1) (pe_callB (id := "len") (call_ln) (by rfl) T.len (by decide +kernel) (pa_cons (pv 0) pa_nil)) (nomark _)) (pss_one (ps_set (i := 2) sc_pot.nd rfl (Or.inl rfl) (pe_callB (id := "abs") call_abs (by rfl) T.abs (by decide +kernel) (pa_cons (pe_ix ix_list (pv 0) (pv 1) (fun _ _ => rfl)) pa_nil)))) pss_nil)
  (pss_one (ps_ret (pe_lst (pa_cons (pe_callB (id := "max") (call_max2 rfl) (by rfl) T.max (by decide +kernel) (pa_cons pe_int (pa_cons (pe_op op_sub (pv 2) (pe_op op_pow pe_int pe_int)) pa_nil))) (pa_cons (pe_op op_add (pe_op op_mod (pe_callTy (T := "int") call_i1 (by rfl) T.int (by decide +kernel) (pa_cons (pe_op op_add (pe_op op_add (pe_op op_mul (pe_op op_mod (pe_callTy (T := "int") call_i1 (by rfl) T.int (by decide +kernel) (pa_cons (pv 2) pa_nil)) pe_int) pe_int) (pe_op op_mul pe_int (pv 1))) pe_int) pa_nil)) pe_int) pe_int) pa_nil))))))), ?_⟩
    have step : ∀ (c : Int), 0 ≤ c % 2147483543 + 1 ∧ c % 2147483543 + 1 < 4294967296 := fun c => by omega
    have step0 : ∀ (c : Int), 0 ≤ (if c > 0 then c else 0) := fun c => by split <;> omega
    refine ⟨_, rfl, _, _, rfl, rfl, .inl ⟨by decide, by decide⟩, _, _, rfl, rfl, ?_⟩
    refine ⟨_, rfl, _, rfl, _, _, rfl, .inl hS, _, _, rfl, rfl, _, rfl, ?_⟩
    refine ite2 (fun hlt => ?_) (fun _ => ?_)
    · have hlt' : k < (ns.map V.int).length := by
        have := of_decide_eq_true hlt
        omega
      have hat : atI (ns.map V.int) (k : Int) = some (V.int (ns[k]'(by simpa using hlt'))) := by
        unfold atI ixN
        rw [if_pos (by omega), if_pos (by omega)]
        simp at hlt' ⊢
      refine ⟨_, rfl, _, rfl, _, _, _, _, rfl, rfl, hS, hat, _, rfl, ?_⟩
      refine ⟨_, rfl, _, _, rfl, rfl, ⟨by decide, by decide, by decide⟩, _, _, rfl, rfl, _, _, rfl, ?_⟩
      refine ⟨_, rfl, .inl ⟨_, rfl, _, _, rfl, rfl, (show (0 : Int) < 2147483563 by decide), _, _, rfl, rfl, .inr ⟨by decide, by decide⟩, _, rfl, _, _, rfl, rfl, .inl ⟨by decide, by decide⟩, _, _, rfl, rfl, _, _, rfl, rfl, .inl ⟨_, rfl, _, _, rfl, rfl, (show (0 : Int) < 2147483543 by decide), _, _, rfl, rfl, ?_⟩⟩⟩
      exact ⟨by show 2 ≤ sizeLine; decide, fun p hp => q _ p (same_upd hp) hp ⟨_, _, upd_same, step0 _, (step _).1, (step _).2⟩⟩
    · refine ⟨_, rfl, _, _, rfl, rfl, ⟨by decide, by decide, by decide⟩, _, _, rfl, rfl, _, _, rfl, ?_⟩
      refine ⟨_, rfl, .inl ⟨_, rfl, _, _, rfl, rfl, (show (0 : Int) < 2147483563 by decide), _, _, rfl, rfl, .inr ⟨by decide, by decide⟩, _, rfl, _, _, rfl, rfl, .inl ⟨by decide, by decide⟩, _, _, rfl, rfl, _, _, rfl, rfl, .inl ⟨_, rfl, _, _, rfl, rfl, (show (0 : Int) < 2147483543 by decide), _, _, rfl, rfl, ?_⟩⟩⟩
      exact ⟨by show 2 ≤ sizeLine; decide, fun p hp => q _ p (same_upd hp) hp ⟨_, _, upd_same, step0 _, (step _).1, (step _).2⟩⟩
theorem ok_draw {f : Addr} {fd : FuncData} (F : Fun K "_law_draw" "_law_draw" s_draw f fd) (T : Bl mg) : FnOk P w K mg base CX0 1 f fd ["_law_pot_here", "_law_many"] spDraw := by
  refine F.ok sc_draw (fun vs H Q E h => ?_) (fun cdv A outer s H vs Q E hr h => ?_)
  · obtain ⟨p, n, rfl, _⟩ := h
    rfl
  · obtain ⟨p, n, rfl, ⟨a, b, hp, ha, hb, hb2⟩, hn, hn2, q⟩ := h
    refine ⟨_, (pss_cons (ps_if (pt_cmpR op_gt (pe_ix ix_list (pv 0) pe_int (fun _ _ => rfl)) pe_int (nomark _)) (pss_cons (ps_asg (pe_callB (id := "divmod") call_divmod (by rfl) T.divmod (by decide +kernel) (pa_cons (pe_ix ix_list (pv 0) pe_int (fun _ _ => rfl)) (pa_cons (pv 1) pa_nil))) (pg_tup rfl (pgs_cons (pg_sub (pv 0) pe_int set_list) (pgs_cons (pg_name (i := 2) sc_draw.nd rfl (Or.inl rfl)) pgs_nil))))
  (pss_one (ps_ret (pv 2)))) pss_nil)
  (pss_cons (ps_asg (pe_op op_mod (pe_callTy (T := "int") call_i1 (by rfl) T.int (by decide +kernel) (pa_cons (pe_op op_add (pe_op op_mul (pe_ix ix_list (pv 0) pe_int (fun _ _ => rfl)) pe_int) pe_int) pa_nil)) pe_int) (pg_sub (pv 0) pe_int set_list))
  (pss_one (ps_ret (pe_op op_mod (pe_callTy (T := "int") call_i1 (by rfl) T.int (by decide +kernel) (pa_cons (pe_op op_fdiv (pe_op op_mod (pe_callTy (T := "int") call_i1 (by rfl) T.int (by decide +kernel) (pa_cons (pe_op op_mul (pe_ix ix_list (pv 0) pe_int (fun _ _ => rfl)) (pe_ix ix_list (pv 0) pe_int (fun _ _ => rfl))) pa_nil)) pe_int) pe_int) pa_nil)) (pv 1)))))), ?_⟩
    have dm := Int.emod_nonneg a (show n ≠ 0 by omega)
    refine ⟨_, rfl, _, _, _, _, rfl, rfl, SqL.of hp, rfl, _, _, rfl, rfl, _, rfl, ?_⟩
    refine ite2 (fun _ => ?_) (fun _ => ?_)
    · refine ⟨_, rfl, _, _, _, _, rfl, rfl, SqL.of hp, rfl, _, rfl, _, _, rfl, ⟨hn, hn2⟩, fun t ht => ?_⟩
      have npt : p ≠ t := ne_of_none hp ht
      refine ⟨_, _, rfl, .inl (.inl upd_same), rfl, _, _, rfl, _, rfl, _, _, _, _, rfl, rfl, by rw [upd_ne npt]; exact hp, rfl, _, _, rfl, rfl, _, rfl, ?_⟩
      exact q _ _ (But.upd (Same.but (same_upd ht))) ⟨_, _, upd_same, Int.ediv_nonneg ha (by omega), hb, hb2⟩ dm (Int.emod_lt_of_pos a hn)
    · have z1 : ∀ c : Int, 0 ≤ c % 2147483543 ∧ c % 2147483543 < 4294967296 := fun c => by omega
      have z2 : ∀ c : Int, -(2 ^ 64) < c % 2147483543 ∧ c % 2147483543 < 2 ^ 64 := fun c => by omega
      refine ⟨_, rfl, _, _, _, _, rfl, rfl, SqL.of hp, rfl, _, _, rfl, rfl, .inr ⟨by decide, by decide⟩, _, _, rfl, rfl, .inl ⟨_, rfl, _, _, rfl, rfl, (show (0 : Int) < 2147483543 by decide), _, rfl, _, _, _, _, rfl, rfl, hp, rfl, ?_⟩⟩
      refine ⟨_, rfl, _, _, _, _, rfl, rfl, SqL.of upd_same, rfl, _, rfl, _, _, _, _, rfl, rfl, SqL.of upd_same, rfl, _, _, rfl, rfl, .inl (z2 _), .inl ⟨_, rfl, _, _, rfl, rfl, (show (0 : Int) < 2147483563 by decide), _, _, rfl, rfl, ⟨by decide, by decide⟩, .inl ⟨_, rfl, _, rfl, _, _, rfl, rfl, hn, ?_⟩⟩⟩
      exact q _ _ (But.upd (But.refl _ _)) ⟨_, _, upd_same, ha, (z1 _).1, (z1 _).2⟩ (Int.emod_nonneg _ (by omega)) (Int.emod_lt_of_pos _ hn)
theorem ok_pick {f : Addr} {fd : FuncData} (F : Fun K "_law_pick" "_law_pick" s_pick f fd) (T : Bl mg) (c_draw : Cl P w K mg base 1 "_law_draw" spDraw) : FnOk P w K mg base CX0 2 f fd ["_law_pot_here", "_law_some"] spPick := by
  refine F.ok sc_pick (fun vs H Q E h => ?_) (fun cdv A outer s H vs Q E hr h => ?_)
  · obtain ⟨p, y, rfl, _⟩ := h
    rfl
  · obtain ⟨p, y, rfl, hP, z⟩ := h
    refine ⟨_, (pss_one (ps_ret (pe_ix ix_seq (pv 1) (pe_cl c_draw hr (by decide) (by rfl) (pa_cons (pv 0) (pa_cons (pe_callB (id := "len") (call_len) (by rfl) T.len (by decide +kernel) (pa_cons (pv 1) pa_nil)) pa_nil))) (fun _ _ => rfl)))), ?_⟩
    rcases z with ⟨l, xs, rfl, hne, hl, h0, h1, q⟩ | ⟨z, rfl, h0, h1, q⟩
    · refine ⟨_, rfl, _, rfl, _, rfl, _, _, rfl, .inl ⟨xs, SqL.of hl, rfl⟩, _, _, rfl, hP, by omega, by omega, fun H' d hb hP' d0 dn => ?_⟩
      have hd : d.toNat < xs.length := by omega
      refine .inl ⟨_, _, _, _, rfl, rfl, SqL.of (hb _ _ hne hl), ?_, q H' d.toNat _ (List.getElem?_eq_getElem hd) hb hP'⟩
      unfold atI ixN
      rw [if_pos d0, if_pos dn]
      exact List.getElem?_eq_getElem hd
    · refine ⟨_, rfl, _, rfl, _, rfl, _, _, rfl, ⟨by rw [sizeLine_eq]; omega, rfl⟩, _, _, rfl, hP, by omega, by omega, fun H' d hb hP' d0 dn => ?_⟩
      have hd : d.toNat < z.cps.toList.length := by
        rw [← len_tl]
        omega
      refine .inr (.inr ⟨_, _, _, rfl, rfl, by rw [sizeLine_eq]; omega, ?_, q H' _ (List.getElem_mem hd) hb hP'⟩)
      unfold atI ixN
      rw [if_pos d0, if_pos (by rw [← len_tl]; exact dn)]
      exact List.getElem?_eq_getElem hd
theorem ok_names {f : Addr} {fd : FuncData} (F : Fun K "_law_names" "_law_names" s_names f fd) (T : Bl mg) (c_pick : Cl P w K mg base 2 "_law_pick" spPick) : FnOk P w K mg base CX0 3 f fd ["_law_pot_here", "_law_size"] spNames := by
  refine F.ok sc_names (fun vs H Q E h => ?_) (fun cdv A outer s H vs Q E hr h => ?_)
  · obtain ⟨p, n, rfl, _⟩ := h
    rfl
  · obtain ⟨p, n, rfl, hP, hn, q⟩ := h
    refine ⟨_, (pss_cons (ps_asg (pe_tup (pa_cons pe_str (pa_cons (pe_lst pa_nil) pa_nil))) (pg_tup rfl (pgs_cons (pg_name (i := 2) sc_names.nd rfl (Or.inr rfl)) (pgs_cons (pg_name (i := 3) sc_names.nd rfl (Or.inr rfl)) pgs_nil))))
  (pss_cons (ps_for PassesOwn.never rfl (pi_range1 rfl T.range (pa_cons (pv 1) pa_nil)) (pg_name (i := 4) sc_names.nd rfl (Or.inl rfl))
  (pss_cons (ps_set (i := 5) sc_names.nd rfl (Or.inr rfl) (pe_join pe_str (pe_lc (own := [("_law_spot", 6)]) (g := gName 6) (tt := tYes) rfl sc_names.nd (pi_range1 rfl T.range (pa_cons (pe_op op_add pe_int (pe_cl c_pick hr (by decide) (by rfl) (pa_cons (pv 0) (pa_cons (pe_lst (pa_cons pe_int (pa_cons pe_int (pa_cons pe_int (pa_cons pe_int (pa_cons pe_int (pa_cons pe_int pa_nil))))))) pa_nil)))) pa_nil)) (blkOk_by (N := N_names) (sc := defScope s_names) (by decide +kernel)) (fun _ _ _ _ _ => (pg_name (i := 6) sc_names.nd rfl (Or.inl rfl))) (fun _ _ _ _ _ => pts_nil) (fun _ _ _ _ _ => (pe_cl c_pick hr (by decide) (by rfl) (pa_cons (pv 0) (pa_cons (pv 2) pa_nil)))))))
  (pss_cons (ps_set (i := 7) sc_names.nd rfl (Or.inl rfl) (pe_op op_cat (pe_lst (pa_cons (pv 5) pa_nil)) (pe_lc (own := [("_law_sign", 8)]) (g := gName 8) (tt := tYes) rfl sc_names.nd (pi_str (pv 2)) (blkOk_by (N := N_names) (sc := defScope s_names) (by decide +kernel)) (fun _ _ _ _ _ => (pg_name (i := 8) sc_names.nd rfl (Or.inl rfl))) (fun _ _ _ _ _ => pts_nil) (fun _ _ _ _ _ => (pe_op op_add_str (pe_slice sl_str (pv 5) po_none (po_some pe_int)) (pv 8))))))
  (pss_one (ps_expr (pe_bm PySem.F.plainAttrs_list PySem.F.slot_list_append PySem.F.type_list_append mt_append (pv 3) (pa_cons (pe_ix ix_list (pe_lc (own := [("_law_one", 9)]) (g := gName 9) (tt := tTest (tOp (rIn K true) (tVar 9) (tVar 3))) rfl sc_names.nd (pi_list (pv 7)) (blkOk_by (N := N_names) (sc := defScope s_names) (by decide +kernel)) (fun _ _ _ _ _ => (pg_name (i := 9) sc_names.nd rfl (Or.inl rfl))) (fun _ _ _ _ _ => (pts_one (pt_cmpR op_notIn_seq (pv 9) (pv 3) (by rfl)))) (fun _ _ _ _ _ => (pv 9))) pe_int (fun _ _ => rfl)) pa_nil)))))))
  (pss_one (ps_ret (pv 3))))), ?_⟩
    refine ⟨by show 0 ≤ sizeLine; decide, fun l nl => ⟨by show 2 ≤ sizeLine; decide, fun t nt => ?_⟩⟩
    have nlt : l ≠ t := fun z => by
      rw [← z, upd_same] at nt
      cases nt
    refine ⟨t, _, rfl, .inl (.inl upd_same), rfl, _, _, rfl, _, _, rfl, ⟨rfl, ?_⟩⟩
    have npl : p ≠ l := pot_ne hP nl
    refine ⟨_, rfl, n, rfl, by omega, by omega, for_range (lo := 0) (n := n) (fun i σ H' => ∃ ns u4 u5 u6 u7 u8 u9, σ = [some (.ref p), some (.int n), some (.str sgn), some (.ref l), u4, u5, u6, u7, u8, u9] ∧ But p H H' ∧ Pot H' p ∧ H' l = some (.lst (ns.map V.str)) ∧ ns.length = i ∧ ns.Nodup ∧ ∀ x ∈ ns, Nm x)
      ⟨[], _, _, _, _, _, _, rfl, Same.but ((same_upd nl).trans (same_upd nt)), pot_same hP ((same_upd nl).trans (same_upd nt)), by rw [upd_ne nlt]; exact upd_same, rfl, .nil, by simp⟩ ?_ ?_⟩
    · rintro i σ H1 hi ⟨ns, u4, u5, u6, u7, u8, u9, rfl, bB, P1, hl, hlen, nd, nm⟩
      -- the word
      refine ⟨⟨_, rfl⟩, ?_⟩
      refine ⟨_, rfl, by show 6 ≤ sizeLine; decide, fun a na => ?_⟩
      have npa : p ≠ a := pot_ne P1 na
      refine ⟨p, .ref a, rfl, pot_same P1 (same_upd na), .inl ⟨a, _, rfl, npa.symm, upd_same, by decide, by decide, fun H2 i x hx b2 P2 => ?_⟩⟩
      obtain ⟨k, rfl, k0, k7⟩ : ∃ k : Int, x = .int k ∧ 0 ≤ k ∧ k ≤ 7 := by
        match i, hx with
        | 0, hx => exact ⟨0, (Option.some.inj hx).symm, by decide, by decide⟩
        | 1, hx => exact ⟨0, (Option.some.inj hx).symm, by decide, by decide⟩
        | 2, hx => exact ⟨0, (Option.some.inj hx).symm, by decide, by decide⟩
        | 3, hx => exact ⟨1, (Option.some.inj hx).symm, by decide, by decide⟩
        | 4, hx => exact ⟨2, (Option.some.inj hx).symm, by decide, by decide⟩
        | 5, hx => exact ⟨7, (Option.some.inj hx).symm, by decide, by decide⟩
        | i + 6, hx => simp at hx
      replace b2 : But p H1 H2 := (Same.but (same_upd na)).trans b2
      clear hx
      refine ⟨_, _, rfl, rfl, _, rfl, by omega, by omega, fun D hD => ?_⟩
      have npD : p ≠ D := pot_ne P2 hD
      refine lc_range (lo := 0) (n := (1 + k).toNat) (fun j H' => ∃ cs : List Nat, cs.length = j ∧ (∀ c ∈ cs, 97 ≤ c ∧ c < 123) ∧ But p H2 H' ∧ Pot H' p ∧ H' D = some (.lst (cs.map fun c => V.str (ch c)))) ⟨[], rfl, by simp, Same.but (same_upd hD), pot_same P2 (same_upd hD), upd_same⟩ (fun j H3 hj hp => ?_) (fun H3 hp => ?_)
      · obtain ⟨cs, h1, h2, h3, h4, h5⟩ := hp
        refine ⟨wipe_back, ?_⟩
        unfold tYes
        dsimp only
        rw [if_pos rfl]
        refine ⟨_, rfl, _, rfl, p, _, rfl, h4, .inr ⟨sgn, rfl, by rw [sgn_len]; decide, by rw [sgn_len]; decide, fun H4 c hc b4 P4 => ?_⟩⟩
        refine ⟨_, b4 _ _ npD.symm h5, by rw [List.length_map, sizeLine_eq]; omega, cs ++ [c], by rw [List.length_append, h1]; rfl, fun d hd => ?_, but_new (h3.trans b4) hD, pot_upd P4 npD, by rw [upd_same, List.map_append]; rfl⟩
        rcases List.mem_append.mp hd with z | z
        · exact h2 d z
        · rw [List.mem_singleton.mp z]
          rw [sgn_list, List.mem_range'_1] at hc
          omega
      obtain ⟨cs, h1, h2, h3, P3, h5⟩ := hp
      have hw : Nm (Txt.join "" (cs.map ch)) := nm_chs (by omega) (by omega) h2
      have hs : ((cs.map ch).map (·.length)).sum ≤ 8 := by
        have e : (cs.map ch).map (·.length) = List.replicate cs.length 1 := by
          rw [List.map_map]
          exact List.eq_replicate_iff.mpr ⟨by simp, fun b hb => by
            obtain ⟨c, _, rfl⟩ := List.mem_map.mp hb
            rfl⟩
        rw [e, List.sum_replicate_nat]
        omega
      refine ⟨_, D, cs.map ch, rfl, rfl, .inl (SqL.of (by rw [h5, List.map_map]; rfl)), by rw [show ("" : Str).length = 0 from by decide +kernel]; omega, ?_⟩
      generalize Txt.join "" (cs.map ch) = w at hw ⊢
      -- the words beside it
      replace b2 := b2.trans h3
      refine ⟨_, rfl, by show 1 ≤ sizeLine; decide, fun a1 n1 => ?_⟩
      refine ⟨_, rfl, sgn, rfl, fun D2 hD2 => ?_⟩
      refine lc_it (n := 26) (G := fun _ => True) (Y := fun i H x H' => H' = H ∧ ∃ c, sgn.cps[i]? = some c ∧ x = .str (ch c)) ⟨fun i _ hi _ => by show i < sgn.cps.size; rw [show sgn.cps.size = 26 from by decide +kernel]; exact hi, fun _ _ => by show sgn.cps.size ≤ 26; decide +kernel, fun _ _ _ _ _ _ y => y⟩
        (fun j H' => H' = upd (upd H3 a1 (.lst [.str w])) D2 (.lst (((List.range' 97 j).map (nx7 w)).map V.str))) rfl (fun _ _ _ _ => trivial) (fun j x H' H'' hj e y => ?_) (fun H' e => ?_)
      · obtain ⟨rfl, c, hc, rfl⟩ := y
        subst e
        have ec : c = 97 + j := by
          have h1 : sgn.cps.toList[j]? = some c := by simpa using hc
          rw [sgn_list, List.getElem?_range' hj] at h1
          have := Option.some.inj h1
          omega
        subst ec
        refine ⟨wipe_back, ?_⟩
        unfold tYes
        dsimp only
        rw [if_pos rfl]
        refine ⟨_, rfl, 7, rfl, w, rfl, by rw [sizeLine_eq]; have := hw.2.1; omega, _, rfl, _, _, rfl, rfl, ?_, _, upd_same, by rw [List.length_map, List.length_map, List.length_range', sizeLine_eq]; omega, ?_⟩
        · have z1 : (nx7 w (97 + j)).length ≤ 8 := (nm_nx hw (by omega)).2.1
          have z2 : (nx7 w (97 + j)).length = (cutS w none (some 7)).length + (ch (97 + j)).length := by
            rw [len_tl, len_tl, len_tl]
            unfold nx7
            rw [tl_append, List.length_append]
          rw [sizeLine_eq]
          show (cutS w none (some 7)).length + (ch (97 + j)).length ≤ _
          omega
        · rw [upd_upd, List.range'_concat, List.map_append, List.map_append]
          simp only [Nat.one_mul]
          rfl
      subst e
      have n12 : a1 ≠ D2 := fun z => by
        rw [← z, upd_same] at hD2
        cases hD2
      refine ⟨a1, D2, _, _, rfl, rfl, by rw [upd_ne n12]; exact upd_same, upd_same, by rw [List.length_map, List.length_map, List.length_range', sizeLine_eq]; show 1 + 26 ≤ _; decide, fun nr nn => ?_⟩
      have e27 : [V.str w] ++ (((List.range' 97 26).map (nx7 w)).map V.str) = (near w).map V.str := rfl
      rw [e27]
      have s6 := ((same_upd (o := .lst [V.str w]) n1).trans (same_upd (o := .lst (((List.range' 97 26).map (nx7 w)).map V.str)) hD2)).trans (same_upd (o := .lst ((near w).map V.str)) nn)
      have hnr : upd (upd (upd H3 a1 (.lst [.str w])) D2 (.lst (((List.range' 97 26).map (nx7 w)).map V.str))) nr (.lst ((near w).map V.str)) nr = some (.lst ((near w).map V.str)) := upd_same
      generalize upd (upd (upd H3 a1 (.lst [.str w])) D2 (.lst (((List.range' 97 26).map (nx7 w)).map V.str))) nr (.lst ((near w).map V.str)) = H6 at s6 hnr ⊢
      have B6 : But p H1 H6 := b2.trans (Same.but s6)
      have P6 := pot_same P3 s6
      have hl6 := B6 _ _ npl.symm hl
      -- the first one that is free
      refine ⟨_, rfl, .inl ⟨rfl, _, SqL.of hl6⟩, ?_⟩
      refine ⟨_, rfl, nr, rfl, ⟨_, SqL.of hnr⟩, fun D3 hD3 => ?_⟩
      have n3l : l ≠ D3 := ne_of_none hl6 hD3
      have n3r : nr ≠ D3 := ne_of_none hnr hD3
      refine lc_list (K := K) (a := nr) (xs := (near w).map V.str) (fun j H' => H' = upd H6 D3 (.lst ((((near w).take j).filter (fun x => !ns.contains x)).map V.str))) rfl (fun j H' _ e => by rw [e]; exact SqL.of (by rw [upd_ne n3r]; exact hnr)) (fun j x H' hx e => ?_) (fun H' e => ?_)
      · subst e
        rw [List.getElem?_map] at hx
        obtain ⟨y, hy, rfl⟩ : ∃ y, (near w)[j]? = some y ∧ x = V.str y := by
          cases e : (near w)[j]? with
          | none =>
            rw [e] at hx
            cases hx
          | some y =>
            rw [e] at hx
            exact ⟨y, rfl, (Option.some.inj hx).symm⟩
        refine ⟨wipe_back, ?_⟩
        refine ⟨_, rfl, _, rfl, l, _, rfl, .inl (SqL.of (by rw [upd_ne n3l]; exact hl6)), rfl, by simp [List.all_map, flatV], _, rfl, ?_⟩
        have ein : inV (V.str y) (ns.map V.str) = ns.contains y := by
          unfold inV
          rw [List.any_map]
          rw [Bool.eq_iff_iff, List.any_eq_true, List.contains_iff_mem]
          exact ⟨fun ⟨z, hz, e⟩ => by
            have : (z == y) = true := e
            rw [← eq_of_beq this]
            exact hz, fun h => ⟨y, h, by show (y == y) = true; simp⟩⟩
        have hj : j < (near w).length := (List.getElem?_eq_some_iff.mp hy).1
        have h27 : (near w).length = 27 := by
          unfold near
          rw [List.length_cons, List.length_map, List.length_range']
        rw [take_step hy, List.filter_append]
        show (if (!inV (V.str y) (ns.map V.str)) = true then _ else _)
        rw [ein]
        refine ite2 (fun z => ?_) (fun z => ?_)
        · refine ⟨_, rfl, _, upd_same, ?_, ?_⟩
          · rw [List.length_map, sizeLine_eq]
            have z1 := List.length_filter_le (fun x => !ns.contains x) ((near w).take j)
            rw [List.length_take] at z1
            omega
          · have ef : List.filter (fun x => !ns.contains x) [y] = [y] := by simp only [List.filter, z]
            rw [upd_upd, ef, List.map_append]
            rfl
        · have ef : List.filter (fun x => !ns.contains x) [y] = [] := by
            have z2 : (!ns.contains y) = false := by simpa using z
            simp only [List.filter, z2]
          rw [ef, List.append_nil]
      subst e
      rw [List.length_map, List.take_length]
      have hne := near_free w ns (by omega)
      obtain ⟨y0, r0, er⟩ := List.exists_cons_of_ne_nil hne
      have hy0 : y0 ∈ (near w).filter (fun x => !ns.contains x) := by rw [er]; exact List.mem_cons_self
      obtain ⟨hy1, hy2⟩ := List.mem_filter.mp hy0
      have hy3 : y0 ∉ ns := by simpa using hy2
      refine ⟨_, _, _, _, rfl, rfl, SqL.of upd_same, by rw [er]; exact at_i (n := 0) (x := V.str y0) rfl, ?_⟩
      refine ⟨l, _, _, rfl, rfl, by rw [upd_ne n3l]; exact hl6, by rw [List.length_map, sizeLine_eq]; omega, ?_⟩
      have nDn : H D3 = none → True := fun _ => trivial
      refine ⟨ns ++ [y0], _, _, _, _, _, _, rfl, ?_, pot_upd (pot_same P6 (same_upd hD3)) npl, by rw [upd_same, List.map_append]; rfl, by rw [List.length_append, hlen]; rfl, ?_, ?_⟩
      · exact but_new ((bB.trans B6).trans (Same.but (same_upd hD3))) nl
      · rw [List.nodup_append]
        refine ⟨nd, by simp, fun x hx z hz => ?_⟩
        rw [List.mem_singleton.mp hz]
        exact fun e => hy3 (e ▸ hx)
      · intro x hx
        rcases List.mem_append.mp hx with z | z
        · exact nm x z
        · rw [List.mem_singleton.mp z]
          exact near_nm hw y0 hy1
    · rintro σ H1 ⟨ns, u4, u5, u6, u7, u8, u9, rfl, bB, P1, hl, hlen, nd, nm⟩
      exact ⟨_, rfl, q H1 l ns bB P1 nl hl hlen nd nm⟩
theorem ok_table {f : Addr} {fd : FuncData} (F : Fun K "_law_table" "_law_table" s_table f fd) (T : Bl mg) (c_draw : Cl P w K mg base 1 "_law_draw" spDraw) (c_pick : Cl P w K mg base 2 "_law_pick" spPick) : FnOk P w K mg base CX0 3 f fd ["_law_pot_here", "_law_size", "_law_many"] (spTable K) := by
  refine F.ok sc_table (fun vs H Q E h => ?_) (fun cdv A outer s H vs Q E hr h => ?_)
  · obtain ⟨p, n, m, rfl, _⟩ := h
    rfl
  · obtain ⟨p, size, many, rfl, hP, hs0, hs, hm, q⟩ := h
    refine ⟨_, (pss_cons (ps_asg (pe_tup (pa_cons (pe_cl c_draw hr (by decide) (by rfl) (pa_cons (pv 0) (pa_cons pe_int pa_nil))) (pa_cons (pe_cl c_pick hr (by decide) (by rfl) (pa_cons (pv 0) (pa_cons (pe_lst (pa_cons pe_int (pa_cons pe_int (pa_cons pe_int (pa_cons pe_int pa_nil))))) pa_nil))) (pa_cons (pe_op op_sub (pv 1) pe_int) pa_nil)))) (pg_tup rfl (pgs_cons (pg_name (i := 3) sc_table.nd rfl (Or.inl rfl)) (pgs_cons (pg_name (i := 4) sc_table.nd rfl (Or.inr rfl)) (pgs_cons (pg_name (i := 5) sc_table.nd rfl (Or.inr rfl)) pgs_nil)))))
  (pss_cons (ps_if (pt_cmpR op_eq (pv 3) pe_int (nomark _)) (pss_one (ps_ret (pe_lc (own := [("_law_state", 6)]) (g := gName 6) (te := tLc (iRng1 (tCons (tVar 2) (tNil))) (gName 7) tYes (tTup (tCons (tVar 6) (tCons (tOp (rI (fun _ j => 0 < j) fun i j => V.int (i % j)) (tCB rInt1 (tCons (tOp (rI0 fun i j => V.int (i + j)) (tOp (rI0 fun i j => V.int (i + j)) (tVar 6) (tVar 7)) (tC (.int 1))) (tNil))) (tVar 1)) (tNil)))) [7]) (tt := tYes) rfl sc_table.nd (pi_range1 rfl T.range (pa_cons (pv 1) pa_nil)) (blkOk_by (N := N_table) (sc := defScope s_table) (by decide +kernel)) (fun _ _ _ _ _ => (pg_name (i := 6) sc_table.nd rfl (Or.inr rfl))) (fun _ _ _ _ _ => pts_nil) (fun _ _ _ _ _ => (pe_lc (own := [("_law_place", 7)]) (g := gName 7) (te := tTup (tCons (tVar 6) (tCons (tOp (rI (fun _ j => 0 < j) fun i j => V.int (i % j)) (tCB rInt1 (tCons (tOp (rI0 fun i j => V.int (i + j)) (tOp (rI0 fun i j => V.int (i + j)) (tVar 6) (tVar 7)) (tC (.int 1))) (tNil))) (tVar 1)) (tNil)))) (tt := tYes) rfl sc_table.nd (pi_range1 rfl T.range (pa_cons (pv 2) pa_nil)) (blkOk_by (by kernel_rfl)) (fun _ _ _ _ _ => (pg_name (i := 7) sc_table.nd rfl (Or.inl rfl))) (fun _ _ _ _ _ => pts_nil) (fun _ _ _ _ _ => (pe_tup (pa_cons (pv 6) (pa_cons (pe_op op_mod (pe_callTy (T := "int") call_i1 (by rfl) T.int (by decide +kernel) (pa_cons (pe_op op_add (pe_op op_add (pv 6) (pv 7)) pe_int) pa_nil)) (pv 1)) pa_nil))))))))) pss_nil)
  (pss_cons (ps_if (pt_cmpR op_eq (pv 3) pe_int (nomark _)) (pss_one (ps_ret (pe_lc (own := [("_law_state", 6)]) (g := gName 6) (te := tLc (iRng1 (tCons (tVar 2) (tNil))) (gName 7) tYes (tTup (tCons (tC (.int 0)) (tCons (tCB rMin2 (tCons (tOp (rI0 fun i j => V.int (i + j)) (tVar 7) (tC (.int 1))) (tCons (tVar 5) (tNil)))) (tNil)))) [7]) (tt := tYes) rfl sc_table.nd (pi_range1 rfl T.range (pa_cons (pv 1) pa_nil)) (blkOk_by (N := N_table) (sc := defScope s_table) (by decide +kernel)) (fun _ _ _ _ _ => (pg_name (i := 6) sc_table.nd rfl (Or.inl rfl))) (fun _ _ _ _ _ => pts_nil) (fun _ _ _ _ _ => (pe_lc (own := [("_law_place", 7)]) (g := gName 7) (te := tTup (tCons (tC (.int 0)) (tCons (tCB rMin2 (tCons (tOp (rI0 fun i j => V.int (i + j)) (tVar 7) (tC (.int 1))) (tCons (tVar 5) (tNil)))) (tNil)))) (tt := tYes) rfl sc_table.nd (pi_range1 rfl T.range (pa_cons (pv 2) pa_nil)) (blkOk_by (by kernel_rfl)) (fun _ _ _ _ _ => (pg_name (i := 7) sc_table.nd rfl (Or.inl rfl))) (fun _ _ _ _ _ => pts_nil) (fun _ _ _ _ _ => (pe_tup (pa_cons pe_int (pa_cons (pe_callB (id := "min") (call_m2 rfl) (by rfl) T.min (by decide +kernel) (pa_cons (pe_op op_add (pv 7) pe_int) (pa_cons (pv 5) pa_nil))) pa_nil))))))))) pss_nil)
  (pss_one (ps_ret (pe_lc (own := [("_law_state", 6)]) (g := gName 6) (te := tLc (iRng1 (tCons (tVar 2) (tNil))) (gName 7) tYes (tTup (tCons (tCall spDraw [] E0 (tCons (tVar 0) (tCons (tVar 4) (tNil)))) (tCons (tCall spDraw [] E0 (tCons (tVar 0) (tCons (tVar 1) (tNil)))) (tNil)))) [7]) (tt := tYes) rfl sc_table.nd (pi_range1 rfl T.range (pa_cons (pv 1) pa_nil)) (blkOk_by (N := N_table) (sc := defScope s_table) (by decide +kernel)) (fun _ _ _ _ _ => (pg_name (i := 6) sc_table.nd rfl (Or.inl rfl))) (fun _ _ _ _ _ => pts_nil) (fun _ _ _ _ _ => (pe_lc (own := [("_law_place", 7)]) (g := gName 7) (te := tTup (tCons (tCall spDraw [] E0 (tCons (tVar 0) (tCons (tVar 4) (tNil)))) (tCons (tCall spDraw [] E0 (tCons (tVar 0) (tCons (tVar 1) (tNil)))) (tNil)))) (tt := tYes) rfl sc_table.nd (pi_range1 rfl T.range (pa_cons (pv 2) pa_nil)) (blkOk_by (by kernel_rfl)) (fun _ _ _ _ _ => (pg_name (i := 7) sc_table.nd rfl (Or.inl rfl))) (fun _ _ _ _ _ => pts_nil) (fun _ _ _ _ _ => (pe_tup (pa_cons (pe_cl c_draw hr (by decide) (by rfl) (pa_cons (pv 0) (pa_cons (pv 4) pa_nil))) (pa_cons (pe_cl c_draw hr (by decide) (by rfl) (pa_cons (pv 0) (pa_cons (pv 1) pa_nil))) pa_nil)))))))))))), ?_⟩
    refine ⟨_, rfl, p, 4, rfl, hP, by decide, by decide, fun H1 way b1 P1 w0 w4 => ⟨_, rfl, by show 4 ≤ sizeLine; decide, fun a na => ?_⟩⟩
    have npa : p ≠ a := pot_ne P1 na
    refine ⟨p, .ref a, rfl, pot_same P1 (same_upd na), .inl ⟨a, _, rfl, npa.symm, upd_same, by decide, by decide, fun H2 i x hx b2 P2 => ?_⟩⟩
    obtain ⟨top, rfl, t1, t10⟩ : ∃ k : Int, x = .int k ∧ 1 ≤ k ∧ k ≤ 10 := by
      match i, hx with
      | 0, hx => exact ⟨1, (Option.some.inj hx).symm, by decide, by decide⟩
      | 1, hx => exact ⟨2, (Option.some.inj hx).symm, by decide, by decide⟩
      | 2, hx => exact ⟨3, (Option.some.inj hx).symm, by decide, by decide⟩
      | 3, hx => exact ⟨10, (Option.some.inj hx).symm, by decide, by decide⟩
      | i + 4, hx => simp at hx
    clear hx
    refine ⟨_, rfl, _, _, rfl, rfl, by show 3 ≤ sizeLine; decide, fun t nt => ⟨t, _, rfl, .inl (.inl upd_same), rfl, _, _, rfl, _, _, rfl, _, _, rfl, ⟨rfl, ?_⟩⟩⟩
    have b3 : But p H (upd H2 t (.tup [.int way, .int top, .int ((size : Int) - 1)])) := (b1.trans (Same.but (same_upd na))).trans (b2.trans (Same.but (same_upd nt)))
    have P3 := pot_same P2 (same_upd (o := .tup [.int way, .int top, .int ((size : Int) - 1)]) nt)
    have new : ∀ {H' : Hp} {b : Addr}, Nw (upd H2 t (.tup [.int way, .int top, .int ((size : Int) - 1)])) H' b → Nw H H' b := fun {H' b} z => ⟨by
      cases e : H b with
      | none => rfl
      | some o =>
        have np : b ≠ p := fun w => by
          obtain ⟨x, y, e2, _⟩ := P3
          rw [← w, z.1] at e2
          cases e2
        rw [← z.1, b3 _ _ np e], z.2⟩
    have fin : ∀ H' l rs S, But p (upd H2 t (.tup [.int way, .int top, .int ((size : Int) - 1)])) H' → Pot H' p → (∀ b, S b → Nw (upd H2 t (.tup [.int way, .int top, .int ((size : Int) - 1)])) H' b) → Dt K S H' (.ref l) (rowsD rs) → Tb size many rs → Q (.ref l) H' := fun H' l rs S bb PP nn dd tt => q H' _ rs S (b3.trans bb) PP (fun b hb => new (nn b hb)) dd tt
    refine ⟨_, rfl, rfl, _, rfl, ite2 (fun _ => ?_) (fun _ => ?_)⟩
    · refine rows_lc (j1 := 1) (j2 := 2) P3 rfl (fun v => rfl) (by omega) (by omega) (fun i j H Q hi hj PP k => ?_) fin
      refine ⟨_, rfl, _, rfl, _, rfl, _, _, rfl, rfl, _, _, rfl, rfl, .inl ⟨_, rfl, _, rfl, _, _, rfl, rfl, (show (0 : Int) < (size : Int) by omega), ?_⟩⟩
      exact k H _ _ (But.refl _ _) PP ⟨by omega, by omega⟩ ⟨Int.emod_nonneg _ (by omega), Int.emod_lt_of_pos _ (by omega)⟩
    · refine ⟨_, rfl, rfl, _, rfl, ite2 (fun _ => ?_) (fun _ => ?_)⟩
      · refine rows_lc (j1 := 1) (j2 := 2) P3 rfl (fun v => rfl) (by omega) (by omega) (fun i j H Q hi hj PP k => ?_) fin
        refine ⟨_, rfl, _, _, rfl, rfl, _, rfl, _, _, rfl, ?_⟩
        refine k H _ _ (But.refl _ _) PP ⟨by decide, by decide⟩ ?_
        split <;> omega
      · refine rows_lc (j1 := 1) (j2 := 2) P3 rfl (fun v => rfl) (by omega) (by omega) (fun i j H Q hi hj PP k => ?_) fin
        refine ⟨_, rfl, _, rfl, p, top, rfl, PP, by omega, by omega, fun H4 a b4 P4 a0 at_ => ⟨_, rfl, _, rfl, p, size, rfl, P4, by omega, by omega, fun H5 n b5 P5 n0 nt => ?_⟩⟩
        exact k H5 a n (b4.trans b5) P5 ⟨a0, by omega⟩ ⟨n0, nt⟩
theorem ok_model {f : Addr} {fd : FuncData} (F : Fun K "_law_model" "_law_model" s_model f fd) (T : Bl mg) (c_draw : Cl P w K mg base 1 "_law_draw" spDraw) (c_names : Cl P w K mg base 3 "_law_names" spNames) (c_table : Cl P w K mg base 3 "_law_table" (spTable K)) : FnOk P w K mg base CX0 4 f fd ["_law_pot_here", "_law_most_states", "_law_most_deeds"] (spModel K) := by
  refine F.ok sc_model (fun vs H Q E h => ?_) (fun cdv A outer s H vs Q E hr h => ?_)
  · obtain ⟨p, n, m, rfl, _⟩ := h
    rfl
  · obtain ⟨p, ms, md, rfl, hP, hs0, hs, hm0, hm, q⟩ := h
    refine ⟨_, (pss_cons (ps_par (i := 3) (j := 4) rfl sc_model.nd rfl rfl (by decide) rfl rfl (pa_cons (pe_op op_add pe_int (pe_cl c_draw hr (by decide) (by rfl) (pa_cons (pv 0) (pa_cons (pv 1) pa_nil)))) (pa_cons (pe_op op_add pe_int (pe_cl c_draw hr (by decide) (by rfl) (pa_cons (pv 0) (pa_cons (pv 2) pa_nil)))) pa_nil)) (by rfl))
  (pss_one (ps_ret (pe_disp (pps_cons pe_str (pe_cl c_names hr (by decide) (by rfl) (pa_cons (pv 0) (pa_cons (pv 4) pa_nil))) (pps_cons pe_str (pe_cl c_table hr (by decide) (by rfl) (pa_cons (pv 0) (pa_cons (pv 3) (pa_cons (pv 4) pa_nil)))) pps_nil)) (by rfl) (by rfl) (fun z => by cases z) (by decide))))), ?_⟩
    refine ⟨_, rfl, _, rfl, p, ms, rfl, hP, by omega, by omega, fun H1 a b1 P1 a0 a1 => ⟨_, _, rfl, rfl, _, rfl, _, rfl, p, md, rfl, P1, by omega, by omega, fun H2 d b2 P2 d0 d1 => ⟨_, _, rfl, rfl, _, _, rfl, ?_⟩⟩⟩
    obtain ⟨size, rfl⟩ : ∃ k : Nat, a = (k : Int) := ⟨a.toNat, by omega⟩
    obtain ⟨many, rfl⟩ : ∃ k : Nat, d = (k : Int) := ⟨d.toNat, by omega⟩
    intro m nm
    have npm : p ≠ m := pot_ne P2 nm
    have P3 := pot_same P2 (same_upd (o := .dK []) nm)
    refine ⟨_, rfl, _, rfl, p, 1 + many, by show [V.ref p, V.int (1 + (many : Int))] ++ [] = _; rw [List.append_nil]; congr 3 <;> omega, P3, by omega, fun H4 l ns b4 P4 ln hl hlen nd nms => ?_⟩
    refine ⟨_, rfl, _, rfl, _, rfl, p, 1 + size, 1 + many, by show [V.ref p, V.int (1 + (size : Int)), V.int (1 + (many : Int))] ++ [] = _; rw [List.append_nil]; congr 3 <;> (try congr 1) <;> omega, P4, by omega, by omega, by omega, fun H5 v rs S b5 P5 nS dS tb => ?_⟩
    have nml : m ≠ l := fun z => by
      rw [← z, upd_same] at ln
      cases ln
    have npl : p ≠ l := fun z => by
      obtain ⟨x, y, e, _⟩ := P3
      rw [z, ln] at e
      cases e
    have e5 : H5 m = some (.dK []) := b5 _ _ npm.symm (b4 _ _ npm.symm upd_same)
    have l5 : H5 l = some (.lst (ns.map V.str)) := b5 _ _ npl.symm hl
    refine ⟨e5, [(.inr "deeds", .ref l), (.inr "rows", v)], rfl, by show 2 ≤ 15; decide, ?_⟩
    have bH : But p H H5 := ((b1.trans b2).trans (Same.but (same_upd nm))).trans (b4.trans b5)
    have np : ∀ b, b ≠ p → H5 b = none → H b = none := fun b n e => by
      cases z : H b with
      | none => rfl
      | some o =>
        rw [bH _ _ n z] at e
        cases e
    have hm0' : H m = none := by
      cases z : H m with
      | none => rfl
      | some o =>
        rw [(b1.trans b2) _ _ npm.symm z] at nm
        cases nm
    have hl0 : H l = none := by
      cases z : H l with
      | none => rfl
      | some o =>
        rw [((b1.trans b2).trans (Same.but (same_upd nm))) _ _ npl.symm z] at ln
        cases ln
    have hS0 : ∀ b, S b → H b = none ∧ b ≠ p ∧ b ≠ m ∧ b ≠ l := fun b hb => by
      obtain ⟨z1, z2⟩ := nS b hb
      have n1 : b ≠ p := fun z => by
        obtain ⟨x, y, e, _⟩ := P4
        rw [← z, z1] at e
        cases e
      have n2 : b ≠ m := fun z => by
        rw [z, b4 _ _ npm.symm upd_same] at z1
        cases z1
      have n3 : b ≠ l := fun z => by
        rw [z, hl] at z1
        cases z1
      refine ⟨?_, n1, n2, n3⟩
      cases z : H b with
      | none => rfl
      | some o =>
        rw [((b1.trans b2).trans (Same.but (same_upd nm))).trans b4 _ _ n1 z] at z1
        cases z1
    refine q _ m ns rs (1 + size) (1 + many) (fun b => S b ∨ b = m ∨ b = l) (but_new bH hm0') (pot_upd P5 npm) (fun b hb => ?_) ?_ (by omega) (by omega) hlen nd nms tb
    · rcases hb with z | z | z
      · obtain ⟨z1, z2, z3, z4⟩ := hS0 b z
        refine ⟨z1, ?_⟩
        rw [upd_ne z3]
        exact (nS b z).2
      · subst z
        exact ⟨hm0', by rw [upd_same]; simp⟩
      · subst z
        exact ⟨hl0, by rw [upd_ne nml.symm, l5]; simp⟩
    · refine .dct (kvs := [(.inr "deeds", .ref l), (.inr "rows", v)]) (by rw [vw_at (.inr (.inl rfl)), upd_same]; rfl) (.cons ?_ (.cons ?_ .nil))
      · refine .lst ((by rw [vw_at (.inr (.inr rfl)), upd_ne nml.symm]; exact l5)) ?_
        have all : ∀ (ns : List Str) {G : Hp}, TrAll G (ns.map V.str) (ns.map PyData.str) := fun ns G => by
          induction ns with
          | nil => exact .nil
          | cons x r ih => exact .cons (.str x) ih
        exact all ns
      · exact Dt.mono (dS.fr (M := fun b => b = m) (Fr.set (Fr.refl _ _) rfl) fun b hb => (hS0 b hb).2.2.1) fun b hb => .inl hb
end
end K11

namespace Cr
open PySem PySem.Spec PyProof.Rows L2 Xv
/-! ### enumerate of a tuple -/
theorem enum_of {v : Value} {o : Obj} {G : Heap → Prop} (B : Begins v o G) :
    Meets (Builtin.«enumerate.__new__» ⟨[.type "enumerate", v], []⟩) (fun _ R s => G s.heap ∧
      R (.ok (.ret (.ref (s.heap.push o).objs.size))) { s with heap := (s.heap.push o).push { cls := .type "enumerate", data := .fields #[.none, .bool false, .ref s.heap.objs.size, rawInt 0, .none, .none] } }) :=
  .of_wp fun prog w A R s0 h0 => by
    obtain ⟨hp, g, d, tk, os⟩ := s0
    obtain ⟨h1, h⟩ := h0
    have below := sub_enumerate
    have first : ∀ {A' : Around} {E Q : Value → Shared → Prop}, Q (.ref hp.objs.size) ⟨hp.push o, g, d, tk, os⟩ → wpAny (model prog w) A' (pyIter v) Q E ⟨hp, g, d, tk, os⟩ := fun {A' E Q} q => B.iter prog w A' E ⟨hp, g, d, tk, os⟩ Q h1 q
    wp_walk using first
    refine wpAny_stack_any (fun _ => wpAny_pure ?_)
    split
    · rename_i c _ _ _ _ _
      cases (c == Value.type "enumerate") <;> (wp_walk using first; exact ⟨_, rfl, h⟩)
    · wp_walk using first
      exact ⟨_, rfl, h⟩
section
variable {prog : Program} {w : World} {A : Around} {E : Value → Shared → Prop} {s : Shared}
theorem call_enum_tuple {t : Addr} {its : Array Value} {Q : Value → Shared → Prop} (hT : s.heap.IsTuple t its)
    (h : ∀ h', IsEnum h' (s.heap.objs.size + 1) s.heap.objs.size 0 .none → h'.IsTupleIter s.heap.objs.size t 0 → h'.objs.size = s.heap.objs.size + 2 → (∀ b o, s.heap.get? b = some o → h'.get? b = some o) → Q (.ref (s.heap.objs.size + 1)) { s with heap := h' }) :
    wpAny (model prog w) A (call (.type "enumerate") [.ref t]) Q E s := by
  have hz : (s.heap.push { cls := .type "tuple_iterator", data := .fields #[.ref t, .int 0 0] }).objs.size = s.heap.objs.size + 1 := Heap.size_push ..
  refine callType_new F.called_enumerate (by decide) (F.typeCall_enumerate_1 _) (F.newCall_enumerate_1 _) (fun obj => F.args_object_init_2 obj _) F.entry_enumerate_new (enum_of (begins_tuple t its)) ⟨hT, ?_⟩
  show _ ∧ _
  rw [hz]
  have he : IsEnum ((s.heap.push { cls := .type "tuple_iterator", data := .fields #[.ref t, .int 0 0] }).push { cls := .type "enumerate", data := .fields #[.none, .bool false, .ref s.heap.objs.size, rawInt 0, .none, .none] }) (s.heap.objs.size + 1) s.heap.objs.size 0 .none := by
    have z := Heap.get?_push_size (s.heap.push { cls := .type "tuple_iterator", data := .fields #[.ref t, .int 0 0] }) (o := { cls := .type "enumerate", data := .fields #[.none, .bool false, .ref s.heap.objs.size, rawInt 0, .none, .none] }) rfl
    rw [hz] at z
    exact z
  exact ⟨⟨_, he, rfl⟩, h _ he ⟨_, Heap.get?_push_of_some _ (Heap.get?_push_size _ rfl), rfl, rfl⟩ (by rw [Heap.size_push, hz]) (fun b o x => Heap.get?_push_of_some _ (Heap.get?_push_of_some _ x))⟩
end
theorem wpAny_pyNext_enumT_end {prog : Program} {w : World} {A : Around} {E : Value → Shared → Prop} {s : Shared} {e it t : Addr} {i : Nat} {items : Array Value} {old : Value} {Q : Option Value → Shared → Prop} (hh : A.handled = none)
    (he : IsEnum s.heap e it i old) (hit : s.heap.IsTupleIter it t i) (ht : s.heap.IsTuple t items) (hx : items[i]? = none) (hQ : ∀ h', Heap.ExtBut it s.heap h' → Q none { s with heap := h' }) : wpAny (model prog w) A (pyNext (.ref e)) Q E s := by
  have hT : s.TypeIs (.ref e) "enumerate" := ⟨_, he, rfl⟩
  unfold pyNext
  refine wpAny_bind (wpAny_attempt (wpAny_callSpecial?_slot (name := Str.ofString "__next__") hT F.slot_enumerate_next (wpAny_call_entry F.slot_enumerate_next hT F.entry_enumerate_next ?_ (F.args_enumerate_next_1 _))))
  refine wpAny_bind (m := field (.ref e) 2) (wpAny_field he rfl (x := .ref it) rfl (wpAny_bind ?_))
  refine wpAny_nextOf_tuple_end (A := A.in1) hh hit ht hx fun h' x k ⟨o, ho, hc⟩ => ?_
  exact wpAny_bind (wpAny_isInstance (T := "StopIteration") (b := true) ⟨o, ho, hc⟩ isSubtype_stop (wpAny_pure (hQ _ k)))
/-- the tuple at a, each item in a new pair -/
def IteT (K : PySem.W.Frag) (a : Addr) : It :=
  ⟨fun i H => ∃ (xs : List V) (x : V), SqT K H a xs ∧ xs[i]? = some x, fun i H v H' => ∃ T x, v = .ref T ∧ H T = none ∧ H' = upd H T (.tup [.int (i : Nat), x]) ∧ ∀ xs, SqT K H a xs → xs[i]? = some x, fun i H => ∃ xs : List V, SqT K H a xs ∧ xs.length ≤ i⟩
theorem turn_enumT {P : Program} {w : World} {K : PySem.W.Frag} {elts : List Expr} {kk : Nat} {tpos : Pos} (a e it : Addr) :
    Turn P w K (.Tuple elts kk tpos) (IteT K a) [e, it] e (fun i h => (∃ old, IsEnum h e it ((i : Nat) : Int) old) ∧ h.IsTupleIter it a i ∧ e ≠ it ∧ a ≠ it ∧ a ≠ e) where
  mem := by simp
  obj := fun i h st b hb => by
    obtain ⟨⟨old, he⟩, ⟨o, ho, hc, hd⟩, _⟩ := st
    rcases (by simpa using hb : b = e ∨ b = it) with z | z
    · rw [z]
      exact ⟨_, he, fun v q => nomatch q⟩
    · rw [z]
      exact ⟨o, ho, fun v q => by rw [hd] at q; cases q⟩
  keep := fun i h h' st k => let ⟨⟨old, he⟩, hi, hne⟩ := st; ⟨⟨old, k e (by simp) _ he⟩, hi.at (fun o q => k it (by simp) o q), hne⟩
  item := by
    intro X hP hw hK hc i pins s σ H E I hf st hg
    subst hP hw hK
    obtain ⟨⟨old, he⟩, hit, hne, ha, hae⟩ := st
    obtain ⟨xs, x, hq, hx⟩ := hg
    obtain ⟨its, rv, p, hz⟩ := I.tuple hq
    obtain ⟨u, hu, ru⟩ := rv.get hx
    have hel : e < s.heap.objs.size := Heap.lt_size he
    have hil : it < s.heap.objs.size := let ⟨_, q, _⟩ := hit; Heap.lt_size q
    have hi : i < its.toArray.size := by
      have := (List.getElem?_eq_some_iff.mp hu).1
      simpa using this
    refine wpAny_pyNext_enum_itemD (Draws.tuple (A := X.A.in1) (I.ok.hd hc) it a ha its.toArray) he ⟨hit, p⟩ hi hne (by simp [hne, hae.symm]) fun y h' tk hy ho hst hT hsz hk => ?_
    have ey : y = u := by
      have : its[i]? = some y := by simpa using hy
      rw [hu] at this
      exact (Option.some.inj this).symm
    subst ey
    refine ⟨_, rfl, wpAny_letOwnedTupleGo_enum (s := { s with heap := h', toks := tk + 1 }) ho (fun h'' he' sb => ?_)⟩
    have hT2 : h''.get? s.heap.objs.size = some { cls := .type "tuple", data := .seq #[.int i tk, y] } := (sb.2 _ (Nat.ne_of_gt hel)).trans hT
    have fresh : ObjOk X.prog X.w (upd H s.heap.objs.size (.tup [.int (i : Nat), x])) h'' s.heap.objs.size (.tup [.int (i : Nat), x]) := ⟨by show 2 ≤ sizeLine; decide, [.int i tk, y], .cons ⟨_, rfl⟩ (.cons ru .nil), _, hT2, rfl, _, rfl⟩
    have I1 : Inv X pins σ (upd H s.heap.objs.size (.tup [.int (i : Nat), x])) { s with heap := h'', toks := tk + 1 } :=
      I.turnedNew (ch := [e, it]) (fun b ob hb q => (sb.2 b (fun z => hb (by simp [z]))).trans (hk b ob (fun z => hb (by simp [z])) (fun z => hb (by simp [z])) q)) hf (Nat.le_refl _) fresh
    refine ⟨.ref s.heap.objs.size, _, I1, rfl, ⟨_, x, rfl, I.hok.fresh (Nat.le_refl _), rfl, fun ys hy => ?_⟩, ⟨⟨y, ?_⟩, hst.1.at (fun o q => (sb.2 it hne.symm).trans q), hne, ha, hae⟩, fun b hb => ?_⟩
    · rw [I.tuple_inj hy hq]
      exact hx
    · rw [show ((i + 1 : Nat) : Int) = (i : Int) + 1 from by omega]
      exact he'
    · have hb' : b < s.heap.objs.size := by
        rcases (by simpa using hb : b = e ∨ b = it) with z | z
        · rw [z]
          exact hel
        · rw [z]
          exact hil
      rw [upd_ne (Nat.ne_of_lt hb')]
      exact (hf b hb).1
  done := by
    intro X hP hw hK hc i pins s σ H E I hf st hg
    subst hP hw hK
    obtain ⟨⟨old, he⟩, hit, hne, ha, hae⟩ := st
    obtain ⟨xs, hq, hx⟩ := hg
    obtain ⟨its, rv, p, hz⟩ := I.tuple hq
    obtain ⟨f0, f1, f2, f3, f4, f5⟩ := hf it (by simp)
    have hl := rv.length
    have hp : p = p := rfl
    have si : its.toArray.size = i ∨ its.toArray.size < i := by
      have : its.toArray.size ≤ i := by
        rw [List.size_toArray]
        omega
      omega
    exact wpAny_pyNext_enumT_end (I.ok.hd hc) he hit p (by simp; omega) fun h' eb => ⟨rfl, I.turned (t' := s.toks) (fun b o hb q => eb b o hb q) f0 f1 f3 f4 f5⟩
  self := fun A i s Q E st h => let ⟨⟨_, he⟩, _⟩ := st; wpAny_pyIter_enum he h
/-- enumerate of a list or a tuple -/
def iEnum2 (K : PySem.W.Frag) (ta : TA) : TI := fun σ H R => ta σ H fun vs H1 => ∃ a xs, vs = [.ref a] ∧ ((SqL K H1 a xs ∧ R (Ite K a) H1) ∨ (SqT K H1 a xs ∧ R (IteT K a) H1))
theorem pi_enum2 {X : Cx} {e : Expr} {ta : TA} {p pos tpos : Pos} {elts : List Expr} {kk : Nat} (hg : Gl X "enumerate") (hm : X.mg "enumerate" = none) (ha : PA X [e] ta) (hs : starEach [e] X.env = [(false, eval e X.env)] := by rfl) :
    PI X (.Tuple elts kk tpos) (.Call (.Name "enumerate" p) [e] [] pos) (iEnum2 X.K ta) := by
  refine ⟨fun pins s σ H R I h => ?_⟩
  refine Call_ (ld_blt I hg hm boot_enumerate (PyProof.Rows.callWith_type1 (thn (ha.run pos pins s σ H _ I h) fun us s1 ⟨vs, H1, I1, r1, q1⟩ => ?_) hs rfl))
  obtain ⟨a, xs, ex, q1⟩ := q1
  subst ex
  cases r1 with
  | cons r rr =>
    cases rr
    cases r
    have fp : ∀ b ∈ [s1.heap.objs.size + 1, s1.heap.objs.size], FpOk X pins H1 b := fun b hb => by
      have hle : s1.heap.objs.size ≤ b := by
        rcases (by simpa using hb : b = s1.heap.objs.size + 1 ∨ b = s1.heap.objs.size) with z | z
        · rw [z]
          exact Nat.le_add_right _ _
        · rw [z]
          exact Nat.le_refl _
      exact I1.fpOk hle (I1.hok.fresh hle)
    rcases q1 with ⟨hq, q⟩ | ⟨hq, q⟩
    · obtain ⟨its, rv, p', hz⟩ := I1.list hq
      refine call_enumerate_list p'.isList fun h' he hit hsz hk => wpAny_pyIter_enum he ?_
      have I2 : Inv X pins σ H1 { s1 with heap := h' } := I1.kept (t' := s1.toks) hk
      exact ⟨s1.heap.objs.size + 1, _, _, _, H1, rfl, I2, turn_enum a (s1.heap.objs.size + 1) s1.heap.objs.size, ⟨⟨.none, he⟩, hit, Nat.succ_ne_self _⟩, fp, q⟩
    · obtain ⟨its, rv, p', hz⟩ := I1.tuple hq
      have hlt : a < s1.heap.objs.size := let ⟨_, e, _⟩ := p'; Heap.lt_size e
      refine call_enum_tuple p' fun h' he hit hsz hk => wpAny_pyIter_enum he ?_
      have I2 : Inv X pins σ H1 { s1 with heap := h' } := I1.kept (t' := s1.toks) hk
      exact ⟨s1.heap.objs.size + 1, _, _, _, H1, rfl, I2, turn_enumT a (s1.heap.objs.size + 1) s1.heap.objs.size, ⟨⟨.none, he⟩, hit, Nat.succ_ne_self _, Nat.ne_of_lt hlt, Nat.ne_of_lt (Nat.lt_succ_of_lt hlt)⟩, fp, q⟩
theorem walk_enumT {K : PySem.W.Frag} {a : Addr} {xs : List V} : Walk (IteT K a) xs.length (fun H => SqT K H a xs) (YPair (fun i => some (.int (i : Nat))) (fun i => xs[i]?)) := by
  refine ⟨fun i _ hi q => ⟨xs, xs[i], q, by simp [hi]⟩, fun _ q => ⟨xs, q, Nat.le_refl _⟩, fun i H v H' _ q y => ?_⟩
  obtain ⟨T, x, h1, h2, h3, h4⟩ := y
  exact ⟨T, .int (i : Nat), x, h1, h2, h3, rfl, h4 xs q⟩
/-- for x in a list or a tuple -/
def iSeq (K : PySem.W.Frag) (te : TE) : TI := fun σ H R => te σ H fun x H1 => ∃ a xs, x = .ref a ∧ ((SqL K H1 a xs ∧ R (Itl K a) H1) ∨ (SqT K H1 a xs ∧ R (Itt K a) H1))
theorem pi_seq {X : Cx} {tg e : Expr} {te : TE} (he : PE X e te) : PI X tg e (iSeq X.K te) := by
  refine ⟨fun pins s σ H R I h => ?_⟩
  refine thn (he.run pins s σ H _ I h) fun v s1 ⟨x, H1, I1, r1, a, xs, ex, q⟩ => ?_
  subst ex
  cases r1
  have fp : ∀ b ∈ [s1.heap.objs.size], FpOk X pins H1 b := fun b hb => by
    rw [List.mem_singleton.mp hb]
    exact I1.fpOk (Nat.le_refl _) (I1.hok.fresh (Nat.le_refl _))
  rcases q with ⟨hq, q⟩ | ⟨hq, q⟩
  · obtain ⟨its, rv, pl, hz⟩ := I1.list hq
    exact wpAny_pyIter_list pl.isList ⟨s1.heap.objs.size, _, _, _, H1, rfl, I1.kept (t' := s1.toks) (fun b o z => Heap.get?_push_of_some _ z), turn_list a _, ⟨_, Heap.get?_push_size _ rfl, rfl, rfl⟩, fp, q⟩
  · obtain ⟨its, rv, pl, hz⟩ := I1.tuple hq
    exact wpAny_pyIter_tuple (show s1.heap.IsTuple a its.toArray from pl) ⟨s1.heap.objs.size, _, _, _, H1, rfl, I1.kept (t' := s1.toks) (fun b o z => Heap.get?_push_of_some _ z), turn_tuple a _, ⟨_, Heap.get?_push_size _ rfl, rfl, rfl⟩, fp, q⟩
end Cr

namespace Cr
open PySem PySem.Spec PyProof.Rows L2 Xv
def LT (H : Hp) (a : Addr) (xs : List V) : Prop := H a = some (.lst xs) ∨ H a = some (.tup xs)
theorem LT.same {H H' : Hp} {a : Addr} {xs : List V} (h : LT H a xs) (s : Same H H') : LT H' a xs := by
  rcases h with h | h
  · exact .inl (s _ _ h)
  · exact .inr (s _ _ h)
theorem LT.seq {H : Hp} {a : Addr} {xs : List V} (h : LT H a xs) (K : PySem.W.Frag) : SqL K H a xs ∨ SqT K H a xs := by
  rcases h with h | h
  · exact .inl (SqL.of h)
  · exact .inr (.inl (.inl h))
/-- a row, passed: a list or tuple of tuples -/
def RowP (H : Hp) (v : V) (r : Rw) : Prop := ∃ a es, v = .ref a ∧ LT H a es ∧ Paired (fun x (e : Int × Int) => ∃ t, x = V.ref t ∧ H t = some (.tup [.int e.1, .int e.2])) es r
/-- rows, passed: a list or tuple of rows -/
def RowsP (H : Hp) (a : Addr) (vs : List V) (rs : List Rw) : Prop := LT H a vs ∧ Paired (RowP H) vs rs
theorem RowP.same {H H' : Hp} {v : V} {r : Rw} (h : RowP H v r) (s : Same H H') : RowP H' v r := by
  obtain ⟨a, es, rfl, hx, hp⟩ := h
  exact ⟨a, es, rfl, hx.same s, Paired.mapP hp fun x e ⟨t, z1, z2⟩ => ⟨t, z1, s _ _ z2⟩⟩
theorem RowsP.same {H H' : Hp} {a : Addr} {vs : List V} {rs : List Rw} (h : RowsP H a vs rs) (s : Same H H') : RowsP H' a vs rs := ⟨h.1.same s, Paired.mapP h.2 fun v r q => q.same s⟩
/-- a new copy of a row -/
theorem copy_lc {K : PySem.W.Frag} {J : It} {G : Hp → Prop} {es : List V} {r : Rw} {σ : L2.St} {H1 : Hp} {D : Addr} {Qd : Hp → Prop} {vs : List Nat} (W : Walk J es.length G (YAt es)) (hG : ∀ H', Same H1 H' → G H') (hp : Paired (fun x (e : Int × Int) => ∃ t, x = V.ref t ∧ H1 t = some (.tup [.int e.1, .int e.2])) es r) (hz : es.length ≤ 1000) (hD : H1 D = none)
    (hw : ∀ v w, wipe (((wipe σ vs).set 4 (some v)).set 5 (some w)) vs = wipe σ vs) (h4 : ∀ v w, (((wipe σ vs).set 4 (some v)).set 5 (some w))[4]? = some (some v)) (h5 : ∀ v w, (((wipe σ vs).set 4 (some v)).set 5 (some w))[5]? = some (some w))
    (hd : ∀ H2 S, Same H1 H2 → (∀ b, S b → Nw H1 H2 b) → Dt K S H2 (.ref D) (rowD r) → Qd H2) :
    ∃ W : Nat → Nat → Hp → Prop, (∃ m, W 0 m (upd H1 D (.lst []))) ∧ ∀ i m H, W i m H →
      (J.stop i H ∧ Qd H) ∨ (J.go i H ∧ ∃ Nx : Hp → Prop, (∀ H', Nx H' → ∃ m', m' < m ∧ W (i + 1) m' H') ∧ ∀ x H', J.yld i H x H' → gTup K 2 (gCons (gName 4) (gCons (gName 5) gNil)) x (wipe σ vs) H' fun σ2 H2 => wipe σ2 vs = wipe σ vs ∧ tYes σ2 H2 fun b H3 =>
        if b = true then tTup (tCons (tVar 4) (tCons (tVar 5) tNil)) σ2 H3 fun y H4 => ∃ acc, H4 D = some (.lst acc) ∧ acc.length < sizeLine ∧ Nx (upd H4 D (.lst (acc ++ [y]))) else Nx H3) := by
  have hl : es.length = r.length := Paired.length hp
  refine lc_it W (fun i H' => ∃ ts : List Addr, ts.length = i ∧ H' D = some (.lst (ts.map V.ref)) ∧ Same H1 H' ∧ (∀ t ∈ ts, H1 t = none ∧ t ≠ D) ∧ Paired (fun t (e : Int × Int) => H' t = some (.tup [.int e.1, .int e.2])) ts (r.take i))
    ⟨[], rfl, upd_same, same_upd hD, by simp, .nil⟩ (fun i H' _ ⟨_, _, _, s, _⟩ => hG _ s) (fun i x H' H'' hi e y => ?_) (fun H' e => ?_)
  · obtain ⟨rfl, hx⟩ := y
    obtain ⟨ts, e1, e2, e3, e4, e5⟩ := e
    obtain ⟨e, he, t0, rfl, ht0⟩ := Xv.paired_get hp hx
    refine ⟨t0, _, rfl, .inl (.inl (e3 _ _ ht0)), rfl, _, _, rfl, _, _, rfl, ⟨rfl, hw _ _, ?_⟩⟩
    unfold tYes
    dsimp only
    rw [if_pos rfl]
    refine ⟨_, h4 _ _, _, h5 _ _, by show 2 ≤ sizeLine; decide, fun t nt => ?_⟩
    have ntD : D ≠ t := ne_of_none e2 nt
    have nt1 : H1 t = none := by
      cases q : H1 t with
      | none => rfl
      | some o =>
        rw [e3 _ _ q] at nt
        cases nt
    refine ⟨_, by rw [upd_ne ntD]; exact e2, by rw [List.length_map, sizeLine_eq]; omega, ts ++ [t], by rw [List.length_append, e1]; rfl, by rw [upd_same, List.map_append]; rfl, fun b o q => ?_, fun s hs => ?_, ?_⟩
    · rw [upd_ne (ne_of_none q hD), upd_ne (ne_of_none (e3 _ _ q) nt)]
      exact e3 _ _ q
    · rcases List.mem_append.mp hs with z | z
      · exact e4 s z
      · rw [List.mem_singleton.mp z]
        exact ⟨nt1, ntD.symm⟩
    · rw [Xv.take_step he]
      refine pr_app (pr_map e5 fun s e' hs q => ?_) (.cons ?_ .nil)
      · rw [upd_ne (e4 s hs).2, upd_ne (ne_of_none q nt)]
        exact q
      · rw [upd_ne ntD.symm, upd_same]
  · obtain ⟨ts, e1, e2, e3, e4, e5⟩ := e
    rw [hl, List.take_length] at e5
    refine hd H' (fun b => b = D ∨ b ∈ ts) e3 (fun b hb => ?_) ?_
    · rcases hb with z | z
      · subst z
        exact ⟨hD, by rw [e2]; simp⟩
      · obtain ⟨e, q⟩ := pr_mem e5 z
        exact ⟨(e4 b z).1, by rw [q]; simp⟩
    · refine .lst (by rw [vw_at (.inl rfl)]; exact e2) ?_
      have all : ∀ {us : List Addr} {q : Rw}, (∀ t ∈ us, t ∈ ts) → Paired (fun t (e : Int × Int) => H' t = some (.tup [.int e.1, .int e.2])) us q → TrAll (Vw (fun b => b = D ∨ b ∈ ts) H') (us.map V.ref) (q.map fun e => .tuple [.int e.1, .int e.2]) := fun {us q} hm hq => by
        induction hq with
        | nil => exact .nil
        | cons h _ ih => exact .cons (.tup (by rw [vw_at (.inr (hm _ List.mem_cons_self))]; exact h) (.cons (.int _) (.cons (.int _) .nil))) (ih fun t ht => hm t (List.mem_cons_of_mem _ ht))
      exact all (fun _ h => h) e5
/-- a new copy of rows: as an instance keeps them -/
theorem rows_copy {K : PySem.W.Frag} {J : It} {G : Hp → Prop} {xs : List V} {rs : List Rw} {x0 x1 x2 u3 u4 u5 : Option V} {H1 : Hp} {D : Addr} {Qd : Hp → Prop} (W : Walk J xs.length G (YAt xs)) (hG : ∀ H', Same H1 H' → G H') (hp : Paired (RowP H1) xs rs) (hz : xs.length ≤ 1000) (hz2 : ∀ r ∈ rs, r.length ≤ 1000) (hD : H1 D = none)
    (hd : ∀ H2 S, Same H1 H2 → (∀ b, S b → Nw H1 H2 b) → Dt K S H2 (.ref D) (rowsD rs) → Qd H2) :
    ∃ W : Nat → Nat → Hp → Prop, (∃ m, W 0 m (upd H1 D (.lst []))) ∧ ∀ i m H, W i m H →
      (J.stop i H ∧ Qd H) ∨ (J.go i H ∧ ∃ Nx : Hp → Prop, (∀ H', Nx H' → ∃ m', m' < m ∧ W (i + 1) m' H') ∧ ∀ x H', J.yld i H x H' → gName 3 x (wipe [x0, x1, x2, u3, u4, u5] [3]) H' fun σ2 H2 => wipe σ2 [3] = wipe [x0, x1, x2, u3, u4, u5] [3] ∧ tYes σ2 H2 fun b H3 =>
        if b = true then tLc (iSeq K (tVar 3)) (gTup K 2 (gCons (gName 4) (gCons (gName 5) gNil))) tYes (tTup (tCons (tVar 4) (tCons (tVar 5) tNil))) [4, 5] σ2 H3 fun y H4 => ∃ acc, H4 D = some (.lst acc) ∧ acc.length < sizeLine ∧ Nx (upd H4 D (.lst (acc ++ [y]))) else Nx H3) := by
  have hl : xs.length = rs.length := Paired.length hp
  refine lc_it W (fun i H' => ∃ (ls : List Addr) (S : Addr → Prop), ls.length = i ∧ H' D = some (.lst (ls.map V.ref)) ∧ Same H1 H' ∧ (∀ b, S b → Nw H1 H' b ∧ b ≠ D) ∧ Paired (fun l r => Dt K S H' (.ref l) (rowD r)) ls (rs.take i))
    ⟨[], fun _ => False, rfl, upd_same, same_upd hD, fun _ z => z.elim, .nil⟩ (fun i H' _ ⟨_, _, _, _, s, _⟩ => hG _ s) (fun i x H' H'' hi e y => ?_) (fun H' e => ?_)
  · obtain ⟨rfl, hx⟩ := y
    obtain ⟨ls, S, e1, e2, e3, e4, e5⟩ := e
    obtain ⟨r, hr, rp⟩ := Xv.paired_get hp hx
    obtain ⟨a, es, rfl, hxs, hps⟩ := rp.same e3
    have hle : es.length ≤ 1000 := by
      rw [show es.length = r.length from Paired.length hps]
      exact hz2 r (List.mem_of_getElem? hr)
    refine ⟨rfl, ?_⟩
    unfold tYes
    dsimp only
    rw [if_pos rfl]
    have fin : ∀ D2, H'' D2 = none → ∀ (H2 : Hp) (S2 : Addr → Prop), Same H'' H2 → (∀ b, S2 b → Nw H'' H2 b) → Dt K S2 H2 (.ref D2) (rowD r) →
        ∃ acc, H2 D = some (.lst acc) ∧ acc.length < sizeLine ∧ ∃ (ls : List Addr) (S : Addr → Prop), ls.length = i + 1 ∧ upd H2 D (.lst (acc ++ [V.ref D2])) D = some (.lst (ls.map V.ref)) ∧ Same H1 (upd H2 D (.lst (acc ++ [V.ref D2]))) ∧ (∀ b, S b → Nw H1 (upd H2 D (.lst (acc ++ [V.ref D2]))) b ∧ b ≠ D) ∧ Paired (fun l r => Dt K S (upd H2 D (.lst (acc ++ [V.ref D2]))) (.ref l) (rowD r)) ls (rs.take (i + 1)) := fun D2 hD2 H2 S2 s2 n2 d2 => by
      have nS2 : ∀ b, S2 b → b ≠ D := fun b hb z => by
        have := (n2 b hb).1
        rw [z, e2] at this
        cases this
      have fr : Fr (fun b => b = D) H'' (upd H2 D (.lst (ls.map V.ref ++ [V.ref D2]))) := fun b o n q => by
        rw [upd_ne n]
        exact s2 _ _ q
      refine ⟨_, s2 _ _ e2, by rw [List.length_map, sizeLine_eq]; omega, ls ++ [D2], fun b => S b ∨ S2 b, by rw [List.length_append, e1]; rfl, by rw [upd_same, List.map_append]; rfl, fun b o q => ?_, fun b hb => ?_, ?_⟩
      · rw [upd_ne (ne_of_none q hD)]
        exact s2 _ _ (e3 _ _ q)
      · rcases hb with z | z
        · obtain ⟨⟨z1, z2⟩, z3⟩ := e4 b z
          refine ⟨⟨z1, ?_⟩, z3⟩
          obtain ⟨o, q⟩ := Option.ne_none_iff_exists'.mp z2
          rw [upd_ne z3, s2 _ _ q]
          simp
        · refine ⟨⟨?_, ?_⟩, nS2 b z⟩
          · cases q : H1 b with
            | none => rfl
            | some o =>
              have := (n2 b z).1
              rw [e3 _ _ q] at this
              cases this
          · rw [upd_ne (nS2 b z)]
            exact (n2 b z).2
      · rw [Xv.take_step hr]
        refine pr_app (pr_map e5 fun l q _ d => Dt.mono (d.fr fr fun b hb => (e4 b hb).2) fun b hb => .inl hb) (.cons ?_ .nil)
        exact Dt.mono (d2.fr (M := fun b => b = D) (Fr.set (Fr.refl _ _) rfl) fun b hb => nS2 b hb) fun b hb => .inr hb
    rcases hxs with z | z
    · exact ⟨_, rfl, a, es, rfl, .inl ⟨SqL.of z, fun D2 hD2 => copy_lc walk_list (fun H' s => SqL.of (s _ _ z)) hps hle hD2 (fun _ _ => rfl) (fun _ _ => rfl) (fun _ _ => rfl) fun H2 S2 s2 n2 d2 => fin D2 hD2 H2 S2 s2 n2 d2⟩⟩
    · exact ⟨_, rfl, a, es, rfl, .inr ⟨.inl (.inl z), fun D2 hD2 => copy_lc walk_tup (fun H' s => .inl (.inl (s _ _ z))) hps hle hD2 (fun _ _ => rfl) (fun _ _ => rfl) (fun _ _ => rfl) fun H2 S2 s2 n2 d2 => fin D2 hD2 H2 S2 s2 n2 d2⟩⟩
  · obtain ⟨ls, S, e1, e2, e3, e4, e5⟩ := e
    rw [hl, List.take_length] at e5
    refine hd H' (fun b => S b ∨ b = D) e3 (fun b hb => ?_) ?_
    · rcases hb with z | z
      · exact (e4 b z).1
      · subst z
        exact ⟨hD, by rw [e2]; simp⟩
    · refine .lst (by rw [vw_at (.inr rfl)]; exact e2) ?_
      have all : ∀ {us : List Addr} {q : List Rw}, Paired (fun l r => Dt K S H' (.ref l) (rowD r)) us q → TrAll (Vw (fun b => S b ∨ b = D) H') (us.map V.ref) (q.map rowD) := fun {us q} hq => by
        induction hq with
        | nil => exact .nil
        | cons h _ ih => exact .cons (Dt.mono h fun b hb => .inl hb) ih
      exact all e5
end Cr


namespace K11
open PySem PySem.Spec PyProof.Rows L2 Xv Cr TL
/-! ### the numbers of the program -/
structure Cn (mg : Str → Option Value) : Prop where
  letters : ∃ t, mg "LETTERS" = some (.str sgn t)
  longest : ∃ t, mg "LONGEST_NAME" = some (.int 8 t)
  answer : ∃ t, mg "GREATEST_ANSWER" = some (.int 9 t)
  deeds : ∃ t, mg "MOST_DEEDS" = some (.int 4 t)
  states : ∃ t, mg "MOST_STATES" = some (.int 8 t)
def rSgn : R2 := fun x y H Q => ∃ (c : Nat) (z : Str), x = .str ⟨#[c]⟩ ∧ y = .str z ∧ Q (.bl (decide (c ∈ z.cps.toList))) H
def spInt : Sp := fun vs H Q _ => ∃ i : Int, vs = [.int i] ∧ Q (.bl true) H
def spIntF : Sp := fun vs H Q _ => ∃ i a b : Int, vs = [.int i, .int a, .int b] ∧ Q (.bl (decide (a ≤ i) && decide (i ≤ b))) H
def spIsList : Sp := fun vs H Q _ => ∃ a xs, vs = [.ref a] ∧ LT H a xs ∧ ∀ H', Same H H' → Q (.bl true) H'
def spFilled : Sp := fun vs H Q _ => ∃ a xs, vs = [.ref a] ∧ LT H a xs ∧ ∀ H', Same H H' → Q (.bl (decide (0 < xs.length))) H'
def spIsName : Sp := fun vs H Q _ => ∃ x : Str, vs = [.str x] ∧ Nm x ∧ ∀ H', Same H H' → Q (.bl true) H'
def spAns : Sp := fun vs H Q _ => ∃ i : Int, vs = [.int i] ∧ Q (.bl (decide ((0 : Int) ≤ i) && decide (i ≤ 9))) H
def spEntry : Sp := fun vs H Q _ => ∃ (t : Addr) (a b n : Int), vs = [.ref t, .int n] ∧ H t = some (.tup [.int a, .int b]) ∧ (0 ≤ a ∧ a < 10) ∧ (0 ≤ b ∧ b < n) ∧ Q (.bl true) H
def spLimit : Sp := fun vs H Q _ => ∃ (x : V) (m l : Int), vs = [x, .int m, .int l] ∧ m ≤ l ∧ Q .non H
def spRow : Sp := fun vs H Q _ => ∃ (v : V) (r : Rw) (d n : Int), vs = [v, .int d, .int n] ∧ RowP H v r ∧ ((r.length : Int) = d ∧ r.length ≤ 1000) ∧ (∀ e ∈ r, (0 ≤ e.1 ∧ e.1 < 10) ∧ (0 ≤ e.2 ∧ e.2 < n)) ∧ ∀ H', Same H H' → Q (.bl true) H'
/-- each entry of a row is one: the entry in slot 3, the states in slot 2 -/
theorem row_lc {J : It} {G : Hp → Prop} {es : List V} {r : Rw} {n : Int} {σ : L2.St} {H1 : Hp} {D : Addr} {Qd : Hp → Prop} (W : Walk J es.length G (YAt es)) (hG : ∀ H', Same H1 H' → G H') (hp : Paired (fun x (e : Int × Int) => ∃ t, x = V.ref t ∧ H1 t = some (.tup [.int e.1, .int e.2])) es r)
    (hb : ∀ e ∈ r, (0 ≤ e.1 ∧ e.1 < 10) ∧ (0 ≤ e.2 ∧ e.2 < n)) (hz : es.length ≤ 1000) (hD : H1 D = none) (h3 : ∀ v, ((wipe σ [3]).set 3 (some v))[3]? = some (some v)) (h2 : ∀ v, ((wipe σ [3]).set 3 (some v))[2]? = some (some (.int n)))
    (hd : ∀ H2, H2 = upd H1 D (.lst (List.replicate es.length (V.bl true))) → Qd H2) :
    ∃ W : Nat → Nat → Hp → Prop, (∃ m, W 0 m (upd H1 D (.lst []))) ∧ ∀ i m H, W i m H →
      (J.stop i H ∧ Qd H) ∨ (J.go i H ∧ ∃ Nx : Hp → Prop, (∀ H', Nx H' → ∃ m', m' < m ∧ W (i + 1) m' H') ∧ ∀ x H', J.yld i H x H' → gName 3 x (wipe σ [3]) H' fun σ2 H2 => wipe σ2 [3] = wipe σ [3] ∧ tYes σ2 H2 fun b H3 =>
        if b = true then tCall spEntry [] E0 (tCons (tVar 3) (tCons (tVar 2) tNil)) σ2 H3 fun y H4 => ∃ acc, H4 D = some (.lst acc) ∧ acc.length < sizeLine ∧ Nx (upd H4 D (.lst (acc ++ [y]))) else Nx H3) := by
  refine lc_it W (fun i H' => H' = upd H1 D (.lst (List.replicate i (V.bl true)))) rfl (fun i H' _ e => by rw [e]; exact hG _ (same_upd hD)) (fun i x H' H'' hi e y => ?_) (fun H' e => hd H' e)
  obtain ⟨rfl, hx⟩ := y
  subst e
  obtain ⟨e, he, t, rfl, ht⟩ := Xv.paired_get hp hx
  obtain ⟨ba, bn⟩ := hb e (List.mem_of_getElem? he)
  refine ⟨wipe_back, ?_⟩
  unfold tYes
  dsimp only
  rw [if_pos rfl]
  refine ⟨_, h3 _, _, h2 _, t, e.1, e.2, n, rfl, same_upd hD _ _ ht, ba, bn, _, upd_same, by rw [List.length_replicate, sizeLine_eq]; omega, ?_⟩
  rw [upd_upd, ← List.replicate_succ']
abbrev s_is_integer : Stmt := top 15
abbrev N_is_integer : List Str := ["value"]
theorem sc_is_integer : FnScope N_is_integer ["value"] (defScope s_is_integer) := ⟨rfl, rfl, rfl, by decide +kernel, rfl, by decide +kernel, by decide +kernel⟩
abbrev s_is_integer_from : Stmt := top 16
abbrev N_is_integer_from : List Str := ["value", "low", "high"]
theorem sc_is_integer_from : FnScope N_is_integer_from ["value", "low", "high"] (defScope s_is_integer_from) := ⟨rfl, rfl, rfl, by decide +kernel, rfl, by decide +kernel, by decide +kernel⟩
abbrev s_is_list : Stmt := top 17
abbrev N_is_list : List Str := ["value"]
theorem sc_is_list : FnScope N_is_list ["value"] (defScope s_is_list) := ⟨rfl, rfl, rfl, by decide +kernel, rfl, by decide +kernel, by decide +kernel⟩
abbrev s_is_filled_list : Stmt := top 18
abbrev N_is_filled_list : List Str := ["value"]
theorem sc_is_filled_list : FnScope N_is_filled_list ["value"] (defScope s_is_filled_list) := ⟨rfl, rfl, rfl, by decide +kernel, rfl, by decide +kernel, by decide +kernel⟩
abbrev s_is_name : Stmt := top 19
abbrev N_is_name : List Str := ["value", "letter"]
theorem sc_is_name : FnScope N_is_name ["value"] (defScope s_is_name) := ⟨rfl, rfl, rfl, by decide +kernel, rfl, by decide +kernel, by decide +kernel⟩
abbrev s_is_answer : Stmt := top 20
abbrev N_is_answer : List Str := ["value"]
theorem sc_is_answer : FnScope N_is_answer ["value"] (defScope s_is_answer) := ⟨rfl, rfl, rfl, by decide +kernel, rfl, by decide +kernel, by decide +kernel⟩
abbrev s_is_entry : Stmt := top 21
abbrev N_is_entry : List Str := ["value", "states"]
theorem sc_is_entry : FnScope N_is_entry ["value", "states"] (defScope s_is_entry) := ⟨rfl, rfl, rfl, by decide +kernel, rfl, by decide +kernel, by decide +kernel⟩
abbrev s_check_limit : Stmt := top 25
abbrev N_check_limit : List Str := ["what", "many", "limit"]
theorem sc_check_limit : FnScope N_check_limit ["what", "many", "limit"] (defScope s_check_limit) := ⟨rfl, rfl, rfl, by decide +kernel, rfl, by decide +kernel, by decide +kernel⟩
abbrev s_is_row : Stmt := top 27
abbrev N_is_row : List Str := ["row", "deeds", "states", "entry"]
theorem sc_is_row : FnScope N_is_row ["row", "deeds", "states"] (defScope s_is_row) := ⟨rfl, rfl, rfl, by decide +kernel, rfl, by decide +kernel, by decide +kernel⟩
section
variable {P : Program} {w : World} {K : PySem.W.Frag} {mg : Str → Option Value} {base : Heap}
theorem ok_is_integer {f : Addr} {fd : FuncData} (F : Fun K "is_integer" "is_integer" s_is_integer f fd) (T : Bl mg) (C : Cn mg) : FnOk P w K mg base CX0 1 f fd ["value"] spInt := by
  refine F.ok sc_is_integer (fun vs H Q E h => ?_) (fun cdv A outer s H vs Q E hr h => ?_)
  · obtain ⟨i, rfl, _⟩ := h
    rfl
  · obtain ⟨i, rfl, q⟩ := h
    refine ⟨_, (pss_one (ps_ret (pe_and (pe_callB (id := "isinstance") call_isi (by rfl) T.isinstance (by decide +kernel) (pa_cons (pv 0) (pa_cons (pe_bltn (v := .ty "int") (by rfl) T.int (by decide +kernel) rfl) pa_nil))) (pe_one (pe_not (pe_callB (id := "isinstance") call_isi (by rfl) T.isinstance (by decide +kernel) (pa_cons (pv 0) (pa_cons (pe_bltn (v := .ty "bool") (by rfl) T.bool (by decide +kernel) rfl) pa_nil)))))))), ?_⟩
    refine ⟨_, rfl, _, _, _, _, _, rfl, .ty _, .base (.int i), kit_ty (by kernel_rfl), true, rfl, ite2 (fun _ => ?_) (fun z => absurd rfl z)⟩
    exact ⟨_, rfl, _, _, _, _, _, rfl, .ty _, .base (.int i), kit_ty (b := "bool") (r := false) (by kernel_rfl), false, rfl, q⟩
theorem ok_is_integer_from {f : Addr} {fd : FuncData} (F : Fun K "is_integer_from" "is_integer_from" s_is_integer_from f fd) (T : Bl mg) (C : Cn mg) (c_is_integer : Cl P w K mg base 1 "is_integer" spInt) : FnOk P w K mg base CX0 2 f fd ["value", "low", "high"] spIntF := by
  refine F.ok sc_is_integer_from (fun vs H Q E h => ?_) (fun cdv A outer s H vs Q E hr h => ?_)
  · obtain ⟨i, a, b, rfl, _⟩ := h
    rfl
  · obtain ⟨i, a, b, rfl, q⟩ := h
    refine ⟨_, (pss_one (ps_ret (pe_and (pe_cl c_is_integer hr (by decide) (by rfl) (pa_cons (pv 0) pa_nil)) (pe_one (pe_chain op_le op_le (pv 1) (pv 0) (pv 2)))))), ?_⟩
    refine ⟨_, rfl, i, rfl, true, rfl, ite2 (fun _ => ?_) (fun z => absurd rfl z)⟩
    refine ⟨_, rfl, _, rfl, _, _, rfl, rfl, _, rfl, ite2 (fun z1 => ?_) (fun z1 => ?_)⟩
    · refine ⟨_, rfl, _, _, rfl, rfl, ?_⟩
      rw [z1, Bool.true_and] at q
      exact q
    · rw [show decide (a ≤ i) = false from by simpa using z1, Bool.false_and] at q
      exact q
theorem ok_is_list {f : Addr} {fd : FuncData} (F : Fun K "is_list" "is_list" s_is_list f fd) (T : Bl mg) (C : Cn mg) : FnOk P w K mg base CX0 1 f fd ["value"] spIsList := by
  refine F.ok sc_is_list (fun vs H Q E h => ?_) (fun cdv A outer s H vs Q E hr h => ?_)
  · obtain ⟨a, xs, rfl, _⟩ := h
    rfl
  · obtain ⟨a, xs, rfl, hx, q⟩ := h
    refine ⟨_, (pss_one (ps_ret (pe_callB (id := "isinstance") call_isiT (by rfl) T.isinstance (by decide +kernel) (pa_cons (pv 0) (pa_cons (pe_tup (pa_cons (pe_bltn (v := .ty "list") (by rfl) T.list (by decide +kernel) rfl) (pa_cons (pe_bltn (v := .ty "tuple") (by rfl) T.tuple (by decide +kernel) rfl) pa_nil))) pa_nil))))), ?_⟩
    refine ⟨_, rfl, by show 2 ≤ sizeLine; decide, fun t nt => ?_⟩
    have nat_ : a ≠ t := by
      rcases hx with z | z
      · exact ne_of_none z nt
      · exact ne_of_none z nt
    rcases hx with z | z
    · exact ⟨_, t, _, _, _, true, rfl, upd_same, .cons (.ty _) (.cons (.ty _) .nil), .base (.lst (xs := xs) (by rw [upd_ne nat_]; exact z)), by kernel_rfl, q _ (same_upd nt)⟩
    · exact ⟨_, t, _, _, _, true, rfl, upd_same, .cons (.ty _) (.cons (.ty _) .nil), .base (.tup (xs := xs) (by rw [upd_ne nat_]; exact z)), by kernel_rfl, q _ (same_upd nt)⟩
theorem ok_is_filled_list {f : Addr} {fd : FuncData} (F : Fun K "is_filled_list" "is_filled_list" s_is_filled_list f fd) (T : Bl mg) (C : Cn mg) (c_is_list : Cl P w K mg base 1 "is_list" spIsList) : FnOk P w K mg base CX0 2 f fd ["value"] spFilled := by
  refine F.ok sc_is_filled_list (fun vs H Q E h => ?_) (fun cdv A outer s H vs Q E hr h => ?_)
  · obtain ⟨a, xs, rfl, _⟩ := h
    rfl
  · obtain ⟨a, xs, rfl, hx, q⟩ := h
    refine ⟨_, (pss_one (ps_ret (pe_and (pe_cl c_is_list hr (by decide) (by rfl) (pa_cons (pv 0) pa_nil)) (pe_one (pe_cmpR op_gt (pe_callB (id := "len") (call_ln) (by rfl) T.len (by decide +kernel) (pa_cons (pv 0) pa_nil)) pe_int (nomark _)))))), ?_⟩
    refine ⟨_, rfl, a, xs, rfl, hx, fun H1 s1 => ⟨true, rfl, ite2 (fun _ => ?_) (fun z => absurd rfl z)⟩⟩
    have hx1 := hx.same s1
    refine ⟨_, rfl, a, xs, rfl, hx1.seq K, _, _, rfl, rfl, ?_⟩
    have e : decide ((0 : Int) < ((xs.length : Nat) : Int)) = decide (0 < xs.length) := decide_eq_decide.mpr (by omega)
    show Q (V.bl (decide ((0 : Int) < ((xs.length : Nat) : Int)))) H1
    rw [e]
    exact q H1 s1
theorem ok_is_name {f : Addr} {fd : FuncData} (F : Fun K "is_name" "is_name" s_is_name f fd) (T : Bl mg) (C : Cn mg) : FnOk P w K mg base CX0 1 f fd ["value"] spIsName := by
  refine F.ok sc_is_name (fun vs H Q E h => ?_) (fun cdv A outer s H vs Q E hr h => ?_)
  · obtain ⟨x, rfl, _⟩ := h
    rfl
  · obtain ⟨x, rfl, hx, q⟩ := h
    refine ⟨_, (pss_cons (ps_if (PW.pt (pw_or (pt_not (pt_val (pe_callB (id := "isinstance") call_isi (by rfl) T.isinstance (by decide +kernel) (pa_cons (pv 0) (pa_cons (pe_bltn (v := .ty "str") (by rfl) T.str (by decide +kernel) rfl) pa_nil))))) (pw_or1 (pt_not (pt_chain op_le op_le pe_int (pe_callB (id := "len") (call_len) (by rfl) T.len (by decide +kernel) (pa_cons (pv 0) pa_nil)) (pe_glob (v := .int 8) (by rfl) C.longest.choose_spec ⟨_, rfl⟩)))))) (pss_one (ps_ret pe_bl)) pss_nil)
  (pss_one (ps_ret (pe_callB (id := "all") (cr_all rfl) (by rfl) T.all (by decide +kernel) (pa_cons (pe_lc (own := [("letter", 1)]) (g := gName 1) (tt := tYes) (te := tOp rSgn (tVar 1) (tC (.str sgn))) rfl sc_is_name.nd (pi_str (pv 0)) (blkOk_by (N := N_is_name) (sc := defScope s_is_name) (by decide +kernel)) (fun _ _ _ _ _ => (pg_name (i := 1) sc_is_name.nd rfl (Or.inl rfl))) (fun _ _ _ _ _ => pts_nil) (fun _ _ _ _ _ => (pe_cmpR op_in_sign (pv 1) (pe_glob (v := .str sgn) (by rfl) C.letters.choose_spec ⟨_, rfl⟩) (by rfl)))) pa_nil))))), ?_⟩
    refine ⟨_, rfl, _, _, _, _, _, rfl, .ty _, .base (.str x), kit_ty (r := true) (by kernel_rfl), true, rfl, ite2 (fun z => nomatch z) (fun _ => ?_)⟩
    obtain ⟨h1, h8, hc⟩ := hx
    refine ⟨_, rfl, _, _, rfl, ⟨by rw [sizeLine_eq]; omega, rfl⟩, _, _, rfl, rfl, _, rfl, ite2 (fun _ => ?_) (fun z => ?_)⟩
    · refine ⟨_, _, rfl, rfl, _, rfl, ite2 (fun z => ?_) (fun _ => ?_)⟩
      · have : decide ((x.length : Int) ≤ 8) = true := decide_eq_true (by omega)
        rw [this] at z
        cases z
      · refine ⟨_, rfl, x, rfl, fun D hD => ?_⟩
        refine lc_it (n := x.cps.size) (G := fun _ => True) walk_str (fun j H' => H' = upd H D (.lst (List.replicate j (V.bl true)))) rfl (fun _ _ _ _ => trivial) (fun j v H' H'' hj e y => ?_) (fun H' e => ?_)
        · obtain ⟨rfl, c, e1, rfl⟩ := y
          subst e
          refine ⟨wipe_back, ?_⟩
          unfold tYes
          dsimp only
          rw [if_pos rfl]
          have hm : c ∈ x.cps.toList := by
            have : x.cps.toList[j]? = some c := by simpa using e1
            exact List.mem_of_getElem? this
          have hin : decide (c ∈ sgn.cps.toList) = true := decide_eq_true (by
            rw [sgn_list, List.mem_range'_1]
            have := hc c hm
            omega)
          refine ⟨_, rfl, c, sgn, rfl, rfl, _, upd_same, by rw [List.length_replicate, sizeLine_eq]; have : x.cps.size = x.length := rfl; omega, ?_⟩
          rw [hin, upd_upd, ← List.replicate_succ']
        · subst e
          refine ⟨D, List.replicate x.cps.size true, rfl, SqL.of (by rw [upd_same, List.map_replicate]), ?_⟩
          rw [show (List.replicate x.cps.size true).all id = true from by
            rw [List.all_eq_true]
            intro b hb
            rw [List.eq_of_mem_replicate hb]
            rfl]
          exact q _ (same_upd hD)
    · exact absurd (show decide ((1 : Int) ≤ (x.length : Nat)) = true from decide_eq_true (by omega)) z
theorem ok_is_answer {f : Addr} {fd : FuncData} (F : Fun K "is_answer" "is_answer" s_is_answer f fd) (T : Bl mg) (C : Cn mg) (c_is_integer_from : Cl P w K mg base 2 "is_integer_from" spIntF) : FnOk P w K mg base CX0 3 f fd ["value"] spAns := by
  refine F.ok sc_is_answer (fun vs H Q E h => ?_) (fun cdv A outer s H vs Q E hr h => ?_)
  · obtain ⟨i, rfl, _⟩ := h
    rfl
  · obtain ⟨i, rfl, q⟩ := h
    refine ⟨_, (pss_one (ps_ret (pe_cl c_is_integer_from hr (by decide) (by rfl) (pa_cons (pv 0) (pa_cons pe_int (pa_cons (pe_glob (v := .int 9) (by rfl) C.answer.choose_spec ⟨_, rfl⟩) pa_nil)))))), ?_⟩
    exact ⟨_, rfl, i, 0, 9, rfl, q⟩
theorem ok_is_entry {f : Addr} {fd : FuncData} (F : Fun K "is_entry" "is_entry" s_is_entry f fd) (T : Bl mg) (C : Cn mg) (c_is_answer : Cl P w K mg base 3 "is_answer" spAns) (c_is_integer_from : Cl P w K mg base 2 "is_integer_from" spIntF) : FnOk P w K mg base CX0 4 f fd ["value", "states"] spEntry := by
  refine F.ok sc_is_entry (fun vs H Q E h => ?_) (fun cdv A outer s H vs Q E hr h => ?_)
  · obtain ⟨t, a, b, n, rfl, _⟩ := h
    rfl
  · obtain ⟨t, a, b, n, rfl, ht, ha, hb, q⟩ := h
    refine ⟨_, (pss_cons (ps_if (PW.pt (pw_or (pt_not (pt_val (pe_callB (id := "isinstance") call_isi (by rfl) T.isinstance (by decide +kernel) (pa_cons (pv 0) (pa_cons (pe_bltn (v := .ty "tuple") (by rfl) T.tuple (by decide +kernel) rfl) pa_nil))))) (pw_or1 (pt_cmpR op_ne (pe_callB (id := "len") (call_ln) (by rfl) T.len (by decide +kernel) (pa_cons (pv 0) pa_nil)) pe_int (nomark _))))) (pss_one (ps_ret pe_bl)) pss_nil)
  (pss_one (ps_ret (pe_and (pe_cl c_is_answer hr (by decide) (by rfl) (pa_cons (pe_ix ix_tup (pv 0) pe_int (fun _ _ => rfl)) pa_nil)) (pe_one (pe_cl c_is_integer_from hr (by decide) (by rfl) (pa_cons (pe_ix ix_tup (pv 0) pe_int (fun _ _ => rfl)) (pa_cons pe_int (pa_cons (pe_op op_sub (pv 1) pe_int) pa_nil))))))))), ?_⟩
    refine ⟨_, rfl, _, _, _, _, _, rfl, .ty _, .base (.tup ht), kit_ty (r := true) (by kernel_rfl), true, rfl, ite2 (fun z => nomatch z) (fun _ => ?_)⟩
    refine ⟨_, rfl, t, _, rfl, .inr (.inl (.inl ht)), rfl, _, rfl, ite2 (fun z => nomatch z) (fun _ => ?_)⟩
    refine ⟨_, rfl, _, _, _, _, rfl, rfl, .inl (.inl ht), rfl, a, rfl, _, rfl, ite2 (fun _ => ?_) (fun z => ?_)⟩
    · refine ⟨_, rfl, _, _, _, _, rfl, rfl, .inl (.inl ht), rfl, _, rfl, _, _, rfl, rfl, b, 0, n - 1, rfl, ?_⟩
      rw [show (decide ((0 : Int) ≤ b) && decide (b ≤ n - 1)) = true from by rw [decide_eq_true hb.1, decide_eq_true (by omega : b ≤ n - 1)]; rfl]
      exact q
    · exact absurd (show (decide ((0 : Int) ≤ a) && decide (a ≤ 9)) = true from by rw [decide_eq_true ha.1, decide_eq_true (by omega : a ≤ 9)]; rfl) z
theorem ok_check_limit {f : Addr} {fd : FuncData} (F : Fun K "check_limit" "check_limit" s_check_limit f fd) (T : Bl mg) (C : Cn mg) : FnOk P w K mg base CX0 1 f fd ["what", "many", "limit"] spLimit := by
  refine F.ok sc_check_limit (fun vs H Q E h => ?_) (fun cdv A outer s H vs Q E hr h => ?_)
  · obtain ⟨x, m, l, rfl, _⟩ := h
    rfl
  · obtain ⟨x, m, l, rfl, hm, q⟩ := h
    refine ⟨_, (pss_one (ps_if (pt_cmpR op_gt (pv 1) (pv 2) (nomark _)) (pss_one ps_never) pss_nil)), ?_⟩
    refine ⟨_, rfl, _, rfl, _, _, rfl, rfl, _, rfl, ite2 (fun z => ?_) (fun _ => q)⟩
    exact absurd (of_decide_eq_true z) (by omega)
theorem ok_is_row {f : Addr} {fd : FuncData} (F : Fun K "is_row" "is_row" s_is_row f fd) (T : Bl mg) (C : Cn mg) (c_is_list : Cl P w K mg base 1 "is_list" spIsList) (c_is_entry : Cl P w K mg base 4 "is_entry" spEntry) : FnOk P w K mg base CX0 5 f fd ["row", "deeds", "states"] spRow := by
  refine F.ok sc_is_row (fun vs H Q E h => ?_) (fun cdv A outer s H vs Q E hr h => ?_)
  · obtain ⟨v, r, dd, n, rfl, _⟩ := h
    rfl
  · obtain ⟨v, r, dd, n, rfl, hr0, hl, ht, q⟩ := h
    refine ⟨_, (pss_cons (ps_if (PW.pt (pw_or (pt_not (pt_val (pe_cl c_is_list hr (by decide) (by rfl) (pa_cons (pv 0) pa_nil)))) (pw_or1 (pt_cmpR op_ne (pe_callB (id := "len") (call_ln) (by rfl) T.len (by decide +kernel) (pa_cons (pv 0) pa_nil)) (pv 1) (nomark _))))) (pss_one (ps_ret pe_bl)) pss_nil)
  (pss_one (ps_ret (pe_callB (id := "all") (cr_all rfl) (by rfl) T.all (by decide +kernel) (pa_cons (pe_lc (own := [("entry", 3)]) (g := gName 3) (tt := tYes) (te := tCall spEntry [] E0 (tCons (tVar 3) (tCons (tVar 2) tNil))) rfl sc_is_row.nd (pi_seq (pv 0)) (blkOk_by (N := N_is_row) (sc := defScope s_is_row) (by decide +kernel)) (fun _ _ _ _ _ => (pg_name (i := 3) sc_is_row.nd rfl (Or.inl rfl))) (fun _ _ _ _ _ => pts_nil) (fun _ _ _ _ _ => (pe_cl c_is_entry hr (by decide) (by rfl) (pa_cons (pv 3) (pa_cons (pv 2) pa_nil))))) pa_nil))))), ?_⟩
    obtain ⟨a, es, rfl, hx, hp⟩ := hr0
    obtain ⟨hl, hl2⟩ := hl
    refine ⟨_, rfl, a, es, rfl, hx, fun H1 s1 => ⟨true, rfl, ite2 (fun z => nomatch z) (fun _ => ?_)⟩⟩
    have hx1 := hx.same s1
    have hes : es.length = r.length := Paired.length hp
    refine ⟨_, rfl, a, es, rfl, hx1.seq K, _, rfl, rfl, _, rfl, ite2 (fun z => ?_) (fun _ => ?_)⟩
    · exfalso
      rw [decide_eq_true (show V.int ((es.length : Nat) : Int) = V.int dd from by rw [hes, hl])] at z
      cases z
    · have fin : ∀ D, H1 D = none → ∀ H2, H2 = upd H1 D (.lst (List.replicate es.length (V.bl true))) → rAll K [V.ref D] H2 Q := fun D hD H2 e => by
        subst e
        refine ⟨D, List.replicate es.length true, rfl, SqL.of (by rw [upd_same, List.map_replicate]), ?_⟩
        rw [show (List.replicate es.length true).all id = true from by
          rw [List.all_eq_true]
          intro b hb
          rw [List.eq_of_mem_replicate hb]
          rfl]
        exact q _ (s1.trans (same_upd hD))
      have hp1 : Paired (fun x (e : Int × Int) => ∃ t, x = V.ref t ∧ H1 t = some (.tup [.int e.1, .int e.2])) es r := Paired.mapP hp fun x e ⟨t, z1, z2⟩ => ⟨t, z1, s1 _ _ z2⟩
      have hl1 : es.length ≤ 1000 := by omega
      rcases hx1 with z | z
      · exact ⟨_, rfl, a, es, rfl, .inl ⟨SqL.of z, fun D hD => row_lc (n := n) walk_list (fun H' s => SqL.of (s _ _ z)) hp1 ht hl1 hD (fun _ => rfl) (fun _ => rfl) (fun H2 e => fin D hD H2 e)⟩⟩
      · exact ⟨_, rfl, a, es, rfl, .inr ⟨.inl (.inl z), fun D hD => row_lc (n := n) walk_tup (fun H' s => .inl (.inl (s _ _ z))) hp1 ht hl1 hD (fun _ => rfl) (fun _ => rfl) (fun H2 e => fin D hD H2 e)⟩⟩
end
end K11


namespace K11
open PySem PySem.Spec PyProof.Rows L2 Xv Cr TL
abbrev s_check_rows : Stmt := top 28
abbrev N_check_rows : List Str := ["rows", "deeds", "state", "row"]
theorem sc_check_rows : FnScope N_check_rows ["rows", "deeds"] (defScope s_check_rows) := ⟨rfl, rfl, rfl, by decide +kernel, rfl, by decide +kernel, by decide +kernel⟩
def spCheckRows : Sp := fun vs H Q _ => ∃ (a : Addr) (xs : List V) (rs : List Rw) (d : Nat), vs = [.ref a, .int d] ∧ RowsP H a xs rs ∧ (0 < rs.length ∧ rs.length ≤ 1000 ∧ d ≤ 1000) ∧ (∀ r ∈ rs, r.length = d ∧ ∀ e ∈ r, (0 ≤ e.1 ∧ e.1 < 10) ∧ (0 ≤ e.2 ∧ e.2 < (rs.length : Int))) ∧ ∀ H', Same H H' → Q .non H'
theorem rows_for {K : PySem.W.Frag} {J : It} {G : Hp → Prop} {a : Addr} {xs : List V} {rs : List Rw} {d : Nat} {H H1 : Hp} {D : Ends} {u2 u3 : Option V} (W : Walk J xs.length G (YPair (fun i => some (.int (i : Nat))) (fun i => xs[i]?))) (hG : ∀ H', Same H H' → G H') (hp : RowsP H a xs rs) (hz : rs.length ≤ 1000 ∧ d ≤ 1000)
    (hb : ∀ r ∈ rs, r.length = d ∧ ∀ e ∈ r, (0 ≤ e.1 ∧ e.1 < 10) ∧ (0 ≤ e.2 ∧ e.2 < (rs.length : Int))) (h0 : Same H H1) (hd : ∀ σ H', Same H H' → D.nx σ H') :
    ∃ W : Nat → Nat → L2.St → Hp → Prop, (∃ m, W 0 m [some (.ref a), some (.int (d : Int)), u2, u3] H1) ∧ ∀ i m σ H, W i m σ H →
      (J.stop i H ∧ D.nx σ H) ∨ (J.go i H ∧ ∃ N : L2.St → Hp → Prop, (∀ σ' H', N σ' H' → ∃ m', m' < m ∧ W (i + 1) m' σ' H') ∧ ∀ x H', J.yld i H x H' → gTup K 2 (gCons (gName 2) (gCons (gName 3) gNil)) x σ H' fun σ2 H2 =>
        tIfS (tNot (tB (tCall spRow [] E0 (tCons (tVar 3) (tCons (tVar 1) (tCons (tCB (rLn K) (tCons (tVar 0) tNil)) tNil)))))) tNever tNext { D with nx := N, ct := N, bk := D.nx } σ2 H2) := by
  refine for_it W (fun i σ H' => ∃ u2 u3, σ = [some (.ref a), some (.int (d : Int)), u2, u3] ∧ Same H H') ⟨_, _, rfl, h0⟩ (fun i σ H' _ ⟨_, _, _, s⟩ => hG H' s) ?_ (fun σ H' ⟨_, _, _, s⟩ => hd σ H' s)
  rintro i x σ H2 H3 hi ⟨u2, u3, rfl, s2⟩ ⟨t, x1, x2, rfl, nt, rfl, e1, e2⟩
  cases e1
  obtain ⟨r, hr, rp⟩ := Xv.paired_get hp.2 e2
  obtain ⟨b1, b2⟩ := hb r (List.mem_of_getElem? hr)
  have s3 := s2.trans (same_upd (o := .tup [.int (i : Nat), x2]) nt)
  have hl : xs.length = rs.length := Paired.length hp.2
  refine ⟨t, _, rfl, .inl (.inl upd_same), rfl, _, _, rfl, _, _, rfl, ⟨rfl, ?_⟩⟩
  refine ⟨_, rfl, _, rfl, _, rfl, a, xs, rfl, (hp.1.same s3).seq K, x2, r, d, (xs.length : Nat), rfl, rp.same s3, ⟨by omega, by omega⟩, fun e he => by rw [hl]; exact b2 e he, fun H' s' => ⟨true, rfl, ite2 (fun z => nomatch z) (fun _ => ⟨_, _, rfl, s3.trans s'⟩)⟩⟩
section
variable {P : Program} {w : World} {K : PySem.W.Frag} {mg : Str → Option Value} {base : Heap}
theorem ok_check_rows {f : Addr} {fd : FuncData} (F : Fun K "check_rows" "check_rows" s_check_rows f fd) (T : Bl mg) (c_is_filled_list : Cl P w K mg base 2 "is_filled_list" spFilled) (c_is_row : Cl P w K mg base 5 "is_row" spRow) : FnOk P w K mg base CX0 6 f fd ["rows", "deeds"] spCheckRows := by
  refine F.ok sc_check_rows (fun vs H Q E h => ?_) (fun cdv A outer s H vs Q E hr h => ?_)
  · obtain ⟨a, xs, rs, d, rfl, _⟩ := h
    rfl
  · obtain ⟨a, xs, rs, d, rfl, hp, hz, hb, q⟩ := h
    refine ⟨_, (pss_cons (ps_if (pt_not (pt_val (pe_cl c_is_filled_list hr (by decide) (by rfl) (pa_cons (pv 0) pa_nil)))) (pss_one ps_never) pss_nil)
  (pss_one (ps_for PassesOwn.never rfl (pi_enum2 rfl T.enumerate (pa_cons (pv 0) pa_nil)) (pg_tup rfl (pgs_cons (pg_name (i := 2) sc_check_rows.nd rfl (Or.inl rfl)) (pgs_cons (pg_name (i := 3) sc_check_rows.nd rfl (Or.inl rfl)) pgs_nil)))
  (pss_one (ps_if (pt_not (pt_val (pe_cl c_is_row hr (by decide) (by rfl) (pa_cons (pv 3) (pa_cons (pv 1) (pa_cons (pe_callB (id := "len") (call_ln) (by rfl) T.len (by decide +kernel) (pa_cons (pv 0) pa_nil)) pa_nil)))))) (pss_one ps_never) pss_nil))))), ?_⟩
    have hl : xs.length = rs.length := Paired.length hp.2
    refine ⟨_, rfl, a, xs, rfl, hp.1, fun H1 s1 => ⟨_, rfl, ite2 (fun z => ?_) (fun _ => ?_)⟩⟩
    · rw [decide_eq_true (show 0 < xs.length by omega)] at z
      cases z
    · have hp1 := hp.1.same s1
      refine ⟨_, rfl, a, xs, rfl, ?_⟩
      rcases hp1 with z | z
      · exact .inl ⟨SqL.of z, rows_for walk_enum (fun H' s => SqL.of (s _ _ z)) (hp.same s1) ⟨hz.2.1, hz.2.2⟩ hb (Same.refl H1) (fun σ H' s => q H' (s1.trans s))⟩
      · exact .inr ⟨.inl (.inl z), rows_for walk_enumT (fun H' s => .inl (.inl (s _ _ z))) (hp.same s1) ⟨hz.2.1, hz.2.2⟩ hb (Same.refl H1) (fun σ H' s => q H' (s1.trans s))⟩
end
end K11


namespace K11
open PySem PySem.Spec PyProof.Rows L2 Xv Cr TL
abbrev s_check_deeds : Stmt := top 26
abbrev N_check_deeds : List Str := ["deeds", "known", "ahead", "place", "deed"]
theorem sc_check_deeds : FnScope N_check_deeds ["deeds", "known"] (defScope s_check_deeds) := ⟨rfl, rfl, rfl, by decide +kernel, rfl, by decide +kernel, by decide +kernel⟩
theorem pt_no {X : Cx} {e : Expr} : PT X e (fun _ _ _ => False) := ⟨fun _ _ _ _ _ _ h => h.elim⟩
def spCheckDeeds : Sp := fun vs H Q _ => ∃ (a : Addr) (ns : List Str), vs = [.ref a, .non] ∧ LT H a (ns.map V.str) ∧ 0 < ns.length ∧ ns.length ≤ 1000 ∧ ns.Nodup ∧ (∀ x ∈ ns, Nm x) ∧ ∀ H', Same H H' → Q .non H'
theorem deeds_for {P : Program} {w : World} {K : PySem.W.Frag} {J : It} {G : Hp → Prop} {a s : Addr} {ns : List Str} {H H1 : Hp} {D : Ends} {u3 u4 : Option V} (W : Walk J (ns.map V.str).length G (YPair (fun i => some (.int (i : Nat))) (fun i => (ns.map V.str)[i]?))) (hG : ∀ H', Same H H' → G H')
    (hz : ns.length ≤ 1000) (nd : ns.Nodup) (nm : ∀ x ∈ ns, Nm x) (hs : H s = none) (h0 : Same H H1) (hs1 : H1 s = some (SetK P w s (fun _ => false) 0)) (hd : ∀ σ H', Same H H' → D.nx σ H') :
    ∃ W : Nat → Nat → L2.St → Hp → Prop, (∃ m, W 0 m [some (.ref a), some .non, some (.ref s), u3, u4] H1) ∧ ∀ i m σ H, W i m σ H →
      (J.stop i H ∧ D.nx σ H) ∨ (J.go i H ∧ ∃ N : L2.St → Hp → Prop, (∀ σ' H', N σ' H' → ∃ m', m' < m ∧ W (i + 1) m' σ' H') ∧ ∀ x H', J.yld i H x H' → gTup K 2 (gCons (gName 3) (gCons (gName 4) gNil)) x σ H' fun σ2 H2 =>
        tSeq (tIfS (tOr (tNot (tB (tCall spIsName [] E0 (tCons (tVar 4) tNil)))) (tTest (tOp (rSInK P w false) (tVar 4) (tVar 2)))) tNever tNext)
          (tSeq (tIfS (tAnd (tB (tNotN (tVar 1))) (fun _ _ _ => False)) tNever tNext) (tDrop (tSAddK P w (tVar 2) (tCons (tVar 4) tNil)))) { D with nx := N, ct := N, bk := D.nx } σ2 H2) := by
  refine for_it W (fun i σ H' => ∃ u3 u4 S n, σ = [some (.ref a), some .non, some (.ref s), u3, u4] ∧ Same H H' ∧ H' s = some (SetK P w s S n) ∧ n ≤ i ∧ ∀ x : Str, S (.inr x) = decide (x ∈ ns.take i)) ⟨_, _, _, 0, rfl, h0, hs1, Nat.le_refl _, fun x => by simp⟩ (fun i σ H' _ ⟨_, _, _, _, _, s', _⟩ => hG H' s') ?_ (fun σ H' ⟨_, _, _, _, _, s', _⟩ => hd σ H' s')
  rintro i x σ H2 H3 hi ⟨u3, u4, S, n, rfl, s2, h2, hn, hS⟩ ⟨t, x1, x2, rfl, nt, rfl, e1, e2⟩
  cases e1
  replace e2 : (ns.map V.str)[i]? = some x2 := e2
  obtain ⟨y, hy, rfl⟩ : ∃ y, ns[i]? = some y ∧ x2 = V.str y := by
    rw [List.getElem?_map] at e2
    cases e : ns[i]? with
    | none =>
      rw [e] at e2
      cases e2
    | some y =>
      rw [e] at e2
      exact ⟨y, rfl, (Option.some.inj e2).symm⟩
  have hin := List.mem_of_getElem? hy
  have hlt : i < ns.length := (List.getElem?_eq_some_iff.mp hy).1
  have hno : y ∉ ns.take i := fun hm => by
    obtain ⟨j, hj, ej⟩ := List.mem_take_iff_getElem.mp hm
    have e3 : ns[i] = y := (List.getElem?_eq_some_iff.mp hy).2
    have hji : j < i := by omega
    exact (List.pairwise_iff_getElem.mp nd j i (by omega) hlt hji) (by rw [ej, e3])
  have nst : s ≠ t := ne_of_none h2 nt
  have s3 := s2.trans (same_upd (o := .tup [.int (i : Nat), V.str y]) nt)
  refine ⟨t, _, rfl, .inl (.inl upd_same), rfl, _, _, rfl, _, _, rfl, ⟨rfl, ?_⟩⟩
  refine ⟨_, rfl, y, rfl, nm y hin, fun H4 s4 => ⟨true, rfl, ite2 (fun z => nomatch z) (fun _ => ?_)⟩⟩
  have h4 : H4 s = some (SetK P w s S n) := s4 _ _ (by rw [upd_ne nst]; exact h2)
  refine ⟨_, rfl, _, rfl, .inr y, s, S, n, rfl, rfl, h4, _, rfl, ite2 (fun z => ?_) (fun _ => ?_)⟩
  · exfalso
    have z2 : S (.inr y) = true := z
    rw [hS y] at z2
    exact hno (of_decide_eq_true z2)
  refine ⟨_, rfl, _, rfl, ite2 (fun z => nomatch z) (fun _ => ?_)⟩
  refine ite2 (fun z => nomatch z) (fun _ => ?_)
  refine ⟨_, rfl, ⟨s, S, n, rfl, h4⟩, _, rfl, s, .inr y, S, n, rfl, rfl, h4, by rw [show PySem.scanBound = 4096 from rfl]; omega, ?_⟩
  refine ⟨_, _, _, _, rfl, fun b o e => ?_, upd_same, ?_, fun x => ?_⟩
  · rw [upd_ne (ne_of_none e hs)]
    exact s4 _ _ (s3 _ _ e)
  · split <;> omega
  · show (S (.inr x) || decide ((.inr x : Key) = .inr y)) = _
    rw [hS x, Xv.take_step hy]
    by_cases e : x = y
    · subst e
      simp
    · have e2 : decide ((.inr x : Key) = .inr y) = false := decide_eq_false fun q => e (Sum.inr.inj q)
      rw [e2, Bool.or_false]
      exact decide_eq_decide.mpr (by simp [e])
section
variable {P : Program} {w : World} {K : PySem.W.Frag} {mg : Str → Option Value} {base : Heap}
/-- a def with defaults, by its name -/
structure ClD (P : Program) (w : World) (K : PySem.W.Frag) (mg : Str → Option Value) (base : Heap) (k : Nat) (x : Str) (sp : Sp) (dvs : List V) : Prop where
  ex : ∃ (f : Addr) (fd : FuncData) (ps : List Str) (ds : List Value), FnOk P w K mg base CX0 k f fd ps sp ∧ mg x = some (.ref f) ∧ PySem.W.keepIn K (.ref f) = true ∧ Binds K fd ps ds ∧ Vals dvs ds
theorem pe_cld {X : Cx} {x : Str} {p pos : Pos} {e : Expr} {es : List Expr} {t : TA} {k j : Nat} {sp : Sp} {dvs : List V} (c : ClD X.prog X.w X.K X.mg X.base k x sp dvs) (hr : Room j X.A) (hk : k ≤ j) (hg : Gl X x) (ha : PA X (e :: es) t)
    (hdb : (x == ("__debug__" : Str)) = false := by decide) (he : starEach (e :: es) X.env = (false, eval e X.env) :: starEach es X.env := by rfl) (hpl : (backTo pos (starEach es X.env)).any (·.1) = false := by rfl) : PE X (.Call (.Name x p) (e :: es) [] pos) (tCall sp dvs E0 t) := by
  obtain ⟨f, fd, ps, ds, F, hm, kp, b, v⟩ := c.ex
  exact pe_call F (hr.mono hk) hg hm kp b v pass0 ha hdb he hpl
theorem ok_check_deeds {f : Addr} {fd : FuncData} (F : FunD K "check_deeds" "check_deeds" (defArgs s_check_deeds) (defBody s_check_deeds) (defScope s_check_deeds) [V.non] [] f fd) (T : Bl mg) (c_is_filled_list : Cl P w K mg base 2 "is_filled_list" spFilled) (c_is_name : Cl P w K mg base 1 "is_name" spIsName) : FnOk P w K mg base CX0 3 f fd ["deeds", "known"] spCheckDeeds := by
  refine F.ok sc_check_deeds (fun vs H Q E h => ?_) (fun cdv A outer s H vs Q E hr h => ?_)
  · obtain ⟨a, ns, rfl, _⟩ := h
    rfl
  · obtain ⟨a, ns, rfl, hx, h0, hz, nd, nm, q⟩ := h
    refine ⟨_, PSs.nox (pss_cons (ps_if (pt_not (pt_val (pe_cl c_is_filled_list hr (by decide) (by rfl) (pa_cons (pv 0) pa_nil)))) (pss_one ps_never) pss_nil)
  (pss_cons (ps_set (i := 2) sc_check_deeds.nd rfl (Or.inl rfl) (pe_callTy0 (T := "set") cr_set0K (by rfl) T.set (by decide +kernel)))
  (pss_one (ps_for PassesOwn.never rfl (pi_enum2 rfl T.enumerate (pa_cons (pv 0) pa_nil)) (pg_tup rfl (pgs_cons (pg_name (i := 3) sc_check_deeds.nd rfl (Or.inl rfl)) (pgs_cons (pg_name (i := 4) sc_check_deeds.nd rfl (Or.inl rfl)) pgs_nil)))
  (pss_cons (ps_if (PW.pt (pw_or (pt_not (pt_val (pe_cl c_is_name hr (by decide) (by rfl) (pa_cons (pv 4) pa_nil)))) (pw_or1 (pt_cmpR or_sinK (pv 4) (pv 2) (by rfl))))) (pss_one ps_never) pss_nil)
  (pss_cons (ps_if (PW.pt (pw_and (pt_cmp (pc_notN (pv 1)) (by rfl)) (pw_and1 pt_no))) (pss_one ps_never) pss_nil)
  (pss_one (ps_expr (pe_saddK (pv 2) (pa_cons (pv 4) pa_nil)))))))))), ?_⟩
    refine ⟨_, rfl, a, _, rfl, hx, fun H1 s1 => ⟨_, rfl, ite2 (fun z => ?_) (fun _ => ?_)⟩⟩
    · rw [decide_eq_true (show 0 < (ns.map V.str).length by rw [List.length_map]; exact h0)] at z
      cases z
    · refine ⟨rfl, fun s0 n0 => ?_⟩
      have hp1 := hx.same s1
      refine ⟨_, rfl, a, ns.map V.str, rfl, ?_⟩
      have ss := same_upd (o := SetK P w s0 (fun _ => false) 0) n0
      rcases hp1 with z | z
      · exact .inl ⟨SqL.of (ss _ _ z), deeds_for walk_enum (fun H' s => SqL.of (s _ _ z)) hz nd nm n0 ss upd_same (fun σ H' s => q H' (s1.trans s))⟩
      · exact .inr ⟨.inl (.inl (ss _ _ z)), deeds_for walk_enumT (fun H' s => .inl (.inl (s _ _ z))) hz nd nm n0 ss upd_same (fun σ H' s => q H' (s1.trans s))⟩
end
end K11


namespace K11
open PySem PySem.Spec PyProof.Rows L2 Xv Cr TL
abbrev s_thing_init : Stmt := inClass (top 30) 0
abbrev N_thing_init : List Str := ["self", "deeds", "rows", "row", "answer", "after"]
theorem sc_thing_init : FnScope N_thing_init ["self", "deeds", "rows"] (defScope s_thing_init) := ⟨rfl, rfl, rfl, by decide +kernel, rfl, by decide +kernel, by decide +kernel⟩
/-- right deeds and rows -/
structure Right (ns : List Str) (rs : List Rw) : Prop where
  d0 : 0 < ns.length
  d4 : ns.length ≤ 4
  nd : ns.Nodup
  nm : ∀ x ∈ ns, Nm x
  r0 : 0 < rs.length
  r8 : rs.length ≤ 8
  tb : Tb rs.length ns.length rs
def fsT (l m : Addr) : List (Str × V) := putF "_rows" (.ref m) (putF "_deeds" (.ref l) [])
/-- a thing: its deeds and rows stand in lists of its own, within S -/
def ThAt (K : PySem.W.Frag) (C : Addr) (S : Addr → Prop) (H : Hp) (x : Addr) (ns : List Str) (rs : List Rw) : Prop := ∃ dx l m, H x = some (.ins C dx (fsT l m)) ∧ Dt K S H (.ref l) (namesD ns) ∧ Dt K S H (.ref m) (rowsD rs) ∧ ¬ S x
def spThingI (K : PySem.W.Frag) (C : Addr) : Sp := fun vs H Q _ => ∃ (x dx da ra : Addr) (ns : List Str) (xs : List V) (rs : List Rw), vs = [.ref x, .ref da, .ref ra] ∧ H x = some (.ins C dx []) ∧ LT H da (ns.map V.str) ∧ RowsP H ra xs rs ∧ Right ns rs ∧
  ∀ H' S, Fr (fun b => b = x) H H' → (∀ b, S b → Nw H H' b) → ThAt K C S H' x ns rs → Q .non H'
structure ThC (K : PySem.W.Frag) (C : Addr) : Prop where
  cl : Cls K C
  nD : NoAttr K C "_deeds"
  nR : NoAttr K C "_rows"
section
variable {P : Program} {w : World} {K : PySem.W.Frag} {mg : Str → Option Value} {base : Heap}
theorem ok_thing_init {Ct f : Addr} {fd : FuncData} (F : Fun K "__init__" "Thing.__init__" s_thing_init f fd) (T : Bl mg) (C : Cn mg) (TC : ThC K Ct) (c_check_deeds : ClD P w K mg base 3 "check_deeds" spCheckDeeds [V.non]) (c_check_rows : Cl P w K mg base 6 "check_rows" spCheckRows) (c_check_limit : Cl P w K mg base 1 "check_limit" spLimit) : FnOk P w K mg base CX0 7 f fd ["self", "deeds", "rows"] (spThingI K Ct) := by
  refine F.ok sc_thing_init (fun vs H Q E h => ?_) (fun cdv A outer s H vs Q E hr h => ?_)
  · obtain ⟨x, dx, da, ra, ns, xs, rs, rfl, _⟩ := h
    rfl
  · obtain ⟨x, dx, da, ra, ns, xs, rs, rfl, hx, hd, hp, R, q⟩ := h
    refine ⟨_, (pss_cons (ps_expr (pe_cld c_check_deeds hr (by decide) (by rfl) (pa_cons (pv 1) pa_nil)))
  (pss_cons (ps_expr (pe_cl c_check_rows hr (by decide) (by rfl) (pa_cons (pv 2) (pa_cons (pe_callB (id := "len") (call_ln) (by rfl) T.len (by decide +kernel) (pa_cons (pv 1) pa_nil)) pa_nil))))
  (pss_cons (ps_expr (pe_cl c_check_limit hr (by decide) (by rfl) (pa_cons pe_str (pa_cons (pe_callB (id := "len") (call_ln) (by rfl) T.len (by decide +kernel) (pa_cons (pv 1) pa_nil)) (pa_cons (pe_glob (v := .int 4) (by rfl) C.deeds.choose_spec ⟨_, rfl⟩) pa_nil)))))
  (pss_cons (ps_expr (pe_cl c_check_limit hr (by decide) (by rfl) (pa_cons pe_str (pa_cons (pe_callB (id := "len") (call_ln) (by rfl) T.len (by decide +kernel) (pa_cons (pv 2) pa_nil)) (pa_cons (pe_glob (v := .int 8) (by rfl) C.states.choose_spec ⟨_, rfl⟩) pa_nil)))))
  (pss_cons (ps_fld (pv 0) (pe_callTy (T := "list") call_list_of (by rfl) T.list (by decide +kernel) (pa_cons (pv 1) pa_nil)) rfl)
  (pss_one (ps_fld (pv 0) (pe_lc (own := [("row", 3)]) (g := gName 3) (tt := tYes) (te := tLc (iSeq K (tVar 3)) (gTup K 2 (gCons (gName 4) (gCons (gName 5) gNil))) tYes (tTup (tCons (tVar 4) (tCons (tVar 5) tNil))) [4, 5]) rfl sc_thing_init.nd (pi_seq (pv 2)) (blkOk_by (N := N_thing_init) (sc := defScope s_thing_init) (by decide +kernel)) (fun _ _ _ _ _ => (pg_name (i := 3) sc_thing_init.nd rfl (Or.inl rfl))) (fun _ _ _ _ _ => pts_nil)
    (fun _ _ _ _ _ => (pe_lc (own := [("answer", 4), ("after", 5)]) (g := gTup K 2 (gCons (gName 4) (gCons (gName 5) gNil))) (tt := tYes) (te := tTup (tCons (tVar 4) (tCons (tVar 5) tNil))) rfl sc_thing_init.nd (pi_seq (pv 3)) (blkOk_by (by kernel_rfl)) (fun _ _ _ _ _ => (pg_tup rfl (pgs_cons (pg_name (i := 4) sc_thing_init.nd rfl (Or.inl rfl)) (pgs_cons (pg_name (i := 5) sc_thing_init.nd rfl (Or.inl rfl)) pgs_nil)))) (fun _ _ _ _ _ => pts_nil) (fun _ _ _ _ _ => pe_tup (pa_cons (pv 4) (pa_cons (pv 5) pa_nil)))))) rfl))))))), ?_⟩
    have hxl : xs.length = rs.length := Paired.length hp.2
    have hzn : ∀ r ∈ rs, r.length ≤ 1000 := fun r hr => by
      have := (R.tb.2 r hr).1
      have := R.d4
      omega
    refine ⟨_, rfl, da, ns, rfl, hd, R.d0, Nat.le_trans R.d4 (by decide), R.nd, R.nm, fun H1 s1 => ?_⟩
    refine ⟨_, rfl, _, rfl, da, _, rfl, (hd.same s1).seq K, ra, xs, rs, ns.length, by rw [List.length_map]; rfl, hp.same s1, ⟨R.r0, Nat.le_trans R.r8 (by decide), Nat.le_trans R.d4 (by decide)⟩, R.tb.2, fun H2 s2 => ?_⟩
    replace s2 := s1.trans s2
    have d4 := R.d4
    have r8 := R.r8
    refine ⟨_, rfl, da, _, rfl, (hd.same s2).seq K, _, _, _, rfl, by rw [List.length_map]; omega, ?_⟩
    refine ⟨_, rfl, ra, xs, rfl, (hp.1.same s2).seq K, _, _, _, rfl, by omega, ?_⟩
    -- self._deeds = list(deeds)
    refine ⟨_, rfl, da, _, rfl, (hd.same s2).seq K, fun l nl => ?_⟩
    have hx2 := s2 _ _ hx
    have nxl : x ≠ l := ne_of_none hx2 nl
    refine ⟨_, rfl, x, Ct, dx, [], rfl, (by rw [upd_ne nxl]; exact hx2), TC.cl, TC.nD, by show 0 < 1000; decide, ?_⟩
    have F3 : Fr (fun b => b = x) H (upd (upd H2 l (.lst (ns.map V.str))) x (.ins Ct dx (putF "_deeds" (.ref l) []))) := Fr.set (Fr.of (s2.trans (same_upd nl))) rfl
    have hl3 : upd (upd H2 l (.lst (ns.map V.str))) x (.ins Ct dx (putF "_deeds" (.ref l) [])) l = some (.lst (ns.map V.str)) := by rw [upd_ne nxl.symm, upd_same]
    have hx3 : upd (upd H2 l (.lst (ns.map V.str))) x (.ins Ct dx (putF "_deeds" (.ref l) [])) x = some (.ins Ct dx (putF "_deeds" (.ref l) [])) := upd_same
    have nlH : H l = none := by
      cases z : H l with
      | none => rfl
      | some o =>
        rw [s2 _ _ z] at nl
        cases nl
    generalize upd (upd H2 l (.lst (ns.map V.str))) x (.ins Ct dx (putF "_deeds" (.ref l) [])) = H3 at F3 hl3 hx3 ⊢
    have notx : ∀ {b : Addr} {o : HO}, (∀ C' d' f', o ≠ .ins C' d' f') → H b = some o → b ≠ x := fun {b o} n e z => by
      rw [z, hx] at e
      cases e
      exact n _ _ _ rfl
    have hp3 : RowsP H3 ra xs rs := by
      have k : ∀ {b : Addr} {xs : List V}, LT H b xs → LT H3 b xs := fun {b xs} z => by
        rcases z with z | z
        · exact .inl (F3 _ _ (notx (by intro _ _ _ q; cases q) z) z)
        · exact .inr (F3 _ _ (notx (by intro _ _ _ q; cases q) z) z)
      refine ⟨k hp.1, Paired.mapP hp.2 fun v r ⟨a, es, e, hxs, hps⟩ => ⟨a, es, e, k hxs, Paired.mapP hps fun y e ⟨t, z1, z2⟩ => ⟨t, z1, F3 _ _ (notx (by intro _ _ _ q; cases q) z2) z2⟩⟩⟩
    -- self._rows = [..]
    have fin : ∀ D, H3 D = none → ∀ H4 S, Same H3 H4 → (∀ b, S b → Nw H3 H4 b) → Dt K S H4 (.ref D) (rowsD rs) → sFld K (tVar 0) (fun _ _ Q => Q (.ref D) H4) "_rows" { nx := fun _ H' => Q .non H', rt := Q } [some (.ref x), some (.ref da), some (.ref ra), none, none, none] H3 := fun D hD H4 S s4 nS dS => by
      refine ⟨_, rfl, x, Ct, dx, _, rfl, s4 _ _ hx3, TC.cl, TC.nR, by show 1 < 1000; decide, ?_⟩
      have nSx : ∀ b, S b → b ≠ x := fun b hb z => by
        have := (nS b hb).1
        rw [z, hx3] at this
        cases this
      have F5 : Fr (fun b => b = x) H (upd H4 x (.ins Ct dx (fsT l D))) := Fr.set (F3.trans (Fr.of s4)) rfl
      refine q _ (fun b => S b ∨ b = l) F5 (fun b hb => ?_) ⟨dx, l, D, upd_same, ?_, ?_, ?_⟩
      · rcases hb with z | z
        · refine ⟨?_, by rw [upd_ne (nSx b z)]; exact (nS b z).2⟩
          cases e : H b with
          | none => rfl
          | some o =>
            have := (nS b z).1
            rw [F3 _ _ (nSx b z) e] at this
            cases this
        · subst z
          exact ⟨nlH, by rw [upd_ne nxl.symm, s4 _ _ hl3]; simp⟩
      · refine .lst (by rw [vw_at (.inr rfl), upd_ne nxl.symm]; exact s4 _ _ hl3) ?_
        have all : ∀ (ns : List Str) {G : Hp}, TrAll G (ns.map V.str) (ns.map PyData.str) := fun ns G => by
          induction ns with
          | nil => exact .nil
          | cons x r ih => exact .cons (.str x) ih
        exact all ns
      · exact Dt.mono (dS.fr (M := fun b => b = x) (Fr.set (Fr.refl _ _) rfl) fun b hb => nSx b hb) fun b hb => .inl hb
      · rintro (z | z)
        · exact nSx x z rfl
        · exact nxl z
    refine ⟨_, rfl, ra, xs, rfl, ?_⟩
    rcases hp3.1 with z | z
    · exact .inl ⟨SqL.of z, fun D hD => rows_copy walk_list (fun H' s => SqL.of (s _ _ z)) hp3.2 (by omega) hzn hD fun H4 S s4 nS dS => fin D hD H4 S s4 nS dS⟩
    · exact .inr ⟨.inl (.inl z), fun D hD => rows_copy walk_tup (fun H' s => .inl (.inl (s _ _ z))) hp3.2 (by omega) hzn hD fun H4 S s4 nS dS => fin D hD H4 S s4 nS dS⟩
end
end K11

/-! Data logic, part 1: values seen as data, what may change, slots -/
namespace Dl
open PySem PySem.Spec PyProof.Rows L2 Xv Cr
inductive D where
  | non
  | bl (b : Bool)
  | int (i : Int)
  | str (s : Str)
  | lst (xs : List D)
  | tup (xs : List D)
  | dic (ps : List (Key × D))
  | ob (c : Nat) (xs : List D)
/-- own classes: where they stand, their fields' names -/
structure Cm where
  ca : Nat → Addr
  fn : Nat → List Str
  /-- the tables of code objects of lambdas -/
  T : List (Addr × Str) := []
/-- no table -/
def nt : HO → Bool
  | .tbl _ => false
  | _ => true
/-- none of a table, a code object, the dict of an exception -/
def pln : HO → Bool
  | .tbl _ => false
  | .ext _ => false
  | .xd _ => false
  | _ => true
theorem pln_code {o : HO} (h : pln o = true) (c : Addr) (q : Str) : o ≠ LamX.CodeO c q := fun z => by
  unfold LamX.CodeO at z
  subst z
  cases h
/-- nothing stands there that is kept: it is new -/
def Nw (H : Hp) (p : Addr) : Prop := ∀ o, H p = some o → nt o = false
def Lv (H : Hp) (p : Addr) : Prop := ∃ o, H p = some o ∧ nt o = true
theorem Nw.of {H : Hp} {p : Addr} (n : H p = none) : Nw H p := fun o h => by rw [n] at h; cases h
theorem Nw.no {H : Hp} {p : Addr} (n : Nw H p) (l : Lv H p) : False := by
  obtain ⟨o, h, t⟩ := l
  rw [n o h] at t
  cases t
theorem Lv.ne {H : Hp} {p : Addr} (l : Lv H p) : H p ≠ none := fun n => Nw.no (.of n) l
theorem Lv.at_ {H : Hp} {p : Addr} {o : HO} (h : H p = some o) (t : nt o = true := by rfl) : Lv H p := ⟨o, h, t⟩
theorem pln_nt {o : HO} (h : pln o = true) : nt o = true := by cases o <;> first | rfl | cases h
theorem nt_ne {o : HO} (h : nt o = true) (ps : Array Value) : o ≠ .tbl ps := fun z => by
  subst z
  cases h
mutual
inductive Rp (M : Cm) (F : Addr → Prop) (H : Hp) : V → D → Prop
  | non : Rp M F H .non .non
  | bl (b : Bool) : Rp M F H (.bl b) (.bl b)
  | int (i : Int) : Rp M F H (.int i) (.int i)
  | str (s : Str) : Rp M F H (.str s) (.str s)
  | lst {a : Addr} {vs : List V} {ds : List D} : F a → H a = some (.lst vs) → RpA M F H vs ds → Rp M F H (.ref a) (.lst ds)
  | tup {a : Addr} {vs : List V} {ds : List D} : F a → H a = some (.tup vs) → RpA M F H vs ds → Rp M F H (.ref a) (.tup ds)
  | dic {a : Addr} {kvs : List (Key × V)} {ps : List (Key × D)} : F a → H a = some (.dK kvs) → RpK M F H kvs ps → Rp M F H (.ref a) (.dic ps)
  | ob {a dx : Addr} {c : Nat} {vs : List V} {ds : List D} : F a → H a = some (.ins (M.ca c) dx ((M.fn c).zip vs)) → vs.length ≤ (M.fn c).length → RpA M F H vs ds → Rp M F H (.ref a) (.ob c ds)
inductive RpA (M : Cm) (F : Addr → Prop) (H : Hp) : List V → List D → Prop
  | nil : RpA M F H [] []
  | cons {v : V} {d : D} {vs : List V} {ds : List D} : Rp M F H v d → RpA M F H vs ds → RpA M F H (v :: vs) (d :: ds)
inductive RpK (M : Cm) (F : Addr → Prop) (H : Hp) : List (Key × V) → List (Key × D) → Prop
  | nil : RpK M F H [] []
  | cons {k : Key} {v : V} {d : D} {kvs : List (Key × V)} {ps : List (Key × D)} : Rp M F H v d → RpK M F H kvs ps → RpK M F H ((k, v) :: kvs) ((k, d) :: ps)
end
section
variable {M : Cm} {pt F F' F0 : Addr → Prop} {H H' H0 : Hp} {z0 : Gh}
mutual
theorem Rp.up (h : ∀ b o, nt o = true → F b → H b = some o → F' b ∧ H' b = some o) : ∀ {v : V} {d : D}, Rp M F H v d → Rp M F' H' v d
  | _, _, .non => .non
  | _, _, .bl b => .bl b
  | _, _, .int i => .int i
  | _, _, .str s => .str s
  | _, _, .lst f e r => .lst (h _ _ rfl f e).1 (h _ _ rfl f e).2 (RpA.up h r)
  | _, _, .tup f e r => .tup (h _ _ rfl f e).1 (h _ _ rfl f e).2 (RpA.up h r)
  | _, _, .dic f e r => .dic (h _ _ rfl f e).1 (h _ _ rfl f e).2 (RpK.up h r)
  | _, _, .ob f e l r => .ob (h _ _ rfl f e).1 (h _ _ rfl f e).2 l (RpA.up h r)
theorem RpA.up (h : ∀ b o, nt o = true → F b → H b = some o → F' b ∧ H' b = some o) : ∀ {vs : List V} {ds : List D}, RpA M F H vs ds → RpA M F' H' vs ds
  | _, _, .nil => .nil
  | _, _, .cons r s => .cons (Rp.up h r) (RpA.up h s)
theorem RpK.up (h : ∀ b o, nt o = true → F b → H b = some o → F' b ∧ H' b = some o) : ∀ {vs : List (Key × V)} {ds : List (Key × D)}, RpK M F H vs ds → RpK M F' H' vs ds
  | _, _, .nil => .nil
  | _, _, .cons r s => .cons (Rp.up h r) (RpK.up h s)
end
theorem RpA.length : ∀ {vs : List V} {ds : List D}, RpA M F H vs ds → vs.length = ds.length
  | _, _, .nil => rfl
  | _, _, .cons _ s => congrArg (· + 1) (RpA.length s)
theorem RpA.app : ∀ {vs us : List V} {ds es : List D}, RpA M F H vs ds → RpA M F H us es → RpA M F H (vs ++ us) (ds ++ es)
  | _, _, _, _, .nil, k => k
  | _, _, _, _, .cons r s, k => .cons r (RpA.app s k)
theorem RpA.one {v : V} {d : D} (h : Rp M F H v d) : RpA M F H [v] [d] := .cons h .nil
theorem RpA.get : ∀ {vs : List V} {ds : List D} {i : Nat}, RpA M F H vs ds → ∀ {d : D}, ds[i]? = some d → ∃ v, vs[i]? = some v ∧ Rp M F H v d
  | _, _, _, .nil, _, e => by simp at e
  | _, _, 0, .cons r _, _, e => by
    simp only [List.getElem?_cons_zero, Option.some.injEq] at e
    subst e
    exact ⟨_, rfl, r⟩
  | _, _, i + 1, .cons _ s, _, e => by
    simp only [List.getElem?_cons_succ] at e
    exact RpA.get s e
theorem RpA.at_ : ∀ {vs : List V} {ds : List D} {i : Nat}, RpA M F H vs ds → ∀ {v : V}, vs[i]? = some v → ∃ d, ds[i]? = some d ∧ Rp M F H v d
  | _, _, _, .nil, _, e => by simp at e
  | _, _, 0, .cons r _, _, e => by
    simp only [List.getElem?_cons_zero, Option.some.injEq] at e
    subst e
    exact ⟨_, rfl, r⟩
  | _, _, i + 1, .cons _ s, _, e => by
    simp only [List.getElem?_cons_succ] at e
    exact RpA.at_ s e
theorem RpA.take {n : Nat} : ∀ {vs : List V} {ds : List D}, RpA M F H vs ds → RpA M F H (vs.take n) (ds.take n) := by
  induction n with
  | zero => intro _ _ _; simp only [List.take_zero]; exact .nil
  | succ n ih =>
    intro vs ds h
    cases h with
    | nil => exact .nil
    | cons r s => exact .cons r (ih s)
theorem RpA.drop {n : Nat} : ∀ {vs : List V} {ds : List D}, RpA M F H vs ds → RpA M F H (vs.drop n) (ds.drop n) := by
  induction n with
  | zero => intro _ _ h; exact h
  | succ n ih =>
    intro vs ds h
    cases h with
    | nil => exact .nil
    | cons r s => exact ih s
theorem RpA.rev : ∀ {vs : List V} {ds : List D}, RpA M F H vs ds → RpA M F H vs.reverse ds.reverse
  | _, _, .nil => .nil
  | _, _, .cons r s => by
    rw [List.reverse_cons, List.reverse_cons]
    exact RpA.app (RpA.rev s) (.one r)
theorem RpA.set : ∀ {vs : List V} {ds : List D} {i : Nat} {v : V} {d : D}, RpA M F H vs ds → Rp M F H v d → RpA M F H (vs.set i v) (ds.set i d)
  | _, _, _, _, _, .nil, _ => .nil
  | _, _, 0, _, _, .cons _ s, k => .cons k s
  | _, _, i + 1, _, _, .cons r s, k => .cons r (RpA.set s k)
theorem RpA.ers : ∀ {vs : List V} {ds : List D} {i : Nat}, RpA M F H vs ds → RpA M F H (vs.eraseIdx i) (ds.eraseIdx i)
  | _, _, _, .nil => .nil
  | _, _, 0, .cons _ s => s
  | _, _, i + 1, .cons r s => .cons r (RpA.ers s)
/-- what stands: the pots, and nothing fixed is a pot -/
structure Ok (M : Cm) (pt F : Addr → Prop) (H : Hp) : Prop where
  pots : ∀ b, pt b → Pot H b
  dis : ∀ b, pt b → ¬ F b
  liv : ∀ b, F b → Lv H b
  tbs : LamX.Tabs M.T H
/-- what may have come about: new things, other numbers in the pots -/
structure Ext (M : Cm) (pt F : Addr → Prop) (H : Hp) (F' : Addr → Prop) (H' : Hp) : Prop where
  sub : ∀ b, F b → F' b
  new : ∀ b, F' b → F b ∨ Nw H b
  same : ∀ b o, nt o = true → ¬ pt b → H b = some o → H' b = some o
  pots : ∀ b, pt b → Pot H' b
  liv : ∀ b, F' b → Lv H' b
  tbs : LamX.Tabs M.T H'
theorem pot_some {H : Hp} {b : Addr} (h : Pot H b) : H b ≠ none := by
  obtain ⟨_, _, e, _⟩ := h
  rw [e]
  exact Option.some_ne_none _
theorem pot_lv {H : Hp} {b : Addr} (h : Pot H b) : Lv H b := by
  obtain ⟨_, _, e, _⟩ := h
  exact .at_ e
theorem Ok.ext (k : Ok M pt F H) (e : Ext M pt F H F' H') : Ok M pt F' H' := ⟨e.pots, fun b hb f => by
  rcases e.new b f with z | z
  · exact k.dis b hb z
  · exact z.no (pot_lv (k.pots b hb)), e.liv, e.tbs⟩
theorem Ext.refl (k : Ok M pt F H) : Ext M pt F H F H := ⟨fun _ h => h, fun _ h => .inl h, fun _ _ _ _ h => h, k.pots, k.liv, k.tbs⟩
/-- what stands at p is no table, no code object, no exception's dict -/
def Fre (H : Hp) (p : Addr) : Prop := ∀ u, H p = some u → (∀ ps, u ≠ .tbl ps) ∧ (∀ c q, u ≠ LamX.CodeO c q) ∧ ∀ fs, u ≠ .xd fs
theorem fre_pln {H : Hp} {p : Addr} (h : ∀ u, H p = some u → pln u = true) : Fre H p := fun u hu => by
  have k := h u hu
  refine ⟨fun ps z => ?_, fun c q => pln_code k c q, fun fs z => ?_⟩
  · rw [z] at k; cases k
  · rw [z] at k; cases k
theorem setK_code {P : Program} {w : World} {a : Addr} {S : Key → Bool} {n : Nat} (c : Addr) (q : Str) : SetK P w a S n ≠ LamX.CodeO c q := fun z => by
  unfold SetK LamX.CodeO at z
  have e := HO.ext.inj z
  let ob : Obj := { cls := .none, data := .fields #[.none, .str q 0] }
  let h : PySem.Heap := { objs := (List.replicate (c + 1) ob).toArray }
  have hb : ∀ b, h.objs[b]? = if b < c + 1 then some ob else none := fun b => by
    show (List.replicate (c + 1) ob).toArray[b]? = _
    rw [List.getElem?_toArray, List.getElem?_replicate]
  have at_ : ∀ b o, h.get? b = some o → o = ob := fun b o he => by
    unfold PySem.Heap.get? at he
    rw [hb b] at he
    by_cases w : b < c + 1
    · rw [if_pos w] at he
      exact (Option.some.inj he).symm
    · rw [if_neg w] at he
      cases he
  have hc : h.get? c = some ob := by
    unfold PySem.Heap.get?
    rw [hb c, if_pos (Nat.lt_succ_self c)]
  have y : h.SetOf (mixKind P w) a S n := by
    rw [congrFun e h]
    exact ⟨ob, _, 0, hc, rfl, rfl⟩
  obtain ⟨o, es, ep, t, h1, _, h3, _⟩ := y
  rw [at_ _ _ h1] at h3
  cases h3
/-- a set at p that has just the keys l -/
def KSet (P : Program) (w : World) (l : List Key) (H : Hp) (p : Addr) : Prop := ∃ (S : Key → Bool) (n : Nat), H p = some (SetK P w p S n) ∧ (∀ k, S k = true ↔ k ∈ l) ∧ n ≤ l.length
theorem KSet.fre {P : Program} {w : World} {l : List Key} {H : Hp} {p : Addr} (k : KSet P w l H p) : Fre H p := fun u hu => by
  obtain ⟨S, n, h, _⟩ := k
  rw [h] at hu
  cases hu
  exact ⟨fun ps z => (by unfold SetK at z; cases z), fun c q => setK_code c q, fun fs z => (by unfold SetK at z; cases z)⟩
theorem tabs_upd {T : List (Addr × Str)} {p : Addr} {o : HO} (h : LamX.Tabs T H) (n : Fre H p) : LamX.Tabs T (upd H p o) := fun q hq => by
  obtain ⟨ps, h1, h2, h3⟩ := h q hq
  refine ⟨ps, by rw [upd_ne (fun z => (n _ (z ▸ h1)).1 _ rfl)]; exact h1, h2, fun pos cv hc => ?_⟩
  obtain ⟨c, e, hk⟩ := h3 pos cv hc
  exact ⟨c, e, by rw [upd_ne (fun z => (n _ (z ▸ hk)).2.1 _ _ rfl)]; exact hk⟩
theorem tabs_new {T : List (Addr × Str)} {p : Addr} {o : HO} (h : LamX.Tabs T H) (n : H p = none) : LamX.Tabs T (upd H p o) := tabs_upd h fun u hu => by rw [n] at hu; cases hu
theorem tabs_but {T : List (Addr × Str)} {p : Addr} (h : LamX.Tabs T H) (s : But p H H') (n : ∀ u, H p = some u → pln u = true) : LamX.Tabs T H' := fun q hq => by
  obtain ⟨ps, h1, h2, h3⟩ := h q hq
  refine ⟨ps, s _ _ (fun z => by have := n _ (z ▸ h1); cases this) h1, h2, fun pos cv hc => ?_⟩
  obtain ⟨c, e, hk⟩ := h3 pos cv hc
  exact ⟨c, e, s _ _ (fun z => pln_code (n _ (z ▸ hk)) _ _ rfl) hk⟩
theorem pot_pln {p : Addr} (h : Pot H p) : ∀ u, H p = some u → pln u = true := fun u hu => by
  obtain ⟨_, _, e, _⟩ := h
  rw [e] at hu
  cases hu
  rfl
theorem Ext.nw {b : Addr} (e : Ext M pt F H F' H') (n : Nw H' b) : Nw H b := fun o h => by
  cases ht : nt o with
  | false => rfl
  | true =>
    by_cases hp : pt b
    · exact (n.no (pot_lv (e.pots b hp))).elim
    · exact (n.no ⟨o, e.same b o ht hp h, ht⟩).elim
theorem Ext.nn {b : Addr} (e : Ext M pt F H F' H') (n : H' b = none) : Nw H b := e.nw (.of n)
theorem Ext.trans {F'' : Addr → Prop} {H'' : Hp} (e : Ext M pt F H F' H') (k : Ext M pt F' H' F'' H'') : Ext M pt F H F'' H'' :=
  ⟨fun b h => k.sub b (e.sub b h), fun b h => by
    rcases k.new b h with z | z
    · exact e.new b z
    · exact .inr (e.nw z), fun b o t n h => k.same b o t n (e.same b o t n h), k.pots, k.liv, k.tbs⟩
theorem upd_live {H : Hp} {p b : Addr} {o : HO} (h : H b ≠ none) : upd H p o b ≠ none := by
  by_cases z : b = p
  · rw [z, upd_same]; exact Option.some_ne_none _
  · rw [upd_ne z]; exact h
theorem upd_lv {H : Hp} {p b : Addr} {o : HO} (h : Lv H b) (t : nt o = true := by rfl) : Lv (upd H p o) b := by
  by_cases z : b = p
  · rw [z]; exact ⟨o, upd_same, t⟩
  · obtain ⟨u, e, k⟩ := h
    exact ⟨u, by rw [upd_ne z]; exact e, k⟩
theorem Ok.not_pt' (k : Ok M pt F H) {b : Addr} (n : Nw H b) : ¬ pt b := fun h => n.no (pot_lv (k.pots b h))
theorem Ok.not_pt (k : Ok M pt F H) {b : Addr} (n : H b = none) : ¬ pt b := k.not_pt' (.of n)
theorem Ok.pot (k : Ok M pt F H) {b : Addr} (h : pt b) : Pot H b := k.pots b h
/-- a new thing at p -/
theorem Ext.put (k : Ok M pt F H) {p : Addr} {o : HO} (n : H p = none) (t : nt o = true := by rfl) : Ext M pt F H (fun b => F b ∨ b = p) (upd H p o) :=
  ⟨fun _ h => .inl h, fun b h => h.elim .inl fun z => .inr (z ▸ .of n), fun b u _ hb e => by rw [upd_ne (ne_of_none e n)]; exact e, fun b hb => pot_upd (k.pots b hb) fun z => k.not_pt n (z ▸ hb), fun b z => z.elim (fun f => upd_lv (k.liv b f) t) fun q => by rw [q]; exact ⟨o, upd_same, t⟩, tabs_new k.tbs n⟩
/-- .. that is not fixed -/
theorem Ext.put0 (k : Ok M pt F H) {p : Addr} {o : HO} (n : H p = none) (t : nt o = true := by rfl) : Ext M pt F H F (upd H p o) :=
  ⟨fun _ h => h, fun b h => .inl h, fun b u _ hb e => by rw [upd_ne (ne_of_none e n)]; exact e, fun b hb => pot_upd (k.pots b hb) fun z => k.not_pt n (z ▸ hb), fun b f => upd_lv (k.liv b f) t, tabs_new k.tbs n⟩
theorem Ext.of_same (k : Ok M pt F H) (s : Same H H') : Ext M pt F H F H' := ⟨fun _ h => h, fun _ h => .inl h, fun b o _ _ h => s b o h, fun b hb => pot_same (k.pots b hb) s, fun b f => by
  obtain ⟨o, e, t⟩ := k.liv b f
  exact ⟨o, s _ _ e, t⟩, k.tbs.ext s⟩
theorem Ext.of_but (k : Ok M pt F H) {p : Addr} (hp : pt p) (s : But p H H') (P : Pot H' p) : Ext M pt F H F H' := ⟨fun _ h => h, fun _ h => .inl h, fun b o _ n h => s b o (fun z => n (z ▸ hp)) h, fun b hb => by
  by_cases z : b = p
  · rw [z]; exact P
  · exact pot_but (k.pots b hb) z s, fun b f => by
  obtain ⟨o, e, t⟩ := k.liv b f
  exact ⟨o, s _ _ (fun z => k.dis p hp (z ▸ f)) e, t⟩, tabs_but k.tbs s (pot_pln (k.pots p hp))⟩
/-- all but tables stays -/
theorem Ext.of_tab (k : Ok M pt F H) (s : LamX.ExtN H H') (T : LamX.Tabs M.T H') : Ext M pt F H F H' := ⟨fun _ h => h, fun _ h => .inl h, fun b o t _ h => s b o h (nt_ne t), fun b hb => by
  obtain ⟨i, j, e, r⟩ := k.pots b hb
  exact ⟨i, j, s _ _ e (nt_ne rfl), r⟩, fun b f => by
  obtain ⟨o, e, t⟩ := k.liv b f
  exact ⟨o, s _ _ e (nt_ne t), t⟩, T⟩
theorem Ext.more {G : Addr → Prop} (e : Ext M pt F H F' H') (h : ∀ b, G b → Nw H b) (l : ∀ b, G b → Lv H' b) : Ext M pt F H (fun b => F' b ∨ G b) H' := ⟨fun b z => .inl (e.sub b z), fun b z => z.elim (e.new b) fun g => .inr (h b g), e.same, e.pots, fun b z => z.elim (e.liv b) (l b), e.tbs⟩
theorem Ext.up (k : Ok M pt F H) (e : Ext M pt F H F' H') : ∀ b o, nt o = true → F b → H b = some o → F' b ∧ H' b = some o := fun b o t f h => ⟨e.sub b f, e.same b o t (fun z => k.dis b z f) h⟩
theorem Rp.ext {v : V} {d : D} (k : Ok M pt F H) (e : Ext M pt F H F' H') (r : Rp M F H v d) : Rp M F' H' v d := r.up (Ext.up k e)
theorem RpA.ext {v : List V} {d : List D} (k : Ok M pt F H) (e : Ext M pt F H F' H') (r : RpA M F H v d) : RpA M F' H' v d := r.up (Ext.up k e)
theorem RpK.ext {v : List (Key × V)} {d : List (Key × D)} (k : Ok M pt F H) (e : Ext M pt F H F' H') (r : RpK M F H v d) : RpK M F' H' v d := r.up (Ext.up k e)
/-- a value whose own place may be anywhere but a pot -/
def Rb (M : Cm) (pt F : Addr → Prop) (H : Hp) (v : V) : D → Prop
  | .lst ds => ∃ a vs, v = .ref a ∧ ¬ pt a ∧ H a = some (.lst vs) ∧ RpA M F H vs ds
  | .tup ds => ∃ a vs, v = .ref a ∧ ¬ pt a ∧ H a = some (.tup vs) ∧ RpA M F H vs ds
  | .dic ps => ∃ a kvs, v = .ref a ∧ ¬ pt a ∧ H a = some (.dK kvs) ∧ RpK M F H kvs ps
  | .ob c ds => ∃ a dx vs, v = .ref a ∧ ¬ pt a ∧ H a = some (.ins (M.ca c) dx ((M.fn c).zip vs)) ∧ vs.length ≤ (M.fn c).length ∧ RpA M F H vs ds
  | d => Rp M F H v d
theorem Rp.rb {v : V} {d : D} (k : Ok M pt F H) (r : Rp M F H v d) : Rb M pt F H v d := by
  cases r with
  | non => exact .non
  | bl b => exact .bl b
  | int i => exact .int i
  | str s => exact .str s
  | lst f e r => exact ⟨_, _, rfl, fun z => k.dis _ z f, e, r⟩
  | tup f e r => exact ⟨_, _, rfl, fun z => k.dis _ z f, e, r⟩
  | dic f e r => exact ⟨_, _, rfl, fun z => k.dis _ z f, e, r⟩
  | ob f e l r => exact ⟨_, _, _, rfl, fun z => k.dis _ z f, e, l, r⟩
theorem Rb.ext {v : V} {d : D} (k : Ok M pt F H) (e : Ext M pt F H F' H') (r : Rb M pt F H v d) : Rb M pt F' H' v d := by
  cases d with
  | non => exact Rp.ext k e r
  | bl b => exact Rp.ext k e r
  | int i => exact Rp.ext k e r
  | str s => exact Rp.ext k e r
  | lst ds => exact let ⟨a, vs, z, n, h, q⟩ := r; ⟨a, vs, z, n, e.same _ _ rfl n h, q.ext k e⟩
  | tup ds => exact let ⟨a, vs, z, n, h, q⟩ := r; ⟨a, vs, z, n, e.same _ _ rfl n h, q.ext k e⟩
  | dic ds => exact let ⟨a, vs, z, n, h, q⟩ := r; ⟨a, vs, z, n, e.same _ _ rfl n h, q.ext k e⟩
  | ob c ds => exact let ⟨a, dx, vs, z, n, h, l, q⟩ := r; ⟨a, dx, vs, z, n, e.same _ _ rfl n h, l, q.ext k e⟩
/-- .. becomes fixed -/
theorem Rb.fix {a : Addr} {d : D} (r : Rb M pt F H (.ref a) d) : Rp M (fun b => F b ∨ b = a) H (.ref a) d := by
  have up : ∀ b o, nt o = true → F b → H b = some o → (F b ∨ b = a) ∧ H b = some o := fun b o _ f e => ⟨.inl f, e⟩
  cases d with
  | non => cases r
  | bl b => cases r
  | int i => cases r
  | str s => cases r
  | lst ds =>
    obtain ⟨a', vs, z, n, h, q⟩ := r
    cases z
    exact .lst (.inr rfl) h (q.up up)
  | tup ds =>
    obtain ⟨a', vs, z, n, h, q⟩ := r
    cases z
    exact .tup (.inr rfl) h (q.up up)
  | dic ds =>
    obtain ⟨a', vs, z, n, h, q⟩ := r
    cases z
    exact .dic (.inr rfl) h (q.up up)
  | ob c ds =>
    obtain ⟨a', dx, vs, z, n, h, l, q⟩ := r
    cases z
    exact .ob (.inr rfl) h l (q.up up)
theorem Rb.tr {F1 : Addr → Prop} {H1 : Hp} {v : V} {d : D} (up : ∀ b o, nt o = true → F b → H b = some o → F1 b ∧ H1 b = some o) (rt : ∀ a, v = .ref a → ∀ o, nt o = true → H a = some o → H1 a = some o) (r : Rb M pt F H v d) : Rb M pt F1 H1 v d := by
  cases d with
  | non => exact Rp.up up r
  | bl b => exact Rp.up up r
  | int i => exact Rp.up up r
  | str s => exact Rp.up up r
  | lst ds => exact let ⟨a, vs, z, n, h, q⟩ := r; ⟨a, vs, z, n, rt a z _ rfl h, q.up up⟩
  | tup ds => exact let ⟨a, vs, z, n, h, q⟩ := r; ⟨a, vs, z, n, rt a z _ rfl h, q.up up⟩
  | dic ds => exact let ⟨a, vs, z, n, h, q⟩ := r; ⟨a, vs, z, n, rt a z _ rfl h, q.up up⟩
  | ob c ds => exact let ⟨a, dx, vs, z, n, h, l, q⟩ := r; ⟨a, dx, vs, z, n, rt a z _ rfl h, l, q.up up⟩
theorem rb_some {a : Addr} {d : D} (r : Rb M pt F H (.ref a) d) : Lv H a ∧ ¬ pt a := by
  cases d with
  | non => cases r
  | bl b => cases r
  | int i => cases r
  | str s => cases r
  | lst ds => obtain ⟨a', vs, z, n, h, q⟩ := r; cases z; exact ⟨.at_ h, n⟩
  | tup ds => obtain ⟨a', vs, z, n, h, q⟩ := r; cases z; exact ⟨.at_ h, n⟩
  | dic ds => obtain ⟨a', vs, z, n, h, q⟩ := r; cases z; exact ⟨.at_ h, n⟩
  | ob c ds => obtain ⟨a', dx, vs, z, n, h, l, q⟩ := r; cases z; exact ⟨.at_ h, n⟩
/-! ### slots -/
/-- d: fixed data; b: borrowed; own: a thing of the slot's own, its parts fixed; own2: a list of things of the slot's own -/
inductive Sl where
  | no
  | d (x : D)
  | b (x : D)
  | own (x : D)
  | own2 (xs : List D)
  | pot
  /-- any value, as it is -/
  | raw (v : V)
  /-- a caught exception at a, its dict at dd -/
  | exc (c : Nat) (xs : List D) (a dd : Addr)
  /-- a set of keys of the slot's own -/
  | kset (P : Program) (w : World) (l : List Key)
abbrev Rho := List Sl
structure Ow where
  a : Nat → Addr
  c : Nat → List Addr
/-- things side by side, each at a place of its own -/
inductive Kids (M : Cm) (pt F : Addr → Prop) (H : Hp) : List Addr → List D → Prop
  | nil : Kids M pt F H [] []
  | cons {p : Addr} {d : D} {ps : List Addr} {ds : List D} : Rb M pt F H (.ref p) d → Kids M pt F H ps ds → Kids M pt F H (p :: ps) (d :: ds)
theorem Kids.tr {F1 : Addr → Prop} {H1 : Hp} {cs : List Addr} {ds : List D} (up : ∀ b o, nt o = true → F b → H b = some o → F1 b ∧ H1 b = some o) (rt : ∀ a, a ∈ cs → ∀ o, nt o = true → H a = some o → H1 a = some o) (k : Kids M pt F H cs ds) : Kids M pt F1 H1 cs ds := by
  induction k with
  | nil => exact .nil
  | cons r k ih => exact .cons (r.tr up fun a z => rt a (by cases z; exact List.mem_cons_self)) (ih fun a h => rt a (List.mem_cons_of_mem _ h))
theorem Kids.live {cs : List Addr} {ds : List D} (k : Kids M pt F H cs ds) : ∀ a ∈ cs, Lv H a ∧ ¬ pt a := by
  induction k with
  | nil => intro a h; cases h
  | cons r k ih => intro a h; rcases List.mem_cons.mp h with rfl | z; exact rb_some r; exact ih a z
theorem Kids.length {cs : List Addr} {ds : List D} (k : Kids M pt F H cs ds) : cs.length = ds.length := by
  induction k with
  | nil => rfl
  | cons r k ih => rw [List.length_cons, List.length_cons, ih]
theorem Kids.get {cs : List Addr} {ds : List D} (k : Kids M pt F H cs ds) : ∀ {i : Nat} {d : D}, ds[i]? = some d → ∃ c, cs[i]? = some c ∧ Rb M pt F H (.ref c) d := by
  induction k with
  | nil => intro i d h; simp at h
  | cons r k ih =>
    intro i d h
    cases i with
    | zero => simp only [List.getElem?_cons_zero, Option.some.injEq] at h; subst h; exact ⟨_, rfl, r⟩
    | succ i => simp only [List.getElem?_cons_succ] at h; exact ih h
/-- one of them changes -/
theorem Kids.upd {cs : List Addr} {ds : List D} (k : Kids M pt F H cs ds) : ∀ {i : Nat} {c : Addr} {u : HO} {d' : D}, cs[i]? = some c → cs.Nodup → ¬ F c → Rb M pt F (L2.upd H c u) (.ref c) d' → Kids M pt F (L2.upd H c u) cs (ds.set i d') := by
  induction k with
  | nil => intro i c u d' h; simp at h
  | cons r k ih =>
    rename_i p0 d0 ps0 ds0
    intro i c u d' h nd f r'
    have up : ∀ b o, nt o = true → F b → H b = some o → F b ∧ L2.upd H c u b = some o := fun b o _ fb e => ⟨fb, by rw [upd_ne (fun (z : b = c) => f (z ▸ fb))]; exact e⟩
    cases i with
    | zero =>
      simp only [List.getElem?_cons_zero, Option.some.injEq] at h
      subst h
      exact .cons r' (k.tr up fun a ha o _ e => by rw [upd_ne (fun (z : a = p0) => (List.nodup_cons.mp nd).1 (z ▸ ha))]; exact e)
    | succ i =>
      simp only [List.getElem?_cons_succ] at h
      have hm := List.mem_of_getElem? h
      refine .cons (r.tr up fun a z o _ e => ?_) (ih h (List.nodup_cons.mp nd).2 f r')
      cases z
      rw [upd_ne (fun (z : p0 = c) => (List.nodup_cons.mp nd).1 (by rw [z]; exact hm))]
      exact e
/-- the places of what a slot owns -/
def owA (o : Ow) (i : Nat) : Sl → List Addr
  | .own _ => [o.a i]
  | .own2 _ => o.a i :: o.c i
  | .kset _ _ _ => [o.a i]
  | _ => []
def owl (o : Ow) (ρ : Rho) (i : Nat) : List Addr := match ρ[i]? with
  | some s => owA o i s
  | none => []
def NoOw (s : Sl) : Prop := ∀ o i, owA o i s = []
def SlOk (M : Cm) (pt F : Addr → Prop) (H0 : Hp) (o : Ow) (σ : L2.St) (H : Hp) (i : Nat) : Sl → Prop
  | .no => True
  | .d x => ∃ v, σ[i]? = some (some v) ∧ Rp M F H v x
  | .b x => ∃ v, σ[i]? = some (some v) ∧ Rb M pt F H v x ∧ ∀ a, v = .ref a → Lv H0 a
  | .own x => σ[i]? = some (some (.ref (o.a i))) ∧ Rb M pt F H (.ref (o.a i)) x ∧ Nw H0 (o.a i) ∧ ¬ F (o.a i)
  | .own2 xs => σ[i]? = some (some (.ref (o.a i))) ∧ H (o.a i) = some (.lst ((o.c i).map V.ref)) ∧ Kids M pt F H (o.c i) xs ∧ (o.a i :: o.c i).Nodup ∧ ∀ a ∈ o.a i :: o.c i, Nw H0 a ∧ ¬ F a ∧ ¬ pt a
  | .pot => ∃ p, σ[i]? = some (some (.ref p)) ∧ pt p
  | .raw v => σ[i]? = some (some v)
  | .kset P w l => σ[i]? = some (some (.ref (o.a i))) ∧ KSet P w l H (o.a i) ∧ Nw H0 (o.a i) ∧ ¬ F (o.a i) ∧ ¬ pt (o.a i)
  | .exc c xs a dd => σ[i]? = some (some (.ref a)) ∧ ¬ pt dd ∧ ∃ vs, H dd = some (.xd ((M.fn c).zip vs)) ∧ vs.length = (M.fn c).length ∧ RpA M F H vs xs
/-- where the first slot's own thing stands; things that are held aside, not by a slot -/
structure Gh where
  z : Addr
  gs : List (Addr × D)
structure GhOk (M : Cm) (pt F : Addr → Prop) (H0 : Hp) (o : Ow) (H : Hp) (ρ : Rho) (e : Addr × D) : Prop where
  rb : Rb M pt F H (.ref e.1) e.2
  nw : Nw H0 e.1
  nf : ¬ F e.1
  no : ∀ i, e.1 ∉ owl o ρ i
structure En (M : Cm) (pt F0 : Addr → Prop) (H0 : Hp) (z0 : Gh) (F : Addr → Prop) (o : Ow) (σ : L2.St) (H : Hp) (ρ : Rho) : Prop where
  ok0 : Ok M pt F0 H0
  ext : Ext M pt F0 H0 F H
  len : σ.length = ρ.length
  sl : ∀ i s, ρ[i]? = some s → SlOk M pt F H0 o σ H i s
  dj : ∀ i j a, a ∈ owl o ρ i → a ∈ owl o ρ j → i = j
  zr : o.a 0 = z0.z
  gh : ∀ e ∈ z0.gs, GhOk M pt F H0 o H ρ e
variable {o : Ow} {σ : L2.St} {ρ : Rho}
theorem En.ok (e : En M pt F0 H0 z0 F o σ H ρ) : Ok M pt F H := e.ok0.ext e.ext
theorem owl_own {i : Nat} {x : D} (h : ρ[i]? = some (.own x)) : owl o ρ i = [o.a i] := by unfold owl; rw [h]; rfl
theorem owl_own2 {i : Nat} {xs : List D} (h : ρ[i]? = some (.own2 xs)) : owl o ρ i = o.a i :: o.c i := by unfold owl; rw [h]; rfl
theorem owl_at {i : Nat} {s : Sl} (h : ρ[i]? = some s) : owl o ρ i = owA o i s := by unfold owl; rw [h]
theorem owl_mem {i : Nat} {a : Addr} (h : a ∈ owl o ρ i) : ∃ s, ρ[i]? = some s ∧ a ∈ owA o i s := by
  unfold owl at h
  split at h
  · rename_i s hs
    exact ⟨s, hs, h⟩
  · cases h
theorem En.owlOk (e : En M pt F0 H0 z0 F o σ H ρ) {i : Nat} {a : Addr} (h : a ∈ owl o ρ i) : Nw H0 a ∧ ¬ F a ∧ Lv H a ∧ ¬ pt a := by
  obtain ⟨s, hx, h⟩ := owl_mem h
  have q := e.sl i _ hx
  cases s with
  | own x =>
    obtain ⟨_, r, n, f⟩ := q
    rw [List.mem_singleton.mp h]
    exact ⟨n, f, (rb_some r).1, (rb_some r).2⟩
  | own2 xs =>
    obtain ⟨_, hl, k, nd, al⟩ := q
    refine ⟨(al a h).1, (al a h).2.1, ?_, (al a h).2.2⟩
    rcases List.mem_cons.mp h with rfl | z
    · exact .at_ hl
    · exact (k.live a z).1
  | kset P w l =>
    obtain ⟨_, ⟨S, m, hS, _⟩, n, f, np⟩ := q
    rw [List.mem_singleton.mp h]
    exact ⟨n, f, .at_ hS, np⟩
  | _ => cases h
/-- an unchanged slot in another heap -/
theorem SlOk.tr {F1 : Addr → Prop} {H1 : Hp} {o1 : Ow} {σ1 : L2.St} {i : Nat} {s : Sl} (q : SlOk M pt F H0 o σ H i s) (up : ∀ b u, nt u = true → F b → H b = some u → F1 b ∧ H1 b = some u) (old : ∀ b u, nt u = true → Lv H0 b → ¬ pt b → H b = some u → H1 b = some u) (xd : ∀ b fs, ¬ pt b → H b = some (.xd fs) → H1 b = some (.xd fs))
    (own : ∀ a, a ∈ owA o i s → (∀ u, nt u = true → H a = some u → H1 a = some u) ∧ (¬ F a → ¬ F1 a)) (ea : o1.a i = o.a i) (ec : o1.c i = o.c i) (es : σ1[i]? = σ[i]?) : SlOk M pt F1 H0 o1 σ1 H1 i s := by
  cases s with
  | no => trivial
  | d y => exact let ⟨v, a, r⟩ := q; ⟨v, es.trans a, r.up up⟩
  | b y =>
    obtain ⟨v, a, r, n⟩ := q
    exact ⟨v, es.trans a, r.tr up fun a z u t hu => old a u t (n a z) (by subst z; exact (rb_some r).2) hu, n⟩
  | own y =>
    obtain ⟨a, r, n, f⟩ := q
    have w := own (o.a i) List.mem_cons_self
    show σ1[i]? = some (some (.ref (o1.a i))) ∧ Rb M pt F1 H1 (.ref (o1.a i)) y ∧ Nw H0 (o1.a i) ∧ ¬ F1 (o1.a i)
    rw [ea]
    exact ⟨es.trans a, r.tr up fun b z u t hu => by cases z; exact w.1 u t hu, n, w.2 f⟩
  | own2 ys =>
    obtain ⟨a, hl, k, nd, al⟩ := q
    have w := fun b hb => own b hb
    show σ1[i]? = some (some (.ref (o1.a i))) ∧ H1 (o1.a i) = some (.lst ((o1.c i).map V.ref)) ∧ Kids M pt F1 H1 (o1.c i) ys ∧ (o1.a i :: o1.c i).Nodup ∧ ∀ a ∈ o1.a i :: o1.c i, Nw H0 a ∧ ¬ F1 a ∧ ¬ pt a
    rw [ea, ec]
    exact ⟨es.trans a, (w _ List.mem_cons_self).1 _ rfl hl, k.tr up fun b hb u t hu => (w b (List.mem_cons_of_mem _ hb)).1 u t hu, nd, fun b hb => ⟨(al b hb).1, (w b hb).2 (al b hb).2.1, (al b hb).2.2⟩⟩
  | pot => exact let ⟨p, a, r⟩ := q; ⟨p, es.trans a, r⟩
  | raw v => exact es.trans q
  | kset P w l =>
    obtain ⟨a, ⟨S, m, h1, h2, h3⟩, n, f, np⟩ := q
    have w := own (o.a i) List.mem_cons_self
    show σ1[i]? = some (some (.ref (o1.a i))) ∧ KSet P _ l H1 (o1.a i) ∧ Nw H0 (o1.a i) ∧ ¬ F1 (o1.a i) ∧ ¬ pt (o1.a i)
    rw [ea]
    exact ⟨es.trans a, ⟨S, m, w.1 _ rfl h1, h2, h3⟩, n, w.2 f, np⟩
  | exc c xs a dd => exact let ⟨h1, h2, vs, h3, h4, h5⟩ := q; ⟨es.trans h1, h2, vs, xd _ _ h2 h3, h4, h5.up up⟩
theorem owl_of {i : Nat} {s : Sl} {a : Addr} (h : ρ[i]? = some s) (h1 : a ∈ owA o i s) : a ∈ owl o ρ i := by rw [owl_at h]; exact h1
theorem owl_set {i j : Nat} {s : Sl} {a : Addr} (h : a ∈ owl o (ρ.set i s) j) (hs : NoOw s) : a ∈ owl o ρ j ∧ j ≠ i := by
  obtain ⟨s', h1, h2⟩ := owl_mem h
  rw [List.getElem?_set] at h1
  by_cases e : i = j
  · rw [if_pos e] at h1
    split at h1
    · cases h1
      rw [hs] at h2
      cases h2
    · cases h1
  · rw [if_neg e] at h1
    exact ⟨owl_of h1 h2, Ne.symm e⟩
theorem En.step (e : En M pt F0 H0 z0 F o σ H ρ) (x : Ext M pt F H F' H') : En M pt F0 H0 z0 F' o σ H' ρ := by
  have up := Ext.up e.ok x
  refine ⟨e.ok0, e.ext.trans x, e.len, fun i s h => (e.sl i s h).tr up (fun b u t _ np hu => x.same b u t np hu) (fun b fs np hu => x.same b _ rfl np hu) (fun a h1 => ?_) rfl rfl rfl, e.dj, e.zr, fun g hg => ⟨(e.gh g hg).rb.ext e.ok x, (e.gh g hg).nw, fun z => (x.new _ z).elim (e.gh g hg).nf fun n => n.no (rb_some (e.gh g hg).rb).1, (e.gh g hg).no⟩⟩
  have w := e.owlOk (owl_of h h1)
  exact ⟨fun u t hu => x.same a u t w.2.2.2 hu, fun f z => (x.new a z).elim f fun n => n.no w.2.2.1⟩
/-- a slot that is given something not of its own -/
theorem En.put (e : En M pt F0 H0 z0 F o σ H ρ) {i : Nat} {u : Option V} {s : Sl} (hs : NoOw s) (q : i < ρ.length → SlOk M pt F H0 o (σ.set i u) H i s) : En M pt F0 H0 z0 F o (σ.set i u) H (ρ.set i s) := by
  refine ⟨e.ok0, e.ext, by rw [List.length_set, List.length_set, e.len], fun j s' h => ?_, fun j k a h1 h2 => e.dj j k a (owl_set h1 hs).1 (owl_set h2 hs).1, e.zr, fun g hg => ⟨(e.gh g hg).rb, (e.gh g hg).nw, (e.gh g hg).nf, fun j h => (e.gh g hg).no j (owl_set h hs).1⟩⟩
  rw [List.getElem?_set] at h
  by_cases hij : i = j
  · subst hij
    rw [if_pos rfl] at h
    split at h
    · rename_i hl
      cases h
      exact q hl
    · cases h
  · rw [if_neg hij] at h
    exact (e.sl j s' h).tr (fun b u _ f z => ⟨f, z⟩) (fun b u _ _ _ z => z) (fun _ _ _ z => z) (fun a _ => ⟨fun u _ z => z, fun z => z⟩) rfl rfl (by rw [List.getElem?_set, if_neg hij])
theorem En.set (e : En M pt F0 H0 z0 F o σ H ρ) {i : Nat} {v : V} {d : D} (r : Rp M F H v d) : En M pt F0 H0 z0 F o (σ.set i (some v)) H (ρ.set i (.d d)) :=
  e.put (fun _ _ => rfl) fun hl => ⟨v, by rw [List.getElem?_set, if_pos rfl, if_pos (by rw [e.len]; exact hl)], r⟩
theorem En.forget (e : En M pt F0 H0 z0 F o σ H ρ) {i : Nat} {u : Option V} : En M pt F0 H0 z0 F o (σ.set i u) H (ρ.set i .no) :=
  e.put (fun _ _ => rfl) fun _ => trivial
def Ow.set (o : Ow) (i : Nat) (p : Addr) (cs : List Addr) : Ow := ⟨fun j => if j = i then p else o.a j, fun j => if j = i then cs else o.c j⟩
theorem owl_put {i j : Nat} {p : Addr} {cs : List Addr} {s : Sl} {a : Addr} (h : a ∈ owl (o.set i p cs) (ρ.set i s) j) : (j ≠ i ∧ a ∈ owl o ρ j) ∨ (j = i ∧ a ∈ p :: cs) := by
  obtain ⟨s', h1, h2⟩ := owl_mem h
  rw [List.getElem?_set] at h1
  by_cases e : i = j
  · refine .inr ⟨e.symm, ?_⟩
    subst e
    have ha : (o.set i p cs).a i = p := if_pos rfl
    have hc : (o.set i p cs).c i = cs := if_pos rfl
    cases s' with
    | own x =>
      have h2 : a ∈ [(o.set i p cs).a i] := h2
      rw [ha] at h2
      rw [List.mem_singleton.mp h2]
      exact List.mem_cons_self
    | own2 xs =>
      have h2 : a ∈ (o.set i p cs).a i :: (o.set i p cs).c i := h2
      rw [ha, hc] at h2
      exact h2
    | kset P w l =>
      have h2 : a ∈ [(o.set i p cs).a i] := h2
      rw [ha] at h2
      rw [List.mem_singleton.mp h2]
      exact List.mem_cons_self
    | _ => cases h2
  · rw [if_neg e] at h1
    have ha : (o.set i p cs).a j = o.a j := if_neg (Ne.symm e)
    have hc : (o.set i p cs).c j = o.c j := if_neg (Ne.symm e)
    refine .inl ⟨Ne.symm e, owl_of h1 ?_⟩
    cases s' with
    | own x =>
      have h2 : a ∈ [(o.set i p cs).a j] := h2
      rw [ha] at h2
      exact h2
    | own2 xs =>
      have h2 : a ∈ (o.set i p cs).a j :: (o.set i p cs).c j := h2
      rw [ha, hc] at h2
      exact h2
    | kset P w l =>
      have h2 : a ∈ [(o.set i p cs).a j] := h2
      rw [ha] at h2
      exact h2
    | _ => cases h2
/-- a slot is given a thing of its own: at p, the parts that are its own at cs -/
theorem En.putOwn (e : En M pt F0 H0 z0 F o σ H ρ) {i : Nat} {p : Addr} {cs : List Addr} {s : Sl} (q : i < ρ.length → SlOk M pt F H0 (o.set i p cs) (σ.set i (some (.ref p))) H i s) (nu : ∀ j a, j ≠ i → a ∈ owl o ρ j → a ∉ p :: cs) (i0 : i ≠ 0) (ng : ∀ g ∈ z0.gs, g.1 ∉ p :: cs) :
    En M pt F0 H0 z0 F (o.set i p cs) (σ.set i (some (.ref p))) H (ρ.set i s) := by
  refine ⟨e.ok0, e.ext, by rw [List.length_set, List.length_set, e.len], fun j s' h => ?_, fun j k a h1 h2 => ?_, ?_, fun g hg => ⟨(e.gh g hg).rb, (e.gh g hg).nw, (e.gh g hg).nf, fun j h => ?_⟩⟩
  · rw [List.getElem?_set] at h
    by_cases hij : i = j
    · subst hij
      rw [if_pos rfl] at h
      split at h
      · rename_i hl
        cases h
        exact q hl
      · cases h
    · rw [if_neg hij] at h
      exact (e.sl j s' h).tr (fun b u _ f z => ⟨f, z⟩) (fun b u _ _ _ z => z) (fun _ _ _ z => z) (fun a _ => ⟨fun u _ z => z, fun z => z⟩) (if_neg (Ne.symm hij)) (if_neg (Ne.symm hij)) (by rw [List.getElem?_set, if_neg hij])
  · rcases owl_put h1 with ⟨n1, m1⟩ | ⟨e1, m1⟩
    · rcases owl_put h2 with ⟨n2, m2⟩ | ⟨e2, m2⟩
      · exact e.dj j k a m1 m2
      · exact absurd m2 (nu j a n1 m1)
    · rcases owl_put h2 with ⟨n2, m2⟩ | ⟨e2, m2⟩
      · exact absurd m1 (nu k a n2 m2)
      · rw [e1, e2]
  · show (if 0 = i then p else o.a 0) = z0.z
    rw [if_neg (Ne.symm i0)]
    exact e.zr
  · rcases owl_put h with ⟨n1, m1⟩ | ⟨e1, m1⟩
    · exact (e.gh g hg).no j m1
    · exact ng g hg m1
theorem En.setOwn (e : En M pt F0 H0 z0 F o σ H ρ) {i : Nat} {p : Addr} {d : D} (r : Rb M pt F H (.ref p) d) (n : Nw H0 p) (f : ¬ F p) (nu : ∀ j a, j ≠ i → a ∈ owl o ρ j → a ≠ p) (i0 : i ≠ 0) (ng : ∀ g ∈ z0.gs, p ≠ g.1) :
    En M pt F0 H0 z0 F (o.set i p []) (σ.set i (some (.ref p))) H (ρ.set i (.own d)) := by
  refine e.putOwn (fun hl => ?_) (fun j a hj ha z => nu j a hj ha (List.mem_singleton.mp z)) i0 fun g hg z => ng g hg (List.mem_singleton.mp z).symm
  have ha : (o.set i p []).a i = p := if_pos rfl
  show (σ.set i (some (.ref p)))[i]? = some (some (.ref ((o.set i p []).a i))) ∧ Rb M pt F H (.ref ((o.set i p []).a i)) d ∧ Nw H0 ((o.set i p []).a i) ∧ ¬ F ((o.set i p []).a i)
  rw [ha]
  exact ⟨by rw [List.getElem?_set, if_pos rfl, if_pos (by rw [e.len]; exact hl)], r, n, f⟩
theorem En.setOwn2 (e : En M pt F0 H0 z0 F o σ H ρ) {i : Nat} {p : Addr} {cs : List Addr} {ds : List D} (hp : H p = some (.lst (cs.map V.ref))) (k : Kids M pt F H cs ds) (nd : (p :: cs).Nodup) (al : ∀ a ∈ p :: cs, Nw H0 a ∧ ¬ F a ∧ ¬ pt a) (nu : ∀ j a, j ≠ i → a ∈ owl o ρ j → a ∉ p :: cs) (i0 : i ≠ 0) (ng : ∀ g ∈ z0.gs, g.1 ∉ p :: cs) :
    En M pt F0 H0 z0 F (o.set i p cs) (σ.set i (some (.ref p))) H (ρ.set i (.own2 ds)) := by
  refine e.putOwn (fun hl => ?_) nu i0 ng
  have ha : (o.set i p cs).a i = p := if_pos rfl
  have hc : (o.set i p cs).c i = cs := if_pos rfl
  show (σ.set i (some (.ref p)))[i]? = some (some (.ref ((o.set i p cs).a i))) ∧ H ((o.set i p cs).a i) = some (.lst (((o.set i p cs).c i).map V.ref)) ∧ Kids M pt F H ((o.set i p cs).c i) ds ∧ ((o.set i p cs).a i :: (o.set i p cs).c i).Nodup ∧ ∀ a ∈ (o.set i p cs).a i :: (o.set i p cs).c i, Nw H0 a ∧ ¬ F a ∧ ¬ pt a
  rw [ha, hc]
  exact ⟨by rw [List.getElem?_set, if_pos rfl, if_pos (by rw [e.len]; exact hl)], hp, k, nd, al⟩
theorem En.setKs (e : En M pt F0 H0 z0 F o σ H ρ) {i : Nat} {p : Addr} {P : Program} {w : World} {l : List Key} (r : KSet P w l H p) (n : Nw H0 p) (f : ¬ F p) (np : ¬ pt p) (nu : ∀ j a, j ≠ i → a ∈ owl o ρ j → a ≠ p) (i0 : i ≠ 0) (ng : ∀ g ∈ z0.gs, p ≠ g.1) :
    En M pt F0 H0 z0 F (o.set i p []) (σ.set i (some (.ref p))) H (ρ.set i (.kset P w l)) := by
  refine e.putOwn (fun hl => ?_) (fun j a hj ha z => nu j a hj ha (List.mem_singleton.mp z)) i0 fun g hg z => ng g hg (List.mem_singleton.mp z).symm
  have ha : (o.set i p []).a i = p := if_pos rfl
  show (σ.set i (some (.ref p)))[i]? = some (some (.ref ((o.set i p []).a i))) ∧ KSet P _ l H ((o.set i p []).a i) ∧ Nw H0 ((o.set i p []).a i) ∧ ¬ F ((o.set i p []).a i) ∧ ¬ pt ((o.set i p []).a i)
  rw [ha]
  exact ⟨by rw [List.getElem?_set, if_pos rfl, if_pos (by rw [e.len]; exact hl)], r, n, f, np⟩
theorem Kids.fix {cs : List Addr} {ds : List D} (k : Kids M pt F H cs ds) (G : Addr → Prop) (s : ∀ b, F b → G b) (g : ∀ a ∈ cs, G a) : RpA M G H (cs.map V.ref) ds := by
  induction k with
  | nil => exact .nil
  | cons r k ih => exact .cons (r.fix.up fun b o _ hb e => ⟨hb.elim (s b) fun z => z ▸ g _ List.mem_cons_self, e⟩) (ih fun a h => g a (List.mem_cons_of_mem _ h))
/-- what is owned in slot i becomes fixed -/
def frzD : Sl → Option D
  | .own x => some x
  | .own2 xs => some (.lst xs)
  | _ => none
theorem En.freeze (e : En M pt F0 H0 z0 F o σ H ρ) {i : Nat} {s : Sl} {d : D} (h : ρ[i]? = some s) (hd : frzD s = some d) : En M pt F0 H0 z0 (fun b => F b ∨ b ∈ owl o ρ i) o σ H (ρ.set i (.d d)) := by
  have up : ∀ b u, nt u = true → F b → H b = some u → (F b ∨ b ∈ owl o ρ i) ∧ H b = some u := fun b u _ f e => ⟨.inl f, e⟩
  have hx : Ext M pt F0 H0 (fun b => F b ∨ b ∈ owl o ρ i) H := ⟨fun b z => .inl (e.ext.sub b z), fun b z => z.elim (e.ext.new b) fun q => .inr (e.owlOk q).1, e.ext.same, e.ext.pots, fun b z => z.elim (e.ext.liv b) fun q => (e.owlOk q).2.2.1, e.ext.tbs⟩
  have hs : NoOw (Sl.d d) := fun _ _ => rfl
  refine ⟨e.ok0, hx, by rw [List.length_set, e.len], fun j s' hj => ?_, fun j k a h1 h2 => e.dj j k a (owl_set h1 hs).1 (owl_set h2 hs).1, e.zr, fun g hg => ⟨(e.gh g hg).rb.tr up fun _ _ _ _ z => z, (e.gh g hg).nw, fun z => z.elim (e.gh g hg).nf ((e.gh g hg).no i), fun j h => (e.gh g hg).no j (owl_set h hs).1⟩⟩
  rw [List.getElem?_set] at hj
  by_cases hij : i = j
  · subst hij
    rw [if_pos rfl] at hj
    split at hj
    · cases hj
      have q := e.sl i s h
      cases s with
      | own x =>
        cases hd
        obtain ⟨a, r, _⟩ := q
        exact ⟨_, a, r.fix.up fun b u _ hb z => ⟨hb.elim .inl fun w => .inr (by rw [owl_own h, w]; exact List.mem_cons_self), z⟩⟩
      | own2 xs =>
        cases hd
        obtain ⟨a, hl, k, _⟩ := q
        exact ⟨_, a, .lst (.inr (by rw [owl_own2 h]; exact List.mem_cons_self)) hl (k.fix _ (fun b z => .inl z) fun b hb => .inr (by rw [owl_own2 h]; exact List.mem_cons_of_mem _ hb))⟩
      | _ => cases hd
    · cases hj
  · rw [if_neg hij] at hj
    refine (e.sl j s' hj).tr up (fun b u _ _ _ z => z) (fun _ _ _ z => z) (fun a h1 => ⟨fun u _ z => z, fun f z => z.elim f fun w => hij (e.dj i j a w (owl_of hj h1))⟩) rfl rfl rfl
theorem rb_pln {a : Addr} {d : D} (r : Rb M pt F H (.ref a) d) : ∀ u, H a = some u → pln u = true := fun u hu => by
  cases d with
  | non => cases r
  | bl b => cases r
  | int i => cases r
  | str s => cases r
  | lst ds => obtain ⟨a', vs, z, n, h, q⟩ := r; cases z; rw [h] at hu; cases hu; rfl
  | tup ds => obtain ⟨a', vs, z, n, h, q⟩ := r; cases z; rw [h] at hu; cases hu; rfl
  | dic ds => obtain ⟨a', vs, z, n, h, q⟩ := r; cases z; rw [h] at hu; cases hu; rfl
  | ob c ds => obtain ⟨a', dx, vs, z, n, h, l, q⟩ := r; cases z; rw [h] at hu; cases hu; rfl
theorem Kids.pln {cs : List Addr} {ds : List D} (k : Kids M pt F H cs ds) : ∀ a ∈ cs, ∀ u, H a = some u → pln u = true := by
  induction k with
  | nil => intro a h; cases h
  | cons r k ih => intro a h; rcases List.mem_cons.mp h with rfl | z; exact rb_pln r; exact ih a z
theorem En.owlP (e : En M pt F0 H0 z0 F o σ H ρ) {i : Nat} {a : Addr} (h : a ∈ owl o ρ i) : Fre H a := by
  obtain ⟨s, hx, h⟩ := owl_mem h
  have q := e.sl i _ hx
  cases s with
  | own x =>
    obtain ⟨_, r, n, f⟩ := q
    rw [List.mem_singleton.mp h]
    exact fre_pln (rb_pln r)
  | own2 xs =>
    obtain ⟨_, hl, k, nd, al⟩ := q
    rcases List.mem_cons.mp h with rfl | z
    · refine fre_pln fun u hu => ?_
      rw [hl] at hu
      cases hu
      rfl
    · exact fre_pln (k.pln a z)
  | kset P w l =>
    obtain ⟨_, k, _⟩ := q
    rw [List.mem_singleton.mp h]
    exact k.fre
  | _ => cases h
/-- what is owned in slot i changes, at one of its places -/
theorem En.mutS (e : En M pt F0 H0 z0 F o σ H ρ) {i : Nat} {s : Sl} {c : Addr} {u : HO} (hc : c ∈ owl o ρ i) (ho : ∀ a, a ∈ owl o (ρ.set i s) i → a ∈ owl o ρ i) (tu : nt u = true) (q : i < ρ.length → SlOk M pt F H0 o σ (upd H c u) i s) : En M pt F0 H0 z0 F o σ (upd H c u) (ρ.set i s) := by
  have w := e.owlOk hc
  have up : ∀ b v, nt v = true → F b → H b = some v → F b ∧ upd H c u b = some v := fun b v _ fb z => ⟨fb, by rw [upd_ne (fun (y : b = c) => w.2.1 (y ▸ fb))]; exact z⟩
  have hx : Ext M pt F0 H0 F (upd H c u) := ⟨e.ext.sub, e.ext.new, fun b v t nb hb => by rw [upd_ne (fun z => by have := w.1 v (z ▸ hb); rw [t] at this; cases this)]; exact e.ext.same b v t nb hb, fun b hb => pot_upd (e.ext.pots b hb) fun z => w.2.2.2 (z ▸ hb), fun b f => upd_lv (e.ext.liv b f) tu, tabs_upd e.ext.tbs (e.owlP hc)⟩
  have oj : ∀ j a, a ∈ owl o (ρ.set i s) j → a ∈ owl o ρ j := fun j a h => by
    by_cases z : j = i
    · subst z; exact ho a h
    · unfold owl at h ⊢
      rw [List.getElem?_set, if_neg (Ne.symm z)] at h
      exact h
  refine ⟨e.ok0, hx, by rw [List.length_set, e.len], fun j s' hj => ?_, fun j k a h1 h2 => e.dj j k a (oj j a h1) (oj k a h2), e.zr, fun g hg => ⟨(e.gh g hg).rb.tr up fun a z v _ hv => ?_, (e.gh g hg).nw, (e.gh g hg).nf, fun j h => (e.gh g hg).no j (oj j _ h)⟩⟩
  · rw [List.getElem?_set] at hj
    by_cases hij : i = j
    · subst hij
      rw [if_pos rfl] at hj
      split at hj
      · rename_i hl
        cases hj
        exact q hl
      · cases hj
    · rw [if_neg hij] at hj
      refine (e.sl j s' hj).tr up (fun b v _ n _ z => by rw [upd_ne (fun (y : b = c) => w.1.no (y ▸ n))]; exact z) (fun b fs _ z => by rw [upd_ne (fun (y : b = c) => (e.owlP hc _ (y ▸ z)).2.2 _ rfl)]; exact z) (fun a h1 => ⟨fun v _ z => by rw [upd_ne (fun (y : a = c) => hij (e.dj i j a (y ▸ hc) (owl_of hj h1)))]; exact z, fun z => z⟩) rfl rfl rfl
  · cases z
    rw [upd_ne (fun (y : g.1 = c) => (e.gh g hg).no i (y ▸ hc))]
    exact hv
theorem En.mut (e : En M pt F0 H0 z0 F o σ H ρ) {i : Nat} {d d' : D} {u : HO} (h : ρ[i]? = some (.own d)) (r' : Rb M pt F (upd H (o.a i) u) (.ref (o.a i)) d') : En M pt F0 H0 z0 F o σ (upd H (o.a i) u) (ρ.set i (.own d')) := by
  obtain ⟨a, r, n, f⟩ := e.sl i _ h
  refine e.mutS (by rw [owl_own h]; exact List.mem_cons_self) (fun b hb => ?_) (pln_nt (rb_pln r' _ upd_same)) fun _ => ⟨a, r', n, f⟩
  rw [owl_own h]
  rw [owl_at (s := .own d') (by rw [List.getElem?_set, if_pos rfl, if_pos (List.getElem?_eq_some_iff.mp h).1])] at hb
  exact hb
/-- an own set changes -/
theorem En.mutK (e : En M pt F0 H0 z0 F o σ H ρ) {i : Nat} {P : Program} {w : World} {l l' : List Key} {u : HO} (h : ρ[i]? = some (.kset P w l)) (tu : nt u = true) (r' : KSet P w l' (upd H (o.a i) u) (o.a i)) : En M pt F0 H0 z0 F o σ (upd H (o.a i) u) (ρ.set i (.kset P w l')) := by
  obtain ⟨a, r, n, f⟩ := e.sl i _ h
  have ow : owl o ρ i = [o.a i] := owl_at h
  refine e.mutS (by rw [ow]; exact List.mem_cons_self) (fun b hb => ?_) tu fun _ => ⟨a, r', n, f⟩
  rw [ow]
  rw [owl_at (s := .kset P w l') (by rw [List.getElem?_set, if_pos rfl, if_pos (List.getElem?_eq_some_iff.mp h).1])] at hb
  exact hb
/-- a part of an own list is changed -/
theorem En.mut2 (e : En M pt F0 H0 z0 F o σ H ρ) {i j : Nat} {ds : List D} {d' : D} {u : HO} {c : Addr} (h : ρ[i]? = some (.own2 ds)) (hc : (o.c i)[j]? = some c) (r' : Rb M pt F (upd H c u) (.ref c) d') : En M pt F0 H0 z0 F o σ (upd H c u) (ρ.set i (.own2 (ds.set j d'))) := by
  obtain ⟨a, hl, k, nd, al⟩ := e.sl i _ h
  have hm := List.mem_of_getElem? hc
  have nac : o.a i ≠ c := fun z => (List.nodup_cons.mp nd).1 (z ▸ hm)
  refine e.mutS (by rw [owl_own2 h]; exact List.mem_cons_of_mem _ hm) (fun b hb => ?_) (pln_nt (rb_pln r' _ upd_same)) fun _ => ⟨a, by rw [upd_ne nac]; exact hl, k.upd hc (List.nodup_cons.mp nd).2 (al c (List.mem_cons_of_mem _ hm)).2.1 r', nd, al⟩
  rw [owl_own2 h]
  rw [owl_at (s := .own2 (ds.set j d')) (by rw [List.getElem?_set, if_pos rfl, if_pos (List.getElem?_eq_some_iff.mp h).1])] at hb
  exact hb
end
end Dl

namespace Cr
open PySem PySem.Spec PyProof.Rows L2 Xv Builtin
section
variable {X : Cx} {k : Nat} {C g : Addr} {fd : FuncData} {sp : Sp} {ps : List Str}
/-- a method of the class, run at once, one level in -/
theorem run_in1 {pins : List (Addr × Obj)} {σ : L2.St} {H : Hp} {s : Shared} {Q : VK} {us : List Value} {vs : List V} {R : Value → Shared → Prop} {E : Value → Shared → Prop} (F : FnOk X.prog X.w X.K X.mg X.base CX0 k g fd ps sp) (hr : Room (k + 1) X.A) (hb : Binds X.K fd ps []) (I : Inv X pins σ H s) (r : Vals vs us) (h : sp vs H Q E0)
    (q : ∀ v u H' s', Inv X pins σ H' s' → RelV v u → Q v H' → R u s') : wpAny (model X.prog X.w) X.A.in1 (call (.ref g) us) R E s := by
  have hl : (us ++ []).length = ps.length := by
    rw [List.append_nil, ← r.length]
    exact F.len _ _ _ _ h
  have bb := hb s us I.kIn hl
  rw [List.append_nil] at bb
  refine wpAny_call (codeAny_mono (F.run X.A.in1 X.stack s H ⟨us, []⟩ us vs Q E0 hr.in1 I.env0.in1 bb r h) fun z s' hq => ?_)
  cases z with
  | error e => exact False.elim hq
  | ok fl =>
    cases fl with
    | ret u =>
      obtain ⟨v, H', I3, rv, q3⟩ := I.after hq
      exact q v u H' s' I3 rv q3
    | next => exact False.elim hq
    | brk => exact False.elim hq
    | cont => exact False.elim hq
/-- the same at the place itself -/
theorem run_at {pins : List (Addr × Obj)} {σ : L2.St} {H : Hp} {s : Shared} {Q : VK} {us : List Value} {vs : List V} {R : Value → Shared → Prop} {E : Value → Shared → Prop} (F : FnOk X.prog X.w X.K X.mg X.base CX0 k g fd ps sp) (hr : Room k X.A) (hb : Binds X.K fd ps []) (I : Inv X pins σ H s) (r : Vals vs us) (h : sp vs H Q E0)
    (q : ∀ v u H' s', Inv X pins σ H' s' → RelV v u → Q v H' → R u s') : wpAny (model X.prog X.w) X.A (call (.ref g) us) R E s := by
  have hl : (us ++ []).length = ps.length := by
    rw [List.append_nil, ← r.length]
    exact F.len _ _ _ _ h
  have bb := hb s us I.kIn hl
  rw [List.append_nil] at bb
  refine wpAny_call (codeAny_mono (F.run X.A X.stack s H ⟨us, []⟩ us vs Q E0 hr I.env0 bb r h) fun z s' hq => ?_)
  cases z with
  | error e => exact False.elim hq
  | ok fl =>
    cases fl with
    | ret u =>
      obtain ⟨v, H', I3, rv, q3⟩ := I.after hq
      exact q v u H' s' I3 rv q3
    | next => exact False.elim hq
    | brk => exact False.elim hq
    | cont => exact False.elim hq
/-- len(o), by an own __len__ -/
def rLenO (C : Addr) (sp : Sp) : List V → Hp → VK → Prop := fun xs H Q => ∃ a dx fs, xs = [.ref a] ∧ H a = some (.ins C dx fs) ∧ sp [.ref a] H (fun v H' => ∃ n : Int, v = .int n ∧ 0 ≤ n ∧ n < 2 ^ 63 ∧ Q (.int n) H') E0
theorem call_lenO (F : FnOk X.prog X.w X.K X.mg X.base CX0 k g fd ["self"] sp) (hr : Room (k + 1) X.A) (hb : Binds X.K fd ["self"] []) (hs : PySem.W.findIn X.K (.ref C) "__len__" = some (some (.ref g))) (hf : PySem.W.isFn X.K (.ref g) = true) : CallR X (.builtin "len") (rLenO C sp) := by
  intro pins s σ H xs us Q I r h
  obtain ⟨a, dx, fs, rfl, ea, h⟩ := h
  obtain ⟨u, rfl, ru⟩ := vals1 r
  obtain rfl : u = Value.ref a := ru
  obtain ⟨mA, O, _⟩ := ins_get I.hok ea
  obtain ⟨od, J, _⟩ := O.look
  refine Calls.call_function_entry PySem.kind_len PySem.plain_len PySem.entry_len (PySem.args_len1 _) ?_
  unfold Builtin.«len»
  refine wpAny_bind (m := oneArg "len" _) (wpAny_pure (wpAny_bind (m := callSpecial? (.ref a) (Str.ofString "__len__")) (PySem.W.special_fn I.kIn J hs (beq_iff_eq.mp hf) ?_)))
  refine run_in1 (vs := [.ref a]) F hr hb I (.cons rfl .nil) h fun v u H' s' I' rv q => ?_
  obtain ⟨n, rfl, n0, n1, q⟩ := q
  obtain ⟨t, rfl⟩ := rv
  refine wpAny_bind (wpAny_holding (wpAny_pure (wpAny_bind (wpAny_letGo ?_))))
  have e1 : ¬ n < 0 := by omega
  have e2 : ¬ n ≥ 2 ^ 63 := by omega
  show wpAny _ _ ((if n < 0 then _ else _) : Sem _) _ _ _
  rw [if_neg e1]
  show wpAny _ _ ((if n ≥ 2 ^ 63 then _ else _) : Sem _) _ _ _
  rw [if_neg e2]
  exact wpAny_bind (wpAny_mkInt (wpAny_pure ⟨_, rfl, .int n, H', I'.tok _, ⟨_, rfl⟩, q⟩))
/-- v in o, by an own __contains__ -/
def rInO (C : Addr) (sp : Sp) (neg : Bool) : R2 := fun x y H Q => ∃ a dx fs, y = .ref a ∧ H a = some (.ins C dx fs) ∧ sp [.ref a, x] H (fun v H' => ∃ b, v = .bl b ∧ Q (.bl (if neg then !b else b)) H') E0
theorem op_inO (F : FnOk X.prog X.w X.K X.mg X.base CX0 k g fd ps sp) (hr : Room k X.A) (hb : Binds X.K fd ps []) (hs : PySem.W.findIn X.K (.ref C) "__contains__" = some (some (.ref g))) (hf : PySem.W.isFn X.K (.ref g) = true) : OpR X (compareOp .In) (rInO C sp false) := by
  intro pins s σ H x y v u Q I rx ry h
  obtain ⟨a, dx, fs, rfl, ea, h⟩ := h
  obtain rfl : u = Value.ref a := ry
  obtain ⟨mA, O, _⟩ := ins_get I.hok ea
  obtain ⟨od, J, _⟩ := O.look
  unfold compareOp
  refine wpAny_bind ?_
  unfold contains
  refine wpAny_holding (wpAny_bind (wpAny_bind (J.type.here ((PySem.W.looks_findIn I.kIn hs).here ?_))))
  rw [if_neg (by simp)]
  refine wpAny_bind (PySem.W.unlessNone_K I.kIn J hs hf (run_at (vs := [.ref a, x]) F hr hb I (.cons rfl (.cons rx .nil)) h fun v u H' s' I' rv q => ?_))
  obtain ⟨b, rfl, q⟩ := q
  obtain rfl : u = Value.bool b := rv
  exact wpAny_truthy_bool (wpAny_pure ⟨.bl b, H', I', rfl, q⟩)
theorem op_notInO (F : FnOk X.prog X.w X.K X.mg X.base CX0 k g fd ps sp) (hr : Room k X.A) (hb : Binds X.K fd ps []) (hs : PySem.W.findIn X.K (.ref C) "__contains__" = some (some (.ref g))) (hf : PySem.W.isFn X.K (.ref g) = true) : OpR X (compareOp .NotIn) (rInO C sp true) := by
  intro pins s σ H x y v u Q I rx ry h
  obtain ⟨a, dx, fs, rfl, ea, h⟩ := h
  obtain rfl : u = Value.ref a := ry
  obtain ⟨mA, O, _⟩ := ins_get I.hok ea
  obtain ⟨od, J, _⟩ := O.look
  unfold compareOp
  refine wpAny_bind ?_
  unfold contains
  refine wpAny_holding (wpAny_bind (wpAny_bind (J.type.here ((PySem.W.looks_findIn I.kIn hs).here ?_))))
  rw [if_neg (by simp)]
  refine wpAny_bind (PySem.W.unlessNone_K I.kIn J hs hf (run_at (vs := [.ref a, x]) F hr hb I (.cons rfl (.cons rx .nil)) h fun v u H' s' I' rv q => ?_))
  obtain ⟨b, rfl, q⟩ := q
  obtain rfl : u = Value.bool b := rv
  exact wpAny_truthy_bool (wpAny_pure ⟨.bl (!b), H', I', rfl, q⟩)
end
end Cr

namespace PySem
theorem Sees.reprObj {prog : Program} {w : World} {A : Around} {E : Value → Shared → Prop} {s : Shared} {Q : Value → Shared → Prop} {a : Addr} {d : PyData} (r : Sees s.heap (.ref a) d) (hs : d.showable = true) (hsz : d.shown.length ≤ sizeLine) (hg : A.guards = some []) (hu : A.units + (d.depth + 1) < cLine)
    (hQ : ∀ h' u tk, (∀ b o, s.heap.get? b = some o → h'.get? b = some o) → Q (.str d.shown u) { s with heap := h', toks := tk }) : wpAny (model prog w) A (pyReprObj (.ref a)) Q E s := by
  obtain ⟨T, idr, S⟩ := r.showsBy (prog := prog) (w := w) hs hsz
  exact wpAny_pyReprObj_slot (by omega) (S.typeIs s fun _ _ e => e) S.slotRepr (S.call A E s _ hg (by omega) (fun _ _ e => e) fun h' u tk hk => ⟨_, _, rfl, hQ h' u tk hk⟩)
end PySem
namespace Cr
open PySem PySem.Spec PyProof.Rows L2 Xv Builtin
section
variable {X : Cx} {k j : Nat} {C g : Addr} {fd : FuncData} {sp : Sp} {ps : List Str}
/-- {x!r}, x data in a list, a tuple or a dict -/
def tFmtRD (K : PySem.W.Frag) (te : TE) : TE := fun σ H Q => te σ H fun x H1 => ∃ a d, x = .ref a ∧ Dr K H1 x d ∧ d.showable = true ∧ d.depth ≤ 60 ∧ d.shown.length ≤ sizeLine ∧ Q (.str d.shown) H1
theorem pe_fmtRD {e : Expr} {te : TE} {pos : Pos} (hg : X.A.guards = some []) (hu : X.A.units + 64 < cLine) (he : PE X e te) : PE X (.FormattedValue e 114 none pos) (tFmtRD X.K te) := by
  refine ⟨fun pins s σ H Q I h => ?_⟩
  refine wpAny_FormattedValue_repr (thn (he.run pins s σ H _ I h) fun v s1 hv => ?_)
  obtain ⟨x, H1, I1, r1, a, d, rfl, hd, hs, hdp, hz, q⟩ := hv
  obtain rfl : v = Value.ref a := r1
  exact (Dr.sees (u := Value.ref a) I1 hd rfl).reprObj hs hz hg (by omega) fun h' t tk k => wpAny_formatField_str ⟨.str d.shown, H1, I1.kept (t' := tk) k, ⟨_, rfl⟩, q⟩ ⟨.str d.shown, H1, I1.kept (t' := tk + 1) k, ⟨_, rfl⟩, q⟩ hz
/-- repr(o), by an own __repr__ -/
def rReprO (C : Addr) (sp : Sp) : List V → Hp → VK → Prop := fun xs H Q => ∃ a dx fs, xs = [.ref a] ∧ H a = some (.ins C dx fs) ∧ sp [.ref a] H (fun v H' => ∃ x, v = .str x ∧ Q (.str x) H') E0
theorem call_reprO (F : FnG X.prog X.w X.K X.mg X.base k g fd ["self"] sp) (hr : Room (k + 1) X.A) (hgd : X.A.guards = some []) (hb : Binds X.K fd ["self"] []) (hs : PySem.W.findIn X.K (.ref C) "__repr__" = some (some (.ref g))) (hf : PySem.W.isFn X.K (.ref g) = true) : CallR X (.builtin "repr") (rReprO C sp) := by
  intro pins s σ H xs us Q I r h
  obtain ⟨a, dx, fs, rfl, ea, h⟩ := h
  obtain ⟨u, rfl, ru⟩ := vals1 r
  obtain rfl : u = Value.ref a := ru
  obtain ⟨mA, O, _⟩ := ins_get I.hok ea
  obtain ⟨od, J, _⟩ := O.look
  refine Calls.call_function_entry PySem.F.kind_repr PySem.F.plain_repr PySem.F.entry_repr (PySem.F.args_repr1 _) ?_
  unfold Builtin.«repr»
  refine wpAny_bind (m := oneArg "repr" _) (wpAny_pure ?_)
  refine wpAny_bind (m := cRoomFor _ _) (wpAny_cRoomFor (by have := hr.un; show X.A.units + 1 < cLine; omega) ?_)
  refine wpAny_bind (wpAny_bind (J.type.here ((PySem.W.looks_findIn I.kIn hs).here ?_)))
  have bb := hb s [.ref a] I.kIn rfl
  refine wpAny_bind (m := callSpecialIfBound? (.ref a) (Str.ofString "__repr__")) (PySem.W.ifBound_K I.kIn J hs hf ?_)
  refine wpAny_call (codeAny_mono (F.run X.A.in1 X.stack s H ⟨[.ref a], []⟩ [.ref a] [.ref a] _ hr.in1 hgd I.env0.in1 bb (.cons rfl .nil) h) fun z s' hq => ?_)
  cases z with
  | error e => exact False.elim hq
  | ok fl =>
    cases fl with
    | ret u =>
      obtain ⟨v, H', I3, rv, x, rfl, q3⟩ := I.after hq
      obtain ⟨t, rfl⟩ := rv
      exact wpAny_bind (wpAny_isInstance (T := "str") (b := true) rfl isSubtype_str_str (wpAny_pure ⟨_, rfl, .str x, H', I3, ⟨t, rfl⟩, q3⟩))
    | next => exact False.elim hq
    | brk => exact False.elim hq
    | cont => exact False.elim hq
end
/-! ### o(..), by an own __call__ -/
section
variable {prog : Program} {w : World} {A : Around} {K : PySem.W.Frag} {C a g dx : Addr} {s : Shared} {R : Result → Shared → Prop} {us : List Value} {kw : List (Str × Value)}
theorem keeper_inst {M : Model} {h : Heap} (e : h.get? a = some (PySem.W.instObj C dx)) : PySem.W.Looks M h (keeperOf (.ref a)) Keeper.caller :=
  (PySem.W.Looks.ld (part := none) e).andThen .now
theorem inst_call (X : K.In s.heap) (e : s.heap.get? a = some (PySem.W.instObj C dx)) (hs : PySem.W.findIn K (.ref C) "__call__" = some (some (.ref g))) (hf : PySem.W.isFn K (.ref g) = true) (hfn : PySem.W.fnIn K g = true)
    (h : codeAny (model prog w) A (.call (.ref g) ⟨.ref a :: us, kw⟩) R s) : codeAny (model prog w) A (.call (.ref a) ⟨us, kw⟩) R s := by
  refine codeAny_of_tree ?_
  show wpAny _ _ (callAny (.ref a) _) _ _ _
  refine PySem.W.nd_load e ?_
  show wpAny _ _ (callAny.viaDunder (.ref a) ⟨us, kw⟩) _ _ _
  unfold callAny.viaDunder
  have t1 : PySem.W.Looks (model prog w) s.heap (typeOf (.ref a)) (.ref C) := (PySem.W.Looks.ld (part := some .none) e).andThen .now
  refine wpAny_bind (wpAny_bind (t1.here ((PySem.W.looks_findIn X hs).here ?_)))
  refine wpAny_bind ((PySem.W.bind_fn X _ (beq_iff_eq.mp hf)).here ?_)
  unfold PySem.W.fnIn at hfn
  split at hfn
  · rename_i q
    have t2 : PySem.W.Looks (model prog w) s.heap (callAny.plainCallee (.ref g)) true := (PySem.W.Looks.ld (part := none) (X _ _ q)).andThen .now
    refine wpAny_bind (t2.here ?_)
    exact wpAny_pure ⟨rfl, h⟩
  · cases hfn
theorem callWith_inst {M : Model} {A : Around} {E : Value → Shared → Prop} {s : Shared} {pos : Pos} {f : Value} {first : List Value} {Q : Value → Shared → Prop} {P : Heap → Prop} {args : List (Bool × Sem Value)} {kws : List (Option Str × Sem Value)} (pl : (args.any (·.1) || kws.any (·.1.isNone)) = false)
    (hk : ∀ h, P h → PySem.W.Looks M h (keeperOf f) Keeper.caller) (h : wpAny M A (evalArgs f true args kws) (fun z s1 => P s1.heap ∧ wpAny M A (call f (first ++ z.pos) z.kw) Q E s1) E s) : wpAny M A (callWith pos f first args kws) Q E s := by
  unfold callWith
  refine wpAny_bind (wpAny_holding (wpAny_mono h (fun z s1 h1 => wpAny_bind (wpAny_standAt ?_)) fun _ _ e => e))
  simp only [pl]
  refine wpAny_bind ((hk _ h1.1).here ?_)
  dsimp only
  exact wpAny_bind (wpAny_operate' (wpAny_mono h1.2 (fun r s2 hr => wpAny_bind (wpAny_holding (wpAny_point (wpAny_pure hr)))) fun _ _ e => e))
end
section
variable {X : Cx} {k j : Nat} {C g : Addr} {fd : FuncData} {sp : Sp} {ps ks : List Str} {te : TE} {t tk : TA} {x m : Str} {p pos apos : Pos} {e o : Expr} {es : List Expr} {kws : List Keyword} {gl : List Value → List Value → List Value} {gV : List V → List V → List V}
def tObj (C : Addr) (sp : Sp) (te : TE) (t : TA) : TE := fun σ H Q => te σ H fun x H1 => t σ H1 fun vs H2 => ∃ a dx fs, x = .ref a ∧ H2 a = some (.ins C dx fs) ∧ sp (.ref a :: vs) H2 Q E0
/-- what the class of an object that is called must have -/
structure CallsO (K : PySem.W.Frag) (C g : Addr) : Prop where
  at_ : PySem.W.findIn K (.ref C) "__call__" = some (some (.ref g))
  fn : PySem.W.isFn K (.ref g) = true
  fi : PySem.W.fnIn K g = true
theorem obj_get {pins : List (Addr × Obj)} {σ : L2.St} {H : Hp} {s : Shared} {a dx : Addr} {fs : List (Str × V)} (I : Inv X pins σ H s) (e : H a = some (.ins C dx fs)) : s.heap.get? a = some (PySem.W.instObj C dx) :=
  let ⟨_, _, _, z, _⟩ := (show ObjOk X.prog X.w H s.heap a (.ins C dx fs) from I.hok a _ e)
  z
theorem pe_obj (he : PE X (.Name x p) te) (c : CallsO X.K C g) (F : FnOk X.prog X.w X.K X.mg X.base CX0 k g fd ps sp) (hr : Room k X.A) (hb : Binds X.K fd ps []) (ha : PA X (e :: es) t)
    (hst : starEach (e :: es) X.env = (false, eval e X.env) :: starEach es X.env := by rfl) (hpl : (backTo pos (starEach es X.env)).any (·.1) = false := by rfl) :
    PE X (.Call (.Name x p) (e :: es) [] pos) (tObj C sp te t) := by
  refine ⟨fun pins s σ H Q I h => ?_⟩
  refine wpAny_Call_Name_kw (thn (he.run pins s σ H _ I h) fun u s1 ⟨x, H1, I1, rx, q⟩ => ?_)
  have h0 : wpAny (model X.prog X.w) X.A (spliced (backTo pos (starEach (e :: es) X.env))) (fun us s2 => (∃ a dx, u = Value.ref a ∧ s2.heap.get? a = some (PySem.W.instObj C dx)) ∧ wpAny (model X.prog X.w) X.A (call u ([] ++ us)) (EP X pins σ Q) X.xe s2) X.xe s1 := by
    refine thn (ha.run pos pins s1 σ H1 _ I1 q) fun us s2 ⟨vs, H2, I2, r, a, dx, fs, ex, ea, q2⟩ => ?_
    subst ex
    obtain rfl : u = Value.ref a := rx
    have ob := obj_get I2 ea
    refine ⟨⟨a, dx, rfl, ob⟩, ?_⟩
    have hl : (Value.ref a :: us ++ []).length = ps.length := by
      rw [List.append_nil, ← F.len _ _ _ _ q2]
      show us.length + 1 = vs.length + 1
      rw [r.length]
    have bb := hb s2 (Value.ref a :: us) I2.kIn hl
    rw [List.append_nil] at bb
    refine wpAny_call (inst_call I2.kIn ob c.at_ c.fn c.fi (codeAny_mono (F.run X.A X.stack s2 H2 ⟨Value.ref a :: us, []⟩ (Value.ref a :: us) (V.ref a :: vs) Q E0 hr I2.env0 bb (.cons rfl r) q2) fun z s' hq => ?_))
    cases z with
    | error e => exact False.elim hq
    | ok fl =>
      cases fl with
      | ret u => exact I2.after hq
      | next => exact False.elim hq
      | brk => exact False.elim hq
      | cont => exact False.elim hq
  show wpAny _ _ (callWith pos u [] (backTo pos (starEach (e :: es) X.env)) []) _ _ _
  rw [hst] at h0 ⊢
  refine callWith_inst (P := fun h => ∃ a dx, u = Value.ref a ∧ h.get? a = some (PySem.W.instObj C dx)) ?_ (fun h ⟨a, dx, e1, e2⟩ => ?_) (Calls.evalArgs_plain h0)
  · show ((false || (backTo pos (starEach es X.env)).any (·.1)) || false) = false
    rw [hpl]
    rfl
  · subst e1
    exact keeper_inst e2
/-- o(k = v, ..) -/
def tObjK (C : Addr) (n : Nat) (sp : Sp) (gV : List V → List V → List V) (te : TE) (tk : TA) : TE := fun σ H Q => te σ H fun x H1 => tk σ H1 fun zs H2 => ∃ a dx fs, x = .ref a ∧ H2 a = some (.ins C dx fs) ∧ zs.length = n ∧ sp (gV [.ref a] zs) H2 Q E0
theorem pe_objK (he : PE X (.Name x p) te) (c : CallsO X.K C g) (F : FnOk X.prog X.w X.K X.mg X.base CX0 k g fd ps sp) (hr : Room k X.A) (hb : KBn X.K fd ps 1 ks gl gV) (hkw : PK X kws tk)
    (hall : (backToKw pos (keywordEach kws X.env)).all (·.1.isSome) = true := by rfl) (hks : (backToKw pos (keywordEach kws X.env)).filterMap (·.1) = ks := by rfl)
    (hpl : ((backTo pos (starEach [] X.env)).any (·.1) || (backToKw pos (keywordEach kws X.env)).any (·.1.isNone)) = false := by rfl) :
    PE X (.Call (.Name x p) [] kws pos) (tObjK C ks.length sp gV te tk) := by
  refine ⟨fun pins s σ H Q I h => ?_⟩
  refine wpAny_Call_Name_kw (thn (he.run pins s σ H _ I h) fun u s1 ⟨x, H1, I1, rx, q⟩ => ?_)
  refine callWith_inst (P := fun h => ∃ a dx, u = Value.ref a ∧ h.get? a = some (PySem.W.instObj C dx)) hpl (fun h ⟨a, dx, e1, e2⟩ => ?_) (evalArgs_kw2_nil hall ?_)
  · subst e1
    exact keeper_inst e2
  refine thn (hkw.run pos pins s1 σ H1 _ I1 q) fun ws s2 ⟨zs, H2, I2, rz, a, dx, fs, ex, ea, l2, q2⟩ => ?_
  subst ex
  obtain rfl : u = Value.ref a := rx
  have ob := obj_get I2 ea
  refine ⟨⟨a, dx, rfl, ob⟩, ?_⟩
  rw [hks]
  have e2 : ws.length = ks.length := rz.length.symm.trans l2
  refine wpAny_call (inst_call I2.kIn ob c.at_ c.fn c.fi (codeAny_mono (F.run X.A X.stack s2 H2 ⟨[Value.ref a], ks.zip ws⟩ (gl [Value.ref a] ws) (gV [V.ref a] zs) Q E0 hr I2.env0 (hb.to s2 [Value.ref a] ws I2.kIn rfl e2) (hb.rel (.cons rfl .nil) rz) q2) fun z s' hq => ?_))
  cases z with
  | error e => exact False.elim hq
  | ok fl =>
    cases fl with
    | ret u => exact I2.after hq
    | next => exact False.elim hq
    | brk => exact False.elim hq
    | cont => exact False.elim hq
/-- o.m(k = v, ..) -/
def tMethK (C : Addr) (m : Str) (n : Nat) (sp : Sp) (gV : List V → List V → List V) (ta : TE) (tk : TA) : TE := fun σ H Q => ta σ H fun x H1 => ∃ a dx fs, x = .ref a ∧ H1 a = some (.ins C dx fs) ∧ fs.lookup m = none ∧ tk σ H1 fun zs H2 => zs.length = n ∧ sp (gV [.ref a] zs) H2 Q E0
theorem pe_methK {pl : Sem Bool} (he : PE X o te) (c : Cls X.K C) (hm : Meth X.K C m g) (F : FnOk X.prog X.w X.K X.mg X.base CX0 k g fd ps sp) (hr : Room k X.A) (hb : KBn X.K fd ps 1 ks gl gV) (hkw : PK X kws tk)
    (hall : (backToKw pos (keywordEach kws X.env)).all (·.1.isSome) = true := by rfl) (hks : (backToKw pos (keywordEach kws X.env)).filterMap (·.1) = ks := by rfl)
    (hpl : ((backTo pos (starEach [] X.env)).any (·.1) || (backToKw pos (keywordEach kws X.env)).any (·.1.isNone)) = false := by rfl)
    (ht : eval (.Call (.Attribute o m apos) [] kws pos) X.env = (do
      let ov ← eval o X.env
      standAt apos.atName
      let (fn, fst) ← holding [ov] (getMethod ov m pl)
      callWith pos fn fst (backTo pos (starEach [] X.env)) (backToKw pos (keywordEach kws X.env))) := by rfl) :
    PE X (.Call (.Attribute o m apos) [] kws pos) (tMethK C m ks.length sp gV te tk) := by
  refine ⟨fun pins s σ H Q I h => ?_⟩
  refine PySem.W.methodCall_KW (pl := pl) (thn (he.run pins s σ H _ I h) fun u s1 ⟨x, H1, I1, rx, a, dx, fs, ex, ea, l, q⟩ => ?_) ht
  subst ex
  obtain rfl : u = Value.ref a := rx
  refine getmeth_ok I1 ea c hm l ?_
  refine PySem.W.callWith_KW0 (first := [.ref a]) (h₀ := X.base) I.ok.mod.kin hm.kp hall (thn (hkw.run pos pins s1 σ H1 _ I1 q) fun ws s2 ⟨zs, H2, I2, rz, l2, q2⟩ => ⟨I2.kIn, ?_⟩) hpl
  rw [hks]
  exact run_fnN (us := [.ref a]) (vs := [.ref a]) F hr hb pass0 I2 (.cons rfl .nil) rz rfl l2 q2
end
/-! ### == and != by an own __eq__ -/
section
variable {prog : Program} {w : World} {A : Around} {K : PySem.W.Frag} {C a g : Addr} {s : Shared} {ox : Obj} {od : Option Obj} {b tb : Value} {E : Value → Shared → Prop}
theorem rich_own {op : CmpOp} {Q : Value → Shared → Prop} (X : K.In s.heap) (J : PySem.W.InstAt s.heap a ox C od) (ht : PySem.W.Looks (model prog w) s.heap (typeOf b) tb) (hn : PySem.W.notFirst K C tb = true) (hu : A.units < cLine)
    (one : wpAny (model prog w) A (tryCompare (.ref a) (cmpInfo op).2.1 b) (fun r s' => ∃ v, r = some v ∧ Q v s') E s) : wpAny (model prog w) A (richCompare op (.ref a) b) Q E s := by
  have go : ∀ {k : Option Value → Sem Value}, (∀ v, k (some v) = pure v) → wpAny (model prog w) A (tryCompare (.ref a) (cmpInfo op).2.1 b >>= k) Q E s := fun {k} hk =>
    wpAny_bind (wpAny_mono one (fun r s' z => by
      obtain ⟨v, rfl, hq⟩ := z
      rw [hk v]
      exact wpAny_pure hq) fun _ _ e => e)
  unfold richCompare
  simp only [oneThing_ref]
  refine wpAny_holding (wpAny_bind (wpAny_cRoomFor hu (wpAny_bind (J.type.here (wpAny_bind (ht.here ?_))))))
  by_cases q : (Value.ref C != tb) = true
  · rw [if_pos q]
    have e : PySem.W.subIn K tb (.ref C) = some false := by
      rcases Bool.or_eq_true_iff.mp hn with z | z
      · have := beq_iff_eq.mp z
        subst this
        simp at q
      · exact beq_iff_eq.mp z
    refine wpAny_bind ((PySem.W.looks_subIn X e).here ?_)
    simp only [Bool.false_eq_true, if_false]
    exact go fun v => rfl
  · rw [if_neg q]
    refine wpAny_bind (wpAny_pure ?_)
    simp only [Bool.false_eq_true, if_false]
    exact go fun v => rfl
theorem try_eq {Q : Value → Shared → Prop} (X : K.In s.heap) (J : PySem.W.InstAt s.heap a ox C od) (hs : PySem.W.findIn K (.ref C) "__eq__" = some (some (.ref g))) (hf : PySem.W.isFn K (.ref g) = true)
    (h : wpAny (model prog w) A (call (.ref g) [.ref a, b]) (fun v s' => ∃ r, v = .bool r ∧ Q (.bool r) s') E s) : wpAny (model prog w) A (tryCompare (.ref a) "__eq__" b) (fun r s' => ∃ v, r = some v ∧ Q v s') E s := by
  unfold tryCompare
  refine wpAny_bind (PySem.W.ifBound_K X J hs hf (wpAny_mono h (fun v s' hv => ?_) fun _ _ e => e))
  obtain ⟨r, rfl, hq⟩ := hv
  exact wpAny_pure ⟨_, rfl, hq⟩
theorem try_ne {Q : Value → Shared → Prop} (X : K.In s.heap) (J : PySem.W.InstAt s.heap a ox C od) (hs : PySem.W.findIn K (.ref C) "__eq__" = some (some (.ref g))) (hf : PySem.W.isFn K (.ref g) = true)
    (hne : PySem.W.findIn K (.ref C) "__ne__" = some (some (.builtin "object.__ne__"))) (hob : PySem.W.mroIn K C (.type "object") = some true) (hu : A.units + 1 < cLine)
    (h : wpAny (model prog w) A.in1 (call (.ref g) [.ref a, b]) (fun v s' => ∃ r, v = .bool r ∧ Q (.bool (!r)) s') E s) : wpAny (model prog w) A (tryCompare (.ref a) "__ne__" b) (fun r s' => ∃ v, r = some v ∧ Q v s') E s := by
  have t2 : PySem.W.Looks (model prog w) s.heap (isInstance (.ref a) (.type "object")) true := J.type.andThen (PySem.W.looks_mroIn X hob)
  have main : wpAny (model prog w) A (call (.builtin "object.__ne__") [.ref a, b]) (fun v s' => ∃ r, v = .bool r ∧ Q (.bool r) s') E s := by
    refine wpAny_call (codeAny_call_builtin PySem.F.cmp_object.ne.plain PySem.F.cmpEntry_ne (@PySem.W.check_slot (model prog w) _ _ _ "object.__ne__" "object" "__ne__" (.ref a) [b] [] _ PySem.F.cmpKind_ne PySem.F.cmpSplit_ne t2 (PySem.F.cmpArgs_ne _ _) ?_))
    unfold Builtin.«object.__ne__»
    refine wpAny_bind (m := slotArgs _ _ _) (wpAny_pure ?_)
    refine wpAny_bind (wpAny_cRoomFor (by exact hu) ?_)
    refine wpAny_bind (m := callSpecialIfBound? _ _ _) (PySem.W.ifBound_K X J hs hf (wpAny_mono h (fun v s' hv => ?_) fun _ _ e => e))
    obtain ⟨r, rfl, hq⟩ := hv
    exact wpAny_bind (wpAny_truthy_bool (wpAny_pure ⟨_, rfl, hq⟩))
  unfold tryCompare
  refine wpAny_bind ?_
  simp only [callSpecialIfBound?, bindSpecialIfBound?]
  refine wpAny_holding (wpAny_bind (wpAny_bind (wpAny_bind (J.type.here ((PySem.W.looks_findIn X hne).here ?_)))))
  have fin : wpAny (model prog w) A (call (.builtin "object.__ne__") ([.ref a] ++ [b]) >>= fun v => pure (some v)) (fun r s' => wpAny (model prog w) A (match r with
      | some .notImplemented | none => pure none
      | some v => pure (some v)) (fun r s' => ∃ v, r = some v ∧ Q v s') E s') E s := wpAny_bind (wpAny_mono main (fun v s' hv => by
    obtain ⟨r, rfl, hq⟩ := hv
    exact wpAny_pure (wpAny_pure ⟨_, rfl, hq⟩)) fun _ _ e => e)
  simp only [PySem.F.cmp_object.ne.bind]
  refine wpAny_bind (wpAny_askSetting (wpAny_ite ?_))
  split
  · exact wpAny_bind (wpAny_pure (wpAny_pure fin))
  · exact wpAny_tryCatch (wpAny_bind (wpAny_pure (wpAny_pure fin)))
end
section
variable {X : Cx} {k j : Nat} {C g : Addr} {fd : FuncData} {sp : Sp} {ps : List Str}
def rEqO (K : PySem.W.Frag) (C : Addr) (sp : Sp) (neg : Bool) : R2 := fun x y H Q => ∃ a dx fs t, x = .ref a ∧ H a = some (.ins C dx fs) ∧ TyX K H y t ∧ PySem.W.notFirst K C t = true ∧ sp [.ref a, y] H (fun v H' => ∃ b, v = .bl b ∧ Q (.bl (if neg then !b else b)) H') E0
theorem op_eqO (F : FnOk X.prog X.w X.K X.mg X.base CX0 k g fd ps sp) (hr : Room k X.A) (hb : Binds X.K fd ps []) (hs : PySem.W.findIn X.K (.ref C) "__eq__" = some (some (.ref g))) (hf : PySem.W.isFn X.K (.ref g) = true) : OpR X (compareOp .Eq) (rEqO X.K C sp false) := by
  intro pins s σ H x y v u Q I rx ry h
  obtain ⟨a, dx, fs, t, rfl, ea, ty, nf, h⟩ := h
  obtain rfl : v = Value.ref a := rx
  obtain ⟨mA, O, _⟩ := ins_get I.hok ea
  obtain ⟨od, J, _⟩ := O.look
  obtain ⟨P, Z, p, _⟩ := kit_of I ry ty
  unfold compareOp
  refine rich_own (op := .Eq) I.kIn J (Z.ty _ _ I.kIn p) nf hr.units0 (try_eq I.kIn J hs hf (run_at (vs := [.ref a, y]) F hr hb I (.cons rfl (.cons ry .nil)) h fun v u H' s' I' rv q => ?_))
  obtain ⟨b, rfl, q⟩ := q
  obtain rfl : u = Value.bool b := rv
  exact ⟨b, rfl, .bl b, H', I', rfl, q⟩
theorem op_neO (F : FnOk X.prog X.w X.K X.mg X.base CX0 k g fd ps sp) (hr : Room (k + 1) X.A) (hb : Binds X.K fd ps []) (hs : PySem.W.findIn X.K (.ref C) "__eq__" = some (some (.ref g))) (hf : PySem.W.isFn X.K (.ref g) = true)
    (hne : PySem.W.findIn X.K (.ref C) "__ne__" = some (some (.builtin "object.__ne__"))) (hob : PySem.W.mroIn X.K C (.type "object") = some true) : OpR X (compareOp .NotEq) (rEqO X.K C sp true) := by
  intro pins s σ H x y v u Q I rx ry h
  obtain ⟨a, dx, fs, t, rfl, ea, ty, nf, h⟩ := h
  obtain rfl : v = Value.ref a := rx
  obtain ⟨mA, O, _⟩ := ins_get I.hok ea
  obtain ⟨od, J, _⟩ := O.look
  obtain ⟨P, Z, p, _⟩ := kit_of I ry ty
  unfold compareOp
  have hu := hr.un
  refine rich_own (op := .NotEq) I.kIn J (Z.ty _ _ I.kIn p) nf hr.units0 (try_ne I.kIn J hs hf hne hob (by omega) (run_in1 (vs := [.ref a, y]) F hr hb I (.cons rfl (.cons ry .nil)) h fun v u H' s' I' rv q => ?_))
  obtain ⟨b, rfl, q⟩ := q
  obtain rfl : u = Value.bool b := rv
  exact ⟨b, rfl, .bl (!b), H', I', rfl, q⟩
end
end Cr

namespace Cr
open PySem PySem.Spec PyProof.Rows L2 Xv
section
variable {K : PySem.W.Frag}
theorem tr_all {S : Addr → Prop} {H : Hp} : ∀ {ys : List V} {ds : List PyData}, Paired (fun y d => Dt K S H y d) ys ds → TrAll (Vw S H) ys ds
  | _, _, .nil => .nil
  | _, _, .cons h t => .cons h (tr_all t)
theorem dt_list {S : Addr → Prop} {H : Hp} {D : Addr} {ys : List V} {ds : List PyData} (hD : H D = some (.lst ys)) (h : Paired (fun y d => Dt K S H y d) ys ds) : Dt K (fun b => S b ∨ b = D) H (.ref D) (.list ds) :=
  .lst (by rw [vw_at (.inr rfl)]; exact hD) (tr_all (K := K) (pr_map h fun _ _ _ d => Dt.mono d fun b hb => .inl hb))
theorem dt_tup {S : Addr → Prop} {H : Hp} {D : Addr} {ys : List V} {ds : List PyData} (hD : H D = some (.tup ys)) (h : Paired (fun y d => Dt K S H y d) ys ds) : Dt K (fun b => S b ∨ b = D) H (.ref D) (.tuple ds) :=
  .tup (by rw [vw_at (.inr rfl)]; exact hD) (tr_all (K := K) (pr_map h fun _ _ _ d => Dt.mono d fun b hb => .inl hb))
/-- a list of data, written item by item: the i-th item is ds[i]; M: what no item may have -/
theorem lc_dat (M : Addr → Prop) {J : It} {n j : Nat} {G : Hp → Prop} {Y : Nat → Hp → V → Hp → Prop} (W : Walk J n G Y) {σ : L2.St} {H1 : Hp} {D : Addr} {te : TE} {ds : List PyData} {Qd : Hp → Prop} (hn : ds.length = n) (hz : n ≤ 1000) (hD : H1 D = none) (hG : ∀ H', Same H1 H' → G H')
    (hY : ∀ i H x H', Y i H x H' → H' = H)
    (step : ∀ i x d H' (Q : VK), i < n → ds[i]? = some d → Same H1 H' → (∃ ys, H' D = some (.lst ys)) → Y i H' x H' → (∀ H4 y S, Same H' H4 → (∀ b, S b → b ≠ D ∧ ¬ M b) → Dt K S H4 y d → Q y H4) → te ((wipe σ [j]).set j (some x)) H' Q)
    (hd : ∀ H2 S, Same H1 H2 → (∀ b, S b → b = D ∨ ¬ M b) → Dt K S H2 (.ref D) (.list ds) → Qd H2) :
    ∃ W : Nat → Nat → Hp → Prop, (∃ m, W 0 m (upd H1 D (.lst []))) ∧ ∀ i m H, W i m H →
      (J.stop i H ∧ Qd H) ∨ (J.go i H ∧ ∃ Nx : Hp → Prop, (∀ H', Nx H' → ∃ m', m' < m ∧ W (i + 1) m' H') ∧ ∀ x H', J.yld i H x H' → gName j x (wipe σ [j]) H' fun σ2 H2 => wipe σ2 [j] = wipe σ [j] ∧ tYes σ2 H2 fun b H3 =>
        if b = true then te σ2 H3 fun y H4 => ∃ acc, H4 D = some (.lst acc) ∧ acc.length < sizeLine ∧ Nx (upd H4 D (.lst (acc ++ [y]))) else Nx H3) := by
  refine lc_it W (fun i H' => ∃ (ys : List V) (S : Addr → Prop), ys.length = i ∧ H' D = some (.lst ys) ∧ Same H1 H' ∧ (∀ b, S b → b ≠ D ∧ ¬ M b) ∧ Paired (fun y d => Dt K S H' y d) ys (ds.take i))
    ⟨[], fun _ => False, rfl, upd_same, same_upd hD, fun _ z => z.elim, .nil⟩ (fun i H' _ ⟨_, _, _, _, s, _⟩ => hG _ s) (fun i x H' H'' hi e y => ?_) (fun H' e => ?_)
  · obtain rfl := hY _ _ _ _ y
    obtain ⟨ys, S, e1, e2, e3, e4, e5⟩ := e
    have hdi : ds[i]? = some (ds[i]'(by omega)) := List.getElem?_eq_getElem (by omega)
    refine ⟨wipe_back, ?_⟩
    unfold tYes
    dsimp only
    rw [if_pos rfl]
    refine step i x _ _ _ hi hdi e3 ⟨_, e2⟩ y fun H4 y S2 s4 n2 d4 => ?_
    have fr : Fr (fun b => b = D) H'' (upd H4 D (.lst (ys ++ [y]))) := Fr.set (Fr.of s4) rfl
    have fr2 : Fr (fun b => b = D) H4 (upd H4 D (.lst (ys ++ [y]))) := Fr.set (Fr.refl _ _) rfl
    refine ⟨ys, s4 _ _ e2, by rw [sizeLine_eq]; omega, ys ++ [y], fun b => S b ∨ S2 b, by rw [List.length_append, e1]; rfl, upd_same, fun b o q => ?_, fun b z => z.elim (e4 b) (n2 b), ?_⟩
    · rw [upd_ne (ne_of_none q hD)]
      exact s4 _ _ (e3 _ _ q)
    · rw [Xv.take_step hdi]
      refine pr_app (pr_map e5 fun l r _ d => Dt.mono (d.fr fr fun b hb => (e4 b hb).1) fun b hb => .inl hb) (.cons ?_ .nil)
      exact Dt.mono (d4.fr fr2 fun b hb => (n2 b hb).1) fun b hb => .inr hb
  · obtain ⟨ys, S, e1, e2, e3, e4, e5⟩ := e
    rw [← hn, List.take_length] at e5
    exact hd H' _ e3 (fun b hb => hb.elim (fun z => .inr (e4 b z).2) .inl) (dt_list e2 e5)
end
end Cr

namespace Cr
open PySem PySem.Spec PyProof.Rows L2 Xv
/-! ### == and != of dicts of two keys, their values data -/
def rEq2 (K : PySem.W.Frag) (neg : Bool) : R2 := fun x y H Q => ∃ a b k1 k2 v1 v2 w1 w2 d1 d2 e1 e2, x = .ref a ∧ y = .ref b ∧ H a = some (.dK [(k1, v1), (k2, v2)]) ∧ H b = some (.dK [(k1, w1), (k2, w2)]) ∧ k1 ≠ k2 ∧ (Dp K H v1 d1 ∧ Dp K H v2 d2 ∧ Dp K H w1 e1 ∧ Dp K H w2 e2) ∧
  (SeqAt.shaped d1 = true ∧ SeqAt.shaped d2 = true ∧ SeqAt.shaped e1 = true ∧ SeqAt.shaped e2 = true) ∧ Q (.bl (if neg then !(PyData.eqv d1 e1 && (PyData.eqv d2 e2 && true)) else (PyData.eqv d1 e1 && (PyData.eqv d2 e2 && true)))) H
section
variable {X : Cx}
theorem kv_two {k1 k2 : Key} {v1 v2 : V} {vs : List (Key × Value)} (h : KV [(k1, v1), (k2, v2)] vs) : ∃ u1 u2, vs = [(k1, u1), (k2, u2)] ∧ RelV v1 u1 ∧ RelV v2 u2 := by
  unfold KV at h
  cases h with
  | cons h1 t => cases t with
    | cons h2 t2 =>
      cases t2
      rename_i q1 q2
      obtain ⟨a1, b1⟩ := q1
      obtain ⟨a2, b2⟩ := q2
      obtain ⟨e1, r1⟩ := h1
      obtain ⟨e2, r2⟩ := h2
      dsimp only at e1 e2 r1 r2
      subst e1
      subst e2
      exact ⟨b1, b2, rfl, r1, r2⟩
theorem eq2_hits {pins : List (Addr × Obj)} {σ : L2.St} {H : Hp} {s : Shared} {k1 k2 : Key} {v1 v2 w1 w2 : V} {d1 d2 e1 e2 : PyData} {u1 u2 y1 y2 : Value} (hu : X.A.units + 128 < cLine) (I : Inv X pins σ H s) (nk : k1 ≠ k2) (r1 : RelV v1 u1) (r2 : RelV v2 u2) (z1 : RelV w1 y1) (z2 : RelV w2 y2)
    (hd : Dp X.K H v1 d1 ∧ Dp X.K H v2 d2 ∧ Dp X.K H w1 e1 ∧ Dp X.K H w2 e2) (hs : SeqAt.shaped d1 = true ∧ SeqAt.shaped d2 = true ∧ SeqAt.shaped e1 = true ∧ SeqAt.shaped e2 = true) :
    PySem.W.KeqHits X.A.in1 s [(k1, y1), (k2, y2)] [(k1, u1), (k2, u2)] (PyData.eqv d1 e1 && (PyData.eqv d2 e2 && true)) := by
  obtain ⟨D1, D2, E1, E2⟩ := hd
  obtain ⟨s1, s2, t1, t2⟩ := hs
  obtain ⟨_, a1⟩ := Dp.reads I d1 _ _ D1 r1
  obtain ⟨_, a2⟩ := Dp.reads I d2 _ _ D2 r2
  obtain ⟨_, b1⟩ := Dp.reads I e1 _ _ E1 z1
  obtain ⟨_, b2⟩ := Dp.reads I e2 _ _ E2 z2
  have hu1 : X.A.in1.units + 64 < cLine := by show X.A.units + 1 + 64 < cLine; omega
  refine .hit (y := y1) ?_ (SeqAt.eqAt_reads _ _ _ _ _ _ _ _ a1 b1 (SeqAt.canLay_of_shaped s1) (SeqAt.canLay_of_shaped t1) (SeqAt.room_of_shaped s1 hu1)) (.hit (y := y2) ?_ (SeqAt.eqAt_reads _ _ _ _ _ _ _ _ a2 b2 (SeqAt.canLay_of_shaped s2) (SeqAt.canLay_of_shaped t2) (SeqAt.room_of_shaped s2 hu1)) .nil)
  · unfold valueAt
    rw [List.find?_cons_of_pos (by simp)]
    rfl
  · unfold valueAt
    rw [List.find?_cons_of_neg (by simpa using nk), List.find?_cons_of_pos (by simp)]
    rfl
theorem op_eq2 (hu : X.A.units + 128 < cLine) : OpR X (compareOp .Eq) (rEq2 X.K false) := by
  intro pins s σ H x y v u Q I rx ry h
  obtain ⟨a, b, k1, k2, v1, v2, w1, w2, d1, d2, e1, e2, rfl, rfl, ea, eb, nk, hd, hs, q⟩ := h
  obtain rfl : v = Value.ref a := rx
  obtain rfl : u = Value.ref b := ry
  obtain ⟨_, ya, va, ra, da⟩ := (show ObjOk X.prog X.w H s.heap a (.dK [(k1, v1), (k2, v2)]) from I.hok a _ ea)
  obtain ⟨_, yb, vb, rb, db⟩ := (show ObjOk X.prog X.w H s.heap b (.dK [(k1, w1), (k2, w2)]) from I.hok b _ eb)
  obtain ⟨u1, u2, rfl, r1, r2⟩ := kv_two ra
  obtain ⟨y1, y2, rfl, z1, z2⟩ := kv_two rb
  exact PySem.W.keq_eq (knd := mixKind X.prog X.w) ya yb da db (by omega) (fun _ => eq2_hits hu I nk r1 r2 z1 z2 hd hs) ⟨.bl _, H, I, rfl, q⟩
theorem op_ne2 (hu : X.A.units + 128 < cLine) : OpR X (compareOp .NotEq) (rEq2 X.K true) := by
  intro pins s σ H x y v u Q I rx ry h
  obtain ⟨a, b, k1, k2, v1, v2, w1, w2, d1, d2, e1, e2, rfl, rfl, ea, eb, nk, hd, hs, q⟩ := h
  obtain rfl : v = Value.ref a := rx
  obtain rfl : u = Value.ref b := ry
  obtain ⟨_, ya, va, ra, da⟩ := (show ObjOk X.prog X.w H s.heap a (.dK [(k1, v1), (k2, v2)]) from I.hok a _ ea)
  obtain ⟨_, yb, vb, rb, db⟩ := (show ObjOk X.prog X.w H s.heap b (.dK [(k1, w1), (k2, w2)]) from I.hok b _ eb)
  obtain ⟨u1, u2, rfl, r1, r2⟩ := kv_two ra
  obtain ⟨y1, y2, rfl, z1, z2⟩ := kv_two rb
  exact PySem.W.keq_ne (knd := mixKind X.prog X.w) ya yb da db (by omega) (fun _ => eq2_hits hu I nk r1 r2 z1 z2 hd hs) ⟨.bl _, H, I, rfl, q⟩
end
end Cr

/-! Data logic, part 2: readings of expressions -/
namespace Dl
open PySem PySem.Spec PyProof.Rows L2 Xv Cr
abbrev GE := Rho → (D → Prop) → Prop
abbrev GA := Rho → (List D → Prop) → Prop
abbrev GT := Rho → (Bool → Prop) → Prop
/-- a reading, by data: the value is fixed -/
class DT (M : Cm) (t : TE) (g : outParam GE) : Prop where
  run : ∀ {pt F0 : Addr → Prop} {H0 : Hp} {z0 : Gh} {F : Addr → Prop} {o : Ow} {σ : L2.St} {H : Hp} {ρ : Rho} {P : D → Prop} {Q : VK}, En M pt F0 H0 z0 F o σ H ρ → g ρ P → (∀ d F' H' v, P d → Ext M pt F H F' H' → Rp M F' H' v d → Q v H') → t σ H Q
/-- .. that is no name alone -/
class DTc (M : Cm) (t : TE) (g : outParam GE) : Prop where
  run : ∀ {pt F0 : Addr → Prop} {H0 : Hp} {z0 : Gh} {F : Addr → Prop} {o : Ow} {σ : L2.St} {H : Hp} {ρ : Rho} {P : D → Prop} {Q : VK}, En M pt F0 H0 z0 F o σ H ρ → g ρ P → (∀ d F' H' v, P d → Ext M pt F H F' H' → Rp M F' H' v d → Q v H') → t σ H Q
/-- .. its own place may be anywhere -/
class DB (M : Cm) (t : TE) (g : outParam GE) : Prop where
  run : ∀ {pt F0 : Addr → Prop} {H0 : Hp} {z0 : Gh} {F : Addr → Prop} {o : Ow} {σ : L2.St} {H : Hp} {ρ : Rho} {P : D → Prop} {Q : VK}, En M pt F0 H0 z0 F o σ H ρ → g ρ P → (∀ d F' H' v, P d → Ext M pt F H F' H' → Rb M pt F' H' v d → Q v H') → t σ H Q
/-- .. a new thing that nothing else holds -/
class DN (M : Cm) (t : TE) (g : outParam GE) : Prop where
  run : ∀ {pt F0 : Addr → Prop} {H0 : Hp} {z0 : Gh} {F : Addr → Prop} {o : Ow} {σ : L2.St} {H : Hp} {ρ : Rho} {P : D → Prop} {Q : VK}, En M pt F0 H0 z0 F o σ H ρ → g ρ P → (∀ d F' H' p, P d → Ext M pt F H F' H' → Rb M pt F' H' (.ref p) d → Nw H p → ¬ F' p → Q (.ref p) H') → t σ H Q
class DTT (M : Cm) (t : TT) (g : outParam GT) : Prop where
  run : ∀ {pt F0 : Addr → Prop} {H0 : Hp} {z0 : Gh} {F : Addr → Prop} {o : Ow} {σ : L2.St} {H : Hp} {ρ : Rho} {P : Bool → Prop} {Q : Bool → Hp → Prop}, En M pt F0 H0 z0 F o σ H ρ → g ρ P → (∀ b F' H', P b → Ext M pt F H F' H' → Q b H') → t σ H Q
inductive Kd where
  | full
  | bor
  | pot
inductive RA (M : Cm) (pt F : Addr → Prop) (H : Hp) : List Kd → List V → List D → Prop
  | nil : RA M pt F H [] [] []
  | full {ks : List Kd} {v : V} {vs : List V} {d : D} {ds : List D} : Rp M F H v d → RA M pt F H ks vs ds → RA M pt F H (.full :: ks) (v :: vs) (d :: ds)
  | bor {ks : List Kd} {v : V} {vs : List V} {d : D} {ds : List D} : Rb M pt F H v d → RA M pt F H ks vs ds → RA M pt F H (.bor :: ks) (v :: vs) (d :: ds)
  | pot {ks : List Kd} {p : Addr} {vs : List V} {ds : List D} : pt p → RA M pt F H ks vs ds → RA M pt F H (.pot :: ks) (.ref p :: vs) (.non :: ds)
theorem RA.ext {M : Cm} {pt F F' : Addr → Prop} {H H' : Hp} (k : Ok M pt F H) (e : Ext M pt F H F' H') : ∀ {ks : List Kd} {vs : List V} {ds : List D}, RA M pt F H ks vs ds → RA M pt F' H' ks vs ds
  | _, _, _, .nil => .nil
  | _, _, _, .full r s => .full (r.ext k e) (RA.ext k e s)
  | _, _, _, .bor r s => .bor (r.ext k e) (RA.ext k e s)
  | _, _, _, .pot r s => .pot r (RA.ext k e s)
theorem RA.length {M : Cm} {pt F : Addr → Prop} {H : Hp} : ∀ {ks : List Kd} {vs : List V} {ds : List D}, RA M pt F H ks vs ds → vs.length = ks.length
  | _, _, _, .nil => rfl
  | _, _, _, .full _ s => congrArg (· + 1) (RA.length s)
  | _, _, _, .bor _ s => congrArg (· + 1) (RA.length s)
  | _, _, _, .pot _ s => congrArg (· + 1) (RA.length s)
class DA (M : Cm) (ks : List Kd) (t : TA) (g : outParam GA) : Prop where
  run : ∀ {pt F0 : Addr → Prop} {H0 : Hp} {z0 : Gh} {F : Addr → Prop} {o : Ow} {σ : L2.St} {H : Hp} {ρ : Rho} {P : List D → Prop} {Q : List V → Hp → Prop}, En M pt F0 H0 z0 F o σ H ρ → g ρ P → (∀ ds F' H' vs, P ds → Ext M pt F H F' H' → RA M pt F' H' ks vs ds → Q vs H') → t σ H Q
/-- all fixed -/
class DL (M : Cm) (t : TA) (g : outParam GA) : Prop where
  run : ∀ {pt F0 : Addr → Prop} {H0 : Hp} {z0 : Gh} {F : Addr → Prop} {o : Ow} {σ : L2.St} {H : Hp} {ρ : Rho} {P : List D → Prop} {Q : List V → Hp → Prop}, En M pt F0 H0 z0 F o σ H ρ → g ρ P → (∀ ds F' H' vs, P ds → Ext M pt F H F' H' → RpA M F' H' vs ds → Q vs H') → t σ H Q
/-- a def's promise, by data -/
def spD (M : Cm) (ks : List Kd) (f : List D → (D → Prop) → Prop) : Sp := fun vs H Q _ => ∃ (pt F : Addr → Prop) (ds : List D) (P : D → Prop), Ok M pt F H ∧ RA M pt F H ks vs ds ∧ f ds P ∧ ∀ d F' H' v, P d → Ext M pt F H F' H' → Rp M F' H' v d → Q v H'
/-- .. with a new thing that nothing else holds -/
def spN (M : Cm) (ks : List Kd) (f : List D → (D → Prop) → Prop) : Sp := fun vs H Q _ => ∃ (pt F : Addr → Prop) (ds : List D) (P : D → Prop), Ok M pt F H ∧ RA M pt F H ks vs ds ∧ f ds P ∧ ∀ d F' H' p, P d → Ext M pt F H F' H' → Rb M pt F' H' (.ref p) d → Nw H p → ¬ F' p → Q (.ref p) H'
/-- an operator, by data -/
class D2 (M : Cm) (r : R2) (f : outParam (D → D → (D → Prop) → Prop)) : Prop where
  run : ∀ {pt F : Addr → Prop} {H : Hp} {x y : V} {dx dy : D} {P : D → Prop} {Q : VK}, Ok M pt F H → Rb M pt F H x dx → Rb M pt F H y dy → f dx dy P → (∀ d F' H' v, P d → Ext M pt F H F' H' → Rp M F' H' v d → Q v H') → r x y H Q
class D2N (M : Cm) (r : R2) (f : outParam (D → D → (D → Prop) → Prop)) : Prop where
  run : ∀ {pt F : Addr → Prop} {H : Hp} {x y : V} {dx dy : D} {P : D → Prop} {Q : VK}, Ok M pt F H → Rb M pt F H x dx → Rb M pt F H y dy → f dx dy P → (∀ d F' H' p, P d → Ext M pt F H F' H' → Rb M pt F' H' (.ref p) d → Nw H p → ¬ F' p → Q (.ref p) H') → r x y H Q
/-- a built-in call, by data -/
class D1 (M : Cm) (r : List V → Hp → VK → Prop) (ks : outParam (List Kd)) (f : outParam (List D → (D → Prop) → Prop)) : Prop where
  run : ∀ {pt F : Addr → Prop} {H : Hp} {vs : List V} {ds : List D} {P : D → Prop} {Q : VK}, Ok M pt F H → RA M pt F H ks vs ds → f ds P → (∀ d F' H' v, P d → Ext M pt F H F' H' → Rp M F' H' v d → Q v H') → r vs H Q
class D1N (M : Cm) (r : List V → Hp → VK → Prop) (ks : outParam (List Kd)) (f : outParam (List D → (D → Prop) → Prop)) : Prop where
  run : ∀ {pt F : Addr → Prop} {H : Hp} {vs : List V} {ds : List D} {P : D → Prop} {Q : VK}, Ok M pt F H → RA M pt F H ks vs ds → f ds P → (∀ d F' H' p, P d → Ext M pt F H F' H' → Rb M pt F' H' (.ref p) d → Nw H p → ¬ F' p → Q (.ref p) H') → r vs H Q
section
variable {M : Cm} {K : PySem.W.Frag} {ta tb : TE} {ga gb : GE} {i : Nat} {ks : List Kd} {f : List D → (D → Prop) → Prop} {f2 : D → D → (D → Prop) → Prop} {t : TA} {g : GA}
/-! ### new things are things -/
instance DT.ofC [h : DTc M ta ga] : DT M ta ga := ⟨h.run⟩
instance DB.ofDT [h : DTc M ta ga] : DB M ta ga := ⟨fun e q k => h.run e q fun d F' H' v p x r => k d F' H' v p x (r.rb (e.ok.ext x))⟩
instance DT.ofDN [h : DN M ta ga] : DTc M ta ga := ⟨fun e q k => h.run e q fun d F' H' p hp x r n f => k d _ H' _ hp (x.more (G := fun b => b = p) (fun b z => z ▸ n) fun b z => z ▸ (rb_some r).1) r.fix⟩
theorem spD_of_N {ks : List Kd} {f : List D → (D → Prop) → Prop} {vs : List V} {H : Hp} {Q : VK} {E : XK} (h : spD M ks f vs H Q E) : spN M ks f vs H Q E := by
  obtain ⟨pt, F, ds, P, k, r, q, w⟩ := h
  exact ⟨pt, F, ds, P, k, r, q, fun d F' H' p hp x r n nf => w d _ H' _ hp (x.more (G := fun b => b = p) (fun b z => z ▸ n) fun b z => z ▸ (rb_some r).1) r.fix⟩
/-! ### slots, constants -/
def gD (i : Nat) : GE := fun ρ P => match ρ[i]? with | some (.d x) => P x | _ => False
def gB (i : Nat) : GE := fun ρ P => match ρ[i]? with | some (.d x) => P x | some (.b x) => P x | some (.own x) => P x | _ => False
def gC (d : D) : GE := fun _ P => P d
instance : DT M (tVar i) (gD i) := ⟨fun {pt F0 H0 z0 F o σ H ρ P Q} e q k => by
  unfold gD at q
  split at q
  · rename_i x h
    obtain ⟨v, a, r⟩ := e.sl i _ h
    exact ⟨v, a, k x F H v q (.refl e.ok) r⟩
  · exact q.elim⟩
instance : DB M (tVar i) (gB i) := ⟨fun {pt F0 H0 z0 F o σ H ρ P Q} e q k => by
  unfold gB at q
  split at q
  · rename_i x h
    obtain ⟨v, a, r⟩ := e.sl i _ h
    exact ⟨v, a, k x F H v q (.refl e.ok) (r.rb e.ok)⟩
  · rename_i x h
    obtain ⟨v, a, r, _⟩ := e.sl i _ h
    exact ⟨v, a, k x F H v q (.refl e.ok) r⟩
  · rename_i x h
    obtain ⟨a, r, _⟩ := e.sl i _ h
    exact ⟨_, a, k x F H _ q (.refl e.ok) r⟩
  · exact q.elim⟩
instance {n : Int} : DTc M (tC (.int n)) (gC (.int n)) := ⟨fun e q k => k _ _ _ _ q (.refl e.ok) (.int _)⟩
instance {z : Str} : DTc M (tC (.str z)) (gC (.str z)) := ⟨fun e q k => k _ _ _ _ q (.refl e.ok) (.str _)⟩
instance {b : Bool} : DTc M (tC (.bl b)) (gC (.bl b)) := ⟨fun e q k => k _ _ _ _ q (.refl e.ok) (.bl _)⟩
instance : DTc M (tC .non) (gC .non) := ⟨fun e q k => k _ _ _ _ q (.refl e.ok) .non⟩
/-! ### arguments -/
def gNil : GA := fun _ P => P []
def gCons (ga : GE) (g : GA) : GA := fun ρ P => ga ρ fun d => g ρ fun ds => P (d :: ds)
def gPot (i : Nat) (g : GA) : GA := fun ρ P => match ρ[i]? with | some .pot => g ρ fun ds => P (.non :: ds) | _ => False
instance : DA M [] tNil gNil := ⟨fun e q k => k _ _ _ _ q (.refl e.ok) .nil⟩
instance [h1 : DT M ta ga] [h2 : DA M ks t g] : DA M (.full :: ks) (tCons ta t) (gCons ga g) := ⟨fun {pt F0 H0 z0 F o σ H ρ P Q} e q k => h1.run e q fun d F1 H1 v q1 x1 r1 => h2.run (e.step x1) q1 fun ds F2 H2 vs q2 x2 r2 => k _ _ _ _ q2 (x1.trans x2) (.full (r1.ext (e.step x1).ok x2) r2)⟩
instance [h1 : DB M ta ga] [h2 : DA M ks t g] : DA M (.bor :: ks) (tCons ta t) (gCons ga g) := ⟨fun {pt F0 H0 z0 F o σ H ρ P Q} e q k => h1.run e q fun d F1 H1 v q1 x1 r1 => h2.run (e.step x1) q1 fun ds F2 H2 vs q2 x2 r2 => k _ _ _ _ q2 (x1.trans x2) (.bor (r1.ext (e.step x1).ok x2) r2)⟩
instance [h2 : DA M ks t g] : DA M (.pot :: ks) (tCons (tVar i) t) (gPot i g) := ⟨fun {pt F0 H0 z0 F o σ H ρ P Q} e q k => by
  unfold gPot at q
  split at q
  · rename_i h
    obtain ⟨p, a, hp⟩ := e.sl i _ h
    exact ⟨_, a, h2.run e q fun ds F2 H2 vs q2 x2 r2 => k _ _ _ _ q2 x2 (.pot hp r2)⟩
  · exact q.elim⟩
instance : DL M tNil gNil := ⟨fun e q k => k _ _ _ _ q (.refl e.ok) .nil⟩
instance [h1 : DT M ta ga] [h2 : DL M t g] : DL M (tCons ta t) (gCons ga g) := ⟨fun {pt F0 H0 z0 F o σ H ρ P Q} e q k => h1.run e q fun d F1 H1 v q1 x1 r1 => h2.run (e.step x1) q1 fun ds F2 H2 vs q2 x2 r2 => k _ _ _ _ q2 (x1.trans x2) (.cons (r1.ext (e.step x1).ok x2) r2)⟩
/-! ### displays -/
def gLst (g : GA) : GE := fun ρ P => g ρ fun ds => ds.length ≤ 16777216 ∧ P (.lst ds)
def gTup (g : GA) : GE := fun ρ P => g ρ fun ds => ds.length ≤ 16777216 ∧ P (.tup ds)
instance [h : DL M t g] : DN M (tLst t) (gLst g) := ⟨fun {pt F0 H0 z0 F o σ H ρ P Q} e q k => h.run e q fun ds F1 H1 vs q1 x1 r1 => ⟨by rw [r1.length, sizeLine_eq]; exact q1.1, fun p np => by
  have o1 := (e.step x1).ok
  exact k _ F1 _ p q1.2 (x1.trans (.put0 o1 np)) ⟨p, vs, rfl, o1.not_pt np, upd_same, r1.ext o1 (.put0 o1 np)⟩ (x1.nn np) fun z => (x1.liv p z).ne np⟩⟩
instance [h : DL M t g] : DN M (tTup t) (gTup g) := ⟨fun {pt F0 H0 z0 F o σ H ρ P Q} e q k => h.run e q fun ds F1 H1 vs q1 x1 r1 => ⟨by rw [r1.length, sizeLine_eq]; exact q1.1, fun p np => by
  have o1 := (e.step x1).ok
  exact k _ F1 _ p q1.2 (x1.trans (.put0 o1 np)) ⟨p, vs, rfl, o1.not_pt np, upd_same, r1.ext o1 (.put0 o1 np)⟩ (x1.nn np) fun z => (x1.liv p z).ne np⟩⟩
end
end Dl

/-! Data logic, part 3: operators, built-in calls -/
namespace Dl
open PySem PySem.Spec PyProof.Rows L2 Xv Cr
section
variable {M : Cm} {K : PySem.W.Frag} {pt F F' : Addr → Prop} {H H' : Hp} {v x y : V} {P : D → Prop} {Q : VK}
theorem rb_int {i : Int} (h : Rb M pt F H v (.int i)) : v = .int i := by cases h; rfl
theorem rb_str {z : Str} (h : Rb M pt F H v (.str z)) : v = .str z := by cases h; rfl
theorem rb_bl {b : Bool} (h : Rb M pt F H v (.bl b)) : v = .bl b := by cases h; rfl
theorem rb_non (h : Rb M pt F H v .non) : v = .non := by cases h; rfl
/-! ### numbers -/
def fI (h : Int → Int → D) : D → D → (D → Prop) → Prop := fun dx dy P => match dx, dy with | .int i, .int j => P (h i j) | _, _ => False
def fIc (c : Int → Int → Prop) (h : Int → Int → D) : D → D → (D → Prop) → Prop := fun dx dy P => match dx, dy with | .int i, .int j => c i j ∧ P (h i j) | _, _ => False
theorem run_I0 {g : Int → Int → V} {h : Int → Int → D} (hg : ∀ i j F H, Rp M F H (g i j) (h i j)) : D2 M (rI0 g) (fI h) := ⟨fun {pt F H x y dx dy P Q} k r1 r2 q w => by
  unfold fI at q
  split at q
  · cases rb_int r1
    cases rb_int r2
    exact ⟨_, _, rfl, rfl, w _ F H _ q (.refl k) (hg _ _ _ _)⟩
  · exact q.elim⟩
theorem run_I {c : Int → Int → Prop} {g : Int → Int → V} {h : Int → Int → D} (hg : ∀ i j F H, Rp M F H (g i j) (h i j)) : D2 M (rI c g) (fIc c h) := ⟨fun {pt F H x y dx dy P Q} k r1 r2 q w => by
  unfold fIc at q
  split at q
  · cases rb_int r1
    cases rb_int r2
    exact ⟨_, _, rfl, rfl, q.1, w _ F H _ q.2 (.refl k) (hg _ _ _ _)⟩
  · exact q.elim⟩
instance : D2 M (rI0 fun i j => .int (i + j)) (fI fun i j => .int (i + j)) := run_I0 fun _ _ _ _ => .int _
instance : D2 M (rI0 fun i j => .int (i - j)) (fI fun i j => .int (i - j)) := run_I0 fun _ _ _ _ => .int _
instance : D2 M (rI0 fun i j => .bl (decide (i < j))) (fI fun i j => .bl (decide (i < j))) := run_I0 fun _ _ _ _ => .bl _
instance : D2 M (rI0 fun i j => .bl (decide (i ≤ j))) (fI fun i j => .bl (decide (i ≤ j))) := run_I0 fun _ _ _ _ => .bl _
instance : D2 M (rI0 fun i j => .bl (decide (j < i))) (fI fun i j => .bl (decide (j < i))) := run_I0 fun _ _ _ _ => .bl _
instance : D2 M (rI0 fun i j => .bl (decide (j ≤ i))) (fI fun i j => .bl (decide (j ≤ i))) := run_I0 fun _ _ _ _ => .bl _
instance : D2 M (rI CMul fun i j => .int (i * j)) (fIc CMul fun i j => .int (i * j)) := run_I fun _ _ _ _ => .int _
instance : D2 M (rI (fun _ j => 0 < j) fun i j => .int (i % j)) (fIc (fun _ j => 0 < j) fun i j => .int (i % j)) := run_I fun _ _ _ _ => .int _
instance : D2 M (rI CDiv fun i j => .int (i / j)) (fIc CDiv fun i j => .int (i / j)) := run_I fun _ _ _ _ => .int _
/-! ### == of scalars -/
def fEq (neg : Bool) : D → D → (D → Prop) → Prop := fun dx dy P => match dx, dy with
  | .int i, .int j => P (.bl (neg ^^ decide (i = j)))
  | .str i, .str j => P (.bl (neg ^^ decide (i = j)))
  | .bl i, .bl j => P (.bl (neg ^^ decide (i = j)))
  | .non, .non => P (.bl (!neg))
  | .non, .int _ => P (.bl neg)
  | .int _, .non => P (.bl neg)
  | .non, .str _ => P (.bl neg)
  | .str _, .non => P (.bl neg)
  | _, _ => False
theorem eq_run (neg : Bool) {dx dy : D} (k : Ok M pt F H) (r1 : Rb M pt F H x dx) (r2 : Rb M pt F H y dy) (q : fEq neg dx dy P) (w : ∀ d F' H' v, P d → Ext M pt F H F' H' → Rp M F' H' v d → Q v H') : scal x y = true ∧ Q (.bl (neg ^^ decide (x = y))) H := by
  unfold fEq at q
  split at q
  · cases rb_int r1
    cases rb_int r2
    exact ⟨rfl, w _ F H _ (by rw [show decide (_ = _) = decide (_ = _) from decide_eq_decide.mpr ⟨fun e => V.int.inj e, fun e => by rw [e]⟩]; exact q) (.refl k) (.bl _)⟩
  · cases rb_str r1
    cases rb_str r2
    exact ⟨rfl, w _ F H _ (by rw [show decide (_ = _) = decide (_ = _) from decide_eq_decide.mpr ⟨fun e => V.str.inj e, fun e => by rw [e]⟩]; exact q) (.refl k) (.bl _)⟩
  · cases rb_bl r1
    cases rb_bl r2
    exact ⟨rfl, w _ F H _ (by rw [show decide (_ = _) = decide (_ = _) from decide_eq_decide.mpr ⟨fun e => V.bl.inj e, fun e => by rw [e]⟩]; exact q) (.refl k) (.bl _)⟩
  · cases rb_non r1
    cases rb_non r2
    exact ⟨rfl, w _ F H _ (by rw [decide_eq_true rfl, Bool.xor_true]; exact q) (.refl k) (.bl _)⟩
  · cases rb_non r1
    cases rb_int r2
    exact ⟨rfl, w _ F H _ (by rw [decide_eq_false (fun z => V.noConfusion z), Bool.xor_false]; exact q) (.refl k) (.bl _)⟩
  · cases rb_int r1
    cases rb_non r2
    exact ⟨rfl, w _ F H _ (by rw [decide_eq_false (fun z => V.noConfusion z), Bool.xor_false]; exact q) (.refl k) (.bl _)⟩
  · cases rb_non r1
    cases rb_str r2
    exact ⟨rfl, w _ F H _ (by rw [decide_eq_false (fun z => V.noConfusion z), Bool.xor_false]; exact q) (.refl k) (.bl _)⟩
  · cases rb_str r1
    cases rb_non r2
    exact ⟨rfl, w _ F H _ (by rw [decide_eq_false (fun z => V.noConfusion z), Bool.xor_false]; exact q) (.refl k) (.bl _)⟩
  · exact q.elim
instance : D2 M rEq (fEq false) := ⟨fun k r1 r2 q w => by
  have := eq_run false k r1 r2 q w
  simp only [Bool.false_xor] at this
  exact this⟩
instance : D2 M rNe (fEq true) := ⟨fun k r1 r2 q w => by
  have := eq_run true k r1 r2 q w
  simp only [Bool.true_xor] at this
  exact this⟩
/-! ### in, of flat items -/
def imm : D → Option V
  | .non => some .non
  | .bl b => some (.bl b)
  | .int i => some (.int i)
  | .str z => some (.str z)
  | _ => none
def immL : List D → Option (List V)
  | [] => some []
  | d :: ds => match imm d, immL ds with | some v, some vs => some (v :: vs) | _, _ => none
theorem imm_eq {d : D} {u : V} (h : imm d = some u) (r : Rb M pt F H v d) : v = u ∧ flatV u = true := by
  cases d with
  | non => cases h; cases r; exact ⟨rfl, rfl⟩
  | bl b => cases h; cases r; exact ⟨rfl, rfl⟩
  | int i => cases h; cases r; exact ⟨rfl, rfl⟩
  | str z => cases h; cases r; exact ⟨rfl, rfl⟩
  | lst _ => cases h
  | tup _ => cases h
  | dic _ => cases h
  | ob _ _ => cases h
theorem imm_rp {d : D} {u : V} (h : imm d = some u) (r : Rp M F H v d) : v = u ∧ flatV u = true := by
  cases r <;> cases h <;> exact ⟨rfl, rfl⟩
theorem immL_eq : ∀ {ds : List D} {vs us : List V}, immL ds = some us → RpA M F H vs ds → vs = us ∧ us.all flatV = true
  | [], _, _, h, .nil => by cases h; exact ⟨rfl, rfl⟩
  | d :: ds, _, _, h, .cons r s => by
    unfold immL at h
    split at h
    · rename_i a b ha hb
      cases h
      obtain ⟨e1, f1⟩ := imm_rp ha r
      obtain ⟨e2, f2⟩ := immL_eq hb s
      exact ⟨by rw [e1, e2], by rw [List.all_cons, f1, f2]; rfl⟩
    · cases h
theorem immL_strs (ns : List Str) : immL (ns.map D.str) = some (ns.map V.str) := by
  induction ns with
  | nil => rfl
  | cons a r ih => rw [List.map_cons]; unfold immL; rw [ih]; rfl
theorem immL_ints (ns : List Int) : immL (ns.map D.int) = some (ns.map V.int) := by
  induction ns with
  | nil => rfl
  | cons a r ih => rw [List.map_cons]; unfold immL; rw [ih]; rfl
def itemsD : D → Option (List D)
  | .lst ds => some ds
  | .tup ds => some ds
  | _ => none
def fIn (neg : Bool) : D → D → (D → Prop) → Prop := fun dx dy P => ∃ u ds us, imm dx = some u ∧ itemsD dy = some ds ∧ immL ds = some us ∧ P (.bl (neg ^^ inV u us))
theorem rb_items {d : D} {ds : List D} (h : itemsD d = some ds) (r : Rb M pt F H v d) : ∃ a vs, v = .ref a ∧ ¬ pt a ∧ (H a = some (.lst vs) ∨ H a = some (.tup vs)) ∧ RpA M F H vs ds := by
  cases d <;> cases h
  · obtain ⟨a, vs, e, n, z, q⟩ := r
    exact ⟨a, vs, e, n, .inl z, q⟩
  · obtain ⟨a, vs, e, n, z, q⟩ := r
    exact ⟨a, vs, e, n, .inr z, q⟩
theorem sq_or {a : Addr} {vs : List V} (h : H a = some (.lst vs) ∨ H a = some (.tup vs)) : SqL K H a vs ∨ SqT K H a vs := h.elim (fun z => .inl (SqL.of z)) fun z => .inr (.inl (.inl z))
instance {neg : Bool} : D2 M (rIn K neg) (fIn neg) := ⟨fun {pt F H x y dx dy P Q} k r1 r2 q w => by
  obtain ⟨u, ds, us, e1, e2, e3, q⟩ := q
  obtain ⟨rfl, f1⟩ := imm_eq e1 r1
  obtain ⟨a, vs, rfl, _, hz, ra⟩ := rb_items e2 r2
  obtain ⟨rfl, f2⟩ := immL_eq e3 ra
  refine ⟨a, vs, rfl, sq_or hz, f1, f2, ?_⟩
  have := w _ F H _ q (.refl k) (.bl _)
  cases neg <;> simpa using this⟩
/-! ### items -/
def fIx : D → D → (D → Prop) → Prop := fun dx dy P => ∃ ds i d, itemsD dx = some ds ∧ dy = .int i ∧ atI ds i = some d ∧ P d
theorem at_rel {vs : List V} {ds : List D} {i : Int} {d : D} (r : RpA M F H vs ds) (h : atI ds i = some d) : ∃ v, atI vs i = some v ∧ Rp M F H v d := by
  unfold atI at h ⊢
  rw [r.length]
  cases e : ixN ds.length i with
  | none => rw [e] at h; cases h
  | some j => rw [e] at h; exact r.get h
def fIxL : D → D → (D → Prop) → Prop := fun dx dy P => ∃ ds i d, dx = .lst ds ∧ dy = .int i ∧ atI ds i = some d ∧ P d
def fIxT : D → D → (D → Prop) → Prop := fun dx dy P => ∃ ds i d, dx = .tup ds ∧ dy = .int i ∧ atI ds i = some d ∧ P d
instance : D2 M (rIxL K) fIxL := ⟨fun {pt F H x y dx dy P Q} k r1 r2 q w => by
  obtain ⟨ds, i, d, rfl, rfl, e3, q⟩ := q
  obtain ⟨a, vs, rfl, _, hz, ra⟩ := r1
  cases rb_int r2
  obtain ⟨v, hv, rv⟩ := at_rel ra e3
  exact ⟨a, vs, i, v, rfl, rfl, SqL.of hz, hv, w _ F H _ q (.refl k) rv⟩⟩
instance : D2 M (rIxT K) fIxT := ⟨fun {pt F H x y dx dy P Q} k r1 r2 q w => by
  obtain ⟨ds, i, d, rfl, rfl, e3, q⟩ := q
  obtain ⟨a, vs, rfl, _, hz, ra⟩ := r1
  cases rb_int r2
  obtain ⟨v, hv, rv⟩ := at_rel ra e3
  exact ⟨a, vs, i, v, rfl, rfl, .inl (.inl hz), hv, w _ F H _ q (.refl k) rv⟩⟩
/-! ### put together -/
def fCat : D → D → (D → Prop) → Prop := fun dx dy P => ∃ a b, dx = .lst a ∧ dy = .lst b ∧ a.length + b.length ≤ 16777216 ∧ P (.lst (a ++ b))
instance : D2N M rCat fCat := ⟨fun {pt F H x y dx dy P Q} k r1 r2 q w => by
  obtain ⟨a, b, rfl, rfl, z, q⟩ := q
  obtain ⟨l, xs, rfl, _, h1, q1⟩ := r1
  obtain ⟨l2, ys, rfl, _, h2, q2⟩ := r2
  refine ⟨l, l2, xs, ys, rfl, rfl, h1, h2, by rw [q1.length, q2.length, sizeLine_eq]; exact z, fun p np => ?_⟩
  have x1 := Ext.put0 (F := F) k (o := .lst (xs ++ ys)) np
  exact w _ F _ p q x1 ⟨p, _, rfl, k.not_pt np, upd_same, (q1.ext k x1).app (q2.ext k x1)⟩ (.of np) fun z => (k.liv p z).ne np⟩
def fRep : D → D → (D → Prop) → Prop := fun dx dy P => ∃ a i, dx = .lst a ∧ dy = .int i ∧ -1000000 ≤ i ∧ i ≤ 1000000 ∧ a.length * i.toNat ≤ 16777216 ∧ P (.lst (List.replicate i.toNat a).flatten)
theorem rpa_rep {vs : List V} {ds : List D} (r : RpA M F H vs ds) : ∀ n, RpA M F H (List.replicate n vs).flatten (List.replicate n ds).flatten
  | 0 => .nil
  | n + 1 => by
    rw [List.replicate_succ, List.flatten_cons, List.replicate_succ, List.flatten_cons]
    exact r.app (rpa_rep r n)
instance : D2N M rRep fRep := ⟨fun {pt F H x y dx dy P Q} k r1 r2 q w => by
  obtain ⟨a, i, rfl, rfl, i0, i1, z, q⟩ := q
  obtain ⟨l, xs, rfl, _, h1, q1⟩ := r1
  cases rb_int r2
  refine ⟨l, i, xs, rfl, rfl, h1, by omega, by omega, by rw [q1.length, sizeLine_eq]; exact z, fun p np => ?_⟩
  have x1 := Ext.put0 (F := F) k (o := .lst (List.replicate i.toNat xs).flatten) np
  exact w _ F _ p q x1 ⟨p, _, rfl, k.not_pt np, upd_same, rpa_rep (q1.ext k x1) _⟩ (.of np) fun z => (k.liv p z).ne np⟩
def fAddS : D → D → (D → Prop) → Prop := fun dx dy P => match dx, dy with | .str a, .str b => a.length + b.length ≤ 16777216 ∧ P (.str (a ++ b)) | _, _ => False
instance : D2 M (fun x y H Q => ∃ i j, x = .str i ∧ y = .str j ∧ i.length + j.length ≤ sizeLine ∧ Q (.str (i ++ j)) H) fAddS := ⟨fun {pt F H x y dx dy P Q} k r1 r2 q w => by
  unfold fAddS at q
  split at q
  · cases rb_str r1
    cases rb_str r2
    exact ⟨_, _, rfl, rfl, by rw [sizeLine_eq]; exact q.1, w _ F H _ q.2 (.refl k) (.str _)⟩
  · exact q.elim⟩
/-! ### data that the library knows -/
mutual
inductive PyR : D → PyData → Prop
  | non : PyR .non .none
  | bl (b : Bool) : PyR (.bl b) (.bool b)
  | int (i : Int) : PyR (.int i) (.int i)
  | str (z : Str) : PyR (.str z) (.str z)
  | lst {ds : List D} {ps : List PyData} : PyRA ds ps → PyR (.lst ds) (.list ps)
  | tup {ds : List D} {ps : List PyData} : PyRA ds ps → PyR (.tup ds) (.tuple ps)
inductive PyRA : List D → List PyData → Prop
  | nil : PyRA [] []
  | cons {d : D} {p : PyData} {ds : List D} {ps : List PyData} : PyR d p → PyRA ds ps → PyRA (d :: ds) (p :: ps)
end
mutual
theorem PyR.dr : ∀ {d : D} {p : PyData}, PyR d p → ∀ {v : V}, Rp M F H v d → Dr K H v p
  | _, _, .non, _, .non => .non
  | _, _, .bl _, _, .bl _ => .bl _
  | _, _, .int _, _, .int _ => .int _
  | _, _, .str _, _, .str _ => .str _
  | _, _, .lst h, _, .lst _ e r => .lst (SqL.of e) (PyRA.dr h r)
  | _, _, .tup h, _, .tup _ e r => .tup (.inl (.inl e)) (PyRA.dr h r)
theorem PyRA.dr : ∀ {ds : List D} {ps : List PyData}, PyRA ds ps → ∀ {vs : List V}, RpA M F H vs ds → DrAll K H vs ps
  | _, _, .nil, _, .nil => .nil
  | _, _, .cons h k, _, .cons r s => .cons (PyR.dr h r) (PyRA.dr k s)
end
mutual
theorem PyR.dp : ∀ {d : D} {p : PyData}, PyR d p → ∀ {v : V}, Rp M F H v d → Dp K H v p
  | _, _, .non, _, .non => .non
  | _, _, .bl _, _, .bl _ => .bl _
  | _, _, .int _, _, .int _ => .int _
  | _, _, .str _, _, .str _ => .str _
  | _, _, .lst h, _, .lst _ e r => .lst (SqL.of e) (PyRA.dp h r)
  | _, _, .tup h, _, .tup _ e r => .tup (.inl (.inl e)) (PyRA.dp h r)
theorem PyRA.dp : ∀ {ds : List D} {ps : List PyData}, PyRA ds ps → ∀ {vs : List V}, RpA M F H vs ds → DpAll K H vs ps
  | _, _, .nil, _, .nil => .nil
  | _, _, .cons h k, _, .cons r s => .cons (PyR.dp h r) (PyRA.dp k s)
end
theorem PyR.drb {d : D} {p : PyData} (h : PyR d p) (r : Rb M pt F H v d) : Dr K H v p := by
  cases h with
  | non => cases r; exact .non
  | bl b => cases r; exact .bl b
  | int i => cases r; exact .int i
  | str z => cases r; exact .str z
  | lst h => obtain ⟨a, vs, rfl, _, e, q⟩ := r; exact .lst (SqL.of e) (h.dr q)
  | tup h => obtain ⟨a, vs, rfl, _, e, q⟩ := r; exact .tup (.inl (.inl e)) (h.dr q)
theorem PyR.dpb {d : D} {p : PyData} (h : PyR d p) (r : Rb M pt F H v d) : Dp K H v p := by
  cases h with
  | non => cases r; exact .non
  | bl b => cases r; exact .bl b
  | int i => cases r; exact .int i
  | str z => cases r; exact .str z
  | lst h => obtain ⟨a, vs, rfl, _, e, q⟩ := r; exact .lst (SqL.of e) (h.dp q)
  | tup h => obtain ⟨a, vs, rfl, _, e, q⟩ := r; exact .tup (.inl (.inl e)) (h.dp q)
def fEqD (neg : Bool) : D → D → (D → Prop) → Prop := fun dx dy P => ∃ p q, PyR dx p ∧ PyR dy q ∧ SeqAt.shaped p = true ∧ SeqAt.shaped q = true ∧ P (.bl (neg ^^ PyData.eqv p q))
instance : D2 M (rEqD K) (fEqD false) := ⟨fun {pt F H x y dx dy P Q} k r1 r2 ⟨p, q, h1, h2, s1, s2, z⟩ w => ⟨p, q, h1.dpb r1, h2.dpb r2, s1, s2, by
  have := w _ F H _ z (.refl k) (.bl _)
  rw [Bool.false_xor] at this
  exact this⟩⟩
instance : D2 M (rNeD K) (fEqD true) := ⟨fun {pt F H x y dx dy P Q} k r1 r2 ⟨p, q, h1, h2, s1, s2, z⟩ w => ⟨p, q, h1.dpb r1, h2.dpb r2, s1, s2, by
  have := w _ F H _ z (.refl k) (.bl _)
  rw [Bool.true_xor] at this
  exact this⟩⟩
/-! ### built-in calls -/
def fLen : List D → (D → Prop) → Prop := fun ds P => match ds with | [.lst xs] => P (.int (xs.length : Nat)) | [.tup xs] => P (.int (xs.length : Nat)) | _ => False
instance : D1 M (rLn K) [.bor] fLen := ⟨fun {pt F H vs ds P Q} k r q w => by
  unfold fLen at q
  split at q
  · cases r with
    | bor r s =>
      cases s
      obtain ⟨a, us, rfl, _, e, h⟩ := r
      exact ⟨a, us, rfl, .inl (SqL.of e), w _ F H _ (by rw [h.length]; exact q) (.refl k) (.int _)⟩
  · cases r with
    | bor r s =>
      cases s
      obtain ⟨a, us, rfl, _, e, h⟩ := r
      exact ⟨a, us, rfl, .inr (.inl (.inl e)), w _ F H _ (by rw [h.length]; exact q) (.refl k) (.int _)⟩
  · exact q.elim⟩
def rLsD (K : PySem.W.Frag) : List V → Hp → VK → Prop := fun xs H Q => ∃ p ys, xs = [.ref p] ∧ (SqL K H p ys ∨ SqT K H p ys) ∧ ∀ l, H l = none → Q (.ref l) (upd H l (.lst ys))
theorem call_lsD {X : Cx} : CallR X (.type "list") (rLsD X.K) := call_list_of
def fLs : List D → (D → Prop) → Prop := fun ds P => ∃ d xs, ds = [d] ∧ itemsD d = some xs ∧ P (.lst xs)
instance : D1N M (rLsD K) [.bor] fLs := ⟨fun {pt F H vs ds P Q} k r q w => by
  obtain ⟨d, xs, rfl, hi, q⟩ := q
  cases r with
  | bor r s =>
    cases s
    obtain ⟨a, us, rfl, _, e, h⟩ := rb_items hi r
    refine ⟨a, us, rfl, sq_or e, fun p np => ?_⟩
    have x1 := Ext.put0 (F := F) k (o := .lst us) np
    exact w _ F _ p q x1 ⟨p, _, rfl, k.not_pt np, upd_same, h.ext k x1⟩ (.of np) fun z => (k.liv p z).ne np⟩
def rTupD (K : PySem.W.Frag) : List V → Hp → VK → Prop := fun xs H Q => ∃ p ys, xs = [.ref p] ∧ ((SqL K H p ys ∧ ∀ l, H l = none → Q (.ref l) (upd H l (.tup ys))) ∨ (SqT K H p ys ∧ Q (.ref p) H))
theorem call_tupD {X : Cx} : CallR X (.type "tuple") (rTupD X.K) := call_tuple_of
def fTupL : List D → (D → Prop) → Prop := fun ds P => ∃ xs, ds = [.lst xs] ∧ P (.tup xs)
instance : D1N M (rTupD K) [.bor] fTupL := ⟨fun {pt F H vs ds P Q} k r q w => by
  obtain ⟨xs, rfl, q⟩ := q
  cases r with
  | bor r s =>
    cases s
    obtain ⟨a, us, rfl, _, e, h⟩ := r
    refine ⟨a, us, rfl, .inl ⟨SqL.of e, fun p np => ?_⟩⟩
    have x1 := Ext.put0 (F := F) k (o := .tup us) np
    exact w _ F _ p q x1 ⟨p, _, rfl, k.not_pt np, upd_same, h.ext k x1⟩ (.of np) fun z => (k.liv p z).ne np⟩
def oBools : List D → Option (List Bool)
  | [] => some []
  | .bl b :: ds => (oBools ds).map (b :: ·)
  | _ :: _ => none
def oInts : List D → Option (List Int)
  | [] => some []
  | .int b :: ds => (oInts ds).map (b :: ·)
  | _ :: _ => none
def oStrs : List D → Option (List Str)
  | [] => some []
  | .str b :: ds => (oStrs ds).map (b :: ·)
  | _ :: _ => none
theorem ints_map (l : List Int) : oInts (l.map D.int) = some l := by
  induction l with
  | nil => rfl
  | cons a r ih => rw [List.map_cons]; unfold oInts; rw [ih]; rfl
theorem strs_map (l : List Str) : oStrs (l.map D.str) = some l := by
  induction l with
  | nil => rfl
  | cons a r ih => rw [List.map_cons]; unfold oStrs; rw [ih]; rfl
theorem bools_map (l : List Bool) : oBools (l.map D.bl) = some l := by
  induction l with
  | nil => rfl
  | cons a r ih => rw [List.map_cons]; unfold oBools; rw [ih]; rfl
theorem bools_eq : ∀ {ds : List D} {bs : List Bool} {vs : List V}, oBools ds = some bs → RpA M F H vs ds → vs = bs.map V.bl
  | [], _, _, h, .nil => by cases h; rfl
  | d :: ds, _, _, h, .cons r s => by
    cases r with
    | bl b =>
      unfold oBools at h
      cases e : oBools ds with
      | none => rw [e] at h; cases h
      | some u => rw [e] at h; cases h; rw [bools_eq e s]; rfl
    | _ => cases h
theorem ints_eq : ∀ {ds : List D} {bs : List Int} {vs : List V}, oInts ds = some bs → RpA M F H vs ds → vs = bs.map V.int
  | [], _, _, h, .nil => by cases h; rfl
  | d :: ds, _, _, h, .cons r s => by
    cases r with
    | int b =>
      unfold oInts at h
      cases e : oInts ds with
      | none => rw [e] at h; cases h
      | some u => rw [e] at h; cases h; rw [ints_eq e s]; rfl
    | _ => cases h
theorem strs_eq : ∀ {ds : List D} {bs : List Str} {vs : List V}, oStrs ds = some bs → RpA M F H vs ds → vs = bs.map V.str
  | [], _, _, h, .nil => by cases h; rfl
  | d :: ds, _, _, h, .cons r s => by
    cases r with
    | str b =>
      unfold oStrs at h
      cases e : oStrs ds with
      | none => rw [e] at h; cases h
      | some u => rw [e] at h; cases h; rw [strs_eq e s]; rfl
    | _ => cases h
theorem rpa_ints : ∀ l : List Int, RpA M F H (l.map V.int) (l.map D.int)
  | [] => .nil
  | a :: r => .cons (.int a) (rpa_ints r)
theorem rpa_strs : ∀ l : List Str, RpA M F H (l.map V.str) (l.map D.str)
  | [] => .nil
  | a :: r => .cons (.str a) (rpa_strs r)
def fAll : List D → (D → Prop) → Prop := fun ds P => ∃ xs bs, ds = [.lst xs] ∧ oBools xs = some bs ∧ P (.bl (bs.all id))
instance : D1 M (rAll K) [.bor] fAll := ⟨fun {pt F H vs ds P Q} k r q w => by
  obtain ⟨xs, bs, rfl, hb, q⟩ := q
  cases r with
  | bor r s =>
    cases s
    obtain ⟨a, us, rfl, _, e, h⟩ := r
    exact ⟨a, bs, rfl, SqL.of (by rw [e, bools_eq hb h]), w _ F H _ q (.refl k) (.bl _)⟩⟩
def fSum : List D → (D → Prop) → Prop := fun ds P => ∃ xs bs, ds = [.lst xs] ∧ oInts xs = some bs ∧ P (.int bs.sum)
instance : D1 M (rSum K) [.bor] fSum := ⟨fun {pt F H vs ds P Q} k r q w => by
  obtain ⟨xs, bs, rfl, hb, q⟩ := q
  cases r with
  | bor r s =>
    cases s
    obtain ⟨a, us, rfl, _, e, h⟩ := r
    exact ⟨a, bs, rfl, SqL.of (by rw [e, ints_eq hb h]), w _ F H _ q (.refl k) (.int _)⟩⟩
def fSorted : List D → (D → Prop) → Prop := fun ds P => ∃ xs bs, ds = [.lst xs] ∧ oInts xs = some bs ∧ bs.length < 64 ∧ ∀ cs : List Int, cs.Perm bs → cs.Pairwise (· ≤ ·) → P (.lst (cs.map D.int))
instance : D1N M (rSorted K) [.bor] fSorted := ⟨fun {pt F H vs ds P Q} k r q w => by
  obtain ⟨xs, bs, rfl, hb, hl, q⟩ := q
  cases r with
  | bor r s =>
    cases s
    obtain ⟨a, us, rfl, _, e, h⟩ := r
    refine ⟨a, bs, rfl, SqL.of (by rw [e, ints_eq hb h]), hl, fun cs p pm pw np => ?_⟩
    have x1 := Ext.put0 (F := F) k (o := .lst (cs.map V.int)) np
    exact w _ F _ p (q cs pm pw) x1 ⟨p, _, rfl, k.not_pt np, upd_same, rpa_ints cs⟩ (.of np) fun z => (k.liv p z).ne np⟩
def fSortedS : List D → (D → Prop) → Prop := fun ds P => ∃ xs bs, ds = [.lst xs] ∧ oStrs xs = some bs ∧ bs.length < 64 ∧ ∀ cs : List Str, cs.Perm bs → sortedS cs = true → P (.lst (cs.map D.str))
instance : D1N M (rSortedS K) [.bor] fSortedS := ⟨fun {pt F H vs ds P Q} k r q w => by
  obtain ⟨xs, bs, rfl, hb, hl, q⟩ := q
  cases r with
  | bor r s =>
    cases s
    obtain ⟨a, us, rfl, _, e, h⟩ := r
    refine ⟨a, bs, rfl, SqL.of (by rw [e, strs_eq hb h]), hl, fun cs p pm pw np => ?_⟩
    have x1 := Ext.put0 (F := F) k (o := .lst (cs.map V.str)) np
    exact w _ F _ p (q cs pm pw) x1 ⟨p, _, rfl, k.not_pt np, upd_same, rpa_strs cs⟩ (.of np) fun z => (k.liv p z).ne np⟩
def fRepr : List D → (D → Prop) → Prop := fun ds P => ∃ d p, ds = [d] ∧ PyR d p ∧ (p.showable = true ∧ p.depth ≤ 60 ∧ p.shown.length ≤ 16777216) ∧ P (.str p.shown)
instance : D1 M (rRepr K) [.bor] fRepr := ⟨fun {pt F H vs ds P Q} k r q w => by
  obtain ⟨d, p, rfl, hp, ⟨s1, s2, s3⟩, q⟩ := q
  cases r with
  | bor r s =>
    cases s
    unfold rRepr
    exact ⟨_, p, rfl, hp.drb r, s1, s2, by rw [sizeLine_eq]; exact s3, w _ F H _ q (.refl k) (.str _)⟩⟩
def rStrI : List V → Hp → VK → Prop := fun xs H Q => ∃ i : Int, xs = [.int i] ∧ i.natAbs.log2 < 1920 ∧ Q (.str (toString i)) H
theorem call_strI {X : Cx} : CallR X (.type "str") rStrI := call_str_int
def fStrI : List D → (D → Prop) → Prop := fun ds P => ∃ i : Int, ds = [.int i] ∧ i.natAbs < 1000 ∧ P (.str (toString i))
instance : D1 M rStrI [.bor] fStrI := ⟨fun {pt F H vs ds P Q} k r q w => by
  obtain ⟨i, rfl, hi, q⟩ := q
  cases r with
  | bor r s =>
    cases s
    cases rb_int r
    exact ⟨i, rfl, Nat.lt_of_le_of_lt (Nat.log2_le_self _) (by omega), w _ F H _ q (.refl k) (.str _)⟩⟩
def fMin : List D → (D → Prop) → Prop := fun ds P => ∃ i j : Int, ds = [.int i, .int j] ∧ P (.int (if j < i then j else i))
instance : D1 M rMin2 [.bor, .bor] fMin := ⟨fun {pt F H vs ds P Q} k r q w => by
  obtain ⟨i, j, rfl, q⟩ := q
  cases r with
  | bor r s =>
    cases s with
    | bor r2 s =>
      cases s
      cases rb_int r
      cases rb_int r2
      exact ⟨i, j, rfl, w _ F H _ q (.refl k) (.int _)⟩⟩
def rMx2 : List V → Hp → VK → Prop := fun xs H Q => ∃ i j, xs = [.int i, .int j] ∧ Q (.int (if j > i then j else i)) H
theorem call_mxD {X : Cx} (hc : X.calm = true) : CallR X (.builtin "max") rMx2 := call_max2 hc
def fMax : List D → (D → Prop) → Prop := fun ds P => ∃ i j : Int, ds = [.int i, .int j] ∧ P (.int (if j > i then j else i))
instance : D1 M rMx2 [.bor, .bor] fMax := ⟨fun {pt F H vs ds P Q} k r q w => by
  obtain ⟨i, j, rfl, q⟩ := q
  cases r with
  | bor r s =>
    cases s with
    | bor r2 s =>
      cases s
      cases rb_int r
      cases rb_int r2
      exact ⟨i, j, rfl, w _ F H _ q (.refl k) (.int _)⟩⟩
def fInt1 : List D → (D → Prop) → Prop := fun ds P => match ds with | [.int i] => P (.int i) | [.bl b] => P (.int (if b then 1 else 0)) | _ => False
instance : D1 M rInt1 [.bor] fInt1 := ⟨fun {pt F H vs ds P Q} k r q w => by
  unfold fInt1 at q
  split at q
  · cases r with
    | bor r s =>
      cases s
      cases rb_int r
      exact .inl ⟨_, rfl, w _ F H _ q (.refl k) (.int _)⟩
  · cases r with
    | bor r s =>
      cases s
      cases rb_bl r
      exact .inr ⟨_, rfl, w _ F H _ q (.refl k) (.int _)⟩
  · exact q.elim⟩
end
end Dl

/-! Data logic, part 4: expressions put together, comprehensions -/
namespace Dl
open PySem PySem.Spec PyProof.Rows L2 Xv Cr
section
variable {M : Cm} {K : PySem.W.Frag} {ta tb tc : TE} {ga gb gc : GE} {i : Nat} {ks : List Kd} {f : List D → (D → Prop) → Prop} {f2 : D → D → (D → Prop) → Prop} {t : TA} {g : GA} {r : R2} {tt tu : TT} {gt gu : GT}
def gOp (f : D → D → (D → Prop) → Prop) (ga gb : GE) : GE := fun ρ P => ga ρ fun x => gb ρ fun y => f x y P
def gFun (f : List D → (D → Prop) → Prop) (g : GA) : GE := fun ρ P => g ρ fun ds => f ds P
instance [h1 : DB M ta ga] [h2 : DB M tb gb] [h : D2 M r f2] : DTc M (tOp r ta tb) (gOp f2 ga gb) := ⟨fun {pt F0 H0 z0 F o σ H ρ P Q} e q k =>
  h1.run e q fun d1 F1 H1 v1 q1 x1 r1 => h2.run (e.step x1) q1 fun d2 F2 H2 v2 q2 x2 r2 => h.run ((e.step x1).step x2).ok (r1.ext (e.step x1).ok x2) r2 q2 fun d F' H' v p x r => k d F' H' v p ((x1.trans x2).trans x) r⟩
instance [h1 : DB M ta ga] [h2 : DB M tb gb] [h : D2N M r f2] : DN M (tOp r ta tb) (gOp f2 ga gb) := ⟨fun {pt F0 H0 z0 F o σ H ρ P Q} e q k =>
  h1.run e q fun d1 F1 H1 v1 q1 x1 r1 => h2.run (e.step x1) q1 fun d2 F2 H2 v2 q2 x2 r2 => h.run ((e.step x1).step x2).ok (r1.ext (e.step x1).ok x2) r2 q2 fun d F' H' v p x r n nf => k d F' H' v p ((x1.trans x2).trans x) r ((x1.trans x2).nw n) nf⟩
instance {rr : List V → Hp → VK → Prop} [h : D1 M rr ks f] [h1 : DA M ks t g] : DTc M (tCB rr t) (gFun f g) := ⟨fun {pt F0 H0 z0 F o σ H ρ P Q} e q k =>
  h1.run e q fun ds F1 H1 vs q1 x1 r1 => h.run (e.step x1).ok r1 q1 fun d F' H' v p x r => k d F' H' v p (x1.trans x) r⟩
instance {rr : List V → Hp → VK → Prop} [h : D1N M rr ks f] [h1 : DA M ks t g] : DN M (tCB rr t) (gFun f g) := ⟨fun {pt F0 H0 z0 F o σ H ρ P Q} e q k =>
  h1.run e q fun ds F1 H1 vs q1 x1 r1 => h.run (e.step x1).ok r1 q1 fun d F' H' v p x r n nf => k d F' H' v p (x1.trans x) r (x1.nw n) nf⟩
instance [h1 : DA M ks t g] : DTc M (tCall (spD M ks f) [] E0 t) (gFun f g) := ⟨fun {pt F0 H0 z0 F o σ H ρ P Q} e q k =>
  h1.run e q fun ds F1 H1 vs q1 x1 r1 => ⟨pt, F1, ds, P, (e.step x1).ok, by rw [List.append_nil]; exact r1, q1, fun d F' H' v p x r => k d F' H' v p (x1.trans x) r⟩⟩
instance [h1 : DA M ks t g] : DN M (tCall (spN M ks f) [] E0 t) (gFun f g) := ⟨fun {pt F0 H0 z0 F o σ H ρ P Q} e q k =>
  h1.run e q fun ds F1 H1 vs q1 x1 r1 => ⟨pt, F1, ds, P, (e.step x1).ok, by rw [List.append_nil]; exact r1, q1, fun d F' H' v p x r n nf => k d F' H' v p (x1.trans x) r (x1.nw n) nf⟩⟩
/-! ### truth -/
def gAnd (ga gb : GE) : GE := fun ρ P => ga ρ fun x => match x with | .bl c => if c = true then gb ρ P else P (.bl false) | _ => False
def gOr (ga gb : GE) : GE := fun ρ P => ga ρ fun x => match x with | .bl c => if c = true then P (.bl true) else gb ρ P | _ => False
def gNot (ga : GE) : GE := fun ρ P => ga ρ fun x => match x with | .bl c => P (.bl (!c)) | _ => False
def gIf (gt : GT) (ga gb : GE) : GE := fun ρ P => gt ρ fun c => if c = true then ga ρ P else gb ρ P
instance [h1 : DB M ta ga] [h2 : DT M tb gb] : DTc M (tAndV ta tb) (gAnd ga gb) := ⟨fun {pt F0 H0 z0 F o σ H ρ P Q} e q k =>
  h1.run e q fun d1 F1 H1 v1 q1 x1 r1 => by
    split at q1
    · rename_i c
      refine ⟨c, rb_bl r1, ?_⟩
      cases c with
      | true => exact h2.run (e.step x1) q1 fun d F' H' v p x r => k d F' H' v p (x1.trans x) r
      | false => exact k _ F1 H1 _ q1 x1 (.bl _)
    · exact q1.elim⟩
instance [h1 : DB M ta ga] [h2 : DT M tb gb] : DTc M (tOrV ta tb) (gOr ga gb) := ⟨fun {pt F0 H0 z0 F o σ H ρ P Q} e q k =>
  h1.run e q fun d1 F1 H1 v1 q1 x1 r1 => by
    split at q1
    · rename_i c
      refine ⟨c, rb_bl r1, ?_⟩
      cases c with
      | false => exact h2.run (e.step x1) q1 fun d F' H' v p x r => k d F' H' v p (x1.trans x) r
      | true => exact k _ F1 H1 _ q1 x1 (.bl _)
    · exact q1.elim⟩
instance [h1 : DB M ta ga] : DTc M (tNotV ta) (gNot ga) := ⟨fun {pt F0 H0 z0 F o σ H ρ P Q} e q k =>
  h1.run e q fun d1 F1 H1 v1 q1 x1 r1 => by
    split at q1
    · exact ⟨_, rb_bl r1, k _ F1 H1 _ q1 x1 (.bl _)⟩
    · exact q1.elim⟩
instance [h1 : DTT M tt gt] [h2 : DT M ta ga] [h3 : DT M tb gb] : DTc M (tIf tt ta tb) (gIf gt ga gb) := ⟨fun {pt F0 H0 z0 F o σ H ρ P Q} e q k =>
  h1.run e q fun c F1 H1 q1 x1 => by
    cases c with
    | true => exact h2.run (e.step x1) q1 fun d F' H' v p x r => k d F' H' v p (x1.trans x) r
    | false => exact h3.run (e.step x1) q1 fun d F' H' v p x r => k d F' H' v p (x1.trans x) r⟩
def gtB (ga : GE) : GT := fun ρ P => ga ρ fun x => match x with | .bl c => P c | _ => False
def gtNot (gt : GT) : GT := fun ρ P => gt ρ fun c => P (!c)
def gtAnd (gt gu : GT) : GT := fun ρ P => gt ρ fun c => if c = true then gu ρ P else P false
def gtOr (gt gu : GT) : GT := fun ρ P => gt ρ fun c => if c = true then P true else gu ρ P
instance [h1 : DB M ta ga] : DTT M (tB ta) (gtB ga) := ⟨fun {pt F0 H0 z0 F o σ H ρ P Q} e q k =>
  h1.run e q fun d1 F1 H1 v1 q1 x1 r1 => by
    split at q1
    · exact ⟨_, rb_bl r1, k _ F1 H1 q1 x1⟩
    · exact q1.elim⟩
instance [h1 : DB M ta ga] : DTT M (tTest ta) (gtB ga) := ⟨fun {pt F0 H0 z0 F o σ H ρ P Q} e q k =>
  h1.run e q fun d1 F1 H1 v1 q1 x1 r1 => by
    split at q1
    · exact ⟨_, rb_bl r1, k _ F1 H1 q1 x1⟩
    · exact q1.elim⟩
instance [h1 : DTT M tt gt] : DTT M (tNot tt) (gtNot gt) := ⟨fun {pt F0 H0 z0 F o σ H ρ P Q} e q k => h1.run e q fun c F1 H1 q1 x1 => k _ F1 H1 q1 x1⟩
instance [h1 : DTT M tt gt] [h2 : DTT M tu gu] : DTT M (tAnd tt tu) (gtAnd gt gu) := ⟨fun {pt F0 H0 z0 F o σ H ρ P Q} e q k => h1.run e q fun c F1 H1 q1 x1 => by
  cases c with
  | true => exact h2.run (e.step x1) q1 fun b F' H' p x => k b F' H' p (x1.trans x)
  | false => exact k _ F1 H1 q1 x1⟩
instance [h1 : DTT M tt gt] [h2 : DTT M tu gu] : DTT M (tOr tt tu) (gtOr gt gu) := ⟨fun {pt F0 H0 z0 F o σ H ρ P Q} e q k => h1.run e q fun c F1 H1 q1 x1 => by
  cases c with
  | false => exact h2.run (e.step x1) q1 fun b F' H' p x => k b F' H' p (x1.trans x)
  | true => exact k _ F1 H1 q1 x1⟩
def gtYes : GT := fun _ P => P true
instance : DTT M tYes gtYes := ⟨fun e q k => k _ _ _ q (.refl e.ok)⟩
/-! ### slices -/
abbrev GO := Rho → (Option Int → Prop) → Prop
class DO (M : Cm) (t : TO) (g : outParam GO) : Prop where
  run : ∀ {pt F0 : Addr → Prop} {H0 : Hp} {z0 : Gh} {F : Addr → Prop} {o : Ow} {σ : L2.St} {H : Hp} {ρ : Rho} {P : Option Int → Prop} {Q : Option Int → Hp → Prop}, En M pt F0 H0 z0 F o σ H ρ → g ρ P → (∀ b F' H', P b → Ext M pt F H F' H' → Q b H') → t σ H Q
def goN : GO := fun _ P => P none
def goS (ga : GE) : GO := fun ρ P => ga ρ fun x => match x with | .int i => P (some i) | _ => False
instance : DO M tNoPart goN := ⟨fun e q k => k _ _ _ q (.refl e.ok)⟩
instance [h1 : DB M ta ga] : DO M (tPart ta) (goS ga) := ⟨fun {pt F0 H0 z0 F o σ H ρ P Q} e q k =>
  h1.run e q fun d1 F1 H1 v1 q1 x1 r1 => by
    split at q1
    · exact ⟨_, rb_int r1, k _ F1 H1 q1 x1⟩
    · exact q1.elim⟩
def cutD (xs : List D) (lo hi : Option Int) : List D := (xs.drop (HT.sIx xs.length 0 lo)).take (HT.sIx xs.length xs.length hi - HT.sIx xs.length 0 lo)
def gSl (ga : GE) (gl gh : GO) : GE := fun ρ P => ga ρ fun x => gl ρ fun l => gh ρ fun h => match x with | .lst ds => P (.lst (cutD ds l h)) | _ => False
instance {tl th : TO} {gl gh : GO} [h1 : DB M ta ga] [h2 : DO M tl gl] [h3 : DO M th gh] : DN M (tSl (rSlL K) ta tl th) (gSl ga gl gh) := ⟨fun {pt F0 H0 z0 F o σ H ρ P Q} e q k =>
  h1.run e q fun d1 F1 H1 v1 q1 x1 r1 => h2.run (e.step x1) q1 fun l F2 H2 q2 x2 => h3.run ((e.step x1).step x2) q2 fun h F3 H3 q3 x3 => by
    split at q3
    · obtain ⟨a, vs, rfl, np, hz, rv⟩ := r1.ext (e.step x1).ok (x2.trans x3)
      have ok3 := (((e.step x1).step x2).step x3).ok
      refine ⟨a, vs, rfl, SqL.of hz, fun p n => ?_⟩
      have x4 := Ext.put0 (F := F3) ok3 (o := .lst (cutV vs l h)) n
      have xx := (x1.trans x2).trans x3
      refine k _ F3 _ p q3 (xx.trans x4) ⟨p, _, rfl, ok3.not_pt n, upd_same, ?_⟩ (xx.nn n) fun z => (ok3.liv p z).ne n
      generalize upd H3 p (HO.lst (cutV vs l h)) = H4 at x4 ⊢
      unfold cutV cutD
      rw [rv.length]
      exact (rv.ext ok3 x4).drop.take
    · exact q3.elim⟩
/-! ### dicts by key -/
def keyD : D → Option Key
  | .int i => some (.inl i)
  | .str s => some (.inr s)
  | _ => none
def lkD (ps : List (Key × D)) (k : Key) : Option D := (ps.find? fun kv => decide (kv.1 = k)).map (·.2)
theorem lk_rel {pt F : Addr → Prop} {H : Hp} {k : Key} : ∀ {kvs : List (Key × V)} {ps : List (Key × D)}, RpK M F H kvs ps → ∀ {d : D}, lkD ps k = some d → ∃ v, valV kvs k = some v ∧ Rp M F H v d
  | _, _, .nil, _, h => by cases h
  | _, _, .cons (k := k') (v := v) (d := d') (kvs := kvs) (ps := ps) rr s, d, h => by
    unfold lkD at h
    unfold valV
    rw [List.find?_cons] at h ⊢
    by_cases z : k' = k
    · simp only [z, decide_true] at h ⊢
      cases h
      exact ⟨v, rfl, rr⟩
    · simp only [z, decide_false] at h ⊢
      exact lk_rel (pt := pt) s h
theorem rb_key {pt F : Addr → Prop} {H : Hp} {v : V} {d : D} {k : Key} (h : keyD d = some k) (r : Rb M pt F H v d) : v = kV k := by
  cases d <;> cases h
  · cases rb_int r; rfl
  · cases rb_str r; rfl
def gDGet (ga gb : GE) : GE := fun ρ P => ga ρ fun x => gb ρ fun y => ∃ ps k d, x = .dic ps ∧ keyD y = some k ∧ lkD ps k = some d ∧ P d
instance [h1 : DB M ta ga] [h2 : DB M tb gb] : DTc M (tDGet ta tb) (gDGet ga gb) := ⟨fun {pt F0 H0 z0 F o σ H ρ P Q} e q k =>
  h1.run e q fun d1 F1 H1 v1 q1 x1 r1 => h2.run (e.step x1) q1 fun d2 F2 H2 v2 q2 x2 r2 => by
    obtain ⟨ps, ky, d, rfl, e2, e3, q3⟩ := q2
    obtain ⟨a, kvs, rfl, np, hz, rk⟩ := r1.ext (e.step x1).ok x2
    obtain ⟨v, hv, rv⟩ := lk_rel (pt := pt) rk e3
    have := rb_key e2 r2
    subst this
    exact ⟨a, v, rfl, hv ▸ DGet.k hz, k d F2 H2 v q3 (x1.trans x2) rv⟩⟩
/-! ### texts -/
def gJoin (ga gb : GE) : GE := fun ρ P => ga ρ fun x => match x with | .str a => gb ρ fun y => ∃ ds ys, itemsD y = some ds ∧ oStrs ds = some ys ∧ (ys.map (·.length)).sum + ys.length * a.length ≤ 16777216 ∧ P (.str (Txt.join a ys)) | _ => False
instance [h1 : DB M ta ga] [h2 : DB M tb gb] : DTc M (tM1 (fun x xs H Q => ∃ a p, ∃ ys : List Str, x = .str a ∧ xs = [.ref p] ∧ (SqL K H p (ys.map V.str) ∨ SqT K H p (ys.map V.str)) ∧ (ys.map (·.length)).sum + ys.length * a.length ≤ 16777216 ∧ Q (.str (Txt.join a ys)) H) ta tb) (gJoin ga gb) := ⟨fun {pt F0 H0 z0 F o σ H ρ P Q} e q k =>
  h1.run e q fun d1 F1 H1 v1 q1 x1 r1 => by
    split at q1
    · rename_i a
      refine ⟨⟨a, rb_str r1⟩, h2.run (e.step x1) q1 fun d2 F2 H2 v2 q2 x2 r2 => ?_⟩
      obtain ⟨ds, ys, e2, e3, z, q3⟩ := q2
      obtain ⟨b, vs, rfl, np, hz, rv⟩ := rb_items e2 r2
      cases rb_str r1
      have := strs_eq e3 rv
      subst this
      exact ⟨a, b, ys, rfl, rfl, sq_or hz, z, k _ F2 H2 _ q3 (x1.trans x2) (.str _)⟩
    · exact q1.elim⟩
/-! ### methods of lists that only read -/
def fIndex : D → D → (D → Prop) → Prop := fun x y P => ∃ ds us u j, x = .lst ds ∧ immL ds = some us ∧ imm y = some u ∧ (∃ z, us[j]? = some z ∧ eqV z u = true) ∧ (∀ i z, i < j → us[i]? = some z → eqV z u = false) ∧ P (.int (j : Nat))
def gIndex (ga gb : GE) : GE := fun ρ P => ga ρ fun x => match x with | .lst ds => gb ρ fun y => fIndex (.lst ds) y P | _ => False
instance [h1 : DB M ta ga] [h2 : DB M tb gb] : DTc M (tBM K "list" (rIndex K) ta (tCons tb tNil)) (gIndex ga gb) := ⟨fun {pt F0 H0 z0 F o σ H ρ P Q} e q k =>
  h1.run e q fun d1 F1 H1 v1 q1 x1 r1 => by
    split at q1
    · rename_i ds
      obtain ⟨a, vs, rfl, np, hz, rv⟩ := id r1
      refine ⟨.inl ⟨rfl, _, SqL.of hz⟩, h2.run (e.step x1) q1 fun d2 F2 H2 v2 q2 x2 r2 => ?_⟩
      obtain ⟨ds', us, u, j, z, e2, e3, ⟨w, hw, hq⟩, hn, q3⟩ := q2
      cases z
      obtain ⟨a', vs', z', _, hz2, rv2⟩ := r1.ext (e.step x1).ok x2
      cases z'
      obtain ⟨rfl, fl⟩ := immL_eq e2 rv2
      obtain ⟨rfl, fl2⟩ := imm_eq e3 r2
      exact ⟨a, _, _, j, w, rfl, rfl, SqL.of hz2, fl2, fl, hw, hq, hn, k _ F2 H2 _ q3 (x1.trans x2) (.int _)⟩
    · exact q1.elim⟩
/-! ### objects -/
/-- a field of the class c that is to be read -/
def FldOk (M : Cm) (K : PySem.W.Frag) (c i : Nat) (f : Str) : Prop := Cls K (M.ca c) ∧ NoAttr K (M.ca c) f ∧ (M.fn c)[i]? = some f ∧ ∀ j, j < i → (M.fn c)[j]? ≠ some f
theorem zip_lookup {ns : List Str} {f : Str} : ∀ {i : Nat} {vs : List V} {v : V}, ns[i]? = some f → (∀ j, j < i → ns[j]? ≠ some f) → vs[i]? = some v → (ns.zip vs).lookup f = some v := by
  induction ns with
  | nil => intro i vs v h; simp at h
  | cons a r ih =>
    intro i vs v h n hv
    cases vs with
    | nil => simp at hv
    | cons b s =>
      cases i with
      | zero =>
        simp only [List.getElem?_cons_zero, Option.some.injEq] at h hv
        subst h hv
        simp [List.lookup]
      | succ i =>
        have na : (f == a) = false := beq_eq_false_iff_ne.mpr fun z => n 0 (by omega) (by rw [z]; rfl)
        rw [List.zip_cons_cons, List.lookup_cons, na]
        exact ih h (fun j hj z => n (j + 1) (by omega) z) hv
theorem zip_none {ns : List Str} {f : Str} : ∀ {vs : List V}, f ∉ ns → (ns.zip vs).lookup f = none := by
  induction ns with
  | nil => intro vs _; rfl
  | cons a r ih =>
    intro vs n
    cases vs with
    | nil => rfl
    | cons b s =>
      rw [List.zip_cons_cons, List.lookup_cons, show (f == a) = false from beq_eq_false_iff_ne.mpr fun z => n (z ▸ List.mem_cons_self)]
      exact ih fun z => n (List.mem_cons_of_mem _ z)
def gFld (M : Cm) (K : PySem.W.Frag) (f : Str) (ga : GE) : GE := fun ρ P => ga ρ fun x => ∃ c ds i d, x = .ob c ds ∧ FldOk M K c i f ∧ ds[i]? = some d ∧ P d
instance {f : Str} [h1 : DB M ta ga] : DTc M (tFld K ta f) (gFld M K f ga) := ⟨fun {pt F0 H0 z0 F o σ H ρ P Q} e q k =>
  h1.run e q fun d1 F1 H1 v1 q1 x1 r1 => by
    obtain ⟨c, ds, i, d, rfl, ⟨z1, z2, z3, z4⟩, hd, q2⟩ := q1
    obtain ⟨a, dx, vs, rfl, np, hz, hl, rv⟩ := r1
    obtain ⟨v, hv, r⟩ := rv.get hd
    exact ⟨a, _, dx, _, v, rfl, hz, z1, z2, zip_lookup z3 z4 hv, k d F1 H1 v q2 x1 r⟩⟩
/-- a property, a method: the object first -/
def gProp (M : Cm) (C : Addr) (f : List D → (D → Prop) → Prop) (ga : GE) : GE := fun ρ P => ga ρ fun x => ∃ c ds, x = .ob c ds ∧ M.ca c = C ∧ f [x] P
instance {C : Addr} [h1 : DB M ta ga] : DTc M (tProp C (spD M [.bor] f) [] E0 ta) (gProp M C f ga) := ⟨fun {pt F0 H0 z0 F o σ H ρ P Q} e q k =>
  h1.run e q fun d1 F1 H1 v1 q1 x1 r1 => by
    obtain ⟨c, ds, rfl, rfl, q2⟩ := q1
    obtain ⟨a, dx, vs, rfl, np, hz, hl, rv⟩ := id r1
    exact ⟨a, dx, _, rfl, hz, pt, F1, _, P, (e.step x1).ok, .bor r1 .nil, q2, fun d F' H' v p x r => k d F' H' v p (x1.trans x) r⟩⟩
instance {C : Addr} [h1 : DB M ta ga] : DN M (tProp C (spN M [.bor] f) [] E0 ta) (gProp M C f ga) := ⟨fun {pt F0 H0 z0 F o σ H ρ P Q} e q k =>
  h1.run e q fun d1 F1 H1 v1 q1 x1 r1 => by
    obtain ⟨c, ds, rfl, rfl, q2⟩ := q1
    obtain ⟨a, dx, vs, rfl, np, hz, hl, rv⟩ := id r1
    exact ⟨a, dx, _, rfl, hz, pt, F1, _, P, (e.step x1).ok, .bor r1 .nil, q2, fun d F' H' v p x r n nf => k d F' H' v p (x1.trans x) r (x1.nw n) nf⟩⟩
def gMeth (M : Cm) (C : Addr) (m : Str) (f : List D → (D → Prop) → Prop) (ga : GE) (g : GA) : GE := fun ρ P => ga ρ fun x => ∃ c ds, x = .ob c ds ∧ M.ca c = C ∧ m ∉ M.fn c ∧ g ρ fun es => f (x :: es) P
instance {C : Addr} {m : Str} {E : XK} [h1 : DB M ta ga] [h2 : DA M ks t g] : DTc M (tMeth C m (spD M (.bor :: ks) f) [] E ta t) (gMeth M C m f ga g) := ⟨fun {pt F0 H0 z0 F o σ H ρ P Q} e q k =>
  h1.run e q fun d1 F1 H1 v1 q1 x1 r1 => by
    obtain ⟨c, ds, rfl, rfl, nm, q2⟩ := q1
    obtain ⟨a, dx, vs, rfl, np, hz, hl, rv⟩ := id r1
    refine ⟨a, dx, _, rfl, hz, zip_none nm, h2.run (e.step x1) q2 fun es F2 H2 us q3 x2 r2 => ?_⟩
    exact ⟨pt, F2, _, P, ((e.step x1).step x2).ok, .bor (r1.ext (e.step x1).ok x2) (by rw [List.append_nil]; exact r2), q3, fun d F' H' v p x r => k d F' H' v p ((x1.trans x2).trans x) r⟩⟩
instance {C : Addr} {m : Str} {E : XK} [h1 : DB M ta ga] [h2 : DA M ks t g] : DN M (tMeth C m (spN M (.bor :: ks) f) [] E ta t) (gMeth M C m f ga g) := ⟨fun {pt F0 H0 z0 F o σ H ρ P Q} e q k =>
  h1.run e q fun d1 F1 H1 v1 q1 x1 r1 => by
    obtain ⟨c, ds, rfl, rfl, nm, q2⟩ := q1
    obtain ⟨a, dx, vs, rfl, np, hz, hl, rv⟩ := id r1
    refine ⟨a, dx, _, rfl, hz, zip_none nm, h2.run (e.step x1) q2 fun es F2 H2 us q3 x2 r2 => ?_⟩
    exact ⟨pt, F2, _, P, ((e.step x1).step x2).ok, .bor (r1.ext (e.step x1).ok x2) (by rw [List.append_nil]; exact r2), q3, fun d F' H' v p x r n nf => k d F' H' v p ((x1.trans x2).trans x) r ((x1.trans x2).nw n) nf⟩⟩
/-- .. with one keyword, with two (the second parameter first) -/
def gMethK (M : Cm) (C : Addr) (m : Str) (rv : Bool) (f : List D → (D → Prop) → Prop) (ga : GE) (g : GA) : GE := fun ρ P => ga ρ fun x => ∃ c ds, x = .ob c ds ∧ M.ca c = C ∧ m ∉ M.fn c ∧ g ρ fun es => f (x :: if rv then es.reverse else es) P
instance {C : Addr} {m : Str} {k1 : Kd} [h1 : DB M ta ga] [h2 : DA M [k1] t g] : DTc M (tMethK C m 1 (spD M [.bor, k1] f) (fun vs zs => vs ++ zs) ta t) (gMethK M C m false f ga g) := ⟨fun {pt F0 H0 z0 F o σ H ρ P Q} e q k =>
  h1.run e q fun d1 F1 H1 v1 q1 x1 r1 => by
    obtain ⟨c, ds, rfl, rfl, nm, q2⟩ := q1
    obtain ⟨a, dx, vs, rfl, np, hz, hl, rv⟩ := id r1
    refine ⟨a, dx, _, rfl, hz, zip_none nm, h2.run (e.step x1) q2 fun es F2 H2 us q3 x2 r2 => ?_⟩
    exact ⟨r2.length, pt, F2, _, P, ((e.step x1).step x2).ok, .bor (r1.ext (e.step x1).ok x2) r2, q3, fun d F' H' v p x r => k d F' H' v p ((x1.trans x2).trans x) r⟩⟩
/-- __init__: what the new object is then -/
def spI (M : Cm) (c : Nat) (ks : List Kd) (f : List D → (D → Prop) → Prop) : Sp := fun vs H Q _ => ∃ (pt F : Addr → Prop) (H1 : Hp) (x dx : Addr) (us : List V) (ds : List D) (P : D → Prop), vs = .ref x :: us ∧ Ok M pt F H1 ∧ H1 x = none ∧ H1 dx = none ∧ dx ≠ x ∧ H = upd (upd H1 dx (.own x)) x (.ins (M.ca c) dx []) ∧ RA M pt F H1 ks us ds ∧ f ds P ∧
  ∀ d F' H', P d → Ext M pt F H1 F' H' → Rb M pt F' H' (.ref x) d → ¬ F' x → Q .non H'
def gMake (c : Nat) (f : List D → (D → Prop) → Prop) (g : GA) : GE := fun ρ P => g ρ fun ds => f ds P
theorem make_run {c : Nat} {E : XK} (h1 : DA M ks t g) : DN M (tMake (M.ca c) (spI M c ks f) [] E t) (gMake c f g) := ⟨fun {pt F0 H0 z0 F o σ H ρ P Q} e q k =>
  h1.run e q fun ds F1 H1 vs q1 x1 r1 => fun x dx nx nd ne => ⟨pt, F1, H1, x, dx, vs, ds, P, by rw [List.append_nil], (e.step x1).ok, nx, nd, ne, rfl, r1, q1, fun d F' H' p x2 r nf => ⟨rfl, k d F' H' x p (x1.trans x2) r (x1.nn nx) nf⟩⟩⟩
end
end Dl

/-! Data logic, part 5: targets, what is walked, comprehensions, statements -/
namespace Dl
open PySem PySem.Spec PyProof.Rows L2 Xv Cr
abbrev BD := D → Rho → (Rho → Prop) → Prop
class DG (M : Cm) (g : TG) (ws : outParam (List Nat)) (bd : outParam BD) where
  run : ∀ {pt F0 : Addr → Prop} {H0 : Hp} {z0 : Gh} {F : Addr → Prop} {o : Ow} {σ : L2.St} {H : Hp} {ρ : Rho} {x : D} {v : V} {P : Rho → Prop} {Q : L2.St → Hp → Prop}, En M pt F0 H0 z0 F o σ H ρ → bd x ρ P → Rp M F H v x → (∀ σ' ρ', P ρ' → En M pt F0 H0 z0 F o σ' H ρ' → σ'.length = σ.length → (∀ j, j ∉ ws → σ'[j]? = σ[j]?) → Q σ' H) → g v σ H Q
class DGs (M : Cm) (g : TGs) (ws : outParam (List Nat)) (bd : outParam (List D → Rho → (Rho → Prop) → Prop)) where
  run : ∀ {pt F0 : Addr → Prop} {H0 : Hp} {z0 : Gh} {F : Addr → Prop} {o : Ow} {σ : L2.St} {H : Hp} {ρ : Rho} {x : List D} {v : List V} {P : Rho → Prop} {Q : L2.St → Hp → Prop}, En M pt F0 H0 z0 F o σ H ρ → bd x ρ P → RpA M F H v x → (∀ σ' ρ', P ρ' → En M pt F0 H0 z0 F o σ' H ρ' → σ'.length = σ.length → (∀ j, j ∉ ws → σ'[j]? = σ[j]?) → Q σ' H) → g v σ H Q
def bName (i : Nat) : BD := fun x ρ P => P (ρ.set i (.d x))
def bNil : List D → Rho → (Rho → Prop) → Prop := fun xs ρ P => match xs with | [] => P ρ | _ => False
def bCons (b : BD) (bs : List D → Rho → (Rho → Prop) → Prop) : List D → Rho → (Rho → Prop) → Prop := fun xs ρ P => match xs with | x :: r => b x ρ fun ρ' => bs r ρ' P | [] => False
def bTup (n : Nat) (bs : List D → Rho → (Rho → Prop) → Prop) : BD := fun x ρ P => match x with | .tup ds => ds.length = n ∧ bs ds ρ P | _ => False
section
variable {M : Cm} {K : PySem.W.Frag} {g : TG} {gs : TGs} {ws us : List Nat} {b : BD} {bs : List D → Rho → (Rho → Prop) → Prop} {n i : Nat}
instance : DG M (gName i) [i] (bName i) := ⟨fun {pt F0 H0 z0 F o σ H ρ x v P Q} e q r k => k _ _ q (e.set r) (List.length_set ..) fun j hj => by
  rw [List.getElem?_set, if_neg (fun (z : i = j) => hj (z ▸ List.mem_singleton_self _))]⟩
instance : DGs M L2.gNil [] bNil := ⟨fun {pt F0 H0 z0 F o σ H ρ x v P Q} e q r k => by
  cases r with
  | nil => exact ⟨rfl, k _ _ q e rfl fun _ _ => rfl⟩
  | cons _ _ => exact q.elim⟩
instance [h1 : DG M g ws b] [h2 : DGs M gs us bs] : DGs M (L2.gCons g gs) (ws ++ us) (bCons b bs) := ⟨fun {pt F0 H0 z0 F o σ H ρ x v P Q} e q r k => by
  cases r with
  | nil => exact q.elim
  | cons r s => exact ⟨_, _, rfl, h1.run e q r fun σ1 ρ1 q1 e1 l1 w1 => h2.run e1 q1 s fun σ2 ρ2 q2 e2 l2 w2 => k _ _ q2 e2 (l2.trans l1) fun j hj => (w2 j fun z => hj (List.mem_append_right _ z)).trans (w1 j fun z => hj (List.mem_append_left _ z))⟩⟩
instance [h : DGs M gs ws bs] : DG M (L2.gTup K n gs) ws (bTup n bs) := ⟨fun {pt F0 H0 z0 F o σ H ρ x v P Q} e q r k => by
  cases r with
  | tup f hz rv => exact ⟨_, _, rfl, .inl (.inl hz), by rw [rv.length]; exact q.1, h.run e q.2 rv k⟩
  | _ => exact q.elim⟩
end
/-! ### what is walked -/
structure ItD (M : Cm) (pt F : Addr → Prop) (H : Hp) (J : It) (ds : List D) : Prop where
  ex : ∃ (G : Hp → Prop) (Y : Nat → Hp → V → Hp → Prop), Walk J ds.length G Y ∧ (∀ H2, (∀ b o, nt o = true → F b → H b = some o → H2 b = some o) → G H2) ∧
    ∀ i F2 H2 x H3, i < ds.length → Ok M pt F2 H2 → (∀ b, F b → F2 b) → (∀ b o, nt o = true → F b → H b = some o → H2 b = some o) → Y i H2 x H3 → ∃ d F3, ds[i]? = some d ∧ Ext M pt F2 H2 F3 H3 ∧ Rp M F3 H3 x d
class DI (M : Cm) (wi : TI) (gi : outParam GA) : Prop where
  run : ∀ {pt F0 : Addr → Prop} {H0 : Hp} {z0 : Gh} {F : Addr → Prop} {o : Ow} {σ : L2.St} {H : Hp} {ρ : Rho} {P : List D → Prop} {R : It → Hp → Prop}, En M pt F0 H0 z0 F o σ H ρ → gi ρ P → (∀ ds F' H' J, P ds → Ext M pt F H F' H' → ItD M pt F' H' J ds → R J H') → wi σ H R
section
variable {M : Cm} {K : PySem.W.Frag} {ta tb : TE} {ga gb : GE} {t : TA} {g : GA} {pt F : Addr → Prop} {H : Hp}
theorem it_list {a : Addr} {vs : List V} {ds : List D} (f : F a) (e : H a = some (.lst vs)) (r : RpA M F H vs ds) : ItD M pt F H (Itl K a) ds := ⟨_, _, by rw [← r.length]; exact walk_list, fun H2 s => SqL.of (s a _ rfl f e), fun i F2 H2 x H3 hi k sub s y => by
  obtain ⟨rfl, hx⟩ := y
  obtain ⟨d, hd, rd⟩ := r.at_ hx
  exact ⟨d, F2, hd, .refl k, rd.up fun b o t fb eb => ⟨sub b fb, s b o t fb eb⟩⟩⟩
theorem it_tup {a : Addr} {vs : List V} {ds : List D} (f : F a) (e : H a = some (.tup vs)) (r : RpA M F H vs ds) : ItD M pt F H (Itt K a) ds := ⟨_, _, by rw [← r.length]; exact walk_tup, fun H2 s => show SqT K H2 a vs from Or.inl (Or.inl (s a _ rfl f e)), fun i F2 H2 x H3 hi k sub s y => by
  obtain ⟨rfl, hx⟩ := y
  obtain ⟨d, hd, rd⟩ := r.at_ hx
  exact ⟨d, F2, hd, .refl k, rd.up fun b o t fb eb => ⟨sub b fb, s b o t fb eb⟩⟩⟩
def giL (ga : GE) : GA := fun ρ P => ga ρ fun x => match x with | .lst ds => P ds | _ => False
def giT (ga : GE) : GA := fun ρ P => ga ρ fun x => match x with | .tup ds => P ds | _ => False
def giS (ga : GE) : GA := fun ρ P => ga ρ fun x => match x with | .lst ds => P ds | .tup ds => P ds | _ => False
instance [h : DT M ta ga] : DI M (iList K ta) (giL ga) := ⟨fun {pt F0 H0 z0 F o σ H ρ P R} e q k => h.run e q fun d F' H' v p x r => by
  cases r with
  | lst f hz rv => exact ⟨_, rfl, ⟨_, SqL.of hz⟩, k _ F' H' _ p x (it_list f hz rv)⟩
  | _ => exact p.elim⟩
instance [h : DT M ta ga] : DI M (iTup K ta) (giT ga) := ⟨fun {pt F0 H0 z0 F o σ H ρ P R} e q k => h.run e q fun d F' H' v p x r => by
  cases r with
  | tup f hz rv => exact ⟨_, rfl, ⟨_, .inl (.inl hz)⟩, k _ F' H' _ p x (it_tup f hz rv)⟩
  | _ => exact p.elim⟩
instance [h : DT M ta ga] : DI M (iSeq K ta) (giS ga) := ⟨fun {pt F0 H0 z0 F o σ H ρ P R} e q k => h.run e q fun d F' H' v p x r => by
  cases r with
  | lst f hz rv => exact ⟨_, _, rfl, .inl ⟨SqL.of hz, k _ F' H' _ p x (it_list f hz rv)⟩⟩
  | tup f hz rv => exact ⟨_, _, rfl, .inr ⟨.inl (.inl hz), k _ F' H' _ p x (it_tup f hz rv)⟩⟩
  | _ => exact p.elim⟩
def rgD (lo : Int) (n : Nat) : List D := (List.range n).map fun (i : Nat) => D.int (lo + i)
theorem it_rg {lo : Int} {n : Nat} : ItD M pt F H (Itr lo n) (rgD lo n) := ⟨fun _ => True, YFn fun i => .int (lo + i), by unfold rgD; rw [List.length_map, List.length_range]; exact walk_range, fun _ _ => trivial, fun i F2 H2 x H3 hi k sub s y => by
  obtain ⟨rfl, rfl⟩ := y
  unfold rgD at hi ⊢
  rw [List.length_map, List.length_range] at hi
  exact ⟨.int (lo + i), F2, by rw [List.getElem?_map, List.getElem?_range hi]; rfl, .refl k, .int _⟩⟩
def giR1 (g : GA) : GA := fun ρ P => g ρ fun ds => match ds with | [.int j] => (-1000000000 ≤ j ∧ j ≤ 1000000000) ∧ P (rgD 0 j.toNat) | _ => False
def giR2 (g : GA) : GA := fun ρ P => g ρ fun ds => match ds with | [.int i, .int j] => (-1000000000 ≤ i ∧ i ≤ 1000000000 ∧ -1000000000 ≤ j ∧ j ≤ 1000000000) ∧ P (rgD i (j - i).toNat) | _ => False
instance [h : DL M t g] : DI M (iRng1 t) (giR1 g) := ⟨fun {pt F0 H0 z0 F o σ H ρ P R} e q k => h.run e q fun ds F' H' vs p x r => by
  split at p
  · cases r with
    | cons r s =>
      cases s
      cases r
      exact ⟨_, rfl, by omega, by omega, k _ F' H' _ p.2 x it_rg⟩
  · exact p.elim⟩
instance [h : DL M t g] : DI M (iRng2 t) (giR2 g) := ⟨fun {pt F0 H0 z0 F o σ H ρ P R} e q k => h.run e q fun ds F' H' vs p x r => by
  split at p
  · cases r with
    | cons r s =>
      cases s with
      | cons r2 s =>
        cases s
        cases r
        cases r2
        exact ⟨_, _, rfl, ⟨by omega, by omega, by omega, by omega⟩, k _ F' H' _ p.2 x it_rg⟩
  · exact p.elim⟩
/-- numbered items -/
def enD (ds : List D) : List D := (List.range ds.length).map fun (i : Nat) => D.tup [.int (i : Nat), ds.getD i .non]
theorem getD_at {ds : List D} {i : Nat} {d : D} (h : ds[i]? = some d) : ds.getD i .non = d := by
  rw [List.getD_eq_getElem?_getD, h]; rfl
theorem enD_at {ds : List D} {i : Nat} {d : D} (h : ds[i]? = some d) : (enD ds)[i]? = some (.tup [.int (i : Nat), d]) := by
  unfold enD
  have hi := (List.getElem?_eq_some_iff.mp h).1
  rw [List.getElem?_map, List.getElem?_range hi]
  show some (D.tup [.int (i : Nat), ds.getD i .non]) = _
  rw [getD_at h]
theorem enD_len (ds : List D) : (enD ds).length = ds.length := by unfold enD; rw [List.length_map, List.length_range]
theorem pair_new {F2 : Addr → Prop} {H2 : Hp} {T : Addr} {x y : V} {d e : D} (k : Ok M pt F2 H2) (nT : H2 T = none) (rx : Rp M F2 H2 x d) (ry : Rp M F2 H2 y e) : ∃ F3, Ext M pt F2 H2 F3 (upd H2 T (.tup [x, y])) ∧ Rp M F3 (upd H2 T (.tup [x, y])) (.ref T) (.tup [d, e]) := by
  have x1 := Ext.put (F := F2) k (o := .tup [x, y]) nT
  exact ⟨_, x1, .tup (.inr rfl) upd_same (.cons (rx.ext k x1) (.cons (ry.ext k x1) .nil))⟩
theorem walk_enumT {a : Addr} {xs : List V} : Walk (IteT K a) xs.length (fun H => SqT K H a xs) (YPair (fun i => some (.int (i : Nat))) (fun i => xs[i]?)) := by
  refine ⟨fun i _ hi q => ⟨xs, xs[i], q, by simp [hi]⟩, fun _ q => ⟨xs, q, Nat.le_refl _⟩, fun i H v H' _ q y => ?_⟩
  obtain ⟨T, x, h1, h2, h3, h4⟩ := y
  exact ⟨T, .int (i : Nat), x, h1, h2, h3, rfl, h4 xs q⟩
theorem en_item {vs : List V} {ds : List D} {i : Nat} {F2 : Addr → Prop} {H2 H3 : Hp} {x : V} (r : RpA M F H vs ds) (k : Ok M pt F2 H2) (sub : ∀ b, F b → F2 b) (s : ∀ b o, nt o = true → F b → H b = some o → H2 b = some o)
    (y : YPair (fun i => some (.int (i : Nat))) (fun i => vs[i]?) i H2 x H3) : ∃ d F3, (enD ds)[i]? = some d ∧ Ext M pt F2 H2 F3 H3 ∧ Rp M F3 H3 x d := by
  obtain ⟨T, a, c, rfl, nT, rfl, ea, ec⟩ := y
  cases ea
  obtain ⟨d, hd, rd⟩ := r.at_ ec
  have rd2 : Rp M F2 H2 c d := rd.up fun b o t fb eb => ⟨sub b fb, s b o t fb eb⟩
  obtain ⟨F3, x3, r3⟩ := pair_new k nT (.int (i : Nat)) rd2
  exact ⟨_, F3, enD_at hd, x3, r3⟩
def giE (g : GA) : GA := fun ρ P => g ρ fun ds => match ds with | [.lst xs] => P (enD xs) | [.tup xs] => P (enD xs) | _ => False
instance [h : DL M t g] : DI M (iEnum2 K t) (giE g) := ⟨fun {pt F0 H0 z0 F o σ H ρ P R} e q k => h.run e q fun ds F' H' vs p x r => by
  split at p
  · cases r with
    | cons r s =>
      cases s
      cases r with
      | lst f hz rv => exact ⟨_, _, rfl, .inl ⟨SqL.of hz, k _ F' H' _ p x ⟨_, _, by rw [enD_len, ← rv.length]; exact walk_enum, fun H2 s => SqL.of (s _ _ rfl f hz), fun i F2 H2 x H3 _ kk sub s y => en_item rv kk sub s y⟩⟩⟩
  · cases r with
    | cons r s =>
      cases s
      cases r with
      | tup f hz rv => exact ⟨_, _, rfl, .inr ⟨.inl (.inl hz), k _ F' H' _ p x ⟨_, _, by rw [enD_len, ← rv.length]; exact walk_enumT, fun H2 s => Or.inl (Or.inl (s _ _ rfl f hz)), fun i F2 H2 x H3 _ kk sub s y => en_item rv kk sub s y⟩⟩⟩
  · exact p.elim⟩
/-- two lists side by side -/
def zipD : List D → List D → List D
  | a :: r, b :: s => .tup [a, b] :: zipD r s
  | _, _ => []
theorem zipD_len : ∀ (a b : List D), (zipD a b).length = min a.length b.length
  | [], _ => by simp [zipD]
  | _ :: _, [] => by simp [zipD]
  | a :: r, b :: s => by
    show (zipD r s).length + 1 = _
    rw [zipD_len r s, List.length_cons, List.length_cons]
    omega
theorem zipD_at : ∀ {a b : List D} {i : Nat} {x y : D}, a[i]? = some x → b[i]? = some y → (zipD a b)[i]? = some (.tup [x, y])
  | [], _, _, _, _, h, _ => by simp at h
  | _ :: _, [], _, _, _, _, h => by simp at h
  | a :: r, b :: s, 0, _, _, h, k => by
    simp only [List.getElem?_cons_zero, Option.some.injEq] at h k
    subst h k
    rfl
  | a :: r, b :: s, i + 1, _, _, h, k => by
    simp only [List.getElem?_cons_succ] at h k
    show (zipD r s)[i]? = _
    exact zipD_at h k
def giZ (g : GA) : GA := fun ρ P => g ρ fun ds => match ds with | [.lst xs, .lst ys] => P (zipD xs ys) | _ => False
instance [h : DL M t g] : DI M (iZip K t) (giZ g) := ⟨fun {pt F0 H0 z0 F o σ H ρ P R} e q k => h.run e q fun ds F' H' vs p x r => by
  split at p
  · cases r with
    | cons r s =>
      cases s with
      | cons r2 s =>
        cases s
        cases r with
        | lst f hz rv =>
          cases r2 with
          | lst f2 hz2 rv2 =>
            refine ⟨_, _, _, _, rfl, SqL.of hz, SqL.of hz2, k _ F' H' _ p x ⟨_, _, walk_zip (by rw [zipD_len, rv.length, rv2.length]), fun H2 s => ⟨SqL.of (s _ _ rfl f hz), SqL.of (s _ _ rfl f2 hz2)⟩, fun i F2 H2 x H3 _ kk sub s y => ?_⟩⟩
            obtain ⟨T, a, c, rfl, nT, rfl, ea, ec⟩ := y
            obtain ⟨d, hd, rd⟩ := rv.at_ ea
            obtain ⟨d2, hd2, rd2⟩ := rv2.at_ ec
            obtain ⟨F3, x3, r3⟩ := pair_new (M := M) kk nT (rd.up fun b o t fb eb => ⟨sub b fb, s b o t fb eb⟩) (rd2.up fun b o t fb eb => ⟨sub b fb, s b o t fb eb⟩)
            exact ⟨_, F3, zipD_at hd hd2, x3, r3⟩
  · exact p.elim⟩
end
/-! ### comprehensions -/
def wipeR (ρ : Rho) : List Nat → Rho
  | [] => ρ
  | v :: vs => (wipeR ρ vs).set v .no
section
variable {M : Cm} {K : PySem.W.Frag} {pt F0 : Addr → Prop} {H0 : Hp} {z0 : Gh} {F : Addr → Prop} {o : Ow} {σ : L2.St} {H : Hp} {ρ : Rho}
theorem En.wipe (e : En M pt F0 H0 z0 F o σ H ρ) : ∀ vs : List Nat, En M pt F0 H0 z0 F o (L2.wipe σ vs) H (wipeR ρ vs)
  | [] => e
  | v :: vs => (En.wipe e vs).forget
theorem wipe_at (σ : L2.St) (j : Nat) : ∀ vs : List Nat, j ∉ vs → (L2.wipe σ vs)[j]? = σ[j]?
  | [], _ => rfl
  | v :: vs, h => by
    unfold L2.wipe
    rw [List.getElem?_set, if_neg (fun (z : v = j) => h (z ▸ List.mem_cons_self))]
    exact wipe_at σ j vs fun z => h (List.mem_cons_of_mem _ z)
theorem wipe_in (σ : L2.St) (j : Nat) (hj : j < σ.length) : ∀ vs : List Nat, j ∈ vs → (L2.wipe σ vs)[j]? = some none
  | v :: vs, h => by
    unfold L2.wipe
    rw [List.getElem?_set]
    by_cases z : v = j
    · rw [if_pos z, if_pos (by rw [z, wipe_length]; exact hj)]
    · rw [if_neg z]
      exact wipe_in σ j hj vs ((List.mem_cons.mp h).resolve_left (Ne.symm z))
theorem wipe_eq {σ σ' : L2.St} {ws vs : List Nat} (hl : σ'.length = σ.length) (h : ∀ j, j ∉ ws → σ'[j]? = (L2.wipe σ vs)[j]?) (s : (ws.all fun j => vs.contains j) = true) : L2.wipe σ' vs = L2.wipe σ vs := by
  refine List.ext_getElem? fun j => ?_
  by_cases hj : j ∈ vs
  · by_cases hl2 : j < σ.length
    · rw [wipe_in σ' j (by rw [hl]; exact hl2) vs hj, wipe_in σ j hl2 vs hj]
    · rw [List.getElem?_eq_none (by rw [wipe_length]; omega), List.getElem?_eq_none (by rw [wipe_length]; omega)]
  · rw [wipe_at σ' j vs hj]
    refine h j fun z => hj ?_
    have := List.all_eq_true.mp s j z
    simpa using this
theorem Ext.updNew {F' : Addr → Prop} {H' : Hp} {p : Addr} {u : HO} (k : Ok M pt F H) (e : Ext M pt F H F' H') (n : H p = none) (l : Fre H' p) (tu : nt u = true := by rfl) : Ext M pt F H F' (upd H' p u) := ⟨e.sub, e.new, fun b w t hb h => by
  rw [upd_ne (ne_of_none h n)]
  exact e.same b w t hb h, fun b hb => pot_upd (e.pots b hb) fun z => k.not_pt n (z ▸ hb), fun b f => upd_lv (e.liv b f) tu, tabs_upd e.tbs l⟩
theorem pln_at {H : Hp} {p : Addr} {o : HO} (h : H p = some o) (t : pln o = true := by rfl) : Fre H p := fre_pln fun w hw => by
  rw [h] at hw
  cases hw
  exact t
def lcGo (st : D → (Option D → Prop) → Prop) : List D → List D → (D → Prop) → Prop
  | [], acc, P => P (.lst acc)
  | x :: xs, acc, P => st x fun r => lcGo st xs (acc ++ r.toList) P
def lcSt (bd : BD) (gt : GT) (ge : GE) (ρ : Rho) : D → (Option D → Prop) → Prop := fun x k => bd x ρ fun ρ2 => gt ρ2 fun b => if b = true then ge ρ2 (fun y => k (some y)) else k none
def gLc (gi : GA) (ws : List Nat) (bd : BD) (gt : GT) (ge : GE) (vs : List Nat) : GE := fun ρ P => gi ρ fun ds => (ws.all fun j => vs.contains j) = true ∧ ds.length ≤ 1000000 ∧ lcGo (lcSt bd gt ge (wipeR ρ vs)) ds [] P
instance {wi : TI} {gi : GA} {g : TG} {ws vs : List Nat} {bd : BD} {tt : TT} {gt : GT} {te : TE} {ge : GE} [hi : DI M wi gi] [hg : DG M g ws bd] [ht : DTT M tt gt] [he : DT M te ge] : DN M (tLc wi g tt te vs) (gLc gi ws bd gt ge vs) := ⟨fun {pt F0 H0 z0 F o σ H ρ P Q} e q k =>
  hi.run e q fun ds F1 H1 J q1 x1 it D nD => by
    obtain ⟨hws, hz, q1⟩ := q1
    obtain ⟨G, Y, w, st, yl⟩ := it.ex
    have e1 := e.step x1
    have ok1 := e1.ok
    have nF1 : ¬ F1 D := fun z => (ok1.liv D z).ne nD
    have npt : ¬ pt D := ok1.not_pt nD
    have w' : Walk J ds.length G Y := w
    refine lc_it w' (fun i H' => ∃ Fi acc ys, Ext M pt F1 H1 Fi H' ∧ H' D = some (.lst acc) ∧ ¬ Fi D ∧ RpA M Fi H' acc ys ∧ acc.length ≤ i ∧ lcGo (lcSt bd gt ge (wipeR ρ vs)) (ds.drop i) ys P)
      ⟨F1, [], [], .put0 ok1 nD, upd_same, nF1, .nil, Nat.le_refl _, q1⟩ (fun i H' _ ⟨Fi, _, _, x, _⟩ => st H' fun b u t fb eb => x.same b u t (fun z => ok1.dis b z fb) eb) (fun i x H' H'' hlt p y => ?_) (fun H' p => ?_)
    · obtain ⟨Fi, acc, ys, x2, hD, nFi, ra, hl, q2⟩ := p
      have ok2 := ok1.ext x2
      obtain ⟨d, F3, hd, x3, rd⟩ := yl i Fi H' x H'' hlt ok2 x2.sub (fun b u t fb eb => x2.same b u t (fun z => ok1.dis b z fb) eb) y
      have e3 := ((e1.step x2).step x3).wipe vs
      have ok3 := ok2.ext x3
      have hD3 := x3.same D _ rfl npt hD
      have nF3 : ¬ F3 D := fun z => (x3.new D z).elim nFi fun n => n.no (.at_ hD)
      have ed : ds.drop i = d :: ds.drop (i + 1) := by
        obtain ⟨hlt', rfl⟩ := List.getElem?_eq_some_iff.mp hd
        exact List.drop_eq_getElem_cons hlt'
      rw [ed] at q2
      have q2 : bd d (wipeR ρ vs) (fun ρ2 => gt ρ2 fun b => if b = true then ge ρ2 (fun y => lcGo (lcSt bd gt ge (wipeR ρ vs)) (ds.drop (i + 1)) (ys ++ (some y).toList) P) else lcGo (lcSt bd gt ge (wipeR ρ vs)) (ds.drop (i + 1)) (ys ++ (none : Option Dl.D).toList) P) := q2
      refine hg.run e3 q2 rd fun σ2 ρ2 q4 e4 l4 w4 => ⟨wipe_eq (ws := ws) (by rw [l4, wipe_length]) w4 hws, ?_⟩
      refine ht.run e4 q4 fun c F5 H5 q5 x5 => ?_
      have e5 := e4.step x5
      have ok5 := e5.ok
      have hD5 := x5.same D _ rfl npt hD3
      have nF5 : ¬ F5 D := fun z => (x5.new D z).elim nF3 fun n => n.no (.at_ hD3)
      cases c with
      | true =>
        rw [if_pos rfl]
        refine he.run e5 q5 fun d6 F6 H6 v q6 x6 r6 => ?_
        have hD6 := x6.same D _ rfl npt hD5
        have nF6 : ¬ F6 D := fun z => (x6.new D z).elim nF5 fun n => n.no (.at_ hD5)
        have ok6 := ok5.ext x6
        have up : ∀ b u, nt u = true → F6 b → H6 b = some u → F6 b ∧ upd H6 D (.lst (acc ++ [v])) b = some u := fun b u _ fb eb => ⟨fb, by rw [upd_ne (fun (z : b = D) => nF6 (z ▸ fb))]; exact eb⟩
        refine ⟨acc, hD6, by rw [sizeLine_eq]; omega, F6, acc ++ [v], ys ++ [d6], ?_, upd_same, nF6, ?_, by rw [List.length_append]; show acc.length + 1 ≤ _; omega, q6⟩
        · exact Ext.updNew ok1 (((x2.trans x3).trans x5).trans x6) nD (pln_at hD6)
        · exact RpA.app ((((ra.ext ok2 x3).ext ok3 x5).ext ok5 x6).up up) (.one (r6.up up))
      | false =>
        rw [if_neg Bool.false_ne_true]
        refine ⟨F5, acc, ys, (x2.trans x3).trans x5, hD5, nF5, (ra.ext ok2 x3).ext ok3 x5, by omega, ?_⟩
        have q5 : lcGo (lcSt bd gt ge (wipeR ρ vs)) (ds.drop (i + 1)) (ys ++ (none : Option Dl.D).toList) P := q5
        rw [Option.toList_none, List.append_nil] at q5
        exact q5
    · obtain ⟨Fi, acc, ys, x2, hD, nFi, ra, hl, q2⟩ := p
      rw [List.drop_length] at q2
      exact k (.lst ys) Fi H' D q2 (x1.trans x2) ⟨D, acc, rfl, npt, hD, ra⟩ (x1.nn nD) nFi⟩
end
end Dl

set_option maxHeartbeats 0
namespace Cr
open PySem PySem.Spec PyProof.Rows L2 Xv
/-- the end, where the written part is known by what it says -/
theorem walkGE {l : PySem.W.OpenLaw} {n k : Nat} {q : Program} {loose : List Str} {XP : (Str → Option Value) → Heap → Prop} {YP : World → Heap → Prop} {d : DefRec} {x : Str}
    (hn : l.most = some n) (hn2 : n ≤ sizeLine) (hdf : d.params.defaults = []) (hr : Room k callerA)
    (F : ∀ (w : World) (mg : Str → Option Value) (fa : Addr) (h : Heap), YP w h → h.Ns mainGlobals mg → mg d.name = some (.ref fa) →
      ∃ (K : PySem.W.Frag) (fd : FuncData) (sp : Sp), K.In h ∧ (∀ (s : Shared) (u : Value), BindsTo s fd ⟨[u], []⟩ [(x, u)]) ∧ (∀ (H : Hp) (a : Addr) (ns : List Int), ns.length ≤ n → Only H → SqL K H a (ns.map V.int) → sp [.ref a] H (fun v _ => v = .bl true) E0) ∧
        ∀ base : Heap, K.In base → base.Ns mainGlobals mg → FnG l.prog w K mg base k fa fd [x] sp) :
    PySem.W.WalkO q loose XP YP l.row.toRowW d [] (fun f vs => PySem.call f vs) := by
  refine Att.attach_call hn hdf (fun w s₀ s₁ mg mb fa o pm cd doc a vs ns G Y ho hd hcd hmg hobj hints hlen hg => ?_)
  obtain ⟨K, fd, sp, KX, hb, hsp, hF⟩ := F w mg fa _ Y G.T.g hmg
  exact law_callG KX G.T.g G.T.b G.T.builtins G.T.nolimit hg hobj hints (Nat.le_trans hlen hn2) hr hF hb (fun H hO hS => hsp H a ns hlen hO hS)
/-! ### what of the heap is looked at -/
def valsO (o : Obj) : List Addr := match o.data with
  | .dict es _ => es.toList.flatMap fun e => He.refV e.val
  | _ => []
def nsO (o : Obj) : List Addr := match o.data with
  | .cls cd => [cd.ns]
  | _ => []
def fnO (o : Obj) : List Addr := match o.data with
  | .func fd => He.refV fd.code ++ fd.closure.map (·.2)
  | _ => []
def at0 (g : Addr → Option Obj) (f : Obj → List Addr) (a : Addr) : List Addr := match g a with
  | some o => f o
  | none => []
/-- a property's defs -/
def prO (o : Obj) : List Addr := match o.data with
  | .fields vs => vs.toList.flatMap He.refV
  | _ => []
def dfO (o : Obj) : List Addr := match o.data with
  | .func fd => He.refV fd.defaults
  | _ => []
def asK (g : Addr → Option Obj) : List Addr :=
  let v := at0 g valsO mainGlobals
  let n := v.flatMap (at0 g nsO)
  let m := n.flatMap (at0 g valsO)
  let r := m.flatMap (at0 g prO)
  mainGlobals :: cStatics :: (v ++ (n ++ (m ++ (r ++ (v.flatMap (at0 g dfO) ++ (v ++ (m ++ r)).flatMap (at0 g fnO))))))
abbrev FnS : Type := Option (Str × Str × Arguments × FuncBody × Scope × Addr × List Str × Value × Addr)
def fnS (K : PySem.W.Frag) (a : Addr) : FnS := match K.lookup a with
  | some ⟨_, _, .func fd, _⟩ => some (fd.name, fd.qualname, fd.params, fd.body, fd.scope, fd.globals, fd.closure.map (·.1), fd.defaults, fd.builtins)
  | _ => none
def codeS (K : PySem.W.Frag) (a : Addr) (q : Str) : Bool := match K.lookup a with
  | some ⟨_, _, .func fd, _⟩ => PySem.W.codeIn K fd.code q
  | _ => false
theorem fnS_ok {K : PySem.W.Frag} {a : Addr} {x q : Str} {st : Stmt} (e : fnS K a = (some (x, q, defArgs st, FuncBody.stmts (defBody st), defScope st, mainGlobals, [], Value.none, builtinsNs) : FnS)) (c : codeS K a q = true) (k : PySem.W.keepIn K (.ref a) = true) : ∃ fd, Fun K x q st a fd := by
  unfold fnS at e
  unfold codeS at c
  cases z : K.lookup a with
  | none =>
    rw [z] at c
    cases c
  | some o =>
    obtain ⟨oc, od, dt, osl⟩ := o
    rw [z] at c e
    cases dt with
    | func fd =>
      obtain ⟨n1, n2, n3, n4, n5, n6, n7, n8, n9, n10, n11, n12, n13, n14, n15⟩ := fd
      have e2 : (some (n1, n2, n3, n4, n5, n6, n7.map (·.1), n8, n15) : FnS) = _ := e
      simp only [Option.some.injEq, Prod.mk.injEq] at e2
      obtain ⟨h1, h2, h3, h4, h5, h6, h7, h8, h9⟩ := e2
      obtain rfl := List.map_eq_nil_iff.mp h7
      subst h1 h2 h3 h4 h5 h6 h8 h9
      exact ⟨_, fun_mk (st := st) z c k⟩
    | _ => cases c
/-- a def with None as its one default -/
def dflN (K : PySem.W.Frag) (a : Addr) : Bool := match K.lookup a with
  | some ⟨_, _, .func fd, _⟩ => (match fd.defaults with
    | .ref T => (match K.lookup T with
      | some o => (match o.data with
        | .seq its _ => decide (its.toList = [Value.none])
        | _ => false)
      | none => false)
    | _ => false)
  | _ => false
def fnSD (K : PySem.W.Frag) (a : Addr) : Option (Str × Str × Arguments × FuncBody × Scope × Addr × List Str × Addr) := match K.lookup a with
  | some ⟨_, _, .func fd, _⟩ => some (fd.name, fd.qualname, fd.params, fd.body, fd.scope, fd.globals, fd.closure.map (·.1), fd.builtins)
  | _ => none
theorem fnD_ok {K : PySem.W.Frag} {a : Addr} {x q : Str} {st : Stmt} (e : fnSD K a = some (x, q, defArgs st, FuncBody.stmts (defBody st), defScope st, mainGlobals, [], builtinsNs)) (c : codeS K a q = true) (k : PySem.W.keepIn K (.ref a) = true) (d : dflN K a = true) : ∃ fd, FunD K x q (defArgs st) (defBody st) (defScope st) [V.non] [] a fd := by
  unfold fnSD at e
  unfold codeS at c
  unfold dflN at d
  cases z : K.lookup a with
  | none =>
    rw [z] at c
    cases c
  | some o =>
    obtain ⟨oc, od, dt, osl⟩ := o
    rw [z] at c e d
    cases dt with
    | func fd =>
      obtain ⟨n1, n2, n3, n4, n5, n6, n7, n8, n9, n10, n11, n12, n13, n14, n15⟩ := fd
      have e2 : some (n1, n2, n3, n4, n5, n6, n7.map (·.1), n15) = _ := e
      simp only [Option.some.injEq, Prod.mk.injEq] at e2
      obtain ⟨h1, h2, h3, h4, h5, h6, h7, h9⟩ := e2
      obtain rfl := List.map_eq_nil_iff.mp h7
      cases n8 with
      | ref T =>
        dsimp only at d
        cases ho : K.lookup T with
        | none =>
          rw [ho] at d
          cases d
        | some o2 =>
          rw [ho] at d
          dsimp only at d
          cases hi : o2.data with
          | seq its m =>
            rw [hi] at d
            have hl := of_decide_eq_true d
            have hl2 : its = #[Value.none] := Array.toList_inj.mp hl
            subst h1 h2 h3 h4 h5 h6 h9 hl2
            exact ⟨_, ⟨⟨oc, od, _, _, _, _, _, _, _, osl, rfl, z, c, .inr ⟨by simp, T, o2, [Value.none], m, rfl, ho, hi, .cons rfl .nil⟩, .inl rfl⟩, k⟩⟩
          | _ =>
            rw [hi] at d
            cases d
      | _ => cases d
    | _ => cases c
theorem tab_of {α : Type} {n : Nat} {f g : Nat → α} (h : (List.range n).map f = (List.range n).map g) : ∀ i, i < n → f i = g i := fun i hi => by
  have := congrArg (·[i]?) h
  simpa [hi] using this
def Fn (K : PySem.W.Frag) (x qual : Str) (st : Stmt) (f : Addr) : Prop := ∃ fd, Fun K x qual st f fd
def Dn (K : PySem.W.Frag) (mg : Str → Option Value) (x : Str) (st : Stmt) : Prop := ∃ f, mg x = some (.ref f) ∧ Fn K x x st f
section
variable {P : Program} {w : World} {K : PySem.W.Frag} {mg : Str → Option Value} {base : Heap} {k : Nat} {x : Str} {st : Stmt} {ps : List Str} {sp : Sp}
theorem cl_mk (D : Dn K mg x st) (ok : ∀ f fd, Fun K x x st f fd → FnOk P w K mg base CX0 k f fd ps sp)
    (hb : ∀ (kV doc pm : Value) (an : Option Addr) (cdv ct : Value) (us : List Value), us.length = ps.length → bindArgs (PySem.W.fnOf x x (defArgs st) (defBody st) (defScope st) .none kV doc pm an cdv ct) ⟨us, []⟩ = pure (ps.zip us)) : Xv.Cl P w K mg base k x sp := by
  obtain ⟨f, gm, fd, F⟩ := D
  exact ⟨f, fd, ps, ok f fd F, gm, F.kp, F.binds hb⟩
theorem clg_mk (D : Dn K mg x st) (ok : ∀ f fd, Fun K x x st f fd → FnG P w K mg base k f fd ps sp)
    (hb : ∀ (kV doc pm : Value) (an : Option Addr) (cdv ct : Value) (us : List Value), us.length = ps.length → bindArgs (PySem.W.fnOf x x (defArgs st) (defBody st) (defScope st) .none kV doc pm an cdv ct) ⟨us, []⟩ = pure (ps.zip us)) : Xv.ClG P w K mg base k x sp := by
  obtain ⟨f, gm, fd, F⟩ := D
  exact ⟨f, fd, ps, ok f fd F, gm, F.kp, F.binds hb⟩
/-- keywords for the two parameters behind the first, the second one first -/
theorem kb_two {qual a b c : Str} {f : Addr} {fd : FuncData} (F : Fun K x qual st f fd)
    (hk : ∀ (kV doc pm : Value) (an : Option Addr) (cdv ct u v w : Value), bindArgs (PySem.W.fnOf x qual (defArgs st) (defBody st) (defScope st) .none kV doc pm an cdv ct) ⟨[u], [(c, v), (b, w)]⟩ = pure ((([a, b, c] : List Str)).zip [u, w, v])) :
    KBn K fd [a, b, c] 1 [c, b] (fun us ws => us ++ ws.reverse) (fun vs zs => vs ++ zs.reverse) := by
  obtain ⟨oc, od, kV, doc, pm, an, cdv, ct, osl, rfl, lk, hc⟩ := F.ex
  exact ⟨fun s us ws X l1 l2 => match us, l1, ws, l2 with | [u], _, [v, w], _ => .of_eq (hk kV doc pm an cdv ct u v w), fun r1 r2 => Vals.append r1 (Vals.reverse r2)⟩
end
end Cr

/-! Data logic, part 6: statements, defs -/
namespace Dl
open PySem PySem.Spec PyProof.Rows L2 Xv Cr
structure DEnds where
  nx : Rho → Prop
  rt : D → Prop
  bk : Rho → Prop := fun _ => False
  ct : Rho → Prop := fun _ => False
abbrev GS := DEnds → Rho → Prop
def Agr (F : Addr → Prop) (H : Hp) (F' : Addr → Prop) (H' : Hp) : Prop := (∀ b, F b → F' b) ∧ ∀ b o, nt o = true → F b → H b = some o → H' b = some o
theorem Agr.refl {F : Addr → Prop} {H : Hp} : Agr F H F H := ⟨fun _ h => h, fun _ _ _ _ h => h⟩
theorem Agr.trans {F F' F'' : Addr → Prop} {H H' H'' : Hp} (a : Agr F H F' H') (b : Agr F' H' F'' H'') : Agr F H F'' H'' := ⟨fun x h => b.1 x (a.1 x h), fun x o t f h => b.2 x o t (a.1 x f) (a.2 x o t f h)⟩
theorem Agr.of {pt F F' : Addr → Prop} {H H' : Hp} (k : Ok M pt F H) (e : Ext M pt F H F' H') : Agr F H F' H' := ⟨e.sub, fun b o t f h => e.same b o t (fun z => k.dis b z f) h⟩
/-- how a def ends: with something fixed, with a new thing, or by an own exception -/
inductive Md where
  | fixed
  | new
  | exc (E : XK)
/-- an own exception: its fields are fixed -/
def XdAt (M : Cm) (F : Addr → Prop) (H : Hp) (a : Addr) (c : Nat) (ds : List D) : Prop := ∃ vs, H a = some (.xd ((M.fn c).zip vs)) ∧ vs.length = (M.fn c).length ∧ RpA M F H vs ds
/-- how a def gives back: fixed (false), or a new thing that nothing else holds (true) -/
def RtOk (M : Cm) (pt F0 : Addr → Prop) (H0 : Hp) (m : Md) (rt : D → Prop) (q : VK) : Prop := match m with
  | .fixed => ∀ F' H' v d, Ext M pt F0 H0 F' H' → Rp M F' H' v d → rt d → q v H'
  | .new => ∀ F' H' p d, Ext M pt F0 H0 F' H' → Rb M pt F' H' (.ref p) d → Nw H0 p → ¬ F' p → rt d → q (.ref p) H'
  | .exc E => ∀ F' H' a c ds, Ext M pt F0 H0 F' H' → XdAt M F' H' a c ds → rt (.ob c ds) → E (.ref (M.ca c)) (some a) H'
structure Lk (M : Cm) (m : Md) (pt F0 : Addr → Prop) (H0 : Hp) (z0 : Gh) (F : Addr → Prop) (H : Hp) (δ : DEnds) (E : Ends) : Prop where
  nx : ∀ F' o' σ' H' ρ', En M pt F0 H0 z0 F' o' σ' H' ρ' → Agr F H F' H' → δ.nx ρ' → E.nx σ' H'
  bk : ∀ F' o' σ' H' ρ', En M pt F0 H0 z0 F' o' σ' H' ρ' → Agr F H F' H' → δ.bk ρ' → E.bk σ' H'
  ct : ∀ F' o' σ' H' ρ', En M pt F0 H0 z0 F' o' σ' H' ρ' → Agr F H F' H' → δ.ct ρ' → E.ct σ' H'
  rt : RtOk M pt F0 H0 m δ.rt E.rt
section
variable {M : Cm} {m : Md} {pt F0 : Addr → Prop} {H0 : Hp} {z0 : Gh} {F F1 : Addr → Prop} {H H1 : Hp} {δ : DEnds} {E : Ends}
theorem Lk.mono (l : Lk M m pt F0 H0 z0 F H δ E) (a : Agr F H F1 H1) : Lk M m pt F0 H0 z0 F1 H1 δ E := ⟨fun _ _ _ _ _ e b q => l.nx _ _ _ _ _ e (a.trans b) q, fun _ _ _ _ _ e b q => l.bk _ _ _ _ _ e (a.trans b) q, fun _ _ _ _ _ e b q => l.ct _ _ _ _ _ e (a.trans b) q, l.rt⟩
end
class DS (M : Cm) (m : Md) (t : TS) (g : outParam GS) : Prop where
  run : ∀ {pt F0 : Addr → Prop} {H0 : Hp} {z0 : Gh} {F : Addr → Prop} {o : Ow} {σ : L2.St} {H : Hp} {ρ : Rho} {δ : DEnds} {E : Ends}, En M pt F0 H0 z0 F o σ H ρ → Lk M m pt F0 H0 z0 F H δ E → g δ ρ → t E σ H
section
variable {M : Cm} {K : PySem.W.Frag} {m : Md} {ta tb te : TE} {ga gb ge : GE} {t u : TS} {g h : GS} {tt : TT} {gt : GT} {i j : Nat} {ws : List Nat} {tg : TG} {bd : BD}
def sNext : GS := fun δ ρ => δ.nx ρ
def sSeq (g h : GS) : GS := fun δ ρ => g { δ with nx := h δ } ρ
def sIf (gt : GT) (g h : GS) : GS := fun δ ρ => gt ρ fun c => if c = true then g δ ρ else h δ ρ
def sDrop (ga : GE) : GS := fun δ ρ => ga ρ fun _ => δ.nx ρ
def sRet (ga : GE) : GS := fun δ ρ => ga ρ δ.rt
def sRetN : GS := fun δ _ => δ.rt .non
def sNever : GS := fun _ _ => False
def sBreak : GS := fun δ ρ => δ.bk ρ
def sCont : GS := fun δ ρ => δ.ct ρ
instance : DS M m tNext sNext := ⟨fun e l q => l.nx _ _ _ _ _ e .refl q⟩
instance : DS M m tNever sNever := ⟨fun _ _ q => q.elim⟩
instance : DS M m tBreak sBreak := ⟨fun e l q => l.bk _ _ _ _ _ e .refl q⟩
instance : DS M m tCont sCont := ⟨fun e l q => l.ct _ _ _ _ _ e .refl q⟩
instance [h1 : DS M m t g] [h2 : DS M m u h] : DS M m (tSeq t u) (sSeq g h) := ⟨fun {pt F0 H0 z0 F o σ H ρ δ E} e l q =>
  h1.run (δ := { δ with nx := h δ }) e ⟨fun F' o' σ' H' ρ' e' a q' => h2.run e' (l.mono a) q', l.bk, l.ct, l.rt⟩ q⟩
instance [h0 : DTT M tt gt] [h1 : DS M m t g] [h2 : DS M m u h] : DS M m (tIfS tt t u) (sIf gt g h) := ⟨fun {pt F0 H0 z0 F o σ H ρ δ E} e l q =>
  h0.run e q fun c F1 H1 q1 x1 => by
    have l1 := l.mono (Agr.of e.ok x1)
    cases c with
    | true => exact h1.run (e.step x1) l1 q1
    | false => exact h2.run (e.step x1) l1 q1⟩
instance (priority := 50) [h1 : DB M ta ga] : DS M m (tDrop ta) (sDrop ga) := ⟨fun {pt F0 H0 z0 F o σ H ρ δ E} e l q =>
  h1.run e q fun d F1 H1 v q1 x1 _ => l.nx _ _ _ _ _ (e.step x1) (Agr.of e.ok x1) q1⟩
instance [h1 : DTc M ta ga] : DS M .fixed (tRet ta) (sRet ga) := ⟨fun {pt F0 H0 z0 F o σ H ρ δ E} e l q =>
  h1.run e q fun d F1 H1 v q1 x1 r => l.rt _ _ _ _ (e.ext.trans x1) r q1⟩
instance [h1 : DN M ta ga] : DS M .new (tRet ta) (sRet ga) := ⟨fun {pt F0 H0 z0 F o σ H ρ δ E} e l q =>
  h1.run e q fun d F1 H1 p q1 x1 r n nf => l.rt _ _ _ _ (e.ext.trans x1) r (e.ext.nw n) nf q1⟩
/-- a slot given back -/
def sRetV (i : Nat) : GS := fun δ ρ => match ρ[i]? with | some (.d x) => δ.rt x | some (.own x) => δ.rt x | some (.own2 xs) => δ.rt (.lst xs) | _ => False
def sRetO (i : Nat) : GS := fun δ ρ => match ρ[i]? with | some (.own x) => δ.rt x | _ => False
theorem set_at {i : Nat} {s s' : Sl} {ρ : Rho} (h : ρ[i]? = some s) : (ρ.set i s')[i]? = some s' := by
  rw [List.getElem?_set, if_pos rfl, if_pos (List.getElem?_eq_some_iff.mp h).1]
instance (priority := 2000) : DS M .fixed (tRet (tVar i)) (sRetV i) := ⟨fun {pt F0 H0 z0 F o σ H ρ δ E} e l q => by
  unfold sRetV at q
  split at q
  · rename_i x h
    obtain ⟨v, a, r⟩ := e.sl i _ h
    exact ⟨v, a, l.rt _ _ _ _ e.ext r q⟩
  · rename_i x h
    have e' := e.freeze h rfl
    obtain ⟨v, a, r⟩ := e'.sl i _ (set_at h)
    exact ⟨v, a, l.rt _ _ _ _ e'.ext r q⟩
  · rename_i xs h
    have e' := e.freeze h rfl
    obtain ⟨v, a, r⟩ := e'.sl i _ (set_at h)
    exact ⟨v, a, l.rt _ _ _ _ e'.ext r q⟩
  · exact q.elim⟩
instance (priority := 2000) : DS M .new (tRet (tVar i)) (sRetO i) := ⟨fun {pt F0 H0 z0 F o σ H ρ δ E} e l q => by
  unfold sRetO at q
  split at q
  · rename_i x h
    obtain ⟨a, r, n, f⟩ := e.sl i _ h
    exact ⟨_, a, l.rt _ _ _ _ e.ext r n f q⟩
  · exact q.elim⟩
instance : DS M .fixed tRetN sRetN := ⟨fun e l q => l.rt _ _ _ _ e.ext .non q⟩
/-! ### names given -/
def sAsg (ga : GE) (bd : BD) : GS := fun δ ρ => ga ρ fun x => bd x ρ δ.nx
instance [h1 : DT M ta ga] [h2 : DG M tg ws bd] : DS M m (tAsg ta tg) (sAsg ga bd) := ⟨fun {pt F0 H0 z0 F o σ H ρ δ E} e l q =>
  h1.run e q fun d F1 H1 v q1 x1 r => h2.run (e.step x1) q1 r fun σ' ρ' q2 e2 _ _ => l.nx _ _ _ _ _ e2 (Agr.of e.ok x1) q2⟩
/-- a name for a new thing that is to be changed -/
def tAsgO (te : TE) (i : Nat) : TS := tAsg te (gName i)
def sAsgO (ga : GE) (i : Nat) : GS := fun δ ρ => i ≠ 0 ∧ ga ρ fun x => δ.nx (ρ.set i (.own x))
theorem En.setNew {pt F0 : Addr → Prop} {H0 : Hp} {z0 : Gh} {F F1 : Addr → Prop} {o : Ow} {σ : L2.St} {H H1 : Hp} {ρ : Rho} {p : Addr} {d : D} (e : En M pt F0 H0 z0 F o σ H ρ) (x1 : Ext M pt F H F1 H1) (r : Rb M pt F1 H1 (.ref p) d) (n : Nw H p) (nf : ¬ F1 p) (i : Nat) (i0 : i ≠ 0) :
    En M pt F0 H0 z0 F1 (o.set i p []) (σ.set i (some (.ref p))) H1 (ρ.set i (.own d)) :=
  (e.step x1).setOwn r (e.ext.nw n) nf (fun j a _ hj z => n.no (z ▸ (e.owlOk hj).2.2.1)) i0 fun g hg z => n.no (z ▸ (rb_some (e.gh g hg).rb).1)
instance [h1 : DN M ta ga] : DS M m (tAsgO ta i) (sAsgO ga i) := ⟨fun {pt F0 H0 z0 F o σ H ρ δ E} e l ⟨i0, q⟩ =>
  h1.run e q fun d F1 H1 p q1 x1 r n nf => l.nx _ _ _ _ _ (e.setNew x1 r n nf i i0) (Agr.of e.ok x1) q1⟩
def sPar (i j : Nat) (g : GA) : GS := fun δ ρ => g ρ fun ds => match ds with | [a, b] => δ.nx ((ρ.set i (.d a)).set j (.d b)) | _ => False
instance {ta : TA} {g : GA} [h1 : DL M ta g] : DS M m (tPar i j ta) (sPar i j g) := ⟨fun {pt F0 H0 z0 F o σ H ρ δ E} e l q =>
  h1.run e q fun ds F1 H1 vs q1 x1 r => by
    split at q1
    · cases r with
      | cons r s =>
        cases s with
        | cons r2 s =>
          cases s
          exact ⟨_, _, rfl, l.nx _ _ _ _ _ (((e.step x1).set r).set r2) (Agr.of e.ok x1) q1⟩
    · exact q1.elim⟩
/-- a, b = e, f: a to be changed (ow), b to be changed (ow2) -/
def tParO (i j : Nat) (ta tb : TE) : TS := tPar i j (tCons ta (tCons tb tNil))
def tParX (i j : Nat) (ta tb : TE) : TS := tPar i j (tCons ta (tCons tb tNil))
def tParY (i j : Nat) (ta tb : TE) : TS := tPar i j (tCons ta (tCons tb tNil))
def sParX (i j : Nat) (ga gb : GE) : GS := fun δ ρ => j ≠ 0 ∧ ga ρ fun a => gb ρ fun b => δ.nx ((ρ.set i (.d a)).set j (.own b))
def sParY (i j : Nat) (ga gb : GE) : GS := fun δ ρ => i ≠ 0 ∧ ga ρ fun a => gb ρ fun b => δ.nx ((ρ.set i (.own a)).set j (.d b))
def sParO (i j : Nat) (ga gb : GE) : GS := fun δ ρ => (i ≠ 0 ∧ j ≠ 0) ∧ ga ρ fun a => gb ρ fun b => δ.nx ((ρ.set i (.own a)).set j (.own b))
instance [h1 : DT M ta ga] [h2 : DN M tb gb] : DS M m (tParX i j ta tb) (sParX i j ga gb) := ⟨fun {pt F0 H0 z0 F o σ H ρ δ E} e l ⟨ne, q⟩ =>
  h1.run e q fun a F1 H1 v q1 x1 r => h2.run (e.step x1) q1 fun b F2 H2 p q2 x2 r2 n nf => ⟨_, _, rfl, l.nx _ _ _ _ _ (((e.step x1).set r).setNew x2 r2 n nf j ne) (Agr.of e.ok (x1.trans x2)) q2⟩⟩
theorem rb_keep {pt F F' : Addr → Prop} {H H' : Hp} {v : V} {d : D} (k : Ok M pt F H) (e : Ext M pt F H F' H') {p : Addr} (hp : v = .ref p) (r : Rb M pt F H v d) (nf : ¬ F p) : ¬ F' p := fun z => by
  subst hp
  rcases e.new p z with w | w
  · exact nf w
  · exact w.no (rb_some r).1
instance [h1 : DN M ta ga] [h2 : DT M tb gb] : DS M m (tParY i j ta tb) (sParY i j ga gb) := ⟨fun {pt F0 H0 z0 F o σ H ρ δ E} e l ⟨ne, q⟩ =>
  h1.run e q fun a F1 H1 p q1 x1 r n nf => h2.run (e.step x1) q1 fun b F2 H2 v q2 x2 r2 => ⟨_, _, rfl, l.nx _ _ _ _ _ ((e.setNew (x1.trans x2) (r.ext (e.step x1).ok x2) n (rb_keep (e.step x1).ok x2 rfl r nf) i ne).set r2) (Agr.of e.ok (x1.trans x2)) q2⟩⟩
instance [h1 : DN M ta ga] [h2 : DN M tb gb] : DS M m (tParO i j ta tb) (sParO i j ga gb) := ⟨fun {pt F0 H0 z0 F o σ H ρ δ E} e l ⟨ne, q⟩ =>
  h1.run e q fun a F1 H1 p q1 x1 r n nf => h2.run (e.step x1) q1 fun b F2 H2 p2 q2 x2 r2 n2 nf2 => ⟨_, _, rfl, l.nx _ _ _ _ _ ((e.setNew x1 r n nf i ne.1).setNew x2 r2 n2 nf2 j ne.2) (Agr.of e.ok (x1.trans x2)) q2⟩⟩
/-! ### what is changed becomes fixed -/
def tFrz (_ : List Nat) (t : TS) : TS := t
def frz (ρ : Rho) : List Nat → Rho
  | [] => ρ
  | i :: is => match ρ[i]? with | some (.own x) => frz (ρ.set i (.d x)) is | some (.own2 xs) => frz (ρ.set i (.d (.lst xs))) is | _ => frz ρ is
def sFrz (is : List Nat) (g : GS) : GS := fun δ ρ => g δ (frz ρ is)
theorem En.frz {pt F0 : Addr → Prop} {H0 : Hp} {z0 : Gh} {H : Hp} {o : Ow} {σ : L2.St} : ∀ {is : List Nat} {F : Addr → Prop} {ρ : Rho}, En M pt F0 H0 z0 F o σ H ρ → ∃ F', En M pt F0 H0 z0 F' o σ H (Dl.frz ρ is) ∧ Agr F H F' H
  | [], F, _, e => ⟨F, e, .refl⟩
  | i :: is, F, ρ, e => by
    unfold Dl.frz
    split
    · rename_i x hx
      obtain ⟨F', e', a⟩ := En.frz (is := is) (e.freeze hx rfl)
      exact ⟨F', e', ⟨fun b f => a.1 b (.inl f), fun b o t f h => a.2 b o t (.inl f) h⟩⟩
    · rename_i x hx
      obtain ⟨F', e', a⟩ := En.frz (is := is) (e.freeze hx rfl)
      exact ⟨F', e', ⟨fun b f => a.1 b (.inl f), fun b o t f h => a.2 b o t (.inl f) h⟩⟩
    · exact En.frz (is := is) e
instance {is : List Nat} [h1 : DS M m t g] : DS M m (tFrz is t) (sFrz is g) := ⟨fun {pt F0 H0 z0 F o σ H ρ δ E} e l q => by
  obtain ⟨F', e', a⟩ := e.frz (is := is)
  exact h1.run e' (l.mono a) q⟩
theorem ps_frz {X : Cx} {st : Stmt} (is : List Nat) (h : PS X st t) : PS X st (tFrz is t) := h
/-! ### lists that are changed -/
def sApp (i : Nat) (ga : GE) : GS := fun δ ρ => match ρ[i]? with | some (.own (.lst xs)) => ga ρ fun d => xs.length < 16777216 ∧ δ.nx (ρ.set i (.own (.lst (xs ++ [d])))) | _ => False
theorem Agr.mut {pt F0 F : Addr → Prop} {H0 H : Hp} {z0 : Gh} {o : Ow} {σ : L2.St} {ρ : Rho} {x : D} (e : En M pt F0 H0 z0 F o σ H ρ) (h : ρ[i]? = some (.own x)) {w : HO} : Agr F H F (upd H (o.a i) w) := by
  obtain ⟨_, _, _, f⟩ := e.sl i _ h
  exact ⟨fun _ z => z, fun b u _ fb eb => by rw [upd_ne (fun (z : b = o.a i) => f (z ▸ fb))]; exact eb⟩
theorem up_mut {pt F0 F : Addr → Prop} {H0 H : Hp} {z0 : Gh} {o : Ow} {σ : L2.St} {ρ : Rho} {x : D} (e : En M pt F0 H0 z0 F o σ H ρ) (h : ρ[i]? = some (.own x)) {w : HO} : ∀ b u, nt u = true → F b → H b = some u → F b ∧ upd H (o.a i) w b = some u := fun b u t fb eb => ⟨fb, (Agr.mut e h).2 b u t fb eb⟩
instance [h1 : DT M ta ga] : DS M m (tDrop (tBM K "list" rAppend (tVar i) (tCons ta tNil))) (sApp i ga) := ⟨fun {pt F0 H0 z0 F o σ H ρ δ E} e l q => by
  unfold sApp at q
  split at q
  · rename_i xs hx
    obtain ⟨a, ⟨b, vs, z, np, hz, rv⟩, n, f⟩ := e.sl i _ hx
    cases z
    refine ⟨_, a, .inl ⟨rfl, _, SqL.of hz⟩, h1.run e q fun d F1 H1 v q1 x1 r => ?_⟩
    have e1 := e.step x1
    obtain ⟨_, ⟨b, vs1, z, _, hz1, rv1⟩, _, _⟩ := e1.sl i _ hx
    cases z
    refine ⟨_, vs1, v, rfl, rfl, hz1, by rw [rv1.length, sizeLine_eq]; exact q1.1, ?_⟩
    have r' : Rb M pt F1 (upd H1 (o.a i) (.lst (vs1 ++ [v]))) (.ref (o.a i)) (.lst (xs ++ [d])) := ⟨_, _, rfl, np, upd_same, (rv1.up (up_mut e1 hx)).app (.one (r.up (up_mut e1 hx)))⟩
    exact l.nx _ _ _ _ _ (e1.mut hx r') ((Agr.of e.ok x1).trans (Agr.mut e1 hx)) q1.2
  · exact q.elim⟩
/-- found.append(left.pop(k)) -/
def sAppPop (i j : Nat) (ga : GE) : GS := fun δ ρ => match ρ[i]?, ρ[j]? with
  | some (.own (.lst xs)), some (.own (.lst ys)) => i ≠ j ∧ ga ρ fun d => ∃ (k : Int) (n : Nat) (y : D), d = .int k ∧ 0 ≤ k ∧ k < 1000000000 ∧ n = k.toNat ∧ ys[n]? = some y ∧ xs.length < 16777216 ∧ δ.nx ((ρ.set j (.own (.lst (ys.eraseIdx n)))).set i (.own (.lst (xs ++ [y]))))
  | _, _ => False
instance [h1 : DB M ta ga] : DS M m (tDrop (tBM K "list" rAppend (tVar i) (tCons (tBM K "list" rPopAt (tVar j) (tCons ta tNil)) tNil))) (sAppPop i j ga) := ⟨fun {pt F0 H0 z0 F o σ H ρ δ E} e l q => by
  unfold sAppPop at q
  split at q
  · rename_i xs ys hx hy
    obtain ⟨ne, q⟩ := q
    obtain ⟨a, ⟨b, vs, z, np, hz, rv⟩, n, f⟩ := e.sl i _ hx
    cases z
    obtain ⟨a', ⟨b, us, z, np', hz', ru⟩, n', f'⟩ := e.sl j _ hy
    cases z
    refine ⟨_, a, .inl ⟨rfl, _, SqL.of hz⟩, _, a', .inl ⟨rfl, _, SqL.of hz'⟩, h1.run e q fun d F1 H1 v q1 x1 r => ?_⟩
    obtain ⟨k, nn, y, rfl, k0, k1, rfl, hk, hl, q2⟩ := q1
    cases rb_int r
    have e1 := e.step x1
    obtain ⟨_, ⟨b, vs1, z, _, hz1, rv1⟩, _, _⟩ := e1.sl i _ hx
    cases z
    obtain ⟨_, ⟨b, us1, z, _, hu1, ru1⟩, _, _⟩ := e1.sl j _ hy
    cases z
    obtain ⟨vy, hvy, ry⟩ := ru1.get hk
    have kl := (List.getElem?_eq_some_iff.mp hvy).1
    refine ⟨o.a j, us1, k, k.toNat, vy, rfl, rfl, hu1, by omega, by omega, by
      have a : ¬ k < 0 := by omega
      unfold seqIndex?
      simp only [if_neg a]
      rw [if_pos (by rw [decide_eq_true k0, decide_eq_true (by omega)]; rfl)], hvy, ?_⟩
    have oij : o.a i ≠ o.a j := fun z => ne (e1.dj i j (o.a i) (by rw [owl_own hx]; exact List.mem_cons_self) (by rw [owl_own hy, z]; exact List.mem_cons_self))
    have r' : Rb M pt F1 (upd H1 (o.a j) (.lst (us1.eraseIdx k.toNat))) (.ref (o.a j)) (.lst (ys.eraseIdx k.toNat)) := ⟨_, _, rfl, np', upd_same, (ru1.up (up_mut e1 hy)).ers⟩
    have e2 := e1.mut hy r'
    have hx2 : (ρ.set j (.own (.lst (ys.eraseIdx k.toNat))))[i]? = some (.own (.lst xs)) := by rw [List.getElem?_set, if_neg (Ne.symm ne)]; exact hx
    refine ⟨o.a i, vs1, vy, rfl, rfl, by rw [upd_ne oij]; exact hz1, by rw [rv1.length, sizeLine_eq]; exact hl, ?_⟩
    have r2 : Rb M pt F1 (upd (upd H1 (o.a j) (.lst (us1.eraseIdx k.toNat))) (o.a i) (.lst (vs1 ++ [vy]))) (.ref (o.a i)) (.lst (xs ++ [y])) := ⟨_, _, rfl, np, upd_same, ((rv1.up (up_mut e1 hy)).up (up_mut e2 hx2)).app (.one ((ry.up (up_mut e1 hy)).up (up_mut e2 hx2)))⟩
    exact l.nx _ _ _ _ _ (e2.mut hx2 r2) (((Agr.of e.ok x1).trans (Agr.mut e1 hy)).trans (Agr.mut e2 hx2)) q2
  · exact q.elim⟩
def sMut (i : Nat) (f : List D → List D) : GS := fun δ ρ => match ρ[i]? with | some (.own (.lst xs)) => δ.nx (ρ.set i (.own (.lst (f xs)))) | _ => False
theorem run_mut0 {r : V → List V → Hp → VK → Prop} {f : List D → List D} {fv : List V → List V} (hr : ∀ a xs H Q, H a = some (.lst xs) → Q .non (upd H a (.lst (fv xs))) → r (.ref a) [] H Q) (hf : ∀ (F : Addr → Prop) H vs ds, RpA M F H vs ds → RpA M F H (fv vs) (f ds)) : DS M m (tDrop (tBM0 K "list" r (tVar i))) (sMut i f) := ⟨fun {pt F0 H0 z0 F o σ H ρ δ E} e l q => by
  unfold sMut at q
  split at q
  · rename_i xs hx
    obtain ⟨a, ⟨b, vs, z, np, hz, rv⟩, n, ff⟩ := e.sl i _ hx
    cases z
    refine ⟨_, a, .inl ⟨rfl, _, SqL.of hz⟩, hr _ _ _ _ hz ?_⟩
    have r' : Rb M pt F (upd H (o.a i) (.lst (fv vs))) (.ref (o.a i)) (.lst (f xs)) := ⟨_, _, rfl, np, upd_same, hf _ _ _ _ (rv.up (up_mut e hx))⟩
    exact l.nx _ _ _ _ _ (e.mut hx r') (Agr.mut e hx) q
  · exact q.elim⟩
instance : DS M m (tDrop (tBM0 K "list" rReverse (tVar i))) (sMut i List.reverse) := run_mut0 (fv := List.reverse) (fun a xs H Q e q => ⟨a, xs, rfl, rfl, e, q⟩) fun _ _ _ _ h => h.rev
instance : DS M m (tDrop (tBM0 K "list" rClear (tVar i))) (sMut i fun _ => []) := run_mut0 (fv := fun _ => []) (fun a xs H Q e q => ⟨a, xs, rfl, rfl, e, q⟩) fun _ _ _ _ _ => .nil
/-! ### a field of one's own new object -/
def sFldS (M : Cm) (K : PySem.W.Frag) (i : Nat) (f : Str) (ga : GE) : GS := fun δ ρ => ga ρ fun d => ∃ c xs, ρ[i]? = some (.own (.ob c xs)) ∧ Cls K (M.ca c) ∧ NoAttr K (M.ca c) f ∧ (M.fn c)[xs.length]? = some f ∧ (M.fn c).length ≤ 100 ∧ (∀ j, j < xs.length → (M.fn c)[j]? ≠ some f) ∧ δ.nx (ρ.set i (.own (.ob c (xs ++ [d]))))
theorem putF_zip {f : Str} {v : V} : ∀ {ns : List Str} {vs : List V}, ns[vs.length]? = some f → (∀ j, j < vs.length → ns[j]? ≠ some f) → putF f v (ns.zip vs) = ns.zip (vs ++ [v])
  | [], _, h, _ => by simp at h
  | a :: ns, [], h, _ => by
    simp only [List.length_nil, List.getElem?_cons_zero, Option.some.injEq] at h
    subst h
    simp [putF]
  | a :: ns, b :: vs, h, n => by
    have na : a ≠ f := fun z => n 0 (by simp) (by rw [z]; rfl)
    simp only [List.zip_cons_cons, List.cons_append, putF, if_neg na]
    rw [putF_zip (by simpa using h) fun j hj z => n (j + 1) (by simpa using hj) (by simpa using z)]
instance {f : Str} [h1 : DT M ta ga] : DS M m (sFld K (tVar i) ta f) (sFldS M K i f ga) := ⟨fun {pt F0 H0 z0 F o σ H ρ δ E} e l q =>
  h1.run e q fun d F1 H1 v q1 x1 r => by
    obtain ⟨c, xs, hx, z1, z2, z3, z4, z5, q2⟩ := q1
    have e1 := e.step x1
    obtain ⟨a, ⟨b, dx, vs, z, np, hz, hl, rv⟩, n, f'⟩ := e1.sl i _ hx
    cases z
    refine ⟨_, a, o.a i, _, dx, _, rfl, hz, z1, z2, ?_, ?_⟩
    · rw [List.length_zip]
      omega
    · have pz : putF f v ((M.fn c).zip vs) = (M.fn c).zip (vs ++ [v]) := putF_zip (by rw [rv.length]; exact z3) fun j hj => z5 j (by rw [← rv.length]; exact hj)
      have hlt := (List.getElem?_eq_some_iff.mp z3).1
      rw [pz]
      have r' : Rb M pt F1 (upd H1 (o.a i) (.ins (M.ca c) dx ((M.fn c).zip (vs ++ [v])))) (.ref (o.a i)) (.ob c (xs ++ [d])) := ⟨_, dx, _, rfl, np, upd_same, by rw [List.length_append, rv.length]; exact hlt, (rv.up (up_mut e1 hx)).app (.one (r.up (up_mut e1 hx)))⟩
      exact l.nx _ _ _ _ _ (e1.mut hx r') ((Agr.of e.ok x1).trans (Agr.mut e1 hx)) q2⟩
/-! ### for -/
def forGo (bd : BD) (g : GS) (δ : DEnds) : List D → Rho → Prop
  | [], ρ => δ.nx ρ
  | x :: xs, ρ => bd x ρ fun ρ2 => g { nx := forGo bd g δ xs, rt := δ.rt, bk := δ.nx, ct := forGo bd g δ xs } ρ2
def sFor (gi : GA) (bd : BD) (g : GS) : GS := fun δ ρ => gi ρ fun ds => forGo bd g δ ds ρ
instance {wi : TI} {gi : GA} [h0 : DI M wi gi] [h1 : DG M tg ws bd] [h2 : DS M m t g] : DS M m (tFor wi tg t) (sFor gi bd g) := ⟨fun {pt F0 H0 z0 F o σ H ρ δ E} e l q =>
  h0.run e q fun ds F1 H1 J q1 x1 it => by
    obtain ⟨G, Y, w, st, yl⟩ := it.ex
    have e1 := e.step x1
    refine for_it w (fun i σ' H' => ∃ Fi oi ρi, En M pt F0 H0 z0 Fi oi σ' H' ρi ∧ Agr F1 H1 Fi H' ∧ forGo bd g δ (ds.drop i) ρi) ⟨F1, o, ρ, e1, .refl, q1⟩ (fun i σ' H' _ ⟨Fi, oi, ρi, _, a, _⟩ => st H' a.2) (fun i x σ' H' H'' hlt p y => ?_) (fun σ' H' p => ?_)
    · obtain ⟨Fi, oi, ρi, ei, a, q2⟩ := p
      obtain ⟨d, F3, hd, x3, rd⟩ := yl i Fi H' x H'' hlt ei.ok a.1 a.2 y
      have e3 := ei.step x3
      have a3 := a.trans (Agr.of ei.ok x3)
      have ed : ds.drop i = d :: ds.drop (i + 1) := by
        obtain ⟨hlt', rfl⟩ := List.getElem?_eq_some_iff.mp hd
        exact List.drop_eq_getElem_cons hlt'
      rw [ed] at q2
      refine h1.run e3 q2 rd fun σ2 ρ2 q4 e4 _ _ => ?_
      refine h2.run (δ := { nx := forGo bd g δ (ds.drop (i + 1)), rt := δ.rt, bk := δ.nx, ct := forGo bd g δ (ds.drop (i + 1)) }) e4 ⟨fun F' o' σ5 H5 ρ5 e5 a5 q5 => ⟨F', o', ρ5, e5, a3.trans a5, q5⟩, fun F' o' σ5 H5 ρ5 e5 a5 q5 => ?_, fun F' o' σ5 H5 ρ5 e5 a5 q5 => ⟨F', o', ρ5, e5, a3.trans a5, q5⟩, l.rt⟩ q4
      exact l.nx _ _ _ _ _ e5 ((Agr.of e.ok x1).trans (a3.trans a5)) q5
    · obtain ⟨Fi, oi, ρi, ei, a, q2⟩ := p
      rw [List.drop_length] at q2
      exact l.nx _ _ _ _ _ ei ((Agr.of e.ok x1).trans a) q2⟩
end
/-! ### defs -/
def slK : Kd → D → Sl
  | .full, d => .d d
  | .bor, d => .b d
  | .pot, _ => .pot
def startR : List Kd → List D → List Sl
  | k :: ks, d :: ds => slK k d :: startR ks ds
  | _, _ => []
theorem startR_len {M : Cm} {pt F : Addr → Prop} {H : Hp} : ∀ {ks : List Kd} {vs : List V} {ds : List D}, RA M pt F H ks vs ds → (startR ks ds).length = vs.length
  | _, _, _, .nil => rfl
  | _, _, _, .full _ s => congrArg (· + 1) (startR_len s)
  | _, _, _, .bor _ s => congrArg (· + 1) (startR_len s)
  | _, _, _, .pot _ s => congrArg (· + 1) (startR_len s)
theorem startR_at {M : Cm} {pt F : Addr → Prop} {H : Hp} {o : Ow} : ∀ {ks : List Kd} {vs : List V} {ds : List D} {rest : L2.St} {i : Nat} {s : Sl}, RA M pt F H ks vs ds → (startR ks ds)[i]? = some s → SlOk M pt F H o (vs.map some ++ rest) H i s
  | _, _, _, _, _, _, .nil, h => by simp [startR] at h
  | _, _, _, _, 0, _, .full r s, h => by cases h; exact ⟨_, rfl, r⟩
  | _, _, _, _, 0, _, .bor (v := v) r s, h => by cases h; exact ⟨_, rfl, r, fun a z => (rb_some (z ▸ r)).1⟩
  | _, _, _, _, 0, _, .pot r s, h => by cases h; exact ⟨_, rfl, r⟩
  | _, _, _, rest, i + 1, s, .full r k, h => by
    have := startR_at (rest := rest) (o := ⟨fun j => o.a (j + 1), fun j => o.c (j + 1)⟩) k h
    cases s <;> exact this
  | _, _, _, rest, i + 1, s, .bor r k, h => by
    have := startR_at (rest := rest) (o := ⟨fun j => o.a (j + 1), fun j => o.c (j + 1)⟩) k h
    cases s <;> exact this
  | _, _, _, rest, i + 1, s, .pot r k, h => by
    have := startR_at (rest := rest) (o := ⟨fun j => o.a (j + 1), fun j => o.c (j + 1)⟩) k h
    cases s <;> exact this
theorem slK_no {k : Kd} {d : D} : NoOw (slK k d) := by
  cases k <;> exact fun _ _ => rfl
theorem startR_no {s : Sl} : ∀ {i : Nat} {ks : List Kd} {ds : List D}, (startR ks ds)[i]? = some s → NoOw s
  | 0, k :: ks, d :: ds, h => by cases h; exact slK_no
  | i + 1, k :: ks, d :: ds, h => startR_no (i := i) (ks := ks) (ds := ds) h
  | _, [], _, h => by simp [startR] at h
  | _, _ :: _, [], h => by simp [startR] at h
def rho0 (ks : List Kd) (ds : List D) (n : Nat) : Rho := startR ks ds ++ List.replicate n .no
section
variable {M : Cm} {P : Program} {w : World} {K : PySem.W.Frag} {mg : Str → Option Value} {base : Heap} {x qual : Str} {st : Stmt} {f : Addr} {fd : FuncData} {N ps : List Str} {k : Nat} {ks : List Kd} {fn : List D → (D → Prop) → Prop}
theorem en_start {pt F : Addr → Prop} {H : Hp} {vs : List V} {ds : List D} (ok : Ok M pt F H) (r : RA M pt F H ks vs ds) : En M pt F H ⟨0, []⟩ F ⟨fun _ => 0, fun _ => []⟩ (L2.start N vs) H (rho0 ks ds (N.length - ks.length)) := by
  have hl := startR_len r
  have hk := r.length
  have no : ∀ (i : Nat) (s : Sl), (rho0 ks ds (N.length - ks.length))[i]? = some s → NoOw s := fun i s h => by
    unfold rho0 at h
    by_cases hi : i < (startR ks ds).length
    · rw [List.getElem?_append_left hi] at h
      exact startR_no h
    · rw [List.getElem?_append_right (by omega), List.getElem?_replicate] at h
      split at h
      · cases h; exact fun _ _ => rfl
      · cases h
  refine ⟨ok, .refl ok, ?_, fun i s h => ?_, fun i j x h1 => ?_, rfl, fun _ h => nomatch h⟩
  · unfold L2.start rho0
    rw [List.length_append, List.length_append, List.length_map, List.length_replicate, List.length_replicate, hl, hk]
  · unfold rho0 at h
    by_cases hi : i < (startR ks ds).length
    · rw [List.getElem?_append_left hi] at h
      exact startR_at r h
    · rw [List.getElem?_append_right (by omega), List.getElem?_replicate] at h
      split at h
      · cases h; trivial
      · cases h
  · obtain ⟨s, hs, h1⟩ := owl_mem h1
    rw [no i s hs] at h1
    cases h1
theorem okD (F : Fun K x qual st f fd) (S : FnScope N ps (defScope st)) (hk : ks.length = ps.length)
    (hb : ∀ (cdv : Value) (A : Around) (outer : List Env) (s : Shared) (H : Hp), Room k (A.deeper (envOfC qual (defScope st) s.heap.objs.size f cdv)) → (A.deeper (envOfC qual (defScope st) s.heap.objs.size f cdv)).guards = some [] →
      ∃ t g, PSs (cxOf CX0 P w K mg base N qual (defScope st) f cdv A outer s H E0).nox (defBody st) t ∧ DS M .fixed t g ∧ ∀ ds P, fn ds P → g { nx := fun _ => P .non, rt := P } (rho0 ks ds (N.length - ks.length))) : FnG P w K mg base (k + 1) f fd ps (spD M ks fn) := by
  refine Xv.Fun.okG F S (fun vs H Q E h => ?_) (fun cdv A outer s H vs Q hr hgd h => ?_)
  · obtain ⟨pt, F, ds, P, _, r, _⟩ := h
    rw [r.length, hk]
  · obtain ⟨pt, F, ds, P', ok, r, hf, kk⟩ := h
    obtain ⟨t, g, hp, hd, hg⟩ := hb cdv A outer s H hr hgd
    exact ⟨t, hp, hd.run (δ := { nx := fun _ => P' .non, rt := P' }) (en_start ok r) ⟨fun F' o' σ' H' ρ' e' _ q => kk .non F' H' .non q e'.ext .non, fun _ _ _ _ _ _ _ q => q.elim, fun _ _ _ _ _ _ _ q => q.elim, fun F' H' v d x r q => kk d F' H' v q x r⟩ (hg ds P' hf)⟩
theorem okN (F : Fun K x qual st f fd) (S : FnScope N ps (defScope st)) (hk : ks.length = ps.length)
    (hb : ∀ (cdv : Value) (A : Around) (outer : List Env) (s : Shared) (H : Hp), Room k (A.deeper (envOfC qual (defScope st) s.heap.objs.size f cdv)) → (A.deeper (envOfC qual (defScope st) s.heap.objs.size f cdv)).guards = some [] →
      ∃ t g, PSs (cxOf CX0 P w K mg base N qual (defScope st) f cdv A outer s H E0).nox (defBody st) t ∧ DS M .new t g ∧ ∀ ds P, fn ds P → g { nx := fun _ => False, rt := P } (rho0 ks ds (N.length - ks.length))) : FnG P w K mg base (k + 1) f fd ps (spN M ks fn) := by
  refine Xv.Fun.okG F S (fun vs H Q E h => ?_) (fun cdv A outer s H vs Q hr hgd h => ?_)
  · obtain ⟨pt, F, ds, P, _, r, _⟩ := h
    rw [r.length, hk]
  · obtain ⟨pt, F, ds, P', ok, r, hf, kk⟩ := h
    obtain ⟨t, g, hp, hd, hg⟩ := hb cdv A outer s H hr hgd
    exact ⟨t, hp, hd.run (δ := { nx := fun _ => False, rt := P' }) (en_start ok r) ⟨fun _ _ _ _ _ _ _ q => q.elim, fun _ _ _ _ _ _ _ q => q.elim, fun _ _ _ _ _ _ _ q => q.elim, fun F' H' p d x r n nf q => kk d F' H' p q x r n nf⟩ (hg ds P' hf)⟩
/-- .. of defs that don't hang on what is being shown -/
theorem okD0 (F : Fun K x qual st f fd) (S : FnScope N ps (defScope st)) (hk : ks.length = ps.length)
    (hb : ∀ (cdv : Value) (A : Around) (outer : List Env) (s : Shared) (H : Hp) (E : XK), Room k (A.deeper (envOfC qual (defScope st) s.heap.objs.size f cdv)) →
      ∃ t g, PSs (cxOf CX0 P w K mg base N qual (defScope st) f cdv A outer s H E).nox (defBody st) t ∧ DS M .fixed t g ∧ ∀ ds P, fn ds P → g { nx := fun _ => P .non, rt := P } (rho0 ks ds (N.length - ks.length))) : FnOk P w K mg base CX0 (k + 1) f fd ps (spD M ks fn) := by
  refine F.ok S (fun vs H Q E h => ?_) (fun cdv A outer s H vs Q E hr h => ?_)
  · obtain ⟨pt, F, ds, P, _, r, _⟩ := h
    rw [r.length, hk]
  · obtain ⟨pt, F, ds, P', ok, r, hf, kk⟩ := h
    obtain ⟨t, g, hp, hd, hg⟩ := hb cdv A outer s H E hr
    exact ⟨t, hp, hd.run (δ := { nx := fun _ => P' .non, rt := P' }) (en_start ok r) ⟨fun F' o' σ' H' ρ' e' _ q => kk .non F' H' .non q e'.ext .non, fun _ _ _ _ _ _ _ q => q.elim, fun _ _ _ _ _ _ _ q => q.elim, fun F' H' v d x r q => kk d F' H' v q x r⟩ (hg ds P' hf)⟩
theorem okN0 (F : Fun K x qual st f fd) (S : FnScope N ps (defScope st)) (hk : ks.length = ps.length)
    (hb : ∀ (cdv : Value) (A : Around) (outer : List Env) (s : Shared) (H : Hp) (E : XK), Room k (A.deeper (envOfC qual (defScope st) s.heap.objs.size f cdv)) →
      ∃ t g, PSs (cxOf CX0 P w K mg base N qual (defScope st) f cdv A outer s H E).nox (defBody st) t ∧ DS M .new t g ∧ ∀ ds P, fn ds P → g { nx := fun _ => False, rt := P } (rho0 ks ds (N.length - ks.length))) : FnOk P w K mg base CX0 (k + 1) f fd ps (spN M ks fn) := by
  refine F.ok S (fun vs H Q E h => ?_) (fun cdv A outer s H vs Q E hr h => ?_)
  · obtain ⟨pt, F, ds, P, _, r, _⟩ := h
    rw [r.length, hk]
  · obtain ⟨pt, F, ds, P', ok, r, hf, kk⟩ := h
    obtain ⟨t, g, hp, hd, hg⟩ := hb cdv A outer s H E hr
    exact ⟨t, hp, hd.run (δ := { nx := fun _ => False, rt := P' }) (en_start ok r) ⟨fun _ _ _ _ _ _ _ q => q.elim, fun _ _ _ _ _ _ _ q => q.elim, fun _ _ _ _ _ _ _ q => q.elim, fun F' H' p d x r n nf q => kk d F' H' p q x r n nf⟩ (hg ds P' hf)⟩
/-- an __init__ -/
def initNx (P : D → Prop) (ρ : Rho) : Prop := match (ρ[0]? : Option Sl) with | some (Sl.own d) => P d | _ => False
theorem okI {c : Nat} (F : Fun K x qual st f fd) (S : FnScope N ps (defScope st)) (hk : ks.length + 1 = ps.length)
    (hb : ∀ (cdv : Value) (A : Around) (outer : List Env) (s : Shared) (H : Hp) (E : XK), Room k (A.deeper (envOfC qual (defScope st) s.heap.objs.size f cdv)) →
      ∃ t g, PSs (cxOf CX0 P w K mg base N qual (defScope st) f cdv A outer s H E).nox (defBody st) t ∧ DS M .fixed t g ∧ ∀ ds P, fn ds P → g { nx := initNx P, rt := fun _ => False } (.own (.ob c []) :: rho0 ks ds (N.length - (ks.length + 1)))) : FnOk P w K mg base CX0 (k + 1) f fd ps (spI M c ks fn) := by
  refine F.ok S (fun vs H Q E h => ?_) (fun cdv A outer s H vs Q E hr h => ?_)
  · obtain ⟨pt, F, H1, x, dx, us, ds, P, rfl, _, _, _, _, _, r, _⟩ := h
    rw [List.length_cons, r.length, hk]
  · obtain ⟨pt, F, H1, x, dx, us, ds, P', rfl, ok, nx, nd, ne, rfl, r, hf, kk⟩ := h
    obtain ⟨t, g, hp, hd, hg⟩ := hb cdv A outer s _ E hr
    have x1 := Ext.put0 (F := F) ok (o := .own x) nd
    have nx2 : upd H1 dx (.own x) x = none := by rw [upd_ne ne.symm]; exact nx
    have x2 := x1.trans (Ext.put0 (F := F) (ok.ext x1) (o := .ins (M.ca c) dx []) nx2)
    have e0 := en_start (N := N.drop 1) ok r
    have hN : N.drop 1 = N.drop 1 := rfl
    have e1 : En M pt F H1 ⟨x, []⟩ F ⟨fun _ => x, fun _ => []⟩ (L2.start N (.ref x :: us)) (upd (upd H1 dx (.own x)) x (.ins (M.ca c) dx [])) (.own (.ob c []) :: rho0 ks ds (N.length - (ks.length + 1))) := by
      have rr := r.ext ok x2
      have hl := startR_len rr
      have hkk := rr.length
      refine ⟨ok, x2, ?_, fun i s h => ?_, fun i j u h1 h2 => ?_, rfl, fun _ h => nomatch h⟩
      · unfold L2.start rho0
        simp only [List.length_cons, List.length_append, List.length_map, List.length_replicate, hl, hkk]
        omega
      · cases i with
        | zero =>
          cases h
          exact ⟨rfl, ⟨x, dx, [], rfl, ok.not_pt nx, by rw [upd_same]; simp, Nat.zero_le _, .nil⟩, .of nx, fun z => (ok.liv x z).ne nx⟩
        | succ i =>
          have h : (rho0 ks ds (N.length - (ks.length + 1)))[i]? = some s := h
          unfold rho0 at h
          by_cases hi : i < (startR ks ds).length
          · rw [List.getElem?_append_left hi] at h
            have q := startR_at (rest := List.replicate (N.length - (us.length + 1)) none) (o := ⟨fun _ => x, fun _ => []⟩) r h
            cases s with
            | no => trivial
            | d y => exact let ⟨v, a, b⟩ := q; ⟨v, a, b.ext ok x2⟩
            | b y => exact let ⟨v, a, b, n⟩ := q; ⟨v, a, b.ext ok x2, n⟩
            | own y => exact absurd (startR_no h ⟨fun _ => 0, fun _ => []⟩ 0) (fun z => nomatch z)
            | own2 y => exact absurd (startR_no h ⟨fun _ => 0, fun _ => []⟩ 0) (fun z => nomatch z)
            | kset P' w' l => exact absurd (startR_no h ⟨fun _ => 0, fun _ => []⟩ 0) (fun z => nomatch z)
            | pot => exact q
            | raw y => exact q
            | exc c ys a dd => exact let ⟨h1, h2, vs, h3, h4, h5⟩ := q; ⟨h1, h2, vs, x2.same _ _ rfl h2 h3, h4, h5.ext ok x2⟩
          · rw [List.getElem?_append_right (by omega), List.getElem?_replicate] at h
            split at h
            · cases h; trivial
            · cases h
      · have no : ∀ {i : Nat} {u : Addr}, u ∈ owl ⟨fun _ => x, fun _ => []⟩ (Sl.own (.ob c []) :: rho0 ks ds (N.length - (ks.length + 1))) i → i = 0 := fun {i u} h => by
          cases i with
          | zero => rfl
          | succ i =>
            have nn : ∀ s : Sl, (rho0 ks ds (N.length - (ks.length + 1)))[i]? = some s → NoOw s := fun s h => by
              unfold rho0 at h
              by_cases hi : i < (startR ks ds).length
              · rw [List.getElem?_append_left hi] at h
                exact startR_no h
              · rw [List.getElem?_append_right (by omega), List.getElem?_replicate] at h
                split at h
                · cases h; exact fun _ _ => rfl
                · cases h
            obtain ⟨s, hs, h⟩ := owl_mem h
            rw [nn s hs] at h
            cases h
        rw [no h1, no h2]
    refine ⟨t, hp, hd.run (δ := { nx := initNx P', rt := fun _ => False }) e1 ⟨fun F' o' σ' H' ρ' e' _ q => ?_, fun _ _ _ _ _ _ _ q => q.elim, fun _ _ _ _ _ _ _ q => q.elim, fun _ _ _ _ _ _ q => q.elim⟩ (hg ds P' hf)⟩
    have q : initNx P' ρ' := q
    unfold initNx at q
    split at q
    · rename_i d h0
      obtain ⟨_, r', _, nf⟩ := e'.sl 0 _ h0
      have zr : o'.a 0 = x := e'.zr
      rw [zr] at r' nf
      exact kk d F' H' q e'.ext r' nf
    · exact q.elim
end
end Dl

/-! Data logic, part 7: lemmas for loops over data -/
namespace Dl
open PySem PySem.Spec PyProof.Rows L2 Xv Cr
theorem lcGo_opt {α : Type} {st : D → (Option D → Prop) → Prop} {f : α → D} {h : α → Option D} {P : D → Prop} : ∀ {xs : List α} {acc : List D}, (∀ x ∈ xs, ∀ k : Option D → Prop, k (h x) → st (f x) k) → P (.lst (acc ++ xs.filterMap h)) → lcGo st (xs.map f) acc P
  | [], acc, _, q => by
    rw [List.filterMap_nil, List.append_nil] at q
    exact q
  | x :: xs, acc, hs, q => by
    refine hs x List.mem_cons_self _ (lcGo_opt (xs := xs) (fun y hy => hs y (List.mem_cons_of_mem _ hy)) ?_)
    rw [List.filterMap_cons] at q
    cases e : h x with
    | none => rw [e] at q; rw [Option.toList_none, List.append_nil]; exact q
    | some d => rw [e] at q; rw [Option.toList_some, List.append_assoc]; exact q
theorem lcGo_map {α : Type} {st : D → (Option D → Prop) → Prop} {f : α → D} {h : α → D} {P : D → Prop} {xs : List α} {acc : List D} (hs : ∀ x ∈ xs, ∀ k : Option D → Prop, k (some (h x)) → st (f x) k) (q : P (.lst (acc ++ xs.map h))) : lcGo st (xs.map f) acc P :=
  lcGo_opt (h := fun x => some (h x)) hs (by rw [show xs.filterMap (fun x => some (h x)) = xs.map h from by rw [← List.filterMap_eq_map]; rfl]; exact q)
/-- each turn gives some of what R allows -/
theorem lcGo_rel {α β : Type} {st : D → (Option D → Prop) → Prop} {f : α → D} {h : β → D} {R : α → β → Prop} {P : D → Prop} : ∀ {xs : List α} {acc : List D}, (∀ x ∈ xs, ∀ k : Option D → Prop, (∀ y, R x y → k (some (h y))) → st (f x) k) → (∀ ys : List β, Paired R xs ys → P (.lst (acc ++ ys.map h))) → lcGo st (xs.map f) acc P
  | [], acc, _, q => by
    have := q [] .nil
    rw [List.map_nil, List.append_nil] at this
    exact this
  | x :: xs, acc, hs, q => by
    refine hs x List.mem_cons_self _ fun y hy => lcGo_rel (xs := xs) (R := R) (h := h) (fun z hz => hs z (List.mem_cons_of_mem _ hz)) fun ys p => ?_
    have := q (y :: ys) (.cons hy p)
    rw [Option.toList_some, List.append_assoc]
    exact this
/-- an invariant by what is done -/
theorem forGo_inv {bd : BD} {g : GS} {δ : DEnds} {α : Type} {f : α → D} {xs : List α} (I : Nat → Rho → Prop) {ρ : Rho} (h0 : I 0 ρ) (hs : ∀ i x ρ, xs[i]? = some x → I i ρ → ∀ k : Rho → Prop, (∀ ρ', I (i + 1) ρ' → k ρ') → bd (f x) ρ fun ρ2 => g { nx := k, rt := δ.rt, bk := δ.nx, ct := k } ρ2) (hd : ∀ ρ, I xs.length ρ → δ.nx ρ) : forGo bd g δ (xs.map f) ρ := by
  have go : ∀ (n i : Nat) (ρ : Rho), xs.length - i = n → i ≤ xs.length → I i ρ → forGo bd g δ ((xs.drop i).map f) ρ := by
    intro n
    induction n with
    | zero =>
      intro i ρ hn hi hI
      have : i = xs.length := by omega
      subst this
      rw [List.drop_length]
      exact hd ρ hI
    | succ n ih =>
      intro i ρ hn hi hI
      have hlt : i < xs.length := by omega
      rw [List.drop_eq_getElem_cons hlt, List.map_cons]
      exact hs i _ ρ (List.getElem?_eq_getElem hlt) hI _ fun ρ' h' => ih (i + 1) ρ' (by omega) (by omega) h'
  exact go xs.length 0 ρ rfl (Nat.zero_le _) h0
theorem rgD_zero (n : Nat) : rgD 0 n = (List.range n).map fun (i : Nat) => D.int (i : Nat) := by
  unfold rgD
  refine List.map_congr_left fun i _ => ?_
  rw [Int.zero_add]
theorem rgD_len {lo : Int} {n : Nat} : (rgD lo n).length = n := by unfold rgD; rw [List.length_map, List.length_range]
theorem atI_map {α : Type} {f : α → D} {xs : List α} {i : Nat} {x : α} (h : xs[i]? = some x) : atI (xs.map f) (i : Int) = some (f x) := by
  have hn := (List.getElem?_eq_some_iff.mp h).1
  unfold atI ixN
  rw [List.length_map, if_pos (by omega), if_pos (by omega)]
  show (xs.map f)[(i : Int).toNat]? = _
  rw [Int.toNat_natCast, List.getElem?_map, h]
  rfl
theorem atD {xs : List D} {i : Nat} {x : D} (h : xs[i]? = some x) : atI xs (i : Int) = some x := by
  have := atI_map (f := id) h
  rw [List.map_id] at this
  exact this
/-! ### marks for the generator -/
theorem ps_own {X : Cx} {st : Stmt} {te : TE} {i : Nat} (h : PS X st (tAsg te (L2.gName i))) : PS X st (tAsgO te i) := h
theorem ps_parX {X : Cx} {st : Stmt} {ta tb : TE} {i j : Nat} (h : PS X st (tPar i j (tCons ta (tCons tb tNil)))) : PS X st (tParX i j ta tb) := h
theorem ps_parY {X : Cx} {st : Stmt} {ta tb : TE} {i j : Nat} (h : PS X st (tPar i j (tCons ta (tCons tb tNil)))) : PS X st (tParY i j ta tb) := h
theorem ps_parO {X : Cx} {st : Stmt} {ta tb : TE} {i j : Nat} (h : PS X st (tPar i j (tCons ta (tCons tb tNil)))) : PS X st (tParO i j ta tb) := h
abbrev rAddS : R2 := fun x y H Q => ∃ i j, x = .str i ∧ y = .str j ∧ i.length + j.length ≤ sizeLine ∧ Q (.str (i ++ j)) H
abbrev rJoinD (K : PySem.W.Frag) : V → List V → Hp → VK → Prop := fun x xs H Q => ∃ a p, ∃ ys : List Str, x = .str a ∧ xs = [.ref p] ∧ (SqL K H p (ys.map V.str) ∨ SqT K H p (ys.map V.str)) ∧ (ys.map (·.length)).sum + ys.length * a.length ≤ 16777216 ∧ Q (.str (Txt.join a ys)) H
abbrev rAddI : R2 := rI0 fun i j => V.int (i + j)
abbrev rSubI : R2 := rI0 fun i j => V.int (i - j)
abbrev rMulI : R2 := rI CMul fun i j => V.int (i * j)
abbrev rModI : R2 := rI (fun _ j => 0 < j) fun i j => V.int (i % j)
abbrev rDivI : R2 := rI CDiv fun i j => V.int (i / j)
abbrev rLtI : R2 := rI0 fun i j => V.bl (decide (i < j))
abbrev rLeI : R2 := rI0 fun i j => V.bl (decide (i ≤ j))
abbrev rGtI : R2 := rI0 fun i j => V.bl (decide (j < i))
abbrev rGeI : R2 := rI0 fun i j => V.bl (decide (j ≤ i))
/-- contracts of defs as clauses for calls while nothing is shown -/
theorem cl_G {P : Program} {w : World} {K : PySem.W.Frag} {mg : Str → Option Value} {base : Heap} {k : Nat} {x : Str} {sp sp' : Sp} (c : Xv.Cl P w K mg base k x sp) (h : ∀ vs H Q E, sp' vs H Q E → sp vs H Q E) : Xv.Cl P w K mg base k x sp' := by
  obtain ⟨f, fd, ps, F, a, b, d⟩ := c.ex
  exact ⟨f, fd, ps, F.imp h, a, b, d⟩
/-! ### models -/
def rowX (r : Rw) : D := .lst (r.map fun e => .tup [.int e.1, .int e.2])
def rowsX (rs : List Rw) : D := .lst (rs.map rowX)
def namesX (ns : List Str) : D := .lst (ns.map .str)
def modelX (ns : List Str) (rs : List Rw) : D := .dic [(.inr "deeds", namesX ns), (.inr "rows", rowsX rs)]
theorem lk_deeds (ns : List Str) (rs : List Rw) : lkD [(.inr "deeds", namesX ns), (.inr "rows", rowsX rs)] (.inr "deeds") = some (namesX ns) := by
  unfold lkD
  simp
theorem lk_rows (ns : List Str) (rs : List Rw) : lkD [(.inr "deeds", namesX ns), (.inr "rows", rowsX rs)] (.inr "rows") = some (rowsX rs) := by rfl
def natsX (ps : List Nat) : D := .lst (ps.map fun (p : Nat) => D.int (p : Nat))
/-! ### what the library knows of these -/
theorem pyra_map {α : Type} {f : α → D} {h : α → PyData} (hf : ∀ x, PyR (f x) (h x)) : ∀ xs : List α, PyRA (xs.map f) (xs.map h)
  | [] => .nil
  | x :: xs => .cons (hf x) (pyra_map hf xs)
theorem pyr_names (ns : List Str) : PyR (namesX ns) (namesD ns) := .lst (pyra_map (fun z => .str z) ns)
theorem pyr_row (r : Rw) : PyR (rowX r) (rowD r) := .lst (pyra_map (fun e => .tup (.cons (.int _) (.cons (.int _) .nil))) r)
theorem pyr_rows (rs : List Rw) : PyR (rowsX rs) (rowsD rs) := .lst (pyra_map pyr_row rs)
/-! ### what stood in the older form -/
section
variable {M : Cm} {K : PySem.W.Frag} {S : Addr → Prop} {H : Hp}
mutual
/-- data without dicts, as it is told here -/
def ofP : PyData → D
  | .none => .non
  | .bool b => .bl b
  | .int i => .int i
  | .str z => .str z
  | .list ds => .lst (ofPs ds)
  | .tuple ds => .tup (ofPs ds)
  | .dict _ => .non
def ofPs : List PyData → List D
  | [] => []
  | d :: ds => ofP d :: ofPs ds
end
end
end Dl

/-! Data logic, part 8: own methods as operators; what stood in the older form -/
namespace Dl
open PySem PySem.Spec PyProof.Rows L2 Xv Cr
section
variable {M : Cm} {K : PySem.W.Frag} {pt F : Addr → Prop} {H : Hp} {f : List D → (D → Prop) → Prop}
/-- the type of data -/
def tyD (M : Cm) : D → Value
  | .non => .type "NoneType"
  | .bl _ => .type "bool"
  | .int _ => .type "int"
  | .str _ => .type "str"
  | .lst _ => .type "list"
  | .tup _ => .type "tuple"
  | .dic _ => .type "dict"
  | .ob c _ => .ref (M.ca c)
def ObC (M : Cm) (K : PySem.W.Frag) : D → Prop
  | .ob c _ => C8.InsC K (M.ca c)
  | _ => True
theorem ty_of {v : V} {d : D} (h : ObC M K d) (r : Rb M pt F H v d) : TyX K H v (tyD M d) := by
  cases d with
  | non => cases r; exact .base .non
  | bl b => cases r; exact .base (.bl _)
  | int i => cases r; exact .base (.int _)
  | str z => cases r; exact .base (.str _)
  | lst ds => obtain ⟨a, vs, rfl, _, e, _⟩ := r; exact .base (.lst e)
  | tup ds => obtain ⟨a, vs, rfl, _, e, _⟩ := r; exact .base (.tup e)
  | dic ds => obtain ⟨a, vs, rfl, _, e, _⟩ := r; exact .base (.dK e)
  | ob c ds => obtain ⟨a, dx, vs, rfl, _, e, _⟩ := r; exact .base (.ins e h.cl h.ha h.hn h.htk h.hm)
/-- == and != by an own __eq__ -/
def fEqO (M : Cm) (K : PySem.W.Frag) (C : Addr) (neg : Bool) (f : List D → (D → Prop) → Prop) : D → D → (D → Prop) → Prop := fun x y P => ∃ c ds, x = .ob c ds ∧ M.ca c = C ∧ ObC M K y ∧ PySem.W.notFirst K C (tyD M y) = true ∧ f [x, y] fun d => ∃ b, d = .bl b ∧ P (.bl (neg ^^ b))
instance {C : Addr} {neg : Bool} : D2 M (rEqO K C (spD M [.bor, .bor] f) neg) (fEqO M K C neg f) := ⟨fun {pt F H x y dx dy P Q} k r1 r2 q w => by
  obtain ⟨c, ds, rfl, rfl, oc, nf, q⟩ := q
  obtain ⟨a, dx, vs, rfl, np, hz, hl, rv⟩ := id r1
  refine ⟨a, dx, _, _, rfl, hz, ty_of oc r2, nf, pt, F, _, _, k, .bor r1 (.bor r2 .nil), q, fun d F' H' v ⟨b, hb, p⟩ x r => ?_⟩
  subst hb
  cases r
  refine ⟨b, rfl, ?_⟩
  have := w _ F' H' _ p x (.bl _)
  cases neg <;> simpa using this⟩
/-- len by an own __len__ -/
def fLenO (M : Cm) (C : Addr) (f : List D → (D → Prop) → Prop) : List D → (D → Prop) → Prop := fun ds P => ∃ c es, ds = [.ob c es] ∧ M.ca c = C ∧ f ds fun d => ∃ n : Int, d = .int n ∧ 0 ≤ n ∧ n < 1000000000 ∧ P (.int n)
instance {C : Addr} : D1 M (rLenO C (spD M [.bor] f)) [.bor] (fLenO M C f) := ⟨fun {pt F H vs ds P Q} k r q w => by
  obtain ⟨c, es, rfl, rfl, q⟩ := q
  cases r with
  | bor r s =>
    cases s
    obtain ⟨a, dx, vs, rfl, np, hz, hl, rv⟩ := id r
    refine ⟨a, dx, _, rfl, hz, pt, F, _, _, k, .bor r .nil, q, fun d F' H' v ⟨n, hn, n0, n1, p⟩ x r => ?_⟩
    subst hn
    cases r
    exact ⟨n, rfl, n0, by omega, w _ F' H' _ p x (.int _)⟩⟩
/-- in by an own __contains__ -/
def fInO (M : Cm) (C : Addr) (neg : Bool) (f : List D → (D → Prop) → Prop) : D → D → (D → Prop) → Prop := fun x y P => ∃ c ds, y = .ob c ds ∧ M.ca c = C ∧ f [y, x] fun d => ∃ b, d = .bl b ∧ P (.bl (neg ^^ b))
instance {C : Addr} {neg : Bool} : D2 M (rInO C (spD M [.bor, .bor] f) neg) (fInO M C neg f) := ⟨fun {pt F H x y dx dy P Q} k r1 r2 q w => by
  obtain ⟨c, ds, rfl, rfl, q⟩ := q
  obtain ⟨a, dx, vs, rfl, np, hz, hl, rv⟩ := id r2
  refine ⟨a, dx, _, rfl, hz, pt, F, _, _, k, .bor r2 (.bor r1 .nil), q, fun d F' H' v ⟨b, hb, p⟩ x r => ?_⟩
  subst hb
  cases r
  refine ⟨b, rfl, ?_⟩
  have := w _ F' H' _ p x (.bl _)
  cases neg <;> simpa using this⟩
/-- repr by an own __repr__ -/
def fReprO (M : Cm) (C : Addr) (f : List D → (D → Prop) → Prop) : List D → (D → Prop) → Prop := fun ds P => ∃ c es, ds = [.ob c es] ∧ M.ca c = C ∧ f ds fun d => ∃ z, d = .str z ∧ P (.str z)
instance {C : Addr} : D1 M (rReprO C (spD M [.bor] f)) [.bor] (fReprO M C f) := ⟨fun {pt F H vs ds P Q} k r q w => by
  obtain ⟨c, es, rfl, rfl, q⟩ := q
  cases r with
  | bor r s =>
    cases s
    obtain ⟨a, dx, vs, rfl, np, hz, hl, rv⟩ := id r
    refine ⟨a, dx, _, rfl, hz, pt, F, _, _, k, .bor r .nil, q, fun d F' H' v ⟨n, hn, p⟩ x r => ?_⟩
    subst hn
    cases r
    exact ⟨n, rfl, w _ F' H' _ p x (.str _)⟩⟩
/-- isinstance with one class -/
def fIsi (M : Cm) (K : PySem.W.Frag) (u : Value) : D → (D → Prop) → Prop := fun d P => ∃ b, ObC M K d ∧ PySem.W.kitOne K (tyD M d) u = some b ∧ P (.bl b)
end
/-! ### own methods, with any promise -/
structure PrpM (P : Program) (w : World) (K : PySem.W.Frag) (mg : Str → Option Value) (base : Heap) (C : Addr) (k : Nat) (f : Str) (sp : Sp) : Prop where
  ex : ∃ (p g : Addr) (fd : FuncData), PropOf K C f p g ∧ FnOk P w K mg base CX0 k g fd ["self"] sp ∧ Binds K fd ["self"] []
structure OwnM (P : Program) (w : World) (K : PySem.W.Frag) (mg : Str → Option Value) (base : Heap) (C : Addr) (k : Nat) (m : Str) (ps : List Str) (sp : Sp) : Prop where
  ex : ∃ (g : Addr) (fd : FuncData), FnOk P w K mg base CX0 k g fd ps sp ∧ PySem.W.findIn K (.ref C) m = some (some (.ref g)) ∧ PySem.W.isFn K (.ref g) = true ∧ Binds K fd ps []
structure ReprM (P : Program) (w : World) (K : PySem.W.Frag) (mg : Str → Option Value) (base : Heap) (C : Addr) (k : Nat) (sp : Sp) : Prop where
  ex : ∃ (g : Addr) (fd : FuncData), FnG P w K mg base k g fd ["self"] sp ∧ PySem.W.findIn K (.ref C) "__repr__" = some (some (.ref g)) ∧ PySem.W.isFn K (.ref g) = true ∧ Binds K fd ["self"] []
structure Met1 (P : Program) (w : World) (K : PySem.W.Frag) (mg : Str → Option Value) (base : Heap) (k : Nat) (C : Addr) (m kw : Str) (sp : Sp) : Prop where
  ex : ∃ (g : Addr) (fd : FuncData), Cls K C ∧ Meth K C m g ∧ FnOk P w K mg base CX0 k g fd ["self", kw] sp ∧ Binds K fd ["self", kw] [] ∧ KBn K fd ["self", kw] 1 [kw] (fun us ws => us ++ ws) (fun vs zs => vs ++ zs)
theorem Met1.met {P : Program} {w : World} {K : PySem.W.Frag} {mg : Str → Option Value} {base : Heap} {k : Nat} {C : Addr} {m kw : Str} {sp : Sp} (c : Met1 P w K mg base k C m kw sp) : C8.Met P w K mg base k C m sp [] := by
  obtain ⟨g, fd, hc, hm, F, b, _⟩ := c.ex
  exact ⟨g, fd, _, [], hc, hm, F, b, .nil⟩
section
variable {X : Cx} {C : Addr} {k j : Nat} {sp : Sp} {f x m kw : Str} {e o : Expr} {es : List Expr} {kws : List Keyword} {ta : TE} {t tk : TA} {p pos apos : Pos} {ps : List Str}
theorem pe_prpV (c : PrpM X.prog X.w X.K X.mg X.base C k f sp) (cl : Cls X.K C) (hr : Room j X.A) (hk : k + 1 ≤ j) (he : PE X e ta) (hab : attributeBase e f X.env (eval e X.env) = eval e X.env := by rfl) : PE X (.Attribute e f pos) (tProp C sp [] E0 ta) := by
  obtain ⟨p, g, fd, hp, F, hb⟩ := c.ex
  exact pe_prop he cl hp F (hr.mono hk) hb .nil pass0 hab
theorem call_lenV (c : OwnM X.prog X.w X.K X.mg X.base C k "__len__" ["self"] sp) (hr : Room j X.A) (hk : k + 1 ≤ j) : CallR X (.builtin "len") (rLenO C sp) := by
  obtain ⟨g, fd, F, hs, hf, hb⟩ := c.ex
  exact call_lenO F (hr.mono hk) hb hs hf
theorem op_inV (c : OwnM X.prog X.w X.K X.mg X.base C k "__contains__" ps sp) (hr : Room j X.A) (hk : k ≤ j) : OpR X (compareOp .In) (rInO C sp false) := by
  obtain ⟨g, fd, F, hs, hf, hb⟩ := c.ex
  exact op_inO F (hr.mono hk) hb hs hf
theorem op_notInV (c : OwnM X.prog X.w X.K X.mg X.base C k "__contains__" ps sp) (hr : Room j X.A) (hk : k ≤ j) : OpR X (compareOp .NotIn) (rInO C sp true) := by
  obtain ⟨g, fd, F, hs, hf, hb⟩ := c.ex
  exact op_notInO F (hr.mono hk) hb hs hf
theorem op_eqV (c : OwnM X.prog X.w X.K X.mg X.base C k "__eq__" ps sp) (hr : Room j X.A) (hk : k ≤ j) : OpR X (compareOp .Eq) (rEqO X.K C sp false) := by
  obtain ⟨g, fd, F, hs, hf, hb⟩ := c.ex
  exact op_eqO F (hr.mono hk) hb hs hf
theorem op_neV (c : OwnM X.prog X.w X.K X.mg X.base C k "__eq__" ps sp) (ne : PySem.W.findIn X.K (.ref C) "__ne__" = some (some (.builtin "object.__ne__")) ∧ PySem.W.mroIn X.K C (.type "object") = some true) (hr : Room j X.A) (hk : k + 1 ≤ j) : OpR X (compareOp .NotEq) (rEqO X.K C sp true) := by
  obtain ⟨g, fd, F, hs, hf, hb⟩ := c.ex
  exact op_neO F (hr.mono hk) hb hs hf ne.1 ne.2
theorem call_reprV (c : ReprM X.prog X.w X.K X.mg X.base C k sp) (hr : Room j X.A) (hk : k + 1 ≤ j) (hgd : X.A.guards = some []) : CallR X (.builtin "repr") (rReprO C sp) := by
  obtain ⟨g, fd, F, hs, hf, hb⟩ := c.ex
  exact call_reprO F (hr.mono hk) hgd hb hs hf
theorem pe_met1V {pl : Sem Bool} (c : Met1 X.prog X.w X.K X.mg X.base k C m kw sp) (hr : Room j X.A) (hj : k ≤ j) (he : PE X o ta) (hkw : PK X kws tk)
    (hall : (backToKw pos (keywordEach kws X.env)).all (·.1.isSome) = true := by rfl) (hks : (backToKw pos (keywordEach kws X.env)).filterMap (·.1) = ([kw] : List Str) := by rfl)
    (hpl : ((backTo pos (starEach [] X.env)).any (·.1) || (backToKw pos (keywordEach kws X.env)).any (·.1.isNone)) = false := by rfl)
    (ht : eval (.Call (.Attribute o m apos) [] kws pos) X.env = (do
      let ov ← eval o X.env
      standAt apos.atName
      let (fn, fst) ← holding [ov] (getMethod ov m pl)
      callWith pos fn fst (backTo pos (starEach [] X.env)) (backToKw pos (keywordEach kws X.env))) := by rfl) :
    PE X (.Call (.Attribute o m apos) [] kws pos) (tMethK C m 1 sp (fun vs zs => vs ++ zs) ta tk) := by
  obtain ⟨g, fd, hc, hm, F, b, kb⟩ := c.ex
  exact pe_methK (pl := pl) he hc hm F (hr.mono hj) kb hkw hall hks hpl ht
end
/-! ### data in the older form -/
section
variable {M : Cm} {K : PySem.W.Frag} {pt F S : Addr → Prop} {H : Hp}
mutual
theorem tr_rp (s : ∀ b, S b → F b) : ∀ {d : D} {p : PyData}, PyR d p → ∀ {v : V}, Tr (Vw S H) v p → Rp M F H v d
  | _, _, .non, _, .non => .non
  | _, _, .bl b, _, .bl _ => .bl b
  | _, _, .int i, _, .int _ => .int i
  | _, _, .str z, _, .str _ => .str z
  | _, _, .lst h, _, .lst e r => let ⟨a, b⟩ := vwI e; .lst (s _ a) b (tr_rpA s h r)
  | _, _, .tup h, _, .tup e r => let ⟨a, b⟩ := vwI e; .tup (s _ a) b (tr_rpA s h r)
theorem tr_rpA (s : ∀ b, S b → F b) : ∀ {ds : List D} {ps : List PyData}, PyRA ds ps → ∀ {vs : List V}, TrAll (Vw S H) vs ps → RpA M F H vs ds
  | _, _, .nil, _, .nil => .nil
  | _, _, .cons h k, _, .cons r t => .cons (tr_rp s h r) (tr_rpA s k t)
theorem vwI {b : Addr} {o : HO} (h : Vw S H b = some o) : S b ∧ H b = some o := by
  unfold Vw at h
  split at h
  · rename_i s
    exact ⟨s, h⟩
  · cases h
end
mutual
theorem rp_tr (s : ∀ b vs, F b → (H b = some (.lst vs) ∨ H b = some (.tup vs)) → S b) : ∀ {d : D} {p : PyData}, PyR d p → ∀ {v : V}, Rp M F H v d → Tr (Vw S H) v p
  | _, _, .non, _, .non => .non
  | _, _, .bl b, _, .bl _ => .bl b
  | _, _, .int i, _, .int _ => .int i
  | _, _, .str z, _, .str _ => .str z
  | _, _, .lst h, _, .lst f e r => .lst (by rw [vw_at (s _ _ f (.inl e))]; exact e) (rp_trA s h r)
  | _, _, .tup h, _, .tup f e r => .tup (by rw [vw_at (s _ _ f (.inr e))]; exact e) (rp_trA s h r)
theorem rp_trA (s : ∀ b vs, F b → (H b = some (.lst vs) ∨ H b = some (.tup vs)) → S b) : ∀ {ds : List D} {ps : List PyData}, PyRA ds ps → ∀ {vs : List V}, RpA M F H vs ds → TrAll (Vw S H) vs ps
  | _, _, .nil, _, .nil => .nil
  | _, _, .cons h k, _, .cons r t => .cons (rp_tr s h r) (rp_trA s k t)
end
end
end Dl

/-! Data logic, part 9: draws, sorted numbers, small texts -/
namespace Dl
open PySem PySem.Spec PyProof.Rows L2 Xv Cr
theorem paired_len {α β : Type} {R : α → β → Prop} {a : List α} {b : List β} (h : Paired R a b) : b.length = a.length := (Paired.length h).symm
theorem paired_all {α β : Type} {R : α → β → Prop} {S : β → Prop} (hs : ∀ x y, R x y → S y) : ∀ {a : List α} {b : List β}, Paired R a b → ∀ y ∈ b, S y
  | _, _, .nil, _, hy => by cases hy
  | _, _, .cons r t, y, hy => by
    rcases List.mem_cons.mp hy with rfl | z
    · exact hs _ _ r
    · exact paired_all hs t y z
theorem lcGo_draws {st : D → (Option D → Prop) → Prop} {P : D → Prop} {n m : Nat} (hs : ∀ (i : Nat) (k : Option D → Prop), i < n → (∀ a : Nat, a < m → k (some (.int (a : Nat)))) → st (.int (i : Nat)) k) (q : ∀ g : List Nat, g.length = n → (∀ a ∈ g, a < m) → P (natsX g)) : lcGo st (rgD 0 n) [] P := by
  rw [rgD_zero]
  refine lcGo_rel (R := fun (_ a : Nat) => a < m) (h := fun a => D.int (a : Nat)) (fun i hi k hk => hs i k (List.mem_range.mp hi) hk) fun g hg => ?_
  exact q g (by rw [paired_len hg, List.length_range]) (paired_all (R := fun (_ a : Nat) => a < m) (S := fun a => a < m) (fun _ _ h => h) hg)
theorem natsX_ints (g : List Nat) : g.map (fun (p : Nat) => D.int (p : Nat)) = (g.map fun (p : Nat) => (p : Int)).map D.int := by rw [List.map_map]; rfl
theorem oInts_nats (g : List Nat) : oInts (g.map fun (p : Nat) => D.int (p : Nat)) = some (g.map fun (p : Nat) => (p : Int)) := by rw [natsX_ints, ints_map]
theorem nat_sort {g : List Nat} {r : List Int} (pm : r.Perm (g.map fun (a : Nat) => (a : Int))) (pw : r.Pairwise (· ≤ ·)) : ∃ u : List Nat, r.map D.int = u.map (fun (p : Nat) => D.int (p : Nat)) ∧ u.Perm g ∧ u.Pairwise (· ≤ ·) := by
  have nn : ∀ x ∈ r, 0 ≤ x := fun x hx => by
    obtain ⟨a, _, rfl⟩ := List.mem_map.mp (pm.mem_iff.mp hx)
    omega
  have e : (r.map Int.toNat).map (fun (a : Nat) => (a : Int)) = r := by
    rw [List.map_map]
    conv => rhs; rw [← List.map_id r]
    exact List.map_congr_left fun x hx => Int.toNat_of_nonneg (nn x hx)
  refine ⟨r.map Int.toNat, by rw [natsX_ints, e], ?_, ?_⟩
  · have := pm.map Int.toNat
    rw [List.map_map] at this
    have e2 : g.map (Int.toNat ∘ fun (a : Nat) => (a : Int)) = g := by
      conv => rhs; rw [← List.map_id g]
      exact List.map_congr_left fun x _ => rfl
    rw [e2] at this
    exact this
  · rw [List.pairwise_map]
    exact pw.imp fun h => Int.toNat_le_toNat h
theorem sortedN {g : List Nat} {P : D → Prop} (hl : g.length < 64) (q : ∀ u : List Nat, u.Perm g → u.Pairwise (· ≤ ·) → P (natsX u)) : fSorted [natsX g] P := by
  refine ⟨_, _, rfl, oInts_nats g, by rw [List.length_map]; exact hl, fun cs pm pw => ?_⟩
  obtain ⟨u, e, p1, p2⟩ := nat_sort pm pw
  rw [e]
  exact q u p1 p2
theorem lcGo_rg {st : D → (Option D → Prop) → Prop} {P : D → Prop} {n : Nat} {h : Nat → D} (hs : ∀ (i : Nat) (k : Option D → Prop), i < n → k (some (h i)) → st (.int (i : Nat)) k) (q : P (.lst ((List.range n).map h))) : lcGo st (rgD 0 n) [] P := by
  rw [rgD_zero]
  exact lcGo_map (h := h) (fun i hi k hk => hs i k (List.mem_range.mp hi) hk) q
def gLstRg (ga : GE) : GE := fun ρ P => ga ρ fun x => ∃ n : Int, x = .int n ∧ 0 ≤ n ∧ n ≤ 1000000 ∧ P (.lst (rgD 0 n.toNat))
theorem rpa_rg {M : Cm} {F : Addr → Prop} {H : Hp} (n : Nat) : RpA M F H ((List.range n).map fun (i : Nat) => V.int (0 + (i : Nat))) (rgD 0 n) := by
  unfold rgD
  induction List.range n with
  | nil => exact .nil
  | cons a r ih => exact .cons (.int _) ih
instance {M : Cm} {ta : TE} {ga : GE} [h1 : DB M ta ga] : DN M (tLstRg (tRg1 ta)) (gLstRg ga) := ⟨fun {pt F0 H0 z0 F o σ H ρ P Q} e q k =>
  h1.run e q fun d1 F1 H1 v1 q1 x1 r1 => by
    obtain ⟨n, rfl, n0, n1, q1⟩ := q1
    cases rb_int r1
    refine ⟨n, rfl, RgOk.of_le (by omega) (by omega) (by omega) (by omega), fun p np => ?_⟩
    have ok1 := (e.step x1).ok
    have ev : rgV 0 n = (List.range n.toNat).map fun (i : Nat) => V.int (0 + (i : Nat)) := by unfold rgV; rw [Int.sub_zero]
    rw [ev]
    have x2 := Ext.put0 (F := F1) ok1 (o := .lst ((List.range n.toNat).map fun (i : Nat) => V.int (0 + (i : Nat)))) np
    exact k _ F1 _ p q1 (x1.trans x2) ⟨p, _, rfl, ok1.not_pt np, upd_same, rpa_rg _⟩ (x1.nn np) fun z => (ok1.liv p z).ne np⟩
theorem range_getD {α : Type} {f : Nat → α} (l : List Nat) : (List.range l.length).map (fun i => f (l.getD i 0)) = l.map f := by
  refine List.ext_getElem? fun i => ?_
  rw [List.getElem?_map, List.getElem?_map]
  by_cases h : i < l.length
  · rw [List.getElem?_range h, List.getElem?_eq_getElem h]
    show some (f (l.getD i 0)) = _
    rw [List.getD_eq_getElem?_getD, List.getElem?_eq_getElem h]
    rfl
  · rw [List.getElem?_eq_none (by rw [List.length_range]; omega), List.getElem?_eq_none (by omega)]
    rfl
theorem range_two {α : Type} {a b : α} (m n : Nat) : (List.range (m + n)).map (fun i => if i < m then a else b) = List.replicate m a ++ List.replicate n b := by
  refine List.ext_getElem? fun i => ?_
  rw [List.getElem?_map]
  by_cases h : i < m + n
  · rw [List.getElem?_range h]
    by_cases k : i < m
    · rw [List.getElem?_append_left (by rw [List.length_replicate]; exact k), List.getElem?_replicate, if_pos k]
      show some (if i < m then a else b) = _
      rw [if_pos k]
    · rw [List.getElem?_append_right (by rw [List.length_replicate]; omega), List.length_replicate, List.getElem?_replicate, if_pos (by omega)]
      show some (if i < m then a else b) = _
      rw [if_neg k]
  · rw [List.getElem?_eq_none (by rw [List.length_range]; omega), List.getElem?_eq_none (by rw [List.length_append, List.length_replicate, List.length_replicate]; omega)]
    rfl
theorem range_const {α : Type} {a : α} (n : Nat) : (List.range n).map (fun _ => a) = List.replicate n a := by
  have := List.map_const (l := List.range n) (b := a)
  rw [List.length_range] at this
  exact this
def gNeg (ga : GE) : GE := fun ρ P => ga ρ fun x => match x with | .int i => P (.int (-i)) | _ => False
instance {M : Cm} {ta : TE} {ga : GE} [h1 : DB M ta ga] : DTc M (tUn (rU fun i => .int (-i)) ta) (gNeg ga) := ⟨fun {pt F0 H0 z0 F o σ H ρ P Q} e q k =>
  h1.run e q fun d1 F1 H1 v1 q1 x1 r1 => by
    split at q1
    · cases rb_int r1
      exact ⟨_, rfl, k _ F1 H1 _ q1 x1 (.int _)⟩
    · exact q1.elim⟩
theorem cut_from (xs : List D) (n : Nat) : cutD xs (some (n : Int)) none = xs.drop n := by
  unfold cutD
  rw [HT.sIx_none, HT.sIx_nat]
  by_cases h : n ≤ xs.length
  · rw [Nat.min_eq_left h, List.take_of_length_le (by rw [List.length_drop]; omega)]
  · rw [Nat.min_eq_right (by omega), List.drop_length, List.drop_of_length_le (by omega), List.take_nil]
theorem cut_to (xs : List D) (n : Nat) : cutD xs none (some (n : Int)) = xs.take n := by
  unfold cutD
  rw [HT.sIx_none, HT.sIx_nat, List.drop_zero, Nat.sub_zero]
  by_cases h : n ≤ xs.length
  · rw [Nat.min_eq_left h]
  · rw [Nat.min_eq_right (by omega), List.take_length, List.take_of_length_le (by omega)]
theorem cut_init (xs : List D) : cutD xs none (some (-1)) = xs.take (xs.length - 1) := by
  unfold cutD
  rw [HT.sIx_none, List.drop_zero, Nat.sub_zero]
  have e : HT.sIx xs.length xs.length (some (-1)) = xs.length - 1 := by
    show (if (-1 : Int) < 0 then ((-1 : Int) + (xs.length : Int)).toNat else min ((-1 : Int).toNat) xs.length) = _
    rw [if_pos (by decide)]
    omega
  rw [e]
abbrev nD : Nat → D := fun p => .int (p : Nat)
theorem cutN_from (g : List Nat) : cutD (g.map fun (p : Nat) => D.int (p : Nat)) (some 1) none = (g.drop 1).map fun (p : Nat) => D.int (p : Nat) := by
  have := cut_from (g.map fun (p : Nat) => D.int (p : Nat)) 1
  rw [← List.map_drop] at this
  exact this
theorem cutN_to (g : List Nat) : cutD (g.map fun (p : Nat) => D.int (p : Nat)) none (some 1) = (g.take 1).map fun (p : Nat) => D.int (p : Nat) := by
  have := cut_to (g.map fun (p : Nat) => D.int (p : Nat)) 1
  rw [← List.map_take] at this
  exact this
theorem cutN_init (g : List Nat) : cutD (g.map fun (p : Nat) => D.int (p : Nat)) none (some (-1)) = (g.take (g.length - 1)).map fun (p : Nat) => D.int (p : Nat) := by
  have := cut_init (g.map fun (p : Nat) => D.int (p : Nat))
  rw [← List.map_take, List.length_map] at this
  exact this
theorem catN {a b : List D} {g1 g2 : List Nat} {P : D → Prop} (e1 : a = g1.map fun (p : Nat) => D.int (p : Nat)) (e2 : b = g2.map fun (p : Nat) => D.int (p : Nat)) (hl : g1.length + g2.length ≤ 16777216) (q : P (natsX (g1 ++ g2))) : fCat (.lst a) (.lst b) P := by
  subst e1 e2
  refine ⟨_, _, rfl, rfl, by rw [List.length_map, List.length_map]; exact hl, ?_⟩
  rw [← List.map_append]
  exact q
theorem sortedG {ρ : Rho} {g : List Nat} {P : D → Prop} (hl : g.length < 64) (q : ∀ u : List Nat, u.Perm g → u.Pairwise (· ≤ ·) → P (natsX u)) : Dl.gNil ρ (fun ds => fSorted (natsX g :: ds) P) := sortedN hl q
theorem mem_rgD {n : Nat} {x : D} (h : x ∈ rgD 0 n) : ∃ a : Nat, a < n ∧ x = .int (a : Nat) := by
  rw [rgD_zero] at h
  obtain ⟨a, ha, rfl⟩ := List.mem_map.mp h
  exact ⟨a, List.mem_range.mp ha, rfl⟩
/-! ### texts that are short -/
theorem lenX (ds : List D) (P : D → Prop) (q : P (.int (ds.length : Nat))) : fLen [.lst ds] P := q
end Dl

/-! Data logic, part 10: a for over a display of new things, each of which is changed -/
namespace Dl
open PySem PySem.Spec PyProof.Rows L2 Xv Cr
section
variable {M : Cm} {K : PySem.W.Frag} {m : Md} {pt F0 F F' : Addr → Prop} {H0 H H' : Hp} {z0 : Gh} {o : Ow} {σ : L2.St} {ρ : Rho}
theorem En.gh0 (e : En M pt F0 H0 z0 F o σ H ρ) {gs : List (Addr × D)} (h : ∀ g ∈ gs, GhOk M pt F H0 o H ρ g) : En M pt F0 H0 ⟨z0.z, gs⟩ F o σ H ρ := ⟨e.ok0, e.ext, e.len, e.sl, e.dj, e.zr, h⟩
theorem En.more (e : En M pt F0 H0 z0 F o σ H ρ) {p : Addr} (hp : Lv H p) (n : Nw H0 p) (up : ∀ i, p ∉ owl o ρ i) (ug : ∀ g ∈ z0.gs, g.1 ≠ p) : En M pt F0 H0 z0 (fun b => F b ∨ b = p) o σ H ρ := by
  have upr : ∀ b u, nt u = true → F b → H b = some u → (F b ∨ b = p) ∧ H b = some u := fun b u _ f e => ⟨.inl f, e⟩
  refine ⟨e.ok0, ⟨fun b z => .inl (e.ext.sub b z), fun b z => z.elim (e.ext.new b) fun q => .inr (q ▸ n), e.ext.same, e.ext.pots, fun b z => z.elim (e.ext.liv b) fun q => q ▸ hp, e.ext.tbs⟩, e.len, fun j s hs => (e.sl j s hs).tr upr (fun b u _ _ _ z => z) (fun _ _ _ z => z) (fun a h1 => ⟨fun u _ z => z, fun f z => z.elim f fun w => up j (w ▸ owl_of hs h1)⟩) rfl rfl rfl, e.dj, e.zr, fun g hg => ⟨(e.gh g hg).rb.tr upr fun _ _ _ _ z => z, (e.gh g hg).nw, fun z => z.elim (e.gh g hg).nf (ug g hg), (e.gh g hg).no⟩⟩
/-- new things, side by side -/
inductive NewL (M : Cm) (pt F : Addr → Prop) (H : Hp) (H' : Hp) : List Addr → List D → Prop
  | nil : NewL M pt F H H' [] []
  | cons {p : Addr} {d : D} {ps : List Addr} {ds : List D} : Rb M pt F H' (.ref p) d → Nw H p → ¬ F p → p ∉ ps → NewL M pt F H H' ps ds → NewL M pt F H H' (p :: ps) (d :: ds)
class DNs (M : Cm) (t : TA) (g : outParam GA) : Prop where
  run : ∀ {pt F0 : Addr → Prop} {H0 : Hp} {z0 : Gh} {F : Addr → Prop} {o : Ow} {σ : L2.St} {H : Hp} {ρ : Rho} {P : List D → Prop} {Q : List V → Hp → Prop}, En M pt F0 H0 z0 F o σ H ρ → g ρ P → (∀ ds F' H' ps, P ds → Ext M pt F H F' H' → NewL M pt F' H H' ps ds → Q (ps.map V.ref) H') → t σ H Q
theorem NewL.old {H1 : Hp} {ps : List Addr} {ds : List D} (n : NewL M pt F H H' ps ds) (h : ∀ p, Nw H p → Nw H1 p) : NewL M pt F H1 H' ps ds := by
  induction n with
  | nil => exact .nil
  | cons r a b c _ ih => exact .cons r (h _ a) b c ih
theorem NewL.all {ps : List Addr} {ds : List D} (n : NewL M pt F H H' ps ds) : ∀ p ∈ ps, Nw H p := by
  induction n with
  | nil => intro p h; cases h
  | cons r a b c _ ih => intro p h; rcases List.mem_cons.mp h with rfl | z; exact a; exact ih p z
theorem NewL.live {ps : List Addr} {ds : List D} (n : NewL M pt F H H' ps ds) : ∀ p ∈ ps, Lv H' p ∧ ¬ F p := by
  induction n with
  | nil => intro p h; cases h
  | cons r a b c _ ih => intro p h; rcases List.mem_cons.mp h with rfl | z; exact ⟨(rb_some r).1, b⟩; exact ih p z
instance : DNs M tNil gNil := ⟨fun e q k => k _ _ _ _ q (.refl e.ok) .nil⟩
instance {ta : TE} {ga : GE} {t : TA} {g : GA} [h1 : DN M ta ga] [h2 : DNs M t g] : DNs M (tCons ta t) (gCons ga g) := ⟨fun {pt F0 H0 z0 F o σ H ρ P Q} e q k => h1.run e q fun d F1 H1 p q1 x1 r1 n nf => h2.run (e.step x1) q1 fun ds F2 H2 ps q2 x2 r2 => by
  have nf2 := rb_keep (e.step x1).ok x2 rfl r1 nf
  exact k _ _ _ (p :: ps) q2 (x1.trans x2) (.cons (r1.ext (e.step x1).ok x2) n nf2 (fun z => (r2.all p z).no (rb_some r1).1) (r2.old fun b hb => x1.nw hb))⟩
def tForN (K : PySem.W.Frag) (ta : TA) (i : Nat) (t : TS) : TS := tFor (iList K (tLst ta)) (L2.gName i) t
theorem ps_forN {X : Cx} {st : Stmt} {ta : TA} {i : Nat} {t : TS} (h : PS X st (tFor (iList K (tLst ta)) (L2.gName i) t)) : PS X st (tForN K ta i t) := h
def forNGo (i : Nat) (g : GS) (δ : DEnds) : List D → Rho → Prop
  | [], ρ => δ.nx ρ
  | x :: xs, ρ => g { nx := forNGo i g δ xs, rt := δ.rt, bk := δ.nx, ct := forNGo i g δ xs } (ρ.set i (.own x))
def sForN (ga : GA) (i : Nat) (g : GS) : GS := fun δ ρ => ga ρ fun ds => i ≠ 0 ∧ ds.length ≤ 16777216 ∧ forNGo i g δ ds ρ
theorem NewL.drop1 {p : Addr} {d : D} {ps : List Addr} {ds : List D} (n : NewL M pt F H H' (p :: ps) (d :: ds)) : NewL M pt F H H' ps ds := by cases n with | cons _ _ _ _ h => exact h
instance {ta : TA} {ga : GA} {i : Nat} {t : TS} {g : GS} [h1 : DNs M ta ga] [h2 : DS M m t g] : DS M m (tForN K ta i t) (sForN ga i g) := ⟨fun {pt F0 H0 z0 F o σ H ρ δ E} e l q =>
  h1.run e q fun ds F1 H1 ps q1 x1 nl => by
    obtain ⟨i0, hz, q1⟩ := q1
    have hlen : ps.length = ds.length := by
      have : ∀ {ps : List Addr} {ds : List D}, NewL M pt F1 H H1 ps ds → ps.length = ds.length := fun n => by
        induction n with
        | nil => rfl
        | cons _ _ _ _ _ ih => rw [List.length_cons, List.length_cons, ih]
      exact this nl
    refine ⟨by rw [List.length_map, hlen, sizeLine_eq]; exact hz, fun D nD => ⟨D, rfl, ⟨_, SqL.of upd_same⟩, ?_⟩⟩
    have e1 := e.step x1
    have ok1 := e1.ok
    have x2 := Ext.put0 (F := F1) ok1 (o := .lst (ps.map V.ref)) nD
    have e2 := e1.step x2
    -- the new things aside
    have psD : ∀ p ∈ ps, p ≠ D := fun p hp z => (nl.live p hp).1.ne (z ▸ nD)
    have ghs : ∀ {ps : List Addr} {ds : List Dl.D}, NewL M pt F1 H H1 ps ds → ∀ g ∈ ps.zip ds, GhOk M pt F1 H0 o (upd H1 D (.lst (ps.map V.ref))) ρ g → True := fun _ _ _ _ => trivial
    have mk : ∀ {ps' : List Addr} {ds' : List Dl.D}, NewL M pt F1 H H1 ps' ds' → ∀ g ∈ ps'.zip ds', GhOk M pt F1 H0 o (upd H1 D (.lst (ps.map V.ref))) ρ g := fun n => by
      induction n with
      | nil => intro g hg; simp at hg
      | cons r a b c _ ih =>
        intro g hg
        rw [List.zip_cons_cons] at hg
        rcases List.mem_cons.mp hg with rfl | z
        · exact ⟨r.ext ok1 x2, e.ext.nw a, b, fun j hj => a.no (e.owlOk hj).2.2.1⟩
        · exact ih g z
    have DH : Nw H D := x1.nn nD
    have e3 : En M pt F0 H0 ⟨z0.z, z0.gs ++ ps.zip ds⟩ F1 o σ (upd H1 D (.lst (ps.map V.ref))) ρ := e2.gh0 fun g hg => (List.mem_append.mp hg).elim (e2.gh g) (mk nl g)
    have memP : ∀ {g : Addr × Dl.D}, g ∈ ps.zip ds → g.1 ∈ ps := fun hg => (List.of_mem_zip (a := _) (b := _) hg).1
    have e4 : En M pt F0 H0 ⟨z0.z, z0.gs ++ ps.zip ds⟩ (fun b => F1 b ∨ b = D) o σ (upd H1 D (.lst (ps.map V.ref))) ρ := e3.more (.at_ upd_same) (e.ext.nw DH) (fun j hj => DH.no (e.owlOk hj).2.2.1) fun g hg z => by
      rcases List.mem_append.mp hg with w | w
      · exact DH.no (z ▸ (rb_some (e.gh g w).rb).1)
      · exact psD _ (memP w) z
    have a4 : Agr F H (fun b => F1 b ∨ b = D) (upd H1 D (.lst (ps.map V.ref))) := (Agr.of e.ok (x1.trans x2)).trans ⟨fun b f => .inl f, fun b o _ f h => h⟩
    have zg : ∀ p ∈ ps, ∀ g ∈ z0.gs, p ≠ g.1 := fun p hp g hg z => (nl.all p hp).no (z ▸ (rb_some (e.gh g hg).rb).1)
    have nd : ps.Nodup := by
      have : ∀ {ps' : List Addr} {ds' : List Dl.D}, NewL M pt F1 H H1 ps' ds' → ps'.Nodup := fun n => by
        induction n with
        | nil => exact List.nodup_nil
        | cons _ _ _ c _ ih => exact List.nodup_cons.mpr ⟨c, ih⟩
      exact this nl
    refine for_it (walk_list (K := K) (a := D) (xs := ps.map V.ref)) (fun j σ' H' => ∃ Fi oi ρi, En M pt F0 H0 ⟨z0.z, z0.gs ++ (ps.drop j).zip (ds.drop j)⟩ Fi oi σ' H' ρi ∧ Agr (fun b => F1 b ∨ b = D) (upd H1 D (.lst (ps.map V.ref))) Fi H' ∧ forNGo i g δ (ds.drop j) ρi) ⟨_, o, ρ, e4, .refl, q1⟩ (fun j σ' H' _ ⟨Fi, oi, ρi, _, a, _⟩ => SqL.of (a.2 D _ rfl (.inr rfl) upd_same)) (fun j x σ' H' H'' hlt p y => ?_) (fun σ' H' p => ?_)
    · obtain ⟨Fi, oi, ρi, ei, a, q2⟩ := p
      obtain ⟨rfl, hx⟩ := y
      rw [List.length_map] at hlt
      have hlt2 : j < ds.length := by omega
      rw [List.getElem?_map, List.getElem?_eq_getElem hlt] at hx
      cases hx
      rw [List.drop_eq_getElem_cons hlt2] at q2
      rw [List.drop_eq_getElem_cons hlt, List.drop_eq_getElem_cons hlt2, List.zip_cons_cons] at ei
      have g0 := ei.gh (ps[j], ds[j]) (List.mem_append_right _ List.mem_cons_self)
      have e5 : En M pt F0 H0 ⟨z0.z, z0.gs ++ (ps.drop (j + 1)).zip (ds.drop (j + 1))⟩ Fi oi σ' H'' ρi := ei.gh0 fun g hg => ei.gh g ((List.mem_append.mp hg).elim (fun z => List.mem_append_left _ z) fun z => List.mem_append_right _ (List.mem_cons_of_mem _ z))
      have nin : ps[j] ∉ ps.drop (j + 1) := by
        have := nd.sublist (List.drop_sublist j ps)
        rw [List.drop_eq_getElem_cons hlt] at this
        exact (List.nodup_cons.mp this).1
      have e6 := e5.setOwn (i := i) g0.rb g0.nw g0.nf (fun k a _ hk z => g0.no k (z ▸ hk)) i0 fun g hg z => by
        rcases List.mem_append.mp hg with w | w
        · exact zg _ (List.getElem_mem hlt) g w z
        · exact nin (by have := (List.of_mem_zip (a := _) (b := _) w).1; rw [← z] at this; exact this)
      refine h2.run (δ := { nx := forNGo i g δ (ds.drop (j + 1)), rt := δ.rt, bk := δ.nx, ct := forNGo i g δ (ds.drop (j + 1)) }) e6 ⟨fun F' o' σ5 H5 ρ5 e5 a5 q5 => ⟨F', o', ρ5, e5, a.trans a5, q5⟩, fun F' o' σ5 H5 ρ5 e5 a5 q5 => ?_, fun F' o' σ5 H5 ρ5 e5 a5 q5 => ⟨F', o', ρ5, e5, a.trans a5, q5⟩, l.rt⟩ q2
      exact l.nx _ _ _ _ _ (e5.gh0 (gs := z0.gs) fun g hg => e5.gh g (List.mem_append_left _ hg)) (a4.trans (a.trans a5)) q5
    · obtain ⟨Fi, oi, ρi, ei, a, q2⟩ := p
      rw [List.length_map] at ei q2
      rw [show ds.drop ps.length = [] from List.drop_of_length_le (by omega)] at q2
      exact l.nx _ _ _ _ _ (ei.gh0 (gs := z0.gs) fun g hg => ei.gh g (List.mem_append_left _ hg)) (a4.trans a) q2⟩
/-! ### a new list of new things -/
class DN2 (M : Cm) (t : TE) (g : outParam GE) : Prop where
  run : ∀ {pt F0 : Addr → Prop} {H0 : Hp} {z0 : Gh} {F : Addr → Prop} {o : Ow} {σ : L2.St} {H : Hp} {ρ : Rho} {P : D → Prop} {Q : VK}, En M pt F0 H0 z0 F o σ H ρ → g ρ P → (∀ ds F' H' p cs, P (.lst ds) → Ext M pt F H F' H' → H' p = some (.lst (cs.map V.ref)) → Kids M pt F' H' cs ds → (p :: cs).Nodup → (∀ a ∈ p :: cs, Nw H a ∧ ¬ F' a) → Q (.ref p) H') → t σ H Q
theorem NewL.kids {ps : List Addr} {ds : List D} (n : NewL M pt F H H' ps ds) : Kids M pt F H' ps ds := by
  induction n with
  | nil => exact .nil
  | cons r a b c _ ih => exact .cons r ih
theorem NewL.nodup {ps : List Addr} {ds : List D} (n : NewL M pt F H H' ps ds) : ps.Nodup := by
  induction n with
  | nil => exact List.nodup_nil
  | cons r a b c _ ih => exact List.nodup_cons.mpr ⟨c, ih⟩
instance {ta : TA} {ga : GA} [h : DNs M ta ga] : DN2 M (tLst ta) (gLst ga) := ⟨fun {pt F0 H0 z0 F o σ H ρ P Q} e q k => h.run e q fun ds F1 H1 ps q1 x1 nl => by
  have hl := nl.kids.length
  refine ⟨by rw [List.length_map, hl, sizeLine_eq]; exact q1.1, fun p np => ?_⟩
  have ok1 := (e.step x1).ok
  have x2 := Ext.put0 (F := F1) ok1 (o := .lst (ps.map V.ref)) np
  have nps : p ∉ ps := fun z => (nl.live p z).1.ne np
  refine k ds F1 _ p ps q1.2 (x1.trans x2) upd_same (nl.kids.tr (fun b u t f hu => ⟨f, x2.same b u t (fun z => ok1.dis b z f) hu⟩) fun a ha u _ hu => by rw [upd_ne (fun (z : a = p) => nps (z ▸ ha))]; exact hu) (List.nodup_cons.mpr ⟨nps, nl.nodup⟩) fun a ha => ?_
  rcases List.mem_cons.mp ha with rfl | z
  · exact ⟨x1.nn np, fun z => (ok1.liv _ z).ne np⟩
  · exact ⟨nl.all a z, (nl.live a z).2⟩⟩
theorem Kids.app {cs ps : List Addr} {ds es : List D} (k : Kids M pt F H cs ds) (l : Kids M pt F H ps es) : Kids M pt F H (cs ++ ps) (ds ++ es) := by
  induction k with
  | nil => exact l
  | cons r k ih => exact .cons r ih
/-- [.. for ..]: each item a new thing -/
instance {wi : TI} {gi : GA} {tg : TG} {ws vs : List Nat} {bd : BD} {tt : TT} {gt : GT} {te : TE} {ge : GE} [hi : DI M wi gi] [hg : DG M tg ws bd] [ht : DTT M tt gt] [he : DN M te ge] : DN2 M (tLc wi tg tt te vs) (gLc gi ws bd gt ge vs) := ⟨fun {pt F0 H0 z0 F o σ H ρ P Q} e q k =>
  hi.run e q fun ds F1 H1 J q1 x1 it D nD => by
    obtain ⟨hws, hz, q1⟩ := q1
    obtain ⟨G, Y, w, st, yl⟩ := it.ex
    have e1 := e.step x1
    have ok1 := e1.ok
    have nF1 : ¬ F1 D := fun z => (ok1.liv D z).ne nD
    have npt : ¬ pt D := ok1.not_pt nD
    refine lc_it w (fun i H' => ∃ Fi cs ys, Ext M pt F1 H1 Fi H' ∧ H' D = some (.lst (cs.map V.ref)) ∧ ¬ Fi D ∧ Kids M pt Fi H' cs ys ∧ (D :: cs).Nodup ∧ (∀ a ∈ cs, Nw H1 a ∧ ¬ Fi a) ∧ cs.length ≤ i ∧ lcGo (lcSt bd gt ge (wipeR ρ vs)) (ds.drop i) ys P)
      ⟨F1, [], [], .put0 ok1 nD, upd_same, nF1, .nil, List.nodup_cons.mpr ⟨fun z => (by cases z), List.nodup_nil⟩, fun a h => (by cases h), Nat.le_refl _, q1⟩ (fun i H' _ ⟨Fi, _, _, x, _⟩ => st H' fun b u t fb eb => x.same b u t (fun z => ok1.dis b z fb) eb) (fun i x H' H'' hlt p y => ?_) (fun H' p => ?_)
    · obtain ⟨Fi, cs, ys, x2, hD, nFi, ks, nd, al, hl, q2⟩ := p
      have ok2 := ok1.ext x2
      obtain ⟨d, F3, hd, x3, rd⟩ := yl i Fi H' x H'' hlt ok2 x2.sub (fun b u t fb eb => x2.same b u t (fun z => ok1.dis b z fb) eb) y
      have e3 := ((e1.step x2).step x3).wipe vs
      have ok3 := ok2.ext x3
      have hD3 := x3.same D _ rfl npt hD
      have ed : ds.drop i = d :: ds.drop (i + 1) := by
        obtain ⟨hlt', rfl⟩ := List.getElem?_eq_some_iff.mp hd
        exact List.drop_eq_getElem_cons hlt'
      rw [ed] at q2
      have q2 : bd d (wipeR ρ vs) (fun ρ2 => gt ρ2 fun b => if b = true then ge ρ2 (fun y => lcGo (lcSt bd gt ge (wipeR ρ vs)) (ds.drop (i + 1)) (ys ++ (some y).toList) P) else lcGo (lcSt bd gt ge (wipeR ρ vs)) (ds.drop (i + 1)) (ys ++ (none : Option Dl.D).toList) P) := q2
      -- what stands aside is kept
      have keep : ∀ {Fa Fb : Addr → Prop} {Ha Hb : Hp}, Ext M pt Fa Ha Fb Hb → Ok M pt Fa Ha → Ha D = some (.lst (cs.map V.ref)) → ¬ Fa D → Kids M pt Fa Ha cs ys → (∀ a ∈ cs, ¬ Fa a) → Hb D = some (.lst (cs.map V.ref)) ∧ ¬ Fb D ∧ Kids M pt Fb Hb cs ys ∧ ∀ a ∈ cs, ¬ Fb a := fun {Fa Fb Ha Hb} xx oo h1 h2 h3 h4 => by
        refine ⟨xx.same D _ rfl npt h1, fun z => (xx.new D z).elim h2 fun n => n.no (.at_ h1), h3.tr (Ext.up oo xx) fun a ha u t hu => xx.same a u t (h3.live a ha).2 hu, fun a ha z => (xx.new a z).elim (h4 a ha) fun n => n.no (h3.live a ha).1⟩
      obtain ⟨hD3, nF3, k3, al3⟩ := keep x3 ok2 hD nFi ks fun a ha => (al a ha).2
      refine hg.run e3 q2 rd fun σ2 ρ2 q4 e4 l4 w4 => ⟨wipe_eq (ws := ws) (by rw [l4, wipe_length]) w4 hws, ?_⟩
      refine ht.run e4 q4 fun c F5 H5 q5 x5 => ?_
      have e5 := e4.step x5
      have ok5 := e5.ok
      obtain ⟨hD5, nF5, k5, al5⟩ := keep x5 ok3 hD3 nF3 k3 al3
      cases c with
      | true =>
        rw [if_pos rfl]
        refine he.run e5 q5 fun d6 F6 H6 p6 q6 x6 r6 n6 nf6 => ?_
        obtain ⟨hD6, nF6, k6, al6⟩ := keep x6 ok5 hD5 nF5 k5 al5
        have xx := ((x2.trans x3).trans x5).trans x6
        have pD : p6 ≠ D := fun z => n6.no (z ▸ .at_ hD5)
        have pcs : p6 ∉ cs := fun z => n6.no (k5.live p6 z).1
        have up : ∀ b u, nt u = true → F6 b → H6 b = some u → F6 b ∧ upd H6 D (.lst ((cs ++ [p6]).map V.ref)) b = some u := fun b u _ fb eb => ⟨fb, by rw [upd_ne (fun (z : b = D) => nF6 (z ▸ fb))]; exact eb⟩
        have ndD := (List.nodup_cons.mp nd)
        refine ⟨cs.map V.ref, hD6, by rw [sizeLine_eq, List.length_map]; omega, ?_⟩
        rw [show cs.map V.ref ++ [V.ref p6] = (cs ++ [p6]).map V.ref by rw [List.map_append]; rfl]
        refine ⟨F6, cs ++ [p6], ys ++ [d6], Ext.updNew ok1 xx nD (pln_at hD6), upd_same, nF6, (k6.tr up fun a ha u _ hu => by rw [upd_ne (fun (z : a = D) => ndD.1 (z ▸ ha))]; exact hu).app (.cons (r6.tr up fun a z u _ hu => by cases z; rw [upd_ne pD]; exact hu) .nil), ?_, fun a ha => ?_, by rw [List.length_append]; show cs.length + 1 ≤ _; omega, q6⟩
        · refine List.nodup_cons.mpr ⟨fun z => ?_, List.nodup_append.mpr ⟨ndD.2, List.nodup_cons.mpr ⟨fun z => (by cases z), List.nodup_nil⟩, fun a ha b hb z => ?_⟩⟩
          · rcases List.mem_append.mp z with w | w
            · exact ndD.1 w
            · exact pD (List.mem_singleton.mp w).symm
          · rw [List.mem_singleton.mp hb] at z
            exact pcs (z ▸ ha)
        · rcases List.mem_append.mp ha with w | w
          · exact ⟨(al a w).1, al6 a w⟩
          · rw [List.mem_singleton.mp w]
            exact ⟨((x2.trans x3).trans x5).nw n6, nf6⟩
      | false =>
        rw [if_neg Bool.false_ne_true]
        refine ⟨F5, cs, ys, (x2.trans x3).trans x5, hD5, nF5, k5, nd, fun a ha => ⟨(al a ha).1, al5 a ha⟩, by omega, ?_⟩
        have q5 : lcGo (lcSt bd gt ge (wipeR ρ vs)) (ds.drop (i + 1)) (ys ++ (none : Option Dl.D).toList) P := q5
        rw [Option.toList_none, List.append_nil] at q5
        exact q5
    · obtain ⟨Fi, cs, ys, x2, hD, nFi, ks, nd, al, hl, q2⟩ := p
      rw [List.drop_length] at q2
      refine k ys Fi H' D cs q2 (x1.trans x2) hD ks nd fun a ha => ?_
      rcases List.mem_cons.mp ha with rfl | z
      · exact ⟨x1.nn nD, nFi⟩
      · exact ⟨x1.nw (al a z).1, (al a z).2⟩⟩
/-- a name for a new list of new things -/
def tAsgQ (te : TE) (i : Nat) : TS := tAsg te (L2.gName i)
theorem ps_own2 {X : Cx} {st : Stmt} {te : TE} {i : Nat} (h : PS X st (tAsg te (L2.gName i))) : PS X st (tAsgQ te i) := h
def sAsgQ (ga : GE) (i : Nat) : GS := fun δ ρ => i ≠ 0 ∧ ga ρ fun x => match x with | .lst ds => δ.nx (ρ.set i (.own2 ds)) | _ => False
instance {ta : TE} {ga : GE} {i : Nat} [h1 : DN2 M ta ga] : DS M m (tAsgQ ta i) (sAsgQ ga i) := ⟨fun {pt F0 H0 z0 F o σ H ρ δ E} e l ⟨i0, q⟩ =>
  h1.run e q fun ds F1 H1 p cs q1 x1 hp ks nd al => by
    have e1 := e.step x1
    have live : ∀ a ∈ p :: cs, ¬ pt a := fun a ha => by
      rcases List.mem_cons.mp ha with rfl | z
      · exact e.ok.not_pt' (al _ List.mem_cons_self).1
      · exact (ks.live a z).2
    exact l.nx _ _ _ _ _ (e1.setOwn2 (i := i) hp ks nd (fun a ha => ⟨e.ext.nw (al a ha).1, (al a ha).2, live a ha⟩) (fun j a _ hj z => (al a z).1.no (e.owlOk hj).2.2.1) i0 fun g hg z => (al _ z).1.no (rb_some (e.gh g hg).rb).1) (Agr.of e.ok x1) q1⟩
/-- one of the things of an own list, to be read -/
def tIx2 (K : PySem.W.Frag) (i : Nat) (tb : TE) : TE := tOp (rIxL K) (tVar i) tb
theorem pe_ix2 {X : Cx} {e : Expr} {i : Nat} {tb : TE} (h : PE X e (tOp (rIxL X.K) (tVar i) tb)) : PE X e (tIx2 X.K i tb) := h
def gIx2 (i : Nat) (gb : GE) : GE := fun ρ P => match ρ[i]? with | some (.own2 ds) => gb ρ fun y => ∃ (n : Int) (d : D), y = .int n ∧ atI ds n = some d ∧ P d | _ => False
theorem Kids.atI {cs : List Addr} {ds : List D} {n : Int} {d : D} (k : Kids M pt F H cs ds) (h : atI ds n = some d) : ∃ c, L2.atI (cs.map V.ref) n = some (.ref c) ∧ Rb M pt F H (.ref c) d := by
  unfold L2.atI at h ⊢
  rw [List.length_map, k.length]
  cases e : ixN ds.length n with
  | none => rw [e] at h; cases h
  | some j =>
    rw [e] at h
    obtain ⟨c, hc, r⟩ := k.get h
    exact ⟨c, by show (cs.map V.ref)[j]? = _; rw [List.getElem?_map, hc]; rfl, r⟩
instance {tb : TE} {gb : GE} {i : Nat} [h1 : DB M tb gb] : DB M (tIx2 K i tb) (gIx2 i gb) := ⟨fun {pt F0 H0 z0 F o σ H ρ P Q} e q k => by
  unfold gIx2 at q
  split at q
  · rename_i ds hds
    obtain ⟨a, _⟩ := e.sl i _ hds
    refine ⟨_, a, h1.run e q fun d1 F1 H1 v1 q1 x1 r1 => ?_⟩
    obtain ⟨n, d, rfl, hd, q2⟩ := q1
    cases rb_int r1
    obtain ⟨_, hl, ks, _⟩ := (e.step x1).sl i _ hds
    obtain ⟨c, hc, r⟩ := ks.atI hd
    exact ⟨_, _, n, _, rfl, rfl, SqL.of hl, hc, k d F1 H1 _ q2 x1 r⟩
  · exact q.elim⟩
end
end Dl

/-! list(zip(a, b)) -/
namespace Cr
open PySem PySem.Spec
/-- a zip whose last tuple is still in use -/
abbrev ZipOut (h : Heap) (z TI TO T : Addr) (f : Bool) : Prop :=
  h.get? z = some { cls := .type "zip", dict := none, data := .fields #[rawInt T, .bool f, .bool false, .ref TI, .ref TO], slots := #[] }
section
variable {prog : Program} {w : World} {A : Around} {E : Value → Shared → Prop} {s : Shared}
theorem look_up {a : Addr} {o : Obj} {Q : Option Obj → Shared → Prop} (ho : s.heap.get? a = some o) (h : Q (some o) s) : wpAny (model prog w) A (loadIfAlive a) Q E s :=
  fun _ _ _ => show Q (s.heap.get? a) s from ho ▸ h
/-- whether the last tuple is free: it is not -/
theorem not_free {z TI TO T : Addr} {f : Bool} {oT : Obj} {Q : Bool → Shared → Prop} (hz : ZipOut s.heap z TI TO T f) (al : s.heap.get? T = some oT)
    (q : ∀ h', ZipOut h' z TI TO T true → Heap.SameBut z s.heap h' → Q false { s with heap := h' }) : wpAny (model prog w) A (Builtin.SmallTypes.ownedTupleIsFree (.ref z)) Q E s := by
  unfold Builtin.SmallTypes.ownedTupleIsFree
  refine wpAny_bind (wpAny_field hz rfl (x := rawInt T) rfl ?_)
  show wpAny _ _ (loadIfAlive ((T : Int).toNat) >>= _) _ _ _
  rw [Int.toNat_natCast]
  refine wpAny_bind (look_up al ?_)
  simp only [Option.isNone_some, Bool.false_eq_true, if_false]
  refine wpAny_bind (wpAny_field hz rfl (x := .bool f) rfl ?_)
  cases f with
  | true => exact wpAny_pure (q _ hz (Heap.SameBut.refl _ _))
  | false =>
    rw [if_pos (show (Value.bool false != Value.bool true) = true from rfl)]
    exact wpAny_bind (wpAny_setField_rec hz (by simp) fun h' hz' sb => wpAny_pure (q h' hz' sb))
theorem zip_more {z TI TO i1 i2 l1 l2 T : Addr} {f : Bool} {oT : Obj} {k : Nat} {xs ys : Array Value} {x y : Value} {Q : Value → Shared → Prop} (D : ZipApart z TI TO i1 i2 l1 l2)
    (hz : ZipOut s.heap z TI TO T f) (al : s.heap.get? T = some oT) (hTI : IsPair s.heap TI (.ref i1) (.ref i2))
    (h1 : s.heap.IsListIter i1 l1 k) (h2 : s.heap.IsListIter i2 l2 k) (hl1 : s.heap.IsList l1 xs) (hl2 : s.heap.IsList l2 ys) (hx : xs[k]? = some x) (hy : ys[k]? = some y)
    (q : ∀ h', ZipOut h' z TI TO T true → h'.IsListIter i1 l1 (k + 1) → h'.IsListIter i2 l2 (k + 1) → IsPair h' s.heap.objs.size x y → (∀ c o, c ≠ z → c ≠ i1 → c ≠ i2 → s.heap.get? c = some o → h'.get? c = some o) → Q (.ref s.heap.objs.size) { s with heap := h' }) :
    wpAny (model prog w) A (Builtin.«zip.__next__» ⟨[.ref z], []⟩) (fun fin s' => ∃ v, fin = .done (.ret v) ∧ Q v s') E s := by
  refine wpAny_bind (wpAny_pure ?_)
  refine wpAny_bind (wpAny_field hz rfl (x := .bool false) rfl ?_)
  refine wpAny_bind (wpAny_field hz rfl (x := .ref TI) rfl ?_)
  refine wpAny_bind (wpAny_seqItems hTI rfl ?_)
  refine wpAny_bind (not_free hz al fun h0 hz0 sb0 => ?_)
  simp only [Bool.false_eq_true, if_false, List.forIn_toArray, List.forIn_cons, List.forIn_nil]
  have k0 : ∀ c o, c ≠ z → s.heap.get? c = some o → h0.get? c = some o := fun c o n e => sb0.extBut _ _ n e
  refine wpAny_bind (wpAny_bind (wpAny_bind (wpAny_holding ?_)))
  show wpAny _ _ (Builtin.SmallTypes.nextOf (.ref i1) >>= _) _ _ _
  refine wpAny_bind (wpAny_nextOf_list_item (h1.extBut sb0.extBut D.i1z) (hl1.extBut sb0.extBut D.l1z) hx fun g1 a1 b1 => wpAny_pure ?_)
  refine wpAny_pure (wpAny_bind (wpAny_bind (wpAny_holding ?_)))
  show wpAny _ _ (Builtin.SmallTypes.nextOf (.ref i2) >>= _) _ _ _
  refine wpAny_bind (wpAny_nextOf_list_item ((h2.extBut sb0.extBut D.i2z).extBut b1.extBut D.i12.symm) ((hl2.extBut sb0.extBut D.l2z).extBut b1.extBut D.l2i1) hy fun g2 a2 b2 => wpAny_pure (wpAny_pure (wpAny_pure (wpAny_bind (wpAny_newTuple ?_ (by show 2 ≤ sizeLine; decide))))))
  have sz : g2.objs.size = s.heap.objs.size := b2.1.trans (b1.1.trans sb0.1)
  have kp : ∀ c o, c ≠ z → c ≠ i1 → c ≠ i2 → s.heap.get? c = some o → (g2.push { cls := .type "tuple", data := .seq #[x, y] }).get? c = some o := fun c o c1 c2 c3 e =>
    Heap.get?_push_of_some _ (b2.extBut _ _ c3 (b1.extBut _ _ c2 (k0 _ _ c1 e)))
  refine wpAny_pure ⟨_, rfl, ?_⟩
  show Q (.ref g2.objs.size) { s with heap := g2.push { cls := .type "tuple", data := .seq #[x, y] } }
  have new : IsPair (g2.push { cls := .type "tuple", data := .seq #[x, y] }) g2.objs.size x y := Heap.get?_push_size _ rfl
  rw [sz] at new ⊢
  exact q _ (Heap.get?_push_of_some _ (b2.extBut _ _ D.i2z.symm (b1.extBut _ _ D.i1z.symm hz0))) ((a1.extBut b2.extBut D.i12).at fun o e => Heap.get?_push_of_some _ e) (a2.at fun o e => Heap.get?_push_of_some _ e) new kp
theorem zip_stop {z TI TO i1 i2 l1 l2 T : Addr} {f : Bool} {oT : Obj} {k : Nat} {xs : Array Value} {Q : PySem.Fin → Shared → Prop} (calm : A.handled = none) (D : ZipApart z TI TO i1 i2 l1 l2)
    (hz : ZipOut s.heap z TI TO T f) (al : s.heap.get? T = some oT) (hTI : IsPair s.heap TI (.ref i1) (.ref i2)) (h1 : s.heap.IsListIter i1 l1 k) (hl1 : s.heap.IsList l1 xs) (hx : xs[k]? = none)
    (q : ∀ h' e, (∀ c o, c ≠ z → c ≠ i1 → s.heap.get? c = some o → h'.get? c = some o) → (∃ o, h'.get? e = some o ∧ o.cls = .type "StopIteration") → E (.ref e) { s with heap := h' }) :
    wpAny (model prog w) A (Builtin.«zip.__next__» ⟨[.ref z], []⟩) Q E s := by
  refine wpAny_bind (wpAny_pure ?_)
  refine wpAny_bind (wpAny_field hz rfl (x := .bool false) rfl ?_)
  refine wpAny_bind (wpAny_field hz rfl (x := .ref TI) rfl ?_)
  refine wpAny_bind (wpAny_seqItems hTI rfl ?_)
  refine wpAny_bind (not_free hz al fun h0 hz0 sb0 => ?_)
  simp only [Bool.false_eq_true, if_false, List.forIn_toArray, List.forIn_cons, List.forIn_nil]
  refine wpAny_bind (wpAny_bind (wpAny_bind (wpAny_holding ?_)))
  show wpAny _ _ (Builtin.SmallTypes.nextOf (.ref i1) >>= _) _ _ _
  exact wpAny_bind (wpAny_nextOf_list_end calm (h1.extBut sb0.extBut D.i1z) (hl1.extBut sb0.extBut D.l1z) hx fun g e keep he => q g e (fun c o c1 c2 hc => keep _ _ c2 (sb0.extBut _ _ c1 hc)) he)
theorem next_more {z TI TO i1 i2 l1 l2 T : Addr} {f : Bool} {oT : Obj} {k : Nat} {xs ys : Array Value} {x y : Value} {Q : Option Value → Shared → Prop} (D : ZipApart z TI TO i1 i2 l1 l2)
    (hz : ZipOut s.heap z TI TO T f) (al : s.heap.get? T = some oT) (hTI : IsPair s.heap TI (.ref i1) (.ref i2))
    (h1 : s.heap.IsListIter i1 l1 k) (h2 : s.heap.IsListIter i2 l2 k) (hl1 : s.heap.IsList l1 xs) (hl2 : s.heap.IsList l2 ys) (hx : xs[k]? = some x) (hy : ys[k]? = some y)
    (q : ∀ h', ZipOut h' z TI TO T true → h'.IsListIter i1 l1 (k + 1) → h'.IsListIter i2 l2 (k + 1) → IsPair h' s.heap.objs.size x y → (∀ c o, c ≠ z → c ≠ i1 → c ≠ i2 → s.heap.get? c = some o → h'.get? c = some o) → Q (some (.ref s.heap.objs.size)) { s with heap := h' }) :
    wpAny (model prog w) A (pyNext (.ref z)) Q E s := by
  have ty : s.TypeIs (.ref z) "zip" := ⟨_, hz, rfl⟩
  exact wpAny_bind (wpAny_attempt (wpAny_callSpecial?_slot (name := Str.ofString "__next__") ty PySem.F.slot_zip_next (wpAny_call_entry PySem.F.slot_zip_next ty PySem.F.entry_zip_next
    (zip_more D hz al hTI h1 h2 hl1 hl2 hx hy fun h' b1 b2 b3 b4 b5 => wpAny_pure (q h' b1 b2 b3 b4 b5)) (PySem.F.args_zip_next_1 _))))
theorem next_stop {z TI TO i1 i2 l1 l2 T : Addr} {f : Bool} {oT : Obj} {k : Nat} {xs : Array Value} {Q : Option Value → Shared → Prop} (calm : A.handled = none) (D : ZipApart z TI TO i1 i2 l1 l2)
    (hz : ZipOut s.heap z TI TO T f) (al : s.heap.get? T = some oT) (hTI : IsPair s.heap TI (.ref i1) (.ref i2)) (h1 : s.heap.IsListIter i1 l1 k) (hl1 : s.heap.IsList l1 xs) (hx : xs[k]? = none)
    (q : ∀ h', (∀ c o, c ≠ z → c ≠ i1 → s.heap.get? c = some o → h'.get? c = some o) → Q none { s with heap := h' }) :
    wpAny (model prog w) A (pyNext (.ref z)) Q E s := by
  have ty : s.TypeIs (.ref z) "zip" := ⟨_, hz, rfl⟩
  refine wpAny_bind (wpAny_attempt (wpAny_callSpecial?_slot (name := Str.ofString "__next__") ty PySem.F.slot_zip_next (wpAny_call_entry PySem.F.slot_zip_next ty PySem.F.entry_zip_next
    (zip_stop calm D hz al hTI h1 hl1 hx fun h' e keep he => ?_) (PySem.F.args_zip_next_1 _))))
  obtain ⟨o, ho, hc⟩ := he
  exact wpAny_bind (wpAny_isInstance (T := "StopIteration") (b := true) ⟨o, ho, hc⟩ isSubtype_stop (wpAny_pure (q h' keep)))
/-- a zip of two lists that has given i pairs -/
def ZipAt (h : Heap) (z TI TO i1 i2 l1 l2 S : Addr) (xs ys : Array Value) (i : Nat) : Prop :=
  ((i = 0 ∧ IsZip h z TI TO .none ∧ ∃ a b, IsPair h TO a b) ∨ ∃ T f o, ZipOut h z TI TO T f ∧ h.get? T = some o ∧ T ≠ S) ∧ IsPair h TI (.ref i1) (.ref i2) ∧ h.IsListIter i1 l1 i ∧ h.IsListIter i2 l2 i ∧ h.IsList l1 xs ∧ h.IsList l2 ys
structure ZipOff (z TI TO i1 i2 l1 l2 S : Addr) : Prop where
  z : z ≠ S
  TI : TI ≠ S
  TO : TO ≠ S
  i1 : i1 ≠ S
  i2 : i2 ≠ S
  l1 : l1 ≠ S
  l2 : l2 ≠ S
section
variable {z TI TO i1 i2 l1 l2 S : Addr} {xs ys : Array Value} {i : Nat}
theorem ZipAt.off {h h' : Heap} (O : ZipOff z TI TO i1 i2 l1 l2 S) (q : ZipAt h z TI TO i1 i2 l1 l2 S xs ys i) (k : ∀ b o, b ≠ S → h.get? b = some o → h'.get? b = some o) : ZipAt h' z TI TO i1 i2 l1 l2 S xs ys i := by
  obtain ⟨a, b, c, d, e, f⟩ := q
  refine ⟨?_, k _ _ O.TI b, c.at fun o q => k _ o O.i1 q, d.at fun o q => k _ o O.i2 q, e.at fun o q => k _ o O.l1 q, f.at fun o q => k _ o O.l2 q⟩
  rcases a with ⟨a1, a2, x, y, a3⟩ | ⟨T, f, o, a1, a2, a3⟩
  · exact .inl ⟨a1, k _ _ O.z a2, x, y, k _ _ O.TO a3⟩
  · exact .inr ⟨T, f, o, k _ _ O.z a1, k _ _ a3 a2, a3⟩
theorem ZipAt.next {x y : Value} {Q : Option Value → Shared → Prop} (D : ZipApart z TI TO i1 i2 l1 l2) (q : ZipAt s.heap z TI TO i1 i2 l1 l2 S xs ys i) (hx : xs[i]? = some x) (hy : ys[i]? = some y) (lS : S < s.heap.objs.size)
    (h : ∀ h', ZipAt h' z TI TO i1 i2 l1 l2 S xs ys (i + 1) → IsPair h' s.heap.objs.size x y → (∀ c o, c ≠ z → c ≠ TO → c ≠ i1 → c ≠ i2 → s.heap.get? c = some o → h'.get? c = some o) → Q (some (.ref s.heap.objs.size)) { s with heap := h' }) :
    wpAny (model prog w) A (pyNext (.ref z)) Q E s := by
  obtain ⟨a, b, c, d, e, f⟩ := q
  rcases a with ⟨rfl, a2, u, v, a3⟩ | ⟨T, g, o, a1, a2, a3⟩
  · refine wpAny_pyNext_zip_item D a2 b a3 c d e f hx hy fun h' b1 b2 b3 b4 b5 b6 k => h h' ⟨.inr ⟨_, false, _, b1, b5, Nat.ne_of_gt lS⟩, k _ _ D.TIz D.TITO D.TIi1 D.TIi2 b, b3, b4, ?_, ?_⟩ b5 k
    · exact e.at fun o q => k _ o D.l1z D.l1TO D.l1i1 D.l1i2 q
    · exact f.at fun o q => k _ o D.l2z D.l2TO D.l2i1 D.l2i2 q
  · refine next_more D a1 a2 b c d e f hx hy fun h' b1 b2 b3 b4 k => h h' ⟨.inr ⟨T, true, ?_⟩, k _ _ D.TIz D.TIi1 D.TIi2 b, b2, b3, e.at fun o q => k _ o D.l1z D.l1i1 D.l1i2 q, f.at fun o q => k _ o D.l2z D.l2i1 D.l2i2 q⟩ b4 fun c o c1 _ c3 c4 => k c o c1 c3 c4
    by_cases t1 : T = z
    · subst t1
      exact ⟨_, b1, b1, a3⟩
    by_cases t2 : T = i1
    · obtain ⟨p, p1, _⟩ := b2
      exact ⟨p, b1, t2 ▸ p1, a3⟩
    by_cases t3 : T = i2
    · obtain ⟨p, p1, _⟩ := b3
      exact ⟨p, b1, t3 ▸ p1, a3⟩
    exact ⟨o, b1, k _ _ t1 t2 t3 a2, a3⟩
theorem ZipAt.stop {Q : Option Value → Shared → Prop} (calm : A.handled = none) (D : ZipApart z TI TO i1 i2 l1 l2) (q : ZipAt s.heap z TI TO i1 i2 l1 l2 S xs ys i) (hx : xs[i]? = none)
    (h : ∀ h', (∀ c o, c ≠ z → c ≠ TO → c ≠ i1 → c ≠ i2 → s.heap.get? c = some o → h'.get? c = some o) → Q none { s with heap := h' }) : wpAny (model prog w) A (pyNext (.ref z)) Q E s := by
  obtain ⟨a, b, c, d, e, f⟩ := q
  rcases a with ⟨rfl, a2, u, v, a3⟩ | ⟨T, g, o, a1, a2, a3⟩
  · exact wpAny_pyNext_zip_end calm D a2 b a3 c d e f (.inl hx) h
  · exact next_stop calm D a1 a2 b c e hx fun h' k => h h' fun c o c1 _ c3 _ => k c o c1 c3
end
section
open PySem.W
variable {R : Result → Shared → Prop} {z TI TO i1 i2 l1 l2 S : Addr} {xs ys : Array Value} {κ : Type} [DecidableEq κ] {kd : KeyKind prog w κ} {kvs : List (κ × Value)}
theorem kdx_keep {lo : Addr} {h h' : Heap} {as : List Addr} (g : KdxG kd kvs lo h as) (k : ∀ b o, b ∈ as → h.get? b = some o → h'.get? b = some o) : KdxG kd kvs lo h' as :=
  ⟨g.rise, g.above, fun j a ha => let ⟨key, kk, x, h1, h2, h3⟩ := g.pairs j a ha; ⟨key, kk, x, h1, h2, k a _ (List.mem_of_getElem? ha) h3⟩⟩
/-- the walk of a list that is made of a zip -/
theorem zip_list (calm : A.handled = none) (D : ZipApart z TI TO i1 i2 l1 l2) (O : ZipOff z TI TO i1 i2 l1 l2 S) (below : z < S ∧ TO < S ∧ i1 < S ∧ i2 < S) (lx : xs.size = kvs.length) (sm : kvs.length ≤ 1000)
    (key : ∀ (j : Nat) k v, kvs[j]? = some (k, v) → ∃ x, xs[j]? = some x ∧ kd.is k x = true ∧ ys[j]? = some v) :
    ∀ (left i : Nat), i + left = kvs.length → ∀ (s : Shared) (as : List Addr) (acc : Array Value) (c : Nat), as.length = i → acc.toList = as.map Value.ref → ZipAt s.heap z TI TO i1 i2 l1 l2 S xs ys i → s.heap.get? S = some { cls := .type "list", dict := none, data := .seq acc c, slots := #[] } → KdxG kd kvs S s.heap as →
      (∀ h' as' acc' c', as'.length = kvs.length → acc'.toList = as'.map Value.ref → h'.get? S = some { cls := .type "list", dict := none, data := .seq acc' c', slots := #[] } → KdxG kd kvs S h' as' → (∀ b o, b ≠ z → b ≠ TO → b ≠ i1 → b ≠ i2 → b ≠ S → s.heap.get? b = some o → h'.get? b = some o) → R (.ok (.ret .none)) { s with heap := h' }) →
      codeAny (model prog w) A (.builtin "list.extend.loop" ⟨[.ref S, .ref z, .none], []⟩) R s
  | 0, i, e, s, as, acc, c, la, lac, za, hS, g, q => by
    refine codeAny_builtin PySem.F.entry_extend_loop ((congrArg (fun a => wpAny (model prog w) a _ _ _ s) (Around.under_plainId PySem.F.plain_extend_loop _)).mpr ?_)
    refine wpAny_bind (za.stop (by simp [calm]) D (by rw [Array.getElem?_eq_none]; omega) fun h' k => wpAny_pure ?_)
    have far : ∀ b, S ≤ b → b ≠ z ∧ b ≠ TO ∧ b ≠ i1 ∧ b ≠ i2 := fun b hb => ⟨Nat.ne_of_gt (Nat.lt_of_lt_of_le below.1 hb), Nat.ne_of_gt (Nat.lt_of_lt_of_le below.2.1 hb), Nat.ne_of_gt (Nat.lt_of_lt_of_le below.2.2.1 hb), Nat.ne_of_gt (Nat.lt_of_lt_of_le below.2.2.2 hb)⟩
    have fS := far S (Nat.le_refl _)
    exact q h' as acc c (by omega) lac (k _ _ fS.1 fS.2.1 fS.2.2.1 fS.2.2.2 hS) (kdx_keep g fun b o hb hq => have f := far b (Nat.le_of_lt (g.above b hb)); k _ _ f.1 f.2.1 f.2.2.1 f.2.2.2 hq) fun b o b1 b2 b3 b4 _ => k b o b1 b2 b3 b4
  | left + 1, i, e, s, as, acc, c, la, lac, za, hS, g, q => by
    have lt : i < kvs.length := by omega
    obtain ⟨x, hx, is, hy⟩ := key i _ _ (List.getElem?_eq_getElem lt)
    have lS : S < s.heap.objs.size := Heap.lt_size hS
    have far : ∀ b, S ≤ b → b ≠ z ∧ b ≠ TO ∧ b ≠ i1 ∧ b ≠ i2 := fun b hb => ⟨Nat.ne_of_gt (Nat.lt_of_lt_of_le below.1 hb), Nat.ne_of_gt (Nat.lt_of_lt_of_le below.2.1 hb), Nat.ne_of_gt (Nat.lt_of_lt_of_le below.2.2.1 hb), Nat.ne_of_gt (Nat.lt_of_lt_of_le below.2.2.2 hb)⟩
    have fS := far S (Nat.le_refl _)
    refine codeAny_builtin PySem.F.entry_extend_loop ((congrArg (fun a => wpAny (model prog w) a _ _ _ s) (Around.under_plainId PySem.F.plain_extend_loop _)).mpr ?_)
    refine wpAny_bind (za.next D hx hy lS fun h' za' new k => ?_)
    have hS' := k _ _ fS.1 fS.2.1 fS.2.2.1 fS.2.2.2 hS
    have sz : acc.size = i := by rw [← Array.length_toList, lac, List.length_map, la]
    refine wpAny_bind (wpAny_updateSeq hS' rfl (wpAny_pure ⟨plainId_quiet PySem.F.plain_extend_loop _, ?_⟩) (by rw [sz]; unfold sizeLine; omega) (by show (acc.push _).size ≤ sizeLine + 1; rw [Array.size_push, sz]; unfold sizeLine; omega))
    have eS := Heap.get?_update_self (Obj.mapSeq fun (a : Array Value) => a.push (Value.ref s.heap.objs.size)) hS' rfl
    have oth : ∀ b o, b ≠ S → h'.get? b = some o → (h'.update S (Obj.mapSeq fun (a : Array Value) => a.push (Value.ref s.heap.objs.size))).get? b = some o := fun b o n q => (Heap.get?_update_other _ _ n.symm).trans q
    refine zip_list calm D O below lx sm key left (i + 1) (by omega) _ (as ++ [s.heap.objs.size]) _ _ (by rw [List.length_append, la]; rfl) (by rw [Array.toList_push, lac, List.map_append]; rfl) (za'.off O oth) eS ⟨?_, fun b hb => ?_, fun j b hb => ?_⟩ fun h2 as2 acc2 c2 l2 l3 e2 g2 k2 => q h2 as2 acc2 c2 l2 l3 e2 g2 fun b o b1 b2 b3 b4 b5 hb => k2 b o b1 b2 b3 b4 b5 (oth _ _ b5 (k _ _ b1 b2 b3 b4 hb))
    · rw [List.pairwise_append]
      refine ⟨g.rise, List.pairwise_singleton _ _, fun a ha b hb => ?_⟩
      rw [List.mem_singleton.mp hb]
      exact g.there ha
    · rcases List.mem_append.mp hb with hb | hb
      · exact g.above b hb
      · rw [List.mem_singleton.mp hb]
        exact lS
    · by_cases hj : j < as.length
      · rw [List.getElem?_append_left hj] at hb
        obtain ⟨key, kk, v, h1, h2, h3⟩ := g.pairs j b hb
        have ab := g.above b (List.mem_of_getElem? hb)
        have f := far b (Nat.le_of_lt ab)
        exact ⟨key, kk, v, h1, h2, oth _ _ (Nat.ne_of_gt ab) (k _ _ f.1 f.2.1 f.2.2.1 f.2.2.2 h3)⟩
      · have hj2 : j = i := by
          have := (List.getElem?_eq_some_iff.mp hb).1
          rw [List.length_append] at this
          simp at this
          omega
        subst hj2
        rw [← la, List.getElem?_append_right (Nat.le_refl _), Nat.sub_self] at hb
        cases hb
        exact ⟨x, _, _, List.getElem?_eq_getElem lt, is, oth _ _ (Nat.ne_of_gt lS) new⟩
end
theorem zip_no_len : typeLookup (.type "zip") "__len__" = pure none := by rw [typeLookup_type, builtinLookup_eq_fast]; kernel_rfl
theorem zip_no_hint : typeLookup (.type "zip") "__length_hint__" = pure none := by rw [typeLookup_type, builtinLookup_eq_fast]; kernel_rfl
section
open PySem.W
variable {R : Result → Shared → Prop} {z TI TO i1 i2 l1 l2 S : Addr} {xs ys : Array Value} {κ : Type} [DecidableEq κ] {kd : KeyKind prog w κ} {kvs : List (κ × Value)}
/-- list.__init__ of an empty list and a new zip -/
theorem zip_init (calm : A.handled = none) (D : ZipApart z TI TO i1 i2 l1 l2) (O : ZipOff z TI TO i1 i2 l1 l2 S) (below : z < S ∧ TO < S ∧ i1 < S ∧ i2 < S) (lx : xs.size = kvs.length) (sm : kvs.length ≤ 1000)
    (key : ∀ (j : Nat) k v, kvs[j]? = some (k, v) → ∃ x, xs[j]? = some x ∧ kd.is k x = true ∧ ys[j]? = some v)
    (hz : IsZip s.heap z TI TO .none) (za : ZipAt s.heap z TI TO i1 i2 l1 l2 S xs ys 0) (hS : s.heap.get? S = some { cls := .type "list", data := .seq #[] })
    (q : ∀ h' as acc c, as.length = kvs.length → acc.toList = as.map Value.ref → h'.get? S = some { cls := .type "list", dict := none, data := .seq acc c, slots := #[] } → KdxG kd kvs S h' as → (∀ b o, b ≠ z → b ≠ TO → b ≠ i1 → b ≠ i2 → b ≠ S → s.heap.get? b = some o → h'.get? b = some o) → R (.ok (.ret .none)) { s with heap := h' }) :
    wpAny (model prog w) A.in1 (Builtin.«list.__init__» ⟨[.ref S, .ref z], []⟩)
      (fun fin s' => match fin with | .done f => R (.ok f) s' | .again c' => c'.quiet = true ∧ codeAny (model prog w) A c' R s') (fun e s' => R (.error e) s') s := by
  refine wpAny_bind (show wpAny _ _ (Builtin.List.listItems (.ref S)) _ _ s from ?_)
  unfold Builtin.List.listItems
  refine wpAny_bind (wpAny_seqItems (a := S) hS rfl (wpAny_pure (wpAny_bind (wpAny_updateSeq hS rfl ?_ (by unfold sizeLine; decide) (by unfold sizeLine; decide)))))
  have eS := Heap.get?_update_self (Obj.mapSeq fun _ => (#[] : Array Value)) hS rfl
  have oth : ∀ b o, b ≠ S → s.heap.get? b = some o → (s.heap.update S (Obj.mapSeq fun _ => (#[] : Array Value))).get? b = some o := fun b o n e => (Heap.get?_update_other _ _ n.symm).trans e
  have hz2 : IsZip (s.heap.update S (Obj.mapSeq fun _ => (#[] : Array Value))) z TI TO .none := oth _ _ O.z hz
  have za2 := za.off O oth
  refine wpAny_bind (wpAny_letGo ?_)
  have ty : Shared.TypeIs { s with heap := s.heap.update S (Obj.mapSeq fun _ => (#[] : Array Value)) } (.ref z) "zip" := ⟨_, hz2, rfl⟩
  unfold Builtin.List.listExtendWith
  refine wpAny_bind (wpAny_typeOf ty ?_)
  have c1 : Builtin.List.listSameRef (.ref S) (.ref z) = false := by simp [Builtin.List.listSameRef, O.z.symm]
  have c2 : ((Value.type "zip" == Value.type "list") || (Value.type "zip" == Value.type "tuple")) = false := by decide
  rw [Bool.or_assoc, c1, c2, Bool.or_self, if_neg Bool.false_ne_true]
  refine wpAny_bind (wpAny_pyIter_zip hz2 (wpAny_bind (wpAny_holding ?_)))
  unfold Builtin.List.listLengthHint
  refine wpAny_bind (wpAny_specialOf ty zip_no_len (wpAny_bind (wpAny_specialOf ty zip_no_hint ?_)))
  refine wpAny_pure ?_
  simp only [Bool.true_or, if_true]
  refine wpAny_bind (wpAny_rule (wpAny_bind (show wpAny _ _ (updateSeq S (·.push Value.none) >>= fun _ => updateSeq S (·.pop)) _ _ _ from wpAny_bind (wpAny_updateSeq eS rfl ?_ (by unfold sizeLine; decide) (by unfold sizeLine; decide)))))
  have eS2 := Heap.get?_update_self (Obj.mapSeq fun (a : Array Value) => a.push Value.none) eS rfl
  refine wpAny_updateSeq eS2 rfl ?_ (by unfold sizeLine; decide) (by unfold sizeLine; decide)
  have eS3 := Heap.get?_update_self (Obj.mapSeq fun (a : Array Value) => a.pop) eS2 rfl
  have oth3 : ∀ b o, b ≠ S → s.heap.get? b = some o → (((s.heap.update S (Obj.mapSeq fun _ => (#[] : Array Value))).update S (Obj.mapSeq fun (a : Array Value) => a.push Value.none)).update S (Obj.mapSeq fun (a : Array Value) => a.pop)).get? b = some o :=
    fun b o n e => (Heap.get?_update_other _ _ n.symm).trans ((Heap.get?_update_other _ _ n.symm).trans (oth b o n e))
  exact wpAny_pure ⟨plainId_quiet PySem.F.plain_extend_loop _, zip_list calm D O below lx sm key kvs.length 0 (Nat.zero_add _) _ [] #[] _ rfl rfl (za.off O oth3) eS3 ⟨.nil, (fun _ z => nomatch z), fun j a z => by cases z⟩ fun h' as acc c l1 l2 e g k => q h' as acc c l1 l2 e g fun b o b1 b2 b3 b4 b5 hb => k b o b1 b2 b3 b4 b5 (oth3 _ _ b5 hb)⟩
/-- list(..) of a new zip -/
theorem call_list_zip {Q : Value → Shared → Prop} (calm : A.handled = none) (D : ZipApart z TI TO i1 i2 l1 l2) (lx : xs.size = kvs.length) (sm : kvs.length ≤ 1000)
    (key : ∀ (j : Nat) k v, kvs[j]? = some (k, v) → ∃ x, xs[j]? = some x ∧ kd.is k x = true ∧ ys[j]? = some v)
    (hz : IsZip s.heap z TI TO .none) (hTI : IsPair s.heap TI (.ref i1) (.ref i2)) (hTO : ∃ a b, IsPair s.heap TO a b) (h1 : s.heap.IsListIter i1 l1 0) (h2 : s.heap.IsListIter i2 l2 0) (hl1 : s.heap.IsList l1 xs) (hl2 : s.heap.IsList l2 ys)
    (q : ∀ h' as acc c, as.length = kvs.length → acc.toList = as.map Value.ref → h'.get? s.heap.objs.size = some { cls := .type "list", dict := none, data := .seq acc c, slots := #[] } → KdxG kd kvs s.heap.objs.size h' as → (∀ b o, b ≠ z → b ≠ TO → b ≠ i1 → b ≠ i2 → s.heap.get? b = some o → h'.get? b = some o) → Q (.ref s.heap.objs.size) { s with heap := h' }) :
    wpAny (model prog w) A (call (.type "list") [.ref z]) Q E s := by
  have new : (s.heap.push { cls := .type "list", data := .seq #[] }).get? s.heap.objs.size = some { cls := .type "list", data := .seq #[] } := Heap.get?_push_size _ rfl
  have up : ∀ b o, s.heap.get? b = some o → (s.heap.push { cls := .type "list", data := .seq #[] }).get? b = some o := fun b o e => Heap.get?_push_of_some _ e
  have lo : ∀ {b o}, s.heap.get? b = some o → b < s.heap.objs.size := fun e => Heap.lt_size e
  obtain ⟨ta, tb, hTO⟩ := hTO
  have b1 : i1 < s.heap.objs.size := let ⟨_, e, _⟩ := h1; lo e
  have b2 : i2 < s.heap.objs.size := let ⟨_, e, _⟩ := h2; lo e
  have b3 : l1 < s.heap.objs.size := let ⟨_, e, _⟩ := hl1; lo e
  have b4 : l2 < s.heap.objs.size := let ⟨_, e, _⟩ := hl2; lo e
  refine callType_codes (Q₁ := fun v t => v = .ref s.heap.objs.size ∧ t = { s with heap := s.heap.push { cls := .type "list", data := .seq #[] } }) PySem.F.called_list (PySem.F.typeCall_list_1 _) PySem.F.entry_list_init (code_list_new _ ⟨rfl, rfl⟩) fun v t ht => ?_
  obtain ⟨rfl, rfl⟩ := ht
  refine ⟨⟨_, new, rfl⟩, PySem.F.args_list_init_2 _ _, zip_init (A := A.in1) (kd := kd) (kvs := kvs) (by simp [calm]) D ⟨Nat.ne_of_lt (lo hz), Nat.ne_of_lt (lo hTI), Nat.ne_of_lt (lo hTO), Nat.ne_of_lt b1, Nat.ne_of_lt b2, Nat.ne_of_lt b3, Nat.ne_of_lt b4⟩ ⟨lo hz, lo hTO, b1, b2⟩ lx sm key (up _ _ hz)
    ⟨.inl ⟨rfl, up _ _ hz, _, _, up _ _ hTO⟩, up _ _ hTI, h1.at fun o e => up _ o e, h2.at fun o e => up _ o e, hl1.at fun o e => up _ o e, hl2.at fun o e => up _ o e⟩ new fun h' as acc c e1 e2 e3 g k => ⟨rfl, q h' as acc c e1 e2 e3 g fun b o n1 n2 n3 n4 hb => k b o n1 n2 n3 n4 (Nat.ne_of_lt (lo hb)) (up _ _ hb)⟩⟩
end
end
end Cr

/-! own exceptions of any depth, raised -/
namespace Cr
open PySem PySem.Spec PyProof.Rows L2 Xv
section
variable {X : Cx} {k : Nat} {C fI : Addr} {fd : FuncData} {ps ks : List Str} {sp : Sp} {x f g : Str} {p pos : Pos} {e e2 : Expr} {es : List Expr} {ta tk : TA} {B newId initId : String} {bmB : List Value}
theorem run_mk {pins : List (Addr × Obj)} {σ : L2.St} {H : Hp} {s : Shared} {Q : XK} {us : List Value} {kw : List (Str × Value)} (b : Bas B newId initId bmB) (T : ExT X.K C fI newId bmB) (R : Raises X (.ref C)) (F1 : FnOk X.prog X.w X.K X.mg X.base CX0 k fI fd ps sp) (hr : Room (k + 1) X.A)
    (I : Inv X pins σ H s) (hz : us.length ≤ 1000) {al : Addr → List V} {bl : Addr → List Value} (hbl : ∀ a, Vals (al a) (bl a)) (hbind : ∀ a s', X.K.In s'.heap → BindsTo s' fd ⟨.ref a :: us, kw⟩ (ps.zip (bl a)))
    (h : ∀ a, H a = none → sp (al a) (upd H a (exo a C none)) (fun v H2 => v = .non ∧ ∃ d fs, H2 a = some (exo a C (some d)) ∧ H2 d = some (exd d fs) ∧ H d = none ∧ Q (.ref C) (some d) (upd (L2.del H2 a) d (.xd fs))) E0) :
    wpAny (model X.prog X.w) X.A (call (.ref C) us kw) (MkP X pins σ Q) X.xe s := by
  obtain ⟨nm, N', qn, bs, bm, hdct, sn, sub, ab, col, dd, k0, k1, k2, k3, k5, hC, hT⟩ := PySem.W.excInit_of I.kIn T.ini
  obtain ⟨hp, gg, dr, tk, os⟩ := s
  have hn : H (hp.objs.size + 1) = none := I.hok.fresh (Nat.le_succ _)
  have kk : ∀ b o, hp.get? b = some o → ((hp.push (PySem.W.kdv_tup us)).push (PySem.HandSPX.excO C hp.objs.size)).get? b = some o := fun b o e => Heap.get?_push_of_some _ (Heap.get?_push_of_some _ e)
  have hget : ((hp.push (PySem.W.kdv_tup us)).push (PySem.HandSPX.excO C hp.objs.size)).get? (hp.objs.size + 1) = some (PySem.HandSPX.excO C hp.objs.size) := by heap_get
  have I2 : Inv X pins σ (upd H (hp.objs.size + 1) (exo (hp.objs.size + 1) C none)) ⟨(hp.push (PySem.W.kdv_tup us)).push (PySem.HandSPX.excO C hp.objs.size), gg, dr, tk, os⟩ :=
    I.laid (t' := tk) (a := hp.objs.size + 1) (o := exo (hp.objs.size + 1) C none) (h' := (hp.push (PySem.W.kdv_tup us)).push (PySem.HandSPX.excO C hp.objs.size)) kk (Nat.le_succ _) (exo_ok hget)
  have hus : us.length ≤ sizeLine := by
    rw [sizeLine_eq]
    omega
  refine wpAny_call (PySem.Xv.call_kw b.F hT hC (PySem.W.looks_findIn I.kIn T.iC) (fun self => PySem.W.bind_fn I.kIn self (beq_iff_eq.mp T.fn)) hus
    (codeAny_mono (F1.run _ X.stack _ _ ⟨Value.ref (hp.objs.size + 1) :: us, kw⟩ _ _ _ E0 (hr.make C us kw) (I2.env0.make C us kw) (hbind _ _ I2.kIn) (hbl (hp.objs.size + 1)) (h _ hn)) fun r s' hq' => ?_))
  cases r with
  | error er => exact False.elim hq'
  | ok fl =>
    cases fl with
    | ret u =>
      obtain ⟨v, H2, os2, bare2, un2, hok2, rv, ev, d, fs, ea, ed, hd1, q2⟩ := hq'
      subst ev
      obtain ⟨h2, g2, d2, t2, os'⟩ := s'
      exact ⟨rv, mk_end R I (Nat.le_succ _) kk un2 hok2 os2 bare2 ea ed hd1 q2⟩
    | next => exact False.elim hq'
    | brk => exact False.elim hq'
    | cont => exact False.elim hq'
/-- C(e, ..), to be raised -/
def tMkX (C : Addr) (ta : TA) (fo : List V → List (Str × V)) (n : Nat) : L2.St → Hp → XK → Prop := fun σ H Q => ta σ H fun vs H1 => vs.length = n ∧ ∀ d, H1 d = none → Q (.ref C) (some d) (upd H1 d (.xd (fo vs)))
theorem upd_del {H1 H2 : Hp} {a d : Addr} {o o1 : HO} (ha : H1 a = none) (hd : H1 d = none) (same : ∀ b, b ≠ a → b ≠ d → H2 b = H1 b) : upd (L2.del H2 a) d o = upd H1 d o := by
  funext b
  by_cases e : b = d
  · rw [e, upd_same, upd_same]
  · rw [upd_ne e, upd_ne e]
    by_cases e2 : b = a
    · rw [e2, del_same, ha]
    · rw [del_ne e2]
      exact same b e2 e
theorem pmk_1 (c : Ex1 X.prog X.w X.K X.mg X.base x C f) (R : Raises X (.ref C)) (hr : Room k X.A) (hk : 2 ≤ k) (hg : Gl X x) (ha : PA X [e] ta) (hdb : (x == ("__debug__" : Str)) = false := by decide) (he : starEach [e] X.env = (false, eval e X.env) :: starEach [] X.env := by rfl) :
    PMk X (.Call (.Name x p) [e] [] pos) (tMkX C ta (fun vs => [(f, vs.headD .non)]) 1) := by
  obtain ⟨fI, fd, B, newId, initId, bmB, b, T, F, bi, _⟩ := c.ex
  intro pins s σ H Q I h
  refine wpAny_Call_Name_kw (ld_glob I hg c.gm ?_ hdb)
  refine PySem.W.callWith_K (h₀ := X.base) I.ok.mod.kin T.kC (thn (ha.run pos pins s σ H _ I h) fun us s1 ⟨vs, H1, I1, r1, hz, q1⟩ => ⟨I1.kIn, ?_⟩) he (by rfl)
  match vs, hz with
  | [v], _ =>
    have hl : us.length = 1 := by rw [← r1.length] <;> rfl
    refine run_mk (al := fun a => [.ref a, v]) (bl := fun a => .ref a :: us) b T R F (hr.mono hk) I1 (by show us.length ≤ 1000; omega) (fun a => .cons rfl r1)
      (fun a s' ki => by
        have z := bi s' (.ref a :: us) ki (by rw [List.append_nil, List.length_cons, hl] <;> rfl)
        rw [List.append_nil] at z
        exact z) fun a n => ?_
    refine ⟨a, v, rfl, upd_same, fun dx nd ne => ⟨rfl, dx, [(f, v)], upd_same, by rw [upd_ne ne, upd_same], by rw [upd_ne ne] at nd; exact nd, ?_⟩⟩
    rw [upd_ne ne] at nd
    rw [upd_del (o1 := .own a) n nd (fun b h1 h2 => by rw [upd_ne h1, upd_ne h2, upd_ne h1])]
    exact q1 dx nd
theorem pmk_2 (c : Ex2 X.prog X.w X.K X.mg X.base x C f g) (R : Raises X (.ref C)) (hr : Room k X.A) (hk : 2 ≤ k) (hg : Gl X x) (ha : PA X [e, e2] ta) (hdb : (x == ("__debug__" : Str)) = false := by decide) (he : starEach [e, e2] X.env = (false, eval e X.env) :: starEach [e2] X.env := by rfl)
    (hpl : (backTo pos (starEach [e2] X.env)).any (·.1) = false := by rfl) :
    PMk X (.Call (.Name x p) [e, e2] [] pos) (fun σ H Q => ta σ H fun vs H1 => vs.length = 2 ∧ ∀ d H', Same H1 H' → H1 d = none → H' d = some (.xd [(g, vs.getD 1 .non), (f, vs.headD .non)]) → Q (.ref C) (some d) H') := by
  obtain ⟨fI, fd, B, newId, initId, bmB, b, T, F, bi, _⟩ := c.ex
  intro pins s σ H Q I h
  refine wpAny_Call_Name_kw (ld_glob I hg c.gm ?_ hdb)
  refine PySem.W.callWith_K (h₀ := X.base) I.ok.mod.kin T.kC (thn (ha.run pos pins s σ H _ I h) fun us s1 ⟨vs, H1, I1, r1, hz, q1⟩ => ⟨I1.kIn, ?_⟩) he hpl
  match vs, hz with
  | [v, v2], _ =>
    have hl : us.length = 2 := by rw [← r1.length] <;> rfl
    refine run_mk (al := fun a => [.ref a, v, v2]) (bl := fun a => .ref a :: us) b T R F (hr.mono hk) I1 (by show us.length ≤ 1000; omega) (fun a => .cons rfl r1)
      (fun a s' ki => by
        have z := bi s' (.ref a :: us) ki (by rw [List.append_nil, List.length_cons, hl] <;> rfl)
        rw [List.append_nil] at z
        exact z) fun a n => ?_
    refine ⟨a, v, v2, rfl, upd_same, fun dx nd ne H' sm ea ed => ⟨rfl, dx, _, ea, ed, by rw [upd_ne ne] at nd; exact nd, ?_⟩⟩
    rw [upd_ne ne] at nd
    refine q1 dx _ (fun y o hy => ?_) nd upd_same
    have ya : y ≠ a := ne_of_none hy n
    rw [upd_ne (ne_of_none hy nd), del_ne ya]
    have z := sm y o (by rw [upd_ne ya]; exact hy)
    simp only [if_neg ya] at z
    exact z
end
end Cr

/-! new rows out of rows -/
namespace Cr
open PySem PySem.Spec PyProof.Rows L2 Xv
theorem pr_mem2 {α β : Type} {F : α → β → Prop} : ∀ {as : List α} {bs : List β} {a : α}, Paired F as bs → a ∈ as → ∃ b, F a b
  | _, _, _, .nil, h => nomatch h
  | _, _, _, .cons h t, m => by
    rcases List.mem_cons.mp m with z | z
    · exact ⟨_, z ▸ h⟩
    · exact pr_mem2 t z
/-- a new row out of a row: g of each entry, as te reads it -/
theorem map_lc {K : PySem.W.Frag} {J : It} {G : Hp → Prop} {es : List V} {r : Rw} {σ : L2.St} {H1 : Hp} {D : Addr} {Qd : Hp → Prop} {vs : List Nat} {i1 i2 : Nat} {te : TE} {g : Int × Int → Int × Int} (W : Walk J es.length G (YAt es)) (hG : ∀ H', Same H1 H' → G H') (hp : Paired (fun x (e : Int × Int) => ∃ t, x = V.ref t ∧ H1 t = some (.tup [.int e.1, .int e.2])) es r) (hz : es.length ≤ 1000) (hD : H1 D = none)
    (hw : ∀ v w, wipe (((wipe σ vs).set i1 (some v)).set i2 (some w)) vs = wipe σ vs)
    (hte : ∀ (e : Int × Int) (H3 : Hp) (Qv : VK), e ∈ r → Same H1 H3 → (∀ H4 t, Same H3 H4 → H3 t = none → H4 t = some (.tup [.int (g e).1, .int (g e).2]) → Qv (.ref t) H4) → te (((wipe σ vs).set i1 (some (.int e.1))).set i2 (some (.int e.2))) H3 Qv)
    (hd : ∀ H2 S, Same H1 H2 → (∀ b, S b → Nw H1 H2 b) → Dt K S H2 (.ref D) (rowD (r.map g)) → Qd H2) :
    ∃ W : Nat → Nat → Hp → Prop, (∃ m, W 0 m (upd H1 D (.lst []))) ∧ ∀ i m H, W i m H →
      (J.stop i H ∧ Qd H) ∨ (J.go i H ∧ ∃ Nx : Hp → Prop, (∀ H', Nx H' → ∃ m', m' < m ∧ W (i + 1) m' H') ∧ ∀ x H', J.yld i H x H' → gTup K 2 (gCons (gName i1) (gCons (gName i2) gNil)) x (wipe σ vs) H' fun σ2 H2 => wipe σ2 vs = wipe σ vs ∧ tYes σ2 H2 fun b H3 =>
        if b = true then te σ2 H3 fun y H4 => ∃ acc, H4 D = some (.lst acc) ∧ acc.length < sizeLine ∧ Nx (upd H4 D (.lst (acc ++ [y]))) else Nx H3) := by
  have hl : es.length = r.length := Paired.length hp
  refine lc_it W (fun i H' => ∃ ts : List Addr, ts.length = i ∧ H' D = some (.lst (ts.map V.ref)) ∧ Same H1 H' ∧ (∀ t ∈ ts, H1 t = none ∧ t ≠ D) ∧ Paired (fun t (e : Int × Int) => H' t = some (.tup [.int (g e).1, .int (g e).2])) ts (r.take i))
    ⟨[], rfl, upd_same, same_upd hD, by simp, .nil⟩ (fun i H' _ ⟨_, _, _, s, _⟩ => hG _ s) (fun i x H' H'' hi e y => ?_) (fun H' e => ?_)
  · obtain ⟨rfl, hx⟩ := y
    obtain ⟨ts, e1, e2, e3, e4, e5⟩ := e
    obtain ⟨e, he, t0, rfl, ht0⟩ := Xv.paired_get hp hx
    refine ⟨t0, _, rfl, .inl (.inl (e3 _ _ ht0)), rfl, _, _, rfl, _, _, rfl, ⟨rfl, hw _ _, ?_⟩⟩
    unfold tYes
    dsimp only
    rw [if_pos rfl]
    refine hte e H'' _ (List.mem_of_getElem? he) e3 fun H4 t s4 nt ht => ?_
    have ntD : D ≠ t := ne_of_none e2 nt
    have nt1 : H1 t = none := e3.free nt
    refine ⟨_, s4 _ _ e2, by rw [List.length_map, sizeLine_eq]; omega, ts ++ [t], by rw [List.length_append, e1]; rfl, by rw [upd_same, List.map_append]; rfl, fun b o q => ?_, fun s hs => ?_, ?_⟩
    · rw [upd_ne (ne_of_none q hD)]
      exact s4 _ _ (e3 _ _ q)
    · rcases List.mem_append.mp hs with z | z
      · exact e4 s z
      · rw [List.mem_singleton.mp z]
        exact ⟨nt1, ntD.symm⟩
    · rw [Xv.take_step he]
      refine pr_app (pr_map e5 fun s e' hs q => ?_) (.cons ?_ .nil)
      · rw [upd_ne (e4 s hs).2]
        exact s4 _ _ q
      · rw [upd_ne ntD.symm]
        exact ht
  · obtain ⟨ts, e1, e2, e3, e4, e5⟩ := e
    rw [hl, List.take_length] at e5
    refine hd H' (fun b => b = D ∨ b ∈ ts) e3 (fun b hb => ?_) ?_
    · rcases hb with z | z
      · subst z
        exact ⟨hD, by rw [e2]; simp⟩
      · obtain ⟨e, q⟩ := pr_mem2 e5 z
        exact ⟨(e4 b z).1, by rw [q]; simp⟩
    · refine .lst (by rw [vw_at (.inl rfl)]; exact e2) ?_
      have all : ∀ {us : List Addr} {q : Rw}, (∀ t ∈ us, t ∈ ts) → Paired (fun t (e : Int × Int) => H' t = some (.tup [.int (g e).1, .int (g e).2])) us q → TrAll (Vw (fun b => b = D ∨ b ∈ ts) H') (us.map V.ref) ((q.map g).map fun e => .tuple [.int e.1, .int e.2]) := fun {us q} hm hq => by
        induction hq with
        | nil => exact .nil
        | cons h _ ih => exact .cons (.tup (by rw [vw_at (.inr (hm _ List.mem_cons_self))]; exact h) (.cons (.int _) (.cons (.int _) .nil))) (ih fun t ht => hm t (List.mem_cons_of_mem _ ht))
      exact all (fun _ h => h) e5
/-- new rows out of rows -/
theorem rows_map {K : PySem.W.Frag} {J : It} {G : Hp → Prop} {xs : List V} {rs : List Rw} {σ : L2.St} {vs ws : List Nat} {i0 i1 i2 : Nat} {te : TE} {g : Int × Int → Int × Int} {H1 : Hp} {D : Addr} {Qd : Hp → Prop} (W : Walk J xs.length G (YAt xs)) (hG : ∀ H', Same H1 H' → G H') (hp : Paired (RowP H1) xs rs) (hz : xs.length ≤ 1000) (hz2 : ∀ r ∈ rs, r.length ≤ 1000) (hD : H1 D = none)
    (hw0 : ∀ v, wipe ((wipe σ vs).set i0 (some v)) vs = wipe σ vs) (h0 : ∀ v, ((wipe σ vs).set i0 (some v))[i0]? = some (some v))
    (hw : ∀ x v w, wipe (((wipe ((wipe σ vs).set i0 (some x)) ws).set i1 (some v)).set i2 (some w)) ws = wipe ((wipe σ vs).set i0 (some x)) ws) (hw2 : ∀ x, wipe (wipe ((wipe σ vs).set i0 (some x)) ws) vs = wipe σ vs)
    (hte : ∀ (x : V) (r : Rw) (e : Int × Int) (H3 : Hp) (Qv : VK), r ∈ rs → e ∈ r → Same H1 H3 → (∀ H4 t, Same H3 H4 → H3 t = none → H4 t = some (.tup [.int (g e).1, .int (g e).2]) → Qv (.ref t) H4) → te (((wipe ((wipe σ vs).set i0 (some x)) ws).set i1 (some (.int e.1))).set i2 (some (.int e.2))) H3 Qv)
    (hd : ∀ H2 S, Same H1 H2 → (∀ b, S b → Nw H1 H2 b) → Dt K S H2 (.ref D) (rowsD (rs.map fun r => r.map g)) → Qd H2) :
    ∃ W : Nat → Nat → Hp → Prop, (∃ m, W 0 m (upd H1 D (.lst []))) ∧ ∀ i m H, W i m H →
      (J.stop i H ∧ Qd H) ∨ (J.go i H ∧ ∃ Nx : Hp → Prop, (∀ H', Nx H' → ∃ m', m' < m ∧ W (i + 1) m' H') ∧ ∀ x H', J.yld i H x H' → gName i0 x (wipe σ vs) H' fun σ2 H2 => wipe σ2 vs = wipe σ vs ∧ tYes σ2 H2 fun b H3 =>
        if b = true then tLc (iSeq K (tVar i0)) (gTup K 2 (gCons (gName i1) (gCons (gName i2) gNil))) tYes te ws σ2 H3 fun y H4 => ∃ acc, H4 D = some (.lst acc) ∧ acc.length < sizeLine ∧ Nx (upd H4 D (.lst (acc ++ [y]))) else Nx H3) := by
  have hl : xs.length = rs.length := Paired.length hp
  refine lc_it W (fun i H' => ∃ (ls : List Addr) (S : Addr → Prop), ls.length = i ∧ H' D = some (.lst (ls.map V.ref)) ∧ Same H1 H' ∧ (∀ b, S b → Nw H1 H' b ∧ b ≠ D) ∧ Paired (fun l r => Dt K S H' (.ref l) (rowD (r.map g))) ls (rs.take i))
    ⟨[], fun _ => False, rfl, upd_same, same_upd hD, fun _ z => z.elim, .nil⟩ (fun i H' _ ⟨_, _, _, _, s, _⟩ => hG _ s) (fun i x H' H'' hi e y => ?_) (fun H' e => ?_)
  · obtain ⟨rfl, hx⟩ := y
    obtain ⟨ls, S, e1, e2, e3, e4, e5⟩ := e
    obtain ⟨r, hr, rp⟩ := Xv.paired_get hp hx
    obtain ⟨a, es, rfl, hxs, hps⟩ := rp.same e3
    have hle : es.length ≤ 1000 := by
      rw [show es.length = r.length from Paired.length hps]
      exact hz2 r (List.mem_of_getElem? hr)
    refine ⟨hw0 _, ?_⟩
    unfold tYes
    dsimp only
    rw [if_pos rfl]
    have fin : ∀ D2, H'' D2 = none → ∀ (H2 : Hp) (S2 : Addr → Prop), Same H'' H2 → (∀ b, S2 b → Nw H'' H2 b) → Dt K S2 H2 (.ref D2) (rowD (r.map g)) →
        ∃ acc, H2 D = some (.lst acc) ∧ acc.length < sizeLine ∧ ∃ (ls : List Addr) (S : Addr → Prop), ls.length = i + 1 ∧ upd H2 D (.lst (acc ++ [V.ref D2])) D = some (.lst (ls.map V.ref)) ∧ Same H1 (upd H2 D (.lst (acc ++ [V.ref D2]))) ∧ (∀ b, S b → Nw H1 (upd H2 D (.lst (acc ++ [V.ref D2]))) b ∧ b ≠ D) ∧ Paired (fun l r => Dt K S (upd H2 D (.lst (acc ++ [V.ref D2]))) (.ref l) (rowD (r.map g))) ls (rs.take (i + 1)) := fun D2 hD2 H2 S2 s2 n2 d2 => by
      have nS2 : ∀ b, S2 b → b ≠ D := fun b hb z => by
        have := (n2 b hb).1
        rw [z, e2] at this
        cases this
      have fr : Fr (fun b => b = D) H'' (upd H2 D (.lst (ls.map V.ref ++ [V.ref D2]))) := fun b o n q => by
        rw [upd_ne n]
        exact s2 _ _ q
      refine ⟨_, s2 _ _ e2, by rw [List.length_map, sizeLine_eq]; omega, ls ++ [D2], fun b => S b ∨ S2 b, by rw [List.length_append, e1]; rfl, by rw [upd_same, List.map_append]; rfl, fun b o q => ?_, fun b hb => ?_, ?_⟩
      · rw [upd_ne (ne_of_none q hD)]
        exact s2 _ _ (e3 _ _ q)
      · rcases hb with z | z
        · obtain ⟨⟨z1, z2⟩, z3⟩ := e4 b z
          refine ⟨⟨z1, ?_⟩, z3⟩
          obtain ⟨o, q⟩ := Option.ne_none_iff_exists'.mp z2
          rw [upd_ne z3, s2 _ _ q]
          simp
        · refine ⟨⟨?_, ?_⟩, nS2 b z⟩
          · cases q : H1 b with
            | none => rfl
            | some o =>
              have := (n2 b z).1
              rw [e3 _ _ q] at this
              cases this
          · rw [upd_ne (nS2 b z)]
            exact (n2 b z).2
      · rw [Xv.take_step hr]
        refine pr_app (pr_map e5 fun l q _ d => Dt.mono (d.fr fr fun b hb => (e4 b hb).2) fun b hb => .inl hb) (.cons ?_ .nil)
        exact Dt.mono (d2.fr (M := fun b => b = D) (Fr.set (Fr.refl _ _) rfl) fun b hb => nS2 b hb) fun b hb => .inr hb
    rcases hxs with z | z
    · exact ⟨_, h0 _, a, es, rfl, .inl ⟨SqL.of z, fun D2 hD2 => map_lc walk_list (fun H' s => SqL.of (s _ _ z)) hps hle hD2 (hw _) (fun e H3 Qv he s3 q => hte _ r e H3 Qv (List.mem_of_getElem? hr) he (e3.trans s3) q) fun H2 S2 s2 n2 d2 => fin D2 hD2 H2 S2 s2 n2 d2⟩⟩
    · exact ⟨_, h0 _, a, es, rfl, .inr ⟨.inl (.inl z), fun D2 hD2 => map_lc walk_tup (fun H' s => .inl (.inl (s _ _ z))) hps hle hD2 (hw _) (fun e H3 Qv he s3 q => hte _ r e H3 Qv (List.mem_of_getElem? hr) he (e3.trans s3) q) fun H2 S2 s2 n2 d2 => fin D2 hD2 H2 S2 s2 n2 d2⟩⟩
  · obtain ⟨ls, S, e1, e2, e3, e4, e5⟩ := e
    rw [hl, List.take_length] at e5
    refine hd H' (fun b => S b ∨ b = D) e3 (fun b hb => ?_) ?_
    · rcases hb with z | z
      · exact (e4 b z).1
      · subst z
        exact ⟨hD, by rw [e2]; simp⟩
    · refine .lst (by rw [vw_at (.inr rfl)]; exact e2) ?_
      have all : ∀ {us : List Addr} {q : List Rw}, Paired (fun l r => Dt K S H' (.ref l) (rowD (r.map g))) us q → TrAll (Vw (fun b => S b ∨ b = D) H') (us.map V.ref) ((q.map fun r => r.map g).map rowD) := fun {us q} hq => by
        induction hq with
        | nil => exact .nil
        | cons h _ ih => exact .cons (Dt.mono h fun b hb => .inl hb) ih
      exact all e5
end Cr

/-! how many unlike ints: set(xs) of a list or a tuple, its len -/
namespace Cr
open PySem PySem.Spec PyProof.Rows L2 Xv
/-- at a: a set of n elements, of which nothing else is known -/
def SetN (a : Addr) (n : Nat) : HO := .ext fun h => ∃ o es ep t, h.get? a = some o ∧ o.ExactSet ∧ o.data = .set es ep t ∧ t.fits es.size = true ∧ es.size = n ∧ (n : Int) < 2 ^ 63
theorem setN_ok {P : Program} {w : World} {H : Hp} {h : Heap} {a : Addr} {n : Nat} (R : ∃ o es ep t, h.get? a = some o ∧ o.ExactSet ∧ o.data = .set es ep t ∧ t.fits es.size = true ∧ es.size = n ∧ (n : Int) < 2 ^ 63) : ObjOk P w H h a (SetN a n) := by
  have ⟨o, _, _, _, ho, _⟩ := R
  refine ⟨R, ⟨o, ho⟩, fun h1 h2 ⟨o2, es, ep, t, ho2, r⟩ k => ⟨o2, es, ep, t, k o2 ho2, r⟩⟩
def rSetI (K : PySem.W.Frag) : List V → Hp → VK → Prop := fun xs H Q => ∃ (l : Addr) (ns : List Int), xs = [.ref l] ∧ (SqL K H l (ns.map V.int) ∨ SqT K H l (ns.map V.int)) ∧ ns.Nodup ∧ ns.length ≤ 1000 ∧ ∀ p, H p = none → Q (.ref p) (upd H p (SetN p ns.length))
def rLenN : List V → Hp → VK → Prop := fun xs H Q => ∃ (a : Addr) (n : Nat), xs = [.ref a] ∧ H a = some (SetN a n) ∧ Q (.int n) H
section
variable {X : Cx}
theorem call_lenN : CallR X (.builtin "len") rLenN := by
  intro pins s σ H xs us Q I r h
  obtain ⟨a, n, rfl, ha, q⟩ := h
  cases r with
  | cons r1 r2 =>
    cases r1
    cases r2
    obtain ⟨o, es, ep, t, ho, hex, hd, hf, hn, hz⟩ := (I.hok a _ ha).1
    exact call_len_set ho hex hd hf (by rw [hn]; exact hz) ⟨.int n, H, I.tok _, ⟨_, by rw [hn]⟩, q⟩
theorem call_setI (hc : X.calm = true) : CallR X (.type "set") (rSetI X.K) := by
  intro pins s σ H xs us Q I r h
  obtain ⟨l, ns, rfl, hq, nd, hz, q⟩ := h
  cases r with
  | cons r1 r2 =>
    cases r1
    cases r2
    have fin : ∀ (h' : Heap) (tk : Nat), (∀ b o, s.heap.get? b = some o → h'.get? b = some o) → (∃ o es ep t, h'.get? s.heap.objs.size = some o ∧ o.ExactSet ∧ o.data = .set es ep t ∧ t.fits es.size = true ∧ es.size = ns.length ∧ ((ns.length : Nat) : Int) < 2 ^ 63) →
        EP X pins σ Q (.ref s.heap.objs.size) { s with heap := h', toks := tk } := fun h' tk k R =>
      ⟨.ref _, upd H s.heap.objs.size (SetN s.heap.objs.size ns.length), I.laid (t' := tk) (fun b u e => k b u e) (Nat.le_refl _) (setN_ok R), rfl, q _ (I.hok.fresh (Nat.le_refl _))⟩
    rcases hq with hq | hq
    · obtain ⟨its, rv, pl, _⟩ := I.list hq
      have hlen : its.toArray.size = ns.length := by rw [List.size_toArray, ← rv.length, List.length_map]
      refine PySem.call_set_list (I.ok.hd hc) pl.isList (by simpa using RZ.intsAre_vals rv) (by rw [hlen]; unfold scanBound; omega) fun h' tk hS hk => fin h' tk (fun b o e => hk b o (Heap.lt_size e) e) ?_
      rw [hlen, RZ.firstMet_nodup nd ns.length (Nat.le_refl _), List.take_length] at hS
      obtain ⟨o, es, ep, t, ho, hex, hd, _, _, _, hf, hn⟩ := hS
      exact ⟨o, es, ep, t, ho, hex, hd, hf, hn, by omega⟩
    · obtain ⟨its, rv, pl, _⟩ := I.tuple hq
      refine L2.call_set_tupI ns (I.ok.hd hc) (show s.heap.IsTuple l its.toArray from pl) (by simpa using RZ.intsAre_vals rv) (by unfold scanBound; omega) fun h' tk c hS _ hk => fin h' tk hk ?_
      obtain ⟨o, es, ep, t, ho, hex, hd, _, ndk, hm, _, hf, _, _, _⟩ := hS
      have hp : (es.toList.map L2.keyOf).Perm ns := (List.perm_ext_iff_of_nodup ndk nd).mpr fun k => by
        rw [← hm k]
        exact decide_eq_true_iff
      have hn : es.size = ns.length := by
        have := hp.length_eq
        rw [List.length_map, Array.length_toList] at this
        exact this
      exact ⟨o, es, ep, t, ho, hex, hd, hf, hn, by omega⟩
end
end Cr

/-! set(xs) of a list of unlike keys of any one kind -/
namespace Cr
open PySem PySem.Spec
section
variable {prog : Program} {w : World} {κ : Type} [DecidableEq κ] {kd : KeyKind prog w κ} {A : Around}
theorem setOf_like {h : Heap} {a : Addr} {S T : κ → Bool} {n m : Nat} (z : h.SetOf kd a S n) (e : ∀ k, S k = T k) (en : n = m) : h.SetOf kd a T m := by
  cases en
  cases (funext e : S = T)
  exact z
theorem setOf_at {h h' : Heap} {a : Addr} {S : κ → Bool} {n : Nat} (z : h.SetOf kd a S n) (k : ∀ o, h.get? a = some o → h'.get? a = some o) : h'.SetOf kd a S n := by
  obtain ⟨o, es, ep, t, ho, r⟩ := z
  exact ⟨o, es, ep, t, k o ho, r⟩
theorem take_in {ks : List κ} (nd : ks.Nodup) {i : Nat} {k : κ} (h : ks[i]? = some k) : k ∉ ks.take i := fun hm => by
  obtain ⟨j, hj⟩ := List.getElem?_of_mem hm
  have lt : j < i := by
    have := (List.getElem?_eq_some_iff.mp hj).1
    rw [List.length_take] at this
    omega
  rw [List.getElem?_take_of_lt lt] at hj
  exact absurd ((List.getElem?_inj (List.getElem?_eq_some_iff.mp hj).1 nd).mp (hj.trans h.symm)) (by omega)
theorem take_more {ks : List κ} {i : Nat} {k : κ} (h : ks[i]? = some k) (x : κ) : (decide (x ∈ ks.take i) || decide (x = k)) = decide (x ∈ ks.take (i + 1)) := by
  rw [List.take_add_one, h, ← Bool.decide_or]
  exact decide_eq_decide.mpr (by simp)
/-- the walk of a set that is made of unlike keys: behind each turn it has the keys so far -/
theorem set_fill {R : Result → Shared → Prop} {I S : Addr} {fp wr : List Addr} {G : Array GenState → Array GenState → Prop} {P : Nat → Value → Prop} {St : Nat → Shared → Prop} {ks : List κ}
    (W : WalksS prog w A.in1 I fp wr G ks.length P St) (off : S ∉ fp) (nd : ks.Nodup) (sm : ks.length ≤ 4000) (key : ∀ i v, P i v → ∃ k, ks[i]? = some k ∧ kd.is k v = true ∧ v.scannable = true) :
    ∀ (left i : Nat), i + left = ks.length → ∀ (s : Shared), St i s → s.heap.SetOf kd S (fun k => decide (k ∈ ks.take i)) i →
      (∀ t, Moved (S :: wr) G s t → t.heap.SetOf kd S (fun k => decide (k ∈ ks)) ks.length → R (.ok (.ret .none)) t) →
      codeAny (model prog w) A (.builtin "set.update.loop" ⟨[.ref S, .ref I], []⟩) R s
  | 0, i, e, s, st, m, q => by
    cases (show i = ks.length from e)
    rw [List.take_length] at m
    refine codeAny_builtin PyProof.Rows.F.entry_set_update_loop ((congrArg (fun a => wpAny (model prog w) a _ _ _ s) (Around.under_plainId PyProof.Rows.F.plain_set_update_loop _)).mpr ?_)
    exact wpAny_bind (W.done s _ _ st fun t mv => wpAny_pure (q t (mv.mono fun b hb => .tail _ hb) (setOf_at m fun o => mv.heap S o fun hb => off (W.sub _ hb))))
  | left + 1, i, e, s, st, m, q => by
    have lt : i < ks.length := by omega
    refine codeAny_builtin PyProof.Rows.F.entry_set_update_loop ((congrArg (fun a => wpAny (model prog w) a _ _ _ s) (Around.under_plainId PyProof.Rows.F.plain_set_update_loop _)).mpr ?_)
    refine wpAny_bind (W.item i s _ _ lt st fun v s1 hv st1 mv => ?_)
    obtain ⟨k, hk, is, sc⟩ := key i v hv
    have m1 := setOf_at m fun o => mv.heap S o fun hb => off (W.sub _ hb)
    refine wpAny_bind (wpAny_holding (wpAny_holding (wpAny_bind (kd.pyHash is (wpAny_setAddHashed_of (s := { s1 with toks := s1.toks + 1 }) is sc m1 (by unfold scanBound; omega) fun h2 but m2 => ?_)))))
    refine wpAny_pure ⟨plainId_quiet PyProof.Rows.F.plain_set_update_loop _, set_fill W off nd sm key left (i + 1) (by omega) _ (W.frame _ s1 _ _ st1 (Nat.le_succ _) fun b hb o ho => ?_) (setOf_like m2 (take_more hk) (if_neg fun hd => take_in nd hk (of_decide_eq_true hd))) fun t mt => q t (Moved.trans W.gtrans ((mv.mono fun b hb => .tail _ hb).then_heap (Nat.le_succ _) fun b o hb ho => ?_) mt)⟩
    · rw [but.2 b fun z => off (z ▸ hb)]
      exact ho
    · rw [but.2 b fun z => hb (z ▸ .head _)]
      exact ho
/-- a set that has just been made -/
abbrev bare (led : Bool) : Obj := { cls := .type "set", dict := none, data := .set #[] 0 (.fresh 0 0 led) }
theorem bare_at (s : Shared) (led : Bool) : (s.heap.push (bare led)).get? s.heap.objs.size = some (bare led) := Heap.get?_push_size _ rfl
theorem bare_set (h : Heap) (a : Addr) (led : Bool) (z : h.get? a = some (bare led)) : h.SetOf kd a (fun k => decide (k ∈ ([] : List κ))) 0 :=
  ⟨_, #[], 0, _, z, ⟨rfl, rfl, rfl⟩, rfl, fun e he => by simp at he, fun k => by simp, by decide, rfl, rfl⟩
/-- set.__init__ of a bare set and a list -/
theorem set_init_keys {E : Value → Shared → Prop} {F : Fin → Shared → Prop} {s : Shared} {l : Addr} {items : Array Value} {ks : List κ} {led : Bool} (calm : A.handled = none) (at_l : s.heap.IsList l items) (nd : ks.Nodup) (sm : ks.length ≤ 4000)
    (len : ks.length = items.size) (key : ∀ (i : Nat) (v : Value), items[i]? = some v → ∃ k, ks[i]? = some k ∧ kd.is k v = true ∧ v.scannable = true)
    (q : ∀ (g : Heap) (tk : Nat), g.SetOf kd s.heap.objs.size (fun k => decide (k ∈ ks)) ks.length → (∀ b o, s.heap.get? b = some o → g.get? b = some o) → F (.done (.ret .none)) { s with heap := g, toks := tk }) :
    wpAny (model prog w) A (Builtin.«set.__init__» ⟨[.ref s.heap.objs.size, .ref l], []⟩) F E { s with heap := s.heap.push (bare led) } := by
  have new : (s.heap.push (bare led)).get? s.heap.objs.size = some (bare led) := bare_at s led
  have lists : (s.heap.push (bare led)).IsList l items := at_l.push _
  have below : l < s.heap.objs.size := let ⟨_, ho, _⟩ := at_l; Heap.lt_size ho
  have ⟨ol, ho, hcl, cap, hdl⟩ := lists
  rcases ol with ⟨oc, od, odata, osl⟩
  cases (show oc = _ from hcl)
  cases (show odata = _ from hdl)
  have n1 := PySem.F.sub_list_set
  have n2 := PySem.F.sub_list_frozenset
  have n3 : (Value.type "list" == Value.type "dict") = false := by decide
  unfold Builtin.«set.__init__» noKeywords Builtin.Frozenset.updateFrom
  generalize hPI : pyIter = PI
  wp_walk
  subst hPI
  refine wpAny_pyIter_list lists (wpAny_bind (wpAny_runValue ?_))
  have big : (s.heap.push (bare led)).objs.size = s.heap.objs.size + 1 := Heap.size_push ..
  have walk : WalksS prog w A.in1 (s.heap.push (bare led)).objs.size [(s.heap.push (bare led)).objs.size, l] [(s.heap.push (bare led)).objs.size] (fun a b => b = a) ks.length _ _ := len ▸ (Walks.list (by simp [calm]) (s.heap.push (bare led)).objs.size l (Nat.ne_of_lt (Nat.lt_of_lt_of_eq (Nat.lt_succ_of_lt below) big.symm)) items).toS
  refine set_fill walk (fun hm => ?_) nd sm key ks.length 0 (Nat.zero_add _) _ ⟨⟨_, Heap.get?_push_size _ rfl, rfl, rfl⟩, lists.push _⟩ (bare_set _ _ led (Heap.get?_push_of_some _ new)) fun t mv z => ?_
  · rw [big] at hm
    rcases List.mem_cons.mp hm with e | hm
    · exact absurd e (Nat.ne_of_lt (Nat.lt_succ_self _))
    · exact absurd (List.mem_singleton.mp hm).symm (Nat.ne_of_lt below)
  · obtain ⟨g, tg, td, tk, tos⟩ := t
    cases (show tg = s.gens from mv.gens)
    cases (show td = s.drawn from mv.drawn)
    cases (show tos = s.os from mv.os)
    refine wpAny_pure (wpAny_pure (q g tk z fun b o hb => mv.heap b o (fun hm => ?_) (Heap.get?_push_of_some _ (Heap.get?_push_of_some _ hb))))
    have lb := Heap.lt_size hb
    rw [big] at hm
    rcases List.mem_cons.mp hm with e | hm
    · exact absurd e (Nat.ne_of_lt lb)
    · exact absurd (List.mem_singleton.mp hm) (Nat.ne_of_lt (Nat.lt_succ_of_lt lb))
/-- set(xs): an object of its own, with just these keys; all else stays -/
theorem call_set_keys {E : Value → Shared → Prop} {s : Shared} {l : Addr} {items : Array Value} {ks : List κ} {Q : Value → Shared → Prop} (calm : A.handled = none) (at_l : s.heap.IsList l items) (nd : ks.Nodup) (sm : ks.length ≤ 4000)
    (len : ks.length = items.size) (key : ∀ (i : Nat) (v : Value), items[i]? = some v → ∃ k, ks[i]? = some k ∧ kd.is k v = true ∧ v.scannable = true)
    (q : ∀ (g : Heap) (tk : Nat), g.SetOf kd s.heap.objs.size (fun k => decide (k ∈ ks)) ks.length → (∀ b o, s.heap.get? b = some o → g.get? b = some o) → Q (.ref s.heap.objs.size) { s with heap := g, toks := tk }) :
    wpAny (model prog w) A (call (.type "set") [.ref l]) Q E s := by
  obtain ⟨⟨c, tl, hmro⟩, hmade, hsub, h1, h2, hli, hb1, hpl⟩ := And.intro PySem.F.called_set.mro (And.intro PySem.F.called_set.made (And.intro PySem.F.called_set.sub (And.intro PySem.F.called_set.notType (And.intro PySem.F.called_set.canCreate (And.intro PySem.F.called_set.init.lookup (And.intro (PySem.F.called_set.init.bind (.ref s.heap.objs.size)) PySem.F.called_set.init.plain))))))
  refine wpAny_call (codeAny_of_tree (show wpAny _ _ (callAny (.type "set") _) _ _ _ from wpAny_pure ⟨Code.quiet_builtin _ (by decide +kernel), codeAny_builtin PySem.F.entry_type_call ((congrArg (fun a => wpAny (model prog w) a _ _ _ s) (Around.under_plain (weight_type_call_type "set" [.ref l] []) rfl)).mpr ?_)⟩))
  have hct := PySem.F.typeCall_set_1 (.ref l)
  repeat (any_goals (first | assumption | wp_step))
  refine codeAny_mono (code_set_new_1 (.ref l) (E := E) (Q₁ := fun v t => ∃ led : Bool, v = .ref s.heap.objs.size ∧ t = { s with heap := s.heap.push (bare led) }) fun led => ⟨led, rfl, rfl⟩) fun r t hr => ?_
  rcases r with e | v
  · exact hr
  cases v
  case ret v =>
    obtain ⟨led, rfl, rfl⟩ := hr
    have isSet : Shared.TypeIs { s with heap := s.heap.push (bare led) } (.ref s.heap.objs.size) "set" := ⟨_, bare_at s led, rfl⟩
    repeat (any_goals (first | assumption | wp_step))
    refine codeAny_mono (codeAny_call_builtin (R := wants (fun r t => r = .none ∧ ∃ g tk, t = { s with heap := g, toks := tk } ∧ g.SetOf kd s.heap.objs.size (fun k => decide (k ∈ ks)) ks.length ∧ ∀ b o, s.heap.get? b = some o → g.get? b = some o) E) hpl PySem.F.entry_set_init (check_set_init_1 isSet ?_)) fun r t hr => ?_
    · exact set_init_keys (A := A.in1.in1) (by simp [calm]) at_l nd sm len key fun g tk z keep => ⟨rfl, g, tk, rfl, z, keep⟩
    · rcases r with e | v
      · exact hr
      cases v
      case ret v =>
        obtain ⟨rfl, g, tk, rfl, z, keep⟩ := hr
        repeat (any_goals (first | assumption | wp_step))
        exact q g tk z keep
      all_goals exact hr.elim
  all_goals exact hr.elim
end
end Cr

/-! how many unlike texts: set(xs) of a list -/
namespace Cr
open PySem PySem.Spec PyProof.Rows L2 Xv
def rSetT (K : PySem.W.Frag) : List V → Hp → VK → Prop := fun xs H Q => ∃ (l : Addr) (zs : List Str), xs = [.ref l] ∧ SqL K H l (zs.map V.str) ∧ zs.Nodup ∧ zs.length ≤ 1000 ∧ ∀ p, H p = none → Q (.ref p) (upd H p (SetN p zs.length))
theorem texts_at {us : List Value} {zs : List Str} (h : StrsAre us zs) : ∀ {i : Nat} {v : Value}, us[i]? = some v → ∃ z t, zs[i]? = some z ∧ v = .str z t := by
  induction h with
  | nil => intro i v e; cases e
  | cons z t _ ih =>
    intro i v e
    cases i with
    | zero => exact ⟨z, t, rfl, (Option.some.inj e).symm⟩
    | succ i => exact ih e
section
variable {X : Cx}
theorem call_setT (hc : X.calm = true) : CallR X (.type "set") (rSetT X.K) := by
  intro pins s σ H xs us Q I r h
  obtain ⟨l, zs, rfl, hq, nd, hz, q⟩ := h
  cases r with
  | cons r1 r2 =>
    cases r1
    cases r2
    obtain ⟨its, rv, pl, _⟩ := I.list hq
    have len : zs.length = its.toArray.size := by rw [List.size_toArray, ← rv.length, List.length_map]
    refine call_set_keys (kd := PySem.strKind X.prog X.w) (items := its.toArray) (ks := zs) (I.ok.hd hc) pl.isList nd (by omega) len (fun i v hv => ?_) fun g tk hS keep => ?_
    · have hv2 : its[i]? = some v := by simpa using hv
      obtain ⟨z, t, hz, rfl⟩ := texts_at rv.strs hv2
      exact ⟨z, hz, strKind_is _ _ _ _, rfl⟩
    · obtain ⟨o, es, ep, t, ho, hex, hd, _, _, _, hf, hn⟩ := hS
      exact ⟨.ref _, upd H s.heap.objs.size (SetN s.heap.objs.size zs.length), I.laid (t' := tk) (fun b u e => keep b u e) (Nat.le_refl _) (setN_ok ⟨o, es, ep, t, ho, hex, hd, hf, hn, by omega⟩), rfl, q _ (I.hok.fresh (Nat.le_refl _))⟩
end
end Cr

/-! list(zip(a, b)), read -/
namespace Cr
open PySem PySem.Spec PyProof.Rows L2 Xv
open PySem.W (KdxG)
section
variable {X : Cx} {pins : List (Addr × Obj)} {σ : List (Option V)} {H : Hp} {s : Shared}
/-- a new list of new pairs, tracked -/
theorem lay_pairs {h' : Heap} {tk : Nat} {S : Addr} {kvs : List (Key × V)} {vs : List (Key × Value)} {acc : Array Value} {c : Nat} {as : List Addr} (I : Inv X pins σ H s) (k : ∀ b o, s.heap.get? b = some o → h'.get? b = some o) (lo : s.heap.objs.size ≤ S) (hz : kvs.length ≤ sizeLine) (kv : KV kvs vs)
    (hS : h'.get? S = some { cls := .type "list", dict := none, data := .seq acc c, slots := #[] }) (hl : as.length = vs.length) (g : KdxG (mixKind X.prog X.w) vs S h' as) (hacc : acc.toList = as.map Value.ref) :
    ∃ H' : Hp, Same H H' ∧ H S = none ∧ (∀ t ∈ as, H t = none) ∧ S ∉ as ∧ H' S = some (.lst (as.map V.ref)) ∧ Paired (fun (t : Addr) (q : Key × V) => H' t = some (.tup [kV q.1, q.2])) as kvs ∧ Inv X pins σ H' { s with heap := h', toks := tk } := by
  have ll : as.length = kvs.length := hl.trans (Paired.length kv).symm
  have off : S ∉ as := fun z => Nat.lt_irrefl _ (g.above _ z)
  have freeS : H S = none := I.hok.fresh lo
  have free : ∀ t ∈ as, H t = none := fun t ht => I.hok.fresh (Nat.le_trans lo (Nat.le_of_lt (g.above t ht)))
  have nd : as.Nodup := g.rise.imp fun z => Nat.ne_of_lt z
  let H' : Hp := LiI.putT (upd H S (.lst (as.map V.ref))) as kvs
  have out : ∀ b, b ∉ as → b ≠ S → H' b = H b := fun b h1 h2 => (LiI.putT_off as kvs _ h1).trans (upd_ne h2)
  have atS : H' S = some (.lst (as.map V.ref)) := (LiI.putT_off as kvs _ off).trans upd_same
  have atT := LiI.putT_at as kvs (upd H S (.lst (as.map V.ref))) ll nd
  have old : ∀ b o, s.heap.get? b = some o → b ∉ as ∧ b ≠ S := fun b o e => ⟨fun z => Nat.lt_irrefl _ (Nat.lt_of_lt_of_le (Heap.lt_size e) (Nat.le_trans lo (Nat.le_of_lt (g.above b z)))), fun z => Nat.lt_irrefl _ (Nat.lt_of_lt_of_le (Heap.lt_size e) (z ▸ lo))⟩
  have sm : Same H H' := fun b o e => (out b (fun z => by rw [free b z] at e; cases e) (fun z => by rw [z, freeS] at e; cases e)).trans e
  refine ⟨H', sm, freeS, free, off, atS, atT, I.call' (ch := []) rfl ⟨fun b o e _ _ _ => k b o e, fun b o e _ _ _ => ⟨_, k b o e⟩, fun b o e n _ => ?_, fun b o e _ => ⟨o, k b o e⟩, fun b xs e => sm b _ e, fun b o u e => sm b _ e, fun b ps e => ⟨#[], by rw [sm b _ e]; simp⟩⟩ (fun b u e => ?_) I.bare fun b z => by simp at z⟩
  · exact (out b (old b o e).1 (old b o e).2).trans n
  · by_cases hb : b ∈ as
    · obtain ⟨j, p, e1, e2, e3⟩ := LiI.paired_ix atT hb
      cases e3.symm.trans e
      obtain ⟨key, kk, x, f1, f2, f3⟩ := g.pairs j b e1
      obtain ⟨qv, g1, g2, g3⟩ := LiI.paired_get kv e2
      cases f1.symm.trans g1
      exact ⟨by show 2 ≤ sizeLine; decide, [key, x], .cons (g2 ▸ relV_key f2) (.cons g3 .nil), ⟨_, f3, rfl, _, rfl⟩⟩
    · by_cases hb2 : b = S
      · subst hb2
        cases atS.symm.trans e
        exact ⟨by rw [List.length_map]; omega, acc.toList, c, hacc ▸ LiI.vals_refs as, by rw [Array.toArray_toList]; exact hS⟩
      · exact (I.hok b u ((out b hb hb2).symm.trans e)).stay (fun d v _ y => k d v y) (fun d y => sm d _ y) fun d xs y => sm d _ y
end
/-- list(zip(a, b)) of a list of keys and a list -/
def tListZip (K : PySem.W.Frag) (ta : TA) : TE := fun σ H Q => ta σ H fun us H1 => ∃ (a b : Addr) (kvs : List (Key × V)), us = [.ref a, .ref b] ∧ SqL K H1 a (kvs.map fun q => kV q.1) ∧ SqL K H1 b (kvs.map fun q => q.2) ∧ kvs.length ≤ 1000 ∧
  ∀ (H2 : Hp) (p : Addr) (ts : List Addr), Same H1 H2 → H1 p = none → (∀ t ∈ ts, H1 t = none) → p ∉ ts → H2 p = some (.lst (ts.map V.ref)) → Paired (fun (t : Addr) (q : Key × V) => H2 t = some (.tup [kV q.1, q.2])) ts kvs → Q (.ref p) H2
/-- the pairs, as values -/
theorem kv_of : ∀ {kvs : List (Key × V)} {xs ys : List Value}, Vals (kvs.map fun q => kV q.1) xs → Vals (kvs.map fun q => q.2) ys → ∃ vs : List (Key × Value), KV kvs vs ∧ ∀ (j : Nat) k v, vs[j]? = some (k, v) → ∃ x, xs[j]? = some x ∧ RelV (kV k) x ∧ ys[j]? = some v
  | [], [], [], .nil, .nil => ⟨[], .nil, fun j k v h => by cases h⟩
  | (k, v) :: kvs, x :: xs, y :: ys, .cons rx hx, .cons ry hy => by
    obtain ⟨vs, h1, h2⟩ := kv_of hx hy
    refine ⟨(k, y) :: vs, .cons ⟨rfl, ry⟩ h1, fun j k' v' h => ?_⟩
    cases j with
    | zero =>
      cases h
      exact ⟨x, rfl, rx, rfl⟩
    | succ j => exact h2 j k' v' h
section
variable {X : Cx} {e e2 : Expr} {ta : TA} {p p2 pos pos2 : Pos}
theorem pe_listZip (hc : X.calm = true) (hg : Gl X "list") (hm : X.mg "list" = none) (hg2 : Gl X "zip") (hm2 : X.mg "zip" = none) (ha : PA X [e, e2] ta)
    (hs : starEach [.Call (.Name "zip" p2) [e, e2] [] pos2] X.env = (false, eval (.Call (.Name "zip" p2) [e, e2] [] pos2) X.env) :: starEach [] X.env := by rfl)
    (hs2 : starEach [e, e2] X.env = (false, eval e X.env) :: starEach [e2] X.env := by rfl) (hpl : (backTo pos2 (starEach [e2] X.env)).any (·.1) = false := by rfl) :
    PE X (.Call (.Name "list" p) [.Call (.Name "zip" p2) [e, e2] [] pos2] [] pos) (tListZip X.K ta) := by
  refine ⟨fun pins s σ H Q I h => wpAny_Call_Name_kw (ld_blt I hg hm boot_list (callWith_type1 ?_ hs rfl))⟩
  rw [hs]
  refine Calls.spliced_cons (Call_ (ld_blt I hg2 hm2 boot_zip (callWith_type1 (thn (ha.run pos2 pins s σ H _ I h) fun us s1 ⟨vs, H1, I1, r1, q1⟩ => ?_) hs2 hpl)))
  obtain ⟨a, b, kvs, rfl, qa, qb, hz, q⟩ := q1
  cases r1 with
  | cons ra r1 =>
    cases r1 with
    | cons rb r1 =>
      cases r1
      cases ra
      cases rb
      obtain ⟨xs, rx, px, _⟩ := I1.list qa
      obtain ⟨ys, ry, py, _⟩ := I1.list qb
      obtain ⟨vs, kv, hv⟩ := kv_of rx ry
      have lv : kvs.length = vs.length := Paired.length kv
      have lx : xs.toArray.size = vs.length := by rw [List.size_toArray, ← rx.length, List.length_map, lv]
      refine call_zip_2 px.isList py.isList fun h' hz' hTI hTO h1 h2 hsz hk => Calls.spliced_nil ?_
      have I2 : Inv X pins σ H1 { s1 with heap := h' } := I1.kept (t' := s1.toks) hk
      have up : ∀ {b o}, s1.heap.get? b = some o → b < s1.heap.objs.size := fun e => Heap.lt_size e
      refine call_list_zip (s := { s1 with heap := h' }) (kd := mixKind X.prog X.w) (kvs := vs) (xs := xs.toArray) (ys := ys.toArray) (I1.ok.hd hc) (PySem.W.ktu_apart s1.heap.objs.size a b px.lt py.lt) lx (by omega) (fun j k v hj => ?_) hz' hTI ⟨_, _, hTO⟩ h1 h2 (px.isList.at fun o e => hk _ o e) (py.isList.at fun o e => hk _ o e) fun g as acc c l1 l2 hS gg keep => ?_
      · obtain ⟨x, f1, f2, f3⟩ := hv j k v hj
        exact ⟨x, by simpa using f1, kV_is f2, by simpa using f3⟩
      · have low : ∀ b o, s1.heap.get? b = some o → g.get? b = some o := fun b o e => by
          have lb := up e
          exact keep b o (Nat.ne_of_lt (Nat.lt_of_lt_of_le lb (Nat.le_add_right _ _))) (Nat.ne_of_lt (Nat.lt_of_lt_of_le lb (Nat.le_add_right _ _))) (Nat.ne_of_lt lb) (Nat.ne_of_lt (Nat.lt_of_lt_of_le lb (Nat.le_add_right _ _))) (hk b o e)
        obtain ⟨H2, k1, k2, k3, k4, k5, k6, J⟩ := lay_pairs (tk := s1.toks) (kvs := kvs) I1 low (by show s1.heap.objs.size ≤ h'.objs.size; rw [hsz]; exact Nat.le_add_right _ _) (by unfold sizeLine; omega) kv hS l1 gg l2
        exact ⟨.ref _, H2, J, rfl, q H2 _ as k1 k2 k3 k4 k5 k6⟩
end
end Cr

/-! Data logic, part 11: stores into own lists of things; dicts -/
namespace Dl
open PySem PySem.Spec PyProof.Rows L2 Xv Cr
section
variable {M : Cm} {K : PySem.W.Frag} {m : Md} {pt F0 F F' : Addr → Prop} {H0 H H' : Hp} {z0 : Gh} {o : Ow} {σ : L2.St} {ρ : Rho}
/-- x[a][b] = e of an own list of lists -/
def tSt2 (K : PySem.W.Frag) (i : Nat) (te ta tb : TE) : TS := tAsg te (gSub (tOp (rIxL K) (tVar i) ta) tb rSetL)
theorem ps_st2 {X : Cx} {st : Stmt} {i : Nat} {te ta tb : TE} (h : PS X st (tAsg te (gSub (tOp (rIxL X.K) (tVar i) ta) tb rSetL))) : PS X st (tSt2 X.K i te ta tb) := h
def sSt2 (i : Nat) (ge ga gb : GE) : GS := fun δ ρ => ge ρ fun d => match ρ[i]? with
  | some (.own2 ds) => ga ρ fun a => ∃ (p : Int) (n : Nat) (ys : List D), a = .int p ∧ ixN ds.length p = some n ∧ ds[n]? = some (.lst ys) ∧ gb ρ fun b => ∃ (q : Int) (k : Nat), b = .int q ∧ ixN ys.length q = some k ∧ δ.nx (ρ.set i (.own2 (ds.set n (.lst (ys.set k d)))))
  | _ => False
instance {te ta tb : TE} {ge ga gb : GE} {i : Nat} [h0 : DT M te ge] [h1 : DB M ta ga] [h2 : DB M tb gb] : DS M m (tSt2 K i te ta tb) (sSt2 i ge ga gb) := ⟨fun {pt F0 H0 z0 F o σ H ρ δ E} e l q =>
  h0.run e q fun d F1 H1 v q1 x1 r1 => by
    split at q1
    · rename_i ds hds
      have e1 := e.step x1
      obtain ⟨a, _⟩ := e1.sl i _ hds
      refine ⟨_, a, h1.run e1 q1 fun da F2 H2 va q2 x2 r2 => ?_⟩
      have e2 := e1.step x2
      obtain ⟨_, hl2, ks2, _⟩ := e2.sl i _ hds
      obtain ⟨p, n, ys, rfl, hn, hy, q2⟩ := q2
      cases rb_int r2
      obtain ⟨c, hc, rc⟩ := ks2.get hy
      have hat : L2.atI ((o.c i).map V.ref) p = some (.ref c) := by
        unfold L2.atI
        rw [List.length_map, ks2.length, hn]
        show ((o.c i).map V.ref)[n]? = _
        rw [List.getElem?_map, hc]
        rfl
      refine ⟨_, _, p, _, rfl, rfl, SqL.of hl2, hat, h2.run e2 q2 fun db F3 H3 vb q3 x3 r3 => ?_⟩
      obtain ⟨q, k, rfl, hk, q3⟩ := q3
      cases rb_int r3
      have e3 := e2.step x3
      obtain ⟨_, hl3, ks3, nd3, al3⟩ := e3.sl i _ hds
      obtain ⟨c', hc', rc'⟩ := ks3.get hy
      cases hc.symm.trans hc'
      obtain ⟨_, vs, z, np, hv, rv⟩ := rc'
      cases z
      have w := e3.owlOk (i := i) (a := c) (by rw [owl_own2 hds]; exact List.mem_cons_of_mem _ (List.mem_of_getElem? hc))
      have up : ∀ {u : HO} (b : Addr) (o' : HO), nt o' = true → F3 b → H3 b = some o' → F3 b ∧ upd H3 c u b = some o' := fun b o' _ fb eb => ⟨fb, by rw [upd_ne (fun (y : b = c) => w.2.1 (y ▸ fb))]; exact eb⟩
      have r1' := (r1.ext (e1).ok x2).ext e2.ok x3
      refine ⟨c, vs, q, k, rfl, rfl, hv, by rw [rv.length]; exact hk, ?_⟩
      have r' : Rb M pt F3 (upd H3 c (.lst (vs.set k v))) (.ref c) (.lst (ys.set k d)) := ⟨c, _, rfl, np, upd_same, (rv.up up).set (r1'.up up)⟩
      exact l.nx _ _ _ _ _ (e3.mut2 hds hc r') (((Agr.of e.ok x1).trans ((Agr.of e1.ok x2).trans (Agr.of e2.ok x3))).trans ⟨fun b f => f, fun b o' t f h => (up b o' t f h).2⟩) q3
    · exact q1.elim⟩
/-! ### dict displays -/
def dK : Key → D
  | .inl i => .int i
  | .inr s => .str s
theorem rp_dK {k : Key} {v : V} (r : Rp M F H v (dK k)) : v = kV k := by
  cases k with
  | inl i => cases r; rfl
  | inr s => cases r; rfl
abbrev GP := Rho → (List (D × D) → Prop) → Prop
inductive RpP (M : Cm) (F : Addr → Prop) (H : Hp) : List (V × V) → List (D × D) → Prop
  | nil : RpP M F H [] []
  | cons {u v : V} {c d : D} {vs : List (V × V)} {ds : List (D × D)} : Rp M F H u c → Rp M F H v d → RpP M F H vs ds → RpP M F H ((u, v) :: vs) ((c, d) :: ds)
theorem RpP.length {vs : List (V × V)} {ds : List (D × D)} (h : RpP M F H vs ds) : vs.length = ds.length := by
  induction h with
  | nil => rfl
  | cons _ _ _ ih => rw [List.length_cons, List.length_cons, ih]
class DPs (M : Cm) (t : List (TE × TE)) (g : outParam GP) : Prop where
  run : ∀ {pt F0 : Addr → Prop} {H0 : Hp} {z0 : Gh} {F : Addr → Prop} {o : Ow} {σ : L2.St} {H : Hp} {ρ : Rho} {P : List (D × D) → Prop} {Q : List (V × V) → Hp → Prop}, En M pt F0 H0 z0 F o σ H ρ → g ρ P → (∀ ds F' H' vs, P ds → Ext M pt F H F' H' → RpP M F' H' vs ds → Q vs H') → tPairs t σ H Q
def gpNil : GP := fun _ P => P []
def gpCons (ga gb : GE) (g : GP) : GP := fun ρ P => ga ρ fun a => gb ρ fun b => g ρ fun ds => P ((a, b) :: ds)
instance : DPs M [] gpNil := ⟨fun e q k => k _ _ _ _ q (.refl e.ok) .nil⟩
instance {ta tb : TE} {ga gb : GE} {t : List (TE × TE)} {g : GP} [h1 : DT M ta ga] [h2 : DT M tb gb] [h3 : DPs M t g] : DPs M ((ta, tb) :: t) (gpCons ga gb g) := ⟨fun {pt F0 H0 z0 F o σ H ρ P Q} e q k => h1.run e q fun a F1 H1 u q1 x1 r1 => h2.run (e.step x1) q1 fun b F2 H2 v q2 x2 r2 => h3.run ((e.step x1).step x2) q2 fun ds F3 H3 vs q3 x3 r3 => k _ _ _ _ q3 ((x1.trans x2).trans x3) (.cons ((r1.ext (e.step x1).ok x2).ext ((e.step x1).step x2).ok x3) (r2.ext ((e.step x1).step x2).ok x3) r3)⟩
theorem putK_newD {kvs : List (Key × V)} {k : Key} {v : V} (h : ∀ e ∈ kvs, e.1 ≠ k) : putK kvs k v = kvs ++ [(k, v)] := by
  unfold putK
  rw [if_neg]
  intro q
  obtain ⟨e, he, z⟩ := List.any_eq_true.mp q
  exact h e he (of_decide_eq_true z)
theorem mergeK_newD : ∀ {more acc : List (Key × V)}, ((acc ++ more).map (·.1)).Nodup → mergeK acc more = acc ++ more
  | [], acc, _ => by simp [mergeK]
  | (k, v) :: r, acc, h => by
    have hk : ∀ e ∈ acc, e.1 ≠ k := fun e he z => by
      rw [List.map_append, List.nodup_append] at h
      exact h.2.2 e.1 (List.mem_map_of_mem he) k (by simp) z
    show mergeK (putK acc k v) r = _
    rw [putK_newD hk, mergeK_newD (by rw [List.append_assoc]; exact h), List.append_assoc]
    rfl
def gDisp (g : GP) : GE := fun ρ P => g ρ fun ds => ∃ ps : List (Key × D), ds = ps.map (fun e => (dK e.1, e.2)) ∧ ps.length ≤ 15 ∧ (ps.map (·.1)).Nodup ∧ P (.dic ps)
theorem rpp_k : ∀ {ps : List (Key × D)} {vs : List (V × V)}, RpP M F H vs (ps.map fun e => (dK e.1, e.2)) → ∃ kvs, vs = kvs.map (fun kv => (kV kv.1, kv.2)) ∧ RpK M F H kvs ps ∧ kvs.map (·.1) = ps.map (·.1)
  | [], _, h => by cases h; exact ⟨[], rfl, .nil, rfl⟩
  | (k, d) :: ps, _, h => by
    cases h with
    | cons r s t =>
      obtain ⟨kvs, rfl, e2, e3⟩ := rpp_k t
      rename_i u v
      exact ⟨(k, v) :: kvs, by rw [rp_dK r]; rfl, .cons s e2, by rw [List.map_cons, List.map_cons, e3]⟩
theorem RpK.length : ∀ {vs : List (Key × V)} {ds : List (Key × D)}, RpK M F H vs ds → vs.length = ds.length
  | _, _, .nil => rfl
  | _, _, .cons _ s => congrArg (· + 1) (RpK.length s)
instance {t : List (TE × TE)} {g : GP} [h : DPs M t g] : DN M (tDisp t) (gDisp g) := ⟨fun {pt F0 H0 z0 F o σ H ρ P Q} e q k => fun p np => by
  have ok := e.ok
  have x0 := Ext.put0 (F := F) ok (o := .dK []) np
  refine h.run (e.step x0) q fun ds F1 H1 vs q1 x1 r1 => ?_
  obtain ⟨ps, rfl, hl, nd, q1⟩ := q1
  obtain ⟨kvs, rfl, rk, ek⟩ := rpp_k r1
  have npt : ¬ pt p := ok.not_pt np
  have hp := x1.same p _ rfl npt upd_same
  have nF0 : ¬ F p := fun z => (ok.liv p z).ne np
  have nF : ¬ F1 p := fun z => (x1.new p z).elim nF0 fun n => n.no (.at_ upd_same)
  refine ⟨hp, kvs, rfl, by rw [rk.length]; exact hl, ?_⟩
  rw [mergeK_newD (by rw [List.nil_append, ek]; exact nd), List.nil_append]
  have xx := x0.trans x1
  exact k _ F1 _ p q1 (Ext.updNew ok xx np (pln_at hp)) ⟨p, _, rfl, npt, upd_same, rk.up fun b o _ fb eb => ⟨fb, by rw [upd_ne (fun (z : b = p) => nF (z ▸ fb))]; exact eb⟩⟩ (.of np) nF⟩
instance : DN M tDNewK (gC (.dic [])) := ⟨fun {pt F0 H0 z0 F o σ H ρ P Q} e q k => fun p np => k _ F _ p q (Ext.put0 e.ok np) ⟨p, [], rfl, e.ok.not_pt np, upd_same, .nil⟩ (.of np) fun z => (e.ok.liv p z).ne np⟩
/-! ### dict(list(zip(a, b))) -/
def rDictP (K : PySem.W.Frag) : List V → Hp → VK → Prop := fun xs H Q => ∃ a ps kvs, xs = [V.ref a] ∧ SqL K H a (List.map V.ref ps) ∧ Paired (fun p (kv : Key × V) => SqT K H p [kV kv.1, kv.2]) ps kvs ∧ ∀ (p : Addr), H p = none → Q (V.ref p) (upd H p (HO.dK (mergeK [] kvs)))
theorem call_dictPD {X : Cx} (h : X.calm = true) : CallR X (.type "dict") (rDictP X.K) := call_dictP h
def gDZip (g : GA) : GE := fun ρ P => g ρ fun ds => ∃ (ks : List Key) (ys : List D), ds = [.lst (ks.map dK), .lst ys] ∧ ks.length = ys.length ∧ ks.length ≤ 1000 ∧ ks.Nodup ∧ P (.dic (ks.zip ys))
theorem rpa_keys : ∀ {ks : List Key} {vs : List V}, RpA M F H vs (ks.map dK) → vs = ks.map kV
  | [], _, h => by cases h; rfl
  | k :: ks, _, h => by
    cases h with
    | cons r s => rw [rp_dK r, rpa_keys s]; rfl
theorem rpk_zip : ∀ {ks : List Key} {vs : List V} {ys : List D}, RpA M F H vs ys → RpK M F H (ks.zip vs) (ks.zip ys)
  | [], _, _, _ => .nil
  | k :: ks, _, _, .nil => .nil
  | k :: ks, _, _, .cons r s => .cons r (rpk_zip s)
instance {t : TA} {g : GA} [h : DA M [.bor, .bor] t g] : DN M (tCB (rDictP K) (tCons (tListZip K t) tNil)) (gDZip g) := ⟨fun {pt F0 H0 z0 F o σ H ρ P Q} e q k =>
  h.run e q fun ds F1 H1 vs q1 x1 r1 => by
    obtain ⟨ks, ys, rfl, hl, h3, nd, q1⟩ := q1
    cases r1 with
    | bor r s =>
      cases s with
      | bor r2 s =>
        cases s
        obtain ⟨a, us, rfl, _, ha, ra⟩ := r
        obtain ⟨b, ws, rfl, _, hb, rb⟩ := r2
        rw [rpa_keys ra] at ha
        have hw : ws.length = ks.length := by rw [rb.length, hl]
        have z1 : (ks.zip ws).map (fun q => kV q.1) = ks.map kV := by
          rw [show (fun (q : Key × V) => kV q.1) = kV ∘ Prod.fst from rfl, ← List.map_map, List.map_fst_zip (by omega)]
        have z2 : (ks.zip ws).map (fun q => q.2) = ws := List.map_snd_zip (by omega)
        refine ⟨a, b, ks.zip ws, rfl, by rw [z1]; exact SqL.of ha, by rw [z2]; exact SqL.of hb, by rw [List.length_zip]; omega, fun H2 p ts s np nts _ hp pr => ?_⟩
        have e1 := e.step x1
        have x2 := Ext.of_same e1.ok s
        refine ⟨p, ts, ks.zip ws, rfl, SqL.of hp, ?_, fun p2 np2 => ?_⟩
        · have : ∀ {ts : List Addr} {kv : List (Key × V)}, Paired (fun t (q : Key × V) => H2 t = some (HO.tup [kV q.1, q.2])) ts kv → Paired (fun p (kv : Key × V) => SqT K H2 p [kV kv.1, kv.2]) ts kv := fun h => by
            induction h with
            | nil => exact .nil
            | cons a _ ih => exact .cons (SqT.of a) ih
          exact this pr
        · rw [mergeK_newD (by rw [List.nil_append, List.map_fst_zip (by omega)]; exact nd), List.nil_append]
          have ok2 := (e1.step x2).ok
          have x3 := Ext.put0 (F := F1) ok2 (o := .dK (ks.zip ws)) np2
          have rz : RpK M F1 H1 (ks.zip ws) (ks.zip ys) := rpk_zip rb
          exact k _ F1 _ p2 q1 ((x1.trans x2).trans x3) ⟨p2, _, rfl, ok2.not_pt np2, upd_same, (rz.ext e1.ok x2).ext ok2 x3⟩ ((x1.trans x2).nn np2) fun z => (ok2.liv _ z).ne np2⟩
end
end Dl

/-! Data logic, part 12: a display of borrowed things, compared; [::-1]; classes made by keywords -/
namespace Dl
open PySem PySem.Spec PyProof.Rows L2 Xv Cr
section
variable {M : Cm} {K : PySem.W.Frag} {m : Md} {pt F0 F F' : Addr → Prop} {H0 H H' : Hp} {z0 : Gh} {o : Ow} {σ : L2.St} {ρ : Rho}
def tNeB (K : PySem.W.Frag) (ta : TA) (tb : TE) : TE := tOp (rNeD K) (tLst ta) tb
theorem pt_neB {X : Cx} {e : Expr} {ta : TA} {tb : TE} (h : PT X e (tTest (tOp (rNeD X.K) (tLst ta) tb))) : PT X e (tTest (tNeB X.K ta tb)) := h
def gNeB (g : GA) (gb : GE) : GE := fun ρ P => g ρ fun ds => gb ρ fun y => ∃ ps q, PyRA ds ps ∧ PyR y q ∧ SeqAt.shaped (.list ps) = true ∧ SeqAt.shaped q = true ∧ P (.bl (true ^^ PyData.eqv (.list ps) q))
theorem ra_dp2 {vs : List V} {ds : List D} {ps : List PyData} (r : RA M pt F H [.bor, .bor] vs ds) (h : PyRA ds ps) : DpAll K H vs ps := by
  cases r with
  | bor r s =>
    cases s with
    | bor r2 s =>
      cases s
      cases h with
      | cons h1 h =>
        cases h with
        | cons h2 h =>
          cases h
          exact .cons (h1.dpb r) (.cons (h2.dpb r2) .nil)
instance {ta : TA} {g : GA} {tb : TE} {gb : GE} [h1 : DA M [.bor, .bor] ta g] [h2 : DB M tb gb] : DTc M (tNeB K ta tb) (gNeB g gb) := ⟨fun {pt F0 H0 z0 F o σ H ρ P Q} e q k =>
  h1.run e q fun ds F1 H1 vs q1 x1 r1 => ⟨by rw [r1.length]; decide, fun p np => by
    have e1 := e.step x1
    have x2 := Ext.put0 (F := F1) e1.ok (o := .lst vs) np
    have e2 := e1.step x2
    refine h2.run e2 q1 fun y F3 H3 w q3 x3 r3 => ?_
    obtain ⟨ps, q, hp, hq, s1, s2, z⟩ := q3
    have hp3 := x3.same p _ rfl (e1.ok.not_pt np) upd_same
    refine ⟨.list ps, q, .lst (SqL.of hp3) (ra_dp2 ((r1.ext e1.ok x2).ext e2.ok x3) hp), hq.dpb r3, s1, s2, ?_⟩
    have := k _ F3 H3 (.bl (true ^^ PyData.eqv (.list ps) q)) z ((x1.trans x2).trans x3) (.bl _)
    rw [Bool.true_xor] at this
    exact this⟩⟩
/-! ### [::-1] -/
def gRev (ga : GE) : GE := fun ρ P => ga ρ fun x => match x with | .lst ds => P (.lst ds.reverse) | _ => False
theorem RpA.revD : ∀ {vs : List V} {ds : List D}, RpA M F H vs ds → RpA M F H vs.reverse ds.reverse
  | _, _, .nil => .nil
  | _, _, .cons r s => by rw [List.reverse_cons, List.reverse_cons]; exact (RpA.revD s).app (.one r)
instance {ta : TE} {ga : GE} [h1 : DB M ta ga] : DN M (tRevL K ta) (gRev ga) := ⟨fun {pt F0 H0 z0 F o σ H ρ P Q} e q k =>
  h1.run e q fun d F1 H1 v q1 x1 r1 => by
    split at q1
    · obtain ⟨a, vs, rfl, _, hz, rv⟩ := r1
      have ok1 := (e.step x1).ok
      refine ⟨a, vs, rfl, SqL.of hz, fun p np => ?_⟩
      have x2 := Ext.put0 (F := F1) ok1 (o := .lst vs.reverse) np
      exact k _ F1 _ p q1 (x1.trans x2) ⟨p, _, rfl, ok1.not_pt np, upd_same, rv.revD.ext ok1 x2⟩ (x1.nn np) fun z => (ok1.liv p z).ne np
    · exact q1.elim⟩
/-! ### a class made by four keywords, the last one first -/
def gMakeK4 (c : Nat) (f : List D → (D → Prop) → Prop) (g : GA) : GE := fun ρ P => g ρ fun ds => match ds with | [a, b, c, d] => f [d, c, b, a] P | _ => False
theorem makeK4_run {c : Nat} {t : TA} {g : GA} {f : List D → (D → Prop) → Prop} {E : XK} (h1 : DA M [.bor, .bor, .bor, .full] t g) : DN M (tMakeK (M.ca c) 0 4 (spI M c [.full, .bor, .bor, .bor] f) (fun vs zs => vs ++ zs.reverse) E tNil t) (gMakeK4 c f g) := ⟨fun {pt F0 H0 z0 F o σ H ρ P Q} e q k =>
  h1.run e q fun ds F1 H1 vs q1 x1 r1 => by
    cases r1 with
    | bor r1 s =>
      cases s with
      | bor r2 s =>
        cases s with
        | bor r3 s =>
          cases s with
          | full r4 s =>
            cases s
            refine ⟨rfl, rfl, fun x dx nx nd ne => ⟨pt, F1, H1, x, dx, _, _, P, rfl, (e.step x1).ok, nx, nd, ne, rfl, .full r4 (.bor r3 (.bor r2 (.bor r1 .nil))), q1, fun d F' H' p x2 r nf => ⟨rfl, k d F' H' x p (x1.trans x2) r (x1.nn nx) nf⟩⟩⟩⟩
end
end Dl

/-! an object called, and its methods, where these may raise -/
namespace Cr
open PySem PySem.Spec PyProof.Rows L2 Xv
section
variable {X : Cx} {CX : CXT} {k : Nat} {C g : Addr} {fd : FuncData} {sp : Sp} {ps : List Str} {E : L2.St → XK} {te : TE} {t : TA} {x m : Str} {p pos apos : Pos} {e o : Expr} {es : List Expr}
/-- what the callee leaves -/
theorem run_own {pins : List (Addr × Obj)} {σ : L2.St} {H : Hp} {s : Shared} {Q : VK} {us : List Value} {vs : List V} (F : FnOk X.prog X.w X.K X.mg X.base CX k g fd ps sp) (hr : Room k X.A) (hb : Binds X.K fd ps []) (hx : PassesAt CX X σ (E σ))
    (I : Inv X pins σ H s) (r : Vals vs us) (h : sp vs H Q (E σ)) : codeAny (model X.prog X.w) X.A (.call (.ref g) ⟨us, []⟩) (fun z s' => match z with | .ok (.ret u) => EP X pins σ Q u s' | .ok _ => False | .error u => X.xe u s') s := by
  have hl : (us ++ []).length = ps.length := by rw [List.append_nil, ← r.length]; exact F.len _ _ _ _ h
  have bb := hb s us I.kIn hl
  rw [List.append_nil] at bb
  refine codeAny_mono (F.run X.A X.stack s H ⟨us, []⟩ us vs Q (E σ) hr I.env0 bb r h) fun z s' hq => ?_
  cases z with
  | error u => exact hx pins H s u s' I hq
  | ok fl =>
    cases fl with
    | ret u => exact I.after hq
    | next => exact False.elim hq
    | brk => exact False.elim hq
    | cont => exact False.elim hq
def tObjS (C : Addr) (sp : Sp) (E : L2.St → XK) (te : TE) (t : TA) : TE := fun σ H Q => te σ H fun x H1 => t σ H1 fun vs H2 => ∃ a dx fs, x = .ref a ∧ H2 a = some (.ins C dx fs) ∧ sp (.ref a :: vs) H2 Q (E σ)
theorem pe_objS (he : PE X (.Name x p) te) (c : CallsO X.K C g) (F : FnOk X.prog X.w X.K X.mg X.base CX k g fd ps sp) (hr : Room k X.A) (hb : Binds X.K fd ps []) (hx : ∀ σ, PassesAt CX X σ (E σ)) (ha : PA X (e :: es) t)
    (hst : starEach (e :: es) X.env = (false, eval e X.env) :: starEach es X.env := by rfl) (hpl : (backTo pos (starEach es X.env)).any (·.1) = false := by rfl) :
    PE X (.Call (.Name x p) (e :: es) [] pos) (tObjS C sp E te t) := by
  refine ⟨fun pins s σ H Q I h => wpAny_Call_Name_kw (thn (he.run pins s σ H _ I h) fun u s1 ⟨y, H1, I1, ry, q⟩ => ?_)⟩
  have h0 : wpAny (model X.prog X.w) X.A (spliced (backTo pos (starEach (e :: es) X.env))) (fun us s2 => (∃ a dx, u = Value.ref a ∧ s2.heap.get? a = some (PySem.W.instObj C dx)) ∧ wpAny (model X.prog X.w) X.A (call u ([] ++ us)) (EP X pins σ Q) X.xe s2) X.xe s1 := by
    refine thn (ha.run pos pins s1 σ H1 _ I1 q) fun us s2 ⟨vs, H2, I2, r, a, dx, fs, ex, ea, q2⟩ => ?_
    subst ex
    obtain rfl : u = Value.ref a := ry
    have ob := obj_get I2 ea
    exact ⟨⟨a, dx, rfl, ob⟩, wpAny_call (inst_call I2.kIn ob c.at_ c.fn c.fi (run_own (us := .ref a :: us) (vs := .ref a :: vs) F hr hb (hx σ) I2 (.cons rfl r) q2))⟩
  show wpAny _ _ (callWith pos u [] (backTo pos (starEach (e :: es) X.env)) []) _ _ _
  rw [hst] at h0 ⊢
  refine callWith_inst (P := fun h => ∃ a dx, u = Value.ref a ∧ h.get? a = some (PySem.W.instObj C dx)) ?_ (fun h ⟨a, dx, e1, e2⟩ => ?_) (Calls.evalArgs_plain h0)
  · show ((false || (backTo pos (starEach es X.env)).any (·.1)) || false) = false
    rw [hpl]
    rfl
  · subst e1
    exact keeper_inst e2
def tMethS (C : Addr) (m : Str) (sp : Sp) (E : L2.St → XK) (ta : TE) (t : TA) : TE := fun σ H Q => ta σ H fun x H1 => ∃ a dx fs, x = .ref a ∧ H1 a = some (.ins C dx fs) ∧ fs.lookup m = none ∧ t σ H1 fun vs H2 => sp (x :: vs) H2 Q (E σ)
theorem pe_methS {pl : Sem Bool} (he : PE X o te) (c : Cls X.K C) (hm : Meth X.K C m g) (F : FnOk X.prog X.w X.K X.mg X.base CX k g fd ps sp) (hr : Room k X.A) (hb : Binds X.K fd ps []) (hx : ∀ σ, PassesAt CX X σ (E σ)) (ha : PA X (e :: es) t)
    (hst : starEach (e :: es) X.env = (false, eval e X.env) :: starEach es X.env := by rfl) (hpl : (backTo pos (starEach es X.env)).any (·.1) = false := by rfl)
    (ht : eval (.Call (.Attribute o m apos) (e :: es) [] pos) X.env = (do
      let ov ← eval o X.env
      standAt apos.atName
      let (fn, fst) ← holding [ov] (getMethod ov m pl)
      callWith pos fn fst (backTo pos (starEach (e :: es) X.env)) (backToKw pos (keywordEach [] X.env))) := by rfl) :
    PE X (.Call (.Attribute o m apos) (e :: es) [] pos) (tMethS C m sp E te t) := by
  refine ⟨fun pins s σ H Q I h => PySem.W.methodCall_KW (pl := pl) (thn (he.run pins s σ H _ I h) fun u s1 ⟨y, H1, I1, ry, a, dx, fs, ex, ea, l, q⟩ => ?_) ht⟩
  subst ex
  obtain rfl : u = Value.ref a := ry
  refine getmeth_ok I1 ea c hm l (PySem.W.callWith_K (first := [.ref a]) (h₀ := X.base) I.ok.mod.kin hm.kp (thn (ha.run pos pins s1 σ H1 _ I1 q) fun us s2 ⟨vs, H2, I2, r, q2⟩ => ⟨I2.kIn, ?_⟩) hst hpl)
  exact wpAny_call (run_own (us := .ref a :: us) (vs := .ref a :: vs) F hr hb (hx σ) I2 (.cons rfl r) q2)
end
/-- an own exception class that is raised, caught, and read -/
structure XCl (P : Program) (w : World) (K : PySem.W.Frag) (mg : Str → Option Value) (base : Heap) (x : Str) (C : Addr) (f : Str) : Prop where
  ex : Ex1 P w K mg base x C f
  sub : PySem.W.subIn K (.ref C) (.type "BaseException") = some true
  ty : PySem.W.typeIn K (.ref C) = some (.type "type")
  xf : XfC K C
  no : PySem.W.findIn K (.ref C) f = some none
  em : PySem.W.exmOne K (.ref C) (.ref C) = some true
/-- a def that may raise -/
structure ClX (P : Program) (w : World) (K : PySem.W.Frag) (mg : Str → Option Value) (base : Heap) (k : Nat) (x : Str) (sp : Sp) : Prop where
  ex : ∃ (f : Addr) (fd : FuncData) (ps : List Str), FnOk P w K mg base (L2.CX P w) k f fd ps sp ∧ mg x = some (.ref f) ∧ PySem.W.keepIn K (.ref f) = true ∧ Binds K fd ps []
/-- an own method that may raise -/
structure MetX (P : Program) (w : World) (K : PySem.W.Frag) (mg : Str → Option Value) (base : Heap) (k : Nat) (C : Addr) (m : Str) (sp : Sp) : Prop where
  ex : ∃ (g : Addr) (fd : FuncData) (ps : List Str), Cls K C ∧ Meth K C m g ∧ FnOk P w K mg base (L2.CX P w) k g fd ps sp ∧ Binds K fd ps []
/-- an own class's objects, called, where that may raise -/
structure CalX (P : Program) (w : World) (K : PySem.W.Frag) (mg : Str → Option Value) (base : Heap) (k : Nat) (C : Addr) (sp : Sp) : Prop where
  ex : ∃ (g : Addr) (fd : FuncData) (ps : List Str), CallsO K C g ∧ FnOk P w K mg base (L2.CX P w) k g fd ps sp ∧ Binds K fd ps []
section
variable {X : Cx} {W : WX} {k j : Nat} {C : Addr} {sp : Sp} {te : TE} {t : TA} {x m : Str} {p pos apos : Pos} {e o : Expr} {es : List Expr}
theorem pe_clX (c : ClX X.prog X.w X.K X.mg X.base k x sp) (hr : Room j X.A) (hk : k ≤ j) (tk : Takes X W) (hg : Gl X x) (ha : PA X (e :: es) t)
    (hdb : (x == ("__debug__" : Str)) = false := by decide) (he : starEach (e :: es) X.env = (false, eval e X.env) :: starEach es X.env := by rfl) (hpl : (backTo pos (starEach es X.env)).any (·.1) = false := by rfl) :
    PE X (.Call (.Name x p) (e :: es) [] pos) (tCallS sp (WE W) t) := by
  obtain ⟨f, fd, ps, F, hm, kp, b⟩ := c.ex
  exact pe_callS F (hr.mono hk) hg hm kp b (fun σ => passAt tk σ) ha hdb he hpl
theorem pe_calX (c : CalX X.prog X.w X.K X.mg X.base k C sp) (hr : Room j X.A) (hk : k ≤ j) (tk : Takes X W) (he : PE X (.Name x p) te) (ha : PA X (e :: es) t)
    (hst : starEach (e :: es) X.env = (false, eval e X.env) :: starEach es X.env := by rfl) (hpl : (backTo pos (starEach es X.env)).any (·.1) = false := by rfl) :
    PE X (.Call (.Name x p) (e :: es) [] pos) (tObjS C sp (WE W) te t) := by
  obtain ⟨g, fd, ps, co, F, b⟩ := c.ex
  exact pe_objS he co F (hr.mono hk) b (fun σ => passAt tk σ) ha hst hpl
theorem pe_metX {pl : Sem Bool} (c : MetX X.prog X.w X.K X.mg X.base k C m sp) (hr : Room j X.A) (hk : k ≤ j) (tk : Takes X W) (he : PE X o te) (ha : PA X (e :: es) t)
    (hst : starEach (e :: es) X.env = (false, eval e X.env) :: starEach es X.env := by rfl) (hpl : (backTo pos (starEach es X.env)).any (·.1) = false := by rfl)
    (ht : eval (.Call (.Attribute o m apos) (e :: es) [] pos) X.env = (do
      let ov ← eval o X.env
      standAt apos.atName
      let (fn, fst) ← holding [ov] (getMethod ov m pl)
      callWith pos fn fst (backTo pos (starEach (e :: es) X.env)) (backToKw pos (keywordEach [] X.env))) := by rfl) :
    PE X (.Call (.Attribute o m apos) (e :: es) [] pos) (tMethS C m sp (WE W) te t) := by
  obtain ⟨g, fd, ps, hc, hm, F, b⟩ := c.ex
  exact pe_methS (pl := pl) he hc hm F (hr.mono hk) b (fun σ => passAt tk σ) ha hst hpl ht
end
end Cr

/-! Data logic, part 13: defs that raise: their promise tells the exception, as an object of data; everything else in them is as in other defs -/
namespace Dl
open PySem PySem.Spec PyProof.Rows L2 Xv Cr
/-- an own exception class: its number, its fields -/
class XcI (M : Cm) (C : Addr) (fs : List Str) (c : outParam Nat) : Prop where
  ca : M.ca c = C
  fn : M.fn c = fs
/-- a def's promise that it raises -/
def spX (M : Cm) (ks : List Kd) (f : List D → (D → Prop) → Prop) : Sp := fun vs H _ E => ∃ (pt F : Addr → Prop) (ds : List D) (P : D → Prop), Ok M pt F H ∧ RA M pt F H ks vs ds ∧ f ds P ∧ ∀ c xs F' H' a, P (.ob c xs) → Ext M pt F H F' H' → XdAt M F' H' a c xs → E (.ref (M.ca c)) (some a) H'
section
variable {M : Cm} {K : PySem.W.Frag} {m : Md} {E : XK} {ks : List Kd} {f : List D → (D → Prop) → Prop} {ta : TA} {ga : GA} {te : TE} {ge : GE}
/-! ### raise -/
def tRse (E : XK) (t : L2.St → Hp → XK → Prop) : TS := fun _ σ H => t σ H fun cls d H' => E cls d H'
theorem ps_rse {X : Cx} {st : Stmt} {E : XK} {t : L2.St → Hp → XK → Prop} (h : PS X st (fun _ σ H => t σ H fun cls d H' => (fun (cls : Value) (d : Option Addr) (_ : L2.St) (H : Hp) => E cls d H) cls d σ H')) : PS X st (tRse E t) := h
def sRse (c : Nat) (n : Nat) (g : GA) : GS := fun δ ρ => g ρ fun ds => ds.length = n ∧ δ.rt (.ob c ds)
def tMk2 (C : Addr) (ta : TA) (f g : Str) : L2.St → Hp → XK → Prop := fun σ H Q => ta σ H fun vs H1 => vs.length = 2 ∧ ∀ (d : Addr) (H' : Hp), Same H1 H' → H1 d = none → H' d = some (HO.xd [(g, vs.getD 1 V.non), (f, vs.headD V.non)]) → Q (Value.ref C) (some d) H'
theorem pmk_2D {X : Cx} {C : Addr} {e : Expr} {ta : TA} {f g : Str} (h : PMk X e fun σ H Q => ta σ H fun vs H1 => vs.length = 2 ∧ ∀ (d : Addr) (H' : Hp), Same H1 H' → H1 d = none → H' d = some (HO.xd [(g, vs.getD 1 V.non), (f, vs.headD V.non)]) → Q (Value.ref C) (some d) H') : PMk X e (tMk2 C ta f g) := h
instance {C : Addr} {fd : Str} {c : Nat} [x : XcI M C [fd] c] [h : DL M ta ga] : DS M (.exc E) (tRse E (tMkX C ta (fun vs => [(fd, vs.headD V.non)]) 1)) (sRse c 1 ga) := ⟨fun {pt F0 H0 z0 F o σ H ρ δ En'} e l q =>
  h.run e q fun ds F1 H1 vs q1 x1 r1 => ⟨by rw [r1.length]; exact q1.1, fun d nd => by
    have e1 := e.step x1
    have x2 := Ext.put0 (F := F1) e1.ok (o := .xd [(fd, vs.headD V.non)]) nd
    have hl : vs.length = 1 := by rw [r1.length]; exact q1.1
    have hz : [(fd, vs.headD V.non)] = (M.fn c).zip vs := by
      rw [x.fn]
      match vs, hl with
      | [v], _ => rfl
    have := l.rt F1 (upd H1 d (.xd [(fd, vs.headD V.non)])) d c ds (e.ext.trans (x1.trans x2)) ⟨vs, by rw [upd_same, hz], by rw [x.fn]; exact hl, r1.ext e1.ok x2⟩ q1.2
    rw [x.ca] at this
    exact this⟩⟩
/-- two fields: the second one stands first -/
instance {C : Addr} {f1 f2 : Str} {c : Nat} [x : XcI M C [f2, f1] c] [h : DL M ta ga] : DS M (.exc E) (tRse E (tMk2 C ta f1 f2)) (fun δ ρ => ga ρ fun ds => ∃ a b, ds = [a, b] ∧ δ.rt (.ob c [b, a])) := ⟨fun {pt F0 H0 z0 F o σ H ρ δ En'} e l q =>
  h.run e q fun ds F1 H1 vs q1 x1 r1 => by
    obtain ⟨a, b, rfl, q2⟩ := q1
    cases r1 with
    | cons ra s =>
      cases s with
      | cons rb s =>
        cases s
        refine ⟨rfl, fun d H' s nd hd => ?_⟩
        have e1 := e.step x1
        have x2 := Ext.of_same e1.ok s
        have := l.rt F1 H' d c [b, a] (e.ext.trans (x1.trans x2)) ⟨_, by rw [x.fn]; exact hd, by rw [x.fn]; rfl, .cons (rb.ext e1.ok x2) (.cons (ra.ext e1.ok x2) .nil)⟩ q2
        rw [x.ca] at this
        exact this⟩
/-! ### what is called raises -/
abbrev WE1 (E : XK) : L2.St → XK := WE fun cls d _ H => E cls d H
def tDropX (E : XK) (te : TE) : TS := tDrop te
theorem ps_drx {X : Cx} {st : Stmt} {E : XK} {sp : Sp} {t : TA} (h : PS X st (tDrop (tCallS sp (WE1 E) t))) : PS X st (tDropX E (tCallS sp (WE1 E) t)) := h
theorem ps_drm {X : Cx} {st : Stmt} {E : XK} {sp : Sp} {t : TA} {C : Addr} {n : Str} {ta : TE} (h : PS X st (tDrop (tMethS C n sp (WE1 E) ta t))) : PS X st (tDropX E (tMethS C n sp (WE1 E) ta t)) := h
def tRetX (E : XK) (te : TE) : TS := tRet te
theorem ps_rtx {X : Cx} {st : Stmt} {E : XK} {sp : Sp} {t : TA} (h : PS X st (tRet (tCallS sp (WE1 E) t))) : PS X st (tRetX E (tCallS sp (WE1 E) t)) := h
theorem ps_rtm {X : Cx} {st : Stmt} {E : XK} {sp : Sp} {t : TA} {C : Addr} {n : Str} {ta : TE} (h : PS X st (tRet (tMethS C n sp (WE1 E) ta t))) : PS X st (tRetX E (tMethS C n sp (WE1 E) ta t)) := h
/-- an expression that raises -/
class DX (M : Cm) (E : XK) (t : TE) (g : outParam GE) : Prop where
  run : ∀ {pt F0 : Addr → Prop} {H0 : Hp} {z0 : Gh} {F : Addr → Prop} {o : Ow} {σ : L2.St} {H : Hp} {ρ : Rho} {P : D → Prop} {Q : VK}, En M pt F0 H0 z0 F o σ H ρ → g ρ P → (∀ c xs F' H' a, P (.ob c xs) → Ext M pt F H F' H' → XdAt M F' H' a c xs → E (.ref (M.ca c)) (some a) H') → t σ H Q
instance [h1 : DA M ks ta ga] : DX M E (tCallS (spX M ks f) (WE1 E) ta) (gFun f ga) := ⟨fun {pt F0 H0 z0 F o σ H ρ P Q} e q k =>
  h1.run e q fun ds F1 H1 vs q1 x1 r1 => ⟨pt, F1, ds, P, (e.step x1).ok, r1, q1, fun c xs F' H' a p x xd => k c xs F' H' a p (x1.trans x) xd⟩⟩
instance {C : Addr} {n : Str} [h1 : DB M te ge] [h2 : DA M ks ta ga] : DX M E (tMethS C n (spX M (.bor :: ks) f) (WE1 E) te ta) (gMeth M C n f ge ga) := ⟨fun {pt F0 H0 z0 F o σ H ρ P Q} e q k =>
  h1.run e q fun d1 F1 H1 v1 q1 x1 r1 => by
    obtain ⟨c, ds, rfl, rfl, nm, q2⟩ := q1
    obtain ⟨a, dx, vs, rfl, np, hz, hl, rv⟩ := id r1
    refine ⟨a, dx, _, rfl, hz, zip_none nm, h2.run (e.step x1) q2 fun es F2 H2 us q3 x2 r2 => ?_⟩
    exact ⟨pt, F2, _, P, ((e.step x1).step x2).ok, .bor (r1.ext (e.step x1).ok x2) r2, q3, fun c xs F' H' a p x xd => k c xs F' H' a p ((x1.trans x2).trans x) xd⟩⟩
def sExc (ge : GE) : GS := fun δ ρ => ge ρ δ.rt
instance [h : DX M E te ge] : DS M (.exc E) (tDropX E te) (sExc ge) := ⟨fun {pt F0 H0 z0 F o σ H ρ δ En'} e l q => h.run e q fun c xs F' H' a p x xd => l.rt F' H' a c xs (e.ext.trans x) xd p⟩
instance [h : DX M E te ge] : DS M (.exc E) (tRetX E te) (sExc ge) := ⟨fun {pt F0 H0 z0 F o σ H ρ δ En'} e l q => h.run e q fun c xs F' H' a p x xd => l.rt F' H' a c xs (e.ext.trans x) xd p⟩
end
section
variable {M : Cm} {P : Program} {w : World} {K : PySem.W.Frag} {mg : Str → Option Value} {base : Heap} {x qual : Str} {st : Stmt} {f : Addr} {fd : FuncData} {N ps : List Str} {k : Nat} {ks : List Kd} {fn : List D → (D → Prop) → Prop}
theorem okX (F : Fun K x qual st f fd) (S : FnScope N ps (defScope st)) (hk : ks.length = ps.length)
    (hb : ∀ (cdv : Value) (A : Around) (outer : List Env) (s : Shared) (H : Hp) (E : XK), Room k (A.deeper (envOfC qual (defScope st) s.heap.objs.size f cdv)) →
      ∃ t g, PSs (cxOf (L2.CX P w) P w K mg base N qual (defScope st) f cdv A outer s H E) (defBody st) t ∧ DS M (.exc E) t g ∧ ∀ ds P, fn ds P → g { nx := fun _ => False, rt := P } (rho0 ks ds (N.length - ks.length))) : FnOk P w K mg base (L2.CX P w) (k + 1) f fd ps (spX M ks fn) := by
  refine F.okX S (fun vs H Q E h => ?_) (fun cdv A outer s H vs Q E hr h => ?_)
  · obtain ⟨pt, F, ds, P, _, r, _⟩ := h
    rw [r.length, hk]
  · obtain ⟨pt, F, ds, P', ok, r, hf, kk⟩ := h
    obtain ⟨t, g, hp, hd, hg⟩ := hb cdv A outer s H E hr
    exact ⟨t, hp, hd.run (δ := { nx := fun _ => False, rt := P' }) (en_start ok r) ⟨fun _ _ _ _ _ _ _ q => q.elim, fun _ _ _ _ _ _ _ q => q.elim, fun _ _ _ _ _ _ _ q => q.elim, fun F' H' a c ds x xd p => kk c ds F' H' a p x xd⟩ (hg ds P' hf)⟩
end
end Dl

/-! Data logic, part 14: isinstance; lemmas for loops -/
namespace Dl
open PySem PySem.Spec PyProof.Rows L2 Xv Cr
class ClsI (c : V) (u : outParam Value) : Prop where
  ok : ClsV c u
section
variable {M : Cm} {K : PySem.W.Frag} {te : TE} {ge : GE}
instance {C : Addr} : ClsI (.ref C) (.ref C) := ⟨by constructor⟩
instance {x : String} : ClsI (.ty x) (.type x) := ⟨by constructor⟩
/-- isinstance(e, C) -/
def gIsi (M : Cm) (K : PySem.W.Frag) (u : Value) (ge : GE) : GE := fun ρ P => ge ρ fun d => ObC M K d ∧ ∃ b, PySem.W.kitOne K (tyD M d) u = some b ∧ P (.bl b)
instance {c : V} {u : Value} [hc : ClsI c u] [h : DB M te ge] : DTc M (tCB (rIsi K) (tCons te (tCons (tC c) tNil))) (gIsi M K u ge) := ⟨fun {pt F0 H0 z0 F o σ H ρ P Q} e q k =>
  h.run e q fun d F1 H1 v q1 x1 r1 => by
    obtain ⟨oc, b, hk, q2⟩ := q1
    exact ⟨v, c, _, u, b, rfl, hc.ok, ty_of oc r1, hk, k _ F1 H1 _ q2 x1 (.bl b)⟩⟩
class ClsL (t : TA) (us : outParam (List Value)) : Prop where
  run : ∃ cs, Paired ClsV cs us ∧ ∀ (σ : L2.St) (H : Hp) (Q : List V → Hp → Prop), Q cs H → t σ H Q
instance : ClsL tNil [] := ⟨[], .nil, fun _ _ _ q => q⟩
instance {c : V} {u : Value} {t : TA} {us : List Value} [hc : ClsI c u] [h : ClsL t us] : ClsL (tCons (tC c) t) (u :: us) := by
  obtain ⟨cs, p, r⟩ := h.run
  exact ⟨c :: cs, .cons hc.ok p, fun σ H Q q => r σ H _ q⟩
/-- isinstance(e, (C, D)) -/
def gIsiT (M : Cm) (K : PySem.W.Frag) (us : List Value) (ge : GE) : GE := fun ρ P => ge ρ fun d => ObC M K d ∧ us.length ≤ 1000 ∧ ∃ b, PySem.W.kitAny K (tyD M d) us = some b ∧ P (.bl b)
instance {t : TA} {us : List Value} [hc : ClsL t us] [h : DB M te ge] : DTc M (tCB (rIsiT K) (tCons te (tCons (tTup t) tNil))) (gIsiT M K us ge) := ⟨fun {pt F0 H0 z0 F o σ H ρ P Q} e q k =>
  h.run e q fun d F1 H1 v q1 x1 r1 => by
    obtain ⟨oc, hl, b, hk, q2⟩ := q1
    obtain ⟨cs, p, run⟩ := hc.run
    have e1 := e.step x1
    refine run σ H1 _ ⟨by rw [Paired.length p, sizeLine_eq]; omega, fun tp nt => ?_⟩
    have x2 := Ext.put0 (F := F1) e1.ok (o := .tup cs) nt
    exact ⟨v, tp, cs, _, us, b, rfl, upd_same, p, ty_of oc (r1.ext e1.ok x2), hk, k _ F1 _ _ q2 (x1.trans x2) (.bl b)⟩⟩
end
/-! ### loops and branches -/
theorem sSeqI {g h : GS} {δ : DEnds} {ρ : Rho} (I : Rho → Prop) (h1 : ∀ k : Rho → Prop, (∀ ρ', I ρ' → k ρ') → g { δ with nx := k } ρ) (h2 : ∀ ρ', I ρ' → h δ ρ') : sSeq g h δ ρ := h1 _ h2
theorem nameGo {i : Nat} {d : D} {ρ : Rho} {k : Rho → Prop} (h : k (ρ.set i (.d d))) : bName i d ρ k := h
theorem forGoI {bd : BD} {g : GS} {δ : DEnds} (I : Rho → Prop) : ∀ {xs : List D} {ρ : Rho}, I ρ → (∀ x ∈ xs, ∀ ρ, I ρ → ∀ k : Rho → Prop, (∀ ρ', I ρ' → k ρ') → bd x ρ fun ρ2 => g { nx := k, rt := δ.rt, bk := δ.nx, ct := k } ρ2) → (∀ ρ, I ρ → δ.nx ρ) → forGo bd g δ xs ρ
  | [], ρ, h0, _, hd => hd ρ h0
  | x :: xs, ρ, h0, hs, hd => hs x List.mem_cons_self ρ h0 _ fun ρ' h' => forGoI I h' (fun y hy => hs y (List.mem_cons_of_mem _ hy)) hd
end Dl

/-! dict comprehensions that are given a name on one line; over any walk (out of K12i) -/
namespace Cr
open PySem PySem.Spec PyProof.Rows L2 Xv TL
section
variable {X : Cx} {i : Nat} {y : Str} {py pos spos : Pos} {kx vx tg iter : Expr} {ifs : List Expr} {scope : Scope} {own : List (Str × Nat)} {wi : TI} {g : TG} {tt : TT} {tk tv : TE}
theorem sw_dc {gs : List Comprehension} {l : Nat} {env : Env} (a : env.scope.kind = .function) (b : env.scope.names.lookup y = some .local) (c : (py.line == pos.line) = true) (d : (scope.names.any fun (n, k) => n == y && (k == .local || k == .cell)) = false) :
    swapsWith (.DictComp kx vx gs scope pos) (some (.Name y py)) l env = pure true := by
  have h1 : env.kindOf y = some .local := b
  have h2 : env.blockKind = .function := by
    unfold Env.blockKind
    rw [a]
    rfl
  unfold swapsWith
  simp only [h1, h2, c, d, Expr.pos]
  rfl
/-- a name := a dict comprehension, on one line, the name a local -/
theorem ps_dcTo (calm : X.calm = true) (nd : X.N.Nodup) (ny : X.N[i]? = some y) (ly : X.env.scope.names.lookup y = some .local) (sw : swapsWith (.DictComp kx vx [⟨tg, iter, ifs, 0⟩] scope pos) (some (.Name y py)) spos.line X.env = pure true) (wI : PI X tg iter wi) (bok : BlkOk X.N X.env.scope scope own)
    (wg : ∀ (s : Shared) (H : Hp) (C : Addr) (cl : List (Str × Addr)) (fp : List Addr), PG (X.blk s H scope (compEnvC scope cl C X.env) fp) tg g) (wt : ∀ (s : Shared) (H : Hp) (C : Addr) (cl : List (Str × Addr)) (fp : List Addr), PTs (X.blk s H scope (compEnvC scope cl C X.env) fp) ifs tt)
    (wk : ∀ (s : Shared) (H : Hp) (C : Addr) (cl : List (Str × Addr)) (fp : List Addr), PE (X.blk s H scope (compEnvC scope cl C X.env) fp) kx tk) (wv : ∀ (s : Shared) (H : Hp) (C : Addr) (cl : List (Str × Addr)) (fp : List Addr), PE (X.blk s H scope (compEnvC scope cl C X.env) fp) vx tv)
    (fs : ∀ x, foldedSetIterable iter X.env x = pure x := by intro _; rfl) : PS X (.Assign [.Name y py] (.DictComp kx vx [⟨tg, iter, ifs, 0⟩] scope pos) spos) (tAsg (tDc wi g tt tk tv (own.map (·.2))) (gName i)) := by
  constructor
  intro pins s σ H Z J0 red
  rw [exec_Assign_Name_used _ _ _ _ sw]
  apply wpAny_bind
  apply wpAny_standAt
  apply wpAny_bind
  show wpAny _ X.A (do let _ ← comprehension (.DictComp kx vx [⟨tg, iter, ifs, 0⟩] scope pos) scope X.env (firstIterPos [⟨tg, iter, ifs, 0⟩] pos) newDict false (eval iter X.env) (some (assign (.Name y py) X.env))) _ _ s
  replace red : tDc wi g tt tk tv (own.map (·.2)) σ H (fun x G => gName i x σ G Z.nx) := red
  apply wpAny_bind
  refine thn (dc_core (Qf := fun _ r => SP X pins Z .next r) calm nd J0 wI bok wg wt wk wv fs red ?_) (fun _ _ z => wpAny_pure (wpAny_pure z))
  intro D F r m G J1 z nsp ok
  show wpAny _ _ (assign (.Name y py) X.env (.ref D)) _ _ _
  obtain ⟨f0, f1, f2, f3, f4, f5⟩ := ok
  apply wpAny_assign_Name
  refine store_ok2 (v := V.ref D) J1 nd ny (.inl ly) rfl ?_ (.inr ly)
  intro r2 J2 ⟨b, sb, hb⟩
  have nb : F ≠ b := hb.elim (fun e q => f1 (q.trans e)) (fun e q => f4 y b e q.symm)
  exact ⟨m, nsp.sameBut sb nb, fun h3 sb3 => ⟨_, G, J2.turned (t' := r2.toks) (fun c o n e => (sb3.2 c n).trans e) f0 f1 f3 f4 f5, z⟩⟩
end
/-- a dict comprehension over any walk -/
theorem dc_walk {J : It} {n : Nat} {G : Hp → Prop} {Y : Nat → Hp → V → Hp → Prop} (w : Walk J n G Y) {g : TG} {tt : TT} {tk tv : TE} {vs : List Nat} {σ : L2.St} {H1 : Hp} {D : Addr} {Qd : Hp → Prop} (I : Nat → Hp → Prop) (i0 : I 0 (upd H1 D (.dK []))) (iG : ∀ i H, i ≤ n → I i H → G H)
    (step : ∀ i x H H', i < n → I i H → Y i H x H' → g x (wipe σ vs) H' fun σ2 H2 => wipe σ2 vs = wipe σ vs ∧ tt σ2 H2 fun b H3 => if b = true then tk σ2 H3 fun y H4 => tv σ2 H4 fun z H5 => ∃ kvs k, y = kV k ∧ H5 D = some (.dK kvs) ∧ kvs.length < sizeLine ∧ I (i + 1) (upd H5 D (.dK (putK kvs k z))) else I (i + 1) H3) (last : ∀ H, I n H → Qd H) :
    ∃ W : Nat → Nat → Hp → Prop, (∃ m, W 0 m (upd H1 D (.dK []))) ∧ ∀ i m H, W i m H → (J.stop i H ∧ Qd H) ∨ (J.go i H ∧ ∃ Nx : Hp → Prop, (∀ H', Nx H' → ∃ m', m' < m ∧ W (i + 1) m' H') ∧
      ∀ x H', J.yld i H x H' → g x (wipe σ vs) H' fun σ2 H2 => wipe σ2 vs = wipe σ vs ∧ tt σ2 H2 fun b H3 => if b = true then tk σ2 H3 fun y H4 => tv σ2 H4 fun z H5 => ∃ kvs k, y = kV k ∧ H5 D = some (.dK kvs) ∧ kvs.length < sizeLine ∧ Nx (upd H5 D (.dK (putK kvs k z))) else Nx H3) := by
  refine ⟨fun i m H => m + i = n ∧ I i H, ⟨n, rfl, i0⟩, fun i m H hW => ?_⟩
  obtain ⟨hm, hI⟩ := hW
  have hG := iG i H (by omega) hI
  cases m with
  | zero =>
    obtain rfl : i = n := by omega
    exact .inl ⟨w.stops H hG, last H hI⟩
  | succ m => exact .inr ⟨w.goes i H (by omega) hG, I (i + 1), fun H' q => ⟨m, Nat.lt_succ_self m, by omega, q⟩, fun x H' y => step i x H H' (by omega) hI (w.yields i H x H' (by omega) hG y)⟩
end Cr

/-! Data logic, part 15: while, dict comprehensions -/
namespace Dl
open PySem PySem.Spec PyProof.Rows L2 Xv Cr
section
variable {M : Cm} {K : PySem.W.Frag} {m : Md} {tt : TT} {gt : GT} {t : TS} {g : GS}
/-- an invariant with a number that gets smaller -/
def sWhile (gt : GT) (g : GS) : GS := fun δ ρ => ∃ I : Nat → Rho → Prop, (∃ n, I n ρ) ∧ ∀ n ρ, I n ρ → gt ρ fun c => if c = true then g { nx := fun ρ' => ∃ n', n' < n ∧ I n' ρ', rt := δ.rt, bk := δ.nx, ct := fun ρ' => ∃ n', n' < n ∧ I n' ρ' } ρ else δ.nx ρ
instance [h0 : DTT M tt gt] [h1 : DS M m t g] : DS M m (tWhile tt t) (sWhile gt g) := ⟨fun {pt F0 H0 z0 F o σ H ρ δ E} e l ⟨I, ⟨n, hn⟩, hs⟩ => by
  refine ⟨fun j σ' H' => ∃ Fi oi ρi, En M pt F0 H0 z0 Fi oi σ' H' ρi ∧ Agr F H Fi H' ∧ I j ρi, ⟨n, F, o, ρ, e, .refl, hn⟩, fun j σ' H' ⟨Fi, oi, ρi, ei, a, hI⟩ => ?_⟩
  refine h0.run ei (hs j ρi hI) fun c F1 H1 q1 x1 => ?_
  have e1 := ei.step x1
  have a1 := a.trans (Agr.of ei.ok x1)
  cases c with
  | true =>
    rw [if_pos rfl] at q1 ⊢
    refine ⟨fun σ' H' => ∃ m', m' < j ∧ ∃ Fi oi ρi, En M pt F0 H0 z0 Fi oi σ' H' ρi ∧ Agr F H Fi H' ∧ I m' ρi, fun _ _ h => h, h1.run (δ := { nx := fun ρ' => ∃ n', n' < j ∧ I n' ρ', rt := δ.rt, bk := δ.nx, ct := fun ρ' => ∃ n', n' < j ∧ I n' ρ' }) e1 ⟨fun F' o' σ5 H5 ρ5 e5 a5 ⟨m', hm, hI'⟩ => ⟨m', hm, F', o', ρ5, e5, a1.trans a5, hI'⟩, fun F' o' σ5 H5 ρ5 e5 a5 q5 => l.nx _ _ _ _ _ e5 (a1.trans a5) q5, fun F' o' σ5 H5 ρ5 e5 a5 ⟨m', hm, hI'⟩ => ⟨m', hm, F', o', ρ5, e5, a1.trans a5, hI'⟩, l.rt⟩ q1⟩
  | false =>
    rw [if_neg Bool.false_ne_true] at q1 ⊢
    exact l.nx _ _ _ _ _ e1 a1 q1⟩
/-! ### dict comprehensions -/
def putD (ps : List (Key × D)) (k : Key) (d : D) : List (Key × D) := if (ps.any fun kv => decide (kv.1 = k)) = true then ps.map (fun kv => if kv.1 = k then (kv.1, d) else kv) else ps ++ [(k, d)]
theorem RpK.keys {F : Addr → Prop} {H : Hp} {p : Key → Bool} : ∀ {vs : List (Key × V)} {ds : List (Key × D)}, RpK M F H vs ds → (vs.any fun kv => p kv.1) = ds.any fun kv => p kv.1
  | _, _, .nil => rfl
  | _, _, .cons _ s => by rw [List.any_cons, List.any_cons, RpK.keys s]
theorem RpK.app {F : Addr → Prop} {H : Hp} : ∀ {vs us : List (Key × V)} {ds es : List (Key × D)}, RpK M F H vs ds → RpK M F H us es → RpK M F H (vs ++ us) (ds ++ es)
  | _, _, _, _, .nil, k => k
  | _, _, _, _, .cons r s, k => .cons r (RpK.app s k)
theorem RpK.map {F : Addr → Prop} {H : Hp} {k : Key} {v : V} {d : D} (r : Rp M F H v d) : ∀ {vs : List (Key × V)} {ds : List (Key × D)}, RpK M F H vs ds → RpK M F H (vs.map fun kv => if kv.1 = k then (kv.1, v) else kv) (ds.map fun kv => if kv.1 = k then (kv.1, d) else kv)
  | _, _, .nil => .nil
  | (k', _) :: _, _, .cons r' s => by
    rw [List.map_cons, List.map_cons]
    by_cases e : k' = k
    · rw [if_pos e, if_pos e]
      exact .cons r (RpK.map r s)
    · rw [if_neg e, if_neg e]
      exact .cons r' (RpK.map r s)
theorem RpK.put {F : Addr → Prop} {H : Hp} {k : Key} {v : V} {d : D} {vs : List (Key × V)} {ds : List (Key × D)} (s : RpK M F H vs ds) (r : Rp M F H v d) : RpK M F H (putK vs k v) (putD ds k d) := by
  unfold putK putD
  rw [s.keys (p := fun x => decide (x = k))]
  split
  · exact s.map r
  · exact s.app (.cons r .nil)
theorem putD_len (ps : List (Key × D)) (k : Key) (d : D) : (putD ps k d).length ≤ ps.length + 1 := by
  unfold putD
  split
  · rw [List.length_map]; omega
  · rw [List.length_append]; exact Nat.le_refl _
def dcGo (st : D → (Option (Key × D) → Prop) → Prop) : List D → List (Key × D) → (D → Prop) → Prop
  | [], acc, P => P (.dic acc)
  | x :: xs, acc, P => st x fun r => dcGo st xs (match r with | some (k, d) => putD acc k d | none => acc) P
def dcSt (bd : BD) (gt : GT) (gk gv : GE) (ρ : Rho) : D → (Option (Key × D) → Prop) → Prop := fun x k => bd x ρ fun ρ2 => gt ρ2 fun b => if b = true then gk ρ2 (fun a => gv ρ2 fun y => ∃ key, a = dK key ∧ k (some (key, y))) else k none
def gDc (gi : GA) (ws : List Nat) (bd : BD) (gt : GT) (gk gv : GE) (vs : List Nat) : GE := fun ρ P => gi ρ fun ds => (ws.all fun j => vs.contains j) = true ∧ ds.length ≤ 1000000 ∧ dcGo (dcSt bd gt gk gv (wipeR ρ vs)) ds [] P
instance {wi : TI} {gi : GA} {g : TG} {ws vs : List Nat} {bd : BD} {tt : TT} {gt : GT} {tk tv : TE} {gk gv : GE} [hi : DI M wi gi] [hg : DG M g ws bd] [ht : DTT M tt gt] [hk : DT M tk gk] [he : DT M tv gv] : DN M (tDc wi g tt tk tv vs) (gDc gi ws bd gt gk gv vs) := ⟨fun {pt F0 H0 z0 F o σ H ρ P Q} e q k =>
  hi.run e q fun ds F1 H1 J q1 x1 it D nD => by
    obtain ⟨hws, hz, q1⟩ := q1
    obtain ⟨G, Y, w, st, yl⟩ := it.ex
    have e1 := e.step x1
    have ok1 := e1.ok
    have nF1 : ¬ F1 D := fun z => (ok1.liv D z).ne nD
    have npt : ¬ pt D := ok1.not_pt nD
    have w' : Walk J ds.length G Y := w
    refine dc_walk w' (fun i H' => ∃ Fi acc ys, Ext M pt F1 H1 Fi H' ∧ H' D = some (.dK acc) ∧ ¬ Fi D ∧ RpK M Fi H' acc ys ∧ ys.length ≤ i ∧ dcGo (dcSt bd gt gk gv (wipeR ρ vs)) (ds.drop i) ys P)
      ⟨F1, [], [], .put0 ok1 nD, upd_same, nF1, .nil, Nat.le_refl _, q1⟩ (fun i H' _ ⟨Fi, _, _, x, _⟩ => st H' fun b u t fb eb => x.same b u t (fun z => ok1.dis b z fb) eb) (fun i x H' H'' hlt p y => ?_) (fun H' p => ?_)
    · obtain ⟨Fi, acc, ys, x2, hD, nFi, ra, hl, q2⟩ := p
      have ok2 := ok1.ext x2
      obtain ⟨d, F3, hd, x3, rd⟩ := yl i Fi H' x H'' hlt ok2 x2.sub (fun b u t fb eb => x2.same b u t (fun z => ok1.dis b z fb) eb) y
      have e3 := ((e1.step x2).step x3).wipe vs
      have ok3 := ok2.ext x3
      have hD3 := x3.same D _ rfl npt hD
      have nF3 : ¬ F3 D := fun z => (x3.new D z).elim nFi fun n => n.no (.at_ hD)
      have ed : ds.drop i = d :: ds.drop (i + 1) := by
        obtain ⟨hlt', rfl⟩ := List.getElem?_eq_some_iff.mp hd
        exact List.drop_eq_getElem_cons hlt'
      rw [ed] at q2
      have q2 : bd d (wipeR ρ vs) (fun ρ2 => gt ρ2 fun b => if b = true then gk ρ2 (fun a => gv ρ2 fun y => ∃ key, a = dK key ∧ dcGo (dcSt bd gt gk gv (wipeR ρ vs)) (ds.drop (i + 1)) (putD ys key y) P) else dcGo (dcSt bd gt gk gv (wipeR ρ vs)) (ds.drop (i + 1)) ys P) := q2
      refine hg.run e3 q2 rd fun σ2 ρ2 q4 e4 l4 w4 => ⟨wipe_eq (ws := ws) (by rw [l4, wipe_length]) w4 hws, ?_⟩
      refine ht.run e4 q4 fun c F5 H5 q5 x5 => ?_
      have e5 := e4.step x5
      have ok5 := e5.ok
      have hD5 := x5.same D _ rfl npt hD3
      have nF5 : ¬ F5 D := fun z => (x5.new D z).elim nF3 fun n => n.no (.at_ hD3)
      cases c with
      | true =>
        rw [if_pos rfl]
        refine hk.run e5 q5 fun dk F6 H6 vk q6 x6 r6 => ?_
        have ok6 := ok5.ext x6
        refine he.run (e5.step x6) q6 fun d7 F7 H7 v q7 x7 r7 => ?_
        obtain ⟨key, rfl, q8⟩ := q7
        have hD6 := x6.same D _ rfl npt hD5
        have nF6 : ¬ F6 D := fun z => (x6.new D z).elim nF5 fun n => n.no (.at_ hD5)
        have hD7 := x7.same D _ rfl npt hD6
        have nF7 : ¬ F7 D := fun z => (x7.new D z).elim nF6 fun n => n.no (.at_ hD6)
        have up : ∀ b u, nt u = true → F7 b → H7 b = some u → F7 b ∧ upd H7 D (.dK (putK acc key v)) b = some u := fun b u _ fb eb => ⟨fb, by rw [upd_ne (fun (z : b = D) => nF7 (z ▸ fb))]; exact eb⟩
        have rk : RpK M F7 H7 acc ys := (((ra.ext ok2 x3).ext ok3 x5).ext ok5 x6).ext ok6 x7
        have ll := rk.length
        refine ⟨acc, key, rp_dK r6, hD7, by rw [sizeLine_eq]; omega, F7, putK acc key v, putD ys key d7, ?_, upd_same, nF7, (rk.put r7).up up, Nat.le_trans (putD_len _ _ _) (by omega), q8⟩
        exact Ext.updNew ok1 ((((x2.trans x3).trans x5).trans x6).trans x7) nD (pln_at hD7)
      | false =>
        rw [if_neg Bool.false_ne_true]
        exact ⟨F5, acc, ys, (x2.trans x3).trans x5, hD5, nF5, (ra.ext ok2 x3).ext ok3 x5, by omega, q5⟩
    · obtain ⟨Fi, acc, ys, x2, hD, nFi, ra, hl, q2⟩ := p
      rw [List.drop_length] at q2
      exact k (.dic ys) Fi H' D q2 (x1.trans x2) ⟨D, acc, rfl, npt, hD, ra⟩ (x1.nn nD) nFi⟩
/-! ### x += e of ints -/
def sAugI (i : Nat) (f : Int → Int → Int) (ge : GE) : GS := fun δ ρ => match ρ[i]? with | some (.d (.int a)) => ge ρ fun y => ∃ b, y = .int b ∧ δ.nx (ρ.set i (.d (.int (f a b)))) | _ => False
instance {i : Nat} {f : Int → Int → Int} {te : TE} {ge : GE} [h : DB M te ge] : DS M m (tAug i te (ipI f)) (sAugI i f ge) := ⟨fun {pt F0 H0 z0 F o σ H ρ δ E} e l q => by
  unfold sAugI at q
  split at q
  · rename_i a hx
    obtain ⟨v, hv, r⟩ := e.sl i _ hx
    cases r
    refine ⟨_, hv, h.run e q fun d F1 H1 w q1 x1 r1 => ?_⟩
    obtain ⟨b, rfl, q2⟩ := q1
    cases rb_int r1
    exact ⟨_, _, rfl, rfl, l.nx _ _ _ _ _ ((e.step x1).set (.int _)) (Agr.of e.ok x1) q2⟩
  · exact q.elim⟩
/-! ### x[k] = e of an own list, of an own dict -/
def sStO (i : Nat) (ge gb : GE) : GS := fun δ ρ => ge ρ fun d => match ρ[i]? with
  | some (.own (.lst xs)) => gb ρ fun y => ∃ (q : Int) (k : Nat), y = .int q ∧ ixN xs.length q = some k ∧ δ.nx (ρ.set i (.own (.lst (xs.set k d))))
  | _ => False
instance {te tb : TE} {ge gb : GE} {i : Nat} [h0 : DT M te ge] [h1 : DB M tb gb] : DS M m (tAsg te (gSub (tVar i) tb rSetL)) (sStO i ge gb) := ⟨fun {pt F0 H0 z0 F o σ H ρ δ E} e l q =>
  h0.run e q fun d F1 H1 v q1 x1 r1 => by
    split at q1
    · rename_i xs hx
      have e1 := e.step x1
      obtain ⟨a, _⟩ := e1.sl i _ hx
      refine ⟨_, a, h1.run e1 q1 fun db F2 H2 vb q2 x2 r2 => ?_⟩
      obtain ⟨q, k, rfl, hk, q2⟩ := q2
      cases rb_int r2
      have e2 := e1.step x2
      obtain ⟨_, ⟨b, vs, z, np, hz, rv⟩, n, f⟩ := e2.sl i _ hx
      cases z
      refine ⟨_, vs, q, k, rfl, rfl, hz, by rw [rv.length]; exact hk, ?_⟩
      have r' : Rb M pt F2 (upd H2 (o.a i) (.lst (vs.set k v))) (.ref (o.a i)) (.lst (xs.set k d)) := ⟨_, _, rfl, np, upd_same, (rv.up (up_mut e2 hx)).set ((r1.ext e1.ok x2).up (up_mut e2 hx))⟩
      exact l.nx _ _ _ _ _ (e2.mut hx r') (((Agr.of e.ok x1).trans (Agr.of e1.ok x2)).trans (Agr.mut e2 hx)) q2
    · exact q1.elim⟩
def sPutO (i : Nat) (ge gb : GE) : GS := fun δ ρ => ge ρ fun d => match ρ[i]? with
  | some (.own (.dic ps)) => gb ρ fun y => ∃ k : Key, y = dK k ∧ ps.length < 16777216 ∧ δ.nx (ρ.set i (.own (.dic (putD ps k d))))
  | _ => False
theorem rb_dK {pt F : Addr → Prop} {H : Hp} {k : Key} {v : V} (r : Rb M pt F H v (dK k)) : v = kV k := by
  cases k with
  | inl i => exact rb_int r
  | inr s => exact rb_str r
instance {te tb : TE} {ge gb : GE} {i : Nat} [h0 : DT M te ge] [h1 : DB M tb gb] : DS M m (tAsg te (gSub (tVar i) tb rSetD)) (sPutO i ge gb) := ⟨fun {pt F0 H0 z0 F o σ H ρ δ E} e l q =>
  h0.run e q fun d F1 H1 v q1 x1 r1 => by
    split at q1
    · rename_i ps hx
      have e1 := e.step x1
      obtain ⟨a, _⟩ := e1.sl i _ hx
      refine ⟨_, a, h1.run e1 q1 fun db F2 H2 vb q2 x2 r2 => ?_⟩
      obtain ⟨k, rfl, hl, q2⟩ := q2
      have e2 := e1.step x2
      obtain ⟨_, ⟨b, kvs, z, np, hz, rv⟩, n, f⟩ := e2.sl i _ hx
      cases z
      unfold rSetD
      refine ⟨_, _, rfl, .inl ⟨kvs, k, hz, rb_dK r2, by rw [rv.length, sizeLine_eq]; exact hl, rfl⟩, ?_⟩
      have r' : Rb M pt F2 (upd H2 (o.a i) (.dK (putK kvs k v))) (.ref (o.a i)) (.dic (putD ps k d)) := ⟨_, _, rfl, np, upd_same, (RpK.put rv (r1.ext e1.ok x2)).up (up_mut e2 hx)⟩
      exact l.nx _ _ _ _ _ (e2.mut hx r') (((Agr.of e.ok x1).trans (Agr.of e1.ok x2)).trans (Agr.mut e2 hx)) q2
    · exact q1.elim⟩
/-! ### k in d of a dict -/
theorem valV_rel {F : Addr → Prop} {H : Hp} {k : Key} : ∀ {kvs : List (Key × V)} {ps : List (Key × D)}, RpK M F H kvs ps → (valV kvs k).isSome = (lkD ps k).isSome
  | _, _, .nil => rfl
  | _, _, .cons (k := k') (v := v) (d := d) (kvs := kvs) (ps := ps) rr s => by
    have ih := valV_rel (k := k) s
    unfold valV lkD at ih ⊢
    rw [List.find?_cons, List.find?_cons]
    by_cases e : k' = k
    · rw [decide_eq_true e]; rfl
    · rw [decide_eq_false e]; exact ih
def gDIn (neg : Bool) (gy gd : GE) : GE := fun ρ P => gy ρ fun y => gd ρ fun x => ∃ ps k, x = .dic ps ∧ y = dK k ∧ P (.bl (neg ^^ (lkD ps k).isSome))
instance {ty td : TE} {gy gd : GE} [h1 : DB M ty gy] [h2 : DB M td gd] : DTc M (tDIn ty td) (gDIn false gy gd) := ⟨fun {pt F0 H0 z0 F o σ H ρ P Q} e q k =>
  h1.run e q fun d1 F1 H1 v1 q1 x1 r1 => h2.run (e.step x1) q1 fun d2 F2 H2 v2 q2 x2 r2 => by
    obtain ⟨ps, ky, rfl, rfl, q3⟩ := q2
    obtain ⟨a, kvs, rfl, _, hz, rk⟩ := r2
    have hy := rb_dK (r1.ext (e.step x1).ok x2)
    refine ⟨a, _, rfl, .inl ⟨kvs, ky, .inl hz, hy, rfl⟩, ?_⟩
    rw [valV_rel rk]
    have := k _ F2 H2 (.bl (false ^^ (lkD ps ky).isSome)) q3 (x1.trans x2) (.bl _)
    rw [Bool.false_xor] at this
    exact this⟩
instance {ty td : TE} {gy gd : GE} [h1 : DB M ty gy] [h2 : DB M td gd] : DTc M (tDNotIn ty td) (gDIn true gy gd) := ⟨fun {pt F0 H0 z0 F o σ H ρ P Q} e q k =>
  h1.run e q fun d1 F1 H1 v1 q1 x1 r1 => h2.run (e.step x1) q1 fun d2 F2 H2 v2 q2 x2 r2 => by
    obtain ⟨ps, ky, rfl, rfl, q3⟩ := q2
    obtain ⟨a, kvs, rfl, _, hz, rk⟩ := r2
    have hy := rb_dK (r1.ext (e.step x1).ok x2)
    refine ⟨a, _, rfl, .inl ⟨kvs, ky, .inl hz, hy, rfl⟩, ?_⟩
    rw [valV_rel rk]
    have := k _ F2 H2 (.bl (true ^^ (lkD ps ky).isSome)) q3 (x1.trans x2) (.bl _)
    rw [Bool.true_xor] at this
    exact this⟩
end
end Dl

/-! Data logic, part 16: list.count of ints, list.extend -/
namespace Dl
open PySem PySem.Spec PyProof.Rows L2 Xv Cr
section
variable {M : Cm} {K : PySem.W.Frag} {m : Md} {ta tb : TE} {ga gb : GE}
def gCount (ga gb : GE) : GE := fun ρ P => ga ρ fun x => match x with | .lst ds => gb ρ fun y => ∃ (bs : List Int) (n : Int), oInts ds = some bs ∧ y = .int n ∧ P (.int (bs.count n : Nat)) | _ => False
instance [h1 : DB M ta ga] [h2 : DB M tb gb] : DTc M (tBM K "list" (rCntI K) ta (tCons tb tNil)) (gCount ga gb) := ⟨fun {pt F0 H0 z0 F o σ H ρ P Q} e q k =>
  h1.run e q fun d1 F1 H1 v1 q1 x1 r1 => by
    split at q1
    · rename_i ds
      obtain ⟨a, vs, rfl, np, hz, rv⟩ := id r1
      refine ⟨.inl ⟨rfl, _, SqL.of hz⟩, h2.run (e.step x1) q1 fun d2 F2 H2 v2 q2 x2 r2 => ?_⟩
      obtain ⟨bs, n, hb, rfl, q3⟩ := q2
      cases rb_int r2
      obtain ⟨a', vs', z', _, hz2, rv2⟩ := r1.ext (e.step x1).ok x2
      cases z'
      have := ints_eq hb rv2
      subst this
      exact ⟨a, bs, n, rfl, rfl, SqL.of hz2, k _ F2 H2 _ q3 (x1.trans x2) (.int _)⟩
    · exact q1.elim⟩
def sExt (i : Nat) (ga : GE) : GS := fun δ ρ => match ρ[i]? with | some (.own (.lst xs)) => ga ρ fun d => ∃ ys, d = .lst ys ∧ xs.length + ys.length ≤ 16777216 ∧ δ.nx (ρ.set i (.own (.lst (xs ++ ys)))) | _ => False
instance {i : Nat} [h1 : DT M ta ga] : DS M m (tDrop (tBM K "list" rExtend (tVar i) (tCons ta tNil))) (sExt i ga) := ⟨fun {pt F0 H0 z0 F o σ H ρ δ E} e l q => by
  unfold sExt at q
  split at q
  · rename_i xs hx
    obtain ⟨a, ⟨b, vs, z, np, hz, rv⟩, n, f⟩ := e.sl i _ hx
    cases z
    refine ⟨_, a, .inl ⟨rfl, _, SqL.of hz⟩, h1.run e q fun d F1 H1 v q1 x1 r => ?_⟩
    obtain ⟨ys, rfl, hl, q2⟩ := q1
    have e1 := e.step x1
    obtain ⟨_, ⟨b, vs1, z, _, hz1, rv1⟩, _, _⟩ := e1.sl i _ hx
    cases z
    cases r with
    | lst fa ea ra =>
      refine ⟨_, _, vs1, _, rfl, rfl, hz1, ea, by rw [rv1.length, ra.length, sizeLine_eq]; exact hl, ?_⟩
      have r' : Rb M pt F1 (upd H1 (o.a i) (.lst (vs1 ++ _))) (.ref (o.a i)) (.lst (xs ++ ys)) := ⟨_, _, rfl, np, upd_same, (rv1.up (up_mut e1 hx)).app (ra.up (up_mut e1 hx))⟩
      exact l.nx _ _ _ _ _ (e1.mut hx r') ((Agr.of e.ok x1).trans (Agr.mut e1 hx)) q2
  · exact q.elim⟩
end
end Dl

/-! ~x of an object of an own class -/
namespace Cr
open PySem PySem.Spec PyProof.Rows L2 Xv
section
variable {X : Cx} {CX : CXT} {k : Nat} {C g : Addr} {fd : FuncData} {sp : Sp} {ps : List Str}
/-- ~x, by an own __invert__ that gives an object -/
def rInvO (C : Addr) (sp : Sp) : V → Hp → VK → Prop := fun x H Q => ∃ a dx fs, x = .ref a ∧ H a = some (.ins C dx fs) ∧ sp [.ref a] H (fun v H' => ∃ c, v = .ref c ∧ Q (.ref c) H') E0
theorem un_invO (F : FnOk X.prog X.w X.K X.mg X.base CX0 k g fd ["self"] sp) (hr : Room k X.A) (hb : Binds X.K fd ["self"] []) (hs : PySem.W.findIn X.K (.ref C) "__invert__" = some (some (.ref g))) (hf : PySem.W.isFn X.K (.ref g) = true) : UnR X (unaryOp .Invert) (rInvO C sp) := by
  intro pins s σ H x v Q I rx h
  obtain ⟨a, dx, fs, rfl, ea, h⟩ := h
  obtain rfl : v = Value.ref a := rx
  obtain ⟨mA, O, _⟩ := ins_get I.hok ea
  obtain ⟨od, J, _⟩ := O.look
  unfold unaryOp
  refine wpAny_holding ?_
  show wpAny _ _ (do
    match ← callSpecial? (.ref a) (Str.ofString "__invert__") with
    | some r => pure r
    | none => _) _ _ _
  refine wpAny_bind (m := callSpecial? (.ref a) (Str.ofString "__invert__")) (PySem.W.special_fn I.kIn J hs (beq_iff_eq.mp hf) ?_)
  refine run_at (vs := [.ref a]) F hr hb I (.cons rfl .nil) h fun v u H' s' I' rv q => ?_
  obtain ⟨c, rfl, q⟩ := q
  obtain rfl : u = Value.ref c := rv
  exact wpAny_pure ⟨.ref c, H', I', rfl, q⟩
end
end Cr

/-! x | y of two objects of one own class -/
namespace Cr
open PySem PySem.Spec PyProof.Rows L2 Xv
section
variable {X : Cx} {CX : CXT} {k : Nat} {C g : Addr} {fd : FuncData} {sp : Sp} {ps : List Str}
/-- both of one own class -/
theorem bin_own {prog : Program} {w : World} {A : Around} {E : Value → Shared → Prop} {s : Shared} {K : PySem.W.Frag} {a b f : Addr} {op : Operator} {ox oy : Obj} {od1 od2 : Option Obj} {Q : Value → Shared → Prop} (Kn : K.In s.heap) (I : PySem.W.InstAt s.heap a ox C od1) (J : PySem.W.InstAt s.heap b oy C od2)
    (hc : PySem.W.selfFirst K C = true) (hs : PySem.W.findIn K (.ref C) (PySem.dunder op.info.2) = some (some (.ref f))) (hf : PySem.W.isFn K (.ref f) = true)
    (h : wpAny (model prog w) A (call (.ref f) [.ref a, .ref b]) (PySem.W.CmpBack Q) E s) : wpAny (model prog w) A (binaryOp op (.ref a) (.ref b)) Q E s := by
  obtain ⟨cd, rest, hcd, hm⟩ := PySem.W.ksp_first hc
  have one := PySem.W.ksp_try Kn I hs hf h
  rcases hi : op.info with ⟨sym, nm'⟩
  rw [hi] at hs one
  dsimp only at hs one
  obtain ⟨hh, gg, dd, tt, os⟩ := s
  have L1 : PySem.W.Looks (model prog w) hh (typeOf (.ref a)) (.ref C) := I.type
  have L2' : PySem.W.Looks (model prog w) hh (typeOf (.ref b)) (.ref C) := J.type
  have L3 : PySem.W.Looks (model prog w) hh (fillsNumberSlot (.ref C) nm') true := PySem.W.fills_K Kn hcd hm hs
  simp only [binaryOp, hi]
  refine wpAny_holding (wpAny_bind ?_)
  unfold binaryOp1
  refine wpAny_bind (L1.at (wpAny_bind (L2'.at (wpAny_bind (L3.at ?_)))))
  have hne : (Value.ref C == Value.ref C) = true := beq_self_eq_true _
  simp only [hne, if_true]
  ksp_lk
  refine wpAny_mono one (fun r s' hr' => ?_) fun _ _ e => e
  obtain ⟨v, rfl, hq⟩ := hr'
  ksp_lk
  exact hq
/-- x | y, by an own __or__ -/
def rOrO (C : Addr) (sp : Sp) : R2 := fun x y H Q => ∃ a b dx fs dy gs, x = .ref a ∧ y = .ref b ∧ H a = some (.ins C dx fs) ∧ H b = some (.ins C dy gs) ∧ sp [.ref a, .ref b] H (fun v H' => ∃ c, v = .ref c ∧ Q (.ref c) H') E0
theorem op_orO (F : FnOk X.prog X.w X.K X.mg X.base CX0 k g fd ps sp) (hr : Room k X.A) (hb : Binds X.K fd ps []) (hc : PySem.W.selfFirst X.K C = true) (hs : PySem.W.findIn X.K (.ref C) "__or__" = some (some (.ref g))) (hf : PySem.W.isFn X.K (.ref g) = true) : OpR X (binaryOp .BitOr) (rOrO C sp) := by
  intro pins s σ H x y v u Q I rx ry h
  obtain ⟨a, b, dx, fs, dy, gs, rfl, rfl, ea, eb, h⟩ := h
  obtain rfl : v = Value.ref a := rx
  obtain rfl : u = Value.ref b := ry
  obtain ⟨_, O1, _⟩ := ins_get I.hok ea
  obtain ⟨_, J1, _⟩ := O1.look
  obtain ⟨_, O2, _⟩ := ins_get I.hok eb
  obtain ⟨_, J2, _⟩ := O2.look
  refine bin_own I.kIn J1 J2 hc hs hf (run_at (vs := [.ref a, .ref b]) F hr hb I (.cons rfl (.cons rfl .nil)) h fun v u H' s' I' rv q => ?_)
  obtain ⟨c, rfl, q⟩ := q
  obtain rfl : u = Value.ref c := rv
  exact ⟨.ref c, H', I', rfl, q⟩
end
end Cr

/-! Data logic, part 17: ~x and x | y by own methods that give new objects -/
namespace Dl
open PySem PySem.Spec PyProof.Rows L2 Xv Cr
section
variable {M : Cm} {K : PySem.W.Frag} {f : List D → (D → Prop) → Prop} {ta : TE} {ga : GE} {C : Addr}
def gInv (M : Cm) (C : Addr) (f : List D → (D → Prop) → Prop) (ga : GE) : GE := fun ρ P => ga ρ fun x => ∃ c ds, x = .ob c ds ∧ M.ca c = C ∧ f [x] P
instance [h1 : DB M ta ga] : DN M (tUn (rInvO C (spN M [.bor] f)) ta) (gInv M C f ga) := ⟨fun {pt F0 H0 z0 F o σ H ρ P Q} e q k =>
  h1.run e q fun d1 F1 H1 v1 q1 x1 r1 => by
    obtain ⟨c, ds, rfl, rfl, q2⟩ := q1
    obtain ⟨a, dx, vs, rfl, np, hz, hl, rv⟩ := id r1
    exact ⟨a, dx, _, rfl, hz, pt, F1, _, P, (e.step x1).ok, .bor r1 .nil, q2, fun d F' H' p hp x r n nf => ⟨p, rfl, k d F' H' p hp (x1.trans x) r (x1.nw n) nf⟩⟩⟩
def fOrO (M : Cm) (C : Addr) (f : List D → (D → Prop) → Prop) : D → D → (D → Prop) → Prop := fun dx dy P => ∃ c ds es, dx = .ob c ds ∧ dy = .ob c es ∧ M.ca c = C ∧ f [dx, dy] P
instance : D2N M (rOrO C (spN M [.bor, .bor] f)) (fOrO M C f) := ⟨fun {pt F H x y dx dy P Q} k r1 r2 q w => by
  obtain ⟨c, ds, es, rfl, rfl, rfl, q⟩ := q
  obtain ⟨a, d1, vs, rfl, np, hz, hl, rv⟩ := id r1
  obtain ⟨b, d2, us, rfl, np2, hz2, hl2, rv2⟩ := id r2
  exact ⟨a, b, d1, _, d2, _, rfl, rfl, hz, hz2, pt, F, _, P, k, .bor r1 (.bor r2 .nil), q, fun d F' H' p hp x r n nf => ⟨p, rfl, w d F' H' p hp x r n nf⟩⟩⟩
/-- x[i:j] of a tuple, a true part of it -/
def gSlT (ga : GE) (gl gh : GO) : GE := fun ρ P => ga ρ fun x => gl ρ fun l => gh ρ fun h => ∃ ds, x = .tup ds ∧ ¬ (HT.sIx ds.length 0 l = 0 ∧ HT.sIx ds.length ds.length h = ds.length) ∧ P (.tup (cutD ds l h))
instance {tl th : TO} {gl gh : GO} [h1 : DB M ta ga] [h2 : DO M tl gl] [h3 : DO M th gh] : DN M (tSl (rSlT K) ta tl th) (gSlT ga gl gh) := ⟨fun {pt F0 H0 z0 F o σ H ρ P Q} e q k =>
  h1.run e q fun d1 F1 H1 v1 q1 x1 r1 => h2.run (e.step x1) q1 fun l F2 H2 q2 x2 => h3.run ((e.step x1).step x2) q2 fun h F3 H3 q3 x3 => by
    obtain ⟨ds, rfl, nn, q3⟩ := q3
    obtain ⟨a, vs, rfl, np, hz, rv⟩ := r1.ext (e.step x1).ok (x2.trans x3)
    have ok3 := (((e.step x1).step x2).step x3).ok
    refine ⟨a, vs, rfl, SqT.of hz, by rw [rv.length]; exact nn, fun p n => ?_⟩
    have x4 := Ext.put0 (F := F3) ok3 (o := .tup (cutV vs l h)) n
    have xx := (x1.trans x2).trans x3
    refine k _ F3 _ p q3 (xx.trans x4) ⟨p, _, rfl, ok3.not_pt n, upd_same, ?_⟩ (xx.nn n) fun z => (ok3.liv p z).ne n
    generalize upd H3 p (HO.tup (cutV vs l h)) = H4 at x4 ⊢
    unfold cutV cutD
    rw [rv.length]
    exact (rv.ext ok3 x4).drop.take⟩
end
section
variable {X : Cx} {C : Addr} {k j : Nat} {sp : Sp} {ps : List Str}
theorem un_invV (c : OwnM X.prog X.w X.K X.mg X.base C k "__invert__" ["self"] sp) (hr : Room j X.A) (hk : k ≤ j) : UnR X (unaryOp .Invert) (rInvO C sp) := by
  obtain ⟨g, fd, F, hs, hf, hb⟩ := c.ex
  exact un_invO F (hr.mono hk) hb hs hf
theorem op_orV (c : OwnM X.prog X.w X.K X.mg X.base C k "__or__" ps sp) (hc : PySem.W.selfFirst X.K C = true) (hr : Room j X.A) (hk : k ≤ j) : OpR X (binaryOp .BitOr) (rOrO C sp) := by
  obtain ⟨g, fd, F, hs, hf, hb⟩ := c.ex
  exact op_orO F (hr.mono hk) hb hc hs hf
end
end Dl

/-! Data logic, part 18: a comprehension over a list that is borrowed or that is one's own -/
namespace Dl
open PySem PySem.Spec PyProof.Rows L2 Xv Cr
section
variable {M : Cm} {K : PySem.W.Frag}
def tLcB (K : PySem.W.Frag) (ta : TE) (tg : TG) (tt : TT) (te : TE) (vs : List Nat) : TE := tLc (iList K ta) tg tt te vs
theorem pe_lcB {X : Cx} {e : Expr} {ta : TE} {tg : TG} {tt : TT} {te : TE} {vs : List Nat} (h : PE X e (tLc (iList X.K ta) tg tt te vs)) : PE X e (tLcB X.K ta tg tt te vs) := h
def gLcB (ga : GE) (ws : List Nat) (bd : BD) (gt : GT) (ge : GE) (vs : List Nat) : GE := fun ρ P => ga ρ fun x => ∃ ds, x = .lst ds ∧ (ws.all fun j => vs.contains j) = true ∧ ds.length ≤ 1000000 ∧ lcGo (lcSt bd gt ge (wipeR ρ vs)) ds [] P
instance {ta : TE} {ga : GE} {g : TG} {ws vs : List Nat} {bd : BD} {tt : TT} {gt : GT} {te : TE} {ge : GE} [hi : DB M ta ga] [hg : DG M g ws bd] [ht : DTT M tt gt] [he : DT M te ge] : DN M (tLcB K ta g tt te vs) (gLcB ga ws bd gt ge vs) := ⟨fun {pt F0 H0 z0 F o σ H ρ P Q} e q k =>
  hi.run e q fun dl F1 H1 v q1 x1 r1 => by
    obtain ⟨ds, rfl, hws, hz, q1⟩ := q1
    obtain ⟨p, us, rfl, npp, hp1, rv⟩ := r1
    refine ⟨p, rfl, ⟨us, SqL.of hp1⟩, fun D nD => ?_⟩
    have e1 := e.step x1
    have ok1 := e1.ok
    have nF1 : ¬ F1 D := fun z => (ok1.liv D z).ne nD
    have npt : ¬ pt D := ok1.not_pt nD
    have hlen := rv.length
    refine lc_it (walk_list (K := K) (a := p) (xs := us)) (fun i H' => ∃ Fi acc ys, Ext M pt F1 H1 Fi H' ∧ H' D = some (.lst acc) ∧ ¬ Fi D ∧ RpA M Fi H' acc ys ∧ acc.length ≤ i ∧ lcGo (lcSt bd gt ge (wipeR ρ vs)) (ds.drop i) ys P)
      ⟨F1, [], [], .put0 ok1 nD, upd_same, nF1, .nil, Nat.le_refl _, q1⟩ (fun i H' _ ⟨Fi, _, _, x, _⟩ => SqL.of (x.same p _ rfl npp hp1)) (fun i x H' H'' hlt pp y => ?_) (fun H' pp => ?_)
    · obtain ⟨Fi, acc, ys, x2, hD, nFi, ra, hl, q2⟩ := pp
      have ok2 := ok1.ext x2
      obtain ⟨rfl, hx⟩ := y
      obtain ⟨d, hd, rd0⟩ := rv.at_ hx
      have rd := rd0.ext ok1 x2
      have e3 := (e1.step x2).wipe vs
      have ed : ds.drop i = d :: ds.drop (i + 1) := by
        obtain ⟨hlt', rfl⟩ := List.getElem?_eq_some_iff.mp hd
        exact List.drop_eq_getElem_cons hlt'
      rw [ed] at q2
      have q2 : bd d (wipeR ρ vs) (fun ρ2 => gt ρ2 fun b => if b = true then ge ρ2 (fun y => lcGo (lcSt bd gt ge (wipeR ρ vs)) (ds.drop (i + 1)) (ys ++ (some y).toList) P) else lcGo (lcSt bd gt ge (wipeR ρ vs)) (ds.drop (i + 1)) (ys ++ (none : Option Dl.D).toList) P) := q2
      refine hg.run e3 q2 rd fun σ2 ρ2 q4 e4 l4 w4 => ⟨wipe_eq (ws := ws) (by rw [l4, wipe_length]) w4 hws, ?_⟩
      refine ht.run e4 q4 fun c F5 H5 q5 x5 => ?_
      have e5 := e4.step x5
      have ok5 := e5.ok
      have hD5 := x5.same D _ rfl npt hD
      have nF5 : ¬ F5 D := fun z => (x5.new D z).elim nFi fun n => n.no (.at_ hD)
      cases c with
      | true =>
        rw [if_pos rfl]
        refine he.run e5 q5 fun d6 F6 H6 v q6 x6 r6 => ?_
        have hD6 := x6.same D _ rfl npt hD5
        have nF6 : ¬ F6 D := fun z => (x6.new D z).elim nF5 fun n => n.no (.at_ hD5)
        have up : ∀ b u, nt u = true → F6 b → H6 b = some u → F6 b ∧ upd H6 D (.lst (acc ++ [v])) b = some u := fun b u _ fb eb => ⟨fb, by rw [upd_ne (fun (z : b = D) => nF6 (z ▸ fb))]; exact eb⟩
        refine ⟨acc, hD6, by rw [sizeLine_eq]; omega, F6, acc ++ [v], ys ++ [d6], ?_, upd_same, nF6, ?_, by rw [List.length_append]; show acc.length + 1 ≤ _; omega, q6⟩
        · exact Ext.updNew ok1 ((x2.trans x5).trans x6) nD (pln_at hD6)
        · exact RpA.app (((ra.ext ok2 x5).ext ok5 x6).up up) (.one (r6.up up))
      | false =>
        rw [if_neg Bool.false_ne_true]
        refine ⟨F5, acc, ys, x2.trans x5, hD5, nF5, ra.ext ok2 x5, by omega, ?_⟩
        have q5 : lcGo (lcSt bd gt ge (wipeR ρ vs)) (ds.drop (i + 1)) (ys ++ (none : Option Dl.D).toList) P := q5
        rw [Option.toList_none, List.append_nil] at q5
        exact q5
    · obtain ⟨Fi, acc, ys, x2, hD, nFi, ra, hl, q2⟩ := pp
      rw [hlen, List.drop_length] at q2
      exact k (.lst ys) Fi H' D q2 (x1.trans x2) ⟨D, acc, rfl, npt, hD, ra⟩ (x1.nn nD) nFi⟩
end
end Dl

/-! try with several except clauses, each "except X as e", one of which takes what is raised -/
namespace Cr
open PySem PySem.Spec PyProof.Rows L2 Xv
abbrev TSu := Addr → Value → Option Addr → TS
/-- how the suite of a clause ends: its name is gone -/
def goneE (i : Nat) (D : Ends) : Ends where
  nx := fun σ H => D.nx (σ.set i none) H
  rt := D.rt
  bk := fun σ H => D.bk (σ.set i none) H
  ct := fun σ H => D.ct (σ.set i none) H
/-- the first clause whose class fits has to do; there is one -/
def wPick (K : PySem.W.Frag) (i : Nat) (D : Ends) : List (Value × TSu) → WX
  | [] => fun _ _ _ _ => False
  | e :: r => fun cls d σ H => (PySem.W.exmOne K cls e.1 = some true ∧ ∀ a, H a = none → e.2 a cls d (goneE i D) (σ.set i (some (.ref a))) H) ∨ (PySem.W.exmOne K cls e.1 = some false ∧ wPick K i D r cls d σ H)
/-- the clauses of the text, and what their suites do -/
inductive ClsOk (X : Cx) (n : Str) : List ExceptHandler → List (Value × TSu) → Prop
  | nil : ClsOk X n [] []
  | cons {x : Str} {c : Value} {ts : TSu} {b0 : Stmt} {bs : List Stmt} {p q : Pos} {hs : List ExceptHandler} {l : List (Value × TSu)} : Names X x c →
      (∀ (a : Addr) (oe : Obj) (cls : Value) (d : Option Addr) (pn : List (Addr × Obj)), Zc cls d oe → (∃ vs, oe.data = .fields vs) → PSs (X.suite a ((a, oe) :: pn)) (b0 :: bs) (ts a cls d)) →
      ClsOk X n hs l → ClsOk X n (.ExceptHandler (some (.Name x p)) (some n) (b0 :: bs) q :: hs) ((c, ts) :: l)
section
variable {X : Cx} {pins : List (Addr × Obj)} {σ : L2.St} {H : Hp} {cls : Value} {d : Option Addr} {a : Addr} {s : Shared}
/-- an exception that is held while the clauses are looked at -/
structure Caught (X : Cx) (pins : List (Addr × Obj)) (σ : L2.St) (H : Hp) (cls : Value) (d : Option Addr) (a : Addr) (s : Shared) : Prop where
  free : H a = none
  air : ∃ B : Heap, HandSPX.FlyingZ B (X.env :: X.outer) a (Zc cls d) s.heap ∧ ∀ h, HandSPX.FlyingZ B (X.env :: X.outer) a (Zc cls d) h → s.heap.UpToSlots h → Inv X pins σ H { s with heap := h }
theorem Caught.inv (c : Caught X pins σ H cls d a s) : Inv X pins σ H s := by
  obtain ⟨B, f, go⟩ := c.air
  exact go s.heap f (Heap.UpToSlots.refl _)
/-- its object, which is no frame -/
theorem Caught.obj (c : Caught X pins σ H cls d a s) (hf : X.env.frame = some X.env.locals) : ∃ oe vs, s.heap.get? a = some oe ∧ Zc cls d oe ∧ oe.data = .fields vs ∧ Inv (X.suite a ((a, oe) :: (X.pn ++ pins))) [] σ H s := by
  obtain ⟨B, f, _⟩ := c.air
  obtain ⟨oe, vs, g, z, dt⟩ := f.there
  have nf : a ∉ frs (X.env :: X.outer) := fun m => by
    obtain ⟨_, o, go, w⟩ := f.2.2.1.mem m
    rw [g] at go
    cases go
    exact w _ dt
  have n1 : a ≠ X.env.locals := fun z => nf (List.mem_filterMap.mpr ⟨_, List.mem_cons_self, z ▸ hf⟩)
  have n2 : a ∉ X.fs := fun m => by
    obtain ⟨e, he, fe⟩ := List.mem_filterMap.mp m
    exact nf (List.mem_filterMap.mpr ⟨e, List.mem_cons_of_mem _ he, fe⟩)
  exact ⟨oe, vs, g, z, dt, c.inv.suite g dt c.free n1 n2⟩
/-- whether a clause's class fits -/
theorem Caught.fits (c : Caught X pins σ H cls d a s) (hf : X.env.frame = some X.env.locals) {x : Str} {C : Value} {b : Bool} {p q : Pos} {n : Str} {b0 : Stmt} {bs : List Stmt} {r : List ExceptHandler} {Q : Flow → Shared → Prop} {E : Value → Shared → Prop} (nm : Names X x C) (hb : PySem.W.exmOne X.K cls C = some b)
    (no : b = false → wpAny (model X.prog X.w) X.A (handleBy (.ref a) X.env r) Q E s)
    (yes : b = true → codeAny (model X.prog X.w) (X.A.mark (some (.ref a))) (.handlers (.ref a) [.ExceptHandler none (some n) (b0 :: bs) q] X.env) (fun r s2 => match r with
      | .ok f => wpAny (model X.prog X.w) X.A (do bindName X.env n .none; unbindBehindTheSuite X.env n q) (fun _ s3 => Q f s3) E s2
      | .error y => cameBackBy (model X.prog X.w) X.A X.env E y s2) s) :
    wpAny (model X.prog X.w) X.A (handleBy (.ref a) X.env (.ExceptHandler (some (.Name x p)) (some n) (b0 :: bs) q :: r)) Q E s := by
  obtain ⟨oe, vs, g, z, dt, I⟩ := c.obj hf
  refine wpAny_handleBy_cons (codeAny_handlers_test ?_) fun w => nomatch w
  have lk : PySem.W.Looks (model X.prog X.w) s.heap (typeOf (.ref a)) cls := fun _ _ _ _ k w => wpAny_typeOf_ref (k _ _ g) (z.1 ▸ w)
  have key := PySem.W.exm_one (M := model X.prog X.w) c.inv.kIn lk hb
  have name : ∀ {Q' : Value → Shared → Prop} {E' : Value → Shared → Prop}, Q' C s → wpAny (model X.prog X.w) (X.A.mark (some (.ref a))) (eval (.Name x p) X.env) Q' E' s := fun w => by
    obtain ⟨gl, db, k | ⟨k1, k2, k3⟩⟩ := nm
    · exact ld_glob (X := X.suite a ((a, oe) :: (X.pn ++ pins))) I gl k w db
    · exact ld_blt (X := X.suite a ((a, oe) :: (X.pn ++ pins))) I gl k1 k2 w k3 db
  refine name (key.here ?_)
  cases b with
  | false => exact no rfl
  | true => exact yes rfl
theorem Caught.run (hN : X.N.Nodup) {n : Str} {i : Nat} (hi : X.N[i]? = some n) (hl : X.env.kindOf n = some .local) (hf : X.env.frame = some X.env.locals) {D : Ends} {hs : List ExceptHandler} {l : List (Value × TSu)} (k : ClsOk X n hs l) (c : Caught X pins σ H cls d a s)
    (w : wPick X.K i D l cls d σ H) : wpAny (model X.prog X.w) X.A (handleBy (.ref a) X.env hs) (SP X pins D) X.xe s := by
  induction k with
  | nil => exact False.elim w
  | @cons x C ts b0 bs p q hs l nm su _ ih =>
    rcases w with ⟨hb, w⟩ | ⟨hb, w⟩
    · refine c.fits hf nm hb (fun z => nomatch z) fun _ => codeAny_handlers_suite_as ?_
      obtain ⟨B, f, go⟩ := c.air
      refine HandSPX.lands_againZ f fun h f2 up => ?_
      have c2 : Caught X pins σ H cls d a { s with heap := h } := ⟨c.free, B, f2, fun h3 f3 up3 => go h3 f3 (up.trans up3)⟩
      obtain ⟨oe, vs, g, z, dt, I⟩ := c2.obj hf
      refine store_ok (X := X.suite a ((a, oe) :: (X.pn ++ pins))) (v := .ref a) I hN hi (.inl hl) rfl (fun s5 I5 => ?_) (.inr hl)
      have bye : ∀ {σ6 : L2.St} {H6 : Hp} {s6 : Shared} {Q : Shared → Prop}, Inv (X.suite a ((a, oe) :: (X.pn ++ pins))) [] σ6 H6 s6 → (∀ s7, Inv X pins (σ6.set i none) H6 s7 → Q s7) → wpAny (model X.prog X.w) X.A (do bindName X.env n .none; unbindBehindTheSuite X.env n q) (fun _ s7 => Q s7) X.xe s6 :=
        fun I6 hq => gone_ok (I6.unsuite c.inv.ok) hN hi hl hq
      refine wpAny_mono ((su a oe cls d (X.pn ++ pins) z ⟨vs, dt⟩).run [] s5 _ H (goneE i D) I5 (w a c.free)) (fun fl s6 e => ?_) fun _ _ z => False.elim z
      cases fl with
      | ret u => exact let ⟨v, σ6, H6, I6, r, e6⟩ := e; bye I6 fun s7 I7 => ⟨v, _, _, I7, r, e6⟩
      | next => exact let ⟨σ6, H6, I6, e6⟩ := e; bye I6 fun s7 I7 => ⟨_, _, I7, e6⟩
      | brk => exact let ⟨σ6, H6, I6, e6⟩ := e; bye I6 fun s7 I7 => ⟨_, _, I7, e6⟩
      | cont => exact let ⟨σ6, H6, I6, e6⟩ := e; bye I6 fun s7 I7 => ⟨_, _, I7, e6⟩
    · exact c.fits hf nm hb (fun _ => ih w) fun z => nomatch z
/-- try: body, except X as n: .., except Y as n: .. -/
theorem ps_tryN {n : Str} {i : Nat} {body : List Stmt} {tb : WX → TS} {h0 : ExceptHandler} {hs : List ExceptHandler} {l : List (Value × TSu)} {pos : Pos} (st : X.stack = X.env :: X.outer) (hf : X.env.frame = some X.env.locals) (hN : X.N.Nodup) (hi : X.N[i]? = some n) (hl : X.env.kindOf n = some .local)
    (hb : ∀ (W : WX) (pn : List (Addr × Obj)) (xe : Value → Shared → Prop), Takes (X.tr pn xe) W → PassesOwn (model X.prog X.w) X.A X.env xe → PSs (X.tr pn xe) body (tb W)) (k : ClsOk X n (h0 :: hs) l) :
    PS X (.Try body (h0 :: hs) [] [] pos) (fun D σ H => tb (wPick X.K i D l) D σ H) := by
  refine ⟨fun pins s σ H D I h => wpAny_Try_except ?_⟩
  have ok := I.ok
  refine wpAny_mono ((hb (wPick X.K i D l) (X.pn ++ pins) (fun e s1 => wpAny (model X.prog X.w) X.A (noteFrame e X.env) (fun _ s2 => wpAny (model X.prog X.w) X.A (setFlight e none) (fun _ s3 => wpAny (model X.prog X.w) X.A (handleBy e X.env (h0 :: hs)) (SP X pins D) X.xe s3) X.xe s2) X.xe s1)
    (fun u s1 up => ?_) PassesOwn.looking).run [] s σ H D (I.toTry _) h) (fun f s1 e => ?_) fun _ _ e => e
  · obtain ⟨a, B, s0, pins0, σ1, H1, cls, d, rfl, I1, nb, us, sky, na, os, ag, w⟩ := up
    have I2 : Inv X pins σ1 H1 s0 := I1.ofTry ok
    have sky : Sky B (X.env :: X.outer) a (Zc cls d) X.env.locals s1.heap := st ▸ sky
    refine Sky.land Zc.steady (by rw [ok.frames, st]) hf sky fun h fl up => ?_
    refine Caught.run (s := { s1 with heap := h }) hN hi hl hf k ⟨na, B, fl, fun h2 f2 up2 => ?_⟩ w
    exact I2.landed (s' := { s1 with heap := h2 }) nb f2.1 ((us.trans up).trans up2) os ag
  · cases f with
    | next => exact let ⟨σ1, H1, I1, q⟩ := e; wpAny_execs_nil ⟨σ1, H1, I1.ofTry ok, q⟩
    | ret u => exact let ⟨v, σ1, H1, I1, r, q⟩ := e; ⟨v, σ1, H1, I1.ofTry ok, r, q⟩
    | brk => exact let ⟨σ1, H1, I1, q⟩ := e; ⟨σ1, H1, I1.ofTry ok, q⟩
    | cont => exact let ⟨σ1, H1, I1, q⟩ := e; ⟨σ1, H1, I1.ofTry ok, q⟩
end
end Cr

/-! Data logic, part 19: exceptions that are caught; lambdas handed to a def that calls them -/
namespace Cr
open PySem PySem.Spec PyProof.Rows L2 Xv
/-- isinstance(e, c), e the exception that a suite holds, with its dict -/
def rIsX (K : PySem.W.Frag) (a : Addr) (cls : Value) (d : Option Addr) (C : Addr) : List V → Hp → VK → Prop := fun xs H Q => ∃ (c : V) (u : Value) (b : Bool) (dd : Addr) (fs : List (Str × V)), xs = [.ref a, c] ∧ ClsV c u ∧ cls = .ref C ∧ d = some dd ∧ H dd = some (.xd fs) ∧ PySem.W.kitOne K (.ref C) u = some b ∧ Q (.bl b) H
theorem call_isX {X : Cx} {a C : Addr} {oe : Obj} {cls : Value} {d : Option Addr} {pn : List (Addr × Obj)} (T : ExcC X.K C) (hz : Zc cls d oe) (hf : ∃ vs, oe.data = .fields vs) : CallR (X.suite a ((a, oe) :: pn)) (.builtin "isinstance") (rIsX X.K a cls d C) := by
  intro pins s σ H xs us Q I r h
  obtain ⟨c, u, b, dd, fs, rfl, hc, rfl, rfl, ed, hk, q⟩ := h
  cases r with
  | cons rx rr =>
    cases rr with
    | cons rt rr =>
      cases rr
      cases rx
      have ec := hc.eq rt
      subst ec
      obtain ⟨ha, _⟩ := I.pin (a, oe) (List.mem_append_left _ List.mem_cons_self)
      obtain ⟨vs, dt⟩ := hf
      have hx : ObjOk X.prog X.w H s.heap dd (.xd fs) := I.hok dd _ ed
      obtain ⟨mA, hns, _⟩ := hx
      obtain ⟨od, ho, _⟩ := lookIn_ns hns
      have J : PySem.W.InstAt s.heap a oe C (some od) := ⟨ha, hz.1, by unfold PySem.W.notCls; rw [dt] <;> rfl, by rw [hz.2]; exact ho⟩
      exact PySem.W.kia_one (PySem.W.xv_kit T) I.kIn ⟨_, _, J⟩ hk (fun z => nomatch z) fun tk => ⟨.bl b, H, I.tok tk, rfl, q⟩
end Cr
namespace Dl
open PySem PySem.Spec PyProof.Rows L2 Xv Cr
section
variable {M : Cm} {K : PySem.W.Frag} {m : Md} {i : Nat} {te : TE} {ge : GE} {t u : TS} {g h : GS} {c : V} {v : Value}
/-! ### what a suite reads of its exception -/
def gXf (M : Cm) (a dd C0 C : Addr) (f : Str) (i : Nat) : GE := fun ρ P => match ρ[i]? with
  | some (.exc c xs a' dd') => a' = a ∧ dd' = dd ∧ C0 = C ∧ ∃ (j : Nat) (x : D), (M.fn c)[j]? = some f ∧ (∀ k, k < j → (M.fn c)[k]? ≠ some f) ∧ xs[j]? = some x ∧ P x
  | _ => False
instance {a dd C0 C : Addr} {f : Str} : DTc M (tXf a (.ref C0) (some dd) C f (tVar i)) (gXf M a dd C0 C f i) := ⟨fun {pt F0 H0 z0 F o σ H ρ P Q} e q k => by
  unfold gXf at q
  split at q
  · rename_i c xs a' dd' hx
    obtain ⟨rfl, rfl, rfl, j, x, h1, h2, h3, q⟩ := q
    obtain ⟨hs, np, vs, hd, hl, rv⟩ := e.sl i _ hx
    obtain ⟨w, hw, rw'⟩ := rv.get h3
    exact ⟨_, hs, rfl, rfl, _, _, w, rfl, hd, zip_lookup h1 h2 hw, k x F H w q (.refl e.ok) rw'⟩
  · exact q.elim⟩
def gXis (M : Cm) (K : PySem.W.Frag) (a dd C0 C : Addr) (u : Value) (i : Nat) : GE := fun ρ P => match ρ[i]? with
  | some (.exc c xs a' dd') => a' = a ∧ dd' = dd ∧ C0 = C ∧ ∃ b, PySem.W.kitOne K (.ref C) u = some b ∧ P (.bl b)
  | _ => False
instance {a dd C0 C : Addr} [hc : ClsI c v] : DTc M (tCB (rIsX K a (.ref C0) (some dd) C) (tCons (tVar i) (tCons (tC c) tNil))) (gXis M K a dd C0 C v i) := ⟨fun {pt F0 H0 z0 F o σ H ρ P Q} e q k => by
  unfold gXis at q
  split at q
  · rename_i c' xs a' dd' hx
    obtain ⟨rfl, rfl, rfl, b, hk, q⟩ := q
    obtain ⟨hs, np, vs, hd, hl, rv⟩ := e.sl i _ hx
    exact ⟨_, hs, c, v, b, _, _, rfl, hc.ok, rfl, rfl, hd, hk, k _ F H _ q (.refl e.ok) (.bl b)⟩
  · exact q.elim⟩
/-! ### try -/
class DXW (M : Cm) (t : WX → TE) (g : outParam GE) : Prop where
  run : ∀ {pt F0 : Addr → Prop} {H0 : Hp} {z0 : Gh} {F : Addr → Prop} {o : Ow} {σ : L2.St} {H : Hp} {ρ : Rho} {P : D → Prop} {Q : VK} {W : WX}, En M pt F0 H0 z0 F o σ H ρ → g ρ P → (∀ c xs F' H' a, P (.ob c xs) → Ext M pt F H F' H' → XdAt M F' H' a c xs → W (.ref (M.ca c)) (some a) σ H') → t W σ H Q
class DSu (M : Cm) (m : Md) (ts : TSu) (g : outParam (Addr → Addr → Addr → GS)) : Prop where
  ds : ∀ C a dd, DS M m (ts a (.ref C) (some dd)) (g C a dd)
instance {ts : TSu} {g : Addr → Addr → Addr → GS} [h : ∀ C a dd, DS M m (ts a (.ref C) (some dd)) (g C a dd)] : DSu M m ts g := ⟨h⟩
class DCs (M : Cm) (m : Md) (l : List (Value × TSu)) (g : outParam (List (Value × (Addr → Addr → Addr → GS)))) : Prop where
  all : Paired (fun (e : Value × TSu) (d : Value × (Addr → Addr → Addr → GS)) => e.1 = d.1 ∧ DSu M m e.2 d.2) l g
instance : DCs M m [] [] := ⟨.nil⟩
instance {c : Value} {ts : TSu} {g : Addr → Addr → Addr → GS} {l : List (Value × TSu)} {gs : List (Value × (Addr → Addr → Addr → GS))} [h1 : DSu M m ts g] [h2 : DCs M m l gs] : DCs M m ((c, ts) :: l) ((c, g) :: gs) := ⟨.cons ⟨rfl, h1⟩ h2.all⟩
def goneD (i : Nat) (δ : DEnds) : DEnds where
  nx := fun ρ => δ.nx (ρ.set i .no)
  rt := δ.rt
  bk := fun ρ => δ.bk (ρ.set i .no)
  ct := fun ρ => δ.ct (ρ.set i .no)
def pickG (M : Cm) (K : PySem.W.Frag) (i : Nat) (c : Nat) (xs : List D) (a dd : Addr) : List (Value × (Addr → Addr → Addr → GS)) → GS
  | [] => fun _ _ => False
  | e :: r => fun δ ρ => (PySem.W.exmOne K (.ref (M.ca c)) e.1 = some true ∧ e.2 (M.ca c) a dd (goneD i δ) (ρ.set i (.exc c xs a dd))) ∨ (PySem.W.exmOne K (.ref (M.ca c)) e.1 = some false ∧ pickG M K i c xs a dd r δ ρ)
theorem Lk.gone {pt F0 : Addr → Prop} {H0 : Hp} {z0 : Gh} {F : Addr → Prop} {H : Hp} {δ : DEnds} {E : Ends} (l : Lk M m pt F0 H0 z0 F H δ E) (i : Nat) : Lk M m pt F0 H0 z0 F H (goneD i δ) (goneE i E) :=
  ⟨fun _ _ _ _ _ e a q => l.nx _ _ _ _ _ e.forget a q, fun _ _ _ _ _ e a q => l.bk _ _ _ _ _ e.forget a q, fun _ _ _ _ _ e a q => l.ct _ _ _ _ _ e.forget a q, l.rt⟩
theorem pick_run {l : List (Value × TSu)} {gs : List (Value × (Addr → Addr → Addr → GS))} {i : Nat} {pt F0 : Addr → Prop} {H0 : Hp} {z0 : Gh} {F : Addr → Prop} {o : Ow} {σ : L2.St} {H : Hp} {ρ : Rho} {δ : DEnds} {E : Ends} {c : Nat} {xs : List D} {dd : Addr}
    (h : Paired (fun (e : Value × TSu) (d : Value × (Addr → Addr → Addr → GS)) => e.1 = d.1 ∧ DSu M m e.2 d.2) l gs) (e : En M pt F0 H0 z0 F o σ H ρ) (k : Lk M m pt F0 H0 z0 F H δ E) (x : XdAt M F H dd c xs) (np : ¬ pt dd) (q : ∀ a dd, pickG M K i c xs a dd gs δ ρ) : wPick K i E l (.ref (M.ca c)) (some dd) σ H := by
  induction h with
  | nil => exact (q 0 0).elim
  | @cons e1 d1 l gs hd _ ih =>
    obtain ⟨hc, hs⟩ := hd
    by_cases z : PySem.W.exmOne K (.ref (M.ca c)) d1.1 = some true
    · refine .inl ⟨by rw [hc]; exact z, fun a na => ?_⟩
      have qa : pickG M K i c xs a dd (d1 :: gs) δ ρ := q a dd
      rcases qa with ⟨_, qa⟩ | ⟨w, _⟩
      · obtain ⟨vs, h1, h2, h3⟩ := x
        refine (hs.ds (M.ca c) a dd).run (e.put (s := .exc c xs a dd) (fun _ _ => rfl) fun hl => ?_) (k.gone i) qa
        exact ⟨by rw [List.getElem?_set, if_pos rfl, if_pos (by rw [e.len]; exact hl)], np, vs, h1, h2, h3⟩
      · rw [z] at w
        cases w
    · refine .inr ⟨?_, ih fun a dd => ?_⟩
      · have qa : pickG M K i c xs 0 0 (d1 :: gs) δ ρ := q 0 0
        rcases qa with ⟨w, _⟩ | ⟨w, _⟩
        · exact (z w).elim
        · rw [hc]
          exact w
      · have qa : pickG M K i c xs a dd (d1 :: gs) δ ρ := q a dd
        rcases qa with ⟨w, _⟩ | ⟨_, w⟩
        · exact (z w).elim
        · exact w
theorem xd_npt {pt F : Addr → Prop} {H : Hp} {a : Addr} {c : Nat} {xs : List D} (k : Ok M pt F H) (x : XdAt M F H a c xs) : ¬ pt a := fun z => by
  obtain ⟨vs, h, _⟩ := x
  obtain ⟨_, _, e, _⟩ := k.pots a z
  rw [h] at e
  cases e
def tTryN (K : PySem.W.Frag) (i : Nat) (tb : WX → TS) (l : List (Value × TSu)) : TS := fun E σ H => tb (wPick K i E l) E σ H
def sTryX (M : Cm) (K : PySem.W.Frag) (i : Nat) (ge : GE) (gs : List (Value × (Addr → Addr → Addr → GS))) : GS := fun δ ρ => ge ρ fun d => match d with | .ob c xs => ∀ a dd, pickG M K i c xs a dd gs δ ρ | _ => False
/-- the body raises -/
instance {t : WX → TE} {l : List (Value × TSu)} {gs : List (Value × (Addr → Addr → Addr → GS))} [h1 : DXW M t ge] [h2 : DCs M m l gs] : DS M m (tTryN K i (fun W => tDrop (t W)) l) (sTryX M K i ge gs) := ⟨fun {pt F0 H0 z0 F o σ H ρ δ E} e l q =>
  h1.run e q fun c xs F1 H1 a q1 x1 xd => by
    have e1 := e.step x1
    exact pick_run h2.all e1 (l.mono (Agr.of e.ok x1)) xd (xd_npt e1.ok xd) q1⟩
end
/-! ### lambdas -/
/-- what a def makes of a call that raises .. -/
def TTX (M : Cm) (f : D → (D → Prop) → Prop) : (XK → Hp → VK → Prop) → Hp → VK → Prop := fun tl H Q => ∃ (pt F : Addr → Prop) (P : D → Prop), Ok M pt F H ∧
  (∀ (E : XK) (F1 : Addr → Prop) (H1 : Hp) (Q1 : VK), Ext M pt F H F1 H1 → (∀ c xs F' H' a, f (.ob c xs) P → Ext M pt F1 H1 F' H' → XdAt M F' H' a c xs → E (.ref (M.ca c)) (some a) H') → tl E H1 Q1) ∧ ∀ d F' H' v, P d → Ext M pt F H F' H' → Rp M F' H' v d → Q v H'
/-- .. of one that returns -/
def TTR (M : Cm) (f : (D → Prop) → Prop) : (XK → Hp → VK → Prop) → Hp → VK → Prop := fun tl H Q => ∃ (pt F : Addr → Prop) (P : D → Prop), Ok M pt F H ∧
  (∀ (E : XK) (F1 : Addr → Prop) (H1 : Hp) (Q1 : VK), Ext M pt F H F1 H1 → (∀ v F' H', Ext M pt F1 H1 F' H' → Q1 v H') → tl E H1 Q1) ∧ f P ∧ ∀ d F' H' v, P d → Ext M pt F H F' H' → Rp M F' H' v d → Q v H'
def tLamX (M : Cm) (f : D → (D → Prop) → Prop) (t : XK → TE) : TE := LamX.tLam M.T (TTX M f) t
def tLamR (M : Cm) (f : (D → Prop) → Prop) (t : XK → TE) : TE := LamX.tLam M.T (TTR M f) t
def gLamX (f : D → (D → Prop) → Prop) (ge : GE) : GE := fun ρ P => ge ρ fun d => f d P
def gLamR (f : (D → Prop) → Prop) (ge : GE) : GE := fun ρ P => (ge ρ fun _ => True) ∧ f P
section
variable {M : Cm} {K : PySem.W.Frag} {m : Md} {i : Nat} {ge : GE}
instance {f : D → (D → Prop) → Prop} {t : XK → TE} [h : ∀ E, DX M E (t E) ge] : DTc M (tLamX M f t) (gLamX f ge) := ⟨fun {pt F0 H0 z0 F o σ H ρ P Q} e q k => by
  refine ⟨e.ok.tbs, fun H1 eN T1 => ?_⟩
  have x1 := Ext.of_tab e.ok eN T1
  have e1 := e.step x1
  exact ⟨pt, F, P, e1.ok, fun E F2 H2 Q1 x2 kk => (h E).run (e1.step x2) q fun c xs F' H' a p x xd => kk c xs F' H' a p x xd, fun d F' H' v p x r => k d F' H' v p (x1.trans x) r⟩⟩
instance {f : (D → Prop) → Prop} {t : XK → TE} [h : ∀ E, DB M (t E) ge] : DTc M (tLamR M f t) (gLamR f ge) := ⟨fun {pt F0 H0 z0 F o σ H ρ P Q} e q k => by
  refine ⟨e.ok.tbs, fun H1 eN T1 => ?_⟩
  have x1 := Ext.of_tab e.ok eN T1
  have e1 := e.step x1
  exact ⟨pt, F, P, e1.ok, fun E F2 H2 Q1 x2 kk => (h E).run (e1.step x2) q.1 fun d F' H' v _ x _ => kk v F' H' x, q.2, fun d F' H' v p x r => k d F' H' v p (x1.trans x) r⟩⟩
end
end Dl

/-! Data logic, part 20: the def that calls what it is given; defs that make lambdas -/
namespace Dl
open PySem PySem.Spec PyProof.Rows L2 Xv Cr
/-- a def's code object, its table, and the name of its lambdas -/
structure LamM (base : Heap) (mg : Str → Option Value) (T : List (Addr × Str)) (fd : FuncData) (q : Str) : Prop where
  ex : ∃ c P : Addr, fd.code = .ref c ∧ LamX.TabB base mg c P ∧ (P, q) ∈ T ∧ ∀ p ∈ T, p.1 = P → p.2 = q
/-- a def x(a) that calls a -/
structure HeardC (P : Program) (w : World) (K : PySem.W.Frag) (mg : Str → Option Value) (base : Heap) (j : Nat) (x a : Str) (TT : (XK → Hp → VK → Prop) → Hp → VK → Prop) : Prop where
  ex : ∃ (g : Addr) (pg : Arguments) (bg : List Stmt) (sg : Scope) (dV kV doc pm cdv ct oc : Value) (an od : Option Addr) (osl : Array (Option Value)) (Ng : List Str), mg x = some (.ref g) ∧ PySem.W.keepIn K (.ref g) = true ∧
    K.lookup g = some ⟨oc, od, .func (PySem.W.fnOf x x pg bg sg dV kV doc pm an cdv ct), osl⟩ ∧ PySem.W.codeIn K cdv x = true ∧ L2.Binds K (PySem.W.fnOf x x pg bg sg dV kV doc pm an cdv ct) [a] [] ∧ FnScope Ng [a] sg ∧ Ng[0]? = some a ∧ Vis sg a ∧
    ∀ X : Cx, X.prog = P → X.w = w → X.K = K → X.mg = mg → X.base = base → Room (j + 1) X.A → X.A.guards = some [] → ∀ q, LamX.GivesTo X Ng x sg g cdv bg a q TT
section
variable {X : Cx} {T : List (Addr × Str)} {TT : (XK → Hp → VK → Prop) → Hp → VK → Prop} {x a q : Str} {k j : Nat} {fd : FuncData} {cdv : Value} {params : Arguments} {body : Expr} {scope : Scope} {t : XK → TE} {p lpos pos : Pos}
/-- x(lambda: body) -/
theorem pe_heard (c : HeardC X.prog X.w X.K X.mg X.base j x a TT) (lm : LamM X.base X.mg T fd q) (hc : fd.code = cdv) (hr : Room (k + 2) X.A) (hj : j ≤ k + 1) (hgd : X.A.guards = some []) (hg : Gl X x) (hcode : X.env.code = cdv) (hq : X.env.qual ++ "<lambda>" = q) (L : LamX.LamS X.env.scope scope) (hdef : defaultsOf params X.env = ([], []))
    (hbind : ∀ (q : Str) (cl : List (Str × Addr)) (pm cv ctv : Value), bindArgs (PySem.W.kla_fn "<lambda>" q params body scope cl pm cv ctv) ⟨[], []⟩ = pure [])
    (hbody : ∀ (A : Around) (outer : List Env) (s : Shared) (H : Hp) (E : XK) (f c' : Addr), Room k (A.deeper (LamX.lamEnv X scope s.heap.objs.size f c')) → PE (LamX.lamCx X A outer s H E scope f c') body (t E))
    (hdb : (x == ("__debug__" : Str)) = false := by decide) (hd : (a == ("__debug__" : Str)) = false := by decide) (hcd : (a == ("__classdict__" : Str)) = false := by decide) : PE X (.Call (.Name x p) [.Lambda params body scope lpos] [] pos) (LamX.tLam T TT t) := by
  obtain ⟨g, pg, bg, sg, dV, kV, doc, pm, cdg, ct, oc, an, od, osl, Ng, h1, h2, h3, h4, h5, h6, h7, h8, h9⟩ := c.ex
  obtain ⟨co, P, l1, l2, l3, l4⟩ := lm.ex
  refine LamX.pe_lamcall (P := P) (c := co) hg h1 h2 h3 h4 h5 h6 h7 h8 (h9 X rfl rfl rfl rfl rfl (hr.mono (by omega)) hgd _) l2 (by rw [hcode, ← hc, l1]) (by rw [hq]; exact l3) (by rw [hq]; exact l4) hr L hdef hbind hbody hdb hd hcd
end
/-! ### the def that calls -/
theorem takes_len {X : Cx} {W : WX} (t : Takes X W) : Takes X (fun cls d σ H => σ.length = X.N.length → W cls d σ H) := fun u s' ⟨a, B, sI, pins, σ, H, cls, d, e, I, nb, up, sky, na, os, ag, w⟩ => t u s' ⟨a, B, sI, pins, σ, H, cls, d, e, I, nb, up, sky, na, os, ag, w I.len⟩
section
variable {P : Program} {w : World} {K : PySem.W.Frag} {mg : Str → Option Value} {base : Heap} {M : Cm} {N : List Str} {x a : Str} {st : Stmt} {g : Addr} {fd : FuncData} {t1 t3 : TS} {g1 g3 : GS} {l : List (Value × TSu)} {gs : List (Value × (Addr → Addr → Addr → GS))} {i j : Nat}
/-- its body, for any reading of the call -/
def HeardB (P : Program) (w : World) (K : PySem.W.Frag) (mg : Str → Option Value) (base : Heap) (j : Nat) (N : List Str) (x a : Str) (st : Stmt) (g : Addr) (i : Nat) (t1 : TS) (l : List (Value × TSu)) (t3 : TS) : Prop :=
  ∀ (cdv : Value) (A : Around) (outer : List Env) (s : Shared) (H : Hp), Room j (A.deeper (envOfC x (defScope st) s.heap.objs.size g cdv)) → (A.deeper (envOfC x (defScope st) s.heap.objs.size g cdv)).guards = some [] → ∀ tc : WX → TE,
    (∀ (W : WX) (pn : List (Addr × Obj)) (xe : Value → Shared → Prop) (p1 p2 : Pos), Takes ((cxOf CX0 P w K mg base N x (defScope st) g cdv A outer s H E0).nox.tr pn xe) W → PE ((cxOf CX0 P w K mg base N x (defScope st) g cdv A outer s H E0).nox.tr pn xe) (.Call (.Name a p1) [] [] p2) (tc W)) →
    PSs (cxOf CX0 P w K mg base N x (defScope st) g cdv A outer s H E0).nox (defBody st) (tSeq t1 (tSeq (tTryN K i (fun W => tDrop (tc W)) l) t3))
def lamR (v : V) (n : Nat) : Rho := .raw v :: List.replicate n .no
theorem en_lam {pt F : Addr → Prop} {H : Hp} {v : V} (ok : Ok M pt F H) (hN : 0 < N.length) : En M pt F H ⟨0, []⟩ F ⟨fun _ => 0, fun _ => []⟩ (L2.start N [v]) H (lamR v (N.length - 1)) := by
  have no : ∀ i s, (lamR v (N.length - 1))[i]? = some s → s = .raw v ∧ i = 0 ∨ s = .no := fun i s h => by
    unfold lamR at h
    cases i with
    | zero => cases h; exact .inl ⟨rfl, rfl⟩
    | succ i =>
      rw [List.getElem?_cons_succ, List.getElem?_replicate] at h
      split at h
      · cases h; exact .inr rfl
      · cases h
  refine ⟨ok, .refl ok, ?_, fun i s h => ?_, fun i j b h => ?_, rfl, fun _ h => nomatch h⟩
  · unfold L2.start lamR
    simp only [List.length_append, List.length_map, List.length_cons, List.length_nil, List.length_replicate]
    omega
  · rcases no i s h with ⟨rfl, rfl⟩ | rfl
    · exact rfl
    · trivial
  · obtain ⟨s, hs, h⟩ := owl_mem h
    rcases no _ _ hs with ⟨z, _⟩ | z <;> subst z <;> cases h
/-- nothing is known of the slots -/
theorem En.blank {pt F0 : Addr → Prop} {H0 : Hp} {z0 : Gh} {F F1 : Addr → Prop} {o : Ow} {σ σ1 : L2.St} {H H1 : Hp} {ρ : Rho} (e : En M pt F0 H0 z0 F o σ H ρ) (x : Ext M pt F H F1 H1) (hl : σ1.length = σ.length) : En M pt F0 H0 z0 F1 o σ1 H1 (List.replicate σ.length .no) := by
  have e1 := e.step x
  have no : ∀ i s, (List.replicate σ.length Sl.no)[i]? = some s → s = Sl.no := fun i s h => by
    rw [List.getElem?_replicate] at h
    split at h
    · cases h; rfl
    · cases h
  refine ⟨e1.ok0, e1.ext, by rw [List.length_replicate]; exact hl, fun i s h => by rw [no i s h]; trivial, fun i j b h => ?_, e1.zr, fun q hq => ⟨(e1.gh q hq).rb, (e1.gh q hq).nw, (e1.gh q hq).nf, fun i h => ?_⟩⟩
  · obtain ⟨s, hs, h⟩ := owl_mem h
    rw [no _ _ hs] at h
    cases h
  · obtain ⟨s, hs, h⟩ := owl_mem h
    rw [no _ _ hs] at h
    cases h
section
variable {X : Cx} {Q : VK} {f c' : Addr} {q : Str} {s : Shared} {H : Hp} {cdv : Value} {tl : XK → Hp → VK → Prop}
/-- the reading of the call -/
def tAct (N : List Str) (f c' : Addr) (q : Str) (tl : XK → Hp → VK → Prop) : WX → TE := fun W σ H Q => σ[0]? = some (some (.ref f)) ∧ H c' = some (LamX.CodeO c' q) ∧ tl (fun cls d H' => ∀ σ' : L2.St, σ'.length = N.length → W cls d σ' H') H Q
end
theorem heard_mk {TT : (XK → Hp → VK → Prop) → Hp → VK → Prop} (F : Fun K x x st g fd) (S : FnScope N [a] (defScope st)) (hm : mg x = some (.ref g)) (hN0 : N[0]? = some a) (hva : Vis (defScope st) a) (hb : L2.Binds K fd [a] []) (B : HeardB P w K mg base j N x a st g i t1 l t3)
    (go : ∀ (f c' : Addr) (q : Str) (H : Hp) (Q : VK) (tl : XK → Hp → VK → Prop), H c' = some (LamX.CodeO c' q) → TT tl H Q → (tSeq t1 (tSeq (tTryN K i (fun W => tDrop (tAct N f c' q tl W)) l) t3)) { nx := fun _ H' => Q .non H', rt := Q } (L2.start N [.ref f]) H) : HeardC P w K mg base j x a TT := by
  obtain ⟨oc, od, kV, doc, pm, an, cdv, ct, osl, rfl, lk, hc⟩ := F.ex
  refine ⟨g, _, _, _, _, _, _, _, cdv, _, _, _, _, _, N, hm, F.kp, lk, hc, hb, S, hN0, hva, fun X e1 e2 e3 e4 e5 hr hgd q => ?_⟩
  subst e1 e2 e3 e4 e5
  intro f c' s H Q tl act hco h
  refine ⟨_, B cdv X.A X.stack s H (hr.deeper _) hgd (tAct N f c' q tl) (fun W pn xe p1 p2 tk => ?_), go f c' q H Q tl hco h⟩
  exact act _ pn xe (fun cls d H' => ∀ σ' : L2.St, σ'.length = N.length → W cls d σ' H') p1 p2 (takes_len tk) fun cls d σ' H' k hl => k σ' hl
variable {ρ1 : V → Rho}
theorem code_npt {pt F : Addr → Prop} {H : Hp} {c' : Addr} {q : Str} (ok : Ok M pt F H) (h : H c' = some (LamX.CodeO c' q)) : ¬ pt c' := fun z => by
  obtain ⟨_, _, e, _⟩ := ok.pots c' z
  rw [h] at e
  cases e
/-- the call raises -/
theorem heard_x {f : D → (D → Prop) → Prop} (F : Fun K x x st g fd) (S : FnScope N [a] (defScope st)) (hm : mg x = some (.ref g)) (hN0 : N[0]? = some a) (hva : Vis (defScope st) a) (hb : L2.Binds K fd [a] []) (B : HeardB P w K mg base j N x a st g i t1 l t3)
    (d1 : DS M .fixed t1 g1) (d2 : DCs M .fixed l gs) (d3 : DS M .fixed t3 g3) (r0 : ∀ v, (ρ1 v)[0]? = some (.raw v)) (rl : ∀ v, (ρ1 v).length = N.length) (h1 : ∀ v (δ : DEnds), δ.nx (ρ1 v) → g1 δ (lamR v (N.length - 1)))
    (hd : ∀ c xs (P' : D → Prop), f (.ob c xs) P' → ∀ a dd, pickG M K i c xs a dd gs { nx := g3 { nx := fun _ => P' .non, rt := P' }, rt := P' } (List.replicate N.length .no)) : HeardC P w K mg base j x a (TTX M f) := by
  refine heard_mk F S hm hN0 hva hb B fun fn c' q H Q tl hco h => ?_
  obtain ⟨pt, F0, P', ok, ht, hq⟩ := h
  have e0 := en_lam (v := .ref fn) ok (List.getElem?_eq_some_iff.mp hN0).1
  refine d1.run (δ := { nx := fun ρ => ρ = ρ1 (.ref fn), rt := P' }) e0 ⟨fun F1 o1 σ1 H1 ρ e1 a1 q1 => ?_, fun _ _ _ _ _ _ _ q => q.elim, fun _ _ _ _ _ _ _ q => q.elim, fun F' H' v d x r p => hq d F' H' v p x r⟩ (h1 _ _ rfl)
  have q1 : ρ = ρ1 (.ref fn) := q1
  subst q1
  refine ⟨e1.sl 0 _ (r0 _), e1.ext.same _ _ rfl (code_npt ok hco) hco, ht _ F1 H1 _ e1.ext fun c xs F2 H2 dd p x2 xd σ' hl => ?_⟩
  have hlen : σ1.length = N.length := e1.len.trans (rl _)
  have e2 := e1.blank (σ1 := σ') x2 (hl.trans hlen.symm)
  rw [hlen] at e2
  refine pick_run (δ := { nx := g3 { nx := fun _ => P' .non, rt := P' }, rt := P' }) d2.all e2 ⟨fun F' o' σ5 H5 ρ5 e5 _ q5 => ?_, fun _ _ _ _ _ _ _ q => q.elim, fun _ _ _ _ _ _ _ q => q.elim, fun F' H' v d x r p => hq d F' H' v p x r⟩ xd (xd_npt e2.ok xd) (hd c xs P' p)
  exact d3.run (δ := { nx := fun _ => P' .non, rt := P' }) e5 ⟨fun F' o' σ' H' ρ' e' _ q => hq .non F' H' .non q e'.ext .non, fun _ _ _ _ _ _ _ q => q.elim, fun _ _ _ _ _ _ _ q => q.elim, fun F' H' v d x r p => hq d F' H' v p x r⟩ q5
/-- the call returns -/
theorem heard_r {f : (D → Prop) → Prop} (F : Fun K x x st g fd) (S : FnScope N [a] (defScope st)) (hm : mg x = some (.ref g)) (hN0 : N[0]? = some a) (hva : Vis (defScope st) a) (hb : L2.Binds K fd [a] []) (B : HeardB P w K mg base j N x a st g i t1 l t3)
    (d1 : DS M .fixed t1 g1) (d3 : DS M .fixed t3 g3) (r0 : ∀ v, (ρ1 v)[0]? = some (.raw v)) (h1 : ∀ v (δ : DEnds), δ.nx (ρ1 v) → g1 δ (lamR v (N.length - 1)))
    (hd : ∀ (v : V) (P' : D → Prop), f P' → g3 { nx := fun _ => P' .non, rt := P' } (ρ1 v)) : HeardC P w K mg base j x a (TTR M f) := by
  refine heard_mk F S hm hN0 hva hb B fun fn c' q H Q tl hco h => ?_
  obtain ⟨pt, F0, P', ok, ht, hf, hq⟩ := h
  have e0 := en_lam (v := .ref fn) ok (List.getElem?_eq_some_iff.mp hN0).1
  refine d1.run (δ := { nx := fun ρ => ρ = ρ1 (.ref fn), rt := P' }) e0 ⟨fun F1 o1 σ1 H1 ρ e1 a1 q1 => ?_, fun _ _ _ _ _ _ _ q => q.elim, fun _ _ _ _ _ _ _ q => q.elim, fun F' H' v d x r p => hq d F' H' v p x r⟩ (h1 _ _ rfl)
  have q1 : ρ = ρ1 (.ref fn) := q1
  subst q1
  refine ⟨e1.sl 0 _ (r0 _), e1.ext.same _ _ rfl (code_npt ok hco) hco, ht _ F1 H1 _ e1.ext fun v F2 H2 x2 => ?_⟩
  have e2 := e1.step x2
  exact d3.run (δ := { nx := fun _ => P' .non, rt := P' }) e2 ⟨fun F' o' σ' H' ρ' e' _ q => hq .non F' H' .non q e'.ext .non, fun _ _ _ _ _ _ _ q => q.elim, fun _ _ _ _ _ _ _ q => q.elim, fun F' H' v d x r p => hq d F' H' v p x r⟩ (hd _ P' hf)
end
/-! ### defs that make lambdas: their code object is known -/
section
variable {P : Program} {w : World} {K : PySem.W.Frag} {mg : Str → Option Value} {base : Heap}
theorem Fun.okGc {x qual : Str} {st : Stmt} {f : Addr} {fd : FuncData} {N ps : List Str} {k : Nat} {sp : Sp} (F : Fun K x qual st f fd) (S : FnScope N ps (defScope st)) (len : ∀ vs H Q E, sp vs H Q E → vs.length = ps.length)
    (hbody : ∀ (cdv : Value) (A : Around) (outer : List Env) (s : Shared) (H : Hp) (vs : List V) (Q : VK), fd.code = cdv → Room k (A.deeper (envOfC qual (defScope st) s.heap.objs.size f cdv)) → (A.deeper (envOfC qual (defScope st) s.heap.objs.size f cdv)).guards = some [] → sp vs H Q E0 →
      ∃ t, PSs (cxOf CX0 P w K mg base N qual (defScope st) f cdv A outer s H E0).nox (defBody st) t ∧ t { nx := fun _ H' => Q .non H', rt := Q } (L2.start N vs) H) : FnG P w K mg base (k + 1) f fd ps sp := by
  obtain ⟨oc, od, kV, doc, pm, an, cdv, ct, osl, rfl, lk, hcd⟩ := F.ex
  refine ⟨len, fun A outer s H args us vs Q hr hgd e0 hb r hsp => ?_⟩
  have hl := len _ _ _ _ hsp
  have X1 : K.In s.heap := e0.mod.kin.keeps fun b o e => (e0.bs b o e).1
  have lim : s.heap.NoLimit := e0.mod.nolimit.keeps fun b o e => (e0.bs b o e).1
  have kinds : ∀ y ∈ ps.zip us, (defScope st).names.lookup y.1 = some .local ∨ ((defScope st).names.lookup y.1 = some .cell ∧ ((cellsFrom (s.heap.objs.size + 1) (defScope st).names []).lookup y.1).isSome = true) := fun ⟨n, v⟩ hy => by
    rcases S.par n (List.of_mem_zip hy).1 with q | q
    · exact .inl q
    · exact .inr ⟨q, PySem.W.cellsFrom_some _ _ _ (.inl q)⟩
  refine codeAny_call_function hr.depth (X1 _ _ lk) rfl S.co S.gen rfl (PySem.W.codeRec_of X1 hcd) (hb _ _ _ _ ?_)
  refine wpAny_newFunctionEnv_cells S.kind kinds fun env he s1 x => ?_
  subst he
  refine ⟨lim.keeps x.toInCall.keep, codeAny_func ?_⟩
  obtain ⟨t, ht, hq⟩ := hbody cdv A outer s H vs Q rfl (hr.deeper _) hgd hsp
  have I : Inv (cxOf CX0 P w K mg base N qual (defScope st) f cdv A outer s H E0) [] (L2.start N vs) H s1 := inv_start S hr.hd e0 hl r x
  refine wpAny_mono (ht.nox.run [] s1 (L2.start N vs) H _ I hq) (fun fl s' hs => ?_) fun e s' hs => hs
  have fin : ∀ {σ' : L2.St} {H' : Hp} {v : V} {u : Value}, Inv (cxOf CX0 P w K mg base N qual (defScope st) f cdv A outer s H E0) [] σ' H' s' → RelV v u → Q v H' → CE outer P w H s Q u s' :=
    fun {σ' H' v u} J rv q => ⟨v, H', J.os, J.bare, J.base, J.hok, rv, q⟩
  cases fl with
  | ret u =>
    obtain ⟨v, σ', H', J, rv, q⟩ := hs
    exact fin J rv q
  | next =>
    obtain ⟨σ', H', J, q⟩ := hs
    exact fin (v := V.non) (u := Value.none) J rfl q
  | brk =>
    obtain ⟨_, _, _, q⟩ := hs
    exact False.elim q
  | cont =>
    obtain ⟨_, _, _, q⟩ := hs
    exact False.elim q
variable {M : Cm} {x qual : Str} {st : Stmt} {f : Addr} {fd : FuncData} {N ps : List Str} {k : Nat} {ks : List Kd} {fn : List D → (D → Prop) → Prop}
theorem okDc (F : Fun K x qual st f fd) (S : FnScope N ps (defScope st)) (hk : ks.length = ps.length)
    (hb : ∀ (cdv : Value) (A : Around) (outer : List Env) (s : Shared) (H : Hp), fd.code = cdv → Room k (A.deeper (envOfC qual (defScope st) s.heap.objs.size f cdv)) → (A.deeper (envOfC qual (defScope st) s.heap.objs.size f cdv)).guards = some [] →
      ∃ t g, PSs (cxOf CX0 P w K mg base N qual (defScope st) f cdv A outer s H E0).nox (defBody st) t ∧ DS M .fixed t g ∧ ∀ ds P, fn ds P → g { nx := fun _ => P .non, rt := P } (rho0 ks ds (N.length - ks.length))) : FnG P w K mg base (k + 1) f fd ps (spD M ks fn) := by
  refine Fun.okGc F S (fun vs H Q E h => ?_) (fun cdv A outer s H vs Q hc hr hgd h => ?_)
  · obtain ⟨pt, F, ds, P, _, r, _⟩ := h
    rw [r.length, hk]
  · obtain ⟨pt, F, ds, P', ok, r, hf, kk⟩ := h
    obtain ⟨t, g, hp, hd, hg⟩ := hb cdv A outer s H hc hr hgd
    exact ⟨t, hp, hd.run (δ := { nx := fun _ => P' .non, rt := P' }) (en_start ok r) ⟨fun F' o' σ' H' ρ' e' _ q => kk .non F' H' .non q e'.ext .non, fun _ _ _ _ _ _ _ q => q.elim, fun _ _ _ _ _ _ _ q => q.elim, fun F' H' v d x r q => kk d F' H' v q x r⟩ (hg ds P' hf)⟩
end
end Dl

/-! Data logic, part 21: own sets of keys, texts walked, chains of comparisons, len of anything, classes whose making raises or is by keywords -/
namespace Dl
open PySem PySem.Spec PyProof.Rows L2 Xv Cr
section
variable {M : Cm} {K : PySem.W.Frag} {m : Md} {ta tb tc te : TE} {ga gb gc ge : GE} {i : Nat} {P0 : Program} {w0 : World}
/-! ### sets -/
def tAsgK (P : Program) (w : World) (i : Nat) : TS := tAsg (tCB (rSet0K P w) tNil) (L2.gName i)
theorem ps_ks {X : Cx} {st : Stmt} {i : Nat} (h : PS X st (tAsg (tCB (rSet0K X.prog X.w) tNil) (L2.gName i))) : PS X st (tAsgK X.prog X.w i) := h
def sAsgK (P : Program) (w : World) (i : Nat) : GS := fun δ ρ => i ≠ 0 ∧ δ.nx (ρ.set i (.kset P w []))
theorem nw_own {pt F0 F F1 : Addr → Prop} {H0 H H1 : Hp} {z0 : Gh} {o : Ow} {σ : L2.St} {ρ : Rho} {p : Addr} (e : En M pt F0 H0 z0 F o σ H ρ) (n : Nw H p) : (∀ i j a, j ≠ i → a ∈ owl o ρ j → a ≠ p) ∧ ∀ g ∈ z0.gs, p ≠ g.1 :=
  ⟨fun _ j a _ hj z => n.no (z ▸ (e.owlOk hj).2.2.1), fun g hg z => n.no (z ▸ (rb_some (e.gh g hg).rb).1)⟩
instance : DS M m (tAsgK P0 w0 i) (sAsgK P0 w0 i) := ⟨fun {pt F0 H0 z0 F o σ H ρ δ E} e l ⟨i0, q⟩ => ⟨rfl, fun p np => by
  have x1 := Ext.put0 (F := F) e.ok (o := SetK P0 w0 p (fun _ => false) 0) np (by rfl)
  have n1 : Nw H p := .of np
  have nn := nw_own (F1 := F) (H1 := H) e n1
  refine l.nx _ _ _ _ _ ((e.step x1).setKs (P := P0) (w := w0) (l := []) ⟨_, _, upd_same, fun k => by simp, Nat.le_refl _⟩ (e.ext.nn np) (fun z => (e.ok.liv p z).ne np) (e.ok.not_pt np) (fun j a hj ha => nn.1 i j a hj ha) i0 nn.2) (Agr.of e.ok x1) q⟩⟩
def gSIn (P0 : Program) (w0 : World) (neg : Bool) (ga : GE) (i : Nat) : GE := fun ρ P => ga ρ fun d => match ρ[i]? with
  | some (.kset P1 w1 l) => P1 = P0 ∧ w1 = w0 ∧ ∃ k, keyD d = some k ∧ ∀ b : Bool, (b = true ↔ k ∈ l) → P (.bl (if neg then !b else b))
  | _ => False
instance {neg : Bool} [h : DB M ta ga] : DTc M (tOp (rSInK P0 w0 neg) ta (tVar i)) (gSIn P0 w0 neg ga i) := ⟨fun {pt F0 H0 z0 F o σ H ρ P Q} e q k =>
  h.run e q fun d F1 H1 v q1 x1 r1 => by
    split at q1
    · rename_i P1 w1 l hx
      obtain ⟨rfl, rfl, ky, hk, q1⟩ := q1
      have e1 := e.step x1
      obtain ⟨a, ⟨S, n, hS, hl, _⟩, _⟩ := e1.sl i _ hx
      exact ⟨_, a, ky, o.a i, S, n, rb_key hk r1, rfl, hS, k _ F1 H1 _ (q1 (S ky) (hl ky)) x1 (.bl _)⟩
    · exact q1.elim⟩
def sSAdd (P0 : Program) (w0 : World) (i : Nat) (ga : GE) : GS := fun δ ρ => match ρ[i]? with
  | some (.kset P1 w1 l) => P1 = P0 ∧ w1 = w0 ∧ ga ρ fun d => ∃ k, keyD d = some k ∧ l.length < 4000 ∧ δ.nx (ρ.set i (.kset P1 w1 (k :: l)))
  | _ => False
instance [h : DB M ta ga] : DS M m (tDrop (tSAddK P0 w0 (tVar i) (tCons ta tNil))) (sSAdd P0 w0 i ga) := ⟨fun {pt F0 H0 z0 F o σ H ρ δ E} e l q => by
  unfold sSAdd at q
  split at q
  · rename_i P1 w1 ks hx
    obtain ⟨rfl, rfl, q⟩ := q
    obtain ⟨a, ⟨S0, n0, h0, _⟩, _⟩ := e.sl i _ hx
    refine ⟨_, a, ⟨o.a i, S0, n0, rfl, h0⟩, h.run e q fun d F1 H1 v q1 x1 r1 => ?_⟩
    obtain ⟨k, hk, hl, q1⟩ := q1
    have e1 := e.step x1
    obtain ⟨_, ⟨S, n, hS, hs, hn⟩, _, nf, _⟩ := e1.sl i _ hx
    refine ⟨o.a i, k, S, n, rfl, by rw [rb_key hk r1], hS, by rw [show scanBound = 4096 from rfl]; omega, ?_⟩
    have r' : KSet P1 w1 (k :: ks) (upd H1 (o.a i) (SetK P1 w1 (o.a i) (fun j => S j || decide (j = k)) (if S k = true then n else n + 1))) (o.a i) := by
      refine ⟨_, _, upd_same, fun j => ?_, ?_⟩
      · rw [Bool.or_eq_true, hs j, decide_eq_true_eq, List.mem_cons]
        exact ⟨fun z => z.elim .inr .inl, fun z => z.elim .inr .inl⟩
      · rw [List.length_cons]
        split <;> omega
    have ag : Agr F1 H1 F1 (upd H1 (o.a i) (SetK P1 w1 (o.a i) (fun j => S j || decide (j = k)) (if S k = true then n else n + 1))) := ⟨fun _ z => z, fun b u _ fb eb => by rw [upd_ne (fun (z : b = o.a i) => nf (z ▸ fb))]; exact eb⟩
    exact l.nx _ _ _ _ _ (e1.mutK hx (by rfl) r') ((Agr.of e.ok x1).trans ag) q1
  · exact q.elim⟩
/-! ### texts -/
def signD (c : Nat) : D := .str ⟨#[c]⟩
def signsD (z : Str) : List D := z.cps.toList.map signD
theorem it_str {pt F : Addr → Prop} {H : Hp} {z : Str} : ItD M pt F H (Its z) (signsD z) := ⟨fun _ => True, _, by unfold signsD; rw [List.length_map, Array.length_toList]; exact walk_str, fun _ _ => trivial, fun i F2 H2 x H3 hi k sub s y => by
  obtain ⟨rfl, c, hc, rfl⟩ := y
  exact ⟨signD c, F2, by unfold signsD; rw [List.getElem?_map, Array.getElem?_toList, hc]; rfl, .refl k, .str _⟩⟩
def giStr (ga : GE) : GA := fun ρ P => ga ρ fun x => ∃ z, x = .str z ∧ P (signsD z)
instance [h : DB M ta ga] : DI M (iStr ta) (giStr ga) := ⟨fun {pt F0 H0 z0 F o σ H ρ P R} e q k => h.run e q fun d F' H' v p x r => by
  obtain ⟨z, rfl, p⟩ := p
  cases rb_str r
  exact ⟨z, rfl, k _ F' H' _ p x it_str⟩⟩
abbrev rSgnD : R2 := fun x y H Q => ∃ (c : Nat) (z : Str), x = .str ⟨#[c]⟩ ∧ y = .str z ∧ Q (.bl (decide (c ∈ z.cps.toList))) H
def fSgn : D → D → (D → Prop) → Prop := fun dx dy P => ∃ c z, dx = signD c ∧ dy = .str z ∧ P (.bl (decide (c ∈ z.cps.toList)))
instance : D2 M rSgnD fSgn := ⟨fun {pt F H x y dx dy P Q} k r1 r2 q w => by
  obtain ⟨c, z, rfl, rfl, q⟩ := q
  cases rb_str r1
  cases rb_str r2
  exact ⟨c, z, rfl, rfl, w _ F H _ q (.refl k) (.bl _)⟩⟩
/-! ### a < b < c -/
def gChain (f1 f2 : D → D → (D → Prop) → Prop) (ga gb gc : GE) : GE := fun ρ P => ga ρ fun x => gb ρ fun y => f1 x y fun z => ∃ k, z = .bl k ∧ if k = true then gc ρ fun u => f2 y u P else P (.bl false)
instance {r1 r2 : R2} {f1 f2 : D → D → (D → Prop) → Prop} [h1 : DB M ta ga] [h2 : DB M tb gb] [h3 : DB M tc gc] [k1 : D2 M r1 f1] [k2 : D2 M r2 f2] : DTc M (tChain r1 r2 ta tb tc) (gChain f1 f2 ga gb gc) := ⟨fun {pt F0 H0 z0 F o σ H ρ P Q} e q k =>
  h1.run e q fun d1 F1 H1 v1 q1 x1 r1 => h2.run (e.step x1) q1 fun d2 F2 H2 v2 q2 x2 r2 => k1.run ((e.step x1).step x2).ok (r1.ext (e.step x1).ok x2) r2 q2 fun z F3 H3 v3 q3 x3 r3 => by
    obtain ⟨b, rfl, q3⟩ := q3
    cases r3
    refine ⟨b, rfl, ?_⟩
    have e3 := ((e.step x1).step x2).step x3
    cases b with
    | false => exact k _ F3 H3 _ q3 ((x1.trans x2).trans x3) (.bl _)
    | true =>
      refine h3.run e3 q3 fun d4 F4 H4 v4 q4 x4 r4 => ?_
      exact k2.run (e3.step x4).ok (r2.ext ((e.step x1).step x2).ok (x3.trans x4)) r4 q4 fun d F' H' v p x r => k d F' H' v p ((((x1.trans x2).trans x3).trans x4).trans x) r⟩
/-! ### len of a text, a list, a tuple -/
def rLenD (K : PySem.W.Frag) : List V → Hp → VK → Prop := fun xs H Q => ∃ x n, xs = [x] ∧ LenV K x H n ∧ Q (.int n) H
theorem call_lnA {X : Cx} : CallR X (.builtin "len") (rLenD X.K) := call_len
def lenD : D → Option Nat
  | .str z => some z.length
  | .lst ds => some ds.length
  | .tup ds => some ds.length
  | _ => none
def fLenD : List D → (D → Prop) → Prop := fun ds P => ∃ d n, ds = [d] ∧ lenD d = some n ∧ n ≤ 16777216 ∧ P (.int (n : Nat))
instance : D1 M (rLenD K) [.bor] fLenD := ⟨fun {pt F H vs ds P Q} k r q w => by
  obtain ⟨d, n, rfl, hn, hl, q⟩ := q
  cases r with
  | bor r s =>
    cases s
    refine ⟨_, n, rfl, ?_, w _ F H _ q (.refl k) (.int _)⟩
    cases d with
    | str z => cases hn; cases rb_str r; exact ⟨by rw [sizeLine_eq]; exact hl, rfl⟩
    | lst xs => cases hn; obtain ⟨a, us, rfl, _, e, h⟩ := r; exact .inl ⟨us, SqL.of e, h.length.symm⟩
    | tup xs => cases hn; obtain ⟨a, us, rfl, _, e, h⟩ := r; exact .inr ⟨us, .inl (.inl e), h.length.symm⟩
    | _ => cases hn⟩
end
end Dl

/-! Data logic, part 22: repr of small data, dicts among them -/
namespace Dl
open PySem PySem.Spec PyProof.Rows L2 Xv Cr
mutual
def toP : D → PyData
  | .non => .none
  | .bl b => .bool b
  | .int i => .int i
  | .str z => .str z
  | .lst xs => .list (toPs xs)
  | .tup xs => .tuple (toPs xs)
  | .dic ps => .dict (toPk ps)
  | .ob _ _ => .none
def toPs : List D → List PyData
  | [] => []
  | x :: r => toP x :: toPs r
def toPk : List (Key × D) → List (PyData × PyData)
  | [] => []
  | (k, x) :: r => (kD k, toP x) :: toPk r
end
def keyW : Key → Nat
  | .inl _ => 101
  | .inr z => z.cps.size
def keyS : Key → Bool
  | .inl i => decide (i.natAbs < 10 ^ 30)
  | .inr z => z.cps.toList.all fun c => decide (c < 16 ^ 8)
mutual
/-- no objects, short leaves -/
def smD : D → Bool
  | .non => true
  | .bl _ => true
  | .int i => decide (i.natAbs < 10 ^ 30)
  | .str z => z.cps.toList.all fun c => decide (c < 16 ^ 8)
  | .lst xs => smDs xs
  | .tup xs => smDs xs
  | .dic ps => smDk ps
  | .ob _ _ => false
def smDs : List D → Bool
  | [] => true
  | x :: r => smD x && smDs r
def smDk : List (Key × D) → Bool
  | [] => true
  | (k, x) :: r => keyS k && smD x && smDk r
end
mutual
def wtD : D → Nat
  | .non => 0
  | .bl _ => 0
  | .int _ => 101
  | .str z => z.cps.size
  | .lst xs => wtDs xs
  | .tup xs => wtDs xs
  | .dic ps => wtDk ps
  | .ob _ _ => 0
def wtDs : List D → Nat
  | [] => 0
  | x :: r => wtD x + 1 + wtDs r
def wtDk : List (Key × D) → Nat
  | [] => 0
  | (k, x) :: r => keyW k + wtD x + 2 + wtDk r
end
mutual
def dpD : D → Nat
  | .non => 0
  | .bl _ => 0
  | .int _ => 0
  | .str z => 0
  | .lst xs => dpDs xs + 1
  | .tup xs => dpDs xs + 1
  | .dic ps => dpDk ps + 1
  | .ob _ _ => 0
def dpDs : List D → Nat
  | [] => 0
  | x :: r => max (dpD x) (dpDs r)
def dpDk : List (Key × D) → Nat
  | [] => 0
  | (k, x) :: r => max (dpD x) (dpDk r)
end
theorem int_small {i : Int} (h : i.natAbs < 10 ^ 30) : i.natAbs.log2 < 101 ∧ (PyData.shown (.int i)).length ≤ 40 := by
  refine ⟨?_, ?_⟩
  · rcases Nat.eq_zero_or_pos i.natAbs with z | z
    · rw [z]; decide
    · rw [Nat.log2_lt (by omega)]
      exact Nat.lt_trans h (by decide)
  · have e := int_text_length_le10 (k := 30) (by decide) h
    show (Str.ofString (toString i)).length ≤ 40
    rw [PySem.ofString_length]
    omega
structure SmP (p : PyData) (w d : Nat) : Prop where
  sh : p.showable = true
  lv : p.leavesShort 40 = true
  dp : p.depth ≤ d
  wt : p.weight ≤ w
structure SmPs (ps : List PyData) (w d : Nat) : Prop where
  sh : PyData.showableAll ps = true
  lv : PyData.leavesShortAll 40 ps = true
  dp : PyData.depthAll ps ≤ d
  wt : PyData.weightAll ps ≤ w
structure SmPk (ps : List (PyData × PyData)) (w d : Nat) : Prop where
  sh : PyData.showableKv ps = true
  lv : PyData.leavesShortKv 40 ps = true
  dp : PyData.depthKv ps ≤ d
  wt : PyData.weightKv ps ≤ w
theorem smP_int {i : Int} (h : i.natAbs < 10 ^ 30) : SmP (.int i) 101 0 := by
  obtain ⟨h1, h2⟩ := int_small h
  refine ⟨?_, ?_, by simp only [PyData.depth]; omega, ?_⟩
  · simp only [PyData.showable, decide_eq_true_eq]; omega
  · simp only [PyData.leavesShort, decide_eq_true_eq]; exact h2
  · simp only [PyData.weight]
    split <;> omega
theorem smP_str {z : Str} (h : (z.cps.toList.all fun c => decide (c < 16 ^ 8)) = true) : SmP (.str z) z.cps.size 0 :=
  ⟨by simp only [PyData.showable], by simp only [PyData.leavesShort]; exact h, by simp only [PyData.depth]; omega, by simp only [PyData.weight]; exact Nat.le_refl _⟩
theorem smP_key {k : Key} (h : keyS k = true) : SmP (kD k) (keyW k) 0 := by
  cases k with
  | inl i => exact smP_int (of_decide_eq_true h)
  | inr z => exact smP_str h
mutual
theorem smD_p : ∀ d : D, smD d = true → SmP (toP d) (wtD d) (dpD d)
  | .non, _ => ⟨by simp only [toP, PyData.showable], by simp only [toP, PyData.leavesShort], by simp only [toP, PyData.depth]; omega, by simp only [toP, PyData.weight]; omega⟩
  | .bl b, _ => ⟨by simp only [toP, PyData.showable], by simp only [toP, PyData.leavesShort], by simp only [toP, PyData.depth]; omega, by simp only [toP, PyData.weight]; omega⟩
  | .int i, h => smP_int (of_decide_eq_true h)
  | .str z, h => smP_str h
  | .lst xs, h => by
    have k := smDs_p xs h
    exact ⟨by simp only [toP, PyData.showable]; exact k.sh, by simp only [toP, PyData.leavesShort]; exact k.lv, by simp only [toP, PyData.depth, dpD]; have := k.dp; omega, by simp only [toP, PyData.weight, wtD]; exact k.wt⟩
  | .tup xs, h => by
    have k := smDs_p xs h
    exact ⟨by simp only [toP, PyData.showable]; exact k.sh, by simp only [toP, PyData.leavesShort]; exact k.lv, by simp only [toP, PyData.depth, dpD]; have := k.dp; omega, by simp only [toP, PyData.weight, wtD]; exact k.wt⟩
  | .dic xs, h => by
    have k := smDk_p xs h
    exact ⟨by simp only [toP, PyData.showable]; exact k.sh, by simp only [toP, PyData.leavesShort]; exact k.lv, by simp only [toP, PyData.depth, dpD]; have := k.dp; omega, by simp only [toP, PyData.weight, wtD]; exact k.wt⟩
  | .ob _ _, h => by cases h
theorem smDs_p : ∀ ds : List D, smDs ds = true → SmPs (toPs ds) (wtDs ds) (dpDs ds)
  | [], _ => ⟨by simp only [toPs, PyData.showableAll], by simp only [toPs, PyData.leavesShortAll], by simp only [toPs, PyData.depthAll]; omega, by simp only [toPs, PyData.weightAll]; omega⟩
  | x :: r, h => by
    have h : (smD x && smDs r) = true := h
    rw [Bool.and_eq_true] at h
    have a := smD_p x h.1
    have b := smDs_p r h.2
    refine ⟨by simp only [toPs, PyData.showableAll, a.sh, b.sh, Bool.and_self], by simp only [toPs, PyData.leavesShortAll, a.lv, b.lv, Bool.and_self], ?_, ?_⟩
    · simp only [toPs, PyData.depthAll, dpDs]
      have := a.dp
      have := b.dp
      omega
    · simp only [toPs, PyData.weightAll, wtDs]
      have := a.wt
      have := b.wt
      omega
theorem smDk_p : ∀ ds : List (Key × D), smDk ds = true → SmPk (toPk ds) (wtDk ds) (dpDk ds)
  | [], _ => ⟨by simp only [toPk, PyData.showableKv], by simp only [toPk, PyData.leavesShortKv], by simp only [toPk, PyData.depthKv]; omega, by simp only [toPk, PyData.weightKv]; omega⟩
  | (k, x) :: r, h => by
    have h : (keyS k && smD x && smDk r) = true := h
    rw [Bool.and_eq_true, Bool.and_eq_true] at h
    have c := smP_key h.1.1
    have a := smD_p x h.1.2
    have b := smDk_p r h.2
    refine ⟨by simp only [toPk, PyData.showableKv, c.sh, a.sh, b.sh, Bool.and_self], by simp only [toPk, PyData.leavesShortKv, c.lv, a.lv, b.lv, Bool.and_self], ?_, ?_⟩
    · simp only [toPk, PyData.depthKv, dpDk]
      have := a.dp
      have := b.dp
      have := c.dp
      omega
    · simp only [toPk, PyData.weightKv, wtDk]
      have := a.wt
      have := b.wt
      have := c.wt
      omega
end
section
variable {M : Cm} {K : PySem.W.Frag} {pt F : Addr → Prop} {H : Hp}
mutual
theorem toP_dr : ∀ d : D, smD d = true → ∀ {v : V}, Rp M F H v d → Dr K H v (toP d)
  | .non, _, _, .non => .non
  | .bl _, _, _, .bl _ => .bl _
  | .int _, _, _, .int _ => .int _
  | .str _, _, _, .str _ => .str _
  | .lst xs, h, _, .lst _ e r => .lst (SqL.of e) (toPs_dr xs h r)
  | .tup xs, h, _, .tup _ e r => .tup (.inl (.inl e)) (toPs_dr xs h r)
  | .dic xs, h, _, .dic _ e r => .dct e (toPk_dr xs h r)
  | .ob _ _, h, _, _ => by cases h
theorem toPs_dr : ∀ ds : List D, smDs ds = true → ∀ {vs : List V}, RpA M F H vs ds → DrAll K H vs (toPs ds)
  | [], _, _, .nil => .nil
  | x :: r, h, _, .cons a b => .cons (toP_dr x (Bool.and_eq_true_iff.mp h).1 a) (toPs_dr r (Bool.and_eq_true_iff.mp h).2 b)
theorem toPk_dr : ∀ ds : List (Key × D), smDk ds = true → ∀ {vs : List (Key × V)}, RpK M F H vs ds → DrKv K H vs (toPk ds)
  | [], _, _, .nil => .nil
  | (k, x) :: r, h, _, .cons a b => .cons (toP_dr x (Bool.and_eq_true_iff.mp (Bool.and_eq_true_iff.mp h).1).2 a) (toPk_dr r (Bool.and_eq_true_iff.mp h).2 b)
end
theorem toP_drb {d : D} {v : V} (h : smD d = true) (r : Rb M pt F H v d) : Dr K H v (toP d) := by
  cases d with
  | non => cases r; exact .non
  | bl b => cases r; exact .bl b
  | int i => cases r; exact .int i
  | str z => cases r; exact .str z
  | lst xs => obtain ⟨a, vs, rfl, _, e, q⟩ := r; exact .lst (SqL.of e) (toPs_dr xs h q)
  | tup xs => obtain ⟨a, vs, rfl, _, e, q⟩ := r; exact .tup (.inl (.inl e)) (toPs_dr xs h q)
  | dic xs => obtain ⟨a, vs, rfl, _, e, q⟩ := r; exact .dct e (toPk_dr xs h q)
  | ob c xs => cases h
/-- repr of small data -/
def rReprS (K : PySem.W.Frag) : List V → Hp → VK → Prop := rRepr K
theorem call_reprS {X : Cx} (hg : X.A.guards = some []) (hu : X.A.units + 64 < cLine) : CallR X (.builtin "repr") (rReprS X.K) := call_repr hg hu
def Small (d : D) : Prop := smD d = true ∧ wtD d ≤ 200000 ∧ dpD d ≤ 60
def shS (d : D) : Str := (toP d).shown
def fReprS : List D → (D → Prop) → Prop := fun ds P => ∃ d, ds = [d] ∧ Small d ∧ P (.str (shS d))
instance : D1 M (rReprS K) [.bor] fReprS := ⟨fun {pt F H vs ds P Q} k r q w => by
  obtain ⟨d, rfl, ⟨h1, h2, h3⟩, q⟩ := q
  cases r with
  | bor r s =>
    cases s
    have s := smD_p d h1
    unfold rReprS rRepr
    refine ⟨_, toP d, rfl, toP_drb h1 r, s.sh, Nat.le_trans s.dp h3, ?_, w _ F H _ q (.refl k) (.str _)⟩
    have := PyData.shown_le 40 (by decide) _ s.lv
    have := s.wt
    rw [sizeLine_eq]
    omega⟩
end
end Dl

/-! Data logic, part 23: is None, defaults, classes whose making raises or is by keywords -/
namespace Dl
open PySem PySem.Spec PyProof.Rows L2 Xv Cr
/-- an own class and its number -/
class CaI (M : Cm) (C : Addr) (c : outParam Nat) : Prop where
  ca : M.ca c = C
section
variable {M : Cm} {K : PySem.W.Frag} {m : Md} {ta tb te : TE} {ga gb ge : GE} {t tk : TA} {g gk : GA} {ks : List Kd} {f : List D → (D → Prop) → Prop} {E : XK} {C : Addr} {c : Nat}
/-! ### is None -/
def isNon : D → Bool
  | .non => true
  | _ => false
theorem non_of {pt F : Addr → Prop} {H : Hp} {v : V} {d : D} (r : Rb M pt F H v d) : decide (v = .non) = isNon d := by
  cases d with
  | non => cases r; rfl
  | bl b => cases r; rfl
  | int i => cases r; rfl
  | str z => cases r; rfl
  | lst xs => obtain ⟨a, vs, rfl, _⟩ := r; rfl
  | tup xs => obtain ⟨a, vs, rfl, _⟩ := r; rfl
  | dic xs => obtain ⟨a, vs, rfl, _⟩ := r; rfl
  | ob c xs => obtain ⟨a, dx, vs, rfl, _⟩ := r; rfl
def gNotNon (ga : GE) : GE := fun ρ P => ga ρ fun d => P (.bl (!isNon d))
instance [h : DB M ta ga] : DTc M (tNotN ta) (gNotNon ga) := ⟨fun {pt F0 H0 z0 F o σ H ρ P Q} e q k => h.run e q fun d F1 H1 v q1 x1 r1 => by
  show Q (.bl (!decide (v = .non))) H1
  rw [non_of r1]
  exact k _ F1 H1 _ q1 x1 (.bl _)⟩
/-- a test that is not asked -/
instance : DTT M (fun _ _ _ => False) (fun _ _ => False) := ⟨fun _ q _ => q.elim⟩
theorem pt_no {X : Cx} {e : Expr} : PT X e (fun _ _ _ => False) := ⟨fun _ _ _ _ _ _ h => h.elim⟩
/-! ### a def with one default, None -/
def gDflt (f : List D → (D → Prop) → Prop) (g : GA) : GE := fun ρ P => g ρ fun ds => f (ds ++ [.non]) P
instance {k1 : Kd} [h : DA M [k1] t g] : DTc M (tCall (spD M [k1, .bor] f) [.non] E0 t) (gDflt f g) := ⟨fun {pt F0 H0 z0 F o σ H ρ P Q} e q k =>
  h.run e q fun ds F1 H1 vs q1 x1 r1 => by
    refine ⟨pt, F1, ds ++ [.non], P, (e.step x1).ok, ?_, q1, fun d F' H' v p x r => k d F' H' v p (x1.trans x) r⟩
    cases r1 with
    | full r s => cases s; exact .full r (.bor .non .nil)
    | bor r s => cases s; exact .bor r (.bor .non .nil)
    | pot r s => cases s; exact .pot r (.bor .non .nil)⟩
instance {k1 : Kd} [h : DA M [k1] t g] : DX M E (tCallSD (spX M [k1, .bor] f) [.non] (WE1 E) t) (gDflt f g) := ⟨fun {pt F0 H0 z0 F o σ H ρ P Q} e q k =>
  h.run e q fun ds F1 H1 vs q1 x1 r1 => by
    refine ⟨pt, F1, ds ++ [.non], P, (e.step x1).ok, ?_, q1, fun c xs F' H' a p x xd => k c xs F' H' a p (x1.trans x) xd⟩
    cases r1 with
    | full r s => cases s; exact .full r (.bor .non .nil)
    | bor r s => cases s; exact .bor r (.bor .non .nil)
    | pot r s => cases s; exact .pot r (.bor .non .nil)⟩
theorem ps_drd {X : Cx} {st : Stmt} {E : XK} {sp : Sp} {dvs : List V} {t : TA} (h : PS X st (tDrop (tCallSD sp dvs (WE1 E) t))) : PS X st (tDropX E (tCallSD sp dvs (WE1 E) t)) := h
/-! ### classes -/
instance [hc : CaI M C c] [h : DA M ks t g] : DN M (tMake C (spI M c ks f) [] E t) (gMake c f g) := ⟨fun e q k => by
  have := (make_run (E := E) (c := c) (f := f) h).run e q k
  rw [hc.ca] at this
  exact this⟩
/-- __init__ raises -/
def spIX (M : Cm) (c : Nat) (ks : List Kd) (f : List D → (D → Prop) → Prop) : Sp := fun vs H _ E => ∃ (pt F : Addr → Prop) (H1 : Hp) (x dx : Addr) (us : List V) (ds : List D) (P : D → Prop), vs = .ref x :: us ∧ Ok M pt F H1 ∧ H1 x = none ∧ H1 dx = none ∧ dx ≠ x ∧ H = upd (upd H1 dx (.own x)) x (.ins (M.ca c) dx []) ∧ RA M pt F H1 ks us ds ∧ f ds P ∧
  ∀ c' xs F' H' a, P (.ob c' xs) → Ext M pt F H1 F' H' → XdAt M F' H' a c' xs → E (.ref (M.ca c')) (some a) H'
instance [hc : CaI M C c] [h : DA M ks t g] : DX M E (tMake C (spIX M c ks f) [] E t) (gFun f g) := ⟨fun {pt F0 H0 z0 F o σ H ρ P Q} e q k =>
  h.run e q fun ds F1 H1 vs q1 x1 r1 => fun x dx nx nd ne => ⟨pt, F1, H1, x, dx, vs, ds, P, by rw [List.append_nil], (e.step x1).ok, nx, nd, ne, by rw [hc.ca], r1, q1, fun c xs F' H' a p x2 xd => k c xs F' H' a p (x1.trans x2) xd⟩⟩
/-- C(b = .., a = ..): two keywords, the second parameter first -/
abbrev rvK : List V → List V → List V := fun us ws => us ++ ws.reverse
def gRev2 (f : List D → (D → Prop) → Prop) (g : GA) : GE := fun ρ P => g ρ fun ds => f ds.reverse P
theorem RA.rev2 {pt F : Addr → Prop} {H : Hp} {k1 k2 : Kd} {vs : List V} {ds : List D} (r : RA M pt F H [k2, k1] vs ds) : RA M pt F H [k1, k2] vs.reverse ds.reverse := by
  have one : ∀ {k : Kd} {vs : List V} {ds : List D}, RA M pt F H [k] vs ds → ∃ v d, vs = [v] ∧ ds = [d] := fun r => by
    cases r with
    | full _ s => cases s; exact ⟨_, _, rfl, rfl⟩
    | bor _ s => cases s; exact ⟨_, _, rfl, rfl⟩
    | pot _ s => cases s; exact ⟨_, _, rfl, rfl⟩
  cases r with
  | full r s =>
    obtain ⟨v, d, rfl, rfl⟩ := one s
    cases s with
    | full r2 s => cases s; exact .full r2 (.full r .nil)
    | bor r2 s => cases s; exact .bor r2 (.full r .nil)
    | pot r2 s => cases s; exact .pot r2 (.full r .nil)
  | bor r s =>
    obtain ⟨v, d, rfl, rfl⟩ := one s
    cases s with
    | full r2 s => cases s; exact .full r2 (.bor r .nil)
    | bor r2 s => cases s; exact .bor r2 (.bor r .nil)
    | pot r2 s => cases s; exact .pot r2 (.bor r .nil)
  | pot r s =>
    obtain ⟨v, d, rfl, rfl⟩ := one s
    cases s with
    | full r2 s => cases s; exact .full r2 (.pot r .nil)
    | bor r2 s => cases s; exact .bor r2 (.pot r .nil)
    | pot r2 s => cases s; exact .pot r2 (.pot r .nil)
instance {k1 k2 : Kd} [hc : CaI M C c] [h : DA M [k2, k1] tk gk] : DN M (tMakeK C 0 2 (spI M c [k1, k2] f) rvK E tNil tk) (gRev2 f gk) := ⟨fun {pt F0 H0 z0 F o σ H ρ P Q} e q k =>
  h.run e q fun ds F1 H1 vs q1 x1 r1 => ⟨rfl, r1.length, fun x dx nx nd ne => ⟨pt, F1, H1, x, dx, vs.reverse, ds.reverse, P, rfl, (e.step x1).ok, nx, nd, ne, by rw [hc.ca], r1.rev2, q1, fun d F' H' p x2 r nf => ⟨rfl, k d F' H' x p (x1.trans x2) r (x1.nn nx) nf⟩⟩⟩⟩
instance {k1 k2 : Kd} [hc : CaI M C c] [h : DA M [k2, k1] tk gk] : DX M E (tMakeK C 0 2 (spIX M c [k1, k2] f) rvK E tNil tk) (gRev2 f gk) := ⟨fun {pt F0 H0 z0 F o σ H ρ P Q} e q k =>
  h.run e q fun ds F1 H1 vs q1 x1 r1 => ⟨rfl, r1.length, fun x dx nx nd ne => ⟨pt, F1, H1, x, dx, vs.reverse, ds.reverse, P, rfl, (e.step x1).ok, nx, nd, ne, by rw [hc.ca], r1.rev2, q1, fun c xs F' H' a p x2 xd => k c xs F' H' a p (x1.trans x2) xd⟩⟩⟩
end
/-! ### the promises of defs with a default, of classes -/
/-- a def with defaults -/
structure ClDf (P : Program) (w : World) (K : PySem.W.Frag) (mg : Str → Option Value) (base : Heap) (k : Nat) (x : Str) (sp : Sp) (dvs : List V) : Prop where
  ex : ∃ (f : Addr) (fd : FuncData) (ps : List Str) (ds : List Value), FnOk P w K mg base CX0 k f fd ps sp ∧ mg x = some (.ref f) ∧ PySem.W.keepIn K (.ref f) = true ∧ Binds K fd ps ds ∧ Vals dvs ds
structure ClDX (P : Program) (w : World) (K : PySem.W.Frag) (mg : Str → Option Value) (base : Heap) (k : Nat) (x : Str) (sp : Sp) (dvs : List V) : Prop where
  ex : ∃ (f : Addr) (fd : FuncData) (ps : List Str) (ds : List Value), FnOk P w K mg base (L2.CX P w) k f fd ps sp ∧ mg x = some (.ref f) ∧ PySem.W.keepIn K (.ref f) = true ∧ Binds K fd ps ds ∧ Vals dvs ds
/-- a class whose __init__ may be given keywords: as it lets pass, as it raises -/
structure MakK (P : Program) (w : World) (K : PySem.W.Frag) (mg : Str → Option Value) (base : Heap) (k : Nat) (x : Str) (C : Addr) (ks : List Str) (CX : CXT) (sp : Sp) : Prop where
  ex : ∃ (f : Addr) (fd : FuncData) (ps : List Str), Mk K C f ∧ FnOk P w K mg base CX k f fd ps sp ∧ mg x = some (.ref C) ∧ Binds K fd ps [] ∧ KBn K fd ps 1 ks (fun us ws => us ++ ws.reverse) (fun vs zs => vs ++ zs.reverse)
section
variable {X : Cx} {k j : Nat} {x : Str} {sp : Sp} {dvs : List V} {C : Addr} {p pos : Pos} {e : Expr} {es : List Expr} {t tk : TA} {kws : List Keyword} {ks : List Str} {W : WX} {E : XK}
theorem pe_cldD (c : ClDf X.prog X.w X.K X.mg X.base k x sp dvs) (hr : Room j X.A) (hk : k ≤ j) (hg : Gl X x) (ha : PA X (e :: es) t)
    (hdb : (x == ("__debug__" : Str)) = false := by decide) (he : starEach (e :: es) X.env = (false, eval e X.env) :: starEach es X.env := by rfl) (hpl : (backTo pos (starEach es X.env)).any (·.1) = false := by rfl) : PE X (.Call (.Name x p) (e :: es) [] pos) (tCall sp dvs E0 t) := by
  obtain ⟨f, fd, ps, ds, F, hm, kp, b, v⟩ := c.ex
  exact pe_call F (hr.mono hk) hg hm kp b v pass0 ha hdb he hpl
theorem pe_cldX (c : ClDX X.prog X.w X.K X.mg X.base k x sp dvs) (hr : Room j X.A) (hk : k ≤ j) (tk : Takes X W) (hg : Gl X x) (ha : PA X (e :: es) t)
    (hdb : (x == ("__debug__" : Str)) = false := by decide) (he : starEach (e :: es) X.env = (false, eval e X.env) :: starEach es X.env := by rfl) (hpl : (backTo pos (starEach es X.env)).any (·.1) = false := by rfl) : PE X (.Call (.Name x p) (e :: es) [] pos) (tCallSD sp dvs (WE W) t) := by
  obtain ⟨f, fd, ps, ds, F, hm, kp, b, v⟩ := c.ex
  exact pe_callSD F (hr.mono hk) hg hm kp b v (fun σ => passAt tk σ) ha hdb he hpl
theorem pe_mkX (c : MakK X.prog X.w X.K X.mg X.base k x C ks (L2.CX X.prog X.w) sp) (hr : Room j X.A) (hk : k + 1 ≤ j) (tk : Takes X (fun cls d _ H => E cls d H)) (hg : Gl X x) (ha : PA X (e :: es) t)
    (hdb : (x == ("__debug__" : Str)) = false := by decide) (he : starEach (e :: es) X.env = (false, eval e X.env) :: starEach es X.env := by rfl) (hpl : (backTo pos (starEach es X.env)).any (·.1) = false := by rfl) : PE X (.Call (.Name x p) (e :: es) [] pos) (tMake C sp [] E t) := by
  obtain ⟨f, fd, ps, M, F, hm, b, _⟩ := c.ex
  exact pe_make M F (hr.mono hk) hg hm b .nil (passes_call tk fun _ _ _ _ h => h) ha hdb he hpl
theorem pe_mk0 (c : MakK X.prog X.w X.K X.mg X.base k x C ks CX0 sp) (hr : Room j X.A) (hk : k + 1 ≤ j) (hg : Gl X x) (ha : PA X (e :: es) t)
    (hdb : (x == ("__debug__" : Str)) = false := by decide) (he : starEach (e :: es) X.env = (false, eval e X.env) :: starEach es X.env := by rfl) (hpl : (backTo pos (starEach es X.env)).any (·.1) = false := by rfl) : PE X (.Call (.Name x p) (e :: es) [] pos) (tMake C sp [] E0 t) := by
  obtain ⟨f, fd, ps, M, F, hm, b, _⟩ := c.ex
  exact pe_make M F (hr.mono hk) hg hm b .nil pass0 ha hdb he hpl
theorem pe_mkXK (c : MakK X.prog X.w X.K X.mg X.base k x C ks (L2.CX X.prog X.w) sp) (hr : Room j X.A) (hk : k + 1 ≤ j) (tk0 : Takes X (fun cls d _ H => E cls d H)) (hg : Gl X x) (hkw : PK X kws tk) (hn : ks.length = 2)
    (hall : (backToKw pos (keywordEach kws X.env)).all (·.1.isSome) = true := by rfl) (hks : (backToKw pos (keywordEach kws X.env)).filterMap (·.1) = ks := by rfl) (hdb : (x == ("__debug__" : Str)) = false := by decide)
    (hpl : ((backTo pos (starEach [] X.env)).any (·.1) || (backToKw pos (keywordEach kws X.env)).any (·.1.isNone)) = false := by rfl) : PE X (.Call (.Name x p) [] kws pos) (tMakeK C 0 2 sp rvK E tNil tk) := by
  obtain ⟨f, fd, ps, M, F, hm, _, b⟩ := c.ex
  have := pe_makeK0 (p := p) (pos := pos) M F (hr.mono hk) hg hm b (passes_call tk0 fun _ _ _ _ h => h) hkw hall hks hdb hpl
  rw [hn] at this
  exact this
theorem pe_mk0K (c : MakK X.prog X.w X.K X.mg X.base k x C ks CX0 sp) (hr : Room j X.A) (hk : k + 1 ≤ j) (hg : Gl X x) (hkw : PK X kws tk) (hn : ks.length = 2)
    (hall : (backToKw pos (keywordEach kws X.env)).all (·.1.isSome) = true := by rfl) (hks : (backToKw pos (keywordEach kws X.env)).filterMap (·.1) = ks := by rfl) (hdb : (x == ("__debug__" : Str)) = false := by decide)
    (hpl : ((backTo pos (starEach [] X.env)).any (·.1) || (backToKw pos (keywordEach kws X.env)).any (·.1.isNone)) = false := by rfl) : PE X (.Call (.Name x p) [] kws pos) (tMakeK C 0 2 sp rvK E0 tNil tk) := by
  obtain ⟨f, fd, ps, M, F, hm, _, b⟩ := c.ex
  have := pe_makeK0 (p := p) (pos := pos) M F (hr.mono hk) hg hm b pass0 hkw hall hks hdb hpl
  rw [hn] at this
  exact this
end
/-! ### an __init__ that raises -/
section
variable {P : Program} {w : World} {K : PySem.W.Frag} {mg : Str → Option Value} {base : Heap} {M : Cm} {x qual : Str} {st : Stmt} {f : Addr} {fd : FuncData} {N ps : List Str} {k : Nat} {ks : List Kd} {fn : List D → (D → Prop) → Prop}
theorem en_init {c : Nat} {pt F : Addr → Prop} {H1 : Hp} {x dx : Addr} {us : List V} {ds : List D} (ok : Ok M pt F H1) (nx : H1 x = none) (nd : H1 dx = none) (ne : dx ≠ x) (r : RA M pt F H1 ks us ds) :
    En M pt F H1 ⟨x, []⟩ F ⟨fun _ => x, fun _ => []⟩ (L2.start N (.ref x :: us)) (upd (upd H1 dx (.own x)) x (.ins (M.ca c) dx [])) (.own (.ob c []) :: rho0 ks ds (N.length - (ks.length + 1))) := by
  have x1 := Ext.put0 (F := F) ok (o := .own x) nd
  have nx2 : upd H1 dx (.own x) x = none := by rw [upd_ne ne.symm]; exact nx
  have x2 := x1.trans (Ext.put0 (F := F) (ok.ext x1) (o := .ins (M.ca c) dx []) nx2)
  have rr := r.ext ok x2
  have e0 := en_start (N := N.drop 1) (ok.ext x2) rr
  have hl : (L2.start N (.ref x :: us)).length = (Sl.own (.ob c []) :: rho0 ks ds (N.length - (ks.length + 1))).length := by
    have h1 := startR_len rr
    have h2 := rr.length
    unfold L2.start rho0
    simp only [List.length_cons, List.length_append, List.length_map, List.length_replicate, h1, h2]
    omega
  have sl : ∀ i s, (rho0 ks ds (N.length - (ks.length + 1)))[i]? = some s → NoOw s ∧ (s = .no ∨ SlOk M pt F H1 ⟨fun _ => x, fun _ => []⟩ (L2.start N (.ref x :: us)) (upd (upd H1 dx (.own x)) x (.ins (M.ca c) dx [])) (i + 1) s) := fun i s h => by
    unfold rho0 at h
    by_cases hi : i < (startR ks ds).length
    · rw [List.getElem?_append_left hi] at h
      refine ⟨startR_no h, .inr ?_⟩
      have q := startR_at (rest := List.replicate (N.length - (us.length + 1)) none) (o := ⟨fun _ => x, fun _ => []⟩) r h
      cases s with
      | no => trivial
      | d y => exact let ⟨v, a, b⟩ := q; ⟨v, a, b.ext ok x2⟩
      | b y => exact let ⟨v, a, b, n⟩ := q; ⟨v, a, b.ext ok x2, n⟩
      | own y => exact absurd (startR_no h ⟨fun _ => 0, fun _ => []⟩ 0) (fun z => nomatch z)
      | own2 y => exact absurd (startR_no h ⟨fun _ => 0, fun _ => []⟩ 0) (fun z => nomatch z)
      | kset P' w' l => exact absurd (startR_no h ⟨fun _ => 0, fun _ => []⟩ 0) (fun z => nomatch z)
      | pot => exact q
      | raw y => exact q
      | exc c ys a dd => exact let ⟨h1, h2, vs, h3, h4, h5⟩ := q; ⟨h1, h2, vs, x2.same _ _ rfl h2 h3, h4, h5.ext ok x2⟩
    · rw [List.getElem?_append_right (by omega), List.getElem?_replicate] at h
      split at h
      · cases h; exact ⟨fun _ _ => rfl, .inl rfl⟩
      · cases h
  refine ⟨ok, x2, hl, fun i s h => ?_, fun i j u h1 h2 => ?_, rfl, fun _ h => nomatch h⟩
  · cases i with
    | zero =>
      cases h
      exact ⟨rfl, ⟨x, dx, [], rfl, ok.not_pt nx, by rw [upd_same]; simp, Nat.zero_le _, .nil⟩, .of nx, fun z => (ok.liv x z).ne nx⟩
    | succ i =>
      rcases (sl i s h).2 with z | z
      · subst z; trivial
      · exact z
  · have no : ∀ {i : Nat} {u : Addr}, u ∈ owl ⟨fun _ => x, fun _ => []⟩ (Sl.own (.ob c []) :: rho0 ks ds (N.length - (ks.length + 1))) i → i = 0 := fun {i u} h => by
      cases i with
      | zero => rfl
      | succ i =>
        obtain ⟨s, hs, h⟩ := owl_mem h
        rw [(sl i s hs).1] at h
        cases h
    rw [no h1, no h2]
theorem okIX {c : Nat} (F : Fun K x qual st f fd) (S : FnScope N ps (defScope st)) (hk : ks.length + 1 = ps.length)
    (hb : ∀ (cdv : Value) (A : Around) (outer : List Env) (s : Shared) (H : Hp) (E : XK), Room k (A.deeper (envOfC qual (defScope st) s.heap.objs.size f cdv)) →
      ∃ t g, PSs (cxOf (L2.CX P w) P w K mg base N qual (defScope st) f cdv A outer s H E) (defBody st) t ∧ DS M (.exc E) t g ∧ ∀ ds P, fn ds P → g { nx := fun _ => False, rt := P } (.own (.ob c []) :: rho0 ks ds (N.length - (ks.length + 1)))) : FnOk P w K mg base (L2.CX P w) (k + 1) f fd ps (spIX M c ks fn) := by
  refine F.okX S (fun vs H Q E h => ?_) (fun cdv A outer s H vs Q E hr h => ?_)
  · obtain ⟨pt, F, H1, x, dx, us, ds, P, rfl, _, _, _, _, _, r, _⟩ := h
    rw [List.length_cons, r.length, hk]
  · obtain ⟨pt, F, H1, x, dx, us, ds, P', rfl, ok, nx, nd, ne, rfl, r, hf, kk⟩ := h
    obtain ⟨t, g, hp, hd, hg⟩ := hb cdv A outer s _ E hr
    exact ⟨t, hp, hd.run (δ := { nx := fun _ => False, rt := P' }) (en_init ok nx nd ne r) ⟨fun _ _ _ _ _ _ _ q => q.elim, fun _ _ _ _ _ _ _ q => q.elim, fun _ _ _ _ _ _ _ q => q.elim, fun F' H' a c ds x xd p => kk c ds F' H' a p x xd⟩ (hg ds P' hf)⟩
end
end Dl

set_option synthInstance.maxSize 100000
set_option synthInstance.maxHeartbeats 0
namespace K11
open PySem PySem.Spec PyProof.Rows L2 Xv Cr TL Dl
/-! ### data of any kind, as the program looks at it -/
def NoOb (d : D) : Prop := ∀ c xs, d ≠ .ob c xs
def isIB : D → Bool
  | .int _ => true
  | .bl _ => true
  | _ => false
def isBl : D → Bool
  | .bl _ => true
  | _ => false
def isI : D → Bool
  | .int _ => true
  | _ => false
def isS : D → Bool
  | .str _ => true
  | _ => false
def isT : D → Bool
  | .tup _ => true
  | _ => false
def isDc : D → Bool
  | .dic _ => true
  | _ => false
def isLT : D → Bool
  | .lst _ => true
  | .tup _ => true
  | _ => false
section
variable {K : PySem.W.Frag} {M : Cm} {d : D}
theorem obc_no (h : NoOb d) : ObC M K d := by
  cases d <;> first | trivial | exact absurd rfl (h _ _)
theorem kit_int (h : NoOb d) : PySem.W.kitOne K (tyD M d) (.type "int") = some (isIB d) := by
  cases d <;> first | exact kit_ty (by kernel_rfl) | exact absurd rfl (h _ _)
theorem kit_bool (h : NoOb d) : PySem.W.kitOne K (tyD M d) (.type "bool") = some (isBl d) := by
  cases d <;> first | exact kit_ty (by kernel_rfl) | exact absurd rfl (h _ _)
theorem kit_str (h : NoOb d) : PySem.W.kitOne K (tyD M d) (.type "str") = some (isS d) := by
  cases d <;> first | exact kit_ty (by kernel_rfl) | exact absurd rfl (h _ _)
theorem kit_tup (h : NoOb d) : PySem.W.kitOne K (tyD M d) (.type "tuple") = some (isT d) := by
  cases d <;> first | exact kit_ty (by kernel_rfl) | exact absurd rfl (h _ _)
theorem kit_dict (h : NoOb d) : PySem.W.kitOne K (tyD M d) (.type "dict") = some (isDc d) := by
  cases d <;> first | exact kit_ty (by kernel_rfl) | exact absurd rfl (h _ _)
theorem kit_lt (h : NoOb d) : PySem.W.kitAny K (tyD M d) [.type "list", .type "tuple"] = some (isLT d) := by
  cases d <;> first | exact absurd rfl (h _ _) | kernel_rfl
end
/-- whether a def says so of any data -/
def fOf (g : D → Bool) : List D → (D → Prop) → Prop := fun ds P => ∃ d, ds = [d] ∧ NoOb d ∧ P (.bl (g d))
def inB (lo hi : Int) : D → Bool
  | .int i => decide (lo ≤ i) && decide (i ≤ hi)
  | _ => false
def fFrom : List D → (D → Prop) → Prop := fun ds P => ∃ d lo hi, ds = [d, .int lo, .int hi] ∧ NoOb d ∧ P (.bl (inB lo hi d))
def fullB : D → Bool
  | .lst xs => decide (0 < xs.length)
  | .tup xs => decide (0 < xs.length)
  | _ => false
def fFull : List D → (D → Prop) → Prop := fun ds P => ∃ d, ds = [d] ∧ NoOb d ∧ (∀ xs, itemsD d = some xs → xs.length ≤ 1000) ∧ P (.bl (fullB d))
def nameB : D → Bool
  | .str z => decide (1 ≤ z.length) && decide (z.length ≤ 8) && z.cps.toList.all fun c => decide (c ∈ sgn.cps.toList)
  | _ => false
def fName : List D → (D → Prop) → Prop := fun ds P => ∃ d, ds = [d] ∧ NoOb d ∧ (∀ z, d = .str z → z.length ≤ 1000) ∧ P (.bl (nameB d))
def ansB : D → Bool := inB 0 9
def entB (n : Int) : D → Bool
  | .tup [a, b] => ansB a && inB 0 (n - 1) b
  | _ => false
def fEnt : List D → (D → Prop) → Prop := fun ds P => ∃ d n, ds = [d, .int n] ∧ NoOb d ∧ (∀ xs, d = .tup xs → xs.length ≤ 1000 ∧ ∀ x ∈ xs, NoOb x) ∧ P (.bl (entB n d))
abbrev s_gint : Stmt := top 15
abbrev N_gint : List Str := ["value"]
theorem sc_gint : FnScope N_gint ["value"] (defScope s_gint) := ⟨rfl, rfl, rfl, by decide +kernel, rfl, by decide +kernel, by decide +kernel⟩
section
variable {P : Program} {w : World} {K : PySem.W.Frag} {mg : Str → Option Value} {base : Heap} {M : Cm} {Ct CD CR f : Addr} {fd : FuncData}
theorem okd_gint (F : Fun K "is_integer" "is_integer" s_gint f fd) (T : Bl mg)   : FnOk P w K mg base CX0 1 f fd ["value"] (spD M [.bor] (fOf isI)) := by
  refine okD0 F sc_gint rfl fun cdv A outer s H E hr => ⟨_, _, (pss_one (ps_ret (pe_and (pe_callB (id := "isinstance") call_isi (by rfl) T.isinstance (by decide +kernel) (pa_cons (pv 0) (pa_cons (pe_bltn (v := .ty "int") (by rfl) T.int (by decide +kernel) rfl) pa_nil))) (pe_one (pe_not (pe_callB (id := "isinstance") call_isi (by rfl) T.isinstance (by decide +kernel) (pa_cons (pv 0) (pa_cons (pe_bltn (v := .ty "bool") (by rfl) T.bool (by decide +kernel) rfl) pa_nil)))))))), inferInstance, fun ds Q h => ?_⟩
  obtain ⟨d, rfl, no, q⟩ := h
  refine ⟨obc_no no, _, kit_int no, ?_⟩
  have q2 : ∀ b : Bool, (b = isIB d) → if b = true then Q (.bl (!isBl d)) else Q (.bl b) := fun b e => by
    subst e
    cases d <;> exact q
  have := q2 _ rfl
  dsimp only
  split at this
  · rename_i z
    rw [z]
    exact ⟨obc_no no, _, kit_bool no, this⟩
  · rename_i z
    rw [Bool.not_eq_true _ |>.mp z] at this ⊢
    exact this

end
abbrev s_gfrom : Stmt := top 16
abbrev N_gfrom : List Str := ["value", "low", "high"]
theorem sc_gfrom : FnScope N_gfrom ["value", "low", "high"] (defScope s_gfrom) := ⟨rfl, rfl, rfl, by decide +kernel, rfl, by decide +kernel, by decide +kernel⟩
section
variable {P : Program} {w : World} {K : PySem.W.Frag} {mg : Str → Option Value} {base : Heap} {M : Cm} {Ct CD CR f : Addr} {fd : FuncData}
theorem okd_gfrom (F : Fun K "is_integer_from" "is_integer_from" s_gfrom f fd) (T : Bl mg) (d_gint : Xv.Cl P w K mg base 1 "is_integer" (spD M [.bor] (fOf isI)))  : FnOk P w K mg base CX0 2 f fd ["value", "low", "high"] (spD M [.bor, .bor, .bor] fFrom) := by
  refine okD0 F sc_gfrom rfl fun cdv A outer s H E hr => ⟨_, _, (pss_one (ps_ret (pe_and (pe_cl d_gint hr (by decide) (by rfl) (pa_cons (pv 0) pa_nil)) (pe_one (pe_chain op_le op_le (pv 1) (pv 0) (pv 2)))))), inferInstance, fun ds Q h => ?_⟩
  obtain ⟨d, lo, hi, rfl, no, q⟩ := h
  refine ⟨d, rfl, no, ?_⟩
  cases d with
  | int i =>
    refine ⟨_, rfl, ?_⟩
    by_cases z : lo ≤ i
    · rw [if_pos (decide_eq_true z)]
      have : inB lo hi (.int i) = decide (i ≤ hi) := by show (decide (lo ≤ i) && decide (i ≤ hi)) = _; rw [decide_eq_true z, Bool.true_and]
      rw [this] at q
      exact q
    · rw [if_neg (by simp [z])]
      have : inB lo hi (.int i) = false := by show (decide (lo ≤ i) && decide (i ≤ hi)) = _; rw [decide_eq_false z, Bool.false_and]
      rw [this] at q
      exact q
  | ob c xs => exact absurd rfl (no _ _)
  | _ => exact q

end
abbrev s_glist : Stmt := top 17
abbrev N_glist : List Str := ["value"]
theorem sc_glist : FnScope N_glist ["value"] (defScope s_glist) := ⟨rfl, rfl, rfl, by decide +kernel, rfl, by decide +kernel, by decide +kernel⟩
section
variable {P : Program} {w : World} {K : PySem.W.Frag} {mg : Str → Option Value} {base : Heap} {M : Cm} {Ct CD CR f : Addr} {fd : FuncData}
theorem okd_glist (F : Fun K "is_list" "is_list" s_glist f fd) (T : Bl mg)   : FnOk P w K mg base CX0 1 f fd ["value"] (spD M [.bor] (fOf isLT)) := by
  refine okD0 F sc_glist rfl fun cdv A outer s H E hr => ⟨_, _, (pss_one (ps_ret (pe_callB (id := "isinstance") call_isiT (by rfl) T.isinstance (by decide +kernel) (pa_cons (pv 0) (pa_cons (pe_tup (pa_cons (pe_bltn (v := .ty "list") (by rfl) T.list (by decide +kernel) rfl) (pa_cons (pe_bltn (v := .ty "tuple") (by rfl) T.tuple (by decide +kernel) rfl) pa_nil))) pa_nil))))), inferInstance, fun ds Q h => ?_⟩
  obtain ⟨d, rfl, no, q⟩ := h
  exact ⟨obc_no no, by show 2 ≤ 1000; decide, _, kit_lt no, q⟩

end
abbrev s_gfull : Stmt := top 18
abbrev N_gfull : List Str := ["value"]
theorem sc_gfull : FnScope N_gfull ["value"] (defScope s_gfull) := ⟨rfl, rfl, rfl, by decide +kernel, rfl, by decide +kernel, by decide +kernel⟩
section
variable {P : Program} {w : World} {K : PySem.W.Frag} {mg : Str → Option Value} {base : Heap} {M : Cm} {Ct CD CR f : Addr} {fd : FuncData}
theorem okd_gfull (F : Fun K "is_filled_list" "is_filled_list" s_gfull f fd) (T : Bl mg) (d_glist : Xv.Cl P w K mg base 1 "is_list" (spD M [.bor] (fOf isLT)))  : FnOk P w K mg base CX0 2 f fd ["value"] (spD M [.bor] fFull) := by
  refine okD0 F sc_gfull rfl fun cdv A outer s H E hr => ⟨_, _, (pss_one (ps_ret (pe_and (pe_cl d_glist hr (by decide) (by rfl) (pa_cons (pv 0) pa_nil)) (pe_one (pe_cmpR op_gt (pe_callB (id := "len") (call_lnA) (by rfl) T.len (by decide +kernel) (pa_cons (pv 0) pa_nil)) pe_int (nomark _)))))), inferInstance, fun ds Q h => ?_⟩
  obtain ⟨d, rfl, no, hl, q⟩ := h
  refine ⟨d, rfl, no, ?_⟩
  have gt : ∀ n : Nat, decide ((0 : Int) < (n : Int)) = decide (0 < n) := fun n => decide_eq_decide.mpr (by omega)
  cases d with
  | lst xs =>
    have := hl xs rfl
    refine ⟨_, _, rfl, rfl, by omega, ?_⟩
    show Q (.bl (decide ((0 : Int) < ((xs.length : Nat) : Int))))
    rw [gt]
    exact q
  | tup xs =>
    have := hl xs rfl
    refine ⟨_, _, rfl, rfl, by omega, ?_⟩
    show Q (.bl (decide ((0 : Int) < ((xs.length : Nat) : Int))))
    rw [gt]
    exact q
  | ob c xs => exact absurd rfl (no _ _)
  | _ => exact q

end
abbrev s_gans : Stmt := top 20
abbrev N_gans : List Str := ["value"]
theorem sc_gans : FnScope N_gans ["value"] (defScope s_gans) := ⟨rfl, rfl, rfl, by decide +kernel, rfl, by decide +kernel, by decide +kernel⟩
section
variable {P : Program} {w : World} {K : PySem.W.Frag} {mg : Str → Option Value} {base : Heap} {M : Cm} {Ct CD CR f : Addr} {fd : FuncData}
theorem okd_gans (F : Fun K "is_answer" "is_answer" s_gans f fd) (T : Bl mg) (d_gfrom : Xv.Cl P w K mg base 2 "is_integer_from" (spD M [.bor, .bor, .bor] fFrom)) (C : Cn mg) : FnOk P w K mg base CX0 3 f fd ["value"] (spD M [.bor] (fOf ansB)) := by
  refine okD0 F sc_gans rfl fun cdv A outer s H E hr => ⟨_, _, (pss_one (ps_ret (pe_cl d_gfrom hr (by decide) (by rfl) (pa_cons (pv 0) (pa_cons pe_int (pa_cons (pe_glob (v := .int 9) (by rfl) C.answer.choose_spec ⟨_, rfl⟩) pa_nil)))))), inferInstance, fun ds Q h => ?_⟩
  obtain ⟨d, rfl, no, q⟩ := h
  exact ⟨d, 0, 9, rfl, no, q⟩

end
abbrev s_gname : Stmt := top 19
abbrev N_gname : List Str := ["value", "letter"]
theorem sc_gname : FnScope N_gname ["value"] (defScope s_gname) := ⟨rfl, rfl, rfl, by decide +kernel, rfl, by decide +kernel, by decide +kernel⟩
section
variable {P : Program} {w : World} {K : PySem.W.Frag} {mg : Str → Option Value} {base : Heap} {M : Cm} {Ct CD CR f : Addr} {fd : FuncData}
theorem okd_gname (F : Fun K "is_name" "is_name" s_gname f fd) (T : Bl mg)  (C : Cn mg) : FnOk P w K mg base CX0 1 f fd ["value"] (spD M [.full] fName) := by
  refine okD0 F sc_gname rfl fun cdv A outer s H E hr => ⟨_, _, (pss_cons (ps_if (PW.pt (pw_or (pt_not (pt_val (pe_callB (id := "isinstance") call_isi (by rfl) T.isinstance (by decide +kernel) (pa_cons (pv 0) (pa_cons (pe_bltn (v := .ty "str") (by rfl) T.str (by decide +kernel) rfl) pa_nil))))) (pw_or1 (pt_not (pt_chain op_le op_le pe_int (pe_callB (id := "len") (call_lnA) (by rfl) T.len (by decide +kernel) (pa_cons (pv 0) pa_nil)) (pe_glob (v := .int 8) (by rfl) C.longest.choose_spec ⟨_, rfl⟩)))))) (pss_one (ps_ret pe_bl)) pss_nil)
  (pss_one (ps_ret (pe_callB (id := "all") (cr_all rfl) (by rfl) T.all (by decide +kernel) (pa_cons (pe_lc (own := [("letter", 1)]) (g := gName 1) (tt := tYes) (te := tOp rSgnD (tVar 1) (tC (.str sgn))) rfl sc_gname.nd (pi_str (pv 0)) (blkOk_by (N := N_gname) (sc := defScope s_gname) (by decide +kernel)) (fun _ _ _ _ _ => (pg_name (i := 1) sc_gname.nd rfl (Or.inl rfl))) (fun _ _ _ _ _ => pts_nil) (fun _ _ _ _ _ => (pe_cmpR op_in_sign (pv 1) (pe_glob (v := .str sgn) (by rfl) C.letters.choose_spec ⟨_, rfl⟩) (by rfl)))) pa_nil))))), inferInstance, fun ds Q h => ?_⟩
  obtain ⟨d, rfl, no, hl, q⟩ := h
  refine ⟨obc_no no, _, kit_str no, ?_⟩
  cases d with
  | str z =>
    have hz := hl z rfl
    refine ⟨_, _, rfl, rfl, by omega, _, rfl, ?_⟩
    by_cases h1 : 1 ≤ z.length
    · rw [if_pos (by rw [decide_eq_true_eq]; omega)]
      show if (!decide ((z.length : Int) ≤ 8)) = true then Q (.bl false) else _
      by_cases h8 : z.length ≤ 8
      · rw [if_neg (by rw [decide_eq_true (show (z.length : Int) ≤ 8 by omega)]; decide)]
        refine ⟨z, rfl, by decide, by unfold signsD; rw [List.length_map, Array.length_toList]; have : z.cps.size ≤ 1000 := hz; omega, ?_⟩
        refine lcGo_map (h := fun c => D.bl (decide (c ∈ sgn.cps.toList))) (fun c hc k hk => ⟨c, sgn, rfl, rfl, hk⟩) ?_
        have : nameB (.str z) = z.cps.toList.all fun c => decide (c ∈ sgn.cps.toList) := by show (decide (1 ≤ z.length) && decide (z.length ≤ 8) && _) = _; rw [decide_eq_true h1, decide_eq_true h8, Bool.true_and, Bool.true_and]
        rw [this] at q
        rw [List.nil_append]
        refine ⟨_, z.cps.toList.map fun c => decide (c ∈ sgn.cps.toList), rfl, ?_, ?_⟩
        · have := bools_map (z.cps.toList.map fun c => decide (c ∈ sgn.cps.toList))
          rw [List.map_map] at this
          exact this
        · rw [List.all_map]
          exact q
      · rw [if_pos (by rw [decide_eq_false (show ¬ (z.length : Int) ≤ 8 by omega)]; decide)]
        have : nameB (.str z) = false := by show (decide (1 ≤ z.length) && decide (z.length ≤ 8) && _) = false; rw [decide_eq_false h8, Bool.and_false, Bool.false_and]
        rw [this] at q
        exact q
    · rw [if_neg (by rw [decide_eq_true_eq]; omega)]
      have : nameB (.str z) = false := by show (decide (1 ≤ z.length) && decide (z.length ≤ 8) && _) = false; rw [decide_eq_false h1, Bool.false_and, Bool.false_and]
      rw [this] at q
      exact q
  | ob c xs => exact absurd rfl (no _ _)
  | _ => exact q

end
abbrev s_gent : Stmt := top 21
abbrev N_gent : List Str := ["value", "states"]
theorem sc_gent : FnScope N_gent ["value", "states"] (defScope s_gent) := ⟨rfl, rfl, rfl, by decide +kernel, rfl, by decide +kernel, by decide +kernel⟩
section
variable {P : Program} {w : World} {K : PySem.W.Frag} {mg : Str → Option Value} {base : Heap} {M : Cm} {Ct CD CR f : Addr} {fd : FuncData}
theorem okd_gent (F : Fun K "is_entry" "is_entry" s_gent f fd) (T : Bl mg) (d_gans : Xv.Cl P w K mg base 3 "is_answer" (spD M [.bor] (fOf ansB))) (d_gfrom : Xv.Cl P w K mg base 2 "is_integer_from" (spD M [.bor, .bor, .bor] fFrom))  : FnOk P w K mg base CX0 4 f fd ["value", "states"] (spD M [.bor, .bor] fEnt) := by
  refine okD0 F sc_gent rfl fun cdv A outer s H E hr => ⟨_, _, (pss_cons (ps_if (PW.pt (pw_or (pt_not (pt_val (pe_callB (id := "isinstance") call_isi (by rfl) T.isinstance (by decide +kernel) (pa_cons (pv 0) (pa_cons (pe_bltn (v := .ty "tuple") (by rfl) T.tuple (by decide +kernel) rfl) pa_nil))))) (pw_or1 (pt_cmpR op_ne (pe_callB (id := "len") (call_ln) (by rfl) T.len (by decide +kernel) (pa_cons (pv 0) pa_nil)) pe_int (nomark _))))) (pss_one (ps_ret pe_bl)) pss_nil)
  (pss_one (ps_ret (pe_and (pe_cl d_gans hr (by decide) (by rfl) (pa_cons (pe_ix ix_tup (pv 0) pe_int (fun _ _ => rfl)) pa_nil)) (pe_one (pe_cl d_gfrom hr (by decide) (by rfl) (pa_cons (pe_ix ix_tup (pv 0) pe_int (fun _ _ => rfl)) (pa_cons pe_int (pa_cons (pe_op op_sub (pv 1) pe_int) pa_nil))))))))), inferInstance, fun ds Q h => ?_⟩
  obtain ⟨d, n, rfl, no, hl, q⟩ := h
  refine ⟨obc_no no, _, kit_tup no, ?_⟩
  cases d with
  | tup xs =>
    obtain ⟨h1, h2⟩ := hl xs rfl
    match xs, h1, h2, q with
    | [a, b], h1, h2, q =>
      have ha := h2 a List.mem_cons_self
      have hb := h2 b (List.mem_cons_of_mem _ List.mem_cons_self)
      refine ⟨_, _, _, rfl, rfl, rfl, a, rfl, ha, ?_⟩
      by_cases z : ansB a = true
      · show if ansB a = true then _ else _
        rw [if_pos z]
        refine ⟨_, _, _, rfl, rfl, rfl, b, 0, n - 1, rfl, hb, ?_⟩
        have : entB n (.tup [a, b]) = inB 0 (n - 1) b := by show (ansB a && inB 0 (n - 1) b) = _; rw [z, Bool.true_and]
        rw [this] at q
        exact q
      · show if ansB a = true then _ else Q (.bl false)
        rw [if_neg z]
        have e : ansB a = false := by simpa using z
        have : entB n (.tup [a, b]) = false := by show (ansB a && inB 0 (n - 1) b) = _; rw [e, Bool.false_and]
        rw [this] at q
        exact q
    | [], _, _, q => exact q
    | [_], _, _, q => exact q
    | _ :: _ :: _ :: r, h1, h2, q =>
      exact q
  | ob c xs => exact absurd rfl (no _ _)
  | _ => exact q

end
end K11

/-! Data logic, part 24: powers; bounds of what repr shows -/
namespace Dl
open PySem PySem.Spec PyProof.Rows L2 Xv Cr
abbrev rPowI : R2 := rI CPow fun i j => V.int (i ^ j.toNat)
section
variable {M : Cm}
instance : D2 M rPowI (fIc CPow fun i j => .int (i ^ j.toNat)) := run_I fun _ _ _ _ => .int _
end
/-! ### a lambda handed to a def that calls it -/
theorem pe_heardX {X : Cx} {M : Cm} {f : D → (D → Prop) → Prop} {x a q : Str} {k j : Nat} {fd : FuncData} {cdv : Value} {params : Arguments} {body : Expr} {scope : Scope} {t : XK → TE} {p lpos pos : Pos} (c : HeardC X.prog X.w X.K X.mg X.base j x a (TTX M f)) (lm : LamM X.base X.mg M.T fd q) (hc : fd.code = cdv) (hr : Room (k + 2) X.A) (hj : j ≤ k + 1) (hgd : X.A.guards = some []) (hg : Gl X x) (hcode : X.env.code = cdv) (hq : X.env.qual ++ "<lambda>" = q) (L : LamX.LamS X.env.scope scope) (hdef : defaultsOf params X.env = ([], []))
    (hbind : ∀ (q : Str) (cl : List (Str × Addr)) (pm cv ctv : Value), bindArgs (PySem.W.kla_fn "<lambda>" q params body scope cl pm cv ctv) ⟨[], []⟩ = pure [])
    (hbody : ∀ (A : Around) (outer : List Env) (s : Shared) (H : Hp) (E : XK) (f c' : Addr), Room k (A.deeper (LamX.lamEnv X scope s.heap.objs.size f c')) → PE (LamX.lamCx X A outer s H E scope f c') body (t E))
    (hdb : (x == ("__debug__" : Str)) = false := by decide) (hd : (a == ("__debug__" : Str)) = false := by decide) (hcd : (a == ("__classdict__" : Str)) = false := by decide) : PE X (.Call (.Name x p) [.Lambda params body scope lpos] [] pos) (tLamX M f t) :=
  pe_heard c lm hc hr hj hgd hg hcode hq L hdef hbind hbody hdb hd hcd
theorem pe_heardR {X : Cx} {M : Cm} {f : (D → Prop) → Prop} {x a q : Str} {k j : Nat} {fd : FuncData} {cdv : Value} {params : Arguments} {body : Expr} {scope : Scope} {t : XK → TE} {p lpos pos : Pos} (c : HeardC X.prog X.w X.K X.mg X.base j x a (TTR M f)) (lm : LamM X.base X.mg M.T fd q) (hc : fd.code = cdv) (hr : Room (k + 2) X.A) (hj : j ≤ k + 1) (hgd : X.A.guards = some []) (hg : Gl X x) (hcode : X.env.code = cdv) (hq : X.env.qual ++ "<lambda>" = q) (L : LamX.LamS X.env.scope scope) (hdef : defaultsOf params X.env = ([], []))
    (hbind : ∀ (q : Str) (cl : List (Str × Addr)) (pm cv ctv : Value), bindArgs (PySem.W.kla_fn "<lambda>" q params body scope cl pm cv ctv) ⟨[], []⟩ = pure [])
    (hbody : ∀ (A : Around) (outer : List Env) (s : Shared) (H : Hp) (E : XK) (f c' : Addr), Room k (A.deeper (LamX.lamEnv X scope s.heap.objs.size f c')) → PE (LamX.lamCx X A outer s H E scope f c') body (t E))
    (hdb : (x == ("__debug__" : Str)) = false := by decide) (hd : (a == ("__debug__" : Str)) = false := by decide) (hcd : (a == ("__classdict__" : Str)) = false := by decide) : PE X (.Call (.Name x p) [.Lambda params body scope lpos] [] pos) (tLamR M f t) :=
  pe_heard c lm hc hr hj hgd hg hcode hq L hdef hbind hbody hdb hd hcd
/-! ### defs with defaults -/
section
variable {P : Program} {w : World} {K : PySem.W.Frag} {mg : Str → Option Value} {base : Heap} {M : Cm} {x qual : Str} {st : Stmt} {f : Addr} {fd : FuncData} {N ps : List Str} {k : Nat} {ks : List Kd} {fn : List D → (D → Prop) → Prop} {dvs : List V}
theorem okD0D (F : FunD K x qual (defArgs st) (defBody st) (defScope st) dvs [] f fd) (S : FnScope N ps (defScope st)) (hk : ks.length = ps.length)
    (hb : ∀ (cdv : Value) (A : Around) (outer : List Env) (s : Shared) (H : Hp) (E : XK), Room k (A.deeper (envOfC qual (defScope st) s.heap.objs.size f cdv)) →
      ∃ t g, PSs (cxOf CX0 P w K mg base N qual (defScope st) f cdv A outer s H E).nox (defBody st) t ∧ DS M .fixed t g ∧ ∀ ds P, fn ds P → g { nx := fun _ => P .non, rt := P } (rho0 ks ds (N.length - ks.length))) : FnOk P w K mg base CX0 (k + 1) f fd ps (spD M ks fn) := by
  refine F.ok S (fun vs H Q E h => ?_) (fun cdv A outer s H vs Q E hr h => ?_)
  · obtain ⟨pt, F, ds, P, _, r, _⟩ := h
    rw [r.length, hk]
  · obtain ⟨pt, F, ds, P', ok, r, hf, kk⟩ := h
    obtain ⟨t, g, hp, hd, hg⟩ := hb cdv A outer s H E hr
    exact ⟨t, hp.nox, hd.run (δ := { nx := fun _ => P' .non, rt := P' }) (en_start ok r) ⟨fun F' o' σ' H' ρ' e' _ q => kk .non F' H' .non q e'.ext .non, fun _ _ _ _ _ _ _ q => q.elim, fun _ _ _ _ _ _ _ q => q.elim, fun F' H' v d x r q => kk d F' H' v q x r⟩ (hg ds P' hf)⟩
theorem okXD (F : FunD K x qual (defArgs st) (defBody st) (defScope st) dvs [] f fd) (S : FnScope N ps (defScope st)) (hk : ks.length = ps.length)
    (hb : ∀ (cdv : Value) (A : Around) (outer : List Env) (s : Shared) (H : Hp) (E : XK), Room k (A.deeper (envOfC qual (defScope st) s.heap.objs.size f cdv)) →
      ∃ t g, PSs (cxOf (L2.CX P w) P w K mg base N qual (defScope st) f cdv A outer s H E) (defBody st) t ∧ DS M (.exc E) t g ∧ ∀ ds P, fn ds P → g { nx := fun _ => False, rt := P } (rho0 ks ds (N.length - ks.length))) : FnOk P w K mg base (L2.CX P w) (k + 1) f fd ps (spX M ks fn) := by
  refine F.ok S (fun vs H Q E h => ?_) (fun cdv A outer s H vs Q E hr h => ?_)
  · obtain ⟨pt, F, ds, P, _, r, _⟩ := h
    rw [r.length, hk]
  · obtain ⟨pt, F, ds, P', ok, r, hf, kk⟩ := h
    obtain ⟨t, g, hp, hd, hg⟩ := hb cdv A outer s H E hr
    exact ⟨t, hp, hd.run (δ := { nx := fun _ => False, rt := P' }) (en_start ok r) ⟨fun _ _ _ _ _ _ _ q => q.elim, fun _ _ _ _ _ _ _ q => q.elim, fun _ _ _ _ _ _ _ q => q.elim, fun F' H' a c ds x xd p => kk c ds F' H' a p x xd⟩ (hg ds P' hf)⟩
end
/-! ### bounds of data that repr shows -/
structure Bd (w h : Nat) (d : D) : Prop where
  sm : smD d = true
  wt : wtD d ≤ w
  dp : dpD d ≤ h
theorem Bd.mono {w h w' h' : Nat} {d : D} (b : Bd w h d) (x : w ≤ w') (y : h ≤ h') : Bd w' h' d := ⟨b.sm, Nat.le_trans b.wt x, Nat.le_trans b.dp y⟩
theorem Bd.small {w h : Nat} {d : D} (b : Bd w h d) (x : w ≤ 200000) (y : h ≤ 60) : Small d := ⟨b.sm, Nat.le_trans b.wt x, Nat.le_trans b.dp y⟩
theorem bds {w h : Nat} : ∀ {xs : List D}, (∀ x ∈ xs, Bd w h x) → smDs xs = true ∧ wtDs xs ≤ xs.length * (w + 1) ∧ dpDs xs ≤ h
  | [], _ => ⟨rfl, Nat.zero_le _, Nat.zero_le _⟩
  | x :: r, k => by
    obtain ⟨a, b, c⟩ := bds fun y hy => k y (List.mem_cons_of_mem _ hy)
    have q := k x List.mem_cons_self
    refine ⟨?_, ?_, ?_⟩
    · show (smD x && smDs r) = true
      rw [q.sm, a]; rfl
    · show wtD x + 1 + wtDs r ≤ (r.length + 1) * (w + 1)
      have := q.wt
      rw [Nat.succ_mul]
      omega
    · show max (dpD x) (dpDs r) ≤ h
      exact Nat.max_le.mpr ⟨q.dp, c⟩
theorem Bd.lst {w h n : Nat} {xs : List D} (k : ∀ x ∈ xs, Bd w h x) (l : xs.length ≤ n) : Bd (n * (w + 1)) (h + 1) (.lst xs) := by
  obtain ⟨a, b, c⟩ := bds k
  exact ⟨a, Nat.le_trans b (Nat.mul_le_mul_right _ l), Nat.succ_le_succ c⟩
theorem Bd.tup {w h n : Nat} {xs : List D} (k : ∀ x ∈ xs, Bd w h x) (l : xs.length ≤ n) : Bd (n * (w + 1)) (h + 1) (.tup xs) := by
  obtain ⟨a, b, c⟩ := bds k
  exact ⟨a, Nat.le_trans b (Nat.mul_le_mul_right _ l), Nat.succ_le_succ c⟩
theorem bd_int {i : Int} {w h : Nat} (l : i.natAbs < 10 ^ 30) (x : 101 ≤ w) : Bd w h (.int i) := ⟨decide_eq_true l, x, Nat.zero_le _⟩
/-- two fields by name -/
theorem Bd.dic2 {w h : Nat} {a b : Str} {x y : D} (ha : keyS (.inr a) = true) (hb : keyS (.inr b) = true) (la : a.cps.size ≤ w) (lb : b.cps.size ≤ w) (kx : Bd w h x) (ky : Bd w h y) : Bd (4 * (w + 1)) (h + 1) (.dic [(.inr a, x), (.inr b, y)]) := by
  refine ⟨?_, ?_, ?_⟩
  · show (keyS (.inr a) && smD x && (keyS (.inr b) && smD y && true)) = true
    rw [ha, hb, kx.sm, ky.sm]; rfl
  · show a.cps.size + wtD x + 2 + (b.cps.size + wtD y + 2 + 0) ≤ 4 * (w + 1)
    have := kx.wt
    have := ky.wt
    omega
  · show max (dpD x) (max (dpD y) 0) + 1 ≤ h + 1
    have := kx.dp
    have := ky.dp
    omega
end Dl

namespace K11
open PySem PySem.Spec PyProof.Rows L2 Xv Cr TL Dl
/-- elements that may be looked at -/
def El (xs : List D) : Prop := xs.length ≤ 1000 ∧ ∀ x ∈ xs, NoOb x ∧ ∀ z, x = .str z → z.length ≤ 1000
/-- the first p elements are unlike names -/
def NamesTo (xs : List D) (p : Nat) : Prop := ∀ i x, i < p → xs[i]? = some x → nameB x = true ∧ x ∉ xs.take i
def fCkD : List D → (D → Prop) → Prop := fun ds P => ∃ a xs, ds = [a, .non] ∧ NoOb a ∧ itemsD a = some xs ∧ 0 < xs.length ∧ El xs ∧ NamesTo xs xs.length ∧ P .non
def fCkDX : List D → (D → Prop) → Prop := fun ds P => ∃ a, ds = [a, .non] ∧ NoOb a ∧ (∀ xs, itemsD a = some xs → xs.length ≤ 1000) ∧ ((fullB a = false ∧ P (.ob 1 [.non])) ∨
  ∃ xs p y, itemsD a = some xs ∧ El xs ∧ xs[p]? = some y ∧ NamesTo xs p ∧ (nameB y = false ∨ y ∈ xs.take p) ∧ P (.ob 1 [.int (p : Nat)]))
theorem full_items {a : D} {xs : List D} (h : itemsD a = some xs) : fullB a = decide (0 < xs.length) := by
  cases a <;> cases h <;> rfl
theorem name_key {x : D} (h : nameB x = true) : ∃ z, x = .str z := by
  cases x <;> first | exact ⟨_, rfl⟩ | cases h
/-- the keys of the first i elements -/
def KeysTo (xs : List D) (i : Nat) (l : List Key) : Prop := l.length ≤ i ∧ ∀ z : Str, (.inr z ∈ l ↔ .str z ∈ xs.take i)
theorem keys_step {xs : List D} {i : Nat} {l : List Key} {z : Str} (k : KeysTo xs i l) (h : xs[i]? = some (.str z)) : KeysTo xs (i + 1) (.inr z :: l) := by
  refine ⟨by rw [List.length_cons]; exact Nat.succ_le_succ k.1, fun y => ?_⟩
  obtain ⟨hi, e⟩ := List.getElem?_eq_some_iff.mp h
  rw [List.take_succ_eq_append_getElem hi, e, List.mem_cons, List.mem_append, k.2 y, List.mem_singleton]
  constructor
  · rintro (z | z)
    · cases z; exact .inr rfl
    · exact .inl z
  · rintro (z | z)
    · exact .inr z
    · cases z; exact .inl rfl
abbrev s_gckd : Stmt := top 26
abbrev N_gckd : List Str := ["deeds", "known", "ahead", "place", "deed"]
theorem sc_gckd : FnScope N_gckd ["deeds", "known"] (defScope s_gckd) := ⟨rfl, rfl, rfl, by decide +kernel, rfl, by decide +kernel, by decide +kernel⟩
section
variable {P : Program} {w : World} {K : PySem.W.Frag} {mg : Str → Option Value} {base : Heap} {M : Cm} {Ct CD CR f : Addr} {fd : FuncData}
theorem okd_gckd (F : FunD K "check_deeds" "check_deeds" (defArgs s_gckd) (defBody s_gckd) (defScope s_gckd) [V.non] [] f fd) (T : Bl mg) (d_gfull : Xv.Cl P w K mg base 2 "is_filled_list" (spD M [.bor] fFull)) (d_gname : Xv.Cl P w K mg base 1 "is_name" (spD M [.full] fName))  : FnOk P w K mg base CX0 3 f fd ["deeds", "known"] (spD M [.full, .bor] fCkD) := by
  refine okD0D F sc_gckd rfl fun cdv A outer s H E hr => ⟨_, _, (pss_cons (ps_if (pt_not (pt_val (pe_cl d_gfull hr (by decide) (by rfl) (pa_cons (pv 0) pa_nil)))) (pss_one ps_never) pss_nil)
  (pss_cons (ps_ks (ps_set (i := 2) sc_gckd.nd rfl (Or.inl rfl) (pe_callTy0 (T := "set") cr_set0K (by rfl) T.set (by decide +kernel))))
  (pss_one (ps_for PassesOwn.never rfl (pi_enum2 rfl T.enumerate (pa_cons (pv 0) pa_nil)) (pg_tup (n := 2) rfl (pgs_cons (pg_name (i := 3) sc_gckd.nd rfl (Or.inl rfl)) (pgs_cons (pg_name (i := 4) sc_gckd.nd rfl (Or.inl rfl)) pgs_nil)))
  (pss_cons (ps_if (PW.pt (pw_or (pt_not (pt_val (pe_cl d_gname hr (by decide) (by rfl) (pa_cons (pv 4) pa_nil)))) (pw_or1 (pt_cmpR or_sinK (pv 4) (pv 2) (by rfl))))) (pss_one ps_never) pss_nil)
  (pss_cons (ps_if (PW.pt (pw_and (pt_cmp (pc_notN (pv 1)) (by rfl)) (pw_and1 pt_no))) (pss_one ps_never) pss_nil)
  (pss_one (ps_expr (pe_saddK (pv 2) (pa_cons (pv 4) pa_nil)))))))))), inferInstance, fun ds Q h => ?_⟩
  obtain ⟨a, xs, rfl, no, hxs, h0, el, nt, q⟩ := h
  have go : fullB a = true := by rw [full_items hxs]; exact decide_eq_true h0
  refine ⟨a, rfl, no, fun ys hy => by rw [hxs] at hy; cases hy; exact el.1, ?_⟩
  rw [go]
  refine ⟨by decide, ?_⟩
  cases a <;> cases hxs
  all_goals
    refine forGo_inv (fun i ρ => ∃ (l : List Key) (s0 s3 s4 : Sl), ρ = [s0, .b .non, .kset P w l, s3, s4] ∧ KeysTo xs i l) ⟨[], _, _, _, rfl, Nat.zero_le _, fun z => by simp⟩ (fun i x ρ hx hI k hk => ?_) (fun ρ hI => ?_)
    rotate_left
    · exact q
    · skip
      obtain ⟨l, s0, s3, s4, rfl, hl⟩ := hI
      have hi := (List.getElem?_eq_some_iff.mp hx).1
      rw [List.length_range] at hi
      have ex : x = i := by rw [List.getElem?_range hi] at hx; exact (Option.some.inj hx).symm
      subst ex
      have hx : xs[x]? = some xs[x] := List.getElem?_eq_getElem hi
      obtain ⟨no1, len1⟩ := el.2 _ (List.getElem_mem hi)
      dsimp only
      rw [getD_at hx]
      refine ⟨rfl, ?_⟩
      obtain ⟨hn, hm⟩ := nt x xs[x] hi hx
      obtain ⟨z, ez⟩ := name_key hn
      rw [ez] at hm hx hn no1 len1 ⊢
      refine ⟨_, rfl, no1, len1, ?_⟩
      rw [hn]
      refine ⟨rfl, rfl, .inr z, rfl, fun b hb => ?_⟩
      have hb2 : b = false := by
        cases b with
        | false => rfl
        | true => exact absurd ((hl.2 z).mp (hb.mp rfl)) hm
      subst hb2
      refine ⟨rfl, rfl, .inr z, rfl, ?_, hk _ ⟨_, _, _, _, rfl, keys_step hl hx⟩⟩
      have := hl.1
      have := el.1
      omega

end
abbrev s_gckdx : Stmt := top 26
abbrev N_gckdx : List Str := ["deeds", "known", "ahead", "place", "deed"]
theorem sc_gckdx : FnScope N_gckdx ["deeds", "known"] (defScope s_gckdx) := ⟨rfl, rfl, rfl, by decide +kernel, rfl, by decide +kernel, by decide +kernel⟩
section
variable {P : Program} {w : World} {K : PySem.W.Frag} {mg : Str → Option Value} {base : Heap} {M : Cm} {Ct CD CR f : Addr} {fd : FuncData}
theorem okd_gckdx (F : FunD K "check_deeds" "check_deeds" (defArgs s_gckdx) (defBody s_gckdx) (defScope s_gckdx) [V.non] [] f fd) (T : Bl mg) (d_gfull : Xv.Cl P w K mg base 2 "is_filled_list" (spD M [.bor] fFull)) (xd : XCl P w K mg base "InvalidDeeds" CD "position") [XcI M CD ["position"] 1] (d_gname : Xv.Cl P w K mg base 1 "is_name" (spD M [.full] fName))  : FnOk P w K mg base (L2.CX P w) 3 f fd ["deeds", "known"] (spX M [.full, .bor] fCkDX) := by
  refine okXD F sc_gckdx rfl fun cdv A outer s H E hr => ⟨_, _, (pss_cons (ps_if (pt_not (pt_val (pe_cl d_gfull hr (by decide) (by rfl) (pa_cons (pv 0) pa_nil)))) (pss_one (ps_rse (ps_raise rfl (takes_of rfl rfl rfl rfl) (pmk_1 xd.ex (raises_own xd.sub xd.ty) hr (by decide) (by rfl) (pa_cons pe_non pa_nil))))) pss_nil)
  (pss_cons (ps_ks (ps_set (i := 2) sc_gckdx.nd rfl (Or.inl rfl) (pe_callTy0 (T := "set") cr_set0K (by rfl) T.set (by decide +kernel))))
  (pss_one (ps_for (passes_of rfl) rfl (pi_enum2 rfl T.enumerate (pa_cons (pv 0) pa_nil)) (pg_tup (n := 2) rfl (pgs_cons (pg_name (i := 3) sc_gckdx.nd rfl (Or.inl rfl)) (pgs_cons (pg_name (i := 4) sc_gckdx.nd rfl (Or.inl rfl)) pgs_nil)))
  (pss_cons (ps_if (PW.pt (pw_or (pt_not (pt_val (pe_cl d_gname hr (by decide) (by rfl) (pa_cons (pv 4) pa_nil)))) (pw_or1 (pt_cmpR or_sinK (pv 4) (pv 2) (by rfl))))) (pss_one (ps_rse (ps_raise rfl (takes_of rfl rfl rfl rfl) (pmk_1 xd.ex (raises_own xd.sub xd.ty) hr (by decide) (by rfl) (pa_cons (pv 3) pa_nil))))) pss_nil)
  (pss_cons (ps_if (PW.pt (pw_and (pt_cmp (pc_notN (pv 1)) (by rfl)) (pw_and1 pt_no))) (pss_one (ps_rse (ps_raise rfl (takes_of rfl rfl rfl rfl) (pmk_1 xd.ex (raises_own xd.sub xd.ty) hr (by decide) (by rfl) (pa_cons (pv 3) pa_nil))))) pss_nil)
  (pss_one (ps_expr (pe_saddK (pv 2) (pa_cons (pv 4) pa_nil)))))))))), inferInstance, fun ds Q h => ?_⟩
  obtain ⟨a, rfl, no, hz, q⟩ := h
  refine ⟨a, rfl, no, hz, ?_⟩
  rcases q with ⟨go, q⟩ | ⟨xs, p, y, hxs, el, hp, nt, bad, q⟩
  · rw [go]
    exact ⟨rfl, q⟩
  have go : fullB a = true := by rw [full_items hxs]; exact decide_eq_true (by have := (List.getElem?_eq_some_iff.mp hp).1; omega)
  rw [go]
  refine ⟨by decide, ?_⟩
  have pl := (List.getElem?_eq_some_iff.mp hp).1
  cases a <;> cases hxs
  all_goals
    refine forGo_inv (fun i ρ => i ≤ p ∧ ∃ (l : List Key) (s0 s3 s4 : Sl), ρ = [s0, .b .non, .kset P w l, s3, s4] ∧ KeysTo xs i l) ⟨Nat.zero_le _, [], _, _, _, rfl, Nat.zero_le _, fun z => by simp⟩ (fun i x ρ hx hI k hk => ?_) (fun ρ hI => ?_)
    rotate_left
    · have := hI.1
      rw [List.length_range] at this
      omega
    · obtain ⟨ip, hI⟩ := hI
      obtain ⟨l, s0, s3, s4, rfl, hl⟩ := hI
      have hi := (List.getElem?_eq_some_iff.mp hx).1
      rw [List.length_range] at hi
      have ex : x = i := by rw [List.getElem?_range hi] at hx; exact (Option.some.inj hx).symm
      subst ex
      have hx : xs[x]? = some xs[x] := List.getElem?_eq_getElem hi
      obtain ⟨no1, len1⟩ := el.2 _ (List.getElem_mem hi)
      dsimp only
      rw [getD_at hx]
      refine ⟨rfl, ?_⟩
      by_cases xp : x < p
      · obtain ⟨hn, hm⟩ := nt x xs[x] xp hx
        obtain ⟨z, ez⟩ := name_key hn
        rw [ez] at hm hx hn no1 len1 ⊢
        refine ⟨_, rfl, no1, len1, ?_⟩
        rw [hn]
        refine ⟨rfl, rfl, .inr z, rfl, fun b hb => ?_⟩
        have hb2 : b = false := by
          cases b with
          | false => rfl
          | true => exact absurd ((hl.2 z).mp (hb.mp rfl)) hm
        subst hb2
        refine ⟨rfl, rfl, .inr z, rfl, ?_, hk _ ⟨xp, _, _, _, _, rfl, keys_step hl hx⟩⟩
        have := hl.1
        have := el.1
        omega

      · have : x = p := by omega
        subst this
        rw [hx] at hp
        cases hp
        refine ⟨_, rfl, no1, len1, ?_⟩
        rcases bad with bad | bad
        · rw [bad]
          exact ⟨rfl, q⟩
        · cases hn : nameB xs[x] with
          | false => exact ⟨rfl, q⟩
          | true =>
            obtain ⟨z, ez⟩ := name_key hn
            rw [ez] at bad ⊢
            refine ⟨rfl, rfl, .inr z, rfl, fun b hb => ?_⟩
            have hb2 : b = true := hb.mpr ((hl.2 z).mpr bad)
            subst hb2
            exact ⟨rfl, q⟩

end
end K11

namespace K11
open PySem PySem.Spec PyProof.Rows L2 Xv Cr TL Dl
/-- elements of a row that may be looked at -/
def ElE (x : D) : Prop := NoOb x ∧ ∀ xs, x = .tup xs → xs.length ≤ 1000 ∧ ∀ y ∈ xs, NoOb y
def ElR (x : D) : Prop := NoOb x ∧ ∀ xs, itemsD x = some xs → xs.length ≤ 1000 ∧ ∀ y ∈ xs, ElE y
def rowB (n m : Int) (d : D) : Bool := match itemsD d with
  | some es => decide ((es.length : Int) = n) && es.all (entB m)
  | none => false
def fRow : List D → (D → Prop) → Prop := fun ds P => ∃ d n m, ds = [d, .int n, .int m] ∧ ElR d ∧ P (.bl (rowB n m d))
/-- rows that are right up to p -/
def RowsTo (n : Int) (xs : List D) (p : Nat) : Prop := ∀ i x, i < p → xs[i]? = some x → rowB n xs.length x = true
def fCkR : List D → (D → Prop) → Prop := fun ds P => ∃ a n xs, ds = [a, .int n] ∧ NoOb a ∧ itemsD a = some xs ∧ 0 < xs.length ∧ xs.length ≤ 1000 ∧ (∀ x ∈ xs, ElR x) ∧ RowsTo n xs xs.length ∧ P .non
def fCkRX : List D → (D → Prop) → Prop := fun ds P => ∃ a n, ds = [a, .int n] ∧ NoOb a ∧ (∀ xs, itemsD a = some xs → xs.length ≤ 1000) ∧ ((fullB a = false ∧ P (.ob 2 [.non])) ∨
  ∃ xs p y, itemsD a = some xs ∧ (∀ x ∈ xs, ElR x) ∧ xs[p]? = some y ∧ RowsTo n xs p ∧ rowB n xs.length y = false ∧ P (.ob 2 [.int (p : Nat)]))
theorem lt_items {d : D} {es : List D} (h : itemsD d = some es) : isLT d = true := by cases d <;> first | rfl | cases h
theorem items_none {d : D} (h : itemsD d = none) : isLT d = false := by cases d <;> first | rfl | cases h
theorem all_go {α : Type} {st : D → (Option D → Prop) → Prop} {f : α → D} {g : α → Bool} {P : D → Prop} {xs : List α} (hs : ∀ x ∈ xs, ∀ k : Option D → Prop, k (some (.bl (g x))) → st (f x) k) (q : P (.bl (xs.all g))) : lcGo st (xs.map f) [] fun d => fAll [d] P := by
  refine lcGo_map (h := fun x => D.bl (g x)) hs ?_
  rw [List.nil_append]
  refine ⟨_, xs.map g, rfl, ?_, ?_⟩
  · have := bools_map (xs.map g)
    rw [List.map_map] at this
    exact this
  · rw [List.all_map]
    exact q
theorem all_go0 {st : D → (Option D → Prop) → Prop} {g : D → Bool} {P : D → Prop} {xs : List D} (hs : ∀ x ∈ xs, ∀ k : Option D → Prop, k (some (.bl (g x))) → st x k) (q : P (.bl (xs.all g))) : lcGo st xs [] fun d => fAll [d] P := by
  have := all_go (f := id) hs q
  rw [List.map_id] at this
  exact this
def fLim : List D → (D → Prop) → Prop := fun ds P => ∃ (z : Str) (m l : Int), ds = [.str z, .int m, .int l] ∧ m ≤ l ∧ P .non
abbrev s_grow : Stmt := top 27
abbrev N_grow : List Str := ["row", "deeds", "states", "entry"]
theorem sc_grow : FnScope N_grow ["row", "deeds", "states"] (defScope s_grow) := ⟨rfl, rfl, rfl, by decide +kernel, rfl, by decide +kernel, by decide +kernel⟩
section
variable {P : Program} {w : World} {K : PySem.W.Frag} {mg : Str → Option Value} {base : Heap} {M : Cm} {Ct CD CR f : Addr} {fd : FuncData}
theorem okd_grow (F : Fun K "is_row" "is_row" s_grow f fd) (T : Bl mg) (d_glist : Xv.Cl P w K mg base 1 "is_list" (spD M [.bor] (fOf isLT))) (d_gent : Xv.Cl P w K mg base 4 "is_entry" (spD M [.bor, .bor] fEnt))  : FnOk P w K mg base CX0 5 f fd ["row", "deeds", "states"] (spD M [.full, .bor, .bor] fRow) := by
  refine okD0 F sc_grow rfl fun cdv A outer s H E hr => ⟨_, _, (pss_cons (ps_if (PW.pt (pw_or (pt_not (pt_val (pe_cl d_glist hr (by decide) (by rfl) (pa_cons (pv 0) pa_nil)))) (pw_or1 (pt_cmpR op_ne (pe_callB (id := "len") (call_ln) (by rfl) T.len (by decide +kernel) (pa_cons (pv 0) pa_nil)) (pv 1) (nomark _))))) (pss_one (ps_ret pe_bl)) pss_nil)
  (pss_one (ps_ret (pe_callB (id := "all") (cr_all rfl) (by rfl) T.all (by decide +kernel) (pa_cons (pe_lc (own := [("entry", 3)]) (g := gName 3) (tt := tYes) (te := tCall (spD M [.bor, .bor] fEnt) [] E0 (tCons (tVar 3) (tCons (tVar 2) (tNil)))) rfl sc_grow.nd (pi_seq (pv 0)) (blkOk_by (N := N_grow) (sc := defScope s_grow) (by decide +kernel)) (fun _ _ _ _ _ => (pg_name (i := 3) sc_grow.nd rfl (Or.inl rfl))) (fun _ _ _ _ _ => pts_nil) (fun _ _ _ _ _ => (pe_cl d_gent hr (by decide) (by rfl) (pa_cons (pv 3) (pa_cons (pv 2) pa_nil))))) pa_nil))))), inferInstance, fun ds Q h => ?_⟩
  obtain ⟨d, n, m, rfl, ⟨no, he⟩, q⟩ := h
  refine ⟨d, rfl, no, ?_⟩
  cases hd : itemsD d with
  | none =>
    rw [items_none hd]
    have : rowB n m d = false := by unfold rowB; rw [hd]
    rw [this] at q
    exact q
  | some es =>
    rw [lt_items hd]
    obtain ⟨h1, h2⟩ := he es hd
    have e : rowB n m d = (decide ((es.length : Int) = n) && es.all (entB m)) := by unfold rowB; rw [hd]
    rw [e] at q
    cases d <;> cases hd
    all_goals
      refine ite2 (fun z => nomatch z) (fun _ => ?_)
      refine ite2 (fun z => ?_) (fun z => ?_)
      · have z : (true ^^ decide ((es.length : Int) = n)) = true := z
        have : decide ((es.length : Int) = n) = false := by simpa using z
        rw [this, Bool.false_and] at q
        exact q
      · have z : ¬ (true ^^ decide ((es.length : Int) = n)) = true := z
        have : decide ((es.length : Int) = n) = true := by simpa using z
        rw [this, Bool.true_and] at q
        refine ⟨by decide, by omega, ?_⟩
        exact all_go0 (g := entB m) (fun x hx k hk => ⟨x, m, rfl, (h2 x hx).1, (h2 x hx).2, hk⟩) q

end
abbrev s_gckr : Stmt := top 28
abbrev N_gckr : List Str := ["rows", "deeds", "state", "row"]
theorem sc_gckr : FnScope N_gckr ["rows", "deeds"] (defScope s_gckr) := ⟨rfl, rfl, rfl, by decide +kernel, rfl, by decide +kernel, by decide +kernel⟩
section
variable {P : Program} {w : World} {K : PySem.W.Frag} {mg : Str → Option Value} {base : Heap} {M : Cm} {Ct CD CR f : Addr} {fd : FuncData}
theorem okd_gckr (F : Fun K "check_rows" "check_rows" s_gckr f fd) (T : Bl mg) (d_gfull : Xv.Cl P w K mg base 2 "is_filled_list" (spD M [.bor] fFull)) (d_grow : Xv.Cl P w K mg base 5 "is_row" (spD M [.full, .bor, .bor] fRow))  : FnOk P w K mg base CX0 6 f fd ["rows", "deeds"] (spD M [.full, .bor] fCkR) := by
  refine okD0 F sc_gckr rfl fun cdv A outer s H E hr => ⟨_, _, (pss_cons (ps_if (pt_not (pt_val (pe_cl d_gfull hr (by decide) (by rfl) (pa_cons (pv 0) pa_nil)))) (pss_one ps_never) pss_nil)
  (pss_one (ps_for PassesOwn.never rfl (pi_enum2 rfl T.enumerate (pa_cons (pv 0) pa_nil)) (pg_tup (n := 2) rfl (pgs_cons (pg_name (i := 2) sc_gckr.nd rfl (Or.inl rfl)) (pgs_cons (pg_name (i := 3) sc_gckr.nd rfl (Or.inl rfl)) pgs_nil)))
  (pss_one (ps_if (pt_not (pt_val (pe_cl d_grow hr (by decide) (by rfl) (pa_cons (pv 3) (pa_cons (pv 1) (pa_cons (pe_callB (id := "len") (call_ln) (by rfl) T.len (by decide +kernel) (pa_cons (pv 0) pa_nil)) pa_nil)))))) (pss_one ps_never) pss_nil))))), inferInstance, fun ds Q h => ?_⟩
  obtain ⟨a, n, xs, rfl, no, hxs, h0, hz, el, rt, q⟩ := h
  have go : fullB a = true := by rw [full_items hxs]; exact decide_eq_true h0
  refine ⟨a, rfl, no, fun ys hy => by rw [hxs] at hy; cases hy; exact hz, ?_⟩
  rw [go]
  cases a <;> cases hxs
  · refine forGo_inv (fun i ρ => ∃ (s2 s3 : Sl), ρ = [.d (.lst xs), .b (.int n), s2, s3]) ⟨_, _, rfl⟩ (fun i x ρ hx hI k hk => ?_) (fun ρ hI => q)
    obtain ⟨s2, s3, rfl⟩ := hI
    have hi := (List.getElem?_eq_some_iff.mp hx).1
    rw [List.length_range] at hi
    have ex : x = i := by rw [List.getElem?_range hi] at hx; exact (Option.some.inj hx).symm
    subst ex
    have hx : xs[x]? = some xs[x] := List.getElem?_eq_getElem hi
    have el1 := el _ (List.getElem_mem hi)
    dsimp only
    rw [getD_at hx]
    refine ⟨rfl, ?_⟩
    refine ⟨_, n, _, rfl, el1, ?_⟩
    rw [rt x xs[x] hi hx]
    exact hk _ ⟨_, _, rfl⟩
  · refine forGo_inv (fun i ρ => ∃ (s2 s3 : Sl), ρ = [.d (.tup xs), .b (.int n), s2, s3]) ⟨_, _, rfl⟩ (fun i x ρ hx hI k hk => ?_) (fun ρ hI => q)
    obtain ⟨s2, s3, rfl⟩ := hI
    have hi := (List.getElem?_eq_some_iff.mp hx).1
    rw [List.length_range] at hi
    have ex : x = i := by rw [List.getElem?_range hi] at hx; exact (Option.some.inj hx).symm
    subst ex
    have hx : xs[x]? = some xs[x] := List.getElem?_eq_getElem hi
    have el1 := el _ (List.getElem_mem hi)
    dsimp only
    rw [getD_at hx]
    refine ⟨rfl, ?_⟩
    refine ⟨_, n, _, rfl, el1, ?_⟩
    rw [rt x xs[x] hi hx]
    exact hk _ ⟨_, _, rfl⟩

end
abbrev s_gckrx : Stmt := top 28
abbrev N_gckrx : List Str := ["rows", "deeds", "state", "row"]
theorem sc_gckrx : FnScope N_gckrx ["rows", "deeds"] (defScope s_gckrx) := ⟨rfl, rfl, rfl, by decide +kernel, rfl, by decide +kernel, by decide +kernel⟩
section
variable {P : Program} {w : World} {K : PySem.W.Frag} {mg : Str → Option Value} {base : Heap} {M : Cm} {Ct CD CR f : Addr} {fd : FuncData}
theorem okd_gckrx (F : Fun K "check_rows" "check_rows" s_gckrx f fd) (T : Bl mg) (d_gfull : Xv.Cl P w K mg base 2 "is_filled_list" (spD M [.bor] fFull)) (xr : XCl P w K mg base "InvalidRows" CR "position") [XcI M CR ["position"] 2] (d_grow : Xv.Cl P w K mg base 5 "is_row" (spD M [.full, .bor, .bor] fRow))  : FnOk P w K mg base (L2.CX P w) 6 f fd ["rows", "deeds"] (spX M [.full, .bor] fCkRX) := by
  refine okX F sc_gckrx rfl fun cdv A outer s H E hr => ⟨_, _, (pss_cons (ps_if (pt_not (pt_val (pe_cl d_gfull hr (by decide) (by rfl) (pa_cons (pv 0) pa_nil)))) (pss_one (ps_rse (ps_raise rfl (takes_of rfl rfl rfl rfl) (pmk_1 xr.ex (raises_own xr.sub xr.ty) hr (by decide) (by rfl) (pa_cons pe_non pa_nil))))) pss_nil)
  (pss_one (ps_for (passes_of rfl) rfl (pi_enum2 rfl T.enumerate (pa_cons (pv 0) pa_nil)) (pg_tup (n := 2) rfl (pgs_cons (pg_name (i := 2) sc_gckrx.nd rfl (Or.inl rfl)) (pgs_cons (pg_name (i := 3) sc_gckrx.nd rfl (Or.inl rfl)) pgs_nil)))
  (pss_one (ps_if (pt_not (pt_val (pe_cl d_grow hr (by decide) (by rfl) (pa_cons (pv 3) (pa_cons (pv 1) (pa_cons (pe_callB (id := "len") (call_ln) (by rfl) T.len (by decide +kernel) (pa_cons (pv 0) pa_nil)) pa_nil)))))) (pss_one (ps_rse (ps_raise rfl (takes_of rfl rfl rfl rfl) (pmk_1 xr.ex (raises_own xr.sub xr.ty) hr (by decide) (by rfl) (pa_cons (pv 2) pa_nil))))) pss_nil))))), inferInstance, fun ds Q h => ?_⟩
  obtain ⟨a, n, rfl, no, hz, q⟩ := h
  refine ⟨a, rfl, no, hz, ?_⟩
  rcases q with ⟨go, q⟩ | ⟨xs, p, y, hxs, el, hp, rt, bad, q⟩
  · rw [go]
    exact ⟨rfl, q⟩
  have pl := (List.getElem?_eq_some_iff.mp hp).1
  have go : fullB a = true := by rw [full_items hxs]; exact decide_eq_true (by omega)
  rw [go]
  cases a <;> cases hxs
  · refine forGo_inv (fun i ρ => i ≤ p ∧ ∃ (s2 s3 : Sl), ρ = [.d (.lst xs), .b (.int n), s2, s3]) ⟨Nat.zero_le _, _, _, rfl⟩ (fun i x ρ hx hI k hk => ?_) (fun ρ hI => ?_)
    · obtain ⟨ip, hI⟩ := hI
      obtain ⟨s2, s3, rfl⟩ := hI
      have hi := (List.getElem?_eq_some_iff.mp hx).1
      rw [List.length_range] at hi
      have ex : x = i := by rw [List.getElem?_range hi] at hx; exact (Option.some.inj hx).symm
      subst ex
      have hx : xs[x]? = some xs[x] := List.getElem?_eq_getElem hi
      have el1 := el _ (List.getElem_mem hi)
      dsimp only
      rw [getD_at hx]
      refine ⟨rfl, ?_⟩
      refine ⟨_, n, _, rfl, el1, ?_⟩
      by_cases xp : x < p
      · rw [rt x xs[x] xp hx]
        exact hk _ ⟨xp, _, _, rfl⟩
      · have : x = p := by omega
        subst this
        rw [hx] at hp
        cases hp
        rw [bad]
        exact ⟨rfl, q⟩
    · have := hI.1
      rw [List.length_range] at this
      omega
  · refine forGo_inv (fun i ρ => i ≤ p ∧ ∃ (s2 s3 : Sl), ρ = [.d (.tup xs), .b (.int n), s2, s3]) ⟨Nat.zero_le _, _, _, rfl⟩ (fun i x ρ hx hI k hk => ?_) (fun ρ hI => ?_)
    · obtain ⟨ip, hI⟩ := hI
      obtain ⟨s2, s3, rfl⟩ := hI
      have hi := (List.getElem?_eq_some_iff.mp hx).1
      rw [List.length_range] at hi
      have ex : x = i := by rw [List.getElem?_range hi] at hx; exact (Option.some.inj hx).symm
      subst ex
      have hx : xs[x]? = some xs[x] := List.getElem?_eq_getElem hi
      have el1 := el _ (List.getElem_mem hi)
      dsimp only
      rw [getD_at hx]
      refine ⟨rfl, ?_⟩
      refine ⟨_, n, _, rfl, el1, ?_⟩
      by_cases xp : x < p
      · rw [rt x xs[x] xp hx]
        exact hk _ ⟨xp, _, _, rfl⟩
      · have : x = p := by omega
        subst this
        rw [hx] at hp
        cases hp
        rw [bad]
        exact ⟨rfl, q⟩
    · have := hI.1
      rw [List.length_range] at this
      omega

end
abbrev s_glim : Stmt := top 25
abbrev N_glim : List Str := ["what", "many", "limit"]
theorem sc_glim : FnScope N_glim ["what", "many", "limit"] (defScope s_glim) := ⟨rfl, rfl, rfl, by decide +kernel, rfl, by decide +kernel, by decide +kernel⟩
section
variable {P : Program} {w : World} {K : PySem.W.Frag} {mg : Str → Option Value} {base : Heap} {M : Cm} {Ct CD CR f : Addr} {fd : FuncData}
theorem okd_glim (F : Fun K "check_limit" "check_limit" s_glim f fd) (T : Bl mg)   : FnOk P w K mg base CX0 1 f fd ["what", "many", "limit"] (spD M [.bor, .bor, .bor] fLim) := by
  refine okD0 F sc_glim rfl fun cdv A outer s H E hr => ⟨_, _, (pss_one (ps_if (pt_cmpR op_gt (pv 1) (pv 2) (nomark _)) (pss_one ps_never) pss_nil)), inferInstance, fun ds Q h => ?_⟩
  obtain ⟨z, m, l, rfl, hl, q⟩ := h
  refine ite2 (fun c => ?_) fun _ => q
  have c : decide (l < m) = true := c
  exact absurd (of_decide_eq_true c) (by omega)

end
end K11

namespace K11
open PySem PySem.Spec PyProof.Rows L2 Xv Cr TL Dl
/-- the thing's class is the class 0 -/
structure ThM (M : Cm) (Ct : Addr) : Prop where
  ca : M.ca 0 = Ct
  fn : M.fn 0 = (["_deeds", "_rows"] : List Str)
def thingX (ns : List Str) (rs : List Rw) : D := .ob 0 [namesX ns, rowsX rs]
def entX (e : Int × Int) : D := .tup [.int e.1, .int e.2]
def RowIs (x : D) (r : Rw) : Prop := itemsD x = some (r.map entX)
/-- a list or a tuple of rows, each a list or a tuple -/
def RowsIs (b : D) (rs : List Rw) : Prop := ∃ xs, itemsD b = some xs ∧ Paired RowIs xs rs
theorem nm_name {z : Str} (h : Nm z) : nameB (.str z) = true := by
  obtain ⟨h1, h8, hc⟩ := h
  show (decide (1 ≤ z.length) && decide (z.length ≤ 8) && _) = true
  rw [decide_eq_true h1, decide_eq_true h8, Bool.true_and, Bool.true_and, List.all_eq_true]
  intro c h
  have := hc c h
  rw [sgn_list, decide_eq_true_eq, List.mem_range'_1]
  omega
theorem names_to {ns : List Str} (nd : ns.Nodup) (nm : ∀ x ∈ ns, Nm x) : NamesTo (ns.map D.str) (ns.map D.str).length := fun i x hi hx => by
  rw [List.getElem?_map] at hx
  rw [List.length_map] at hi
  rw [List.getElem?_eq_getElem hi] at hx
  cases hx
  refine ⟨nm_name (nm _ (List.getElem_mem hi)), fun hm => ?_⟩
  rw [← List.map_take] at hm
  obtain ⟨y, hy, e⟩ := List.mem_map.mp hm
  cases e
  obtain ⟨j, hj, ej⟩ := List.mem_take_iff_getElem.mp hy
  have hji : j < i := by omega
  exact (List.pairwise_iff_getElem.mp nd j i (by omega) hi hji) ej
theorem el_names {ns : List Str} (h : ns.length ≤ 1000) (nm : ∀ x ∈ ns, Nm x) : El (ns.map D.str) := ⟨by rw [List.length_map]; exact h, fun x hx => by
  obtain ⟨y, hy, rfl⟩ := List.mem_map.mp hx
  exact ⟨(fun _ _ z => nomatch z), fun z e => by cases e; have := (nm y hy).2.1; omega⟩⟩
theorem items_no {a : D} {xs : List D} (h : itemsD a = some xs) : NoOb a := fun c ys e => by subst e; cases h
theorem row_el {x : D} {r : Rw} (h : RowIs x r) (hl : r.length ≤ 1000) : ElR x := ⟨items_no h, fun xs hx => by
  have h2 : itemsD x = some (r.map entX) := h
  rw [h2] at hx
  cases hx
  refine ⟨by rw [List.length_map]; exact hl, fun y hy => ?_⟩
  obtain ⟨e, _, rfl⟩ := List.mem_map.mp hy
  exact ⟨(fun _ _ z => nomatch z), fun xs z => by cases z; exact ⟨by show 2 ≤ 1000; decide, fun y hy => by
    rcases List.mem_cons.mp hy with rfl | hy
    · exact (fun _ _ z => nomatch z)
    · rw [List.mem_singleton.mp hy]; exact fun _ _ z => nomatch z⟩⟩⟩
theorem row_b {x : D} {r : Rw} {n m : Nat} (h : RowIs x r) (hl : r.length = n) (he : ∀ e ∈ r, (0 ≤ e.1 ∧ e.1 < 10) ∧ (0 ≤ e.2 ∧ e.2 < m)) : rowB n m x = true := by
  have h2 : itemsD x = some (r.map entX) := h
  unfold rowB
  rw [h2]
  show (decide ((((r.map entX).length : Nat) : Int) = n) && (r.map entX).all (entB m)) = true
  rw [List.length_map, decide_eq_true (by rw [hl]), Bool.true_and, List.all_eq_true]
  intro y hy
  obtain ⟨e, h1, rfl⟩ := List.mem_map.mp hy
  obtain ⟨h2, h3⟩ := he e h1
  show (inB 0 9 (.int e.1) && inB 0 ((m : Int) - 1) (.int e.2)) = true
  show ((decide ((0 : Int) ≤ e.1) && decide (e.1 ≤ 9)) && (decide ((0 : Int) ≤ e.2) && decide (e.2 ≤ (m : Int) - 1))) = true
  rw [decide_eq_true h2.1, decide_eq_true (show e.1 ≤ 9 by omega), decide_eq_true h3.1, decide_eq_true (show e.2 ≤ (m : Int) - 1 by omega)]
  rfl
theorem paired_left {α β : Type} {R : α → β → Prop} : ∀ {a : List α} {b : List β}, Paired R a b → ∀ x ∈ a, ∃ y ∈ b, R x y
  | _, _, .nil, _, h => by cases h
  | _, _, .cons r t, x, h => by
    rcases List.mem_cons.mp h with rfl | z
    · exact ⟨_, List.mem_cons_self, r⟩
    · obtain ⟨y, hy, k⟩ := paired_left t x z
      exact ⟨y, List.mem_cons_of_mem _ hy, k⟩
theorem lcGo_pair {α : Type} {st : D → (Option D → Prop) → Prop} {R : D → α → Prop} {h : α → D} {P : D → Prop} : ∀ {xs : List D} {ys : List α} {acc : List D}, Paired R xs ys → (∀ x y, y ∈ ys → R x y → ∀ k : Option D → Prop, k (some (h y)) → st x k) → P (.lst (acc ++ ys.map h)) → lcGo st xs acc P
  | _, _, acc, .nil, _, q => by rw [List.map_nil, List.append_nil] at q; exact q
  | _, _, acc, .cons r t, hs, q => hs _ _ List.mem_cons_self r _ (lcGo_pair t (fun x y hy => hs x y (List.mem_cons_of_mem _ hy)) (by rw [List.map_cons] at q; show P (.lst ((acc ++ [_]) ++ _)); rw [List.append_assoc]; exact q))
theorem row_go {x : D} {r : Rw} (h : RowIs x r) (hl : r.length ≤ 1000) {gs : D → (Option D → Prop) → Prop} {k : Option D → Prop} (hs : ∀ e : Int × Int, ∀ k : Option D → Prop, k (some (entX e)) → gs (entX e) k) (q : k (some (rowX r))) : ∀ ds, itemsD x = some ds → lcGo gs ds [] fun d => k (some d) := fun ds e => by
  have h2 : itemsD x = some (r.map entX) := h
  rw [h2] at e
  cases e
  exact lcGo_map (h := entX) (fun e _ => hs e) q
def fThG : List D → (D → Prop) → Prop := fun ds P => ∃ a b ns rs, ds = [a, b] ∧ itemsD a = some (ns.map D.str) ∧ RowsIs b rs ∧ Right ns rs ∧ P (thingX ns rs)
def fThD : List D → (D → Prop) → Prop := fun ds P => ∃ a b, ds = [a, b] ∧ fCkDX [a, .non] P
def fThR : List D → (D → Prop) → Prop := fun ds P => ∃ a b xs, ds = [a, b] ∧ NoOb a ∧ itemsD a = some xs ∧ 0 < xs.length ∧ El xs ∧ NamesTo xs xs.length ∧ fCkRX [b, .int (xs.length : Nat)] P
abbrev s_gti : Stmt := inClass (top 30) 0
abbrev N_gti : List Str := ["self", "deeds", "rows", "row", "answer", "after"]
theorem sc_gti : FnScope N_gti ["self", "deeds", "rows"] (defScope s_gti) := ⟨rfl, rfl, rfl, by decide +kernel, rfl, by decide +kernel, by decide +kernel⟩
section
variable {P : Program} {w : World} {K : PySem.W.Frag} {mg : Str → Option Value} {base : Heap} {M : Cm} {Ct CD CR f : Addr} {fd : FuncData}
theorem okd_gti (F : Fun K "__init__" "Thing.__init__" s_gti f fd) (T : Bl mg) (d_gckd : ClDf P w K mg base 3 "check_deeds" (spD M [.full, .bor] fCkD) [.non]) (d_gckr : Xv.Cl P w K mg base 6 "check_rows" (spD M [.full, .bor] fCkR)) (d_glim : Xv.Cl P w K mg base 1 "check_limit" (spD M [.bor, .bor, .bor] fLim)) (C : Cn mg) (TM : ThM M Ct) (TC : ThC K Ct) : FnOk P w K mg base CX0 7 f fd ["self", "deeds", "rows"] (spI M 0 [.full, .full] fThG) := by
  refine okI F sc_gti rfl fun cdv A outer s H E hr => ⟨_, _, (pss_cons (ps_expr (pe_cldD d_gckd hr (by decide) (by rfl) (pa_cons (pv 1) pa_nil)))
  (pss_cons (ps_expr (pe_cl d_gckr hr (by decide) (by rfl) (pa_cons (pv 2) (pa_cons (pe_callB (id := "len") (call_ln) (by rfl) T.len (by decide +kernel) (pa_cons (pv 1) pa_nil)) pa_nil))))
  (pss_cons (ps_expr (pe_cl d_glim hr (by decide) (by rfl) (pa_cons pe_str (pa_cons (pe_callB (id := "len") (call_ln) (by rfl) T.len (by decide +kernel) (pa_cons (pv 1) pa_nil)) (pa_cons (pe_glob (v := .int 4) (by rfl) C.deeds.choose_spec ⟨_, rfl⟩) pa_nil)))))
  (pss_cons (ps_expr (pe_cl d_glim hr (by decide) (by rfl) (pa_cons pe_str (pa_cons (pe_callB (id := "len") (call_ln) (by rfl) T.len (by decide +kernel) (pa_cons (pv 2) pa_nil)) (pa_cons (pe_glob (v := .int 8) (by rfl) C.states.choose_spec ⟨_, rfl⟩) pa_nil)))))
  (pss_cons (ps_fld (pv 0) (pe_callTy (T := "list") call_lsD (by rfl) T.list (by decide +kernel) (pa_cons (pv 1) pa_nil)) rfl)
  (pss_one (ps_fld (pv 0) (pe_lc (own := [("row", 3)]) (g := gName 3) (tt := tYes) (te := tLc (iSeq K (tVar 3)) (L2.gTup K 2 (L2.gCons (gName 4) (L2.gCons (gName 5) (L2.gNil)))) (tYes) (tTup (tCons (tVar 4) (tCons (tVar 5) (tNil)))) [4, 5]) rfl sc_gti.nd (pi_seq (pv 2)) (blkOk_by (N := N_gti) (sc := defScope s_gti) (by decide +kernel)) (fun _ _ _ _ _ => (pg_name (i := 3) sc_gti.nd rfl (Or.inl rfl))) (fun _ _ _ _ _ => pts_nil) (fun _ _ _ _ _ => (pe_lc (own := [("answer", 4), ("after", 5)]) (g := L2.gTup K 2 (L2.gCons (gName 4) (L2.gCons (gName 5) (L2.gNil)))) (tt := tYes) (te := tTup (tCons (tVar 4) (tCons (tVar 5) (tNil)))) rfl sc_gti.nd (pi_seq (pv 3)) (blkOk_by (by kernel_rfl)) (fun _ _ _ _ _ => (pg_tup (n := 2) rfl (pgs_cons (pg_name (i := 4) sc_gti.nd rfl (Or.inl rfl)) (pgs_cons (pg_name (i := 5) sc_gti.nd rfl (Or.inl rfl)) pgs_nil)))) (fun _ _ _ _ _ => pts_nil) (fun _ _ _ _ _ => (pe_tup (pa_cons (pv 4) (pa_cons (pv 5) pa_nil))))))) rfl))))))), inferInstance, fun ds Q h => ?_⟩
  obtain ⟨a, b, ns, rs, rfl, ha, ⟨xs, hb, pr⟩, R, q⟩ := h
  have d0 := R.d0
  have d4 := R.d4
  have r0 := R.r0
  have r8 := R.r8
  have xl : xs.length = rs.length := Paired.length pr
  have tb := R.tb
  have el : ∀ x ∈ xs, ElR x := fun x hx => by
    obtain ⟨r, hr, p⟩ := paired_left pr x hx
    exact row_el p (by have := (tb.2 r hr).1; omega)
  have rt : RowsTo (ns.length : Nat) xs xs.length := fun i x hi hx => by
    obtain ⟨r, hr, p⟩ := paired_left pr x (List.mem_of_getElem? hx)
    rw [xl]
    exact row_b p (tb.2 r hr).1 (tb.2 r hr).2
  have na := items_no ha
  have nb := items_no hb
  have c0 : Cls K (M.ca 0) := by rw [TM.ca]; exact TC.cl
  have n1 : NoAttr K (M.ca 0) "_deeds" := by rw [TM.ca]; exact TC.nD
  have n2 : NoAttr K (M.ca 0) "_rows" := by rw [TM.ca]; exact TC.nR
  have f0 := TM.fn
  cases a <;> cases ha <;> cases b <;> cases hb
  all_goals
    refine ⟨_, _, rfl, na, rfl, (by rw [List.length_map]; omega), el_names (by omega) R.nm, names_to R.nd R.nm, ?_⟩
    refine ⟨_, (ns.length : Nat), _, (by rw [List.length_map]), nb, rfl, by omega, by omega, el, rt, ?_⟩
    refine ⟨_, _, _, rfl, by rw [List.length_map]; omega, ?_⟩
    refine ⟨_, _, _, rfl, by omega, ?_⟩
    refine ⟨_, _, rfl, rfl, ?_⟩
    refine ⟨0, [], rfl, c0, n1, by rw [f0]; rfl, by rw [f0]; decide, fun j hj => absurd hj (Nat.not_lt_zero j), ?_⟩
    refine ⟨rfl, by omega, ?_⟩
    refine lcGo_pair (h := rowX) pr (fun x r hr px k hk => ?_) ?_
    · have px2 : itemsD x = some (r.map entX) := px
      have rl := (tb.2 r hr).1
      cases x <;> cases px2
      all_goals exact ⟨rfl, (by rw [List.length_map]; omega), lcGo_map (h := entX) (fun e _ k hk => ⟨rfl, (show 2 ≤ 16777216 by decide), hk⟩) hk⟩
    · exact ⟨0, [namesX ns], rfl, c0, n2, by rw [f0]; rfl, by rw [f0]; decide, fun j hj => by
        have : j = 0 := by
          have hj : j < 1 := hj
          omega
        subst this
        rw [f0]
        decide, q⟩

end
abbrev s_gtd : Stmt := inClass (top 30) 0
abbrev N_gtd : List Str := ["self", "deeds", "rows", "row", "answer", "after"]
theorem sc_gtd : FnScope N_gtd ["self", "deeds", "rows"] (defScope s_gtd) := ⟨rfl, rfl, rfl, by decide +kernel, rfl, by decide +kernel, by decide +kernel⟩
section
variable {P : Program} {w : World} {K : PySem.W.Frag} {mg : Str → Option Value} {base : Heap} {M : Cm} {Ct CD CR f : Addr} {fd : FuncData}
theorem okd_gtd (F : Fun K "__init__" "Thing.__init__" s_gtd f fd) (T : Bl mg) (x_gckd : ClDX P w K mg base 3 "check_deeds" (spX M [.full, .bor] fCkDX) [.non]) (C : Cn mg) : FnOk P w K mg base (L2.CX P w) 4 f fd ["self", "deeds", "rows"] (spIX M 0 [.full, .bor] fThD) := by
  refine okIX F sc_gtd rfl fun cdv A outer s H E hr => ⟨_, _, (pss_cons (ps_drd (ps_expr (pe_cldX x_gckd hr (by decide) (takes_of rfl rfl rfl rfl) (by rfl) (pa_cons (pv 1) pa_nil))))
  (pss_cons ps_never (pss_cons ps_never (pss_cons ps_never (pss_cons ps_never (pss_one ps_never)))))), inferInstance, fun ds Q h => ?_⟩
  obtain ⟨a, b, rfl, q⟩ := h
  exact q

end
abbrev s_gtr : Stmt := inClass (top 30) 0
abbrev N_gtr : List Str := ["self", "deeds", "rows", "row", "answer", "after"]
theorem sc_gtr : FnScope N_gtr ["self", "deeds", "rows"] (defScope s_gtr) := ⟨rfl, rfl, rfl, by decide +kernel, rfl, by decide +kernel, by decide +kernel⟩
section
variable {P : Program} {w : World} {K : PySem.W.Frag} {mg : Str → Option Value} {base : Heap} {M : Cm} {Ct CD CR f : Addr} {fd : FuncData}
theorem okd_gtr (F : Fun K "__init__" "Thing.__init__" s_gtr f fd) (T : Bl mg) (d_gckd : ClDf P w K mg base 3 "check_deeds" (spD M [.full, .bor] fCkD) [.non]) (x_gckr : Cr.ClX P w K mg base 6 "check_rows" (spX M [.full, .bor] fCkRX)) (C : Cn mg) : FnOk P w K mg base (L2.CX P w) 7 f fd ["self", "deeds", "rows"] (spIX M 0 [.full, .full] fThR) := by
  refine okIX F sc_gtr rfl fun cdv A outer s H E hr => ⟨_, _, (pss_cons (ps_expr (pe_cldD d_gckd hr (by decide) (by rfl) (pa_cons (pv 1) pa_nil)))
  (pss_cons (ps_drx (ps_expr (pe_clX x_gckr hr (by decide) (takes_of rfl rfl rfl rfl) (by rfl) (pa_cons (pv 2) (pa_cons (pe_callB (id := "len") (call_ln) (by rfl) T.len (by decide +kernel) (pa_cons (pv 1) pa_nil)) pa_nil)))))
  (pss_cons ps_never (pss_cons ps_never (pss_cons ps_never (pss_one ps_never)))))), inferInstance, fun ds Q h => ?_⟩
  obtain ⟨a, b, xs, rfl, na, hxs, x0, el, nt, q⟩ := h
  have x1 := el.1
  cases a <;> cases hxs
  all_goals
    refine ⟨_, _, rfl, na, rfl, x0, el, nt, ?_⟩
    exact q

end
end K11

namespace K11
open PySem PySem.Spec PyProof.Rows L2 Xv Cr TL Dl
open TL
/-- a row of a thing, where it stands -/
def RwO (S : Addr → Prop) (H : Hp) (v : V) (r : Rw) : Prop := ∃ a es, v = .ref a ∧ S a ∧ H a = some (.lst es) ∧ Paired (fun x (e : Int × Int) => ∃ t, x = V.ref t ∧ S t ∧ H t = some (.tup [.int e.1, .int e.2])) es r
section
variable {K : PySem.W.Frag} {Ct CL : Addr} {pt F S : Addr → Prop} {H : Hp} {ns : List Str} {rs : List Rw}
theorem vw_in {b : Addr} {o : HO} (h : Vw S H b = some o) : S b ∧ H b = some o := by
  unfold Vw at h
  split at h
  · exact ⟨‹_›, h⟩
  · cases h
theorem names_op : ∀ {ns : List Str} {vs : List V} {G : Hp}, TrAll G vs (ns.map PyData.str) → vs = ns.map V.str
  | [], _, _, .nil => rfl
  | _ :: _, _, _, .cons (.str _) t => by rw [names_op t]; rfl
theorem pairs_op : ∀ {r : Rw} {vs : List V}, TrAll (Vw S H) vs (r.map fun e => .tuple [.int e.1, .int e.2]) → Paired (fun x (e : Int × Int) => ∃ t, x = V.ref t ∧ S t ∧ H t = some (.tup [.int e.1, .int e.2])) vs r
  | [], _, .nil => .nil
  | _ :: _, _, .cons (.tup h (.cons (.int _) (.cons (.int _) .nil))) t => .cons ⟨_, rfl, (vw_in h).1, (vw_in h).2⟩ (pairs_op t)
theorem rows_op : ∀ {rs : List Rw} {vs : List V}, TrAll (Vw S H) vs (rs.map rowD) → Paired (RwO S H) vs rs
  | [], _, .nil => .nil
  | _ :: _, _, .cons (.lst h q) t => .cons ⟨_, _, rfl, (vw_in h).1, (vw_in h).2, pairs_op q⟩ (rows_op t)
theorem kv_cons {G : Hp} {kvs : List (Key × V)} {p : PyData × PyData} {ps : List (PyData × PyData)} (h : TrKv G kvs (p :: ps)) : ∃ k v r d, kvs = (k, v) :: r ∧ p = (kD k, d) ∧ Tr G v d ∧ TrKv G r ps := by
  generalize e : p :: ps = z at h
  cases h with
  | nil => cases e
  | cons a b =>
    cases e
    exact ⟨_, _, _, _, rfl, rfl, a, b⟩
theorem kD_str {k : Key} {x : Str} (h : PyData.str x = kD k) : k = .inr x := by
  cases k with
  | inl i => cases h
  | inr y =>
    have : PyData.str x = PyData.str y := h
    cases this
    rfl
/-- a model, opened -/
theorem md_op {K : PySem.W.Frag} {S : Addr → Prop} {H : Hp} {m : Addr} {ns : List Str} {rs : List Rw} (h : Dt K S H (.ref m) (modelD ns rs)) :
    ∃ l t ys, S m ∧ S l ∧ S t ∧ H m = some (.dK [(.inr "deeds", .ref l), (.inr "rows", .ref t)]) ∧ H l = some (.lst (ns.map V.str)) ∧ H t = some (.lst ys) ∧ Paired (RwO S H) ys rs := by
  unfold Dt modelD at h
  cases h with
  | dct a b =>
    obtain ⟨k1, v1, r1, d1, rfl, e1, t1, b1⟩ := kv_cons b
    obtain ⟨k2, v2, r2, d2, rfl, e2, t2, b2⟩ := kv_cons b1
    have e3 : PyData.str "deeds" = kD k1 := congrArg Prod.fst e1
    have e4 : PyData.str "rows" = kD k2 := congrArg Prod.fst e2
    obtain rfl : namesD ns = d1 := congrArg Prod.snd e1
    obtain rfl : rowsD rs = d2 := congrArg Prod.snd e2
    obtain rfl := kD_str e3
    obtain rfl := kD_str e4
    cases b2
    unfold namesD at t1
    unfold rowsD at t2
    cases t1 with
    | lst c d => cases t2 with
      | lst f g => exact ⟨_, _, _, (vw_in a).1, (vw_in c).1, (vw_in f).1, (vw_in a).2, by rw [(vw_in c).2, names_op d], (vw_in f).2, rows_op g⟩
theorem ents_rp (M : Cm) : ∀ {es : List V} {r : Rw}, Paired (fun x (e : Int × Int) => ∃ t, x = V.ref t ∧ S t ∧ H t = some (.tup [.int e.1, .int e.2])) es r → RpA M S H es (r.map fun e => D.tup [.int e.1, .int e.2])
  | _, _, .nil => .nil
  | _, _, .cons ⟨t, e, s, h⟩ r => by subst e; exact .cons (.tup s h (.cons (.int _) (.cons (.int _) .nil))) (ents_rp M r)
theorem rows_rp (M : Cm) : ∀ {ys : List V} {rs : List Rw}, Paired (RwO S H) ys rs → RpA M S H ys (rs.map rowX)
  | _, _, .nil => .nil
  | _, _, .cons ⟨a, es, e, s, h, p⟩ r => by subst e; exact .cons (.lst s h (ents_rp M p)) (rows_rp M r)
theorem model_rp (M : Cm) {p : Addr} (h : Dt K S H (.ref p) (modelD ns rs)) : Rp M S H (.ref p) (modelX ns rs) := by
  obtain ⟨l, t, ys, sm, sl, st, hm, hl, ht, hp⟩ := md_op h
  exact .dic sm hm (.cons (.lst sl hl (rpa_strs ns)) (.cons (.lst st ht (rows_rp M hp)) .nil))
/-! ### the promises, by data -/
def fDraw : List D → (D → Prop) → Prop := fun ds P => ∃ n : Int, ds = [.non, .int n] ∧ 0 < n ∧ n < 1073741824 ∧ ∀ d : Nat, (d : Int) < n → P (.int (d : Nat))
theorem draw_d (M : Cm) {vs : List V} {Q : VK} {E : XK} (h : spD M [.pot, .bor] fDraw vs H Q E) : spDraw vs H Q E := by
  obtain ⟨pt, F, ds, P, ok, r, ⟨n, rfl, n0, n1, q⟩, k⟩ := h
  cases r with
  | pot hp r =>
    cases r with
    | bor r s =>
      cases s
      cases rb_int r
      refine ⟨_, n, rfl, ok.pots _ hp, n0, n1, fun H' d b P' d0 d1 => ?_⟩
      obtain ⟨u, rfl⟩ := Int.eq_ofNat_of_zero_le d0
      exact k _ F H' _ (q u d1) (.of_but ok hp b P') (.int _)
def fModel : List D → (D → Prop) → Prop := fun ds P => ∃ ms md : Nat, ds = [.non, .int ms, .int md] ∧ 0 < ms ∧ ms ≤ 8 ∧ 0 < md ∧ md ≤ 4 ∧ ∀ ns rs, Right ns rs → rs.length ≤ ms → ns.length ≤ md → P (modelX ns rs)
theorem model_d (M : Cm) {vs : List V} {Q : VK} {E : XK} (h : spD M [.pot, .bor, .bor] fModel vs H Q E) : spModel K vs H Q E := by
  obtain ⟨pt, F, ds, P, ok, r, ⟨ms, md, rfl, n0, n1, m0, m1, q⟩, k⟩ := h
  cases r with
  | pot hp r =>
    cases r with
    | bor r s =>
      cases s with
      | bor r2 s =>
        cases s
        cases rb_int r
        cases rb_int r2
        refine ⟨_, ms, md, rfl, ok.pots _ hp, n0, by omega, m0, by omega, fun H' m ns rs size many S b P' nS dM hs hm nl nd nm tb => ?_⟩
        have t1 := tb.1
        have x1 := Ext.of_but ok hp b P'
        refine k _ _ H' _ (q ns rs ⟨by omega, by omega, nd, nm, by omega, by omega, by rw [t1, nl]; exact tb⟩ (by omega) (by omega)) (x1.more (G := fun b => S b ∧ Lv H' b) (fun b hb => .of (nS b hb.1).1) fun b hb => hb.2) ?_
        exact (model_rp M dM).up fun b o t hb e => ⟨.inr ⟨hb, o, e, t⟩, e⟩
end
def fPick : List D → (D → Prop) → Prop := fun ds P => ∃ xs : List D, ds = [.non, .lst xs] ∧ 0 < xs.length ∧ xs.length ≤ 1000000 ∧ ∀ x ∈ xs, P x
abbrev s_dpick : Stmt := top 39
abbrev N_dpick : List Str := ["_law_pot_here", "_law_some"]
theorem sc_dpick : FnScope N_dpick ["_law_pot_here", "_law_some"] (defScope s_dpick) := ⟨rfl, rfl, rfl, by decide +kernel, rfl, by decide +kernel, by decide +kernel⟩
section
variable {P : Program} {w : World} {K : PySem.W.Frag} {mg : Str → Option Value} {base : Heap} {M : Cm} {Ct CD CR f : Addr} {fd : FuncData}
theorem okd_dpick (F : Fun K "_law_pick" "_law_pick" s_dpick f fd) (T : Bl mg) (d_draw : Xv.Cl P w K mg base 1 "_law_draw" (spD M [.pot, .bor] fDraw))  : FnOk P w K mg base CX0 2 f fd ["_law_pot_here", "_law_some"] (spD M [.pot, .bor] fPick) := by
  refine okD0 F sc_dpick rfl fun cdv A outer s H E hr => ⟨_, _, (pss_one (ps_ret (pe_ix ix_list (pv 1) (pe_cl d_draw hr (by decide) (by rfl) (pa_cons (pv 0) (pa_cons (pe_callB (id := "len") (call_ln) (by rfl) T.len (by decide +kernel) (pa_cons (pv 1) pa_nil)) pa_nil))) (fun _ _ => rfl)))), inferInstance, fun ds Q h => ?_⟩
  obtain ⟨xs, rfl, h0, h1, q⟩ := h
  refine ⟨_, rfl, by omega, by omega, fun i hi => ?_⟩
  have hi' : i < xs.length := by omega
  exact ⟨_, _, xs[i], rfl, rfl, atD (List.getElem?_eq_getElem hi'), q _ (List.getElem_mem hi')⟩

end
end K11

namespace K11
open PySem PySem.Spec PyProof.Rows L2 Xv Cr TL Dl
theorem bd_name {z : Str} (n : Nm z) {w h : Nat} (x : 8 ≤ w) : Bd w h (.str z) := by
  obtain ⟨_, l, c⟩ := n
  refine ⟨?_, Nat.le_trans (show z.length ≤ 8 from l) x, Nat.zero_le _⟩
  show (z.cps.toList.all fun c => decide (c < 16 ^ 8)) = true
  rw [List.all_eq_true]
  intro y hy
  have := c y hy
  rw [decide_eq_true_eq]
  omega
def noB : D → Bool
  | .ob _ _ => false
  | _ => true
theorem noB_ok {d : D} (h : noB d = true) : NoOb d := fun c xs e => by subst e; cases h
/-- tiny, and no object -/
def tinyB (d : D) : Bool := noB d && (smD d && (decide (wtD d ≤ 400) && decide (dpD d ≤ 4)))
theorem tiny_ok {d : D} (h : tinyB d = true) : NoOb d ∧ Bd 400 4 d := by
  obtain ⟨a, h⟩ := Bool.and_eq_true_iff.mp h
  obtain ⟨b, h⟩ := Bool.and_eq_true_iff.mp h
  obtain ⟨c, d⟩ := Bool.and_eq_true_iff.mp h
  exact ⟨noB_ok a, b, of_decide_eq_true c, of_decide_eq_true d⟩
/-- deeds that are none, and the place that is told -/
structure DeedsBad (a pos : D) : Prop where
  no : NoOb a
  it : ∀ xs, itemsD a = some xs → xs.length ≤ 1000
  bd : Bd 4000 5 a
  ps : Bd 101 0 pos
  h : (fullB a = false ∧ pos = .non) ∨ ∃ xs p y, itemsD a = some xs ∧ El xs ∧ xs[p]? = some y ∧ NamesTo xs p ∧ (nameB y = false ∨ y ∈ xs.take p) ∧ pos = .int (p : Nat)
theorem DeedsBad.go {a pos : D} (h : DeedsBad a pos) {P : D → Prop} (q : P (.ob 1 [pos])) : fCkDX [a, .non] P := by
  refine ⟨a, rfl, h.no, h.it, ?_⟩
  rcases h.h with ⟨h1, rfl⟩ | ⟨xs, p, y, h1, h2, h3, h4, h5, rfl⟩
  · exact .inl ⟨h1, q⟩
  · exact .inr ⟨xs, p, y, h1, h2, h3, h4, h5, q⟩
theorem NamesTo.app {xs : List D} {p : Nat} (h : NamesTo xs p) (hp : p ≤ xs.length) (r : List D) : NamesTo (xs ++ r) p := fun i x hi hx => by
  rw [List.getElem?_append_left (by omega)] at hx
  obtain ⟨a, b⟩ := h i x hi hx
  refine ⟨a, ?_⟩
  rw [List.take_append_of_le_length (by omega)]
  exact b
/-- an element that may be looked at and shown -/
structure OkE (x : D) : Prop where
  no : NoOb x
  ln : ∀ z, x = .str z → z.length ≤ 1000
  bd : Bd 400 4 x
def okB (x : D) : Bool := tinyB x && (match x with | .str z => decide (z.length ≤ 1000) | _ => true)
theorem okB_ok {x : D} (h : okB x = true) : OkE x := by
  obtain ⟨a, b⟩ := Bool.and_eq_true_iff.mp h
  obtain ⟨c, d⟩ := tiny_ok a
  exact ⟨c, fun z e => by subst e; exact of_decide_eq_true b, d⟩
theorem okE_name {z : Str} (n : Nm z) : OkE (.str z) := ⟨(fun _ _ z => nomatch z), fun y e => by cases e; have := n.2.1; omega, bd_name n (by decide)⟩
/-- a thing wrong behind right names -/
theorem bad_at {gs : List Str} (hg : ∀ z ∈ gs, Nm z) (gnd : gs.Nodup) (gl : gs.length ≤ 3) {y : D} (oy : OkE y) (by_ : nameB y = false ∨ y ∈ gs.map D.str) {tl : List D} (tl3 : tl.length ≤ 3) (ht : ∀ x ∈ tl, OkE x) {z : D} (hz : z = .lst (gs.map D.str ++ [y] ++ tl) ∨ z = .tup (gs.map D.str ++ [y] ++ tl)) : DeedsBad z (.int (gs.length : Nat)) := by
  have gl2 : (gs.map D.str).length = gs.length := List.length_map _
  have all : ∀ x ∈ gs.map D.str ++ [y] ++ tl, OkE x := fun x hx => by
    rcases List.mem_append.mp hx with h | h
    · rcases List.mem_append.mp h with h | h
      · obtain ⟨u, hu, rfl⟩ := List.mem_map.mp h
        exact okE_name (hg u hu)
      · rw [List.mem_singleton.mp h]; exact oy
    · exact ht x h
  have len : (gs.map D.str ++ [y] ++ tl).length = gs.length + 1 + tl.length := by
    rw [List.length_append, List.length_append, gl2]; rfl
  have hi : itemsD z = some (gs.map D.str ++ [y] ++ tl) := by rcases hz with rfl | rfl <;> rfl
  refine ⟨items_no hi, fun xs h => by rw [hi] at h; cases h; omega, ?_, ⟨decide_eq_true (by omega), Nat.le_refl _, Nat.zero_le _⟩, .inr ⟨_, gs.length, y, hi, ⟨by omega, fun x hx => ⟨(all x hx).no, (all x hx).ln⟩⟩, ?_, ?_, ?_, rfl⟩⟩
  · rcases hz with rfl | rfl
    · exact (Bd.lst (n := 7) (fun x hx => (all x hx).bd) (by omega)).mono (by decide) (by decide)
    · exact (Bd.tup (n := 7) (fun x hx => (all x hx).bd) (by omega)).mono (by decide) (by decide)
  · rw [List.append_assoc, List.getElem?_append_right (by omega), gl2, Nat.sub_self]
    rfl
  · have := names_to gnd hg
    rw [gl2] at this
    rw [List.append_assoc]
    exact this.app (by omega) _
  · rw [List.append_assoc, List.take_append_of_le_length (by omega), List.take_of_length_le (by omega)]
    exact by_
theorem bad_lit {x : D} (h : (tinyB x && (!fullB x && (match itemsD x with | some xs => decide (xs.length ≤ 1000) | none => true))) = true) : DeedsBad x .non := by
  obtain ⟨a, h⟩ := Bool.and_eq_true_iff.mp h
  obtain ⟨b, c⟩ := Bool.and_eq_true_iff.mp h
  obtain ⟨d, e⟩ := tiny_ok a
  refine ⟨d, fun xs hx => by rw [hx] at c; exact of_decide_eq_true c, e.mono (by decide) (by decide), ⟨rfl, Nat.zero_le _, Nat.zero_le _⟩, .inl ⟨by simpa using b, rfl⟩⟩
theorem lits_flat {α : Type} {xs : List α} {n : Nat} {x : α} (h : x ∈ (List.replicate n xs).flatten) : x ∈ xs := by
  obtain ⟨l, hl, hx⟩ := List.mem_flatten.mp h
  rw [List.eq_of_mem_replicate hl] at hx
  exact hx
def fOddD : List D → (D → Prop) → Prop := fun ds P => ∃ ns rs, ds = [.non, modelX ns rs] ∧ Right ns rs ∧ ns.length ≤ 3 ∧ ∀ a pos, DeedsBad a pos → P (.tup [a, pos])
abbrev s_oddd : Stmt := top 45
abbrev N_oddd : List Str := ["_law_pot_here", "_law_model_here", "_law_good", "_law_bad", "_law_made"]
theorem sc_oddd : FnScope N_oddd ["_law_pot_here", "_law_model_here"] (defScope s_oddd) := ⟨rfl, rfl, rfl, by decide +kernel, rfl, by decide +kernel, by decide +kernel⟩
section
variable {P : Program} {w : World} {K : PySem.W.Frag} {mg : Str → Option Value} {base : Heap} {M : Cm} {Ct CD CR f : Addr} {fd : FuncData}
theorem okd_oddd (F : Fun K "_law_odd_deeds" "_law_odd_deeds" s_oddd f fd) (T : Bl mg) (d_draw : Xv.Cl P w K mg base 1 "_law_draw" (spD M [.pot, .bor] fDraw)) (d_dpick : Xv.Cl P w K mg base 2 "_law_pick" (spD M [.pot, .bor] fPick))  : FnOk P w K mg base CX0 3 f fd ["_law_pot_here", "_law_model_here"] (spD M [.pot, .bor] fOddD) := by
  refine okD0 F sc_oddd rfl fun cdv A outer s H E hr => ⟨_, _, (pss_cons (ps_if (pt_cmpR op_eq (pe_cl d_draw hr (by decide) (by rfl) (pa_cons (pv 0) (pa_cons pe_int pa_nil))) pe_int (nomark _)) (pss_one (ps_ret (pe_tup (pa_cons (pe_cl d_dpick hr (by decide) (by rfl) (pa_cons (pv 0) (pa_cons (pe_lst (pa_cons pe_non (pa_cons pe_int (pa_cons pe_str (pa_cons pe_str (pa_cons (pe_dnewK) (pa_cons (pe_disp (pps_cons pe_str pe_int pps_nil) (by rfl) (by rfl) (fun z => by cases z) (by decide)) (pa_cons (pe_lst pa_nil) (pa_cons (pe_tup pa_nil) (pa_cons pe_bl pa_nil)))))))))) pa_nil))) (pa_cons pe_non pa_nil))))) pss_nil)
  (pss_cons (ps_set (i := 2) sc_oddd.nd rfl (Or.inl rfl) (pe_slice sl_list (pe_dget (hu_of hr) (pv 1) pe_str (fun _ _ => rfl)) po_none (po_some (pe_cl d_draw hr (by decide) (by rfl) (pa_cons (pv 0) (pa_cons (pe_op op_add (pe_callB (id := "len") (call_ln) (by rfl) T.len (by decide +kernel) (pa_cons (pe_dget (hu_of hr) (pv 1) pe_str (fun _ _ => rfl)) pa_nil)) pe_int) pa_nil))))))
  (pss_cons (ps_set (i := 3) sc_oddd.nd rfl (Or.inl rfl) (pe_op op_cat (pe_lst (pa_cons pe_str (pa_cons pe_str (pa_cons pe_str (pa_cons pe_str (pa_cons pe_str (pa_cons pe_non (pa_cons pe_int (pa_cons pe_bl (pa_cons (pe_tup (pa_cons pe_str pa_nil)) (pa_cons (pe_lst (pa_cons pe_str pa_nil)) (pa_cons pe_str (pa_cons pe_str (pa_cons (pe_dnewK) pa_nil)))))))))))))) (pe_op op_rep (pv 2) pe_int)))
  (pss_cons (ps_set (i := 3) sc_oddd.nd rfl (Or.inl rfl) (pe_cl d_dpick hr (by decide) (by rfl) (pa_cons (pv 0) (pa_cons (pv 3) pa_nil))))
  (pss_cons (ps_set (i := 4) sc_oddd.nd rfl (Or.inl rfl) (pe_op op_cat (pe_op op_cat (pv 2) (pe_lst (pa_cons (pv 3) pa_nil))) (pe_cl d_dpick hr (by decide) (by rfl) (pa_cons (pv 0) (pa_cons (pe_lst (pa_cons (pe_lst pa_nil) (pa_cons (pe_lst (pa_cons pe_non pa_nil)) (pa_cons (pe_lst (pa_cons (pv 3) pa_nil)) (pa_cons (pv 2) pa_nil))))) pa_nil)))))
  (pss_one (ps_ret (pe_tup (pa_cons (pe_cl d_dpick hr (by decide) (by rfl) (pa_cons (pv 0) (pa_cons (pe_lst (pa_cons (pv 4) (pa_cons (pe_callTy (T := "tuple") call_tupD (by rfl) T.tuple (by decide +kernel) (pa_cons (pv 4) pa_nil)) pa_nil))) pa_nil))) (pa_cons (pe_callB (id := "len") (call_ln) (by rfl) T.len (by decide +kernel) (pa_cons (pv 2) pa_nil)) pa_nil)))))))))), inferInstance, fun ds Q h => ?_⟩
  obtain ⟨ns, rs, rfl, R, n3, q⟩ := h
  refine ⟨4, rfl, by decide, by decide, fun t ht => ?_⟩
  refine ite2 (fun _ => ?_) (fun _ => ?_)
  · refine ⟨[(.inr "set", .int 1)], rfl, by decide, by decide, ?_⟩
    refine ⟨by decide, by decide, by decide, ?_⟩
    refine ⟨_, rfl, by decide, by decide, fun x hx => ?_⟩
    refine ⟨(show 2 ≤ 16777216 by decide), ?_⟩
    have hall : ([.non, .int 0, .str "set", .str "", .dic [], .dic [(.inr "set", .int 1)], .lst [], .tup [], .bl true] : List D).all (fun x => tinyB x && (!fullB x && (match itemsD x with | some xs => decide (xs.length ≤ 1000) | none => true))) = true := by decide +kernel
    exact q x _ (bad_lit (List.all_eq_true.mp hall x hx))
  · refine ⟨_, _, _, rfl, rfl, lk_deeds _ _, ?_⟩
    refine ⟨_, _, _, rfl, rfl, lk_deeds _ _, ?_⟩
    have nl : (ns.map D.str).length = ns.length := List.length_map _
    refine ⟨_, rfl, by omega, by omega, fun p hp => ?_⟩
    dsimp only [namesX]
    rw [cut_to, ← List.map_take]
    have hg : ∀ z ∈ ns.take p, Nm z := fun z hz => R.nm z (List.mem_of_mem_take hz)
    have gl : (ns.take p).length ≤ 3 := by rw [List.length_take]; omega
    have gnd : (ns.take p).Nodup := R.nd.sublist (List.take_sublist _ _)
    generalize ns.take p = gs at hg gl gnd ⊢
    have gl2 : (gs.map D.str).length = gs.length := List.length_map _
    refine ⟨(show 1 ≤ 16777216 by decide), (show 1 ≤ 16777216 by decide), (show 13 ≤ 16777216 by decide), ?_⟩
    refine ⟨_, 3, rfl, rfl, by decide, by decide, by rw [gl2]; show _ * 3 ≤ _; omega, ?_⟩
    refine ⟨_, _, rfl, rfl, by rw [List.length_flatten]; simp; omega, ?_⟩
    refine ⟨_, rfl, by simp, by simp; omega, fun y hy => ?_⟩
    have hby : OkE y ∧ (nameB y = false ∨ y ∈ gs.map D.str) := by
      rcases List.mem_append.mp hy with h | h
      · have hall : ([.str "", .str "Set", .str "abcdefghi", .str "a1", .str "a b", .non, .int 7, .bl true, .tup [.str "set"], .lst [.str "set"], .str "set
", .str "-", .dic []] : List D).all (fun x => okB x && !nameB x) = true := by decide +kernel
        obtain ⟨a, b⟩ := Bool.and_eq_true_iff.mp (List.all_eq_true.mp hall y h)
        exact ⟨okB_ok a, .inl (by simpa using b)⟩
      · have h := lits_flat h
        obtain ⟨u, hu, rfl⟩ := List.mem_map.mp h
        exact ⟨okE_name (hg u hu), .inr h⟩
    obtain ⟨oy, hby⟩ := hby
    refine ⟨(show 1 ≤ 16777216 by decide), _, _, rfl, rfl, (by rw [gl2]; show _ + 1 ≤ _; omega), ?_⟩
    refine ⟨(show 0 ≤ 16777216 by decide), (show 1 ≤ 16777216 by decide), (show 1 ≤ 16777216 by decide), (show 4 ≤ 16777216 by decide), ?_⟩
    refine ⟨_, rfl, (show 0 < 4 by decide), (show 4 ≤ 1000000 by decide), fun t ht => ?_⟩
    have htl : ∃ tl, t = .lst tl ∧ tl.length ≤ 3 ∧ ∀ x ∈ tl, OkE x := by
      rcases List.mem_cons.mp ht with rfl | ht
      · exact ⟨[], rfl, by decide, fun _ z => nomatch z⟩
      rcases List.mem_cons.mp ht with rfl | ht
      · exact ⟨_, rfl, by decide, fun x hx => by rw [List.mem_singleton.mp hx]; exact okB_ok (by decide +kernel)⟩
      rcases List.mem_cons.mp ht with rfl | ht
      · exact ⟨_, rfl, (show 1 ≤ 3 by decide), fun x hx => by rw [List.mem_singleton.mp hx]; exact oy⟩
      · rw [List.mem_singleton.mp ht]
        exact ⟨_, rfl, by omega, fun x hx => by
          obtain ⟨u, hu, rfl⟩ := List.mem_map.mp hx
          exact okE_name (hg u hu)⟩
    obtain ⟨tl, rfl, tl3, ht2⟩ := htl
    refine ⟨_, _, rfl, rfl, (by rw [List.length_append, gl2]; show _ + 1 + _ ≤ _; omega), ?_⟩
    refine ⟨_, rfl, (show 2 ≤ 16777216 by decide), _, rfl, (show 0 < 2 by decide), (show 2 ≤ 1000000 by decide), fun z hz => ?_⟩
    refine ⟨(show 2 ≤ 16777216 by decide), ?_⟩
    rw [gl2]
    refine q z _ (bad_at hg gnd gl oy hby tl3 ht2 ?_)
    rcases List.mem_cons.mp hz with rfl | hz
    · exact .inl rfl
    · exact .inr (List.mem_singleton.mp hz)

end
end K11

namespace K11
open PySem PySem.Spec PyProof.Rows L2 Xv Cr TL Dl
/-- a row that is none -/
structure RowBad (n m : Nat) (x : D) : Prop where
  rb : rowB (n : Nat) (m : Nat) x = false
  el : ElR x
  bd : Bd 4000 7 x
structure EE (x : D) : Prop where
  el : ElE x
  bd : Bd 700 5 x
theorem row_bad {n m : Nat} {z : D} {ys : List D} (hi : itemsD z = some ys) (l : ys.length ≤ 5) (h : ∀ y ∈ ys, EE y) (b : ys.length ≠ m ∨ ∃ y ∈ ys, entB (n : Nat) y = false) : RowBad m n z := by
  refine ⟨?_, ⟨items_no hi, fun xs e => by rw [hi] at e; cases e; exact ⟨by omega, fun y hy => (h y hy).el⟩⟩, ?_⟩
  · unfold rowB
    rw [hi]
    show (decide (((ys.length : Nat) : Int) = (m : Nat)) && ys.all (entB (n : Nat))) = false
    rcases b with b | ⟨y, hy, e⟩
    · rw [decide_eq_false (by omega), Bool.false_and]
    · have : ys.all (entB (n : Nat)) = false := by
        rw [List.all_eq_false]
        exact ⟨y, hy, by rw [e]; decide⟩
      rw [this, Bool.and_false]
  · have k : ∀ y ∈ ys, Bd 700 5 y := fun y hy => (h y hy).bd
    cases z <;> cases hi
    · exact (Bd.lst (n := 5) k l).mono (by decide) (by decide)
    · exact (Bd.tup (n := 5) k l).mono (by decide) (by decide)
theorem row_none {n m : Nat} {z : D} (hi : itemsD z = none) (no : NoOb z) (b : Bd 4000 7 z) : RowBad m n z := ⟨by unfold rowB; rw [hi], ⟨no, fun xs e => by rw [hi] at e; cases e⟩, b⟩
theorem ee_ent {a b : Int} (ha : a.natAbs < 10 ^ 30) (hb : b.natAbs < 10 ^ 30) : EE (entX (a, b)) := by
  refine ⟨⟨(fun _ _ z => nomatch z), fun xs z => by cases z; exact ⟨by show 2 ≤ 1000; decide, fun y hy => by
    rcases List.mem_cons.mp hy with rfl | hy
    · exact (fun _ _ z => nomatch z)
    · rw [List.mem_singleton.mp hy]; exact fun _ _ z => nomatch z⟩⟩, ?_⟩
  refine (Bd.tup (w := 101) (h := 0) (n := 2) (fun x hx => ?_) (Nat.le_refl _)).mono (by decide) (by decide)
  rcases List.mem_cons.mp hx with rfl | hx
  · exact bd_int ha (by decide)
  · rw [List.mem_singleton.mp hx]; exact bd_int hb (by decide)
/-- a leaf -/
def leafB (w : Nat) : D → Bool
  | .int i => decide (i.natAbs < 10 ^ 30) && decide (101 ≤ w)
  | .str z => (z.cps.toList.all fun c => decide (c < 16 ^ 8)) && decide (z.cps.size ≤ w)
  | .bl _ => true
  | .non => true
  | _ => false
theorem leaf_ok {w : Nat} {d : D} (h : leafB w d = true) : NoOb d ∧ Bd w 0 d := by
  cases d with
  | int i => obtain ⟨a, b⟩ := Bool.and_eq_true_iff.mp h; exact ⟨(fun _ _ z => nomatch z), a, of_decide_eq_true b, Nat.zero_le _⟩
  | str z => obtain ⟨a, b⟩ := Bool.and_eq_true_iff.mp h; exact ⟨(fun _ _ z => nomatch z), a, of_decide_eq_true b, Nat.zero_le _⟩
  | bl b => exact ⟨(fun _ _ z => nomatch z), rfl, Nat.zero_le _, Nat.zero_le _⟩
  | non => exact ⟨(fun _ _ z => nomatch z), rfl, Nat.zero_le _, Nat.zero_le _⟩
  | _ => cases h
theorem ee_leaf {d : D} (h : leafB 101 d = true) : EE d := by
  obtain ⟨a, b⟩ := leaf_ok h
  refine ⟨⟨a, fun xs e => by subst e; cases h⟩, b.mono (by decide) (by decide)⟩
/-- a tuple or a list of leaves -/
theorem ee_tup {xs : List D} (h : xs.all (leafB 101) = true) (l : xs.length ≤ 3) : EE (.tup xs) := by
  have k : ∀ x ∈ xs, NoOb x ∧ Bd 101 0 x := fun x hx => leaf_ok (List.all_eq_true.mp h x hx)
  exact ⟨⟨(fun _ _ z => nomatch z), fun ys e => by cases e; exact ⟨by omega, fun x hx => (k x hx).1⟩⟩, (Bd.tup (n := 3) (fun x hx => (k x hx).2) l).mono (by decide) (by decide)⟩
theorem ee_lst {xs : List D} (h : xs.all (leafB 101) = true) (l : xs.length ≤ 3) : EE (.lst xs) := by
  have k : ∀ x ∈ xs, NoOb x ∧ Bd 101 0 x := fun x hx => leaf_ok (List.all_eq_true.mp h x hx)
  exact ⟨⟨(fun _ _ z => nomatch z), fun ys e => nomatch e⟩, (Bd.lst (n := 3) (fun x hx => (k x hx).2) l).mono (by decide) (by decide)⟩
theorem leaf_int {i : Int} (h : i.natAbs < 10 ^ 30) : leafB 101 (.int i) = true := by
  show (decide _ && decide _) = true
  rw [decide_eq_true h]
  rfl
/-- entries that are none -/
def oddL (a b : Int) (n : Nat) : List D := ([.tup [.int 10, .int b], .tup [.int (-1), .int b], .tup [.bl true, .int b], .tup [.non, .int b], .tup [.str "0", .int b], .tup [.int a, .int (n : Nat)], .tup [.int a, .int (-1)]] ++
  [.tup [.int a, .bl false], .tup [.int a, .non], .tup [.int a, .int (10 ^ (29 : Int).toNat)], .tup [.int a, .str "0"], .tup [.int a], .tup [.int a, .int b, .int 0]]) ++
  [.lst [.int a, .int b], .non, .int 0, .str "00", .dic [], .dic [(.inl a, .int b)], .tup [], .tup [.tup [.int a, .int b]], .tup [.int (10 ^ (29 : Int).toNat), .int b]]
theorem big29 : ((10 : Int) ^ (29 : Int).toNat).natAbs < 10 ^ 30 := by decide +kernel
theorem odd_ok {a b : Int} {n : Nat} (a0 : 0 ≤ a) (a9 : a < 10) (b0 : 0 ≤ b) (bn : b < n) (n4 : n ≤ 4) : ∀ o ∈ oddL a b n, EE o ∧ entB (n : Nat) o = false := by
  have la : leafB 101 (.int a) = true := leaf_int (by omega)
  have lb : leafB 101 (.int b) = true := leaf_int (by omega)
  have ln : leafB 101 (.int (n : Nat)) = true := leaf_int (by omega)
  have lg : leafB 101 (.int (10 ^ (29 : Int).toNat)) = true := leaf_int big29
  have hn : inB 0 ((n : Int) - 1) (.int (n : Nat)) = false := by
    show (decide ((0 : Int) ≤ (n : Int)) && decide ((n : Int) ≤ (n : Int) - 1)) = false
    rw [decide_eq_false (show ¬ ((n : Int) ≤ (n : Int) - 1) by omega), Bool.and_false]
  have hg : inB 0 ((n : Int) - 1) (.int (10 ^ (29 : Int).toNat)) = false := by
    show (decide ((0 : Int) ≤ 10 ^ (29 : Int).toNat) && decide ((10 : Int) ^ (29 : Int).toNat ≤ (n : Int) - 1)) = false
    have : ¬ ((10 : Int) ^ (29 : Int).toNat ≤ (n : Int) - 1) := by
      have : (10 : Int) ^ (29 : Int).toNat = 100000000000000000000000000000 := by decide +kernel
      omega
    rw [decide_eq_false this, Bool.and_false]
  have two : ∀ {x y : D}, leafB 101 x = true → leafB 101 y = true → EE (.tup [x, y]) := fun {x y} h1 h2 => ee_tup (by simp [h1, h2]) (by show 2 ≤ 3; decide)
  have sec : ∀ {x : D}, inB 0 ((n : Int) - 1) x = false → entB (n : Nat) (.tup [.int a, x]) = false := fun {x} h => by
    show (ansB _ && inB 0 ((n : Int) - 1) x) = false
    rw [h, Bool.and_false]
  have fst : ∀ {x : D}, ansB x = false → entB (n : Nat) (.tup [x, .int b]) = false := fun {x} h => by
    show (ansB x && _) = false
    rw [h, Bool.false_and]
  unfold oddL
  simp only [List.cons_append, List.nil_append, List.append_assoc]
  refine List.forall_mem_cons.mpr ⟨⟨two rfl lb, fst rfl⟩, ?_⟩
  refine List.forall_mem_cons.mpr ⟨⟨two rfl lb, fst rfl⟩, ?_⟩
  refine List.forall_mem_cons.mpr ⟨⟨two rfl lb, fst rfl⟩, ?_⟩
  refine List.forall_mem_cons.mpr ⟨⟨two rfl lb, fst rfl⟩, ?_⟩
  refine List.forall_mem_cons.mpr ⟨⟨two (by decide +kernel) lb, fst rfl⟩, ?_⟩
  refine List.forall_mem_cons.mpr ⟨⟨two la ln, sec hn⟩, ?_⟩
  refine List.forall_mem_cons.mpr ⟨⟨two la rfl, sec rfl⟩, ?_⟩
  refine List.forall_mem_cons.mpr ⟨⟨two la rfl, sec rfl⟩, ?_⟩
  refine List.forall_mem_cons.mpr ⟨⟨two la rfl, sec rfl⟩, ?_⟩
  refine List.forall_mem_cons.mpr ⟨⟨two la lg, sec hg⟩, ?_⟩
  refine List.forall_mem_cons.mpr ⟨⟨two la (by decide +kernel), sec rfl⟩, ?_⟩
  refine List.forall_mem_cons.mpr ⟨⟨ee_tup (by simp [la]) (by show 1 ≤ 3; decide), rfl⟩, ?_⟩
  refine List.forall_mem_cons.mpr ⟨⟨ee_tup (by simp [la, lb]; rfl) (by show 3 ≤ 3; decide), rfl⟩, ?_⟩
  refine List.forall_mem_cons.mpr ⟨⟨ee_lst (by simp [la, lb]) (by show 2 ≤ 3; decide), rfl⟩, ?_⟩
  refine List.forall_mem_cons.mpr ⟨⟨ee_leaf rfl, rfl⟩, ?_⟩
  refine List.forall_mem_cons.mpr ⟨⟨ee_leaf rfl, rfl⟩, ?_⟩
  refine List.forall_mem_cons.mpr ⟨⟨ee_leaf (by decide +kernel), rfl⟩, ?_⟩
  refine List.forall_mem_cons.mpr ⟨⟨⟨⟨(fun _ _ z => nomatch z), fun xs e => nomatch e⟩, ⟨rfl, Nat.zero_le _, (show 1 ≤ 5 by decide)⟩⟩, rfl⟩, ?_⟩
  refine List.forall_mem_cons.mpr ⟨⟨⟨⟨(fun _ _ z => nomatch z), fun xs e => nomatch e⟩, ⟨?_, (show 101 + 101 + 2 + 0 ≤ 700 by decide), (show 1 ≤ 5 by decide)⟩⟩, rfl⟩, ?_⟩
  · show (decide _ && smD (.int b) && true) = true
    rw [decide_eq_true (show a.natAbs < 10 ^ 30 by omega), show smD (.int b) = true from decide_eq_true (show b.natAbs < 10 ^ 30 by omega)]
    rfl
  refine List.forall_mem_cons.mpr ⟨⟨ee_tup rfl (by show 0 ≤ 3; decide), rfl⟩, ?_⟩
  refine List.forall_mem_cons.mpr ⟨⟨⟨⟨(fun _ _ z => nomatch z), fun xs e => by cases e; exact ⟨by show 1 ≤ 1000; decide, fun x hx => by rw [List.mem_singleton.mp hx]; exact fun _ _ z => nomatch z⟩⟩, ?_⟩, rfl⟩, ?_⟩
  · refine (Bd.tup (w := 204) (h := 1) (n := 1) (fun x hx => ?_) (Nat.le_refl _)).mono (by decide) (by decide)
    rw [List.mem_singleton.mp hx]
    exact (Bd.tup (w := 101) (h := 0) (n := 2) (fun x hx => by
      rcases List.mem_cons.mp hx with rfl | hx
      · exact (leaf_ok la).2
      · rw [List.mem_singleton.mp hx]; exact (leaf_ok lb).2) (Nat.le_refl _)).mono (by decide) (by decide)
  refine List.forall_mem_cons.mpr ⟨⟨two lg lb, fst (by decide +kernel)⟩, fun _ z => nomatch z⟩
theorem ee_row {r : Rw} {n : Nat} (n4 : n ≤ 4) (he : ∀ e ∈ r, (0 ≤ e.1 ∧ e.1 < 10) ∧ (0 ≤ e.2 ∧ e.2 < (n : Int))) : ∀ x ∈ r.map entX, EE x := fun x hx => by
  obtain ⟨e, h, rfl⟩ := List.mem_map.mp hx
  obtain ⟨⟨h1, h2⟩, h3, h4⟩ := he e h
  exact ee_ent (by omega) (by omega)
def fOddRow : List D → (D → Prop) → Prop := fun ds P => ∃ (r : Rw) (n : Nat), ds = [.non, rowX r, .int (n : Nat)] ∧ 0 < r.length ∧ r.length ≤ 3 ∧ n ≤ 4 ∧ (∀ e ∈ r, (0 ≤ e.1 ∧ e.1 < 10) ∧ (0 ≤ e.2 ∧ e.2 < (n : Int))) ∧ ∀ x, RowBad r.length n x → P x
abbrev s_oddr : Stmt := top 46
abbrev N_oddr : List Str := ["_law_pot_here", "_law_row", "_law_size", "_law_at", "_law_answer", "_law_later", "_law_odd", "_law_longer"]
theorem sc_oddr : FnScope N_oddr ["_law_pot_here", "_law_row", "_law_size"] (defScope s_oddr) := ⟨rfl, rfl, rfl, by decide +kernel, rfl, by decide +kernel, by decide +kernel⟩
section
variable {P : Program} {w : World} {K : PySem.W.Frag} {mg : Str → Option Value} {base : Heap} {M : Cm} {Ct CD CR f : Addr} {fd : FuncData}
theorem okd_oddr (F : Fun K "_law_odd_row" "_law_odd_row" s_oddr f fd) (T : Bl mg) (d_draw : Xv.Cl P w K mg base 1 "_law_draw" (spD M [.pot, .bor] fDraw)) (d_dpick : Xv.Cl P w K mg base 2 "_law_pick" (spD M [.pot, .bor] fPick))  : FnOk P w K mg base CX0 3 f fd ["_law_pot_here", "_law_row", "_law_size"] (spD M [.pot, .full, .full] fOddRow) := by
  refine okD0 F sc_oddr rfl fun cdv A outer s H E hr => ⟨_, _, (pss_cons (ps_set (i := 3) sc_oddr.nd rfl (Or.inl rfl) (pe_cl d_draw hr (by decide) (by rfl) (pa_cons (pv 0) (pa_cons (pe_callB (id := "len") (call_ln) (by rfl) T.len (by decide +kernel) (pa_cons (pv 1) pa_nil)) pa_nil))))
  (pss_cons (ps_asg (pe_ix ix_list (pv 1) (pv 3) (fun _ _ => rfl)) (pg_tup (n := 2) rfl (pgs_cons (pg_name (i := 4) sc_oddr.nd rfl (Or.inl rfl)) (pgs_cons (pg_name (i := 5) sc_oddr.nd rfl (Or.inl rfl)) pgs_nil))))
  (pss_cons (ps_set (i := 6) sc_oddr.nd rfl (Or.inl rfl) (pe_lst (pa_cons (pe_tup (pa_cons pe_int (pa_cons (pv 5) pa_nil))) (pa_cons (pe_tup (pa_cons (pe_un un_neg pe_int) (pa_cons (pv 5) pa_nil))) (pa_cons (pe_tup (pa_cons pe_bl (pa_cons (pv 5) pa_nil))) (pa_cons (pe_tup (pa_cons pe_non (pa_cons (pv 5) pa_nil))) (pa_cons (pe_tup (pa_cons pe_str (pa_cons (pv 5) pa_nil))) (pa_cons (pe_tup (pa_cons (pv 4) (pa_cons (pv 2) pa_nil))) (pa_cons (pe_tup (pa_cons (pv 4) (pa_cons (pe_un un_neg pe_int) pa_nil))) pa_nil)))))))))
  (pss_cons (ps_set (i := 6) sc_oddr.nd rfl (Or.inl rfl) (pe_op op_cat (pv 6) (pe_lst (pa_cons (pe_tup (pa_cons (pv 4) (pa_cons pe_bl pa_nil))) (pa_cons (pe_tup (pa_cons (pv 4) (pa_cons pe_non pa_nil))) (pa_cons (pe_tup (pa_cons (pv 4) (pa_cons (pe_op op_pow pe_int pe_int) pa_nil))) (pa_cons (pe_tup (pa_cons (pv 4) (pa_cons pe_str pa_nil))) (pa_cons (pe_tup (pa_cons (pv 4) pa_nil)) (pa_cons (pe_tup (pa_cons (pv 4) (pa_cons (pv 5) (pa_cons pe_int pa_nil)))) pa_nil)))))))))
  (pss_cons (ps_set (i := 6) sc_oddr.nd rfl (Or.inl rfl) (pe_op op_cat (pv 6) (pe_lst (pa_cons (pe_lst (pa_cons (pv 4) (pa_cons (pv 5) pa_nil))) (pa_cons pe_non (pa_cons pe_int (pa_cons pe_str (pa_cons (pe_dnewK) (pa_cons (pe_disp (pps_cons (pv 4) (pv 5) pps_nil) (by rfl) (by rfl) (fun z => by cases z) (by decide)) (pa_cons (pe_tup pa_nil) (pa_cons (pe_tup (pa_cons (pe_tup (pa_cons (pv 4) (pa_cons (pv 5) pa_nil))) pa_nil)) (pa_cons (pe_tup (pa_cons (pe_op op_pow pe_int pe_int) (pa_cons (pv 5) pa_nil))) pa_nil))))))))))))
  (pss_cons (ps_set (i := 7) sc_oddr.nd rfl (Or.inl rfl) (pe_op op_rep (pe_lst (pa_cons (pe_op op_cat (pe_op op_cat (pe_slice sl_list (pv 1) po_none (po_some (pv 3))) (pe_lst (pa_cons (pe_cl d_dpick hr (by decide) (by rfl) (pa_cons (pv 0) (pa_cons (pv 6) pa_nil))) pa_nil))) (pe_slice sl_list (pv 1) (po_some (pe_op op_add (pv 3) pe_int)) po_none)) pa_nil)) pe_int))
  (pss_one (ps_ret (pe_cl d_dpick hr (by decide) (by rfl) (pa_cons (pv 0) (pa_cons (pe_op op_cat (pv 7) (pe_lst (pa_cons (pe_op op_cat (pv 1) (pe_lst (pa_cons (pe_ix ix_list (pv 1) pe_int (fun _ _ => rfl)) pa_nil))) (pa_cons (pe_slice sl_list (pv 1) (po_some pe_int) po_none) (pa_cons (pe_lst pa_nil) (pa_cons (pe_tup pa_nil) (pa_cons pe_non (pa_cons pe_int (pa_cons pe_str (pa_cons (pe_dnewK) (pa_cons (pe_disp (pps_cons pe_int (pe_tup (pa_cons pe_int (pa_cons pe_int pa_nil))) pps_nil) (by rfl) (by rfl) (fun z => by cases z) (by decide)) (pa_cons (pe_ix ix_list (pv 1) pe_int (fun _ _ => rfl)) (pa_cons (pe_lst (pa_cons (pv 1) pa_nil)) pa_nil))))))))))))) pa_nil))))))))))), inferInstance, fun ds Q h => ?_⟩
  obtain ⟨r, n, rfl, r0, r3, n4, he, q⟩ := h
  have rl : (r.map entX).length = r.length := List.length_map _
  refine ⟨_, rfl, by show 0 < (((r.map entX).length : Nat) : Int); omega, by show (((r.map entX).length : Nat) : Int) < _; omega, fun t ht => ?_⟩
  have ht : (t : Int) < (((r.map entX).length : Nat) : Int) := ht
  have tr : t < r.length := by omega
  have hrow := ee_row n4 he
  obtain ⟨⟨a0, a9⟩, b0, bn⟩ := he _ (List.getElem_mem tr)
  have at_ : (r.map entX)[t]? = some (entX r[t]) := by rw [List.getElem?_map, List.getElem?_eq_getElem tr]; rfl
  have at0 : (r.map entX)[0]? = some (entX r[0]) := by rw [List.getElem?_map, List.getElem?_eq_getElem r0]; rfl
  refine ⟨_, _, _, rfl, rfl, atD at_, rfl, ?_⟩
  have hr2 : rowX r = .lst (r.map entX) := rfl
  dsimp only [bCons, bName, bNil]
  generalize hab : r[t] = ab at a0 a9 b0 bn at_
  obtain ⟨a, b⟩ := ab
  dsimp only at a0 a9 b0 bn
  refine ⟨(show 2 ≤ 16777216 by decide), (show 2 ≤ 16777216 by decide), (show 2 ≤ 16777216 by decide), (show 2 ≤ 16777216 by decide), (show 2 ≤ 16777216 by decide), (show 2 ≤ 16777216 by decide), (show 2 ≤ 16777216 by decide), (show 7 ≤ 16777216 by decide), ?_⟩
  refine ⟨(show 2 ≤ 16777216 by decide), (show 2 ≤ 16777216 by decide), ⟨by decide, by decide, by decide⟩, (show 2 ≤ 16777216 by decide), (show 2 ≤ 16777216 by decide), (show 1 ≤ 16777216 by decide), (show 3 ≤ 16777216 by decide), (show 6 ≤ 16777216 by decide), ?_⟩
  refine ⟨_, _, rfl, rfl, (show 13 ≤ 16777216 by decide), ?_⟩
  refine ⟨(show 2 ≤ 16777216 by decide), [(.inl a, .int b)], rfl, (show 1 ≤ 15 by decide), by simp, ?_⟩
  refine ⟨(show 0 ≤ 16777216 by decide), (show 2 ≤ 16777216 by decide), (show 1 ≤ 16777216 by decide), ⟨by decide, by decide, by decide⟩, (show 2 ≤ 16777216 by decide), (show 9 ≤ 16777216 by decide), ?_⟩
  refine ⟨_, _, rfl, rfl, (show 22 ≤ 16777216 by decide), ?_⟩
  dsimp only [rowX]
  rw [show (fun e : Int × Int => D.tup [.int e.1, .int e.2]) = entX from rfl]
  generalize hxs : r.map entX = xs at rl at_ at0 hrow hr2
  refine ⟨_, rfl, (show 0 < 22 by decide), (show 22 ≤ 1000000 by decide), fun o ho => ?_⟩
  obtain ⟨oe, ob⟩ := odd_ok a0 a9 b0 bn n4 o ho
  rw [cut_to]
  have tl : (xs.take t).length = t := by rw [List.length_take]; omega
  have dl : (xs.drop (t + 1)).length = r.length - (t + 1) := by rw [List.length_drop]; omega
  refine ⟨(show 1 ≤ 16777216 by decide), _, _, rfl, rfl, (by rw [tl]; show t + 1 ≤ _; omega), ?_⟩
  refine ⟨_, xs.drop (t + 1), rfl, congrArg D.lst (cut_from xs (t + 1)), (by rw [List.length_append, tl, dl]; show t + 1 + _ ≤ _; omega), ?_⟩
  refine ⟨(show 1 ≤ 16777216 by decide), _, 6, rfl, rfl, by decide, by decide, (show 1 * 6 ≤ 16777216 by decide), ?_⟩
  refine ⟨_, 0, _, rfl, rfl, atD at0, ?_⟩
  refine ⟨(show 1 ≤ 16777216 by decide), _, _, rfl, rfl, (by rw [rl]; show _ + 1 ≤ _; omega), ?_⟩
  refine ⟨(show 0 ≤ 16777216 by decide), (show 0 ≤ 16777216 by decide), (show 2 ≤ 16777216 by decide), [(.inl 0, .tup [.int 0, .int 0])], rfl, by decide, by decide, ?_⟩
  refine ⟨_, 0, _, rfl, rfl, atD at0, ?_⟩
  refine ⟨(show 1 ≤ 16777216 by decide), (show 11 ≤ 16777216 by decide), _, _, rfl, rfl, (by simp), ?_⟩
  refine ⟨_, rfl, (by simp), (by simp), fun x hx => q x ?_⟩
  rcases List.mem_append.mp hx with hx | hx
  · rw [List.mem_singleton.mp (lits_flat hx)]
    refine row_bad (ys := xs.take t ++ [o] ++ xs.drop (t + 1)) rfl (by simp; omega) (fun y hy => ?_) (.inr ⟨o, by simp, ob⟩)
    rcases List.mem_append.mp hy with hy | hy
    · rcases List.mem_append.mp hy with hy | hy
      · exact hrow y (List.mem_of_mem_take hy)
      · rw [List.mem_singleton.mp hy]; exact oe
    · exact hrow y (List.mem_of_mem_drop hy)
  have x0 : entX r[0] ∈ xs := List.mem_of_getElem? at0
  have lf : ∀ {d : D}, itemsD d = none → leafB 101 d = true → RowBad r.length n d := fun h1 h2 => row_none h1 (leaf_ok h2).1 ((leaf_ok h2).2.mono (by decide) (by decide))
  rcases List.mem_cons.mp hx with rfl | hx
  · refine row_bad (ys := xs ++ [entX r[0]]) rfl (by simp; omega) (fun y hy => ?_) (.inl (by simp; omega))
    rcases List.mem_append.mp hy with hy | hy
    · exact hrow y hy
    · rw [List.mem_singleton.mp hy]; exact hrow _ x0
  rcases List.mem_cons.mp hx with rfl | hx
  · refine row_bad (ys := xs.drop 1) (congrArg some (cut_from xs 1)) (by simp; omega) (fun y hy => hrow y (List.mem_of_mem_drop hy)) (.inl (by simp; omega))
  rcases List.mem_cons.mp hx with rfl | hx
  · exact row_bad (ys := []) rfl (by decide) (fun _ z => nomatch z) (.inl (by simp; omega))
  rcases List.mem_cons.mp hx with rfl | hx
  · exact row_bad (ys := []) rfl (by decide) (fun _ z => nomatch z) (.inl (by simp; omega))
  rcases List.mem_cons.mp hx with rfl | hx
  · exact lf rfl rfl
  rcases List.mem_cons.mp hx with rfl | hx
  · exact lf rfl rfl
  rcases List.mem_cons.mp hx with rfl | hx
  · exact lf rfl (by decide +kernel)
  rcases List.mem_cons.mp hx with rfl | hx
  · exact row_none rfl (fun _ _ z => nomatch z) ⟨rfl, Nat.zero_le _, (show 1 ≤ 7 by decide)⟩
  rcases List.mem_cons.mp hx with rfl | hx
  · exact row_none rfl (fun _ _ z => nomatch z) ⟨by decide +kernel, by decide +kernel, by decide +kernel⟩
  obtain ⟨⟨c0, c9⟩, d0, dn⟩ := he _ (List.getElem_mem r0)
  rcases List.mem_cons.mp hx with rfl | hx
  · refine row_bad (ys := [.int r[0].1, .int r[0].2]) rfl (show 2 ≤ 5 by decide) (fun y hy => ?_) (.inr ⟨_, List.mem_cons_self, rfl⟩)
    rcases List.mem_cons.mp hy with rfl | hy
    · exact ee_leaf (leaf_int (by omega))
    · rw [List.mem_singleton.mp hy]; exact ee_leaf (leaf_int (by omega))
  · rw [List.mem_singleton.mp hx]
    refine row_bad (ys := [.lst xs]) rfl (show 1 ≤ 5 by decide) (fun y hy => ?_) (.inr ⟨_, List.mem_cons_self, rfl⟩)
    rw [List.mem_singleton.mp hy]
    refine ⟨⟨(fun _ _ z => nomatch z), fun xs e => nomatch e⟩, (Bd.lst (w := 210) (h := 1) (n := 3) (fun x hx => ?_) (by omega)).mono (by decide) (by decide)⟩
    rw [← hxs] at hx
    obtain ⟨e, h, rfl⟩ := List.mem_map.mp hx
    obtain ⟨⟨h1, h2⟩, h3, h4⟩ := he e h
    refine (Bd.tup (w := 101) (h := 0) (n := 2) (fun x hx => ?_) (Nat.le_refl _)).mono (by decide) (by decide)
    rcases List.mem_cons.mp hx with rfl | hx
    · exact bd_int (by omega) (by decide)
    · rw [List.mem_singleton.mp hx]; exact bd_int (by omega) (by decide)

end
end K11

namespace K11
open PySem PySem.Spec PyProof.Rows L2 Xv Cr TL Dl
/-- rows that are none, and the place that is told -/
structure RowsBad (n : Nat) (b pos : D) : Prop where
  no : NoOb b
  it : ∀ xs, itemsD b = some xs → xs.length ≤ 1000
  bd : Bd 20005 8 b
  ps : Bd 101 0 pos
  h : (fullB b = false ∧ pos = .non) ∨ ∃ xs p y, itemsD b = some xs ∧ (∀ x ∈ xs, ElR x) ∧ xs[p]? = some y ∧ RowsTo (n : Nat) xs p ∧ rowB (n : Nat) xs.length y = false ∧ pos = .int (p : Nat)
theorem RowsBad.go {n : Nat} {b pos : D} (h : RowsBad n b pos) {P : D → Prop} (q : P (.ob 2 [pos])) : fCkRX [b, .int (n : Nat)] P := by
  refine ⟨b, _, rfl, h.no, h.it, ?_⟩
  rcases h.h with ⟨h1, rfl⟩ | ⟨xs, p, y, h1, h2, h3, h4, h5, rfl⟩
  · exact .inl ⟨h1, q⟩
  · exact .inr ⟨xs, p, y, h1, h2, h3, h4, h5, q⟩
def fOddRows : List D → (D → Prop) → Prop := fun ds P => ∃ ns rs, ds = [.non, modelX ns rs] ∧ Right ns rs ∧ ns.length ≤ 3 ∧ rs.length ≤ 4 ∧ ∀ b pos, RowsBad ns.length b pos → P (.tup [b, pos])
theorem rows_lit {n : Nat} {x : D} (h : (tinyB x && (!fullB x && (match itemsD x with | some xs => decide (xs.length ≤ 1000) | none => true))) = true) : RowsBad n x .non := by
  obtain ⟨a, h⟩ := Bool.and_eq_true_iff.mp h
  obtain ⟨b, c⟩ := Bool.and_eq_true_iff.mp h
  obtain ⟨d, e⟩ := tiny_ok a
  refine ⟨d, fun xs hx => by rw [hx] at c; exact of_decide_eq_true c, e.mono (by decide) (by decide), ⟨rfl, Nat.zero_le _, Nat.zero_le _⟩, .inl ⟨by simpa using b, rfl⟩⟩
theorem is_row {r : Rw} : RowIs (rowX r) r := rfl
theorem bd_row {r : Rw} {n : Nat} (r3 : r.length ≤ 5) (n4 : n ≤ 4) (he : ∀ e ∈ r, (0 ≤ e.1 ∧ e.1 < 10) ∧ (0 ≤ e.2 ∧ e.2 < (n : Int))) : Bd 4000 7 (rowX r) := by
  refine (Bd.lst (w := 700) (h := 5) (n := 5) (fun x hx => (ee_row n4 he x hx).bd) ?_).mono (by decide) (by decide)
  show (r.map entX).length ≤ 5
  rw [List.length_map]
  exact r3
/-- a row wrong behind right ones -/
theorem rows_at {rs : List Rw} {m n : Nat} (r4 : rs.length ≤ 4) (m3 : m ≤ 3) (tb : ∀ r ∈ rs, r.length = m ∧ ∀ e ∈ r, (0 ≤ e.1 ∧ e.1 < 10) ∧ (0 ≤ e.2 ∧ e.2 < (n : Int))) (n4 : n ≤ 4) {y : D} (hy : RowBad m n y) {tl : List D} (ht : ∀ x ∈ tl, ElR x ∧ Bd 4000 7 x) (hl : rs.length + 1 + tl.length = n) {z : D} (hz : z = .lst (rs.map rowX ++ [y] ++ tl) ∨ z = .tup (rs.map rowX ++ [y] ++ tl)) : RowsBad m z (.int (rs.length : Nat)) := by
  have gl : (rs.map rowX).length = rs.length := List.length_map _
  have all : ∀ x ∈ rs.map rowX ++ [y] ++ tl, ElR x ∧ Bd 4000 7 x := fun x hx => by
    rcases List.mem_append.mp hx with h | h
    · rcases List.mem_append.mp h with h | h
      · obtain ⟨r, hr, rfl⟩ := List.mem_map.mp h
        obtain ⟨h1, h2⟩ := tb r hr
        exact ⟨row_el is_row (by omega), bd_row (by omega) n4 h2⟩
      · rw [List.mem_singleton.mp h]; exact ⟨hy.el, hy.bd⟩
    · exact ht x h
  have len : (rs.map rowX ++ [y] ++ tl).length = n := by
    rw [List.length_append, List.length_append, gl]; exact hl
  have hi : itemsD z = some (rs.map rowX ++ [y] ++ tl) := by rcases hz with rfl | rfl <;> rfl
  refine ⟨items_no hi, fun xs h => by rw [hi] at h; cases h; omega, ?_, ⟨decide_eq_true (by omega), Nat.le_refl _, Nat.zero_le _⟩, .inr ⟨_, rs.length, y, hi, fun x hx => (all x hx).1, ?_, ?_, ?_, rfl⟩⟩
  · rcases hz with rfl | rfl
    · exact (Bd.lst (n := 5) (fun x hx => (all x hx).2) (by omega)).mono (by decide) (by decide)
    · exact (Bd.tup (n := 5) (fun x hx => (all x hx).2) (by omega)).mono (by decide) (by decide)
  · rw [List.append_assoc, List.getElem?_append_right (by omega), gl, Nat.sub_self]
    rfl
  · intro i x hi hx
    rw [len]
    rw [List.append_assoc, List.getElem?_append_left (by omega)] at hx
    obtain ⟨r, hr, rfl⟩ := List.mem_map.mp (List.mem_of_getElem? hx)
    obtain ⟨h1, h2⟩ := tb r hr
    exact row_b is_row h1 h2
  · rw [len]
    exact hy.rb
abbrev s_oddrs : Stmt := top 47
abbrev N_oddrs : List Str := ["_law_pot_here", "_law_model_here", "_law_rows_now", "_law_size", "_law_at", "_law_made"]
theorem sc_oddrs : FnScope N_oddrs ["_law_pot_here", "_law_model_here"] (defScope s_oddrs) := ⟨rfl, rfl, rfl, by decide +kernel, rfl, by decide +kernel, by decide +kernel⟩
section
variable {P : Program} {w : World} {K : PySem.W.Frag} {mg : Str → Option Value} {base : Heap} {M : Cm} {Ct CD CR f : Addr} {fd : FuncData}
theorem okd_oddrs (F : Fun K "_law_odd_rows" "_law_odd_rows" s_oddrs f fd) (T : Bl mg) (d_draw : Xv.Cl P w K mg base 1 "_law_draw" (spD M [.pot, .bor] fDraw)) (d_dpick : Xv.Cl P w K mg base 2 "_law_pick" (spD M [.pot, .bor] fPick)) (d_oddr : Xv.Cl P w K mg base 3 "_law_odd_row" (spD M [.pot, .full, .full] fOddRow))  : FnOk P w K mg base CX0 4 f fd ["_law_pot_here", "_law_model_here"] (spD M [.pot, .bor] fOddRows) := by
  refine okD0 F sc_oddrs rfl fun cdv A outer s H E hr => ⟨_, _, (pss_cons (ps_if (pt_cmpR op_eq (pe_cl d_draw hr (by decide) (by rfl) (pa_cons (pv 0) (pa_cons pe_int pa_nil))) pe_int (nomark _)) (pss_one (ps_ret (pe_tup (pa_cons (pe_cl d_dpick hr (by decide) (by rfl) (pa_cons (pv 0) (pa_cons (pe_lst (pa_cons pe_non (pa_cons pe_int (pa_cons pe_str (pa_cons pe_str (pa_cons (pe_dnewK) (pa_cons (pe_disp (pps_cons pe_int (pe_lst (pa_cons (pe_tup (pa_cons pe_int (pa_cons pe_int pa_nil))) pa_nil)) pps_nil) (by rfl) (by rfl) (fun z => by cases z) (by decide)) (pa_cons (pe_lst pa_nil) (pa_cons (pe_tup pa_nil) (pa_cons pe_bl pa_nil)))))))))) pa_nil))) (pa_cons pe_non pa_nil))))) pss_nil)
  (pss_cons (ps_par (i := 2) (j := 3) rfl sc_oddrs.nd rfl rfl (by decide) rfl rfl (pa_cons (pe_dget (hu_of hr) (pv 1) pe_str (fun _ _ => rfl)) (pa_cons (pe_callB (id := "len") (call_ln) (by rfl) T.len (by decide +kernel) (pa_cons (pe_dget (hu_of hr) (pv 1) pe_str (fun _ _ => rfl)) pa_nil)) pa_nil)) (by rfl))
  (pss_cons (ps_set (i := 4) sc_oddrs.nd rfl (Or.inl rfl) (pe_cl d_draw hr (by decide) (by rfl) (pa_cons (pv 0) (pa_cons (pv 3) pa_nil))))
  (pss_cons (ps_set (i := 5) sc_oddrs.nd rfl (Or.inl rfl) (pe_op op_cat (pe_slice sl_list (pv 2) po_none (po_some (pv 4))) (pe_lst (pa_cons (pe_cl d_oddr hr (by decide) (by rfl) (pa_cons (pv 0) (pa_cons (pe_ix ix_list (pv 2) (pv 4) (fun _ _ => rfl)) (pa_cons (pv 3) pa_nil)))) pa_nil))))
  (pss_cons (ps_set (i := 5) sc_oddrs.nd rfl (Or.inl rfl) (pe_op op_cat (pv 5) (pe_cl d_dpick hr (by decide) (by rfl) (pa_cons (pv 0) (pa_cons (pe_lst (pa_cons (pe_slice sl_list (pv 2) (po_some (pe_op op_add (pv 4) pe_int)) po_none) (pa_cons (pe_op op_rep (pe_lst (pa_cons pe_non pa_nil)) (pe_op op_sub (pe_op op_sub (pv 3) (pv 4)) pe_int)) pa_nil))) pa_nil)))))
  (pss_one (ps_ret (pe_tup (pa_cons (pe_cl d_dpick hr (by decide) (by rfl) (pa_cons (pv 0) (pa_cons (pe_lst (pa_cons (pv 5) (pa_cons (pe_callTy (T := "tuple") call_tupD (by rfl) T.tuple (by decide +kernel) (pa_cons (pv 5) pa_nil)) pa_nil))) pa_nil))) (pa_cons (pv 4) pa_nil)))))))))), inferInstance, fun ds Q h => ?_⟩
  obtain ⟨ns, rs, rfl, R, n3, r4, q⟩ := h
  have r0 := R.r0
  have tb := R.tb
  refine ⟨5, rfl, by decide, by decide, fun t ht => ?_⟩
  refine ite2 (fun _ => ?_) (fun _ => ?_)
  · refine ⟨(show 2 ≤ 16777216 by decide), (show 1 ≤ 16777216 by decide), [(.inl 0, .lst [.tup [.int 0, .int 0]])], rfl, by decide, by decide, ?_⟩
    refine ⟨(show 0 ≤ 16777216 by decide), (show 0 ≤ 16777216 by decide), (show 9 ≤ 16777216 by decide), ?_⟩
    refine ⟨_, rfl, by decide, by decide, fun x hx => ?_⟩
    refine ⟨(show 2 ≤ 16777216 by decide), ?_⟩
    have hall : ([.non, .int 0, .str "rows", .str "", .dic [], .dic [(.inl 0, .lst [.tup [.int 0, .int 0]])], .lst [], .tup [], .bl true] : List D).all (fun x => tinyB x && (!fullB x && (match itemsD x with | some xs => decide (xs.length ≤ 1000) | none => true))) = true := by decide +kernel
    exact q x _ (rows_lit (List.all_eq_true.mp hall x hx))
  · refine ⟨_, _, _, rfl, rfl, lk_rows _ _, ?_⟩
    refine ⟨_, _, _, rfl, rfl, lk_rows _ _, ?_⟩
    have rl : (rs.map rowX).length = rs.length := List.length_map _
    refine ⟨_, rfl, by omega, by omega, fun p hp => ?_⟩
    have hpr : p < rs.length := by omega
    have hrow : (rs.map rowX)[p]? = some (rowX rs[p]) := by rw [List.getElem?_map, List.getElem?_eq_getElem hpr]; rfl
    obtain ⟨tl1, te⟩ := tb.2 _ (List.getElem_mem hpr)
    refine ⟨_, _, _, rfl, rfl, atD hrow, ?_⟩
    refine ⟨rs[p], rs.length, by rw [rl], by have := R.d0; omega, by omega, r4, te, fun y hy => ?_⟩
    rw [tl1] at hy
    have tk : ((rs.take p).map rowX).length = p := by rw [List.length_map, List.length_take]; omega
    refine ⟨(show 1 ≤ 16777216 by decide), (rs.take p).map rowX, _, congrArg D.lst (by rw [cut_to, List.map_take]), rfl, (by rw [tk]; show p + 1 ≤ _; omega), ?_⟩
    refine ⟨(show 1 ≤ 16777216 by decide), _, ((rs.length : Nat) : Int) - p - 1, rfl, (by rw [rl]), by omega, by omega, (by show 1 * _ ≤ _; omega), ?_⟩
    refine ⟨(show 2 ≤ 16777216 by decide), _, rfl, (show 0 < 2 by decide), (show 2 ≤ 1000000 by decide), fun z hz => ?_⟩
    have htl : ∃ tl, z = .lst tl ∧ p + 1 + tl.length = rs.length ∧ ∀ x ∈ tl, ElR x ∧ Bd 4000 7 x := by
      rcases List.mem_cons.mp hz with rfl | hz
      · refine ⟨(rs.drop (p + 1)).map rowX, congrArg D.lst ((cut_from _ (p + 1)).trans (by rw [List.map_drop])), by rw [List.length_map, List.length_drop]; omega, fun x hx => ?_⟩
        obtain ⟨r, hr, rfl⟩ := List.mem_map.mp hx
        obtain ⟨h1, h2⟩ := tb.2 r (List.mem_of_mem_drop hr)
        exact ⟨row_el is_row (by omega), bd_row (by omega) r4 h2⟩
      · refine ⟨_, List.mem_singleton.mp hz, by rw [List.length_flatten]; simp; omega, fun x hx => ?_⟩
        rw [List.mem_singleton.mp (lits_flat hx)]
        exact ⟨⟨(fun _ _ z => nomatch z), fun xs e => nomatch e⟩, ⟨rfl, Nat.zero_le _, Nat.zero_le _⟩⟩
    obtain ⟨tl, rfl, hl, ht2⟩ := htl
    refine ⟨_, _, rfl, rfl, (by rw [List.length_append, tk]; show p + 1 + _ ≤ _; omega), ?_⟩
    refine ⟨_, rfl, (show 2 ≤ 16777216 by decide), _, rfl, (show 0 < 2 by decide), (show 2 ≤ 1000000 by decide), fun z hz => ?_⟩
    refine ⟨(show 2 ≤ 16777216 by decide), ?_⟩
    have tp : (rs.take p).length = p := by rw [List.length_take]; omega
    have hz2 : z = .lst ((rs.take p).map rowX ++ [y] ++ tl) ∨ z = .tup ((rs.take p).map rowX ++ [y] ++ tl) := by
      rcases List.mem_cons.mp hz with rfl | hz
      · exact .inl rfl
      · exact .inr (List.mem_singleton.mp hz)
    have fin := rows_at (rs := rs.take p) (m := ns.length) (n := rs.length) (by omega) n3 (fun r hr => tb.2 r (List.mem_of_mem_take hr)) r4 hy ht2 (by rw [tp]; exact hl) hz2
    rw [tp] at fin
    exact q z _ fin

end
end K11

namespace K11
open PySem PySem.Spec PyProof.Rows L2 Xv Cr TL Dl
abbrev s_heard : Stmt := top 44
abbrev N_heard : List Str := ["_law_call", "_law_heard_here", "e"]
theorem sc_heard : FnScope N_heard ["_law_call"] (defScope s_heard) := ⟨rfl, rfl, rfl, by decide +kernel, rfl, by decide +kernel, by decide +kernel⟩
/-- what is heard of an error -/
def toldX (nm : Str) (pos : D) : D := .lst [.str nm, .str (shS pos), .bl true]
def fHearX : D → (D → Prop) → Prop := fun d P => ∃ pos, Small pos ∧ ((d = .ob 1 [pos] ∧ P (toldX "deeds" pos)) ∨ (d = .ob 2 [pos] ∧ P (toldX "rows" pos)))
def fHearR : (D → Prop) → Prop := fun P => P (.lst [.str "let"])
/-- what is seen of the two classes -/
structure TwoX (K : PySem.W.Frag) (CD CR CS : Addr) : Prop where
  d1 : PySem.W.kitOne K (.ref CD) (.ref CS) = some true
  d2 : PySem.W.kitOne K (.ref CD) (.type "ValueError") = some true
  r1 : PySem.W.kitOne K (.ref CR) (.ref CS) = some true
  r2 : PySem.W.kitOne K (.ref CR) (.type "ValueError") = some true
  rd : PySem.W.exmOne K (.ref CR) (.ref CD) = some false
section
variable {P : Program} {w : World} {K : PySem.W.Frag} {mg : Str → Option Value} {base : Heap} {M : Cm} {Ct CD CR CS g : Addr} {fd : FuncData} {j : Nat}
def hT1 : TS := tAsg (tLst (tCons (tC (.str "let")) tNil)) (gName 1)
def hL (K : PySem.W.Frag) (CD CR CS : Addr) : List (Value × TSu) := [(.ref CD, fun a cls d => tAsg (tLst (tCons (tC (.str "deeds")) (tCons (tCB (rReprS K) (tCons (tXf a cls d CD "position" (tVar 2)) tNil)) (tCons (tAndV (tCB (rIsX K a cls d CD) (tCons (tVar 2) (tCons (tC (.ref CS)) tNil))) (tCB (rIsX K a cls d CD) (tCons (tVar 2) (tCons (tC (.ty "ValueError")) tNil)))) tNil)))) (gName 1)),
  (.ref CR, fun a cls d => tAsg (tLst (tCons (tC (.str "rows")) (tCons (tCB (rReprS K) (tCons (tXf a cls d CR "position" (tVar 2)) tNil)) (tCons (tAndV (tCB (rIsX K a cls d CR) (tCons (tVar 2) (tCons (tC (.ref CS)) tNil))) (tCB (rIsX K a cls d CR) (tCons (tVar 2) (tCons (tC (.ty "ValueError")) tNil)))) tNil)))) (gName 1))]
theorem heard_b (F : Fun K "_law_heard" "_law_heard" s_heard g fd) (T : Bl mg) (B_ValueError : mg "ValueError" = none) (xd : XCl P w K mg base "InvalidDeeds" CD "position") (xr : XCl P w K mg base "InvalidRows" CR "position") (ed : ExcC K CD) (er : ExcC K CR) (gS : mg "SettleError" = some (.ref CS)) :
    HeardB P w K mg base j N_heard "_law_heard" "_law_call" s_heard g 2 hT1 (hL K CD CR CS) (tRet (tVar 1)) := by
  intro cdv A outer s H hr hgd tc htc
  exact pss_cons (ps_set (i := 1) sc_heard.nd rfl (Or.inl rfl) (pe_lst (pa_cons pe_str pa_nil)))
    (pss_cons (ps_tryN (i := 2) rfl rfl sc_heard.nd rfl rfl (fun W pn xe tk _ => pss_one (ps_expr (htc W pn xe _ _ tk)))
      (ClsOk.cons (ts := fun a cls d => tAsg (tLst (tCons (tC (.str "deeds")) (tCons (tCB (rReprS K) (tCons (tXf a cls d CD "position" (tVar 2)) tNil)) (tCons (tAndV (tCB (rIsX K a cls d CD) (tCons (tVar 2) (tCons (tC (.ref CS)) tNil))) (tCB (rIsX K a cls d CD) (tCons (tVar 2) (tCons (tC (.ty "ValueError")) tNil)))) tNil)))) (gName 1)) (by exact ⟨rfl, by decide, Or.inl xd.ex.gm⟩) (by exact fun a oe cls d pn hz hf => pss_one (ps_set (i := 1) sc_heard.nd rfl (Or.inl rfl) (pe_lst (pa_cons pe_str (pa_cons (pe_callB (id := "repr") (call_reprS hgd hr.units) (by rfl) T.repr (by decide +kernel) (pa_cons (pe_xf xd.xf xd.no hz hf (pv 2)) pa_nil)) (pa_cons (pe_and (pe_callB (id := "isinstance") (call_isX ed hz hf) (by rfl) T.isinstance (by decide +kernel) (pa_cons (pv 2) (pa_cons (pe_glob (v := .ref CS) (by rfl) gS rfl) pa_nil))) (pe_one (pe_callB (id := "isinstance") (call_isX ed hz hf) (by rfl) T.isinstance (by decide +kernel) (pa_cons (pv 2) (pa_cons (pe_bltn (v := .ty "ValueError") (by rfl) B_ValueError (by decide +kernel) rfl) pa_nil))))) pa_nil))))))
      (ClsOk.cons (ts := fun a cls d => tAsg (tLst (tCons (tC (.str "rows")) (tCons (tCB (rReprS K) (tCons (tXf a cls d CR "position" (tVar 2)) tNil)) (tCons (tAndV (tCB (rIsX K a cls d CR) (tCons (tVar 2) (tCons (tC (.ref CS)) tNil))) (tCB (rIsX K a cls d CR) (tCons (tVar 2) (tCons (tC (.ty "ValueError")) tNil)))) tNil)))) (gName 1)) (by exact ⟨rfl, by decide, Or.inl xr.ex.gm⟩) (by exact fun a oe cls d pn hz hf => pss_one (ps_set (i := 1) sc_heard.nd rfl (Or.inl rfl) (pe_lst (pa_cons pe_str (pa_cons (pe_callB (id := "repr") (call_reprS hgd hr.units) (by rfl) T.repr (by decide +kernel) (pa_cons (pe_xf xr.xf xr.no hz hf (pv 2)) pa_nil)) (pa_cons (pe_and (pe_callB (id := "isinstance") (call_isX er hz hf) (by rfl) T.isinstance (by decide +kernel) (pa_cons (pv 2) (pa_cons (pe_glob (v := .ref CS) (by rfl) gS rfl) pa_nil))) (pe_one (pe_callB (id := "isinstance") (call_isX er hz hf) (by rfl) T.isinstance (by decide +kernel) (pa_cons (pv 2) (pa_cons (pe_bltn (v := .ty "ValueError") (by rfl) B_ValueError (by decide +kernel) rfl) pa_nil))))) pa_nil))))))
      ClsOk.nil)))
    (pss_one (ps_ret (pv 1))))
theorem okd_heardX (F : Fun K "_law_heard" "_law_heard" s_heard g fd) (hm : mg "_law_heard" = some (.ref g)) (hb : L2.Binds K fd ["_law_call"] []) (T : Bl mg) (B_ValueError : mg "ValueError" = none) (xd : XCl P w K mg base "InvalidDeeds" CD "position") (xr : XCl P w K mg base "InvalidRows" CR "position") (ed : ExcC K CD) (er : ExcC K CR) (gS : mg "SettleError" = some (.ref CS))
    (Z : TwoX K CD CR CS) [d1 : XcI M CD ["position"] 1] [r1 : XcI M CR ["position"] 2] : HeardC P w K mg base j "_law_heard" "_law_call" (TTX M fHearX) := by
  refine heard_x (ρ1 := fun v => [.raw v, .d (.lst [.str "let"]), .no]) (d1 := by unfold hT1; infer_instance) (d2 := by unfold hL; infer_instance) (d3 := inferInstance) F sc_heard hm rfl (.inl rfl) hb (heard_b F T B_ValueError xd xr ed er gS) (fun _ => rfl) (fun _ => rfl) ?_ (fun c xs P' h a dd => ?_)
  · intro v δ q
    exact ⟨(show 1 ≤ 16777216 by decide), q⟩
  obtain ⟨pos, sm, ⟨e, q⟩ | ⟨e, q⟩⟩ := h
  · cases e
    refine .inl ⟨by rw [d1.ca]; exact xd.em, ?_⟩
    refine ⟨rfl, rfl, d1.ca, 0, pos, by rw [d1.fn]; rfl, fun k hk => absurd hk (Nat.not_lt_zero k), rfl, _, rfl, sm, ?_⟩
    refine ⟨rfl, rfl, d1.ca, true, Z.d1, ?_⟩
    refine ⟨rfl, rfl, d1.ca, true, Z.d2, ?_⟩
    exact ⟨(show 3 ≤ 16777216 by decide), q⟩
  · cases e
    refine .inr ⟨by rw [r1.ca]; exact Z.rd, ?_⟩
    refine .inl ⟨by rw [r1.ca]; exact xr.em, ?_⟩
    refine ⟨rfl, rfl, r1.ca, 0, pos, by rw [r1.fn]; rfl, fun k hk => absurd hk (Nat.not_lt_zero k), rfl, _, rfl, sm, ?_⟩
    refine ⟨rfl, rfl, r1.ca, true, Z.r1, ?_⟩
    refine ⟨rfl, rfl, r1.ca, true, Z.r2, ?_⟩
    exact ⟨(show 3 ≤ 16777216 by decide), q⟩
theorem okd_heardR (F : Fun K "_law_heard" "_law_heard" s_heard g fd) (hm : mg "_law_heard" = some (.ref g)) (hb : L2.Binds K fd ["_law_call"] []) (T : Bl mg) (B_ValueError : mg "ValueError" = none) (xd : XCl P w K mg base "InvalidDeeds" CD "position") (xr : XCl P w K mg base "InvalidRows" CR "position") (ed : ExcC K CD) (er : ExcC K CR) (gS : mg "SettleError" = some (.ref CS)) : HeardC P w K mg base j "_law_heard" "_law_call" (TTR M fHearR) := by
  refine heard_r (ρ1 := fun v => [.raw v, .d (.lst [.str "let"]), .no]) (d1 := by unfold hT1; infer_instance) (d3 := inferInstance) F sc_heard hm rfl (.inl rfl) hb (heard_b F T B_ValueError xd xr ed er gS) (fun _ => rfl) ?_ ?_
  · intro v δ q
    exact ⟨(show 1 ≤ 16777216 by decide), q⟩
  · intro v P' h
    exact h
end
end K11

namespace K11
open PySem PySem.Spec PyProof.Rows L2 Xv Cr TL Dl
theorem rows_pair : ∀ rs : List Rw, Paired RowIs (rs.map rowX) rs
  | [] => .nil
  | r :: t => .cons rfl (rows_pair t)
theorem rows_pairT : ∀ rs : List Rw, Paired RowIs (rs.map fun r => D.tup (r.map entX)) rs
  | [] => .nil
  | r :: t => .cons rfl (rows_pairT t)
theorem right_ab : Right ["abcdefgh"] [[(9, 0)]] := ⟨by decide, by decide, by decide, (fun x hx => by rw [List.mem_singleton.mp hx]; exact ⟨by decide +kernel, by decide +kernel, by decide +kernel⟩), by decide, by decide, rfl, (fun r hr => by rw [List.mem_singleton.mp hr]; exact ⟨rfl, fun e he => by rw [List.mem_singleton.mp he]; decide⟩)⟩
theorem right_z : Right ["z"] [[(0, 1)], [(9, 1)]] := ⟨by decide, by decide, by decide, (fun x hx => by rw [List.mem_singleton.mp hx]; exact ⟨by decide +kernel, by decide +kernel, by decide +kernel⟩), by decide, by decide, rfl, (fun r hr => by
  rcases List.mem_cons.mp hr with rfl | hr
  · exact ⟨rfl, fun e he => by rw [List.mem_singleton.mp he]; decide⟩
  · rw [List.mem_singleton.mp hr]
    exact ⟨rfl, fun e he => by rw [List.mem_singleton.mp he]; decide⟩)⟩
def letP : PyData := .list [.str "let"]
theorem four_let {P : D → Prop} (q : P (.bl true)) : fEqD false (.lst [.lst [.str "let"], .lst [.str "let"], .lst [.str "let"], .lst [.str "let"]]) (.lst [.lst [.str "let"], .lst [.str "let"], .lst [.str "let"], .lst [.str "let"]]) P := by
  have h : PyR (.lst [.str "let"]) letP := .lst (.cons (.str _) .nil)
  have h4 : PyR (.lst [.lst [.str "let"], .lst [.str "let"], .lst [.str "let"], .lst [.str "let"]]) (.list [letP, letP, letP, letP]) := .lst (.cons h (.cons h (.cons h (.cons h .nil))))
  refine ⟨_, _, h4, h4, by decide +kernel, by decide +kernel, ?_⟩
  have : PyData.eqv (.list [letP, letP, letP, letP]) (.list [letP, letP, letP, letP]) = true := by decide +kernel
  rw [this]
  exact q
def fLetR : List D → (D → Prop) → Prop := fun ds P => ∃ ns rs, ds = [modelX ns rs] ∧ Right ns rs ∧ P (.bl true)
abbrev s_letr : Stmt := top 48
abbrev N_letr : List Str := ["_law_model_here", "_law_pack", "_law_row", "_law_heard_here"]
theorem sc_letr : FnScope N_letr ["_law_model_here"] (defScope s_letr) := ⟨rfl, rfl, rfl, by decide +kernel, rfl, by decide +kernel, by decide +kernel⟩
section
variable {P : Program} {w : World} {K : PySem.W.Frag} {mg : Str → Option Value} {base : Heap} {M : Cm} {Ct CD CR f : Addr} {fd : FuncData}
theorem okd_letr (F : Fun K "_law_let_right" "_law_let_right" s_letr f fd) (T : Bl mg) (h_r : HeardC P w K mg base 3 "_law_heard" "_law_call" (TTR M fHearR)) (lm : LamM base mg M.T fd "_law_let_right.<locals>.<lambda>") (k_thg : MakK P w K mg base 7 "Thing" Ct ["rows", "deeds"] CX0 (spI M 0 [.full, .full] fThG)) [hca : CaI M Ct 0] : FnG P w K mg base 11 f fd ["_law_model_here"] (spD M [.bor] fLetR) := by
  refine okDc F sc_letr rfl fun cdv A outer s H hc hr hgd => ⟨_, _, (pss_cons (ps_set (i := 1) sc_letr.nd rfl (Or.inr rfl) (pe_callTy (T := "tuple") call_tupD (by rfl) T.tuple (by decide +kernel) (pa_cons (pe_lc (own := [("_law_row", 2)]) (g := gName 2) (tt := tYes) (te := tCB (rTupD K) (tCons (tVar 2) (tNil))) rfl sc_letr.nd (pi_list (pe_dget (hu_of hr) (pv 0) pe_str (fun _ _ => rfl))) (blkOk_by (N := N_letr) (sc := defScope s_letr) (by decide +kernel)) (fun _ _ _ _ _ => (pg_name (i := 2) sc_letr.nd rfl (Or.inl rfl))) (fun _ _ _ _ _ => pts_nil) (fun _ _ _ _ _ => (pe_callTy (T := "tuple") call_tupD (by rfl) T.tuple (by decide +kernel) (pa_cons (pv 2) pa_nil)))) pa_nil)))
  (pss_cons (ps_own (ps_set (i := 3) sc_letr.nd rfl (Or.inl rfl) (pe_lst (pa_cons (pe_heardR (t := fun E => tMake Ct (spI M 0 [.full, .full] fThG) [] E0 (tCons (tDGet (tVar 0) (tC (.str "deeds"))) (tCons (tDGet (tVar 0) (tC (.str "rows"))) (tNil)))) h_r lm hc hr (by decide) hgd (by rfl) rfl (by rfl) (LamX.lamS_by (by kernel_rfl)) rfl (fun _ _ _ _ _ => rfl) (fun A outer s H E f c2 hrL => (pe_mk0 k_thg hrL (by decide) (by rfl) (pa_cons (pe_dget (hu_of hrL) (pv 0) pe_str (fun _ _ => rfl)) (pa_cons (pe_dget (hu_of hrL) (pv 0) pe_str (fun _ _ => rfl)) pa_nil))))) pa_nil))))
  (pss_cons (ps_expr (pe_bm PySem.F.plainAttrs_list PySem.F.slot_list_append PySem.F.type_list_append mt_append (pv 3) (pa_cons (pe_heardR (t := fun E => tMakeK Ct 0 2 (spI M 0 [.full, .full] fThG) rvK E0 tNil (tCons (tVar 1) (tCons (tCB (rTupD K) (tCons (tDGet (tVar 0) (tC (.str "deeds"))) (tNil))) (tNil)))) h_r lm hc hr (by decide) hgd (by rfl) rfl (by rfl) (LamX.lamS_by (by kernel_rfl)) rfl (fun _ _ _ _ _ => rfl) (fun A outer s H E f c2 hrL => (pe_mk0K k_thg hrL (by decide) (by rfl) (pk_cons (pv 1) (pk_cons (pe_callTy (T := "tuple") call_tupD (by rfl) T.tuple (by decide +kernel) (pa_cons (pe_dget (hu_of hrL) (pv 0) pe_str (fun _ _ => rfl)) pa_nil)) pk_nil)) rfl))) pa_nil)))
  (pss_cons (ps_expr (pe_bm PySem.F.plainAttrs_list PySem.F.slot_list_append PySem.F.type_list_append mt_append (pv 3) (pa_cons (pe_heardR (t := fun E => tMake Ct (spI M 0 [.full, .full] fThG) [] E0 (tCons (tLst (tCons (tC (.str "abcdefgh")) (tNil))) (tCons (tLst (tCons (tLst (tCons (tTup (tCons (tC (.int 9)) (tCons (tC (.int 0)) (tNil)))) (tNil))) (tNil))) (tNil)))) h_r lm hc hr (by decide) hgd (by rfl) rfl (by rfl) (LamX.lamS_by (by kernel_rfl)) rfl (fun _ _ _ _ _ => rfl) (fun A outer s H E f c2 hrL => (pe_mk0 k_thg hrL (by decide) (by rfl) (pa_cons (pe_lst (pa_cons pe_str pa_nil)) (pa_cons (pe_lst (pa_cons (pe_lst (pa_cons (pe_tup (pa_cons pe_int (pa_cons pe_int pa_nil))) pa_nil)) pa_nil)) pa_nil))))) pa_nil)))
  (pss_cons (ps_expr (pe_bm PySem.F.plainAttrs_list PySem.F.slot_list_append PySem.F.type_list_append mt_append (pv 3) (pa_cons (pe_heardR (t := fun E => tMake Ct (spI M 0 [.full, .full] fThG) [] E0 (tCons (tTup (tCons (tC (.str "z")) (tNil))) (tCons (tTup (tCons (tLst (tCons (tTup (tCons (tC (.int 0)) (tCons (tC (.int 1)) (tNil)))) (tNil))) (tCons (tTup (tCons (tTup (tCons (tC (.int 9)) (tCons (tC (.int 1)) (tNil)))) (tNil))) (tNil)))) (tNil)))) h_r lm hc hr (by decide) hgd (by rfl) rfl (by rfl) (LamX.lamS_by (by kernel_rfl)) rfl (fun _ _ _ _ _ => rfl) (fun A outer s H E f c2 hrL => (pe_mk0 k_thg hrL (by decide) (by rfl) (pa_cons (pe_tup (pa_cons pe_str pa_nil)) (pa_cons (pe_tup (pa_cons (pe_lst (pa_cons (pe_tup (pa_cons pe_int (pa_cons pe_int pa_nil))) pa_nil)) (pa_cons (pe_tup (pa_cons (pe_tup (pa_cons pe_int (pa_cons pe_int pa_nil))) pa_nil)) pa_nil))) pa_nil))))) pa_nil)))
  (pss_one (ps_ret (pe_cmpR (op_eqD hr.units) (pv 3) (pe_op op_rep (pe_lst (pa_cons (pe_lst (pa_cons pe_str pa_nil)) pa_nil)) pe_int) (nomark _))))))))), inferInstance, fun ds Q h => ?_⟩
  obtain ⟨ns, rs, rfl, R, q⟩ := h
  have rl : (rs.map rowX).length = rs.length := List.length_map _
  have r8 := R.r8
  refine ⟨_, _, _, rfl, rfl, lk_rows _ _, ?_⟩
  refine ⟨rfl, by rw [rl]; omega, ?_⟩
  refine lcGo_map (h := fun r : Rw => D.tup (r.map entX)) (fun r hr k hk => ⟨_, rfl, hk⟩) ?_
  refine ⟨_, rfl, ?_⟩
  refine ⟨by decide, ⟨_, _, _, rfl, rfl, lk_deeds _ _, _, _, _, rfl, rfl, lk_rows _ _, _, _, ns, rs, rfl, rfl, ⟨_, rfl, rows_pair rs⟩, R, trivial⟩, ?_⟩
  refine ⟨(show 1 ≤ 16777216 by decide), ?_⟩
  refine ⟨⟨_, _, _, rfl, rfl, lk_deeds _ _, _, rfl, _, _, ns, rs, rfl, rfl, ⟨_, rfl, rows_pairT rs⟩, R, trivial⟩, ?_⟩
  refine ⟨(show 1 < 16777216 by decide), ?_⟩
  refine ⟨⟨(show 1 ≤ 16777216 by decide), (show 2 ≤ 16777216 by decide), (show 1 ≤ 16777216 by decide), (show 1 ≤ 16777216 by decide), _, _, ["abcdefgh"], [[(9, 0)]], rfl, rfl, ⟨_, rfl, .cons rfl .nil⟩, right_ab, trivial⟩, ?_⟩
  refine ⟨(show 2 < 16777216 by decide), ?_⟩
  refine ⟨⟨(show 1 ≤ 16777216 by decide), (show 2 ≤ 16777216 by decide), (show 1 ≤ 16777216 by decide), (show 2 ≤ 16777216 by decide), (show 1 ≤ 16777216 by decide), (show 2 ≤ 16777216 by decide), _, _, ["z"], [[(0, 1)], [(9, 1)]], rfl, rfl, ⟨_, rfl, .cons rfl (.cons rfl .nil)⟩, right_z, trivial⟩, ?_⟩
  refine ⟨(show 3 < 16777216 by decide), ?_⟩
  refine ⟨(show 1 ≤ 16777216 by decide), (show 1 ≤ 16777216 by decide), _, 4, rfl, rfl, by decide, by decide, (show 1 * 4 ≤ 16777216 by decide), ?_⟩
  exact four_let q

end
end K11

namespace K11
open PySem PySem.Spec PyProof.Rows L2 Xv Cr TL Dl
theorem small_model {ns : List Str} {rs : List Rw} (R : Right ns rs) (n3 : ns.length ≤ 4) (r4 : rs.length ≤ 4) : Small (modelX ns rs) := by
  have b1 : Bd 20000 8 (namesX ns) := (Bd.lst (w := 8) (h := 0) (n := 4) (fun x hx => by
    obtain ⟨z, hz, rfl⟩ := List.mem_map.mp hx
    exact bd_name (R.nm z hz) (Nat.le_refl _)) (by rw [List.length_map]; exact n3)).mono (by decide) (by decide)
  have b2 : Bd 20005 8 (rowsX rs) := (Bd.lst (w := 4000) (h := 7) (n := 5) (fun x hx => by
    obtain ⟨r, hr, rfl⟩ := List.mem_map.mp hx
    obtain ⟨h1, h2⟩ := R.tb.2 r hr
    exact bd_row (by omega) r4 h2) (by rw [List.length_map]; omega)).mono (by decide) (by decide)
  exact (Bd.dic2 (by decide +kernel) (by decide +kernel) (by decide +kernel) (by decide +kernel) (b1.mono (by decide) (Nat.le_refl _)) b2).small (by decide) (by decide)
theorem small_two {ns : Nat} {a p b r : D} (ha : DeedsBad a p) (hb : RowsBad ns b r) : Small (.lst [.tup [a, p], .tup [b, r]]) := by
  have b1 : Bd 41000 9 (.tup [a, p]) := (Bd.tup (w := 20005) (h := 8) (n := 2) (fun x hx => by
    rcases List.mem_cons.mp hx with rfl | hx
    · exact ha.bd.mono (by decide) (by decide)
    · rw [List.mem_singleton.mp hx]; exact ha.ps.mono (by decide) (by decide)) (Nat.le_refl _)).mono (by decide) (by decide)
  have b2 : Bd 41000 9 (.tup [b, r]) := (Bd.tup (w := 20005) (h := 8) (n := 2) (fun x hx => by
    rcases List.mem_cons.mp hx with rfl | hx
    · exact hb.bd
    · rw [List.mem_singleton.mp hx]; exact hb.ps.mono (by decide) (by decide)) (Nat.le_refl _)).mono (by decide) (by decide)
  refine (Bd.lst (w := 41000) (h := 9) (n := 2) (fun x hx => ?_) (Nat.le_refl _)).small (by decide) (by decide)
  rcases List.mem_cons.mp hx with rfl | hx
  · exact b1
  · rw [List.mem_singleton.mp hx]; exact b2
def toldP (nm : Str) (pos : D) : PyData := .list [.str nm, .str (shS pos), .bool true]
theorem pyr_told (nm : Str) (pos : D) : PyR (toldX nm pos) (toldP nm pos) := .lst (.cons (.str _) (.cons (.str _) (.cons (.bl _) .nil)))
theorem told_same (nm : Str) (pos : D) : PyData.eqv (toldP nm pos) (toldP nm pos) = true := by
  unfold toldP
  simp [PyData.eqv, PyData.eqvAll]
theorem str_ok (z : String) : PyData.strOk (Str.ofString z) = true := by
  have h : ∀ c ∈ (Str.ofString z).cps.toList, c < 0x110000 := fun c hc => by
    have e : (Str.ofString z).cps.toList = z.toList.map Char.toNat := signs_ofString _
    rw [e] at hc
    obtain ⟨ch, _, rfl⟩ := List.mem_map.mp hc
    have h1 := ch.valid
    have h2 : ch.toNat = ch.val.toNat := rfl
    unfold UInt32.isValidChar Nat.isValidChar at h1
    omega
  unfold PyData.strOk
  rw [Array.all_eq_true_iff_forall_mem]
  intro c hc
  exact decide_eq_true (h c (Array.mem_toList_iff.mpr hc))
/-- places that are told -/
def PosOk (pos : D) : Prop := pos = .non ∨ ∃ p : Nat, pos = .int (p : Nat)
theorem pos_ok {pos : D} (h : PosOk pos) : PyData.strOk (shS pos) = true := by
  rcases h with rfl | ⟨p, rfl⟩
  · decide +kernel
  · exact str_ok _
theorem DeedsBad.pos {a p : D} (h : DeedsBad a p) : PosOk p := by
  rcases h.h with ⟨_, e⟩ | ⟨_, p, _, _, _, _, _, _, e⟩
  · exact .inl e
  · exact .inr ⟨p, e⟩
theorem RowsBad.pos {n : Nat} {a p : D} (h : RowsBad n a p) : PosOk p := by
  rcases h.h with ⟨_, e⟩ | ⟨_, p, _, _, _, _, _, _, e⟩
  · exact .inl e
  · exact .inr ⟨p, e⟩
theorem told_shp4 {nm : Str} {pos : D} (h1 : PyData.strOk nm = true) (h : PosOk pos) : SeqAt.shaped (.list [toldP nm pos, toldP nm pos, toldP nm pos, toldP nm pos]) = true := by
  have h2 := pos_ok h
  unfold toldP SeqAt.shaped
  simp [PyData.canLay0, PyData.canLayAll0, PyData.depth, PyData.depthAll, h1, h2]
theorem told_shp2 {nm : Str} {pos : D} (h1 : PyData.strOk nm = true) (h : PosOk pos) : SeqAt.shaped (.list [toldP nm pos, toldP nm pos]) = true := by
  have h2 := pos_ok h
  unfold toldP SeqAt.shaped
  simp [PyData.canLay0, PyData.canLayAll0, PyData.depth, PyData.depthAll, h1, h2]
theorem four_told {nm : Str} {pos : D} {P : D → Prop} (h1 : PyData.strOk nm = true) (hp : PosOk pos) (q : P (.bl false)) : fEqD true (.lst [toldX nm pos, toldX nm pos, toldX nm pos, toldX nm pos]) (.lst [toldX nm pos, toldX nm pos, toldX nm pos, toldX nm pos]) P := by
  have h := pyr_told nm pos
  refine ⟨.list [toldP nm pos, toldP nm pos, toldP nm pos, toldP nm pos], _, .lst (.cons h (.cons h (.cons h (.cons h .nil)))), .lst (.cons h (.cons h (.cons h (.cons h .nil)))), told_shp4 h1 hp, told_shp4 h1 hp, ?_⟩
  have e := told_same nm pos
  have : PyData.eqv (.list [toldP nm pos, toldP nm pos, toldP nm pos, toldP nm pos]) (.list [toldP nm pos, toldP nm pos, toldP nm pos, toldP nm pos]) = true := by
    simp only [PyData.eqv, PyData.eqvAll, e, Bool.and_self]
  rw [this]
  exact q
theorem two_told {nm : Str} {pos : D} {P : D → Prop} (h1 : PyData.strOk nm = true) (hp : PosOk pos) (q : P (.bl false)) : fEqD true (.lst [toldX nm pos, toldX nm pos]) (.lst [toldX nm pos, toldX nm pos]) P := by
  have h := pyr_told nm pos
  refine ⟨.list [toldP nm pos, toldP nm pos], _, .lst (.cons h (.cons h .nil)), .lst (.cons h (.cons h .nil)), told_shp2 h1 hp, told_shp2 h1 hp, ?_⟩
  have e := told_same nm pos
  have : PyData.eqv (.list [toldP nm pos, toldP nm pos]) (.list [toldP nm pos, toldP nm pos]) = true := by
    simp only [PyData.eqv, PyData.eqvAll, e, Bool.and_self]
  rw [this]
  exact q
def fRight : List D → (D → Prop) → Prop := fun ds P => ds = [.non] ∧ P (.bl true)
abbrev s_lright : Stmt := top 49
abbrev N_lright : List Str := ["_law_pot_here", "_law_model_here", "_law_shown", "_law_turn", "_law_names_now", "_law_lines", "_law_kept", "_law_heard_here"]
theorem sc_lright : FnScope N_lright ["_law_pot_here"] (defScope s_lright) := ⟨rfl, rfl, rfl, by decide +kernel, rfl, by decide +kernel, by decide +kernel⟩
section
variable {P : Program} {w : World} {K : PySem.W.Frag} {mg : Str → Option Value} {base : Heap} {M : Cm} {Ct CD CR f : Addr} {fd : FuncData}
theorem okd_lright (F : Fun K "_law_right" "_law_right" s_lright f fd) (T : Bl mg) (d_model : Xv.Cl P w K mg base 4 "_law_model" (spD M [.pot, .bor, .bor] fModel)) (d_oddrs : Xv.Cl P w K mg base 4 "_law_odd_rows" (spD M [.pot, .bor] fOddRows)) (d_oddd : Xv.Cl P w K mg base 3 "_law_odd_deeds" (spD M [.pot, .bor] fOddD)) (h_x : HeardC P w K mg base 3 "_law_heard" "_law_call" (TTX M fHearX)) (lm : LamM base mg M.T fd "_law_right.<locals>.<lambda>") (k_thd : MakK P w K mg base 4 "Thing" Ct ["rows", "deeds"] (L2.CX P w) (spIX M 0 [.full, .bor] fThD)) (k_thr : MakK P w K mg base 7 "Thing" Ct ["rows", "deeds"] (L2.CX P w) (spIX M 0 [.full, .full] fThR)) (d_letr : ClG P w K mg base 11 "_law_let_right" (spD M [.bor] fLetR)) [hca : CaI M Ct 0] : FnG P w K mg base 12 f fd ["_law_pot_here"] (spD M [.pot] fRight) := by
  refine okDc F sc_lright rfl fun cdv A outer s H hc hr hgd => ⟨_, _, (pss_cons (ps_set (i := 1) sc_lright.nd rfl (Or.inr rfl) (pe_cl d_model hr (by decide) (by rfl) (pa_cons (pv 0) (pa_cons pe_int (pa_cons pe_int pa_nil)))))
  (pss_cons (ps_set (i := 2) sc_lright.nd rfl (Or.inl rfl) (pe_callB (id := "repr") (call_reprS hgd hr.units) (by rfl) T.repr (by decide +kernel) (pa_cons (pv 1) pa_nil)))
  (pss_cons (ps_for PassesOwn.never rfl (pi_range1 rfl T.range (pa_cons pe_int pa_nil)) (pg_name (i := 3) sc_lright.nd rfl (Or.inl rfl))
  (pss_cons (ps_asg (pe_tup (pa_cons (pe_cl d_oddd hr (by decide) (by rfl) (pa_cons (pv 0) (pa_cons (pv 1) pa_nil))) (pa_cons (pe_cl d_oddrs hr (by decide) (by rfl) (pa_cons (pv 0) (pa_cons (pv 1) pa_nil))) pa_nil))) (pg_tup (n := 2) rfl (pgs_cons (pg_name (i := 4) sc_lright.nd rfl (Or.inr rfl)) (pgs_cons (pg_name (i := 5) sc_lright.nd rfl (Or.inr rfl)) pgs_nil))))
  (pss_cons (ps_set (i := 6) sc_lright.nd rfl (Or.inl rfl) (pe_callB (id := "repr") (call_reprS hgd hr.units) (by rfl) T.repr (by decide +kernel) (pa_cons (pe_lst (pa_cons (pv 4) (pa_cons (pv 5) pa_nil))) pa_nil)))
  (pss_cons (ps_own (ps_set (i := 7) sc_lright.nd rfl (Or.inl rfl) (pe_lst (pa_cons (pe_heardX (t := fun E => tMake Ct (spIX M 0 [.full, .bor] fThD) [] E (tCons (tOp (rIxT K) (tVar 4) (tC (.int 0))) (tCons (tOp (rIxT K) (tVar 5) (tC (.int 0))) (tNil)))) h_x lm hc hr (by decide) hgd (by rfl) rfl (by rfl) (LamX.lamS_by (by kernel_rfl)) rfl (fun _ _ _ _ _ => rfl) (fun A outer s H E f c2 hrL => (pe_mkX k_thd hrL (by decide) (takes_of rfl rfl rfl rfl) (by rfl) (pa_cons (pe_ix ix_tup (pv 4) pe_int (fun _ _ => rfl)) (pa_cons (pe_ix ix_tup (pv 5) pe_int (fun _ _ => rfl)) pa_nil))))) pa_nil))))
  (pss_cons (ps_expr (pe_bm PySem.F.plainAttrs_list PySem.F.slot_list_append PySem.F.type_list_append mt_append (pv 7) (pa_cons (pe_heardX (t := fun E => tMake Ct (spIX M 0 [.full, .bor] fThD) [] E (tCons (tOp (rIxT K) (tVar 4) (tC (.int 0))) (tCons (tDGet (tVar 1) (tC (.str "rows"))) (tNil)))) h_x lm hc hr (by decide) hgd (by rfl) rfl (by rfl) (LamX.lamS_by (by kernel_rfl)) rfl (fun _ _ _ _ _ => rfl) (fun A outer s H E f c2 hrL => (pe_mkX k_thd hrL (by decide) (takes_of rfl rfl rfl rfl) (by rfl) (pa_cons (pe_ix ix_tup (pv 4) pe_int (fun _ _ => rfl)) (pa_cons (pe_dget (hu_of hrL) (pv 1) pe_str (fun _ _ => rfl)) pa_nil))))) pa_nil)))
  (pss_cons (ps_expr (pe_bm PySem.F.plainAttrs_list PySem.F.slot_list_append PySem.F.type_list_append mt_append (pv 7) (pa_cons (pe_heardX (t := fun E => tMakeK Ct 0 2 (spIX M 0 [.full, .bor] fThD) rvK E tNil (tCons (tOp (rIxT K) (tVar 5) (tC (.int 0))) (tCons (tOp (rIxT K) (tVar 4) (tC (.int 0))) (tNil)))) h_x lm hc hr (by decide) hgd (by rfl) rfl (by rfl) (LamX.lamS_by (by kernel_rfl)) rfl (fun _ _ _ _ _ => rfl) (fun A outer s H E f c2 hrL => (pe_mkXK k_thd hrL (by decide) (takes_of rfl rfl rfl rfl) (by rfl) (pk_cons (pe_ix ix_tup (pv 5) pe_int (fun _ _ => rfl)) (pk_cons (pe_ix ix_tup (pv 4) pe_int (fun _ _ => rfl)) pk_nil)) rfl))) pa_nil)))
  (pss_cons (ps_expr (pe_bm PySem.F.plainAttrs_list PySem.F.slot_list_append PySem.F.type_list_append mt_append (pv 7) (pa_cons (pe_heardX (t := fun E => tMakeK Ct 0 2 (spIX M 0 [.full, .bor] fThD) rvK E tNil (tCons (tC .non) (tCons (tOp (rIxT K) (tVar 4) (tC (.int 0))) (tNil)))) h_x lm hc hr (by decide) hgd (by rfl) rfl (by rfl) (LamX.lamS_by (by kernel_rfl)) rfl (fun _ _ _ _ _ => rfl) (fun A outer s H E f c2 hrL => (pe_mkXK k_thd hrL (by decide) (takes_of rfl rfl rfl rfl) (by rfl) (pk_cons pe_non (pk_cons (pe_ix ix_tup (pv 4) pe_int (fun _ _ => rfl)) pk_nil)) rfl))) pa_nil)))
  (pss_cons (ps_if (pt_cmpR (op_neD hr.units) (pv 7) (pe_op op_rep (pe_lst (pa_cons (pe_lst (pa_cons pe_str (pa_cons (pe_callB (id := "repr") (call_reprS hgd hr.units) (by rfl) T.repr (by decide +kernel) (pa_cons (pe_ix ix_tup (pv 4) pe_int (fun _ _ => rfl)) pa_nil)) (pa_cons pe_bl pa_nil)))) pa_nil)) pe_int) (nomark _)) (pss_one (ps_ret pe_bl)) pss_nil)
  (pss_cons (ps_own (ps_set (i := 7) sc_lright.nd rfl (Or.inl rfl) (pe_lst (pa_cons (pe_heardX (t := fun E => tMake Ct (spIX M 0 [.full, .full] fThR) [] E (tCons (tDGet (tVar 1) (tC (.str "deeds"))) (tCons (tOp (rIxT K) (tVar 5) (tC (.int 0))) (tNil)))) h_x lm hc hr (by decide) hgd (by rfl) rfl (by rfl) (LamX.lamS_by (by kernel_rfl)) rfl (fun _ _ _ _ _ => rfl) (fun A outer s H E f c2 hrL => (pe_mkX k_thr hrL (by decide) (takes_of rfl rfl rfl rfl) (by rfl) (pa_cons (pe_dget (hu_of hrL) (pv 1) pe_str (fun _ _ => rfl)) (pa_cons (pe_ix ix_tup (pv 5) pe_int (fun _ _ => rfl)) pa_nil))))) pa_nil))))
  (pss_cons (ps_expr (pe_bm PySem.F.plainAttrs_list PySem.F.slot_list_append PySem.F.type_list_append mt_append (pv 7) (pa_cons (pe_heardX (t := fun E => tMakeK Ct 0 2 (spIX M 0 [.full, .full] fThR) rvK E tNil (tCons (tOp (rIxT K) (tVar 5) (tC (.int 0))) (tCons (tCB (rTupD K) (tCons (tDGet (tVar 1) (tC (.str "deeds"))) (tNil))) (tNil)))) h_x lm hc hr (by decide) hgd (by rfl) rfl (by rfl) (LamX.lamS_by (by kernel_rfl)) rfl (fun _ _ _ _ _ => rfl) (fun A outer s H E f c2 hrL => (pe_mkXK k_thr hrL (by decide) (takes_of rfl rfl rfl rfl) (by rfl) (pk_cons (pe_ix ix_tup (pv 5) pe_int (fun _ _ => rfl)) (pk_cons (pe_callTy (T := "tuple") call_tupD (by rfl) T.tuple (by decide +kernel) (pa_cons (pe_dget (hu_of hrL) (pv 1) pe_str (fun _ _ => rfl)) pa_nil)) pk_nil)) rfl))) pa_nil)))
  (pss_cons (ps_if (PW.pt (pw_or (pt_cmpR (op_neD hr.units) (pv 7) (pe_op op_rep (pe_lst (pa_cons (pe_lst (pa_cons pe_str (pa_cons (pe_callB (id := "repr") (call_reprS hgd hr.units) (by rfl) T.repr (by decide +kernel) (pa_cons (pe_ix ix_tup (pv 5) pe_int (fun _ _ => rfl)) pa_nil)) (pa_cons pe_bl pa_nil)))) pa_nil)) pe_int) (nomark _)) (pw_or1 (pt_cmpR op_ne (pe_callB (id := "repr") (call_reprS hgd hr.units) (by rfl) T.repr (by decide +kernel) (pa_cons (pe_lst (pa_cons (pv 4) (pa_cons (pv 5) pa_nil))) pa_nil)) (pv 6) (nomark _))))) (pss_one (ps_ret pe_bl)) pss_nil)
  (pss_one (ps_if (pt_not (pt_val (pe_clG d_letr hr (by decide) hgd (by rfl) (pa_cons (pv 1) pa_nil)))) (pss_one (ps_ret pe_bl)) pss_nil)))))))))))))
  (pss_one (ps_ret (pe_cmpR op_eq (pe_callB (id := "repr") (call_reprS hgd hr.units) (by rfl) T.repr (by decide +kernel) (pa_cons (pv 1) pa_nil)) (pv 2) (nomark _))))))), inferInstance, fun ds Q h => ?_⟩
  obtain ⟨rfl, q⟩ := h
  refine ⟨4, 3, rfl, by decide, by decide, by decide, by decide, fun ns rs R r4 n3 => ?_⟩
  refine ⟨_, rfl, small_model R (by omega) r4, ?_⟩
  refine ⟨by decide, ?_⟩
  rw [rgD_zero]
  refine forGo_inv (fun i ρ => ∃ (s3 s4 s5 s6 s7 : Sl), ρ = [.pot, .d (modelX ns rs), .d (.str (shS (modelX ns rs))), s3, s4, s5, s6, s7]) ⟨_, _, _, _, _, rfl⟩ (fun i x ρ hx hI k hk => ?_) (fun ρ hI => ?_)
  · obtain ⟨s3, s4, s5, s6, s7, rfl⟩ := hI
    refine ⟨ns, rs, rfl, R, n3, fun a p ha => ?_⟩
    refine ⟨ns, rs, rfl, R, n3, r4, fun b r hb => ?_⟩
    have hsp : Small p := ha.ps.small (by decide) (by decide)
    have hsr : Small r := hb.ps.small (by decide) (by decide)
    have nl : (ns.map D.str).length = ns.length := List.length_map _
    have d0 := R.d0
    refine ⟨(show 2 ≤ 16777216 by decide), rfl, ?_⟩
    refine ⟨(show 2 ≤ 16777216 by decide), _, rfl, small_two ha hb, ?_⟩
    refine ⟨by decide, _, _, _, rfl, rfl, rfl, _, _, _, rfl, rfl, rfl, a, b, rfl, ?_⟩
    refine ha.go ⟨p, hsp, .inl ⟨rfl, ?_⟩⟩
    refine ⟨(show 1 ≤ 16777216 by decide), ?_⟩
    refine ⟨_, _, _, rfl, rfl, rfl, _, _, _, rfl, rfl, lk_rows _ _, a, _, rfl, ?_⟩
    refine ha.go ⟨p, hsp, .inl ⟨rfl, ?_⟩⟩
    refine ⟨(show 1 < 16777216 by decide), ?_⟩
    refine ⟨_, _, _, rfl, rfl, rfl, _, _, _, rfl, rfl, rfl, a, b, rfl, ?_⟩
    refine ha.go ⟨p, hsp, .inl ⟨rfl, ?_⟩⟩
    refine ⟨(show 2 < 16777216 by decide), ?_⟩
    refine ⟨_, _, _, rfl, rfl, rfl, a, .non, rfl, ?_⟩
    refine ha.go ⟨p, hsp, .inl ⟨rfl, ?_⟩⟩
    refine ⟨(show 3 < 16777216 by decide), ?_⟩
    refine ⟨_, _, _, rfl, rfl, rfl, p, rfl, hsp, (show 3 ≤ 16777216 by decide), (show 1 ≤ 16777216 by decide), _, 4, rfl, rfl, by decide, by decide, (show 1 * 4 ≤ 16777216 by decide), ?_⟩
    refine four_told (by decide +kernel) ha.pos ?_
    refine ite2 (fun z => nomatch z) (fun _ => ?_)
    refine ⟨by decide, _, _, _, rfl, rfl, lk_deeds _ _, _, _, _, rfl, rfl, rfl, namesX ns, b, ns.map D.str, rfl, (fun _ _ z => nomatch z), rfl, by omega, el_names (by omega) R.nm, names_to R.nd R.nm, ?_⟩
    rw [nl]
    refine hb.go ⟨r, hsr, .inr ⟨rfl, ?_⟩⟩
    refine ⟨(show 1 ≤ 16777216 by decide), ?_⟩
    refine ⟨_, _, _, rfl, rfl, rfl, _, _, _, rfl, rfl, lk_deeds _ _, _, rfl, .tup (ns.map D.str), b, ns.map D.str, rfl, (fun _ _ z => nomatch z), rfl, by omega, el_names (by omega) R.nm, names_to R.nd R.nm, ?_⟩
    rw [nl]
    refine hb.go ⟨r, hsr, .inr ⟨rfl, ?_⟩⟩
    refine ⟨(show 1 < 16777216 by decide), ?_⟩
    refine ⟨_, _, _, rfl, rfl, rfl, r, rfl, hsr, (show 3 ≤ 16777216 by decide), (show 1 ≤ 16777216 by decide), _, 2, rfl, rfl, by decide, by decide, (show 1 * 2 ≤ 16777216 by decide), ?_⟩
    refine two_told (by decide +kernel) hb.pos ?_
    refine ite2 (fun z => nomatch z) (fun _ => ?_)
    refine ⟨(show 2 ≤ 16777216 by decide), _, rfl, small_two ha hb, ?_⟩
    refine ite2 (fun z => absurd z (by simp)) (fun _ => ?_)
    refine ⟨ns, rs, rfl, R, ?_⟩
    refine ite2 (fun z => nomatch z) (fun _ => ?_)
    exact hk _ ⟨_, _, _, _, _, rfl⟩
  · obtain ⟨s3, s4, s5, s6, s7, rfl⟩ := hI
    refine ⟨_, rfl, small_model R (by omega) r4, ?_⟩
    have e : (false ^^ decide (shS (modelX ns rs) = shS (modelX ns rs))) = true := by simp
    show Q (.bl (false ^^ decide (shS (modelX ns rs) = shS (modelX ns rs))))
    rw [e]
    exact q

end
end K11

namespace K11
open PySem PySem.Spec PyProof.Rows L2 Xv Cr TL Dl
abbrev s_law : Stmt := top 50
abbrev N_law : List Str := ["_law_script", "_law_k"]
theorem sc_law : FnScope N_law ["_law_script"] (defScope s_law) := ⟨rfl, rfl, rfl, by decide +kernel, rfl, by decide +kernel, by decide +kernel⟩
/-- the classes of this law -/
def CM (Ct CD CR : Addr) (T : List (Addr × Str)) : Cm := ⟨fun c => if c = 0 then Ct else if c = 1 then CD else CR, fun c => if c = 0 then ["_deeds", "_rows"] else ["position"], T⟩
def SamN (p : Addr → Prop) (H H' : Hp) : Prop := ∀ b o, nt o = true → ¬ p b → H b = some o → H' b = some o
def spRight (T : List (Addr × Str)) : Sp := fun vs H Q _ => ∃ (p : Addr), vs = [.ref p] ∧ Pot H p ∧ LamX.Tabs T H ∧ ∀ H', SamN (fun b => b = p) H H' → LamX.Tabs T H' → Q (.bl true) H'
theorem right_d (M : Cm) {vs : List V} {H : Hp} {Q : VK} {E : XK} (h : spRight M.T vs H Q E) : spD M [.pot] fRight vs H Q E := by
  obtain ⟨p, rfl, hp, ht, q⟩ := h
  refine ⟨fun b => b = p, fun _ => False, [.non], fun d => d = .bl true, ⟨fun b e => e ▸ hp, fun _ _ z => z, fun _ z => z.elim, ht⟩, .pot rfl .nil, ⟨rfl, rfl⟩, fun d F' H' v e x r => ?_⟩
  subst e
  cases r
  exact q H' (fun b o n hb h => x.same b o n hb h) x.tbs
theorem fng_imp {P : Program} {w : World} {K : PySem.W.Frag} {mg : Str → Option Value} {base : Heap} {k : Nat} {f : Addr} {fd : FuncData} {ps : List Str} {sp sp' : Sp} (F : FnG P w K mg base k f fd ps sp) (h : ∀ vs H Q E, sp' vs H Q E → sp vs H Q E) : FnG P w K mg base k f fd ps sp' :=
  ⟨fun vs H Q E q => F.len vs H Q E (h vs H Q E q), fun A outer s H args us vs Q a b c d e q => F.run A outer s H args us vs Q a b c d e (h vs H Q E0 q)⟩
theorem clg_imp {P : Program} {w : World} {K : PySem.W.Frag} {mg : Str → Option Value} {base : Heap} {k : Nat} {x : Str} {sp sp' : Sp} (c : ClG P w K mg base k x sp) (h : ∀ vs H Q E, sp' vs H Q E → sp vs H Q E) : ClG P w K mg base k x sp' := by
  obtain ⟨f, fd, ps, F, a, b, d⟩ := c.ex
  exact ⟨f, fd, ps, fng_imp F h, a, b, d⟩
def spLaw (K : PySem.W.Frag) (T : List (Addr × Str)) : Sp := fun vs H Q _ => ∃ (a : Addr) (ns : List Int), vs = [.ref a] ∧ SqL K H a (ns.map V.int) ∧ ns.length ≤ 63 ∧ LamX.Tabs T H ∧ ∀ H', Q (.bl true) H'
theorem sqN {K : PySem.W.Frag} {H H' : Hp} {a : Addr} {xs : List V} (h : SqL K H a xs) (s : SamN (fun _ => False) H H') : SqL K H' a xs := by
  rcases h with h | h
  · exact .inl (h.elim (fun h => .inl (s _ _ rfl id h)) fun ⟨o, h⟩ => .inr ⟨o, s _ _ rfl id h⟩)
  · exact .inr h
section
variable {P : Program} {w : World} {K : PySem.W.Frag} {mg : Str → Option Value} {base : Heap} {f : Addr} {fd : FuncData} {T0 : List (Addr × Str)}
theorem ok_law (F : Fun K "law" "law" s_law f fd) (T : Bl mg) (c_pot : Cl P w K mg base 1 "_law_pot" (spPot K)) (c_right : ClG P w K mg base 12 "_law_right" (spRight T0)) : FnG P w K mg base 13 f fd ["_law_script"] (spLaw K T0) := by
  refine Xv.Fun.okG F sc_law (fun vs H Q E h => ?_) (fun cdv A outer s H vs Q hr hgd h => ?_)
  · obtain ⟨a, ns, rfl, _⟩ := h
    rfl
  · obtain ⟨a, ns, rfl, hS, hlen, hT, q⟩ := h
    refine ⟨_, (pss_one (ps_ret (pe_callB (id := "all") (cr_all rfl) (by rfl) T.all (by decide +kernel) (pa_cons (pe_lc (own := [("_law_k", 1)]) (g := gName 1) (tt := tYes) (te := tCall (spRight T0) [] E0 (tCons (tCall (spPot K) [] E0 (tCons (tVar 0) (tCons (tVar 1) tNil))) tNil)) rfl sc_law.nd (pi_range1 rfl T.range (pa_cons (pe_callB (id := "max") (call_max2 rfl) (by rfl) T.max (by decide +kernel) (pa_cons pe_int (pa_cons (pe_callB (id := "min") (call_m2 rfl) (by rfl) T.min (by decide +kernel) (pa_cons (pe_callB (id := "len") (call_ln) (by rfl) T.len (by decide +kernel) (pa_cons (pv 0) pa_nil)) (pa_cons pe_int pa_nil))) pa_nil))) pa_nil)) (blkOk_by (N := N_law) (sc := defScope s_law) (by decide +kernel)) (fun _ _ _ _ _ => (pg_name (i := 1) sc_law.nd rfl (Or.inl rfl))) (fun _ _ _ _ _ => pts_nil) (fun _ _ _ _ _ => (pe_clG c_right hr (by decide) hgd (by rfl) (pa_cons (pe_cl c_pot hr (by decide) (by rfl) (pa_cons (pv 0) (pa_cons (pv 1) pa_nil))) pa_nil)))) pa_nil)))), ?_⟩
    refine ⟨_, rfl, a, _, rfl, .inl hS, _, _, rfl, _, _, rfl, _, rfl, ?_⟩
    have hm : ∀ z : Int, z = (if (if (4 : Int) < (((ns.map V.int).length : Nat) : Int) then (4 : Int) else (((ns.map V.int).length : Nat) : Int)) > 1 then (if (4 : Int) < (((ns.map V.int).length : Nat) : Int) then (4 : Int) else (((ns.map V.int).length : Nat) : Int)) else 1) → 1 ≤ z ∧ z ≤ 4 := fun z e => by
      subst e
      split <;> split at * <;> omega
    obtain ⟨m1, m4⟩ := hm _ rfl
    generalize (if (if (4 : Int) < (((ns.map V.int).length : Nat) : Int) then (4 : Int) else (((ns.map V.int).length : Nat) : Int)) > 1 then (if (4 : Int) < (((ns.map V.int).length : Nat) : Int) then (4 : Int) else (((ns.map V.int).length : Nat) : Int)) else 1) = m at *
    refine ⟨by omega, by omega, fun D hD => ?_⟩
    refine lc_range (lo := 0) (n := m.toNat) (fun k H' => H' D = some (.lst (List.replicate k (V.bl true))) ∧ SamN (fun _ => False) H H' ∧ LamX.Tabs T0 H') ⟨upd_same, fun b o _ _ e => by rw [upd_ne (ne_of_none e hD)]; exact e, tabs_new hT hD⟩ (fun k H1 hk p => ?_) (fun H1 p => ?_)
    · obtain ⟨h1, h2, h3⟩ := p
      refine ⟨Cr.wipe_back, ?_⟩
      unfold tYes
      dsimp only
      rw [if_pos rfl]
      refine ⟨_, rfl, _, rfl, a, ns, k, ?_, sqN hS h2, by omega, fun H2 p s n hp => ?_⟩
      · show [V.ref a, V.int (0 + (k : Int))] ++ [] = _
        rw [Int.zero_add, List.append_nil]
      have npD : D ≠ p := ne_of_none h1 n
      refine ⟨p, rfl, hp, h3.ext s, fun H3 b3 T3 => ?_⟩
      have hD3 := b3 D _ rfl npD (s _ _ h1)
      refine ⟨_, hD3, by rw [List.length_replicate, sizeLine_eq]; omega, by rw [upd_same, ← List.replicate_succ'], fun b o t _ e => ?_, tabs_upd T3 (fre_pln fun u hu => by rw [hD3] at hu; cases hu; rfl)⟩
      rw [upd_ne (ne_of_none e hD)]
      have e1 := h2 b o t id e
      exact b3 _ _ t (ne_of_none e1 n) (s _ _ e1)
    · obtain ⟨h1, h2, h3⟩ := p
      refine ⟨D, List.replicate m.toNat true, rfl, SqL.of (by rw [h1, List.map_replicate]), ?_⟩
      have e : (List.replicate m.toNat true).all id = true := by
        rw [List.all_eq_true]
        intro x hx
        rw [List.eq_of_mem_replicate hx]
        rfl
      rw [e]
      exact q _
end
end K11

/-! own exception classes with one field, out of what the module's heap says -/
namespace Cr
open PySem PySem.Spec PyProof.Rows L2 Xv
def bmb (b : String) : List Value := [.type b, .type "Exception", .type "BaseException", .type "object"]
theorem basV : Bas "ValueError" "ValueError.__new__" "ValueError.__init__" (bmb "ValueError") := ⟨F.excBase_ValueError, F.store_ValueError⟩
section
variable {P : Program} {w : World} {K : PySem.W.Frag} {mg : Str → Option Value} {base : Heap} {x f qual : Str} {C fI : Addr} {fd : FuncData} {st : Stmt} {B newId initId : String} {bmB : List Value}
theorem ex1_mk (b : Bas B newId initId bmB) (T : ExT K C fI newId bmB) (hno : PySem.W.takerIn K C f = some none) (F : Fun K "__init__" qual st fI fd) (gm : mg x = some (.ref C)) (sc : FnScope ["self", f] ["self", f] (defScope st)) {p1 p2 p3 p4 : Pos}
    (hb : defBody st = [.Assign [.Attribute (.Name "self" p1) f p2] (.Name f p3) p4]) (vS : (defScope st).names.lookup ("self" : Str) = some .local) (vF : (defScope st).names.lookup f = some .local) (hd : (f == ("__debug__" : Str)) = false) (hcd : (f == ("__classdict__" : Str)) = false)
    (bB : ∀ (kV doc pm : Value) (an : Option Addr) (cdv ct u v : Value), bindArgs (PySem.W.fnOf "__init__" qual (defArgs st) (defBody st) (defScope st) .none kV doc pm an cdv ct) ⟨[u, v], []⟩ = pure ((["self", f] : List Str).zip [u, v]))
    (bK : ∀ (kV doc pm : Value) (an : Option Addr) (cdv ct u v : Value), bindArgs (PySem.W.fnOf "__init__" qual (defArgs st) (defBody st) (defScope st) .none kV doc pm an cdv ct) ⟨[u], [(f, v)]⟩ = pure ((["self", f] : List Str).zip [u, v])) : Ex1 P w K mg base x C f := by
  refine ⟨⟨fI, fd, B, newId, initId, bmB, b, T, ok_one b T hno F sc hb vS vF hd hcd, F.binds fun kV doc pm an cdv ct us hl => match us, hl with | [u, v], _ => bB kV doc pm an cdv ct u v, ?_⟩, gm⟩
  obtain ⟨oc, od, kV, doc, pm, an, cdv, ct, osl, rfl, lk, hc⟩ := F.ex
  exact ⟨fun s us ws X l1 l2 => match us, l1, ws, l2 with | [u], _, [v], _ => .of_eq (bK kV doc pm an cdv ct u v), fun r1 r2 => Vals.append r1 r2⟩
/-- what is seen of such a class -/
def ecA (K : PySem.W.Frag) (C fI : Addr) (q : Str) : Bool × FnS × Bool := (PySem.W.keepIn K (.ref fI), fnS K fI, codeS K fI q)
def ecB (K : PySem.W.Frag) (C fI : Addr) : Bool × Bool × Bool × Bool × Bool := (PySem.W.excInitIn K C (bmb "ValueError") "ValueError.__new__", PySem.W.excOver K C (bmb "ValueError"), PySem.W.hasDictIn K C, PySem.W.isFn K (.ref fI), PySem.W.keepIn K (.ref C))
def ecC (K : PySem.W.Frag) (C fI : Addr) (f : Str) : Option (Option Value) × Bool × Option (Option Value) × Option (Option Value) × Option (Option Value) × Option (Option Value) :=
  (PySem.W.findIn K (.ref C) "__setattr__", He.eqO (PySem.W.findIn K (.ref C) "__init__") (some (some (.ref fI))), PySem.W.findIn K (.ref C) "__getattribute__", PySem.W.findIn K (.ref C) "__getattr__", PySem.W.findIn K (.ref C) f, PySem.W.takerIn K C f)
def ecD (K : PySem.W.Frag) (C : Addr) : Option Bool × Option Value × Option Bool := (PySem.W.subIn K (.ref C) (.type "BaseException"), PySem.W.typeIn K (.ref C), PySem.W.exmOne K (.ref C) (.ref C))
abbrev EcT : Type := (Bool × FnS × Bool) × (Bool × Bool × Bool × Bool × Bool) × (Option (Option Value) × Bool × Option (Option Value) × Option (Option Value) × Option (Option Value) × Option (Option Value)) × (Option Bool × Option Value × Option Bool)
def ecO (K : PySem.W.Frag) (C fI : Addr) (q f : Str) : EcT := (ecA K C fI q, ecB K C fI, ecC K C fI f, ecD K C)
def ecV (q : Str) (st : Stmt) : EcT := ((true, some ("__init__", q, defArgs st, .stmts (defBody st), defScope st, mainGlobals, [], .none, builtinsNs), true), (true, true, true, true, true), (some (some (.builtin "object.__setattr__")), true, some (some (.builtin "BaseException.__getattribute__")), some none, some none, some none), (some true, some (.type "type"), some true))
theorem ec_ok {q : Str} (e : ecO K C fI q f = ecV q st) : (∃ fd, Fun K "__init__" q st fI fd) ∧ ExT K C fI "ValueError.__new__" (bmb "ValueError") ∧ PySem.W.takerIn K C f = some none ∧ PySem.W.findIn K (.ref C) f = some none ∧ XfC K C ∧ PySem.W.subIn K (.ref C) (.type "BaseException") = some true ∧ PySem.W.typeIn K (.ref C) = some (.type "type") ∧ PySem.W.exmOne K (.ref C) (.ref C) = some true := by
  unfold ecO ecV ecA ecB ecC ecD at e
  simp only [Prod.mk.injEq] at e
  obtain ⟨⟨a1, a2, a3⟩, ⟨b1, b2, b3, b4, b5⟩, ⟨c1, c2, c3, c4, c5, c6⟩, d1, d2, d3⟩ := e
  exact ⟨fnS_ok a2 a3 a1, ⟨b1, b2, b3, c1, He.eqO_ok c2, b4, b5⟩, c6, c5, ⟨c3, c4, d1, b3⟩, d1, d2, d3⟩
theorem xcl_mk {q : Str} (e : ecO K C fI q f = ecV q st) (hx : Ex1 P w K mg base x C f) : XCl P w K mg base x C f := by
  obtain ⟨_, _, _, h1, h2, h3, h4, h5⟩ := ec_ok e
  exact ⟨hx, h3, h4, h2, h1, h5⟩
/-- a def that may raise, by its place -/
theorem clx_mk {sp : Sp} {ps : List Str} {k : Nat} (D : Dn K mg x st) (ok : ∀ f fd, Fun K x x st f fd → FnOk P w K mg base (L2.CX P w) k f fd ps sp)
    (hb : ∀ (kV doc pm : Value) (an : Option Addr) (cdv ct : Value) (us : List Value), us.length = ps.length → bindArgs (PySem.W.fnOf x x (defArgs st) (defBody st) (defScope st) .none kV doc pm an cdv ct) ⟨us, []⟩ = pure (ps.zip us)) : ClX P w K mg base k x sp := by
  obtain ⟨f, gm, fd, F⟩ := D
  exact ⟨f, fd, ps, ok f fd F, gm, F.kp, F.binds hb⟩
end
end Cr

/-! the law's end: defs called while nothing is shown, that make lambdas -/
namespace Cr
open PySem PySem.Spec PyProof.Rows L2 Xv
/-- the law is called: what of the heap is tracked then -/
def startH (tb : List Addr) (a : Addr) (known : Bool) (o : Obj) (xs : List V) : Hp := fun b => if b ∈ tb then some (.tbl #[]) else if b = a ∧ known = false then some (.frz o (.lst xs)) else none
section
variable {tb : List Addr} {a b : Addr} {known : Bool} {o : Obj} {xs : List V} {u : HO}
theorem startH_cases (h : startH tb a known o xs b = some u) : (b ∈ tb ∧ u = .tbl #[]) ∨ (b ∉ tb ∧ b = a ∧ known = false ∧ u = .frz o (.lst xs)) := by
  unfold startH at h
  split at h
  · cases h; exact .inl ⟨‹_›, rfl⟩
  · split at h
    · cases h
      rename_i n z
      exact .inr ⟨n, z.1, z.2, rfl⟩
    · cases h
theorem startH_tb (h : b ∈ tb) : startH tb a known o xs b = some (.tbl #[]) := if_pos h
end
abbrev noObj : Obj := { cls := .none, data := .fields #[] }
theorem law_callGT {P : Program} {w : World} {K : PySem.W.Frag} {mg mb : Str → Option Value} {k : Nat} {fa a : Addr} {cs : List (Addr × Addr)} {fd : FuncData} {x : Str} {sp : Sp} {s₁ : Shared} {vs : List Value} {ns : List Int}
    (KX : K.In s₁.heap) (hns : s₁.heap.Ns mainGlobals mg) (hb : s₁.heap.Ns builtinsNs mb) (hbb : ∀ x : Str, x ≠ "__name__" → mb x = bootBuiltins x) (hlim : s₁.heap.NoLimit) (hg : s₁.gens = #[])
    (hT : ∀ p ∈ cs, s₁.heap.get? p.2 = some noObj) (nT : ∀ p ∈ cs, K.lookup p.2 = none) (C : ∀ p ∈ cs, PySem.W.CodeHd s₁.heap p.1 p.2)
    (hbm : ∃ (bm : Addr) (ob : Obj), mg "__builtins__" = some (.ref bm) ∧ bm ≠ builtinsNs ∧ s₁.heap.get? bm = some ob ∧ ob.cls = .type "module" ∧ ob.dict = some builtinsNs ∧ ob.data = .plain)
    (ha : s₁.heap.get? a = some { cls := .type "list", data := .seq vs.toArray }) (hi : IntsAre vs ns) (hl : ns.length ≤ sizeLine) (hr : Room k callerA)
    (F : ∀ base : Heap, K.In base → base.Ns mainGlobals mg → (∀ p ∈ cs, LamX.TabB base mg p.1 p.2) → FnG P w K mg base k fa fd [x] sp) (hbind : ∀ (s : Shared) (u : Value), BindsTo s fd ⟨[u], []⟩ [(x, u)])
    (hsp : ∀ H : Hp, (∀ p ∈ cs, H p.2 = some (.tbl #[])) → SqL K H a (ns.map V.int) → sp [.ref a] H (fun v _ => v = .bl true) E0) :
    codeAny (model P w) callerA (.call (.ref fa) ⟨[.ref a], []⟩) (fun r s' => r = .ok (.ret (.bool true)) ∧ OldK s₁.heap s'.heap ∧ s'.os = s₁.os ∧ AllBare s'.gens) s₁ := by
  have rv := vals_ints hi
  have lenV := hi.length
  -- the script's list
  generalize hol : ({ cls := .type "list", data := .seq vs.toArray } : Obj) = ol at ha
  have old : ol.data = .seq vs.toArray := by rw [← hol]
  let H : Hp := startH (cs.map (·.2)) a (K.lookup a).isSome ol (ns.map V.int)
  have tab : ∀ b, b ∈ cs.map (·.2) → s₁.heap.get? b = some noObj ∧ K.lookup b = none := fun b h => by
    obtain ⟨p, hp, rfl⟩ := List.mem_map.mp h
    exact ⟨hT p hp, nT p hp⟩
  have see : ∀ b u, H b = some u → K.lookup b = none ∧ ((s₁.heap.get? b = some noObj ∧ u = .tbl #[]) ∨ (s₁.heap.get? b = some ol ∧ u = .frz ol (.lst (ns.map V.int)))) := fun b u h => by
    rcases startH_cases h with ⟨h1, h2⟩ | ⟨_, rfl, h2, h3⟩
    · exact ⟨(tab b h1).2, .inl ⟨(tab b h1).1, h2⟩⟩
    · exact ⟨by simpa using h2, .inr ⟨ha, h3⟩⟩
  -- what is not tracked
  have un : ∀ {b : Addr} {o : Obj}, s₁.heap.get? b = some o → (∀ us, o.data ≠ .seq us) → o.data ≠ .fields #[] → H b = none := fun {b o} e h1 h2 => by
    cases q : H b with
    | none => rfl
    | some u =>
      rcases (see b u q).2 with ⟨h3, _⟩ | ⟨h3, _⟩
      · rw [e] at h3; cases h3; exact absurd rfl h2
      · rw [e] at h3; cases h3; exact absurd old (h1 _)
  have low : ∀ {b : Addr} {o : Obj}, s₁.heap.get? b = some o → (∀ us, o.data ≠ .seq us) → o.data ≠ .fields #[] → (hidT s₁.heap H).get? b = some o := fun e h1 h2 => hidT_get e (un e h1 h2)
  have nsK : ∀ {b : Addr} {m : Str → Option Value}, s₁.heap.Ns b m → (hidT s₁.heap H).Ns b m := fun {b m} ⟨o, es, ep, e, d, r⟩ => ⟨o, es, ep, low e (fun us z => by rw [d] at z; cases z) (fun z => by rw [d] at z; cases z), d, r⟩
  have hKb : K.In (hidT s₁.heap H) := fun b o e => hidT_get (KX b o e) (by
    cases q : H b with
    | none => rfl
    | some u => rw [(see b u q).1] at e; cases e)
  have hM : L2.Mod K mg (hidT s₁.heap H) := ⟨hKb, nsK hns, ⟨mb, nsK hb, hbb⟩, let ⟨mc, h1, h2⟩ := hlim; ⟨mc, nsK h1, h2⟩⟩
  have TB : ∀ p ∈ cs, LamX.TabB (hidT s₁.heap H) mg p.1 p.2 := fun p hp => by
    obtain ⟨o, us, file, tf, flags, tg, inF, text, tt, e1, r1, r2, r3, rest⟩ := C p hp
    have hc := low e1 (fun us z => by rw [r2] at z; cases z) (fun z => by rw [r2] at z; cases z; simp at r3)
    obtain ⟨bm, ob, b1, b2, b3, b4, b5, b6⟩ := hbm
    obtain ⟨og, es, ep, eg, hd, _⟩ := hns
    refine ⟨⟨o, us, file, tf, flags, tg, inF, text, tt, hc, r1, r2, r3, rest⟩, ⟨bm, ob, b1, b2, fun z => ?_, fun z => ?_, low b3 (fun us z => by rw [b6] at z; cases z) (fun z => by rw [b6] at z; cases z), b4, b5, b6⟩, fun z => ?_⟩
    · rw [z, eg] at b3; cases b3; rw [hd] at b6; cases b6
    · rw [z, hT p hp] at b3; cases b3; cases b6
    · rw [z, hT p hp] at eg; cases eg; cases hd
  have hok : HOk P w H s₁.heap := fun b u h => by
    rcases (see b u h).2 with ⟨h3, rfl⟩ | ⟨h3, rfl⟩
    · exact h3
    · exact ⟨h3, by rw [List.length_map]; exact hl, vs, _, rv, by rw [h3, ← hol]⟩
  have hS : SqL K H a (ns.map V.int) := by
    cases q : K.lookup a with
    | none =>
      refine .inl (.inr ⟨ol, ?_⟩)
      show startH _ a (K.lookup a).isSome ol _ a = _
      unfold startH
      rw [if_neg (fun z => by have := (tab a z).1; rw [ha] at this; cases this; cases old), if_pos ⟨rfl, by rw [q]; rfl⟩]
    | some o =>
      have e := KX a o q
      rw [ha] at e
      cases e
      subst hol
      exact .inr ⟨_, vs.toArray, _, q, rfl, rfl, rfl, by rw [List.size_toArray, lenV]; exact hl, by simpa using rv⟩
  have e0 : Env0 P w K mg (hidT s₁.heap H) callerA [] s₁ H := ⟨rfl, hM, fun b o e => of_hidT e, Nat.le_of_eq (hidT_size _ _), trivial, fun b hb => absurd (show b ∈ ([] : List Addr) from hb) (by simp), hok, .of_eq hg⟩
  refine codeAny_mono ((F _ hKb (nsK hns) TB).run callerA [] s₁ H ⟨[.ref a], []⟩ [.ref a] [.ref a] _ hr rfl e0 (hbind s₁ (.ref a)) (.cons rfl .nil) (hsp H (fun p hp => startH_tb (List.mem_map_of_mem hp)) hS)) fun r s' h => ?_
  cases r with
  | error e => exact False.elim h
  | ok fl =>
    cases fl with
    | next => exact False.elim h
    | brk => exact False.elim h
    | cont => exact False.elim h
    | ret u =>
      obtain ⟨v, H', os, bare, und, hok', r', q⟩ := h
      obtain rfl : v = .bl true := q
      obtain rfl : u = Value.bool true := r'
      have more : ∀ b, b ∈ cs.map (·.2) → ∃ m : Array Value, s'.heap.get? b = some { cls := .none, data := .fields m } := fun b h => by
        obtain ⟨m, z⟩ := und.tbls b #[] (startH_tb h)
        exact ⟨_, hok' b _ z⟩
      have kept : ∀ b o, b ∉ cs.map (·.2) → s₁.heap.get? b = some o → s'.heap.get? b = some o := fun b o nb e => by
        cases z : H b with
        | none => exact und.keep b o e z (by simp [frs]) (by simp)
        | some u =>
          rcases startH_cases z with ⟨h1, _⟩ | ⟨_, h1, _, rfl⟩
          · exact absurd h1 nb
          · obtain ⟨e1, _⟩ := hok b _ z
            obtain ⟨e2, _⟩ := hok' b _ (und.frzs b _ _ z)
            rw [e] at e1
            cases e1
            exact e2
      refine ⟨rfl, ⟨fun b o e => ?_, fun b o e => ?_⟩, os, bare⟩
      · by_cases hb : b ∈ cs.map (·.2)
        · obtain ⟨m, hm⟩ := more b hb
          obtain ⟨p, hp, ep⟩ := List.mem_map.mp hb
          subst ep
          rw [hT p hp] at e
          cases e
          exact .inr (.inl ⟨((C p hp).tab (hT p hp)).isCodeTable, rfl, #[], m, rfl, by rw [Array.empty_append]; exact hm⟩)
        · exact .inl (kept b o hb e)
      · by_cases hb : b ∈ cs.map (·.2)
        · obtain ⟨m, hm⟩ := more b hb
          exact ⟨_, hm⟩
        · exact ⟨o, kept b o hb e⟩
/-- the end -/
theorem walkGT {l : PySem.W.OpenLaw} {n k : Nat} {q : Program} {loose : List Str} {XP : (Str → Option Value) → Heap → Prop} {YP : World → Heap → Prop} {d : DefRec} {x : Str}
    (hn : l.most = some n) (hn2 : n ≤ sizeLine) (hdf : d.params.defaults = []) (hr : Room k callerA)
    (F : ∀ (w : World) (mg : Str → Option Value) (fa : Addr) (h : Heap), YP w h → h.Ns mainGlobals mg → mg d.name = some (.ref fa) →
      ∃ (K : PySem.W.Frag) (fd : FuncData) (sp : Sp) (cs : List (Addr × Addr)), K.In h ∧ (∀ p ∈ cs, h.get? p.2 = some noObj ∧ K.lookup p.2 = none ∧ PySem.W.CodeHd h p.1 p.2) ∧ (∀ (s : Shared) (u : Value), BindsTo s fd ⟨[u], []⟩ [(x, u)]) ∧
        (∀ (H : Hp) (a : Addr) (ns : List Int), ns.length ≤ n → (∀ p ∈ cs, H p.2 = some (.tbl #[])) → SqL K H a (ns.map V.int) → sp [.ref a] H (fun v _ => v = .bl true) E0) ∧
        ∀ base : Heap, K.In base → base.Ns mainGlobals mg → (∀ p ∈ cs, LamX.TabB base mg p.1 p.2) → FnG l.prog w K mg base k fa fd [x] sp) :
    PySem.W.WalkO q loose XP YP l.row.toRowW d [] (fun f vs => PySem.call f vs) := by
  refine Att.attach_call hn hdf (fun w s₀ s₁ mg mb fa o pm cd doc a vs ns G Y ho hd hcd hmg hobj hints hlen hg => ?_)
  obtain ⟨K, fd, sp, cs, KX, hc, hb, hsp, hF⟩ := F w mg fa _ Y G.T.g hmg
  exact law_callGT KX G.T.g G.T.b G.T.builtins G.T.nolimit hg (fun p hp => (hc p hp).1) (fun p hp => (hc p hp).2.1) (fun p hp => (hc p hp).2.2) G.T.bmain hobj hints (Nat.le_trans hlen hn2) hr hF hb (fun H hO hS => hsp H a ns hlen hO hS)
end Cr

/-! defs that make lambdas: what is seen of their code objects and tables -/
namespace Cr
open PySem PySem.Spec PyProof.Rows L2 Xv
/-- a def's code object -/
def cdA (K : PySem.W.Frag) (f : Addr) : Addr := match K.lookup f with
  | some ⟨_, _, .func fd, _⟩ => (match fd.code with
    | .ref c => c
    | _ => 0)
  | _ => 0
def cdB (K : PySem.W.Frag) (f : Addr) : Bool := match K.lookup f with
  | some ⟨_, _, .func fd, _⟩ => (match fd.code with
    | .ref _ => true
    | _ => false)
  | _ => false
/-- a code object's table -/
def tbA (K : PySem.W.Frag) (c : Addr) : Addr := match K.lookup c with
  | some ⟨_, _, .fields vs, _⟩ => (match (vs[11]? : Option Value) with
    | some (.ref P) => P
    | _ => 0)
  | _ => 0
def clsO (K : PySem.W.Frag) (c : Addr) : Option Value := match K.lookup c with
  | some ⟨v, _, _, _⟩ => some v
  | none => none
def strV : Value → Bool
  | .str _ _ => true
  | _ => false
def intV : Value → Bool
  | .int _ _ => true
  | _ => false
def blV : Value → Bool
  | .bool _ => true
  | _ => false
def hdB (K : PySem.W.Frag) (c : Addr) : Bool := match K.lookup c with
  | some ⟨_, _, .fields vs, _⟩ => (match (vs[11]? : Option Value) with
      | some (.ref P) => !Nat.beq c P
      | _ => false) && (strV (vs.getD 18 .none) && (intV (vs.getD 7 .none) && (blV (vs.getD 9 .none) && intV (vs.getD 10 .none))))
  | _ => false
theorem hd_ok {K : PySem.W.Frag} {h : Heap} {c : Addr} (X : K.In h) (e1 : clsO K c = some (.type "code")) (e2 : hdB K c = true) : PySem.W.CodeHd h c (tbA K c) := by
  unfold clsO at e1
  unfold hdB at e2
  cases z : K.lookup c with
  | none => rw [z] at e1; cases e1
  | some o =>
    obtain ⟨v, od, dt, sl⟩ := o
    rw [z] at e1 e2
    have ec : v = .type "code" := Option.some.inj e1
    cases dt with
    | fields vs =>
      obtain ⟨a, b⟩ := Bool.and_eq_true_iff.mp e2
      obtain ⟨b1, b⟩ := Bool.and_eq_true_iff.mp b
      obtain ⟨b2, b⟩ := Bool.and_eq_true_iff.mp b
      obtain ⟨b3, b4⟩ := Bool.and_eq_true_iff.mp b
      cases y : vs[11]? with
      | none => rw [y] at a; cases a
      | some u =>
        rw [y] at a
        cases u with
        | ref P =>
          have ne : c ≠ P := fun q => by
            subst q
            have : Nat.beq c c = true := Nat.beq_refl c
            have a : (!Nat.beq c c) = true := a
            rw [this] at a
            cases a
          have tb : tbA K c = P := by unfold tbA; rw [z]; dsimp only; rw [y]
          rw [tb]
          have g11 : vs.getD 11 .none = .ref P := by rw [Array.getD_eq_getD_getElem?, y]; rfl
          cases h18 : vs.getD 18 .none <;> rw [h18] at b1 <;> first | cases b1 | skip
          cases h7 : vs.getD 7 .none <;> rw [h7] at b2 <;> first | cases b2 | skip
          cases h9 : vs.getD 9 .none <;> rw [h9] at b3 <;> first | cases b3 | skip
          cases h10 : vs.getD 10 .none <;> rw [h10] at b4 <;> first | cases b4 | skip
          exact ⟨_, vs, _, _, _, _, _, _, _, X _ _ z, ec, rfl, y, g11, h18, h7, h9, h10, ne⟩
        | _ => cases a
    | _ => cases e2
/-- an empty table -/
def tabE (g : Addr → Option Obj) (P : Addr) : Bool := match g P with
  | some ⟨.none, none, .fields vs, sl⟩ => vs.isEmpty && sl.isEmpty
  | _ => false
theorem tabE_ok {g : Addr → Option Obj} {P : Addr} (h : tabE g P = true) : g P = some noObj := by
  unfold tabE at h
  split at h
  · rename_i vs sl e
    obtain ⟨a, b⟩ := Bool.and_eq_true_iff.mp h
    rw [e, Array.isEmpty_iff.mp a, Array.isEmpty_iff.mp b]
  · cases h
abbrev LbT : Type := Bool × Option Value × Bool × Bool
def lbO (K : PySem.W.Frag) (x : Str) : LbT := (cdB K (He.ga K x), clsO K (cdA K (He.ga K x)), hdB K (cdA K (He.ga K x)), (K.lookup (tbA K (cdA K (He.ga K x)))).isNone)
def lbV : LbT := (true, some (.type "code"), true, true)
/-- a def by its name, its code object known -/
def Ln (K : PySem.W.Frag) (mg : Str → Option Value) (x : Str) (st : Stmt) (c : Addr) : Prop := ∃ f, mg x = some (.ref f) ∧ ∃ fd, Fun K x x st f fd ∧ fd.code = .ref c
theorem ln_mk {K : PySem.W.Frag} {mg : Str → Option Value} {x : Str} {st : Stmt} {f : Addr} (gm : mg x = some (.ref f)) (F : Fn K x x st f) (h : cdB K f = true) : Ln K mg x st (cdA K f) := by
  obtain ⟨fd, F⟩ := F
  refine ⟨f, gm, fd, F, ?_⟩
  obtain ⟨oc, od, kV, doc, pm, an, cdv, ct, osl, rfl, lk, hc⟩ := F.ex
  unfold cdA
  unfold cdB at h
  rw [lk] at h ⊢
  dsimp only at h ⊢
  cases cdv with
  | ref c => rfl
  | _ => cases h
theorem clgn_mk {P : Program} {w : World} {K : PySem.W.Frag} {mg : Str → Option Value} {base : Heap} {k : Nat} {x : Str} {st : Stmt} {ps : List Str} {sp : Sp} {c : Addr} (D : Ln K mg x st c) (ok : ∀ f fd, Fun K x x st f fd → fd.code = .ref c → FnG P w K mg base k f fd ps sp)
    (hb : ∀ (kV doc pm : Value) (an : Option Addr) (cdv ct : Value) (us : List Value), us.length = ps.length → bindArgs (PySem.W.fnOf x x (defArgs st) (defBody st) (defScope st) .none kV doc pm an cdv ct) ⟨us, []⟩ = pure (ps.zip us)) : Xv.ClG P w K mg base k x sp := by
  obtain ⟨f, gm, fd, F, hc⟩ := D
  exact ⟨f, fd, ps, ok f fd F hc, gm, F.kp, F.binds hb⟩
end Cr

namespace K11
open PySem PySem.Spec PyProof.Rows L2 Xv Cr TL Dl
/-! ### the facts as tables -/
def lt (l : List String) (i : Nat) : Str := l.getD i ""
def bnl : List String := ["len", "abs", "max", "min", "int", "divmod", "repr", "isinstance", "enumerate", "range", "all", "list", "tuple", "set", "str", "bool", "ValueError"]
def bn (i : Nat) : Str := lt bnl i
def dnl0 : List String := ["is_integer", "is_integer_from", "is_list", "is_filled_list", "is_name", "is_answer", "is_entry", "check_limit", "is_row", "check_rows", "_law_pot", "_law_draw", "_law_pick", "_law_names", "_law_table", "_law_model", "_law_heard", "_law_odd_deeds"]
def dnl1 : List String := ["_law_odd_row", "_law_odd_rows", "_law_let_right", "_law_right", "law"]
def dnl : List String := dnl0 ++ dnl1
def dn (i : Nat) : Str := lt dnl i
def ds (i : Nat) : Stmt := top (([15, 16, 17, 18, 19, 20, 21, 25, 27, 28, 37, 38, 39, 40, 41, 42, 44, 45, 46, 47, 48, 49, 50] : List Nat).getD i 0)
def cnl : List String := ["LETTERS", "LONGEST_NAME", "GREATEST_ANSWER", "MOST_DEEDS", "MOST_STATES"]
def cn (i : Nat) : Str := lt cnl i
def cvl : Nat → Option (Int ⊕ Str)
  | 0 => some (.inr sgn)
  | 1 => some (.inl 8)
  | 2 => some (.inl 9)
  | 3 => some (.inl 4)
  | 4 => some (.inl 8)
  | _ => none
/-- a global's plain value -/
def cv (K : PySem.W.Frag) (x : Str) : Option (Int ⊕ Str) := match PySem.W.nsIn K mainGlobals x with
  | some (some (.int i _)) => some (.inl i)
  | some (some (.str z _)) => some (.inr z)
  | _ => none
theorem cv_int {K : PySem.W.Frag} {h : Heap} {mg : Str → Option Value} {x : Str} {i : Int} (X : K.In h) (G : h.Ns mainGlobals mg) (e : cv K x = some (.inl i)) : ∃ t, mg x = some (.int i t) := by
  unfold cv at e
  split at e
  · rename_i z
    cases e
    exact ⟨_, PySem.W.mg_of X G z⟩
  · cases e
  · cases e
theorem cv_str {K : PySem.W.Frag} {h : Heap} {mg : Str → Option Value} {x z : Str} (X : K.In h) (G : h.Ns mainGlobals mg) (e : cv K x = some (.inr z)) : ∃ t, mg x = some (.str z t) := by
  unfold cv at e
  split at e
  · cases e
  · rename_i z
    cases e
    exact ⟨_, PySem.W.mg_of X G z⟩
  · cases e
def CT (K : PySem.W.Frag) : Addr := He.ga K "Thing"
def mI (K : PySem.W.Frag) : Addr := He.ma K (CT K) "__init__"
abbrev s_ti : Stmt := inClass (top 30) 0
abbrev s_cd : Stmt := top 26
def xn : Nat → Str
  | 0 => "InvalidDeeds"
  | _ => "InvalidRows"
def xs : Nat → Stmt
  | 0 => inClass (top 3) 0
  | _ => inClass (top 4) 0
def xq (i : Nat) : Str := xn i ++ ".__init__"
def CX (K : PySem.W.Frag) (i : Nat) : Addr := He.ga K (xn i)
def FX (K : PySem.W.Frag) (i : Nat) : Addr := He.ma K (CX K i) "__init__"
def CS (K : PySem.W.Frag) : Addr := He.ga K "SettleError"
def lmn : Nat → Str
  | 0 => "_law_let_right"
  | _ => "_law_right"
def cA (K : PySem.W.Frag) (i : Nat) : Addr := cdA K (He.ga K (lmn i))
def pA (K : PySem.W.Frag) (i : Nat) : Addr := tbA K (cA K i)
def obsK (K : PySem.W.Frag) :=
  ((List.range 17).map (fun i => PySem.W.nsIn K mainGlobals (bn i)),
   (List.range 5).map (fun i => cv K (cn i)),
   (List.range 23).map (fun i => (He.eqO (PySem.W.nsIn K mainGlobals (dn i)) (some (some (.ref (He.ga K (dn i))))), PySem.W.keepIn K (.ref (He.ga K (dn i))), fnS K (He.ga K (dn i)), codeS K (He.ga K (dn i)) (dn i))),
   (He.eqO (PySem.W.nsIn K mainGlobals "check_deeds") (some (some (.ref (He.ga K "check_deeds")))), PySem.W.keepIn K (.ref (He.ga K "check_deeds")), fnSD K (He.ga K "check_deeds"), codeS K (He.ga K "check_deeds") "check_deeds", dflN K (He.ga K "check_deeds")),
   (He.eqO (PySem.W.findIn K (.ref (CT K)) "__init__") (some (some (.ref (mI K)))), PySem.W.isFn K (.ref (mI K)), PySem.W.keepIn K (.ref (mI K)), PySem.W.fnIn K (mI K), fnS K (mI K), codeS K (mI K) "Thing.__init__"),
   (He.eqO (PySem.W.nsIn K mainGlobals "Thing") (some (some (.ref (CT K)))), PySem.W.plainGet K (CT K) Str.empty, PySem.W.hasDictIn K (CT K), PySem.W.plainOver K (CT K), PySem.W.makesIn K (CT K), PySem.W.keepIn K (.ref (CT K))),
   (PySem.W.findIn K (.ref (CT K)) "__setattr__", PySem.W.findIn K (.ref (CT K)) "_deeds", PySem.W.findIn K (.ref (CT K)) "_rows"),
   (List.range 2).map (fun i => (He.eqO (PySem.W.nsIn K mainGlobals (xn i)) (some (some (.ref (CX K i)))), ecO K (CX K i) (FX K i) (xq i) "position")),
   (List.range 2).map (fun i => (PySem.W.findIn K (.ref (CX K i)) "__class__", PySem.W.mroIn K (CX K i) (.type "object"), PySem.W.kitOne K (.ref (CX K i)) (.ref (CS K)), PySem.W.kitOne K (.ref (CX K i)) (.type "ValueError"))),
   (He.eqO (PySem.W.nsIn K mainGlobals "SettleError") (some (some (.ref (CS K)))), PySem.W.exmOne K (.ref (CX K 1)) (.ref (CX K 0)), PySem.W.specialIn K (.builtin "object.__class__") "__get__", PySem.W.takesIn K (.builtin "object.__class__"), Nat.beq (pA K 0) (pA K 1)),
   (List.range 2).map (fun i => lbO K (lmn i)))
abbrev AlK : Type := List (Option (Option Value)) × List (Option (Int ⊕ Str)) × List (Bool × Bool × FnS × Bool) × (Bool × Bool × Option (Str × Str × Arguments × FuncBody × Scope × Addr × List Str × Addr) × Bool × Bool) × (Bool × Bool × Bool × Bool × FnS × Bool) × (Bool × Bool × Bool × Bool × Bool × Bool) × (Option (Option Value) × Option (Option Value) × Option (Option Value)) × List (Bool × EcT) × List (Option (Option Value) × Option Bool × Option Bool × Option Bool) × (Bool × Option Bool × Option (Option Value) × Option Bool × Bool) × List LbT
def valK : AlK :=
  ((List.range 17).map (fun _ => some none),
   (List.range 5).map cvl,
   (List.range 23).map (fun i => (true, true, some (dn i, dn i, defArgs (ds i), .stmts (defBody (ds i)), defScope (ds i), mainGlobals, [], .none, builtinsNs), true)),
   (true, true, some ("check_deeds", "check_deeds", defArgs s_cd, .stmts (defBody s_cd), defScope s_cd, mainGlobals, [], builtinsNs), true, true),
   (true, true, true, true, some ("__init__", "Thing.__init__", defArgs s_ti, .stmts (defBody s_ti), defScope s_ti, mainGlobals, [], .none, builtinsNs), true),
   (true, true, true, true, true, true),
   (some (some (.builtin "object.__setattr__")), some none, some none),
   (List.range 2).map (fun i => (true, ecV (xq i) (xs i))),
   (List.range 2).map (fun _ => (some (some (.builtin "object.__class__")), some true, some true, some true)),
   (true, some false, some (some (.builtin "getset_descriptor.__get__")), some true, false),
   (List.range 2).map (fun _ => lbV))
def ofG (g : Addr → Option Obj) : AlK × List Bool := (obsK (He.frG g (asK g)), (List.range 2).map fun i => tabE g (pA (He.frG g (asK g)) i))
def hk : PySem.W.Hook where
  α := AlK × List Bool
  obs := fun s => ofG s.heap.get?
  val := fun _ => (valK, (List.range 2).map fun _ => true)
  says := fun _ h => ∃ K : PySem.W.Frag, K.In h ∧ obsK K = valK ∧ ∀ i, i < 2 → h.get? (pA K i) = some noObj
  of := fun _ s e => ⟨He.frG s.heap.get? (asK s.heap.get?), He.frG_in, congrArg Prod.fst e, fun i hi => tabE_ok (tab_of (n := 2) (f := fun i => tabE s.heap.get? (pA (He.frG s.heap.get? (asK s.heap.get?)) i)) (g := fun _ => true) (congrArg Prod.snd e) i hi)⟩
  keeps := fun _ _ _ ⟨K, hK, c, t⟩ k => ⟨K, PySem.W.Frag.In.keeps hK k, c, fun i hi => k _ _ (t i hi)⟩
def ob (s : PySem.W.SharedT) : AlK × List Bool := ofG (HandSHeadRun.getT s)
theorem ob_eq (s : PySem.W.SharedT) : ob s = hk.obs s.abs := by
  have e : HandSHeadRun.getT s = s.abs.heap.get? := funext (HandSHeadRun.getT_eq s)
  unfold ob
  rw [e]
  rfl
def ln1 : List Str := ["_wall", "SettleError", "InvalidDeeds", "InvalidRows", "InvalidState", "InvalidDeed", "StateError", "SharedDeed", "LimitError", "TooMany", "Thing", "check_deeds", "made_thing", "entry_at", "is_state", "check_state", "check_deed"]
def ln2 : List Str := ["_law_thing", "is_integer", "is_integer_from", "is_list", "is_filled_list", "is_name", "is_answer", "is_entry", "check_limit", "is_row", "check_rows", "_law_pot", "_law_draw", "_law_pick", "_law_names", "_law_table", "_law_model"]
def ln3 : List Str := ["_law_heard", "_law_odd_deeds", "_law_odd_row", "_law_odd_rows", "_law_let_right", "_law_right", "LETTERS", "LONGEST_NAME", "GREATEST_ANSWER", "MOST_DEEDS", "MOST_STATES"]
def lns : List Str := ln1 ++ (ln2 ++ (ln3))
abbrev Rw11 : PySem.W.OpenRow := PySem.W.OpenLaw.row PySem.Challenge.rw_settlesfirst_k11_things_refused
end K11

namespace K11
open PySem PySem.Spec PyProof.Rows L2 Xv Cr TL Dl
theorem run (w : World) : HandSHeadRun.RunEq Rw11 (PySem.W.view Rw11.prog [50]) hk ob 24000 lns w := by
  intro os
  kernel_rfl
end K11

namespace K11
open PySem PySem.Spec PyProof.Rows L2 Xv Cr TL Dl
/-! ### all of the defs together -/
def Mh (K : PySem.W.Frag) (C : Addr) (m q : Str) (st : Stmt) : Prop := ∃ (g : Addr) (fd : FuncData), PySem.W.findIn K (.ref C) m = some (some (.ref g)) ∧ PySem.W.isFn K (.ref g) = true ∧ PySem.W.keepIn K (.ref g) = true ∧ PySem.W.fnIn K g = true ∧ Fun K m q st g fd
def Dd (K : PySem.W.Frag) (mg : Str → Option Value) : Prop := ∃ (f : Addr) (fd : FuncData), mg "check_deeds" = some (.ref f) ∧ PySem.W.keepIn K (.ref f) = true ∧ FunD K "check_deeds" "check_deeds" (defArgs s_cd) (defBody s_cd) (defScope s_cd) [V.non] [] f fd
/-- the tables of code objects -/
def tabsT (p0 p1 : Addr) : List (Addr × Str) := [(p0, "_law_let_right.<locals>.<lambda>"), (p1, "_law_right.<locals>.<lambda>")]
section
variable {P : Program} {w : World} {K : PySem.W.Frag} {mg : Str → Option Value} {base : Heap} {Ct fa : Addr}
theorem all_mk {CD CR CS c0 c1 p0 p1 : Addr} (T : Bl mg) (C : Cn mg) (TC : ThC K Ct) (gT : mg "Thing" = some (.ref Ct)) (mk : PySem.W.makesIn K Ct = true) (kT : PySem.W.keepIn K (.ref Ct) = true) (hfa : mg "law" = some (.ref fa)) (xd0 : ∀ base : Heap, XCl P w K mg base "InvalidDeeds" CD "position") (xr0 : ∀ base : Heap, XCl P w K mg base "InvalidRows" CR "position") (ed : ExcC K CD) (er : ExcC K CR) (Z : TwoX K CD CR CS) (gS : mg "SettleError" = some (.ref CS)) (np : p0 ≠ p1) (FL : Dn K mg "law" s_law) (D_cd : Dd K mg) (M_i : Mh K Ct "__init__" "Thing.__init__" s_ti) (L_letr : Ln K mg "_law_let_right" s_letr c0) (L_lright : Ln K mg "_law_right" s_lright c1) (D_gint : Dn K mg "is_integer" (top 15)) (D_gfrom : Dn K mg "is_integer_from" (top 16)) (D_glist : Dn K mg "is_list" (top 17)) (D_gfull : Dn K mg "is_filled_list" (top 18)) (D_gname : Dn K mg "is_name" (top 19)) (D_gans : Dn K mg "is_answer" (top 20)) (D_gent : Dn K mg "is_entry" (top 21)) (D_glim : Dn K mg "check_limit" (top 25)) (D_grow : Dn K mg "is_row" (top 27)) (D_gckr : Dn K mg "check_rows" (top 28)) (D_pot : Dn K mg "_law_pot" (top 37)) (D_draw : Dn K mg "_law_draw" (top 38)) (D_pick : Dn K mg "_law_pick" (top 39)) (D_names : Dn K mg "_law_names" (top 40)) (D_table : Dn K mg "_law_table" (top 41)) (D_model : Dn K mg "_law_model" (top 42)) (D_heard : Dn K mg "_law_heard" (top 44)) (D_oddd : Dn K mg "_law_odd_deeds" (top 45)) (D_oddr : Dn K mg "_law_odd_row" (top 46)) (D_oddrs : Dn K mg "_law_odd_rows" (top 47)) :
    ∃ fd : FuncData, (∀ (s : Shared) (v : Value), BindsTo s fd ⟨[v], []⟩ [("_law_script", v)]) ∧ ∀ base : Heap, LamX.TabB base mg c0 p0 → LamX.TabB base mg c1 p1 → FnG P w K mg base 13 fa fd ["_law_script"] (spLaw K (tabsT p0 p1)) := by
  obtain ⟨f0, e0, fd, FL⟩ := FL
  have e := hfa.symm.trans e0
  cases e
  refine ⟨fd, fun s v => ?_, fun base tb0 tb1 => ?_⟩
  · obtain ⟨oc, od, kV, doc, pm, an, cdv, ct, osl, rfl, lk, hc⟩ := FL.ex
    exact .of_eq rfl
  have xd := xd0 base
  have xr := xr0 base
  have B_ValueError := T.ValueError
  let M : Cm := CM Ct CD CR (tabsT p0 p1)
  have hT : M.T = tabsT p0 p1 := rfl
  have hca : CaI M Ct 0 := ⟨rfl⟩
  have hxd : XcI M CD ["position"] 1 := ⟨rfl, rfl⟩
  have hxr : XcI M CR ["position"] 2 := ⟨rfl, rfl⟩
  have TM : ThM M Ct := ⟨rfl, rfl⟩
  have d_gint := cl_mk (P := P) (w := w) (base := base) D_gint (fun f fd F => okd_gint (M := M) F T) (fun _ _ _ _ _ _ us hl => match us, hl with | [_], _ => rfl)
  have d_gfrom := cl_mk (P := P) (w := w) (base := base) D_gfrom (fun f fd F => okd_gfrom (M := M) F T d_gint) (fun _ _ _ _ _ _ us hl => match us, hl with | [_, _, _], _ => rfl)
  have d_glist := cl_mk (P := P) (w := w) (base := base) D_glist (fun f fd F => okd_glist (M := M) F T) (fun _ _ _ _ _ _ us hl => match us, hl with | [_], _ => rfl)
  have d_gfull := cl_mk (P := P) (w := w) (base := base) D_gfull (fun f fd F => okd_gfull (M := M) F T d_glist) (fun _ _ _ _ _ _ us hl => match us, hl with | [_], _ => rfl)
  have d_gname := cl_mk (P := P) (w := w) (base := base) D_gname (fun f fd F => okd_gname (M := M) F T C) (fun _ _ _ _ _ _ us hl => match us, hl with | [_], _ => rfl)
  have d_gans := cl_mk (P := P) (w := w) (base := base) D_gans (fun f fd F => okd_gans (M := M) F T d_gfrom C) (fun _ _ _ _ _ _ us hl => match us, hl with | [_], _ => rfl)
  have d_gent := cl_mk (P := P) (w := w) (base := base) D_gent (fun f fd F => okd_gent (M := M) F T d_gans d_gfrom) (fun _ _ _ _ _ _ us hl => match us, hl with | [_, _], _ => rfl)
  have d_glim := cl_mk (P := P) (w := w) (base := base) D_glim (fun f fd F => okd_glim (M := M) F T) (fun _ _ _ _ _ _ us hl => match us, hl with | [_, _, _], _ => rfl)
  obtain ⟨f_cd, fd_cd, gm_cd, kp_cd, F_cd⟩ := D_cd
  obtain ⟨dsv, hv_cd, hb_cd⟩ := F_cd.binds1 (ps := ["deeds", "known"]) 1 0 (by simp) rfl (fun Ta kV doc pm an cdv ct us its l1 l2 => match us, l1, its, l2 with | [_], _, [_], _ => ⟨_, rfl, rfl⟩)
  have d_gckd : ClDf P w K mg base 3 "check_deeds" (spD M [.full, .bor] fCkD) [.non] := ⟨f_cd, fd_cd, ["deeds", "known"], dsv, okd_gckd (M := M) F_cd T d_gfull d_gname, gm_cd, kp_cd, hb_cd, hv_cd⟩
  have x_gckd : ClDX P w K mg base 3 "check_deeds" (spX M [.full, .bor] fCkDX) [.non] := ⟨f_cd, fd_cd, ["deeds", "known"], dsv, okd_gckdx (M := M) F_cd T d_gfull xd d_gname, gm_cd, kp_cd, hb_cd, hv_cd⟩
  have d_grow := cl_mk (P := P) (w := w) (base := base) D_grow (fun f fd F => okd_grow (M := M) F T d_glist d_gent) (fun _ _ _ _ _ _ us hl => match us, hl with | [_, _, _], _ => rfl)
  have d_gckr := cl_mk (P := P) (w := w) (base := base) D_gckr (fun f fd F => okd_gckr (M := M) F T d_gfull d_grow) (fun _ _ _ _ _ _ us hl => match us, hl with | [_, _], _ => rfl)
  have x_gckr := clx_mk (P := P) (w := w) (base := base) D_gckr (fun f fd F => okd_gckrx (M := M) F T d_gfull xr d_grow) (fun _ _ _ _ _ _ us hl => match us, hl with | [_, _], _ => rfl)
  obtain ⟨g_i, fd_i, at_i, fn_i, kp_i, fi_i, F_i⟩ := M_i
  have kb_i := kb_two (a := "self") (b := "deeds") (c := "rows") F_i (fun _ _ _ _ _ _ _ _ _ => rfl)
  have bi_i := F_i.binds (ps := ["self", "deeds", "rows"]) (fun _ _ _ _ _ _ us hl => match us, hl with | [_, _, _], _ => rfl)
  have k_thg : MakK P w K mg base 7 "Thing" Ct ["rows", "deeds"] CX0 (spI M 0 [.full, .full] fThG) := ⟨g_i, fd_i, _, ⟨mk, at_i, fn_i, kT⟩, okd_gti (M := M) F_i T d_gckd d_gckr d_glim C TM TC, gT, bi_i, kb_i⟩
  have k_thd : MakK P w K mg base 4 "Thing" Ct ["rows", "deeds"] (L2.CX P w) (spIX M 0 [.full, .bor] fThD) := ⟨g_i, fd_i, _, ⟨mk, at_i, fn_i, kT⟩, okd_gtd (M := M) F_i T x_gckd C, gT, bi_i, kb_i⟩
  have k_thr : MakK P w K mg base 7 "Thing" Ct ["rows", "deeds"] (L2.CX P w) (spIX M 0 [.full, .full] fThR) := ⟨g_i, fd_i, _, ⟨mk, at_i, fn_i, kT⟩, okd_gtr (M := M) F_i T d_gckd x_gckr C, gT, bi_i, kb_i⟩
  have c_pot := cl_mk (P := P) (w := w) (base := base) D_pot (fun f fd F => ok_pot F T ) (fun _ _ _ _ _ _ us hl => match us, hl with | [_, _], _ => rfl)
  have c_draw := cl_mk (P := P) (w := w) (base := base) D_draw (fun f fd F => ok_draw F T ) (fun _ _ _ _ _ _ us hl => match us, hl with | [_, _], _ => rfl)
  have c_pick := cl_mk (P := P) (w := w) (base := base) D_pick (fun f fd F => ok_pick F T c_draw) (fun _ _ _ _ _ _ us hl => match us, hl with | [_, _], _ => rfl)
  have c_names := cl_mk (P := P) (w := w) (base := base) D_names (fun f fd F => ok_names F T c_pick) (fun _ _ _ _ _ _ us hl => match us, hl with | [_, _], _ => rfl)
  have c_table := cl_mk (P := P) (w := w) (base := base) D_table (fun f fd F => ok_table F T c_draw c_pick) (fun _ _ _ _ _ _ us hl => match us, hl with | [_, _, _], _ => rfl)
  have c_model := cl_mk (P := P) (w := w) (base := base) D_model (fun f fd F => ok_model F T c_draw c_names c_table) (fun _ _ _ _ _ _ us hl => match us, hl with | [_, _, _], _ => rfl)
  have d_draw := cl_G (sp' := spD M [.pot, .bor] fDraw) c_draw (fun vs H Q E h => draw_d M h)
  have d_model := cl_G (sp' := spD M [.pot, .bor, .bor] fModel) c_model (fun vs H Q E h => model_d M h)
  have d_dpick := cl_mk (P := P) (w := w) (base := base) D_pick (fun f fd F => okd_dpick (M := M) F T d_draw) (fun _ _ _ _ _ _ us hl => match us, hl with | [_, _], _ => rfl)
  have d_oddd := cl_mk (P := P) (w := w) (base := base) D_oddd (fun f fd F => okd_oddd (M := M) F T d_draw d_dpick) (fun _ _ _ _ _ _ us hl => match us, hl with | [_, _], _ => rfl)
  have d_oddr := cl_mk (P := P) (w := w) (base := base) D_oddr (fun f fd F => okd_oddr (M := M) F T d_draw d_dpick) (fun _ _ _ _ _ _ us hl => match us, hl with | [_, _, _], _ => rfl)
  have d_oddrs := cl_mk (P := P) (w := w) (base := base) D_oddrs (fun f fd F => okd_oddrs (M := M) F T d_draw d_dpick d_oddr) (fun _ _ _ _ _ _ us hl => match us, hl with | [_, _], _ => rfl)
  obtain ⟨f_h, gm_h, fd_h, F_h⟩ := D_heard
  have bi_h : L2.Binds K fd_h ["_law_call"] [] := F_h.binds (fun _ _ _ _ _ _ us hl => match us, hl with | [_], _ => rfl)
  have h_r : HeardC P w K mg base 3 "_law_heard" "_law_call" (TTR M fHearR) := okd_heardR F_h gm_h bi_h T B_ValueError xd xr ed er gS
  have h_x : HeardC P w K mg base 3 "_law_heard" "_law_call" (TTX M fHearX) := okd_heardX F_h gm_h bi_h T B_ValueError xd xr ed er gS Z
  have lam0 : ∀ fd : FuncData, fd.code = .ref c0 → LamM base mg M.T fd "_law_let_right.<locals>.<lambda>" := fun fd h => ⟨c0, p0, h, tb0, List.mem_cons_self, fun p hp e => by
    rcases List.mem_cons.mp hp with rfl | hp
    · rfl
    · rw [List.mem_singleton.mp hp] at e
      exact absurd e.symm np⟩
  have lam1 : ∀ fd : FuncData, fd.code = .ref c1 → LamM base mg M.T fd "_law_right.<locals>.<lambda>" := fun fd h => ⟨c1, p1, h, tb1, List.mem_cons_of_mem _ List.mem_cons_self, fun p hp e => by
    rcases List.mem_cons.mp hp with rfl | hp
    · exact absurd e np
    · rw [List.mem_singleton.mp hp]⟩
  have d_letr := clgn_mk (P := P) (w := w) (base := base) L_letr (fun f fd F hc => okd_letr (M := M) F T h_r (lam0 fd hc) k_thg) (fun _ _ _ _ _ _ us hl => match us, hl with | [_], _ => rfl)
  have d_lright := clgn_mk (P := P) (w := w) (base := base) L_lright (fun f fd F hc => okd_lright (M := M) F T d_model d_oddrs d_oddd h_x (lam1 fd hc) k_thd k_thr d_letr) (fun _ _ _ _ _ _ us hl => match us, hl with | [_], _ => rfl)
  have c_right := clg_imp (sp' := spRight (tabsT p0 p1)) d_lright (fun vs H Q E h => right_d M h)
  exact ok_law FL T c_pot c_right
end
/-! ### the facts, taken out -/
theorem facts {w : World} {K : PySem.W.Frag} {h : Heap} {mg : Str → Option Value} {fa : Addr} (X : K.In h) (G : h.Ns mainGlobals mg) (hfa : mg "law" = some (.ref fa)) (c : obsK K = valK) :
    (∀ i, i < 2 → K.lookup (pA K i) = none ∧ PySem.W.CodeHd h (cA K i) (pA K i)) ∧ ∃ fd : FuncData, (∀ (s : Shared) (v : Value), BindsTo s fd ⟨[v], []⟩ [("_law_script", v)]) ∧ ∀ base : Heap, LamX.TabB base mg (cA K 0) (pA K 0) → LamX.TabB base mg (cA K 1) (pA K 1) → FnG pr w K mg base 13 fa fd ["_law_script"] (spLaw K (tabsT (pA K 0) (pA K 1))) := by
  unfold obsK valK at c
  simp only [Prod.mk.injEq] at c
  obtain ⟨t1, t2, t3, ⟨d1, d2, d3, d4, d5⟩, ⟨m1, m2, m3, m4, m5, m6⟩, ⟨e1, e2, e3, e4, e5, e6⟩, ⟨f1, f2, f3⟩, t8, t9, ⟨y1, y2, y3, y4, y5⟩, t11⟩ := c
  have b : ∀ i, i < 17 → mg (bn i) = none := fun i hi => PySem.W.mg_none_of X G (tab_of t1 i hi)
  have T : Bl mg := ⟨b 0 (by decide), b 1 (by decide), b 2 (by decide), b 3 (by decide), b 4 (by decide), b 5 (by decide), b 6 (by decide), b 7 (by decide), b 8 (by decide), b 9 (by decide), b 10 (by decide), b 11 (by decide), b 12 (by decide), b 13 (by decide), b 14 (by decide), b 15 (by decide), b 16 (by decide)⟩
  have cc : ∀ i, i < 5 → cv K (cn i) = cvl i := fun i hi => tab_of t2 i hi
  have C : Cn mg := ⟨cv_str X G (cc 0 (by decide)), cv_int X G (cc 1 (by decide)), cv_int X G (cc 2 (by decide)), cv_int X G (cc 3 (by decide)), cv_int X G (cc 4 (by decide))⟩
  have Da : ∀ i, i < 23 → mg (dn i) = some (.ref (He.ga K (dn i))) ∧ Fn K (dn i) (dn i) (ds i) (He.ga K (dn i)) := fun i hi => by
    have e := tab_of t3 i hi
    simp only [Prod.mk.injEq] at e
    exact ⟨PySem.W.mg_of X G (He.eqO_ok e.1), fnS_ok e.2.2.1 e.2.2.2 e.2.1⟩
  have D : ∀ i, i < 23 → Dn K mg (dn i) (ds i) := fun i hi => ⟨_, (Da i hi).1, (Da i hi).2⟩
  have Mi : Mh K (CT K) "__init__" "Thing.__init__" s_ti := by
    obtain ⟨fd, F⟩ := fnS_ok m5 m6 m3
    exact ⟨_, fd, He.eqO_ok m1, m2, m3, m4, F⟩
  have Dc : Dd K mg := by
    obtain ⟨fd, F⟩ := fnD_ok d3 d4 d2 d5
    exact ⟨_, fd, PySem.W.mg_of X G (He.eqO_ok d1), d2, F⟩
  have cl : Cls K (CT K) := ⟨e2, e3, e4, f1⟩
  have TC : ThC K (CT K) := ⟨cl, f2, f3⟩
  have X1 : ∀ i, i < 2 → mg (xn i) = some (.ref (CX K i)) ∧ ecO K (CX K i) (FX K i) (xq i) "position" = ecV (xq i) (xs i) := fun i hi => by
    have e := tab_of t8 i hi
    obtain ⟨e1, e2⟩ := Prod.mk.injEq _ _ _ _ ▸ e
    exact ⟨PySem.W.mg_of X G (He.eqO_ok e1), e2⟩
  obtain ⟨xg0, xe0⟩ := X1 0 (by decide)
  obtain ⟨xg1, xe1⟩ := X1 1 (by decide)
  have xd : ∀ base : Heap, XCl pr w K mg base "InvalidDeeds" (CX K 0) "position" := fun base => by
    obtain ⟨⟨fd, F⟩, E, tk, _⟩ := ec_ok xe0
    exact xcl_mk (f := "position") xe0 (ex1_mk basV E tk F xg0 ⟨rfl, rfl, rfl, by decide +kernel, rfl, by decide +kernel, by decide +kernel⟩ rfl (by decide +kernel) (by decide +kernel) (by decide +kernel) (by decide +kernel) (fun _ _ _ _ _ _ _ _ => rfl) (fun _ _ _ _ _ _ _ _ => rfl))
  have xr : ∀ base : Heap, XCl pr w K mg base "InvalidRows" (CX K 1) "position" := fun base => by
    obtain ⟨⟨fd, F⟩, E, tk, _⟩ := ec_ok xe1
    exact xcl_mk (f := "position") xe1 (ex1_mk basV E tk F xg1 ⟨rfl, rfl, rfl, by decide +kernel, rfl, by decide +kernel, by decide +kernel⟩ rfl (by decide +kernel) (by decide +kernel) (by decide +kernel) (by decide +kernel) (fun _ _ _ _ _ _ _ _ => rfl) (fun _ _ _ _ _ _ _ _ => rfl))
  have X2 : ∀ i, i < 2 → PySem.W.findIn K (.ref (CX K i)) "__class__" = some (some (.builtin "object.__class__")) ∧ PySem.W.mroIn K (CX K i) (.type "object") = some true ∧ PySem.W.kitOne K (.ref (CX K i)) (.ref (CS K)) = some true ∧ PySem.W.kitOne K (.ref (CX K i)) (.type "ValueError") = some true := fun i hi => by
    have e := tab_of t9 i hi
    simp only [Prod.mk.injEq] at e
    exact e
  have ec : ∀ i, i < 2 → XfC K (CX K i) → ExcC K (CX K i) := fun i hi x => ⟨x.ga, x.gg, x.exC, x.hdC, (X2 i hi).1, y3, y4, (X2 i hi).2.1⟩
  have xf0 : XfC K (CX K 0) := (xd default).xf
  have xf1 : XfC K (CX K 1) := (xr default).xf
  have Z : TwoX K (CX K 0) (CX K 1) (CS K) := ⟨(X2 0 (by decide)).2.2.1, (X2 0 (by decide)).2.2.2, (X2 1 (by decide)).2.2.1, (X2 1 (by decide)).2.2.2, y2⟩
  have lb : ∀ i, i < 2 → cdB K (He.ga K (lmn i)) = true ∧ clsO K (cA K i) = some (.type "code") ∧ hdB K (cA K i) = true ∧ (K.lookup (pA K i)).isNone = true := fun i hi => by
    have e := tab_of t11 i hi
    unfold lbO lbV at e
    simp only [Prod.mk.injEq] at e
    exact e
  refine ⟨fun i hi => ⟨by simpa using (lb i hi).2.2.2, hd_ok X (lb i hi).2.1 (lb i hi).2.2.1⟩, ?_⟩
  have np : pA K 0 ≠ pA K 1 := fun e => by rw [e, Nat.beq_refl] at y5; cases y5
  have L0 : Ln K mg "_law_let_right" s_letr (cA K 0) := ln_mk (Da 20 (by decide)).1 (Da 20 (by decide)).2 (lb 0 (by decide)).1
  have L1 : Ln K mg "_law_right" s_lright (cA K 1) := ln_mk (Da 21 (by decide)).1 (Da 21 (by decide)).2 (lb 1 (by decide)).1
  exact all_mk T C TC (PySem.W.mg_of X G (He.eqO_ok e1)) e5 e6 hfa xd xr (ec 0 (by decide) xf0) (ec 1 (by decide) xf1) Z (PySem.W.mg_of X G (He.eqO_ok y1)) np (D 22 (by decide)) Dc Mi L0 L1 (D 0 (by decide)) (D 1 (by decide)) (D 2 (by decide)) (D 3 (by decide)) (D 4 (by decide)) (D 5 (by decide)) (D 6 (by decide)) (D 7 (by decide)) (D 8 (by decide)) (D 9 (by decide)) (D 10 (by decide)) (D 11 (by decide)) (D 12 (by decide)) (D 13 (by decide)) (D 14 (by decide)) (D 15 (by decide)) (D 16 (by decide)) (D 17 (by decide)) (D 18 (by decide)) (D 19 (by decide))
end K11

open PySem PySem.W PySem.Calls PyProof.Rows in
theorem PySem.Challenge.cw_settlesfirst_k11_things_refused_holds : PySem.Challenge.rw_settlesfirst_k11_things_refused.Holds := by
  w_on; o_law
  refine HandSHeadRun.head_any (r := OpenLaw.row PySem.Challenge.rw_settlesfirst_k11_things_refused) (q := view (OpenLaw.row PySem.Challenge.rw_settlesfirst_k11_things_refused).prog [50]) (H := K11.hk) (ob := K11.ob) (M := 24000) (loose := K11.lns) (d := HandSHeadRun.topDef (OpenLaw.row PySem.Challenge.rw_settlesfirst_k11_things_refused).prog 50) (kwd := []) K11.ob_eq
    (by kernel_rfl) (fun s => by kernel_rfl) K11.run (by kernel_rfl) (by kernel_rfl) (by kernel_rfl) (by rfl) (by first | assumption | decide +kernel) (by decide +kernel) ⟨rfl, rfl, rfl, rfl, rfl, by decide +kernel⟩ ?hw ?hc
  case hw => w_witness2
  case hc =>
    refine Cr.walkGT (l := PySem.Challenge.rw_settlesfirst_k11_things_refused) (n := 63) (k := 13) (x := "_law_script") rfl (by decide) (by kernel_rfl) ⟨rfl, by decide, by decide⟩ ?F
    intro w mg fa h Y G hmg0
    obtain ⟨K, KX, c, tbl⟩ := Y
    have hmg : mg ("law" : PySem.Str) = some (.ref fa) := by
      have e : (HandSHeadRun.topDef (OpenLaw.row PySem.Challenge.rw_settlesfirst_k11_things_refused).prog 50).name = ("law" : PySem.Str) := by kernel_rfl
      rw [← e]
      exact hmg0
    obtain ⟨tb, fd, hb, hF⟩ := K11.facts (w := w) KX G hmg c
    have all : ∀ {Q : PySem.Addr × PySem.Addr → Prop}, Q (K11.cA K 0, K11.pA K 0) → Q (K11.cA K 1, K11.pA K 1) → ∀ p ∈ [(K11.cA K 0, K11.pA K 0), (K11.cA K 1, K11.pA K 1)], Q p := fun h0 h1 p hp => by
      rcases List.mem_cons.mp hp with rfl | hp
      · exact h0
      · rw [List.mem_singleton.mp hp]; exact h1
    refine ⟨K, fd, K11.spLaw K (K11.tabsT (K11.pA K 0) (K11.pA K 1)), [(K11.cA K 0, K11.pA K 0), (K11.cA K 1, K11.pA K 1)], KX, all ⟨tbl 0 (by decide), tb 0 (by decide)⟩ ⟨tbl 1 (by decide), tb 1 (by decide)⟩, hb, fun H a ns hl hT hS => ⟨a, ns, rfl, hS, hl, ?_, fun _ => rfl⟩, fun base _ _ hB => hF base (hB _ List.mem_cons_self) (hB _ (List.mem_cons_of_mem _ List.mem_cons_self))⟩
    intro p hp
    rcases List.mem_cons.mp hp with rfl | hp
    · exact LamX.TabS.nil (hT _ List.mem_cons_self)
    · rw [List.mem_singleton.mp hp]
      exact LamX.TabS.nil (hT _ (List.mem_cons_of_mem _ List.mem_cons_self))

