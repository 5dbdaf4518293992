import PyProof.Rows.All
import Wide.All
import OpenK.AllK
import Wide.FinOn
import HandS.ForMost
import HandS.ExcInit
import HandS.ExcIs
import KE.KExcInit
import KE.KExcSuper
import HandS.MakeKwOnly
import HandS.IsInst
import HandS.EndBits
import HandS.Conv
import HandS.Walk
import HandS.Text
import HandS.Dict
import HandS.Iter
import HandS.Comp
import PySem.Challenge.RW_settlesfirst_k14_states_come_to_and_part
import KE.GoesMore
import KE.GoesEnum
import HandS.SetKeys
import HandS.Defaults
import HandS.DictComp
import HandS.DictSub
import KE.Datum
import HandS.Codes
import HandS.FStr
import HandS.Property
import HandS.Style
import KE.KStateDown
import HandS.Head0
import HandS.Head1
import HandS.Head2
import HandS.HeadEnd
import HandS.HeadHook1
import PyProof.Rows.ReprOcc
import PyProof.ReprLen
import HandS.ExcField
import HandS.ExcOwn
import HandS.TupSets
import HandS.WordsExc
set_option Elab.async false
set_option linter.all false
set_option maxRecDepth 100000
set_option maxHeartbeats 2000000
namespace PySem
namespace Xv
open PySem.W PySem.Calls PyProof.Rows
section
variable {M : Model} {A : Around} {E : Value → Shared → Prop} {h : Heap} {g : Array GenState} {d : Drawn} {t : Nat} {os : OsState}
variable {nm q : Str} {C N : Addr} {bs bm bmB : List Value} {hdct : Bool} {sn : List Str} {sub : List Value} {ab : Bool} {col : Option Bool} {dd : Option Addr} {k0 k1 k2 k3 k5 : Option Value} {B newId initId : String}
/-- the arguments that a class of exceptions is called with, keywords among them, pass the look ahead of its maker -/
theorem look_new (F : ExcBaseFacts B newId initId bmB) (hT : ∀ X : String, bm.contains (.type X) = bmB.contains (.type X)) {rest : List Value} {kw : List (Str × Value)} {Q : Unit → Shared → Prop}
    (hC : h.get? C = some (excClassObj nm q C N bs bm hdct sn sub ab col dd k0 k1 k2 k3 k5 newId)) (hq : Q () ⟨h, g, d, t, os⟩) : wpAny M A (checkBuiltinCall newId ⟨.ref C :: rest, kw⟩) Q E ⟨h, g, d, t, os⟩ := by
  have c1 : (Value.ref C :: bm).contains (.type B) = true := by
    rw [List.contains_cons, hT, F.hasB, Bool.or_true]
  have c2 := F.noStar
  simp only [checkBuiltinCall, F.newKind, F.newSplit, F.newRow]
  repeat (first
    | refine wpAny_loadPart_at hC ?_
    | (refine wpAny_isSubtype_exc hC ?_; rw [c1])
    | refine wpAny_staticBase_exc hC ?_
    | refine wpAny_madeBy_exc hC ?_
    | simp only [bne_self_eq_false, Bool.false_eq_true, if_false]
    | wp_step)
  exact hq
theorem look_tcall {rest : List Value} {kw : List (Str × Value)} {Q : Unit → Shared → Prop} (hC : h.get? C = some (excClassObj nm q C N bs bm hdct sn sub ab col dd k0 k1 k2 k3 k5 newId))
    (hq : Q () ⟨h, g, d, t, os⟩) : wpAny M A (checkBuiltinCall "type.__call__" ⟨.ref C :: rest, kw⟩) Q E ⟨h, g, d, t, os⟩ := by
  have f3 := tc_sub
  have hT : (⟨h, g, d, t, os⟩ : Shared).TypeIs (.ref C) "type" := ⟨_, hC, rfl⟩
  simp only [checkBuiltinCall, tc_kind, tc_split]
  repeat (any_goals (first
    | assumption
    | with_reducible refine wpAny_loadPart_at hC ?_
    | with_reducible refine wpAny_onRaise ?_
    | with_reducible refine wpAny_map ?_
    | wp_step))
end
section
variable {prog : Program} {w : World} {A : Around} {E : Value → Shared → Prop} {R : Result → Shared → Prop} {h : Heap} {g : Array GenState} {d : Drawn} {t : Nat} {os : OsState}
variable {nm q : Str} {C N : Addr} {bs bm bmB : List Value} {hdct : Bool} {sn : List Str} {sub : List Value} {ab : Bool} {col : Option Bool} {dd : Option Addr} {k0 k1 k2 k3 k5 : Option Value} {B newId initId : String}
/-- BaseException's maker, keywords or not -/
theorem new_kw (F : ExcBaseFacts B newId initId bmB) (hT : ∀ X : String, bm.contains (.type X) = bmB.contains (.type X)) {rest : List Value} {kw : List (Str × Value)}
    (hC : h.get? C = some (excClassObj nm q C N bs bm hdct sn sub ab col dd k0 k1 k2 k3 k5 newId))
    (hq : R (.ok (.ret (.ref (h.objs.size + 1)))) ⟨(h.push (kdv_tup rest)).push (HandSPX.excO C h.objs.size), g, d, t, os⟩) (hrest : rest.length ≤ sizeLine) :
    codeAny (model prog w) A (.builtin newId ⟨.ref C :: rest, kw⟩) R ⟨h, g, d, t, os⟩ := by
  have e0 := F.ends
  have c1 : (Value.ref C :: bm).contains (.type B) = true := by
    rw [List.contains_cons, hT, F.hasB, Bool.or_true]
  have c2 : (Value.ref C :: bm).contains (.type "AttributeError") = false := by
    rw [List.contains_cons, hT, F.noAttr]; rfl
  have c3 : (Value.ref C :: bm).contains (.type "NameError") = false := by
    rw [List.contains_cons, hT, F.noName]; rfl
  refine codeAny_builtinAt F.entry ?_
  unfold Builtin.«BaseException.__new__»
  refine wpAt_bind ?_
  show wpAt _ _ _ (stack >>= _) _ _ _
  refine wpAt_bind (wpAt_stack fun p below => wpAt_of_wpAny ?_)
  wp_walk
  refine wpAt_of_wpAny ?_
  rw [F.owner]
  repeat (first
    | with_reducible refine wpAny_madeHere_exc F.canon hC ?_
    | with_reducible refine wpAny_loadPart_at hC ?_
    | (with_reducible refine wpAny_isSubtype_exc hC ?_; first | rw [c1] | rw [c2] | rw [c3])
    | wp_step)
  show R _ _
  rw [Heap.size_push]
  exact hq
theorem tcall_kw (F : ExcBaseFacts B newId initId bmB) (hT : ∀ X : String, bm.contains (.type X) = bmB.contains (.type X)) {rest : List Value} {kw : List (Str × Value)} {fI : Addr} {Q : Fin → Shared → Prop}
    (hC : h.get? C = some (excClassObj nm q C N bs bm hdct sn sub ab col dd k0 k1 k2 k3 k5 newId))
    (hi : Looks (model prog w) h (typeLookup (.ref C) "__init__") (some (.ref fI))) (hb : ∀ self, Looks (model prog w) h (bindSpecial (.ref fI) self) (.ref fI, [self])) (hrest : rest.length ≤ sizeLine)
    (hq : codeAny (model prog w) A (.call (.ref fI) ⟨.ref (h.objs.size + 1) :: rest, kw⟩)
      (fun r s' => match r with | .ok (.ret v) => v = .none ∧ Q (.done (.ret (.ref (h.objs.size + 1)))) s' | .ok _ => False | .error e => E e s')
      ⟨(h.push (kdv_tup rest)).push (HandSPX.excO C h.objs.size), g, d, t, os⟩) :
    wpAny (model prog w) A (Builtin.«type.__call__» ⟨.ref C :: rest, kw⟩) Q E ⟨h, g, d, t, os⟩ := by
  repeat (first
    | with_reducible refine wpAny_loadPart_at hC ?_
    | with_reducible refine wpAny_madeBy_exc hC ?_
    | wp_step)
  refine codeAny_call_builtin_code (Code.quiet_builtin _ F.quiet) (look_new F hT hC ?_)
  refine new_kw F hT hC ?_ hrest
  show wpAny _ _ _ _ _ _
  have k : ∀ b o, h.get? b = some o → ((h.push (kdv_tup rest)).push (HandSPX.excO C h.objs.size)).get? b = some o := fun b o e => Heap.get?_push_of_some _ (Heap.get?_push_of_some _ e)
  have hC₁ := k _ _ hC
  have hget : ((h.push (kdv_tup rest)).push (HandSPX.excO C h.objs.size)).get? (h.objs.size + 1) = some (HandSPX.excO C h.objs.size) := by heap_get
  have cC : (Value.ref C :: bm).contains (.ref C) = true := by simp
  have i1 := hi.keeps k
  have b1 := (hb (.ref (h.objs.size + 1))).keeps k
  unfold isInstance
  repeat (first
    | with_reducible refine wpAny_loadPart_at hget ?_
    | (with_reducible refine wpAny_isSubtype_exc hC₁ ?_; rw [cC])
    | wp_step)
  show wpAny _ _ (typeLookup (.ref C) _) _ _ _
  refine i1.at ?_
  refine wpAny_holding (wpAny_bind (b1.at ?_))
  refine wpAny_bind (wpAny_call (codeAny_mono hq fun r s' z => ?_))
  rcases r with e | (v | _ | _ | _) <;> first | exact z | exact z.elim | skip
  obtain ⟨rfl, z⟩ := z
  first
    | exact wpAny_pure (wpAny_pure z)
    | (wp_walk; exact z)
/-- an own class of exceptions is called, keywords or not -/
theorem call_kw (F : ExcBaseFacts B newId initId bmB) (hT : ∀ X : String, bm.contains (.type X) = bmB.contains (.type X)) {rest : List Value} {kw : List (Str × Value)} {fI : Addr}
    (hC : h.get? C = some (excClassObj nm q C N bs bm hdct sn sub ab col dd k0 k1 k2 k3 k5 newId))
    (hi : Looks (model prog w) h (typeLookup (.ref C) "__init__") (some (.ref fI))) (hb : ∀ self, Looks (model prog w) h (bindSpecial (.ref fI) self) (.ref fI, [self])) (hrest : rest.length ≤ sizeLine)
    (hq : codeAny (model prog w) (A.under (.builtin "type.__call__" ⟨.ref C :: rest, kw⟩)) (.call (.ref fI) ⟨.ref (h.objs.size + 1) :: rest, kw⟩) (InitBack (h.objs.size + 1) R)
      ⟨(h.push (kdv_tup rest)).push (HandSPX.excO C h.objs.size), g, d, t, os⟩) :
    codeAny (model prog w) A (.call (.ref C) ⟨rest, kw⟩) R ⟨h, g, d, t, os⟩ := by
  have f1 := tc_lookup
  have f2 := tc_bind (.ref C)
  have hTy : (⟨h, g, d, t, os⟩ : Shared).TypeIs (.ref C) "type" := ⟨_, hC, rfl⟩
  refine codeAny_of_tree ?_
  show wpAny _ _ (callAny (.ref C) _) _ _ _
  repeat (any_goals (first
    | assumption
    | with_reducible refine wpAny_loadPart_at hC ?_
    | wp_step))
  refine ⟨rfl, ?_⟩
  refine codeAny_call_builtin_at (Code.quiet_builtin _ (by decide +kernel)) entry_typeCall (look_tcall hC (tcall_kw F hT hC hi hb hrest ?_))
  refine codeAny_mono hq fun r s' z => ?_
  rcases r with e | (v | _ | _ | _) <;> exact z
end
end Xv
end PySem

namespace PySem
namespace Xv
open PySem.W PySem.Calls PyProof.Rows
open Builtin Builtin.ObjectAttr
section
variable {prog : Program} {w : World} {A : Around} {E : Value → Shared → Prop} {R : Result → Shared → Prop} {hp : Heap} {g : Array GenState} {d : Drawn} {t : Nat} {os : OsState}
variable {B : String} {bmB : List Value} {K : Frag}
/-- the first field of an exception: its dict is made -/
theorem field_first (SF : StoreFacts B bmB "object.__setattr__" "object") {name : Str} {tk : Tok} {v : Value} {x C : Addr} {fv : Array Value}
    (X : K.In hp) (hx : hp.get? x = some { cls := .ref C, data := .fields fv }) (ho : excOver K C bmB = true) (hh : hasDictIn K C = true) (ha : takerIn K C name = some none)
    (hq : ∀ h' tk' dx, (∀ b o, b ≠ x → hp.get? b = some o → h'.get? b = some o) → hp.objs.size ≤ dx → dx ≠ x → h'.get? x = some { cls := .ref C, dict := some dx, data := .fields fv } →
      h'.Ns1 dx (fun y => if y = name then some v else none) → R (.ok (.ret .none)) ⟨h', g, d, tk', os⟩) :
    codeAny (model prog w) A (.call (.builtin "object.__setattr__") ⟨[.ref x, .str name tk, v], []⟩) R ⟨hp, g, d, t, os⟩ := by
  have I : InstAt hp x { cls := .ref C, data := .fields fv } C none := ⟨hx, rfl, rfl, trivial⟩
  have hxs : x ≠ hp.objs.size := Nat.ne_of_lt (Heap.lt_size hx)
  refine osa_openX SF X I ho ha fun b => ?_
  obtain ⟨cd, hc, hd⟩ := any_some hh
  have hcls : Looks (model prog w) hp (classData C) cd := looks_clsIn X hc
  obtain ⟨nm, bs, mro, ns, qn, hdd, sn, sb, ab, col, del⟩ := cd
  dsimp only at hd
  subst hd
  show wpAny _ _ (storeInOwnDict (.ref x) (.ref C) (.str name tk) name v b) _ _ _
  unfold storeInOwnDict ownDictForStores
  repeat (first
    | with_reducible refine HandSPX.store_in_new ?_ ?_
    | with_reducible refine wpAny_loadPart_at hx ?_
    | with_reducible refine hcls.at ?_
    | wp_step)
  · exact ⟨_, #[], _, (Heap.get?_update_ne _ _ _ _ hxs.symm).trans (Heap.get?_push_at rfl rfl), rfl, fun e he => absurd he (by simp), fun _ => rfl⟩
  · intro h' tk' hn' hs
    have hx₁ : (hp.push { cls := .type "dict", data := .dict #[] }).get? x = some { cls := .ref C, data := .fields fv } := Heap.get?_push_of_some _ hx
    refine hq h' tk' hp.objs.size (fun b o hb ho => ?_) (Nat.le_refl _) hxs.symm ?_ hn'
    · exact (hs.2 b (Nat.ne_of_lt (Heap.lt_size ho))).trans ((Heap.get?_update_ne _ _ _ _ hb).trans (Heap.get?_push_of_some _ ho))
    · exact (hs.2 x hxs).trans (Heap.get?_update_self _ hx₁ rfl)
/-- a further one -/
theorem field_more (SF : StoreFacts B bmB "object.__setattr__" "object") {name : Str} {tk : Tok} {v : Value} {x C dx : Addr} {fv : Array Value} {m0 : Str → Option Value} {nl : List Str}
    (X : K.In hp) (hx : hp.get? x = some { cls := .ref C, dict := some dx, data := .fields fv }) (hns : hp.Ns1 dx m0) (hw : Within m0 nl) (hz : nl.length ≤ 1000) (ho : excOver K C bmB = true) (hh : hasDictIn K C = true) (ha : takerIn K C name = some none)
    (hq : ∀ h' tk', (∀ b o, b ≠ dx → hp.get? b = some o → h'.get? b = some o) → h'.Ns1 dx (fun y => if y = name then some v else m0 y) → R (.ok (.ret .none)) ⟨h', g, d, tk', os⟩) :
    codeAny (model prog w) A (.call (.builtin "object.__setattr__") ⟨[.ref x, .str name tk, v], []⟩) R ⟨hp, g, d, t, os⟩ := by
  obtain ⟨oD, esD, epD, hoD, hdD, _⟩ := hns.count hw
  have I : InstAt hp x { cls := .ref C, dict := some dx, data := .fields fv } C (some oD) := ⟨hx, rfl, rfl, hoD⟩
  refine osa_openX SF X I ho ha fun b => ?_
  obtain ⟨cd, hc, hd⟩ := any_some hh
  have hcls : Looks (model prog w) hp (classData C) cd := looks_clsIn X hc
  obtain ⟨nm, bs, mro, ns, qn, hdd, sn, sb, ab, col, del⟩ := cd
  dsimp only at hd
  subst hd
  show wpAny _ _ (storeInOwnDict (.ref x) (.ref C) (.str name tk) name v b) _ _ _
  unfold storeInOwnDict ownDictForStores
  repeat (first
    | with_reducible refine OEX.store_in_old hns hw hz ?_
    | with_reducible refine wpAny_loadPart_at hx ?_
    | with_reducible refine hcls.at ?_
    | wp_step)
  intro h' tk' hn' hs
  exact hq h' tk' (fun b o hb ho => (hs.2 b hb).trans ho) hn'
end
end Xv
end PySem

namespace Xv
open PySem PySem.Spec PyProof.Rows L2
abbrev St := L2.St
/-- what the written part says of an own class of exceptions, at C; its __init__ at fI; over the built-in B -/
structure ExT (K : PySem.W.Frag) (C fI : Addr) (newId : String) (bmB : List Value) : Prop where
  ini : PySem.W.excInitIn K C bmB newId = true
  ov : PySem.W.excOver K C bmB = true
  hd : PySem.W.hasDictIn K C = true
  sa : PySem.W.findIn K (.ref C) "__setattr__" = some (some (.builtin "object.__setattr__"))
  iC : PySem.W.findIn K (.ref C) "__init__" = some (some (.ref fI))
  fn : PySem.W.isFn K (.ref fI) = true
  kC : PySem.W.keepIn K (.ref C) = true
/-- bases -/
structure Bas (B newId initId : String) (bmB : List Value) : Prop where
  F : ExcBaseFacts B newId initId bmB
  S : StoreFacts B bmB "object.__setattr__" "object"
section
variable {X : Cx} {pins : List (Addr × Obj)} {σ : St} {H : Hp} {s : Shared} {a C dx fI : Addr} {f : Str} {y : V} {u : Value} {fs : List (Str × V)} {Q : Unit → Shared → Prop} {E : Value → Shared → Prop} {A : Around}
variable {B newId initId : String} {bmB : List Value}
/-- self.f = y, the first one -/
theorem put_first (b : Bas B newId initId bmB) (T : ExT X.K C fI newId bmB) (I : Inv X pins σ H s) (e : H a = some (exo a C none)) (hno : PySem.W.takerIn X.K C f = some none) (ry : RelV y u)
    (h : ∀ dx s', H dx = none → dx ≠ a → Inv X pins σ (upd (upd H dx (exd dx [(f, y)])) a (exo a C (some dx))) s' → Q () s') : wpAny (model X.prog X.w) A (setAttr (.ref a) f u) Q E s := by
  obtain ⟨t1, ho⟩ := exo_at I.hok e
  obtain ⟨hp, g, d, t, os⟩ := s
  refine PySem.W.set_plain I.kIn (ox := { cls := .ref C, dict := none, data := .fields #[.ref t1, .none, .none, .none, .bool false, .none] }) (od := none) ⟨ho, rfl, rfl, trivial⟩ T.sa ?_
  refine PySem.Xv.field_first b.S I.kIn ho T.ov T.hd hno (fun h' tk' dx k dn dne hx hn => ?_)
  have hnd : H dx = none := I.hok.fresh dn
  have nd : ∀ {b : Addr} {o : Obj}, hp.get? b = some o → b ≠ dx := fun {b o} q => Nat.ne_of_lt (Nat.lt_of_lt_of_le (Heap.lt_size q) dn)
  have na : ∀ {b : Addr}, H b = none → b ≠ a := fun {b} n z => by
    rw [z, e] at n
    cases n
  have U : Un X.fs [] H (upd (upd H dx (exd dx [(f, y)])) a (exo a C (some dx))) hp h' := {
    keep := fun b o q n _ _ => k b o (na n) q
    slot := fun b o q n _ _ => ⟨o.slots, k b o (na n) q⟩
    free := fun b o q n _ => by
      rw [upd_ne (na n), upd_ne (nd q)]
      exact n
    there := fun b o q _ => by
      by_cases hb : b = a
      · exact ⟨_, by rw [hb]; exact hx⟩
      · exact ⟨o, k b o hb q⟩
    tups := fun b xs q => by
      rw [upd_ne (at_ne e q exo_tup), upd_ne (ne_of_none q hnd)]
      exact q
    frzs := fun b o v q => by
      rw [upd_ne (at_ne e q exo_frz), upd_ne (ne_of_none q hnd)]
      exact q
    tbls := fun b ps q => ⟨#[], by
      rw [upd_ne (at_ne e q exo_tbl), upd_ne (ne_of_none q hnd), q]
      simp⟩ }
  have hok : HOk X.prog X.w (upd (upd H dx (exd dx [(f, y)])) a (exo a C (some dx))) h' := fun b o q => by
    by_cases hb : b = a
    · subst hb
      rw [upd_same] at q
      cases q
      exact exo_ok hx
    · rw [upd_ne hb] at q
      by_cases hbd : b = dx
      · subst hbd
        rw [upd_same] at q
        cases q
        exact exd_ok hn (fun z => relO_put (fs := []) (mA := fun _ => none) ry (fun _ => trivial) z)
      · rw [upd_ne hbd] at q
        exact (I.hok b o q).stay (fun c v hc z => k c v (by
            rcases hc with hc | hc
            · rw [hc]
              exact hb
            · exact at_ne e hc exo_own) z)
          (fun c hc => by
            rw [upd_ne (at_ne e hc exo_own), upd_ne (ne_of_none hc hnd)]
            exact hc) (fun c xs hc => by
            rw [upd_ne (at_ne e hc exo_tup), upd_ne (ne_of_none hc hnd)]
            exact hc)
  exact h dx _ hnd dne (I.un (t' := tk') U hok)
/-- a further one -/
theorem put_more (b : Bas B newId initId bmB) (T : ExT X.K C fI newId bmB) (I : Inv X pins σ H s) (e : H a = some (exo a C (some dx))) (ed : H dx = some (exd dx fs)) (hl : fs.length ≤ 900) (hno : PySem.W.takerIn X.K C f = some none) (ry : RelV y u)
    (h : ∀ s', Inv X pins σ (upd H dx (exd dx ((f, y) :: fs))) s' → Q () s') : wpAny (model X.prog X.w) A (setAttr (.ref a) f u) Q E s := by
  obtain ⟨t1, ho⟩ := exo_at I.hok e
  obtain ⟨mA, hns, rel⟩ := exd_at I.hok ed
  have hw := within_of rel
  obtain ⟨hp, g, d, t, os⟩ := s
  obtain ⟨oD, _, _, hoD, _, _⟩ := hns.count hw
  refine PySem.W.set_plain I.kIn (ox := { cls := .ref C, dict := some dx, data := .fields #[.ref t1, .none, .none, .none, .bool false, .none] }) (od := some oD) ⟨ho, rfl, rfl, hoD⟩ T.sa ?_
  refine PySem.Xv.field_more b.S I.kIn ho hns hw (by rw [List.length_map]; omega) T.ov T.hd hno (fun h' tk' k hn => ?_)
  have hd : ∃ o, h'.get? dx = some o := by
    obtain ⟨o, _, _, e', _⟩ := hn
    exact ⟨o, e'⟩
  exact h _ (I.write (t' := tk') (x := dx) (e := dx) (o := exd dx ((f, y) :: fs)) (by rw [ed]; exact True.intro) (.inl rfl) k hd (exd_ok hn (relO_put ry rel)))
end
end Xv

set_option maxHeartbeats 4000000
namespace PySem.W
open PySem PySem.Spec PySem.Calls PyProof.Rows
section
variable {prog : Program} {w : World} {A : Around} {E : Value → Shared → Prop} {s : Shared} {K : Frag} {x D : Addr} {ox : Obj} {od : Option Obj}
theorem xv_data {C : Addr} {name : Str} {a g : Value} (hc : (clsIn K C).isSome = true) (ha : findIn K (.ref C) name = some (some a)) (hg : specialIn K a "__get__" = some (some g)) (ht : takesIn K a = some true) : findObj K C od name = some (.bind g a) := by
  obtain ⟨cd, hc⟩ := Option.isSome_iff_exists.mp hc
  unfold findObj
  rw [hc, Option.bind_some, ha, Option.bind_some]
  simp [hg, ht]
/-- the class of an exception that has its dict, or none as yet -/
theorem xv_class {Q : Option Value → Shared → Prop} (T : L2.ExcC K D)
    (X : K.In s.heap) (I : InstAt s.heap x ox D od) (h : Q (some (.ref D)) { s with toks := s.toks + 1 }) : wpAny (model prog w) A (getAttr? (.ref x) "__class__") Q E s := by
  have hf : findObj K D od "__class__" = some (.bind (.builtin "getset_descriptor.__get__") (.builtin "object.__class__")) :=
    xv_data (by obtain ⟨cd, hc, _⟩ := any_some T.hd; rw [hc]; rfl) T.ha T.hn T.ht
  obtain ⟨hp, g, d, t, os⟩ := s
  have L0 := I.type (M := model prog w)
  have L1 := looks_findIn (M := model prog w) X T.hg
  have L2 := looks_findIn (M := model prog w) X T.hk
  have L3 := looks_find (M := model prog w) X I hf
  have sub : Looks (model prog w) hp (isInstance (.ref x) (.type "BaseException")) true := L0.andThen (looks_subIn X T.hs)
  have z0 : (false && onTheHeap (Value.builtin "BaseException.__getattribute__")) = false := rfl
  have z2 : (Value.builtin "BaseException.__getattribute__" == Value.builtin "object.__getattribute__") = false := by decide +kernel
  have z1 : (onTheHeap (Value.ref D) && Value.builtin "BaseException.__getattribute__" == Value.builtin "object.__getattribute__") = false := by
    rw [z2]; rfl
  unfold getAttr? getAttrBy? getAttrBy
  refine wpAny_bind (wpAny_mkText (wpAny_bind (wpAny_attempt (wpAny_holding (wpAny_bind (L0.at (wpAny_bind (L1.at ?_))))))))
  show wpAny _ _ (if (onTheHeap (Value.ref D) && Value.builtin "BaseException.__getattribute__" == Value.builtin "object.__getattribute__") = true then _ else _) _ _ _
  rw [z1, if_neg Bool.false_ne_true]
  unfold getAttrByItsOwn hookBefore
  refine wpAny_bind ?_
  rw [if_pos (show onTheHeap (Value.ref D) = true from rfl)]
  refine L2.at ?_
  refine wpAny_bind (wpAny_attempt (wpAny_holding ?_))
  unfold callGetattribute
  rw [z0, if_neg Bool.false_ne_true]
  unfold boundAndCalled
  rw [PySem.F.excAttr_ValueError.ga.bind (.ref x)]
  refine wpAny_bind (wpAny_pure ?_)
  show wpAny _ _ (call (.builtin "BaseException.__getattribute__") [.ref x, .str "__class__" t]) _ _ _
  refine wpAny_call (codeAny_call_builtin PySem.F.excAttr_ValueError.ga.plain PySem.F.entry_bexc_ga ?_)
  refine @check_slot (model prog w) _ _ ⟨hp, g, d, t + 1, os⟩ "BaseException.__getattribute__" "BaseException" "__getattribute__" (.ref x) [.str "__class__" t] [] _ (by decide +kernel) (by decide +kernel) sub (PySem.F.args_bexc_ga (.ref x) (.str "__class__" t)) ?_
  unfold Builtin.«object.__getattribute__»
  refine wpAny_bind (wpAny_of_eq (a := ((Value.ref x : Value), [Value.str "__class__" t])) (by first | rfl | (simp only [slotArgs]; rfl)) ?_)
  refine wpAny_bind (wpAny_pure (wpAny_bind (L0.at (wpAny_bind (L3.at ?_)))))
  show wpAny _ _ (holding [Value.builtin "object.__class__"] (call (.builtin "getset_descriptor.__get__") [.builtin "object.__class__", .ref x, .ref D]) >>= ret) _ _ _
  refine wpAny_bind (wpAny_holding (wpAny_call (class_get (s := ⟨hp, g, d, t + 1, os⟩) (ox := ox) (od := od) X I T.hm ?_)))
  refine wpAny_pure ?_
  show wpAny _ _ (handedOut (.ref D)) _ _ _
  rw [handedOut_of (v := .ref D) rfl]
  first
    | exact wpAny_pure (wpAny_pure h)
    | exact wpAny_pure h
    | exact wpAny_pure (wpAny_bind (wpAny_pure (wpAny_pure h)))
theorem xv_kit (T : L2.ExcC K D) : KitX K (.ref x) (.ref D) (fun h => ∃ ox od, InstAt h x ox D od) where
  ty := fun _ _ _ ⟨_, _, I⟩ => I.type
  it := fun _ _ X _ => by
    obtain ⟨cdD, hcD, _⟩ := any_some T.hd
    unfold clsIn at hcD
    split at hcD
    · rename_i c' d' cd' sl' ho
      intro A' Q' E' s' k q
      unfold isType loadHead
      exact wpAny_bind (wpAny_loadPart (k _ _ (X _ _ ho)) (wpAny_pure q))
    · cases hcD
  ne := fun h tp dd its n sl X htp => by
    obtain ⟨cdD, hcD, _⟩ := any_some T.hd
    refine Bool.eq_false_iff.mpr fun q => ?_
    have e : D = tp := Value.ref.inj (beq_iff_eq.mp q)
    subst e
    unfold clsIn at hcD
    split at hcD
    · rename_i c' d' cd' sl' ho
      have z := (X _ _ ho).symm.trans htp
      cases z
    · cases hcD
  ca := fun X ⟨_, _, I⟩ k => xv_class T X I k
end
end PySem.W
namespace Xv
open PySem PySem.Spec PyProof.Rows L2
/-! ### a new exception as a value -/
def tExv (C : Addr) (sp : Sp) (ta : TA) : TE := fun σ H Q => ta σ H fun vs H1 => vs.length ≤ 1000 ∧ ∀ a, H1 a = none → sp (.ref a :: vs) (upd H1 a (exo a C none)) (fun v H2 => v = .non ∧ Q (.ref a) H2) E0
def tExvK (C : Addr) (n : Nat) (sp : Sp) (gV : List V → List V → List V) (tk : TA) : TE := fun σ H Q => tk σ H fun zs H1 => zs.length = n ∧ ∀ a, H1 a = none → sp (gV [.ref a] zs) (upd H1 a (exo a C none)) (fun v H2 => v = .non ∧ Q (.ref a) H2) E0
section
variable {X : Cx} {k : Nat} {C fI : Addr} {fd : FuncData} {ps ks : List Str} {sp : Sp} {x : Str} {p pos : Pos} {e : Expr} {es : List Expr} {kws : List Keyword} {ta tk : TA} {g : List Value → List Value → List Value} {gV : List V → List V → List V} {B newId initId : String} {bmB : List Value}
theorem run_exv {pins : List (Addr × Obj)} {σ : St} {H : Hp} {s : Shared} {Q : VK} {us : List Value} {kw : List (Str × Value)} (b : Bas B newId initId bmB) (T : ExT X.K C fI newId bmB) (F1 : FnOk X.prog X.w X.K X.mg X.base CX0 k fI fd ps sp) (hr : Room (k + 1) X.A)
    (I : Inv X pins σ H s) (hz : us.length ≤ 1000) {al : Addr → List V} {bl : Addr → List Value} (hbl : ∀ a, Vals (al a) (bl a)) (hbind : ∀ a s', X.K.In s'.heap → BindsTo s' fd ⟨.ref a :: us, kw⟩ (ps.zip (bl a)))
    (h : ∀ a, H a = none → sp (al a) (upd H a (exo a C none)) (fun v H2 => v = .non ∧ Q (.ref a) H2) E0) :
    wpAny (model X.prog X.w) X.A (call (.ref C) us kw) (EP X pins σ Q) X.xe s := by
  obtain ⟨nm, N', qn, bs, bm, hdct, sn, sub, ab, col, dd, k0, k1, k2, k3, k5, hC, hT⟩ := PySem.W.excInit_of I.kIn T.ini
  obtain ⟨hp, gg, dr, tk, os⟩ := s
  have hn : H (hp.objs.size + 1) = none := I.hok.fresh (Nat.le_succ _)
  have kk : ∀ b o, hp.get? b = some o → ((hp.push (PySem.W.kdv_tup us)).push (PySem.HandSPX.excO C hp.objs.size)).get? b = some o := fun b o e => Heap.get?_push_of_some _ (Heap.get?_push_of_some _ e)
  have hget : ((hp.push (PySem.W.kdv_tup us)).push (PySem.HandSPX.excO C hp.objs.size)).get? (hp.objs.size + 1) = some (PySem.HandSPX.excO C hp.objs.size) := by heap_get
  have I2 : Inv X pins σ (upd H (hp.objs.size + 1) (exo (hp.objs.size + 1) C none)) ⟨(hp.push (PySem.W.kdv_tup us)).push (PySem.HandSPX.excO C hp.objs.size), gg, dr, tk, os⟩ :=
    I.laid (t' := tk) (a := hp.objs.size + 1) (o := exo (hp.objs.size + 1) C none) (h' := (hp.push (PySem.W.kdv_tup us)).push (PySem.HandSPX.excO C hp.objs.size)) kk (Nat.le_succ _) (exo_ok hget)
  have hus : us.length ≤ sizeLine := by
    rw [sizeLine_eq]
    omega
  refine wpAny_call (PySem.Xv.call_kw b.F hT hC (PySem.W.looks_findIn I.kIn T.iC) (fun self => PySem.W.bind_fn I.kIn self (beq_iff_eq.mp T.fn)) hus
    (codeAny_mono (F1.run _ X.stack _ _ ⟨Value.ref (hp.objs.size + 1) :: us, kw⟩ _ _ _ E0 (hr.make C us kw) (I2.env0.make C us kw) (hbind _ _ I2.kIn) (hbl (hp.objs.size + 1)) (h _ hn)) fun r s' hq' => ?_))
  cases r with
  | error er => exact False.elim hq'
  | ok fl =>
    cases fl with
    | ret u =>
      obtain ⟨v, H2, I3, rv, ev, q3⟩ := I2.after hq'
      subst ev
      exact ⟨rv, ⟨V.ref (hp.objs.size + 1), H2, I3, rfl, q3⟩⟩
    | next => exact False.elim hq'
    | brk => exact False.elim hq'
    | cont => exact False.elim hq'
theorem pe_exv (b : Bas B newId initId bmB) (T : ExT X.K C fI newId bmB) (F1 : FnOk X.prog X.w X.K X.mg X.base CX0 k fI fd ps sp) (hr : Room (k + 1) X.A) (hb : Binds X.K fd ps []) (hg : Gl X x) (hm : X.mg x = some (.ref C)) (ha : PA X (e :: es) ta)
    (hdb : (x == ("__debug__" : Str)) = false := by decide) (he : starEach (e :: es) X.env = (false, eval e X.env) :: starEach es X.env := by rfl) (hpl : (backTo pos (starEach es X.env)).any (·.1) = false := by rfl) :
    PE X (.Call (.Name x p) (e :: es) [] pos) (tExv C sp ta) := by
  refine ⟨fun pins s σ H Q I h => ?_⟩
  refine wpAny_Call_Name_kw (ld_glob I hg hm ?_ hdb)
  refine PySem.W.callWith_K (h₀ := X.base) I.ok.mod.kin T.kC (thn (ha.run pos pins s σ H _ I h) fun us s1 ⟨vs, H1, I1, r1, hz, q1⟩ => ⟨I1.kIn, ?_⟩) he hpl
  have hl : us.length + 1 = ps.length := by
    rw [← F1.len _ _ _ _ (q1 _ (I1.hok.fresh (Nat.le_refl _))), List.length_cons, r1.length]
  exact run_exv (al := fun a => .ref a :: vs) (bl := fun a => .ref a :: us) b T F1 hr I1 (by show us.length ≤ 1000; rw [← r1.length]; exact hz) (fun a => .cons rfl r1)
    (fun a s' ki => by
      have z := hb s' (.ref a :: us) ki (by rw [List.append_nil, List.length_cons, hl])
      rw [List.append_nil] at z
      exact z) q1
theorem pe_exv0 (b : Bas B newId initId bmB) (T : ExT X.K C fI newId bmB) (F1 : FnOk X.prog X.w X.K X.mg X.base CX0 k fI fd ps sp) (hr : Room (k + 1) X.A) (hb : Binds X.K fd ps []) (hg : Gl X x) (hm : X.mg x = some (.ref C))
    (hdb : (x == ("__debug__" : Str)) = false := by decide) :
    PE X (.Call (.Name x p) [] [] pos) (tExv C sp tNil) := by
  refine ⟨fun pins s σ H Q I h => ?_⟩
  refine wpAny_Call_Name_kw (ld_glob I hg hm ?_ hdb)
  refine PySem.W.callWith_K0 I.kIn T.kC ?_
  obtain ⟨hz, q1⟩ := h
  have hl : 1 = ps.length := F1.len _ _ _ _ (q1 _ (I.hok.fresh (Nat.le_refl _)))
  exact run_exv (us := []) (kw := []) (al := fun a => [.ref a]) (bl := fun a => [.ref a]) b T F1 hr I (Nat.zero_le _) (fun a => .cons rfl .nil)
    (fun a s' ki => by
      have z := hb s' [.ref a] ki (by rw [List.append_nil]; exact hl)
      rw [List.append_nil] at z
      exact z) q1
theorem pe_exvK (b : Bas B newId initId bmB) (T : ExT X.K C fI newId bmB) (F1 : FnOk X.prog X.w X.K X.mg X.base CX0 k fI fd ps sp) (hr : Room (k + 1) X.A) (hb : KBn X.K fd ps 1 ks g gV) (hg : Gl X x) (hm : X.mg x = some (.ref C)) (hkw : PK X kws tk)
    (hall : (backToKw pos (keywordEach kws X.env)).all (·.1.isSome) = true := by rfl) (hks : (backToKw pos (keywordEach kws X.env)).filterMap (·.1) = ks := by rfl) (hdb : (x == ("__debug__" : Str)) = false := by decide)
    (hpl : ((backTo pos (starEach [] X.env)).any (·.1) || (backToKw pos (keywordEach kws X.env)).any (·.1.isNone)) = false := by rfl) :
    PE X (.Call (.Name x p) [] kws pos) (tExvK C ks.length sp gV tk) := by
  refine ⟨fun pins s σ H Q I h => ?_⟩
  refine wpAny_Call_Name_kw (ld_glob I hg hm ?_ hdb)
  refine PySem.W.callWith_KW0 (h₀ := X.base) I.ok.mod.kin T.kC hall ?_ hpl
  refine thn (hkw.run pos pins s σ H _ I h) fun ws s2 ⟨zs, H2, I2, rz, l2, q2⟩ => ⟨I2.kIn, ?_⟩
  rw [hks]
  exact run_exv (us := []) (al := fun a => gV [.ref a] zs) (bl := fun a => g [.ref a] ws) b T F1 hr I2 (Nat.zero_le _) (fun a => hb.rel (.cons rfl .nil) rz)
    (fun a s' ki => hb.to s' [.ref a] ws ki rfl (rz.length.symm.trans l2)) q2
end
/-! ### its field, its class -/
section
variable {X : Cx} {a C d : Addr} {dd : Option Addr} {fs : List (Str × V)} {H : Hp} {s : Shared} {pins : List (Addr × Obj)} {σ : St}
theorem exo_inst (I : Inv X pins σ H s) (e : H a = some (exo a C dd)) (hd : ∀ d, dd = some d → ∃ fs, H d = some (exd d fs)) : ∃ ox od, PySem.W.InstAt s.heap a ox C od := by
  obtain ⟨t1, ho⟩ := exo_at I.hok e
  cases dd with
  | none => exact ⟨_, none, ho, rfl, rfl, trivial⟩
  | some d =>
    obtain ⟨fs, ed⟩ := hd d rfl
    obtain ⟨mA, hns, rel⟩ := exd_at I.hok ed
    obtain ⟨oD, _, _, hoD, _⟩ := id hns
    exact ⟨_, some oD, ho, rfl, rfl, hoD⟩
def tXf (K : PySem.W.Frag) (f : Str) (te : TE) : TE := fun σ H Q => te σ H fun x H1 => ∃ a C d fs v, x = .ref a ∧ ExcC K C ∧ PySem.W.findIn K (.ref C) f = some none ∧ H1 a = some (exo a C (some d)) ∧ H1 d = some (exd d fs) ∧ fs.lookup f = some v ∧ Q v H1
/-- e.f of an exception that is held -/
theorem pe_xf {e : Expr} {f : Str} {te : TE} {pos : Pos} (he : PE X e te) (hb : attributeBase e f X.env (eval e X.env) = eval e X.env := by rfl) : PE X (.Attribute e f pos) (tXf X.K f te) := by
  refine ⟨fun pins s σ H Q I h => ?_⟩
  refine attr_of hb (thn (he.run pins s σ H _ I h) fun u s1 hh => ?_)
  obtain ⟨x, H1, I1, rx, a, C, d, fs, v, ex, T, hno, ea, ed, hl, q⟩ := hh
  subst ex
  obtain rfl : u = Value.ref a := rx
  obtain ⟨t1, ho⟩ := exo_at I1.hok ea
  obtain ⟨mA, hns, rel⟩ := exd_at I1.hok ed
  obtain ⟨od, hod, hlk⟩ := lookIn_ns hns
  obtain ⟨uv, hu, ru⟩ := RelO.some_of (v := v) (o := mA f) (by rw [← hl]; exact rel f)
  have J : PySem.W.InstAt s1.heap a { cls := .ref C, dict := some d, data := .fields #[.ref t1, .none, .none, .none, .bool false, .none] } C (some od) := ⟨ho, rfl, rfl, hod⟩
  exact HandSPX.exc_get I1.kIn J T.hg T.hk T.hs (PySem.W.findObj_own T.hd hno rfl (by rw [hlk, hu])) (handed_of ru) ⟨v, H1, I1.tok _, ru, q⟩
/-- isinstance(e, c), e an exception that is held -/
def rXi (K : PySem.W.Frag) : List V → Hp → VK → Prop := fun xs H Q => ∃ (a D : Addr) (dd : Option Addr) (c : V) (cv : Value) (b : Bool), xs = [.ref a, c] ∧ ClsV c cv ∧ ExcC K D ∧ H a = some (exo a D dd) ∧ (∀ d, dd = some d → ∃ fs, H d = some (exd d fs)) ∧ PySem.W.kitOne K (.ref D) cv = some b ∧ Q (.bl b) H
theorem call_xi : CallR X (.builtin "isinstance") (rXi X.K) := by
  intro pins s σ H xs us Q I r h
  obtain ⟨a, D, dd, c, cv, b, rfl, k, T, ea, hd, e, q⟩ := h
  obtain ⟨u1, u2, rfl, r1, r2⟩ := vals2 r
  have e2 := k.eq r2
  subst e2
  cases (show u1 = Value.ref a from r1)
  exact PySem.W.kia_one (PySem.W.xv_kit T) I.kIn (exo_inst I ea hd) e (fun z => nomatch z) fun tk => ⟨.bl b, H, I.tok tk, rfl, q⟩
end
end Xv

namespace PySem
mutual
/-- data in a heap, its dicts none of the interpreter's own -/
inductive Sees (h : Heap) : Value → PyData → Prop
  | none : Sees h .none .none
  | bool (b) : Sees h (.bool b) (.bool b)
  | int (i t) : Sees h (.int i t) (.int i)
  | str (x t) : Sees h (.str x t) (.str x)
  | list {a o vs n xs} : h.get? a = some o → o.cls = .type "list" → o.data = .seq vs n → SeesAll h vs.toList xs → Sees h (.ref a) (.list xs)
  | tuple {a o vs n xs} : h.get? a = some o → o.cls = .type "tuple" → o.data = .seq vs n → SeesAll h vs.toList xs → Sees h (.ref a) (.tuple xs)
  | dict {a o es n kvs} : h.get? a = some o → o.cls = .type "dict" → o.data = .dict es n → (a == sysModules) = false → SeesAll h (es.toList.map (·.key)) (kvs.map (·.1)) →
      SeesAll h (es.toList.map (·.val)) (kvs.map (·.2)) → Sees h (.ref a) (.dict kvs)
inductive SeesAll (h : Heap) : List Value → List PyData → Prop
  | nil : SeesAll h [] []
  | cons {v vs d ds} : Sees h v d → SeesAll h vs ds → SeesAll h (v :: vs) (d :: ds)
end
mutual
theorem Sees.reads {h : Heap} : ∀ {v : Value} {d : PyData}, Sees h v d → ∃ as, Reads h v d as
  | _, _, .none => ⟨_, .none⟩
  | _, _, .bool b => ⟨_, .bool b⟩
  | _, _, .int i t => ⟨_, .int i t⟩
  | _, _, .str x t => ⟨_, .str x t⟩
  | _, _, .list h1 h2 h3 h4 => let ⟨_, r⟩ := SeesAll.reads h4; ⟨_, .list h1 h2 h3 r⟩
  | _, _, .tuple h1 h2 h3 h4 => let ⟨_, r⟩ := SeesAll.reads h4; ⟨_, .tuple h1 h2 h3 r⟩
  | _, _, .dict h1 h2 h3 _ h4 h5 => let ⟨_, r⟩ := SeesAll.reads h4; let ⟨_, r'⟩ := SeesAll.reads h5; ⟨_, .dict h1 h2 h3 r r'⟩
theorem SeesAll.reads {h : Heap} : ∀ {vs : List Value} {ds : List PyData}, SeesAll h vs ds → ∃ as, ReadsAll h vs ds as
  | _, _, .nil => ⟨_, .nil⟩
  | _, _, .cons r rs => let ⟨_, q⟩ := Sees.reads r; let ⟨_, q'⟩ := SeesAll.reads rs; ⟨_, .cons q q'⟩
end
section
variable {prog : Program} {w : World} {h₀ : Heap}
mutual
theorem Sees.reprK : ∀ {v : Value} {d : PyData}, Sees h₀ v d → d.showable = true → d.shown.length ≤ sizeLine → ∃ bs, ReadAtMost h₀ d.depth bs ∧ ReprK prog w bs h₀ d.depth v d.shown
  | _, _, .none, _, _ => ⟨[], (fun _ h => nomatch h), by simp only [PyData.shown]; exact .of_is ReprIs.none _ _ _⟩
  | _, _, .bool b, _, _ => ⟨[], (fun _ h => nomatch h), by simp only [PyData.shown]; exact .of_is (ReprIs.bool b) _ _ _⟩
  | _, _, .int i t, hs, _ => ⟨[], (fun _ h => nomatch h), by simp only [PyData.shown]; exact .of_is (ReprIs.int t (by simpa [PyData.showable] using hs)) _ _ _⟩
  | _, _, .str x t, _, hz => ⟨[], (fun _ h => nomatch h), by simp only [PyData.shown]; exact .of_is (ReprIs.str x t (by simpa only [PyData.shown] using hz)) _ _ _⟩
  | _, _, .list (a := a) (vs := vs) (xs := xs) h1 h2 h3 h4, hs, hz => by
    have zz : (listText (PyData.shownAll xs)).length ≤ sizeLine := by simpa only [PyData.shown] using hz
    obtain ⟨bs, hb, hk⟩ := SeesAll.reprK h4 (by simpa [PyData.showable] using hs) (fun t ht => Nat.le_trans (listText_mem_le ht) zz)
    obtain ⟨_, r⟩ := (Sees.list h1 h2 h3 h4).reads
    have hna : a ∉ bs := not_mem_of_deeper r (by simp only [PyData.depth]; omega) hb
    refine ⟨a :: bs, ReadAtMost.cons r (by simp only [PyData.depth]; omega) hb, ?_⟩
    simp only [PyData.depth, PyData.shown]
    obtain ⟨l⟩ := vs
    cases l with
    | nil =>
      have h5 : SeesAll h₀ [] xs := h4
      cases h5
      simp only [PyData.shownAll, listText_nil]
      exact ReprK.listEmpty h1 h2 h3
    | cons x l => exact ReprK.list h1 h2 h3 hna (by simpa using hk.length_eq) (fun i y e => hk.item i y (by simpa using e))
  | _, _, .tuple (a := a) (xs := xs) h1 h2 h3 h4, hs, hz => by
    have zz : (tupleText (PyData.shownAll xs)).length ≤ sizeLine := by simpa only [PyData.shown] using hz
    obtain ⟨bs, hb, hk⟩ := SeesAll.reprK h4 (by simpa [PyData.showable] using hs) (fun t ht => Nat.le_trans (tupleText_mem_le ht) zz)
    obtain ⟨_, r⟩ := (Sees.tuple h1 h2 h3 h4).reads
    have hna : a ∉ bs := not_mem_of_deeper r (by simp only [PyData.depth]; omega) hb
    refine ⟨a :: bs, ReadAtMost.cons r (by simp only [PyData.depth]; omega) hb, ?_⟩
    simp only [PyData.depth, PyData.shown]
    exact ReprK.tuple h1 h2 h3 hna hk
  | _, _, .dict (a := a) (es := es) (kvs := kvs) h1 h2 h3 hy h4 h5, hs, hz => by
    have zz : (dictText (PyData.shownKv kvs)).length ≤ sizeLine := by simpa only [PyData.shown] using hz
    obtain ⟨s1, s2⟩ := PyData.showableKv_split kvs (by simpa [PyData.showable] using hs)
    obtain ⟨b1, hb1, k1⟩ := SeesAll.reprK h4 s1 (fun t ht => let ⟨p, hp, hl⟩ := PyData.shownKv_key_le kvs t ht; Nat.le_trans hl (Nat.le_trans (dictText_mem_le hp) zz))
    obtain ⟨b2, hb2, k2⟩ := SeesAll.reprK h5 s2 (fun t ht => let ⟨p, hp, hl⟩ := PyData.shownKv_val_le kvs t ht; Nat.le_trans hl (Nat.le_trans (dictText_mem_le hp) zz))
    obtain ⟨_, r⟩ := (Sees.dict h1 h2 h3 hy h4 h5).reads
    have hb : ReadAtMost h₀ (PyData.depthKv kvs) (b1 ++ b2) := (hb1.mono (PyData.depthAll_keys_le kvs)).append (hb2.mono (PyData.depthAll_vals_le kvs))
    have hna : a ∉ b1 ++ b2 := not_mem_of_deeper r (by simp only [PyData.depth]; omega) hb
    refine ⟨a :: (b1 ++ b2), ReadAtMost.cons r (by simp only [PyData.depth]; omega) hb, ?_⟩
    simp only [PyData.depth, PyData.shown, PyData.shownKv_eq]
    exact ReprK.dict h1 h2 h3 hy hna (ReprEntriesK.of_two es.toList _ _
      (k1.more_le (fun b hb => List.mem_append_left _ hb) (PyData.depthAll_keys_le kvs))
      (k2.more_le (fun b hb => List.mem_append_right _ hb) (PyData.depthAll_vals_le kvs)))
theorem SeesAll.reprK : ∀ {vs : List Value} {ds : List PyData}, SeesAll h₀ vs ds → PyData.showableAll ds = true → (∀ t ∈ PyData.shownAll ds, t.length ≤ sizeLine) →
    ∃ bs, ReadAtMost h₀ (PyData.depthAll ds) bs ∧ ReprAllK prog w bs h₀ (PyData.depthAll ds) vs (PyData.shownAll ds)
  | _, _, .nil, _, _ => ⟨[], (fun _ h => nomatch h), by simp only [PyData.shownAll]; exact .nil⟩
  | _, _, .cons (d := d) (ds := ds) r rs, hs, hz => by
    have ss : d.showable = true ∧ PyData.showableAll ds = true := by simpa [PyData.showableAll] using hs
    obtain ⟨b1, hb1, k1⟩ := Sees.reprK r ss.1 (hz _ (by simp only [PyData.shownAll]; exact List.mem_cons_self ..))
    obtain ⟨b2, hb2, k2⟩ := SeesAll.reprK rs ss.2 (fun t ht => hz t (by simp only [PyData.shownAll]; exact List.mem_cons_of_mem _ ht))
    refine ⟨b1 ++ b2, fun b hm => ?_, ?_⟩
    · simp only [PyData.depthAll]
      rcases List.mem_append.mp hm with hm | hm
      · obtain ⟨d', as', r', hd'⟩ := hb1 b hm
        exact ⟨d', as', r', Nat.le_trans hd' (Nat.le_max_left _ _)⟩
      · obtain ⟨d', as', r', hd'⟩ := hb2 b hm
        exact ⟨d', as', r', Nat.le_trans hd' (Nat.le_max_right _ _)⟩
    · simp only [PyData.depthAll, PyData.shownAll]
      exact .cons ((k1.more fun b hb => List.mem_append_left _ hb).level_le (Nat.le_max_left _ _)) (k2.more_le (fun b hb => List.mem_append_right _ hb) (Nat.le_max_right _ _))
end
theorem Sees.showsBy {a : Addr} {d : PyData} (r : Sees h₀ (.ref a) d) (hs : d.showable = true) (hsz : d.shown.length ≤ sizeLine) : ∃ T idr, ShowsBy prog w h₀ a d T idr := by
  cases r with
  | list h1 h2 h3 h4 =>
    rename_i o vs n xs
    have zz : (listText (PyData.shownAll xs)).length ≤ sizeLine := by simpa only [PyData.shown] using hsz
    obtain ⟨bs, hb, hk⟩ := SeesAll.reprK (prog := prog) (w := w) h4 (by simpa [PyData.showable] using hs) (fun t ht => Nat.le_trans (listText_mem_le ht) zz)
    obtain ⟨_, rr⟩ := (Sees.list h1 h2 h3 h4).reads
    have hna : a ∉ bs := not_mem_of_deeper rr (by simp only [PyData.depth]; omega) hb
    refine ⟨"list", "list.__repr__", F.slot_list_repr.toG, F.slot_list_str, F.slot_list_format, fun s hk0 => ⟨o, hk0 _ _ h1, h2⟩, fun A E s Q hg hu hk0 hQ => ?_⟩
    simp only [PyData.depth] at hu
    simp only [PyData.shown] at hQ
    obtain ⟨l⟩ := vs
    cases l with
    | nil =>
      have h5 : SeesAll h₀ [] xs := h4
      cases h5
      simp only [PyData.shownAll, listText_nil] at hQ
      exact call_list_repr_empty ⟨o, hk0 _ _ h1, h2⟩ (hk0 _ _ h1) h3 (hQ s.heap _ _ fun _ _ e => e)
    | cons x l => exact call_list_reprK h1 h2 h3 hna (by simpa using hk.length_eq) (fun i y e => hk.item i y (by simpa using e)) hg (fun b _ => Clear.nil b) hu hk0 hQ zz
  | tuple h1 h2 h3 h4 =>
    rename_i o vs n xs
    have zz : (tupleText (PyData.shownAll xs)).length ≤ sizeLine := by simpa only [PyData.shown] using hsz
    obtain ⟨bs, hb, hk⟩ := SeesAll.reprK (prog := prog) (w := w) h4 (by simpa [PyData.showable] using hs) (fun t ht => Nat.le_trans (tupleText_mem_le ht) zz)
    obtain ⟨_, rr⟩ := (Sees.tuple h1 h2 h3 h4).reads
    have hna : a ∉ bs := not_mem_of_deeper rr (by simp only [PyData.depth]; omega) hb
    refine ⟨"tuple", "tuple.__repr__", F.slot_tuple_repr, F.slot_tuple_str, F.slot_tuple_format, fun s hk0 => ⟨o, hk0 _ _ h1, h2⟩, fun A E s Q hg hu hk0 hQ => ?_⟩
    simp only [PyData.depth] at hu
    simp only [PyData.shown] at hQ
    exact call_tuple_reprK h1 h2 h3 hna hk hg (fun b _ => Clear.nil b) hu hk0 hQ zz
  | dict h1 h2 h3 hy h4 h5 =>
    rename_i o es n kvs
    have zz : (dictText (PyData.shownKv kvs)).length ≤ sizeLine := by simpa only [PyData.shown] using hsz
    obtain ⟨s1, s2⟩ := PyData.showableKv_split kvs (by simpa [PyData.showable] using hs)
    obtain ⟨b1, hb1, k1⟩ := SeesAll.reprK (prog := prog) (w := w) h4 s1 (fun t ht => let ⟨p, hp, hl⟩ := PyData.shownKv_key_le kvs t ht; Nat.le_trans hl (Nat.le_trans (dictText_mem_le hp) zz))
    obtain ⟨b2, hb2, k2⟩ := SeesAll.reprK (prog := prog) (w := w) h5 s2 (fun t ht => let ⟨p, hp, hl⟩ := PyData.shownKv_val_le kvs t ht; Nat.le_trans hl (Nat.le_trans (dictText_mem_le hp) zz))
    obtain ⟨_, rr⟩ := (Sees.dict h1 h2 h3 hy h4 h5).reads
    have hb : ReadAtMost h₀ (PyData.depthKv kvs) (b1 ++ b2) := (hb1.mono (PyData.depthAll_keys_le kvs)).append (hb2.mono (PyData.depthAll_vals_le kvs))
    have hna : a ∉ b1 ++ b2 := not_mem_of_deeper rr (by simp only [PyData.depth]; omega) hb
    refine ⟨"dict", "dict.__repr__", F.slot_dict_repr, F.slot_dict_str, F.slot_dict_format, fun s hk0 => ⟨o, hk0 _ _ h1, h2⟩, fun A E s Q hg hu hk0 hQ => ?_⟩
    simp only [PyData.depth] at hu
    simp only [PyData.shown, PyData.shownKv_eq] at hQ
    exact call_dict_reprK h1 h2 h3 hy hna (ReprEntriesK.of_two es.toList _ _
      (k1.more_le (fun b hb => List.mem_append_left _ hb) (PyData.depthAll_keys_le kvs))
      (k2.more_le (fun b hb => List.mem_append_right _ hb) (PyData.depthAll_vals_le kvs))) hg (fun b _ => Clear.nil b) hu hk0 hQ (by rw [← PyData.shownKv_eq]; exact zz)
/-- repr of data -/
theorem Sees.repr {A : Around} {E : Value → Shared → Prop} {s : Shared} {Q : Value → Shared → Prop} {v : Value} {d : PyData} (r : Sees s.heap v d) (hs : d.showable = true) (hsz : d.shown.length ≤ sizeLine) (hg : A.guards = some []) (hu : A.units + (d.depth + 1) < cLine)
    (hQ : ∀ h' u tk, (∀ b o, s.heap.get? b = some o → h'.get? b = some o) → Q (.str d.shown u) { s with heap := h', toks := tk }) : wpAny (model prog w) A (call (.builtin "repr") [v]) Q E s := by
  cases v with
  | ref a =>
    obtain ⟨T, idr, S⟩ := r.showsBy (prog := prog) (w := w) hs hsz
    exact call_repr_slot (by omega) (S.typeIs s fun _ _ e => e) S.slotRepr (S.call A.in1 E s _ hg (by show A.units + 1 + d.depth < cLine; omega) (fun _ _ e => e) fun h' u tk hk => ⟨_, _, rfl, hQ h' u tk hk⟩)
  | none => cases r with | none => exact P.repr_of_none (by have z := hQ s.heap s.toks (s.toks + 1) (fun _ _ e => e); simpa only [PyData.shown] using z)
  | bool b => cases r with | bool b => exact P.repr_of_bool (by have z := hQ s.heap s.toks (s.toks + 1) (fun _ _ e => e); simpa only [PyData.shown] using z)
  | int i t => cases r with | int i t => exact P.repr_of_int (by simpa [PyData.showable] using hs) (by have z := hQ s.heap s.toks (s.toks + 1) (fun _ _ e => e); simpa only [PyData.shown] using z)
  | str x t => cases r with | str x t => exact P.repr_of_str (by have z := hQ s.heap s.toks (s.toks + 1) (fun _ _ e => e); simpa only [PyData.shown] using z) (by simpa only [PyData.shown] using hsz)
  | ellipsis => cases r
  | notImplemented => cases r
  | float _ _ => cases r
  | bytes _ _ => cases r
  | type _ => cases r
  | builtin _ => cases r
end
end PySem

namespace Xv
open PySem PySem.Spec PyProof.Rows L2
/-! ### data, dicts among them -/
def kD : Key → PyData
  | .inl i => .int i
  | .inr x => .str x
mutual
inductive Dr (K : PySem.W.Frag) (H : Hp) : V → PyData → Prop
  | non : Dr K H .non .none
  | bl (b : Bool) : Dr K H (.bl b) (.bool b)
  | int (i : Int) : Dr K H (.int i) (.int i)
  | str (x : Str) : Dr K H (.str x) (.str x)
  | lst {a : Addr} {xs : List V} {ds : List PyData} : SqL K H a xs → DrAll K H xs ds → Dr K H (.ref a) (.list ds)
  | tup {a : Addr} {xs : List V} {ds : List PyData} : SqT K H a xs → DrAll K H xs ds → Dr K H (.ref a) (.tuple ds)
  | dct {a : Addr} {kvs : List (Key × V)} {ps : List (PyData × PyData)} : H a = some (.dK kvs) → DrKv K H kvs ps → Dr K H (.ref a) (.dict ps)
inductive DrAll (K : PySem.W.Frag) (H : Hp) : List V → List PyData → Prop
  | nil : DrAll K H [] []
  | cons {v : V} {vs : List V} {d : PyData} {ds : List PyData} : Dr K H v d → DrAll K H vs ds → DrAll K H (v :: vs) (d :: ds)
inductive DrKv (K : PySem.W.Frag) (H : Hp) : List (Key × V) → List (PyData × PyData) → Prop
  | nil : DrKv K H [] []
  | cons {k : Key} {v : V} {kvs : List (Key × V)} {d : PyData} {ps : List (PyData × PyData)} : Dr K H v d → DrKv K H kvs ps → DrKv K H ((k, v) :: kvs) ((kD k, d) :: ps)
end
theorem same_tup {K : PySem.W.Frag} {H H' : Hp} {a : Addr} {xs : List V} (e : Same H H') (h : SqT K H a xs) : SqT K H' a xs := by
  rcases h with (h | ⟨o, h⟩) | h
  · exact .inl (.inl (e _ _ h))
  · exact .inl (.inr ⟨o, e _ _ h⟩)
  · exact .inr h
mutual
theorem Dr.same {K : PySem.W.Frag} {H H' : Hp} (e : Same H H') : ∀ {v : V} {d : PyData}, Dr K H v d → Dr K H' v d
  | _, _, .non => .non
  | _, _, .bl b => .bl b
  | _, _, .int i => .int i
  | _, _, .str x => .str x
  | _, _, .lst h hs => .lst (e.seq h) (DrAll.same e hs)
  | _, _, .tup h hs => .tup (same_tup e h) (DrAll.same e hs)
  | _, _, .dct h h1 => .dct (e _ _ h) (DrKv.same e h1)
theorem DrAll.same {K : PySem.W.Frag} {H H' : Hp} (e : Same H H') : ∀ {vs : List V} {ds : List PyData}, DrAll K H vs ds → DrAll K H' vs ds
  | _, _, .nil => .nil
  | _, _, .cons h hs => .cons (Dr.same e h) (DrAll.same e hs)
theorem DrKv.same {K : PySem.W.Frag} {H H' : Hp} (e : Same H H') : ∀ {vs : List (Key × V)} {ds : List (PyData × PyData)}, DrKv K H vs ds → DrKv K H' vs ds
  | _, _, .nil => .nil
  | _, _, .cons h hs => .cons (Dr.same e h) (DrKv.same e hs)
end
section
variable {X : Cx} {pins : List (Addr × Obj)} {σ : St} {H : Hp} {s : Shared}
theorem key_sees {P : Program} {w : World} {h : Heap} {k : Key} {v : Value} (e : (mixKind P w).is k v = true) : Sees h v (kD k) := by
  rcases keyIs_shape e with ⟨i, t, rfl, rfl⟩ | ⟨x, t, rfl, rfl⟩
  · exact .int i t
  · exact .str x t
mutual
theorem Dr.sees (I : Inv X pins σ H s) : ∀ {v : V} {d : PyData}, Dr X.K H v d → ∀ {u : Value}, RelV v u → Sees s.heap u d
  | _, _, .non, _, r => by
    cases r
    exact .none
  | _, _, .bl b, _, r => by
    cases r
    exact .bool b
  | _, _, .int i, _, r => by
    obtain ⟨t, rfl⟩ := r
    exact .int i t
  | _, _, .str x, _, r => by
    obtain ⟨t, rfl⟩ := r
    exact .str x t
  | _, _, .lst hs ha, _, r => by
    cases r
    obtain ⟨its, rv, ⟨o, n, ho, hc, _, hd⟩, _⟩ := I.list hs
    exact .list ho hc hd (DrAll.sees I ha rv)
  | _, _, .tup hs ha, _, r => by
    cases r
    obtain ⟨its, rv, ⟨o, ho, hc, n, hd⟩, _⟩ := I.tuple hs
    exact .tuple ho hc hd (DrAll.sees I ha rv)
  | _, _, .dct ha h1, _, r => by
    cases r
    obtain ⟨_, hy, vs, rel, o, es, ep, ho, hx, hd, _, hp, _⟩ := dk_of I.hok ha
    obtain ⟨z1, z2⟩ := DrKv.sees I h1 rel hp
    exact .dict ho hx.1 hd hy z1 z2
theorem DrAll.sees (I : Inv X pins σ H s) : ∀ {vs : List V} {ds : List PyData}, DrAll X.K H vs ds → ∀ {us : List Value}, Vals vs us → SeesAll s.heap us ds
  | _, _, .nil, _, r => by
    cases r
    exact .nil
  | _, _, .cons h1 h2, _, r => by
    cases r with
    | cons r1 r2 => exact .cons (Dr.sees I h1 r1) (DrAll.sees I h2 r2)
theorem DrKv.sees (I : Inv X pins σ H s) : ∀ {kvs : List (Key × V)} {ps : List (PyData × PyData)}, DrKv X.K H kvs ps → ∀ {vs : List (Key × Value)} {es : List DictEntry}, KV kvs vs → PySem.Pairs (mixKind X.prog X.w) es vs →
    SeesAll s.heap (es.map (·.key)) (ps.map (·.1)) ∧ SeesAll s.heap (es.map (·.val)) (ps.map (·.2))
  | _, _, .nil, _, _, r, p => by
    cases r
    cases p
    exact ⟨.nil, .nil⟩
  | _, _, .cons (k := k) h1 h2, _, _, r, p => by
    cases r with
    | cons r1 r2 =>
      cases p with
      | cons hk hv p2 =>
        obtain ⟨e1, e2⟩ := r1
        dsimp only at e1 e2
        obtain ⟨z1, z2⟩ := DrKv.sees I h2 r2 p2
        rw [← e1] at hk
        rw [← hv] at e2
        exact ⟨.cons (key_sees hk) z1, .cons (Dr.sees I h1 e2) z2⟩
end
/-- repr(e), e data -/
@[irreducible] def rRepr (K : PySem.W.Frag) : List V → Hp → VK → Prop := fun xs H Q => ∃ v d, xs = [v] ∧ Dr K H v d ∧ d.showable = true ∧ d.depth ≤ 60 ∧ d.shown.length ≤ sizeLine ∧ Q (.str d.shown) H
theorem call_repr (hg : X.A.guards = some []) (hu : X.A.units + 64 < cLine) : CallR X (.builtin "repr") (rRepr X.K) := by
  intro pins s σ H xs us Q I r h
  unfold rRepr at h
  obtain ⟨v, d, rfl, hd, hs, hdp, hz, q⟩ := h
  obtain ⟨u, rfl, ru⟩ := vals1 r
  exact (Dr.sees I hd ru).repr hs hz hg (by omega) fun h' t tk k => ⟨.str d.shown, H, I.kept (t' := tk) k, ⟨t, rfl⟩, q⟩
end
/-! ### defs that are called while nothing is being shown -/
structure FnG (P : Program) (w : World) (K : PySem.W.Frag) (mg : Str → Option Value) (base : Heap) (k : Nat) (f : Addr) (fd : FuncData) (ps : List Str) (sp : Sp) : Prop where
  len : ∀ vs H Q E, sp vs H Q E → vs.length = ps.length
  run : ∀ (A : Around) (outer : List Env) (s : Shared) (H : Hp) (args : Args) (us : List Value) (vs : List V) (Q : VK), Room k A → A.guards = some [] → Env0 P w K mg base A outer s H → BindsTo s fd args (ps.zip us) → Vals vs us → sp vs H Q E0 →
    codeAny (model P w) A (.call (.ref f) args) (CR CX0 outer P w H s Q E0) s
section
variable {P : Program} {w : World} {K : PySem.W.Frag} {mg : Str → Option Value} {base : Heap}
theorem Fun.okG {x qual : Str} {st : Stmt} {f : Addr} {fd : FuncData} {N ps : List Str} {k : Nat} {sp : Sp} (F : Fun K x qual st f fd) (S : FnScope N ps (defScope st)) (len : ∀ vs H Q E, sp vs H Q E → vs.length = ps.length)
    (hbody : ∀ (cdv : Value) (A : Around) (outer : List Env) (s : Shared) (H : Hp) (vs : List V) (Q : VK), Room k (A.deeper (envOfC qual (defScope st) s.heap.objs.size f cdv)) → (A.deeper (envOfC qual (defScope st) s.heap.objs.size f cdv)).guards = some [] → sp vs H Q E0 →
      ∃ t, PSs (cxOf CX0 P w K mg base N qual (defScope st) f cdv A outer s H E0).nox (defBody st) t ∧ t { nx := fun _ H' => Q .non H', rt := Q } (start N vs) H) : FnG P w K mg base (k + 1) f fd ps sp := by
  obtain ⟨oc, od, kV, doc, pm, an, cdv, ct, osl, rfl, lk, hcd⟩ := F.ex
  refine ⟨len, fun A outer s H args us vs Q hr hgd e0 hb r hsp => ?_⟩
  have hl := len _ _ _ _ hsp
  have X1 : K.In s.heap := e0.mod.kin.keeps fun b o e => (e0.bs b o e).1
  have lim : s.heap.NoLimit := e0.mod.nolimit.keeps fun b o e => (e0.bs b o e).1
  have kinds : ∀ y ∈ ps.zip us, (defScope st).names.lookup y.1 = some .local ∨ ((defScope st).names.lookup y.1 = some .cell ∧ ((cellsFrom (s.heap.objs.size + 1) (defScope st).names []).lookup y.1).isSome = true) := fun ⟨n, v⟩ hy => by
    rcases S.par n (List.of_mem_zip hy).1 with q | q
    · exact .inl q
    · exact .inr ⟨q, PySem.W.cellsFrom_some _ _ _ (.inl q)⟩
  refine codeAny_call_function hr.depth (X1 _ _ lk) rfl S.co S.gen rfl (PySem.W.codeRec_of X1 hcd) (hb _ _ _ _ ?_)
  refine wpAny_newFunctionEnv_cells S.kind kinds fun env he s1 x => ?_
  subst he
  refine ⟨lim.keeps x.toInCall.keep, codeAny_func ?_⟩
  obtain ⟨t, ht, hq⟩ := hbody cdv A outer s H vs Q (hr.deeper _) hgd hsp
  have I : Inv (cxOf CX0 P w K mg base N qual (defScope st) f cdv A outer s H E0) [] (start N vs) H s1 := inv_start S hr.hd e0 hl r x
  refine wpAny_mono (ht.nox.run [] s1 (start N vs) H _ I hq) (fun fl s' hs => ?_) fun e s' hs => hs
  have fin : ∀ {σ' : St} {H' : Hp} {v : V} {u : Value}, Inv (cxOf CX0 P w K mg base N qual (defScope st) f cdv A outer s H E0) [] σ' H' s' → RelV v u → Q v H' → CE outer P w H s Q u s' :=
    fun {σ' H' v u} J rv q => ⟨v, H', J.os, J.bare, J.base, J.hok, rv, q⟩
  cases fl with
  | ret u =>
    obtain ⟨v, σ', H', J, rv, q⟩ := hs
    exact fin J rv q
  | next =>
    obtain ⟨σ', H', J, q⟩ := hs
    exact fin (v := V.non) (u := Value.none) J rfl q
  | brk =>
    obtain ⟨_, _, _, q⟩ := hs
    exact False.elim q
  | cont =>
    obtain ⟨_, _, _, q⟩ := hs
    exact False.elim q
end
section
variable {X : Cx} {k : Nat} {f : Addr} {fd : FuncData} {ps : List Str} {sp : Sp} {x : Str} {p pos : Pos} {e : Expr} {es : List Expr} {t : TA}
theorem pe_callGd (F : FnG X.prog X.w X.K X.mg X.base k f fd ps sp) (hr : Room k X.A) (hgd : X.A.guards = some []) (hg : Gl X x) (hm : X.mg x = some (.ref f)) (hk : PySem.W.keepIn X.K (.ref f) = true) (hb : Binds X.K fd ps [])
    (ha : PA X (e :: es) t) (hdb : (x == ("__debug__" : Str)) = false := by decide) (he : starEach (e :: es) X.env = (false, eval e X.env) :: starEach es X.env := by rfl) (hpl : (backTo pos (starEach es X.env)).any (·.1) = false := by rfl) :
    PE X (.Call (.Name x p) (e :: es) [] pos) (tCall sp [] E0 t) := by
  refine ⟨fun pins s σ H Q I h => ?_⟩
  refine wpAny_Call_Name_kw (ld_glob I hg hm ?_ hdb)
  refine PySem.W.callWith_K (h₀ := X.base) I.ok.mod.kin hk (thn (ha.run pos pins s σ H _ I h) fun us s1 ⟨vs, H1, I1, r, q⟩ => ⟨I1.kIn, ?_⟩) he hpl
  dsimp only at q
  rw [List.append_nil] at q
  have hl : us.length = ps.length := by
    rw [← r.length]
    exact F.len _ _ _ _ q
  have bb := hb s1 us I1.kIn (by rw [List.append_nil]; exact hl)
  rw [List.append_nil] at bb
  refine wpAny_call (codeAny_mono (F.run X.A X.stack s1 H1 ⟨us, []⟩ us vs Q hr hgd I1.env0 bb r q) fun r s' hq => ?_)
  cases r with
  | error e => exact False.elim hq
  | ok fl =>
    cases fl with
    | ret u => exact I1.after hq
    | next => exact False.elim hq
    | brk => exact False.elim hq
    | cont => exact False.elim hq
end
/-! ### the law's call -/
theorem law_callG {P : Program} {w : World} {K : PySem.W.Frag} {mg mb : Str → Option Value} {k : Nat} {fa a : Addr} {fd : FuncData} {x : Str} {sp : Sp} {s₁ : Shared} {vs : List Value} {ns : List Int}
    (KX : K.In s₁.heap) (hns : s₁.heap.Ns mainGlobals mg) (hb : s₁.heap.Ns builtinsNs mb) (hbb : ∀ x : Str, x ≠ "__name__" → mb x = bootBuiltins x) (hlim : s₁.heap.NoLimit) (hg : s₁.gens = #[])
    (ha : s₁.heap.get? a = some { cls := .type "list", data := .seq vs.toArray }) (hi : IntsAre vs ns) (hl : ns.length ≤ sizeLine) (hr : Room k callerA)
    (F : ∀ base : Heap, K.In base → base.Ns mainGlobals mg → FnG P w K mg base k fa fd [x] sp) (hbind : ∀ (s : Shared) (u : Value), BindsTo s fd ⟨[u], []⟩ [(x, u)])
    (hsp : ∀ H : Hp, Only H → SqL K H a (ns.map V.int) → sp [.ref a] H (fun v _ => v = .bl true) E0) :
    codeAny (model P w) callerA (.call (.ref fa) ⟨[.ref a], []⟩) (fun r s' => r = .ok (.ret (.bool true)) ∧ OldK s₁.heap s'.heap ∧ s'.os = s₁.os ∧ AllBare s'.gens) s₁ := by
  have rv := vals_ints hi
  have lenV := hi.length
  have core : ∀ H : Hp, Only H → SqL K H a (ns.map V.int) → HOk P w H s₁.heap → (∀ b, H b ≠ none → b = a) → (H a ≠ none → K.lookup a = none) →
      codeAny (model P w) callerA (.call (.ref fa) ⟨[.ref a], []⟩) (fun r s' => r = .ok (.ret (.bool true)) ∧ OldK s₁.heap s'.heap ∧ s'.os = s₁.os ∧ AllBare s'.gens) s₁ := by
    intro H hO hS hok hA hK
    have noA : ∀ {b : Addr} {o : Obj} {es : Array DictEntry} {ep : Nat}, s₁.heap.get? b = some o → o.data = .dict es ep → H b = none := fun {b o es ep} e d => by
      cases q : H b with
      | none => rfl
      | some u =>
        obtain rfl : b = a := hA b (by rw [q]; simp)
        rw [ha] at e
        cases e
        cases (show Data.seq vs.toArray _ = Data.dict es ep from d)
    have nsK : ∀ {b : Addr} {m : Str → Option Value}, s₁.heap.Ns b m → (hidT s₁.heap H).Ns b m := fun {b m} ⟨o, es, ep, e, d, r⟩ => ⟨o, es, ep, hidT_get e (noA e d), d, r⟩
    have hKb : K.In (hidT s₁.heap H) := fun b o e => hidT_get (KX b o e) (by
      cases q : H b with
      | none => rfl
      | some u =>
        obtain rfl : b = a := hA b (by rw [q]; simp)
        rw [hK (by rw [q]; simp)] at e
        cases e)
    have hM : Mod K mg (hidT s₁.heap H) := ⟨hKb, nsK hns, ⟨mb, nsK hb, hbb⟩, let ⟨mc, h1, h2⟩ := hlim; ⟨mc, nsK h1, h2⟩⟩
    have e0 : Env0 P w K mg (hidT s₁.heap H) callerA [] s₁ H := ⟨rfl, hM, fun b o e => of_hidT e, Nat.le_of_eq (hidT_size _ _), trivial, fun b hb => absurd (show b ∈ ([] : List Addr) from hb) (by simp), hok, .of_eq hg⟩
    refine codeAny_mono ((F _ hKb (nsK hns)).run callerA [] s₁ H ⟨[.ref a], []⟩ [.ref a] [.ref a] _ hr rfl e0 (hbind s₁ (.ref a)) (.cons rfl .nil) (hsp H hO hS)) fun r s' h => ?_
    cases r with
    | error e => exact False.elim h
    | ok fl =>
      cases fl with
      | next => exact False.elim h
      | brk => exact False.elim h
      | cont => exact False.elim h
      | ret u =>
        obtain ⟨v, H', os, bare, un, hok', r', q⟩ := h
        obtain rfl : v = .bl true := q
        obtain rfl : u = Value.bool true := r'
        refine ⟨rfl, OldK.of_keep fun b o e => ?_, os, bare⟩
        cases q : H b with
        | none => exact un.keep b o e q (by intro z; exact absurd (show b ∈ ([] : List Addr) from z) (by simp)) (by simp)
        | some u =>
          rcases hO b with z | ⟨ob, xs, z⟩
          · rw [q] at z
            cases z
          · have z2 := un.frzs b ob _ z
            obtain ⟨e1, _⟩ := hok b _ z
            obtain ⟨e2, _⟩ := hok' b _ z2
            rw [e] at e1
            cases e1
            exact e2
  cases hk : K.lookup a with
  | some o =>
    have e := KX a o hk
    rw [ha] at e
    cases e
    refine core (fun _ => none) (fun _ => .inl rfl) (.inr ⟨_, vs.toArray, _, hk, rfl, rfl, rfl, by rw [List.size_toArray, lenV]; exact hl, by simpa using rv⟩) (fun b u z => ?_) (fun b z => absurd rfl z) fun z => absurd rfl z
    cases (show (none : Option HO) = some u from z)
  | none =>
    refine core (fun b => if b = a then some (.frz { cls := .type "list", data := .seq vs.toArray } (.lst (ns.map V.int))) else none) (fun b => ?_) (.inl (.inr ⟨{ cls := .type "list", data := .seq vs.toArray }, if_pos rfl⟩)) (fun b u z => ?_) (fun b z => ?_) fun _ => hk
    · by_cases hb : b = a
      · exact .inr ⟨_, _, if_pos hb⟩
      · exact .inl (if_neg hb)
    · by_cases hb : b = a
      · cases (if_pos hb).symm.trans z
        subst hb
        exact ⟨ha, by rw [List.length_map]; exact hl, vs, _, rv, ha⟩
      · cases (if_neg hb).symm.trans z
    · by_cases hb : b = a
      · exact hb
      · exact absurd (if_neg hb) z
theorem walkG {l : PySem.W.OpenLaw} {n k : Nat} {q : Program} {loose : List Str} {XP : (Str → Option Value) → Heap → Prop} {YP : World → Heap → Prop} {d : DefRec} {K : Params → PySem.W.Frag} {sp : World → Sp} {x : Str}
    (hn : l.most = some n) (hn2 : n ≤ sizeLine) (hdf : d.params.defaults = []) (hr : Room k callerA)
    (hY : ∀ (w : World) (h : Heap), YP w h → (K w.params).In h)
    (F : ∀ (w : World) (mg : Str → Option Value) (fa : Addr) (h : Heap), (K w.params).In h → h.Ns mainGlobals mg → mg d.name = some (.ref fa) →
      ∃ fd : FuncData, (∀ (s : Shared) (u : Value), BindsTo s fd ⟨[u], []⟩ [(x, u)]) ∧
        ∀ base : Heap, (K w.params).In base → base.Ns mainGlobals mg → FnG l.prog w (K w.params) mg base k fa fd [x] (sp w))
    (hsp : ∀ (w : World) (H : Hp) (a : Addr) (ns : List Int), ns.length ≤ n → Only H → SqL (K w.params) H a (ns.map V.int) → sp w [.ref a] H (fun v _ => v = .bl true) E0) :
    PySem.W.WalkO q loose XP YP l.row.toRowW d [] (fun f vs => PySem.call f vs) := by
  refine Att.attach_call hn hdf fun w s₀ s₁ mg mb fa o pm cd doc a vs ns G Y ho hd hcd hmg hobj hints hlen hg => ?_
  have KX := hY w _ Y
  obtain ⟨fd, hb, hF⟩ := F w mg fa _ KX G.T.g hmg
  exact law_callG KX G.T.g G.T.b G.T.builtins G.T.nolimit hg hobj hints (Nat.le_trans hlen hn2) hr hF hb (fun H hO hS => hsp w H a ns hlen hO hS)
end Xv

namespace PySem
namespace Xv
open PySem.W PySem.Calls PyProof.Rows
def supS : Scope := { kind := .function, names := [(PySem.Str.ofString "self", .local), (PySem.Str.ofString "__class__", .free), (PySem.Str.ofString "super", .globalImplicit)], isGenerator := false, isCoroutine := false, more := [] }
/-- what the written part says of an __init__ that hands a text on to the base's -/
structure SupT (prog : Program) (K : Frag) (C fI : Addr) (fd : FuncData) (i B newId : String) (bmB : List Value) : Prop where
  fn : ∃ (qual : Str) (params : Arguments) (kV doc pm : Value) (an : Option Addr) (cda cc : Addr) (ct oc : Value) (od : Option Addr) (osl : Array (Option Value)) (ar : Arg) (p0 p1 p2 p3 p4 p5 : Pos) (txt : Str) (kd : Nat)
      (vs : Array Value) (file : Str) (tf : Tok) (ccl cl : Value) (cdd cld : Option Addr) (ccs csl : Array (Option Value)),
    fd = ksFn "__init__" qual params [.Expr (.Call (.Attribute (.Call (.Name "super" p0) [] [] p1) "__init__" p2) [.Constant (.str txt) kd p3] [] p4) p5] supS .none kV doc pm an (.ref cda) ct cc ∧
    K.lookup fI = some ⟨oc, od, .func fd, osl⟩ ∧ codeIn K (.ref cda) qual = true ∧
    (params.posonlyargs ++ params.args).head? = some ar ∧ ar.arg = ("self" : Str) ∧
    K.lookup cda = some ⟨ccl, cdd, .fields vs, ccs⟩ ∧ vs[2]? = some (.str file tf) ∧ ((prog.main.file : Str) == file) = true ∧
    K.lookup cc = some ⟨cl, cld, .cell (some (.ref C)), csl⟩ ∧
    (∀ L : Addr, ∃ pl, eval (.Call (.Attribute (.Call (.Name "super" p0) [] [] p1) "__init__" p2) [.Constant (.str txt) kd p3] [] p4) (ksEnv qual supS L fI (.ref cda) cc) = (do
      let ov ← attributeBase (.Call (.Name "super" p0) [] [] p1) "__init__" (ksEnv qual supS L fI (.ref cda) cc) (eval (.Call (.Name "super" p0) [] [] p1) (ksEnv qual supS L fI (.ref cda) cc))
      standAt p2.atName
      let (f, first) ← holding [ov] (getMethod ov "__init__" pl)
      callWith p4 f first (backTo p4 (starEach [.Constant (.str txt) kd p3] (ksEnv qual supS L fI (.ref cda) cc))) []))
  hD : (clsIn K C).isSome = true
  sup : ks_superIn K C C "__init__" = some (some (.builtin i))
  self : mroIn K C (.ref C) = some true
  base : subIn K (.ref C) (.type B) = some true
  opq : nsIn K cStatics "thirdparty.any" = some none
  sup0 : nsIn K mainGlobals "super" = some none
  top : (prog.main.scope.names.lookup ("super" : Str)).isSome = false
  ini : excInitIn K C bmB newId = true
theorem sup_init {prog : Program} {w : World} {A : Around} {R : Result → Shared → Prop} {s : Shared} {K : Frag} {C fI x t0 : Addr} {fd : FuncData} {i B newId : String} {bmB : List Value} {mg mb : Str → Option Value} {args : Args}
    (T : SupT prog K C fI fd i B newId bmB) (KF : KxsFacts B i) (FB : ExcBaseFacts B newId i bmB) (X : K.In s.heap) (hlim : s.heap.NoLimit) (hG : s.heap.Ns mainGlobals mg) (hS : mg "super" = none) (hB : s.heap.Ns builtinsNs mb) (hBB : ∀ x : Str, x ≠ "__name__" → mb x = bootBuiltins x)
    (hx : s.heap.get? x = some (excObj C t0 none .none)) (hroom : A.depth < recursionLimit) (hbind : BindsTo s fd args [("self", .ref x)])
    (hq : ∀ h' tk t1, (∀ b o, b ≠ x → s.heap.get? b = some o → h'.get? b = some o) → h'.get? x = some (excObj C t1 none .none) → R (.ok (.ret .none)) { s with heap := h', toks := tk }) :
    codeAny (model prog w) A (.call (.ref fI) args) R s := by
  obtain ⟨qual, params, kV, doc, pm, an, cda, cc, ct, oc, od, osl, ar, p0, p1, p2, p3, p4, p5, txt, kd, vs, file, tf, ccl, cl, cdd, cld, ccs, csl, rfl, lk, hcd, hhead, har, hcda, hvs, hfile, hcc, hev⟩ := T.fn
  obtain ⟨cd, hcl⟩ := Option.isSome_iff_exists.mp T.hD
  obtain ⟨oD, hD1, hD2⟩ : ∃ oD, s.heap.get? C = some oD ∧ oD.data = .cls cd := by
    unfold clsIn at hcl
    split at hcl
    · rename_i c d cd' sl ho
      cases hcl
      exact ⟨_, X _ _ ho, rfl⟩
    · cases hcl
  refine ks_codeAny_call_defAt (fd := ksFn "__init__" qual params _ supS .none kV doc pm an (.ref cda) ct cc) (binds := [(("self" : Str), .ref x)]) hroom (X _ _ lk) rfl hlim (codeRec_of X hcd) rfl hbind (show ∀ y ∈ supS.names, y.2 ≠ .cell by decide) (fun y hy => by
    rcases List.mem_cons.mp hy with rfl | hy
    · rfl
    · cases hy) (fun h₁ hns hk₁ => ?_)
  have X₁ : K.In h₁ := X.keeps hk₁
  have hx₁ := hk₁ _ _ hx
  have I₁ : InstAt h₁ x (excObj C t0 none .none) C none := ⟨hx₁, rfl, rfl, trivial⟩
  obtain ⟨pl, hev⟩ := hev s.heap.objs.size
  refine ks_wpAt_execs_cons (ks_wpAt_Expr_any (ks_wpAt_MethodCall ?_ hev))
  refine ks_wpAt_super_base (env := ksEnv qual supS s.heap.objs.size fI (.ref cda) cc) rfl rfl (by decide +kernel) rfl (hk₁ _ _ (X _ _ lk)) rfl hhead rfl (hk₁ _ _ (X _ _ hcda)) rfl hvs hfile T.top ?_
  refine ks_loadName_global rfl rfl (loadGlobal_builtin (env := ksEnv qual supS s.heap.objs.size fI (.ref cda) cc) (hG.keeps hk₁) hS (hB.keeps hk₁) ((hBB _ (by decide +kernel)).trans PyProof.Rows.Boot.«super») ⟨rfl, ?_⟩)
  refine wpAny_loadName_free rfl rfl rfl ⟨_, hk₁ _ _ (X _ _ hcc), rfl⟩ ?_
  rw [har]
  refine wpAny_loadName_local (v := .ref x) rfl rfl hns (by rfl) ?_
  refine ks_wpAny_isType_cls (hk₁ _ _ hD1) hD2 ⟨rfl, ?_⟩
  refine ks_wpAny_call_super (hk₁ _ _ hD1) hD2 I₁.at_ I₁.cls (fun c e => nomatch e) (looks_mroIn X₁ T.self) (fun h₂ e₂ k₂ => ?_)
  have X₂ : K.In h₂ := X₁.keeps k₂
  have hx₂ := k₂ _ _ hx₁
  have I₂ : InstAt h₂ x (excObj C t0 none .none) C none := ⟨hx₂, rfl, rfl, trivial⟩
  have hI : Looks (model prog w) h₂ (isInstance (.ref x) (.type B)) true := I₂.type.andThen (looks_subIn X₂ T.base)
  have hm := T.sup
  unfold ks_superIn at hm
  rw [hcl] at hm
  refine kxs_getMethod KF e₂ (looks_opaque X₂ T.opq) (l₀ := cd.mro) (fun A Q E s k q => wpAny_bind ((looks_clsIn X₂ hcl) A _ E s k (wpAny_pure q))) rfl X₂ hm hI (ks_ne X₂ I₂ hcl) (by decide +kernel) ?_
  have hu : (h₂.push (kxs_mw i x)).get? h₂.objs.size = some (kxs_mw i x) := Heap.get?_push_at rfl rfl
  have k₃ : ∀ b o, s.heap.get? b = some o → (h₂.push (kxs_mw i x)).get? b = some o := fun b o e => Heap.get?_push_of_some _ (k₂ _ _ (hk₁ _ _ e))
  refine kxs_callWith (i := i) (x := x) rfl ?_
  refine evalArgs_plain ?_
  refine Calls.spliced_cons ?_
  show wpAny _ _ (eval (.Constant (.str txt) kd p3) (ksEnv qual supS s.heap.objs.size fI (.ref cda) cc)) _ _ _
  refine Calls.Constant_str ?_
  refine Calls.spliced_nil ⟨hu, ?_⟩
  obtain ⟨nm, N', qn, bs, bm, hdct, sn, sub, ab, col, dd, k0, k1, k2, k3, k5, hC, hT⟩ := excInit_of (X.keeps k₃) T.ini
  refine wpAny_call (codeAny_of_tree ?_)
  show wpAny _ _ (callAny (.ref h₂.objs.size) _) _ _ _
  simp only [callAny]
  refine wpAny_bind (wpAny_load hu ?_)
  simp only [kxs_mw, show (Value.type "method-wrapper" == Value.type "method" || Value.type "method-wrapper" == Value.type "builtin_function_or_method" || Value.type "method-wrapper" == Value.type "method-wrapper") = true by decide, if_true]
  refine KFB.if_so (by decide) ?_
  refine wpAny_bind (check_bound_init FB.toExcCallFacts hC (k₃ _ _ hx) rfl ?_)
  refine wpAny_bind (wpAny_pure (wpAny_pure ?_))
  refine ⟨plainId_quiet FB.init.plain _, codeAny_builtin FB.initEntry ?_⟩
  refine exc_init_tree (cls := .ref C) (t0 := t0) (dv := none) (c2 := .none) (c3 := .none) (b4 := .bool false) (k₃ _ _ hx) (by rw [sizeLine_eq]; show 1 ≤ 16777216; decide) (fun h' kk ex _ => ?_)
  refine wpAt_of_wpAny (wpAny_execs_nil ?_)
  exact hq _ _ _ (fun b o hb e => kk b o hb (k₃ _ _ e)) ex
end Xv
end PySem

namespace Xv
open PySem PySem.Spec PyProof.Rows L2
/-- a stronger reading -/
theorem PE.imp {X : Cx} {e : Expr} {t t' : TE} (h : PE X e t) (k : ∀ σ H Q, t' σ H Q → t σ H Q) : PE X e t' := ⟨fun pins s σ H Q I q => h.run pins s σ H Q I (k σ H Q q)⟩
/-! ### self.f = e -/
def tPut (K : PySem.W.Frag) (f : Str) (to te : TE) : TS := fun D σ H => te σ H fun y H1 => to σ H1 fun x H2 => ∃ (a C fI : Addr) (B newId initId : String) (bmB : List Value), x = .ref a ∧ Bas B newId initId bmB ∧ ExT K C fI newId bmB ∧ PySem.W.takerIn K C f = some none ∧
  ((H2 a = some (exo a C none) ∧ ∀ dx, H2 dx = none → dx ≠ a → D.nx σ (upd (upd H2 dx (exd dx [(f, y)])) a (exo a C (some dx)))) ∨
    ∃ (dx : Addr) (fs : List (Str × V)), H2 a = some (exo a C (some dx)) ∧ H2 dx = some (exd dx fs) ∧ fs.length ≤ 900 ∧ D.nx σ (upd H2 dx (exd dx ((f, y) :: fs))))
theorem ps_put {X : Cx} {o e : Expr} {to te : TE} {f : Str} {p' pos : Pos} (ho : PE X o to) (he : PE X e te) (hs : swapsWith e (some (.Attribute o f p')) pos.line X.env = pure false := by rfl) : PS X (.Assign [.Attribute o f p'] e pos) (tPut X.K f to te) := by
  refine ⟨fun pins s σ H D I h => ?_⟩
  refine plainObj_wpAny_Assign_Attribute (thn (he.run pins s σ H _ I h) fun v s1 ⟨y, H1, I1, r1, q1⟩ => thn (ho.run pins s1 σ H1 _ I1 q1) fun u s2 ⟨x, H2, I2, r2, a, C, fI, B, newId, initId, bmB, ex, b, T, hno, q⟩ => ?_) hs
  subst ex
  obtain rfl : u = Value.ref a := r2
  rcases q with ⟨ea, q⟩ | ⟨dx, fs, ea, ed, hl, q⟩
  · exact put_first b T I2 ea hno r1 fun dx s' n ne J => ⟨σ, _, J, q dx n ne⟩
  · exact put_more b T I2 ea ed hl hno r1 fun s' J => ⟨σ, _, J, q⟩
/-! ### exceptions as values -/
def XV (H : Hp) (C : Addr) (fo : Option (List (Str × V))) (x : V) : Prop := ∃ a, x = .ref a ∧ ((fo = none ∧ H a = some (exo a C none)) ∨ ∃ d fs, fo = some fs ∧ H a = some (exo a C (some d)) ∧ H d = some (exd d fs))
theorem XV.same {H H' : Hp} {C : Addr} {fo : Option (List (Str × V))} {x : V} (e : Same H H') (h : XV H C fo x) : XV H' C fo x := by
  obtain ⟨a, rfl, ⟨r, q⟩ | ⟨d, fs, r, q1, q2⟩⟩ := h
  · exact ⟨a, rfl, .inl ⟨r, e _ _ q⟩⟩
  · exact ⟨a, rfl, .inr ⟨d, fs, r, e _ _ q1, e _ _ q2⟩⟩
def spI1 (C : Addr) (f : Str) : Sp := fun vs H Q _ => ∃ (a : Addr) (v : V), vs = [.ref a, v] ∧ H a = some (exo a C none) ∧ ∀ dx, H dx = none → dx ≠ a → Q .non (upd (upd H dx (exd dx [(f, v)])) a (exo a C (some dx)))
def spI2 (C : Addr) (f g : Str) : Sp := fun vs H Q _ => ∃ (a : Addr) (v w : V), vs = [.ref a, v, w] ∧ H a = some (exo a C none) ∧ ∀ dx, H dx = none → dx ≠ a → ∀ H', Same H (fun b => if b = a then H a else H' b) → H' a = some (exo a C (some dx)) → H' dx = some (exd dx [(g, w), (f, v)]) → Q .non H'
def spI0 (C : Addr) : Sp := fun vs H Q _ => ∃ (a : Addr), vs = [.ref a] ∧ H a = some (exo a C none) ∧ Q .non H
section
variable {P : Program} {w : World} {K : PySem.W.Frag} {mg : Str → Option Value} {base : Heap} {fI C : Addr} {fd : FuncData} {qual f g : Str} {st : Stmt} {B newId initId : String} {bmB : List Value}
theorem ok_one (b : Bas B newId initId bmB) (T : ExT K C fI newId bmB) (hno : PySem.W.takerIn K C f = some none) (F : Fun K "__init__" qual st fI fd) (sc : FnScope ["self", f] ["self", f] (defScope st)) {p1 p2 p3 p4 : Pos}
    (hb : defBody st = [.Assign [.Attribute (.Name "self" p1) f p2] (.Name f p3) p4]) (vS : (defScope st).names.lookup ("self" : Str) = some .local) (vF : (defScope st).names.lookup f = some .local) (hd : (f == ("__debug__" : Str)) = false) (hcd : (f == ("__classdict__" : Str)) = false) :
    FnOk P w K mg base CX0 1 fI fd ["self", f] (spI1 C f) := by
  refine F.ok sc (fun vs H Q E h => ?_) (fun cdv A outer s H vs Q E hr h => ?_)
  · obtain ⟨a, v, rfl, _⟩ := h
    rfl
  · obtain ⟨a, v, rfl, ea, k⟩ := h
    rw [hb]
    refine ⟨_, pss_one (ps_put (pe_var (i := 0) rfl (.inl vS)) (pe_var (i := 1) rfl (.inl vF) hd hcd)), ?_⟩
    exact ⟨_, rfl, _, rfl, a, C, fI, B, newId, initId, bmB, rfl, b, T, hno, .inl ⟨ea, fun dx n ne => k dx n ne⟩⟩
theorem ok_two (b : Bas B newId initId bmB) (T : ExT K C fI newId bmB) (hno : PySem.W.takerIn K C f = some none) (hno2 : PySem.W.takerIn K C g = some none) (F : Fun K "__init__" qual st fI fd) (sc : FnScope ["self", f, g] ["self", f, g] (defScope st)) {p1 p2 p3 p4 q1 q2 q3 q4 : Pos}
    (hb : defBody st = [.Assign [.Attribute (.Name "self" p1) f p2] (.Name f p3) p4, .Assign [.Attribute (.Name "self" q1) g q2] (.Name g q3) q4]) (vS : (defScope st).names.lookup ("self" : Str) = some .local) (vF : (defScope st).names.lookup f = some .local) (vG : (defScope st).names.lookup g = some .local)
    (hd : (f == ("__debug__" : Str)) = false) (hcd : (f == ("__classdict__" : Str)) = false) (gd : (g == ("__debug__" : Str)) = false) (gcd : (g == ("__classdict__" : Str)) = false) :
    FnOk P w K mg base CX0 1 fI fd ["self", f, g] (spI2 C f g) := by
  refine F.ok sc (fun vs H Q E h => ?_) (fun cdv A outer s H vs Q E hr h => ?_)
  · obtain ⟨a, v, w, rfl, _⟩ := h
    rfl
  · obtain ⟨a, v, w, rfl, ea, k⟩ := h
    rw [hb]
    refine ⟨_, pss_cons (ps_put (pe_var (i := 0) rfl (.inl vS)) (pe_var (i := 1) rfl (.inl vF) hd hcd)) (pss_one (ps_put (pe_var (i := 0) rfl (.inl vS)) (pe_var (i := 2) rfl (.inl vG) gd gcd))), ?_⟩
    refine ⟨_, rfl, _, rfl, a, C, fI, B, newId, initId, bmB, rfl, b, T, hno, .inl ⟨ea, fun dx n ne => ?_⟩⟩
    refine ⟨_, rfl, _, rfl, a, C, fI, B, newId, initId, bmB, rfl, b, T, hno2, .inr ⟨dx, _, upd_same, by rw [upd_ne ne, upd_same], by show 1 ≤ 900; decide, ?_⟩⟩
    refine k dx n ne _ (fun c o q => ?_) (by rw [upd_ne ne.symm, upd_same]) upd_same
    by_cases hc : c = a
    · subst hc
      simp only [if_true]
      exact q
    · simp only [if_neg hc]
      rw [upd_ne (ne_of_none q n), upd_ne hc, upd_ne (ne_of_none q n)]
      exact q
/-- an __init__ that hands a text on -/
theorem ok_sup (T : PySem.Xv.SupT P K C fI fd initId B newId bmB) (KF : PySem.W.KxsFacts B initId) (FB : ExcBaseFacts B newId initId bmB) (hS : mg "super" = none) :
    FnOk P w K mg base CX0 1 fI fd ["self"] (spI0 C) := by
  refine ⟨fun vs H Q E h => ?_, fun A outer s H args us vs Q E hr e0 hb r h => ?_⟩
  · obtain ⟨a, rfl, _⟩ := h
    rfl
  · obtain ⟨a, rfl, ea, k⟩ := h
    cases r with
    | cons r1 r2 =>
      cases r2
      cases r1
      obtain ⟨t0, ho⟩ := exo_at e0.hok ea
      have kb : ∀ b o, base.get? b = some o → s.heap.get? b = some o := fun b o e => (e0.bs b o e).1
      obtain ⟨mb, h1, h2⟩ := e0.mod.blt
      refine PySem.Xv.sup_init (x := a) (t0 := t0) T KF FB (e0.mod.kin.keeps kb) (e0.mod.nolimit.keeps kb) (e0.mod.glob.keeps kb) hS (h1.keeps kb) h2 ho hr.depth hb fun h' tk t1 kk ex => ?_
      have eu : upd H a (exo a C none) = H := by
        funext b
        by_cases hb : b = a
        · rw [hb, upd_same, ea]
        · rw [upd_ne hb]
      have mu : Mut (H a) := by
        rw [ea]
        exact True.intro
      have U := Un.write (fs := frs outer) (ex := []) (o := exo a C none) mu (.inl rfl) kk ⟨_, ex⟩
      have W := HOk.write (o' := exo a C none) e0.hok mu (.inl rfl) kk ⟨_, ex⟩ (exo_ok ex)
      rw [eu] at U W
      exact ⟨.non, H, rfl, e0.bare, U, W, rfl, k⟩
end
/-! ### classes of exceptions, by their names -/
/-- a class with one field f -/
structure Ex1 (P : Program) (w : World) (K : PySem.W.Frag) (mg : Str → Option Value) (base : Heap) (x : Str) (C : Addr) (f : Str) : Prop where
  ex : ∃ (fI : Addr) (fd : FuncData) (B newId initId : String) (bmB : List Value), Bas B newId initId bmB ∧ ExT K C fI newId bmB ∧ FnOk P w K mg base CX0 1 fI fd ["self", f] (spI1 C f) ∧ Binds K fd ["self", f] [] ∧ KBn K fd ["self", f] 1 [f] (fun us ws => us ++ ws) (fun vs zs => vs ++ zs)
  gm : mg x = some (.ref C)
structure Ex2 (P : Program) (w : World) (K : PySem.W.Frag) (mg : Str → Option Value) (base : Heap) (x : Str) (C : Addr) (f g : Str) : Prop where
  ex : ∃ (fI : Addr) (fd : FuncData) (B newId initId : String) (bmB : List Value), Bas B newId initId bmB ∧ ExT K C fI newId bmB ∧ FnOk P w K mg base CX0 1 fI fd ["self", f, g] (spI2 C f g) ∧ Binds K fd ["self", f, g] [] ∧ KBn K fd ["self", f, g] 1 [g, f] (fun us ws => us ++ ws.reverse) (fun vs zs => vs ++ zs.reverse)
  gm : mg x = some (.ref C)
structure Ex0 (P : Program) (w : World) (K : PySem.W.Frag) (mg : Str → Option Value) (base : Heap) (x : Str) (C : Addr) : Prop where
  ex : ∃ (fI : Addr) (fd : FuncData) (B newId initId : String) (bmB : List Value), Bas B newId initId bmB ∧ ExT K C fI newId bmB ∧ FnOk P w K mg base CX0 1 fI fd ["self"] (spI0 C) ∧ Binds K fd ["self"] []
  gm : mg x = some (.ref C)
/-- X(e): a new exception -/
def tNew (C : Addr) (ta : TA) (fo : List V → Option (List (Str × V))) (n : Nat) : TE := fun σ H Q => ta σ H fun vs H1 => vs.length = n ∧ ∀ H2 x, Same H1 H2 → XV H2 C (fo vs) x → Q x H2
section
variable {X : Cx} {x f g : Str} {C : Addr} {e e2 : Expr} {ta : TA} {te te2 : TE} {p pos kp kp2 : Pos} {k : Nat}
theorem new_one {H1 : Hp} {v : V} {Q : VK} (q : ∀ H2 x, Same H1 H2 → XV H2 C (some [(f, v)]) x → Q x H2) (a : Addr) (n : H1 a = none) : spI1 C f [.ref a, v] (upd H1 a (exo a C none)) (fun u H2 => u = .non ∧ Q (.ref a) H2) E0 := by
  refine ⟨a, v, rfl, upd_same, fun dx nd ne => ⟨rfl, q _ _ (fun b o hb => ?_) ⟨a, rfl, .inr ⟨dx, _, rfl, upd_same, by rw [upd_ne ne, upd_same]⟩⟩⟩⟩
  rw [upd_ne ne] at nd
  rw [upd_ne (ne_of_none hb n), upd_ne (ne_of_none hb nd), upd_ne (ne_of_none hb n)]
  exact hb
theorem new_two {H1 : Hp} {v w : V} {Q : VK} (q : ∀ H2 x, Same H1 H2 → XV H2 C (some [(g, w), (f, v)]) x → Q x H2) (a : Addr) (n : H1 a = none) : spI2 C f g [.ref a, v, w] (upd H1 a (exo a C none)) (fun u H2 => u = .non ∧ Q (.ref a) H2) E0 := by
  refine ⟨a, v, w, rfl, upd_same, fun dx nd ne H' s ea ed => ⟨rfl, q _ _ (fun b o hb => ?_) ⟨a, rfl, .inr ⟨dx, _, rfl, ea, ed⟩⟩⟩⟩
  have z := s b o (by rw [upd_ne (ne_of_none hb n)]; exact hb)
  simp only [if_neg (ne_of_none hb n)] at z
  exact z
/-- arguments' readings may be weakened behind -/
def tMonA (t : TA) : TA := fun σ H Q => ∃ Q0 : List V → Hp → Prop, t σ H Q0 ∧ ∀ vs H1, Q0 vs H1 → Q vs H1
theorem pa_mon {es : List Expr} {t : TA} (h : PA X es t) : PA X es (tMonA t) := ⟨fun pos pins s σ H Q I ⟨Q0, q0, k⟩ => thn (h.run pos pins s σ H Q0 I q0) fun us s1 ⟨vs, H1, I1, r, q⟩ => ⟨vs, H1, I1, r, k vs H1 q⟩⟩
theorem pk_mon {kws : List Keyword} {t : TA} (h : PK X kws t) : PK X kws (tMonA t) := ⟨fun pos pins s σ H Q I ⟨Q0, q0, k⟩ => thn (h.run pos pins s σ H Q0 I q0) fun us s1 ⟨vs, H1, I1, r, q⟩ => ⟨vs, H1, I1, r, k vs H1 q⟩⟩
theorem pe_new1 (c : Ex1 X.prog X.w X.K X.mg X.base x C f) (hr : Room k X.A) (hk : 2 ≤ k) (hg : Gl X x) (ha : PA X [e] ta) (hdb : (x == ("__debug__" : Str)) = false := by decide) (he : starEach [e] X.env = (false, eval e X.env) :: starEach [] X.env := by rfl) :
    PE X (.Call (.Name x p) [e] [] pos) (tNew C ta (fun vs => some [(f, vs.headD .non)]) 1) := by
  obtain ⟨fI, fd, B, newId, initId, bmB, b, T, F, bi, _⟩ := c.ex
  refine PE.imp (pe_exv b T F (hr.mono hk) bi hg c.gm (pa_mon ha) hdb he (by rfl)) fun σ H Q h => ⟨_, h, fun vs H1 q => ?_⟩
  obtain ⟨hl, q⟩ := q
  match vs, hl with
  | [v], _ => exact ⟨by show 1 ≤ 1000; decide, fun a n => new_one q a n⟩
theorem pe_new2 (c : Ex2 X.prog X.w X.K X.mg X.base x C f g) (hr : Room k X.A) (hk : 2 ≤ k) (hg : Gl X x) (ha : PA X [e, e2] ta) (hdb : (x == ("__debug__" : Str)) = false := by decide) (he : starEach [e, e2] X.env = (false, eval e X.env) :: starEach [e2] X.env := by rfl)
    (hpl : (backTo pos (starEach [e2] X.env)).any (·.1) = false := by rfl) :
    PE X (.Call (.Name x p) [e, e2] [] pos) (tNew C ta (fun vs => some [(g, vs.getD 1 .non), (f, vs.headD .non)]) 2) := by
  obtain ⟨fI, fd, B, newId, initId, bmB, b, T, F, bi, _⟩ := c.ex
  refine PE.imp (pe_exv b T F (hr.mono hk) bi hg c.gm (pa_mon ha) hdb he hpl) fun σ H Q h => ⟨_, h, fun vs H1 q => ?_⟩
  obtain ⟨hl, q⟩ := q
  match vs, hl with
  | [v, w], _ => exact ⟨by show 2 ≤ 1000; decide, fun a n => new_two q a n⟩
theorem pe_new0 (c : Ex0 X.prog X.w X.K X.mg X.base x C) (hr : Room k X.A) (hk : 2 ≤ k) (hg : Gl X x) (hdb : (x == ("__debug__" : Str)) = false := by decide) :
    PE X (.Call (.Name x p) [] [] pos) (tNew C tNil (fun _ => none) 0) := by
  obtain ⟨fI, fd, B, newId, initId, bmB, b, T, F, bi⟩ := c.ex
  refine PE.imp (pe_exv0 b T F (hr.mono hk) bi hg c.gm hdb) fun σ H Q h => ?_
  obtain ⟨_, q⟩ := h
  exact ⟨by decide, fun a n => ⟨a, rfl, upd_same, rfl, q _ _ (fun b o hb => by rw [upd_ne (ne_of_none hb n)]; exact hb) ⟨a, rfl, .inl ⟨rfl, upd_same⟩⟩⟩⟩
theorem pe_new1K (c : Ex1 X.prog X.w X.K X.mg X.base x C f) (hr : Room k X.A) (hk : 2 ≤ k) (hg : Gl X x) (he : PE X e te) (hdb : (x == ("__debug__" : Str)) = false := by decide) :
    PE X (.Call (.Name x p) [] [⟨some f, e, kp⟩] pos) (tNew C (tCons te tNil) (fun vs => some [(f, vs.headD .non)]) 1) := by
  obtain ⟨fI, fd, B, newId, initId, bmB, b, T, F, _, bi⟩ := c.ex
  refine PE.imp (pe_exvK b T F (hr.mono hk) bi hg c.gm (pk_mon (pk_cons he pk_nil)) (by rfl) (by rfl) hdb (by rfl)) fun σ H Q h => ⟨_, h, fun vs H1 q => ?_⟩
  obtain ⟨hl, q⟩ := q
  match vs, hl with
  | [v], _ => exact ⟨rfl, fun a n => new_one q a n⟩
theorem pe_new2K (c : Ex2 X.prog X.w X.K X.mg X.base x C f g) (hr : Room k X.A) (hk : 2 ≤ k) (hg : Gl X x) (he : PE X e te) (he2 : PE X e2 te2) (hdb : (x == ("__debug__" : Str)) = false := by decide) :
    PE X (.Call (.Name x p) [] [⟨some g, e, kp⟩, ⟨some f, e2, kp2⟩] pos) (tNew C (tCons te (tCons te2 tNil)) (fun vs => some [(g, vs.headD .non), (f, vs.getD 1 .non)]) 2) := by
  obtain ⟨fI, fd, B, newId, initId, bmB, b, T, F, _, bi⟩ := c.ex
  refine PE.imp (pe_exvK b T F (hr.mono hk) bi hg c.gm (pk_mon (pk_cons he (pk_cons he2 pk_nil))) (by rfl) (by rfl) hdb (by rfl)) fun σ H Q h => ⟨_, h, fun vs H1 q => ?_⟩
  obtain ⟨hl, q⟩ := q
  match vs, hl with
  | [v, w], _ => exact ⟨rfl, fun a n => new_two q a n⟩
/-! ### fields and classes of such values -/
def tXat (K : PySem.W.Frag) (f : Str) (te : TE) : TE := fun σ H Q => te σ H fun x H1 => ∃ C fs v, XV H1 C (some fs) x ∧ ExcC K C ∧ PySem.W.findIn K (.ref C) f = some none ∧ fs.lookup f = some v ∧ Q v H1
theorem pe_mon {X : Cx} {e : Expr} {t : TE} (h : PE X e t) : PE X e (fun σ H Q => ∃ Q0 : VK, t σ H Q0 ∧ ∀ v H1, Q0 v H1 → Q v H1) := ⟨fun pins s σ H Q I ⟨Q0, q0, k⟩ => thn (h.run pins s σ H Q0 I q0) fun u s1 ⟨v, H1, I1, r, q⟩ => ⟨v, H1, I1, r, k v H1 q⟩⟩
theorem pe_xat (he : PE X e te) (hb : attributeBase e f X.env (eval e X.env) = eval e X.env := by rfl) : PE X (.Attribute e f pos) (tXat X.K f te) := by
  refine PE.imp (pe_xf (pe_mon he) hb) fun σ H Q h => ⟨_, h, fun x H1 q => ?_⟩
  obtain ⟨C, fs, v, ⟨a, rfl, ⟨r, _⟩ | ⟨d, fs', r, q1, q2⟩⟩, T, hno, hl, q⟩ := q
  · cases r
  · cases r
    exact ⟨a, C, d, fs, v, rfl, T, hno, q1, q2, hl, q⟩
def rXis (K : PySem.W.Frag) : List V → Hp → VK → Prop := fun xs H Q => ∃ (x c : V) (C : Addr) (fo : Option (List (Str × V))) (cv : Value) (b : Bool), xs = [x, c] ∧ ClsV c cv ∧ ExcC K C ∧ XV H C fo x ∧ PySem.W.kitOne K (.ref C) cv = some b ∧ Q (.bl b) H
theorem call_xis : CallR X (.builtin "isinstance") (rXis X.K) := by
  intro pins s σ H xs us Q I r h
  obtain ⟨x, c, C, fo, cv, b, rfl, k, T, ⟨a, rfl, v⟩, e, q⟩ := h
  rcases v with ⟨rfl, ea⟩ | ⟨d, fs, rfl, ea, ed⟩
  · exact call_xi pins s σ H _ us Q I r ⟨a, C, none, c, cv, b, rfl, k, T, ea, (fun d z => nomatch z), e, q⟩
  · exact call_xi pins s σ H _ us Q I r ⟨a, C, some d, c, cv, b, rfl, k, T, ea, (fun d' z => by cases z; exact ⟨fs, ed⟩), e, q⟩
end
end Xv

namespace Xv
open PySem PySem.Spec PyProof.Rows L2
/-! ### a def by its name -/
structure Cl (P : Program) (w : World) (K : PySem.W.Frag) (mg : Str → Option Value) (base : Heap) (k : Nat) (x : Str) (sp : Sp) : Prop where
  ex : ∃ (f : Addr) (fd : FuncData) (ps : List Str), FnOk P w K mg base CX0 k f fd ps sp ∧ mg x = some (.ref f) ∧ PySem.W.keepIn K (.ref f) = true ∧ Binds K fd ps []
structure ClG (P : Program) (w : World) (K : PySem.W.Frag) (mg : Str → Option Value) (base : Heap) (k : Nat) (x : Str) (sp : Sp) : Prop where
  ex : ∃ (f : Addr) (fd : FuncData) (ps : List Str), FnG P w K mg base k f fd ps sp ∧ mg x = some (.ref f) ∧ PySem.W.keepIn K (.ref f) = true ∧ Binds K fd ps []
section
variable {X : Cx} {x : Str} {p pos : Pos} {e : Expr} {es : List Expr} {t : TA} {k j : Nat} {sp : Sp}
theorem pe_cl (c : Cl X.prog X.w X.K X.mg X.base k x sp) (hr : Room j X.A) (hk : k ≤ j) (hg : Gl X x) (ha : PA X (e :: es) t)
    (hdb : (x == ("__debug__" : Str)) = false := by decide) (he : starEach (e :: es) X.env = (false, eval e X.env) :: starEach es X.env := by rfl) (hpl : (backTo pos (starEach es X.env)).any (·.1) = false := by rfl) :
    PE X (.Call (.Name x p) (e :: es) [] pos) (tCall sp [] E0 t) := by
  obtain ⟨f, fd, ps, F, hm, kp, b⟩ := c.ex
  exact pe_call F (hr.mono hk) hg hm kp b .nil pass0 ha hdb he hpl
theorem pe_clG (c : ClG X.prog X.w X.K X.mg X.base k x sp) (hr : Room j X.A) (hk : k ≤ j) (hgd : X.A.guards = some []) (hg : Gl X x) (ha : PA X (e :: es) t)
    (hdb : (x == ("__debug__" : Str)) = false := by decide) (he : starEach (e :: es) X.env = (false, eval e X.env) :: starEach es X.env := by rfl) (hpl : (backTo pos (starEach es X.env)).any (·.1) = false := by rfl) :
    PE X (.Call (.Name x p) (e :: es) [] pos) (tCall sp [] E0 t) := by
  obtain ⟨f, fd, ps, F, hm, kp, b⟩ := c.ex
  exact pe_callGd F (hr.mono hk) hgd hg hm kp b ha hdb he hpl
end
/-! ### heaps -/
theorem same_upd {H : Hp} {p : Addr} {o : HO} (n : H p = none) : Same H (upd H p o) := fun b u e => by
  rw [upd_ne (ne_of_none e n)]
  exact e
theorem Same.upd {H H' : Hp} {p : Addr} {o : HO} (s : Same H H') (n : H' p = none) : Same H (upd H' p o) := s.trans (same_upd n)
/-- all but p is as it was -/
def But (p : Addr) (H H' : Hp) : Prop := ∀ b o, b ≠ p → H b = some o → H' b = some o
theorem But.refl (p : Addr) (H : Hp) : But p H H := fun _ _ _ h => h
theorem But.trans {p : Addr} {H H1 H2 : Hp} (a : But p H H1) (b : But p H1 H2) : But p H H2 := fun c o n h => b c o n (a c o n h)
theorem Same.but {p : Addr} {H H' : Hp} (s : Same H H') : But p H H' := fun b o _ h => s b o h
theorem But.upd {p : Addr} {H H' : Hp} {o : HO} (s : But p H H') : But p H (upd H' p o) := fun b u n h => by
  rw [upd_ne n]
  exact s b u n h
theorem But.new {p q : Addr} {H H' : Hp} {o : HO} (s : But p H H') (n : H' q = none) : But p H (L2.upd H' q o) := s.trans (Same.but (same_upd n))
/-- a pot: two numbers that are drawn from -/
def Pot (H : Hp) (p : Addr) : Prop := ∃ a b : Int, H p = some (.lst [.int a, .int b]) ∧ 0 ≤ a ∧ 0 ≤ b ∧ b < 4294967296
/-! ### short data -/
def Sml (d : PyData) : Prop := d.showable = true ∧ d.depth ≤ 10 ∧ d.shown.length ≤ 40
theorem sml_all : ∀ {ds : List PyData}, (∀ d ∈ ds, Sml d) → PyData.showableAll ds = true ∧ PyData.depthAll ds ≤ 10 ∧ ((PyData.shownAll ds).map (·.length)).sum ≤ 40 * ds.length ∧ (PyData.shownAll ds).length = ds.length
  | [], _ => by simp [PyData.showableAll, PyData.depthAll, PyData.shownAll]
  | d :: ds, h => by
    obtain ⟨h1, h2, h3, h4⟩ := sml_all (ds := ds) fun x hx => h x (List.mem_cons_of_mem _ hx)
    obtain ⟨k1, k2, k3⟩ := h d List.mem_cons_self
    refine ⟨?_, ?_, ?_, ?_⟩
    · simp only [PyData.showableAll, k1, h1, Bool.and_self]
    · simp only [PyData.depthAll]
      omega
    · simp only [PyData.shownAll, List.map_cons, List.sum_cons, List.length_cons]
      omega
    · simp only [PyData.shownAll, List.length_cons, h4]
theorem sml_list {ds : List PyData} (h : ∀ d ∈ ds, Sml d) (hz : ds.length ≤ 1000) : (PyData.list ds).showable = true ∧ (PyData.list ds).depth ≤ 60 ∧ (PyData.list ds).shown.length ≤ sizeLine := by
  obtain ⟨h1, h2, h3, h4⟩ := sml_all h
  refine ⟨by simpa only [PyData.showable] using h1, ?_, ?_⟩
  · simp only [PyData.depth]
    omega
  · simp only [PyData.shown]
    have z := listText_len_le (PyData.shownAll ds)
    rw [sizeLine_eq]
    omega
theorem DrAll.rep {K : PySem.W.Frag} {H : Hp} {v : V} {d : PyData} (h : Dr K H v d) : ∀ n, DrAll K H (List.replicate n v) (List.replicate n d)
  | 0 => .nil
  | n + 1 => by
    rw [List.replicate_succ, List.replicate_succ]
    exact .cons h (DrAll.rep h n)
theorem rep_flat {α : Type} (v : α) : ∀ n, (List.replicate n [v]).flatten = List.replicate n v
  | 0 => rfl
  | n + 1 => by
    rw [List.replicate_succ, List.flatten_cons, rep_flat v n, List.replicate_succ]
    rfl
/-! ### lists of exceptions -/
/-- each with its class and its fields -/
def XVs (H : Hp) (cfs : List (Addr × Option (List (Str × V)))) (es : List V) : Prop := Paired (fun c x => XV H c.1 c.2 x) cfs es
theorem XVs.same {H H' : Hp} (s : Same H H') {cfs : List (Addr × Option (List (Str × V)))} {es : List V} (h : XVs H cfs es) : XVs H' cfs es := Paired.mapP h fun _ _ q => q.same s
theorem XVs.append {H : Hp} : ∀ {cs ds : List (Addr × Option (List (Str × V)))} {es fs : List V}, XVs H cs es → XVs H ds fs → XVs H (cs ++ ds) (es ++ fs)
  | _, _, _, _, .nil, h => h
  | _, _, _, _, .cons a b, h => .cons a (XVs.append b h)
/-- new ones, all with the value that stands in slot j -/
def tX (C : Addr) (f : Str) (j : Nat) : TE := fun σ H Q => ∃ v, σ[j]? = some (some v) ∧ ∀ H' x, Same H H' → XV H' C (some [(f, v)]) x → Q x H'
def one (v : V) (c : Addr × Str) : Addr × Option (List (Str × V)) := (c.1, some [(c.2, v)])
def tXs (cs : List (Addr × Str)) (j : Nat) : TA := fun σ H Q => ∃ v, σ[j]? = some (some v) ∧ ∀ H' es, Same H H' → XVs H' (cs.map (one v)) es → Q es H'
section
variable {X : Cx} {x f : Str} {C : Addr} {e : Expr} {es : List Expr} {p pos kp ap : Pos} {k j : Nat} {cs : List (Addr × Str)} {n : Str}
theorem PA.imp {es : List Expr} {t t' : TA} (h : PA X es t) (k : ∀ σ H Q, t' σ H Q → t σ H Q) : PA X es t' := ⟨fun pos pins s σ H Q I q => h.run pos pins s σ H Q I (k σ H Q q)⟩
theorem pe_x (c : Ex1 X.prog X.w X.K X.mg X.base x C f) (hr : Room k X.A) (hk : 2 ≤ k) (hg : Gl X x) (ha : PE X (.Name n ap) (tVar j)) (hdb : (x == ("__debug__" : Str)) = false := by decide) (he : starEach [.Name n ap] X.env = (false, eval (.Name n ap) X.env) :: starEach [] X.env := by rfl) :
    PE X (.Call (.Name x p) [.Name n ap] [] pos) (tX C f j) :=
  PE.imp (pe_new1 c hr hk hg (pa_cons ha pa_nil (by exact he)) hdb he) fun σ H Q ⟨v, hv, q⟩ => ⟨v, hv, rfl, fun H2 x s h => q H2 x s h⟩
theorem pe_xK (c : Ex1 X.prog X.w X.K X.mg X.base x C f) (hr : Room k X.A) (hk : 2 ≤ k) (hg : Gl X x) (ha : PE X (.Name n ap) (tVar j)) (hdb : (x == ("__debug__" : Str)) = false := by decide) :
    PE X (.Call (.Name x p) [] [⟨some f, .Name n ap, kp⟩] pos) (tX C f j) :=
  PE.imp (pe_new1K c hr hk hg ha hdb) fun σ H Q ⟨v, hv, q⟩ => ⟨v, hv, rfl, fun H2 x s h => q H2 x s h⟩
theorem pa_xs1 (h : PE X e (tX C f j)) (hs : starEach [e] X.env = (false, eval e X.env) :: starEach [] X.env := by rfl) : PA X [e] (tXs [(C, f)] j) :=
  PA.imp (pa_cons h pa_nil hs) fun σ H Q ⟨v, hv, q⟩ => ⟨v, hv, fun H' x s h => q H' [x] s (.cons h .nil)⟩
theorem pa_xs (h : PE X e (tX C f j)) (hr : PA X es (tXs cs j)) (hs : starEach (e :: es) X.env = (false, eval e X.env) :: starEach es X.env := by rfl) : PA X (e :: es) (tXs ((C, f) :: cs) j) :=
  PA.imp (pa_cons h hr hs) fun σ H Q ⟨v, hv, q⟩ => ⟨v, hv, fun H' x s h => ⟨v, hv, fun H2 es s2 hh => q H2 (x :: es) (s.trans s2) (.cons (h.same s2) hh)⟩⟩
/-- a new list of such -/
def tXL (cs : List (Addr × Str)) (j : Nat) : TE := fun σ H Q => ∃ v, σ[j]? = some (some v) ∧ ∀ H' l es, Same H H' → H l = none → H' l = some (.lst es) → XVs H' (cs.map (one v)) es → Q (.ref l) H'
theorem pe_xl (h : PA X es (tXs cs j)) (hz : cs.length ≤ 100) : PE X (.List es pos) (tXL cs j) :=
  PE.imp (pe_lst h) fun σ H Q ⟨v, hv, q⟩ => ⟨v, hv, fun H' es s hh => ⟨by
    have z : (cs.map (one v)).length = es.length := Paired.length hh
    rw [List.length_map] at z
    rw [← z, sizeLine_eq]
    omega, fun l hl => q _ l es (s.trans (same_upd hl)) (s.free hl) upd_same (hh.same (same_upd hl))⟩⟩
end
/-! ### the fields of a list of exceptions -/
def AtV (K : PySem.W.Frag) (H : Hp) (f : Str) (x v : V) : Prop := ∃ C fs, XV H C (some fs) x ∧ ExcC K C ∧ PySem.W.findIn K (.ref C) f = some none ∧ fs.lookup f = some v
theorem AtV.same {K : PySem.W.Frag} {H H' : Hp} {f : Str} {x v : V} (s : Same H H') (h : AtV K H f x v) : AtV K H' f x v := by
  obtain ⟨C, fs, q, r⟩ := h
  exact ⟨C, fs, q.same s, r⟩
abbrev AtVs (K : PySem.W.Frag) (H : Hp) (f : Str) : List V → List V → Prop := Paired (AtV K H f)
theorem paired_get {α β : Type} {F : α → β → Prop} : ∀ {l₁ : List α} {l₂ : List β} {i : Nat} {x : α}, Paired F l₁ l₂ → l₁[i]? = some x → ∃ y, l₂[i]? = some y ∧ F x y
  | _, _, _, _, .nil, e => by simp at e
  | _, _, 0, _, .cons r _, e => by simp at e; subst e; exact ⟨_, rfl, r⟩
  | _, _, i + 1, x, .cons _ t, e => by
    obtain ⟨u, h1, h2⟩ := paired_get (i := i) (x := x) t (by simpa using e)
    exact ⟨u, by simpa using h1, h2⟩
theorem take_step {α : Type} {l : List α} {i : Nat} {x : α} (h : l[i]? = some x) : l.take (i + 1) = l.take i ++ [x] := by
  rw [List.take_succ, h]
  rfl
theorem attrs_end {K : PySem.W.Frag} {a : Addr} {xs vs : List V} {i : Nat} {f : Str} {σ : St} {H1 : Hp} {D : Addr} {Qd : Hp → Prop} (hs : SqL K H1 a xs) (hv : AtVs K H1 f xs vs) (hD : H1 D = none) (hz : xs.length ≤ 1000) (hi : i < σ.length)
    (hd : ∀ H2, Same H1 H2 → H2 D = some (.lst vs) → Qd H2) :
    ∃ W : Nat → Nat → Hp → Prop, (∃ m, W 0 m (upd H1 D (.lst []))) ∧ ∀ k m H, W k m H →
      ((Itl K a).stop k H ∧ Qd H) ∨ ((Itl K a).go k H ∧ ∃ Nx : Hp → Prop, (∀ H', Nx H' → ∃ m', m' < m ∧ W (k + 1) m' H') ∧ ∀ x H', (Itl K a).yld k H x H' → gName i x (wipe σ [i]) H' fun σ2 H2 => wipe σ2 [i] = wipe σ [i] ∧ tYes σ2 H2 fun b H3 =>
        if b = true then tXat K f (tVar i) σ2 H3 fun y H4 => ∃ acc, H4 D = some (.lst acc) ∧ acc.length < sizeLine ∧ Nx (upd H4 D (.lst (acc ++ [y]))) else Nx H3) := by
  have hl : xs.length = vs.length := Paired.length hv
  refine lc_list (K := K) (a := a) (xs := xs) (fun n H => H = upd H1 D (.lst (vs.take n)) ∧ n ≤ vs.length) ⟨by rw [List.take_zero], Nat.zero_le _⟩ (fun n H _ p => ?_) (fun n x H hx p => ?_) (fun H p => ?_)
  · rw [p.1]
    exact (same_upd hD).seq hs
  · obtain ⟨rfl, hn⟩ := p
    obtain ⟨v, hv1, hv2⟩ := paired_get hv hx
    have hn1 : n + 1 ≤ vs.length := (List.getElem?_eq_some_iff.mp hv1).1
    refine ⟨?_, ?_⟩
    · show wipe ((wipe σ [i]).set i (some x)) [i] = wipe σ [i]
      simp only [wipe]
      exact List.ext_getElem? fun m => by
        by_cases hm : m = i
        · subst hm
          simp [List.getElem?_set, wipe]
        · simp [List.getElem?_set, wipe, Ne.symm hm]
    · unfold tYes
      dsimp only
      rw [if_pos rfl]
      obtain ⟨C, fs, q, T, hno, hlk⟩ := hv2.same (same_upd (o := .lst (vs.take n)) hD)
      have hset : ((wipe σ [i]).set i (some x))[i]? = some (some x) := by
        rw [List.getElem?_set_self]
        rw [wipe_length]
        exact hi
      refine ⟨x, hset, C, fs, v, q, T, hno, hlk, vs.take n, upd_same, ?_, ?_, hn1⟩
      · rw [List.length_take, sizeLine_eq]
        omega
      · rw [upd_upd, take_step hv1]
  · obtain ⟨rfl, _⟩ := p
    rw [hl, List.take_length]
    exact hd _ (same_upd hD) upd_same
end Xv

namespace Cr
open PySem PySem.Spec PyProof.Rows L2 Xv
abbrev St := L2.St
/-! ### frames: all but what M names is as it was -/
def Fr (M : Addr → Prop) (H H' : Hp) : Prop := ∀ b o, ¬ M b → H b = some o → H' b = some o
theorem Fr.refl (M : Addr → Prop) (H : Hp) : Fr M H H := fun _ _ _ h => h
theorem Fr.trans {M : Addr → Prop} {H H1 H2 : Hp} (a : Fr M H H1) (b : Fr M H1 H2) : Fr M H H2 := fun c o n h => b c o n (a c o n h)
theorem Fr.mono {M N : Addr → Prop} {H H' : Hp} (a : Fr M H H') (h : ∀ b, M b → N b) : Fr N H H' := fun c o n e => a c o (fun z => n (h c z)) e
theorem Fr.of {M : Addr → Prop} {H H' : Hp} (s : Same H H') : Fr M H H' := fun b o _ h => s b o h
theorem Fr.set {M : Addr → Prop} {H H' : Hp} {p : Addr} {o : HO} (a : Fr M H H') (h : M p) : Fr M H (L2.upd H' p o) := fun c u n e => by
  rw [upd_ne (fun z => n (by rw [z]; exact h))]
  exact a c u n e
theorem Fr.new {M : Addr → Prop} {H H' : Hp} {p : Addr} {o : HO} (a : Fr M H H') (h : H' p = none) : Fr M H (L2.upd H' p o) := a.trans (Fr.of (same_upd h))
theorem Fr.but {p : Addr} {H H' : Hp} (b : But p H H') : Fr (fun q => q = p) H H' := fun c o n h => b c o n h
/-! ### a part of a heap, data that stands in it -/
open Classical in
noncomputable def Vw (S : Addr → Prop) (H : Hp) : Hp := fun b => if S b then H b else none
theorem vw_same (S : Addr → Prop) (H : Hp) : Same (Vw S H) H := fun b o h => by
  unfold Vw at h
  split at h
  · exact h
  · cases h
theorem vw_fr {S M : Addr → Prop} {H H' : Hp} (f : Fr M H H') (d : ∀ b, S b → ¬ M b) : Same (Vw S H) (Vw S H') := fun b o h => by
  unfold Vw at h ⊢
  split at h
  · rename_i s
    rw [if_pos s]
    exact f b o (d b s) h
  · cases h
theorem vw_mono {S T : Addr → Prop} {H : Hp} (d : ∀ b, S b → T b) : Same (Vw S H) (Vw T H) := fun b o h => by
  unfold Vw at h ⊢
  split at h
  · rename_i s
    rw [if_pos (d b s)]
    exact h
  · cases h
theorem vw_at {S : Addr → Prop} {H : Hp} {b : Addr} (h : S b) : Vw S H b = H b := if_pos h
/-! ### data in tracked lists, tuples, dicts -/
mutual
inductive Tr (H : Hp) : V → PyData → Prop
  | non : Tr H .non .none
  | bl (b : Bool) : Tr H (.bl b) (.bool b)
  | int (i : Int) : Tr H (.int i) (.int i)
  | str (x : Str) : Tr H (.str x) (.str x)
  | lst {a : Addr} {xs : List V} {ds : List PyData} : H a = some (.lst xs) → TrAll H xs ds → Tr H (.ref a) (.list ds)
  | tup {a : Addr} {xs : List V} {ds : List PyData} : H a = some (.tup xs) → TrAll H xs ds → Tr H (.ref a) (.tuple ds)
  | dct {a : Addr} {kvs : List (Key × V)} {ps : List (PyData × PyData)} : H a = some (.dK kvs) → TrKv H kvs ps → Tr H (.ref a) (.dict ps)
inductive TrAll (H : Hp) : List V → List PyData → Prop
  | nil : TrAll H [] []
  | cons {v : V} {vs : List V} {d : PyData} {ds : List PyData} : Tr H v d → TrAll H vs ds → TrAll H (v :: vs) (d :: ds)
inductive TrKv (H : Hp) : List (Key × V) → List (PyData × PyData) → Prop
  | nil : TrKv H [] []
  | cons {k : Key} {v : V} {kvs : List (Key × V)} {d : PyData} {ps : List (PyData × PyData)} : Tr H v d → TrKv H kvs ps → TrKv H ((k, v) :: kvs) ((kD k, d) :: ps)
end
mutual
theorem Tr.same {H H' : Hp} (e : Same H H') : ∀ {v : V} {d : PyData}, Tr H v d → Tr H' v d
  | _, _, .non => .non
  | _, _, .bl b => .bl b
  | _, _, .int i => .int i
  | _, _, .str x => .str x
  | _, _, .lst h hs => .lst (e _ _ h) (TrAll.same e hs)
  | _, _, .tup h hs => .tup (e _ _ h) (TrAll.same e hs)
  | _, _, .dct h hs => .dct (e _ _ h) (TrKv.same e hs)
theorem TrAll.same {H H' : Hp} (e : Same H H') : ∀ {vs : List V} {ds : List PyData}, TrAll H vs ds → TrAll H' vs ds
  | _, _, .nil => .nil
  | _, _, .cons h hs => .cons (Tr.same e h) (TrAll.same e hs)
theorem TrKv.same {H H' : Hp} (e : Same H H') : ∀ {vs : List (Key × V)} {ds : List (PyData × PyData)}, TrKv H vs ds → TrKv H' vs ds
  | _, _, .nil => .nil
  | _, _, .cons h hs => .cons (Tr.same e h) (TrKv.same e hs)
end
mutual
theorem Tr.dr {K : PySem.W.Frag} {H : Hp} : ∀ {v : V} {d : PyData}, Tr H v d → Dr K H v d
  | _, _, .non => .non
  | _, _, .bl b => .bl b
  | _, _, .int i => .int i
  | _, _, .str x => .str x
  | _, _, .lst h hs => .lst (SqL.of h) (TrAll.dr hs)
  | _, _, .tup h hs => .tup (.inl (.inl h)) (TrAll.dr hs)
  | _, _, .dct h hs => .dct h (TrKv.dr hs)
theorem TrAll.dr {K : PySem.W.Frag} {H : Hp} : ∀ {vs : List V} {ds : List PyData}, TrAll H vs ds → DrAll K H vs ds
  | _, _, .nil => .nil
  | _, _, .cons h hs => .cons (Tr.dr h) (TrAll.dr hs)
theorem TrKv.dr {K : PySem.W.Frag} {H : Hp} : ∀ {vs : List (Key × V)} {ds : List (PyData × PyData)}, TrKv H vs ds → DrKv K H vs ds
  | _, _, .nil => .nil
  | _, _, .cons h hs => .cons (Tr.dr h) (TrKv.dr hs)
end
/-- v is the data d, and all of it stands within S -/
def Dt (K : PySem.W.Frag) (S : Addr → Prop) (H : Hp) (v : V) (d : PyData) : Prop := Tr (Vw S H) v d
section
variable {K : PySem.W.Frag} {S T M : Addr → Prop} {H H' : Hp} {v : V} {d : PyData}
theorem Dt.tr (h : Dt K S H v d) : Tr H v d := Tr.same (vw_same S H) h
theorem Dt.dr (h : Dt K S H v d) : Dr K H v d := Tr.dr (Tr.same (vw_same S H) h)
theorem Dt.fr (h : Dt K S H v d) (f : Fr M H H') (n : ∀ b, S b → ¬ M b) : Dt K S H' v d := Tr.same (vw_fr f n) h
theorem Dt.keep (h : Dt K S H v d) (s : Same H H') : Dt K S H' v d := Tr.same (vw_fr (M := fun _ => False) (Fr.of s) fun _ _ z => z) h
theorem Dt.mono (h : Dt K S H v d) (n : ∀ b, S b → T b) : Dt K T H v d := Tr.same (vw_mono n) h
end
/-- new between H and H' -/
def Nw (H H' : Hp) : Addr → Prop := fun b => H b = none ∧ H' b ≠ none
theorem Nw.ext {H H1 H2 : Hp} {M : Addr → Prop} {b : Addr} (h : Nw H H1 b) (f : Fr M H1 H2) (n : ¬ M b) : Nw H H2 b := by
  refine ⟨h.1, ?_⟩
  obtain ⟨o, e⟩ := Option.ne_none_iff_exists'.mp h.2
  rw [f b o n e]
  simp
/-! ### len, by a name that does not hang on the place -/
def rLn (K : PySem.W.Frag) : List V → Hp → VK → Prop := fun xs H Q => ∃ p ys, xs = [.ref p] ∧ (SqL K H p ys ∨ SqT K H p ys) ∧ Q (.int ys.length) H
theorem call_ln {X : Cx} : CallR X (.builtin "len") (rLn X.K) := call_len_seq
theorem at_i {xs : List V} {n : Nat} {x : V} (h : xs[n]? = some x) : atI xs (n : Int) = some x := by
  have hn := (List.getElem?_eq_some_iff.mp h).1
  unfold atI ixN
  rw [if_pos (by omega), if_pos (by omega)]
  exact h
theorem wipe_back {σ : St} {i : Nat} {v : Option V} : wipe ((wipe σ [i]).set i v) [i] = wipe σ [i] := by
  simp only [wipe]
  exact List.ext_getElem? fun m => by
    by_cases hm : m = i
    · subst hm
      simp [List.getElem?_set, wipe]
    · simp [List.getElem?_set, wipe, Ne.symm hm]
theorem pot_same {H H' : Hp} {p : Addr} (h : Pot H p) (s : Same H H') : Pot H' p := by
  obtain ⟨a, b, e, r⟩ := h
  exact ⟨a, b, s _ _ e, r⟩
theorem pot_but {H H' : Hp} {p q : Addr} (h : Pot H q) (n : q ≠ p) (s : But p H H') : Pot H' q := by
  obtain ⟨a, b, e, r⟩ := h
  exact ⟨a, b, s _ _ n e, r⟩
theorem pot_ne {H : Hp} {p q : Addr} (h : Pot H p) (n : H q = none) : p ≠ q := fun z => by
  obtain ⟨a, b, e, _⟩ := h
  rw [z, n] at e
  cases e
theorem pot_upd {H : Hp} {p q : Addr} {o : HO} (h : Pot H p) (n : p ≠ q) : Pot (upd H q o) p := by
  obtain ⟨a, b, e, r⟩ := h
  exact ⟨a, b, by rw [upd_ne n]; exact e, r⟩
/-- a list that is new since H may be written -/
theorem but_new {p q : Addr} {H H' : Hp} {o : HO} (b : But p H H') (n : H q = none) : But p H (L2.upd H' q o) := fun c u ne e => by
  rw [upd_ne (ne_of_none e n)]
  exact b c u ne e
def rInt1 : List V → Hp → VK → Prop := fun xs H Q => (∃ i, xs = [.int i] ∧ Q (.int i) H) ∨ ∃ k, xs = [.bl k] ∧ Q (.int (if k then 1 else 0)) H
theorem call_i1 {X : Cx} : CallR X (.type "int") rInt1 := call_int1
def rMin2 : List V → Hp → VK → Prop := fun xs H Q => ∃ i j, xs = [.int i, .int j] ∧ Q (.int (if j < i then j else i)) H
theorem call_m2 {X : Cx} (hc : X.calm = true) : CallR X (.builtin "min") rMin2 := call_min2 hc
/-! ### tables and names -/
abbrev Rw := List (Int × Int)
def rowD (r : Rw) : PyData := .list (r.map fun e => .tuple [.int e.1, .int e.2])
def rowsD (rs : List Rw) : PyData := .list (rs.map rowD)
def namesD (ns : List Str) : PyData := .list (ns.map .str)
def modelD (ns : List Str) (rs : List Rw) : PyData := .dict [(.str "deeds", namesD ns), (.str "rows", rowsD rs)]
/-- a name: one to eight letters -/
def Nm (x : Str) : Prop := 1 ≤ x.length ∧ x.length ≤ 8 ∧ ∀ c ∈ x.cps.toList, 97 ≤ c ∧ c < 123
/-- a right table for so many states and deeds -/
def Tb (size many : Nat) (rs : List Rw) : Prop := rs.length = size ∧ ∀ r ∈ rs, r.length = many ∧ ∀ e ∈ r, (0 ≤ e.1 ∧ e.1 < 10) ∧ (0 ≤ e.2 ∧ e.2 < (size : Int))
end Cr

namespace Cr
open PySem PySem.Spec PyProof.Rows L2 Xv TL
/-! ### letters and names -/
def sgn : Str := "abcdefghijklmnopqrstuvwxyz"
theorem sgn_list : sgn.cps.toList = List.range' 97 26 := by decide +kernel
theorem sgn_len : sgn.length = 26 := by decide +kernel
def ch (c : Nat) : Str := ⟨#[c]⟩
theorem tl_ch (c : Nat) : tl (ch c) = [c] := rfl
theorem joinL_nil : ∀ ps : List (List Nat), joinL [] ps = ps.flatten
  | [] => rfl
  | [p] => by simp [joinL]
  | p :: q :: r => by
    rw [joinL, joinL_nil (q :: r), List.nil_append]
    rfl
theorem tl_chs (cs : List Nat) : tl (Txt.join "" (cs.map ch)) = cs := by
  rw [join_eq, tl_join, show tl ("" : Str) = [] from by decide +kernel, joinL_nil, List.map_map]
  induction cs with
  | nil => rfl
  | cons c r ih =>
    rw [List.map_cons, List.flatten_cons, ih]
    rfl
theorem nm_chs {cs : List Nat} (h1 : 1 ≤ cs.length) (h2 : cs.length ≤ 8) (h : ∀ c ∈ cs, 97 ≤ c ∧ c < 123) : Nm (Txt.join "" (cs.map ch)) := by
  refine ⟨?_, ?_, ?_⟩
  · rw [len_tl, tl_chs]
    exact h1
  · rw [len_tl, tl_chs]
    exact h2
  · show ∀ c ∈ tl _, _
    rw [tl_chs]
    exact h
theorem tl_cut7 (w : Str) : tl (cutS w none (some 7)) = (tl w).take 7 := by
  show (((w.cps.toList.drop (HT.sIx w.length 0 none)).take (HT.sIx w.length w.length (some ((7 : Nat) : Int)) - HT.sIx w.length 0 none)).toArray).toList = _
  rw [HT.sIx_none, HT.sIx_nat]
  show List.take (min 7 w.length - 0) (tl w) = _
  rw [len_tl, Nat.sub_zero]
  by_cases h : 7 ≤ (tl w).length
  · rw [Nat.min_eq_left h]
  · rw [Nat.min_eq_right (by omega), List.take_of_length_le (Nat.le_refl _), List.take_of_length_le (by omega)]
def nx7 (w : Str) (c : Nat) : Str := cutS w none (some 7) ++ ch c
theorem tl_nx (w : Str) (c : Nat) : tl (nx7 w c) = (tl w).take 7 ++ [c] := by
  unfold nx7
  rw [tl_append, tl_cut7, tl_ch]
theorem nm_nx {w : Str} {c : Nat} (h : Nm w) (hc : 97 ≤ c ∧ c < 123) : Nm (nx7 w c) := by
  refine ⟨?_, ?_, ?_⟩
  · rw [len_tl, tl_nx, List.length_append]
    simp
  · rw [len_tl, tl_nx, List.length_append, List.length_take]
    simp
    omega
  · show ∀ d ∈ tl _, _
    rw [tl_nx]
    intro d hd
    rcases List.mem_append.mp hd with z | z
    · exact h.2.2 d (List.mem_of_mem_take z)
    · rw [List.mem_singleton.mp z]
      exact hc
theorem nx_inj {w : Str} {c d : Nat} (h : nx7 w c = nx7 w d) : c = d := by
  have e := congrArg tl h
  rw [tl_nx, tl_nx] at e
  have := List.append_cancel_left e
  simpa using this
theorem nodup_len {α : Type} [DecidableEq α] : ∀ {l m : List α}, l.Nodup → (∀ x ∈ l, x ∈ m) → l.length ≤ m.length
  | [], _, _, _ => Nat.zero_le _
  | x :: l, m, h, s => by
    obtain ⟨h1, h2⟩ := List.nodup_cons.mp h
    have hx := s x List.mem_cons_self
    have := nodup_len (l := l) (m := m.erase x) h2 fun y hy => (List.mem_erase_of_ne (fun e => h1 (by rw [← e]; exact hy))).mpr (s y (List.mem_cons_of_mem _ hy))
    rw [List.length_erase_of_mem hx] at this
    have hp := List.length_pos_of_mem hx
    rw [List.length_cons]
    omega
/-- the words that are looked at, in their sequence -/
def near (w : Str) : List Str := w :: (List.range' 97 26).map (nx7 w)
theorem near_nm {w : Str} (h : Nm w) : ∀ x ∈ near w, Nm x := fun x hx => by
  rcases List.mem_cons.mp hx with rfl | hx
  · exact h
  · obtain ⟨c, hc, rfl⟩ := List.mem_map.mp hx
    rw [List.mem_range'_1] at hc
    exact nm_nx h (by omega)
theorem near_free (w : Str) (found : List Str) (hl : found.length < 26) : (near w).filter (fun x => !found.contains x) ≠ [] := fun e => by
  have nd : ((List.range' 97 26).map (nx7 w)).Nodup := by
    refine List.Pairwise.map (R := fun a b : Nat => a ≠ b) _ (fun a b h e => h (nx_inj e)) ?_
    exact List.nodup_range'
  have := nodup_len nd (m := found) fun x hx => by
    have hm : x ∈ near w := List.mem_cons_of_mem _ hx
    have z : x ∉ (near w).filter (fun x => !found.contains x) := by rw [e]; simp
    rw [List.mem_filter] at z
    have z2 : ¬ (!found.contains x) = true := fun q => z ⟨hm, q⟩
    simpa using z2
  rw [List.length_map, List.length_range'] at this
  omega
end Cr

namespace Cr
open PySem PySem.Spec PyProof.Rows L2 Xv
section
variable {K : PySem.W.Frag}
theorem pr_app {α β : Type} {F : α → β → Prop} : ∀ {a c : List α} {b d : List β}, Paired F a b → Paired F c d → Paired F (a ++ c) (b ++ d)
  | _, _, _, _, .nil, h => h
  | _, _, _, _, .cons h t, k => .cons h (pr_app t k)
theorem pr_mem {α β : Type} {F : α → β → Prop} {x : α} : ∀ {a : List α} {b : List β}, Paired F a b → x ∈ a → ∃ y, F x y
  | _, _, .nil, h => by cases h
  | _, _, .cons h t, k => by
    rcases List.mem_cons.mp k with rfl | k
    · exact ⟨_, h⟩
    · exact pr_mem t k
theorem pr_map {α β : Type} {F G : α → β → Prop} : ∀ {a : List α} {b : List β}, Paired F a b → (∀ x y, x ∈ a → F x y → G x y) → Paired G a b
  | _, _, .nil, _ => .nil
  | _, _, .cons h t, k => .cons (k _ _ List.mem_cons_self h) (pr_map t fun x y hx => k x y (List.mem_cons_of_mem _ hx))
/-- the rows of a table, made by a list in a list: the states in slot i1, the deeds in slot i2 -/
theorem rows_lc {ta : TA} {size many i1 i2 j1 j2 : Nat} {σ : L2.St} {H1 : Hp} {p : Addr} {Q : VK} (hP : Pot H1 p) (h1 : σ[j1]? = some (some (.int size))) (h2 : ∀ v, ((wipe σ [i1]).set i1 v)[j2]? = some (some (.int many))) (hs : size ≤ 1000) (hm : many ≤ 1000)
    (he : ∀ i j H Q, i < size → j < many → Pot H p → (∀ H' a n, But p H H' → Pot H' p → (0 ≤ a ∧ a < 10) → (0 ≤ n ∧ n < (size : Int)) → Q [V.int a, V.int n] H') → ta ((wipe ((wipe σ [i1]).set i1 (some (.int (0 + (i : Int))))) [i2]).set i2 (some (.int (0 + (j : Int))))) H Q)
    (k : ∀ H' l rs S, But p H1 H' → Pot H' p → (∀ b, S b → Nw H1 H' b) → Dt K S H' (.ref l) (rowsD rs) → Tb size many rs → Q (.ref l) H') :
    tLc (iRng1 (tCons (tVar j1) tNil)) (gName i1) tYes (tLc (iRng1 (tCons (tVar j2) tNil)) (gName i2) tYes (tTup ta) [i2]) [i1] σ H1 Q := by
  refine ⟨_, h1, size, rfl, by omega, by omega, fun D hD => ?_⟩
  have npD : p ≠ D := pot_ne hP hD
  refine lc_range (lo := 0) (n := size) (fun i H' => ∃ (ls : List Addr) (rs : List Rw) (S : Addr → Prop), rs.length = i ∧ H' D = some (.lst (ls.map V.ref)) ∧ But p H1 H' ∧ Pot H' p ∧ (∀ b, S b → Nw H1 H' b ∧ b ≠ D) ∧ Paired (fun l r => Dt K S H' (.ref l) (rowD r)) ls rs ∧ ∀ r ∈ rs, r.length = many ∧ ∀ e ∈ r, (0 ≤ e.1 ∧ e.1 < 10) ∧ (0 ≤ e.2 ∧ e.2 < (size : Int)))
    ⟨[], [], fun _ => False, rfl, upd_same, Same.but (same_upd hD), pot_same hP (same_upd hD), fun _ z => z.elim, .nil, by simp⟩ (fun i H2 hi hp => ?_) (fun H2 hp => ?_)
  · obtain ⟨ls, rs, S, r1, r2, r3, P2, r5, r6, r7⟩ := hp
    refine ⟨wipe_back, ?_⟩
    unfold tYes
    dsimp only
    rw [if_pos rfl]
    refine ⟨_, h2 _, many, rfl, by omega, by omega, fun D2 hD2 => ?_⟩
    have npD2 : p ≠ D2 := pot_ne P2 hD2
    have nDD : D ≠ D2 := ne_of_none r2 hD2
    refine lc_range (lo := 0) (n := many) (g := gName i2) (tt := tYes) (te := tTup ta) (vs := [i2]) (fun j H' => ∃ (ts : List Addr) (r : Rw), r.length = j ∧ H' D2 = some (.lst (ts.map V.ref)) ∧ But p H2 H' ∧ Pot H' p ∧ (∀ t ∈ ts, H2 t = none ∧ t ≠ D2) ∧ Paired (fun t (e : Int × Int) => H' t = some (.tup [.int e.1, .int e.2])) ts r ∧ ∀ e ∈ r, (0 ≤ e.1 ∧ e.1 < 10) ∧ (0 ≤ e.2 ∧ e.2 < (size : Int)))
      ⟨[], [], rfl, upd_same, Same.but (same_upd hD2), pot_same P2 (same_upd hD2), by simp, .nil, by simp⟩ (fun j H3 hj hp => ?_) (fun H3 hp => ?_)
    · obtain ⟨ts, r, t1, t2, t3, P3, t5, t6, t7⟩ := hp
      refine ⟨wipe_back, ?_⟩
      unfold tYes
      dsimp only
      rw [if_pos rfl]
      refine he i j H3 _ hi hj P3 fun H4 a n b4 P4 ba bn => ⟨by show 2 ≤ sizeLine; decide, fun t nt => ?_⟩
      have ntD2 : D2 ≠ t := ne_of_none (b4 _ _ npD2.symm t2) nt
      have nt2 : H2 t = none := by
        cases e : H2 t with
        | none => rfl
        | some o =>
          have : t ≠ p := (pot_ne P4 nt).symm
          rw [(t3.trans b4) _ _ this e] at nt
          cases nt
      have keep : ∀ s o, s ≠ p → s ≠ D2 → H3 s = some o → upd (upd H4 t (.tup [.int a, .int n])) D2 (.lst (ts.map V.ref ++ [V.ref t])) s = some o := fun s o np n2 e => by
        rw [upd_ne n2, upd_ne (ne_of_none (b4 _ _ np e) nt)]
        exact b4 _ _ np e
      refine ⟨_, by rw [upd_ne ntD2]; exact b4 _ _ npD2.symm t2, ?_, ts ++ [t], r ++ [(a, n)], by rw [List.length_append, t1]; rfl, by rw [upd_same, List.map_append]; rfl, but_new ((t3.trans b4).trans (Same.but (same_upd nt))) hD2, pot_upd (pot_same P4 (same_upd nt)) npD2, ?_, ?_, ?_⟩
      · have : ts.length = r.length := Paired.length t6
        rw [List.length_map, sizeLine_eq]
        omega
      · intro s hs'
        rcases List.mem_append.mp hs' with z | z
        · exact t5 s z
        · rw [List.mem_singleton.mp z]
          exact ⟨nt2, ntD2.symm⟩
      · refine pr_app (pr_map t6 fun s e hs' q => ?_) (.cons ?_ .nil)
        · obtain ⟨z1, z2⟩ := t5 s hs'
          refine keep s _ (fun z => ?_) z2 q
          obtain ⟨x, y, e, _⟩ := P2
          rw [← z, z1] at e
          cases e
        · rw [upd_ne ntD2.symm, upd_same]
      · intro e he'
        rcases List.mem_append.mp he' with z | z
        · exact t7 e z
        · rw [List.mem_singleton.mp z]
          exact ⟨ba, bn⟩
    · obtain ⟨ts, r, t1, t2, t3, P3, t5, t6, t7⟩ := hp
      have np : ∀ b, H1 b = none → b ≠ p := fun b e z => by
        obtain ⟨x, y, q, _⟩ := hP
        rw [← z, e] at q
        cases q
      have np2 : ∀ b, H2 b = none → b ≠ p := fun b e z => by
        obtain ⟨x, y, q, _⟩ := P2
        rw [← z, e] at q
        cases q
      have nD2 : ∀ b, H2 b = none → b ≠ D := fun b e z => by
        rw [z, r2] at e
        cases e
      have n12 : ∀ b, H2 b = none → H1 b = none := fun b e => by
        cases q : H1 b with
        | none => rfl
        | some o =>
          rw [r3 _ _ (np2 b e) q] at e
          cases e
      refine ⟨_, t3 _ _ npD.symm r2, ?_, ls ++ [D2], rs ++ [r], fun b => S b ∨ b = D2 ∨ b ∈ ts, by rw [List.length_append, r1]; rfl, by rw [upd_same, List.map_append]; rfl, but_new (r3.trans t3) hD, pot_upd P3 npD, ?_, ?_, ?_⟩
      · have : ls.length = rs.length := Paired.length r6
        rw [List.length_map, sizeLine_eq]
        omega
      · intro b hb
        rcases hb with z | z | z
        · obtain ⟨⟨z1, z2⟩, z3⟩ := r5 b z
          refine ⟨⟨z1, ?_⟩, z3⟩
          obtain ⟨o, e⟩ := Option.ne_none_iff_exists'.mp z2
          rw [upd_ne z3, t3 _ _ (np b z1) e]
          simp
        · subst z
          refine ⟨⟨n12 _ hD2, ?_⟩, nDD.symm⟩
          rw [upd_ne nDD.symm, t2]
          simp
        · have z1 := (t5 b z).1
          refine ⟨⟨n12 _ z1, ?_⟩, nD2 b z1⟩
          obtain ⟨e, q⟩ := pr_mem t6 z
          rw [upd_ne (nD2 b z1), q]
          simp
      · have fr : Fr (fun b => b = p ∨ b = D) H2 (upd H3 D (.lst (ls.map V.ref ++ [V.ref D2]))) := fun b o n e => by
          rw [upd_ne (fun z => n (.inr z))]
          exact t3 _ _ (fun z => n (.inl z)) e
        refine pr_app (pr_map r6 fun l q _ d => Dt.mono (d.fr fr fun b hb => ?_) fun b hb => .inl hb) (.cons ?_ .nil)
        · obtain ⟨⟨z1, _⟩, z3⟩ := r5 b hb
          rintro (z | z)
          · exact np b z1 z
          · exact z3 z
        · have at_ : ∀ b, (b = D2 ∨ b ∈ ts) → b ≠ D → ∀ o, H3 b = some o → Vw (fun b => S b ∨ b = D2 ∨ b ∈ ts) (upd H3 D (.lst (ls.map V.ref ++ [V.ref D2]))) b = some o := fun b hb n o e => by
            rw [vw_at (.inr hb), upd_ne n]
            exact e
          refine .lst ((at_ D2 (.inl rfl) nDD.symm _ t2)) ?_
          clear r6 r7 t7
          have all : ∀ {us : List Addr} {q : Rw}, (∀ t ∈ us, t ∈ ts) → Paired (fun t (e : Int × Int) => H3 t = some (.tup [.int e.1, .int e.2])) us q → TrAll (Vw (fun b => S b ∨ b = D2 ∨ b ∈ ts) (upd H3 D (.lst (ls.map V.ref ++ [V.ref D2])))) (us.map V.ref) (q.map fun e => .tuple [.int e.1, .int e.2]) := fun {us q} hm hq => by
            induction hq with
            | nil => exact .nil
            | cons h _ ih =>
              refine .cons (.tup (((at_ _ (.inr (hm _ List.mem_cons_self)) (nD2 _ (t5 _ (hm _ List.mem_cons_self)).1) _ h))) (.cons (.int _) (.cons (.int _) .nil))) (ih fun t ht => hm t (List.mem_cons_of_mem _ ht))
          exact all (fun _ h => h) t6
      · intro q hq
        rcases List.mem_append.mp hq with z | z
        · exact r7 q z
        · rw [List.mem_singleton.mp z]
          exact ⟨t1, t7⟩
  · obtain ⟨ls, rs, S, r1, r2, r3, P2, r5, r6, r7⟩ := hp
    refine k H2 D rs (fun b => S b ∨ b = D) r3 P2 (fun b hb => ?_) ?_ ⟨r1, r7⟩
    · rcases hb with z | z
      · exact (r5 b z).1
      · subst z
        exact ⟨hD, by rw [r2]; simp⟩
    · refine .lst ((by rw [vw_at (.inr rfl)]; exact r2)) ?_
      have all : ∀ {us : List Addr} {q : List Rw}, Paired (fun l r => Dt K S H2 (.ref l) (rowD r)) us q → TrAll (Vw (fun b => S b ∨ b = D) H2) (us.map V.ref) (q.map rowD) := fun {us q} hq => by
        induction hq with
        | nil => exact .nil
        | cons h _ ih => exact .cons (Dt.mono h fun b hb => .inl hb) ih
      exact all r6
end
end Cr


namespace K14
open PySem PySem.Spec PyProof.Rows L2 Xv Cr TL
abbrev pr : Program := PySem.Challenge.pw_settlesfirst_k14_states_come_to_and_part
def top (i : Nat) : Stmt := pr.main.body.getD i (.Pass ⟨0, 0, 0, 0⟩)
/-- the names of builtins stand for them -/
structure Bl (mg : Str → Option Value) : Prop where
  len : mg "len" = none
  abs : mg "abs" = none
  max : mg "max" = none
  min : mg "min" = none
  int : mg "int" = none
  divmod : mg "divmod" = none
  repr : mg "repr" = none
  isinstance : mg "isinstance" = none
  enumerate : mg "enumerate" = none
  range : mg "range" = none
  all : mg "all" = none
  list : mg "list" = none
  tuple : mg "tuple" = none
  set : mg "set" = none
  str : mg "str" = none
  bool : mg "bool" = none
  ValueError : mg "ValueError" = none
/-! ### what each helper does -/
def spPot (K : PySem.W.Frag) : Sp := fun vs H Q _ => ∃ (a : Addr) (ns : List Int) (k : Nat), vs = [.ref a, .int k] ∧ SqL K H a (ns.map V.int) ∧ k < 64 ∧ ∀ H' p, Same H H' → H p = none → Pot H' p → Q (.ref p) H'
def spDraw : Sp := fun vs H Q _ => ∃ (p : Addr) (n : Int), vs = [.ref p, .int n] ∧ Pot H p ∧ 0 < n ∧ n < 1073741824 ∧ ∀ H' (d : Int), But p H H' → Pot H' p → 0 ≤ d → d < n → Q (.int d) H'
/-- out of a list, or a sign of a text -/
def spPick : Sp := fun vs H Q _ => ∃ (p : Addr) (y : V), vs = [.ref p, y] ∧ Pot H p ∧
  ((∃ (l : Addr) (xs : List V), y = .ref l ∧ l ≠ p ∧ H l = some (.lst xs) ∧ 0 < xs.length ∧ xs.length < 1000 ∧ ∀ H' (i : Nat) x, xs[i]? = some x → But p H H' → Pot H' p → Q x H') ∨
    ∃ z : Str, y = .str z ∧ 0 < z.length ∧ z.length < 1000 ∧ ∀ H' c, c ∈ z.cps.toList → But p H H' → Pot H' p → Q (.str (ch c)) H')
def spNames : Sp := fun vs H Q _ => ∃ (p : Addr) (n : Nat), vs = [.ref p, .int n] ∧ Pot H p ∧ n ≤ 20 ∧ ∀ H' l (ns : List Str), But p H H' → Pot H' p → H l = none → H' l = some (.lst (ns.map V.str)) → ns.length = n → ns.Nodup → (∀ x ∈ ns, Nm x) → Q (.ref l) H'
def spTable (K : PySem.W.Frag) : Sp := fun vs H Q _ => ∃ (p : Addr) (size many : Nat), vs = [.ref p, .int size, .int many] ∧ Pot H p ∧ 0 < size ∧ size ≤ 10 ∧ many ≤ 20 ∧ ∀ H' v rs S, But p H H' → Pot H' p → (∀ b, S b → Nw H H' b) → Dt K S H' v (rowsD rs) → Tb size many rs → Q v H'
def spModel (K : PySem.W.Frag) : Sp := fun vs H Q _ => ∃ (p : Addr) (ms md : Nat), vs = [.ref p, .int ms, .int md] ∧ Pot H p ∧ 0 < ms ∧ ms ≤ 9 ∧ 0 < md ∧ md ≤ 15 ∧ ∀ H' m (ns : List Str) (rs : List Rw) (size many : Nat) S, But p H H' → Pot H' p → (∀ b, S b → Nw H H' b) → Dt K S H' (.ref m) (modelD ns rs) → (1 ≤ size ∧ size ≤ ms) → (1 ≤ many ∧ many ≤ md) → ns.length = many → ns.Nodup → (∀ x ∈ ns, Nm x) → Tb size many rs → Q (.ref m) H'
abbrev s_pot : Stmt := top 41
abbrev N_pot : List Str := ["_law_script", "_law_k", "_law_cell"]
theorem sc_pot : FnScope N_pot ["_law_script", "_law_k"] (defScope s_pot) := ⟨rfl, rfl, rfl, by decide +kernel, rfl, by decide +kernel, by decide +kernel⟩
abbrev s_draw : Stmt := top 42
abbrev N_draw : List Str := ["_law_pot_here", "_law_many", "_law_digit"]
theorem sc_draw : FnScope N_draw ["_law_pot_here", "_law_many"] (defScope s_draw) := ⟨rfl, rfl, rfl, by decide +kernel, rfl, by decide +kernel, by decide +kernel⟩
abbrev s_pick : Stmt := top 43
abbrev N_pick : List Str := ["_law_pot_here", "_law_some"]
theorem sc_pick : FnScope N_pick ["_law_pot_here", "_law_some"] (defScope s_pick) := ⟨rfl, rfl, rfl, by decide +kernel, rfl, by decide +kernel, by decide +kernel⟩
abbrev s_names : Stmt := top 45
abbrev N_names : List Str := ["_law_pot_here", "_law_size", "_law_signs", "_law_found", "_law_turn", "_law_word_here", "_law_spot", "_law_near", "_law_sign", "_law_one"]
theorem sc_names : FnScope N_names ["_law_pot_here", "_law_size"] (defScope s_names) := ⟨rfl, rfl, rfl, by decide +kernel, rfl, by decide +kernel, by decide +kernel⟩
abbrev s_table : Stmt := top 46
abbrev N_table : List Str := ["_law_pot_here", "_law_size", "_law_many", "_law_way", "_law_top", "_law_last", "_law_state", "_law_place"]
theorem sc_table : FnScope N_table ["_law_pot_here", "_law_size", "_law_many"] (defScope s_table) := ⟨rfl, rfl, rfl, by decide +kernel, rfl, by decide +kernel, by decide +kernel⟩
abbrev s_model : Stmt := top 47
abbrev N_model : List Str := ["_law_pot_here", "_law_most_states", "_law_most_deeds", "_law_size", "_law_many"]
theorem sc_model : FnScope N_model ["_law_pot_here", "_law_most_states", "_law_most_deeds"] (defScope s_model) := ⟨rfl, rfl, rfl, by decide +kernel, rfl, by decide +kernel, by decide +kernel⟩
section
variable {P : Program} {w : World} {K : PySem.W.Frag} {mg : Str → Option Value} {base : Heap}
theorem ok_pot {f : Addr} {fd : FuncData} (F : Fun K "_law_pot" "_law_pot" s_pot f fd) (T : Bl mg) : FnOk P w K mg base CX0 1 f fd ["_law_script", "_law_k"] (spPot K) := by
  refine F.ok sc_pot (fun vs H Q E h => ?_) (fun cdv A outer s H vs Q E hr h => ?_)
  · obtain ⟨a, ns, k, rfl, _⟩ := h
    rfl
  · obtain ⟨a, ns, k, rfl, hS, hk, q⟩ := h
    refine ⟨_, (pss_cons (ps_set (i := 2) sc_pot.nd rfl (Or.inl rfl) (pe_op op_add (pe_op op_mul pe_int (pv 1)) pe_int))
  (pss_cons (ps_if (pt_cmpR op_lt (pv 1) (pe_callB (id := "len") (call_ln) (by rfl) T.len (by decide +kernel) (pa_cons (pv 0) pa_nil)) (nomark _)) (pss_one (ps_set (i := 2) sc_pot.nd rfl (Or.inl rfl) (pe_callB (id := "abs") call_abs (by rfl) T.abs (by decide +kernel) (pa_cons (pe_ix ix_list (pv 0) (pv 1) (fun _ _ => rfl)) pa_nil)))) pss_nil)
  (pss_one (ps_ret (pe_lst (pa_cons (pe_callB (id := "max") (call_max2 rfl) (by rfl) T.max (by decide +kernel) (pa_cons pe_int (pa_cons (pe_op op_sub (pv 2) (pe_op op_pow pe_int pe_int)) pa_nil))) (pa_cons (pe_op op_add (pe_op op_mod (pe_callTy (T := "int") call_i1 (by rfl) T.int (by decide +kernel) (pa_cons (pe_op op_add (pe_op op_add (pe_op op_mul (pe_op op_mod (pe_callTy (T := "int") call_i1 (by rfl) T.int (by decide +kernel) (pa_cons (pv 2) pa_nil)) pe_int) pe_int) (pe_op op_mul pe_int (pv 1))) pe_int) pa_nil)) pe_int) pe_int) pa_nil))))))), ?_⟩
    have step : ∀ (c : Int), 0 ≤ c % 2147483543 + 1 ∧ c % 2147483543 + 1 < 4294967296 := fun c => by omega
    have step0 : ∀ (c : Int), 0 ≤ (if c > 0 then c else 0) := fun c => by split <;> omega
    refine ⟨_, rfl, _, _, rfl, rfl, .inl ⟨by decide, by decide⟩, _, _, rfl, rfl, ?_⟩
    refine ⟨_, rfl, _, rfl, _, _, rfl, .inl hS, _, _, rfl, rfl, _, rfl, ?_⟩
    refine ite2 (fun hlt => ?_) (fun _ => ?_)
    · have hlt' : k < (ns.map V.int).length := by
        have := of_decide_eq_true hlt
        omega
      have hat : atI (ns.map V.int) (k : Int) = some (V.int (ns[k]'(by simpa using hlt'))) := by
        unfold atI ixN
        rw [if_pos (by omega), if_pos (by omega)]
        simp at hlt' ⊢
      refine ⟨_, rfl, _, rfl, _, _, _, _, rfl, rfl, hS, hat, _, rfl, ?_⟩
      refine ⟨_, rfl, _, _, rfl, rfl, ⟨by decide, by decide, by decide⟩, _, _, rfl, rfl, _, _, rfl, ?_⟩
      refine ⟨_, rfl, .inl ⟨_, rfl, _, _, rfl, rfl, (show (0 : Int) < 2147483563 by decide), _, _, rfl, rfl, .inr ⟨by decide, by decide⟩, _, rfl, _, _, rfl, rfl, .inl ⟨by decide, by decide⟩, _, _, rfl, rfl, _, _, rfl, rfl, .inl ⟨_, rfl, _, _, rfl, rfl, (show (0 : Int) < 2147483543 by decide), _, _, rfl, rfl, ?_⟩⟩⟩
      exact ⟨by show 2 ≤ sizeLine; decide, fun p hp => q _ p (same_upd hp) hp ⟨_, _, upd_same, step0 _, (step _).1, (step _).2⟩⟩
    · refine ⟨_, rfl, _, _, rfl, rfl, ⟨by decide, by decide, by decide⟩, _, _, rfl, rfl, _, _, rfl, ?_⟩
      refine ⟨_, rfl, .inl ⟨_, rfl, _, _, rfl, rfl, (show (0 : Int) < 2147483563 by decide), _, _, rfl, rfl, .inr ⟨by decide, by decide⟩, _, rfl, _, _, rfl, rfl, .inl ⟨by decide, by decide⟩, _, _, rfl, rfl, _, _, rfl, rfl, .inl ⟨_, rfl, _, _, rfl, rfl, (show (0 : Int) < 2147483543 by decide), _, _, rfl, rfl, ?_⟩⟩⟩
      exact ⟨by show 2 ≤ sizeLine; decide, fun p hp => q _ p (same_upd hp) hp ⟨_, _, upd_same, step0 _, (step _).1, (step _).2⟩⟩
theorem ok_draw {f : Addr} {fd : FuncData} (F : Fun K "_law_draw" "_law_draw" s_draw f fd) (T : Bl mg) : FnOk P w K mg base CX0 1 f fd ["_law_pot_here", "_law_many"] spDraw := by
  refine F.ok sc_draw (fun vs H Q E h => ?_) (fun cdv A outer s H vs Q E hr h => ?_)
  · obtain ⟨p, n, rfl, _⟩ := h
    rfl
  · obtain ⟨p, n, rfl, ⟨a, b, hp, ha, hb, hb2⟩, hn, hn2, q⟩ := h
    refine ⟨_, (pss_cons (ps_if (pt_cmpR op_gt (pe_ix ix_list (pv 0) pe_int (fun _ _ => rfl)) pe_int (nomark _)) (pss_cons (ps_asg (pe_callB (id := "divmod") call_divmod (by rfl) T.divmod (by decide +kernel) (pa_cons (pe_ix ix_list (pv 0) pe_int (fun _ _ => rfl)) (pa_cons (pv 1) pa_nil))) (pg_tup rfl (pgs_cons (pg_sub (pv 0) pe_int set_list) (pgs_cons (pg_name (i := 2) sc_draw.nd rfl (Or.inl rfl)) pgs_nil))))
  (pss_one (ps_ret (pv 2)))) pss_nil)
  (pss_cons (ps_asg (pe_op op_mod (pe_callTy (T := "int") call_i1 (by rfl) T.int (by decide +kernel) (pa_cons (pe_op op_add (pe_op op_mul (pe_ix ix_list (pv 0) pe_int (fun _ _ => rfl)) pe_int) pe_int) pa_nil)) pe_int) (pg_sub (pv 0) pe_int set_list))
  (pss_one (ps_ret (pe_op op_mod (pe_callTy (T := "int") call_i1 (by rfl) T.int (by decide +kernel) (pa_cons (pe_op op_fdiv (pe_op op_mod (pe_callTy (T := "int") call_i1 (by rfl) T.int (by decide +kernel) (pa_cons (pe_op op_mul (pe_ix ix_list (pv 0) pe_int (fun _ _ => rfl)) (pe_ix ix_list (pv 0) pe_int (fun _ _ => rfl))) pa_nil)) pe_int) pe_int) pa_nil)) (pv 1)))))), ?_⟩
    have dm := Int.emod_nonneg a (show n ≠ 0 by omega)
    refine ⟨_, rfl, _, _, _, _, rfl, rfl, SqL.of hp, rfl, _, _, rfl, rfl, _, rfl, ?_⟩
    refine ite2 (fun _ => ?_) (fun _ => ?_)
    · refine ⟨_, rfl, _, _, _, _, rfl, rfl, SqL.of hp, rfl, _, rfl, _, _, rfl, ⟨hn, hn2⟩, fun t ht => ?_⟩
      have npt : p ≠ t := ne_of_none hp ht
      refine ⟨_, _, rfl, .inl (.inl upd_same), rfl, _, _, rfl, _, rfl, _, _, _, _, rfl, rfl, by rw [upd_ne npt]; exact hp, rfl, _, _, rfl, rfl, _, rfl, ?_⟩
      exact q _ _ (But.upd (Same.but (same_upd ht))) ⟨_, _, upd_same, Int.ediv_nonneg ha (by omega), hb, hb2⟩ dm (Int.emod_lt_of_pos a hn)
    · have z1 : ∀ c : Int, 0 ≤ c % 2147483543 ∧ c % 2147483543 < 4294967296 := fun c => by omega
      have z2 : ∀ c : Int, -(2 ^ 64) < c % 2147483543 ∧ c % 2147483543 < 2 ^ 64 := fun c => by omega
      refine ⟨_, rfl, _, _, _, _, rfl, rfl, SqL.of hp, rfl, _, _, rfl, rfl, .inr ⟨by decide, by decide⟩, _, _, rfl, rfl, .inl ⟨_, rfl, _, _, rfl, rfl, (show (0 : Int) < 2147483543 by decide), _, rfl, _, _, _, _, rfl, rfl, hp, rfl, ?_⟩⟩
      refine ⟨_, rfl, _, _, _, _, rfl, rfl, SqL.of upd_same, rfl, _, rfl, _, _, _, _, rfl, rfl, SqL.of upd_same, rfl, _, _, rfl, rfl, .inl (z2 _), .inl ⟨_, rfl, _, _, rfl, rfl, (show (0 : Int) < 2147483563 by decide), _, _, rfl, rfl, ⟨by decide, by decide⟩, .inl ⟨_, rfl, _, rfl, _, _, rfl, rfl, hn, ?_⟩⟩⟩
      exact q _ _ (But.upd (But.refl _ _)) ⟨_, _, upd_same, ha, (z1 _).1, (z1 _).2⟩ (Int.emod_nonneg _ (by omega)) (Int.emod_lt_of_pos _ hn)
theorem ok_pick {f : Addr} {fd : FuncData} (F : Fun K "_law_pick" "_law_pick" s_pick f fd) (T : Bl mg) (c_draw : Cl P w K mg base 1 "_law_draw" spDraw) : FnOk P w K mg base CX0 2 f fd ["_law_pot_here", "_law_some"] spPick := by
  refine F.ok sc_pick (fun vs H Q E h => ?_) (fun cdv A outer s H vs Q E hr h => ?_)
  · obtain ⟨p, y, rfl, _⟩ := h
    rfl
  · obtain ⟨p, y, rfl, hP, z⟩ := h
    refine ⟨_, (pss_one (ps_ret (pe_ix ix_seq (pv 1) (pe_cl c_draw hr (by decide) (by rfl) (pa_cons (pv 0) (pa_cons (pe_callB (id := "len") (call_len) (by rfl) T.len (by decide +kernel) (pa_cons (pv 1) pa_nil)) pa_nil))) (fun _ _ => rfl)))), ?_⟩
    rcases z with ⟨l, xs, rfl, hne, hl, h0, h1, q⟩ | ⟨z, rfl, h0, h1, q⟩
    · refine ⟨_, rfl, _, rfl, _, rfl, _, _, rfl, .inl ⟨xs, SqL.of hl, rfl⟩, _, _, rfl, hP, by omega, by omega, fun H' d hb hP' d0 dn => ?_⟩
      have hd : d.toNat < xs.length := by omega
      refine .inl ⟨_, _, _, _, rfl, rfl, SqL.of (hb _ _ hne hl), ?_, q H' d.toNat _ (List.getElem?_eq_getElem hd) hb hP'⟩
      unfold atI ixN
      rw [if_pos d0, if_pos dn]
      exact List.getElem?_eq_getElem hd
    · refine ⟨_, rfl, _, rfl, _, rfl, _, _, rfl, ⟨by rw [sizeLine_eq]; omega, rfl⟩, _, _, rfl, hP, by omega, by omega, fun H' d hb hP' d0 dn => ?_⟩
      have hd : d.toNat < z.cps.toList.length := by
        rw [← len_tl]
        omega
      refine .inr (.inr ⟨_, _, _, rfl, rfl, by rw [sizeLine_eq]; omega, ?_, q H' _ (List.getElem_mem hd) hb hP'⟩)
      unfold atI ixN
      rw [if_pos d0, if_pos (by rw [← len_tl]; exact dn)]
      exact List.getElem?_eq_getElem hd
theorem ok_names {f : Addr} {fd : FuncData} (F : Fun K "_law_names" "_law_names" s_names f fd) (T : Bl mg) (c_pick : Cl P w K mg base 2 "_law_pick" spPick) : FnOk P w K mg base CX0 3 f fd ["_law_pot_here", "_law_size"] spNames := by
  refine F.ok sc_names (fun vs H Q E h => ?_) (fun cdv A outer s H vs Q E hr h => ?_)
  · obtain ⟨p, n, rfl, _⟩ := h
    rfl
  · obtain ⟨p, n, rfl, hP, hn, q⟩ := h
    refine ⟨_, (pss_cons (ps_asg (pe_tup (pa_cons pe_str (pa_cons (pe_lst pa_nil) pa_nil))) (pg_tup rfl (pgs_cons (pg_name (i := 2) sc_names.nd rfl (Or.inr rfl)) (pgs_cons (pg_name (i := 3) sc_names.nd rfl (Or.inr rfl)) pgs_nil))))
  (pss_cons (ps_for PassesOwn.never rfl (pi_range1 rfl T.range (pa_cons (pv 1) pa_nil)) (pg_name (i := 4) sc_names.nd rfl (Or.inl rfl))
  (pss_cons (ps_set (i := 5) sc_names.nd rfl (Or.inr rfl) (pe_join pe_str (pe_lc (own := [("_law_spot", 6)]) (g := gName 6) (tt := tYes) rfl sc_names.nd (pi_range1 rfl T.range (pa_cons (pe_op op_add pe_int (pe_cl c_pick hr (by decide) (by rfl) (pa_cons (pv 0) (pa_cons (pe_lst (pa_cons pe_int (pa_cons pe_int (pa_cons pe_int (pa_cons pe_int (pa_cons pe_int (pa_cons pe_int pa_nil))))))) pa_nil)))) pa_nil)) (blkOk_by (N := N_names) (sc := defScope s_names) (by decide +kernel)) (fun _ _ _ _ _ => (pg_name (i := 6) sc_names.nd rfl (Or.inl rfl))) (fun _ _ _ _ _ => pts_nil) (fun _ _ _ _ _ => (pe_cl c_pick hr (by decide) (by rfl) (pa_cons (pv 0) (pa_cons (pv 2) pa_nil)))))))
  (pss_cons (ps_set (i := 7) sc_names.nd rfl (Or.inl rfl) (pe_op op_cat (pe_lst (pa_cons (pv 5) pa_nil)) (pe_lc (own := [("_law_sign", 8)]) (g := gName 8) (tt := tYes) rfl sc_names.nd (pi_str (pv 2)) (blkOk_by (N := N_names) (sc := defScope s_names) (by decide +kernel)) (fun _ _ _ _ _ => (pg_name (i := 8) sc_names.nd rfl (Or.inl rfl))) (fun _ _ _ _ _ => pts_nil) (fun _ _ _ _ _ => (pe_op op_add_str (pe_slice sl_str (pv 5) po_none (po_some pe_int)) (pv 8))))))
  (pss_one (ps_expr (pe_bm PySem.F.plainAttrs_list PySem.F.slot_list_append PySem.F.type_list_append mt_append (pv 3) (pa_cons (pe_ix ix_list (pe_lc (own := [("_law_one", 9)]) (g := gName 9) (tt := tTest (tOp (rIn K true) (tVar 9) (tVar 3))) rfl sc_names.nd (pi_list (pv 7)) (blkOk_by (N := N_names) (sc := defScope s_names) (by decide +kernel)) (fun _ _ _ _ _ => (pg_name (i := 9) sc_names.nd rfl (Or.inl rfl))) (fun _ _ _ _ _ => (pts_one (pt_cmpR op_notIn_seq (pv 9) (pv 3) (by rfl)))) (fun _ _ _ _ _ => (pv 9))) pe_int (fun _ _ => rfl)) pa_nil)))))))
  (pss_one (ps_ret (pv 3))))), ?_⟩
    refine ⟨by show 0 ≤ sizeLine; decide, fun l nl => ⟨by show 2 ≤ sizeLine; decide, fun t nt => ?_⟩⟩
    have nlt : l ≠ t := fun z => by
      rw [← z, upd_same] at nt
      cases nt
    refine ⟨t, _, rfl, .inl (.inl upd_same), rfl, _, _, rfl, _, _, rfl, ⟨rfl, ?_⟩⟩
    have npl : p ≠ l := pot_ne hP nl
    refine ⟨_, rfl, n, rfl, by omega, by omega, for_range (lo := 0) (n := n) (fun i σ H' => ∃ ns u4 u5 u6 u7 u8 u9, σ = [some (.ref p), some (.int n), some (.str sgn), some (.ref l), u4, u5, u6, u7, u8, u9] ∧ But p H H' ∧ Pot H' p ∧ H' l = some (.lst (ns.map V.str)) ∧ ns.length = i ∧ ns.Nodup ∧ ∀ x ∈ ns, Nm x)
      ⟨[], _, _, _, _, _, _, rfl, Same.but ((same_upd nl).trans (same_upd nt)), pot_same hP ((same_upd nl).trans (same_upd nt)), by rw [upd_ne nlt]; exact upd_same, rfl, .nil, by simp⟩ ?_ ?_⟩
    · rintro i σ H1 hi ⟨ns, u4, u5, u6, u7, u8, u9, rfl, bB, P1, hl, hlen, nd, nm⟩
      -- the word
      refine ⟨⟨_, rfl⟩, ?_⟩
      refine ⟨_, rfl, by show 6 ≤ sizeLine; decide, fun a na => ?_⟩
      have npa : p ≠ a := pot_ne P1 na
      refine ⟨p, .ref a, rfl, pot_same P1 (same_upd na), .inl ⟨a, _, rfl, npa.symm, upd_same, by decide, by decide, fun H2 i x hx b2 P2 => ?_⟩⟩
      obtain ⟨k, rfl, k0, k7⟩ : ∃ k : Int, x = .int k ∧ 0 ≤ k ∧ k ≤ 7 := by
        match i, hx with
        | 0, hx => exact ⟨0, (Option.some.inj hx).symm, by decide, by decide⟩
        | 1, hx => exact ⟨0, (Option.some.inj hx).symm, by decide, by decide⟩
        | 2, hx => exact ⟨0, (Option.some.inj hx).symm, by decide, by decide⟩
        | 3, hx => exact ⟨1, (Option.some.inj hx).symm, by decide, by decide⟩
        | 4, hx => exact ⟨2, (Option.some.inj hx).symm, by decide, by decide⟩
        | 5, hx => exact ⟨7, (Option.some.inj hx).symm, by decide, by decide⟩
        | i + 6, hx => simp at hx
      replace b2 : But p H1 H2 := (Same.but (same_upd na)).trans b2
      clear hx
      refine ⟨_, _, rfl, rfl, _, rfl, by omega, by omega, fun D hD => ?_⟩
      have npD : p ≠ D := pot_ne P2 hD
      refine lc_range (lo := 0) (n := (1 + k).toNat) (fun j H' => ∃ cs : List Nat, cs.length = j ∧ (∀ c ∈ cs, 97 ≤ c ∧ c < 123) ∧ But p H2 H' ∧ Pot H' p ∧ H' D = some (.lst (cs.map fun c => V.str (ch c)))) ⟨[], rfl, by simp, Same.but (same_upd hD), pot_same P2 (same_upd hD), upd_same⟩ (fun j H3 hj hp => ?_) (fun H3 hp => ?_)
      · obtain ⟨cs, h1, h2, h3, h4, h5⟩ := hp
        refine ⟨wipe_back, ?_⟩
        unfold tYes
        dsimp only
        rw [if_pos rfl]
        refine ⟨_, rfl, _, rfl, p, _, rfl, h4, .inr ⟨sgn, rfl, by rw [sgn_len]; decide, by rw [sgn_len]; decide, fun H4 c hc b4 P4 => ?_⟩⟩
        refine ⟨_, b4 _ _ npD.symm h5, by rw [List.length_map, sizeLine_eq]; omega, cs ++ [c], by rw [List.length_append, h1]; rfl, fun d hd => ?_, but_new (h3.trans b4) hD, pot_upd P4 npD, by rw [upd_same, List.map_append]; rfl⟩
        rcases List.mem_append.mp hd with z | z
        · exact h2 d z
        · rw [List.mem_singleton.mp z]
          rw [sgn_list, List.mem_range'_1] at hc
          omega
      obtain ⟨cs, h1, h2, h3, P3, h5⟩ := hp
      have hw : Nm (Txt.join "" (cs.map ch)) := nm_chs (by omega) (by omega) h2
      have hs : ((cs.map ch).map (·.length)).sum ≤ 8 := by
        have e : (cs.map ch).map (·.length) = List.replicate cs.length 1 := by
          rw [List.map_map]
          exact List.eq_replicate_iff.mpr ⟨by simp, fun b hb => by
            obtain ⟨c, _, rfl⟩ := List.mem_map.mp hb
            rfl⟩
        rw [e, List.sum_replicate_nat]
        omega
      refine ⟨_, D, cs.map ch, rfl, rfl, .inl (SqL.of (by rw [h5, List.map_map]; rfl)), by rw [show ("" : Str).length = 0 from by decide +kernel]; omega, ?_⟩
      generalize Txt.join "" (cs.map ch) = w at hw ⊢
      -- the words beside it
      replace b2 := b2.trans h3
      refine ⟨_, rfl, by show 1 ≤ sizeLine; decide, fun a1 n1 => ?_⟩
      refine ⟨_, rfl, sgn, rfl, fun D2 hD2 => ?_⟩
      refine lc_it (n := 26) (G := fun _ => True) (Y := fun i H x H' => H' = H ∧ ∃ c, sgn.cps[i]? = some c ∧ x = .str (ch c)) ⟨fun i _ hi _ => by show i < sgn.cps.size; rw [show sgn.cps.size = 26 from by decide +kernel]; exact hi, fun _ _ => by show sgn.cps.size ≤ 26; decide +kernel, fun _ _ _ _ _ _ y => y⟩
        (fun j H' => H' = upd (upd H3 a1 (.lst [.str w])) D2 (.lst (((List.range' 97 j).map (nx7 w)).map V.str))) rfl (fun _ _ _ _ => trivial) (fun j x H' H'' hj e y => ?_) (fun H' e => ?_)
      · obtain ⟨rfl, c, hc, rfl⟩ := y
        subst e
        have ec : c = 97 + j := by
          have h1 : sgn.cps.toList[j]? = some c := by simpa using hc
          rw [sgn_list, List.getElem?_range' hj] at h1
          have := Option.some.inj h1
          omega
        subst ec
        refine ⟨wipe_back, ?_⟩
        unfold tYes
        dsimp only
        rw [if_pos rfl]
        refine ⟨_, rfl, 7, rfl, w, rfl, by rw [sizeLine_eq]; have := hw.2.1; omega, _, rfl, _, _, rfl, rfl, ?_, _, upd_same, by rw [List.length_map, List.length_map, List.length_range', sizeLine_eq]; omega, ?_⟩
        · have z1 : (nx7 w (97 + j)).length ≤ 8 := (nm_nx hw (by omega)).2.1
          have z2 : (nx7 w (97 + j)).length = (cutS w none (some 7)).length + (ch (97 + j)).length := by
            rw [len_tl, len_tl, len_tl]
            unfold nx7
            rw [tl_append, List.length_append]
          rw [sizeLine_eq]
          show (cutS w none (some 7)).length + (ch (97 + j)).length ≤ _
          omega
        · rw [upd_upd, List.range'_concat, List.map_append, List.map_append]
          simp only [Nat.one_mul]
          rfl
      subst e
      have n12 : a1 ≠ D2 := fun z => by
        rw [← z, upd_same] at hD2
        cases hD2
      refine ⟨a1, D2, _, _, rfl, rfl, by rw [upd_ne n12]; exact upd_same, upd_same, by rw [List.length_map, List.length_map, List.length_range', sizeLine_eq]; show 1 + 26 ≤ _; decide, fun nr nn => ?_⟩
      have e27 : [V.str w] ++ (((List.range' 97 26).map (nx7 w)).map V.str) = (near w).map V.str := rfl
      rw [e27]
      have s6 := ((same_upd (o := .lst [V.str w]) n1).trans (same_upd (o := .lst (((List.range' 97 26).map (nx7 w)).map V.str)) hD2)).trans (same_upd (o := .lst ((near w).map V.str)) nn)
      have hnr : upd (upd (upd H3 a1 (.lst [.str w])) D2 (.lst (((List.range' 97 26).map (nx7 w)).map V.str))) nr (.lst ((near w).map V.str)) nr = some (.lst ((near w).map V.str)) := upd_same
      generalize upd (upd (upd H3 a1 (.lst [.str w])) D2 (.lst (((List.range' 97 26).map (nx7 w)).map V.str))) nr (.lst ((near w).map V.str)) = H6 at s6 hnr ⊢
      have B6 : But p H1 H6 := b2.trans (Same.but s6)
      have P6 := pot_same P3 s6
      have hl6 := B6 _ _ npl.symm hl
      -- the first one that is free
      refine ⟨_, rfl, .inl ⟨rfl, _, SqL.of hl6⟩, ?_⟩
      refine ⟨_, rfl, nr, rfl, ⟨_, SqL.of hnr⟩, fun D3 hD3 => ?_⟩
      have n3l : l ≠ D3 := ne_of_none hl6 hD3
      have n3r : nr ≠ D3 := ne_of_none hnr hD3
      refine lc_list (K := K) (a := nr) (xs := (near w).map V.str) (fun j H' => H' = upd H6 D3 (.lst ((((near w).take j).filter (fun x => !ns.contains x)).map V.str))) rfl (fun j H' _ e => by rw [e]; exact SqL.of (by rw [upd_ne n3r]; exact hnr)) (fun j x H' hx e => ?_) (fun H' e => ?_)
      · subst e
        rw [List.getElem?_map] at hx
        obtain ⟨y, hy, rfl⟩ : ∃ y, (near w)[j]? = some y ∧ x = V.str y := by
          cases e : (near w)[j]? with
          | none =>
            rw [e] at hx
            cases hx
          | some y =>
            rw [e] at hx
            exact ⟨y, rfl, (Option.some.inj hx).symm⟩
        refine ⟨wipe_back, ?_⟩
        refine ⟨_, rfl, _, rfl, l, _, rfl, .inl (SqL.of (by rw [upd_ne n3l]; exact hl6)), rfl, by simp [List.all_map, flatV], _, rfl, ?_⟩
        have ein : inV (V.str y) (ns.map V.str) = ns.contains y := by
          unfold inV
          rw [List.any_map]
          rw [Bool.eq_iff_iff, List.any_eq_true, List.contains_iff_mem]
          exact ⟨fun ⟨z, hz, e⟩ => by
            have : (z == y) = true := e
            rw [← eq_of_beq this]
            exact hz, fun h => ⟨y, h, by show (y == y) = true; simp⟩⟩
        have hj : j < (near w).length := (List.getElem?_eq_some_iff.mp hy).1
        have h27 : (near w).length = 27 := by
          unfold near
          rw [List.length_cons, List.length_map, List.length_range']
        rw [take_step hy, List.filter_append]
        show (if (!inV (V.str y) (ns.map V.str)) = true then _ else _)
        rw [ein]
        refine ite2 (fun z => ?_) (fun z => ?_)
        · refine ⟨_, rfl, _, upd_same, ?_, ?_⟩
          · rw [List.length_map, sizeLine_eq]
            have z1 := List.length_filter_le (fun x => !ns.contains x) ((near w).take j)
            rw [List.length_take] at z1
            omega
          · have ef : List.filter (fun x => !ns.contains x) [y] = [y] := by simp only [List.filter, z]
            rw [upd_upd, ef, List.map_append]
            rfl
        · have ef : List.filter (fun x => !ns.contains x) [y] = [] := by
            have z2 : (!ns.contains y) = false := by simpa using z
            simp only [List.filter, z2]
          rw [ef, List.append_nil]
      subst e
      rw [List.length_map, List.take_length]
      have hne := near_free w ns (by omega)
      obtain ⟨y0, r0, er⟩ := List.exists_cons_of_ne_nil hne
      have hy0 : y0 ∈ (near w).filter (fun x => !ns.contains x) := by rw [er]; exact List.mem_cons_self
      obtain ⟨hy1, hy2⟩ := List.mem_filter.mp hy0
      have hy3 : y0 ∉ ns := by simpa using hy2
      refine ⟨_, _, _, _, rfl, rfl, SqL.of upd_same, by rw [er]; exact at_i (n := 0) (x := V.str y0) rfl, ?_⟩
      refine ⟨l, _, _, rfl, rfl, by rw [upd_ne n3l]; exact hl6, by rw [List.length_map, sizeLine_eq]; omega, ?_⟩
      have nDn : H D3 = none → True := fun _ => trivial
      refine ⟨ns ++ [y0], _, _, _, _, _, _, rfl, ?_, pot_upd (pot_same P6 (same_upd hD3)) npl, by rw [upd_same, List.map_append]; rfl, by rw [List.length_append, hlen]; rfl, ?_, ?_⟩
      · exact but_new ((bB.trans B6).trans (Same.but (same_upd hD3))) nl
      · rw [List.nodup_append]
        refine ⟨nd, by simp, fun x hx z hz => ?_⟩
        rw [List.mem_singleton.mp hz]
        exact fun e => hy3 (e ▸ hx)
      · intro x hx
        rcases List.mem_append.mp hx with z | z
        · exact nm x z
        · rw [List.mem_singleton.mp z]
          exact near_nm hw y0 hy1
    · rintro σ H1 ⟨ns, u4, u5, u6, u7, u8, u9, rfl, bB, P1, hl, hlen, nd, nm⟩
      exact ⟨_, rfl, q H1 l ns bB P1 nl hl hlen nd nm⟩
theorem ok_table {f : Addr} {fd : FuncData} (F : Fun K "_law_table" "_law_table" s_table f fd) (T : Bl mg) (c_draw : Cl P w K mg base 1 "_law_draw" spDraw) (c_pick : Cl P w K mg base 2 "_law_pick" spPick) : FnOk P w K mg base CX0 3 f fd ["_law_pot_here", "_law_size", "_law_many"] (spTable K) := by
  refine F.ok sc_table (fun vs H Q E h => ?_) (fun cdv A outer s H vs Q E hr h => ?_)
  · obtain ⟨p, n, m, rfl, _⟩ := h
    rfl
  · obtain ⟨p, size, many, rfl, hP, hs0, hs, hm, q⟩ := h
    refine ⟨_, (pss_cons (ps_asg (pe_tup (pa_cons (pe_cl c_draw hr (by decide) (by rfl) (pa_cons (pv 0) (pa_cons pe_int pa_nil))) (pa_cons (pe_cl c_pick hr (by decide) (by rfl) (pa_cons (pv 0) (pa_cons (pe_lst (pa_cons pe_int (pa_cons pe_int (pa_cons pe_int (pa_cons pe_int pa_nil))))) pa_nil))) (pa_cons (pe_op op_sub (pv 1) pe_int) pa_nil)))) (pg_tup rfl (pgs_cons (pg_name (i := 3) sc_table.nd rfl (Or.inl rfl)) (pgs_cons (pg_name (i := 4) sc_table.nd rfl (Or.inr rfl)) (pgs_cons (pg_name (i := 5) sc_table.nd rfl (Or.inr rfl)) pgs_nil)))))
  (pss_cons (ps_if (pt_cmpR op_eq (pv 3) pe_int (nomark _)) (pss_one (ps_ret (pe_lc (own := [("_law_state", 6)]) (g := gName 6) (te := tLc (iRng1 (tCons (tVar 2) (tNil))) (gName 7) tYes (tTup (tCons (tVar 6) (tCons (tOp (rI (fun _ j => 0 < j) fun i j => V.int (i % j)) (tCB rInt1 (tCons (tOp (rI0 fun i j => V.int (i + j)) (tOp (rI0 fun i j => V.int (i + j)) (tVar 6) (tVar 7)) (tC (.int 1))) (tNil))) (tVar 1)) (tNil)))) [7]) (tt := tYes) rfl sc_table.nd (pi_range1 rfl T.range (pa_cons (pv 1) pa_nil)) (blkOk_by (N := N_table) (sc := defScope s_table) (by decide +kernel)) (fun _ _ _ _ _ => (pg_name (i := 6) sc_table.nd rfl (Or.inr rfl))) (fun _ _ _ _ _ => pts_nil) (fun _ _ _ _ _ => (pe_lc (own := [("_law_place", 7)]) (g := gName 7) (te := tTup (tCons (tVar 6) (tCons (tOp (rI (fun _ j => 0 < j) fun i j => V.int (i % j)) (tCB rInt1 (tCons (tOp (rI0 fun i j => V.int (i + j)) (tOp (rI0 fun i j => V.int (i + j)) (tVar 6) (tVar 7)) (tC (.int 1))) (tNil))) (tVar 1)) (tNil)))) (tt := tYes) rfl sc_table.nd (pi_range1 rfl T.range (pa_cons (pv 2) pa_nil)) (blkOk_by (by kernel_rfl)) (fun _ _ _ _ _ => (pg_name (i := 7) sc_table.nd rfl (Or.inl rfl))) (fun _ _ _ _ _ => pts_nil) (fun _ _ _ _ _ => (pe_tup (pa_cons (pv 6) (pa_cons (pe_op op_mod (pe_callTy (T := "int") call_i1 (by rfl) T.int (by decide +kernel) (pa_cons (pe_op op_add (pe_op op_add (pv 6) (pv 7)) pe_int) pa_nil)) (pv 1)) pa_nil))))))))) pss_nil)
  (pss_cons (ps_if (pt_cmpR op_eq (pv 3) pe_int (nomark _)) (pss_one (ps_ret (pe_lc (own := [("_law_state", 6)]) (g := gName 6) (te := tLc (iRng1 (tCons (tVar 2) (tNil))) (gName 7) tYes (tTup (tCons (tC (.int 0)) (tCons (tCB rMin2 (tCons (tOp (rI0 fun i j => V.int (i + j)) (tVar 7) (tC (.int 1))) (tCons (tVar 5) (tNil)))) (tNil)))) [7]) (tt := tYes) rfl sc_table.nd (pi_range1 rfl T.range (pa_cons (pv 1) pa_nil)) (blkOk_by (N := N_table) (sc := defScope s_table) (by decide +kernel)) (fun _ _ _ _ _ => (pg_name (i := 6) sc_table.nd rfl (Or.inl rfl))) (fun _ _ _ _ _ => pts_nil) (fun _ _ _ _ _ => (pe_lc (own := [("_law_place", 7)]) (g := gName 7) (te := tTup (tCons (tC (.int 0)) (tCons (tCB rMin2 (tCons (tOp (rI0 fun i j => V.int (i + j)) (tVar 7) (tC (.int 1))) (tCons (tVar 5) (tNil)))) (tNil)))) (tt := tYes) rfl sc_table.nd (pi_range1 rfl T.range (pa_cons (pv 2) pa_nil)) (blkOk_by (by kernel_rfl)) (fun _ _ _ _ _ => (pg_name (i := 7) sc_table.nd rfl (Or.inl rfl))) (fun _ _ _ _ _ => pts_nil) (fun _ _ _ _ _ => (pe_tup (pa_cons pe_int (pa_cons (pe_callB (id := "min") (call_m2 rfl) (by rfl) T.min (by decide +kernel) (pa_cons (pe_op op_add (pv 7) pe_int) (pa_cons (pv 5) pa_nil))) pa_nil))))))))) pss_nil)
  (pss_one (ps_ret (pe_lc (own := [("_law_state", 6)]) (g := gName 6) (te := tLc (iRng1 (tCons (tVar 2) (tNil))) (gName 7) tYes (tTup (tCons (tCall spDraw [] E0 (tCons (tVar 0) (tCons (tVar 4) (tNil)))) (tCons (tCall spDraw [] E0 (tCons (tVar 0) (tCons (tVar 1) (tNil)))) (tNil)))) [7]) (tt := tYes) rfl sc_table.nd (pi_range1 rfl T.range (pa_cons (pv 1) pa_nil)) (blkOk_by (N := N_table) (sc := defScope s_table) (by decide +kernel)) (fun _ _ _ _ _ => (pg_name (i := 6) sc_table.nd rfl (Or.inl rfl))) (fun _ _ _ _ _ => pts_nil) (fun _ _ _ _ _ => (pe_lc (own := [("_law_place", 7)]) (g := gName 7) (te := tTup (tCons (tCall spDraw [] E0 (tCons (tVar 0) (tCons (tVar 4) (tNil)))) (tCons (tCall spDraw [] E0 (tCons (tVar 0) (tCons (tVar 1) (tNil)))) (tNil)))) (tt := tYes) rfl sc_table.nd (pi_range1 rfl T.range (pa_cons (pv 2) pa_nil)) (blkOk_by (by kernel_rfl)) (fun _ _ _ _ _ => (pg_name (i := 7) sc_table.nd rfl (Or.inl rfl))) (fun _ _ _ _ _ => pts_nil) (fun _ _ _ _ _ => (pe_tup (pa_cons (pe_cl c_draw hr (by decide) (by rfl) (pa_cons (pv 0) (pa_cons (pv 4) pa_nil))) (pa_cons (pe_cl c_draw hr (by decide) (by rfl) (pa_cons (pv 0) (pa_cons (pv 1) pa_nil))) pa_nil)))))))))))), ?_⟩
    refine ⟨_, rfl, p, 4, rfl, hP, by decide, by decide, fun H1 way b1 P1 w0 w4 => ⟨_, rfl, by show 4 ≤ sizeLine; decide, fun a na => ?_⟩⟩
    have npa : p ≠ a := pot_ne P1 na
    refine ⟨p, .ref a, rfl, pot_same P1 (same_upd na), .inl ⟨a, _, rfl, npa.symm, upd_same, by decide, by decide, fun H2 i x hx b2 P2 => ?_⟩⟩
    obtain ⟨top, rfl, t1, t10⟩ : ∃ k : Int, x = .int k ∧ 1 ≤ k ∧ k ≤ 10 := by
      match i, hx with
      | 0, hx => exact ⟨1, (Option.some.inj hx).symm, by decide, by decide⟩
      | 1, hx => exact ⟨2, (Option.some.inj hx).symm, by decide, by decide⟩
      | 2, hx => exact ⟨3, (Option.some.inj hx).symm, by decide, by decide⟩
      | 3, hx => exact ⟨10, (Option.some.inj hx).symm, by decide, by decide⟩
      | i + 4, hx => simp at hx
    clear hx
    refine ⟨_, rfl, _, _, rfl, rfl, by show 3 ≤ sizeLine; decide, fun t nt => ⟨t, _, rfl, .inl (.inl upd_same), rfl, _, _, rfl, _, _, rfl, _, _, rfl, ⟨rfl, ?_⟩⟩⟩
    have b3 : But p H (upd H2 t (.tup [.int way, .int top, .int ((size : Int) - 1)])) := (b1.trans (Same.but (same_upd na))).trans (b2.trans (Same.but (same_upd nt)))
    have P3 := pot_same P2 (same_upd (o := .tup [.int way, .int top, .int ((size : Int) - 1)]) nt)
    have new : ∀ {H' : Hp} {b : Addr}, Nw (upd H2 t (.tup [.int way, .int top, .int ((size : Int) - 1)])) H' b → Nw H H' b := fun {H' b} z => ⟨by
      cases e : H b with
      | none => rfl
      | some o =>
        have np : b ≠ p := fun w => by
          obtain ⟨x, y, e2, _⟩ := P3
          rw [← w, z.1] at e2
          cases e2
        rw [← z.1, b3 _ _ np e], z.2⟩
    have fin : ∀ H' l rs S, But p (upd H2 t (.tup [.int way, .int top, .int ((size : Int) - 1)])) H' → Pot H' p → (∀ b, S b → Nw (upd H2 t (.tup [.int way, .int top, .int ((size : Int) - 1)])) H' b) → Dt K S H' (.ref l) (rowsD rs) → Tb size many rs → Q (.ref l) H' := fun H' l rs S bb PP nn dd tt => q H' _ rs S (b3.trans bb) PP (fun b hb => new (nn b hb)) dd tt
    refine ⟨_, rfl, rfl, _, rfl, ite2 (fun _ => ?_) (fun _ => ?_)⟩
    · refine rows_lc (j1 := 1) (j2 := 2) P3 rfl (fun v => rfl) (by omega) (by omega) (fun i j H Q hi hj PP k => ?_) fin
      refine ⟨_, rfl, _, rfl, _, rfl, _, _, rfl, rfl, _, _, rfl, rfl, .inl ⟨_, rfl, _, rfl, _, _, rfl, rfl, (show (0 : Int) < (size : Int) by omega), ?_⟩⟩
      exact k H _ _ (But.refl _ _) PP ⟨by omega, by omega⟩ ⟨Int.emod_nonneg _ (by omega), Int.emod_lt_of_pos _ (by omega)⟩
    · refine ⟨_, rfl, rfl, _, rfl, ite2 (fun _ => ?_) (fun _ => ?_)⟩
      · refine rows_lc (j1 := 1) (j2 := 2) P3 rfl (fun v => rfl) (by omega) (by omega) (fun i j H Q hi hj PP k => ?_) fin
        refine ⟨_, rfl, _, _, rfl, rfl, _, rfl, _, _, rfl, ?_⟩
        refine k H _ _ (But.refl _ _) PP ⟨by decide, by decide⟩ ?_
        split <;> omega
      · refine rows_lc (j1 := 1) (j2 := 2) P3 rfl (fun v => rfl) (by omega) (by omega) (fun i j H Q hi hj PP k => ?_) fin
        refine ⟨_, rfl, _, rfl, p, top, rfl, PP, by omega, by omega, fun H4 a b4 P4 a0 at_ => ⟨_, rfl, _, rfl, p, size, rfl, P4, by omega, by omega, fun H5 n b5 P5 n0 nt => ?_⟩⟩
        exact k H5 a n (b4.trans b5) P5 ⟨a0, by omega⟩ ⟨n0, nt⟩
theorem ok_model {f : Addr} {fd : FuncData} (F : Fun K "_law_model" "_law_model" s_model f fd) (T : Bl mg) (c_draw : Cl P w K mg base 1 "_law_draw" spDraw) (c_names : Cl P w K mg base 3 "_law_names" spNames) (c_table : Cl P w K mg base 3 "_law_table" (spTable K)) : FnOk P w K mg base CX0 4 f fd ["_law_pot_here", "_law_most_states", "_law_most_deeds"] (spModel K) := by
  refine F.ok sc_model (fun vs H Q E h => ?_) (fun cdv A outer s H vs Q E hr h => ?_)
  · obtain ⟨p, n, m, rfl, _⟩ := h
    rfl
  · obtain ⟨p, ms, md, rfl, hP, hs0, hs, hm0, hm, q⟩ := h
    refine ⟨_, (pss_cons (ps_par (i := 3) (j := 4) rfl sc_model.nd rfl rfl (by decide) rfl rfl (pa_cons (pe_op op_add pe_int (pe_cl c_draw hr (by decide) (by rfl) (pa_cons (pv 0) (pa_cons (pv 1) pa_nil)))) (pa_cons (pe_op op_add pe_int (pe_cl c_draw hr (by decide) (by rfl) (pa_cons (pv 0) (pa_cons (pv 2) pa_nil)))) pa_nil)) (by rfl))
  (pss_one (ps_ret (pe_disp (pps_cons pe_str (pe_cl c_names hr (by decide) (by rfl) (pa_cons (pv 0) (pa_cons (pv 4) pa_nil))) (pps_cons pe_str (pe_cl c_table hr (by decide) (by rfl) (pa_cons (pv 0) (pa_cons (pv 3) (pa_cons (pv 4) pa_nil)))) pps_nil)) (by rfl) (by rfl) (fun z => by cases z) (by decide))))), ?_⟩
    refine ⟨_, rfl, _, rfl, p, ms, rfl, hP, by omega, by omega, fun H1 a b1 P1 a0 a1 => ⟨_, _, rfl, rfl, _, rfl, _, rfl, p, md, rfl, P1, by omega, by omega, fun H2 d b2 P2 d0 d1 => ⟨_, _, rfl, rfl, _, _, rfl, ?_⟩⟩⟩
    obtain ⟨size, rfl⟩ : ∃ k : Nat, a = (k : Int) := ⟨a.toNat, by omega⟩
    obtain ⟨many, rfl⟩ : ∃ k : Nat, d = (k : Int) := ⟨d.toNat, by omega⟩
    intro m nm
    have npm : p ≠ m := pot_ne P2 nm
    have P3 := pot_same P2 (same_upd (o := .dK []) nm)
    refine ⟨_, rfl, _, rfl, p, 1 + many, by show [V.ref p, V.int (1 + (many : Int))] ++ [] = _; rw [List.append_nil]; congr 3 <;> omega, P3, by omega, fun H4 l ns b4 P4 ln hl hlen nd nms => ?_⟩
    refine ⟨_, rfl, _, rfl, _, rfl, p, 1 + size, 1 + many, by show [V.ref p, V.int (1 + (size : Int)), V.int (1 + (many : Int))] ++ [] = _; rw [List.append_nil]; congr 3 <;> (try congr 1) <;> omega, P4, by omega, by omega, by omega, fun H5 v rs S b5 P5 nS dS tb => ?_⟩
    have nml : m ≠ l := fun z => by
      rw [← z, upd_same] at ln
      cases ln
    have npl : p ≠ l := fun z => by
      obtain ⟨x, y, e, _⟩ := P3
      rw [z, ln] at e
      cases e
    have e5 : H5 m = some (.dK []) := b5 _ _ npm.symm (b4 _ _ npm.symm upd_same)
    have l5 : H5 l = some (.lst (ns.map V.str)) := b5 _ _ npl.symm hl
    refine ⟨e5, [(.inr "deeds", .ref l), (.inr "rows", v)], rfl, by show 2 ≤ 15; decide, ?_⟩
    have bH : But p H H5 := ((b1.trans b2).trans (Same.but (same_upd nm))).trans (b4.trans b5)
    have np : ∀ b, b ≠ p → H5 b = none → H b = none := fun b n e => by
      cases z : H b with
      | none => rfl
      | some o =>
        rw [bH _ _ n z] at e
        cases e
    have hm0' : H m = none := by
      cases z : H m with
      | none => rfl
      | some o =>
        rw [(b1.trans b2) _ _ npm.symm z] at nm
        cases nm
    have hl0 : H l = none := by
      cases z : H l with
      | none => rfl
      | some o =>
        rw [((b1.trans b2).trans (Same.but (same_upd nm))) _ _ npl.symm z] at ln
        cases ln
    have hS0 : ∀ b, S b → H b = none ∧ b ≠ p ∧ b ≠ m ∧ b ≠ l := fun b hb => by
      obtain ⟨z1, z2⟩ := nS b hb
      have n1 : b ≠ p := fun z => by
        obtain ⟨x, y, e, _⟩ := P4
        rw [← z, z1] at e
        cases e
      have n2 : b ≠ m := fun z => by
        rw [z, b4 _ _ npm.symm upd_same] at z1
        cases z1
      have n3 : b ≠ l := fun z => by
        rw [z, hl] at z1
        cases z1
      refine ⟨?_, n1, n2, n3⟩
      cases z : H b with
      | none => rfl
      | some o =>
        rw [((b1.trans b2).trans (Same.but (same_upd nm))).trans b4 _ _ n1 z] at z1
        cases z1
    refine q _ m ns rs (1 + size) (1 + many) (fun b => S b ∨ b = m ∨ b = l) (but_new bH hm0') (pot_upd P5 npm) (fun b hb => ?_) ?_ (by omega) (by omega) hlen nd nms tb
    · rcases hb with z | z | z
      · obtain ⟨z1, z2, z3, z4⟩ := hS0 b z
        refine ⟨z1, ?_⟩
        rw [upd_ne z3]
        exact (nS b z).2
      · subst z
        exact ⟨hm0', by rw [upd_same]; simp⟩
      · subst z
        exact ⟨hl0, by rw [upd_ne nml.symm, l5]; simp⟩
    · refine .dct (kvs := [(.inr "deeds", .ref l), (.inr "rows", v)]) (by rw [vw_at (.inr (.inl rfl)), upd_same]; rfl) (.cons ?_ (.cons ?_ .nil))
      · refine .lst ((by rw [vw_at (.inr (.inr rfl)), upd_ne nml.symm]; exact l5)) ?_
        have all : ∀ (ns : List Str) {G : Hp}, TrAll G (ns.map V.str) (ns.map PyData.str) := fun ns G => by
          induction ns with
          | nil => exact .nil
          | cons x r ih => exact .cons (.str x) ih
        exact all ns
      · exact Dt.mono (dS.fr (M := fun b => b = m) (Fr.set (Fr.refl _ _) rfl) fun b hb => (hS0 b hb).2.2.1) fun b hb => .inl hb
end
end K14

namespace Cr
open PySem PySem.Spec PyProof.Rows L2 Xv
/-! ### enumerate of a tuple -/
theorem enum_of {v : Value} {o : Obj} {G : Heap → Prop} (B : Begins v o G) :
    Meets (Builtin.«enumerate.__new__» ⟨[.type "enumerate", v], []⟩) (fun _ R s => G s.heap ∧
      R (.ok (.ret (.ref (s.heap.push o).objs.size))) { s with heap := (s.heap.push o).push { cls := .type "enumerate", data := .fields #[.none, .bool false, .ref s.heap.objs.size, rawInt 0, .none, .none] } }) :=
  .of_wp fun prog w A R s0 h0 => by
    obtain ⟨hp, g, d, tk, os⟩ := s0
    obtain ⟨h1, h⟩ := h0
    have below := sub_enumerate
    have first : ∀ {A' : Around} {E Q : Value → Shared → Prop}, Q (.ref hp.objs.size) ⟨hp.push o, g, d, tk, os⟩ → wpAny (model prog w) A' (pyIter v) Q E ⟨hp, g, d, tk, os⟩ := fun {A' E Q} q => B.iter prog w A' E ⟨hp, g, d, tk, os⟩ Q h1 q
    wp_walk using first
    refine wpAny_stack_any (fun _ => wpAny_pure ?_)
    split
    · rename_i c _ _ _ _ _
      cases (c == Value.type "enumerate") <;> (wp_walk using first; exact ⟨_, rfl, h⟩)
    · wp_walk using first
      exact ⟨_, rfl, h⟩
section
variable {prog : Program} {w : World} {A : Around} {E : Value → Shared → Prop} {s : Shared}
theorem call_enum_tuple {t : Addr} {its : Array Value} {Q : Value → Shared → Prop} (hT : s.heap.IsTuple t its)
    (h : ∀ h', IsEnum h' (s.heap.objs.size + 1) s.heap.objs.size 0 .none → h'.IsTupleIter s.heap.objs.size t 0 → h'.objs.size = s.heap.objs.size + 2 → (∀ b o, s.heap.get? b = some o → h'.get? b = some o) → Q (.ref (s.heap.objs.size + 1)) { s with heap := h' }) :
    wpAny (model prog w) A (call (.type "enumerate") [.ref t]) Q E s := by
  have hz : (s.heap.push { cls := .type "tuple_iterator", data := .fields #[.ref t, .int 0 0] }).objs.size = s.heap.objs.size + 1 := Heap.size_push ..
  refine callType_new F.called_enumerate (by decide) (F.typeCall_enumerate_1 _) (F.newCall_enumerate_1 _) (fun obj => F.args_object_init_2 obj _) F.entry_enumerate_new (enum_of (begins_tuple t its)) ⟨hT, ?_⟩
  show _ ∧ _
  rw [hz]
  have he : IsEnum ((s.heap.push { cls := .type "tuple_iterator", data := .fields #[.ref t, .int 0 0] }).push { cls := .type "enumerate", data := .fields #[.none, .bool false, .ref s.heap.objs.size, rawInt 0, .none, .none] }) (s.heap.objs.size + 1) s.heap.objs.size 0 .none := by
    have z := Heap.get?_push_size (s.heap.push { cls := .type "tuple_iterator", data := .fields #[.ref t, .int 0 0] }) (o := { cls := .type "enumerate", data := .fields #[.none, .bool false, .ref s.heap.objs.size, rawInt 0, .none, .none] }) rfl
    rw [hz] at z
    exact z
  exact ⟨⟨_, he, rfl⟩, h _ he ⟨_, Heap.get?_push_of_some _ (Heap.get?_push_size _ rfl), rfl, rfl⟩ (by rw [Heap.size_push, hz]) (fun b o x => Heap.get?_push_of_some _ (Heap.get?_push_of_some _ x))⟩
end
theorem wpAny_pyNext_enumT_end {prog : Program} {w : World} {A : Around} {E : Value → Shared → Prop} {s : Shared} {e it t : Addr} {i : Nat} {items : Array Value} {old : Value} {Q : Option Value → Shared → Prop} (hh : A.handled = none)
    (he : IsEnum s.heap e it i old) (hit : s.heap.IsTupleIter it t i) (ht : s.heap.IsTuple t items) (hx : items[i]? = none) (hQ : ∀ h', Heap.ExtBut it s.heap h' → Q none { s with heap := h' }) : wpAny (model prog w) A (pyNext (.ref e)) Q E s := by
  have hT : s.TypeIs (.ref e) "enumerate" := ⟨_, he, rfl⟩
  unfold pyNext
  refine wpAny_bind (wpAny_attempt (wpAny_callSpecial?_slot (name := Str.ofString "__next__") hT F.slot_enumerate_next (wpAny_call_entry F.slot_enumerate_next hT F.entry_enumerate_next ?_ (F.args_enumerate_next_1 _))))
  refine wpAny_bind (m := field (.ref e) 2) (wpAny_field he rfl (x := .ref it) rfl (wpAny_bind ?_))
  refine wpAny_nextOf_tuple_end (A := A.in1) hh hit ht hx fun h' x k ⟨o, ho, hc⟩ => ?_
  exact wpAny_bind (wpAny_isInstance (T := "StopIteration") (b := true) ⟨o, ho, hc⟩ isSubtype_stop (wpAny_pure (hQ _ k)))
/-- the tuple at a, each item in a new pair -/
def IteT (K : PySem.W.Frag) (a : Addr) : It :=
  ⟨fun i H => ∃ (xs : List V) (x : V), SqT K H a xs ∧ xs[i]? = some x, fun i H v H' => ∃ T x, v = .ref T ∧ H T = none ∧ H' = upd H T (.tup [.int (i : Nat), x]) ∧ ∀ xs, SqT K H a xs → xs[i]? = some x, fun i H => ∃ xs : List V, SqT K H a xs ∧ xs.length ≤ i⟩
theorem turn_enumT {P : Program} {w : World} {K : PySem.W.Frag} {elts : List Expr} {kk : Nat} {tpos : Pos} (a e it : Addr) :
    Turn P w K (.Tuple elts kk tpos) (IteT K a) [e, it] e (fun i h => (∃ old, IsEnum h e it ((i : Nat) : Int) old) ∧ h.IsTupleIter it a i ∧ e ≠ it ∧ a ≠ it ∧ a ≠ e) where
  mem := by simp
  obj := fun i h st b hb => by
    obtain ⟨⟨old, he⟩, ⟨o, ho, hc, hd⟩, _⟩ := st
    rcases (by simpa using hb : b = e ∨ b = it) with z | z
    · rw [z]
      exact ⟨_, he, fun v q => nomatch q⟩
    · rw [z]
      exact ⟨o, ho, fun v q => by rw [hd] at q; cases q⟩
  keep := fun i h h' st k => let ⟨⟨old, he⟩, hi, hne⟩ := st; ⟨⟨old, k e (by simp) _ he⟩, hi.at (fun o q => k it (by simp) o q), hne⟩
  item := by
    intro X hP hw hK hc i pins s σ H E I hf st hg
    subst hP hw hK
    obtain ⟨⟨old, he⟩, hit, hne, ha, hae⟩ := st
    obtain ⟨xs, x, hq, hx⟩ := hg
    obtain ⟨its, rv, p, hz⟩ := I.tuple hq
    obtain ⟨u, hu, ru⟩ := rv.get hx
    have hel : e < s.heap.objs.size := Heap.lt_size he
    have hil : it < s.heap.objs.size := let ⟨_, q, _⟩ := hit; Heap.lt_size q
    have hi : i < its.toArray.size := by
      have := (List.getElem?_eq_some_iff.mp hu).1
      simpa using this
    refine wpAny_pyNext_enum_itemD (Draws.tuple (A := X.A.in1) (I.ok.hd hc) it a ha its.toArray) he ⟨hit, p⟩ hi hne (by simp [hne, hae.symm]) fun y h' tk hy ho hst hT hsz hk => ?_
    have ey : y = u := by
      have : its[i]? = some y := by simpa using hy
      rw [hu] at this
      exact (Option.some.inj this).symm
    subst ey
    refine ⟨_, rfl, wpAny_letOwnedTupleGo_enum (s := { s with heap := h', toks := tk + 1 }) ho (fun h'' he' sb => ?_)⟩
    have hT2 : h''.get? s.heap.objs.size = some { cls := .type "tuple", data := .seq #[.int i tk, y] } := (sb.2 _ (Nat.ne_of_gt hel)).trans hT
    have fresh : ObjOk X.prog X.w (upd H s.heap.objs.size (.tup [.int (i : Nat), x])) h'' s.heap.objs.size (.tup [.int (i : Nat), x]) := ⟨by show 2 ≤ sizeLine; decide, [.int i tk, y], .cons ⟨_, rfl⟩ (.cons ru .nil), _, hT2, rfl, _, rfl⟩
    have I1 : Inv X pins σ (upd H s.heap.objs.size (.tup [.int (i : Nat), x])) { s with heap := h'', toks := tk + 1 } :=
      I.turnedNew (ch := [e, it]) (fun b ob hb q => (sb.2 b (fun z => hb (by simp [z]))).trans (hk b ob (fun z => hb (by simp [z])) (fun z => hb (by simp [z])) q)) hf (Nat.le_refl _) fresh
    refine ⟨.ref s.heap.objs.size, _, I1, rfl, ⟨_, x, rfl, I.hok.fresh (Nat.le_refl _), rfl, fun ys hy => ?_⟩, ⟨⟨y, ?_⟩, hst.1.at (fun o q => (sb.2 it hne.symm).trans q), hne, ha, hae⟩, fun b hb => ?_⟩
    · rw [I.tuple_inj hy hq]
      exact hx
    · rw [show ((i + 1 : Nat) : Int) = (i : Int) + 1 from by omega]
      exact he'
    · have hb' : b < s.heap.objs.size := by
        rcases (by simpa using hb : b = e ∨ b = it) with z | z
        · rw [z]
          exact hel
        · rw [z]
          exact hil
      rw [upd_ne (Nat.ne_of_lt hb')]
      exact (hf b hb).1
  done := by
    intro X hP hw hK hc i pins s σ H E I hf st hg
    subst hP hw hK
    obtain ⟨⟨old, he⟩, hit, hne, ha, hae⟩ := st
    obtain ⟨xs, hq, hx⟩ := hg
    obtain ⟨its, rv, p, hz⟩ := I.tuple hq
    obtain ⟨f0, f1, f2, f3, f4, f5⟩ := hf it (by simp)
    have hl := rv.length
    have hp : p = p := rfl
    have si : its.toArray.size = i ∨ its.toArray.size < i := by
      have : its.toArray.size ≤ i := by
        rw [List.size_toArray]
        omega
      omega
    exact wpAny_pyNext_enumT_end (I.ok.hd hc) he hit p (by simp; omega) fun h' eb => ⟨rfl, I.turned (t' := s.toks) (fun b o hb q => eb b o hb q) f0 f1 f3 f4 f5⟩
  self := fun A i s Q E st h => let ⟨⟨_, he⟩, _⟩ := st; wpAny_pyIter_enum he h
/-- enumerate of a list or a tuple -/
def iEnum2 (K : PySem.W.Frag) (ta : TA) : TI := fun σ H R => ta σ H fun vs H1 => ∃ a xs, vs = [.ref a] ∧ ((SqL K H1 a xs ∧ R (Ite K a) H1) ∨ (SqT K H1 a xs ∧ R (IteT K a) H1))
theorem pi_enum2 {X : Cx} {e : Expr} {ta : TA} {p pos tpos : Pos} {elts : List Expr} {kk : Nat} (hg : Gl X "enumerate") (hm : X.mg "enumerate" = none) (ha : PA X [e] ta) (hs : starEach [e] X.env = [(false, eval e X.env)] := by rfl) :
    PI X (.Tuple elts kk tpos) (.Call (.Name "enumerate" p) [e] [] pos) (iEnum2 X.K ta) := by
  refine ⟨fun pins s σ H R I h => ?_⟩
  refine Call_ (ld_blt I hg hm boot_enumerate (PyProof.Rows.callWith_type1 (thn (ha.run pos pins s σ H _ I h) fun us s1 ⟨vs, H1, I1, r1, q1⟩ => ?_) hs rfl))
  obtain ⟨a, xs, ex, q1⟩ := q1
  subst ex
  cases r1 with
  | cons r rr =>
    cases rr
    cases r
    have fp : ∀ b ∈ [s1.heap.objs.size + 1, s1.heap.objs.size], FpOk X pins H1 b := fun b hb => by
      have hle : s1.heap.objs.size ≤ b := by
        rcases (by simpa using hb : b = s1.heap.objs.size + 1 ∨ b = s1.heap.objs.size) with z | z
        · rw [z]
          exact Nat.le_add_right _ _
        · rw [z]
          exact Nat.le_refl _
      exact I1.fpOk hle (I1.hok.fresh hle)
    rcases q1 with ⟨hq, q⟩ | ⟨hq, q⟩
    · obtain ⟨its, rv, p', hz⟩ := I1.list hq
      refine call_enumerate_list p'.isList fun h' he hit hsz hk => wpAny_pyIter_enum he ?_
      have I2 : Inv X pins σ H1 { s1 with heap := h' } := I1.kept (t' := s1.toks) hk
      exact ⟨s1.heap.objs.size + 1, _, _, _, H1, rfl, I2, turn_enum a (s1.heap.objs.size + 1) s1.heap.objs.size, ⟨⟨.none, he⟩, hit, Nat.succ_ne_self _⟩, fp, q⟩
    · obtain ⟨its, rv, p', hz⟩ := I1.tuple hq
      have hlt : a < s1.heap.objs.size := let ⟨_, e, _⟩ := p'; Heap.lt_size e
      refine call_enum_tuple p' fun h' he hit hsz hk => wpAny_pyIter_enum he ?_
      have I2 : Inv X pins σ H1 { s1 with heap := h' } := I1.kept (t' := s1.toks) hk
      exact ⟨s1.heap.objs.size + 1, _, _, _, H1, rfl, I2, turn_enumT a (s1.heap.objs.size + 1) s1.heap.objs.size, ⟨⟨.none, he⟩, hit, Nat.succ_ne_self _, Nat.ne_of_lt hlt, Nat.ne_of_lt (Nat.lt_succ_of_lt hlt)⟩, fp, q⟩
theorem walk_enumT {K : PySem.W.Frag} {a : Addr} {xs : List V} : Walk (IteT K a) xs.length (fun H => SqT K H a xs) (YPair (fun i => some (.int (i : Nat))) (fun i => xs[i]?)) := by
  refine ⟨fun i _ hi q => ⟨xs, xs[i], q, by simp [hi]⟩, fun _ q => ⟨xs, q, Nat.le_refl _⟩, fun i H v H' _ q y => ?_⟩
  obtain ⟨T, x, h1, h2, h3, h4⟩ := y
  exact ⟨T, .int (i : Nat), x, h1, h2, h3, rfl, h4 xs q⟩
/-- for x in a list or a tuple -/
def iSeq (K : PySem.W.Frag) (te : TE) : TI := fun σ H R => te σ H fun x H1 => ∃ a xs, x = .ref a ∧ ((SqL K H1 a xs ∧ R (Itl K a) H1) ∨ (SqT K H1 a xs ∧ R (Itt K a) H1))
theorem pi_seq {X : Cx} {tg e : Expr} {te : TE} (he : PE X e te) : PI X tg e (iSeq X.K te) := by
  refine ⟨fun pins s σ H R I h => ?_⟩
  refine thn (he.run pins s σ H _ I h) fun v s1 ⟨x, H1, I1, r1, a, xs, ex, q⟩ => ?_
  subst ex
  cases r1
  have fp : ∀ b ∈ [s1.heap.objs.size], FpOk X pins H1 b := fun b hb => by
    rw [List.mem_singleton.mp hb]
    exact I1.fpOk (Nat.le_refl _) (I1.hok.fresh (Nat.le_refl _))
  rcases q with ⟨hq, q⟩ | ⟨hq, q⟩
  · obtain ⟨its, rv, pl, hz⟩ := I1.list hq
    exact wpAny_pyIter_list pl.isList ⟨s1.heap.objs.size, _, _, _, H1, rfl, I1.kept (t' := s1.toks) (fun b o z => Heap.get?_push_of_some _ z), turn_list a _, ⟨_, Heap.get?_push_size _ rfl, rfl, rfl⟩, fp, q⟩
  · obtain ⟨its, rv, pl, hz⟩ := I1.tuple hq
    exact wpAny_pyIter_tuple (show s1.heap.IsTuple a its.toArray from pl) ⟨s1.heap.objs.size, _, _, _, H1, rfl, I1.kept (t' := s1.toks) (fun b o z => Heap.get?_push_of_some _ z), turn_tuple a _, ⟨_, Heap.get?_push_size _ rfl, rfl, rfl⟩, fp, q⟩
end Cr

namespace Cr
open PySem PySem.Spec PyProof.Rows L2 Xv
def LT (H : Hp) (a : Addr) (xs : List V) : Prop := H a = some (.lst xs) ∨ H a = some (.tup xs)
theorem LT.same {H H' : Hp} {a : Addr} {xs : List V} (h : LT H a xs) (s : Same H H') : LT H' a xs := by
  rcases h with h | h
  · exact .inl (s _ _ h)
  · exact .inr (s _ _ h)
theorem LT.seq {H : Hp} {a : Addr} {xs : List V} (h : LT H a xs) (K : PySem.W.Frag) : SqL K H a xs ∨ SqT K H a xs := by
  rcases h with h | h
  · exact .inl (SqL.of h)
  · exact .inr (.inl (.inl h))
/-- a row, passed: a list or tuple of tuples -/
def RowP (H : Hp) (v : V) (r : Rw) : Prop := ∃ a es, v = .ref a ∧ LT H a es ∧ Paired (fun x (e : Int × Int) => ∃ t, x = V.ref t ∧ H t = some (.tup [.int e.1, .int e.2])) es r
/-- rows, passed: a list or tuple of rows -/
def RowsP (H : Hp) (a : Addr) (vs : List V) (rs : List Rw) : Prop := LT H a vs ∧ Paired (RowP H) vs rs
theorem RowP.same {H H' : Hp} {v : V} {r : Rw} (h : RowP H v r) (s : Same H H') : RowP H' v r := by
  obtain ⟨a, es, rfl, hx, hp⟩ := h
  exact ⟨a, es, rfl, hx.same s, Paired.mapP hp fun x e ⟨t, z1, z2⟩ => ⟨t, z1, s _ _ z2⟩⟩
theorem RowsP.same {H H' : Hp} {a : Addr} {vs : List V} {rs : List Rw} (h : RowsP H a vs rs) (s : Same H H') : RowsP H' a vs rs := ⟨h.1.same s, Paired.mapP h.2 fun v r q => q.same s⟩
/-- a new copy of a row -/
theorem copy_lc {K : PySem.W.Frag} {J : It} {G : Hp → Prop} {es : List V} {r : Rw} {σ : L2.St} {H1 : Hp} {D : Addr} {Qd : Hp → Prop} {vs : List Nat} (W : Walk J es.length G (YAt es)) (hG : ∀ H', Same H1 H' → G H') (hp : Paired (fun x (e : Int × Int) => ∃ t, x = V.ref t ∧ H1 t = some (.tup [.int e.1, .int e.2])) es r) (hz : es.length ≤ 1000) (hD : H1 D = none)
    (hw : ∀ v w, wipe (((wipe σ vs).set 4 (some v)).set 5 (some w)) vs = wipe σ vs) (h4 : ∀ v w, (((wipe σ vs).set 4 (some v)).set 5 (some w))[4]? = some (some v)) (h5 : ∀ v w, (((wipe σ vs).set 4 (some v)).set 5 (some w))[5]? = some (some w))
    (hd : ∀ H2 S, Same H1 H2 → (∀ b, S b → Nw H1 H2 b) → Dt K S H2 (.ref D) (rowD r) → Qd H2) :
    ∃ W : Nat → Nat → Hp → Prop, (∃ m, W 0 m (upd H1 D (.lst []))) ∧ ∀ i m H, W i m H →
      (J.stop i H ∧ Qd H) ∨ (J.go i H ∧ ∃ Nx : Hp → Prop, (∀ H', Nx H' → ∃ m', m' < m ∧ W (i + 1) m' H') ∧ ∀ x H', J.yld i H x H' → gTup K 2 (gCons (gName 4) (gCons (gName 5) gNil)) x (wipe σ vs) H' fun σ2 H2 => wipe σ2 vs = wipe σ vs ∧ tYes σ2 H2 fun b H3 =>
        if b = true then tTup (tCons (tVar 4) (tCons (tVar 5) tNil)) σ2 H3 fun y H4 => ∃ acc, H4 D = some (.lst acc) ∧ acc.length < sizeLine ∧ Nx (upd H4 D (.lst (acc ++ [y]))) else Nx H3) := by
  have hl : es.length = r.length := Paired.length hp
  refine lc_it W (fun i H' => ∃ ts : List Addr, ts.length = i ∧ H' D = some (.lst (ts.map V.ref)) ∧ Same H1 H' ∧ (∀ t ∈ ts, H1 t = none ∧ t ≠ D) ∧ Paired (fun t (e : Int × Int) => H' t = some (.tup [.int e.1, .int e.2])) ts (r.take i))
    ⟨[], rfl, upd_same, same_upd hD, by simp, .nil⟩ (fun i H' _ ⟨_, _, _, s, _⟩ => hG _ s) (fun i x H' H'' hi e y => ?_) (fun H' e => ?_)
  · obtain ⟨rfl, hx⟩ := y
    obtain ⟨ts, e1, e2, e3, e4, e5⟩ := e
    obtain ⟨e, he, t0, rfl, ht0⟩ := Xv.paired_get hp hx
    refine ⟨t0, _, rfl, .inl (.inl (e3 _ _ ht0)), rfl, _, _, rfl, _, _, rfl, ⟨rfl, hw _ _, ?_⟩⟩
    unfold tYes
    dsimp only
    rw [if_pos rfl]
    refine ⟨_, h4 _ _, _, h5 _ _, by show 2 ≤ sizeLine; decide, fun t nt => ?_⟩
    have ntD : D ≠ t := ne_of_none e2 nt
    have nt1 : H1 t = none := by
      cases q : H1 t with
      | none => rfl
      | some o =>
        rw [e3 _ _ q] at nt
        cases nt
    refine ⟨_, by rw [upd_ne ntD]; exact e2, by rw [List.length_map, sizeLine_eq]; omega, ts ++ [t], by rw [List.length_append, e1]; rfl, by rw [upd_same, List.map_append]; rfl, fun b o q => ?_, fun s hs => ?_, ?_⟩
    · rw [upd_ne (ne_of_none q hD), upd_ne (ne_of_none (e3 _ _ q) nt)]
      exact e3 _ _ q
    · rcases List.mem_append.mp hs with z | z
      · exact e4 s z
      · rw [List.mem_singleton.mp z]
        exact ⟨nt1, ntD.symm⟩
    · rw [Xv.take_step he]
      refine pr_app (pr_map e5 fun s e' hs q => ?_) (.cons ?_ .nil)
      · rw [upd_ne (e4 s hs).2, upd_ne (ne_of_none q nt)]
        exact q
      · rw [upd_ne ntD.symm, upd_same]
  · obtain ⟨ts, e1, e2, e3, e4, e5⟩ := e
    rw [hl, List.take_length] at e5
    refine hd H' (fun b => b = D ∨ b ∈ ts) e3 (fun b hb => ?_) ?_
    · rcases hb with z | z
      · subst z
        exact ⟨hD, by rw [e2]; simp⟩
      · obtain ⟨e, q⟩ := pr_mem e5 z
        exact ⟨(e4 b z).1, by rw [q]; simp⟩
    · refine .lst (by rw [vw_at (.inl rfl)]; exact e2) ?_
      have all : ∀ {us : List Addr} {q : Rw}, (∀ t ∈ us, t ∈ ts) → Paired (fun t (e : Int × Int) => H' t = some (.tup [.int e.1, .int e.2])) us q → TrAll (Vw (fun b => b = D ∨ b ∈ ts) H') (us.map V.ref) (q.map fun e => .tuple [.int e.1, .int e.2]) := fun {us q} hm hq => by
        induction hq with
        | nil => exact .nil
        | cons h _ ih => exact .cons (.tup (by rw [vw_at (.inr (hm _ List.mem_cons_self))]; exact h) (.cons (.int _) (.cons (.int _) .nil))) (ih fun t ht => hm t (List.mem_cons_of_mem _ ht))
      exact all (fun _ h => h) e5
/-- a new copy of rows: as an instance keeps them -/
theorem rows_copy {K : PySem.W.Frag} {J : It} {G : Hp → Prop} {xs : List V} {rs : List Rw} {x0 x1 x2 u3 u4 u5 : Option V} {H1 : Hp} {D : Addr} {Qd : Hp → Prop} (W : Walk J xs.length G (YAt xs)) (hG : ∀ H', Same H1 H' → G H') (hp : Paired (RowP H1) xs rs) (hz : xs.length ≤ 1000) (hz2 : ∀ r ∈ rs, r.length ≤ 1000) (hD : H1 D = none)
    (hd : ∀ H2 S, Same H1 H2 → (∀ b, S b → Nw H1 H2 b) → Dt K S H2 (.ref D) (rowsD rs) → Qd H2) :
    ∃ W : Nat → Nat → Hp → Prop, (∃ m, W 0 m (upd H1 D (.lst []))) ∧ ∀ i m H, W i m H →
      (J.stop i H ∧ Qd H) ∨ (J.go i H ∧ ∃ Nx : Hp → Prop, (∀ H', Nx H' → ∃ m', m' < m ∧ W (i + 1) m' H') ∧ ∀ x H', J.yld i H x H' → gName 3 x (wipe [x0, x1, x2, u3, u4, u5] [3]) H' fun σ2 H2 => wipe σ2 [3] = wipe [x0, x1, x2, u3, u4, u5] [3] ∧ tYes σ2 H2 fun b H3 =>
        if b = true then tLc (iSeq K (tVar 3)) (gTup K 2 (gCons (gName 4) (gCons (gName 5) gNil))) tYes (tTup (tCons (tVar 4) (tCons (tVar 5) tNil))) [4, 5] σ2 H3 fun y H4 => ∃ acc, H4 D = some (.lst acc) ∧ acc.length < sizeLine ∧ Nx (upd H4 D (.lst (acc ++ [y]))) else Nx H3) := by
  have hl : xs.length = rs.length := Paired.length hp
  refine lc_it W (fun i H' => ∃ (ls : List Addr) (S : Addr → Prop), ls.length = i ∧ H' D = some (.lst (ls.map V.ref)) ∧ Same H1 H' ∧ (∀ b, S b → Nw H1 H' b ∧ b ≠ D) ∧ Paired (fun l r => Dt K S H' (.ref l) (rowD r)) ls (rs.take i))
    ⟨[], fun _ => False, rfl, upd_same, same_upd hD, fun _ z => z.elim, .nil⟩ (fun i H' _ ⟨_, _, _, _, s, _⟩ => hG _ s) (fun i x H' H'' hi e y => ?_) (fun H' e => ?_)
  · obtain ⟨rfl, hx⟩ := y
    obtain ⟨ls, S, e1, e2, e3, e4, e5⟩ := e
    obtain ⟨r, hr, rp⟩ := Xv.paired_get hp hx
    obtain ⟨a, es, rfl, hxs, hps⟩ := rp.same e3
    have hle : es.length ≤ 1000 := by
      rw [show es.length = r.length from Paired.length hps]
      exact hz2 r (List.mem_of_getElem? hr)
    refine ⟨rfl, ?_⟩
    unfold tYes
    dsimp only
    rw [if_pos rfl]
    have fin : ∀ D2, H'' D2 = none → ∀ (H2 : Hp) (S2 : Addr → Prop), Same H'' H2 → (∀ b, S2 b → Nw H'' H2 b) → Dt K S2 H2 (.ref D2) (rowD r) →
        ∃ acc, H2 D = some (.lst acc) ∧ acc.length < sizeLine ∧ ∃ (ls : List Addr) (S : Addr → Prop), ls.length = i + 1 ∧ upd H2 D (.lst (acc ++ [V.ref D2])) D = some (.lst (ls.map V.ref)) ∧ Same H1 (upd H2 D (.lst (acc ++ [V.ref D2]))) ∧ (∀ b, S b → Nw H1 (upd H2 D (.lst (acc ++ [V.ref D2]))) b ∧ b ≠ D) ∧ Paired (fun l r => Dt K S (upd H2 D (.lst (acc ++ [V.ref D2]))) (.ref l) (rowD r)) ls (rs.take (i + 1)) := fun D2 hD2 H2 S2 s2 n2 d2 => by
      have nS2 : ∀ b, S2 b → b ≠ D := fun b hb z => by
        have := (n2 b hb).1
        rw [z, e2] at this
        cases this
      have fr : Fr (fun b => b = D) H'' (upd H2 D (.lst (ls.map V.ref ++ [V.ref D2]))) := fun b o n q => by
        rw [upd_ne n]
        exact s2 _ _ q
      refine ⟨_, s2 _ _ e2, by rw [List.length_map, sizeLine_eq]; omega, ls ++ [D2], fun b => S b ∨ S2 b, by rw [List.length_append, e1]; rfl, by rw [upd_same, List.map_append]; rfl, fun b o q => ?_, fun b hb => ?_, ?_⟩
      · rw [upd_ne (ne_of_none q hD)]
        exact s2 _ _ (e3 _ _ q)
      · rcases hb with z | z
        · obtain ⟨⟨z1, z2⟩, z3⟩ := e4 b z
          refine ⟨⟨z1, ?_⟩, z3⟩
          obtain ⟨o, q⟩ := Option.ne_none_iff_exists'.mp z2
          rw [upd_ne z3, s2 _ _ q]
          simp
        · refine ⟨⟨?_, ?_⟩, nS2 b z⟩
          · cases q : H1 b with
            | none => rfl
            | some o =>
              have := (n2 b z).1
              rw [e3 _ _ q] at this
              cases this
          · rw [upd_ne (nS2 b z)]
            exact (n2 b z).2
      · rw [Xv.take_step hr]
        refine pr_app (pr_map e5 fun l q _ d => Dt.mono (d.fr fr fun b hb => (e4 b hb).2) fun b hb => .inl hb) (.cons ?_ .nil)
        exact Dt.mono (d2.fr (M := fun b => b = D) (Fr.set (Fr.refl _ _) rfl) fun b hb => nS2 b hb) fun b hb => .inr hb
    rcases hxs with z | z
    · exact ⟨_, rfl, a, es, rfl, .inl ⟨SqL.of z, fun D2 hD2 => copy_lc walk_list (fun H' s => SqL.of (s _ _ z)) hps hle hD2 (fun _ _ => rfl) (fun _ _ => rfl) (fun _ _ => rfl) fun H2 S2 s2 n2 d2 => fin D2 hD2 H2 S2 s2 n2 d2⟩⟩
    · exact ⟨_, rfl, a, es, rfl, .inr ⟨.inl (.inl z), fun D2 hD2 => copy_lc walk_tup (fun H' s => .inl (.inl (s _ _ z))) hps hle hD2 (fun _ _ => rfl) (fun _ _ => rfl) (fun _ _ => rfl) fun H2 S2 s2 n2 d2 => fin D2 hD2 H2 S2 s2 n2 d2⟩⟩
  · obtain ⟨ls, S, e1, e2, e3, e4, e5⟩ := e
    rw [hl, List.take_length] at e5
    refine hd H' (fun b => S b ∨ b = D) e3 (fun b hb => ?_) ?_
    · rcases hb with z | z
      · exact (e4 b z).1
      · subst z
        exact ⟨hD, by rw [e2]; simp⟩
    · refine .lst (by rw [vw_at (.inr rfl)]; exact e2) ?_
      have all : ∀ {us : List Addr} {q : List Rw}, Paired (fun l r => Dt K S H' (.ref l) (rowD r)) us q → TrAll (Vw (fun b => S b ∨ b = D) H') (us.map V.ref) (q.map rowD) := fun {us q} hq => by
        induction hq with
        | nil => exact .nil
        | cons h _ ih => exact .cons (Dt.mono h fun b hb => .inl hb) ih
      exact all e5
end Cr


namespace K14
open PySem PySem.Spec PyProof.Rows L2 Xv Cr TL
/-! ### the numbers of the program -/
structure Cn (mg : Str → Option Value) : Prop where
  letters : ∃ t, mg "LETTERS" = some (.str sgn t)
  longest : ∃ t, mg "LONGEST_NAME" = some (.int 8 t)
  answer : ∃ t, mg "GREATEST_ANSWER" = some (.int 9 t)
  deeds : ∃ t, mg "MOST_DEEDS" = some (.int 4 t)
  states : ∃ t, mg "MOST_STATES" = some (.int 8 t)
def rSgn : R2 := fun x y H Q => ∃ (c : Nat) (z : Str), x = .str ⟨#[c]⟩ ∧ y = .str z ∧ Q (.bl (decide (c ∈ z.cps.toList))) H
def spInt : Sp := fun vs H Q _ => ∃ i : Int, vs = [.int i] ∧ Q (.bl true) H
def spIntF : Sp := fun vs H Q _ => ∃ i a b : Int, vs = [.int i, .int a, .int b] ∧ Q (.bl (decide (a ≤ i) && decide (i ≤ b))) H
def spIsList : Sp := fun vs H Q _ => ∃ a xs, vs = [.ref a] ∧ LT H a xs ∧ ∀ H', Same H H' → Q (.bl true) H'
def spFilled : Sp := fun vs H Q _ => ∃ a xs, vs = [.ref a] ∧ LT H a xs ∧ ∀ H', Same H H' → Q (.bl (decide (0 < xs.length))) H'
def spIsName : Sp := fun vs H Q _ => ∃ x : Str, vs = [.str x] ∧ Nm x ∧ ∀ H', Same H H' → Q (.bl true) H'
def spAns : Sp := fun vs H Q _ => ∃ i : Int, vs = [.int i] ∧ Q (.bl (decide ((0 : Int) ≤ i) && decide (i ≤ 9))) H
def spEntry : Sp := fun vs H Q _ => ∃ (t : Addr) (a b n : Int), vs = [.ref t, .int n] ∧ H t = some (.tup [.int a, .int b]) ∧ (0 ≤ a ∧ a < 10) ∧ (0 ≤ b ∧ b < n) ∧ Q (.bl true) H
def spLimit : Sp := fun vs H Q _ => ∃ (x : V) (m l : Int), vs = [x, .int m, .int l] ∧ m ≤ l ∧ Q .non H
def spRow : Sp := fun vs H Q _ => ∃ (v : V) (r : Rw) (d n : Int), vs = [v, .int d, .int n] ∧ RowP H v r ∧ ((r.length : Int) = d ∧ r.length ≤ 1000) ∧ (∀ e ∈ r, (0 ≤ e.1 ∧ e.1 < 10) ∧ (0 ≤ e.2 ∧ e.2 < n)) ∧ ∀ H', Same H H' → Q (.bl true) H'
/-- each entry of a row is one: the entry in slot 3, the states in slot 2 -/
theorem row_lc {J : It} {G : Hp → Prop} {es : List V} {r : Rw} {n : Int} {σ : L2.St} {H1 : Hp} {D : Addr} {Qd : Hp → Prop} (W : Walk J es.length G (YAt es)) (hG : ∀ H', Same H1 H' → G H') (hp : Paired (fun x (e : Int × Int) => ∃ t, x = V.ref t ∧ H1 t = some (.tup [.int e.1, .int e.2])) es r)
    (hb : ∀ e ∈ r, (0 ≤ e.1 ∧ e.1 < 10) ∧ (0 ≤ e.2 ∧ e.2 < n)) (hz : es.length ≤ 1000) (hD : H1 D = none) (h3 : ∀ v, ((wipe σ [3]).set 3 (some v))[3]? = some (some v)) (h2 : ∀ v, ((wipe σ [3]).set 3 (some v))[2]? = some (some (.int n)))
    (hd : ∀ H2, H2 = upd H1 D (.lst (List.replicate es.length (V.bl true))) → Qd H2) :
    ∃ W : Nat → Nat → Hp → Prop, (∃ m, W 0 m (upd H1 D (.lst []))) ∧ ∀ i m H, W i m H →
      (J.stop i H ∧ Qd H) ∨ (J.go i H ∧ ∃ Nx : Hp → Prop, (∀ H', Nx H' → ∃ m', m' < m ∧ W (i + 1) m' H') ∧ ∀ x H', J.yld i H x H' → gName 3 x (wipe σ [3]) H' fun σ2 H2 => wipe σ2 [3] = wipe σ [3] ∧ tYes σ2 H2 fun b H3 =>
        if b = true then tCall spEntry [] E0 (tCons (tVar 3) (tCons (tVar 2) tNil)) σ2 H3 fun y H4 => ∃ acc, H4 D = some (.lst acc) ∧ acc.length < sizeLine ∧ Nx (upd H4 D (.lst (acc ++ [y]))) else Nx H3) := by
  refine lc_it W (fun i H' => H' = upd H1 D (.lst (List.replicate i (V.bl true)))) rfl (fun i H' _ e => by rw [e]; exact hG _ (same_upd hD)) (fun i x H' H'' hi e y => ?_) (fun H' e => hd H' e)
  obtain ⟨rfl, hx⟩ := y
  subst e
  obtain ⟨e, he, t, rfl, ht⟩ := Xv.paired_get hp hx
  obtain ⟨ba, bn⟩ := hb e (List.mem_of_getElem? he)
  refine ⟨wipe_back, ?_⟩
  unfold tYes
  dsimp only
  rw [if_pos rfl]
  refine ⟨_, h3 _, _, h2 _, t, e.1, e.2, n, rfl, same_upd hD _ _ ht, ba, bn, _, upd_same, by rw [List.length_replicate, sizeLine_eq]; omega, ?_⟩
  rw [upd_upd, ← List.replicate_succ']
abbrev s_is_integer : Stmt := top 16
abbrev N_is_integer : List Str := ["value"]
theorem sc_is_integer : FnScope N_is_integer ["value"] (defScope s_is_integer) := ⟨rfl, rfl, rfl, by decide +kernel, rfl, by decide +kernel, by decide +kernel⟩
abbrev s_is_integer_from : Stmt := top 17
abbrev N_is_integer_from : List Str := ["value", "low", "high"]
theorem sc_is_integer_from : FnScope N_is_integer_from ["value", "low", "high"] (defScope s_is_integer_from) := ⟨rfl, rfl, rfl, by decide +kernel, rfl, by decide +kernel, by decide +kernel⟩
abbrev s_is_list : Stmt := top 18
abbrev N_is_list : List Str := ["value"]
theorem sc_is_list : FnScope N_is_list ["value"] (defScope s_is_list) := ⟨rfl, rfl, rfl, by decide +kernel, rfl, by decide +kernel, by decide +kernel⟩
abbrev s_is_filled_list : Stmt := top 19
abbrev N_is_filled_list : List Str := ["value"]
theorem sc_is_filled_list : FnScope N_is_filled_list ["value"] (defScope s_is_filled_list) := ⟨rfl, rfl, rfl, by decide +kernel, rfl, by decide +kernel, by decide +kernel⟩
abbrev s_is_name : Stmt := top 20
abbrev N_is_name : List Str := ["value", "letter"]
theorem sc_is_name : FnScope N_is_name ["value"] (defScope s_is_name) := ⟨rfl, rfl, rfl, by decide +kernel, rfl, by decide +kernel, by decide +kernel⟩
abbrev s_is_answer : Stmt := top 21
abbrev N_is_answer : List Str := ["value"]
theorem sc_is_answer : FnScope N_is_answer ["value"] (defScope s_is_answer) := ⟨rfl, rfl, rfl, by decide +kernel, rfl, by decide +kernel, by decide +kernel⟩
abbrev s_is_entry : Stmt := top 22
abbrev N_is_entry : List Str := ["value", "states"]
theorem sc_is_entry : FnScope N_is_entry ["value", "states"] (defScope s_is_entry) := ⟨rfl, rfl, rfl, by decide +kernel, rfl, by decide +kernel, by decide +kernel⟩
abbrev s_check_limit : Stmt := top 26
abbrev N_check_limit : List Str := ["what", "many", "limit"]
theorem sc_check_limit : FnScope N_check_limit ["what", "many", "limit"] (defScope s_check_limit) := ⟨rfl, rfl, rfl, by decide +kernel, rfl, by decide +kernel, by decide +kernel⟩
abbrev s_is_row : Stmt := top 28
abbrev N_is_row : List Str := ["row", "deeds", "states", "entry"]
theorem sc_is_row : FnScope N_is_row ["row", "deeds", "states"] (defScope s_is_row) := ⟨rfl, rfl, rfl, by decide +kernel, rfl, by decide +kernel, by decide +kernel⟩
section
variable {P : Program} {w : World} {K : PySem.W.Frag} {mg : Str → Option Value} {base : Heap}
theorem ok_is_integer {f : Addr} {fd : FuncData} (F : Fun K "is_integer" "is_integer" s_is_integer f fd) (T : Bl mg) (C : Cn mg) : FnOk P w K mg base CX0 1 f fd ["value"] spInt := by
  refine F.ok sc_is_integer (fun vs H Q E h => ?_) (fun cdv A outer s H vs Q E hr h => ?_)
  · obtain ⟨i, rfl, _⟩ := h
    rfl
  · obtain ⟨i, rfl, q⟩ := h
    refine ⟨_, (pss_one (ps_ret (pe_and (pe_callB (id := "isinstance") call_isi (by rfl) T.isinstance (by decide +kernel) (pa_cons (pv 0) (pa_cons (pe_bltn (v := .ty "int") (by rfl) T.int (by decide +kernel) rfl) pa_nil))) (pe_one (pe_not (pe_callB (id := "isinstance") call_isi (by rfl) T.isinstance (by decide +kernel) (pa_cons (pv 0) (pa_cons (pe_bltn (v := .ty "bool") (by rfl) T.bool (by decide +kernel) rfl) pa_nil)))))))), ?_⟩
    refine ⟨_, rfl, _, _, _, _, _, rfl, .ty _, .base (.int i), kit_ty (by kernel_rfl), true, rfl, ite2 (fun _ => ?_) (fun z => absurd rfl z)⟩
    exact ⟨_, rfl, _, _, _, _, _, rfl, .ty _, .base (.int i), kit_ty (b := "bool") (r := false) (by kernel_rfl), false, rfl, q⟩
theorem ok_is_integer_from {f : Addr} {fd : FuncData} (F : Fun K "is_integer_from" "is_integer_from" s_is_integer_from f fd) (T : Bl mg) (C : Cn mg) (c_is_integer : Cl P w K mg base 1 "is_integer" spInt) : FnOk P w K mg base CX0 2 f fd ["value", "low", "high"] spIntF := by
  refine F.ok sc_is_integer_from (fun vs H Q E h => ?_) (fun cdv A outer s H vs Q E hr h => ?_)
  · obtain ⟨i, a, b, rfl, _⟩ := h
    rfl
  · obtain ⟨i, a, b, rfl, q⟩ := h
    refine ⟨_, (pss_one (ps_ret (pe_and (pe_cl c_is_integer hr (by decide) (by rfl) (pa_cons (pv 0) pa_nil)) (pe_one (pe_chain op_le op_le (pv 1) (pv 0) (pv 2)))))), ?_⟩
    refine ⟨_, rfl, i, rfl, true, rfl, ite2 (fun _ => ?_) (fun z => absurd rfl z)⟩
    refine ⟨_, rfl, _, rfl, _, _, rfl, rfl, _, rfl, ite2 (fun z1 => ?_) (fun z1 => ?_)⟩
    · refine ⟨_, rfl, _, _, rfl, rfl, ?_⟩
      rw [z1, Bool.true_and] at q
      exact q
    · rw [show decide (a ≤ i) = false from by simpa using z1, Bool.false_and] at q
      exact q
theorem ok_is_list {f : Addr} {fd : FuncData} (F : Fun K "is_list" "is_list" s_is_list f fd) (T : Bl mg) (C : Cn mg) : FnOk P w K mg base CX0 1 f fd ["value"] spIsList := by
  refine F.ok sc_is_list (fun vs H Q E h => ?_) (fun cdv A outer s H vs Q E hr h => ?_)
  · obtain ⟨a, xs, rfl, _⟩ := h
    rfl
  · obtain ⟨a, xs, rfl, hx, q⟩ := h
    refine ⟨_, (pss_one (ps_ret (pe_callB (id := "isinstance") call_isiT (by rfl) T.isinstance (by decide +kernel) (pa_cons (pv 0) (pa_cons (pe_tup (pa_cons (pe_bltn (v := .ty "list") (by rfl) T.list (by decide +kernel) rfl) (pa_cons (pe_bltn (v := .ty "tuple") (by rfl) T.tuple (by decide +kernel) rfl) pa_nil))) pa_nil))))), ?_⟩
    refine ⟨_, rfl, by show 2 ≤ sizeLine; decide, fun t nt => ?_⟩
    have nat_ : a ≠ t := by
      rcases hx with z | z
      · exact ne_of_none z nt
      · exact ne_of_none z nt
    rcases hx with z | z
    · exact ⟨_, t, _, _, _, true, rfl, upd_same, .cons (.ty _) (.cons (.ty _) .nil), .base (.lst (xs := xs) (by rw [upd_ne nat_]; exact z)), by kernel_rfl, q _ (same_upd nt)⟩
    · exact ⟨_, t, _, _, _, true, rfl, upd_same, .cons (.ty _) (.cons (.ty _) .nil), .base (.tup (xs := xs) (by rw [upd_ne nat_]; exact z)), by kernel_rfl, q _ (same_upd nt)⟩
theorem ok_is_filled_list {f : Addr} {fd : FuncData} (F : Fun K "is_filled_list" "is_filled_list" s_is_filled_list f fd) (T : Bl mg) (C : Cn mg) (c_is_list : Cl P w K mg base 1 "is_list" spIsList) : FnOk P w K mg base CX0 2 f fd ["value"] spFilled := by
  refine F.ok sc_is_filled_list (fun vs H Q E h => ?_) (fun cdv A outer s H vs Q E hr h => ?_)
  · obtain ⟨a, xs, rfl, _⟩ := h
    rfl
  · obtain ⟨a, xs, rfl, hx, q⟩ := h
    refine ⟨_, (pss_one (ps_ret (pe_and (pe_cl c_is_list hr (by decide) (by rfl) (pa_cons (pv 0) pa_nil)) (pe_one (pe_cmpR op_gt (pe_callB (id := "len") (call_ln) (by rfl) T.len (by decide +kernel) (pa_cons (pv 0) pa_nil)) pe_int (nomark _)))))), ?_⟩
    refine ⟨_, rfl, a, xs, rfl, hx, fun H1 s1 => ⟨true, rfl, ite2 (fun _ => ?_) (fun z => absurd rfl z)⟩⟩
    have hx1 := hx.same s1
    refine ⟨_, rfl, a, xs, rfl, hx1.seq K, _, _, rfl, rfl, ?_⟩
    have e : decide ((0 : Int) < ((xs.length : Nat) : Int)) = decide (0 < xs.length) := decide_eq_decide.mpr (by omega)
    show Q (V.bl (decide ((0 : Int) < ((xs.length : Nat) : Int)))) H1
    rw [e]
    exact q H1 s1
theorem ok_is_name {f : Addr} {fd : FuncData} (F : Fun K "is_name" "is_name" s_is_name f fd) (T : Bl mg) (C : Cn mg) : FnOk P w K mg base CX0 1 f fd ["value"] spIsName := by
  refine F.ok sc_is_name (fun vs H Q E h => ?_) (fun cdv A outer s H vs Q E hr h => ?_)
  · obtain ⟨x, rfl, _⟩ := h
    rfl
  · obtain ⟨x, rfl, hx, q⟩ := h
    refine ⟨_, (pss_cons (ps_if (PW.pt (pw_or (pt_not (pt_val (pe_callB (id := "isinstance") call_isi (by rfl) T.isinstance (by decide +kernel) (pa_cons (pv 0) (pa_cons (pe_bltn (v := .ty "str") (by rfl) T.str (by decide +kernel) rfl) pa_nil))))) (pw_or1 (pt_not (pt_chain op_le op_le pe_int (pe_callB (id := "len") (call_len) (by rfl) T.len (by decide +kernel) (pa_cons (pv 0) pa_nil)) (pe_glob (v := .int 8) (by rfl) C.longest.choose_spec ⟨_, rfl⟩)))))) (pss_one (ps_ret pe_bl)) pss_nil)
  (pss_one (ps_ret (pe_callB (id := "all") (cr_all rfl) (by rfl) T.all (by decide +kernel) (pa_cons (pe_lc (own := [("letter", 1)]) (g := gName 1) (tt := tYes) (te := tOp rSgn (tVar 1) (tC (.str sgn))) rfl sc_is_name.nd (pi_str (pv 0)) (blkOk_by (N := N_is_name) (sc := defScope s_is_name) (by decide +kernel)) (fun _ _ _ _ _ => (pg_name (i := 1) sc_is_name.nd rfl (Or.inl rfl))) (fun _ _ _ _ _ => pts_nil) (fun _ _ _ _ _ => (pe_cmpR op_in_sign (pv 1) (pe_glob (v := .str sgn) (by rfl) C.letters.choose_spec ⟨_, rfl⟩) (by rfl)))) pa_nil))))), ?_⟩
    refine ⟨_, rfl, _, _, _, _, _, rfl, .ty _, .base (.str x), kit_ty (r := true) (by kernel_rfl), true, rfl, ite2 (fun z => nomatch z) (fun _ => ?_)⟩
    obtain ⟨h1, h8, hc⟩ := hx
    refine ⟨_, rfl, _, _, rfl, ⟨by rw [sizeLine_eq]; omega, rfl⟩, _, _, rfl, rfl, _, rfl, ite2 (fun _ => ?_) (fun z => ?_)⟩
    · refine ⟨_, _, rfl, rfl, _, rfl, ite2 (fun z => ?_) (fun _ => ?_)⟩
      · have : decide ((x.length : Int) ≤ 8) = true := decide_eq_true (by omega)
        rw [this] at z
        cases z
      · refine ⟨_, rfl, x, rfl, fun D hD => ?_⟩
        refine lc_it (n := x.cps.size) (G := fun _ => True) walk_str (fun j H' => H' = upd H D (.lst (List.replicate j (V.bl true)))) rfl (fun _ _ _ _ => trivial) (fun j v H' H'' hj e y => ?_) (fun H' e => ?_)
        · obtain ⟨rfl, c, e1, rfl⟩ := y
          subst e
          refine ⟨wipe_back, ?_⟩
          unfold tYes
          dsimp only
          rw [if_pos rfl]
          have hm : c ∈ x.cps.toList := by
            have : x.cps.toList[j]? = some c := by simpa using e1
            exact List.mem_of_getElem? this
          have hin : decide (c ∈ sgn.cps.toList) = true := decide_eq_true (by
            rw [sgn_list, List.mem_range'_1]
            have := hc c hm
            omega)
          refine ⟨_, rfl, c, sgn, rfl, rfl, _, upd_same, by rw [List.length_replicate, sizeLine_eq]; have : x.cps.size = x.length := rfl; omega, ?_⟩
          rw [hin, upd_upd, ← List.replicate_succ']
        · subst e
          refine ⟨D, List.replicate x.cps.size true, rfl, SqL.of (by rw [upd_same, List.map_replicate]), ?_⟩
          rw [show (List.replicate x.cps.size true).all id = true from by
            rw [List.all_eq_true]
            intro b hb
            rw [List.eq_of_mem_replicate hb]
            rfl]
          exact q _ (same_upd hD)
    · exact absurd (show decide ((1 : Int) ≤ (x.length : Nat)) = true from decide_eq_true (by omega)) z
theorem ok_is_answer {f : Addr} {fd : FuncData} (F : Fun K "is_answer" "is_answer" s_is_answer f fd) (T : Bl mg) (C : Cn mg) (c_is_integer_from : Cl P w K mg base 2 "is_integer_from" spIntF) : FnOk P w K mg base CX0 3 f fd ["value"] spAns := by
  refine F.ok sc_is_answer (fun vs H Q E h => ?_) (fun cdv A outer s H vs Q E hr h => ?_)
  · obtain ⟨i, rfl, _⟩ := h
    rfl
  · obtain ⟨i, rfl, q⟩ := h
    refine ⟨_, (pss_one (ps_ret (pe_cl c_is_integer_from hr (by decide) (by rfl) (pa_cons (pv 0) (pa_cons pe_int (pa_cons (pe_glob (v := .int 9) (by rfl) C.answer.choose_spec ⟨_, rfl⟩) pa_nil)))))), ?_⟩
    exact ⟨_, rfl, i, 0, 9, rfl, q⟩
theorem ok_is_entry {f : Addr} {fd : FuncData} (F : Fun K "is_entry" "is_entry" s_is_entry f fd) (T : Bl mg) (C : Cn mg) (c_is_answer : Cl P w K mg base 3 "is_answer" spAns) (c_is_integer_from : Cl P w K mg base 2 "is_integer_from" spIntF) : FnOk P w K mg base CX0 4 f fd ["value", "states"] spEntry := by
  refine F.ok sc_is_entry (fun vs H Q E h => ?_) (fun cdv A outer s H vs Q E hr h => ?_)
  · obtain ⟨t, a, b, n, rfl, _⟩ := h
    rfl
  · obtain ⟨t, a, b, n, rfl, ht, ha, hb, q⟩ := h
    refine ⟨_, (pss_cons (ps_if (PW.pt (pw_or (pt_not (pt_val (pe_callB (id := "isinstance") call_isi (by rfl) T.isinstance (by decide +kernel) (pa_cons (pv 0) (pa_cons (pe_bltn (v := .ty "tuple") (by rfl) T.tuple (by decide +kernel) rfl) pa_nil))))) (pw_or1 (pt_cmpR op_ne (pe_callB (id := "len") (call_ln) (by rfl) T.len (by decide +kernel) (pa_cons (pv 0) pa_nil)) pe_int (nomark _))))) (pss_one (ps_ret pe_bl)) pss_nil)
  (pss_one (ps_ret (pe_and (pe_cl c_is_answer hr (by decide) (by rfl) (pa_cons (pe_ix ix_tup (pv 0) pe_int (fun _ _ => rfl)) pa_nil)) (pe_one (pe_cl c_is_integer_from hr (by decide) (by rfl) (pa_cons (pe_ix ix_tup (pv 0) pe_int (fun _ _ => rfl)) (pa_cons pe_int (pa_cons (pe_op op_sub (pv 1) pe_int) pa_nil))))))))), ?_⟩
    refine ⟨_, rfl, _, _, _, _, _, rfl, .ty _, .base (.tup ht), kit_ty (r := true) (by kernel_rfl), true, rfl, ite2 (fun z => nomatch z) (fun _ => ?_)⟩
    refine ⟨_, rfl, t, _, rfl, .inr (.inl (.inl ht)), rfl, _, rfl, ite2 (fun z => nomatch z) (fun _ => ?_)⟩
    refine ⟨_, rfl, _, _, _, _, rfl, rfl, .inl (.inl ht), rfl, a, rfl, _, rfl, ite2 (fun _ => ?_) (fun z => ?_)⟩
    · refine ⟨_, rfl, _, _, _, _, rfl, rfl, .inl (.inl ht), rfl, _, rfl, _, _, rfl, rfl, b, 0, n - 1, rfl, ?_⟩
      rw [show (decide ((0 : Int) ≤ b) && decide (b ≤ n - 1)) = true from by rw [decide_eq_true hb.1, decide_eq_true (by omega : b ≤ n - 1)]; rfl]
      exact q
    · exact absurd (show (decide ((0 : Int) ≤ a) && decide (a ≤ 9)) = true from by rw [decide_eq_true ha.1, decide_eq_true (by omega : a ≤ 9)]; rfl) z
theorem ok_check_limit {f : Addr} {fd : FuncData} (F : Fun K "check_limit" "check_limit" s_check_limit f fd) (T : Bl mg) (C : Cn mg) : FnOk P w K mg base CX0 1 f fd ["what", "many", "limit"] spLimit := by
  refine F.ok sc_check_limit (fun vs H Q E h => ?_) (fun cdv A outer s H vs Q E hr h => ?_)
  · obtain ⟨x, m, l, rfl, _⟩ := h
    rfl
  · obtain ⟨x, m, l, rfl, hm, q⟩ := h
    refine ⟨_, (pss_one (ps_if (pt_cmpR op_gt (pv 1) (pv 2) (nomark _)) (pss_one ps_never) pss_nil)), ?_⟩
    refine ⟨_, rfl, _, rfl, _, _, rfl, rfl, _, rfl, ite2 (fun z => ?_) (fun _ => q)⟩
    exact absurd (of_decide_eq_true z) (by omega)
theorem ok_is_row {f : Addr} {fd : FuncData} (F : Fun K "is_row" "is_row" s_is_row f fd) (T : Bl mg) (C : Cn mg) (c_is_list : Cl P w K mg base 1 "is_list" spIsList) (c_is_entry : Cl P w K mg base 4 "is_entry" spEntry) : FnOk P w K mg base CX0 5 f fd ["row", "deeds", "states"] spRow := by
  refine F.ok sc_is_row (fun vs H Q E h => ?_) (fun cdv A outer s H vs Q E hr h => ?_)
  · obtain ⟨v, r, dd, n, rfl, _⟩ := h
    rfl
  · obtain ⟨v, r, dd, n, rfl, hr0, hl, ht, q⟩ := h
    refine ⟨_, (pss_cons (ps_if (PW.pt (pw_or (pt_not (pt_val (pe_cl c_is_list hr (by decide) (by rfl) (pa_cons (pv 0) pa_nil)))) (pw_or1 (pt_cmpR op_ne (pe_callB (id := "len") (call_ln) (by rfl) T.len (by decide +kernel) (pa_cons (pv 0) pa_nil)) (pv 1) (nomark _))))) (pss_one (ps_ret pe_bl)) pss_nil)
  (pss_one (ps_ret (pe_callB (id := "all") (cr_all rfl) (by rfl) T.all (by decide +kernel) (pa_cons (pe_lc (own := [("entry", 3)]) (g := gName 3) (tt := tYes) (te := tCall spEntry [] E0 (tCons (tVar 3) (tCons (tVar 2) tNil))) rfl sc_is_row.nd (pi_seq (pv 0)) (blkOk_by (N := N_is_row) (sc := defScope s_is_row) (by decide +kernel)) (fun _ _ _ _ _ => (pg_name (i := 3) sc_is_row.nd rfl (Or.inl rfl))) (fun _ _ _ _ _ => pts_nil) (fun _ _ _ _ _ => (pe_cl c_is_entry hr (by decide) (by rfl) (pa_cons (pv 3) (pa_cons (pv 2) pa_nil))))) pa_nil))))), ?_⟩
    obtain ⟨a, es, rfl, hx, hp⟩ := hr0
    obtain ⟨hl, hl2⟩ := hl
    refine ⟨_, rfl, a, es, rfl, hx, fun H1 s1 => ⟨true, rfl, ite2 (fun z => nomatch z) (fun _ => ?_)⟩⟩
    have hx1 := hx.same s1
    have hes : es.length = r.length := Paired.length hp
    refine ⟨_, rfl, a, es, rfl, hx1.seq K, _, rfl, rfl, _, rfl, ite2 (fun z => ?_) (fun _ => ?_)⟩
    · exfalso
      rw [decide_eq_true (show V.int ((es.length : Nat) : Int) = V.int dd from by rw [hes, hl])] at z
      cases z
    · have fin : ∀ D, H1 D = none → ∀ H2, H2 = upd H1 D (.lst (List.replicate es.length (V.bl true))) → rAll K [V.ref D] H2 Q := fun D hD H2 e => by
        subst e
        refine ⟨D, List.replicate es.length true, rfl, SqL.of (by rw [upd_same, List.map_replicate]), ?_⟩
        rw [show (List.replicate es.length true).all id = true from by
          rw [List.all_eq_true]
          intro b hb
          rw [List.eq_of_mem_replicate hb]
          rfl]
        exact q _ (s1.trans (same_upd hD))
      have hp1 : Paired (fun x (e : Int × Int) => ∃ t, x = V.ref t ∧ H1 t = some (.tup [.int e.1, .int e.2])) es r := Paired.mapP hp fun x e ⟨t, z1, z2⟩ => ⟨t, z1, s1 _ _ z2⟩
      have hl1 : es.length ≤ 1000 := by omega
      rcases hx1 with z | z
      · exact ⟨_, rfl, a, es, rfl, .inl ⟨SqL.of z, fun D hD => row_lc (n := n) walk_list (fun H' s => SqL.of (s _ _ z)) hp1 ht hl1 hD (fun _ => rfl) (fun _ => rfl) (fun H2 e => fin D hD H2 e)⟩⟩
      · exact ⟨_, rfl, a, es, rfl, .inr ⟨.inl (.inl z), fun D hD => row_lc (n := n) walk_tup (fun H' s => .inl (.inl (s _ _ z))) hp1 ht hl1 hD (fun _ => rfl) (fun _ => rfl) (fun H2 e => fin D hD H2 e)⟩⟩
end
end K14


namespace K14
open PySem PySem.Spec PyProof.Rows L2 Xv Cr TL
abbrev s_check_rows : Stmt := top 29
abbrev N_check_rows : List Str := ["rows", "deeds", "state", "row"]
theorem sc_check_rows : FnScope N_check_rows ["rows", "deeds"] (defScope s_check_rows) := ⟨rfl, rfl, rfl, by decide +kernel, rfl, by decide +kernel, by decide +kernel⟩
def spCheckRows : Sp := fun vs H Q _ => ∃ (a : Addr) (xs : List V) (rs : List Rw) (d : Nat), vs = [.ref a, .int d] ∧ RowsP H a xs rs ∧ (0 < rs.length ∧ rs.length ≤ 1000 ∧ d ≤ 1000) ∧ (∀ r ∈ rs, r.length = d ∧ ∀ e ∈ r, (0 ≤ e.1 ∧ e.1 < 10) ∧ (0 ≤ e.2 ∧ e.2 < (rs.length : Int))) ∧ ∀ H', Same H H' → Q .non H'
theorem rows_for {K : PySem.W.Frag} {J : It} {G : Hp → Prop} {a : Addr} {xs : List V} {rs : List Rw} {d : Nat} {H H1 : Hp} {D : Ends} {u2 u3 : Option V} (W : Walk J xs.length G (YPair (fun i => some (.int (i : Nat))) (fun i => xs[i]?))) (hG : ∀ H', Same H H' → G H') (hp : RowsP H a xs rs) (hz : rs.length ≤ 1000 ∧ d ≤ 1000)
    (hb : ∀ r ∈ rs, r.length = d ∧ ∀ e ∈ r, (0 ≤ e.1 ∧ e.1 < 10) ∧ (0 ≤ e.2 ∧ e.2 < (rs.length : Int))) (h0 : Same H H1) (hd : ∀ σ H', Same H H' → D.nx σ H') :
    ∃ W : Nat → Nat → L2.St → Hp → Prop, (∃ m, W 0 m [some (.ref a), some (.int (d : Int)), u2, u3] H1) ∧ ∀ i m σ H, W i m σ H →
      (J.stop i H ∧ D.nx σ H) ∨ (J.go i H ∧ ∃ N : L2.St → Hp → Prop, (∀ σ' H', N σ' H' → ∃ m', m' < m ∧ W (i + 1) m' σ' H') ∧ ∀ x H', J.yld i H x H' → gTup K 2 (gCons (gName 2) (gCons (gName 3) gNil)) x σ H' fun σ2 H2 =>
        tIfS (tNot (tB (tCall spRow [] E0 (tCons (tVar 3) (tCons (tVar 1) (tCons (tCB (rLn K) (tCons (tVar 0) tNil)) tNil)))))) tNever tNext { D with nx := N, ct := N, bk := D.nx } σ2 H2) := by
  refine for_it W (fun i σ H' => ∃ u2 u3, σ = [some (.ref a), some (.int (d : Int)), u2, u3] ∧ Same H H') ⟨_, _, rfl, h0⟩ (fun i σ H' _ ⟨_, _, _, s⟩ => hG H' s) ?_ (fun σ H' ⟨_, _, _, s⟩ => hd σ H' s)
  rintro i x σ H2 H3 hi ⟨u2, u3, rfl, s2⟩ ⟨t, x1, x2, rfl, nt, rfl, e1, e2⟩
  cases e1
  obtain ⟨r, hr, rp⟩ := Xv.paired_get hp.2 e2
  obtain ⟨b1, b2⟩ := hb r (List.mem_of_getElem? hr)
  have s3 := s2.trans (same_upd (o := .tup [.int (i : Nat), x2]) nt)
  have hl : xs.length = rs.length := Paired.length hp.2
  refine ⟨t, _, rfl, .inl (.inl upd_same), rfl, _, _, rfl, _, _, rfl, ⟨rfl, ?_⟩⟩
  refine ⟨_, rfl, _, rfl, _, rfl, a, xs, rfl, (hp.1.same s3).seq K, x2, r, d, (xs.length : Nat), rfl, rp.same s3, ⟨by omega, by omega⟩, fun e he => by rw [hl]; exact b2 e he, fun H' s' => ⟨true, rfl, ite2 (fun z => nomatch z) (fun _ => ⟨_, _, rfl, s3.trans s'⟩)⟩⟩
section
variable {P : Program} {w : World} {K : PySem.W.Frag} {mg : Str → Option Value} {base : Heap}
theorem ok_check_rows {f : Addr} {fd : FuncData} (F : Fun K "check_rows" "check_rows" s_check_rows f fd) (T : Bl mg) (c_is_filled_list : Cl P w K mg base 2 "is_filled_list" spFilled) (c_is_row : Cl P w K mg base 5 "is_row" spRow) : FnOk P w K mg base CX0 6 f fd ["rows", "deeds"] spCheckRows := by
  refine F.ok sc_check_rows (fun vs H Q E h => ?_) (fun cdv A outer s H vs Q E hr h => ?_)
  · obtain ⟨a, xs, rs, d, rfl, _⟩ := h
    rfl
  · obtain ⟨a, xs, rs, d, rfl, hp, hz, hb, q⟩ := h
    refine ⟨_, (pss_cons (ps_if (pt_not (pt_val (pe_cl c_is_filled_list hr (by decide) (by rfl) (pa_cons (pv 0) pa_nil)))) (pss_one ps_never) pss_nil)
  (pss_one (ps_for PassesOwn.never rfl (pi_enum2 rfl T.enumerate (pa_cons (pv 0) pa_nil)) (pg_tup rfl (pgs_cons (pg_name (i := 2) sc_check_rows.nd rfl (Or.inl rfl)) (pgs_cons (pg_name (i := 3) sc_check_rows.nd rfl (Or.inl rfl)) pgs_nil)))
  (pss_one (ps_if (pt_not (pt_val (pe_cl c_is_row hr (by decide) (by rfl) (pa_cons (pv 3) (pa_cons (pv 1) (pa_cons (pe_callB (id := "len") (call_ln) (by rfl) T.len (by decide +kernel) (pa_cons (pv 0) pa_nil)) pa_nil)))))) (pss_one ps_never) pss_nil))))), ?_⟩
    have hl : xs.length = rs.length := Paired.length hp.2
    refine ⟨_, rfl, a, xs, rfl, hp.1, fun H1 s1 => ⟨_, rfl, ite2 (fun z => ?_) (fun _ => ?_)⟩⟩
    · rw [decide_eq_true (show 0 < xs.length by omega)] at z
      cases z
    · have hp1 := hp.1.same s1
      refine ⟨_, rfl, a, xs, rfl, ?_⟩
      rcases hp1 with z | z
      · exact .inl ⟨SqL.of z, rows_for walk_enum (fun H' s => SqL.of (s _ _ z)) (hp.same s1) ⟨hz.2.1, hz.2.2⟩ hb (Same.refl H1) (fun σ H' s => q H' (s1.trans s))⟩
      · exact .inr ⟨.inl (.inl z), rows_for walk_enumT (fun H' s => .inl (.inl (s _ _ z))) (hp.same s1) ⟨hz.2.1, hz.2.2⟩ hb (Same.refl H1) (fun σ H' s => q H' (s1.trans s))⟩
end
end K14


namespace K14
open PySem PySem.Spec PyProof.Rows L2 Xv Cr TL
abbrev s_check_deeds : Stmt := top 27
abbrev N_check_deeds : List Str := ["deeds", "known", "ahead", "place", "deed"]
theorem sc_check_deeds : FnScope N_check_deeds ["deeds", "known"] (defScope s_check_deeds) := ⟨rfl, rfl, rfl, by decide +kernel, rfl, by decide +kernel, by decide +kernel⟩
theorem pt_no {X : Cx} {e : Expr} : PT X e (fun _ _ _ => False) := ⟨fun _ _ _ _ _ _ h => h.elim⟩
def spCheckDeeds : Sp := fun vs H Q _ => ∃ (a : Addr) (ns : List Str), vs = [.ref a, .non] ∧ LT H a (ns.map V.str) ∧ 0 < ns.length ∧ ns.length ≤ 1000 ∧ ns.Nodup ∧ (∀ x ∈ ns, Nm x) ∧ ∀ H', Same H H' → Q .non H'
theorem deeds_for {P : Program} {w : World} {K : PySem.W.Frag} {J : It} {G : Hp → Prop} {a s : Addr} {ns : List Str} {H H1 : Hp} {D : Ends} {u3 u4 : Option V} (W : Walk J (ns.map V.str).length G (YPair (fun i => some (.int (i : Nat))) (fun i => (ns.map V.str)[i]?))) (hG : ∀ H', Same H H' → G H')
    (hz : ns.length ≤ 1000) (nd : ns.Nodup) (nm : ∀ x ∈ ns, Nm x) (hs : H s = none) (h0 : Same H H1) (hs1 : H1 s = some (SetK P w s (fun _ => false) 0)) (hd : ∀ σ H', Same H H' → D.nx σ H') :
    ∃ W : Nat → Nat → L2.St → Hp → Prop, (∃ m, W 0 m [some (.ref a), some .non, some (.ref s), u3, u4] H1) ∧ ∀ i m σ H, W i m σ H →
      (J.stop i H ∧ D.nx σ H) ∨ (J.go i H ∧ ∃ N : L2.St → Hp → Prop, (∀ σ' H', N σ' H' → ∃ m', m' < m ∧ W (i + 1) m' σ' H') ∧ ∀ x H', J.yld i H x H' → gTup K 2 (gCons (gName 3) (gCons (gName 4) gNil)) x σ H' fun σ2 H2 =>
        tSeq (tIfS (tOr (tNot (tB (tCall spIsName [] E0 (tCons (tVar 4) tNil)))) (tTest (tOp (rSInK P w false) (tVar 4) (tVar 2)))) tNever tNext)
          (tSeq (tIfS (tAnd (tB (tNotN (tVar 1))) (fun _ _ _ => False)) tNever tNext) (tDrop (tSAddK P w (tVar 2) (tCons (tVar 4) tNil)))) { D with nx := N, ct := N, bk := D.nx } σ2 H2) := by
  refine for_it W (fun i σ H' => ∃ u3 u4 S n, σ = [some (.ref a), some .non, some (.ref s), u3, u4] ∧ Same H H' ∧ H' s = some (SetK P w s S n) ∧ n ≤ i ∧ ∀ x : Str, S (.inr x) = decide (x ∈ ns.take i)) ⟨_, _, _, 0, rfl, h0, hs1, Nat.le_refl _, fun x => by simp⟩ (fun i σ H' _ ⟨_, _, _, _, _, s', _⟩ => hG H' s') ?_ (fun σ H' ⟨_, _, _, _, _, s', _⟩ => hd σ H' s')
  rintro i x σ H2 H3 hi ⟨u3, u4, S, n, rfl, s2, h2, hn, hS⟩ ⟨t, x1, x2, rfl, nt, rfl, e1, e2⟩
  cases e1
  replace e2 : (ns.map V.str)[i]? = some x2 := e2
  obtain ⟨y, hy, rfl⟩ : ∃ y, ns[i]? = some y ∧ x2 = V.str y := by
    rw [List.getElem?_map] at e2
    cases e : ns[i]? with
    | none =>
      rw [e] at e2
      cases e2
    | some y =>
      rw [e] at e2
      exact ⟨y, rfl, (Option.some.inj e2).symm⟩
  have hin := List.mem_of_getElem? hy
  have hlt : i < ns.length := (List.getElem?_eq_some_iff.mp hy).1
  have hno : y ∉ ns.take i := fun hm => by
    obtain ⟨j, hj, ej⟩ := List.mem_take_iff_getElem.mp hm
    have e3 : ns[i] = y := (List.getElem?_eq_some_iff.mp hy).2
    have hji : j < i := by omega
    exact (List.pairwise_iff_getElem.mp nd j i (by omega) hlt hji) (by rw [ej, e3])
  have nst : s ≠ t := ne_of_none h2 nt
  have s3 := s2.trans (same_upd (o := .tup [.int (i : Nat), V.str y]) nt)
  refine ⟨t, _, rfl, .inl (.inl upd_same), rfl, _, _, rfl, _, _, rfl, ⟨rfl, ?_⟩⟩
  refine ⟨_, rfl, y, rfl, nm y hin, fun H4 s4 => ⟨true, rfl, ite2 (fun z => nomatch z) (fun _ => ?_)⟩⟩
  have h4 : H4 s = some (SetK P w s S n) := s4 _ _ (by rw [upd_ne nst]; exact h2)
  refine ⟨_, rfl, _, rfl, .inr y, s, S, n, rfl, rfl, h4, _, rfl, ite2 (fun z => ?_) (fun _ => ?_)⟩
  · exfalso
    have z2 : S (.inr y) = true := z
    rw [hS y] at z2
    exact hno (of_decide_eq_true z2)
  refine ⟨_, rfl, _, rfl, ite2 (fun z => nomatch z) (fun _ => ?_)⟩
  refine ite2 (fun z => nomatch z) (fun _ => ?_)
  refine ⟨_, rfl, ⟨s, S, n, rfl, h4⟩, _, rfl, s, .inr y, S, n, rfl, rfl, h4, by rw [show PySem.scanBound = 4096 from rfl]; omega, ?_⟩
  refine ⟨_, _, _, _, rfl, fun b o e => ?_, upd_same, ?_, fun x => ?_⟩
  · rw [upd_ne (ne_of_none e hs)]
    exact s4 _ _ (s3 _ _ e)
  · split <;> omega
  · show (S (.inr x) || decide ((.inr x : Key) = .inr y)) = _
    rw [hS x, Xv.take_step hy]
    by_cases e : x = y
    · subst e
      simp
    · have e2 : decide ((.inr x : Key) = .inr y) = false := decide_eq_false fun q => e (Sum.inr.inj q)
      rw [e2, Bool.or_false]
      exact decide_eq_decide.mpr (by simp [e])
section
variable {P : Program} {w : World} {K : PySem.W.Frag} {mg : Str → Option Value} {base : Heap}
/-- a def with defaults, by its name -/
structure ClD (P : Program) (w : World) (K : PySem.W.Frag) (mg : Str → Option Value) (base : Heap) (k : Nat) (x : Str) (sp : Sp) (dvs : List V) : Prop where
  ex : ∃ (f : Addr) (fd : FuncData) (ps : List Str) (ds : List Value), FnOk P w K mg base CX0 k f fd ps sp ∧ mg x = some (.ref f) ∧ PySem.W.keepIn K (.ref f) = true ∧ Binds K fd ps ds ∧ Vals dvs ds
theorem pe_cld {X : Cx} {x : Str} {p pos : Pos} {e : Expr} {es : List Expr} {t : TA} {k j : Nat} {sp : Sp} {dvs : List V} (c : ClD X.prog X.w X.K X.mg X.base k x sp dvs) (hr : Room j X.A) (hk : k ≤ j) (hg : Gl X x) (ha : PA X (e :: es) t)
    (hdb : (x == ("__debug__" : Str)) = false := by decide) (he : starEach (e :: es) X.env = (false, eval e X.env) :: starEach es X.env := by rfl) (hpl : (backTo pos (starEach es X.env)).any (·.1) = false := by rfl) : PE X (.Call (.Name x p) (e :: es) [] pos) (tCall sp dvs E0 t) := by
  obtain ⟨f, fd, ps, ds, F, hm, kp, b, v⟩ := c.ex
  exact pe_call F (hr.mono hk) hg hm kp b v pass0 ha hdb he hpl
theorem ok_check_deeds {f : Addr} {fd : FuncData} (F : FunD K "check_deeds" "check_deeds" (defArgs s_check_deeds) (defBody s_check_deeds) (defScope s_check_deeds) [V.non] [] f fd) (T : Bl mg) (c_is_filled_list : Cl P w K mg base 2 "is_filled_list" spFilled) (c_is_name : Cl P w K mg base 1 "is_name" spIsName) : FnOk P w K mg base CX0 3 f fd ["deeds", "known"] spCheckDeeds := by
  refine F.ok sc_check_deeds (fun vs H Q E h => ?_) (fun cdv A outer s H vs Q E hr h => ?_)
  · obtain ⟨a, ns, rfl, _⟩ := h
    rfl
  · obtain ⟨a, ns, rfl, hx, h0, hz, nd, nm, q⟩ := h
    refine ⟨_, PSs.nox (pss_cons (ps_if (pt_not (pt_val (pe_cl c_is_filled_list hr (by decide) (by rfl) (pa_cons (pv 0) pa_nil)))) (pss_one ps_never) pss_nil)
  (pss_cons (ps_set (i := 2) sc_check_deeds.nd rfl (Or.inl rfl) (pe_callTy0 (T := "set") cr_set0K (by rfl) T.set (by decide +kernel)))
  (pss_one (ps_for PassesOwn.never rfl (pi_enum2 rfl T.enumerate (pa_cons (pv 0) pa_nil)) (pg_tup rfl (pgs_cons (pg_name (i := 3) sc_check_deeds.nd rfl (Or.inl rfl)) (pgs_cons (pg_name (i := 4) sc_check_deeds.nd rfl (Or.inl rfl)) pgs_nil)))
  (pss_cons (ps_if (PW.pt (pw_or (pt_not (pt_val (pe_cl c_is_name hr (by decide) (by rfl) (pa_cons (pv 4) pa_nil)))) (pw_or1 (pt_cmpR or_sinK (pv 4) (pv 2) (by rfl))))) (pss_one ps_never) pss_nil)
  (pss_cons (ps_if (PW.pt (pw_and (pt_cmp (pc_notN (pv 1)) (by rfl)) (pw_and1 pt_no))) (pss_one ps_never) pss_nil)
  (pss_one (ps_expr (pe_saddK (pv 2) (pa_cons (pv 4) pa_nil)))))))))), ?_⟩
    refine ⟨_, rfl, a, _, rfl, hx, fun H1 s1 => ⟨_, rfl, ite2 (fun z => ?_) (fun _ => ?_)⟩⟩
    · rw [decide_eq_true (show 0 < (ns.map V.str).length by rw [List.length_map]; exact h0)] at z
      cases z
    · refine ⟨rfl, fun s0 n0 => ?_⟩
      have hp1 := hx.same s1
      refine ⟨_, rfl, a, ns.map V.str, rfl, ?_⟩
      have ss := same_upd (o := SetK P w s0 (fun _ => false) 0) n0
      rcases hp1 with z | z
      · exact .inl ⟨SqL.of (ss _ _ z), deeds_for walk_enum (fun H' s => SqL.of (s _ _ z)) hz nd nm n0 ss upd_same (fun σ H' s => q H' (s1.trans s))⟩
      · exact .inr ⟨.inl (.inl (ss _ _ z)), deeds_for walk_enumT (fun H' s => .inl (.inl (s _ _ z))) hz nd nm n0 ss upd_same (fun σ H' s => q H' (s1.trans s))⟩
end
end K14


namespace K14
open PySem PySem.Spec PyProof.Rows L2 Xv Cr TL
abbrev s_thing_init : Stmt := inClass (top 31) 0
abbrev N_thing_init : List Str := ["self", "deeds", "rows", "row", "answer", "after"]
theorem sc_thing_init : FnScope N_thing_init ["self", "deeds", "rows"] (defScope s_thing_init) := ⟨rfl, rfl, rfl, by decide +kernel, rfl, by decide +kernel, by decide +kernel⟩
/-- right deeds and rows -/
structure Right (ns : List Str) (rs : List Rw) : Prop where
  d0 : 0 < ns.length
  d4 : ns.length ≤ 4
  nd : ns.Nodup
  nm : ∀ x ∈ ns, Nm x
  r0 : 0 < rs.length
  r8 : rs.length ≤ 8
  tb : Tb rs.length ns.length rs
def fsT (l m : Addr) : List (Str × V) := putF "_rows" (.ref m) (putF "_deeds" (.ref l) [])
/-- a thing: its deeds and rows stand in lists of its own, within S -/
def ThAt (K : PySem.W.Frag) (C : Addr) (S : Addr → Prop) (H : Hp) (x : Addr) (ns : List Str) (rs : List Rw) : Prop := ∃ dx l m, H x = some (.ins C dx (fsT l m)) ∧ Dt K S H (.ref l) (namesD ns) ∧ Dt K S H (.ref m) (rowsD rs) ∧ ¬ S x
def spThingI (K : PySem.W.Frag) (C : Addr) : Sp := fun vs H Q _ => ∃ (x dx da ra : Addr) (ns : List Str) (xs : List V) (rs : List Rw), vs = [.ref x, .ref da, .ref ra] ∧ H x = some (.ins C dx []) ∧ LT H da (ns.map V.str) ∧ RowsP H ra xs rs ∧ Right ns rs ∧
  ∀ H' S, Fr (fun b => b = x) H H' → (∀ b, S b → Nw H H' b) → ThAt K C S H' x ns rs → Q .non H'
structure ThC (K : PySem.W.Frag) (C : Addr) : Prop where
  cl : Cls K C
  nD : NoAttr K C "_deeds"
  nR : NoAttr K C "_rows"
section
variable {P : Program} {w : World} {K : PySem.W.Frag} {mg : Str → Option Value} {base : Heap}
theorem ok_thing_init {Ct f : Addr} {fd : FuncData} (F : Fun K "__init__" "Thing.__init__" s_thing_init f fd) (T : Bl mg) (C : Cn mg) (TC : ThC K Ct) (c_check_deeds : ClD P w K mg base 3 "check_deeds" spCheckDeeds [V.non]) (c_check_rows : Cl P w K mg base 6 "check_rows" spCheckRows) (c_check_limit : Cl P w K mg base 1 "check_limit" spLimit) : FnOk P w K mg base CX0 7 f fd ["self", "deeds", "rows"] (spThingI K Ct) := by
  refine F.ok sc_thing_init (fun vs H Q E h => ?_) (fun cdv A outer s H vs Q E hr h => ?_)
  · obtain ⟨x, dx, da, ra, ns, xs, rs, rfl, _⟩ := h
    rfl
  · obtain ⟨x, dx, da, ra, ns, xs, rs, rfl, hx, hd, hp, R, q⟩ := h
    refine ⟨_, (pss_cons (ps_expr (pe_cld c_check_deeds hr (by decide) (by rfl) (pa_cons (pv 1) pa_nil)))
  (pss_cons (ps_expr (pe_cl c_check_rows hr (by decide) (by rfl) (pa_cons (pv 2) (pa_cons (pe_callB (id := "len") (call_ln) (by rfl) T.len (by decide +kernel) (pa_cons (pv 1) pa_nil)) pa_nil))))
  (pss_cons (ps_expr (pe_cl c_check_limit hr (by decide) (by rfl) (pa_cons pe_str (pa_cons (pe_callB (id := "len") (call_ln) (by rfl) T.len (by decide +kernel) (pa_cons (pv 1) pa_nil)) (pa_cons (pe_glob (v := .int 4) (by rfl) C.deeds.choose_spec ⟨_, rfl⟩) pa_nil)))))
  (pss_cons (ps_expr (pe_cl c_check_limit hr (by decide) (by rfl) (pa_cons pe_str (pa_cons (pe_callB (id := "len") (call_ln) (by rfl) T.len (by decide +kernel) (pa_cons (pv 2) pa_nil)) (pa_cons (pe_glob (v := .int 8) (by rfl) C.states.choose_spec ⟨_, rfl⟩) pa_nil)))))
  (pss_cons (ps_fld (pv 0) (pe_callTy (T := "list") call_list_of (by rfl) T.list (by decide +kernel) (pa_cons (pv 1) pa_nil)) rfl)
  (pss_one (ps_fld (pv 0) (pe_lc (own := [("row", 3)]) (g := gName 3) (tt := tYes) (te := tLc (iSeq K (tVar 3)) (gTup K 2 (gCons (gName 4) (gCons (gName 5) gNil))) tYes (tTup (tCons (tVar 4) (tCons (tVar 5) tNil))) [4, 5]) rfl sc_thing_init.nd (pi_seq (pv 2)) (blkOk_by (N := N_thing_init) (sc := defScope s_thing_init) (by decide +kernel)) (fun _ _ _ _ _ => (pg_name (i := 3) sc_thing_init.nd rfl (Or.inl rfl))) (fun _ _ _ _ _ => pts_nil)
    (fun _ _ _ _ _ => (pe_lc (own := [("answer", 4), ("after", 5)]) (g := gTup K 2 (gCons (gName 4) (gCons (gName 5) gNil))) (tt := tYes) (te := tTup (tCons (tVar 4) (tCons (tVar 5) tNil))) rfl sc_thing_init.nd (pi_seq (pv 3)) (blkOk_by (by kernel_rfl)) (fun _ _ _ _ _ => (pg_tup rfl (pgs_cons (pg_name (i := 4) sc_thing_init.nd rfl (Or.inl rfl)) (pgs_cons (pg_name (i := 5) sc_thing_init.nd rfl (Or.inl rfl)) pgs_nil)))) (fun _ _ _ _ _ => pts_nil) (fun _ _ _ _ _ => pe_tup (pa_cons (pv 4) (pa_cons (pv 5) pa_nil)))))) rfl))))))), ?_⟩
    have hxl : xs.length = rs.length := Paired.length hp.2
    have hzn : ∀ r ∈ rs, r.length ≤ 1000 := fun r hr => by
      have := (R.tb.2 r hr).1
      have := R.d4
      omega
    refine ⟨_, rfl, da, ns, rfl, hd, R.d0, Nat.le_trans R.d4 (by decide), R.nd, R.nm, fun H1 s1 => ?_⟩
    refine ⟨_, rfl, _, rfl, da, _, rfl, (hd.same s1).seq K, ra, xs, rs, ns.length, by rw [List.length_map]; rfl, hp.same s1, ⟨R.r0, Nat.le_trans R.r8 (by decide), Nat.le_trans R.d4 (by decide)⟩, R.tb.2, fun H2 s2 => ?_⟩
    replace s2 := s1.trans s2
    have d4 := R.d4
    have r8 := R.r8
    refine ⟨_, rfl, da, _, rfl, (hd.same s2).seq K, _, _, _, rfl, by rw [List.length_map]; omega, ?_⟩
    refine ⟨_, rfl, ra, xs, rfl, (hp.1.same s2).seq K, _, _, _, rfl, by omega, ?_⟩
    -- self._deeds = list(deeds)
    refine ⟨_, rfl, da, _, rfl, (hd.same s2).seq K, fun l nl => ?_⟩
    have hx2 := s2 _ _ hx
    have nxl : x ≠ l := ne_of_none hx2 nl
    refine ⟨_, rfl, x, Ct, dx, [], rfl, (by rw [upd_ne nxl]; exact hx2), TC.cl, TC.nD, by show 0 < 1000; decide, ?_⟩
    have F3 : Fr (fun b => b = x) H (upd (upd H2 l (.lst (ns.map V.str))) x (.ins Ct dx (putF "_deeds" (.ref l) []))) := Fr.set (Fr.of (s2.trans (same_upd nl))) rfl
    have hl3 : upd (upd H2 l (.lst (ns.map V.str))) x (.ins Ct dx (putF "_deeds" (.ref l) [])) l = some (.lst (ns.map V.str)) := by rw [upd_ne nxl.symm, upd_same]
    have hx3 : upd (upd H2 l (.lst (ns.map V.str))) x (.ins Ct dx (putF "_deeds" (.ref l) [])) x = some (.ins Ct dx (putF "_deeds" (.ref l) [])) := upd_same
    have nlH : H l = none := by
      cases z : H l with
      | none => rfl
      | some o =>
        rw [s2 _ _ z] at nl
        cases nl
    generalize upd (upd H2 l (.lst (ns.map V.str))) x (.ins Ct dx (putF "_deeds" (.ref l) [])) = H3 at F3 hl3 hx3 ⊢
    have notx : ∀ {b : Addr} {o : HO}, (∀ C' d' f', o ≠ .ins C' d' f') → H b = some o → b ≠ x := fun {b o} n e z => by
      rw [z, hx] at e
      cases e
      exact n _ _ _ rfl
    have hp3 : RowsP H3 ra xs rs := by
      have k : ∀ {b : Addr} {xs : List V}, LT H b xs → LT H3 b xs := fun {b xs} z => by
        rcases z with z | z
        · exact .inl (F3 _ _ (notx (by intro _ _ _ q; cases q) z) z)
        · exact .inr (F3 _ _ (notx (by intro _ _ _ q; cases q) z) z)
      refine ⟨k hp.1, Paired.mapP hp.2 fun v r ⟨a, es, e, hxs, hps⟩ => ⟨a, es, e, k hxs, Paired.mapP hps fun y e ⟨t, z1, z2⟩ => ⟨t, z1, F3 _ _ (notx (by intro _ _ _ q; cases q) z2) z2⟩⟩⟩
    -- self._rows = [..]
    have fin : ∀ D, H3 D = none → ∀ H4 S, Same H3 H4 → (∀ b, S b → Nw H3 H4 b) → Dt K S H4 (.ref D) (rowsD rs) → sFld K (tVar 0) (fun _ _ Q => Q (.ref D) H4) "_rows" { nx := fun _ H' => Q .non H', rt := Q } [some (.ref x), some (.ref da), some (.ref ra), none, none, none] H3 := fun D hD H4 S s4 nS dS => by
      refine ⟨_, rfl, x, Ct, dx, _, rfl, s4 _ _ hx3, TC.cl, TC.nR, by show 1 < 1000; decide, ?_⟩
      have nSx : ∀ b, S b → b ≠ x := fun b hb z => by
        have := (nS b hb).1
        rw [z, hx3] at this
        cases this
      have F5 : Fr (fun b => b = x) H (upd H4 x (.ins Ct dx (fsT l D))) := Fr.set (F3.trans (Fr.of s4)) rfl
      refine q _ (fun b => S b ∨ b = l) F5 (fun b hb => ?_) ⟨dx, l, D, upd_same, ?_, ?_, ?_⟩
      · rcases hb with z | z
        · refine ⟨?_, by rw [upd_ne (nSx b z)]; exact (nS b z).2⟩
          cases e : H b with
          | none => rfl
          | some o =>
            have := (nS b z).1
            rw [F3 _ _ (nSx b z) e] at this
            cases this
        · subst z
          exact ⟨nlH, by rw [upd_ne nxl.symm, s4 _ _ hl3]; simp⟩
      · refine .lst (by rw [vw_at (.inr rfl), upd_ne nxl.symm]; exact s4 _ _ hl3) ?_
        have all : ∀ (ns : List Str) {G : Hp}, TrAll G (ns.map V.str) (ns.map PyData.str) := fun ns G => by
          induction ns with
          | nil => exact .nil
          | cons x r ih => exact .cons (.str x) ih
        exact all ns
      · exact Dt.mono (dS.fr (M := fun b => b = x) (Fr.set (Fr.refl _ _) rfl) fun b hb => nSx b hb) fun b hb => .inl hb
      · rintro (z | z)
        · exact nSx x z rfl
        · exact nxl z
    refine ⟨_, rfl, ra, xs, rfl, ?_⟩
    rcases hp3.1 with z | z
    · exact .inl ⟨SqL.of z, fun D hD => rows_copy walk_list (fun H' s => SqL.of (s _ _ z)) hp3.2 (by omega) hzn hD fun H4 S s4 nS dS => fin D hD H4 S s4 nS dS⟩
    · exact .inr ⟨.inl (.inl z), fun D hD => rows_copy walk_tup (fun H' s => .inl (.inl (s _ _ z))) hp3.2 (by omega) hzn hD fun H4 S s4 nS dS => fin D hD H4 S s4 nS dS⟩
end
end K14

namespace Cr
open PySem PySem.Spec PyProof.Rows L2 Xv Builtin
section
variable {X : Cx} {k : Nat} {C g : Addr} {fd : FuncData} {sp : Sp} {ps : List Str}
/-- a method of the class, run at once, one level in -/
theorem run_in1 {pins : List (Addr × Obj)} {σ : L2.St} {H : Hp} {s : Shared} {Q : VK} {us : List Value} {vs : List V} {R : Value → Shared → Prop} {E : Value → Shared → Prop} (F : FnOk X.prog X.w X.K X.mg X.base CX0 k g fd ps sp) (hr : Room (k + 1) X.A) (hb : Binds X.K fd ps []) (I : Inv X pins σ H s) (r : Vals vs us) (h : sp vs H Q E0)
    (q : ∀ v u H' s', Inv X pins σ H' s' → RelV v u → Q v H' → R u s') : wpAny (model X.prog X.w) X.A.in1 (call (.ref g) us) R E s := by
  have hl : (us ++ []).length = ps.length := by
    rw [List.append_nil, ← r.length]
    exact F.len _ _ _ _ h
  have bb := hb s us I.kIn hl
  rw [List.append_nil] at bb
  refine wpAny_call (codeAny_mono (F.run X.A.in1 X.stack s H ⟨us, []⟩ us vs Q E0 hr.in1 I.env0.in1 bb r h) fun z s' hq => ?_)
  cases z with
  | error e => exact False.elim hq
  | ok fl =>
    cases fl with
    | ret u =>
      obtain ⟨v, H', I3, rv, q3⟩ := I.after hq
      exact q v u H' s' I3 rv q3
    | next => exact False.elim hq
    | brk => exact False.elim hq
    | cont => exact False.elim hq
/-- the same at the place itself -/
theorem run_at {pins : List (Addr × Obj)} {σ : L2.St} {H : Hp} {s : Shared} {Q : VK} {us : List Value} {vs : List V} {R : Value → Shared → Prop} {E : Value → Shared → Prop} (F : FnOk X.prog X.w X.K X.mg X.base CX0 k g fd ps sp) (hr : Room k X.A) (hb : Binds X.K fd ps []) (I : Inv X pins σ H s) (r : Vals vs us) (h : sp vs H Q E0)
    (q : ∀ v u H' s', Inv X pins σ H' s' → RelV v u → Q v H' → R u s') : wpAny (model X.prog X.w) X.A (call (.ref g) us) R E s := by
  have hl : (us ++ []).length = ps.length := by
    rw [List.append_nil, ← r.length]
    exact F.len _ _ _ _ h
  have bb := hb s us I.kIn hl
  rw [List.append_nil] at bb
  refine wpAny_call (codeAny_mono (F.run X.A X.stack s H ⟨us, []⟩ us vs Q E0 hr I.env0 bb r h) fun z s' hq => ?_)
  cases z with
  | error e => exact False.elim hq
  | ok fl =>
    cases fl with
    | ret u =>
      obtain ⟨v, H', I3, rv, q3⟩ := I.after hq
      exact q v u H' s' I3 rv q3
    | next => exact False.elim hq
    | brk => exact False.elim hq
    | cont => exact False.elim hq
/-- len(o), by an own __len__ -/
def rLenO (C : Addr) (sp : Sp) : List V → Hp → VK → Prop := fun xs H Q => ∃ a dx fs, xs = [.ref a] ∧ H a = some (.ins C dx fs) ∧ sp [.ref a] H (fun v H' => ∃ n : Int, v = .int n ∧ 0 ≤ n ∧ n < 2 ^ 63 ∧ Q (.int n) H') E0
theorem call_lenO (F : FnOk X.prog X.w X.K X.mg X.base CX0 k g fd ["self"] sp) (hr : Room (k + 1) X.A) (hb : Binds X.K fd ["self"] []) (hs : PySem.W.findIn X.K (.ref C) "__len__" = some (some (.ref g))) (hf : PySem.W.isFn X.K (.ref g) = true) : CallR X (.builtin "len") (rLenO C sp) := by
  intro pins s σ H xs us Q I r h
  obtain ⟨a, dx, fs, rfl, ea, h⟩ := h
  obtain ⟨u, rfl, ru⟩ := vals1 r
  obtain rfl : u = Value.ref a := ru
  obtain ⟨mA, O, _⟩ := ins_get I.hok ea
  obtain ⟨od, J, _⟩ := O.look
  refine Calls.call_function_entry PySem.kind_len PySem.plain_len PySem.entry_len (PySem.args_len1 _) ?_
  unfold Builtin.«len»
  refine wpAny_bind (m := oneArg "len" _) (wpAny_pure (wpAny_bind (m := callSpecial? (.ref a) (Str.ofString "__len__")) (PySem.W.special_fn I.kIn J hs (beq_iff_eq.mp hf) ?_)))
  refine run_in1 (vs := [.ref a]) F hr hb I (.cons rfl .nil) h fun v u H' s' I' rv q => ?_
  obtain ⟨n, rfl, n0, n1, q⟩ := q
  obtain ⟨t, rfl⟩ := rv
  refine wpAny_bind (wpAny_holding (wpAny_pure (wpAny_bind (wpAny_letGo ?_))))
  have e1 : ¬ n < 0 := by omega
  have e2 : ¬ n ≥ 2 ^ 63 := by omega
  show wpAny _ _ ((if n < 0 then _ else _) : Sem _) _ _ _
  rw [if_neg e1]
  show wpAny _ _ ((if n ≥ 2 ^ 63 then _ else _) : Sem _) _ _ _
  rw [if_neg e2]
  exact wpAny_bind (wpAny_mkInt (wpAny_pure ⟨_, rfl, .int n, H', I'.tok _, ⟨_, rfl⟩, q⟩))
/-- v in o, by an own __contains__ -/
def rInO (C : Addr) (sp : Sp) (neg : Bool) : R2 := fun x y H Q => ∃ a dx fs, y = .ref a ∧ H a = some (.ins C dx fs) ∧ sp [.ref a, x] H (fun v H' => ∃ b, v = .bl b ∧ Q (.bl (if neg then !b else b)) H') E0
theorem op_inO (F : FnOk X.prog X.w X.K X.mg X.base CX0 k g fd ps sp) (hr : Room k X.A) (hb : Binds X.K fd ps []) (hs : PySem.W.findIn X.K (.ref C) "__contains__" = some (some (.ref g))) (hf : PySem.W.isFn X.K (.ref g) = true) : OpR X (compareOp .In) (rInO C sp false) := by
  intro pins s σ H x y v u Q I rx ry h
  obtain ⟨a, dx, fs, rfl, ea, h⟩ := h
  obtain rfl : u = Value.ref a := ry
  obtain ⟨mA, O, _⟩ := ins_get I.hok ea
  obtain ⟨od, J, _⟩ := O.look
  unfold compareOp
  refine wpAny_bind ?_
  unfold contains
  refine wpAny_holding (wpAny_bind (wpAny_bind (J.type.here ((PySem.W.looks_findIn I.kIn hs).here ?_))))
  rw [if_neg (by simp)]
  refine wpAny_bind (PySem.W.unlessNone_K I.kIn J hs hf (run_at (vs := [.ref a, x]) F hr hb I (.cons rfl (.cons rx .nil)) h fun v u H' s' I' rv q => ?_))
  obtain ⟨b, rfl, q⟩ := q
  obtain rfl : u = Value.bool b := rv
  exact wpAny_truthy_bool (wpAny_pure ⟨.bl b, H', I', rfl, q⟩)
theorem op_notInO (F : FnOk X.prog X.w X.K X.mg X.base CX0 k g fd ps sp) (hr : Room k X.A) (hb : Binds X.K fd ps []) (hs : PySem.W.findIn X.K (.ref C) "__contains__" = some (some (.ref g))) (hf : PySem.W.isFn X.K (.ref g) = true) : OpR X (compareOp .NotIn) (rInO C sp true) := by
  intro pins s σ H x y v u Q I rx ry h
  obtain ⟨a, dx, fs, rfl, ea, h⟩ := h
  obtain rfl : u = Value.ref a := ry
  obtain ⟨mA, O, _⟩ := ins_get I.hok ea
  obtain ⟨od, J, _⟩ := O.look
  unfold compareOp
  refine wpAny_bind ?_
  unfold contains
  refine wpAny_holding (wpAny_bind (wpAny_bind (J.type.here ((PySem.W.looks_findIn I.kIn hs).here ?_))))
  rw [if_neg (by simp)]
  refine wpAny_bind (PySem.W.unlessNone_K I.kIn J hs hf (run_at (vs := [.ref a, x]) F hr hb I (.cons rfl (.cons rx .nil)) h fun v u H' s' I' rv q => ?_))
  obtain ⟨b, rfl, q⟩ := q
  obtain rfl : u = Value.bool b := rv
  exact wpAny_truthy_bool (wpAny_pure ⟨.bl (!b), H', I', rfl, q⟩)
end
end Cr


namespace K14
open PySem PySem.Spec PyProof.Rows L2 Xv Cr TL
abbrev s_thing_len : Stmt := inClass (top 31) 12
abbrev N_thing_len : List Str := ["self"]
theorem sc_thing_len : FnScope N_thing_len ["self"] (defScope s_thing_len) := ⟨rfl, rfl, rfl, by decide +kernel, rfl, by decide +kernel, by decide +kernel⟩
abbrev s_thing_has : Stmt := inClass (top 31) 13
abbrev N_thing_has : List Str := ["self", "value"]
theorem sc_thing_has : FnScope N_thing_has ["self", "value"] (defScope s_thing_has) := ⟨rfl, rfl, rfl, by decide +kernel, rfl, by decide +kernel, by decide +kernel⟩
abbrev s_thing_deeds : Stmt := inClass (top 31) 1
abbrev N_thing_deeds : List Str := ["self"]
theorem sc_thing_deeds : FnScope N_thing_deeds ["self"] (defScope s_thing_deeds) := ⟨rfl, rfl, rfl, by decide +kernel, rfl, by decide +kernel, by decide +kernel⟩
abbrev s_thing_states : Stmt := inClass (top 31) 2
abbrev N_thing_states : List Str := ["self"]
theorem sc_thing_states : FnScope N_thing_states ["self"] (defScope s_thing_states) := ⟨rfl, rfl, rfl, by decide +kernel, rfl, by decide +kernel, by decide +kernel⟩
abbrev s_is_state : Stmt := top 34
abbrev N_is_state : List Str := ["thing", "value"]
theorem sc_is_state : FnScope N_is_state ["thing", "value"] (defScope s_is_state) := ⟨rfl, rfl, rfl, by decide +kernel, rfl, by decide +kernel, by decide +kernel⟩
abbrev s_check_state : Stmt := top 35
abbrev N_check_state : List Str := ["thing", "state"]
theorem sc_check_state : FnScope N_check_state ["thing", "state"] (defScope s_check_state) := ⟨rfl, rfl, rfl, by decide +kernel, rfl, by decide +kernel, by decide +kernel⟩
abbrev s_check_deed : Stmt := top 36
abbrev N_check_deed : List Str := ["thing", "deed"]
theorem sc_check_deed : FnScope N_check_deed ["thing", "deed"] (defScope s_check_deed) := ⟨rfl, rfl, rfl, by decide +kernel, rfl, by decide +kernel, by decide +kernel⟩
/-- a method of an own class -/
structure OwnM (P : Program) (w : World) (K : PySem.W.Frag) (mg : Str → Option Value) (base : Heap) (C : Addr) (k : Nat) (m : Str) (ps : List Str) (sp : Sp) : Prop where
  ex : ∃ (g : Addr) (fd : FuncData), FnOk P w K mg base CX0 k g fd ps sp ∧ PySem.W.findIn K (.ref C) m = some (some (.ref g)) ∧ PySem.W.isFn K (.ref g) = true ∧ Binds K fd ps []
section
variable {X : Cx} {C : Addr} {k j : Nat} {ps : List Str} {sp : Sp}
theorem call_lenM (c : OwnM X.prog X.w X.K X.mg X.base C k "__len__" ["self"] sp) (hr : Room j X.A) (hk : k + 1 ≤ j) : CallR X (.builtin "len") (rLenO C sp) := by
  obtain ⟨g, fd, F, hs, hf, hb⟩ := c.ex
  exact call_lenO F (hr.mono hk) hb hs hf
theorem op_inM (c : OwnM X.prog X.w X.K X.mg X.base C k "__contains__" ps sp) (hr : Room j X.A) (hk : k ≤ j) : OpR X (compareOp .In) (rInO C sp false) := by
  obtain ⟨g, fd, F, hs, hf, hb⟩ := c.ex
  exact op_inO F (hr.mono hk) hb hs hf
theorem op_notInM (c : OwnM X.prog X.w X.K X.mg X.base C k "__contains__" ps sp) (hr : Room j X.A) (hk : k ≤ j) : OpR X (compareOp .NotIn) (rInO C sp true) := by
  obtain ⟨g, fd, F, hs, hf, hb⟩ := c.ex
  exact op_notInO F (hr.mono hk) hb hs hf
end
/-- a row of a thing, where it stands -/
def RwO (S : Addr → Prop) (H : Hp) (v : V) (r : Rw) : Prop := ∃ a es, v = .ref a ∧ S a ∧ H a = some (.lst es) ∧ Paired (fun x (e : Int × Int) => ∃ t, x = V.ref t ∧ S t ∧ H t = some (.tup [.int e.1, .int e.2])) es r
section
variable {K : PySem.W.Frag} {C : Addr} {S : Addr → Prop} {H : Hp} {x : Addr} {ns : List Str} {rs : List Rw}
theorem vw_in {b : Addr} {o : HO} (h : Vw S H b = some o) : S b ∧ H b = some o := by
  unfold Vw at h
  split at h
  · exact ⟨‹_›, h⟩
  · cases h
theorem names_op : ∀ {ns : List Str} {vs : List V} {G : Hp}, TrAll G vs (ns.map PyData.str) → vs = ns.map V.str
  | [], _, _, .nil => rfl
  | _ :: _, _, _, .cons (.str _) t => by rw [names_op t]; rfl
theorem pairs_op : ∀ {r : Rw} {vs : List V}, TrAll (Vw S H) vs (r.map fun e => .tuple [.int e.1, .int e.2]) → Paired (fun x (e : Int × Int) => ∃ t, x = V.ref t ∧ S t ∧ H t = some (.tup [.int e.1, .int e.2])) vs r
  | [], _, .nil => .nil
  | _ :: _, _, .cons (.tup h (.cons (.int _) (.cons (.int _) .nil))) t => .cons ⟨_, rfl, (vw_in h).1, (vw_in h).2⟩ (pairs_op t)
theorem rows_op : ∀ {rs : List Rw} {vs : List V}, TrAll (Vw S H) vs (rs.map rowD) → Paired (RwO S H) vs rs
  | [], _, .nil => .nil
  | _ :: _, _, .cons (.lst h q) t => .cons ⟨_, _, rfl, (vw_in h).1, (vw_in h).2, pairs_op q⟩ (rows_op t)
/-- a thing, opened -/
theorem ThAt.op (h : ThAt K C S H x ns rs) : ∃ dx l m ys, H x = some (.ins C dx (fsT l m)) ∧ S l ∧ S m ∧ ¬ S x ∧ H l = some (.lst (ns.map V.str)) ∧ H m = some (.lst ys) ∧ Paired (RwO S H) ys rs := by
  obtain ⟨dx, l, m, hx, hl, hm, nx⟩ := h
  unfold Dt namesD at hl
  unfold Dt rowsD at hm
  cases hl with
  | lst a b => cases hm with
    | lst c d => exact ⟨dx, l, m, _, hx, (vw_in a).1, (vw_in c).1, nx, by rw [(vw_in a).2, names_op b], (vw_in c).2, rows_op d⟩
theorem in_names (y : Str) (ns : List Str) : inV (V.str y) (ns.map V.str) = decide (y ∈ ns) := by
  unfold inV
  rw [List.any_map, Bool.eq_iff_iff, List.any_eq_true, decide_eq_true_iff]
  exact ⟨fun ⟨z, hz, e⟩ => by
    have : (z == y) = true := e
    rw [← eq_of_beq this]
    exact hz, fun h => ⟨y, h, by show (y == y) = true; simp⟩⟩
theorem flat_names (ns : List Str) : (ns.map V.str).all flatV = true := by
  rw [List.all_eq_true]
  intro v hv
  obtain ⟨y, _, rfl⟩ := List.mem_map.mp hv
  rfl
end
def spTLen (K : PySem.W.Frag) (C : Addr) : Sp := fun vs H Q _ => ∃ x S ns rs, vs = [.ref x] ∧ ThAt K C S H x ns rs ∧ Q (.int rs.length) H
def spTHas (K : PySem.W.Frag) (C : Addr) : Sp := fun vs H Q _ => ∃ x S ns rs y, vs = [.ref x, y] ∧ ThAt K C S H x ns rs ∧ ((∃ z, y = .str z ∧ Q (.bl (decide (z ∈ ns))) H) ∨ (∃ t, TyX K H y t ∧ PySem.W.kitOne K t (.type "str") = some false ∧ Q (.bl false) H))
def spTDeeds (K : PySem.W.Frag) (C : Addr) : Sp := fun vs H Q _ => ∃ x S ns rs, vs = [.ref x] ∧ ThAt K C S H x ns rs ∧ ∀ l, H l = none → Q (.ref l) (upd H l (.lst (ns.map V.str)))
def spIsState (K : PySem.W.Frag) (C : Addr) : Sp := fun vs H Q _ => ∃ x S ns rs i, vs = [.ref x, .int i] ∧ ThAt K C S H x ns rs ∧ rs.length ≤ 1000 ∧ Q (.bl (decide (0 ≤ i) && decide (i ≤ (rs.length : Int) - 1))) H
def spCState (K : PySem.W.Frag) (C : Addr) : Sp := fun vs H Q _ => ∃ x S ns rs i, vs = [.ref x, .int i] ∧ ThAt K C S H x ns rs ∧ rs.length ≤ 1000 ∧ (0 ≤ i ∧ i < (rs.length : Int)) ∧ Q .non H
def spCDeed (K : PySem.W.Frag) (C : Addr) : Sp := fun vs H Q _ => ∃ x S ns rs z, vs = [.ref x, .str z] ∧ ThAt K C S H x ns rs ∧ z ∈ ns ∧ Q .non H
section
variable {P : Program} {w : World} {K : PySem.W.Frag} {mg : Str → Option Value} {base : Heap} {Ct f : Addr} {fd : FuncData}
theorem ok_thing_len (F : Fun K "__len__" "Thing.__len__" s_thing_len f fd) (T : Bl mg) (C : Cn mg) (TC : ThC K Ct) : FnOk P w K mg base CX0 1 f fd ["self"] (spTLen K Ct) := by
  refine F.ok sc_thing_len (fun vs H Q E h => ?_) (fun cdv A outer s H vs Q E hr h => ?_)
  · obtain ⟨x, S, ns, rs, rfl, _⟩ := h
    rfl
  · obtain ⟨x, S, ns, rs, rfl, t, q⟩ := h
    refine ⟨_, (pss_one (ps_ret (pe_callB (id := "len") (call_ln) (by rfl) T.len (by decide +kernel) (pa_cons (pe_fld (pv 0) rfl) pa_nil)))), ?_⟩
    obtain ⟨dx, l, m, ys, hx, sl, sm, nx, hl, hm, hp⟩ := t.op
    refine ⟨_, rfl, x, Ct, dx, _, _, rfl, hx, TC.cl, TC.nR, rfl, m, ys, rfl, .inl (SqL.of hm), ?_⟩
    rw [Paired.length hp]
    exact q
theorem ok_thing_states (F : Fun K "states" "Thing.states" s_thing_states f fd) (T : Bl mg) (C : Cn mg) (TC : ThC K Ct) : FnOk P w K mg base CX0 1 f fd ["self"] (spTLen K Ct) := by
  refine F.ok sc_thing_states (fun vs H Q E h => ?_) (fun cdv A outer s H vs Q E hr h => ?_)
  · obtain ⟨x, S, ns, rs, rfl, _⟩ := h
    rfl
  · obtain ⟨x, S, ns, rs, rfl, t, q⟩ := h
    refine ⟨_, (pss_one (ps_ret (pe_callB (id := "len") (call_ln) (by rfl) T.len (by decide +kernel) (pa_cons (pe_fld (pv 0) rfl) pa_nil)))), ?_⟩
    obtain ⟨dx, l, m, ys, hx, sl, sm, nx, hl, hm, hp⟩ := t.op
    refine ⟨_, rfl, x, Ct, dx, _, _, rfl, hx, TC.cl, TC.nR, rfl, m, ys, rfl, .inl (SqL.of hm), ?_⟩
    rw [Paired.length hp]
    exact q
theorem ok_thing_deeds (F : Fun K "deeds" "Thing.deeds" s_thing_deeds f fd) (T : Bl mg) (C : Cn mg) (TC : ThC K Ct) : FnOk P w K mg base CX0 1 f fd ["self"] (spTDeeds K Ct) := by
  refine F.ok sc_thing_deeds (fun vs H Q E h => ?_) (fun cdv A outer s H vs Q E hr h => ?_)
  · obtain ⟨x, S, ns, rs, rfl, _⟩ := h
    rfl
  · obtain ⟨x, S, ns, rs, rfl, t, q⟩ := h
    refine ⟨_, (pss_one (ps_ret (pe_callTy (T := "list") call_list_of (by rfl) T.list (by decide +kernel) (pa_cons (pe_fld (pv 0) rfl) pa_nil)))), ?_⟩
    obtain ⟨dx, l, m, ys, hx, sl, sm, nx, hl, hm, hp⟩ := t.op
    exact ⟨_, rfl, x, Ct, dx, _, _, rfl, hx, TC.cl, TC.nD, rfl, l, _, rfl, .inl (SqL.of hl), q⟩
theorem ok_thing_has (F : Fun K "__contains__" "Thing.__contains__" s_thing_has f fd) (T : Bl mg) (C : Cn mg) (TC : ThC K Ct) : FnOk P w K mg base CX0 1 f fd ["self", "value"] (spTHas K Ct) := by
  refine F.ok sc_thing_has (fun vs H Q E h => ?_) (fun cdv A outer s H vs Q E hr h => ?_)
  · obtain ⟨x, S, ns, rs, y, rfl, _⟩ := h
    rfl
  · obtain ⟨x, S, ns, rs, y, rfl, t, q⟩ := h
    refine ⟨_, (pss_one (ps_ret (pe_and (pe_callB (id := "isinstance") call_isi (by rfl) T.isinstance (by decide +kernel) (pa_cons (pv 1) (pa_cons (pe_bltn (v := .ty "str") (by rfl) T.str (by decide +kernel) rfl) pa_nil))) (pe_one (pe_cmpR op_in_seq (pv 1) (pe_fld (pv 0) rfl) (by rfl)))))), ?_⟩
    obtain ⟨dx, l, m, ys, hx, sl, sm, nx, hl, hm, hp⟩ := t.op
    rcases q with ⟨z, rfl, q⟩ | ⟨u, hu, hk, q⟩
    · refine ⟨_, rfl, _, _, _, _, _, rfl, .ty _, .base (.str z), kit_ty (r := true) (by kernel_rfl), true, rfl, ite2 (fun _ => ?_) (fun z => absurd rfl z)⟩
      refine ⟨_, rfl, _, rfl, x, Ct, dx, _, _, rfl, hx, TC.cl, TC.nD, rfl, l, _, rfl, .inl (SqL.of hl), rfl, flat_names ns, ?_⟩
      rw [in_names]
      exact q
    · exact ⟨_, rfl, _, _, _, _, _, rfl, .ty _, hu, hk, false, rfl, ite2 (fun z => nomatch z) (fun _ => q)⟩
theorem ok_is_state (F : Fun K "is_state" "is_state" s_is_state f fd) (T : Bl mg) (C : Cn mg) (TC : ThC K Ct) (c_is_integer_from : Cl P w K mg base 2 "is_integer_from" spIntF) (c_len : OwnM P w K mg base Ct 1 "__len__" ["self"] (spTLen K Ct)) : FnOk P w K mg base CX0 3 f fd ["thing", "value"] (spIsState K Ct) := by
  refine F.ok sc_is_state (fun vs H Q E h => ?_) (fun cdv A outer s H vs Q E hr h => ?_)
  · obtain ⟨x, S, ns, rs, i, rfl, _⟩ := h
    rfl
  · obtain ⟨x, S, ns, rs, i, rfl, t, hn, q⟩ := h
    refine ⟨_, (pss_one (ps_ret (pe_cl c_is_integer_from hr (by decide) (by rfl) (pa_cons (pv 1) (pa_cons pe_int (pa_cons (pe_op op_sub (pe_callB (id := "len") (call_lenM c_len hr (by decide)) (by rfl) T.len (by decide +kernel) (pa_cons (pv 0) pa_nil)) pe_int) pa_nil)))))), ?_⟩
    obtain ⟨dx, l, m, ys, hx, _⟩ := t.op
    exact ⟨_, rfl, _, rfl, x, dx, _, rfl, hx, ⟨x, S, ns, rs, rfl, t, (rs.length : Int), rfl, by omega, by omega, ⟨_, _, rfl, rfl, i, 0, (rs.length : Int) - 1, rfl, q⟩⟩⟩
theorem ok_check_state (F : Fun K "check_state" "check_state" s_check_state f fd) (T : Bl mg) (C : Cn mg) (TC : ThC K Ct) (c_is_state : Cl P w K mg base 3 "is_state" (spIsState K Ct)) : FnOk P w K mg base CX0 4 f fd ["thing", "state"] (spCState K Ct) := by
  refine F.ok sc_check_state (fun vs H Q E h => ?_) (fun cdv A outer s H vs Q E hr h => ?_)
  · obtain ⟨x, S, ns, rs, i, rfl, _⟩ := h
    rfl
  · obtain ⟨x, S, ns, rs, i, rfl, t, hn, hi, q⟩ := h
    refine ⟨_, (pss_one (ps_if (pt_not (pt_val (pe_cl c_is_state hr (by decide) (by rfl) (pa_cons (pv 0) (pa_cons (pv 1) pa_nil))))) (pss_one ps_never) pss_nil)), ?_⟩
    refine ⟨_, rfl, _, rfl, x, S, ns, rs, i, rfl, t, hn, _, rfl, ite2 (fun z => ?_) (fun _ => q)⟩
    rw [decide_eq_true hi.1, decide_eq_true (show i ≤ (rs.length : Int) - 1 by omega)] at z
    cases z
theorem ok_check_deed (F : Fun K "check_deed" "check_deed" s_check_deed f fd) (T : Bl mg) (C : Cn mg) (TC : ThC K Ct) (c_has : OwnM P w K mg base Ct 1 "__contains__" ["self", "value"] (spTHas K Ct)) : FnOk P w K mg base CX0 2 f fd ["thing", "deed"] (spCDeed K Ct) := by
  refine F.ok sc_check_deed (fun vs H Q E h => ?_) (fun cdv A outer s H vs Q E hr h => ?_)
  · obtain ⟨x, S, ns, rs, z, rfl, _⟩ := h
    rfl
  · obtain ⟨x, S, ns, rs, z, rfl, t, hz, q⟩ := h
    refine ⟨_, (pss_one (ps_if (pt_cmpR (op_notInM c_has hr (by decide)) (pv 1) (pv 0) (by rfl)) (pss_one ps_never) pss_nil)), ?_⟩
    obtain ⟨dx, l, m, ys, hx, _⟩ := t.op
    refine ⟨_, rfl, _, rfl, x, dx, _, rfl, hx, x, S, ns, rs, .str z, rfl, t, .inl ⟨z, rfl, _, rfl, _, rfl, ite2 (fun b => ?_) (fun _ => q)⟩⟩
    rw [decide_eq_true hz] at b
    cases b
end
end K14


namespace K14
open PySem PySem.Spec PyProof.Rows L2 Xv Cr TL
abbrev s_thing_rows : Stmt := inClass (top 31) 3
abbrev N_thing_rows : List Str := ["self", "row"]
theorem sc_thing_rows : FnScope N_thing_rows ["self"] (defScope s_thing_rows) := ⟨rfl, rfl, rfl, by decide +kernel, rfl, by decide +kernel, by decide +kernel⟩
def rLs (K : PySem.W.Frag) : List V → Hp → VK → Prop := fun xs H Q => ∃ p ys, xs = [.ref p] ∧ (SqL K H p ys ∨ SqT K H p ys) ∧ ∀ l, H l = none → Q (.ref l) (upd H l (.lst ys))
theorem call_ls {X : Cx} : CallR X (.type "list") (rLs X.K) := call_list_of
/-- a new list of the tuples of a row, these in S -/
def NwR (S : Addr → Prop) (H : Hp) (l : Addr) (r : Rw) : Prop := ∃ es, H l = some (.lst es) ∧ Paired (fun x (e : Int × Int) => ∃ t, x = V.ref t ∧ S t ∧ H t = some (.tup [.int e.1, .int e.2])) es r
theorem NwR.same {S : Addr → Prop} {H H' : Hp} {l : Addr} {r : Rw} (h : NwR S H l r) (s : Fr (fun b => b = D) H H') (n : l ≠ D) (nS : ¬ S D) : NwR S H' l r := by
  obtain ⟨es, h1, h2⟩ := h
  refine ⟨es, s _ _ n h1, Paired.mapP h2 fun x e ⟨t, z1, z2, z3⟩ => ⟨t, z1, z2, s _ _ (fun q => nS (q ▸ z2)) z3⟩⟩
theorem NwR.mono {S : Addr → Prop} {H H' : Hp} {l : Addr} {r : Rw} (h : NwR S H l r) (s : Same H H') : NwR S H' l r := by
  obtain ⟨es, h1, h2⟩ := h
  exact ⟨es, s _ _ h1, Paired.mapP h2 fun x e ⟨t, z1, z2, z3⟩ => ⟨t, z1, z2, s _ _ z3⟩⟩
/-- the lists of rows, as data -/
theorem nw_data {K : PySem.W.Frag} {S T : Addr → Prop} {H : Hp} {D : Addr} {ls : List Addr} {rs : List Rw} (hD : H D = some (.lst (ls.map V.ref))) (hp : Paired (NwR S H) ls rs) (tS : ∀ b, S b → T b) (tD : T D) (tl : ∀ l ∈ ls, T l) : Dt K T H (.ref D) (rowsD rs) := by
  refine .lst (by rw [vw_at tD]; exact hD) ?_
  have one : ∀ {es : List V} {r : Rw}, Paired (fun x (e : Int × Int) => ∃ t, x = V.ref t ∧ S t ∧ H t = some (.tup [.int e.1, .int e.2])) es r → TrAll (Vw T H) es (r.map fun e => .tuple [.int e.1, .int e.2]) := fun {es r} q => by
    induction q with
    | nil => exact .nil
    | cons h _ ih =>
      obtain ⟨t, rfl, h2, h3⟩ := h
      exact .cons (.tup (by rw [vw_at (tS _ h2)]; exact h3) (.cons (.int _) (.cons (.int _) .nil))) ih
  have all : ∀ {us : List Addr} {q : List Rw}, (∀ l ∈ us, T l) → Paired (NwR S H) us q → TrAll (Vw T H) (us.map V.ref) (q.map rowD) := fun {us q} hm hq => by
    induction hq with
    | nil => exact .nil
    | cons h _ ih =>
      obtain ⟨es, h1, h2⟩ := h
      exact .cons (.lst (by rw [vw_at (hm _ List.mem_cons_self)]; exact h1) (one h2)) (ih fun l hl => hm l (List.mem_cons_of_mem _ hl))
  exact all tl hp
def spTRows (K : PySem.W.Frag) (C : Addr) : Sp := fun vs H Q _ => ∃ x S ns rs, vs = [.ref x] ∧ ThAt K C S H x ns rs ∧ rs.length ≤ 1000 ∧
  ∀ H' D ls, Same H H' → H D = none → H' D = some (.lst (ls.map V.ref)) → (∀ l ∈ ls, H l = none ∧ l ≠ D) → Paired (NwR S H') ls rs → Q (.ref D) H'
section
variable {P : Program} {w : World} {K : PySem.W.Frag} {mg : Str → Option Value} {base : Heap} {Ct f : Addr} {fd : FuncData}
theorem ok_thing_rows (F : Fun K "rows" "Thing.rows" s_thing_rows f fd) (T : Bl mg) (C : Cn mg) (TC : ThC K Ct) : FnOk P w K mg base CX0 1 f fd ["self"] (spTRows K Ct) := by
  refine F.ok sc_thing_rows (fun vs H Q E h => ?_) (fun cdv A outer s H vs Q E hr h => ?_)
  · obtain ⟨x, S, ns, rs, rfl, _⟩ := h
    rfl
  · obtain ⟨x, S, ns, rs, rfl, t, hn, q⟩ := h
    refine ⟨_, (pss_one (ps_ret (pe_lc (own := [("row", 1)]) (g := gName 1) (tt := tYes) (te := tCB (rLs K) (tCons (tVar 1) tNil)) rfl sc_thing_rows.nd (pi_seq (pe_fld (pv 0) rfl)) (blkOk_by (N := N_thing_rows) (sc := defScope s_thing_rows) (by decide +kernel)) (fun _ _ _ _ _ => (pg_name (i := 1) sc_thing_rows.nd rfl (Or.inl rfl))) (fun _ _ _ _ _ => pts_nil) (fun _ _ _ _ _ => (pe_callTy (T := "list") call_ls (by rfl) T.list (by decide +kernel) (pa_cons (pv 1) pa_nil)))))), ?_⟩
    obtain ⟨dx, l, m, ys, hx, sl, sm, nx, hl, hm, hp⟩ := t.op
    have hlen : ys.length = rs.length := Paired.length hp
    refine ⟨_, rfl, x, Ct, dx, _, _, rfl, hx, TC.cl, TC.nR, rfl, m, ys, rfl, .inl ⟨SqL.of hm, fun D hD => ?_⟩⟩
    have nSD : ∀ {b : Addr} {o : HO}, H b = some o → b ≠ D := fun h => ne_of_none h hD
    refine lc_it walk_list (fun i H' => ∃ ls : List Addr, ls.length = i ∧ H' D = some (.lst (ls.map V.ref)) ∧ Same H H' ∧ (∀ l ∈ ls, H l = none ∧ l ≠ D) ∧ Paired (NwR S H') ls (rs.take i))
      ⟨[], rfl, upd_same, same_upd hD, by simp, .nil⟩ (fun i H' _ ⟨_, _, _, s, _⟩ => SqL.of (s _ _ hm)) (fun i v H' H'' hi e y => ?_) (fun H' e => ?_)
    · obtain ⟨rfl, hv⟩ := y
      obtain ⟨ls, e1, e2, e3, e4, e5⟩ := e
      obtain ⟨r, hr', a, es, rfl, sa, ha, hps⟩ := Xv.paired_get hp hv
      refine ⟨rfl, ?_⟩
      unfold tYes
      dsimp only
      rw [if_pos rfl]
      refine ⟨_, rfl, a, es, rfl, .inl (SqL.of (e3 _ _ ha)), fun b nb => ?_⟩
      have nbD : D ≠ b := ne_of_none e2 nb
      have nbH : H b = none := e3.free nb
      have hps' : Paired (fun x (e : Int × Int) => ∃ t, x = V.ref t ∧ S t ∧ H t = some (.tup [.int e.1, .int e.2])) es r := hps
      have up : Same H (upd (upd H'' b (.lst es)) D (.lst (ls.map V.ref ++ [V.ref b]))) := fun c o z => by
        rw [upd_ne (nSD z), upd_ne (ne_of_none z nbH)]
        exact e3 _ _ z
      refine ⟨_, by rw [upd_ne nbD]; exact e2, by rw [List.length_map, sizeLine_eq]; omega, ls ++ [b], by rw [List.length_append, e1]; rfl, by rw [upd_same, List.map_append]; rfl, up, fun c hc => ?_, ?_⟩
      · rcases List.mem_append.mp hc with z | z
        · exact e4 c z
        · rw [List.mem_singleton.mp z]
          exact ⟨nbH, nbD.symm⟩
      · rw [Xv.take_step hr']
        refine pr_app (pr_map e5 fun c q hc d => ?_) (.cons ⟨es, by rw [upd_ne nbD.symm, upd_same], Paired.mapP hps' fun x e ⟨t, z1, z2, z3⟩ => ⟨t, z1, z2, up _ _ z3⟩⟩ .nil)
        obtain ⟨es', h1, h2⟩ := d
        have keep : ∀ {c : Addr} {o : HO}, c ≠ D → H'' c = some o → upd (upd H'' b (.lst es)) D (.lst (ls.map V.ref ++ [V.ref b])) c = some o := fun {c o} n z => by
          rw [upd_ne n, upd_ne (ne_of_none z nb)]
          exact z
        refine ⟨es', keep (e4 c hc).2 h1, Paired.mapP h2 fun x e ⟨t, z1, z2, z3⟩ => ⟨t, z1, z2, keep (fun z => ?_) z3⟩⟩
        rw [z, e2] at z3
        cases z3
    · obtain ⟨ls, e1, e2, e3, e4, e5⟩ := e
      rw [hlen, List.take_length] at e5
      exact q H' D ls e3 hD e2 e4 e5
end
end K14


namespace K14
open PySem PySem.Spec PyProof.Rows L2 Xv Cr TL
abbrev s_entry_at : Stmt := top 33
abbrev N_entry_at : List Str := ["thing", "state", "deed"]
theorem sc_entry_at : FnScope N_entry_at ["thing", "state", "deed"] (defScope s_entry_at) := ⟨rfl, rfl, rfl, by decide +kernel, rfl, by decide +kernel, by decide +kernel⟩
abbrev s_thing_call : Stmt := inClass (top 31) 4
abbrev N_thing_call : List Str := ["self", "state", "deed"]
theorem sc_thing_call : FnScope N_thing_call ["self", "state", "deed"] (defScope s_thing_call) := ⟨rfl, rfl, rfl, by decide +kernel, rfl, by decide +kernel, by decide +kernel⟩
abbrev s_check_word : Stmt := top 37
abbrev N_check_word : List Str := ["thing", "word", "place", "deed"]
theorem sc_check_word : FnScope N_check_word ["thing", "word"] (defScope s_check_word) := ⟨rfl, rfl, rfl, by decide +kernel, rfl, by decide +kernel, by decide +kernel⟩
section
variable {K : PySem.W.Frag} {C : Addr} {S : Addr → Prop} {H H' : Hp} {x : Addr} {ns : List Str} {rs : List Rw}
theorem ThAt.same (h : ThAt K C S H x ns rs) (s : Same H H') : ThAt K C S H' x ns rs := by
  obtain ⟨dx, l, m, hx, hl, hm, nx⟩ := h
  exact ⟨dx, l, m, s _ _ hx, hl.keep s, hm.keep s, nx⟩
theorem ThAt.fr {M : Addr → Prop} (h : ThAt K C S H x ns rs) (f : Fr M H H') (nS : ∀ b, S b → ¬ M b) (nx : ¬ M x) : ThAt K C S H' x ns rs := by
  obtain ⟨dx, l, m, hx, hl, hm, n⟩ := h
  exact ⟨dx, l, m, f _ _ nx hx, hl.fr f nS, hm.fr f nS, n⟩
end
def spTCall (K : PySem.W.Frag) (C : Addr) : Sp := fun vs H Q _ => ∃ (x : Addr) (S : Addr → Prop) (ns : List Str) (rs : List Rw) (i : Nat) (z : Str) (r : Rw) (j : Nat) (e : Int × Int), vs = [.ref x, .int i, .str z] ∧ ThAt K C S H x ns rs ∧ rs.length ≤ 1000 ∧ rs[i]? = some r ∧ ns[j]? = some z ∧ ns.Nodup ∧ r[j]? = some e ∧
  ∀ t, S t → H t = some (.tup [.int e.1, .int e.2]) → Q (.ref t) H
def spCWord (K : PySem.W.Frag) (C : Addr) : Sp := fun vs H Q _ => ∃ (x : Addr) (S : Addr → Prop) (ns : List Str) (rs : List Rw) (a : Addr) (zs : List Str), vs = [.ref x, .ref a] ∧ ThAt K C S H x ns rs ∧ LT H a (zs.map V.str) ∧ zs.length ≤ 1000 ∧ (∀ z ∈ zs, z ∈ ns) ∧ ∀ H', Same H H' → Q .non H'
theorem nodup_at : ∀ {l : List Str}, l.Nodup → ∀ {i j : Nat} {z : Str}, l[i]? = some z → l[j]? = some z → i = j
  | [], _, _, _, _, h, _ => by simp at h
  | y :: l, n, 0, 0, _, _, _ => rfl
  | y :: l, n, 0, j + 1, z, h1, h2 => by
    rw [List.getElem?_cons_zero] at h1
    rw [List.getElem?_cons_succ] at h2
    cases h1
    exact absurd (List.mem_of_getElem? h2) (List.nodup_cons.mp n).1
  | y :: l, n, i + 1, 0, z, h1, h2 => by
    rw [List.getElem?_cons_zero] at h2
    rw [List.getElem?_cons_succ] at h1
    cases h2
    exact absurd (List.mem_of_getElem? h1) (List.nodup_cons.mp n).1
  | y :: l, n, i + 1, j + 1, z, h1, h2 => by
    rw [List.getElem?_cons_succ] at h1 h2
    rw [nodup_at (List.nodup_cons.mp n).2 h1 h2]
theorem paired_at {α β : Type} {F : α → β → Prop} : ∀ {a : List α} {b : List β}, Paired F a b → ∀ {i : Nat} {y : β}, b[i]? = some y → ∃ x, a[i]? = some x ∧ F x y
  | _, _, .nil, i, _, h => by simp at h
  | _, _, .cons h t, 0, y, e => by
    rw [List.getElem?_cons_zero] at e
    cases e
    exact ⟨_, rfl, h⟩
  | _, _, .cons h t, i + 1, y, e => by
    rw [List.getElem?_cons_succ] at e
    obtain ⟨x, hx, q⟩ := paired_at t e
    exact ⟨x, hx, q⟩
theorem word_for {K : PySem.W.Frag} {C : Addr} {J : It} {G : Hp → Prop} {x a : Addr} {S : Addr → Prop} {ns zs : List Str} {rs : List Rw} {H1 : Hp} {D : Ends} {u2 u3 : Option V} (W : Walk J (zs.map V.str).length G (YPair (fun i => some (.int (i : Nat))) (fun i => (zs.map V.str)[i]?))) (hG : ∀ H', Same H1 H' → G H')
    (t : ThAt K C S H1 x ns rs) (hz : ∀ z ∈ zs, z ∈ ns) (hd : ∀ σ H', Same H1 H' → D.nx σ H') :
    ∃ W : Nat → Nat → L2.St → Hp → Prop, (∃ m, W 0 m [some (.ref x), some (.ref a), u2, u3] H1) ∧ ∀ i m σ H, W i m σ H →
      (J.stop i H ∧ D.nx σ H) ∨ (J.go i H ∧ ∃ N : L2.St → Hp → Prop, (∀ σ' H', N σ' H' → ∃ m', m' < m ∧ W (i + 1) m' σ' H') ∧ ∀ v H', J.yld i H v H' → gTup K 2 (gCons (gName 2) (gCons (gName 3) gNil)) v σ H' fun σ2 H2 =>
        tIfS (tTest (tOp (rInO C (spTHas K C) true) (tVar 3) (tVar 0))) tNever tNext { D with nx := N, ct := N, bk := D.nx } σ2 H2) := by
  refine for_it W (fun i σ H' => ∃ u2 u3, σ = [some (.ref x), some (.ref a), u2, u3] ∧ Same H1 H') ⟨_, _, rfl, Same.refl _⟩ (fun i σ H' _ ⟨_, _, _, s'⟩ => hG H' s') ?_ (fun σ H' ⟨_, _, _, s'⟩ => hd σ H' s')
  rintro i v σ H2 H3 hi ⟨u2, u3, rfl, s2⟩ ⟨tt, x1, x2, rfl, nt, rfl, e1, e2⟩
  cases e1
  replace e2 : (zs.map V.str)[i]? = some x2 := e2
  obtain ⟨y, hy, rfl⟩ : ∃ y, zs[i]? = some y ∧ x2 = V.str y := by
    rw [List.getElem?_map] at e2
    cases e : zs[i]? with
    | none => rw [e] at e2; cases e2
    | some y => rw [e] at e2; exact ⟨y, rfl, (Option.some.inj e2).symm⟩
  have s3 := s2.trans (same_upd (o := HO.tup [V.int (i : Nat), V.str y]) nt)
  have t3 := t.same s3
  obtain ⟨dx, l, m, ys, hx, _⟩ := t3.op
  refine ⟨tt, _, rfl, .inl (.inl upd_same), rfl, _, _, rfl, _, _, rfl, ⟨rfl, ?_⟩⟩
  refine ⟨_, rfl, _, rfl, x, dx, _, rfl, hx, x, S, ns, rs, .str y, rfl, t3, .inl ⟨y, rfl, _, rfl, _, rfl, ite2 (fun b => ?_) (fun _ => ⟨_, _, rfl, s3⟩)⟩⟩
  rw [decide_eq_true (hz y (List.mem_of_getElem? hy))] at b
  cases b
section
variable {P : Program} {w : World} {K : PySem.W.Frag} {mg : Str → Option Value} {base : Heap} {Ct f : Addr} {fd : FuncData}
theorem ok_entry_at (F : Fun K "entry_at" "entry_at" s_entry_at f fd) (T : Bl mg) (C : Cn mg) (TC : ThC K Ct) (c_check_state : Cl P w K mg base 4 "check_state" (spCState K Ct)) (c_check_deed : Cl P w K mg base 2 "check_deed" (spCDeed K Ct)) : FnOk P w K mg base CX0 5 f fd ["thing", "state", "deed"] (spTCall K Ct) := by
  refine F.ok sc_entry_at (fun vs H Q E h => ?_) (fun cdv A outer s H vs Q E hr h => ?_)
  · obtain ⟨x, S, ns, rs, i, z, r, j, e, rfl, _⟩ := h
    rfl
  · obtain ⟨x, S, ns, rs, i, z, r, j, e, rfl, t, hn, hi, hj, nd, he, q⟩ := h
    refine ⟨_, (pss_cons (ps_expr (pe_cl c_check_state hr (by decide) (by rfl) (pa_cons (pv 0) (pa_cons (pv 1) pa_nil))))
  (pss_cons (ps_expr (pe_cl c_check_deed hr (by decide) (by rfl) (pa_cons (pv 0) (pa_cons (pv 2) pa_nil))))
  (pss_one (ps_ret (pe_ix ix_list (pe_ix ix_list (pe_fld (pv 0) rfl) (pv 1) (fun _ _ => rfl)) (pe_bm PySem.F.plainAttrs_list PySem.F.slot_list_index PySem.F.type_list_index mt_index (pe_fld (pv 0) rfl) (pa_cons (pv 2) pa_nil)) (fun _ _ => rfl)))))), ?_⟩
    have hlt := (List.getElem?_eq_some_iff.mp hi).1
    refine ⟨_, rfl, _, rfl, x, S, ns, rs, _, rfl, t, hn, ⟨by omega, by omega⟩, ?_⟩
    refine ⟨_, rfl, _, rfl, x, S, ns, rs, _, rfl, t, List.mem_of_getElem? hj, ?_⟩
    obtain ⟨dx, l, m, ys, hx, sl, sm, nx, hl, hm, hp⟩ := t.op
    obtain ⟨v, hv, a, es, rfl, sa, ha, hps⟩ := paired_at hp hi
    obtain ⟨v2, hv2, tt, rfl, st, ht⟩ := paired_at hps he
    refine ⟨_, rfl, x, Ct, dx, _, _, rfl, hx, TC.cl, TC.nR, rfl, _, rfl, m, ys, _, _, rfl, rfl, SqL.of hm, at_i hv, ?_⟩
    refine ⟨_, rfl, x, Ct, dx, _, _, rfl, hx, TC.cl, TC.nD, rfl, .inl ⟨rfl, _, SqL.of hl⟩, _, rfl, l, _, _, j, .str z, rfl, rfl, SqL.of hl, rfl, flat_names ns, by rw [List.getElem?_map, hj]; rfl, by show (z == z) = true; simp, fun k z' hk hz' => ?_, ?_⟩
    · rw [List.getElem?_map] at hz'
      cases e1 : ns[k]? with
      | none => rw [e1] at hz'; cases hz'
      | some y =>
        rw [e1] at hz'
        cases hz'
        show (y == z) = false
        rw [beq_eq_false_iff_ne]
        intro h
        subst h
        have := nodup_at nd e1 hj
        omega
    · exact ⟨_, _, _, _, rfl, rfl, SqL.of ha, at_i hv2, q tt st ht⟩
theorem ok_thing_call (F : Fun K "__call__" "Thing.__call__" s_thing_call f fd) (c_entry_at : Cl P w K mg base 5 "entry_at" (spTCall K Ct)) : FnOk P w K mg base CX0 6 f fd ["self", "state", "deed"] (spTCall K Ct) := by
  refine F.ok sc_thing_call (fun vs H Q E h => ?_) (fun cdv A outer s H vs Q E hr h => ?_)
  · obtain ⟨x, S, ns, rs, i, z, r, j, e, rfl, _⟩ := h
    rfl
  · obtain ⟨x, S, ns, rs, i, z, r, j, e, rfl, h⟩ := h
    refine ⟨_, (pss_one (ps_ret (pe_cl c_entry_at hr (by decide) (by rfl) (pa_cons (pv 0) (pa_cons (pv 1) (pa_cons (pv 2) pa_nil)))))), ?_⟩
    exact ⟨_, rfl, _, rfl, _, rfl, x, S, ns, rs, i, z, r, j, e, rfl, h⟩
theorem ok_check_word (F : Fun K "check_word" "check_word" s_check_word f fd) (T : Bl mg) (C : Cn mg) (TC : ThC K Ct) (c_is_list : Cl P w K mg base 1 "is_list" spIsList) (c_has : OwnM P w K mg base Ct 1 "__contains__" ["self", "value"] (spTHas K Ct)) : FnOk P w K mg base CX0 2 f fd ["thing", "word"] (spCWord K Ct) := by
  refine F.ok sc_check_word (fun vs H Q E h => ?_) (fun cdv A outer s H vs Q E hr h => ?_)
  · obtain ⟨x, S, ns, rs, a, zs, rfl, _⟩ := h
    rfl
  · obtain ⟨x, S, ns, rs, a, zs, rfl, t, ha, hn, hz, q⟩ := h
    refine ⟨_, (pss_cons (ps_if (pt_not (pt_val (pe_cl c_is_list hr (by decide) (by rfl) (pa_cons (pv 1) pa_nil)))) (pss_one ps_never) pss_nil)
  (pss_one (ps_for PassesOwn.never rfl (pi_enum2 rfl T.enumerate (pa_cons (pv 1) pa_nil)) (pg_tup rfl (pgs_cons (pg_name (i := 2) sc_check_word.nd rfl (Or.inl rfl)) (pgs_cons (pg_name (i := 3) sc_check_word.nd rfl (Or.inl rfl)) pgs_nil)))
  (pss_one (ps_if (pt_cmpR (op_notInM c_has hr (by decide)) (pv 3) (pv 0) (by rfl)) (pss_one ps_never) pss_nil))))), ?_⟩
    refine ⟨_, rfl, a, _, rfl, ha, fun H1 s1 => ⟨true, rfl, ite2 (fun z => nomatch z) (fun _ => ?_)⟩⟩
    refine ⟨_, rfl, a, zs.map V.str, rfl, ?_⟩
    have t1 := t.same s1
    rcases ha.same s1 with z | z
    · exact .inl ⟨SqL.of z, word_for walk_enum (fun H' s => SqL.of (s _ _ z)) t1 hz fun σ H' s => q H' (s1.trans s)⟩
    · exact .inr ⟨.inl (.inl z), word_for walk_enumT (fun H' s => .inl (.inl (s _ _ z))) t1 hz fun σ H' s => q H' (s1.trans s)⟩
end
end K14


namespace K14
open PySem PySem.Spec PyProof.Rows L2 Xv Cr TL
abbrev s_thing_run : Stmt := inClass (top 31) 5
abbrev N_thing_run : List Str := ["self", "state", "word", "places", "place", "deed", "answers", "at", "answer"]
theorem sc_thing_run : FnScope N_thing_run ["self", "state", "word"] (defScope s_thing_run) := ⟨rfl, rfl, rfl, by decide +kernel, rfl, by decide +kernel, by decide +kernel⟩
section
variable {X : Cx} {i : Nat} {y : Str} {py pos spos : Pos} {kx vx tg iter : Expr} {ifs : List Expr} {scope : Scope} {own : List (Str × Nat)} {wi : TI} {g : TG} {tt : TT} {tk tv : TE}
theorem sw_dc {gs : List Comprehension} {l : Nat} {env : Env} (a : env.scope.kind = .function) (b : env.scope.names.lookup y = some .local) (c : (py.line == pos.line) = true) (d : (scope.names.any fun (n, k) => n == y && (k == .local || k == .cell)) = false) :
    swapsWith (.DictComp kx vx gs scope pos) (some (.Name y py)) l env = pure true := by
  have h1 : env.kindOf y = some .local := b
  have h2 : env.blockKind = .function := by
    unfold Env.blockKind
    rw [a]
    rfl
  unfold swapsWith
  simp only [h1, h2, c, d, Expr.pos]
  rfl
/-- a name := a dict comprehension, on one line, the name a local -/
theorem ps_dcTo (calm : X.calm = true) (nd : X.N.Nodup) (ny : X.N[i]? = some y) (ly : X.env.scope.names.lookup y = some .local) (sw : swapsWith (.DictComp kx vx [⟨tg, iter, ifs, 0⟩] scope pos) (some (.Name y py)) spos.line X.env = pure true) (wI : PI X tg iter wi) (bok : BlkOk X.N X.env.scope scope own)
    (wg : ∀ (s : Shared) (H : Hp) (C : Addr) (cl : List (Str × Addr)) (fp : List Addr), PG (X.blk s H scope (compEnvC scope cl C X.env) fp) tg g) (wt : ∀ (s : Shared) (H : Hp) (C : Addr) (cl : List (Str × Addr)) (fp : List Addr), PTs (X.blk s H scope (compEnvC scope cl C X.env) fp) ifs tt)
    (wk : ∀ (s : Shared) (H : Hp) (C : Addr) (cl : List (Str × Addr)) (fp : List Addr), PE (X.blk s H scope (compEnvC scope cl C X.env) fp) kx tk) (wv : ∀ (s : Shared) (H : Hp) (C : Addr) (cl : List (Str × Addr)) (fp : List Addr), PE (X.blk s H scope (compEnvC scope cl C X.env) fp) vx tv)
    (fs : ∀ x, foldedSetIterable iter X.env x = pure x := by intro _; rfl) : PS X (.Assign [.Name y py] (.DictComp kx vx [⟨tg, iter, ifs, 0⟩] scope pos) spos) (tAsg (tDc wi g tt tk tv (own.map (·.2))) (gName i)) := by
  constructor
  intro pins s σ H Z J0 red
  rw [exec_Assign_Name_used _ _ _ _ sw]
  apply wpAny_bind
  apply wpAny_standAt
  apply wpAny_bind
  show wpAny _ X.A (do let _ ← comprehension (.DictComp kx vx [⟨tg, iter, ifs, 0⟩] scope pos) scope X.env (firstIterPos [⟨tg, iter, ifs, 0⟩] pos) newDict false (eval iter X.env) (some (assign (.Name y py) X.env))) _ _ s
  replace red : tDc wi g tt tk tv (own.map (·.2)) σ H (fun x G => gName i x σ G Z.nx) := red
  apply wpAny_bind
  refine thn (dc_core (Qf := fun _ r => SP X pins Z .next r) calm nd J0 wI bok wg wt wk wv fs red ?_) (fun _ _ z => wpAny_pure (wpAny_pure z))
  intro D F r m G J1 z nsp ok
  show wpAny _ _ (assign (.Name y py) X.env (.ref D)) _ _ _
  obtain ⟨f0, f1, f2, f3, f4, f5⟩ := ok
  apply wpAny_assign_Name
  refine store_ok2 (v := V.ref D) J1 nd ny (.inl ly) rfl ?_ (.inr ly)
  intro r2 J2 ⟨b, sb, hb⟩
  have nb : F ≠ b := hb.elim (fun e q => f1 (q.trans e)) (fun e q => f4 y b e q.symm)
  exact ⟨m, nsp.sameBut sb nb, fun h3 sb3 => ⟨_, G, J2.turned (t' := r2.toks) (fun c o n e => (sb3.2 c n).trans e) f0 f1 f3 f4 f5, z⟩⟩
end
/-- a dict comprehension over any walk -/
theorem dc_walk {J : It} {n : Nat} {G : Hp → Prop} {Y : Nat → Hp → V → Hp → Prop} (w : Walk J n G Y) {g : TG} {tt : TT} {tk tv : TE} {vs : List Nat} {σ : L2.St} {H1 : Hp} {D : Addr} {Qd : Hp → Prop} (I : Nat → Hp → Prop) (i0 : I 0 (upd H1 D (.dK []))) (iG : ∀ i H, i ≤ n → I i H → G H)
    (step : ∀ i x H H', i < n → I i H → Y i H x H' → g x (wipe σ vs) H' fun σ2 H2 => wipe σ2 vs = wipe σ vs ∧ tt σ2 H2 fun b H3 => if b = true then tk σ2 H3 fun y H4 => tv σ2 H4 fun z H5 => ∃ kvs k, y = kV k ∧ H5 D = some (.dK kvs) ∧ kvs.length < sizeLine ∧ I (i + 1) (upd H5 D (.dK (putK kvs k z))) else I (i + 1) H3) (last : ∀ H, I n H → Qd H) :
    ∃ W : Nat → Nat → Hp → Prop, (∃ m, W 0 m (upd H1 D (.dK []))) ∧ ∀ i m H, W i m H → (J.stop i H ∧ Qd H) ∨ (J.go i H ∧ ∃ Nx : Hp → Prop, (∀ H', Nx H' → ∃ m', m' < m ∧ W (i + 1) m' H') ∧
      ∀ x H', J.yld i H x H' → g x (wipe σ vs) H' fun σ2 H2 => wipe σ2 vs = wipe σ vs ∧ tt σ2 H2 fun b H3 => if b = true then tk σ2 H3 fun y H4 => tv σ2 H4 fun z H5 => ∃ kvs k, y = kV k ∧ H5 D = some (.dK kvs) ∧ kvs.length < sizeLine ∧ Nx (upd H5 D (.dK (putK kvs k z))) else Nx H3) := by
  refine ⟨fun i m H => m + i = n ∧ I i H, ⟨n, rfl, i0⟩, fun i m H hW => ?_⟩
  obtain ⟨hm, hI⟩ := hW
  have hG := iG i H (by omega) hI
  cases m with
  | zero =>
    obtain rfl : i = n := by omega
    exact .inl ⟨w.stops H hG, last H hI⟩
  | succ m => exact .inr ⟨w.goes i H (by omega) hG, I (i + 1), fun H' q => ⟨m, Nat.lt_succ_self m, by omega, q⟩, fun x H' y => step i x H H' (by omega) hI (w.yields i H x H' (by omega) hG y)⟩
/-- iSeq, that nothing opens by itself -/
@[irreducible] def iSq (K : PySem.W.Frag) (te : TE) : TI := iSeq K te
theorem pi_sq {X : Cx} {tg e : Expr} {te : TE} (he : PE X e te) : PI X tg e (iSq X.K te) := by
  unfold iSq
  exact pi_seq he
theorem seq_pick {K : PySem.W.Frag} {H : Hp} {a : Addr} {xs : List V} {R : It → Hp → Prop} {σ : L2.St} {i : Nat} (e : σ[i]? = some (some (.ref a))) (h : Cr.LT H a xs) (q : ∀ J G, Walk J xs.length G (YAt xs) → (∀ H', (∀ o, H a = some o → H' a = some o) → G H') → R J H) : iSq K (tVar i) σ H R := by
  unfold iSq
  refine ⟨_, e, a, xs, rfl, ?_⟩
  rcases h with z | z
  · exact .inl ⟨SqL.of z, q _ _ walk_list fun H' s => SqL.of (s _ z)⟩
  · exact .inr ⟨.inl (.inl z), q _ _ walk_tup fun H' s => .inl (.inl (s _ z))⟩
/-! ### a run, as a function -/
def ent (ns : List Str) (rs : List Rw) (n : Nat) (z : Str) : Int × Int := (rs.getD n []).getD (ns.idxOf z) (0, 0)
def runS (ns : List Str) (rs : List Rw) (p : List Int × Nat) (z : Str) : List Int × Nat := (p.1 ++ [(ent ns rs p.2 z).1], (ent ns rs p.2 z).2.toNat)
def runR (ns : List Str) (rs : List Rw) (n : Nat) (zs : List Str) : List Int × Nat := zs.foldl (runS ns rs) ([], n)
theorem runR_snoc (ns : List Str) (rs : List Rw) (n : Nat) (zs : List Str) (z : Str) : runR ns rs n (zs ++ [z]) = runS ns rs (runR ns rs n zs) z := by
  unfold runR
  rw [List.foldl_append]
  rfl
theorem idx_at {ns : List Str} {z : Str} (hz : z ∈ ns) : ns[ns.idxOf z]? = some z := by
  have h := List.idxOf_lt_length_of_mem hz
  rw [List.getElem?_eq_getElem h, List.getElem_idxOf]
theorem ent_at {ns : List Str} {rs : List Rw} {n : Nat} {z : Str} (tb : Tb rs.length ns.length rs) (h : n < rs.length) (hz : z ∈ ns) : ∃ r, rs[n]? = some r ∧ r[ns.idxOf z]? = some (ent ns rs n z) ∧ (0 ≤ (ent ns rs n z).2 ∧ (ent ns rs n z).2 < (rs.length : Int)) := by
  have hr : rs[n]? = some rs[n] := List.getElem?_eq_getElem h
  have hm := tb.2 rs[n] (List.getElem_mem h)
  have hi : ns.idxOf z < rs[n].length := by rw [hm.1]; exact List.idxOf_lt_length_of_mem hz
  have he : ent ns rs n z = rs[n][ns.idxOf z] := by
    unfold ent
    simp only [List.getD_eq_getElem?_getD, hr, Option.getD_some, List.getElem?_eq_getElem hi]
  refine ⟨_, hr, by rw [he]; exact List.getElem?_eq_getElem hi, ?_⟩
  rw [he]
  exact (hm.2 _ (List.getElem_mem hi)).2
theorem run_in {ns : List Str} {rs : List Rw} (tb : Tb rs.length ns.length rs) : ∀ (zs : List Str) (p : List Int × Nat), p.2 < rs.length → (∀ z ∈ zs, z ∈ ns) → (zs.foldl (runS ns rs) p).2 < rs.length ∧ (zs.foldl (runS ns rs) p).1.length = p.1.length + zs.length
  | [], p, h, _ => ⟨h, rfl⟩
  | z :: zs, p, h, hz => by
    obtain ⟨r, _, _, h0, h1⟩ := ent_at tb h (hz z List.mem_cons_self)
    have := run_in tb zs (runS ns rs p z) (by show (ent ns rs p.2 z).2.toNat < _; omega) fun y hy => hz y (List.mem_cons_of_mem _ hy)
    refine ⟨this.1, this.2.trans ?_⟩
    show (p.1 ++ [_]).length + zs.length = p.1.length + (zs.length + 1)
    rw [List.length_append, List.length_singleton]
    omega
def spTRun (K : PySem.W.Frag) (C : Addr) : Sp := fun vs H Q _ => ∃ (x : Addr) (S : Addr → Prop) (ns : List Str) (rs : List Rw) (n : Nat) (a : Addr) (zs : List Str), vs = [.ref x, .int n, .ref a] ∧ ThAt K C S H x ns rs ∧ LT H a (zs.map V.str) ∧ (rs.length ≤ 1000 ∧ zs.length ≤ 1000 ∧ ns.length ≤ 1000) ∧ ns.Nodup ∧ Tb rs.length ns.length rs ∧ n < rs.length ∧ (∀ z ∈ zs, z ∈ ns) ∧
  ∀ H' l t, Same H H' → H l = none → H t = none → l ≠ t → H' l = some (.lst ((runR ns rs n zs).1.map V.int)) → H' t = some (.tup [.ref l, .int (runR ns rs n zs).2]) → Q (.ref t) H'
section
variable {P : Program} {w : World} {K : PySem.W.Frag} {mg : Str → Option Value} {base : Heap} {Ct f : Addr} {fd : FuncData}
theorem ok_thing_run (F : Fun K "run" "Thing.run" s_thing_run f fd) (T : Bl mg) (C : Cn mg) (TC : ThC K Ct) (c_check_state : Cl P w K mg base 4 "check_state" (spCState K Ct)) (c_check_word : Cl P w K mg base 2 "check_word" (spCWord K Ct)) : FnOk P w K mg base CX0 5 f fd ["self", "state", "word"] (spTRun K Ct) := by
  refine F.ok sc_thing_run (fun vs H Q E h => ?_) (fun cdv A outer s H vs Q E hr h => ?_)
  · obtain ⟨x, S, ns, rs, n, a, zs, rfl, _⟩ := h
    rfl
  · obtain ⟨x, S, ns, rs, n, a, zs, rfl, t, ha, ⟨hn, hzl, hnl⟩, nd, tb, hlt, hz, q⟩ := h
    refine ⟨_, (pss_cons (ps_expr (pe_cl c_check_state hr (by decide) (by rfl) (pa_cons (pv 0) (pa_cons (pv 1) pa_nil))))
  (pss_cons (ps_expr (pe_cl c_check_word hr (by decide) (by rfl) (pa_cons (pv 0) (pa_cons (pv 2) pa_nil))))
  (pss_cons (ps_dcTo (i := 3) (own := [("place", 4), ("deed", 5)]) (g := gTup K 2 (gCons (gName 4) (gCons (gName 5) gNil))) (tt := tYes) (tk := tVar 5) (tv := tVar 4) rfl sc_thing_run.nd rfl rfl (sw_dc rfl rfl rfl (by decide)) (pi_enum2 rfl T.enumerate (pa_cons (pe_fld (pv 0) rfl) pa_nil)) (blkOk_by (N := N_thing_run) (sc := defScope s_thing_run) (by decide +kernel)) (fun _ _ _ _ _ => (pg_tup rfl (pgs_cons (pg_name (i := 4) sc_thing_run.nd rfl (Or.inl rfl)) (pgs_cons (pg_name (i := 5) sc_thing_run.nd rfl (Or.inl rfl)) pgs_nil)))) (fun _ _ _ _ _ => pts_nil) (fun _ _ _ _ _ => pv 5) (fun _ _ _ _ _ => pv 4))
  (pss_cons (ps_set (i := 6) sc_thing_run.nd rfl (Or.inl rfl) (pe_lst pa_nil))
  (pss_cons (ps_set (i := 7) sc_thing_run.nd rfl (Or.inl rfl) (pv 1))
  (pss_cons (ps_for PassesOwn.never rfl (pi_sq (pv 2)) (pg_name (i := 5) sc_thing_run.nd rfl (Or.inl rfl))
  (pss_cons (ps_asg (pe_ix ix_list (pe_ix ix_list (pe_fld (pv 0) rfl) (pv 7) (fun _ _ => rfl)) (pe_dget (hu_of hr) (pv 3) (pv 5) (fun _ _ => rfl)) (fun _ _ => rfl)) (pg_tup rfl (pgs_cons (pg_name (i := 8) sc_thing_run.nd rfl (Or.inl rfl)) (pgs_cons (pg_name (i := 7) sc_thing_run.nd rfl (Or.inl rfl)) pgs_nil))))
  (pss_one (ps_expr (pe_bm PySem.F.plainAttrs_list PySem.F.slot_list_append PySem.F.type_list_append mt_append (pv 6) (pa_cons (pv 8) pa_nil))))))
  (pss_one (ps_ret (pe_tup (pa_cons (pv 6) (pa_cons (pv 7) pa_nil))))))))))), ?_⟩
    refine ⟨_, rfl, _, rfl, x, S, ns, rs, _, rfl, t, hn, ⟨by omega, by omega⟩, ?_⟩
    refine ⟨_, rfl, _, rfl, x, S, ns, rs, a, zs, rfl, t, ha, hzl, hz, fun H1 s1 => ?_⟩
    obtain ⟨dx, l, m, ys, hx, sl, sm, nx, hl, hm, hp⟩ := t.op
    refine ⟨_, rfl, x, Ct, dx, _, _, rfl, s1 _ _ hx, TC.cl, TC.nD, rfl, l, ns.map V.str, rfl, .inl ⟨SqL.of (s1 _ _ hl), fun D hD => ?_⟩⟩
    refine dc_walk walk_enum (fun i H' => ∃ kvs, H' D = some (.dK kvs) ∧ kvs.length ≤ i ∧ (∀ z, valV kvs (.inr z) = if z ∈ ns.take i then some (V.int (ns.idxOf z : Nat)) else none) ∧ Same H1 H')
      ⟨[], upd_same, Nat.le_refl _, fun z => by simp [valV_nil], same_upd hD⟩ (fun i H' _ ⟨_, _, _, _, s⟩ => SqL.of (s _ _ (s1 _ _ hl))) (fun i v H2 H3 hi e y => ?_) (fun H2 e => ?_)
    · obtain ⟨tt, x1, x2, rfl, nt, rfl, e1, e2⟩ := y
      obtain ⟨kvs, k1, k2, k3, k4⟩ := e
      cases e1
      replace e2 : (ns.map V.str)[i]? = some x2 := e2
      obtain ⟨y, hy, rfl⟩ : ∃ y, ns[i]? = some y ∧ x2 = V.str y := by
        rw [List.getElem?_map] at e2
        cases e : ns[i]? with
        | none => rw [e] at e2; cases e2
        | some y => rw [e] at e2; exact ⟨y, rfl, (Option.some.inj e2).symm⟩
      have nDt : D ≠ tt := ne_of_none k1 nt
      have hil : i < ns.length := (List.getElem?_eq_some_iff.mp hy).1
      refine ⟨tt, _, rfl, .inl (.inl upd_same), rfl, _, _, rfl, _, _, rfl, ⟨rfl, rfl, ?_⟩⟩
      unfold tYes
      dsimp only
      rw [if_pos rfl]
      refine ⟨_, rfl, _, rfl, kvs, .inr y, rfl, by rw [upd_ne nDt]; exact k1, by rw [sizeLine_eq]; omega, putK kvs (.inr y) (.int (i : Nat)), upd_same, Nat.le_trans (DSub.putK_len _ _ _) (Nat.succ_le_succ k2), fun z => ?_, fun b o e => ?_⟩
      · rw [valV_put, k3 z, Xv.take_step hy]
        have iy : ns.idxOf y = i := nodup_at nd (idx_at (List.mem_of_getElem? hy)) hy
        by_cases e : z = y
        · subst e
          rw [if_pos rfl, if_pos (List.mem_append_right _ List.mem_cons_self), iy]
        · rw [if_neg (fun q => e (Sum.inr.inj q))]
          by_cases e3 : z ∈ ns.take i
          · rw [if_pos e3, if_pos (List.mem_append_left _ e3)]
          · rw [if_neg e3, if_neg (fun q => (List.mem_append.mp q).elim e3 fun q => e (List.mem_singleton.mp q))]
      · rw [upd_ne (ne_of_none e hD), upd_ne (ne_of_none (k4 _ _ e) nt)]
        exact k4 _ _ e
    · obtain ⟨kvs, k1, k2, k3, k4⟩ := e
      rw [List.length_map, List.take_length] at k3
      have s2 : Same H H2 := s1.trans k4
      refine ⟨by show 0 ≤ sizeLine; decide, fun L hL => ?_⟩
      have nDL : D ≠ L := ne_of_none k1 hL
      have hL0 : H L = none := s2.free hL
      have hD0 : H D = none := s1.free hD
      refine ⟨_, rfl, ?_⟩
      have ha2 : Cr.LT (upd H2 L (.lst [])) a (zs.map V.str) := ha.same (s2.trans (same_upd hL))
      show iSq _ (tVar 2) _ _ _
      refine seq_pick rfl ha2 fun J G W hG => ?_
      have naL : a ≠ L := fun e => by
        rw [e] at ha
        rcases ha with z | z
        · rw [hL0] at z
          cases z
        · rw [hL0] at z
          cases z
      refine for_it W (fun i σ H' => ∃ u4 u5 u8, σ = [some (.ref x), some (.int n), some (.ref a), some (.ref D), u4, u5, some (.ref L), some (.int (runR ns rs n (zs.take i)).2), u8] ∧ Same H H' ∧ H' D = some (.dK kvs) ∧ H' L = some (.lst ((runR ns rs n (zs.take i)).1.map V.int)))
        ⟨_, _, _, rfl, s2.trans (same_upd hL), by rw [upd_ne nDL]; exact k1, upd_same⟩ (fun i σ H' _ e => ?_) (fun i v σ H3 H4 hi e y => ?_) (fun σ H3 e => ?_)
      · obtain ⟨_, _, _, _, s3, _, _⟩ := e
        refine hG H' fun o ho => ?_
        rw [upd_ne naL] at ho
        rcases ha with z | z
        · rw [s2 _ _ z] at ho
          rw [s3 _ _ z]
          exact ho
        · rw [s2 _ _ z] at ho
          rw [s3 _ _ z]
          exact ho
      · obtain ⟨rfl, hv⟩ := y
        obtain ⟨u4, u5, u8, rfl, s3, hd3, hl3⟩ := e
        obtain ⟨z, hzi, rfl⟩ : ∃ z, zs[i]? = some z ∧ v = V.str z := by
          rw [List.getElem?_map] at hv
          cases e : zs[i]? with
          | none => rw [e] at hv; cases hv
          | some z => rw [e] at hv; exact ⟨z, rfl, (Option.some.inj hv).symm⟩
        have hil : i < zs.length := (List.getElem?_eq_some_iff.mp hzi).1
        have hzn : z ∈ ns := hz z (List.mem_of_getElem? hzi)
        have ri := run_in tb (zs.take i) ([], n) hlt fun y hy => hz y (List.mem_of_mem_take hy)
        have rl : (runR ns rs n (zs.take i)).1.length = i := by
          refine ri.2.trans ?_
          rw [List.length_take]
          show 0 + _ = _
          omega
        obtain ⟨r, hr1, hr2, hr3, hr4⟩ := ent_at (n := (runR ns rs n (zs.take i)).2) tb ri.1 hzn
        obtain ⟨v1, hv1, b, es, rfl, sb, hb, hps⟩ := paired_at hp hr1
        obtain ⟨v2, hv2, tt, rfl, st, htt⟩ := paired_at hps hr2
        have kz := k3 z
        rw [if_pos hzn] at kz
        refine ⟨_, rfl, x, Ct, dx, _, _, rfl, s3 _ _ hx, TC.cl, TC.nR, rfl, _, rfl, m, ys, _, _, rfl, rfl, SqL.of (s3 _ _ hm), at_i hv1, ?_⟩
        refine ⟨_, rfl, _, rfl, D, _, rfl, kz ▸ DGet.k (k := .inr z) hd3, b, es, _, _, rfl, rfl, SqL.of (s3 _ _ hb), at_i hv2, ?_⟩
        refine ⟨tt, _, rfl, .inl (.inl (s3 _ _ htt)), rfl, _, _, rfl, _, _, rfl, ⟨rfl, ?_⟩⟩
        refine ⟨_, rfl, .inl ⟨rfl, _, SqL.of hl3⟩, _, rfl, L, _, _, rfl, rfl, hl3, by rw [List.length_map, rl, sizeLine_eq]; omega, ?_⟩
        refine ⟨u4, some (.str z), some (.int (ent ns rs (runR ns rs n (zs.take i)).2 z).1), ?_, fun c o e => ?_, by rw [upd_ne nDL]; exact hd3, ?_⟩
        rotate_left
        · rw [upd_ne (ne_of_none e hL0)]
          exact s3 _ _ e
        · rw [upd_same, Xv.take_step hzi, runR_snoc]
          unfold runS
          rw [List.map_append]
          rfl
        · rw [Xv.take_step hzi, runR_snoc]
          have e0 : ((ent ns rs (runR ns rs n (zs.take i)).2 z).2.toNat : Int) = (ent ns rs (runR ns rs n (zs.take i)).2 z).2 := Int.toNat_of_nonneg hr3
          unfold runS
          dsimp only
          rw [e0]
          rfl
      · obtain ⟨u4, u5, u8, rfl, s3, hd3, hl3⟩ := e
        rw [List.length_map, List.take_length] at *
        refine ⟨_, rfl, _, rfl, by show 2 ≤ sizeLine; decide, fun t nt => ?_⟩
        exact q _ L t (s3.trans (same_upd nt)) hL0 (s3.free nt) (ne_of_none hl3 nt) (by rw [upd_ne (ne_of_none hl3 nt)]; exact hl3) upd_same
end
end K14


namespace K14
open PySem PySem.Spec PyProof.Rows L2 Xv Cr TL
abbrev s_thing_eq : Stmt := inClass (top 31) 14
abbrev N_thing_eq : List Str := ["self", "other"]
theorem sc_thing_eq : FnScope N_thing_eq ["self", "other"] (defScope s_thing_eq) := ⟨rfl, rfl, rfl, by decide +kernel, rfl, by decide +kernel, by decide +kernel⟩
theorem eqv_names (a b : List Str) : PyData.eqv (namesD a) (namesD b) = decide (a = b) := PySem.W.Datum.eqv a b
theorem eqv_rows (a b : List Rw) : PyData.eqv (rowsD a) (rowsD b) = decide (a = b) := PySem.W.Datum.eqv a b
theorem lay_strs : ∀ a : List Str, (∀ x ∈ a, Nm x) → PyData.canLayAll0 (a.map PyData.str) = true
  | [], _ => rfl
  | x :: r, h => by
    show (PyData.canLay0 (.str x) && PyData.canLayAll0 (r.map PyData.str)) = true
    rw [lay_strs r fun y hy => h y (List.mem_cons_of_mem _ hy), Bool.and_true]
    obtain ⟨_, h8, hc⟩ := h x List.mem_cons_self
    show (x.cps.all fun c => decide (c < 0x110000)) = true
    rw [← Array.all_toList, List.all_eq_true]
    intro c hcc
    have := hc c hcc
    exact decide_eq_true (by omega)
theorem lay_pairs : ∀ a : Rw, PyData.canLayAll0 (a.map fun e => .tuple [.int e.1, .int e.2]) = true
  | [] => rfl
  | x :: r => by
    show (PyData.canLay0 (.tuple [.int x.1, .int x.2]) && PyData.canLayAll0 (r.map fun e => .tuple [.int e.1, .int e.2])) = true
    rw [lay_pairs r]
    rfl
theorem lay_rows : ∀ a : List Rw, PyData.canLayAll0 (a.map rowD) = true
  | [] => rfl
  | x :: r => by
    show (PyData.canLayAll0 (x.map fun e => .tuple [.int e.1, .int e.2]) && PyData.canLayAll0 (r.map rowD)) = true
    rw [lay_rows r, lay_pairs x]
    rfl
theorem shaped_names (a : List Str) (h : ∀ x ∈ a, Nm x) : SeqAt.shaped (namesD a) = true := by
  unfold SeqAt.shaped
  rw [Bool.and_eq_true]
  exact ⟨lay_strs a h, decide_eq_true (Nat.le_trans (PySem.W.Datum.depth_le a) (by decide))⟩
theorem shaped_rows (a : List Rw) : SeqAt.shaped (rowsD a) = true := by
  unfold SeqAt.shaped
  rw [Bool.and_eq_true]
  exact ⟨lay_rows a, decide_eq_true (Nat.le_trans (PySem.W.Datum.depth_le a) (by decide))⟩
section
variable {K : PySem.W.Frag} {S : Addr → Prop} {H : Hp}
theorem dp_strs : ∀ (ns : List Str), DpAll K H (ns.map V.str) (ns.map PyData.str)
  | [] => .nil
  | x :: r => .cons (.str x) (dp_strs r)
theorem dp_pairs {es : List V} {r : Rw} (h : Paired (fun x (e : Int × Int) => ∃ t, x = V.ref t ∧ S t ∧ H t = some (.tup [.int e.1, .int e.2])) es r) : DpAll K H es (r.map fun e => .tuple [.int e.1, .int e.2]) := by
  induction h with
  | nil => exact .nil
  | cons q _ ih =>
    obtain ⟨t, rfl, _, ht⟩ := q
    exact .cons (.tup (.inl (.inl ht)) (.cons (.int _) (.cons (.int _) .nil))) ih
theorem dp_rows {ys : List V} {rs : List Rw} (h : Paired (RwO S H) ys rs) : DpAll K H ys (rs.map rowD) := by
  induction h with
  | nil => exact .nil
  | cons q _ ih =>
    obtain ⟨a, es, rfl, _, ha, hp⟩ := q
    exact .cons (.lst (SqL.of ha) (dp_pairs hp)) ih
end
def spTEq (K : PySem.W.Frag) (C : Addr) : Sp := fun vs H Q _ => ∃ (x : Addr) (S : Addr → Prop) (ns : List Str) (rs : List Rw) (y : V), vs = [.ref x, y] ∧ ThAt K C S H x ns rs ∧ (∀ z ∈ ns, Nm z) ∧
  ((∃ (x2 : Addr) (S2 : Addr → Prop) (ns2 : List Str) (rs2 : List Rw), y = .ref x2 ∧ TyX K H (.ref x2) (.ref C) ∧ ThAt K C S2 H x2 ns2 rs2 ∧ (∀ z ∈ ns2, Nm z) ∧ Q (.bl (decide (ns = ns2) && decide (rs = rs2))) H) ∨ (∃ t, TyX K H y t ∧ PySem.W.kitOne K t (.ref C) = some false ∧ Q (.bl false) H))
section
variable {P : Program} {w : World} {K : PySem.W.Frag} {mg : Str → Option Value} {base : Heap} {Ct f : Addr} {fd : FuncData}
theorem ok_thing_eq (F : Fun K "__eq__" "Thing.__eq__" s_thing_eq f fd) (T : Bl mg) (TC : ThC K Ct) (gl : mg "Thing" = some (.ref Ct)) (kt : PySem.W.kitOne K (.ref Ct) (.ref Ct) = some true) : FnOk P w K mg base CX0 1 f fd ["self", "other"] (spTEq K Ct) := by
  refine F.ok sc_thing_eq (fun vs H Q E h => ?_) (fun cdv A outer s H vs Q E hr h => ?_)
  · obtain ⟨x, S, ns, rs, y, rfl, _⟩ := h
    rfl
  · obtain ⟨x, S, ns, rs, y, rfl, t, nm, q⟩ := h
    refine ⟨_, (pss_one (ps_ret (pe_and (pe_callB (id := "isinstance") call_isi (by rfl) T.isinstance (by decide +kernel) (pa_cons (pv 1) (pa_cons (pe_glob (v := .ref Ct) (by rfl) gl rfl) pa_nil))) (pe_and (pe_cmpR (op_eqD hr.units) (pe_fld (pv 0) rfl) (pe_fld (pv 1) rfl) (nomark _)) (pe_one (pe_cmpR (op_eqD hr.units) (pe_fld (pv 0) rfl) (pe_fld (pv 1) rfl) (nomark _))))))), ?_⟩
    obtain ⟨dx, l, m, ys, hx, sl, sm, nx, hl, hm, hp⟩ := t.op
    rcases q with ⟨x2, S2, ns2, rs2, rfl, ty, t2, nm2, q⟩ | ⟨u, hu, hk, q⟩
    · obtain ⟨dx2, l2, m2, ys2, hx2, sl2, sm2, nx2, hl2, hm2, hp2⟩ := t2.op
      refine ⟨_, rfl, _, _, _, _, _, rfl, .own _, ty, kt, true, rfl, ite2 (fun _ => ?_) (fun z => absurd rfl z)⟩
      refine ⟨_, rfl, x, Ct, dx, _, _, rfl, hx, TC.cl, TC.nD, rfl, _, rfl, x2, Ct, dx2, _, _, rfl, hx2, TC.cl, TC.nD, rfl, namesD ns, namesD ns2, .lst (SqL.of hl) (dp_strs ns), .lst (SqL.of hl2) (dp_strs ns2), shaped_names ns nm, shaped_names ns2 nm2, ?_⟩
      rw [eqv_names]
      refine ⟨_, rfl, ite2 (fun z => ?_) (fun z => ?_)⟩
      · refine ⟨_, rfl, x, Ct, dx, _, _, rfl, hx, TC.cl, TC.nR, rfl, _, rfl, x2, Ct, dx2, _, _, rfl, hx2, TC.cl, TC.nR, rfl, rowsD rs, rowsD rs2, .lst (SqL.of hm) (dp_rows hp), .lst (SqL.of hm2) (dp_rows hp2), shaped_rows rs, shaped_rows rs2, ?_⟩
        rw [eqv_rows]
        rw [z, Bool.true_and] at q
        exact q
      · rw [show decide (ns = ns2) = false from by simpa using z] at q
        rw [Bool.false_and] at q
        exact q
    · exact ⟨_, rfl, _, _, _, _, _, rfl, .own _, hu, hk, false, rfl, ite2 (fun z => nomatch z) (fun _ => q)⟩
end
end K14


namespace K14
open PySem PySem.Spec PyProof.Rows L2 Xv Cr TL
abbrev s_word : Stmt := top 50
abbrev N_word : List Str := ["_law_pot_here", "_law_model_here", "_law_most", "_law_turn"]
theorem sc_word : FnScope N_word ["_law_pot_here", "_law_model_here", "_law_most"] (defScope s_word) := ⟨rfl, rfl, rfl, by decide +kernel, rfl, by decide +kernel, by decide +kernel⟩
theorem kv_cons {G : Hp} {kvs : List (Key × V)} {p : PyData × PyData} {ps : List (PyData × PyData)} (h : TrKv G kvs (p :: ps)) : ∃ k v r d, kvs = (k, v) :: r ∧ p = (kD k, d) ∧ Tr G v d ∧ TrKv G r ps := by
  generalize e : p :: ps = z at h
  cases h with
  | nil => cases e
  | cons a b =>
    cases e
    exact ⟨_, _, _, _, rfl, rfl, a, b⟩
theorem kD_str {k : Key} {x : Str} (h : PyData.str x = kD k) : k = .inr x := by
  cases k with
  | inl i => cases h
  | inr y =>
    have : PyData.str x = PyData.str y := h
    cases this
    rfl
/-- a model, opened -/
theorem md_op {K : PySem.W.Frag} {S : Addr → Prop} {H : Hp} {m : Addr} {ns : List Str} {rs : List Rw} (h : Dt K S H (.ref m) (modelD ns rs)) :
    ∃ l t ys, S m ∧ S l ∧ S t ∧ H m = some (.dK [(.inr "deeds", .ref l), (.inr "rows", .ref t)]) ∧ H l = some (.lst (ns.map V.str)) ∧ H t = some (.lst ys) ∧ Paired (RwO S H) ys rs := by
  unfold Dt modelD at h
  cases h with
  | dct a b =>
    obtain ⟨k1, v1, r1, d1, rfl, e1, t1, b1⟩ := kv_cons b
    obtain ⟨k2, v2, r2, d2, rfl, e2, t2, b2⟩ := kv_cons b1
    have e3 : PyData.str "deeds" = kD k1 := congrArg Prod.fst e1
    have e4 : PyData.str "rows" = kD k2 := congrArg Prod.fst e2
    obtain rfl : namesD ns = d1 := congrArg Prod.snd e1
    obtain rfl : rowsD rs = d2 := congrArg Prod.snd e2
    obtain rfl := kD_str e3
    obtain rfl := kD_str e4
    cases b2
    unfold namesD at t1
    unfold rowsD at t2
    cases t1 with
    | lst c d => cases t2 with
      | lst f g => exact ⟨_, _, _, (vw_in a).1, (vw_in c).1, (vw_in f).1, (vw_in a).2, by rw [(vw_in c).2, names_op d], (vw_in f).2, rows_op g⟩
theorem md_deeds {H : Hp} {m : Addr} {v u : V} (h : H m = some (.dK [(.inr "deeds", v), (.inr "rows", u)])) : DGet H m (.str "deeds") (some v) := by
  have g := DGet.k (k := .inr "deeds") h
  rw [valV_pos rfl] at g
  exact g
theorem md_rows {H : Hp} {m : Addr} {v u : V} (h : H m = some (.dK [(.inr "deeds", v), (.inr "rows", u)])) : DGet H m (.str "rows") (some u) := by
  have g := DGet.k (k := .inr "rows") h
  have ne : ¬ (.inr "deeds" : Key) = .inr "rows" := by decide +kernel
  rw [valV_neg (show ¬ ((.inr "deeds", v) : Key × V).1 = .inr "rows" from ne), valV_pos rfl] at g
  exact g
def spWord (K : PySem.W.Frag) : Sp := fun vs H Q _ => ∃ (p m : Addr) (n : Nat) (S : Addr → Prop) (ns : List Str) (rs : List Rw), vs = [.ref p, .ref m, .int n] ∧ Pot H p ∧ ¬ S p ∧ n ≤ 100 ∧ Dt K S H (.ref m) (modelD ns rs) ∧ 0 < ns.length ∧ ns.length < 1000 ∧
  ∀ H' l (zs : List Str), But p H H' → Pot H' p → H l = none → H' l = some (.lst (zs.map V.str)) → zs.length ≤ n → (∀ z ∈ zs, z ∈ ns) → Q (.ref l) H'
section
variable {P : Program} {w : World} {K : PySem.W.Frag} {mg : Str → Option Value} {base : Heap} {f : Addr} {fd : FuncData}
theorem ok_word (F : Fun K "_law_word" "_law_word" s_word f fd) (T : Bl mg) (c_draw : Cl P w K mg base 1 "_law_draw" spDraw) (c_pick : Cl P w K mg base 2 "_law_pick" spPick) : FnOk P w K mg base CX0 3 f fd ["_law_pot_here", "_law_model_here", "_law_most"] (spWord K) := by
  refine F.ok sc_word (fun vs H Q E h => ?_) (fun cdv A outer s H vs Q E hr h => ?_)
  · obtain ⟨p, m, n, S, ns, rs, rfl, _⟩ := h
    rfl
  · obtain ⟨p, m, n, S, ns, rs, rfl, hP, nSp, hn, hM, h0, h1, q⟩ := h
    refine ⟨_, (pss_one (ps_ret (pe_lc (own := [("_law_turn", 3)]) (g := gName 3) (tt := tYes) (te := tCall spPick [] E0 (tCons (tVar 0) (tCons (tDGet (tVar 1) (tC (.str "deeds"))) tNil))) rfl sc_word.nd (pi_range1 rfl T.range (pa_cons (pe_cl c_draw hr (by decide) (by rfl) (pa_cons (pv 0) (pa_cons (pe_op op_add (pv 2) pe_int) pa_nil))) pa_nil)) (blkOk_by (N := N_word) (sc := defScope s_word) (by decide +kernel)) (fun _ _ _ _ _ => (pg_name (i := 3) sc_word.nd rfl (Or.inl rfl))) (fun _ _ _ _ _ => pts_nil) (fun _ _ _ _ _ => (pe_cl c_pick hr (by decide) (by rfl) (pa_cons (pv 0) (pa_cons (pe_dget (hu_of hr) (pv 1) pe_str (fun _ _ => rfl)) pa_nil))))))), ?_⟩
    obtain ⟨l, t, ys, sm, sl, st, hm, hl, ht, hp⟩ := md_op hM
    have nmp : m ≠ p := fun z => nSp (z ▸ sm)
    have nlp : l ≠ p := fun z => nSp (z ▸ sl)
    refine ⟨_, rfl, _, rfl, _, _, rfl, rfl, p, _, rfl, hP, by omega, by omega, fun H1 d b1 P1 d0 d1 => ⟨_, rfl, by omega, by omega, fun D hD => ?_⟩⟩
    have npD : p ≠ D := pot_ne P1 hD
    have hD0 : H D = none := by
      cases e : H D with
      | none => rfl
      | some o =>
        rw [b1 _ _ npD.symm e] at hD
        cases hD
    refine lc_range (lo := 0) (n := d.toNat) (fun j H' => ∃ zs : List Str, zs.length = j ∧ (∀ z ∈ zs, z ∈ ns) ∧ But p H1 H' ∧ Pot H' p ∧ H' D = some (.lst (zs.map V.str))) ⟨[], rfl, by simp, Same.but (same_upd hD), pot_same P1 (same_upd hD), upd_same⟩ (fun j H3 hj hp => ?_) (fun H3 hp => ?_)
    · obtain ⟨zs, e1, e2, e3, e4, e5⟩ := hp
      refine ⟨wipe_back, ?_⟩
      unfold tYes
      dsimp only
      rw [if_pos rfl]
      have hm3 := e3 _ _ nmp (b1 _ _ nmp hm)
      have hl3 := e3 _ _ nlp (b1 _ _ nlp hl)
      refine ⟨_, rfl, _, rfl, m, _, rfl, md_deeds hm3, p, _, rfl, e4, .inl ⟨l, _, rfl, nlp, hl3, by rw [List.length_map]; exact h0, by rw [List.length_map]; exact h1, fun H4 i x hx b4 P4 => ?_⟩⟩
      obtain ⟨z, hz, rfl⟩ : ∃ z, ns[i]? = some z ∧ x = V.str z := by
        rw [List.getElem?_map] at hx
        cases e : ns[i]? with
        | none => rw [e] at hx; cases hx
        | some z => rw [e] at hx; exact ⟨z, rfl, (Option.some.inj hx).symm⟩
      refine ⟨_, b4 _ _ npD.symm e5, by rw [List.length_map, sizeLine_eq]; omega, zs ++ [z], by rw [List.length_append, e1]; rfl, fun c hc => ?_, but_new (e3.trans b4) hD, pot_upd P4 npD, by rw [upd_same, List.map_append]; rfl⟩
      rcases List.mem_append.mp hc with q | q
      · exact e2 c q
      · rw [List.mem_singleton.mp q]
        exact List.mem_of_getElem? hz
    · obtain ⟨zs, e1, e2, e3, e4, e5⟩ := hp
      exact q H3 D zs (b1.trans e3) e4 hD0 e5 (by omega) e2
end
end K14


namespace K14
open PySem PySem.Spec PyProof.Rows L2 Xv Cr TL
abbrev s_run : Stmt := top 49
abbrev N_run : List Str := ["_law_model_here", "_law_state_now", "_law_said", "_law_here", "_law_heard", "_law_deed_now", "_law_entry"]
theorem sc_run : FnScope N_run ["_law_model_here", "_law_state_now", "_law_said"] (defScope s_run) := ⟨rfl, rfl, rfl, by decide +kernel, rfl, by decide +kernel, by decide +kernel⟩
def spLRun (K : PySem.W.Frag) : Sp := fun vs H Q _ => ∃ (m : Addr) (S : Addr → Prop) (ns : List Str) (rs : List Rw) (n : Nat) (a : Addr) (zs : List Str), vs = [.ref m, .int n, .ref a] ∧ Dt K S H (.ref m) (modelD ns rs) ∧ Cr.LT H a (zs.map V.str) ∧ zs.length ≤ 1000 ∧ ns.Nodup ∧ Tb rs.length ns.length rs ∧ n < rs.length ∧ (∀ z ∈ zs, z ∈ ns) ∧
  ∀ H' l t, Same H H' → H l = none → H t = none → l ≠ t → H' l = some (.lst ((runR ns rs n zs).1.map V.int)) → H' t = some (.tup [.ref l, .int (runR ns rs n zs).2]) → Q (.ref t) H'
section
variable {P : Program} {w : World} {K : PySem.W.Frag} {mg : Str → Option Value} {base : Heap} {f : Addr} {fd : FuncData}
theorem ok_run (F : Fun K "_law_run" "_law_run" s_run f fd) (T : Bl mg) : FnOk P w K mg base CX0 1 f fd ["_law_model_here", "_law_state_now", "_law_said"] (spLRun K) := by
  refine F.ok sc_run (fun vs H Q E h => ?_) (fun cdv A outer s H vs Q E hr h => ?_)
  · obtain ⟨m, S, ns, rs, n, a, zs, rfl, _⟩ := h
    rfl
  · obtain ⟨m, S, ns, rs, n, a, zs, rfl, hM, ha, hzl, nd, tb, hlt, hz, q⟩ := h
    refine ⟨_, (pss_cons (ps_par (i := 3) (j := 4) rfl sc_run.nd rfl rfl (by decide) rfl rfl (pa_cons (pv 1) (pa_cons (pe_lst pa_nil) pa_nil)) (by rfl))
  (pss_cons (ps_for PassesOwn.never rfl (pi_sq (pv 2)) (pg_name (i := 5) sc_run.nd rfl (Or.inl rfl))
  (pss_cons (ps_set (i := 6) sc_run.nd rfl (Or.inl rfl) (pe_ix ix_list (pe_ix ix_list (pe_dget (hu_of hr) (pv 0) pe_str (fun _ _ => rfl)) (pv 3) (fun _ _ => rfl)) (pe_bm PySem.F.plainAttrs_list PySem.F.slot_list_index PySem.F.type_list_index mt_index (pe_dget (hu_of hr) (pv 0) pe_str (fun _ _ => rfl)) (pa_cons (pv 5) pa_nil)) (fun _ _ => rfl)))
  (pss_cons (ps_expr (pe_bm PySem.F.plainAttrs_list PySem.F.slot_list_append PySem.F.type_list_append mt_append (pv 4) (pa_cons (pe_ix ix_tup (pv 6) pe_int (fun _ _ => rfl)) pa_nil)))
  (pss_one (ps_set (i := 3) sc_run.nd rfl (Or.inl rfl) (pe_ix ix_tup (pv 6) pe_int (fun _ _ => rfl)))))))
  (pss_one (ps_ret (pe_tup (pa_cons (pv 4) (pa_cons (pv 3) pa_nil))))))), ?_⟩
    obtain ⟨l, t, ys, sm, sl, st, hm, hl, ht, hp⟩ := md_op hM
    refine ⟨_, rfl, by show 0 ≤ sizeLine; decide, fun L hL => ⟨_, _, rfl, ?_⟩⟩
    have ha2 : Cr.LT (upd H L (.lst [])) a (zs.map V.str) := ha.same (same_upd hL)
    have naL : a ≠ L := fun e => by
      rw [e] at ha
      rcases ha with z | z
      · rw [hL] at z
        cases z
      · rw [hL] at z
        cases z
    show iSq _ (tVar 2) _ _ _
    refine seq_pick rfl ha2 fun J G W hG => ?_
    refine for_it W (fun i σ H' => ∃ u5 u6, σ = [some (.ref m), some (.int n), some (.ref a), some (.int (runR ns rs n (zs.take i)).2), some (.ref L), u5, u6] ∧ Same H H' ∧ H' L = some (.lst ((runR ns rs n (zs.take i)).1.map V.int)))
      ⟨_, _, rfl, same_upd hL, upd_same⟩ (fun i σ H' _ e => ?_) (fun i v σ H3 H4 hi e y => ?_) (fun σ H3 e => ?_)
    · obtain ⟨_, _, _, s3, _⟩ := e
      refine hG H' fun o ho => ?_
      rw [upd_ne naL] at ho
      exact s3 _ _ ho
    · obtain ⟨rfl, hv⟩ := y
      obtain ⟨u5, u6, rfl, s3, hl3⟩ := e
      obtain ⟨z, hzi, rfl⟩ : ∃ z, zs[i]? = some z ∧ v = V.str z := by
        rw [List.getElem?_map] at hv
        cases e : zs[i]? with
        | none => rw [e] at hv; cases hv
        | some z => rw [e] at hv; exact ⟨z, rfl, (Option.some.inj hv).symm⟩
      have hil : i < zs.length := (List.getElem?_eq_some_iff.mp hzi).1
      have hzn : z ∈ ns := hz z (List.mem_of_getElem? hzi)
      have ri := run_in tb (zs.take i) ([], n) hlt fun y hy => hz y (List.mem_of_mem_take hy)
      have rl : (runR ns rs n (zs.take i)).1.length = i := by
        refine ri.2.trans ?_
        rw [List.length_take]
        show 0 + _ = _
        omega
      obtain ⟨r, hr1, hr2, hr3, hr4⟩ := ent_at (n := (runR ns rs n (zs.take i)).2) tb ri.1 hzn
      obtain ⟨v1, hv1, b, es, rfl, sb, hb, hps⟩ := paired_at hp hr1
      obtain ⟨v2, hv2, tt, rfl, stt, htt⟩ := paired_at hps hr2
      refine ⟨_, rfl, m, _, rfl, md_rows (s3 _ _ hm), _, rfl, t, ys, _, _, rfl, rfl, SqL.of (s3 _ _ ht), at_i hv1, ?_⟩
      refine ⟨_, rfl, m, _, rfl, md_deeds (s3 _ _ hm), .inl ⟨rfl, _, SqL.of (s3 _ _ hl)⟩, _, rfl, l, _, _, ns.idxOf z, .str z, rfl, rfl, SqL.of (s3 _ _ hl), rfl, flat_names ns, by rw [List.getElem?_map, idx_at hzn]; rfl, by show (z == z) = true; simp, fun k z' hk hz' => ?_, b, es, _, _, rfl, rfl, SqL.of (s3 _ _ hb), at_i hv2, ?_⟩
      · rw [List.getElem?_map] at hz'
        cases e1 : ns[k]? with
        | none => rw [e1] at hz'; cases hz'
        | some y =>
          rw [e1] at hz'
          cases hz'
          show (y == z) = false
          rw [beq_eq_false_iff_ne]
          intro h
          subst h
          have := nodup_at nd e1 (idx_at hzn)
          omega
      · refine ⟨_, rfl, .inl ⟨rfl, _, SqL.of hl3⟩, _, rfl, tt, _, _, _, rfl, rfl, .inl (.inl (s3 _ _ htt)), rfl, L, _, _, rfl, rfl, hl3, by rw [List.length_map, rl, sizeLine_eq]; omega, ?_⟩
        have htL : tt ≠ L := ne_of_none htt hL
        refine ⟨_, rfl, tt, _, _, _, rfl, rfl, .inl (.inl (by rw [upd_ne htL]; exact s3 _ _ htt)), rfl, ?_⟩
        refine ⟨some (.str z), some (.ref tt), ?_, fun c o e => ?_, ?_⟩
        rotate_left
        · rw [upd_ne (ne_of_none e hL)]
          exact s3 _ _ e
        · rw [upd_same, Xv.take_step hzi, runR_snoc]
          unfold runS
          rw [List.map_append]
          rfl
        · rw [Xv.take_step hzi, runR_snoc]
          have e0 : ((ent ns rs (runR ns rs n (zs.take i)).2 z).2.toNat : Int) = (ent ns rs (runR ns rs n (zs.take i)).2 z).2 := Int.toNat_of_nonneg hr3
          unfold runS
          dsimp only
          rw [e0]
          rfl
    · obtain ⟨u5, u6, rfl, s3, hl3⟩ := e
      rw [List.length_map, List.take_length] at *
      refine ⟨_, rfl, _, rfl, by show 2 ≤ sizeLine; decide, fun t nt => ?_⟩
      exact q _ L t (s3.trans (same_upd nt)) hL (s3.free nt) (ne_of_none hl3 nt) (by rw [upd_ne (ne_of_none hl3 nt)]; exact hl3) upd_same
end
end K14


namespace K14
open PySem PySem.Spec PyProof.Rows L2 Xv Cr TL
abbrev s_thing : Stmt := top 48
abbrev N_thing : List Str := ["_law_model_here"]
theorem sc_thing : FnScope N_thing ["_law_model_here"] (defScope s_thing) := ⟨rfl, rfl, rfl, by decide +kernel, rfl, by decide +kernel, by decide +kernel⟩
theorem rwo_rows {S : Addr → Prop} {H : Hp} {a : Addr} {ys : List V} {rs : List Rw} (h : H a = some (.lst ys)) (hp : Paired (RwO S H) ys rs) : RowsP H a ys rs :=
  ⟨.inl h, Paired.mapP hp fun v r ⟨b, es, e, _, hb, q⟩ => ⟨b, es, e, .inl hb, Paired.mapP q fun x e ⟨t, z1, _, z3⟩ => ⟨t, z1, z3⟩⟩⟩
/-- the heap behind a new thing -/
def spLThing (K : PySem.W.Frag) (C : Addr) : Sp := fun vs H Q _ => ∃ (m : Addr) (S0 : Addr → Prop) (ns : List Str) (rs : List Rw), vs = [.ref m] ∧ Dt K S0 H (.ref m) (modelD ns rs) ∧ Right ns rs ∧
  ∀ H' x S, Same H H' → H x = none → (∀ b, S b → H b = none) → ThAt K C S H' x ns rs → Q (.ref x) H'
theorem made {K : PySem.W.Frag} {C : Addr} {H : Hp} {da ra : Addr} {ns : List Str} {xs : List V} {rs : List Rw} {Q : VK} (hd : Cr.LT H da (ns.map V.str)) (hp : RowsP H ra xs rs) (R : Right ns rs) (q : ∀ H' x S, Same H H' → H x = none → (∀ b, S b → H b = none) → ThAt K C S H' x ns rs → Q (.ref x) H') :
    ∀ x dx, H x = none → H dx = none → dx ≠ x → spThingI K C (.ref x :: ([.ref da, .ref ra] ++ [])) (upd (upd H dx (.own x)) x (.ins C dx [])) (fun v H2 => v = .non ∧ Q (.ref x) H2) E0 := fun x dx nx nd ne => by
  have s0 : Same H (upd (upd H dx (.own x)) x (.ins C dx [])) := (same_upd nd).trans (same_upd (by rw [upd_ne ne.symm]; exact nx))
  refine ⟨x, dx, da, ra, ns, xs, rs, rfl, upd_same, hd.same s0, hp.same s0, R, fun H' S F nS th => ⟨rfl, q H' x S (fun b o e => F b o (ne_of_none e nx) (s0 _ _ e)) nx (fun b hb => s0.free (nS b hb).1) th⟩⟩
section
variable {P : Program} {w : World} {K : PySem.W.Frag} {mg : Str → Option Value} {base : Heap} {Ct f : Addr} {fd : FuncData}
theorem ok_thing (F : Fun K "_law_thing" "_law_thing" s_thing f fd) (M : C8.Mak P w K mg base 7 "Thing" Ct (spThingI K Ct) []) : FnOk P w K mg base CX0 9 f fd ["_law_model_here"] (spLThing K Ct) := by
  refine F.ok sc_thing (fun vs H Q E h => ?_) (fun cdv A outer s H vs Q E hr h => ?_)
  · obtain ⟨m, S0, ns, rs, rfl, _⟩ := h
    rfl
  · obtain ⟨m, S0, ns, rs, rfl, hM, R, q⟩ := h
    refine ⟨_, (pss_one (ps_ret (C8.pe_mk M hr (by decide) (by rfl) (pa_cons (pe_dget (hu_of hr) (pv 0) pe_str (fun _ _ => rfl)) (pa_cons (pe_dget (hu_of hr) (pv 0) pe_str (fun _ _ => rfl)) pa_nil))))), ?_⟩
    obtain ⟨l, t, ys, sm, sl, st, hm, hl, ht, hp⟩ := md_op hM
    exact ⟨_, rfl, m, _, rfl, md_deeds hm, _, rfl, m, _, rfl, md_rows hm, made (.inl hl) (rwo_rows ht hp) R q⟩
end
end K14


namespace K14
open PySem PySem.Spec PyProof.Rows L2 Xv Cr TL
abbrev s_made : Stmt := top 32
abbrev N_made : List Str := ["deeds", "rows", "made"]
theorem sc_made : FnScope N_made ["deeds", "rows"] (defScope s_made) := ⟨rfl, rfl, rfl, by decide +kernel, rfl, by decide +kernel, by decide +kernel⟩
theorem fsT_put (l m l0 m0 : Addr) : putF "_rows" (.ref m) (putF "_deeds" (.ref l) (fsT l0 m0)) = fsT l m := by
  rfl
theorem right_a : Right ["a"] [[(0, 0)]] where
  d0 := by decide
  d4 := by decide
  nd := by simp
  nm := fun x hx => by
    rw [List.mem_singleton.mp hx]
    exact ⟨by decide, by decide, fun c hc => by
      have : c ∈ [97] := hc
      rw [List.mem_singleton.mp this]
      decide⟩
  r0 := by decide
  r8 := by decide
  tb := ⟨rfl, fun r hr => by
    rw [List.mem_singleton.mp hr]
    exact ⟨rfl, fun e he => by
      rw [List.mem_singleton.mp he]
      decide⟩⟩
theorem made2 {K : PySem.W.Frag} {C : Addr} {H : Hp} {da ra x dx : Addr} {ns : List Str} {xs : List V} {rs : List Rw} {W : VK} (hd : Cr.LT H da (ns.map V.str)) (hp : RowsP H ra xs rs) (R : Right ns rs) (nx : H x = none) (nd : H dx = none) (ne : dx ≠ x) (q : ∀ H' S, Same H H' → (∀ b, S b → H b = none) → ThAt K C S H' x ns rs → W .non H') :
    spThingI K C [.ref x, .ref da, .ref ra] (upd (upd H dx (.own x)) x (.ins C dx [])) W E0 := by
  have s0 : Same H (upd (upd H dx (.own x)) x (.ins C dx [])) := (same_upd nd).trans (same_upd (by rw [upd_ne ne.symm]; exact nx))
  exact ⟨x, dx, da, ra, ns, xs, rs, rfl, upd_same, hd.same s0, hp.same s0, R, fun H' S F nS th => q H' S (fun b o e => F b o (ne_of_none e nx) (s0 _ _ e)) (fun b hb => s0.free (nS b hb).1) th⟩
/-- a new thing of these very lists, that lie in S -/
def spMade (K : PySem.W.Frag) (C : Addr) : Sp := fun vs H Q _ => ∃ (l m : Addr) (S : Addr → Prop) (ns : List Str) (rs : List Rw), vs = [.ref l, .ref m] ∧ Dt K S H (.ref l) (namesD ns) ∧ Dt K S H (.ref m) (rowsD rs) ∧ (∀ b, S b → ∃ o, H b = some o) ∧
  ∀ H' x, Same H H' → H x = none → ThAt K C S H' x ns rs → Q (.ref x) H'
section
variable {P : Program} {w : World} {K : PySem.W.Frag} {mg : Str → Option Value} {base : Heap} {Ct f : Addr} {fd : FuncData}
theorem ok_made (F : Fun K "made_thing" "made_thing" s_made f fd) (TC : ThC K Ct) (M : C8.Mak P w K mg base 7 "Thing" Ct (spThingI K Ct) []) : FnOk P w K mg base CX0 9 f fd ["deeds", "rows"] (spMade K Ct) := by
  refine F.ok sc_made (fun vs H Q E h => ?_) (fun cdv A outer s H vs Q E hr h => ?_)
  · obtain ⟨l, m, S, ns, rs, rfl, _⟩ := h
    rfl
  · obtain ⟨l, m, S, ns, rs, rfl, hl, hm, hS, q⟩ := h
    refine ⟨_, (pss_cons (ps_set (i := 2) sc_made.nd rfl (Or.inl rfl) (C8.pe_mk M hr (by decide) (by rfl) (pa_cons (pe_lst (pa_cons pe_str pa_nil)) (pa_cons (pe_lst (pa_cons (pe_lst (pa_cons (pe_tup (pa_cons pe_int (pa_cons pe_int pa_nil))) pa_nil)) pa_nil)) pa_nil))))
  (pss_cons (ps_fld (pv 2) (pv 0) rfl)
  (pss_cons (ps_fld (pv 2) (pv 1) rfl)
  (pss_one (ps_ret (pv 2)))))), ?_⟩
    refine ⟨by show 1 ≤ sizeLine; decide, fun L1 n1 => ⟨by show 2 ≤ sizeLine; decide, fun t nt => ⟨by show 1 ≤ sizeLine; decide, fun la n2 => ⟨by show 1 ≤ sizeLine; decide, fun L3 n3 => ?_⟩⟩⟩⟩
    have sA : Same H (upd H L1 (.lst [V.str "a"])) := same_upd n1
    have sB := sA.trans (same_upd (o := .tup [V.int 0, V.int 0]) nt)
    have sC := sB.trans (same_upd (o := .lst [V.ref t]) n2)
    have sD := sC.trans (same_upd (o := .lst [V.ref la]) n3)
    refine fun x dx0 nx nd0 ne => made2 (da := L1) (ra := L3) (ns := ["a"]) (xs := [V.ref la]) (rs := [[(0, 0)]]) (.inl ?_) ⟨.inl upd_same, .cons ⟨la, [V.ref t], rfl, .inl ?_, .cons ⟨t, rfl, ?_⟩ .nil⟩ .nil⟩ right_a nx nd0 ne ?_
    · rw [upd_ne (ne_of_none (by rw [upd_ne (ne_of_none (by rw [upd_ne (ne_of_none upd_same nt), upd_same] <;> rfl) n2), upd_ne (ne_of_none upd_same nt), upd_same] <;> rfl) n3), upd_ne (ne_of_none (by rw [upd_ne (ne_of_none upd_same nt), upd_same] <;> rfl) n2), upd_ne (ne_of_none upd_same nt), upd_same] <;> rfl
    · rw [upd_ne (ne_of_none upd_same n3), upd_same]
    · rw [upd_ne (ne_of_none (by rw [upd_ne (ne_of_none upd_same n2), upd_same] <;> rfl) n3), upd_ne (ne_of_none upd_same n2), upd_same] <;> rfl
    · intro H' S' s' nS' th
      refine ⟨rfl, ?_⟩
      have nxH : H x = none := sD.free nx
      have sH := sD.trans s'
      obtain ⟨dx, l0, m0, hx, _⟩ := th
      refine ⟨_, rfl, _, rfl, x, Ct, dx, _, rfl, hx, TC.cl, TC.nD, by show 2 < 1000; decide, ?_⟩
      refine ⟨_, rfl, _, rfl, x, Ct, dx, _, rfl, upd_same, TC.cl, TC.nR, by show 2 < 1000; decide, ?_⟩
      refine ⟨_, rfl, ?_⟩
      rw [fsT_put]
      have fr : Same H (upd (upd H' x (.ins Ct dx (putF "_deeds" (.ref l) (fsT l0 m0)))) x (.ins Ct dx (fsT l m))) := fun b o e => by
        rw [upd_ne (ne_of_none e nxH), upd_ne (ne_of_none e nxH)]
        exact sH _ _ e
      exact q _ x fr nxH ⟨dx, l, m, upd_same, hl.keep fr, hm.keep fr, fun z => by
        obtain ⟨o, e⟩ := hS x z
        rw [nxH] at e
        cases e⟩
end
end K14

namespace PySem
theorem Sees.reprObj {prog : Program} {w : World} {A : Around} {E : Value → Shared → Prop} {s : Shared} {Q : Value → Shared → Prop} {a : Addr} {d : PyData} (r : Sees s.heap (.ref a) d) (hs : d.showable = true) (hsz : d.shown.length ≤ sizeLine) (hg : A.guards = some []) (hu : A.units + (d.depth + 1) < cLine)
    (hQ : ∀ h' u tk, (∀ b o, s.heap.get? b = some o → h'.get? b = some o) → Q (.str d.shown u) { s with heap := h', toks := tk }) : wpAny (model prog w) A (pyReprObj (.ref a)) Q E s := by
  obtain ⟨T, idr, S⟩ := r.showsBy (prog := prog) (w := w) hs hsz
  exact wpAny_pyReprObj_slot (by omega) (S.typeIs s fun _ _ e => e) S.slotRepr (S.call A E s _ hg (by omega) (fun _ _ e => e) fun h' u tk hk => ⟨_, _, rfl, hQ h' u tk hk⟩)
end PySem
namespace Cr
open PySem PySem.Spec PyProof.Rows L2 Xv Builtin
section
variable {X : Cx} {k j : Nat} {C g : Addr} {fd : FuncData} {sp : Sp} {ps : List Str}
/-- {x!r}, x data in a list, a tuple or a dict -/
def tFmtRD (K : PySem.W.Frag) (te : TE) : TE := fun σ H Q => te σ H fun x H1 => ∃ a d, x = .ref a ∧ Dr K H1 x d ∧ d.showable = true ∧ d.depth ≤ 60 ∧ d.shown.length ≤ sizeLine ∧ Q (.str d.shown) H1
theorem pe_fmtRD {e : Expr} {te : TE} {pos : Pos} (hg : X.A.guards = some []) (hu : X.A.units + 64 < cLine) (he : PE X e te) : PE X (.FormattedValue e 114 none pos) (tFmtRD X.K te) := by
  refine ⟨fun pins s σ H Q I h => ?_⟩
  refine wpAny_FormattedValue_repr (thn (he.run pins s σ H _ I h) fun v s1 hv => ?_)
  obtain ⟨x, H1, I1, r1, a, d, rfl, hd, hs, hdp, hz, q⟩ := hv
  obtain rfl : v = Value.ref a := r1
  exact (Dr.sees (u := Value.ref a) I1 hd rfl).reprObj hs hz hg (by omega) fun h' t tk k => wpAny_formatField_str ⟨.str d.shown, H1, I1.kept (t' := tk) k, ⟨_, rfl⟩, q⟩ ⟨.str d.shown, H1, I1.kept (t' := tk + 1) k, ⟨_, rfl⟩, q⟩ hz
/-- repr(o), by an own __repr__ -/
def rReprO (C : Addr) (sp : Sp) : List V → Hp → VK → Prop := fun xs H Q => ∃ a dx fs, xs = [.ref a] ∧ H a = some (.ins C dx fs) ∧ sp [.ref a] H (fun v H' => ∃ x, v = .str x ∧ Q (.str x) H') E0
theorem call_reprO (F : FnG X.prog X.w X.K X.mg X.base k g fd ["self"] sp) (hr : Room (k + 1) X.A) (hgd : X.A.guards = some []) (hb : Binds X.K fd ["self"] []) (hs : PySem.W.findIn X.K (.ref C) "__repr__" = some (some (.ref g))) (hf : PySem.W.isFn X.K (.ref g) = true) : CallR X (.builtin "repr") (rReprO C sp) := by
  intro pins s σ H xs us Q I r h
  obtain ⟨a, dx, fs, rfl, ea, h⟩ := h
  obtain ⟨u, rfl, ru⟩ := vals1 r
  obtain rfl : u = Value.ref a := ru
  obtain ⟨mA, O, _⟩ := ins_get I.hok ea
  obtain ⟨od, J, _⟩ := O.look
  refine Calls.call_function_entry PySem.F.kind_repr PySem.F.plain_repr PySem.F.entry_repr (PySem.F.args_repr1 _) ?_
  unfold Builtin.«repr»
  refine wpAny_bind (m := oneArg "repr" _) (wpAny_pure ?_)
  refine wpAny_bind (m := cRoomFor _ _) (wpAny_cRoomFor (by have := hr.un; show X.A.units + 1 < cLine; omega) ?_)
  refine wpAny_bind (wpAny_bind (J.type.here ((PySem.W.looks_findIn I.kIn hs).here ?_)))
  have bb := hb s [.ref a] I.kIn rfl
  refine wpAny_bind (m := callSpecialIfBound? (.ref a) (Str.ofString "__repr__")) (PySem.W.ifBound_K I.kIn J hs hf ?_)
  refine wpAny_call (codeAny_mono (F.run X.A.in1 X.stack s H ⟨[.ref a], []⟩ [.ref a] [.ref a] _ hr.in1 hgd I.env0.in1 bb (.cons rfl .nil) h) fun z s' hq => ?_)
  cases z with
  | error e => exact False.elim hq
  | ok fl =>
    cases fl with
    | ret u =>
      obtain ⟨v, H', I3, rv, x, rfl, q3⟩ := I.after hq
      obtain ⟨t, rfl⟩ := rv
      exact wpAny_bind (wpAny_isInstance (T := "str") (b := true) rfl isSubtype_str_str (wpAny_pure ⟨_, rfl, .str x, H', I3, ⟨t, rfl⟩, q3⟩))
    | next => exact False.elim hq
    | brk => exact False.elim hq
    | cont => exact False.elim hq
end
/-! ### o(..), by an own __call__ -/
section
variable {prog : Program} {w : World} {A : Around} {K : PySem.W.Frag} {C a g dx : Addr} {s : Shared} {R : Result → Shared → Prop} {us : List Value} {kw : List (Str × Value)}
theorem keeper_inst {M : Model} {h : Heap} (e : h.get? a = some (PySem.W.instObj C dx)) : PySem.W.Looks M h (keeperOf (.ref a)) Keeper.caller :=
  (PySem.W.Looks.ld (part := none) e).andThen .now
theorem inst_call (X : K.In s.heap) (e : s.heap.get? a = some (PySem.W.instObj C dx)) (hs : PySem.W.findIn K (.ref C) "__call__" = some (some (.ref g))) (hf : PySem.W.isFn K (.ref g) = true) (hfn : PySem.W.fnIn K g = true)
    (h : codeAny (model prog w) A (.call (.ref g) ⟨.ref a :: us, kw⟩) R s) : codeAny (model prog w) A (.call (.ref a) ⟨us, kw⟩) R s := by
  refine codeAny_of_tree ?_
  show wpAny _ _ (callAny (.ref a) _) _ _ _
  refine PySem.W.nd_load e ?_
  show wpAny _ _ (callAny.viaDunder (.ref a) ⟨us, kw⟩) _ _ _
  unfold callAny.viaDunder
  have t1 : PySem.W.Looks (model prog w) s.heap (typeOf (.ref a)) (.ref C) := (PySem.W.Looks.ld (part := some .none) e).andThen .now
  refine wpAny_bind (wpAny_bind (t1.here ((PySem.W.looks_findIn X hs).here ?_)))
  refine wpAny_bind ((PySem.W.bind_fn X _ (beq_iff_eq.mp hf)).here ?_)
  unfold PySem.W.fnIn at hfn
  split at hfn
  · rename_i q
    have t2 : PySem.W.Looks (model prog w) s.heap (callAny.plainCallee (.ref g)) true := (PySem.W.Looks.ld (part := none) (X _ _ q)).andThen .now
    refine wpAny_bind (t2.here ?_)
    exact wpAny_pure ⟨rfl, h⟩
  · cases hfn
theorem callWith_inst {M : Model} {A : Around} {E : Value → Shared → Prop} {s : Shared} {pos : Pos} {f : Value} {first : List Value} {Q : Value → Shared → Prop} {P : Heap → Prop} {args : List (Bool × Sem Value)} {kws : List (Option Str × Sem Value)} (pl : (args.any (·.1) || kws.any (·.1.isNone)) = false)
    (hk : ∀ h, P h → PySem.W.Looks M h (keeperOf f) Keeper.caller) (h : wpAny M A (evalArgs f true args kws) (fun z s1 => P s1.heap ∧ wpAny M A (call f (first ++ z.pos) z.kw) Q E s1) E s) : wpAny M A (callWith pos f first args kws) Q E s := by
  unfold callWith
  refine wpAny_bind (wpAny_holding (wpAny_mono h (fun z s1 h1 => wpAny_bind (wpAny_standAt ?_)) fun _ _ e => e))
  simp only [pl]
  refine wpAny_bind ((hk _ h1.1).here ?_)
  dsimp only
  exact wpAny_bind (wpAny_operate' (wpAny_mono h1.2 (fun r s2 hr => wpAny_bind (wpAny_holding (wpAny_point (wpAny_pure hr)))) fun _ _ e => e))
end
section
variable {X : Cx} {k j : Nat} {C g : Addr} {fd : FuncData} {sp : Sp} {ps ks : List Str} {te : TE} {t tk : TA} {x m : Str} {p pos apos : Pos} {e o : Expr} {es : List Expr} {kws : List Keyword} {gl : List Value → List Value → List Value} {gV : List V → List V → List V}
def tObj (C : Addr) (sp : Sp) (te : TE) (t : TA) : TE := fun σ H Q => te σ H fun x H1 => t σ H1 fun vs H2 => ∃ a dx fs, x = .ref a ∧ H2 a = some (.ins C dx fs) ∧ sp (.ref a :: vs) H2 Q E0
/-- what the class of an object that is called must have -/
structure CallsO (K : PySem.W.Frag) (C g : Addr) : Prop where
  at_ : PySem.W.findIn K (.ref C) "__call__" = some (some (.ref g))
  fn : PySem.W.isFn K (.ref g) = true
  fi : PySem.W.fnIn K g = true
theorem obj_get {pins : List (Addr × Obj)} {σ : L2.St} {H : Hp} {s : Shared} {a dx : Addr} {fs : List (Str × V)} (I : Inv X pins σ H s) (e : H a = some (.ins C dx fs)) : s.heap.get? a = some (PySem.W.instObj C dx) :=
  let ⟨_, _, _, z, _⟩ := (show ObjOk X.prog X.w H s.heap a (.ins C dx fs) from I.hok a _ e)
  z
theorem pe_obj (he : PE X (.Name x p) te) (c : CallsO X.K C g) (F : FnOk X.prog X.w X.K X.mg X.base CX0 k g fd ps sp) (hr : Room k X.A) (hb : Binds X.K fd ps []) (ha : PA X (e :: es) t)
    (hst : starEach (e :: es) X.env = (false, eval e X.env) :: starEach es X.env := by rfl) (hpl : (backTo pos (starEach es X.env)).any (·.1) = false := by rfl) :
    PE X (.Call (.Name x p) (e :: es) [] pos) (tObj C sp te t) := by
  refine ⟨fun pins s σ H Q I h => ?_⟩
  refine wpAny_Call_Name_kw (thn (he.run pins s σ H _ I h) fun u s1 ⟨x, H1, I1, rx, q⟩ => ?_)
  have h0 : wpAny (model X.prog X.w) X.A (spliced (backTo pos (starEach (e :: es) X.env))) (fun us s2 => (∃ a dx, u = Value.ref a ∧ s2.heap.get? a = some (PySem.W.instObj C dx)) ∧ wpAny (model X.prog X.w) X.A (call u ([] ++ us)) (EP X pins σ Q) X.xe s2) X.xe s1 := by
    refine thn (ha.run pos pins s1 σ H1 _ I1 q) fun us s2 ⟨vs, H2, I2, r, a, dx, fs, ex, ea, q2⟩ => ?_
    subst ex
    obtain rfl : u = Value.ref a := rx
    have ob := obj_get I2 ea
    refine ⟨⟨a, dx, rfl, ob⟩, ?_⟩
    have hl : (Value.ref a :: us ++ []).length = ps.length := by
      rw [List.append_nil, ← F.len _ _ _ _ q2]
      show us.length + 1 = vs.length + 1
      rw [r.length]
    have bb := hb s2 (Value.ref a :: us) I2.kIn hl
    rw [List.append_nil] at bb
    refine wpAny_call (inst_call I2.kIn ob c.at_ c.fn c.fi (codeAny_mono (F.run X.A X.stack s2 H2 ⟨Value.ref a :: us, []⟩ (Value.ref a :: us) (V.ref a :: vs) Q E0 hr I2.env0 bb (.cons rfl r) q2) fun z s' hq => ?_))
    cases z with
    | error e => exact False.elim hq
    | ok fl =>
      cases fl with
      | ret u => exact I2.after hq
      | next => exact False.elim hq
      | brk => exact False.elim hq
      | cont => exact False.elim hq
  show wpAny _ _ (callWith pos u [] (backTo pos (starEach (e :: es) X.env)) []) _ _ _
  rw [hst] at h0 ⊢
  refine callWith_inst (P := fun h => ∃ a dx, u = Value.ref a ∧ h.get? a = some (PySem.W.instObj C dx)) ?_ (fun h ⟨a, dx, e1, e2⟩ => ?_) (Calls.evalArgs_plain h0)
  · show ((false || (backTo pos (starEach es X.env)).any (·.1)) || false) = false
    rw [hpl]
    rfl
  · subst e1
    exact keeper_inst e2
/-- o(k = v, ..) -/
def tObjK (C : Addr) (n : Nat) (sp : Sp) (gV : List V → List V → List V) (te : TE) (tk : TA) : TE := fun σ H Q => te σ H fun x H1 => tk σ H1 fun zs H2 => ∃ a dx fs, x = .ref a ∧ H2 a = some (.ins C dx fs) ∧ zs.length = n ∧ sp (gV [.ref a] zs) H2 Q E0
theorem pe_objK (he : PE X (.Name x p) te) (c : CallsO X.K C g) (F : FnOk X.prog X.w X.K X.mg X.base CX0 k g fd ps sp) (hr : Room k X.A) (hb : KBn X.K fd ps 1 ks gl gV) (hkw : PK X kws tk)
    (hall : (backToKw pos (keywordEach kws X.env)).all (·.1.isSome) = true := by rfl) (hks : (backToKw pos (keywordEach kws X.env)).filterMap (·.1) = ks := by rfl)
    (hpl : ((backTo pos (starEach [] X.env)).any (·.1) || (backToKw pos (keywordEach kws X.env)).any (·.1.isNone)) = false := by rfl) :
    PE X (.Call (.Name x p) [] kws pos) (tObjK C ks.length sp gV te tk) := by
  refine ⟨fun pins s σ H Q I h => ?_⟩
  refine wpAny_Call_Name_kw (thn (he.run pins s σ H _ I h) fun u s1 ⟨x, H1, I1, rx, q⟩ => ?_)
  refine callWith_inst (P := fun h => ∃ a dx, u = Value.ref a ∧ h.get? a = some (PySem.W.instObj C dx)) hpl (fun h ⟨a, dx, e1, e2⟩ => ?_) (evalArgs_kw2_nil hall ?_)
  · subst e1
    exact keeper_inst e2
  refine thn (hkw.run pos pins s1 σ H1 _ I1 q) fun ws s2 ⟨zs, H2, I2, rz, a, dx, fs, ex, ea, l2, q2⟩ => ?_
  subst ex
  obtain rfl : u = Value.ref a := rx
  have ob := obj_get I2 ea
  refine ⟨⟨a, dx, rfl, ob⟩, ?_⟩
  rw [hks]
  have e2 : ws.length = ks.length := rz.length.symm.trans l2
  refine wpAny_call (inst_call I2.kIn ob c.at_ c.fn c.fi (codeAny_mono (F.run X.A X.stack s2 H2 ⟨[Value.ref a], ks.zip ws⟩ (gl [Value.ref a] ws) (gV [V.ref a] zs) Q E0 hr I2.env0 (hb.to s2 [Value.ref a] ws I2.kIn rfl e2) (hb.rel (.cons rfl .nil) rz) q2) fun z s' hq => ?_))
  cases z with
  | error e => exact False.elim hq
  | ok fl =>
    cases fl with
    | ret u => exact I2.after hq
    | next => exact False.elim hq
    | brk => exact False.elim hq
    | cont => exact False.elim hq
/-- o.m(k = v, ..) -/
def tMethK (C : Addr) (m : Str) (n : Nat) (sp : Sp) (gV : List V → List V → List V) (ta : TE) (tk : TA) : TE := fun σ H Q => ta σ H fun x H1 => ∃ a dx fs, x = .ref a ∧ H1 a = some (.ins C dx fs) ∧ fs.lookup m = none ∧ tk σ H1 fun zs H2 => zs.length = n ∧ sp (gV [.ref a] zs) H2 Q E0
theorem pe_methK {pl : Sem Bool} (he : PE X o te) (c : Cls X.K C) (hm : Meth X.K C m g) (F : FnOk X.prog X.w X.K X.mg X.base CX0 k g fd ps sp) (hr : Room k X.A) (hb : KBn X.K fd ps 1 ks gl gV) (hkw : PK X kws tk)
    (hall : (backToKw pos (keywordEach kws X.env)).all (·.1.isSome) = true := by rfl) (hks : (backToKw pos (keywordEach kws X.env)).filterMap (·.1) = ks := by rfl)
    (hpl : ((backTo pos (starEach [] X.env)).any (·.1) || (backToKw pos (keywordEach kws X.env)).any (·.1.isNone)) = false := by rfl)
    (ht : eval (.Call (.Attribute o m apos) [] kws pos) X.env = (do
      let ov ← eval o X.env
      standAt apos.atName
      let (fn, fst) ← holding [ov] (getMethod ov m pl)
      callWith pos fn fst (backTo pos (starEach [] X.env)) (backToKw pos (keywordEach kws X.env))) := by rfl) :
    PE X (.Call (.Attribute o m apos) [] kws pos) (tMethK C m ks.length sp gV te tk) := by
  refine ⟨fun pins s σ H Q I h => ?_⟩
  refine PySem.W.methodCall_KW (pl := pl) (thn (he.run pins s σ H _ I h) fun u s1 ⟨x, H1, I1, rx, a, dx, fs, ex, ea, l, q⟩ => ?_) ht
  subst ex
  obtain rfl : u = Value.ref a := rx
  refine getmeth_ok I1 ea c hm l ?_
  refine PySem.W.callWith_KW0 (first := [.ref a]) (h₀ := X.base) I.ok.mod.kin hm.kp hall (thn (hkw.run pos pins s1 σ H1 _ I1 q) fun ws s2 ⟨zs, H2, I2, rz, l2, q2⟩ => ⟨I2.kIn, ?_⟩) hpl
  rw [hks]
  exact run_fnN (us := [.ref a]) (vs := [.ref a]) F hr hb pass0 I2 (.cons rfl .nil) rz rfl l2 q2
end
/-! ### == and != by an own __eq__ -/
section
variable {prog : Program} {w : World} {A : Around} {K : PySem.W.Frag} {C a g : Addr} {s : Shared} {ox : Obj} {od : Option Obj} {b tb : Value} {E : Value → Shared → Prop}
theorem rich_own {op : CmpOp} {Q : Value → Shared → Prop} (X : K.In s.heap) (J : PySem.W.InstAt s.heap a ox C od) (ht : PySem.W.Looks (model prog w) s.heap (typeOf b) tb) (hn : PySem.W.notFirst K C tb = true) (hu : A.units < cLine)
    (one : wpAny (model prog w) A (tryCompare (.ref a) (cmpInfo op).2.1 b) (fun r s' => ∃ v, r = some v ∧ Q v s') E s) : wpAny (model prog w) A (richCompare op (.ref a) b) Q E s := by
  have go : ∀ {k : Option Value → Sem Value}, (∀ v, k (some v) = pure v) → wpAny (model prog w) A (tryCompare (.ref a) (cmpInfo op).2.1 b >>= k) Q E s := fun {k} hk =>
    wpAny_bind (wpAny_mono one (fun r s' z => by
      obtain ⟨v, rfl, hq⟩ := z
      rw [hk v]
      exact wpAny_pure hq) fun _ _ e => e)
  unfold richCompare
  simp only [oneThing_ref]
  refine wpAny_holding (wpAny_bind (wpAny_cRoomFor hu (wpAny_bind (J.type.here (wpAny_bind (ht.here ?_))))))
  by_cases q : (Value.ref C != tb) = true
  · rw [if_pos q]
    have e : PySem.W.subIn K tb (.ref C) = some false := by
      rcases Bool.or_eq_true_iff.mp hn with z | z
      · have := beq_iff_eq.mp z
        subst this
        simp at q
      · exact beq_iff_eq.mp z
    refine wpAny_bind ((PySem.W.looks_subIn X e).here ?_)
    simp only [Bool.false_eq_true, if_false]
    exact go fun v => rfl
  · rw [if_neg q]
    refine wpAny_bind (wpAny_pure ?_)
    simp only [Bool.false_eq_true, if_false]
    exact go fun v => rfl
theorem try_eq {Q : Value → Shared → Prop} (X : K.In s.heap) (J : PySem.W.InstAt s.heap a ox C od) (hs : PySem.W.findIn K (.ref C) "__eq__" = some (some (.ref g))) (hf : PySem.W.isFn K (.ref g) = true)
    (h : wpAny (model prog w) A (call (.ref g) [.ref a, b]) (fun v s' => ∃ r, v = .bool r ∧ Q (.bool r) s') E s) : wpAny (model prog w) A (tryCompare (.ref a) "__eq__" b) (fun r s' => ∃ v, r = some v ∧ Q v s') E s := by
  unfold tryCompare
  refine wpAny_bind (PySem.W.ifBound_K X J hs hf (wpAny_mono h (fun v s' hv => ?_) fun _ _ e => e))
  obtain ⟨r, rfl, hq⟩ := hv
  exact wpAny_pure ⟨_, rfl, hq⟩
theorem try_ne {Q : Value → Shared → Prop} (X : K.In s.heap) (J : PySem.W.InstAt s.heap a ox C od) (hs : PySem.W.findIn K (.ref C) "__eq__" = some (some (.ref g))) (hf : PySem.W.isFn K (.ref g) = true)
    (hne : PySem.W.findIn K (.ref C) "__ne__" = some (some (.builtin "object.__ne__"))) (hob : PySem.W.mroIn K C (.type "object") = some true) (hu : A.units + 1 < cLine)
    (h : wpAny (model prog w) A.in1 (call (.ref g) [.ref a, b]) (fun v s' => ∃ r, v = .bool r ∧ Q (.bool (!r)) s') E s) : wpAny (model prog w) A (tryCompare (.ref a) "__ne__" b) (fun r s' => ∃ v, r = some v ∧ Q v s') E s := by
  have t2 : PySem.W.Looks (model prog w) s.heap (isInstance (.ref a) (.type "object")) true := J.type.andThen (PySem.W.looks_mroIn X hob)
  have main : wpAny (model prog w) A (call (.builtin "object.__ne__") [.ref a, b]) (fun v s' => ∃ r, v = .bool r ∧ Q (.bool r) s') E s := by
    refine wpAny_call (codeAny_call_builtin PySem.F.cmp_object.ne.plain PySem.F.cmpEntry_ne (@PySem.W.check_slot (model prog w) _ _ _ "object.__ne__" "object" "__ne__" (.ref a) [b] [] _ PySem.F.cmpKind_ne PySem.F.cmpSplit_ne t2 (PySem.F.cmpArgs_ne _ _) ?_))
    unfold Builtin.«object.__ne__»
    refine wpAny_bind (m := slotArgs _ _ _) (wpAny_pure ?_)
    refine wpAny_bind (wpAny_cRoomFor (by exact hu) ?_)
    refine wpAny_bind (m := callSpecialIfBound? _ _ _) (PySem.W.ifBound_K X J hs hf (wpAny_mono h (fun v s' hv => ?_) fun _ _ e => e))
    obtain ⟨r, rfl, hq⟩ := hv
    exact wpAny_bind (wpAny_truthy_bool (wpAny_pure ⟨_, rfl, hq⟩))
  unfold tryCompare
  refine wpAny_bind ?_
  simp only [callSpecialIfBound?, bindSpecialIfBound?]
  refine wpAny_holding (wpAny_bind (wpAny_bind (wpAny_bind (J.type.here ((PySem.W.looks_findIn X hne).here ?_)))))
  have fin : wpAny (model prog w) A (call (.builtin "object.__ne__") ([.ref a] ++ [b]) >>= fun v => pure (some v)) (fun r s' => wpAny (model prog w) A (match r with
      | some .notImplemented | none => pure none
      | some v => pure (some v)) (fun r s' => ∃ v, r = some v ∧ Q v s') E s') E s := wpAny_bind (wpAny_mono main (fun v s' hv => by
    obtain ⟨r, rfl, hq⟩ := hv
    exact wpAny_pure (wpAny_pure ⟨_, rfl, hq⟩)) fun _ _ e => e)
  simp only [PySem.F.cmp_object.ne.bind]
  refine wpAny_bind (wpAny_askSetting (wpAny_ite ?_))
  split
  · exact wpAny_bind (wpAny_pure (wpAny_pure fin))
  · exact wpAny_tryCatch (wpAny_bind (wpAny_pure (wpAny_pure fin)))
end
section
variable {X : Cx} {k j : Nat} {C g : Addr} {fd : FuncData} {sp : Sp} {ps : List Str}
def rEqO (K : PySem.W.Frag) (C : Addr) (sp : Sp) (neg : Bool) : R2 := fun x y H Q => ∃ a dx fs t, x = .ref a ∧ H a = some (.ins C dx fs) ∧ TyX K H y t ∧ PySem.W.notFirst K C t = true ∧ sp [.ref a, y] H (fun v H' => ∃ b, v = .bl b ∧ Q (.bl (if neg then !b else b)) H') E0
theorem op_eqO (F : FnOk X.prog X.w X.K X.mg X.base CX0 k g fd ps sp) (hr : Room k X.A) (hb : Binds X.K fd ps []) (hs : PySem.W.findIn X.K (.ref C) "__eq__" = some (some (.ref g))) (hf : PySem.W.isFn X.K (.ref g) = true) : OpR X (compareOp .Eq) (rEqO X.K C sp false) := by
  intro pins s σ H x y v u Q I rx ry h
  obtain ⟨a, dx, fs, t, rfl, ea, ty, nf, h⟩ := h
  obtain rfl : v = Value.ref a := rx
  obtain ⟨mA, O, _⟩ := ins_get I.hok ea
  obtain ⟨od, J, _⟩ := O.look
  obtain ⟨P, Z, p, _⟩ := kit_of I ry ty
  unfold compareOp
  refine rich_own (op := .Eq) I.kIn J (Z.ty _ _ I.kIn p) nf hr.units0 (try_eq I.kIn J hs hf (run_at (vs := [.ref a, y]) F hr hb I (.cons rfl (.cons ry .nil)) h fun v u H' s' I' rv q => ?_))
  obtain ⟨b, rfl, q⟩ := q
  obtain rfl : u = Value.bool b := rv
  exact ⟨b, rfl, .bl b, H', I', rfl, q⟩
theorem op_neO (F : FnOk X.prog X.w X.K X.mg X.base CX0 k g fd ps sp) (hr : Room (k + 1) X.A) (hb : Binds X.K fd ps []) (hs : PySem.W.findIn X.K (.ref C) "__eq__" = some (some (.ref g))) (hf : PySem.W.isFn X.K (.ref g) = true)
    (hne : PySem.W.findIn X.K (.ref C) "__ne__" = some (some (.builtin "object.__ne__"))) (hob : PySem.W.mroIn X.K C (.type "object") = some true) : OpR X (compareOp .NotEq) (rEqO X.K C sp true) := by
  intro pins s σ H x y v u Q I rx ry h
  obtain ⟨a, dx, fs, t, rfl, ea, ty, nf, h⟩ := h
  obtain rfl : v = Value.ref a := rx
  obtain ⟨mA, O, _⟩ := ins_get I.hok ea
  obtain ⟨od, J, _⟩ := O.look
  obtain ⟨P, Z, p, _⟩ := kit_of I ry ty
  unfold compareOp
  have hu := hr.un
  refine rich_own (op := .NotEq) I.kIn J (Z.ty _ _ I.kIn p) nf hr.units0 (try_ne I.kIn J hs hf hne hob (by omega) (run_in1 (vs := [.ref a, y]) F hr hb I (.cons rfl (.cons ry .nil)) h fun v u H' s' I' rv q => ?_))
  obtain ⟨b, rfl, q⟩ := q
  obtain rfl : u = Value.bool b := rv
  exact ⟨b, rfl, .bl (!b), H', I', rfl, q⟩
end
end Cr

namespace Cr
open PySem PySem.Spec PyProof.Rows L2 Xv
section
variable {K : PySem.W.Frag}
theorem tr_all {S : Addr → Prop} {H : Hp} : ∀ {ys : List V} {ds : List PyData}, Paired (fun y d => Dt K S H y d) ys ds → TrAll (Vw S H) ys ds
  | _, _, .nil => .nil
  | _, _, .cons h t => .cons h (tr_all t)
theorem dt_list {S : Addr → Prop} {H : Hp} {D : Addr} {ys : List V} {ds : List PyData} (hD : H D = some (.lst ys)) (h : Paired (fun y d => Dt K S H y d) ys ds) : Dt K (fun b => S b ∨ b = D) H (.ref D) (.list ds) :=
  .lst (by rw [vw_at (.inr rfl)]; exact hD) (tr_all (K := K) (pr_map h fun _ _ _ d => Dt.mono d fun b hb => .inl hb))
theorem dt_tup {S : Addr → Prop} {H : Hp} {D : Addr} {ys : List V} {ds : List PyData} (hD : H D = some (.tup ys)) (h : Paired (fun y d => Dt K S H y d) ys ds) : Dt K (fun b => S b ∨ b = D) H (.ref D) (.tuple ds) :=
  .tup (by rw [vw_at (.inr rfl)]; exact hD) (tr_all (K := K) (pr_map h fun _ _ _ d => Dt.mono d fun b hb => .inl hb))
/-- a list of data, written item by item: the i-th item is ds[i]; M: what no item may have -/
theorem lc_dat (M : Addr → Prop) {J : It} {n j : Nat} {G : Hp → Prop} {Y : Nat → Hp → V → Hp → Prop} (W : Walk J n G Y) {σ : L2.St} {H1 : Hp} {D : Addr} {te : TE} {ds : List PyData} {Qd : Hp → Prop} (hn : ds.length = n) (hz : n ≤ 1000) (hD : H1 D = none) (hG : ∀ H', Same H1 H' → G H')
    (hY : ∀ i H x H', Y i H x H' → H' = H)
    (step : ∀ i x d H' (Q : VK), i < n → ds[i]? = some d → Same H1 H' → (∃ ys, H' D = some (.lst ys)) → Y i H' x H' → (∀ H4 y S, Same H' H4 → (∀ b, S b → b ≠ D ∧ ¬ M b) → Dt K S H4 y d → Q y H4) → te ((wipe σ [j]).set j (some x)) H' Q)
    (hd : ∀ H2 S, Same H1 H2 → (∀ b, S b → b = D ∨ ¬ M b) → Dt K S H2 (.ref D) (.list ds) → Qd H2) :
    ∃ W : Nat → Nat → Hp → Prop, (∃ m, W 0 m (upd H1 D (.lst []))) ∧ ∀ i m H, W i m H →
      (J.stop i H ∧ Qd H) ∨ (J.go i H ∧ ∃ Nx : Hp → Prop, (∀ H', Nx H' → ∃ m', m' < m ∧ W (i + 1) m' H') ∧ ∀ x H', J.yld i H x H' → gName j x (wipe σ [j]) H' fun σ2 H2 => wipe σ2 [j] = wipe σ [j] ∧ tYes σ2 H2 fun b H3 =>
        if b = true then te σ2 H3 fun y H4 => ∃ acc, H4 D = some (.lst acc) ∧ acc.length < sizeLine ∧ Nx (upd H4 D (.lst (acc ++ [y]))) else Nx H3) := by
  refine lc_it W (fun i H' => ∃ (ys : List V) (S : Addr → Prop), ys.length = i ∧ H' D = some (.lst ys) ∧ Same H1 H' ∧ (∀ b, S b → b ≠ D ∧ ¬ M b) ∧ Paired (fun y d => Dt K S H' y d) ys (ds.take i))
    ⟨[], fun _ => False, rfl, upd_same, same_upd hD, fun _ z => z.elim, .nil⟩ (fun i H' _ ⟨_, _, _, _, s, _⟩ => hG _ s) (fun i x H' H'' hi e y => ?_) (fun H' e => ?_)
  · obtain rfl := hY _ _ _ _ y
    obtain ⟨ys, S, e1, e2, e3, e4, e5⟩ := e
    have hdi : ds[i]? = some (ds[i]'(by omega)) := List.getElem?_eq_getElem (by omega)
    refine ⟨wipe_back, ?_⟩
    unfold tYes
    dsimp only
    rw [if_pos rfl]
    refine step i x _ _ _ hi hdi e3 ⟨_, e2⟩ y fun H4 y S2 s4 n2 d4 => ?_
    have fr : Fr (fun b => b = D) H'' (upd H4 D (.lst (ys ++ [y]))) := Fr.set (Fr.of s4) rfl
    have fr2 : Fr (fun b => b = D) H4 (upd H4 D (.lst (ys ++ [y]))) := Fr.set (Fr.refl _ _) rfl
    refine ⟨ys, s4 _ _ e2, by rw [sizeLine_eq]; omega, ys ++ [y], fun b => S b ∨ S2 b, by rw [List.length_append, e1]; rfl, upd_same, fun b o q => ?_, fun b z => z.elim (e4 b) (n2 b), ?_⟩
    · rw [upd_ne (ne_of_none q hD)]
      exact s4 _ _ (e3 _ _ q)
    · rw [Xv.take_step hdi]
      refine pr_app (pr_map e5 fun l r _ d => Dt.mono (d.fr fr fun b hb => (e4 b hb).1) fun b hb => .inl hb) (.cons ?_ .nil)
      exact Dt.mono (d4.fr fr2 fun b hb => (n2 b hb).1) fun b hb => .inr hb
  · obtain ⟨ys, S, e1, e2, e3, e4, e5⟩ := e
    rw [← hn, List.take_length] at e5
    exact hd H' _ e3 (fun b hb => hb.elim (fun z => .inr (e4 b z).2) .inl) (dt_list e2 e5)
end
end Cr

namespace Cr
open PySem PySem.Spec PyProof.Rows L2 Xv
/-! ### == and != of dicts of two keys, their values data -/
def rEq2 (K : PySem.W.Frag) (neg : Bool) : R2 := fun x y H Q => ∃ a b k1 k2 v1 v2 w1 w2 d1 d2 e1 e2, x = .ref a ∧ y = .ref b ∧ H a = some (.dK [(k1, v1), (k2, v2)]) ∧ H b = some (.dK [(k1, w1), (k2, w2)]) ∧ k1 ≠ k2 ∧ (Dp K H v1 d1 ∧ Dp K H v2 d2 ∧ Dp K H w1 e1 ∧ Dp K H w2 e2) ∧
  (SeqAt.shaped d1 = true ∧ SeqAt.shaped d2 = true ∧ SeqAt.shaped e1 = true ∧ SeqAt.shaped e2 = true) ∧ Q (.bl (if neg then !(PyData.eqv d1 e1 && (PyData.eqv d2 e2 && true)) else (PyData.eqv d1 e1 && (PyData.eqv d2 e2 && true)))) H
section
variable {X : Cx}
theorem kv_two {k1 k2 : Key} {v1 v2 : V} {vs : List (Key × Value)} (h : KV [(k1, v1), (k2, v2)] vs) : ∃ u1 u2, vs = [(k1, u1), (k2, u2)] ∧ RelV v1 u1 ∧ RelV v2 u2 := by
  unfold KV at h
  cases h with
  | cons h1 t => cases t with
    | cons h2 t2 =>
      cases t2
      rename_i q1 q2
      obtain ⟨a1, b1⟩ := q1
      obtain ⟨a2, b2⟩ := q2
      obtain ⟨e1, r1⟩ := h1
      obtain ⟨e2, r2⟩ := h2
      dsimp only at e1 e2 r1 r2
      subst e1
      subst e2
      exact ⟨b1, b2, rfl, r1, r2⟩
theorem eq2_hits {pins : List (Addr × Obj)} {σ : L2.St} {H : Hp} {s : Shared} {k1 k2 : Key} {v1 v2 w1 w2 : V} {d1 d2 e1 e2 : PyData} {u1 u2 y1 y2 : Value} (hu : X.A.units + 128 < cLine) (I : Inv X pins σ H s) (nk : k1 ≠ k2) (r1 : RelV v1 u1) (r2 : RelV v2 u2) (z1 : RelV w1 y1) (z2 : RelV w2 y2)
    (hd : Dp X.K H v1 d1 ∧ Dp X.K H v2 d2 ∧ Dp X.K H w1 e1 ∧ Dp X.K H w2 e2) (hs : SeqAt.shaped d1 = true ∧ SeqAt.shaped d2 = true ∧ SeqAt.shaped e1 = true ∧ SeqAt.shaped e2 = true) :
    PySem.W.KeqHits X.A.in1 s [(k1, y1), (k2, y2)] [(k1, u1), (k2, u2)] (PyData.eqv d1 e1 && (PyData.eqv d2 e2 && true)) := by
  obtain ⟨D1, D2, E1, E2⟩ := hd
  obtain ⟨s1, s2, t1, t2⟩ := hs
  obtain ⟨_, a1⟩ := Dp.reads I d1 _ _ D1 r1
  obtain ⟨_, a2⟩ := Dp.reads I d2 _ _ D2 r2
  obtain ⟨_, b1⟩ := Dp.reads I e1 _ _ E1 z1
  obtain ⟨_, b2⟩ := Dp.reads I e2 _ _ E2 z2
  have hu1 : X.A.in1.units + 64 < cLine := by show X.A.units + 1 + 64 < cLine; omega
  refine .hit (y := y1) ?_ (SeqAt.eqAt_reads _ _ _ _ _ _ _ _ a1 b1 (SeqAt.canLay_of_shaped s1) (SeqAt.canLay_of_shaped t1) (SeqAt.room_of_shaped s1 hu1)) (.hit (y := y2) ?_ (SeqAt.eqAt_reads _ _ _ _ _ _ _ _ a2 b2 (SeqAt.canLay_of_shaped s2) (SeqAt.canLay_of_shaped t2) (SeqAt.room_of_shaped s2 hu1)) .nil)
  · unfold valueAt
    rw [List.find?_cons_of_pos (by simp)]
    rfl
  · unfold valueAt
    rw [List.find?_cons_of_neg (by simpa using nk), List.find?_cons_of_pos (by simp)]
    rfl
theorem op_eq2 (hu : X.A.units + 128 < cLine) : OpR X (compareOp .Eq) (rEq2 X.K false) := by
  intro pins s σ H x y v u Q I rx ry h
  obtain ⟨a, b, k1, k2, v1, v2, w1, w2, d1, d2, e1, e2, rfl, rfl, ea, eb, nk, hd, hs, q⟩ := h
  obtain rfl : v = Value.ref a := rx
  obtain rfl : u = Value.ref b := ry
  obtain ⟨_, ya, va, ra, da⟩ := (show ObjOk X.prog X.w H s.heap a (.dK [(k1, v1), (k2, v2)]) from I.hok a _ ea)
  obtain ⟨_, yb, vb, rb, db⟩ := (show ObjOk X.prog X.w H s.heap b (.dK [(k1, w1), (k2, w2)]) from I.hok b _ eb)
  obtain ⟨u1, u2, rfl, r1, r2⟩ := kv_two ra
  obtain ⟨y1, y2, rfl, z1, z2⟩ := kv_two rb
  exact PySem.W.keq_eq (knd := mixKind X.prog X.w) ya yb da db (by omega) (fun _ => eq2_hits hu I nk r1 r2 z1 z2 hd hs) ⟨.bl _, H, I, rfl, q⟩
theorem op_ne2 (hu : X.A.units + 128 < cLine) : OpR X (compareOp .NotEq) (rEq2 X.K true) := by
  intro pins s σ H x y v u Q I rx ry h
  obtain ⟨a, b, k1, k2, v1, v2, w1, w2, d1, d2, e1, e2, rfl, rfl, ea, eb, nk, hd, hs, q⟩ := h
  obtain rfl : v = Value.ref a := rx
  obtain rfl : u = Value.ref b := ry
  obtain ⟨_, ya, va, ra, da⟩ := (show ObjOk X.prog X.w H s.heap a (.dK [(k1, v1), (k2, v2)]) from I.hok a _ ea)
  obtain ⟨_, yb, vb, rb, db⟩ := (show ObjOk X.prog X.w H s.heap b (.dK [(k1, w1), (k2, w2)]) from I.hok b _ eb)
  obtain ⟨u1, u2, rfl, r1, r2⟩ := kv_two ra
  obtain ⟨y1, y2, rfl, z1, z2⟩ := kv_two rb
  exact PySem.W.keq_ne (knd := mixKind X.prog X.w) ya yb da db (by omega) (fun _ => eq2_hits hu I nk r1 r2 z1 z2 hd hs) ⟨.bl _, H, I, rfl, q⟩
end
end Cr

set_option maxHeartbeats 0
namespace Cr
open PySem PySem.Spec PyProof.Rows L2 Xv
/-- the end, where the written part is known by what it says -/
theorem walkGE {l : PySem.W.OpenLaw} {n k : Nat} {q : Program} {loose : List Str} {XP : (Str → Option Value) → Heap → Prop} {YP : World → Heap → Prop} {d : DefRec} {x : Str}
    (hn : l.most = some n) (hn2 : n ≤ sizeLine) (hdf : d.params.defaults = []) (hr : Room k callerA)
    (F : ∀ (w : World) (mg : Str → Option Value) (fa : Addr) (h : Heap), YP w h → h.Ns mainGlobals mg → mg d.name = some (.ref fa) →
      ∃ (K : PySem.W.Frag) (fd : FuncData) (sp : Sp), K.In h ∧ (∀ (s : Shared) (u : Value), BindsTo s fd ⟨[u], []⟩ [(x, u)]) ∧ (∀ (H : Hp) (a : Addr) (ns : List Int), ns.length ≤ n → Only H → SqL K H a (ns.map V.int) → sp [.ref a] H (fun v _ => v = .bl true) E0) ∧
        ∀ base : Heap, K.In base → base.Ns mainGlobals mg → FnG l.prog w K mg base k fa fd [x] sp) :
    PySem.W.WalkO q loose XP YP l.row.toRowW d [] (fun f vs => PySem.call f vs) := by
  refine Att.attach_call hn hdf (fun w s₀ s₁ mg mb fa o pm cd doc a vs ns G Y ho hd hcd hmg hobj hints hlen hg => ?_)
  obtain ⟨K, fd, sp, KX, hb, hsp, hF⟩ := F w mg fa _ Y G.T.g hmg
  exact law_callG KX G.T.g G.T.b G.T.builtins G.T.nolimit hg hobj hints (Nat.le_trans hlen hn2) hr hF hb (fun H hO hS => hsp H a ns hlen hO hS)
/-! ### what of the heap is looked at -/
def valsO (o : Obj) : List Addr := match o.data with
  | .dict es _ => es.toList.flatMap fun e => He.refV e.val
  | _ => []
def nsO (o : Obj) : List Addr := match o.data with
  | .cls cd => [cd.ns]
  | _ => []
def fnO (o : Obj) : List Addr := match o.data with
  | .func fd => He.refV fd.code ++ fd.closure.map (·.2)
  | _ => []
def at0 (g : Addr → Option Obj) (f : Obj → List Addr) (a : Addr) : List Addr := match g a with
  | some o => f o
  | none => []
/-- a property's defs -/
def prO (o : Obj) : List Addr := match o.data with
  | .fields vs => vs.toList.flatMap He.refV
  | _ => []
def dfO (o : Obj) : List Addr := match o.data with
  | .func fd => He.refV fd.defaults
  | _ => []
def asK (g : Addr → Option Obj) : List Addr :=
  let v := at0 g valsO mainGlobals
  let n := v.flatMap (at0 g nsO)
  let m := n.flatMap (at0 g valsO)
  let r := m.flatMap (at0 g prO)
  mainGlobals :: cStatics :: (v ++ (n ++ (m ++ (r ++ (v.flatMap (at0 g dfO) ++ (v ++ (m ++ r)).flatMap (at0 g fnO))))))
abbrev FnS : Type := Option (Str × Str × Arguments × FuncBody × Scope × Addr × List Str × Value × Addr)
def fnS (K : PySem.W.Frag) (a : Addr) : FnS := match K.lookup a with
  | some ⟨_, _, .func fd, _⟩ => some (fd.name, fd.qualname, fd.params, fd.body, fd.scope, fd.globals, fd.closure.map (·.1), fd.defaults, fd.builtins)
  | _ => none
def codeS (K : PySem.W.Frag) (a : Addr) (q : Str) : Bool := match K.lookup a with
  | some ⟨_, _, .func fd, _⟩ => PySem.W.codeIn K fd.code q
  | _ => false
theorem fnS_ok {K : PySem.W.Frag} {a : Addr} {x q : Str} {st : Stmt} (e : fnS K a = (some (x, q, defArgs st, FuncBody.stmts (defBody st), defScope st, mainGlobals, [], Value.none, builtinsNs) : FnS)) (c : codeS K a q = true) (k : PySem.W.keepIn K (.ref a) = true) : ∃ fd, Fun K x q st a fd := by
  unfold fnS at e
  unfold codeS at c
  cases z : K.lookup a with
  | none =>
    rw [z] at c
    cases c
  | some o =>
    obtain ⟨oc, od, dt, osl⟩ := o
    rw [z] at c e
    cases dt with
    | func fd =>
      obtain ⟨n1, n2, n3, n4, n5, n6, n7, n8, n9, n10, n11, n12, n13, n14, n15⟩ := fd
      have e2 : (some (n1, n2, n3, n4, n5, n6, n7.map (·.1), n8, n15) : FnS) = _ := e
      simp only [Option.some.injEq, Prod.mk.injEq] at e2
      obtain ⟨h1, h2, h3, h4, h5, h6, h7, h8, h9⟩ := e2
      obtain rfl := List.map_eq_nil_iff.mp h7
      subst h1 h2 h3 h4 h5 h6 h8 h9
      exact ⟨_, fun_mk (st := st) z c k⟩
    | _ => cases c
/-- a def with None as its one default -/
def dflN (K : PySem.W.Frag) (a : Addr) : Bool := match K.lookup a with
  | some ⟨_, _, .func fd, _⟩ => (match fd.defaults with
    | .ref T => (match K.lookup T with
      | some o => (match o.data with
        | .seq its _ => decide (its.toList = [Value.none])
        | _ => false)
      | none => false)
    | _ => false)
  | _ => false
def fnSD (K : PySem.W.Frag) (a : Addr) : Option (Str × Str × Arguments × FuncBody × Scope × Addr × List Str × Addr) := match K.lookup a with
  | some ⟨_, _, .func fd, _⟩ => some (fd.name, fd.qualname, fd.params, fd.body, fd.scope, fd.globals, fd.closure.map (·.1), fd.builtins)
  | _ => none
theorem fnD_ok {K : PySem.W.Frag} {a : Addr} {x q : Str} {st : Stmt} (e : fnSD K a = some (x, q, defArgs st, FuncBody.stmts (defBody st), defScope st, mainGlobals, [], builtinsNs)) (c : codeS K a q = true) (k : PySem.W.keepIn K (.ref a) = true) (d : dflN K a = true) : ∃ fd, FunD K x q (defArgs st) (defBody st) (defScope st) [V.non] [] a fd := by
  unfold fnSD at e
  unfold codeS at c
  unfold dflN at d
  cases z : K.lookup a with
  | none =>
    rw [z] at c
    cases c
  | some o =>
    obtain ⟨oc, od, dt, osl⟩ := o
    rw [z] at c e d
    cases dt with
    | func fd =>
      obtain ⟨n1, n2, n3, n4, n5, n6, n7, n8, n9, n10, n11, n12, n13, n14, n15⟩ := fd
      have e2 : some (n1, n2, n3, n4, n5, n6, n7.map (·.1), n15) = _ := e
      simp only [Option.some.injEq, Prod.mk.injEq] at e2
      obtain ⟨h1, h2, h3, h4, h5, h6, h7, h9⟩ := e2
      obtain rfl := List.map_eq_nil_iff.mp h7
      cases n8 with
      | ref T =>
        dsimp only at d
        cases ho : K.lookup T with
        | none =>
          rw [ho] at d
          cases d
        | some o2 =>
          rw [ho] at d
          dsimp only at d
          cases hi : o2.data with
          | seq its m =>
            rw [hi] at d
            have hl := of_decide_eq_true d
            have hl2 : its = #[Value.none] := Array.toList_inj.mp hl
            subst h1 h2 h3 h4 h5 h6 h9 hl2
            exact ⟨_, ⟨⟨oc, od, _, _, _, _, _, _, _, osl, rfl, z, c, .inr ⟨by simp, T, o2, [Value.none], m, rfl, ho, hi, .cons rfl .nil⟩, .inl rfl⟩, k⟩⟩
          | _ =>
            rw [hi] at d
            cases d
      | _ => cases d
    | _ => cases c
theorem tab_of {α : Type} {n : Nat} {f g : Nat → α} (h : (List.range n).map f = (List.range n).map g) : ∀ i, i < n → f i = g i := fun i hi => by
  have := congrArg (·[i]?) h
  simpa [hi] using this
def Fn (K : PySem.W.Frag) (x qual : Str) (st : Stmt) (f : Addr) : Prop := ∃ fd, Fun K x qual st f fd
def Dn (K : PySem.W.Frag) (mg : Str → Option Value) (x : Str) (st : Stmt) : Prop := ∃ f, mg x = some (.ref f) ∧ Fn K x x st f
section
variable {P : Program} {w : World} {K : PySem.W.Frag} {mg : Str → Option Value} {base : Heap} {k : Nat} {x : Str} {st : Stmt} {ps : List Str} {sp : Sp}
theorem cl_mk (D : Dn K mg x st) (ok : ∀ f fd, Fun K x x st f fd → FnOk P w K mg base CX0 k f fd ps sp)
    (hb : ∀ (kV doc pm : Value) (an : Option Addr) (cdv ct : Value) (us : List Value), us.length = ps.length → bindArgs (PySem.W.fnOf x x (defArgs st) (defBody st) (defScope st) .none kV doc pm an cdv ct) ⟨us, []⟩ = pure (ps.zip us)) : Xv.Cl P w K mg base k x sp := by
  obtain ⟨f, gm, fd, F⟩ := D
  exact ⟨f, fd, ps, ok f fd F, gm, F.kp, F.binds hb⟩
theorem clg_mk (D : Dn K mg x st) (ok : ∀ f fd, Fun K x x st f fd → FnG P w K mg base k f fd ps sp)
    (hb : ∀ (kV doc pm : Value) (an : Option Addr) (cdv ct : Value) (us : List Value), us.length = ps.length → bindArgs (PySem.W.fnOf x x (defArgs st) (defBody st) (defScope st) .none kV doc pm an cdv ct) ⟨us, []⟩ = pure (ps.zip us)) : Xv.ClG P w K mg base k x sp := by
  obtain ⟨f, gm, fd, F⟩ := D
  exact ⟨f, fd, ps, ok f fd F, gm, F.kp, F.binds hb⟩
/-- keywords for the two parameters behind the first, the second one first -/
theorem kb_two {qual a b c : Str} {f : Addr} {fd : FuncData} (F : Fun K x qual st f fd)
    (hk : ∀ (kV doc pm : Value) (an : Option Addr) (cdv ct u v w : Value), bindArgs (PySem.W.fnOf x qual (defArgs st) (defBody st) (defScope st) .none kV doc pm an cdv ct) ⟨[u], [(c, v), (b, w)]⟩ = pure ((([a, b, c] : List Str)).zip [u, w, v])) :
    KBn K fd [a, b, c] 1 [c, b] (fun us ws => us ++ ws.reverse) (fun vs zs => vs ++ zs.reverse) := by
  obtain ⟨oc, od, kV, doc, pm, an, cdv, ct, osl, rfl, lk, hc⟩ := F.ex
  exact ⟨fun s us ws X l1 l2 => match us, l1, ws, l2 with | [u], _, [v, w], _ => .of_eq (hk kV doc pm an cdv ct u v w), fun r1 r2 => Vals.append r1 (Vals.reverse r2)⟩
end
end Cr

/-! own exceptions of any depth, raised -/
namespace Cr
open PySem PySem.Spec PyProof.Rows L2 Xv
section
variable {X : Cx} {k : Nat} {C fI : Addr} {fd : FuncData} {ps ks : List Str} {sp : Sp} {x f g : Str} {p pos : Pos} {e e2 : Expr} {es : List Expr} {ta tk : TA} {B newId initId : String} {bmB : List Value}
theorem run_mk {pins : List (Addr × Obj)} {σ : L2.St} {H : Hp} {s : Shared} {Q : XK} {us : List Value} {kw : List (Str × Value)} (b : Bas B newId initId bmB) (T : ExT X.K C fI newId bmB) (R : Raises X (.ref C)) (F1 : FnOk X.prog X.w X.K X.mg X.base CX0 k fI fd ps sp) (hr : Room (k + 1) X.A)
    (I : Inv X pins σ H s) (hz : us.length ≤ 1000) {al : Addr → List V} {bl : Addr → List Value} (hbl : ∀ a, Vals (al a) (bl a)) (hbind : ∀ a s', X.K.In s'.heap → BindsTo s' fd ⟨.ref a :: us, kw⟩ (ps.zip (bl a)))
    (h : ∀ a, H a = none → sp (al a) (upd H a (exo a C none)) (fun v H2 => v = .non ∧ ∃ d fs, H2 a = some (exo a C (some d)) ∧ H2 d = some (exd d fs) ∧ H d = none ∧ Q (.ref C) (some d) (upd (L2.del H2 a) d (.xd fs))) E0) :
    wpAny (model X.prog X.w) X.A (call (.ref C) us kw) (MkP X pins σ Q) X.xe s := by
  obtain ⟨nm, N', qn, bs, bm, hdct, sn, sub, ab, col, dd, k0, k1, k2, k3, k5, hC, hT⟩ := PySem.W.excInit_of I.kIn T.ini
  obtain ⟨hp, gg, dr, tk, os⟩ := s
  have hn : H (hp.objs.size + 1) = none := I.hok.fresh (Nat.le_succ _)
  have kk : ∀ b o, hp.get? b = some o → ((hp.push (PySem.W.kdv_tup us)).push (PySem.HandSPX.excO C hp.objs.size)).get? b = some o := fun b o e => Heap.get?_push_of_some _ (Heap.get?_push_of_some _ e)
  have hget : ((hp.push (PySem.W.kdv_tup us)).push (PySem.HandSPX.excO C hp.objs.size)).get? (hp.objs.size + 1) = some (PySem.HandSPX.excO C hp.objs.size) := by heap_get
  have I2 : Inv X pins σ (upd H (hp.objs.size + 1) (exo (hp.objs.size + 1) C none)) ⟨(hp.push (PySem.W.kdv_tup us)).push (PySem.HandSPX.excO C hp.objs.size), gg, dr, tk, os⟩ :=
    I.laid (t' := tk) (a := hp.objs.size + 1) (o := exo (hp.objs.size + 1) C none) (h' := (hp.push (PySem.W.kdv_tup us)).push (PySem.HandSPX.excO C hp.objs.size)) kk (Nat.le_succ _) (exo_ok hget)
  have hus : us.length ≤ sizeLine := by
    rw [sizeLine_eq]
    omega
  refine wpAny_call (PySem.Xv.call_kw b.F hT hC (PySem.W.looks_findIn I.kIn T.iC) (fun self => PySem.W.bind_fn I.kIn self (beq_iff_eq.mp T.fn)) hus
    (codeAny_mono (F1.run _ X.stack _ _ ⟨Value.ref (hp.objs.size + 1) :: us, kw⟩ _ _ _ E0 (hr.make C us kw) (I2.env0.make C us kw) (hbind _ _ I2.kIn) (hbl (hp.objs.size + 1)) (h _ hn)) fun r s' hq' => ?_))
  cases r with
  | error er => exact False.elim hq'
  | ok fl =>
    cases fl with
    | ret u =>
      obtain ⟨v, H2, os2, bare2, un2, hok2, rv, ev, d, fs, ea, ed, hd1, q2⟩ := hq'
      subst ev
      obtain ⟨h2, g2, d2, t2, os'⟩ := s'
      exact ⟨rv, mk_end R I (Nat.le_succ _) kk un2 hok2 os2 bare2 ea ed hd1 q2⟩
    | next => exact False.elim hq'
    | brk => exact False.elim hq'
    | cont => exact False.elim hq'
/-- C(e, ..), to be raised -/
def tMkX (C : Addr) (ta : TA) (fo : List V → List (Str × V)) (n : Nat) : L2.St → Hp → XK → Prop := fun σ H Q => ta σ H fun vs H1 => vs.length = n ∧ ∀ d, H1 d = none → Q (.ref C) (some d) (upd H1 d (.xd (fo vs)))
theorem upd_del {H1 H2 : Hp} {a d : Addr} {o o1 : HO} (ha : H1 a = none) (hd : H1 d = none) (same : ∀ b, b ≠ a → b ≠ d → H2 b = H1 b) : upd (L2.del H2 a) d o = upd H1 d o := by
  funext b
  by_cases e : b = d
  · rw [e, upd_same, upd_same]
  · rw [upd_ne e, upd_ne e]
    by_cases e2 : b = a
    · rw [e2, del_same, ha]
    · rw [del_ne e2]
      exact same b e2 e
theorem pmk_1 (c : Ex1 X.prog X.w X.K X.mg X.base x C f) (R : Raises X (.ref C)) (hr : Room k X.A) (hk : 2 ≤ k) (hg : Gl X x) (ha : PA X [e] ta) (hdb : (x == ("__debug__" : Str)) = false := by decide) (he : starEach [e] X.env = (false, eval e X.env) :: starEach [] X.env := by rfl) :
    PMk X (.Call (.Name x p) [e] [] pos) (tMkX C ta (fun vs => [(f, vs.headD .non)]) 1) := by
  obtain ⟨fI, fd, B, newId, initId, bmB, b, T, F, bi, _⟩ := c.ex
  intro pins s σ H Q I h
  refine wpAny_Call_Name_kw (ld_glob I hg c.gm ?_ hdb)
  refine PySem.W.callWith_K (h₀ := X.base) I.ok.mod.kin T.kC (thn (ha.run pos pins s σ H _ I h) fun us s1 ⟨vs, H1, I1, r1, hz, q1⟩ => ⟨I1.kIn, ?_⟩) he (by rfl)
  match vs, hz with
  | [v], _ =>
    have hl : us.length = 1 := by rw [← r1.length] <;> rfl
    refine run_mk (al := fun a => [.ref a, v]) (bl := fun a => .ref a :: us) b T R F (hr.mono hk) I1 (by show us.length ≤ 1000; omega) (fun a => .cons rfl r1)
      (fun a s' ki => by
        have z := bi s' (.ref a :: us) ki (by rw [List.append_nil, List.length_cons, hl] <;> rfl)
        rw [List.append_nil] at z
        exact z) fun a n => ?_
    refine ⟨a, v, rfl, upd_same, fun dx nd ne => ⟨rfl, dx, [(f, v)], upd_same, by rw [upd_ne ne, upd_same], by rw [upd_ne ne] at nd; exact nd, ?_⟩⟩
    rw [upd_ne ne] at nd
    rw [upd_del (o1 := .own a) n nd (fun b h1 h2 => by rw [upd_ne h1, upd_ne h2, upd_ne h1])]
    exact q1 dx nd
theorem pmk_2 (c : Ex2 X.prog X.w X.K X.mg X.base x C f g) (R : Raises X (.ref C)) (hr : Room k X.A) (hk : 2 ≤ k) (hg : Gl X x) (ha : PA X [e, e2] ta) (hdb : (x == ("__debug__" : Str)) = false := by decide) (he : starEach [e, e2] X.env = (false, eval e X.env) :: starEach [e2] X.env := by rfl)
    (hpl : (backTo pos (starEach [e2] X.env)).any (·.1) = false := by rfl) :
    PMk X (.Call (.Name x p) [e, e2] [] pos) (fun σ H Q => ta σ H fun vs H1 => vs.length = 2 ∧ ∀ d H', Same H1 H' → H1 d = none → H' d = some (.xd [(g, vs.getD 1 .non), (f, vs.headD .non)]) → Q (.ref C) (some d) H') := by
  obtain ⟨fI, fd, B, newId, initId, bmB, b, T, F, bi, _⟩ := c.ex
  intro pins s σ H Q I h
  refine wpAny_Call_Name_kw (ld_glob I hg c.gm ?_ hdb)
  refine PySem.W.callWith_K (h₀ := X.base) I.ok.mod.kin T.kC (thn (ha.run pos pins s σ H _ I h) fun us s1 ⟨vs, H1, I1, r1, hz, q1⟩ => ⟨I1.kIn, ?_⟩) he hpl
  match vs, hz with
  | [v, v2], _ =>
    have hl : us.length = 2 := by rw [← r1.length] <;> rfl
    refine run_mk (al := fun a => [.ref a, v, v2]) (bl := fun a => .ref a :: us) b T R F (hr.mono hk) I1 (by show us.length ≤ 1000; omega) (fun a => .cons rfl r1)
      (fun a s' ki => by
        have z := bi s' (.ref a :: us) ki (by rw [List.append_nil, List.length_cons, hl] <;> rfl)
        rw [List.append_nil] at z
        exact z) fun a n => ?_
    refine ⟨a, v, v2, rfl, upd_same, fun dx nd ne H' sm ea ed => ⟨rfl, dx, _, ea, ed, by rw [upd_ne ne] at nd; exact nd, ?_⟩⟩
    rw [upd_ne ne] at nd
    refine q1 dx _ (fun y o hy => ?_) nd upd_same
    have ya : y ≠ a := ne_of_none hy n
    rw [upd_ne (ne_of_none hy nd), del_ne ya]
    have z := sm y o (by rw [upd_ne ya]; exact hy)
    simp only [if_neg ya] at z
    exact z
end
end Cr

/-! new rows out of rows -/
namespace Cr
open PySem PySem.Spec PyProof.Rows L2 Xv
theorem pr_mem2 {α β : Type} {F : α → β → Prop} : ∀ {as : List α} {bs : List β} {a : α}, Paired F as bs → a ∈ as → ∃ b, F a b
  | _, _, _, .nil, h => nomatch h
  | _, _, _, .cons h t, m => by
    rcases List.mem_cons.mp m with z | z
    · exact ⟨_, z ▸ h⟩
    · exact pr_mem2 t z
/-- a new row out of a row: g of each entry, as te reads it -/
theorem map_lc {K : PySem.W.Frag} {J : It} {G : Hp → Prop} {es : List V} {r : Rw} {σ : L2.St} {H1 : Hp} {D : Addr} {Qd : Hp → Prop} {vs : List Nat} {i1 i2 : Nat} {te : TE} {g : Int × Int → Int × Int} (W : Walk J es.length G (YAt es)) (hG : ∀ H', Same H1 H' → G H') (hp : Paired (fun x (e : Int × Int) => ∃ t, x = V.ref t ∧ H1 t = some (.tup [.int e.1, .int e.2])) es r) (hz : es.length ≤ 1000) (hD : H1 D = none)
    (hw : ∀ v w, wipe (((wipe σ vs).set i1 (some v)).set i2 (some w)) vs = wipe σ vs)
    (hte : ∀ (e : Int × Int) (H3 : Hp) (Qv : VK), e ∈ r → Same H1 H3 → (∀ H4 t, Same H3 H4 → H3 t = none → H4 t = some (.tup [.int (g e).1, .int (g e).2]) → Qv (.ref t) H4) → te (((wipe σ vs).set i1 (some (.int e.1))).set i2 (some (.int e.2))) H3 Qv)
    (hd : ∀ H2 S, Same H1 H2 → (∀ b, S b → Nw H1 H2 b) → Dt K S H2 (.ref D) (rowD (r.map g)) → Qd H2) :
    ∃ W : Nat → Nat → Hp → Prop, (∃ m, W 0 m (upd H1 D (.lst []))) ∧ ∀ i m H, W i m H →
      (J.stop i H ∧ Qd H) ∨ (J.go i H ∧ ∃ Nx : Hp → Prop, (∀ H', Nx H' → ∃ m', m' < m ∧ W (i + 1) m' H') ∧ ∀ x H', J.yld i H x H' → gTup K 2 (gCons (gName i1) (gCons (gName i2) gNil)) x (wipe σ vs) H' fun σ2 H2 => wipe σ2 vs = wipe σ vs ∧ tYes σ2 H2 fun b H3 =>
        if b = true then te σ2 H3 fun y H4 => ∃ acc, H4 D = some (.lst acc) ∧ acc.length < sizeLine ∧ Nx (upd H4 D (.lst (acc ++ [y]))) else Nx H3) := by
  have hl : es.length = r.length := Paired.length hp
  refine lc_it W (fun i H' => ∃ ts : List Addr, ts.length = i ∧ H' D = some (.lst (ts.map V.ref)) ∧ Same H1 H' ∧ (∀ t ∈ ts, H1 t = none ∧ t ≠ D) ∧ Paired (fun t (e : Int × Int) => H' t = some (.tup [.int (g e).1, .int (g e).2])) ts (r.take i))
    ⟨[], rfl, upd_same, same_upd hD, by simp, .nil⟩ (fun i H' _ ⟨_, _, _, s, _⟩ => hG _ s) (fun i x H' H'' hi e y => ?_) (fun H' e => ?_)
  · obtain ⟨rfl, hx⟩ := y
    obtain ⟨ts, e1, e2, e3, e4, e5⟩ := e
    obtain ⟨e, he, t0, rfl, ht0⟩ := Xv.paired_get hp hx
    refine ⟨t0, _, rfl, .inl (.inl (e3 _ _ ht0)), rfl, _, _, rfl, _, _, rfl, ⟨rfl, hw _ _, ?_⟩⟩
    unfold tYes
    dsimp only
    rw [if_pos rfl]
    refine hte e H'' _ (List.mem_of_getElem? he) e3 fun H4 t s4 nt ht => ?_
    have ntD : D ≠ t := ne_of_none e2 nt
    have nt1 : H1 t = none := e3.free nt
    refine ⟨_, s4 _ _ e2, by rw [List.length_map, sizeLine_eq]; omega, ts ++ [t], by rw [List.length_append, e1]; rfl, by rw [upd_same, List.map_append]; rfl, fun b o q => ?_, fun s hs => ?_, ?_⟩
    · rw [upd_ne (ne_of_none q hD)]
      exact s4 _ _ (e3 _ _ q)
    · rcases List.mem_append.mp hs with z | z
      · exact e4 s z
      · rw [List.mem_singleton.mp z]
        exact ⟨nt1, ntD.symm⟩
    · rw [Xv.take_step he]
      refine pr_app (pr_map e5 fun s e' hs q => ?_) (.cons ?_ .nil)
      · rw [upd_ne (e4 s hs).2]
        exact s4 _ _ q
      · rw [upd_ne ntD.symm]
        exact ht
  · obtain ⟨ts, e1, e2, e3, e4, e5⟩ := e
    rw [hl, List.take_length] at e5
    refine hd H' (fun b => b = D ∨ b ∈ ts) e3 (fun b hb => ?_) ?_
    · rcases hb with z | z
      · subst z
        exact ⟨hD, by rw [e2]; simp⟩
      · obtain ⟨e, q⟩ := pr_mem2 e5 z
        exact ⟨(e4 b z).1, by rw [q]; simp⟩
    · refine .lst (by rw [vw_at (.inl rfl)]; exact e2) ?_
      have all : ∀ {us : List Addr} {q : Rw}, (∀ t ∈ us, t ∈ ts) → Paired (fun t (e : Int × Int) => H' t = some (.tup [.int (g e).1, .int (g e).2])) us q → TrAll (Vw (fun b => b = D ∨ b ∈ ts) H') (us.map V.ref) ((q.map g).map fun e => .tuple [.int e.1, .int e.2]) := fun {us q} hm hq => by
        induction hq with
        | nil => exact .nil
        | cons h _ ih => exact .cons (.tup (by rw [vw_at (.inr (hm _ List.mem_cons_self))]; exact h) (.cons (.int _) (.cons (.int _) .nil))) (ih fun t ht => hm t (List.mem_cons_of_mem _ ht))
      exact all (fun _ h => h) e5
/-- new rows out of rows -/
theorem rows_map {K : PySem.W.Frag} {J : It} {G : Hp → Prop} {xs : List V} {rs : List Rw} {σ : L2.St} {vs ws : List Nat} {i0 i1 i2 : Nat} {te : TE} {g : Int × Int → Int × Int} {H1 : Hp} {D : Addr} {Qd : Hp → Prop} (W : Walk J xs.length G (YAt xs)) (hG : ∀ H', Same H1 H' → G H') (hp : Paired (RowP H1) xs rs) (hz : xs.length ≤ 1000) (hz2 : ∀ r ∈ rs, r.length ≤ 1000) (hD : H1 D = none)
    (hw0 : ∀ v, wipe ((wipe σ vs).set i0 (some v)) vs = wipe σ vs) (h0 : ∀ v, ((wipe σ vs).set i0 (some v))[i0]? = some (some v))
    (hw : ∀ x v w, wipe (((wipe ((wipe σ vs).set i0 (some x)) ws).set i1 (some v)).set i2 (some w)) ws = wipe ((wipe σ vs).set i0 (some x)) ws) (hw2 : ∀ x, wipe (wipe ((wipe σ vs).set i0 (some x)) ws) vs = wipe σ vs)
    (hte : ∀ (x : V) (r : Rw) (e : Int × Int) (H3 : Hp) (Qv : VK), r ∈ rs → e ∈ r → Same H1 H3 → (∀ H4 t, Same H3 H4 → H3 t = none → H4 t = some (.tup [.int (g e).1, .int (g e).2]) → Qv (.ref t) H4) → te (((wipe ((wipe σ vs).set i0 (some x)) ws).set i1 (some (.int e.1))).set i2 (some (.int e.2))) H3 Qv)
    (hd : ∀ H2 S, Same H1 H2 → (∀ b, S b → Nw H1 H2 b) → Dt K S H2 (.ref D) (rowsD (rs.map fun r => r.map g)) → Qd H2) :
    ∃ W : Nat → Nat → Hp → Prop, (∃ m, W 0 m (upd H1 D (.lst []))) ∧ ∀ i m H, W i m H →
      (J.stop i H ∧ Qd H) ∨ (J.go i H ∧ ∃ Nx : Hp → Prop, (∀ H', Nx H' → ∃ m', m' < m ∧ W (i + 1) m' H') ∧ ∀ x H', J.yld i H x H' → gName i0 x (wipe σ vs) H' fun σ2 H2 => wipe σ2 vs = wipe σ vs ∧ tYes σ2 H2 fun b H3 =>
        if b = true then tLc (iSeq K (tVar i0)) (gTup K 2 (gCons (gName i1) (gCons (gName i2) gNil))) tYes te ws σ2 H3 fun y H4 => ∃ acc, H4 D = some (.lst acc) ∧ acc.length < sizeLine ∧ Nx (upd H4 D (.lst (acc ++ [y]))) else Nx H3) := by
  have hl : xs.length = rs.length := Paired.length hp
  refine lc_it W (fun i H' => ∃ (ls : List Addr) (S : Addr → Prop), ls.length = i ∧ H' D = some (.lst (ls.map V.ref)) ∧ Same H1 H' ∧ (∀ b, S b → Nw H1 H' b ∧ b ≠ D) ∧ Paired (fun l r => Dt K S H' (.ref l) (rowD (r.map g))) ls (rs.take i))
    ⟨[], fun _ => False, rfl, upd_same, same_upd hD, fun _ z => z.elim, .nil⟩ (fun i H' _ ⟨_, _, _, _, s, _⟩ => hG _ s) (fun i x H' H'' hi e y => ?_) (fun H' e => ?_)
  · obtain ⟨rfl, hx⟩ := y
    obtain ⟨ls, S, e1, e2, e3, e4, e5⟩ := e
    obtain ⟨r, hr, rp⟩ := Xv.paired_get hp hx
    obtain ⟨a, es, rfl, hxs, hps⟩ := rp.same e3
    have hle : es.length ≤ 1000 := by
      rw [show es.length = r.length from Paired.length hps]
      exact hz2 r (List.mem_of_getElem? hr)
    refine ⟨hw0 _, ?_⟩
    unfold tYes
    dsimp only
    rw [if_pos rfl]
    have fin : ∀ D2, H'' D2 = none → ∀ (H2 : Hp) (S2 : Addr → Prop), Same H'' H2 → (∀ b, S2 b → Nw H'' H2 b) → Dt K S2 H2 (.ref D2) (rowD (r.map g)) →
        ∃ acc, H2 D = some (.lst acc) ∧ acc.length < sizeLine ∧ ∃ (ls : List Addr) (S : Addr → Prop), ls.length = i + 1 ∧ upd H2 D (.lst (acc ++ [V.ref D2])) D = some (.lst (ls.map V.ref)) ∧ Same H1 (upd H2 D (.lst (acc ++ [V.ref D2]))) ∧ (∀ b, S b → Nw H1 (upd H2 D (.lst (acc ++ [V.ref D2]))) b ∧ b ≠ D) ∧ Paired (fun l r => Dt K S (upd H2 D (.lst (acc ++ [V.ref D2]))) (.ref l) (rowD (r.map g))) ls (rs.take (i + 1)) := fun D2 hD2 H2 S2 s2 n2 d2 => by
      have nS2 : ∀ b, S2 b → b ≠ D := fun b hb z => by
        have := (n2 b hb).1
        rw [z, e2] at this
        cases this
      have fr : Fr (fun b => b = D) H'' (upd H2 D (.lst (ls.map V.ref ++ [V.ref D2]))) := fun b o n q => by
        rw [upd_ne n]
        exact s2 _ _ q
      refine ⟨_, s2 _ _ e2, by rw [List.length_map, sizeLine_eq]; omega, ls ++ [D2], fun b => S b ∨ S2 b, by rw [List.length_append, e1]; rfl, by rw [upd_same, List.map_append]; rfl, fun b o q => ?_, fun b hb => ?_, ?_⟩
      · rw [upd_ne (ne_of_none q hD)]
        exact s2 _ _ (e3 _ _ q)
      · rcases hb with z | z
        · obtain ⟨⟨z1, z2⟩, z3⟩ := e4 b z
          refine ⟨⟨z1, ?_⟩, z3⟩
          obtain ⟨o, q⟩ := Option.ne_none_iff_exists'.mp z2
          rw [upd_ne z3, s2 _ _ q]
          simp
        · refine ⟨⟨?_, ?_⟩, nS2 b z⟩
          · cases q : H1 b with
            | none => rfl
            | some o =>
              have := (n2 b z).1
              rw [e3 _ _ q] at this
              cases this
          · rw [upd_ne (nS2 b z)]
            exact (n2 b z).2
      · rw [Xv.take_step hr]
        refine pr_app (pr_map e5 fun l q _ d => Dt.mono (d.fr fr fun b hb => (e4 b hb).2) fun b hb => .inl hb) (.cons ?_ .nil)
        exact Dt.mono (d2.fr (M := fun b => b = D) (Fr.set (Fr.refl _ _) rfl) fun b hb => nS2 b hb) fun b hb => .inr hb
    rcases hxs with z | z
    · exact ⟨_, h0 _, a, es, rfl, .inl ⟨SqL.of z, fun D2 hD2 => map_lc walk_list (fun H' s => SqL.of (s _ _ z)) hps hle hD2 (hw _) (fun e H3 Qv he s3 q => hte _ r e H3 Qv (List.mem_of_getElem? hr) he (e3.trans s3) q) fun H2 S2 s2 n2 d2 => fin D2 hD2 H2 S2 s2 n2 d2⟩⟩
    · exact ⟨_, h0 _, a, es, rfl, .inr ⟨.inl (.inl z), fun D2 hD2 => map_lc walk_tup (fun H' s => .inl (.inl (s _ _ z))) hps hle hD2 (hw _) (fun e H3 Qv he s3 q => hte _ r e H3 Qv (List.mem_of_getElem? hr) he (e3.trans s3) q) fun H2 S2 s2 n2 d2 => fin D2 hD2 H2 S2 s2 n2 d2⟩⟩
  · obtain ⟨ls, S, e1, e2, e3, e4, e5⟩ := e
    rw [hl, List.take_length] at e5
    refine hd H' (fun b => S b ∨ b = D) e3 (fun b hb => ?_) ?_
    · rcases hb with z | z
      · exact (e4 b z).1
      · subst z
        exact ⟨hD, by rw [e2]; simp⟩
    · refine .lst (by rw [vw_at (.inr rfl)]; exact e2) ?_
      have all : ∀ {us : List Addr} {q : List Rw}, Paired (fun l r => Dt K S H' (.ref l) (rowD (r.map g))) us q → TrAll (Vw (fun b => S b ∨ b = D) H') (us.map V.ref) ((q.map fun r => r.map g).map rowD) := fun {us q} hq => by
        induction hq with
        | nil => exact .nil
        | cons h _ ih => exact .cons (Dt.mono h fun b hb => .inl hb) ih
      exact all e5
end Cr


namespace K14
open PySem PySem.Spec PyProof.Rows L2 Xv Cr TL
abbrev s_called : Stmt := top 39
abbrev N_called : List Str := ["rows", "states", "called", "place", "state", "row", "answer", "after"]
theorem sc_called : FnScope N_called ["rows", "states"] (defScope s_called) := ⟨rfl, rfl, rfl, by decide +kernel, rfl, by decide +kernel, by decide +kernel⟩
/-- where each of some states stands: a dict, out of enumerate -/
theorem dc_places {K : PySem.W.Frag} {J : It} {G : Hp → Prop} {p : List Nat} {σ : L2.St} {vs : List Nat} {i1 i2 : Nat} {H1 : Hp} {D : Addr} {Qd : Hp → Prop} (W : Walk J (p.map fun n => V.int (n : Nat)).length G (YPair (fun i => some (.int (i : Nat))) (fun i => (p.map fun n => V.int (n : Nat))[i]?))) (hG : ∀ H', Same H1 H' → G H') (nd : p.Nodup) (hz : p.length ≤ 1000) (hD : H1 D = none)
    (hw : ∀ v w, wipe (((wipe σ vs).set i1 (some v)).set i2 (some w)) vs = wipe σ vs) (h1 : ∀ v w, (((wipe σ vs).set i1 (some v)).set i2 (some w))[i1]? = some (some v)) (h2 : ∀ v w, (((wipe σ vs).set i1 (some v)).set i2 (some w))[i2]? = some (some w))
    (hd : ∀ H2 kvs, Same H1 H2 → H2 D = some (.dK kvs) → (∀ z : Nat, valV kvs (.inl (z : Int)) = if z ∈ p then some (V.int (p.idxOf z : Nat)) else none) → Qd H2) :
    ∃ W : Nat → Nat → Hp → Prop, (∃ m, W 0 m (upd H1 D (.dK []))) ∧ ∀ i m H, W i m H → (J.stop i H ∧ Qd H) ∨ (J.go i H ∧ ∃ Nx : Hp → Prop, (∀ H', Nx H' → ∃ m', m' < m ∧ W (i + 1) m' H') ∧
      ∀ x H', J.yld i H x H' → gTup K 2 (gCons (gName i1) (gCons (gName i2) gNil)) x (wipe σ vs) H' fun σ2 H2 => wipe σ2 vs = wipe σ vs ∧ tYes σ2 H2 fun b H3 => if b = true then tVar i2 σ2 H3 fun y H4 => tVar i1 σ2 H4 fun z H5 => ∃ kvs k, y = kV k ∧ H5 D = some (.dK kvs) ∧ kvs.length < sizeLine ∧ Nx (upd H5 D (.dK (putK kvs k z))) else Nx H3) := by
  refine dc_walk W (fun i H' => ∃ kvs, H' D = some (.dK kvs) ∧ kvs.length ≤ i ∧ (∀ z : Nat, valV kvs (.inl (z : Int)) = if z ∈ p.take i then some (V.int (p.idxOf z : Nat)) else none) ∧ Same H1 H')
    ⟨[], upd_same, Nat.le_refl _, fun z => by simp [valV_nil], same_upd hD⟩ (fun i H' _ ⟨_, _, _, _, s⟩ => hG _ s) (fun i v H2 H3 hi e y => ?_) (fun H2 e => ?_)
  · obtain ⟨tt, x1, x2, rfl, nt, rfl, e1, e2⟩ := y
    obtain ⟨kvs, k1, k2, k3, k4⟩ := e
    cases e1
    replace e2 : (p.map fun n => V.int (n : Nat))[i]? = some x2 := e2
    obtain ⟨y, hy, rfl⟩ : ∃ y : Nat, p[i]? = some y ∧ x2 = V.int (y : Nat) := by
      rw [List.getElem?_map] at e2
      cases e : p[i]? with
      | none => rw [e] at e2; cases e2
      | some y => rw [e] at e2; exact ⟨y, rfl, (Option.some.inj e2).symm⟩
    have nDt : D ≠ tt := ne_of_none k1 nt
    have hil : i < p.length := (List.getElem?_eq_some_iff.mp hy).1
    refine ⟨tt, _, rfl, .inl (.inl upd_same), rfl, _, _, rfl, _, _, rfl, ⟨rfl, hw _ _, ?_⟩⟩
    unfold tYes
    dsimp only
    rw [if_pos rfl]
    refine ⟨_, h2 _ _, _, h1 _ _, kvs, .inl (y : Int), rfl, by rw [upd_ne nDt]; exact k1, by rw [sizeLine_eq]; omega, putK kvs (.inl (y : Int)) (.int (i : Nat)), upd_same, Nat.le_trans (DSub.putK_len _ _ _) (Nat.succ_le_succ k2), fun z => ?_, fun b o e => ?_⟩
    · rw [valV_put, k3 z, Xv.take_step hy]
      have iy : p.idxOf y = i := by
        obtain ⟨hi2, rfl⟩ := List.getElem?_eq_some_iff.mp hy
        exact nd.idxOf_getElem i hi2
      by_cases e : z = y
      · subst e
        rw [if_pos rfl, if_pos (List.mem_append_right _ List.mem_cons_self), iy]
      · rw [if_neg (fun q => e (by have := Sum.inl.inj q; omega))]
        by_cases e3 : z ∈ p.take i
        · rw [if_pos e3, if_pos (List.mem_append_left _ e3)]
        · rw [if_neg e3, if_neg (fun q => (List.mem_append.mp q).elim e3 fun q => e (List.mem_singleton.mp q))]
    · rw [upd_ne (ne_of_none e hD), upd_ne (ne_of_none (k4 _ _ e) nt)]
      exact k4 _ _ e
  · obtain ⟨kvs, k1, k2, k3, k4⟩ := e
    rw [List.length_map, List.take_length] at k3
    exact hd H2 kvs k4 k1 k3
/-- rows whose states are numbered by their places in p -/
def numE (p : List Nat) (e : Int × Int) : Int × Int := (e.1, (p.idxOf e.2.toNat : Nat))
def spCalled (K : PySem.W.Frag) : Sp := fun vs H Q _ => ∃ (D a : Addr) (xs : List V) (rs : List Rw) (p : List Nat), vs = [.ref D, .ref a] ∧ H D = some (.lst xs) ∧ Paired (RowP H) xs rs ∧ Cr.LT H a (p.map fun n => V.int (n : Nat)) ∧ p.Nodup ∧ p.length ≤ 1000 ∧ rs.length ≤ 1000 ∧ (∀ r ∈ rs, r.length ≤ 1000 ∧ ∀ e ∈ r, 0 ≤ e.2 ∧ e.2.toNat ∈ p) ∧
  ∀ H' m S, Same H H' → (∀ b, S b → Nw H H' b) → Dt K S H' (.ref m) (rowsD (rs.map fun r => r.map (numE p))) → Q (.ref m) H'
section
variable {P : Program} {w : World} {K : PySem.W.Frag} {mg : Str → Option Value} {base : Heap} {Ct f : Addr} {fd : FuncData}
theorem ok_called (F : Fun K "called_by_place" "called_by_place" s_called f fd) (T : Bl mg) : FnOk P w K mg base CX0 1 f fd ["rows", "states"] (spCalled K) := by
  refine F.ok sc_called (fun vs H Q E h => ?_) (fun cdv A outer s H vs Q E hr h => ?_)
  · obtain ⟨D, a, xs, rs, p, rfl, _⟩ := h
    rfl
  · obtain ⟨D, a, xs, rs, p, rfl, hD, hp, ha, nd, hpl, hrl, hrs, q⟩ := h
    refine ⟨_, (pss_cons (ps_set (i := 2) sc_called.nd rfl (Or.inr rfl) (pe_dc (own := [("place", 3), ("state", 4)]) (g := gTup K 2 (gCons (gName 3) (gCons (gName 4) gNil))) (tt := tYes) (tk := tVar 4) (tv := tVar 3) rfl sc_called.nd (pi_enum2 rfl T.enumerate (pa_cons (pv 1) pa_nil)) (blkOk_by (N := N_called) (sc := defScope s_called) (by decide +kernel)) (fun _ _ _ _ _ => (pg_tup rfl (pgs_cons (pg_name (i := 3) sc_called.nd rfl (Or.inl rfl)) (pgs_cons (pg_name (i := 4) sc_called.nd rfl (Or.inl rfl)) pgs_nil)))) (fun _ _ _ _ _ => pts_nil) (fun _ _ _ _ _ => pv 4) (fun _ _ _ _ _ => pv 3)))
  (pss_one (ps_ret (pe_lc (own := [("row", 5)]) (g := gName 5) (tt := tYes) (te := tLc (iSeq K (tVar 5)) (gTup K 2 (gCons (gName 6) (gCons (gName 7) gNil))) tYes (tTup (tCons (tVar 6) (tCons (tDGet (tVar 2) (tVar 7)) tNil))) [6, 7]) rfl sc_called.nd (pi_list (pv 0)) (blkOk_by (N := N_called) (sc := defScope s_called) (by decide +kernel)) (fun _ _ _ _ _ => (pg_name (i := 5) sc_called.nd rfl (Or.inl rfl))) (fun _ _ _ _ _ => pts_nil)
    (fun _ _ _ _ _ => (pe_lc (own := [("answer", 6), ("after", 7)]) (g := gTup K 2 (gCons (gName 6) (gCons (gName 7) gNil))) (tt := tYes) (te := tTup (tCons (tVar 6) (tCons (tDGet (tVar 2) (tVar 7)) tNil))) rfl sc_called.nd (pi_seq (pv 5)) (blkOk_by (by kernel_rfl)) (fun _ _ _ _ _ => (pg_tup rfl (pgs_cons (pg_name (i := 6) sc_called.nd rfl (Or.inl rfl)) (pgs_cons (pg_name (i := 7) sc_called.nd rfl (Or.inl rfl)) pgs_nil)))) (fun _ _ _ _ _ => pts_nil) (fun _ _ _ _ _ => (pe_tup (pa_cons (pv 6) (pa_cons (pe_dget (hu_of hr) (pv 2) (pv 7) (fun _ _ => rfl)) pa_nil)))))))))), ?_⟩
    have go : ∀ B, H B = none → ∀ H2 kvs, Same H H2 → H2 B = some (.dK kvs) → (∀ z : Nat, valV kvs (.inl (z : Int)) = if z ∈ p then some (V.int (p.idxOf z : Nat)) else none) →
        tRet (tLc (iList K (tVar 0)) (gName 5) tYes (tLc (iSeq K (tVar 5)) (gTup K 2 (gCons (gName 6) (gCons (gName 7) gNil))) tYes (tTup (tCons (tVar 6) (tCons (tDGet (tVar 2) (tVar 7)) tNil))) [6, 7]) [5]) { nx := fun _ H' => Q .non H', rt := Q } [some (.ref D), some (.ref a), some (.ref B), none, none, none, none, none] H2 := fun B nB H2 kvs s2 hB hk => by
      refine ⟨_, rfl, D, rfl, ⟨xs, SqL.of (s2 _ _ hD)⟩, fun L nL => ?_⟩
      refine rows_map (σ := [some (.ref D), some (.ref a), some (.ref B), none, none, none, none, none]) (vs := [5]) (ws := [6, 7]) (g := numE p) walk_list (fun H' s => SqL.of (s _ _ (s2 _ _ hD))) (Paired.mapP hp fun v r z => z.same s2) (by rw [show xs.length = rs.length from Paired.length hp]; exact hrl) (fun r hr => (hrs r hr).1) nL (fun _ => rfl) (fun _ => rfl) (fun _ _ _ => rfl) (fun _ => rfl)
        (fun x r e H3 Qv hr he s3 q3 => ?_) (fun H3 S s3 nS dS => q _ L S (s2.trans s3) (fun b hb => ⟨s2.free (nS b hb).1, (nS b hb).2⟩) dS)
      obtain ⟨e0, em⟩ := (hrs r hr).2 e he
      have kz := hk e.2.toNat
      rw [if_pos em, show ((e.2.toNat : Nat) : Int) = e.2 from Int.toNat_of_nonneg e0] at kz
      refine ⟨_, rfl, _, rfl, _, rfl, B, _, rfl, kz ▸ DGet.k (k := .inl e.2) (s3 _ _ hB), by show 2 ≤ sizeLine; decide, fun t nt => ?_⟩
      exact q3 _ t (same_upd nt) nt upd_same
    refine ⟨_, rfl, a, p.map (fun n => V.int (n : Nat)), rfl, ?_⟩
    rcases ha with z | z
    · exact .inl ⟨SqL.of z, fun B nB => dc_places (p := p) walk_enum (fun H' s => SqL.of (s _ _ z)) nd hpl nB (fun _ _ => rfl) (fun _ _ => rfl) (fun _ _ => rfl) fun H2 kvs s2 hB hk => go B nB H2 kvs s2 hB hk⟩
    · exact .inr ⟨.inl (.inl z), fun B nB => dc_places (p := p) walk_enumT (fun H' s => .inl (.inl (s _ _ z))) nd hpl nB (fun _ _ => rfl) (fun _ _ => rfl) (fun _ _ => rfl) fun H2 kvs s2 hB hk => go B nB H2 kvs s2 hB hk⟩
end
end K14


namespace K14
open PySem PySem.Spec PyProof.Rows L2 Xv Cr TL
/-! ### what the law itself asks of a thing's class -/
structure ThF (K : PySem.W.Frag) (C : Addr) : Prop where
  ins : C8.InsC K C
  nfN : PySem.W.notFirst K C (.type "NoneType") = true
  nfS : PySem.W.notFirst K C (.type "str") = true
  nfL : PySem.W.notFirst K C (.type "list") = true
  kN : PySem.W.kitOne K (.type "NoneType") (.ref C) = some false
  kS : PySem.W.kitOne K (.type "str") (.ref C) = some false
  kL : PySem.W.kitOne K (.type "list") (.ref C) = some false
  ne : PySem.W.findIn K (.ref C) "__ne__" = some (some (.builtin "object.__ne__"))
section
variable {X : Cx} {C : Addr} {j : Nat}
theorem op_eqM (c : OwnM X.prog X.w X.K X.mg X.base C 1 "__eq__" ["self", "other"] (spTEq X.K C)) (hr : Room j X.A) (hj : 1 ≤ j) : OpR X (compareOp .Eq) (rEqO X.K C (spTEq X.K C) false) := by
  obtain ⟨g, fd, F, hs, hf, hb⟩ := c.ex
  exact op_eqO F (hr.mono hj) hb hs hf
theorem op_neM (c : OwnM X.prog X.w X.K X.mg X.base C 1 "__eq__" ["self", "other"] (spTEq X.K C)) (Z : ThF X.K C) (hr : Room j X.A) (hj : 2 ≤ j) : OpR X (compareOp .NotEq) (rEqO X.K C (spTEq X.K C) true) := by
  obtain ⟨g, fd, F, hs, hf, hb⟩ := c.ex
  exact op_neO F (hr.mono hj) hb hs hf Z.ne Z.ins.hm
end
section
variable {K : PySem.W.Frag} {C : Addr} {S S2 : Addr → Prop} {H : Hp} {x x2 : Addr} {ns ns2 : List Str} {rs rs2 : List Rw} {Q : VK}
theorem th_ty (Z : ThF K C) (t : ThAt K C S H x ns rs) : TyX K H (.ref x) (.ref C) := by
  obtain ⟨dx, l, m, hx, _⟩ := t
  exact .base (.ins hx Z.ins.cl Z.ins.ha Z.ins.hn Z.ins.htk Z.ins.hm)
theorem nf_self : PySem.W.notFirst K C (.ref C) = true := by
  unfold PySem.W.notFirst
  simp
/-- == and != of two things -/
theorem eq_things (Z : ThF K C) {neg : Bool} (t : ThAt K C S H x ns rs) (t2 : ThAt K C S2 H x2 ns2 rs2) (nm : ∀ z ∈ ns, Nm z) (nm2 : ∀ z ∈ ns2, Nm z) (q : Q (.bl (if neg then !(decide (ns = ns2) && decide (rs = rs2)) else (decide (ns = ns2) && decide (rs = rs2)))) H) :
    rEqO K C (spTEq K C) neg (.ref x) (.ref x2) H Q := by
  obtain ⟨dx, l, m, hx, _⟩ := id t
  exact ⟨x, dx, _, .ref C, rfl, hx, th_ty Z t2, nf_self, x, S, ns, rs, _, rfl, t, nm, .inl ⟨x2, S2, ns2, rs2, rfl, th_ty Z t2, t2, nm2, _, rfl, q⟩⟩
/-- .. of a thing and something else -/
theorem eq_else {neg : Bool} {y : V} {u : Value} (t : ThAt K C S H x ns rs) (nm : ∀ z ∈ ns, Nm z) (ty : TyX K H y u) (nf : PySem.W.notFirst K C u = true) (k : PySem.W.kitOne K u (.ref C) = some false) (q : Q (.bl neg) H) : rEqO K C (spTEq K C) neg (.ref x) y H Q := by
  obtain ⟨dx, l, m, hx, _⟩ := id t
  refine ⟨x, dx, _, u, rfl, hx, ty, nf, x, S, ns, rs, y, rfl, t, nm, .inr ⟨u, ty, k, _, rfl, ?_⟩⟩
  cases neg <;> exact q
end
theorem nwr_rwo {S : Addr → Prop} {H : Hp} : ∀ {ls : List Addr} {rs : List Rw}, Paired (NwR S H) ls rs → Paired (RwO (fun _ => True) H) (ls.map V.ref) rs
  | _, _, .nil => .nil
  | _, _, .cons ⟨es, h1, h2⟩ r => .cons ⟨_, es, rfl, trivial, h1, Paired.mapP h2 fun x e ⟨t, z1, _, z3⟩ => ⟨t, z1, trivial, z3⟩⟩ (nwr_rwo r)
def spLIs (K : PySem.W.Frag) (C : Addr) : Sp := fun vs H Q _ => ∃ (x m : Addr) (S S0 : Addr → Prop) (ns : List Str) (rs : List Rw), vs = [.ref x, .ref m] ∧ ThAt K C S H x ns rs ∧ Dt K S0 H (.ref m) (modelD ns rs) ∧ Right ns rs ∧ ∀ H', Same H H' → Q (.bl true) H'
section
variable {P : Program} {w : World} {K : PySem.W.Frag} {mg : Str → Option Value} {base : Heap} {Ct f : Addr} {fd : FuncData}
end
end K14


namespace K14
open PySem PySem.Spec PyProof.Rows L2 Xv Cr TL
abbrev s_mixed : Stmt := top 44
abbrev N_mixed : List Str := ["_law_pot_here", "_law_some", "_law_pack", "_law_turn"]
theorem sc_mixed : FnScope N_mixed ["_law_pot_here", "_law_some"] (defScope s_mixed) := ⟨rfl, rfl, rfl, by decide +kernel, rfl, by decide +kernel, by decide +kernel⟩
theorem six_at {n : Nat} {d : Int} (h0 : 0 ≤ d) (h1 : d < n) : seqIndex? d n = some d.toNat := by
  unfold seqIndex?
  have a : ¬ d < 0 := by omega
  simp only [if_neg a]
  rw [if_pos (by rw [decide_eq_true h0, decide_eq_true h1]; rfl)]
theorem er_perm : ∀ (l : List V) (k : Nat) (h : k < l.length), (l[k] :: l.eraseIdx k).Perm l
  | _ :: _, 0, _ => List.Perm.refl _
  | x :: r, k + 1, h => (List.Perm.swap x (r[k]'(Nat.lt_of_succ_lt_succ h)) (r.eraseIdx k)).trans (List.Perm.cons x (er_perm r k (Nat.lt_of_succ_lt_succ h)))
def spMixed : Sp := fun vs H Q _ => ∃ (p a : Addr) (xs : List V), vs = [.ref p, .ref a] ∧ Pot H p ∧ Cr.LT H a xs ∧ xs.length ≤ 100 ∧ ∀ H' l ys, But p H H' → Pot H' p → H l = none → H' l = some (.lst ys) → ys.Perm xs → Q (.ref l) H'
section
variable {P : Program} {w : World} {K : PySem.W.Frag} {mg : Str → Option Value} {base : Heap} {Ct f : Addr} {fd : FuncData}
theorem ok_mixed (F : Fun K "_law_mixed" "_law_mixed" s_mixed f fd) (T : Bl mg) (c_draw : Cl P w K mg base 1 "_law_draw" spDraw) : FnOk P w K mg base CX0 2 f fd ["_law_pot_here", "_law_some"] spMixed := by
  refine F.ok sc_mixed (fun vs H Q E h => ?_) (fun cdv A outer s H vs Q E hr h => ?_)
  · obtain ⟨p, a, xs, rfl, _⟩ := h
    rfl
  · obtain ⟨p, a, xs, rfl, hP, ha, hz, q⟩ := h
    refine ⟨_, (pss_cons (ps_set (i := 2) sc_mixed.nd rfl (Or.inr rfl) (pe_callTy (T := "list") call_ls (by rfl) T.list (by decide +kernel) (pa_cons (pv 1) pa_nil)))
  (pss_one (ps_ret (pe_lc (own := [("_law_turn", 3)]) (g := gName 3) (tt := tYes) (te := tBM K "list" rPopAt (tVar 2) (tCons (tCall spDraw [] E0 (tCons (tVar 0) (tCons (tCB (rLn K) (tCons (tVar 2) tNil)) tNil))) tNil)) rfl sc_mixed.nd (pi_range1 rfl T.range (pa_cons (pe_callB (id := "len") (call_ln) (by rfl) T.len (by decide +kernel) (pa_cons (pv 1) pa_nil)) pa_nil)) (blkOk_by (N := N_mixed) (sc := defScope s_mixed) (by decide +kernel)) (fun _ _ _ _ _ => (pg_name (i := 3) sc_mixed.nd rfl (Or.inl rfl))) (fun _ _ _ _ _ => pts_nil) (fun _ _ _ _ _ => (pe_bm PySem.F.plainAttrs_list PySem.F.slot_list_pop PySem.F.type_list_pop mt_popAt (pv 2) (pa_cons (pe_cl c_draw hr (by decide) (by rfl) (pa_cons (pv 0) (pa_cons (pe_callB (id := "len") (call_ln) (by rfl) T.len (by decide +kernel) (pa_cons (pv 2) pa_nil)) pa_nil))) pa_nil))))))), ?_⟩
    refine ⟨_, rfl, a, xs, rfl, ha.seq K, fun lp nlp => ?_⟩
    have s1 : Same H (upd H lp (.lst xs)) := same_upd nlp
    have P1 : Pot (upd H lp (.lst xs)) p := pot_same hP s1
    have e1 : upd H lp (.lst xs) lp = some (.lst xs) := upd_same
    generalize upd H lp (.lst xs) = H1 at s1 P1 e1 ⊢
    refine ⟨_, rfl, a, xs, rfl, (ha.same s1).seq K, _, rfl, by omega, by omega, fun D nD => ?_⟩
    have npl : lp ≠ p := fun z => by
      obtain ⟨_, _, e, _⟩ := hP
      rw [← z, nlp] at e
      cases e
    have nDl : D ≠ lp := (ne_of_none e1 nD).symm
    have nDp : D ≠ p := fun z => by
      obtain ⟨_, _, e, _⟩ := P1
      rw [← z, nD] at e
      cases e
    refine lc_range (lo := 0) (n := xs.length) (fun i H' => ∃ ys rest, H' D = some (.lst ys) ∧ ys.length = i ∧ H' lp = some (.lst rest) ∧ i + rest.length = xs.length ∧ (ys ++ rest).Perm xs ∧ But p H H' ∧ Pot H' p)
      ⟨[], xs, upd_same, rfl, by rw [upd_ne nDl.symm]; exact e1, by simp, List.Perm.refl _, Same.but (s1.trans (same_upd nD)), pot_same P1 (same_upd nD)⟩ (fun i H2 hi e => ?_) (fun H2 e => ?_)
    · obtain ⟨ys, rest, d1, d2, d3, d4, d5, b, P2⟩ := e
      refine ⟨rfl, ?_⟩
      unfold tYes
      dsimp only
      rw [if_pos rfl]
      refine ⟨_, rfl, .inl ⟨rfl, _, SqL.of d3⟩, _, rfl, _, rfl, lp, rest, rfl, .inl (SqL.of d3), p, (rest.length : Nat), rfl, P2, by omega, by omega, fun H3 d b3 P3 d0 dn => ?_⟩
      have hk : d.toNat < rest.length := by omega
      have d3' := b3 _ _ npl d3
      have d1' := b3 _ _ nDp d1
      refine ⟨lp, rest, d, d.toNat, rest[d.toNat], rfl, rfl, d3', by omega, by omega, six_at d0 dn, List.getElem?_eq_getElem hk, ?_⟩
      refine ⟨ys, by rw [upd_ne nDl]; exact d1', by rw [sizeLine_eq]; omega, ys ++ [rest[d.toNat]], rest.eraseIdx d.toNat, upd_same, by rw [List.length_append, d2]; rfl, by rw [upd_ne nDl.symm, upd_same], ?_, ?_, fun c o n z => ?_, ?_⟩
      · rw [List.length_eraseIdx_of_lt hk]
        omega
      · refine List.Perm.trans ?_ d5
        rw [List.append_assoc]
        exact List.Perm.append_left ys (er_perm rest d.toNat hk)
      · rw [upd_ne (fun h => by rw [h, s1.free nD] at z; cases z), upd_ne (fun h => by rw [h, nlp] at z; cases z)]
        exact b3 _ _ n (b _ _ n z)
      · exact pot_upd (pot_upd P3 npl.symm) nDp.symm
    · obtain ⟨ys, rest, d1, d2, d3, d4, d5, b, P2⟩ := e
      have hr0 : rest = [] := List.eq_nil_of_length_eq_zero (by omega)
      subst hr0
      rw [List.append_nil] at d5
      exact q H2 D ys b P2 (s1.free nD) d1 d5
end
end K14


namespace K14
open PySem PySem.Spec PyProof.Rows L2 Xv Cr TL
/-! ### what a thing's repr is: sizes of texts -/
def Asc (x : Str) : Prop := ∀ c ∈ x.cps.toList, c < 128
theorem asc_app {a b : Str} (ha : Asc a) (hb : Asc b) : Asc (a ++ b) := fun c hc => by
  rcases mem_cps_append.mp hc with z | z
  · exact ha c z
  · exact hb c z
theorem asc_join {sep : Str} {ts : List Str} (hs : Asc sep) (h : ∀ t ∈ ts, Asc t) : Asc (Str.join sep ts) := fun c hc => by
  rcases (mem_join sep c ts).mp hc with ⟨t, ht, z⟩ | ⟨_, z⟩
  · exact h t ht c z
  · exact hs c z
theorem asc_list {xs : List PyData} (h : ∀ t ∈ PyData.shownAll xs, Asc t) : Asc (PyData.list xs).shown := by
  rw [PyData.shown_list]
  exact asc_app (asc_app (by unfold Asc; decide) (asc_join (by unfold Asc; decide) h)) (by unfold Asc; decide)
theorem asc_tuple {xs : List PyData} (h : ∀ t ∈ PyData.shownAll xs, Asc t) : Asc (PyData.tuple xs).shown := by
  rw [PyData.shown_tuple]
  refine asc_app (asc_app (by unfold Asc; decide) (asc_join (by unfold Asc; decide) h)) ?_
  split <;> (unfold Asc; decide)
theorem asc_int (i : Int) : Asc (PyData.int i).shown := fun c hc => by
  have e : (PyData.int i).shown.cps.toList = (toString i).toList.map Char.toNat := signs_ofString _
  rw [e] at hc
  obtain ⟨ch, h1, rfl⟩ := List.mem_map.mp hc
  rcases int_sign i ch h1 with z | z
  · have := digit_range z
    omega
  · subst z
    decide
theorem rc_asc : ∀ q c : Nat, c < 128 → ∀ d ∈ Builtin.Str.reprChar q c, d < 128 := by
  intro q c hc d hd
  have h2 : ∀ c : Fin 128, ∀ d ∈ ([92, 120] ++ (List.replicate (2 - ((Nat.toDigits 16 c.val).map Char.toNat).length) 48 ++ (Nat.toDigits 16 c.val).map Char.toNat)), d < 128 := by decide +kernel
  unfold Builtin.Str.reprChar at hd
  dsimp only at hd
  split at hd
  · simp at hd; omega
  split at hd
  · simp at hd; omega
  split at hd
  · simp at hd; omega
  split at hd
  · simp at hd; omega
  split at hd
  · simp at hd; omega
  split at hd
  · exact h2 ⟨c, hc⟩ d hd
  · rename_i z
    omega
theorem fold_asc (q : Nat) (hq : q < 128) : ∀ (l : List Nat) (acc : Array Nat), (∀ c ∈ l, c < 128) → (∀ c ∈ acc.toList, c < 128) → ∀ c ∈ (l.foldl (fun out c => out ++ (Builtin.Str.reprChar q c).toArray) acc).toList, c < 128
  | [], _, _, h => h
  | c :: r, acc, h, ha => fold_asc q hq r _ (fun d hd => h d (List.mem_cons_of_mem _ hd)) fun d hd => by
    rw [Array.toList_append] at hd
    rcases List.mem_append.mp hd with z | z
    · exact ha d z
    · exact rc_asc q c (h c List.mem_cons_self) d (by simpa using z)
theorem asc_repr {x : Str} (h : Asc x) : Asc (reprText x) := by
  have hq : reprQuote x < 128 := by
    unfold reprQuote
    split <;> decide
  unfold reprText Asc
  intro c hc
  rw [Array.toList_push, ← Array.foldl_toList] at hc
  rcases List.mem_append.mp hc with z | z
  · exact fold_asc _ hq x.cps.toList _ h (by simpa using hq) c z
  · rw [List.mem_singleton.mp z]
    exact hq
theorem nm_asc {x : Str} (h : Nm x) : Asc x := fun c hc => by
  have := h.2.2 c hc
  omega
theorem asc_names : ∀ {ns : List Str}, (∀ x ∈ ns, Nm x) → Asc (namesD ns).shown := fun {ns} h => by
  refine asc_list fun t ht => ?_
  rw [PyData.shownAll_strs] at ht
  obtain ⟨x, hx, rfl⟩ := List.mem_map.mp ht
  exact asc_repr (nm_asc (h x hx))
theorem shownAll_map (f : α → PyData) : ∀ l : List α, PyData.shownAll (l.map f) = l.map fun x => (f x).shown
  | [] => by simp only [List.map_nil, PyData.shownAll]
  | x :: r => by simp only [List.map_cons, PyData.shownAll, shownAll_map f r]
theorem asc_rows (rs : List Rw) : Asc (rowsD rs).shown := by
  refine asc_list fun t ht => ?_
  rw [shownAll_map] at ht
  obtain ⟨r, _, rfl⟩ := List.mem_map.mp ht
  refine asc_list fun t ht => ?_
  rw [shownAll_map] at ht
  obtain ⟨e, _, rfl⟩ := List.mem_map.mp ht
  refine asc_tuple fun t ht => ?_
  simp only [PyData.shownAll, List.mem_cons, List.not_mem_nil, or_false] at ht
  rcases ht with rfl | rfl
  · exact asc_int _
  · exact asc_int _
/-- small data -/
structure Sm (d : PyData) (dp wt : Nat) : Prop where
  sh : d.showable = true
  lv : d.leavesShort 13 = true
  dp : d.depth ≤ dp
  wt : d.weight ≤ wt
theorem Sm.mono {d : PyData} {a b a' b' : Nat} (h : Sm d a b) (x : a ≤ a') (y : b ≤ b') : Sm d a' b' := ⟨h.sh, h.lv, Nat.le_trans h.dp x, Nat.le_trans h.wt y⟩
theorem Sm.fits {d : PyData} {a b : Nat} (h : Sm d a b) (y : b ≤ 1000000) : d.shown.length ≤ sizeLine := by
  refine PyData.shown_fits (B := 13) (by decide) (by decide) h.lv ?_
  have := h.wt
  have e : (2 : Nat) ^ 20 = 1048576 := by decide
  omega
theorem Sm.len {d : PyData} {a b : Nat} (h : Sm d a b) : d.shown.length ≤ 15 * b + 13 := by
  have := PyData.shown_le 13 (by decide) d h.lv
  have := h.wt
  omega
theorem sm_int {i : Int} (h : i.natAbs < 10 ^ 9) : Sm (.int i) 0 31 := by
  have e : i.natAbs.log2 < 30 := by
    rcases Nat.eq_zero_or_pos i.natAbs with z | z
    · rw [z]
      decide
    · rw [Nat.log2_lt (by omega)]
      omega
  refine ⟨?_, ?_, by simp only [PyData.depth]; omega, ?_⟩
  · simp only [PyData.showable, decide_eq_true_eq]
    omega
  · simp only [PyData.leavesShort, decide_eq_true_eq]
    exact PyData.shown_int_le (by omega)
  · simp only [PyData.weight]
    split <;> omega
theorem sm_str {x : Str} (h : Asc x) : Sm (.str x) 0 x.length := by
  refine ⟨by simp only [PyData.showable], ?_, by simp only [PyData.depth]; omega, by simp only [PyData.weight]; exact Nat.le_refl _⟩
  simp only [PyData.leavesShort, List.all_eq_true, decide_eq_true_eq]
  intro c hc
  have := h c hc
  have e : (16 : Nat) ^ 8 = 4294967296 := by decide
  omega
/-- the same of lists of data -/
structure SmA (ds : List PyData) (dp wt : Nat) : Prop where
  sh : PyData.showableAll ds = true
  lv : PyData.leavesShortAll 13 ds = true
  dp : PyData.depthAll ds ≤ dp
  wt : PyData.weightAll ds ≤ wt
theorem sma_nil {dp : Nat} : SmA [] dp 0 := ⟨by simp only [PyData.showableAll], by simp only [PyData.leavesShortAll], by simp only [PyData.depthAll]; omega, by simp only [PyData.weightAll]; omega⟩
theorem sma_cons {d : PyData} {ds : List PyData} {dp a b : Nat} (h : Sm d dp a) (k : SmA ds dp b) : SmA (d :: ds) dp (a + 1 + b) := by
  refine ⟨by simp only [PyData.showableAll, h.sh, k.sh, Bool.and_self], by simp only [PyData.leavesShortAll, h.lv, k.lv, Bool.and_self], ?_, ?_⟩
  · simp only [PyData.depthAll]
    have := h.dp
    have := k.dp
    omega
  · simp only [PyData.weightAll]
    have := h.wt
    have := k.wt
    omega
theorem sma_map {α : Type} {f : α → PyData} {dp a : Nat} : ∀ {l : List α}, (∀ x ∈ l, Sm (f x) dp a) → SmA (l.map f) dp (l.length * (a + 1))
  | [], _ => by
    rw [List.length_nil, Nat.zero_mul]
    exact sma_nil
  | x :: r, h => by
    have := sma_cons (h x List.mem_cons_self) (sma_map (l := r) fun y hy => h y (List.mem_cons_of_mem _ hy))
    rw [List.length_cons, Nat.succ_mul, Nat.add_comm]
    exact this
theorem sm_list {ds : List PyData} {dp b : Nat} (h : SmA ds dp b) : Sm (.list ds) (dp + 1) b :=
  ⟨by simp only [PyData.showable, h.sh], by simp only [PyData.leavesShort, h.lv], by simp only [PyData.depth]; have := h.dp; omega, by simp only [PyData.weight]; exact h.wt⟩
theorem sm_tuple {ds : List PyData} {dp b : Nat} (h : SmA ds dp b) : Sm (.tuple ds) (dp + 1) b :=
  ⟨by simp only [PyData.showable, h.sh], by simp only [PyData.leavesShort, h.lv], by simp only [PyData.depth]; have := h.dp; omega, by simp only [PyData.weight]; exact h.wt⟩
theorem sm_names {ns : List Str} (h4 : ns.length ≤ 4) (h : ∀ x ∈ ns, Nm x) : Sm (namesD ns) 1 36 := by
  have := sm_list (sma_map (f := PyData.str) (dp := 0) (a := 8) (l := ns) fun x hx => (sm_str (nm_asc (h x hx))).mono (Nat.le_refl _) (h x hx).2.1)
  exact this.mono (Nat.le_refl _) (by omega)
theorem sm_rows {n m : Nat} {rs : List Rw} (h8 : n ≤ 8) (h4 : m ≤ 4) (h : Tb n m rs) : Sm (rowsD rs) 3 2088 := by
  have one : ∀ r ∈ rs, Sm (rowD r) 2 260 := fun r hr => by
    obtain ⟨h1, h2⟩ := h.2 r hr
    have := sm_list (sma_map (f := fun e : Int × Int => PyData.tuple [.int e.1, .int e.2]) (dp := 1) (a := 64) (l := r) fun e he => by
      obtain ⟨z1, z2⟩ := h2 e he
      exact sm_tuple (sma_cons (sm_int (by omega)) (sma_cons (sm_int (by omega)) sma_nil)))
    exact this.mono (Nat.le_refl _) (by omega)
  have := sm_list (sma_map (f := rowD) (dp := 2) (a := 260) (l := rs) one)
  have hl := h.1
  exact this.mono (Nat.le_refl _) (by omega)
def thT (ns : List Str) (rs : List Rw) : Str := ((("Thing(" ++ (namesD ns).shown) ++ ", ") ++ (rowsD rs).shown) ++ ")"
def toldD (ns : List Str) (rs : List Rw) : PyData := .list [namesD ns, .int rs.length, rowsD rs, .int rs.length, .str (thT ns rs), rowsD rs]
theorem asc_th {ns : List Str} (rs : List Rw) (h : ∀ x ∈ ns, Nm x) : Asc (thT ns rs) :=
  asc_app (asc_app (asc_app (asc_app (by unfold Asc; decide) (asc_names h)) (by unfold Asc; decide)) (asc_rows rs)) (by unfold Asc; decide)
theorem len_th {ns : List Str} {rs : List Rw} (R : Right ns rs) : (thT ns rs).length ≤ 40000 := by
  have h1 := (sm_names R.d4 R.nm).len
  have h2 := (sm_rows R.r8 R.d4 R.tb).len
  unfold thT
  rw [strLen_append, strLen_append, strLen_append, strLen_append]
  have e1 : ("Thing(" : Str).length = 6 := by decide
  have e2 : (", " : Str).length = 2 := by decide
  have e3 : (")" : Str).length = 1 := by decide
  omega
theorem sm_told {ns : List Str} {rs : List Rw} (R : Right ns rs) : Sm (toldD ns rs) 4 50000 := by
  have h8 := R.r8
  have n1 := (sm_names R.d4 R.nm).mono (show 1 ≤ 3 by decide) (Nat.le_refl _)
  have r1 := (sm_rows R.r8 R.d4 R.tb).mono (show 3 ≤ 3 by decide) (Nat.le_refl _)
  have i1 := (sm_int (i := rs.length) (by omega)).mono (show 0 ≤ 3 by decide) (Nat.le_refl _)
  have t1 := (sm_str (asc_th rs R.nm)).mono (show 0 ≤ 3 by decide) (len_th R)
  exact (sm_list (sma_cons n1 (sma_cons i1 (sma_cons r1 (sma_cons i1 (sma_cons t1 (sma_cons r1 sma_nil))))))).mono (Nat.le_refl _) (by decide)
end K14


namespace K14
open PySem PySem.Spec PyProof.Rows L2 Xv Cr TL
abbrev s_thing_repr : Stmt := inClass (top 31) 15
abbrev N_thing_repr : List Str := ["self"]
theorem sc_thing_repr : FnScope N_thing_repr ["self"] (defScope s_thing_repr) := ⟨rfl, rfl, rfl, by decide +kernel, rfl, by decide +kernel, by decide +kernel⟩
theorem empty_app (x : Str) : Str.empty ++ x = x := ext_tl (by rw [tl_append]; rfl)
section
variable {K : PySem.W.Frag} {S : Addr → Prop} {H : Hp}
theorem dr_strs : ∀ (ns : List Str), DrAll K H (ns.map V.str) (ns.map PyData.str)
  | [] => .nil
  | x :: r => .cons (.str x) (dr_strs r)
theorem dr_pairs {es : List V} {r : Rw} (h : Paired (fun x (e : Int × Int) => ∃ t, x = V.ref t ∧ S t ∧ H t = some (.tup [.int e.1, .int e.2])) es r) : DrAll K H es (r.map fun e => .tuple [.int e.1, .int e.2]) := by
  induction h with
  | nil => exact .nil
  | cons q _ ih =>
    obtain ⟨t, rfl, _, ht⟩ := q
    exact .cons (.tup (.inl (.inl ht)) (.cons (.int _) (.cons (.int _) .nil))) ih
theorem dr_rows {ys : List V} {rs : List Rw} (h : Paired (RwO S H) ys rs) : DrAll K H ys (rs.map rowD) := by
  induction h with
  | nil => exact .nil
  | cons q _ ih =>
    obtain ⟨a, es, rfl, _, ha, hp⟩ := q
    exact .cons (.lst (SqL.of ha) (dr_pairs hp)) ih
end
def spTRepr (K : PySem.W.Frag) (C : Addr) : Sp := fun vs H Q _ => ∃ x S ns rs, vs = [.ref x] ∧ ThAt K C S H x ns rs ∧ Right ns rs ∧ Q (.str (thT ns rs)) H
def spDue (K : PySem.W.Frag) : Sp := fun vs H Q _ => ∃ (m : Addr) (S : Addr → Prop) (ns : List Str) (rs : List Rw), vs = [.ref m] ∧ Dt K S H (.ref m) (modelD ns rs) ∧ Right ns rs ∧ ∀ H', Same H H' → Q (.str (toldD ns rs).shown) H'
section
variable {P : Program} {w : World} {K : PySem.W.Frag} {mg : Str → Option Value} {base : Heap} {Ct f : Addr} {fd : FuncData}
theorem ok_thing_repr (F : Fun K "__repr__" "Thing.__repr__" s_thing_repr f fd) (TC : ThC K Ct) : FnG P w K mg base 1 f fd ["self"] (spTRepr K Ct) := by
  refine Xv.Fun.okG F sc_thing_repr (fun vs H Q E h => ?_) (fun cdv A outer s H vs Q hr hgd h => ?_)
  · obtain ⟨x, S, ns, rs, rfl, _⟩ := h
    rfl
  · obtain ⟨x, S, ns, rs, rfl, t, R, q⟩ := h
    refine ⟨_, (pss_one (ps_ret (pe_joined (.cons pe_str (.cons (pe_fmtRD hgd hr.units (pe_fld (pv 0) rfl)) (.cons pe_str (.cons (pe_fmtRD hgd hr.units (pe_fld (pv 0) rfl)) (.cons pe_str .nil)))))))), ?_⟩
    obtain ⟨dx, l, m, ys, hx, sl, sm, nx, hl, hm, hp⟩ := t.op
    have S1 := sm_names R.d4 R.nm
    have S2 := sm_rows R.r8 R.d4 R.tb
    have L0 := len_th R
    have e0 := empty_app "Thing("
    have L1 : (("Thing(" ++ (namesD ns).shown) : Str).length ≤ 40000 ∧ (("Thing(" ++ (namesD ns).shown ++ ", ") : Str).length ≤ 40000 ∧ (("Thing(" ++ (namesD ns).shown ++ ", " ++ (rowsD rs).shown) : Str).length ≤ 40000 := by
      unfold thT at L0
      rw [strLen_append] at L0
      refine ⟨?_, ?_, ?_⟩
      · rw [strLen_append, strLen_append] at L0
        omega
      · rw [strLen_append] at L0
        omega
      · omega
    refine ⟨_, rfl, by rw [e0]; decide, ?_⟩
    rw [e0]
    refine ⟨_, rfl, x, Ct, dx, _, _, rfl, hx, TC.cl, TC.nD, rfl, l, namesD ns, rfl, .lst (SqL.of hl) (dr_strs ns), S1.sh, Nat.le_trans S1.dp (by decide), S1.fits (by decide), _, rfl, by rw [sizeLine_eq]; omega, ?_⟩
    refine ⟨_, rfl, by rw [sizeLine_eq]; omega, ?_⟩
    refine ⟨_, rfl, x, Ct, dx, _, _, rfl, hx, TC.cl, TC.nR, rfl, m, rowsD rs, rfl, .lst (SqL.of hm) (dr_rows hp), S2.sh, Nat.le_trans S2.dp (by decide), S2.fits (by decide), _, rfl, by rw [sizeLine_eq]; omega, ?_⟩
    exact ⟨_, rfl, by rw [sizeLine_eq]; exact Nat.le_trans L0 (by decide), q⟩
end
end K14


namespace K14
open PySem PySem.Spec PyProof.Rows L2 Xv Cr TL
def pairD (e : Int × Int) : PyData := .tuple [.int e.1, .int e.2]
theorem dt_pair {K : PySem.W.Frag} {H : Hp} {t : Addr} {e : Int × Int} (h : H t = some (.tup [.int e.1, .int e.2])) : Dt K (fun b => b = t) H (.ref t) (pairD e) :=
  .tup ((vw_at (S := fun b => b = t) rfl).trans h) (.cons (.int _) (.cons (.int _) .nil))
theorem str_len (x : Str) (n : Nat) (h : x.length ≤ n) (hn : n ≤ 16777216 := by decide) : x.length ≤ sizeLine := by
  rw [sizeLine_eq]
  omega
theorem thT_eq (ns : List Str) (rs : List Rw) : "Thing(" ++ (namesD ns).shown ++ ", " ++ (rowsD rs).shown ++ ")" = thT ns rs := rfl
/-- the parts of a thing's text are short -/
theorem thT_parts {ns : List Str} {rs : List Rw} (R : Right ns rs) : (("Thing(" ++ (namesD ns).shown) : Str).length ≤ 40000 ∧ (("Thing(" ++ (namesD ns).shown ++ ", ") : Str).length ≤ 40000 ∧ (("Thing(" ++ (namesD ns).shown ++ ", " ++ (rowsD rs).shown) : Str).length ≤ 40000 ∧ (thT ns rs).length ≤ 40000 := by
  have L0 := len_th R
  have L1 := L0
  unfold thT at L0
  rw [strLen_append] at L0
  refine ⟨?_, ?_, ?_, L1⟩
  · rw [strLen_append, strLen_append] at L0
    omega
  · rw [strLen_append] at L0
    omega
  · omega
theorem repr_at {K : PySem.W.Frag} {H : Hp} {v : V} {d : PyData} {a b : Nat} {Q : VK} (hd : Dr K H v d) (s : Sm d a b) (ha : a ≤ 60) (hb : b ≤ 1000000) (q : Q (.str d.shown) H) : rRepr K [v] H Q := by
  unfold rRepr
  exact ⟨v, d, rfl, hd, s.sh, Nat.le_trans s.dp ha, s.fits hb, q⟩
theorem told_dr {K : PySem.W.Frag} {H : Hp} {v1 v3 v6 : V} {n : Nat} {z : Str} {ns : List Str} {rs : List Rw} (h1 : Dr K H v1 (namesD ns)) (hn : n = rs.length) (h3 : Dr K H v3 (rowsD rs)) (hz : z = thT ns rs) (h6 : Dr K H v6 (rowsD rs)) :
    DrAll K H [v1, .int n, v3, .int n, .str z, v6] [namesD ns, .int rs.length, rowsD rs, .int rs.length, .str (thT ns rs), rowsD rs] := by
  subst hn
  subst hz
  exact .cons h1 (.cons (.int _) (.cons h3 (.cons (.int _) (.cons (.str _) (.cons h6 .nil)))))
end K14


namespace K14
open PySem PySem.Spec PyProof.Rows L2 Xv Cr TL
/-- a property of an own class -/
structure PrpM (P : Program) (w : World) (K : PySem.W.Frag) (mg : Str → Option Value) (base : Heap) (C : Addr) (k : Nat) (f : Str) (sp : Sp) : Prop where
  ex : ∃ (p g : Addr) (fd : FuncData), PropOf K C f p g ∧ FnOk P w K mg base CX0 k g fd ["self"] sp ∧ Binds K fd ["self"] []
/-- a thing's own __call__ -/
structure CalM (P : Program) (w : World) (K : PySem.W.Frag) (mg : Str → Option Value) (base : Heap) (C : Addr) : Prop where
  ex : ∃ (g : Addr) (fd : FuncData), CallsO K C g ∧ FnOk P w K mg base CX0 6 g fd ["self", "state", "deed"] (spTCall K C) ∧ Binds K fd ["self", "state", "deed"] [] ∧ KBn K fd ["self", "state", "deed"] 1 ["deed", "state"] (fun us ws => us ++ ws.reverse) (fun vs zs => vs ++ zs.reverse)
/-- its own __repr__ -/
structure ReprM (P : Program) (w : World) (K : PySem.W.Frag) (mg : Str → Option Value) (base : Heap) (C : Addr) : Prop where
  ex : ∃ (g : Addr) (fd : FuncData), FnG P w K mg base 1 g fd ["self"] (spTRepr K C) ∧ PySem.W.findIn K (.ref C) "__repr__" = some (some (.ref g)) ∧ PySem.W.isFn K (.ref g) = true ∧ Binds K fd ["self"] []
section
variable {X : Cx} {C : Addr} {k j : Nat} {sp : Sp} {f x : Str} {e : Expr} {es : List Expr} {ta : TE} {t : TA} {p pos : Pos}
theorem pe_prp (c : PrpM X.prog X.w X.K X.mg X.base C k f sp) (cl : Cls X.K C) (hr : Room j X.A) (hk : k + 1 ≤ j) (he : PE X e ta) (hab : attributeBase e f X.env (eval e X.env) = eval e X.env := by rfl) : PE X (.Attribute e f pos) (tProp C sp [] E0 ta) := by
  obtain ⟨p, g, fd, hp, F, hb⟩ := c.ex
  exact pe_prop he cl hp F (hr.mono hk) hb .nil pass0 hab
theorem pe_calm (c : CalM X.prog X.w X.K X.mg X.base C) (hr : Room j X.A) (hk : 6 ≤ j) (he : PE X (.Name x p) ta) (ha : PA X (e :: es) t)
    (hst : starEach (e :: es) X.env = (false, eval e X.env) :: starEach es X.env := by rfl) (hpl : (backTo pos (starEach es X.env)).any (·.1) = false := by rfl) :
    PE X (.Call (.Name x p) (e :: es) [] pos) (tObj C (spTCall X.K C) ta t) := by
  obtain ⟨g, fd, co, F, hb, _⟩ := c.ex
  exact pe_obj he co F (hr.mono hk) hb ha hst hpl
theorem call_reprM (c : ReprM X.prog X.w X.K X.mg X.base C) (hr : Room j X.A) (hk : 2 ≤ j) (hgd : X.A.guards = some []) : CallR X (.builtin "repr") (rReprO C (spTRepr X.K C)) := by
  obtain ⟨g, fd, F, hs, hf, hb⟩ := c.ex
  exact call_reprO F (hr.mono hk) hgd hb hs hf
end

theorem map_str_at {ns : List Str} {i : Nat} {x : V} (h : (ns.map V.str)[i]? = some x) : ∃ z, ns[i]? = some z ∧ x = V.str z := by
  rw [List.getElem?_map] at h
  cases e : ns[i]? with
  | none => rw [e] at h; cases h
  | some z => rw [e] at h; exact ⟨z, rfl, (Option.some.inj h).symm⟩
theorem map_at {α β : Type} {g : α → β} {l : List α} {i : Nat} {d : β} (h : (l.map g)[i]? = some d) : ∃ r, l[i]? = some r ∧ d = g r := by
  rw [List.getElem?_map] at h
  cases e : l[i]? with
  | none => rw [e] at h; cases h
  | some z => rw [e] at h; exact ⟨z, rfl, (Option.some.inj h).symm⟩
section
variable {P : Program} {w : World} {K : PySem.W.Frag} {mg : Str → Option Value} {base : Heap} {Ct f : Addr} {fd : FuncData}
end
end K14

/-! an object called, and its methods, where these may raise -/
namespace Cr
open PySem PySem.Spec PyProof.Rows L2 Xv
section
variable {X : Cx} {CX : CXT} {k : Nat} {C g : Addr} {fd : FuncData} {sp : Sp} {ps : List Str} {E : L2.St → XK} {te : TE} {t : TA} {x m : Str} {p pos apos : Pos} {e o : Expr} {es : List Expr}
/-- what the callee leaves -/
theorem run_own {pins : List (Addr × Obj)} {σ : L2.St} {H : Hp} {s : Shared} {Q : VK} {us : List Value} {vs : List V} (F : FnOk X.prog X.w X.K X.mg X.base CX k g fd ps sp) (hr : Room k X.A) (hb : Binds X.K fd ps []) (hx : PassesAt CX X σ (E σ))
    (I : Inv X pins σ H s) (r : Vals vs us) (h : sp vs H Q (E σ)) : codeAny (model X.prog X.w) X.A (.call (.ref g) ⟨us, []⟩) (fun z s' => match z with | .ok (.ret u) => EP X pins σ Q u s' | .ok _ => False | .error u => X.xe u s') s := by
  have hl : (us ++ []).length = ps.length := by rw [List.append_nil, ← r.length]; exact F.len _ _ _ _ h
  have bb := hb s us I.kIn hl
  rw [List.append_nil] at bb
  refine codeAny_mono (F.run X.A X.stack s H ⟨us, []⟩ us vs Q (E σ) hr I.env0 bb r h) fun z s' hq => ?_
  cases z with
  | error u => exact hx pins H s u s' I hq
  | ok fl =>
    cases fl with
    | ret u => exact I.after hq
    | next => exact False.elim hq
    | brk => exact False.elim hq
    | cont => exact False.elim hq
def tObjS (C : Addr) (sp : Sp) (E : L2.St → XK) (te : TE) (t : TA) : TE := fun σ H Q => te σ H fun x H1 => t σ H1 fun vs H2 => ∃ a dx fs, x = .ref a ∧ H2 a = some (.ins C dx fs) ∧ sp (.ref a :: vs) H2 Q (E σ)
theorem pe_objS (he : PE X (.Name x p) te) (c : CallsO X.K C g) (F : FnOk X.prog X.w X.K X.mg X.base CX k g fd ps sp) (hr : Room k X.A) (hb : Binds X.K fd ps []) (hx : ∀ σ, PassesAt CX X σ (E σ)) (ha : PA X (e :: es) t)
    (hst : starEach (e :: es) X.env = (false, eval e X.env) :: starEach es X.env := by rfl) (hpl : (backTo pos (starEach es X.env)).any (·.1) = false := by rfl) :
    PE X (.Call (.Name x p) (e :: es) [] pos) (tObjS C sp E te t) := by
  refine ⟨fun pins s σ H Q I h => wpAny_Call_Name_kw (thn (he.run pins s σ H _ I h) fun u s1 ⟨y, H1, I1, ry, q⟩ => ?_)⟩
  have h0 : wpAny (model X.prog X.w) X.A (spliced (backTo pos (starEach (e :: es) X.env))) (fun us s2 => (∃ a dx, u = Value.ref a ∧ s2.heap.get? a = some (PySem.W.instObj C dx)) ∧ wpAny (model X.prog X.w) X.A (call u ([] ++ us)) (EP X pins σ Q) X.xe s2) X.xe s1 := by
    refine thn (ha.run pos pins s1 σ H1 _ I1 q) fun us s2 ⟨vs, H2, I2, r, a, dx, fs, ex, ea, q2⟩ => ?_
    subst ex
    obtain rfl : u = Value.ref a := ry
    have ob := obj_get I2 ea
    exact ⟨⟨a, dx, rfl, ob⟩, wpAny_call (inst_call I2.kIn ob c.at_ c.fn c.fi (run_own (us := .ref a :: us) (vs := .ref a :: vs) F hr hb (hx σ) I2 (.cons rfl r) q2))⟩
  show wpAny _ _ (callWith pos u [] (backTo pos (starEach (e :: es) X.env)) []) _ _ _
  rw [hst] at h0 ⊢
  refine callWith_inst (P := fun h => ∃ a dx, u = Value.ref a ∧ h.get? a = some (PySem.W.instObj C dx)) ?_ (fun h ⟨a, dx, e1, e2⟩ => ?_) (Calls.evalArgs_plain h0)
  · show ((false || (backTo pos (starEach es X.env)).any (·.1)) || false) = false
    rw [hpl]
    rfl
  · subst e1
    exact keeper_inst e2
def tMethS (C : Addr) (m : Str) (sp : Sp) (E : L2.St → XK) (ta : TE) (t : TA) : TE := fun σ H Q => ta σ H fun x H1 => ∃ a dx fs, x = .ref a ∧ H1 a = some (.ins C dx fs) ∧ fs.lookup m = none ∧ t σ H1 fun vs H2 => sp (x :: vs) H2 Q (E σ)
theorem pe_methS {pl : Sem Bool} (he : PE X o te) (c : Cls X.K C) (hm : Meth X.K C m g) (F : FnOk X.prog X.w X.K X.mg X.base CX k g fd ps sp) (hr : Room k X.A) (hb : Binds X.K fd ps []) (hx : ∀ σ, PassesAt CX X σ (E σ)) (ha : PA X (e :: es) t)
    (hst : starEach (e :: es) X.env = (false, eval e X.env) :: starEach es X.env := by rfl) (hpl : (backTo pos (starEach es X.env)).any (·.1) = false := by rfl)
    (ht : eval (.Call (.Attribute o m apos) (e :: es) [] pos) X.env = (do
      let ov ← eval o X.env
      standAt apos.atName
      let (fn, fst) ← holding [ov] (getMethod ov m pl)
      callWith pos fn fst (backTo pos (starEach (e :: es) X.env)) (backToKw pos (keywordEach [] X.env))) := by rfl) :
    PE X (.Call (.Attribute o m apos) (e :: es) [] pos) (tMethS C m sp E te t) := by
  refine ⟨fun pins s σ H Q I h => PySem.W.methodCall_KW (pl := pl) (thn (he.run pins s σ H _ I h) fun u s1 ⟨y, H1, I1, ry, a, dx, fs, ex, ea, l, q⟩ => ?_) ht⟩
  subst ex
  obtain rfl : u = Value.ref a := ry
  refine getmeth_ok I1 ea c hm l (PySem.W.callWith_K (first := [.ref a]) (h₀ := X.base) I.ok.mod.kin hm.kp (thn (ha.run pos pins s1 σ H1 _ I1 q) fun us s2 ⟨vs, H2, I2, r, q2⟩ => ⟨I2.kIn, ?_⟩) hst hpl)
  exact wpAny_call (run_own (us := .ref a :: us) (vs := .ref a :: vs) F hr hb (hx σ) I2 (.cons rfl r) q2)
end
/-- an own exception class that is raised, caught, and read -/
structure XCl (P : Program) (w : World) (K : PySem.W.Frag) (mg : Str → Option Value) (base : Heap) (x : Str) (C : Addr) (f : Str) : Prop where
  ex : Ex1 P w K mg base x C f
  sub : PySem.W.subIn K (.ref C) (.type "BaseException") = some true
  ty : PySem.W.typeIn K (.ref C) = some (.type "type")
  xf : XfC K C
  no : PySem.W.findIn K (.ref C) f = some none
  em : PySem.W.exmOne K (.ref C) (.ref C) = some true
/-- a def that may raise -/
structure ClX (P : Program) (w : World) (K : PySem.W.Frag) (mg : Str → Option Value) (base : Heap) (k : Nat) (x : Str) (sp : Sp) : Prop where
  ex : ∃ (f : Addr) (fd : FuncData) (ps : List Str), FnOk P w K mg base (L2.CX P w) k f fd ps sp ∧ mg x = some (.ref f) ∧ PySem.W.keepIn K (.ref f) = true ∧ Binds K fd ps []
/-- an own method that may raise -/
structure MetX (P : Program) (w : World) (K : PySem.W.Frag) (mg : Str → Option Value) (base : Heap) (k : Nat) (C : Addr) (m : Str) (sp : Sp) : Prop where
  ex : ∃ (g : Addr) (fd : FuncData) (ps : List Str), Cls K C ∧ Meth K C m g ∧ FnOk P w K mg base (L2.CX P w) k g fd ps sp ∧ Binds K fd ps []
/-- an own class's objects, called, where that may raise -/
structure CalX (P : Program) (w : World) (K : PySem.W.Frag) (mg : Str → Option Value) (base : Heap) (k : Nat) (C : Addr) (sp : Sp) : Prop where
  ex : ∃ (g : Addr) (fd : FuncData) (ps : List Str), CallsO K C g ∧ FnOk P w K mg base (L2.CX P w) k g fd ps sp ∧ Binds K fd ps []
section
variable {X : Cx} {W : WX} {k j : Nat} {C : Addr} {sp : Sp} {te : TE} {t : TA} {x m : Str} {p pos apos : Pos} {e o : Expr} {es : List Expr}
theorem pe_clX (c : ClX X.prog X.w X.K X.mg X.base k x sp) (hr : Room j X.A) (hk : k ≤ j) (tk : Takes X W) (hg : Gl X x) (ha : PA X (e :: es) t)
    (hdb : (x == ("__debug__" : Str)) = false := by decide) (he : starEach (e :: es) X.env = (false, eval e X.env) :: starEach es X.env := by rfl) (hpl : (backTo pos (starEach es X.env)).any (·.1) = false := by rfl) :
    PE X (.Call (.Name x p) (e :: es) [] pos) (tCallS sp (WE W) t) := by
  obtain ⟨f, fd, ps, F, hm, kp, b⟩ := c.ex
  exact pe_callS F (hr.mono hk) hg hm kp b (fun σ => passAt tk σ) ha hdb he hpl
theorem pe_calX (c : CalX X.prog X.w X.K X.mg X.base k C sp) (hr : Room j X.A) (hk : k ≤ j) (tk : Takes X W) (he : PE X (.Name x p) te) (ha : PA X (e :: es) t)
    (hst : starEach (e :: es) X.env = (false, eval e X.env) :: starEach es X.env := by rfl) (hpl : (backTo pos (starEach es X.env)).any (·.1) = false := by rfl) :
    PE X (.Call (.Name x p) (e :: es) [] pos) (tObjS C sp (WE W) te t) := by
  obtain ⟨g, fd, ps, co, F, b⟩ := c.ex
  exact pe_objS he co F (hr.mono hk) b (fun σ => passAt tk σ) ha hst hpl
theorem pe_metX {pl : Sem Bool} (c : MetX X.prog X.w X.K X.mg X.base k C m sp) (hr : Room j X.A) (hk : k ≤ j) (tk : Takes X W) (he : PE X o te) (ha : PA X (e :: es) t)
    (hst : starEach (e :: es) X.env = (false, eval e X.env) :: starEach es X.env := by rfl) (hpl : (backTo pos (starEach es X.env)).any (·.1) = false := by rfl)
    (ht : eval (.Call (.Attribute o m apos) (e :: es) [] pos) X.env = (do
      let ov ← eval o X.env
      standAt apos.atName
      let (fn, fst) ← holding [ov] (getMethod ov m pl)
      callWith pos fn fst (backTo pos (starEach (e :: es) X.env)) (backToKw pos (keywordEach [] X.env))) := by rfl) :
    PE X (.Call (.Attribute o m apos) (e :: es) [] pos) (tMethS C m sp (WE W) te t) := by
  obtain ⟨g, fd, ps, hc, hm, F, b⟩ := c.ex
  exact pe_methS (pl := pl) he hc hm F (hr.mono hk) b (fun σ => passAt tk σ) ha hst hpl ht
end
end Cr

namespace K14
end K14

namespace K14
open PySem PySem.Spec PyProof.Rows L2 Xv Cr TL
/-! ### the states that are come to -/
def ntry (rs : List Rw) (s p : Nat) : Int × Int := (rs.getD s []).getD p (0, 0)
def nx (rs : List Rw) (s p : Nat) : Nat := (ntry rs s p).2.toNat
def met1 (rs : List Rw) (s : Nat) (f : List Nat) (p : Nat) : List Nat := if nx rs s p ∈ f then f else f ++ [nx rs s p]
def metS (rs : List Rw) (ps f : List Nat) (s : Nat) : List Nat := ps.foldl (met1 rs s) f
/-- from f, the next one at i: in the end r -/
inductive MetRun (rs : List Rw) (ps : List Nat) : List Nat → Nat → List Nat → Prop where
  | stop {f : List Nat} {i : Nat} : f.length ≤ i → MetRun rs ps f i f
  | step {f r : List Nat} {i : Nat} : i < f.length → MetRun rs ps (metS rs ps f (f.getD i 0)) (i + 1) r → MetRun rs ps f i r
def metL (rs : List Rw) (ps : List Nat) : Nat → List Nat → Nat → List Nat
  | 0, f, _ => f
  | k + 1, f, i => if i < f.length then metL rs ps k (metS rs ps f (f.getD i 0)) (i + 1) else f
def met (rs : List Rw) (ps : List Nat) (n : Nat) : List Nat := metL rs ps (rs.length + 1) [n] 0
section
variable {rs : List Rw} {ps f r : List Nat} {s p i m : Nat}
theorem met1_pre : ∃ g, met1 rs s f p = f ++ g := by
  unfold met1
  split
  · exact ⟨[], by simp⟩
  · exact ⟨_, rfl⟩
theorem metS_pre : ∀ (ps f : List Nat), ∃ g, metS rs ps f s = f ++ g
  | [], f => ⟨[], by show f = _; simp⟩
  | p :: ps, f => by
    obtain ⟨g1, e1⟩ := met1_pre (rs := rs) (s := s) (f := f) (p := p)
    obtain ⟨g2, e2⟩ := metS_pre ps (met1 rs s f p)
    refine ⟨g1 ++ g2, ?_⟩
    show metS rs ps (met1 rs s f p) s = _
    rw [e2, e1, List.append_assoc]
theorem met1_has : nx rs s p ∈ met1 rs s f p := by
  unfold met1
  split
  · assumption
  · simp
theorem metS_has : ∀ (ps f : List Nat), ∀ p ∈ ps, nx rs s p ∈ metS rs ps f s
  | q :: ps, f, p, h => by
    rcases List.mem_cons.mp h with z | z
    · subst z
      obtain ⟨g, e⟩ := metS_pre (rs := rs) (s := s) ps (met1 rs s f p)
      show _ ∈ metS rs ps (met1 rs s f p) s
      rw [e]
      exact List.mem_append_left _ met1_has
    · exact metS_has ps (met1 rs s f q) p z
structure Fd (N : Nat) (f : List Nat) : Prop where
  nd : f.Nodup
  lt : ∀ a ∈ f, a < N
theorem Fd.len {N : Nat} (h : Fd N f) : f.length ≤ N := by
  have := L2.nat_nodup_len f (List.range N) h.nd fun a ha => List.mem_range.mpr (h.lt a ha)
  rwa [List.length_range] at this
theorem met1_fd {N : Nat} (h : Fd N f) (l : nx rs s p < N) : Fd N (met1 rs s f p) := by
  unfold met1
  split
  · exact h
  · rename_i n
    refine ⟨?_, fun a ha => ?_⟩
    · rw [List.nodup_append]
      exact ⟨h.nd, by simp, fun a ha b hb e => n (by rw [← List.mem_singleton.mp hb, ← e]; exact ha)⟩
    · rcases List.mem_append.mp ha with z | z
      · exact h.lt a z
      · rw [List.mem_singleton.mp z]
        exact l
theorem metS_fd {N : Nat} : ∀ (ps f : List Nat), Fd N f → (∀ p ∈ ps, nx rs s p < N) → Fd N (metS rs ps f s)
  | [], f, h, _ => h
  | p :: ps, f, h, l => metS_fd ps (met1 rs s f p) (met1_fd h (l p List.mem_cons_self)) fun q hq => l q (List.mem_cons_of_mem _ hq)
theorem getD_mem {f : List Nat} {i : Nat} (h : i < f.length) : f.getD i 0 ∈ f := by
  rw [List.getD_eq_getElem?_getD, List.getElem?_eq_getElem h]
  exact List.getElem_mem h
theorem MetRun.pre (h : MetRun rs ps f i r) : ∃ g, r = f ++ g := by
  induction h with
  | stop _ => exact ⟨[], by simp⟩
  | @step f r i _ _ ih =>
    obtain ⟨g, e⟩ := ih
    obtain ⟨g1, e1⟩ := metS_pre (rs := rs) (s := f.getD i 0) ps f
    exact ⟨g1 ++ g, by rw [e, e1, List.append_assoc]⟩
theorem MetRun.fd {N : Nat} (h : MetRun rs ps f i r) (hf : Fd N f) (l : ∀ s < N, ∀ p ∈ ps, nx rs s p < N) : Fd N r := by
  induction h with
  | stop _ => exact hf
  | @step f r i hi _ ih => exact ih (metS_fd ps f hf (l _ (hf.lt _ (getD_mem hi))))
theorem MetRun.closed (h : MetRun rs ps f i r) (hc : ∀ j < i, ∀ p ∈ ps, nx rs (f.getD j 0) p ∈ f) (hi : i ≤ f.length) : ∀ j < r.length, ∀ p ∈ ps, nx rs (r.getD j 0) p ∈ r := by
  induction h with
  | stop h => exact fun j hj => hc j (by omega)
  | @step f r i hlt _ ih =>
    obtain ⟨g, e⟩ := metS_pre (rs := rs) (s := f.getD i 0) ps f
    have gd : ∀ j < f.length, (metS rs ps f (f.getD i 0)).getD j 0 = f.getD j 0 := fun j hj => by
      rw [e, List.getD_eq_getElem?_getD, List.getElem?_append_left hj, ← List.getD_eq_getElem?_getD]
    refine ih (fun j hj p hp => ?_) (by rw [e, List.length_append]; omega)
    rw [gd j (by omega)]
    by_cases z : j = i
    · subst z
      exact metS_has ps f p hp
    · have := hc j (by omega) p hp
      rw [e]
      exact List.mem_append_left _ this
theorem MetRun.det {r2 : List Nat} (h : MetRun rs ps f i r) (g : MetRun rs ps f i r2) : r = r2 := by
  induction h with
  | stop h =>
    cases g with
    | stop _ => rfl
    | step q _ => omega
  | step h _ ih =>
    cases g with
    | stop q => omega
    | step _ g => exact ih g
theorem metL_run {N : Nat} : ∀ (k : Nat) (f : List Nat) (i : Nat), Fd N f → i ≤ f.length → N < k + i → (∀ s < N, ∀ p ∈ ps, nx rs s p < N) → MetRun rs ps f i (metL rs ps k f i)
  | 0, f, i, h, hi, hk, _ => by have := h.len; omega
  | k + 1, f, i, h, hi, hk, l => by
    unfold metL
    split
    · rename_i z
      have hf := metS_fd (rs := rs) ps f h (l _ (h.lt _ (getD_mem z)))
      obtain ⟨g, e⟩ := metS_pre (rs := rs) (s := f.getD i 0) ps f
      exact .step z (metL_run k _ _ hf (by rw [e, List.length_append]; omega) (by omega) l)
    · exact .stop (by omega)
end
/-- places of deeds, and a state -/
structure Pls (ns : List Str) (rs : List Rw) (ps : List Nat) (n : Nat) : Prop where
  lt : ∀ p ∈ ps, p < ns.length
  n : n < rs.length
section
variable {ns : List Str} {rs : List Rw} {ps : List Nat} {n s p : Nat}
theorem ntry_at (R : Right ns rs) (hs : s < rs.length) (hp : p < ns.length) : ∃ r, rs[s]? = some r ∧ r[p]? = some (ntry rs s p) ∧ (0 ≤ (ntry rs s p).1 ∧ (ntry rs s p).1 < 10) ∧ 0 ≤ (ntry rs s p).2 ∧ (ntry rs s p).2 < (rs.length : Nat) := by
  have h1 : rs[s]? = some rs[s] := List.getElem?_eq_getElem hs
  obtain ⟨a, b⟩ := R.tb.2 _ (List.getElem_mem hs)
  have hl : p < rs[s].length := by rw [a]; exact hp
  have h2 : rs[s][p]? = some rs[s][p] := List.getElem?_eq_getElem hl
  have e : ntry rs s p = rs[s][p] := by
    unfold ntry
    rw [show rs.getD s [] = rs[s] from by rw [List.getD_eq_getElem?_getD, h1, Option.getD_some], List.getD_eq_getElem?_getD, h2, Option.getD_some]
  rw [e]
  have q := b _ (List.getElem_mem hl)
  exact ⟨_, h1, h2, q.1, q.2⟩
theorem nx_lt (R : Right ns rs) (hs : s < rs.length) (hp : p < ns.length) : nx rs s p < rs.length := by
  obtain ⟨_, _, _, _, h0, h1⟩ := ntry_at R hs hp
  unfold nx
  omega
theorem met_run (R : Right ns rs) (L : Pls ns rs ps n) : MetRun rs ps [n] 0 (met rs ps n) :=
  metL_run _ _ _ ⟨by simp, fun a ha => by rw [List.mem_singleton.mp ha]; exact L.n⟩ (Nat.zero_le _) (by omega) fun s hs p hp => nx_lt R hs (L.lt p hp)
theorem met_fd (R : Right ns rs) (L : Pls ns rs ps n) : Fd rs.length (met rs ps n) :=
  (met_run R L).fd ⟨by simp, fun a ha => by rw [List.mem_singleton.mp ha]; exact L.n⟩ fun s hs p hp => nx_lt R hs (L.lt p hp)
theorem met_head (R : Right ns rs) (L : Pls ns rs ps n) : (met rs ps n)[0]? = some n := by
  obtain ⟨g, e⟩ := (met_run R L).pre
  rw [e]
  rfl
theorem met_closed (R : Right ns rs) (L : Pls ns rs ps n) : ∀ s ∈ met rs ps n, ∀ p ∈ ps, nx rs s p ∈ met rs ps n := fun s hs p hp => by
  obtain ⟨j, hj, rfl⟩ := List.getElem_of_mem hs
  have := (met_run R L).closed (fun j hj => by omega) (Nat.zero_le _) j hj p hp
  rwa [List.getD_eq_getElem?_getD, List.getElem?_eq_getElem hj, Option.getD_some] at this
end
end K14


namespace K14
open PySem PySem.Spec PyProof.Rows L2 Xv Cr TL
/-! ### what is refused -/
def spCDeedX (K : PySem.W.Frag) (C CI : Addr) : Sp := fun vs H _ E => ∃ (x : Addr) (S : Addr → Prop) (ns : List Str) (rs : List Rw) (z : Str), vs = [.ref x, .str z] ∧ ThAt K C S H x ns rs ∧ z ∉ ns ∧ ∀ d, H d = none → E (.ref CI) (some d) (upd H d (.xd [("value", .str z)]))
def spEntX (K : PySem.W.Frag) (C CI : Addr) : Sp := fun vs H _ E => ∃ (x : Addr) (S : Addr → Prop) (ns : List Str) (rs : List Rw) (i : Nat) (z : Str), vs = [.ref x, .int i, .str z] ∧ ThAt K C S H x ns rs ∧ rs.length ≤ 1000 ∧ i < rs.length ∧ z ∉ ns ∧ ∀ d, H d = none → E (.ref CI) (some d) (upd H d (.xd [("value", .str z)]))
def spCWordX (K : PySem.W.Frag) (C CI : Addr) : Sp := fun vs H _ E => ∃ (x : Addr) (S : Addr → Prop) (ns : List Str) (rs : List Rw) (a : Addr) (y z : Str), vs = [.ref x, .ref a] ∧ ThAt K C S H x ns rs ∧ H a = some (.lst [.str y, .str z]) ∧ y ∈ ns ∧ z ∉ ns ∧ ∀ d H', Same H H' → H d = none → H' d = some (.xd [("position", .int 1)]) → E (.ref CI) (some d) H'
def spRunX (K : PySem.W.Frag) (C CI : Addr) : Sp := fun vs H _ E => ∃ (x : Addr) (S : Addr → Prop) (ns : List Str) (rs : List Rw) (i : Nat) (a : Addr) (y z : Str), vs = [.ref x, .int i, .ref a] ∧ ThAt K C S H x ns rs ∧ rs.length ≤ 1000 ∧ i < rs.length ∧ H a = some (.lst [.str y, .str z]) ∧ y ∈ ns ∧ z ∉ ns ∧ ∀ d H', Same H H' → H d = none → H' d = some (.xd [("position", .int 1)]) → E (.ref CI) (some d) H'
section
variable {P : Program} {w : World} {K : PySem.W.Frag} {mg : Str → Option Value} {base : Heap} {Ct CI f : Addr} {fd : FuncData}
theorem ok_cdeedX (F : Fun K "check_deed" "check_deed" s_check_deed f fd) (c_has : OwnM P w K mg base Ct 1 "__contains__" ["self", "value"] (spTHas K Ct)) (xc : XCl P w K mg base "InvalidDeed" CI "value") : FnOk P w K mg base (L2.CX P w) 4 f fd ["thing", "deed"] (spCDeedX K Ct CI) := by
  refine F.okX sc_check_deed (fun vs H Q E h => ?_) (fun cdv A outer s H vs Q E hr h => ⟨_, (pss_one (ps_if (pt_cmpR (op_notInM c_has hr (by decide)) (pv 1) (pv 0) (by rfl)) (pss_one (ps_raise rfl (takes_of rfl rfl rfl rfl) (pmk_1 xc.ex (raises_own xc.sub xc.ty) hr (by decide) (by rfl) (pa_cons (pv 1) pa_nil)))) pss_nil)), ?_⟩)
  · obtain ⟨x, S, ns, rs, z, rfl, _⟩ := h
    rfl
  · obtain ⟨x, S, ns, rs, z, rfl, t, hz, q⟩ := h
    obtain ⟨dx, l, m, ys, hx, _⟩ := t.op
    refine ⟨_, rfl, _, rfl, x, dx, _, rfl, hx, x, S, ns, rs, .str z, rfl, t, .inl ⟨z, rfl, _, rfl, _, rfl, ite2 (fun _ => ⟨_, rfl, rfl, fun d hd => q d hd⟩) (fun b => ?_)⟩⟩
    rw [decide_eq_false hz] at b
    exact absurd rfl b
theorem ok_entX (F : Fun K "entry_at" "entry_at" s_entry_at f fd) (c_check_state : Cl P w K mg base 4 "check_state" (spCState K Ct)) (c_cdX : ClX P w K mg base 4 "check_deed" (spCDeedX K Ct CI)) : FnOk P w K mg base (L2.CX P w) 6 f fd ["thing", "state", "deed"] (spEntX K Ct CI) := by
  refine F.okX sc_entry_at (fun vs H Q E h => ?_) (fun cdv A outer s H vs Q E hr h => ⟨_, (pss_cons (ps_expr (pe_cl c_check_state hr (by decide) (by rfl) (pa_cons (pv 0) (pa_cons (pv 1) pa_nil))))
  (pss_cons (ps_expr (pe_clX c_cdX hr (by decide) (takes_of rfl rfl rfl rfl) (by rfl) (pa_cons (pv 0) (pa_cons (pv 2) pa_nil))))
  (pss_one ps_never))), ?_⟩)
  · obtain ⟨x, S, ns, rs, i, z, rfl, _⟩ := h
    rfl
  · obtain ⟨x, S, ns, rs, i, z, rfl, t, hn, hi, hz, q⟩ := h
    refine ⟨_, rfl, _, rfl, x, S, ns, rs, _, rfl, t, hn, ⟨by omega, by omega⟩, ?_⟩
    exact ⟨_, rfl, _, rfl, x, S, ns, rs, z, rfl, t, hz, fun d hd => q d hd⟩
theorem ok_callX (F : Fun K "__call__" "Thing.__call__" s_thing_call f fd) (c_eX : ClX P w K mg base 6 "entry_at" (spEntX K Ct CI)) : FnOk P w K mg base (L2.CX P w) 8 f fd ["self", "state", "deed"] (spEntX K Ct CI) := by
  refine F.okX sc_thing_call (fun vs H Q E h => ?_) (fun cdv A outer s H vs Q E hr h => ⟨_, (pss_one (ps_ret (pe_clX c_eX hr (by decide) (takes_of rfl rfl rfl rfl) (by rfl) (pa_cons (pv 0) (pa_cons (pv 1) (pa_cons (pv 2) pa_nil)))))), ?_⟩)
  · obtain ⟨x, S, ns, rs, i, z, rfl, _⟩ := h
    rfl
  · obtain ⟨x, S, ns, rs, i, z, rfl, h⟩ := h
    exact ⟨_, rfl, _, rfl, _, rfl, x, S, ns, rs, i, z, rfl, h⟩
theorem ok_cwordX (F : Fun K "check_word" "check_word" s_check_word f fd) (T : Bl mg) (c_is_list : Cl P w K mg base 1 "is_list" spIsList) (c_has : OwnM P w K mg base Ct 1 "__contains__" ["self", "value"] (spTHas K Ct)) (xc : XCl P w K mg base "InvalidWord" CI "position") : FnOk P w K mg base (L2.CX P w) 4 f fd ["thing", "word"] (spCWordX K Ct CI) := by
  refine F.okX sc_check_word (fun vs H Q E h => ?_) (fun cdv A outer s H vs Q E hr h => ⟨_, (pss_cons (ps_if (pt_not (pt_val (pe_cl c_is_list hr (by decide) (by rfl) (pa_cons (pv 1) pa_nil)))) (pss_one ps_never) pss_nil)
  (pss_one (ps_for (passes_of rfl) rfl (pi_enum2 rfl T.enumerate (pa_cons (pv 1) pa_nil)) (pg_tup rfl (pgs_cons (pg_name (i := 2) sc_check_word.nd rfl (Or.inl rfl)) (pgs_cons (pg_name (i := 3) sc_check_word.nd rfl (Or.inl rfl)) pgs_nil))) (pss_one (ps_if (pt_cmpR (op_notInM c_has hr (by decide)) (pv 3) (pv 0) (by rfl)) (pss_one (ps_raise rfl (takes_of rfl rfl rfl rfl) (pmk_1 xc.ex (raises_own xc.sub xc.ty) hr (by decide) (by rfl) (pa_cons (pv 2) pa_nil)))) pss_nil))))), ?_⟩)
  · obtain ⟨x, S, ns, rs, a, y, z, rfl, _⟩ := h
    rfl
  · obtain ⟨x, S, ns, rs, a, y, z, rfl, t, ha, hy, hz, q⟩ := h
    refine ⟨_, rfl, a, _, rfl, .inl ha, fun H1 s1 => ⟨true, rfl, ite2 (fun z => nomatch z) (fun _ => ?_)⟩⟩
    have t1 := t.same s1
    have ha1 := s1 _ _ ha
    refine ⟨_, rfl, a, _, rfl, .inl ⟨SqL.of ha1, ?_⟩⟩
    refine for_it (walk_enum (K := K) (a := a) (xs := [V.str y, V.str z])) (fun i σ H' => ∃ u2 u3, σ = [some (.ref x), some (.ref a), u2, u3] ∧ Same H1 H' ∧ i ≤ 1) ⟨_, _, rfl, Same.refl _, by decide⟩ (fun i σ H' _ ⟨_, _, _, e, _⟩ => SqL.of (e _ _ ha1)) (fun i v σ H2 H3 hi e y' => ?_) (fun σ H' e => ?_)
    · obtain ⟨tt, x1, x2, rfl, nt, rfl, e1, e2⟩ := y'
      obtain ⟨u2, u3, rfl, s2, i1⟩ := e
      cases e1
      replace e2 : ([V.str y, V.str z] : List V)[i]? = some x2 := e2
      have s3 : Same H1 (upd H2 tt (.tup [.int (i : Nat), x2])) := s2.trans (same_upd nt)
      have t3 := t1.same s3
      obtain ⟨dx, l, m, ys, hx, _⟩ := t3.op
      refine ⟨tt, _, rfl, .inl (.inl upd_same), rfl, _, _, rfl, _, _, rfl, ⟨rfl, ?_⟩⟩
      match i, i1, e2 with
      | 0, _, e2 =>
        cases e2
        refine ⟨_, rfl, _, rfl, x, dx, _, rfl, hx, x, S, ns, rs, .str y, rfl, t3, .inl ⟨y, rfl, _, rfl, _, rfl, ite2 (fun b => ?_) (fun _ => ⟨_, _, rfl, s3, by decide⟩)⟩⟩
        rw [decide_eq_true hy] at b
        cases b
      | 1, _, e2 =>
        cases e2
        refine ⟨_, rfl, _, rfl, x, dx, _, rfl, hx, x, S, ns, rs, .str z, rfl, t3, .inl ⟨z, rfl, _, rfl, _, rfl, ite2 (fun _ => ⟨_, rfl, rfl, fun d hd => ?_⟩) (fun b => ?_)⟩⟩
        · exact q d _ ((s1.trans s3).trans (same_upd hd)) ((s1.trans s3).free hd) upd_same
        · rw [decide_eq_false hz] at b
          exact absurd rfl b
    · obtain ⟨_, _, _, _, h⟩ := e
      exact absurd (show (2 : Nat) ≤ 1 from h) (by decide)
theorem ok_runX (F : Fun K "run" "Thing.run" s_thing_run f fd) (c_check_state : Cl P w K mg base 4 "check_state" (spCState K Ct)) (c_cwX : ClX P w K mg base 4 "check_word" (spCWordX K Ct CI)) : FnOk P w K mg base (L2.CX P w) 6 f fd ["self", "state", "word"] (spRunX K Ct CI) := by
  refine F.okX sc_thing_run (fun vs H Q E h => ?_) (fun cdv A outer s H vs Q E hr h => ⟨_, (pss_cons (ps_expr (pe_cl c_check_state hr (by decide) (by rfl) (pa_cons (pv 0) (pa_cons (pv 1) pa_nil))))
  (pss_cons (ps_expr (pe_clX c_cwX hr (by decide) (takes_of rfl rfl rfl rfl) (by rfl) (pa_cons (pv 0) (pa_cons (pv 2) pa_nil))))
  (pss_cons ps_never
  (pss_cons ps_never
  (pss_cons ps_never
  (pss_cons ps_never
  (pss_one ps_never))))))), ?_⟩)
  · obtain ⟨x, S, ns, rs, i, a, y, z, rfl, _⟩ := h
    rfl
  · obtain ⟨x, S, ns, rs, i, a, y, z, rfl, t, hn, hi, ha, hy, hz, q⟩ := h
    refine ⟨_, rfl, _, rfl, x, S, ns, rs, _, rfl, t, hn, ⟨by omega, by omega⟩, ?_⟩
    exact ⟨_, rfl, _, rfl, x, S, ns, rs, a, y, z, rfl, t, ha, hy, hz, q⟩
end
end K14


namespace K14
open PySem PySem.Spec PyProof.Rows L2 Xv Cr TL
abbrev s_gone : Stmt := top 53
abbrev N_gone : List Str := ["_law_near", "_law_gone", "_law_name", "_law_heard", "e"]
theorem sc_gone : FnScope N_gone ["_law_near", "_law_gone"] (defScope s_gone) := ⟨rfl, rfl, rfl, by decide +kernel, rfl, by decide +kernel, by decide +kernel⟩
def spGone (K : PySem.W.Frag) (C : Addr) : Sp := fun vs H Q _ => ∃ (x a : Addr) (S : Addr → Prop) (ns : List Str) (rs : List Rw) (zs : List Str), vs = [.ref x, .ref a] ∧ ThAt K C S H x ns rs ∧ Right ns rs ∧ H a = some (.lst (zs.map V.str)) ∧ (∀ z ∈ zs, z ∉ ns ∧ Nm z) ∧ ∀ H', Same H H' → Q (.bl true) H'
section
variable {P : Program} {w : World} {K : PySem.W.Frag} {mg : Str → Option Value} {base : Heap} {Ct CD CW f : Addr} {fd : FuncData}
theorem ok_gone (F : Fun K "_law_gone_right" "_law_gone_right" s_gone f fd) (T : Bl mg) (TC : ThC K Ct) (c_has : OwnM P w K mg base Ct 1 "__contains__" ["self", "value"] (spTHas K Ct)) (p_deeds : PrpM P w K mg base Ct 1 "deeds" (spTDeeds K Ct)) (xd : XCl P w K mg base "InvalidDeed" CD "value") (xw : XCl P w K mg base "InvalidWord" CW "position") (m_callX : CalX P w K mg base 8 Ct (spEntX K Ct CD)) (m_runX : MetX P w K mg base 6 Ct "run" (spRunX K Ct CW)) : FnOk P w K mg base CX0 9 f fd ["_law_near", "_law_gone"] (spGone K Ct) := by
  refine F.ok sc_gone (fun vs H Q E h => ?_) (fun cdv A outer s H vs Q E hr h => ?_)
  · obtain ⟨x, a, S, ns, rs, zs, rfl, _⟩ := h
    rfl
  · obtain ⟨x, a, S, ns, rs, zs, rfl, t, R, ha, hz, q⟩ := h
    refine ⟨_, (pss_cons (ps_for PassesOwn.never rfl (pi_list (pv 1)) (pg_name (i := 2) sc_gone.nd rfl (Or.inl rfl)) (pss_cons (ps_set (i := 3) sc_gone.nd rfl (Or.inl rfl) (pe_lst pa_nil))
  (pss_cons (ps_try_as (i := 4) (tb := fun W => tDrop (tObjS Ct (spEntX K Ct CD) (WE W) (tVar 0) (tCons (tC (.int 0)) (tCons (tVar 2) tNil)))) (ts := fun a cls d => tDrop (tBM K "list" rAppend (tVar 3) (tCons (tXf a cls d CD "value" (tVar 4)) tNil))) (Wout := fun _ _ _ _ => False) rfl rfl sc_gone.nd rfl rfl ⟨rfl, by decide, Or.inl xd.ex.gm⟩ takes0
    (fun W pn xe tk _ => pss_one (ps_expr (by exact (pe_calX m_callX hr (by decide) tk (pv 0) (pa_cons pe_int (pa_cons (pv 2) pa_nil))))))
    (fun a oe cls d pn hz hf => pss_one (ps_expr (by exact (pe_bm PySem.F.plainAttrs_list PySem.F.slot_list_append PySem.F.type_list_append mt_append (pv 3) (pa_cons (pe_xf xd.xf xd.no hz hf (pv 4)) pa_nil))))))
  (pss_cons (ps_try_as (i := 4) (tb := fun W => tDrop (tMethS Ct "run" (spRunX K Ct CW) (WE W) (tVar 0) (tCons (tC (.int 0)) (tCons (tLst (tCons (tOp (rIxL K) (tProp Ct (spTDeeds K Ct) [] E0 (tVar 0)) (tC (.int 0))) (tCons (tVar 2) tNil))) tNil)))) (ts := fun a cls d => tDrop (tBM K "list" rAppend (tVar 3) (tCons (tXf a cls d CW "position" (tVar 4)) tNil))) (Wout := fun _ _ _ _ => False) rfl rfl sc_gone.nd rfl rfl ⟨rfl, by decide, Or.inl xw.ex.gm⟩ takes0
    (fun W pn xe tk _ => pss_one (ps_expr (by exact (pe_metX m_runX hr (by decide) tk (pv 0) (pa_cons pe_int (pa_cons (pe_lst (pa_cons (pe_ix ix_list (pe_prp p_deeds TC.cl hr (by decide) (pv 0)) pe_int (fun _ _ => rfl)) (pa_cons (pv 2) pa_nil))) pa_nil))))))
    (fun a oe cls d pn hz hf => pss_one (ps_expr (by exact (pe_bm PySem.F.plainAttrs_list PySem.F.slot_list_append PySem.F.type_list_append mt_append (pv 3) (pa_cons (pe_xf xw.xf xw.no hz hf (pv 4)) pa_nil))))))
  (pss_one (ps_if (PW.pt (pw_or (pt_cmpR (op_inM c_has hr (by decide)) (pv 2) (pv 0) (by rfl)) (pw_or1 (pt_cmpR (op_neD hr.units) (pv 3) (pe_lst (pa_cons (pv 2) (pa_cons pe_int pa_nil))) (nomark _))))) (pss_one (ps_ret pe_bl)) pss_nil))))))
  (pss_one (ps_ret pe_bl))), ?_⟩
    have d0 := R.d0
    have r0 := R.r0
    have r8 := R.r8
    have d4 := R.d4
    obtain ⟨y, hy⟩ : ∃ y, ns[0]? = some y := ⟨_, List.getElem?_eq_getElem d0⟩
    have hyn : y ∈ ns := List.mem_of_getElem? hy
    obtain ⟨dx, l0, m0, ys0, hx0, _⟩ := t.op
    refine ⟨_, rfl, a, rfl, ⟨_, SqL.of ha⟩, ?_⟩
    refine for_it (walk_list (K := K) (a := a) (xs := zs.map V.str)) (fun i σ H' => ∃ u2 u3, σ = [some (.ref x), some (.ref a), u2, u3, none] ∧ Same H H') ⟨none, none, rfl, Same.refl _⟩ (fun i σ H' _ ⟨_, _, _, s⟩ => SqL.of (s _ _ ha)) (fun i v σ H0 H1 hi e yy => ?_) (fun σ H1 e => ?_)
    · obtain ⟨rfl, hv⟩ := yy
      obtain ⟨u2, u3, rfl, s1⟩ := e
      obtain ⟨z, hz1, rfl⟩ : ∃ z, zs[i]? = some z ∧ v = V.str z := by
        rw [List.getElem?_map] at hv
        cases q : zs[i]? with
        | none => rw [q] at hv; cases hv
        | some z => rw [q] at hv; exact ⟨z, rfl, (Option.some.inj hv).symm⟩
      obtain ⟨nz, nmz⟩ := hz z (List.mem_of_getElem? hz1)
      refine ⟨by show 0 ≤ sizeLine; decide, fun L nL => ?_⟩
      have s2 : Same H1 (upd H1 L (.lst [])) := same_upd nL
      have eL : upd H1 L (.lst []) L = some (.lst []) := upd_same
      have nLH : H L = none := s1.free nL
      generalize upd H1 L (.lst []) = H2 at s2 eL ⊢
      have s2 := s1.trans s2
      -- the thing, called
      refine ⟨_, rfl, _, rfl, x, dx, _, rfl, s2 _ _ hx0, x, S, ns, rs, 0, z, rfl, t.same s2, by omega, by omega, nz, fun d hd => ?_⟩
      refine ⟨true, xd.em, fun _ e1 ne1 => ?_, fun q => nomatch q⟩
      have s3 : Same H2 (upd H2 d (.xd [("value", .str z)])) := same_upd hd
      have ed : upd H2 d (.xd [("value", .str z)]) d = some (.xd [("value", .str z)]) := upd_same
      generalize upd H2 d (.xd [("value", .str z)]) = H3 at s3 ed ne1 ⊢
      have eL3 := s3 _ _ eL
      refine ⟨_, rfl, .inl ⟨rfl, _, SqL.of eL3⟩, ?_⟩
      refine ⟨_, rfl, rfl, rfl, d, _, _, rfl, ed, rfl, L, _, _, rfl, rfl, eL3, by show 0 < sizeLine; decide, ?_⟩
      have s4 : Same H (upd H3 L (.lst ([] ++ [V.str z]))) := fun b o q => by
        rw [upd_ne (fun h => by rw [h, nLH] at q; cases q)]
        exact s3 _ _ (s2 _ _ q)
      have eL4 : upd H3 L (.lst ([] ++ [V.str z])) L = some (.lst [V.str z]) := upd_same
      generalize upd H3 L (.lst ([] ++ [V.str z])) = H4 at s4 eL4 ⊢
      -- its run
      refine ⟨_, rfl, x, dx, _, rfl, s4 _ _ hx0, rfl, ?_⟩
      refine ⟨_, rfl, x, dx, _, rfl, s4 _ _ hx0, x, S, ns, rs, rfl, t.same s4, fun l2 nl2 => ?_⟩
      have s5 : Same H4 (upd H4 l2 (.lst (ns.map V.str))) := same_upd nl2
      have el2 : upd H4 l2 (.lst (ns.map V.str)) l2 = some (.lst (ns.map V.str)) := upd_same
      generalize upd H4 l2 (.lst (ns.map V.str)) = H5 at s5 el2 ⊢
      refine ⟨l2, _, ((0 : Nat) : Int), V.str y, rfl, rfl, SqL.of el2, at_i (show (ns.map V.str)[0]? = some (V.str y) from by rw [List.getElem?_map, hy]; rfl), _, rfl, by show 2 ≤ sizeLine; decide, fun w nw => ?_⟩
      have s6 : Same H5 (upd H5 w (.lst [.str y, .str z])) := same_upd nw
      have ew : upd H5 w (.lst [.str y, .str z]) w = some (.lst [.str y, .str z]) := upd_same
      generalize upd H5 w (.lst [.str y, .str z]) = H6 at s6 ew ⊢
      have s46 := s5.trans s6
      refine ⟨x, S, ns, rs, 0, w, y, z, rfl, t.same (s4.trans s46), by omega, by omega, ew, hyn, nz, fun d2 H7 s7 nd2 ed2 => ?_⟩
      refine ⟨true, xw.em, fun _ e2 ne2 => ?_, fun q => nomatch q⟩
      have eL7 := s7 _ _ (s46 _ _ eL4)
      refine ⟨_, rfl, .inl ⟨rfl, _, SqL.of eL7⟩, ?_⟩
      refine ⟨_, rfl, rfl, rfl, d2, _, _, rfl, ed2, rfl, L, _, _, rfl, rfl, eL7, by show 1 < sizeLine; decide, ?_⟩
      have s8 : Same H (upd H7 L (.lst ([V.str z] ++ [V.int 1]))) := fun b o q => by
        rw [upd_ne (fun h => by rw [h, nLH] at q; cases q)]
        exact s7 _ _ (s46 _ _ (s4 _ _ q))
      have eL8 : upd H7 L (.lst ([V.str z] ++ [V.int 1])) L = some (.lst [V.str z, V.int 1]) := upd_same
      generalize upd H7 L (.lst ([V.str z] ++ [V.int 1])) = H8 at s8 eL8 ⊢
      -- what was heard
      refine ⟨_, rfl, _, rfl, x, dx, _, rfl, s8 _ _ hx0, x, S, ns, rs, .str z, rfl, t.same s8, .inl ⟨z, rfl, _, rfl, _, rfl, ?_⟩⟩
      rw [decide_eq_false nz]
      refine ite2 (fun h => absurd h (by decide)) (fun _ => ?_)
      refine ⟨_, rfl, _, rfl, by show 2 ≤ sizeLine; decide, fun u nu => ?_⟩
      have s9 : Same H8 (upd H8 u (.lst [.str z, .int 1])) := same_upd nu
      have lay : PyData.canLay0 (.list [.str z, .int 1]) = true := by
        show (PyData.canLay0 (.str z) && (PyData.canLay0 (.int 1) && true)) = true
        rw [(Bool.and_eq_true_iff.mp (show (PyData.canLay0 (.str z) && true) = true from lay_strs [z] (by simpa using nmz))).1]
        rfl
      have shp : SeqAt.shaped (.list [.str z, .int 1]) = true := by
        unfold SeqAt.shaped
        rw [lay]
        rfl
      refine ⟨.list [.str z, .int 1], .list [.str z, .int 1], .lst (SqL.of (s9 _ _ eL8)) (.cons (.str z) (.cons (.int 1) .nil)), .lst (SqL.of upd_same) (.cons (.str z) (.cons (.int 1) .nil)), shp, shp, ?_⟩
      rw [SeqAt.eqv_refl _ lay]
      exact ⟨false, rfl, ite2 (fun z => nomatch z) (fun _ => ⟨_, _, rfl, s8.trans s9⟩)⟩
    · obtain ⟨u2, u3, rfl, s1⟩ := e
      exact q _ s1
end
end K14

namespace K14
open PySem PySem.Spec PyProof.Rows L2 Xv Cr TL
abbrev s_mets : Stmt := top 38
abbrev N_mets : List Str := ["rows", "state", "places", "met", "known", "at", "place", "after"]
theorem sc_mets : FnScope N_mets ["rows", "state", "places"] (defScope s_mets) := ⟨rfl, rfl, rfl, by decide +kernel, rfl, by decide +kernel, by decide +kernel⟩
/-- the states that were met, as a dict -/
def kvB (g : List Nat) : List (Key × V) := g.map fun (a : Nat) => ((.inl (a : Int) : Key), V.bl true)
theorem kvB_val (g : List Nat) (a : Nat) : (valV (kvB g) (.inl (a : Int))).isSome = decide (a ∈ g) := by
  induction g with
  | nil => rfl
  | cons e r ih =>
    by_cases h : e = a
    · subst h
      show (valV ((Sum.inl (e : Int), V.bl true) :: kvB r) _).isSome = _
      rw [valV_pos rfl, decide_eq_true List.mem_cons_self]
      rfl
    · show (valV ((Sum.inl (e : Int), V.bl true) :: kvB r) _).isSome = _
      rw [valV_neg (fun q => h (by have q1 : (e : Int) = (a : Int) := Sum.inl.inj q; omega)), ih]
      refine decide_eq_decide.mpr ⟨List.mem_cons_of_mem _, fun z => ?_⟩
      rcases List.mem_cons.mp z with z | z
      · exact absurd z.symm h
      · exact z
theorem kvB_put {g : List Nat} {a : Nat} (h : a ∉ g) : putK (kvB g) (.inl (a : Int)) (.bl true) = kvB (g ++ [a]) := by
  have e : ((kvB g).any fun kv => decide (kv.1 = (.inl (a : Int) : Key))) = false := by
    rw [List.any_eq_false]
    intro kv hkv
    obtain ⟨b, hb, rfl⟩ := List.mem_map.mp hkv
    rw [decide_eq_true_eq]
    intro q
    have q1 : (b : Int) = (a : Int) := Sum.inl.inj q
    have q2 : b = a := by omega
    exact h (q2 ▸ hb)
  unfold putK
  rw [if_neg (by rw [e]; exact Bool.false_ne_true)]
  unfold kvB
  rw [List.map_append]
  rfl
theorem kvB_len (g : List Nat) : (kvB g).length = g.length := by
  unfold kvB
  rw [List.length_map]
def zs (g : List Nat) : List V := g.map fun (a : Nat) => V.int (a : Nat)
theorem zs_app (g : List Nat) (a : Nat) : zs (g ++ [a]) = zs g ++ [V.int (a : Nat)] := List.map_append
theorem zs_at {g : List Nat} {i a : Nat} (h : g[i]? = some a) : (zs g)[i]? = some (.int (a : Nat)) := by
  unfold zs
  rw [List.getElem?_map, h]
  rfl
theorem metS_snoc {rs : List Rw} {ps f : List Nat} {s j p : Nat} (h : ps[j]? = some p) : metS rs (ps.take (j + 1)) f s = met1 rs s (metS rs (ps.take j) f s) p := by
  unfold metS
  rw [Xv.take_step h, List.foldl_append]
  rfl
def MetJ (H : Hp) (m p L Kd : Addr) (n : Nat) (rs : List Rw) (ps r : List Nat) (k : Nat) (σ : L2.St) (H' : Hp) : Prop := ∃ f i u6 u7, σ = [some (.ref m), some (.int (n : Nat)), some (.ref p), some (.ref L), some (.ref Kd), some (.int (i : Nat)), u6, u7] ∧ k + i = rs.length + 1 ∧ i ≤ f.length ∧ Fd rs.length f ∧ MetRun rs ps f i r ∧ Same H H' ∧ H' L = some (.lst (zs f)) ∧ H' Kd = some (.dK (kvB f))
def spMets (K : PySem.W.Frag) : Sp := fun vs H Q _ => ∃ (m : Addr) (n : Nat) (p : Addr) (ys : List V) (S : Addr → Prop) (ns : List Str) (rs : List Rw) (ps : List Nat), vs = [.ref m, .int (n : Nat), .ref p] ∧ H m = some (.lst ys) ∧ Paired (RwO S H) ys rs ∧ Right ns rs ∧ Pls ns rs ps n ∧ H p = some (.lst (zs ps)) ∧
  ∀ H' L, Same H H' → H L = none → H' L = some (.lst (zs (met rs ps n))) → Q (.ref L) H'
section
variable {P : Program} {w : World} {K : PySem.W.Frag} {mg : Str → Option Value} {base : Heap} {Ct f : Addr} {fd : FuncData}
theorem ok_mets (F : Fun K "met_states" "met_states" s_mets f fd) (T : Bl mg) : FnOk P w K mg base CX0 1 f fd ["rows", "state", "places"] (spMets K) := by
  refine F.ok sc_mets (fun vs H Q E h => ?_) (fun cdv A outer s H vs Q E hr h => ?_)
  · obtain ⟨m, n, p, ys, S, ns, rs, ps, rfl, _⟩ := h
    rfl
  · obtain ⟨m, n, p, ys, S, ns, rs, ps, rfl, hm, hp, R, PL, hps, q⟩ := h
    refine ⟨_, (pss_cons (ps_set (i := 3) sc_mets.nd rfl (Or.inl rfl) (pe_lst (pa_cons (pv 1) pa_nil)))
  (pss_cons (ps_set (i := 4) sc_mets.nd rfl (Or.inl rfl) (pe_disp (pps_cons (pv 1) pe_bl pps_nil) (by rfl) (by rfl) (fun z => by cases z) (by decide)))
  (pss_cons (ps_set (i := 5) sc_mets.nd rfl (Or.inl rfl) pe_int)
  (pss_cons (ps_while PassesOwn.never (pt_cmpR op_lt (pv 5) (pe_callB (id := "len") (call_ln) (by rfl) T.len (by decide +kernel) (pa_cons (pv 3) pa_nil)) (nomark _)) (pss_cons (ps_for PassesOwn.never rfl (pi_list (pv 2)) (pg_name (i := 6) sc_mets.nd rfl (Or.inl rfl)) (pss_cons (ps_set (i := 7) sc_mets.nd rfl (Or.inl rfl) (pe_ix ix_tup (pe_ix ix_list (pe_ix ix_list (pv 0) (pe_ix ix_list (pv 3) (pv 5) (fun _ _ => rfl)) (fun _ _ => rfl)) (pv 6) (fun _ _ => rfl)) pe_int (fun _ _ => rfl)))
  (pss_one (ps_if (pt_cmp (pc_dnotin (hu_of hr) (pv 7) (pv 4))) (pss_cons (ps_dput (hu_of hr) (pv 4) (pv 7) pe_bl (by rfl))
  (pss_one (ps_expr (pe_bm PySem.F.plainAttrs_list PySem.F.slot_list_append PySem.F.type_list_append mt_append (pv 3) (pa_cons (pv 7) pa_nil))))) pss_nil))))
  (pss_one (ps_aug (i := 5) sc_mets.nd rfl (Or.inl rfl) pe_int ip_add))))
  (pss_one (ps_ret (pv 3))))))), ?_⟩
    refine ⟨_, rfl, by show 1 ≤ sizeLine; decide, fun L nL => ?_⟩
    have s1 : Same H (upd H L (.lst [V.int (n : Nat)])) := same_upd nL
    have e1 : upd H L (.lst [V.int (n : Nat)]) L = some (.lst (zs [n])) := upd_same
    generalize upd H L (.lst [V.int (n : Nat)]) = H1 at s1 e1 ⊢
    refine fun Kd nK => ⟨_, rfl, upd_same, [(.inl (n : Int), .bl true)], rfl, by show 1 ≤ 15; decide, ?_⟩
    have nLK : L ≠ Kd := ne_of_none e1 nK
    have nKH : H Kd = none := s1.free nK
    have s2 : Same H (upd (upd H1 Kd (.dK [])) Kd (.dK (mergeK [] [(.inl (n : Int), .bl true)]))) := fun b o z => by
      rw [upd_ne (ne_of_none z nKH), upd_ne (ne_of_none z nKH)]
      exact s1 _ _ z
    have eK2 : upd (upd H1 Kd (.dK [])) Kd (.dK (mergeK [] [(.inl (n : Int), .bl true)])) Kd = some (.dK (kvB [n])) := upd_same
    have eL2 : upd (upd H1 Kd (.dK [])) Kd (.dK (mergeK [] [(.inl (n : Int), .bl true)])) L = some (.lst (zs [n])) := by rw [upd_ne nLK, upd_ne nLK]; exact e1
    generalize upd (upd H1 Kd (.dK [])) Kd (.dK (mergeK [] [(.inl (n : Int), .bl true)])) = H2 at s2 eK2 eL2 ⊢

    have c0 : Fd rs.length [n] := ⟨by simp, fun a ha => by rw [List.mem_singleton.mp ha]; exact PL.n⟩
    refine ⟨MetJ H m p L Kd n rs ps (met rs ps n), ⟨_, [n], 0, none, none, rfl, rfl, Nat.zero_le _, c0, met_run R PL, s2, eL2, eK2⟩, ?_⟩
    rintro k σ G ⟨f, i, u6, u7, rfl, hk, hi, fd1, mr, sG, gL, gK⟩
    refine ⟨_, rfl, _, rfl, L, _, rfl, .inl (SqL.of gL), _, _, rfl, rfl, ?_⟩
    rw [show (zs f).length = f.length from by unfold zs; rw [List.length_map]]
    by_cases hlt : i < f.length
    · refine ⟨_, rfl, ?_⟩
      rw [decide_eq_true (show ((i : Nat) : Int) < (f.length : Nat) by omega)]
      dsimp only
      rw [if_pos rfl]
      refine ⟨MetJ H m p L Kd n rs ps (met rs ps n) (k - 1), fun σ' H' z => ⟨k - 1, by have := fd1.len; omega, z⟩, ?_⟩
      have hs : f[i]? = some (f.getD i 0) := by rw [List.getD_eq_getElem?_getD, List.getElem?_eq_getElem hlt]; rfl
      have hsl : f.getD i 0 < rs.length := fd1.lt _ (List.mem_of_getElem? hs)
      generalize f.getD i 0 = s0 at hs hsl
      have mr2 : MetRun rs ps (metS rs ps f s0) (i + 1) (met rs ps n) := by
        cases mr with
        | stop z => omega
        | step _ z =>
          rw [List.getD_eq_getElem?_getD, hs] at z
          exact z
      refine ⟨_, rfl, p, rfl, ⟨_, SqL.of (sG _ _ hps)⟩, ?_⟩
      refine for_it (walk_list (K := K) (a := p) (xs := zs ps)) (fun j σ H' => ∃ u6 u7, σ = [some (.ref m), some (.int (n : Nat)), some (.ref p), some (.ref L), some (.ref Kd), some (.int (i : Nat)), u6, u7] ∧ Fd rs.length (metS rs (ps.take j) f s0) ∧ Same H H' ∧ H' L = some (.lst (zs (metS rs (ps.take j) f s0))) ∧ H' Kd = some (.dK (kvB (metS rs (ps.take j) f s0)))) ⟨u6, u7, rfl, fd1, sG, gL, gK⟩ (fun j σ H' _ ⟨_, _, _, _, s, _⟩ => SqL.of (s _ _ hps)) (fun j v σ Ga Gb hj e y => ?_) (fun σ Ga e => ?_)
      · obtain ⟨rfl, hv⟩ := y
        obtain ⟨v6, v7, rfl, fdj, sA, aL, aK⟩ := e
        obtain ⟨pj, hpj, rfl⟩ : ∃ q, ps[j]? = some q ∧ v = V.int (q : Nat) := by
          unfold zs at hv
          rw [List.getElem?_map] at hv
          cases e : ps[j]? with
          | none => rw [e] at hv; cases hv
          | some q => rw [e] at hv; exact ⟨q, rfl, (Option.some.inj hv).symm⟩
        obtain ⟨g, eg⟩ := metS_pre (rs := rs) (s := s0) (ps.take j) f
        have hg : (metS rs (ps.take j) f s0)[i]? = some s0 := by rw [eg, List.getElem?_append_left hlt]; exact hs
        obtain ⟨r, h1, h2, _, z0, z1⟩ := ntry_at R hsl (PL.lt _ (List.mem_of_getElem? hpj))
        obtain ⟨w1, hw1, a1, es, rfl, _, ha1, hps1⟩ := paired_at hp h1
        obtain ⟨w2, hw2, t2, rfl, _, ht2⟩ := paired_at hps1 h2
        have enx : (ntry rs s0 pj).2 = ((nx rs s0 pj : Nat) : Int) := by unfold nx; omega
        refine ⟨_, rfl, _, rfl, _, rfl, L, _, _, _, rfl, rfl, SqL.of aL, at_i (zs_at hg), m, _, _, _, rfl, rfl, SqL.of (sA _ _ hm), at_i hw1, ?_⟩
        refine ⟨_, rfl, a1, _, _, _, rfl, rfl, SqL.of (sA _ _ ha1), at_i hw2, ?_⟩
        refine ⟨t2, _, ((1 : Nat) : Int), _, rfl, rfl, .inl (.inl (sA _ _ ht2)), at_i (show [V.int (ntry rs s0 pj).1, V.int (ntry rs s0 pj).2][1]? = some (V.int (ntry rs s0 pj).2) from rfl), ?_⟩
        rw [enx]
        generalize hb : nx rs s0 pj = b at *
        refine ⟨_, rfl, _, rfl, Kd, _, rfl, DGet.k (k := .inl (b : Int)) aK, ?_⟩
        have sn := metS_snoc (rs := rs) (f := f) (s := s0) hpj
        unfold met1 at sn
        rw [hb] at sn
        have gl := fdj.len
        have r8 := R.r8
        have bl : b < rs.length := by omega
        refine ⟨_, rfl, ?_⟩
        rw [kvB_val]
        by_cases hin : b ∈ metS rs (ps.take j) f s0
        · rw [decide_eq_true hin]
          rw [if_pos hin] at sn
          refine ite2 (fun z => absurd z Bool.false_ne_true) (fun _ => ?_)
          exact ⟨_, _, rfl, sn ▸ fdj, sA, sn ▸ aL, sn ▸ aK⟩
        · rw [decide_eq_false hin]
          rw [if_neg hin] at sn
          refine ite2 (fun _ => ?_) (fun z => absurd rfl z)
          refine ⟨_, rfl, _, rfl, Kd, _, rfl, .inl ⟨_, .inl (b : Int), aK, rfl, by rw [kvB_len, sizeLine_eq]; omega, rfl⟩, ?_⟩
          rw [kvB_put hin]
          have aL2 : upd Gb Kd (.dK (kvB (metS rs (ps.take j) f s0 ++ [b]))) L = some (.lst (zs (metS rs (ps.take j) f s0))) := by rw [upd_ne nLK]; exact aL
          refine ⟨_, rfl, .inl ⟨rfl, _, SqL.of aL2⟩, _, rfl, L, _, _, rfl, rfl, aL2, by unfold zs; rw [List.length_map, sizeLine_eq]; omega, ?_⟩
          refine ⟨_, _, rfl, ?_, fun c o z => ?_, ?_, ?_⟩
          · rw [sn]
            have := met1_fd (rs := rs) (s := s0) (p := pj) fdj (hb.symm ▸ bl)
            unfold met1 at this
            rwa [hb, if_neg hin] at this
          · rw [upd_ne (ne_of_none z nL), upd_ne (ne_of_none z nKH)]
            exact sA _ _ z
          · rw [upd_same, sn, zs_app]
          · rw [upd_ne nLK.symm, upd_same, sn]
      · obtain ⟨v6, v7, rfl, fdj, sA, aL, aK⟩ := e
        have el : (zs ps).length = ps.length := by unfold zs; rw [List.length_map]
        rw [el, List.take_length] at fdj aL aK
        refine ⟨_, rfl, _, _, rfl, rfl, _, i + 1, v6, v7, by rfl, by have := fd1.len; omega, ?_, fdj, mr2, sA, aL, aK⟩
        obtain ⟨g, eg⟩ := metS_pre (rs := rs) (s := s0) ps f
        rw [eg, List.length_append]
        omega
    · refine ⟨_, rfl, ?_⟩
      rw [decide_eq_false (show ¬ ((i : Nat) : Int) < (f.length : Nat) by omega)]
      dsimp only
      rw [if_neg Bool.false_ne_true]
      have er : met rs ps n = f := by
        cases mr with
        | stop z => rfl
        | step z _ => exact absurd z hlt
      exact ⟨_, rfl, q _ _ sG nL (er.symm ▸ gL)⟩
end
end K14

namespace K14
open PySem PySem.Spec PyProof.Rows L2 Xv Cr TL
/-! check_deeds, where names are known -/
def spCDK (K : PySem.W.Frag) : Sp := fun vs H Q _ => ∃ (a l : Addr) (ns kn : List Str), vs = [.ref a, .ref l] ∧ LT H a (ns.map V.str) ∧ 0 < ns.length ∧ ns.length ≤ 1000 ∧ ns.Nodup ∧ (∀ x ∈ ns, Nm x) ∧ H l = some (.lst (kn.map V.str)) ∧ (∀ x ∈ ns, x ∈ kn) ∧ ∀ H', Same H H' → Q .non H'
theorem deeds_forK {P : Program} {w : World} {K : PySem.W.Frag} {J : It} {G : Hp → Prop} {a s l : Addr} {ns kn : List Str} {H H1 : Hp} {D : Ends} {u3 u4 : Option V} (W : Walk J (ns.map V.str).length G (YPair (fun i => some (.int (i : Nat))) (fun i => (ns.map V.str)[i]?))) (hG : ∀ H', Same H H' → G H')
    (hz : ns.length ≤ 1000) (nd : ns.Nodup) (nm : ∀ x ∈ ns, Nm x) (hl : H l = some (.lst (kn.map V.str))) (hk : ∀ x ∈ ns, x ∈ kn) (hs : H s = none) (h0 : Same H H1) (hs1 : H1 s = some (SetK P w s (fun _ => false) 0)) (hd : ∀ σ H', Same H H' → D.nx σ H') :
    ∃ W : Nat → Nat → L2.St → Hp → Prop, (∃ m, W 0 m [some (.ref a), some (.ref l), some (.ref s), u3, u4] H1) ∧ ∀ i m σ H, W i m σ H →
      (J.stop i H ∧ D.nx σ H) ∨ (J.go i H ∧ ∃ N : L2.St → Hp → Prop, (∀ σ' H', N σ' H' → ∃ m', m' < m ∧ W (i + 1) m' σ' H') ∧ ∀ x H', J.yld i H x H' → gTup K 2 (gCons (gName 3) (gCons (gName 4) gNil)) x σ H' fun σ2 H2 =>
        tSeq (tIfS (tOr (tNot (tB (tCall spIsName [] E0 (tCons (tVar 4) tNil)))) (tTest (tOp (rSInK P w false) (tVar 4) (tVar 2)))) tNever tNext)
          (tSeq (tIfS (tAnd (tB (tNotN (tVar 1))) (tTest (tOp (rIn K true) (tVar 4) (tVar 1)))) tNever tNext) (tDrop (tSAddK P w (tVar 2) (tCons (tVar 4) tNil)))) { D with nx := N, ct := N, bk := D.nx } σ2 H2) := by
  refine for_it W (fun i σ H' => ∃ u3 u4 S n, σ = [some (.ref a), some (.ref l), some (.ref s), u3, u4] ∧ Same H H' ∧ H' s = some (SetK P w s S n) ∧ n ≤ i ∧ ∀ x : Str, S (.inr x) = decide (x ∈ ns.take i)) ⟨_, _, _, 0, rfl, h0, hs1, Nat.le_refl _, fun x => by simp⟩ (fun i σ H' _ ⟨_, _, _, _, _, s', _⟩ => hG H' s') ?_ (fun σ H' ⟨_, _, _, _, _, s', _⟩ => hd σ H' s')
  rintro i x σ H2 H3 hi ⟨u3, u4, S, n, rfl, s2, h2, hn, hS⟩ ⟨t, x1, x2, rfl, nt, rfl, e1, e2⟩
  cases e1
  replace e2 : (ns.map V.str)[i]? = some x2 := e2
  obtain ⟨y, hy, rfl⟩ : ∃ y, ns[i]? = some y ∧ x2 = V.str y := by
    rw [List.getElem?_map] at e2
    cases e : ns[i]? with
    | none =>
      rw [e] at e2
      cases e2
    | some y =>
      rw [e] at e2
      exact ⟨y, rfl, (Option.some.inj e2).symm⟩
  have hin := List.mem_of_getElem? hy
  have hlt : i < ns.length := (List.getElem?_eq_some_iff.mp hy).1
  have hno : y ∉ ns.take i := fun hm => by
    obtain ⟨j, hj, ej⟩ := List.mem_take_iff_getElem.mp hm
    have e3 : ns[i] = y := (List.getElem?_eq_some_iff.mp hy).2
    have hji : j < i := by omega
    exact (List.pairwise_iff_getElem.mp nd j i (by omega) hlt hji) (by rw [ej, e3])
  have nst : s ≠ t := ne_of_none h2 nt
  have s3 := s2.trans (same_upd (o := .tup [.int (i : Nat), V.str y]) nt)
  refine ⟨t, _, rfl, .inl (.inl upd_same), rfl, _, _, rfl, _, _, rfl, ⟨rfl, ?_⟩⟩
  refine ⟨_, rfl, y, rfl, nm y hin, fun H4 s4 => ⟨true, rfl, ite2 (fun z => nomatch z) (fun _ => ?_)⟩⟩
  have h4 : H4 s = some (SetK P w s S n) := s4 _ _ (by rw [upd_ne nst]; exact h2)
  refine ⟨_, rfl, _, rfl, .inr y, s, S, n, rfl, rfl, h4, _, rfl, ite2 (fun z => ?_) (fun _ => ?_)⟩
  · exfalso
    have z2 : S (.inr y) = true := z
    rw [hS y] at z2
    exact hno (of_decide_eq_true z2)
  have hl4 : H4 l = some (.lst (kn.map V.str)) := s4 _ _ (s3 _ _ hl)
  refine ⟨_, rfl, _, rfl, ite2 (fun _ => ?_) (fun z => absurd rfl z)⟩
  refine ⟨_, rfl, _, rfl, l, _, rfl, .inl (SqL.of hl4), rfl, flat_names kn, _, rfl, ?_⟩
  rw [in_names, decide_eq_true (hk y hin)]
  refine ite2 (fun z => nomatch z) (fun _ => ?_)
  refine ⟨_, rfl, ⟨s, S, n, rfl, h4⟩, _, rfl, s, .inr y, S, n, rfl, rfl, h4, by rw [show PySem.scanBound = 4096 from rfl]; omega, ?_⟩
  refine ⟨_, _, _, _, rfl, fun b o e => ?_, upd_same, ?_, fun x => ?_⟩
  · rw [upd_ne (ne_of_none e hs)]
    exact s4 _ _ (s3 _ _ e)
  · split <;> omega
  · show (S (.inr x) || decide ((.inr x : Key) = .inr y)) = _
    rw [hS x, Xv.take_step hy]
    by_cases e : x = y
    · subst e
      simp
    · have e2 : decide ((.inr x : Key) = .inr y) = false := decide_eq_false fun q => e (Sum.inr.inj q)
      rw [e2, Bool.or_false]
      exact decide_eq_decide.mpr (by simp [e])
section
variable {P : Program} {w : World} {K : PySem.W.Frag} {mg : Str → Option Value} {base : Heap}
theorem ok_check_deedsK {f : Addr} {fd : FuncData} (F : FunD K "check_deeds" "check_deeds" (defArgs s_check_deeds) (defBody s_check_deeds) (defScope s_check_deeds) [V.non] [] f fd) (T : Bl mg) (c_is_filled_list : Cl P w K mg base 2 "is_filled_list" spFilled) (c_is_name : Cl P w K mg base 1 "is_name" spIsName) : FnOk P w K mg base CX0 3 f fd ["deeds", "known"] (spCDK K) := by
  refine F.ok sc_check_deeds (fun vs H Q E h => ?_) (fun cdv A outer s H vs Q E hr h => ?_)
  · obtain ⟨a, l, ns, kn, rfl, _⟩ := h
    rfl
  · obtain ⟨a, l, ns, kn, rfl, hx, h0, hz, nd, nm, hl, hk, q⟩ := h
    refine ⟨_, PSs.nox (pss_cons (ps_if (pt_not (pt_val (pe_cl c_is_filled_list hr (by decide) (by rfl) (pa_cons (pv 0) pa_nil)))) (pss_one ps_never) pss_nil)
  (pss_cons (ps_set (i := 2) sc_check_deeds.nd rfl (Or.inl rfl) (pe_callTy0 (T := "set") cr_set0K (by rfl) T.set (by decide +kernel)))
  (pss_one (ps_for PassesOwn.never rfl (pi_enum2 rfl T.enumerate (pa_cons (pv 0) pa_nil)) (pg_tup rfl (pgs_cons (pg_name (i := 3) sc_check_deeds.nd rfl (Or.inl rfl)) (pgs_cons (pg_name (i := 4) sc_check_deeds.nd rfl (Or.inl rfl)) pgs_nil)))
  (pss_cons (ps_if (PW.pt (pw_or (pt_not (pt_val (pe_cl c_is_name hr (by decide) (by rfl) (pa_cons (pv 4) pa_nil)))) (pw_or1 (pt_cmpR or_sinK (pv 4) (pv 2) (by rfl))))) (pss_one ps_never) pss_nil)
  (pss_cons (ps_if (PW.pt (pw_and (pt_cmp (pc_notN (pv 1)) (by rfl)) (pw_and1 (pt_cmpR op_notIn_seq (pv 4) (pv 1) (by rfl))))) (pss_one ps_never) pss_nil)
  (pss_one (ps_expr (pe_saddK (pv 2) (pa_cons (pv 4) pa_nil)))))))))), ?_⟩
    refine ⟨_, rfl, a, _, rfl, hx, fun H1 s1 => ⟨_, rfl, ite2 (fun z => ?_) (fun _ => ?_)⟩⟩
    · rw [decide_eq_true (show 0 < (ns.map V.str).length by rw [List.length_map]; exact h0)] at z
      cases z
    · refine ⟨rfl, fun s0 n0 => ?_⟩
      have hp1 := hx.same s1
      refine ⟨_, rfl, a, ns.map V.str, rfl, ?_⟩
      have ss := same_upd (o := SetK P w s0 (fun _ => false) 0) n0
      rcases hp1 with z | z
      · exact .inl ⟨SqL.of (ss _ _ z), deeds_forK walk_enum (fun H' s => SqL.of (s _ _ z)) hz nd nm (s1 _ _ hl) hk n0 ss upd_same (fun σ H' s => q H' (s1.trans s))⟩
      · exact .inr ⟨.inl (.inl (ss _ _ z)), deeds_forK walk_enumT (fun H' s => .inl (.inl (s _ _ z))) hz nd nm (s1 _ _ hl) hk n0 ss upd_same (fun σ H' s => q H' (s1.trans s))⟩
end
end K14

namespace K14
open PySem PySem.Spec PyProof.Rows L2 Xv Cr TL
abbrev s_reached : Stmt := inClass (top 31) 6
abbrev N_reached : List Str := ["self", "state"]
theorem sc_reached : FnScope N_reached ["self", "state"] (defScope s_reached) := ⟨rfl, rfl, rfl, by decide +kernel, rfl, by decide +kernel, by decide +kernel⟩
theorem rwo_same {S : Addr → Prop} {H H' : Hp} {ys : List V} {rs : List Rw} (h : Paired (RwO S H) ys rs) (s : Same H H') : Paired (RwO S H') ys rs :=
  Paired.mapP h fun v r ⟨a, es, e, ha, z1, z2⟩ => ⟨a, es, e, ha, s _ _ z1, Paired.mapP z2 fun x e ⟨t, y1, y2, y3⟩ => ⟨t, y1, y2, s _ _ y3⟩⟩
theorem rgV_nat (n : Nat) : rgV 0 (n : Int) = zs (List.range n) := by
  unfold rgV zs
  rw [show ((n : Int) - 0).toNat = n from by omega]
  refine List.map_congr_left fun k _ => ?_
  rw [Int.zero_add]
/-- a new list out of a walk: each entry stands to its own item as Rel says -/
theorem lc_rel {α : Type} {J : It} {G : Hp → Prop} {ns : List α} {f : α → V} {σ : L2.St} {vs : List Nat} {i1 : Nat} {te : TE} {H1 : Hp} {D : Addr} {Qd : Hp → Prop} (Rel : Hp → V → α → Prop) (W : Walk J (ns.map f).length G (YAt (ns.map f))) (hG : ∀ H', Same H1 H' → G H') (hz : ns.length ≤ 1000) (hD : H1 D = none)
    (hw : ∀ v, wipe ((wipe σ vs).set i1 (some v)) vs = wipe σ vs)
    (mono : ∀ H H' v a, Rel H v a → (∀ b o, b ≠ D → H b = some o → H' b = some o) → Rel H' v a)
    (hte : ∀ (a : α) (H3 : Hp) (Qv : VK), a ∈ ns → Same H1 H3 → (∃ o, H3 D = some o) → (∀ H4 v, Same H3 H4 → Rel H4 v a → Qv v H4) → te ((wipe σ vs).set i1 (some (f a))) H3 Qv)
    (hd : ∀ H2 acc, Same H1 H2 → H2 D = some (.lst acc) → Paired (Rel H2) acc ns → Qd H2) :
    ∃ W : Nat → Nat → Hp → Prop, (∃ m, W 0 m (upd H1 D (.lst []))) ∧ ∀ i m H, W i m H →
      (J.stop i H ∧ Qd H) ∨ (J.go i H ∧ ∃ Nx : Hp → Prop, (∀ H', Nx H' → ∃ m', m' < m ∧ W (i + 1) m' H') ∧ ∀ x H', J.yld i H x H' → gName i1 x (wipe σ vs) H' fun σ2 H2 => wipe σ2 vs = wipe σ vs ∧ tYes σ2 H2 fun b H3 =>
        if b = true then te σ2 H3 fun y H4 => ∃ acc, H4 D = some (.lst acc) ∧ acc.length < sizeLine ∧ Nx (upd H4 D (.lst (acc ++ [y]))) else Nx H3) := by
  refine lc_it W (fun i H' => Same H1 H' ∧ ∃ acc, H' D = some (.lst acc) ∧ acc.length = i ∧ Paired (Rel H') acc (ns.take i)) ⟨same_upd hD, [], upd_same, rfl, .nil⟩ (fun i H' _ p => hG _ p.1) (fun i x H' H'' hi e y => ?_) (fun H' e => ?_)
  · obtain ⟨rfl, hx⟩ := y
    obtain ⟨e1, acc, e2, e3, e4⟩ := e
    obtain ⟨a, ha, rfl⟩ : ∃ a, ns[i]? = some a ∧ x = f a := by
      rw [List.getElem?_map] at hx
      cases q : ns[i]? with
      | none => rw [q] at hx; cases hx
      | some z => rw [q] at hx; exact ⟨z, rfl, (Option.some.inj hx).symm⟩
    refine ⟨hw _, ?_⟩
    unfold tYes
    dsimp only
    rw [if_pos rfl]
    refine hte a _ _ (List.mem_of_getElem? ha) e1 ⟨_, e2⟩ fun H4 v s4 r4 => ⟨acc, s4 _ _ e2, ?_, fun b o q => ?_, acc ++ [v], upd_same, by rw [List.length_append, e3]; rfl, ?_⟩
    · rw [List.length_map] at hi
      rw [sizeLine_eq]
      omega
    · rw [upd_ne (ne_of_none q hD)]
      exact s4 _ _ (e1 _ _ q)
    · rw [Xv.take_step ha]
      exact pr_app (Paired.mapP e4 fun v a r => mono _ _ _ _ r fun b o n q => by rw [upd_ne n]; exact s4 _ _ q) (.cons (mono _ _ _ _ r4 fun b o n q => by rw [upd_ne n]; exact q) .nil)
  · obtain ⟨e1, acc, e2, e3, e4⟩ := e
    rw [List.length_map, List.take_length] at e4
    exact hd H' acc e1 e2 e4
theorem zs_ints (g : List Nat) : zs g = (g.map fun (a : Nat) => (a : Int)).map V.int := by
  unfold zs
  rw [List.map_map]
  rfl
/-- sorted lists of the same numbers are alike -/
theorem sorted_eq : ∀ {a b : List Int}, a.Perm b → a.Pairwise (· ≤ ·) → b.Pairwise (· ≤ ·) → a = b
  | [], b, h, _, _ => (List.nil_perm.mp h).symm
  | x :: a, [], h, _, _ => absurd h.length_eq (by simp)
  | x :: a, y :: b, h, ha, hb => by
    obtain ⟨h1, h2⟩ := List.pairwise_cons.mp ha
    obtain ⟨h3, h4⟩ := List.pairwise_cons.mp hb
    have e : x = y := by
      have hx : x ∈ y :: b := h.mem_iff.mp List.mem_cons_self
      have hy : y ∈ x :: a := h.mem_iff.mpr List.mem_cons_self
      rcases List.mem_cons.mp hx with z | z
      · exact z
      · rcases List.mem_cons.mp hy with w | w
        · exact w.symm
        · have := h1 y w
          have := h3 x z
          omega
    subst e
    rw [sorted_eq (List.Perm.cons_inv h) h2 h4]
def intz (g : List Nat) : List Int := g.map fun (a : Nat) => (a : Int)
def spTReach (K : PySem.W.Frag) (C : Addr) : Sp := fun vs H Q _ => ∃ (x : Addr) (S : Addr → Prop) (ns : List Str) (rs : List Rw) (n : Nat), vs = [.ref x, .int (n : Nat)] ∧ ThAt K C S H x ns rs ∧ Right ns rs ∧ n < rs.length ∧
  ∀ H' L (g : List Int), Same H H' → H L = none → H' L = some (.lst (g.map V.int)) → g.Perm (intz (met rs (List.range ns.length) n)) → g.Pairwise (· ≤ ·) → Q (.ref L) H'
section
variable {P : Program} {w : World} {K : PySem.W.Frag} {mg : Str → Option Value} {base : Heap} {Ct f : Addr} {fd : FuncData}
theorem ok_reached (F : Fun K "reached" "Thing.reached" s_reached f fd) (T : Bl mg) (Ts : mg "sorted" = none) (TC : ThC K Ct) (c_check_state : Cl P w K mg base 4 "check_state" (spCState K Ct)) (c_mets : Cl P w K mg base 1 "met_states" (spMets K)) : FnOk P w K mg base CX0 5 f fd ["self", "state"] (spTReach K Ct) := by
  refine F.ok sc_reached (fun vs H Q E h => ?_) (fun cdv A outer s H vs Q E hr h => ?_)
  · obtain ⟨x, S, ns, rs, n, rfl, _⟩ := h
    rfl
  · obtain ⟨x, S, ns, rs, n, rfl, t, R, hn, q⟩ := h
    refine ⟨_, (pss_cons (ps_expr (pe_cl c_check_state hr (by decide) (by rfl) (pa_cons (pv 0) (pa_cons (pv 1) pa_nil))))
  (pss_one (ps_ret (pe_callB (id := "sorted") cr_sorted (by rfl) Ts (by decide +kernel) (pa_cons (pe_cl c_mets hr (by decide) (by rfl) (pa_cons (pe_fld (pv 0) rfl) (pa_cons (pv 1) (pa_cons (pe_listRg rfl (by rfl) T.list (prg_1 (by rfl) T.range (pe_callB (id := "len") (call_ln) (by rfl) T.len (by decide +kernel) (pa_cons (pe_fld (pv 0) rfl) pa_nil)))) pa_nil)))) pa_nil))))), ?_⟩
    have r8 := R.r8
    have d4 := R.d4
    refine ⟨_, rfl, _, rfl, x, S, ns, rs, _, rfl, t, by omega, ⟨by omega, by omega⟩, ?_⟩
    obtain ⟨dx, l, m, ys, hx, sl, sm, nx, hl, hm, hp⟩ := t.op
    refine ⟨_, rfl, x, Ct, dx, _, _, rfl, hx, TC.cl, TC.nR, rfl, _, rfl, ?_⟩
    refine ⟨_, rfl, x, Ct, dx, _, _, rfl, hx, TC.cl, TC.nD, rfl, l, _, rfl, .inl (SqL.of hl), _, rfl, RgOk.of_le (by omega) (by rw [List.length_map]; omega) (by omega) (by rw [List.length_map]; omega), fun L1 n1 => ?_⟩
    have s1 : Same H (upd H L1 (.lst (rgV 0 ((ns.map V.str).length : Nat)))) := same_upd n1
    have e1 : upd H L1 (.lst (rgV 0 ((ns.map V.str).length : Nat))) L1 = some (.lst (zs (List.range ns.length))) := by
      rw [upd_same, rgV_nat, List.length_map]
    generalize upd H L1 (.lst (rgV 0 ((ns.map V.str).length : Nat))) = H1 at s1 e1 ⊢
    have PL : Pls ns rs (List.range ns.length) n := ⟨fun p hp => List.mem_range.mp hp, hn⟩
    refine ⟨m, n, L1, ys, S, ns, rs, _, rfl, s1 _ _ hm, rwo_same hp s1, R, PL, e1, fun H2 L2 s2 nL2 hL2 => ?_⟩
    have fd1 := met_fd R PL
    have := fd1.len
    rw [zs_ints] at hL2
    refine ⟨L2, _, rfl, SqL.of hL2, by rw [List.length_map]; omega, fun g L3 pm pw nL3 => ?_⟩
    exact q _ L3 g ((s1.trans s2).trans (same_upd nL3)) ((s1.trans s2).free nL3) upd_same pm pw
end
end K14

namespace K14
open PySem PySem.Spec PyProof.Rows L2 Xv Cr TL
abbrev s_part : Stmt := inClass (top 31) 7
abbrev N_part : List Str := ["self", "state", "deeds", "places", "place", "deed", "met", "rows", "elder"]
theorem sc_part : FnScope N_part ["self", "state", "deeds"] (defScope s_part) := ⟨rfl, rfl, rfl, by decide +kernel, rfl, by decide +kernel, by decide +kernel⟩
/-- the places of those deeds that are in zs -/
def plc (ns zs : List Str) : List Nat := (List.range ns.length).filter fun i => decide (ns.getD i "" ∈ zs)
def subN (ns : List Str) (ps : List Nat) : List Str := ps.map fun p => ns.getD p ""
def subE (rs : List Rw) (ps r : List Nat) : List Rw := r.map fun s => ps.map (ntry rs s)
def subR (rs : List Rw) (ps r : List Nat) : List Rw := (subE rs ps r).map fun row => row.map (numE r)
theorem plc_mem {ns zs : List Str} {p : Nat} : p ∈ plc ns zs ↔ p < ns.length ∧ ns.getD p "" ∈ zs := by
  unfold plc
  rw [List.mem_filter, List.mem_range, decide_eq_true_eq]
theorem plc_nd (ns zs : List Str) : (plc ns zs).Nodup := List.Pairwise.filter _ List.nodup_range
theorem plc_pls {ns zs : List Str} {rs : List Rw} {n : Nat} (h : n < rs.length) : Pls ns rs (plc ns zs) n := ⟨fun p hp => (plc_mem.mp hp).1, h⟩
theorem plc_len (ns zs : List Str) : (plc ns zs).length ≤ ns.length := by
  have := List.length_filter_le (fun i => decide (ns.getD i "" ∈ zs)) (List.range ns.length)
  rwa [List.length_range] at this
theorem getD_str {ns : List Str} {i : Nat} (h : i < ns.length) : ns[i]? = some (ns.getD i "") := by
  rw [List.getD_eq_getElem?_getD, List.getElem?_eq_getElem h]
  rfl
/-- the places, in the program's way -/
theorem plc_lc {K : PySem.W.Frag} {J : It} {G : Hp → Prop} {ns zs : List Str} {σ : L2.St} {vs : List Nat} {i1 i2 : Nat} {tt : TT} {H1 : Hp} {D : Addr} {Qd : Hp → Prop} (W : Walk J (ns.map V.str).length G (YPair (fun i => some (.int (i : Nat))) (fun i => (ns.map V.str)[i]?))) (hG : ∀ H', Same H1 H' → G H') (hz : ns.length ≤ 1000) (hD : H1 D = none)
    (hw : ∀ v w, wipe (((wipe σ vs).set i1 (some v)).set i2 (some w)) vs = wipe σ vs) (h1 : ∀ v w, (((wipe σ vs).set i1 (some v)).set i2 (some w))[i1]? = some (some v))
    (htt : ∀ v (z : Str) (H3 : Hp) (Qt : Bool → Hp → Prop), z ∈ ns → Same H1 H3 → Qt (decide (z ∈ zs)) H3 → tt (((wipe σ vs).set i1 (some v)).set i2 (some (.str z))) H3 Qt)
    (hd : ∀ H2, Same H1 H2 → H2 D = some (.lst (K14.zs (plc ns zs))) → Qd H2) :
    ∃ W : Nat → Nat → Hp → Prop, (∃ m, W 0 m (upd H1 D (.lst []))) ∧ ∀ i m H, W i m H →
      (J.stop i H ∧ Qd H) ∨ (J.go i H ∧ ∃ Nx : Hp → Prop, (∀ H', Nx H' → ∃ m', m' < m ∧ W (i + 1) m' H') ∧ ∀ x H', J.yld i H x H' → gTup K 2 (gCons (gName i1) (gCons (gName i2) gNil)) x (wipe σ vs) H' fun σ2 H2 => wipe σ2 vs = wipe σ vs ∧ tt σ2 H2 fun b H3 =>
        if b = true then tVar i1 σ2 H3 fun y H4 => ∃ acc, H4 D = some (.lst acc) ∧ acc.length < sizeLine ∧ Nx (upd H4 D (.lst (acc ++ [y]))) else Nx H3) := by
  refine lc_it W (fun i H' => Same H1 H' ∧ H' D = some (.lst (K14.zs ((List.range i).filter fun i => decide (ns.getD i "" ∈ zs))))) ⟨same_upd hD, upd_same⟩ (fun i H' _ p => hG _ p.1) (fun i x H' H'' hi e y => ?_) (fun H' e => ?_)
  · obtain ⟨e1, e2⟩ := e
    obtain ⟨t, x1, x2, rfl, nt, rfl, z1, z2⟩ := y
    cases z1
    replace z2 : (ns.map V.str)[i]? = some x2 := z2
    rw [List.length_map] at hi
    have hy := getD_str hi
    rw [List.getElem?_map, hy] at z2
    cases z2
    have nDt : D ≠ t := ne_of_none e2 nt
    have s3 := e1.trans (same_upd (o := HO.tup [V.int (i : Nat), V.str (ns.getD i "")]) nt)
    refine ⟨t, _, rfl, .inl (.inl upd_same), rfl, _, _, rfl, _, _, rfl, ⟨rfl, hw _ _, htt _ _ _ _ (List.mem_of_getElem? hy) s3 ?_⟩⟩
    have e3 : upd H' t (.tup [V.int (i : Nat), V.str (ns.getD i "")]) D = some (.lst (K14.zs ((List.range i).filter fun i => decide (ns.getD i "" ∈ zs)))) := by rw [upd_ne nDt]; exact e2
    have ll := List.length_filter_le (fun i => decide (ns.getD i "" ∈ zs)) (List.range i)
    rw [List.length_range] at ll
    by_cases hin : ns.getD i "" ∈ zs
    · rw [decide_eq_true hin, if_pos rfl]
      refine ⟨_, h1 _ _, _, e3, ?_, fun b o q => ?_, ?_⟩
      · unfold K14.zs
        rw [List.length_map, sizeLine_eq]
        omega
      · rw [upd_ne (ne_of_none q hD)]
        exact s3 _ _ q
      · rw [upd_same, List.range_succ, List.filter_append, List.filter_cons, if_pos (decide_eq_true hin), List.filter_nil, zs_app]
    · rw [decide_eq_false hin, if_neg Bool.false_ne_true]
      refine ⟨s3, ?_⟩
      rw [e3, List.range_succ, List.filter_append, List.filter_cons, if_neg (by rw [decide_eq_false hin]; exact Bool.false_ne_true), List.filter_nil, List.append_nil]
  · obtain ⟨e1, e2⟩ := e
    rw [List.length_map] at e2
    exact hd H' e1 e2
theorem zs_as {g : List Nat} : K14.zs g = g.map fun (a : Nat) => V.int (a : Nat) := rfl
/-- a new thing of a part -/
def spTPart (K : PySem.W.Frag) (C : Addr) : Sp := fun vs H Q _ => ∃ (x : Addr) (S : Addr → Prop) (ns : List Str) (rs : List Rw) (n : Nat) (a : Addr) (zs : List Str), vs = [.ref x, .int (n : Nat), .ref a] ∧ ThAt K C S H x ns rs ∧ Right ns rs ∧ n < rs.length ∧ LT H a (zs.map V.str) ∧ 0 < zs.length ∧ zs.length ≤ 1000 ∧ zs.Nodup ∧ (∀ z ∈ zs, z ∈ ns) ∧
  ∀ H' y S', Same H H' → H y = none → (∀ b, S' b → H b = none) → ThAt K C S' H' y (subN ns (plc ns zs)) (subR rs (plc ns zs) (met rs (plc ns zs) n)) → Q (.ref y) H'
theorem pr_img {α β γ : Type} {F : α → β → Prop} {G : α → γ → Prop} {h : β → γ} : ∀ {a : List α} {b : List β}, Paired F a b → (∀ x y, y ∈ b → F x y → G x (h y)) → Paired G a (b.map h)
  | _, _, .nil, _ => .nil
  | _, _, .cons f r, k => .cons (k _ _ List.mem_cons_self f) (pr_img r fun x y hy => k x y (List.mem_cons_of_mem _ hy))
theorem pr_eq {α β : Type} {g : β → α} : ∀ {a : List α} {b : List β}, Paired (fun x y => x = g y) a b → a = b.map g
  | _, _, .nil => rfl
  | _, _, .cons f r => by rw [List.map_cons, ← pr_eq r, f]
theorem tr_strs : ∀ (ns : List Str) {G : Hp}, TrAll G (ns.map V.str) (ns.map PyData.str)
  | [], _ => .nil
  | x :: r, _ => .cons (.str x) (tr_strs r)
theorem md_names {K : PySem.W.Frag} {S : Addr → Prop} {H : Hp} {l : Addr} {ns : List Str} (s : S l) (h : H l = some (.lst (ns.map V.str))) : Dt K S H (.ref l) (namesD ns) := .lst (by rw [vw_at s]; exact h) (tr_strs ns)
section
variable {P : Program} {w : World} {K : PySem.W.Frag} {mg : Str → Option Value} {base : Heap} {Ct f : Addr} {fd : FuncData}
theorem ok_part (F : Fun K "part" "Thing.part" s_part f fd) (T : Bl mg) (TC : ThC K Ct) (c_check_state : Cl P w K mg base 4 "check_state" (spCState K Ct)) (c_cdk : Cl P w K mg base 3 "check_deeds" (spCDK K)) (c_mets : Cl P w K mg base 1 "met_states" (spMets K)) (c_made : Cl P w K mg base 9 "made_thing" (spMade K Ct)) (c_called : Cl P w K mg base 1 "called_by_place" (spCalled K)) : FnOk P w K mg base CX0 10 f fd ["self", "state", "deeds"] (spTPart K Ct) := by
  refine F.ok sc_part (fun vs H Q E h => ?_) (fun cdv A outer s H vs Q E hr h => ?_)
  · obtain ⟨x, S, ns, rs, n, a, zs, rfl, _⟩ := h
    rfl
  · obtain ⟨x, S, ns, rs, n, a, zs, rfl, t, R, hn, ha, z0, z1, znd, hzn, q⟩ := h
    refine ⟨_, (pss_cons (ps_expr (pe_cl c_check_state hr (by decide) (by rfl) (pa_cons (pv 0) (pa_cons (pv 1) pa_nil))))
  (pss_cons (ps_expr (pe_cl c_cdk hr (by decide) (by rfl) (pa_cons (pv 2) (pa_cons (pe_fld (pv 0) rfl) pa_nil))))
  (pss_cons (ps_set (i := 3) sc_part.nd rfl (Or.inr rfl) (pe_lc (own := [("place", 4), ("deed", 5)]) (g := gTup K 2 (gCons (gName 4) (gCons (gName 5) gNil))) (tt := tTest (tOp (rIn K false) (tVar 5) (tVar 2))) (te := tVar 4) rfl sc_part.nd (pi_enum2 rfl T.enumerate (pa_cons (pe_fld (pv 0) rfl) pa_nil)) (blkOk_by (N := N_part) (sc := defScope s_part) (by decide +kernel)) (fun _ _ _ _ _ => (pg_tup rfl (pgs_cons (pg_name (i := 4) sc_part.nd rfl (Or.inl rfl)) (pgs_cons (pg_name (i := 5) sc_part.nd rfl (Or.inl rfl)) pgs_nil)))) (fun _ _ _ _ _ => pts_one (pt_cmpR op_in_seq (pv 5) (pv 2) (by rfl))) (fun _ _ _ _ _ => (pv 4))))
  (pss_cons (ps_set (i := 6) sc_part.nd rfl (Or.inl rfl) (pe_cl c_mets hr (by decide) (by rfl) (pa_cons (pe_fld (pv 0) rfl) (pa_cons (pv 1) (pa_cons (pv 3) pa_nil)))))
  (pss_cons (ps_setLc (i := 7) (own := [("elder", 8)]) (g := gName 8) (tt := tYes) (te := tLc (iList K (tVar 3)) (gName 4) tYes (tOp (rIxL K) (tOp (rIxL K) (tFld K (tVar 0) "_rows") (tVar 8)) (tVar 4)) [4]) rfl sc_part.nd rfl rfl (sw_true rfl rfl rfl (by decide +kernel)) (pi_list (pv 6)) (blkOk_by (N := N_part) (sc := defScope s_part) (by decide +kernel)) (fun _ _ _ _ _ => (pg_name (i := 8) sc_part.nd rfl (Or.inr rfl))) (fun _ _ _ _ _ => pts_nil) (fun _ _ _ _ _ => (pe_lc (own := [("place", 4)]) (g := gName 4) (tt := tYes) (te := tOp (rIxL K) (tOp (rIxL K) (tFld K (tVar 0) "_rows") (tVar 8)) (tVar 4)) rfl sc_part.nd (pi_list (pv 3)) (blkOk_by (by kernel_rfl)) (fun _ _ _ _ _ => (pg_name (i := 4) sc_part.nd rfl (Or.inl rfl))) (fun _ _ _ _ _ => pts_nil) (fun _ _ _ _ _ => (pe_ix ix_list (pe_ix ix_list (pe_fld (pv 0) rfl) (pv 8) (fun _ _ => rfl)) (pv 4) (fun _ _ => rfl))))))
  (pss_one (ps_ret (pe_cl c_made hr (by decide) (by rfl) (pa_cons (pe_lc (own := [("place", 4)]) (g := gName 4) (tt := tYes) (te := tOp (rIxL K) (tFld K (tVar 0) "_deeds") (tVar 4)) rfl sc_part.nd (pi_list (pv 3)) (blkOk_by (N := N_part) (sc := defScope s_part) (by decide +kernel)) (fun _ _ _ _ _ => (pg_name (i := 4) sc_part.nd rfl (Or.inl rfl))) (fun _ _ _ _ _ => pts_nil) (fun _ _ _ _ _ => (pe_ix ix_list (pe_fld (pv 0) rfl) (pv 4) (fun _ _ => rfl)))) (pa_cons (pe_cl c_called hr (by decide) (by rfl) (pa_cons (pv 7) (pa_cons (pv 6) pa_nil))) pa_nil)))))))))), ?_⟩
    have r8 := R.r8
    have d4 := R.d4
    refine ⟨_, rfl, _, rfl, x, S, ns, rs, _, rfl, t, by omega, ⟨by omega, by omega⟩, ?_⟩
    obtain ⟨dx, l, m, ys, hx, sl, sm, nx, hl, hm, hp⟩ := t.op
    refine ⟨_, rfl, _, rfl, x, Ct, dx, _, _, rfl, hx, TC.cl, TC.nD, rfl, a, l, zs, ns, rfl, ha, z0, z1, znd, fun z hz => R.nm z (hzn z hz), hl, hzn, fun H1 s1 => ?_⟩
    refine ⟨_, rfl, x, Ct, dx, _, _, rfl, s1 _ _ hx, TC.cl, TC.nD, rfl, l, ns.map V.str, rfl, .inl ⟨SqL.of (s1 _ _ hl), fun D hD => ?_⟩⟩
    have ha1 := ha.same s1
    refine plc_lc (K := K) (ns := ns) (zs := zs) (σ := [some (.ref x), some (.int (n : Nat)), some (.ref a), none, none, none, none, none, none]) (vs := [4, 5]) (i1 := 4) (i2 := 5) walk_enum (fun H' s => SqL.of (s _ _ (s1 _ _ hl))) (by omega) hD (fun _ _ => rfl) (fun _ _ => rfl) (fun v z H3 Qt hz s3 q3 => ?_) (fun H2 s2 hD2 => ?_)
    · refine ⟨_, rfl, _, rfl, a, _, rfl, (ha1.same s3).seq K, rfl, flat_names zs, _, rfl, ?_⟩
      rw [in_names]
      exact q3
    · have PL : Pls ns rs (plc ns zs) n := plc_pls hn
      have pl := plc_len ns zs
      have s02 := s1.trans s2
      have fd1 := met_fd R PL
      have fl := fd1.len
      have mc := met_closed R PL
      refine ⟨_, rfl, x, Ct, dx, _, _, rfl, s02 _ _ hx, TC.cl, TC.nR, rfl, _, rfl, _, rfl, m, n, D, ys, S, ns, rs, plc ns zs, rfl, s02 _ _ hm, rwo_same hp s02, R, PL, hD2, fun H3 L3 s3 nL3 hL3 => ?_⟩
      have plt := PL.lt
      generalize hps : plc ns zs = ps at *
      generalize hmt : met rs ps n = mt at *
      have s03 := s02.trans s3
      have hD3 := s3 _ _ hD2
      refine ⟨_, rfl, L3, rfl, ⟨_, SqL.of hL3⟩, fun E1 nE1 => ?_⟩
      refine lc_rel (f := fun (a : Nat) => V.int (a : Nat)) (ns := mt) (σ := [some (.ref x), some (.int (n : Nat)), some (.ref a), some (.ref D), none, none, some (.ref L3), none, none]) (vs := [8]) (i1 := 8)
        (fun G v s => ∃ b es, v = .ref b ∧ b ≠ E1 ∧ G b = some (.lst es) ∧ Paired (fun y p => ∃ t, y = V.ref t ∧ H t = some (.tup [.int (ntry rs s p).1, .int (ntry rs s p).2])) es ps)
        (walk_list (K := K) (a := L3) (xs := mt.map fun (a : Nat) => V.int (a : Nat))) (fun H' s' => SqL.of (s' _ _ hL3)) (by omega) nE1 (fun _ => rfl) (fun G G' v s r k => ?_) (fun s H4 Qv hs s4 hE k => ?_) (fun H4 xs s4 hE hxs => ?_)
      · obtain ⟨b, es, e1, e2, e3, e4⟩ := r
        exact ⟨b, es, e1, e2, k _ _ e2 e3, e4⟩
      · have hsl := fd1.lt s hs
        have s04 := s03.trans s4
        obtain ⟨oE, hoE⟩ := hE
        refine ⟨_, rfl, D, rfl, ⟨_, SqL.of (s4 _ _ hD3)⟩, fun E2 nE2 => ?_⟩
        have nE2E : E2 ≠ E1 := fun z => by rw [z, hoE] at nE2; cases nE2
        refine lc_rel (f := fun (a : Nat) => V.int (a : Nat)) (ns := ps) (σ := [some (.ref x), some (.int (n : Nat)), some (.ref a), some (.ref D), none, none, some (.ref L3), none, some (.int (s : Nat))]) (vs := [4]) (i1 := 4)
          (fun _ y p => ∃ t, y = V.ref t ∧ H t = some (.tup [.int (ntry rs s p).1, .int (ntry rs s p).2])) (walk_list (K := K) (a := D) (xs := ps.map fun (a : Nat) => V.int (a : Nat))) (fun H' s' => SqL.of (s' _ _ (s4 _ _ hD3))) (by omega) nE2 (fun _ => rfl) (fun _ _ _ _ r _ => r) (fun p H5 Qw hpm s5 _ kw => ?_) (fun H5 es s5 hE2 hes => k H5 (.ref E2) s5 ⟨E2, es, rfl, nE2E, hE2, hes⟩)
        obtain ⟨r, h1, h2, _⟩ := ntry_at R hsl (plt p hpm)
        obtain ⟨w1, hw1, b, es, rfl, _, hb, hps1⟩ := paired_at hp h1
        obtain ⟨w2, hw2, t2, rfl, _, ht2⟩ := paired_at hps1 h2
        have s05 := s04.trans s5
        exact ⟨_, rfl, x, Ct, dx, _, _, rfl, s05 _ _ hx, TC.cl, TC.nR, rfl, _, rfl, m, ys, _, _, rfl, rfl, SqL.of (s05 _ _ hm), at_i hw1, _, rfl, b, es, _, _, rfl, rfl, SqL.of (s05 _ _ hb), at_i hw2, kw _ _ (Same.refl _) ⟨t2, rfl, ht2⟩⟩
      · have s04 := s03.trans s4
        refine ⟨_, rfl, D, rfl, ⟨_, SqL.of (s4 _ _ hD3)⟩, fun E3 nE3 => ?_⟩
        refine lc_rel (f := fun (a : Nat) => V.int (a : Nat)) (ns := ps) (σ := [some (.ref x), some (.int (n : Nat)), some (.ref a), some (.ref D), none, none, some (.ref L3), some (.ref E1), none]) (vs := [4]) (i1 := 4)
          (fun _ y p => y = V.str (ns.getD p "")) (walk_list (K := K) (a := D) (xs := ps.map fun (a : Nat) => V.int (a : Nat))) (fun H' s' => SqL.of (s' _ _ (s4 _ _ hD3))) (by omega) nE3 (fun _ => rfl) (fun _ _ _ _ r _ => r) (fun p H5 Qw hpm s5 _ kw => ?_) (fun H5 es s5 hE3 hes => ?_)
        · have s05 := s04.trans s5
          exact ⟨_, rfl, x, Ct, dx, _, _, rfl, s05 _ _ hx, TC.cl, TC.nD, rfl, _, rfl, l, ns.map V.str, _, _, rfl, rfl, SqL.of (s05 _ _ hl), at_i (show (ns.map V.str)[p]? = some (V.str (ns.getD p "")) from by rw [List.getElem?_map, getD_str (plt p hpm)]; rfl), kw _ _ (Same.refl _) rfl⟩
        · have s05 := s04.trans s5
          have ees : es = (subN ns ps).map V.str := by
            unfold subN
            rw [List.map_map]
            exact pr_eq hes
          subst ees
          have hrow : Paired (RowP H5) xs (subE rs ps mt) := pr_img hxs fun v s _ ⟨b, es, e1, _, e3, e4⟩ => ⟨b, es, e1, .inl (s5 _ _ e3), pr_img e4 fun y p _ ⟨t, z1, z2⟩ => ⟨t, z1, s05 _ _ z2⟩⟩
          refine ⟨_, rfl, _, rfl, E1, L3, xs, subE rs ps mt, mt, rfl, s5 _ _ hE, hrow, .inl (s5 _ _ (s4 _ _ hL3)), fd1.nd, by omega, by unfold subE; rw [List.length_map]; omega, fun r hr => ?_, fun H6 m6 S6 s6 nS6 dS6 => ?_⟩
          · obtain ⟨s, hs, rfl⟩ := List.mem_map.mp hr
            refine ⟨by rw [List.length_map]; omega, fun e he => ?_⟩
            obtain ⟨p, hpm, rfl⟩ := List.mem_map.mp he
            obtain ⟨_, _, _, _, h0, _⟩ := ntry_at R (fd1.lt s hs) (plt p hpm)
            exact ⟨h0, mc s hs p hpm⟩
          · have sE := s05.trans s6
            have hE36 := s6 _ _ hE3
            refine ⟨E3, m6, fun b => b = E3 ∨ S6 b, subN ns ps, subR rs ps mt, rfl, md_names (.inl rfl) hE36, Dt.mono dS6 fun b hb => .inr hb, fun b hb => ?_, fun H' y s' ny th => q H' y _ (sE.trans s') (sE.free ny) (fun b hb => ?_) th⟩
            · rcases hb with z | z
              · exact ⟨_, z ▸ hE36⟩
              · exact Option.ne_none_iff_exists'.mp (nS6 b z).2
            · rcases hb with z | z
              · exact z ▸ s04.free nE3
              · exact s05.free (nS6 b z).1
end
end K14

namespace K14
open PySem PySem.Spec PyProof.Rows L2 Xv Cr TL
abbrev s_lmet : Stmt := top 51
abbrev N_lmet : List Str := ["_law_model_here", "_law_state_now", "_law_places", "_law_found", "_law_at", "_law_place", "_law_later"]
theorem sc_lmet : FnScope N_lmet ["_law_model_here", "_law_state_now", "_law_places"] (defScope s_lmet) := ⟨rfl, rfl, rfl, by decide +kernel, rfl, by decide +kernel, by decide +kernel⟩
theorem in_zs (b : Nat) (g : List Nat) : inV (V.int (b : Nat)) (zs g) = decide (b ∈ g) := by
  unfold inV zs
  induction g with
  | nil => rfl
  | cons e r ih =>
    rw [List.map_cons, List.any_cons, ih]
    by_cases h : b = e
    · subst h
      rw [decide_eq_true (List.mem_cons_self (a := b) (l := r))]
      show (decide (((b : Nat) : Int) = (b : Nat)) || _) = true
      simp
    · have : decide (((e : Nat) : Int) = (b : Nat)) = false := decide_eq_false fun q => h (by omega)
      show (decide (((e : Nat) : Int) = (b : Nat)) || _) = _
      rw [this, Bool.false_or]
      exact decide_eq_decide.mpr ⟨List.mem_cons_of_mem _, fun z => (List.mem_cons.mp z).resolve_left h⟩
theorem flat_zs (g : List Nat) : (zs g).all flatV = true := by
  rw [List.all_eq_true]
  intro v hv
  obtain ⟨a, _, rfl⟩ := List.mem_map.mp hv
  rfl
def MetK (H : Hp) (m p L : Addr) (n : Nat) (rs : List Rw) (ps r : List Nat) (k : Nat) (σ : L2.St) (H' : Hp) : Prop := ∃ f i u6 u7, σ = [some (.ref m), some (.int (n : Nat)), some (.ref p), some (.ref L), some (.int (i : Nat)), u6, u7] ∧ k + i = rs.length + 1 ∧ i ≤ f.length ∧ Fd rs.length f ∧ MetRun rs ps f i r ∧ Same H H' ∧ H' L = some (.lst (zs f))
def spLMet (K : PySem.W.Frag) : Sp := fun vs H Q _ => ∃ (m : Addr) (n : Nat) (p : Addr) (S : Addr → Prop) (ns : List Str) (rs : List Rw) (ps : List Nat), vs = [.ref m, .int (n : Nat), .ref p] ∧ Dt K S H (.ref m) (modelD ns rs) ∧ Right ns rs ∧ Pls ns rs ps n ∧ H p = some (.lst (zs ps)) ∧
  ∀ H' L, Same H H' → H L = none → H' L = some (.lst (zs (met rs ps n))) → Q (.ref L) H'
section
variable {P : Program} {w : World} {K : PySem.W.Frag} {mg : Str → Option Value} {base : Heap} {Ct f : Addr} {fd : FuncData}
theorem ok_lmet (F : Fun K "_law_met" "_law_met" s_lmet f fd) (T : Bl mg) : FnOk P w K mg base CX0 1 f fd ["_law_model_here", "_law_state_now", "_law_places"] (spLMet K) := by
  refine F.ok sc_lmet (fun vs H Q E h => ?_) (fun cdv A outer s H vs Q E hr h => ?_)
  · obtain ⟨m, n, p, S, ns, rs, ps, rfl, _⟩ := h
    rfl
  · obtain ⟨m, n, p, S, ns, rs, ps, rfl, hM, R, PL, hps, q⟩ := h
    refine ⟨_, (pss_cons (ps_par (i := 3) (j := 4) rfl sc_lmet.nd rfl rfl (by decide) rfl rfl (pa_cons (pe_lst (pa_cons (pv 1) pa_nil)) (pa_cons pe_int pa_nil)) (by rfl))
  (pss_cons (ps_while PassesOwn.never (pt_cmpR op_lt (pv 4) (pe_callB (id := "len") (call_ln) (by rfl) T.len (by decide +kernel) (pa_cons (pv 3) pa_nil)) (nomark _)) (pss_cons (ps_for PassesOwn.never rfl (pi_list (pv 2)) (pg_name (i := 5) sc_lmet.nd rfl (Or.inl rfl)) (pss_cons (ps_set (i := 6) sc_lmet.nd rfl (Or.inl rfl) (pe_ix ix_tup (pe_ix ix_list (pe_ix ix_list (pe_dget (hu_of hr) (pv 0) pe_str (fun _ _ => rfl)) (pe_ix ix_list (pv 3) (pv 4) (fun _ _ => rfl)) (fun _ _ => rfl)) (pv 5) (fun _ _ => rfl)) pe_int (fun _ _ => rfl)))
  (pss_one (ps_if (pt_cmpR op_notIn_seq (pv 6) (pv 3) (by rfl)) (pss_one (ps_expr (pe_bm PySem.F.plainAttrs_list PySem.F.slot_list_append PySem.F.type_list_append mt_append (pv 3) (pa_cons (pv 6) pa_nil)))) pss_nil))))
  (pss_one (ps_set (i := 4) sc_lmet.nd rfl (Or.inl rfl) (pe_op op_add (pv 4) pe_int)))))
  (pss_one (ps_ret (pv 3))))), ?_⟩
    obtain ⟨l, tt, ys, sm, sl, st, hm, hl, ht, hp⟩ := md_op hM
    refine ⟨_, rfl, by show 1 ≤ sizeLine; decide, fun L nL => ⟨_, _, rfl, ?_⟩⟩
    have s2 : Same H (upd H L (.lst [V.int (n : Nat)])) := same_upd nL
    have eL2 : upd H L (.lst [V.int (n : Nat)]) L = some (.lst (zs [n])) := upd_same
    generalize upd H L (.lst [V.int (n : Nat)]) = H2 at s2 eL2 ⊢
    have c0 : Fd rs.length [n] := ⟨by simp, fun a ha => by rw [List.mem_singleton.mp ha]; exact PL.n⟩
    refine ⟨MetK H m p L n rs ps (met rs ps n), ⟨_, [n], 0, none, none, rfl, rfl, Nat.zero_le _, c0, met_run R PL, s2, eL2⟩, ?_⟩
    rintro k σ G ⟨f, i, u6, u7, rfl, hk, hi, fd1, mr, sG, gL⟩
    refine ⟨_, rfl, _, rfl, L, _, rfl, .inl (SqL.of gL), _, _, rfl, rfl, ?_⟩
    rw [show (zs f).length = f.length from by unfold zs; rw [List.length_map]]
    by_cases hlt : i < f.length
    · refine ⟨_, rfl, ?_⟩
      rw [decide_eq_true (show ((i : Nat) : Int) < (f.length : Nat) by omega)]
      dsimp only
      rw [if_pos rfl]
      refine ⟨MetK H m p L n rs ps (met rs ps n) (k - 1), fun σ' H' z => ⟨k - 1, by have := fd1.len; omega, z⟩, ?_⟩
      have hs : f[i]? = some (f.getD i 0) := by rw [List.getD_eq_getElem?_getD, List.getElem?_eq_getElem hlt]; rfl
      have hsl : f.getD i 0 < rs.length := fd1.lt _ (List.mem_of_getElem? hs)
      generalize f.getD i 0 = s0 at hs hsl
      have mr2 : MetRun rs ps (metS rs ps f s0) (i + 1) (met rs ps n) := by
        cases mr with
        | stop z => omega
        | step _ z =>
          rw [List.getD_eq_getElem?_getD, hs] at z
          exact z
      refine ⟨_, rfl, p, rfl, ⟨_, SqL.of (sG _ _ hps)⟩, ?_⟩
      refine for_it (walk_list (K := K) (a := p) (xs := zs ps)) (fun j σ H' => ∃ u6 u7, σ = [some (.ref m), some (.int (n : Nat)), some (.ref p), some (.ref L), some (.int (i : Nat)), u6, u7] ∧ Fd rs.length (metS rs (ps.take j) f s0) ∧ Same H H' ∧ H' L = some (.lst (zs (metS rs (ps.take j) f s0)))) ⟨u6, u7, rfl, fd1, sG, gL⟩ (fun j σ H' _ ⟨_, _, _, _, s, _⟩ => SqL.of (s _ _ hps)) (fun j v σ Ga Gb hj e y => ?_) (fun σ Ga e => ?_)
      · obtain ⟨rfl, hv⟩ := y
        obtain ⟨v6, v7, rfl, fdj, sA, aL⟩ := e
        obtain ⟨pj, hpj, rfl⟩ : ∃ q, ps[j]? = some q ∧ v = V.int (q : Nat) := by
          unfold zs at hv
          rw [List.getElem?_map] at hv
          cases e : ps[j]? with
          | none => rw [e] at hv; cases hv
          | some q => rw [e] at hv; exact ⟨q, rfl, (Option.some.inj hv).symm⟩
        obtain ⟨g, eg⟩ := metS_pre (rs := rs) (s := s0) (ps.take j) f
        have hg : (metS rs (ps.take j) f s0)[i]? = some s0 := by rw [eg, List.getElem?_append_left hlt]; exact hs
        obtain ⟨r, h1, h2, _, z0, z1⟩ := ntry_at R hsl (PL.lt _ (List.mem_of_getElem? hpj))
        obtain ⟨w1, hw1, a1, es, rfl, _, ha1, hps1⟩ := paired_at hp h1
        obtain ⟨w2, hw2, t2, rfl, _, ht2⟩ := paired_at hps1 h2
        have enx : (ntry rs s0 pj).2 = ((nx rs s0 pj : Nat) : Int) := by unfold nx; omega
        refine ⟨_, rfl, m, _, rfl, md_rows (sA _ _ hm), _, rfl, _, rfl, L, _, _, _, rfl, rfl, SqL.of aL, at_i (zs_at hg), tt, _, _, _, rfl, rfl, SqL.of (sA _ _ ht), at_i hw1, ?_⟩
        refine ⟨_, rfl, a1, _, _, _, rfl, rfl, SqL.of (sA _ _ ha1), at_i hw2, ?_⟩
        refine ⟨t2, _, ((1 : Nat) : Int), _, rfl, rfl, .inl (.inl (sA _ _ ht2)), at_i (show [V.int (ntry rs s0 pj).1, V.int (ntry rs s0 pj).2][1]? = some (V.int (ntry rs s0 pj).2) from rfl), ?_⟩
        rw [enx]
        generalize hb : nx rs s0 pj = b at *
        refine ⟨_, rfl, _, rfl, L, _, rfl, .inl (SqL.of aL), rfl, flat_zs _, _, rfl, ?_⟩
        have sn := metS_snoc (rs := rs) (f := f) (s := s0) hpj
        unfold met1 at sn
        rw [hb] at sn
        have gl := fdj.len
        have r8 := R.r8
        have bl : b < rs.length := by omega
        rw [in_zs]
        by_cases hin : b ∈ metS rs (ps.take j) f s0
        · rw [decide_eq_true hin]
          rw [if_pos hin] at sn
          refine ite2 (fun z => nomatch z) (fun _ => ?_)
          exact ⟨_, _, rfl, sn ▸ fdj, sA, sn ▸ aL⟩
        · rw [decide_eq_false hin]
          rw [if_neg hin] at sn
          refine ite2 (fun _ => ?_) (fun z => absurd rfl z)
          refine ⟨_, rfl, .inl ⟨rfl, _, SqL.of aL⟩, _, rfl, L, _, _, rfl, rfl, aL, by unfold zs; rw [List.length_map, sizeLine_eq]; omega, ?_⟩
          refine ⟨_, _, rfl, ?_, fun c o z => ?_, ?_⟩
          · rw [sn]
            have := met1_fd (rs := rs) (s := s0) (p := pj) fdj (hb.symm ▸ bl)
            unfold met1 at this
            rwa [hb, if_neg hin] at this
          · rw [upd_ne (ne_of_none z nL)]
            exact sA _ _ z
          · rw [upd_same, sn, zs_app]
      · obtain ⟨v6, v7, rfl, fdj, sA, aL⟩ := e
        have el : (zs ps).length = ps.length := by unfold zs; rw [List.length_map]
        rw [el, List.take_length] at fdj aL
        refine ⟨_, rfl, _, _, rfl, rfl, _, i + 1, v6, v7, by rfl, by have := fd1.len; omega, ?_, fdj, mr2, sA, aL⟩
        obtain ⟨g, eg⟩ := metS_pre (rs := rs) (s := s0) ps f
        rw [eg, List.length_append]
        omega
    · refine ⟨_, rfl, ?_⟩
      rw [decide_eq_false (show ¬ ((i : Nat) : Int) < (f.length : Nat) by omega)]
      dsimp only
      rw [if_neg Bool.false_ne_true]
      have er : met rs ps n = f := by
        cases mr with
        | stop z => rfl
        | step z _ => exact absurd z hlt
      exact ⟨_, rfl, q _ _ sG nL (er.symm ▸ gL)⟩
end
end K14

namespace K14
open PySem PySem.Spec PyProof.Rows L2 Xv Cr TL
abbrev s_lpart : Stmt := top 52
abbrev N_lpart : List Str := ["_law_model_here", "_law_state_now", "_law_some", "_law_places", "_law_place", "_law_met_here", "_law_rows_now", "_law_state", "_law_entries", "_law_answer", "_law_later"]
theorem sc_lpart : FnScope N_lpart ["_law_model_here", "_law_state_now", "_law_some"] (defScope s_lpart) := ⟨rfl, rfl, rfl, by decide +kernel, rfl, by decide +kernel, by decide +kernel⟩
/-- a new model of lists that stand -/
theorem mk_model {K : PySem.W.Frag} {S : Addr → Prop} {H : Hp} {m l t : Addr} {ns : List Str} {rs : List Rw} (hm : H m = some (.dK [])) (nS : ¬ S m) (hl : Dt K S H (.ref l) (namesD ns)) (ht : Dt K S H (.ref t) (rowsD rs)) : Dt K (fun b => S b ∨ b = m) (upd H m (.dK [(.inr "deeds", .ref l), (.inr "rows", .ref t)])) (.ref m) (modelD ns rs) := by
  have fr : ∀ b, S b → ¬ b = m := fun b hb z => nS (z ▸ hb)
  refine .dct (kvs := [(.inr "deeds", .ref l), (.inr "rows", .ref t)]) (by rw [vw_at (.inr rfl), upd_same]) (.cons ?_ (.cons ?_ .nil))
  · exact Dt.mono (hl.fr (M := fun b => b = m) (Fr.set (Fr.refl _ _) rfl) fr) fun b hb => .inl hb
  · exact Dt.mono (ht.fr (M := fun b => b = m) (Fr.set (Fr.refl _ _) rfl) fr) fun b hb => .inl hb
theorem p_at {p : List Nat} {i : Nat} {v : V} (h : (zs p)[i]? = some v) : ∃ n, p[i]? = some n ∧ v = V.int (n : Nat) := by
  unfold zs at h
  rw [List.getElem?_map] at h
  cases e : p[i]? with
  | none => rw [e] at h; cases h
  | some n => rw [e] at h; exact ⟨n, rfl, (Option.some.inj h).symm⟩
theorem p_idx {p : List Nat} {n : Nat} (h : n ∈ p) : p[p.idxOf n]? = some n := by
  have hl := List.idxOf_lt_length_of_mem h
  rw [List.getElem?_eq_getElem hl, List.getElem_idxOf hl]
/-- the places, in the law's way -/
theorem plc_lcR {ns zs : List Str} {σ : L2.St} {vs : List Nat} {i1 : Nat} {tt : TT} {H1 : Hp} {D : Addr} {Qd : Hp → Prop} (hz : ns.length ≤ 1000) (hD : H1 D = none)
    (hw : ∀ v, wipe ((wipe σ vs).set i1 (some v)) vs = wipe σ vs) (h1 : ∀ v, ((wipe σ vs).set i1 (some v))[i1]? = some (some v))
    (htt : ∀ (i : Nat) (H3 : Hp) (Qt : Bool → Hp → Prop), i < ns.length → Same H1 H3 → Qt (decide (ns.getD i "" ∈ zs)) H3 → tt ((wipe σ vs).set i1 (some (.int (i : Nat)))) H3 Qt)
    (hd : ∀ H2, Same H1 H2 → H2 D = some (.lst (K14.zs (plc ns zs))) → Qd H2) :
    ∃ W : Nat → Nat → Hp → Prop, (∃ m, W 0 m (upd H1 D (.lst []))) ∧ ∀ i m H, W i m H →
      ((Itr 0 ns.length).stop i H ∧ Qd H) ∨ ((Itr 0 ns.length).go i H ∧ ∃ Nx : Hp → Prop, (∀ H', Nx H' → ∃ m', m' < m ∧ W (i + 1) m' H') ∧ ∀ x H', (Itr 0 ns.length).yld i H x H' → gName i1 x (wipe σ vs) H' fun σ2 H2 => wipe σ2 vs = wipe σ vs ∧ tt σ2 H2 fun b H3 =>
        if b = true then tVar i1 σ2 H3 fun y H4 => ∃ acc, H4 D = some (.lst acc) ∧ acc.length < sizeLine ∧ Nx (upd H4 D (.lst (acc ++ [y]))) else Nx H3) := by
  refine lc_it walk_range (fun i H' => Same H1 H' ∧ H' D = some (.lst (K14.zs ((List.range i).filter fun i => decide (ns.getD i "" ∈ zs))))) ⟨same_upd hD, upd_same⟩ (fun i H' _ p => trivial) (fun i x H' H'' hi e y => ?_) (fun H' e => hd H' e.1 e.2)
  obtain ⟨e1, e2⟩ := e
  obtain ⟨rfl, rfl⟩ := y
  dsimp only
  rw [Int.zero_add]
  refine ⟨hw _, htt _ _ _ hi e1 ?_⟩
  have ll := List.length_filter_le (fun i => decide (ns.getD i "" ∈ zs)) (List.range i)
  rw [List.length_range] at ll
  by_cases hin : ns.getD i "" ∈ zs
  · rw [decide_eq_true hin, if_pos rfl]
    refine ⟨_, h1 _, _, e2, ?_, fun b o q => ?_, ?_⟩
    · unfold K14.zs
      rw [List.length_map, sizeLine_eq]
      omega
    · rw [upd_ne (ne_of_none q hD)]
      exact e1 _ _ q
    · rw [upd_same, List.range_succ, List.filter_append, List.filter_cons, if_pos (decide_eq_true hin), List.filter_nil, zs_app]
  · rw [decide_eq_false hin, if_neg Bool.false_ne_true]
    refine ⟨e1, ?_⟩
    rw [e2, List.range_succ, List.filter_append, List.filter_cons, if_neg (by rw [decide_eq_false hin]; exact Bool.false_ne_true), List.filter_nil, List.append_nil]
def spLPart (K : PySem.W.Frag) : Sp := fun vs H Q _ => ∃ (m : Addr) (n : Nat) (a : Addr) (S : Addr → Prop) (ns : List Str) (rs : List Rw) (zs : List Str), vs = [.ref m, .int (n : Nat), .ref a] ∧ Dt K S H (.ref m) (modelD ns rs) ∧ Right ns rs ∧ n < rs.length ∧ H a = some (.lst (zs.map V.str)) ∧
  ∀ H' m2 S', Same H H' → H m2 = none → (∀ b, S' b → H b = none) → Dt K S' H' (.ref m2) (modelD (subN ns (plc ns zs)) (subR rs (plc ns zs) (met rs (plc ns zs) n))) → Q (.ref m2) H'
section
variable {P : Program} {w : World} {K : PySem.W.Frag} {mg : Str → Option Value} {base : Heap} {Ct f : Addr} {fd : FuncData}
theorem ok_lpart (F : Fun K "_law_part" "_law_part" s_lpart f fd) (T : Bl mg) (c_lmet : Cl P w K mg base 1 "_law_met" (spLMet K)) : FnOk P w K mg base CX0 2 f fd ["_law_model_here", "_law_state_now", "_law_some"] (spLPart K) := by
  refine F.ok sc_lpart (fun vs H Q E h => ?_) (fun cdv A outer s H vs Q E hr h => ?_)
  · obtain ⟨m, n, a, S, ns, rs, zs, rfl, _⟩ := h
    rfl
  · obtain ⟨m, n, a, S, ns, rs, zs, rfl, hM, R, hn, ha, q⟩ := h
    refine ⟨_, (pss_cons (ps_setLc (i := 3) (own := [("_law_place", 4)]) (g := gName 4) (tt := (tTest (tOp (rIn K false) (tOp (rIxL K) (tDGet (tVar 0) (tC (.str "deeds"))) (tVar 4)) (tVar 2)))) (te := tVar 4) rfl sc_lpart.nd rfl rfl (sw_true rfl rfl rfl (by decide +kernel)) (pi_range1 rfl T.range (pa_cons (pe_callB (id := "len") (call_ln) (by rfl) T.len (by decide +kernel) (pa_cons (pe_dget (hu_of hr) (pv 0) pe_str (fun _ _ => rfl)) pa_nil)) pa_nil)) (blkOk_by (N := N_lpart) (sc := defScope s_lpart) (by decide +kernel)) (fun _ _ _ _ _ => (pg_name (i := 4) sc_lpart.nd rfl (Or.inl rfl))) (fun _ _ _ _ _ => pts_one (pt_cmpR op_in_seq (pe_ix ix_list (pe_dget (hu_of hr) (pv 0) pe_str (fun _ _ => rfl)) (pv 4) (fun _ _ => rfl)) (pv 2) (by rfl))) (fun _ _ _ _ _ => (pv 4)))
  (pss_cons (ps_set (i := 5) sc_lpart.nd rfl (Or.inr rfl) (pe_cl c_lmet hr (by decide) (by rfl) (pa_cons (pv 0) (pa_cons (pv 1) (pa_cons (pv 3) pa_nil)))))
  (pss_cons (ps_set (i := 6) sc_lpart.nd rfl (Or.inl rfl) (pe_lst pa_nil))
  (pss_cons (ps_for PassesOwn.never rfl (pi_list (pv 5)) (pg_name (i := 7) sc_lpart.nd rfl (Or.inr rfl)) (pss_cons (ps_setLc (i := 8) (own := [("_law_place", 4)]) (g := gName 4) (tt := tYes) (te := tOp (rIxL K) (tOp (rIxL K) (tDGet (tVar 0) (tC (.str "rows"))) (tVar 7)) (tVar 4)) rfl sc_lpart.nd rfl rfl (sw_true rfl rfl rfl (by decide +kernel)) (pi_list (pv 3)) (blkOk_by (N := N_lpart) (sc := defScope s_lpart) (by decide +kernel)) (fun _ _ _ _ _ => (pg_name (i := 4) sc_lpart.nd rfl (Or.inl rfl))) (fun _ _ _ _ _ => pts_nil) (fun _ _ _ _ _ => (pe_ix ix_list (pe_ix ix_list (pe_dget (hu_of hr) (pv 0) pe_str (fun _ _ => rfl)) (pv 7) (fun _ _ => rfl)) (pv 4) (fun _ _ => rfl))))
  (pss_one (ps_expr (pe_bm PySem.F.plainAttrs_list PySem.F.slot_list_append PySem.F.type_list_append mt_append (pv 6) (pa_cons (pe_lc (own := [("_law_answer", 9), ("_law_later", 10)]) (g := gTup K 2 (gCons (gName 9) (gCons (gName 10) gNil))) (tt := tYes) (te := tTup (tCons (tVar 9) (tCons (tBM K "list" (rIndex K) (tVar 5) (tCons (tVar 10) tNil)) tNil))) rfl sc_lpart.nd (pi_list (pv 8)) (blkOk_by (N := N_lpart) (sc := defScope s_lpart) (by decide +kernel)) (fun _ _ _ _ _ => (pg_tup rfl (pgs_cons (pg_name (i := 9) sc_lpart.nd rfl (Or.inl rfl)) (pgs_cons (pg_name (i := 10) sc_lpart.nd rfl (Or.inl rfl)) pgs_nil)))) (fun _ _ _ _ _ => pts_nil) (fun _ _ _ _ _ => (pe_tup (pa_cons (pv 9) (pa_cons (pe_bm PySem.F.plainAttrs_list PySem.F.slot_list_index PySem.F.type_list_index mt_index (pv 5) (pa_cons (pv 10) pa_nil)) pa_nil))))) pa_nil))))))
  (pss_one (ps_ret (pe_disp (pps_cons pe_str (pe_lc (own := [("_law_place", 4)]) (g := gName 4) (tt := tYes) (te := tOp (rIxL K) (tDGet (tVar 0) (tC (.str "deeds"))) (tVar 4)) rfl sc_lpart.nd (pi_list (pv 3)) (blkOk_by (N := N_lpart) (sc := defScope s_lpart) (by decide +kernel)) (fun _ _ _ _ _ => (pg_name (i := 4) sc_lpart.nd rfl (Or.inl rfl))) (fun _ _ _ _ _ => pts_nil) (fun _ _ _ _ _ => (pe_ix ix_list (pe_dget (hu_of hr) (pv 0) pe_str (fun _ _ => rfl)) (pv 4) (fun _ _ => rfl)))) (pps_cons pe_str (pv 6) pps_nil)) (by rfl) (by rfl) (fun z => by cases z) (by decide)))))))), ?_⟩
    obtain ⟨l, tt, ys, sm, sl, st, hm, hl, ht, hp⟩ := md_op hM
    have r8 := R.r8
    have d4 := R.d4
    have PL : Pls ns rs (plc ns zs) n := plc_pls hn
    have pl := plc_len ns zs
    have fd1 := met_fd R PL
    have fl := fd1.len
    have mc := met_closed R PL
    have plt := PL.lt
    refine ⟨_, rfl, m, _, rfl, md_deeds hm, l, _, rfl, .inl (SqL.of hl), (ns.length : Nat), by rw [List.length_map], by omega, by omega, fun D nD => ?_⟩
    refine plc_lcR (ns := ns) (zs := zs) (σ := [some (.ref m), some (.int (n : Nat)), some (.ref a), none, none, none, none, none, none, none, none]) (vs := [4]) (i1 := 4) (by omega) nD (fun _ => rfl) (fun _ => rfl) (fun i H3 Qt hi s3 q3 => ?_) (fun H1 s1 hD1 => ?_)
    · refine ⟨_, rfl, m, _, rfl, md_deeds (s3 _ _ hm), _, rfl, l, _, _, _, rfl, rfl, SqL.of (s3 _ _ hl), at_i (show (ns.map V.str)[i]? = some (V.str (ns.getD i "")) from by rw [List.getElem?_map, getD_str hi]; rfl), _, rfl, a, _, rfl, .inl (SqL.of (s3 _ _ ha)), rfl, flat_names zs, _, rfl, ?_⟩
      rw [in_names]
      exact q3
    · refine ⟨_, rfl, _, rfl, _, rfl, m, n, D, S, ns, rs, plc ns zs, rfl, hM.keep s1, R, PL, hD1, fun H2 L3 s2 nL3 hL3 => ?_⟩
      generalize hps : plc ns zs = ps at *
      generalize hmt : met rs ps n = mt at *
      have s02 := s1.trans s2
      have hD2 := s2 _ _ hD1
      refine ⟨by show 0 ≤ sizeLine; decide, fun L nL => ?_⟩
      have s3 : Same H2 (upd H2 L (.lst [])) := same_upd nL
      have e3 : upd H2 L (.lst []) L = some (.lst []) := upd_same
      have nLH : H L = none := s02.free nL
      have nLB : ∀ b o, H b = some o → b ≠ L := fun b o e => ne_of_none e nLH
      generalize upd H2 L (.lst []) = H3 at s3 e3 ⊢
      have s03 := s02.trans s3
      have hL33 := s3 _ _ hL3
      have hD3 := s3 _ _ hD2
      have nDL : D ≠ L := fun z => by rw [z, nL] at hD2; cases hD2
      have nLL : L3 ≠ L := fun z => by rw [z, nL] at hL3; cases hL3
      refine ⟨_, rfl, L3, rfl, ⟨_, SqL.of hL33⟩, ?_⟩
      refine for_it (walk_list (K := K) (a := L3) (xs := K14.zs mt)) (fun i σ H' => ∃ u7 u8 ls S2, σ = [some (.ref m), some (.int (n : Nat)), some (.ref a), some (.ref D), none, some (.ref L3), some (.ref L), u7, u8, none, none] ∧ Same H H' ∧ H' D = some (.lst (K14.zs ps)) ∧ H' L3 = some (.lst (K14.zs mt)) ∧ ls.length = i ∧ H' L = some (.lst (ls.map V.ref)) ∧ (∀ b, S2 b → Nw H H' b ∧ b ≠ L) ∧ Paired (fun l r => Dt K S2 H' (.ref l) (rowD r)) ls ((subR rs ps mt).take i))
        ⟨none, none, [], fun _ => False, rfl, s03, hD3, hL33, rfl, e3, fun _ z => z.elim, .nil⟩ (fun i σ H' _ ⟨_, _, _, _, _, _, _, z, _⟩ => SqL.of z) (fun i v σ H0 H4 hi e y => ?_) (fun σ H4 e => ?_)
      · obtain ⟨rfl, hv⟩ := y
        obtain ⟨u7, u8, ls, S2, rfl, s4, eD, eL3, e1, eL, e2, e4⟩ := e
        obtain ⟨s0, hs0, rfl⟩ := p_at hv
        have hsm := List.mem_of_getElem? hs0
        have hsl := fd1.lt s0 hsm
        -- entries
        refine ⟨_, rfl, D, rfl, ⟨_, SqL.of eD⟩, fun E nE => ?_⟩
        have nEL : E ≠ L := fun z => by rw [z, eL] at nE; cases nE
        refine lc_rel (f := fun (a : Nat) => V.int (a : Nat)) (ns := ps) (σ := [some (.ref m), some (.int (n : Nat)), some (.ref a), some (.ref D), none, some (.ref L3), some (.ref L), some (.int (s0 : Nat)), u8, none, none]) (vs := [4]) (i1 := 4)
          (fun _ y p => ∃ t, y = V.ref t ∧ H t = some (.tup [.int (ntry rs s0 p).1, .int (ntry rs s0 p).2])) (walk_list (K := K) (a := D) (xs := ps.map fun (a : Nat) => V.int (a : Nat))) (fun H' s' => SqL.of (s' _ _ eD)) (by omega) nE (fun _ => rfl) (fun _ _ _ _ r _ => r) (fun p H5 Qw hpm s5 _ kw => ?_) (fun H5 es s5 hE5 hes => ?_)
        · obtain ⟨r, h1, h2, _⟩ := ntry_at R hsl (plt p hpm)
          obtain ⟨w1, hw1, b, es, rfl, _, hb, hps1⟩ := paired_at hp h1
          obtain ⟨w2, hw2, t2, rfl, _, ht2⟩ := paired_at hps1 h2
          have s05 := s4.trans s5
          exact ⟨_, rfl, m, _, rfl, md_rows (s05 _ _ hm), _, rfl, tt, ys, _, _, rfl, rfl, SqL.of (s05 _ _ ht), at_i hw1, _, rfl, b, es, _, _, rfl, rfl, SqL.of (s05 _ _ hb), at_i hw2, kw _ _ (Same.refl _) ⟨t2, rfl, ht2⟩⟩
        · have s05 := s4.trans s5
          have eL5 := s5 _ _ eL
          have eL35 := s5 _ _ eL3
          have hel : es.length = ps.length := Paired.length hes
          refine ⟨_, rfl, .inl ⟨rfl, _, SqL.of eL5⟩, ?_⟩
          refine ⟨_, rfl, E, rfl, ⟨es, SqL.of hE5⟩, fun D6 nD6 => ?_⟩
          refine map_lc (σ := [some (.ref m), some (.int (n : Nat)), some (.ref a), some (.ref D), none, some (.ref L3), some (.ref L), some (.int (s0 : Nat)), some (.ref E), none, none]) (vs := [9, 10]) (i1 := 9) (i2 := 10) (r := ps.map (ntry rs s0)) (g := numE mt) walk_list (fun H' s => SqL.of (s _ _ hE5)) (pr_img hes fun y p _ ⟨t, z1, z2⟩ => ⟨t, z1, s05 _ _ z2⟩) (by omega) nD6 (fun _ _ => rfl) (fun e H6 Qv he s6 q6 => ?_) (fun H6 S3 s6 n6 d6 => ?_)
          · obtain ⟨p, hpm, rfl⟩ := List.mem_map.mp he
            obtain ⟨_, _, _, _, e0, _⟩ := ntry_at R hsl (plt p hpm)
            have em : (ntry rs s0 p).2.toNat ∈ mt := mc s0 hsm p hpm
            generalize ntry rs s0 p = e at e0 em q6 ⊢
            have sa := s6 _ _ eL35
            refine ⟨_, rfl, _, rfl, .inl ⟨rfl, _, SqL.of sa⟩, _, rfl, L3, _, _, mt.idxOf e.2.toNat, .int (e.2.toNat : Nat), rfl, rfl, SqL.of sa, rfl, flat_zs mt, zs_at (p_idx em), by show decide (((e.2.toNat : Nat) : Int) = e.2) = true; rw [Int.toNat_of_nonneg e0]; simp, fun k z' hk hz' => ?_, ?_⟩
            · obtain ⟨n', hn', rfl⟩ := p_at hz'
              show decide (((n' : Nat) : Int) = e.2) = false
              refine decide_eq_false fun h => ?_
              have hnn : n' = e.2.toNat := by omega
              subst hnn
              obtain ⟨hk2, hk3⟩ := List.getElem?_eq_some_iff.mp hn'
              have := fd1.nd.idxOf_getElem k hk2
              rw [hk3] at this
              omega
            · exact ⟨by show 2 ≤ sizeLine; decide, fun tt nt => q6 _ tt (same_upd nt) nt upd_same⟩
          · have s06 := s05.trans s6
            have him : i < mt.length := by
              unfold K14.zs at hi
              rw [List.length_map] at hi
              exact hi
            have nSL : ∀ c, S3 c → c ≠ L := fun c hc z => by
              have := (n6 c hc).1
              rw [z, eL5] at this
              cases this
            refine ⟨L, _, _, rfl, rfl, s6 _ _ eL5, by rw [List.length_map, sizeLine_eq]; omega, ?_⟩
            refine ⟨_, _, ls ++ [D6], fun c => S2 c ∨ S3 c, rfl, fun c o e => ?_, by rw [upd_ne nDL]; exact s6 _ _ (s5 _ _ eD), by rw [upd_ne nLL]; exact s6 _ _ eL35, by rw [List.length_append, e1]; rfl, by rw [upd_same, List.map_append]; rfl, fun c hc => ?_, ?_⟩
            · rw [upd_ne (ne_of_none e nLH)]
              exact s06 _ _ e
            · rcases hc with z | z
              · obtain ⟨⟨z1, z2⟩, z3⟩ := e2 c z
                obtain ⟨o, z4⟩ := Option.ne_none_iff_exists'.mp z2
                exact ⟨⟨z1, by rw [upd_ne z3, s6 _ _ (s5 _ _ z4)]; simp⟩, z3⟩
              · exact ⟨⟨s05.free (n6 c z).1, by rw [upd_ne (nSL c z)]; exact (n6 c z).2⟩, nSL c z⟩
            · have hst : (subR rs ps mt)[i]? = some ((ps.map (ntry rs s0)).map (numE mt)) := by
                unfold subR subE
                rw [List.getElem?_map, List.getElem?_map, hs0]
                rfl
              rw [Xv.take_step hst]
              have fr : Fr (fun c => c = L) H4 (upd H6 L (.lst (ls.map V.ref ++ [V.ref D6]))) := fun c o n e => by
                rw [upd_ne n]
                exact s6 _ _ (s5 _ _ e)
              refine pr_app (pr_map e4 fun l q _ dd => Dt.mono (dd.fr fr fun c hc => (e2 c hc).2) fun c hc => .inl hc) (.cons ?_ .nil)
              exact Dt.mono (d6.fr (M := fun c => c = L) (Fr.set (Fr.refl _ _) rfl) fun c hc => nSL c hc) fun c hc => .inr hc
      · obtain ⟨u7, u8, ls, S2, rfl, s4, eD, eL3, e1, eL, e2, e4⟩ := e
        rw [show (K14.zs mt).length = (subR rs ps mt).length from by unfold K14.zs subR subE; rw [List.length_map, List.length_map, List.length_map], List.take_length] at e4
        intro m2 n2
        have s5 : Same H4 (upd H4 m2 (.dK [])) := same_upd n2
        have em5 : upd H4 m2 (.dK []) m2 = some (.dK []) := upd_same
        have nm2 : H m2 = none := s4.free n2
        generalize hH5 : upd H4 m2 (.dK []) = H5 at s5 em5
        have s05 := s4.trans s5
        refine ⟨_, rfl, D, rfl, ⟨_, SqL.of (s5 _ _ eD)⟩, fun E3 nE3 => ?_⟩
        refine lc_rel (f := fun (a : Nat) => V.int (a : Nat)) (ns := ps) (σ := [some (.ref m), some (.int (n : Nat)), some (.ref a), some (.ref D), none, some (.ref L3), some (.ref L), u7, u8, none, none]) (vs := [4]) (i1 := 4)
          (fun _ y p => y = V.str (ns.getD p "")) (walk_list (K := K) (a := D) (xs := ps.map fun (a : Nat) => V.int (a : Nat))) (fun H' s' => SqL.of (s' _ _ (s5 _ _ eD))) (by omega) nE3 (fun _ => rfl) (fun _ _ _ _ r _ => r) (fun p H6 Qw hpm s6 _ kw => ?_) (fun H6 es s6 hE3 hes => ?_)
        · have s06 := s05.trans s6
          exact ⟨_, rfl, m, _, rfl, md_deeds (s06 _ _ hm), _, rfl, l, ns.map V.str, _, _, rfl, rfl, SqL.of (s06 _ _ hl), at_i (show (ns.map V.str)[p]? = some (V.str (ns.getD p "")) from by rw [List.getElem?_map, getD_str (plt p hpm)]; rfl), kw _ _ (Same.refl _) rfl⟩
        · have ees : es = (subN ns ps).map V.str := by
            unfold subN
            rw [List.map_map]
            exact pr_eq hes
          subst ees
          have s06 := s05.trans s6
          have s46 := s5.trans s6
          have em6 := s6 _ _ em5
          have drow : Dt K (fun b => S2 b ∨ b = L) H4 (.ref L) (rowsD (subR rs ps mt)) := by
            refine .lst (by rw [vw_at (.inr rfl)]; exact eL) ?_
            have all : ∀ {us : List Addr} {q : List Rw}, Paired (fun l r => Dt K S2 H4 (.ref l) (rowD r)) us q → TrAll (Vw (fun b => S2 b ∨ b = L) H4) (us.map V.ref) (q.map rowD) := fun {us q} hq => by
              induction hq with
              | nil => exact .nil
              | cons h _ ih => exact .cons (Dt.mono h fun b hb => .inl hb) ih
            exact all e4
          refine ⟨_, rfl, em6, [(.inr "deeds", .ref E3), (.inr "rows", .ref L)], rfl, by show 2 ≤ 15; decide, ?_⟩
          have sE : Same H (upd H6 m2 (.dK [(.inr "deeds", .ref E3), (.inr "rows", .ref L)])) := fun b o e => by
            rw [upd_ne (ne_of_none e nm2)]
            exact s06 _ _ e
          refine q _ m2 (fun b => ((b = E3) ∨ (S2 b ∨ b = L)) ∨ b = m2) sE nm2 (fun b hb => ?_) (mk_model em6 (fun z => ?_) (md_names (.inl rfl) hE3) (Dt.mono (drow.keep s46) fun b hb => .inr hb))
          · rcases hb with (z | z | z) | z
            · exact z ▸ s05.free nE3
            · exact (e2 b z).1.1
            · exact z ▸ nLH
            · exact z ▸ nm2
          · rcases z with z | z | z
            · rw [z, nE3] at em5
              cases em5
            · obtain ⟨o, e⟩ := Option.ne_none_iff_exists'.mp (e2 m2 z).1.2
              rw [n2] at e
              cases e
            · rw [z, eL] at n2
              cases n2
end
end K14

namespace K14
open PySem PySem.Spec PyProof.Rows L2 Xv Cr TL
/-! ### a part, as a thing of its own -/
structure Sub (ns : List Str) (rs : List Rw) (ps : List Nat) (n : Nat) : Prop where
  R : Right ns rs
  L : Pls ns rs ps n
  nd : ps.Nodup
  ne : 0 < ps.length
theorem getD_nat {ps : List Nat} {j : Nat} (h : j < ps.length) : ps[j]? = some (ps.getD j 0) := by
  rw [List.getD_eq_getElem?_getD, List.getElem?_eq_getElem h]
  rfl
theorem nd_at {α : Type} [DecidableEq α] {l : List α} {x : α} {j : Nat} (nd : l.Nodup) (h : l[j]? = some x) : l.idxOf x = j := by
  obtain ⟨hj, rfl⟩ := List.getElem?_eq_some_iff.mp h
  exact nd.idxOf_getElem j hj
section
variable {ns : List Str} {rs : List Rw} {ps : List Nat} {n i j s : Nat}
theorem Sub.len (B : Sub ns rs ps n) : ps.length ≤ ns.length := by
  have := L2.nat_nodup_len ps (List.range ns.length) B.nd fun a ha => List.mem_range.mpr (B.L.lt a ha)
  rwa [List.length_range] at this
theorem subN_at (h : j < ps.length) : (subN ns ps)[j]? = some (ns.getD (ps.getD j 0) "") := by
  unfold subN
  rw [List.getElem?_map, getD_nat h]
  rfl
theorem subN_nd (B : Sub ns rs ps n) : (subN ns ps).Nodup := by
  unfold subN
  refine List.pairwise_map.mpr (List.Pairwise.imp_of_mem (fun {a b} ha hb z e => z ?_) B.nd)
  have h1 := nd_at B.R.nd (getD_str (B.L.lt a ha))
  have h2 := nd_at B.R.nd (getD_str (B.L.lt b hb))
  rw [e] at h1
  omega
theorem subR_len {r : List Nat} : (subR rs ps r).length = r.length := by
  unfold subR subE
  rw [List.length_map, List.length_map]
theorem ntry_sub {r : List Nat} (hi : r[i]? = some s) (hj : j < ps.length) : ntry (subR rs ps r) i j = numE r (ntry rs s (ps.getD j 0)) := by
  have e : (subR rs ps r)[i]? = some ((ps.map (ntry rs s)).map (numE r)) := by
    unfold subR subE
    rw [List.getElem?_map, List.getElem?_map, hi]
    rfl
  have e2 : ((ps.map (ntry rs s)).map (numE r))[j]? = some (numE r (ntry rs s (ps.getD j 0))) := by
    rw [List.getElem?_map, List.getElem?_map, getD_nat hj]
    rfl
  unfold ntry at e2 ⊢
  rw [show (subR rs ps r).getD i [] = (ps.map (ntry rs s)).map (numE r) from by rw [List.getD_eq_getElem?_getD, e, Option.getD_some], List.getD_eq_getElem?_getD]
  show ((ps.map fun p => (rs.getD s []).getD p (0, 0)).map (numE r))[j]?.getD (0, 0) = _
  rw [e2]
  rfl
theorem nx_sub {r : List Nat} (hi : r[i]? = some s) (hj : j < ps.length) : nx (subR rs ps r) i j = r.idxOf (nx rs s (ps.getD j 0)) := by
  unfold nx
  rw [ntry_sub hi hj]
  unfold numE
  exact Int.toNat_natCast _
theorem sub_right (B : Sub ns rs ps n) : Right (subN ns ps) (subR rs ps (met rs ps n)) := by
  have fd := met_fd B.R B.L
  have hl := fd.len
  have sl := B.len
  have mc := met_closed B.R B.L
  have nl : (subN ns ps).length = ps.length := by unfold subN; rw [List.length_map]
  have h0 : 0 < (met rs ps n).length := by
    obtain ⟨hh, _⟩ := List.getElem?_eq_some_iff.mp (met_head B.R B.L)
    exact hh
  refine ⟨by rw [nl]; exact B.ne, by have := B.R.d4; omega, subN_nd B, fun x hx => ?_, by rw [subR_len]; exact h0, by have := B.R.r8; rw [subR_len]; omega, ?_⟩
  · obtain ⟨p, hp, rfl⟩ := List.mem_map.mp hx
    exact B.R.nm _ (List.mem_of_getElem? (getD_str (B.L.lt p hp)))
  · rw [subR_len, nl]
    refine ⟨subR_len, fun r hr => ?_⟩
    obtain ⟨row, hrow, rfl⟩ := List.mem_map.mp hr
    obtain ⟨s, hs, rfl⟩ := List.mem_map.mp hrow
    refine ⟨by rw [List.length_map, List.length_map], fun e he => ?_⟩
    obtain ⟨e0, he0, rfl⟩ := List.mem_map.mp he
    obtain ⟨p, hp, rfl⟩ := List.mem_map.mp he0
    obtain ⟨_, _, _, ha, _⟩ := ntry_at B.R (fd.lt s hs) (B.L.lt p hp)
    refine ⟨ha, ?_⟩
    have := List.idxOf_lt_length_of_mem (mc s hs p hp)
    unfold nx at this
    unfold numE
    dsimp only
    omega
/-- the walk of a part, by places -/
theorem sim_met1 {r f g : List Nat} {p : Nat} (nd : r.Nodup) (e : r = met1 rs s f p ++ g) : (if r.idxOf (nx rs s p) ∈ List.range f.length then List.range f.length else List.range f.length ++ [r.idxOf (nx rs s p)]) = List.range (met1 rs s f p).length := by
  unfold met1 at e ⊢
  by_cases h : nx rs s p ∈ f
  · rw [if_pos h] at e ⊢
    have hl := List.idxOf_lt_length_of_mem h
    have ei : r.idxOf (nx rs s p) = f.idxOf (nx rs s p) := nd_at nd (by rw [e, List.getElem?_append_left hl]; exact p_idx h)
    rw [if_pos (by rw [List.mem_range, ei]; exact hl)]
  · rw [if_neg h] at e ⊢
    have ei : r.idxOf (nx rs s p) = f.length := nd_at nd (by rw [e, List.append_assoc, List.getElem?_append_right (Nat.le_refl _), Nat.sub_self]; rfl)
    rw [ei, if_neg (by rw [List.mem_range]; omega), List.length_append, List.length_singleton, List.range_succ]
theorem sim_metS {r : List Nat} (nd : r.Nodup) (hi : r[i]? = some s) : ∀ (js f g : List Nat), (∀ j ∈ js, j < ps.length) → r = metS rs (js.map fun j => ps.getD j 0) f s ++ g → metS (subR rs ps r) js (List.range f.length) i = List.range (metS rs (js.map fun j => ps.getD j 0) f s).length
  | [], f, g, _, _ => rfl
  | j :: js, f, g, hj, e => by
    have e0 : metS rs ((j :: js).map fun j => ps.getD j 0) f s = metS rs (js.map fun j => ps.getD j 0) (met1 rs s f (ps.getD j 0)) s := rfl
    rw [e0] at e ⊢
    obtain ⟨g1, e1⟩ := metS_pre (rs := rs) (s := s) (js.map fun j => ps.getD j 0) (met1 rs s f (ps.getD j 0))
    have e2 : r = met1 rs s f (ps.getD j 0) ++ (g1 ++ g) := by rw [e, e1, List.append_assoc]
    have h1 := sim_met1 nd e2
    have ih := sim_metS nd hi js (met1 rs s f (ps.getD j 0)) g (fun q hq => hj q (List.mem_cons_of_mem _ hq)) e
    rw [← ih]
    show metS (subR rs ps r) js (met1 (subR rs ps r) i (List.range f.length) j) i = _
    congr 1
    unfold met1
    rw [nx_sub hi (hj j List.mem_cons_self)]
    exact h1
theorem sim_run {r f : List Nat} (nd : r.Nodup) (h : MetRun rs ps f i r) (hn : f.Nodup → True) : MetRun (subR rs ps r) (List.range ps.length) (List.range f.length) i (List.range r.length) := by
  have em : ((List.range ps.length).map fun j => ps.getD j 0) = ps := by
    refine List.ext_getElem? fun k => ?_
    rw [List.getElem?_map]
    by_cases hk : k < ps.length
    · rw [List.getElem?_range hk, getD_nat hk]
      rfl
    · have k1 : ps[k]? = none := List.getElem?_eq_none (by omega)
      have k2 : (List.range ps.length)[k]? = none := List.getElem?_eq_none (by rw [List.length_range]; omega)
      rw [k1, k2]
      rfl
  generalize hr : r = r0 at h
  subst hr
  induction h with
  | stop z => exact .stop (by rw [List.length_range]; exact z)
  | @step f r i hlt h ih =>
    have ih := ih nd
    obtain ⟨g, e⟩ := h.pre
    obtain ⟨g1, e1⟩ := metS_pre (rs := rs) (s := f.getD i 0) ps f
    have hi : r[i]? = some (f.getD i 0) := by
      rw [e, e1, List.append_assoc, List.getElem?_append_left hlt, getD_nat hlt]
    refine .step (by rw [List.length_range]; exact hlt) ?_
    have gi : (List.range f.length).getD i 0 = i := by
      rw [List.getD_eq_getElem?_getD, List.getElem?_range hlt]
      rfl
    have sm := sim_metS (ps := ps) nd hi (List.range ps.length) f g (fun j hj => List.mem_range.mp hj) (by rw [em]; exact e)
    rw [em] at sm
    rw [gi, sm]
    exact ih (fun _ => trivial)
theorem met_sub (B : Sub ns rs ps n) : met (subR rs ps (met rs ps n)) (List.range ps.length) 0 = List.range (met rs ps n).length := by
  have fd := met_fd B.R B.L
  have R2 := sub_right B
  have nl : (subN ns ps).length = ps.length := by unfold subN; rw [List.length_map]
  have h0 := R2.r0
  have L2' : Pls (subN ns ps) (subR rs ps (met rs ps n)) (List.range ps.length) 0 := ⟨fun p hp => by rw [nl]; exact List.mem_range.mp hp, h0⟩
  exact (met_run R2 L2').det (sim_run fd.nd (met_run B.R B.L) (fun _ => trivial))
end
end K14

namespace K14
open PySem PySem.Spec PyProof.Rows L2 Xv Cr TL
section
variable {ns us : List Str} {rs : List Rw} {ps : List Nat} {n i j s : Nat}
theorem idx_str {z : Str} (h : z ∈ ns) : ns[ns.idxOf z]? = some z := by
  have hl := List.idxOf_lt_length_of_mem h
  rw [List.getElem?_eq_getElem hl, List.getElem_idxOf hl]
theorem getD_some {α : Type} {l : List α} {i : Nat} {x d : α} (h : l[i]? = some x) : l.getD i d = x := by
  rw [List.getD_eq_getElem?_getD, h]
  rfl
theorem sub_of (R : Right ns rs) (hn : n < rs.length) (h0 : 0 < us.length) (hz : ∀ z ∈ us, z ∈ ns) : Sub ns rs (plc ns us) n := by
  refine ⟨R, plc_pls hn, plc_nd ns us, ?_⟩
  obtain ⟨z, hz0⟩ : ∃ z, z ∈ us := ⟨us[0], List.getElem_mem h0⟩
  have hi := idx_str (hz z hz0)
  exact List.length_pos_of_mem (plc_mem.mpr ⟨List.idxOf_lt_length_of_mem (hz z hz0), by rw [getD_some hi]; exact hz0⟩)
theorem subN_in {z : Str} (h : z ∈ subN ns (plc ns us)) : z ∈ us := by
  obtain ⟨p, hp, rfl⟩ := List.mem_map.mp h
  exact (plc_mem.mp hp).2
theorem subN_ns (L : ∀ p ∈ ps, p < ns.length) {z : Str} (h : z ∈ subN ns ps) : z ∈ ns := by
  obtain ⟨p, hp, rfl⟩ := List.mem_map.mp h
  exact List.mem_of_getElem? (getD_str (L p hp))
theorem plc_self : plc ns ns = List.range ns.length := by
  unfold plc
  rw [List.filter_eq_self]
  intro i hi
  exact decide_eq_true (List.mem_of_getElem? (getD_str (List.mem_range.mp hi)))
theorem subN_self : subN ns (List.range ns.length) = ns := by
  unfold subN
  refine List.ext_getElem? fun k => ?_
  rw [List.getElem?_map]
  by_cases hk : k < ns.length
  · rw [List.getElem?_range hk, getD_str hk]
    rfl
  · have k1 : ns[k]? = none := List.getElem?_eq_none (by omega)
    have k2 : (List.range ns.length)[k]? = none := List.getElem?_eq_none (by rw [List.length_range]; omega)
    rw [k1, k2]
    rfl
theorem idx_range {a N : Nat} (h : a < N) : (List.range N).idxOf a = a := nd_at List.nodup_range (List.getElem?_range h)
theorem subR_self (R : Right ns rs) : subR rs (List.range ns.length) (List.range rs.length) = rs := by
  unfold subR subE
  refine List.ext_getElem? fun k => ?_
  rw [List.getElem?_map, List.getElem?_map]
  by_cases hk : k < rs.length
  · have h1 : rs[k]? = some rs[k] := List.getElem?_eq_getElem hk
    rw [List.getElem?_range hk, h1]
    show some ((List.map (ntry rs k) (List.range ns.length)).map (numE (List.range rs.length))) = some rs[k]
    congr 1
    refine List.ext_getElem? fun p => ?_
    rw [List.getElem?_map, List.getElem?_map]
    obtain ⟨hl, he⟩ := R.tb.2 _ (List.getElem_mem hk)
    by_cases hp : p < ns.length
    · rw [List.getElem?_range hp]
      obtain ⟨r, g1, g2, _, g3, g4⟩ := ntry_at R hk hp
      rw [h1] at g1
      cases g1
      rw [g2]
      show some (numE (List.range rs.length) (ntry rs k p)) = some (ntry rs k p)
      unfold numE
      rw [idx_range (by omega)]
      congr 1
      exact Prod.ext rfl (by show (((ntry rs k p).2.toNat : Nat) : Int) = _; omega)
    · have k1 : rs[k][p]? = none := List.getElem?_eq_none (by omega)
      have k2 : (List.range ns.length)[p]? = none := List.getElem?_eq_none (by rw [List.length_range]; omega)
      rw [k1, k2]
      rfl
  · have k1 : rs[k]? = none := List.getElem?_eq_none (by omega)
    have k2 : (List.range rs.length)[k]? = none := List.getElem?_eq_none (by rw [List.length_range]; omega)
    rw [k1, k2]
    rfl
theorem subN_len : (subN ns ps).length = ps.length := by
  unfold subN
  rw [List.length_map]
/-- a part of a part, with all names, from its first state: the part itself -/
theorem sub_sub (B : Sub ns rs ps n) : subN (subN ns ps) (plc (subN ns ps) (subN ns ps)) = subN ns ps ∧ subR (subR rs ps (met rs ps n)) (plc (subN ns ps) (subN ns ps)) (met (subR rs ps (met rs ps n)) (plc (subN ns ps) (subN ns ps)) 0) = subR rs ps (met rs ps n) := by
  have R2 := sub_right B
  rw [plc_self]
  refine ⟨subN_self, ?_⟩
  have hm := met_sub B
  have := subR_self R2
  rw [subN_len] at this ⊢
  rw [hm]
  rwa [subR_len] at this
theorem sub_idx (B : Sub ns rs ps n) : (subN ns ps).map (fun z => ns.idxOf z) = ps := by
  unfold subN
  rw [List.map_map]
  refine (List.map_congr_left fun p hp => ?_).trans (List.map_id ps)
  exact nd_at B.R.nd (getD_str (B.L.lt p hp))
/-- runs go along with a part -/
theorem run_sub (B : Sub ns rs ps n) : ∀ (ws : List Str), (∀ w ∈ ws, w ∈ subN ns ps) → ∀ (a : List Int) (i s : Nat), (met rs ps n)[i]? = some s →
    (ws.foldl (runS (subN ns ps) (subR rs ps (met rs ps n))) (a, i)).1 = (ws.foldl (runS ns rs) (a, s)).1 ∧ (met rs ps n)[(ws.foldl (runS (subN ns ps) (subR rs ps (met rs ps n))) (a, i)).2]? = some (ws.foldl (runS ns rs) (a, s)).2
  | [], _, a, i, s, h => ⟨rfl, h⟩
  | w :: ws, hw, a, i, s, h => by
    have hm := hw w List.mem_cons_self
    have hj := List.idxOf_lt_length_of_mem hm
    have hj2 : (subN ns ps).idxOf w < ps.length := by rwa [subN_len] at hj
    have e1 := subN_at (ns := ns) hj2
    rw [idx_str hm] at e1
    have ew : w = ns.getD (ps.getD ((subN ns ps).idxOf w) 0) "" := Option.some.inj e1
    have hp := List.mem_of_getElem? (getD_nat hj2)
    have ei : ns.idxOf w = ps.getD ((subN ns ps).idxOf w) 0 := nd_at B.R.nd (by rw [getD_str (B.L.lt _ hp), ← ew])
    have ee : ent (subN ns ps) (subR rs ps (met rs ps n)) i w = numE (met rs ps n) (ent ns rs s w) := by
      show ntry (subR rs ps (met rs ps n)) i ((subN ns ps).idxOf w) = numE (met rs ps n) (ntry rs s (ns.idxOf w))
      rw [ntry_sub h hj2, ei]
    have hc := met_closed B.R B.L s (List.mem_of_getElem? h) _ hp
    have e2 : (ent ns rs s w).2.toNat = nx rs s (ps.getD ((subN ns ps).idxOf w) 0) := by
      rw [← ei]
      rfl
    show (ws.foldl _ (runS (subN ns ps) (subR rs ps (met rs ps n)) (a, i) w)).1 = (ws.foldl _ (runS ns rs (a, s) w)).1 ∧ (met rs ps n)[(ws.foldl _ (runS (subN ns ps) (subR rs ps (met rs ps n)) (a, i) w)).2]? = some (ws.foldl _ (runS ns rs (a, s) w)).2
    have r1 : runS (subN ns ps) (subR rs ps (met rs ps n)) (a, i) w = (a ++ [(ent ns rs s w).1], (met rs ps n).idxOf (ent ns rs s w).2.toNat) := by
      unfold runS
      dsimp only
      rw [ee]
      unfold numE
      rw [Int.toNat_natCast]
    rw [r1]
    exact run_sub B ws (fun x hx => hw x (List.mem_cons_of_mem _ hx)) _ _ _ (by rw [e2]; exact p_idx hc)
end
end K14

namespace K14
open PySem PySem.Spec PyProof.Rows L2 Xv Cr TL
abbrev s_pr : Stmt := top 54
abbrev N_pr : List Str := ["_law_pot_here", "_law_model_here", "_law_made", "_law_state_now", "_law_some", "_law_due", "_law_handed", "_law_near", "_law_name", "_law_said", "_law_far", "_law_here", "_law_met_here", "_law_deed_now"]
theorem sc_pr : FnScope N_pr ["_law_pot_here", "_law_model_here", "_law_made", "_law_state_now"] (defScope s_pr) := ⟨rfl, rfl, rfl, by decide +kernel, rfl, by decide +kernel, by decide +kernel⟩
theorem cut_to (ns : List Str) {j : Nat} (h : j ≤ ns.length) : cutV (ns.map V.str) none (some (j : Int)) = (ns.take j).map V.str := by
  unfold cutV
  rw [HT.sIx_none, HT.sIx_nat, List.drop_zero, Nat.sub_zero, List.length_map, Nat.min_eq_left h, List.map_take]
theorem dt_real {K : PySem.W.Frag} {S : Addr → Prop} {H : Hp} {v : V} {d : PyData} (h : Dt K S H v d) : Dt K (fun b => S b ∧ ∃ o, H b = some o) H v d := by
  refine Tr.same (fun b o e => ?_) h
  obtain ⟨sb, eb⟩ := vw_in e
  rw [vw_at ⟨sb, ⟨o, eb⟩⟩]
  exact eb
theorem ThAt.real {K : PySem.W.Frag} {C : Addr} {S : Addr → Prop} {H : Hp} {x : Addr} {ns : List Str} {rs : List Rw} (h : ThAt K C S H x ns rs) : ThAt K C (fun b => S b ∧ ∃ o, H b = some o) H x ns rs := by
  obtain ⟨dx, l, m, hx, hl, hm, n⟩ := h
  exact ⟨dx, l, m, hx, dt_real hl, dt_real hm, fun z => n z.1⟩
theorem but_free {p d : Addr} {H H' : Hp} (b : But p H H') (n : d ≠ p) (e : H' d = none) : H d = none := by
  cases z : H d with
  | none => rfl
  | some o => rw [b _ _ n z] at e; cases e
theorem pot_off {p d : Addr} {H : Hp} (P : Pot H p) (e : H d = none) : d ≠ p := fun z => by
  obtain ⟨_, _, h, _⟩ := P
  rw [← z, e] at h
  cases h
theorem strs_perm {ys : List V} {ns : List Str} (h : ys.Perm (ns.map V.str)) : ∃ zs : List Str, ys = zs.map V.str ∧ zs.Perm ns := by
  let un : V → Str := fun v => match v with | .str z => z | _ => Str.empty
  have e : ∀ {l : List V}, (∀ v ∈ l, ∃ z, v = V.str z) → l = (l.map un).map V.str := fun {l} => by
    induction l with
    | nil => intro _; rfl
    | cons v r ih =>
      intro hv
      obtain ⟨z, rfl⟩ := hv v List.mem_cons_self
      rw [List.map_cons, List.map_cons, ← ih fun v hv2 => hv v (List.mem_cons_of_mem _ hv2)]
  refine ⟨ys.map un, e fun v hv => ?_, ?_⟩
  · obtain ⟨z, _, rfl⟩ := List.mem_map.mp (h.mem_iff.mp hv)
    exact ⟨z, rfl⟩
  · have := h.map un
    rw [List.map_map] at this
    have e2 : ns.map (un ∘ V.str) = ns := by
      conv => rhs; rw [← List.map_id ns]
      rfl
    rwa [e2] at this
theorem names_if {J : It} {G : Hp → Prop} {ns : List Str} {σ : L2.St} {vs : List Nat} {i1 : Nat} {tt : TT} {keep : Str → Bool} {H1 : Hp} {D : Addr} {Qd : Hp → Prop} (W : Walk J (ns.map V.str).length G (YAt (ns.map V.str))) (hG : ∀ H', Same H1 H' → G H') (hz : ns.length ≤ 1000) (hD : H1 D = none)
    (hw : ∀ v, wipe ((wipe σ vs).set i1 (some v)) vs = wipe σ vs) (hv : ∀ v, ((wipe σ vs).set i1 (some v))[i1]? = some (some v))
    (htt : ∀ (z : Str) (H3 : Hp) (Qt : Bool → Hp → Prop), z ∈ ns → Same H1 H3 → Qt (keep z) H3 → tt ((wipe σ vs).set i1 (some (.str z))) H3 Qt)
    (hd : ∀ H2, Same H1 H2 → H2 D = some (.lst ((ns.filter keep).map V.str)) → Qd H2) :
    ∃ W : Nat → Nat → Hp → Prop, (∃ m, W 0 m (upd H1 D (.lst []))) ∧ ∀ i m H, W i m H →
      (J.stop i H ∧ Qd H) ∨ (J.go i H ∧ ∃ Nx : Hp → Prop, (∀ H', Nx H' → ∃ m', m' < m ∧ W (i + 1) m' H') ∧ ∀ x H', J.yld i H x H' → gName i1 x (wipe σ vs) H' fun σ2 H2 => wipe σ2 vs = wipe σ vs ∧ tt σ2 H2 fun b H3 =>
        if b = true then tVar i1 σ2 H3 fun y H4 => ∃ acc, H4 D = some (.lst acc) ∧ acc.length < sizeLine ∧ Nx (upd H4 D (.lst (acc ++ [y]))) else Nx H3) := by
  refine lc_it W (fun i H' => Same H1 H' ∧ H' D = some (.lst (((ns.take i).filter keep).map V.str))) ⟨same_upd hD, upd_same⟩ (fun i H' _ p => hG _ p.1) (fun i x H' H'' hi e y => ?_) (fun H' e => ?_)
  · obtain ⟨rfl, hx⟩ := y
    obtain ⟨e1, e2⟩ := e
    obtain ⟨z, hz1, rfl⟩ : ∃ z, ns[i]? = some z ∧ x = V.str z := by
      rw [List.getElem?_map] at hx
      cases q : ns[i]? with
      | none => rw [q] at hx; cases hx
      | some z => rw [q] at hx; exact ⟨z, rfl, (Option.some.inj hx).symm⟩
    have hil : i < ns.length := (List.getElem?_eq_some_iff.mp hz1).1
    refine ⟨hw _, htt z _ _ (List.mem_of_getElem? hz1) e1 ?_⟩
    cases hk : keep z with
    | true =>
      rw [if_pos rfl]
      refine ⟨_, hv _, _, e2, ?_, fun b o q => ?_, ?_⟩
      · have := List.length_filter_le keep (ns.take i)
        rw [List.length_take] at this
        rw [List.length_map, sizeLine_eq]
        omega
      · rw [upd_ne (ne_of_none q hD)]
        exact e1 _ _ q
      · rw [upd_same, Xv.take_step hz1, List.filter_append, List.filter_cons, if_pos hk, List.filter_nil, List.map_append]
        rfl
    | false =>
      rw [if_neg Bool.false_ne_true]
      refine ⟨e1, ?_⟩
      rw [e2, Xv.take_step hz1, List.filter_append, List.filter_cons, if_neg (by rw [hk]; exact Bool.false_ne_true), List.filter_nil, List.append_nil]
  · obtain ⟨e1, e2⟩ := e
    rw [List.length_map, List.take_length] at e2
    exact hd H' e1 e2
structure Met1 (P : Program) (w : World) (K : PySem.W.Frag) (mg : Str → Option Value) (base : Heap) (k : Nat) (C : Addr) (m kw : Str) (sp : Sp) : Prop where
  ex : ∃ (g : Addr) (fd : FuncData), Cls K C ∧ Meth K C m g ∧ FnOk P w K mg base CX0 k g fd ["self", kw] sp ∧ Binds K fd ["self", kw] [] ∧ KBn K fd ["self", kw] 1 [kw] (fun us ws => us ++ ws) (fun vs zs => vs ++ zs)
theorem Met1.met {P : Program} {w : World} {K : PySem.W.Frag} {mg : Str → Option Value} {base : Heap} {k : Nat} {C : Addr} {m kw : Str} {sp : Sp} (c : Met1 P w K mg base k C m kw sp) : C8.Met P w K mg base k C m sp [] := by
  obtain ⟨g, fd, hc, hm, F, b, _⟩ := c.ex
  exact ⟨g, fd, _, [], hc, hm, F, b, .nil⟩
theorem kb_oneM {K : PySem.W.Frag} {x : Str} {st : Stmt} {qual a b : Str} {f : Addr} {fd : FuncData} (F : Fun K x qual st f fd)
    (hk : ∀ (kV doc pm : Value) (an : Option Addr) (cdv ct u v : Value), bindArgs (PySem.W.fnOf x qual (defArgs st) (defBody st) (defScope st) .none kV doc pm an cdv ct) ⟨[u], [(b, v)]⟩ = pure ((([a, b] : List Str)).zip [u, v])) :
    KBn K fd [a, b] 1 [b] (fun us ws => us ++ ws) (fun vs zs => vs ++ zs) := by
  obtain ⟨oc, od, kV, doc, pm, an, cdv, ct, osl, rfl, lk, hc⟩ := F.ex
  exact ⟨fun s us ws X l1 l2 => match us, l1, ws, l2 with | [u], _, [v], _ => .of_eq (hk kV doc pm an cdv ct u v), fun r1 r2 => Vals.append r1 r2⟩
section
variable {X : Cx} {C : Addr} {j k : Nat} {m kw : Str} {sp : Sp} {o : Expr} {kws : List Keyword} {ta : TE} {tk : TA} {p pos apos : Pos}
theorem pe_met1K {pl : Sem Bool} (c : Met1 X.prog X.w X.K X.mg X.base k C m kw sp) (hr : Room j X.A) (hj : k ≤ j) (he : PE X o ta) (hkw : PK X kws tk)
    (hall : (backToKw pos (keywordEach kws X.env)).all (·.1.isSome) = true := by rfl) (hks : (backToKw pos (keywordEach kws X.env)).filterMap (·.1) = ([kw] : List Str) := by rfl)
    (hpl : ((backTo pos (starEach [] X.env)).any (·.1) || (backToKw pos (keywordEach kws X.env)).any (·.1.isNone)) = false := by rfl)
    (ht : eval (.Call (.Attribute o m apos) [] kws pos) X.env = (do
      let ov ← eval o X.env
      standAt apos.atName
      let (fn, fst) ← holding [ov] (getMethod ov m pl)
      callWith pos fn fst (backTo pos (starEach [] X.env)) (backToKw pos (keywordEach kws X.env))) := by rfl) :
    PE X (.Call (.Attribute o m apos) [] kws pos) (tMethK C m 1 sp (fun vs zs => vs ++ zs) ta tk) := by
  obtain ⟨g, fd, hc, hm, F, b, kb⟩ := c.ex
  exact pe_methK (pl := pl) he hc hm F (hr.mono hj) kb hkw hall hks hpl ht
end
/-- an own method with two parameters that may be named, the second one first -/
structure Met2 (P : Program) (w : World) (K : PySem.W.Frag) (mg : Str → Option Value) (base : Heap) (k : Nat) (C : Addr) (m a b : Str) (sp : Sp) : Prop where
  ex : ∃ (g : Addr) (fd : FuncData), Cls K C ∧ Meth K C m g ∧ FnOk P w K mg base CX0 k g fd ["self", a, b] sp ∧ Binds K fd ["self", a, b] [] ∧ KBn K fd ["self", a, b] 1 [b, a] (fun us ws => us ++ ws.reverse) (fun vs zs => vs ++ zs.reverse)
theorem Met2.met {P : Program} {w : World} {K : PySem.W.Frag} {mg : Str → Option Value} {base : Heap} {k : Nat} {C : Addr} {m a b : Str} {sp : Sp} (c : Met2 P w K mg base k C m a b sp) : C8.Met P w K mg base k C m sp [] := by
  obtain ⟨g, fd, hc, hm, F, b, _⟩ := c.ex
  exact ⟨g, fd, _, [], hc, hm, F, b, .nil⟩
section
variable {X : Cx} {C : Addr} {j k : Nat} {m a b : Str} {sp : Sp} {o : Expr} {kws : List Keyword} {ta : TE} {tk : TA} {p pos apos : Pos}
theorem pe_met2K {pl : Sem Bool} (c : Met2 X.prog X.w X.K X.mg X.base k C m a b sp) (hr : Room j X.A) (hj : k ≤ j) (he : PE X o ta) (hkw : PK X kws tk)
    (hall : (backToKw pos (keywordEach kws X.env)).all (·.1.isSome) = true := by rfl) (hks : (backToKw pos (keywordEach kws X.env)).filterMap (·.1) = ([b, a] : List Str) := by rfl)
    (hpl : ((backTo pos (starEach [] X.env)).any (·.1) || (backToKw pos (keywordEach kws X.env)).any (·.1.isNone)) = false := by rfl)
    (ht : eval (.Call (.Attribute o m apos) [] kws pos) X.env = (do
      let ov ← eval o X.env
      standAt apos.atName
      let (fn, fst) ← holding [ov] (getMethod ov m pl)
      callWith pos fn fst (backTo pos (starEach [] X.env)) (backToKw pos (keywordEach kws X.env))) := by rfl) :
    PE X (.Call (.Attribute o m apos) [] kws pos) (tMethK C m 2 sp (fun vs zs => vs ++ zs.reverse) ta tk) := by
  obtain ⟨g, fd, hc, hm, F, bi, kb⟩ := c.ex
  exact pe_methK (pl := pl) he hc hm F (hr.mono hj) kb hkw hall hks hpl ht
end
theorem dp_ints {K : PySem.W.Frag} {H : Hp} : ∀ (a : List Int), DpAll K H (a.map V.int) (a.map PyData.int)
  | [] => .nil
  | x :: r => .cons (.int x) (dp_ints r)
theorem lay_ints : ∀ a : List Int, PyData.canLayAll0 (a.map PyData.int) = true
  | [] => rfl
  | x :: r => by
    show (PyData.canLay0 (.int x) && PyData.canLayAll0 (r.map PyData.int)) = true
    rw [lay_ints r]
    rfl
def intsD (a : List Int) : PyData := .list (a.map .int)
theorem eqv_ints (a b : List Int) : PyData.eqv (intsD a) (intsD b) = decide (a = b) := PySem.W.Datum.eqv a b
theorem shaped_ints (a : List Int) : SeqAt.shaped (intsD a) = true := by
  unfold SeqAt.shaped
  rw [Bool.and_eq_true]
  exact ⟨lay_ints a, decide_eq_true (Nat.le_trans (PySem.W.Datum.depth_le a) (by decide))⟩
theorem pot_strs {H : Hp} {p l : Addr} {ns : List Str} (P : Pot H p) (h : H l = some (.lst (ns.map V.str))) : l ≠ p := fun z => by
  obtain ⟨_, _, e, _⟩ := P
  rw [← z, h] at e
  have e2 := HO.lst.inj (Option.some.inj e)
  cases ns with
  | nil => cases e2
  | cons a r => cases (List.cons.inj e2).1
theorem ne_str {x : Str} {H : Hp} {Q : VK} (q : Q (.bl false) H) : rNe (.str x) (.str x) H Q := ⟨rfl, by rw [decide_eq_true rfl]; exact q⟩
def twoD (ns : List Str) (rs : List Rw) : PyData := .list [namesD ns, rowsD rs]
theorem sm_two {ns : List Str} {rs : List Rw} (R : Right ns rs) : Sm (twoD ns rs) 4 3000 := by
  have n1 := (sm_names R.d4 R.nm).mono (show 1 ≤ 3 by decide) (Nat.le_refl _)
  have r1 := (sm_rows R.r8 R.d4 R.tb).mono (show 3 ≤ 3 by decide) (Nat.le_refl _)
  exact (sm_list (sma_cons n1 (sma_cons r1 sma_nil))).mono (Nat.le_refl _) (by decide)
theorem two_dr {K : PySem.W.Frag} {H : Hp} {L l t : Addr} {ns : List Str} {rs : List Rw} {ys : List V} {S : Addr → Prop} (hL : H L = some (.lst [.ref l, .ref t])) (hl : H l = some (.lst (ns.map V.str))) (ht : H t = some (.lst ys)) (hp : Paired (RwO S H) ys rs) : Dr K H (.ref L) (twoD ns rs) :=
  .lst (SqL.of hL) (.cons (.lst (SqL.of hl) (dr_strs ns)) (.cons (.lst (SqL.of ht) (dr_rows hp)) .nil))
theorem zs_intz (g : List Nat) : zs g = (intz g).map V.int := zs_ints g
theorem intz_range (k : Nat) : (intz (List.range k)).Pairwise (· ≤ ·) := by
  unfold intz
  refine List.pairwise_map.mpr (List.Pairwise.imp (fun {a b} h => ?_) List.pairwise_lt_range)
  omega
def spPR (K : PySem.W.Frag) (C : Addr) : Sp := fun vs H Q _ => ∃ (p m x : Addr) (n : Nat) (S S0 : Addr → Prop) (ns : List Str) (rs : List Rw), vs = [.ref p, .ref m, .ref x, .int (n : Nat)] ∧ Pot H p ∧ ¬ S p ∧ ¬ S0 p ∧ ThAt K C S H x ns rs ∧ Dt K S0 H (.ref m) (modelD ns rs) ∧ Right ns rs ∧ n < rs.length ∧
  ∀ H', But p H H' → Pot H' p → Q (.bl true) H'
section
variable {P : Program} {w : World} {K : PySem.W.Frag} {mg : Str → Option Value} {base : Heap} {Ct f : Addr} {fd : FuncData}
theorem ok_pr (F : Fun K "_law_parts_right" "_law_parts_right" s_pr f fd) (T : Bl mg) (TC : ThC K Ct) (Z : ThF K Ct) (c_draw : Cl P w K mg base 1 "_law_draw" spDraw) (c_mixed : Cl P w K mg base 2 "_law_mixed" spMixed) (c_word : Cl P w K mg base 3 "_law_word" (spWord K)) (c_thing : Cl P w K mg base 9 "_law_thing" (spLThing K Ct)) (c_lmet : Cl P w K mg base 1 "_law_met" (spLMet K)) (c_lpart : Cl P w K mg base 2 "_law_part" (spLPart K)) (c_gone : Cl P w K mg base 9 "_law_gone_right" (spGone K Ct)) (c_eq : OwnM P w K mg base Ct 1 "__eq__" ["self", "other"] (spTEq K Ct)) (p_deeds : PrpM P w K mg base Ct 1 "deeds" (spTDeeds K Ct)) (c_rows : C8.Met P w K mg base 1 Ct "rows" (spTRows K Ct) []) (m_part : Met2 P w K mg base 10 Ct "part" "state" "deeds" (spTPart K Ct)) (m_rea : Met1 P w K mg base 5 Ct "reached" "state" (spTReach K Ct)) (m_run : C8.Met P w K mg base 5 Ct "run" (spTRun K Ct) []) : FnG P w K mg base 11 f fd ["_law_pot_here", "_law_model_here", "_law_made", "_law_state_now"] (spPR K Ct) := by
  refine Xv.Fun.okG F sc_pr (fun vs H Q E h => ?_) (fun cdv A outer s H vs Q hr hgd h => ?_)
  · obtain ⟨p, m, x, n, S, S0, ns, rs, rfl, _⟩ := h
    rfl
  · obtain ⟨p, m, x, n, S, S0, ns, rs, rfl, hP, nSp, nS0p, hT, hM, R, hn, q⟩ := h
    refine ⟨_, (pss_cons (ps_set (i := 4) sc_pr.nd rfl (Or.inr rfl) (pe_slice sl_list (pe_cl c_mixed hr (by decide) (by rfl) (pa_cons (pv 0) (pa_cons (pe_dget (hu_of hr) (pv 1) pe_str (fun _ _ => rfl)) pa_nil))) po_none (po_some (pe_op op_add pe_int (pe_cl c_draw hr (by decide) (by rfl) (pa_cons (pv 0) (pa_cons (pe_callB (id := "len") (call_ln) (by rfl) T.len (by decide +kernel) (pa_cons (pe_dget (hu_of hr) (pv 1) pe_str (fun _ _ => rfl)) pa_nil)) pa_nil)))))))
  (pss_cons (ps_par (i := 5) (j := 6) rfl sc_pr.nd rfl rfl (by decide) rfl rfl (pa_cons (pe_cl c_lpart hr (by decide) (by rfl) (pa_cons (pv 1) (pa_cons (pv 3) (pa_cons (pv 4) pa_nil)))) (pa_cons (pe_callTy (T := "list") call_ls (by rfl) T.list (by decide +kernel) (pa_cons (pv 4) pa_nil)) pa_nil)) (by rfl))
  (pss_cons (ps_set (i := 7) sc_pr.nd rfl (Or.inl rfl) (C8.pe_mt m_part.met hr (by decide) (pv 2) (pa_cons (pv 3) (pa_cons (pv 6) pa_nil))))
  (pss_cons (ps_if (pt_cmpR (op_neD hr.units) (pv 6) (pv 4) (nomark _)) (pss_one (ps_ret pe_bl)) pss_nil)
  (pss_cons (ps_expr (pe_bm0 PySem.F.plainAttrs_list PySem.F.slot_list_reverse PySem.F.type_list_reverse mt_reverse (pv 6)))
  (pss_cons (ps_expr (pe_bm PySem.F.plainAttrs_list PySem.F.slot_list_append PySem.F.type_list_append mt_append (pv 6) (pa_cons pe_str pa_nil)))
  (pss_cons (ps_if (PW.pt (pw_or (pt_cmpR (op_neM c_eq Z hr (by decide)) (pv 7) (pe_cl c_thing hr (by decide) (by rfl) (pa_cons (pv 5) pa_nil)) (nomark _)) (pw_or1 (pt_cmpR op_ne (pe_callB (id := "repr") (call_repr hgd hr.units) (by rfl) T.repr (by decide +kernel) (pa_cons (pe_lst (pa_cons (pe_prp p_deeds TC.cl hr (by decide) (pv 7)) (pa_cons (C8.pe_mt0 c_rows hr (by decide) (pv 7)) pa_nil))) pa_nil)) (pe_callB (id := "repr") (call_repr hgd hr.units) (by rfl) T.repr (by decide +kernel) (pa_cons (pe_lst (pa_cons (pe_dget (hu_of hr) (pv 5) pe_str (fun _ _ => rfl)) (pa_cons (pe_dget (hu_of hr) (pv 5) pe_str (fun _ _ => rfl)) pa_nil))) pa_nil)) (nomark _))))) (pss_one (ps_ret pe_bl)) pss_nil)
  (pss_cons (ps_if (PW.pt (pw_or (pt_cmpR (op_neM c_eq Z hr (by decide)) (pe_met2K m_part hr (by decide) (pv 2) (pk_cons (pe_callTy (T := "tuple") call_tuple_of (by rfl) T.tuple (by decide +kernel) (pa_cons (pv 4) pa_nil)) (pk_cons (pv 3) pk_nil))) (pv 7) (nomark _)) (pw_or1 (pt_cmpR (op_neM c_eq Z hr (by decide)) (C8.pe_mt m_part.met hr (by decide) (pv 7) (pa_cons pe_int (pa_cons (pe_dget (hu_of hr) (pv 5) pe_str (fun _ _ => rfl)) pa_nil))) (pv 7) (nomark _))))) (pss_one (ps_ret pe_bl)) pss_nil)
  (pss_cons (ps_if (pt_cmpR (op_neD hr.units) (C8.pe_mt m_rea.met hr (by decide) (pv 7) (pa_cons pe_int pa_nil)) (pe_listRg rfl (by rfl) T.list (prg_1 (by rfl) T.range (pe_callB (id := "len") (call_ln) (by rfl) T.len (by decide +kernel) (pa_cons (pe_dget (hu_of hr) (pv 5) pe_str (fun _ _ => rfl)) pa_nil)))) (nomark _)) (pss_one (ps_ret pe_bl)) pss_nil)
  (pss_cons (ps_if (pt_not (pt_val (pe_cl c_gone hr (by decide) (by rfl) (pa_cons (pv 7) (pa_cons (pe_lc (own := [("_law_name", 8)]) (g := gName 8) (tt := tTest (tOp (rIn K true) (tVar 8) (tVar 4))) (te := tVar 8) rfl sc_pr.nd (pi_list (pe_dget (hu_of hr) (pv 1) pe_str (fun _ _ => rfl))) (blkOk_by (N := N_pr) (sc := defScope s_pr) (by decide +kernel)) (fun _ _ _ _ _ => (pg_name (i := 8) sc_pr.nd rfl (Or.inl rfl))) (fun _ _ _ _ _ => pts_one (pt_cmpR op_notIn_seq (pv 8) (pv 4) (by rfl))) (fun _ _ _ _ _ => (pv 8))) pa_nil))))) (pss_one (ps_ret pe_bl)) pss_nil)
  (pss_cons (ps_set (i := 9) sc_pr.nd rfl (Or.inl rfl) (pe_cl c_word hr (by decide) (by rfl) (pa_cons (pv 0) (pa_cons (pv 5) (pa_cons pe_int pa_nil)))))
  (pss_cons (ps_par (i := 10) (j := 11) rfl sc_pr.nd rfl rfl (by decide) rfl rfl (pa_cons (C8.pe_mt m_run hr (by decide) (pv 2) (pa_cons (pv 3) (pa_cons (pv 9) pa_nil))) (pa_cons (C8.pe_mt m_run hr (by decide) (pv 7) (pa_cons pe_int (pa_cons (pv 9) pa_nil))) pa_nil)) (by rfl))
  (pss_cons (ps_set (i := 12) sc_pr.nd rfl (Or.inl rfl) (pe_cl c_lmet hr (by decide) (by rfl) (pa_cons (pv 1) (pa_cons (pv 3) (pa_cons (pe_lc (own := [("_law_deed_now", 13)]) (g := gName 13) (tt := tYes) (te := tBM K "list" (rIndex K) (tDGet (tVar 1) (tC (.str "deeds"))) (tCons (tVar 13) tNil)) rfl sc_pr.nd (pi_list (pe_dget (hu_of hr) (pv 5) pe_str (fun _ _ => rfl))) (blkOk_by (N := N_pr) (sc := defScope s_pr) (by decide +kernel)) (fun _ _ _ _ _ => (pg_name (i := 13) sc_pr.nd rfl (Or.inl rfl))) (fun _ _ _ _ _ => pts_nil) (fun _ _ _ _ _ => (pe_bm PySem.F.plainAttrs_list PySem.F.slot_list_index PySem.F.type_list_index mt_index (pe_dget (hu_of hr) (pv 1) pe_str (fun _ _ => rfl)) (pa_cons (pv 13) pa_nil)))) pa_nil)))))
  (pss_one (ps_ret (pe_and (pe_cmpR (op_eqD hr.units) (pe_ix ix_tup (pv 10) pe_int (fun _ _ => rfl)) (pe_ix ix_tup (pv 11) pe_int (fun _ _ => rfl)) (nomark _)) (pe_one (pe_cmpR op_eq (pe_ix ix_list (pv 12) (pe_ix ix_tup (pv 11) pe_int (fun _ _ => rfl)) (fun _ _ => rfl)) (pe_ix ix_tup (pv 10) pe_int (fun _ _ => rfl)) (nomark _))))))))))))))))))), ?_⟩
    have r0 := R.r0
    have r8 := R.r8
    have d4 := R.d4
    have d0 := R.d0
    have T0 := hT.real
    have M0 := dt_real hM
    obtain ⟨dx, l0, m0, ys0, hx0, _⟩ := hT.op
    obtain ⟨lm, tm, ysm, _, _, _, hm0, hl0, htm0, hpm0⟩ := md_op hM
    have nxp : x ≠ p := fun z => by
      obtain ⟨_, _, e, _⟩ := hP
      rw [← z, hx0] at e
      cases e
    have Tf : ∀ {G : Hp}, But p H G → ThAt K Ct (fun b => S b ∧ ∃ o, H b = some o) G x ns rs := fun b => T0.fr (Cr.Fr.but b) (fun b hb z => nSp (z ▸ hb.1)) nxp
    have Mf : ∀ {G : Hp}, But p H G → Dt K (fun b => S0 b ∧ ∃ o, H b = some o) G (.ref m) (modelD ns rs) := fun b => M0.fr (Cr.Fr.but b) fun b hb z => nS0p (z ▸ hb.1)
    have hxf : ∀ {G : Hp}, But p H G → G x = some (.ins Ct dx (fsT l0 m0)) := fun b => b _ _ nxp hx0
    have nmp : m ≠ p := fun z => by
      obtain ⟨_, _, e, _⟩ := hP
      rw [← z, hm0] at e
      cases e
    have nlp : lm ≠ p := pot_strs hP hl0
    have hmf : ∀ {G : Hp}, But p H G → G m = some (.dK [(.inr "deeds", .ref lm), (.inr "rows", .ref tm)]) := fun b => b _ _ nmp hm0
    have hlf : ∀ {G : Hp}, But p H G → G lm = some (.lst (ns.map V.str)) := fun b => b _ _ nlp hl0
    -- some names
    refine ⟨_, rfl, _, rfl, m, _, rfl, md_deeds hm0, p, lm, _, rfl, hP, .inl hl0, by rw [List.length_map]; omega, fun H1 l1 ys1 b1 P1 nl1 hl1 pm => ?_⟩
    obtain ⟨us0, rfl, pm1⟩ := strs_perm pm
    have pl0 := pm1.length_eq
    refine ⟨_, rfl, _, rfl, m, _, rfl, md_deeds (hmf b1), lm, _, rfl, .inl (SqL.of (hlf b1)), p, _, rfl, P1, by rw [List.length_map]; omega, by rw [List.length_map]; omega, fun H2 d b2 P2 e0 e1 => ?_⟩
    rw [List.length_map] at e1
    have b02 := b1.trans b2
    have nl1p := pot_off hP nl1
    have hl12 := b2 _ _ nl1p hl1
    refine ⟨_, _, rfl, rfl, _, rfl, l1, _, rfl, SqL.of hl12, fun A nA => ?_⟩
    obtain ⟨k, hk, ek⟩ : ∃ k : Nat, 1 + d = (k : Nat) ∧ k = 1 + d.toNat := ⟨_, by omega, rfl⟩
    rw [hk, cut_to us0 (by omega)]
    have und : (us0.take k).Nodup := (pm1.nodup_iff.mpr R.nd).sublist (List.take_sublist _ _)
    have uin : ∀ z ∈ us0.take k, z ∈ ns := fun z hz => pm1.mem_iff.mp (List.mem_of_mem_take hz)
    have ul : (us0.take k).length = k := by rw [List.length_take]; omega
    have k4 : k ≤ 4 := by omega
    have k1 : 0 < k := by omega
    generalize us0.take k = us at und uin ul ⊢
    have s3 : Same H2 (upd H2 A (.lst (us.map V.str))) := same_upd nA
    have hA : upd H2 A (.lst (us.map V.str)) A = some (.lst (us.map V.str)) := upd_same
    have b3 := b02.trans (Same.but (p := p) s3)
    have P3 := pot_same P2 s3
    generalize upd H2 A (.lst (us.map V.str)) = H3 at s3 hA b3 P3 ⊢
    clear hk ek e0 e1 pm1 pl0 hl12 nl1p hl1 nl1 pm
    have B : Sub ns rs (plc ns us) n := sub_of R hn (by omega) uin
    have R2 := sub_right B
    -- the part that is due
    refine ⟨_, rfl, _, rfl, _, rfl, m, n, A, _, ns, rs, us, rfl, Mf b3, R, hn, hA, fun H4 m4 S4 s4 nm4 nS4 dM4 => ?_⟩
    have hA4 := s4 _ _ hA
    refine ⟨_, rfl, A, _, rfl, .inl (SqL.of hA4), fun hh nh => ⟨_, _, rfl, ?_⟩⟩
    have s5 : Same H4 (upd H4 hh (.lst (us.map V.str))) := same_upd nh
    have eh : upd H4 hh (.lst (us.map V.str)) hh = some (.lst (us.map V.str)) := upd_same
    generalize upd H4 hh (.lst (us.map V.str)) = H5 at s5 eh ⊢
    have b5 := (b3.trans (Same.but (p := p) s4)).trans (Same.but s5)
    have P5 := pot_same (pot_same P3 s4) s5
    have hA5 := s5 _ _ hA4
    have dM5 := dM4.keep s5
    -- near
    refine ⟨_, rfl, x, dx, _, rfl, hxf b5, rfl, _, rfl, _, rfl, x, _, ns, rs, n, hh, us, rfl, Tf b5, R, hn, .inl eh, by omega, by omega, und, uin, fun H6 y Sy s6 ny nSy thy => ?_⟩
    have hA6 := s6 _ _ hA5
    have eh6 := s6 _ _ eh
    have dM6 := dM5.keep s6
    have b6 := b5.trans (Same.but (p := p) s6)
    have P6 := pot_same P5 s6
    refine ⟨_, rfl, _, rfl, namesD us, namesD us, .lst (SqL.of eh6) (dp_strs us), .lst (SqL.of hA6) (dp_strs us), shaped_names us (fun z hz => R.nm z (uin z hz)), shaped_names us (fun z hz => R.nm z (uin z hz)), ?_⟩
    rw [eqv_names, decide_eq_true rfl]
    refine ⟨false, rfl, ite2 (fun z => nomatch z) (fun _ => ?_)⟩
    -- what was handed is changed
    have nhH : H hh = none := but_free ((b3.trans (Same.but (p := p) s4))) (pot_off (pot_same P3 s4) nh) nh
    have nhp := pot_off (pot_same P3 s4) nh
    have nAh : A ≠ hh := ne_of_none hA4 nh
    refine ⟨_, rfl, .inl ⟨rfl, _, SqL.of eh6⟩, hh, _, rfl, rfl, eh6, ?_⟩
    have e7 : upd H6 hh (.lst (us.map V.str).reverse) hh = some (.lst (us.map V.str).reverse) := upd_same
    refine ⟨_, rfl, .inl ⟨rfl, _, SqL.of e7⟩, hh, _, _, rfl, rfl, e7, by rw [List.length_reverse, List.length_map, sizeLine_eq]; omega, ?_⟩
    have f8 : Fr (fun b => b = hh) H6 (upd (upd H6 hh (.lst (us.map V.str).reverse)) hh (.lst ((us.map V.str).reverse ++ [V.str "zzz"]))) := Fr.set (Fr.set (Fr.refl _ _) rfl) rfl
    have b8 : But p H (upd (upd H6 hh (.lst (us.map V.str).reverse)) hh (.lst ((us.map V.str).reverse ++ [V.str "zzz"]))) := but_new (but_new b6 nhH) nhH
    have P8 : Pot (upd (upd H6 hh (.lst (us.map V.str).reverse)) hh (.lst ((us.map V.str).reverse ++ [V.str "zzz"]))) p := pot_upd (pot_upd P6 nhp.symm) nhp.symm
    generalize upd (upd H6 hh (.lst (us.map V.str).reverse)) hh (.lst ((us.map V.str).reverse ++ [V.str "zzz"])) = H8 at f8 b8 P8 ⊢
    have hA8 := f8 _ _ nAh hA6
    have nyh : y ≠ hh := fun z => by
      rw [z, eh] at ny
      cases ny
    have th8 : ThAt K Ct Sy H8 y (subN ns (plc ns us)) (subR rs (plc ns us) (met rs (plc ns us) n)) := thy.fr f8 (fun b hb z => by
      have := nSy b hb
      rw [z, eh] at this
      cases this) nyh
    have dM8 : Dt K (fun b => S4 b ∧ ∃ o, H4 b = some o) H8 (.ref m4) (modelD (subN ns (plc ns us)) (subR rs (plc ns us) (met rs (plc ns us) n))) := (((dt_real dM4).keep s5).keep s6).fr f8 fun b hb z => by
      obtain ⟨_, o, e⟩ := hb
      rw [z, nh] at e
      cases e
    have nS4p : ¬ (S4 p ∧ ∃ o, H4 p = some o) := fun z => by
      have h0 := nS4 p z.1
      obtain ⟨_, _, e, _⟩ := P3
      rw [h0] at e
      cases e
    have nSyp : ¬ Sy p := fun z => by
      have h0 := nSy p z
      obtain ⟨_, _, e, _⟩ := P5
      rw [h0] at e
      cases e
    have nyp : y ≠ p := pot_off P5 ny
    have hmet : met (subR rs (plc ns us) (met rs (plc ns us) n)) (List.range (plc ns us).length) 0 = List.range (met rs (plc ns us) n).length := met_sub B
    have hss := sub_sub B
    have hidx := sub_idx B
    have hrun := run_sub B
    have hhead := met_head B.R B.L
    have hsl : (subR rs (plc ns us) (met rs (plc ns us) n)).length = (met rs (plc ns us) n).length := subR_len
    have hnl : (subN ns (plc ns us)).length = (plc ns us).length := subN_len
    have hin : ∀ z ∈ subN ns (plc ns us), z ∈ us := fun z hz => subN_in hz
    have PL := B.L
    generalize hNS : subN ns (plc ns us) = NS at *
    generalize hRS : subR rs (plc ns us) (met rs (plc ns us) n) = RS at *
    clear f8 eh6 hA6 dM6 b6 P6 dM5 hA5 b5 P5 eh nhH nhp thy nSy e7 nh s6 s5 s4 dM4 nS4 hA4 nm4 ny nAh
    have N0 := R2.r0
    have N8 := R2.r8
    have D4' := R2.d4
    obtain ⟨dy, ly, my, yy, hy8, _⟩ := th8.op
    -- near is what is due
    refine ⟨_, rfl, _, rfl, m4, _, NS, RS, rfl, dM8, R2, fun H9 z Sz s9 nz nSz thz => ?_⟩
    have th9 := th8.same s9
    refine eq_things Z (neg := true) th9 thz R2.nm R2.nm ?_
    rw [decide_eq_true rfl, decide_eq_true rfl]
    refine ⟨false, rfl, ite2 (fun z => nomatch z) (fun _ => ?_)⟩
    refine ⟨_, rfl, y, dy, _, rfl, s9 _ _ hy8, y, Sy, NS, RS, rfl, th9, fun l2 nl2 => ?_⟩
    have s10 : Same H9 (upd H9 l2 (.lst (NS.map V.str))) := same_upd nl2
    have el2 : upd H9 l2 (.lst (NS.map V.str)) l2 = some (.lst (NS.map V.str)) := upd_same
    generalize upd H9 l2 (.lst (NS.map V.str)) = H10 at s10 el2 ⊢
    have s8a := s9.trans s10
    refine ⟨_, rfl, y, dy, _, rfl, s8a _ _ hy8, rfl, y, Sy, NS, RS, rfl, th8.same s8a, by omega, fun H11 D ls s11 nD hD fD hPl => ?_⟩
    have s8b := s8a.trans s11
    refine ⟨by show 2 ≤ sizeLine; decide, fun L nL => ?_⟩
    have s12 : Same H11 (upd H11 L (.lst [V.ref l2, V.ref D])) := same_upd nL
    have eL : upd H11 L (.lst [V.ref l2, V.ref D]) L = some (.lst [V.ref l2, V.ref D]) := upd_same
    generalize upd H11 L (.lst [V.ref l2, V.ref D]) = H12 at s12 eL ⊢
    refine repr_at (d := twoD NS RS) (two_dr eL (s12 _ _ (s11 _ _ el2)) (s12 _ _ hD) (rwo_same (nwr_rwo hPl) s12)) (sm_two R2) (by decide) (by decide) ?_
    have s8c := s8b.trans s12
    obtain ⟨lm4, tm4, ys4, _, _, _, hm4, hl4, ht4, hp4⟩ := md_op (dM8.keep s8c)
    refine ⟨_, rfl, m4, _, rfl, md_deeds hm4, _, rfl, m4, _, rfl, md_rows hm4, by show 2 ≤ sizeLine; decide, fun L' nL' => ?_⟩
    have s13 : Same H12 (upd H12 L' (.lst [V.ref lm4, V.ref tm4])) := same_upd nL'
    have eL' : upd H12 L' (.lst [V.ref lm4, V.ref tm4]) L' = some (.lst [V.ref lm4, V.ref tm4]) := upd_same
    generalize upd H12 L' (.lst [V.ref lm4, V.ref tm4]) = H13 at s13 eL' ⊢
    refine repr_at (d := twoD NS RS) (two_dr eL' (s13 _ _ hl4) (s13 _ _ ht4) (rwo_same hp4 s13)) (sm_two R2) (by decide) (by decide) ?_
    refine ne_str ⟨_, rfl, ite2 (fun z => nomatch z) (fun _ => ?_)⟩
    have s8d := s8c.trans s13
    clear hp4 ht4 hl4 hm4 eL' nL' s13 s8c eL nL s12 hPl fD hD nD s11 s8b s8a el2 nl2 th9 thz nSz nz s9 s10
    have b13 := b8.trans (Same.but (p := p) s8d)
    have P13 := pot_same P8 s8d
    have th13 := th8.same s8d
    have dM13 := dM8.keep s8d
    have hA13 := s8d _ _ hA8
    have hy13 := s8d _ _ hy8
    clear s8d hy8 hA8 dM8 th8 b8 P8
    -- by names, from a tuple
    refine ⟨_, rfl, x, dx, _, rfl, hxf b13, rfl, _, rfl, A, us.map V.str, rfl, .inl ⟨SqL.of hA13, fun tp ntp => ⟨_, rfl, rfl, ?_⟩⟩⟩
    have s14 : Same H13 (upd H13 tp (.tup (us.map V.str))) := same_upd ntp
    have etp : upd H13 tp (.tup (us.map V.str)) tp = some (.tup (us.map V.str)) := upd_same
    generalize upd H13 tp (.tup (us.map V.str)) = H14 at s14 etp ⊢
    refine ⟨x, _, ns, rs, n, tp, us, rfl, Tf (b13.trans (Same.but (p := p) s14)), R, hn, .inr etp, by omega, by omega, und, uin, fun H15 y2 S2 s15 ny2 nS2 th2 => ?_⟩
    rw [hNS, hRS] at th2
    have s13a := s14.trans s15
    refine ⟨_, rfl, eq_things Z (neg := true) th2 (th13.same s13a) R2.nm R2.nm ?_⟩
    rw [decide_eq_true rfl, decide_eq_true rfl]
    refine ⟨false, rfl, ite2 (fun z => nomatch z) (fun _ => ?_)⟩
    obtain ⟨lm4, tm4, ys4, _, _, _, hm4, hl4, ht4, hp4⟩ := md_op (dM13.keep s13a)
    refine ⟨_, rfl, y, dy, _, rfl, s13a _ _ hy13, rfl, _, rfl, m4, _, rfl, md_deeds hm4, y, Sy, NS, RS, 0, lm4, NS, rfl, th13.same s13a, R2, N0, .inl hl4, R2.d0, by omega, R2.nd, fun z h => h, fun H16 y3 S3 s16 ny3 nS3 th3 => ?_⟩
    rw [hss.1, hss.2] at th3
    have s13b := s13a.trans s16
    refine ⟨_, rfl, eq_things Z (neg := true) th3 (th13.same s13b) R2.nm R2.nm ?_⟩
    rw [decide_eq_true rfl, decide_eq_true rfl]
    refine ⟨false, rfl, ite2 (fun z => nomatch z) (fun _ => ?_)⟩
    -- the states that are come to
    refine ⟨_, rfl, y, dy, _, rfl, s13b _ _ hy13, rfl, y, Sy, NS, RS, 0, rfl, th13.same s13b, R2, N0, fun H17 L1 g s17 nL1 hL1 pm pw => ?_⟩
    rw [hnl, hmet] at pm
    have eg : g = intz (List.range (met rs (plc ns us) n).length) := sorted_eq pm pw (intz_range _)
    subst eg
    have s13c := s13b.trans s17
    have hm5 := s17 _ _ (s16 _ _ hm4)
    have ht5 := s17 _ _ (s16 _ _ ht4)
    have y4l : ys4.length = (met rs (plc ns us) n).length := by rw [← hsl]; exact Paired.length hp4
    refine ⟨_, rfl, m4, _, rfl, md_rows hm5, tm4, ys4, rfl, .inl (SqL.of ht5), _, rfl, RgOk.of_le (by omega) (by omega) (by omega) (by omega), fun L2 n2 => ?_⟩
    rw [y4l, rgV_nat, zs_intz]
    have s18 : Same H17 (upd H17 L2 (.lst ((intz (List.range (met rs (plc ns us) n).length)).map V.int))) := same_upd n2
    refine ⟨intsD _, intsD _, .lst (SqL.of (s18 _ _ hL1)) (dp_ints _), .lst (SqL.of upd_same) (dp_ints _), shaped_ints _, shaped_ints _, ?_⟩
    rw [eqv_ints, decide_eq_true rfl]
    refine ⟨false, rfl, ite2 (fun z => nomatch z) (fun _ => ?_)⟩
    have s13d := s13c.trans s18
    -- names that are gone
    have b13d := b13.trans (Same.but (p := p) s13d)
    have hAd := s13d _ _ hA13
    generalize upd H17 L2 (.lst ((intz (List.range (met rs (plc ns us) n).length)).map V.int)) = H18 at s13d b13d hAd ⊢
    refine ⟨_, rfl, _, rfl, m, _, rfl, md_deeds (hmf b13d), lm, rfl, ⟨_, SqL.of (hlf b13d)⟩, fun D nD => ?_⟩
    refine names_if (σ := [some (.ref p), some (.ref m), some (.ref x), some (.int (n : Nat)), some (.ref A), some (.ref m4), some (.ref hh), some (.ref y), none, none, none, none, none, none]) (vs := [8]) (i1 := 8) (keep := fun z => !decide (z ∈ us)) walk_list (fun H' s => SqL.of (s _ _ (hlf b13d))) (by omega) nD (fun _ => rfl) (fun _ => rfl) (fun z H3 Qt hz s3 q3 => ?_) (fun H19 s19 hD => ?_)
    · refine ⟨_, rfl, _, rfl, A, _, rfl, .inl (SqL.of (s3 _ _ hAd)), rfl, flat_names us, _, rfl, ?_⟩
      rw [in_names]
      exact q3
    have s13e := s13d.trans s19
    refine ⟨y, D, Sy, NS, RS, _, rfl, th13.same s13e, R2, hD, fun z hz => ?_, fun H20 s20 => ⟨true, rfl, ite2 (fun z => nomatch z) (fun _ => ?_)⟩⟩
    · obtain ⟨z1, z2⟩ := List.mem_filter.mp hz
      refine ⟨fun z3 => ?_, R.nm z z1⟩
      rw [decide_eq_true (hin z z3)] at z2
      cases z2
    have s13f := s13e.trans s20
    -- a word
    have b20 := b13.trans (Same.but (p := p) s13f)
    have P20 := pot_same P13 s13f
    refine ⟨_, rfl, _, rfl, p, m4, 6, _, NS, RS, rfl, P20, nS4p, by decide, dM13.keep s13f, R2.d0, by omega, fun H21 lw ws b21 P21 nlw hlw wl wi => ?_⟩
    have th21 : ThAt K Ct Sy H21 y NS RS := (th13.same s13f).fr (Cr.Fr.but b21) (fun b hb z => nSyp (z ▸ hb)) nyp
    have dM21 : Dt K (fun b => S4 b ∧ ∃ o, H4 b = some o) H21 (.ref m4) (modelD NS RS) := (dM13.keep s13f).fr (Cr.Fr.but b21) fun b hb z => nS4p (z ▸ hb)
    have hy21 := b21 _ _ nyp (s13f _ _ hy13)
    have b21 := b20.trans b21
    have wn : ∀ z ∈ ws, z ∈ ns := fun z hz => uin z (hin z (wi z hz))
    -- both runs
    refine ⟨_, rfl, x, dx, _, rfl, hxf b21, rfl, _, rfl, _, rfl, x, _, ns, rs, n, lw, ws, rfl, Tf b21, .inl hlw, ⟨by omega, by omega, by omega⟩, R.nd, R.tb, hn, wn, fun H22 r1 t1 s22 nr1 nt1 ne1 hr1 ht1 => ?_⟩
    refine ⟨_, rfl, y, dy, _, rfl, s22 _ _ hy21, rfl, _, rfl, y, Sy, NS, RS, 0, lw, ws, rfl, th21.same s22, .inl (s22 _ _ hlw), ⟨by omega, by omega, by omega⟩, R2.nd, R2.tb, N0, wi, fun H23 r2 t2 s23 nr2 nt2 ne2 hr2 ht2 => ⟨_, _, rfl, ?_⟩⟩
    obtain ⟨ea, eb⟩ := hrun ws wi [] 0 n hhead
    rw [show ws.foldl (runS NS RS) ([], 0) = runR NS RS 0 ws from rfl, show ws.foldl (runS ns rs) ([], n) = runR ns rs n ws from rfl] at ea eb
    have s2223 := s22.trans s23
    have b23 := b21.trans (Same.but (p := p) s2223)
    have P23 := pot_same P21 s2223
    obtain ⟨lm5, tm5, ys5, _, _, _, hm5', hl5, _, _⟩ := md_op (dM21.keep s2223)
    -- the states met, once more
    refine ⟨_, rfl, _, rfl, _, rfl, m4, _, rfl, md_deeds hm5', lm5, rfl, ⟨_, SqL.of hl5⟩, fun D2 nD2 => ?_⟩
    refine lc_rel (f := fun (z : Str) => V.str z) (ns := NS) (σ := [some (.ref p), some (.ref m), some (.ref x), some (.int (n : Nat)), some (.ref A), some (.ref m4), some (.ref hh), some (.ref y), none, some (.ref lw), some (.ref t1), some (.ref t2), none, none]) (vs := [13]) (i1 := 13)
      (fun _ v z => v = V.int (ns.idxOf z : Nat)) (walk_list (K := K) (a := lm5) (xs := NS.map fun (z : Str) => V.str z)) (fun H' s' => SqL.of (s' _ _ hl5)) (by omega) nD2 (fun _ => rfl) (fun _ _ _ _ r _ => r) (fun z H24 Qw hz s24 _ kw => ?_) (fun H24 acc s24 hD2 hacc => ?_)
    · have hlz := hlf (b23.trans (Same.but (p := p) s24))
      have hzn := uin z (hin z hz)
      refine ⟨_, rfl, m, _, rfl, md_deeds (hmf (b23.trans (Same.but (p := p) s24))), .inl ⟨rfl, _, SqL.of hlz⟩, _, rfl, lm, _, _, ns.idxOf z, .str z, rfl, rfl, SqL.of hlz, rfl, flat_names ns, by rw [List.getElem?_map, idx_str hzn]; rfl, by show (z == z) = true; simp, fun k z' hk hz' => ?_, kw _ _ (Same.refl _) rfl⟩
      obtain ⟨z2, hz2, rfl⟩ := map_str_at hz'
      show (z2 == z) = false
      refine beq_eq_false_iff_ne.mpr fun e => ?_
      subst e
      have := nd_at R.nd hz2
      omega
    · have eacc : acc = zs (plc ns us) := by
        rw [pr_eq hacc, ← hidx]
        unfold zs
        rw [List.map_map]
        rfl
      subst eacc
      have s224 := s2223.trans s24
      have b24 := b21.trans (Same.but (p := p) s224)
      refine ⟨m, n, D2, _, ns, rs, plc ns us, rfl, Mf b24, R, PL, hD2, fun H25 Lm s25 nLm hLm => ?_⟩
      have s23e := s24.trans s25
      have ht1e := s23e _ _ (s23 _ _ ht1)
      have ht2e := s23e _ _ ht2
      have b25 := b24.trans (Same.but (p := p) s25)
      refine ⟨_, rfl, t1, _, ((0 : Nat) : Int), _, rfl, rfl, .inl (.inl ht1e), at_i (show [V.ref r1, V.int ((runR ns rs n ws).2 : Nat)][0]? = some (V.ref r1) from rfl), _, rfl, t2, _, ((0 : Nat) : Int), _, rfl, rfl, .inl (.inl ht2e), at_i (show [V.ref r2, V.int ((runR NS RS 0 ws).2 : Nat)][0]? = some (V.ref r2) from rfl), ?_⟩
      refine ⟨intsD (runR ns rs n ws).1, intsD (runR NS RS 0 ws).1, .lst (SqL.of (s23e _ _ (s23 _ _ hr1))) (dp_ints _), .lst (SqL.of (s23e _ _ hr2)) (dp_ints _), shaped_ints _, shaped_ints _, ?_⟩
      rw [eqv_ints, ea, decide_eq_true rfl]
      refine ⟨true, rfl, ite2 (fun _ => ?_) (fun z => absurd rfl z)⟩
      refine ⟨_, rfl, _, rfl, t2, _, ((1 : Nat) : Int), _, rfl, rfl, .inl (.inl ht2e), at_i (show [V.ref r2, V.int ((runR NS RS 0 ws).2 : Nat)][1]? = some (V.int ((runR NS RS 0 ws).2 : Nat)) from rfl), Lm, _, _, V.int ((runR ns rs n ws).2 : Nat), rfl, rfl, SqL.of hLm, at_i (zs_at eb), _, rfl, t1, _, ((1 : Nat) : Int), _, rfl, rfl, .inl (.inl ht1e), at_i (show [V.ref r1, V.int ((runR ns rs n ws).2 : Nat)][1]? = some (V.int ((runR ns rs n ws).2 : Nat)) from rfl), rfl, ?_⟩
      rw [decide_eq_true rfl]
      exact q _ b25 (pot_same P23 s23e)
end
end K14

namespace K14
open PySem PySem.Spec PyProof.Rows L2 Xv Cr TL
abbrev s_right : Stmt := top 55
abbrev N_right : List Str := ["_law_pot_here", "_law_model_here", "_law_made", "_law_everything", "_law_kept", "_law_turn", "_law_state_now", "_law_due", "_law_told"]
theorem sc_right : FnScope N_right ["_law_pot_here"] (defScope s_right) := ⟨rfl, rfl, rfl, by decide +kernel, rfl, by decide +kernel, by decide +kernel⟩
def spRight : Sp := fun vs H Q _ => ∃ (p : Addr), vs = [.ref p] ∧ Pot H p ∧ ∀ H', But p H H' → Q (.bl true) H'
theorem dr_ints {K : PySem.W.Frag} {H : Hp} : ∀ (a : List Int), DrAll K H (a.map V.int) (a.map PyData.int)
  | [] => .nil
  | x :: r => .cons (.int x) (dr_ints r)
theorem sm_ints {g : List Int} (h : ∀ i ∈ g, i.natAbs < 10 ^ 9) (hl : g.length ≤ 8) : Sm (intsD g) 1 300 := by
  have := sm_list (sma_map (f := PyData.int) (dp := 0) (a := 31) (l := g) fun x hx => sm_int (h x hx))
  exact this.mono (Nat.le_refl _) (by omega)
section
variable {P : Program} {w : World} {K : PySem.W.Frag} {mg : Str → Option Value} {base : Heap} {Ct f : Addr} {fd : FuncData}
theorem ok_right (F : Fun K "_law_right" "_law_right" s_right f fd) (T : Bl mg) (Ts : mg "sorted" = none) (TC : ThC K Ct) (Z : ThF K Ct) (c_model : Cl P w K mg base 4 "_law_model" (spModel K)) (c_thing : Cl P w K mg base 9 "_law_thing" (spLThing K Ct)) (c_lmet : Cl P w K mg base 1 "_law_met" (spLMet K)) (c_pr : ClG P w K mg base 11 "_law_parts_right" (spPR K Ct)) (c_eq : OwnM P w K mg base Ct 1 "__eq__" ["self", "other"] (spTEq K Ct)) (c_len : OwnM P w K mg base Ct 1 "__len__" ["self"] (spTLen K Ct)) (c_repr : ReprM P w K mg base Ct) (m_part : Met2 P w K mg base 10 Ct "part" "state" "deeds" (spTPart K Ct)) (m_rea : Met1 P w K mg base 5 Ct "reached" "state" (spTReach K Ct)) : FnG P w K mg base 12 f fd ["_law_pot_here"] spRight := by
  refine Xv.Fun.okG F sc_right (fun vs H Q E h => ?_) (fun cdv A outer s H vs Q hr hgd h => ?_)
  · obtain ⟨p, rfl, _⟩ := h
    rfl
  · obtain ⟨p, rfl, hP, q⟩ := h
    refine ⟨_, (pss_cons (ps_set (i := 1) sc_right.nd rfl (Or.inl rfl) (pe_cl c_model hr (by decide) (by rfl) (pa_cons (pv 0) (pa_cons pe_int (pa_cons pe_int pa_nil)))))
  (pss_cons (ps_par (i := 2) (j := 3) rfl sc_right.nd rfl rfl (by decide) rfl rfl (pa_cons (pe_cl c_thing hr (by decide) (by rfl) (pa_cons (pv 1) pa_nil)) (pa_cons (pe_listRg rfl (by rfl) T.list (prg_1 (by rfl) T.range (pe_callB (id := "len") (call_ln) (by rfl) T.len (by decide +kernel) (pa_cons (pe_dget (hu_of hr) (pv 1) pe_str (fun _ _ => rfl)) pa_nil)))) pa_nil)) (by rfl))
  (pss_cons (ps_set (i := 4) sc_right.nd rfl (Or.inl rfl) (pe_callB (id := "repr") (call_reprM c_repr hr (by decide) hgd) (by rfl) T.repr (by decide +kernel) (pa_cons (pv 2) pa_nil)))
  (pss_cons (ps_for PassesOwn.never rfl (pi_range1 rfl T.range (pa_cons pe_int pa_nil)) (pg_name (i := 5) sc_right.nd rfl (Or.inl rfl)) (pss_one (ps_for PassesOwn.never rfl (pi_range1 rfl T.range (pa_cons (pe_callB (id := "len") (call_ln) (by rfl) T.len (by decide +kernel) (pa_cons (pe_dget (hu_of hr) (pv 1) pe_str (fun _ _ => rfl)) pa_nil)) pa_nil)) (pg_name (i := 6) sc_right.nd rfl (Or.inl rfl)) (pss_cons (ps_set (i := 7) sc_right.nd rfl (Or.inl rfl) (pe_callB (id := "sorted") cr_sorted (by rfl) Ts (by decide +kernel) (pa_cons (pe_cl c_lmet hr (by decide) (by rfl) (pa_cons (pv 1) (pa_cons (pv 6) (pa_cons (pv 3) pa_nil)))) pa_nil)))
  (pss_cons (ps_set (i := 8) sc_right.nd rfl (Or.inl rfl) (C8.pe_mt m_rea.met hr (by decide) (pv 2) (pa_cons (pv 6) pa_nil)))
  (pss_cons (ps_if (pt_cmpR op_ne (pe_callB (id := "repr") (call_repr hgd hr.units) (by rfl) T.repr (by decide +kernel) (pa_cons (pv 8) pa_nil)) (pe_callB (id := "repr") (call_repr hgd hr.units) (by rfl) T.repr (by decide +kernel) (pa_cons (pv 7) pa_nil)) (nomark _)) (pss_one (ps_ret pe_bl)) pss_nil)
  (pss_cons (ps_expr (pe_bm PySem.F.plainAttrs_list PySem.F.slot_list_append PySem.F.type_list_append mt_append (pv 8) (pa_cons pe_int pa_nil)))
  (pss_cons (ps_expr (pe_bm PySem.F.plainAttrs_list PySem.F.slot_list_pop PySem.F.type_list_pop mt_popAt (pv 8) (pa_cons pe_int pa_nil)))
  (pss_cons (ps_if (PW.pt (pw_or (pt_cmpR (op_neD hr.units) (pe_met1K m_rea hr (by decide) (pv 2) (pk_cons (pv 6) pk_nil)) (pv 7) (nomark _)) (pw_or1 (pt_not (pt_val (pe_clG c_pr hr (by decide) hgd (by rfl) (pa_cons (pv 0) (pa_cons (pv 1) (pa_cons (pv 2) (pa_cons (pv 6) pa_nil)))))))))) (pss_one (ps_ret pe_bl)) pss_nil)
  (pss_one (ps_if (pt_cmpR op_ne (pe_callB (id := "len") (call_lenM c_len hr (by decide)) (by rfl) T.len (by decide +kernel) (pa_cons (C8.pe_mt m_part.met hr (by decide) (pv 2) (pa_cons (pv 6) (pa_cons (pe_dget (hu_of hr) (pv 1) pe_str (fun _ _ => rfl)) pa_nil))) pa_nil)) (pe_callB (id := "len") (call_ln) (by rfl) T.len (by decide +kernel) (pa_cons (pv 7) pa_nil)) (nomark _)) (pss_one (ps_ret pe_bl)) pss_nil)))))))))))
  (pss_one (ps_ret (pe_and (pe_cmpR op_eq (pe_callB (id := "repr") (call_reprM c_repr hr (by decide) hgd) (by rfl) T.repr (by decide +kernel) (pa_cons (pv 2) pa_nil)) (pv 4) (nomark _)) (pe_one (pe_cmpR (op_eqM c_eq hr (by decide)) (pv 2) (pe_cl c_thing hr (by decide) (by rfl) (pa_cons (pv 1) pa_nil)) (nomark _)))))))))), ?_⟩
    refine ⟨_, rfl, p, 8, 4, rfl, hP, by decide, by decide, by decide, by decide, fun H1 m ns rs size many S0 b1 P1 nS0 dM sz mz nl nd nm tb => ?_⟩
    have R : Right ns rs := by
      have t1 := tb.1
      refine ⟨by omega, by omega, nd, nm, by omega, by omega, ?_⟩
      rw [t1, nl]
      exact tb
    have nS0p : ¬ S0 p := fun z => by
      obtain ⟨_, _, e, _⟩ := hP
      rw [(nS0 p z).1] at e
      cases e
    clear sz mz nl nd nm tb
    have r0 := R.r0
    have r8 := R.r8
    have d4 := R.d4
    have d0 := R.d0
    refine ⟨_, rfl, m, S0, ns, rs, rfl, dM, R, fun H2 x S s2 nx nS th => ?_⟩
    obtain ⟨lm, tm, ysm, _, _, _, hm2, hl2, htm2, hpm2⟩ := md_op (dM.keep s2)
    refine ⟨_, rfl, m, _, rfl, md_deeds hm2, lm, _, rfl, .inl (SqL.of hl2), _, rfl, RgOk.of_le (by omega) (by rw [List.length_map]; omega) (by omega) (by rw [List.length_map]; omega), fun L1 n1 => ?_⟩
    rw [List.length_map, rgV_nat]
    have s3 : Same H2 (upd H2 L1 (.lst (zs (List.range ns.length)))) := same_upd n1
    have e1 : upd H2 L1 (.lst (zs (List.range ns.length))) L1 = some (.lst (zs (List.range ns.length))) := upd_same
    have P2 := pot_same P1 s2
    have L1p := pot_off P2 n1
    generalize upd H2 L1 (.lst (zs (List.range ns.length))) = H3 at s3 e1 ⊢
    have b3 : But p H H3 := (b1.trans (Same.but (p := p) s2)).trans (Same.but s3)
    have P3 := pot_same P2 s3
    have nSp : ¬ S p := fun z => by
      obtain ⟨_, _, e, _⟩ := P1
      rw [nS p z] at e
      cases e
    have nxp : x ≠ p := pot_off P1 nx
    have T0 := (th.same s3).real
    have M0 := dt_real ((dM.keep s2).keep s3)
    obtain ⟨dx, l0, m0, ys0, hx0, _⟩ := T0.op
    have hm3 := s3 _ _ hm2
    have hl3 := s3 _ _ hl2
    have htm3 := s3 _ _ htm2
    have nmp : m ≠ p := fun z => by
      obtain ⟨_, _, e, _⟩ := P3
      rw [← z, hm3] at e
      cases e
    have nlp : lm ≠ p := pot_strs P3 hl3
    have Tf : ∀ {G : Hp}, But p H3 G → ThAt K Ct (fun b => S b ∧ ∃ o, H3 b = some o) G x ns rs := fun b => T0.fr (Cr.Fr.but b) (fun b hb z => nSp (z ▸ hb.1)) nxp
    have Mf : ∀ {G : Hp}, But p H3 G → Dt K (fun b => S0 b ∧ ∃ o, H3 b = some o) G (.ref m) (modelD ns rs) := fun b => M0.fr (Cr.Fr.but b) fun b hb z => nS0p (z ▸ hb.1)
    have hxf : ∀ {G : Hp}, But p H3 G → G x = some (.ins Ct dx (fsT l0 m0)) := fun b => b _ _ nxp hx0
    have hmf : ∀ {G : Hp}, But p H3 G → G m = some (.dK [(.inr "deeds", .ref lm), (.inr "rows", .ref tm)]) := fun b => b _ _ nmp hm3
    have hlf : ∀ {G : Hp}, But p H3 G → G lm = some (.lst (ns.map V.str)) := fun b => b _ _ nlp hl3
    have hLf : ∀ {G : Hp}, But p H3 G → G L1 = some (.lst (zs (List.range ns.length))) := fun b => b _ _ L1p e1
    have ntp : tm ≠ p := fun z => by
      rw [z] at htm3
      obtain ⟨a, b, e, _⟩ := P3
      rw [htm3] at e
      obtain ⟨v, hv, c, es, rfl, _⟩ := paired_at hpm2 (show rs[0]? = some rs[0] from List.getElem?_eq_getElem r0)
      rw [HO.lst.inj (Option.some.inj e)] at hv
      cases hv
    have htf : ∀ {G : Hp}, But p H3 G → G tm = some (.lst ysm) := fun b => b _ _ ntp htm3
    have yl : ysm.length = rs.length := Paired.length hpm2
    refine ⟨_, _, rfl, ?_⟩
    refine ⟨_, rfl, x, dx, _, rfl, hx0, x, _, ns, rs, rfl, T0, R, _, rfl, ?_⟩
    clear hm2 hl2 htm2 hpm2 s3 n1 nx nS th s2 nS0 dM P1 P2 b1
    refine ⟨2, rfl, by decide, by decide, for_range (n := 2) (fun i σ G => ∃ u5 u6 u7 u8, σ = [some (.ref p), some (.ref m), some (.ref x), some (.ref L1), some (.str (thT ns rs)), u5, u6, u7, u8] ∧ But p H3 G ∧ Pot G p) ⟨_, _, _, _, rfl, But.refl _ _, P3⟩ (fun i σ G hi e => ?_) (fun σ G e => ?_)⟩
    · obtain ⟨u5, u6, u7, u8, rfl, bG, PG⟩ := e
      refine ⟨_, rfl, m, _, rfl, md_rows (hmf bG), tm, _, rfl, .inl (SqL.of (htf bG)), (rs.length : Nat), by rw [yl], by omega, by omega, ?_⟩
      refine for_range (n := rs.length) (fun i σ G => ∃ u5 u6 u7 u8, σ = [some (.ref p), some (.ref m), some (.ref x), some (.ref L1), some (.str (thT ns rs)), u5, u6, u7, u8] ∧ But p H3 G ∧ Pot G p) ⟨_, _, _, _, rfl, bG, PG⟩ (fun n σ G0 hn e => ?_) (fun σ G e => e)
      obtain ⟨u5, u6, u7, u8, rfl, b0, P0⟩ := e
      rw [Int.zero_add]
      have PLr : Pls ns rs (List.range ns.length) n := ⟨fun p hp => List.mem_range.mp hp, hn⟩
      have fd1 := met_fd R PLr
      have fl := fd1.len
      have psf : plc ns ns = List.range ns.length := plc_self
      have subl : (subR rs (List.range ns.length) (met rs (List.range ns.length) n)).length = (met rs (List.range ns.length) n).length := subR_len
      have SubR : Sub ns rs (plc ns ns) n := sub_of R hn d0 fun z h => h
      have R2 := sub_right SubR
      rw [psf] at R2
      refine ⟨_, rfl, _, rfl, _, rfl, m, n, L1, _, ns, rs, List.range ns.length, rfl, Mf b0, R, PLr, hLf b0, fun G1 La s1 nLa hLa => ?_⟩
      generalize hmt : met rs (List.range ns.length) n = mt at *
      rw [zs_intz] at hLa
      have il : (intz mt).length = mt.length := by unfold intz; rw [List.length_map]
      refine ⟨La, _, rfl, SqL.of hLa, by omega, fun g1 Ld pm1 pw1 nLd => ?_⟩
      have gl : g1.length = mt.length := by rw [pm1.length_eq]; exact il
      have gs : ∀ i ∈ g1, i.natAbs < 10 ^ 9 := fun i hi => by
        obtain ⟨a, ha, rfl⟩ := List.mem_map.mp (pm1.mem_iff.mp hi)
        have := fd1.lt a ha
        omega
      have s2 : Same G1 (upd G1 Ld (.lst (g1.map V.int))) := same_upd nLd
      have eLd : upd G1 Ld (.lst (g1.map V.int)) Ld = some (.lst (g1.map V.int)) := upd_same
      generalize upd G1 Ld (.lst (g1.map V.int)) = G2 at s2 eLd ⊢
      have b2 := (b0.trans (Same.but (p := p) s1)).trans (Same.but s2)
      have P2 := pot_same (pot_same P0 s1) s2
      have Ldp : Ld ≠ p := pot_off (pot_same P0 s1) nLd
      refine ⟨_, rfl, x, dx, _, rfl, hxf b2, rfl, _, rfl, x, _, ns, rs, n, rfl, Tf b2, R, hn, fun G3 Lt g2 s3 nLt hLt pm2 pw2 => ?_⟩
      rw [hmt] at pm2
      obtain rfl : g2 = g1 := sorted_eq (pm2.trans pm1.symm) pw2 pw1
      have eLd3 := s3 _ _ eLd
      have b3 := b2.trans (Same.but (p := p) s3)
      have P3' := pot_same P2 s3
      refine ⟨_, rfl, ?_⟩
      refine repr_at (d := intsD g2) (.lst (SqL.of hLt) (dr_ints g2)) (sm_ints gs (by omega)) (by decide) (by decide) ?_
      refine ⟨_, rfl, ?_⟩
      refine repr_at (d := intsD g2) (.lst (SqL.of eLd3) (dr_ints g2)) (sm_ints gs (by omega)) (by decide) (by decide) ?_
      refine ne_str ⟨_, rfl, ite2 (fun z => nomatch z) (fun _ => ?_)⟩
      -- what was told is changed
      have ndt : Ld ≠ Lt := ne_of_none eLd nLt
      have nLtH : H3 Lt = none := but_free b2 (pot_off P2 nLt) nLt
      have Ltp : Lt ≠ p := pot_off P2 nLt
      refine ⟨_, rfl, .inl ⟨rfl, _, SqL.of hLt⟩, Lt, _, _, rfl, rfl, hLt, by rw [List.length_map, sizeLine_eq]; omega, ?_⟩
      have e4 : upd G3 Lt (.lst (g2.map V.int ++ [V.int 9])) Lt = some (.lst (g2.map V.int ++ [V.int 9])) := upd_same
      have l4 : 0 < (g2.map V.int ++ [V.int 9]).length := by rw [List.length_append]; show 0 < _ + 1; omega
      refine ⟨_, rfl, .inl ⟨rfl, _, SqL.of e4⟩, Lt, _, 0, 0, _, rfl, rfl, e4, by decide, by decide, (ixN_seq (j := 0) (by unfold ixN; rw [if_pos (by omega), if_pos (by omega)]; rfl)).1, List.getElem?_eq_getElem l4, ?_⟩
      have b5 : But p H3 (upd (upd G3 Lt (.lst (g2.map V.int ++ [V.int 9]))) Lt (.lst ((g2.map V.int ++ [V.int 9]).eraseIdx 0))) := but_new (but_new b3 nLtH) nLtH
      have P5 : Pot (upd (upd G3 Lt (.lst (g2.map V.int ++ [V.int 9]))) Lt (.lst ((g2.map V.int ++ [V.int 9]).eraseIdx 0))) p := pot_upd (pot_upd P3' Ltp.symm) Ltp.symm
      have eLd5 : upd (upd G3 Lt (.lst (g2.map V.int ++ [V.int 9]))) Lt (.lst ((g2.map V.int ++ [V.int 9]).eraseIdx 0)) Ld = some (.lst (g2.map V.int)) := by rw [upd_ne ndt, upd_ne ndt]; exact eLd3
      generalize upd (upd G3 Lt (.lst (g2.map V.int ++ [V.int 9]))) Lt (.lst ((g2.map V.int ++ [V.int 9]).eraseIdx 0)) = G5 at b5 P5 eLd5 ⊢
      refine ⟨_, rfl, x, dx, _, rfl, hxf b5, rfl, _, rfl, rfl, x, _, ns, rs, n, rfl, Tf b5, R, hn, fun G6 L6 g3 s6 nL6 hL6 pm3 pw3 => ?_⟩
      rw [hmt] at pm3
      obtain rfl : g3 = g2 := sorted_eq (pm3.trans pm1.symm) pw3 pw1
      have eLd6 := s6 _ _ eLd5
      have b6 := b5.trans (Same.but (p := p) s6)
      have P6 := pot_same P5 s6
      refine ⟨_, rfl, intsD g3, intsD g3, .lst (SqL.of hL6) (dp_ints g3), .lst (SqL.of eLd6) (dp_ints g3), shaped_ints _, shaped_ints _, ?_⟩
      rw [eqv_ints, decide_eq_true rfl]
      refine ⟨false, rfl, ite2 (fun z => nomatch z) (fun _ => ?_)⟩
      refine ⟨_, rfl, _, rfl, _, rfl, _, rfl, p, m, x, n, _, _, ns, rs, rfl, P6, fun z => nSp z.1, fun z => nS0p z.1, Tf b6, Mf b6, R, hn, fun G7 b7 P7 => ⟨true, rfl, ite2 (fun z => nomatch z) (fun _ => ?_)⟩⟩
      have eLd7 := b7 _ _ Ldp eLd6
      have b7' := b6.trans b7
      refine ⟨_, rfl, x, dx, _, rfl, hxf b7', rfl, _, rfl, _, rfl, m, _, rfl, md_deeds (hmf b7'), x, _, ns, rs, n, lm, ns, rfl, Tf b7', R, hn, .inl (hlf b7'), d0, by omega, R.nd, fun z h => h, fun G8 y Sy s8 ny nSy th8 => ?_⟩
      rw [psf, hmt] at th8
      obtain ⟨dy, ly, my, yy, hy8, _⟩ := th8.op
      have eLd8 := s8 _ _ eLd7
      refine ⟨y, dy, _, rfl, hy8, ⟨y, Sy, _, _, rfl, th8, ((subR rs (List.range ns.length) mt).length : Int), rfl, by omega, by omega, ?_⟩⟩
      refine ⟨_, rfl, Ld, _, rfl, .inl (SqL.of eLd8), rfl, ?_⟩
      rw [show decide (V.int ((subR rs (List.range ns.length) mt).length : Nat) = V.int ((g3.map V.int).length : Nat)) = true from decide_eq_true (by rw [List.length_map, gl, subl])]
      refine ⟨false, rfl, ite2 (fun z => nomatch z) (fun _ => ?_)⟩
      exact ⟨_, _, _, _, rfl, b7'.trans (Same.but s8), pot_same P7 s8⟩
    · obtain ⟨u5, u6, u7, u8, rfl, bG, PG⟩ := e
      refine ⟨_, rfl, x, dx, _, rfl, hxf bG, x, _, ns, rs, rfl, Tf bG, R, _, rfl, _, rfl, rfl, ?_⟩
      rw [decide_eq_true rfl]
      refine ⟨true, rfl, ite2 (fun _ => ?_) (fun z => absurd rfl z)⟩
      refine ⟨_, rfl, _, rfl, m, _, ns, rs, rfl, Mf bG, R, fun G9 z Sz s9 nz nSz thz => ?_⟩
      have b9 := bG.trans (Same.but (p := p) s9)
      refine eq_things Z (neg := false) (Tf b9) thz R.nm R.nm ?_
      rw [decide_eq_true rfl, decide_eq_true rfl]
      exact q _ (b3.trans b9)
end
end K14

namespace K14
open PySem PySem.Spec PyProof.Rows L2 Xv Cr TL
abbrev s_law : Stmt := top 56
abbrev N_law : List Str := ["_law_script", "_law_k"]
theorem sc_law : FnScope N_law ["_law_script"] (defScope s_law) := ⟨rfl, rfl, rfl, by decide +kernel, rfl, by decide +kernel, by decide +kernel⟩
def spLaw (K : PySem.W.Frag) : Sp := fun vs H Q _ => ∃ (a : Addr) (ns : List Int), vs = [.ref a] ∧ SqL K H a (ns.map V.int) ∧ ns.length ≤ 63 ∧ ∀ H', Q (.bl true) H'
section
variable {P : Program} {w : World} {K : PySem.W.Frag} {mg : Str → Option Value} {base : Heap} {f : Addr} {fd : FuncData}
theorem ok_law (F : Fun K "law" "law" s_law f fd) (T : Bl mg) (c_pot : Cl P w K mg base 1 "_law_pot" (spPot K)) (c_right : ClG P w K mg base 12 "_law_right" spRight) : FnG P w K mg base 13 f fd ["_law_script"] (spLaw K) := by
  refine Xv.Fun.okG F sc_law (fun vs H Q E h => ?_) (fun cdv A outer s H vs Q hr hgd h => ?_)
  · obtain ⟨a, ns, rfl, _⟩ := h
    rfl
  · obtain ⟨a, ns, rfl, hS, hlen, q⟩ := h
    refine ⟨_, (pss_one (ps_ret (pe_callB (id := "all") (cr_all rfl) (by rfl) T.all (by decide +kernel) (pa_cons (pe_lc (own := [("_law_k", 1)]) (g := gName 1) (tt := tYes) (te := tCall spRight [] E0 (tCons (tCall (spPot K) [] E0 (tCons (tVar 0) (tCons (tVar 1) tNil))) tNil)) rfl sc_law.nd (pi_range1 rfl T.range (pa_cons (pe_callB (id := "max") (call_max2 rfl) (by rfl) T.max (by decide +kernel) (pa_cons pe_int (pa_cons (pe_callB (id := "min") (call_m2 rfl) (by rfl) T.min (by decide +kernel) (pa_cons (pe_callB (id := "len") (call_ln) (by rfl) T.len (by decide +kernel) (pa_cons (pv 0) pa_nil)) (pa_cons pe_int pa_nil))) pa_nil))) pa_nil)) (blkOk_by (N := N_law) (sc := defScope s_law) (by decide +kernel)) (fun _ _ _ _ _ => (pg_name (i := 1) sc_law.nd rfl (Or.inl rfl))) (fun _ _ _ _ _ => pts_nil) (fun _ _ _ _ _ => (pe_clG c_right hr (by decide) hgd (by rfl) (pa_cons (pe_cl c_pot hr (by decide) (by rfl) (pa_cons (pv 0) (pa_cons (pv 1) pa_nil))) pa_nil)))) pa_nil)))), ?_⟩
    have hm : ∀ z : Int, z = (if (if (4 : Int) < ((ns.map V.int).length : Nat) then (4 : Int) else ((ns.map V.int).length : Nat)) > 1 then (if (4 : Int) < ((ns.map V.int).length : Nat) then (4 : Int) else ((ns.map V.int).length : Nat)) else 1) → 1 ≤ z ∧ z ≤ 4 := fun z e => by
      subst e
      split <;> split at * <;> omega
    refine ⟨_, rfl, a, _, rfl, .inl hS, _, _, rfl, _, _, rfl, _, rfl, ?_⟩
    obtain ⟨m1, m4⟩ := hm _ rfl
    generalize (if (if (4 : Int) < ((ns.map V.int).length : Nat) then (4 : Int) else ((ns.map V.int).length : Nat)) > 1 then (if (4 : Int) < ((ns.map V.int).length : Nat) then (4 : Int) else ((ns.map V.int).length : Nat)) else 1) = m at *
    refine ⟨by omega, by omega, fun D hD => ?_⟩
    refine lc_range (lo := 0) (n := m.toNat) (fun k H' => H' D = some (.lst (List.replicate k (V.bl true))) ∧ Same H H') ⟨upd_same, same_upd hD⟩ (fun k H1 hk p => ?_) (fun H1 p => ?_)
    · obtain ⟨h1, h2⟩ := p
      refine ⟨Cr.wipe_back, ?_⟩
      unfold tYes
      dsimp only
      rw [if_pos rfl]
      refine ⟨_, rfl, _, rfl, a, ns, k, ?_, h2.seq hS, by omega, fun H2 p s n hp => ?_⟩
      · show [V.ref a, V.int (0 + (k : Int))] ++ [] = _
        rw [Int.zero_add, List.append_nil]
      have npD : D ≠ p := ne_of_none h1 n
      refine ⟨p, rfl, hp, fun H3 b3 => ?_⟩
      refine ⟨_, b3 _ _ npD (s _ _ h1), by rw [List.length_replicate, sizeLine_eq]; omega, by rw [upd_same, ← List.replicate_succ'], fun b o e => ?_⟩
      rw [upd_ne (ne_of_none e hD)]
      have n0 : H p = none := h2.free n
      exact b3 _ _ (ne_of_none e n0) (s _ _ (h2 _ _ e))
    · obtain ⟨h1, h2⟩ := p
      refine ⟨D, List.replicate m.toNat true, rfl, SqL.of (by rw [h1, List.map_replicate]), ?_⟩
      have e : (List.replicate m.toNat true).all id = true := by
        rw [List.all_eq_true]
        intro x hx
        rw [List.eq_of_mem_replicate hx]
        rfl
      rw [e]
      exact q _
end
end K14

/-! own exception classes with one field, out of what the module's heap says -/
namespace Cr
open PySem PySem.Spec PyProof.Rows L2 Xv
def bmb (b : String) : List Value := [.type b, .type "Exception", .type "BaseException", .type "object"]
theorem basV : Bas "ValueError" "ValueError.__new__" "ValueError.__init__" (bmb "ValueError") := ⟨F.excBase_ValueError, F.store_ValueError⟩
section
variable {P : Program} {w : World} {K : PySem.W.Frag} {mg : Str → Option Value} {base : Heap} {x f qual : Str} {C fI : Addr} {fd : FuncData} {st : Stmt} {B newId initId : String} {bmB : List Value}
theorem ex1_mk (b : Bas B newId initId bmB) (T : ExT K C fI newId bmB) (hno : PySem.W.takerIn K C f = some none) (F : Fun K "__init__" qual st fI fd) (gm : mg x = some (.ref C)) (sc : FnScope ["self", f] ["self", f] (defScope st)) {p1 p2 p3 p4 : Pos}
    (hb : defBody st = [.Assign [.Attribute (.Name "self" p1) f p2] (.Name f p3) p4]) (vS : (defScope st).names.lookup ("self" : Str) = some .local) (vF : (defScope st).names.lookup f = some .local) (hd : (f == ("__debug__" : Str)) = false) (hcd : (f == ("__classdict__" : Str)) = false)
    (bB : ∀ (kV doc pm : Value) (an : Option Addr) (cdv ct u v : Value), bindArgs (PySem.W.fnOf "__init__" qual (defArgs st) (defBody st) (defScope st) .none kV doc pm an cdv ct) ⟨[u, v], []⟩ = pure ((["self", f] : List Str).zip [u, v]))
    (bK : ∀ (kV doc pm : Value) (an : Option Addr) (cdv ct u v : Value), bindArgs (PySem.W.fnOf "__init__" qual (defArgs st) (defBody st) (defScope st) .none kV doc pm an cdv ct) ⟨[u], [(f, v)]⟩ = pure ((["self", f] : List Str).zip [u, v])) : Ex1 P w K mg base x C f := by
  refine ⟨⟨fI, fd, B, newId, initId, bmB, b, T, ok_one b T hno F sc hb vS vF hd hcd, F.binds fun kV doc pm an cdv ct us hl => match us, hl with | [u, v], _ => bB kV doc pm an cdv ct u v, ?_⟩, gm⟩
  obtain ⟨oc, od, kV, doc, pm, an, cdv, ct, osl, rfl, lk, hc⟩ := F.ex
  exact ⟨fun s us ws X l1 l2 => match us, l1, ws, l2 with | [u], _, [v], _ => .of_eq (bK kV doc pm an cdv ct u v), fun r1 r2 => Vals.append r1 r2⟩
/-- what is seen of such a class -/
def ecA (K : PySem.W.Frag) (C fI : Addr) (q : Str) : Bool × FnS × Bool := (PySem.W.keepIn K (.ref fI), fnS K fI, codeS K fI q)
def ecB (K : PySem.W.Frag) (C fI : Addr) : Bool × Bool × Bool × Bool × Bool := (PySem.W.excInitIn K C (bmb "ValueError") "ValueError.__new__", PySem.W.excOver K C (bmb "ValueError"), PySem.W.hasDictIn K C, PySem.W.isFn K (.ref fI), PySem.W.keepIn K (.ref C))
def ecC (K : PySem.W.Frag) (C fI : Addr) (f : Str) : Option (Option Value) × Bool × Option (Option Value) × Option (Option Value) × Option (Option Value) × Option (Option Value) :=
  (PySem.W.findIn K (.ref C) "__setattr__", He.eqO (PySem.W.findIn K (.ref C) "__init__") (some (some (.ref fI))), PySem.W.findIn K (.ref C) "__getattribute__", PySem.W.findIn K (.ref C) "__getattr__", PySem.W.findIn K (.ref C) f, PySem.W.takerIn K C f)
def ecD (K : PySem.W.Frag) (C : Addr) : Option Bool × Option Value × Option Bool := (PySem.W.subIn K (.ref C) (.type "BaseException"), PySem.W.typeIn K (.ref C), PySem.W.exmOne K (.ref C) (.ref C))
abbrev EcT : Type := (Bool × FnS × Bool) × (Bool × Bool × Bool × Bool × Bool) × (Option (Option Value) × Bool × Option (Option Value) × Option (Option Value) × Option (Option Value) × Option (Option Value)) × (Option Bool × Option Value × Option Bool)
def ecO (K : PySem.W.Frag) (C fI : Addr) (q f : Str) : EcT := (ecA K C fI q, ecB K C fI, ecC K C fI f, ecD K C)
def ecV (q : Str) (st : Stmt) : EcT := ((true, some ("__init__", q, defArgs st, .stmts (defBody st), defScope st, mainGlobals, [], .none, builtinsNs), true), (true, true, true, true, true), (some (some (.builtin "object.__setattr__")), true, some (some (.builtin "BaseException.__getattribute__")), some none, some none, some none), (some true, some (.type "type"), some true))
theorem ec_ok {q : Str} (e : ecO K C fI q f = ecV q st) : (∃ fd, Fun K "__init__" q st fI fd) ∧ ExT K C fI "ValueError.__new__" (bmb "ValueError") ∧ PySem.W.takerIn K C f = some none ∧ PySem.W.findIn K (.ref C) f = some none ∧ XfC K C ∧ PySem.W.subIn K (.ref C) (.type "BaseException") = some true ∧ PySem.W.typeIn K (.ref C) = some (.type "type") ∧ PySem.W.exmOne K (.ref C) (.ref C) = some true := by
  unfold ecO ecV ecA ecB ecC ecD at e
  simp only [Prod.mk.injEq] at e
  obtain ⟨⟨a1, a2, a3⟩, ⟨b1, b2, b3, b4, b5⟩, ⟨c1, c2, c3, c4, c5, c6⟩, d1, d2, d3⟩ := e
  exact ⟨fnS_ok a2 a3 a1, ⟨b1, b2, b3, c1, He.eqO_ok c2, b4, b5⟩, c6, c5, ⟨c3, c4, d1, b3⟩, d1, d2, d3⟩
theorem xcl_mk {q : Str} (e : ecO K C fI q f = ecV q st) (hx : Ex1 P w K mg base x C f) : XCl P w K mg base x C f := by
  obtain ⟨_, _, _, h1, h2, h3, h4, h5⟩ := ec_ok e
  exact ⟨hx, h3, h4, h2, h1, h5⟩
/-- a def that may raise, by its place -/
theorem clx_mk {sp : Sp} {ps : List Str} {k : Nat} (D : Dn K mg x st) (ok : ∀ f fd, Fun K x x st f fd → FnOk P w K mg base (L2.CX P w) k f fd ps sp)
    (hb : ∀ (kV doc pm : Value) (an : Option Addr) (cdv ct : Value) (us : List Value), us.length = ps.length → bindArgs (PySem.W.fnOf x x (defArgs st) (defBody st) (defScope st) .none kV doc pm an cdv ct) ⟨us, []⟩ = pure (ps.zip us)) : ClX P w K mg base k x sp := by
  obtain ⟨f, gm, fd, F⟩ := D
  exact ⟨f, fd, ps, ok f fd F, gm, F.kp, F.binds hb⟩
end
end Cr

namespace K14
open PySem PySem.Spec PyProof.Rows L2 Xv Cr TL
/-! ### the facts as tables -/
def lt (l : List String) (i : Nat) : Str := l.getD i ""
def bnl : List String := ["len", "abs", "max", "min", "int", "divmod", "repr", "isinstance", "enumerate", "range", "all", "list", "tuple", "set", "str", "bool", "ValueError", "sorted"]
def bn (i : Nat) : Str := lt bnl i
def dnl0 : List String := ["is_integer", "is_integer_from", "is_list", "is_filled_list", "is_name", "is_answer", "is_entry", "check_limit", "is_row", "check_rows", "made_thing", "entry_at", "is_state", "check_state", "check_deed", "check_word", "met_states", "called_by_place"]
def dnl1 : List String := ["_law_pot", "_law_draw", "_law_pick", "_law_mixed", "_law_names", "_law_table", "_law_model", "_law_thing", "_law_run", "_law_word", "_law_met", "_law_part", "_law_gone_right", "_law_parts_right", "_law_right", "law"]
def dnl : List String := dnl0 ++ dnl1
def dn (i : Nat) : Str := lt dnl i
def ds (i : Nat) : Stmt := top (([16, 17, 18, 19, 20, 21, 22, 26, 28, 29, 32, 33, 34, 35, 36, 37, 38, 39, 41, 42, 43, 44, 45, 46, 47, 48, 49, 50, 51, 52, 53, 54, 55, 56] : List Nat).getD i 0)
def mnl : List String := ["__init__", "rows", "run", "__call__", "reached", "part", "__repr__", "__eq__", "__len__", "__contains__"]
def mn (i : Nat) : Str := lt mnl i
def mq (i : Nat) : Str := "Thing." ++ mn i
def ms (i : Nat) : Stmt := inClass (top 31) (([0, 3, 5, 4, 6, 7, 15, 14, 12, 13] : List Nat).getD i 0)
def pnl : List String := ["deeds", "states"]
def pn (i : Nat) : Str := lt pnl i
def pq (i : Nat) : Str := "Thing." ++ pn i
def pps (i : Nat) : Stmt := inClass (top 31) (([1, 2] : List Nat).getD i 0)
def cnl : List String := ["LETTERS", "LONGEST_NAME", "GREATEST_ANSWER", "MOST_DEEDS", "MOST_STATES"]
def cn (i : Nat) : Str := lt cnl i
def cvl : Nat → Option (Int ⊕ Str)
  | 0 => some (.inr sgn)
  | 1 => some (.inl 8)
  | 2 => some (.inl 9)
  | 3 => some (.inl 4)
  | 4 => some (.inl 8)
  | _ => none
/-- a global's plain value -/
def cv (K : PySem.W.Frag) (x : Str) : Option (Int ⊕ Str) := match PySem.W.nsIn K mainGlobals x with
  | some (some (.int i _)) => some (.inl i)
  | some (some (.str z _)) => some (.inr z)
  | _ => none
theorem cv_int {K : PySem.W.Frag} {h : Heap} {mg : Str → Option Value} {x : Str} {i : Int} (X : K.In h) (G : h.Ns mainGlobals mg) (e : cv K x = some (.inl i)) : ∃ t, mg x = some (.int i t) := by
  unfold cv at e
  split at e
  · rename_i z
    cases e
    exact ⟨_, PySem.W.mg_of X G z⟩
  · cases e
  · cases e
theorem cv_str {K : PySem.W.Frag} {h : Heap} {mg : Str → Option Value} {x z : Str} (X : K.In h) (G : h.Ns mainGlobals mg) (e : cv K x = some (.inr z)) : ∃ t, mg x = some (.str z t) := by
  unfold cv at e
  split at e
  · cases e
  · rename_i z
    cases e
    exact ⟨_, PySem.W.mg_of X G z⟩
  · cases e
def CT (K : PySem.W.Frag) : Addr := He.ga K "Thing"
def ma (K : PySem.W.Frag) (i : Nat) : Addr := He.ma K (CT K) (mn i)
def pa (K : PySem.W.Frag) (i : Nat) : Addr := He.ma K (CT K) (pn i)
/-- a property's getter -/
def gt (K : PySem.W.Frag) (p : Addr) : Addr := match PySem.W.recIn K p "property" with
  | some (.ref g :: _) => g
  | _ => 0
def gtB (K : PySem.W.Frag) (p : Addr) : Bool := match PySem.W.recIn K p "property" with
  | some (.ref _ :: _) => true
  | _ => false
theorem gt_ok {K : PySem.W.Frag} {p : Addr} (h : gtB K p = true) : ∃ rest, PySem.W.recIn K p "property" = some (.ref (gt K p) :: rest) := by
  unfold gtB at h
  unfold gt
  split at h
  · rename_i g r e
    rw [e]
    exact ⟨_, rfl⟩
  · cases h
/-! own exception classes -/
def xn : Nat → Str
  | 0 => "InvalidDeed"
  | _ => "InvalidWord"
def xf : Nat → Str
  | 0 => "value"
  | _ => "position"
def xs : Nat → Stmt
  | 0 => inClass (top 6) 0
  | _ => inClass (top 7) 0
def xq (i : Nat) : Str := xn i ++ ".__init__"
def CX (K : PySem.W.Frag) (i : Nat) : Addr := He.ga K (xn i)
def FX (K : PySem.W.Frag) (i : Nat) : Addr := He.ma K (CX K i) "__init__"
def obsK (K : PySem.W.Frag) :=
  ((List.range 18).map (fun i => PySem.W.nsIn K mainGlobals (bn i)),
   (List.range 5).map (fun i => cv K (cn i)),
   (List.range 34).map (fun i => (He.eqO (PySem.W.nsIn K mainGlobals (dn i)) (some (some (.ref (He.ga K (dn i))))), PySem.W.keepIn K (.ref (He.ga K (dn i))), fnS K (He.ga K (dn i)), codeS K (He.ga K (dn i)) (dn i))),
   (He.eqO (PySem.W.nsIn K mainGlobals "check_deeds") (some (some (.ref (He.ga K "check_deeds")))), PySem.W.keepIn K (.ref (He.ga K "check_deeds")), fnSD K (He.ga K "check_deeds"), codeS K (He.ga K "check_deeds") "check_deeds", dflN K (He.ga K "check_deeds")),
   (List.range 10).map (fun i => (He.eqO (PySem.W.findIn K (.ref (CT K)) (mn i)) (some (some (.ref (ma K i)))), PySem.W.isFn K (.ref (ma K i)), PySem.W.keepIn K (.ref (ma K i)), PySem.W.fnIn K (ma K i), fnS K (ma K i), codeS K (ma K i) (mq i))),
   (List.range 2).map (fun i => (He.eqO (PySem.W.findIn K (.ref (CT K)) (pn i)) (some (some (.ref (pa K i)))), PySem.W.specialIn K (.ref (pa K i)) "__get__", PySem.W.takesIn K (.ref (pa K i)), gtB K (pa K i), PySem.W.keepIn K (.ref (gt K (pa K i))), fnS K (gt K (pa K i)), codeS K (gt K (pa K i)) (pq i))),
   (He.eqO (PySem.W.nsIn K mainGlobals "Thing") (some (some (.ref (CT K)))), PySem.W.plainGet K (CT K) Str.empty, PySem.W.hasDictIn K (CT K), PySem.W.plainOver K (CT K), PySem.W.makesIn K (CT K), PySem.W.keepIn K (.ref (CT K))),
   (PySem.W.findIn K (.ref (CT K)) "__setattr__", PySem.W.findIn K (.ref (CT K)) "_deeds", PySem.W.findIn K (.ref (CT K)) "_rows", PySem.W.findIn K (.ref (CT K)) "__class__", PySem.W.findIn K (.ref (CT K)) "__ne__", PySem.W.specialIn K (.builtin "object.__class__") "__get__"),
   (PySem.W.takesIn K (.builtin "object.__class__"), PySem.W.mroIn K (CT K) (.type "object"), PySem.W.kitOne K (.ref (CT K)) (.ref (CT K)), PySem.W.kitOne K (.type "NoneType") (.ref (CT K)), PySem.W.kitOne K (.type "str") (.ref (CT K)), PySem.W.kitOne K (.type "list") (.ref (CT K))),
   (PySem.W.notFirst K (CT K) (.type "NoneType"), PySem.W.notFirst K (CT K) (.type "str"), PySem.W.notFirst K (CT K) (.type "list")),
   (List.range 2).map (fun i => (He.eqO (PySem.W.nsIn K mainGlobals (xn i)) (some (some (.ref (CX K i)))), ecO K (CX K i) (FX K i) (xq i) (xf i))))
abbrev AlK : Type := List (Option (Option Value)) × List (Option (Int ⊕ Str)) × List (Bool × Bool × FnS × Bool) × (Bool × Bool × Option (Str × Str × Arguments × FuncBody × Scope × Addr × List Str × Addr) × Bool × Bool) × List (Bool × Bool × Bool × Bool × FnS × Bool) × List (Bool × Option (Option Value) × Option Bool × Bool × Bool × FnS × Bool) × (Bool × Bool × Bool × Bool × Bool × Bool) × (Option (Option Value) × Option (Option Value) × Option (Option Value) × Option (Option Value) × Option (Option Value) × Option (Option Value)) × (Option Bool × Option Bool × Option Bool × Option Bool × Option Bool × Option Bool) × (Bool × Bool × Bool) × List (Bool × EcT)
def valK : AlK :=
  ((List.range 18).map (fun _ => some none),
   (List.range 5).map cvl,
   (List.range 34).map (fun i => (true, true, some (dn i, dn i, defArgs (ds i), .stmts (defBody (ds i)), defScope (ds i), mainGlobals, [], .none, builtinsNs), true)),
   (true, true, some ("check_deeds", "check_deeds", defArgs s_check_deeds, .stmts (defBody s_check_deeds), defScope s_check_deeds, mainGlobals, [], builtinsNs), true, true),
   (List.range 10).map (fun i => (true, true, true, true, some (mn i, mq i, defArgs (ms i), .stmts (defBody (ms i)), defScope (ms i), mainGlobals, [], .none, builtinsNs), true)),
   (List.range 2).map (fun i => (true, some (some (.builtin "property.__get__")), some true, true, true, some (pn i, pq i, defArgs (pps i), .stmts (defBody (pps i)), defScope (pps i), mainGlobals, [], .none, builtinsNs), true)),
   (true, true, true, true, true, true),
   (some (some (.builtin "object.__setattr__")), some none, some none, some (some (.builtin "object.__class__")), some (some (.builtin "object.__ne__")), some (some (.builtin "getset_descriptor.__get__"))),
   (some true, some true, some true, some false, some false, some false), (true, true, true),
   (List.range 2).map (fun i => (true, ecV (xq i) (xs i))))
def ofG (g : Addr → Option Obj) : AlK := obsK (He.frG g (asK g))
def hk : PySem.W.Hook where
  α := AlK
  obs := fun s => ofG s.heap.get?
  val := fun _ => valK
  says := fun _ h => ∃ K : PySem.W.Frag, K.In h ∧ obsK K = valK
  of := fun _ _ e => ⟨_, He.frG_in, e⟩
  keeps := fun _ _ _ ⟨K, hK, c⟩ k => ⟨K, PySem.W.Frag.In.keeps hK k, c⟩
def ob (s : PySem.W.SharedT) : AlK := ofG (HandSHeadRun.getT s)
theorem ob_eq (s : PySem.W.SharedT) : ob s = hk.obs s.abs := by
  have e : HandSHeadRun.getT s = s.abs.heap.get? := funext (HandSHeadRun.getT_eq s)
  unfold ob
  rw [e]
  rfl
def ln1 : List Str := ["_wall", "SettleError", "InvalidDeeds", "InvalidRows", "InvalidState", "InvalidDeed", "InvalidWord", "StateError", "SharedDeed", "LimitError", "TooMany", "Thing", "check_deeds", "is_integer", "is_integer_from", "is_list", "is_filled_list"]
def ln2 : List Str := ["is_name", "is_answer", "is_entry", "check_limit", "is_row", "check_rows", "made_thing", "entry_at", "is_state", "check_state", "check_deed", "check_word", "met_states", "called_by_place", "_law_pot", "_law_draw", "_law_pick"]
def ln3 : List Str := ["_law_mixed", "_law_names", "_law_table", "_law_model", "_law_thing", "_law_run", "_law_word", "_law_met", "_law_part", "_law_gone_right", "_law_parts_right", "_law_right", "LETTERS", "LONGEST_NAME", "GREATEST_ANSWER", "MOST_DEEDS", "MOST_STATES"]
def lns : List Str := ln1 ++ (ln2 ++ (ln3))
abbrev Rw14 : PySem.W.OpenRow := PySem.W.OpenLaw.row PySem.Challenge.rw_settlesfirst_k14_states_come_to_and_part
end K14

namespace K14
open PySem PySem.Spec PyProof.Rows L2 Xv Cr TL
theorem run (w : World) : HandSHeadRun.RunEq Rw14 (PySem.W.view Rw14.prog [56]) hk ob 24000 lns w := by
  intro os
  kernel_rfl
end K14

namespace K14
open PySem PySem.Spec PyProof.Rows L2 Xv Cr TL
/-! ### all of the defs together -/
def Mh (K : PySem.W.Frag) (C : Addr) (m q : Str) (st : Stmt) : Prop := ∃ (g : Addr) (fd : FuncData), PySem.W.findIn K (.ref C) m = some (some (.ref g)) ∧ PySem.W.isFn K (.ref g) = true ∧ PySem.W.keepIn K (.ref g) = true ∧ PySem.W.fnIn K g = true ∧ Fun K m q st g fd
def Ph (K : PySem.W.Frag) (C : Addr) (f q : Str) (st : Stmt) : Prop := ∃ (p g : Addr) (fd : FuncData), PropOf K C f p g ∧ Fun K f q st g fd
def Dd (K : PySem.W.Frag) (mg : Str → Option Value) : Prop := ∃ (f : Addr) (fd : FuncData), mg "check_deeds" = some (.ref f) ∧ PySem.W.keepIn K (.ref f) = true ∧ FunD K "check_deeds" "check_deeds" (defArgs s_check_deeds) (defBody s_check_deeds) (defScope s_check_deeds) [V.non] [] f fd
section
variable {P : Program} {w : World} {K : PySem.W.Frag} {mg : Str → Option Value} {base : Heap} {Ct fa : Addr}
theorem deeds_mk (D : Dd K mg) (T : Bl mg) (c_is_filled_list : Cl P w K mg base 2 "is_filled_list" spFilled) (c_is_name : Cl P w K mg base 1 "is_name" spIsName) : ClD P w K mg base 3 "check_deeds" spCheckDeeds [V.non] := by
  obtain ⟨f, fd, gm, kp, F⟩ := D
  obtain ⟨ds, hv, hb⟩ := F.binds1 (ps := ["deeds", "known"]) 1 0 (by simp) rfl (fun Ta kV doc pm an cdv ct us its l1 l2 => match us, l1, its, l2 with | [_], _, [_], _ => ⟨_, rfl, rfl⟩)
  exact ⟨f, fd, ["deeds", "known"], ds, ok_check_deeds F T c_is_filled_list c_is_name, gm, kp, hb, hv⟩
theorem deedsK_mk (D : Dd K mg) (T : Bl mg) (c_is_filled_list : Cl P w K mg base 2 "is_filled_list" spFilled) (c_is_name : Cl P w K mg base 1 "is_name" spIsName) : Cl P w K mg base 3 "check_deeds" (spCDK K) := by
  obtain ⟨f, fd, gm, kp, F⟩ := D
  obtain ⟨ds, hv, hb⟩ := F.binds1 (ps := ["deeds", "known"]) 2 1 (by simp) rfl (fun Ta kV doc pm an cdv ct us its l1 l2 => match us, l1, its, l2 with | [_, _], _, [_], _ => ⟨_, rfl, rfl⟩)
  cases hv
  exact ⟨f, fd, ["deeds", "known"], ok_check_deedsK F T c_is_filled_list c_is_name, gm, kp, hb⟩
theorem all_mk {CD CW : Addr} (T : Bl mg) (Ts : mg "sorted" = none) (C : Cn mg) (TC : ThC K Ct) (Z : ThF K Ct) (gT : mg "Thing" = some (.ref Ct)) (mk : PySem.W.makesIn K Ct = true) (kT : PySem.W.keepIn K (.ref Ct) = true) (hfa : mg "law" = some (.ref fa)) (xd0 : ∀ base : Heap, XCl P w K mg base "InvalidDeed" CD "value") (xw0 : ∀ base : Heap, XCl P w K mg base "InvalidWord" CW "position") (FL : Dn K mg "law" s_law) (D_cd : Dd K mg) (D_is_integer : Dn K mg "is_integer" s_is_integer) (D_is_integer_from : Dn K mg "is_integer_from" s_is_integer_from) (D_is_list : Dn K mg "is_list" s_is_list) (D_is_filled_list : Dn K mg "is_filled_list" s_is_filled_list) (D_is_name : Dn K mg "is_name" s_is_name) (D_is_answer : Dn K mg "is_answer" s_is_answer) (D_is_entry : Dn K mg "is_entry" s_is_entry) (D_check_limit : Dn K mg "check_limit" s_check_limit) (D_is_row : Dn K mg "is_row" s_is_row) (D_check_rows : Dn K mg "check_rows" s_check_rows) (D_made : Dn K mg "made_thing" s_made) (D_entry_at : Dn K mg "entry_at" s_entry_at) (D_is_state : Dn K mg "is_state" s_is_state) (D_check_state : Dn K mg "check_state" s_check_state) (D_check_deed : Dn K mg "check_deed" s_check_deed) (D_check_word : Dn K mg "check_word" s_check_word) (D_mets : Dn K mg "met_states" s_mets) (D_called : Dn K mg "called_by_place" s_called) (D_pot : Dn K mg "_law_pot" s_pot) (D_draw : Dn K mg "_law_draw" s_draw) (D_pick : Dn K mg "_law_pick" s_pick) (D_mixed : Dn K mg "_law_mixed" s_mixed) (D_names : Dn K mg "_law_names" s_names) (D_table : Dn K mg "_law_table" s_table) (D_model : Dn K mg "_law_model" s_model) (D_thing : Dn K mg "_law_thing" s_thing) (D_run : Dn K mg "_law_run" s_run) (D_word : Dn K mg "_law_word" s_word) (D_lmet : Dn K mg "_law_met" s_lmet) (D_lpart : Dn K mg "_law_part" s_lpart) (D_gone : Dn K mg "_law_gone_right" s_gone) (D_pr : Dn K mg "_law_parts_right" s_pr) (D_right : Dn K mg "_law_right" s_right) (M_thing_init : Mh K Ct "__init__" "Thing.__init__" s_thing_init) (M_thing_rows : Mh K Ct "rows" "Thing.rows" s_thing_rows) (M_thing_run : Mh K Ct "run" "Thing.run" s_thing_run) (M_thing_call : Mh K Ct "__call__" "Thing.__call__" s_thing_call) (M_reached : Mh K Ct "reached" "Thing.reached" s_reached) (M_part : Mh K Ct "part" "Thing.part" s_part) (M_thing_repr : Mh K Ct "__repr__" "Thing.__repr__" s_thing_repr) (M_thing_eq : Mh K Ct "__eq__" "Thing.__eq__" s_thing_eq) (M_thing_len : Mh K Ct "__len__" "Thing.__len__" s_thing_len) (M_thing_has : Mh K Ct "__contains__" "Thing.__contains__" s_thing_has) (P_deeds : Ph K Ct "deeds" "Thing.deeds" s_thing_deeds) (P_states : Ph K Ct "states" "Thing.states" s_thing_states) :
    ∃ fd : FuncData, (∀ (s : Shared) (v : Value), BindsTo s fd ⟨[v], []⟩ [("_law_script", v)]) ∧ ∀ base : Heap, FnG P w K mg base 13 fa fd ["_law_script"] (spLaw K) := by
  obtain ⟨f0, e0, fd, FL⟩ := FL
  have e := hfa.symm.trans e0
  cases e
  refine ⟨fd, fun s v => ?_, fun base => ?_⟩
  · obtain ⟨oc, od, kV, doc, pm, an, cdv, ct, osl, rfl, lk, hc⟩ := FL.ex
    exact .of_eq rfl
  have xd := xd0 base
  have xw := xw0 base
  have c_is_integer := cl_mk  (P := P) (w := w) (base := base) D_is_integer (fun f fd F => ok_is_integer F T C) (fun _ _ _ _ _ _ us hl => match us, hl with | [_], _ => rfl)
  have c_is_integer_from := cl_mk  (P := P) (w := w) (base := base) D_is_integer_from (fun f fd F => ok_is_integer_from F T C c_is_integer) (fun _ _ _ _ _ _ us hl => match us, hl with | [_, _, _], _ => rfl)
  have c_is_list := cl_mk  (P := P) (w := w) (base := base) D_is_list (fun f fd F => ok_is_list F T C) (fun _ _ _ _ _ _ us hl => match us, hl with | [_], _ => rfl)
  have c_is_filled_list := cl_mk  (P := P) (w := w) (base := base) D_is_filled_list (fun f fd F => ok_is_filled_list F T C c_is_list) (fun _ _ _ _ _ _ us hl => match us, hl with | [_], _ => rfl)
  have c_is_name := cl_mk  (P := P) (w := w) (base := base) D_is_name (fun f fd F => ok_is_name F T C) (fun _ _ _ _ _ _ us hl => match us, hl with | [_], _ => rfl)
  have c_is_answer := cl_mk  (P := P) (w := w) (base := base) D_is_answer (fun f fd F => ok_is_answer F T C c_is_integer_from) (fun _ _ _ _ _ _ us hl => match us, hl with | [_], _ => rfl)
  have c_is_entry := cl_mk  (P := P) (w := w) (base := base) D_is_entry (fun f fd F => ok_is_entry F T C c_is_answer c_is_integer_from) (fun _ _ _ _ _ _ us hl => match us, hl with | [_, _], _ => rfl)
  have c_check_limit := cl_mk  (P := P) (w := w) (base := base) D_check_limit (fun f fd F => ok_check_limit F T C) (fun _ _ _ _ _ _ us hl => match us, hl with | [_, _, _], _ => rfl)
  have c_is_row := cl_mk  (P := P) (w := w) (base := base) D_is_row (fun f fd F => ok_is_row F T C c_is_list c_is_entry) (fun _ _ _ _ _ _ us hl => match us, hl with | [_, _, _], _ => rfl)
  have c_check_rows := cl_mk  (P := P) (w := w) (base := base) D_check_rows (fun f fd F => ok_check_rows F T c_is_filled_list c_is_row) (fun _ _ _ _ _ _ us hl => match us, hl with | [_, _], _ => rfl)
  have c_check_deeds := deeds_mk (P := P) (w := w) (base := base) D_cd T c_is_filled_list c_is_name
  obtain ⟨g_thing_init, fd_thing_init, at_thing_init, fn_thing_init, kp_thing_init, fi_thing_init, F_thing_init⟩ := M_thing_init
  obtain ⟨g_thing_rows, fd_thing_rows, at_thing_rows, fn_thing_rows, kp_thing_rows, fi_thing_rows, F_thing_rows⟩ := M_thing_rows
  obtain ⟨g_thing_run, fd_thing_run, at_thing_run, fn_thing_run, kp_thing_run, fi_thing_run, F_thing_run⟩ := M_thing_run
  obtain ⟨g_thing_call, fd_thing_call, at_thing_call, fn_thing_call, kp_thing_call, fi_thing_call, F_thing_call⟩ := M_thing_call
  obtain ⟨g_reached, fd_reached, at_reached, fn_reached, kp_reached, fi_reached, F_reached⟩ := M_reached
  obtain ⟨g_part, fd_part, at_part, fn_part, kp_part, fi_part, F_part⟩ := M_part
  obtain ⟨g_thing_repr, fd_thing_repr, at_thing_repr, fn_thing_repr, kp_thing_repr, fi_thing_repr, F_thing_repr⟩ := M_thing_repr
  obtain ⟨g_thing_eq, fd_thing_eq, at_thing_eq, fn_thing_eq, kp_thing_eq, fi_thing_eq, F_thing_eq⟩ := M_thing_eq
  obtain ⟨g_thing_len, fd_thing_len, at_thing_len, fn_thing_len, kp_thing_len, fi_thing_len, F_thing_len⟩ := M_thing_len
  obtain ⟨g_thing_has, fd_thing_has, at_thing_has, fn_thing_has, kp_thing_has, fi_thing_has, F_thing_has⟩ := M_thing_has
  obtain ⟨p_deeds, gp_deeds, fdp_deeds, po_deeds, FP_deeds⟩ := P_deeds
  obtain ⟨p_states, gp_states, fdp_states, po_states, FP_states⟩ := P_states
  have o_len : OwnM P w K mg base Ct 1 "__len__" ["self"] (spTLen K Ct) := ⟨g_thing_len, fd_thing_len, ok_thing_len F_thing_len T C TC, at_thing_len, fn_thing_len, F_thing_len.binds (fun _ _ _ _ _ _ us hl => match us, hl with | [_], _ => rfl)⟩
  have o_has : OwnM P w K mg base Ct 1 "__contains__" ["self", "value"] (spTHas K Ct) := ⟨g_thing_has, fd_thing_has, ok_thing_has F_thing_has T C TC, at_thing_has, fn_thing_has, F_thing_has.binds (fun _ _ _ _ _ _ us hl => match us, hl with | [_, _], _ => rfl)⟩
  have o_eq : OwnM P w K mg base Ct 1 "__eq__" ["self", "other"] (spTEq K Ct) := ⟨g_thing_eq, fd_thing_eq, ok_thing_eq F_thing_eq T TC gT Z.ins.me, at_thing_eq, fn_thing_eq, F_thing_eq.binds (fun _ _ _ _ _ _ us hl => match us, hl with | [_, _], _ => rfl)⟩
  have m_mk : C8.Mak P w K mg base 7 "Thing" Ct (spThingI K Ct) [] := ⟨g_thing_init, fd_thing_init, _, [], ⟨mk, at_thing_init, fn_thing_init, kT⟩, ok_thing_init F_thing_init T C TC c_check_deeds c_check_rows c_check_limit, gT, F_thing_init.binds (fun _ _ _ _ _ _ us hl => match us, hl with | [_, _, _], _ => rfl), .nil⟩
  have c_cdk := deedsK_mk (P := P) (w := w) (base := base) D_cd T c_is_filled_list c_is_name
  have c_made := cl_mk  (P := P) (w := w) (base := base) D_made (fun f fd F => ok_made F TC m_mk) (fun _ _ _ _ _ _ us hl => match us, hl with | [_, _], _ => rfl)
  have c_is_state := cl_mk  (P := P) (w := w) (base := base) D_is_state (fun f fd F => ok_is_state F T C TC c_is_integer_from o_len) (fun _ _ _ _ _ _ us hl => match us, hl with | [_, _], _ => rfl)
  have c_check_state := cl_mk  (P := P) (w := w) (base := base) D_check_state (fun f fd F => ok_check_state F T C TC c_is_state) (fun _ _ _ _ _ _ us hl => match us, hl with | [_, _], _ => rfl)
  have c_check_deed := cl_mk  (P := P) (w := w) (base := base) D_check_deed (fun f fd F => ok_check_deed F T C TC o_has) (fun _ _ _ _ _ _ us hl => match us, hl with | [_, _], _ => rfl)
  have c_check_word := cl_mk  (P := P) (w := w) (base := base) D_check_word (fun f fd F => ok_check_word F T C TC c_is_list o_has) (fun _ _ _ _ _ _ us hl => match us, hl with | [_, _], _ => rfl)
  have c_entry_at := cl_mk  (P := P) (w := w) (base := base) D_entry_at (fun f fd F => ok_entry_at F T C TC c_check_state c_check_deed) (fun _ _ _ _ _ _ us hl => match us, hl with | [_, _, _], _ => rfl)
  have c_mets := cl_mk  (P := P) (w := w) (base := base) D_mets (fun f fd F => ok_mets F T) (fun _ _ _ _ _ _ us hl => match us, hl with | [_, _, _], _ => rfl)
  have c_called := cl_mk  (P := P) (w := w) (base := base) D_called (fun f fd F => ok_called F T) (fun _ _ _ _ _ _ us hl => match us, hl with | [_, _], _ => rfl)
  have m_rows : C8.Met P w K mg base 1 Ct "rows" (spTRows K Ct) [] := ⟨g_thing_rows, fd_thing_rows, _, [], TC.cl, ⟨at_thing_rows, fn_thing_rows, kp_thing_rows⟩, ok_thing_rows F_thing_rows T C TC, F_thing_rows.binds (fun _ _ _ _ _ _ us hl => match us, hl with | [_], _ => rfl), .nil⟩
  have m_run : C8.Met P w K mg base 5 Ct "run" (spTRun K Ct) [] := ⟨g_thing_run, fd_thing_run, _, [], TC.cl, ⟨at_thing_run, fn_thing_run, kp_thing_run⟩, ok_thing_run F_thing_run T C TC c_check_state c_check_word, F_thing_run.binds (fun _ _ _ _ _ _ us hl => match us, hl with | [_, _, _], _ => rfl), .nil⟩
  have p_d : PrpM P w K mg base Ct 1 "deeds" (spTDeeds K Ct) := ⟨p_deeds, gp_deeds, fdp_deeds, po_deeds, ok_thing_deeds FP_deeds T C TC, FP_deeds.binds (fun _ _ _ _ _ _ us hl => match us, hl with | [_], _ => rfl)⟩
  have p_s : PrpM P w K mg base Ct 1 "states" (spTLen K Ct) := ⟨p_states, gp_states, fdp_states, po_states, ok_thing_states FP_states T C TC, FP_states.binds (fun _ _ _ _ _ _ us hl => match us, hl with | [_], _ => rfl)⟩
  have m_rea : Met1 P w K mg base 5 Ct "reached" "state" (spTReach K Ct) := ⟨g_reached, fd_reached, TC.cl, ⟨at_reached, fn_reached, kp_reached⟩, ok_reached F_reached T Ts TC c_check_state c_mets, F_reached.binds (fun _ _ _ _ _ _ us hl => match us, hl with | [_, _], _ => rfl), kb_oneM F_reached (fun _ _ _ _ _ _ _ _ => rfl)⟩
  have m_part : Met2 P w K mg base 10 Ct "part" "state" "deeds" (spTPart K Ct) := ⟨g_part, fd_part, TC.cl, ⟨at_part, fn_part, kp_part⟩, ok_part F_part T TC c_check_state c_cdk c_mets c_made c_called, F_part.binds (fun _ _ _ _ _ _ us hl => match us, hl with | [_, _, _], _ => rfl), kb_two F_part (fun _ _ _ _ _ _ _ _ _ => rfl)⟩
  have m_repr : ReprM P w K mg base Ct := ⟨g_thing_repr, fd_thing_repr, ok_thing_repr F_thing_repr TC, at_thing_repr, fn_thing_repr, F_thing_repr.binds (fun _ _ _ _ _ _ us hl => match us, hl with | [_], _ => rfl)⟩
  have c_cdX := clx_mk (P := P) (w := w) (base := base) D_check_deed (fun f fd F => ok_cdeedX F o_has xd) (fun _ _ _ _ _ _ us hl => match us, hl with | [_, _], _ => rfl)
  have c_eX := clx_mk (P := P) (w := w) (base := base) D_entry_at (fun f fd F => ok_entX F c_check_state c_cdX) (fun _ _ _ _ _ _ us hl => match us, hl with | [_, _, _], _ => rfl)
  have c_cwX := clx_mk (P := P) (w := w) (base := base) D_check_word (fun f fd F => ok_cwordX F T c_is_list o_has xw) (fun _ _ _ _ _ _ us hl => match us, hl with | [_, _], _ => rfl)
  have m_callX : CalX P w K mg base 8 Ct (spEntX K Ct CD) := ⟨g_thing_call, fd_thing_call, _, ⟨at_thing_call, fn_thing_call, fi_thing_call⟩, ok_callX F_thing_call c_eX, F_thing_call.binds (fun _ _ _ _ _ _ us hl => match us, hl with | [_, _, _], _ => rfl)⟩
  have m_runX : MetX P w K mg base 6 Ct "run" (spRunX K Ct CW) := ⟨g_thing_run, fd_thing_run, _, TC.cl, ⟨at_thing_run, fn_thing_run, kp_thing_run⟩, ok_runX F_thing_run c_check_state c_cwX, F_thing_run.binds (fun _ _ _ _ _ _ us hl => match us, hl with | [_, _, _], _ => rfl)⟩
  have c_pot := cl_mk  (P := P) (w := w) (base := base) D_pot (fun f fd F => ok_pot F T) (fun _ _ _ _ _ _ us hl => match us, hl with | [_, _], _ => rfl)
  have c_draw := cl_mk  (P := P) (w := w) (base := base) D_draw (fun f fd F => ok_draw F T) (fun _ _ _ _ _ _ us hl => match us, hl with | [_, _], _ => rfl)
  have c_pick := cl_mk  (P := P) (w := w) (base := base) D_pick (fun f fd F => ok_pick F T c_draw) (fun _ _ _ _ _ _ us hl => match us, hl with | [_, _], _ => rfl)
  have c_mixed := cl_mk  (P := P) (w := w) (base := base) D_mixed (fun f fd F => ok_mixed F T c_draw) (fun _ _ _ _ _ _ us hl => match us, hl with | [_, _], _ => rfl)
  have c_names := cl_mk  (P := P) (w := w) (base := base) D_names (fun f fd F => ok_names F T c_pick) (fun _ _ _ _ _ _ us hl => match us, hl with | [_, _], _ => rfl)
  have c_table := cl_mk  (P := P) (w := w) (base := base) D_table (fun f fd F => ok_table F T c_draw c_pick) (fun _ _ _ _ _ _ us hl => match us, hl with | [_, _, _], _ => rfl)
  have c_model := cl_mk  (P := P) (w := w) (base := base) D_model (fun f fd F => ok_model F T c_draw c_names c_table) (fun _ _ _ _ _ _ us hl => match us, hl with | [_, _, _], _ => rfl)
  have c_thing := cl_mk  (P := P) (w := w) (base := base) D_thing (fun f fd F => ok_thing F m_mk) (fun _ _ _ _ _ _ us hl => match us, hl with | [_], _ => rfl)
  have c_run := cl_mk  (P := P) (w := w) (base := base) D_run (fun f fd F => ok_run F T) (fun _ _ _ _ _ _ us hl => match us, hl with | [_, _, _], _ => rfl)
  have c_word := cl_mk  (P := P) (w := w) (base := base) D_word (fun f fd F => ok_word F T c_draw c_pick) (fun _ _ _ _ _ _ us hl => match us, hl with | [_, _, _], _ => rfl)
  have c_lmet := cl_mk  (P := P) (w := w) (base := base) D_lmet (fun f fd F => ok_lmet F T) (fun _ _ _ _ _ _ us hl => match us, hl with | [_, _, _], _ => rfl)
  have c_lpart := cl_mk  (P := P) (w := w) (base := base) D_lpart (fun f fd F => ok_lpart F T c_lmet) (fun _ _ _ _ _ _ us hl => match us, hl with | [_, _, _], _ => rfl)
  have c_gone := cl_mk  (P := P) (w := w) (base := base) D_gone (fun f fd F => ok_gone F T TC o_has p_d xd xw m_callX m_runX) (fun _ _ _ _ _ _ us hl => match us, hl with | [_, _], _ => rfl)
  have c_pr := clg_mk  (P := P) (w := w) (base := base) D_pr (fun f fd F => ok_pr F T TC Z c_draw c_mixed c_word c_thing c_lmet c_lpart c_gone o_eq p_d m_rows m_part m_rea m_run) (fun _ _ _ _ _ _ us hl => match us, hl with | [_, _, _, _], _ => rfl)
  have c_right := clg_mk  (P := P) (w := w) (base := base) D_right (fun f fd F => ok_right F T Ts TC Z c_model c_thing c_lmet c_pr o_eq o_len m_repr m_part m_rea) (fun _ _ _ _ _ _ us hl => match us, hl with | [_], _ => rfl)
  exact ok_law FL T c_pot c_right
end
/-! ### the facts, taken out -/
theorem facts {w : World} {K : PySem.W.Frag} {h : Heap} {mg : Str → Option Value} {fa : Addr} (X : K.In h) (G : h.Ns mainGlobals mg) (hfa : mg "law" = some (.ref fa)) (c : obsK K = valK) :
    ∃ fd : FuncData, (∀ (s : Shared) (v : Value), BindsTo s fd ⟨[v], []⟩ [("_law_script", v)]) ∧ ∀ base : Heap, FnG pr w K mg base 13 fa fd ["_law_script"] (spLaw K) := by
  unfold obsK valK at c
  simp only [Prod.mk.injEq] at c
  obtain ⟨t1, t2, t3, ⟨d1, d2, d3, d4, d5⟩, t5, t6, ⟨e1, e2, e3, e4, e5, e6⟩, ⟨f1, f2, f3, f4, f5, f6⟩, ⟨g1, g2, g3, g4, g5, g6⟩, ⟨h1, h2, h3⟩, t11⟩ := c
  have b : ∀ i, i < 18 → mg (bn i) = none := fun i hi => PySem.W.mg_none_of X G (tab_of t1 i hi)
  have T : Bl mg := ⟨b 0 (by decide), b 1 (by decide), b 2 (by decide), b 3 (by decide), b 4 (by decide), b 5 (by decide), b 6 (by decide), b 7 (by decide), b 8 (by decide), b 9 (by decide), b 10 (by decide), b 11 (by decide), b 12 (by decide), b 13 (by decide), b 14 (by decide), b 15 (by decide), b 16 (by decide)⟩
  have cc : ∀ i, i < 5 → cv K (cn i) = cvl i := fun i hi => tab_of t2 i hi
  have C : Cn mg := ⟨cv_str X G (cc 0 (by decide)), cv_int X G (cc 1 (by decide)), cv_int X G (cc 2 (by decide)), cv_int X G (cc 3 (by decide)), cv_int X G (cc 4 (by decide))⟩
  have D : ∀ i, i < 34 → Dn K mg (dn i) (ds i) := fun i hi => by
    have e := tab_of t3 i hi
    simp only [Prod.mk.injEq] at e
    exact ⟨_, PySem.W.mg_of X G (He.eqO_ok e.1), fnS_ok e.2.2.1 e.2.2.2 e.2.1⟩
  have M : ∀ i, i < 10 → Mh K (CT K) (mn i) (mq i) (ms i) := fun i hi => by
    have e := tab_of t5 i hi
    simp only [Prod.mk.injEq] at e
    obtain ⟨fd, F⟩ := fnS_ok e.2.2.2.2.1 e.2.2.2.2.2 e.2.2.1
    exact ⟨_, fd, He.eqO_ok e.1, e.2.1, e.2.2.1, e.2.2.2.1, F⟩
  have Pp : ∀ i, i < 2 → Ph K (CT K) (pn i) (pq i) (pps i) := fun i hi => by
    have e := tab_of t6 i hi
    simp only [Prod.mk.injEq] at e
    obtain ⟨fd, F⟩ := fnS_ok e.2.2.2.2.2.1 e.2.2.2.2.2.2 e.2.2.2.2.1
    exact ⟨_, _, fd, ⟨He.eqO_ok e.1, e.2.1, e.2.2.1, gt_ok e.2.2.2.1⟩, F⟩
  have Dc : Dd K mg := by
    obtain ⟨fd, F⟩ := fnD_ok d3 d4 d2 d5
    exact ⟨_, fd, PySem.W.mg_of X G (He.eqO_ok d1), d2, F⟩
  have cl : Cls K (CT K) := ⟨e2, e3, e4, f1⟩
  have TC : ThC K (CT K) := ⟨cl, f2, f3⟩
  have Z : ThF K (CT K) := ⟨⟨cl, f4, f6, g1, g2, g3⟩, h1, h2, h3, g4, g5, g6, f5⟩
  have X1 : ∀ i, i < 2 → mg (xn i) = some (.ref (CX K i)) ∧ ecO K (CX K i) (FX K i) (xq i) (xf i) = ecV (xq i) (xs i) := fun i hi => by
    have e := tab_of t11 i hi
    obtain ⟨e1, e2⟩ := Prod.mk.injEq _ _ _ _ ▸ e
    exact ⟨PySem.W.mg_of X G (He.eqO_ok e1), e2⟩
  obtain ⟨xg0, xe0⟩ := X1 0 (by decide)
  obtain ⟨xg1, xe1⟩ := X1 1 (by decide)
  have xd : ∀ base : Heap, XCl pr w K mg base "InvalidDeed" (CX K 0) "value" := fun base => by
    obtain ⟨⟨fd, F⟩, E, tk, _⟩ := ec_ok xe0
    exact xcl_mk (f := "value") xe0 (ex1_mk basV E tk F xg0 ⟨rfl, rfl, rfl, by decide +kernel, rfl, by decide +kernel, by decide +kernel⟩ rfl (by decide +kernel) (by decide +kernel) (by decide +kernel) (by decide +kernel) (fun _ _ _ _ _ _ _ _ => rfl) (fun _ _ _ _ _ _ _ _ => rfl))
  have xw : ∀ base : Heap, XCl pr w K mg base "InvalidWord" (CX K 1) "position" := fun base => by
    obtain ⟨⟨fd, F⟩, E, tk, _⟩ := ec_ok xe1
    exact xcl_mk (f := "position") xe1 (ex1_mk basV E tk F xg1 ⟨rfl, rfl, rfl, by decide +kernel, rfl, by decide +kernel, by decide +kernel⟩ rfl (by decide +kernel) (by decide +kernel) (by decide +kernel) (by decide +kernel) (fun _ _ _ _ _ _ _ _ => rfl) (fun _ _ _ _ _ _ _ _ => rfl))
  exact all_mk T (b 17 (by decide)) C TC Z (PySem.W.mg_of X G (He.eqO_ok e1)) e5 e6 hfa xd xw (D 33 (by decide)) Dc (D 0 (by decide)) (D 1 (by decide)) (D 2 (by decide)) (D 3 (by decide)) (D 4 (by decide)) (D 5 (by decide)) (D 6 (by decide)) (D 7 (by decide)) (D 8 (by decide)) (D 9 (by decide)) (D 10 (by decide)) (D 11 (by decide)) (D 12 (by decide)) (D 13 (by decide)) (D 14 (by decide)) (D 15 (by decide)) (D 16 (by decide)) (D 17 (by decide)) (D 18 (by decide)) (D 19 (by decide)) (D 20 (by decide)) (D 21 (by decide)) (D 22 (by decide)) (D 23 (by decide)) (D 24 (by decide)) (D 25 (by decide)) (D 26 (by decide)) (D 27 (by decide)) (D 28 (by decide)) (D 29 (by decide)) (D 30 (by decide)) (D 31 (by decide)) (D 32 (by decide)) (M 0 (by decide)) (M 1 (by decide)) (M 2 (by decide)) (M 3 (by decide)) (M 4 (by decide)) (M 5 (by decide)) (M 6 (by decide)) (M 7 (by decide)) (M 8 (by decide)) (M 9 (by decide)) (Pp 0 (by decide)) (Pp 1 (by decide))
end K14

open PySem PySem.W PySem.Calls PyProof.Rows in
theorem PySem.Challenge.cw_settlesfirst_k14_states_come_to_and_part_holds : PySem.Challenge.rw_settlesfirst_k14_states_come_to_and_part.Holds := by
  w_on; o_law
  refine HandSHeadRun.head_any (r := OpenLaw.row PySem.Challenge.rw_settlesfirst_k14_states_come_to_and_part) (q := view (OpenLaw.row PySem.Challenge.rw_settlesfirst_k14_states_come_to_and_part).prog [56]) (H := K14.hk) (ob := K14.ob) (M := 24000) (loose := K14.lns) (d := HandSHeadRun.topDef (OpenLaw.row PySem.Challenge.rw_settlesfirst_k14_states_come_to_and_part).prog 56) (kwd := []) K14.ob_eq
    (by kernel_rfl) (fun s => by kernel_rfl) K14.run (by kernel_rfl) (by kernel_rfl) (by kernel_rfl) (by rfl) (by first | assumption | decide +kernel) (by decide +kernel) ⟨rfl, rfl, rfl, rfl, rfl, by decide +kernel⟩ ?hw ?hc
  case hw => w_witness2
  case hc =>
    refine Cr.walkGE (l := PySem.Challenge.rw_settlesfirst_k14_states_come_to_and_part) (n := 63) (k := 13) (x := "_law_script") rfl (by decide) (by kernel_rfl) ⟨rfl, by decide, by decide⟩ ?F
    intro w mg fa h Y G hmg0
    obtain ⟨K, KX, c⟩ := Y
    have hmg : mg ("law" : PySem.Str) = some (.ref fa) := by
      have e : (HandSHeadRun.topDef (OpenLaw.row PySem.Challenge.rw_settlesfirst_k14_states_come_to_and_part).prog 56).name = ("law" : PySem.Str) := by kernel_rfl
      rw [← e]
      exact hmg0
    obtain ⟨fd, hb, hF⟩ := K14.facts (w := w) KX G hmg c
    exact ⟨K, fd, K14.spLaw K, KX, hb, fun H a ns hl _ hS => ⟨a, ns, rfl, hS, hl, fun _ => rfl⟩, fun base _ _ => hF base⟩

