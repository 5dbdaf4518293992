import PyProof.Rows.All
import Wide.All
import OpenK.AllK
import Wide.FinOn
import HandS.ForMost
import HandS.ExcInit
import HandS.ExcIs
import KE.KExcInit
import KE.KExcSuper
import HandS.MakeKwOnly
import HandS.IsInst
import HandS.EndBits
import HandS.Conv
import HandS.Walk
import HandS.Text
import HandS.Dict
import HandS.Iter
import HandS.Comp
import PySem.Challenge.RW_settlesfirst_k21_whole_layouts_told
import KE.GoesMore
import KE.GoesEnum
import HandS.SetKeys
import HandS.Defaults
import HandS.DictComp
import HandS.DictSub
import KE.Datum
import HandS.Codes
import PyProof.Rows.ReprOcc
import PyProof.ReprLen
import HandS.FStr
import HandS.Property
import HandS.Style
import KE.KStateDown
import HandS.Head0
import HandS.Head1
import HandS.Head2
import HandS.HeadEnd
import HandS.HeadHook1
import HandS.Zip
import HandS.SetFor
import HandS.Evl
import HandS.Steps
import HandS.Sort
import PyProof.ZipIter
import PyProof.ListNew
import KE.KItemsList
import HandS.ListItems
import HandS.ExcField
import HandS.ExcOwn
set_option Elab.async false
set_option linter.all false
set_option maxRecDepth 100000
set_option maxHeartbeats 2000000
namespace PySem
namespace Xv
open PySem.W PySem.Calls PyProof.Rows
section
variable {M : Model} {A : Around} {E : Value → Shared → Prop} {h : Heap} {g : Array GenState} {d : Drawn} {t : Nat} {os : OsState}
variable {nm q : Str} {C N : Addr} {bs bm bmB : List Value} {hdct : Bool} {sn : List Str} {sub : List Value} {ab : Bool} {col : Option Bool} {dd : Option Addr} {k0 k1 k2 k3 k5 : Option Value} {B newId initId : String}
/-- the arguments that a class of exceptions is called with, keywords among them, pass the look ahead of its maker -/
theorem look_new (F : ExcBaseFacts B newId initId bmB) (hT : ∀ X : String, bm.contains (.type X) = bmB.contains (.type X)) {rest : List Value} {kw : List (Str × Value)} {Q : Unit → Shared → Prop}
    (hC : h.get? C = some (excClassObj nm q C N bs bm hdct sn sub ab col dd k0 k1 k2 k3 k5 newId)) (hq : Q () ⟨h, g, d, t, os⟩) : wpAny M A (checkBuiltinCall newId ⟨.ref C :: rest, kw⟩) Q E ⟨h, g, d, t, os⟩ := by
  have c1 : (Value.ref C :: bm).contains (.type B) = true := by
    rw [List.contains_cons, hT, F.hasB, Bool.or_true]
  have c2 := F.noStar
  simp only [checkBuiltinCall, F.newKind, F.newSplit, F.newRow]
  repeat (first
    | refine wpAny_loadPart_at hC ?_
    | (refine wpAny_isSubtype_exc hC ?_; rw [c1])
    | refine wpAny_staticBase_exc hC ?_
    | refine wpAny_madeBy_exc hC ?_
    | simp only [bne_self_eq_false, Bool.false_eq_true, if_false]
    | wp_step)
  exact hq
theorem look_tcall {rest : List Value} {kw : List (Str × Value)} {Q : Unit → Shared → Prop} (hC : h.get? C = some (excClassObj nm q C N bs bm hdct sn sub ab col dd k0 k1 k2 k3 k5 newId))
    (hq : Q () ⟨h, g, d, t, os⟩) : wpAny M A (checkBuiltinCall "type.__call__" ⟨.ref C :: rest, kw⟩) Q E ⟨h, g, d, t, os⟩ := by
  have f3 := tc_sub
  have hT : (⟨h, g, d, t, os⟩ : Shared).TypeIs (.ref C) "type" := ⟨_, hC, rfl⟩
  simp only [checkBuiltinCall, tc_kind, tc_split]
  repeat (any_goals (first
    | assumption
    | with_reducible refine wpAny_loadPart_at hC ?_
    | with_reducible refine wpAny_onRaise ?_
    | with_reducible refine wpAny_map ?_
    | wp_step))
end
section
variable {prog : Program} {w : World} {A : Around} {E : Value → Shared → Prop} {R : Result → Shared → Prop} {h : Heap} {g : Array GenState} {d : Drawn} {t : Nat} {os : OsState}
variable {nm q : Str} {C N : Addr} {bs bm bmB : List Value} {hdct : Bool} {sn : List Str} {sub : List Value} {ab : Bool} {col : Option Bool} {dd : Option Addr} {k0 k1 k2 k3 k5 : Option Value} {B newId initId : String}
/-- BaseException's maker, keywords or not -/
theorem new_kw (F : ExcBaseFacts B newId initId bmB) (hT : ∀ X : String, bm.contains (.type X) = bmB.contains (.type X)) {rest : List Value} {kw : List (Str × Value)}
    (hC : h.get? C = some (excClassObj nm q C N bs bm hdct sn sub ab col dd k0 k1 k2 k3 k5 newId))
    (hq : R (.ok (.ret (.ref (h.objs.size + 1)))) ⟨(h.push (kdv_tup rest)).push (HandSPX.excO C h.objs.size), g, d, t, os⟩) (hrest : rest.length ≤ sizeLine) :
    codeAny (model prog w) A (.builtin newId ⟨.ref C :: rest, kw⟩) R ⟨h, g, d, t, os⟩ := by
  have e0 := F.ends
  have c1 : (Value.ref C :: bm).contains (.type B) = true := by
    rw [List.contains_cons, hT, F.hasB, Bool.or_true]
  have c2 : (Value.ref C :: bm).contains (.type "AttributeError") = false := by
    rw [List.contains_cons, hT, F.noAttr]; rfl
  have c3 : (Value.ref C :: bm).contains (.type "NameError") = false := by
    rw [List.contains_cons, hT, F.noName]; rfl
  refine codeAny_builtinAt F.entry ?_
  unfold Builtin.«BaseException.__new__»
  refine wpAt_bind ?_
  show wpAt _ _ _ (stack >>= _) _ _ _
  refine wpAt_bind (wpAt_stack fun p below => wpAt_of_wpAny ?_)
  wp_walk
  refine wpAt_of_wpAny ?_
  rw [F.owner]
  repeat (first
    | with_reducible refine wpAny_madeHere_exc F.canon hC ?_
    | with_reducible refine wpAny_loadPart_at hC ?_
    | (with_reducible refine wpAny_isSubtype_exc hC ?_; first | rw [c1] | rw [c2] | rw [c3])
    | wp_step)
  show R _ _
  rw [Heap.size_push]
  exact hq
theorem tcall_kw (F : ExcBaseFacts B newId initId bmB) (hT : ∀ X : String, bm.contains (.type X) = bmB.contains (.type X)) {rest : List Value} {kw : List (Str × Value)} {fI : Addr} {Q : Fin → Shared → Prop}
    (hC : h.get? C = some (excClassObj nm q C N bs bm hdct sn sub ab col dd k0 k1 k2 k3 k5 newId))
    (hi : Looks (model prog w) h (typeLookup (.ref C) "__init__") (some (.ref fI))) (hb : ∀ self, Looks (model prog w) h (bindSpecial (.ref fI) self) (.ref fI, [self])) (hrest : rest.length ≤ sizeLine)
    (hq : codeAny (model prog w) A (.call (.ref fI) ⟨.ref (h.objs.size + 1) :: rest, kw⟩)
      (fun r s' => match r with | .ok (.ret v) => v = .none ∧ Q (.done (.ret (.ref (h.objs.size + 1)))) s' | .ok _ => False | .error e => E e s')
      ⟨(h.push (kdv_tup rest)).push (HandSPX.excO C h.objs.size), g, d, t, os⟩) :
    wpAny (model prog w) A (Builtin.«type.__call__» ⟨.ref C :: rest, kw⟩) Q E ⟨h, g, d, t, os⟩ := by
  repeat (first
    | with_reducible refine wpAny_loadPart_at hC ?_
    | with_reducible refine wpAny_madeBy_exc hC ?_
    | wp_step)
  refine codeAny_call_builtin_code (Code.quiet_builtin _ F.quiet) (look_new F hT hC ?_)
  refine new_kw F hT hC ?_ hrest
  show wpAny _ _ _ _ _ _
  have k : ∀ b o, h.get? b = some o → ((h.push (kdv_tup rest)).push (HandSPX.excO C h.objs.size)).get? b = some o := fun b o e => Heap.get?_push_of_some _ (Heap.get?_push_of_some _ e)
  have hC₁ := k _ _ hC
  have hget : ((h.push (kdv_tup rest)).push (HandSPX.excO C h.objs.size)).get? (h.objs.size + 1) = some (HandSPX.excO C h.objs.size) := by heap_get
  have cC : (Value.ref C :: bm).contains (.ref C) = true := by simp
  have i1 := hi.keeps k
  have b1 := (hb (.ref (h.objs.size + 1))).keeps k
  unfold isInstance
  repeat (first
    | with_reducible refine wpAny_loadPart_at hget ?_
    | (with_reducible refine wpAny_isSubtype_exc hC₁ ?_; rw [cC])
    | wp_step)
  show wpAny _ _ (typeLookup (.ref C) _) _ _ _
  refine i1.at ?_
  refine wpAny_holding (wpAny_bind (b1.at ?_))
  refine wpAny_bind (wpAny_call (codeAny_mono hq fun r s' z => ?_))
  rcases r with e | (v | _ | _ | _) <;> first | exact z | exact z.elim | skip
  obtain ⟨rfl, z⟩ := z
  first
    | exact wpAny_pure (wpAny_pure z)
    | (wp_walk; exact z)
/-- an own class of exceptions is called, keywords or not -/
theorem call_kw (F : ExcBaseFacts B newId initId bmB) (hT : ∀ X : String, bm.contains (.type X) = bmB.contains (.type X)) {rest : List Value} {kw : List (Str × Value)} {fI : Addr}
    (hC : h.get? C = some (excClassObj nm q C N bs bm hdct sn sub ab col dd k0 k1 k2 k3 k5 newId))
    (hi : Looks (model prog w) h (typeLookup (.ref C) "__init__") (some (.ref fI))) (hb : ∀ self, Looks (model prog w) h (bindSpecial (.ref fI) self) (.ref fI, [self])) (hrest : rest.length ≤ sizeLine)
    (hq : codeAny (model prog w) (A.under (.builtin "type.__call__" ⟨.ref C :: rest, kw⟩)) (.call (.ref fI) ⟨.ref (h.objs.size + 1) :: rest, kw⟩) (InitBack (h.objs.size + 1) R)
      ⟨(h.push (kdv_tup rest)).push (HandSPX.excO C h.objs.size), g, d, t, os⟩) :
    codeAny (model prog w) A (.call (.ref C) ⟨rest, kw⟩) R ⟨h, g, d, t, os⟩ := by
  have f1 := tc_lookup
  have f2 := tc_bind (.ref C)
  have hTy : (⟨h, g, d, t, os⟩ : Shared).TypeIs (.ref C) "type" := ⟨_, hC, rfl⟩
  refine codeAny_of_tree ?_
  show wpAny _ _ (callAny (.ref C) _) _ _ _
  repeat (any_goals (first
    | assumption
    | with_reducible refine wpAny_loadPart_at hC ?_
    | wp_step))
  refine ⟨rfl, ?_⟩
  refine codeAny_call_builtin_at (Code.quiet_builtin _ (by decide +kernel)) entry_typeCall (look_tcall hC (tcall_kw F hT hC hi hb hrest ?_))
  refine codeAny_mono hq fun r s' z => ?_
  rcases r with e | (v | _ | _ | _) <;> exact z
end
end Xv
end PySem

namespace PySem
namespace Xv
open PySem.W PySem.Calls PyProof.Rows
open Builtin Builtin.ObjectAttr
section
variable {prog : Program} {w : World} {A : Around} {E : Value → Shared → Prop} {R : Result → Shared → Prop} {hp : Heap} {g : Array GenState} {d : Drawn} {t : Nat} {os : OsState}
variable {B : String} {bmB : List Value} {K : Frag}
/-- the first field of an exception: its dict is made -/
theorem field_first (SF : StoreFacts B bmB "object.__setattr__" "object") {name : Str} {tk : Tok} {v : Value} {x C : Addr} {fv : Array Value}
    (X : K.In hp) (hx : hp.get? x = some { cls := .ref C, data := .fields fv }) (ho : excOver K C bmB = true) (hh : hasDictIn K C = true) (ha : takerIn K C name = some none)
    (hq : ∀ h' tk' dx, (∀ b o, b ≠ x → hp.get? b = some o → h'.get? b = some o) → hp.objs.size ≤ dx → dx ≠ x → h'.get? x = some { cls := .ref C, dict := some dx, data := .fields fv } →
      h'.Ns1 dx (fun y => if y = name then some v else none) → R (.ok (.ret .none)) ⟨h', g, d, tk', os⟩) :
    codeAny (model prog w) A (.call (.builtin "object.__setattr__") ⟨[.ref x, .str name tk, v], []⟩) R ⟨hp, g, d, t, os⟩ := by
  have I : InstAt hp x { cls := .ref C, data := .fields fv } C none := ⟨hx, rfl, rfl, trivial⟩
  have hxs : x ≠ hp.objs.size := Nat.ne_of_lt (Heap.lt_size hx)
  refine osa_openX SF X I ho ha fun b => ?_
  obtain ⟨cd, hc, hd⟩ := any_some hh
  have hcls : Looks (model prog w) hp (classData C) cd := looks_clsIn X hc
  obtain ⟨nm, bs, mro, ns, qn, hdd, sn, sb, ab, col, del⟩ := cd
  dsimp only at hd
  subst hd
  show wpAny _ _ (storeInOwnDict (.ref x) (.ref C) (.str name tk) name v b) _ _ _
  unfold storeInOwnDict ownDictForStores
  repeat (first
    | with_reducible refine HandSPX.store_in_new ?_ ?_
    | with_reducible refine wpAny_loadPart_at hx ?_
    | with_reducible refine hcls.at ?_
    | wp_step)
  · exact ⟨_, #[], _, (Heap.get?_update_ne _ _ _ _ hxs.symm).trans (Heap.get?_push_at rfl rfl), rfl, fun e he => absurd he (by simp), fun _ => rfl⟩
  · intro h' tk' hn' hs
    have hx₁ : (hp.push { cls := .type "dict", data := .dict #[] }).get? x = some { cls := .ref C, data := .fields fv } := Heap.get?_push_of_some _ hx
    refine hq h' tk' hp.objs.size (fun b o hb ho => ?_) (Nat.le_refl _) hxs.symm ?_ hn'
    · exact (hs.2 b (Nat.ne_of_lt (Heap.lt_size ho))).trans ((Heap.get?_update_ne _ _ _ _ hb).trans (Heap.get?_push_of_some _ ho))
    · exact (hs.2 x hxs).trans (Heap.get?_update_self _ hx₁ rfl)
/-- a further one -/
theorem field_more (SF : StoreFacts B bmB "object.__setattr__" "object") {name : Str} {tk : Tok} {v : Value} {x C dx : Addr} {fv : Array Value} {m0 : Str → Option Value} {nl : List Str}
    (X : K.In hp) (hx : hp.get? x = some { cls := .ref C, dict := some dx, data := .fields fv }) (hns : hp.Ns1 dx m0) (hw : Within m0 nl) (hz : nl.length ≤ 1000) (ho : excOver K C bmB = true) (hh : hasDictIn K C = true) (ha : takerIn K C name = some none)
    (hq : ∀ h' tk', (∀ b o, b ≠ dx → hp.get? b = some o → h'.get? b = some o) → h'.Ns1 dx (fun y => if y = name then some v else m0 y) → R (.ok (.ret .none)) ⟨h', g, d, tk', os⟩) :
    codeAny (model prog w) A (.call (.builtin "object.__setattr__") ⟨[.ref x, .str name tk, v], []⟩) R ⟨hp, g, d, t, os⟩ := by
  obtain ⟨oD, esD, epD, hoD, hdD, _⟩ := hns.count hw
  have I : InstAt hp x { cls := .ref C, dict := some dx, data := .fields fv } C (some oD) := ⟨hx, rfl, rfl, hoD⟩
  refine osa_openX SF X I ho ha fun b => ?_
  obtain ⟨cd, hc, hd⟩ := any_some hh
  have hcls : Looks (model prog w) hp (classData C) cd := looks_clsIn X hc
  obtain ⟨nm, bs, mro, ns, qn, hdd, sn, sb, ab, col, del⟩ := cd
  dsimp only at hd
  subst hd
  show wpAny _ _ (storeInOwnDict (.ref x) (.ref C) (.str name tk) name v b) _ _ _
  unfold storeInOwnDict ownDictForStores
  repeat (first
    | with_reducible refine OEX.store_in_old hns hw hz ?_
    | with_reducible refine wpAny_loadPart_at hx ?_
    | with_reducible refine hcls.at ?_
    | wp_step)
  intro h' tk' hn' hs
  exact hq h' tk' (fun b o hb ho => (hs.2 b hb).trans ho) hn'
end
end Xv
end PySem

namespace Xv
open PySem PySem.Spec PyProof.Rows L2
abbrev St := L2.St
/-- what the written part says of an own class of exceptions, at C; its __init__ at fI; over the built-in B -/
structure ExT (K : PySem.W.Frag) (C fI : Addr) (newId : String) (bmB : List Value) : Prop where
  ini : PySem.W.excInitIn K C bmB newId = true
  ov : PySem.W.excOver K C bmB = true
  hd : PySem.W.hasDictIn K C = true
  sa : PySem.W.findIn K (.ref C) "__setattr__" = some (some (.builtin "object.__setattr__"))
  iC : PySem.W.findIn K (.ref C) "__init__" = some (some (.ref fI))
  fn : PySem.W.isFn K (.ref fI) = true
  kC : PySem.W.keepIn K (.ref C) = true
/-- bases -/
structure Bas (B newId initId : String) (bmB : List Value) : Prop where
  F : ExcBaseFacts B newId initId bmB
  S : StoreFacts B bmB "object.__setattr__" "object"
section
variable {X : Cx} {pins : List (Addr × Obj)} {σ : St} {H : Hp} {s : Shared} {a C dx fI : Addr} {f : Str} {y : V} {u : Value} {fs : List (Str × V)} {Q : Unit → Shared → Prop} {E : Value → Shared → Prop} {A : Around}
variable {B newId initId : String} {bmB : List Value}
/-- self.f = y, the first one -/
theorem put_first (b : Bas B newId initId bmB) (T : ExT X.K C fI newId bmB) (I : Inv X pins σ H s) (e : H a = some (exo a C none)) (hno : PySem.W.takerIn X.K C f = some none) (ry : RelV y u)
    (h : ∀ dx s', H dx = none → dx ≠ a → Inv X pins σ (upd (upd H dx (exd dx [(f, y)])) a (exo a C (some dx))) s' → Q () s') : wpAny (model X.prog X.w) A (setAttr (.ref a) f u) Q E s := by
  obtain ⟨t1, ho⟩ := exo_at I.hok e
  obtain ⟨hp, g, d, t, os⟩ := s
  refine PySem.W.set_plain I.kIn (ox := { cls := .ref C, dict := none, data := .fields #[.ref t1, .none, .none, .none, .bool false, .none] }) (od := none) ⟨ho, rfl, rfl, trivial⟩ T.sa ?_
  refine PySem.Xv.field_first b.S I.kIn ho T.ov T.hd hno (fun h' tk' dx k dn dne hx hn => ?_)
  have hnd : H dx = none := I.hok.fresh dn
  have nd : ∀ {b : Addr} {o : Obj}, hp.get? b = some o → b ≠ dx := fun {b o} q => Nat.ne_of_lt (Nat.lt_of_lt_of_le (Heap.lt_size q) dn)
  have na : ∀ {b : Addr}, H b = none → b ≠ a := fun {b} n z => by
    rw [z, e] at n
    cases n
  have U : Un X.fs [] H (upd (upd H dx (exd dx [(f, y)])) a (exo a C (some dx))) hp h' := {
    keep := fun b o q n _ _ => k b o (na n) q
    slot := fun b o q n _ _ => ⟨o.slots, k b o (na n) q⟩
    free := fun b o q n _ => by
      rw [upd_ne (na n), upd_ne (nd q)]
      exact n
    there := fun b o q _ => by
      by_cases hb : b = a
      · exact ⟨_, by rw [hb]; exact hx⟩
      · exact ⟨o, k b o hb q⟩
    tups := fun b xs q => by
      rw [upd_ne (at_ne e q exo_tup), upd_ne (ne_of_none q hnd)]
      exact q
    frzs := fun b o v q => by
      rw [upd_ne (at_ne e q exo_frz), upd_ne (ne_of_none q hnd)]
      exact q
    tbls := fun b ps q => ⟨#[], by
      rw [upd_ne (at_ne e q exo_tbl), upd_ne (ne_of_none q hnd), q]
      simp⟩ }
  have hok : HOk X.prog X.w (upd (upd H dx (exd dx [(f, y)])) a (exo a C (some dx))) h' := fun b o q => by
    by_cases hb : b = a
    · subst hb
      rw [upd_same] at q
      cases q
      exact exo_ok hx
    · rw [upd_ne hb] at q
      by_cases hbd : b = dx
      · subst hbd
        rw [upd_same] at q
        cases q
        exact exd_ok hn (fun z => relO_put (fs := []) (mA := fun _ => none) ry (fun _ => trivial) z)
      · rw [upd_ne hbd] at q
        exact (I.hok b o q).stay (fun c v hc z => k c v (by
            rcases hc with hc | hc
            · rw [hc]
              exact hb
            · exact at_ne e hc exo_own) z)
          (fun c hc => by
            rw [upd_ne (at_ne e hc exo_own), upd_ne (ne_of_none hc hnd)]
            exact hc) (fun c xs hc => by
            rw [upd_ne (at_ne e hc exo_tup), upd_ne (ne_of_none hc hnd)]
            exact hc)
  exact h dx _ hnd dne (I.un (t' := tk') U hok)
/-- a further one -/
theorem put_more (b : Bas B newId initId bmB) (T : ExT X.K C fI newId bmB) (I : Inv X pins σ H s) (e : H a = some (exo a C (some dx))) (ed : H dx = some (exd dx fs)) (hl : fs.length ≤ 900) (hno : PySem.W.takerIn X.K C f = some none) (ry : RelV y u)
    (h : ∀ s', Inv X pins σ (upd H dx (exd dx ((f, y) :: fs))) s' → Q () s') : wpAny (model X.prog X.w) A (setAttr (.ref a) f u) Q E s := by
  obtain ⟨t1, ho⟩ := exo_at I.hok e
  obtain ⟨mA, hns, rel⟩ := exd_at I.hok ed
  have hw := within_of rel
  obtain ⟨hp, g, d, t, os⟩ := s
  obtain ⟨oD, _, _, hoD, _, _⟩ := hns.count hw
  refine PySem.W.set_plain I.kIn (ox := { cls := .ref C, dict := some dx, data := .fields #[.ref t1, .none, .none, .none, .bool false, .none] }) (od := some oD) ⟨ho, rfl, rfl, hoD⟩ T.sa ?_
  refine PySem.Xv.field_more b.S I.kIn ho hns hw (by rw [List.length_map]; omega) T.ov T.hd hno (fun h' tk' k hn => ?_)
  have hd : ∃ o, h'.get? dx = some o := by
    obtain ⟨o, _, _, e', _⟩ := hn
    exact ⟨o, e'⟩
  exact h _ (I.write (t' := tk') (x := dx) (e := dx) (o := exd dx ((f, y) :: fs)) (by rw [ed]; exact True.intro) (.inl rfl) k hd (exd_ok hn (relO_put ry rel)))
end
end Xv

set_option maxHeartbeats 4000000
namespace PySem.W
open PySem PySem.Spec PySem.Calls PyProof.Rows
section
variable {prog : Program} {w : World} {A : Around} {E : Value → Shared → Prop} {s : Shared} {K : Frag} {x D : Addr} {ox : Obj} {od : Option Obj}
theorem xv_data {C : Addr} {name : Str} {a g : Value} (hc : (clsIn K C).isSome = true) (ha : findIn K (.ref C) name = some (some a)) (hg : specialIn K a "__get__" = some (some g)) (ht : takesIn K a = some true) : findObj K C od name = some (.bind g a) := by
  obtain ⟨cd, hc⟩ := Option.isSome_iff_exists.mp hc
  unfold findObj
  rw [hc, Option.bind_some, ha, Option.bind_some]
  simp [hg, ht]
/-- the class of an exception that has its dict, or none as yet -/
theorem xv_class {Q : Option Value → Shared → Prop} (T : L2.ExcC K D)
    (X : K.In s.heap) (I : InstAt s.heap x ox D od) (h : Q (some (.ref D)) { s with toks := s.toks + 1 }) : wpAny (model prog w) A (getAttr? (.ref x) "__class__") Q E s := by
  have hf : findObj K D od "__class__" = some (.bind (.builtin "getset_descriptor.__get__") (.builtin "object.__class__")) :=
    xv_data (by obtain ⟨cd, hc, _⟩ := any_some T.hd; rw [hc]; rfl) T.ha T.hn T.ht
  obtain ⟨hp, g, d, t, os⟩ := s
  have L0 := I.type (M := model prog w)
  have L1 := looks_findIn (M := model prog w) X T.hg
  have L2 := looks_findIn (M := model prog w) X T.hk
  have L3 := looks_find (M := model prog w) X I hf
  have sub : Looks (model prog w) hp (isInstance (.ref x) (.type "BaseException")) true := L0.andThen (looks_subIn X T.hs)
  have z0 : (false && onTheHeap (Value.builtin "BaseException.__getattribute__")) = false := rfl
  have z2 : (Value.builtin "BaseException.__getattribute__" == Value.builtin "object.__getattribute__") = false := by decide +kernel
  have z1 : (onTheHeap (Value.ref D) && Value.builtin "BaseException.__getattribute__" == Value.builtin "object.__getattribute__") = false := by
    rw [z2]; rfl
  unfold getAttr? getAttrBy? getAttrBy
  refine wpAny_bind (wpAny_mkText (wpAny_bind (wpAny_attempt (wpAny_holding (wpAny_bind (L0.at (wpAny_bind (L1.at ?_))))))))
  show wpAny _ _ (if (onTheHeap (Value.ref D) && Value.builtin "BaseException.__getattribute__" == Value.builtin "object.__getattribute__") = true then _ else _) _ _ _
  rw [z1, if_neg Bool.false_ne_true]
  unfold getAttrByItsOwn hookBefore
  refine wpAny_bind ?_
  rw [if_pos (show onTheHeap (Value.ref D) = true from rfl)]
  refine L2.at ?_
  refine wpAny_bind (wpAny_attempt (wpAny_holding ?_))
  unfold callGetattribute
  rw [z0, if_neg Bool.false_ne_true]
  unfold boundAndCalled
  rw [PySem.F.excAttr_ValueError.ga.bind (.ref x)]
  refine wpAny_bind (wpAny_pure ?_)
  show wpAny _ _ (call (.builtin "BaseException.__getattribute__") [.ref x, .str "__class__" t]) _ _ _
  refine wpAny_call (codeAny_call_builtin PySem.F.excAttr_ValueError.ga.plain PySem.F.entry_bexc_ga ?_)
  refine @check_slot (model prog w) _ _ ⟨hp, g, d, t + 1, os⟩ "BaseException.__getattribute__" "BaseException" "__getattribute__" (.ref x) [.str "__class__" t] [] _ (by decide +kernel) (by decide +kernel) sub (PySem.F.args_bexc_ga (.ref x) (.str "__class__" t)) ?_
  unfold Builtin.«object.__getattribute__»
  refine wpAny_bind (wpAny_of_eq (a := ((Value.ref x : Value), [Value.str "__class__" t])) (by first | rfl | (simp only [slotArgs]; rfl)) ?_)
  refine wpAny_bind (wpAny_pure (wpAny_bind (L0.at (wpAny_bind (L3.at ?_)))))
  show wpAny _ _ (holding [Value.builtin "object.__class__"] (call (.builtin "getset_descriptor.__get__") [.builtin "object.__class__", .ref x, .ref D]) >>= ret) _ _ _
  refine wpAny_bind (wpAny_holding (wpAny_call (class_get (s := ⟨hp, g, d, t + 1, os⟩) (ox := ox) (od := od) X I T.hm ?_)))
  refine wpAny_pure ?_
  show wpAny _ _ (handedOut (.ref D)) _ _ _
  rw [handedOut_of (v := .ref D) rfl]
  first
    | exact wpAny_pure (wpAny_pure h)
    | exact wpAny_pure h
    | exact wpAny_pure (wpAny_bind (wpAny_pure (wpAny_pure h)))
theorem xv_kit (T : L2.ExcC K D) : KitX K (.ref x) (.ref D) (fun h => ∃ ox od, InstAt h x ox D od) where
  ty := fun _ _ _ ⟨_, _, I⟩ => I.type
  it := fun _ _ X _ => by
    obtain ⟨cdD, hcD, _⟩ := any_some T.hd
    unfold clsIn at hcD
    split at hcD
    · rename_i c' d' cd' sl' ho
      intro A' Q' E' s' k q
      unfold isType loadHead
      exact wpAny_bind (wpAny_loadPart (k _ _ (X _ _ ho)) (wpAny_pure q))
    · cases hcD
  ne := fun h tp dd its n sl X htp => by
    obtain ⟨cdD, hcD, _⟩ := any_some T.hd
    refine Bool.eq_false_iff.mpr fun q => ?_
    have e : D = tp := Value.ref.inj (beq_iff_eq.mp q)
    subst e
    unfold clsIn at hcD
    split at hcD
    · rename_i c' d' cd' sl' ho
      have z := (X _ _ ho).symm.trans htp
      cases z
    · cases hcD
  ca := fun X ⟨_, _, I⟩ k => xv_class T X I k
end
end PySem.W
namespace Xv
open PySem PySem.Spec PyProof.Rows L2
/-! ### a new exception as a value -/
def tExv (C : Addr) (sp : Sp) (ta : TA) : TE := fun σ H Q => ta σ H fun vs H1 => vs.length ≤ 1000 ∧ ∀ a, H1 a = none → sp (.ref a :: vs) (upd H1 a (exo a C none)) (fun v H2 => v = .non ∧ Q (.ref a) H2) E0
def tExvK (C : Addr) (n : Nat) (sp : Sp) (gV : List V → List V → List V) (tk : TA) : TE := fun σ H Q => tk σ H fun zs H1 => zs.length = n ∧ ∀ a, H1 a = none → sp (gV [.ref a] zs) (upd H1 a (exo a C none)) (fun v H2 => v = .non ∧ Q (.ref a) H2) E0
section
variable {X : Cx} {k : Nat} {C fI : Addr} {fd : FuncData} {ps ks : List Str} {sp : Sp} {x : Str} {p pos : Pos} {e : Expr} {es : List Expr} {kws : List Keyword} {ta tk : TA} {g : List Value → List Value → List Value} {gV : List V → List V → List V} {B newId initId : String} {bmB : List Value}
theorem run_exv {pins : List (Addr × Obj)} {σ : St} {H : Hp} {s : Shared} {Q : VK} {us : List Value} {kw : List (Str × Value)} (b : Bas B newId initId bmB) (T : ExT X.K C fI newId bmB) (F1 : FnOk X.prog X.w X.K X.mg X.base CX0 k fI fd ps sp) (hr : Room (k + 1) X.A)
    (I : Inv X pins σ H s) (hz : us.length ≤ 1000) {al : Addr → List V} {bl : Addr → List Value} (hbl : ∀ a, Vals (al a) (bl a)) (hbind : ∀ a s', X.K.In s'.heap → BindsTo s' fd ⟨.ref a :: us, kw⟩ (ps.zip (bl a)))
    (h : ∀ a, H a = none → sp (al a) (upd H a (exo a C none)) (fun v H2 => v = .non ∧ Q (.ref a) H2) E0) :
    wpAny (model X.prog X.w) X.A (call (.ref C) us kw) (EP X pins σ Q) X.xe s := by
  obtain ⟨nm, N', qn, bs, bm, hdct, sn, sub, ab, col, dd, k0, k1, k2, k3, k5, hC, hT⟩ := PySem.W.excInit_of I.kIn T.ini
  obtain ⟨hp, gg, dr, tk, os⟩ := s
  have hn : H (hp.objs.size + 1) = none := I.hok.fresh (Nat.le_succ _)
  have kk : ∀ b o, hp.get? b = some o → ((hp.push (PySem.W.kdv_tup us)).push (PySem.HandSPX.excO C hp.objs.size)).get? b = some o := fun b o e => Heap.get?_push_of_some _ (Heap.get?_push_of_some _ e)
  have hget : ((hp.push (PySem.W.kdv_tup us)).push (PySem.HandSPX.excO C hp.objs.size)).get? (hp.objs.size + 1) = some (PySem.HandSPX.excO C hp.objs.size) := by heap_get
  have I2 : Inv X pins σ (upd H (hp.objs.size + 1) (exo (hp.objs.size + 1) C none)) ⟨(hp.push (PySem.W.kdv_tup us)).push (PySem.HandSPX.excO C hp.objs.size), gg, dr, tk, os⟩ :=
    I.laid (t' := tk) (a := hp.objs.size + 1) (o := exo (hp.objs.size + 1) C none) (h' := (hp.push (PySem.W.kdv_tup us)).push (PySem.HandSPX.excO C hp.objs.size)) kk (Nat.le_succ _) (exo_ok hget)
  have hus : us.length ≤ sizeLine := by
    rw [sizeLine_eq]
    omega
  refine wpAny_call (PySem.Xv.call_kw b.F hT hC (PySem.W.looks_findIn I.kIn T.iC) (fun self => PySem.W.bind_fn I.kIn self (beq_iff_eq.mp T.fn)) hus
    (codeAny_mono (F1.run _ X.stack _ _ ⟨Value.ref (hp.objs.size + 1) :: us, kw⟩ _ _ _ E0 (hr.make C us kw) (I2.env0.make C us kw) (hbind _ _ I2.kIn) (hbl (hp.objs.size + 1)) (h _ hn)) fun r s' hq' => ?_))
  cases r with
  | error er => exact False.elim hq'
  | ok fl =>
    cases fl with
    | ret u =>
      obtain ⟨v, H2, I3, rv, ev, q3⟩ := I2.after hq'
      subst ev
      exact ⟨rv, ⟨V.ref (hp.objs.size + 1), H2, I3, rfl, q3⟩⟩
    | next => exact False.elim hq'
    | brk => exact False.elim hq'
    | cont => exact False.elim hq'
theorem pe_exv (b : Bas B newId initId bmB) (T : ExT X.K C fI newId bmB) (F1 : FnOk X.prog X.w X.K X.mg X.base CX0 k fI fd ps sp) (hr : Room (k + 1) X.A) (hb : Binds X.K fd ps []) (hg : Gl X x) (hm : X.mg x = some (.ref C)) (ha : PA X (e :: es) ta)
    (hdb : (x == ("__debug__" : Str)) = false := by decide) (he : starEach (e :: es) X.env = (false, eval e X.env) :: starEach es X.env := by rfl) (hpl : (backTo pos (starEach es X.env)).any (·.1) = false := by rfl) :
    PE X (.Call (.Name x p) (e :: es) [] pos) (tExv C sp ta) := by
  refine ⟨fun pins s σ H Q I h => ?_⟩
  refine wpAny_Call_Name_kw (ld_glob I hg hm ?_ hdb)
  refine PySem.W.callWith_K (h₀ := X.base) I.ok.mod.kin T.kC (thn (ha.run pos pins s σ H _ I h) fun us s1 ⟨vs, H1, I1, r1, hz, q1⟩ => ⟨I1.kIn, ?_⟩) he hpl
  have hl : us.length + 1 = ps.length := by
    rw [← F1.len _ _ _ _ (q1 _ (I1.hok.fresh (Nat.le_refl _))), List.length_cons, r1.length]
  exact run_exv (al := fun a => .ref a :: vs) (bl := fun a => .ref a :: us) b T F1 hr I1 (by show us.length ≤ 1000; rw [← r1.length]; exact hz) (fun a => .cons rfl r1)
    (fun a s' ki => by
      have z := hb s' (.ref a :: us) ki (by rw [List.append_nil, List.length_cons, hl])
      rw [List.append_nil] at z
      exact z) q1
theorem pe_exv0 (b : Bas B newId initId bmB) (T : ExT X.K C fI newId bmB) (F1 : FnOk X.prog X.w X.K X.mg X.base CX0 k fI fd ps sp) (hr : Room (k + 1) X.A) (hb : Binds X.K fd ps []) (hg : Gl X x) (hm : X.mg x = some (.ref C))
    (hdb : (x == ("__debug__" : Str)) = false := by decide) :
    PE X (.Call (.Name x p) [] [] pos) (tExv C sp tNil) := by
  refine ⟨fun pins s σ H Q I h => ?_⟩
  refine wpAny_Call_Name_kw (ld_glob I hg hm ?_ hdb)
  refine PySem.W.callWith_K0 I.kIn T.kC ?_
  obtain ⟨hz, q1⟩ := h
  have hl : 1 = ps.length := F1.len _ _ _ _ (q1 _ (I.hok.fresh (Nat.le_refl _)))
  exact run_exv (us := []) (kw := []) (al := fun a => [.ref a]) (bl := fun a => [.ref a]) b T F1 hr I (Nat.zero_le _) (fun a => .cons rfl .nil)
    (fun a s' ki => by
      have z := hb s' [.ref a] ki (by rw [List.append_nil]; exact hl)
      rw [List.append_nil] at z
      exact z) q1
theorem pe_exvK (b : Bas B newId initId bmB) (T : ExT X.K C fI newId bmB) (F1 : FnOk X.prog X.w X.K X.mg X.base CX0 k fI fd ps sp) (hr : Room (k + 1) X.A) (hb : KBn X.K fd ps 1 ks g gV) (hg : Gl X x) (hm : X.mg x = some (.ref C)) (hkw : PK X kws tk)
    (hall : (backToKw pos (keywordEach kws X.env)).all (·.1.isSome) = true := by rfl) (hks : (backToKw pos (keywordEach kws X.env)).filterMap (·.1) = ks := by rfl) (hdb : (x == ("__debug__" : Str)) = false := by decide)
    (hpl : ((backTo pos (starEach [] X.env)).any (·.1) || (backToKw pos (keywordEach kws X.env)).any (·.1.isNone)) = false := by rfl) :
    PE X (.Call (.Name x p) [] kws pos) (tExvK C ks.length sp gV tk) := by
  refine ⟨fun pins s σ H Q I h => ?_⟩
  refine wpAny_Call_Name_kw (ld_glob I hg hm ?_ hdb)
  refine PySem.W.callWith_KW0 (h₀ := X.base) I.ok.mod.kin T.kC hall ?_ hpl
  refine thn (hkw.run pos pins s σ H _ I h) fun ws s2 ⟨zs, H2, I2, rz, l2, q2⟩ => ⟨I2.kIn, ?_⟩
  rw [hks]
  exact run_exv (us := []) (al := fun a => gV [.ref a] zs) (bl := fun a => g [.ref a] ws) b T F1 hr I2 (Nat.zero_le _) (fun a => hb.rel (.cons rfl .nil) rz)
    (fun a s' ki => hb.to s' [.ref a] ws ki rfl (rz.length.symm.trans l2)) q2
end
/-! ### its field, its class -/
section
variable {X : Cx} {a C d : Addr} {dd : Option Addr} {fs : List (Str × V)} {H : Hp} {s : Shared} {pins : List (Addr × Obj)} {σ : St}
theorem exo_inst (I : Inv X pins σ H s) (e : H a = some (exo a C dd)) (hd : ∀ d, dd = some d → ∃ fs, H d = some (exd d fs)) : ∃ ox od, PySem.W.InstAt s.heap a ox C od := by
  obtain ⟨t1, ho⟩ := exo_at I.hok e
  cases dd with
  | none => exact ⟨_, none, ho, rfl, rfl, trivial⟩
  | some d =>
    obtain ⟨fs, ed⟩ := hd d rfl
    obtain ⟨mA, hns, rel⟩ := exd_at I.hok ed
    obtain ⟨oD, _, _, hoD, _⟩ := id hns
    exact ⟨_, some oD, ho, rfl, rfl, hoD⟩
def tXf (K : PySem.W.Frag) (f : Str) (te : TE) : TE := fun σ H Q => te σ H fun x H1 => ∃ a C d fs v, x = .ref a ∧ ExcC K C ∧ PySem.W.findIn K (.ref C) f = some none ∧ H1 a = some (exo a C (some d)) ∧ H1 d = some (exd d fs) ∧ fs.lookup f = some v ∧ Q v H1
/-- e.f of an exception that is held -/
theorem pe_xf {e : Expr} {f : Str} {te : TE} {pos : Pos} (he : PE X e te) (hb : attributeBase e f X.env (eval e X.env) = eval e X.env := by rfl) : PE X (.Attribute e f pos) (tXf X.K f te) := by
  refine ⟨fun pins s σ H Q I h => ?_⟩
  refine attr_of hb (thn (he.run pins s σ H _ I h) fun u s1 hh => ?_)
  obtain ⟨x, H1, I1, rx, a, C, d, fs, v, ex, T, hno, ea, ed, hl, q⟩ := hh
  subst ex
  obtain rfl : u = Value.ref a := rx
  obtain ⟨t1, ho⟩ := exo_at I1.hok ea
  obtain ⟨mA, hns, rel⟩ := exd_at I1.hok ed
  obtain ⟨od, hod, hlk⟩ := lookIn_ns hns
  obtain ⟨uv, hu, ru⟩ := RelO.some_of (v := v) (o := mA f) (by rw [← hl]; exact rel f)
  have J : PySem.W.InstAt s1.heap a { cls := .ref C, dict := some d, data := .fields #[.ref t1, .none, .none, .none, .bool false, .none] } C (some od) := ⟨ho, rfl, rfl, hod⟩
  exact HandSPX.exc_get I1.kIn J T.hg T.hk T.hs (PySem.W.findObj_own T.hd hno rfl (by rw [hlk, hu])) (handed_of ru) ⟨v, H1, I1.tok _, ru, q⟩
/-- isinstance(e, c), e an exception that is held -/
def rXi (K : PySem.W.Frag) : List V → Hp → VK → Prop := fun xs H Q => ∃ (a D : Addr) (dd : Option Addr) (c : V) (cv : Value) (b : Bool), xs = [.ref a, c] ∧ ClsV c cv ∧ ExcC K D ∧ H a = some (exo a D dd) ∧ (∀ d, dd = some d → ∃ fs, H d = some (exd d fs)) ∧ PySem.W.kitOne K (.ref D) cv = some b ∧ Q (.bl b) H
theorem call_xi : CallR X (.builtin "isinstance") (rXi X.K) := by
  intro pins s σ H xs us Q I r h
  obtain ⟨a, D, dd, c, cv, b, rfl, k, T, ea, hd, e, q⟩ := h
  obtain ⟨u1, u2, rfl, r1, r2⟩ := vals2 r
  have e2 := k.eq r2
  subst e2
  cases (show u1 = Value.ref a from r1)
  exact PySem.W.kia_one (PySem.W.xv_kit T) I.kIn (exo_inst I ea hd) e (fun z => nomatch z) fun tk => ⟨.bl b, H, I.tok tk, rfl, q⟩
end
end Xv

namespace PySem
mutual
/-- data in a heap, its dicts none of the interpreter's own -/
inductive Sees (h : Heap) : Value → PyData → Prop
  | none : Sees h .none .none
  | bool (b) : Sees h (.bool b) (.bool b)
  | int (i t) : Sees h (.int i t) (.int i)
  | str (x t) : Sees h (.str x t) (.str x)
  | list {a o vs n xs} : h.get? a = some o → o.cls = .type "list" → o.data = .seq vs n → SeesAll h vs.toList xs → Sees h (.ref a) (.list xs)
  | tuple {a o vs n xs} : h.get? a = some o → o.cls = .type "tuple" → o.data = .seq vs n → SeesAll h vs.toList xs → Sees h (.ref a) (.tuple xs)
  | dict {a o es n kvs} : h.get? a = some o → o.cls = .type "dict" → o.data = .dict es n → (a == sysModules) = false → SeesAll h (es.toList.map (·.key)) (kvs.map (·.1)) →
      SeesAll h (es.toList.map (·.val)) (kvs.map (·.2)) → Sees h (.ref a) (.dict kvs)
inductive SeesAll (h : Heap) : List Value → List PyData → Prop
  | nil : SeesAll h [] []
  | cons {v vs d ds} : Sees h v d → SeesAll h vs ds → SeesAll h (v :: vs) (d :: ds)
end
mutual
theorem Sees.reads {h : Heap} : ∀ {v : Value} {d : PyData}, Sees h v d → ∃ as, Reads h v d as
  | _, _, .none => ⟨_, .none⟩
  | _, _, .bool b => ⟨_, .bool b⟩
  | _, _, .int i t => ⟨_, .int i t⟩
  | _, _, .str x t => ⟨_, .str x t⟩
  | _, _, .list h1 h2 h3 h4 => let ⟨_, r⟩ := SeesAll.reads h4; ⟨_, .list h1 h2 h3 r⟩
  | _, _, .tuple h1 h2 h3 h4 => let ⟨_, r⟩ := SeesAll.reads h4; ⟨_, .tuple h1 h2 h3 r⟩
  | _, _, .dict h1 h2 h3 _ h4 h5 => let ⟨_, r⟩ := SeesAll.reads h4; let ⟨_, r'⟩ := SeesAll.reads h5; ⟨_, .dict h1 h2 h3 r r'⟩
theorem SeesAll.reads {h : Heap} : ∀ {vs : List Value} {ds : List PyData}, SeesAll h vs ds → ∃ as, ReadsAll h vs ds as
  | _, _, .nil => ⟨_, .nil⟩
  | _, _, .cons r rs => let ⟨_, q⟩ := Sees.reads r; let ⟨_, q'⟩ := SeesAll.reads rs; ⟨_, .cons q q'⟩
end
section
variable {prog : Program} {w : World} {h₀ : Heap}
mutual
theorem Sees.reprK : ∀ {v : Value} {d : PyData}, Sees h₀ v d → d.showable = true → d.shown.length ≤ sizeLine → ∃ bs, ReadAtMost h₀ d.depth bs ∧ ReprK prog w bs h₀ d.depth v d.shown
  | _, _, .none, _, _ => ⟨[], (fun _ h => nomatch h), by simp only [PyData.shown]; exact .of_is ReprIs.none _ _ _⟩
  | _, _, .bool b, _, _ => ⟨[], (fun _ h => nomatch h), by simp only [PyData.shown]; exact .of_is (ReprIs.bool b) _ _ _⟩
  | _, _, .int i t, hs, _ => ⟨[], (fun _ h => nomatch h), by simp only [PyData.shown]; exact .of_is (ReprIs.int t (by simpa [PyData.showable] using hs)) _ _ _⟩
  | _, _, .str x t, _, hz => ⟨[], (fun _ h => nomatch h), by simp only [PyData.shown]; exact .of_is (ReprIs.str x t (by simpa only [PyData.shown] using hz)) _ _ _⟩
  | _, _, .list (a := a) (vs := vs) (xs := xs) h1 h2 h3 h4, hs, hz => by
    have zz : (listText (PyData.shownAll xs)).length ≤ sizeLine := by simpa only [PyData.shown] using hz
    obtain ⟨bs, hb, hk⟩ := SeesAll.reprK h4 (by simpa [PyData.showable] using hs) (fun t ht => Nat.le_trans (listText_mem_le ht) zz)
    obtain ⟨_, r⟩ := (Sees.list h1 h2 h3 h4).reads
    have hna : a ∉ bs := not_mem_of_deeper r (by simp only [PyData.depth]; omega) hb
    refine ⟨a :: bs, ReadAtMost.cons r (by simp only [PyData.depth]; omega) hb, ?_⟩
    simp only [PyData.depth, PyData.shown]
    obtain ⟨l⟩ := vs
    cases l with
    | nil =>
      have h5 : SeesAll h₀ [] xs := h4
      cases h5
      simp only [PyData.shownAll, listText_nil]
      exact ReprK.listEmpty h1 h2 h3
    | cons x l => exact ReprK.list h1 h2 h3 hna (by simpa using hk.length_eq) (fun i y e => hk.item i y (by simpa using e))
  | _, _, .tuple (a := a) (xs := xs) h1 h2 h3 h4, hs, hz => by
    have zz : (tupleText (PyData.shownAll xs)).length ≤ sizeLine := by simpa only [PyData.shown] using hz
    obtain ⟨bs, hb, hk⟩ := SeesAll.reprK h4 (by simpa [PyData.showable] using hs) (fun t ht => Nat.le_trans (tupleText_mem_le ht) zz)
    obtain ⟨_, r⟩ := (Sees.tuple h1 h2 h3 h4).reads
    have hna : a ∉ bs := not_mem_of_deeper r (by simp only [PyData.depth]; omega) hb
    refine ⟨a :: bs, ReadAtMost.cons r (by simp only [PyData.depth]; omega) hb, ?_⟩
    simp only [PyData.depth, PyData.shown]
    exact ReprK.tuple h1 h2 h3 hna hk
  | _, _, .dict (a := a) (es := es) (kvs := kvs) h1 h2 h3 hy h4 h5, hs, hz => by
    have zz : (dictText (PyData.shownKv kvs)).length ≤ sizeLine := by simpa only [PyData.shown] using hz
    obtain ⟨s1, s2⟩ := PyData.showableKv_split kvs (by simpa [PyData.showable] using hs)
    obtain ⟨b1, hb1, k1⟩ := SeesAll.reprK h4 s1 (fun t ht => let ⟨p, hp, hl⟩ := PyData.shownKv_key_le kvs t ht; Nat.le_trans hl (Nat.le_trans (dictText_mem_le hp) zz))
    obtain ⟨b2, hb2, k2⟩ := SeesAll.reprK h5 s2 (fun t ht => let ⟨p, hp, hl⟩ := PyData.shownKv_val_le kvs t ht; Nat.le_trans hl (Nat.le_trans (dictText_mem_le hp) zz))
    obtain ⟨_, r⟩ := (Sees.dict h1 h2 h3 hy h4 h5).reads
    have hb : ReadAtMost h₀ (PyData.depthKv kvs) (b1 ++ b2) := (hb1.mono (PyData.depthAll_keys_le kvs)).append (hb2.mono (PyData.depthAll_vals_le kvs))
    have hna : a ∉ b1 ++ b2 := not_mem_of_deeper r (by simp only [PyData.depth]; omega) hb
    refine ⟨a :: (b1 ++ b2), ReadAtMost.cons r (by simp only [PyData.depth]; omega) hb, ?_⟩
    simp only [PyData.depth, PyData.shown, PyData.shownKv_eq]
    exact ReprK.dict h1 h2 h3 hy hna (ReprEntriesK.of_two es.toList _ _
      (k1.more_le (fun b hb => List.mem_append_left _ hb) (PyData.depthAll_keys_le kvs))
      (k2.more_le (fun b hb => List.mem_append_right _ hb) (PyData.depthAll_vals_le kvs)))
theorem SeesAll.reprK : ∀ {vs : List Value} {ds : List PyData}, SeesAll h₀ vs ds → PyData.showableAll ds = true → (∀ t ∈ PyData.shownAll ds, t.length ≤ sizeLine) →
    ∃ bs, ReadAtMost h₀ (PyData.depthAll ds) bs ∧ ReprAllK prog w bs h₀ (PyData.depthAll ds) vs (PyData.shownAll ds)
  | _, _, .nil, _, _ => ⟨[], (fun _ h => nomatch h), by simp only [PyData.shownAll]; exact .nil⟩
  | _, _, .cons (d := d) (ds := ds) r rs, hs, hz => by
    have ss : d.showable = true ∧ PyData.showableAll ds = true := by simpa [PyData.showableAll] using hs
    obtain ⟨b1, hb1, k1⟩ := Sees.reprK r ss.1 (hz _ (by simp only [PyData.shownAll]; exact List.mem_cons_self ..))
    obtain ⟨b2, hb2, k2⟩ := SeesAll.reprK rs ss.2 (fun t ht => hz t (by simp only [PyData.shownAll]; exact List.mem_cons_of_mem _ ht))
    refine ⟨b1 ++ b2, fun b hm => ?_, ?_⟩
    · simp only [PyData.depthAll]
      rcases List.mem_append.mp hm with hm | hm
      · obtain ⟨d', as', r', hd'⟩ := hb1 b hm
        exact ⟨d', as', r', Nat.le_trans hd' (Nat.le_max_left _ _)⟩
      · obtain ⟨d', as', r', hd'⟩ := hb2 b hm
        exact ⟨d', as', r', Nat.le_trans hd' (Nat.le_max_right _ _)⟩
    · simp only [PyData.depthAll, PyData.shownAll]
      exact .cons ((k1.more fun b hb => List.mem_append_left _ hb).level_le (Nat.le_max_left _ _)) (k2.more_le (fun b hb => List.mem_append_right _ hb) (Nat.le_max_right _ _))
end
theorem Sees.showsBy {a : Addr} {d : PyData} (r : Sees h₀ (.ref a) d) (hs : d.showable = true) (hsz : d.shown.length ≤ sizeLine) : ∃ T idr, ShowsBy prog w h₀ a d T idr := by
  cases r with
  | list h1 h2 h3 h4 =>
    rename_i o vs n xs
    have zz : (listText (PyData.shownAll xs)).length ≤ sizeLine := by simpa only [PyData.shown] using hsz
    obtain ⟨bs, hb, hk⟩ := SeesAll.reprK (prog := prog) (w := w) h4 (by simpa [PyData.showable] using hs) (fun t ht => Nat.le_trans (listText_mem_le ht) zz)
    obtain ⟨_, rr⟩ := (Sees.list h1 h2 h3 h4).reads
    have hna : a ∉ bs := not_mem_of_deeper rr (by simp only [PyData.depth]; omega) hb
    refine ⟨"list", "list.__repr__", F.slot_list_repr.toG, F.slot_list_str, F.slot_list_format, fun s hk0 => ⟨o, hk0 _ _ h1, h2⟩, fun A E s Q hg hu hk0 hQ => ?_⟩
    simp only [PyData.depth] at hu
    simp only [PyData.shown] at hQ
    obtain ⟨l⟩ := vs
    cases l with
    | nil =>
      have h5 : SeesAll h₀ [] xs := h4
      cases h5
      simp only [PyData.shownAll, listText_nil] at hQ
      exact call_list_repr_empty ⟨o, hk0 _ _ h1, h2⟩ (hk0 _ _ h1) h3 (hQ s.heap _ _ fun _ _ e => e)
    | cons x l => exact call_list_reprK h1 h2 h3 hna (by simpa using hk.length_eq) (fun i y e => hk.item i y (by simpa using e)) hg (fun b _ => Clear.nil b) hu hk0 hQ zz
  | tuple h1 h2 h3 h4 =>
    rename_i o vs n xs
    have zz : (tupleText (PyData.shownAll xs)).length ≤ sizeLine := by simpa only [PyData.shown] using hsz
    obtain ⟨bs, hb, hk⟩ := SeesAll.reprK (prog := prog) (w := w) h4 (by simpa [PyData.showable] using hs) (fun t ht => Nat.le_trans (tupleText_mem_le ht) zz)
    obtain ⟨_, rr⟩ := (Sees.tuple h1 h2 h3 h4).reads
    have hna : a ∉ bs := not_mem_of_deeper rr (by simp only [PyData.depth]; omega) hb
    refine ⟨"tuple", "tuple.__repr__", F.slot_tuple_repr, F.slot_tuple_str, F.slot_tuple_format, fun s hk0 => ⟨o, hk0 _ _ h1, h2⟩, fun A E s Q hg hu hk0 hQ => ?_⟩
    simp only [PyData.depth] at hu
    simp only [PyData.shown] at hQ
    exact call_tuple_reprK h1 h2 h3 hna hk hg (fun b _ => Clear.nil b) hu hk0 hQ zz
  | dict h1 h2 h3 hy h4 h5 =>
    rename_i o es n kvs
    have zz : (dictText (PyData.shownKv kvs)).length ≤ sizeLine := by simpa only [PyData.shown] using hsz
    obtain ⟨s1, s2⟩ := PyData.showableKv_split kvs (by simpa [PyData.showable] using hs)
    obtain ⟨b1, hb1, k1⟩ := SeesAll.reprK (prog := prog) (w := w) h4 s1 (fun t ht => let ⟨p, hp, hl⟩ := PyData.shownKv_key_le kvs t ht; Nat.le_trans hl (Nat.le_trans (dictText_mem_le hp) zz))
    obtain ⟨b2, hb2, k2⟩ := SeesAll.reprK (prog := prog) (w := w) h5 s2 (fun t ht => let ⟨p, hp, hl⟩ := PyData.shownKv_val_le kvs t ht; Nat.le_trans hl (Nat.le_trans (dictText_mem_le hp) zz))
    obtain ⟨_, rr⟩ := (Sees.dict h1 h2 h3 hy h4 h5).reads
    have hb : ReadAtMost h₀ (PyData.depthKv kvs) (b1 ++ b2) := (hb1.mono (PyData.depthAll_keys_le kvs)).append (hb2.mono (PyData.depthAll_vals_le kvs))
    have hna : a ∉ b1 ++ b2 := not_mem_of_deeper rr (by simp only [PyData.depth]; omega) hb
    refine ⟨"dict", "dict.__repr__", F.slot_dict_repr, F.slot_dict_str, F.slot_dict_format, fun s hk0 => ⟨o, hk0 _ _ h1, h2⟩, fun A E s Q hg hu hk0 hQ => ?_⟩
    simp only [PyData.depth] at hu
    simp only [PyData.shown, PyData.shownKv_eq] at hQ
    exact call_dict_reprK h1 h2 h3 hy hna (ReprEntriesK.of_two es.toList _ _
      (k1.more_le (fun b hb => List.mem_append_left _ hb) (PyData.depthAll_keys_le kvs))
      (k2.more_le (fun b hb => List.mem_append_right _ hb) (PyData.depthAll_vals_le kvs))) hg (fun b _ => Clear.nil b) hu hk0 hQ (by rw [← PyData.shownKv_eq]; exact zz)
/-- repr of data -/
theorem Sees.repr {A : Around} {E : Value → Shared → Prop} {s : Shared} {Q : Value → Shared → Prop} {v : Value} {d : PyData} (r : Sees s.heap v d) (hs : d.showable = true) (hsz : d.shown.length ≤ sizeLine) (hg : A.guards = some []) (hu : A.units + (d.depth + 1) < cLine)
    (hQ : ∀ h' u tk, (∀ b o, s.heap.get? b = some o → h'.get? b = some o) → Q (.str d.shown u) { s with heap := h', toks := tk }) : wpAny (model prog w) A (call (.builtin "repr") [v]) Q E s := by
  cases v with
  | ref a =>
    obtain ⟨T, idr, S⟩ := r.showsBy (prog := prog) (w := w) hs hsz
    exact call_repr_slot (by omega) (S.typeIs s fun _ _ e => e) S.slotRepr (S.call A.in1 E s _ hg (by show A.units + 1 + d.depth < cLine; omega) (fun _ _ e => e) fun h' u tk hk => ⟨_, _, rfl, hQ h' u tk hk⟩)
  | none => cases r with | none => exact P.repr_of_none (by have z := hQ s.heap s.toks (s.toks + 1) (fun _ _ e => e); simpa only [PyData.shown] using z)
  | bool b => cases r with | bool b => exact P.repr_of_bool (by have z := hQ s.heap s.toks (s.toks + 1) (fun _ _ e => e); simpa only [PyData.shown] using z)
  | int i t => cases r with | int i t => exact P.repr_of_int (by simpa [PyData.showable] using hs) (by have z := hQ s.heap s.toks (s.toks + 1) (fun _ _ e => e); simpa only [PyData.shown] using z)
  | str x t => cases r with | str x t => exact P.repr_of_str (by have z := hQ s.heap s.toks (s.toks + 1) (fun _ _ e => e); simpa only [PyData.shown] using z) (by simpa only [PyData.shown] using hsz)
  | ellipsis => cases r
  | notImplemented => cases r
  | float _ _ => cases r
  | bytes _ _ => cases r
  | type _ => cases r
  | builtin _ => cases r
end
end PySem

namespace Xv
open PySem PySem.Spec PyProof.Rows L2
/-! ### data, dicts among them -/
def kD : Key → PyData
  | .inl i => .int i
  | .inr x => .str x
mutual
inductive Dr (K : PySem.W.Frag) (H : Hp) : V → PyData → Prop
  | non : Dr K H .non .none
  | bl (b : Bool) : Dr K H (.bl b) (.bool b)
  | int (i : Int) : Dr K H (.int i) (.int i)
  | str (x : Str) : Dr K H (.str x) (.str x)
  | lst {a : Addr} {xs : List V} {ds : List PyData} : SqL K H a xs → DrAll K H xs ds → Dr K H (.ref a) (.list ds)
  | tup {a : Addr} {xs : List V} {ds : List PyData} : SqT K H a xs → DrAll K H xs ds → Dr K H (.ref a) (.tuple ds)
  | dct {a : Addr} {kvs : List (Key × V)} {ps : List (PyData × PyData)} : H a = some (.dK kvs) → DrKv K H kvs ps → Dr K H (.ref a) (.dict ps)
inductive DrAll (K : PySem.W.Frag) (H : Hp) : List V → List PyData → Prop
  | nil : DrAll K H [] []
  | cons {v : V} {vs : List V} {d : PyData} {ds : List PyData} : Dr K H v d → DrAll K H vs ds → DrAll K H (v :: vs) (d :: ds)
inductive DrKv (K : PySem.W.Frag) (H : Hp) : List (Key × V) → List (PyData × PyData) → Prop
  | nil : DrKv K H [] []
  | cons {k : Key} {v : V} {kvs : List (Key × V)} {d : PyData} {ps : List (PyData × PyData)} : Dr K H v d → DrKv K H kvs ps → DrKv K H ((k, v) :: kvs) ((kD k, d) :: ps)
end
theorem same_tup {K : PySem.W.Frag} {H H' : Hp} {a : Addr} {xs : List V} (e : Same H H') (h : SqT K H a xs) : SqT K H' a xs := by
  rcases h with (h | ⟨o, h⟩) | h
  · exact .inl (.inl (e _ _ h))
  · exact .inl (.inr ⟨o, e _ _ h⟩)
  · exact .inr h
mutual
theorem Dr.same {K : PySem.W.Frag} {H H' : Hp} (e : Same H H') : ∀ {v : V} {d : PyData}, Dr K H v d → Dr K H' v d
  | _, _, .non => .non
  | _, _, .bl b => .bl b
  | _, _, .int i => .int i
  | _, _, .str x => .str x
  | _, _, .lst h hs => .lst (e.seq h) (DrAll.same e hs)
  | _, _, .tup h hs => .tup (same_tup e h) (DrAll.same e hs)
  | _, _, .dct h h1 => .dct (e _ _ h) (DrKv.same e h1)
theorem DrAll.same {K : PySem.W.Frag} {H H' : Hp} (e : Same H H') : ∀ {vs : List V} {ds : List PyData}, DrAll K H vs ds → DrAll K H' vs ds
  | _, _, .nil => .nil
  | _, _, .cons h hs => .cons (Dr.same e h) (DrAll.same e hs)
theorem DrKv.same {K : PySem.W.Frag} {H H' : Hp} (e : Same H H') : ∀ {vs : List (Key × V)} {ds : List (PyData × PyData)}, DrKv K H vs ds → DrKv K H' vs ds
  | _, _, .nil => .nil
  | _, _, .cons h hs => .cons (Dr.same e h) (DrKv.same e hs)
end
section
variable {X : Cx} {pins : List (Addr × Obj)} {σ : St} {H : Hp} {s : Shared}
theorem key_sees {P : Program} {w : World} {h : Heap} {k : Key} {v : Value} (e : (mixKind P w).is k v = true) : Sees h v (kD k) := by
  rcases keyIs_shape e with ⟨i, t, rfl, rfl⟩ | ⟨x, t, rfl, rfl⟩
  · exact .int i t
  · exact .str x t
mutual
theorem Dr.sees (I : Inv X pins σ H s) : ∀ {v : V} {d : PyData}, Dr X.K H v d → ∀ {u : Value}, RelV v u → Sees s.heap u d
  | _, _, .non, _, r => by
    cases r
    exact .none
  | _, _, .bl b, _, r => by
    cases r
    exact .bool b
  | _, _, .int i, _, r => by
    obtain ⟨t, rfl⟩ := r
    exact .int i t
  | _, _, .str x, _, r => by
    obtain ⟨t, rfl⟩ := r
    exact .str x t
  | _, _, .lst hs ha, _, r => by
    cases r
    obtain ⟨its, rv, ⟨o, n, ho, hc, _, hd⟩, _⟩ := I.list hs
    exact .list ho hc hd (DrAll.sees I ha rv)
  | _, _, .tup hs ha, _, r => by
    cases r
    obtain ⟨its, rv, ⟨o, ho, hc, n, hd⟩, _⟩ := I.tuple hs
    exact .tuple ho hc hd (DrAll.sees I ha rv)
  | _, _, .dct ha h1, _, r => by
    cases r
    obtain ⟨_, hy, vs, rel, o, es, ep, ho, hx, hd, _, hp, _⟩ := dk_of I.hok ha
    obtain ⟨z1, z2⟩ := DrKv.sees I h1 rel hp
    exact .dict ho hx.1 hd hy z1 z2
theorem DrAll.sees (I : Inv X pins σ H s) : ∀ {vs : List V} {ds : List PyData}, DrAll X.K H vs ds → ∀ {us : List Value}, Vals vs us → SeesAll s.heap us ds
  | _, _, .nil, _, r => by
    cases r
    exact .nil
  | _, _, .cons h1 h2, _, r => by
    cases r with
    | cons r1 r2 => exact .cons (Dr.sees I h1 r1) (DrAll.sees I h2 r2)
theorem DrKv.sees (I : Inv X pins σ H s) : ∀ {kvs : List (Key × V)} {ps : List (PyData × PyData)}, DrKv X.K H kvs ps → ∀ {vs : List (Key × Value)} {es : List DictEntry}, KV kvs vs → PySem.Pairs (mixKind X.prog X.w) es vs →
    SeesAll s.heap (es.map (·.key)) (ps.map (·.1)) ∧ SeesAll s.heap (es.map (·.val)) (ps.map (·.2))
  | _, _, .nil, _, _, r, p => by
    cases r
    cases p
    exact ⟨.nil, .nil⟩
  | _, _, .cons (k := k) h1 h2, _, _, r, p => by
    cases r with
    | cons r1 r2 =>
      cases p with
      | cons hk hv p2 =>
        obtain ⟨e1, e2⟩ := r1
        dsimp only at e1 e2
        obtain ⟨z1, z2⟩ := DrKv.sees I h2 r2 p2
        rw [← e1] at hk
        rw [← hv] at e2
        exact ⟨.cons (key_sees hk) z1, .cons (Dr.sees I h1 e2) z2⟩
end
/-- repr(e), e data -/
@[irreducible] def rRepr (K : PySem.W.Frag) : List V → Hp → VK → Prop := fun xs H Q => ∃ v d, xs = [v] ∧ Dr K H v d ∧ d.showable = true ∧ d.depth ≤ 60 ∧ d.shown.length ≤ sizeLine ∧ Q (.str d.shown) H
theorem call_repr (hg : X.A.guards = some []) (hu : X.A.units + 64 < cLine) : CallR X (.builtin "repr") (rRepr X.K) := by
  intro pins s σ H xs us Q I r h
  unfold rRepr at h
  obtain ⟨v, d, rfl, hd, hs, hdp, hz, q⟩ := h
  obtain ⟨u, rfl, ru⟩ := vals1 r
  exact (Dr.sees I hd ru).repr hs hz hg (by omega) fun h' t tk k => ⟨.str d.shown, H, I.kept (t' := tk) k, ⟨t, rfl⟩, q⟩
end
/-! ### defs that are called while nothing is being shown -/
structure FnG (P : Program) (w : World) (K : PySem.W.Frag) (mg : Str → Option Value) (base : Heap) (k : Nat) (f : Addr) (fd : FuncData) (ps : List Str) (sp : Sp) : Prop where
  len : ∀ vs H Q E, sp vs H Q E → vs.length = ps.length
  run : ∀ (A : Around) (outer : List Env) (s : Shared) (H : Hp) (args : Args) (us : List Value) (vs : List V) (Q : VK), Room k A → A.guards = some [] → Env0 P w K mg base A outer s H → BindsTo s fd args (ps.zip us) → Vals vs us → sp vs H Q E0 →
    codeAny (model P w) A (.call (.ref f) args) (CR CX0 outer P w H s Q E0) s
section
variable {P : Program} {w : World} {K : PySem.W.Frag} {mg : Str → Option Value} {base : Heap}
theorem Fun.okG {x qual : Str} {st : Stmt} {f : Addr} {fd : FuncData} {N ps : List Str} {k : Nat} {sp : Sp} (F : Fun K x qual st f fd) (S : FnScope N ps (defScope st)) (len : ∀ vs H Q E, sp vs H Q E → vs.length = ps.length)
    (hbody : ∀ (cdv : Value) (A : Around) (outer : List Env) (s : Shared) (H : Hp) (vs : List V) (Q : VK), Room k (A.deeper (envOfC qual (defScope st) s.heap.objs.size f cdv)) → (A.deeper (envOfC qual (defScope st) s.heap.objs.size f cdv)).guards = some [] → sp vs H Q E0 →
      ∃ t, PSs (cxOf CX0 P w K mg base N qual (defScope st) f cdv A outer s H E0).nox (defBody st) t ∧ t { nx := fun _ H' => Q .non H', rt := Q } (start N vs) H) : FnG P w K mg base (k + 1) f fd ps sp := by
  obtain ⟨oc, od, kV, doc, pm, an, cdv, ct, osl, rfl, lk, hcd⟩ := F.ex
  refine ⟨len, fun A outer s H args us vs Q hr hgd e0 hb r hsp => ?_⟩
  have hl := len _ _ _ _ hsp
  have X1 : K.In s.heap := e0.mod.kin.keeps fun b o e => (e0.bs b o e).1
  have lim : s.heap.NoLimit := e0.mod.nolimit.keeps fun b o e => (e0.bs b o e).1
  have kinds : ∀ y ∈ ps.zip us, (defScope st).names.lookup y.1 = some .local ∨ ((defScope st).names.lookup y.1 = some .cell ∧ ((cellsFrom (s.heap.objs.size + 1) (defScope st).names []).lookup y.1).isSome = true) := fun ⟨n, v⟩ hy => by
    rcases S.par n (List.of_mem_zip hy).1 with q | q
    · exact .inl q
    · exact .inr ⟨q, PySem.W.cellsFrom_some _ _ _ (.inl q)⟩
  refine codeAny_call_function hr.depth (X1 _ _ lk) rfl S.co S.gen rfl (PySem.W.codeRec_of X1 hcd) (hb _ _ _ _ ?_)
  refine wpAny_newFunctionEnv_cells S.kind kinds fun env he s1 x => ?_
  subst he
  refine ⟨lim.keeps x.toInCall.keep, codeAny_func ?_⟩
  obtain ⟨t, ht, hq⟩ := hbody cdv A outer s H vs Q (hr.deeper _) hgd hsp
  have I : Inv (cxOf CX0 P w K mg base N qual (defScope st) f cdv A outer s H E0) [] (start N vs) H s1 := inv_start S hr.hd e0 hl r x
  refine wpAny_mono (ht.nox.run [] s1 (start N vs) H _ I hq) (fun fl s' hs => ?_) fun e s' hs => hs
  have fin : ∀ {σ' : St} {H' : Hp} {v : V} {u : Value}, Inv (cxOf CX0 P w K mg base N qual (defScope st) f cdv A outer s H E0) [] σ' H' s' → RelV v u → Q v H' → CE outer P w H s Q u s' :=
    fun {σ' H' v u} J rv q => ⟨v, H', J.os, J.bare, J.base, J.hok, rv, q⟩
  cases fl with
  | ret u =>
    obtain ⟨v, σ', H', J, rv, q⟩ := hs
    exact fin J rv q
  | next =>
    obtain ⟨σ', H', J, q⟩ := hs
    exact fin (v := V.non) (u := Value.none) J rfl q
  | brk =>
    obtain ⟨_, _, _, q⟩ := hs
    exact False.elim q
  | cont =>
    obtain ⟨_, _, _, q⟩ := hs
    exact False.elim q
end
section
variable {X : Cx} {k : Nat} {f : Addr} {fd : FuncData} {ps : List Str} {sp : Sp} {x : Str} {p pos : Pos} {e : Expr} {es : List Expr} {t : TA}
theorem pe_callGd (F : FnG X.prog X.w X.K X.mg X.base k f fd ps sp) (hr : Room k X.A) (hgd : X.A.guards = some []) (hg : Gl X x) (hm : X.mg x = some (.ref f)) (hk : PySem.W.keepIn X.K (.ref f) = true) (hb : Binds X.K fd ps [])
    (ha : PA X (e :: es) t) (hdb : (x == ("__debug__" : Str)) = false := by decide) (he : starEach (e :: es) X.env = (false, eval e X.env) :: starEach es X.env := by rfl) (hpl : (backTo pos (starEach es X.env)).any (·.1) = false := by rfl) :
    PE X (.Call (.Name x p) (e :: es) [] pos) (tCall sp [] E0 t) := by
  refine ⟨fun pins s σ H Q I h => ?_⟩
  refine wpAny_Call_Name_kw (ld_glob I hg hm ?_ hdb)
  refine PySem.W.callWith_K (h₀ := X.base) I.ok.mod.kin hk (thn (ha.run pos pins s σ H _ I h) fun us s1 ⟨vs, H1, I1, r, q⟩ => ⟨I1.kIn, ?_⟩) he hpl
  dsimp only at q
  rw [List.append_nil] at q
  have hl : us.length = ps.length := by
    rw [← r.length]
    exact F.len _ _ _ _ q
  have bb := hb s1 us I1.kIn (by rw [List.append_nil]; exact hl)
  rw [List.append_nil] at bb
  refine wpAny_call (codeAny_mono (F.run X.A X.stack s1 H1 ⟨us, []⟩ us vs Q hr hgd I1.env0 bb r q) fun r s' hq => ?_)
  cases r with
  | error e => exact False.elim hq
  | ok fl =>
    cases fl with
    | ret u => exact I1.after hq
    | next => exact False.elim hq
    | brk => exact False.elim hq
    | cont => exact False.elim hq
end
/-! ### the law's call -/
theorem law_callG {P : Program} {w : World} {K : PySem.W.Frag} {mg mb : Str → Option Value} {k : Nat} {fa a : Addr} {fd : FuncData} {x : Str} {sp : Sp} {s₁ : Shared} {vs : List Value} {ns : List Int}
    (KX : K.In s₁.heap) (hns : s₁.heap.Ns mainGlobals mg) (hb : s₁.heap.Ns builtinsNs mb) (hbb : ∀ x : Str, x ≠ "__name__" → mb x = bootBuiltins x) (hlim : s₁.heap.NoLimit) (hg : s₁.gens = #[])
    (ha : s₁.heap.get? a = some { cls := .type "list", data := .seq vs.toArray }) (hi : IntsAre vs ns) (hl : ns.length ≤ sizeLine) (hr : Room k callerA)
    (F : ∀ base : Heap, K.In base → base.Ns mainGlobals mg → FnG P w K mg base k fa fd [x] sp) (hbind : ∀ (s : Shared) (u : Value), BindsTo s fd ⟨[u], []⟩ [(x, u)])
    (hsp : ∀ H : Hp, Only H → SqL K H a (ns.map V.int) → sp [.ref a] H (fun v _ => v = .bl true) E0) :
    codeAny (model P w) callerA (.call (.ref fa) ⟨[.ref a], []⟩) (fun r s' => r = .ok (.ret (.bool true)) ∧ OldK s₁.heap s'.heap ∧ s'.os = s₁.os ∧ AllBare s'.gens) s₁ := by
  have rv := vals_ints hi
  have lenV := hi.length
  have core : ∀ H : Hp, Only H → SqL K H a (ns.map V.int) → HOk P w H s₁.heap → (∀ b, H b ≠ none → b = a) → (H a ≠ none → K.lookup a = none) →
      codeAny (model P w) callerA (.call (.ref fa) ⟨[.ref a], []⟩) (fun r s' => r = .ok (.ret (.bool true)) ∧ OldK s₁.heap s'.heap ∧ s'.os = s₁.os ∧ AllBare s'.gens) s₁ := by
    intro H hO hS hok hA hK
    have noA : ∀ {b : Addr} {o : Obj} {es : Array DictEntry} {ep : Nat}, s₁.heap.get? b = some o → o.data = .dict es ep → H b = none := fun {b o es ep} e d => by
      cases q : H b with
      | none => rfl
      | some u =>
        obtain rfl : b = a := hA b (by rw [q]; simp)
        rw [ha] at e
        cases e
        cases (show Data.seq vs.toArray _ = Data.dict es ep from d)
    have nsK : ∀ {b : Addr} {m : Str → Option Value}, s₁.heap.Ns b m → (hidT s₁.heap H).Ns b m := fun {b m} ⟨o, es, ep, e, d, r⟩ => ⟨o, es, ep, hidT_get e (noA e d), d, r⟩
    have hKb : K.In (hidT s₁.heap H) := fun b o e => hidT_get (KX b o e) (by
      cases q : H b with
      | none => rfl
      | some u =>
        obtain rfl : b = a := hA b (by rw [q]; simp)
        rw [hK (by rw [q]; simp)] at e
        cases e)
    have hM : Mod K mg (hidT s₁.heap H) := ⟨hKb, nsK hns, ⟨mb, nsK hb, hbb⟩, let ⟨mc, h1, h2⟩ := hlim; ⟨mc, nsK h1, h2⟩⟩
    have e0 : Env0 P w K mg (hidT s₁.heap H) callerA [] s₁ H := ⟨rfl, hM, fun b o e => of_hidT e, Nat.le_of_eq (hidT_size _ _), trivial, fun b hb => absurd (show b ∈ ([] : List Addr) from hb) (by simp), hok, .of_eq hg⟩
    refine codeAny_mono ((F _ hKb (nsK hns)).run callerA [] s₁ H ⟨[.ref a], []⟩ [.ref a] [.ref a] _ hr rfl e0 (hbind s₁ (.ref a)) (.cons rfl .nil) (hsp H hO hS)) fun r s' h => ?_
    cases r with
    | error e => exact False.elim h
    | ok fl =>
      cases fl with
      | next => exact False.elim h
      | brk => exact False.elim h
      | cont => exact False.elim h
      | ret u =>
        obtain ⟨v, H', os, bare, un, hok', r', q⟩ := h
        obtain rfl : v = .bl true := q
        obtain rfl : u = Value.bool true := r'
        refine ⟨rfl, OldK.of_keep fun b o e => ?_, os, bare⟩
        cases q : H b with
        | none => exact un.keep b o e q (by intro z; exact absurd (show b ∈ ([] : List Addr) from z) (by simp)) (by simp)
        | some u =>
          rcases hO b with z | ⟨ob, xs, z⟩
          · rw [q] at z
            cases z
          · have z2 := un.frzs b ob _ z
            obtain ⟨e1, _⟩ := hok b _ z
            obtain ⟨e2, _⟩ := hok' b _ z2
            rw [e] at e1
            cases e1
            exact e2
  cases hk : K.lookup a with
  | some o =>
    have e := KX a o hk
    rw [ha] at e
    cases e
    refine core (fun _ => none) (fun _ => .inl rfl) (.inr ⟨_, vs.toArray, _, hk, rfl, rfl, rfl, by rw [List.size_toArray, lenV]; exact hl, by simpa using rv⟩) (fun b u z => ?_) (fun b z => absurd rfl z) fun z => absurd rfl z
    cases (show (none : Option HO) = some u from z)
  | none =>
    refine core (fun b => if b = a then some (.frz { cls := .type "list", data := .seq vs.toArray } (.lst (ns.map V.int))) else none) (fun b => ?_) (.inl (.inr ⟨{ cls := .type "list", data := .seq vs.toArray }, if_pos rfl⟩)) (fun b u z => ?_) (fun b z => ?_) fun _ => hk
    · by_cases hb : b = a
      · exact .inr ⟨_, _, if_pos hb⟩
      · exact .inl (if_neg hb)
    · by_cases hb : b = a
      · cases (if_pos hb).symm.trans z
        subst hb
        exact ⟨ha, by rw [List.length_map]; exact hl, vs, _, rv, ha⟩
      · cases (if_neg hb).symm.trans z
    · by_cases hb : b = a
      · exact hb
      · exact absurd (if_neg hb) z
theorem walkG {l : PySem.W.OpenLaw} {n k : Nat} {q : Program} {loose : List Str} {XP : (Str → Option Value) → Heap → Prop} {YP : World → Heap → Prop} {d : DefRec} {K : Params → PySem.W.Frag} {sp : World → Sp} {x : Str}
    (hn : l.most = some n) (hn2 : n ≤ sizeLine) (hdf : d.params.defaults = []) (hr : Room k callerA)
    (hY : ∀ (w : World) (h : Heap), YP w h → (K w.params).In h)
    (F : ∀ (w : World) (mg : Str → Option Value) (fa : Addr) (h : Heap), (K w.params).In h → h.Ns mainGlobals mg → mg d.name = some (.ref fa) →
      ∃ fd : FuncData, (∀ (s : Shared) (u : Value), BindsTo s fd ⟨[u], []⟩ [(x, u)]) ∧
        ∀ base : Heap, (K w.params).In base → base.Ns mainGlobals mg → FnG l.prog w (K w.params) mg base k fa fd [x] (sp w))
    (hsp : ∀ (w : World) (H : Hp) (a : Addr) (ns : List Int), ns.length ≤ n → Only H → SqL (K w.params) H a (ns.map V.int) → sp w [.ref a] H (fun v _ => v = .bl true) E0) :
    PySem.W.WalkO q loose XP YP l.row.toRowW d [] (fun f vs => PySem.call f vs) := by
  refine Att.attach_call hn hdf fun w s₀ s₁ mg mb fa o pm cd doc a vs ns G Y ho hd hcd hmg hobj hints hlen hg => ?_
  have KX := hY w _ Y
  obtain ⟨fd, hb, hF⟩ := F w mg fa _ KX G.T.g hmg
  exact law_callG KX G.T.g G.T.b G.T.builtins G.T.nolimit hg hobj hints (Nat.le_trans hlen hn2) hr hF hb (fun H hO hS => hsp w H a ns hlen hO hS)
end Xv

namespace PySem
namespace Xv
open PySem.W PySem.Calls PyProof.Rows
def supS : Scope := { kind := .function, names := [(PySem.Str.ofString "self", .local), (PySem.Str.ofString "__class__", .free), (PySem.Str.ofString "super", .globalImplicit)], isGenerator := false, isCoroutine := false, more := [] }
/-- what the written part says of an __init__ that hands a text on to the base's -/
structure SupT (prog : Program) (K : Frag) (C fI : Addr) (fd : FuncData) (i B newId : String) (bmB : List Value) : Prop where
  fn : ∃ (qual : Str) (params : Arguments) (kV doc pm : Value) (an : Option Addr) (cda cc : Addr) (ct oc : Value) (od : Option Addr) (osl : Array (Option Value)) (ar : Arg) (p0 p1 p2 p3 p4 p5 : Pos) (txt : Str) (kd : Nat)
      (vs : Array Value) (file : Str) (tf : Tok) (ccl cl : Value) (cdd cld : Option Addr) (ccs csl : Array (Option Value)),
    fd = ksFn "__init__" qual params [.Expr (.Call (.Attribute (.Call (.Name "super" p0) [] [] p1) "__init__" p2) [.Constant (.str txt) kd p3] [] p4) p5] supS .none kV doc pm an (.ref cda) ct cc ∧
    K.lookup fI = some ⟨oc, od, .func fd, osl⟩ ∧ codeIn K (.ref cda) qual = true ∧
    (params.posonlyargs ++ params.args).head? = some ar ∧ ar.arg = ("self" : Str) ∧
    K.lookup cda = some ⟨ccl, cdd, .fields vs, ccs⟩ ∧ vs[2]? = some (.str file tf) ∧ ((prog.main.file : Str) == file) = true ∧
    K.lookup cc = some ⟨cl, cld, .cell (some (.ref C)), csl⟩ ∧
    (∀ L : Addr, ∃ pl, eval (.Call (.Attribute (.Call (.Name "super" p0) [] [] p1) "__init__" p2) [.Constant (.str txt) kd p3] [] p4) (ksEnv qual supS L fI (.ref cda) cc) = (do
      let ov ← attributeBase (.Call (.Name "super" p0) [] [] p1) "__init__" (ksEnv qual supS L fI (.ref cda) cc) (eval (.Call (.Name "super" p0) [] [] p1) (ksEnv qual supS L fI (.ref cda) cc))
      standAt p2.atName
      let (f, first) ← holding [ov] (getMethod ov "__init__" pl)
      callWith p4 f first (backTo p4 (starEach [.Constant (.str txt) kd p3] (ksEnv qual supS L fI (.ref cda) cc))) []))
  hD : (clsIn K C).isSome = true
  sup : ks_superIn K C C "__init__" = some (some (.builtin i))
  self : mroIn K C (.ref C) = some true
  base : subIn K (.ref C) (.type B) = some true
  opq : nsIn K cStatics "thirdparty.any" = some none
  sup0 : nsIn K mainGlobals "super" = some none
  top : (prog.main.scope.names.lookup ("super" : Str)).isSome = false
  ini : excInitIn K C bmB newId = true
theorem sup_init {prog : Program} {w : World} {A : Around} {R : Result → Shared → Prop} {s : Shared} {K : Frag} {C fI x t0 : Addr} {fd : FuncData} {i B newId : String} {bmB : List Value} {mg mb : Str → Option Value} {args : Args}
    (T : SupT prog K C fI fd i B newId bmB) (KF : KxsFacts B i) (FB : ExcBaseFacts B newId i bmB) (X : K.In s.heap) (hlim : s.heap.NoLimit) (hG : s.heap.Ns mainGlobals mg) (hS : mg "super" = none) (hB : s.heap.Ns builtinsNs mb) (hBB : ∀ x : Str, x ≠ "__name__" → mb x = bootBuiltins x)
    (hx : s.heap.get? x = some (excObj C t0 none .none)) (hroom : A.depth < recursionLimit) (hbind : BindsTo s fd args [("self", .ref x)])
    (hq : ∀ h' tk t1, (∀ b o, b ≠ x → s.heap.get? b = some o → h'.get? b = some o) → h'.get? x = some (excObj C t1 none .none) → R (.ok (.ret .none)) { s with heap := h', toks := tk }) :
    codeAny (model prog w) A (.call (.ref fI) args) R s := by
  obtain ⟨qual, params, kV, doc, pm, an, cda, cc, ct, oc, od, osl, ar, p0, p1, p2, p3, p4, p5, txt, kd, vs, file, tf, ccl, cl, cdd, cld, ccs, csl, rfl, lk, hcd, hhead, har, hcda, hvs, hfile, hcc, hev⟩ := T.fn
  obtain ⟨cd, hcl⟩ := Option.isSome_iff_exists.mp T.hD
  obtain ⟨oD, hD1, hD2⟩ : ∃ oD, s.heap.get? C = some oD ∧ oD.data = .cls cd := by
    unfold clsIn at hcl
    split at hcl
    · rename_i c d cd' sl ho
      cases hcl
      exact ⟨_, X _ _ ho, rfl⟩
    · cases hcl
  refine ks_codeAny_call_defAt (fd := ksFn "__init__" qual params _ supS .none kV doc pm an (.ref cda) ct cc) (binds := [(("self" : Str), .ref x)]) hroom (X _ _ lk) rfl hlim (codeRec_of X hcd) rfl hbind (show ∀ y ∈ supS.names, y.2 ≠ .cell by decide) (fun y hy => by
    rcases List.mem_cons.mp hy with rfl | hy
    · rfl
    · cases hy) (fun h₁ hns hk₁ => ?_)
  have X₁ : K.In h₁ := X.keeps hk₁
  have hx₁ := hk₁ _ _ hx
  have I₁ : InstAt h₁ x (excObj C t0 none .none) C none := ⟨hx₁, rfl, rfl, trivial⟩
  obtain ⟨pl, hev⟩ := hev s.heap.objs.size
  refine ks_wpAt_execs_cons (ks_wpAt_Expr_any (ks_wpAt_MethodCall ?_ hev))
  refine ks_wpAt_super_base (env := ksEnv qual supS s.heap.objs.size fI (.ref cda) cc) rfl rfl (by decide +kernel) rfl (hk₁ _ _ (X _ _ lk)) rfl hhead rfl (hk₁ _ _ (X _ _ hcda)) rfl hvs hfile T.top ?_
  refine ks_loadName_global rfl rfl (loadGlobal_builtin (env := ksEnv qual supS s.heap.objs.size fI (.ref cda) cc) (hG.keeps hk₁) hS (hB.keeps hk₁) ((hBB _ (by decide +kernel)).trans PyProof.Rows.Boot.«super») ⟨rfl, ?_⟩)
  refine wpAny_loadName_free rfl rfl rfl ⟨_, hk₁ _ _ (X _ _ hcc), rfl⟩ ?_
  rw [har]
  refine wpAny_loadName_local (v := .ref x) rfl rfl hns (by rfl) ?_
  refine ks_wpAny_isType_cls (hk₁ _ _ hD1) hD2 ⟨rfl, ?_⟩
  refine ks_wpAny_call_super (hk₁ _ _ hD1) hD2 I₁.at_ I₁.cls (fun c e => nomatch e) (looks_mroIn X₁ T.self) (fun h₂ e₂ k₂ => ?_)
  have X₂ : K.In h₂ := X₁.keeps k₂
  have hx₂ := k₂ _ _ hx₁
  have I₂ : InstAt h₂ x (excObj C t0 none .none) C none := ⟨hx₂, rfl, rfl, trivial⟩
  have hI : Looks (model prog w) h₂ (isInstance (.ref x) (.type B)) true := I₂.type.andThen (looks_subIn X₂ T.base)
  have hm := T.sup
  unfold ks_superIn at hm
  rw [hcl] at hm
  refine kxs_getMethod KF e₂ (looks_opaque X₂ T.opq) (l₀ := cd.mro) (fun A Q E s k q => wpAny_bind ((looks_clsIn X₂ hcl) A _ E s k (wpAny_pure q))) rfl X₂ hm hI (ks_ne X₂ I₂ hcl) (by decide +kernel) ?_
  have hu : (h₂.push (kxs_mw i x)).get? h₂.objs.size = some (kxs_mw i x) := Heap.get?_push_at rfl rfl
  have k₃ : ∀ b o, s.heap.get? b = some o → (h₂.push (kxs_mw i x)).get? b = some o := fun b o e => Heap.get?_push_of_some _ (k₂ _ _ (hk₁ _ _ e))
  refine kxs_callWith (i := i) (x := x) rfl ?_
  refine evalArgs_plain ?_
  refine Calls.spliced_cons ?_
  show wpAny _ _ (eval (.Constant (.str txt) kd p3) (ksEnv qual supS s.heap.objs.size fI (.ref cda) cc)) _ _ _
  refine Calls.Constant_str ?_
  refine Calls.spliced_nil ⟨hu, ?_⟩
  obtain ⟨nm, N', qn, bs, bm, hdct, sn, sub, ab, col, dd, k0, k1, k2, k3, k5, hC, hT⟩ := excInit_of (X.keeps k₃) T.ini
  refine wpAny_call (codeAny_of_tree ?_)
  show wpAny _ _ (callAny (.ref h₂.objs.size) _) _ _ _
  simp only [callAny]
  refine wpAny_bind (wpAny_load hu ?_)
  simp only [kxs_mw, show (Value.type "method-wrapper" == Value.type "method" || Value.type "method-wrapper" == Value.type "builtin_function_or_method" || Value.type "method-wrapper" == Value.type "method-wrapper") = true by decide, if_true]
  refine KFB.if_so (by decide) ?_
  refine wpAny_bind (check_bound_init FB.toExcCallFacts hC (k₃ _ _ hx) rfl ?_)
  refine wpAny_bind (wpAny_pure (wpAny_pure ?_))
  refine ⟨plainId_quiet FB.init.plain _, codeAny_builtin FB.initEntry ?_⟩
  refine exc_init_tree (cls := .ref C) (t0 := t0) (dv := none) (c2 := .none) (c3 := .none) (b4 := .bool false) (k₃ _ _ hx) (by rw [sizeLine_eq]; show 1 ≤ 16777216; decide) (fun h' kk ex _ => ?_)
  refine wpAt_of_wpAny (wpAny_execs_nil ?_)
  exact hq _ _ _ (fun b o hb e => kk b o hb (k₃ _ _ e)) ex
end Xv
end PySem

namespace Xv
open PySem PySem.Spec PyProof.Rows L2
/-- a stronger reading -/
theorem PE.imp {X : Cx} {e : Expr} {t t' : TE} (h : PE X e t) (k : ∀ σ H Q, t' σ H Q → t σ H Q) : PE X e t' := ⟨fun pins s σ H Q I q => h.run pins s σ H Q I (k σ H Q q)⟩
/-! ### self.f = e -/
def tPut (K : PySem.W.Frag) (f : Str) (to te : TE) : TS := fun D σ H => te σ H fun y H1 => to σ H1 fun x H2 => ∃ (a C fI : Addr) (B newId initId : String) (bmB : List Value), x = .ref a ∧ Bas B newId initId bmB ∧ ExT K C fI newId bmB ∧ PySem.W.takerIn K C f = some none ∧
  ((H2 a = some (exo a C none) ∧ ∀ dx, H2 dx = none → dx ≠ a → D.nx σ (upd (upd H2 dx (exd dx [(f, y)])) a (exo a C (some dx)))) ∨
    ∃ (dx : Addr) (fs : List (Str × V)), H2 a = some (exo a C (some dx)) ∧ H2 dx = some (exd dx fs) ∧ fs.length ≤ 900 ∧ D.nx σ (upd H2 dx (exd dx ((f, y) :: fs))))
theorem ps_put {X : Cx} {o e : Expr} {to te : TE} {f : Str} {p' pos : Pos} (ho : PE X o to) (he : PE X e te) (hs : swapsWith e (some (.Attribute o f p')) pos.line X.env = pure false := by rfl) : PS X (.Assign [.Attribute o f p'] e pos) (tPut X.K f to te) := by
  refine ⟨fun pins s σ H D I h => ?_⟩
  refine plainObj_wpAny_Assign_Attribute (thn (he.run pins s σ H _ I h) fun v s1 ⟨y, H1, I1, r1, q1⟩ => thn (ho.run pins s1 σ H1 _ I1 q1) fun u s2 ⟨x, H2, I2, r2, a, C, fI, B, newId, initId, bmB, ex, b, T, hno, q⟩ => ?_) hs
  subst ex
  obtain rfl : u = Value.ref a := r2
  rcases q with ⟨ea, q⟩ | ⟨dx, fs, ea, ed, hl, q⟩
  · exact put_first b T I2 ea hno r1 fun dx s' n ne J => ⟨σ, _, J, q dx n ne⟩
  · exact put_more b T I2 ea ed hl hno r1 fun s' J => ⟨σ, _, J, q⟩
/-! ### exceptions as values -/
def XV (H : Hp) (C : Addr) (fo : Option (List (Str × V))) (x : V) : Prop := ∃ a, x = .ref a ∧ ((fo = none ∧ H a = some (exo a C none)) ∨ ∃ d fs, fo = some fs ∧ H a = some (exo a C (some d)) ∧ H d = some (exd d fs))
theorem XV.same {H H' : Hp} {C : Addr} {fo : Option (List (Str × V))} {x : V} (e : Same H H') (h : XV H C fo x) : XV H' C fo x := by
  obtain ⟨a, rfl, ⟨r, q⟩ | ⟨d, fs, r, q1, q2⟩⟩ := h
  · exact ⟨a, rfl, .inl ⟨r, e _ _ q⟩⟩
  · exact ⟨a, rfl, .inr ⟨d, fs, r, e _ _ q1, e _ _ q2⟩⟩
def spI1 (C : Addr) (f : Str) : Sp := fun vs H Q _ => ∃ (a : Addr) (v : V), vs = [.ref a, v] ∧ H a = some (exo a C none) ∧ ∀ dx, H dx = none → dx ≠ a → Q .non (upd (upd H dx (exd dx [(f, v)])) a (exo a C (some dx)))
def spI2 (C : Addr) (f g : Str) : Sp := fun vs H Q _ => ∃ (a : Addr) (v w : V), vs = [.ref a, v, w] ∧ H a = some (exo a C none) ∧ ∀ dx, H dx = none → dx ≠ a → ∀ H', Same H (fun b => if b = a then H a else H' b) → H' a = some (exo a C (some dx)) → H' dx = some (exd dx [(g, w), (f, v)]) → Q .non H'
def spI0 (C : Addr) : Sp := fun vs H Q _ => ∃ (a : Addr), vs = [.ref a] ∧ H a = some (exo a C none) ∧ Q .non H
section
variable {P : Program} {w : World} {K : PySem.W.Frag} {mg : Str → Option Value} {base : Heap} {fI C : Addr} {fd : FuncData} {qual f g : Str} {st : Stmt} {B newId initId : String} {bmB : List Value}
theorem ok_one (b : Bas B newId initId bmB) (T : ExT K C fI newId bmB) (hno : PySem.W.takerIn K C f = some none) (F : Fun K "__init__" qual st fI fd) (sc : FnScope ["self", f] ["self", f] (defScope st)) {p1 p2 p3 p4 : Pos}
    (hb : defBody st = [.Assign [.Attribute (.Name "self" p1) f p2] (.Name f p3) p4]) (vS : (defScope st).names.lookup ("self" : Str) = some .local) (vF : (defScope st).names.lookup f = some .local) (hd : (f == ("__debug__" : Str)) = false) (hcd : (f == ("__classdict__" : Str)) = false) :
    FnOk P w K mg base CX0 1 fI fd ["self", f] (spI1 C f) := by
  refine F.ok sc (fun vs H Q E h => ?_) (fun cdv A outer s H vs Q E hr h => ?_)
  · obtain ⟨a, v, rfl, _⟩ := h
    rfl
  · obtain ⟨a, v, rfl, ea, k⟩ := h
    rw [hb]
    refine ⟨_, pss_one (ps_put (pe_var (i := 0) rfl (.inl vS)) (pe_var (i := 1) rfl (.inl vF) hd hcd)), ?_⟩
    exact ⟨_, rfl, _, rfl, a, C, fI, B, newId, initId, bmB, rfl, b, T, hno, .inl ⟨ea, fun dx n ne => k dx n ne⟩⟩
theorem ok_two (b : Bas B newId initId bmB) (T : ExT K C fI newId bmB) (hno : PySem.W.takerIn K C f = some none) (hno2 : PySem.W.takerIn K C g = some none) (F : Fun K "__init__" qual st fI fd) (sc : FnScope ["self", f, g] ["self", f, g] (defScope st)) {p1 p2 p3 p4 q1 q2 q3 q4 : Pos}
    (hb : defBody st = [.Assign [.Attribute (.Name "self" p1) f p2] (.Name f p3) p4, .Assign [.Attribute (.Name "self" q1) g q2] (.Name g q3) q4]) (vS : (defScope st).names.lookup ("self" : Str) = some .local) (vF : (defScope st).names.lookup f = some .local) (vG : (defScope st).names.lookup g = some .local)
    (hd : (f == ("__debug__" : Str)) = false) (hcd : (f == ("__classdict__" : Str)) = false) (gd : (g == ("__debug__" : Str)) = false) (gcd : (g == ("__classdict__" : Str)) = false) :
    FnOk P w K mg base CX0 1 fI fd ["self", f, g] (spI2 C f g) := by
  refine F.ok sc (fun vs H Q E h => ?_) (fun cdv A outer s H vs Q E hr h => ?_)
  · obtain ⟨a, v, w, rfl, _⟩ := h
    rfl
  · obtain ⟨a, v, w, rfl, ea, k⟩ := h
    rw [hb]
    refine ⟨_, pss_cons (ps_put (pe_var (i := 0) rfl (.inl vS)) (pe_var (i := 1) rfl (.inl vF) hd hcd)) (pss_one (ps_put (pe_var (i := 0) rfl (.inl vS)) (pe_var (i := 2) rfl (.inl vG) gd gcd))), ?_⟩
    refine ⟨_, rfl, _, rfl, a, C, fI, B, newId, initId, bmB, rfl, b, T, hno, .inl ⟨ea, fun dx n ne => ?_⟩⟩
    refine ⟨_, rfl, _, rfl, a, C, fI, B, newId, initId, bmB, rfl, b, T, hno2, .inr ⟨dx, _, upd_same, by rw [upd_ne ne, upd_same], by show 1 ≤ 900; decide, ?_⟩⟩
    refine k dx n ne _ (fun c o q => ?_) (by rw [upd_ne ne.symm, upd_same]) upd_same
    by_cases hc : c = a
    · subst hc
      simp only [if_true]
      exact q
    · simp only [if_neg hc]
      rw [upd_ne (ne_of_none q n), upd_ne hc, upd_ne (ne_of_none q n)]
      exact q
/-- an __init__ that hands a text on -/
theorem ok_sup (T : PySem.Xv.SupT P K C fI fd initId B newId bmB) (KF : PySem.W.KxsFacts B initId) (FB : ExcBaseFacts B newId initId bmB) (hS : mg "super" = none) :
    FnOk P w K mg base CX0 1 fI fd ["self"] (spI0 C) := by
  refine ⟨fun vs H Q E h => ?_, fun A outer s H args us vs Q E hr e0 hb r h => ?_⟩
  · obtain ⟨a, rfl, _⟩ := h
    rfl
  · obtain ⟨a, rfl, ea, k⟩ := h
    cases r with
    | cons r1 r2 =>
      cases r2
      cases r1
      obtain ⟨t0, ho⟩ := exo_at e0.hok ea
      have kb : ∀ b o, base.get? b = some o → s.heap.get? b = some o := fun b o e => (e0.bs b o e).1
      obtain ⟨mb, h1, h2⟩ := e0.mod.blt
      refine PySem.Xv.sup_init (x := a) (t0 := t0) T KF FB (e0.mod.kin.keeps kb) (e0.mod.nolimit.keeps kb) (e0.mod.glob.keeps kb) hS (h1.keeps kb) h2 ho hr.depth hb fun h' tk t1 kk ex => ?_
      have eu : upd H a (exo a C none) = H := by
        funext b
        by_cases hb : b = a
        · rw [hb, upd_same, ea]
        · rw [upd_ne hb]
      have mu : Mut (H a) := by
        rw [ea]
        exact True.intro
      have U := Un.write (fs := frs outer) (ex := []) (o := exo a C none) mu (.inl rfl) kk ⟨_, ex⟩
      have W := HOk.write (o' := exo a C none) e0.hok mu (.inl rfl) kk ⟨_, ex⟩ (exo_ok ex)
      rw [eu] at U W
      exact ⟨.non, H, rfl, e0.bare, U, W, rfl, k⟩
end
/-! ### classes of exceptions, by their names -/
/-- a class with one field f -/
structure Ex1 (P : Program) (w : World) (K : PySem.W.Frag) (mg : Str → Option Value) (base : Heap) (x : Str) (C : Addr) (f : Str) : Prop where
  ex : ∃ (fI : Addr) (fd : FuncData) (B newId initId : String) (bmB : List Value), Bas B newId initId bmB ∧ ExT K C fI newId bmB ∧ FnOk P w K mg base CX0 1 fI fd ["self", f] (spI1 C f) ∧ Binds K fd ["self", f] [] ∧ KBn K fd ["self", f] 1 [f] (fun us ws => us ++ ws) (fun vs zs => vs ++ zs)
  gm : mg x = some (.ref C)
structure Ex2 (P : Program) (w : World) (K : PySem.W.Frag) (mg : Str → Option Value) (base : Heap) (x : Str) (C : Addr) (f g : Str) : Prop where
  ex : ∃ (fI : Addr) (fd : FuncData) (B newId initId : String) (bmB : List Value), Bas B newId initId bmB ∧ ExT K C fI newId bmB ∧ FnOk P w K mg base CX0 1 fI fd ["self", f, g] (spI2 C f g) ∧ Binds K fd ["self", f, g] [] ∧ KBn K fd ["self", f, g] 1 [g, f] (fun us ws => us ++ ws.reverse) (fun vs zs => vs ++ zs.reverse)
  gm : mg x = some (.ref C)
structure Ex0 (P : Program) (w : World) (K : PySem.W.Frag) (mg : Str → Option Value) (base : Heap) (x : Str) (C : Addr) : Prop where
  ex : ∃ (fI : Addr) (fd : FuncData) (B newId initId : String) (bmB : List Value), Bas B newId initId bmB ∧ ExT K C fI newId bmB ∧ FnOk P w K mg base CX0 1 fI fd ["self"] (spI0 C) ∧ Binds K fd ["self"] []
  gm : mg x = some (.ref C)
/-- X(e): a new exception -/
def tNew (C : Addr) (ta : TA) (fo : List V → Option (List (Str × V))) (n : Nat) : TE := fun σ H Q => ta σ H fun vs H1 => vs.length = n ∧ ∀ H2 x, Same H1 H2 → XV H2 C (fo vs) x → Q x H2
section
variable {X : Cx} {x f g : Str} {C : Addr} {e e2 : Expr} {ta : TA} {te te2 : TE} {p pos kp kp2 : Pos} {k : Nat}
theorem new_one {H1 : Hp} {v : V} {Q : VK} (q : ∀ H2 x, Same H1 H2 → XV H2 C (some [(f, v)]) x → Q x H2) (a : Addr) (n : H1 a = none) : spI1 C f [.ref a, v] (upd H1 a (exo a C none)) (fun u H2 => u = .non ∧ Q (.ref a) H2) E0 := by
  refine ⟨a, v, rfl, upd_same, fun dx nd ne => ⟨rfl, q _ _ (fun b o hb => ?_) ⟨a, rfl, .inr ⟨dx, _, rfl, upd_same, by rw [upd_ne ne, upd_same]⟩⟩⟩⟩
  rw [upd_ne ne] at nd
  rw [upd_ne (ne_of_none hb n), upd_ne (ne_of_none hb nd), upd_ne (ne_of_none hb n)]
  exact hb
theorem new_two {H1 : Hp} {v w : V} {Q : VK} (q : ∀ H2 x, Same H1 H2 → XV H2 C (some [(g, w), (f, v)]) x → Q x H2) (a : Addr) (n : H1 a = none) : spI2 C f g [.ref a, v, w] (upd H1 a (exo a C none)) (fun u H2 => u = .non ∧ Q (.ref a) H2) E0 := by
  refine ⟨a, v, w, rfl, upd_same, fun dx nd ne H' s ea ed => ⟨rfl, q _ _ (fun b o hb => ?_) ⟨a, rfl, .inr ⟨dx, _, rfl, ea, ed⟩⟩⟩⟩
  have z := s b o (by rw [upd_ne (ne_of_none hb n)]; exact hb)
  simp only [if_neg (ne_of_none hb n)] at z
  exact z
/-- arguments' readings may be weakened behind -/
def tMonA (t : TA) : TA := fun σ H Q => ∃ Q0 : List V → Hp → Prop, t σ H Q0 ∧ ∀ vs H1, Q0 vs H1 → Q vs H1
theorem pa_mon {es : List Expr} {t : TA} (h : PA X es t) : PA X es (tMonA t) := ⟨fun pos pins s σ H Q I ⟨Q0, q0, k⟩ => thn (h.run pos pins s σ H Q0 I q0) fun us s1 ⟨vs, H1, I1, r, q⟩ => ⟨vs, H1, I1, r, k vs H1 q⟩⟩
theorem pk_mon {kws : List Keyword} {t : TA} (h : PK X kws t) : PK X kws (tMonA t) := ⟨fun pos pins s σ H Q I ⟨Q0, q0, k⟩ => thn (h.run pos pins s σ H Q0 I q0) fun us s1 ⟨vs, H1, I1, r, q⟩ => ⟨vs, H1, I1, r, k vs H1 q⟩⟩
theorem pe_new1 (c : Ex1 X.prog X.w X.K X.mg X.base x C f) (hr : Room k X.A) (hk : 2 ≤ k) (hg : Gl X x) (ha : PA X [e] ta) (hdb : (x == ("__debug__" : Str)) = false := by decide) (he : starEach [e] X.env = (false, eval e X.env) :: starEach [] X.env := by rfl) :
    PE X (.Call (.Name x p) [e] [] pos) (tNew C ta (fun vs => some [(f, vs.headD .non)]) 1) := by
  obtain ⟨fI, fd, B, newId, initId, bmB, b, T, F, bi, _⟩ := c.ex
  refine PE.imp (pe_exv b T F (hr.mono hk) bi hg c.gm (pa_mon ha) hdb he (by rfl)) fun σ H Q h => ⟨_, h, fun vs H1 q => ?_⟩
  obtain ⟨hl, q⟩ := q
  match vs, hl with
  | [v], _ => exact ⟨by show 1 ≤ 1000; decide, fun a n => new_one q a n⟩
theorem pe_new2 (c : Ex2 X.prog X.w X.K X.mg X.base x C f g) (hr : Room k X.A) (hk : 2 ≤ k) (hg : Gl X x) (ha : PA X [e, e2] ta) (hdb : (x == ("__debug__" : Str)) = false := by decide) (he : starEach [e, e2] X.env = (false, eval e X.env) :: starEach [e2] X.env := by rfl)
    (hpl : (backTo pos (starEach [e2] X.env)).any (·.1) = false := by rfl) :
    PE X (.Call (.Name x p) [e, e2] [] pos) (tNew C ta (fun vs => some [(g, vs.getD 1 .non), (f, vs.headD .non)]) 2) := by
  obtain ⟨fI, fd, B, newId, initId, bmB, b, T, F, bi, _⟩ := c.ex
  refine PE.imp (pe_exv b T F (hr.mono hk) bi hg c.gm (pa_mon ha) hdb he hpl) fun σ H Q h => ⟨_, h, fun vs H1 q => ?_⟩
  obtain ⟨hl, q⟩ := q
  match vs, hl with
  | [v, w], _ => exact ⟨by show 2 ≤ 1000; decide, fun a n => new_two q a n⟩
theorem pe_new0 (c : Ex0 X.prog X.w X.K X.mg X.base x C) (hr : Room k X.A) (hk : 2 ≤ k) (hg : Gl X x) (hdb : (x == ("__debug__" : Str)) = false := by decide) :
    PE X (.Call (.Name x p) [] [] pos) (tNew C tNil (fun _ => none) 0) := by
  obtain ⟨fI, fd, B, newId, initId, bmB, b, T, F, bi⟩ := c.ex
  refine PE.imp (pe_exv0 b T F (hr.mono hk) bi hg c.gm hdb) fun σ H Q h => ?_
  obtain ⟨_, q⟩ := h
  exact ⟨by decide, fun a n => ⟨a, rfl, upd_same, rfl, q _ _ (fun b o hb => by rw [upd_ne (ne_of_none hb n)]; exact hb) ⟨a, rfl, .inl ⟨rfl, upd_same⟩⟩⟩⟩
theorem pe_new1K (c : Ex1 X.prog X.w X.K X.mg X.base x C f) (hr : Room k X.A) (hk : 2 ≤ k) (hg : Gl X x) (he : PE X e te) (hdb : (x == ("__debug__" : Str)) = false := by decide) :
    PE X (.Call (.Name x p) [] [⟨some f, e, kp⟩] pos) (tNew C (tCons te tNil) (fun vs => some [(f, vs.headD .non)]) 1) := by
  obtain ⟨fI, fd, B, newId, initId, bmB, b, T, F, _, bi⟩ := c.ex
  refine PE.imp (pe_exvK b T F (hr.mono hk) bi hg c.gm (pk_mon (pk_cons he pk_nil)) (by rfl) (by rfl) hdb (by rfl)) fun σ H Q h => ⟨_, h, fun vs H1 q => ?_⟩
  obtain ⟨hl, q⟩ := q
  match vs, hl with
  | [v], _ => exact ⟨rfl, fun a n => new_one q a n⟩
theorem pe_new2K (c : Ex2 X.prog X.w X.K X.mg X.base x C f g) (hr : Room k X.A) (hk : 2 ≤ k) (hg : Gl X x) (he : PE X e te) (he2 : PE X e2 te2) (hdb : (x == ("__debug__" : Str)) = false := by decide) :
    PE X (.Call (.Name x p) [] [⟨some g, e, kp⟩, ⟨some f, e2, kp2⟩] pos) (tNew C (tCons te (tCons te2 tNil)) (fun vs => some [(g, vs.headD .non), (f, vs.getD 1 .non)]) 2) := by
  obtain ⟨fI, fd, B, newId, initId, bmB, b, T, F, _, bi⟩ := c.ex
  refine PE.imp (pe_exvK b T F (hr.mono hk) bi hg c.gm (pk_mon (pk_cons he (pk_cons he2 pk_nil))) (by rfl) (by rfl) hdb (by rfl)) fun σ H Q h => ⟨_, h, fun vs H1 q => ?_⟩
  obtain ⟨hl, q⟩ := q
  match vs, hl with
  | [v, w], _ => exact ⟨rfl, fun a n => new_two q a n⟩
/-! ### fields and classes of such values -/
def tXat (K : PySem.W.Frag) (f : Str) (te : TE) : TE := fun σ H Q => te σ H fun x H1 => ∃ C fs v, XV H1 C (some fs) x ∧ ExcC K C ∧ PySem.W.findIn K (.ref C) f = some none ∧ fs.lookup f = some v ∧ Q v H1
theorem pe_mon {X : Cx} {e : Expr} {t : TE} (h : PE X e t) : PE X e (fun σ H Q => ∃ Q0 : VK, t σ H Q0 ∧ ∀ v H1, Q0 v H1 → Q v H1) := ⟨fun pins s σ H Q I ⟨Q0, q0, k⟩ => thn (h.run pins s σ H Q0 I q0) fun u s1 ⟨v, H1, I1, r, q⟩ => ⟨v, H1, I1, r, k v H1 q⟩⟩
theorem pe_xat (he : PE X e te) (hb : attributeBase e f X.env (eval e X.env) = eval e X.env := by rfl) : PE X (.Attribute e f pos) (tXat X.K f te) := by
  refine PE.imp (pe_xf (pe_mon he) hb) fun σ H Q h => ⟨_, h, fun x H1 q => ?_⟩
  obtain ⟨C, fs, v, ⟨a, rfl, ⟨r, _⟩ | ⟨d, fs', r, q1, q2⟩⟩, T, hno, hl, q⟩ := q
  · cases r
  · cases r
    exact ⟨a, C, d, fs, v, rfl, T, hno, q1, q2, hl, q⟩
def rXis (K : PySem.W.Frag) : List V → Hp → VK → Prop := fun xs H Q => ∃ (x c : V) (C : Addr) (fo : Option (List (Str × V))) (cv : Value) (b : Bool), xs = [x, c] ∧ ClsV c cv ∧ ExcC K C ∧ XV H C fo x ∧ PySem.W.kitOne K (.ref C) cv = some b ∧ Q (.bl b) H
theorem call_xis : CallR X (.builtin "isinstance") (rXis X.K) := by
  intro pins s σ H xs us Q I r h
  obtain ⟨x, c, C, fo, cv, b, rfl, k, T, ⟨a, rfl, v⟩, e, q⟩ := h
  rcases v with ⟨rfl, ea⟩ | ⟨d, fs, rfl, ea, ed⟩
  · exact call_xi pins s σ H _ us Q I r ⟨a, C, none, c, cv, b, rfl, k, T, ea, (fun d z => nomatch z), e, q⟩
  · exact call_xi pins s σ H _ us Q I r ⟨a, C, some d, c, cv, b, rfl, k, T, ea, (fun d' z => by cases z; exact ⟨fs, ed⟩), e, q⟩
end
end Xv

namespace Xv
open PySem PySem.Spec PyProof.Rows L2
/-! ### a def by its name -/
structure Cl (P : Program) (w : World) (K : PySem.W.Frag) (mg : Str → Option Value) (base : Heap) (k : Nat) (x : Str) (sp : Sp) : Prop where
  ex : ∃ (f : Addr) (fd : FuncData) (ps : List Str), FnOk P w K mg base CX0 k f fd ps sp ∧ mg x = some (.ref f) ∧ PySem.W.keepIn K (.ref f) = true ∧ Binds K fd ps []
structure ClG (P : Program) (w : World) (K : PySem.W.Frag) (mg : Str → Option Value) (base : Heap) (k : Nat) (x : Str) (sp : Sp) : Prop where
  ex : ∃ (f : Addr) (fd : FuncData) (ps : List Str), FnG P w K mg base k f fd ps sp ∧ mg x = some (.ref f) ∧ PySem.W.keepIn K (.ref f) = true ∧ Binds K fd ps []
section
variable {X : Cx} {x : Str} {p pos : Pos} {e : Expr} {es : List Expr} {t : TA} {k j : Nat} {sp : Sp}
theorem pe_cl (c : Cl X.prog X.w X.K X.mg X.base k x sp) (hr : Room j X.A) (hk : k ≤ j) (hg : Gl X x) (ha : PA X (e :: es) t)
    (hdb : (x == ("__debug__" : Str)) = false := by decide) (he : starEach (e :: es) X.env = (false, eval e X.env) :: starEach es X.env := by rfl) (hpl : (backTo pos (starEach es X.env)).any (·.1) = false := by rfl) :
    PE X (.Call (.Name x p) (e :: es) [] pos) (tCall sp [] E0 t) := by
  obtain ⟨f, fd, ps, F, hm, kp, b⟩ := c.ex
  exact pe_call F (hr.mono hk) hg hm kp b .nil pass0 ha hdb he hpl
theorem pe_clG (c : ClG X.prog X.w X.K X.mg X.base k x sp) (hr : Room j X.A) (hk : k ≤ j) (hgd : X.A.guards = some []) (hg : Gl X x) (ha : PA X (e :: es) t)
    (hdb : (x == ("__debug__" : Str)) = false := by decide) (he : starEach (e :: es) X.env = (false, eval e X.env) :: starEach es X.env := by rfl) (hpl : (backTo pos (starEach es X.env)).any (·.1) = false := by rfl) :
    PE X (.Call (.Name x p) (e :: es) [] pos) (tCall sp [] E0 t) := by
  obtain ⟨f, fd, ps, F, hm, kp, b⟩ := c.ex
  exact pe_callGd F (hr.mono hk) hgd hg hm kp b ha hdb he hpl
end
/-! ### heaps -/
theorem same_upd {H : Hp} {p : Addr} {o : HO} (n : H p = none) : Same H (upd H p o) := fun b u e => by
  rw [upd_ne (ne_of_none e n)]
  exact e
theorem Same.upd {H H' : Hp} {p : Addr} {o : HO} (s : Same H H') (n : H' p = none) : Same H (upd H' p o) := s.trans (same_upd n)
/-- all but p is as it was -/
def But (p : Addr) (H H' : Hp) : Prop := ∀ b o, b ≠ p → H b = some o → H' b = some o
theorem But.refl (p : Addr) (H : Hp) : But p H H := fun _ _ _ h => h
theorem But.trans {p : Addr} {H H1 H2 : Hp} (a : But p H H1) (b : But p H1 H2) : But p H H2 := fun c o n h => b c o n (a c o n h)
theorem Same.but {p : Addr} {H H' : Hp} (s : Same H H') : But p H H' := fun b o _ h => s b o h
theorem But.upd {p : Addr} {H H' : Hp} {o : HO} (s : But p H H') : But p H (upd H' p o) := fun b u n h => by
  rw [upd_ne n]
  exact s b u n h
theorem But.new {p q : Addr} {H H' : Hp} {o : HO} (s : But p H H') (n : H' q = none) : But p H (L2.upd H' q o) := s.trans (Same.but (same_upd n))
/-- a pot: two numbers that are drawn from -/
def Pot (H : Hp) (p : Addr) : Prop := ∃ a b : Int, H p = some (.lst [.int a, .int b]) ∧ 0 ≤ a ∧ 0 ≤ b ∧ b < 4294967296
/-! ### short data -/
def Sml (d : PyData) : Prop := d.showable = true ∧ d.depth ≤ 10 ∧ d.shown.length ≤ 40
theorem sml_all : ∀ {ds : List PyData}, (∀ d ∈ ds, Sml d) → PyData.showableAll ds = true ∧ PyData.depthAll ds ≤ 10 ∧ ((PyData.shownAll ds).map (·.length)).sum ≤ 40 * ds.length ∧ (PyData.shownAll ds).length = ds.length
  | [], _ => by simp [PyData.showableAll, PyData.depthAll, PyData.shownAll]
  | d :: ds, h => by
    obtain ⟨h1, h2, h3, h4⟩ := sml_all (ds := ds) fun x hx => h x (List.mem_cons_of_mem _ hx)
    obtain ⟨k1, k2, k3⟩ := h d List.mem_cons_self
    refine ⟨?_, ?_, ?_, ?_⟩
    · simp only [PyData.showableAll, k1, h1, Bool.and_self]
    · simp only [PyData.depthAll]
      omega
    · simp only [PyData.shownAll, List.map_cons, List.sum_cons, List.length_cons]
      omega
    · simp only [PyData.shownAll, List.length_cons, h4]
theorem sml_list {ds : List PyData} (h : ∀ d ∈ ds, Sml d) (hz : ds.length ≤ 1000) : (PyData.list ds).showable = true ∧ (PyData.list ds).depth ≤ 60 ∧ (PyData.list ds).shown.length ≤ sizeLine := by
  obtain ⟨h1, h2, h3, h4⟩ := sml_all h
  refine ⟨by simpa only [PyData.showable] using h1, ?_, ?_⟩
  · simp only [PyData.depth]
    omega
  · simp only [PyData.shown]
    have z := listText_len_le (PyData.shownAll ds)
    rw [sizeLine_eq]
    omega
theorem DrAll.rep {K : PySem.W.Frag} {H : Hp} {v : V} {d : PyData} (h : Dr K H v d) : ∀ n, DrAll K H (List.replicate n v) (List.replicate n d)
  | 0 => .nil
  | n + 1 => by
    rw [List.replicate_succ, List.replicate_succ]
    exact .cons h (DrAll.rep h n)
theorem rep_flat {α : Type} (v : α) : ∀ n, (List.replicate n [v]).flatten = List.replicate n v
  | 0 => rfl
  | n + 1 => by
    rw [List.replicate_succ, List.flatten_cons, rep_flat v n, List.replicate_succ]
    rfl
/-! ### lists of exceptions -/
/-- each with its class and its fields -/
def XVs (H : Hp) (cfs : List (Addr × Option (List (Str × V)))) (es : List V) : Prop := Paired (fun c x => XV H c.1 c.2 x) cfs es
theorem XVs.same {H H' : Hp} (s : Same H H') {cfs : List (Addr × Option (List (Str × V)))} {es : List V} (h : XVs H cfs es) : XVs H' cfs es := Paired.mapP h fun _ _ q => q.same s
theorem XVs.append {H : Hp} : ∀ {cs ds : List (Addr × Option (List (Str × V)))} {es fs : List V}, XVs H cs es → XVs H ds fs → XVs H (cs ++ ds) (es ++ fs)
  | _, _, _, _, .nil, h => h
  | _, _, _, _, .cons a b, h => .cons a (XVs.append b h)
/-- new ones, all with the value that stands in slot j -/
def tX (C : Addr) (f : Str) (j : Nat) : TE := fun σ H Q => ∃ v, σ[j]? = some (some v) ∧ ∀ H' x, Same H H' → XV H' C (some [(f, v)]) x → Q x H'
def one (v : V) (c : Addr × Str) : Addr × Option (List (Str × V)) := (c.1, some [(c.2, v)])
def tXs (cs : List (Addr × Str)) (j : Nat) : TA := fun σ H Q => ∃ v, σ[j]? = some (some v) ∧ ∀ H' es, Same H H' → XVs H' (cs.map (one v)) es → Q es H'
section
variable {X : Cx} {x f : Str} {C : Addr} {e : Expr} {es : List Expr} {p pos kp ap : Pos} {k j : Nat} {cs : List (Addr × Str)} {n : Str}
theorem PA.imp {es : List Expr} {t t' : TA} (h : PA X es t) (k : ∀ σ H Q, t' σ H Q → t σ H Q) : PA X es t' := ⟨fun pos pins s σ H Q I q => h.run pos pins s σ H Q I (k σ H Q q)⟩
theorem pe_x (c : Ex1 X.prog X.w X.K X.mg X.base x C f) (hr : Room k X.A) (hk : 2 ≤ k) (hg : Gl X x) (ha : PE X (.Name n ap) (tVar j)) (hdb : (x == ("__debug__" : Str)) = false := by decide) (he : starEach [.Name n ap] X.env = (false, eval (.Name n ap) X.env) :: starEach [] X.env := by rfl) :
    PE X (.Call (.Name x p) [.Name n ap] [] pos) (tX C f j) :=
  PE.imp (pe_new1 c hr hk hg (pa_cons ha pa_nil (by exact he)) hdb he) fun σ H Q ⟨v, hv, q⟩ => ⟨v, hv, rfl, fun H2 x s h => q H2 x s h⟩
theorem pe_xK (c : Ex1 X.prog X.w X.K X.mg X.base x C f) (hr : Room k X.A) (hk : 2 ≤ k) (hg : Gl X x) (ha : PE X (.Name n ap) (tVar j)) (hdb : (x == ("__debug__" : Str)) = false := by decide) :
    PE X (.Call (.Name x p) [] [⟨some f, .Name n ap, kp⟩] pos) (tX C f j) :=
  PE.imp (pe_new1K c hr hk hg ha hdb) fun σ H Q ⟨v, hv, q⟩ => ⟨v, hv, rfl, fun H2 x s h => q H2 x s h⟩
theorem pa_xs1 (h : PE X e (tX C f j)) (hs : starEach [e] X.env = (false, eval e X.env) :: starEach [] X.env := by rfl) : PA X [e] (tXs [(C, f)] j) :=
  PA.imp (pa_cons h pa_nil hs) fun σ H Q ⟨v, hv, q⟩ => ⟨v, hv, fun H' x s h => q H' [x] s (.cons h .nil)⟩
theorem pa_xs (h : PE X e (tX C f j)) (hr : PA X es (tXs cs j)) (hs : starEach (e :: es) X.env = (false, eval e X.env) :: starEach es X.env := by rfl) : PA X (e :: es) (tXs ((C, f) :: cs) j) :=
  PA.imp (pa_cons h hr hs) fun σ H Q ⟨v, hv, q⟩ => ⟨v, hv, fun H' x s h => ⟨v, hv, fun H2 es s2 hh => q H2 (x :: es) (s.trans s2) (.cons (h.same s2) hh)⟩⟩
/-- a new list of such -/
def tXL (cs : List (Addr × Str)) (j : Nat) : TE := fun σ H Q => ∃ v, σ[j]? = some (some v) ∧ ∀ H' l es, Same H H' → H l = none → H' l = some (.lst es) → XVs H' (cs.map (one v)) es → Q (.ref l) H'
theorem pe_xl (h : PA X es (tXs cs j)) (hz : cs.length ≤ 100) : PE X (.List es pos) (tXL cs j) :=
  PE.imp (pe_lst h) fun σ H Q ⟨v, hv, q⟩ => ⟨v, hv, fun H' es s hh => ⟨by
    have z : (cs.map (one v)).length = es.length := Paired.length hh
    rw [List.length_map] at z
    rw [← z, sizeLine_eq]
    omega, fun l hl => q _ l es (s.trans (same_upd hl)) (s.free hl) upd_same (hh.same (same_upd hl))⟩⟩
end
/-! ### the fields of a list of exceptions -/
def AtV (K : PySem.W.Frag) (H : Hp) (f : Str) (x v : V) : Prop := ∃ C fs, XV H C (some fs) x ∧ ExcC K C ∧ PySem.W.findIn K (.ref C) f = some none ∧ fs.lookup f = some v
theorem AtV.same {K : PySem.W.Frag} {H H' : Hp} {f : Str} {x v : V} (s : Same H H') (h : AtV K H f x v) : AtV K H' f x v := by
  obtain ⟨C, fs, q, r⟩ := h
  exact ⟨C, fs, q.same s, r⟩
abbrev AtVs (K : PySem.W.Frag) (H : Hp) (f : Str) : List V → List V → Prop := Paired (AtV K H f)
theorem paired_get {α β : Type} {F : α → β → Prop} : ∀ {l₁ : List α} {l₂ : List β} {i : Nat} {x : α}, Paired F l₁ l₂ → l₁[i]? = some x → ∃ y, l₂[i]? = some y ∧ F x y
  | _, _, _, _, .nil, e => by simp at e
  | _, _, 0, _, .cons r _, e => by simp at e; subst e; exact ⟨_, rfl, r⟩
  | _, _, i + 1, x, .cons _ t, e => by
    obtain ⟨u, h1, h2⟩ := paired_get (i := i) (x := x) t (by simpa using e)
    exact ⟨u, by simpa using h1, h2⟩
theorem take_step {α : Type} {l : List α} {i : Nat} {x : α} (h : l[i]? = some x) : l.take (i + 1) = l.take i ++ [x] := by
  rw [List.take_succ, h]
  rfl
theorem attrs_end {K : PySem.W.Frag} {a : Addr} {xs vs : List V} {i : Nat} {f : Str} {σ : St} {H1 : Hp} {D : Addr} {Qd : Hp → Prop} (hs : SqL K H1 a xs) (hv : AtVs K H1 f xs vs) (hD : H1 D = none) (hz : xs.length ≤ 1000) (hi : i < σ.length)
    (hd : ∀ H2, Same H1 H2 → H2 D = some (.lst vs) → Qd H2) :
    ∃ W : Nat → Nat → Hp → Prop, (∃ m, W 0 m (upd H1 D (.lst []))) ∧ ∀ k m H, W k m H →
      ((Itl K a).stop k H ∧ Qd H) ∨ ((Itl K a).go k H ∧ ∃ Nx : Hp → Prop, (∀ H', Nx H' → ∃ m', m' < m ∧ W (k + 1) m' H') ∧ ∀ x H', (Itl K a).yld k H x H' → gName i x (wipe σ [i]) H' fun σ2 H2 => wipe σ2 [i] = wipe σ [i] ∧ tYes σ2 H2 fun b H3 =>
        if b = true then tXat K f (tVar i) σ2 H3 fun y H4 => ∃ acc, H4 D = some (.lst acc) ∧ acc.length < sizeLine ∧ Nx (upd H4 D (.lst (acc ++ [y]))) else Nx H3) := by
  have hl : xs.length = vs.length := Paired.length hv
  refine lc_list (K := K) (a := a) (xs := xs) (fun n H => H = upd H1 D (.lst (vs.take n)) ∧ n ≤ vs.length) ⟨by rw [List.take_zero], Nat.zero_le _⟩ (fun n H _ p => ?_) (fun n x H hx p => ?_) (fun H p => ?_)
  · rw [p.1]
    exact (same_upd hD).seq hs
  · obtain ⟨rfl, hn⟩ := p
    obtain ⟨v, hv1, hv2⟩ := paired_get hv hx
    have hn1 : n + 1 ≤ vs.length := (List.getElem?_eq_some_iff.mp hv1).1
    refine ⟨?_, ?_⟩
    · show wipe ((wipe σ [i]).set i (some x)) [i] = wipe σ [i]
      simp only [wipe]
      exact List.ext_getElem? fun m => by
        by_cases hm : m = i
        · subst hm
          simp [List.getElem?_set, wipe]
        · simp [List.getElem?_set, wipe, Ne.symm hm]
    · unfold tYes
      dsimp only
      rw [if_pos rfl]
      obtain ⟨C, fs, q, T, hno, hlk⟩ := hv2.same (same_upd (o := .lst (vs.take n)) hD)
      have hset : ((wipe σ [i]).set i (some x))[i]? = some (some x) := by
        rw [List.getElem?_set_self]
        rw [wipe_length]
        exact hi
      refine ⟨x, hset, C, fs, v, q, T, hno, hlk, vs.take n, upd_same, ?_, ?_, hn1⟩
      · rw [List.length_take, sizeLine_eq]
        omega
      · rw [upd_upd, take_step hv1]
  · obtain ⟨rfl, _⟩ := p
    rw [hl, List.take_length]
    exact hd _ (same_upd hD) upd_same
end Xv

namespace Cr
open PySem PySem.Spec PyProof.Rows L2 Xv
abbrev St := L2.St
/-! ### frames: all but what M names is as it was -/
def Fr (M : Addr → Prop) (H H' : Hp) : Prop := ∀ b o, ¬ M b → H b = some o → H' b = some o
theorem Fr.refl (M : Addr → Prop) (H : Hp) : Fr M H H := fun _ _ _ h => h
theorem Fr.trans {M : Addr → Prop} {H H1 H2 : Hp} (a : Fr M H H1) (b : Fr M H1 H2) : Fr M H H2 := fun c o n h => b c o n (a c o n h)
theorem Fr.mono {M N : Addr → Prop} {H H' : Hp} (a : Fr M H H') (h : ∀ b, M b → N b) : Fr N H H' := fun c o n e => a c o (fun z => n (h c z)) e
theorem Fr.of {M : Addr → Prop} {H H' : Hp} (s : Same H H') : Fr M H H' := fun b o _ h => s b o h
theorem Fr.set {M : Addr → Prop} {H H' : Hp} {p : Addr} {o : HO} (a : Fr M H H') (h : M p) : Fr M H (L2.upd H' p o) := fun c u n e => by
  rw [upd_ne (fun z => n (by rw [z]; exact h))]
  exact a c u n e
theorem Fr.new {M : Addr → Prop} {H H' : Hp} {p : Addr} {o : HO} (a : Fr M H H') (h : H' p = none) : Fr M H (L2.upd H' p o) := a.trans (Fr.of (same_upd h))
theorem Fr.but {p : Addr} {H H' : Hp} (b : But p H H') : Fr (fun q => q = p) H H' := fun c o n h => b c o n h
/-! ### a part of a heap, data that stands in it -/
open Classical in
noncomputable def Vw (S : Addr → Prop) (H : Hp) : Hp := fun b => if S b then H b else none
theorem vw_same (S : Addr → Prop) (H : Hp) : Same (Vw S H) H := fun b o h => by
  unfold Vw at h
  split at h
  · exact h
  · cases h
theorem vw_fr {S M : Addr → Prop} {H H' : Hp} (f : Fr M H H') (d : ∀ b, S b → ¬ M b) : Same (Vw S H) (Vw S H') := fun b o h => by
  unfold Vw at h ⊢
  split at h
  · rename_i s
    rw [if_pos s]
    exact f b o (d b s) h
  · cases h
theorem vw_mono {S T : Addr → Prop} {H : Hp} (d : ∀ b, S b → T b) : Same (Vw S H) (Vw T H) := fun b o h => by
  unfold Vw at h ⊢
  split at h
  · rename_i s
    rw [if_pos (d b s)]
    exact h
  · cases h
theorem vw_at {S : Addr → Prop} {H : Hp} {b : Addr} (h : S b) : Vw S H b = H b := if_pos h
/-! ### data in tracked lists, tuples, dicts -/
mutual
inductive Tr (H : Hp) : V → PyData → Prop
  | non : Tr H .non .none
  | bl (b : Bool) : Tr H (.bl b) (.bool b)
  | int (i : Int) : Tr H (.int i) (.int i)
  | str (x : Str) : Tr H (.str x) (.str x)
  | lst {a : Addr} {xs : List V} {ds : List PyData} : H a = some (.lst xs) → TrAll H xs ds → Tr H (.ref a) (.list ds)
  | tup {a : Addr} {xs : List V} {ds : List PyData} : H a = some (.tup xs) → TrAll H xs ds → Tr H (.ref a) (.tuple ds)
  | dct {a : Addr} {kvs : List (Key × V)} {ps : List (PyData × PyData)} : H a = some (.dK kvs) → TrKv H kvs ps → Tr H (.ref a) (.dict ps)
inductive TrAll (H : Hp) : List V → List PyData → Prop
  | nil : TrAll H [] []
  | cons {v : V} {vs : List V} {d : PyData} {ds : List PyData} : Tr H v d → TrAll H vs ds → TrAll H (v :: vs) (d :: ds)
inductive TrKv (H : Hp) : List (Key × V) → List (PyData × PyData) → Prop
  | nil : TrKv H [] []
  | cons {k : Key} {v : V} {kvs : List (Key × V)} {d : PyData} {ps : List (PyData × PyData)} : Tr H v d → TrKv H kvs ps → TrKv H ((k, v) :: kvs) ((kD k, d) :: ps)
end
mutual
theorem Tr.same {H H' : Hp} (e : Same H H') : ∀ {v : V} {d : PyData}, Tr H v d → Tr H' v d
  | _, _, .non => .non
  | _, _, .bl b => .bl b
  | _, _, .int i => .int i
  | _, _, .str x => .str x
  | _, _, .lst h hs => .lst (e _ _ h) (TrAll.same e hs)
  | _, _, .tup h hs => .tup (e _ _ h) (TrAll.same e hs)
  | _, _, .dct h hs => .dct (e _ _ h) (TrKv.same e hs)
theorem TrAll.same {H H' : Hp} (e : Same H H') : ∀ {vs : List V} {ds : List PyData}, TrAll H vs ds → TrAll H' vs ds
  | _, _, .nil => .nil
  | _, _, .cons h hs => .cons (Tr.same e h) (TrAll.same e hs)
theorem TrKv.same {H H' : Hp} (e : Same H H') : ∀ {vs : List (Key × V)} {ds : List (PyData × PyData)}, TrKv H vs ds → TrKv H' vs ds
  | _, _, .nil => .nil
  | _, _, .cons h hs => .cons (Tr.same e h) (TrKv.same e hs)
end
mutual
theorem Tr.dr {K : PySem.W.Frag} {H : Hp} : ∀ {v : V} {d : PyData}, Tr H v d → Dr K H v d
  | _, _, .non => .non
  | _, _, .bl b => .bl b
  | _, _, .int i => .int i
  | _, _, .str x => .str x
  | _, _, .lst h hs => .lst (SqL.of h) (TrAll.dr hs)
  | _, _, .tup h hs => .tup (.inl (.inl h)) (TrAll.dr hs)
  | _, _, .dct h hs => .dct h (TrKv.dr hs)
theorem TrAll.dr {K : PySem.W.Frag} {H : Hp} : ∀ {vs : List V} {ds : List PyData}, TrAll H vs ds → DrAll K H vs ds
  | _, _, .nil => .nil
  | _, _, .cons h hs => .cons (Tr.dr h) (TrAll.dr hs)
theorem TrKv.dr {K : PySem.W.Frag} {H : Hp} : ∀ {vs : List (Key × V)} {ds : List (PyData × PyData)}, TrKv H vs ds → DrKv K H vs ds
  | _, _, .nil => .nil
  | _, _, .cons h hs => .cons (Tr.dr h) (TrKv.dr hs)
end
/-- v is the data d, and all of it stands within S -/
def Dt (K : PySem.W.Frag) (S : Addr → Prop) (H : Hp) (v : V) (d : PyData) : Prop := Tr (Vw S H) v d
section
variable {K : PySem.W.Frag} {S T M : Addr → Prop} {H H' : Hp} {v : V} {d : PyData}
theorem Dt.tr (h : Dt K S H v d) : Tr H v d := Tr.same (vw_same S H) h
theorem Dt.dr (h : Dt K S H v d) : Dr K H v d := Tr.dr (Tr.same (vw_same S H) h)
theorem Dt.fr (h : Dt K S H v d) (f : Fr M H H') (n : ∀ b, S b → ¬ M b) : Dt K S H' v d := Tr.same (vw_fr f n) h
theorem Dt.keep (h : Dt K S H v d) (s : Same H H') : Dt K S H' v d := Tr.same (vw_fr (M := fun _ => False) (Fr.of s) fun _ _ z => z) h
theorem Dt.mono (h : Dt K S H v d) (n : ∀ b, S b → T b) : Dt K T H v d := Tr.same (vw_mono n) h
end
/-- new between H and H' -/
def Nw (H H' : Hp) : Addr → Prop := fun b => H b = none ∧ H' b ≠ none
theorem Nw.ext {H H1 H2 : Hp} {M : Addr → Prop} {b : Addr} (h : Nw H H1 b) (f : Fr M H1 H2) (n : ¬ M b) : Nw H H2 b := by
  refine ⟨h.1, ?_⟩
  obtain ⟨o, e⟩ := Option.ne_none_iff_exists'.mp h.2
  rw [f b o n e]
  simp
/-! ### len, by a name that does not hang on the place -/
def rLn (K : PySem.W.Frag) : List V → Hp → VK → Prop := fun xs H Q => ∃ p ys, xs = [.ref p] ∧ (SqL K H p ys ∨ SqT K H p ys) ∧ Q (.int ys.length) H
theorem call_ln {X : Cx} : CallR X (.builtin "len") (rLn X.K) := call_len_seq
theorem at_i {xs : List V} {n : Nat} {x : V} (h : xs[n]? = some x) : atI xs (n : Int) = some x := by
  have hn := (List.getElem?_eq_some_iff.mp h).1
  unfold atI ixN
  rw [if_pos (by omega), if_pos (by omega)]
  exact h
theorem wipe_back {σ : St} {i : Nat} {v : Option V} : wipe ((wipe σ [i]).set i v) [i] = wipe σ [i] := by
  simp only [wipe]
  exact List.ext_getElem? fun m => by
    by_cases hm : m = i
    · subst hm
      simp [List.getElem?_set, wipe]
    · simp [List.getElem?_set, wipe, Ne.symm hm]
theorem pot_same {H H' : Hp} {p : Addr} (h : Pot H p) (s : Same H H') : Pot H' p := by
  obtain ⟨a, b, e, r⟩ := h
  exact ⟨a, b, s _ _ e, r⟩
theorem pot_but {H H' : Hp} {p q : Addr} (h : Pot H q) (n : q ≠ p) (s : But p H H') : Pot H' q := by
  obtain ⟨a, b, e, r⟩ := h
  exact ⟨a, b, s _ _ n e, r⟩
theorem pot_ne {H : Hp} {p q : Addr} (h : Pot H p) (n : H q = none) : p ≠ q := fun z => by
  obtain ⟨a, b, e, _⟩ := h
  rw [z, n] at e
  cases e
theorem pot_upd {H : Hp} {p q : Addr} {o : HO} (h : Pot H p) (n : p ≠ q) : Pot (upd H q o) p := by
  obtain ⟨a, b, e, r⟩ := h
  exact ⟨a, b, by rw [upd_ne n]; exact e, r⟩
/-- a list that is new since H may be written -/
theorem but_new {p q : Addr} {H H' : Hp} {o : HO} (b : But p H H') (n : H q = none) : But p H (L2.upd H' q o) := fun c u ne e => by
  rw [upd_ne (ne_of_none e n)]
  exact b c u ne e
def rInt1 : List V → Hp → VK → Prop := fun xs H Q => (∃ i, xs = [.int i] ∧ Q (.int i) H) ∨ ∃ k, xs = [.bl k] ∧ Q (.int (if k then 1 else 0)) H
theorem call_i1 {X : Cx} : CallR X (.type "int") rInt1 := call_int1
def rMin2 : List V → Hp → VK → Prop := fun xs H Q => ∃ i j, xs = [.int i, .int j] ∧ Q (.int (if j < i then j else i)) H
theorem call_m2 {X : Cx} (hc : X.calm = true) : CallR X (.builtin "min") rMin2 := call_min2 hc
/-! ### tables and names -/
abbrev Rw := List (Int × Int)
def rowD (r : Rw) : PyData := .list (r.map fun e => .tuple [.int e.1, .int e.2])
def rowsD (rs : List Rw) : PyData := .list (rs.map rowD)
def namesD (ns : List Str) : PyData := .list (ns.map .str)
def modelD (ns : List Str) (rs : List Rw) : PyData := .dict [(.str "deeds", namesD ns), (.str "rows", rowsD rs)]
/-- a name: one to eight letters -/
def Nm (x : Str) : Prop := 1 ≤ x.length ∧ x.length ≤ 8 ∧ ∀ c ∈ x.cps.toList, 97 ≤ c ∧ c < 123
/-- a right table for so many states and deeds -/
def Tb (size many : Nat) (rs : List Rw) : Prop := rs.length = size ∧ ∀ r ∈ rs, r.length = many ∧ ∀ e ∈ r, (0 ≤ e.1 ∧ e.1 < 10) ∧ (0 ≤ e.2 ∧ e.2 < (size : Int))
end Cr

namespace Cr
open PySem PySem.Spec PyProof.Rows L2 Xv TL
/-! ### letters and names -/
def sgn : Str := "abcdefghijklmnopqrstuvwxyz"
theorem sgn_list : sgn.cps.toList = List.range' 97 26 := by decide +kernel
theorem sgn_len : sgn.length = 26 := by decide +kernel
def ch (c : Nat) : Str := ⟨#[c]⟩
theorem tl_ch (c : Nat) : tl (ch c) = [c] := rfl
theorem joinL_nil : ∀ ps : List (List Nat), joinL [] ps = ps.flatten
  | [] => rfl
  | [p] => by simp [joinL]
  | p :: q :: r => by
    rw [joinL, joinL_nil (q :: r), List.nil_append]
    rfl
theorem tl_chs (cs : List Nat) : tl (Txt.join "" (cs.map ch)) = cs := by
  rw [join_eq, tl_join, show tl ("" : Str) = [] from by decide +kernel, joinL_nil, List.map_map]
  induction cs with
  | nil => rfl
  | cons c r ih =>
    rw [List.map_cons, List.flatten_cons, ih]
    rfl
theorem nm_chs {cs : List Nat} (h1 : 1 ≤ cs.length) (h2 : cs.length ≤ 8) (h : ∀ c ∈ cs, 97 ≤ c ∧ c < 123) : Nm (Txt.join "" (cs.map ch)) := by
  refine ⟨?_, ?_, ?_⟩
  · rw [len_tl, tl_chs]
    exact h1
  · rw [len_tl, tl_chs]
    exact h2
  · show ∀ c ∈ tl _, _
    rw [tl_chs]
    exact h
theorem tl_cut7 (w : Str) : tl (cutS w none (some 7)) = (tl w).take 7 := by
  show (((w.cps.toList.drop (HT.sIx w.length 0 none)).take (HT.sIx w.length w.length (some ((7 : Nat) : Int)) - HT.sIx w.length 0 none)).toArray).toList = _
  rw [HT.sIx_none, HT.sIx_nat]
  show List.take (min 7 w.length - 0) (tl w) = _
  rw [len_tl, Nat.sub_zero]
  by_cases h : 7 ≤ (tl w).length
  · rw [Nat.min_eq_left h]
  · rw [Nat.min_eq_right (by omega), List.take_of_length_le (Nat.le_refl _), List.take_of_length_le (by omega)]
def nx7 (w : Str) (c : Nat) : Str := cutS w none (some 7) ++ ch c
theorem tl_nx (w : Str) (c : Nat) : tl (nx7 w c) = (tl w).take 7 ++ [c] := by
  unfold nx7
  rw [tl_append, tl_cut7, tl_ch]
theorem nm_nx {w : Str} {c : Nat} (h : Nm w) (hc : 97 ≤ c ∧ c < 123) : Nm (nx7 w c) := by
  refine ⟨?_, ?_, ?_⟩
  · rw [len_tl, tl_nx, List.length_append]
    simp
  · rw [len_tl, tl_nx, List.length_append, List.length_take]
    simp
    omega
  · show ∀ d ∈ tl _, _
    rw [tl_nx]
    intro d hd
    rcases List.mem_append.mp hd with z | z
    · exact h.2.2 d (List.mem_of_mem_take z)
    · rw [List.mem_singleton.mp z]
      exact hc
theorem nx_inj {w : Str} {c d : Nat} (h : nx7 w c = nx7 w d) : c = d := by
  have e := congrArg tl h
  rw [tl_nx, tl_nx] at e
  have := List.append_cancel_left e
  simpa using this
theorem nodup_len {α : Type} [DecidableEq α] : ∀ {l m : List α}, l.Nodup → (∀ x ∈ l, x ∈ m) → l.length ≤ m.length
  | [], _, _, _ => Nat.zero_le _
  | x :: l, m, h, s => by
    obtain ⟨h1, h2⟩ := List.nodup_cons.mp h
    have hx := s x List.mem_cons_self
    have := nodup_len (l := l) (m := m.erase x) h2 fun y hy => (List.mem_erase_of_ne (fun e => h1 (by rw [← e]; exact hy))).mpr (s y (List.mem_cons_of_mem _ hy))
    rw [List.length_erase_of_mem hx] at this
    have hp := List.length_pos_of_mem hx
    rw [List.length_cons]
    omega
/-- the words that are looked at, in their sequence -/
def near (w : Str) : List Str := w :: (List.range' 97 26).map (nx7 w)
theorem near_nm {w : Str} (h : Nm w) : ∀ x ∈ near w, Nm x := fun x hx => by
  rcases List.mem_cons.mp hx with rfl | hx
  · exact h
  · obtain ⟨c, hc, rfl⟩ := List.mem_map.mp hx
    rw [List.mem_range'_1] at hc
    exact nm_nx h (by omega)
theorem near_free (w : Str) (found : List Str) (hl : found.length < 26) : (near w).filter (fun x => !found.contains x) ≠ [] := fun e => by
  have nd : ((List.range' 97 26).map (nx7 w)).Nodup := by
    refine List.Pairwise.map (R := fun a b : Nat => a ≠ b) _ (fun a b h e => h (nx_inj e)) ?_
    exact List.nodup_range'
  have := nodup_len nd (m := found) fun x hx => by
    have hm : x ∈ near w := List.mem_cons_of_mem _ hx
    have z : x ∉ (near w).filter (fun x => !found.contains x) := by rw [e]; simp
    rw [List.mem_filter] at z
    have z2 : ¬ (!found.contains x) = true := fun q => z ⟨hm, q⟩
    simpa using z2
  rw [List.length_map, List.length_range'] at this
  omega
end Cr

namespace Cr
open PySem PySem.Spec PyProof.Rows L2 Xv
section
variable {K : PySem.W.Frag}
theorem pr_app {α β : Type} {F : α → β → Prop} : ∀ {a c : List α} {b d : List β}, Paired F a b → Paired F c d → Paired F (a ++ c) (b ++ d)
  | _, _, _, _, .nil, h => h
  | _, _, _, _, .cons h t, k => .cons h (pr_app t k)
theorem pr_mem {α β : Type} {F : α → β → Prop} {x : α} : ∀ {a : List α} {b : List β}, Paired F a b → x ∈ a → ∃ y, F x y
  | _, _, .nil, h => by cases h
  | _, _, .cons h t, k => by
    rcases List.mem_cons.mp k with rfl | k
    · exact ⟨_, h⟩
    · exact pr_mem t k
theorem pr_map {α β : Type} {F G : α → β → Prop} : ∀ {a : List α} {b : List β}, Paired F a b → (∀ x y, x ∈ a → F x y → G x y) → Paired G a b
  | _, _, .nil, _ => .nil
  | _, _, .cons h t, k => .cons (k _ _ List.mem_cons_self h) (pr_map t fun x y hx => k x y (List.mem_cons_of_mem _ hx))
/-- the rows of a table, made by a list in a list: the states in slot i1, the deeds in slot i2 -/
theorem rows_lc {ta : TA} {size many i1 i2 j1 j2 : Nat} {σ : L2.St} {H1 : Hp} {p : Addr} {Q : VK} (hP : Pot H1 p) (h1 : σ[j1]? = some (some (.int size))) (h2 : ∀ v, ((wipe σ [i1]).set i1 v)[j2]? = some (some (.int many))) (hs : size ≤ 1000) (hm : many ≤ 1000)
    (he : ∀ i j H Q, i < size → j < many → Pot H p → (∀ H' a n, But p H H' → Pot H' p → (0 ≤ a ∧ a < 10) → (0 ≤ n ∧ n < (size : Int)) → Q [V.int a, V.int n] H') → ta ((wipe ((wipe σ [i1]).set i1 (some (.int (0 + (i : Int))))) [i2]).set i2 (some (.int (0 + (j : Int))))) H Q)
    (k : ∀ H' l rs S, But p H1 H' → Pot H' p → (∀ b, S b → Nw H1 H' b) → Dt K S H' (.ref l) (rowsD rs) → Tb size many rs → Q (.ref l) H') :
    tLc (iRng1 (tCons (tVar j1) tNil)) (gName i1) tYes (tLc (iRng1 (tCons (tVar j2) tNil)) (gName i2) tYes (tTup ta) [i2]) [i1] σ H1 Q := by
  refine ⟨_, h1, size, rfl, by omega, by omega, fun D hD => ?_⟩
  have npD : p ≠ D := pot_ne hP hD
  refine lc_range (lo := 0) (n := size) (fun i H' => ∃ (ls : List Addr) (rs : List Rw) (S : Addr → Prop), rs.length = i ∧ H' D = some (.lst (ls.map V.ref)) ∧ But p H1 H' ∧ Pot H' p ∧ (∀ b, S b → Nw H1 H' b ∧ b ≠ D) ∧ Paired (fun l r => Dt K S H' (.ref l) (rowD r)) ls rs ∧ ∀ r ∈ rs, r.length = many ∧ ∀ e ∈ r, (0 ≤ e.1 ∧ e.1 < 10) ∧ (0 ≤ e.2 ∧ e.2 < (size : Int)))
    ⟨[], [], fun _ => False, rfl, upd_same, Same.but (same_upd hD), pot_same hP (same_upd hD), fun _ z => z.elim, .nil, by simp⟩ (fun i H2 hi hp => ?_) (fun H2 hp => ?_)
  · obtain ⟨ls, rs, S, r1, r2, r3, P2, r5, r6, r7⟩ := hp
    refine ⟨wipe_back, ?_⟩
    unfold tYes
    dsimp only
    rw [if_pos rfl]
    refine ⟨_, h2 _, many, rfl, by omega, by omega, fun D2 hD2 => ?_⟩
    have npD2 : p ≠ D2 := pot_ne P2 hD2
    have nDD : D ≠ D2 := ne_of_none r2 hD2
    refine lc_range (lo := 0) (n := many) (g := gName i2) (tt := tYes) (te := tTup ta) (vs := [i2]) (fun j H' => ∃ (ts : List Addr) (r : Rw), r.length = j ∧ H' D2 = some (.lst (ts.map V.ref)) ∧ But p H2 H' ∧ Pot H' p ∧ (∀ t ∈ ts, H2 t = none ∧ t ≠ D2) ∧ Paired (fun t (e : Int × Int) => H' t = some (.tup [.int e.1, .int e.2])) ts r ∧ ∀ e ∈ r, (0 ≤ e.1 ∧ e.1 < 10) ∧ (0 ≤ e.2 ∧ e.2 < (size : Int)))
      ⟨[], [], rfl, upd_same, Same.but (same_upd hD2), pot_same P2 (same_upd hD2), by simp, .nil, by simp⟩ (fun j H3 hj hp => ?_) (fun H3 hp => ?_)
    · obtain ⟨ts, r, t1, t2, t3, P3, t5, t6, t7⟩ := hp
      refine ⟨wipe_back, ?_⟩
      unfold tYes
      dsimp only
      rw [if_pos rfl]
      refine he i j H3 _ hi hj P3 fun H4 a n b4 P4 ba bn => ⟨by show 2 ≤ sizeLine; decide, fun t nt => ?_⟩
      have ntD2 : D2 ≠ t := ne_of_none (b4 _ _ npD2.symm t2) nt
      have nt2 : H2 t = none := by
        cases e : H2 t with
        | none => rfl
        | some o =>
          have : t ≠ p := (pot_ne P4 nt).symm
          rw [(t3.trans b4) _ _ this e] at nt
          cases nt
      have keep : ∀ s o, s ≠ p → s ≠ D2 → H3 s = some o → upd (upd H4 t (.tup [.int a, .int n])) D2 (.lst (ts.map V.ref ++ [V.ref t])) s = some o := fun s o np n2 e => by
        rw [upd_ne n2, upd_ne (ne_of_none (b4 _ _ np e) nt)]
        exact b4 _ _ np e
      refine ⟨_, by rw [upd_ne ntD2]; exact b4 _ _ npD2.symm t2, ?_, ts ++ [t], r ++ [(a, n)], by rw [List.length_append, t1]; rfl, by rw [upd_same, List.map_append]; rfl, but_new ((t3.trans b4).trans (Same.but (same_upd nt))) hD2, pot_upd (pot_same P4 (same_upd nt)) npD2, ?_, ?_, ?_⟩
      · have : ts.length = r.length := Paired.length t6
        rw [List.length_map, sizeLine_eq]
        omega
      · intro s hs'
        rcases List.mem_append.mp hs' with z | z
        · exact t5 s z
        · rw [List.mem_singleton.mp z]
          exact ⟨nt2, ntD2.symm⟩
      · refine pr_app (pr_map t6 fun s e hs' q => ?_) (.cons ?_ .nil)
        · obtain ⟨z1, z2⟩ := t5 s hs'
          refine keep s _ (fun z => ?_) z2 q
          obtain ⟨x, y, e, _⟩ := P2
          rw [← z, z1] at e
          cases e
        · rw [upd_ne ntD2.symm, upd_same]
      · intro e he'
        rcases List.mem_append.mp he' with z | z
        · exact t7 e z
        · rw [List.mem_singleton.mp z]
          exact ⟨ba, bn⟩
    · obtain ⟨ts, r, t1, t2, t3, P3, t5, t6, t7⟩ := hp
      have np : ∀ b, H1 b = none → b ≠ p := fun b e z => by
        obtain ⟨x, y, q, _⟩ := hP
        rw [← z, e] at q
        cases q
      have np2 : ∀ b, H2 b = none → b ≠ p := fun b e z => by
        obtain ⟨x, y, q, _⟩ := P2
        rw [← z, e] at q
        cases q
      have nD2 : ∀ b, H2 b = none → b ≠ D := fun b e z => by
        rw [z, r2] at e
        cases e
      have n12 : ∀ b, H2 b = none → H1 b = none := fun b e => by
        cases q : H1 b with
        | none => rfl
        | some o =>
          rw [r3 _ _ (np2 b e) q] at e
          cases e
      refine ⟨_, t3 _ _ npD.symm r2, ?_, ls ++ [D2], rs ++ [r], fun b => S b ∨ b = D2 ∨ b ∈ ts, by rw [List.length_append, r1]; rfl, by rw [upd_same, List.map_append]; rfl, but_new (r3.trans t3) hD, pot_upd P3 npD, ?_, ?_, ?_⟩
      · have : ls.length = rs.length := Paired.length r6
        rw [List.length_map, sizeLine_eq]
        omega
      · intro b hb
        rcases hb with z | z | z
        · obtain ⟨⟨z1, z2⟩, z3⟩ := r5 b z
          refine ⟨⟨z1, ?_⟩, z3⟩
          obtain ⟨o, e⟩ := Option.ne_none_iff_exists'.mp z2
          rw [upd_ne z3, t3 _ _ (np b z1) e]
          simp
        · subst z
          refine ⟨⟨n12 _ hD2, ?_⟩, nDD.symm⟩
          rw [upd_ne nDD.symm, t2]
          simp
        · have z1 := (t5 b z).1
          refine ⟨⟨n12 _ z1, ?_⟩, nD2 b z1⟩
          obtain ⟨e, q⟩ := pr_mem t6 z
          rw [upd_ne (nD2 b z1), q]
          simp
      · have fr : Fr (fun b => b = p ∨ b = D) H2 (upd H3 D (.lst (ls.map V.ref ++ [V.ref D2]))) := fun b o n e => by
          rw [upd_ne (fun z => n (.inr z))]
          exact t3 _ _ (fun z => n (.inl z)) e
        refine pr_app (pr_map r6 fun l q _ d => Dt.mono (d.fr fr fun b hb => ?_) fun b hb => .inl hb) (.cons ?_ .nil)
        · obtain ⟨⟨z1, _⟩, z3⟩ := r5 b hb
          rintro (z | z)
          · exact np b z1 z
          · exact z3 z
        · have at_ : ∀ b, (b = D2 ∨ b ∈ ts) → b ≠ D → ∀ o, H3 b = some o → Vw (fun b => S b ∨ b = D2 ∨ b ∈ ts) (upd H3 D (.lst (ls.map V.ref ++ [V.ref D2]))) b = some o := fun b hb n o e => by
            rw [vw_at (.inr hb), upd_ne n]
            exact e
          refine .lst ((at_ D2 (.inl rfl) nDD.symm _ t2)) ?_
          clear r6 r7 t7
          have all : ∀ {us : List Addr} {q : Rw}, (∀ t ∈ us, t ∈ ts) → Paired (fun t (e : Int × Int) => H3 t = some (.tup [.int e.1, .int e.2])) us q → TrAll (Vw (fun b => S b ∨ b = D2 ∨ b ∈ ts) (upd H3 D (.lst (ls.map V.ref ++ [V.ref D2])))) (us.map V.ref) (q.map fun e => .tuple [.int e.1, .int e.2]) := fun {us q} hm hq => by
            induction hq with
            | nil => exact .nil
            | cons h _ ih =>
              refine .cons (.tup (((at_ _ (.inr (hm _ List.mem_cons_self)) (nD2 _ (t5 _ (hm _ List.mem_cons_self)).1) _ h))) (.cons (.int _) (.cons (.int _) .nil))) (ih fun t ht => hm t (List.mem_cons_of_mem _ ht))
          exact all (fun _ h => h) t6
      · intro q hq
        rcases List.mem_append.mp hq with z | z
        · exact r7 q z
        · rw [List.mem_singleton.mp z]
          exact ⟨t1, t7⟩
  · obtain ⟨ls, rs, S, r1, r2, r3, P2, r5, r6, r7⟩ := hp
    refine k H2 D rs (fun b => S b ∨ b = D) r3 P2 (fun b hb => ?_) ?_ ⟨r1, r7⟩
    · rcases hb with z | z
      · exact (r5 b z).1
      · subst z
        exact ⟨hD, by rw [r2]; simp⟩
    · refine .lst ((by rw [vw_at (.inr rfl)]; exact r2)) ?_
      have all : ∀ {us : List Addr} {q : List Rw}, Paired (fun l r => Dt K S H2 (.ref l) (rowD r)) us q → TrAll (Vw (fun b => S b ∨ b = D) H2) (us.map V.ref) (q.map rowD) := fun {us q} hq => by
        induction hq with
        | nil => exact .nil
        | cons h _ ih => exact .cons (Dt.mono h fun b hb => .inl hb) ih
      exact all r6
end
end Cr


namespace K21
open PySem PySem.Spec PyProof.Rows L2 Xv Cr TL
abbrev pr : Program := PySem.Challenge.pw_settlesfirst_k21_whole_layouts_told
def top (i : Nat) : Stmt := pr.main.body.getD i (.Pass ⟨0, 0, 0, 0⟩)
/-- the names of builtins stand for them -/
structure Bl (mg : Str → Option Value) : Prop where
  len : mg "len" = none
  abs : mg "abs" = none
  max : mg "max" = none
  min : mg "min" = none
  int : mg "int" = none
  divmod : mg "divmod" = none
  repr : mg "repr" = none
  isinstance : mg "isinstance" = none
  enumerate : mg "enumerate" = none
  range : mg "range" = none
  all : mg "all" = none
  list : mg "list" = none
  tuple : mg "tuple" = none
  set : mg "set" = none
  str : mg "str" = none
  bool : mg "bool" = none
  ValueError : mg "ValueError" = none
/-! ### what each helper does -/
def spPot (K : PySem.W.Frag) : Sp := fun vs H Q _ => ∃ (a : Addr) (ns : List Int) (k : Nat), vs = [.ref a, .int k] ∧ SqL K H a (ns.map V.int) ∧ k < 64 ∧ ∀ H' p, Same H H' → H p = none → Pot H' p → Q (.ref p) H'
def spDraw : Sp := fun vs H Q _ => ∃ (p : Addr) (n : Int), vs = [.ref p, .int n] ∧ Pot H p ∧ 0 < n ∧ n < 1073741824 ∧ ∀ H' (d : Int), But p H H' → Pot H' p → 0 ≤ d → d < n → Q (.int d) H'
/-- out of a list, or a sign of a text -/
def spPick : Sp := fun vs H Q _ => ∃ (p : Addr) (y : V), vs = [.ref p, y] ∧ Pot H p ∧
  ((∃ (l : Addr) (xs : List V), y = .ref l ∧ l ≠ p ∧ H l = some (.lst xs) ∧ 0 < xs.length ∧ xs.length < 1000 ∧ ∀ H' (i : Nat) x, xs[i]? = some x → But p H H' → Pot H' p → Q x H') ∨
    ∃ z : Str, y = .str z ∧ 0 < z.length ∧ z.length < 1000 ∧ ∀ H' c, c ∈ z.cps.toList → But p H H' → Pot H' p → Q (.str (ch c)) H')
def spNames : Sp := fun vs H Q _ => ∃ (p : Addr) (n : Nat), vs = [.ref p, .int n] ∧ Pot H p ∧ n ≤ 20 ∧ ∀ H' l (ns : List Str), But p H H' → Pot H' p → H l = none → H' l = some (.lst (ns.map V.str)) → ns.length = n → ns.Nodup → (∀ x ∈ ns, Nm x) → Q (.ref l) H'
def spTable (K : PySem.W.Frag) : Sp := fun vs H Q _ => ∃ (p : Addr) (size many : Nat), vs = [.ref p, .int size, .int many] ∧ Pot H p ∧ 0 < size ∧ size ≤ 10 ∧ many ≤ 20 ∧ ∀ H' v rs S, But p H H' → Pot H' p → (∀ b, S b → Nw H H' b) → Dt K S H' v (rowsD rs) → Tb size many rs → Q v H'
def spModel (K : PySem.W.Frag) : Sp := fun vs H Q _ => ∃ (p : Addr) (ms md : Nat), vs = [.ref p, .int ms, .int md] ∧ Pot H p ∧ 0 < ms ∧ ms ≤ 9 ∧ 0 < md ∧ md ≤ 15 ∧ ∀ H' m (ns : List Str) (rs : List Rw) (size many : Nat) S, But p H H' → Pot H' p → (∀ b, S b → Nw H H' b) → Dt K S H' (.ref m) (modelD ns rs) → (1 ≤ size ∧ size ≤ ms) → (1 ≤ many ∧ many ≤ md) → ns.length = many → ns.Nodup → (∀ x ∈ ns, Nm x) → Tb size many rs → Q (.ref m) H'
abbrev s_pot : Stmt := top 48
abbrev N_pot : List Str := ["_law_script", "_law_k", "_law_cell"]
theorem sc_pot : FnScope N_pot ["_law_script", "_law_k"] (defScope s_pot) := ⟨rfl, rfl, rfl, by decide +kernel, rfl, by decide +kernel, by decide +kernel⟩
abbrev s_draw : Stmt := top 49
abbrev N_draw : List Str := ["_law_pot_here", "_law_many", "_law_digit"]
theorem sc_draw : FnScope N_draw ["_law_pot_here", "_law_many"] (defScope s_draw) := ⟨rfl, rfl, rfl, by decide +kernel, rfl, by decide +kernel, by decide +kernel⟩
abbrev s_pick : Stmt := top 50
abbrev N_pick : List Str := ["_law_pot_here", "_law_some"]
theorem sc_pick : FnScope N_pick ["_law_pot_here", "_law_some"] (defScope s_pick) := ⟨rfl, rfl, rfl, by decide +kernel, rfl, by decide +kernel, by decide +kernel⟩
abbrev s_names : Stmt := top 51
abbrev N_names : List Str := ["_law_pot_here", "_law_size", "_law_signs", "_law_found", "_law_turn", "_law_word", "_law_spot", "_law_near", "_law_sign", "_law_one"]
theorem sc_names : FnScope N_names ["_law_pot_here", "_law_size"] (defScope s_names) := ⟨rfl, rfl, rfl, by decide +kernel, rfl, by decide +kernel, by decide +kernel⟩
section
variable {P : Program} {w : World} {K : PySem.W.Frag} {mg : Str → Option Value} {base : Heap}
theorem ok_pot {f : Addr} {fd : FuncData} (F : Fun K "_law_pot" "_law_pot" s_pot f fd) (T : Bl mg) : FnOk P w K mg base CX0 1 f fd ["_law_script", "_law_k"] (spPot K) := by
  refine F.ok sc_pot (fun vs H Q E h => ?_) (fun cdv A outer s H vs Q E hr h => ?_)
  · obtain ⟨a, ns, k, rfl, _⟩ := h
    rfl
  · obtain ⟨a, ns, k, rfl, hS, hk, q⟩ := h
    refine ⟨_, (pss_cons (ps_set (i := 2) sc_pot.nd rfl (Or.inl rfl) (pe_op op_add (pe_op op_mul pe_int (pv 1)) pe_int))
  (pss_cons (ps_if (pt_cmpR op_lt (pv 1) (pe_callB (id := "len") (call_ln) (by rfl) T.len (by decide +kernel) (pa_cons (pv 0) pa_nil)) (nomark _)) (pss_one (ps_set (i := 2) sc_pot.nd rfl (Or.inl rfl) (pe_callB (id := "abs") call_abs (by rfl) T.abs (by decide +kernel) (pa_cons (pe_ix ix_list (pv 0) (pv 1) (fun _ _ => rfl)) pa_nil)))) pss_nil)
  (pss_one (ps_ret (pe_lst (pa_cons (pe_callB (id := "max") (call_max2 rfl) (by rfl) T.max (by decide +kernel) (pa_cons pe_int (pa_cons (pe_op op_sub (pv 2) (pe_op op_pow pe_int pe_int)) pa_nil))) (pa_cons (pe_op op_add (pe_op op_mod (pe_callTy (T := "int") call_i1 (by rfl) T.int (by decide +kernel) (pa_cons (pe_op op_add (pe_op op_add (pe_op op_mul (pe_op op_mod (pe_callTy (T := "int") call_i1 (by rfl) T.int (by decide +kernel) (pa_cons (pv 2) pa_nil)) pe_int) pe_int) (pe_op op_mul pe_int (pv 1))) pe_int) pa_nil)) pe_int) pe_int) pa_nil))))))), ?_⟩
    have step : ∀ (c : Int), 0 ≤ c % 2147483543 + 1 ∧ c % 2147483543 + 1 < 4294967296 := fun c => by omega
    have step0 : ∀ (c : Int), 0 ≤ (if c > 0 then c else 0) := fun c => by split <;> omega
    refine ⟨_, rfl, _, _, rfl, rfl, .inl ⟨by decide, by decide⟩, _, _, rfl, rfl, ?_⟩
    refine ⟨_, rfl, _, rfl, _, _, rfl, .inl hS, _, _, rfl, rfl, _, rfl, ?_⟩
    refine ite2 (fun hlt => ?_) (fun _ => ?_)
    · have hlt' : k < (ns.map V.int).length := by
        have := of_decide_eq_true hlt
        omega
      have hat : atI (ns.map V.int) (k : Int) = some (V.int (ns[k]'(by simpa using hlt'))) := by
        unfold atI ixN
        rw [if_pos (by omega), if_pos (by omega)]
        simp at hlt' ⊢
      refine ⟨_, rfl, _, rfl, _, _, _, _, rfl, rfl, hS, hat, _, rfl, ?_⟩
      refine ⟨_, rfl, _, _, rfl, rfl, ⟨by decide, by decide, by decide⟩, _, _, rfl, rfl, _, _, rfl, ?_⟩
      refine ⟨_, rfl, .inl ⟨_, rfl, _, _, rfl, rfl, (show (0 : Int) < 2147483563 by decide), _, _, rfl, rfl, .inr ⟨by decide, by decide⟩, _, rfl, _, _, rfl, rfl, .inl ⟨by decide, by decide⟩, _, _, rfl, rfl, _, _, rfl, rfl, .inl ⟨_, rfl, _, _, rfl, rfl, (show (0 : Int) < 2147483543 by decide), _, _, rfl, rfl, ?_⟩⟩⟩
      exact ⟨by show 2 ≤ sizeLine; decide, fun p hp => q _ p (same_upd hp) hp ⟨_, _, upd_same, step0 _, (step _).1, (step _).2⟩⟩
    · refine ⟨_, rfl, _, _, rfl, rfl, ⟨by decide, by decide, by decide⟩, _, _, rfl, rfl, _, _, rfl, ?_⟩
      refine ⟨_, rfl, .inl ⟨_, rfl, _, _, rfl, rfl, (show (0 : Int) < 2147483563 by decide), _, _, rfl, rfl, .inr ⟨by decide, by decide⟩, _, rfl, _, _, rfl, rfl, .inl ⟨by decide, by decide⟩, _, _, rfl, rfl, _, _, rfl, rfl, .inl ⟨_, rfl, _, _, rfl, rfl, (show (0 : Int) < 2147483543 by decide), _, _, rfl, rfl, ?_⟩⟩⟩
      exact ⟨by show 2 ≤ sizeLine; decide, fun p hp => q _ p (same_upd hp) hp ⟨_, _, upd_same, step0 _, (step _).1, (step _).2⟩⟩
theorem ok_draw {f : Addr} {fd : FuncData} (F : Fun K "_law_draw" "_law_draw" s_draw f fd) (T : Bl mg) : FnOk P w K mg base CX0 1 f fd ["_law_pot_here", "_law_many"] spDraw := by
  refine F.ok sc_draw (fun vs H Q E h => ?_) (fun cdv A outer s H vs Q E hr h => ?_)
  · obtain ⟨p, n, rfl, _⟩ := h
    rfl
  · obtain ⟨p, n, rfl, ⟨a, b, hp, ha, hb, hb2⟩, hn, hn2, q⟩ := h
    refine ⟨_, (pss_cons (ps_if (pt_cmpR op_gt (pe_ix ix_list (pv 0) pe_int (fun _ _ => rfl)) pe_int (nomark _)) (pss_cons (ps_asg (pe_callB (id := "divmod") call_divmod (by rfl) T.divmod (by decide +kernel) (pa_cons (pe_ix ix_list (pv 0) pe_int (fun _ _ => rfl)) (pa_cons (pv 1) pa_nil))) (pg_tup rfl (pgs_cons (pg_sub (pv 0) pe_int set_list) (pgs_cons (pg_name (i := 2) sc_draw.nd rfl (Or.inl rfl)) pgs_nil))))
  (pss_one (ps_ret (pv 2)))) pss_nil)
  (pss_cons (ps_asg (pe_op op_mod (pe_callTy (T := "int") call_i1 (by rfl) T.int (by decide +kernel) (pa_cons (pe_op op_add (pe_op op_mul (pe_ix ix_list (pv 0) pe_int (fun _ _ => rfl)) pe_int) pe_int) pa_nil)) pe_int) (pg_sub (pv 0) pe_int set_list))
  (pss_one (ps_ret (pe_op op_mod (pe_callTy (T := "int") call_i1 (by rfl) T.int (by decide +kernel) (pa_cons (pe_op op_fdiv (pe_op op_mod (pe_callTy (T := "int") call_i1 (by rfl) T.int (by decide +kernel) (pa_cons (pe_op op_mul (pe_ix ix_list (pv 0) pe_int (fun _ _ => rfl)) (pe_ix ix_list (pv 0) pe_int (fun _ _ => rfl))) pa_nil)) pe_int) pe_int) pa_nil)) (pv 1)))))), ?_⟩
    have dm := Int.emod_nonneg a (show n ≠ 0 by omega)
    refine ⟨_, rfl, _, _, _, _, rfl, rfl, SqL.of hp, rfl, _, _, rfl, rfl, _, rfl, ?_⟩
    refine ite2 (fun _ => ?_) (fun _ => ?_)
    · refine ⟨_, rfl, _, _, _, _, rfl, rfl, SqL.of hp, rfl, _, rfl, _, _, rfl, ⟨hn, hn2⟩, fun t ht => ?_⟩
      have npt : p ≠ t := ne_of_none hp ht
      refine ⟨_, _, rfl, .inl (.inl upd_same), rfl, _, _, rfl, _, rfl, _, _, _, _, rfl, rfl, by rw [upd_ne npt]; exact hp, rfl, _, _, rfl, rfl, _, rfl, ?_⟩
      exact q _ _ (But.upd (Same.but (same_upd ht))) ⟨_, _, upd_same, Int.ediv_nonneg ha (by omega), hb, hb2⟩ dm (Int.emod_lt_of_pos a hn)
    · have z1 : ∀ c : Int, 0 ≤ c % 2147483543 ∧ c % 2147483543 < 4294967296 := fun c => by omega
      have z2 : ∀ c : Int, -(2 ^ 64) < c % 2147483543 ∧ c % 2147483543 < 2 ^ 64 := fun c => by omega
      refine ⟨_, rfl, _, _, _, _, rfl, rfl, SqL.of hp, rfl, _, _, rfl, rfl, .inr ⟨by decide, by decide⟩, _, _, rfl, rfl, .inl ⟨_, rfl, _, _, rfl, rfl, (show (0 : Int) < 2147483543 by decide), _, rfl, _, _, _, _, rfl, rfl, hp, rfl, ?_⟩⟩
      refine ⟨_, rfl, _, _, _, _, rfl, rfl, SqL.of upd_same, rfl, _, rfl, _, _, _, _, rfl, rfl, SqL.of upd_same, rfl, _, _, rfl, rfl, .inl (z2 _), .inl ⟨_, rfl, _, _, rfl, rfl, (show (0 : Int) < 2147483563 by decide), _, _, rfl, rfl, ⟨by decide, by decide⟩, .inl ⟨_, rfl, _, rfl, _, _, rfl, rfl, hn, ?_⟩⟩⟩
      exact q _ _ (But.upd (But.refl _ _)) ⟨_, _, upd_same, ha, (z1 _).1, (z1 _).2⟩ (Int.emod_nonneg _ (by omega)) (Int.emod_lt_of_pos _ hn)
theorem ok_pick {f : Addr} {fd : FuncData} (F : Fun K "_law_pick" "_law_pick" s_pick f fd) (T : Bl mg) (c_draw : Cl P w K mg base 1 "_law_draw" spDraw) : FnOk P w K mg base CX0 2 f fd ["_law_pot_here", "_law_some"] spPick := by
  refine F.ok sc_pick (fun vs H Q E h => ?_) (fun cdv A outer s H vs Q E hr h => ?_)
  · obtain ⟨p, y, rfl, _⟩ := h
    rfl
  · obtain ⟨p, y, rfl, hP, z⟩ := h
    refine ⟨_, (pss_one (ps_ret (pe_ix ix_seq (pv 1) (pe_cl c_draw hr (by decide) (by rfl) (pa_cons (pv 0) (pa_cons (pe_callB (id := "len") (call_len) (by rfl) T.len (by decide +kernel) (pa_cons (pv 1) pa_nil)) pa_nil))) (fun _ _ => rfl)))), ?_⟩
    rcases z with ⟨l, xs, rfl, hne, hl, h0, h1, q⟩ | ⟨z, rfl, h0, h1, q⟩
    · refine ⟨_, rfl, _, rfl, _, rfl, _, _, rfl, .inl ⟨xs, SqL.of hl, rfl⟩, _, _, rfl, hP, by omega, by omega, fun H' d hb hP' d0 dn => ?_⟩
      have hd : d.toNat < xs.length := by omega
      refine .inl ⟨_, _, _, _, rfl, rfl, SqL.of (hb _ _ hne hl), ?_, q H' d.toNat _ (List.getElem?_eq_getElem hd) hb hP'⟩
      unfold atI ixN
      rw [if_pos d0, if_pos dn]
      exact List.getElem?_eq_getElem hd
    · refine ⟨_, rfl, _, rfl, _, rfl, _, _, rfl, ⟨by rw [sizeLine_eq]; omega, rfl⟩, _, _, rfl, hP, by omega, by omega, fun H' d hb hP' d0 dn => ?_⟩
      have hd : d.toNat < z.cps.toList.length := by
        rw [← len_tl]
        omega
      refine .inr (.inr ⟨_, _, _, rfl, rfl, by rw [sizeLine_eq]; omega, ?_, q H' _ (List.getElem_mem hd) hb hP'⟩)
      unfold atI ixN
      rw [if_pos d0, if_pos (by rw [← len_tl]; exact dn)]
      exact List.getElem?_eq_getElem hd
theorem ok_names {f : Addr} {fd : FuncData} (F : Fun K "_law_names" "_law_names" s_names f fd) (T : Bl mg) (c_pick : Cl P w K mg base 2 "_law_pick" spPick) : FnOk P w K mg base CX0 3 f fd ["_law_pot_here", "_law_size"] spNames := by
  refine F.ok sc_names (fun vs H Q E h => ?_) (fun cdv A outer s H vs Q E hr h => ?_)
  · obtain ⟨p, n, rfl, _⟩ := h
    rfl
  · obtain ⟨p, n, rfl, hP, hn, q⟩ := h
    refine ⟨_, (pss_cons (ps_asg (pe_tup (pa_cons pe_str (pa_cons (pe_lst pa_nil) pa_nil))) (pg_tup rfl (pgs_cons (pg_name (i := 2) sc_names.nd rfl (Or.inr rfl)) (pgs_cons (pg_name (i := 3) sc_names.nd rfl (Or.inr rfl)) pgs_nil))))
  (pss_cons (ps_for PassesOwn.never rfl (pi_range1 rfl T.range (pa_cons (pv 1) pa_nil)) (pg_name (i := 4) sc_names.nd rfl (Or.inl rfl))
  (pss_cons (ps_set (i := 5) sc_names.nd rfl (Or.inr rfl) (pe_join pe_str (pe_lc (own := [("_law_spot", 6)]) (g := gName 6) (tt := tYes) rfl sc_names.nd (pi_range1 rfl T.range (pa_cons (pe_op op_add pe_int (pe_cl c_pick hr (by decide) (by rfl) (pa_cons (pv 0) (pa_cons (pe_lst (pa_cons pe_int (pa_cons pe_int (pa_cons pe_int (pa_cons pe_int (pa_cons pe_int (pa_cons pe_int pa_nil))))))) pa_nil)))) pa_nil)) (blkOk_by (N := N_names) (sc := defScope s_names) (by decide +kernel)) (fun _ _ _ _ _ => (pg_name (i := 6) sc_names.nd rfl (Or.inl rfl))) (fun _ _ _ _ _ => pts_nil) (fun _ _ _ _ _ => (pe_cl c_pick hr (by decide) (by rfl) (pa_cons (pv 0) (pa_cons (pv 2) pa_nil)))))))
  (pss_cons (ps_set (i := 7) sc_names.nd rfl (Or.inl rfl) (pe_op op_cat (pe_lst (pa_cons (pv 5) pa_nil)) (pe_lc (own := [("_law_sign", 8)]) (g := gName 8) (tt := tYes) rfl sc_names.nd (pi_str (pv 2)) (blkOk_by (N := N_names) (sc := defScope s_names) (by decide +kernel)) (fun _ _ _ _ _ => (pg_name (i := 8) sc_names.nd rfl (Or.inl rfl))) (fun _ _ _ _ _ => pts_nil) (fun _ _ _ _ _ => (pe_op op_add_str (pe_slice sl_str (pv 5) po_none (po_some pe_int)) (pv 8))))))
  (pss_one (ps_expr (pe_bm PySem.F.plainAttrs_list PySem.F.slot_list_append PySem.F.type_list_append mt_append (pv 3) (pa_cons (pe_ix ix_list (pe_lc (own := [("_law_one", 9)]) (g := gName 9) (tt := tTest (tOp (rIn K true) (tVar 9) (tVar 3))) rfl sc_names.nd (pi_list (pv 7)) (blkOk_by (N := N_names) (sc := defScope s_names) (by decide +kernel)) (fun _ _ _ _ _ => (pg_name (i := 9) sc_names.nd rfl (Or.inl rfl))) (fun _ _ _ _ _ => (pts_one (pt_cmpR op_notIn_seq (pv 9) (pv 3) (by rfl)))) (fun _ _ _ _ _ => (pv 9))) pe_int (fun _ _ => rfl)) pa_nil)))))))
  (pss_one (ps_ret (pv 3))))), ?_⟩
    refine ⟨by show 0 ≤ sizeLine; decide, fun l nl => ⟨by show 2 ≤ sizeLine; decide, fun t nt => ?_⟩⟩
    have nlt : l ≠ t := fun z => by
      rw [← z, upd_same] at nt
      cases nt
    refine ⟨t, _, rfl, .inl (.inl upd_same), rfl, _, _, rfl, _, _, rfl, ⟨rfl, ?_⟩⟩
    have npl : p ≠ l := pot_ne hP nl
    refine ⟨_, rfl, n, rfl, by omega, by omega, for_range (lo := 0) (n := n) (fun i σ H' => ∃ ns u4 u5 u6 u7 u8 u9, σ = [some (.ref p), some (.int n), some (.str sgn), some (.ref l), u4, u5, u6, u7, u8, u9] ∧ But p H H' ∧ Pot H' p ∧ H' l = some (.lst (ns.map V.str)) ∧ ns.length = i ∧ ns.Nodup ∧ ∀ x ∈ ns, Nm x)
      ⟨[], _, _, _, _, _, _, rfl, Same.but ((same_upd nl).trans (same_upd nt)), pot_same hP ((same_upd nl).trans (same_upd nt)), by rw [upd_ne nlt]; exact upd_same, rfl, .nil, by simp⟩ ?_ ?_⟩
    · rintro i σ H1 hi ⟨ns, u4, u5, u6, u7, u8, u9, rfl, bB, P1, hl, hlen, nd, nm⟩
      -- the word
      refine ⟨⟨_, rfl⟩, ?_⟩
      refine ⟨_, rfl, by show 6 ≤ sizeLine; decide, fun a na => ?_⟩
      have npa : p ≠ a := pot_ne P1 na
      refine ⟨p, .ref a, rfl, pot_same P1 (same_upd na), .inl ⟨a, _, rfl, npa.symm, upd_same, by decide, by decide, fun H2 i x hx b2 P2 => ?_⟩⟩
      obtain ⟨k, rfl, k0, k7⟩ : ∃ k : Int, x = .int k ∧ 0 ≤ k ∧ k ≤ 7 := by
        match i, hx with
        | 0, hx => exact ⟨0, (Option.some.inj hx).symm, by decide, by decide⟩
        | 1, hx => exact ⟨0, (Option.some.inj hx).symm, by decide, by decide⟩
        | 2, hx => exact ⟨0, (Option.some.inj hx).symm, by decide, by decide⟩
        | 3, hx => exact ⟨1, (Option.some.inj hx).symm, by decide, by decide⟩
        | 4, hx => exact ⟨2, (Option.some.inj hx).symm, by decide, by decide⟩
        | 5, hx => exact ⟨7, (Option.some.inj hx).symm, by decide, by decide⟩
        | i + 6, hx => simp at hx
      replace b2 : But p H1 H2 := (Same.but (same_upd na)).trans b2
      clear hx
      refine ⟨_, _, rfl, rfl, _, rfl, by omega, by omega, fun D hD => ?_⟩
      have npD : p ≠ D := pot_ne P2 hD
      refine lc_range (lo := 0) (n := (1 + k).toNat) (fun j H' => ∃ cs : List Nat, cs.length = j ∧ (∀ c ∈ cs, 97 ≤ c ∧ c < 123) ∧ But p H2 H' ∧ Pot H' p ∧ H' D = some (.lst (cs.map fun c => V.str (ch c)))) ⟨[], rfl, by simp, Same.but (same_upd hD), pot_same P2 (same_upd hD), upd_same⟩ (fun j H3 hj hp => ?_) (fun H3 hp => ?_)
      · obtain ⟨cs, h1, h2, h3, h4, h5⟩ := hp
        refine ⟨wipe_back, ?_⟩
        unfold tYes
        dsimp only
        rw [if_pos rfl]
        refine ⟨_, rfl, _, rfl, p, _, rfl, h4, .inr ⟨sgn, rfl, by rw [sgn_len]; decide, by rw [sgn_len]; decide, fun H4 c hc b4 P4 => ?_⟩⟩
        refine ⟨_, b4 _ _ npD.symm h5, by rw [List.length_map, sizeLine_eq]; omega, cs ++ [c], by rw [List.length_append, h1]; rfl, fun d hd => ?_, but_new (h3.trans b4) hD, pot_upd P4 npD, by rw [upd_same, List.map_append]; rfl⟩
        rcases List.mem_append.mp hd with z | z
        · exact h2 d z
        · rw [List.mem_singleton.mp z]
          rw [sgn_list, List.mem_range'_1] at hc
          omega
      obtain ⟨cs, h1, h2, h3, P3, h5⟩ := hp
      have hw : Nm (Txt.join "" (cs.map ch)) := nm_chs (by omega) (by omega) h2
      have hs : ((cs.map ch).map (·.length)).sum ≤ 8 := by
        have e : (cs.map ch).map (·.length) = List.replicate cs.length 1 := by
          rw [List.map_map]
          exact List.eq_replicate_iff.mpr ⟨by simp, fun b hb => by
            obtain ⟨c, _, rfl⟩ := List.mem_map.mp hb
            rfl⟩
        rw [e, List.sum_replicate_nat]
        omega
      refine ⟨_, D, cs.map ch, rfl, rfl, .inl (SqL.of (by rw [h5, List.map_map]; rfl)), by rw [show ("" : Str).length = 0 from by decide +kernel]; omega, ?_⟩
      generalize Txt.join "" (cs.map ch) = w at hw ⊢
      -- the words beside it
      replace b2 := b2.trans h3
      refine ⟨_, rfl, by show 1 ≤ sizeLine; decide, fun a1 n1 => ?_⟩
      refine ⟨_, rfl, sgn, rfl, fun D2 hD2 => ?_⟩
      refine lc_it (n := 26) (G := fun _ => True) (Y := fun i H x H' => H' = H ∧ ∃ c, sgn.cps[i]? = some c ∧ x = .str (ch c)) ⟨fun i _ hi _ => by show i < sgn.cps.size; rw [show sgn.cps.size = 26 from by decide +kernel]; exact hi, fun _ _ => by show sgn.cps.size ≤ 26; decide +kernel, fun _ _ _ _ _ _ y => y⟩
        (fun j H' => H' = upd (upd H3 a1 (.lst [.str w])) D2 (.lst (((List.range' 97 j).map (nx7 w)).map V.str))) rfl (fun _ _ _ _ => trivial) (fun j x H' H'' hj e y => ?_) (fun H' e => ?_)
      · obtain ⟨rfl, c, hc, rfl⟩ := y
        subst e
        have ec : c = 97 + j := by
          have h1 : sgn.cps.toList[j]? = some c := by simpa using hc
          rw [sgn_list, List.getElem?_range' hj] at h1
          have := Option.some.inj h1
          omega
        subst ec
        refine ⟨wipe_back, ?_⟩
        unfold tYes
        dsimp only
        rw [if_pos rfl]
        refine ⟨_, rfl, 7, rfl, w, rfl, by rw [sizeLine_eq]; have := hw.2.1; omega, _, rfl, _, _, rfl, rfl, ?_, _, upd_same, by rw [List.length_map, List.length_map, List.length_range', sizeLine_eq]; omega, ?_⟩
        · have z1 : (nx7 w (97 + j)).length ≤ 8 := (nm_nx hw (by omega)).2.1
          have z2 : (nx7 w (97 + j)).length = (cutS w none (some 7)).length + (ch (97 + j)).length := by
            rw [len_tl, len_tl, len_tl]
            unfold nx7
            rw [tl_append, List.length_append]
          rw [sizeLine_eq]
          show (cutS w none (some 7)).length + (ch (97 + j)).length ≤ _
          omega
        · rw [upd_upd, List.range'_concat, List.map_append, List.map_append]
          simp only [Nat.one_mul]
          rfl
      subst e
      have n12 : a1 ≠ D2 := fun z => by
        rw [← z, upd_same] at hD2
        cases hD2
      refine ⟨a1, D2, _, _, rfl, rfl, by rw [upd_ne n12]; exact upd_same, upd_same, by rw [List.length_map, List.length_map, List.length_range', sizeLine_eq]; show 1 + 26 ≤ _; decide, fun nr nn => ?_⟩
      have e27 : [V.str w] ++ (((List.range' 97 26).map (nx7 w)).map V.str) = (near w).map V.str := rfl
      rw [e27]
      have s6 := ((same_upd (o := .lst [V.str w]) n1).trans (same_upd (o := .lst (((List.range' 97 26).map (nx7 w)).map V.str)) hD2)).trans (same_upd (o := .lst ((near w).map V.str)) nn)
      have hnr : upd (upd (upd H3 a1 (.lst [.str w])) D2 (.lst (((List.range' 97 26).map (nx7 w)).map V.str))) nr (.lst ((near w).map V.str)) nr = some (.lst ((near w).map V.str)) := upd_same
      generalize upd (upd (upd H3 a1 (.lst [.str w])) D2 (.lst (((List.range' 97 26).map (nx7 w)).map V.str))) nr (.lst ((near w).map V.str)) = H6 at s6 hnr ⊢
      have B6 : But p H1 H6 := b2.trans (Same.but s6)
      have P6 := pot_same P3 s6
      have hl6 := B6 _ _ npl.symm hl
      -- the first one that is free
      refine ⟨_, rfl, .inl ⟨rfl, _, SqL.of hl6⟩, ?_⟩
      refine ⟨_, rfl, nr, rfl, ⟨_, SqL.of hnr⟩, fun D3 hD3 => ?_⟩
      have n3l : l ≠ D3 := ne_of_none hl6 hD3
      have n3r : nr ≠ D3 := ne_of_none hnr hD3
      refine lc_list (K := K) (a := nr) (xs := (near w).map V.str) (fun j H' => H' = upd H6 D3 (.lst ((((near w).take j).filter (fun x => !ns.contains x)).map V.str))) rfl (fun j H' _ e => by rw [e]; exact SqL.of (by rw [upd_ne n3r]; exact hnr)) (fun j x H' hx e => ?_) (fun H' e => ?_)
      · subst e
        rw [List.getElem?_map] at hx
        obtain ⟨y, hy, rfl⟩ : ∃ y, (near w)[j]? = some y ∧ x = V.str y := by
          cases e : (near w)[j]? with
          | none =>
            rw [e] at hx
            cases hx
          | some y =>
            rw [e] at hx
            exact ⟨y, rfl, (Option.some.inj hx).symm⟩
        refine ⟨wipe_back, ?_⟩
        refine ⟨_, rfl, _, rfl, l, _, rfl, .inl (SqL.of (by rw [upd_ne n3l]; exact hl6)), rfl, by simp [List.all_map, flatV], _, rfl, ?_⟩
        have ein : inV (V.str y) (ns.map V.str) = ns.contains y := by
          unfold inV
          rw [List.any_map]
          rw [Bool.eq_iff_iff, List.any_eq_true, List.contains_iff_mem]
          exact ⟨fun ⟨z, hz, e⟩ => by
            have : (z == y) = true := e
            rw [← eq_of_beq this]
            exact hz, fun h => ⟨y, h, by show (y == y) = true; simp⟩⟩
        have hj : j < (near w).length := (List.getElem?_eq_some_iff.mp hy).1
        have h27 : (near w).length = 27 := by
          unfold near
          rw [List.length_cons, List.length_map, List.length_range']
        rw [take_step hy, List.filter_append]
        show (if (!inV (V.str y) (ns.map V.str)) = true then _ else _)
        rw [ein]
        refine ite2 (fun z => ?_) (fun z => ?_)
        · refine ⟨_, rfl, _, upd_same, ?_, ?_⟩
          · rw [List.length_map, sizeLine_eq]
            have z1 := List.length_filter_le (fun x => !ns.contains x) ((near w).take j)
            rw [List.length_take] at z1
            omega
          · have ef : List.filter (fun x => !ns.contains x) [y] = [y] := by simp only [List.filter, z]
            rw [upd_upd, ef, List.map_append]
            rfl
        · have ef : List.filter (fun x => !ns.contains x) [y] = [] := by
            have z2 : (!ns.contains y) = false := by simpa using z
            simp only [List.filter, z2]
          rw [ef, List.append_nil]
      subst e
      rw [List.length_map, List.take_length]
      have hne := near_free w ns (by omega)
      obtain ⟨y0, r0, er⟩ := List.exists_cons_of_ne_nil hne
      have hy0 : y0 ∈ (near w).filter (fun x => !ns.contains x) := by rw [er]; exact List.mem_cons_self
      obtain ⟨hy1, hy2⟩ := List.mem_filter.mp hy0
      have hy3 : y0 ∉ ns := by simpa using hy2
      refine ⟨_, _, _, _, rfl, rfl, SqL.of upd_same, by rw [er]; exact at_i (n := 0) (x := V.str y0) rfl, ?_⟩
      refine ⟨l, _, _, rfl, rfl, by rw [upd_ne n3l]; exact hl6, by rw [List.length_map, sizeLine_eq]; omega, ?_⟩
      have nDn : H D3 = none → True := fun _ => trivial
      refine ⟨ns ++ [y0], _, _, _, _, _, _, rfl, ?_, pot_upd (pot_same P6 (same_upd hD3)) npl, by rw [upd_same, List.map_append]; rfl, by rw [List.length_append, hlen]; rfl, ?_, ?_⟩
      · exact but_new ((bB.trans B6).trans (Same.but (same_upd hD3))) nl
      · rw [List.nodup_append]
        refine ⟨nd, by simp, fun x hx z hz => ?_⟩
        rw [List.mem_singleton.mp hz]
        exact fun e => hy3 (e ▸ hx)
      · intro x hx
        rcases List.mem_append.mp hx with z | z
        · exact nm x z
        · rw [List.mem_singleton.mp z]
          exact near_nm hw y0 hy1
    · rintro σ H1 ⟨ns, u4, u5, u6, u7, u8, u9, rfl, bB, P1, hl, hlen, nd, nm⟩
      exact ⟨_, rfl, q H1 l ns bB P1 nl hl hlen nd nm⟩
end
end K21

namespace Cr
open PySem PySem.Spec PyProof.Rows L2 Xv
/-! ### enumerate of a tuple -/
theorem enum_of {v : Value} {o : Obj} {G : Heap → Prop} (B : Begins v o G) :
    Meets (Builtin.«enumerate.__new__» ⟨[.type "enumerate", v], []⟩) (fun _ R s => G s.heap ∧
      R (.ok (.ret (.ref (s.heap.push o).objs.size))) { s with heap := (s.heap.push o).push { cls := .type "enumerate", data := .fields #[.none, .bool false, .ref s.heap.objs.size, rawInt 0, .none, .none] } }) :=
  .of_wp fun prog w A R s0 h0 => by
    obtain ⟨hp, g, d, tk, os⟩ := s0
    obtain ⟨h1, h⟩ := h0
    have below := sub_enumerate
    have first : ∀ {A' : Around} {E Q : Value → Shared → Prop}, Q (.ref hp.objs.size) ⟨hp.push o, g, d, tk, os⟩ → wpAny (model prog w) A' (pyIter v) Q E ⟨hp, g, d, tk, os⟩ := fun {A' E Q} q => B.iter prog w A' E ⟨hp, g, d, tk, os⟩ Q h1 q
    wp_walk using first
    refine wpAny_stack_any (fun _ => wpAny_pure ?_)
    split
    · rename_i c _ _ _ _ _
      cases (c == Value.type "enumerate") <;> (wp_walk using first; exact ⟨_, rfl, h⟩)
    · wp_walk using first
      exact ⟨_, rfl, h⟩
section
variable {prog : Program} {w : World} {A : Around} {E : Value → Shared → Prop} {s : Shared}
theorem call_enum_tuple {t : Addr} {its : Array Value} {Q : Value → Shared → Prop} (hT : s.heap.IsTuple t its)
    (h : ∀ h', IsEnum h' (s.heap.objs.size + 1) s.heap.objs.size 0 .none → h'.IsTupleIter s.heap.objs.size t 0 → h'.objs.size = s.heap.objs.size + 2 → (∀ b o, s.heap.get? b = some o → h'.get? b = some o) → Q (.ref (s.heap.objs.size + 1)) { s with heap := h' }) :
    wpAny (model prog w) A (call (.type "enumerate") [.ref t]) Q E s := by
  have hz : (s.heap.push { cls := .type "tuple_iterator", data := .fields #[.ref t, .int 0 0] }).objs.size = s.heap.objs.size + 1 := Heap.size_push ..
  refine callType_new F.called_enumerate (by decide) (F.typeCall_enumerate_1 _) (F.newCall_enumerate_1 _) (fun obj => F.args_object_init_2 obj _) F.entry_enumerate_new (enum_of (begins_tuple t its)) ⟨hT, ?_⟩
  show _ ∧ _
  rw [hz]
  have he : IsEnum ((s.heap.push { cls := .type "tuple_iterator", data := .fields #[.ref t, .int 0 0] }).push { cls := .type "enumerate", data := .fields #[.none, .bool false, .ref s.heap.objs.size, rawInt 0, .none, .none] }) (s.heap.objs.size + 1) s.heap.objs.size 0 .none := by
    have z := Heap.get?_push_size (s.heap.push { cls := .type "tuple_iterator", data := .fields #[.ref t, .int 0 0] }) (o := { cls := .type "enumerate", data := .fields #[.none, .bool false, .ref s.heap.objs.size, rawInt 0, .none, .none] }) rfl
    rw [hz] at z
    exact z
  exact ⟨⟨_, he, rfl⟩, h _ he ⟨_, Heap.get?_push_of_some _ (Heap.get?_push_size _ rfl), rfl, rfl⟩ (by rw [Heap.size_push, hz]) (fun b o x => Heap.get?_push_of_some _ (Heap.get?_push_of_some _ x))⟩
end
theorem wpAny_pyNext_enumT_end {prog : Program} {w : World} {A : Around} {E : Value → Shared → Prop} {s : Shared} {e it t : Addr} {i : Nat} {items : Array Value} {old : Value} {Q : Option Value → Shared → Prop} (hh : A.handled = none)
    (he : IsEnum s.heap e it i old) (hit : s.heap.IsTupleIter it t i) (ht : s.heap.IsTuple t items) (hx : items[i]? = none) (hQ : ∀ h', Heap.ExtBut it s.heap h' → Q none { s with heap := h' }) : wpAny (model prog w) A (pyNext (.ref e)) Q E s := by
  have hT : s.TypeIs (.ref e) "enumerate" := ⟨_, he, rfl⟩
  unfold pyNext
  refine wpAny_bind (wpAny_attempt (wpAny_callSpecial?_slot (name := Str.ofString "__next__") hT F.slot_enumerate_next (wpAny_call_entry F.slot_enumerate_next hT F.entry_enumerate_next ?_ (F.args_enumerate_next_1 _))))
  refine wpAny_bind (m := field (.ref e) 2) (wpAny_field he rfl (x := .ref it) rfl (wpAny_bind ?_))
  refine wpAny_nextOf_tuple_end (A := A.in1) hh hit ht hx fun h' x k ⟨o, ho, hc⟩ => ?_
  exact wpAny_bind (wpAny_isInstance (T := "StopIteration") (b := true) ⟨o, ho, hc⟩ isSubtype_stop (wpAny_pure (hQ _ k)))
/-- the tuple at a, each item in a new pair -/
def IteT (K : PySem.W.Frag) (a : Addr) : It :=
  ⟨fun i H => ∃ (xs : List V) (x : V), SqT K H a xs ∧ xs[i]? = some x, fun i H v H' => ∃ T x, v = .ref T ∧ H T = none ∧ H' = upd H T (.tup [.int (i : Nat), x]) ∧ ∀ xs, SqT K H a xs → xs[i]? = some x, fun i H => ∃ xs : List V, SqT K H a xs ∧ xs.length ≤ i⟩
theorem turn_enumT {P : Program} {w : World} {K : PySem.W.Frag} {elts : List Expr} {kk : Nat} {tpos : Pos} (a e it : Addr) :
    Turn P w K (.Tuple elts kk tpos) (IteT K a) [e, it] e (fun i h => (∃ old, IsEnum h e it ((i : Nat) : Int) old) ∧ h.IsTupleIter it a i ∧ e ≠ it ∧ a ≠ it ∧ a ≠ e) where
  mem := by simp
  obj := fun i h st b hb => by
    obtain ⟨⟨old, he⟩, ⟨o, ho, hc, hd⟩, _⟩ := st
    rcases (by simpa using hb : b = e ∨ b = it) with z | z
    · rw [z]
      exact ⟨_, he, fun v q => nomatch q⟩
    · rw [z]
      exact ⟨o, ho, fun v q => by rw [hd] at q; cases q⟩
  keep := fun i h h' st k => let ⟨⟨old, he⟩, hi, hne⟩ := st; ⟨⟨old, k e (by simp) _ he⟩, hi.at (fun o q => k it (by simp) o q), hne⟩
  item := by
    intro X hP hw hK hc i pins s σ H E I hf st hg
    subst hP hw hK
    obtain ⟨⟨old, he⟩, hit, hne, ha, hae⟩ := st
    obtain ⟨xs, x, hq, hx⟩ := hg
    obtain ⟨its, rv, p, hz⟩ := I.tuple hq
    obtain ⟨u, hu, ru⟩ := rv.get hx
    have hel : e < s.heap.objs.size := Heap.lt_size he
    have hil : it < s.heap.objs.size := let ⟨_, q, _⟩ := hit; Heap.lt_size q
    have hi : i < its.toArray.size := by
      have := (List.getElem?_eq_some_iff.mp hu).1
      simpa using this
    refine wpAny_pyNext_enum_itemD (Draws.tuple (A := X.A.in1) (I.ok.hd hc) it a ha its.toArray) he ⟨hit, p⟩ hi hne (by simp [hne, hae.symm]) fun y h' tk hy ho hst hT hsz hk => ?_
    have ey : y = u := by
      have : its[i]? = some y := by simpa using hy
      rw [hu] at this
      exact (Option.some.inj this).symm
    subst ey
    refine ⟨_, rfl, wpAny_letOwnedTupleGo_enum (s := { s with heap := h', toks := tk + 1 }) ho (fun h'' he' sb => ?_)⟩
    have hT2 : h''.get? s.heap.objs.size = some { cls := .type "tuple", data := .seq #[.int i tk, y] } := (sb.2 _ (Nat.ne_of_gt hel)).trans hT
    have fresh : ObjOk X.prog X.w (upd H s.heap.objs.size (.tup [.int (i : Nat), x])) h'' s.heap.objs.size (.tup [.int (i : Nat), x]) := ⟨by show 2 ≤ sizeLine; decide, [.int i tk, y], .cons ⟨_, rfl⟩ (.cons ru .nil), _, hT2, rfl, _, rfl⟩
    have I1 : Inv X pins σ (upd H s.heap.objs.size (.tup [.int (i : Nat), x])) { s with heap := h'', toks := tk + 1 } :=
      I.turnedNew (ch := [e, it]) (fun b ob hb q => (sb.2 b (fun z => hb (by simp [z]))).trans (hk b ob (fun z => hb (by simp [z])) (fun z => hb (by simp [z])) q)) hf (Nat.le_refl _) fresh
    refine ⟨.ref s.heap.objs.size, _, I1, rfl, ⟨_, x, rfl, I.hok.fresh (Nat.le_refl _), rfl, fun ys hy => ?_⟩, ⟨⟨y, ?_⟩, hst.1.at (fun o q => (sb.2 it hne.symm).trans q), hne, ha, hae⟩, fun b hb => ?_⟩
    · rw [I.tuple_inj hy hq]
      exact hx
    · rw [show ((i + 1 : Nat) : Int) = (i : Int) + 1 from by omega]
      exact he'
    · have hb' : b < s.heap.objs.size := by
        rcases (by simpa using hb : b = e ∨ b = it) with z | z
        · rw [z]
          exact hel
        · rw [z]
          exact hil
      rw [upd_ne (Nat.ne_of_lt hb')]
      exact (hf b hb).1
  done := by
    intro X hP hw hK hc i pins s σ H E I hf st hg
    subst hP hw hK
    obtain ⟨⟨old, he⟩, hit, hne, ha, hae⟩ := st
    obtain ⟨xs, hq, hx⟩ := hg
    obtain ⟨its, rv, p, hz⟩ := I.tuple hq
    obtain ⟨f0, f1, f2, f3, f4, f5⟩ := hf it (by simp)
    have hl := rv.length
    have hp : p = p := rfl
    have si : its.toArray.size = i ∨ its.toArray.size < i := by
      have : its.toArray.size ≤ i := by
        rw [List.size_toArray]
        omega
      omega
    exact wpAny_pyNext_enumT_end (I.ok.hd hc) he hit p (by simp; omega) fun h' eb => ⟨rfl, I.turned (t' := s.toks) (fun b o hb q => eb b o hb q) f0 f1 f3 f4 f5⟩
  self := fun A i s Q E st h => let ⟨⟨_, he⟩, _⟩ := st; wpAny_pyIter_enum he h
/-- enumerate of a list or a tuple -/
def iEnum2 (K : PySem.W.Frag) (ta : TA) : TI := fun σ H R => ta σ H fun vs H1 => ∃ a xs, vs = [.ref a] ∧ ((SqL K H1 a xs ∧ R (Ite K a) H1) ∨ (SqT K H1 a xs ∧ R (IteT K a) H1))
theorem pi_enum2 {X : Cx} {e : Expr} {ta : TA} {p pos tpos : Pos} {elts : List Expr} {kk : Nat} (hg : Gl X "enumerate") (hm : X.mg "enumerate" = none) (ha : PA X [e] ta) (hs : starEach [e] X.env = [(false, eval e X.env)] := by rfl) :
    PI X (.Tuple elts kk tpos) (.Call (.Name "enumerate" p) [e] [] pos) (iEnum2 X.K ta) := by
  refine ⟨fun pins s σ H R I h => ?_⟩
  refine Call_ (ld_blt I hg hm boot_enumerate (PyProof.Rows.callWith_type1 (thn (ha.run pos pins s σ H _ I h) fun us s1 ⟨vs, H1, I1, r1, q1⟩ => ?_) hs rfl))
  obtain ⟨a, xs, ex, q1⟩ := q1
  subst ex
  cases r1 with
  | cons r rr =>
    cases rr
    cases r
    have fp : ∀ b ∈ [s1.heap.objs.size + 1, s1.heap.objs.size], FpOk X pins H1 b := fun b hb => by
      have hle : s1.heap.objs.size ≤ b := by
        rcases (by simpa using hb : b = s1.heap.objs.size + 1 ∨ b = s1.heap.objs.size) with z | z
        · rw [z]
          exact Nat.le_add_right _ _
        · rw [z]
          exact Nat.le_refl _
      exact I1.fpOk hle (I1.hok.fresh hle)
    rcases q1 with ⟨hq, q⟩ | ⟨hq, q⟩
    · obtain ⟨its, rv, p', hz⟩ := I1.list hq
      refine call_enumerate_list p'.isList fun h' he hit hsz hk => wpAny_pyIter_enum he ?_
      have I2 : Inv X pins σ H1 { s1 with heap := h' } := I1.kept (t' := s1.toks) hk
      exact ⟨s1.heap.objs.size + 1, _, _, _, H1, rfl, I2, turn_enum a (s1.heap.objs.size + 1) s1.heap.objs.size, ⟨⟨.none, he⟩, hit, Nat.succ_ne_self _⟩, fp, q⟩
    · obtain ⟨its, rv, p', hz⟩ := I1.tuple hq
      have hlt : a < s1.heap.objs.size := let ⟨_, e, _⟩ := p'; Heap.lt_size e
      refine call_enum_tuple p' fun h' he hit hsz hk => wpAny_pyIter_enum he ?_
      have I2 : Inv X pins σ H1 { s1 with heap := h' } := I1.kept (t' := s1.toks) hk
      exact ⟨s1.heap.objs.size + 1, _, _, _, H1, rfl, I2, turn_enumT a (s1.heap.objs.size + 1) s1.heap.objs.size, ⟨⟨.none, he⟩, hit, Nat.succ_ne_self _, Nat.ne_of_lt hlt, Nat.ne_of_lt (Nat.lt_succ_of_lt hlt)⟩, fp, q⟩
theorem walk_enumT {K : PySem.W.Frag} {a : Addr} {xs : List V} : Walk (IteT K a) xs.length (fun H => SqT K H a xs) (YPair (fun i => some (.int (i : Nat))) (fun i => xs[i]?)) := by
  refine ⟨fun i _ hi q => ⟨xs, xs[i], q, by simp [hi]⟩, fun _ q => ⟨xs, q, Nat.le_refl _⟩, fun i H v H' _ q y => ?_⟩
  obtain ⟨T, x, h1, h2, h3, h4⟩ := y
  exact ⟨T, .int (i : Nat), x, h1, h2, h3, rfl, h4 xs q⟩
/-- for x in a list or a tuple -/
def iSeq (K : PySem.W.Frag) (te : TE) : TI := fun σ H R => te σ H fun x H1 => ∃ a xs, x = .ref a ∧ ((SqL K H1 a xs ∧ R (Itl K a) H1) ∨ (SqT K H1 a xs ∧ R (Itt K a) H1))
theorem pi_seq {X : Cx} {tg e : Expr} {te : TE} (he : PE X e te) : PI X tg e (iSeq X.K te) := by
  refine ⟨fun pins s σ H R I h => ?_⟩
  refine thn (he.run pins s σ H _ I h) fun v s1 ⟨x, H1, I1, r1, a, xs, ex, q⟩ => ?_
  subst ex
  cases r1
  have fp : ∀ b ∈ [s1.heap.objs.size], FpOk X pins H1 b := fun b hb => by
    rw [List.mem_singleton.mp hb]
    exact I1.fpOk (Nat.le_refl _) (I1.hok.fresh (Nat.le_refl _))
  rcases q with ⟨hq, q⟩ | ⟨hq, q⟩
  · obtain ⟨its, rv, pl, hz⟩ := I1.list hq
    exact wpAny_pyIter_list pl.isList ⟨s1.heap.objs.size, _, _, _, H1, rfl, I1.kept (t' := s1.toks) (fun b o z => Heap.get?_push_of_some _ z), turn_list a _, ⟨_, Heap.get?_push_size _ rfl, rfl, rfl⟩, fp, q⟩
  · obtain ⟨its, rv, pl, hz⟩ := I1.tuple hq
    exact wpAny_pyIter_tuple (show s1.heap.IsTuple a its.toArray from pl) ⟨s1.heap.objs.size, _, _, _, H1, rfl, I1.kept (t' := s1.toks) (fun b o z => Heap.get?_push_of_some _ z), turn_tuple a _, ⟨_, Heap.get?_push_size _ rfl, rfl, rfl⟩, fp, q⟩
end Cr

namespace Cr
open PySem PySem.Spec PyProof.Rows L2 Xv
def LT (H : Hp) (a : Addr) (xs : List V) : Prop := H a = some (.lst xs) ∨ H a = some (.tup xs)
theorem LT.same {H H' : Hp} {a : Addr} {xs : List V} (h : LT H a xs) (s : Same H H') : LT H' a xs := by
  rcases h with h | h
  · exact .inl (s _ _ h)
  · exact .inr (s _ _ h)
theorem LT.seq {H : Hp} {a : Addr} {xs : List V} (h : LT H a xs) (K : PySem.W.Frag) : SqL K H a xs ∨ SqT K H a xs := by
  rcases h with h | h
  · exact .inl (SqL.of h)
  · exact .inr (.inl (.inl h))
/-- a row, passed: a list or tuple of tuples -/
def RowP (H : Hp) (v : V) (r : Rw) : Prop := ∃ a es, v = .ref a ∧ LT H a es ∧ Paired (fun x (e : Int × Int) => ∃ t, x = V.ref t ∧ H t = some (.tup [.int e.1, .int e.2])) es r
/-- rows, passed: a list or tuple of rows -/
def RowsP (H : Hp) (a : Addr) (vs : List V) (rs : List Rw) : Prop := LT H a vs ∧ Paired (RowP H) vs rs
theorem RowP.same {H H' : Hp} {v : V} {r : Rw} (h : RowP H v r) (s : Same H H') : RowP H' v r := by
  obtain ⟨a, es, rfl, hx, hp⟩ := h
  exact ⟨a, es, rfl, hx.same s, Paired.mapP hp fun x e ⟨t, z1, z2⟩ => ⟨t, z1, s _ _ z2⟩⟩
theorem RowsP.same {H H' : Hp} {a : Addr} {vs : List V} {rs : List Rw} (h : RowsP H a vs rs) (s : Same H H') : RowsP H' a vs rs := ⟨h.1.same s, Paired.mapP h.2 fun v r q => q.same s⟩
/-- a new copy of a row -/
theorem copy_lc {K : PySem.W.Frag} {J : It} {G : Hp → Prop} {es : List V} {r : Rw} {σ : L2.St} {H1 : Hp} {D : Addr} {Qd : Hp → Prop} {vs : List Nat} (W : Walk J es.length G (YAt es)) (hG : ∀ H', Same H1 H' → G H') (hp : Paired (fun x (e : Int × Int) => ∃ t, x = V.ref t ∧ H1 t = some (.tup [.int e.1, .int e.2])) es r) (hz : es.length ≤ 1000) (hD : H1 D = none)
    (hw : ∀ v w, wipe (((wipe σ vs).set 4 (some v)).set 5 (some w)) vs = wipe σ vs) (h4 : ∀ v w, (((wipe σ vs).set 4 (some v)).set 5 (some w))[4]? = some (some v)) (h5 : ∀ v w, (((wipe σ vs).set 4 (some v)).set 5 (some w))[5]? = some (some w))
    (hd : ∀ H2 S, Same H1 H2 → (∀ b, S b → Nw H1 H2 b) → Dt K S H2 (.ref D) (rowD r) → Qd H2) :
    ∃ W : Nat → Nat → Hp → Prop, (∃ m, W 0 m (upd H1 D (.lst []))) ∧ ∀ i m H, W i m H →
      (J.stop i H ∧ Qd H) ∨ (J.go i H ∧ ∃ Nx : Hp → Prop, (∀ H', Nx H' → ∃ m', m' < m ∧ W (i + 1) m' H') ∧ ∀ x H', J.yld i H x H' → gTup K 2 (gCons (gName 4) (gCons (gName 5) gNil)) x (wipe σ vs) H' fun σ2 H2 => wipe σ2 vs = wipe σ vs ∧ tYes σ2 H2 fun b H3 =>
        if b = true then tTup (tCons (tVar 4) (tCons (tVar 5) tNil)) σ2 H3 fun y H4 => ∃ acc, H4 D = some (.lst acc) ∧ acc.length < sizeLine ∧ Nx (upd H4 D (.lst (acc ++ [y]))) else Nx H3) := by
  have hl : es.length = r.length := Paired.length hp
  refine lc_it W (fun i H' => ∃ ts : List Addr, ts.length = i ∧ H' D = some (.lst (ts.map V.ref)) ∧ Same H1 H' ∧ (∀ t ∈ ts, H1 t = none ∧ t ≠ D) ∧ Paired (fun t (e : Int × Int) => H' t = some (.tup [.int e.1, .int e.2])) ts (r.take i))
    ⟨[], rfl, upd_same, same_upd hD, by simp, .nil⟩ (fun i H' _ ⟨_, _, _, s, _⟩ => hG _ s) (fun i x H' H'' hi e y => ?_) (fun H' e => ?_)
  · obtain ⟨rfl, hx⟩ := y
    obtain ⟨ts, e1, e2, e3, e4, e5⟩ := e
    obtain ⟨e, he, t0, rfl, ht0⟩ := Xv.paired_get hp hx
    refine ⟨t0, _, rfl, .inl (.inl (e3 _ _ ht0)), rfl, _, _, rfl, _, _, rfl, ⟨rfl, hw _ _, ?_⟩⟩
    unfold tYes
    dsimp only
    rw [if_pos rfl]
    refine ⟨_, h4 _ _, _, h5 _ _, by show 2 ≤ sizeLine; decide, fun t nt => ?_⟩
    have ntD : D ≠ t := ne_of_none e2 nt
    have nt1 : H1 t = none := by
      cases q : H1 t with
      | none => rfl
      | some o =>
        rw [e3 _ _ q] at nt
        cases nt
    refine ⟨_, by rw [upd_ne ntD]; exact e2, by rw [List.length_map, sizeLine_eq]; omega, ts ++ [t], by rw [List.length_append, e1]; rfl, by rw [upd_same, List.map_append]; rfl, fun b o q => ?_, fun s hs => ?_, ?_⟩
    · rw [upd_ne (ne_of_none q hD), upd_ne (ne_of_none (e3 _ _ q) nt)]
      exact e3 _ _ q
    · rcases List.mem_append.mp hs with z | z
      · exact e4 s z
      · rw [List.mem_singleton.mp z]
        exact ⟨nt1, ntD.symm⟩
    · rw [Xv.take_step he]
      refine pr_app (pr_map e5 fun s e' hs q => ?_) (.cons ?_ .nil)
      · rw [upd_ne (e4 s hs).2, upd_ne (ne_of_none q nt)]
        exact q
      · rw [upd_ne ntD.symm, upd_same]
  · obtain ⟨ts, e1, e2, e3, e4, e5⟩ := e
    rw [hl, List.take_length] at e5
    refine hd H' (fun b => b = D ∨ b ∈ ts) e3 (fun b hb => ?_) ?_
    · rcases hb with z | z
      · subst z
        exact ⟨hD, by rw [e2]; simp⟩
      · obtain ⟨e, q⟩ := pr_mem e5 z
        exact ⟨(e4 b z).1, by rw [q]; simp⟩
    · refine .lst (by rw [vw_at (.inl rfl)]; exact e2) ?_
      have all : ∀ {us : List Addr} {q : Rw}, (∀ t ∈ us, t ∈ ts) → Paired (fun t (e : Int × Int) => H' t = some (.tup [.int e.1, .int e.2])) us q → TrAll (Vw (fun b => b = D ∨ b ∈ ts) H') (us.map V.ref) (q.map fun e => .tuple [.int e.1, .int e.2]) := fun {us q} hm hq => by
        induction hq with
        | nil => exact .nil
        | cons h _ ih => exact .cons (.tup (by rw [vw_at (.inr (hm _ List.mem_cons_self))]; exact h) (.cons (.int _) (.cons (.int _) .nil))) (ih fun t ht => hm t (List.mem_cons_of_mem _ ht))
      exact all (fun _ h => h) e5
/-- a new copy of rows: as an instance keeps them -/
theorem rows_copy {K : PySem.W.Frag} {J : It} {G : Hp → Prop} {xs : List V} {rs : List Rw} {x0 x1 x2 u3 u4 u5 : Option V} {H1 : Hp} {D : Addr} {Qd : Hp → Prop} (W : Walk J xs.length G (YAt xs)) (hG : ∀ H', Same H1 H' → G H') (hp : Paired (RowP H1) xs rs) (hz : xs.length ≤ 1000) (hz2 : ∀ r ∈ rs, r.length ≤ 1000) (hD : H1 D = none)
    (hd : ∀ H2 S, Same H1 H2 → (∀ b, S b → Nw H1 H2 b) → Dt K S H2 (.ref D) (rowsD rs) → Qd H2) :
    ∃ W : Nat → Nat → Hp → Prop, (∃ m, W 0 m (upd H1 D (.lst []))) ∧ ∀ i m H, W i m H →
      (J.stop i H ∧ Qd H) ∨ (J.go i H ∧ ∃ Nx : Hp → Prop, (∀ H', Nx H' → ∃ m', m' < m ∧ W (i + 1) m' H') ∧ ∀ x H', J.yld i H x H' → gName 3 x (wipe [x0, x1, x2, u3, u4, u5] [3]) H' fun σ2 H2 => wipe σ2 [3] = wipe [x0, x1, x2, u3, u4, u5] [3] ∧ tYes σ2 H2 fun b H3 =>
        if b = true then tLc (iSeq K (tVar 3)) (gTup K 2 (gCons (gName 4) (gCons (gName 5) gNil))) tYes (tTup (tCons (tVar 4) (tCons (tVar 5) tNil))) [4, 5] σ2 H3 fun y H4 => ∃ acc, H4 D = some (.lst acc) ∧ acc.length < sizeLine ∧ Nx (upd H4 D (.lst (acc ++ [y]))) else Nx H3) := by
  have hl : xs.length = rs.length := Paired.length hp
  refine lc_it W (fun i H' => ∃ (ls : List Addr) (S : Addr → Prop), ls.length = i ∧ H' D = some (.lst (ls.map V.ref)) ∧ Same H1 H' ∧ (∀ b, S b → Nw H1 H' b ∧ b ≠ D) ∧ Paired (fun l r => Dt K S H' (.ref l) (rowD r)) ls (rs.take i))
    ⟨[], fun _ => False, rfl, upd_same, same_upd hD, fun _ z => z.elim, .nil⟩ (fun i H' _ ⟨_, _, _, _, s, _⟩ => hG _ s) (fun i x H' H'' hi e y => ?_) (fun H' e => ?_)
  · obtain ⟨rfl, hx⟩ := y
    obtain ⟨ls, S, e1, e2, e3, e4, e5⟩ := e
    obtain ⟨r, hr, rp⟩ := Xv.paired_get hp hx
    obtain ⟨a, es, rfl, hxs, hps⟩ := rp.same e3
    have hle : es.length ≤ 1000 := by
      rw [show es.length = r.length from Paired.length hps]
      exact hz2 r (List.mem_of_getElem? hr)
    refine ⟨rfl, ?_⟩
    unfold tYes
    dsimp only
    rw [if_pos rfl]
    have fin : ∀ D2, H'' D2 = none → ∀ (H2 : Hp) (S2 : Addr → Prop), Same H'' H2 → (∀ b, S2 b → Nw H'' H2 b) → Dt K S2 H2 (.ref D2) (rowD r) →
        ∃ acc, H2 D = some (.lst acc) ∧ acc.length < sizeLine ∧ ∃ (ls : List Addr) (S : Addr → Prop), ls.length = i + 1 ∧ upd H2 D (.lst (acc ++ [V.ref D2])) D = some (.lst (ls.map V.ref)) ∧ Same H1 (upd H2 D (.lst (acc ++ [V.ref D2]))) ∧ (∀ b, S b → Nw H1 (upd H2 D (.lst (acc ++ [V.ref D2]))) b ∧ b ≠ D) ∧ Paired (fun l r => Dt K S (upd H2 D (.lst (acc ++ [V.ref D2]))) (.ref l) (rowD r)) ls (rs.take (i + 1)) := fun D2 hD2 H2 S2 s2 n2 d2 => by
      have nS2 : ∀ b, S2 b → b ≠ D := fun b hb z => by
        have := (n2 b hb).1
        rw [z, e2] at this
        cases this
      have fr : Fr (fun b => b = D) H'' (upd H2 D (.lst (ls.map V.ref ++ [V.ref D2]))) := fun b o n q => by
        rw [upd_ne n]
        exact s2 _ _ q
      refine ⟨_, s2 _ _ e2, by rw [List.length_map, sizeLine_eq]; omega, ls ++ [D2], fun b => S b ∨ S2 b, by rw [List.length_append, e1]; rfl, by rw [upd_same, List.map_append]; rfl, fun b o q => ?_, fun b hb => ?_, ?_⟩
      · rw [upd_ne (ne_of_none q hD)]
        exact s2 _ _ (e3 _ _ q)
      · rcases hb with z | z
        · obtain ⟨⟨z1, z2⟩, z3⟩ := e4 b z
          refine ⟨⟨z1, ?_⟩, z3⟩
          obtain ⟨o, q⟩ := Option.ne_none_iff_exists'.mp z2
          rw [upd_ne z3, s2 _ _ q]
          simp
        · refine ⟨⟨?_, ?_⟩, nS2 b z⟩
          · cases q : H1 b with
            | none => rfl
            | some o =>
              have := (n2 b z).1
              rw [e3 _ _ q] at this
              cases this
          · rw [upd_ne (nS2 b z)]
            exact (n2 b z).2
      · rw [Xv.take_step hr]
        refine pr_app (pr_map e5 fun l q _ d => Dt.mono (d.fr fr fun b hb => (e4 b hb).2) fun b hb => .inl hb) (.cons ?_ .nil)
        exact Dt.mono (d2.fr (M := fun b => b = D) (Fr.set (Fr.refl _ _) rfl) fun b hb => nS2 b hb) fun b hb => .inr hb
    rcases hxs with z | z
    · exact ⟨_, rfl, a, es, rfl, .inl ⟨SqL.of z, fun D2 hD2 => copy_lc walk_list (fun H' s => SqL.of (s _ _ z)) hps hle hD2 (fun _ _ => rfl) (fun _ _ => rfl) (fun _ _ => rfl) fun H2 S2 s2 n2 d2 => fin D2 hD2 H2 S2 s2 n2 d2⟩⟩
    · exact ⟨_, rfl, a, es, rfl, .inr ⟨.inl (.inl z), fun D2 hD2 => copy_lc walk_tup (fun H' s => .inl (.inl (s _ _ z))) hps hle hD2 (fun _ _ => rfl) (fun _ _ => rfl) (fun _ _ => rfl) fun H2 S2 s2 n2 d2 => fin D2 hD2 H2 S2 s2 n2 d2⟩⟩
  · obtain ⟨ls, S, e1, e2, e3, e4, e5⟩ := e
    rw [hl, List.take_length] at e5
    refine hd H' (fun b => S b ∨ b = D) e3 (fun b hb => ?_) ?_
    · rcases hb with z | z
      · exact (e4 b z).1
      · subst z
        exact ⟨hD, by rw [e2]; simp⟩
    · refine .lst (by rw [vw_at (.inr rfl)]; exact e2) ?_
      have all : ∀ {us : List Addr} {q : List Rw}, Paired (fun l r => Dt K S H' (.ref l) (rowD r)) us q → TrAll (Vw (fun b => S b ∨ b = D) H') (us.map V.ref) (q.map rowD) := fun {us q} hq => by
        induction hq with
        | nil => exact .nil
        | cons h _ ih => exact .cons (Dt.mono h fun b hb => .inl hb) ih
      exact all e5
end Cr


namespace K21
open PySem PySem.Spec PyProof.Rows L2 Xv Cr TL
/-! ### the numbers of the program -/
structure Cn (mg : Str → Option Value) : Prop where
  letters : ∃ t, mg "LETTERS" = some (.str sgn t)
  longest : ∃ t, mg "LONGEST_NAME" = some (.int 8 t)
  answer : ∃ t, mg "GREATEST_ANSWER" = some (.int 9 t)
  deeds : ∃ t, mg "MOST_DEEDS" = some (.int 4 t)
  states : ∃ t, mg "MOST_STATES" = some (.int 8 t)
def rSgn : R2 := fun x y H Q => ∃ (c : Nat) (z : Str), x = .str ⟨#[c]⟩ ∧ y = .str z ∧ Q (.bl (decide (c ∈ z.cps.toList))) H
def spInt : Sp := fun vs H Q _ => ∃ i : Int, vs = [.int i] ∧ Q (.bl true) H
def spIntF : Sp := fun vs H Q _ => ∃ i a b : Int, vs = [.int i, .int a, .int b] ∧ Q (.bl (decide (a ≤ i) && decide (i ≤ b))) H
def spIsList : Sp := fun vs H Q _ => ∃ a xs, vs = [.ref a] ∧ LT H a xs ∧ ∀ H', Same H H' → Q (.bl true) H'
def spFilled : Sp := fun vs H Q _ => ∃ a xs, vs = [.ref a] ∧ LT H a xs ∧ ∀ H', Same H H' → Q (.bl (decide (0 < xs.length))) H'
def spIsName : Sp := fun vs H Q _ => ∃ x : Str, vs = [.str x] ∧ Nm x ∧ ∀ H', Same H H' → Q (.bl true) H'
def spAns : Sp := fun vs H Q _ => ∃ i : Int, vs = [.int i] ∧ Q (.bl (decide ((0 : Int) ≤ i) && decide (i ≤ 9))) H
def spEntry : Sp := fun vs H Q _ => ∃ (t : Addr) (a b n : Int), vs = [.ref t, .int n] ∧ H t = some (.tup [.int a, .int b]) ∧ (0 ≤ a ∧ a < 10) ∧ (0 ≤ b ∧ b < n) ∧ Q (.bl true) H
def spLimit : Sp := fun vs H Q _ => ∃ (x : V) (m l : Int), vs = [x, .int m, .int l] ∧ m ≤ l ∧ Q .non H
def spRow : Sp := fun vs H Q _ => ∃ (v : V) (r : Rw) (d n : Int), vs = [v, .int d, .int n] ∧ RowP H v r ∧ ((r.length : Int) = d ∧ r.length ≤ 1000) ∧ (∀ e ∈ r, (0 ≤ e.1 ∧ e.1 < 10) ∧ (0 ≤ e.2 ∧ e.2 < n)) ∧ ∀ H', Same H H' → Q (.bl true) H'
/-- each entry of a row is one: the entry in slot 3, the states in slot 2 -/
theorem row_lc {J : It} {G : Hp → Prop} {es : List V} {r : Rw} {n : Int} {σ : L2.St} {H1 : Hp} {D : Addr} {Qd : Hp → Prop} (W : Walk J es.length G (YAt es)) (hG : ∀ H', Same H1 H' → G H') (hp : Paired (fun x (e : Int × Int) => ∃ t, x = V.ref t ∧ H1 t = some (.tup [.int e.1, .int e.2])) es r)
    (hb : ∀ e ∈ r, (0 ≤ e.1 ∧ e.1 < 10) ∧ (0 ≤ e.2 ∧ e.2 < n)) (hz : es.length ≤ 1000) (hD : H1 D = none) (h3 : ∀ v, ((wipe σ [3]).set 3 (some v))[3]? = some (some v)) (h2 : ∀ v, ((wipe σ [3]).set 3 (some v))[2]? = some (some (.int n)))
    (hd : ∀ H2, H2 = upd H1 D (.lst (List.replicate es.length (V.bl true))) → Qd H2) :
    ∃ W : Nat → Nat → Hp → Prop, (∃ m, W 0 m (upd H1 D (.lst []))) ∧ ∀ i m H, W i m H →
      (J.stop i H ∧ Qd H) ∨ (J.go i H ∧ ∃ Nx : Hp → Prop, (∀ H', Nx H' → ∃ m', m' < m ∧ W (i + 1) m' H') ∧ ∀ x H', J.yld i H x H' → gName 3 x (wipe σ [3]) H' fun σ2 H2 => wipe σ2 [3] = wipe σ [3] ∧ tYes σ2 H2 fun b H3 =>
        if b = true then tCall spEntry [] E0 (tCons (tVar 3) (tCons (tVar 2) tNil)) σ2 H3 fun y H4 => ∃ acc, H4 D = some (.lst acc) ∧ acc.length < sizeLine ∧ Nx (upd H4 D (.lst (acc ++ [y]))) else Nx H3) := by
  refine lc_it W (fun i H' => H' = upd H1 D (.lst (List.replicate i (V.bl true)))) rfl (fun i H' _ e => by rw [e]; exact hG _ (same_upd hD)) (fun i x H' H'' hi e y => ?_) (fun H' e => hd H' e)
  obtain ⟨rfl, hx⟩ := y
  subst e
  obtain ⟨e, he, t, rfl, ht⟩ := Xv.paired_get hp hx
  obtain ⟨ba, bn⟩ := hb e (List.mem_of_getElem? he)
  refine ⟨wipe_back, ?_⟩
  unfold tYes
  dsimp only
  rw [if_pos rfl]
  refine ⟨_, h3 _, _, h2 _, t, e.1, e.2, n, rfl, same_upd hD _ _ ht, ba, bn, _, upd_same, by rw [List.length_replicate, sizeLine_eq]; omega, ?_⟩
  rw [upd_upd, ← List.replicate_succ']
abbrev s_is_integer : Stmt := top 18
abbrev N_is_integer : List Str := ["value"]
theorem sc_is_integer : FnScope N_is_integer ["value"] (defScope s_is_integer) := ⟨rfl, rfl, rfl, by decide +kernel, rfl, by decide +kernel, by decide +kernel⟩
abbrev s_is_integer_from : Stmt := top 19
abbrev N_is_integer_from : List Str := ["value", "low", "high"]
theorem sc_is_integer_from : FnScope N_is_integer_from ["value", "low", "high"] (defScope s_is_integer_from) := ⟨rfl, rfl, rfl, by decide +kernel, rfl, by decide +kernel, by decide +kernel⟩
abbrev s_is_list : Stmt := top 20
abbrev N_is_list : List Str := ["value"]
theorem sc_is_list : FnScope N_is_list ["value"] (defScope s_is_list) := ⟨rfl, rfl, rfl, by decide +kernel, rfl, by decide +kernel, by decide +kernel⟩
abbrev s_is_filled_list : Stmt := top 21
abbrev N_is_filled_list : List Str := ["value"]
theorem sc_is_filled_list : FnScope N_is_filled_list ["value"] (defScope s_is_filled_list) := ⟨rfl, rfl, rfl, by decide +kernel, rfl, by decide +kernel, by decide +kernel⟩
abbrev s_is_name : Stmt := top 22
abbrev N_is_name : List Str := ["value", "letter"]
theorem sc_is_name : FnScope N_is_name ["value"] (defScope s_is_name) := ⟨rfl, rfl, rfl, by decide +kernel, rfl, by decide +kernel, by decide +kernel⟩
abbrev s_is_answer : Stmt := top 23
abbrev N_is_answer : List Str := ["value"]
theorem sc_is_answer : FnScope N_is_answer ["value"] (defScope s_is_answer) := ⟨rfl, rfl, rfl, by decide +kernel, rfl, by decide +kernel, by decide +kernel⟩
abbrev s_is_entry : Stmt := top 24
abbrev N_is_entry : List Str := ["value", "states"]
theorem sc_is_entry : FnScope N_is_entry ["value", "states"] (defScope s_is_entry) := ⟨rfl, rfl, rfl, by decide +kernel, rfl, by decide +kernel, by decide +kernel⟩
abbrev s_check_limit : Stmt := top 28
abbrev N_check_limit : List Str := ["what", "many", "limit"]
theorem sc_check_limit : FnScope N_check_limit ["what", "many", "limit"] (defScope s_check_limit) := ⟨rfl, rfl, rfl, by decide +kernel, rfl, by decide +kernel, by decide +kernel⟩
abbrev s_is_row : Stmt := top 30
abbrev N_is_row : List Str := ["row", "deeds", "states", "entry"]
theorem sc_is_row : FnScope N_is_row ["row", "deeds", "states"] (defScope s_is_row) := ⟨rfl, rfl, rfl, by decide +kernel, rfl, by decide +kernel, by decide +kernel⟩
section
variable {P : Program} {w : World} {K : PySem.W.Frag} {mg : Str → Option Value} {base : Heap}
theorem ok_is_integer {f : Addr} {fd : FuncData} (F : Fun K "is_integer" "is_integer" s_is_integer f fd) (T : Bl mg) (C : Cn mg) : FnOk P w K mg base CX0 1 f fd ["value"] spInt := by
  refine F.ok sc_is_integer (fun vs H Q E h => ?_) (fun cdv A outer s H vs Q E hr h => ?_)
  · obtain ⟨i, rfl, _⟩ := h
    rfl
  · obtain ⟨i, rfl, q⟩ := h
    refine ⟨_, (pss_one (ps_ret (pe_and (pe_callB (id := "isinstance") call_isi (by rfl) T.isinstance (by decide +kernel) (pa_cons (pv 0) (pa_cons (pe_bltn (v := .ty "int") (by rfl) T.int (by decide +kernel) rfl) pa_nil))) (pe_one (pe_not (pe_callB (id := "isinstance") call_isi (by rfl) T.isinstance (by decide +kernel) (pa_cons (pv 0) (pa_cons (pe_bltn (v := .ty "bool") (by rfl) T.bool (by decide +kernel) rfl) pa_nil)))))))), ?_⟩
    refine ⟨_, rfl, _, _, _, _, _, rfl, .ty _, .base (.int i), kit_ty (by kernel_rfl), true, rfl, ite2 (fun _ => ?_) (fun z => absurd rfl z)⟩
    exact ⟨_, rfl, _, _, _, _, _, rfl, .ty _, .base (.int i), kit_ty (b := "bool") (r := false) (by kernel_rfl), false, rfl, q⟩
theorem ok_is_integer_from {f : Addr} {fd : FuncData} (F : Fun K "is_integer_from" "is_integer_from" s_is_integer_from f fd) (T : Bl mg) (C : Cn mg) (c_is_integer : Cl P w K mg base 1 "is_integer" spInt) : FnOk P w K mg base CX0 2 f fd ["value", "low", "high"] spIntF := by
  refine F.ok sc_is_integer_from (fun vs H Q E h => ?_) (fun cdv A outer s H vs Q E hr h => ?_)
  · obtain ⟨i, a, b, rfl, _⟩ := h
    rfl
  · obtain ⟨i, a, b, rfl, q⟩ := h
    refine ⟨_, (pss_one (ps_ret (pe_and (pe_cl c_is_integer hr (by decide) (by rfl) (pa_cons (pv 0) pa_nil)) (pe_one (pe_chain op_le op_le (pv 1) (pv 0) (pv 2)))))), ?_⟩
    refine ⟨_, rfl, i, rfl, true, rfl, ite2 (fun _ => ?_) (fun z => absurd rfl z)⟩
    refine ⟨_, rfl, _, rfl, _, _, rfl, rfl, _, rfl, ite2 (fun z1 => ?_) (fun z1 => ?_)⟩
    · refine ⟨_, rfl, _, _, rfl, rfl, ?_⟩
      rw [z1, Bool.true_and] at q
      exact q
    · rw [show decide (a ≤ i) = false from by simpa using z1, Bool.false_and] at q
      exact q
theorem ok_is_list {f : Addr} {fd : FuncData} (F : Fun K "is_list" "is_list" s_is_list f fd) (T : Bl mg) (C : Cn mg) : FnOk P w K mg base CX0 1 f fd ["value"] spIsList := by
  refine F.ok sc_is_list (fun vs H Q E h => ?_) (fun cdv A outer s H vs Q E hr h => ?_)
  · obtain ⟨a, xs, rfl, _⟩ := h
    rfl
  · obtain ⟨a, xs, rfl, hx, q⟩ := h
    refine ⟨_, (pss_one (ps_ret (pe_callB (id := "isinstance") call_isiT (by rfl) T.isinstance (by decide +kernel) (pa_cons (pv 0) (pa_cons (pe_tup (pa_cons (pe_bltn (v := .ty "list") (by rfl) T.list (by decide +kernel) rfl) (pa_cons (pe_bltn (v := .ty "tuple") (by rfl) T.tuple (by decide +kernel) rfl) pa_nil))) pa_nil))))), ?_⟩
    refine ⟨_, rfl, by show 2 ≤ sizeLine; decide, fun t nt => ?_⟩
    have nat_ : a ≠ t := by
      rcases hx with z | z
      · exact ne_of_none z nt
      · exact ne_of_none z nt
    rcases hx with z | z
    · exact ⟨_, t, _, _, _, true, rfl, upd_same, .cons (.ty _) (.cons (.ty _) .nil), .base (.lst (xs := xs) (by rw [upd_ne nat_]; exact z)), by kernel_rfl, q _ (same_upd nt)⟩
    · exact ⟨_, t, _, _, _, true, rfl, upd_same, .cons (.ty _) (.cons (.ty _) .nil), .base (.tup (xs := xs) (by rw [upd_ne nat_]; exact z)), by kernel_rfl, q _ (same_upd nt)⟩
theorem ok_is_filled_list {f : Addr} {fd : FuncData} (F : Fun K "is_filled_list" "is_filled_list" s_is_filled_list f fd) (T : Bl mg) (C : Cn mg) (c_is_list : Cl P w K mg base 1 "is_list" spIsList) : FnOk P w K mg base CX0 2 f fd ["value"] spFilled := by
  refine F.ok sc_is_filled_list (fun vs H Q E h => ?_) (fun cdv A outer s H vs Q E hr h => ?_)
  · obtain ⟨a, xs, rfl, _⟩ := h
    rfl
  · obtain ⟨a, xs, rfl, hx, q⟩ := h
    refine ⟨_, (pss_one (ps_ret (pe_and (pe_cl c_is_list hr (by decide) (by rfl) (pa_cons (pv 0) pa_nil)) (pe_one (pe_cmpR op_gt (pe_callB (id := "len") (call_ln) (by rfl) T.len (by decide +kernel) (pa_cons (pv 0) pa_nil)) pe_int (nomark _)))))), ?_⟩
    refine ⟨_, rfl, a, xs, rfl, hx, fun H1 s1 => ⟨true, rfl, ite2 (fun _ => ?_) (fun z => absurd rfl z)⟩⟩
    have hx1 := hx.same s1
    refine ⟨_, rfl, a, xs, rfl, hx1.seq K, _, _, rfl, rfl, ?_⟩
    have e : decide ((0 : Int) < ((xs.length : Nat) : Int)) = decide (0 < xs.length) := decide_eq_decide.mpr (by omega)
    show Q (V.bl (decide ((0 : Int) < ((xs.length : Nat) : Int)))) H1
    rw [e]
    exact q H1 s1
theorem ok_is_name {f : Addr} {fd : FuncData} (F : Fun K "is_name" "is_name" s_is_name f fd) (T : Bl mg) (C : Cn mg) : FnOk P w K mg base CX0 1 f fd ["value"] spIsName := by
  refine F.ok sc_is_name (fun vs H Q E h => ?_) (fun cdv A outer s H vs Q E hr h => ?_)
  · obtain ⟨x, rfl, _⟩ := h
    rfl
  · obtain ⟨x, rfl, hx, q⟩ := h
    refine ⟨_, (pss_cons (ps_if (PW.pt (pw_or (pt_not (pt_val (pe_callB (id := "isinstance") call_isi (by rfl) T.isinstance (by decide +kernel) (pa_cons (pv 0) (pa_cons (pe_bltn (v := .ty "str") (by rfl) T.str (by decide +kernel) rfl) pa_nil))))) (pw_or1 (pt_not (pt_chain op_le op_le pe_int (pe_callB (id := "len") (call_len) (by rfl) T.len (by decide +kernel) (pa_cons (pv 0) pa_nil)) (pe_glob (v := .int 8) (by rfl) C.longest.choose_spec ⟨_, rfl⟩)))))) (pss_one (ps_ret pe_bl)) pss_nil)
  (pss_one (ps_ret (pe_callB (id := "all") (cr_all rfl) (by rfl) T.all (by decide +kernel) (pa_cons (pe_lc (own := [("letter", 1)]) (g := gName 1) (tt := tYes) (te := tOp rSgn (tVar 1) (tC (.str sgn))) rfl sc_is_name.nd (pi_str (pv 0)) (blkOk_by (N := N_is_name) (sc := defScope s_is_name) (by decide +kernel)) (fun _ _ _ _ _ => (pg_name (i := 1) sc_is_name.nd rfl (Or.inl rfl))) (fun _ _ _ _ _ => pts_nil) (fun _ _ _ _ _ => (pe_cmpR op_in_sign (pv 1) (pe_glob (v := .str sgn) (by rfl) C.letters.choose_spec ⟨_, rfl⟩) (by rfl)))) pa_nil))))), ?_⟩
    refine ⟨_, rfl, _, _, _, _, _, rfl, .ty _, .base (.str x), kit_ty (r := true) (by kernel_rfl), true, rfl, ite2 (fun z => nomatch z) (fun _ => ?_)⟩
    obtain ⟨h1, h8, hc⟩ := hx
    refine ⟨_, rfl, _, _, rfl, ⟨by rw [sizeLine_eq]; omega, rfl⟩, _, _, rfl, rfl, _, rfl, ite2 (fun _ => ?_) (fun z => ?_)⟩
    · refine ⟨_, _, rfl, rfl, _, rfl, ite2 (fun z => ?_) (fun _ => ?_)⟩
      · have : decide ((x.length : Int) ≤ 8) = true := decide_eq_true (by omega)
        rw [this] at z
        cases z
      · refine ⟨_, rfl, x, rfl, fun D hD => ?_⟩
        refine lc_it (n := x.cps.size) (G := fun _ => True) walk_str (fun j H' => H' = upd H D (.lst (List.replicate j (V.bl true)))) rfl (fun _ _ _ _ => trivial) (fun j v H' H'' hj e y => ?_) (fun H' e => ?_)
        · obtain ⟨rfl, c, e1, rfl⟩ := y
          subst e
          refine ⟨wipe_back, ?_⟩
          unfold tYes
          dsimp only
          rw [if_pos rfl]
          have hm : c ∈ x.cps.toList := by
            have : x.cps.toList[j]? = some c := by simpa using e1
            exact List.mem_of_getElem? this
          have hin : decide (c ∈ sgn.cps.toList) = true := decide_eq_true (by
            rw [sgn_list, List.mem_range'_1]
            have := hc c hm
            omega)
          refine ⟨_, rfl, c, sgn, rfl, rfl, _, upd_same, by rw [List.length_replicate, sizeLine_eq]; have : x.cps.size = x.length := rfl; omega, ?_⟩
          rw [hin, upd_upd, ← List.replicate_succ']
        · subst e
          refine ⟨D, List.replicate x.cps.size true, rfl, SqL.of (by rw [upd_same, List.map_replicate]), ?_⟩
          rw [show (List.replicate x.cps.size true).all id = true from by
            rw [List.all_eq_true]
            intro b hb
            rw [List.eq_of_mem_replicate hb]
            rfl]
          exact q _ (same_upd hD)
    · exact absurd (show decide ((1 : Int) ≤ (x.length : Nat)) = true from decide_eq_true (by omega)) z
theorem ok_is_answer {f : Addr} {fd : FuncData} (F : Fun K "is_answer" "is_answer" s_is_answer f fd) (T : Bl mg) (C : Cn mg) (c_is_integer_from : Cl P w K mg base 2 "is_integer_from" spIntF) : FnOk P w K mg base CX0 3 f fd ["value"] spAns := by
  refine F.ok sc_is_answer (fun vs H Q E h => ?_) (fun cdv A outer s H vs Q E hr h => ?_)
  · obtain ⟨i, rfl, _⟩ := h
    rfl
  · obtain ⟨i, rfl, q⟩ := h
    refine ⟨_, (pss_one (ps_ret (pe_cl c_is_integer_from hr (by decide) (by rfl) (pa_cons (pv 0) (pa_cons pe_int (pa_cons (pe_glob (v := .int 9) (by rfl) C.answer.choose_spec ⟨_, rfl⟩) pa_nil)))))), ?_⟩
    exact ⟨_, rfl, i, 0, 9, rfl, q⟩
theorem ok_is_entry {f : Addr} {fd : FuncData} (F : Fun K "is_entry" "is_entry" s_is_entry f fd) (T : Bl mg) (C : Cn mg) (c_is_answer : Cl P w K mg base 3 "is_answer" spAns) (c_is_integer_from : Cl P w K mg base 2 "is_integer_from" spIntF) : FnOk P w K mg base CX0 4 f fd ["value", "states"] spEntry := by
  refine F.ok sc_is_entry (fun vs H Q E h => ?_) (fun cdv A outer s H vs Q E hr h => ?_)
  · obtain ⟨t, a, b, n, rfl, _⟩ := h
    rfl
  · obtain ⟨t, a, b, n, rfl, ht, ha, hb, q⟩ := h
    refine ⟨_, (pss_cons (ps_if (PW.pt (pw_or (pt_not (pt_val (pe_callB (id := "isinstance") call_isi (by rfl) T.isinstance (by decide +kernel) (pa_cons (pv 0) (pa_cons (pe_bltn (v := .ty "tuple") (by rfl) T.tuple (by decide +kernel) rfl) pa_nil))))) (pw_or1 (pt_cmpR op_ne (pe_callB (id := "len") (call_ln) (by rfl) T.len (by decide +kernel) (pa_cons (pv 0) pa_nil)) pe_int (nomark _))))) (pss_one (ps_ret pe_bl)) pss_nil)
  (pss_one (ps_ret (pe_and (pe_cl c_is_answer hr (by decide) (by rfl) (pa_cons (pe_ix ix_tup (pv 0) pe_int (fun _ _ => rfl)) pa_nil)) (pe_one (pe_cl c_is_integer_from hr (by decide) (by rfl) (pa_cons (pe_ix ix_tup (pv 0) pe_int (fun _ _ => rfl)) (pa_cons pe_int (pa_cons (pe_op op_sub (pv 1) pe_int) pa_nil))))))))), ?_⟩
    refine ⟨_, rfl, _, _, _, _, _, rfl, .ty _, .base (.tup ht), kit_ty (r := true) (by kernel_rfl), true, rfl, ite2 (fun z => nomatch z) (fun _ => ?_)⟩
    refine ⟨_, rfl, t, _, rfl, .inr (.inl (.inl ht)), rfl, _, rfl, ite2 (fun z => nomatch z) (fun _ => ?_)⟩
    refine ⟨_, rfl, _, _, _, _, rfl, rfl, .inl (.inl ht), rfl, a, rfl, _, rfl, ite2 (fun _ => ?_) (fun z => ?_)⟩
    · refine ⟨_, rfl, _, _, _, _, rfl, rfl, .inl (.inl ht), rfl, _, rfl, _, _, rfl, rfl, b, 0, n - 1, rfl, ?_⟩
      rw [show (decide ((0 : Int) ≤ b) && decide (b ≤ n - 1)) = true from by rw [decide_eq_true hb.1, decide_eq_true (by omega : b ≤ n - 1)]; rfl]
      exact q
    · exact absurd (show (decide ((0 : Int) ≤ a) && decide (a ≤ 9)) = true from by rw [decide_eq_true ha.1, decide_eq_true (by omega : a ≤ 9)]; rfl) z
theorem ok_check_limit {f : Addr} {fd : FuncData} (F : Fun K "check_limit" "check_limit" s_check_limit f fd) (T : Bl mg) (C : Cn mg) : FnOk P w K mg base CX0 1 f fd ["what", "many", "limit"] spLimit := by
  refine F.ok sc_check_limit (fun vs H Q E h => ?_) (fun cdv A outer s H vs Q E hr h => ?_)
  · obtain ⟨x, m, l, rfl, _⟩ := h
    rfl
  · obtain ⟨x, m, l, rfl, hm, q⟩ := h
    refine ⟨_, (pss_one (ps_if (pt_cmpR op_gt (pv 1) (pv 2) (nomark _)) (pss_one ps_never) pss_nil)), ?_⟩
    refine ⟨_, rfl, _, rfl, _, _, rfl, rfl, _, rfl, ite2 (fun z => ?_) (fun _ => q)⟩
    exact absurd (of_decide_eq_true z) (by omega)
theorem ok_is_row {f : Addr} {fd : FuncData} (F : Fun K "is_row" "is_row" s_is_row f fd) (T : Bl mg) (C : Cn mg) (c_is_list : Cl P w K mg base 1 "is_list" spIsList) (c_is_entry : Cl P w K mg base 4 "is_entry" spEntry) : FnOk P w K mg base CX0 5 f fd ["row", "deeds", "states"] spRow := by
  refine F.ok sc_is_row (fun vs H Q E h => ?_) (fun cdv A outer s H vs Q E hr h => ?_)
  · obtain ⟨v, r, dd, n, rfl, _⟩ := h
    rfl
  · obtain ⟨v, r, dd, n, rfl, hr0, hl, ht, q⟩ := h
    refine ⟨_, (pss_cons (ps_if (PW.pt (pw_or (pt_not (pt_val (pe_cl c_is_list hr (by decide) (by rfl) (pa_cons (pv 0) pa_nil)))) (pw_or1 (pt_cmpR op_ne (pe_callB (id := "len") (call_ln) (by rfl) T.len (by decide +kernel) (pa_cons (pv 0) pa_nil)) (pv 1) (nomark _))))) (pss_one (ps_ret pe_bl)) pss_nil)
  (pss_one (ps_ret (pe_callB (id := "all") (cr_all rfl) (by rfl) T.all (by decide +kernel) (pa_cons (pe_lc (own := [("entry", 3)]) (g := gName 3) (tt := tYes) (te := tCall spEntry [] E0 (tCons (tVar 3) (tCons (tVar 2) tNil))) rfl sc_is_row.nd (pi_seq (pv 0)) (blkOk_by (N := N_is_row) (sc := defScope s_is_row) (by decide +kernel)) (fun _ _ _ _ _ => (pg_name (i := 3) sc_is_row.nd rfl (Or.inl rfl))) (fun _ _ _ _ _ => pts_nil) (fun _ _ _ _ _ => (pe_cl c_is_entry hr (by decide) (by rfl) (pa_cons (pv 3) (pa_cons (pv 2) pa_nil))))) pa_nil))))), ?_⟩
    obtain ⟨a, es, rfl, hx, hp⟩ := hr0
    obtain ⟨hl, hl2⟩ := hl
    refine ⟨_, rfl, a, es, rfl, hx, fun H1 s1 => ⟨true, rfl, ite2 (fun z => nomatch z) (fun _ => ?_)⟩⟩
    have hx1 := hx.same s1
    have hes : es.length = r.length := Paired.length hp
    refine ⟨_, rfl, a, es, rfl, hx1.seq K, _, rfl, rfl, _, rfl, ite2 (fun z => ?_) (fun _ => ?_)⟩
    · exfalso
      rw [decide_eq_true (show V.int ((es.length : Nat) : Int) = V.int dd from by rw [hes, hl])] at z
      cases z
    · have fin : ∀ D, H1 D = none → ∀ H2, H2 = upd H1 D (.lst (List.replicate es.length (V.bl true))) → rAll K [V.ref D] H2 Q := fun D hD H2 e => by
        subst e
        refine ⟨D, List.replicate es.length true, rfl, SqL.of (by rw [upd_same, List.map_replicate]), ?_⟩
        rw [show (List.replicate es.length true).all id = true from by
          rw [List.all_eq_true]
          intro b hb
          rw [List.eq_of_mem_replicate hb]
          rfl]
        exact q _ (s1.trans (same_upd hD))
      have hp1 : Paired (fun x (e : Int × Int) => ∃ t, x = V.ref t ∧ H1 t = some (.tup [.int e.1, .int e.2])) es r := Paired.mapP hp fun x e ⟨t, z1, z2⟩ => ⟨t, z1, s1 _ _ z2⟩
      have hl1 : es.length ≤ 1000 := by omega
      rcases hx1 with z | z
      · exact ⟨_, rfl, a, es, rfl, .inl ⟨SqL.of z, fun D hD => row_lc (n := n) walk_list (fun H' s => SqL.of (s _ _ z)) hp1 ht hl1 hD (fun _ => rfl) (fun _ => rfl) (fun H2 e => fin D hD H2 e)⟩⟩
      · exact ⟨_, rfl, a, es, rfl, .inr ⟨.inl (.inl z), fun D hD => row_lc (n := n) walk_tup (fun H' s => .inl (.inl (s _ _ z))) hp1 ht hl1 hD (fun _ => rfl) (fun _ => rfl) (fun H2 e => fin D hD H2 e)⟩⟩
end
end K21


namespace K21
open PySem PySem.Spec PyProof.Rows L2 Xv Cr TL
abbrev s_check_rows : Stmt := top 31
abbrev N_check_rows : List Str := ["rows", "deeds", "state", "row"]
theorem sc_check_rows : FnScope N_check_rows ["rows", "deeds"] (defScope s_check_rows) := ⟨rfl, rfl, rfl, by decide +kernel, rfl, by decide +kernel, by decide +kernel⟩
def spCheckRows : Sp := fun vs H Q _ => ∃ (a : Addr) (xs : List V) (rs : List Rw) (d : Nat), vs = [.ref a, .int d] ∧ RowsP H a xs rs ∧ (0 < rs.length ∧ rs.length ≤ 1000 ∧ d ≤ 1000) ∧ (∀ r ∈ rs, r.length = d ∧ ∀ e ∈ r, (0 ≤ e.1 ∧ e.1 < 10) ∧ (0 ≤ e.2 ∧ e.2 < (rs.length : Int))) ∧ ∀ H', Same H H' → Q .non H'
theorem rows_for {K : PySem.W.Frag} {J : It} {G : Hp → Prop} {a : Addr} {xs : List V} {rs : List Rw} {d : Nat} {H H1 : Hp} {D : Ends} {u2 u3 : Option V} (W : Walk J xs.length G (YPair (fun i => some (.int (i : Nat))) (fun i => xs[i]?))) (hG : ∀ H', Same H H' → G H') (hp : RowsP H a xs rs) (hz : rs.length ≤ 1000 ∧ d ≤ 1000)
    (hb : ∀ r ∈ rs, r.length = d ∧ ∀ e ∈ r, (0 ≤ e.1 ∧ e.1 < 10) ∧ (0 ≤ e.2 ∧ e.2 < (rs.length : Int))) (h0 : Same H H1) (hd : ∀ σ H', Same H H' → D.nx σ H') :
    ∃ W : Nat → Nat → L2.St → Hp → Prop, (∃ m, W 0 m [some (.ref a), some (.int (d : Int)), u2, u3] H1) ∧ ∀ i m σ H, W i m σ H →
      (J.stop i H ∧ D.nx σ H) ∨ (J.go i H ∧ ∃ N : L2.St → Hp → Prop, (∀ σ' H', N σ' H' → ∃ m', m' < m ∧ W (i + 1) m' σ' H') ∧ ∀ x H', J.yld i H x H' → gTup K 2 (gCons (gName 2) (gCons (gName 3) gNil)) x σ H' fun σ2 H2 =>
        tIfS (tNot (tB (tCall spRow [] E0 (tCons (tVar 3) (tCons (tVar 1) (tCons (tCB (rLn K) (tCons (tVar 0) tNil)) tNil)))))) tNever tNext { D with nx := N, ct := N, bk := D.nx } σ2 H2) := by
  refine for_it W (fun i σ H' => ∃ u2 u3, σ = [some (.ref a), some (.int (d : Int)), u2, u3] ∧ Same H H') ⟨_, _, rfl, h0⟩ (fun i σ H' _ ⟨_, _, _, s⟩ => hG H' s) ?_ (fun σ H' ⟨_, _, _, s⟩ => hd σ H' s)
  rintro i x σ H2 H3 hi ⟨u2, u3, rfl, s2⟩ ⟨t, x1, x2, rfl, nt, rfl, e1, e2⟩
  cases e1
  obtain ⟨r, hr, rp⟩ := Xv.paired_get hp.2 e2
  obtain ⟨b1, b2⟩ := hb r (List.mem_of_getElem? hr)
  have s3 := s2.trans (same_upd (o := .tup [.int (i : Nat), x2]) nt)
  have hl : xs.length = rs.length := Paired.length hp.2
  refine ⟨t, _, rfl, .inl (.inl upd_same), rfl, _, _, rfl, _, _, rfl, ⟨rfl, ?_⟩⟩
  refine ⟨_, rfl, _, rfl, _, rfl, a, xs, rfl, (hp.1.same s3).seq K, x2, r, d, (xs.length : Nat), rfl, rp.same s3, ⟨by omega, by omega⟩, fun e he => by rw [hl]; exact b2 e he, fun H' s' => ⟨true, rfl, ite2 (fun z => nomatch z) (fun _ => ⟨_, _, rfl, s3.trans s'⟩)⟩⟩
section
variable {P : Program} {w : World} {K : PySem.W.Frag} {mg : Str → Option Value} {base : Heap}
theorem ok_check_rows {f : Addr} {fd : FuncData} (F : Fun K "check_rows" "check_rows" s_check_rows f fd) (T : Bl mg) (c_is_filled_list : Cl P w K mg base 2 "is_filled_list" spFilled) (c_is_row : Cl P w K mg base 5 "is_row" spRow) : FnOk P w K mg base CX0 6 f fd ["rows", "deeds"] spCheckRows := by
  refine F.ok sc_check_rows (fun vs H Q E h => ?_) (fun cdv A outer s H vs Q E hr h => ?_)
  · obtain ⟨a, xs, rs, d, rfl, _⟩ := h
    rfl
  · obtain ⟨a, xs, rs, d, rfl, hp, hz, hb, q⟩ := h
    refine ⟨_, (pss_cons (ps_if (pt_not (pt_val (pe_cl c_is_filled_list hr (by decide) (by rfl) (pa_cons (pv 0) pa_nil)))) (pss_one ps_never) pss_nil)
  (pss_one (ps_for PassesOwn.never rfl (pi_enum2 rfl T.enumerate (pa_cons (pv 0) pa_nil)) (pg_tup rfl (pgs_cons (pg_name (i := 2) sc_check_rows.nd rfl (Or.inl rfl)) (pgs_cons (pg_name (i := 3) sc_check_rows.nd rfl (Or.inl rfl)) pgs_nil)))
  (pss_one (ps_if (pt_not (pt_val (pe_cl c_is_row hr (by decide) (by rfl) (pa_cons (pv 3) (pa_cons (pv 1) (pa_cons (pe_callB (id := "len") (call_ln) (by rfl) T.len (by decide +kernel) (pa_cons (pv 0) pa_nil)) pa_nil)))))) (pss_one ps_never) pss_nil))))), ?_⟩
    have hl : xs.length = rs.length := Paired.length hp.2
    refine ⟨_, rfl, a, xs, rfl, hp.1, fun H1 s1 => ⟨_, rfl, ite2 (fun z => ?_) (fun _ => ?_)⟩⟩
    · rw [decide_eq_true (show 0 < xs.length by omega)] at z
      cases z
    · have hp1 := hp.1.same s1
      refine ⟨_, rfl, a, xs, rfl, ?_⟩
      rcases hp1 with z | z
      · exact .inl ⟨SqL.of z, rows_for walk_enum (fun H' s => SqL.of (s _ _ z)) (hp.same s1) ⟨hz.2.1, hz.2.2⟩ hb (Same.refl H1) (fun σ H' s => q H' (s1.trans s))⟩
      · exact .inr ⟨.inl (.inl z), rows_for walk_enumT (fun H' s => .inl (.inl (s _ _ z))) (hp.same s1) ⟨hz.2.1, hz.2.2⟩ hb (Same.refl H1) (fun σ H' s => q H' (s1.trans s))⟩
end
end K21


namespace K21
open PySem PySem.Spec PyProof.Rows L2 Xv Cr TL
abbrev s_check_deeds : Stmt := top 29
abbrev N_check_deeds : List Str := ["deeds", "known", "ahead", "place", "deed"]
theorem sc_check_deeds : FnScope N_check_deeds ["deeds", "known"] (defScope s_check_deeds) := ⟨rfl, rfl, rfl, by decide +kernel, rfl, by decide +kernel, by decide +kernel⟩
theorem pt_no {X : Cx} {e : Expr} : PT X e (fun _ _ _ => False) := ⟨fun _ _ _ _ _ _ h => h.elim⟩
def spCheckDeeds : Sp := fun vs H Q _ => ∃ (a : Addr) (ns : List Str), vs = [.ref a, .non] ∧ LT H a (ns.map V.str) ∧ 0 < ns.length ∧ ns.length ≤ 1000 ∧ ns.Nodup ∧ (∀ x ∈ ns, Nm x) ∧ ∀ H', Same H H' → Q .non H'
theorem deeds_for {P : Program} {w : World} {K : PySem.W.Frag} {J : It} {G : Hp → Prop} {a s : Addr} {ns : List Str} {H H1 : Hp} {D : Ends} {u3 u4 : Option V} (W : Walk J (ns.map V.str).length G (YPair (fun i => some (.int (i : Nat))) (fun i => (ns.map V.str)[i]?))) (hG : ∀ H', Same H H' → G H')
    (hz : ns.length ≤ 1000) (nd : ns.Nodup) (nm : ∀ x ∈ ns, Nm x) (hs : H s = none) (h0 : Same H H1) (hs1 : H1 s = some (SetK P w s (fun _ => false) 0)) (hd : ∀ σ H', Same H H' → D.nx σ H') :
    ∃ W : Nat → Nat → L2.St → Hp → Prop, (∃ m, W 0 m [some (.ref a), some .non, some (.ref s), u3, u4] H1) ∧ ∀ i m σ H, W i m σ H →
      (J.stop i H ∧ D.nx σ H) ∨ (J.go i H ∧ ∃ N : L2.St → Hp → Prop, (∀ σ' H', N σ' H' → ∃ m', m' < m ∧ W (i + 1) m' σ' H') ∧ ∀ x H', J.yld i H x H' → gTup K 2 (gCons (gName 3) (gCons (gName 4) gNil)) x σ H' fun σ2 H2 =>
        tSeq (tIfS (tOr (tNot (tB (tCall spIsName [] E0 (tCons (tVar 4) tNil)))) (tTest (tOp (rSInK P w false) (tVar 4) (tVar 2)))) tNever tNext)
          (tSeq (tIfS (tAnd (tB (tNotN (tVar 1))) (fun _ _ _ => False)) tNever tNext) (tDrop (tSAddK P w (tVar 2) (tCons (tVar 4) tNil)))) { D with nx := N, ct := N, bk := D.nx } σ2 H2) := by
  refine for_it W (fun i σ H' => ∃ u3 u4 S n, σ = [some (.ref a), some .non, some (.ref s), u3, u4] ∧ Same H H' ∧ H' s = some (SetK P w s S n) ∧ n ≤ i ∧ ∀ x : Str, S (.inr x) = decide (x ∈ ns.take i)) ⟨_, _, _, 0, rfl, h0, hs1, Nat.le_refl _, fun x => by simp⟩ (fun i σ H' _ ⟨_, _, _, _, _, s', _⟩ => hG H' s') ?_ (fun σ H' ⟨_, _, _, _, _, s', _⟩ => hd σ H' s')
  rintro i x σ H2 H3 hi ⟨u3, u4, S, n, rfl, s2, h2, hn, hS⟩ ⟨t, x1, x2, rfl, nt, rfl, e1, e2⟩
  cases e1
  replace e2 : (ns.map V.str)[i]? = some x2 := e2
  obtain ⟨y, hy, rfl⟩ : ∃ y, ns[i]? = some y ∧ x2 = V.str y := by
    rw [List.getElem?_map] at e2
    cases e : ns[i]? with
    | none =>
      rw [e] at e2
      cases e2
    | some y =>
      rw [e] at e2
      exact ⟨y, rfl, (Option.some.inj e2).symm⟩
  have hin := List.mem_of_getElem? hy
  have hlt : i < ns.length := (List.getElem?_eq_some_iff.mp hy).1
  have hno : y ∉ ns.take i := fun hm => by
    obtain ⟨j, hj, ej⟩ := List.mem_take_iff_getElem.mp hm
    have e3 : ns[i] = y := (List.getElem?_eq_some_iff.mp hy).2
    have hji : j < i := by omega
    exact (List.pairwise_iff_getElem.mp nd j i (by omega) hlt hji) (by rw [ej, e3])
  have nst : s ≠ t := ne_of_none h2 nt
  have s3 := s2.trans (same_upd (o := .tup [.int (i : Nat), V.str y]) nt)
  refine ⟨t, _, rfl, .inl (.inl upd_same), rfl, _, _, rfl, _, _, rfl, ⟨rfl, ?_⟩⟩
  refine ⟨_, rfl, y, rfl, nm y hin, fun H4 s4 => ⟨true, rfl, ite2 (fun z => nomatch z) (fun _ => ?_)⟩⟩
  have h4 : H4 s = some (SetK P w s S n) := s4 _ _ (by rw [upd_ne nst]; exact h2)
  refine ⟨_, rfl, _, rfl, .inr y, s, S, n, rfl, rfl, h4, _, rfl, ite2 (fun z => ?_) (fun _ => ?_)⟩
  · exfalso
    have z2 : S (.inr y) = true := z
    rw [hS y] at z2
    exact hno (of_decide_eq_true z2)
  refine ⟨_, rfl, _, rfl, ite2 (fun z => nomatch z) (fun _ => ?_)⟩
  refine ite2 (fun z => nomatch z) (fun _ => ?_)
  refine ⟨_, rfl, ⟨s, S, n, rfl, h4⟩, _, rfl, s, .inr y, S, n, rfl, rfl, h4, by rw [show PySem.scanBound = 4096 from rfl]; omega, ?_⟩
  refine ⟨_, _, _, _, rfl, fun b o e => ?_, upd_same, ?_, fun x => ?_⟩
  · rw [upd_ne (ne_of_none e hs)]
    exact s4 _ _ (s3 _ _ e)
  · split <;> omega
  · show (S (.inr x) || decide ((.inr x : Key) = .inr y)) = _
    rw [hS x, Xv.take_step hy]
    by_cases e : x = y
    · subst e
      simp
    · have e2 : decide ((.inr x : Key) = .inr y) = false := decide_eq_false fun q => e (Sum.inr.inj q)
      rw [e2, Bool.or_false]
      exact decide_eq_decide.mpr (by simp [e])
section
variable {P : Program} {w : World} {K : PySem.W.Frag} {mg : Str → Option Value} {base : Heap}
/-- a def with defaults, by its name -/
structure ClD (P : Program) (w : World) (K : PySem.W.Frag) (mg : Str → Option Value) (base : Heap) (k : Nat) (x : Str) (sp : Sp) (dvs : List V) : Prop where
  ex : ∃ (f : Addr) (fd : FuncData) (ps : List Str) (ds : List Value), FnOk P w K mg base CX0 k f fd ps sp ∧ mg x = some (.ref f) ∧ PySem.W.keepIn K (.ref f) = true ∧ Binds K fd ps ds ∧ Vals dvs ds
theorem pe_cld {X : Cx} {x : Str} {p pos : Pos} {e : Expr} {es : List Expr} {t : TA} {k j : Nat} {sp : Sp} {dvs : List V} (c : ClD X.prog X.w X.K X.mg X.base k x sp dvs) (hr : Room j X.A) (hk : k ≤ j) (hg : Gl X x) (ha : PA X (e :: es) t)
    (hdb : (x == ("__debug__" : Str)) = false := by decide) (he : starEach (e :: es) X.env = (false, eval e X.env) :: starEach es X.env := by rfl) (hpl : (backTo pos (starEach es X.env)).any (·.1) = false := by rfl) : PE X (.Call (.Name x p) (e :: es) [] pos) (tCall sp dvs E0 t) := by
  obtain ⟨f, fd, ps, ds, F, hm, kp, b, v⟩ := c.ex
  exact pe_call F (hr.mono hk) hg hm kp b v pass0 ha hdb he hpl
theorem ok_check_deeds {f : Addr} {fd : FuncData} (F : FunD K "check_deeds" "check_deeds" (defArgs s_check_deeds) (defBody s_check_deeds) (defScope s_check_deeds) [V.non] [] f fd) (T : Bl mg) (c_is_filled_list : Cl P w K mg base 2 "is_filled_list" spFilled) (c_is_name : Cl P w K mg base 1 "is_name" spIsName) : FnOk P w K mg base CX0 3 f fd ["deeds", "known"] spCheckDeeds := by
  refine F.ok sc_check_deeds (fun vs H Q E h => ?_) (fun cdv A outer s H vs Q E hr h => ?_)
  · obtain ⟨a, ns, rfl, _⟩ := h
    rfl
  · obtain ⟨a, ns, rfl, hx, h0, hz, nd, nm, q⟩ := h
    refine ⟨_, PSs.nox (pss_cons (ps_if (pt_not (pt_val (pe_cl c_is_filled_list hr (by decide) (by rfl) (pa_cons (pv 0) pa_nil)))) (pss_one ps_never) pss_nil)
  (pss_cons (ps_set (i := 2) sc_check_deeds.nd rfl (Or.inl rfl) (pe_callTy0 (T := "set") cr_set0K (by rfl) T.set (by decide +kernel)))
  (pss_one (ps_for PassesOwn.never rfl (pi_enum2 rfl T.enumerate (pa_cons (pv 0) pa_nil)) (pg_tup rfl (pgs_cons (pg_name (i := 3) sc_check_deeds.nd rfl (Or.inl rfl)) (pgs_cons (pg_name (i := 4) sc_check_deeds.nd rfl (Or.inl rfl)) pgs_nil)))
  (pss_cons (ps_if (PW.pt (pw_or (pt_not (pt_val (pe_cl c_is_name hr (by decide) (by rfl) (pa_cons (pv 4) pa_nil)))) (pw_or1 (pt_cmpR or_sinK (pv 4) (pv 2) (by rfl))))) (pss_one ps_never) pss_nil)
  (pss_cons (ps_if (PW.pt (pw_and (pt_cmp (pc_notN (pv 1)) (by rfl)) (pw_and1 pt_no))) (pss_one ps_never) pss_nil)
  (pss_one (ps_expr (pe_saddK (pv 2) (pa_cons (pv 4) pa_nil)))))))))), ?_⟩
    refine ⟨_, rfl, a, _, rfl, hx, fun H1 s1 => ⟨_, rfl, ite2 (fun z => ?_) (fun _ => ?_)⟩⟩
    · rw [decide_eq_true (show 0 < (ns.map V.str).length by rw [List.length_map]; exact h0)] at z
      cases z
    · refine ⟨rfl, fun s0 n0 => ?_⟩
      have hp1 := hx.same s1
      refine ⟨_, rfl, a, ns.map V.str, rfl, ?_⟩
      have ss := same_upd (o := SetK P w s0 (fun _ => false) 0) n0
      rcases hp1 with z | z
      · exact .inl ⟨SqL.of (ss _ _ z), deeds_for walk_enum (fun H' s => SqL.of (s _ _ z)) hz nd nm n0 ss upd_same (fun σ H' s => q H' (s1.trans s))⟩
      · exact .inr ⟨.inl (.inl (ss _ _ z)), deeds_for walk_enumT (fun H' s => .inl (.inl (s _ _ z))) hz nd nm n0 ss upd_same (fun σ H' s => q H' (s1.trans s))⟩
end
end K21


namespace K21
open PySem PySem.Spec PyProof.Rows L2 Xv Cr TL
abbrev s_thing_init : Stmt := inClass (top 35) 0
abbrev N_thing_init : List Str := ["self", "deeds", "rows", "row", "answer", "after"]
theorem sc_thing_init : FnScope N_thing_init ["self", "deeds", "rows"] (defScope s_thing_init) := ⟨rfl, rfl, rfl, by decide +kernel, rfl, by decide +kernel, by decide +kernel⟩
/-- right deeds and rows -/
structure Right (ns : List Str) (rs : List Rw) : Prop where
  d0 : 0 < ns.length
  d4 : ns.length ≤ 4
  nd : ns.Nodup
  nm : ∀ x ∈ ns, Nm x
  r0 : 0 < rs.length
  r8 : rs.length ≤ 8
  tb : Tb rs.length ns.length rs
def fsT (l m : Addr) : List (Str × V) := putF "_rows" (.ref m) (putF "_deeds" (.ref l) [])
/-- a thing: its deeds and rows stand in lists of its own, within S -/
def ThAt (K : PySem.W.Frag) (C : Addr) (S : Addr → Prop) (H : Hp) (x : Addr) (ns : List Str) (rs : List Rw) : Prop := ∃ dx l m, H x = some (.ins C dx (fsT l m)) ∧ Dt K S H (.ref l) (namesD ns) ∧ Dt K S H (.ref m) (rowsD rs) ∧ ¬ S x
def spThingI (K : PySem.W.Frag) (C : Addr) : Sp := fun vs H Q _ => ∃ (x dx da ra : Addr) (ns : List Str) (xs : List V) (rs : List Rw), vs = [.ref x, .ref da, .ref ra] ∧ H x = some (.ins C dx []) ∧ LT H da (ns.map V.str) ∧ RowsP H ra xs rs ∧ Right ns rs ∧
  ∀ H' S, Fr (fun b => b = x) H H' → (∀ b, S b → Nw H H' b) → ThAt K C S H' x ns rs → Q .non H'
structure ThC (K : PySem.W.Frag) (C : Addr) : Prop where
  cl : Cls K C
  nD : NoAttr K C "_deeds"
  nR : NoAttr K C "_rows"
section
variable {P : Program} {w : World} {K : PySem.W.Frag} {mg : Str → Option Value} {base : Heap}
theorem ok_thing_init {Ct f : Addr} {fd : FuncData} (F : Fun K "__init__" "Thing.__init__" s_thing_init f fd) (T : Bl mg) (C : Cn mg) (TC : ThC K Ct) (c_check_deeds : ClD P w K mg base 3 "check_deeds" spCheckDeeds [V.non]) (c_check_rows : Cl P w K mg base 6 "check_rows" spCheckRows) (c_check_limit : Cl P w K mg base 1 "check_limit" spLimit) : FnOk P w K mg base CX0 7 f fd ["self", "deeds", "rows"] (spThingI K Ct) := by
  refine F.ok sc_thing_init (fun vs H Q E h => ?_) (fun cdv A outer s H vs Q E hr h => ?_)
  · obtain ⟨x, dx, da, ra, ns, xs, rs, rfl, _⟩ := h
    rfl
  · obtain ⟨x, dx, da, ra, ns, xs, rs, rfl, hx, hd, hp, R, q⟩ := h
    refine ⟨_, (pss_cons (ps_expr (pe_cld c_check_deeds hr (by decide) (by rfl) (pa_cons (pv 1) pa_nil)))
  (pss_cons (ps_expr (pe_cl c_check_rows hr (by decide) (by rfl) (pa_cons (pv 2) (pa_cons (pe_callB (id := "len") (call_ln) (by rfl) T.len (by decide +kernel) (pa_cons (pv 1) pa_nil)) pa_nil))))
  (pss_cons (ps_expr (pe_cl c_check_limit hr (by decide) (by rfl) (pa_cons pe_str (pa_cons (pe_callB (id := "len") (call_ln) (by rfl) T.len (by decide +kernel) (pa_cons (pv 1) pa_nil)) (pa_cons (pe_glob (v := .int 4) (by rfl) C.deeds.choose_spec ⟨_, rfl⟩) pa_nil)))))
  (pss_cons (ps_expr (pe_cl c_check_limit hr (by decide) (by rfl) (pa_cons pe_str (pa_cons (pe_callB (id := "len") (call_ln) (by rfl) T.len (by decide +kernel) (pa_cons (pv 2) pa_nil)) (pa_cons (pe_glob (v := .int 8) (by rfl) C.states.choose_spec ⟨_, rfl⟩) pa_nil)))))
  (pss_cons (ps_fld (pv 0) (pe_callTy (T := "list") call_list_of (by rfl) T.list (by decide +kernel) (pa_cons (pv 1) pa_nil)) rfl)
  (pss_one (ps_fld (pv 0) (pe_lc (own := [("row", 3)]) (g := gName 3) (tt := tYes) (te := tLc (iSeq K (tVar 3)) (gTup K 2 (gCons (gName 4) (gCons (gName 5) gNil))) tYes (tTup (tCons (tVar 4) (tCons (tVar 5) tNil))) [4, 5]) rfl sc_thing_init.nd (pi_seq (pv 2)) (blkOk_by (N := N_thing_init) (sc := defScope s_thing_init) (by decide +kernel)) (fun _ _ _ _ _ => (pg_name (i := 3) sc_thing_init.nd rfl (Or.inl rfl))) (fun _ _ _ _ _ => pts_nil)
    (fun _ _ _ _ _ => (pe_lc (own := [("answer", 4), ("after", 5)]) (g := gTup K 2 (gCons (gName 4) (gCons (gName 5) gNil))) (tt := tYes) (te := tTup (tCons (tVar 4) (tCons (tVar 5) tNil))) rfl sc_thing_init.nd (pi_seq (pv 3)) (blkOk_by (by kernel_rfl)) (fun _ _ _ _ _ => (pg_tup rfl (pgs_cons (pg_name (i := 4) sc_thing_init.nd rfl (Or.inl rfl)) (pgs_cons (pg_name (i := 5) sc_thing_init.nd rfl (Or.inl rfl)) pgs_nil)))) (fun _ _ _ _ _ => pts_nil) (fun _ _ _ _ _ => pe_tup (pa_cons (pv 4) (pa_cons (pv 5) pa_nil)))))) rfl))))))), ?_⟩
    have hxl : xs.length = rs.length := Paired.length hp.2
    have hzn : ∀ r ∈ rs, r.length ≤ 1000 := fun r hr => by
      have := (R.tb.2 r hr).1
      have := R.d4
      omega
    refine ⟨_, rfl, da, ns, rfl, hd, R.d0, Nat.le_trans R.d4 (by decide), R.nd, R.nm, fun H1 s1 => ?_⟩
    refine ⟨_, rfl, _, rfl, da, _, rfl, (hd.same s1).seq K, ra, xs, rs, ns.length, by rw [List.length_map]; rfl, hp.same s1, ⟨R.r0, Nat.le_trans R.r8 (by decide), Nat.le_trans R.d4 (by decide)⟩, R.tb.2, fun H2 s2 => ?_⟩
    replace s2 := s1.trans s2
    have d4 := R.d4
    have r8 := R.r8
    refine ⟨_, rfl, da, _, rfl, (hd.same s2).seq K, _, _, _, rfl, by rw [List.length_map]; omega, ?_⟩
    refine ⟨_, rfl, ra, xs, rfl, (hp.1.same s2).seq K, _, _, _, rfl, by omega, ?_⟩
    -- self._deeds = list(deeds)
    refine ⟨_, rfl, da, _, rfl, (hd.same s2).seq K, fun l nl => ?_⟩
    have hx2 := s2 _ _ hx
    have nxl : x ≠ l := ne_of_none hx2 nl
    refine ⟨_, rfl, x, Ct, dx, [], rfl, (by rw [upd_ne nxl]; exact hx2), TC.cl, TC.nD, by show 0 < 1000; decide, ?_⟩
    have F3 : Fr (fun b => b = x) H (upd (upd H2 l (.lst (ns.map V.str))) x (.ins Ct dx (putF "_deeds" (.ref l) []))) := Fr.set (Fr.of (s2.trans (same_upd nl))) rfl
    have hl3 : upd (upd H2 l (.lst (ns.map V.str))) x (.ins Ct dx (putF "_deeds" (.ref l) [])) l = some (.lst (ns.map V.str)) := by rw [upd_ne nxl.symm, upd_same]
    have hx3 : upd (upd H2 l (.lst (ns.map V.str))) x (.ins Ct dx (putF "_deeds" (.ref l) [])) x = some (.ins Ct dx (putF "_deeds" (.ref l) [])) := upd_same
    have nlH : H l = none := by
      cases z : H l with
      | none => rfl
      | some o =>
        rw [s2 _ _ z] at nl
        cases nl
    generalize upd (upd H2 l (.lst (ns.map V.str))) x (.ins Ct dx (putF "_deeds" (.ref l) [])) = H3 at F3 hl3 hx3 ⊢
    have notx : ∀ {b : Addr} {o : HO}, (∀ C' d' f', o ≠ .ins C' d' f') → H b = some o → b ≠ x := fun {b o} n e z => by
      rw [z, hx] at e
      cases e
      exact n _ _ _ rfl
    have hp3 : RowsP H3 ra xs rs := by
      have k : ∀ {b : Addr} {xs : List V}, LT H b xs → LT H3 b xs := fun {b xs} z => by
        rcases z with z | z
        · exact .inl (F3 _ _ (notx (by intro _ _ _ q; cases q) z) z)
        · exact .inr (F3 _ _ (notx (by intro _ _ _ q; cases q) z) z)
      refine ⟨k hp.1, Paired.mapP hp.2 fun v r ⟨a, es, e, hxs, hps⟩ => ⟨a, es, e, k hxs, Paired.mapP hps fun y e ⟨t, z1, z2⟩ => ⟨t, z1, F3 _ _ (notx (by intro _ _ _ q; cases q) z2) z2⟩⟩⟩
    -- self._rows = [..]
    have fin : ∀ D, H3 D = none → ∀ H4 S, Same H3 H4 → (∀ b, S b → Nw H3 H4 b) → Dt K S H4 (.ref D) (rowsD rs) → sFld K (tVar 0) (fun _ _ Q => Q (.ref D) H4) "_rows" { nx := fun _ H' => Q .non H', rt := Q } [some (.ref x), some (.ref da), some (.ref ra), none, none, none] H3 := fun D hD H4 S s4 nS dS => by
      refine ⟨_, rfl, x, Ct, dx, _, rfl, s4 _ _ hx3, TC.cl, TC.nR, by show 1 < 1000; decide, ?_⟩
      have nSx : ∀ b, S b → b ≠ x := fun b hb z => by
        have := (nS b hb).1
        rw [z, hx3] at this
        cases this
      have F5 : Fr (fun b => b = x) H (upd H4 x (.ins Ct dx (fsT l D))) := Fr.set (F3.trans (Fr.of s4)) rfl
      refine q _ (fun b => S b ∨ b = l) F5 (fun b hb => ?_) ⟨dx, l, D, upd_same, ?_, ?_, ?_⟩
      · rcases hb with z | z
        · refine ⟨?_, by rw [upd_ne (nSx b z)]; exact (nS b z).2⟩
          cases e : H b with
          | none => rfl
          | some o =>
            have := (nS b z).1
            rw [F3 _ _ (nSx b z) e] at this
            cases this
        · subst z
          exact ⟨nlH, by rw [upd_ne nxl.symm, s4 _ _ hl3]; simp⟩
      · refine .lst (by rw [vw_at (.inr rfl), upd_ne nxl.symm]; exact s4 _ _ hl3) ?_
        have all : ∀ (ns : List Str) {G : Hp}, TrAll G (ns.map V.str) (ns.map PyData.str) := fun ns G => by
          induction ns with
          | nil => exact .nil
          | cons x r ih => exact .cons (.str x) ih
        exact all ns
      · exact Dt.mono (dS.fr (M := fun b => b = x) (Fr.set (Fr.refl _ _) rfl) fun b hb => nSx b hb) fun b hb => .inl hb
      · rintro (z | z)
        · exact nSx x z rfl
        · exact nxl z
    refine ⟨_, rfl, ra, xs, rfl, ?_⟩
    rcases hp3.1 with z | z
    · exact .inl ⟨SqL.of z, fun D hD => rows_copy walk_list (fun H' s => SqL.of (s _ _ z)) hp3.2 (by omega) hzn hD fun H4 S s4 nS dS => fin D hD H4 S s4 nS dS⟩
    · exact .inr ⟨.inl (.inl z), fun D hD => rows_copy walk_tup (fun H' s => .inl (.inl (s _ _ z))) hp3.2 (by omega) hzn hD fun H4 S s4 nS dS => fin D hD H4 S s4 nS dS⟩
end
end K21

namespace Cr
open PySem PySem.Spec PyProof.Rows L2 Xv Builtin
section
variable {X : Cx} {k : Nat} {C g : Addr} {fd : FuncData} {sp : Sp} {ps : List Str}
/-- a method of the class, run at once, one level in -/
theorem run_in1 {pins : List (Addr × Obj)} {σ : L2.St} {H : Hp} {s : Shared} {Q : VK} {us : List Value} {vs : List V} {R : Value → Shared → Prop} {E : Value → Shared → Prop} (F : FnOk X.prog X.w X.K X.mg X.base CX0 k g fd ps sp) (hr : Room (k + 1) X.A) (hb : Binds X.K fd ps []) (I : Inv X pins σ H s) (r : Vals vs us) (h : sp vs H Q E0)
    (q : ∀ v u H' s', Inv X pins σ H' s' → RelV v u → Q v H' → R u s') : wpAny (model X.prog X.w) X.A.in1 (call (.ref g) us) R E s := by
  have hl : (us ++ []).length = ps.length := by
    rw [List.append_nil, ← r.length]
    exact F.len _ _ _ _ h
  have bb := hb s us I.kIn hl
  rw [List.append_nil] at bb
  refine wpAny_call (codeAny_mono (F.run X.A.in1 X.stack s H ⟨us, []⟩ us vs Q E0 hr.in1 I.env0.in1 bb r h) fun z s' hq => ?_)
  cases z with
  | error e => exact False.elim hq
  | ok fl =>
    cases fl with
    | ret u =>
      obtain ⟨v, H', I3, rv, q3⟩ := I.after hq
      exact q v u H' s' I3 rv q3
    | next => exact False.elim hq
    | brk => exact False.elim hq
    | cont => exact False.elim hq
/-- the same at the place itself -/
theorem run_at {pins : List (Addr × Obj)} {σ : L2.St} {H : Hp} {s : Shared} {Q : VK} {us : List Value} {vs : List V} {R : Value → Shared → Prop} {E : Value → Shared → Prop} (F : FnOk X.prog X.w X.K X.mg X.base CX0 k g fd ps sp) (hr : Room k X.A) (hb : Binds X.K fd ps []) (I : Inv X pins σ H s) (r : Vals vs us) (h : sp vs H Q E0)
    (q : ∀ v u H' s', Inv X pins σ H' s' → RelV v u → Q v H' → R u s') : wpAny (model X.prog X.w) X.A (call (.ref g) us) R E s := by
  have hl : (us ++ []).length = ps.length := by
    rw [List.append_nil, ← r.length]
    exact F.len _ _ _ _ h
  have bb := hb s us I.kIn hl
  rw [List.append_nil] at bb
  refine wpAny_call (codeAny_mono (F.run X.A X.stack s H ⟨us, []⟩ us vs Q E0 hr I.env0 bb r h) fun z s' hq => ?_)
  cases z with
  | error e => exact False.elim hq
  | ok fl =>
    cases fl with
    | ret u =>
      obtain ⟨v, H', I3, rv, q3⟩ := I.after hq
      exact q v u H' s' I3 rv q3
    | next => exact False.elim hq
    | brk => exact False.elim hq
    | cont => exact False.elim hq
/-- len(o), by an own __len__ -/
def rLenO (C : Addr) (sp : Sp) : List V → Hp → VK → Prop := fun xs H Q => ∃ a dx fs, xs = [.ref a] ∧ H a = some (.ins C dx fs) ∧ sp [.ref a] H (fun v H' => ∃ n : Int, v = .int n ∧ 0 ≤ n ∧ n < 2 ^ 63 ∧ Q (.int n) H') E0
theorem call_lenO (F : FnOk X.prog X.w X.K X.mg X.base CX0 k g fd ["self"] sp) (hr : Room (k + 1) X.A) (hb : Binds X.K fd ["self"] []) (hs : PySem.W.findIn X.K (.ref C) "__len__" = some (some (.ref g))) (hf : PySem.W.isFn X.K (.ref g) = true) : CallR X (.builtin "len") (rLenO C sp) := by
  intro pins s σ H xs us Q I r h
  obtain ⟨a, dx, fs, rfl, ea, h⟩ := h
  obtain ⟨u, rfl, ru⟩ := vals1 r
  obtain rfl : u = Value.ref a := ru
  obtain ⟨mA, O, _⟩ := ins_get I.hok ea
  obtain ⟨od, J, _⟩ := O.look
  refine Calls.call_function_entry PySem.kind_len PySem.plain_len PySem.entry_len (PySem.args_len1 _) ?_
  unfold Builtin.«len»
  refine wpAny_bind (m := oneArg "len" _) (wpAny_pure (wpAny_bind (m := callSpecial? (.ref a) (Str.ofString "__len__")) (PySem.W.special_fn I.kIn J hs (beq_iff_eq.mp hf) ?_)))
  refine run_in1 (vs := [.ref a]) F hr hb I (.cons rfl .nil) h fun v u H' s' I' rv q => ?_
  obtain ⟨n, rfl, n0, n1, q⟩ := q
  obtain ⟨t, rfl⟩ := rv
  refine wpAny_bind (wpAny_holding (wpAny_pure (wpAny_bind (wpAny_letGo ?_))))
  have e1 : ¬ n < 0 := by omega
  have e2 : ¬ n ≥ 2 ^ 63 := by omega
  show wpAny _ _ ((if n < 0 then _ else _) : Sem _) _ _ _
  rw [if_neg e1]
  show wpAny _ _ ((if n ≥ 2 ^ 63 then _ else _) : Sem _) _ _ _
  rw [if_neg e2]
  exact wpAny_bind (wpAny_mkInt (wpAny_pure ⟨_, rfl, .int n, H', I'.tok _, ⟨_, rfl⟩, q⟩))
/-- v in o, by an own __contains__ -/
def rInO (C : Addr) (sp : Sp) (neg : Bool) : R2 := fun x y H Q => ∃ a dx fs, y = .ref a ∧ H a = some (.ins C dx fs) ∧ sp [.ref a, x] H (fun v H' => ∃ b, v = .bl b ∧ Q (.bl (if neg then !b else b)) H') E0
theorem op_inO (F : FnOk X.prog X.w X.K X.mg X.base CX0 k g fd ps sp) (hr : Room k X.A) (hb : Binds X.K fd ps []) (hs : PySem.W.findIn X.K (.ref C) "__contains__" = some (some (.ref g))) (hf : PySem.W.isFn X.K (.ref g) = true) : OpR X (compareOp .In) (rInO C sp false) := by
  intro pins s σ H x y v u Q I rx ry h
  obtain ⟨a, dx, fs, rfl, ea, h⟩ := h
  obtain rfl : u = Value.ref a := ry
  obtain ⟨mA, O, _⟩ := ins_get I.hok ea
  obtain ⟨od, J, _⟩ := O.look
  unfold compareOp
  refine wpAny_bind ?_
  unfold contains
  refine wpAny_holding (wpAny_bind (wpAny_bind (J.type.here ((PySem.W.looks_findIn I.kIn hs).here ?_))))
  rw [if_neg (by simp)]
  refine wpAny_bind (PySem.W.unlessNone_K I.kIn J hs hf (run_at (vs := [.ref a, x]) F hr hb I (.cons rfl (.cons rx .nil)) h fun v u H' s' I' rv q => ?_))
  obtain ⟨b, rfl, q⟩ := q
  obtain rfl : u = Value.bool b := rv
  exact wpAny_truthy_bool (wpAny_pure ⟨.bl b, H', I', rfl, q⟩)
theorem op_notInO (F : FnOk X.prog X.w X.K X.mg X.base CX0 k g fd ps sp) (hr : Room k X.A) (hb : Binds X.K fd ps []) (hs : PySem.W.findIn X.K (.ref C) "__contains__" = some (some (.ref g))) (hf : PySem.W.isFn X.K (.ref g) = true) : OpR X (compareOp .NotIn) (rInO C sp true) := by
  intro pins s σ H x y v u Q I rx ry h
  obtain ⟨a, dx, fs, rfl, ea, h⟩ := h
  obtain rfl : u = Value.ref a := ry
  obtain ⟨mA, O, _⟩ := ins_get I.hok ea
  obtain ⟨od, J, _⟩ := O.look
  unfold compareOp
  refine wpAny_bind ?_
  unfold contains
  refine wpAny_holding (wpAny_bind (wpAny_bind (J.type.here ((PySem.W.looks_findIn I.kIn hs).here ?_))))
  rw [if_neg (by simp)]
  refine wpAny_bind (PySem.W.unlessNone_K I.kIn J hs hf (run_at (vs := [.ref a, x]) F hr hb I (.cons rfl (.cons rx .nil)) h fun v u H' s' I' rv q => ?_))
  obtain ⟨b, rfl, q⟩ := q
  obtain rfl : u = Value.bool b := rv
  exact wpAny_truthy_bool (wpAny_pure ⟨.bl (!b), H', I', rfl, q⟩)
end
end Cr


namespace K21
open PySem PySem.Spec PyProof.Rows L2 Xv Cr TL
abbrev s_thing_len : Stmt := inClass (top 35) 12
abbrev N_thing_len : List Str := ["self"]
theorem sc_thing_len : FnScope N_thing_len ["self"] (defScope s_thing_len) := ⟨rfl, rfl, rfl, by decide +kernel, rfl, by decide +kernel, by decide +kernel⟩
abbrev s_thing_has : Stmt := inClass (top 35) 13
abbrev N_thing_has : List Str := ["self", "value"]
theorem sc_thing_has : FnScope N_thing_has ["self", "value"] (defScope s_thing_has) := ⟨rfl, rfl, rfl, by decide +kernel, rfl, by decide +kernel, by decide +kernel⟩
abbrev s_thing_deeds : Stmt := inClass (top 35) 1
abbrev N_thing_deeds : List Str := ["self"]
theorem sc_thing_deeds : FnScope N_thing_deeds ["self"] (defScope s_thing_deeds) := ⟨rfl, rfl, rfl, by decide +kernel, rfl, by decide +kernel, by decide +kernel⟩
abbrev s_thing_states : Stmt := inClass (top 35) 2
abbrev N_thing_states : List Str := ["self"]
theorem sc_thing_states : FnScope N_thing_states ["self"] (defScope s_thing_states) := ⟨rfl, rfl, rfl, by decide +kernel, rfl, by decide +kernel, by decide +kernel⟩
abbrev s_is_state : Stmt := top 38
abbrev N_is_state : List Str := ["thing", "value"]
theorem sc_is_state : FnScope N_is_state ["thing", "value"] (defScope s_is_state) := ⟨rfl, rfl, rfl, by decide +kernel, rfl, by decide +kernel, by decide +kernel⟩
abbrev s_check_state : Stmt := top 39
abbrev N_check_state : List Str := ["thing", "state"]
theorem sc_check_state : FnScope N_check_state ["thing", "state"] (defScope s_check_state) := ⟨rfl, rfl, rfl, by decide +kernel, rfl, by decide +kernel, by decide +kernel⟩
abbrev s_check_deed : Stmt := top 40
abbrev N_check_deed : List Str := ["thing", "deed"]
theorem sc_check_deed : FnScope N_check_deed ["thing", "deed"] (defScope s_check_deed) := ⟨rfl, rfl, rfl, by decide +kernel, rfl, by decide +kernel, by decide +kernel⟩
/-- a method of an own class -/
structure OwnM (P : Program) (w : World) (K : PySem.W.Frag) (mg : Str → Option Value) (base : Heap) (C : Addr) (k : Nat) (m : Str) (ps : List Str) (sp : Sp) : Prop where
  ex : ∃ (g : Addr) (fd : FuncData), FnOk P w K mg base CX0 k g fd ps sp ∧ PySem.W.findIn K (.ref C) m = some (some (.ref g)) ∧ PySem.W.isFn K (.ref g) = true ∧ Binds K fd ps []
section
variable {X : Cx} {C : Addr} {k j : Nat} {ps : List Str} {sp : Sp}
theorem call_lenM (c : OwnM X.prog X.w X.K X.mg X.base C k "__len__" ["self"] sp) (hr : Room j X.A) (hk : k + 1 ≤ j) : CallR X (.builtin "len") (rLenO C sp) := by
  obtain ⟨g, fd, F, hs, hf, hb⟩ := c.ex
  exact call_lenO F (hr.mono hk) hb hs hf
theorem op_inM (c : OwnM X.prog X.w X.K X.mg X.base C k "__contains__" ps sp) (hr : Room j X.A) (hk : k ≤ j) : OpR X (compareOp .In) (rInO C sp false) := by
  obtain ⟨g, fd, F, hs, hf, hb⟩ := c.ex
  exact op_inO F (hr.mono hk) hb hs hf
theorem op_notInM (c : OwnM X.prog X.w X.K X.mg X.base C k "__contains__" ps sp) (hr : Room j X.A) (hk : k ≤ j) : OpR X (compareOp .NotIn) (rInO C sp true) := by
  obtain ⟨g, fd, F, hs, hf, hb⟩ := c.ex
  exact op_notInO F (hr.mono hk) hb hs hf
end
/-- a row of a thing, where it stands -/
def RwO (S : Addr → Prop) (H : Hp) (v : V) (r : Rw) : Prop := ∃ a es, v = .ref a ∧ S a ∧ H a = some (.lst es) ∧ Paired (fun x (e : Int × Int) => ∃ t, x = V.ref t ∧ S t ∧ H t = some (.tup [.int e.1, .int e.2])) es r
section
variable {K : PySem.W.Frag} {C : Addr} {S : Addr → Prop} {H : Hp} {x : Addr} {ns : List Str} {rs : List Rw}
theorem vw_in {b : Addr} {o : HO} (h : Vw S H b = some o) : S b ∧ H b = some o := by
  unfold Vw at h
  split at h
  · exact ⟨‹_›, h⟩
  · cases h
theorem names_op : ∀ {ns : List Str} {vs : List V} {G : Hp}, TrAll G vs (ns.map PyData.str) → vs = ns.map V.str
  | [], _, _, .nil => rfl
  | _ :: _, _, _, .cons (.str _) t => by rw [names_op t]; rfl
theorem pairs_op : ∀ {r : Rw} {vs : List V}, TrAll (Vw S H) vs (r.map fun e => .tuple [.int e.1, .int e.2]) → Paired (fun x (e : Int × Int) => ∃ t, x = V.ref t ∧ S t ∧ H t = some (.tup [.int e.1, .int e.2])) vs r
  | [], _, .nil => .nil
  | _ :: _, _, .cons (.tup h (.cons (.int _) (.cons (.int _) .nil))) t => .cons ⟨_, rfl, (vw_in h).1, (vw_in h).2⟩ (pairs_op t)
theorem rows_op : ∀ {rs : List Rw} {vs : List V}, TrAll (Vw S H) vs (rs.map rowD) → Paired (RwO S H) vs rs
  | [], _, .nil => .nil
  | _ :: _, _, .cons (.lst h q) t => .cons ⟨_, _, rfl, (vw_in h).1, (vw_in h).2, pairs_op q⟩ (rows_op t)
/-- a thing, opened -/
theorem ThAt.op (h : ThAt K C S H x ns rs) : ∃ dx l m ys, H x = some (.ins C dx (fsT l m)) ∧ S l ∧ S m ∧ ¬ S x ∧ H l = some (.lst (ns.map V.str)) ∧ H m = some (.lst ys) ∧ Paired (RwO S H) ys rs := by
  obtain ⟨dx, l, m, hx, hl, hm, nx⟩ := h
  unfold Dt namesD at hl
  unfold Dt rowsD at hm
  cases hl with
  | lst a b => cases hm with
    | lst c d => exact ⟨dx, l, m, _, hx, (vw_in a).1, (vw_in c).1, nx, by rw [(vw_in a).2, names_op b], (vw_in c).2, rows_op d⟩
theorem in_names (y : Str) (ns : List Str) : inV (V.str y) (ns.map V.str) = decide (y ∈ ns) := by
  unfold inV
  rw [List.any_map, Bool.eq_iff_iff, List.any_eq_true, decide_eq_true_iff]
  exact ⟨fun ⟨z, hz, e⟩ => by
    have : (z == y) = true := e
    rw [← eq_of_beq this]
    exact hz, fun h => ⟨y, h, by show (y == y) = true; simp⟩⟩
theorem flat_names (ns : List Str) : (ns.map V.str).all flatV = true := by
  rw [List.all_eq_true]
  intro v hv
  obtain ⟨y, _, rfl⟩ := List.mem_map.mp hv
  rfl
end
def spTLen (K : PySem.W.Frag) (C : Addr) : Sp := fun vs H Q _ => ∃ x S ns rs, vs = [.ref x] ∧ ThAt K C S H x ns rs ∧ Q (.int rs.length) H
def spTHas (K : PySem.W.Frag) (C : Addr) : Sp := fun vs H Q _ => ∃ x S ns rs y, vs = [.ref x, y] ∧ ThAt K C S H x ns rs ∧ ((∃ z, y = .str z ∧ Q (.bl (decide (z ∈ ns))) H) ∨ (∃ t, TyX K H y t ∧ PySem.W.kitOne K t (.type "str") = some false ∧ Q (.bl false) H))
def spTDeeds (K : PySem.W.Frag) (C : Addr) : Sp := fun vs H Q _ => ∃ x S ns rs, vs = [.ref x] ∧ ThAt K C S H x ns rs ∧ ∀ l, H l = none → Q (.ref l) (upd H l (.lst (ns.map V.str)))
def spIsState (K : PySem.W.Frag) (C : Addr) : Sp := fun vs H Q _ => ∃ x S ns rs i, vs = [.ref x, .int i] ∧ ThAt K C S H x ns rs ∧ rs.length ≤ 1000 ∧ Q (.bl (decide (0 ≤ i) && decide (i ≤ (rs.length : Int) - 1))) H
def spCState (K : PySem.W.Frag) (C : Addr) : Sp := fun vs H Q _ => ∃ x S ns rs i, vs = [.ref x, .int i] ∧ ThAt K C S H x ns rs ∧ rs.length ≤ 1000 ∧ (0 ≤ i ∧ i < (rs.length : Int)) ∧ Q .non H
def spCDeed (K : PySem.W.Frag) (C : Addr) : Sp := fun vs H Q _ => ∃ x S ns rs z, vs = [.ref x, .str z] ∧ ThAt K C S H x ns rs ∧ z ∈ ns ∧ Q .non H
section
variable {P : Program} {w : World} {K : PySem.W.Frag} {mg : Str → Option Value} {base : Heap} {Ct f : Addr} {fd : FuncData}
theorem ok_thing_len (F : Fun K "__len__" "Thing.__len__" s_thing_len f fd) (T : Bl mg) (C : Cn mg) (TC : ThC K Ct) : FnOk P w K mg base CX0 1 f fd ["self"] (spTLen K Ct) := by
  refine F.ok sc_thing_len (fun vs H Q E h => ?_) (fun cdv A outer s H vs Q E hr h => ?_)
  · obtain ⟨x, S, ns, rs, rfl, _⟩ := h
    rfl
  · obtain ⟨x, S, ns, rs, rfl, t, q⟩ := h
    refine ⟨_, (pss_one (ps_ret (pe_callB (id := "len") (call_ln) (by rfl) T.len (by decide +kernel) (pa_cons (pe_fld (pv 0) rfl) pa_nil)))), ?_⟩
    obtain ⟨dx, l, m, ys, hx, sl, sm, nx, hl, hm, hp⟩ := t.op
    refine ⟨_, rfl, x, Ct, dx, _, _, rfl, hx, TC.cl, TC.nR, rfl, m, ys, rfl, .inl (SqL.of hm), ?_⟩
    rw [Paired.length hp]
    exact q
theorem ok_thing_states (F : Fun K "states" "Thing.states" s_thing_states f fd) (T : Bl mg) (C : Cn mg) (TC : ThC K Ct) : FnOk P w K mg base CX0 1 f fd ["self"] (spTLen K Ct) := by
  refine F.ok sc_thing_states (fun vs H Q E h => ?_) (fun cdv A outer s H vs Q E hr h => ?_)
  · obtain ⟨x, S, ns, rs, rfl, _⟩ := h
    rfl
  · obtain ⟨x, S, ns, rs, rfl, t, q⟩ := h
    refine ⟨_, (pss_one (ps_ret (pe_callB (id := "len") (call_ln) (by rfl) T.len (by decide +kernel) (pa_cons (pe_fld (pv 0) rfl) pa_nil)))), ?_⟩
    obtain ⟨dx, l, m, ys, hx, sl, sm, nx, hl, hm, hp⟩ := t.op
    refine ⟨_, rfl, x, Ct, dx, _, _, rfl, hx, TC.cl, TC.nR, rfl, m, ys, rfl, .inl (SqL.of hm), ?_⟩
    rw [Paired.length hp]
    exact q
theorem ok_thing_deeds (F : Fun K "deeds" "Thing.deeds" s_thing_deeds f fd) (T : Bl mg) (C : Cn mg) (TC : ThC K Ct) : FnOk P w K mg base CX0 1 f fd ["self"] (spTDeeds K Ct) := by
  refine F.ok sc_thing_deeds (fun vs H Q E h => ?_) (fun cdv A outer s H vs Q E hr h => ?_)
  · obtain ⟨x, S, ns, rs, rfl, _⟩ := h
    rfl
  · obtain ⟨x, S, ns, rs, rfl, t, q⟩ := h
    refine ⟨_, (pss_one (ps_ret (pe_callTy (T := "list") call_list_of (by rfl) T.list (by decide +kernel) (pa_cons (pe_fld (pv 0) rfl) pa_nil)))), ?_⟩
    obtain ⟨dx, l, m, ys, hx, sl, sm, nx, hl, hm, hp⟩ := t.op
    exact ⟨_, rfl, x, Ct, dx, _, _, rfl, hx, TC.cl, TC.nD, rfl, l, _, rfl, .inl (SqL.of hl), q⟩
theorem ok_thing_has (F : Fun K "__contains__" "Thing.__contains__" s_thing_has f fd) (T : Bl mg) (C : Cn mg) (TC : ThC K Ct) : FnOk P w K mg base CX0 1 f fd ["self", "value"] (spTHas K Ct) := by
  refine F.ok sc_thing_has (fun vs H Q E h => ?_) (fun cdv A outer s H vs Q E hr h => ?_)
  · obtain ⟨x, S, ns, rs, y, rfl, _⟩ := h
    rfl
  · obtain ⟨x, S, ns, rs, y, rfl, t, q⟩ := h
    refine ⟨_, (pss_one (ps_ret (pe_and (pe_callB (id := "isinstance") call_isi (by rfl) T.isinstance (by decide +kernel) (pa_cons (pv 1) (pa_cons (pe_bltn (v := .ty "str") (by rfl) T.str (by decide +kernel) rfl) pa_nil))) (pe_one (pe_cmpR op_in_seq (pv 1) (pe_fld (pv 0) rfl) (by rfl)))))), ?_⟩
    obtain ⟨dx, l, m, ys, hx, sl, sm, nx, hl, hm, hp⟩ := t.op
    rcases q with ⟨z, rfl, q⟩ | ⟨u, hu, hk, q⟩
    · refine ⟨_, rfl, _, _, _, _, _, rfl, .ty _, .base (.str z), kit_ty (r := true) (by kernel_rfl), true, rfl, ite2 (fun _ => ?_) (fun z => absurd rfl z)⟩
      refine ⟨_, rfl, _, rfl, x, Ct, dx, _, _, rfl, hx, TC.cl, TC.nD, rfl, l, _, rfl, .inl (SqL.of hl), rfl, flat_names ns, ?_⟩
      rw [in_names]
      exact q
    · exact ⟨_, rfl, _, _, _, _, _, rfl, .ty _, hu, hk, false, rfl, ite2 (fun z => nomatch z) (fun _ => q)⟩
theorem ok_is_state (F : Fun K "is_state" "is_state" s_is_state f fd) (T : Bl mg) (C : Cn mg) (TC : ThC K Ct) (c_is_integer_from : Cl P w K mg base 2 "is_integer_from" spIntF) (c_len : OwnM P w K mg base Ct 1 "__len__" ["self"] (spTLen K Ct)) : FnOk P w K mg base CX0 3 f fd ["thing", "value"] (spIsState K Ct) := by
  refine F.ok sc_is_state (fun vs H Q E h => ?_) (fun cdv A outer s H vs Q E hr h => ?_)
  · obtain ⟨x, S, ns, rs, i, rfl, _⟩ := h
    rfl
  · obtain ⟨x, S, ns, rs, i, rfl, t, hn, q⟩ := h
    refine ⟨_, (pss_one (ps_ret (pe_cl c_is_integer_from hr (by decide) (by rfl) (pa_cons (pv 1) (pa_cons pe_int (pa_cons (pe_op op_sub (pe_callB (id := "len") (call_lenM c_len hr (by decide)) (by rfl) T.len (by decide +kernel) (pa_cons (pv 0) pa_nil)) pe_int) pa_nil)))))), ?_⟩
    obtain ⟨dx, l, m, ys, hx, _⟩ := t.op
    exact ⟨_, rfl, _, rfl, x, dx, _, rfl, hx, ⟨x, S, ns, rs, rfl, t, (rs.length : Int), rfl, by omega, by omega, ⟨_, _, rfl, rfl, i, 0, (rs.length : Int) - 1, rfl, q⟩⟩⟩
theorem ok_check_state (F : Fun K "check_state" "check_state" s_check_state f fd) (T : Bl mg) (C : Cn mg) (TC : ThC K Ct) (c_is_state : Cl P w K mg base 3 "is_state" (spIsState K Ct)) : FnOk P w K mg base CX0 4 f fd ["thing", "state"] (spCState K Ct) := by
  refine F.ok sc_check_state (fun vs H Q E h => ?_) (fun cdv A outer s H vs Q E hr h => ?_)
  · obtain ⟨x, S, ns, rs, i, rfl, _⟩ := h
    rfl
  · obtain ⟨x, S, ns, rs, i, rfl, t, hn, hi, q⟩ := h
    refine ⟨_, (pss_one (ps_if (pt_not (pt_val (pe_cl c_is_state hr (by decide) (by rfl) (pa_cons (pv 0) (pa_cons (pv 1) pa_nil))))) (pss_one ps_never) pss_nil)), ?_⟩
    refine ⟨_, rfl, _, rfl, x, S, ns, rs, i, rfl, t, hn, _, rfl, ite2 (fun z => ?_) (fun _ => q)⟩
    rw [decide_eq_true hi.1, decide_eq_true (show i ≤ (rs.length : Int) - 1 by omega)] at z
    cases z
theorem ok_check_deed (F : Fun K "check_deed" "check_deed" s_check_deed f fd) (T : Bl mg) (C : Cn mg) (TC : ThC K Ct) (c_has : OwnM P w K mg base Ct 1 "__contains__" ["self", "value"] (spTHas K Ct)) : FnOk P w K mg base CX0 2 f fd ["thing", "deed"] (spCDeed K Ct) := by
  refine F.ok sc_check_deed (fun vs H Q E h => ?_) (fun cdv A outer s H vs Q E hr h => ?_)
  · obtain ⟨x, S, ns, rs, z, rfl, _⟩ := h
    rfl
  · obtain ⟨x, S, ns, rs, z, rfl, t, hz, q⟩ := h
    refine ⟨_, (pss_one (ps_if (pt_cmpR (op_notInM c_has hr (by decide)) (pv 1) (pv 0) (by rfl)) (pss_one ps_never) pss_nil)), ?_⟩
    obtain ⟨dx, l, m, ys, hx, _⟩ := t.op
    refine ⟨_, rfl, _, rfl, x, dx, _, rfl, hx, x, S, ns, rs, .str z, rfl, t, .inl ⟨z, rfl, _, rfl, _, rfl, ite2 (fun b => ?_) (fun _ => q)⟩⟩
    rw [decide_eq_true hz] at b
    cases b
end
end K21


namespace K21
open PySem PySem.Spec PyProof.Rows L2 Xv Cr TL
abbrev s_thing_rows : Stmt := inClass (top 35) 3
abbrev N_thing_rows : List Str := ["self", "row"]
theorem sc_thing_rows : FnScope N_thing_rows ["self"] (defScope s_thing_rows) := ⟨rfl, rfl, rfl, by decide +kernel, rfl, by decide +kernel, by decide +kernel⟩
def rLs (K : PySem.W.Frag) : List V → Hp → VK → Prop := fun xs H Q => ∃ p ys, xs = [.ref p] ∧ (SqL K H p ys ∨ SqT K H p ys) ∧ ∀ l, H l = none → Q (.ref l) (upd H l (.lst ys))
theorem call_ls {X : Cx} : CallR X (.type "list") (rLs X.K) := call_list_of
/-- a new list of the tuples of a row, these in S -/
def NwR (S : Addr → Prop) (H : Hp) (l : Addr) (r : Rw) : Prop := ∃ es, H l = some (.lst es) ∧ Paired (fun x (e : Int × Int) => ∃ t, x = V.ref t ∧ S t ∧ H t = some (.tup [.int e.1, .int e.2])) es r
theorem NwR.same {S : Addr → Prop} {H H' : Hp} {l : Addr} {r : Rw} (h : NwR S H l r) (s : Fr (fun b => b = D) H H') (n : l ≠ D) (nS : ¬ S D) : NwR S H' l r := by
  obtain ⟨es, h1, h2⟩ := h
  refine ⟨es, s _ _ n h1, Paired.mapP h2 fun x e ⟨t, z1, z2, z3⟩ => ⟨t, z1, z2, s _ _ (fun q => nS (q ▸ z2)) z3⟩⟩
theorem NwR.mono {S : Addr → Prop} {H H' : Hp} {l : Addr} {r : Rw} (h : NwR S H l r) (s : Same H H') : NwR S H' l r := by
  obtain ⟨es, h1, h2⟩ := h
  exact ⟨es, s _ _ h1, Paired.mapP h2 fun x e ⟨t, z1, z2, z3⟩ => ⟨t, z1, z2, s _ _ z3⟩⟩
/-- the lists of rows, as data -/
theorem nw_data {K : PySem.W.Frag} {S T : Addr → Prop} {H : Hp} {D : Addr} {ls : List Addr} {rs : List Rw} (hD : H D = some (.lst (ls.map V.ref))) (hp : Paired (NwR S H) ls rs) (tS : ∀ b, S b → T b) (tD : T D) (tl : ∀ l ∈ ls, T l) : Dt K T H (.ref D) (rowsD rs) := by
  refine .lst (by rw [vw_at tD]; exact hD) ?_
  have one : ∀ {es : List V} {r : Rw}, Paired (fun x (e : Int × Int) => ∃ t, x = V.ref t ∧ S t ∧ H t = some (.tup [.int e.1, .int e.2])) es r → TrAll (Vw T H) es (r.map fun e => .tuple [.int e.1, .int e.2]) := fun {es r} q => by
    induction q with
    | nil => exact .nil
    | cons h _ ih =>
      obtain ⟨t, rfl, h2, h3⟩ := h
      exact .cons (.tup (by rw [vw_at (tS _ h2)]; exact h3) (.cons (.int _) (.cons (.int _) .nil))) ih
  have all : ∀ {us : List Addr} {q : List Rw}, (∀ l ∈ us, T l) → Paired (NwR S H) us q → TrAll (Vw T H) (us.map V.ref) (q.map rowD) := fun {us q} hm hq => by
    induction hq with
    | nil => exact .nil
    | cons h _ ih =>
      obtain ⟨es, h1, h2⟩ := h
      exact .cons (.lst (by rw [vw_at (hm _ List.mem_cons_self)]; exact h1) (one h2)) (ih fun l hl => hm l (List.mem_cons_of_mem _ hl))
  exact all tl hp
def spTRows (K : PySem.W.Frag) (C : Addr) : Sp := fun vs H Q _ => ∃ x S ns rs, vs = [.ref x] ∧ ThAt K C S H x ns rs ∧ rs.length ≤ 1000 ∧
  ∀ H' D ls, Same H H' → H D = none → H' D = some (.lst (ls.map V.ref)) → (∀ l ∈ ls, H l = none ∧ l ≠ D) → Paired (NwR S H') ls rs → Q (.ref D) H'
section
variable {P : Program} {w : World} {K : PySem.W.Frag} {mg : Str → Option Value} {base : Heap} {Ct f : Addr} {fd : FuncData}
theorem ok_thing_rows (F : Fun K "rows" "Thing.rows" s_thing_rows f fd) (T : Bl mg) (C : Cn mg) (TC : ThC K Ct) : FnOk P w K mg base CX0 1 f fd ["self"] (spTRows K Ct) := by
  refine F.ok sc_thing_rows (fun vs H Q E h => ?_) (fun cdv A outer s H vs Q E hr h => ?_)
  · obtain ⟨x, S, ns, rs, rfl, _⟩ := h
    rfl
  · obtain ⟨x, S, ns, rs, rfl, t, hn, q⟩ := h
    refine ⟨_, (pss_one (ps_ret (pe_lc (own := [("row", 1)]) (g := gName 1) (tt := tYes) (te := tCB (rLs K) (tCons (tVar 1) tNil)) rfl sc_thing_rows.nd (pi_seq (pe_fld (pv 0) rfl)) (blkOk_by (N := N_thing_rows) (sc := defScope s_thing_rows) (by decide +kernel)) (fun _ _ _ _ _ => (pg_name (i := 1) sc_thing_rows.nd rfl (Or.inl rfl))) (fun _ _ _ _ _ => pts_nil) (fun _ _ _ _ _ => (pe_callTy (T := "list") call_ls (by rfl) T.list (by decide +kernel) (pa_cons (pv 1) pa_nil)))))), ?_⟩
    obtain ⟨dx, l, m, ys, hx, sl, sm, nx, hl, hm, hp⟩ := t.op
    have hlen : ys.length = rs.length := Paired.length hp
    refine ⟨_, rfl, x, Ct, dx, _, _, rfl, hx, TC.cl, TC.nR, rfl, m, ys, rfl, .inl ⟨SqL.of hm, fun D hD => ?_⟩⟩
    have nSD : ∀ {b : Addr} {o : HO}, H b = some o → b ≠ D := fun h => ne_of_none h hD
    refine lc_it walk_list (fun i H' => ∃ ls : List Addr, ls.length = i ∧ H' D = some (.lst (ls.map V.ref)) ∧ Same H H' ∧ (∀ l ∈ ls, H l = none ∧ l ≠ D) ∧ Paired (NwR S H') ls (rs.take i))
      ⟨[], rfl, upd_same, same_upd hD, by simp, .nil⟩ (fun i H' _ ⟨_, _, _, s, _⟩ => SqL.of (s _ _ hm)) (fun i v H' H'' hi e y => ?_) (fun H' e => ?_)
    · obtain ⟨rfl, hv⟩ := y
      obtain ⟨ls, e1, e2, e3, e4, e5⟩ := e
      obtain ⟨r, hr', a, es, rfl, sa, ha, hps⟩ := Xv.paired_get hp hv
      refine ⟨rfl, ?_⟩
      unfold tYes
      dsimp only
      rw [if_pos rfl]
      refine ⟨_, rfl, a, es, rfl, .inl (SqL.of (e3 _ _ ha)), fun b nb => ?_⟩
      have nbD : D ≠ b := ne_of_none e2 nb
      have nbH : H b = none := e3.free nb
      have hps' : Paired (fun x (e : Int × Int) => ∃ t, x = V.ref t ∧ S t ∧ H t = some (.tup [.int e.1, .int e.2])) es r := hps
      have up : Same H (upd (upd H'' b (.lst es)) D (.lst (ls.map V.ref ++ [V.ref b]))) := fun c o z => by
        rw [upd_ne (nSD z), upd_ne (ne_of_none z nbH)]
        exact e3 _ _ z
      refine ⟨_, by rw [upd_ne nbD]; exact e2, by rw [List.length_map, sizeLine_eq]; omega, ls ++ [b], by rw [List.length_append, e1]; rfl, by rw [upd_same, List.map_append]; rfl, up, fun c hc => ?_, ?_⟩
      · rcases List.mem_append.mp hc with z | z
        · exact e4 c z
        · rw [List.mem_singleton.mp z]
          exact ⟨nbH, nbD.symm⟩
      · rw [Xv.take_step hr']
        refine pr_app (pr_map e5 fun c q hc d => ?_) (.cons ⟨es, by rw [upd_ne nbD.symm, upd_same], Paired.mapP hps' fun x e ⟨t, z1, z2, z3⟩ => ⟨t, z1, z2, up _ _ z3⟩⟩ .nil)
        obtain ⟨es', h1, h2⟩ := d
        have keep : ∀ {c : Addr} {o : HO}, c ≠ D → H'' c = some o → upd (upd H'' b (.lst es)) D (.lst (ls.map V.ref ++ [V.ref b])) c = some o := fun {c o} n z => by
          rw [upd_ne n, upd_ne (ne_of_none z nb)]
          exact z
        refine ⟨es', keep (e4 c hc).2 h1, Paired.mapP h2 fun x e ⟨t, z1, z2, z3⟩ => ⟨t, z1, z2, keep (fun z => ?_) z3⟩⟩
        rw [z, e2] at z3
        cases z3
    · obtain ⟨ls, e1, e2, e3, e4, e5⟩ := e
      rw [hlen, List.take_length] at e5
      exact q H' D ls e3 hD e2 e4 e5
end
end K21


namespace K21
open PySem PySem.Spec PyProof.Rows L2 Xv Cr TL
abbrev s_entry_at : Stmt := top 37
abbrev N_entry_at : List Str := ["thing", "state", "deed"]
theorem sc_entry_at : FnScope N_entry_at ["thing", "state", "deed"] (defScope s_entry_at) := ⟨rfl, rfl, rfl, by decide +kernel, rfl, by decide +kernel, by decide +kernel⟩
abbrev s_thing_call : Stmt := inClass (top 35) 4
abbrev N_thing_call : List Str := ["self", "state", "deed"]
theorem sc_thing_call : FnScope N_thing_call ["self", "state", "deed"] (defScope s_thing_call) := ⟨rfl, rfl, rfl, by decide +kernel, rfl, by decide +kernel, by decide +kernel⟩
section
variable {K : PySem.W.Frag} {C : Addr} {S : Addr → Prop} {H H' : Hp} {x : Addr} {ns : List Str} {rs : List Rw}
theorem ThAt.same (h : ThAt K C S H x ns rs) (s : Same H H') : ThAt K C S H' x ns rs := by
  obtain ⟨dx, l, m, hx, hl, hm, nx⟩ := h
  exact ⟨dx, l, m, s _ _ hx, hl.keep s, hm.keep s, nx⟩
theorem ThAt.fr {M : Addr → Prop} (h : ThAt K C S H x ns rs) (f : Fr M H H') (nS : ∀ b, S b → ¬ M b) (nx : ¬ M x) : ThAt K C S H' x ns rs := by
  obtain ⟨dx, l, m, hx, hl, hm, n⟩ := h
  exact ⟨dx, l, m, f _ _ nx hx, hl.fr f nS, hm.fr f nS, n⟩
end
def spTCall (K : PySem.W.Frag) (C : Addr) : Sp := fun vs H Q _ => ∃ (x : Addr) (S : Addr → Prop) (ns : List Str) (rs : List Rw) (i : Nat) (z : Str) (r : Rw) (j : Nat) (e : Int × Int), vs = [.ref x, .int i, .str z] ∧ ThAt K C S H x ns rs ∧ rs.length ≤ 1000 ∧ rs[i]? = some r ∧ ns[j]? = some z ∧ ns.Nodup ∧ r[j]? = some e ∧
  ∀ t, S t → H t = some (.tup [.int e.1, .int e.2]) → Q (.ref t) H
def spCWord (K : PySem.W.Frag) (C : Addr) : Sp := fun vs H Q _ => ∃ (x : Addr) (S : Addr → Prop) (ns : List Str) (rs : List Rw) (a : Addr) (zs : List Str), vs = [.ref x, .ref a] ∧ ThAt K C S H x ns rs ∧ LT H a (zs.map V.str) ∧ zs.length ≤ 1000 ∧ (∀ z ∈ zs, z ∈ ns) ∧ ∀ H', Same H H' → Q .non H'
theorem nodup_at : ∀ {l : List Str}, l.Nodup → ∀ {i j : Nat} {z : Str}, l[i]? = some z → l[j]? = some z → i = j
  | [], _, _, _, _, h, _ => by simp at h
  | y :: l, n, 0, 0, _, _, _ => rfl
  | y :: l, n, 0, j + 1, z, h1, h2 => by
    rw [List.getElem?_cons_zero] at h1
    rw [List.getElem?_cons_succ] at h2
    cases h1
    exact absurd (List.mem_of_getElem? h2) (List.nodup_cons.mp n).1
  | y :: l, n, i + 1, 0, z, h1, h2 => by
    rw [List.getElem?_cons_zero] at h2
    rw [List.getElem?_cons_succ] at h1
    cases h2
    exact absurd (List.mem_of_getElem? h1) (List.nodup_cons.mp n).1
  | y :: l, n, i + 1, j + 1, z, h1, h2 => by
    rw [List.getElem?_cons_succ] at h1 h2
    rw [nodup_at (List.nodup_cons.mp n).2 h1 h2]
theorem paired_at {α β : Type} {F : α → β → Prop} : ∀ {a : List α} {b : List β}, Paired F a b → ∀ {i : Nat} {y : β}, b[i]? = some y → ∃ x, a[i]? = some x ∧ F x y
  | _, _, .nil, i, _, h => by simp at h
  | _, _, .cons h t, 0, y, e => by
    rw [List.getElem?_cons_zero] at e
    cases e
    exact ⟨_, rfl, h⟩
  | _, _, .cons h t, i + 1, y, e => by
    rw [List.getElem?_cons_succ] at e
    obtain ⟨x, hx, q⟩ := paired_at t e
    exact ⟨x, hx, q⟩
theorem word_for {K : PySem.W.Frag} {C : Addr} {J : It} {G : Hp → Prop} {x a : Addr} {S : Addr → Prop} {ns zs : List Str} {rs : List Rw} {H1 : Hp} {D : Ends} {u2 u3 : Option V} (W : Walk J (zs.map V.str).length G (YPair (fun i => some (.int (i : Nat))) (fun i => (zs.map V.str)[i]?))) (hG : ∀ H', Same H1 H' → G H')
    (t : ThAt K C S H1 x ns rs) (hz : ∀ z ∈ zs, z ∈ ns) (hd : ∀ σ H', Same H1 H' → D.nx σ H') :
    ∃ W : Nat → Nat → L2.St → Hp → Prop, (∃ m, W 0 m [some (.ref x), some (.ref a), u2, u3] H1) ∧ ∀ i m σ H, W i m σ H →
      (J.stop i H ∧ D.nx σ H) ∨ (J.go i H ∧ ∃ N : L2.St → Hp → Prop, (∀ σ' H', N σ' H' → ∃ m', m' < m ∧ W (i + 1) m' σ' H') ∧ ∀ v H', J.yld i H v H' → gTup K 2 (gCons (gName 2) (gCons (gName 3) gNil)) v σ H' fun σ2 H2 =>
        tIfS (tTest (tOp (rInO C (spTHas K C) true) (tVar 3) (tVar 0))) tNever tNext { D with nx := N, ct := N, bk := D.nx } σ2 H2) := by
  refine for_it W (fun i σ H' => ∃ u2 u3, σ = [some (.ref x), some (.ref a), u2, u3] ∧ Same H1 H') ⟨_, _, rfl, Same.refl _⟩ (fun i σ H' _ ⟨_, _, _, s'⟩ => hG H' s') ?_ (fun σ H' ⟨_, _, _, s'⟩ => hd σ H' s')
  rintro i v σ H2 H3 hi ⟨u2, u3, rfl, s2⟩ ⟨tt, x1, x2, rfl, nt, rfl, e1, e2⟩
  cases e1
  replace e2 : (zs.map V.str)[i]? = some x2 := e2
  obtain ⟨y, hy, rfl⟩ : ∃ y, zs[i]? = some y ∧ x2 = V.str y := by
    rw [List.getElem?_map] at e2
    cases e : zs[i]? with
    | none => rw [e] at e2; cases e2
    | some y => rw [e] at e2; exact ⟨y, rfl, (Option.some.inj e2).symm⟩
  have s3 := s2.trans (same_upd (o := HO.tup [V.int (i : Nat), V.str y]) nt)
  have t3 := t.same s3
  obtain ⟨dx, l, m, ys, hx, _⟩ := t3.op
  refine ⟨tt, _, rfl, .inl (.inl upd_same), rfl, _, _, rfl, _, _, rfl, ⟨rfl, ?_⟩⟩
  refine ⟨_, rfl, _, rfl, x, dx, _, rfl, hx, x, S, ns, rs, .str y, rfl, t3, .inl ⟨y, rfl, _, rfl, _, rfl, ite2 (fun b => ?_) (fun _ => ⟨_, _, rfl, s3⟩)⟩⟩
  rw [decide_eq_true (hz y (List.mem_of_getElem? hy))] at b
  cases b
section
variable {P : Program} {w : World} {K : PySem.W.Frag} {mg : Str → Option Value} {base : Heap} {Ct f : Addr} {fd : FuncData}
theorem ok_entry_at (F : Fun K "entry_at" "entry_at" s_entry_at f fd) (T : Bl mg) (C : Cn mg) (TC : ThC K Ct) (c_check_state : Cl P w K mg base 4 "check_state" (spCState K Ct)) (c_check_deed : Cl P w K mg base 2 "check_deed" (spCDeed K Ct)) : FnOk P w K mg base CX0 5 f fd ["thing", "state", "deed"] (spTCall K Ct) := by
  refine F.ok sc_entry_at (fun vs H Q E h => ?_) (fun cdv A outer s H vs Q E hr h => ?_)
  · obtain ⟨x, S, ns, rs, i, z, r, j, e, rfl, _⟩ := h
    rfl
  · obtain ⟨x, S, ns, rs, i, z, r, j, e, rfl, t, hn, hi, hj, nd, he, q⟩ := h
    refine ⟨_, (pss_cons (ps_expr (pe_cl c_check_state hr (by decide) (by rfl) (pa_cons (pv 0) (pa_cons (pv 1) pa_nil))))
  (pss_cons (ps_expr (pe_cl c_check_deed hr (by decide) (by rfl) (pa_cons (pv 0) (pa_cons (pv 2) pa_nil))))
  (pss_one (ps_ret (pe_ix ix_list (pe_ix ix_list (pe_fld (pv 0) rfl) (pv 1) (fun _ _ => rfl)) (pe_bm PySem.F.plainAttrs_list PySem.F.slot_list_index PySem.F.type_list_index mt_index (pe_fld (pv 0) rfl) (pa_cons (pv 2) pa_nil)) (fun _ _ => rfl)))))), ?_⟩
    have hlt := (List.getElem?_eq_some_iff.mp hi).1
    refine ⟨_, rfl, _, rfl, x, S, ns, rs, _, rfl, t, hn, ⟨by omega, by omega⟩, ?_⟩
    refine ⟨_, rfl, _, rfl, x, S, ns, rs, _, rfl, t, List.mem_of_getElem? hj, ?_⟩
    obtain ⟨dx, l, m, ys, hx, sl, sm, nx, hl, hm, hp⟩ := t.op
    obtain ⟨v, hv, a, es, rfl, sa, ha, hps⟩ := paired_at hp hi
    obtain ⟨v2, hv2, tt, rfl, st, ht⟩ := paired_at hps he
    refine ⟨_, rfl, x, Ct, dx, _, _, rfl, hx, TC.cl, TC.nR, rfl, _, rfl, m, ys, _, _, rfl, rfl, SqL.of hm, at_i hv, ?_⟩
    refine ⟨_, rfl, x, Ct, dx, _, _, rfl, hx, TC.cl, TC.nD, rfl, .inl ⟨rfl, _, SqL.of hl⟩, _, rfl, l, _, _, j, .str z, rfl, rfl, SqL.of hl, rfl, flat_names ns, by rw [List.getElem?_map, hj]; rfl, by show (z == z) = true; simp, fun k z' hk hz' => ?_, ?_⟩
    · rw [List.getElem?_map] at hz'
      cases e1 : ns[k]? with
      | none => rw [e1] at hz'; cases hz'
      | some y =>
        rw [e1] at hz'
        cases hz'
        show (y == z) = false
        rw [beq_eq_false_iff_ne]
        intro h
        subst h
        have := nodup_at nd e1 hj
        omega
    · exact ⟨_, _, _, _, rfl, rfl, SqL.of ha, at_i hv2, q tt st ht⟩
theorem ok_thing_call (F : Fun K "__call__" "Thing.__call__" s_thing_call f fd) (c_entry_at : Cl P w K mg base 5 "entry_at" (spTCall K Ct)) : FnOk P w K mg base CX0 6 f fd ["self", "state", "deed"] (spTCall K Ct) := by
  refine F.ok sc_thing_call (fun vs H Q E h => ?_) (fun cdv A outer s H vs Q E hr h => ?_)
  · obtain ⟨x, S, ns, rs, i, z, r, j, e, rfl, _⟩ := h
    rfl
  · obtain ⟨x, S, ns, rs, i, z, r, j, e, rfl, h⟩ := h
    refine ⟨_, (pss_one (ps_ret (pe_cl c_entry_at hr (by decide) (by rfl) (pa_cons (pv 0) (pa_cons (pv 1) (pa_cons (pv 2) pa_nil)))))), ?_⟩
    exact ⟨_, rfl, _, rfl, _, rfl, x, S, ns, rs, i, z, r, j, e, rfl, h⟩
end
end K21


namespace K21
open PySem PySem.Spec PyProof.Rows L2 Xv Cr TL
section
variable {X : Cx} {i : Nat} {y : Str} {py pos spos : Pos} {kx vx tg iter : Expr} {ifs : List Expr} {scope : Scope} {own : List (Str × Nat)} {wi : TI} {g : TG} {tt : TT} {tk tv : TE}
theorem sw_dc {gs : List Comprehension} {l : Nat} {env : Env} (a : env.scope.kind = .function) (b : env.scope.names.lookup y = some .local) (c : (py.line == pos.line) = true) (d : (scope.names.any fun (n, k) => n == y && (k == .local || k == .cell)) = false) :
    swapsWith (.DictComp kx vx gs scope pos) (some (.Name y py)) l env = pure true := by
  have h1 : env.kindOf y = some .local := b
  have h2 : env.blockKind = .function := by
    unfold Env.blockKind
    rw [a]
    rfl
  unfold swapsWith
  simp only [h1, h2, c, d, Expr.pos]
  rfl
/-- a name := a dict comprehension, on one line, the name a local -/
theorem ps_dcTo (calm : X.calm = true) (nd : X.N.Nodup) (ny : X.N[i]? = some y) (ly : X.env.scope.names.lookup y = some .local) (sw : swapsWith (.DictComp kx vx [⟨tg, iter, ifs, 0⟩] scope pos) (some (.Name y py)) spos.line X.env = pure true) (wI : PI X tg iter wi) (bok : BlkOk X.N X.env.scope scope own)
    (wg : ∀ (s : Shared) (H : Hp) (C : Addr) (cl : List (Str × Addr)) (fp : List Addr), PG (X.blk s H scope (compEnvC scope cl C X.env) fp) tg g) (wt : ∀ (s : Shared) (H : Hp) (C : Addr) (cl : List (Str × Addr)) (fp : List Addr), PTs (X.blk s H scope (compEnvC scope cl C X.env) fp) ifs tt)
    (wk : ∀ (s : Shared) (H : Hp) (C : Addr) (cl : List (Str × Addr)) (fp : List Addr), PE (X.blk s H scope (compEnvC scope cl C X.env) fp) kx tk) (wv : ∀ (s : Shared) (H : Hp) (C : Addr) (cl : List (Str × Addr)) (fp : List Addr), PE (X.blk s H scope (compEnvC scope cl C X.env) fp) vx tv)
    (fs : ∀ x, foldedSetIterable iter X.env x = pure x := by intro _; rfl) : PS X (.Assign [.Name y py] (.DictComp kx vx [⟨tg, iter, ifs, 0⟩] scope pos) spos) (tAsg (tDc wi g tt tk tv (own.map (·.2))) (gName i)) := by
  constructor
  intro pins s σ H Z J0 red
  rw [exec_Assign_Name_used _ _ _ _ sw]
  apply wpAny_bind
  apply wpAny_standAt
  apply wpAny_bind
  show wpAny _ X.A (do let _ ← comprehension (.DictComp kx vx [⟨tg, iter, ifs, 0⟩] scope pos) scope X.env (firstIterPos [⟨tg, iter, ifs, 0⟩] pos) newDict false (eval iter X.env) (some (assign (.Name y py) X.env))) _ _ s
  replace red : tDc wi g tt tk tv (own.map (·.2)) σ H (fun x G => gName i x σ G Z.nx) := red
  apply wpAny_bind
  refine thn (dc_core (Qf := fun _ r => SP X pins Z .next r) calm nd J0 wI bok wg wt wk wv fs red ?_) (fun _ _ z => wpAny_pure (wpAny_pure z))
  intro D F r m G J1 z nsp ok
  show wpAny _ _ (assign (.Name y py) X.env (.ref D)) _ _ _
  obtain ⟨f0, f1, f2, f3, f4, f5⟩ := ok
  apply wpAny_assign_Name
  refine store_ok2 (v := V.ref D) J1 nd ny (.inl ly) rfl ?_ (.inr ly)
  intro r2 J2 ⟨b, sb, hb⟩
  have nb : F ≠ b := hb.elim (fun e q => f1 (q.trans e)) (fun e q => f4 y b e q.symm)
  exact ⟨m, nsp.sameBut sb nb, fun h3 sb3 => ⟨_, G, J2.turned (t' := r2.toks) (fun c o n e => (sb3.2 c n).trans e) f0 f1 f3 f4 f5, z⟩⟩
end
/-- a dict comprehension over any walk -/
theorem dc_walk {J : It} {n : Nat} {G : Hp → Prop} {Y : Nat → Hp → V → Hp → Prop} (w : Walk J n G Y) {g : TG} {tt : TT} {tk tv : TE} {vs : List Nat} {σ : L2.St} {H1 : Hp} {D : Addr} {Qd : Hp → Prop} (I : Nat → Hp → Prop) (i0 : I 0 (upd H1 D (.dK []))) (iG : ∀ i H, i ≤ n → I i H → G H)
    (step : ∀ i x H H', i < n → I i H → Y i H x H' → g x (wipe σ vs) H' fun σ2 H2 => wipe σ2 vs = wipe σ vs ∧ tt σ2 H2 fun b H3 => if b = true then tk σ2 H3 fun y H4 => tv σ2 H4 fun z H5 => ∃ kvs k, y = kV k ∧ H5 D = some (.dK kvs) ∧ kvs.length < sizeLine ∧ I (i + 1) (upd H5 D (.dK (putK kvs k z))) else I (i + 1) H3) (last : ∀ H, I n H → Qd H) :
    ∃ W : Nat → Nat → Hp → Prop, (∃ m, W 0 m (upd H1 D (.dK []))) ∧ ∀ i m H, W i m H → (J.stop i H ∧ Qd H) ∨ (J.go i H ∧ ∃ Nx : Hp → Prop, (∀ H', Nx H' → ∃ m', m' < m ∧ W (i + 1) m' H') ∧
      ∀ x H', J.yld i H x H' → g x (wipe σ vs) H' fun σ2 H2 => wipe σ2 vs = wipe σ vs ∧ tt σ2 H2 fun b H3 => if b = true then tk σ2 H3 fun y H4 => tv σ2 H4 fun z H5 => ∃ kvs k, y = kV k ∧ H5 D = some (.dK kvs) ∧ kvs.length < sizeLine ∧ Nx (upd H5 D (.dK (putK kvs k z))) else Nx H3) := by
  refine ⟨fun i m H => m + i = n ∧ I i H, ⟨n, rfl, i0⟩, fun i m H hW => ?_⟩
  obtain ⟨hm, hI⟩ := hW
  have hG := iG i H (by omega) hI
  cases m with
  | zero =>
    obtain rfl : i = n := by omega
    exact .inl ⟨w.stops H hG, last H hI⟩
  | succ m => exact .inr ⟨w.goes i H (by omega) hG, I (i + 1), fun H' q => ⟨m, Nat.lt_succ_self m, by omega, q⟩, fun x H' y => step i x H H' (by omega) hI (w.yields i H x H' (by omega) hG y)⟩
/-- iSeq, that nothing opens by itself -/
@[irreducible] def iSq (K : PySem.W.Frag) (te : TE) : TI := iSeq K te
theorem pi_sq {X : Cx} {tg e : Expr} {te : TE} (he : PE X e te) : PI X tg e (iSq X.K te) := by
  unfold iSq
  exact pi_seq he
theorem seq_pick {K : PySem.W.Frag} {H : Hp} {a : Addr} {xs : List V} {R : It → Hp → Prop} {σ : L2.St} {i : Nat} (e : σ[i]? = some (some (.ref a))) (h : Cr.LT H a xs) (q : ∀ J G, Walk J xs.length G (YAt xs) → (∀ H', (∀ o, H a = some o → H' a = some o) → G H') → R J H) : iSq K (tVar i) σ H R := by
  unfold iSq
  refine ⟨_, e, a, xs, rfl, ?_⟩
  rcases h with z | z
  · exact .inl ⟨SqL.of z, q _ _ walk_list fun H' s => SqL.of (s _ z)⟩
  · exact .inr ⟨.inl (.inl z), q _ _ walk_tup fun H' s => .inl (.inl (s _ z))⟩
/-! ### a run, as a function -/
def ent (ns : List Str) (rs : List Rw) (n : Nat) (z : Str) : Int × Int := (rs.getD n []).getD (ns.idxOf z) (0, 0)
def runS (ns : List Str) (rs : List Rw) (p : List Int × Nat) (z : Str) : List Int × Nat := (p.1 ++ [(ent ns rs p.2 z).1], (ent ns rs p.2 z).2.toNat)
def runR (ns : List Str) (rs : List Rw) (n : Nat) (zs : List Str) : List Int × Nat := zs.foldl (runS ns rs) ([], n)
theorem runR_snoc (ns : List Str) (rs : List Rw) (n : Nat) (zs : List Str) (z : Str) : runR ns rs n (zs ++ [z]) = runS ns rs (runR ns rs n zs) z := by
  unfold runR
  rw [List.foldl_append]
  rfl
theorem idx_at {ns : List Str} {z : Str} (hz : z ∈ ns) : ns[ns.idxOf z]? = some z := by
  have h := List.idxOf_lt_length_of_mem hz
  rw [List.getElem?_eq_getElem h, List.getElem_idxOf]
theorem ent_at {ns : List Str} {rs : List Rw} {n : Nat} {z : Str} (tb : Tb rs.length ns.length rs) (h : n < rs.length) (hz : z ∈ ns) : ∃ r, rs[n]? = some r ∧ r[ns.idxOf z]? = some (ent ns rs n z) ∧ (0 ≤ (ent ns rs n z).2 ∧ (ent ns rs n z).2 < (rs.length : Int)) := by
  have hr : rs[n]? = some rs[n] := List.getElem?_eq_getElem h
  have hm := tb.2 rs[n] (List.getElem_mem h)
  have hi : ns.idxOf z < rs[n].length := by rw [hm.1]; exact List.idxOf_lt_length_of_mem hz
  have he : ent ns rs n z = rs[n][ns.idxOf z] := by
    unfold ent
    simp only [List.getD_eq_getElem?_getD, hr, Option.getD_some, List.getElem?_eq_getElem hi]
  refine ⟨_, hr, by rw [he]; exact List.getElem?_eq_getElem hi, ?_⟩
  rw [he]
  exact (hm.2 _ (List.getElem_mem hi)).2
theorem run_in {ns : List Str} {rs : List Rw} (tb : Tb rs.length ns.length rs) : ∀ (zs : List Str) (p : List Int × Nat), p.2 < rs.length → (∀ z ∈ zs, z ∈ ns) → (zs.foldl (runS ns rs) p).2 < rs.length ∧ (zs.foldl (runS ns rs) p).1.length = p.1.length + zs.length
  | [], p, h, _ => ⟨h, rfl⟩
  | z :: zs, p, h, hz => by
    obtain ⟨r, _, _, h0, h1⟩ := ent_at tb h (hz z List.mem_cons_self)
    have := run_in tb zs (runS ns rs p z) (by show (ent ns rs p.2 z).2.toNat < _; omega) fun y hy => hz y (List.mem_cons_of_mem _ hy)
    refine ⟨this.1, this.2.trans ?_⟩
    show (p.1 ++ [_]).length + zs.length = p.1.length + (zs.length + 1)
    rw [List.length_append, List.length_singleton]
    omega
def spTRun (K : PySem.W.Frag) (C : Addr) : Sp := fun vs H Q _ => ∃ (x : Addr) (S : Addr → Prop) (ns : List Str) (rs : List Rw) (n : Nat) (a : Addr) (zs : List Str), vs = [.ref x, .int n, .ref a] ∧ ThAt K C S H x ns rs ∧ LT H a (zs.map V.str) ∧ (rs.length ≤ 1000 ∧ zs.length ≤ 1000 ∧ ns.length ≤ 1000) ∧ ns.Nodup ∧ Tb rs.length ns.length rs ∧ n < rs.length ∧ (∀ z ∈ zs, z ∈ ns) ∧
  ∀ H' l t, Same H H' → H l = none → H t = none → l ≠ t → H' l = some (.lst ((runR ns rs n zs).1.map V.int)) → H' t = some (.tup [.ref l, .int (runR ns rs n zs).2]) → Q (.ref t) H'
section
variable {P : Program} {w : World} {K : PySem.W.Frag} {mg : Str → Option Value} {base : Heap} {Ct f : Addr} {fd : FuncData}
end
end K21


namespace K21
open PySem PySem.Spec PyProof.Rows L2 Xv Cr TL
abbrev s_thing_eq : Stmt := inClass (top 35) 14
abbrev N_thing_eq : List Str := ["self", "other"]
theorem sc_thing_eq : FnScope N_thing_eq ["self", "other"] (defScope s_thing_eq) := ⟨rfl, rfl, rfl, by decide +kernel, rfl, by decide +kernel, by decide +kernel⟩
theorem eqv_names (a b : List Str) : PyData.eqv (namesD a) (namesD b) = decide (a = b) := PySem.W.Datum.eqv a b
theorem eqv_rows (a b : List Rw) : PyData.eqv (rowsD a) (rowsD b) = decide (a = b) := PySem.W.Datum.eqv a b
theorem lay_strs : ∀ a : List Str, (∀ x ∈ a, Nm x) → PyData.canLayAll0 (a.map PyData.str) = true
  | [], _ => rfl
  | x :: r, h => by
    show (PyData.canLay0 (.str x) && PyData.canLayAll0 (r.map PyData.str)) = true
    rw [lay_strs r fun y hy => h y (List.mem_cons_of_mem _ hy), Bool.and_true]
    obtain ⟨_, h8, hc⟩ := h x List.mem_cons_self
    show (x.cps.all fun c => decide (c < 0x110000)) = true
    rw [← Array.all_toList, List.all_eq_true]
    intro c hcc
    have := hc c hcc
    exact decide_eq_true (by omega)
theorem lay_pairs : ∀ a : Rw, PyData.canLayAll0 (a.map fun e => .tuple [.int e.1, .int e.2]) = true
  | [] => rfl
  | x :: r => by
    show (PyData.canLay0 (.tuple [.int x.1, .int x.2]) && PyData.canLayAll0 (r.map fun e => .tuple [.int e.1, .int e.2])) = true
    rw [lay_pairs r]
    rfl
theorem lay_rows : ∀ a : List Rw, PyData.canLayAll0 (a.map rowD) = true
  | [] => rfl
  | x :: r => by
    show (PyData.canLayAll0 (x.map fun e => .tuple [.int e.1, .int e.2]) && PyData.canLayAll0 (r.map rowD)) = true
    rw [lay_rows r, lay_pairs x]
    rfl
theorem shaped_names (a : List Str) (h : ∀ x ∈ a, Nm x) : SeqAt.shaped (namesD a) = true := by
  unfold SeqAt.shaped
  rw [Bool.and_eq_true]
  exact ⟨lay_strs a h, decide_eq_true (Nat.le_trans (PySem.W.Datum.depth_le a) (by decide))⟩
theorem shaped_rows (a : List Rw) : SeqAt.shaped (rowsD a) = true := by
  unfold SeqAt.shaped
  rw [Bool.and_eq_true]
  exact ⟨lay_rows a, decide_eq_true (Nat.le_trans (PySem.W.Datum.depth_le a) (by decide))⟩
section
variable {K : PySem.W.Frag} {S : Addr → Prop} {H : Hp}
theorem dp_strs : ∀ (ns : List Str), DpAll K H (ns.map V.str) (ns.map PyData.str)
  | [] => .nil
  | x :: r => .cons (.str x) (dp_strs r)
theorem dp_pairs {es : List V} {r : Rw} (h : Paired (fun x (e : Int × Int) => ∃ t, x = V.ref t ∧ S t ∧ H t = some (.tup [.int e.1, .int e.2])) es r) : DpAll K H es (r.map fun e => .tuple [.int e.1, .int e.2]) := by
  induction h with
  | nil => exact .nil
  | cons q _ ih =>
    obtain ⟨t, rfl, _, ht⟩ := q
    exact .cons (.tup (.inl (.inl ht)) (.cons (.int _) (.cons (.int _) .nil))) ih
theorem dp_rows {ys : List V} {rs : List Rw} (h : Paired (RwO S H) ys rs) : DpAll K H ys (rs.map rowD) := by
  induction h with
  | nil => exact .nil
  | cons q _ ih =>
    obtain ⟨a, es, rfl, _, ha, hp⟩ := q
    exact .cons (.lst (SqL.of ha) (dp_pairs hp)) ih
end
def spTEq (K : PySem.W.Frag) (C : Addr) : Sp := fun vs H Q _ => ∃ (x : Addr) (S : Addr → Prop) (ns : List Str) (rs : List Rw) (y : V), vs = [.ref x, y] ∧ ThAt K C S H x ns rs ∧ (∀ z ∈ ns, Nm z) ∧
  ((∃ (x2 : Addr) (S2 : Addr → Prop) (ns2 : List Str) (rs2 : List Rw), y = .ref x2 ∧ TyX K H (.ref x2) (.ref C) ∧ ThAt K C S2 H x2 ns2 rs2 ∧ (∀ z ∈ ns2, Nm z) ∧ Q (.bl (decide (ns = ns2) && decide (rs = rs2))) H) ∨ (∃ t, TyX K H y t ∧ PySem.W.kitOne K t (.ref C) = some false ∧ Q (.bl false) H))
section
variable {P : Program} {w : World} {K : PySem.W.Frag} {mg : Str → Option Value} {base : Heap} {Ct f : Addr} {fd : FuncData}
theorem ok_thing_eq (F : Fun K "__eq__" "Thing.__eq__" s_thing_eq f fd) (T : Bl mg) (TC : ThC K Ct) (gl : mg "Thing" = some (.ref Ct)) (kt : PySem.W.kitOne K (.ref Ct) (.ref Ct) = some true) : FnOk P w K mg base CX0 1 f fd ["self", "other"] (spTEq K Ct) := by
  refine F.ok sc_thing_eq (fun vs H Q E h => ?_) (fun cdv A outer s H vs Q E hr h => ?_)
  · obtain ⟨x, S, ns, rs, y, rfl, _⟩ := h
    rfl
  · obtain ⟨x, S, ns, rs, y, rfl, t, nm, q⟩ := h
    refine ⟨_, (pss_one (ps_ret (pe_and (pe_callB (id := "isinstance") call_isi (by rfl) T.isinstance (by decide +kernel) (pa_cons (pv 1) (pa_cons (pe_glob (v := .ref Ct) (by rfl) gl rfl) pa_nil))) (pe_and (pe_cmpR (op_eqD hr.units) (pe_fld (pv 0) rfl) (pe_fld (pv 1) rfl) (nomark _)) (pe_one (pe_cmpR (op_eqD hr.units) (pe_fld (pv 0) rfl) (pe_fld (pv 1) rfl) (nomark _))))))), ?_⟩
    obtain ⟨dx, l, m, ys, hx, sl, sm, nx, hl, hm, hp⟩ := t.op
    rcases q with ⟨x2, S2, ns2, rs2, rfl, ty, t2, nm2, q⟩ | ⟨u, hu, hk, q⟩
    · obtain ⟨dx2, l2, m2, ys2, hx2, sl2, sm2, nx2, hl2, hm2, hp2⟩ := t2.op
      refine ⟨_, rfl, _, _, _, _, _, rfl, .own _, ty, kt, true, rfl, ite2 (fun _ => ?_) (fun z => absurd rfl z)⟩
      refine ⟨_, rfl, x, Ct, dx, _, _, rfl, hx, TC.cl, TC.nD, rfl, _, rfl, x2, Ct, dx2, _, _, rfl, hx2, TC.cl, TC.nD, rfl, namesD ns, namesD ns2, .lst (SqL.of hl) (dp_strs ns), .lst (SqL.of hl2) (dp_strs ns2), shaped_names ns nm, shaped_names ns2 nm2, ?_⟩
      rw [eqv_names]
      refine ⟨_, rfl, ite2 (fun z => ?_) (fun z => ?_)⟩
      · refine ⟨_, rfl, x, Ct, dx, _, _, rfl, hx, TC.cl, TC.nR, rfl, _, rfl, x2, Ct, dx2, _, _, rfl, hx2, TC.cl, TC.nR, rfl, rowsD rs, rowsD rs2, .lst (SqL.of hm) (dp_rows hp), .lst (SqL.of hm2) (dp_rows hp2), shaped_rows rs, shaped_rows rs2, ?_⟩
        rw [eqv_rows]
        rw [z, Bool.true_and] at q
        exact q
      · rw [show decide (ns = ns2) = false from by simpa using z] at q
        rw [Bool.false_and] at q
        exact q
    · exact ⟨_, rfl, _, _, _, _, _, rfl, .own _, hu, hk, false, rfl, ite2 (fun z => nomatch z) (fun _ => q)⟩
end
end K21


namespace K21
open PySem PySem.Spec PyProof.Rows L2 Xv Cr TL
theorem kv_cons {G : Hp} {kvs : List (Key × V)} {p : PyData × PyData} {ps : List (PyData × PyData)} (h : TrKv G kvs (p :: ps)) : ∃ k v r d, kvs = (k, v) :: r ∧ p = (kD k, d) ∧ Tr G v d ∧ TrKv G r ps := by
  generalize e : p :: ps = z at h
  cases h with
  | nil => cases e
  | cons a b =>
    cases e
    exact ⟨_, _, _, _, rfl, rfl, a, b⟩
theorem kD_str {k : Key} {x : Str} (h : PyData.str x = kD k) : k = .inr x := by
  cases k with
  | inl i => cases h
  | inr y =>
    have : PyData.str x = PyData.str y := h
    cases this
    rfl
/-- a model, opened -/
theorem md_op {K : PySem.W.Frag} {S : Addr → Prop} {H : Hp} {m : Addr} {ns : List Str} {rs : List Rw} (h : Dt K S H (.ref m) (modelD ns rs)) :
    ∃ l t ys, S m ∧ S l ∧ S t ∧ H m = some (.dK [(.inr "deeds", .ref l), (.inr "rows", .ref t)]) ∧ H l = some (.lst (ns.map V.str)) ∧ H t = some (.lst ys) ∧ Paired (RwO S H) ys rs := by
  unfold Dt modelD at h
  cases h with
  | dct a b =>
    obtain ⟨k1, v1, r1, d1, rfl, e1, t1, b1⟩ := kv_cons b
    obtain ⟨k2, v2, r2, d2, rfl, e2, t2, b2⟩ := kv_cons b1
    have e3 : PyData.str "deeds" = kD k1 := congrArg Prod.fst e1
    have e4 : PyData.str "rows" = kD k2 := congrArg Prod.fst e2
    obtain rfl : namesD ns = d1 := congrArg Prod.snd e1
    obtain rfl : rowsD rs = d2 := congrArg Prod.snd e2
    obtain rfl := kD_str e3
    obtain rfl := kD_str e4
    cases b2
    unfold namesD at t1
    unfold rowsD at t2
    cases t1 with
    | lst c d => cases t2 with
      | lst f g => exact ⟨_, _, _, (vw_in a).1, (vw_in c).1, (vw_in f).1, (vw_in a).2, by rw [(vw_in c).2, names_op d], (vw_in f).2, rows_op g⟩
theorem md_deeds {H : Hp} {m : Addr} {v u : V} (h : H m = some (.dK [(.inr "deeds", v), (.inr "rows", u)])) : DGet H m (.str "deeds") (some v) := by
  have g := DGet.k (k := .inr "deeds") h
  rw [valV_pos rfl] at g
  exact g
theorem md_rows {H : Hp} {m : Addr} {v u : V} (h : H m = some (.dK [(.inr "deeds", v), (.inr "rows", u)])) : DGet H m (.str "rows") (some u) := by
  have g := DGet.k (k := .inr "rows") h
  have ne : ¬ (.inr "deeds" : Key) = .inr "rows" := by decide +kernel
  rw [valV_neg (show ¬ ((.inr "deeds", v) : Key × V).1 = .inr "rows" from ne), valV_pos rfl] at g
  exact g
def spWord (K : PySem.W.Frag) : Sp := fun vs H Q _ => ∃ (p m : Addr) (n : Nat) (S : Addr → Prop) (ns : List Str) (rs : List Rw), vs = [.ref p, .ref m, .int n] ∧ Pot H p ∧ ¬ S p ∧ n ≤ 100 ∧ Dt K S H (.ref m) (modelD ns rs) ∧ 0 < ns.length ∧ ns.length < 1000 ∧
  ∀ H' l (zs : List Str), But p H H' → Pot H' p → H l = none → H' l = some (.lst (zs.map V.str)) → zs.length ≤ n → (∀ z ∈ zs, z ∈ ns) → Q (.ref l) H'
section
variable {P : Program} {w : World} {K : PySem.W.Frag} {mg : Str → Option Value} {base : Heap} {f : Addr} {fd : FuncData}
end
end K21


namespace K21
open PySem PySem.Spec PyProof.Rows L2 Xv Cr TL
abbrev s_thing : Stmt := top 55
abbrev N_thing : List Str := ["_law_model_here"]
theorem sc_thing : FnScope N_thing ["_law_model_here"] (defScope s_thing) := ⟨rfl, rfl, rfl, by decide +kernel, rfl, by decide +kernel, by decide +kernel⟩
theorem rwo_rows {S : Addr → Prop} {H : Hp} {a : Addr} {ys : List V} {rs : List Rw} (h : H a = some (.lst ys)) (hp : Paired (RwO S H) ys rs) : RowsP H a ys rs :=
  ⟨.inl h, Paired.mapP hp fun v r ⟨b, es, e, _, hb, q⟩ => ⟨b, es, e, .inl hb, Paired.mapP q fun x e ⟨t, z1, _, z3⟩ => ⟨t, z1, z3⟩⟩⟩
/-- the heap behind a new thing -/
def spLThing (K : PySem.W.Frag) (C : Addr) : Sp := fun vs H Q _ => ∃ (m : Addr) (S0 : Addr → Prop) (ns : List Str) (rs : List Rw), vs = [.ref m] ∧ Dt K S0 H (.ref m) (modelD ns rs) ∧ Right ns rs ∧
  ∀ H' x S, Same H H' → H x = none → (∀ b, S b → H b = none) → ThAt K C S H' x ns rs → Q (.ref x) H'
theorem made {K : PySem.W.Frag} {C : Addr} {H : Hp} {da ra : Addr} {ns : List Str} {xs : List V} {rs : List Rw} {Q : VK} (hd : Cr.LT H da (ns.map V.str)) (hp : RowsP H ra xs rs) (R : Right ns rs) (q : ∀ H' x S, Same H H' → H x = none → (∀ b, S b → H b = none) → ThAt K C S H' x ns rs → Q (.ref x) H') :
    ∀ x dx, H x = none → H dx = none → dx ≠ x → spThingI K C (.ref x :: ([.ref da, .ref ra] ++ [])) (upd (upd H dx (.own x)) x (.ins C dx [])) (fun v H2 => v = .non ∧ Q (.ref x) H2) E0 := fun x dx nx nd ne => by
  have s0 : Same H (upd (upd H dx (.own x)) x (.ins C dx [])) := (same_upd nd).trans (same_upd (by rw [upd_ne ne.symm]; exact nx))
  refine ⟨x, dx, da, ra, ns, xs, rs, rfl, upd_same, hd.same s0, hp.same s0, R, fun H' S F nS th => ⟨rfl, q H' x S (fun b o e => F b o (ne_of_none e nx) (s0 _ _ e)) nx (fun b hb => s0.free (nS b hb).1) th⟩⟩
section
variable {P : Program} {w : World} {K : PySem.W.Frag} {mg : Str → Option Value} {base : Heap} {Ct f : Addr} {fd : FuncData}
theorem ok_thing (F : Fun K "_law_thing" "_law_thing" s_thing f fd) (M : C8.Mak P w K mg base 7 "Thing" Ct (spThingI K Ct) []) : FnOk P w K mg base CX0 9 f fd ["_law_model_here"] (spLThing K Ct) := by
  refine F.ok sc_thing (fun vs H Q E h => ?_) (fun cdv A outer s H vs Q E hr h => ?_)
  · obtain ⟨m, S0, ns, rs, rfl, _⟩ := h
    rfl
  · obtain ⟨m, S0, ns, rs, rfl, hM, R, q⟩ := h
    refine ⟨_, (pss_one (ps_ret (C8.pe_mk M hr (by decide) (by rfl) (pa_cons (pe_dget (hu_of hr) (pv 0) pe_str (fun _ _ => rfl)) (pa_cons (pe_dget (hu_of hr) (pv 0) pe_str (fun _ _ => rfl)) pa_nil))))), ?_⟩
    obtain ⟨l, t, ys, sm, sl, st, hm, hl, ht, hp⟩ := md_op hM
    exact ⟨_, rfl, m, _, rfl, md_deeds hm, _, rfl, m, _, rfl, md_rows hm, made (.inl hl) (rwo_rows ht hp) R q⟩
end
end K21


namespace K21
open PySem PySem.Spec PyProof.Rows L2 Xv Cr TL
abbrev s_made : Stmt := top 36
abbrev N_made : List Str := ["deeds", "rows", "made"]
theorem sc_made : FnScope N_made ["deeds", "rows"] (defScope s_made) := ⟨rfl, rfl, rfl, by decide +kernel, rfl, by decide +kernel, by decide +kernel⟩
theorem fsT_put (l m l0 m0 : Addr) : putF "_rows" (.ref m) (putF "_deeds" (.ref l) (fsT l0 m0)) = fsT l m := by
  rfl
theorem right_a : Right ["a"] [[(0, 0)]] where
  d0 := by decide
  d4 := by decide
  nd := by simp
  nm := fun x hx => by
    rw [List.mem_singleton.mp hx]
    exact ⟨by decide, by decide, fun c hc => by
      have : c ∈ [97] := hc
      rw [List.mem_singleton.mp this]
      decide⟩
  r0 := by decide
  r8 := by decide
  tb := ⟨rfl, fun r hr => by
    rw [List.mem_singleton.mp hr]
    exact ⟨rfl, fun e he => by
      rw [List.mem_singleton.mp he]
      decide⟩⟩
theorem made2 {K : PySem.W.Frag} {C : Addr} {H : Hp} {da ra x dx : Addr} {ns : List Str} {xs : List V} {rs : List Rw} {W : VK} (hd : Cr.LT H da (ns.map V.str)) (hp : RowsP H ra xs rs) (R : Right ns rs) (nx : H x = none) (nd : H dx = none) (ne : dx ≠ x) (q : ∀ H' S, Same H H' → (∀ b, S b → H b = none) → ThAt K C S H' x ns rs → W .non H') :
    spThingI K C [.ref x, .ref da, .ref ra] (upd (upd H dx (.own x)) x (.ins C dx [])) W E0 := by
  have s0 : Same H (upd (upd H dx (.own x)) x (.ins C dx [])) := (same_upd nd).trans (same_upd (by rw [upd_ne ne.symm]; exact nx))
  exact ⟨x, dx, da, ra, ns, xs, rs, rfl, upd_same, hd.same s0, hp.same s0, R, fun H' S F nS th => q H' S (fun b o e => F b o (ne_of_none e nx) (s0 _ _ e)) (fun b hb => s0.free (nS b hb).1) th⟩
/-- a new thing of these very lists, that lie in S -/
def spMade (K : PySem.W.Frag) (C : Addr) : Sp := fun vs H Q _ => ∃ (l m : Addr) (S : Addr → Prop) (ns : List Str) (rs : List Rw), vs = [.ref l, .ref m] ∧ Dt K S H (.ref l) (namesD ns) ∧ Dt K S H (.ref m) (rowsD rs) ∧ (∀ b, S b → ∃ o, H b = some o) ∧
  ∀ H' x, Same H H' → H x = none → ThAt K C S H' x ns rs → Q (.ref x) H'
section
variable {P : Program} {w : World} {K : PySem.W.Frag} {mg : Str → Option Value} {base : Heap} {Ct f : Addr} {fd : FuncData}
theorem ok_made (F : Fun K "made_thing" "made_thing" s_made f fd) (TC : ThC K Ct) (M : C8.Mak P w K mg base 7 "Thing" Ct (spThingI K Ct) []) : FnOk P w K mg base CX0 9 f fd ["deeds", "rows"] (spMade K Ct) := by
  refine F.ok sc_made (fun vs H Q E h => ?_) (fun cdv A outer s H vs Q E hr h => ?_)
  · obtain ⟨l, m, S, ns, rs, rfl, _⟩ := h
    rfl
  · obtain ⟨l, m, S, ns, rs, rfl, hl, hm, hS, q⟩ := h
    refine ⟨_, (pss_cons (ps_set (i := 2) sc_made.nd rfl (Or.inl rfl) (C8.pe_mk M hr (by decide) (by rfl) (pa_cons (pe_lst (pa_cons pe_str pa_nil)) (pa_cons (pe_lst (pa_cons (pe_lst (pa_cons (pe_tup (pa_cons pe_int (pa_cons pe_int pa_nil))) pa_nil)) pa_nil)) pa_nil))))
  (pss_cons (ps_fld (pv 2) (pv 0) rfl)
  (pss_cons (ps_fld (pv 2) (pv 1) rfl)
  (pss_one (ps_ret (pv 2)))))), ?_⟩
    refine ⟨by show 1 ≤ sizeLine; decide, fun L1 n1 => ⟨by show 2 ≤ sizeLine; decide, fun t nt => ⟨by show 1 ≤ sizeLine; decide, fun la n2 => ⟨by show 1 ≤ sizeLine; decide, fun L3 n3 => ?_⟩⟩⟩⟩
    have sA : Same H (upd H L1 (.lst [V.str "a"])) := same_upd n1
    have sB := sA.trans (same_upd (o := .tup [V.int 0, V.int 0]) nt)
    have sC := sB.trans (same_upd (o := .lst [V.ref t]) n2)
    have sD := sC.trans (same_upd (o := .lst [V.ref la]) n3)
    refine fun x dx0 nx nd0 ne => made2 (da := L1) (ra := L3) (ns := ["a"]) (xs := [V.ref la]) (rs := [[(0, 0)]]) (.inl ?_) ⟨.inl upd_same, .cons ⟨la, [V.ref t], rfl, .inl ?_, .cons ⟨t, rfl, ?_⟩ .nil⟩ .nil⟩ right_a nx nd0 ne ?_
    · rw [upd_ne (ne_of_none (by rw [upd_ne (ne_of_none (by rw [upd_ne (ne_of_none upd_same nt), upd_same] <;> rfl) n2), upd_ne (ne_of_none upd_same nt), upd_same] <;> rfl) n3), upd_ne (ne_of_none (by rw [upd_ne (ne_of_none upd_same nt), upd_same] <;> rfl) n2), upd_ne (ne_of_none upd_same nt), upd_same] <;> rfl
    · rw [upd_ne (ne_of_none upd_same n3), upd_same]
    · rw [upd_ne (ne_of_none (by rw [upd_ne (ne_of_none upd_same n2), upd_same] <;> rfl) n3), upd_ne (ne_of_none upd_same n2), upd_same] <;> rfl
    · intro H' S' s' nS' th
      refine ⟨rfl, ?_⟩
      have nxH : H x = none := sD.free nx
      have sH := sD.trans s'
      obtain ⟨dx, l0, m0, hx, _⟩ := th
      refine ⟨_, rfl, _, rfl, x, Ct, dx, _, rfl, hx, TC.cl, TC.nD, by show 2 < 1000; decide, ?_⟩
      refine ⟨_, rfl, _, rfl, x, Ct, dx, _, rfl, upd_same, TC.cl, TC.nR, by show 2 < 1000; decide, ?_⟩
      refine ⟨_, rfl, ?_⟩
      rw [fsT_put]
      have fr : Same H (upd (upd H' x (.ins Ct dx (putF "_deeds" (.ref l) (fsT l0 m0)))) x (.ins Ct dx (fsT l m))) := fun b o e => by
        rw [upd_ne (ne_of_none e nxH), upd_ne (ne_of_none e nxH)]
        exact sH _ _ e
      exact q _ x fr nxH ⟨dx, l, m, upd_same, hl.keep fr, hm.keep fr, fun z => by
        obtain ⟨o, e⟩ := hS x z
        rw [nxH] at e
        cases e⟩
end
end K21


namespace K21
open PySem PySem.Spec PyProof.Rows L2 Xv Cr TL
/-! ### what a thing's repr is: sizes of texts -/
def Asc (x : Str) : Prop := ∀ c ∈ x.cps.toList, c < 128
theorem asc_app {a b : Str} (ha : Asc a) (hb : Asc b) : Asc (a ++ b) := fun c hc => by
  rcases mem_cps_append.mp hc with z | z
  · exact ha c z
  · exact hb c z
theorem asc_join {sep : Str} {ts : List Str} (hs : Asc sep) (h : ∀ t ∈ ts, Asc t) : Asc (Str.join sep ts) := fun c hc => by
  rcases (mem_join sep c ts).mp hc with ⟨t, ht, z⟩ | ⟨_, z⟩
  · exact h t ht c z
  · exact hs c z
theorem asc_list {xs : List PyData} (h : ∀ t ∈ PyData.shownAll xs, Asc t) : Asc (PyData.list xs).shown := by
  rw [PyData.shown_list]
  exact asc_app (asc_app (by unfold Asc; decide) (asc_join (by unfold Asc; decide) h)) (by unfold Asc; decide)
theorem asc_tuple {xs : List PyData} (h : ∀ t ∈ PyData.shownAll xs, Asc t) : Asc (PyData.tuple xs).shown := by
  rw [PyData.shown_tuple]
  refine asc_app (asc_app (by unfold Asc; decide) (asc_join (by unfold Asc; decide) h)) ?_
  split <;> (unfold Asc; decide)
theorem asc_int (i : Int) : Asc (PyData.int i).shown := fun c hc => by
  have e : (PyData.int i).shown.cps.toList = (toString i).toList.map Char.toNat := signs_ofString _
  rw [e] at hc
  obtain ⟨ch, h1, rfl⟩ := List.mem_map.mp hc
  rcases int_sign i ch h1 with z | z
  · have := digit_range z
    omega
  · subst z
    decide
theorem rc_asc : ∀ q c : Nat, c < 128 → ∀ d ∈ Builtin.Str.reprChar q c, d < 128 := by
  intro q c hc d hd
  have h2 : ∀ c : Fin 128, ∀ d ∈ ([92, 120] ++ (List.replicate (2 - ((Nat.toDigits 16 c.val).map Char.toNat).length) 48 ++ (Nat.toDigits 16 c.val).map Char.toNat)), d < 128 := by decide +kernel
  unfold Builtin.Str.reprChar at hd
  dsimp only at hd
  split at hd
  · simp at hd; omega
  split at hd
  · simp at hd; omega
  split at hd
  · simp at hd; omega
  split at hd
  · simp at hd; omega
  split at hd
  · simp at hd; omega
  split at hd
  · exact h2 ⟨c, hc⟩ d hd
  · rename_i z
    omega
theorem fold_asc (q : Nat) (hq : q < 128) : ∀ (l : List Nat) (acc : Array Nat), (∀ c ∈ l, c < 128) → (∀ c ∈ acc.toList, c < 128) → ∀ c ∈ (l.foldl (fun out c => out ++ (Builtin.Str.reprChar q c).toArray) acc).toList, c < 128
  | [], _, _, h => h
  | c :: r, acc, h, ha => fold_asc q hq r _ (fun d hd => h d (List.mem_cons_of_mem _ hd)) fun d hd => by
    rw [Array.toList_append] at hd
    rcases List.mem_append.mp hd with z | z
    · exact ha d z
    · exact rc_asc q c (h c List.mem_cons_self) d (by simpa using z)
theorem asc_repr {x : Str} (h : Asc x) : Asc (reprText x) := by
  have hq : reprQuote x < 128 := by
    unfold reprQuote
    split <;> decide
  unfold reprText Asc
  intro c hc
  rw [Array.toList_push, ← Array.foldl_toList] at hc
  rcases List.mem_append.mp hc with z | z
  · exact fold_asc _ hq x.cps.toList _ h (by simpa using hq) c z
  · rw [List.mem_singleton.mp z]
    exact hq
theorem nm_asc {x : Str} (h : Nm x) : Asc x := fun c hc => by
  have := h.2.2 c hc
  omega
theorem asc_names : ∀ {ns : List Str}, (∀ x ∈ ns, Nm x) → Asc (namesD ns).shown := fun {ns} h => by
  refine asc_list fun t ht => ?_
  rw [PyData.shownAll_strs] at ht
  obtain ⟨x, hx, rfl⟩ := List.mem_map.mp ht
  exact asc_repr (nm_asc (h x hx))
theorem shownAll_map (f : α → PyData) : ∀ l : List α, PyData.shownAll (l.map f) = l.map fun x => (f x).shown
  | [] => by simp only [List.map_nil, PyData.shownAll]
  | x :: r => by simp only [List.map_cons, PyData.shownAll, shownAll_map f r]
theorem asc_rows (rs : List Rw) : Asc (rowsD rs).shown := by
  refine asc_list fun t ht => ?_
  rw [shownAll_map] at ht
  obtain ⟨r, _, rfl⟩ := List.mem_map.mp ht
  refine asc_list fun t ht => ?_
  rw [shownAll_map] at ht
  obtain ⟨e, _, rfl⟩ := List.mem_map.mp ht
  refine asc_tuple fun t ht => ?_
  simp only [PyData.shownAll, List.mem_cons, List.not_mem_nil, or_false] at ht
  rcases ht with rfl | rfl
  · exact asc_int _
  · exact asc_int _
/-- small data -/
structure Sm (d : PyData) (dp wt : Nat) : Prop where
  sh : d.showable = true
  lv : d.leavesShort 13 = true
  dp : d.depth ≤ dp
  wt : d.weight ≤ wt
theorem Sm.mono {d : PyData} {a b a' b' : Nat} (h : Sm d a b) (x : a ≤ a') (y : b ≤ b') : Sm d a' b' := ⟨h.sh, h.lv, Nat.le_trans h.dp x, Nat.le_trans h.wt y⟩
theorem Sm.fits {d : PyData} {a b : Nat} (h : Sm d a b) (y : b ≤ 1000000) : d.shown.length ≤ sizeLine := by
  refine PyData.shown_fits (B := 13) (by decide) (by decide) h.lv ?_
  have := h.wt
  have e : (2 : Nat) ^ 20 = 1048576 := by decide
  omega
theorem Sm.len {d : PyData} {a b : Nat} (h : Sm d a b) : d.shown.length ≤ 15 * b + 13 := by
  have := PyData.shown_le 13 (by decide) d h.lv
  have := h.wt
  omega
theorem sm_int {i : Int} (h : i.natAbs < 10 ^ 9) : Sm (.int i) 0 31 := by
  have e : i.natAbs.log2 < 30 := by
    rcases Nat.eq_zero_or_pos i.natAbs with z | z
    · rw [z]
      decide
    · rw [Nat.log2_lt (by omega)]
      omega
  refine ⟨?_, ?_, by simp only [PyData.depth]; omega, ?_⟩
  · simp only [PyData.showable, decide_eq_true_eq]
    omega
  · simp only [PyData.leavesShort, decide_eq_true_eq]
    exact PyData.shown_int_le (by omega)
  · simp only [PyData.weight]
    split <;> omega
theorem sm_str {x : Str} (h : Asc x) : Sm (.str x) 0 x.length := by
  refine ⟨by simp only [PyData.showable], ?_, by simp only [PyData.depth]; omega, by simp only [PyData.weight]; exact Nat.le_refl _⟩
  simp only [PyData.leavesShort, List.all_eq_true, decide_eq_true_eq]
  intro c hc
  have := h c hc
  have e : (16 : Nat) ^ 8 = 4294967296 := by decide
  omega
/-- the same of lists of data -/
structure SmA (ds : List PyData) (dp wt : Nat) : Prop where
  sh : PyData.showableAll ds = true
  lv : PyData.leavesShortAll 13 ds = true
  dp : PyData.depthAll ds ≤ dp
  wt : PyData.weightAll ds ≤ wt
theorem sma_nil {dp : Nat} : SmA [] dp 0 := ⟨by simp only [PyData.showableAll], by simp only [PyData.leavesShortAll], by simp only [PyData.depthAll]; omega, by simp only [PyData.weightAll]; omega⟩
theorem sma_cons {d : PyData} {ds : List PyData} {dp a b : Nat} (h : Sm d dp a) (k : SmA ds dp b) : SmA (d :: ds) dp (a + 1 + b) := by
  refine ⟨by simp only [PyData.showableAll, h.sh, k.sh, Bool.and_self], by simp only [PyData.leavesShortAll, h.lv, k.lv, Bool.and_self], ?_, ?_⟩
  · simp only [PyData.depthAll]
    have := h.dp
    have := k.dp
    omega
  · simp only [PyData.weightAll]
    have := h.wt
    have := k.wt
    omega
theorem sma_map {α : Type} {f : α → PyData} {dp a : Nat} : ∀ {l : List α}, (∀ x ∈ l, Sm (f x) dp a) → SmA (l.map f) dp (l.length * (a + 1))
  | [], _ => by
    rw [List.length_nil, Nat.zero_mul]
    exact sma_nil
  | x :: r, h => by
    have := sma_cons (h x List.mem_cons_self) (sma_map (l := r) fun y hy => h y (List.mem_cons_of_mem _ hy))
    rw [List.length_cons, Nat.succ_mul, Nat.add_comm]
    exact this
theorem sm_list {ds : List PyData} {dp b : Nat} (h : SmA ds dp b) : Sm (.list ds) (dp + 1) b :=
  ⟨by simp only [PyData.showable, h.sh], by simp only [PyData.leavesShort, h.lv], by simp only [PyData.depth]; have := h.dp; omega, by simp only [PyData.weight]; exact h.wt⟩
theorem sm_tuple {ds : List PyData} {dp b : Nat} (h : SmA ds dp b) : Sm (.tuple ds) (dp + 1) b :=
  ⟨by simp only [PyData.showable, h.sh], by simp only [PyData.leavesShort, h.lv], by simp only [PyData.depth]; have := h.dp; omega, by simp only [PyData.weight]; exact h.wt⟩
theorem sm_names {ns : List Str} (h4 : ns.length ≤ 4) (h : ∀ x ∈ ns, Nm x) : Sm (namesD ns) 1 36 := by
  have := sm_list (sma_map (f := PyData.str) (dp := 0) (a := 8) (l := ns) fun x hx => (sm_str (nm_asc (h x hx))).mono (Nat.le_refl _) (h x hx).2.1)
  exact this.mono (Nat.le_refl _) (by omega)
theorem sm_rows {n m : Nat} {rs : List Rw} (h8 : n ≤ 8) (h4 : m ≤ 4) (h : Tb n m rs) : Sm (rowsD rs) 3 2088 := by
  have one : ∀ r ∈ rs, Sm (rowD r) 2 260 := fun r hr => by
    obtain ⟨h1, h2⟩ := h.2 r hr
    have := sm_list (sma_map (f := fun e : Int × Int => PyData.tuple [.int e.1, .int e.2]) (dp := 1) (a := 64) (l := r) fun e he => by
      obtain ⟨z1, z2⟩ := h2 e he
      exact sm_tuple (sma_cons (sm_int (by omega)) (sma_cons (sm_int (by omega)) sma_nil)))
    exact this.mono (Nat.le_refl _) (by omega)
  have := sm_list (sma_map (f := rowD) (dp := 2) (a := 260) (l := rs) one)
  have hl := h.1
  exact this.mono (Nat.le_refl _) (by omega)
def thT (ns : List Str) (rs : List Rw) : Str := ((("Thing(" ++ (namesD ns).shown) ++ ", ") ++ (rowsD rs).shown) ++ ")"
def toldD (ns : List Str) (rs : List Rw) : PyData := .list [namesD ns, .int rs.length, rowsD rs, .int rs.length, .str (thT ns rs), rowsD rs]
theorem asc_th {ns : List Str} (rs : List Rw) (h : ∀ x ∈ ns, Nm x) : Asc (thT ns rs) :=
  asc_app (asc_app (asc_app (asc_app (by unfold Asc; decide) (asc_names h)) (by unfold Asc; decide)) (asc_rows rs)) (by unfold Asc; decide)
theorem len_th {ns : List Str} {rs : List Rw} (R : Right ns rs) : (thT ns rs).length ≤ 40000 := by
  have h1 := (sm_names R.d4 R.nm).len
  have h2 := (sm_rows R.r8 R.d4 R.tb).len
  unfold thT
  rw [strLen_append, strLen_append, strLen_append, strLen_append]
  have e1 : ("Thing(" : Str).length = 6 := by decide
  have e2 : (", " : Str).length = 2 := by decide
  have e3 : (")" : Str).length = 1 := by decide
  omega
theorem sm_told {ns : List Str} {rs : List Rw} (R : Right ns rs) : Sm (toldD ns rs) 4 50000 := by
  have h8 := R.r8
  have n1 := (sm_names R.d4 R.nm).mono (show 1 ≤ 3 by decide) (Nat.le_refl _)
  have r1 := (sm_rows R.r8 R.d4 R.tb).mono (show 3 ≤ 3 by decide) (Nat.le_refl _)
  have i1 := (sm_int (i := rs.length) (by omega)).mono (show 0 ≤ 3 by decide) (Nat.le_refl _)
  have t1 := (sm_str (asc_th rs R.nm)).mono (show 0 ≤ 3 by decide) (len_th R)
  exact (sm_list (sma_cons n1 (sma_cons i1 (sma_cons r1 (sma_cons i1 (sma_cons t1 (sma_cons r1 sma_nil))))))).mono (Nat.le_refl _) (by decide)
end K21

namespace PySem
theorem Sees.reprObj {prog : Program} {w : World} {A : Around} {E : Value → Shared → Prop} {s : Shared} {Q : Value → Shared → Prop} {a : Addr} {d : PyData} (r : Sees s.heap (.ref a) d) (hs : d.showable = true) (hsz : d.shown.length ≤ sizeLine) (hg : A.guards = some []) (hu : A.units + (d.depth + 1) < cLine)
    (hQ : ∀ h' u tk, (∀ b o, s.heap.get? b = some o → h'.get? b = some o) → Q (.str d.shown u) { s with heap := h', toks := tk }) : wpAny (model prog w) A (pyReprObj (.ref a)) Q E s := by
  obtain ⟨T, idr, S⟩ := r.showsBy (prog := prog) (w := w) hs hsz
  exact wpAny_pyReprObj_slot (by omega) (S.typeIs s fun _ _ e => e) S.slotRepr (S.call A E s _ hg (by omega) (fun _ _ e => e) fun h' u tk hk => ⟨_, _, rfl, hQ h' u tk hk⟩)
end PySem
namespace Cr
open PySem PySem.Spec PyProof.Rows L2 Xv Builtin
section
variable {X : Cx} {k j : Nat} {C g : Addr} {fd : FuncData} {sp : Sp} {ps : List Str}
/-- {x!r}, x data in a list, a tuple or a dict -/
def tFmtRD (K : PySem.W.Frag) (te : TE) : TE := fun σ H Q => te σ H fun x H1 => ∃ a d, x = .ref a ∧ Dr K H1 x d ∧ d.showable = true ∧ d.depth ≤ 60 ∧ d.shown.length ≤ sizeLine ∧ Q (.str d.shown) H1
theorem pe_fmtRD {e : Expr} {te : TE} {pos : Pos} (hg : X.A.guards = some []) (hu : X.A.units + 64 < cLine) (he : PE X e te) : PE X (.FormattedValue e 114 none pos) (tFmtRD X.K te) := by
  refine ⟨fun pins s σ H Q I h => ?_⟩
  refine wpAny_FormattedValue_repr (thn (he.run pins s σ H _ I h) fun v s1 hv => ?_)
  obtain ⟨x, H1, I1, r1, a, d, rfl, hd, hs, hdp, hz, q⟩ := hv
  obtain rfl : v = Value.ref a := r1
  exact (Dr.sees (u := Value.ref a) I1 hd rfl).reprObj hs hz hg (by omega) fun h' t tk k => wpAny_formatField_str ⟨.str d.shown, H1, I1.kept (t' := tk) k, ⟨_, rfl⟩, q⟩ ⟨.str d.shown, H1, I1.kept (t' := tk + 1) k, ⟨_, rfl⟩, q⟩ hz
/-- repr(o), by an own __repr__ -/
def rReprO (C : Addr) (sp : Sp) : List V → Hp → VK → Prop := fun xs H Q => ∃ a dx fs, xs = [.ref a] ∧ H a = some (.ins C dx fs) ∧ sp [.ref a] H (fun v H' => ∃ x, v = .str x ∧ Q (.str x) H') E0
theorem call_reprO (F : FnG X.prog X.w X.K X.mg X.base k g fd ["self"] sp) (hr : Room (k + 1) X.A) (hgd : X.A.guards = some []) (hb : Binds X.K fd ["self"] []) (hs : PySem.W.findIn X.K (.ref C) "__repr__" = some (some (.ref g))) (hf : PySem.W.isFn X.K (.ref g) = true) : CallR X (.builtin "repr") (rReprO C sp) := by
  intro pins s σ H xs us Q I r h
  obtain ⟨a, dx, fs, rfl, ea, h⟩ := h
  obtain ⟨u, rfl, ru⟩ := vals1 r
  obtain rfl : u = Value.ref a := ru
  obtain ⟨mA, O, _⟩ := ins_get I.hok ea
  obtain ⟨od, J, _⟩ := O.look
  refine Calls.call_function_entry PySem.F.kind_repr PySem.F.plain_repr PySem.F.entry_repr (PySem.F.args_repr1 _) ?_
  unfold Builtin.«repr»
  refine wpAny_bind (m := oneArg "repr" _) (wpAny_pure ?_)
  refine wpAny_bind (m := cRoomFor _ _) (wpAny_cRoomFor (by have := hr.un; show X.A.units + 1 < cLine; omega) ?_)
  refine wpAny_bind (wpAny_bind (J.type.here ((PySem.W.looks_findIn I.kIn hs).here ?_)))
  have bb := hb s [.ref a] I.kIn rfl
  refine wpAny_bind (m := callSpecialIfBound? (.ref a) (Str.ofString "__repr__")) (PySem.W.ifBound_K I.kIn J hs hf ?_)
  refine wpAny_call (codeAny_mono (F.run X.A.in1 X.stack s H ⟨[.ref a], []⟩ [.ref a] [.ref a] _ hr.in1 hgd I.env0.in1 bb (.cons rfl .nil) h) fun z s' hq => ?_)
  cases z with
  | error e => exact False.elim hq
  | ok fl =>
    cases fl with
    | ret u =>
      obtain ⟨v, H', I3, rv, x, rfl, q3⟩ := I.after hq
      obtain ⟨t, rfl⟩ := rv
      exact wpAny_bind (wpAny_isInstance (T := "str") (b := true) rfl isSubtype_str_str (wpAny_pure ⟨_, rfl, .str x, H', I3, ⟨t, rfl⟩, q3⟩))
    | next => exact False.elim hq
    | brk => exact False.elim hq
    | cont => exact False.elim hq
end
/-! ### o(..), by an own __call__ -/
section
variable {prog : Program} {w : World} {A : Around} {K : PySem.W.Frag} {C a g dx : Addr} {s : Shared} {R : Result → Shared → Prop} {us : List Value} {kw : List (Str × Value)}
theorem keeper_inst {M : Model} {h : Heap} (e : h.get? a = some (PySem.W.instObj C dx)) : PySem.W.Looks M h (keeperOf (.ref a)) Keeper.caller :=
  (PySem.W.Looks.ld (part := none) e).andThen .now
theorem inst_call (X : K.In s.heap) (e : s.heap.get? a = some (PySem.W.instObj C dx)) (hs : PySem.W.findIn K (.ref C) "__call__" = some (some (.ref g))) (hf : PySem.W.isFn K (.ref g) = true) (hfn : PySem.W.fnIn K g = true)
    (h : codeAny (model prog w) A (.call (.ref g) ⟨.ref a :: us, kw⟩) R s) : codeAny (model prog w) A (.call (.ref a) ⟨us, kw⟩) R s := by
  refine codeAny_of_tree ?_
  show wpAny _ _ (callAny (.ref a) _) _ _ _
  refine PySem.W.nd_load e ?_
  show wpAny _ _ (callAny.viaDunder (.ref a) ⟨us, kw⟩) _ _ _
  unfold callAny.viaDunder
  have t1 : PySem.W.Looks (model prog w) s.heap (typeOf (.ref a)) (.ref C) := (PySem.W.Looks.ld (part := some .none) e).andThen .now
  refine wpAny_bind (wpAny_bind (t1.here ((PySem.W.looks_findIn X hs).here ?_)))
  refine wpAny_bind ((PySem.W.bind_fn X _ (beq_iff_eq.mp hf)).here ?_)
  unfold PySem.W.fnIn at hfn
  split at hfn
  · rename_i q
    have t2 : PySem.W.Looks (model prog w) s.heap (callAny.plainCallee (.ref g)) true := (PySem.W.Looks.ld (part := none) (X _ _ q)).andThen .now
    refine wpAny_bind (t2.here ?_)
    exact wpAny_pure ⟨rfl, h⟩
  · cases hfn
theorem callWith_inst {M : Model} {A : Around} {E : Value → Shared → Prop} {s : Shared} {pos : Pos} {f : Value} {first : List Value} {Q : Value → Shared → Prop} {P : Heap → Prop} {args : List (Bool × Sem Value)} {kws : List (Option Str × Sem Value)} (pl : (args.any (·.1) || kws.any (·.1.isNone)) = false)
    (hk : ∀ h, P h → PySem.W.Looks M h (keeperOf f) Keeper.caller) (h : wpAny M A (evalArgs f true args kws) (fun z s1 => P s1.heap ∧ wpAny M A (call f (first ++ z.pos) z.kw) Q E s1) E s) : wpAny M A (callWith pos f first args kws) Q E s := by
  unfold callWith
  refine wpAny_bind (wpAny_holding (wpAny_mono h (fun z s1 h1 => wpAny_bind (wpAny_standAt ?_)) fun _ _ e => e))
  simp only [pl]
  refine wpAny_bind ((hk _ h1.1).here ?_)
  dsimp only
  exact wpAny_bind (wpAny_operate' (wpAny_mono h1.2 (fun r s2 hr => wpAny_bind (wpAny_holding (wpAny_point (wpAny_pure hr)))) fun _ _ e => e))
end
section
variable {X : Cx} {k j : Nat} {C g : Addr} {fd : FuncData} {sp : Sp} {ps ks : List Str} {te : TE} {t tk : TA} {x m : Str} {p pos apos : Pos} {e o : Expr} {es : List Expr} {kws : List Keyword} {gl : List Value → List Value → List Value} {gV : List V → List V → List V}
def tObj (C : Addr) (sp : Sp) (te : TE) (t : TA) : TE := fun σ H Q => te σ H fun x H1 => t σ H1 fun vs H2 => ∃ a dx fs, x = .ref a ∧ H2 a = some (.ins C dx fs) ∧ sp (.ref a :: vs) H2 Q E0
/-- what the class of an object that is called must have -/
structure CallsO (K : PySem.W.Frag) (C g : Addr) : Prop where
  at_ : PySem.W.findIn K (.ref C) "__call__" = some (some (.ref g))
  fn : PySem.W.isFn K (.ref g) = true
  fi : PySem.W.fnIn K g = true
theorem obj_get {pins : List (Addr × Obj)} {σ : L2.St} {H : Hp} {s : Shared} {a dx : Addr} {fs : List (Str × V)} (I : Inv X pins σ H s) (e : H a = some (.ins C dx fs)) : s.heap.get? a = some (PySem.W.instObj C dx) :=
  let ⟨_, _, _, z, _⟩ := (show ObjOk X.prog X.w H s.heap a (.ins C dx fs) from I.hok a _ e)
  z
theorem pe_obj (he : PE X (.Name x p) te) (c : CallsO X.K C g) (F : FnOk X.prog X.w X.K X.mg X.base CX0 k g fd ps sp) (hr : Room k X.A) (hb : Binds X.K fd ps []) (ha : PA X (e :: es) t)
    (hst : starEach (e :: es) X.env = (false, eval e X.env) :: starEach es X.env := by rfl) (hpl : (backTo pos (starEach es X.env)).any (·.1) = false := by rfl) :
    PE X (.Call (.Name x p) (e :: es) [] pos) (tObj C sp te t) := by
  refine ⟨fun pins s σ H Q I h => ?_⟩
  refine wpAny_Call_Name_kw (thn (he.run pins s σ H _ I h) fun u s1 ⟨x, H1, I1, rx, q⟩ => ?_)
  have h0 : wpAny (model X.prog X.w) X.A (spliced (backTo pos (starEach (e :: es) X.env))) (fun us s2 => (∃ a dx, u = Value.ref a ∧ s2.heap.get? a = some (PySem.W.instObj C dx)) ∧ wpAny (model X.prog X.w) X.A (call u ([] ++ us)) (EP X pins σ Q) X.xe s2) X.xe s1 := by
    refine thn (ha.run pos pins s1 σ H1 _ I1 q) fun us s2 ⟨vs, H2, I2, r, a, dx, fs, ex, ea, q2⟩ => ?_
    subst ex
    obtain rfl : u = Value.ref a := rx
    have ob := obj_get I2 ea
    refine ⟨⟨a, dx, rfl, ob⟩, ?_⟩
    have hl : (Value.ref a :: us ++ []).length = ps.length := by
      rw [List.append_nil, ← F.len _ _ _ _ q2]
      show us.length + 1 = vs.length + 1
      rw [r.length]
    have bb := hb s2 (Value.ref a :: us) I2.kIn hl
    rw [List.append_nil] at bb
    refine wpAny_call (inst_call I2.kIn ob c.at_ c.fn c.fi (codeAny_mono (F.run X.A X.stack s2 H2 ⟨Value.ref a :: us, []⟩ (Value.ref a :: us) (V.ref a :: vs) Q E0 hr I2.env0 bb (.cons rfl r) q2) fun z s' hq => ?_))
    cases z with
    | error e => exact False.elim hq
    | ok fl =>
      cases fl with
      | ret u => exact I2.after hq
      | next => exact False.elim hq
      | brk => exact False.elim hq
      | cont => exact False.elim hq
  show wpAny _ _ (callWith pos u [] (backTo pos (starEach (e :: es) X.env)) []) _ _ _
  rw [hst] at h0 ⊢
  refine callWith_inst (P := fun h => ∃ a dx, u = Value.ref a ∧ h.get? a = some (PySem.W.instObj C dx)) ?_ (fun h ⟨a, dx, e1, e2⟩ => ?_) (Calls.evalArgs_plain h0)
  · show ((false || (backTo pos (starEach es X.env)).any (·.1)) || false) = false
    rw [hpl]
    rfl
  · subst e1
    exact keeper_inst e2
/-- o(k = v, ..) -/
def tObjK (C : Addr) (n : Nat) (sp : Sp) (gV : List V → List V → List V) (te : TE) (tk : TA) : TE := fun σ H Q => te σ H fun x H1 => tk σ H1 fun zs H2 => ∃ a dx fs, x = .ref a ∧ H2 a = some (.ins C dx fs) ∧ zs.length = n ∧ sp (gV [.ref a] zs) H2 Q E0
theorem pe_objK (he : PE X (.Name x p) te) (c : CallsO X.K C g) (F : FnOk X.prog X.w X.K X.mg X.base CX0 k g fd ps sp) (hr : Room k X.A) (hb : KBn X.K fd ps 1 ks gl gV) (hkw : PK X kws tk)
    (hall : (backToKw pos (keywordEach kws X.env)).all (·.1.isSome) = true := by rfl) (hks : (backToKw pos (keywordEach kws X.env)).filterMap (·.1) = ks := by rfl)
    (hpl : ((backTo pos (starEach [] X.env)).any (·.1) || (backToKw pos (keywordEach kws X.env)).any (·.1.isNone)) = false := by rfl) :
    PE X (.Call (.Name x p) [] kws pos) (tObjK C ks.length sp gV te tk) := by
  refine ⟨fun pins s σ H Q I h => ?_⟩
  refine wpAny_Call_Name_kw (thn (he.run pins s σ H _ I h) fun u s1 ⟨x, H1, I1, rx, q⟩ => ?_)
  refine callWith_inst (P := fun h => ∃ a dx, u = Value.ref a ∧ h.get? a = some (PySem.W.instObj C dx)) hpl (fun h ⟨a, dx, e1, e2⟩ => ?_) (evalArgs_kw2_nil hall ?_)
  · subst e1
    exact keeper_inst e2
  refine thn (hkw.run pos pins s1 σ H1 _ I1 q) fun ws s2 ⟨zs, H2, I2, rz, a, dx, fs, ex, ea, l2, q2⟩ => ?_
  subst ex
  obtain rfl : u = Value.ref a := rx
  have ob := obj_get I2 ea
  refine ⟨⟨a, dx, rfl, ob⟩, ?_⟩
  rw [hks]
  have e2 : ws.length = ks.length := rz.length.symm.trans l2
  refine wpAny_call (inst_call I2.kIn ob c.at_ c.fn c.fi (codeAny_mono (F.run X.A X.stack s2 H2 ⟨[Value.ref a], ks.zip ws⟩ (gl [Value.ref a] ws) (gV [V.ref a] zs) Q E0 hr I2.env0 (hb.to s2 [Value.ref a] ws I2.kIn rfl e2) (hb.rel (.cons rfl .nil) rz) q2) fun z s' hq => ?_))
  cases z with
  | error e => exact False.elim hq
  | ok fl =>
    cases fl with
    | ret u => exact I2.after hq
    | next => exact False.elim hq
    | brk => exact False.elim hq
    | cont => exact False.elim hq
/-- o.m(k = v, ..) -/
def tMethK (C : Addr) (m : Str) (n : Nat) (sp : Sp) (gV : List V → List V → List V) (ta : TE) (tk : TA) : TE := fun σ H Q => ta σ H fun x H1 => ∃ a dx fs, x = .ref a ∧ H1 a = some (.ins C dx fs) ∧ fs.lookup m = none ∧ tk σ H1 fun zs H2 => zs.length = n ∧ sp (gV [.ref a] zs) H2 Q E0
theorem pe_methK {pl : Sem Bool} (he : PE X o te) (c : Cls X.K C) (hm : Meth X.K C m g) (F : FnOk X.prog X.w X.K X.mg X.base CX0 k g fd ps sp) (hr : Room k X.A) (hb : KBn X.K fd ps 1 ks gl gV) (hkw : PK X kws tk)
    (hall : (backToKw pos (keywordEach kws X.env)).all (·.1.isSome) = true := by rfl) (hks : (backToKw pos (keywordEach kws X.env)).filterMap (·.1) = ks := by rfl)
    (hpl : ((backTo pos (starEach [] X.env)).any (·.1) || (backToKw pos (keywordEach kws X.env)).any (·.1.isNone)) = false := by rfl)
    (ht : eval (.Call (.Attribute o m apos) [] kws pos) X.env = (do
      let ov ← eval o X.env
      standAt apos.atName
      let (fn, fst) ← holding [ov] (getMethod ov m pl)
      callWith pos fn fst (backTo pos (starEach [] X.env)) (backToKw pos (keywordEach kws X.env))) := by rfl) :
    PE X (.Call (.Attribute o m apos) [] kws pos) (tMethK C m ks.length sp gV te tk) := by
  refine ⟨fun pins s σ H Q I h => ?_⟩
  refine PySem.W.methodCall_KW (pl := pl) (thn (he.run pins s σ H _ I h) fun u s1 ⟨x, H1, I1, rx, a, dx, fs, ex, ea, l, q⟩ => ?_) ht
  subst ex
  obtain rfl : u = Value.ref a := rx
  refine getmeth_ok I1 ea c hm l ?_
  refine PySem.W.callWith_KW0 (first := [.ref a]) (h₀ := X.base) I.ok.mod.kin hm.kp hall (thn (hkw.run pos pins s1 σ H1 _ I1 q) fun ws s2 ⟨zs, H2, I2, rz, l2, q2⟩ => ⟨I2.kIn, ?_⟩) hpl
  rw [hks]
  exact run_fnN (us := [.ref a]) (vs := [.ref a]) F hr hb pass0 I2 (.cons rfl .nil) rz rfl l2 q2
end
/-! ### == and != by an own __eq__ -/
section
variable {prog : Program} {w : World} {A : Around} {K : PySem.W.Frag} {C a g : Addr} {s : Shared} {ox : Obj} {od : Option Obj} {b tb : Value} {E : Value → Shared → Prop}
theorem rich_own {op : CmpOp} {Q : Value → Shared → Prop} (X : K.In s.heap) (J : PySem.W.InstAt s.heap a ox C od) (ht : PySem.W.Looks (model prog w) s.heap (typeOf b) tb) (hn : PySem.W.notFirst K C tb = true) (hu : A.units < cLine)
    (one : wpAny (model prog w) A (tryCompare (.ref a) (cmpInfo op).2.1 b) (fun r s' => ∃ v, r = some v ∧ Q v s') E s) : wpAny (model prog w) A (richCompare op (.ref a) b) Q E s := by
  have go : ∀ {k : Option Value → Sem Value}, (∀ v, k (some v) = pure v) → wpAny (model prog w) A (tryCompare (.ref a) (cmpInfo op).2.1 b >>= k) Q E s := fun {k} hk =>
    wpAny_bind (wpAny_mono one (fun r s' z => by
      obtain ⟨v, rfl, hq⟩ := z
      rw [hk v]
      exact wpAny_pure hq) fun _ _ e => e)
  unfold richCompare
  simp only [oneThing_ref]
  refine wpAny_holding (wpAny_bind (wpAny_cRoomFor hu (wpAny_bind (J.type.here (wpAny_bind (ht.here ?_))))))
  by_cases q : (Value.ref C != tb) = true
  · rw [if_pos q]
    have e : PySem.W.subIn K tb (.ref C) = some false := by
      rcases Bool.or_eq_true_iff.mp hn with z | z
      · have := beq_iff_eq.mp z
        subst this
        simp at q
      · exact beq_iff_eq.mp z
    refine wpAny_bind ((PySem.W.looks_subIn X e).here ?_)
    simp only [Bool.false_eq_true, if_false]
    exact go fun v => rfl
  · rw [if_neg q]
    refine wpAny_bind (wpAny_pure ?_)
    simp only [Bool.false_eq_true, if_false]
    exact go fun v => rfl
theorem try_eq {Q : Value → Shared → Prop} (X : K.In s.heap) (J : PySem.W.InstAt s.heap a ox C od) (hs : PySem.W.findIn K (.ref C) "__eq__" = some (some (.ref g))) (hf : PySem.W.isFn K (.ref g) = true)
    (h : wpAny (model prog w) A (call (.ref g) [.ref a, b]) (fun v s' => ∃ r, v = .bool r ∧ Q (.bool r) s') E s) : wpAny (model prog w) A (tryCompare (.ref a) "__eq__" b) (fun r s' => ∃ v, r = some v ∧ Q v s') E s := by
  unfold tryCompare
  refine wpAny_bind (PySem.W.ifBound_K X J hs hf (wpAny_mono h (fun v s' hv => ?_) fun _ _ e => e))
  obtain ⟨r, rfl, hq⟩ := hv
  exact wpAny_pure ⟨_, rfl, hq⟩
theorem try_ne {Q : Value → Shared → Prop} (X : K.In s.heap) (J : PySem.W.InstAt s.heap a ox C od) (hs : PySem.W.findIn K (.ref C) "__eq__" = some (some (.ref g))) (hf : PySem.W.isFn K (.ref g) = true)
    (hne : PySem.W.findIn K (.ref C) "__ne__" = some (some (.builtin "object.__ne__"))) (hob : PySem.W.mroIn K C (.type "object") = some true) (hu : A.units + 1 < cLine)
    (h : wpAny (model prog w) A.in1 (call (.ref g) [.ref a, b]) (fun v s' => ∃ r, v = .bool r ∧ Q (.bool (!r)) s') E s) : wpAny (model prog w) A (tryCompare (.ref a) "__ne__" b) (fun r s' => ∃ v, r = some v ∧ Q v s') E s := by
  have t2 : PySem.W.Looks (model prog w) s.heap (isInstance (.ref a) (.type "object")) true := J.type.andThen (PySem.W.looks_mroIn X hob)
  have main : wpAny (model prog w) A (call (.builtin "object.__ne__") [.ref a, b]) (fun v s' => ∃ r, v = .bool r ∧ Q (.bool r) s') E s := by
    refine wpAny_call (codeAny_call_builtin PySem.F.cmp_object.ne.plain PySem.F.cmpEntry_ne (@PySem.W.check_slot (model prog w) _ _ _ "object.__ne__" "object" "__ne__" (.ref a) [b] [] _ PySem.F.cmpKind_ne PySem.F.cmpSplit_ne t2 (PySem.F.cmpArgs_ne _ _) ?_))
    unfold Builtin.«object.__ne__»
    refine wpAny_bind (m := slotArgs _ _ _) (wpAny_pure ?_)
    refine wpAny_bind (wpAny_cRoomFor (by exact hu) ?_)
    refine wpAny_bind (m := callSpecialIfBound? _ _ _) (PySem.W.ifBound_K X J hs hf (wpAny_mono h (fun v s' hv => ?_) fun _ _ e => e))
    obtain ⟨r, rfl, hq⟩ := hv
    exact wpAny_bind (wpAny_truthy_bool (wpAny_pure ⟨_, rfl, hq⟩))
  unfold tryCompare
  refine wpAny_bind ?_
  simp only [callSpecialIfBound?, bindSpecialIfBound?]
  refine wpAny_holding (wpAny_bind (wpAny_bind (wpAny_bind (J.type.here ((PySem.W.looks_findIn X hne).here ?_)))))
  have fin : wpAny (model prog w) A (call (.builtin "object.__ne__") ([.ref a] ++ [b]) >>= fun v => pure (some v)) (fun r s' => wpAny (model prog w) A (match r with
      | some .notImplemented | none => pure none
      | some v => pure (some v)) (fun r s' => ∃ v, r = some v ∧ Q v s') E s') E s := wpAny_bind (wpAny_mono main (fun v s' hv => by
    obtain ⟨r, rfl, hq⟩ := hv
    exact wpAny_pure (wpAny_pure ⟨_, rfl, hq⟩)) fun _ _ e => e)
  simp only [PySem.F.cmp_object.ne.bind]
  refine wpAny_bind (wpAny_askSetting (wpAny_ite ?_))
  split
  · exact wpAny_bind (wpAny_pure (wpAny_pure fin))
  · exact wpAny_tryCatch (wpAny_bind (wpAny_pure (wpAny_pure fin)))
end
section
variable {X : Cx} {k j : Nat} {C g : Addr} {fd : FuncData} {sp : Sp} {ps : List Str}
def rEqO (K : PySem.W.Frag) (C : Addr) (sp : Sp) (neg : Bool) : R2 := fun x y H Q => ∃ a dx fs t, x = .ref a ∧ H a = some (.ins C dx fs) ∧ TyX K H y t ∧ PySem.W.notFirst K C t = true ∧ sp [.ref a, y] H (fun v H' => ∃ b, v = .bl b ∧ Q (.bl (if neg then !b else b)) H') E0
theorem op_eqO (F : FnOk X.prog X.w X.K X.mg X.base CX0 k g fd ps sp) (hr : Room k X.A) (hb : Binds X.K fd ps []) (hs : PySem.W.findIn X.K (.ref C) "__eq__" = some (some (.ref g))) (hf : PySem.W.isFn X.K (.ref g) = true) : OpR X (compareOp .Eq) (rEqO X.K C sp false) := by
  intro pins s σ H x y v u Q I rx ry h
  obtain ⟨a, dx, fs, t, rfl, ea, ty, nf, h⟩ := h
  obtain rfl : v = Value.ref a := rx
  obtain ⟨mA, O, _⟩ := ins_get I.hok ea
  obtain ⟨od, J, _⟩ := O.look
  obtain ⟨P, Z, p, _⟩ := kit_of I ry ty
  unfold compareOp
  refine rich_own (op := .Eq) I.kIn J (Z.ty _ _ I.kIn p) nf hr.units0 (try_eq I.kIn J hs hf (run_at (vs := [.ref a, y]) F hr hb I (.cons rfl (.cons ry .nil)) h fun v u H' s' I' rv q => ?_))
  obtain ⟨b, rfl, q⟩ := q
  obtain rfl : u = Value.bool b := rv
  exact ⟨b, rfl, .bl b, H', I', rfl, q⟩
theorem op_neO (F : FnOk X.prog X.w X.K X.mg X.base CX0 k g fd ps sp) (hr : Room (k + 1) X.A) (hb : Binds X.K fd ps []) (hs : PySem.W.findIn X.K (.ref C) "__eq__" = some (some (.ref g))) (hf : PySem.W.isFn X.K (.ref g) = true)
    (hne : PySem.W.findIn X.K (.ref C) "__ne__" = some (some (.builtin "object.__ne__"))) (hob : PySem.W.mroIn X.K C (.type "object") = some true) : OpR X (compareOp .NotEq) (rEqO X.K C sp true) := by
  intro pins s σ H x y v u Q I rx ry h
  obtain ⟨a, dx, fs, t, rfl, ea, ty, nf, h⟩ := h
  obtain rfl : v = Value.ref a := rx
  obtain ⟨mA, O, _⟩ := ins_get I.hok ea
  obtain ⟨od, J, _⟩ := O.look
  obtain ⟨P, Z, p, _⟩ := kit_of I ry ty
  unfold compareOp
  have hu := hr.un
  refine rich_own (op := .NotEq) I.kIn J (Z.ty _ _ I.kIn p) nf hr.units0 (try_ne I.kIn J hs hf hne hob (by omega) (run_in1 (vs := [.ref a, y]) F hr hb I (.cons rfl (.cons ry .nil)) h fun v u H' s' I' rv q => ?_))
  obtain ⟨b, rfl, q⟩ := q
  obtain rfl : u = Value.bool b := rv
  exact ⟨b, rfl, .bl (!b), H', I', rfl, q⟩
end
end Cr

namespace Cr
open PySem PySem.Spec PyProof.Rows L2 Xv
section
variable {K : PySem.W.Frag}
theorem tr_all {S : Addr → Prop} {H : Hp} : ∀ {ys : List V} {ds : List PyData}, Paired (fun y d => Dt K S H y d) ys ds → TrAll (Vw S H) ys ds
  | _, _, .nil => .nil
  | _, _, .cons h t => .cons h (tr_all t)
theorem dt_list {S : Addr → Prop} {H : Hp} {D : Addr} {ys : List V} {ds : List PyData} (hD : H D = some (.lst ys)) (h : Paired (fun y d => Dt K S H y d) ys ds) : Dt K (fun b => S b ∨ b = D) H (.ref D) (.list ds) :=
  .lst (by rw [vw_at (.inr rfl)]; exact hD) (tr_all (K := K) (pr_map h fun _ _ _ d => Dt.mono d fun b hb => .inl hb))
theorem dt_tup {S : Addr → Prop} {H : Hp} {D : Addr} {ys : List V} {ds : List PyData} (hD : H D = some (.tup ys)) (h : Paired (fun y d => Dt K S H y d) ys ds) : Dt K (fun b => S b ∨ b = D) H (.ref D) (.tuple ds) :=
  .tup (by rw [vw_at (.inr rfl)]; exact hD) (tr_all (K := K) (pr_map h fun _ _ _ d => Dt.mono d fun b hb => .inl hb))
/-- a list of data, written item by item: the i-th item is ds[i]; M: what no item may have -/
theorem lc_dat (M : Addr → Prop) {J : It} {n j : Nat} {G : Hp → Prop} {Y : Nat → Hp → V → Hp → Prop} (W : Walk J n G Y) {σ : L2.St} {H1 : Hp} {D : Addr} {te : TE} {ds : List PyData} {Qd : Hp → Prop} (hn : ds.length = n) (hz : n ≤ 1000) (hD : H1 D = none) (hG : ∀ H', Same H1 H' → G H')
    (hY : ∀ i H x H', Y i H x H' → H' = H)
    (step : ∀ i x d H' (Q : VK), i < n → ds[i]? = some d → Same H1 H' → (∃ ys, H' D = some (.lst ys)) → Y i H' x H' → (∀ H4 y S, Same H' H4 → (∀ b, S b → b ≠ D ∧ ¬ M b) → Dt K S H4 y d → Q y H4) → te ((wipe σ [j]).set j (some x)) H' Q)
    (hd : ∀ H2 S, Same H1 H2 → (∀ b, S b → b = D ∨ ¬ M b) → Dt K S H2 (.ref D) (.list ds) → Qd H2) :
    ∃ W : Nat → Nat → Hp → Prop, (∃ m, W 0 m (upd H1 D (.lst []))) ∧ ∀ i m H, W i m H →
      (J.stop i H ∧ Qd H) ∨ (J.go i H ∧ ∃ Nx : Hp → Prop, (∀ H', Nx H' → ∃ m', m' < m ∧ W (i + 1) m' H') ∧ ∀ x H', J.yld i H x H' → gName j x (wipe σ [j]) H' fun σ2 H2 => wipe σ2 [j] = wipe σ [j] ∧ tYes σ2 H2 fun b H3 =>
        if b = true then te σ2 H3 fun y H4 => ∃ acc, H4 D = some (.lst acc) ∧ acc.length < sizeLine ∧ Nx (upd H4 D (.lst (acc ++ [y]))) else Nx H3) := by
  refine lc_it W (fun i H' => ∃ (ys : List V) (S : Addr → Prop), ys.length = i ∧ H' D = some (.lst ys) ∧ Same H1 H' ∧ (∀ b, S b → b ≠ D ∧ ¬ M b) ∧ Paired (fun y d => Dt K S H' y d) ys (ds.take i))
    ⟨[], fun _ => False, rfl, upd_same, same_upd hD, fun _ z => z.elim, .nil⟩ (fun i H' _ ⟨_, _, _, _, s, _⟩ => hG _ s) (fun i x H' H'' hi e y => ?_) (fun H' e => ?_)
  · obtain rfl := hY _ _ _ _ y
    obtain ⟨ys, S, e1, e2, e3, e4, e5⟩ := e
    have hdi : ds[i]? = some (ds[i]'(by omega)) := List.getElem?_eq_getElem (by omega)
    refine ⟨wipe_back, ?_⟩
    unfold tYes
    dsimp only
    rw [if_pos rfl]
    refine step i x _ _ _ hi hdi e3 ⟨_, e2⟩ y fun H4 y S2 s4 n2 d4 => ?_
    have fr : Fr (fun b => b = D) H'' (upd H4 D (.lst (ys ++ [y]))) := Fr.set (Fr.of s4) rfl
    have fr2 : Fr (fun b => b = D) H4 (upd H4 D (.lst (ys ++ [y]))) := Fr.set (Fr.refl _ _) rfl
    refine ⟨ys, s4 _ _ e2, by rw [sizeLine_eq]; omega, ys ++ [y], fun b => S b ∨ S2 b, by rw [List.length_append, e1]; rfl, upd_same, fun b o q => ?_, fun b z => z.elim (e4 b) (n2 b), ?_⟩
    · rw [upd_ne (ne_of_none q hD)]
      exact s4 _ _ (e3 _ _ q)
    · rw [Xv.take_step hdi]
      refine pr_app (pr_map e5 fun l r _ d => Dt.mono (d.fr fr fun b hb => (e4 b hb).1) fun b hb => .inl hb) (.cons ?_ .nil)
      exact Dt.mono (d4.fr fr2 fun b hb => (n2 b hb).1) fun b hb => .inr hb
  · obtain ⟨ys, S, e1, e2, e3, e4, e5⟩ := e
    rw [← hn, List.take_length] at e5
    exact hd H' _ e3 (fun b hb => hb.elim (fun z => .inr (e4 b z).2) .inl) (dt_list e2 e5)
end
end Cr


namespace K21
open PySem PySem.Spec PyProof.Rows L2 Xv Cr TL
abbrev s_thing_repr : Stmt := inClass (top 35) 15
abbrev N_thing_repr : List Str := ["self"]
theorem sc_thing_repr : FnScope N_thing_repr ["self"] (defScope s_thing_repr) := ⟨rfl, rfl, rfl, by decide +kernel, rfl, by decide +kernel, by decide +kernel⟩
theorem empty_app (x : Str) : Str.empty ++ x = x := ext_tl (by rw [tl_append]; rfl)
section
variable {K : PySem.W.Frag} {S : Addr → Prop} {H : Hp}
theorem dr_strs : ∀ (ns : List Str), DrAll K H (ns.map V.str) (ns.map PyData.str)
  | [] => .nil
  | x :: r => .cons (.str x) (dr_strs r)
theorem dr_pairs {es : List V} {r : Rw} (h : Paired (fun x (e : Int × Int) => ∃ t, x = V.ref t ∧ S t ∧ H t = some (.tup [.int e.1, .int e.2])) es r) : DrAll K H es (r.map fun e => .tuple [.int e.1, .int e.2]) := by
  induction h with
  | nil => exact .nil
  | cons q _ ih =>
    obtain ⟨t, rfl, _, ht⟩ := q
    exact .cons (.tup (.inl (.inl ht)) (.cons (.int _) (.cons (.int _) .nil))) ih
theorem dr_rows {ys : List V} {rs : List Rw} (h : Paired (RwO S H) ys rs) : DrAll K H ys (rs.map rowD) := by
  induction h with
  | nil => exact .nil
  | cons q _ ih =>
    obtain ⟨a, es, rfl, _, ha, hp⟩ := q
    exact .cons (.lst (SqL.of ha) (dr_pairs hp)) ih
end
def spTRepr (K : PySem.W.Frag) (C : Addr) : Sp := fun vs H Q _ => ∃ x S ns rs, vs = [.ref x] ∧ ThAt K C S H x ns rs ∧ Right ns rs ∧ Q (.str (thT ns rs)) H
def spDue (K : PySem.W.Frag) : Sp := fun vs H Q _ => ∃ (m : Addr) (S : Addr → Prop) (ns : List Str) (rs : List Rw), vs = [.ref m] ∧ Dt K S H (.ref m) (modelD ns rs) ∧ Right ns rs ∧ ∀ H', Same H H' → Q (.str (toldD ns rs).shown) H'
section
variable {P : Program} {w : World} {K : PySem.W.Frag} {mg : Str → Option Value} {base : Heap} {Ct f : Addr} {fd : FuncData}
theorem ok_thing_repr (F : Fun K "__repr__" "Thing.__repr__" s_thing_repr f fd) (TC : ThC K Ct) : FnG P w K mg base 1 f fd ["self"] (spTRepr K Ct) := by
  refine Xv.Fun.okG F sc_thing_repr (fun vs H Q E h => ?_) (fun cdv A outer s H vs Q hr hgd h => ?_)
  · obtain ⟨x, S, ns, rs, rfl, _⟩ := h
    rfl
  · obtain ⟨x, S, ns, rs, rfl, t, R, q⟩ := h
    refine ⟨_, (pss_one (ps_ret (pe_joined (.cons pe_str (.cons (pe_fmtRD hgd hr.units (pe_fld (pv 0) rfl)) (.cons pe_str (.cons (pe_fmtRD hgd hr.units (pe_fld (pv 0) rfl)) (.cons pe_str .nil)))))))), ?_⟩
    obtain ⟨dx, l, m, ys, hx, sl, sm, nx, hl, hm, hp⟩ := t.op
    have S1 := sm_names R.d4 R.nm
    have S2 := sm_rows R.r8 R.d4 R.tb
    have L0 := len_th R
    have e0 := empty_app "Thing("
    have L1 : (("Thing(" ++ (namesD ns).shown) : Str).length ≤ 40000 ∧ (("Thing(" ++ (namesD ns).shown ++ ", ") : Str).length ≤ 40000 ∧ (("Thing(" ++ (namesD ns).shown ++ ", " ++ (rowsD rs).shown) : Str).length ≤ 40000 := by
      unfold thT at L0
      rw [strLen_append] at L0
      refine ⟨?_, ?_, ?_⟩
      · rw [strLen_append, strLen_append] at L0
        omega
      · rw [strLen_append] at L0
        omega
      · omega
    refine ⟨_, rfl, by rw [e0]; decide, ?_⟩
    rw [e0]
    refine ⟨_, rfl, x, Ct, dx, _, _, rfl, hx, TC.cl, TC.nD, rfl, l, namesD ns, rfl, .lst (SqL.of hl) (dr_strs ns), S1.sh, Nat.le_trans S1.dp (by decide), S1.fits (by decide), _, rfl, by rw [sizeLine_eq]; omega, ?_⟩
    refine ⟨_, rfl, by rw [sizeLine_eq]; omega, ?_⟩
    refine ⟨_, rfl, x, Ct, dx, _, _, rfl, hx, TC.cl, TC.nR, rfl, m, rowsD rs, rfl, .lst (SqL.of hm) (dr_rows hp), S2.sh, Nat.le_trans S2.dp (by decide), S2.fits (by decide), _, rfl, by rw [sizeLine_eq]; omega, ?_⟩
    exact ⟨_, rfl, by rw [sizeLine_eq]; exact Nat.le_trans L0 (by decide), q⟩
end
end K21


namespace K21
open PySem PySem.Spec PyProof.Rows L2 Xv Cr TL
def pairD (e : Int × Int) : PyData := .tuple [.int e.1, .int e.2]
theorem dt_pair {K : PySem.W.Frag} {H : Hp} {t : Addr} {e : Int × Int} (h : H t = some (.tup [.int e.1, .int e.2])) : Dt K (fun b => b = t) H (.ref t) (pairD e) :=
  .tup ((vw_at (S := fun b => b = t) rfl).trans h) (.cons (.int _) (.cons (.int _) .nil))
theorem str_len (x : Str) (n : Nat) (h : x.length ≤ n) (hn : n ≤ 16777216 := by decide) : x.length ≤ sizeLine := by
  rw [sizeLine_eq]
  omega
theorem thT_eq (ns : List Str) (rs : List Rw) : "Thing(" ++ (namesD ns).shown ++ ", " ++ (rowsD rs).shown ++ ")" = thT ns rs := rfl
/-- the parts of a thing's text are short -/
theorem thT_parts {ns : List Str} {rs : List Rw} (R : Right ns rs) : (("Thing(" ++ (namesD ns).shown) : Str).length ≤ 40000 ∧ (("Thing(" ++ (namesD ns).shown ++ ", ") : Str).length ≤ 40000 ∧ (("Thing(" ++ (namesD ns).shown ++ ", " ++ (rowsD rs).shown) : Str).length ≤ 40000 ∧ (thT ns rs).length ≤ 40000 := by
  have L0 := len_th R
  have L1 := L0
  unfold thT at L0
  rw [strLen_append] at L0
  refine ⟨?_, ?_, ?_, L1⟩
  · rw [strLen_append, strLen_append] at L0
    omega
  · rw [strLen_append] at L0
    omega
  · omega
theorem repr_at {K : PySem.W.Frag} {H : Hp} {v : V} {d : PyData} {a b : Nat} {Q : VK} (hd : Dr K H v d) (s : Sm d a b) (ha : a ≤ 60) (hb : b ≤ 1000000) (q : Q (.str d.shown) H) : rRepr K [v] H Q := by
  unfold rRepr
  exact ⟨v, d, rfl, hd, s.sh, Nat.le_trans s.dp ha, s.fits hb, q⟩
theorem told_dr {K : PySem.W.Frag} {H : Hp} {v1 v3 v6 : V} {n : Nat} {z : Str} {ns : List Str} {rs : List Rw} (h1 : Dr K H v1 (namesD ns)) (hn : n = rs.length) (h3 : Dr K H v3 (rowsD rs)) (hz : z = thT ns rs) (h6 : Dr K H v6 (rowsD rs)) :
    DrAll K H [v1, .int n, v3, .int n, .str z, v6] [namesD ns, .int rs.length, rowsD rs, .int rs.length, .str (thT ns rs), rowsD rs] := by
  subst hn
  subst hz
  exact .cons h1 (.cons (.int _) (.cons h3 (.cons (.int _) (.cons (.str _) (.cons h6 .nil)))))
end K21


namespace K21
open PySem PySem.Spec PyProof.Rows L2 Xv Cr TL
/-- a property of an own class -/
structure PrpM (P : Program) (w : World) (K : PySem.W.Frag) (mg : Str → Option Value) (base : Heap) (C : Addr) (k : Nat) (f : Str) (sp : Sp) : Prop where
  ex : ∃ (p g : Addr) (fd : FuncData), PropOf K C f p g ∧ FnOk P w K mg base CX0 k g fd ["self"] sp ∧ Binds K fd ["self"] []
/-- a thing's own __call__ -/
structure CalM (P : Program) (w : World) (K : PySem.W.Frag) (mg : Str → Option Value) (base : Heap) (C : Addr) : Prop where
  ex : ∃ (g : Addr) (fd : FuncData), CallsO K C g ∧ FnOk P w K mg base CX0 6 g fd ["self", "state", "deed"] (spTCall K C) ∧ Binds K fd ["self", "state", "deed"] [] ∧ KBn K fd ["self", "state", "deed"] 1 ["deed", "state"] (fun us ws => us ++ ws.reverse) (fun vs zs => vs ++ zs.reverse)
/-- its own __repr__ -/
structure ReprM (P : Program) (w : World) (K : PySem.W.Frag) (mg : Str → Option Value) (base : Heap) (C : Addr) : Prop where
  ex : ∃ (g : Addr) (fd : FuncData), FnG P w K mg base 1 g fd ["self"] (spTRepr K C) ∧ PySem.W.findIn K (.ref C) "__repr__" = some (some (.ref g)) ∧ PySem.W.isFn K (.ref g) = true ∧ Binds K fd ["self"] []
section
variable {X : Cx} {C : Addr} {k j : Nat} {sp : Sp} {f x : Str} {e : Expr} {es : List Expr} {ta : TE} {t : TA} {p pos : Pos}
theorem pe_prp (c : PrpM X.prog X.w X.K X.mg X.base C k f sp) (cl : Cls X.K C) (hr : Room j X.A) (hk : k + 1 ≤ j) (he : PE X e ta) (hab : attributeBase e f X.env (eval e X.env) = eval e X.env := by rfl) : PE X (.Attribute e f pos) (tProp C sp [] E0 ta) := by
  obtain ⟨p, g, fd, hp, F, hb⟩ := c.ex
  exact pe_prop he cl hp F (hr.mono hk) hb .nil pass0 hab
theorem pe_calm (c : CalM X.prog X.w X.K X.mg X.base C) (hr : Room j X.A) (hk : 6 ≤ j) (he : PE X (.Name x p) ta) (ha : PA X (e :: es) t)
    (hst : starEach (e :: es) X.env = (false, eval e X.env) :: starEach es X.env := by rfl) (hpl : (backTo pos (starEach es X.env)).any (·.1) = false := by rfl) :
    PE X (.Call (.Name x p) (e :: es) [] pos) (tObj C (spTCall X.K C) ta t) := by
  obtain ⟨g, fd, co, F, hb, _⟩ := c.ex
  exact pe_obj he co F (hr.mono hk) hb ha hst hpl
theorem call_reprM (c : ReprM X.prog X.w X.K X.mg X.base C) (hr : Room j X.A) (hk : 2 ≤ j) (hgd : X.A.guards = some []) : CallR X (.builtin "repr") (rReprO C (spTRepr X.K C)) := by
  obtain ⟨g, fd, F, hs, hf, hb⟩ := c.ex
  exact call_reprO F (hr.mono hk) hgd hb hs hf
end

theorem map_str_at {ns : List Str} {i : Nat} {x : V} (h : (ns.map V.str)[i]? = some x) : ∃ z, ns[i]? = some z ∧ x = V.str z := by
  rw [List.getElem?_map] at h
  cases e : ns[i]? with
  | none => rw [e] at h; cases h
  | some z => rw [e] at h; exact ⟨z, rfl, (Option.some.inj h).symm⟩
theorem map_at {α β : Type} {g : α → β} {l : List α} {i : Nat} {d : β} (h : (l.map g)[i]? = some d) : ∃ r, l[i]? = some r ∧ d = g r := by
  rw [List.getElem?_map] at h
  cases e : l[i]? with
  | none => rw [e] at h; cases h
  | some z => rw [e] at h; exact ⟨z, rfl, (Option.some.inj h).symm⟩
section
variable {P : Program} {w : World} {K : PySem.W.Frag} {mg : Str → Option Value} {base : Heap} {Ct f : Addr} {fd : FuncData}
end
end K21


namespace K21
open PySem PySem.Spec PyProof.Rows L2 Xv Cr TL
/-! ### what the law itself asks of a thing's class -/
structure ThF (K : PySem.W.Frag) (C : Addr) : Prop where
  ins : C8.InsC K C
  nfN : PySem.W.notFirst K C (.type "NoneType") = true
  nfS : PySem.W.notFirst K C (.type "str") = true
  nfL : PySem.W.notFirst K C (.type "list") = true
  kN : PySem.W.kitOne K (.type "NoneType") (.ref C) = some false
  kS : PySem.W.kitOne K (.type "str") (.ref C) = some false
  kL : PySem.W.kitOne K (.type "list") (.ref C) = some false
  ne : PySem.W.findIn K (.ref C) "__ne__" = some (some (.builtin "object.__ne__"))
section
variable {X : Cx} {C : Addr} {j : Nat}
theorem op_eqM (c : OwnM X.prog X.w X.K X.mg X.base C 1 "__eq__" ["self", "other"] (spTEq X.K C)) (hr : Room j X.A) (hj : 1 ≤ j) : OpR X (compareOp .Eq) (rEqO X.K C (spTEq X.K C) false) := by
  obtain ⟨g, fd, F, hs, hf, hb⟩ := c.ex
  exact op_eqO F (hr.mono hj) hb hs hf
theorem op_neM (c : OwnM X.prog X.w X.K X.mg X.base C 1 "__eq__" ["self", "other"] (spTEq X.K C)) (Z : ThF X.K C) (hr : Room j X.A) (hj : 2 ≤ j) : OpR X (compareOp .NotEq) (rEqO X.K C (spTEq X.K C) true) := by
  obtain ⟨g, fd, F, hs, hf, hb⟩ := c.ex
  exact op_neO F (hr.mono hj) hb hs hf Z.ne Z.ins.hm
end
section
variable {K : PySem.W.Frag} {C : Addr} {S S2 : Addr → Prop} {H : Hp} {x x2 : Addr} {ns ns2 : List Str} {rs rs2 : List Rw} {Q : VK}
theorem th_ty (Z : ThF K C) (t : ThAt K C S H x ns rs) : TyX K H (.ref x) (.ref C) := by
  obtain ⟨dx, l, m, hx, _⟩ := t
  exact .base (.ins hx Z.ins.cl Z.ins.ha Z.ins.hn Z.ins.htk Z.ins.hm)
theorem nf_self : PySem.W.notFirst K C (.ref C) = true := by
  unfold PySem.W.notFirst
  simp
/-- == and != of two things -/
theorem eq_things (Z : ThF K C) {neg : Bool} (t : ThAt K C S H x ns rs) (t2 : ThAt K C S2 H x2 ns2 rs2) (nm : ∀ z ∈ ns, Nm z) (nm2 : ∀ z ∈ ns2, Nm z) (q : Q (.bl (if neg then !(decide (ns = ns2) && decide (rs = rs2)) else (decide (ns = ns2) && decide (rs = rs2)))) H) :
    rEqO K C (spTEq K C) neg (.ref x) (.ref x2) H Q := by
  obtain ⟨dx, l, m, hx, _⟩ := id t
  exact ⟨x, dx, _, .ref C, rfl, hx, th_ty Z t2, nf_self, x, S, ns, rs, _, rfl, t, nm, .inl ⟨x2, S2, ns2, rs2, rfl, th_ty Z t2, t2, nm2, _, rfl, q⟩⟩
/-- .. of a thing and something else -/
theorem eq_else {neg : Bool} {y : V} {u : Value} (t : ThAt K C S H x ns rs) (nm : ∀ z ∈ ns, Nm z) (ty : TyX K H y u) (nf : PySem.W.notFirst K C u = true) (k : PySem.W.kitOne K u (.ref C) = some false) (q : Q (.bl neg) H) : rEqO K C (spTEq K C) neg (.ref x) y H Q := by
  obtain ⟨dx, l, m, hx, _⟩ := id t
  refine ⟨x, dx, _, u, rfl, hx, ty, nf, x, S, ns, rs, y, rfl, t, nm, .inr ⟨u, ty, k, _, rfl, ?_⟩⟩
  cases neg <;> exact q
end
theorem nwr_rwo {S : Addr → Prop} {H : Hp} : ∀ {ls : List Addr} {rs : List Rw}, Paired (NwR S H) ls rs → Paired (RwO (fun _ => True) H) (ls.map V.ref) rs
  | _, _, .nil => .nil
  | _, _, .cons ⟨es, h1, h2⟩ r => .cons ⟨_, es, rfl, trivial, h1, Paired.mapP h2 fun x e ⟨t, z1, _, z3⟩ => ⟨t, z1, trivial, z3⟩⟩ (nwr_rwo r)
def spLIs (K : PySem.W.Frag) (C : Addr) : Sp := fun vs H Q _ => ∃ (x m : Addr) (S S0 : Addr → Prop) (ns : List Str) (rs : List Rw), vs = [.ref x, .ref m] ∧ ThAt K C S H x ns rs ∧ Dt K S0 H (.ref m) (modelD ns rs) ∧ Right ns rs ∧ ∀ H', Same H H' → Q (.bl true) H'
section
variable {P : Program} {w : World} {K : PySem.W.Frag} {mg : Str → Option Value} {base : Heap} {Ct f : Addr} {fd : FuncData}
end
end K21

namespace Cr
open PySem PySem.Spec PyProof.Rows L2 Xv
/-! ### == and != of dicts of two keys, their values data -/
def rEq2 (K : PySem.W.Frag) (neg : Bool) : R2 := fun x y H Q => ∃ a b k1 k2 v1 v2 w1 w2 d1 d2 e1 e2, x = .ref a ∧ y = .ref b ∧ H a = some (.dK [(k1, v1), (k2, v2)]) ∧ H b = some (.dK [(k1, w1), (k2, w2)]) ∧ k1 ≠ k2 ∧ (Dp K H v1 d1 ∧ Dp K H v2 d2 ∧ Dp K H w1 e1 ∧ Dp K H w2 e2) ∧
  (SeqAt.shaped d1 = true ∧ SeqAt.shaped d2 = true ∧ SeqAt.shaped e1 = true ∧ SeqAt.shaped e2 = true) ∧ Q (.bl (if neg then !(PyData.eqv d1 e1 && (PyData.eqv d2 e2 && true)) else (PyData.eqv d1 e1 && (PyData.eqv d2 e2 && true)))) H
section
variable {X : Cx}
theorem kv_two {k1 k2 : Key} {v1 v2 : V} {vs : List (Key × Value)} (h : KV [(k1, v1), (k2, v2)] vs) : ∃ u1 u2, vs = [(k1, u1), (k2, u2)] ∧ RelV v1 u1 ∧ RelV v2 u2 := by
  unfold KV at h
  cases h with
  | cons h1 t => cases t with
    | cons h2 t2 =>
      cases t2
      rename_i q1 q2
      obtain ⟨a1, b1⟩ := q1
      obtain ⟨a2, b2⟩ := q2
      obtain ⟨e1, r1⟩ := h1
      obtain ⟨e2, r2⟩ := h2
      dsimp only at e1 e2 r1 r2
      subst e1
      subst e2
      exact ⟨b1, b2, rfl, r1, r2⟩
theorem eq2_hits {pins : List (Addr × Obj)} {σ : L2.St} {H : Hp} {s : Shared} {k1 k2 : Key} {v1 v2 w1 w2 : V} {d1 d2 e1 e2 : PyData} {u1 u2 y1 y2 : Value} (hu : X.A.units + 128 < cLine) (I : Inv X pins σ H s) (nk : k1 ≠ k2) (r1 : RelV v1 u1) (r2 : RelV v2 u2) (z1 : RelV w1 y1) (z2 : RelV w2 y2)
    (hd : Dp X.K H v1 d1 ∧ Dp X.K H v2 d2 ∧ Dp X.K H w1 e1 ∧ Dp X.K H w2 e2) (hs : SeqAt.shaped d1 = true ∧ SeqAt.shaped d2 = true ∧ SeqAt.shaped e1 = true ∧ SeqAt.shaped e2 = true) :
    PySem.W.KeqHits X.A.in1 s [(k1, y1), (k2, y2)] [(k1, u1), (k2, u2)] (PyData.eqv d1 e1 && (PyData.eqv d2 e2 && true)) := by
  obtain ⟨D1, D2, E1, E2⟩ := hd
  obtain ⟨s1, s2, t1, t2⟩ := hs
  obtain ⟨_, a1⟩ := Dp.reads I d1 _ _ D1 r1
  obtain ⟨_, a2⟩ := Dp.reads I d2 _ _ D2 r2
  obtain ⟨_, b1⟩ := Dp.reads I e1 _ _ E1 z1
  obtain ⟨_, b2⟩ := Dp.reads I e2 _ _ E2 z2
  have hu1 : X.A.in1.units + 64 < cLine := by show X.A.units + 1 + 64 < cLine; omega
  refine .hit (y := y1) ?_ (SeqAt.eqAt_reads _ _ _ _ _ _ _ _ a1 b1 (SeqAt.canLay_of_shaped s1) (SeqAt.canLay_of_shaped t1) (SeqAt.room_of_shaped s1 hu1)) (.hit (y := y2) ?_ (SeqAt.eqAt_reads _ _ _ _ _ _ _ _ a2 b2 (SeqAt.canLay_of_shaped s2) (SeqAt.canLay_of_shaped t2) (SeqAt.room_of_shaped s2 hu1)) .nil)
  · unfold valueAt
    rw [List.find?_cons_of_pos (by simp)]
    rfl
  · unfold valueAt
    rw [List.find?_cons_of_neg (by simpa using nk), List.find?_cons_of_pos (by simp)]
    rfl
theorem op_eq2 (hu : X.A.units + 128 < cLine) : OpR X (compareOp .Eq) (rEq2 X.K false) := by
  intro pins s σ H x y v u Q I rx ry h
  obtain ⟨a, b, k1, k2, v1, v2, w1, w2, d1, d2, e1, e2, rfl, rfl, ea, eb, nk, hd, hs, q⟩ := h
  obtain rfl : v = Value.ref a := rx
  obtain rfl : u = Value.ref b := ry
  obtain ⟨_, ya, va, ra, da⟩ := (show ObjOk X.prog X.w H s.heap a (.dK [(k1, v1), (k2, v2)]) from I.hok a _ ea)
  obtain ⟨_, yb, vb, rb, db⟩ := (show ObjOk X.prog X.w H s.heap b (.dK [(k1, w1), (k2, w2)]) from I.hok b _ eb)
  obtain ⟨u1, u2, rfl, r1, r2⟩ := kv_two ra
  obtain ⟨y1, y2, rfl, z1, z2⟩ := kv_two rb
  exact PySem.W.keq_eq (knd := mixKind X.prog X.w) ya yb da db (by omega) (fun _ => eq2_hits hu I nk r1 r2 z1 z2 hd hs) ⟨.bl _, H, I, rfl, q⟩
theorem op_ne2 (hu : X.A.units + 128 < cLine) : OpR X (compareOp .NotEq) (rEq2 X.K true) := by
  intro pins s σ H x y v u Q I rx ry h
  obtain ⟨a, b, k1, k2, v1, v2, w1, w2, d1, d2, e1, e2, rfl, rfl, ea, eb, nk, hd, hs, q⟩ := h
  obtain rfl : v = Value.ref a := rx
  obtain rfl : u = Value.ref b := ry
  obtain ⟨_, ya, va, ra, da⟩ := (show ObjOk X.prog X.w H s.heap a (.dK [(k1, v1), (k2, v2)]) from I.hok a _ ea)
  obtain ⟨_, yb, vb, rb, db⟩ := (show ObjOk X.prog X.w H s.heap b (.dK [(k1, w1), (k2, w2)]) from I.hok b _ eb)
  obtain ⟨u1, u2, rfl, r1, r2⟩ := kv_two ra
  obtain ⟨y1, y2, rfl, z1, z2⟩ := kv_two rb
  exact PySem.W.keq_ne (knd := mixKind X.prog X.w) ya yb da db (by omega) (fun _ => eq2_hits hu I nk r1 r2 z1 z2 hd hs) ⟨.bl _, H, I, rfl, q⟩
end
end Cr


namespace K21
open PySem PySem.Spec PyProof.Rows L2 Xv Cr TL
/-! ### lists of rows, made anew and changed -/
/-- a pair in S -/
def TI (S : Addr → Prop) (H : Hp) (x : V) (e : Int × Int) : Prop := ∃ t, x = V.ref t ∧ S t ∧ H t = some (.tup [.int e.1, .int e.2])
/-- a row's list -/
def RwI (S : Addr → Prop) (H : Hp) (v : V) (r : Rw) : Prop := ∃ a es, v = V.ref a ∧ H a = some (.lst es) ∧ Paired (TI S H) es r
theorem rwo_i {S : Addr → Prop} {H : Hp} {ys : List V} {rs : List Rw} (h : Paired (RwO S H) ys rs) : Paired (RwI S H) ys rs := Paired.mapP h fun v r ⟨a, es, e, _, ha, q⟩ => ⟨a, es, e, ha, q⟩
theorem nwr_i {S : Addr → Prop} {H : Hp} : ∀ {ls : List Addr} {rs : List Rw}, Paired (NwR S H) ls rs → Paired (RwI S H) (ls.map V.ref) rs
  | _, _, .nil => .nil
  | _, _, .cons ⟨es, h1, h2⟩ t => .cons ⟨_, es, rfl, h1, h2⟩ (nwr_i t)
theorem pr_mapI {α β : Type} {F G : α → β → Prop} : ∀ {a : List α} {b : List β}, Paired F a b → (∀ (k : Nat) x y, a[k]? = some x → F x y → G x y) → Paired G a b
  | _, _, .nil, _ => .nil
  | _, _, .cons h t, k => .cons (k 0 _ _ rfl h) (pr_mapI t fun i x y e f => k (i + 1) x y e f)
theorem pr_set {α β : Type} {F G : α → β → Prop} {y' : β} : ∀ {a : List α} {b : List β} {i : Nat}, Paired F a b → (∀ (k : Nat) x y, k ≠ i → a[k]? = some x → F x y → G x y) → (∀ x, a[i]? = some x → G x y') → Paired G a (b.set i y')
  | _, _, _, .nil, _, _ => .nil
  | _, _, 0, .cons h t, k, k0 => .cons (k0 _ rfl) (pr_mapI t fun i x y e f => k (i + 1) x y (Nat.succ_ne_zero i) e f)
  | _, _, i + 1, .cons h t, k, k0 => .cons (k 0 _ _ (Nat.succ_ne_zero i).symm rfl h) (pr_set t (fun j x y n e f => k (j + 1) x y (fun z => n (Nat.succ.inj z)) e f) fun x e => k0 x e)
theorem pr_set2 {α β : Type} {F G : α → β → Prop} {x' : α} {y' : β} : ∀ {a : List α} {b : List β} {i : Nat}, Paired F a b → (∀ x y, F x y → G x y) → G x' y' → Paired G (a.set i x') (b.set i y')
  | _, _, _, .nil, _, _ => .nil
  | _, _, 0, .cons h t, k, k0 => .cons k0 (Paired.mapP t k)
  | _, _, i + 1, .cons h t, k, k0 => .cons (k _ _ h) (pr_set2 t k k0)
theorem pr_rev {α β : Type} {F : α → β → Prop} : ∀ {a : List α} {b : List β}, Paired F a b → Paired F a.reverse b.reverse
  | _, _, .nil => .nil
  | _, _, .cons h t => by
    rw [List.reverse_cons, List.reverse_cons]
    exact pr_app (pr_rev t) (.cons h .nil)
theorem TI.mono {S T : Addr → Prop} {H H' : Hp} {x : V} {e : Int × Int} (h : TI S H x e) (s : ∀ t o, S t → H t = some o → H' t = some o) (i : ∀ t, S t → T t) : TI T H' x e := by
  obtain ⟨t, h1, h2, h3⟩ := h
  exact ⟨t, h1, i t h2, s t _ h2 h3⟩
/-- new lists of the rows, each by f -/
theorem lines_lc {K : PySem.W.Frag} {a D : Addr} {j : Nat} {σ : L2.St} {H1 : Hp} {te : TE} {S : Addr → Prop} {ys : List V} {rs : List Rw} {f : List V → List V} {g : Rw → Rw} {Qd : Hp → Prop} (ha : H1 a = some (.lst ys)) (hp : Paired (RwI S H1) ys rs) (hz : rs.length ≤ 1000) (hD : H1 D = none)
    (hte : ∀ b es H' (Q : VK), Same H1 H' → H' b = some (.lst es) → (∀ c, H' c = none → Q (.ref c) (upd H' c (.lst (f es)))) → te ((wipe σ [j]).set j (some (.ref b))) H' Q) (hg : ∀ {H' : Hp} {es : List V} {r : Rw}, Paired (TI S H') es r → Paired (TI S H') (f es) (g r))
    (hd : ∀ H' ls, Same H1 H' → H' D = some (.lst (ls.map V.ref)) → ls.Nodup → (∀ l ∈ ls, H1 l = none ∧ l ≠ D) → Paired (NwR S H') ls (rs.map g) → Qd H') :
    ∃ W : Nat → Nat → Hp → Prop, (∃ m, W 0 m (upd H1 D (.lst []))) ∧ ∀ i m H, W i m H →
      ((Itl K a).stop i H ∧ Qd H) ∨ ((Itl K a).go i H ∧ ∃ Nx : Hp → Prop, (∀ H', Nx H' → ∃ m', m' < m ∧ W (i + 1) m' H') ∧ ∀ x H', (Itl K a).yld i H x H' → gName j x (wipe σ [j]) H' fun σ2 H2 => wipe σ2 [j] = wipe σ [j] ∧ tYes σ2 H2 fun b H3 =>
        if b = true then te σ2 H3 fun y H4 => ∃ acc, H4 D = some (.lst acc) ∧ acc.length < sizeLine ∧ Nx (upd H4 D (.lst (acc ++ [y]))) else Nx H3) := by
  have hlen : ys.length = rs.length := Paired.length hp
  refine lc_it walk_list (fun i H' => ∃ ls : List Addr, ls.length = i ∧ H' D = some (.lst (ls.map V.ref)) ∧ Same H1 H' ∧ ls.Nodup ∧ (∀ l ∈ ls, H1 l = none ∧ l ≠ D) ∧ Paired (NwR S H') ls ((rs.map g).take i))
    ⟨[], rfl, upd_same, same_upd hD, by simp, by simp, .nil⟩ (fun i H' _ ⟨_, _, _, s, _⟩ => SqL.of (s _ _ ha)) (fun i v H' H'' hi e y => ?_) (fun H' e => ?_)
  · obtain ⟨rfl, hv⟩ := y
    obtain ⟨ls, e1, e2, e3, end_, e4, e5⟩ := e
    obtain ⟨r, hr', b, es, rfl, hb, hps⟩ := Xv.paired_get hp hv
    refine ⟨wipe_back, ?_⟩
    unfold tYes
    dsimp only
    rw [if_pos rfl]
    refine hte b es _ _ e3 (e3 _ _ hb) fun c nc => ?_
    have ncD : D ≠ c := ne_of_none e2 nc
    have nc1 : H1 c = none := e3.free nc
    have up : ∀ {x : Addr} {o : HO}, x ≠ D → H'' x = some o → upd (upd H'' c (.lst (f es))) D (.lst (ls.map V.ref ++ [V.ref c])) x = some o := fun {x o} n z => by
      rw [upd_ne n, upd_ne (ne_of_none z nc)]
      exact z
    have tD : ∀ t, ∀ o, H1 t = some o → t ≠ D := fun t o z => ne_of_none z hD
    refine ⟨_, by rw [upd_ne ncD]; exact e2, by rw [List.length_map, sizeLine_eq]; omega, ls ++ [c], by rw [List.length_append, e1]; rfl, by rw [upd_same, List.map_append]; rfl, fun x o z => up (tD x o z) (e3 _ _ z), ?_, fun x hx => ?_, ?_⟩
    · rw [List.nodup_append]
      refine ⟨end_, by simp, fun x hx z hz => ?_⟩
      rw [List.mem_singleton.mp hz]
      intro w
      obtain ⟨y, es', h1, _⟩ := pr_mem e5 hx
      rw [w, nc] at h1
      cases h1
    · rcases List.mem_append.mp hx with z | z
      · exact e4 x z
      · rw [List.mem_singleton.mp z]
        exact ⟨nc1, ncD.symm⟩
    · have hg' : (rs.map g)[i]? = some (g r) := by rw [List.getElem?_map, hr']; rfl
      rw [Xv.take_step hg']
      have tup : ∀ {x : V} {e : Int × Int}, TI S H'' x e → TI S (upd (upd H'' c (.lst (f es))) D (.lst (ls.map V.ref ++ [V.ref c]))) x e := fun {x e} ⟨t, z1, z2, z3⟩ => ⟨t, z1, z2, up (fun z => by rw [z, e2] at z3; cases z3) z3⟩
      refine pr_app (pr_map e5 fun x r hx d => ?_) (.cons ⟨f es, by rw [upd_ne ncD.symm, upd_same], ?_⟩ .nil)
      · obtain ⟨es', h1, h2⟩ := d
        exact ⟨es', up (e4 x hx).2 h1, Paired.mapP h2 fun x e q => tup q⟩
      · exact Paired.mapP (hg (Paired.mapP hps fun x e q => TI.mono q (fun t o _ z => e3 _ _ z) fun _ z => z)) fun x e q => tup q
  · obtain ⟨ls, e1, e2, e3, end_, e4, e5⟩ := e
    rw [hlen, show rs.length = (rs.map g).length from (List.length_map g).symm, List.take_length] at e5
    exact hd H' ls e3 e2 end_ e4 e5
/-- one entry of the lists is set -/
theorem set_row {S : Addr → Prop} {H : Hp} {ls : List Addr} {rs : List Rw} {i j : Nat} {a t : Addr} {r : Rw} {es : List V} {e : Int × Int} (hp : Paired (NwR S H) ls rs) (nd : ls.Nodup) (hi : ls[i]? = some a) (hr : rs[i]? = some r) (ha : H a = some (.lst es)) (hps : Paired (TI S H) es r) (ht : H t = some (.tup [.int e.1, .int e.2])) :
    Paired (NwR (fun b => S b ∨ b = t) (upd H a (.lst (es.set j (.ref t))))) ls (rs.set i (r.set j e)) := by
  have nt : ∀ {x : Addr} {y : List V}, H x = some (.tup y) → x ≠ a := fun h z => by
    rw [z, ha] at h
    cases h
  have tup : ∀ {x : V} {e : Int × Int}, TI S H x e → TI (fun b => S b ∨ b = t) (upd H a (.lst (es.set j (.ref t)))) x e := fun {x e} ⟨u, z1, z2, z3⟩ => ⟨u, z1, .inl z2, by rw [upd_ne (nt z3)]; exact z3⟩
  have ndx : ∀ {l : List Addr}, l.Nodup → ∀ {k m : Nat} {x : Addr}, l[k]? = some x → l[m]? = some x → k = m := fun {l} h => by
    intro k m x h1 h2
    obtain ⟨k1, e1⟩ := List.getElem?_eq_some_iff.mp h1
    obtain ⟨k2, e2⟩ := List.getElem?_eq_some_iff.mp h2
    exact (List.getElem_inj h).mp (e1.trans e2.symm)
  refine pr_set hp (fun k x y n hx ⟨es', h1, h2⟩ => ?_) fun x hx => ?_
  · have na : x ≠ a := fun z => n (ndx nd (z ▸ hx) hi)
    exact ⟨es', by rw [upd_ne na]; exact h1, Paired.mapP h2 fun _ _ q => tup q⟩
  · rw [hi] at hx
    cases hx
    exact ⟨_, upd_same, pr_set2 hps (fun _ _ q => tup q) ⟨t, rfl, .inr rfl, by rw [upd_ne (nt ht)]; exact ht⟩⟩
end K21

namespace K21
open PySem PySem.Spec PyProof.Rows L2 Xv Cr TL
/-! ### new lists of new rows, whose lists are unlike -/
theorem but_free {p d : Addr} {H H' : Hp} (b : But p H H') (n : d ≠ p) (e : H' d = none) : H d = none := by
  cases z : H d with
  | none => rfl
  | some o => rw [b _ _ n z] at e; cases e
theorem pot_off {p d : Addr} {H : Hp} (P : Pot H p) (e : H d = none) : d ≠ p := fun z => by
  obtain ⟨_, _, h, _⟩ := P
  rw [← z, e] at h
  cases h
theorem ti_fr {S M : Addr → Prop} {H H' : Hp} {x : V} {e : Int × Int} (h : TI S H x e) (f : Fr M H H') (n : ∀ b, S b → ¬ M b) : TI S H' x e := by
  obtain ⟨t, h1, h2, h3⟩ := h
  exact ⟨t, h1, h2, f _ _ (n t h2) h3⟩
theorem nwr_fr {S M : Addr → Prop} {H H' : Hp} {l : Addr} {r : Rw} (h : NwR S H l r) (f : Fr M H H') (n : ∀ b, S b → ¬ M b) (nl : ¬ M l) : NwR S H' l r := by
  obtain ⟨es, h1, h2⟩ := h
  exact ⟨es, f _ _ nl h1, Paired.mapP h2 fun x e q => ti_fr q f n⟩
theorem nwr_up {S T : Addr → Prop} {H : Hp} {l : Addr} {r : Rw} (h : NwR S H l r) (n : ∀ b, S b → T b) : NwR T H l r := by
  obtain ⟨es, h1, h2⟩ := h
  exact ⟨es, h1, Paired.mapP h2 fun x e ⟨t, z1, z2, z3⟩ => ⟨t, z1, n t z2, z3⟩⟩
/-- a list of rows at L, new since B -/
structure RowsN (B H : Hp) (L : Addr) (ls : List Addr) (rs : List Rw) (S : Addr → Prop) : Prop where
  at_ : H L = some (.lst (ls.map V.ref))
  nd : ls.Nodup
  new : ∀ l ∈ ls, B l = none ∧ l ≠ L
  nL : B L = none
  nS : ∀ b, S b → B b = none
  rows : Paired (NwR S H) ls rs
theorem RowsN.fr {B H H' : Hp} {L : Addr} {ls : List Addr} {rs : List Rw} {S M : Addr → Prop} (h : RowsN B H L ls rs S) (f : Fr M H H') (n : ∀ b, B b = none → ¬ M b) : RowsN B H' L ls rs S :=
  ⟨f _ _ (n L h.nL) h.at_, h.nd, h.new, h.nL, h.nS, pr_map h.rows fun l r hl q => nwr_fr q f (fun b hb => n b (h.nS b hb)) (n l (h.new l hl).1)⟩
theorem RowsN.but {B H H' : Hp} {p L : Addr} {ls : List Addr} {rs : List Rw} {S : Addr → Prop} (h : RowsN B H L ls rs S) (b : But p H H') (P : Pot B p) : RowsN B H' L ls rs S :=
  h.fr (Cr.Fr.but b) fun c hc z => pot_off P hc z
/-- a row, made by a comprehension that may draw -/
theorem row_mk {J : It} {n : Nat} {G : Hp → Prop} {f : Nat → V} {p : Addr} {σ : L2.St} {vs : List Nat} {i1 : Nat} {te : TE} {H1 : Hp} {D : Addr} {ok : Nat → Int × Int → Prop} {Qd : Hp → Prop} (W : Walk J n G (YFn f)) (P1 : Pot H1 p) (hG : ∀ H', But p H1 H' → G H') (hz : n ≤ 1000) (hD : H1 D = none)
    (hw : ∀ v, wipe ((wipe σ vs).set i1 (some v)) vs = wipe σ vs)
    (hte : ∀ (i : Nat) (H3 : Hp) (Qv : VK), i < n → But p H1 H3 → Pot H3 p → (∀ H4 t (e : Int × Int), But p H3 H4 → Pot H4 p → H3 t = none → H4 t = some (.tup [.int e.1, .int e.2]) → ok i e → Qv (.ref t) H4) → te ((wipe σ vs).set i1 (some (f i))) H3 Qv)
    (hd : ∀ H2 es r S, But p H1 H2 → Pot H2 p → H2 D = some (.lst es) → r.length = n → (∀ b, S b → H1 b = none) → Paired (TI S H2) es r → (∀ i e, r[i]? = some e → ok i e) → Qd H2) :
    ∃ W : Nat → Nat → Hp → Prop, (∃ m, W 0 m (upd H1 D (.lst []))) ∧ ∀ i m H, W i m H →
      (J.stop i H ∧ Qd H) ∨ (J.go i H ∧ ∃ Nx : Hp → Prop, (∀ H', Nx H' → ∃ m', m' < m ∧ W (i + 1) m' H') ∧ ∀ x H', J.yld i H x H' → gName i1 x (wipe σ vs) H' fun σ2 H2 => wipe σ2 vs = wipe σ vs ∧ tYes σ2 H2 fun b H3 =>
        if b = true then te σ2 H3 fun y H4 => ∃ acc, H4 D = some (.lst acc) ∧ acc.length < sizeLine ∧ Nx (upd H4 D (.lst (acc ++ [y]))) else Nx H3) := by
  have nDp : D ≠ p := pot_off P1 hD
  refine lc_it W (fun i H' => ∃ es r S, But p H1 H' ∧ Pot H' p ∧ H' D = some (.lst es) ∧ r.length = i ∧ es.length = i ∧ (∀ b, S b → H1 b = none) ∧ Paired (TI S H') es r ∧ (∀ i e, r[i]? = some e → ok i e)) ⟨[], [], fun _ => False, Same.but (same_upd hD), pot_same P1 (same_upd hD), upd_same, rfl, rfl, fun _ z => z.elim, .nil, fun i e z => by simp at z⟩
    (fun i H' _ ⟨_, _, _, b, _⟩ => hG _ b) (fun i x H' H'' hi e y => ?_) (fun H' e => ?_)
  · obtain ⟨rfl, rfl⟩ := y
    obtain ⟨es, r, S, b1, PP, e1, e2, e2', e3, e4, e5⟩ := e
    refine ⟨hw _, ?_⟩
    unfold tYes
    dsimp only
    rw [if_pos rfl]
    refine hte i _ _ hi b1 PP fun H4 t ee b4 P4 nt ht hok => ?_
    have e1' := b4 _ _ nDp e1
    have ntD : t ≠ D := fun z => by rw [z, e1'] at ht; cases ht
    have nt1 : H1 t = none := but_free b1 (pot_off PP nt) nt
    have up : ∀ {u : Addr} {ys : List V}, H'' u = some (.tup ys) → u ≠ p → upd H4 D (.lst (es ++ [V.ref t])) u = some (.tup ys) := fun {u ys} z np => by
      rw [upd_ne (fun w => by rw [w, e1] at z; cases z)]
      exact b4 _ _ np z
    refine ⟨es, e1', by rw [sizeLine_eq]; omega, es ++ [V.ref t], r ++ [ee], fun u => S u ∨ u = t, but_new (b1.trans b4) hD, pot_upd P4 nDp.symm, upd_same, by rw [List.length_append, e2]; rfl, by rw [List.length_append, e2']; rfl, fun u hu => ?_, ?_, fun k e' hk => ?_⟩
    · rcases hu with z | z
      · exact e3 u z
      · exact z ▸ nt1
    · refine pr_app (Paired.mapP e4 fun x e ⟨u, z1, z2, z3⟩ => ⟨u, z1, .inl z2, up z3 (pot_off P1 (e3 u z2))⟩) (.cons ⟨t, rfl, .inr rfl, by rw [upd_ne ntD]; exact ht⟩ .nil)
    · by_cases hk2 : k < r.length
      · rw [List.getElem?_append_left hk2] at hk
        exact e5 k e' hk
      · rw [List.getElem?_append_right (by omega)] at hk
        have hk0 : k = i := by
          have := (List.getElem?_eq_some_iff.mp hk).1
          simp at this
          omega
        subst hk0
        rw [e2, Nat.sub_self] at hk
        cases hk
        exact hok
  · obtain ⟨es, r, S, b1, PP, e1, e2, e2', e3, e4, e5⟩ := e
    exact hd H' es r S b1 PP e1 e2 e3 e4 e5
/-- rows, made by a comprehension whose entries may draw -/
theorem rows_mk {J : It} {n : Nat} {G : Hp → Prop} {f : Nat → V} {p : Addr} {σ : L2.St} {vs : List Nat} {i1 : Nat} {te : TE} {H1 : Hp} {D : Addr} {ok : Nat → Rw → Prop} {Qd : Hp → Prop} (W : Walk J n G (YFn f)) (P1 : Pot H1 p) (hG : ∀ H', But p H1 H' → G H') (hz : n ≤ 1000) (hD : H1 D = none)
    (hw : ∀ v, wipe ((wipe σ vs).set i1 (some v)) vs = wipe σ vs)
    (hte : ∀ (i : Nat) (H3 : Hp) (Qv : VK), i < n → But p H1 H3 → Pot H3 p → (∀ H4 l es r S, But p H3 H4 → Pot H4 p → H3 l = none → H4 l = some (.lst es) → (∀ b, S b → H3 b = none) → Paired (TI S H4) es r → ok i r → Qv (.ref l) H4) → te ((wipe σ vs).set i1 (some (f i))) H3 Qv)
    (hd : ∀ H2 ls rs S, But p H1 H2 → Pot H2 p → RowsN H1 H2 D ls rs S → rs.length = n → (∀ i r, rs[i]? = some r → ok i r) → Qd H2) :
    ∃ W : Nat → Nat → Hp → Prop, (∃ m, W 0 m (upd H1 D (.lst []))) ∧ ∀ i m H, W i m H →
      (J.stop i H ∧ Qd H) ∨ (J.go i H ∧ ∃ Nx : Hp → Prop, (∀ H', Nx H' → ∃ m', m' < m ∧ W (i + 1) m' H') ∧ ∀ x H', J.yld i H x H' → gName i1 x (wipe σ vs) H' fun σ2 H2 => wipe σ2 vs = wipe σ vs ∧ tYes σ2 H2 fun b H3 =>
        if b = true then te σ2 H3 fun y H4 => ∃ acc, H4 D = some (.lst acc) ∧ acc.length < sizeLine ∧ Nx (upd H4 D (.lst (acc ++ [y]))) else Nx H3) := by
  have nDp : D ≠ p := pot_off P1 hD
  refine lc_it W (fun i H' => ∃ ls rs S, But p H1 H' ∧ Pot H' p ∧ RowsN H1 H' D ls rs S ∧ rs.length = i ∧ ls.length = i ∧ (∀ i r, rs[i]? = some r → ok i r)) ⟨[], [], fun _ => False, Same.but (same_upd hD), pot_same P1 (same_upd hD), ⟨upd_same, by simp, by simp, hD, fun _ z => z.elim, .nil⟩, rfl, rfl, fun i r z => by simp at z⟩
    (fun i H' _ ⟨_, _, _, b, _⟩ => hG _ b) (fun i x H' H'' hi e y => ?_) (fun H' e => ?_)
  · obtain ⟨rfl, rfl⟩ := y
    obtain ⟨ls, rs, S, b1, PP, RN, e2, e2', e5⟩ := e
    refine ⟨hw _, ?_⟩
    unfold tYes
    dsimp only
    rw [if_pos rfl]
    refine hte i _ _ hi b1 PP fun H4 l es r S2 b4 P4 nl hl nS2 hes hok => ?_
    have e1' := b4 _ _ nDp RN.at_
    have nlD : l ≠ D := fun z => by
      have := RN.at_
      rw [← z, nl] at this
      cases this
    have nl1 : H1 l = none := but_free b1 (pot_off PP nl) nl
    have nS1 : ∀ b, S2 b → H1 b = none := fun b hb => but_free b1 (pot_off PP (nS2 b hb)) (nS2 b hb)
    have up : ∀ {u : Addr} {ys : List V}, H4 u = some (.tup ys) → upd H4 D (.lst (ls.map V.ref ++ [V.ref l])) u = some (.tup ys) := fun {u ys} z => by
      rw [upd_ne (fun w => by rw [w, e1'] at z; cases z)]
      exact z
    refine ⟨_, e1', by rw [List.length_map, sizeLine_eq]; omega, ls ++ [l], rs ++ [r], fun u => S u ∨ S2 u, but_new (b1.trans b4) hD, pot_upd P4 nDp.symm, ⟨by rw [upd_same, List.map_append]; rfl, ?_, fun x hx => ?_, hD, fun b hb => hb.elim (RN.nS b) (nS1 b), ?_⟩, by rw [List.length_append, e2]; rfl, by rw [List.length_append, e2']; rfl, fun k r' hk => ?_⟩
    · rw [List.nodup_append]
      refine ⟨RN.nd, by simp, fun x hx z hz w => ?_⟩
      rw [List.mem_singleton.mp hz] at w
      obtain ⟨y, es', h1, _⟩ := pr_mem RN.rows hx
      rw [w, nl] at h1
      cases h1
    · rcases List.mem_append.mp hx with z | z
      · exact RN.new x z
      · rw [List.mem_singleton.mp z]
        exact ⟨nl1, nlD⟩
    · refine pr_app (pr_map RN.rows fun x r0 hx ⟨es', h1, h2⟩ => ⟨es', ?_, ?_⟩) (.cons ⟨es, by rw [upd_ne nlD]; exact hl, Paired.mapP hes fun x e ⟨u, z1, z2, z3⟩ => ⟨u, z1, .inr z2, up z3⟩⟩ .nil)
      · obtain ⟨n1, n2⟩ := RN.new x hx
        rw [upd_ne n2]
        exact b4 _ _ (pot_off P1 n1) h1
      · exact Paired.mapP h2 fun x e ⟨u, z1, z2, z3⟩ => ⟨u, z1, .inl z2, up (b4 _ _ (pot_off P1 (RN.nS u z2)) z3)⟩
    · by_cases hk2 : k < rs.length
      · rw [List.getElem?_append_left hk2] at hk
        exact e5 k r' hk
      · rw [List.getElem?_append_right (by omega)] at hk
        have hk0 : k = i := by
          have := (List.getElem?_eq_some_iff.mp hk).1
          simp at this
          omega
        subst hk0
        rw [e2, Nat.sub_self] at hk
        cases hk
        exact hok
  · obtain ⟨ls, rs, S, b1, PP, RN, e2, e2', e5⟩ := e
    exact hd H' ls rs S b1 PP RN e2 e5
end K21

set_option maxHeartbeats 0
namespace Cr
open PySem PySem.Spec PyProof.Rows L2 Xv
/-- the end, where the written part is known by what it says -/
theorem walkGE {l : PySem.W.OpenLaw} {n k : Nat} {q : Program} {loose : List Str} {XP : (Str → Option Value) → Heap → Prop} {YP : World → Heap → Prop} {d : DefRec} {x : Str}
    (hn : l.most = some n) (hn2 : n ≤ sizeLine) (hdf : d.params.defaults = []) (hr : Room k callerA)
    (F : ∀ (w : World) (mg : Str → Option Value) (fa : Addr) (h : Heap), YP w h → h.Ns mainGlobals mg → mg d.name = some (.ref fa) →
      ∃ (K : PySem.W.Frag) (fd : FuncData) (sp : Sp), K.In h ∧ (∀ (s : Shared) (u : Value), BindsTo s fd ⟨[u], []⟩ [(x, u)]) ∧ (∀ (H : Hp) (a : Addr) (ns : List Int), ns.length ≤ n → Only H → SqL K H a (ns.map V.int) → sp [.ref a] H (fun v _ => v = .bl true) E0) ∧
        ∀ base : Heap, K.In base → base.Ns mainGlobals mg → FnG l.prog w K mg base k fa fd [x] sp) :
    PySem.W.WalkO q loose XP YP l.row.toRowW d [] (fun f vs => PySem.call f vs) := by
  refine Att.attach_call hn hdf (fun w s₀ s₁ mg mb fa o pm cd doc a vs ns G Y ho hd hcd hmg hobj hints hlen hg => ?_)
  obtain ⟨K, fd, sp, KX, hb, hsp, hF⟩ := F w mg fa _ Y G.T.g hmg
  exact law_callG KX G.T.g G.T.b G.T.builtins G.T.nolimit hg hobj hints (Nat.le_trans hlen hn2) hr hF hb (fun H hO hS => hsp H a ns hlen hO hS)
/-! ### what of the heap is looked at -/
def valsO (o : Obj) : List Addr := match o.data with
  | .dict es _ => es.toList.flatMap fun e => He.refV e.val
  | _ => []
def nsO (o : Obj) : List Addr := match o.data with
  | .cls cd => [cd.ns]
  | _ => []
def fnO (o : Obj) : List Addr := match o.data with
  | .func fd => He.refV fd.code ++ fd.closure.map (·.2)
  | _ => []
def at0 (g : Addr → Option Obj) (f : Obj → List Addr) (a : Addr) : List Addr := match g a with
  | some o => f o
  | none => []
/-- a property's defs -/
def prO (o : Obj) : List Addr := match o.data with
  | .fields vs => vs.toList.flatMap He.refV
  | _ => []
def dfO (o : Obj) : List Addr := match o.data with
  | .func fd => He.refV fd.defaults
  | _ => []
def asK (g : Addr → Option Obj) : List Addr :=
  let v := at0 g valsO mainGlobals
  let n := v.flatMap (at0 g nsO)
  let m := n.flatMap (at0 g valsO)
  let r := m.flatMap (at0 g prO)
  mainGlobals :: cStatics :: (v ++ (n ++ (m ++ (r ++ (v.flatMap (at0 g dfO) ++ (v ++ (m ++ r)).flatMap (at0 g fnO))))))
abbrev FnS : Type := Option (Str × Str × Arguments × FuncBody × Scope × Addr × List Str × Value × Addr)
def fnS (K : PySem.W.Frag) (a : Addr) : FnS := match K.lookup a with
  | some ⟨_, _, .func fd, _⟩ => some (fd.name, fd.qualname, fd.params, fd.body, fd.scope, fd.globals, fd.closure.map (·.1), fd.defaults, fd.builtins)
  | _ => none
def codeS (K : PySem.W.Frag) (a : Addr) (q : Str) : Bool := match K.lookup a with
  | some ⟨_, _, .func fd, _⟩ => PySem.W.codeIn K fd.code q
  | _ => false
theorem fnS_ok {K : PySem.W.Frag} {a : Addr} {x q : Str} {st : Stmt} (e : fnS K a = (some (x, q, defArgs st, FuncBody.stmts (defBody st), defScope st, mainGlobals, [], Value.none, builtinsNs) : FnS)) (c : codeS K a q = true) (k : PySem.W.keepIn K (.ref a) = true) : ∃ fd, Fun K x q st a fd := by
  unfold fnS at e
  unfold codeS at c
  cases z : K.lookup a with
  | none =>
    rw [z] at c
    cases c
  | some o =>
    obtain ⟨oc, od, dt, osl⟩ := o
    rw [z] at c e
    cases dt with
    | func fd =>
      obtain ⟨n1, n2, n3, n4, n5, n6, n7, n8, n9, n10, n11, n12, n13, n14, n15⟩ := fd
      have e2 : (some (n1, n2, n3, n4, n5, n6, n7.map (·.1), n8, n15) : FnS) = _ := e
      simp only [Option.some.injEq, Prod.mk.injEq] at e2
      obtain ⟨h1, h2, h3, h4, h5, h6, h7, h8, h9⟩ := e2
      obtain rfl := List.map_eq_nil_iff.mp h7
      subst h1 h2 h3 h4 h5 h6 h8 h9
      exact ⟨_, fun_mk (st := st) z c k⟩
    | _ => cases c
/-- a def with None as its one default -/
def dflN (K : PySem.W.Frag) (a : Addr) : Bool := match K.lookup a with
  | some ⟨_, _, .func fd, _⟩ => (match fd.defaults with
    | .ref T => (match K.lookup T with
      | some o => (match o.data with
        | .seq its _ => decide (its.toList = [Value.none])
        | _ => false)
      | none => false)
    | _ => false)
  | _ => false
def fnSD (K : PySem.W.Frag) (a : Addr) : Option (Str × Str × Arguments × FuncBody × Scope × Addr × List Str × Addr) := match K.lookup a with
  | some ⟨_, _, .func fd, _⟩ => some (fd.name, fd.qualname, fd.params, fd.body, fd.scope, fd.globals, fd.closure.map (·.1), fd.builtins)
  | _ => none
theorem fnD_ok {K : PySem.W.Frag} {a : Addr} {x q : Str} {st : Stmt} (e : fnSD K a = some (x, q, defArgs st, FuncBody.stmts (defBody st), defScope st, mainGlobals, [], builtinsNs)) (c : codeS K a q = true) (k : PySem.W.keepIn K (.ref a) = true) (d : dflN K a = true) : ∃ fd, FunD K x q (defArgs st) (defBody st) (defScope st) [V.non] [] a fd := by
  unfold fnSD at e
  unfold codeS at c
  unfold dflN at d
  cases z : K.lookup a with
  | none =>
    rw [z] at c
    cases c
  | some o =>
    obtain ⟨oc, od, dt, osl⟩ := o
    rw [z] at c e d
    cases dt with
    | func fd =>
      obtain ⟨n1, n2, n3, n4, n5, n6, n7, n8, n9, n10, n11, n12, n13, n14, n15⟩ := fd
      have e2 : some (n1, n2, n3, n4, n5, n6, n7.map (·.1), n15) = _ := e
      simp only [Option.some.injEq, Prod.mk.injEq] at e2
      obtain ⟨h1, h2, h3, h4, h5, h6, h7, h9⟩ := e2
      obtain rfl := List.map_eq_nil_iff.mp h7
      cases n8 with
      | ref T =>
        dsimp only at d
        cases ho : K.lookup T with
        | none =>
          rw [ho] at d
          cases d
        | some o2 =>
          rw [ho] at d
          dsimp only at d
          cases hi : o2.data with
          | seq its m =>
            rw [hi] at d
            have hl := of_decide_eq_true d
            have hl2 : its = #[Value.none] := Array.toList_inj.mp hl
            subst h1 h2 h3 h4 h5 h6 h9 hl2
            exact ⟨_, ⟨⟨oc, od, _, _, _, _, _, _, _, osl, rfl, z, c, .inr ⟨by simp, T, o2, [Value.none], m, rfl, ho, hi, .cons rfl .nil⟩, .inl rfl⟩, k⟩⟩
          | _ =>
            rw [hi] at d
            cases d
      | _ => cases d
    | _ => cases c
theorem tab_of {α : Type} {n : Nat} {f g : Nat → α} (h : (List.range n).map f = (List.range n).map g) : ∀ i, i < n → f i = g i := fun i hi => by
  have := congrArg (·[i]?) h
  simpa [hi] using this
def Fn (K : PySem.W.Frag) (x qual : Str) (st : Stmt) (f : Addr) : Prop := ∃ fd, Fun K x qual st f fd
def Dn (K : PySem.W.Frag) (mg : Str → Option Value) (x : Str) (st : Stmt) : Prop := ∃ f, mg x = some (.ref f) ∧ Fn K x x st f
section
variable {P : Program} {w : World} {K : PySem.W.Frag} {mg : Str → Option Value} {base : Heap} {k : Nat} {x : Str} {st : Stmt} {ps : List Str} {sp : Sp}
theorem cl_mk (D : Dn K mg x st) (ok : ∀ f fd, Fun K x x st f fd → FnOk P w K mg base CX0 k f fd ps sp)
    (hb : ∀ (kV doc pm : Value) (an : Option Addr) (cdv ct : Value) (us : List Value), us.length = ps.length → bindArgs (PySem.W.fnOf x x (defArgs st) (defBody st) (defScope st) .none kV doc pm an cdv ct) ⟨us, []⟩ = pure (ps.zip us)) : Xv.Cl P w K mg base k x sp := by
  obtain ⟨f, gm, fd, F⟩ := D
  exact ⟨f, fd, ps, ok f fd F, gm, F.kp, F.binds hb⟩
theorem clg_mk (D : Dn K mg x st) (ok : ∀ f fd, Fun K x x st f fd → FnG P w K mg base k f fd ps sp)
    (hb : ∀ (kV doc pm : Value) (an : Option Addr) (cdv ct : Value) (us : List Value), us.length = ps.length → bindArgs (PySem.W.fnOf x x (defArgs st) (defBody st) (defScope st) .none kV doc pm an cdv ct) ⟨us, []⟩ = pure (ps.zip us)) : Xv.ClG P w K mg base k x sp := by
  obtain ⟨f, gm, fd, F⟩ := D
  exact ⟨f, fd, ps, ok f fd F, gm, F.kp, F.binds hb⟩
/-- keywords for the two parameters behind the first, the second one first -/
theorem kb_two {qual a b c : Str} {f : Addr} {fd : FuncData} (F : Fun K x qual st f fd)
    (hk : ∀ (kV doc pm : Value) (an : Option Addr) (cdv ct u v w : Value), bindArgs (PySem.W.fnOf x qual (defArgs st) (defBody st) (defScope st) .none kV doc pm an cdv ct) ⟨[u], [(c, v), (b, w)]⟩ = pure ((([a, b, c] : List Str)).zip [u, w, v])) :
    KBn K fd [a, b, c] 1 [c, b] (fun us ws => us ++ ws.reverse) (fun vs zs => vs ++ zs.reverse) := by
  obtain ⟨oc, od, kV, doc, pm, an, cdv, ct, osl, rfl, lk, hc⟩ := F.ex
  exact ⟨fun s us ws X l1 l2 => match us, l1, ws, l2 with | [u], _, [v, w], _ => .of_eq (hk kV doc pm an cdv ct u v w), fun r1 r2 => Vals.append r1 (Vals.reverse r2)⟩
end
end Cr

/-! own exceptions of any depth, raised -/
namespace Cr
open PySem PySem.Spec PyProof.Rows L2 Xv
section
variable {X : Cx} {k : Nat} {C fI : Addr} {fd : FuncData} {ps ks : List Str} {sp : Sp} {x f g : Str} {p pos : Pos} {e e2 : Expr} {es : List Expr} {ta tk : TA} {B newId initId : String} {bmB : List Value}
theorem run_mk {pins : List (Addr × Obj)} {σ : L2.St} {H : Hp} {s : Shared} {Q : XK} {us : List Value} {kw : List (Str × Value)} (b : Bas B newId initId bmB) (T : ExT X.K C fI newId bmB) (R : Raises X (.ref C)) (F1 : FnOk X.prog X.w X.K X.mg X.base CX0 k fI fd ps sp) (hr : Room (k + 1) X.A)
    (I : Inv X pins σ H s) (hz : us.length ≤ 1000) {al : Addr → List V} {bl : Addr → List Value} (hbl : ∀ a, Vals (al a) (bl a)) (hbind : ∀ a s', X.K.In s'.heap → BindsTo s' fd ⟨.ref a :: us, kw⟩ (ps.zip (bl a)))
    (h : ∀ a, H a = none → sp (al a) (upd H a (exo a C none)) (fun v H2 => v = .non ∧ ∃ d fs, H2 a = some (exo a C (some d)) ∧ H2 d = some (exd d fs) ∧ H d = none ∧ Q (.ref C) (some d) (upd (L2.del H2 a) d (.xd fs))) E0) :
    wpAny (model X.prog X.w) X.A (call (.ref C) us kw) (MkP X pins σ Q) X.xe s := by
  obtain ⟨nm, N', qn, bs, bm, hdct, sn, sub, ab, col, dd, k0, k1, k2, k3, k5, hC, hT⟩ := PySem.W.excInit_of I.kIn T.ini
  obtain ⟨hp, gg, dr, tk, os⟩ := s
  have hn : H (hp.objs.size + 1) = none := I.hok.fresh (Nat.le_succ _)
  have kk : ∀ b o, hp.get? b = some o → ((hp.push (PySem.W.kdv_tup us)).push (PySem.HandSPX.excO C hp.objs.size)).get? b = some o := fun b o e => Heap.get?_push_of_some _ (Heap.get?_push_of_some _ e)
  have hget : ((hp.push (PySem.W.kdv_tup us)).push (PySem.HandSPX.excO C hp.objs.size)).get? (hp.objs.size + 1) = some (PySem.HandSPX.excO C hp.objs.size) := by heap_get
  have I2 : Inv X pins σ (upd H (hp.objs.size + 1) (exo (hp.objs.size + 1) C none)) ⟨(hp.push (PySem.W.kdv_tup us)).push (PySem.HandSPX.excO C hp.objs.size), gg, dr, tk, os⟩ :=
    I.laid (t' := tk) (a := hp.objs.size + 1) (o := exo (hp.objs.size + 1) C none) (h' := (hp.push (PySem.W.kdv_tup us)).push (PySem.HandSPX.excO C hp.objs.size)) kk (Nat.le_succ _) (exo_ok hget)
  have hus : us.length ≤ sizeLine := by
    rw [sizeLine_eq]
    omega
  refine wpAny_call (PySem.Xv.call_kw b.F hT hC (PySem.W.looks_findIn I.kIn T.iC) (fun self => PySem.W.bind_fn I.kIn self (beq_iff_eq.mp T.fn)) hus
    (codeAny_mono (F1.run _ X.stack _ _ ⟨Value.ref (hp.objs.size + 1) :: us, kw⟩ _ _ _ E0 (hr.make C us kw) (I2.env0.make C us kw) (hbind _ _ I2.kIn) (hbl (hp.objs.size + 1)) (h _ hn)) fun r s' hq' => ?_))
  cases r with
  | error er => exact False.elim hq'
  | ok fl =>
    cases fl with
    | ret u =>
      obtain ⟨v, H2, os2, bare2, un2, hok2, rv, ev, d, fs, ea, ed, hd1, q2⟩ := hq'
      subst ev
      obtain ⟨h2, g2, d2, t2, os'⟩ := s'
      exact ⟨rv, mk_end R I (Nat.le_succ _) kk un2 hok2 os2 bare2 ea ed hd1 q2⟩
    | next => exact False.elim hq'
    | brk => exact False.elim hq'
    | cont => exact False.elim hq'
/-- C(e, ..), to be raised -/
def tMkX (C : Addr) (ta : TA) (fo : List V → List (Str × V)) (n : Nat) : L2.St → Hp → XK → Prop := fun σ H Q => ta σ H fun vs H1 => vs.length = n ∧ ∀ d, H1 d = none → Q (.ref C) (some d) (upd H1 d (.xd (fo vs)))
theorem upd_del {H1 H2 : Hp} {a d : Addr} {o o1 : HO} (ha : H1 a = none) (hd : H1 d = none) (same : ∀ b, b ≠ a → b ≠ d → H2 b = H1 b) : upd (L2.del H2 a) d o = upd H1 d o := by
  funext b
  by_cases e : b = d
  · rw [e, upd_same, upd_same]
  · rw [upd_ne e, upd_ne e]
    by_cases e2 : b = a
    · rw [e2, del_same, ha]
    · rw [del_ne e2]
      exact same b e2 e
theorem pmk_1 (c : Ex1 X.prog X.w X.K X.mg X.base x C f) (R : Raises X (.ref C)) (hr : Room k X.A) (hk : 2 ≤ k) (hg : Gl X x) (ha : PA X [e] ta) (hdb : (x == ("__debug__" : Str)) = false := by decide) (he : starEach [e] X.env = (false, eval e X.env) :: starEach [] X.env := by rfl) :
    PMk X (.Call (.Name x p) [e] [] pos) (tMkX C ta (fun vs => [(f, vs.headD .non)]) 1) := by
  obtain ⟨fI, fd, B, newId, initId, bmB, b, T, F, bi, _⟩ := c.ex
  intro pins s σ H Q I h
  refine wpAny_Call_Name_kw (ld_glob I hg c.gm ?_ hdb)
  refine PySem.W.callWith_K (h₀ := X.base) I.ok.mod.kin T.kC (thn (ha.run pos pins s σ H _ I h) fun us s1 ⟨vs, H1, I1, r1, hz, q1⟩ => ⟨I1.kIn, ?_⟩) he (by rfl)
  match vs, hz with
  | [v], _ =>
    have hl : us.length = 1 := by rw [← r1.length] <;> rfl
    refine run_mk (al := fun a => [.ref a, v]) (bl := fun a => .ref a :: us) b T R F (hr.mono hk) I1 (by show us.length ≤ 1000; omega) (fun a => .cons rfl r1)
      (fun a s' ki => by
        have z := bi s' (.ref a :: us) ki (by rw [List.append_nil, List.length_cons, hl] <;> rfl)
        rw [List.append_nil] at z
        exact z) fun a n => ?_
    refine ⟨a, v, rfl, upd_same, fun dx nd ne => ⟨rfl, dx, [(f, v)], upd_same, by rw [upd_ne ne, upd_same], by rw [upd_ne ne] at nd; exact nd, ?_⟩⟩
    rw [upd_ne ne] at nd
    rw [upd_del (o1 := .own a) n nd (fun b h1 h2 => by rw [upd_ne h1, upd_ne h2, upd_ne h1])]
    exact q1 dx nd
theorem pmk_2 (c : Ex2 X.prog X.w X.K X.mg X.base x C f g) (R : Raises X (.ref C)) (hr : Room k X.A) (hk : 2 ≤ k) (hg : Gl X x) (ha : PA X [e, e2] ta) (hdb : (x == ("__debug__" : Str)) = false := by decide) (he : starEach [e, e2] X.env = (false, eval e X.env) :: starEach [e2] X.env := by rfl)
    (hpl : (backTo pos (starEach [e2] X.env)).any (·.1) = false := by rfl) :
    PMk X (.Call (.Name x p) [e, e2] [] pos) (fun σ H Q => ta σ H fun vs H1 => vs.length = 2 ∧ ∀ d H', Same H1 H' → H1 d = none → H' d = some (.xd [(g, vs.getD 1 .non), (f, vs.headD .non)]) → Q (.ref C) (some d) H') := by
  obtain ⟨fI, fd, B, newId, initId, bmB, b, T, F, bi, _⟩ := c.ex
  intro pins s σ H Q I h
  refine wpAny_Call_Name_kw (ld_glob I hg c.gm ?_ hdb)
  refine PySem.W.callWith_K (h₀ := X.base) I.ok.mod.kin T.kC (thn (ha.run pos pins s σ H _ I h) fun us s1 ⟨vs, H1, I1, r1, hz, q1⟩ => ⟨I1.kIn, ?_⟩) he hpl
  match vs, hz with
  | [v, v2], _ =>
    have hl : us.length = 2 := by rw [← r1.length] <;> rfl
    refine run_mk (al := fun a => [.ref a, v, v2]) (bl := fun a => .ref a :: us) b T R F (hr.mono hk) I1 (by show us.length ≤ 1000; omega) (fun a => .cons rfl r1)
      (fun a s' ki => by
        have z := bi s' (.ref a :: us) ki (by rw [List.append_nil, List.length_cons, hl] <;> rfl)
        rw [List.append_nil] at z
        exact z) fun a n => ?_
    refine ⟨a, v, v2, rfl, upd_same, fun dx nd ne H' sm ea ed => ⟨rfl, dx, _, ea, ed, by rw [upd_ne ne] at nd; exact nd, ?_⟩⟩
    rw [upd_ne ne] at nd
    refine q1 dx _ (fun y o hy => ?_) nd upd_same
    have ya : y ≠ a := ne_of_none hy n
    rw [upd_ne (ne_of_none hy nd), del_ne ya]
    have z := sm y o (by rw [upd_ne ya]; exact hy)
    simp only [if_neg ya] at z
    exact z
end
end Cr

/-! new rows out of rows -/
namespace Cr
open PySem PySem.Spec PyProof.Rows L2 Xv
theorem pr_mem2 {α β : Type} {F : α → β → Prop} : ∀ {as : List α} {bs : List β} {a : α}, Paired F as bs → a ∈ as → ∃ b, F a b
  | _, _, _, .nil, h => nomatch h
  | _, _, _, .cons h t, m => by
    rcases List.mem_cons.mp m with z | z
    · exact ⟨_, z ▸ h⟩
    · exact pr_mem2 t z
/-- a new row out of a row: g of each entry, as te reads it -/
theorem map_lc {K : PySem.W.Frag} {J : It} {G : Hp → Prop} {es : List V} {r : Rw} {σ : L2.St} {H1 : Hp} {D : Addr} {Qd : Hp → Prop} {vs : List Nat} {i1 i2 : Nat} {te : TE} {g : Int × Int → Int × Int} (W : Walk J es.length G (YAt es)) (hG : ∀ H', Same H1 H' → G H') (hp : Paired (fun x (e : Int × Int) => ∃ t, x = V.ref t ∧ H1 t = some (.tup [.int e.1, .int e.2])) es r) (hz : es.length ≤ 1000) (hD : H1 D = none)
    (hw : ∀ v w, wipe (((wipe σ vs).set i1 (some v)).set i2 (some w)) vs = wipe σ vs)
    (hte : ∀ (e : Int × Int) (H3 : Hp) (Qv : VK), e ∈ r → Same H1 H3 → (∀ H4 t, Same H3 H4 → H3 t = none → H4 t = some (.tup [.int (g e).1, .int (g e).2]) → Qv (.ref t) H4) → te (((wipe σ vs).set i1 (some (.int e.1))).set i2 (some (.int e.2))) H3 Qv)
    (hd : ∀ H2 S, Same H1 H2 → (∀ b, S b → Nw H1 H2 b) → Dt K S H2 (.ref D) (rowD (r.map g)) → Qd H2) :
    ∃ W : Nat → Nat → Hp → Prop, (∃ m, W 0 m (upd H1 D (.lst []))) ∧ ∀ i m H, W i m H →
      (J.stop i H ∧ Qd H) ∨ (J.go i H ∧ ∃ Nx : Hp → Prop, (∀ H', Nx H' → ∃ m', m' < m ∧ W (i + 1) m' H') ∧ ∀ x H', J.yld i H x H' → gTup K 2 (gCons (gName i1) (gCons (gName i2) gNil)) x (wipe σ vs) H' fun σ2 H2 => wipe σ2 vs = wipe σ vs ∧ tYes σ2 H2 fun b H3 =>
        if b = true then te σ2 H3 fun y H4 => ∃ acc, H4 D = some (.lst acc) ∧ acc.length < sizeLine ∧ Nx (upd H4 D (.lst (acc ++ [y]))) else Nx H3) := by
  have hl : es.length = r.length := Paired.length hp
  refine lc_it W (fun i H' => ∃ ts : List Addr, ts.length = i ∧ H' D = some (.lst (ts.map V.ref)) ∧ Same H1 H' ∧ (∀ t ∈ ts, H1 t = none ∧ t ≠ D) ∧ Paired (fun t (e : Int × Int) => H' t = some (.tup [.int (g e).1, .int (g e).2])) ts (r.take i))
    ⟨[], rfl, upd_same, same_upd hD, by simp, .nil⟩ (fun i H' _ ⟨_, _, _, s, _⟩ => hG _ s) (fun i x H' H'' hi e y => ?_) (fun H' e => ?_)
  · obtain ⟨rfl, hx⟩ := y
    obtain ⟨ts, e1, e2, e3, e4, e5⟩ := e
    obtain ⟨e, he, t0, rfl, ht0⟩ := Xv.paired_get hp hx
    refine ⟨t0, _, rfl, .inl (.inl (e3 _ _ ht0)), rfl, _, _, rfl, _, _, rfl, ⟨rfl, hw _ _, ?_⟩⟩
    unfold tYes
    dsimp only
    rw [if_pos rfl]
    refine hte e H'' _ (List.mem_of_getElem? he) e3 fun H4 t s4 nt ht => ?_
    have ntD : D ≠ t := ne_of_none e2 nt
    have nt1 : H1 t = none := e3.free nt
    refine ⟨_, s4 _ _ e2, by rw [List.length_map, sizeLine_eq]; omega, ts ++ [t], by rw [List.length_append, e1]; rfl, by rw [upd_same, List.map_append]; rfl, fun b o q => ?_, fun s hs => ?_, ?_⟩
    · rw [upd_ne (ne_of_none q hD)]
      exact s4 _ _ (e3 _ _ q)
    · rcases List.mem_append.mp hs with z | z
      · exact e4 s z
      · rw [List.mem_singleton.mp z]
        exact ⟨nt1, ntD.symm⟩
    · rw [Xv.take_step he]
      refine pr_app (pr_map e5 fun s e' hs q => ?_) (.cons ?_ .nil)
      · rw [upd_ne (e4 s hs).2]
        exact s4 _ _ q
      · rw [upd_ne ntD.symm]
        exact ht
  · obtain ⟨ts, e1, e2, e3, e4, e5⟩ := e
    rw [hl, List.take_length] at e5
    refine hd H' (fun b => b = D ∨ b ∈ ts) e3 (fun b hb => ?_) ?_
    · rcases hb with z | z
      · subst z
        exact ⟨hD, by rw [e2]; simp⟩
      · obtain ⟨e, q⟩ := pr_mem2 e5 z
        exact ⟨(e4 b z).1, by rw [q]; simp⟩
    · refine .lst (by rw [vw_at (.inl rfl)]; exact e2) ?_
      have all : ∀ {us : List Addr} {q : Rw}, (∀ t ∈ us, t ∈ ts) → Paired (fun t (e : Int × Int) => H' t = some (.tup [.int (g e).1, .int (g e).2])) us q → TrAll (Vw (fun b => b = D ∨ b ∈ ts) H') (us.map V.ref) ((q.map g).map fun e => .tuple [.int e.1, .int e.2]) := fun {us q} hm hq => by
        induction hq with
        | nil => exact .nil
        | cons h _ ih => exact .cons (.tup (by rw [vw_at (.inr (hm _ List.mem_cons_self))]; exact h) (.cons (.int _) (.cons (.int _) .nil))) (ih fun t ht => hm t (List.mem_cons_of_mem _ ht))
      exact all (fun _ h => h) e5
/-- new rows out of rows -/
theorem rows_map {K : PySem.W.Frag} {J : It} {G : Hp → Prop} {xs : List V} {rs : List Rw} {σ : L2.St} {vs ws : List Nat} {i0 i1 i2 : Nat} {te : TE} {g : Int × Int → Int × Int} {H1 : Hp} {D : Addr} {Qd : Hp → Prop} (W : Walk J xs.length G (YAt xs)) (hG : ∀ H', Same H1 H' → G H') (hp : Paired (RowP H1) xs rs) (hz : xs.length ≤ 1000) (hz2 : ∀ r ∈ rs, r.length ≤ 1000) (hD : H1 D = none)
    (hw0 : ∀ v, wipe ((wipe σ vs).set i0 (some v)) vs = wipe σ vs) (h0 : ∀ v, ((wipe σ vs).set i0 (some v))[i0]? = some (some v))
    (hw : ∀ x v w, wipe (((wipe ((wipe σ vs).set i0 (some x)) ws).set i1 (some v)).set i2 (some w)) ws = wipe ((wipe σ vs).set i0 (some x)) ws) (hw2 : ∀ x, wipe (wipe ((wipe σ vs).set i0 (some x)) ws) vs = wipe σ vs)
    (hte : ∀ (x : V) (r : Rw) (e : Int × Int) (H3 : Hp) (Qv : VK), r ∈ rs → e ∈ r → Same H1 H3 → (∀ H4 t, Same H3 H4 → H3 t = none → H4 t = some (.tup [.int (g e).1, .int (g e).2]) → Qv (.ref t) H4) → te (((wipe ((wipe σ vs).set i0 (some x)) ws).set i1 (some (.int e.1))).set i2 (some (.int e.2))) H3 Qv)
    (hd : ∀ H2 S, Same H1 H2 → (∀ b, S b → Nw H1 H2 b) → Dt K S H2 (.ref D) (rowsD (rs.map fun r => r.map g)) → Qd H2) :
    ∃ W : Nat → Nat → Hp → Prop, (∃ m, W 0 m (upd H1 D (.lst []))) ∧ ∀ i m H, W i m H →
      (J.stop i H ∧ Qd H) ∨ (J.go i H ∧ ∃ Nx : Hp → Prop, (∀ H', Nx H' → ∃ m', m' < m ∧ W (i + 1) m' H') ∧ ∀ x H', J.yld i H x H' → gName i0 x (wipe σ vs) H' fun σ2 H2 => wipe σ2 vs = wipe σ vs ∧ tYes σ2 H2 fun b H3 =>
        if b = true then tLc (iSeq K (tVar i0)) (gTup K 2 (gCons (gName i1) (gCons (gName i2) gNil))) tYes te ws σ2 H3 fun y H4 => ∃ acc, H4 D = some (.lst acc) ∧ acc.length < sizeLine ∧ Nx (upd H4 D (.lst (acc ++ [y]))) else Nx H3) := by
  have hl : xs.length = rs.length := Paired.length hp
  refine lc_it W (fun i H' => ∃ (ls : List Addr) (S : Addr → Prop), ls.length = i ∧ H' D = some (.lst (ls.map V.ref)) ∧ Same H1 H' ∧ (∀ b, S b → Nw H1 H' b ∧ b ≠ D) ∧ Paired (fun l r => Dt K S H' (.ref l) (rowD (r.map g))) ls (rs.take i))
    ⟨[], fun _ => False, rfl, upd_same, same_upd hD, fun _ z => z.elim, .nil⟩ (fun i H' _ ⟨_, _, _, _, s, _⟩ => hG _ s) (fun i x H' H'' hi e y => ?_) (fun H' e => ?_)
  · obtain ⟨rfl, hx⟩ := y
    obtain ⟨ls, S, e1, e2, e3, e4, e5⟩ := e
    obtain ⟨r, hr, rp⟩ := Xv.paired_get hp hx
    obtain ⟨a, es, rfl, hxs, hps⟩ := rp.same e3
    have hle : es.length ≤ 1000 := by
      rw [show es.length = r.length from Paired.length hps]
      exact hz2 r (List.mem_of_getElem? hr)
    refine ⟨hw0 _, ?_⟩
    unfold tYes
    dsimp only
    rw [if_pos rfl]
    have fin : ∀ D2, H'' D2 = none → ∀ (H2 : Hp) (S2 : Addr → Prop), Same H'' H2 → (∀ b, S2 b → Nw H'' H2 b) → Dt K S2 H2 (.ref D2) (rowD (r.map g)) →
        ∃ acc, H2 D = some (.lst acc) ∧ acc.length < sizeLine ∧ ∃ (ls : List Addr) (S : Addr → Prop), ls.length = i + 1 ∧ upd H2 D (.lst (acc ++ [V.ref D2])) D = some (.lst (ls.map V.ref)) ∧ Same H1 (upd H2 D (.lst (acc ++ [V.ref D2]))) ∧ (∀ b, S b → Nw H1 (upd H2 D (.lst (acc ++ [V.ref D2]))) b ∧ b ≠ D) ∧ Paired (fun l r => Dt K S (upd H2 D (.lst (acc ++ [V.ref D2]))) (.ref l) (rowD (r.map g))) ls (rs.take (i + 1)) := fun D2 hD2 H2 S2 s2 n2 d2 => by
      have nS2 : ∀ b, S2 b → b ≠ D := fun b hb z => by
        have := (n2 b hb).1
        rw [z, e2] at this
        cases this
      have fr : Fr (fun b => b = D) H'' (upd H2 D (.lst (ls.map V.ref ++ [V.ref D2]))) := fun b o n q => by
        rw [upd_ne n]
        exact s2 _ _ q
      refine ⟨_, s2 _ _ e2, by rw [List.length_map, sizeLine_eq]; omega, ls ++ [D2], fun b => S b ∨ S2 b, by rw [List.length_append, e1]; rfl, by rw [upd_same, List.map_append]; rfl, fun b o q => ?_, fun b hb => ?_, ?_⟩
      · rw [upd_ne (ne_of_none q hD)]
        exact s2 _ _ (e3 _ _ q)
      · rcases hb with z | z
        · obtain ⟨⟨z1, z2⟩, z3⟩ := e4 b z
          refine ⟨⟨z1, ?_⟩, z3⟩
          obtain ⟨o, q⟩ := Option.ne_none_iff_exists'.mp z2
          rw [upd_ne z3, s2 _ _ q]
          simp
        · refine ⟨⟨?_, ?_⟩, nS2 b z⟩
          · cases q : H1 b with
            | none => rfl
            | some o =>
              have := (n2 b z).1
              rw [e3 _ _ q] at this
              cases this
          · rw [upd_ne (nS2 b z)]
            exact (n2 b z).2
      · rw [Xv.take_step hr]
        refine pr_app (pr_map e5 fun l q _ d => Dt.mono (d.fr fr fun b hb => (e4 b hb).2) fun b hb => .inl hb) (.cons ?_ .nil)
        exact Dt.mono (d2.fr (M := fun b => b = D) (Fr.set (Fr.refl _ _) rfl) fun b hb => nS2 b hb) fun b hb => .inr hb
    rcases hxs with z | z
    · exact ⟨_, h0 _, a, es, rfl, .inl ⟨SqL.of z, fun D2 hD2 => map_lc walk_list (fun H' s => SqL.of (s _ _ z)) hps hle hD2 (hw _) (fun e H3 Qv he s3 q => hte _ r e H3 Qv (List.mem_of_getElem? hr) he (e3.trans s3) q) fun H2 S2 s2 n2 d2 => fin D2 hD2 H2 S2 s2 n2 d2⟩⟩
    · exact ⟨_, h0 _, a, es, rfl, .inr ⟨.inl (.inl z), fun D2 hD2 => map_lc walk_tup (fun H' s => .inl (.inl (s _ _ z))) hps hle hD2 (hw _) (fun e H3 Qv he s3 q => hte _ r e H3 Qv (List.mem_of_getElem? hr) he (e3.trans s3) q) fun H2 S2 s2 n2 d2 => fin D2 hD2 H2 S2 s2 n2 d2⟩⟩
  · obtain ⟨ls, S, e1, e2, e3, e4, e5⟩ := e
    rw [hl, List.take_length] at e5
    refine hd H' (fun b => S b ∨ b = D) e3 (fun b hb => ?_) ?_
    · rcases hb with z | z
      · exact (e4 b z).1
      · subst z
        exact ⟨hD, by rw [e2]; simp⟩
    · refine .lst (by rw [vw_at (.inr rfl)]; exact e2) ?_
      have all : ∀ {us : List Addr} {q : List Rw}, Paired (fun l r => Dt K S H' (.ref l) (rowD (r.map g))) us q → TrAll (Vw (fun b => S b ∨ b = D) H') (us.map V.ref) ((q.map fun r => r.map g).map rowD) := fun {us q} hq => by
        induction hq with
        | nil => exact .nil
        | cons h _ ih => exact .cons (Dt.mono h fun b hb => .inl hb) ih
      exact all e5
end Cr

namespace K21
open PySem PySem.Spec PyProof.Rows L2 Xv Cr TL
abbrev s_anyr : Stmt := top 52
abbrev N_anyr : List Str := ["_law_pot_here", "_law_states_now", "_law_many", "_law_top", "_law_state", "_law_deed"]
theorem sc_anyr : FnScope N_anyr ["_law_pot_here", "_law_states_now", "_law_many"] (defScope s_anyr) := ⟨rfl, rfl, rfl, by decide +kernel, rfl, by decide +kernel, by decide +kernel⟩
def spRowsM : Sp := fun vs H Q _ => ∃ (p : Addr) (n m : Nat), vs = [.ref p, .int (n : Nat), .int (m : Nat)] ∧ Pot H p ∧ 0 < n ∧ n ≤ 10 ∧ m ≤ 20 ∧ ∀ H' L ls rs S, But p H H' → Pot H' p → RowsN H H' L ls rs S → Tb n m rs → Q (.ref L) H'
theorem RowsN.base {B B2 H : Hp} {L : Addr} {ls : List Addr} {rs : List Rw} {S : Addr → Prop} (h : RowsN B H L ls rs S) (f : ∀ b, B b = none → B2 b = none) : RowsN B2 H L ls rs S :=
  ⟨h.at_, h.nd, fun l hl => ⟨f l (h.new l hl).1, (h.new l hl).2⟩, f L h.nL, fun b hb => f b (h.nS b hb), h.rows⟩
def okE (n : Nat) (e : Int × Int) : Prop := (0 ≤ e.1 ∧ e.1 < 10) ∧ 0 ≤ e.2 ∧ e.2 < (n : Int)
theorem tb_mk {n m : Nat} {rs : List Rw} (hl : rs.length = n) (h : ∀ (i : Nat) (r : Rw), rs[i]? = some r → r.length = m ∧ ∀ e ∈ r, okE n e) : Tb n m rs := ⟨hl, fun r hr => by
  obtain ⟨i, hi, rfl⟩ := List.getElem_of_mem hr
  exact h i _ (List.getElem?_eq_getElem hi)⟩
section
variable {P : Program} {w : World} {K : PySem.W.Frag} {mg : Str → Option Value} {base : Heap} {f : Addr} {fd : FuncData}
theorem ok_anyr (F : Fun K "_law_any_rows" "_law_any_rows" s_anyr f fd) (T : Bl mg) (c_draw : Cl P w K mg base 1 "_law_draw" spDraw) (c_pick : Cl P w K mg base 2 "_law_pick" spPick) : FnOk P w K mg base CX0 3 f fd ["_law_pot_here", "_law_states_now", "_law_many"] spRowsM := by
  refine F.ok sc_anyr (fun vs H Q E h => ?_) (fun cdv A outer s H vs Q E hr h => ?_)
  · obtain ⟨p, n, m, rfl, _⟩ := h
    rfl
  · obtain ⟨p, n, m, rfl, hP, n0, n10, m20, q⟩ := h
    refine ⟨_, (pss_cons (ps_set (i := 3) sc_anyr.nd rfl (Or.inr rfl) (pe_cl c_pick hr (by decide) (by rfl) (pa_cons (pv 0) (pa_cons (pe_lst (pa_cons pe_int (pa_cons pe_int (pa_cons pe_int (pa_cons pe_int (pa_cons pe_int pa_nil)))))) pa_nil))))
  (pss_one (ps_ret (pe_lc (own := [("_law_state", 4)]) (g := gName 4) (tt := tYes) (te := tLc (iRng1 (tCons (tVar 2) tNil)) (gName 5) tYes (tTup (tCons (tCall spDraw [] E0 (tCons (tVar 0) (tCons (tVar 3) tNil))) (tCons (tCall spDraw [] E0 (tCons (tVar 0) (tCons (tVar 1) tNil))) tNil))) [5]) rfl sc_anyr.nd (pi_range1 rfl T.range (pa_cons (pv 1) pa_nil)) (blkOk_by (N := N_anyr) (sc := defScope s_anyr) (by decide +kernel)) (fun _ _ _ _ _ => (pg_name (i := 4) sc_anyr.nd rfl (Or.inl rfl))) (fun _ _ _ _ _ => pts_nil) (fun _ _ _ _ _ => (pe_lc (own := [("_law_deed", 5)]) (g := gName 5) (tt := tYes) (te := tTup (tCons (tCall spDraw [] E0 (tCons (tVar 0) (tCons (tVar 3) tNil))) (tCons (tCall spDraw [] E0 (tCons (tVar 0) (tCons (tVar 1) tNil))) tNil))) rfl sc_anyr.nd (pi_range1 rfl T.range (pa_cons (pv 2) pa_nil)) (blkOk_by (by kernel_rfl)) (fun _ _ _ _ _ => (pg_name (i := 5) sc_anyr.nd rfl (Or.inl rfl))) (fun _ _ _ _ _ => pts_nil) (fun _ _ _ _ _ => (pe_tup (pa_cons (pe_cl c_draw hr (by decide) (by rfl) (pa_cons (pv 0) (pa_cons (pv 3) pa_nil))) (pa_cons (pe_cl c_draw hr (by decide) (by rfl) (pa_cons (pv 0) (pa_cons (pv 1) pa_nil))) pa_nil)))))))))), ?_⟩
    refine ⟨_, rfl, by show 5 ≤ sizeLine; decide, fun a na => ?_⟩
    have npa : p ≠ a := pot_ne hP na
    refine ⟨p, .ref a, rfl, pot_same hP (same_upd na), .inl ⟨a, _, rfl, npa.symm, upd_same, by show 0 < 5; decide, by show 5 < 1000; decide, fun H2 i x hx b2 P2 => ?_⟩⟩
    obtain ⟨top, rfl, t1, t10⟩ : ∃ k : Int, x = .int k ∧ 1 ≤ k ∧ k ≤ 10 := by
      match i, hx with
      | 0, hx => exact ⟨1, (Option.some.inj hx).symm, by decide, by decide⟩
      | 1, hx => exact ⟨1, (Option.some.inj hx).symm, by decide, by decide⟩
      | 2, hx => exact ⟨2, (Option.some.inj hx).symm, by decide, by decide⟩
      | 3, hx => exact ⟨3, (Option.some.inj hx).symm, by decide, by decide⟩
      | 4, hx => exact ⟨10, (Option.some.inj hx).symm, by decide, by decide⟩
      | i + 5, hx => simp at hx
    have b02 : But p H H2 := (Same.but (same_upd na)).trans b2
    refine ⟨_, rfl, _, rfl, by omega, by omega, fun L nL => ?_⟩
    have fr0 : ∀ b, H2 b = none → H b = none := fun b hb => but_free b02 (pot_off P2 hb) hb
    refine rows_mk (f := fun i => V.int (0 + (i : Nat))) (n := n) (ok := fun _ r => r.length = m ∧ ∀ e ∈ r, okE n e) (p := p) (vs := [4]) (i1 := 4) (σ := [some (.ref p), some (.int (n : Nat)), some (.int (m : Nat)), some (.int top), none, none]) walk_range P2 (fun _ _ => trivial) (by omega) nL (fun _ => rfl) (fun i H3 Qv hi b3 P3 k => ?_) (fun H3 ls rs S b3 P3 RN hl hok => q H3 L ls rs S (b02.trans b3) P3 (RN.base fr0) (tb_mk hl hok))
    refine ⟨_, rfl, _, rfl, by omega, by omega, fun L2 nL2 => ?_⟩
    refine row_mk (f := fun i => V.int (0 + (i : Nat))) (n := m) (ok := fun _ e => okE n e) (p := p) (vs := [5]) (i1 := 5) (σ := [some (.ref p), some (.int (n : Nat)), some (.int (m : Nat)), some (.int top), some (.int (0 + (i : Nat))), none]) walk_range P3 (fun _ _ => trivial) (by omega) nL2 (fun _ => rfl) (fun j H4 Qw hj b4 P4 k2 => ?_) (fun H4 es r S b4 P4 h4 rl nS hes hok => k H4 L2 es r S b4 P4 nL2 h4 nS hes ⟨rl, fun e he => ?_⟩)
    · refine ⟨_, rfl, _, rfl, p, top, rfl, P4, by omega, by omega, fun H5 a5 b5 P5 a0 a1 => ⟨_, rfl, _, rfl, p, (n : Nat), rfl, P5, by omega, by omega, fun H6 c b6 P6 c0 c1 => ⟨by show 2 ≤ sizeLine; decide, fun t nt => ?_⟩⟩⟩
      exact k2 _ t (a5, c) ((b5.trans b6).trans (Same.but (same_upd nt))) (pot_same P6 (same_upd nt)) (but_free (b5.trans b6) (pot_off P6 nt) nt) upd_same ⟨⟨a0, by show a5 < 10; omega⟩, c0, c1⟩
    · obtain ⟨j, hj, rfl⟩ := List.getElem_of_mem he
      exact hok j _ (List.getElem?_eq_getElem hj)
end
end K21

namespace K21
open PySem PySem.Spec PyProof.Rows L2 Xv Cr TL
abbrev s_known : Stmt := top 53
abbrev N_known : List Str := ["_law_pot_here", "_law_states_now", "_law_many", "_law_way", "_law_last", "_law_rows", "_law_state", "_law_written", "_law_place", "_law_later"]
theorem sc_known : FnScope N_known ["_law_pot_here", "_law_states_now", "_law_many"] (defScope s_known) := ⟨rfl, rfl, rfl, by decide +kernel, rfl, by decide +kernel, by decide +kernel⟩
/-- what is written at the place j, of n states -/
def wr (n j : Nat) : Int := if (n : Int) - 1 < 0 + (j : Nat) + 1 then (n : Int) - 1 else 0 + (j : Nat) + 1
theorem wr_b {n : Nat} (h : 0 < n) (j : Nat) : 0 ≤ wr n j ∧ wr n j < (n : Int) := by
  unfold wr
  split <;> omega
/-- numbers, made by a comprehension over a range -/
theorem nums_mk {n : Nat} {σ : L2.St} {vs : List Nat} {i1 : Nat} {te : TE} {g : Nat → Int} {H1 : Hp} {D : Addr} {Qd : Hp → Prop} (hz : n ≤ 1000) (hD : H1 D = none)
    (hw : ∀ v, wipe ((wipe σ vs).set i1 (some v)) vs = wipe σ vs)
    (hte : ∀ (i : Nat) (H3 : Hp) (Qv : VK), i < n → Same H1 H3 → Qv (.int (g i)) H3 → te ((wipe σ vs).set i1 (some (.int (0 + (i : Nat))))) H3 Qv)
    (hd : ∀ H2, Same H1 H2 → H2 D = some (.lst ((List.range n).map fun i => V.int (g i))) → Qd H2) :
    ∃ W : Nat → Nat → Hp → Prop, (∃ m, W 0 m (upd H1 D (.lst []))) ∧ ∀ i m H, W i m H →
      ((Itr 0 n).stop i H ∧ Qd H) ∨ ((Itr 0 n).go i H ∧ ∃ Nx : Hp → Prop, (∀ H', Nx H' → ∃ m', m' < m ∧ W (i + 1) m' H') ∧ ∀ x H', (Itr 0 n).yld i H x H' → gName i1 x (wipe σ vs) H' fun σ2 H2 => wipe σ2 vs = wipe σ vs ∧ tYes σ2 H2 fun b H3 =>
        if b = true then te σ2 H3 fun y H4 => ∃ acc, H4 D = some (.lst acc) ∧ acc.length < sizeLine ∧ Nx (upd H4 D (.lst (acc ++ [y]))) else Nx H3) := by
  refine lc_it walk_range (fun i H' => Same H1 H' ∧ H' D = some (.lst ((List.range i).map fun i => V.int (g i)))) ⟨same_upd hD, upd_same⟩ (fun i H' _ p => trivial) (fun i x H' H'' hi e y => ?_) (fun H' e => hd H' e.1 e.2)
  obtain ⟨e1, e2⟩ := e
  obtain ⟨rfl, rfl⟩ := y
  refine ⟨hw _, ?_⟩
  unfold tYes
  dsimp only
  rw [if_pos rfl]
  refine hte i _ _ hi e1 ⟨_, e2, ?_, fun b o q => ?_, ?_⟩
  · rw [List.length_map, List.length_range, sizeLine_eq]
    omega
  · rw [upd_ne (ne_of_none q hD)]
    exact e1 _ _ q
  · rw [upd_same, List.range_succ, List.map_append]
    rfl
/-- a walk of such numbers -/
theorem walk_nums {K : PySem.W.Frag} {a : Addr} {n : Nat} {g : Nat → Int} : Walk (Itl K a) n (fun H => SqL K H a ((List.range n).map fun i => V.int (g i))) (YFn fun i => V.int (g i)) := by
  have w := walk_list (K := K) (a := a) (xs := (List.range n).map fun i => V.int (g i))
  rw [show ((List.range n).map fun i => V.int (g i)).length = n from by rw [List.length_map, List.length_range]] at w
  refine w.mono (fun _ h => h) fun i H x H' hi _ y => ⟨y.1, ?_⟩
  have h := y.2
  rw [List.getElem?_map, List.getElem?_range hi] at h
  exact (Option.some.inj h).symm
/-- a row more -/
theorem RowsN.snoc {B H : Hp} {L D : Addr} {ls : List Addr} {rs : List Rw} {S S2 : Addr → Prop} {es : List V} {r : Rw} (h : RowsN B H L ls rs S) (hD : H D = some (.lst es)) (nDL : D ≠ L) (nD : B D = none) (dl : D ∉ ls) (nS : ∀ b, S2 b → B b = none) (hes : Paired (TI S2 H) es r) :
    RowsN B (upd H L (.lst (ls.map V.ref ++ [V.ref D]))) L (ls ++ [D]) (rs ++ [r]) (fun u => S u ∨ S2 u) := by
  have up : ∀ {u : Addr} {ys : List V}, H u = some (.tup ys) → upd H L (.lst (ls.map V.ref ++ [V.ref D])) u = some (.tup ys) := fun {u ys} z => by
    rw [upd_ne (fun w => by rw [w, h.at_] at z; cases z)]
    exact z
  refine ⟨by rw [upd_same, List.map_append]; rfl, ?_, fun x hx => ?_, h.nL, fun b hb => hb.elim (h.nS b) (nS b), ?_⟩
  · rw [List.nodup_append]
    exact ⟨h.nd, by simp, fun x hx z hz w => dl (by rw [← List.mem_singleton.mp hz, ← w]; exact hx)⟩
  · rcases List.mem_append.mp hx with z | z
    · exact h.new x z
    · rw [List.mem_singleton.mp z]
      exact ⟨nD, nDL⟩
  · refine pr_app (pr_map h.rows fun x r0 hx ⟨es', h1, h2⟩ => ⟨es', by rw [upd_ne (h.new x hx).2]; exact h1, Paired.mapP h2 fun x e ⟨u, z1, z2, z3⟩ => ⟨u, z1, .inl z2, up z3⟩⟩) (.cons ⟨es, by rw [upd_ne nDL]; exact hD, Paired.mapP hes fun x e ⟨u, z1, z2, z3⟩ => ⟨u, z1, .inr z2, up z3⟩⟩ .nil)
section
variable {P : Program} {w : World} {K : PySem.W.Frag} {mg : Str → Option Value} {base : Heap} {f : Addr} {fd : FuncData}
theorem ok_known (F : Fun K "_law_known_rows" "_law_known_rows" s_known f fd) (T : Bl mg) (c_draw : Cl P w K mg base 1 "_law_draw" spDraw) : FnOk P w K mg base CX0 2 f fd ["_law_pot_here", "_law_states_now", "_law_many"] spRowsM := by
  refine F.ok sc_known (fun vs H Q E h => ?_) (fun cdv A outer s H vs Q E hr h => ?_)
  · obtain ⟨p, n, m, rfl, _⟩ := h
    rfl
  · obtain ⟨p, n, m, rfl, hP, n0, n10, m20, q⟩ := h
    refine ⟨_, (pss_cons (ps_asg (pe_tup (pa_cons (pe_cl c_draw hr (by decide) (by rfl) (pa_cons (pv 0) (pa_cons pe_int pa_nil))) (pa_cons (pe_op op_sub (pv 1) pe_int) pa_nil))) (pg_tup rfl (pgs_cons (pg_name (i := 3) sc_known.nd rfl (Or.inl rfl)) (pgs_cons (pg_name (i := 4) sc_known.nd rfl (Or.inr rfl)) pgs_nil))))
  (pss_cons (ps_set (i := 5) sc_known.nd rfl (Or.inl rfl) (pe_lst pa_nil))
  (pss_cons (ps_for PassesOwn.never rfl (pi_range1 rfl T.range (pa_cons (pv 1) pa_nil)) (pg_name (i := 6) sc_known.nd rfl (Or.inr rfl)) (pss_cons (ps_setLc (i := 7) (own := [("_law_place", 8)]) (g := gName 8) (tt := tYes) (te := (tCB rMin2 (tCons (tOp (rI0 fun i j => V.int (i + j)) (tVar 8) (tC (.int 1))) (tCons (tVar 4) tNil)))) rfl sc_known.nd rfl rfl (sw_true rfl rfl rfl (by decide +kernel)) (pi_range1 rfl T.range (pa_cons (pv 2) pa_nil)) (blkOk_by (N := N_known) (sc := defScope s_known) (by decide +kernel)) (fun _ _ _ _ _ => (pg_name (i := 8) sc_known.nd rfl (Or.inl rfl))) (fun _ _ _ _ _ => pts_nil) (fun _ _ _ _ _ => (pe_callB (id := "min") (call_m2 rfl) (by rfl) T.min (by decide +kernel) (pa_cons (pe_op op_add (pv 8) pe_int) (pa_cons (pv 4) pa_nil)))))
  (pss_one (ps_if (pt_cmpR op_eq (pv 3) pe_int (nomark _)) (pss_one (ps_expr (pe_bm PySem.F.plainAttrs_list PySem.F.slot_list_append PySem.F.type_list_append mt_append (pv 5) (pa_cons (pe_lc (own := [("_law_later", 9)]) (g := gName 9) (tt := tYes) (te := (tTup (tCons (tC (.int 0)) (tCons (tVar 9) tNil)))) rfl sc_known.nd (pi_list (pv 7)) (blkOk_by (N := N_known) (sc := defScope s_known) (by decide +kernel)) (fun _ _ _ _ _ => (pg_name (i := 9) sc_known.nd rfl (Or.inl rfl))) (fun _ _ _ _ _ => pts_nil) (fun _ _ _ _ _ => (pe_tup (pa_cons pe_int (pa_cons (pv 9) pa_nil))))) pa_nil)))) (pss_one (ps_if (pt_cmpR op_eq (pv 3) pe_int (nomark _)) (pss_one (ps_expr (pe_bm PySem.F.plainAttrs_list PySem.F.slot_list_append PySem.F.type_list_append mt_append (pv 5) (pa_cons (pe_lc (own := [("_law_later", 9)]) (g := gName 9) (tt := tYes) (te := (tTup (tCons (tC (.int 0)) (tCons (tIf (tTest (tOp rEq (tVar 6) (tC (.int 0)))) (tVar 9) (tVar 6)) tNil)))) rfl sc_known.nd (pi_list (pv 7)) (blkOk_by (N := N_known) (sc := defScope s_known) (by decide +kernel)) (fun _ _ _ _ _ => (pg_name (i := 9) sc_known.nd rfl (Or.inl rfl))) (fun _ _ _ _ _ => pts_nil) (fun _ _ _ _ _ => (pe_tup (pa_cons pe_int (pa_cons (pe_ifExp (pt_cmpR op_eq (pv 6) pe_int (nomark _)) (pv 9) (pv 6)) pa_nil))))) pa_nil)))) (pss_one (ps_if (pt_cmpR op_eq (pv 3) pe_int (nomark _)) (pss_one (ps_expr (pe_bm PySem.F.plainAttrs_list PySem.F.slot_list_append PySem.F.type_list_append mt_append (pv 5) (pa_cons (pe_lc (own := [("_law_later", 9)]) (g := gName 9) (tt := tYes) (te := (tTup (tCons (tVar 6) (tCons (tVar 9) tNil)))) rfl sc_known.nd (pi_list (pv 7)) (blkOk_by (N := N_known) (sc := defScope s_known) (by decide +kernel)) (fun _ _ _ _ _ => (pg_name (i := 9) sc_known.nd rfl (Or.inl rfl))) (fun _ _ _ _ _ => pts_nil) (fun _ _ _ _ _ => (pe_tup (pa_cons (pv 6) (pa_cons (pv 9) pa_nil))))) pa_nil)))) (pss_one (ps_if (pt_cmpR op_eq (pv 3) pe_int (nomark _)) (pss_one (ps_expr (pe_bm PySem.F.plainAttrs_list PySem.F.slot_list_append PySem.F.type_list_append mt_append (pv 5) (pa_cons (pe_lc (own := [("_law_place", 8)]) (g := gName 8) (tt := tYes) (te := (tTup (tCons (tVar 6) (tCons (tOp (rI (fun _ j => 0 < j) fun i j => V.int (i % j)) (tCB rInt1 (tCons (tOp (rI0 fun i j => V.int (i + j)) (tOp (rI0 fun i j => V.int (i + j)) (tVar 6) (tVar 8)) (tC (.int 1))) tNil)) (tVar 1)) tNil)))) rfl sc_known.nd (pi_range1 rfl T.range (pa_cons (pv 2) pa_nil)) (blkOk_by (N := N_known) (sc := defScope s_known) (by decide +kernel)) (fun _ _ _ _ _ => (pg_name (i := 8) sc_known.nd rfl (Or.inl rfl))) (fun _ _ _ _ _ => pts_nil) (fun _ _ _ _ _ => (pe_tup (pa_cons (pv 6) (pa_cons (pe_op op_mod (pe_callTy (T := "int") call_i1 (by rfl) T.int (by decide +kernel) (pa_cons (pe_op op_add (pe_op op_add (pv 6) (pv 8)) pe_int) pa_nil)) (pv 1)) pa_nil))))) pa_nil)))) (pss_one (ps_expr (pe_bm PySem.F.plainAttrs_list PySem.F.slot_list_append PySem.F.type_list_append mt_append (pv 5) (pa_cons (pe_lc (own := [("_law_later", 9)]) (g := gName 9) (tt := tYes) (te := (tTup (tCons (tC (.int 0)) (tCons (tIf (tTest (tOp rEq (tVar 6) (tC (.int 0)))) (tVar 9) (tOp (rI (fun _ j => 0 < j) fun i j => V.int (i % j)) (tCB rInt1 (tCons (tOp (rI0 fun i j => V.int (i + j)) (tVar 6) (tVar 2)) tNil)) (tVar 1))) tNil)))) rfl sc_known.nd (pi_list (pv 7)) (blkOk_by (N := N_known) (sc := defScope s_known) (by decide +kernel)) (fun _ _ _ _ _ => (pg_name (i := 9) sc_known.nd rfl (Or.inl rfl))) (fun _ _ _ _ _ => pts_nil) (fun _ _ _ _ _ => (pe_tup (pa_cons pe_int (pa_cons (pe_ifExp (pt_cmpR op_eq (pv 6) pe_int (nomark _)) (pv 9) (pe_op op_mod (pe_callTy (T := "int") call_i1 (by rfl) T.int (by decide +kernel) (pa_cons (pe_op op_add (pv 6) (pv 2)) pa_nil)) (pv 1))) pa_nil))))) pa_nil))))))))))))))
  (pss_one (ps_ret (pv 5)))))), ?_⟩
    refine ⟨_, rfl, p, 5, rfl, hP, by decide, by decide, fun H1 way b1 P1 w0 w1 => ⟨_, rfl, _, _, rfl, rfl, by show 2 ≤ sizeLine; decide, fun t nt => ⟨t, _, rfl, .inl (.inl upd_same), rfl, _, _, rfl, _, _, rfl, ⟨rfl, ?_⟩⟩⟩⟩
    have b2 : But p H (upd H1 t (.tup [.int way, .int ((n : Int) - 1)])) := b1.trans (Same.but (same_upd nt))
    have P2 := pot_same P1 (same_upd (o := .tup [.int way, .int ((n : Int) - 1)]) nt)
    generalize upd H1 t (.tup [.int way, .int ((n : Int) - 1)]) = H2 at b2 P2 ⊢
    refine ⟨by show 0 ≤ sizeLine; decide, fun L nL => ?_⟩
    have Lp := pot_off P2 nL
    have LH := but_free b2 Lp nL
    refine ⟨_, rfl, _, rfl, by omega, by omega, for_range (n := n) (fun i σ H' => ∃ u6 u7 u8 u9 ls rs S, σ = [some (.ref p), some (.int (n : Nat)), some (.int (m : Nat)), some (.int way), some (.int ((n : Int) - 1)), some (.ref L), u6, u7, u8, u9] ∧ But p H H' ∧ Pot H' p ∧ RowsN H H' L ls rs S ∧ rs.length = i ∧ ls.length = i ∧ ∀ (k : Nat) (r : Rw), rs[k]? = some r → r.length = m ∧ ∀ e ∈ r, okE n e)
      ⟨none, none, none, none, [], [], fun _ => False, rfl, b2.trans (Same.but (same_upd nL)), pot_same P2 (same_upd nL), ⟨upd_same, by simp, by simp, LH, fun _ z => z.elim, .nil⟩, rfl, rfl, fun k r z => by simp at z⟩ (fun i σ H3 hi e => ?_) (fun σ H3 e => ?_)⟩
    · obtain ⟨u6, u7, u8, u9, ls, rs, S, rfl, b3, P3, RN, r1, l1, rk⟩ := e
      refine ⟨_, rfl, _, rfl, by omega, by omega, fun Wd nW => ?_⟩
      refine nums_mk (n := m) (g := wr n) (vs := [8]) (i1 := 8) (σ := [some (.ref p), some (.int (n : Nat)), some (.int (m : Nat)), some (.int way), some (.int ((n : Int) - 1)), some (.ref L), some (.int (0 + (i : Nat))), u7, u8, u9]) (by omega) nW (fun _ => rfl) (fun j H4 Qv hj s4 k => ?_) (fun H4 s4 hW => ?_)
      · refine ⟨_, rfl, _, _, rfl, rfl, _, rfl, _, _, rfl, ?_⟩
        exact k
      · have RN4 : RowsN H H4 L ls rs S := RN.but (Same.but (p := p) s4) hP
        have b4 := b3.trans (Same.but (p := p) s4)
        have P4 := pot_same P3 s4
        have Wp := pot_off P3 nW
        have gb := wr_b n0
        have hWs : ∀ {G : Hp}, But p H4 G → SqL K G Wd ((List.range m).map fun j => V.int (wr n j)) := fun b => SqL.of (b _ _ Wp hW)
        have hLs := SqL.of (K := K) RN4.at_
        have fin : ∀ H5 D es r S2, But p H4 H5 → Pot H5 p → H4 D = none → H5 D = some (.lst es) → (∀ b, S2 b → H4 b = none) → Paired (TI S2 H5) es r → r.length = m → (∀ i e, r[i]? = some e → okE n e) →
            H5 L = some (.lst (ls.map V.ref)) ∧ (ls.map V.ref).length < sizeLine ∧ ∃ ls' rs' S', But p H (upd H5 L (.lst (ls.map V.ref ++ [V.ref D]))) ∧ Pot (upd H5 L (.lst (ls.map V.ref ++ [V.ref D]))) p ∧ RowsN H (upd H5 L (.lst (ls.map V.ref ++ [V.ref D]))) L ls' rs' S' ∧ rs'.length = i + 1 ∧ ls'.length = i + 1 ∧ ∀ (k : Nat) (r : Rw), rs'[k]? = some r → r.length = m ∧ ∀ e ∈ r, okE n e := fun H5 D es r S2 b5 P5 nD hD nS2 hes rl hok => by
          have RN5 : RowsN H H5 L ls rs S := RN4.but b5 hP
          have DL : D ≠ L := fun z => by rw [z, RN4.at_] at nD; cases nD
          refine ⟨RN5.at_, by rw [List.length_map, sizeLine_eq]; omega, _, _, _, but_new (b4.trans b5) LH, pot_upd P5 Lp.symm, RN5.snoc hD DL (but_free b4 (pot_off P4 nD) nD) (fun z => ?_) (fun b hb => but_free b4 (pot_off P4 (nS2 b hb)) (nS2 b hb)) hes, by rw [List.length_append, r1]; rfl, by rw [List.length_append, l1]; rfl, fun k r' hk => ?_⟩
          · obtain ⟨r0, es', h1, _⟩ := pr_mem RN4.rows z
            rw [nD] at h1
            cases h1
          · by_cases hk2 : k < rs.length
            · rw [List.getElem?_append_left hk2] at hk
              exact rk k r' hk
            · rw [List.getElem?_append_right (by omega)] at hk
              have hk0 : k = rs.length := by
                have := (List.getElem?_eq_some_iff.mp hk).1
                simp at this
                omega
              subst hk0
              rw [Nat.sub_self] at hk
              cases hk
              refine ⟨rl, fun e he => ?_⟩
              obtain ⟨q, hq, rfl⟩ := List.getElem_of_mem he
              exact hok q _ (List.getElem?_eq_getElem hq)
        refine ⟨_, rfl, rfl, _, rfl, ite2 (fun _ => ?_) (fun _ => ?_)⟩
        · refine ⟨_, rfl, .inl ⟨rfl, _, hLs⟩, _, rfl, Wd, rfl, ⟨_, hWs (But.refl _ _)⟩, fun D nD => ?_⟩
          refine row_mk (p := p) (vs := [9]) (i1 := 9) (ok := fun _ e => okE n e) (σ := [some (.ref p), some (.int (n : Nat)), some (.int (m : Nat)), some (.int way), some (.int ((n : Int) - 1)), some (.ref L), some (.int (0 + (i : Nat))), some (.ref Wd), u8, u9]) (f := fun j => V.int (wr n j)) (walk_nums (K := K) (a := Wd) (n := m) (g := wr n)) P4 (fun G b => hWs b) (by omega) nD (fun _ => rfl) (fun j H5 Qv hj b5 P5 k => ?_) (fun H5 es r S2 b5 P5 hD rl nS2 hes hok => ?_)
          · have gj := gb j
            exact ⟨_, rfl, by show 2 ≤ sizeLine; decide, fun t nt => k _ t (0, wr n j) (Same.but (same_upd nt)) (pot_same P5 (same_upd nt)) nt upd_same ⟨⟨by show (0 : Int) ≤ 0; omega, by show (0 : Int) < 10; omega⟩, gj.1, gj.2⟩⟩
          · obtain ⟨f1, f2, ls', rs', S', f3, f4, f5, f6, f7, f8⟩ := fin H5 D es r S2 b5 P5 nD hD nS2 hes rl hok
            exact ⟨L, _, _, rfl, rfl, f1, f2, _, _, _, _, ls', rs', S', rfl, f3, f4, f5, f6, f7, f8⟩
        · refine ⟨_, rfl, rfl, _, rfl, ite2 (fun _ => ?_) (fun _ => ?_)⟩
          · refine ⟨_, rfl, .inl ⟨rfl, _, hLs⟩, _, rfl, Wd, rfl, ⟨_, hWs (But.refl _ _)⟩, fun D nD => ?_⟩
            refine row_mk (p := p) (vs := [9]) (i1 := 9) (ok := fun _ e => okE n e) (σ := [some (.ref p), some (.int (n : Nat)), some (.int (m : Nat)), some (.int way), some (.int ((n : Int) - 1)), some (.ref L), some (.int (0 + (i : Nat))), some (.ref Wd), u8, u9]) (f := fun j => V.int (wr n j)) (walk_nums (K := K) (a := Wd) (n := m) (g := wr n)) P4 (fun G b => hWs b) (by omega) nD (fun _ => rfl) (fun j H5 Qv hj b5 P5 k => ?_) (fun H5 es r S2 b5 P5 hD rl nS2 hes hok => ?_)
            · have gj := gb j
              refine ⟨_, rfl, rfl, _, rfl, ite2 (fun _ => ?_) (fun _ => ?_)⟩
              · exact ⟨_, rfl, by show 2 ≤ sizeLine; decide, fun t nt => k _ t (0, wr n j) (Same.but (same_upd nt)) (pot_same P5 (same_upd nt)) nt upd_same ⟨⟨by show (0 : Int) ≤ 0; omega, by show (0 : Int) < 10; omega⟩, gj.1, gj.2⟩⟩
              · exact ⟨_, rfl, by show 2 ≤ sizeLine; decide, fun t nt => k _ t (0, 0 + ((i : Nat) : Int)) (Same.but (same_upd nt)) (pot_same P5 (same_upd nt)) nt upd_same ⟨⟨by show (0 : Int) ≤ 0; omega, by show (0 : Int) < 10; omega⟩, by show (0 : Int) ≤ 0 + (i : Nat); omega, by show 0 + ((i : Nat) : Int) < n; omega⟩⟩
            · obtain ⟨f1, f2, ls', rs', S', f3, f4, f5, f6, f7, f8⟩ := fin H5 D es r S2 b5 P5 nD hD nS2 hes rl hok
              exact ⟨L, _, _, rfl, rfl, f1, f2, _, _, _, _, ls', rs', S', rfl, f3, f4, f5, f6, f7, f8⟩
          · refine ⟨_, rfl, rfl, _, rfl, ite2 (fun _ => ?_) (fun _ => ?_)⟩
            · refine ⟨_, rfl, .inl ⟨rfl, _, hLs⟩, _, rfl, Wd, rfl, ⟨_, hWs (But.refl _ _)⟩, fun D nD => ?_⟩
              refine row_mk (p := p) (vs := [9]) (i1 := 9) (ok := fun _ e => okE n e) (σ := [some (.ref p), some (.int (n : Nat)), some (.int (m : Nat)), some (.int way), some (.int ((n : Int) - 1)), some (.ref L), some (.int (0 + (i : Nat))), some (.ref Wd), u8, u9]) (f := fun j => V.int (wr n j)) (walk_nums (K := K) (a := Wd) (n := m) (g := wr n)) P4 (fun G b => hWs b) (by omega) nD (fun _ => rfl) (fun j H5 Qv hj b5 P5 k => ?_) (fun H5 es r S2 b5 P5 hD rl nS2 hes hok => ?_)
              · have gj := gb j
                exact ⟨_, rfl, _, rfl, by show 2 ≤ sizeLine; decide, fun t nt => k _ t (0 + ((i : Nat) : Int), wr n j) (Same.but (same_upd nt)) (pot_same P5 (same_upd nt)) nt upd_same ⟨⟨by show (0 : Int) ≤ 0 + (i : Nat); omega, by show 0 + ((i : Nat) : Int) < 10; omega⟩, gj.1, gj.2⟩⟩
              · obtain ⟨f1, f2, ls', rs', S', f3, f4, f5, f6, f7, f8⟩ := fin H5 D es r S2 b5 P5 nD hD nS2 hes rl hok
                exact ⟨L, _, _, rfl, rfl, f1, f2, _, _, _, _, ls', rs', S', rfl, f3, f4, f5, f6, f7, f8⟩
            · refine ⟨_, rfl, rfl, _, rfl, ite2 (fun _ => ?_) (fun _ => ?_)⟩
              · refine ⟨_, rfl, .inl ⟨rfl, _, hLs⟩, _, rfl, _, rfl, by omega, by omega, fun D nD => ?_⟩
                refine row_mk (p := p) (vs := [8]) (i1 := 8) (ok := fun _ e => okE n e) (σ := [some (.ref p), some (.int (n : Nat)), some (.int (m : Nat)), some (.int way), some (.int ((n : Int) - 1)), some (.ref L), some (.int (0 + (i : Nat))), some (.ref Wd), u8, u9]) (f := fun j => V.int (0 + (j : Nat))) (n := m) walk_range P4 (fun _ _ => trivial) (by omega) nD (fun _ => rfl) (fun j H5 Qv hj b5 P5 k => ?_) (fun H5 es r S2 b5 P5 hD rl nS2 hes hok => ?_)
                · have gj := gb j
                  exact ⟨_, rfl, _, rfl, _, rfl, _, _, rfl, rfl, _, _, rfl, rfl, .inl ⟨_, rfl, _, rfl, _, _, rfl, rfl, (show (0 : Int) < (n : Int) by omega), by show 2 ≤ sizeLine; decide, fun t nt => k _ t (0 + ((i : Nat) : Int), (0 + ((i : Nat) : Int) + (0 + ((j : Nat) : Int)) + 1) % (n : Int)) (Same.but (same_upd nt)) (pot_same P5 (same_upd nt)) nt upd_same ⟨⟨by show (0 : Int) ≤ 0 + (i : Nat); omega, by show 0 + ((i : Nat) : Int) < 10; omega⟩, Int.emod_nonneg _ (by omega), Int.emod_lt_of_pos _ (by omega)⟩⟩⟩
                · obtain ⟨f1, f2, ls', rs', S', f3, f4, f5, f6, f7, f8⟩ := fin H5 D es r S2 b5 P5 nD hD nS2 hes rl hok
                  exact ⟨L, _, _, rfl, rfl, f1, f2, _, _, _, _, ls', rs', S', rfl, f3, f4, f5, f6, f7, f8⟩
              · refine ⟨_, rfl, .inl ⟨rfl, _, hLs⟩, _, rfl, Wd, rfl, ⟨_, hWs (But.refl _ _)⟩, fun D nD => ?_⟩
                refine row_mk (p := p) (vs := [9]) (i1 := 9) (ok := fun _ e => okE n e) (σ := [some (.ref p), some (.int (n : Nat)), some (.int (m : Nat)), some (.int way), some (.int ((n : Int) - 1)), some (.ref L), some (.int (0 + (i : Nat))), some (.ref Wd), u8, u9]) (f := fun j => V.int (wr n j)) (walk_nums (K := K) (a := Wd) (n := m) (g := wr n)) P4 (fun G b => hWs b) (by omega) nD (fun _ => rfl) (fun j H5 Qv hj b5 P5 k => ?_) (fun H5 es r S2 b5 P5 hD rl nS2 hes hok => ?_)
                · have gj := gb j
                  refine ⟨_, rfl, rfl, _, rfl, ite2 (fun _ => ?_) (fun _ => ?_)⟩
                  · exact ⟨_, rfl, by show 2 ≤ sizeLine; decide, fun t nt => k _ t (0, wr n j) (Same.but (same_upd nt)) (pot_same P5 (same_upd nt)) nt upd_same ⟨⟨by show (0 : Int) ≤ 0; omega, by show (0 : Int) < 10; omega⟩, gj.1, gj.2⟩⟩
                  · exact ⟨_, rfl, _, rfl, _, _, rfl, rfl, .inl ⟨_, rfl, _, rfl, _, _, rfl, rfl, (show (0 : Int) < (n : Int) by omega), by show 2 ≤ sizeLine; decide, fun t nt => k _ t (0, (0 + ((i : Nat) : Int) + (m : Nat)) % (n : Int)) (Same.but (same_upd nt)) (pot_same P5 (same_upd nt)) nt upd_same ⟨⟨by show (0 : Int) ≤ 0; omega, by show (0 : Int) < 10; omega⟩, Int.emod_nonneg _ (by omega), Int.emod_lt_of_pos _ (by omega)⟩⟩⟩
                · obtain ⟨f1, f2, ls', rs', S', f3, f4, f5, f6, f7, f8⟩ := fin H5 D es r S2 b5 P5 nD hD nS2 hes rl hok
                  exact ⟨L, _, _, rfl, rfl, f1, f2, _, _, _, _, ls', rs', S', rfl, f3, f4, f5, f6, f7, f8⟩
    · obtain ⟨u6, u7, u8, u9, ls, rs, S, rfl, b3, P3, RN, r1, l1, rk⟩ := e
      exact ⟨_, rfl, q H3 L ls rs S b3 P3 RN (tb_mk r1 rk)⟩
end
end K21

namespace K21
open PySem PySem.Spec PyProof.Rows L2 Xv Cr TL
abbrev s_model : Stmt := top 54
abbrev N_model : List Str := ["_law_pot_here", "_law_most_states", "_law_most_deeds", "_law_states_now", "_law_many", "_law_known", "_law_rows", "_law_turn"]
theorem sc_model : FnScope N_model ["_law_pot_here", "_law_most_states", "_law_most_deeds"] (defScope s_model) := ⟨rfl, rfl, rfl, by decide +kernel, rfl, by decide +kernel, by decide +kernel⟩
theorem ite_both {c : Prop} [Decidable c] {a : Prop} (h : a) : (if c then a else a) := by
  split <;> exact h
theorem ix_n {n i : Nat} (h : i < n) : ixN n (i : Int) = some i := by
  unfold ixN
  rw [if_pos (by omega), if_pos (by omega)]
  rfl
theorem RowsN.set {B H : Hp} {L a t : Addr} {ls : List Addr} {rs : List Rw} {S : Addr → Prop} {i j : Nat} {r : Rw} {es : List V} {e : Int × Int} (h : RowsN B H L ls rs S) (hi : ls[i]? = some a) (hr : rs[i]? = some r) (ha : H a = some (.lst es)) (ht : H t = some (.tup [.int e.1, .int e.2])) (nt : B t = none) :
    RowsN B (upd H a (.lst (es.set j (.ref t)))) L ls (rs.set i (r.set j e)) (fun b => S b ∨ b = t) := by
  obtain ⟨a', ha', es', h1, h2⟩ := paired_at h.rows hr
  rw [hi] at ha'
  cases ha'
  rw [ha] at h1
  cases h1
  exact ⟨by rw [upd_ne (h.new a (List.mem_of_getElem? hi)).2.symm]; exact h.at_, h.nd, h.new, h.nL, fun b hb => hb.elim (h.nS b) fun z => z ▸ nt, set_row h.rows h.nd hi hr ha h2 ht⟩
theorem tb_set {n m i j : Nat} {rs : List Rw} {r : Rw} {e : Int × Int} (h : Tb n m rs) (hr : rs[i]? = some r) (ok : okE n e) : Tb n m (rs.set i (r.set j e)) := by
  refine ⟨by rw [List.length_set]; exact h.1, fun r' hr' => ?_⟩
  rcases List.mem_or_eq_of_mem_set hr' with z | z
  · exact h.2 r' z
  · obtain ⟨h1, h2⟩ := h.2 r (List.mem_of_getElem? hr)
    subst z
    refine ⟨by rw [List.length_set]; exact h1, fun e' he' => ?_⟩
    rcases List.mem_or_eq_of_mem_set he' with w | w
    · exact h2 e' w
    · exact w ▸ ok
theorem tr_strs : ∀ (ns : List Str) {G : Hp}, TrAll G (ns.map V.str) (ns.map PyData.str)
  | [], _ => .nil
  | x :: r, _ => .cons (.str x) (tr_strs r)
theorem md_names {K : PySem.W.Frag} {S : Addr → Prop} {H : Hp} {l : Addr} {ns : List Str} (s : S l) (h : H l = some (.lst (ns.map V.str))) : Dt K S H (.ref l) (namesD ns) := .lst (by rw [vw_at s]; exact h) (tr_strs ns)
theorem mk_model {K : PySem.W.Frag} {S : Addr → Prop} {H : Hp} {m l t : Addr} {ns : List Str} {rs : List Rw} (hm : H m = some (.dK [])) (nS : ¬ S m) (hl : Dt K S H (.ref l) (namesD ns)) (ht : Dt K S H (.ref t) (rowsD rs)) : Dt K (fun b => S b ∨ b = m) (upd H m (.dK [(.inr "deeds", .ref l), (.inr "rows", .ref t)])) (.ref m) (modelD ns rs) := by
  have fr : ∀ b, S b → ¬ b = m := fun b hb z => nS (z ▸ hb)
  refine .dct (kvs := [(.inr "deeds", .ref l), (.inr "rows", .ref t)]) (by rw [vw_at (.inr rfl), upd_same]) (.cons ?_ (.cons ?_ .nil))
  · exact Dt.mono (hl.fr (M := fun b => b = m) (Fr.set (Fr.refl _ _) rfl) fr) fun b hb => .inl hb
  · exact Dt.mono (ht.fr (M := fun b => b = m) (Fr.set (Fr.refl _ _) rfl) fr) fun b hb => .inl hb
theorem dt_real {K : PySem.W.Frag} {S : Addr → Prop} {H : Hp} {v : V} {d : PyData} (h : Dt K S H v d) : Dt K (fun b => S b ∧ ∃ o, H b = some o) H v d := by
  refine Tr.same (fun b o e => ?_) h
  obtain ⟨sb, eb⟩ := vw_in e
  rw [vw_at ⟨sb, ⟨o, eb⟩⟩]
  exact eb
theorem pot_strs {H : Hp} {p l : Addr} {ns : List Str} (P : Pot H p) (h : H l = some (.lst (ns.map V.str))) : l ≠ p := fun z => by
  obtain ⟨_, _, e, _⟩ := P
  rw [← z, h] at e
  have e2 := HO.lst.inj (Option.some.inj e)
  cases ns with
  | nil => cases e2
  | cons a r => cases (List.cons.inj e2).1
section
variable {P : Program} {w : World} {K : PySem.W.Frag} {mg : Str → Option Value} {base : Heap} {f : Addr} {fd : FuncData}
theorem ok_model (F : Fun K "_law_model" "_law_model" s_model f fd) (T : Bl mg) (c_draw : Cl P w K mg base 1 "_law_draw" spDraw) (c_pick : Cl P w K mg base 2 "_law_pick" spPick) (c_names : Cl P w K mg base 3 "_law_names" spNames) (c_known : Cl P w K mg base 2 "_law_known_rows" spRowsM) (c_anyr : Cl P w K mg base 3 "_law_any_rows" spRowsM) : FnOk P w K mg base CX0 4 f fd ["_law_pot_here", "_law_most_states", "_law_most_deeds"] (spModel K) := by
  refine F.ok sc_model (fun vs H Q E h => ?_) (fun cdv A outer s H vs Q E hr h => ?_)
  · obtain ⟨p, n, m, rfl, _⟩ := h
    rfl
  · obtain ⟨p, ms, md, rfl, hP, hs0, hs, hm0, hm, q⟩ := h
    refine ⟨_, (pss_cons (ps_par (i := 3) (j := 4) rfl sc_model.nd rfl rfl (by decide) rfl rfl (pa_cons (pe_op op_add pe_int (pe_cl c_draw hr (by decide) (by rfl) (pa_cons (pv 0) (pa_cons (pv 1) pa_nil)))) (pa_cons (pe_op op_add pe_int (pe_cl c_draw hr (by decide) (by rfl) (pa_cons (pv 0) (pa_cons (pv 2) pa_nil)))) pa_nil)) (by rfl))
  (pss_cons (ps_set (i := 5) sc_model.nd rfl (Or.inl rfl) (pe_cmpR op_gt (pe_cl c_draw hr (by decide) (by rfl) (pa_cons (pv 0) (pa_cons pe_int pa_nil))) pe_int (nomark _)))
  (pss_cons (ps_set (i := 6) sc_model.nd rfl (Or.inl rfl) (pe_ifExp (pt_val (pv 5)) (pe_cl c_known hr (by decide) (by rfl) (pa_cons (pv 0) (pa_cons (pv 3) (pa_cons (pv 4) pa_nil)))) (pe_cl c_anyr hr (by decide) (by rfl) (pa_cons (pv 0) (pa_cons (pv 3) (pa_cons (pv 4) pa_nil))))))
  (pss_cons (ps_for PassesOwn.never rfl (pi_range1 rfl T.range (pa_cons (pe_ifExp (pt_val (pv 5)) (pe_cl c_pick hr (by decide) (by rfl) (pa_cons (pv 0) (pa_cons (pe_lst (pa_cons pe_int (pa_cons pe_int (pa_cons pe_int (pa_cons pe_int pa_nil))))) pa_nil))) pe_int) pa_nil)) (pg_name (i := 7) sc_model.nd rfl (Or.inl rfl)) (pss_one (ps_asg (pe_tup (pa_cons (pe_cl c_draw hr (by decide) (by rfl) (pa_cons (pv 0) (pa_cons pe_int pa_nil))) (pa_cons (pe_cl c_draw hr (by decide) (by rfl) (pa_cons (pv 0) (pa_cons (pv 3) pa_nil))) pa_nil))) (pg_sub (pe_ix ix_list (pv 6) (pe_cl c_draw hr (by decide) (by rfl) (pa_cons (pv 0) (pa_cons (pv 3) pa_nil))) (fun _ _ => rfl)) (pe_cl c_draw hr (by decide) (by rfl) (pa_cons (pv 0) (pa_cons (pv 4) pa_nil))) set_list))))
  (pss_one (ps_ret (pe_disp (pps_cons pe_str (pe_cl c_names hr (by decide) (by rfl) (pa_cons (pv 0) (pa_cons (pv 4) pa_nil))) (pps_cons pe_str (pv 6) pps_nil)) (by rfl) (by rfl) (fun z => by cases z) (by decide)))))))), ?_⟩
    refine ⟨_, rfl, _, rfl, p, ms, rfl, hP, by omega, by omega, fun H1 a b1 P1 a0 a1 => ⟨_, _, rfl, rfl, _, rfl, _, rfl, p, md, rfl, P1, by omega, by omega, fun H2 d b2 P2 d0 d1 => ⟨_, _, rfl, rfl, _, _, rfl, ?_⟩⟩⟩
    obtain ⟨size, rfl⟩ : ∃ k : Nat, a = (k : Int) := ⟨a.toNat, by omega⟩
    obtain ⟨many, rfl⟩ : ∃ k : Nat, d = (k : Int) := ⟨d.toNat, by omega⟩
    have c1 : (1 + (size : Int)) = ((1 + size : Nat) : Int) := by omega
    have c2 : (1 + (many : Int)) = ((1 + many : Nat) : Int) := by omega
    refine ⟨_, rfl, p, 3, rfl, P2, by decide, by decide, fun H3 kn b3 P3 _ _ => ?_⟩
    refine ⟨_, _, rfl, rfl, ?_⟩
    have b03 := (b1.trans b2).trans b3
    refine ⟨_, rfl, _, rfl, ?_⟩
    refine ite_both ?_
    refine ⟨_, rfl, _, rfl, _, rfl, p, 1 + size, 1 + many, by show [V.ref p, V.int (1 + (size : Int)), V.int (1 + (many : Int))] ++ [] = _; rw [c1, c2]; rfl, P3, by omega, by omega, by omega, fun H4 L ls rs S b4 P4 RN4 tb4 => ?_⟩
    have b04 := b03.trans b4
    have fr3 : ∀ b, H3 b = none → H b = none := fun b hb => but_free b03 (pot_off P3 hb) hb
    have RN0 : RowsN H H4 L ls rs S := RN4.base fr3
    refine ⟨_, rfl, _, rfl, ite2 (fun _ => ?_) (fun _ => ?_)⟩
    · refine ⟨_, rfl, by show 4 ≤ sizeLine; decide, fun w nw => ?_⟩
      have npw : p ≠ w := pot_ne P4 nw
      refine ⟨p, .ref w, rfl, pot_same P4 (same_upd nw), .inl ⟨w, _, rfl, npw.symm, upd_same, by show 0 < 4; decide, by show 4 < 1000; decide, fun H5 i0' xx hx b5 P5 => ?_⟩⟩
      obtain ⟨cnt, rfl, cc⟩ : ∃ k : Nat, xx = .int (k : Nat) ∧ k ≤ 2 := by
        match i0', hx with
        | 0, hx => exact ⟨0, (Option.some.inj hx).symm, by decide⟩
        | 1, hx => exact ⟨0, (Option.some.inj hx).symm, by decide⟩
        | 2, hx => exact ⟨1, (Option.some.inj hx).symm, by decide⟩
        | 3, hx => exact ⟨2, (Option.some.inj hx).symm, by decide⟩
        | i + 4, hx => simp at hx
      have b45 : But p H4 H5 := (Same.but (same_upd nw)).trans b5
      refine ⟨_, rfl, by omega, by omega, ?_⟩
      refine for_range (n := cnt) (fun i σ G => ∃ u7 rs S, σ = [some (.ref p), some (.int (ms : Nat)), some (.int (md : Nat)), some (.int (1 + (size : Int))), some (.int (1 + (many : Int))), some (.bl (decide ((0 : Int) < kn))), some (.ref L), u7] ∧ But p H G ∧ Pot G p ∧ RowsN H G L ls rs S ∧ Tb (1 + size) (1 + many) rs) ⟨none, rs, S, rfl, b04.trans b45, P5, RN0.but b45 hP, tb4⟩ (fun i σ G hi e => ?_) (fun σ G e => ?_)
      · obtain ⟨u7, rs, S, rfl, bG, PG, RN, tb⟩ := e
        refine ⟨_, rfl, p, 3, rfl, PG, by decide, by decide, fun G1 x b1 P1 x0 x1 => ⟨_, rfl, _, rfl, p, _, rfl, P1, by omega, by omega, fun G2 y b2 P2 y0 y1 => ⟨by show 2 ≤ sizeLine; decide, fun t nt => ?_⟩⟩⟩
        have bt := (b1.trans b2).trans (Same.but (p := p) (same_upd (o := .tup [.int x, .int y]) nt))
        have Pt := pot_same P2 (same_upd (o := .tup [.int x, .int y]) nt)
        have tH := but_free (bG.trans (b1.trans b2)) (pot_off P2 nt) nt
        have ht : upd G2 t (.tup [.int x, .int y]) t = some (.tup [.int x, .int y]) := upd_same
        generalize upd G2 t (.tup [.int x, .int y]) = G3 at bt Pt ht ⊢
        refine ⟨_, rfl, _, rfl, _, rfl, p, _, rfl, Pt, by omega, by omega, fun G4 ii b4' P4' i0 i1 => ?_⟩
        obtain ⟨iN, rfl⟩ : ∃ k : Nat, ii = (k : Int) := ⟨ii.toNat, by omega⟩
        have RN4' := RN.but (bt.trans b4') hP
        have hil : iN < rs.length := by rw [tb.1]; omega
        obtain ⟨r, hr'⟩ : ∃ r, rs[iN]? = some r := ⟨_, List.getElem?_eq_getElem hil⟩
        obtain ⟨a, hla, _⟩ := paired_at RN4'.rows hr'
        refine ⟨L, _, _, _, rfl, rfl, SqL.of RN4'.at_, at_i (show (ls.map V.ref)[iN]? = some (V.ref a) from by rw [List.getElem?_map, hla]; rfl), ?_⟩
        refine ⟨_, rfl, _, rfl, p, _, rfl, P4', by omega, by omega, fun G5 jj b5 P5 j0 j1 => ?_⟩
        obtain ⟨jN, rfl⟩ : ∃ k : Nat, jj = (k : Int) := ⟨jj.toNat, by omega⟩
        have bG5 := (bt.trans b4').trans b5
        have RN5 := RN.but bG5 hP
        obtain ⟨a', hla', es, ha, hps⟩ := paired_at RN5.rows hr'
        rw [hla] at hla'
        cases hla'
        have rl : r.length = 1 + many := (tb.2 r (List.mem_of_getElem? hr')).1
        have el : es.length = r.length := Paired.length hps
        have ap : a ≠ p := pot_off hP (RN.new a (List.mem_of_getElem? hla)).1
        have htp : t ≠ p := pot_off hP tH
        have ht5 := b5 _ _ htp (b4' _ _ htp ht)
        refine ⟨a, es, _, jN, rfl, rfl, ha, ix_n (by omega), ?_⟩
        exact ⟨_, _, _, rfl, but_new (bG.trans bG5) (RN.new a (List.mem_of_getElem? hla)).1, pot_upd P5 ap.symm, RN5.set (e := (x, y)) hla hr' ha ht5 tH, tb_set tb hr' ⟨⟨x0, by show x < 10; omega⟩, y0, by show y < _; omega⟩⟩
      · obtain ⟨u7, rs, S, rfl, bG, PG, RN, tb⟩ := e
        intro mm nm
        have P5 := pot_same PG (same_upd (o := .dK []) nm)
        have sm : Same G (upd G mm (.dK [])) := same_upd nm
        have em : upd G mm (.dK []) mm = some (.dK []) := upd_same
        have mp : mm ≠ p := pot_off PG nm
        have mH := but_free bG mp nm
        generalize hG5 : upd G mm (.dK []) = G5 at sm em P5
        refine ⟨_, rfl, _, rfl, p, 1 + many, by show [V.ref p, V.int (1 + (many : Int))] ++ [] = _; rw [c2]; rfl, P5, by omega, fun G6 l ns b6 P6 ln hl hlen ndn nms => ?_⟩
        have bG6 := (bG.trans (Same.but (p := p) sm)).trans b6
        have lp := pot_off P5 ln
        have lH := but_free (bG.trans (Same.but (p := p) sm)) lp ln
        have em6 := b6 _ _ mp em
        have RN6 := RN.but ((Same.but (p := p) sm).trans b6) hP
        have ml : mm ≠ l := fun z => by rw [← z, em] at ln; cases ln
        refine ⟨_, rfl, em6, [(.inr "deeds", .ref l), (.inr "rows", .ref L)], rfl, by show 2 ≤ 15; decide, ?_⟩
        have drow0 : Dt K (fun b => S b ∨ b = L ∨ b ∈ ls) G (.ref L) (rowsD rs) := nw_data RN.at_ RN.rows (fun b hb => .inl hb) (.inr (.inl rfl)) (fun b hb => .inr (.inr hb))
        have drow1 := dt_real drow0
        have drow : Dt K (fun b => (S b ∨ b = L ∨ b ∈ ls) ∧ ∃ o, G b = some o) G6 (.ref L) (rowsD rs) := drow1.fr (Cr.Fr.but ((Same.but (p := p) sm).trans b6)) fun b hb z => by
          have hB : H b = none := by
            rcases hb.1 with w | w | w
            · exact RN.nS b w
            · exact w ▸ RN.nL
            · exact (RN.new b w).1
          exact pot_off hP hB z
        have dd := mk_model (S := fun b => b = l ∨ ((S b ∨ b = L ∨ b ∈ ls) ∧ ∃ o, G b = some o)) em6 (fun z => ?_) (md_names (.inl rfl) hl) (Dt.mono drow fun b hb => .inr hb)
        · refine q _ mm ns rs (1 + size) (1 + many) _ (but_new bG6 mH) (pot_upd P6 mp.symm) (fun b hb => ⟨?_, ?_⟩) (dt_real dd) (by omega) (by omega) hlen ndn nms tb
          · rcases hb.1 with (z | ⟨z | z | z, _⟩) | z
            · exact z ▸ lH
            · exact RN.nS b z
            · exact z ▸ RN.nL
            · exact (RN.new b z).1
            · exact z ▸ mH
          · obtain ⟨_, o, e⟩ := hb
            rw [e]
            simp
        · rcases z with z | ⟨_, o2, e2⟩
          · exact ml z
          · rw [nm] at e2
            cases e2
    · refine ⟨0, rfl, by decide, by decide, ?_⟩
      refine for_range (n := 0) (fun i σ G => ∃ u7 rs S, σ = [some (.ref p), some (.int (ms : Nat)), some (.int (md : Nat)), some (.int (1 + (size : Int))), some (.int (1 + (many : Int))), some (.bl (decide ((0 : Int) < kn))), some (.ref L), u7] ∧ But p H G ∧ Pot G p ∧ RowsN H G L ls rs S ∧ Tb (1 + size) (1 + many) rs) ⟨none, rs, S, rfl, b04, P4, RN0, tb4⟩ (fun i σ G hi e => ?_) (fun σ G e => ?_)
      · obtain ⟨u7, rs, S, rfl, bG, PG, RN, tb⟩ := e
        refine ⟨_, rfl, p, 3, rfl, PG, by decide, by decide, fun G1 x b1 P1 x0 x1 => ⟨_, rfl, _, rfl, p, _, rfl, P1, by omega, by omega, fun G2 y b2 P2 y0 y1 => ⟨by show 2 ≤ sizeLine; decide, fun t nt => ?_⟩⟩⟩
        have bt := (b1.trans b2).trans (Same.but (p := p) (same_upd (o := .tup [.int x, .int y]) nt))
        have Pt := pot_same P2 (same_upd (o := .tup [.int x, .int y]) nt)
        have tH := but_free (bG.trans (b1.trans b2)) (pot_off P2 nt) nt
        have ht : upd G2 t (.tup [.int x, .int y]) t = some (.tup [.int x, .int y]) := upd_same
        generalize upd G2 t (.tup [.int x, .int y]) = G3 at bt Pt ht ⊢
        refine ⟨_, rfl, _, rfl, _, rfl, p, _, rfl, Pt, by omega, by omega, fun G4 ii b4' P4' i0 i1 => ?_⟩
        obtain ⟨iN, rfl⟩ : ∃ k : Nat, ii = (k : Int) := ⟨ii.toNat, by omega⟩
        have RN4' := RN.but (bt.trans b4') hP
        have hil : iN < rs.length := by rw [tb.1]; omega
        obtain ⟨r, hr'⟩ : ∃ r, rs[iN]? = some r := ⟨_, List.getElem?_eq_getElem hil⟩
        obtain ⟨a, hla, _⟩ := paired_at RN4'.rows hr'
        refine ⟨L, _, _, _, rfl, rfl, SqL.of RN4'.at_, at_i (show (ls.map V.ref)[iN]? = some (V.ref a) from by rw [List.getElem?_map, hla]; rfl), ?_⟩
        refine ⟨_, rfl, _, rfl, p, _, rfl, P4', by omega, by omega, fun G5 jj b5 P5 j0 j1 => ?_⟩
        obtain ⟨jN, rfl⟩ : ∃ k : Nat, jj = (k : Int) := ⟨jj.toNat, by omega⟩
        have bG5 := (bt.trans b4').trans b5
        have RN5 := RN.but bG5 hP
        obtain ⟨a', hla', es, ha, hps⟩ := paired_at RN5.rows hr'
        rw [hla] at hla'
        cases hla'
        have rl : r.length = 1 + many := (tb.2 r (List.mem_of_getElem? hr')).1
        have el : es.length = r.length := Paired.length hps
        have ap : a ≠ p := pot_off hP (RN.new a (List.mem_of_getElem? hla)).1
        have htp : t ≠ p := pot_off hP tH
        have ht5 := b5 _ _ htp (b4' _ _ htp ht)
        refine ⟨a, es, _, jN, rfl, rfl, ha, ix_n (by omega), ?_⟩
        exact ⟨_, _, _, rfl, but_new (bG.trans bG5) (RN.new a (List.mem_of_getElem? hla)).1, pot_upd P5 ap.symm, RN5.set (e := (x, y)) hla hr' ha ht5 tH, tb_set tb hr' ⟨⟨x0, by show x < 10; omega⟩, y0, by show y < _; omega⟩⟩
      · obtain ⟨u7, rs, S, rfl, bG, PG, RN, tb⟩ := e
        intro mm nm
        have P5 := pot_same PG (same_upd (o := .dK []) nm)
        have sm : Same G (upd G mm (.dK [])) := same_upd nm
        have em : upd G mm (.dK []) mm = some (.dK []) := upd_same
        have mp : mm ≠ p := pot_off PG nm
        have mH := but_free bG mp nm
        generalize hG5 : upd G mm (.dK []) = G5 at sm em P5
        refine ⟨_, rfl, _, rfl, p, 1 + many, by show [V.ref p, V.int (1 + (many : Int))] ++ [] = _; rw [c2]; rfl, P5, by omega, fun G6 l ns b6 P6 ln hl hlen ndn nms => ?_⟩
        have bG6 := (bG.trans (Same.but (p := p) sm)).trans b6
        have lp := pot_off P5 ln
        have lH := but_free (bG.trans (Same.but (p := p) sm)) lp ln
        have em6 := b6 _ _ mp em
        have RN6 := RN.but ((Same.but (p := p) sm).trans b6) hP
        have ml : mm ≠ l := fun z => by rw [← z, em] at ln; cases ln
        refine ⟨_, rfl, em6, [(.inr "deeds", .ref l), (.inr "rows", .ref L)], rfl, by show 2 ≤ 15; decide, ?_⟩
        have drow0 : Dt K (fun b => S b ∨ b = L ∨ b ∈ ls) G (.ref L) (rowsD rs) := nw_data RN.at_ RN.rows (fun b hb => .inl hb) (.inr (.inl rfl)) (fun b hb => .inr (.inr hb))
        have drow1 := dt_real drow0
        have drow : Dt K (fun b => (S b ∨ b = L ∨ b ∈ ls) ∧ ∃ o, G b = some o) G6 (.ref L) (rowsD rs) := drow1.fr (Cr.Fr.but ((Same.but (p := p) sm).trans b6)) fun b hb z => by
          have hB : H b = none := by
            rcases hb.1 with w | w | w
            · exact RN.nS b w
            · exact w ▸ RN.nL
            · exact (RN.new b w).1
          exact pot_off hP hB z
        have dd := mk_model (S := fun b => b = l ∨ ((S b ∨ b = L ∨ b ∈ ls) ∧ ∃ o, G b = some o)) em6 (fun z => ?_) (md_names (.inl rfl) hl) (Dt.mono drow fun b hb => .inr hb)
        · refine q _ mm ns rs (1 + size) (1 + many) _ (but_new bG6 mH) (pot_upd P6 mp.symm) (fun b hb => ⟨?_, ?_⟩) (dt_real dd) (by omega) (by omega) hlen ndn nms tb
          · rcases hb.1 with (z | ⟨z | z | z, _⟩) | z
            · exact z ▸ lH
            · exact RN.nS b z
            · exact z ▸ RN.nL
            · exact (RN.new b z).1
            · exact z ▸ mH
          · obtain ⟨_, o, e⟩ := hb
            rw [e]
            simp
        · rcases z with z | ⟨_, o2, e2⟩
          · exact ml z
          · rw [nm] at e2
            cases e2
end
end K21

namespace K21
open PySem PySem.Spec PyProof.Rows L2 Xv Cr TL
abbrev s_team : Stmt := top 44
abbrev N_team : List Str := ["thing", "team", "deed"]
theorem sc_team : FnScope N_team ["thing", "team"] (defScope s_team) := ⟨rfl, rfl, rfl, by decide +kernel, rfl, by decide +kernel, by decide +kernel⟩
abbrev s_sortp : Stmt := top 45
abbrev N_sortp : List Str := ["thing", "deeds", "known", "deed"]
theorem sc_sortp : FnScope N_sortp ["thing", "deeds"] (defScope s_sortp) := ⟨rfl, rfl, rfl, by decide +kernel, rfl, by decide +kernel, by decide +kernel⟩
abbrev s_dat : Stmt := top 46
abbrev N_dat : List Str := ["thing", "places", "deeds", "place"]
theorem sc_dat : FnScope N_dat ["thing", "places"] (defScope s_dat) := ⟨rfl, rfl, rfl, by decide +kernel, rfl, by decide +kernel, by decide +kernel⟩
def zs (g : List Nat) : List V := g.map fun (a : Nat) => V.int (a : Nat)
theorem zs_app (g : List Nat) (a : Nat) : zs (g ++ [a]) = zs g ++ [V.int (a : Nat)] := List.map_append
theorem zs_at {g : List Nat} {i a : Nat} (h : g[i]? = some a) : (zs g)[i]? = some (.int (a : Nat)) := by
  unfold zs
  rw [List.getElem?_map, h]
  rfl
theorem idx_str {ns : List Str} {z : Str} (h : z ∈ ns) : ns[ns.idxOf z]? = some z := by
  have hl := List.idxOf_lt_length_of_mem h
  rw [List.getElem?_eq_getElem hl, List.getElem_idxOf hl]
theorem getD_some {α : Type} {l : List α} {i : Nat} {x d : α} (h : l[i]? = some x) : l.getD i d = x := by
  rw [List.getD_eq_getElem?_getD, h]
  rfl
theorem nd_at {α : Type} [DecidableEq α] {l : List α} {x : α} {j : Nat} (nd : l.Nodup) (h : l[j]? = some x) : l.idxOf x = j := by
  obtain ⟨hj, rfl⟩ := List.getElem?_eq_some_iff.mp h
  exact nd.idxOf_getElem j hj
theorem lc_rel {α : Type} {J : It} {G : Hp → Prop} {ns : List α} {f : α → V} {σ : L2.St} {vs : List Nat} {i1 : Nat} {te : TE} {H1 : Hp} {D : Addr} {Qd : Hp → Prop} (Rel : Hp → V → α → Prop) (W : Walk J (ns.map f).length G (YAt (ns.map f))) (hG : ∀ H', Same H1 H' → G H') (hz : ns.length ≤ 1000) (hD : H1 D = none)
    (hw : ∀ v, wipe ((wipe σ vs).set i1 (some v)) vs = wipe σ vs)
    (mono : ∀ H H' v a, Rel H v a → (∀ b o, b ≠ D → H b = some o → H' b = some o) → Rel H' v a)
    (hte : ∀ (a : α) (H3 : Hp) (Qv : VK), a ∈ ns → Same H1 H3 → (∃ o, H3 D = some o) → (∀ H4 v, Same H3 H4 → Rel H4 v a → Qv v H4) → te ((wipe σ vs).set i1 (some (f a))) H3 Qv)
    (hd : ∀ H2 acc, Same H1 H2 → H2 D = some (.lst acc) → Paired (Rel H2) acc ns → Qd H2) :
    ∃ W : Nat → Nat → Hp → Prop, (∃ m, W 0 m (upd H1 D (.lst []))) ∧ ∀ i m H, W i m H →
      (J.stop i H ∧ Qd H) ∨ (J.go i H ∧ ∃ Nx : Hp → Prop, (∀ H', Nx H' → ∃ m', m' < m ∧ W (i + 1) m' H') ∧ ∀ x H', J.yld i H x H' → gName i1 x (wipe σ vs) H' fun σ2 H2 => wipe σ2 vs = wipe σ vs ∧ tYes σ2 H2 fun b H3 =>
        if b = true then te σ2 H3 fun y H4 => ∃ acc, H4 D = some (.lst acc) ∧ acc.length < sizeLine ∧ Nx (upd H4 D (.lst (acc ++ [y]))) else Nx H3) := by
  refine lc_it W (fun i H' => Same H1 H' ∧ ∃ acc, H' D = some (.lst acc) ∧ acc.length = i ∧ Paired (Rel H') acc (ns.take i)) ⟨same_upd hD, [], upd_same, rfl, .nil⟩ (fun i H' _ p => hG _ p.1) (fun i x H' H'' hi e y => ?_) (fun H' e => ?_)
  · obtain ⟨rfl, hx⟩ := y
    obtain ⟨e1, acc, e2, e3, e4⟩ := e
    obtain ⟨a, ha, rfl⟩ : ∃ a, ns[i]? = some a ∧ x = f a := by
      rw [List.getElem?_map] at hx
      cases q : ns[i]? with
      | none => rw [q] at hx; cases hx
      | some z => rw [q] at hx; exact ⟨z, rfl, (Option.some.inj hx).symm⟩
    refine ⟨hw _, ?_⟩
    unfold tYes
    dsimp only
    rw [if_pos rfl]
    refine hte a _ _ (List.mem_of_getElem? ha) e1 ⟨_, e2⟩ fun H4 v s4 r4 => ⟨acc, s4 _ _ e2, ?_, fun b o q => ?_, acc ++ [v], upd_same, by rw [List.length_append, e3]; rfl, ?_⟩
    · rw [List.length_map] at hi
      rw [sizeLine_eq]
      omega
    · rw [upd_ne (ne_of_none q hD)]
      exact s4 _ _ (e1 _ _ q)
    · rw [Xv.take_step ha]
      exact pr_app (Paired.mapP e4 fun v a r => mono _ _ _ _ r fun b o n q => by rw [upd_ne n]; exact s4 _ _ q) (.cons (mono _ _ _ _ r4 fun b o n q => by rw [upd_ne n]; exact q) .nil)
  · obtain ⟨e1, acc, e2, e3, e4⟩ := e
    rw [List.length_map, List.take_length] at e4
    exact hd H' acc e1 e2 e4
theorem pr_eq {α β : Type} {g : β → α} : ∀ {a : List α} {b : List β}, Paired (fun x y => x = g y) a b → a = b.map g
  | _, _, .nil => rfl
  | _, _, .cons f r => by rw [List.map_cons, ← pr_eq r, f]
theorem getD_str {ns : List Str} {i : Nat} (h : i < ns.length) : ns[i]? = some (ns.getD i "") := by
  rw [List.getD_eq_getElem?_getD, List.getElem?_eq_getElem h]
  rfl
def spTeam (K : PySem.W.Frag) (C : Addr) : Sp := fun vs H Q _ => ∃ (x a : Addr) (S : Addr → Prop) (ns : List Str) (rs : List Rw) (us : List Str), vs = [.ref x, .ref a] ∧ ThAt K C S H x ns rs ∧ LT H a (us.map V.str) ∧ 0 < us.length ∧ us.length ≤ 1000 ∧ (∀ u ∈ us, u ∈ ns) ∧ ∀ H', Same H H' → Q .non H'
/-- the places of some deeds, sorted -/
def spSortp (K : PySem.W.Frag) (C : Addr) : Sp := fun vs H Q _ => ∃ (x a : Addr) (S : Addr → Prop) (ns : List Str) (rs : List Rw) (us : List Str), vs = [.ref x, .ref a] ∧ ThAt K C S H x ns rs ∧ ns.Nodup ∧ LT H a (us.map V.str) ∧ us.length < 64 ∧ (∀ u ∈ us, u ∈ ns) ∧
  ∀ H' L (g : List Int), Same H H' → H L = none → H' L = some (.lst (g.map V.int)) → g.Perm (us.map fun u => ((ns.idxOf u : Nat) : Int)) → g.Pairwise (· ≤ ·) → Q (.ref L) H'
/-- the deeds at some places -/
def spDat (K : PySem.W.Frag) (C : Addr) : Sp := fun vs H Q _ => ∃ (x a : Addr) (S : Addr → Prop) (ns : List Str) (rs : List Rw) (ps : List Nat), vs = [.ref x, .ref a] ∧ ThAt K C S H x ns rs ∧ H a = some (.lst (zs ps)) ∧ ps.length ≤ 1000 ∧ (∀ p ∈ ps, p < ns.length) ∧
  ∀ H' L, Same H H' → H L = none → H' L = some (.lst ((ps.map fun p => ns.getD p "").map V.str)) → Q (.ref L) H'
section
variable {P : Program} {w : World} {K : PySem.W.Frag} {mg : Str → Option Value} {base : Heap} {Ct f : Addr} {fd : FuncData}
theorem ok_team (F : Fun K "check_deeds_of_team" "check_deeds_of_team" s_team f fd) (T : Bl mg) (TC : ThC K Ct) (c_is_filled_list : Cl P w K mg base 2 "is_filled_list" spFilled) (c_has : OwnM P w K mg base Ct 1 "__contains__" ["self", "value"] (spTHas K Ct)) : FnOk P w K mg base CX0 3 f fd ["thing", "team"] (spTeam K Ct) := by
  refine F.ok sc_team (fun vs H Q E h => ?_) (fun cdv A outer s H vs Q E hr h => ?_)
  · obtain ⟨x, a, S, ns, rs, us, rfl, _⟩ := h
    rfl
  · obtain ⟨x, a, S, ns, rs, us, rfl, t, ha, u0, u1, un, q⟩ := h
    refine ⟨_, (pss_one (ps_if (PW.pt (pw_or (pt_not (pt_val (pe_cl c_is_filled_list hr (by decide) (by rfl) (pa_cons (pv 1) pa_nil)))) (pw_or1 (pt_not (pt_val (pe_callB (id := "all") (cr_all rfl) (by rfl) T.all (by decide +kernel) (pa_cons (pe_lc (own := [("deed", 2)]) (g := gName 2) (tt := tYes) (te := tOp (rInO Ct (spTHas K Ct) false) (tVar 2) (tVar 0)) rfl sc_team.nd (pi_sq (pv 1)) (blkOk_by (N := N_team) (sc := defScope s_team) (by decide +kernel)) (fun _ _ _ _ _ => (pg_name (i := 2) sc_team.nd rfl (Or.inl rfl))) (fun _ _ _ _ _ => pts_nil) (fun _ _ _ _ _ => (pe_cmpR (op_inM c_has hr (by decide)) (pv 2) (pv 0) (by rfl)))) pa_nil))))))) (pss_one ps_never) pss_nil)), ?_⟩
    obtain ⟨dx, l, m, ys, hx, _⟩ := t.op
    refine ⟨_, rfl, a, _, rfl, ha, fun H1 s1 => ⟨_, rfl, ite2 (fun z => ?_) (fun _ => ?_)⟩⟩
    · rw [decide_eq_true (show 0 < (us.map V.str).length by rw [List.length_map]; exact u0)] at z
      cases z
    show iSq _ (tVar 1) _ _ _
    refine seq_pick rfl (ha.same s1) fun J G W hG => fun D nD => ?_
    refine lc_rel (f := fun (z : Str) => V.str z) (ns := us) (σ := [some (.ref x), some (.ref a), none]) (vs := [2]) (i1 := 2) (fun _ v _ => v = V.bl true) W (fun H' s => hG H' fun o z => s _ _ z) u1 nD (fun _ => rfl) (fun _ _ _ _ r _ => r) (fun z H3 Qw hz s3 _ kw => ?_) (fun H2 acc s2 hD2 hacc => ?_)
    · exact ⟨_, rfl, _, rfl, x, dx, _, rfl, s3 _ _ (s1 _ _ hx), x, S, ns, rs, .str z, rfl, (t.same s1).same s3, .inl ⟨z, rfl, _, rfl, kw _ _ (Same.refl _) (by rw [decide_eq_true (un z hz)]; rfl)⟩⟩
    · have ea : acc = (us.map fun _ => true).map V.bl := by rw [pr_eq (g := fun _ => V.bl true) hacc, List.map_map]; rfl
      subst ea
      refine ⟨D, us.map fun _ => true, rfl, SqL.of hD2, _, rfl, ite2 (fun z => ?_) (fun _ => ?_)⟩
      · rw [show (us.map fun _ => true).all id = true from by
          rw [List.all_eq_true]
          intro b hb
          obtain ⟨_, _, rfl⟩ := List.mem_map.mp hb
          rfl] at z
        cases z
      · exact q _ (s1.trans s2)
theorem ok_sortp (F : Fun K "sorted_places" "sorted_places" s_sortp f fd) (T : Bl mg) (Ts : mg "sorted" = none) (TC : ThC K Ct) (p_deeds : PrpM P w K mg base Ct 1 "deeds" (spTDeeds K Ct)) : FnOk P w K mg base CX0 3 f fd ["thing", "deeds"] (spSortp K Ct) := by
  refine F.ok sc_sortp (fun vs H Q E h => ?_) (fun cdv A outer s H vs Q E hr h => ?_)
  · obtain ⟨x, a, S, ns, rs, us, rfl, _⟩ := h
    rfl
  · obtain ⟨x, a, S, ns, rs, us, rfl, t, nd, ha, u1, un, q⟩ := h
    refine ⟨_, (pss_cons (ps_set (i := 2) sc_sortp.nd rfl (Or.inr rfl) (pe_prp p_deeds TC.cl hr (by decide) (pv 0)))
  (pss_one (ps_ret (pe_callB (id := "sorted") cr_sorted (by rfl) Ts (by decide +kernel) (pa_cons (pe_lc (own := [("deed", 3)]) (g := gName 3) (tt := tYes) (te := tBM K "list" (rIndex K) (tVar 2) (tCons (tVar 3) tNil)) rfl sc_sortp.nd (pi_sq (pv 1)) (blkOk_by (N := N_sortp) (sc := defScope s_sortp) (by decide +kernel)) (fun _ _ _ _ _ => (pg_name (i := 3) sc_sortp.nd rfl (Or.inl rfl))) (fun _ _ _ _ _ => pts_nil) (fun _ _ _ _ _ => (pe_bm PySem.F.plainAttrs_list PySem.F.slot_list_index PySem.F.type_list_index mt_index (pv 2) (pa_cons (pv 3) pa_nil)))) pa_nil))))), ?_⟩
    obtain ⟨dx, l, m, ys, hx, _⟩ := t.op
    refine ⟨_, rfl, x, dx, _, rfl, hx, x, S, ns, rs, rfl, t, fun l2 nl2 => ?_⟩
    have s1 : Same H (upd H l2 (.lst (ns.map V.str))) := same_upd nl2
    have e1 : upd H l2 (.lst (ns.map V.str)) l2 = some (.lst (ns.map V.str)) := upd_same
    generalize upd H l2 (.lst (ns.map V.str)) = H1 at s1 e1 ⊢
    show iSq _ (tVar 1) _ _ _
    refine seq_pick rfl (ha.same s1) fun J G W hG => fun D nD => ?_
    refine lc_rel (f := fun (z : Str) => V.str z) (ns := us) (σ := [some (.ref x), some (.ref a), some (.ref l2), none]) (vs := [3]) (i1 := 3) (fun _ v z => v = V.int (ns.idxOf z : Nat)) W (fun H' s => hG H' fun o z => s _ _ z) (by omega) nD (fun _ => rfl) (fun _ _ _ _ r _ => r) (fun z H3 Qw hz s3 _ kw => ?_) (fun H2 acc s2 hD2 hacc => ?_)
    · have hl3 := s3 _ _ e1
      refine ⟨_, rfl, .inl ⟨rfl, _, SqL.of hl3⟩, _, rfl, l2, _, _, ns.idxOf z, .str z, rfl, rfl, SqL.of hl3, rfl, flat_names ns, by rw [List.getElem?_map, idx_str (un z hz)]; rfl, by show (z == z) = true; simp, fun k z' hk hz' => ?_, kw _ _ (Same.refl _) rfl⟩
      obtain ⟨z2, hz2, rfl⟩ := map_str_at hz'
      show (z2 == z) = false
      refine beq_eq_false_iff_ne.mpr fun e => ?_
      subst e
      have := nd_at nd hz2
      omega
    · have ea : acc = (us.map fun u => ((ns.idxOf u : Nat) : Int)).map V.int := by rw [List.map_map]; exact pr_eq hacc
      subst ea
      refine ⟨D, _, rfl, SqL.of hD2, by rw [List.length_map]; exact u1, fun g L pm pw nL => ?_⟩
      exact q _ L g ((s1.trans s2).trans (same_upd nL)) ((s1.trans s2).free nL) upd_same pm pw
theorem ok_dat (F : Fun K "deeds_at" "deeds_at" s_dat f fd) (T : Bl mg) (TC : ThC K Ct) (p_deeds : PrpM P w K mg base Ct 1 "deeds" (spTDeeds K Ct)) : FnOk P w K mg base CX0 3 f fd ["thing", "places"] (spDat K Ct) := by
  refine F.ok sc_dat (fun vs H Q E h => ?_) (fun cdv A outer s H vs Q E hr h => ?_)
  · obtain ⟨x, a, S, ns, rs, ps, rfl, _⟩ := h
    rfl
  · obtain ⟨x, a, S, ns, rs, ps, rfl, t, ha, p1, pn, q⟩ := h
    refine ⟨_, (pss_cons (ps_set (i := 2) sc_dat.nd rfl (Or.inr rfl) (pe_prp p_deeds TC.cl hr (by decide) (pv 0)))
  (pss_one (ps_ret (pe_lc (own := [("place", 3)]) (g := gName 3) (tt := tYes) (te := tOp (rIxL K) (tVar 2) (tVar 3)) rfl sc_dat.nd (pi_list (pv 1)) (blkOk_by (N := N_dat) (sc := defScope s_dat) (by decide +kernel)) (fun _ _ _ _ _ => (pg_name (i := 3) sc_dat.nd rfl (Or.inl rfl))) (fun _ _ _ _ _ => pts_nil) (fun _ _ _ _ _ => (pe_ix ix_list (pv 2) (pv 3) (fun _ _ => rfl))))))), ?_⟩
    obtain ⟨dx, l, m, ys, hx, _⟩ := t.op
    refine ⟨_, rfl, x, dx, _, rfl, hx, x, S, ns, rs, rfl, t, fun l2 nl2 => ?_⟩
    have s1 : Same H (upd H l2 (.lst (ns.map V.str))) := same_upd nl2
    have e1 : upd H l2 (.lst (ns.map V.str)) l2 = some (.lst (ns.map V.str)) := upd_same
    generalize upd H l2 (.lst (ns.map V.str)) = H1 at s1 e1 ⊢
    refine ⟨_, rfl, a, rfl, ⟨_, SqL.of (s1 _ _ ha)⟩, fun D nD => ?_⟩
    refine lc_rel (f := fun (p : Nat) => V.int (p : Nat)) (ns := ps) (σ := [some (.ref x), some (.ref a), some (.ref l2), none]) (vs := [3]) (i1 := 3) (fun _ v p => v = V.str (ns.getD p "")) (walk_list (K := K) (a := a) (xs := ps.map fun (p : Nat) => V.int (p : Nat))) (fun H' s => SqL.of (s _ _ (s1 _ _ ha))) p1 nD (fun _ => rfl) (fun _ _ _ _ r _ => r) (fun p H3 Qw hp s3 _ kw => ?_) (fun H2 acc s2 hD2 hacc => ?_)
    · exact ⟨_, rfl, _, rfl, l2, _, _, _, rfl, rfl, SqL.of (s3 _ _ e1), at_i (show (ns.map V.str)[p]? = some (V.str (ns.getD p "")) from by rw [List.getElem?_map, getD_str (pn p hp)]; rfl), kw _ _ (Same.refl _) rfl⟩
    · have ea : acc = (ps.map fun p => ns.getD p "").map V.str := by rw [List.map_map]; exact pr_eq hacc
      subst ea
      exact q _ D (s1.trans s2) (s1.free nD) hD2
end
end K21

namespace K21
open PySem PySem.Spec PyProof.Rows L2 Xv Cr TL
abbrev s_layi : Stmt := inClass (top 43) 0
abbrev N_layi : List Str := ["self", "thing", "state", "first", "second"]
theorem sc_layi : FnScope N_layi ["self", "thing", "state", "first", "second"] (defScope s_layi) := ⟨rfl, rfl, rfl, by decide +kernel, rfl, by decide +kernel, by decide +kernel⟩
structure LyC (K : PySem.W.Frag) (C : Addr) : Prop where
  cl : Cls K C
  nT : NoAttr K C "_thing"
  nS : NoAttr K C "_state"
  nF : NoAttr K C "_first"
  nG : NoAttr K C "_second"
def fsL (x : Addr) (n : Int) (l1 l2 : Addr) : List (Str × V) := putF "_second" (.ref l2) (putF "_first" (.ref l1) (putF "_state" (.int n) (putF "_thing" (.ref x) [])))
def spLayI (K : PySem.W.Frag) (Ct C : Addr) : Sp := fun vs H Q _ => ∃ (y dy x a1 a2 : Addr) (S : Addr → Prop) (ns : List Str) (rs : List Rw) (n : Nat) (us ws : List Str), vs = [.ref y, .ref x, .int (n : Nat), .ref a1, .ref a2] ∧ H y = some (.ins C dy []) ∧ ThAt K Ct S H x ns rs ∧ Right ns rs ∧ ¬ S y ∧ x ≠ y ∧ n < rs.length ∧ LT H a1 (us.map V.str) ∧ LT H a2 (ws.map V.str) ∧ 0 < us.length ∧ 0 < ws.length ∧ us.length + ws.length ≤ 5 ∧ (∀ u ∈ us, u ∈ ns) ∧ (∀ u ∈ ws, u ∈ ns) ∧
  ∀ H' l1 l2 (g1 g2 : List Int), Fr (fun b => b = y) H H' → H l1 = none → H l2 = none → H' y = some (.ins C dy (fsL x n l1 l2)) → H' l1 = some (.lst (g1.map V.int)) → H' l2 = some (.lst (g2.map V.int)) → g1.Perm (us.map fun u => ((ns.idxOf u : Nat) : Int)) → g1.Pairwise (· ≤ ·) → g2.Perm (ws.map fun u => ((ns.idxOf u : Nat) : Int)) → g2.Pairwise (· ≤ ·) → Q .non H'
section
variable {P : Program} {w : World} {K : PySem.W.Frag} {mg : Str → Option Value} {base : Heap} {Ct CL f : Addr} {fd : FuncData}
theorem ok_layi (F : Fun K "__init__" "Layout.__init__" s_layi f fd) (T : Bl mg) (ML : ∃ t, mg "MOST_IN_LAYOUT" = some (.int 5 t)) (LC : LyC K CL) (c_check_state : Cl P w K mg base 4 "check_state" (spCState K Ct)) (c_team : Cl P w K mg base 3 "check_deeds_of_team" (spTeam K Ct)) (c_check_limit : Cl P w K mg base 1 "check_limit" spLimit) (c_sortp : Cl P w K mg base 3 "sorted_places" (spSortp K Ct)) : FnOk P w K mg base CX0 5 f fd ["self", "thing", "state", "first", "second"] (spLayI K Ct CL) := by
  refine F.ok sc_layi (fun vs H Q E h => ?_) (fun cdv A outer s H vs Q E hr h => ?_)
  · obtain ⟨y, dy, x, a1, a2, S, ns, rs, n, us, ws, rfl, _⟩ := h
    rfl
  · obtain ⟨y, dy, x, a1, a2, S, ns, rs, n, us, ws, rfl, hy, t, R, nSy, nxy, hn, h1, h2, u0, w0, uw, un, wn, q⟩ := h
    refine ⟨_, (pss_cons (ps_expr (pe_cl c_check_state hr (by decide) (by rfl) (pa_cons (pv 1) (pa_cons (pv 2) pa_nil))))
  (pss_cons (ps_expr (pe_cl c_team hr (by decide) (by rfl) (pa_cons (pv 1) (pa_cons (pv 3) pa_nil))))
  (pss_cons (ps_expr (pe_cl c_team hr (by decide) (by rfl) (pa_cons (pv 1) (pa_cons (pv 4) pa_nil))))
  (pss_cons (ps_expr (pe_cl c_check_limit hr (by decide) (by rfl) (pa_cons pe_str (pa_cons (pe_op op_add (pe_callB (id := "len") (call_ln) (by rfl) T.len (by decide +kernel) (pa_cons (pv 3) pa_nil)) (pe_callB (id := "len") (call_ln) (by rfl) T.len (by decide +kernel) (pa_cons (pv 4) pa_nil))) (pa_cons (pe_glob (v := .int 5) (by rfl) ML.choose_spec ⟨_, rfl⟩) pa_nil)))))
  (pss_cons (ps_fld (pv 0) (pv 1) rfl)
  (pss_cons (ps_fld (pv 0) (pv 2) rfl)
  (pss_cons (ps_fld (pv 0) (pe_cl c_sortp hr (by decide) (by rfl) (pa_cons (pv 1) (pa_cons (pv 3) pa_nil))) rfl)
  (pss_one (ps_fld (pv 0) (pe_cl c_sortp hr (by decide) (by rfl) (pa_cons (pv 1) (pa_cons (pv 4) pa_nil))) rfl))))))))), ?_⟩
    have r8 := R.r8
    refine ⟨_, rfl, _, rfl, x, S, ns, rs, _, rfl, t, by omega, ⟨by omega, by omega⟩, ?_⟩
    refine ⟨_, rfl, _, rfl, x, a1, S, ns, rs, us, rfl, t, h1, u0, by omega, un, fun H1 s1 => ?_⟩
    refine ⟨_, rfl, _, rfl, x, a2, S, ns, rs, ws, rfl, t.same s1, h2.same s1, w0, by omega, wn, fun H2 s2 => ?_⟩
    have s12 := s1.trans s2
    refine ⟨_, rfl, a1, _, rfl, (h1.same s12).seq K, _, rfl, a2, _, rfl, (h2.same s12).seq K, _, _, rfl, rfl, _, _, _, rfl, by rw [List.length_map, List.length_map]; omega, ?_⟩
    have hy2 := s12 _ _ hy
    refine ⟨_, rfl, _, rfl, y, CL, dy, [], rfl, hy2, LC.cl, LC.nT, by show 0 < 1000; decide, ?_⟩
    refine ⟨_, rfl, _, rfl, y, CL, dy, _, rfl, upd_same, LC.cl, LC.nS, by show 1 < 1000; decide, ?_⟩
    have F3 : Fr (fun b => b = y) H (upd (upd H2 y (.ins CL dy (putF "_thing" (.ref x) []))) y (.ins CL dy (putF "_state" (.int (n : Nat)) (putF "_thing" (.ref x) [])))) := Fr.set (Fr.set (Fr.of s12) rfl) rfl
    have hy3 : upd (upd H2 y (.ins CL dy (putF "_thing" (.ref x) []))) y (.ins CL dy (putF "_state" (.int (n : Nat)) (putF "_thing" (.ref x) []))) y = some (.ins CL dy (putF "_state" (.int (n : Nat)) (putF "_thing" (.ref x) []))) := upd_same
    generalize upd (upd H2 y (.ins CL dy (putF "_thing" (.ref x) []))) y (.ins CL dy (putF "_state" (.int (n : Nat)) (putF "_thing" (.ref x) []))) = H3 at F3 hy3 ⊢
    have kL : ∀ {b : Addr} {xs : List V} {H' : Hp}, Fr (fun b => b = y) H H' → LT H b xs → LT H' b xs := fun {b xs H'} F z => by
      have nb : ∀ {o : HO}, (∀ C' d' f', o ≠ .ins C' d' f') → H b = some o → b ≠ y := fun {o} k z e => by
        rw [e, hy] at z
        cases z
        exact k _ _ _ rfl
      rcases z with z | z
      · exact .inl (F _ _ (nb (by intro _ _ _ q; cases q) z) z)
      · exact .inr (F _ _ (nb (by intro _ _ _ q; cases q) z) z)
    have kT : ∀ {H' : Hp}, Fr (fun b => b = y) H H' → ThAt K Ct S H' x ns rs := fun F => t.fr F (fun b sb e => nSy (e ▸ sb)) nxy
    refine ⟨_, rfl, _, rfl, x, a1, S, ns, rs, us, rfl, kT F3, R.nd, kL F3 h1, by omega, un, fun H4 L1 g1 s4 n4 e4 p1 w1 => ?_⟩
    refine ⟨_, rfl, y, CL, dy, _, rfl, s4 _ _ hy3, LC.cl, LC.nF, by show 2 < 1000; decide, ?_⟩
    have y1 : L1 ≠ y := fun e => by
      rw [e, hy3] at n4
      cases n4
    have F5 : Fr (fun b => b = y) H (upd H4 y (.ins CL dy (putF "_first" (.ref L1) (putF "_state" (.int (n : Nat)) (putF "_thing" (.ref x) []))))) := Fr.set (F3.trans (Fr.of s4)) rfl
    have hy5 : upd H4 y (.ins CL dy (putF "_first" (.ref L1) (putF "_state" (.int (n : Nat)) (putF "_thing" (.ref x) [])))) y = some (.ins CL dy (putF "_first" (.ref L1) (putF "_state" (.int (n : Nat)) (putF "_thing" (.ref x) [])))) := upd_same
    have e5 : upd H4 y (.ins CL dy (putF "_first" (.ref L1) (putF "_state" (.int (n : Nat)) (putF "_thing" (.ref x) [])))) L1 = some (.lst (g1.map V.int)) := by rw [upd_ne y1, e4]
    generalize upd H4 y (.ins CL dy (putF "_first" (.ref L1) (putF "_state" (.int (n : Nat)) (putF "_thing" (.ref x) [])))) = H5 at F5 hy5 e5 ⊢
    refine ⟨_, rfl, _, rfl, x, a2, S, ns, rs, ws, rfl, kT F5, R.nd, kL F5 h2, by omega, wn, fun H6 L2 g2 s6 n6 e6 p2 w2 => ?_⟩
    refine ⟨_, rfl, y, CL, dy, _, rfl, s6 _ _ hy5, LC.cl, LC.nG, by show 3 < 1000; decide, ?_⟩
    have y2 : L2 ≠ y := fun e => by
      rw [e, hy5] at n6
      cases n6
    have nn : ∀ {b : Addr} {H' : Hp}, Fr (fun b => b = y) H H' → H' b = none → b ≠ y → H b = none := fun {b H'} F z nb => by
      cases e : H b with
      | none => rfl
      | some o =>
        rw [F _ _ nb e] at z
        cases z
    refine q _ L1 L2 g1 g2 (Fr.set (F5.trans (Fr.of s6)) rfl) (nn F3 n4 y1) (nn F5 n6 y2) upd_same (by rw [upd_ne y1, s6 _ _ e5]) (by rw [upd_ne y2, e6]) p1 w1 p2 w2
end
end K21

namespace K21
open PySem PySem.Spec PyProof.Rows L2 Xv Cr TL
abbrev s_ly_th : Stmt := inClass (top 43) 1
abbrev N_ly_th : List Str := ["self"]
theorem sc_ly_th : FnScope N_ly_th ["self"] (defScope s_ly_th) := ⟨rfl, rfl, rfl, by decide +kernel, rfl, by decide +kernel, by decide +kernel⟩
abbrev s_ly_st : Stmt := inClass (top 43) 2
abbrev N_ly_st : List Str := ["self"]
theorem sc_ly_st : FnScope N_ly_st ["self"] (defScope s_ly_st) := ⟨rfl, rfl, rfl, by decide +kernel, rfl, by decide +kernel, by decide +kernel⟩
abbrev s_ly_fs : Stmt := inClass (top 43) 3
abbrev N_ly_fs : List Str := ["self"]
theorem sc_ly_fs : FnScope N_ly_fs ["self"] (defScope s_ly_fs) := ⟨rfl, rfl, rfl, by decide +kernel, rfl, by decide +kernel, by decide +kernel⟩
abbrev s_ly_sn : Stmt := inClass (top 43) 4
abbrev N_ly_sn : List Str := ["self"]
theorem sc_ly_sn : FnScope N_ly_sn ["self"] (defScope s_ly_sn) := ⟨rfl, rfl, rfl, by decide +kernel, rfl, by decide +kernel, by decide +kernel⟩
abbrev s_ly_hd : Stmt := inClass (top 43) 5
abbrev N_ly_hd : List Str := ["self"]
theorem sc_ly_hd : FnScope N_ly_hd ["self"] (defScope s_ly_hd) := ⟨rfl, rfl, rfl, by decide +kernel, rfl, by decide +kernel, by decide +kernel⟩
abbrev s_ly_ln : Stmt := inClass (top 43) 21
abbrev N_ly_ln : List Str := ["self"]
theorem sc_ly_ln : FnScope N_ly_ln ["self"] (defScope s_ly_ln) := ⟨rfl, rfl, rfl, by decide +kernel, rfl, by decide +kernel, by decide +kernel⟩
/-- a layout: its thing, its state, the places of both teams -/
def LyAt (C : Addr) (H : Hp) (y x : Addr) (n : Nat) (ps qs : List Nat) : Prop := ∃ dy l1 l2, H y = some (.ins C dy (fsL x n l1 l2)) ∧ H l1 = some (.lst (zs ps)) ∧ H l2 = some (.lst (zs qs))
theorem LyAt.same {C y x : Addr} {H H' : Hp} {n : Nat} {ps qs : List Nat} (h : LyAt C H y x n ps qs) (s : Same H H') : LyAt C H' y x n ps qs := by
  obtain ⟨dy, l1, l2, a, b, c⟩ := h
  exact ⟨dy, l1, l2, s _ _ a, s _ _ b, s _ _ c⟩
theorem zs_len (g : List Nat) : (zs g).length = g.length := List.length_map _
def spLyTh (C : Addr) : Sp := fun vs H Q _ => ∃ y x n ps qs, vs = [.ref y] ∧ LyAt C H y x n ps qs ∧ Q (.ref x) H
def spLySt (C : Addr) : Sp := fun vs H Q _ => ∃ y x n ps qs, vs = [.ref y] ∧ LyAt C H y x n ps qs ∧ Q (.int (n : Nat)) H
def spLyHd (C : Addr) : Sp := fun vs H Q _ => ∃ y x n ps qs, vs = [.ref y] ∧ LyAt C H y x n ps qs ∧ Q (.int (ps.length + qs.length : Nat)) H
def spLyLn (C : Addr) : Sp := fun vs H Q _ => ∃ y x n ps qs, vs = [.ref y] ∧ LyAt C H y x n ps qs ∧ ps.length + qs.length < 1000 ∧ ∀ H', Same H H' → Q (.int (ps.length + qs.length : Nat)) H'
/-- the deeds of a team, told -/
def spLyDs (K : PySem.W.Frag) (Ct C : Addr) (b : Bool) : Sp := fun vs H Q _ => ∃ y x n ps qs S ns rs, vs = [.ref y] ∧ LyAt C H y x n ps qs ∧ ThAt K Ct S H x ns rs ∧ (cond b ps qs).length ≤ 1000 ∧ (∀ p ∈ cond b ps qs, p < ns.length) ∧
  ∀ H' L, Same H H' → H L = none → H' L = some (.lst (((cond b ps qs).map fun p => ns.getD p "").map V.str)) → Q (.ref L) H'
section
variable {P : Program} {w : World} {K : PySem.W.Frag} {mg : Str → Option Value} {base : Heap} {Ct CL f : Addr} {fd : FuncData}
theorem ok_ly_th (F : Fun K "thing" "Layout.thing" s_ly_th f fd) (LC : LyC K CL) : FnOk P w K mg base CX0 1 f fd ["self"] (spLyTh CL) := by
  refine F.ok sc_ly_th (fun vs H Q E h => ?_) (fun cdv A outer s H vs Q E hr h => ?_)
  · obtain ⟨y, x, n, ps, qs, rfl, _⟩ := h
    rfl
  · obtain ⟨y, x, n, ps, qs, rfl, ly, q⟩ := h
    obtain ⟨dy, l1, l2, hy, e1, e2⟩ := ly
    refine ⟨_, (pss_one (ps_ret (pe_fld (pv 0) rfl))), ?_⟩
    exact ⟨_, rfl, y, CL, dy, _, _, rfl, hy, LC.cl, LC.nT, rfl, q⟩
theorem ok_ly_st (F : Fun K "state" "Layout.state" s_ly_st f fd) (LC : LyC K CL) : FnOk P w K mg base CX0 1 f fd ["self"] (spLySt CL) := by
  refine F.ok sc_ly_st (fun vs H Q E h => ?_) (fun cdv A outer s H vs Q E hr h => ?_)
  · obtain ⟨y, x, n, ps, qs, rfl, _⟩ := h
    rfl
  · obtain ⟨y, x, n, ps, qs, rfl, ly, q⟩ := h
    obtain ⟨dy, l1, l2, hy, e1, e2⟩ := ly
    refine ⟨_, (pss_one (ps_ret (pe_fld (pv 0) rfl))), ?_⟩
    exact ⟨_, rfl, y, CL, dy, _, _, rfl, hy, LC.cl, LC.nS, rfl, q⟩
theorem ok_ly_fs (F : Fun K "first" "Layout.first" s_ly_fs f fd) (c_dat : Cl P w K mg base 3 "deeds_at" (spDat K Ct)) (LC : LyC K CL) : FnOk P w K mg base CX0 4 f fd ["self"] (spLyDs K Ct CL true) := by
  refine F.ok sc_ly_fs (fun vs H Q E h => ?_) (fun cdv A outer s H vs Q E hr h => ?_)
  · obtain ⟨y, x, n, ps, qs, S, ns, rs, rfl, _⟩ := h
    rfl
  · obtain ⟨y, x, n, ps, qs, S, ns, rs, rfl, ly, t, p1, pn, q⟩ := h
    obtain ⟨dy, l1, l2, hy, e1, e2⟩ := ly
    refine ⟨_, (pss_one (ps_ret (pe_cl c_dat hr (by decide) (by rfl) (pa_cons (pe_fld (pv 0) rfl) (pa_cons (pe_fld (pv 0) rfl) pa_nil))))), ?_⟩
    refine ⟨_, rfl, y, CL, dy, _, _, rfl, hy, LC.cl, LC.nT, rfl, ?_⟩
    refine ⟨_, rfl, y, CL, dy, _, _, rfl, hy, LC.cl, LC.nF, rfl, ?_⟩
    exact ⟨x, l1, S, ns, rs, _, rfl, t, e1, p1, pn, q⟩
theorem ok_ly_sn (F : Fun K "second" "Layout.second" s_ly_sn f fd) (c_dat : Cl P w K mg base 3 "deeds_at" (spDat K Ct)) (LC : LyC K CL) : FnOk P w K mg base CX0 4 f fd ["self"] (spLyDs K Ct CL false) := by
  refine F.ok sc_ly_sn (fun vs H Q E h => ?_) (fun cdv A outer s H vs Q E hr h => ?_)
  · obtain ⟨y, x, n, ps, qs, S, ns, rs, rfl, _⟩ := h
    rfl
  · obtain ⟨y, x, n, ps, qs, S, ns, rs, rfl, ly, t, p1, pn, q⟩ := h
    obtain ⟨dy, l1, l2, hy, e1, e2⟩ := ly
    refine ⟨_, (pss_one (ps_ret (pe_cl c_dat hr (by decide) (by rfl) (pa_cons (pe_fld (pv 0) rfl) (pa_cons (pe_fld (pv 0) rfl) pa_nil))))), ?_⟩
    refine ⟨_, rfl, y, CL, dy, _, _, rfl, hy, LC.cl, LC.nT, rfl, ?_⟩
    refine ⟨_, rfl, y, CL, dy, _, _, rfl, hy, LC.cl, LC.nG, rfl, ?_⟩
    exact ⟨x, l2, S, ns, rs, _, rfl, t, e2, p1, pn, q⟩
theorem ok_ly_hd (F : Fun K "hands" "Layout.hands" s_ly_hd f fd) (T : Bl mg) (LC : LyC K CL) : FnOk P w K mg base CX0 1 f fd ["self"] (spLyHd CL) := by
  refine F.ok sc_ly_hd (fun vs H Q E h => ?_) (fun cdv A outer s H vs Q E hr h => ?_)
  · obtain ⟨y, x, n, ps, qs, rfl, _⟩ := h
    rfl
  · obtain ⟨y, x, n, ps, qs, rfl, ly, q⟩ := h
    obtain ⟨dy, l1, l2, hy, e1, e2⟩ := ly
    refine ⟨_, (pss_one (ps_ret (pe_op op_add (pe_callB (id := "len") (call_ln) (by rfl) T.len (by decide +kernel) (pa_cons (pe_fld (pv 0) rfl) pa_nil)) (pe_callB (id := "len") (call_ln) (by rfl) T.len (by decide +kernel) (pa_cons (pe_fld (pv 0) rfl) pa_nil))))), ?_⟩
    refine ⟨_, rfl, y, CL, dy, _, _, rfl, hy, LC.cl, LC.nF, rfl, l1, _, rfl, .inl (SqL.of e1), ?_⟩
    refine ⟨_, rfl, y, CL, dy, _, _, rfl, hy, LC.cl, LC.nG, rfl, l2, _, rfl, .inl (SqL.of e2), _, _, rfl, rfl, ?_⟩
    rw [zs_len, zs_len]
    exact q
theorem ok_ly_ln (F : Fun K "__len__" "Layout.__len__" s_ly_ln f fd) (T : Bl mg) (LC : LyC K CL) : FnOk P w K mg base CX0 1 f fd ["self"] (spLyLn CL) := by
  refine F.ok sc_ly_ln (fun vs H Q E h => ?_) (fun cdv A outer s H vs Q E hr h => ?_)
  · obtain ⟨y, x, n, ps, qs, rfl, _⟩ := h
    rfl
  · obtain ⟨y, x, n, ps, qs, rfl, ly, z1, q⟩ := h
    obtain ⟨dy, l1, l2, hy, e1, e2⟩ := ly
    refine ⟨_, (pss_one (ps_ret (pe_callB (id := "len") (call_ln) (by rfl) T.len (by decide +kernel) (pa_cons (pe_op op_cat (pe_fld (pv 0) rfl) (pe_fld (pv 0) rfl)) pa_nil)))), ?_⟩
    refine ⟨_, rfl, y, CL, dy, _, _, rfl, hy, LC.cl, LC.nF, rfl, ?_⟩
    refine ⟨_, rfl, y, CL, dy, _, _, rfl, hy, LC.cl, LC.nG, rfl, l1, l2, _, _, rfl, rfl, e1, e2, by rw [zs_len, zs_len]; exact Nat.le_trans (Nat.le_of_lt z1) (by decide), fun p np => ?_⟩
    refine ⟨p, _, rfl, .inl (SqL.of upd_same), ?_⟩
    rw [List.length_append, zs_len, zs_len]
    exact q _ (same_upd np)
end
end K21

namespace K21
open PySem PySem.Spec PyProof.Rows L2 Xv Cr TL
abbrev s_is_hand : Stmt := top 32
abbrev N_is_hand : List Str := ["value", "hands"]
theorem sc_is_hand : FnScope N_is_hand ["value", "hands"] (defScope s_is_hand) := ⟨rfl, rfl, rfl, by decide +kernel, rfl, by decide +kernel, by decide +kernel⟩
abbrev s_ck_hand : Stmt := top 33
abbrev N_ck_hand : List Str := ["hand", "hands"]
theorem sc_ck_hand : FnScope N_ck_hand ["hand", "hands"] (defScope s_ck_hand) := ⟨rfl, rfl, rfl, by decide +kernel, rfl, by decide +kernel, by decide +kernel⟩
abbrev s_ly_deed : Stmt := inClass (top 43) 6
abbrev N_ly_deed : List Str := ["self", "hand", "places"]
theorem sc_ly_deed : FnScope N_ly_deed ["self", "hand"] (defScope s_ly_deed) := ⟨rfl, rfl, rfl, by decide +kernel, rfl, by decide +kernel, by decide +kernel⟩
abbrev s_ly_team : Stmt := inClass (top 43) 7
abbrev N_ly_team : List Str := ["self", "hand"]
theorem sc_ly_team : FnScope N_ly_team ["self", "hand"] (defScope s_ly_team) := ⟨rfl, rfl, rfl, by decide +kernel, rfl, by decide +kernel, by decide +kernel⟩
def spIsHand : Sp := fun vs H Q _ => ∃ i n : Int, vs = [.int i, .int n] ∧ Q (.bl (decide (0 ≤ i) && decide (i ≤ n - 1))) H
def spCHand : Sp := fun vs H Q _ => ∃ i n : Int, vs = [.int i, .int n] ∧ 0 ≤ i ∧ i < n ∧ Q .non H
/-- the deed of a hand -/
def spLyDeed (K : PySem.W.Frag) (Ct C : Addr) : Sp := fun vs H Q _ => ∃ (y x : Addr) (n : Nat) (ps qs : List Nat) (S : Addr → Prop) (ns : List Str) (rs : List Rw) (i p : Nat), vs = [.ref y, .int (i : Nat)] ∧ LyAt C H y x n ps qs ∧ ThAt K Ct S H x ns rs ∧ ps.length + qs.length < 1000 ∧ (ps ++ qs)[i]? = some p ∧ p < ns.length ∧ ∀ H', Same H H' → Q (.str (ns.getD p "")) H'
/-- the team of a hand -/
def spLyTeam (C : Addr) : Sp := fun vs H Q _ => ∃ (y x : Addr) (n : Nat) (ps qs : List Nat) (i : Nat), vs = [.ref y, .int (i : Nat)] ∧ LyAt C H y x n ps qs ∧ ps.length + qs.length < 1000 ∧ i < ps.length + qs.length ∧ ∀ H', Same H H' → Q (.int (if i < ps.length then 0 else 1)) H'
section
variable {P : Program} {w : World} {K : PySem.W.Frag} {mg : Str → Option Value} {base : Heap} {Ct CL f : Addr} {fd : FuncData}
theorem ok_is_hand (F : Fun K "is_hand" "is_hand" s_is_hand f fd) (c_is_integer_from : Cl P w K mg base 2 "is_integer_from" spIntF) : FnOk P w K mg base CX0 3 f fd ["value", "hands"] (spIsHand) := by
  refine F.ok sc_is_hand (fun vs H Q E h => ?_) (fun cdv A outer s H vs Q E hr h => ?_)
  · obtain ⟨i, n, rfl, _⟩ := h
    rfl
  · obtain ⟨i, n, rfl, q⟩ := h
    refine ⟨_, (pss_one (ps_ret (pe_cl c_is_integer_from hr (by decide) (by rfl) (pa_cons (pv 0) (pa_cons pe_int (pa_cons (pe_op op_sub (pv 1) pe_int) pa_nil)))))), ?_⟩
    exact ⟨_, rfl, _, rfl, _, _, rfl, rfl, i, 0, n - 1, rfl, q⟩
theorem ok_ck_hand (F : Fun K "check_hand" "check_hand" s_ck_hand f fd) (c_is_hand : Cl P w K mg base 3 "is_hand" spIsHand) : FnOk P w K mg base CX0 4 f fd ["hand", "hands"] (spCHand) := by
  refine F.ok sc_ck_hand (fun vs H Q E h => ?_) (fun cdv A outer s H vs Q E hr h => ?_)
  · obtain ⟨i, n, rfl, _⟩ := h
    rfl
  · obtain ⟨i, n, rfl, a, b, q⟩ := h
    refine ⟨_, (pss_one (ps_if (pt_not (pt_val (pe_cl c_is_hand hr (by decide) (by rfl) (pa_cons (pv 0) (pa_cons (pv 1) pa_nil))))) (pss_one ps_never) pss_nil)), ?_⟩
    refine ⟨_, rfl, _, rfl, i, n, rfl, _, rfl, ite2 (fun z => ?_) (fun _ => q)⟩
    rw [decide_eq_true a, decide_eq_true (show i ≤ n - 1 by omega)] at z
    cases z
theorem ok_ly_deed (F : Fun K "deed" "Layout.deed" s_ly_deed f fd) (T : Bl mg) (LC : LyC K CL) (c_len : OwnM P w K mg base CL 1 "__len__" ["self"] (spLyLn CL)) (c_ck_hand : Cl P w K mg base 4 "check_hand" spCHand) (TC : ThC K Ct) (p_deeds : PrpM P w K mg base Ct 1 "deeds" (spTDeeds K Ct)) : FnOk P w K mg base CX0 5 f fd ["self", "hand"] (spLyDeed K Ct CL) := by
  refine F.ok sc_ly_deed (fun vs H Q E h => ?_) (fun cdv A outer s H vs Q E hr h => ?_)
  · obtain ⟨y, x, n, ps, qs, S, ns, rs, i, p, rfl, _⟩ := h
    rfl
  · obtain ⟨y, x, n, ps, qs, S, ns, rs, i, p, rfl, ly, t, z1, hp, pn, q⟩ := h
    refine ⟨_, (pss_cons (ps_expr (pe_cl c_ck_hand hr (by decide) (by rfl) (pa_cons (pv 1) (pa_cons (pe_callB (id := "len") (call_lenM c_len hr (by decide)) (by rfl) T.len (by decide +kernel) (pa_cons (pv 0) pa_nil)) pa_nil))))
  (pss_cons (ps_set (i := 2) sc_ly_deed.nd rfl (Or.inl rfl) (pe_op op_cat (pe_fld (pv 0) rfl) (pe_fld (pv 0) rfl)))
  (pss_one (ps_ret (pe_ix ix_list (pe_prp p_deeds TC.cl hr (by decide) (pe_fld (pv 0) rfl)) (pe_ix ix_list (pv 2) (pv 1) (fun _ _ => rfl)) (fun _ _ => rfl)))))), ?_⟩
    obtain ⟨dy, l1, l2, hy, e1, e2⟩ := id ly
    refine ⟨_, rfl, _, rfl, y, dy, _, rfl, hy, ⟨y, x, n, ps, qs, rfl, ly, z1, fun H1 s1 => ?_⟩⟩
    refine ⟨((ps.length + qs.length : Nat) : Int), rfl, by omega, by omega, ⟨i, ((ps.length + qs.length : Nat) : Int), rfl, by omega, by have := (List.getElem?_eq_some_iff.mp hp).1; rw [List.length_append] at this; omega, ?_⟩⟩
    have hy1 := s1 _ _ hy
    refine ⟨_, rfl, y, CL, dy, _, _, rfl, hy1, LC.cl, LC.nF, rfl, ?_⟩
    refine ⟨_, rfl, y, CL, dy, _, _, rfl, hy1, LC.cl, LC.nG, rfl, l1, l2, _, _, rfl, rfl, s1 _ _ e1, s1 _ _ e2, by rw [zs_len, zs_len]; exact Nat.le_trans (Nat.le_of_lt z1) (by decide), fun p1 np => ?_⟩
    have s2 := same_upd (o := .lst (zs ps ++ zs qs)) np
    have s12 := s1.trans s2
    have ep : upd H1 p1 (.lst (zs ps ++ zs qs)) p1 = some (.lst (zs (ps ++ qs))) := by rw [upd_same]; unfold zs; rw [List.map_append]
    generalize upd H1 p1 (.lst (zs ps ++ zs qs)) = H2 at s2 s12 ep ⊢
    have t2 := t.same s12
    obtain ⟨dx, l0, m0, ys0, hx2, _⟩ := t2.op
    refine ⟨_, rfl, y, CL, dy, _, _, rfl, s12 _ _ hy, LC.cl, LC.nT, rfl, x, dx, _, rfl, hx2, x, S, ns, rs, rfl, t2, fun L nL => ?_⟩
    have s3 : Same H2 (upd H2 L (.lst (ns.map V.str))) := same_upd nL
    refine ⟨_, rfl, _, rfl, p1, _, _, _, rfl, rfl, SqL.of (s3 _ _ ep), at_i (zs_at hp), ?_⟩
    refine ⟨L, _, _, _, rfl, rfl, SqL.of upd_same, at_i (show (ns.map V.str)[p]? = some (V.str (ns.getD p "")) from by rw [List.getElem?_map, getD_str pn]; rfl), ?_⟩
    exact q _ (s12.trans s3)
theorem ok_ly_team (F : Fun K "team" "Layout.team" s_ly_team f fd) (T : Bl mg) (LC : LyC K CL) (c_len : OwnM P w K mg base CL 1 "__len__" ["self"] (spLyLn CL)) (c_ck_hand : Cl P w K mg base 4 "check_hand" spCHand) : FnOk P w K mg base CX0 5 f fd ["self", "hand"] (spLyTeam CL) := by
  refine F.ok sc_ly_team (fun vs H Q E h => ?_) (fun cdv A outer s H vs Q E hr h => ?_)
  · obtain ⟨y, x, n, ps, qs, i, rfl, _⟩ := h
    rfl
  · obtain ⟨y, x, n, ps, qs, i, rfl, ly, z1, hi, q⟩ := h
    refine ⟨_, (pss_cons (ps_expr (pe_cl c_ck_hand hr (by decide) (by rfl) (pa_cons (pv 1) (pa_cons (pe_callB (id := "len") (call_lenM c_len hr (by decide)) (by rfl) T.len (by decide +kernel) (pa_cons (pv 0) pa_nil)) pa_nil))))
  (pss_one (ps_ret (pe_ifExp (pt_cmpR op_lt (pv 1) (pe_callB (id := "len") (call_ln) (by rfl) T.len (by decide +kernel) (pa_cons (pe_fld (pv 0) rfl) pa_nil)) (nomark _)) pe_int pe_int)))), ?_⟩
    obtain ⟨dy, l1, l2, hy, e1, e2⟩ := id ly
    refine ⟨_, rfl, _, rfl, y, dy, _, rfl, hy, ⟨y, x, n, ps, qs, rfl, ly, z1, fun H1 s1 => ?_⟩⟩
    refine ⟨((ps.length + qs.length : Nat) : Int), rfl, by omega, by omega, ⟨i, ((ps.length + qs.length : Nat) : Int), rfl, by omega, by omega, ?_⟩⟩
    refine ⟨_, rfl, _, rfl, y, CL, dy, _, _, rfl, s1 _ _ hy, LC.cl, LC.nF, rfl, l1, _, rfl, .inl (SqL.of (s1 _ _ e1)), _, _, rfl, rfl, ?_⟩
    rw [zs_len]
    have q1 := q H1 s1
    refine ⟨_, rfl, ite2 (fun z => ?_) (fun z => ?_)⟩
    · have : i < ps.length := by have := of_decide_eq_true z; omega
      rw [if_pos this] at q1
      exact q1
    · have : ¬ i < ps.length := fun k => z (decide_eq_true (by omega))
      rw [if_neg this] at q1
      exact q1
end
end K21

namespace K21
open PySem PySem.Spec PyProof.Rows L2 Xv Cr TL
theorem dp_ints {K : PySem.W.Frag} {H : Hp} : ∀ (a : List Int), DpAll K H (a.map V.int) (a.map PyData.int)
  | [] => .nil
  | x :: r => .cons (.int x) (dp_ints r)
theorem lay_ints : ∀ a : List Int, PyData.canLayAll0 (a.map PyData.int) = true
  | [] => rfl
  | x :: r => by
    show (PyData.canLay0 (.int x) && PyData.canLayAll0 (r.map PyData.int)) = true
    rw [lay_ints r]
    rfl
def intsD (a : List Int) : PyData := .list (a.map .int)
theorem eqv_ints (a b : List Int) : PyData.eqv (intsD a) (intsD b) = decide (a = b) := PySem.W.Datum.eqv a b
theorem shaped_ints (a : List Int) : SeqAt.shaped (intsD a) = true := by
  unfold SeqAt.shaped
  rw [Bool.and_eq_true]
  exact ⟨lay_ints a, decide_eq_true (Nat.le_trans (PySem.W.Datum.depth_le a) (by decide))⟩
abbrev s_ly_eq : Stmt := inClass (top 43) 22
abbrev N_ly_eq : List Str := ["self", "other"]
theorem sc_ly_eq : FnScope N_ly_eq ["self", "other"] (defScope s_ly_eq) := ⟨rfl, rfl, rfl, by decide +kernel, rfl, by decide +kernel, by decide +kernel⟩
theorem zs_ints (g : List Nat) : zs g = (g.map fun (a : Nat) => (a : Int)).map V.int := by
  unfold zs
  rw [List.map_map]
  rfl
theorem ofn_inj : ∀ {a b : List Nat}, (a.map fun (a : Nat) => (a : Int)) = (b.map fun (a : Nat) => (a : Int)) → a = b
  | [], [], _ => rfl
  | x :: r, y :: u, h => by
    injection h with h1 h2
    rw [Int.ofNat.inj h1, ofn_inj h2]
theorem dec_ofn (a b : List Nat) : decide ((a.map fun (a : Nat) => (a : Int)) = (b.map fun (a : Nat) => (a : Int))) = decide (a = b) := by
  by_cases h : a = b
  · rw [h, decide_eq_true rfl, decide_eq_true rfl]
  · rw [decide_eq_false h, decide_eq_false fun z => h (ofn_inj z)]
/-- two layouts, compared -/
def spLyEq (K : PySem.W.Frag) (Ct C : Addr) : Sp := fun vs H Q _ => ∃ (y x : Addr) (n : Nat) (ps qs : List Nat) (S : Addr → Prop) (ns : List Str) (rs : List Rw) (v : V), vs = [.ref y, v] ∧ LyAt C H y x n ps qs ∧ ThAt K Ct S H x ns rs ∧ (∀ z ∈ ns, Nm z) ∧
  ((∃ (y2 x2 : Addr) (n2 : Nat) (ps2 qs2 : List Nat) (S2 : Addr → Prop) (ns2 : List Str) (rs2 : List Rw), v = .ref y2 ∧ TyX K H (.ref y2) (.ref C) ∧ LyAt C H y2 x2 n2 ps2 qs2 ∧ ThAt K Ct S2 H x2 ns2 rs2 ∧ (∀ z ∈ ns2, Nm z) ∧ Q (.bl ((decide (ns = ns2) && decide (rs = rs2)) && (decide (n = n2) && (decide (ps = ps2) && decide (qs = qs2))))) H) ∨ (∃ t, TyX K H v t ∧ PySem.W.kitOne K t (.ref C) = some false ∧ Q (.bl false) H))
section
variable {P : Program} {w : World} {K : PySem.W.Frag} {mg : Str → Option Value} {base : Heap} {Ct CL f : Addr} {fd : FuncData}
theorem ok_ly_eq (F : Fun K "__eq__" "Layout.__eq__" s_ly_eq f fd) (T : Bl mg) (LC : LyC K CL) (Z : ThF K Ct) (gl : mg "Layout" = some (.ref CL)) (kt : PySem.W.kitOne K (.ref CL) (.ref CL) = some true) (c_eq : OwnM P w K mg base Ct 1 "__eq__" ["self", "other"] (spTEq K Ct)) : FnOk P w K mg base CX0 2 f fd ["self", "other"] (spLyEq K Ct CL) := by
  refine F.ok sc_ly_eq (fun vs H Q E h => ?_) (fun cdv A outer s H vs Q E hr h => ?_)
  · obtain ⟨y, x, n, ps, qs, S, ns, rs, v, rfl, _⟩ := h
    rfl
  · obtain ⟨y, x, n, ps, qs, S, ns, rs, v, rfl, ⟨dy, l1, l2, hy, e1, e2⟩, t, nm, q⟩ := h
    refine ⟨_, (pss_one (ps_ret (pe_and (pe_callB (id := "isinstance") call_isi (by rfl) T.isinstance (by decide +kernel) (pa_cons (pv 1) (pa_cons (pe_glob (v := .ref CL) (by rfl) gl rfl) pa_nil))) (pe_and (pe_cmpR (op_eqM c_eq hr (by decide)) (pe_fld (pv 0) rfl) (pe_fld (pv 1) rfl) (nomark _)) (pe_and (pe_cmpR op_eq (pe_fld (pv 0) rfl) (pe_fld (pv 1) rfl) (nomark _)) (pe_and (pe_cmpR (op_eqD hr.units) (pe_fld (pv 0) rfl) (pe_fld (pv 1) rfl) (nomark _)) (pe_one (pe_cmpR (op_eqD hr.units) (pe_fld (pv 0) rfl) (pe_fld (pv 1) rfl) (nomark _))))))))), ?_⟩
    rcases q with ⟨y2, x2, n2, ps2, qs2, S2, ns2, rs2, rfl, ty, ⟨dy2, k1, k2, hy2, g1, g2⟩, t2, nm2, q⟩ | ⟨u, hu, hk, q⟩
    · refine ⟨_, rfl, _, _, _, _, _, rfl, .own _, ty, kt, true, rfl, ite2 (fun _ => ?_) (fun z => absurd rfl z)⟩
      refine ⟨_, rfl, y, CL, dy, _, _, rfl, hy, LC.cl, LC.nT, rfl, _, rfl, y2, CL, dy2, _, _, rfl, hy2, LC.cl, LC.nT, rfl, ?_⟩
      refine eq_things Z (neg := false) t t2 nm nm2 ⟨_, rfl, ite2 (fun z => ?_) (fun z => ?_)⟩
      · rw [show (decide (ns = ns2) && decide (rs = rs2)) = true from z, Bool.true_and] at q
        refine ⟨_, rfl, y, CL, dy, _, _, rfl, hy, LC.cl, LC.nS, rfl, _, rfl, y2, CL, dy2, _, _, rfl, hy2, LC.cl, LC.nS, rfl, rfl, ?_⟩
        refine ⟨_, rfl, ite2 (fun z2 => ?_) (fun z2 => ?_)⟩
        · have en : n = n2 := by
            have := of_decide_eq_true z2
            injection this with k
            exact Int.ofNat.inj k
          rw [decide_eq_true en, Bool.true_and] at q
          refine ⟨_, rfl, y, CL, dy, _, _, rfl, hy, LC.cl, LC.nF, rfl, _, rfl, y2, CL, dy2, _, _, rfl, hy2, LC.cl, LC.nF, rfl, intsD (ps.map fun (a : Nat) => (a : Int)), intsD (ps2.map fun (a : Nat) => (a : Int)), .lst (SqL.of e1) (by rw [zs_ints]; exact dp_ints _), .lst (SqL.of g1) (by rw [zs_ints]; exact dp_ints _), shaped_ints _, shaped_ints _, ?_⟩
          rw [eqv_ints, dec_ofn]
          refine ⟨_, rfl, ite2 (fun z3 => ?_) (fun z3 => ?_)⟩
          · rw [show decide (ps = ps2) = true from z3, Bool.true_and] at q
            refine ⟨_, rfl, y, CL, dy, _, _, rfl, hy, LC.cl, LC.nG, rfl, _, rfl, y2, CL, dy2, _, _, rfl, hy2, LC.cl, LC.nG, rfl, intsD (qs.map fun (a : Nat) => (a : Int)), intsD (qs2.map fun (a : Nat) => (a : Int)), .lst (SqL.of e2) (by rw [zs_ints]; exact dp_ints _), .lst (SqL.of g2) (by rw [zs_ints]; exact dp_ints _), shaped_ints _, shaped_ints _, ?_⟩
            rw [eqv_ints, dec_ofn]
            exact q
          · rw [show decide (ps = ps2) = false from Bool.eq_false_iff.mpr z3] at q
            exact q
        · have en : n ≠ n2 := fun e => z2 (decide_eq_true (by rw [e]))
          rw [decide_eq_false en, Bool.false_and] at q
          exact q
      · rw [show (decide (ns = ns2) && decide (rs = rs2)) = false from Bool.eq_false_iff.mpr z, Bool.false_and] at q
        exact q
    · exact ⟨_, rfl, _, _, _, _, _, rfl, .own _, hu, hk, false, rfl, ite2 (fun z => nomatch z) (fun _ => q)⟩
end
end K21

namespace Cr
open PySem PySem.Spec PyProof PyProof.Rows L2 Xv TL
section
variable {X : Cx} {k j : Nat} {C g : Addr} {fd : FuncData} {sp : Sp} {ps : List Str}
/-- {o!r}, by an own __repr__ -/
def tFmtRO (C : Addr) (sp : Sp) (te : TE) : TE := fun σ H Q => te σ H fun x H1 => ∃ a dx fs, x = .ref a ∧ H1 a = some (.ins C dx fs) ∧ sp [.ref a] H1 (fun v H' => ∃ x, v = .str x ∧ x.length ≤ sizeLine ∧ Q (.str x) H') E0
theorem pe_fmtRO {e : Expr} {te : TE} {pos : Pos} (F : FnG X.prog X.w X.K X.mg X.base k g fd ["self"] sp) (hr : Room (k + 1) X.A) (hgd : X.A.guards = some []) (hb : Binds X.K fd ["self"] []) (hs : PySem.W.findIn X.K (.ref C) "__repr__" = some (some (.ref g))) (hf : PySem.W.isFn X.K (.ref g) = true) (he : PE X e te) : PE X (.FormattedValue e 114 none pos) (tFmtRO C sp te) := by
  refine ⟨fun pins s σ H Q I h => ?_⟩
  refine wpAny_FormattedValue_repr (thn (he.run pins s σ H _ I h) fun v s1 hv => ?_)
  obtain ⟨x, H1, I1, r1, a, dx, fs, rfl, ea, q⟩ := hv
  obtain rfl : v = Value.ref a := r1
  obtain ⟨mA, O, _⟩ := ins_get I1.hok ea
  obtain ⟨od, J, _⟩ := O.look
  unfold pyReprObj
  refine wpAny_bind (m := cRoomFor _ _) (wpAny_cRoomFor (by have := hr.un; show X.A.units < cLine; omega) ?_)
  refine wpAny_bind (wpAny_bind (J.type.here ((PySem.W.looks_findIn I1.kIn hs).here ?_)))
  have bb := hb s1 [.ref a] I1.kIn rfl
  refine wpAny_bind (m := callSpecialIfBound? (.ref a) (Str.ofString "__repr__")) (PySem.W.ifBound_K I1.kIn J hs hf ?_)
  refine wpAny_call (codeAny_mono (F.run X.A X.stack s1 H1 ⟨[.ref a], []⟩ [.ref a] [.ref a] _ (hr.mono (Nat.le_succ k)) hgd I1.env0 bb (.cons rfl .nil) q) fun z s' hq => ?_)
  cases z with
  | error e => exact False.elim hq
  | ok fl =>
    cases fl with
    | ret u =>
      obtain ⟨v, H', I3, rv, x, rfl, hz, q3⟩ := I1.after hq
      obtain ⟨t, rfl⟩ := rv
      refine wpAny_bind (wpAny_isInstance (T := "str") (b := true) rfl isSubtype_str_str (wpAny_pure ?_))
      exact wpAny_formatField_str ⟨.str x, H', I3, ⟨t, rfl⟩, q3⟩ ⟨.str x, H', I3.kept (t' := s'.toks + 1) (fun _ _ z => z), ⟨_, rfl⟩, q3⟩ hz
    | next => exact False.elim hq
    | brk => exact False.elim hq
    | cont => exact False.elim hq
end
end Cr

namespace K21
open PySem PySem.Spec PyProof.Rows L2 Xv Cr TL
abbrev s_ly_repr : Stmt := inClass (top 43) 23
abbrev N_ly_repr : List Str := ["self"]
theorem sc_ly_repr : FnScope N_ly_repr ["self"] (defScope s_ly_repr) := ⟨rfl, rfl, rfl, by decide +kernel, rfl, by decide +kernel, by decide +kernel⟩
/-- the deeds at some places -/
def nmP (ns : List Str) (ps : List Nat) : List Str := ps.map fun p => ns.getD p ""
/-- a layout's text -/
def lyT (ns : List Str) (rs : List Rw) (n : Nat) (ps qs : List Nat) : Str := "Layout(" ++ thT ns rs ++ ", " ++ (toString (n : Int) : Str) ++ ", " ++ (namesD (nmP ns ps)).shown ++ ", " ++ (namesD (nmP ns qs)).shown ++ ")"
def spLyRepr (K : PySem.W.Frag) (Ct C : Addr) : Sp := fun vs H Q _ => ∃ (y x : Addr) (n : Nat) (ps qs : List Nat) (S : Addr → Prop) (ns : List Str) (rs : List Rw), vs = [.ref y] ∧ LyAt C H y x n ps qs ∧ ThAt K Ct S H x ns rs ∧ Right ns rs ∧ n < rs.length ∧ ps.length ≤ 4 ∧ qs.length ≤ 4 ∧ (∀ p ∈ ps, p < ns.length) ∧ (∀ p ∈ qs, p < ns.length) ∧ ∀ H', Same H H' → Q (.str (lyT ns rs n ps qs)) H'
theorem app_le {x y : Str} {a b : Nat} (h : x.length ≤ a) (k : y.length ≤ b) : (x ++ y).length ≤ a + b := by
  rw [strLen_append]
  omega
theorem int8 (n : Nat) (h : n < 8) : (toString (n : Int) : Str).length ≤ 2 := by
  have : ∀ k : Nat, k < 8 → (toString (k : Int) : Str).length ≤ 2 := by decide +kernel
  exact this n h
theorem nm_places {ns : List Str} {rs : List Rw} {ps : List Nat} (R : Right ns rs) (h : ∀ p ∈ ps, p < ns.length) : ∀ z ∈ nmP ns ps, Nm z := fun z hz => by
  obtain ⟨p, hp, rfl⟩ := List.mem_map.mp hz
  exact R.nm _ (List.mem_of_getElem? (getD_str (h p hp)))
section
variable {P : Program} {w : World} {K : PySem.W.Frag} {mg : Str → Option Value} {base : Heap} {Ct CL f : Addr} {fd : FuncData}
theorem pe_fmtRM {X : Cx} {C : Addr} {j : Nat} {e : Expr} {te : TE} {pos : Pos} (c : ReprM X.prog X.w X.K X.mg X.base C) (hr : Room j X.A) (hk : 2 ≤ j) (hgd : X.A.guards = some []) (he : PE X e te) : PE X (.FormattedValue e 114 none pos) (tFmtRO C (spTRepr X.K C) te) := by
  obtain ⟨g, fd, F, hs, hf, hb⟩ := c.ex
  exact pe_fmtRO F (hr.mono hk) hgd hb hs hf he
theorem ok_ly_repr (F : Fun K "__repr__" "Layout.__repr__" s_ly_repr f fd) (LC : LyC K CL) (c_repr : ReprM P w K mg base Ct) (p_first : PrpM P w K mg base CL 4 "first" (spLyDs K Ct CL true)) (p_second : PrpM P w K mg base CL 4 "second" (spLyDs K Ct CL false)) : FnG P w K mg base 6 f fd ["self"] (spLyRepr K Ct CL) := by
  refine Xv.Fun.okG F sc_ly_repr (fun vs H Q E h => ?_) (fun cdv A outer s H vs Q hr hgd h => ?_)
  · obtain ⟨y, x, n, ps, qs, S, ns, rs, rfl, _⟩ := h
    rfl
  · obtain ⟨y, x, n, ps, qs, S, ns, rs, rfl, ly, t, R, hn, p4, q4, pn, qn, q⟩ := h
    refine ⟨_, (pss_one (ps_ret (pe_joined (.cons pe_str (.cons (pe_fmtRM c_repr hr (by decide) hgd (pe_fld (pv 0) rfl)) (.cons pe_str (.cons (pe_fmtR (pe_fld (pv 0) rfl)) (.cons pe_str (.cons (pe_fmtRD hgd hr.units (pe_prp p_first LC.cl hr (by decide) (pv 0))) (.cons pe_str (.cons (pe_fmtRD hgd hr.units (pe_prp p_second LC.cl hr (by decide) (pv 0))) (.cons pe_str .nil)))))))))))), ?_⟩
    obtain ⟨dy, l1, l2, hy, e1, e2⟩ := id ly
    obtain ⟨dx, l0, m0, ys, hx, sl, sm, nx, hl, hm, hp⟩ := t.op
    have e0 := empty_app "Layout("
    have L0 := len_th R
    have S1 := sm_names (ns := nmP ns ps) (by unfold nmP; rw [List.length_map]; exact p4) (nm_places R pn)
    have S2 := sm_names (ns := nmP ns qs) (by unfold nmP; rw [List.length_map]; exact q4) (nm_places R qn)
    have Z1 := S1.len
    have Z2 := S2.len
    have Z0 := int8 n (by have := R.r8; omega)
    have c1 : (("Layout(" : Str) ++ thT ns rs).length ≤ 40010 := by
      rw [strLen_append]
      have : ("Layout(" : Str).length = 7 := rfl
      omega
    refine ⟨_, rfl, by rw [e0]; decide, ?_⟩
    rw [e0]
    refine ⟨_, rfl, y, CL, dy, _, _, rfl, hy, LC.cl, LC.nT, rfl, x, dx, _, rfl, hx, x, S, ns, rs, rfl, t, R, _, rfl, by rw [sizeLine_eq]; omega, _, rfl, by rw [sizeLine_eq, strLen_append]; have : ("Layout(" : Str).length = 7 := rfl; omega, ?_⟩
    have c2 := app_le c1 (b := 2) (y := ", ") (by decide)
    have c3 := app_le c2 Z0
    have c4 := app_le c3 (b := 2) (y := ", ") (by decide)
    have c5 := app_le c4 Z1
    have c6 := app_le c5 (b := 2) (y := ", ") (by decide)
    have c7 := app_le c6 Z2
    have c8 := app_le c7 (b := 1) (y := ")") (by decide)
    refine ⟨_, rfl, str_len _ _ c2 (by decide), ?_⟩
    refine ⟨_, rfl, y, CL, dy, _, _, rfl, hy, LC.cl, LC.nS, rfl, .inr ⟨_, rfl, ?_, _, rfl, str_len _ _ c3 (by decide), ?_⟩⟩
    · have := R.r8
      exact Nat.lt_of_le_of_lt (Nat.log2_le_self _) (by omega)
    refine ⟨_, rfl, str_len _ _ c4 (by decide), ?_⟩
    refine ⟨_, rfl, y, dy, _, rfl, hy, y, x, n, ps, qs, S, ns, rs, rfl, ly, t, Nat.le_trans p4 (by decide), pn, fun H1 L1 s1 n1 g1 => ?_⟩
    refine ⟨L1, namesD (nmP ns ps), rfl, .lst (SqL.of g1) (dr_strs _), S1.sh, Nat.le_trans S1.dp (by decide), S1.fits (by decide), _, rfl, str_len _ _ c5 (by decide), ?_⟩
    refine ⟨_, rfl, str_len _ _ c6 (by decide), ?_⟩
    refine ⟨_, rfl, y, dy, _, rfl, s1 _ _ hy, y, x, n, ps, qs, S, ns, rs, rfl, ly.same s1, t.same s1, Nat.le_trans q4 (by decide), qn, fun H2 L2 s2 n2 g2 => ?_⟩
    refine ⟨L2, namesD (nmP ns qs), rfl, .lst (SqL.of g2) (dr_strs _), S2.sh, Nat.le_trans S2.dp (by decide), S2.fits (by decide), _, rfl, str_len _ _ c7 (by decide), ?_⟩
    exact ⟨_, rfl, str_len _ _ c8 (by decide), q _ (s1.trans s2)⟩
end
end K21

/-! how many unlike ints: set(xs) of a list or a tuple, its len -/
namespace Cr
open PySem PySem.Spec PyProof.Rows L2 Xv
/-- at a: a set of n elements, of which nothing else is known -/
def SetN (a : Addr) (n : Nat) : HO := .ext fun h => ∃ o es ep t, h.get? a = some o ∧ o.ExactSet ∧ o.data = .set es ep t ∧ t.fits es.size = true ∧ es.size = n ∧ (n : Int) < 2 ^ 63
theorem setN_ok {P : Program} {w : World} {H : Hp} {h : Heap} {a : Addr} {n : Nat} (R : ∃ o es ep t, h.get? a = some o ∧ o.ExactSet ∧ o.data = .set es ep t ∧ t.fits es.size = true ∧ es.size = n ∧ (n : Int) < 2 ^ 63) : ObjOk P w H h a (SetN a n) := by
  have ⟨o, _, _, _, ho, _⟩ := R
  refine ⟨R, ⟨o, ho⟩, fun h1 h2 ⟨o2, es, ep, t, ho2, r⟩ k => ⟨o2, es, ep, t, k o2 ho2, r⟩⟩
def rSetI (K : PySem.W.Frag) : List V → Hp → VK → Prop := fun xs H Q => ∃ (l : Addr) (ns : List Int), xs = [.ref l] ∧ (SqL K H l (ns.map V.int) ∨ SqT K H l (ns.map V.int)) ∧ ns.Nodup ∧ ns.length ≤ 1000 ∧ ∀ p, H p = none → Q (.ref p) (upd H p (SetN p ns.length))
def rLenN : List V → Hp → VK → Prop := fun xs H Q => ∃ (a : Addr) (n : Nat), xs = [.ref a] ∧ H a = some (SetN a n) ∧ Q (.int n) H
section
variable {X : Cx}
theorem call_lenN : CallR X (.builtin "len") rLenN := by
  intro pins s σ H xs us Q I r h
  obtain ⟨a, n, rfl, ha, q⟩ := h
  cases r with
  | cons r1 r2 =>
    cases r1
    cases r2
    obtain ⟨o, es, ep, t, ho, hex, hd, hf, hn, hz⟩ := (I.hok a _ ha).1
    exact call_len_set ho hex hd hf (by rw [hn]; exact hz) ⟨.int n, H, I.tok _, ⟨_, by rw [hn]⟩, q⟩
theorem call_setI (hc : X.calm = true) : CallR X (.type "set") (rSetI X.K) := by
  intro pins s σ H xs us Q I r h
  obtain ⟨l, ns, rfl, hq, nd, hz, q⟩ := h
  cases r with
  | cons r1 r2 =>
    cases r1
    cases r2
    have fin : ∀ (h' : Heap) (tk : Nat), (∀ b o, s.heap.get? b = some o → h'.get? b = some o) → (∃ o es ep t, h'.get? s.heap.objs.size = some o ∧ o.ExactSet ∧ o.data = .set es ep t ∧ t.fits es.size = true ∧ es.size = ns.length ∧ ((ns.length : Nat) : Int) < 2 ^ 63) →
        EP X pins σ Q (.ref s.heap.objs.size) { s with heap := h', toks := tk } := fun h' tk k R =>
      ⟨.ref _, upd H s.heap.objs.size (SetN s.heap.objs.size ns.length), I.laid (t' := tk) (fun b u e => k b u e) (Nat.le_refl _) (setN_ok R), rfl, q _ (I.hok.fresh (Nat.le_refl _))⟩
    rcases hq with hq | hq
    · obtain ⟨its, rv, pl, _⟩ := I.list hq
      have hlen : its.toArray.size = ns.length := by rw [List.size_toArray, ← rv.length, List.length_map]
      refine PySem.call_set_list (I.ok.hd hc) pl.isList (by simpa using RZ.intsAre_vals rv) (by rw [hlen]; unfold scanBound; omega) fun h' tk hS hk => fin h' tk (fun b o e => hk b o (Heap.lt_size e) e) ?_
      rw [hlen, RZ.firstMet_nodup nd ns.length (Nat.le_refl _), List.take_length] at hS
      obtain ⟨o, es, ep, t, ho, hex, hd, _, _, _, hf, hn⟩ := hS
      exact ⟨o, es, ep, t, ho, hex, hd, hf, hn, by omega⟩
    · obtain ⟨its, rv, pl, _⟩ := I.tuple hq
      refine L2.call_set_tupI ns (I.ok.hd hc) (show s.heap.IsTuple l its.toArray from pl) (by simpa using RZ.intsAre_vals rv) (by unfold scanBound; omega) fun h' tk c hS _ hk => fin h' tk hk ?_
      obtain ⟨o, es, ep, t, ho, hex, hd, _, ndk, hm, _, hf, _, _, _⟩ := hS
      have hp : (es.toList.map L2.keyOf).Perm ns := (List.perm_ext_iff_of_nodup ndk nd).mpr fun k => by
        rw [← hm k]
        exact decide_eq_true_iff
      have hn : es.size = ns.length := by
        have := hp.length_eq
        rw [List.length_map, Array.length_toList] at this
        exact this
      exact ⟨o, es, ep, t, ho, hex, hd, hf, hn, by omega⟩
end
end Cr

/-! set(xs) of a list of unlike keys of any one kind -/
namespace Cr
open PySem PySem.Spec
section
variable {prog : Program} {w : World} {κ : Type} [DecidableEq κ] {kd : KeyKind prog w κ} {A : Around}
theorem setOf_like {h : Heap} {a : Addr} {S T : κ → Bool} {n m : Nat} (z : h.SetOf kd a S n) (e : ∀ k, S k = T k) (en : n = m) : h.SetOf kd a T m := by
  cases en
  cases (funext e : S = T)
  exact z
theorem setOf_at {h h' : Heap} {a : Addr} {S : κ → Bool} {n : Nat} (z : h.SetOf kd a S n) (k : ∀ o, h.get? a = some o → h'.get? a = some o) : h'.SetOf kd a S n := by
  obtain ⟨o, es, ep, t, ho, r⟩ := z
  exact ⟨o, es, ep, t, k o ho, r⟩
theorem take_in {ks : List κ} (nd : ks.Nodup) {i : Nat} {k : κ} (h : ks[i]? = some k) : k ∉ ks.take i := fun hm => by
  obtain ⟨j, hj⟩ := List.getElem?_of_mem hm
  have lt : j < i := by
    have := (List.getElem?_eq_some_iff.mp hj).1
    rw [List.length_take] at this
    omega
  rw [List.getElem?_take_of_lt lt] at hj
  exact absurd ((List.getElem?_inj (List.getElem?_eq_some_iff.mp hj).1 nd).mp (hj.trans h.symm)) (by omega)
theorem take_more {ks : List κ} {i : Nat} {k : κ} (h : ks[i]? = some k) (x : κ) : (decide (x ∈ ks.take i) || decide (x = k)) = decide (x ∈ ks.take (i + 1)) := by
  rw [List.take_add_one, h, ← Bool.decide_or]
  exact decide_eq_decide.mpr (by simp)
/-- the walk of a set that is made of unlike keys: behind each turn it has the keys so far -/
theorem set_fill {R : Result → Shared → Prop} {I S : Addr} {fp wr : List Addr} {G : Array GenState → Array GenState → Prop} {P : Nat → Value → Prop} {St : Nat → Shared → Prop} {ks : List κ}
    (W : WalksS prog w A.in1 I fp wr G ks.length P St) (off : S ∉ fp) (nd : ks.Nodup) (sm : ks.length ≤ 4000) (key : ∀ i v, P i v → ∃ k, ks[i]? = some k ∧ kd.is k v = true ∧ v.scannable = true) :
    ∀ (left i : Nat), i + left = ks.length → ∀ (s : Shared), St i s → s.heap.SetOf kd S (fun k => decide (k ∈ ks.take i)) i →
      (∀ t, Moved (S :: wr) G s t → t.heap.SetOf kd S (fun k => decide (k ∈ ks)) ks.length → R (.ok (.ret .none)) t) →
      codeAny (model prog w) A (.builtin "set.update.loop" ⟨[.ref S, .ref I], []⟩) R s
  | 0, i, e, s, st, m, q => by
    cases (show i = ks.length from e)
    rw [List.take_length] at m
    refine codeAny_builtin PyProof.Rows.F.entry_set_update_loop ((congrArg (fun a => wpAny (model prog w) a _ _ _ s) (Around.under_plainId PyProof.Rows.F.plain_set_update_loop _)).mpr ?_)
    exact wpAny_bind (W.done s _ _ st fun t mv => wpAny_pure (q t (mv.mono fun b hb => .tail _ hb) (setOf_at m fun o => mv.heap S o fun hb => off (W.sub _ hb))))
  | left + 1, i, e, s, st, m, q => by
    have lt : i < ks.length := by omega
    refine codeAny_builtin PyProof.Rows.F.entry_set_update_loop ((congrArg (fun a => wpAny (model prog w) a _ _ _ s) (Around.under_plainId PyProof.Rows.F.plain_set_update_loop _)).mpr ?_)
    refine wpAny_bind (W.item i s _ _ lt st fun v s1 hv st1 mv => ?_)
    obtain ⟨k, hk, is, sc⟩ := key i v hv
    have m1 := setOf_at m fun o => mv.heap S o fun hb => off (W.sub _ hb)
    refine wpAny_bind (wpAny_holding (wpAny_holding (wpAny_bind (kd.pyHash is (wpAny_setAddHashed_of (s := { s1 with toks := s1.toks + 1 }) is sc m1 (by unfold scanBound; omega) fun h2 but m2 => ?_)))))
    refine wpAny_pure ⟨plainId_quiet PyProof.Rows.F.plain_set_update_loop _, set_fill W off nd sm key left (i + 1) (by omega) _ (W.frame _ s1 _ _ st1 (Nat.le_succ _) fun b hb o ho => ?_) (setOf_like m2 (take_more hk) (if_neg fun hd => take_in nd hk (of_decide_eq_true hd))) fun t mt => q t (Moved.trans W.gtrans ((mv.mono fun b hb => .tail _ hb).then_heap (Nat.le_succ _) fun b o hb ho => ?_) mt)⟩
    · rw [but.2 b fun z => off (z ▸ hb)]
      exact ho
    · rw [but.2 b fun z => hb (z ▸ .head _)]
      exact ho
/-- a set that has just been made -/
abbrev bare (led : Bool) : Obj := { cls := .type "set", dict := none, data := .set #[] 0 (.fresh 0 0 led) }
theorem bare_at (s : Shared) (led : Bool) : (s.heap.push (bare led)).get? s.heap.objs.size = some (bare led) := Heap.get?_push_size _ rfl
theorem bare_set (h : Heap) (a : Addr) (led : Bool) (z : h.get? a = some (bare led)) : h.SetOf kd a (fun k => decide (k ∈ ([] : List κ))) 0 :=
  ⟨_, #[], 0, _, z, ⟨rfl, rfl, rfl⟩, rfl, fun e he => by simp at he, fun k => by simp, by decide, rfl, rfl⟩
/-- set.__init__ of a bare set and a list -/
theorem set_init_keys {E : Value → Shared → Prop} {F : Fin → Shared → Prop} {s : Shared} {l : Addr} {items : Array Value} {ks : List κ} {led : Bool} (calm : A.handled = none) (at_l : s.heap.IsList l items) (nd : ks.Nodup) (sm : ks.length ≤ 4000)
    (len : ks.length = items.size) (key : ∀ (i : Nat) (v : Value), items[i]? = some v → ∃ k, ks[i]? = some k ∧ kd.is k v = true ∧ v.scannable = true)
    (q : ∀ (g : Heap) (tk : Nat), g.SetOf kd s.heap.objs.size (fun k => decide (k ∈ ks)) ks.length → (∀ b o, s.heap.get? b = some o → g.get? b = some o) → F (.done (.ret .none)) { s with heap := g, toks := tk }) :
    wpAny (model prog w) A (Builtin.«set.__init__» ⟨[.ref s.heap.objs.size, .ref l], []⟩) F E { s with heap := s.heap.push (bare led) } := by
  have new : (s.heap.push (bare led)).get? s.heap.objs.size = some (bare led) := bare_at s led
  have lists : (s.heap.push (bare led)).IsList l items := at_l.push _
  have below : l < s.heap.objs.size := let ⟨_, ho, _⟩ := at_l; Heap.lt_size ho
  have ⟨ol, ho, hcl, cap, hdl⟩ := lists
  rcases ol with ⟨oc, od, odata, osl⟩
  cases (show oc = _ from hcl)
  cases (show odata = _ from hdl)
  have n1 := PySem.F.sub_list_set
  have n2 := PySem.F.sub_list_frozenset
  have n3 : (Value.type "list" == Value.type "dict") = false := by decide
  unfold Builtin.«set.__init__» noKeywords Builtin.Frozenset.updateFrom
  generalize hPI : pyIter = PI
  wp_walk
  subst hPI
  refine wpAny_pyIter_list lists (wpAny_bind (wpAny_runValue ?_))
  have big : (s.heap.push (bare led)).objs.size = s.heap.objs.size + 1 := Heap.size_push ..
  have walk : WalksS prog w A.in1 (s.heap.push (bare led)).objs.size [(s.heap.push (bare led)).objs.size, l] [(s.heap.push (bare led)).objs.size] (fun a b => b = a) ks.length _ _ := len ▸ (Walks.list (by simp [calm]) (s.heap.push (bare led)).objs.size l (Nat.ne_of_lt (Nat.lt_of_lt_of_eq (Nat.lt_succ_of_lt below) big.symm)) items).toS
  refine set_fill walk (fun hm => ?_) nd sm key ks.length 0 (Nat.zero_add _) _ ⟨⟨_, Heap.get?_push_size _ rfl, rfl, rfl⟩, lists.push _⟩ (bare_set _ _ led (Heap.get?_push_of_some _ new)) fun t mv z => ?_
  · rw [big] at hm
    rcases List.mem_cons.mp hm with e | hm
    · exact absurd e (Nat.ne_of_lt (Nat.lt_succ_self _))
    · exact absurd (List.mem_singleton.mp hm).symm (Nat.ne_of_lt below)
  · obtain ⟨g, tg, td, tk, tos⟩ := t
    cases (show tg = s.gens from mv.gens)
    cases (show td = s.drawn from mv.drawn)
    cases (show tos = s.os from mv.os)
    refine wpAny_pure (wpAny_pure (q g tk z fun b o hb => mv.heap b o (fun hm => ?_) (Heap.get?_push_of_some _ (Heap.get?_push_of_some _ hb))))
    have lb := Heap.lt_size hb
    rw [big] at hm
    rcases List.mem_cons.mp hm with e | hm
    · exact absurd e (Nat.ne_of_lt lb)
    · exact absurd (List.mem_singleton.mp hm) (Nat.ne_of_lt (Nat.lt_succ_of_lt lb))
/-- set(xs): an object of its own, with just these keys; all else stays -/
theorem call_set_keys {E : Value → Shared → Prop} {s : Shared} {l : Addr} {items : Array Value} {ks : List κ} {Q : Value → Shared → Prop} (calm : A.handled = none) (at_l : s.heap.IsList l items) (nd : ks.Nodup) (sm : ks.length ≤ 4000)
    (len : ks.length = items.size) (key : ∀ (i : Nat) (v : Value), items[i]? = some v → ∃ k, ks[i]? = some k ∧ kd.is k v = true ∧ v.scannable = true)
    (q : ∀ (g : Heap) (tk : Nat), g.SetOf kd s.heap.objs.size (fun k => decide (k ∈ ks)) ks.length → (∀ b o, s.heap.get? b = some o → g.get? b = some o) → Q (.ref s.heap.objs.size) { s with heap := g, toks := tk }) :
    wpAny (model prog w) A (call (.type "set") [.ref l]) Q E s := by
  obtain ⟨⟨c, tl, hmro⟩, hmade, hsub, h1, h2, hli, hb1, hpl⟩ := And.intro PySem.F.called_set.mro (And.intro PySem.F.called_set.made (And.intro PySem.F.called_set.sub (And.intro PySem.F.called_set.notType (And.intro PySem.F.called_set.canCreate (And.intro PySem.F.called_set.init.lookup (And.intro (PySem.F.called_set.init.bind (.ref s.heap.objs.size)) PySem.F.called_set.init.plain))))))
  refine wpAny_call (codeAny_of_tree (show wpAny _ _ (callAny (.type "set") _) _ _ _ from wpAny_pure ⟨Code.quiet_builtin _ (by decide +kernel), codeAny_builtin PySem.F.entry_type_call ((congrArg (fun a => wpAny (model prog w) a _ _ _ s) (Around.under_plain (weight_type_call_type "set" [.ref l] []) rfl)).mpr ?_)⟩))
  have hct := PySem.F.typeCall_set_1 (.ref l)
  repeat (any_goals (first | assumption | wp_step))
  refine codeAny_mono (code_set_new_1 (.ref l) (E := E) (Q₁ := fun v t => ∃ led : Bool, v = .ref s.heap.objs.size ∧ t = { s with heap := s.heap.push (bare led) }) fun led => ⟨led, rfl, rfl⟩) fun r t hr => ?_
  rcases r with e | v
  · exact hr
  cases v
  case ret v =>
    obtain ⟨led, rfl, rfl⟩ := hr
    have isSet : Shared.TypeIs { s with heap := s.heap.push (bare led) } (.ref s.heap.objs.size) "set" := ⟨_, bare_at s led, rfl⟩
    repeat (any_goals (first | assumption | wp_step))
    refine codeAny_mono (codeAny_call_builtin (R := wants (fun r t => r = .none ∧ ∃ g tk, t = { s with heap := g, toks := tk } ∧ g.SetOf kd s.heap.objs.size (fun k => decide (k ∈ ks)) ks.length ∧ ∀ b o, s.heap.get? b = some o → g.get? b = some o) E) hpl PySem.F.entry_set_init (check_set_init_1 isSet ?_)) fun r t hr => ?_
    · exact set_init_keys (A := A.in1.in1) (by simp [calm]) at_l nd sm len key fun g tk z keep => ⟨rfl, g, tk, rfl, z, keep⟩
    · rcases r with e | v
      · exact hr
      cases v
      case ret v =>
        obtain ⟨rfl, g, tk, rfl, z, keep⟩ := hr
        repeat (any_goals (first | assumption | wp_step))
        exact q g tk z keep
      all_goals exact hr.elim
  all_goals exact hr.elim
end
end Cr

/-! how many unlike texts: set(xs) of a list -/
namespace Cr
open PySem PySem.Spec PyProof.Rows L2 Xv
def rSetT (K : PySem.W.Frag) : List V → Hp → VK → Prop := fun xs H Q => ∃ (l : Addr) (zs : List Str), xs = [.ref l] ∧ SqL K H l (zs.map V.str) ∧ zs.Nodup ∧ zs.length ≤ 1000 ∧ ∀ p, H p = none → Q (.ref p) (upd H p (SetN p zs.length))
theorem texts_at {us : List Value} {zs : List Str} (h : StrsAre us zs) : ∀ {i : Nat} {v : Value}, us[i]? = some v → ∃ z t, zs[i]? = some z ∧ v = .str z t := by
  induction h with
  | nil => intro i v e; cases e
  | cons z t _ ih =>
    intro i v e
    cases i with
    | zero => exact ⟨z, t, rfl, (Option.some.inj e).symm⟩
    | succ i => exact ih e
section
variable {X : Cx}
theorem call_setT (hc : X.calm = true) : CallR X (.type "set") (rSetT X.K) := by
  intro pins s σ H xs us Q I r h
  obtain ⟨l, zs, rfl, hq, nd, hz, q⟩ := h
  cases r with
  | cons r1 r2 =>
    cases r1
    cases r2
    obtain ⟨its, rv, pl, _⟩ := I.list hq
    have len : zs.length = its.toArray.size := by rw [List.size_toArray, ← rv.length, List.length_map]
    refine call_set_keys (kd := PySem.strKind X.prog X.w) (items := its.toArray) (ks := zs) (I.ok.hd hc) pl.isList nd (by omega) len (fun i v hv => ?_) fun g tk hS keep => ?_
    · have hv2 : its[i]? = some v := by simpa using hv
      obtain ⟨z, t, hz, rfl⟩ := texts_at rv.strs hv2
      exact ⟨z, hz, strKind_is _ _ _ _, rfl⟩
    · obtain ⟨o, es, ep, t, ho, hex, hd, _, _, _, hf, hn⟩ := hS
      exact ⟨.ref _, upd H s.heap.objs.size (SetN s.heap.objs.size zs.length), I.laid (t' := tk) (fun b u e => keep b u e) (Nat.le_refl _) (setN_ok ⟨o, es, ep, t, ho, hex, hd, hf, hn, by omega⟩), rfl, q _ (I.hok.fresh (Nat.le_refl _))⟩
end
end Cr


namespace K21
open PySem PySem.Spec PyProof.Rows L2 Xv Cr TL
def kvS (m : List (Str × Str)) : List (Key × V) := m.map fun e => (.inr e.1, V.str e.2)
theorem kvS_val (m : List (Str × Str)) (a : Str) : valV (kvS m) (.inr a) = (m.lookup a).map V.str := by
  induction m with
  | nil => rfl
  | cons e r ih =>
    by_cases h : e.1 = a
    · subst h
      show valV ((Sum.inr e.1, V.str e.2) :: kvS r) _ = _
      rw [valV_pos rfl, List.lookup_cons, beq_self_eq_true]
      rfl
    · show valV ((Sum.inr e.1, V.str e.2) :: kvS r) _ = _
      rw [valV_neg (fun q => h (Sum.inr.inj q)), ih, List.lookup_cons, show (a == e.1) = false from beq_eq_false_iff_ne.mpr fun q => h q.symm]
def renE (m : List (Str × Str)) (z : Str) : Str := (m.lookup z).getD z
theorem names_lc {J : It} {G : Hp → Prop} {ns : List Str} {σ : L2.St} {vs : List Nat} {i1 : Nat} {te : TE} {g : Str → Str} {H1 : Hp} {D : Addr} {Qd : Hp → Prop} (W : Walk J (ns.map V.str).length G (YAt (ns.map V.str))) (hG : ∀ H', Same H1 H' → G H') (hz : ns.length ≤ 1000) (hD : H1 D = none)
    (hw : ∀ v, wipe ((wipe σ vs).set i1 (some v)) vs = wipe σ vs)
    (hte : ∀ (z : Str) (H3 : Hp) (Qv : VK), z ∈ ns → Same H1 H3 → Qv (.str (g z)) H3 → te ((wipe σ vs).set i1 (some (.str z))) H3 Qv)
    (hd : ∀ H2, Same H1 H2 → H2 D = some (.lst ((ns.map g).map V.str)) → Qd H2) :
    ∃ W : Nat → Nat → Hp → Prop, (∃ m, W 0 m (upd H1 D (.lst []))) ∧ ∀ i m H, W i m H →
      (J.stop i H ∧ Qd H) ∨ (J.go i H ∧ ∃ Nx : Hp → Prop, (∀ H', Nx H' → ∃ m', m' < m ∧ W (i + 1) m' H') ∧ ∀ x H', J.yld i H x H' → gName i1 x (wipe σ vs) H' fun σ2 H2 => wipe σ2 vs = wipe σ vs ∧ tYes σ2 H2 fun b H3 =>
        if b = true then te σ2 H3 fun y H4 => ∃ acc, H4 D = some (.lst acc) ∧ acc.length < sizeLine ∧ Nx (upd H4 D (.lst (acc ++ [y]))) else Nx H3) := by
  refine lc_it W (fun i H' => Same H1 H' ∧ H' D = some (.lst (((ns.take i).map g).map V.str))) ⟨same_upd hD, upd_same⟩ (fun i H' _ p => hG _ p.1) (fun i x H' H'' hi e y => ?_) (fun H' e => ?_)
  · obtain ⟨rfl, hx⟩ := y
    obtain ⟨e1, e2⟩ := e
    obtain ⟨z, hz1, rfl⟩ : ∃ z, ns[i]? = some z ∧ x = V.str z := by
      rw [List.getElem?_map] at hx
      cases q : ns[i]? with
      | none => rw [q] at hx; cases hx
      | some z => rw [q] at hx; exact ⟨z, rfl, (Option.some.inj hx).symm⟩
    refine ⟨hw _, ?_⟩
    unfold tYes
    dsimp only
    rw [if_pos rfl]
    refine hte z _ _ (List.mem_of_getElem? hz1) e1 ⟨_, e2, ?_, fun b o q => ?_, ?_⟩
    · rw [List.length_map, List.length_map, List.length_take, sizeLine_eq]
      omega
    · rw [upd_ne (ne_of_none q hD)]
      exact e1 _ _ q
    · rw [upd_same, Xv.take_step hz1, List.map_append, List.map_append]
      rfl
  · obtain ⟨e1, e2⟩ := e
    rw [List.length_map, List.take_length] at e2
    exact hd H' e1 e2
abbrev s_renamed : Stmt := inClass (top 35) 9
abbrev N_renamed : List Str := ["self", "names", "deed", "name", "deeds"]
theorem sc_renamed : FnScope N_renamed ["self", "names"] (defScope s_renamed) := ⟨rfl, rfl, rfl, by decide +kernel, rfl, by decide +kernel, by decide +kernel⟩
theorem ThAt.real {K : PySem.W.Frag} {C : Addr} {S : Addr → Prop} {H : Hp} {x : Addr} {ns : List Str} {rs : List Rw} (h : ThAt K C S H x ns rs) : ThAt K C (fun b => S b ∧ ∃ o, H b = some o) H x ns rs := by
  obtain ⟨dx, l, m, hx, hl, hm, n⟩ := h
  exact ⟨dx, l, m, hx, dt_real hl, dt_real hm, fun z => n z.1⟩
def spTRen (K : PySem.W.Frag) (C : Addr) : Sp := fun vs H Q _ => ∃ (x d : Addr) (S : Addr → Prop) (ns : List Str) (rs : List Rw) (cm : List (Str × Str)), vs = [.ref x, .ref d] ∧ ThAt K C S H x ns rs ∧ rs.length ≤ 1000 ∧ ns.length ≤ 1000 ∧ ¬ S d ∧ H d = some (.dK (kvS cm)) ∧ cm.length ≤ 1000 ∧ (∀ e ∈ cm, e.1 ∈ ns ∧ Nm e.2) ∧ (ns.map (renE cm)).Nodup ∧
  ∀ H' y S', Same H H' → H y = none → (∀ b, S' b → S b ∨ H b = none) → ThAt K C S' H' y (ns.map (renE cm)) rs → Q (.ref y) H'
section
variable {P : Program} {w : World} {K : PySem.W.Frag} {mg : Str → Option Value} {base : Heap} {Ct f : Addr} {fd : FuncData}
theorem ok_renamed (F : Fun K "renamed" "Thing.renamed" s_renamed f fd) (T : Bl mg) (Td : mg "dict" = none) (TC : ThC K Ct) (c_has : OwnM P w K mg base Ct 1 "__contains__" ["self", "value"] (spTHas K Ct)) (c_is_name : Cl P w K mg base 1 "is_name" spIsName) (c_rows : C8.Met P w K mg base 1 Ct "rows" (spTRows K Ct) []) (c_made : Cl P w K mg base 9 "made_thing" (spMade K Ct)) : FnOk P w K mg base CX0 10 f fd ["self", "names"] (spTRen K Ct) := by
  refine F.ok sc_renamed (fun vs H Q E h => ?_) (fun cdv A outer s H vs Q E hr h => ?_)
  · obtain ⟨x, d, S, ns, rs, m, rfl, _⟩ := h
    rfl
  · obtain ⟨x, d, S, ns, rs, m, rfl, t0, hrl, hnl, nSd, hd, hml, hm, nd, q⟩ := h
    refine ⟨_, (pss_cons (ps_if (pt_not (pt_val (pe_callB (id := "isinstance") call_isi (by rfl) T.isinstance (by decide +kernel) (pa_cons (pv 1) (pa_cons (pe_bltn (v := .ty "dict") (by rfl) Td (by decide +kernel) rfl) pa_nil))))) (pss_one ps_never) pss_nil)
  (pss_cons (ps_if (pt_not (pt_val (pe_callB (id := "all") (cr_all rfl) (by rfl) T.all (by decide +kernel) (pa_cons (pe_lock (pe_lc (own := [("deed", 2), ("name", 3)]) (g := gTup K 2 (gCons (gName 2) (gCons (gName 3) gNil))) (tt := tYes) (te := tAndV (tOp (rInO Ct (spTHas K Ct) false) (tVar 2) (tVar 0)) (tCall spIsName [] E0 (tCons (tVar 3) tNil))) rfl sc_renamed.nd (pi_items (pv 1)) (blkOk_by (N := N_renamed) (sc := defScope s_renamed) (by decide +kernel)) (fun _ _ _ _ _ => (pg_tup rfl (pgs_cons (pg_name (i := 2) sc_renamed.nd rfl (Or.inl rfl)) (pgs_cons (pg_name (i := 3) sc_renamed.nd rfl (Or.inl rfl)) pgs_nil)))) (fun _ _ _ _ _ => pts_nil) (fun _ _ _ _ _ => (pe_and (pe_cmpR (op_inM c_has hr (by decide)) (pv 2) (pv 0) (by rfl)) (pe_one (pe_cl c_is_name hr (by decide) (by rfl) (pa_cons (pv 3) pa_nil))))))) pa_nil)))) (pss_one ps_never) pss_nil)
  (pss_cons (ps_setLc (i := 4) (own := [("deed", 2)]) (g := gName 2) (tt := tYes) (te := tDGet2 (tVar 1) (tVar 2) (tVar 2)) rfl sc_renamed.nd rfl rfl (sw_true rfl rfl rfl (by decide +kernel)) (pi_list (pe_fld (pv 0) rfl)) (blkOk_by (N := N_renamed) (sc := defScope s_renamed) (by decide +kernel)) (fun _ _ _ _ _ => (pg_name (i := 2) sc_renamed.nd rfl (Or.inl rfl))) (fun _ _ _ _ _ => pts_nil) (fun _ _ _ _ _ => (pe_dget2 (hu_of hr) (pv 1) (pv 2) (pv 2) ⟨rfl, rfl, rfl, rfl⟩)))
  (pss_cons (ps_if (pt_cmpR op_ne (pe_callB (id := "len") call_lenN (by rfl) T.len (by decide +kernel) (pa_cons (pe_callTy (T := "set") (call_setT rfl) (by rfl) T.set (by decide +kernel) (pa_cons (pv 4) pa_nil)) pa_nil)) (pe_callB (id := "len") (call_ln) (by rfl) T.len (by decide +kernel) (pa_cons (pv 4) pa_nil)) (nomark _)) (pss_one ps_never) pss_nil)
  (pss_one (ps_ret (pe_cl c_made hr (by decide) (by rfl) (pa_cons (pv 4) (pa_cons (C8.pe_mt0 c_rows hr (by decide) (pv 0)) pa_nil))))))))), ?_⟩
    have t := t0.real
    obtain ⟨dx, l, mm, ys, hx, sl, sm, nx, hl, hmm, hp⟩ := id t.op
    refine ⟨_, rfl, _, _, _, _, _, rfl, .ty _, .base (.dK hd), kit_ty (b := "dict") (r := true) (by kernel_rfl), true, rfl, ite2 (fun z => nomatch z) (fun _ => ?_)⟩
    refine ⟨d, _, hd, trivial, fun od => ⟨_, rfl, d, od, _, rfl, upd_same, fun D hD => ?_⟩⟩
    have nDd : D ≠ d := ne_of_none upd_same hD |>.symm
    have nD : H D = none := by rw [upd_ne nDd] at hD; exact hD
    refine lc_it (walk_items (d := d) (o := od) (kvs := kvS m)) (vs := [2, 3]) (fun i H' => Same (upd H d (.frz od (.dK (kvS m)))) H' ∧ H' D = some (.lst (List.replicate i (V.bl true)))) ⟨same_upd hD, upd_same⟩ (fun i H' _ p => p.1 _ _ upd_same) (fun i v H2 H3 hi e y => ?_) (fun H2 e => ?_)
    · obtain ⟨s2, e2⟩ := e
      obtain ⟨tt, x1, x2, rfl, nt, rfl, k1, k2⟩ := y
      have hi2 : i < m.length := by
        unfold kvS at hi
        rwa [List.length_map] at hi
      obtain ⟨e, he⟩ : ∃ e, m[i]? = some e := ⟨_, List.getElem?_eq_getElem hi2⟩
      obtain ⟨a1, a2⟩ := hm e (List.mem_of_getElem? he)
      have hk : (kvS m)[i]? = some (.inr e.1, V.str e.2) := by
        unfold kvS
        rw [List.getElem?_map, he]
        rfl
      simp only [hk, Option.map_some, Option.some.injEq] at k1 k2
      subst k1 k2
      have nDt : D ≠ tt := ne_of_none e2 nt
      refine ⟨tt, _, rfl, .inl (.inl upd_same), rfl, _, _, rfl, _, _, rfl, ⟨rfl, rfl, ?_⟩⟩
      unfold tYes
      dsimp only
      rw [if_pos rfl]
      have sF : Cr.Fr (fun b => b = d) H (upd H2 tt (.tup [kV (.inr e.1), V.str e.2])) := fun b o n z => by
        have z2 := s2 _ _ (show upd H d (.frz od (.dK (kvS m))) b = some o by rw [upd_ne n]; exact z)
        rw [upd_ne (ne_of_none z2 nt)]
        exact z2
      have nxd : ¬ x = d := fun z => by
        rw [z, hd] at hx
        cases hx
      have t3 := t.fr sF (fun b hb z => nSd (z ▸ hb.1)) nxd
      refine ⟨_, rfl, _, rfl, x, dx, _, rfl, sF _ _ nxd hx, x, _, ns, rs, _, rfl, t3, .inl ⟨e.1, rfl, _, rfl, ?_⟩⟩
      rw [decide_eq_true a1]
      refine ⟨_, rfl, ?_⟩
      rw [if_pos (show (if false = true then !true else true) = true from rfl)]
      refine ⟨_, rfl, e.2, rfl, a2, fun H4 s4 => ⟨_, s4 _ _ (by rw [upd_ne nDt]; exact e2), by rw [List.length_replicate, sizeLine_eq]; omega, fun b o z => ?_, ?_⟩⟩
      · rw [upd_ne (ne_of_none z hD)]
        refine s4 _ _ ?_
        rw [upd_ne (ne_of_none (s2 _ _ z) nt)]
        exact s2 _ _ z
      · rw [upd_same, ← List.replicate_succ']
    · obtain ⟨s2, e2⟩ := e
      refine ⟨s2 _ _ upd_same, ?_⟩
      have s3 : Same H (upd H2 d (.dK (kvS m))) := fun b o z => by
        by_cases hb : b = d
        · subst hb
          rw [hd] at z
          cases z
          exact upd_same
        · rw [upd_ne hb]
          exact s2 _ _ (by rw [upd_ne hb]; exact z)
      have eD : upd H2 d (.dK (kvS m)) D = some (.lst (List.replicate (kvS m).length (V.bl true))) := by rw [upd_ne nDd]; exact e2
      generalize upd H2 d (.dK (kvS m)) = G at s3 eD ⊢
      refine ⟨D, List.replicate (kvS m).length true, rfl, SqL.of (by rw [eD, List.map_replicate]), _, rfl, ite2 (fun z => ?_) (fun _ => ?_)⟩
      · rw [show (List.replicate (kvS m).length true).all id = true from by
          rw [List.all_eq_true]
          intro x hx
          rw [List.eq_of_mem_replicate hx]
          rfl] at z
        cases z
      · refine ⟨_, rfl, x, Ct, dx, _, _, rfl, s3 _ _ hx, TC.cl, TC.nD, rfl, l, rfl, ⟨_, SqL.of (s3 _ _ hl)⟩, fun L nL => ?_⟩
        refine names_lc (σ := [some (.ref x), some (.ref d), none, none, none]) (vs := [2]) (i1 := 2) (g := renE m) walk_list (fun H' s => SqL.of (s _ _ (s3 _ _ hl))) hnl nL (fun _ => rfl) (fun z H3 Qv hz s4 q4 => ?_) (fun H3 s4 hL => ?_)
        · refine ⟨_, rfl, d, rfl, .inl ⟨_, .inl (s4 _ _ (s3 _ _ hd))⟩, _, rfl, _, rfl, _, DGet.k (k := .inr z) (s4 _ _ (s3 _ _ hd)), ?_⟩
          rw [kvS_val]
          unfold renE at q4
          cases e : m.lookup z <;> rw [e] at q4 <;> exact q4
        · have sH : Same H H3 := s3.trans s4
          have nHL : H L = none := s3.free nL
          refine ⟨_, rfl, L, ns.map (renE m), rfl, SqL.of hL, nd, by rw [List.length_map]; exact hnl, fun B nB => ?_⟩
          have s5 : Same H3 (upd H3 B (SetN B (ns.map (renE m)).length)) := same_upd nB
          refine ⟨B, _, rfl, upd_same, _, rfl, L, _, rfl, .inl (SqL.of (s5 _ _ hL)), rfl, ?_⟩
          generalize upd H3 B (SetN B (ns.map (renE m)).length) = H4 at s5 ⊢
          rw [show decide (V.int ((ns.map (renE m)).length : Nat) = V.int (((ns.map (renE m)).map V.str).length : Nat)) = true from by rw [List.length_map, List.length_map]; simp]
          refine ⟨false, rfl, ite2 (fun z => nomatch z) (fun _ => ?_)⟩
          have s6 := sH.trans s5
          refine ⟨_, rfl, _, rfl, x, dx, _, rfl, s6 _ _ hx, rfl, x, _, ns, rs, rfl, t.same s6, hrl, fun H5 M ls s7 nM hM fM hP => ?_⟩
          have s8 := s6.trans s7
          have hL5 : H5 L = some (.lst ((ns.map (renE m)).map V.str)) := s7 _ _ (s5 _ _ hL)
          refine ⟨L, M, fun b => ((b = L ∨ b = M ∨ b ∈ ls) ∨ S b ∧ ∃ o, H b = some o), ns.map (renE m), rs, rfl, md_names (.inl (.inl rfl)) hL5, nw_data hM hP (fun b hb => .inr hb) (.inl (.inr (.inl rfl))) (fun b hb => .inl (.inr (.inr hb))), fun b hb => ?_, fun H' y s' ny th => q H' y _ (s8.trans s') (s8.free ny) (fun b hb => ?_) th⟩
          · rcases hb with (z | z | z) | ⟨_, o, z⟩
            · exact ⟨_, z ▸ hL5⟩
            · exact ⟨_, z ▸ hM⟩
            · obtain ⟨r, es, z2, _⟩ := pr_mem2 hP z
              exact ⟨_, z2⟩
            · exact ⟨o, s8 _ _ z⟩
          · rcases hb with (z | z | z) | z
            · exact .inr (z ▸ nHL)
            · exact .inr (s6.free (z ▸ nM))
            · exact .inr (s6.free (fM b z).1)
            · exact .inl z.1
end
end K21

namespace K21
open PySem PySem.Spec PyProof.Rows L2 Xv Cr TL
abbrev s_named : Stmt := top 57
abbrev N_named : List Str := ["_law_model_here", "_law_places", "_law_place"]
theorem sc_named : FnScope N_named ["_law_model_here", "_law_places"] (defScope s_named) := ⟨rfl, rfl, rfl, by decide +kernel, rfl, by decide +kernel, by decide +kernel⟩
/-- the deeds of a model at some places -/
def spNamed (K : PySem.W.Frag) : Sp := fun vs H Q _ => ∃ (m a : Addr) (S : Addr → Prop) (ns : List Str) (rs : List Rw) (ps : List Nat), vs = [.ref m, .ref a] ∧ Dt K S H (.ref m) (modelD ns rs) ∧ H a = some (.lst (zs ps)) ∧ ps.length ≤ 1000 ∧ (∀ p ∈ ps, p < ns.length) ∧
  ∀ H' L, Same H H' → H L = none → H' L = some (.lst ((nmP ns ps).map V.str)) → Q (.ref L) H'
section
variable {P : Program} {w : World} {K : PySem.W.Frag} {mg : Str → Option Value} {base : Heap} {Ct CL f : Addr} {fd : FuncData}
theorem ok_named (F : Fun K "_law_named" "_law_named" s_named f fd) : FnOk P w K mg base CX0 1 f fd ["_law_model_here", "_law_places"] (spNamed K) := by
  refine F.ok sc_named (fun vs H Q E h => ?_) (fun cdv A outer s H vs Q E hr h => ?_)
  · obtain ⟨m, a, S, ns, rs, ps, rfl, _⟩ := h
    rfl
  · obtain ⟨m, a, S, ns, rs, ps, rfl, hM, ha, p1, pn, q⟩ := h
    refine ⟨_, (pss_one (ps_ret (pe_lc (own := [("_law_place", 2)]) (g := gName 2) (tt := tYes) (te := tOp (rIxL K) (tDGet (tVar 0) (tC (.str "deeds"))) (tVar 2)) rfl sc_named.nd (pi_list (pv 1)) (blkOk_by (N := N_named) (sc := defScope s_named) (by decide +kernel)) (fun _ _ _ _ _ => (pg_name (i := 2) sc_named.nd rfl (Or.inl rfl))) (fun _ _ _ _ _ => pts_nil) (fun _ _ _ _ _ => (pe_ix ix_list (pe_dget (hu_of hr) (pv 0) pe_str (fun _ _ => rfl)) (pv 2) (fun _ _ => rfl)))))), ?_⟩
    obtain ⟨l, tt, ys, sm, sl, st, hm, hl, ht, hp⟩ := md_op hM
    refine ⟨_, rfl, a, rfl, ⟨_, SqL.of ha⟩, fun D nD => ?_⟩
    refine lc_rel (f := fun (p : Nat) => V.int (p : Nat)) (ns := ps) (σ := [some (.ref m), some (.ref a), none]) (vs := [2]) (i1 := 2) (fun _ v p => v = V.str (ns.getD p "")) (walk_list (K := K) (a := a) (xs := ps.map fun (p : Nat) => V.int (p : Nat))) (fun H' s => SqL.of (s _ _ ha)) p1 nD (fun _ => rfl) (fun _ _ _ _ r _ => r) (fun p H3 Qw hp s3 _ kw => ?_) (fun H2 acc s2 hD2 hacc => ?_)
    · exact ⟨_, rfl, m, _, rfl, md_deeds (s3 _ _ hm), _, rfl, l, _, _, _, rfl, rfl, SqL.of (s3 _ _ hl), at_i (show (ns.map V.str)[p]? = some (V.str (ns.getD p "")) from by rw [List.getElem?_map, getD_str (pn p hp)]; rfl), kw _ _ (Same.refl _) rfl⟩
    · have ea : acc = (nmP ns ps).map V.str := by unfold nmP; rw [List.map_map]; exact pr_eq hacc
      subst ea
      exact q _ D s2 nD hD2
end
end K21

namespace K21
open PySem PySem.Spec PyProof.Rows L2 Xv Cr TL
/-- a new list of draws -/
theorem draws_mk {J : It} {n m : Nat} {G : Hp → Prop} {f : Nat → V} {p : Addr} {σ : L2.St} {vs : List Nat} {i1 : Nat} {te : TE} {H1 : Hp} {D : Addr} {Qd : Hp → Prop} (W : Walk J n G (YFn f)) (P1 : Pot H1 p) (hG : ∀ H', But p H1 H' → G H') (hz : n ≤ 1000) (hD : H1 D = none)
    (hw : ∀ v, wipe ((wipe σ vs).set i1 (some v)) vs = wipe σ vs)
    (hte : ∀ (i : Nat) (H3 : Hp) (Qv : VK), i < n → But p H1 H3 → Pot H3 p → (∀ H4 (a : Nat), But p H3 H4 → Pot H4 p → a < m → Qv (.int (a : Nat)) H4) → te ((wipe σ vs).set i1 (some (f i))) H3 Qv)
    (hd : ∀ H2 g, But p H1 H2 → Pot H2 p → H2 D = some (.lst (zs g)) → g.length = n → (∀ a ∈ g, a < m) → Qd H2) :
    ∃ W : Nat → Nat → Hp → Prop, (∃ m, W 0 m (upd H1 D (.lst []))) ∧ ∀ i m H, W i m H →
      (J.stop i H ∧ Qd H) ∨ (J.go i H ∧ ∃ Nx : Hp → Prop, (∀ H', Nx H' → ∃ m', m' < m ∧ W (i + 1) m' H') ∧ ∀ x H', J.yld i H x H' → gName i1 x (wipe σ vs) H' fun σ2 H2 => wipe σ2 vs = wipe σ vs ∧ tYes σ2 H2 fun b H3 =>
        if b = true then te σ2 H3 fun y H4 => ∃ acc, H4 D = some (.lst acc) ∧ acc.length < sizeLine ∧ Nx (upd H4 D (.lst (acc ++ [y]))) else Nx H3) := by
  have nDp : D ≠ p := pot_off P1 hD
  refine lc_it W (fun i H' => ∃ g, But p H1 H' ∧ Pot H' p ∧ H' D = some (.lst (zs g)) ∧ g.length = i ∧ ∀ a ∈ g, a < m) ⟨[], Same.but (same_upd hD), pot_same P1 (same_upd hD), upd_same, rfl, fun a z => nomatch z⟩
    (fun i H' _ ⟨_, b, _⟩ => hG _ b) (fun i x H' H'' hi e y => ?_) (fun H' e => ?_)
  · obtain ⟨rfl, rfl⟩ := y
    obtain ⟨g, b1, PP, e1, e2, e3⟩ := e
    refine ⟨hw _, ?_⟩
    unfold tYes
    dsimp only
    rw [if_pos rfl]
    refine hte i _ _ hi b1 PP fun H4 a b4 P4 ha => ?_
    have e1' := b4 _ _ nDp e1
    refine ⟨zs g, e1', by rw [sizeLine_eq, zs_len]; omega, g ++ [a], but_new (b1.trans b4) hD, pot_upd P4 nDp.symm, by rw [upd_same, zs_app], by rw [List.length_append, e2]; rfl, fun u hu => ?_⟩
    rcases List.mem_append.mp hu with z | z
    · exact e3 u z
    · rw [List.mem_singleton.mp z]
      exact ha
  · obtain ⟨g, b1, PP, e1, e2, e3⟩ := e
    exact hd H' g b1 PP e1 e2 e3
end K21

namespace K21
open PySem PySem.Spec PyProof.Rows L2 Xv Cr TL
abbrev s_teams : Stmt := top 56
abbrev N_teams : List Str := ["_law_pot_here", "_law_model_here", "_law_most_hands", "_law_many", "_law_left", "_law_size", "_law_first", "_law_hand", "_law_second"]
theorem sc_teams : FnScope N_teams ["_law_pot_here", "_law_model_here", "_law_most_hands"] (defScope s_teams) := ⟨rfl, rfl, rfl, by decide +kernel, rfl, by decide +kernel, by decide +kernel⟩
/-- the lot of a layout: its state and the places of both teams, sorted -/
structure LotAt (H : Hp) (a l1 l2 : Addr) (n : Nat) (ps qs : List Nat) : Prop where
  tp : H a = some (.tup [.int (n : Nat), .ref l1, .ref l2])
  h1 : H l1 = some (.lst (zs ps))
  h2 : H l2 = some (.lst (zs qs))
structure LotOk (n : Nat) (ps qs : List Nat) (R D M : Nat) : Prop where
  st : n < R
  p0 : 0 < ps.length
  q0 : 0 < qs.length
  pq : ps.length + qs.length ≤ M
  pd : ∀ p ∈ ps, p < D
  qd : ∀ p ∈ qs, p < D
  ps_ : ps.Pairwise (· ≤ ·)
  qs_ : qs.Pairwise (· ≤ ·)
def spTeams (K : PySem.W.Frag) : Sp := fun vs H Q _ => ∃ (p m : Addr) (S : Addr → Prop) (ns : List Str) (rs : List Rw), vs = [.ref p, .ref m, .int 5] ∧ Pot H p ∧ Dt K S H (.ref m) (modelD ns rs) ∧ ¬ S p ∧ Right ns rs ∧
  ∀ H' a l1 l2 n ps qs, But p H H' → Pot H' p → H a = none → H l1 = none → H l2 = none → l1 ≠ l2 → LotAt H' a l1 l2 n ps qs → LotOk n ps qs rs.length ns.length 5 → Q (.ref a) H'
theorem nat_sorted {g : List Nat} {r : List Int} (pm : r.Perm (g.map fun (a : Nat) => (a : Int))) (pw : r.Pairwise (· ≤ ·)) : ∃ u : List Nat, r.map V.int = zs u ∧ u.Perm g ∧ u.Pairwise (· ≤ ·) := by
  have nn : ∀ x ∈ r, 0 ≤ x := fun x hx => by
    obtain ⟨a, _, rfl⟩ := List.mem_map.mp (pm.mem_iff.mp hx)
    omega
  have e : (r.map Int.toNat).map (fun (a : Nat) => (a : Int)) = r := by
    rw [List.map_map]
    conv => rhs; rw [← List.map_id r]
    exact List.map_congr_left fun x hx => Int.toNat_of_nonneg (nn x hx)
  refine ⟨r.map Int.toNat, by rw [zs_ints, e], ?_, ?_⟩
  · have := pm.map Int.toNat
    rw [List.map_map] at this
    have e2 : g.map (Int.toNat ∘ fun (a : Nat) => (a : Int)) = g := by
      conv => rhs; rw [← List.map_id g]
      exact List.map_congr_left fun x _ => rfl
    rw [e2] at this
    exact this
  · rw [List.pairwise_map]
    exact pw.imp fun h => Int.toNat_le_toNat h
section
variable {P : Program} {w : World} {K : PySem.W.Frag} {mg : Str → Option Value} {base : Heap} {f : Addr} {fd : FuncData}
theorem ok_teams (F : Fun K "_law_teams" "_law_teams" s_teams f fd) (T : Bl mg) (Ts : mg "sorted" = none) (c_draw : Cl P w K mg base 1 "_law_draw" spDraw) : FnOk P w K mg base CX0 3 f fd ["_law_pot_here", "_law_model_here", "_law_most_hands"] (spTeams K) := by
  refine F.ok sc_teams (fun vs H Q E h => ?_) (fun cdv A outer s H vs Q E hr h => ?_)
  · obtain ⟨p, m, S, ns, rs, rfl, _⟩ := h
    rfl
  · obtain ⟨p, m, S, ns, rs, rfl, hP, hM, nSp, R, q⟩ := h
    refine ⟨_, (pss_cons (ps_asg (pe_tup (pa_cons (pe_callB (id := "len") (call_ln) (by rfl) T.len (by decide +kernel) (pa_cons (pe_dget (hu_of hr) (pv 1) pe_str (fun _ _ => rfl)) pa_nil)) (pa_cons (pe_op op_add pe_int (pe_cl c_draw hr (by decide) (by rfl) (pa_cons (pv 0) (pa_cons (pe_op op_sub (pv 2) pe_int) pa_nil)))) pa_nil))) (pg_tup rfl (pgs_cons (pg_name (i := 3) sc_teams.nd rfl (Or.inr rfl)) (pgs_cons (pg_name (i := 4) sc_teams.nd rfl (Or.inl rfl)) pgs_nil))))
  (pss_cons (ps_set (i := 5) sc_teams.nd rfl (Or.inl rfl) (pe_op op_add pe_int (pe_cl c_draw hr (by decide) (by rfl) (pa_cons (pv 0) (pa_cons (pe_op op_sub (pv 4) pe_int) pa_nil)))))
  (pss_cons (ps_set (i := 6) sc_teams.nd rfl (Or.inl rfl) (pe_callB (id := "sorted") cr_sorted (by rfl) Ts (by decide +kernel) (pa_cons (pe_lc (own := [("_law_hand", 7)]) (g := gName 7) (tt := tYes) (te := tCall spDraw [] E0 (tCons (tVar 0) (tCons (tVar 3) tNil))) rfl sc_teams.nd (pi_range1 rfl T.range (pa_cons (pv 5) pa_nil)) (blkOk_by (N := N_teams) (sc := defScope s_teams) (by decide +kernel)) (fun _ _ _ _ _ => (pg_name (i := 7) sc_teams.nd rfl (Or.inl rfl))) (fun _ _ _ _ _ => pts_nil) (fun _ _ _ _ _ => (pe_cl c_draw hr (by decide) (by rfl) (pa_cons (pv 0) (pa_cons (pv 3) pa_nil))))) pa_nil)))
  (pss_cons (ps_set (i := 8) sc_teams.nd rfl (Or.inl rfl) (pe_callB (id := "sorted") cr_sorted (by rfl) Ts (by decide +kernel) (pa_cons (pe_lc (own := [("_law_hand", 7)]) (g := gName 7) (tt := tYes) (te := tCall spDraw [] E0 (tCons (tVar 0) (tCons (tVar 3) tNil))) rfl sc_teams.nd (pi_range1 rfl T.range (pa_cons (pe_op op_sub (pv 4) (pv 5)) pa_nil)) (blkOk_by (N := N_teams) (sc := defScope s_teams) (by decide +kernel)) (fun _ _ _ _ _ => (pg_name (i := 7) sc_teams.nd rfl (Or.inl rfl))) (fun _ _ _ _ _ => pts_nil) (fun _ _ _ _ _ => (pe_cl c_draw hr (by decide) (by rfl) (pa_cons (pv 0) (pa_cons (pv 3) pa_nil))))) pa_nil)))
  (pss_one (ps_ret (pe_tup (pa_cons (pe_cl c_draw hr (by decide) (by rfl) (pa_cons (pv 0) (pa_cons (pe_callB (id := "len") (call_ln) (by rfl) T.len (by decide +kernel) (pa_cons (pe_dget (hu_of hr) (pv 1) pe_str (fun _ _ => rfl)) pa_nil)) pa_nil))) (pa_cons (pv 6) (pa_cons (pv 8) pa_nil)))))))))), ?_⟩
    have kM : ∀ {H' : Hp}, But p H H' → Dt K S H' (.ref m) (modelD ns rs) := fun b => hM.fr (Fr.but b) (fun b sb e => nSp (e ▸ sb))
    obtain ⟨l, tt, ys, sm, sl, st, hm, hl, ht, hp⟩ := md_op hM
    have r8 := R.r8
    have r0 := R.r0
    have d4 := R.d4
    have d0 := R.d0
    refine ⟨_, rfl, m, _, rfl, md_deeds hm, l, _, rfl, .inl (SqL.of hl), ?_⟩
    refine ⟨_, rfl, _, rfl, _, _, rfl, rfl, p, _, rfl, hP, by decide, by decide, fun H1 d b1 P1 d0' d1 => ⟨_, _, rfl, rfl, by show 2 ≤ sizeLine; decide, fun t nt => ⟨t, _, rfl, .inl (.inl upd_same), rfl, _, _, rfl, _, _, rfl, ⟨rfl, ?_⟩⟩⟩⟩
    have b2 : But p H (upd H1 t (.tup [.int (ns.map V.str).length, .int (2 + d)])) := b1.trans (Same.but (same_upd nt))
    have P2 := pot_same P1 (same_upd (o := .tup [.int (ns.map V.str).length, .int (2 + d)]) nt)
    generalize upd H1 t (.tup [.int (ns.map V.str).length, .int (2 + d)]) = H2 at b2 P2 ⊢
    rw [List.length_map]
    refine ⟨_, rfl, _, rfl, _, _, rfl, rfl, p, _, rfl, P2, by omega, by omega, fun H3 e b3 P3 z0 z1 => ⟨_, _, rfl, rfl, ?_⟩⟩
    obtain ⟨u, rfl⟩ := Int.eq_ofNat_of_zero_le d0'
    obtain ⟨v, rfl⟩ := Int.eq_ofNat_of_zero_le z0
    have b3' := b2.trans b3
    refine ⟨_, rfl, _, rfl, by omega, by omega, fun D nD => ?_⟩
    refine draws_mk (m := ns.length) (p := p) (σ := [some (.ref p), some (.ref m), some (.int 5), some (.int (ns.length : Nat)), some (.int (2 + (u : Nat))), some (.int (1 + (v : Nat))), none, none, none]) (vs := [7]) (i1 := 7) (f := fun i => V.int (0 + (i : Nat))) walk_range P3 (fun _ _ => trivial) (by omega) nD (fun _ => rfl) (fun i H4 Qv hi b4 P4 k => ?_) (fun H4 g b4 P4 hD gl gb => ?_)
    · refine ⟨_, rfl, _, rfl, p, (ns.length : Nat), rfl, P4, by omega, by omega, fun H5 a b5 P5 a0 a1 => ?_⟩
      obtain ⟨c, rfl⟩ := Int.eq_ofNat_of_zero_le a0
      exact k H5 c b5 P5 (by omega)
    have hD' : H4 D = some (.lst ((g.map fun (a : Nat) => (a : Int)).map V.int)) := by rw [hD, zs_ints]
    refine ⟨D, _, rfl, SqL.of hD', by rw [List.length_map, gl]; omega, fun r1 L1 pm1 pw1 nL1 => ?_⟩
    obtain ⟨ps, e1, pe1, pp1⟩ := nat_sorted pm1 pw1
    rw [e1]
    have b4' := b3'.trans b4
    have b5 : But p H (upd H4 L1 (.lst (zs ps))) := b4'.trans (Same.but (same_upd nL1))
    have P5 := pot_same P4 (same_upd (o := .lst (zs ps)) nL1)
    have h1 : upd H4 L1 (.lst (zs ps)) L1 = some (.lst (zs ps)) := upd_same
    have n1 := but_free b4' (pot_off P4 nL1) nL1
    have L1p := pot_off P4 nL1
    generalize upd H4 L1 (.lst (zs ps)) = H5 at b5 P5 h1 ⊢
    refine ⟨_, rfl, _, rfl, _, _, rfl, rfl, ?_⟩
    refine ⟨_, rfl, by omega, by omega, fun D2 nD2 => ?_⟩
    refine draws_mk (m := ns.length) (p := p) (σ := [some (.ref p), some (.ref m), some (.int 5), some (.int (ns.length : Nat)), some (.int (2 + (u : Nat))), some (.int (1 + (v : Nat))), some (.ref L1), none, none]) (vs := [7]) (i1 := 7) (f := fun i => V.int (0 + (i : Nat))) walk_range P5 (fun _ _ => trivial) (by omega) nD2 (fun _ => rfl) (fun i H6 Qv hi b6 P6 k => ?_) (fun H6 g2 b6 P6 hD2 gl2 gb2 => ?_)
    · refine ⟨_, rfl, _, rfl, p, (ns.length : Nat), rfl, P6, by omega, by omega, fun H7 a b7 P7 a0 a1 => ?_⟩
      obtain ⟨c, rfl⟩ := Int.eq_ofNat_of_zero_le a0
      exact k H7 c b7 P7 (by omega)
    have hD2' : H6 D2 = some (.lst ((g2.map fun (a : Nat) => (a : Int)).map V.int)) := by rw [hD2, zs_ints]
    refine ⟨D2, _, rfl, SqL.of hD2', by rw [List.length_map, gl2]; omega, fun r2 L2 pm2 pw2 nL2 => ?_⟩
    obtain ⟨qs, e2, pe2, pp2⟩ := nat_sorted pm2 pw2
    rw [e2]
    have b6' := b5.trans b6
    have h16 := b6 _ _ L1p h1
    have n2 := but_free b6' (pot_off P6 nL2) nL2
    have l12 : L1 ≠ L2 := fun w => by
      rw [← w, h16] at nL2
      cases nL2
    have b7 : But p H (upd H6 L2 (.lst (zs qs))) := b6'.trans (Same.but (same_upd nL2))
    have P7 := pot_same P6 (same_upd (o := .lst (zs qs)) nL2)
    have h2 : upd H6 L2 (.lst (zs qs)) L2 = some (.lst (zs qs)) := upd_same
    have h17 : upd H6 L2 (.lst (zs qs)) L1 = some (.lst (zs ps)) := by rw [upd_ne l12, h16]
    have L2p := pot_off P6 nL2
    generalize upd H6 L2 (.lst (zs qs)) = H7 at b7 P7 h2 h17 ⊢
    obtain ⟨l', tt', ys', sm', sl', st', hm', hl', ht', hp'⟩ := md_op (kM b7)
    refine ⟨_, rfl, _, rfl, m, _, rfl, md_rows hm', tt', _, rfl, .inl (SqL.of ht'), p, _, rfl, P7, by rw [Paired.length hp']; omega, by rw [Paired.length hp']; omega, fun H8 n b8 P8 c0 c1 => ?_⟩
    rw [Paired.length hp'] at c1
    obtain ⟨n, rfl⟩ := Int.eq_ofNat_of_zero_le c0
    refine ⟨_, rfl, _, rfl, by show 3 ≤ sizeLine; decide, fun a na => ?_⟩
    have b8' := b7.trans b8
    have al1 : L1 ≠ a := fun w => by
      rw [← w, b8 _ _ L1p h17] at na
      cases na
    have al2 : L2 ≠ a := fun w => by
      rw [← w, b8 _ _ L2p h2] at na
      cases na
    have m1 := pe1.length_eq
    have m2 := pe2.length_eq
    refine q _ a L1 L2 n ps qs (b8'.trans (Same.but (same_upd na))) (pot_same P8 (same_upd na)) (but_free b8' (pot_off P8 na) na) n1 n2 l12 ⟨upd_same, by rw [upd_ne al1, b8 _ _ L1p h17], by rw [upd_ne al2, b8 _ _ L2p h2]⟩ ⟨by omega, by omega, by omega, by omega, fun z hz => gb z (pe1.mem_iff.mp hz), fun z hz => gb2 z (pe2.mem_iff.mp hz), pp1, pp2⟩
end
end K21

namespace K21
open PySem PySem.Spec PyProof.Rows L2 Xv Cr TL
abbrev s_mixed : Stmt := top 58
abbrev N_mixed : List Str := ["_law_pot_here", "_law_some", "_law_left", "_law_found", "_law_turn"]
theorem sc_mixed : FnScope N_mixed ["_law_pot_here", "_law_some"] (defScope s_mixed) := ⟨rfl, rfl, rfl, by decide +kernel, rfl, by decide +kernel, by decide +kernel⟩
theorem six_at {n : Nat} {d : Int} (h0 : 0 ≤ d) (h1 : d < n) : seqIndex? d n = some d.toNat := by
  unfold seqIndex?
  have a : ¬ d < 0 := by omega
  simp only [if_neg a]
  rw [if_pos (by rw [decide_eq_true h0, decide_eq_true h1]; rfl)]
theorem er_perm : ∀ (l : List V) (k : Nat) (h : k < l.length), (l[k] :: l.eraseIdx k).Perm l
  | _ :: _, 0, _ => List.Perm.refl _
  | x :: r, k + 1, h => (List.Perm.swap x (r[k]'(Nat.lt_of_succ_lt_succ h)) (r.eraseIdx k)).trans (List.Perm.cons x (er_perm r k (Nat.lt_of_succ_lt_succ h)))
def spMixed : Sp := fun vs H Q _ => ∃ (p a : Addr) (xs : List V), vs = [.ref p, .ref a] ∧ Pot H p ∧ Cr.LT H a xs ∧ xs.length ≤ 100 ∧ ∀ H' l ys, But p H H' → Pot H' p → H l = none → H' l = some (.lst ys) → ys.Perm xs → Q (.ref l) H'
section
variable {P : Program} {w : World} {K : PySem.W.Frag} {mg : Str → Option Value} {base : Heap} {f : Addr} {fd : FuncData}
theorem ok_mixed (F : Fun K "_law_mixed" "_law_mixed" s_mixed f fd) (T : Bl mg) (c_draw : Cl P w K mg base 1 "_law_draw" spDraw) : FnOk P w K mg base CX0 2 f fd ["_law_pot_here", "_law_some"] spMixed := by
  refine F.ok sc_mixed (fun vs H Q E h => ?_) (fun cdv A outer s H vs Q E hr h => ?_)
  · obtain ⟨p, a, xs, rfl, _⟩ := h
    rfl
  · obtain ⟨p, a, xs, rfl, hP, ha, hz, q⟩ := h
    refine ⟨_, (pss_cons (ps_par (i := 2) (j := 3) rfl sc_mixed.nd rfl rfl (by decide) rfl rfl (pa_cons (pe_callTy (T := "list") call_ls (by rfl) T.list (by decide +kernel) (pa_cons (pv 1) pa_nil)) (pa_cons (pe_lst pa_nil) pa_nil)) (by rfl))
  (pss_cons (ps_for PassesOwn.never rfl (pi_range1 rfl T.range (pa_cons (pe_callB (id := "len") (call_ln) (by rfl) T.len (by decide +kernel) (pa_cons (pv 1) pa_nil)) pa_nil)) (pg_name (i := 4) sc_mixed.nd rfl (Or.inl rfl)) (pss_one (ps_expr (pe_bm PySem.F.plainAttrs_list PySem.F.slot_list_append PySem.F.type_list_append mt_append (pv 3) (pa_cons (pe_bm PySem.F.plainAttrs_list PySem.F.slot_list_pop PySem.F.type_list_pop mt_popAt (pv 2) (pa_cons (pe_cl c_draw hr (by decide) (by rfl) (pa_cons (pv 0) (pa_cons (pe_callB (id := "len") (call_ln) (by rfl) T.len (by decide +kernel) (pa_cons (pv 2) pa_nil)) pa_nil))) pa_nil)) pa_nil)))))
  (pss_one (ps_ret (pv 3))))), ?_⟩
    refine ⟨_, rfl, a, xs, rfl, ha.seq K, fun lp nlp => ?_⟩
    have s1 : Same H (upd H lp (.lst xs)) := same_upd nlp
    have e1 : upd H lp (.lst xs) lp = some (.lst xs) := upd_same
    generalize upd H lp (.lst xs) = H1 at s1 e1 ⊢
    refine ⟨by show 0 ≤ sizeLine; decide, fun D nD => ?_⟩
    have nDl : D ≠ lp := (ne_of_none e1 nD).symm
    have s2 : Same H (upd H1 D (.lst [])) := s1.trans (same_upd nD)
    have d1 : upd H1 D (.lst []) D = some (.lst []) := upd_same
    have e2 : upd H1 D (.lst []) lp = some (.lst xs) := by rw [upd_ne nDl.symm]; exact e1
    have nDH := s1.free nD
    generalize upd H1 D (.lst []) = H2 at s2 d1 e2 ⊢
    have s3 := s2
    have d3 := d1
    have e3 := e2
    have npl := pot_off hP nlp
    have nDp := pot_off hP nDH
    refine ⟨_, _, rfl, _, rfl, a, xs, rfl, (ha.same s3).seq K, _, rfl, by omega, by omega, for_range (n := xs.length) (fun i σ H' => ∃ u4 ys rest, σ = [some (.ref p), some (.ref a), some (.ref lp), some (.ref D), u4] ∧ H' D = some (.lst ys) ∧ ys.length = i ∧ H' lp = some (.lst rest) ∧ i + rest.length = xs.length ∧ (ys ++ rest).Perm xs ∧ But p H H' ∧ Pot H' p)
      ⟨none, [], xs, rfl, d3, rfl, e3, by simp, List.Perm.refl _, Same.but s3, pot_same hP s3⟩ (fun i σ H4 hi e => ?_) (fun σ H4 e => ?_)⟩
    · obtain ⟨u4, ys, rest, rfl, d1, d2, d3, d4, d5, b, P2⟩ := e
      refine ⟨_, rfl, .inl ⟨rfl, _, SqL.of d1⟩, _, rfl, .inl ⟨rfl, _, SqL.of d3⟩, _, rfl, _, rfl, lp, rest, rfl, .inl (SqL.of d3), p, (rest.length : Nat), rfl, P2, by omega, by omega, fun H5 d b5 P5 d0 dn => ?_⟩
      have hk : d.toNat < rest.length := by omega
      have d3' := b5 _ _ npl d3
      have d1' := b5 _ _ nDp d1
      refine ⟨lp, rest, d, d.toNat, rest[d.toNat], rfl, rfl, d3', by omega, by omega, six_at d0 dn, List.getElem?_eq_getElem hk, ?_⟩
      refine ⟨D, ys, _, rfl, rfl, by rw [upd_ne nDl]; exact d1', by rw [sizeLine_eq]; omega, _, ys ++ [rest[d.toNat]], rest.eraseIdx d.toNat, rfl, upd_same, by rw [List.length_append, d2]; rfl, by rw [upd_ne nDl.symm, upd_same], ?_, ?_, fun c o n z => ?_, ?_⟩
      · rw [List.length_eraseIdx_of_lt hk]
        omega
      · refine List.Perm.trans ?_ d5
        rw [List.append_assoc]
        exact List.Perm.append_left ys (er_perm rest d.toNat hk)
      · rw [upd_ne (fun h => by rw [h, nDH] at z; cases z), upd_ne (fun h => by rw [h, nlp] at z; cases z)]
        exact b5 _ _ n (b _ _ n z)
      · exact pot_upd (pot_upd P5 npl.symm) nDp.symm
    · obtain ⟨u4, ys, rest, rfl, d1, d2, d3, d4, d5, b, P2⟩ := e
      have hr0 : rest = [] := List.eq_nil_of_length_eq_zero (by omega)
      subst hr0
      rw [List.append_nil] at d5
      exact ⟨_, rfl, q H4 D ys b P2 nDH d1 d5⟩
end
end K21

namespace K21
open PySem PySem.Spec PyProof.Rows L2 Xv Cr TL
section
variable {X : Cx} {Ct C : Addr} {j : Nat}
theorem op_eqL (c : OwnM X.prog X.w X.K X.mg X.base C 2 "__eq__" ["self", "other"] (spLyEq X.K Ct C)) (hr : Room j X.A) (hj : 2 ≤ j) : OpR X (compareOp .Eq) (rEqO X.K C (spLyEq X.K Ct C) false) := by
  obtain ⟨g, fd, F, hs, hf, hb⟩ := c.ex
  exact op_eqO F (hr.mono hj) hb hs hf
theorem op_neL (c : OwnM X.prog X.w X.K X.mg X.base C 2 "__eq__" ["self", "other"] (spLyEq X.K Ct C)) (Z : ThF X.K C) (hr : Room j X.A) (hj : 3 ≤ j) : OpR X (compareOp .NotEq) (rEqO X.K C (spLyEq X.K Ct C) true) := by
  obtain ⟨g, fd, F, hs, hf, hb⟩ := c.ex
  exact op_neO F (hr.mono hj) hb hs hf Z.ne Z.ins.hm
end
section
variable {K : PySem.W.Frag} {Ct C : Addr} {S S2 : Addr → Prop} {H : Hp} {y x y2 x2 : Addr} {n n2 : Nat} {ps qs ps2 qs2 : List Nat} {ns ns2 : List Str} {rs rs2 : List Rw} {Q : VK}
theorem ly_ty (Z : ThF K C) (h : LyAt C H y x n ps qs) : TyX K H (.ref y) (.ref C) := by
  obtain ⟨dy, l1, l2, hy, _⟩ := h
  exact .base (.ins hy Z.ins.cl Z.ins.ha Z.ins.hn Z.ins.htk Z.ins.hm)
def lyEq (ns ns2 : List Str) (rs rs2 : List Rw) (n n2 : Nat) (ps ps2 qs qs2 : List Nat) : Bool := (decide (ns = ns2) && decide (rs = rs2)) && (decide (n = n2) && (decide (ps = ps2) && decide (qs = qs2)))
/-- == and != of two layouts -/
theorem eq_layouts (Z : ThF K C) {neg : Bool} (h : LyAt C H y x n ps qs) (t : ThAt K Ct S H x ns rs) (h2 : LyAt C H y2 x2 n2 ps2 qs2) (t2 : ThAt K Ct S2 H x2 ns2 rs2) (nm : ∀ z ∈ ns, Nm z) (nm2 : ∀ z ∈ ns2, Nm z) (q : Q (.bl (if neg then !(lyEq ns ns2 rs rs2 n n2 ps ps2 qs qs2) else lyEq ns ns2 rs rs2 n n2 ps ps2 qs qs2)) H) :
    rEqO K C (spLyEq K Ct C) neg (.ref y) (.ref y2) H Q := by
  obtain ⟨dy, l1, l2, hy, _⟩ := id h
  exact ⟨y, dy, _, .ref C, rfl, hy, ly_ty Z h2, nf_self, y, x, n, ps, qs, S, ns, rs, _, rfl, h, t, nm, .inl ⟨y2, x2, n2, ps2, qs2, S2, ns2, rs2, rfl, ly_ty Z h2, h2, t2, nm2, _, rfl, q⟩⟩
/-- .. of a layout and something else -/
theorem eqL_else {neg : Bool} {v : V} {u : Value} (h : LyAt C H y x n ps qs) (t : ThAt K Ct S H x ns rs) (nm : ∀ z ∈ ns, Nm z) (ty : TyX K H v u) (nf : PySem.W.notFirst K C u = true) (k : PySem.W.kitOne K u (.ref C) = some false) (q : Q (.bl neg) H) : rEqO K C (spLyEq K Ct C) neg (.ref y) v H Q := by
  obtain ⟨dy, l1, l2, hy, _⟩ := id h
  refine ⟨y, dy, _, u, rfl, hy, ty, nf, y, x, n, ps, qs, S, ns, rs, v, rfl, h, t, nm, .inr ⟨u, ty, k, _, rfl, ?_⟩⟩
  cases neg <;> exact q
end
end K21

/-! Data logic, part 1: values seen as data, what may change, slots -/
namespace Dl
open PySem PySem.Spec PyProof.Rows L2 Xv Cr
inductive D where
  | non
  | bl (b : Bool)
  | int (i : Int)
  | str (s : Str)
  | lst (xs : List D)
  | tup (xs : List D)
  | dic (ps : List (Key × D))
  | ob (c : Nat) (xs : List D)
/-- own classes: where they stand, their fields' names -/
structure Cm where
  ca : Nat → Addr
  fn : Nat → List Str
mutual
inductive Rp (M : Cm) (F : Addr → Prop) (H : Hp) : V → D → Prop
  | non : Rp M F H .non .non
  | bl (b : Bool) : Rp M F H (.bl b) (.bl b)
  | int (i : Int) : Rp M F H (.int i) (.int i)
  | str (s : Str) : Rp M F H (.str s) (.str s)
  | lst {a : Addr} {vs : List V} {ds : List D} : F a → H a = some (.lst vs) → RpA M F H vs ds → Rp M F H (.ref a) (.lst ds)
  | tup {a : Addr} {vs : List V} {ds : List D} : F a → H a = some (.tup vs) → RpA M F H vs ds → Rp M F H (.ref a) (.tup ds)
  | dic {a : Addr} {kvs : List (Key × V)} {ps : List (Key × D)} : F a → H a = some (.dK kvs) → RpK M F H kvs ps → Rp M F H (.ref a) (.dic ps)
  | ob {a dx : Addr} {c : Nat} {vs : List V} {ds : List D} : F a → H a = some (.ins (M.ca c) dx ((M.fn c).zip vs)) → vs.length ≤ (M.fn c).length → RpA M F H vs ds → Rp M F H (.ref a) (.ob c ds)
inductive RpA (M : Cm) (F : Addr → Prop) (H : Hp) : List V → List D → Prop
  | nil : RpA M F H [] []
  | cons {v : V} {d : D} {vs : List V} {ds : List D} : Rp M F H v d → RpA M F H vs ds → RpA M F H (v :: vs) (d :: ds)
inductive RpK (M : Cm) (F : Addr → Prop) (H : Hp) : List (Key × V) → List (Key × D) → Prop
  | nil : RpK M F H [] []
  | cons {k : Key} {v : V} {d : D} {kvs : List (Key × V)} {ps : List (Key × D)} : Rp M F H v d → RpK M F H kvs ps → RpK M F H ((k, v) :: kvs) ((k, d) :: ps)
end
section
variable {M : Cm} {pt F F' F0 : Addr → Prop} {H H' H0 : Hp} {z0 : Gh}
mutual
theorem Rp.up (h : ∀ b o, F b → H b = some o → F' b ∧ H' b = some o) : ∀ {v : V} {d : D}, Rp M F H v d → Rp M F' H' v d
  | _, _, .non => .non
  | _, _, .bl b => .bl b
  | _, _, .int i => .int i
  | _, _, .str s => .str s
  | _, _, .lst f e r => .lst (h _ _ f e).1 (h _ _ f e).2 (RpA.up h r)
  | _, _, .tup f e r => .tup (h _ _ f e).1 (h _ _ f e).2 (RpA.up h r)
  | _, _, .dic f e r => .dic (h _ _ f e).1 (h _ _ f e).2 (RpK.up h r)
  | _, _, .ob f e l r => .ob (h _ _ f e).1 (h _ _ f e).2 l (RpA.up h r)
theorem RpA.up (h : ∀ b o, F b → H b = some o → F' b ∧ H' b = some o) : ∀ {vs : List V} {ds : List D}, RpA M F H vs ds → RpA M F' H' vs ds
  | _, _, .nil => .nil
  | _, _, .cons r s => .cons (Rp.up h r) (RpA.up h s)
theorem RpK.up (h : ∀ b o, F b → H b = some o → F' b ∧ H' b = some o) : ∀ {vs : List (Key × V)} {ds : List (Key × D)}, RpK M F H vs ds → RpK M F' H' vs ds
  | _, _, .nil => .nil
  | _, _, .cons r s => .cons (Rp.up h r) (RpK.up h s)
end
theorem RpA.length : ∀ {vs : List V} {ds : List D}, RpA M F H vs ds → vs.length = ds.length
  | _, _, .nil => rfl
  | _, _, .cons _ s => congrArg (· + 1) (RpA.length s)
theorem RpA.app : ∀ {vs us : List V} {ds es : List D}, RpA M F H vs ds → RpA M F H us es → RpA M F H (vs ++ us) (ds ++ es)
  | _, _, _, _, .nil, k => k
  | _, _, _, _, .cons r s, k => .cons r (RpA.app s k)
theorem RpA.one {v : V} {d : D} (h : Rp M F H v d) : RpA M F H [v] [d] := .cons h .nil
theorem RpA.get : ∀ {vs : List V} {ds : List D} {i : Nat}, RpA M F H vs ds → ∀ {d : D}, ds[i]? = some d → ∃ v, vs[i]? = some v ∧ Rp M F H v d
  | _, _, _, .nil, _, e => by simp at e
  | _, _, 0, .cons r _, _, e => by
    simp only [List.getElem?_cons_zero, Option.some.injEq] at e
    subst e
    exact ⟨_, rfl, r⟩
  | _, _, i + 1, .cons _ s, _, e => by
    simp only [List.getElem?_cons_succ] at e
    exact RpA.get s e
theorem RpA.at_ : ∀ {vs : List V} {ds : List D} {i : Nat}, RpA M F H vs ds → ∀ {v : V}, vs[i]? = some v → ∃ d, ds[i]? = some d ∧ Rp M F H v d
  | _, _, _, .nil, _, e => by simp at e
  | _, _, 0, .cons r _, _, e => by
    simp only [List.getElem?_cons_zero, Option.some.injEq] at e
    subst e
    exact ⟨_, rfl, r⟩
  | _, _, i + 1, .cons _ s, _, e => by
    simp only [List.getElem?_cons_succ] at e
    exact RpA.at_ s e
theorem RpA.take {n : Nat} : ∀ {vs : List V} {ds : List D}, RpA M F H vs ds → RpA M F H (vs.take n) (ds.take n) := by
  induction n with
  | zero => intro _ _ _; simp only [List.take_zero]; exact .nil
  | succ n ih =>
    intro vs ds h
    cases h with
    | nil => exact .nil
    | cons r s => exact .cons r (ih s)
theorem RpA.drop {n : Nat} : ∀ {vs : List V} {ds : List D}, RpA M F H vs ds → RpA M F H (vs.drop n) (ds.drop n) := by
  induction n with
  | zero => intro _ _ h; exact h
  | succ n ih =>
    intro vs ds h
    cases h with
    | nil => exact .nil
    | cons r s => exact ih s
theorem RpA.rev : ∀ {vs : List V} {ds : List D}, RpA M F H vs ds → RpA M F H vs.reverse ds.reverse
  | _, _, .nil => .nil
  | _, _, .cons r s => by
    rw [List.reverse_cons, List.reverse_cons]
    exact RpA.app (RpA.rev s) (.one r)
theorem RpA.set : ∀ {vs : List V} {ds : List D} {i : Nat} {v : V} {d : D}, RpA M F H vs ds → Rp M F H v d → RpA M F H (vs.set i v) (ds.set i d)
  | _, _, _, _, _, .nil, _ => .nil
  | _, _, 0, _, _, .cons _ s, k => .cons k s
  | _, _, i + 1, _, _, .cons r s, k => .cons r (RpA.set s k)
theorem RpA.ers : ∀ {vs : List V} {ds : List D} {i : Nat}, RpA M F H vs ds → RpA M F H (vs.eraseIdx i) (ds.eraseIdx i)
  | _, _, _, .nil => .nil
  | _, _, 0, .cons _ s => s
  | _, _, i + 1, .cons r s => .cons r (RpA.ers s)
/-- what stands: the pots, and nothing fixed is a pot -/
structure Ok (pt F : Addr → Prop) (H : Hp) : Prop where
  pots : ∀ b, pt b → Pot H b
  dis : ∀ b, pt b → ¬ F b
  liv : ∀ b, F b → H b ≠ none
/-- what may have come about: new things, other numbers in the pots -/
structure Ext (pt F : Addr → Prop) (H : Hp) (F' : Addr → Prop) (H' : Hp) : Prop where
  sub : ∀ b, F b → F' b
  new : ∀ b, F' b → F b ∨ H b = none
  same : ∀ b o, ¬ pt b → H b = some o → H' b = some o
  pots : ∀ b, pt b → Pot H' b
  liv : ∀ b, F' b → H' b ≠ none
theorem pot_some {H : Hp} {b : Addr} (h : Pot H b) : H b ≠ none := by
  obtain ⟨_, _, e, _⟩ := h
  rw [e]
  exact Option.some_ne_none _
theorem Ok.ext (k : Ok pt F H) (e : Ext pt F H F' H') : Ok pt F' H' := ⟨e.pots, fun b hb f => by
  rcases e.new b f with z | z
  · exact k.dis b hb z
  · exact pot_some (k.pots b hb) z, e.liv⟩
theorem Ext.refl (k : Ok pt F H) : Ext pt F H F H := ⟨fun _ h => h, fun _ h => .inl h, fun _ _ _ h => h, k.pots, k.liv⟩
theorem Ext.nn {b : Addr} (e : Ext pt F H F' H') (n : H' b = none) : H b = none := by
  cases z : H b with
  | none => rfl
  | some o =>
    by_cases hp : pt b
    · exact absurd n (pot_some (e.pots b hp))
    · rw [e.same b o hp z] at n
      cases n
theorem Ext.trans {F'' : Addr → Prop} {H'' : Hp} (e : Ext pt F H F' H') (k : Ext pt F' H' F'' H'') : Ext pt F H F'' H'' :=
  ⟨fun b h => k.sub b (e.sub b h), fun b h => by
    rcases k.new b h with z | z
    · exact e.new b z
    · exact .inr (e.nn z), fun b o n h => k.same b o n (e.same b o n h), k.pots, k.liv⟩
theorem upd_live {H : Hp} {p b : Addr} {o : HO} (h : H b ≠ none) : upd H p o b ≠ none := by
  by_cases z : b = p
  · rw [z, upd_same]; exact Option.some_ne_none _
  · rw [upd_ne z]; exact h
theorem Ok.not_pt (k : Ok pt F H) {b : Addr} (n : H b = none) : ¬ pt b := fun h => pot_some (k.pots b h) n
/-- a new thing at p -/
theorem Ext.put (k : Ok pt F H) {p : Addr} {o : HO} (n : H p = none) : Ext pt F H (fun b => F b ∨ b = p) (upd H p o) :=
  ⟨fun _ h => .inl h, fun b h => h.elim .inl fun z => .inr (z ▸ n), fun b u hb e => by rw [upd_ne (ne_of_none e n)]; exact e, fun b hb => pot_upd (k.pots b hb) fun z => k.not_pt n (z ▸ hb), fun b z => z.elim (fun f => upd_live (k.liv b f)) fun q => by rw [q, upd_same]; exact Option.some_ne_none _⟩
/-- .. that is not fixed -/
theorem Ext.put0 (k : Ok pt F H) {p : Addr} {o : HO} (n : H p = none) : Ext pt F H F (upd H p o) :=
  ⟨fun _ h => h, fun b h => .inl h, fun b u hb e => by rw [upd_ne (ne_of_none e n)]; exact e, fun b hb => pot_upd (k.pots b hb) fun z => k.not_pt n (z ▸ hb), fun b f => upd_live (k.liv b f)⟩
theorem Ext.of_same (k : Ok pt F H) (s : Same H H') : Ext pt F H F H' := ⟨fun _ h => h, fun _ h => .inl h, fun b o _ h => s b o h, fun b hb => pot_same (k.pots b hb) s, fun b f => by
  obtain ⟨o, e⟩ := Option.ne_none_iff_exists'.mp (k.liv b f)
  rw [s _ _ e]
  exact Option.some_ne_none _⟩
theorem Ext.of_but (k : Ok pt F H) {p : Addr} (hp : pt p) (s : But p H H') (P : Pot H' p) : Ext pt F H F H' := ⟨fun _ h => h, fun _ h => .inl h, fun b o n h => s b o (fun z => n (z ▸ hp)) h, fun b hb => by
  by_cases z : b = p
  · rw [z]; exact P
  · exact pot_but (k.pots b hb) z s, fun b f => by
  obtain ⟨o, e⟩ := Option.ne_none_iff_exists'.mp (k.liv b f)
  rw [s _ _ (fun z => k.dis p hp (z ▸ f)) e]
  exact Option.some_ne_none _⟩
theorem Ext.more {G : Addr → Prop} (e : Ext pt F H F' H') (h : ∀ b, G b → H b = none) (l : ∀ b, G b → H' b ≠ none) : Ext pt F H (fun b => F' b ∨ G b) H' := ⟨fun b z => .inl (e.sub b z), fun b z => z.elim (e.new b) fun g => .inr (h b g), e.same, e.pots, fun b z => z.elim (e.liv b) (l b)⟩
theorem Rp.ext {v : V} {d : D} (k : Ok pt F H) (e : Ext pt F H F' H') (r : Rp M F H v d) : Rp M F' H' v d := r.up fun b o f h => ⟨e.sub b f, e.same b o (fun z => k.dis b z f) h⟩
theorem RpA.ext {v : List V} {d : List D} (k : Ok pt F H) (e : Ext pt F H F' H') (r : RpA M F H v d) : RpA M F' H' v d := r.up fun b o f h => ⟨e.sub b f, e.same b o (fun z => k.dis b z f) h⟩
theorem RpK.ext {v : List (Key × V)} {d : List (Key × D)} (k : Ok pt F H) (e : Ext pt F H F' H') (r : RpK M F H v d) : RpK M F' H' v d := r.up fun b o f h => ⟨e.sub b f, e.same b o (fun z => k.dis b z f) h⟩
/-- a value whose own place may be anywhere but a pot -/
def Rb (M : Cm) (pt F : Addr → Prop) (H : Hp) (v : V) : D → Prop
  | .lst ds => ∃ a vs, v = .ref a ∧ ¬ pt a ∧ H a = some (.lst vs) ∧ RpA M F H vs ds
  | .tup ds => ∃ a vs, v = .ref a ∧ ¬ pt a ∧ H a = some (.tup vs) ∧ RpA M F H vs ds
  | .dic ps => ∃ a kvs, v = .ref a ∧ ¬ pt a ∧ H a = some (.dK kvs) ∧ RpK M F H kvs ps
  | .ob c ds => ∃ a dx vs, v = .ref a ∧ ¬ pt a ∧ H a = some (.ins (M.ca c) dx ((M.fn c).zip vs)) ∧ vs.length ≤ (M.fn c).length ∧ RpA M F H vs ds
  | d => Rp M F H v d
theorem Rp.rb {v : V} {d : D} (k : Ok pt F H) (r : Rp M F H v d) : Rb M pt F H v d := by
  cases r with
  | non => exact .non
  | bl b => exact .bl b
  | int i => exact .int i
  | str s => exact .str s
  | lst f e r => exact ⟨_, _, rfl, fun z => k.dis _ z f, e, r⟩
  | tup f e r => exact ⟨_, _, rfl, fun z => k.dis _ z f, e, r⟩
  | dic f e r => exact ⟨_, _, rfl, fun z => k.dis _ z f, e, r⟩
  | ob f e l r => exact ⟨_, _, _, rfl, fun z => k.dis _ z f, e, l, r⟩
theorem Rb.ext {v : V} {d : D} (k : Ok pt F H) (e : Ext pt F H F' H') (r : Rb M pt F H v d) : Rb M pt F' H' v d := by
  cases d with
  | non => exact Rp.ext k e r
  | bl b => exact Rp.ext k e r
  | int i => exact Rp.ext k e r
  | str s => exact Rp.ext k e r
  | lst ds => exact let ⟨a, vs, z, n, h, q⟩ := r; ⟨a, vs, z, n, e.same _ _ n h, q.ext k e⟩
  | tup ds => exact let ⟨a, vs, z, n, h, q⟩ := r; ⟨a, vs, z, n, e.same _ _ n h, q.ext k e⟩
  | dic ds => exact let ⟨a, vs, z, n, h, q⟩ := r; ⟨a, vs, z, n, e.same _ _ n h, q.ext k e⟩
  | ob c ds => exact let ⟨a, dx, vs, z, n, h, l, q⟩ := r; ⟨a, dx, vs, z, n, e.same _ _ n h, l, q.ext k e⟩
/-- .. becomes fixed -/
theorem Rb.fix {a : Addr} {d : D} (r : Rb M pt F H (.ref a) d) : Rp M (fun b => F b ∨ b = a) H (.ref a) d := by
  have up : ∀ b o, F b → H b = some o → (F b ∨ b = a) ∧ H b = some o := fun b o f e => ⟨.inl f, e⟩
  cases d with
  | non => cases r
  | bl b => cases r
  | int i => cases r
  | str s => cases r
  | lst ds =>
    obtain ⟨a', vs, z, n, h, q⟩ := r
    cases z
    exact .lst (.inr rfl) h (q.up up)
  | tup ds =>
    obtain ⟨a', vs, z, n, h, q⟩ := r
    cases z
    exact .tup (.inr rfl) h (q.up up)
  | dic ds =>
    obtain ⟨a', vs, z, n, h, q⟩ := r
    cases z
    exact .dic (.inr rfl) h (q.up up)
  | ob c ds =>
    obtain ⟨a', dx, vs, z, n, h, l, q⟩ := r
    cases z
    exact .ob (.inr rfl) h l (q.up up)
theorem Rb.tr {F1 : Addr → Prop} {H1 : Hp} {v : V} {d : D} (up : ∀ b o, F b → H b = some o → F1 b ∧ H1 b = some o) (rt : ∀ a, v = .ref a → ∀ o, H a = some o → H1 a = some o) (r : Rb M pt F H v d) : Rb M pt F1 H1 v d := by
  cases d with
  | non => exact Rp.up up r
  | bl b => exact Rp.up up r
  | int i => exact Rp.up up r
  | str s => exact Rp.up up r
  | lst ds => exact let ⟨a, vs, z, n, h, q⟩ := r; ⟨a, vs, z, n, rt a z _ h, q.up up⟩
  | tup ds => exact let ⟨a, vs, z, n, h, q⟩ := r; ⟨a, vs, z, n, rt a z _ h, q.up up⟩
  | dic ds => exact let ⟨a, vs, z, n, h, q⟩ := r; ⟨a, vs, z, n, rt a z _ h, q.up up⟩
  | ob c ds => exact let ⟨a, dx, vs, z, n, h, l, q⟩ := r; ⟨a, dx, vs, z, n, rt a z _ h, l, q.up up⟩
theorem rb_some {a : Addr} {d : D} (r : Rb M pt F H (.ref a) d) : H a ≠ none ∧ ¬ pt a := by
  cases d with
  | non => cases r
  | bl b => cases r
  | int i => cases r
  | str s => cases r
  | lst ds => obtain ⟨a', vs, z, n, h, q⟩ := r; cases z; rw [h]; exact ⟨Option.some_ne_none _, n⟩
  | tup ds => obtain ⟨a', vs, z, n, h, q⟩ := r; cases z; rw [h]; exact ⟨Option.some_ne_none _, n⟩
  | dic ds => obtain ⟨a', vs, z, n, h, q⟩ := r; cases z; rw [h]; exact ⟨Option.some_ne_none _, n⟩
  | ob c ds => obtain ⟨a', dx, vs, z, n, h, l, q⟩ := r; cases z; rw [h]; exact ⟨Option.some_ne_none _, n⟩
/-! ### slots -/
/-- d: fixed data; b: borrowed; own: a thing of the slot's own, its parts fixed; own2: a list of things of the slot's own -/
inductive Sl where
  | no
  | d (x : D)
  | b (x : D)
  | own (x : D)
  | own2 (xs : List D)
  | pot
abbrev Rho := List Sl
structure Ow where
  a : Nat → Addr
  c : Nat → List Addr
/-- things side by side, each at a place of its own -/
inductive Kids (M : Cm) (pt F : Addr → Prop) (H : Hp) : List Addr → List D → Prop
  | nil : Kids M pt F H [] []
  | cons {p : Addr} {d : D} {ps : List Addr} {ds : List D} : Rb M pt F H (.ref p) d → Kids M pt F H ps ds → Kids M pt F H (p :: ps) (d :: ds)
theorem Kids.tr {F1 : Addr → Prop} {H1 : Hp} {cs : List Addr} {ds : List D} (up : ∀ b o, F b → H b = some o → F1 b ∧ H1 b = some o) (rt : ∀ a, a ∈ cs → ∀ o, H a = some o → H1 a = some o) (k : Kids M pt F H cs ds) : Kids M pt F1 H1 cs ds := by
  induction k with
  | nil => exact .nil
  | cons r k ih => exact .cons (r.tr up fun a z => rt a (by cases z; exact List.mem_cons_self)) (ih fun a h => rt a (List.mem_cons_of_mem _ h))
theorem Kids.live {cs : List Addr} {ds : List D} (k : Kids M pt F H cs ds) : ∀ a ∈ cs, H a ≠ none ∧ ¬ pt a := by
  induction k with
  | nil => intro a h; cases h
  | cons r k ih => intro a h; rcases List.mem_cons.mp h with rfl | z; exact rb_some r; exact ih a z
theorem Kids.length {cs : List Addr} {ds : List D} (k : Kids M pt F H cs ds) : cs.length = ds.length := by
  induction k with
  | nil => rfl
  | cons r k ih => rw [List.length_cons, List.length_cons, ih]
theorem Kids.get {cs : List Addr} {ds : List D} (k : Kids M pt F H cs ds) : ∀ {i : Nat} {d : D}, ds[i]? = some d → ∃ c, cs[i]? = some c ∧ Rb M pt F H (.ref c) d := by
  induction k with
  | nil => intro i d h; simp at h
  | cons r k ih =>
    intro i d h
    cases i with
    | zero => simp only [List.getElem?_cons_zero, Option.some.injEq] at h; subst h; exact ⟨_, rfl, r⟩
    | succ i => simp only [List.getElem?_cons_succ] at h; exact ih h
/-- one of them changes -/
theorem Kids.upd {cs : List Addr} {ds : List D} (k : Kids M pt F H cs ds) : ∀ {i : Nat} {c : Addr} {u : HO} {d' : D}, cs[i]? = some c → cs.Nodup → ¬ F c → Rb M pt F (L2.upd H c u) (.ref c) d' → Kids M pt F (L2.upd H c u) cs (ds.set i d') := by
  induction k with
  | nil => intro i c u d' h; simp at h
  | cons r k ih =>
    rename_i p0 d0 ps0 ds0
    intro i c u d' h nd f r'
    have up : ∀ b o, F b → H b = some o → F b ∧ L2.upd H c u b = some o := fun b o fb e => ⟨fb, by rw [upd_ne (fun (z : b = c) => f (z ▸ fb))]; exact e⟩
    cases i with
    | zero =>
      simp only [List.getElem?_cons_zero, Option.some.injEq] at h
      subst h
      exact .cons r' (k.tr up fun a ha o e => by rw [upd_ne (fun (z : a = p0) => (List.nodup_cons.mp nd).1 (z ▸ ha))]; exact e)
    | succ i =>
      simp only [List.getElem?_cons_succ] at h
      have hm := List.mem_of_getElem? h
      refine .cons (r.tr up fun a z o e => ?_) (ih h (List.nodup_cons.mp nd).2 f r')
      cases z
      rw [upd_ne (fun (z : p0 = c) => (List.nodup_cons.mp nd).1 (by rw [z]; exact hm))]
      exact e
def owl (o : Ow) (ρ : Rho) (i : Nat) : List Addr := match ρ[i]? with
  | some (.own _) => [o.a i]
  | some (.own2 _) => o.a i :: o.c i
  | _ => []
def SlOk (M : Cm) (pt F : Addr → Prop) (H0 : Hp) (o : Ow) (σ : L2.St) (H : Hp) (i : Nat) : Sl → Prop
  | .no => True
  | .d x => ∃ v, σ[i]? = some (some v) ∧ Rp M F H v x
  | .b x => ∃ v, σ[i]? = some (some v) ∧ Rb M pt F H v x ∧ ∀ a, v = .ref a → H0 a ≠ none
  | .own x => σ[i]? = some (some (.ref (o.a i))) ∧ Rb M pt F H (.ref (o.a i)) x ∧ H0 (o.a i) = none ∧ ¬ F (o.a i)
  | .own2 xs => σ[i]? = some (some (.ref (o.a i))) ∧ H (o.a i) = some (.lst ((o.c i).map V.ref)) ∧ Kids M pt F H (o.c i) xs ∧ (o.a i :: o.c i).Nodup ∧ ∀ a ∈ o.a i :: o.c i, H0 a = none ∧ ¬ F a ∧ ¬ pt a
  | .pot => ∃ p, σ[i]? = some (some (.ref p)) ∧ pt p
/-- where the first slot's own thing stands; things that are held aside, not by a slot -/
structure Gh where
  z : Addr
  gs : List (Addr × D)
structure GhOk (M : Cm) (pt F : Addr → Prop) (H0 : Hp) (o : Ow) (H : Hp) (ρ : Rho) (e : Addr × D) : Prop where
  rb : Rb M pt F H (.ref e.1) e.2
  nw : H0 e.1 = none
  nf : ¬ F e.1
  no : ∀ i, e.1 ∉ owl o ρ i
structure En (M : Cm) (pt F0 : Addr → Prop) (H0 : Hp) (z0 : Gh) (F : Addr → Prop) (o : Ow) (σ : L2.St) (H : Hp) (ρ : Rho) : Prop where
  ok0 : Ok pt F0 H0
  ext : Ext pt F0 H0 F H
  len : σ.length = ρ.length
  sl : ∀ i s, ρ[i]? = some s → SlOk M pt F H0 o σ H i s
  dj : ∀ i j a, a ∈ owl o ρ i → a ∈ owl o ρ j → i = j
  zr : o.a 0 = z0.z
  gh : ∀ e ∈ z0.gs, GhOk M pt F H0 o H ρ e
variable {o : Ow} {σ : L2.St} {ρ : Rho}
theorem En.ok (e : En M pt F0 H0 z0 F o σ H ρ) : Ok pt F H := e.ok0.ext e.ext
theorem owl_own {i : Nat} {x : D} (h : ρ[i]? = some (.own x)) : owl o ρ i = [o.a i] := by unfold owl; rw [h]
theorem owl_own2 {i : Nat} {xs : List D} (h : ρ[i]? = some (.own2 xs)) : owl o ρ i = o.a i :: o.c i := by unfold owl; rw [h]
theorem En.owlOk (e : En M pt F0 H0 z0 F o σ H ρ) {i : Nat} {a : Addr} (h : a ∈ owl o ρ i) : H0 a = none ∧ ¬ F a ∧ H a ≠ none ∧ ¬ pt a := by
  unfold owl at h
  split at h
  · rename_i x hx
    obtain ⟨_, r, n, f⟩ := e.sl i _ hx
    rw [List.mem_singleton.mp h]
    exact ⟨n, f, (rb_some r).1, (rb_some r).2⟩
  · rename_i xs hx
    obtain ⟨_, hl, k, nd, al⟩ := e.sl i _ hx
    refine ⟨(al a h).1, (al a h).2.1, ?_, (al a h).2.2⟩
    rcases List.mem_cons.mp h with rfl | z
    · rw [hl]; exact Option.some_ne_none _
    · exact (k.live a z).1
  · cases h
/-- an unchanged slot in another heap -/
theorem SlOk.tr {F1 : Addr → Prop} {H1 : Hp} {o1 : Ow} {σ1 : L2.St} {i : Nat} {s : Sl} (q : SlOk M pt F H0 o σ H i s) (up : ∀ b u, F b → H b = some u → F1 b ∧ H1 b = some u) (old : ∀ b u, H0 b ≠ none → ¬ pt b → H b = some u → H1 b = some u)
    (own : ∀ a, (∀ x, s = .own x → a = o.a i) → (∀ xs, s = .own2 xs → a ∈ o.a i :: o.c i) → (∃ x, s = .own x) ∨ (∃ xs, s = .own2 xs) → (∀ u, H a = some u → H1 a = some u) ∧ (¬ F a → ¬ F1 a)) (ea : o1.a i = o.a i) (ec : o1.c i = o.c i) (es : σ1[i]? = σ[i]?) : SlOk M pt F1 H0 o1 σ1 H1 i s := by
  cases s with
  | no => trivial
  | d y => exact let ⟨v, a, r⟩ := q; ⟨v, es.trans a, r.up up⟩
  | b y =>
    obtain ⟨v, a, r, n⟩ := q
    exact ⟨v, es.trans a, r.tr up fun a z u hu => old a u (n a z) (by subst z; exact (rb_some r).2) hu, n⟩
  | own y =>
    obtain ⟨a, r, n, f⟩ := q
    have w := own (o.a i) (fun _ _ => rfl) (fun _ z => nomatch z) (.inl ⟨y, rfl⟩)
    show σ1[i]? = some (some (.ref (o1.a i))) ∧ Rb M pt F1 H1 (.ref (o1.a i)) y ∧ H0 (o1.a i) = none ∧ ¬ F1 (o1.a i)
    rw [ea]
    exact ⟨es.trans a, r.tr up fun b z u hu => by cases z; exact w.1 u hu, n, w.2 f⟩
  | own2 ys =>
    obtain ⟨a, hl, k, nd, al⟩ := q
    have w := fun b hb => own b (fun _ z => nomatch z) (fun _ _ => hb) (.inr ⟨ys, rfl⟩)
    show σ1[i]? = some (some (.ref (o1.a i))) ∧ H1 (o1.a i) = some (.lst ((o1.c i).map V.ref)) ∧ Kids M pt F1 H1 (o1.c i) ys ∧ (o1.a i :: o1.c i).Nodup ∧ ∀ a ∈ o1.a i :: o1.c i, H0 a = none ∧ ¬ F1 a ∧ ¬ pt a
    rw [ea, ec]
    exact ⟨es.trans a, (w _ List.mem_cons_self).1 _ hl, k.tr up fun b hb u hu => (w b (List.mem_cons_of_mem _ hb)).1 u hu, nd, fun b hb => ⟨(al b hb).1, (w b hb).2 (al b hb).2.1, (al b hb).2.2⟩⟩
  | pot => exact let ⟨p, a, r⟩ := q; ⟨p, es.trans a, r⟩
theorem owl_of {i : Nat} {s : Sl} {a : Addr} (h : ρ[i]? = some s) (h1 : ∀ x, s = .own x → a = o.a i) (h2 : ∀ xs, s = .own2 xs → a ∈ o.a i :: o.c i) (h3 : (∃ x, s = .own x) ∨ (∃ xs, s = .own2 xs)) : a ∈ owl o ρ i := by
  unfold owl
  rw [h]
  rcases h3 with ⟨x, rfl⟩ | ⟨xs, rfl⟩
  · show a ∈ [o.a i]
    rw [h1 x rfl]
    exact List.mem_cons_self
  · exact h2 xs rfl
theorem owl_set {i j : Nat} {s : Sl} {a : Addr} (h : a ∈ owl o (ρ.set i s) j) (hs : (∀ x, s ≠ .own x) ∧ ∀ x, s ≠ .own2 x) : a ∈ owl o ρ j ∧ j ≠ i := by
  unfold owl at h
  rw [List.getElem?_set] at h
  by_cases e : i = j
  · rw [if_pos e] at h
    split at h
    · rename_i x hx
      split at hx
      · exact absurd (Option.some.inj hx) (hs.1 x)
      · cases hx
    · rename_i x hx
      split at hx
      · exact absurd (Option.some.inj hx) (hs.2 x)
      · cases hx
    · cases h
  · rw [if_neg e] at h
    exact ⟨h, Ne.symm e⟩
theorem En.step (e : En M pt F0 H0 z0 F o σ H ρ) (x : Ext pt F H F' H') : En M pt F0 H0 z0 F' o σ H' ρ := by
  have up : ∀ b u, F b → H b = some u → F' b ∧ H' b = some u := fun b u f h => ⟨x.sub b f, x.same b u (fun z => e.ok.dis b z f) h⟩
  refine ⟨e.ok0, e.ext.trans x, e.len, fun i s h => (e.sl i s h).tr up (fun b u _ np hu => x.same b u np hu) (fun a h1 h2 h3 => ?_) rfl rfl rfl, e.dj, e.zr, fun g hg => ⟨(e.gh g hg).rb.ext e.ok x, (e.gh g hg).nw, fun z => (x.new _ z).elim (e.gh g hg).nf fun n => (rb_some (e.gh g hg).rb).1 n, (e.gh g hg).no⟩⟩
  have w := e.owlOk (owl_of h h1 h2 h3)
  exact ⟨fun u hu => x.same a u w.2.2.2 hu, fun f z => (x.new a z).elim f w.2.2.1⟩
/-- a slot that is given something not of its own -/
theorem En.put (e : En M pt F0 H0 z0 F o σ H ρ) {i : Nat} {u : Option V} {s : Sl} (hs : (∀ x, s ≠ .own x) ∧ ∀ x, s ≠ .own2 x) (q : i < ρ.length → SlOk M pt F H0 o (σ.set i u) H i s) : En M pt F0 H0 z0 F o (σ.set i u) H (ρ.set i s) := by
  refine ⟨e.ok0, e.ext, by rw [List.length_set, List.length_set, e.len], fun j s' h => ?_, fun j k a h1 h2 => e.dj j k a (owl_set h1 hs).1 (owl_set h2 hs).1, e.zr, fun g hg => ⟨(e.gh g hg).rb, (e.gh g hg).nw, (e.gh g hg).nf, fun j h => (e.gh g hg).no j (owl_set h hs).1⟩⟩
  rw [List.getElem?_set] at h
  by_cases hij : i = j
  · subst hij
    rw [if_pos rfl] at h
    split at h
    · rename_i hl
      cases h
      exact q hl
    · cases h
  · rw [if_neg hij] at h
    exact (e.sl j s' h).tr (fun b u f z => ⟨f, z⟩) (fun b u _ _ z => z) (fun a _ _ _ => ⟨fun u z => z, fun z => z⟩) rfl rfl (by rw [List.getElem?_set, if_neg hij])
theorem En.set (e : En M pt F0 H0 z0 F o σ H ρ) {i : Nat} {v : V} {d : D} (r : Rp M F H v d) : En M pt F0 H0 z0 F o (σ.set i (some v)) H (ρ.set i (.d d)) :=
  e.put ⟨(fun _ z => nomatch z), (fun _ z => nomatch z)⟩ fun hl => ⟨v, by rw [List.getElem?_set, if_pos rfl, if_pos (by rw [e.len]; exact hl)], r⟩
theorem En.forget (e : En M pt F0 H0 z0 F o σ H ρ) {i : Nat} {u : Option V} : En M pt F0 H0 z0 F o (σ.set i u) H (ρ.set i .no) :=
  e.put ⟨(fun _ z => nomatch z), (fun _ z => nomatch z)⟩ fun _ => trivial
def Ow.set (o : Ow) (i : Nat) (p : Addr) (cs : List Addr) : Ow := ⟨fun j => if j = i then p else o.a j, fun j => if j = i then cs else o.c j⟩
theorem owl_put {i j : Nat} {p : Addr} {cs : List Addr} {s : Sl} {a : Addr} (h : a ∈ owl (o.set i p cs) (ρ.set i s) j) : (j ≠ i ∧ a ∈ owl o ρ j) ∨ (j = i ∧ a ∈ p :: cs) := by
  unfold owl at h
  rw [List.getElem?_set] at h
  by_cases e : i = j
  · refine .inr ⟨e.symm, ?_⟩
    subst e
    rw [if_pos rfl] at h
    have ha : (o.set i p cs).a i = p := if_pos rfl
    have hc : (o.set i p cs).c i = cs := if_pos rfl
    split at h
    · rw [ha] at h
      rw [List.mem_singleton.mp h]
      exact List.mem_cons_self
    · rw [ha, hc] at h
      exact h
    · cases h
  · rw [if_neg e] at h
    have ha : (o.set i p cs).a j = o.a j := if_neg (Ne.symm e)
    have hc : (o.set i p cs).c j = o.c j := if_neg (Ne.symm e)
    rw [ha, hc] at h
    exact .inl ⟨Ne.symm e, h⟩
/-- a slot is given a thing of its own: at p, the parts that are its own at cs -/
theorem En.putOwn (e : En M pt F0 H0 z0 F o σ H ρ) {i : Nat} {p : Addr} {cs : List Addr} {s : Sl} (q : i < ρ.length → SlOk M pt F H0 (o.set i p cs) (σ.set i (some (.ref p))) H i s) (nu : ∀ j a, j ≠ i → a ∈ owl o ρ j → a ∉ p :: cs) (i0 : i ≠ 0) (ng : ∀ g ∈ z0.gs, g.1 ∉ p :: cs) :
    En M pt F0 H0 z0 F (o.set i p cs) (σ.set i (some (.ref p))) H (ρ.set i s) := by
  refine ⟨e.ok0, e.ext, by rw [List.length_set, List.length_set, e.len], fun j s' h => ?_, fun j k a h1 h2 => ?_, ?_, fun g hg => ⟨(e.gh g hg).rb, (e.gh g hg).nw, (e.gh g hg).nf, fun j h => ?_⟩⟩
  · rw [List.getElem?_set] at h
    by_cases hij : i = j
    · subst hij
      rw [if_pos rfl] at h
      split at h
      · rename_i hl
        cases h
        exact q hl
      · cases h
    · rw [if_neg hij] at h
      exact (e.sl j s' h).tr (fun b u f z => ⟨f, z⟩) (fun b u _ _ z => z) (fun a _ _ _ => ⟨fun u z => z, fun z => z⟩) (if_neg (Ne.symm hij)) (if_neg (Ne.symm hij)) (by rw [List.getElem?_set, if_neg hij])
  · rcases owl_put h1 with ⟨n1, m1⟩ | ⟨e1, m1⟩
    · rcases owl_put h2 with ⟨n2, m2⟩ | ⟨e2, m2⟩
      · exact e.dj j k a m1 m2
      · exact absurd m2 (nu j a n1 m1)
    · rcases owl_put h2 with ⟨n2, m2⟩ | ⟨e2, m2⟩
      · exact absurd m1 (nu k a n2 m2)
      · rw [e1, e2]
  · show (if 0 = i then p else o.a 0) = z0.z
    rw [if_neg (Ne.symm i0)]
    exact e.zr
  · rcases owl_put h with ⟨n1, m1⟩ | ⟨e1, m1⟩
    · exact (e.gh g hg).no j m1
    · exact ng g hg m1
theorem En.setOwn (e : En M pt F0 H0 z0 F o σ H ρ) {i : Nat} {p : Addr} {d : D} (r : Rb M pt F H (.ref p) d) (n : H0 p = none) (f : ¬ F p) (nu : ∀ j a, j ≠ i → a ∈ owl o ρ j → a ≠ p) (i0 : i ≠ 0) (ng : ∀ g ∈ z0.gs, p ≠ g.1) :
    En M pt F0 H0 z0 F (o.set i p []) (σ.set i (some (.ref p))) H (ρ.set i (.own d)) := by
  refine e.putOwn (fun hl => ?_) (fun j a hj ha z => nu j a hj ha (List.mem_singleton.mp z)) i0 fun g hg z => ng g hg (List.mem_singleton.mp z).symm
  have ha : (o.set i p []).a i = p := if_pos rfl
  show (σ.set i (some (.ref p)))[i]? = some (some (.ref ((o.set i p []).a i))) ∧ Rb M pt F H (.ref ((o.set i p []).a i)) d ∧ H0 ((o.set i p []).a i) = none ∧ ¬ F ((o.set i p []).a i)
  rw [ha]
  exact ⟨by rw [List.getElem?_set, if_pos rfl, if_pos (by rw [e.len]; exact hl)], r, n, f⟩
theorem En.setOwn2 (e : En M pt F0 H0 z0 F o σ H ρ) {i : Nat} {p : Addr} {cs : List Addr} {ds : List D} (hp : H p = some (.lst (cs.map V.ref))) (k : Kids M pt F H cs ds) (nd : (p :: cs).Nodup) (al : ∀ a ∈ p :: cs, H0 a = none ∧ ¬ F a ∧ ¬ pt a) (nu : ∀ j a, j ≠ i → a ∈ owl o ρ j → a ∉ p :: cs) (i0 : i ≠ 0) (ng : ∀ g ∈ z0.gs, g.1 ∉ p :: cs) :
    En M pt F0 H0 z0 F (o.set i p cs) (σ.set i (some (.ref p))) H (ρ.set i (.own2 ds)) := by
  refine e.putOwn (fun hl => ?_) nu i0 ng
  have ha : (o.set i p cs).a i = p := if_pos rfl
  have hc : (o.set i p cs).c i = cs := if_pos rfl
  show (σ.set i (some (.ref p)))[i]? = some (some (.ref ((o.set i p cs).a i))) ∧ H ((o.set i p cs).a i) = some (.lst (((o.set i p cs).c i).map V.ref)) ∧ Kids M pt F H ((o.set i p cs).c i) ds ∧ ((o.set i p cs).a i :: (o.set i p cs).c i).Nodup ∧ ∀ a ∈ (o.set i p cs).a i :: (o.set i p cs).c i, H0 a = none ∧ ¬ F a ∧ ¬ pt a
  rw [ha, hc]
  exact ⟨by rw [List.getElem?_set, if_pos rfl, if_pos (by rw [e.len]; exact hl)], hp, k, nd, al⟩
theorem Kids.fix {cs : List Addr} {ds : List D} (k : Kids M pt F H cs ds) (G : Addr → Prop) (s : ∀ b, F b → G b) (g : ∀ a ∈ cs, G a) : RpA M G H (cs.map V.ref) ds := by
  induction k with
  | nil => exact .nil
  | cons r k ih => exact .cons (r.fix.up fun b o hb e => ⟨hb.elim (s b) fun z => z ▸ g _ List.mem_cons_self, e⟩) (ih fun a h => g a (List.mem_cons_of_mem _ h))
/-- what is owned in slot i becomes fixed -/
def frzD : Sl → Option D
  | .own x => some x
  | .own2 xs => some (.lst xs)
  | _ => none
theorem En.freeze (e : En M pt F0 H0 z0 F o σ H ρ) {i : Nat} {s : Sl} {d : D} (h : ρ[i]? = some s) (hd : frzD s = some d) : En M pt F0 H0 z0 (fun b => F b ∨ b ∈ owl o ρ i) o σ H (ρ.set i (.d d)) := by
  have up : ∀ b u, F b → H b = some u → (F b ∨ b ∈ owl o ρ i) ∧ H b = some u := fun b u f e => ⟨.inl f, e⟩
  have hx : Ext pt F0 H0 (fun b => F b ∨ b ∈ owl o ρ i) H := ⟨fun b z => .inl (e.ext.sub b z), fun b z => z.elim (e.ext.new b) fun q => .inr (e.owlOk q).1, e.ext.same, e.ext.pots, fun b z => z.elim (e.ext.liv b) fun q => (e.owlOk q).2.2.1⟩
  have hs : (∀ x, (Sl.d d) ≠ .own x) ∧ ∀ x, (Sl.d d) ≠ .own2 x := ⟨(fun _ z => nomatch z), (fun _ z => nomatch z)⟩
  refine ⟨e.ok0, hx, by rw [List.length_set, e.len], fun j s' hj => ?_, fun j k a h1 h2 => e.dj j k a (owl_set h1 hs).1 (owl_set h2 hs).1, e.zr, fun g hg => ⟨(e.gh g hg).rb.tr up fun _ _ _ z => z, (e.gh g hg).nw, fun z => z.elim (e.gh g hg).nf ((e.gh g hg).no i), fun j h => (e.gh g hg).no j (owl_set h hs).1⟩⟩
  rw [List.getElem?_set] at hj
  by_cases hij : i = j
  · subst hij
    rw [if_pos rfl] at hj
    split at hj
    · cases hj
      have q := e.sl i s h
      cases s with
      | own x =>
        cases hd
        obtain ⟨a, r, _⟩ := q
        exact ⟨_, a, r.fix.up fun b u hb z => ⟨hb.elim .inl fun w => .inr (by rw [owl_own h, w]; exact List.mem_cons_self), z⟩⟩
      | own2 xs =>
        cases hd
        obtain ⟨a, hl, k, _⟩ := q
        exact ⟨_, a, .lst (.inr (by rw [owl_own2 h]; exact List.mem_cons_self)) hl (k.fix _ (fun b z => .inl z) fun b hb => .inr (by rw [owl_own2 h]; exact List.mem_cons_of_mem _ hb))⟩
      | _ => cases hd
    · cases hj
  · rw [if_neg hij] at hj
    refine (e.sl j s' hj).tr up (fun b u _ _ z => z) (fun a h1 h2 h3 => ⟨fun u z => z, fun f z => z.elim f fun w => hij (e.dj i j a w (owl_of hj h1 h2 h3))⟩) rfl rfl rfl
/-- what is owned in slot i changes, at one of its places -/
theorem En.mutS (e : En M pt F0 H0 z0 F o σ H ρ) {i : Nat} {s : Sl} {c : Addr} {u : HO} (hc : c ∈ owl o ρ i) (ho : ∀ a, a ∈ owl o (ρ.set i s) i → a ∈ owl o ρ i) (q : i < ρ.length → SlOk M pt F H0 o σ (upd H c u) i s) : En M pt F0 H0 z0 F o σ (upd H c u) (ρ.set i s) := by
  have w := e.owlOk hc
  have up : ∀ b v, F b → H b = some v → F b ∧ upd H c u b = some v := fun b v fb z => ⟨fb, by rw [upd_ne (fun (y : b = c) => w.2.1 (y ▸ fb))]; exact z⟩
  have hx : Ext pt F0 H0 F (upd H c u) := ⟨e.ext.sub, e.ext.new, fun b v nb hb => by rw [upd_ne (fun z => by rw [z, w.1] at hb; cases hb)]; exact e.ext.same b v nb hb, fun b hb => pot_upd (e.ext.pots b hb) fun z => w.2.2.2 (z ▸ hb), fun b f => upd_live (e.ext.liv b f)⟩
  have oj : ∀ j a, a ∈ owl o (ρ.set i s) j → a ∈ owl o ρ j := fun j a h => by
    by_cases z : j = i
    · subst z; exact ho a h
    · unfold owl at h ⊢
      rw [List.getElem?_set, if_neg (Ne.symm z)] at h
      exact h
  refine ⟨e.ok0, hx, by rw [List.length_set, e.len], fun j s' hj => ?_, fun j k a h1 h2 => e.dj j k a (oj j a h1) (oj k a h2), e.zr, fun g hg => ⟨(e.gh g hg).rb.tr up fun a z v hv => ?_, (e.gh g hg).nw, (e.gh g hg).nf, fun j h => (e.gh g hg).no j (oj j _ h)⟩⟩
  · rw [List.getElem?_set] at hj
    by_cases hij : i = j
    · subst hij
      rw [if_pos rfl] at hj
      split at hj
      · rename_i hl
        cases hj
        exact q hl
      · cases hj
    · rw [if_neg hij] at hj
      refine (e.sl j s' hj).tr up (fun b v n _ z => by rw [upd_ne (fun (y : b = c) => n (y ▸ w.1))]; exact z) (fun a h1 h2 h3 => ⟨fun v z => by rw [upd_ne (fun (y : a = c) => hij (e.dj i j a (y ▸ hc) (owl_of hj h1 h2 h3)))]; exact z, fun z => z⟩) rfl rfl rfl
  · cases z
    rw [upd_ne (fun (y : g.1 = c) => (e.gh g hg).no i (y ▸ hc))]
    exact hv
theorem En.mut (e : En M pt F0 H0 z0 F o σ H ρ) {i : Nat} {d d' : D} {u : HO} (h : ρ[i]? = some (.own d)) (r' : Rb M pt F (upd H (o.a i) u) (.ref (o.a i)) d') : En M pt F0 H0 z0 F o σ (upd H (o.a i) u) (ρ.set i (.own d')) := by
  obtain ⟨a, r, n, f⟩ := e.sl i _ h
  refine e.mutS (by rw [owl_own h]; exact List.mem_cons_self) (fun b hb => ?_) fun _ => ⟨a, r', n, f⟩
  unfold owl at hb ⊢
  rw [h]
  rw [List.getElem?_set, if_pos rfl] at hb
  split at hb
  · exact hb
  · rename_i xs hx
    split at hx <;> cases hx
  · cases hb
/-- a part of an own list is changed -/
theorem En.mut2 (e : En M pt F0 H0 z0 F o σ H ρ) {i j : Nat} {ds : List D} {d' : D} {u : HO} {c : Addr} (h : ρ[i]? = some (.own2 ds)) (hc : (o.c i)[j]? = some c) (r' : Rb M pt F (upd H c u) (.ref c) d') : En M pt F0 H0 z0 F o σ (upd H c u) (ρ.set i (.own2 (ds.set j d'))) := by
  obtain ⟨a, hl, k, nd, al⟩ := e.sl i _ h
  have hm := List.mem_of_getElem? hc
  have nac : o.a i ≠ c := fun z => (List.nodup_cons.mp nd).1 (z ▸ hm)
  refine e.mutS (by rw [owl_own2 h]; exact List.mem_cons_of_mem _ hm) (fun b hb => ?_) fun _ => ⟨a, by rw [upd_ne nac]; exact hl, k.upd hc (List.nodup_cons.mp nd).2 (al c (List.mem_cons_of_mem _ hm)).2.1 r', nd, al⟩
  unfold owl at hb ⊢
  rw [h]
  rw [List.getElem?_set, if_pos rfl] at hb
  split at hb
  · rename_i x hx
    split at hx <;> cases hx
  · exact hb
  · cases hb
end
end Dl

/-! Data logic, part 2: readings of expressions -/
namespace Dl
open PySem PySem.Spec PyProof.Rows L2 Xv Cr
abbrev GE := Rho → (D → Prop) → Prop
abbrev GA := Rho → (List D → Prop) → Prop
abbrev GT := Rho → (Bool → Prop) → Prop
/-- a reading, by data: the value is fixed -/
class DT (M : Cm) (t : TE) (g : outParam GE) : Prop where
  run : ∀ {pt F0 : Addr → Prop} {H0 : Hp} {z0 : Gh} {F : Addr → Prop} {o : Ow} {σ : L2.St} {H : Hp} {ρ : Rho} {P : D → Prop} {Q : VK}, En M pt F0 H0 z0 F o σ H ρ → g ρ P → (∀ d F' H' v, P d → Ext pt F H F' H' → Rp M F' H' v d → Q v H') → t σ H Q
/-- .. that is no name alone -/
class DTc (M : Cm) (t : TE) (g : outParam GE) : Prop where
  run : ∀ {pt F0 : Addr → Prop} {H0 : Hp} {z0 : Gh} {F : Addr → Prop} {o : Ow} {σ : L2.St} {H : Hp} {ρ : Rho} {P : D → Prop} {Q : VK}, En M pt F0 H0 z0 F o σ H ρ → g ρ P → (∀ d F' H' v, P d → Ext pt F H F' H' → Rp M F' H' v d → Q v H') → t σ H Q
/-- .. its own place may be anywhere -/
class DB (M : Cm) (t : TE) (g : outParam GE) : Prop where
  run : ∀ {pt F0 : Addr → Prop} {H0 : Hp} {z0 : Gh} {F : Addr → Prop} {o : Ow} {σ : L2.St} {H : Hp} {ρ : Rho} {P : D → Prop} {Q : VK}, En M pt F0 H0 z0 F o σ H ρ → g ρ P → (∀ d F' H' v, P d → Ext pt F H F' H' → Rb M pt F' H' v d → Q v H') → t σ H Q
/-- .. a new thing that nothing else holds -/
class DN (M : Cm) (t : TE) (g : outParam GE) : Prop where
  run : ∀ {pt F0 : Addr → Prop} {H0 : Hp} {z0 : Gh} {F : Addr → Prop} {o : Ow} {σ : L2.St} {H : Hp} {ρ : Rho} {P : D → Prop} {Q : VK}, En M pt F0 H0 z0 F o σ H ρ → g ρ P → (∀ d F' H' p, P d → Ext pt F H F' H' → Rb M pt F' H' (.ref p) d → H p = none → ¬ F' p → Q (.ref p) H') → t σ H Q
class DTT (M : Cm) (t : TT) (g : outParam GT) : Prop where
  run : ∀ {pt F0 : Addr → Prop} {H0 : Hp} {z0 : Gh} {F : Addr → Prop} {o : Ow} {σ : L2.St} {H : Hp} {ρ : Rho} {P : Bool → Prop} {Q : Bool → Hp → Prop}, En M pt F0 H0 z0 F o σ H ρ → g ρ P → (∀ b F' H', P b → Ext pt F H F' H' → Q b H') → t σ H Q
inductive Kd where
  | full
  | bor
  | pot
inductive RA (M : Cm) (pt F : Addr → Prop) (H : Hp) : List Kd → List V → List D → Prop
  | nil : RA M pt F H [] [] []
  | full {ks : List Kd} {v : V} {vs : List V} {d : D} {ds : List D} : Rp M F H v d → RA M pt F H ks vs ds → RA M pt F H (.full :: ks) (v :: vs) (d :: ds)
  | bor {ks : List Kd} {v : V} {vs : List V} {d : D} {ds : List D} : Rb M pt F H v d → RA M pt F H ks vs ds → RA M pt F H (.bor :: ks) (v :: vs) (d :: ds)
  | pot {ks : List Kd} {p : Addr} {vs : List V} {ds : List D} : pt p → RA M pt F H ks vs ds → RA M pt F H (.pot :: ks) (.ref p :: vs) (.non :: ds)
theorem RA.ext {M : Cm} {pt F F' : Addr → Prop} {H H' : Hp} (k : Ok pt F H) (e : Ext pt F H F' H') : ∀ {ks : List Kd} {vs : List V} {ds : List D}, RA M pt F H ks vs ds → RA M pt F' H' ks vs ds
  | _, _, _, .nil => .nil
  | _, _, _, .full r s => .full (r.ext k e) (RA.ext k e s)
  | _, _, _, .bor r s => .bor (r.ext k e) (RA.ext k e s)
  | _, _, _, .pot r s => .pot r (RA.ext k e s)
theorem RA.length {M : Cm} {pt F : Addr → Prop} {H : Hp} : ∀ {ks : List Kd} {vs : List V} {ds : List D}, RA M pt F H ks vs ds → vs.length = ks.length
  | _, _, _, .nil => rfl
  | _, _, _, .full _ s => congrArg (· + 1) (RA.length s)
  | _, _, _, .bor _ s => congrArg (· + 1) (RA.length s)
  | _, _, _, .pot _ s => congrArg (· + 1) (RA.length s)
class DA (M : Cm) (ks : List Kd) (t : TA) (g : outParam GA) : Prop where
  run : ∀ {pt F0 : Addr → Prop} {H0 : Hp} {z0 : Gh} {F : Addr → Prop} {o : Ow} {σ : L2.St} {H : Hp} {ρ : Rho} {P : List D → Prop} {Q : List V → Hp → Prop}, En M pt F0 H0 z0 F o σ H ρ → g ρ P → (∀ ds F' H' vs, P ds → Ext pt F H F' H' → RA M pt F' H' ks vs ds → Q vs H') → t σ H Q
/-- all fixed -/
class DL (M : Cm) (t : TA) (g : outParam GA) : Prop where
  run : ∀ {pt F0 : Addr → Prop} {H0 : Hp} {z0 : Gh} {F : Addr → Prop} {o : Ow} {σ : L2.St} {H : Hp} {ρ : Rho} {P : List D → Prop} {Q : List V → Hp → Prop}, En M pt F0 H0 z0 F o σ H ρ → g ρ P → (∀ ds F' H' vs, P ds → Ext pt F H F' H' → RpA M F' H' vs ds → Q vs H') → t σ H Q
/-- a def's promise, by data -/
def spD (M : Cm) (ks : List Kd) (f : List D → (D → Prop) → Prop) : Sp := fun vs H Q _ => ∃ (pt F : Addr → Prop) (ds : List D) (P : D → Prop), Ok pt F H ∧ RA M pt F H ks vs ds ∧ f ds P ∧ ∀ d F' H' v, P d → Ext pt F H F' H' → Rp M F' H' v d → Q v H'
/-- .. with a new thing that nothing else holds -/
def spN (M : Cm) (ks : List Kd) (f : List D → (D → Prop) → Prop) : Sp := fun vs H Q _ => ∃ (pt F : Addr → Prop) (ds : List D) (P : D → Prop), Ok pt F H ∧ RA M pt F H ks vs ds ∧ f ds P ∧ ∀ d F' H' p, P d → Ext pt F H F' H' → Rb M pt F' H' (.ref p) d → H p = none → ¬ F' p → Q (.ref p) H'
/-- an operator, by data -/
class D2 (M : Cm) (r : R2) (f : outParam (D → D → (D → Prop) → Prop)) : Prop where
  run : ∀ {pt F : Addr → Prop} {H : Hp} {x y : V} {dx dy : D} {P : D → Prop} {Q : VK}, Ok pt F H → Rb M pt F H x dx → Rb M pt F H y dy → f dx dy P → (∀ d F' H' v, P d → Ext pt F H F' H' → Rp M F' H' v d → Q v H') → r x y H Q
class D2N (M : Cm) (r : R2) (f : outParam (D → D → (D → Prop) → Prop)) : Prop where
  run : ∀ {pt F : Addr → Prop} {H : Hp} {x y : V} {dx dy : D} {P : D → Prop} {Q : VK}, Ok pt F H → Rb M pt F H x dx → Rb M pt F H y dy → f dx dy P → (∀ d F' H' p, P d → Ext pt F H F' H' → Rb M pt F' H' (.ref p) d → H p = none → ¬ F' p → Q (.ref p) H') → r x y H Q
/-- a built-in call, by data -/
class D1 (M : Cm) (r : List V → Hp → VK → Prop) (ks : outParam (List Kd)) (f : outParam (List D → (D → Prop) → Prop)) : Prop where
  run : ∀ {pt F : Addr → Prop} {H : Hp} {vs : List V} {ds : List D} {P : D → Prop} {Q : VK}, Ok pt F H → RA M pt F H ks vs ds → f ds P → (∀ d F' H' v, P d → Ext pt F H F' H' → Rp M F' H' v d → Q v H') → r vs H Q
class D1N (M : Cm) (r : List V → Hp → VK → Prop) (ks : outParam (List Kd)) (f : outParam (List D → (D → Prop) → Prop)) : Prop where
  run : ∀ {pt F : Addr → Prop} {H : Hp} {vs : List V} {ds : List D} {P : D → Prop} {Q : VK}, Ok pt F H → RA M pt F H ks vs ds → f ds P → (∀ d F' H' p, P d → Ext pt F H F' H' → Rb M pt F' H' (.ref p) d → H p = none → ¬ F' p → Q (.ref p) H') → r vs H Q
section
variable {M : Cm} {K : PySem.W.Frag} {ta tb : TE} {ga gb : GE} {i : Nat} {ks : List Kd} {f : List D → (D → Prop) → Prop} {f2 : D → D → (D → Prop) → Prop} {t : TA} {g : GA}
/-! ### new things are things -/
instance DT.ofC [h : DTc M ta ga] : DT M ta ga := ⟨h.run⟩
instance DB.ofDT [h : DTc M ta ga] : DB M ta ga := ⟨fun e q k => h.run e q fun d F' H' v p x r => k d F' H' v p x (r.rb (e.ok.ext x))⟩
instance DT.ofDN [h : DN M ta ga] : DTc M ta ga := ⟨fun e q k => h.run e q fun d F' H' p hp x r n f => k d _ H' _ hp (x.more (G := fun b => b = p) (fun b z => z ▸ n) fun b z => z ▸ (rb_some r).1) r.fix⟩
theorem spD_of_N {ks : List Kd} {f : List D → (D → Prop) → Prop} {vs : List V} {H : Hp} {Q : VK} {E : XK} (h : spD M ks f vs H Q E) : spN M ks f vs H Q E := by
  obtain ⟨pt, F, ds, P, k, r, q, w⟩ := h
  exact ⟨pt, F, ds, P, k, r, q, fun d F' H' p hp x r n nf => w d _ H' _ hp (x.more (G := fun b => b = p) (fun b z => z ▸ n) fun b z => z ▸ (rb_some r).1) r.fix⟩
/-! ### slots, constants -/
def gD (i : Nat) : GE := fun ρ P => match ρ[i]? with | some (.d x) => P x | _ => False
def gB (i : Nat) : GE := fun ρ P => match ρ[i]? with | some (.d x) => P x | some (.b x) => P x | some (.own x) => P x | _ => False
def gC (d : D) : GE := fun _ P => P d
instance : DT M (tVar i) (gD i) := ⟨fun {pt F0 H0 z0 F o σ H ρ P Q} e q k => by
  unfold gD at q
  split at q
  · rename_i x h
    obtain ⟨v, a, r⟩ := e.sl i _ h
    exact ⟨v, a, k x F H v q (.refl e.ok) r⟩
  · exact q.elim⟩
instance : DB M (tVar i) (gB i) := ⟨fun {pt F0 H0 z0 F o σ H ρ P Q} e q k => by
  unfold gB at q
  split at q
  · rename_i x h
    obtain ⟨v, a, r⟩ := e.sl i _ h
    exact ⟨v, a, k x F H v q (.refl e.ok) (r.rb e.ok)⟩
  · rename_i x h
    obtain ⟨v, a, r, _⟩ := e.sl i _ h
    exact ⟨v, a, k x F H v q (.refl e.ok) r⟩
  · rename_i x h
    obtain ⟨a, r, _⟩ := e.sl i _ h
    exact ⟨_, a, k x F H _ q (.refl e.ok) r⟩
  · exact q.elim⟩
instance {n : Int} : DTc M (tC (.int n)) (gC (.int n)) := ⟨fun e q k => k _ _ _ _ q (.refl e.ok) (.int _)⟩
instance {z : Str} : DTc M (tC (.str z)) (gC (.str z)) := ⟨fun e q k => k _ _ _ _ q (.refl e.ok) (.str _)⟩
instance {b : Bool} : DTc M (tC (.bl b)) (gC (.bl b)) := ⟨fun e q k => k _ _ _ _ q (.refl e.ok) (.bl _)⟩
instance : DTc M (tC .non) (gC .non) := ⟨fun e q k => k _ _ _ _ q (.refl e.ok) .non⟩
/-! ### arguments -/
def gNil : GA := fun _ P => P []
def gCons (ga : GE) (g : GA) : GA := fun ρ P => ga ρ fun d => g ρ fun ds => P (d :: ds)
def gPot (i : Nat) (g : GA) : GA := fun ρ P => match ρ[i]? with | some .pot => g ρ fun ds => P (.non :: ds) | _ => False
instance : DA M [] tNil gNil := ⟨fun e q k => k _ _ _ _ q (.refl e.ok) .nil⟩
instance [h1 : DT M ta ga] [h2 : DA M ks t g] : DA M (.full :: ks) (tCons ta t) (gCons ga g) := ⟨fun {pt F0 H0 z0 F o σ H ρ P Q} e q k => h1.run e q fun d F1 H1 v q1 x1 r1 => h2.run (e.step x1) q1 fun ds F2 H2 vs q2 x2 r2 => k _ _ _ _ q2 (x1.trans x2) (.full (r1.ext (e.step x1).ok x2) r2)⟩
instance [h1 : DB M ta ga] [h2 : DA M ks t g] : DA M (.bor :: ks) (tCons ta t) (gCons ga g) := ⟨fun {pt F0 H0 z0 F o σ H ρ P Q} e q k => h1.run e q fun d F1 H1 v q1 x1 r1 => h2.run (e.step x1) q1 fun ds F2 H2 vs q2 x2 r2 => k _ _ _ _ q2 (x1.trans x2) (.bor (r1.ext (e.step x1).ok x2) r2)⟩
instance [h2 : DA M ks t g] : DA M (.pot :: ks) (tCons (tVar i) t) (gPot i g) := ⟨fun {pt F0 H0 z0 F o σ H ρ P Q} e q k => by
  unfold gPot at q
  split at q
  · rename_i h
    obtain ⟨p, a, hp⟩ := e.sl i _ h
    exact ⟨_, a, h2.run e q fun ds F2 H2 vs q2 x2 r2 => k _ _ _ _ q2 x2 (.pot hp r2)⟩
  · exact q.elim⟩
instance : DL M tNil gNil := ⟨fun e q k => k _ _ _ _ q (.refl e.ok) .nil⟩
instance [h1 : DT M ta ga] [h2 : DL M t g] : DL M (tCons ta t) (gCons ga g) := ⟨fun {pt F0 H0 z0 F o σ H ρ P Q} e q k => h1.run e q fun d F1 H1 v q1 x1 r1 => h2.run (e.step x1) q1 fun ds F2 H2 vs q2 x2 r2 => k _ _ _ _ q2 (x1.trans x2) (.cons (r1.ext (e.step x1).ok x2) r2)⟩
/-! ### displays -/
def gLst (g : GA) : GE := fun ρ P => g ρ fun ds => ds.length ≤ 16777216 ∧ P (.lst ds)
def gTup (g : GA) : GE := fun ρ P => g ρ fun ds => ds.length ≤ 16777216 ∧ P (.tup ds)
instance [h : DL M t g] : DN M (tLst t) (gLst g) := ⟨fun {pt F0 H0 z0 F o σ H ρ P Q} e q k => h.run e q fun ds F1 H1 vs q1 x1 r1 => ⟨by rw [r1.length, sizeLine_eq]; exact q1.1, fun p np => by
  have o1 := (e.step x1).ok
  exact k _ F1 _ p q1.2 (x1.trans (.put0 o1 np)) ⟨p, vs, rfl, o1.not_pt np, upd_same, r1.ext o1 (.put0 o1 np)⟩ (x1.nn np) fun z => x1.liv p z np⟩⟩
instance [h : DL M t g] : DN M (tTup t) (gTup g) := ⟨fun {pt F0 H0 z0 F o σ H ρ P Q} e q k => h.run e q fun ds F1 H1 vs q1 x1 r1 => ⟨by rw [r1.length, sizeLine_eq]; exact q1.1, fun p np => by
  have o1 := (e.step x1).ok
  exact k _ F1 _ p q1.2 (x1.trans (.put0 o1 np)) ⟨p, vs, rfl, o1.not_pt np, upd_same, r1.ext o1 (.put0 o1 np)⟩ (x1.nn np) fun z => x1.liv p z np⟩⟩
end
end Dl

/-! Data logic, part 3: operators, built-in calls -/
namespace Dl
open PySem PySem.Spec PyProof.Rows L2 Xv Cr
section
variable {M : Cm} {K : PySem.W.Frag} {pt F F' : Addr → Prop} {H H' : Hp} {v x y : V} {P : D → Prop} {Q : VK}
theorem rb_int {i : Int} (h : Rb M pt F H v (.int i)) : v = .int i := by cases h; rfl
theorem rb_str {z : Str} (h : Rb M pt F H v (.str z)) : v = .str z := by cases h; rfl
theorem rb_bl {b : Bool} (h : Rb M pt F H v (.bl b)) : v = .bl b := by cases h; rfl
theorem rb_non (h : Rb M pt F H v .non) : v = .non := by cases h; rfl
/-! ### numbers -/
def fI (h : Int → Int → D) : D → D → (D → Prop) → Prop := fun dx dy P => match dx, dy with | .int i, .int j => P (h i j) | _, _ => False
def fIc (c : Int → Int → Prop) (h : Int → Int → D) : D → D → (D → Prop) → Prop := fun dx dy P => match dx, dy with | .int i, .int j => c i j ∧ P (h i j) | _, _ => False
theorem run_I0 {g : Int → Int → V} {h : Int → Int → D} (hg : ∀ i j F H, Rp M F H (g i j) (h i j)) : D2 M (rI0 g) (fI h) := ⟨fun {pt F H x y dx dy P Q} k r1 r2 q w => by
  unfold fI at q
  split at q
  · cases rb_int r1
    cases rb_int r2
    exact ⟨_, _, rfl, rfl, w _ F H _ q (.refl k) (hg _ _ _ _)⟩
  · exact q.elim⟩
theorem run_I {c : Int → Int → Prop} {g : Int → Int → V} {h : Int → Int → D} (hg : ∀ i j F H, Rp M F H (g i j) (h i j)) : D2 M (rI c g) (fIc c h) := ⟨fun {pt F H x y dx dy P Q} k r1 r2 q w => by
  unfold fIc at q
  split at q
  · cases rb_int r1
    cases rb_int r2
    exact ⟨_, _, rfl, rfl, q.1, w _ F H _ q.2 (.refl k) (hg _ _ _ _)⟩
  · exact q.elim⟩
instance : D2 M (rI0 fun i j => .int (i + j)) (fI fun i j => .int (i + j)) := run_I0 fun _ _ _ _ => .int _
instance : D2 M (rI0 fun i j => .int (i - j)) (fI fun i j => .int (i - j)) := run_I0 fun _ _ _ _ => .int _
instance : D2 M (rI0 fun i j => .bl (decide (i < j))) (fI fun i j => .bl (decide (i < j))) := run_I0 fun _ _ _ _ => .bl _
instance : D2 M (rI0 fun i j => .bl (decide (i ≤ j))) (fI fun i j => .bl (decide (i ≤ j))) := run_I0 fun _ _ _ _ => .bl _
instance : D2 M (rI0 fun i j => .bl (decide (j < i))) (fI fun i j => .bl (decide (j < i))) := run_I0 fun _ _ _ _ => .bl _
instance : D2 M (rI0 fun i j => .bl (decide (j ≤ i))) (fI fun i j => .bl (decide (j ≤ i))) := run_I0 fun _ _ _ _ => .bl _
instance : D2 M (rI CMul fun i j => .int (i * j)) (fIc CMul fun i j => .int (i * j)) := run_I fun _ _ _ _ => .int _
instance : D2 M (rI (fun _ j => 0 < j) fun i j => .int (i % j)) (fIc (fun _ j => 0 < j) fun i j => .int (i % j)) := run_I fun _ _ _ _ => .int _
instance : D2 M (rI CDiv fun i j => .int (i / j)) (fIc CDiv fun i j => .int (i / j)) := run_I fun _ _ _ _ => .int _
/-! ### == of scalars -/
def fEq (neg : Bool) : D → D → (D → Prop) → Prop := fun dx dy P => match dx, dy with
  | .int i, .int j => P (.bl (neg ^^ decide (i = j)))
  | .str i, .str j => P (.bl (neg ^^ decide (i = j)))
  | .bl i, .bl j => P (.bl (neg ^^ decide (i = j)))
  | .non, .non => P (.bl (!neg))
  | .non, .int _ => P (.bl neg)
  | .int _, .non => P (.bl neg)
  | .non, .str _ => P (.bl neg)
  | .str _, .non => P (.bl neg)
  | _, _ => False
theorem eq_run (neg : Bool) {dx dy : D} (k : Ok pt F H) (r1 : Rb M pt F H x dx) (r2 : Rb M pt F H y dy) (q : fEq neg dx dy P) (w : ∀ d F' H' v, P d → Ext pt F H F' H' → Rp M F' H' v d → Q v H') : scal x y = true ∧ Q (.bl (neg ^^ decide (x = y))) H := by
  unfold fEq at q
  split at q
  · cases rb_int r1
    cases rb_int r2
    exact ⟨rfl, w _ F H _ (by rw [show decide (_ = _) = decide (_ = _) from decide_eq_decide.mpr ⟨fun e => V.int.inj e, fun e => by rw [e]⟩]; exact q) (.refl k) (.bl _)⟩
  · cases rb_str r1
    cases rb_str r2
    exact ⟨rfl, w _ F H _ (by rw [show decide (_ = _) = decide (_ = _) from decide_eq_decide.mpr ⟨fun e => V.str.inj e, fun e => by rw [e]⟩]; exact q) (.refl k) (.bl _)⟩
  · cases rb_bl r1
    cases rb_bl r2
    exact ⟨rfl, w _ F H _ (by rw [show decide (_ = _) = decide (_ = _) from decide_eq_decide.mpr ⟨fun e => V.bl.inj e, fun e => by rw [e]⟩]; exact q) (.refl k) (.bl _)⟩
  · cases rb_non r1
    cases rb_non r2
    exact ⟨rfl, w _ F H _ (by rw [decide_eq_true rfl, Bool.xor_true]; exact q) (.refl k) (.bl _)⟩
  · cases rb_non r1
    cases rb_int r2
    exact ⟨rfl, w _ F H _ (by rw [decide_eq_false (fun z => V.noConfusion z), Bool.xor_false]; exact q) (.refl k) (.bl _)⟩
  · cases rb_int r1
    cases rb_non r2
    exact ⟨rfl, w _ F H _ (by rw [decide_eq_false (fun z => V.noConfusion z), Bool.xor_false]; exact q) (.refl k) (.bl _)⟩
  · cases rb_non r1
    cases rb_str r2
    exact ⟨rfl, w _ F H _ (by rw [decide_eq_false (fun z => V.noConfusion z), Bool.xor_false]; exact q) (.refl k) (.bl _)⟩
  · cases rb_str r1
    cases rb_non r2
    exact ⟨rfl, w _ F H _ (by rw [decide_eq_false (fun z => V.noConfusion z), Bool.xor_false]; exact q) (.refl k) (.bl _)⟩
  · exact q.elim
instance : D2 M rEq (fEq false) := ⟨fun k r1 r2 q w => by
  have := eq_run false k r1 r2 q w
  simp only [Bool.false_xor] at this
  exact this⟩
instance : D2 M rNe (fEq true) := ⟨fun k r1 r2 q w => by
  have := eq_run true k r1 r2 q w
  simp only [Bool.true_xor] at this
  exact this⟩
/-! ### in, of flat items -/
def imm : D → Option V
  | .non => some .non
  | .bl b => some (.bl b)
  | .int i => some (.int i)
  | .str z => some (.str z)
  | _ => none
def immL : List D → Option (List V)
  | [] => some []
  | d :: ds => match imm d, immL ds with | some v, some vs => some (v :: vs) | _, _ => none
theorem imm_eq {d : D} {u : V} (h : imm d = some u) (r : Rb M pt F H v d) : v = u ∧ flatV u = true := by
  cases d with
  | non => cases h; cases r; exact ⟨rfl, rfl⟩
  | bl b => cases h; cases r; exact ⟨rfl, rfl⟩
  | int i => cases h; cases r; exact ⟨rfl, rfl⟩
  | str z => cases h; cases r; exact ⟨rfl, rfl⟩
  | lst _ => cases h
  | tup _ => cases h
  | dic _ => cases h
  | ob _ _ => cases h
theorem imm_rp {d : D} {u : V} (h : imm d = some u) (r : Rp M F H v d) : v = u ∧ flatV u = true := by
  cases r <;> cases h <;> exact ⟨rfl, rfl⟩
theorem immL_eq : ∀ {ds : List D} {vs us : List V}, immL ds = some us → RpA M F H vs ds → vs = us ∧ us.all flatV = true
  | [], _, _, h, .nil => by cases h; exact ⟨rfl, rfl⟩
  | d :: ds, _, _, h, .cons r s => by
    unfold immL at h
    split at h
    · rename_i a b ha hb
      cases h
      obtain ⟨e1, f1⟩ := imm_rp ha r
      obtain ⟨e2, f2⟩ := immL_eq hb s
      exact ⟨by rw [e1, e2], by rw [List.all_cons, f1, f2]; rfl⟩
    · cases h
theorem immL_strs (ns : List Str) : immL (ns.map D.str) = some (ns.map V.str) := by
  induction ns with
  | nil => rfl
  | cons a r ih => rw [List.map_cons]; unfold immL; rw [ih]; rfl
theorem immL_ints (ns : List Int) : immL (ns.map D.int) = some (ns.map V.int) := by
  induction ns with
  | nil => rfl
  | cons a r ih => rw [List.map_cons]; unfold immL; rw [ih]; rfl
def itemsD : D → Option (List D)
  | .lst ds => some ds
  | .tup ds => some ds
  | _ => none
def fIn (neg : Bool) : D → D → (D → Prop) → Prop := fun dx dy P => ∃ u ds us, imm dx = some u ∧ itemsD dy = some ds ∧ immL ds = some us ∧ P (.bl (neg ^^ inV u us))
theorem rb_items {d : D} {ds : List D} (h : itemsD d = some ds) (r : Rb M pt F H v d) : ∃ a vs, v = .ref a ∧ ¬ pt a ∧ (H a = some (.lst vs) ∨ H a = some (.tup vs)) ∧ RpA M F H vs ds := by
  cases d <;> cases h
  · obtain ⟨a, vs, e, n, z, q⟩ := r
    exact ⟨a, vs, e, n, .inl z, q⟩
  · obtain ⟨a, vs, e, n, z, q⟩ := r
    exact ⟨a, vs, e, n, .inr z, q⟩
theorem sq_or {a : Addr} {vs : List V} (h : H a = some (.lst vs) ∨ H a = some (.tup vs)) : SqL K H a vs ∨ SqT K H a vs := h.elim (fun z => .inl (SqL.of z)) fun z => .inr (.inl (.inl z))
instance {neg : Bool} : D2 M (rIn K neg) (fIn neg) := ⟨fun {pt F H x y dx dy P Q} k r1 r2 q w => by
  obtain ⟨u, ds, us, e1, e2, e3, q⟩ := q
  obtain ⟨rfl, f1⟩ := imm_eq e1 r1
  obtain ⟨a, vs, rfl, _, hz, ra⟩ := rb_items e2 r2
  obtain ⟨rfl, f2⟩ := immL_eq e3 ra
  refine ⟨a, vs, rfl, sq_or hz, f1, f2, ?_⟩
  have := w _ F H _ q (.refl k) (.bl _)
  cases neg <;> simpa using this⟩
/-! ### items -/
def fIx : D → D → (D → Prop) → Prop := fun dx dy P => ∃ ds i d, itemsD dx = some ds ∧ dy = .int i ∧ atI ds i = some d ∧ P d
theorem at_rel {vs : List V} {ds : List D} {i : Int} {d : D} (r : RpA M F H vs ds) (h : atI ds i = some d) : ∃ v, atI vs i = some v ∧ Rp M F H v d := by
  unfold atI at h ⊢
  rw [r.length]
  cases e : ixN ds.length i with
  | none => rw [e] at h; cases h
  | some j => rw [e] at h; exact r.get h
def fIxL : D → D → (D → Prop) → Prop := fun dx dy P => ∃ ds i d, dx = .lst ds ∧ dy = .int i ∧ atI ds i = some d ∧ P d
def fIxT : D → D → (D → Prop) → Prop := fun dx dy P => ∃ ds i d, dx = .tup ds ∧ dy = .int i ∧ atI ds i = some d ∧ P d
instance : D2 M (rIxL K) fIxL := ⟨fun {pt F H x y dx dy P Q} k r1 r2 q w => by
  obtain ⟨ds, i, d, rfl, rfl, e3, q⟩ := q
  obtain ⟨a, vs, rfl, _, hz, ra⟩ := r1
  cases rb_int r2
  obtain ⟨v, hv, rv⟩ := at_rel ra e3
  exact ⟨a, vs, i, v, rfl, rfl, SqL.of hz, hv, w _ F H _ q (.refl k) rv⟩⟩
instance : D2 M (rIxT K) fIxT := ⟨fun {pt F H x y dx dy P Q} k r1 r2 q w => by
  obtain ⟨ds, i, d, rfl, rfl, e3, q⟩ := q
  obtain ⟨a, vs, rfl, _, hz, ra⟩ := r1
  cases rb_int r2
  obtain ⟨v, hv, rv⟩ := at_rel ra e3
  exact ⟨a, vs, i, v, rfl, rfl, .inl (.inl hz), hv, w _ F H _ q (.refl k) rv⟩⟩
/-! ### put together -/
def fCat : D → D → (D → Prop) → Prop := fun dx dy P => ∃ a b, dx = .lst a ∧ dy = .lst b ∧ a.length + b.length ≤ 16777216 ∧ P (.lst (a ++ b))
instance : D2N M rCat fCat := ⟨fun {pt F H x y dx dy P Q} k r1 r2 q w => by
  obtain ⟨a, b, rfl, rfl, z, q⟩ := q
  obtain ⟨l, xs, rfl, _, h1, q1⟩ := r1
  obtain ⟨l2, ys, rfl, _, h2, q2⟩ := r2
  refine ⟨l, l2, xs, ys, rfl, rfl, h1, h2, by rw [q1.length, q2.length, sizeLine_eq]; exact z, fun p np => ?_⟩
  have x1 := Ext.put0 (F := F) k (o := .lst (xs ++ ys)) np
  exact w _ F _ p q x1 ⟨p, _, rfl, k.not_pt np, upd_same, (q1.ext k x1).app (q2.ext k x1)⟩ np fun z => k.liv p z np⟩
def fRep : D → D → (D → Prop) → Prop := fun dx dy P => ∃ a i, dx = .lst a ∧ dy = .int i ∧ -1000000 ≤ i ∧ i ≤ 1000000 ∧ a.length * i.toNat ≤ 16777216 ∧ P (.lst (List.replicate i.toNat a).flatten)
theorem rpa_rep {vs : List V} {ds : List D} (r : RpA M F H vs ds) : ∀ n, RpA M F H (List.replicate n vs).flatten (List.replicate n ds).flatten
  | 0 => .nil
  | n + 1 => by
    rw [List.replicate_succ, List.flatten_cons, List.replicate_succ, List.flatten_cons]
    exact r.app (rpa_rep r n)
instance : D2N M rRep fRep := ⟨fun {pt F H x y dx dy P Q} k r1 r2 q w => by
  obtain ⟨a, i, rfl, rfl, i0, i1, z, q⟩ := q
  obtain ⟨l, xs, rfl, _, h1, q1⟩ := r1
  cases rb_int r2
  refine ⟨l, i, xs, rfl, rfl, h1, by omega, by omega, by rw [q1.length, sizeLine_eq]; exact z, fun p np => ?_⟩
  have x1 := Ext.put0 (F := F) k (o := .lst (List.replicate i.toNat xs).flatten) np
  exact w _ F _ p q x1 ⟨p, _, rfl, k.not_pt np, upd_same, rpa_rep (q1.ext k x1) _⟩ np fun z => k.liv p z np⟩
def fAddS : D → D → (D → Prop) → Prop := fun dx dy P => match dx, dy with | .str a, .str b => a.length + b.length ≤ 16777216 ∧ P (.str (a ++ b)) | _, _ => False
instance : D2 M (fun x y H Q => ∃ i j, x = .str i ∧ y = .str j ∧ i.length + j.length ≤ sizeLine ∧ Q (.str (i ++ j)) H) fAddS := ⟨fun {pt F H x y dx dy P Q} k r1 r2 q w => by
  unfold fAddS at q
  split at q
  · cases rb_str r1
    cases rb_str r2
    exact ⟨_, _, rfl, rfl, by rw [sizeLine_eq]; exact q.1, w _ F H _ q.2 (.refl k) (.str _)⟩
  · exact q.elim⟩
/-! ### data that the library knows -/
mutual
inductive PyR : D → PyData → Prop
  | non : PyR .non .none
  | bl (b : Bool) : PyR (.bl b) (.bool b)
  | int (i : Int) : PyR (.int i) (.int i)
  | str (z : Str) : PyR (.str z) (.str z)
  | lst {ds : List D} {ps : List PyData} : PyRA ds ps → PyR (.lst ds) (.list ps)
  | tup {ds : List D} {ps : List PyData} : PyRA ds ps → PyR (.tup ds) (.tuple ps)
inductive PyRA : List D → List PyData → Prop
  | nil : PyRA [] []
  | cons {d : D} {p : PyData} {ds : List D} {ps : List PyData} : PyR d p → PyRA ds ps → PyRA (d :: ds) (p :: ps)
end
mutual
theorem PyR.dr : ∀ {d : D} {p : PyData}, PyR d p → ∀ {v : V}, Rp M F H v d → Dr K H v p
  | _, _, .non, _, .non => .non
  | _, _, .bl _, _, .bl _ => .bl _
  | _, _, .int _, _, .int _ => .int _
  | _, _, .str _, _, .str _ => .str _
  | _, _, .lst h, _, .lst _ e r => .lst (SqL.of e) (PyRA.dr h r)
  | _, _, .tup h, _, .tup _ e r => .tup (.inl (.inl e)) (PyRA.dr h r)
theorem PyRA.dr : ∀ {ds : List D} {ps : List PyData}, PyRA ds ps → ∀ {vs : List V}, RpA M F H vs ds → DrAll K H vs ps
  | _, _, .nil, _, .nil => .nil
  | _, _, .cons h k, _, .cons r s => .cons (PyR.dr h r) (PyRA.dr k s)
end
mutual
theorem PyR.dp : ∀ {d : D} {p : PyData}, PyR d p → ∀ {v : V}, Rp M F H v d → Dp K H v p
  | _, _, .non, _, .non => .non
  | _, _, .bl _, _, .bl _ => .bl _
  | _, _, .int _, _, .int _ => .int _
  | _, _, .str _, _, .str _ => .str _
  | _, _, .lst h, _, .lst _ e r => .lst (SqL.of e) (PyRA.dp h r)
  | _, _, .tup h, _, .tup _ e r => .tup (.inl (.inl e)) (PyRA.dp h r)
theorem PyRA.dp : ∀ {ds : List D} {ps : List PyData}, PyRA ds ps → ∀ {vs : List V}, RpA M F H vs ds → DpAll K H vs ps
  | _, _, .nil, _, .nil => .nil
  | _, _, .cons h k, _, .cons r s => .cons (PyR.dp h r) (PyRA.dp k s)
end
theorem PyR.drb {d : D} {p : PyData} (h : PyR d p) (r : Rb M pt F H v d) : Dr K H v p := by
  cases h with
  | non => cases r; exact .non
  | bl b => cases r; exact .bl b
  | int i => cases r; exact .int i
  | str z => cases r; exact .str z
  | lst h => obtain ⟨a, vs, rfl, _, e, q⟩ := r; exact .lst (SqL.of e) (h.dr q)
  | tup h => obtain ⟨a, vs, rfl, _, e, q⟩ := r; exact .tup (.inl (.inl e)) (h.dr q)
theorem PyR.dpb {d : D} {p : PyData} (h : PyR d p) (r : Rb M pt F H v d) : Dp K H v p := by
  cases h with
  | non => cases r; exact .non
  | bl b => cases r; exact .bl b
  | int i => cases r; exact .int i
  | str z => cases r; exact .str z
  | lst h => obtain ⟨a, vs, rfl, _, e, q⟩ := r; exact .lst (SqL.of e) (h.dp q)
  | tup h => obtain ⟨a, vs, rfl, _, e, q⟩ := r; exact .tup (.inl (.inl e)) (h.dp q)
def fEqD (neg : Bool) : D → D → (D → Prop) → Prop := fun dx dy P => ∃ p q, PyR dx p ∧ PyR dy q ∧ SeqAt.shaped p = true ∧ SeqAt.shaped q = true ∧ P (.bl (neg ^^ PyData.eqv p q))
instance : D2 M (rEqD K) (fEqD false) := ⟨fun {pt F H x y dx dy P Q} k r1 r2 ⟨p, q, h1, h2, s1, s2, z⟩ w => ⟨p, q, h1.dpb r1, h2.dpb r2, s1, s2, by
  have := w _ F H _ z (.refl k) (.bl _)
  rw [Bool.false_xor] at this
  exact this⟩⟩
instance : D2 M (rNeD K) (fEqD true) := ⟨fun {pt F H x y dx dy P Q} k r1 r2 ⟨p, q, h1, h2, s1, s2, z⟩ w => ⟨p, q, h1.dpb r1, h2.dpb r2, s1, s2, by
  have := w _ F H _ z (.refl k) (.bl _)
  rw [Bool.true_xor] at this
  exact this⟩⟩
/-! ### built-in calls -/
def fLen : List D → (D → Prop) → Prop := fun ds P => match ds with | [.lst xs] => P (.int (xs.length : Nat)) | [.tup xs] => P (.int (xs.length : Nat)) | _ => False
instance : D1 M (rLn K) [.bor] fLen := ⟨fun {pt F H vs ds P Q} k r q w => by
  unfold fLen at q
  split at q
  · cases r with
    | bor r s =>
      cases s
      obtain ⟨a, us, rfl, _, e, h⟩ := r
      exact ⟨a, us, rfl, .inl (SqL.of e), w _ F H _ (by rw [h.length]; exact q) (.refl k) (.int _)⟩
  · cases r with
    | bor r s =>
      cases s
      obtain ⟨a, us, rfl, _, e, h⟩ := r
      exact ⟨a, us, rfl, .inr (.inl (.inl e)), w _ F H _ (by rw [h.length]; exact q) (.refl k) (.int _)⟩
  · exact q.elim⟩
def rLsD (K : PySem.W.Frag) : List V → Hp → VK → Prop := fun xs H Q => ∃ p ys, xs = [.ref p] ∧ (SqL K H p ys ∨ SqT K H p ys) ∧ ∀ l, H l = none → Q (.ref l) (upd H l (.lst ys))
theorem call_lsD {X : Cx} : CallR X (.type "list") (rLsD X.K) := call_list_of
def fLs : List D → (D → Prop) → Prop := fun ds P => ∃ d xs, ds = [d] ∧ itemsD d = some xs ∧ P (.lst xs)
instance : D1N M (rLsD K) [.bor] fLs := ⟨fun {pt F H vs ds P Q} k r q w => by
  obtain ⟨d, xs, rfl, hi, q⟩ := q
  cases r with
  | bor r s =>
    cases s
    obtain ⟨a, us, rfl, _, e, h⟩ := rb_items hi r
    refine ⟨a, us, rfl, sq_or e, fun p np => ?_⟩
    have x1 := Ext.put0 (F := F) k (o := .lst us) np
    exact w _ F _ p q x1 ⟨p, _, rfl, k.not_pt np, upd_same, h.ext k x1⟩ np fun z => k.liv p z np⟩
def rTupD (K : PySem.W.Frag) : List V → Hp → VK → Prop := fun xs H Q => ∃ p ys, xs = [.ref p] ∧ ((SqL K H p ys ∧ ∀ l, H l = none → Q (.ref l) (upd H l (.tup ys))) ∨ (SqT K H p ys ∧ Q (.ref p) H))
theorem call_tupD {X : Cx} : CallR X (.type "tuple") (rTupD X.K) := call_tuple_of
def fTupL : List D → (D → Prop) → Prop := fun ds P => ∃ xs, ds = [.lst xs] ∧ P (.tup xs)
instance : D1N M (rTupD K) [.bor] fTupL := ⟨fun {pt F H vs ds P Q} k r q w => by
  obtain ⟨xs, rfl, q⟩ := q
  cases r with
  | bor r s =>
    cases s
    obtain ⟨a, us, rfl, _, e, h⟩ := r
    refine ⟨a, us, rfl, .inl ⟨SqL.of e, fun p np => ?_⟩⟩
    have x1 := Ext.put0 (F := F) k (o := .tup us) np
    exact w _ F _ p q x1 ⟨p, _, rfl, k.not_pt np, upd_same, h.ext k x1⟩ np fun z => k.liv p z np⟩
def oBools : List D → Option (List Bool)
  | [] => some []
  | .bl b :: ds => (oBools ds).map (b :: ·)
  | _ :: _ => none
def oInts : List D → Option (List Int)
  | [] => some []
  | .int b :: ds => (oInts ds).map (b :: ·)
  | _ :: _ => none
def oStrs : List D → Option (List Str)
  | [] => some []
  | .str b :: ds => (oStrs ds).map (b :: ·)
  | _ :: _ => none
theorem ints_map (l : List Int) : oInts (l.map D.int) = some l := by
  induction l with
  | nil => rfl
  | cons a r ih => rw [List.map_cons]; unfold oInts; rw [ih]; rfl
theorem strs_map (l : List Str) : oStrs (l.map D.str) = some l := by
  induction l with
  | nil => rfl
  | cons a r ih => rw [List.map_cons]; unfold oStrs; rw [ih]; rfl
theorem bools_map (l : List Bool) : oBools (l.map D.bl) = some l := by
  induction l with
  | nil => rfl
  | cons a r ih => rw [List.map_cons]; unfold oBools; rw [ih]; rfl
theorem bools_eq : ∀ {ds : List D} {bs : List Bool} {vs : List V}, oBools ds = some bs → RpA M F H vs ds → vs = bs.map V.bl
  | [], _, _, h, .nil => by cases h; rfl
  | d :: ds, _, _, h, .cons r s => by
    cases r with
    | bl b =>
      unfold oBools at h
      cases e : oBools ds with
      | none => rw [e] at h; cases h
      | some u => rw [e] at h; cases h; rw [bools_eq e s]; rfl
    | _ => cases h
theorem ints_eq : ∀ {ds : List D} {bs : List Int} {vs : List V}, oInts ds = some bs → RpA M F H vs ds → vs = bs.map V.int
  | [], _, _, h, .nil => by cases h; rfl
  | d :: ds, _, _, h, .cons r s => by
    cases r with
    | int b =>
      unfold oInts at h
      cases e : oInts ds with
      | none => rw [e] at h; cases h
      | some u => rw [e] at h; cases h; rw [ints_eq e s]; rfl
    | _ => cases h
theorem strs_eq : ∀ {ds : List D} {bs : List Str} {vs : List V}, oStrs ds = some bs → RpA M F H vs ds → vs = bs.map V.str
  | [], _, _, h, .nil => by cases h; rfl
  | d :: ds, _, _, h, .cons r s => by
    cases r with
    | str b =>
      unfold oStrs at h
      cases e : oStrs ds with
      | none => rw [e] at h; cases h
      | some u => rw [e] at h; cases h; rw [strs_eq e s]; rfl
    | _ => cases h
theorem rpa_ints : ∀ l : List Int, RpA M F H (l.map V.int) (l.map D.int)
  | [] => .nil
  | a :: r => .cons (.int a) (rpa_ints r)
theorem rpa_strs : ∀ l : List Str, RpA M F H (l.map V.str) (l.map D.str)
  | [] => .nil
  | a :: r => .cons (.str a) (rpa_strs r)
def fAll : List D → (D → Prop) → Prop := fun ds P => ∃ xs bs, ds = [.lst xs] ∧ oBools xs = some bs ∧ P (.bl (bs.all id))
instance : D1 M (rAll K) [.bor] fAll := ⟨fun {pt F H vs ds P Q} k r q w => by
  obtain ⟨xs, bs, rfl, hb, q⟩ := q
  cases r with
  | bor r s =>
    cases s
    obtain ⟨a, us, rfl, _, e, h⟩ := r
    exact ⟨a, bs, rfl, SqL.of (by rw [e, bools_eq hb h]), w _ F H _ q (.refl k) (.bl _)⟩⟩
def fSum : List D → (D → Prop) → Prop := fun ds P => ∃ xs bs, ds = [.lst xs] ∧ oInts xs = some bs ∧ P (.int bs.sum)
instance : D1 M (rSum K) [.bor] fSum := ⟨fun {pt F H vs ds P Q} k r q w => by
  obtain ⟨xs, bs, rfl, hb, q⟩ := q
  cases r with
  | bor r s =>
    cases s
    obtain ⟨a, us, rfl, _, e, h⟩ := r
    exact ⟨a, bs, rfl, SqL.of (by rw [e, ints_eq hb h]), w _ F H _ q (.refl k) (.int _)⟩⟩
def fSorted : List D → (D → Prop) → Prop := fun ds P => ∃ xs bs, ds = [.lst xs] ∧ oInts xs = some bs ∧ bs.length < 64 ∧ ∀ cs : List Int, cs.Perm bs → cs.Pairwise (· ≤ ·) → P (.lst (cs.map D.int))
instance : D1N M (rSorted K) [.bor] fSorted := ⟨fun {pt F H vs ds P Q} k r q w => by
  obtain ⟨xs, bs, rfl, hb, hl, q⟩ := q
  cases r with
  | bor r s =>
    cases s
    obtain ⟨a, us, rfl, _, e, h⟩ := r
    refine ⟨a, bs, rfl, SqL.of (by rw [e, ints_eq hb h]), hl, fun cs p pm pw np => ?_⟩
    have x1 := Ext.put0 (F := F) k (o := .lst (cs.map V.int)) np
    exact w _ F _ p (q cs pm pw) x1 ⟨p, _, rfl, k.not_pt np, upd_same, rpa_ints cs⟩ np fun z => k.liv p z np⟩
def fSortedS : List D → (D → Prop) → Prop := fun ds P => ∃ xs bs, ds = [.lst xs] ∧ oStrs xs = some bs ∧ bs.length < 64 ∧ ∀ cs : List Str, cs.Perm bs → sortedS cs = true → P (.lst (cs.map D.str))
instance : D1N M (rSortedS K) [.bor] fSortedS := ⟨fun {pt F H vs ds P Q} k r q w => by
  obtain ⟨xs, bs, rfl, hb, hl, q⟩ := q
  cases r with
  | bor r s =>
    cases s
    obtain ⟨a, us, rfl, _, e, h⟩ := r
    refine ⟨a, bs, rfl, SqL.of (by rw [e, strs_eq hb h]), hl, fun cs p pm pw np => ?_⟩
    have x1 := Ext.put0 (F := F) k (o := .lst (cs.map V.str)) np
    exact w _ F _ p (q cs pm pw) x1 ⟨p, _, rfl, k.not_pt np, upd_same, rpa_strs cs⟩ np fun z => k.liv p z np⟩
def fRepr : List D → (D → Prop) → Prop := fun ds P => ∃ d p, ds = [d] ∧ PyR d p ∧ (p.showable = true ∧ p.depth ≤ 60 ∧ p.shown.length ≤ 16777216) ∧ P (.str p.shown)
instance : D1 M (rRepr K) [.bor] fRepr := ⟨fun {pt F H vs ds P Q} k r q w => by
  obtain ⟨d, p, rfl, hp, ⟨s1, s2, s3⟩, q⟩ := q
  cases r with
  | bor r s =>
    cases s
    unfold rRepr
    exact ⟨_, p, rfl, hp.drb r, s1, s2, by rw [sizeLine_eq]; exact s3, w _ F H _ q (.refl k) (.str _)⟩⟩
def rStrI : List V → Hp → VK → Prop := fun xs H Q => ∃ i : Int, xs = [.int i] ∧ i.natAbs.log2 < 1920 ∧ Q (.str (toString i)) H
theorem call_strI {X : Cx} : CallR X (.type "str") rStrI := call_str_int
def fStrI : List D → (D → Prop) → Prop := fun ds P => ∃ i : Int, ds = [.int i] ∧ i.natAbs < 1000 ∧ P (.str (toString i))
instance : D1 M rStrI [.bor] fStrI := ⟨fun {pt F H vs ds P Q} k r q w => by
  obtain ⟨i, rfl, hi, q⟩ := q
  cases r with
  | bor r s =>
    cases s
    cases rb_int r
    exact ⟨i, rfl, Nat.lt_of_le_of_lt (Nat.log2_le_self _) (by omega), w _ F H _ q (.refl k) (.str _)⟩⟩
def fMin : List D → (D → Prop) → Prop := fun ds P => ∃ i j : Int, ds = [.int i, .int j] ∧ P (.int (if j < i then j else i))
instance : D1 M rMin2 [.bor, .bor] fMin := ⟨fun {pt F H vs ds P Q} k r q w => by
  obtain ⟨i, j, rfl, q⟩ := q
  cases r with
  | bor r s =>
    cases s with
    | bor r2 s =>
      cases s
      cases rb_int r
      cases rb_int r2
      exact ⟨i, j, rfl, w _ F H _ q (.refl k) (.int _)⟩⟩
def rMx2 : List V → Hp → VK → Prop := fun xs H Q => ∃ i j, xs = [.int i, .int j] ∧ Q (.int (if j > i then j else i)) H
theorem call_mxD {X : Cx} (hc : X.calm = true) : CallR X (.builtin "max") rMx2 := call_max2 hc
def fMax : List D → (D → Prop) → Prop := fun ds P => ∃ i j : Int, ds = [.int i, .int j] ∧ P (.int (if j > i then j else i))
instance : D1 M rMx2 [.bor, .bor] fMax := ⟨fun {pt F H vs ds P Q} k r q w => by
  obtain ⟨i, j, rfl, q⟩ := q
  cases r with
  | bor r s =>
    cases s with
    | bor r2 s =>
      cases s
      cases rb_int r
      cases rb_int r2
      exact ⟨i, j, rfl, w _ F H _ q (.refl k) (.int _)⟩⟩
def fInt1 : List D → (D → Prop) → Prop := fun ds P => match ds with | [.int i] => P (.int i) | [.bl b] => P (.int (if b then 1 else 0)) | _ => False
instance : D1 M rInt1 [.bor] fInt1 := ⟨fun {pt F H vs ds P Q} k r q w => by
  unfold fInt1 at q
  split at q
  · cases r with
    | bor r s =>
      cases s
      cases rb_int r
      exact .inl ⟨_, rfl, w _ F H _ q (.refl k) (.int _)⟩
  · cases r with
    | bor r s =>
      cases s
      cases rb_bl r
      exact .inr ⟨_, rfl, w _ F H _ q (.refl k) (.int _)⟩
  · exact q.elim⟩
end
end Dl

/-! Data logic, part 4: expressions put together, comprehensions -/
namespace Dl
open PySem PySem.Spec PyProof.Rows L2 Xv Cr
section
variable {M : Cm} {K : PySem.W.Frag} {ta tb tc : TE} {ga gb gc : GE} {i : Nat} {ks : List Kd} {f : List D → (D → Prop) → Prop} {f2 : D → D → (D → Prop) → Prop} {t : TA} {g : GA} {r : R2} {tt tu : TT} {gt gu : GT}
def gOp (f : D → D → (D → Prop) → Prop) (ga gb : GE) : GE := fun ρ P => ga ρ fun x => gb ρ fun y => f x y P
def gFun (f : List D → (D → Prop) → Prop) (g : GA) : GE := fun ρ P => g ρ fun ds => f ds P
instance [h1 : DB M ta ga] [h2 : DB M tb gb] [h : D2 M r f2] : DTc M (tOp r ta tb) (gOp f2 ga gb) := ⟨fun {pt F0 H0 z0 F o σ H ρ P Q} e q k =>
  h1.run e q fun d1 F1 H1 v1 q1 x1 r1 => h2.run (e.step x1) q1 fun d2 F2 H2 v2 q2 x2 r2 => h.run ((e.step x1).step x2).ok (r1.ext (e.step x1).ok x2) r2 q2 fun d F' H' v p x r => k d F' H' v p ((x1.trans x2).trans x) r⟩
instance [h1 : DB M ta ga] [h2 : DB M tb gb] [h : D2N M r f2] : DN M (tOp r ta tb) (gOp f2 ga gb) := ⟨fun {pt F0 H0 z0 F o σ H ρ P Q} e q k =>
  h1.run e q fun d1 F1 H1 v1 q1 x1 r1 => h2.run (e.step x1) q1 fun d2 F2 H2 v2 q2 x2 r2 => h.run ((e.step x1).step x2).ok (r1.ext (e.step x1).ok x2) r2 q2 fun d F' H' v p x r n nf => k d F' H' v p ((x1.trans x2).trans x) r ((x1.trans x2).nn n) nf⟩
instance {rr : List V → Hp → VK → Prop} [h : D1 M rr ks f] [h1 : DA M ks t g] : DTc M (tCB rr t) (gFun f g) := ⟨fun {pt F0 H0 z0 F o σ H ρ P Q} e q k =>
  h1.run e q fun ds F1 H1 vs q1 x1 r1 => h.run (e.step x1).ok r1 q1 fun d F' H' v p x r => k d F' H' v p (x1.trans x) r⟩
instance {rr : List V → Hp → VK → Prop} [h : D1N M rr ks f] [h1 : DA M ks t g] : DN M (tCB rr t) (gFun f g) := ⟨fun {pt F0 H0 z0 F o σ H ρ P Q} e q k =>
  h1.run e q fun ds F1 H1 vs q1 x1 r1 => h.run (e.step x1).ok r1 q1 fun d F' H' v p x r n nf => k d F' H' v p (x1.trans x) r (x1.nn n) nf⟩
instance [h1 : DA M ks t g] : DTc M (tCall (spD M ks f) [] E0 t) (gFun f g) := ⟨fun {pt F0 H0 z0 F o σ H ρ P Q} e q k =>
  h1.run e q fun ds F1 H1 vs q1 x1 r1 => ⟨pt, F1, ds, P, (e.step x1).ok, by rw [List.append_nil]; exact r1, q1, fun d F' H' v p x r => k d F' H' v p (x1.trans x) r⟩⟩
instance [h1 : DA M ks t g] : DN M (tCall (spN M ks f) [] E0 t) (gFun f g) := ⟨fun {pt F0 H0 z0 F o σ H ρ P Q} e q k =>
  h1.run e q fun ds F1 H1 vs q1 x1 r1 => ⟨pt, F1, ds, P, (e.step x1).ok, by rw [List.append_nil]; exact r1, q1, fun d F' H' v p x r n nf => k d F' H' v p (x1.trans x) r (x1.nn n) nf⟩⟩
/-! ### truth -/
def gAnd (ga gb : GE) : GE := fun ρ P => ga ρ fun x => match x with | .bl c => if c = true then gb ρ P else P (.bl false) | _ => False
def gOr (ga gb : GE) : GE := fun ρ P => ga ρ fun x => match x with | .bl c => if c = true then P (.bl true) else gb ρ P | _ => False
def gNot (ga : GE) : GE := fun ρ P => ga ρ fun x => match x with | .bl c => P (.bl (!c)) | _ => False
def gIf (gt : GT) (ga gb : GE) : GE := fun ρ P => gt ρ fun c => if c = true then ga ρ P else gb ρ P
instance [h1 : DB M ta ga] [h2 : DT M tb gb] : DTc M (tAndV ta tb) (gAnd ga gb) := ⟨fun {pt F0 H0 z0 F o σ H ρ P Q} e q k =>
  h1.run e q fun d1 F1 H1 v1 q1 x1 r1 => by
    split at q1
    · rename_i c
      refine ⟨c, rb_bl r1, ?_⟩
      cases c with
      | true => exact h2.run (e.step x1) q1 fun d F' H' v p x r => k d F' H' v p (x1.trans x) r
      | false => exact k _ F1 H1 _ q1 x1 (.bl _)
    · exact q1.elim⟩
instance [h1 : DB M ta ga] [h2 : DT M tb gb] : DTc M (tOrV ta tb) (gOr ga gb) := ⟨fun {pt F0 H0 z0 F o σ H ρ P Q} e q k =>
  h1.run e q fun d1 F1 H1 v1 q1 x1 r1 => by
    split at q1
    · rename_i c
      refine ⟨c, rb_bl r1, ?_⟩
      cases c with
      | false => exact h2.run (e.step x1) q1 fun d F' H' v p x r => k d F' H' v p (x1.trans x) r
      | true => exact k _ F1 H1 _ q1 x1 (.bl _)
    · exact q1.elim⟩
instance [h1 : DB M ta ga] : DTc M (tNotV ta) (gNot ga) := ⟨fun {pt F0 H0 z0 F o σ H ρ P Q} e q k =>
  h1.run e q fun d1 F1 H1 v1 q1 x1 r1 => by
    split at q1
    · exact ⟨_, rb_bl r1, k _ F1 H1 _ q1 x1 (.bl _)⟩
    · exact q1.elim⟩
instance [h1 : DTT M tt gt] [h2 : DT M ta ga] [h3 : DT M tb gb] : DTc M (tIf tt ta tb) (gIf gt ga gb) := ⟨fun {pt F0 H0 z0 F o σ H ρ P Q} e q k =>
  h1.run e q fun c F1 H1 q1 x1 => by
    cases c with
    | true => exact h2.run (e.step x1) q1 fun d F' H' v p x r => k d F' H' v p (x1.trans x) r
    | false => exact h3.run (e.step x1) q1 fun d F' H' v p x r => k d F' H' v p (x1.trans x) r⟩
def gtB (ga : GE) : GT := fun ρ P => ga ρ fun x => match x with | .bl c => P c | _ => False
def gtNot (gt : GT) : GT := fun ρ P => gt ρ fun c => P (!c)
def gtAnd (gt gu : GT) : GT := fun ρ P => gt ρ fun c => if c = true then gu ρ P else P false
def gtOr (gt gu : GT) : GT := fun ρ P => gt ρ fun c => if c = true then P true else gu ρ P
instance [h1 : DB M ta ga] : DTT M (tB ta) (gtB ga) := ⟨fun {pt F0 H0 z0 F o σ H ρ P Q} e q k =>
  h1.run e q fun d1 F1 H1 v1 q1 x1 r1 => by
    split at q1
    · exact ⟨_, rb_bl r1, k _ F1 H1 q1 x1⟩
    · exact q1.elim⟩
instance [h1 : DB M ta ga] : DTT M (tTest ta) (gtB ga) := ⟨fun {pt F0 H0 z0 F o σ H ρ P Q} e q k =>
  h1.run e q fun d1 F1 H1 v1 q1 x1 r1 => by
    split at q1
    · exact ⟨_, rb_bl r1, k _ F1 H1 q1 x1⟩
    · exact q1.elim⟩
instance [h1 : DTT M tt gt] : DTT M (tNot tt) (gtNot gt) := ⟨fun {pt F0 H0 z0 F o σ H ρ P Q} e q k => h1.run e q fun c F1 H1 q1 x1 => k _ F1 H1 q1 x1⟩
instance [h1 : DTT M tt gt] [h2 : DTT M tu gu] : DTT M (tAnd tt tu) (gtAnd gt gu) := ⟨fun {pt F0 H0 z0 F o σ H ρ P Q} e q k => h1.run e q fun c F1 H1 q1 x1 => by
  cases c with
  | true => exact h2.run (e.step x1) q1 fun b F' H' p x => k b F' H' p (x1.trans x)
  | false => exact k _ F1 H1 q1 x1⟩
instance [h1 : DTT M tt gt] [h2 : DTT M tu gu] : DTT M (tOr tt tu) (gtOr gt gu) := ⟨fun {pt F0 H0 z0 F o σ H ρ P Q} e q k => h1.run e q fun c F1 H1 q1 x1 => by
  cases c with
  | false => exact h2.run (e.step x1) q1 fun b F' H' p x => k b F' H' p (x1.trans x)
  | true => exact k _ F1 H1 q1 x1⟩
def gtYes : GT := fun _ P => P true
instance : DTT M tYes gtYes := ⟨fun e q k => k _ _ _ q (.refl e.ok)⟩
/-! ### slices -/
abbrev GO := Rho → (Option Int → Prop) → Prop
class DO (M : Cm) (t : TO) (g : outParam GO) : Prop where
  run : ∀ {pt F0 : Addr → Prop} {H0 : Hp} {z0 : Gh} {F : Addr → Prop} {o : Ow} {σ : L2.St} {H : Hp} {ρ : Rho} {P : Option Int → Prop} {Q : Option Int → Hp → Prop}, En M pt F0 H0 z0 F o σ H ρ → g ρ P → (∀ b F' H', P b → Ext pt F H F' H' → Q b H') → t σ H Q
def goN : GO := fun _ P => P none
def goS (ga : GE) : GO := fun ρ P => ga ρ fun x => match x with | .int i => P (some i) | _ => False
instance : DO M tNoPart goN := ⟨fun e q k => k _ _ _ q (.refl e.ok)⟩
instance [h1 : DB M ta ga] : DO M (tPart ta) (goS ga) := ⟨fun {pt F0 H0 z0 F o σ H ρ P Q} e q k =>
  h1.run e q fun d1 F1 H1 v1 q1 x1 r1 => by
    split at q1
    · exact ⟨_, rb_int r1, k _ F1 H1 q1 x1⟩
    · exact q1.elim⟩
def cutD (xs : List D) (lo hi : Option Int) : List D := (xs.drop (HT.sIx xs.length 0 lo)).take (HT.sIx xs.length xs.length hi - HT.sIx xs.length 0 lo)
def gSl (ga : GE) (gl gh : GO) : GE := fun ρ P => ga ρ fun x => gl ρ fun l => gh ρ fun h => match x with | .lst ds => P (.lst (cutD ds l h)) | _ => False
instance {tl th : TO} {gl gh : GO} [h1 : DB M ta ga] [h2 : DO M tl gl] [h3 : DO M th gh] : DN M (tSl (rSlL K) ta tl th) (gSl ga gl gh) := ⟨fun {pt F0 H0 z0 F o σ H ρ P Q} e q k =>
  h1.run e q fun d1 F1 H1 v1 q1 x1 r1 => h2.run (e.step x1) q1 fun l F2 H2 q2 x2 => h3.run ((e.step x1).step x2) q2 fun h F3 H3 q3 x3 => by
    split at q3
    · obtain ⟨a, vs, rfl, np, hz, rv⟩ := r1.ext (e.step x1).ok (x2.trans x3)
      have ok3 := (((e.step x1).step x2).step x3).ok
      refine ⟨a, vs, rfl, SqL.of hz, fun p n => ?_⟩
      have x4 := Ext.put0 (F := F3) ok3 (o := .lst (cutV vs l h)) n
      have xx := (x1.trans x2).trans x3
      refine k _ F3 _ p q3 (xx.trans x4) ⟨p, _, rfl, ok3.not_pt n, upd_same, ?_⟩ (xx.nn n) fun z => ok3.liv p z n
      generalize upd H3 p (HO.lst (cutV vs l h)) = H4 at x4 ⊢
      unfold cutV cutD
      rw [rv.length]
      exact (rv.ext ok3 x4).drop.take
    · exact q3.elim⟩
/-! ### dicts by key -/
def keyD : D → Option Key
  | .int i => some (.inl i)
  | .str s => some (.inr s)
  | _ => none
def lkD (ps : List (Key × D)) (k : Key) : Option D := (ps.find? fun kv => decide (kv.1 = k)).map (·.2)
theorem lk_rel {pt F : Addr → Prop} {H : Hp} {k : Key} : ∀ {kvs : List (Key × V)} {ps : List (Key × D)}, RpK M F H kvs ps → ∀ {d : D}, lkD ps k = some d → ∃ v, valV kvs k = some v ∧ Rp M F H v d
  | _, _, .nil, _, h => by cases h
  | _, _, .cons (k := k') (v := v) (d := d') (kvs := kvs) (ps := ps) rr s, d, h => by
    unfold lkD at h
    unfold valV
    rw [List.find?_cons] at h ⊢
    by_cases z : k' = k
    · simp only [z, decide_true] at h ⊢
      cases h
      exact ⟨v, rfl, rr⟩
    · simp only [z, decide_false] at h ⊢
      exact lk_rel (pt := pt) s h
theorem rb_key {pt F : Addr → Prop} {H : Hp} {v : V} {d : D} {k : Key} (h : keyD d = some k) (r : Rb M pt F H v d) : v = kV k := by
  cases d <;> cases h
  · cases rb_int r; rfl
  · cases rb_str r; rfl
def gDGet (ga gb : GE) : GE := fun ρ P => ga ρ fun x => gb ρ fun y => ∃ ps k d, x = .dic ps ∧ keyD y = some k ∧ lkD ps k = some d ∧ P d
instance [h1 : DB M ta ga] [h2 : DB M tb gb] : DTc M (tDGet ta tb) (gDGet ga gb) := ⟨fun {pt F0 H0 z0 F o σ H ρ P Q} e q k =>
  h1.run e q fun d1 F1 H1 v1 q1 x1 r1 => h2.run (e.step x1) q1 fun d2 F2 H2 v2 q2 x2 r2 => by
    obtain ⟨ps, ky, d, rfl, e2, e3, q3⟩ := q2
    obtain ⟨a, kvs, rfl, np, hz, rk⟩ := r1.ext (e.step x1).ok x2
    obtain ⟨v, hv, rv⟩ := lk_rel (pt := pt) rk e3
    have := rb_key e2 r2
    subst this
    exact ⟨a, v, rfl, hv ▸ DGet.k hz, k d F2 H2 v q3 (x1.trans x2) rv⟩⟩
/-! ### texts -/
def gJoin (ga gb : GE) : GE := fun ρ P => ga ρ fun x => match x with | .str a => gb ρ fun y => ∃ ds ys, itemsD y = some ds ∧ oStrs ds = some ys ∧ (ys.map (·.length)).sum + ys.length * a.length ≤ 16777216 ∧ P (.str (Txt.join a ys)) | _ => False
instance [h1 : DB M ta ga] [h2 : DB M tb gb] : DTc M (tM1 (fun x xs H Q => ∃ a p, ∃ ys : List Str, x = .str a ∧ xs = [.ref p] ∧ (SqL K H p (ys.map V.str) ∨ SqT K H p (ys.map V.str)) ∧ (ys.map (·.length)).sum + ys.length * a.length ≤ 16777216 ∧ Q (.str (Txt.join a ys)) H) ta tb) (gJoin ga gb) := ⟨fun {pt F0 H0 z0 F o σ H ρ P Q} e q k =>
  h1.run e q fun d1 F1 H1 v1 q1 x1 r1 => by
    split at q1
    · rename_i a
      refine ⟨⟨a, rb_str r1⟩, h2.run (e.step x1) q1 fun d2 F2 H2 v2 q2 x2 r2 => ?_⟩
      obtain ⟨ds, ys, e2, e3, z, q3⟩ := q2
      obtain ⟨b, vs, rfl, np, hz, rv⟩ := rb_items e2 r2
      cases rb_str r1
      have := strs_eq e3 rv
      subst this
      exact ⟨a, b, ys, rfl, rfl, sq_or hz, z, k _ F2 H2 _ q3 (x1.trans x2) (.str _)⟩
    · exact q1.elim⟩
/-! ### methods of lists that only read -/
def fIndex : D → D → (D → Prop) → Prop := fun x y P => ∃ ds us u j, x = .lst ds ∧ immL ds = some us ∧ imm y = some u ∧ (∃ z, us[j]? = some z ∧ eqV z u = true) ∧ (∀ i z, i < j → us[i]? = some z → eqV z u = false) ∧ P (.int (j : Nat))
def gIndex (ga gb : GE) : GE := fun ρ P => ga ρ fun x => match x with | .lst ds => gb ρ fun y => fIndex (.lst ds) y P | _ => False
instance [h1 : DB M ta ga] [h2 : DB M tb gb] : DTc M (tBM K "list" (rIndex K) ta (tCons tb tNil)) (gIndex ga gb) := ⟨fun {pt F0 H0 z0 F o σ H ρ P Q} e q k =>
  h1.run e q fun d1 F1 H1 v1 q1 x1 r1 => by
    split at q1
    · rename_i ds
      obtain ⟨a, vs, rfl, np, hz, rv⟩ := id r1
      refine ⟨.inl ⟨rfl, _, SqL.of hz⟩, h2.run (e.step x1) q1 fun d2 F2 H2 v2 q2 x2 r2 => ?_⟩
      obtain ⟨ds', us, u, j, z, e2, e3, ⟨w, hw, hq⟩, hn, q3⟩ := q2
      cases z
      obtain ⟨a', vs', z', _, hz2, rv2⟩ := r1.ext (e.step x1).ok x2
      cases z'
      obtain ⟨rfl, fl⟩ := immL_eq e2 rv2
      obtain ⟨rfl, fl2⟩ := imm_eq e3 r2
      exact ⟨a, _, _, j, w, rfl, rfl, SqL.of hz2, fl2, fl, hw, hq, hn, k _ F2 H2 _ q3 (x1.trans x2) (.int _)⟩
    · exact q1.elim⟩
/-! ### objects -/
/-- a field of the class c that is to be read -/
def FldOk (M : Cm) (K : PySem.W.Frag) (c i : Nat) (f : Str) : Prop := Cls K (M.ca c) ∧ NoAttr K (M.ca c) f ∧ (M.fn c)[i]? = some f ∧ ∀ j, j < i → (M.fn c)[j]? ≠ some f
theorem zip_lookup {ns : List Str} {f : Str} : ∀ {i : Nat} {vs : List V} {v : V}, ns[i]? = some f → (∀ j, j < i → ns[j]? ≠ some f) → vs[i]? = some v → (ns.zip vs).lookup f = some v := by
  induction ns with
  | nil => intro i vs v h; simp at h
  | cons a r ih =>
    intro i vs v h n hv
    cases vs with
    | nil => simp at hv
    | cons b s =>
      cases i with
      | zero =>
        simp only [List.getElem?_cons_zero, Option.some.injEq] at h hv
        subst h hv
        simp [List.lookup]
      | succ i =>
        have na : (f == a) = false := beq_eq_false_iff_ne.mpr fun z => n 0 (by omega) (by rw [z]; rfl)
        rw [List.zip_cons_cons, List.lookup_cons, na]
        exact ih h (fun j hj z => n (j + 1) (by omega) z) hv
theorem zip_none {ns : List Str} {f : Str} : ∀ {vs : List V}, f ∉ ns → (ns.zip vs).lookup f = none := by
  induction ns with
  | nil => intro vs _; rfl
  | cons a r ih =>
    intro vs n
    cases vs with
    | nil => rfl
    | cons b s =>
      rw [List.zip_cons_cons, List.lookup_cons, show (f == a) = false from beq_eq_false_iff_ne.mpr fun z => n (z ▸ List.mem_cons_self)]
      exact ih fun z => n (List.mem_cons_of_mem _ z)
def gFld (M : Cm) (K : PySem.W.Frag) (f : Str) (ga : GE) : GE := fun ρ P => ga ρ fun x => ∃ c ds i d, x = .ob c ds ∧ FldOk M K c i f ∧ ds[i]? = some d ∧ P d
instance {f : Str} [h1 : DB M ta ga] : DTc M (tFld K ta f) (gFld M K f ga) := ⟨fun {pt F0 H0 z0 F o σ H ρ P Q} e q k =>
  h1.run e q fun d1 F1 H1 v1 q1 x1 r1 => by
    obtain ⟨c, ds, i, d, rfl, ⟨z1, z2, z3, z4⟩, hd, q2⟩ := q1
    obtain ⟨a, dx, vs, rfl, np, hz, hl, rv⟩ := r1
    obtain ⟨v, hv, r⟩ := rv.get hd
    exact ⟨a, _, dx, _, v, rfl, hz, z1, z2, zip_lookup z3 z4 hv, k d F1 H1 v q2 x1 r⟩⟩
/-- a property, a method: the object first -/
def gProp (M : Cm) (C : Addr) (f : List D → (D → Prop) → Prop) (ga : GE) : GE := fun ρ P => ga ρ fun x => ∃ c ds, x = .ob c ds ∧ M.ca c = C ∧ f [x] P
instance {C : Addr} [h1 : DB M ta ga] : DTc M (tProp C (spD M [.bor] f) [] E0 ta) (gProp M C f ga) := ⟨fun {pt F0 H0 z0 F o σ H ρ P Q} e q k =>
  h1.run e q fun d1 F1 H1 v1 q1 x1 r1 => by
    obtain ⟨c, ds, rfl, rfl, q2⟩ := q1
    obtain ⟨a, dx, vs, rfl, np, hz, hl, rv⟩ := id r1
    exact ⟨a, dx, _, rfl, hz, pt, F1, _, P, (e.step x1).ok, .bor r1 .nil, q2, fun d F' H' v p x r => k d F' H' v p (x1.trans x) r⟩⟩
instance {C : Addr} [h1 : DB M ta ga] : DN M (tProp C (spN M [.bor] f) [] E0 ta) (gProp M C f ga) := ⟨fun {pt F0 H0 z0 F o σ H ρ P Q} e q k =>
  h1.run e q fun d1 F1 H1 v1 q1 x1 r1 => by
    obtain ⟨c, ds, rfl, rfl, q2⟩ := q1
    obtain ⟨a, dx, vs, rfl, np, hz, hl, rv⟩ := id r1
    exact ⟨a, dx, _, rfl, hz, pt, F1, _, P, (e.step x1).ok, .bor r1 .nil, q2, fun d F' H' v p x r n nf => k d F' H' v p (x1.trans x) r (x1.nn n) nf⟩⟩
def gMeth (M : Cm) (C : Addr) (m : Str) (f : List D → (D → Prop) → Prop) (ga : GE) (g : GA) : GE := fun ρ P => ga ρ fun x => ∃ c ds, x = .ob c ds ∧ M.ca c = C ∧ m ∉ M.fn c ∧ g ρ fun es => f (x :: es) P
instance {C : Addr} {m : Str} {E : XK} [h1 : DB M ta ga] [h2 : DA M ks t g] : DTc M (tMeth C m (spD M (.bor :: ks) f) [] E ta t) (gMeth M C m f ga g) := ⟨fun {pt F0 H0 z0 F o σ H ρ P Q} e q k =>
  h1.run e q fun d1 F1 H1 v1 q1 x1 r1 => by
    obtain ⟨c, ds, rfl, rfl, nm, q2⟩ := q1
    obtain ⟨a, dx, vs, rfl, np, hz, hl, rv⟩ := id r1
    refine ⟨a, dx, _, rfl, hz, zip_none nm, h2.run (e.step x1) q2 fun es F2 H2 us q3 x2 r2 => ?_⟩
    exact ⟨pt, F2, _, P, ((e.step x1).step x2).ok, .bor (r1.ext (e.step x1).ok x2) (by rw [List.append_nil]; exact r2), q3, fun d F' H' v p x r => k d F' H' v p ((x1.trans x2).trans x) r⟩⟩
instance {C : Addr} {m : Str} {E : XK} [h1 : DB M ta ga] [h2 : DA M ks t g] : DN M (tMeth C m (spN M (.bor :: ks) f) [] E ta t) (gMeth M C m f ga g) := ⟨fun {pt F0 H0 z0 F o σ H ρ P Q} e q k =>
  h1.run e q fun d1 F1 H1 v1 q1 x1 r1 => by
    obtain ⟨c, ds, rfl, rfl, nm, q2⟩ := q1
    obtain ⟨a, dx, vs, rfl, np, hz, hl, rv⟩ := id r1
    refine ⟨a, dx, _, rfl, hz, zip_none nm, h2.run (e.step x1) q2 fun es F2 H2 us q3 x2 r2 => ?_⟩
    exact ⟨pt, F2, _, P, ((e.step x1).step x2).ok, .bor (r1.ext (e.step x1).ok x2) (by rw [List.append_nil]; exact r2), q3, fun d F' H' v p x r n nf => k d F' H' v p ((x1.trans x2).trans x) r ((x1.trans x2).nn n) nf⟩⟩
/-- .. with one keyword, with two (the second parameter first) -/
def gMethK (M : Cm) (C : Addr) (m : Str) (rv : Bool) (f : List D → (D → Prop) → Prop) (ga : GE) (g : GA) : GE := fun ρ P => ga ρ fun x => ∃ c ds, x = .ob c ds ∧ M.ca c = C ∧ m ∉ M.fn c ∧ g ρ fun es => f (x :: if rv then es.reverse else es) P
instance {C : Addr} {m : Str} {k1 : Kd} [h1 : DB M ta ga] [h2 : DA M [k1] t g] : DTc M (tMethK C m 1 (spD M [.bor, k1] f) (fun vs zs => vs ++ zs) ta t) (gMethK M C m false f ga g) := ⟨fun {pt F0 H0 z0 F o σ H ρ P Q} e q k =>
  h1.run e q fun d1 F1 H1 v1 q1 x1 r1 => by
    obtain ⟨c, ds, rfl, rfl, nm, q2⟩ := q1
    obtain ⟨a, dx, vs, rfl, np, hz, hl, rv⟩ := id r1
    refine ⟨a, dx, _, rfl, hz, zip_none nm, h2.run (e.step x1) q2 fun es F2 H2 us q3 x2 r2 => ?_⟩
    exact ⟨r2.length, pt, F2, _, P, ((e.step x1).step x2).ok, .bor (r1.ext (e.step x1).ok x2) r2, q3, fun d F' H' v p x r => k d F' H' v p ((x1.trans x2).trans x) r⟩⟩
/-- __init__: what the new object is then -/
def spI (M : Cm) (c : Nat) (ks : List Kd) (f : List D → (D → Prop) → Prop) : Sp := fun vs H Q _ => ∃ (pt F : Addr → Prop) (H1 : Hp) (x dx : Addr) (us : List V) (ds : List D) (P : D → Prop), vs = .ref x :: us ∧ Ok pt F H1 ∧ H1 x = none ∧ H1 dx = none ∧ dx ≠ x ∧ H = upd (upd H1 dx (.own x)) x (.ins (M.ca c) dx []) ∧ RA M pt F H1 ks us ds ∧ f ds P ∧
  ∀ d F' H', P d → Ext pt F H1 F' H' → Rb M pt F' H' (.ref x) d → ¬ F' x → Q .non H'
def gMake (c : Nat) (f : List D → (D → Prop) → Prop) (g : GA) : GE := fun ρ P => g ρ fun ds => f ds P
theorem make_run {c : Nat} {E : XK} (h1 : DA M ks t g) : DN M (tMake (M.ca c) (spI M c ks f) [] E t) (gMake c f g) := ⟨fun {pt F0 H0 z0 F o σ H ρ P Q} e q k =>
  h1.run e q fun ds F1 H1 vs q1 x1 r1 => fun x dx nx nd ne => ⟨pt, F1, H1, x, dx, vs, ds, P, by rw [List.append_nil], (e.step x1).ok, nx, nd, ne, rfl, r1, q1, fun d F' H' p x2 r nf => ⟨rfl, k d F' H' x p (x1.trans x2) r (x1.nn nx) nf⟩⟩⟩
end
end Dl

/-! Data logic, part 5: targets, what is walked, comprehensions, statements -/
namespace Dl
open PySem PySem.Spec PyProof.Rows L2 Xv Cr
abbrev BD := D → Rho → (Rho → Prop) → Prop
class DG (M : Cm) (g : TG) (ws : outParam (List Nat)) (bd : outParam BD) where
  run : ∀ {pt F0 : Addr → Prop} {H0 : Hp} {z0 : Gh} {F : Addr → Prop} {o : Ow} {σ : L2.St} {H : Hp} {ρ : Rho} {x : D} {v : V} {P : Rho → Prop} {Q : L2.St → Hp → Prop}, En M pt F0 H0 z0 F o σ H ρ → bd x ρ P → Rp M F H v x → (∀ σ' ρ', P ρ' → En M pt F0 H0 z0 F o σ' H ρ' → σ'.length = σ.length → (∀ j, j ∉ ws → σ'[j]? = σ[j]?) → Q σ' H) → g v σ H Q
class DGs (M : Cm) (g : TGs) (ws : outParam (List Nat)) (bd : outParam (List D → Rho → (Rho → Prop) → Prop)) where
  run : ∀ {pt F0 : Addr → Prop} {H0 : Hp} {z0 : Gh} {F : Addr → Prop} {o : Ow} {σ : L2.St} {H : Hp} {ρ : Rho} {x : List D} {v : List V} {P : Rho → Prop} {Q : L2.St → Hp → Prop}, En M pt F0 H0 z0 F o σ H ρ → bd x ρ P → RpA M F H v x → (∀ σ' ρ', P ρ' → En M pt F0 H0 z0 F o σ' H ρ' → σ'.length = σ.length → (∀ j, j ∉ ws → σ'[j]? = σ[j]?) → Q σ' H) → g v σ H Q
def bName (i : Nat) : BD := fun x ρ P => P (ρ.set i (.d x))
def bNil : List D → Rho → (Rho → Prop) → Prop := fun xs ρ P => match xs with | [] => P ρ | _ => False
def bCons (b : BD) (bs : List D → Rho → (Rho → Prop) → Prop) : List D → Rho → (Rho → Prop) → Prop := fun xs ρ P => match xs with | x :: r => b x ρ fun ρ' => bs r ρ' P | [] => False
def bTup (n : Nat) (bs : List D → Rho → (Rho → Prop) → Prop) : BD := fun x ρ P => match x with | .tup ds => ds.length = n ∧ bs ds ρ P | _ => False
section
variable {M : Cm} {K : PySem.W.Frag} {g : TG} {gs : TGs} {ws us : List Nat} {b : BD} {bs : List D → Rho → (Rho → Prop) → Prop} {n i : Nat}
instance : DG M (gName i) [i] (bName i) := ⟨fun {pt F0 H0 z0 F o σ H ρ x v P Q} e q r k => k _ _ q (e.set r) (List.length_set ..) fun j hj => by
  rw [List.getElem?_set, if_neg (fun (z : i = j) => hj (z ▸ List.mem_singleton_self _))]⟩
instance : DGs M L2.gNil [] bNil := ⟨fun {pt F0 H0 z0 F o σ H ρ x v P Q} e q r k => by
  cases r with
  | nil => exact ⟨rfl, k _ _ q e rfl fun _ _ => rfl⟩
  | cons _ _ => exact q.elim⟩
instance [h1 : DG M g ws b] [h2 : DGs M gs us bs] : DGs M (L2.gCons g gs) (ws ++ us) (bCons b bs) := ⟨fun {pt F0 H0 z0 F o σ H ρ x v P Q} e q r k => by
  cases r with
  | nil => exact q.elim
  | cons r s => exact ⟨_, _, rfl, h1.run e q r fun σ1 ρ1 q1 e1 l1 w1 => h2.run e1 q1 s fun σ2 ρ2 q2 e2 l2 w2 => k _ _ q2 e2 (l2.trans l1) fun j hj => (w2 j fun z => hj (List.mem_append_right _ z)).trans (w1 j fun z => hj (List.mem_append_left _ z))⟩⟩
instance [h : DGs M gs ws bs] : DG M (L2.gTup K n gs) ws (bTup n bs) := ⟨fun {pt F0 H0 z0 F o σ H ρ x v P Q} e q r k => by
  cases r with
  | tup f hz rv => exact ⟨_, _, rfl, .inl (.inl hz), by rw [rv.length]; exact q.1, h.run e q.2 rv k⟩
  | _ => exact q.elim⟩
end
/-! ### what is walked -/
structure ItD (M : Cm) (pt F : Addr → Prop) (H : Hp) (J : It) (ds : List D) : Prop where
  ex : ∃ (G : Hp → Prop) (Y : Nat → Hp → V → Hp → Prop), Walk J ds.length G Y ∧ (∀ H2, (∀ b o, F b → H b = some o → H2 b = some o) → G H2) ∧
    ∀ i F2 H2 x H3, i < ds.length → Ok pt F2 H2 → (∀ b, F b → F2 b) → (∀ b o, F b → H b = some o → H2 b = some o) → Y i H2 x H3 → ∃ d F3, ds[i]? = some d ∧ Ext pt F2 H2 F3 H3 ∧ Rp M F3 H3 x d
class DI (M : Cm) (wi : TI) (gi : outParam GA) : Prop where
  run : ∀ {pt F0 : Addr → Prop} {H0 : Hp} {z0 : Gh} {F : Addr → Prop} {o : Ow} {σ : L2.St} {H : Hp} {ρ : Rho} {P : List D → Prop} {R : It → Hp → Prop}, En M pt F0 H0 z0 F o σ H ρ → gi ρ P → (∀ ds F' H' J, P ds → Ext pt F H F' H' → ItD M pt F' H' J ds → R J H') → wi σ H R
section
variable {M : Cm} {K : PySem.W.Frag} {ta tb : TE} {ga gb : GE} {t : TA} {g : GA} {pt F : Addr → Prop} {H : Hp}
theorem it_list {a : Addr} {vs : List V} {ds : List D} (f : F a) (e : H a = some (.lst vs)) (r : RpA M F H vs ds) : ItD M pt F H (Itl K a) ds := ⟨_, _, by rw [← r.length]; exact walk_list, fun H2 s => SqL.of (s a _ f e), fun i F2 H2 x H3 hi k sub s y => by
  obtain ⟨rfl, hx⟩ := y
  obtain ⟨d, hd, rd⟩ := r.at_ hx
  exact ⟨d, F2, hd, .refl k, rd.up fun b o fb eb => ⟨sub b fb, s b o fb eb⟩⟩⟩
theorem it_tup {a : Addr} {vs : List V} {ds : List D} (f : F a) (e : H a = some (.tup vs)) (r : RpA M F H vs ds) : ItD M pt F H (Itt K a) ds := ⟨_, _, by rw [← r.length]; exact walk_tup, fun H2 s => show SqT K H2 a vs from Or.inl (Or.inl (s a _ f e)), fun i F2 H2 x H3 hi k sub s y => by
  obtain ⟨rfl, hx⟩ := y
  obtain ⟨d, hd, rd⟩ := r.at_ hx
  exact ⟨d, F2, hd, .refl k, rd.up fun b o fb eb => ⟨sub b fb, s b o fb eb⟩⟩⟩
def giL (ga : GE) : GA := fun ρ P => ga ρ fun x => match x with | .lst ds => P ds | _ => False
def giT (ga : GE) : GA := fun ρ P => ga ρ fun x => match x with | .tup ds => P ds | _ => False
def giS (ga : GE) : GA := fun ρ P => ga ρ fun x => match x with | .lst ds => P ds | .tup ds => P ds | _ => False
instance [h : DT M ta ga] : DI M (iList K ta) (giL ga) := ⟨fun {pt F0 H0 z0 F o σ H ρ P R} e q k => h.run e q fun d F' H' v p x r => by
  cases r with
  | lst f hz rv => exact ⟨_, rfl, ⟨_, SqL.of hz⟩, k _ F' H' _ p x (it_list f hz rv)⟩
  | _ => exact p.elim⟩
instance [h : DT M ta ga] : DI M (iTup K ta) (giT ga) := ⟨fun {pt F0 H0 z0 F o σ H ρ P R} e q k => h.run e q fun d F' H' v p x r => by
  cases r with
  | tup f hz rv => exact ⟨_, rfl, ⟨_, .inl (.inl hz)⟩, k _ F' H' _ p x (it_tup f hz rv)⟩
  | _ => exact p.elim⟩
instance [h : DT M ta ga] : DI M (iSeq K ta) (giS ga) := ⟨fun {pt F0 H0 z0 F o σ H ρ P R} e q k => h.run e q fun d F' H' v p x r => by
  cases r with
  | lst f hz rv => exact ⟨_, _, rfl, .inl ⟨SqL.of hz, k _ F' H' _ p x (it_list f hz rv)⟩⟩
  | tup f hz rv => exact ⟨_, _, rfl, .inr ⟨.inl (.inl hz), k _ F' H' _ p x (it_tup f hz rv)⟩⟩
  | _ => exact p.elim⟩
def rgD (lo : Int) (n : Nat) : List D := (List.range n).map fun (i : Nat) => D.int (lo + i)
theorem it_rg {lo : Int} {n : Nat} : ItD M pt F H (Itr lo n) (rgD lo n) := ⟨fun _ => True, YFn fun i => .int (lo + i), by unfold rgD; rw [List.length_map, List.length_range]; exact walk_range, fun _ _ => trivial, fun i F2 H2 x H3 hi k sub s y => by
  obtain ⟨rfl, rfl⟩ := y
  unfold rgD at hi ⊢
  rw [List.length_map, List.length_range] at hi
  exact ⟨.int (lo + i), F2, by rw [List.getElem?_map, List.getElem?_range hi]; rfl, .refl k, .int _⟩⟩
def giR1 (g : GA) : GA := fun ρ P => g ρ fun ds => match ds with | [.int j] => (-1000000000 ≤ j ∧ j ≤ 1000000000) ∧ P (rgD 0 j.toNat) | _ => False
def giR2 (g : GA) : GA := fun ρ P => g ρ fun ds => match ds with | [.int i, .int j] => (-1000000000 ≤ i ∧ i ≤ 1000000000 ∧ -1000000000 ≤ j ∧ j ≤ 1000000000) ∧ P (rgD i (j - i).toNat) | _ => False
instance [h : DL M t g] : DI M (iRng1 t) (giR1 g) := ⟨fun {pt F0 H0 z0 F o σ H ρ P R} e q k => h.run e q fun ds F' H' vs p x r => by
  split at p
  · cases r with
    | cons r s =>
      cases s
      cases r
      exact ⟨_, rfl, by omega, by omega, k _ F' H' _ p.2 x it_rg⟩
  · exact p.elim⟩
instance [h : DL M t g] : DI M (iRng2 t) (giR2 g) := ⟨fun {pt F0 H0 z0 F o σ H ρ P R} e q k => h.run e q fun ds F' H' vs p x r => by
  split at p
  · cases r with
    | cons r s =>
      cases s with
      | cons r2 s =>
        cases s
        cases r
        cases r2
        exact ⟨_, _, rfl, ⟨by omega, by omega, by omega, by omega⟩, k _ F' H' _ p.2 x it_rg⟩
  · exact p.elim⟩
/-- numbered items -/
def enD (ds : List D) : List D := (List.range ds.length).map fun (i : Nat) => D.tup [.int (i : Nat), ds.getD i .non]
theorem getD_at {ds : List D} {i : Nat} {d : D} (h : ds[i]? = some d) : ds.getD i .non = d := by
  rw [List.getD_eq_getElem?_getD, h]; rfl
theorem enD_at {ds : List D} {i : Nat} {d : D} (h : ds[i]? = some d) : (enD ds)[i]? = some (.tup [.int (i : Nat), d]) := by
  unfold enD
  have hi := (List.getElem?_eq_some_iff.mp h).1
  rw [List.getElem?_map, List.getElem?_range hi]
  show some (D.tup [.int (i : Nat), ds.getD i .non]) = _
  rw [getD_at h]
theorem enD_len (ds : List D) : (enD ds).length = ds.length := by unfold enD; rw [List.length_map, List.length_range]
theorem pair_new {F2 : Addr → Prop} {H2 : Hp} {T : Addr} {x y : V} {d e : D} (k : Ok pt F2 H2) (nT : H2 T = none) (rx : Rp M F2 H2 x d) (ry : Rp M F2 H2 y e) : ∃ F3, Ext pt F2 H2 F3 (upd H2 T (.tup [x, y])) ∧ Rp M F3 (upd H2 T (.tup [x, y])) (.ref T) (.tup [d, e]) := by
  have x1 := Ext.put (F := F2) k (o := .tup [x, y]) nT
  exact ⟨_, x1, .tup (.inr rfl) upd_same (.cons (rx.ext k x1) (.cons (ry.ext k x1) .nil))⟩
theorem walk_enumT {a : Addr} {xs : List V} : Walk (IteT K a) xs.length (fun H => SqT K H a xs) (YPair (fun i => some (.int (i : Nat))) (fun i => xs[i]?)) := by
  refine ⟨fun i _ hi q => ⟨xs, xs[i], q, by simp [hi]⟩, fun _ q => ⟨xs, q, Nat.le_refl _⟩, fun i H v H' _ q y => ?_⟩
  obtain ⟨T, x, h1, h2, h3, h4⟩ := y
  exact ⟨T, .int (i : Nat), x, h1, h2, h3, rfl, h4 xs q⟩
theorem en_item {vs : List V} {ds : List D} {i : Nat} {F2 : Addr → Prop} {H2 H3 : Hp} {x : V} (r : RpA M F H vs ds) (k : Ok pt F2 H2) (sub : ∀ b, F b → F2 b) (s : ∀ b o, F b → H b = some o → H2 b = some o)
    (y : YPair (fun i => some (.int (i : Nat))) (fun i => vs[i]?) i H2 x H3) : ∃ d F3, (enD ds)[i]? = some d ∧ Ext pt F2 H2 F3 H3 ∧ Rp M F3 H3 x d := by
  obtain ⟨T, a, c, rfl, nT, rfl, ea, ec⟩ := y
  cases ea
  obtain ⟨d, hd, rd⟩ := r.at_ ec
  have rd2 : Rp M F2 H2 c d := rd.up fun b o fb eb => ⟨sub b fb, s b o fb eb⟩
  obtain ⟨F3, x3, r3⟩ := pair_new k nT (.int (i : Nat)) rd2
  exact ⟨_, F3, enD_at hd, x3, r3⟩
def giE (g : GA) : GA := fun ρ P => g ρ fun ds => match ds with | [.lst xs] => P (enD xs) | [.tup xs] => P (enD xs) | _ => False
instance [h : DL M t g] : DI M (iEnum2 K t) (giE g) := ⟨fun {pt F0 H0 z0 F o σ H ρ P R} e q k => h.run e q fun ds F' H' vs p x r => by
  split at p
  · cases r with
    | cons r s =>
      cases s
      cases r with
      | lst f hz rv => exact ⟨_, _, rfl, .inl ⟨SqL.of hz, k _ F' H' _ p x ⟨_, _, by rw [enD_len, ← rv.length]; exact walk_enum, fun H2 s => SqL.of (s _ _ f hz), fun i F2 H2 x H3 _ kk sub s y => en_item rv kk sub s y⟩⟩⟩
  · cases r with
    | cons r s =>
      cases s
      cases r with
      | tup f hz rv => exact ⟨_, _, rfl, .inr ⟨.inl (.inl hz), k _ F' H' _ p x ⟨_, _, by rw [enD_len, ← rv.length]; exact walk_enumT, fun H2 s => Or.inl (Or.inl (s _ _ f hz)), fun i F2 H2 x H3 _ kk sub s y => en_item rv kk sub s y⟩⟩⟩
  · exact p.elim⟩
/-- two lists side by side -/
def zipD : List D → List D → List D
  | a :: r, b :: s => .tup [a, b] :: zipD r s
  | _, _ => []
theorem zipD_len : ∀ (a b : List D), (zipD a b).length = min a.length b.length
  | [], _ => by simp [zipD]
  | _ :: _, [] => by simp [zipD]
  | a :: r, b :: s => by
    show (zipD r s).length + 1 = _
    rw [zipD_len r s, List.length_cons, List.length_cons]
    omega
theorem zipD_at : ∀ {a b : List D} {i : Nat} {x y : D}, a[i]? = some x → b[i]? = some y → (zipD a b)[i]? = some (.tup [x, y])
  | [], _, _, _, _, h, _ => by simp at h
  | _ :: _, [], _, _, _, _, h => by simp at h
  | a :: r, b :: s, 0, _, _, h, k => by
    simp only [List.getElem?_cons_zero, Option.some.injEq] at h k
    subst h k
    rfl
  | a :: r, b :: s, i + 1, _, _, h, k => by
    simp only [List.getElem?_cons_succ] at h k
    show (zipD r s)[i]? = _
    exact zipD_at h k
def giZ (g : GA) : GA := fun ρ P => g ρ fun ds => match ds with | [.lst xs, .lst ys] => P (zipD xs ys) | _ => False
instance [h : DL M t g] : DI M (iZip K t) (giZ g) := ⟨fun {pt F0 H0 z0 F o σ H ρ P R} e q k => h.run e q fun ds F' H' vs p x r => by
  split at p
  · cases r with
    | cons r s =>
      cases s with
      | cons r2 s =>
        cases s
        cases r with
        | lst f hz rv =>
          cases r2 with
          | lst f2 hz2 rv2 =>
            refine ⟨_, _, _, _, rfl, SqL.of hz, SqL.of hz2, k _ F' H' _ p x ⟨_, _, walk_zip (by rw [zipD_len, rv.length, rv2.length]), fun H2 s => ⟨SqL.of (s _ _ f hz), SqL.of (s _ _ f2 hz2)⟩, fun i F2 H2 x H3 _ kk sub s y => ?_⟩⟩
            obtain ⟨T, a, c, rfl, nT, rfl, ea, ec⟩ := y
            obtain ⟨d, hd, rd⟩ := rv.at_ ea
            obtain ⟨d2, hd2, rd2⟩ := rv2.at_ ec
            obtain ⟨F3, x3, r3⟩ := pair_new (M := M) kk nT (rd.up fun b o fb eb => ⟨sub b fb, s b o fb eb⟩) (rd2.up fun b o fb eb => ⟨sub b fb, s b o fb eb⟩)
            exact ⟨_, F3, zipD_at hd hd2, x3, r3⟩
  · exact p.elim⟩
end
/-! ### comprehensions -/
def wipeR (ρ : Rho) : List Nat → Rho
  | [] => ρ
  | v :: vs => (wipeR ρ vs).set v .no
section
variable {M : Cm} {K : PySem.W.Frag} {pt F0 : Addr → Prop} {H0 : Hp} {z0 : Gh} {F : Addr → Prop} {o : Ow} {σ : L2.St} {H : Hp} {ρ : Rho}
theorem En.wipe (e : En M pt F0 H0 z0 F o σ H ρ) : ∀ vs : List Nat, En M pt F0 H0 z0 F o (L2.wipe σ vs) H (wipeR ρ vs)
  | [] => e
  | v :: vs => (En.wipe e vs).forget
theorem wipe_at (σ : L2.St) (j : Nat) : ∀ vs : List Nat, j ∉ vs → (L2.wipe σ vs)[j]? = σ[j]?
  | [], _ => rfl
  | v :: vs, h => by
    unfold L2.wipe
    rw [List.getElem?_set, if_neg (fun (z : v = j) => h (z ▸ List.mem_cons_self))]
    exact wipe_at σ j vs fun z => h (List.mem_cons_of_mem _ z)
theorem wipe_in (σ : L2.St) (j : Nat) (hj : j < σ.length) : ∀ vs : List Nat, j ∈ vs → (L2.wipe σ vs)[j]? = some none
  | v :: vs, h => by
    unfold L2.wipe
    rw [List.getElem?_set]
    by_cases z : v = j
    · rw [if_pos z, if_pos (by rw [z, wipe_length]; exact hj)]
    · rw [if_neg z]
      exact wipe_in σ j hj vs ((List.mem_cons.mp h).resolve_left (Ne.symm z))
theorem wipe_eq {σ σ' : L2.St} {ws vs : List Nat} (hl : σ'.length = σ.length) (h : ∀ j, j ∉ ws → σ'[j]? = (L2.wipe σ vs)[j]?) (s : (ws.all fun j => vs.contains j) = true) : L2.wipe σ' vs = L2.wipe σ vs := by
  refine List.ext_getElem? fun j => ?_
  by_cases hj : j ∈ vs
  · by_cases hl2 : j < σ.length
    · rw [wipe_in σ' j (by rw [hl]; exact hl2) vs hj, wipe_in σ j hl2 vs hj]
    · rw [List.getElem?_eq_none (by rw [wipe_length]; omega), List.getElem?_eq_none (by rw [wipe_length]; omega)]
  · rw [wipe_at σ' j vs hj]
    refine h j fun z => hj ?_
    have := List.all_eq_true.mp s j z
    simpa using this
theorem Ext.updNew {F' : Addr → Prop} {H' : Hp} {p : Addr} {u : HO} (k : Ok pt F H) (e : Ext pt F H F' H') (n : H p = none) : Ext pt F H F' (upd H' p u) := ⟨e.sub, e.new, fun b w hb h => by
  rw [upd_ne (ne_of_none h n)]
  exact e.same b w hb h, fun b hb => pot_upd (e.pots b hb) fun z => k.not_pt n (z ▸ hb), fun b f => upd_live (e.liv b f)⟩
def lcGo (st : D → (Option D → Prop) → Prop) : List D → List D → (D → Prop) → Prop
  | [], acc, P => P (.lst acc)
  | x :: xs, acc, P => st x fun r => lcGo st xs (acc ++ r.toList) P
def lcSt (bd : BD) (gt : GT) (ge : GE) (ρ : Rho) : D → (Option D → Prop) → Prop := fun x k => bd x ρ fun ρ2 => gt ρ2 fun b => if b = true then ge ρ2 (fun y => k (some y)) else k none
def gLc (gi : GA) (ws : List Nat) (bd : BD) (gt : GT) (ge : GE) (vs : List Nat) : GE := fun ρ P => gi ρ fun ds => (ws.all fun j => vs.contains j) = true ∧ ds.length ≤ 1000000 ∧ lcGo (lcSt bd gt ge (wipeR ρ vs)) ds [] P
instance {wi : TI} {gi : GA} {g : TG} {ws vs : List Nat} {bd : BD} {tt : TT} {gt : GT} {te : TE} {ge : GE} [hi : DI M wi gi] [hg : DG M g ws bd] [ht : DTT M tt gt] [he : DT M te ge] : DN M (tLc wi g tt te vs) (gLc gi ws bd gt ge vs) := ⟨fun {pt F0 H0 z0 F o σ H ρ P Q} e q k =>
  hi.run e q fun ds F1 H1 J q1 x1 it D nD => by
    obtain ⟨hws, hz, q1⟩ := q1
    obtain ⟨G, Y, w, st, yl⟩ := it.ex
    have e1 := e.step x1
    have ok1 := e1.ok
    have nF1 : ¬ F1 D := fun z => ok1.liv D z nD
    have npt : ¬ pt D := ok1.not_pt nD
    have w' : Walk J ds.length G Y := w
    refine lc_it w' (fun i H' => ∃ Fi acc ys, Ext pt F1 H1 Fi H' ∧ H' D = some (.lst acc) ∧ ¬ Fi D ∧ RpA M Fi H' acc ys ∧ acc.length ≤ i ∧ lcGo (lcSt bd gt ge (wipeR ρ vs)) (ds.drop i) ys P)
      ⟨F1, [], [], .put0 ok1 nD, upd_same, nF1, .nil, Nat.le_refl _, q1⟩ (fun i H' _ ⟨Fi, _, _, x, _⟩ => st H' fun b u fb eb => x.same b u (fun z => ok1.dis b z fb) eb) (fun i x H' H'' hlt p y => ?_) (fun H' p => ?_)
    · obtain ⟨Fi, acc, ys, x2, hD, nFi, ra, hl, q2⟩ := p
      have ok2 := ok1.ext x2
      obtain ⟨d, F3, hd, x3, rd⟩ := yl i Fi H' x H'' hlt ok2 x2.sub (fun b u fb eb => x2.same b u (fun z => ok1.dis b z fb) eb) y
      have e3 := ((e1.step x2).step x3).wipe vs
      have ok3 := ok2.ext x3
      have hD3 := x3.same D _ npt hD
      have nF3 : ¬ F3 D := fun z => (x3.new D z).elim nFi fun n => by rw [hD] at n; cases n
      have ed : ds.drop i = d :: ds.drop (i + 1) := by
        obtain ⟨hlt', rfl⟩ := List.getElem?_eq_some_iff.mp hd
        exact List.drop_eq_getElem_cons hlt'
      rw [ed] at q2
      have q2 : bd d (wipeR ρ vs) (fun ρ2 => gt ρ2 fun b => if b = true then ge ρ2 (fun y => lcGo (lcSt bd gt ge (wipeR ρ vs)) (ds.drop (i + 1)) (ys ++ (some y).toList) P) else lcGo (lcSt bd gt ge (wipeR ρ vs)) (ds.drop (i + 1)) (ys ++ (none : Option Dl.D).toList) P) := q2
      refine hg.run e3 q2 rd fun σ2 ρ2 q4 e4 l4 w4 => ⟨wipe_eq (ws := ws) (by rw [l4, wipe_length]) w4 hws, ?_⟩
      refine ht.run e4 q4 fun c F5 H5 q5 x5 => ?_
      have e5 := e4.step x5
      have ok5 := e5.ok
      have hD5 := x5.same D _ npt hD3
      have nF5 : ¬ F5 D := fun z => (x5.new D z).elim nF3 fun n => by rw [hD3] at n; cases n
      cases c with
      | true =>
        rw [if_pos rfl]
        refine he.run e5 q5 fun d6 F6 H6 v q6 x6 r6 => ?_
        have hD6 := x6.same D _ npt hD5
        have nF6 : ¬ F6 D := fun z => (x6.new D z).elim nF5 fun n => by rw [hD5] at n; cases n
        have ok6 := ok5.ext x6
        have up : ∀ b u, F6 b → H6 b = some u → F6 b ∧ upd H6 D (.lst (acc ++ [v])) b = some u := fun b u fb eb => ⟨fb, by rw [upd_ne (fun (z : b = D) => nF6 (z ▸ fb))]; exact eb⟩
        refine ⟨acc, hD6, by rw [sizeLine_eq]; omega, F6, acc ++ [v], ys ++ [d6], ?_, upd_same, nF6, ?_, by rw [List.length_append]; show acc.length + 1 ≤ _; omega, q6⟩
        · exact Ext.updNew ok1 (((x2.trans x3).trans x5).trans x6) nD
        · exact RpA.app ((((ra.ext ok2 x3).ext ok3 x5).ext ok5 x6).up up) (.one (r6.up up))
      | false =>
        rw [if_neg Bool.false_ne_true]
        refine ⟨F5, acc, ys, (x2.trans x3).trans x5, hD5, nF5, (ra.ext ok2 x3).ext ok3 x5, by omega, ?_⟩
        have q5 : lcGo (lcSt bd gt ge (wipeR ρ vs)) (ds.drop (i + 1)) (ys ++ (none : Option Dl.D).toList) P := q5
        rw [Option.toList_none, List.append_nil] at q5
        exact q5
    · obtain ⟨Fi, acc, ys, x2, hD, nFi, ra, hl, q2⟩ := p
      rw [List.drop_length] at q2
      exact k (.lst ys) Fi H' D q2 (x1.trans x2) ⟨D, acc, rfl, npt, hD, ra⟩ (x1.nn nD) nFi⟩
end
end Dl

/-! Data logic, part 6: statements, defs -/
namespace Dl
open PySem PySem.Spec PyProof.Rows L2 Xv Cr
structure DEnds where
  nx : Rho → Prop
  rt : D → Prop
  bk : Rho → Prop := fun _ => False
  ct : Rho → Prop := fun _ => False
abbrev GS := DEnds → Rho → Prop
def Agr (F : Addr → Prop) (H : Hp) (F' : Addr → Prop) (H' : Hp) : Prop := (∀ b, F b → F' b) ∧ ∀ b o, F b → H b = some o → H' b = some o
theorem Agr.refl {F : Addr → Prop} {H : Hp} : Agr F H F H := ⟨fun _ h => h, fun _ _ _ h => h⟩
theorem Agr.trans {F F' F'' : Addr → Prop} {H H' H'' : Hp} (a : Agr F H F' H') (b : Agr F' H' F'' H'') : Agr F H F'' H'' := ⟨fun x h => b.1 x (a.1 x h), fun x o f h => b.2 x o (a.1 x f) (a.2 x o f h)⟩
theorem Agr.of {pt F F' : Addr → Prop} {H H' : Hp} (k : Ok pt F H) (e : Ext pt F H F' H') : Agr F H F' H' := ⟨e.sub, fun b o f h => e.same b o (fun z => k.dis b z f) h⟩
/-- how a def gives back: fixed (false), or a new thing that nothing else holds (true) -/
def RtOk (M : Cm) (pt F0 : Addr → Prop) (H0 : Hp) (m : Bool) (rt : D → Prop) (q : VK) : Prop := match m with
  | false => ∀ F' H' v d, Ext pt F0 H0 F' H' → Rp M F' H' v d → rt d → q v H'
  | true => ∀ F' H' p d, Ext pt F0 H0 F' H' → Rb M pt F' H' (.ref p) d → H0 p = none → ¬ F' p → rt d → q (.ref p) H'
structure Lk (M : Cm) (m : Bool) (pt F0 : Addr → Prop) (H0 : Hp) (z0 : Gh) (F : Addr → Prop) (H : Hp) (δ : DEnds) (E : Ends) : Prop where
  nx : ∀ F' o' σ' H' ρ', En M pt F0 H0 z0 F' o' σ' H' ρ' → Agr F H F' H' → δ.nx ρ' → E.nx σ' H'
  bk : ∀ F' o' σ' H' ρ', En M pt F0 H0 z0 F' o' σ' H' ρ' → Agr F H F' H' → δ.bk ρ' → E.bk σ' H'
  ct : ∀ F' o' σ' H' ρ', En M pt F0 H0 z0 F' o' σ' H' ρ' → Agr F H F' H' → δ.ct ρ' → E.ct σ' H'
  rt : RtOk M pt F0 H0 m δ.rt E.rt
section
variable {M : Cm} {m : Bool} {pt F0 : Addr → Prop} {H0 : Hp} {z0 : Gh} {F F1 : Addr → Prop} {H H1 : Hp} {δ : DEnds} {E : Ends}
theorem Lk.mono (l : Lk M m pt F0 H0 z0 F H δ E) (a : Agr F H F1 H1) : Lk M m pt F0 H0 z0 F1 H1 δ E := ⟨fun _ _ _ _ _ e b q => l.nx _ _ _ _ _ e (a.trans b) q, fun _ _ _ _ _ e b q => l.bk _ _ _ _ _ e (a.trans b) q, fun _ _ _ _ _ e b q => l.ct _ _ _ _ _ e (a.trans b) q, l.rt⟩
end
class DS (M : Cm) (m : Bool) (t : TS) (g : outParam GS) : Prop where
  run : ∀ {pt F0 : Addr → Prop} {H0 : Hp} {z0 : Gh} {F : Addr → Prop} {o : Ow} {σ : L2.St} {H : Hp} {ρ : Rho} {δ : DEnds} {E : Ends}, En M pt F0 H0 z0 F o σ H ρ → Lk M m pt F0 H0 z0 F H δ E → g δ ρ → t E σ H
section
variable {M : Cm} {K : PySem.W.Frag} {m : Bool} {ta tb te : TE} {ga gb ge : GE} {t u : TS} {g h : GS} {tt : TT} {gt : GT} {i j : Nat} {ws : List Nat} {tg : TG} {bd : BD}
def sNext : GS := fun δ ρ => δ.nx ρ
def sSeq (g h : GS) : GS := fun δ ρ => g { δ with nx := h δ } ρ
def sIf (gt : GT) (g h : GS) : GS := fun δ ρ => gt ρ fun c => if c = true then g δ ρ else h δ ρ
def sDrop (ga : GE) : GS := fun δ ρ => ga ρ fun _ => δ.nx ρ
def sRet (ga : GE) : GS := fun δ ρ => ga ρ δ.rt
def sRetN : GS := fun δ _ => δ.rt .non
def sNever : GS := fun _ _ => False
def sBreak : GS := fun δ ρ => δ.bk ρ
def sCont : GS := fun δ ρ => δ.ct ρ
instance : DS M m tNext sNext := ⟨fun e l q => l.nx _ _ _ _ _ e .refl q⟩
instance : DS M m tNever sNever := ⟨fun _ _ q => q.elim⟩
instance : DS M m tBreak sBreak := ⟨fun e l q => l.bk _ _ _ _ _ e .refl q⟩
instance : DS M m tCont sCont := ⟨fun e l q => l.ct _ _ _ _ _ e .refl q⟩
instance [h1 : DS M m t g] [h2 : DS M m u h] : DS M m (tSeq t u) (sSeq g h) := ⟨fun {pt F0 H0 z0 F o σ H ρ δ E} e l q =>
  h1.run (δ := { δ with nx := h δ }) e ⟨fun F' o' σ' H' ρ' e' a q' => h2.run e' (l.mono a) q', l.bk, l.ct, l.rt⟩ q⟩
instance [h0 : DTT M tt gt] [h1 : DS M m t g] [h2 : DS M m u h] : DS M m (tIfS tt t u) (sIf gt g h) := ⟨fun {pt F0 H0 z0 F o σ H ρ δ E} e l q =>
  h0.run e q fun c F1 H1 q1 x1 => by
    have l1 := l.mono (Agr.of e.ok x1)
    cases c with
    | true => exact h1.run (e.step x1) l1 q1
    | false => exact h2.run (e.step x1) l1 q1⟩
instance (priority := 50) [h1 : DB M ta ga] : DS M m (tDrop ta) (sDrop ga) := ⟨fun {pt F0 H0 z0 F o σ H ρ δ E} e l q =>
  h1.run e q fun d F1 H1 v q1 x1 _ => l.nx _ _ _ _ _ (e.step x1) (Agr.of e.ok x1) q1⟩
instance [h1 : DTc M ta ga] : DS M false (tRet ta) (sRet ga) := ⟨fun {pt F0 H0 z0 F o σ H ρ δ E} e l q =>
  h1.run e q fun d F1 H1 v q1 x1 r => l.rt _ _ _ _ (e.ext.trans x1) r q1⟩
instance [h1 : DN M ta ga] : DS M true (tRet ta) (sRet ga) := ⟨fun {pt F0 H0 z0 F o σ H ρ δ E} e l q =>
  h1.run e q fun d F1 H1 p q1 x1 r n nf => l.rt _ _ _ _ (e.ext.trans x1) r (e.ext.nn n) nf q1⟩
/-- a slot given back -/
def sRetV (i : Nat) : GS := fun δ ρ => match ρ[i]? with | some (.d x) => δ.rt x | some (.own x) => δ.rt x | some (.own2 xs) => δ.rt (.lst xs) | _ => False
def sRetO (i : Nat) : GS := fun δ ρ => match ρ[i]? with | some (.own x) => δ.rt x | _ => False
theorem set_at {i : Nat} {s s' : Sl} {ρ : Rho} (h : ρ[i]? = some s) : (ρ.set i s')[i]? = some s' := by
  rw [List.getElem?_set, if_pos rfl, if_pos (List.getElem?_eq_some_iff.mp h).1]
instance (priority := 2000) : DS M false (tRet (tVar i)) (sRetV i) := ⟨fun {pt F0 H0 z0 F o σ H ρ δ E} e l q => by
  unfold sRetV at q
  split at q
  · rename_i x h
    obtain ⟨v, a, r⟩ := e.sl i _ h
    exact ⟨v, a, l.rt _ _ _ _ e.ext r q⟩
  · rename_i x h
    have e' := e.freeze h rfl
    obtain ⟨v, a, r⟩ := e'.sl i _ (set_at h)
    exact ⟨v, a, l.rt _ _ _ _ e'.ext r q⟩
  · rename_i xs h
    have e' := e.freeze h rfl
    obtain ⟨v, a, r⟩ := e'.sl i _ (set_at h)
    exact ⟨v, a, l.rt _ _ _ _ e'.ext r q⟩
  · exact q.elim⟩
instance (priority := 2000) : DS M true (tRet (tVar i)) (sRetO i) := ⟨fun {pt F0 H0 z0 F o σ H ρ δ E} e l q => by
  unfold sRetO at q
  split at q
  · rename_i x h
    obtain ⟨a, r, n, f⟩ := e.sl i _ h
    exact ⟨_, a, l.rt _ _ _ _ e.ext r n f q⟩
  · exact q.elim⟩
instance : DS M false tRetN sRetN := ⟨fun e l q => l.rt _ _ _ _ e.ext .non q⟩
/-! ### names given -/
def sAsg (ga : GE) (bd : BD) : GS := fun δ ρ => ga ρ fun x => bd x ρ δ.nx
instance [h1 : DT M ta ga] [h2 : DG M tg ws bd] : DS M m (tAsg ta tg) (sAsg ga bd) := ⟨fun {pt F0 H0 z0 F o σ H ρ δ E} e l q =>
  h1.run e q fun d F1 H1 v q1 x1 r => h2.run (e.step x1) q1 r fun σ' ρ' q2 e2 _ _ => l.nx _ _ _ _ _ e2 (Agr.of e.ok x1) q2⟩
/-- a name for a new thing that is to be changed -/
def tAsgO (te : TE) (i : Nat) : TS := tAsg te (gName i)
def sAsgO (ga : GE) (i : Nat) : GS := fun δ ρ => i ≠ 0 ∧ ga ρ fun x => δ.nx (ρ.set i (.own x))
theorem En.setNew {pt F0 : Addr → Prop} {H0 : Hp} {z0 : Gh} {F F1 : Addr → Prop} {o : Ow} {σ : L2.St} {H H1 : Hp} {ρ : Rho} {p : Addr} {d : D} (e : En M pt F0 H0 z0 F o σ H ρ) (x1 : Ext pt F H F1 H1) (r : Rb M pt F1 H1 (.ref p) d) (n : H p = none) (nf : ¬ F1 p) (i : Nat) (i0 : i ≠ 0) :
    En M pt F0 H0 z0 F1 (o.set i p []) (σ.set i (some (.ref p))) H1 (ρ.set i (.own d)) :=
  (e.step x1).setOwn r (e.ext.nn n) nf (fun j a _ hj z => (e.owlOk hj).2.2.1 (z ▸ n)) i0 fun g hg z => (rb_some (e.gh g hg).rb).1 (z ▸ n)
instance [h1 : DN M ta ga] : DS M m (tAsgO ta i) (sAsgO ga i) := ⟨fun {pt F0 H0 z0 F o σ H ρ δ E} e l ⟨i0, q⟩ =>
  h1.run e q fun d F1 H1 p q1 x1 r n nf => l.nx _ _ _ _ _ (e.setNew x1 r n nf i i0) (Agr.of e.ok x1) q1⟩
def sPar (i j : Nat) (g : GA) : GS := fun δ ρ => g ρ fun ds => match ds with | [a, b] => δ.nx ((ρ.set i (.d a)).set j (.d b)) | _ => False
instance {ta : TA} {g : GA} [h1 : DL M ta g] : DS M m (tPar i j ta) (sPar i j g) := ⟨fun {pt F0 H0 z0 F o σ H ρ δ E} e l q =>
  h1.run e q fun ds F1 H1 vs q1 x1 r => by
    split at q1
    · cases r with
      | cons r s =>
        cases s with
        | cons r2 s =>
          cases s
          exact ⟨_, _, rfl, l.nx _ _ _ _ _ (((e.step x1).set r).set r2) (Agr.of e.ok x1) q1⟩
    · exact q1.elim⟩
/-- a, b = e, f: a to be changed (ow), b to be changed (ow2) -/
def tParO (i j : Nat) (ta tb : TE) : TS := tPar i j (tCons ta (tCons tb tNil))
def tParX (i j : Nat) (ta tb : TE) : TS := tPar i j (tCons ta (tCons tb tNil))
def tParY (i j : Nat) (ta tb : TE) : TS := tPar i j (tCons ta (tCons tb tNil))
def sParX (i j : Nat) (ga gb : GE) : GS := fun δ ρ => j ≠ 0 ∧ ga ρ fun a => gb ρ fun b => δ.nx ((ρ.set i (.d a)).set j (.own b))
def sParY (i j : Nat) (ga gb : GE) : GS := fun δ ρ => i ≠ 0 ∧ ga ρ fun a => gb ρ fun b => δ.nx ((ρ.set i (.own a)).set j (.d b))
def sParO (i j : Nat) (ga gb : GE) : GS := fun δ ρ => (i ≠ 0 ∧ j ≠ 0) ∧ ga ρ fun a => gb ρ fun b => δ.nx ((ρ.set i (.own a)).set j (.own b))
instance [h1 : DT M ta ga] [h2 : DN M tb gb] : DS M m (tParX i j ta tb) (sParX i j ga gb) := ⟨fun {pt F0 H0 z0 F o σ H ρ δ E} e l ⟨ne, q⟩ =>
  h1.run e q fun a F1 H1 v q1 x1 r => h2.run (e.step x1) q1 fun b F2 H2 p q2 x2 r2 n nf => ⟨_, _, rfl, l.nx _ _ _ _ _ (((e.step x1).set r).setNew x2 r2 n nf j ne) (Agr.of e.ok (x1.trans x2)) q2⟩⟩
theorem rb_keep {pt F F' : Addr → Prop} {H H' : Hp} {v : V} {d : D} (k : Ok pt F H) (e : Ext pt F H F' H') {p : Addr} (hp : v = .ref p) (r : Rb M pt F H v d) (nf : ¬ F p) : ¬ F' p := fun z => by
  subst hp
  rcases e.new p z with w | w
  · exact nf w
  · exact (rb_some r).1 w
instance [h1 : DN M ta ga] [h2 : DT M tb gb] : DS M m (tParY i j ta tb) (sParY i j ga gb) := ⟨fun {pt F0 H0 z0 F o σ H ρ δ E} e l ⟨ne, q⟩ =>
  h1.run e q fun a F1 H1 p q1 x1 r n nf => h2.run (e.step x1) q1 fun b F2 H2 v q2 x2 r2 => ⟨_, _, rfl, l.nx _ _ _ _ _ ((e.setNew (x1.trans x2) (r.ext (e.step x1).ok x2) n (rb_keep (e.step x1).ok x2 rfl r nf) i ne).set r2) (Agr.of e.ok (x1.trans x2)) q2⟩⟩
instance [h1 : DN M ta ga] [h2 : DN M tb gb] : DS M m (tParO i j ta tb) (sParO i j ga gb) := ⟨fun {pt F0 H0 z0 F o σ H ρ δ E} e l ⟨ne, q⟩ =>
  h1.run e q fun a F1 H1 p q1 x1 r n nf => h2.run (e.step x1) q1 fun b F2 H2 p2 q2 x2 r2 n2 nf2 => ⟨_, _, rfl, l.nx _ _ _ _ _ ((e.setNew x1 r n nf i ne.1).setNew x2 r2 n2 nf2 j ne.2) (Agr.of e.ok (x1.trans x2)) q2⟩⟩
/-! ### what is changed becomes fixed -/
def tFrz (_ : List Nat) (t : TS) : TS := t
def frz (ρ : Rho) : List Nat → Rho
  | [] => ρ
  | i :: is => match ρ[i]? with | some (.own x) => frz (ρ.set i (.d x)) is | some (.own2 xs) => frz (ρ.set i (.d (.lst xs))) is | _ => frz ρ is
def sFrz (is : List Nat) (g : GS) : GS := fun δ ρ => g δ (frz ρ is)
theorem En.frz {pt F0 : Addr → Prop} {H0 : Hp} {z0 : Gh} {H : Hp} {o : Ow} {σ : L2.St} : ∀ {is : List Nat} {F : Addr → Prop} {ρ : Rho}, En M pt F0 H0 z0 F o σ H ρ → ∃ F', En M pt F0 H0 z0 F' o σ H (Dl.frz ρ is) ∧ Agr F H F' H
  | [], F, _, e => ⟨F, e, .refl⟩
  | i :: is, F, ρ, e => by
    unfold Dl.frz
    split
    · rename_i x hx
      obtain ⟨F', e', a⟩ := En.frz (is := is) (e.freeze hx rfl)
      exact ⟨F', e', ⟨fun b f => a.1 b (.inl f), fun b o f h => a.2 b o (.inl f) h⟩⟩
    · rename_i x hx
      obtain ⟨F', e', a⟩ := En.frz (is := is) (e.freeze hx rfl)
      exact ⟨F', e', ⟨fun b f => a.1 b (.inl f), fun b o f h => a.2 b o (.inl f) h⟩⟩
    · exact En.frz (is := is) e
instance {is : List Nat} [h1 : DS M m t g] : DS M m (tFrz is t) (sFrz is g) := ⟨fun {pt F0 H0 z0 F o σ H ρ δ E} e l q => by
  obtain ⟨F', e', a⟩ := e.frz (is := is)
  exact h1.run e' (l.mono a) q⟩
theorem ps_frz {X : Cx} {st : Stmt} (is : List Nat) (h : PS X st t) : PS X st (tFrz is t) := h
/-! ### lists that are changed -/
def sApp (i : Nat) (ga : GE) : GS := fun δ ρ => match ρ[i]? with | some (.own (.lst xs)) => ga ρ fun d => xs.length < 16777216 ∧ δ.nx (ρ.set i (.own (.lst (xs ++ [d])))) | _ => False
theorem Agr.mut {pt F0 F : Addr → Prop} {H0 H : Hp} {z0 : Gh} {o : Ow} {σ : L2.St} {ρ : Rho} {x : D} (e : En M pt F0 H0 z0 F o σ H ρ) (h : ρ[i]? = some (.own x)) {w : HO} : Agr F H F (upd H (o.a i) w) := by
  obtain ⟨_, _, _, f⟩ := e.sl i _ h
  exact ⟨fun _ z => z, fun b u fb eb => by rw [upd_ne (fun (z : b = o.a i) => f (z ▸ fb))]; exact eb⟩
theorem up_mut {pt F0 F : Addr → Prop} {H0 H : Hp} {z0 : Gh} {o : Ow} {σ : L2.St} {ρ : Rho} {x : D} (e : En M pt F0 H0 z0 F o σ H ρ) (h : ρ[i]? = some (.own x)) {w : HO} : ∀ b u, F b → H b = some u → F b ∧ upd H (o.a i) w b = some u := fun b u fb eb => ⟨fb, (Agr.mut e h).2 b u fb eb⟩
instance [h1 : DT M ta ga] : DS M m (tDrop (tBM K "list" rAppend (tVar i) (tCons ta tNil))) (sApp i ga) := ⟨fun {pt F0 H0 z0 F o σ H ρ δ E} e l q => by
  unfold sApp at q
  split at q
  · rename_i xs hx
    obtain ⟨a, ⟨b, vs, z, np, hz, rv⟩, n, f⟩ := e.sl i _ hx
    cases z
    refine ⟨_, a, .inl ⟨rfl, _, SqL.of hz⟩, h1.run e q fun d F1 H1 v q1 x1 r => ?_⟩
    have e1 := e.step x1
    obtain ⟨_, ⟨b, vs1, z, _, hz1, rv1⟩, _, _⟩ := e1.sl i _ hx
    cases z
    refine ⟨_, vs1, v, rfl, rfl, hz1, by rw [rv1.length, sizeLine_eq]; exact q1.1, ?_⟩
    have r' : Rb M pt F1 (upd H1 (o.a i) (.lst (vs1 ++ [v]))) (.ref (o.a i)) (.lst (xs ++ [d])) := ⟨_, _, rfl, np, upd_same, (rv1.up (up_mut e1 hx)).app (.one (r.up (up_mut e1 hx)))⟩
    exact l.nx _ _ _ _ _ (e1.mut hx r') ((Agr.of e.ok x1).trans (Agr.mut e1 hx)) q1.2
  · exact q.elim⟩
/-- found.append(left.pop(k)) -/
def sAppPop (i j : Nat) (ga : GE) : GS := fun δ ρ => match ρ[i]?, ρ[j]? with
  | some (.own (.lst xs)), some (.own (.lst ys)) => i ≠ j ∧ ga ρ fun d => ∃ (k : Int) (n : Nat) (y : D), d = .int k ∧ 0 ≤ k ∧ k < 1000000000 ∧ n = k.toNat ∧ ys[n]? = some y ∧ xs.length < 16777216 ∧ δ.nx ((ρ.set j (.own (.lst (ys.eraseIdx n)))).set i (.own (.lst (xs ++ [y]))))
  | _, _ => False
instance [h1 : DB M ta ga] : DS M m (tDrop (tBM K "list" rAppend (tVar i) (tCons (tBM K "list" rPopAt (tVar j) (tCons ta tNil)) tNil))) (sAppPop i j ga) := ⟨fun {pt F0 H0 z0 F o σ H ρ δ E} e l q => by
  unfold sAppPop at q
  split at q
  · rename_i xs ys hx hy
    obtain ⟨ne, q⟩ := q
    obtain ⟨a, ⟨b, vs, z, np, hz, rv⟩, n, f⟩ := e.sl i _ hx
    cases z
    obtain ⟨a', ⟨b, us, z, np', hz', ru⟩, n', f'⟩ := e.sl j _ hy
    cases z
    refine ⟨_, a, .inl ⟨rfl, _, SqL.of hz⟩, _, a', .inl ⟨rfl, _, SqL.of hz'⟩, h1.run e q fun d F1 H1 v q1 x1 r => ?_⟩
    obtain ⟨k, nn, y, rfl, k0, k1, rfl, hk, hl, q2⟩ := q1
    cases rb_int r
    have e1 := e.step x1
    obtain ⟨_, ⟨b, vs1, z, _, hz1, rv1⟩, _, _⟩ := e1.sl i _ hx
    cases z
    obtain ⟨_, ⟨b, us1, z, _, hu1, ru1⟩, _, _⟩ := e1.sl j _ hy
    cases z
    obtain ⟨vy, hvy, ry⟩ := ru1.get hk
    have kl := (List.getElem?_eq_some_iff.mp hvy).1
    refine ⟨o.a j, us1, k, k.toNat, vy, rfl, rfl, hu1, by omega, by omega, by
      have a : ¬ k < 0 := by omega
      unfold seqIndex?
      simp only [if_neg a]
      rw [if_pos (by rw [decide_eq_true k0, decide_eq_true (by omega)]; rfl)], hvy, ?_⟩
    have oij : o.a i ≠ o.a j := fun z => ne (e1.dj i j (o.a i) (by rw [owl_own hx]; exact List.mem_cons_self) (by rw [owl_own hy, z]; exact List.mem_cons_self))
    have r' : Rb M pt F1 (upd H1 (o.a j) (.lst (us1.eraseIdx k.toNat))) (.ref (o.a j)) (.lst (ys.eraseIdx k.toNat)) := ⟨_, _, rfl, np', upd_same, (ru1.up (up_mut e1 hy)).ers⟩
    have e2 := e1.mut hy r'
    have hx2 : (ρ.set j (.own (.lst (ys.eraseIdx k.toNat))))[i]? = some (.own (.lst xs)) := by rw [List.getElem?_set, if_neg (Ne.symm ne)]; exact hx
    refine ⟨o.a i, vs1, vy, rfl, rfl, by rw [upd_ne oij]; exact hz1, by rw [rv1.length, sizeLine_eq]; exact hl, ?_⟩
    have r2 : Rb M pt F1 (upd (upd H1 (o.a j) (.lst (us1.eraseIdx k.toNat))) (o.a i) (.lst (vs1 ++ [vy]))) (.ref (o.a i)) (.lst (xs ++ [y])) := ⟨_, _, rfl, np, upd_same, ((rv1.up (up_mut e1 hy)).up (up_mut e2 hx2)).app (.one ((ry.up (up_mut e1 hy)).up (up_mut e2 hx2)))⟩
    exact l.nx _ _ _ _ _ (e2.mut hx2 r2) (((Agr.of e.ok x1).trans (Agr.mut e1 hy)).trans (Agr.mut e2 hx2)) q2
  · exact q.elim⟩
def sMut (i : Nat) (f : List D → List D) : GS := fun δ ρ => match ρ[i]? with | some (.own (.lst xs)) => δ.nx (ρ.set i (.own (.lst (f xs)))) | _ => False
theorem run_mut0 {r : V → List V → Hp → VK → Prop} {f : List D → List D} {fv : List V → List V} (hr : ∀ a xs H Q, H a = some (.lst xs) → Q .non (upd H a (.lst (fv xs))) → r (.ref a) [] H Q) (hf : ∀ (F : Addr → Prop) H vs ds, RpA M F H vs ds → RpA M F H (fv vs) (f ds)) : DS M m (tDrop (tBM0 K "list" r (tVar i))) (sMut i f) := ⟨fun {pt F0 H0 z0 F o σ H ρ δ E} e l q => by
  unfold sMut at q
  split at q
  · rename_i xs hx
    obtain ⟨a, ⟨b, vs, z, np, hz, rv⟩, n, ff⟩ := e.sl i _ hx
    cases z
    refine ⟨_, a, .inl ⟨rfl, _, SqL.of hz⟩, hr _ _ _ _ hz ?_⟩
    have r' : Rb M pt F (upd H (o.a i) (.lst (fv vs))) (.ref (o.a i)) (.lst (f xs)) := ⟨_, _, rfl, np, upd_same, hf _ _ _ _ (rv.up (up_mut e hx))⟩
    exact l.nx _ _ _ _ _ (e.mut hx r') (Agr.mut e hx) q
  · exact q.elim⟩
instance : DS M m (tDrop (tBM0 K "list" rReverse (tVar i))) (sMut i List.reverse) := run_mut0 (fv := List.reverse) (fun a xs H Q e q => ⟨a, xs, rfl, rfl, e, q⟩) fun _ _ _ _ h => h.rev
instance : DS M m (tDrop (tBM0 K "list" rClear (tVar i))) (sMut i fun _ => []) := run_mut0 (fv := fun _ => []) (fun a xs H Q e q => ⟨a, xs, rfl, rfl, e, q⟩) fun _ _ _ _ _ => .nil
/-! ### a field of one's own new object -/
def sFldS (M : Cm) (K : PySem.W.Frag) (i : Nat) (f : Str) (ga : GE) : GS := fun δ ρ => ga ρ fun d => ∃ c xs, ρ[i]? = some (.own (.ob c xs)) ∧ Cls K (M.ca c) ∧ NoAttr K (M.ca c) f ∧ (M.fn c)[xs.length]? = some f ∧ (M.fn c).length ≤ 100 ∧ (∀ j, j < xs.length → (M.fn c)[j]? ≠ some f) ∧ δ.nx (ρ.set i (.own (.ob c (xs ++ [d]))))
theorem putF_zip {f : Str} {v : V} : ∀ {ns : List Str} {vs : List V}, ns[vs.length]? = some f → (∀ j, j < vs.length → ns[j]? ≠ some f) → putF f v (ns.zip vs) = ns.zip (vs ++ [v])
  | [], _, h, _ => by simp at h
  | a :: ns, [], h, _ => by
    simp only [List.length_nil, List.getElem?_cons_zero, Option.some.injEq] at h
    subst h
    simp [putF]
  | a :: ns, b :: vs, h, n => by
    have na : a ≠ f := fun z => n 0 (by simp) (by rw [z]; rfl)
    simp only [List.zip_cons_cons, List.cons_append, putF, if_neg na]
    rw [putF_zip (by simpa using h) fun j hj z => n (j + 1) (by simpa using hj) (by simpa using z)]
instance {f : Str} [h1 : DT M ta ga] : DS M m (sFld K (tVar i) ta f) (sFldS M K i f ga) := ⟨fun {pt F0 H0 z0 F o σ H ρ δ E} e l q =>
  h1.run e q fun d F1 H1 v q1 x1 r => by
    obtain ⟨c, xs, hx, z1, z2, z3, z4, z5, q2⟩ := q1
    have e1 := e.step x1
    obtain ⟨a, ⟨b, dx, vs, z, np, hz, hl, rv⟩, n, f'⟩ := e1.sl i _ hx
    cases z
    refine ⟨_, a, o.a i, _, dx, _, rfl, hz, z1, z2, ?_, ?_⟩
    · rw [List.length_zip]
      omega
    · have pz : putF f v ((M.fn c).zip vs) = (M.fn c).zip (vs ++ [v]) := putF_zip (by rw [rv.length]; exact z3) fun j hj => z5 j (by rw [← rv.length]; exact hj)
      have hlt := (List.getElem?_eq_some_iff.mp z3).1
      rw [pz]
      have r' : Rb M pt F1 (upd H1 (o.a i) (.ins (M.ca c) dx ((M.fn c).zip (vs ++ [v])))) (.ref (o.a i)) (.ob c (xs ++ [d])) := ⟨_, dx, _, rfl, np, upd_same, by rw [List.length_append, rv.length]; exact hlt, (rv.up (up_mut e1 hx)).app (.one (r.up (up_mut e1 hx)))⟩
      exact l.nx _ _ _ _ _ (e1.mut hx r') ((Agr.of e.ok x1).trans (Agr.mut e1 hx)) q2⟩
/-! ### for -/
def forGo (bd : BD) (g : GS) (δ : DEnds) : List D → Rho → Prop
  | [], ρ => δ.nx ρ
  | x :: xs, ρ => bd x ρ fun ρ2 => g { nx := forGo bd g δ xs, rt := δ.rt, bk := δ.nx, ct := forGo bd g δ xs } ρ2
def sFor (gi : GA) (bd : BD) (g : GS) : GS := fun δ ρ => gi ρ fun ds => forGo bd g δ ds ρ
instance {wi : TI} {gi : GA} [h0 : DI M wi gi] [h1 : DG M tg ws bd] [h2 : DS M m t g] : DS M m (tFor wi tg t) (sFor gi bd g) := ⟨fun {pt F0 H0 z0 F o σ H ρ δ E} e l q =>
  h0.run e q fun ds F1 H1 J q1 x1 it => by
    obtain ⟨G, Y, w, st, yl⟩ := it.ex
    have e1 := e.step x1
    refine for_it w (fun i σ' H' => ∃ Fi oi ρi, En M pt F0 H0 z0 Fi oi σ' H' ρi ∧ Agr F1 H1 Fi H' ∧ forGo bd g δ (ds.drop i) ρi) ⟨F1, o, ρ, e1, .refl, q1⟩ (fun i σ' H' _ ⟨Fi, oi, ρi, _, a, _⟩ => st H' a.2) (fun i x σ' H' H'' hlt p y => ?_) (fun σ' H' p => ?_)
    · obtain ⟨Fi, oi, ρi, ei, a, q2⟩ := p
      obtain ⟨d, F3, hd, x3, rd⟩ := yl i Fi H' x H'' hlt ei.ok a.1 a.2 y
      have e3 := ei.step x3
      have a3 := a.trans (Agr.of ei.ok x3)
      have ed : ds.drop i = d :: ds.drop (i + 1) := by
        obtain ⟨hlt', rfl⟩ := List.getElem?_eq_some_iff.mp hd
        exact List.drop_eq_getElem_cons hlt'
      rw [ed] at q2
      refine h1.run e3 q2 rd fun σ2 ρ2 q4 e4 _ _ => ?_
      refine h2.run (δ := { nx := forGo bd g δ (ds.drop (i + 1)), rt := δ.rt, bk := δ.nx, ct := forGo bd g δ (ds.drop (i + 1)) }) e4 ⟨fun F' o' σ5 H5 ρ5 e5 a5 q5 => ⟨F', o', ρ5, e5, a3.trans a5, q5⟩, fun F' o' σ5 H5 ρ5 e5 a5 q5 => ?_, fun F' o' σ5 H5 ρ5 e5 a5 q5 => ⟨F', o', ρ5, e5, a3.trans a5, q5⟩, l.rt⟩ q4
      exact l.nx _ _ _ _ _ e5 ((Agr.of e.ok x1).trans (a3.trans a5)) q5
    · obtain ⟨Fi, oi, ρi, ei, a, q2⟩ := p
      rw [List.drop_length] at q2
      exact l.nx _ _ _ _ _ ei ((Agr.of e.ok x1).trans a) q2⟩
end
/-! ### defs -/
def slK : Kd → D → Sl
  | .full, d => .d d
  | .bor, d => .b d
  | .pot, _ => .pot
def startR : List Kd → List D → List Sl
  | k :: ks, d :: ds => slK k d :: startR ks ds
  | _, _ => []
theorem startR_len {M : Cm} {pt F : Addr → Prop} {H : Hp} : ∀ {ks : List Kd} {vs : List V} {ds : List D}, RA M pt F H ks vs ds → (startR ks ds).length = vs.length
  | _, _, _, .nil => rfl
  | _, _, _, .full _ s => congrArg (· + 1) (startR_len s)
  | _, _, _, .bor _ s => congrArg (· + 1) (startR_len s)
  | _, _, _, .pot _ s => congrArg (· + 1) (startR_len s)
theorem startR_at {M : Cm} {pt F : Addr → Prop} {H : Hp} {o : Ow} : ∀ {ks : List Kd} {vs : List V} {ds : List D} {rest : L2.St} {i : Nat} {s : Sl}, RA M pt F H ks vs ds → (startR ks ds)[i]? = some s → SlOk M pt F H o (vs.map some ++ rest) H i s
  | _, _, _, _, _, _, .nil, h => by simp [startR] at h
  | _, _, _, _, 0, _, .full r s, h => by cases h; exact ⟨_, rfl, r⟩
  | _, _, _, _, 0, _, .bor (v := v) r s, h => by cases h; exact ⟨_, rfl, r, fun a z => (rb_some (z ▸ r)).1⟩
  | _, _, _, _, 0, _, .pot r s, h => by cases h; exact ⟨_, rfl, r⟩
  | _, _, _, rest, i + 1, s, .full r k, h => by
    have := startR_at (rest := rest) (o := ⟨fun j => o.a (j + 1), fun j => o.c (j + 1)⟩) k h
    cases s <;> exact this
  | _, _, _, rest, i + 1, s, .bor r k, h => by
    have := startR_at (rest := rest) (o := ⟨fun j => o.a (j + 1), fun j => o.c (j + 1)⟩) k h
    cases s <;> exact this
  | _, _, _, rest, i + 1, s, .pot r k, h => by
    have := startR_at (rest := rest) (o := ⟨fun j => o.a (j + 1), fun j => o.c (j + 1)⟩) k h
    cases s <;> exact this
theorem slK_no {k : Kd} {d : D} : (∀ x, slK k d ≠ .own x) ∧ ∀ x, slK k d ≠ .own2 x := by
  cases k <;> exact ⟨(fun _ z => nomatch z), (fun _ z => nomatch z)⟩
theorem startR_no {s : Sl} : ∀ {i : Nat} {ks : List Kd} {ds : List D}, (startR ks ds)[i]? = some s → (∀ x, s ≠ .own x) ∧ ∀ x, s ≠ .own2 x
  | 0, k :: ks, d :: ds, h => by cases h; exact slK_no
  | i + 1, k :: ks, d :: ds, h => startR_no (i := i) (ks := ks) (ds := ds) h
  | _, [], _, h => by simp [startR] at h
  | _, _ :: _, [], h => by simp [startR] at h
def rho0 (ks : List Kd) (ds : List D) (n : Nat) : Rho := startR ks ds ++ List.replicate n .no
section
variable {M : Cm} {P : Program} {w : World} {K : PySem.W.Frag} {mg : Str → Option Value} {base : Heap} {x qual : Str} {st : Stmt} {f : Addr} {fd : FuncData} {N ps : List Str} {k : Nat} {ks : List Kd} {fn : List D → (D → Prop) → Prop}
theorem en_start {pt F : Addr → Prop} {H : Hp} {vs : List V} {ds : List D} (ok : Ok pt F H) (r : RA M pt F H ks vs ds) : En M pt F H ⟨0, []⟩ F ⟨fun _ => 0, fun _ => []⟩ (L2.start N vs) H (rho0 ks ds (N.length - ks.length)) := by
  have hl := startR_len r
  have hk := r.length
  have no : ∀ (i : Nat) (s : Sl), (rho0 ks ds (N.length - ks.length))[i]? = some s → (∀ x, s ≠ .own x) ∧ ∀ x, s ≠ .own2 x := fun i s h => by
    unfold rho0 at h
    by_cases hi : i < (startR ks ds).length
    · rw [List.getElem?_append_left hi] at h
      exact startR_no h
    · rw [List.getElem?_append_right (by omega), List.getElem?_replicate] at h
      split at h
      · cases h; exact ⟨(fun _ z => nomatch z), (fun _ z => nomatch z)⟩
      · cases h
  refine ⟨ok, .refl ok, ?_, fun i s h => ?_, fun i j x h1 => ?_, rfl, fun _ h => nomatch h⟩
  · unfold L2.start rho0
    rw [List.length_append, List.length_append, List.length_map, List.length_replicate, List.length_replicate, hl, hk]
  · unfold rho0 at h
    by_cases hi : i < (startR ks ds).length
    · rw [List.getElem?_append_left hi] at h
      exact startR_at r h
    · rw [List.getElem?_append_right (by omega), List.getElem?_replicate] at h
      split at h
      · cases h; trivial
      · cases h
  · unfold owl at h1
    split at h1
    · rename_i x hx
      exact absurd rfl ((no _ _ hx).1 x)
    · rename_i x hx
      exact absurd rfl ((no _ _ hx).2 x)
    · cases h1
theorem okD (F : Fun K x qual st f fd) (S : FnScope N ps (defScope st)) (hk : ks.length = ps.length)
    (hb : ∀ (cdv : Value) (A : Around) (outer : List Env) (s : Shared) (H : Hp), Room k (A.deeper (envOfC qual (defScope st) s.heap.objs.size f cdv)) → (A.deeper (envOfC qual (defScope st) s.heap.objs.size f cdv)).guards = some [] →
      ∃ t g, PSs (cxOf CX0 P w K mg base N qual (defScope st) f cdv A outer s H E0).nox (defBody st) t ∧ DS M false t g ∧ ∀ ds P, fn ds P → g { nx := fun _ => P .non, rt := P } (rho0 ks ds (N.length - ks.length))) : FnG P w K mg base (k + 1) f fd ps (spD M ks fn) := by
  refine Xv.Fun.okG F S (fun vs H Q E h => ?_) (fun cdv A outer s H vs Q hr hgd h => ?_)
  · obtain ⟨pt, F, ds, P, _, r, _⟩ := h
    rw [r.length, hk]
  · obtain ⟨pt, F, ds, P', ok, r, hf, kk⟩ := h
    obtain ⟨t, g, hp, hd, hg⟩ := hb cdv A outer s H hr hgd
    exact ⟨t, hp, hd.run (δ := { nx := fun _ => P' .non, rt := P' }) (en_start ok r) ⟨fun F' o' σ' H' ρ' e' _ q => kk .non F' H' .non q e'.ext .non, fun _ _ _ _ _ _ _ q => q.elim, fun _ _ _ _ _ _ _ q => q.elim, fun F' H' v d x r q => kk d F' H' v q x r⟩ (hg ds P' hf)⟩
theorem okN (F : Fun K x qual st f fd) (S : FnScope N ps (defScope st)) (hk : ks.length = ps.length)
    (hb : ∀ (cdv : Value) (A : Around) (outer : List Env) (s : Shared) (H : Hp), Room k (A.deeper (envOfC qual (defScope st) s.heap.objs.size f cdv)) → (A.deeper (envOfC qual (defScope st) s.heap.objs.size f cdv)).guards = some [] →
      ∃ t g, PSs (cxOf CX0 P w K mg base N qual (defScope st) f cdv A outer s H E0).nox (defBody st) t ∧ DS M true t g ∧ ∀ ds P, fn ds P → g { nx := fun _ => False, rt := P } (rho0 ks ds (N.length - ks.length))) : FnG P w K mg base (k + 1) f fd ps (spN M ks fn) := by
  refine Xv.Fun.okG F S (fun vs H Q E h => ?_) (fun cdv A outer s H vs Q hr hgd h => ?_)
  · obtain ⟨pt, F, ds, P, _, r, _⟩ := h
    rw [r.length, hk]
  · obtain ⟨pt, F, ds, P', ok, r, hf, kk⟩ := h
    obtain ⟨t, g, hp, hd, hg⟩ := hb cdv A outer s H hr hgd
    exact ⟨t, hp, hd.run (δ := { nx := fun _ => False, rt := P' }) (en_start ok r) ⟨fun _ _ _ _ _ _ _ q => q.elim, fun _ _ _ _ _ _ _ q => q.elim, fun _ _ _ _ _ _ _ q => q.elim, fun F' H' p d x r n nf q => kk d F' H' p q x r n nf⟩ (hg ds P' hf)⟩
/-- .. of defs that don't hang on what is being shown -/
theorem okD0 (F : Fun K x qual st f fd) (S : FnScope N ps (defScope st)) (hk : ks.length = ps.length)
    (hb : ∀ (cdv : Value) (A : Around) (outer : List Env) (s : Shared) (H : Hp) (E : XK), Room k (A.deeper (envOfC qual (defScope st) s.heap.objs.size f cdv)) →
      ∃ t g, PSs (cxOf CX0 P w K mg base N qual (defScope st) f cdv A outer s H E).nox (defBody st) t ∧ DS M false t g ∧ ∀ ds P, fn ds P → g { nx := fun _ => P .non, rt := P } (rho0 ks ds (N.length - ks.length))) : FnOk P w K mg base CX0 (k + 1) f fd ps (spD M ks fn) := by
  refine F.ok S (fun vs H Q E h => ?_) (fun cdv A outer s H vs Q E hr h => ?_)
  · obtain ⟨pt, F, ds, P, _, r, _⟩ := h
    rw [r.length, hk]
  · obtain ⟨pt, F, ds, P', ok, r, hf, kk⟩ := h
    obtain ⟨t, g, hp, hd, hg⟩ := hb cdv A outer s H E hr
    exact ⟨t, hp, hd.run (δ := { nx := fun _ => P' .non, rt := P' }) (en_start ok r) ⟨fun F' o' σ' H' ρ' e' _ q => kk .non F' H' .non q e'.ext .non, fun _ _ _ _ _ _ _ q => q.elim, fun _ _ _ _ _ _ _ q => q.elim, fun F' H' v d x r q => kk d F' H' v q x r⟩ (hg ds P' hf)⟩
theorem okN0 (F : Fun K x qual st f fd) (S : FnScope N ps (defScope st)) (hk : ks.length = ps.length)
    (hb : ∀ (cdv : Value) (A : Around) (outer : List Env) (s : Shared) (H : Hp) (E : XK), Room k (A.deeper (envOfC qual (defScope st) s.heap.objs.size f cdv)) →
      ∃ t g, PSs (cxOf CX0 P w K mg base N qual (defScope st) f cdv A outer s H E).nox (defBody st) t ∧ DS M true t g ∧ ∀ ds P, fn ds P → g { nx := fun _ => False, rt := P } (rho0 ks ds (N.length - ks.length))) : FnOk P w K mg base CX0 (k + 1) f fd ps (spN M ks fn) := by
  refine F.ok S (fun vs H Q E h => ?_) (fun cdv A outer s H vs Q E hr h => ?_)
  · obtain ⟨pt, F, ds, P, _, r, _⟩ := h
    rw [r.length, hk]
  · obtain ⟨pt, F, ds, P', ok, r, hf, kk⟩ := h
    obtain ⟨t, g, hp, hd, hg⟩ := hb cdv A outer s H E hr
    exact ⟨t, hp, hd.run (δ := { nx := fun _ => False, rt := P' }) (en_start ok r) ⟨fun _ _ _ _ _ _ _ q => q.elim, fun _ _ _ _ _ _ _ q => q.elim, fun _ _ _ _ _ _ _ q => q.elim, fun F' H' p d x r n nf q => kk d F' H' p q x r n nf⟩ (hg ds P' hf)⟩
/-- an __init__ -/
def initNx (P : D → Prop) (ρ : Rho) : Prop := match (ρ[0]? : Option Sl) with | some (Sl.own d) => P d | _ => False
theorem okI {c : Nat} (F : Fun K x qual st f fd) (S : FnScope N ps (defScope st)) (hk : ks.length + 1 = ps.length)
    (hb : ∀ (cdv : Value) (A : Around) (outer : List Env) (s : Shared) (H : Hp) (E : XK), Room k (A.deeper (envOfC qual (defScope st) s.heap.objs.size f cdv)) →
      ∃ t g, PSs (cxOf CX0 P w K mg base N qual (defScope st) f cdv A outer s H E).nox (defBody st) t ∧ DS M false t g ∧ ∀ ds P, fn ds P → g { nx := initNx P, rt := fun _ => False } (.own (.ob c []) :: rho0 ks ds (N.length - (ks.length + 1)))) : FnOk P w K mg base CX0 (k + 1) f fd ps (spI M c ks fn) := by
  refine F.ok S (fun vs H Q E h => ?_) (fun cdv A outer s H vs Q E hr h => ?_)
  · obtain ⟨pt, F, H1, x, dx, us, ds, P, rfl, _, _, _, _, _, r, _⟩ := h
    rw [List.length_cons, r.length, hk]
  · obtain ⟨pt, F, H1, x, dx, us, ds, P', rfl, ok, nx, nd, ne, rfl, r, hf, kk⟩ := h
    obtain ⟨t, g, hp, hd, hg⟩ := hb cdv A outer s _ E hr
    have x1 := Ext.put0 (F := F) ok (o := .own x) nd
    have nx2 : upd H1 dx (.own x) x = none := by rw [upd_ne ne.symm]; exact nx
    have x2 := x1.trans (Ext.put0 (F := F) (ok.ext x1) (o := .ins (M.ca c) dx []) nx2)
    have e0 := en_start (N := N.drop 1) ok r
    have hN : N.drop 1 = N.drop 1 := rfl
    have e1 : En M pt F H1 ⟨x, []⟩ F ⟨fun _ => x, fun _ => []⟩ (L2.start N (.ref x :: us)) (upd (upd H1 dx (.own x)) x (.ins (M.ca c) dx [])) (.own (.ob c []) :: rho0 ks ds (N.length - (ks.length + 1))) := by
      have rr := r.ext ok x2
      have hl := startR_len rr
      have hkk := rr.length
      refine ⟨ok, x2, ?_, fun i s h => ?_, fun i j u h1 h2 => ?_, rfl, fun _ h => nomatch h⟩
      · unfold L2.start rho0
        simp only [List.length_cons, List.length_append, List.length_map, List.length_replicate, hl, hkk]
        omega
      · cases i with
        | zero =>
          cases h
          exact ⟨rfl, ⟨x, dx, [], rfl, ok.not_pt nx, by rw [upd_same]; simp, Nat.zero_le _, .nil⟩, nx, fun z => ok.liv x z nx⟩
        | succ i =>
          have h : (rho0 ks ds (N.length - (ks.length + 1)))[i]? = some s := h
          unfold rho0 at h
          by_cases hi : i < (startR ks ds).length
          · rw [List.getElem?_append_left hi] at h
            have q := startR_at (rest := List.replicate (N.length - (us.length + 1)) none) (o := ⟨fun _ => x, fun _ => []⟩) r h
            cases s with
            | no => trivial
            | d y => exact let ⟨v, a, b⟩ := q; ⟨v, a, b.ext ok x2⟩
            | b y => exact let ⟨v, a, b, n⟩ := q; ⟨v, a, b.ext ok x2, n⟩
            | own y => exact absurd rfl ((startR_no h).1 y)
            | own2 y => exact absurd rfl ((startR_no h).2 y)
            | pot => exact q
          · rw [List.getElem?_append_right (by omega), List.getElem?_replicate] at h
            split at h
            · cases h; trivial
            · cases h
      · have no : ∀ {i : Nat} {u : Addr}, u ∈ owl ⟨fun _ => x, fun _ => []⟩ (Sl.own (.ob c []) :: rho0 ks ds (N.length - (ks.length + 1))) i → i = 0 := fun {i u} h => by
          cases i with
          | zero => rfl
          | succ i =>
            have nn : ∀ s : Sl, (rho0 ks ds (N.length - (ks.length + 1)))[i]? = some s → (∀ x, s ≠ .own x) ∧ ∀ x, s ≠ .own2 x := fun s h => by
              unfold rho0 at h
              by_cases hi : i < (startR ks ds).length
              · rw [List.getElem?_append_left hi] at h
                exact startR_no h
              · rw [List.getElem?_append_right (by omega), List.getElem?_replicate] at h
                split at h
                · cases h; exact ⟨(fun _ z => nomatch z), (fun _ z => nomatch z)⟩
                · cases h
            unfold owl at h
            split at h
            · rename_i y hy
              exact absurd rfl ((nn _ hy).1 y)
            · rename_i y hy
              exact absurd rfl ((nn _ hy).2 y)
            · cases h
        rw [no h1, no h2]
    refine ⟨t, hp, hd.run (δ := { nx := initNx P', rt := fun _ => False }) e1 ⟨fun F' o' σ' H' ρ' e' _ q => ?_, fun _ _ _ _ _ _ _ q => q.elim, fun _ _ _ _ _ _ _ q => q.elim, fun _ _ _ _ _ _ q => q.elim⟩ (hg ds P' hf)⟩
    have q : initNx P' ρ' := q
    unfold initNx at q
    split at q
    · rename_i d h0
      obtain ⟨_, r', _, nf⟩ := e'.sl 0 _ h0
      have zr : o'.a 0 = x := e'.zr
      rw [zr] at r' nf
      exact kk d F' H' q e'.ext r' nf
    · exact q.elim
end
end Dl

/-! Data logic, part 7: lemmas for loops over data -/
namespace Dl
open PySem PySem.Spec PyProof.Rows L2 Xv Cr
theorem lcGo_opt {α : Type} {st : D → (Option D → Prop) → Prop} {f : α → D} {h : α → Option D} {P : D → Prop} : ∀ {xs : List α} {acc : List D}, (∀ x ∈ xs, ∀ k : Option D → Prop, k (h x) → st (f x) k) → P (.lst (acc ++ xs.filterMap h)) → lcGo st (xs.map f) acc P
  | [], acc, _, q => by
    rw [List.filterMap_nil, List.append_nil] at q
    exact q
  | x :: xs, acc, hs, q => by
    refine hs x List.mem_cons_self _ (lcGo_opt (xs := xs) (fun y hy => hs y (List.mem_cons_of_mem _ hy)) ?_)
    rw [List.filterMap_cons] at q
    cases e : h x with
    | none => rw [e] at q; rw [Option.toList_none, List.append_nil]; exact q
    | some d => rw [e] at q; rw [Option.toList_some, List.append_assoc]; exact q
theorem lcGo_map {α : Type} {st : D → (Option D → Prop) → Prop} {f : α → D} {h : α → D} {P : D → Prop} {xs : List α} {acc : List D} (hs : ∀ x ∈ xs, ∀ k : Option D → Prop, k (some (h x)) → st (f x) k) (q : P (.lst (acc ++ xs.map h))) : lcGo st (xs.map f) acc P :=
  lcGo_opt (h := fun x => some (h x)) hs (by rw [show xs.filterMap (fun x => some (h x)) = xs.map h from by rw [← List.filterMap_eq_map]; rfl]; exact q)
/-- each turn gives some of what R allows -/
theorem lcGo_rel {α β : Type} {st : D → (Option D → Prop) → Prop} {f : α → D} {h : β → D} {R : α → β → Prop} {P : D → Prop} : ∀ {xs : List α} {acc : List D}, (∀ x ∈ xs, ∀ k : Option D → Prop, (∀ y, R x y → k (some (h y))) → st (f x) k) → (∀ ys : List β, Paired R xs ys → P (.lst (acc ++ ys.map h))) → lcGo st (xs.map f) acc P
  | [], acc, _, q => by
    have := q [] .nil
    rw [List.map_nil, List.append_nil] at this
    exact this
  | x :: xs, acc, hs, q => by
    refine hs x List.mem_cons_self _ fun y hy => lcGo_rel (xs := xs) (R := R) (h := h) (fun z hz => hs z (List.mem_cons_of_mem _ hz)) fun ys p => ?_
    have := q (y :: ys) (.cons hy p)
    rw [Option.toList_some, List.append_assoc]
    exact this
/-- an invariant by what is done -/
theorem forGo_inv {bd : BD} {g : GS} {δ : DEnds} {α : Type} {f : α → D} {xs : List α} (I : Nat → Rho → Prop) {ρ : Rho} (h0 : I 0 ρ) (hs : ∀ i x ρ, xs[i]? = some x → I i ρ → ∀ k : Rho → Prop, (∀ ρ', I (i + 1) ρ' → k ρ') → bd (f x) ρ fun ρ2 => g { nx := k, rt := δ.rt, bk := δ.nx, ct := k } ρ2) (hd : ∀ ρ, I xs.length ρ → δ.nx ρ) : forGo bd g δ (xs.map f) ρ := by
  have go : ∀ (n i : Nat) (ρ : Rho), xs.length - i = n → i ≤ xs.length → I i ρ → forGo bd g δ ((xs.drop i).map f) ρ := by
    intro n
    induction n with
    | zero =>
      intro i ρ hn hi hI
      have : i = xs.length := by omega
      subst this
      rw [List.drop_length]
      exact hd ρ hI
    | succ n ih =>
      intro i ρ hn hi hI
      have hlt : i < xs.length := by omega
      rw [List.drop_eq_getElem_cons hlt, List.map_cons]
      exact hs i _ ρ (List.getElem?_eq_getElem hlt) hI _ fun ρ' h' => ih (i + 1) ρ' (by omega) (by omega) h'
  exact go xs.length 0 ρ rfl (Nat.zero_le _) h0
theorem rgD_zero (n : Nat) : rgD 0 n = (List.range n).map fun (i : Nat) => D.int (i : Nat) := by
  unfold rgD
  refine List.map_congr_left fun i _ => ?_
  rw [Int.zero_add]
theorem rgD_len {lo : Int} {n : Nat} : (rgD lo n).length = n := by unfold rgD; rw [List.length_map, List.length_range]
theorem atI_map {α : Type} {f : α → D} {xs : List α} {i : Nat} {x : α} (h : xs[i]? = some x) : atI (xs.map f) (i : Int) = some (f x) := by
  have hn := (List.getElem?_eq_some_iff.mp h).1
  unfold atI ixN
  rw [List.length_map, if_pos (by omega), if_pos (by omega)]
  show (xs.map f)[(i : Int).toNat]? = _
  rw [Int.toNat_natCast, List.getElem?_map, h]
  rfl
theorem atD {xs : List D} {i : Nat} {x : D} (h : xs[i]? = some x) : atI xs (i : Int) = some x := by
  have := atI_map (f := id) h
  rw [List.map_id] at this
  exact this
/-! ### marks for the generator -/
theorem ps_own {X : Cx} {st : Stmt} {te : TE} {i : Nat} (h : PS X st (tAsg te (L2.gName i))) : PS X st (tAsgO te i) := h
theorem ps_parX {X : Cx} {st : Stmt} {ta tb : TE} {i j : Nat} (h : PS X st (tPar i j (tCons ta (tCons tb tNil)))) : PS X st (tParX i j ta tb) := h
theorem ps_parY {X : Cx} {st : Stmt} {ta tb : TE} {i j : Nat} (h : PS X st (tPar i j (tCons ta (tCons tb tNil)))) : PS X st (tParY i j ta tb) := h
theorem ps_parO {X : Cx} {st : Stmt} {ta tb : TE} {i j : Nat} (h : PS X st (tPar i j (tCons ta (tCons tb tNil)))) : PS X st (tParO i j ta tb) := h
abbrev rAddS : R2 := fun x y H Q => ∃ i j, x = .str i ∧ y = .str j ∧ i.length + j.length ≤ sizeLine ∧ Q (.str (i ++ j)) H
abbrev rJoinD (K : PySem.W.Frag) : V → List V → Hp → VK → Prop := fun x xs H Q => ∃ a p, ∃ ys : List Str, x = .str a ∧ xs = [.ref p] ∧ (SqL K H p (ys.map V.str) ∨ SqT K H p (ys.map V.str)) ∧ (ys.map (·.length)).sum + ys.length * a.length ≤ 16777216 ∧ Q (.str (Txt.join a ys)) H
abbrev rAddI : R2 := rI0 fun i j => V.int (i + j)
abbrev rSubI : R2 := rI0 fun i j => V.int (i - j)
abbrev rMulI : R2 := rI CMul fun i j => V.int (i * j)
abbrev rModI : R2 := rI (fun _ j => 0 < j) fun i j => V.int (i % j)
abbrev rDivI : R2 := rI CDiv fun i j => V.int (i / j)
abbrev rLtI : R2 := rI0 fun i j => V.bl (decide (i < j))
abbrev rLeI : R2 := rI0 fun i j => V.bl (decide (i ≤ j))
abbrev rGtI : R2 := rI0 fun i j => V.bl (decide (j < i))
abbrev rGeI : R2 := rI0 fun i j => V.bl (decide (j ≤ i))
/-- contracts of defs as clauses for calls while nothing is shown -/
theorem cl_G {P : Program} {w : World} {K : PySem.W.Frag} {mg : Str → Option Value} {base : Heap} {k : Nat} {x : Str} {sp sp' : Sp} (c : Xv.Cl P w K mg base k x sp) (h : ∀ vs H Q E, sp' vs H Q E → sp vs H Q E) : Xv.Cl P w K mg base k x sp' := by
  obtain ⟨f, fd, ps, F, a, b, d⟩ := c.ex
  exact ⟨f, fd, ps, F.imp h, a, b, d⟩
/-! ### models -/
def rowX (r : Rw) : D := .lst (r.map fun e => .tup [.int e.1, .int e.2])
def rowsX (rs : List Rw) : D := .lst (rs.map rowX)
def namesX (ns : List Str) : D := .lst (ns.map .str)
def modelX (ns : List Str) (rs : List Rw) : D := .dic [(.inr "deeds", namesX ns), (.inr "rows", rowsX rs)]
theorem lk_deeds (ns : List Str) (rs : List Rw) : lkD [(.inr "deeds", namesX ns), (.inr "rows", rowsX rs)] (.inr "deeds") = some (namesX ns) := by
  unfold lkD
  simp
theorem lk_rows (ns : List Str) (rs : List Rw) : lkD [(.inr "deeds", namesX ns), (.inr "rows", rowsX rs)] (.inr "rows") = some (rowsX rs) := by rfl
def natsX (ps : List Nat) : D := .lst (ps.map fun (p : Nat) => D.int (p : Nat))
/-! ### what the library knows of these -/
theorem pyra_map {α : Type} {f : α → D} {h : α → PyData} (hf : ∀ x, PyR (f x) (h x)) : ∀ xs : List α, PyRA (xs.map f) (xs.map h)
  | [] => .nil
  | x :: xs => .cons (hf x) (pyra_map hf xs)
theorem pyr_names (ns : List Str) : PyR (namesX ns) (namesD ns) := .lst (pyra_map (fun z => .str z) ns)
theorem pyr_row (r : Rw) : PyR (rowX r) (rowD r) := .lst (pyra_map (fun e => .tup (.cons (.int _) (.cons (.int _) .nil))) r)
theorem pyr_rows (rs : List Rw) : PyR (rowsX rs) (rowsD rs) := .lst (pyra_map pyr_row rs)
/-! ### what stood in the older form -/
section
variable {M : Cm} {K : PySem.W.Frag} {S : Addr → Prop} {H : Hp}
mutual
/-- data without dicts, as it is told here -/
def ofP : PyData → D
  | .none => .non
  | .bool b => .bl b
  | .int i => .int i
  | .str z => .str z
  | .list ds => .lst (ofPs ds)
  | .tuple ds => .tup (ofPs ds)
  | .dict _ => .non
def ofPs : List PyData → List D
  | [] => []
  | d :: ds => ofP d :: ofPs ds
end
end
end Dl

/-! Data logic, part 8: own methods as operators; what stood in the older form -/
namespace Dl
open PySem PySem.Spec PyProof.Rows L2 Xv Cr
section
variable {M : Cm} {K : PySem.W.Frag} {pt F : Addr → Prop} {H : Hp} {f : List D → (D → Prop) → Prop}
/-- the type of data -/
def tyD (M : Cm) : D → Value
  | .non => .type "NoneType"
  | .bl _ => .type "bool"
  | .int _ => .type "int"
  | .str _ => .type "str"
  | .lst _ => .type "list"
  | .tup _ => .type "tuple"
  | .dic _ => .type "dict"
  | .ob c _ => .ref (M.ca c)
def ObC (M : Cm) (K : PySem.W.Frag) : D → Prop
  | .ob c _ => C8.InsC K (M.ca c)
  | _ => True
theorem ty_of {v : V} {d : D} (h : ObC M K d) (r : Rb M pt F H v d) : TyX K H v (tyD M d) := by
  cases d with
  | non => cases r; exact .base .non
  | bl b => cases r; exact .base (.bl _)
  | int i => cases r; exact .base (.int _)
  | str z => cases r; exact .base (.str _)
  | lst ds => obtain ⟨a, vs, rfl, _, e, _⟩ := r; exact .base (.lst e)
  | tup ds => obtain ⟨a, vs, rfl, _, e, _⟩ := r; exact .base (.tup e)
  | dic ds => obtain ⟨a, vs, rfl, _, e, _⟩ := r; exact .base (.dK e)
  | ob c ds => obtain ⟨a, dx, vs, rfl, _, e, _⟩ := r; exact .base (.ins e h.cl h.ha h.hn h.htk h.hm)
/-- == and != by an own __eq__ -/
def fEqO (M : Cm) (K : PySem.W.Frag) (C : Addr) (neg : Bool) (f : List D → (D → Prop) → Prop) : D → D → (D → Prop) → Prop := fun x y P => ∃ c ds, x = .ob c ds ∧ M.ca c = C ∧ ObC M K y ∧ PySem.W.notFirst K C (tyD M y) = true ∧ f [x, y] fun d => ∃ b, d = .bl b ∧ P (.bl (neg ^^ b))
instance {C : Addr} {neg : Bool} : D2 M (rEqO K C (spD M [.bor, .bor] f) neg) (fEqO M K C neg f) := ⟨fun {pt F H x y dx dy P Q} k r1 r2 q w => by
  obtain ⟨c, ds, rfl, rfl, oc, nf, q⟩ := q
  obtain ⟨a, dx, vs, rfl, np, hz, hl, rv⟩ := id r1
  refine ⟨a, dx, _, _, rfl, hz, ty_of oc r2, nf, pt, F, _, _, k, .bor r1 (.bor r2 .nil), q, fun d F' H' v ⟨b, hb, p⟩ x r => ?_⟩
  subst hb
  cases r
  refine ⟨b, rfl, ?_⟩
  have := w _ F' H' _ p x (.bl _)
  cases neg <;> simpa using this⟩
/-- len by an own __len__ -/
def fLenO (M : Cm) (C : Addr) (f : List D → (D → Prop) → Prop) : List D → (D → Prop) → Prop := fun ds P => ∃ c es, ds = [.ob c es] ∧ M.ca c = C ∧ f ds fun d => ∃ n : Int, d = .int n ∧ 0 ≤ n ∧ n < 1000000000 ∧ P (.int n)
instance {C : Addr} : D1 M (rLenO C (spD M [.bor] f)) [.bor] (fLenO M C f) := ⟨fun {pt F H vs ds P Q} k r q w => by
  obtain ⟨c, es, rfl, rfl, q⟩ := q
  cases r with
  | bor r s =>
    cases s
    obtain ⟨a, dx, vs, rfl, np, hz, hl, rv⟩ := id r
    refine ⟨a, dx, _, rfl, hz, pt, F, _, _, k, .bor r .nil, q, fun d F' H' v ⟨n, hn, n0, n1, p⟩ x r => ?_⟩
    subst hn
    cases r
    exact ⟨n, rfl, n0, by omega, w _ F' H' _ p x (.int _)⟩⟩
/-- in by an own __contains__ -/
def fInO (M : Cm) (C : Addr) (neg : Bool) (f : List D → (D → Prop) → Prop) : D → D → (D → Prop) → Prop := fun x y P => ∃ c ds, y = .ob c ds ∧ M.ca c = C ∧ f [y, x] fun d => ∃ b, d = .bl b ∧ P (.bl (neg ^^ b))
instance {C : Addr} {neg : Bool} : D2 M (rInO C (spD M [.bor, .bor] f) neg) (fInO M C neg f) := ⟨fun {pt F H x y dx dy P Q} k r1 r2 q w => by
  obtain ⟨c, ds, rfl, rfl, q⟩ := q
  obtain ⟨a, dx, vs, rfl, np, hz, hl, rv⟩ := id r2
  refine ⟨a, dx, _, rfl, hz, pt, F, _, _, k, .bor r2 (.bor r1 .nil), q, fun d F' H' v ⟨b, hb, p⟩ x r => ?_⟩
  subst hb
  cases r
  refine ⟨b, rfl, ?_⟩
  have := w _ F' H' _ p x (.bl _)
  cases neg <;> simpa using this⟩
/-- repr by an own __repr__ -/
def fReprO (M : Cm) (C : Addr) (f : List D → (D → Prop) → Prop) : List D → (D → Prop) → Prop := fun ds P => ∃ c es, ds = [.ob c es] ∧ M.ca c = C ∧ f ds fun d => ∃ z, d = .str z ∧ P (.str z)
instance {C : Addr} : D1 M (rReprO C (spD M [.bor] f)) [.bor] (fReprO M C f) := ⟨fun {pt F H vs ds P Q} k r q w => by
  obtain ⟨c, es, rfl, rfl, q⟩ := q
  cases r with
  | bor r s =>
    cases s
    obtain ⟨a, dx, vs, rfl, np, hz, hl, rv⟩ := id r
    refine ⟨a, dx, _, rfl, hz, pt, F, _, _, k, .bor r .nil, q, fun d F' H' v ⟨n, hn, p⟩ x r => ?_⟩
    subst hn
    cases r
    exact ⟨n, rfl, w _ F' H' _ p x (.str _)⟩⟩
/-- isinstance with one class -/
def fIsi (M : Cm) (K : PySem.W.Frag) (u : Value) : D → (D → Prop) → Prop := fun d P => ∃ b, ObC M K d ∧ PySem.W.kitOne K (tyD M d) u = some b ∧ P (.bl b)
end
/-! ### own methods, with any promise -/
structure PrpM (P : Program) (w : World) (K : PySem.W.Frag) (mg : Str → Option Value) (base : Heap) (C : Addr) (k : Nat) (f : Str) (sp : Sp) : Prop where
  ex : ∃ (p g : Addr) (fd : FuncData), PropOf K C f p g ∧ FnOk P w K mg base CX0 k g fd ["self"] sp ∧ Binds K fd ["self"] []
structure OwnM (P : Program) (w : World) (K : PySem.W.Frag) (mg : Str → Option Value) (base : Heap) (C : Addr) (k : Nat) (m : Str) (ps : List Str) (sp : Sp) : Prop where
  ex : ∃ (g : Addr) (fd : FuncData), FnOk P w K mg base CX0 k g fd ps sp ∧ PySem.W.findIn K (.ref C) m = some (some (.ref g)) ∧ PySem.W.isFn K (.ref g) = true ∧ Binds K fd ps []
structure ReprM (P : Program) (w : World) (K : PySem.W.Frag) (mg : Str → Option Value) (base : Heap) (C : Addr) (k : Nat) (sp : Sp) : Prop where
  ex : ∃ (g : Addr) (fd : FuncData), FnG P w K mg base k g fd ["self"] sp ∧ PySem.W.findIn K (.ref C) "__repr__" = some (some (.ref g)) ∧ PySem.W.isFn K (.ref g) = true ∧ Binds K fd ["self"] []
structure Met1 (P : Program) (w : World) (K : PySem.W.Frag) (mg : Str → Option Value) (base : Heap) (k : Nat) (C : Addr) (m kw : Str) (sp : Sp) : Prop where
  ex : ∃ (g : Addr) (fd : FuncData), Cls K C ∧ Meth K C m g ∧ FnOk P w K mg base CX0 k g fd ["self", kw] sp ∧ Binds K fd ["self", kw] [] ∧ KBn K fd ["self", kw] 1 [kw] (fun us ws => us ++ ws) (fun vs zs => vs ++ zs)
theorem Met1.met {P : Program} {w : World} {K : PySem.W.Frag} {mg : Str → Option Value} {base : Heap} {k : Nat} {C : Addr} {m kw : Str} {sp : Sp} (c : Met1 P w K mg base k C m kw sp) : C8.Met P w K mg base k C m sp [] := by
  obtain ⟨g, fd, hc, hm, F, b, _⟩ := c.ex
  exact ⟨g, fd, _, [], hc, hm, F, b, .nil⟩
section
variable {X : Cx} {C : Addr} {k j : Nat} {sp : Sp} {f x m kw : Str} {e o : Expr} {es : List Expr} {kws : List Keyword} {ta : TE} {t tk : TA} {p pos apos : Pos} {ps : List Str}
theorem pe_prpV (c : PrpM X.prog X.w X.K X.mg X.base C k f sp) (cl : Cls X.K C) (hr : Room j X.A) (hk : k + 1 ≤ j) (he : PE X e ta) (hab : attributeBase e f X.env (eval e X.env) = eval e X.env := by rfl) : PE X (.Attribute e f pos) (tProp C sp [] E0 ta) := by
  obtain ⟨p, g, fd, hp, F, hb⟩ := c.ex
  exact pe_prop he cl hp F (hr.mono hk) hb .nil pass0 hab
theorem call_lenV (c : OwnM X.prog X.w X.K X.mg X.base C k "__len__" ["self"] sp) (hr : Room j X.A) (hk : k + 1 ≤ j) : CallR X (.builtin "len") (rLenO C sp) := by
  obtain ⟨g, fd, F, hs, hf, hb⟩ := c.ex
  exact call_lenO F (hr.mono hk) hb hs hf
theorem op_inV (c : OwnM X.prog X.w X.K X.mg X.base C k "__contains__" ps sp) (hr : Room j X.A) (hk : k ≤ j) : OpR X (compareOp .In) (rInO C sp false) := by
  obtain ⟨g, fd, F, hs, hf, hb⟩ := c.ex
  exact op_inO F (hr.mono hk) hb hs hf
theorem op_notInV (c : OwnM X.prog X.w X.K X.mg X.base C k "__contains__" ps sp) (hr : Room j X.A) (hk : k ≤ j) : OpR X (compareOp .NotIn) (rInO C sp true) := by
  obtain ⟨g, fd, F, hs, hf, hb⟩ := c.ex
  exact op_notInO F (hr.mono hk) hb hs hf
theorem op_eqV (c : OwnM X.prog X.w X.K X.mg X.base C k "__eq__" ps sp) (hr : Room j X.A) (hk : k ≤ j) : OpR X (compareOp .Eq) (rEqO X.K C sp false) := by
  obtain ⟨g, fd, F, hs, hf, hb⟩ := c.ex
  exact op_eqO F (hr.mono hk) hb hs hf
theorem op_neV (c : OwnM X.prog X.w X.K X.mg X.base C k "__eq__" ps sp) (ne : PySem.W.findIn X.K (.ref C) "__ne__" = some (some (.builtin "object.__ne__")) ∧ PySem.W.mroIn X.K C (.type "object") = some true) (hr : Room j X.A) (hk : k + 1 ≤ j) : OpR X (compareOp .NotEq) (rEqO X.K C sp true) := by
  obtain ⟨g, fd, F, hs, hf, hb⟩ := c.ex
  exact op_neO F (hr.mono hk) hb hs hf ne.1 ne.2
theorem call_reprV (c : ReprM X.prog X.w X.K X.mg X.base C k sp) (hr : Room j X.A) (hk : k + 1 ≤ j) (hgd : X.A.guards = some []) : CallR X (.builtin "repr") (rReprO C sp) := by
  obtain ⟨g, fd, F, hs, hf, hb⟩ := c.ex
  exact call_reprO F (hr.mono hk) hgd hb hs hf
theorem pe_met1V {pl : Sem Bool} (c : Met1 X.prog X.w X.K X.mg X.base k C m kw sp) (hr : Room j X.A) (hj : k ≤ j) (he : PE X o ta) (hkw : PK X kws tk)
    (hall : (backToKw pos (keywordEach kws X.env)).all (·.1.isSome) = true := by rfl) (hks : (backToKw pos (keywordEach kws X.env)).filterMap (·.1) = ([kw] : List Str) := by rfl)
    (hpl : ((backTo pos (starEach [] X.env)).any (·.1) || (backToKw pos (keywordEach kws X.env)).any (·.1.isNone)) = false := by rfl)
    (ht : eval (.Call (.Attribute o m apos) [] kws pos) X.env = (do
      let ov ← eval o X.env
      standAt apos.atName
      let (fn, fst) ← holding [ov] (getMethod ov m pl)
      callWith pos fn fst (backTo pos (starEach [] X.env)) (backToKw pos (keywordEach kws X.env))) := by rfl) :
    PE X (.Call (.Attribute o m apos) [] kws pos) (tMethK C m 1 sp (fun vs zs => vs ++ zs) ta tk) := by
  obtain ⟨g, fd, hc, hm, F, b, kb⟩ := c.ex
  exact pe_methK (pl := pl) he hc hm F (hr.mono hj) kb hkw hall hks hpl ht
end
/-! ### data in the older form -/
section
variable {M : Cm} {K : PySem.W.Frag} {pt F S : Addr → Prop} {H : Hp}
mutual
theorem tr_rp (s : ∀ b, S b → F b) : ∀ {d : D} {p : PyData}, PyR d p → ∀ {v : V}, Tr (Vw S H) v p → Rp M F H v d
  | _, _, .non, _, .non => .non
  | _, _, .bl b, _, .bl _ => .bl b
  | _, _, .int i, _, .int _ => .int i
  | _, _, .str z, _, .str _ => .str z
  | _, _, .lst h, _, .lst e r => let ⟨a, b⟩ := vwI e; .lst (s _ a) b (tr_rpA s h r)
  | _, _, .tup h, _, .tup e r => let ⟨a, b⟩ := vwI e; .tup (s _ a) b (tr_rpA s h r)
theorem tr_rpA (s : ∀ b, S b → F b) : ∀ {ds : List D} {ps : List PyData}, PyRA ds ps → ∀ {vs : List V}, TrAll (Vw S H) vs ps → RpA M F H vs ds
  | _, _, .nil, _, .nil => .nil
  | _, _, .cons h k, _, .cons r t => .cons (tr_rp s h r) (tr_rpA s k t)
theorem vwI {b : Addr} {o : HO} (h : Vw S H b = some o) : S b ∧ H b = some o := by
  unfold Vw at h
  split at h
  · rename_i s
    exact ⟨s, h⟩
  · cases h
end
mutual
theorem rp_tr (s : ∀ b vs, F b → (H b = some (.lst vs) ∨ H b = some (.tup vs)) → S b) : ∀ {d : D} {p : PyData}, PyR d p → ∀ {v : V}, Rp M F H v d → Tr (Vw S H) v p
  | _, _, .non, _, .non => .non
  | _, _, .bl b, _, .bl _ => .bl b
  | _, _, .int i, _, .int _ => .int i
  | _, _, .str z, _, .str _ => .str z
  | _, _, .lst h, _, .lst f e r => .lst (by rw [vw_at (s _ _ f (.inl e))]; exact e) (rp_trA s h r)
  | _, _, .tup h, _, .tup f e r => .tup (by rw [vw_at (s _ _ f (.inr e))]; exact e) (rp_trA s h r)
theorem rp_trA (s : ∀ b vs, F b → (H b = some (.lst vs) ∨ H b = some (.tup vs)) → S b) : ∀ {ds : List D} {ps : List PyData}, PyRA ds ps → ∀ {vs : List V}, RpA M F H vs ds → TrAll (Vw S H) vs ps
  | _, _, .nil, _, .nil => .nil
  | _, _, .cons h k, _, .cons r t => .cons (rp_tr s h r) (rp_trA s k t)
end
end
end Dl

namespace K21
open PySem PySem.Spec PyProof.Rows L2 Xv Cr TL Dl
/-- the two classes -/
def CM (Ct CL : Addr) : Cm := ⟨fun c => if c = 0 then Ct else CL, fun c => if c = 0 then ["_deeds", "_rows"] else ["_thing", "_state", "_first", "_second"]⟩
def thingX (ns : List Str) (rs : List Rw) : D := .ob 0 [namesX ns, rowsX rs]
def layX (ns : List Str) (rs : List Rw) (n : Nat) (ps qs : List Nat) : D := .ob 1 [thingX ns rs, .int (n : Nat), natsX ps, natsX qs]
section
variable {K : PySem.W.Frag} {Ct CL : Addr} {pt F S : Addr → Prop} {H : Hp} {ns : List Str} {rs : List Rw} {n : Nat} {ps qs : List Nat}
theorem rb_thing {v : V} (h : Rb (CM Ct CL) pt F H v (thingX ns rs)) (nd : ∀ b vs, (H b = some (.lst vs) ∨ H b = some (.tup vs)) → F b → S b) : ∃ x, v = .ref x ∧ (¬ S x → ThAt K Ct S H x ns rs) := by
  obtain ⟨x, dx, vs, rfl, np, hx, hl, r⟩ := h
  refine ⟨x, rfl, fun nS => ?_⟩
  cases r with
  | cons r1 r =>
    cases r with
    | cons r2 r =>
      cases r
      cases r1 with
      | lst f1 e1 q1 =>
        cases r2 with
        | lst f2 e2 q2 =>
          exact ⟨dx, _, _, hx, rp_tr (fun b vs f e => nd b vs e f) (pyr_names ns) (.lst f1 e1 q1), rp_tr (fun b vs f e => nd b vs e f) (pyr_rows rs) (.lst f2 e2 q2), nS⟩
theorem rb_thing0 {v : V} (h : Rb (CM Ct CL) pt F H v (thingX ns rs)) : ∃ x, v = .ref x ∧ ThAt K Ct (fun b => b ≠ x ∧ F b) H x ns rs := by
  obtain ⟨x, dx, vs, rfl, np, hx, hl, r⟩ := id h
  obtain ⟨y, e, t⟩ := rb_thing (K := K) (S := fun b => b ≠ x ∧ F b) h fun b vs e f => ⟨fun z => (by rw [z, hx] at e; exact e.elim (fun w => nomatch w) fun w => nomatch w), f⟩
  cases e
  exact ⟨x, rfl, t fun z => z.1 rfl⟩
theorem thing_rb {x : Addr} (h : ThAt K Ct S H x ns rs) (np : ¬ pt x) : Rb (CM Ct CL) pt S H (.ref x) (thingX ns rs) := by
  obtain ⟨dx, l, m, hx, h1, h2, _⟩ := h
  exact ⟨x, dx, [.ref l, .ref m], rfl, np, hx, Nat.le_refl _, .cons (tr_rp (fun _ z => z) (pyr_names ns) h1) (.cons (tr_rp (fun _ z => z) (pyr_rows rs) h2) .nil)⟩
theorem nats_zs {vs : List V} (r : RpA (CM Ct CL) F H vs (ps.map fun (p : Nat) => D.int (p : Nat))) : vs = zs ps := by
  have : ps.map (fun (p : Nat) => D.int (p : Nat)) = (ps.map fun (p : Nat) => (p : Int)).map D.int := by rw [List.map_map]; rfl
  rw [this] at r
  rw [ints_eq (ints_map _) r, zs_ints]
theorem rpa_nats (M : Cm) (F : Addr → Prop) (H : Hp) (ps : List Nat) : RpA M F H (zs ps) (ps.map fun (p : Nat) => D.int (p : Nat)) := by
  have e : ps.map (fun (p : Nat) => D.int (p : Nat)) = (ps.map fun (p : Nat) => (p : Int)).map D.int := by rw [List.map_map]; rfl
  rw [e, zs_ints]
  exact rpa_ints _
theorem rb_lay {v : V} (h : Rb (CM Ct CL) pt F H v (layX ns rs n ps qs)) : ∃ y x, v = .ref y ∧ LyAt CL H y x n ps qs ∧ ThAt K Ct (fun b => b ≠ x ∧ F b) H x ns rs := by
  obtain ⟨y, dy, vs, rfl, np, hy, hl, r⟩ := h
  cases r with
  | cons r1 r =>
    cases r with
    | cons r2 r =>
      cases r with
      | cons r3 r =>
        cases r with
        | cons r4 r =>
          cases r
          cases r2
          cases r3 with
          | lst f3 e3 q3 =>
            cases r4 with
            | lst f4 e4 q4 =>
              have q3' := nats_zs q3
              have q4' := nats_zs q4
              subst q3'
              subst q4'
              cases r1 with
              | ob f1 e1 l1 q1 =>
                have ht : Rb (CM Ct CL) (fun _ => False) F H (.ref _) (thingX ns rs) := ⟨_, _, _, rfl, id, e1, l1, q1⟩
                obtain ⟨x, ex, t⟩ := rb_thing0 (K := K) ht
                cases ex
                exact ⟨y, _, rfl, ⟨dy, _, _, hy, e3, e4⟩, t⟩
theorem ents_rp (M : Cm) : ∀ {es : List V} {r : Rw}, Paired (fun x (e : Int × Int) => ∃ t, x = V.ref t ∧ S t ∧ H t = some (.tup [.int e.1, .int e.2])) es r → RpA M S H es (r.map fun e => D.tup [.int e.1, .int e.2])
  | _, _, .nil => .nil
  | _, _, .cons ⟨t, e, s, h⟩ r => by subst e; exact .cons (.tup s h (.cons (.int _) (.cons (.int _) .nil))) (ents_rp M r)
theorem rows_rp (M : Cm) : ∀ {ys : List V} {rs : List Rw}, Paired (RwO S H) ys rs → RpA M S H ys (rs.map rowX)
  | _, _, .nil => .nil
  | _, _, .cons ⟨a, es, e, s, h, p⟩ r => by subst e; exact .cons (.lst s h (ents_rp M p)) (rows_rp M r)
theorem model_rp (M : Cm) {p : Addr} (h : Dt K S H (.ref p) (modelD ns rs)) : Rp M S H (.ref p) (modelX ns rs) := by
  obtain ⟨l, t, ys, sm, sl, st, hm, hl, ht, hp⟩ := md_op h
  exact .dic sm hm (.cons (.lst sl hl (rpa_strs ns)) (.cons (.lst st ht (rows_rp M hp)) .nil))
theorem rp_ents (M : Cm) {F : Addr → Prop} : ∀ {r : Rw} {es : List V}, RpA M F H es (r.map fun e => D.tup [.int e.1, .int e.2]) → Paired (fun x (e : Int × Int) => ∃ t, x = V.ref t ∧ H t = some (.tup [.int e.1, .int e.2])) es r
  | [], _, .nil => .nil
  | e :: r, _, .cons h k => by
    cases h with
    | tup f hz q =>
      cases q with
      | cons q1 q =>
        cases q with
        | cons q2 q =>
          cases q
          cases q1
          cases q2
          exact .cons ⟨_, rfl, hz⟩ (rp_ents M k)
theorem rp_rows (M : Cm) {F : Addr → Prop} : ∀ {rs : List Rw} {vs : List V}, RpA M F H vs (rs.map rowX) → Paired (RowP H) vs rs
  | [], _, .nil => .nil
  | r :: rs, _, .cons h k => by
    cases h with
    | lst f hz q => exact .cons ⟨_, _, rfl, .inl hz, rp_ents M q⟩ (rp_rows M k)
theorem rb_names (M : Cm) {v : V} (h : Rb M pt F H v (namesX ns)) : ∃ a, v = .ref a ∧ H a = some (.lst (ns.map V.str)) := by
  obtain ⟨a, vs, e, _, hz, r⟩ := h
  have := strs_eq (strs_map ns) r
  subst this
  exact ⟨a, e, hz⟩
theorem ext_fr {H1 H2 H' : Hp} {x : Addr} {S' : Addr → Prop} (ok : Ok pt F H1) (s : Same H1 H2) (f : Fr (fun b => b = x) H2 H') (nx : H1 x = none) (hS : ∀ b, S' b → H1 b = none ∧ H' b ≠ none) : Ext pt F H1 (fun b => F b ∨ S' b) H' := by
  have all : ∀ b o, H1 b = some o → H' b = some o := fun b o e => f b o (ne_of_none e nx) (s b o e)
  refine ⟨fun b h => .inl h, fun b h => h.elim .inl fun z => .inr (hS b z).1, fun b o _ e => all b o e, fun b hb => ?_, fun b h => h.elim (fun z => ?_) fun z => (hS b z).2⟩
  · obtain ⟨i, j, e, r⟩ := ok.pots b hb
    exact ⟨i, j, all _ _ e, r⟩
  · obtain ⟨o, e⟩ := Option.ne_none_iff_exists'.mp (ok.liv b z)
    rw [all _ _ e]
    exact Option.some_ne_none _
/-! ### the promises, by data -/
def fDraw : List D → (D → Prop) → Prop := fun ds P => ∃ n : Int, ds = [.non, .int n] ∧ 0 < n ∧ n < 1073741824 ∧ ∀ d : Nat, (d : Int) < n → P (.int (d : Nat))
theorem draw_d (M : Cm) {vs : List V} {Q : VK} {E : XK} (h : spD M [.pot, .bor] fDraw vs H Q E) : spDraw vs H Q E := by
  obtain ⟨pt, F, ds, P, ok, r, ⟨n, rfl, n0, n1, q⟩, k⟩ := h
  cases r with
  | pot hp r =>
    cases r with
    | bor r s =>
      cases s
      cases rb_int r
      refine ⟨_, n, rfl, ok.pots _ hp, n0, n1, fun H' d b P' d0 d1 => ?_⟩
      obtain ⟨u, rfl⟩ := Int.eq_ofNat_of_zero_le d0
      exact k _ F H' _ (q u d1) (.of_but ok hp b P') (.int _)
def fModel : List D → (D → Prop) → Prop := fun ds P => ∃ ms md : Nat, ds = [.non, .int ms, .int md] ∧ 0 < ms ∧ ms ≤ 8 ∧ 0 < md ∧ md ≤ 4 ∧ ∀ ns rs, Right ns rs → rs.length ≤ ms → ns.length ≤ md → P (modelX ns rs)
theorem model_d (M : Cm) {vs : List V} {Q : VK} {E : XK} (h : spD M [.pot, .bor, .bor] fModel vs H Q E) : spModel K vs H Q E := by
  obtain ⟨pt, F, ds, P, ok, r, ⟨ms, md, rfl, n0, n1, m0, m1, q⟩, k⟩ := h
  cases r with
  | pot hp r =>
    cases r with
    | bor r s =>
      cases s with
      | bor r2 s =>
        cases s
        cases rb_int r
        cases rb_int r2
        refine ⟨_, ms, md, rfl, ok.pots _ hp, n0, by omega, m0, by omega, fun H' m ns rs size many S b P' nS dM hs hm nl nd nm tb => ?_⟩
        have t1 := tb.1
        have x1 := Ext.of_but ok hp b P'
        refine k _ _ H' _ (q ns rs ⟨by omega, by omega, nd, nm, by omega, by omega, by rw [t1, nl]; exact tb⟩ (by omega) (by omega)) (x1.more (G := S) (fun b hb => (nS b hb).1) fun b hb => (nS b hb).2) ?_
        exact (model_rp M dM).up fun b o hb e => ⟨.inr hb, e⟩
def fThing : List D → (D → Prop) → Prop := fun ds P => ∃ ns rs, ds = [namesX ns, rowsX rs] ∧ Right ns rs ∧ P (thingX ns rs)
theorem thing_d {vs : List V} {Q : VK} {E : XK} (h : spI (CM Ct CL) 0 [.bor, .bor] fThing vs H Q E) : spThingI K Ct vs H Q E := by
  obtain ⟨pt, F, H1, x, dx, us, ds, P, rfl, ok, nx, nd, ne, rfl, r, ⟨ns, rs, rfl, R, q⟩, k⟩ := h
  cases r with
  | bor r s =>
    cases s with
    | bor r2 s =>
      cases s
      obtain ⟨da, rfl, hd⟩ := rb_names _ r
      obtain ⟨ra, ys, rfl, _, hr, pr⟩ := r2
      have nx2 : upd H1 dx (.own x) x = none := by rw [upd_ne ne.symm]; exact nx
      have s1 : Same H1 (upd (upd H1 dx (.own x)) x (.ins Ct dx [])) := (same_upd nd).trans (same_upd nx2)
      refine ⟨x, dx, da, ra, ns, ys, rs, rfl, upd_same, .inl (s1 _ _ hd), RowsP.same ⟨.inl hr, rp_rows _ pr⟩ s1, R, fun H' S f nS th => ?_⟩
      have hS : ∀ b, S b → H1 b = none ∧ H' b ≠ none := fun b hb => ⟨s1.free (nS b hb).1, (nS b hb).2⟩
      have x1 := ext_fr ok s1 f nx hS
      obtain ⟨_, _, _, _, _, _, nSx⟩ := id th
      have npx : ¬ pt x := ok.not_pt nx
      have rb : Rb (CM Ct CL) pt S H' (.ref x) (thingX ns rs) := thing_rb th npx
      obtain ⟨a', dx', vs', e', np', hx', hl', rv'⟩ := rb
      refine k _ _ H' q x1 ⟨a', dx', vs', e', np', hx', hl', rv'.up fun b o hb e => ⟨.inr hb, e⟩⟩ fun z => z.elim (fun z => ok.liv x z nx) nSx
def seqX : Bool → List Str → D
  | false, us => namesX us
  | true, us => .tup (us.map D.str)
theorem rb_seq (M : Cm) {v : V} {t : Bool} (h : Rb M pt F H v (seqX t ns)) : ∃ a, v = .ref a ∧ LT H a (ns.map V.str) := by
  cases t with
  | false => obtain ⟨a, e, z⟩ := rb_names M h; exact ⟨a, e, .inl z⟩
  | true =>
    obtain ⟨a, vs, e, _, hz, r⟩ := h
    have := strs_eq (strs_map ns) r
    subst this
    exact ⟨a, e, .inr hz⟩
def fLay : List D → (D → Prop) → Prop := fun ds P => ∃ (ns : List Str) (rs : List Rw) (n : Nat) (t1 t2 : Bool) (us ws : List Str), ds = [thingX ns rs, .int (n : Nat), seqX t1 us, seqX t2 ws] ∧ Right ns rs ∧ n < rs.length ∧ 0 < us.length ∧ 0 < ws.length ∧ us.length + ws.length ≤ 5 ∧ (∀ u ∈ us, u ∈ ns) ∧ (∀ u ∈ ws, u ∈ ns) ∧
  ∀ ps qs : List Nat, ps.Perm (us.map fun u => ns.idxOf u) → ps.Pairwise (· ≤ ·) → qs.Perm (ws.map fun u => ns.idxOf u) → qs.Pairwise (· ≤ ·) → P (layX ns rs n ps qs)
theorem LT.same {H H' : Hp} {a : Addr} {xs : List V} (h : LT H a xs) (s : Same H H') : LT H' a xs := h.elim (fun z => .inl (s _ _ z)) fun z => .inr (s _ _ z)
theorem lay_d {vs : List V} {Q : VK} {E : XK} (h : spI (CM Ct CL) 1 [.full, .bor, .bor, .bor] fLay vs H Q E) : spLayI K Ct CL vs H Q E := by
  obtain ⟨pt, F, H1, y, dy, zs0, ds, P, rfl, ok, ny, nd, ne, rfl, r, ⟨ns, rs, n, t1, t2, us, ws, rfl, R, hn, u0, w0, uw, un, wn, q⟩, k⟩ := h
  cases r with
  | full r1 r =>
    cases r with
    | bor r2 r =>
      cases r with
      | bor r3 r =>
        cases r with
        | bor r4 r =>
          cases r
          cases rb_int r2
          obtain ⟨a1, rfl, h1⟩ := rb_seq _ r3
          obtain ⟨a2, rfl, h2⟩ := rb_seq _ r4
          obtain ⟨x, rfl, t⟩ := rb_thing0 (K := K) (r1.rb ok)
          have Fx : F x := by cases r1 with | ob f _ _ _ => exact f
          have ny2 : upd H1 dy (.own y) y = none := by rw [upd_ne ne.symm]; exact ny
          have s1 : Same H1 (upd (upd H1 dy (.own y)) y (.ins CL dy [])) := (same_upd nd).trans (same_upd ny2)
          have nFy : ¬ F y := fun z => ok.liv y z ny
          have nxy : x ≠ y := fun z => nFy (z ▸ Fx)
          refine ⟨y, dy, x, a1, a2, _, ns, rs, n, us, ws, rfl, upd_same, t.same s1, R, fun z => nFy z.2, nxy, hn, .same h1 s1, .same h2 s1, u0, w0, uw, un, wn, fun H' l1 l2 g1 g2 f n1 n2 hy e1 e2 p1 w1 p2 w2 => ?_⟩
          have go : ∀ {g : List Int} {us : List Str}, g.Perm (us.map fun u => ((ns.idxOf u : Nat) : Int)) → g.Pairwise (· ≤ ·) → ∃ ps : List Nat, g.map V.int = zs ps ∧ ps.Perm (us.map fun u => ns.idxOf u) ∧ ps.Pairwise (· ≤ ·) := fun {g us} pm pw => by
            have e : us.map (fun u => ((ns.idxOf u : Nat) : Int)) = (us.map fun u => ns.idxOf u).map fun (a : Nat) => (a : Int) := by rw [List.map_map]; rfl
            rw [e] at pm
            exact nat_sorted pm pw
          obtain ⟨ps, ep, pp, wp⟩ := go p1 w1
          obtain ⟨qs, eq, pq, wq⟩ := go p2 w2
          rw [ep] at e1
          rw [eq] at e2
          have m1 := s1.free n1
          have m2 := s1.free n2
          have x1 := ext_fr (S' := fun b => b = l1 ∨ b = l2) ok s1 f ny fun b hb => by
            rcases hb with rfl | rfl
            · exact ⟨m1, by rw [e1]; exact Option.some_ne_none _⟩
            · exact ⟨m2, by rw [e2]; exact Option.some_ne_none _⟩
          have y1 : l1 ≠ y := fun z => by rw [z, hy] at e1; cases e1
          have y2 : l2 ≠ y := fun z => by rw [z, hy] at e2; cases e2
          refine k _ _ H' (q ps qs pp wp pq wq) x1 ⟨y, dy, [.ref x, .int n, .ref l1, .ref l2], rfl, ok.not_pt ny, hy, Nat.le_refl _, .cons (r1.ext ok x1) (.cons (.int _) (.cons (.lst (.inr (.inl rfl)) e1 (rpa_nats _ _ _ ps)) (.cons (.lst (.inr (.inr rfl)) e2 (rpa_nats _ _ _ qs)) .nil)))⟩ fun z => ?_
          rcases z with z | z | z
          · exact nFy z
          · exact y1 z.symm
          · exact y2 z.symm
end
end K21

namespace K21
open PySem PySem.Spec PyProof.Rows L2 Xv Cr TL Dl
section
variable {K : PySem.W.Frag} {Ct CL : Addr} {pt F S : Addr → Prop} {H : Hp} {ns : List Str} {rs : List Rw} {n : Nat} {ps qs : List Nat} {vs : List V} {Q : VK} {E : XK}
def fCHand : List D → (D → Prop) → Prop := fun ds P => ∃ i n : Int, ds = [.int i, .int n] ∧ 0 ≤ i ∧ i < n ∧ P .non
theorem chand_d (M : Cm) (h : spD M [.bor, .bor] fCHand vs H Q E) : spCHand vs H Q E := by
  obtain ⟨pt, F, ds, P, ok, r, ⟨i, n, rfl, i0, i1, q⟩, k⟩ := h
  cases r with
  | bor r s =>
    cases s with
    | bor r2 s =>
      cases s
      cases rb_int r
      cases rb_int r2
      exact ⟨i, n, rfl, i0, i1, k _ F H _ q (.refl ok) .non⟩
/-- == of things; what it is compared with: a thing or something of another type -/
def isThing : D → Option (List Str × List Rw) → Prop := fun d o => match o with
  | some (ns, rs) => d = thingX ns rs ∧ ∀ z ∈ ns, Nm z
  | none => True
def fTEq (K : PySem.W.Frag) (Ct CL : Addr) : List D → (D → Prop) → Prop := fun ds P => ∃ ns rs y, ds = [thingX ns rs, y] ∧ (∀ z ∈ ns, Nm z) ∧
  ((∃ ns2 rs2, y = thingX ns2 rs2 ∧ (∀ z ∈ ns2, Nm z) ∧ P (.bl (decide (ns = ns2) && decide (rs = rs2)))) ∨ (ObC (CM Ct CL) K y ∧ PySem.W.kitOne K (tyD (CM Ct CL) y) (.ref Ct) = some false ∧ P (.bl false)))
theorem teq_d (Z : ThF K Ct) (h : spD (CM Ct CL) [.bor, .bor] (fTEq K Ct CL) vs H Q E) : spTEq K Ct vs H Q E := by
  obtain ⟨pt, F, ds, P, ok, r, ⟨ns, rs, y, rfl, nm, q⟩, k⟩ := h
  cases r with
  | bor r s =>
    cases s with
    | bor r2 s =>
      cases s
      obtain ⟨x, rfl, t⟩ := rb_thing0 (K := K) r
      refine ⟨x, _, ns, rs, _, rfl, t, nm, ?_⟩
      rcases q with ⟨ns2, rs2, rfl, nm2, q⟩ | ⟨oc, ki, q⟩
      · obtain ⟨x2, rfl, t2⟩ := rb_thing0 (K := K) r2
        exact .inl ⟨x2, _, ns2, rs2, rfl, th_ty Z t2, t2, nm2, k _ F H _ q (.refl ok) (.bl _)⟩
      · exact .inr ⟨_, ty_of oc r2, ki, k _ F H _ q (.refl ok) (.bl _)⟩
def fLEq (K : PySem.W.Frag) (Ct CL : Addr) : List D → (D → Prop) → Prop := fun ds P => ∃ ns rs n ps qs y, ds = [layX ns rs n ps qs, y] ∧ (∀ z ∈ ns, Nm z) ∧
  ((∃ ns2 rs2 n2 ps2 qs2, y = layX ns2 rs2 n2 ps2 qs2 ∧ (∀ z ∈ ns2, Nm z) ∧ P (.bl (lyEq ns ns2 rs rs2 n n2 ps ps2 qs qs2))) ∨ (ObC (CM Ct CL) K y ∧ PySem.W.kitOne K (tyD (CM Ct CL) y) (.ref CL) = some false ∧ P (.bl false)))
theorem leq_d (Z : ThF K CL) (h : spD (CM Ct CL) [.bor, .bor] (fLEq K Ct CL) vs H Q E) : spLyEq K Ct CL vs H Q E := by
  obtain ⟨pt, F, ds, P, ok, r, ⟨ns, rs, n, ps, qs, y, rfl, nm, q⟩, k⟩ := h
  cases r with
  | bor r s =>
    cases s with
    | bor r2 s =>
      cases s
      obtain ⟨a, x, rfl, l, t⟩ := rb_lay (K := K) r
      refine ⟨a, x, n, ps, qs, _, ns, rs, _, rfl, l, t, nm, ?_⟩
      rcases q with ⟨ns2, rs2, n2, ps2, qs2, rfl, nm2, q⟩ | ⟨oc, ki, q⟩
      · obtain ⟨a2, x2, rfl, l2, t2⟩ := rb_lay (K := K) r2
        exact .inl ⟨a2, x2, n2, ps2, qs2, _, ns2, rs2, rfl, ly_ty Z l2, l2, t2, nm2, k _ F H _ q (.refl ok) (.bl _)⟩
      · exact .inr ⟨_, ty_of oc r2, ki, k _ F H _ q (.refl ok) (.bl _)⟩
def fLRepr : List D → (D → Prop) → Prop := fun ds P => ∃ ns rs n ps qs, ds = [layX ns rs n ps qs] ∧ Right ns rs ∧ n < rs.length ∧ ps.length ≤ 4 ∧ qs.length ≤ 4 ∧ (∀ p ∈ ps, p < ns.length) ∧ (∀ p ∈ qs, p < ns.length) ∧ P (.str (lyT ns rs n ps qs))
theorem lrepr_d (h : spD (CM Ct CL) [.bor] fLRepr vs H Q E) : spLyRepr K Ct CL vs H Q E := by
  obtain ⟨pt, F, ds, P, ok, r, ⟨ns, rs, n, ps, qs, rfl, R, hn, p4, q4, hp, hq, q⟩, k⟩ := h
  cases r with
  | bor r s =>
    cases s
    obtain ⟨a, x, rfl, l, t⟩ := rb_lay (K := K) r
    exact ⟨a, x, n, ps, qs, _, ns, rs, rfl, l, t, R, hn, p4, q4, hp, hq, fun H' s => k _ F H' _ q (.of_same ok s) (.str _)⟩
def kvX (cm : List (Str × Str)) : List (Key × D) := cm.map fun e => (.inr e.1, D.str e.2)
theorem rpk_kv {M : Cm} : ∀ {cm : List (Str × Str)} {kvs : List (Key × V)}, RpK M F H kvs (kvX cm) → kvs = kvS cm
  | [], _, .nil => rfl
  | e :: r, _, .cons h k => by
    cases h
    rw [rpk_kv k]
    rfl
def fRen : List D → (D → Prop) → Prop := fun ds P => ∃ ns rs cm, ds = [thingX ns rs, .dic (kvX cm)] ∧ rs.length ≤ 1000 ∧ ns.length ≤ 1000 ∧ cm.length ≤ 1000 ∧ (∀ e ∈ cm, e.1 ∈ ns ∧ Nm e.2) ∧ (ns.map (renE cm)).Nodup ∧ P (thingX (ns.map (renE cm)) rs)
theorem ren_d (h : spD (CM Ct CL) [.bor, .bor] fRen vs H Q E) : spTRen K Ct vs H Q E := by
  obtain ⟨pt, F, ds, P, ok, r, ⟨ns, rs, cm, rfl, r1, n1, c1, hc, nd, q⟩, k⟩ := h
  cases r with
  | bor r s =>
    cases s with
    | bor r2 s =>
      cases s
      obtain ⟨d, kvs, rfl, _, hd, rk⟩ := r2
      have := rpk_kv rk
      subst this
      obtain ⟨x, rfl, t⟩ := rb_thing (K := K) (S := fun b => F b ∧ (∃ us, H b = some (.lst us) ∨ H b = some (.tup us))) r fun b us e f => ⟨f, us, e⟩
      obtain ⟨x', dx, us, ex, npx, hx, _⟩ := id r
      cases ex
      have nS : ∀ {b : Addr} {o : HO}, H b = some o → (∀ us, o ≠ .lst us) → (∀ us, o ≠ .tup us) → ¬ (F b ∧ (∃ us, H b = some (.lst us) ∨ H b = some (.tup us))) := fun e a1 a2 ⟨_, us, z⟩ => by
        rcases z with z | z
        · exact a1 us (Option.some.inj (e.symm.trans z))
        · exact a2 us (Option.some.inj (e.symm.trans z))
      have t := t (nS hx (fun _ z => nomatch z) (fun _ z => nomatch z))
      refine ⟨x, d, _, ns, rs, cm, rfl, t, r1, n1, nS hd (fun _ z => nomatch z) (fun _ z => nomatch z), hd, c1, hc, nd, fun H' y S' s ny hS th => ?_⟩
      have x1 := Ext.of_same ok s
      obtain ⟨dy, l, m, hy, hl, hm, nSy⟩ := id th
      have rb : Rb (CM Ct CL) pt S' H' (.ref y) (thingX (ns.map (renE cm)) rs) := thing_rb th (ok.not_pt ny)
      obtain ⟨a', dx', vs', e', np', hx', hl', rv'⟩ := rb
      cases e'
      have th2 := th.real
      have live : ∀ b, (S' b ∧ ∃ o, H' b = some o) → H' b ≠ none := fun b hb => by obtain ⟨_, o, e⟩ := hb; rw [e]; exact Option.some_ne_none _
      have x2 : Ext pt F H (fun b => F b ∨ (((S' b ∧ ∃ o, H' b = some o) ∧ H b = none) ∨ b = y)) H' := x1.more (fun b z => z.elim (fun z => z.2) fun z => z ▸ ny) fun b z => z.elim (fun z => live b z.1) fun z => by rw [z, hx']; exact Option.some_ne_none _
      refine k _ _ H' _ q x2 (.ob (.inr (.inr rfl)) hx' hl' (rv'.up fun b o hb e => ⟨?_, e⟩))
      rcases hS b hb with z | z
      · exact .inl z.1
      · exact .inr (.inl ⟨⟨hb, o, e⟩, z⟩)
end
end K21

set_option synthInstance.maxSize 100000
set_option synthInstance.maxHeartbeats 0
namespace K21
open PySem PySem.Spec PyProof.Rows L2 Xv Cr TL Dl
theorem fl0 {Ct CL : Addr} : ∀ j, j < 0 → ((CM Ct CL).fn 1)[j]? ≠ some ("_thing" : Str) := by
  show ∀ j, j < 0 → (["_thing", "_state", "_first", "_second"] : List Str)[j]? ≠ some ("_thing" : Str)
  decide
theorem fl1 {Ct CL : Addr} : ∀ j, j < 1 → ((CM Ct CL).fn 1)[j]? ≠ some ("_state" : Str) := by
  show ∀ j, j < 1 → (["_thing", "_state", "_first", "_second"] : List Str)[j]? ≠ some ("_state" : Str)
  decide
theorem fl2 {Ct CL : Addr} : ∀ j, j < 2 → ((CM Ct CL).fn 1)[j]? ≠ some ("_first" : Str) := by
  show ∀ j, j < 2 → (["_thing", "_state", "_first", "_second"] : List Str)[j]? ≠ some ("_first" : Str)
  decide
theorem fl3 {Ct CL : Addr} : ∀ j, j < 3 → ((CM Ct CL).fn 1)[j]? ≠ some ("_second" : Str) := by
  show ∀ j, j < 3 → (["_thing", "_state", "_first", "_second"] : List Str)[j]? ≠ some ("_second" : Str)
  decide
abbrev s_dl_tdeeds : Stmt := inClass (top 35) 1
abbrev N_dl_tdeeds : List Str := ["self"]
theorem sc_dl_tdeeds : FnScope N_dl_tdeeds ["self"] (defScope s_dl_tdeeds) := ⟨rfl, rfl, rfl, by decide +kernel, rfl, by decide +kernel, by decide +kernel⟩
def fTDeeds : List D → (D → Prop) → Prop := fun ds P => ∃ ns rs, ds = [thingX ns rs] ∧ P (namesX ns)
section
variable {P : Program} {w : World} {K : PySem.W.Frag} {mg : Str → Option Value} {base : Heap} {Ct CL f : Addr} {fd : FuncData}
theorem okd_dl_tdeeds (F : Fun K "deeds" "Thing.deeds" s_dl_tdeeds f fd) (T : Bl mg)  (TC : ThC K Ct) : FnOk P w K mg base CX0 1 f fd ["self"] (spN (CM Ct CL) [.bor] fTDeeds) := by
  refine okN0 F sc_dl_tdeeds rfl fun cdv A outer s H E hr => ⟨_, _, (pss_one (ps_ret (pe_callTy (T := "list") call_lsD (by rfl) T.list (by decide +kernel) (pa_cons (pe_fld (pv 0) rfl) pa_nil)))), inferInstance, fun ds Q h => ?_⟩
  obtain ⟨ns, rs, rfl, q⟩ := h
  exact ⟨0, _, 0, _, rfl, ⟨TC.cl, TC.nD, rfl, fun j hj => absurd hj (Nat.not_lt_zero _)⟩, rfl, _, _, rfl, rfl, q⟩

end
abbrev s_dl_dat : Stmt := top 46
abbrev N_dl_dat : List Str := ["thing", "places", "deeds", "place"]
theorem sc_dl_dat : FnScope N_dl_dat ["thing", "places"] (defScope s_dl_dat) := ⟨rfl, rfl, rfl, by decide +kernel, rfl, by decide +kernel, by decide +kernel⟩
def fDat : List D → (D → Prop) → Prop := fun ds P => ∃ ns rs ps, ds = [thingX ns rs, natsX ps] ∧ (∀ p ∈ ps, p < ns.length) ∧ ps.length ≤ 1000 ∧ P (namesX (nmP ns ps))
section
variable {P : Program} {w : World} {K : PySem.W.Frag} {mg : Str → Option Value} {base : Heap} {Ct CL f : Addr} {fd : FuncData}
theorem okd_dl_dat (F : Fun K "deeds_at" "deeds_at" s_dl_dat f fd) (T : Bl mg) (p_T_deeds : Dl.PrpM P w K mg base Ct 1 "deeds" (spN (CM Ct CL) [.bor] fTDeeds)) (TC : ThC K Ct) (LC : LyC K CL) : FnOk P w K mg base CX0 3 f fd ["thing", "places"] (spN (CM Ct CL) [.bor, .full] fDat) := by
  refine okN0 F sc_dl_dat rfl fun cdv A outer s H E hr => ⟨_, _, (pss_cons (ps_set (i := 2) sc_dl_dat.nd rfl (Or.inr rfl) (pe_prpV p_T_deeds TC.cl hr (by decide) (pv 0)))
  (pss_one (ps_ret (pe_lc (own := [("place", 3)]) (g := gName 3) (tt := tYes) (te := tOp (rIxL K) (tVar 2) (tVar 3)) rfl sc_dl_dat.nd (pi_list (pv 1)) (blkOk_by (N := N_dl_dat) (sc := defScope s_dl_dat) (by decide +kernel)) (fun _ _ _ _ _ => (pg_name (i := 3) sc_dl_dat.nd rfl (Or.inl rfl))) (fun _ _ _ _ _ => pts_nil) (fun _ _ _ _ _ => (pe_ix ix_list (pv 2) (pv 3) (fun _ _ => rfl))))))), inferInstance, fun ds Q h => ?_⟩
  obtain ⟨ns, rs, ps, rfl, hp, hl, q⟩ := h
  refine ⟨_, _, rfl, rfl, ns, rs, rfl, rfl, by simpa [natsX] using (by omega : ps.length ≤ 1000000), ?_⟩
  refine lcGo_map (h := fun p => D.str (ns.getD p "")) (fun p hpp k q => ?_) (by unfold namesX nmP at q; rw [List.map_map] at q; exact q)
  exact ⟨_, _, _, rfl, rfl, atI_map (getD_str (hp p hpp)), q⟩

end
abbrev s_dl_lth : Stmt := inClass (top 43) 1
abbrev N_dl_lth : List Str := ["self"]
theorem sc_dl_lth : FnScope N_dl_lth ["self"] (defScope s_dl_lth) := ⟨rfl, rfl, rfl, by decide +kernel, rfl, by decide +kernel, by decide +kernel⟩
def fLy (g : List Str → List Rw → Nat → List Nat → List Nat → (D → Prop) → Prop) : List D → (D → Prop) → Prop := fun ds P => ∃ ns rs n ps qs, ds = [layX ns rs n ps qs] ∧ g ns rs n ps qs P
section
variable {P : Program} {w : World} {K : PySem.W.Frag} {mg : Str → Option Value} {base : Heap} {Ct CL f : Addr} {fd : FuncData}
theorem okd_dl_lth (F : Fun K "thing" "Layout.thing" s_dl_lth f fd) (T : Bl mg)  (TC : ThC K Ct) (LC : LyC K CL) : FnOk P w K mg base CX0 1 f fd ["self"] (spD (CM Ct CL) [.bor] (fLy fun ns rs n ps qs P => P (thingX ns rs))) := by
  refine okD0 F sc_dl_lth rfl fun cdv A outer s H E hr => ⟨_, _, (pss_one (ps_ret (pe_fld (pv 0) rfl))), inferInstance, fun ds Q h => ?_⟩
  obtain ⟨ns, rs, n, ps, qs, rfl, q⟩ := h
  exact ⟨1, _, 0, _, rfl, ⟨LC.cl, LC.nT, rfl, fl0⟩, rfl, q⟩

end
abbrev s_dl_lst : Stmt := inClass (top 43) 2
abbrev N_dl_lst : List Str := ["self"]
theorem sc_dl_lst : FnScope N_dl_lst ["self"] (defScope s_dl_lst) := ⟨rfl, rfl, rfl, by decide +kernel, rfl, by decide +kernel, by decide +kernel⟩
section
variable {P : Program} {w : World} {K : PySem.W.Frag} {mg : Str → Option Value} {base : Heap} {Ct CL f : Addr} {fd : FuncData}
theorem okd_dl_lst (F : Fun K "state" "Layout.state" s_dl_lst f fd) (T : Bl mg)  (TC : ThC K Ct) (LC : LyC K CL) : FnOk P w K mg base CX0 1 f fd ["self"] (spD (CM Ct CL) [.bor] (fLy fun ns rs n ps qs P => P (.int (n : Nat)))) := by
  refine okD0 F sc_dl_lst rfl fun cdv A outer s H E hr => ⟨_, _, (pss_one (ps_ret (pe_fld (pv 0) rfl))), inferInstance, fun ds Q h => ?_⟩
  obtain ⟨ns, rs, n, ps, qs, rfl, q⟩ := h
  exact ⟨1, _, 1, _, rfl, ⟨LC.cl, LC.nS, rfl, fl1⟩, rfl, q⟩

end
abbrev s_dl_lfs : Stmt := inClass (top 43) 3
abbrev N_dl_lfs : List Str := ["self"]
theorem sc_dl_lfs : FnScope N_dl_lfs ["self"] (defScope s_dl_lfs) := ⟨rfl, rfl, rfl, by decide +kernel, rfl, by decide +kernel, by decide +kernel⟩
section
variable {P : Program} {w : World} {K : PySem.W.Frag} {mg : Str → Option Value} {base : Heap} {Ct CL f : Addr} {fd : FuncData}
theorem okd_dl_lfs (F : Fun K "first" "Layout.first" s_dl_lfs f fd) (T : Bl mg) (d_dl_dat : Xv.Cl P w K mg base 3 "deeds_at" (spN (CM Ct CL) [.bor, .full] fDat)) (TC : ThC K Ct) (LC : LyC K CL) : FnOk P w K mg base CX0 4 f fd ["self"] (spN (CM Ct CL) [.bor] (fLy fun ns rs n ps qs P => (∀ p ∈ ps, p < ns.length) ∧ ps.length ≤ 1000 ∧ P (namesX (nmP ns ps)))) := by
  refine okN0 F sc_dl_lfs rfl fun cdv A outer s H E hr => ⟨_, _, (pss_one (ps_ret (pe_cl d_dl_dat hr (by decide) (by rfl) (pa_cons (pe_fld (pv 0) rfl) (pa_cons (pe_fld (pv 0) rfl) pa_nil))))), inferInstance, fun ds Q h => ?_⟩
  obtain ⟨ns, rs, n, ps, qs, rfl, h1, h2, q⟩ := h
  exact ⟨1, _, 0, _, rfl, ⟨LC.cl, LC.nT, rfl, fl0⟩, rfl, ⟨1, _, 2, _, rfl, ⟨LC.cl, LC.nF, rfl, fl2⟩, rfl, ⟨ns, rs, ps, rfl, h1, h2, q⟩⟩⟩

end
abbrev s_dl_lsn : Stmt := inClass (top 43) 4
abbrev N_dl_lsn : List Str := ["self"]
theorem sc_dl_lsn : FnScope N_dl_lsn ["self"] (defScope s_dl_lsn) := ⟨rfl, rfl, rfl, by decide +kernel, rfl, by decide +kernel, by decide +kernel⟩
section
variable {P : Program} {w : World} {K : PySem.W.Frag} {mg : Str → Option Value} {base : Heap} {Ct CL f : Addr} {fd : FuncData}
theorem okd_dl_lsn (F : Fun K "second" "Layout.second" s_dl_lsn f fd) (T : Bl mg) (d_dl_dat : Xv.Cl P w K mg base 3 "deeds_at" (spN (CM Ct CL) [.bor, .full] fDat)) (TC : ThC K Ct) (LC : LyC K CL) : FnOk P w K mg base CX0 4 f fd ["self"] (spN (CM Ct CL) [.bor] (fLy fun ns rs n ps qs P => (∀ p ∈ qs, p < ns.length) ∧ qs.length ≤ 1000 ∧ P (namesX (nmP ns qs)))) := by
  refine okN0 F sc_dl_lsn rfl fun cdv A outer s H E hr => ⟨_, _, (pss_one (ps_ret (pe_cl d_dl_dat hr (by decide) (by rfl) (pa_cons (pe_fld (pv 0) rfl) (pa_cons (pe_fld (pv 0) rfl) pa_nil))))), inferInstance, fun ds Q h => ?_⟩
  obtain ⟨ns, rs, n, ps, qs, rfl, h1, h2, q⟩ := h
  exact ⟨1, _, 0, _, rfl, ⟨LC.cl, LC.nT, rfl, fl0⟩, rfl, ⟨1, _, 3, _, rfl, ⟨LC.cl, LC.nG, rfl, fl3⟩, rfl, ⟨ns, rs, qs, rfl, h1, h2, q⟩⟩⟩

end
abbrev s_dl_lhd : Stmt := inClass (top 43) 5
abbrev N_dl_lhd : List Str := ["self"]
theorem sc_dl_lhd : FnScope N_dl_lhd ["self"] (defScope s_dl_lhd) := ⟨rfl, rfl, rfl, by decide +kernel, rfl, by decide +kernel, by decide +kernel⟩
section
variable {P : Program} {w : World} {K : PySem.W.Frag} {mg : Str → Option Value} {base : Heap} {Ct CL f : Addr} {fd : FuncData}
theorem okd_dl_lhd (F : Fun K "hands" "Layout.hands" s_dl_lhd f fd) (T : Bl mg)  (TC : ThC K Ct) (LC : LyC K CL) : FnOk P w K mg base CX0 1 f fd ["self"] (spD (CM Ct CL) [.bor] (fLy fun ns rs n ps qs P => P (.int (ps.length + qs.length : Nat)))) := by
  refine okD0 F sc_dl_lhd rfl fun cdv A outer s H E hr => ⟨_, _, (pss_one (ps_ret (pe_op op_add (pe_callB (id := "len") (call_ln) (by rfl) T.len (by decide +kernel) (pa_cons (pe_fld (pv 0) rfl) pa_nil)) (pe_callB (id := "len") (call_ln) (by rfl) T.len (by decide +kernel) (pa_cons (pe_fld (pv 0) rfl) pa_nil))))), inferInstance, fun ds Q h => ?_⟩
  obtain ⟨ns, rs, n, ps, qs, rfl, q⟩ := h
  refine ⟨1, _, 2, _, rfl, ⟨LC.cl, LC.nF, rfl, fl2⟩, rfl, ⟨1, _, 3, _, rfl, ⟨LC.cl, LC.nG, rfl, fl3⟩, rfl, ?_⟩⟩
  show Q (.int (((ps.map _).length : Nat) + ((qs.map _).length : Nat)))
  rw [List.length_map, List.length_map]
  exact q

end
abbrev s_dl_lln : Stmt := inClass (top 43) 21
abbrev N_dl_lln : List Str := ["self"]
theorem sc_dl_lln : FnScope N_dl_lln ["self"] (defScope s_dl_lln) := ⟨rfl, rfl, rfl, by decide +kernel, rfl, by decide +kernel, by decide +kernel⟩
section
variable {P : Program} {w : World} {K : PySem.W.Frag} {mg : Str → Option Value} {base : Heap} {Ct CL f : Addr} {fd : FuncData}
theorem okd_dl_lln (F : Fun K "__len__" "Layout.__len__" s_dl_lln f fd) (T : Bl mg)  (TC : ThC K Ct) (LC : LyC K CL) : FnOk P w K mg base CX0 1 f fd ["self"] (spD (CM Ct CL) [.bor] (fLy fun ns rs n ps qs P => ps.length + qs.length ≤ 1000 ∧ P (.int (ps.length + qs.length : Nat)))) := by
  refine okD0 F sc_dl_lln rfl fun cdv A outer s H E hr => ⟨_, _, (pss_one (ps_ret (pe_callB (id := "len") (call_ln) (by rfl) T.len (by decide +kernel) (pa_cons (pe_op op_cat (pe_fld (pv 0) rfl) (pe_fld (pv 0) rfl)) pa_nil)))), inferInstance, fun ds Q h => ?_⟩
  obtain ⟨ns, rs, n, ps, qs, rfl, h1, q⟩ := h
  refine ⟨1, _, 2, _, rfl, ⟨LC.cl, LC.nF, rfl, fl2⟩, rfl, ⟨1, _, 3, _, rfl, ⟨LC.cl, LC.nG, rfl, fl3⟩, rfl, ⟨_, _, rfl, rfl, by rw [List.length_map, List.length_map]; omega, ?_⟩⟩⟩
  show Q (.int ((ps.map (fun (p : Nat) => D.int (p : Nat)) ++ qs.map (fun (p : Nat) => D.int (p : Nat))).length : Nat))
  rw [List.length_append, List.length_map, List.length_map]
  exact q

end
abbrev s_dl_ldeed : Stmt := inClass (top 43) 6
abbrev N_dl_ldeed : List Str := ["self", "hand", "places"]
theorem sc_dl_ldeed : FnScope N_dl_ldeed ["self", "hand"] (defScope s_dl_ldeed) := ⟨rfl, rfl, rfl, by decide +kernel, rfl, by decide +kernel, by decide +kernel⟩
def fLDeed : List D → (D → Prop) → Prop := fun ds P => ∃ ns rs n ps qs i p, ds = [layX ns rs n ps qs, .int (i : Nat)] ∧ ps.length + qs.length ≤ 1000 ∧ (ps ++ qs)[i]? = some p ∧ p < ns.length ∧ P (.str (ns.getD p ""))
section
variable {P : Program} {w : World} {K : PySem.W.Frag} {mg : Str → Option Value} {base : Heap} {Ct CL f : Addr} {fd : FuncData}
theorem okd_dl_ldeed (F : Fun K "deed" "Layout.deed" s_dl_ldeed f fd) (T : Bl mg) (d_check_hand : Xv.Cl P w K mg base 4 "check_hand" (spD (CM Ct CL) [.bor, .bor] fCHand)) (m_L_len : Dl.OwnM P w K mg base CL 1 "__len__" ["self"] (spD (CM Ct CL) [.bor] (fLy fun ns rs n ps qs P => ps.length + qs.length ≤ 1000 ∧ P (.int (ps.length + qs.length : Nat))))) (p_T_deeds : Dl.PrpM P w K mg base Ct 1 "deeds" (spN (CM Ct CL) [.bor] fTDeeds)) (TC : ThC K Ct) (LC : LyC K CL) : FnOk P w K mg base CX0 5 f fd ["self", "hand"] (spD (CM Ct CL) [.bor, .bor] fLDeed) := by
  refine okD0 F sc_dl_ldeed rfl fun cdv A outer s H E hr => ⟨_, _, (pss_cons (ps_expr (pe_cl d_check_hand hr (by decide) (by rfl) (pa_cons (pv 1) (pa_cons (pe_callB (id := "len") (call_lenV m_L_len hr (by decide)) (by rfl) T.len (by decide +kernel) (pa_cons (pv 0) pa_nil)) pa_nil))))
  (pss_cons (ps_set (i := 2) sc_dl_ldeed.nd rfl (Or.inl rfl) (pe_op op_cat (pe_fld (pv 0) rfl) (pe_fld (pv 0) rfl)))
  (pss_one (ps_ret (pe_ix ix_list (pe_prpV p_T_deeds TC.cl hr (by decide) (pe_fld (pv 0) rfl)) (pe_ix ix_list (pv 2) (pv 1) (fun _ _ => rfl)) (fun _ _ => rfl)))))), inferInstance, fun ds Q h => ?_⟩
  obtain ⟨ns, rs, n, ps, qs, i, p, rfl, h1, hp, hl, q⟩ := h
  have hi := (List.getElem?_eq_some_iff.mp hp).1
  rw [List.length_append] at hi
  refine ⟨_, _, rfl, rfl, _, _, _, _, _, rfl, h1, _, rfl, by omega, by omega, ?_⟩
  refine ⟨_, _, rfl, by omega, by omega, ?_⟩
  refine ⟨1, _, 2, _, rfl, ⟨LC.cl, LC.nF, rfl, fl2⟩, rfl, ⟨1, _, 3, _, rfl, ⟨LC.cl, LC.nG, rfl, fl3⟩, rfl, ⟨_, _, rfl, rfl, by rw [List.length_map, List.length_map]; omega, ?_⟩⟩⟩
  refine ⟨1, _, 0, _, rfl, ⟨LC.cl, LC.nT, rfl, fl0⟩, rfl, ⟨0, _, rfl, rfl, ns, rs, rfl, ?_⟩⟩
  refine ⟨_, _, .int (p : Nat), rfl, rfl, atD (by rw [← List.map_append, List.getElem?_map, hp]; rfl), ?_⟩
  exact ⟨_, _, _, rfl, rfl, atI_map (getD_str hl), q⟩

end
abbrev s_dl_lteam : Stmt := inClass (top 43) 7
abbrev N_dl_lteam : List Str := ["self", "hand"]
theorem sc_dl_lteam : FnScope N_dl_lteam ["self", "hand"] (defScope s_dl_lteam) := ⟨rfl, rfl, rfl, by decide +kernel, rfl, by decide +kernel, by decide +kernel⟩
def fLTeam : List D → (D → Prop) → Prop := fun ds P => ∃ ns rs n ps qs i, ds = [layX ns rs n ps qs, .int (i : Nat)] ∧ ps.length + qs.length ≤ 1000 ∧ i < ps.length + qs.length ∧ P (.int (if i < ps.length then 0 else 1))
section
variable {P : Program} {w : World} {K : PySem.W.Frag} {mg : Str → Option Value} {base : Heap} {Ct CL f : Addr} {fd : FuncData}
theorem okd_dl_lteam (F : Fun K "team" "Layout.team" s_dl_lteam f fd) (T : Bl mg) (d_check_hand : Xv.Cl P w K mg base 4 "check_hand" (spD (CM Ct CL) [.bor, .bor] fCHand)) (m_L_len : Dl.OwnM P w K mg base CL 1 "__len__" ["self"] (spD (CM Ct CL) [.bor] (fLy fun ns rs n ps qs P => ps.length + qs.length ≤ 1000 ∧ P (.int (ps.length + qs.length : Nat))))) (TC : ThC K Ct) (LC : LyC K CL) : FnOk P w K mg base CX0 5 f fd ["self", "hand"] (spD (CM Ct CL) [.bor, .bor] fLTeam) := by
  refine okD0 F sc_dl_lteam rfl fun cdv A outer s H E hr => ⟨_, _, (pss_cons (ps_expr (pe_cl d_check_hand hr (by decide) (by rfl) (pa_cons (pv 1) (pa_cons (pe_callB (id := "len") (call_lenV m_L_len hr (by decide)) (by rfl) T.len (by decide +kernel) (pa_cons (pv 0) pa_nil)) pa_nil))))
  (pss_one (ps_ret (pe_ifExp (pt_cmpR op_lt (pv 1) (pe_callB (id := "len") (call_ln) (by rfl) T.len (by decide +kernel) (pa_cons (pe_fld (pv 0) rfl) pa_nil)) (nomark _)) pe_int pe_int)))), inferInstance, fun ds Q h => ?_⟩
  obtain ⟨ns, rs, n, ps, qs, i, rfl, h1, hl, q⟩ := h
  refine ⟨_, _, rfl, rfl, _, _, _, _, _, rfl, h1, _, rfl, by omega, by omega, ?_⟩
  refine ⟨_, _, rfl, by omega, by omega, ?_⟩
  refine ⟨1, _, 2, _, rfl, ⟨LC.cl, LC.nF, rfl, fl2⟩, rfl, ?_⟩
  show if decide (((i : Nat) : Int) < (((ps.map _).length : Nat) : Int)) = true then Q (.int 0) else Q (.int 1)
  rw [List.length_map]
  by_cases hh : i < ps.length
  · rw [if_pos (decide_eq_true (by omega))]
    rw [if_pos hh] at q
    exact q
  · rw [if_neg (fun z => hh (by have := of_decide_eq_true z; omega))]
    rw [if_neg hh] at q
    exact q

end
end K21

/-! Data logic, part 9: draws, sorted numbers, small texts -/
namespace Dl
open PySem PySem.Spec PyProof.Rows L2 Xv Cr
theorem paired_len {α β : Type} {R : α → β → Prop} {a : List α} {b : List β} (h : Paired R a b) : b.length = a.length := (Paired.length h).symm
theorem paired_all {α β : Type} {R : α → β → Prop} {S : β → Prop} (hs : ∀ x y, R x y → S y) : ∀ {a : List α} {b : List β}, Paired R a b → ∀ y ∈ b, S y
  | _, _, .nil, _, hy => by cases hy
  | _, _, .cons r t, y, hy => by
    rcases List.mem_cons.mp hy with rfl | z
    · exact hs _ _ r
    · exact paired_all hs t y z
theorem lcGo_draws {st : D → (Option D → Prop) → Prop} {P : D → Prop} {n m : Nat} (hs : ∀ (i : Nat) (k : Option D → Prop), i < n → (∀ a : Nat, a < m → k (some (.int (a : Nat)))) → st (.int (i : Nat)) k) (q : ∀ g : List Nat, g.length = n → (∀ a ∈ g, a < m) → P (natsX g)) : lcGo st (rgD 0 n) [] P := by
  rw [rgD_zero]
  refine lcGo_rel (R := fun (_ a : Nat) => a < m) (h := fun a => D.int (a : Nat)) (fun i hi k hk => hs i k (List.mem_range.mp hi) hk) fun g hg => ?_
  exact q g (by rw [paired_len hg, List.length_range]) (paired_all (R := fun (_ a : Nat) => a < m) (S := fun a => a < m) (fun _ _ h => h) hg)
theorem natsX_ints (g : List Nat) : g.map (fun (p : Nat) => D.int (p : Nat)) = (g.map fun (p : Nat) => (p : Int)).map D.int := by rw [List.map_map]; rfl
theorem oInts_nats (g : List Nat) : oInts (g.map fun (p : Nat) => D.int (p : Nat)) = some (g.map fun (p : Nat) => (p : Int)) := by rw [natsX_ints, ints_map]
theorem nat_sort {g : List Nat} {r : List Int} (pm : r.Perm (g.map fun (a : Nat) => (a : Int))) (pw : r.Pairwise (· ≤ ·)) : ∃ u : List Nat, r.map D.int = u.map (fun (p : Nat) => D.int (p : Nat)) ∧ u.Perm g ∧ u.Pairwise (· ≤ ·) := by
  have nn : ∀ x ∈ r, 0 ≤ x := fun x hx => by
    obtain ⟨a, _, rfl⟩ := List.mem_map.mp (pm.mem_iff.mp hx)
    omega
  have e : (r.map Int.toNat).map (fun (a : Nat) => (a : Int)) = r := by
    rw [List.map_map]
    conv => rhs; rw [← List.map_id r]
    exact List.map_congr_left fun x hx => Int.toNat_of_nonneg (nn x hx)
  refine ⟨r.map Int.toNat, by rw [natsX_ints, e], ?_, ?_⟩
  · have := pm.map Int.toNat
    rw [List.map_map] at this
    have e2 : g.map (Int.toNat ∘ fun (a : Nat) => (a : Int)) = g := by
      conv => rhs; rw [← List.map_id g]
      exact List.map_congr_left fun x _ => rfl
    rw [e2] at this
    exact this
  · rw [List.pairwise_map]
    exact pw.imp fun h => Int.toNat_le_toNat h
theorem sortedN {g : List Nat} {P : D → Prop} (hl : g.length < 64) (q : ∀ u : List Nat, u.Perm g → u.Pairwise (· ≤ ·) → P (natsX u)) : fSorted [natsX g] P := by
  refine ⟨_, _, rfl, oInts_nats g, by rw [List.length_map]; exact hl, fun cs pm pw => ?_⟩
  obtain ⟨u, e, p1, p2⟩ := nat_sort pm pw
  rw [e]
  exact q u p1 p2
theorem lcGo_rg {st : D → (Option D → Prop) → Prop} {P : D → Prop} {n : Nat} {h : Nat → D} (hs : ∀ (i : Nat) (k : Option D → Prop), i < n → k (some (h i)) → st (.int (i : Nat)) k) (q : P (.lst ((List.range n).map h))) : lcGo st (rgD 0 n) [] P := by
  rw [rgD_zero]
  exact lcGo_map (h := h) (fun i hi k hk => hs i k (List.mem_range.mp hi) hk) q
def gLstRg (ga : GE) : GE := fun ρ P => ga ρ fun x => ∃ n : Int, x = .int n ∧ 0 ≤ n ∧ n ≤ 1000000 ∧ P (.lst (rgD 0 n.toNat))
theorem rpa_rg {M : Cm} {F : Addr → Prop} {H : Hp} (n : Nat) : RpA M F H ((List.range n).map fun (i : Nat) => V.int (0 + (i : Nat))) (rgD 0 n) := by
  unfold rgD
  induction List.range n with
  | nil => exact .nil
  | cons a r ih => exact .cons (.int _) ih
instance {M : Cm} {ta : TE} {ga : GE} [h1 : DB M ta ga] : DN M (tLstRg (tRg1 ta)) (gLstRg ga) := ⟨fun {pt F0 H0 z0 F o σ H ρ P Q} e q k =>
  h1.run e q fun d1 F1 H1 v1 q1 x1 r1 => by
    obtain ⟨n, rfl, n0, n1, q1⟩ := q1
    cases rb_int r1
    refine ⟨n, rfl, RgOk.of_le (by omega) (by omega) (by omega) (by omega), fun p np => ?_⟩
    have ok1 := (e.step x1).ok
    have ev : rgV 0 n = (List.range n.toNat).map fun (i : Nat) => V.int (0 + (i : Nat)) := by unfold rgV; rw [Int.sub_zero]
    rw [ev]
    have x2 := Ext.put0 (F := F1) ok1 (o := .lst ((List.range n.toNat).map fun (i : Nat) => V.int (0 + (i : Nat)))) np
    exact k _ F1 _ p q1 (x1.trans x2) ⟨p, _, rfl, ok1.not_pt np, upd_same, rpa_rg _⟩ (x1.nn np) fun z => ok1.liv p z np⟩
theorem range_getD {α : Type} {f : Nat → α} (l : List Nat) : (List.range l.length).map (fun i => f (l.getD i 0)) = l.map f := by
  refine List.ext_getElem? fun i => ?_
  rw [List.getElem?_map, List.getElem?_map]
  by_cases h : i < l.length
  · rw [List.getElem?_range h, List.getElem?_eq_getElem h]
    show some (f (l.getD i 0)) = _
    rw [List.getD_eq_getElem?_getD, List.getElem?_eq_getElem h]
    rfl
  · rw [List.getElem?_eq_none (by rw [List.length_range]; omega), List.getElem?_eq_none (by omega)]
    rfl
theorem range_two {α : Type} {a b : α} (m n : Nat) : (List.range (m + n)).map (fun i => if i < m then a else b) = List.replicate m a ++ List.replicate n b := by
  refine List.ext_getElem? fun i => ?_
  rw [List.getElem?_map]
  by_cases h : i < m + n
  · rw [List.getElem?_range h]
    by_cases k : i < m
    · rw [List.getElem?_append_left (by rw [List.length_replicate]; exact k), List.getElem?_replicate, if_pos k]
      show some (if i < m then a else b) = _
      rw [if_pos k]
    · rw [List.getElem?_append_right (by rw [List.length_replicate]; omega), List.length_replicate, List.getElem?_replicate, if_pos (by omega)]
      show some (if i < m then a else b) = _
      rw [if_neg k]
  · rw [List.getElem?_eq_none (by rw [List.length_range]; omega), List.getElem?_eq_none (by rw [List.length_append, List.length_replicate, List.length_replicate]; omega)]
    rfl
theorem range_const {α : Type} {a : α} (n : Nat) : (List.range n).map (fun _ => a) = List.replicate n a := by
  have := List.map_const (l := List.range n) (b := a)
  rw [List.length_range] at this
  exact this
def gNeg (ga : GE) : GE := fun ρ P => ga ρ fun x => match x with | .int i => P (.int (-i)) | _ => False
instance {M : Cm} {ta : TE} {ga : GE} [h1 : DB M ta ga] : DTc M (tUn (rU fun i => .int (-i)) ta) (gNeg ga) := ⟨fun {pt F0 H0 z0 F o σ H ρ P Q} e q k =>
  h1.run e q fun d1 F1 H1 v1 q1 x1 r1 => by
    split at q1
    · cases rb_int r1
      exact ⟨_, rfl, k _ F1 H1 _ q1 x1 (.int _)⟩
    · exact q1.elim⟩
theorem cut_from (xs : List D) (n : Nat) : cutD xs (some (n : Int)) none = xs.drop n := by
  unfold cutD
  rw [HT.sIx_none, HT.sIx_nat]
  by_cases h : n ≤ xs.length
  · rw [Nat.min_eq_left h, List.take_of_length_le (by rw [List.length_drop]; omega)]
  · rw [Nat.min_eq_right (by omega), List.drop_length, List.drop_of_length_le (by omega), List.take_nil]
theorem cut_to (xs : List D) (n : Nat) : cutD xs none (some (n : Int)) = xs.take n := by
  unfold cutD
  rw [HT.sIx_none, HT.sIx_nat, List.drop_zero, Nat.sub_zero]
  by_cases h : n ≤ xs.length
  · rw [Nat.min_eq_left h]
  · rw [Nat.min_eq_right (by omega), List.take_length, List.take_of_length_le (by omega)]
theorem cut_init (xs : List D) : cutD xs none (some (-1)) = xs.take (xs.length - 1) := by
  unfold cutD
  rw [HT.sIx_none, List.drop_zero, Nat.sub_zero]
  have e : HT.sIx xs.length xs.length (some (-1)) = xs.length - 1 := by
    show (if (-1 : Int) < 0 then ((-1 : Int) + (xs.length : Int)).toNat else min ((-1 : Int).toNat) xs.length) = _
    rw [if_pos (by decide)]
    omega
  rw [e]
abbrev nD : Nat → D := fun p => .int (p : Nat)
theorem cutN_from (g : List Nat) : cutD (g.map fun (p : Nat) => D.int (p : Nat)) (some 1) none = (g.drop 1).map fun (p : Nat) => D.int (p : Nat) := by
  have := cut_from (g.map fun (p : Nat) => D.int (p : Nat)) 1
  rw [← List.map_drop] at this
  exact this
theorem cutN_to (g : List Nat) : cutD (g.map fun (p : Nat) => D.int (p : Nat)) none (some 1) = (g.take 1).map fun (p : Nat) => D.int (p : Nat) := by
  have := cut_to (g.map fun (p : Nat) => D.int (p : Nat)) 1
  rw [← List.map_take] at this
  exact this
theorem cutN_init (g : List Nat) : cutD (g.map fun (p : Nat) => D.int (p : Nat)) none (some (-1)) = (g.take (g.length - 1)).map fun (p : Nat) => D.int (p : Nat) := by
  have := cut_init (g.map fun (p : Nat) => D.int (p : Nat))
  rw [← List.map_take, List.length_map] at this
  exact this
theorem catN {a b : List D} {g1 g2 : List Nat} {P : D → Prop} (e1 : a = g1.map fun (p : Nat) => D.int (p : Nat)) (e2 : b = g2.map fun (p : Nat) => D.int (p : Nat)) (hl : g1.length + g2.length ≤ 16777216) (q : P (natsX (g1 ++ g2))) : fCat (.lst a) (.lst b) P := by
  subst e1 e2
  refine ⟨_, _, rfl, rfl, by rw [List.length_map, List.length_map]; exact hl, ?_⟩
  rw [← List.map_append]
  exact q
theorem sortedG {ρ : Rho} {g : List Nat} {P : D → Prop} (hl : g.length < 64) (q : ∀ u : List Nat, u.Perm g → u.Pairwise (· ≤ ·) → P (natsX u)) : Dl.gNil ρ (fun ds => fSorted (natsX g :: ds) P) := sortedN hl q
theorem mem_rgD {n : Nat} {x : D} (h : x ∈ rgD 0 n) : ∃ a : Nat, a < n ∧ x = .int (a : Nat) := by
  rw [rgD_zero] at h
  obtain ⟨a, ha, rfl⟩ := List.mem_map.mp h
  exact ⟨a, List.mem_range.mp ha, rfl⟩
/-! ### texts that are short -/
theorem lenX (ds : List D) (P : D → Prop) (q : P (.int (ds.length : Nat))) : fLen [.lst ds] P := q
end Dl

namespace K21
open PySem PySem.Spec PyProof.Rows L2 Xv Cr TL Dl
instance mkT {Ct CL : Addr} {ks : List Kd} {t : TA} {g : GA} {f : List D → (D → Prop) → Prop} {E : XK} [h1 : DA (CM Ct CL) ks t g] : DN (CM Ct CL) (tMake Ct (spI (CM Ct CL) 0 ks f) [] E t) (gMake 0 f g) := make_run (M := CM Ct CL) (c := 0) h1
instance mkL {Ct CL : Addr} {ks : List Kd} {t : TA} {g : GA} {f : List D → (D → Prop) → Prop} {E : XK} [h1 : DA (CM Ct CL) ks t g] : DN (CM Ct CL) (tMake CL (spI (CM Ct CL) 1 ks f) [] E t) (gMake 1 f g) := make_run (M := CM Ct CL) (c := 1) h1
abbrev s_dl_named : Stmt := top 57
abbrev N_dl_named : List Str := ["_law_model_here", "_law_places", "_law_place"]
theorem sc_dl_named : FnScope N_dl_named ["_law_model_here", "_law_places"] (defScope s_dl_named) := ⟨rfl, rfl, rfl, by decide +kernel, rfl, by decide +kernel, by decide +kernel⟩
def fNamed : List D → (D → Prop) → Prop := fun ds P => ∃ ns rs ps, ds = [modelX ns rs, natsX ps] ∧ (∀ p ∈ ps, p < ns.length) ∧ ps.length ≤ 1000 ∧ P (namesX (nmP ns ps))
section
variable {P : Program} {w : World} {K : PySem.W.Frag} {mg : Str → Option Value} {base : Heap} {Ct CL f : Addr} {fd : FuncData}
theorem okd_dl_named (F : Fun K "_law_named" "_law_named" s_dl_named f fd) (T : Bl mg)   : FnG P w K mg base 1 f fd ["_law_model_here", "_law_places"] (spN (CM Ct CL) [.bor, .full] fNamed) := by
  refine okN F sc_dl_named rfl fun cdv A outer s H hr hgd => ⟨_, _, (pss_one (ps_ret (pe_lc (own := [("_law_place", 2)]) (g := gName 2) (tt := tYes) (te := tOp (rIxL K) (tDGet (tVar 0) (tC (.str "deeds"))) (tVar 2)) rfl sc_dl_named.nd (pi_list (pv 1)) (blkOk_by (N := N_dl_named) (sc := defScope s_dl_named) (by decide +kernel)) (fun _ _ _ _ _ => (pg_name (i := 2) sc_dl_named.nd rfl (Or.inl rfl))) (fun _ _ _ _ _ => pts_nil) (fun _ _ _ _ _ => (pe_ix ix_list (pe_dget (hu_of hr) (pv 0) pe_str (fun _ _ => rfl)) (pv 2) (fun _ _ => rfl)))))), inferInstance, fun ds Q h => ?_⟩
  obtain ⟨ns, rs, ps, rfl, hp, hl, q⟩ := h
  refine ⟨rfl, by rw [List.length_map]; omega, lcGo_map (h := fun p => D.str (ns.getD p "")) (fun p hpp k q => ?_) (by unfold namesX nmP at q; rw [List.map_map] at q; exact q)⟩
  exact ⟨_, _, _, rfl, rfl, lk_deeds ns rs, _, _, _, rfl, rfl, atI_map (getD_str (hp p hpp)), q⟩

end
abbrev s_dl_thing : Stmt := top 55
abbrev N_dl_thing : List Str := ["_law_model_here"]
theorem sc_dl_thing : FnScope N_dl_thing ["_law_model_here"] (defScope s_dl_thing) := ⟨rfl, rfl, rfl, by decide +kernel, rfl, by decide +kernel, by decide +kernel⟩
def fLThing : List D → (D → Prop) → Prop := fun ds P => ∃ ns rs, ds = [modelX ns rs] ∧ Right ns rs ∧ P (thingX ns rs)
section
variable {P : Program} {w : World} {K : PySem.W.Frag} {mg : Str → Option Value} {base : Heap} {Ct CL f : Addr} {fd : FuncData}
theorem okd_dl_thing (F : Fun K "_law_thing" "_law_thing" s_dl_thing f fd) (T : Bl mg) (m_thing : C8.Mak P w K mg base 7 "Thing" Ct (spI (CM Ct CL) 0 [.bor, .bor] fThing) [])  : FnG P w K mg base 9 f fd ["_law_model_here"] (spN (CM Ct CL) [.bor] fLThing) := by
  refine okN F sc_dl_thing rfl fun cdv A outer s H hr hgd => ⟨_, _, (pss_one (ps_ret (C8.pe_mk m_thing hr (by decide) (by rfl) (pa_cons (pe_dget (hu_of hr) (pv 0) pe_str (fun _ _ => rfl)) (pa_cons (pe_dget (hu_of hr) (pv 0) pe_str (fun _ _ => rfl)) pa_nil))))), inferInstance, fun ds Q h => ?_⟩
  obtain ⟨ns, rs, rfl, R, q⟩ := h
  exact ⟨_, _, _, rfl, rfl, lk_deeds ns rs, _, _, _, rfl, rfl, lk_rows ns rs, ns, rs, rfl, R, q⟩

end
abbrev s_dl_teams : Stmt := top 56
abbrev N_dl_teams : List Str := ["_law_pot_here", "_law_model_here", "_law_most_hands", "_law_many", "_law_left", "_law_size", "_law_first", "_law_hand", "_law_second"]
theorem sc_dl_teams : FnScope N_dl_teams ["_law_pot_here", "_law_model_here", "_law_most_hands"] (defScope s_dl_teams) := ⟨rfl, rfl, rfl, by decide +kernel, rfl, by decide +kernel, by decide +kernel⟩
def lotX (n : Nat) (ps qs : List Nat) : D := .tup [.int (n : Nat), natsX ps, natsX qs]
def fTeams : List D → (D → Prop) → Prop := fun ds P => ∃ ns rs, ds = [.non, modelX ns rs, .int 5] ∧ Right ns rs ∧ ∀ n ps qs, LotOk n ps qs rs.length ns.length 5 → P (lotX n ps qs)
section
variable {P : Program} {w : World} {K : PySem.W.Frag} {mg : Str → Option Value} {base : Heap} {Ct CL f : Addr} {fd : FuncData}
theorem okd_dl_teams (F : Fun K "_law_teams" "_law_teams" s_dl_teams f fd) (T : Bl mg) (B_sorted : mg "sorted" = none) (d_draw : Xv.Cl P w K mg base 1 "_law_draw" (spD (CM Ct CL) [.pot, .bor] fDraw))  : FnG P w K mg base 2 f fd ["_law_pot_here", "_law_model_here", "_law_most_hands"] (spN (CM Ct CL) [.pot, .bor, .bor] fTeams) := by
  refine okN F sc_dl_teams rfl fun cdv A outer s H hr hgd => ⟨_, _, (pss_cons (ps_asg (pe_tup (pa_cons (pe_callB (id := "len") (call_ln) (by rfl) T.len (by decide +kernel) (pa_cons (pe_dget (hu_of hr) (pv 1) pe_str (fun _ _ => rfl)) pa_nil)) (pa_cons (pe_op op_add pe_int (pe_cl d_draw hr (by decide) (by rfl) (pa_cons (pv 0) (pa_cons (pe_op op_sub (pv 2) pe_int) pa_nil)))) pa_nil))) (pg_tup (n := 2) rfl (pgs_cons (pg_name (i := 3) sc_dl_teams.nd rfl (Or.inr rfl)) (pgs_cons (pg_name (i := 4) sc_dl_teams.nd rfl (Or.inl rfl)) pgs_nil))))
  (pss_cons (ps_set (i := 5) sc_dl_teams.nd rfl (Or.inl rfl) (pe_op op_add pe_int (pe_cl d_draw hr (by decide) (by rfl) (pa_cons (pv 0) (pa_cons (pe_op op_sub (pv 4) pe_int) pa_nil)))))
  (pss_cons (ps_set (i := 6) sc_dl_teams.nd rfl (Or.inl rfl) (pe_callB (id := "sorted") cr_sorted (by rfl) B_sorted (by decide +kernel) (pa_cons (pe_lc (own := [("_law_hand", 7)]) (g := gName 7) (tt := tYes) (te := tCall (spD (CM Ct CL) [.pot, .bor] fDraw) [] E0 (tCons (tVar 0) (tCons (tVar 3) (tNil)))) rfl sc_dl_teams.nd (pi_range1 rfl T.range (pa_cons (pv 5) pa_nil)) (blkOk_by (N := N_dl_teams) (sc := defScope s_dl_teams) (by decide +kernel)) (fun _ _ _ _ _ => (pg_name (i := 7) sc_dl_teams.nd rfl (Or.inl rfl))) (fun _ _ _ _ _ => pts_nil) (fun _ _ _ _ _ => (pe_cl d_draw hr (by decide) (by rfl) (pa_cons (pv 0) (pa_cons (pv 3) pa_nil))))) pa_nil)))
  (pss_cons (ps_set (i := 8) sc_dl_teams.nd rfl (Or.inl rfl) (pe_callB (id := "sorted") cr_sorted (by rfl) B_sorted (by decide +kernel) (pa_cons (pe_lc (own := [("_law_hand", 7)]) (g := gName 7) (tt := tYes) (te := tCall (spD (CM Ct CL) [.pot, .bor] fDraw) [] E0 (tCons (tVar 0) (tCons (tVar 3) (tNil)))) rfl sc_dl_teams.nd (pi_range1 rfl T.range (pa_cons (pe_op op_sub (pv 4) (pv 5)) pa_nil)) (blkOk_by (N := N_dl_teams) (sc := defScope s_dl_teams) (by decide +kernel)) (fun _ _ _ _ _ => (pg_name (i := 7) sc_dl_teams.nd rfl (Or.inl rfl))) (fun _ _ _ _ _ => pts_nil) (fun _ _ _ _ _ => (pe_cl d_draw hr (by decide) (by rfl) (pa_cons (pv 0) (pa_cons (pv 3) pa_nil))))) pa_nil)))
  (pss_one (ps_ret (pe_tup (pa_cons (pe_cl d_draw hr (by decide) (by rfl) (pa_cons (pv 0) (pa_cons (pe_callB (id := "len") (call_ln) (by rfl) T.len (by decide +kernel) (pa_cons (pe_dget (hu_of hr) (pv 1) pe_str (fun _ _ => rfl)) pa_nil)) pa_nil))) (pa_cons (pv 6) (pa_cons (pv 8) pa_nil)))))))))), inferInstance, fun ds Q h => ?_⟩
  obtain ⟨ns, rs, rfl, R, q⟩ := h
  have r8 := R.r8
  have r0 := R.r0
  have d4 := R.d4
  have d0 := R.d0
  refine ⟨_, _, _, rfl, rfl, lk_deeds ns rs, 4, rfl, by decide, by decide, fun e he => ⟨by show 2 ≤ 16777216; decide, rfl, ?_⟩⟩
  refine ⟨_, rfl, by omega, by omega, fun v hv => ?_⟩
  have hl : (ns.map D.str).length = ns.length := List.length_map _
  refine ⟨⟨by omega, by omega⟩, rfl, by rw [rgD_len]; omega, lcGo_draws (m := ns.length) (fun i k hi hk => ⟨_, rfl, by omega, by omega, fun a ha => hk a (by omega)⟩) fun g gl gm => ?_⟩
  dsimp only [Dl.gNil]
  refine sortedN (g := g) (by omega) fun ps pp pw => ?_
  refine ⟨⟨by omega, by omega⟩, rfl, by rw [rgD_len]; omega, lcGo_draws (m := ns.length) (fun i k hi hk => ⟨_, rfl, by omega, by omega, fun a ha => hk a (by omega)⟩) fun g2 gl2 gm2 => ?_⟩
  dsimp only [Dl.gNil]
  refine sortedN (g := g2) (by omega) fun qs qp qw => ?_
  have hr : (rs.map rowX).length = rs.length := List.length_map _
  refine ⟨_, _, _, rfl, rfl, lk_rows ns rs, _, rfl, by omega, by omega, fun n hn => ⟨by show 3 ≤ 16777216; decide, ?_⟩⟩
  have l1 := pp.length_eq
  have l2 := qp.length_eq
  exact q n ps qs ⟨by omega, by omega, by omega, by omega, fun z hz => gm z (pp.mem_iff.mp hz), fun z hz => gm2 z (qp.mem_iff.mp hz), pw, qw⟩

end
abbrev s_dl_mixed : Stmt := top 58
abbrev N_dl_mixed : List Str := ["_law_pot_here", "_law_some", "_law_left", "_law_found", "_law_turn"]
theorem sc_dl_mixed : FnScope N_dl_mixed ["_law_pot_here", "_law_some"] (defScope s_dl_mixed) := ⟨rfl, rfl, rfl, by decide +kernel, rfl, by decide +kernel, by decide +kernel⟩
theorem perm_er {α : Type} : ∀ (l : List α) (k : Nat) (h : k < l.length), (l[k] :: l.eraseIdx k).Perm l
  | _ :: _, 0, _ => List.Perm.refl _
  | x :: r, k + 1, h => (List.Perm.swap x (r[k]'(Nat.lt_of_succ_lt_succ h)) (r.eraseIdx k)).trans (List.Perm.cons x (perm_er r k (Nat.lt_of_succ_lt_succ h)))
def fMixed : List D → (D → Prop) → Prop := fun ds P => ∃ xs : List D, ds = [.non, .lst xs] ∧ xs.length ≤ 100 ∧ ∀ ys : List D, ys.Perm xs → P (.lst ys)
section
variable {P : Program} {w : World} {K : PySem.W.Frag} {mg : Str → Option Value} {base : Heap} {Ct CL f : Addr} {fd : FuncData}
theorem okd_dl_mixed (F : Fun K "_law_mixed" "_law_mixed" s_dl_mixed f fd) (T : Bl mg) (d_draw : Xv.Cl P w K mg base 1 "_law_draw" (spD (CM Ct CL) [.pot, .bor] fDraw))  : FnG P w K mg base 2 f fd ["_law_pot_here", "_law_some"] (spN (CM Ct CL) [.pot, .bor] fMixed) := by
  refine okN F sc_dl_mixed rfl fun cdv A outer s H hr hgd => ⟨_, _, (pss_cons (ps_parO (ps_par (i := 2) (j := 3) rfl sc_dl_mixed.nd rfl rfl (by decide) rfl rfl (pa_cons (pe_callTy (T := "list") call_lsD (by rfl) T.list (by decide +kernel) (pa_cons (pv 1) pa_nil)) (pa_cons (pe_lst pa_nil) pa_nil)) (by rfl)))
  (pss_cons (ps_for PassesOwn.never rfl (pi_range1 rfl T.range (pa_cons (pe_callB (id := "len") (call_ln) (by rfl) T.len (by decide +kernel) (pa_cons (pv 1) pa_nil)) pa_nil)) (pg_name (i := 4) sc_dl_mixed.nd rfl (Or.inl rfl))
  (pss_one (ps_expr (pe_bm PySem.F.plainAttrs_list PySem.F.slot_list_append PySem.F.type_list_append mt_append (pv 3) (pa_cons (pe_bm PySem.F.plainAttrs_list PySem.F.slot_list_pop PySem.F.type_list_pop mt_popAt (pv 2) (pa_cons (pe_cl d_draw hr (by decide) (by rfl) (pa_cons (pv 0) (pa_cons (pe_callB (id := "len") (call_ln) (by rfl) T.len (by decide +kernel) (pa_cons (pv 2) pa_nil)) pa_nil))) pa_nil)) pa_nil)))))
  (pss_one (ps_ret (pv 3))))), inferInstance, fun ds Q h => ?_⟩
  obtain ⟨xs, rfl, hl, q⟩ := h
  refine ⟨⟨by decide, by decide⟩, _, _, rfl, rfl, ?_⟩
  refine ⟨by show 0 ≤ 16777216; decide, ?_⟩
  refine ⟨⟨by omega, by omega⟩, ?_⟩
  rw [rgD_zero]
  refine forGo_inv (fun i ρ => ∃ ys rest u, ρ = [.pot, .b (.lst xs), .own (.lst rest), .own (.lst ys), u] ∧ (ys ++ rest).Perm xs ∧ ys.length = i ∧ ys.length + rest.length = xs.length) ⟨[], xs, _, rfl, List.Perm.refl _, rfl, by simp⟩ (fun i x ρ hx hI k hk => ?_) (fun ρ hI => ?_)
  · obtain ⟨ys, rest, u, rfl, pm, hy, hs⟩ := hI
    have hi := (List.getElem?_eq_some_iff.mp hx).1
    rw [List.length_range] at hi
    refine ⟨by decide, _, rfl, by omega, by omega, fun d hd => ?_⟩
    have hd' : d < rest.length := by omega
    refine ⟨_, d, rest[d], rfl, by omega, by omega, by omega, List.getElem?_eq_getElem hd', by omega, hk _ ⟨ys ++ [rest[d]], rest.eraseIdx d, _, rfl, ?_, by rw [List.length_append, hy]; rfl, by rw [List.length_append, List.length_eraseIdx_of_lt hd']; show ys.length + 1 + _ = _; omega⟩⟩
    refine List.Perm.trans ?_ pm
    rw [List.append_assoc]
    exact List.Perm.append_left ys (perm_er rest d hd')
  · obtain ⟨ys, rest, u, rfl, pm, hy, hs⟩ := hI
    rw [List.length_range] at hy
    have : rest = [] := List.eq_nil_of_length_eq_zero (by omega)
    subst this
    rw [List.append_nil] at pm
    exact q ys pm

end
end K21

namespace K21
open PySem PySem.Spec PyProof.Rows L2 Xv Cr TL Dl
abbrev s_dl_due : Stmt := top 59
abbrev N_dl_due : List Str := ["_law_model_here", "_law_lot", "_law_near", "_law_far", "_law_sizes", "_law_shown"]
theorem sc_dl_due : FnScope N_dl_due ["_law_model_here", "_law_lot"] (defScope s_dl_due) := ⟨rfl, rfl, rfl, by decide +kernel, rfl, by decide +kernel, by decide +kernel⟩
theorem Sm.ok {p : PyData} {a b : Nat} (s : Sm p a b) (ha : a ≤ 60) (hb : b ≤ 1000000) : p.showable = true ∧ p.depth ≤ 60 ∧ p.shown.length ≤ 16777216 := ⟨s.sh, Nat.le_trans s.dp ha, by have := s.fits hb; rw [sizeLine_eq] at this; exact this⟩
theorem lenS {a b : Str} (h : (a ++ b).length ≤ 40000) : a.length + b.length ≤ 16777216 := by
  rw [strLen_append] at h
  omega
theorem join4 (a b c d : Str) : Txt.join ", " [a, b, c, d] = a ++ ", " ++ (b ++ ", " ++ (c ++ ", " ++ d)) := by
  rw [join_eq]
  rfl
def dueD (ns : List Str) (rs : List Rw) (n : Nat) (ps qs : List Nat) : PyData := .list [.int n, namesD (nmP ns ps), namesD (nmP ns qs), .int (ps.length + qs.length : Nat), .int (ps.length + qs.length : Nat), namesD (nmP ns ps ++ nmP ns qs), .list ((List.replicate ps.length (.int 0)) ++ (List.replicate qs.length (.int 1))), .str (lyT ns rs n ps qs), .list (List.replicate (ps.length + qs.length) (.bool true))]
structure LRight (ns : List Str) (rs : List Rw) (n : Nat) (ps qs : List Nat) : Prop where
  R : Right ns rs
  hn : n < rs.length
  p4 : ps.length ≤ 4
  q4 : qs.length ≤ 4
  hp : ∀ p ∈ ps, p < ns.length
  hq : ∀ p ∈ qs, p < ns.length
theorem pyra_rep {d : D} {p : PyData} (h : PyR d p) : ∀ n, PyRA (List.replicate n d) (List.replicate n p)
  | 0 => .nil
  | n + 1 => .cons h (pyra_rep h n)
theorem pyra_app : ∀ {a b : List D} {p q : List PyData}, PyRA a p → PyRA b q → PyRA (a ++ b) (p ++ q)
  | _, _, _, _, .nil, k => k
  | _, _, _, _, .cons h r, k => .cons h (pyra_app r k)
theorem sma_rep {d : PyData} {dp a : Nat} (h : Sm d dp a) : ∀ n, SmA (List.replicate n d) dp (n * (a + 1))
  | 0 => by rw [Nat.zero_mul]; exact sma_nil
  | n + 1 => by
    have := sma_cons h (sma_rep h n)
    rw [Nat.succ_mul, Nat.add_comm (n * (a + 1))]
    exact this
theorem sma_app {dp : Nat} : ∀ {a b : List PyData} {x y : Nat}, SmA a dp x → SmA b dp y → SmA (a ++ b) dp (x + y)
  | [], b, x, y, _, k => ⟨k.sh, k.lv, k.dp, by have := k.wt; show PyData.weightAll b ≤ _; omega⟩
  | d :: r, b, x, y, h, k => by
    have e1 := h.sh
    have e2 := h.lv
    have e3 := h.dp
    have e4 := h.wt
    simp only [PyData.showableAll, Bool.and_eq_true] at e1
    simp only [PyData.leavesShortAll, Bool.and_eq_true] at e2
    simp only [PyData.depthAll] at e3
    simp only [PyData.weightAll] at e4
    have hr : SmA r dp (PyData.weightAll r) := ⟨e1.2, e2.2, by omega, Nat.le_refl _⟩
    have z := sma_app hr k
    refine ⟨?_, ?_, ?_, ?_⟩
    · show (d.showable && PyData.showableAll (r ++ b)) = true
      rw [e1.1, z.sh]
      rfl
    · show (d.leavesShort 13 && PyData.leavesShortAll 13 (r ++ b)) = true
      rw [e2.1, z.lv]
      rfl
    · show PyData.depthAll (d :: (r ++ b)) ≤ dp
      simp only [PyData.depthAll]
      have := z.dp
      omega
    · show PyData.weightAll (d :: (r ++ b)) ≤ _
      simp only [PyData.weightAll]
      have := z.wt
      omega
theorem asc_lay {ns : List Str} {rs : List Rw} {n : Nat} {ps qs : List Nat} (R : Right ns rs) (hp : ∀ p ∈ ps, p < ns.length) (hq : ∀ p ∈ qs, p < ns.length) : Asc (lyT ns rs n ps qs) :=
  asc_app (asc_app (asc_app (asc_app (asc_app (asc_app (asc_app (asc_app (by unfold Asc; decide) (asc_th rs R.nm)) (by unfold Asc; decide)) (asc_int _)) (by unfold Asc; decide)) (asc_names (nm_places R hp))) (by unfold Asc; decide)) (asc_names (nm_places R hq))) (by unfold Asc; decide)
theorem len_lay {ns : List Str} {rs : List Rw} {n : Nat} {ps qs : List Nat} (R : Right ns rs) (hn : n < rs.length) (p4 : ps.length ≤ 4) (q4 : qs.length ≤ 4) (hp : ∀ p ∈ ps, p < ns.length) (hq : ∀ p ∈ qs, p < ns.length) : (lyT ns rs n ps qs).length ≤ 50000 := by
  have S1 := (sm_names (ns := nmP ns ps) (by unfold nmP; rw [List.length_map]; exact p4) (nm_places R hp)).len
  have S2 := (sm_names (ns := nmP ns qs) (by unfold nmP; rw [List.length_map]; exact q4) (nm_places R hq)).len
  have c1 := len_th R
  have r8 := R.r8
  have c2 : (toString (n : Int) : Str).length ≤ 2 := int8 n (by omega)
  have cc : ((", " : Str)).length = 2 := rfl
  have cl : (("Layout(" : Str)).length = 7 := rfl
  have cr : ((")" : Str)).length = 1 := rfl
  unfold lyT
  simp only [strLen_append, cc, cl, cr]
  omega
theorem sm_due {ns : List Str} {rs : List Rw} {n : Nat} {ps qs : List Nat} (R : Right ns rs) (hn : n < rs.length) (p4 : ps.length ≤ 4) (q4 : qs.length ≤ 4) (hp : ∀ p ∈ ps, p < ns.length) (hq : ∀ p ∈ qs, p < ns.length) : Sm (dueD ns rs n ps qs) 2 60000 := by
  have r8 := R.r8
  have n1 := sm_names (ns := nmP ns ps) (by unfold nmP; rw [List.length_map]; exact p4) (nm_places R hp)
  have n2 := sm_names (ns := nmP ns qs) (by unfold nmP; rw [List.length_map]; exact q4) (nm_places R hq)
  have i1 := (sm_int (i := (n : Int)) (by omega)).mono (show 0 ≤ 1 by decide) (Nat.le_refl _)
  have i2 := (sm_int (i := ((ps.length + qs.length : Nat) : Int)) (by omega)).mono (show 0 ≤ 1 by decide) (Nat.le_refl _)
  have n3 : Sm (namesD (nmP ns ps ++ nmP ns qs)) 1 72 := by
    have := sm_list (sma_map (f := PyData.str) (dp := 0) (a := 8) (l := nmP ns ps ++ nmP ns qs) fun x hx => by
      have hn : Nm x := (List.mem_append.mp hx).elim (nm_places R hp x) (nm_places R hq x)
      exact (sm_str (nm_asc hn)).mono (Nat.le_refl _) hn.2.1)
    refine this.mono (Nat.le_refl _) ?_
    rw [List.length_append]
    unfold nmP
    rw [List.length_map, List.length_map]
    omega
  have t0 : Sm (PyData.list (List.replicate ps.length (.int 0) ++ List.replicate qs.length (.int 1))) 1 (8 * 32) := by
    refine (sm_list (sma_app (sma_rep (sm_int (i := 0) (by decide)) _) (sma_rep (sm_int (i := 1) (by decide)) _))).mono (Nat.le_refl _) ?_
    omega
  have sT : Sm (.bool true) 0 10 := ⟨by decide +kernel, by decide +kernel, by decide +kernel, by decide +kernel⟩
  have t1 : Sm (PyData.list (List.replicate (ps.length + qs.length) (.bool true))) 1 (8 * 11) := by
    refine (sm_list (sma_rep sT _)).mono (Nat.le_refl _) ?_
    omega
  have tt := (sm_str (asc_lay (n := n) R hp hq)).mono (show 0 ≤ 1 by decide) (len_lay R hn p4 q4 hp hq)
  exact (sm_list (sma_cons i1 (sma_cons n1 (sma_cons n2 (sma_cons i2 (sma_cons i2 (sma_cons n3 (sma_cons t0 (sma_cons tt (sma_cons t1 sma_nil)))))))))).mono (Nat.le_refl _) (by decide)
def fDue : List D → (D → Prop) → Prop := fun ds P => ∃ ns rs n ps qs, ds = [modelX ns rs, lotX n ps qs] ∧ Right ns rs ∧ n < rs.length ∧ ps.length ≤ 4 ∧ qs.length ≤ 4 ∧ (∀ p ∈ ps, p < ns.length) ∧ (∀ p ∈ qs, p < ns.length) ∧ P (.str (dueD ns rs n ps qs).shown)
section
variable {P : Program} {w : World} {K : PySem.W.Frag} {mg : Str → Option Value} {base : Heap} {Ct CL f : Addr} {fd : FuncData}
theorem okd_dl_due (F : Fun K "_law_due" "_law_due" s_dl_due f fd) (T : Bl mg) (B_sum : mg "sum" = none) (d_dl_named : ClG P w K mg base 1 "_law_named" (spN (CM Ct CL) [.bor, .full] fNamed))  : FnG P w K mg base 2 f fd ["_law_model_here", "_law_lot"] (spD (CM Ct CL) [.bor, .bor] fDue) := by
  refine okD F sc_dl_due rfl fun cdv A outer s H hr hgd => ⟨_, _, (pss_cons (ps_par (i := 2) (j := 3) rfl sc_dl_due.nd rfl rfl (by decide) rfl rfl (pa_cons (pe_clG d_dl_named hr (by decide) hgd (by rfl) (pa_cons (pv 0) (pa_cons (pe_ix ix_tup (pv 1) pe_int (fun _ _ => rfl)) pa_nil))) (pa_cons (pe_clG d_dl_named hr (by decide) hgd (by rfl) (pa_cons (pv 0) (pa_cons (pe_ix ix_tup (pv 1) pe_int (fun _ _ => rfl)) pa_nil))) pa_nil)) (by rfl))
  (pss_cons (ps_set (i := 4) sc_dl_due.nd rfl (Or.inl rfl) (pe_lst (pa_cons (pe_callB (id := "len") (call_ln) (by rfl) T.len (by decide +kernel) (pa_cons (pv 2) pa_nil)) (pa_cons (pe_callB (id := "len") (call_ln) (by rfl) T.len (by decide +kernel) (pa_cons (pv 3) pa_nil)) pa_nil))))
  (pss_cons (ps_set (i := 5) sc_dl_due.nd rfl (Or.inl rfl) (pe_op op_add_str (pe_op op_add_str (pe_op op_add_str (pe_op op_add_str pe_str (pe_callB (id := "repr") (call_repr hgd hr.units) (by rfl) T.repr (by decide +kernel) (pa_cons (pe_dget (hu_of hr) (pv 0) pe_str (fun _ _ => rfl)) pa_nil))) pe_str) (pe_callB (id := "repr") (call_repr hgd hr.units) (by rfl) T.repr (by decide +kernel) (pa_cons (pe_dget (hu_of hr) (pv 0) pe_str (fun _ _ => rfl)) pa_nil))) pe_str))
  (pss_cons (ps_set (i := 5) sc_dl_due.nd rfl (Or.inl rfl) (pe_op op_add_str (pe_op op_add_str pe_str (pe_join pe_str (pe_lst (pa_cons (pv 5) (pa_cons (pe_callTy (T := "str") call_strI (by rfl) T.str (by decide +kernel) (pa_cons (pe_ix ix_tup (pv 1) pe_int (fun _ _ => rfl)) pa_nil)) (pa_cons (pe_callB (id := "repr") (call_repr hgd hr.units) (by rfl) T.repr (by decide +kernel) (pa_cons (pv 2) pa_nil)) (pa_cons (pe_callB (id := "repr") (call_repr hgd hr.units) (by rfl) T.repr (by decide +kernel) (pa_cons (pv 3) pa_nil)) pa_nil))))))) pe_str))
  (pss_one (ps_ret (pe_callB (id := "repr") (call_repr hgd hr.units) (by rfl) T.repr (by decide +kernel) (pa_cons (pe_lst (pa_cons (pe_ix ix_tup (pv 1) pe_int (fun _ _ => rfl)) (pa_cons (pv 2) (pa_cons (pv 3) (pa_cons (pe_callB (id := "sum") (cr_sum rfl) (by rfl) B_sum (by decide +kernel) (pa_cons (pv 4) pa_nil)) (pa_cons (pe_callB (id := "sum") (cr_sum rfl) (by rfl) B_sum (by decide +kernel) (pa_cons (pv 4) pa_nil)) (pa_cons (pe_op op_cat (pv 2) (pv 3)) (pa_cons (pe_op op_cat (pe_op op_rep (pe_lst (pa_cons pe_int pa_nil)) (pe_ix ix_list (pv 4) pe_int (fun _ _ => rfl))) (pe_op op_rep (pe_lst (pa_cons pe_int pa_nil)) (pe_ix ix_list (pv 4) pe_int (fun _ _ => rfl)))) (pa_cons (pv 5) (pa_cons (pe_op op_rep (pe_lst (pa_cons pe_bl pa_nil)) (pe_callB (id := "sum") (cr_sum rfl) (by rfl) B_sum (by decide +kernel) (pa_cons (pv 4) pa_nil))) pa_nil)))))))))) pa_nil)))))))), inferInstance, fun ds Q h => ?_⟩
  obtain ⟨ns, rs, n, ps, qs, rfl, R, hn, p4, q4, hp, hq, q⟩ := h
  refine ⟨_, 1, natsX ps, rfl, rfl, rfl, ns, rs, ps, rfl, hp, by omega, ?_⟩
  refine ⟨_, 2, natsX qs, rfl, rfl, rfl, ns, rs, qs, rfl, hq, by omega, ?_⟩
  refine ⟨by show 2 ≤ 16777216; decide, ?_⟩
  have S0 := sm_names R.d4 R.nm
  have Sr := sm_rows R.r8 R.d4 R.tb
  have S1 := sm_names (ns := nmP ns ps) (by unfold nmP; rw [List.length_map]; exact p4) (nm_places R hp)
  have S2 := sm_names (ns := nmP ns qs) (by unfold nmP; rw [List.length_map]; exact q4) (nm_places R hq)
  obtain ⟨l1, l2, l3, l4⟩ := thT_parts R
  have r8 := R.r8
  have c1 := len_th R
  have c2 : (toString (n : Int) : Str).length ≤ 2 := int8 n (by omega)
  have c3 := S1.len
  have c4 := S2.len
  have cc : ((", " : Str)).length = 2 := rfl
  have cl : (("Layout(" : Str)).length = 7 := rfl
  have cr : ((")" : Str)).length = 1 := rfl
  refine ⟨_, _, _, rfl, rfl, lk_deeds ns rs, _, _, rfl, pyr_names ns, S0.ok (by decide) (by decide), lenS l1, lenS l2, _, _, _, rfl, rfl, lk_rows ns rs, _, _, rfl, pyr_rows rs, Sr.ok (by decide) (by decide), lenS l3, lenS l4, ?_⟩
  have ej := join4 (thT ns rs) (toString (n : Int)) (namesD (nmP ns ps)).shown (namesD (nmP ns qs)).shown
  have el : ("Layout(" : Str) ++ Txt.join ", " [thT ns rs, toString (n : Int), (namesD (nmP ns ps)).shown, (namesD (nmP ns qs)).shown] ++ ")" = lyT ns rs n ps qs := by
    rw [ej]
    unfold lyT
    simp only [Str.append_assoc]
  have ll : (Txt.join ", " [thT ns rs, toString (n : Int), (namesD (nmP ns ps)).shown, (namesD (nmP ns qs)).shown]).length ≤ 50000 := by
    rw [ej]
    simp only [strLen_append, cc]
    omega
  refine ⟨_, 0, .int (n : Nat), rfl, rfl, rfl, n, rfl, by omega, _, _, rfl, pyr_names _, S1.ok (by decide) (by decide), _, _, rfl, pyr_names _, S2.ok (by decide) (by decide), ⟨by show 4 ≤ 16777216; decide, _, [thT ns rs, toString (n : Int), (namesD (nmP ns ps)).shown, (namesD (nmP ns qs)).shown], rfl, rfl, ?_, by omega, by rw [strLen_append]; omega, ?_⟩⟩
  · show (thT ns rs).length + ((toString (n : Int) : Str).length + ((namesD (nmP ns ps)).shown.length + ((namesD (nmP ns qs)).shown.length + 0))) + 4 * (", " : Str).length ≤ _
    omega
  rw [el]
  have z1 : (nmP ns ps).length = ps.length := by unfold nmP; rw [List.length_map]
  have z2 : (nmP ns qs).length = qs.length := by unfold nmP; rw [List.length_map]
  have y1 : ((nmP ns ps).map D.str).length = ps.length := by rw [List.length_map, z1]
  have y2 : ((nmP ns qs).map D.str).length = qs.length := by rw [List.length_map, z2]
  have sums : ([((ps.length : Nat) : Int), ((qs.length : Nat) : Int)] : List Int).sum = ((ps.length + qs.length : Nat) : Int) := by simp
  rw [y1, y2]
  refine ⟨_, 0, .int (n : Nat), rfl, rfl, rfl, _, [(ps.length : Int), (qs.length : Int)], rfl, rfl, _, [(ps.length : Int), (qs.length : Int)], rfl, rfl, _, _, rfl, rfl, by rw [y1, y2]; omega,
    by show 1 ≤ 16777216; decide, _, 0, .int (ps.length : Nat), rfl, rfl, rfl, _, _, rfl, rfl, by omega, by omega, by show 1 * _ ≤ _; omega,
    by show 1 ≤ 16777216; decide, _, 1, .int (qs.length : Nat), rfl, rfl, rfl, _, _, rfl, rfl, by omega, by omega, by show 1 * _ ≤ _; omega, _, _, rfl, rfl, ?_, 
    by show 1 ≤ 16777216; decide, _, [(ps.length : Int), (qs.length : Int)], rfl, rfl, _, _, rfl, rfl, by rw [sums]; omega, by rw [sums]; omega, by rw [sums]; show 1 * _ ≤ _; omega, by show 9 ≤ 16777216; decide, _, dueD ns rs n ps qs, rfl, ?_, ?_, q⟩
  · simp only [Int.toNat_natCast, rep_flat, List.length_replicate]
    omega
  · rw [sums]
    simp only [Int.toNat_natCast, rep_flat]
    unfold dueD
    refine .lst (.cons (.int _) (.cons (pyr_names _) (.cons (pyr_names _) (.cons (.int _) (.cons (.int _) (.cons ?_ (.cons (.lst ?_) (.cons (.str _) (.cons (.lst (pyra_rep (.bl _) _)) .nil)))))))))
    · have := pyr_names (nmP ns ps ++ nmP ns qs)
      unfold namesX at this
      rw [List.map_append] at this
      exact this
    · exact pyra_app (pyra_rep (.int _) _) (pyra_rep (.int _) _)
  · exact (sm_due R hn p4 q4 hp hq).ok (by decide) (by decide)

end
end K21

/-! Data logic, part 10: a for over a display of new things, each of which is changed -/
namespace Dl
open PySem PySem.Spec PyProof.Rows L2 Xv Cr
section
variable {M : Cm} {K : PySem.W.Frag} {m : Bool} {pt F0 F F' : Addr → Prop} {H0 H H' : Hp} {z0 : Gh} {o : Ow} {σ : L2.St} {ρ : Rho}
theorem En.gh0 (e : En M pt F0 H0 z0 F o σ H ρ) {gs : List (Addr × D)} (h : ∀ g ∈ gs, GhOk M pt F H0 o H ρ g) : En M pt F0 H0 ⟨z0.z, gs⟩ F o σ H ρ := ⟨e.ok0, e.ext, e.len, e.sl, e.dj, e.zr, h⟩
theorem En.more (e : En M pt F0 H0 z0 F o σ H ρ) {p : Addr} (hp : H p ≠ none) (n : H0 p = none) (up : ∀ i, p ∉ owl o ρ i) (ug : ∀ g ∈ z0.gs, g.1 ≠ p) : En M pt F0 H0 z0 (fun b => F b ∨ b = p) o σ H ρ := by
  have upr : ∀ b u, F b → H b = some u → (F b ∨ b = p) ∧ H b = some u := fun b u f e => ⟨.inl f, e⟩
  refine ⟨e.ok0, ⟨fun b z => .inl (e.ext.sub b z), fun b z => z.elim (e.ext.new b) fun q => .inr (q ▸ n), e.ext.same, e.ext.pots, fun b z => z.elim (e.ext.liv b) fun q => q ▸ hp⟩, e.len, fun j s hs => (e.sl j s hs).tr upr (fun b u _ _ z => z) (fun a h1 h2 h3 => ⟨fun u z => z, fun f z => z.elim f fun w => up j (w ▸ owl_of hs h1 h2 h3)⟩) rfl rfl rfl, e.dj, e.zr, fun g hg => ⟨(e.gh g hg).rb.tr upr fun _ _ _ z => z, (e.gh g hg).nw, fun z => z.elim (e.gh g hg).nf (ug g hg), (e.gh g hg).no⟩⟩
/-- new things, side by side -/
inductive NewL (M : Cm) (pt F : Addr → Prop) (H : Hp) (H' : Hp) : List Addr → List D → Prop
  | nil : NewL M pt F H H' [] []
  | cons {p : Addr} {d : D} {ps : List Addr} {ds : List D} : Rb M pt F H' (.ref p) d → H p = none → ¬ F p → p ∉ ps → NewL M pt F H H' ps ds → NewL M pt F H H' (p :: ps) (d :: ds)
class DNs (M : Cm) (t : TA) (g : outParam GA) : Prop where
  run : ∀ {pt F0 : Addr → Prop} {H0 : Hp} {z0 : Gh} {F : Addr → Prop} {o : Ow} {σ : L2.St} {H : Hp} {ρ : Rho} {P : List D → Prop} {Q : List V → Hp → Prop}, En M pt F0 H0 z0 F o σ H ρ → g ρ P → (∀ ds F' H' ps, P ds → Ext pt F H F' H' → NewL M pt F' H H' ps ds → Q (ps.map V.ref) H') → t σ H Q
theorem NewL.old {H1 : Hp} {ps : List Addr} {ds : List D} (n : NewL M pt F H H' ps ds) (h : ∀ p, H p = none → H1 p = none) : NewL M pt F H1 H' ps ds := by
  induction n with
  | nil => exact .nil
  | cons r a b c _ ih => exact .cons r (h _ a) b c ih
theorem NewL.all {ps : List Addr} {ds : List D} (n : NewL M pt F H H' ps ds) : ∀ p ∈ ps, H p = none := by
  induction n with
  | nil => intro p h; cases h
  | cons r a b c _ ih => intro p h; rcases List.mem_cons.mp h with rfl | z; exact a; exact ih p z
theorem NewL.live {ps : List Addr} {ds : List D} (n : NewL M pt F H H' ps ds) : ∀ p ∈ ps, H' p ≠ none ∧ ¬ F p := by
  induction n with
  | nil => intro p h; cases h
  | cons r a b c _ ih => intro p h; rcases List.mem_cons.mp h with rfl | z; exact ⟨(rb_some r).1, b⟩; exact ih p z
instance : DNs M tNil gNil := ⟨fun e q k => k _ _ _ _ q (.refl e.ok) .nil⟩
instance {ta : TE} {ga : GE} {t : TA} {g : GA} [h1 : DN M ta ga] [h2 : DNs M t g] : DNs M (tCons ta t) (gCons ga g) := ⟨fun {pt F0 H0 z0 F o σ H ρ P Q} e q k => h1.run e q fun d F1 H1 p q1 x1 r1 n nf => h2.run (e.step x1) q1 fun ds F2 H2 ps q2 x2 r2 => by
  have nf2 := rb_keep (e.step x1).ok x2 rfl r1 nf
  exact k _ _ _ (p :: ps) q2 (x1.trans x2) (.cons (r1.ext (e.step x1).ok x2) n nf2 (fun z => (rb_some r1).1 (r2.all p z)) (r2.old fun b hb => x1.nn hb))⟩
def tForN (K : PySem.W.Frag) (ta : TA) (i : Nat) (t : TS) : TS := tFor (iList K (tLst ta)) (L2.gName i) t
theorem ps_forN {X : Cx} {st : Stmt} {ta : TA} {i : Nat} {t : TS} (h : PS X st (tFor (iList K (tLst ta)) (L2.gName i) t)) : PS X st (tForN K ta i t) := h
def forNGo (i : Nat) (g : GS) (δ : DEnds) : List D → Rho → Prop
  | [], ρ => δ.nx ρ
  | x :: xs, ρ => g { nx := forNGo i g δ xs, rt := δ.rt, bk := δ.nx, ct := forNGo i g δ xs } (ρ.set i (.own x))
def sForN (ga : GA) (i : Nat) (g : GS) : GS := fun δ ρ => ga ρ fun ds => i ≠ 0 ∧ ds.length ≤ 16777216 ∧ forNGo i g δ ds ρ
theorem NewL.drop1 {p : Addr} {d : D} {ps : List Addr} {ds : List D} (n : NewL M pt F H H' (p :: ps) (d :: ds)) : NewL M pt F H H' ps ds := by cases n with | cons _ _ _ _ h => exact h
instance {ta : TA} {ga : GA} {i : Nat} {t : TS} {g : GS} [h1 : DNs M ta ga] [h2 : DS M m t g] : DS M m (tForN K ta i t) (sForN ga i g) := ⟨fun {pt F0 H0 z0 F o σ H ρ δ E} e l q =>
  h1.run e q fun ds F1 H1 ps q1 x1 nl => by
    obtain ⟨i0, hz, q1⟩ := q1
    have hlen : ps.length = ds.length := by
      have : ∀ {ps : List Addr} {ds : List D}, NewL M pt F1 H H1 ps ds → ps.length = ds.length := fun n => by
        induction n with
        | nil => rfl
        | cons _ _ _ _ _ ih => rw [List.length_cons, List.length_cons, ih]
      exact this nl
    refine ⟨by rw [List.length_map, hlen, sizeLine_eq]; exact hz, fun D nD => ⟨D, rfl, ⟨_, SqL.of upd_same⟩, ?_⟩⟩
    have e1 := e.step x1
    have ok1 := e1.ok
    have x2 := Ext.put0 (F := F1) ok1 (o := .lst (ps.map V.ref)) nD
    have e2 := e1.step x2
    -- the new things aside
    have psD : ∀ p ∈ ps, p ≠ D := fun p hp z => (nl.live p hp).1 (z ▸ nD)
    have ghs : ∀ {ps : List Addr} {ds : List Dl.D}, NewL M pt F1 H H1 ps ds → ∀ g ∈ ps.zip ds, GhOk M pt F1 H0 o (upd H1 D (.lst (ps.map V.ref))) ρ g → True := fun _ _ _ _ => trivial
    have mk : ∀ {ps' : List Addr} {ds' : List Dl.D}, NewL M pt F1 H H1 ps' ds' → ∀ g ∈ ps'.zip ds', GhOk M pt F1 H0 o (upd H1 D (.lst (ps.map V.ref))) ρ g := fun n => by
      induction n with
      | nil => intro g hg; simp at hg
      | cons r a b c _ ih =>
        intro g hg
        rw [List.zip_cons_cons] at hg
        rcases List.mem_cons.mp hg with rfl | z
        · exact ⟨r.ext ok1 x2, e.ext.nn a, b, fun j hj => (e.owlOk hj).2.2.1 a⟩
        · exact ih g z
    have DH : H D = none := x1.nn nD
    have e3 : En M pt F0 H0 ⟨z0.z, z0.gs ++ ps.zip ds⟩ F1 o σ (upd H1 D (.lst (ps.map V.ref))) ρ := e2.gh0 fun g hg => (List.mem_append.mp hg).elim (e2.gh g) (mk nl g)
    have memP : ∀ {g : Addr × Dl.D}, g ∈ ps.zip ds → g.1 ∈ ps := fun hg => (List.of_mem_zip (a := _) (b := _) hg).1
    have e4 : En M pt F0 H0 ⟨z0.z, z0.gs ++ ps.zip ds⟩ (fun b => F1 b ∨ b = D) o σ (upd H1 D (.lst (ps.map V.ref))) ρ := e3.more (by rw [upd_same]; exact Option.some_ne_none _) (e.ext.nn DH) (fun j hj => (e.owlOk hj).2.2.1 DH) fun g hg z => by
      rcases List.mem_append.mp hg with w | w
      · exact (rb_some (e.gh g w).rb).1 (z ▸ DH)
      · exact psD _ (memP w) z
    have a4 : Agr F H (fun b => F1 b ∨ b = D) (upd H1 D (.lst (ps.map V.ref))) := (Agr.of e.ok (x1.trans x2)).trans ⟨fun b f => .inl f, fun b o f h => h⟩
    have zg : ∀ p ∈ ps, ∀ g ∈ z0.gs, p ≠ g.1 := fun p hp g hg z => (rb_some (e.gh g hg).rb).1 (z ▸ nl.all p hp)
    have nd : ps.Nodup := by
      have : ∀ {ps' : List Addr} {ds' : List Dl.D}, NewL M pt F1 H H1 ps' ds' → ps'.Nodup := fun n => by
        induction n with
        | nil => exact List.nodup_nil
        | cons _ _ _ c _ ih => exact List.nodup_cons.mpr ⟨c, ih⟩
      exact this nl
    refine for_it (walk_list (K := K) (a := D) (xs := ps.map V.ref)) (fun j σ' H' => ∃ Fi oi ρi, En M pt F0 H0 ⟨z0.z, z0.gs ++ (ps.drop j).zip (ds.drop j)⟩ Fi oi σ' H' ρi ∧ Agr (fun b => F1 b ∨ b = D) (upd H1 D (.lst (ps.map V.ref))) Fi H' ∧ forNGo i g δ (ds.drop j) ρi) ⟨_, o, ρ, e4, .refl, q1⟩ (fun j σ' H' _ ⟨Fi, oi, ρi, _, a, _⟩ => SqL.of (a.2 D _ (.inr rfl) upd_same)) (fun j x σ' H' H'' hlt p y => ?_) (fun σ' H' p => ?_)
    · obtain ⟨Fi, oi, ρi, ei, a, q2⟩ := p
      obtain ⟨rfl, hx⟩ := y
      rw [List.length_map] at hlt
      have hlt2 : j < ds.length := by omega
      rw [List.getElem?_map, List.getElem?_eq_getElem hlt] at hx
      cases hx
      rw [List.drop_eq_getElem_cons hlt2] at q2
      rw [List.drop_eq_getElem_cons hlt, List.drop_eq_getElem_cons hlt2, List.zip_cons_cons] at ei
      have g0 := ei.gh (ps[j], ds[j]) (List.mem_append_right _ List.mem_cons_self)
      have e5 : En M pt F0 H0 ⟨z0.z, z0.gs ++ (ps.drop (j + 1)).zip (ds.drop (j + 1))⟩ Fi oi σ' H'' ρi := ei.gh0 fun g hg => ei.gh g ((List.mem_append.mp hg).elim (fun z => List.mem_append_left _ z) fun z => List.mem_append_right _ (List.mem_cons_of_mem _ z))
      have nin : ps[j] ∉ ps.drop (j + 1) := by
        have := nd.sublist (List.drop_sublist j ps)
        rw [List.drop_eq_getElem_cons hlt] at this
        exact (List.nodup_cons.mp this).1
      have e6 := e5.setOwn (i := i) g0.rb g0.nw g0.nf (fun k a _ hk z => g0.no k (z ▸ hk)) i0 fun g hg z => by
        rcases List.mem_append.mp hg with w | w
        · exact zg _ (List.getElem_mem hlt) g w z
        · exact nin (by have := (List.of_mem_zip (a := _) (b := _) w).1; rw [← z] at this; exact this)
      refine h2.run (δ := { nx := forNGo i g δ (ds.drop (j + 1)), rt := δ.rt, bk := δ.nx, ct := forNGo i g δ (ds.drop (j + 1)) }) e6 ⟨fun F' o' σ5 H5 ρ5 e5 a5 q5 => ⟨F', o', ρ5, e5, a.trans a5, q5⟩, fun F' o' σ5 H5 ρ5 e5 a5 q5 => ?_, fun F' o' σ5 H5 ρ5 e5 a5 q5 => ⟨F', o', ρ5, e5, a.trans a5, q5⟩, l.rt⟩ q2
      exact l.nx _ _ _ _ _ (e5.gh0 (gs := z0.gs) fun g hg => e5.gh g (List.mem_append_left _ hg)) (a4.trans (a.trans a5)) q5
    · obtain ⟨Fi, oi, ρi, ei, a, q2⟩ := p
      rw [List.length_map] at ei q2
      rw [show ds.drop ps.length = [] from List.drop_of_length_le (by omega)] at q2
      exact l.nx _ _ _ _ _ (ei.gh0 (gs := z0.gs) fun g hg => ei.gh g (List.mem_append_left _ hg)) (a4.trans a) q2⟩
/-! ### a new list of new things -/
class DN2 (M : Cm) (t : TE) (g : outParam GE) : Prop where
  run : ∀ {pt F0 : Addr → Prop} {H0 : Hp} {z0 : Gh} {F : Addr → Prop} {o : Ow} {σ : L2.St} {H : Hp} {ρ : Rho} {P : D → Prop} {Q : VK}, En M pt F0 H0 z0 F o σ H ρ → g ρ P → (∀ ds F' H' p cs, P (.lst ds) → Ext pt F H F' H' → H' p = some (.lst (cs.map V.ref)) → Kids M pt F' H' cs ds → (p :: cs).Nodup → (∀ a ∈ p :: cs, H a = none ∧ ¬ F' a) → Q (.ref p) H') → t σ H Q
theorem NewL.kids {ps : List Addr} {ds : List D} (n : NewL M pt F H H' ps ds) : Kids M pt F H' ps ds := by
  induction n with
  | nil => exact .nil
  | cons r a b c _ ih => exact .cons r ih
theorem NewL.nodup {ps : List Addr} {ds : List D} (n : NewL M pt F H H' ps ds) : ps.Nodup := by
  induction n with
  | nil => exact List.nodup_nil
  | cons r a b c _ ih => exact List.nodup_cons.mpr ⟨c, ih⟩
instance {ta : TA} {ga : GA} [h : DNs M ta ga] : DN2 M (tLst ta) (gLst ga) := ⟨fun {pt F0 H0 z0 F o σ H ρ P Q} e q k => h.run e q fun ds F1 H1 ps q1 x1 nl => by
  have hl := nl.kids.length
  refine ⟨by rw [List.length_map, hl, sizeLine_eq]; exact q1.1, fun p np => ?_⟩
  have ok1 := (e.step x1).ok
  have x2 := Ext.put0 (F := F1) ok1 (o := .lst (ps.map V.ref)) np
  have nps : p ∉ ps := fun z => (nl.live p z).1 np
  refine k ds F1 _ p ps q1.2 (x1.trans x2) upd_same (nl.kids.tr (fun b u f hu => ⟨f, x2.same b u (fun z => ok1.dis b z f) hu⟩) fun a ha u hu => by rw [upd_ne (fun (z : a = p) => nps (z ▸ ha))]; exact hu) (List.nodup_cons.mpr ⟨nps, nl.nodup⟩) fun a ha => ?_
  rcases List.mem_cons.mp ha with rfl | z
  · exact ⟨x1.nn np, fun z => ok1.liv _ z np⟩
  · exact ⟨nl.all a z, (nl.live a z).2⟩⟩
theorem Kids.app {cs ps : List Addr} {ds es : List D} (k : Kids M pt F H cs ds) (l : Kids M pt F H ps es) : Kids M pt F H (cs ++ ps) (ds ++ es) := by
  induction k with
  | nil => exact l
  | cons r k ih => exact .cons r ih
/-- [.. for ..]: each item a new thing -/
instance {wi : TI} {gi : GA} {tg : TG} {ws vs : List Nat} {bd : BD} {tt : TT} {gt : GT} {te : TE} {ge : GE} [hi : DI M wi gi] [hg : DG M tg ws bd] [ht : DTT M tt gt] [he : DN M te ge] : DN2 M (tLc wi tg tt te vs) (gLc gi ws bd gt ge vs) := ⟨fun {pt F0 H0 z0 F o σ H ρ P Q} e q k =>
  hi.run e q fun ds F1 H1 J q1 x1 it D nD => by
    obtain ⟨hws, hz, q1⟩ := q1
    obtain ⟨G, Y, w, st, yl⟩ := it.ex
    have e1 := e.step x1
    have ok1 := e1.ok
    have nF1 : ¬ F1 D := fun z => ok1.liv D z nD
    have npt : ¬ pt D := ok1.not_pt nD
    refine lc_it w (fun i H' => ∃ Fi cs ys, Ext pt F1 H1 Fi H' ∧ H' D = some (.lst (cs.map V.ref)) ∧ ¬ Fi D ∧ Kids M pt Fi H' cs ys ∧ (D :: cs).Nodup ∧ (∀ a ∈ cs, H1 a = none ∧ ¬ Fi a) ∧ cs.length ≤ i ∧ lcGo (lcSt bd gt ge (wipeR ρ vs)) (ds.drop i) ys P)
      ⟨F1, [], [], .put0 ok1 nD, upd_same, nF1, .nil, List.nodup_cons.mpr ⟨fun z => (by cases z), List.nodup_nil⟩, fun a h => (by cases h), Nat.le_refl _, q1⟩ (fun i H' _ ⟨Fi, _, _, x, _⟩ => st H' fun b u fb eb => x.same b u (fun z => ok1.dis b z fb) eb) (fun i x H' H'' hlt p y => ?_) (fun H' p => ?_)
    · obtain ⟨Fi, cs, ys, x2, hD, nFi, ks, nd, al, hl, q2⟩ := p
      have ok2 := ok1.ext x2
      obtain ⟨d, F3, hd, x3, rd⟩ := yl i Fi H' x H'' hlt ok2 x2.sub (fun b u fb eb => x2.same b u (fun z => ok1.dis b z fb) eb) y
      have e3 := ((e1.step x2).step x3).wipe vs
      have ok3 := ok2.ext x3
      have hD3 := x3.same D _ npt hD
      have ed : ds.drop i = d :: ds.drop (i + 1) := by
        obtain ⟨hlt', rfl⟩ := List.getElem?_eq_some_iff.mp hd
        exact List.drop_eq_getElem_cons hlt'
      rw [ed] at q2
      have q2 : bd d (wipeR ρ vs) (fun ρ2 => gt ρ2 fun b => if b = true then ge ρ2 (fun y => lcGo (lcSt bd gt ge (wipeR ρ vs)) (ds.drop (i + 1)) (ys ++ (some y).toList) P) else lcGo (lcSt bd gt ge (wipeR ρ vs)) (ds.drop (i + 1)) (ys ++ (none : Option Dl.D).toList) P) := q2
      -- what stands aside is kept
      have keep : ∀ {Fa Fb : Addr → Prop} {Ha Hb : Hp}, Ext pt Fa Ha Fb Hb → Ok pt Fa Ha → Ha D = some (.lst (cs.map V.ref)) → ¬ Fa D → Kids M pt Fa Ha cs ys → (∀ a ∈ cs, ¬ Fa a) → Hb D = some (.lst (cs.map V.ref)) ∧ ¬ Fb D ∧ Kids M pt Fb Hb cs ys ∧ ∀ a ∈ cs, ¬ Fb a := fun {Fa Fb Ha Hb} xx oo h1 h2 h3 h4 => by
        refine ⟨xx.same D _ npt h1, fun z => (xx.new D z).elim h2 fun n => (by rw [h1] at n; cases n), h3.tr (fun b u f hu => ⟨xx.sub b f, xx.same b u (fun z => oo.dis b z f) hu⟩) fun a ha u hu => xx.same a u (h3.live a ha).2 hu, fun a ha z => (xx.new a z).elim (h4 a ha) fun n => (h3.live a ha).1 n⟩
      obtain ⟨hD3, nF3, k3, al3⟩ := keep x3 ok2 hD nFi ks fun a ha => (al a ha).2
      refine hg.run e3 q2 rd fun σ2 ρ2 q4 e4 l4 w4 => ⟨wipe_eq (ws := ws) (by rw [l4, wipe_length]) w4 hws, ?_⟩
      refine ht.run e4 q4 fun c F5 H5 q5 x5 => ?_
      have e5 := e4.step x5
      have ok5 := e5.ok
      obtain ⟨hD5, nF5, k5, al5⟩ := keep x5 ok3 hD3 nF3 k3 al3
      cases c with
      | true =>
        rw [if_pos rfl]
        refine he.run e5 q5 fun d6 F6 H6 p6 q6 x6 r6 n6 nf6 => ?_
        obtain ⟨hD6, nF6, k6, al6⟩ := keep x6 ok5 hD5 nF5 k5 al5
        have xx := ((x2.trans x3).trans x5).trans x6
        have pD : p6 ≠ D := fun z => by rw [z, hD5] at n6; cases n6
        have pcs : p6 ∉ cs := fun z => (k5.live p6 z).1 n6
        have up : ∀ b u, F6 b → H6 b = some u → F6 b ∧ upd H6 D (.lst ((cs ++ [p6]).map V.ref)) b = some u := fun b u fb eb => ⟨fb, by rw [upd_ne (fun (z : b = D) => nF6 (z ▸ fb))]; exact eb⟩
        have ndD := (List.nodup_cons.mp nd)
        refine ⟨cs.map V.ref, hD6, by rw [sizeLine_eq, List.length_map]; omega, ?_⟩
        rw [show cs.map V.ref ++ [V.ref p6] = (cs ++ [p6]).map V.ref by rw [List.map_append]; rfl]
        refine ⟨F6, cs ++ [p6], ys ++ [d6], Ext.updNew ok1 xx nD, upd_same, nF6, (k6.tr up fun a ha u hu => by rw [upd_ne (fun (z : a = D) => ndD.1 (z ▸ ha))]; exact hu).app (.cons (r6.tr up fun a z u hu => by cases z; rw [upd_ne pD]; exact hu) .nil), ?_, fun a ha => ?_, by rw [List.length_append]; show cs.length + 1 ≤ _; omega, q6⟩
        · refine List.nodup_cons.mpr ⟨fun z => ?_, List.nodup_append.mpr ⟨ndD.2, List.nodup_cons.mpr ⟨fun z => (by cases z), List.nodup_nil⟩, fun a ha b hb z => ?_⟩⟩
          · rcases List.mem_append.mp z with w | w
            · exact ndD.1 w
            · exact pD (List.mem_singleton.mp w).symm
          · rw [List.mem_singleton.mp hb] at z
            exact pcs (z ▸ ha)
        · rcases List.mem_append.mp ha with w | w
          · exact ⟨(al a w).1, al6 a w⟩
          · rw [List.mem_singleton.mp w]
            exact ⟨((x2.trans x3).trans x5).nn n6, nf6⟩
      | false =>
        rw [if_neg Bool.false_ne_true]
        refine ⟨F5, cs, ys, (x2.trans x3).trans x5, hD5, nF5, k5, nd, fun a ha => ⟨(al a ha).1, al5 a ha⟩, by omega, ?_⟩
        have q5 : lcGo (lcSt bd gt ge (wipeR ρ vs)) (ds.drop (i + 1)) (ys ++ (none : Option Dl.D).toList) P := q5
        rw [Option.toList_none, List.append_nil] at q5
        exact q5
    · obtain ⟨Fi, cs, ys, x2, hD, nFi, ks, nd, al, hl, q2⟩ := p
      rw [List.drop_length] at q2
      refine k ys Fi H' D cs q2 (x1.trans x2) hD ks nd fun a ha => ?_
      rcases List.mem_cons.mp ha with rfl | z
      · exact ⟨x1.nn nD, nFi⟩
      · exact ⟨x1.nn (al a z).1, (al a z).2⟩⟩
/-- a name for a new list of new things -/
def tAsgQ (te : TE) (i : Nat) : TS := tAsg te (L2.gName i)
theorem ps_own2 {X : Cx} {st : Stmt} {te : TE} {i : Nat} (h : PS X st (tAsg te (L2.gName i))) : PS X st (tAsgQ te i) := h
def sAsgQ (ga : GE) (i : Nat) : GS := fun δ ρ => i ≠ 0 ∧ ga ρ fun x => match x with | .lst ds => δ.nx (ρ.set i (.own2 ds)) | _ => False
instance {ta : TE} {ga : GE} {i : Nat} [h1 : DN2 M ta ga] : DS M m (tAsgQ ta i) (sAsgQ ga i) := ⟨fun {pt F0 H0 z0 F o σ H ρ δ E} e l ⟨i0, q⟩ =>
  h1.run e q fun ds F1 H1 p cs q1 x1 hp ks nd al => by
    have e1 := e.step x1
    have live : ∀ a ∈ p :: cs, ¬ pt a := fun a ha => by
      rcases List.mem_cons.mp ha with rfl | z
      · exact e.ok.not_pt (al _ List.mem_cons_self).1
      · exact (ks.live a z).2
    exact l.nx _ _ _ _ _ (e1.setOwn2 (i := i) hp ks nd (fun a ha => ⟨e.ext.nn (al a ha).1, (al a ha).2, live a ha⟩) (fun j a _ hj z => (e.owlOk hj).2.2.1 (al a z).1) i0 fun g hg z => (rb_some (e.gh g hg).rb).1 (al _ z).1) (Agr.of e.ok x1) q1⟩
/-- one of the things of an own list, to be read -/
def tIx2 (K : PySem.W.Frag) (i : Nat) (tb : TE) : TE := tOp (rIxL K) (tVar i) tb
theorem pe_ix2 {X : Cx} {e : Expr} {i : Nat} {tb : TE} (h : PE X e (tOp (rIxL X.K) (tVar i) tb)) : PE X e (tIx2 X.K i tb) := h
def gIx2 (i : Nat) (gb : GE) : GE := fun ρ P => match ρ[i]? with | some (.own2 ds) => gb ρ fun y => ∃ (n : Int) (d : D), y = .int n ∧ atI ds n = some d ∧ P d | _ => False
theorem Kids.atI {cs : List Addr} {ds : List D} {n : Int} {d : D} (k : Kids M pt F H cs ds) (h : atI ds n = some d) : ∃ c, L2.atI (cs.map V.ref) n = some (.ref c) ∧ Rb M pt F H (.ref c) d := by
  unfold L2.atI at h ⊢
  rw [List.length_map, k.length]
  cases e : ixN ds.length n with
  | none => rw [e] at h; cases h
  | some j =>
    rw [e] at h
    obtain ⟨c, hc, r⟩ := k.get h
    exact ⟨c, by show (cs.map V.ref)[j]? = _; rw [List.getElem?_map, hc]; rfl, r⟩
instance {tb : TE} {gb : GE} {i : Nat} [h1 : DB M tb gb] : DB M (tIx2 K i tb) (gIx2 i gb) := ⟨fun {pt F0 H0 z0 F o σ H ρ P Q} e q k => by
  unfold gIx2 at q
  split at q
  · rename_i ds hds
    obtain ⟨a, _⟩ := e.sl i _ hds
    refine ⟨_, a, h1.run e q fun d1 F1 H1 v1 q1 x1 r1 => ?_⟩
    obtain ⟨n, d, rfl, hd, q2⟩ := q1
    cases rb_int r1
    obtain ⟨_, hl, ks, _⟩ := (e.step x1).sl i _ hds
    obtain ⟨c, hc, r⟩ := ks.atI hd
    exact ⟨_, _, n, _, rfl, rfl, SqL.of hl, hc, k d F1 H1 _ q2 x1 r⟩
  · exact q.elim⟩
end
end Dl

namespace K21
open PySem PySem.Spec PyProof.Rows L2 Xv Cr TL Dl
theorem nm_meth {Ct CL : Addr} {m : Str} (h : m ∉ (["_thing", "_state", "_first", "_second"] : List Str)) : m ∉ (CM Ct CL).fn 1 := h
theorem nm_meth0 {Ct CL : Addr} {m : Str} (h : m ∉ (["_deeds", "_rows"] : List Str)) : m ∉ (CM Ct CL).fn 0 := h
abbrev s_dl_told : Stmt := top 60
abbrev N_dl_told : List Str := ["_law_made", "_law_every", "_law_found", "_law_hand"]
theorem sc_dl_told : FnScope N_dl_told ["_law_made"] (defScope s_dl_told) := ⟨rfl, rfl, rfl, by decide +kernel, rfl, by decide +kernel, by decide +kernel⟩
def fTold : List D → (D → Prop) → Prop := fun ds P => ∃ ns rs n ps qs, ds = [layX ns rs n ps qs] ∧ Right ns rs ∧ n < rs.length ∧ ps.length ≤ 4 ∧ qs.length ≤ 4 ∧ (∀ p ∈ ps, p < ns.length) ∧ (∀ p ∈ qs, p < ns.length) ∧ P (.str (dueD ns rs n ps qs).shown)
section
variable {P : Program} {w : World} {K : PySem.W.Frag} {mg : Str → Option Value} {base : Heap} {Ct CL f : Addr} {fd : FuncData}
theorem okd_dl_told (F : Fun K "_law_told" "_law_told" s_dl_told f fd) (T : Bl mg) (p_L_hands : Dl.PrpM P w K mg base CL 1 "hands" (spD (CM Ct CL) [.bor] (fLy fun ns rs n ps qs P => P (.int (ps.length + qs.length : Nat))))) (m_L_len : Dl.OwnM P w K mg base CL 1 "__len__" ["self"] (spD (CM Ct CL) [.bor] (fLy fun ns rs n ps qs P => ps.length + qs.length ≤ 1000 ∧ P (.int (ps.length + qs.length : Nat))))) (p_L_second : Dl.PrpM P w K mg base CL 4 "second" (spN (CM Ct CL) [.bor] (fLy fun ns rs n ps qs P => (∀ p ∈ qs, p < ns.length) ∧ qs.length ≤ 1000 ∧ P (namesX (nmP ns qs))))) (p_L_first : Dl.PrpM P w K mg base CL 4 "first" (spN (CM Ct CL) [.bor] (fLy fun ns rs n ps qs P => (∀ p ∈ ps, p < ns.length) ∧ ps.length ≤ 1000 ∧ P (namesX (nmP ns ps))))) (p_L_state : Dl.PrpM P w K mg base CL 1 "state" (spD (CM Ct CL) [.bor] (fLy fun ns rs n ps qs P => P (.int (n : Nat))))) (m_L_repr : Dl.ReprM P w K mg base CL 6 (spD (CM Ct CL) [.bor] fLRepr)) (m_L_team : Dl.Met1 P w K mg base 5 CL "team" "hand" (spD (CM Ct CL) [.bor, .bor] fLTeam)) (m_L_deed : Dl.Met1 P w K mg base 5 CL "deed" "hand" (spD (CM Ct CL) [.bor, .bor] fLDeed)) (TC : ThC K Ct) (LC : LyC K CL) : FnG P w K mg base 8 f fd ["_law_made"] (spD (CM Ct CL) [.bor] fTold) := by
  refine okD F sc_dl_told rfl fun cdv A outer s H hr hgd => ⟨_, _, (pss_cons (ps_set (i := 1) sc_dl_told.nd rfl (Or.inl rfl) (pe_listRg rfl (by rfl) T.list (prg_1 (by rfl) T.range (pe_prpV p_L_hands LC.cl hr (by decide) (pv 0)))))
  (pss_cons (ps_own (ps_set (i := 2) sc_dl_told.nd rfl (Or.inl rfl) (pe_lst (pa_cons (pe_prpV p_L_state LC.cl hr (by decide) (pv 0)) (pa_cons (pe_prpV p_L_first LC.cl hr (by decide) (pv 0)) (pa_cons (pe_prpV p_L_second LC.cl hr (by decide) (pv 0)) (pa_cons (pe_prpV p_L_hands LC.cl hr (by decide) (pv 0)) (pa_cons (pe_callB (id := "len") (call_lenV m_L_len hr (by decide)) (by rfl) T.len (by decide +kernel) (pa_cons (pv 0) pa_nil)) pa_nil))))))))
  (pss_cons (ps_own (ps_set (i := 2) sc_dl_told.nd rfl (Or.inl rfl) (pe_op op_cat (pv 2) (pe_lst (pa_cons (pe_lc (own := [("_law_hand", 3)]) (g := gName 3) (tt := tYes) (te := tMeth CL "deed" (spD (CM Ct CL) [.bor, .bor] fLDeed) [] E0 (tVar 0) (tCons (tVar 3) (tNil))) rfl sc_dl_told.nd (pi_list (pv 1)) (blkOk_by (N := N_dl_told) (sc := defScope s_dl_told) (by decide +kernel)) (fun _ _ _ _ _ => (pg_name (i := 3) sc_dl_told.nd rfl (Or.inl rfl))) (fun _ _ _ _ _ => pts_nil) (fun _ _ _ _ _ => (C8.pe_mt m_L_deed.met hr (by decide) (pv 0) (pa_cons (pv 3) pa_nil)))) (pa_cons (pe_lc (own := [("_law_hand", 3)]) (g := gName 3) (tt := tYes) (te := tMethK CL "team" 1 (spD (CM Ct CL) [.bor, .bor] fLTeam) (fun vs zs => vs ++ zs) (tVar 0) (tCons (tVar 3) tNil)) rfl sc_dl_told.nd (pi_list (pv 1)) (blkOk_by (N := N_dl_told) (sc := defScope s_dl_told) (by decide +kernel)) (fun _ _ _ _ _ => (pg_name (i := 3) sc_dl_told.nd rfl (Or.inl rfl))) (fun _ _ _ _ _ => pts_nil) (fun _ _ _ _ _ => (pe_met1V m_L_team hr (by decide) (pv 0) (pk_cons (pv 3) pk_nil)))) (pa_cons (pe_callB (id := "repr") (call_reprV m_L_repr hr (by decide) hgd) (by rfl) T.repr (by decide +kernel) (pa_cons (pv 0) pa_nil)) pa_nil)))))))
  (pss_cons (ps_expr (pe_bm PySem.F.plainAttrs_list PySem.F.slot_list_append PySem.F.type_list_append mt_append (pv 2) (pa_cons (pe_lc (own := [("_law_hand", 3)]) (g := gName 3) (tt := tYes) (te := tOp rEq (tMethK CL "deed" 1 (spD (CM Ct CL) [.bor, .bor] fLDeed) (fun vs zs => vs ++ zs) (tVar 0) (tCons (tVar 3) tNil)) (tMeth CL "deed" (spD (CM Ct CL) [.bor, .bor] fLDeed) [] E0 (tVar 0) (tCons (tVar 3) (tNil)))) rfl sc_dl_told.nd (pi_list (pv 1)) (blkOk_by (N := N_dl_told) (sc := defScope s_dl_told) (by decide +kernel)) (fun _ _ _ _ _ => (pg_name (i := 3) sc_dl_told.nd rfl (Or.inl rfl))) (fun _ _ _ _ _ => pts_nil) (fun _ _ _ _ _ => (pe_cmpR op_eq (pe_met1V m_L_deed hr (by decide) (pv 0) (pk_cons (pv 3) pk_nil)) (C8.pe_mt m_L_deed.met hr (by decide) (pv 0) (pa_cons (pv 3) pa_nil)) (nomark _)))) pa_nil)))
  (pss_one (ps_ret (pe_callB (id := "repr") (call_repr hgd hr.units) (by rfl) T.repr (by decide +kernel) (pa_cons (pv 2) pa_nil)))))))), inferInstance, fun ds Q h => ?_⟩
  obtain ⟨ns, rs, n, ps, qs, rfl, R, hn, p4, q4, hp, hq, q⟩ := h
  have pq : ∀ p ∈ ps ++ qs, p < ns.length := fun p h => (List.mem_append.mp h).elim (hp p) (hq p)
  have gd : ∀ {i : Nat}, i < ps.length + qs.length → (ps ++ qs)[i]? = some ((ps ++ qs).getD i 0) := fun {i} hi => by
    rw [List.getD_eq_getElem?_getD, List.getElem?_eq_getElem (by rw [List.length_append]; exact hi)]
    rfl
  have gl : ∀ {i : Nat}, i < ps.length + qs.length → (ps ++ qs).getD i 0 < ns.length := fun {i} hi => pq _ (List.mem_of_getElem? (gd hi))
  refine ⟨1, _, rfl, rfl, ns, rs, n, ps, qs, rfl, _, rfl, by omega, by omega, ?_⟩
  refine ⟨by decide, 1, _, rfl, rfl, ns, rs, n, ps, qs, rfl, 1, _, rfl, rfl, ns, rs, n, ps, qs, rfl, hp, by omega, 1, _, rfl, rfl, ns, rs, n, ps, qs, rfl, hq, by omega, 1, _, rfl, rfl, ns, rs, n, ps, qs, rfl, 1, _, rfl, rfl, ns, rs, n, ps, qs, rfl, by omega, _, rfl, by omega, by omega, by show 5 ≤ 16777216; decide, ?_⟩
  refine ⟨by decide, rfl, by rw [rgD_len]; omega, lcGo_rg (h := fun i => .str (ns.getD ((ps ++ qs).getD i 0) "")) (fun i k hi hk => ⟨1, _, rfl, rfl, nm_meth (by decide), ns, rs, n, ps, qs, i, _, rfl, by omega, gd (by omega), gl (by omega), hk⟩) ?_⟩
  refine ⟨rfl, by rw [rgD_len]; omega, lcGo_rg (h := fun i => .int (if i < ps.length then 0 else 1)) (fun i k hi hk => ⟨1, _, rfl, rfl, nm_meth (by decide), ns, rs, n, ps, qs, i, rfl, by omega, by omega, hk⟩) ?_⟩
  refine ⟨1, _, rfl, rfl, ns, rs, n, ps, qs, rfl, R, hn, p4, q4, hp, hq, _, rfl, by show 3 ≤ 16777216; decide, _, _, rfl, rfl, by show 5 + 3 ≤ 16777216; decide, ?_⟩
  refine ⟨rfl, by rw [rgD_len]; omega, lcGo_rg (h := fun _ => .bl true) (fun i k hi hk => ⟨1, _, rfl, rfl, nm_meth (by decide), ns, rs, n, ps, qs, i, _, rfl, by omega, gd (by omega), gl (by omega), 1, _, rfl, rfl, nm_meth (by decide), ns, rs, n, ps, qs, i, _, rfl, by omega, gd (by omega), gl (by omega), ?_⟩) ?_⟩
  · show k (some (.bl (false ^^ decide (ns.getD ((ps ++ qs).getD i 0) "" = ns.getD ((ps ++ qs).getD i 0) ""))))
    rw [decide_eq_true rfl]
    exact hk
  refine ⟨by show 8 < 16777216; decide, _, dueD ns rs n ps qs, rfl, ?_, (sm_due R hn p4 q4 hp hq).ok (by decide) (by decide), q⟩
  rw [Int.toNat_natCast, range_const]
  have e1 : (List.range (ps.length + qs.length)).map (fun i => D.str (ns.getD ((ps ++ qs).getD i 0) "")) = (nmP ns ps ++ nmP ns qs).map D.str := by
    rw [← List.length_append, range_getD (f := fun p => D.str (ns.getD p "")) (ps ++ qs)]
    unfold nmP
    rw [← List.map_append, List.map_map]
    rfl
  have e2 : (List.range (ps.length + qs.length)).map (fun i => D.int (if i < ps.length then 0 else 1)) = List.replicate ps.length (.int 0) ++ List.replicate qs.length (.int 1) := by
    rw [← range_two]
    exact List.map_congr_left fun i _ => by split <;> rfl
  rw [e1, e2]
  unfold dueD
  exact .lst (.cons (.int _) (.cons (pyr_names _) (.cons (pyr_names _) (.cons (.int _) (.cons (.int _) (.cons (pyr_names _) (.cons (.lst (pyra_app (pyra_rep (.int _) _) (pyra_rep (.int _) _))) (.cons (.str _) (.cons (.lst (pyra_rep (.bl _) _)) .nil)))))))))

end
abbrev s_dl_spoilt : Stmt := top 61
abbrev N_dl_spoilt : List Str := ["_law_made", "_law_told_here"]
theorem sc_dl_spoilt : FnScope N_dl_spoilt ["_law_made"] (defScope s_dl_spoilt) := ⟨rfl, rfl, rfl, by decide +kernel, rfl, by decide +kernel, by decide +kernel⟩
def fSpoilt : List D → (D → Prop) → Prop := fun ds P => ∃ ns rs n ps qs, ds = [layX ns rs n ps qs] ∧ (∀ p ∈ ps, p < ns.length) ∧ (∀ p ∈ qs, p < ns.length) ∧ ps.length ≤ 4 ∧ qs.length ≤ 4 ∧ P (layX ns rs n ps qs)
section
variable {P : Program} {w : World} {K : PySem.W.Frag} {mg : Str → Option Value} {base : Heap} {Ct CL f : Addr} {fd : FuncData}
theorem okd_dl_spoilt (F : Fun K "_law_spoilt" "_law_spoilt" s_dl_spoilt f fd) (T : Bl mg) (p_L_second : Dl.PrpM P w K mg base CL 4 "second" (spN (CM Ct CL) [.bor] (fLy fun ns rs n ps qs P => (∀ p ∈ qs, p < ns.length) ∧ qs.length ≤ 1000 ∧ P (namesX (nmP ns qs))))) (p_L_first : Dl.PrpM P w K mg base CL 4 "first" (spN (CM Ct CL) [.bor] (fLy fun ns rs n ps qs P => (∀ p ∈ ps, p < ns.length) ∧ ps.length ≤ 1000 ∧ P (namesX (nmP ns ps))))) (TC : ThC K Ct) (LC : LyC K CL) : FnG P w K mg base 6 f fd ["_law_made"] (spD (CM Ct CL) [.full] fSpoilt) := by
  refine okD F sc_dl_spoilt rfl fun cdv A outer s H hr hgd => ⟨_, _, (pss_cons (ps_forN (ps_for PassesOwn.never rfl (pi_list (pe_lst (pa_cons (pe_prpV p_L_first LC.cl hr (by decide) (pv 0)) (pa_cons (pe_prpV p_L_second LC.cl hr (by decide) (pv 0)) pa_nil)))) (pg_name (i := 1) sc_dl_spoilt.nd rfl (Or.inl rfl))
  (pss_cons (ps_expr (pe_bm PySem.F.plainAttrs_list PySem.F.slot_list_append PySem.F.type_list_append mt_append (pv 1) (pa_cons pe_str pa_nil)))
  (pss_one (ps_expr (pe_bm0 PySem.F.plainAttrs_list PySem.F.slot_list_reverse PySem.F.type_list_reverse mt_reverse (pv 1)))))))
  (pss_one (ps_ret (pv 0)))), inferInstance, fun ds Q h => ?_⟩
  obtain ⟨ns, rs, n, ps, qs, rfl, hp, hq, p4, q4, q⟩ := h
  refine ⟨1, _, rfl, rfl, ns, rs, n, ps, qs, rfl, hp, by omega, 1, _, rfl, rfl, ns, rs, n, ps, qs, rfl, hq, by omega, by decide, by show 2 ≤ 16777216; decide, ?_⟩
  have z1 : ∀ l : List Nat, ((nmP ns l).map D.str).length = l.length := fun l => by unfold nmP; rw [List.length_map, List.length_map]
  exact ⟨by rw [z1]; omega, by rw [z1]; omega, q⟩

end
end K21

namespace K21
open PySem PySem.Spec PyProof.Rows L2 Xv Cr TL Dl
abbrev s_dl_pick : Stmt := top 50
abbrev N_dl_pick : List Str := ["_law_pot_here", "_law_some"]
theorem sc_dl_pick : FnScope N_dl_pick ["_law_pot_here", "_law_some"] (defScope s_dl_pick) := ⟨rfl, rfl, rfl, by decide +kernel, rfl, by decide +kernel, by decide +kernel⟩
def fPick : List D → (D → Prop) → Prop := fun ds P => ∃ xs : List D, ds = [.non, .lst xs] ∧ 0 < xs.length ∧ xs.length ≤ 1000000 ∧ ∀ x ∈ xs, P x
section
variable {P : Program} {w : World} {K : PySem.W.Frag} {mg : Str → Option Value} {base : Heap} {Ct CL f : Addr} {fd : FuncData}
theorem okd_dl_pick (F : Fun K "_law_pick" "_law_pick" s_dl_pick f fd) (T : Bl mg) (d_draw : Xv.Cl P w K mg base 1 "_law_draw" (spD (CM Ct CL) [.pot, .bor] fDraw))  : FnG P w K mg base 2 f fd ["_law_pot_here", "_law_some"] (spD (CM Ct CL) [.pot, .bor] fPick) := by
  refine okD F sc_dl_pick rfl fun cdv A outer s H hr hgd => ⟨_, _, (pss_one (ps_ret (pe_ix ix_list (pv 1) (pe_cl d_draw hr (by decide) (by rfl) (pa_cons (pv 0) (pa_cons (pe_callB (id := "len") (call_ln) (by rfl) T.len (by decide +kernel) (pa_cons (pv 1) pa_nil)) pa_nil))) (fun _ _ => rfl)))), inferInstance, fun ds Q h => ?_⟩
  obtain ⟨xs, rfl, h0, h1, q⟩ := h
  refine ⟨_, rfl, by omega, by omega, fun i hi => ?_⟩
  have hi' : i < xs.length := by omega
  exact ⟨_, _, xs[i], rfl, rfl, atD (List.getElem?_eq_getElem hi'), q _ (List.getElem_mem hi')⟩

end
abbrev s_dl_other : Stmt := top 62
abbrev N_dl_other : List Str := ["_law_pot_here", "_law_model_here", "_law_lot", "_law_state_now", "_law_near", "_law_far", "_law_many", "_law_places", "_law_found"]
theorem sc_dl_other : FnScope N_dl_other ["_law_pot_here", "_law_model_here", "_law_lot"] (defScope s_dl_other) := ⟨rfl, rfl, rfl, by decide +kernel, rfl, by decide +kernel, by decide +kernel⟩
def fOther : List D → (D → Prop) → Prop := fun ds P => ∃ ns rs n ps qs, ds = [.non, modelX ns rs, lotX n ps qs] ∧ Right ns rs ∧ LotOk n ps qs rs.length ns.length 5 ∧
  ∀ ls : List (Nat × List Nat × List Nat), (∀ l ∈ ls, LotOk l.1 l.2.1 l.2.2 rs.length ns.length 5) → P (.lst (ls.map fun l => lotX l.1 l.2.1 l.2.2))
section
variable {P : Program} {w : World} {K : PySem.W.Frag} {mg : Str → Option Value} {base : Heap} {Ct CL f : Addr} {fd : FuncData}
theorem okd_dl_other (F : Fun K "_law_otherwise" "_law_otherwise" s_dl_other f fd) (T : Bl mg) (B_sorted : mg "sorted" = none) (d_dl_pick : ClG P w K mg base 2 "_law_pick" (spD (CM Ct CL) [.pot, .bor] fPick))  : FnG P w K mg base 3 f fd ["_law_pot_here", "_law_model_here", "_law_lot"] (spN (CM Ct CL) [.pot, .bor, .full] fOther) := by
  refine okN F sc_dl_other rfl fun cdv A outer s H hr hgd => ⟨_, _, (pss_cons (ps_asg (pv 2) (pg_tup (n := 3) rfl (pgs_cons (pg_name (i := 3) sc_dl_other.nd rfl (Or.inl rfl)) (pgs_cons (pg_name (i := 4) sc_dl_other.nd rfl (Or.inl rfl)) (pgs_cons (pg_name (i := 5) sc_dl_other.nd rfl (Or.inl rfl)) pgs_nil)))))
  (pss_cons (ps_par (i := 6) (j := 7) rfl sc_dl_other.nd rfl rfl (by decide) rfl rfl (pa_cons (pe_callB (id := "len") (call_ln) (by rfl) T.len (by decide +kernel) (pa_cons (pe_dget (hu_of hr) (pv 1) pe_str (fun _ _ => rfl)) pa_nil)) (pa_cons (pe_listRg rfl (by rfl) T.list (prg_1 (by rfl) T.range (pe_callB (id := "len") (call_ln) (by rfl) T.len (by decide +kernel) (pa_cons (pe_dget (hu_of hr) (pv 1) pe_str (fun _ _ => rfl)) pa_nil)))) pa_nil)) (by rfl))
  (pss_cons (ps_own (ps_set (i := 8) sc_dl_other.nd rfl (Or.inl rfl) (pe_lst (pa_cons (pe_tup (pa_cons (pe_op op_mod (pe_callTy (T := "int") call_i1 (by rfl) T.int (by decide +kernel) (pa_cons (pe_op op_add (pv 3) pe_int) pa_nil)) (pv 6)) (pa_cons (pv 4) (pa_cons (pv 5) pa_nil)))) (pa_cons (pe_tup (pa_cons (pv 3) (pa_cons (pv 5) (pa_cons (pv 4) pa_nil)))) pa_nil)))))
  (pss_cons (ps_expr (pe_bm PySem.F.plainAttrs_list PySem.F.slot_list_append PySem.F.type_list_append mt_append (pv 8) (pa_cons (pe_tup (pa_cons (pv 3) (pa_cons (pe_callB (id := "sorted") cr_sorted (by rfl) B_sorted (by decide +kernel) (pa_cons (pe_op op_cat (pe_slice sl_list (pv 4) (po_some pe_int) po_none) (pe_lst (pa_cons (pe_clG d_dl_pick hr (by decide) hgd (by rfl) (pa_cons (pv 0) (pa_cons (pv 7) pa_nil))) pa_nil))) pa_nil)) (pa_cons (pv 5) pa_nil)))) pa_nil)))
  (pss_cons (ps_expr (pe_bm PySem.F.plainAttrs_list PySem.F.slot_list_append PySem.F.type_list_append mt_append (pv 8) (pa_cons (pe_tup (pa_cons (pv 3) (pa_cons (pv 4) (pa_cons (pe_callB (id := "sorted") cr_sorted (by rfl) B_sorted (by decide +kernel) (pa_cons (pe_op op_cat (pe_slice sl_list (pv 5) po_none (po_some (pe_un un_neg pe_int))) (pe_lst (pa_cons (pe_clG d_dl_pick hr (by decide) hgd (by rfl) (pa_cons (pv 0) (pa_cons (pv 7) pa_nil))) pa_nil))) pa_nil)) pa_nil)))) pa_nil)))
  (pss_cons (ps_if (pt_cmpR op_lt (pe_op op_add (pe_callB (id := "len") (call_ln) (by rfl) T.len (by decide +kernel) (pa_cons (pv 4) pa_nil)) (pe_callB (id := "len") (call_ln) (by rfl) T.len (by decide +kernel) (pa_cons (pv 5) pa_nil))) pe_int (nomark _)) (pss_one (ps_own (ps_set (i := 8) sc_dl_other.nd rfl (Or.inl rfl) (pe_op op_cat (pv 8) (pe_lst (pa_cons (pe_tup (pa_cons (pv 3) (pa_cons (pe_callB (id := "sorted") cr_sorted (by rfl) B_sorted (by decide +kernel) (pa_cons (pe_op op_cat (pv 4) (pe_lst (pa_cons (pe_clG d_dl_pick hr (by decide) hgd (by rfl) (pa_cons (pv 0) (pa_cons (pv 7) pa_nil))) pa_nil))) pa_nil)) (pa_cons (pv 5) pa_nil)))) (pa_cons (pe_tup (pa_cons (pv 3) (pa_cons (pv 4) (pa_cons (pe_callB (id := "sorted") cr_sorted (by rfl) B_sorted (by decide +kernel) (pa_cons (pe_op op_cat (pv 5) (pe_slice sl_list (pv 5) po_none (po_some pe_int))) pa_nil)) pa_nil)))) pa_nil))))))) pss_nil)
  (pss_cons (ps_if (pt_cmpR op_gt (pe_callB (id := "len") (call_ln) (by rfl) T.len (by decide +kernel) (pa_cons (pv 4) pa_nil)) pe_int (nomark _)) (pss_one (ps_own (ps_set (i := 8) sc_dl_other.nd rfl (Or.inl rfl) (pe_op op_cat (pv 8) (pe_lst (pa_cons (pe_tup (pa_cons (pv 3) (pa_cons (pe_slice sl_list (pv 4) (po_some pe_int) po_none) (pa_cons (pv 5) pa_nil)))) (pa_cons (pe_tup (pa_cons (pv 3) (pa_cons (pe_slice sl_list (pv 4) (po_some pe_int) po_none) (pa_cons (pe_callB (id := "sorted") cr_sorted (by rfl) B_sorted (by decide +kernel) (pa_cons (pe_op op_cat (pv 5) (pe_slice sl_list (pv 4) po_none (po_some pe_int))) pa_nil)) pa_nil)))) pa_nil))))))) pss_nil)
  (pss_one (ps_ret (pv 8)))))))))), inferInstance, fun ds Q h => ?_⟩
  obtain ⟨ns, rs, n, ps, qs, rfl, R, L, q⟩ := h
  have r8 := R.r8
  have r0 := R.r0
  have d4 := R.d4
  have d0 := R.d0
  have hr : (rs.map rowX).length = rs.length := List.length_map _
  have hn : (ns.map D.str).length = ns.length := List.length_map _
  refine ⟨rfl, ?_⟩
  refine ⟨_, _, _, rfl, rfl, lk_rows ns rs, _, _, _, rfl, rfl, lk_deeds ns rs, _, rfl, by omega, by omega, ?_⟩
  have p0 := L.p0
  have q0 := L.q0
  have pq := L.pq
  have rl : (rgD 0 ((ns.map D.str).length : Int).toNat).length = ns.length := by rw [rgD_len]; omega
  have mem : ∀ x ∈ rgD 0 ((ns.map D.str).length : Int).toNat, ∃ a : Nat, a < ns.length ∧ x = .int (a : Nat) := fun x hx => by
    obtain ⟨a, ha, e⟩ := mem_rgD hx
    exact ⟨a, by omega, e⟩
  have s1 : 1 ≤ 16777216 := by decide
  have s3 : 3 ≤ 16777216 := by decide
  -- two at once
  refine ⟨by decide, by show (0 : Int) < ((rs.map rowX).length : Nat); omega, s3, s3, by show 2 ≤ 16777216; decide, ?_⟩
  have L1 : LotOk ((n + 1) % rs.length) ps qs rs.length ns.length 5 := { L with st := Nat.mod_lt _ r0 }
  have L2' : LotOk n qs ps rs.length ns.length 5 := ⟨L.st, L.q0, L.p0, by omega, L.qd, L.pd, L.qs_, L.ps_⟩
  -- one hand otherwise in the first team
  refine ⟨_, rfl, by omega, by omega, fun x hx => ⟨s1, ?_⟩⟩
  obtain ⟨a, ha, rfl⟩ := mem x hx
  refine catN (g1 := ps.drop 1) (g2 := [a]) (cutN_from ps) rfl (by rw [List.length_drop]; show _ + 1 ≤ _; omega) ?_
  refine sortedG (by rw [List.length_append, List.length_drop]; show _ + 1 < _; omega) fun u1 e1 w1 => ⟨s3, by show 2 < 16777216; decide, ?_⟩
  have L3 : LotOk n u1 qs rs.length ns.length 5 := by
    have l := e1.length_eq
    rw [List.length_append, List.length_drop] at l
    have l : u1.length = ps.length - 1 + 1 := l
    refine ⟨L.st, by omega, L.q0, by omega, fun p hp => ?_, L.qd, w1, L.qs_⟩
    rcases List.mem_append.mp (e1.mem_iff.mp hp) with z | z
    · exact L.pd p (List.mem_of_mem_drop z)
    · rw [List.mem_singleton.mp z]; exact ha
  -- .. in the second one
  refine ⟨_, rfl, by omega, by omega, fun x hx => ⟨s1, ?_⟩⟩
  obtain ⟨b, hb, rfl⟩ := mem x hx
  refine catN (g1 := qs.take (qs.length - 1)) (g2 := [b]) (cutN_init qs) rfl (by rw [List.length_take]; show _ + 1 ≤ _; omega) ?_
  refine sortedG (by rw [List.length_append, List.length_take]; show _ + 1 < _; omega) fun u2 e2 w2 => ⟨s3, by show 3 < 16777216; decide, ?_⟩
  have L4 : LotOk n ps u2 rs.length ns.length 5 := by
    have l := e2.length_eq
    rw [List.length_append, List.length_take] at l
    have l : u2.length = min (qs.length - 1) qs.length + 1 := l
    refine ⟨L.st, L.p0, by omega, by omega, L.pd, fun p hp => ?_, L.ps_, w2⟩
    rcases List.mem_append.mp (e2.mem_iff.mp hp) with z | z
    · exact L.qd p (List.mem_of_mem_take z)
    · rw [List.mem_singleton.mp z]; exact hb
  have pl : (ps.map fun (p : Nat) => D.int (p : Nat)).length = ps.length := List.length_map _
  have ql : (qs.map fun (p : Nat) => D.int (p : Nat)).length = qs.length := List.length_map _
  have em : ((n : Int) + 1) % ((rs.map rowX).length : Nat) = (((n + 1) % rs.length : Nat) : Int) := by
    rw [hr]
    simp
  have u1l := e1.length_eq
  have u2l := e2.length_eq
  refine ite2 (fun z => ?_) (fun z => ?_)
  · have z : ps.length + qs.length < 5 := by
      have := of_decide_eq_true z
      rw [pl, ql] at this
      omega
    refine ⟨by decide, ?_⟩
    refine ⟨_, rfl, by omega, by omega, fun x hx => ⟨s1, ?_⟩⟩
    obtain ⟨c, hc, rfl⟩ := mem x hx
    refine catN (g1 := ps) (g2 := [c]) rfl rfl (by show _ + 1 ≤ _; omega) ?_
    refine sortedG (by rw [List.length_append]; show _ + 1 < _; omega) fun u3 e3 w3 => ⟨s3, ?_⟩
    refine ⟨_, _, rfl, rfl, by rw [cutN_to, List.length_map, List.length_map, List.length_take]; omega, ?_⟩
    rw [cutN_to qs, ← List.map_append]
    refine sortedG (g := qs ++ qs.take 1) (by rw [List.length_append, List.length_take]; omega) fun u4 e4 w4 => ⟨s3, by show 2 ≤ 16777216; decide, _, _, rfl, rfl, by show 4 + 2 ≤ 16777216; decide, ?_⟩
    have L5 : LotOk n u3 qs rs.length ns.length 5 := by
      have l := e3.length_eq
      rw [List.length_append] at l
      have l : u3.length = ps.length + 1 := l
      refine ⟨L.st, by omega, L.q0, by omega, fun p hp => ?_, L.qd, w3, L.qs_⟩
      rcases List.mem_append.mp (e3.mem_iff.mp hp) with z | z
      · exact L.pd p z
      · rw [List.mem_singleton.mp z]; exact hc
    have L6 : LotOk n ps u4 rs.length ns.length 5 := by
      have l := e4.length_eq
      rw [List.length_append, List.length_take] at l
      refine ⟨L.st, L.p0, by omega, by omega, L.pd, fun p hp => ?_, L.ps_, w4⟩
      rcases List.mem_append.mp (e4.mem_iff.mp hp) with z | z
      · exact L.qd p z
      · exact L.qd p (List.mem_of_mem_take z)
    refine ite2 (fun z2 => ?_) (fun z2 => ?_)
    · have z2 : 1 < ps.length := by
        have := of_decide_eq_true z2
        rw [pl] at this
        omega
      refine ⟨by decide, s3, ?_⟩
      refine ⟨_, _, rfl, rfl, by rw [cutN_to, List.length_map, List.length_map, List.length_take]; omega, ?_⟩
      rw [cutN_to ps, ← List.map_append]
      refine sortedG (g := qs ++ ps.take 1) (by rw [List.length_append, List.length_take]; omega) fun u5 e5 w5 => ⟨s3, by show 2 ≤ 16777216; decide, _, _, rfl, rfl, by show 6 + 2 ≤ 16777216; decide, ?_⟩
      have L7 : LotOk n (ps.drop 1) qs rs.length ns.length 5 := ⟨L.st, by rw [List.length_drop]; omega, L.q0, by rw [List.length_drop]; omega, fun p hp => L.pd p (List.mem_of_mem_drop hp), L.qd, L.ps_.sublist (List.drop_sublist 1 ps), L.qs_⟩
      have L8 : LotOk n (ps.drop 1) u5 rs.length ns.length 5 := by
        have l := e5.length_eq
        rw [List.length_append, List.length_take] at l
        refine ⟨L.st, by rw [List.length_drop]; omega, by omega, by rw [List.length_drop]; omega, fun p hp => L.pd p (List.mem_of_mem_drop hp), fun p hp => ?_, L.ps_.sublist (List.drop_sublist 1 ps), w5⟩
        rcases List.mem_append.mp (e5.mem_iff.mp hp) with z | z
        · exact L.qd p z
        · exact L.pd p (List.mem_of_mem_take z)
      have qq := q [((n + 1) % rs.length, ps, qs), (n, qs, ps), (n, u1, qs), (n, ps, u2), (n, u3, qs), (n, ps, u4), (n, ps.drop 1, qs), (n, ps.drop 1, u5)] (List.forall_mem_cons.mpr ⟨L1, List.forall_mem_cons.mpr ⟨L2', List.forall_mem_cons.mpr ⟨L3, List.forall_mem_cons.mpr ⟨L4, List.forall_mem_cons.mpr ⟨L5, List.forall_mem_cons.mpr ⟨L6, List.forall_mem_cons.mpr ⟨L7, List.forall_mem_cons.mpr ⟨L8, fun _ h => nomatch h⟩⟩⟩⟩⟩⟩⟩⟩)
      have ec := cutN_from ps
      show Q (.lst [.tup [.int (((n : Int) + 1) % ((rs.map rowX).length : Nat)), natsX ps, natsX qs], .tup [.int (n : Nat), natsX qs, natsX ps], .tup [.int (n : Nat), natsX u1, natsX qs], .tup [.int (n : Nat), natsX ps, natsX u2], .tup [.int (n : Nat), natsX u3, natsX qs], .tup [.int (n : Nat), natsX ps, natsX u4], .tup [.int (n : Nat), .lst (cutD (ps.map fun (p : Nat) => D.int (p : Nat)) (some 1) none), natsX qs], .tup [.int (n : Nat), .lst (cutD (ps.map fun (p : Nat) => D.int (p : Nat)) (some 1) none), natsX u5]])
      rw [em, ec]
      exact qq
    · have qq := q [((n + 1) % rs.length, ps, qs), (n, qs, ps), (n, u1, qs), (n, ps, u2), (n, u3, qs), (n, ps, u4)] (List.forall_mem_cons.mpr ⟨L1, List.forall_mem_cons.mpr ⟨L2', List.forall_mem_cons.mpr ⟨L3, List.forall_mem_cons.mpr ⟨L4, List.forall_mem_cons.mpr ⟨L5, List.forall_mem_cons.mpr ⟨L6, fun _ h => nomatch h⟩⟩⟩⟩⟩⟩)
      show Q (.lst [.tup [.int (((n : Int) + 1) % ((rs.map rowX).length : Nat)), natsX ps, natsX qs], .tup [.int (n : Nat), natsX qs, natsX ps], .tup [.int (n : Nat), natsX u1, natsX qs], .tup [.int (n : Nat), natsX ps, natsX u2], .tup [.int (n : Nat), natsX u3, natsX qs], .tup [.int (n : Nat), natsX ps, natsX u4]])
      rw [em]
      exact qq
  · refine ite2 (fun z2 => ?_) (fun z2 => ?_)
    · have z2 : 1 < ps.length := by
        have := of_decide_eq_true z2
        rw [pl] at this
        omega
      refine ⟨by decide, s3, ?_⟩
      refine ⟨_, _, rfl, rfl, by rw [cutN_to, List.length_map, List.length_map, List.length_take]; omega, ?_⟩
      rw [cutN_to ps, ← List.map_append]
      refine sortedG (g := qs ++ ps.take 1) (by rw [List.length_append, List.length_take]; omega) fun u5 e5 w5 => ⟨s3, by show 2 ≤ 16777216; decide, _, _, rfl, rfl, by show 4 + 2 ≤ 16777216; decide, ?_⟩
      have L7 : LotOk n (ps.drop 1) qs rs.length ns.length 5 := ⟨L.st, by rw [List.length_drop]; omega, L.q0, by rw [List.length_drop]; omega, fun p hp => L.pd p (List.mem_of_mem_drop hp), L.qd, L.ps_.sublist (List.drop_sublist 1 ps), L.qs_⟩
      have L8 : LotOk n (ps.drop 1) u5 rs.length ns.length 5 := by
        have l := e5.length_eq
        rw [List.length_append, List.length_take] at l
        refine ⟨L.st, by rw [List.length_drop]; omega, by omega, by rw [List.length_drop]; omega, fun p hp => L.pd p (List.mem_of_mem_drop hp), fun p hp => ?_, L.ps_.sublist (List.drop_sublist 1 ps), w5⟩
        rcases List.mem_append.mp (e5.mem_iff.mp hp) with z | z
        · exact L.qd p z
        · exact L.pd p (List.mem_of_mem_take z)
      have qq := q [((n + 1) % rs.length, ps, qs), (n, qs, ps), (n, u1, qs), (n, ps, u2), (n, ps.drop 1, qs), (n, ps.drop 1, u5)] (List.forall_mem_cons.mpr ⟨L1, List.forall_mem_cons.mpr ⟨L2', List.forall_mem_cons.mpr ⟨L3, List.forall_mem_cons.mpr ⟨L4, List.forall_mem_cons.mpr ⟨L7, List.forall_mem_cons.mpr ⟨L8, fun _ h => nomatch h⟩⟩⟩⟩⟩⟩)
      have ec := cutN_from ps
      show Q (.lst [.tup [.int (((n : Int) + 1) % ((rs.map rowX).length : Nat)), natsX ps, natsX qs], .tup [.int (n : Nat), natsX qs, natsX ps], .tup [.int (n : Nat), natsX u1, natsX qs], .tup [.int (n : Nat), natsX ps, natsX u2], .tup [.int (n : Nat), .lst (cutD (ps.map fun (p : Nat) => D.int (p : Nat)) (some 1) none), natsX qs], .tup [.int (n : Nat), .lst (cutD (ps.map fun (p : Nat) => D.int (p : Nat)) (some 1) none), natsX u5]])
      rw [em, ec]
      exact qq
    · have qq := q [((n + 1) % rs.length, ps, qs), (n, qs, ps), (n, u1, qs), (n, ps, u2)] (List.forall_mem_cons.mpr ⟨L1, List.forall_mem_cons.mpr ⟨L2', List.forall_mem_cons.mpr ⟨L3, List.forall_mem_cons.mpr ⟨L4, fun _ h => nomatch h⟩⟩⟩⟩)
      show Q (.lst [.tup [.int (((n : Int) + 1) % ((rs.map rowX).length : Nat)), natsX ps, natsX qs], .tup [.int (n : Nat), natsX qs, natsX ps], .tup [.int (n : Nat), natsX u1, natsX qs], .tup [.int (n : Nat), natsX ps, natsX u2]])
      rw [em]
      exact qq

end
end K21

/-! list(zip(a, b)) -/
namespace Cr
open PySem PySem.Spec
/-- a zip whose last tuple is still in use -/
abbrev ZipOut (h : Heap) (z TI TO T : Addr) (f : Bool) : Prop :=
  h.get? z = some { cls := .type "zip", dict := none, data := .fields #[rawInt T, .bool f, .bool false, .ref TI, .ref TO], slots := #[] }
section
variable {prog : Program} {w : World} {A : Around} {E : Value → Shared → Prop} {s : Shared}
theorem look_up {a : Addr} {o : Obj} {Q : Option Obj → Shared → Prop} (ho : s.heap.get? a = some o) (h : Q (some o) s) : wpAny (model prog w) A (loadIfAlive a) Q E s :=
  fun _ _ _ => show Q (s.heap.get? a) s from ho ▸ h
/-- whether the last tuple is free: it is not -/
theorem not_free {z TI TO T : Addr} {f : Bool} {oT : Obj} {Q : Bool → Shared → Prop} (hz : ZipOut s.heap z TI TO T f) (al : s.heap.get? T = some oT)
    (q : ∀ h', ZipOut h' z TI TO T true → Heap.SameBut z s.heap h' → Q false { s with heap := h' }) : wpAny (model prog w) A (Builtin.SmallTypes.ownedTupleIsFree (.ref z)) Q E s := by
  unfold Builtin.SmallTypes.ownedTupleIsFree
  refine wpAny_bind (wpAny_field hz rfl (x := rawInt T) rfl ?_)
  show wpAny _ _ (loadIfAlive ((T : Int).toNat) >>= _) _ _ _
  rw [Int.toNat_natCast]
  refine wpAny_bind (look_up al ?_)
  simp only [Option.isNone_some, Bool.false_eq_true, if_false]
  refine wpAny_bind (wpAny_field hz rfl (x := .bool f) rfl ?_)
  cases f with
  | true => exact wpAny_pure (q _ hz (Heap.SameBut.refl _ _))
  | false =>
    rw [if_pos (show (Value.bool false != Value.bool true) = true from rfl)]
    exact wpAny_bind (wpAny_setField_rec hz (by simp) fun h' hz' sb => wpAny_pure (q h' hz' sb))
theorem zip_more {z TI TO i1 i2 l1 l2 T : Addr} {f : Bool} {oT : Obj} {k : Nat} {xs ys : Array Value} {x y : Value} {Q : Value → Shared → Prop} (D : ZipApart z TI TO i1 i2 l1 l2)
    (hz : ZipOut s.heap z TI TO T f) (al : s.heap.get? T = some oT) (hTI : IsPair s.heap TI (.ref i1) (.ref i2))
    (h1 : s.heap.IsListIter i1 l1 k) (h2 : s.heap.IsListIter i2 l2 k) (hl1 : s.heap.IsList l1 xs) (hl2 : s.heap.IsList l2 ys) (hx : xs[k]? = some x) (hy : ys[k]? = some y)
    (q : ∀ h', ZipOut h' z TI TO T true → h'.IsListIter i1 l1 (k + 1) → h'.IsListIter i2 l2 (k + 1) → IsPair h' s.heap.objs.size x y → (∀ c o, c ≠ z → c ≠ i1 → c ≠ i2 → s.heap.get? c = some o → h'.get? c = some o) → Q (.ref s.heap.objs.size) { s with heap := h' }) :
    wpAny (model prog w) A (Builtin.«zip.__next__» ⟨[.ref z], []⟩) (fun fin s' => ∃ v, fin = .done (.ret v) ∧ Q v s') E s := by
  refine wpAny_bind (wpAny_pure ?_)
  refine wpAny_bind (wpAny_field hz rfl (x := .bool false) rfl ?_)
  refine wpAny_bind (wpAny_field hz rfl (x := .ref TI) rfl ?_)
  refine wpAny_bind (wpAny_seqItems hTI rfl ?_)
  refine wpAny_bind (not_free hz al fun h0 hz0 sb0 => ?_)
  simp only [Bool.false_eq_true, if_false, List.forIn_toArray, List.forIn_cons, List.forIn_nil]
  have k0 : ∀ c o, c ≠ z → s.heap.get? c = some o → h0.get? c = some o := fun c o n e => sb0.extBut _ _ n e
  refine wpAny_bind (wpAny_bind (wpAny_bind (wpAny_holding ?_)))
  show wpAny _ _ (Builtin.SmallTypes.nextOf (.ref i1) >>= _) _ _ _
  refine wpAny_bind (wpAny_nextOf_list_item (h1.extBut sb0.extBut D.i1z) (hl1.extBut sb0.extBut D.l1z) hx fun g1 a1 b1 => wpAny_pure ?_)
  refine wpAny_pure (wpAny_bind (wpAny_bind (wpAny_holding ?_)))
  show wpAny _ _ (Builtin.SmallTypes.nextOf (.ref i2) >>= _) _ _ _
  refine wpAny_bind (wpAny_nextOf_list_item ((h2.extBut sb0.extBut D.i2z).extBut b1.extBut D.i12.symm) ((hl2.extBut sb0.extBut D.l2z).extBut b1.extBut D.l2i1) hy fun g2 a2 b2 => wpAny_pure (wpAny_pure (wpAny_pure (wpAny_bind (wpAny_newTuple ?_ (by show 2 ≤ sizeLine; decide))))))
  have sz : g2.objs.size = s.heap.objs.size := b2.1.trans (b1.1.trans sb0.1)
  have kp : ∀ c o, c ≠ z → c ≠ i1 → c ≠ i2 → s.heap.get? c = some o → (g2.push { cls := .type "tuple", data := .seq #[x, y] }).get? c = some o := fun c o c1 c2 c3 e =>
    Heap.get?_push_of_some _ (b2.extBut _ _ c3 (b1.extBut _ _ c2 (k0 _ _ c1 e)))
  refine wpAny_pure ⟨_, rfl, ?_⟩
  show Q (.ref g2.objs.size) { s with heap := g2.push { cls := .type "tuple", data := .seq #[x, y] } }
  have new : IsPair (g2.push { cls := .type "tuple", data := .seq #[x, y] }) g2.objs.size x y := Heap.get?_push_size _ rfl
  rw [sz] at new ⊢
  exact q _ (Heap.get?_push_of_some _ (b2.extBut _ _ D.i2z.symm (b1.extBut _ _ D.i1z.symm hz0))) ((a1.extBut b2.extBut D.i12).at fun o e => Heap.get?_push_of_some _ e) (a2.at fun o e => Heap.get?_push_of_some _ e) new kp
theorem zip_stop {z TI TO i1 i2 l1 l2 T : Addr} {f : Bool} {oT : Obj} {k : Nat} {xs : Array Value} {Q : PySem.Fin → Shared → Prop} (calm : A.handled = none) (D : ZipApart z TI TO i1 i2 l1 l2)
    (hz : ZipOut s.heap z TI TO T f) (al : s.heap.get? T = some oT) (hTI : IsPair s.heap TI (.ref i1) (.ref i2)) (h1 : s.heap.IsListIter i1 l1 k) (hl1 : s.heap.IsList l1 xs) (hx : xs[k]? = none)
    (q : ∀ h' e, (∀ c o, c ≠ z → c ≠ i1 → s.heap.get? c = some o → h'.get? c = some o) → (∃ o, h'.get? e = some o ∧ o.cls = .type "StopIteration") → E (.ref e) { s with heap := h' }) :
    wpAny (model prog w) A (Builtin.«zip.__next__» ⟨[.ref z], []⟩) Q E s := by
  refine wpAny_bind (wpAny_pure ?_)
  refine wpAny_bind (wpAny_field hz rfl (x := .bool false) rfl ?_)
  refine wpAny_bind (wpAny_field hz rfl (x := .ref TI) rfl ?_)
  refine wpAny_bind (wpAny_seqItems hTI rfl ?_)
  refine wpAny_bind (not_free hz al fun h0 hz0 sb0 => ?_)
  simp only [Bool.false_eq_true, if_false, List.forIn_toArray, List.forIn_cons, List.forIn_nil]
  refine wpAny_bind (wpAny_bind (wpAny_bind (wpAny_holding ?_)))
  show wpAny _ _ (Builtin.SmallTypes.nextOf (.ref i1) >>= _) _ _ _
  exact wpAny_bind (wpAny_nextOf_list_end calm (h1.extBut sb0.extBut D.i1z) (hl1.extBut sb0.extBut D.l1z) hx fun g e keep he => q g e (fun c o c1 c2 hc => keep _ _ c2 (sb0.extBut _ _ c1 hc)) he)
theorem next_more {z TI TO i1 i2 l1 l2 T : Addr} {f : Bool} {oT : Obj} {k : Nat} {xs ys : Array Value} {x y : Value} {Q : Option Value → Shared → Prop} (D : ZipApart z TI TO i1 i2 l1 l2)
    (hz : ZipOut s.heap z TI TO T f) (al : s.heap.get? T = some oT) (hTI : IsPair s.heap TI (.ref i1) (.ref i2))
    (h1 : s.heap.IsListIter i1 l1 k) (h2 : s.heap.IsListIter i2 l2 k) (hl1 : s.heap.IsList l1 xs) (hl2 : s.heap.IsList l2 ys) (hx : xs[k]? = some x) (hy : ys[k]? = some y)
    (q : ∀ h', ZipOut h' z TI TO T true → h'.IsListIter i1 l1 (k + 1) → h'.IsListIter i2 l2 (k + 1) → IsPair h' s.heap.objs.size x y → (∀ c o, c ≠ z → c ≠ i1 → c ≠ i2 → s.heap.get? c = some o → h'.get? c = some o) → Q (some (.ref s.heap.objs.size)) { s with heap := h' }) :
    wpAny (model prog w) A (pyNext (.ref z)) Q E s := by
  have ty : s.TypeIs (.ref z) "zip" := ⟨_, hz, rfl⟩
  exact wpAny_bind (wpAny_attempt (wpAny_callSpecial?_slot (name := Str.ofString "__next__") ty PySem.F.slot_zip_next (wpAny_call_entry PySem.F.slot_zip_next ty PySem.F.entry_zip_next
    (zip_more D hz al hTI h1 h2 hl1 hl2 hx hy fun h' b1 b2 b3 b4 b5 => wpAny_pure (q h' b1 b2 b3 b4 b5)) (PySem.F.args_zip_next_1 _))))
theorem next_stop {z TI TO i1 i2 l1 l2 T : Addr} {f : Bool} {oT : Obj} {k : Nat} {xs : Array Value} {Q : Option Value → Shared → Prop} (calm : A.handled = none) (D : ZipApart z TI TO i1 i2 l1 l2)
    (hz : ZipOut s.heap z TI TO T f) (al : s.heap.get? T = some oT) (hTI : IsPair s.heap TI (.ref i1) (.ref i2)) (h1 : s.heap.IsListIter i1 l1 k) (hl1 : s.heap.IsList l1 xs) (hx : xs[k]? = none)
    (q : ∀ h', (∀ c o, c ≠ z → c ≠ i1 → s.heap.get? c = some o → h'.get? c = some o) → Q none { s with heap := h' }) :
    wpAny (model prog w) A (pyNext (.ref z)) Q E s := by
  have ty : s.TypeIs (.ref z) "zip" := ⟨_, hz, rfl⟩
  refine wpAny_bind (wpAny_attempt (wpAny_callSpecial?_slot (name := Str.ofString "__next__") ty PySem.F.slot_zip_next (wpAny_call_entry PySem.F.slot_zip_next ty PySem.F.entry_zip_next
    (zip_stop calm D hz al hTI h1 hl1 hx fun h' e keep he => ?_) (PySem.F.args_zip_next_1 _))))
  obtain ⟨o, ho, hc⟩ := he
  exact wpAny_bind (wpAny_isInstance (T := "StopIteration") (b := true) ⟨o, ho, hc⟩ isSubtype_stop (wpAny_pure (q h' keep)))
/-- a zip of two lists that has given i pairs -/
def ZipAt (h : Heap) (z TI TO i1 i2 l1 l2 S : Addr) (xs ys : Array Value) (i : Nat) : Prop :=
  ((i = 0 ∧ IsZip h z TI TO .none ∧ ∃ a b, IsPair h TO a b) ∨ ∃ T f o, ZipOut h z TI TO T f ∧ h.get? T = some o ∧ T ≠ S) ∧ IsPair h TI (.ref i1) (.ref i2) ∧ h.IsListIter i1 l1 i ∧ h.IsListIter i2 l2 i ∧ h.IsList l1 xs ∧ h.IsList l2 ys
structure ZipOff (z TI TO i1 i2 l1 l2 S : Addr) : Prop where
  z : z ≠ S
  TI : TI ≠ S
  TO : TO ≠ S
  i1 : i1 ≠ S
  i2 : i2 ≠ S
  l1 : l1 ≠ S
  l2 : l2 ≠ S
section
variable {z TI TO i1 i2 l1 l2 S : Addr} {xs ys : Array Value} {i : Nat}
theorem ZipAt.off {h h' : Heap} (O : ZipOff z TI TO i1 i2 l1 l2 S) (q : ZipAt h z TI TO i1 i2 l1 l2 S xs ys i) (k : ∀ b o, b ≠ S → h.get? b = some o → h'.get? b = some o) : ZipAt h' z TI TO i1 i2 l1 l2 S xs ys i := by
  obtain ⟨a, b, c, d, e, f⟩ := q
  refine ⟨?_, k _ _ O.TI b, c.at fun o q => k _ o O.i1 q, d.at fun o q => k _ o O.i2 q, e.at fun o q => k _ o O.l1 q, f.at fun o q => k _ o O.l2 q⟩
  rcases a with ⟨a1, a2, x, y, a3⟩ | ⟨T, f, o, a1, a2, a3⟩
  · exact .inl ⟨a1, k _ _ O.z a2, x, y, k _ _ O.TO a3⟩
  · exact .inr ⟨T, f, o, k _ _ O.z a1, k _ _ a3 a2, a3⟩
theorem ZipAt.next {x y : Value} {Q : Option Value → Shared → Prop} (D : ZipApart z TI TO i1 i2 l1 l2) (q : ZipAt s.heap z TI TO i1 i2 l1 l2 S xs ys i) (hx : xs[i]? = some x) (hy : ys[i]? = some y) (lS : S < s.heap.objs.size)
    (h : ∀ h', ZipAt h' z TI TO i1 i2 l1 l2 S xs ys (i + 1) → IsPair h' s.heap.objs.size x y → (∀ c o, c ≠ z → c ≠ TO → c ≠ i1 → c ≠ i2 → s.heap.get? c = some o → h'.get? c = some o) → Q (some (.ref s.heap.objs.size)) { s with heap := h' }) :
    wpAny (model prog w) A (pyNext (.ref z)) Q E s := by
  obtain ⟨a, b, c, d, e, f⟩ := q
  rcases a with ⟨rfl, a2, u, v, a3⟩ | ⟨T, g, o, a1, a2, a3⟩
  · refine wpAny_pyNext_zip_item D a2 b a3 c d e f hx hy fun h' b1 b2 b3 b4 b5 b6 k => h h' ⟨.inr ⟨_, false, _, b1, b5, Nat.ne_of_gt lS⟩, k _ _ D.TIz D.TITO D.TIi1 D.TIi2 b, b3, b4, ?_, ?_⟩ b5 k
    · exact e.at fun o q => k _ o D.l1z D.l1TO D.l1i1 D.l1i2 q
    · exact f.at fun o q => k _ o D.l2z D.l2TO D.l2i1 D.l2i2 q
  · refine next_more D a1 a2 b c d e f hx hy fun h' b1 b2 b3 b4 k => h h' ⟨.inr ⟨T, true, ?_⟩, k _ _ D.TIz D.TIi1 D.TIi2 b, b2, b3, e.at fun o q => k _ o D.l1z D.l1i1 D.l1i2 q, f.at fun o q => k _ o D.l2z D.l2i1 D.l2i2 q⟩ b4 fun c o c1 _ c3 c4 => k c o c1 c3 c4
    by_cases t1 : T = z
    · subst t1
      exact ⟨_, b1, b1, a3⟩
    by_cases t2 : T = i1
    · obtain ⟨p, p1, _⟩ := b2
      exact ⟨p, b1, t2 ▸ p1, a3⟩
    by_cases t3 : T = i2
    · obtain ⟨p, p1, _⟩ := b3
      exact ⟨p, b1, t3 ▸ p1, a3⟩
    exact ⟨o, b1, k _ _ t1 t2 t3 a2, a3⟩
theorem ZipAt.stop {Q : Option Value → Shared → Prop} (calm : A.handled = none) (D : ZipApart z TI TO i1 i2 l1 l2) (q : ZipAt s.heap z TI TO i1 i2 l1 l2 S xs ys i) (hx : xs[i]? = none)
    (h : ∀ h', (∀ c o, c ≠ z → c ≠ TO → c ≠ i1 → c ≠ i2 → s.heap.get? c = some o → h'.get? c = some o) → Q none { s with heap := h' }) : wpAny (model prog w) A (pyNext (.ref z)) Q E s := by
  obtain ⟨a, b, c, d, e, f⟩ := q
  rcases a with ⟨rfl, a2, u, v, a3⟩ | ⟨T, g, o, a1, a2, a3⟩
  · exact wpAny_pyNext_zip_end calm D a2 b a3 c d e f (.inl hx) h
  · exact next_stop calm D a1 a2 b c e hx fun h' k => h h' fun c o c1 _ c3 _ => k c o c1 c3
end
section
open PySem.W
variable {R : Result → Shared → Prop} {z TI TO i1 i2 l1 l2 S : Addr} {xs ys : Array Value} {κ : Type} [DecidableEq κ] {kd : KeyKind prog w κ} {kvs : List (κ × Value)}
theorem kdx_keep {lo : Addr} {h h' : Heap} {as : List Addr} (g : KdxG kd kvs lo h as) (k : ∀ b o, b ∈ as → h.get? b = some o → h'.get? b = some o) : KdxG kd kvs lo h' as :=
  ⟨g.rise, g.above, fun j a ha => let ⟨key, kk, x, h1, h2, h3⟩ := g.pairs j a ha; ⟨key, kk, x, h1, h2, k a _ (List.mem_of_getElem? ha) h3⟩⟩
/-- the walk of a list that is made of a zip -/
theorem zip_list (calm : A.handled = none) (D : ZipApart z TI TO i1 i2 l1 l2) (O : ZipOff z TI TO i1 i2 l1 l2 S) (below : z < S ∧ TO < S ∧ i1 < S ∧ i2 < S) (lx : xs.size = kvs.length) (sm : kvs.length ≤ 1000)
    (key : ∀ (j : Nat) k v, kvs[j]? = some (k, v) → ∃ x, xs[j]? = some x ∧ kd.is k x = true ∧ ys[j]? = some v) :
    ∀ (left i : Nat), i + left = kvs.length → ∀ (s : Shared) (as : List Addr) (acc : Array Value) (c : Nat), as.length = i → acc.toList = as.map Value.ref → ZipAt s.heap z TI TO i1 i2 l1 l2 S xs ys i → s.heap.get? S = some { cls := .type "list", dict := none, data := .seq acc c, slots := #[] } → KdxG kd kvs S s.heap as →
      (∀ h' as' acc' c', as'.length = kvs.length → acc'.toList = as'.map Value.ref → h'.get? S = some { cls := .type "list", dict := none, data := .seq acc' c', slots := #[] } → KdxG kd kvs S h' as' → (∀ b o, b ≠ z → b ≠ TO → b ≠ i1 → b ≠ i2 → b ≠ S → s.heap.get? b = some o → h'.get? b = some o) → R (.ok (.ret .none)) { s with heap := h' }) →
      codeAny (model prog w) A (.builtin "list.extend.loop" ⟨[.ref S, .ref z, .none], []⟩) R s
  | 0, i, e, s, as, acc, c, la, lac, za, hS, g, q => by
    refine codeAny_builtin PySem.F.entry_extend_loop ((congrArg (fun a => wpAny (model prog w) a _ _ _ s) (Around.under_plainId PySem.F.plain_extend_loop _)).mpr ?_)
    refine wpAny_bind (za.stop (by simp [calm]) D (by rw [Array.getElem?_eq_none]; omega) fun h' k => wpAny_pure ?_)
    have far : ∀ b, S ≤ b → b ≠ z ∧ b ≠ TO ∧ b ≠ i1 ∧ b ≠ i2 := fun b hb => ⟨Nat.ne_of_gt (Nat.lt_of_lt_of_le below.1 hb), Nat.ne_of_gt (Nat.lt_of_lt_of_le below.2.1 hb), Nat.ne_of_gt (Nat.lt_of_lt_of_le below.2.2.1 hb), Nat.ne_of_gt (Nat.lt_of_lt_of_le below.2.2.2 hb)⟩
    have fS := far S (Nat.le_refl _)
    exact q h' as acc c (by omega) lac (k _ _ fS.1 fS.2.1 fS.2.2.1 fS.2.2.2 hS) (kdx_keep g fun b o hb hq => have f := far b (Nat.le_of_lt (g.above b hb)); k _ _ f.1 f.2.1 f.2.2.1 f.2.2.2 hq) fun b o b1 b2 b3 b4 _ => k b o b1 b2 b3 b4
  | left + 1, i, e, s, as, acc, c, la, lac, za, hS, g, q => by
    have lt : i < kvs.length := by omega
    obtain ⟨x, hx, is, hy⟩ := key i _ _ (List.getElem?_eq_getElem lt)
    have lS : S < s.heap.objs.size := Heap.lt_size hS
    have far : ∀ b, S ≤ b → b ≠ z ∧ b ≠ TO ∧ b ≠ i1 ∧ b ≠ i2 := fun b hb => ⟨Nat.ne_of_gt (Nat.lt_of_lt_of_le below.1 hb), Nat.ne_of_gt (Nat.lt_of_lt_of_le below.2.1 hb), Nat.ne_of_gt (Nat.lt_of_lt_of_le below.2.2.1 hb), Nat.ne_of_gt (Nat.lt_of_lt_of_le below.2.2.2 hb)⟩
    have fS := far S (Nat.le_refl _)
    refine codeAny_builtin PySem.F.entry_extend_loop ((congrArg (fun a => wpAny (model prog w) a _ _ _ s) (Around.under_plainId PySem.F.plain_extend_loop _)).mpr ?_)
    refine wpAny_bind (za.next D hx hy lS fun h' za' new k => ?_)
    have hS' := k _ _ fS.1 fS.2.1 fS.2.2.1 fS.2.2.2 hS
    have sz : acc.size = i := by rw [← Array.length_toList, lac, List.length_map, la]
    refine wpAny_bind (wpAny_updateSeq hS' rfl (wpAny_pure ⟨plainId_quiet PySem.F.plain_extend_loop _, ?_⟩) (by rw [sz]; unfold sizeLine; omega) (by show (acc.push _).size ≤ sizeLine + 1; rw [Array.size_push, sz]; unfold sizeLine; omega))
    have eS := Heap.get?_update_self (Obj.mapSeq fun (a : Array Value) => a.push (Value.ref s.heap.objs.size)) hS' rfl
    have oth : ∀ b o, b ≠ S → h'.get? b = some o → (h'.update S (Obj.mapSeq fun (a : Array Value) => a.push (Value.ref s.heap.objs.size))).get? b = some o := fun b o n q => (Heap.get?_update_other _ _ n.symm).trans q
    refine zip_list calm D O below lx sm key left (i + 1) (by omega) _ (as ++ [s.heap.objs.size]) _ _ (by rw [List.length_append, la]; rfl) (by rw [Array.toList_push, lac, List.map_append]; rfl) (za'.off O oth) eS ⟨?_, fun b hb => ?_, fun j b hb => ?_⟩ fun h2 as2 acc2 c2 l2 l3 e2 g2 k2 => q h2 as2 acc2 c2 l2 l3 e2 g2 fun b o b1 b2 b3 b4 b5 hb => k2 b o b1 b2 b3 b4 b5 (oth _ _ b5 (k _ _ b1 b2 b3 b4 hb))
    · rw [List.pairwise_append]
      refine ⟨g.rise, List.pairwise_singleton _ _, fun a ha b hb => ?_⟩
      rw [List.mem_singleton.mp hb]
      exact g.there ha
    · rcases List.mem_append.mp hb with hb | hb
      · exact g.above b hb
      · rw [List.mem_singleton.mp hb]
        exact lS
    · by_cases hj : j < as.length
      · rw [List.getElem?_append_left hj] at hb
        obtain ⟨key, kk, v, h1, h2, h3⟩ := g.pairs j b hb
        have ab := g.above b (List.mem_of_getElem? hb)
        have f := far b (Nat.le_of_lt ab)
        exact ⟨key, kk, v, h1, h2, oth _ _ (Nat.ne_of_gt ab) (k _ _ f.1 f.2.1 f.2.2.1 f.2.2.2 h3)⟩
      · have hj2 : j = i := by
          have := (List.getElem?_eq_some_iff.mp hb).1
          rw [List.length_append] at this
          simp at this
          omega
        subst hj2
        rw [← la, List.getElem?_append_right (Nat.le_refl _), Nat.sub_self] at hb
        cases hb
        exact ⟨x, _, _, List.getElem?_eq_getElem lt, is, oth _ _ (Nat.ne_of_gt lS) new⟩
end
theorem zip_no_len : typeLookup (.type "zip") "__len__" = pure none := by rw [typeLookup_type, builtinLookup_eq_fast]; kernel_rfl
theorem zip_no_hint : typeLookup (.type "zip") "__length_hint__" = pure none := by rw [typeLookup_type, builtinLookup_eq_fast]; kernel_rfl
section
open PySem.W
variable {R : Result → Shared → Prop} {z TI TO i1 i2 l1 l2 S : Addr} {xs ys : Array Value} {κ : Type} [DecidableEq κ] {kd : KeyKind prog w κ} {kvs : List (κ × Value)}
/-- list.__init__ of an empty list and a new zip -/
theorem zip_init (calm : A.handled = none) (D : ZipApart z TI TO i1 i2 l1 l2) (O : ZipOff z TI TO i1 i2 l1 l2 S) (below : z < S ∧ TO < S ∧ i1 < S ∧ i2 < S) (lx : xs.size = kvs.length) (sm : kvs.length ≤ 1000)
    (key : ∀ (j : Nat) k v, kvs[j]? = some (k, v) → ∃ x, xs[j]? = some x ∧ kd.is k x = true ∧ ys[j]? = some v)
    (hz : IsZip s.heap z TI TO .none) (za : ZipAt s.heap z TI TO i1 i2 l1 l2 S xs ys 0) (hS : s.heap.get? S = some { cls := .type "list", data := .seq #[] })
    (q : ∀ h' as acc c, as.length = kvs.length → acc.toList = as.map Value.ref → h'.get? S = some { cls := .type "list", dict := none, data := .seq acc c, slots := #[] } → KdxG kd kvs S h' as → (∀ b o, b ≠ z → b ≠ TO → b ≠ i1 → b ≠ i2 → b ≠ S → s.heap.get? b = some o → h'.get? b = some o) → R (.ok (.ret .none)) { s with heap := h' }) :
    wpAny (model prog w) A.in1 (Builtin.«list.__init__» ⟨[.ref S, .ref z], []⟩)
      (fun fin s' => match fin with | .done f => R (.ok f) s' | .again c' => c'.quiet = true ∧ codeAny (model prog w) A c' R s') (fun e s' => R (.error e) s') s := by
  refine wpAny_bind (show wpAny _ _ (Builtin.List.listItems (.ref S)) _ _ s from ?_)
  unfold Builtin.List.listItems
  refine wpAny_bind (wpAny_seqItems (a := S) hS rfl (wpAny_pure (wpAny_bind (wpAny_updateSeq hS rfl ?_ (by unfold sizeLine; decide) (by unfold sizeLine; decide)))))
  have eS := Heap.get?_update_self (Obj.mapSeq fun _ => (#[] : Array Value)) hS rfl
  have oth : ∀ b o, b ≠ S → s.heap.get? b = some o → (s.heap.update S (Obj.mapSeq fun _ => (#[] : Array Value))).get? b = some o := fun b o n e => (Heap.get?_update_other _ _ n.symm).trans e
  have hz2 : IsZip (s.heap.update S (Obj.mapSeq fun _ => (#[] : Array Value))) z TI TO .none := oth _ _ O.z hz
  have za2 := za.off O oth
  refine wpAny_bind (wpAny_letGo ?_)
  have ty : Shared.TypeIs { s with heap := s.heap.update S (Obj.mapSeq fun _ => (#[] : Array Value)) } (.ref z) "zip" := ⟨_, hz2, rfl⟩
  unfold Builtin.List.listExtendWith
  refine wpAny_bind (wpAny_typeOf ty ?_)
  have c1 : Builtin.List.listSameRef (.ref S) (.ref z) = false := by simp [Builtin.List.listSameRef, O.z.symm]
  have c2 : ((Value.type "zip" == Value.type "list") || (Value.type "zip" == Value.type "tuple")) = false := by decide
  rw [Bool.or_assoc, c1, c2, Bool.or_self, if_neg Bool.false_ne_true]
  refine wpAny_bind (wpAny_pyIter_zip hz2 (wpAny_bind (wpAny_holding ?_)))
  unfold Builtin.List.listLengthHint
  refine wpAny_bind (wpAny_specialOf ty zip_no_len (wpAny_bind (wpAny_specialOf ty zip_no_hint ?_)))
  refine wpAny_pure ?_
  simp only [Bool.true_or, if_true]
  refine wpAny_bind (wpAny_rule (wpAny_bind (show wpAny _ _ (updateSeq S (·.push Value.none) >>= fun _ => updateSeq S (·.pop)) _ _ _ from wpAny_bind (wpAny_updateSeq eS rfl ?_ (by unfold sizeLine; decide) (by unfold sizeLine; decide)))))
  have eS2 := Heap.get?_update_self (Obj.mapSeq fun (a : Array Value) => a.push Value.none) eS rfl
  refine wpAny_updateSeq eS2 rfl ?_ (by unfold sizeLine; decide) (by unfold sizeLine; decide)
  have eS3 := Heap.get?_update_self (Obj.mapSeq fun (a : Array Value) => a.pop) eS2 rfl
  have oth3 : ∀ b o, b ≠ S → s.heap.get? b = some o → (((s.heap.update S (Obj.mapSeq fun _ => (#[] : Array Value))).update S (Obj.mapSeq fun (a : Array Value) => a.push Value.none)).update S (Obj.mapSeq fun (a : Array Value) => a.pop)).get? b = some o :=
    fun b o n e => (Heap.get?_update_other _ _ n.symm).trans ((Heap.get?_update_other _ _ n.symm).trans (oth b o n e))
  exact wpAny_pure ⟨plainId_quiet PySem.F.plain_extend_loop _, zip_list calm D O below lx sm key kvs.length 0 (Nat.zero_add _) _ [] #[] _ rfl rfl (za.off O oth3) eS3 ⟨.nil, (fun _ z => nomatch z), fun j a z => by cases z⟩ fun h' as acc c l1 l2 e g k => q h' as acc c l1 l2 e g fun b o b1 b2 b3 b4 b5 hb => k b o b1 b2 b3 b4 b5 (oth3 _ _ b5 hb)⟩
/-- list(..) of a new zip -/
theorem call_list_zip {Q : Value → Shared → Prop} (calm : A.handled = none) (D : ZipApart z TI TO i1 i2 l1 l2) (lx : xs.size = kvs.length) (sm : kvs.length ≤ 1000)
    (key : ∀ (j : Nat) k v, kvs[j]? = some (k, v) → ∃ x, xs[j]? = some x ∧ kd.is k x = true ∧ ys[j]? = some v)
    (hz : IsZip s.heap z TI TO .none) (hTI : IsPair s.heap TI (.ref i1) (.ref i2)) (hTO : ∃ a b, IsPair s.heap TO a b) (h1 : s.heap.IsListIter i1 l1 0) (h2 : s.heap.IsListIter i2 l2 0) (hl1 : s.heap.IsList l1 xs) (hl2 : s.heap.IsList l2 ys)
    (q : ∀ h' as acc c, as.length = kvs.length → acc.toList = as.map Value.ref → h'.get? s.heap.objs.size = some { cls := .type "list", dict := none, data := .seq acc c, slots := #[] } → KdxG kd kvs s.heap.objs.size h' as → (∀ b o, b ≠ z → b ≠ TO → b ≠ i1 → b ≠ i2 → s.heap.get? b = some o → h'.get? b = some o) → Q (.ref s.heap.objs.size) { s with heap := h' }) :
    wpAny (model prog w) A (call (.type "list") [.ref z]) Q E s := by
  have new : (s.heap.push { cls := .type "list", data := .seq #[] }).get? s.heap.objs.size = some { cls := .type "list", data := .seq #[] } := Heap.get?_push_size _ rfl
  have up : ∀ b o, s.heap.get? b = some o → (s.heap.push { cls := .type "list", data := .seq #[] }).get? b = some o := fun b o e => Heap.get?_push_of_some _ e
  have lo : ∀ {b o}, s.heap.get? b = some o → b < s.heap.objs.size := fun e => Heap.lt_size e
  obtain ⟨ta, tb, hTO⟩ := hTO
  have b1 : i1 < s.heap.objs.size := let ⟨_, e, _⟩ := h1; lo e
  have b2 : i2 < s.heap.objs.size := let ⟨_, e, _⟩ := h2; lo e
  have b3 : l1 < s.heap.objs.size := let ⟨_, e, _⟩ := hl1; lo e
  have b4 : l2 < s.heap.objs.size := let ⟨_, e, _⟩ := hl2; lo e
  refine callType_codes (Q₁ := fun v t => v = .ref s.heap.objs.size ∧ t = { s with heap := s.heap.push { cls := .type "list", data := .seq #[] } }) PySem.F.called_list (PySem.F.typeCall_list_1 _) PySem.F.entry_list_init (code_list_new _ ⟨rfl, rfl⟩) fun v t ht => ?_
  obtain ⟨rfl, rfl⟩ := ht
  refine ⟨⟨_, new, rfl⟩, PySem.F.args_list_init_2 _ _, zip_init (A := A.in1) (kd := kd) (kvs := kvs) (by simp [calm]) D ⟨Nat.ne_of_lt (lo hz), Nat.ne_of_lt (lo hTI), Nat.ne_of_lt (lo hTO), Nat.ne_of_lt b1, Nat.ne_of_lt b2, Nat.ne_of_lt b3, Nat.ne_of_lt b4⟩ ⟨lo hz, lo hTO, b1, b2⟩ lx sm key (up _ _ hz)
    ⟨.inl ⟨rfl, up _ _ hz, _, _, up _ _ hTO⟩, up _ _ hTI, h1.at fun o e => up _ o e, h2.at fun o e => up _ o e, hl1.at fun o e => up _ o e, hl2.at fun o e => up _ o e⟩ new fun h' as acc c e1 e2 e3 g k => ⟨rfl, q h' as acc c e1 e2 e3 g fun b o n1 n2 n3 n4 hb => k b o n1 n2 n3 n4 (Nat.ne_of_lt (lo hb)) (up _ _ hb)⟩⟩
end
end
end Cr

/-! list(zip(a, b)), read -/
namespace Cr
open PySem PySem.Spec PyProof.Rows L2 Xv
open PySem.W (KdxG)
section
variable {X : Cx} {pins : List (Addr × Obj)} {σ : List (Option V)} {H : Hp} {s : Shared}
/-- a new list of new pairs, tracked -/
theorem lay_pairs {h' : Heap} {tk : Nat} {S : Addr} {kvs : List (Key × V)} {vs : List (Key × Value)} {acc : Array Value} {c : Nat} {as : List Addr} (I : Inv X pins σ H s) (k : ∀ b o, s.heap.get? b = some o → h'.get? b = some o) (lo : s.heap.objs.size ≤ S) (hz : kvs.length ≤ sizeLine) (kv : KV kvs vs)
    (hS : h'.get? S = some { cls := .type "list", dict := none, data := .seq acc c, slots := #[] }) (hl : as.length = vs.length) (g : KdxG (mixKind X.prog X.w) vs S h' as) (hacc : acc.toList = as.map Value.ref) :
    ∃ H' : Hp, Same H H' ∧ H S = none ∧ (∀ t ∈ as, H t = none) ∧ S ∉ as ∧ H' S = some (.lst (as.map V.ref)) ∧ Paired (fun (t : Addr) (q : Key × V) => H' t = some (.tup [kV q.1, q.2])) as kvs ∧ Inv X pins σ H' { s with heap := h', toks := tk } := by
  have ll : as.length = kvs.length := hl.trans (Paired.length kv).symm
  have off : S ∉ as := fun z => Nat.lt_irrefl _ (g.above _ z)
  have freeS : H S = none := I.hok.fresh lo
  have free : ∀ t ∈ as, H t = none := fun t ht => I.hok.fresh (Nat.le_trans lo (Nat.le_of_lt (g.above t ht)))
  have nd : as.Nodup := g.rise.imp fun z => Nat.ne_of_lt z
  let H' : Hp := LiI.putT (upd H S (.lst (as.map V.ref))) as kvs
  have out : ∀ b, b ∉ as → b ≠ S → H' b = H b := fun b h1 h2 => (LiI.putT_off as kvs _ h1).trans (upd_ne h2)
  have atS : H' S = some (.lst (as.map V.ref)) := (LiI.putT_off as kvs _ off).trans upd_same
  have atT := LiI.putT_at as kvs (upd H S (.lst (as.map V.ref))) ll nd
  have old : ∀ b o, s.heap.get? b = some o → b ∉ as ∧ b ≠ S := fun b o e => ⟨fun z => Nat.lt_irrefl _ (Nat.lt_of_lt_of_le (Heap.lt_size e) (Nat.le_trans lo (Nat.le_of_lt (g.above b z)))), fun z => Nat.lt_irrefl _ (Nat.lt_of_lt_of_le (Heap.lt_size e) (z ▸ lo))⟩
  have sm : Same H H' := fun b o e => (out b (fun z => by rw [free b z] at e; cases e) (fun z => by rw [z, freeS] at e; cases e)).trans e
  refine ⟨H', sm, freeS, free, off, atS, atT, I.call' (ch := []) rfl ⟨fun b o e _ _ _ => k b o e, fun b o e _ _ _ => ⟨_, k b o e⟩, fun b o e n _ => ?_, fun b o e _ => ⟨o, k b o e⟩, fun b xs e => sm b _ e, fun b o u e => sm b _ e, fun b ps e => ⟨#[], by rw [sm b _ e]; simp⟩⟩ (fun b u e => ?_) I.bare fun b z => by simp at z⟩
  · exact (out b (old b o e).1 (old b o e).2).trans n
  · by_cases hb : b ∈ as
    · obtain ⟨j, p, e1, e2, e3⟩ := LiI.paired_ix atT hb
      cases e3.symm.trans e
      obtain ⟨key, kk, x, f1, f2, f3⟩ := g.pairs j b e1
      obtain ⟨qv, g1, g2, g3⟩ := LiI.paired_get kv e2
      cases f1.symm.trans g1
      exact ⟨by show 2 ≤ sizeLine; decide, [key, x], .cons (g2 ▸ relV_key f2) (.cons g3 .nil), ⟨_, f3, rfl, _, rfl⟩⟩
    · by_cases hb2 : b = S
      · subst hb2
        cases atS.symm.trans e
        exact ⟨by rw [List.length_map]; omega, acc.toList, c, hacc ▸ LiI.vals_refs as, by rw [Array.toArray_toList]; exact hS⟩
      · exact (I.hok b u ((out b hb hb2).symm.trans e)).stay (fun d v _ y => k d v y) (fun d y => sm d _ y) fun d xs y => sm d _ y
end
/-- list(zip(a, b)) of a list of keys and a list -/
def tListZip (K : PySem.W.Frag) (ta : TA) : TE := fun σ H Q => ta σ H fun us H1 => ∃ (a b : Addr) (kvs : List (Key × V)), us = [.ref a, .ref b] ∧ SqL K H1 a (kvs.map fun q => kV q.1) ∧ SqL K H1 b (kvs.map fun q => q.2) ∧ kvs.length ≤ 1000 ∧
  ∀ (H2 : Hp) (p : Addr) (ts : List Addr), Same H1 H2 → H1 p = none → (∀ t ∈ ts, H1 t = none) → p ∉ ts → H2 p = some (.lst (ts.map V.ref)) → Paired (fun (t : Addr) (q : Key × V) => H2 t = some (.tup [kV q.1, q.2])) ts kvs → Q (.ref p) H2
/-- the pairs, as values -/
theorem kv_of : ∀ {kvs : List (Key × V)} {xs ys : List Value}, Vals (kvs.map fun q => kV q.1) xs → Vals (kvs.map fun q => q.2) ys → ∃ vs : List (Key × Value), KV kvs vs ∧ ∀ (j : Nat) k v, vs[j]? = some (k, v) → ∃ x, xs[j]? = some x ∧ RelV (kV k) x ∧ ys[j]? = some v
  | [], [], [], .nil, .nil => ⟨[], .nil, fun j k v h => by cases h⟩
  | (k, v) :: kvs, x :: xs, y :: ys, .cons rx hx, .cons ry hy => by
    obtain ⟨vs, h1, h2⟩ := kv_of hx hy
    refine ⟨(k, y) :: vs, .cons ⟨rfl, ry⟩ h1, fun j k' v' h => ?_⟩
    cases j with
    | zero =>
      cases h
      exact ⟨x, rfl, rx, rfl⟩
    | succ j => exact h2 j k' v' h
section
variable {X : Cx} {e e2 : Expr} {ta : TA} {p p2 pos pos2 : Pos}
theorem pe_listZip (hc : X.calm = true) (hg : Gl X "list") (hm : X.mg "list" = none) (hg2 : Gl X "zip") (hm2 : X.mg "zip" = none) (ha : PA X [e, e2] ta)
    (hs : starEach [.Call (.Name "zip" p2) [e, e2] [] pos2] X.env = (false, eval (.Call (.Name "zip" p2) [e, e2] [] pos2) X.env) :: starEach [] X.env := by rfl)
    (hs2 : starEach [e, e2] X.env = (false, eval e X.env) :: starEach [e2] X.env := by rfl) (hpl : (backTo pos2 (starEach [e2] X.env)).any (·.1) = false := by rfl) :
    PE X (.Call (.Name "list" p) [.Call (.Name "zip" p2) [e, e2] [] pos2] [] pos) (tListZip X.K ta) := by
  refine ⟨fun pins s σ H Q I h => wpAny_Call_Name_kw (ld_blt I hg hm boot_list (callWith_type1 ?_ hs rfl))⟩
  rw [hs]
  refine Calls.spliced_cons (Call_ (ld_blt I hg2 hm2 boot_zip (callWith_type1 (thn (ha.run pos2 pins s σ H _ I h) fun us s1 ⟨vs, H1, I1, r1, q1⟩ => ?_) hs2 hpl)))
  obtain ⟨a, b, kvs, rfl, qa, qb, hz, q⟩ := q1
  cases r1 with
  | cons ra r1 =>
    cases r1 with
    | cons rb r1 =>
      cases r1
      cases ra
      cases rb
      obtain ⟨xs, rx, px, _⟩ := I1.list qa
      obtain ⟨ys, ry, py, _⟩ := I1.list qb
      obtain ⟨vs, kv, hv⟩ := kv_of rx ry
      have lv : kvs.length = vs.length := Paired.length kv
      have lx : xs.toArray.size = vs.length := by rw [List.size_toArray, ← rx.length, List.length_map, lv]
      refine call_zip_2 px.isList py.isList fun h' hz' hTI hTO h1 h2 hsz hk => Calls.spliced_nil ?_
      have I2 : Inv X pins σ H1 { s1 with heap := h' } := I1.kept (t' := s1.toks) hk
      have up : ∀ {b o}, s1.heap.get? b = some o → b < s1.heap.objs.size := fun e => Heap.lt_size e
      refine call_list_zip (s := { s1 with heap := h' }) (kd := mixKind X.prog X.w) (kvs := vs) (xs := xs.toArray) (ys := ys.toArray) (I1.ok.hd hc) (PySem.W.ktu_apart s1.heap.objs.size a b px.lt py.lt) lx (by omega) (fun j k v hj => ?_) hz' hTI ⟨_, _, hTO⟩ h1 h2 (px.isList.at fun o e => hk _ o e) (py.isList.at fun o e => hk _ o e) fun g as acc c l1 l2 hS gg keep => ?_
      · obtain ⟨x, f1, f2, f3⟩ := hv j k v hj
        exact ⟨x, by simpa using f1, kV_is f2, by simpa using f3⟩
      · have low : ∀ b o, s1.heap.get? b = some o → g.get? b = some o := fun b o e => by
          have lb := up e
          exact keep b o (Nat.ne_of_lt (Nat.lt_of_lt_of_le lb (Nat.le_add_right _ _))) (Nat.ne_of_lt (Nat.lt_of_lt_of_le lb (Nat.le_add_right _ _))) (Nat.ne_of_lt lb) (Nat.ne_of_lt (Nat.lt_of_lt_of_le lb (Nat.le_add_right _ _))) (hk b o e)
        obtain ⟨H2, k1, k2, k3, k4, k5, k6, J⟩ := lay_pairs (tk := s1.toks) (kvs := kvs) I1 low (by show s1.heap.objs.size ≤ h'.objs.size; rw [hsz]; exact Nat.le_add_right _ _) (by unfold sizeLine; omega) kv hS l1 gg l2
        exact ⟨.ref _, H2, J, rfl, q H2 _ as k1 k2 k3 k4 k5 k6⟩
end
end Cr

/-! Data logic, part 11: stores into own lists of things; dicts -/
namespace Dl
open PySem PySem.Spec PyProof.Rows L2 Xv Cr
section
variable {M : Cm} {K : PySem.W.Frag} {m : Bool} {pt F0 F F' : Addr → Prop} {H0 H H' : Hp} {z0 : Gh} {o : Ow} {σ : L2.St} {ρ : Rho}
/-- x[a][b] = e of an own list of lists -/
def tSt2 (K : PySem.W.Frag) (i : Nat) (te ta tb : TE) : TS := tAsg te (gSub (tOp (rIxL K) (tVar i) ta) tb rSetL)
theorem ps_st2 {X : Cx} {st : Stmt} {i : Nat} {te ta tb : TE} (h : PS X st (tAsg te (gSub (tOp (rIxL X.K) (tVar i) ta) tb rSetL))) : PS X st (tSt2 X.K i te ta tb) := h
def sSt2 (i : Nat) (ge ga gb : GE) : GS := fun δ ρ => ge ρ fun d => match ρ[i]? with
  | some (.own2 ds) => ga ρ fun a => ∃ (p : Int) (n : Nat) (ys : List D), a = .int p ∧ ixN ds.length p = some n ∧ ds[n]? = some (.lst ys) ∧ gb ρ fun b => ∃ (q : Int) (k : Nat), b = .int q ∧ ixN ys.length q = some k ∧ δ.nx (ρ.set i (.own2 (ds.set n (.lst (ys.set k d)))))
  | _ => False
instance {te ta tb : TE} {ge ga gb : GE} {i : Nat} [h0 : DT M te ge] [h1 : DB M ta ga] [h2 : DB M tb gb] : DS M m (tSt2 K i te ta tb) (sSt2 i ge ga gb) := ⟨fun {pt F0 H0 z0 F o σ H ρ δ E} e l q =>
  h0.run e q fun d F1 H1 v q1 x1 r1 => by
    split at q1
    · rename_i ds hds
      have e1 := e.step x1
      obtain ⟨a, _⟩ := e1.sl i _ hds
      refine ⟨_, a, h1.run e1 q1 fun da F2 H2 va q2 x2 r2 => ?_⟩
      have e2 := e1.step x2
      obtain ⟨_, hl2, ks2, _⟩ := e2.sl i _ hds
      obtain ⟨p, n, ys, rfl, hn, hy, q2⟩ := q2
      cases rb_int r2
      obtain ⟨c, hc, rc⟩ := ks2.get hy
      have hat : L2.atI ((o.c i).map V.ref) p = some (.ref c) := by
        unfold L2.atI
        rw [List.length_map, ks2.length, hn]
        show ((o.c i).map V.ref)[n]? = _
        rw [List.getElem?_map, hc]
        rfl
      refine ⟨_, _, p, _, rfl, rfl, SqL.of hl2, hat, h2.run e2 q2 fun db F3 H3 vb q3 x3 r3 => ?_⟩
      obtain ⟨q, k, rfl, hk, q3⟩ := q3
      cases rb_int r3
      have e3 := e2.step x3
      obtain ⟨_, hl3, ks3, nd3, al3⟩ := e3.sl i _ hds
      obtain ⟨c', hc', rc'⟩ := ks3.get hy
      cases hc.symm.trans hc'
      obtain ⟨_, vs, z, np, hv, rv⟩ := rc'
      cases z
      have w := e3.owlOk (i := i) (a := c) (by rw [owl_own2 hds]; exact List.mem_cons_of_mem _ (List.mem_of_getElem? hc))
      have up : ∀ {u : HO} (b : Addr) (o' : HO), F3 b → H3 b = some o' → F3 b ∧ upd H3 c u b = some o' := fun b o' fb eb => ⟨fb, by rw [upd_ne (fun (y : b = c) => w.2.1 (y ▸ fb))]; exact eb⟩
      have r1' := (r1.ext (e1).ok x2).ext e2.ok x3
      refine ⟨c, vs, q, k, rfl, rfl, hv, by rw [rv.length]; exact hk, ?_⟩
      have r' : Rb M pt F3 (upd H3 c (.lst (vs.set k v))) (.ref c) (.lst (ys.set k d)) := ⟨c, _, rfl, np, upd_same, (rv.up up).set (r1'.up up)⟩
      exact l.nx _ _ _ _ _ (e3.mut2 hds hc r') (((Agr.of e.ok x1).trans ((Agr.of e1.ok x2).trans (Agr.of e2.ok x3))).trans ⟨fun b f => f, fun b o' f h => (up b o' f h).2⟩) q3
    · exact q1.elim⟩
/-! ### dict displays -/
def dK : Key → D
  | .inl i => .int i
  | .inr s => .str s
theorem rp_dK {k : Key} {v : V} (r : Rp M F H v (dK k)) : v = kV k := by
  cases k with
  | inl i => cases r; rfl
  | inr s => cases r; rfl
abbrev GP := Rho → (List (D × D) → Prop) → Prop
inductive RpP (M : Cm) (F : Addr → Prop) (H : Hp) : List (V × V) → List (D × D) → Prop
  | nil : RpP M F H [] []
  | cons {u v : V} {c d : D} {vs : List (V × V)} {ds : List (D × D)} : Rp M F H u c → Rp M F H v d → RpP M F H vs ds → RpP M F H ((u, v) :: vs) ((c, d) :: ds)
theorem RpP.length {vs : List (V × V)} {ds : List (D × D)} (h : RpP M F H vs ds) : vs.length = ds.length := by
  induction h with
  | nil => rfl
  | cons _ _ _ ih => rw [List.length_cons, List.length_cons, ih]
class DPs (M : Cm) (t : List (TE × TE)) (g : outParam GP) : Prop where
  run : ∀ {pt F0 : Addr → Prop} {H0 : Hp} {z0 : Gh} {F : Addr → Prop} {o : Ow} {σ : L2.St} {H : Hp} {ρ : Rho} {P : List (D × D) → Prop} {Q : List (V × V) → Hp → Prop}, En M pt F0 H0 z0 F o σ H ρ → g ρ P → (∀ ds F' H' vs, P ds → Ext pt F H F' H' → RpP M F' H' vs ds → Q vs H') → tPairs t σ H Q
def gpNil : GP := fun _ P => P []
def gpCons (ga gb : GE) (g : GP) : GP := fun ρ P => ga ρ fun a => gb ρ fun b => g ρ fun ds => P ((a, b) :: ds)
instance : DPs M [] gpNil := ⟨fun e q k => k _ _ _ _ q (.refl e.ok) .nil⟩
instance {ta tb : TE} {ga gb : GE} {t : List (TE × TE)} {g : GP} [h1 : DT M ta ga] [h2 : DT M tb gb] [h3 : DPs M t g] : DPs M ((ta, tb) :: t) (gpCons ga gb g) := ⟨fun {pt F0 H0 z0 F o σ H ρ P Q} e q k => h1.run e q fun a F1 H1 u q1 x1 r1 => h2.run (e.step x1) q1 fun b F2 H2 v q2 x2 r2 => h3.run ((e.step x1).step x2) q2 fun ds F3 H3 vs q3 x3 r3 => k _ _ _ _ q3 ((x1.trans x2).trans x3) (.cons ((r1.ext (e.step x1).ok x2).ext ((e.step x1).step x2).ok x3) (r2.ext ((e.step x1).step x2).ok x3) r3)⟩
theorem putK_newD {kvs : List (Key × V)} {k : Key} {v : V} (h : ∀ e ∈ kvs, e.1 ≠ k) : putK kvs k v = kvs ++ [(k, v)] := by
  unfold putK
  rw [if_neg]
  intro q
  obtain ⟨e, he, z⟩ := List.any_eq_true.mp q
  exact h e he (of_decide_eq_true z)
theorem mergeK_newD : ∀ {more acc : List (Key × V)}, ((acc ++ more).map (·.1)).Nodup → mergeK acc more = acc ++ more
  | [], acc, _ => by simp [mergeK]
  | (k, v) :: r, acc, h => by
    have hk : ∀ e ∈ acc, e.1 ≠ k := fun e he z => by
      rw [List.map_append, List.nodup_append] at h
      exact h.2.2 e.1 (List.mem_map_of_mem he) k (by simp) z
    show mergeK (putK acc k v) r = _
    rw [putK_newD hk, mergeK_newD (by rw [List.append_assoc]; exact h), List.append_assoc]
    rfl
def gDisp (g : GP) : GE := fun ρ P => g ρ fun ds => ∃ ps : List (Key × D), ds = ps.map (fun e => (dK e.1, e.2)) ∧ ps.length ≤ 15 ∧ (ps.map (·.1)).Nodup ∧ P (.dic ps)
theorem rpp_k : ∀ {ps : List (Key × D)} {vs : List (V × V)}, RpP M F H vs (ps.map fun e => (dK e.1, e.2)) → ∃ kvs, vs = kvs.map (fun kv => (kV kv.1, kv.2)) ∧ RpK M F H kvs ps ∧ kvs.map (·.1) = ps.map (·.1)
  | [], _, h => by cases h; exact ⟨[], rfl, .nil, rfl⟩
  | (k, d) :: ps, _, h => by
    cases h with
    | cons r s t =>
      obtain ⟨kvs, rfl, e2, e3⟩ := rpp_k t
      rename_i u v
      exact ⟨(k, v) :: kvs, by rw [rp_dK r]; rfl, .cons s e2, by rw [List.map_cons, List.map_cons, e3]⟩
theorem RpK.length : ∀ {vs : List (Key × V)} {ds : List (Key × D)}, RpK M F H vs ds → vs.length = ds.length
  | _, _, .nil => rfl
  | _, _, .cons _ s => congrArg (· + 1) (RpK.length s)
instance {t : List (TE × TE)} {g : GP} [h : DPs M t g] : DN M (tDisp t) (gDisp g) := ⟨fun {pt F0 H0 z0 F o σ H ρ P Q} e q k => fun p np => by
  have ok := e.ok
  have x0 := Ext.put0 (F := F) ok (o := .dK []) np
  refine h.run (e.step x0) q fun ds F1 H1 vs q1 x1 r1 => ?_
  obtain ⟨ps, rfl, hl, nd, q1⟩ := q1
  obtain ⟨kvs, rfl, rk, ek⟩ := rpp_k r1
  have npt : ¬ pt p := ok.not_pt np
  have hp := x1.same p _ npt upd_same
  have nF0 : ¬ F p := fun z => ok.liv p z np
  have nF : ¬ F1 p := fun z => (x1.new p z).elim nF0 fun n => by rw [upd_same] at n; cases n
  refine ⟨hp, kvs, rfl, by rw [rk.length]; exact hl, ?_⟩
  rw [mergeK_newD (by rw [List.nil_append, ek]; exact nd), List.nil_append]
  have xx := x0.trans x1
  exact k _ F1 _ p q1 (Ext.updNew ok xx np) ⟨p, _, rfl, npt, upd_same, rk.up fun b o fb eb => ⟨fb, by rw [upd_ne (fun (z : b = p) => nF (z ▸ fb))]; exact eb⟩⟩ np nF⟩
instance : DN M tDNewK (gC (.dic [])) := ⟨fun {pt F0 H0 z0 F o σ H ρ P Q} e q k => fun p np => k _ F _ p q (Ext.put0 e.ok np) ⟨p, [], rfl, e.ok.not_pt np, upd_same, .nil⟩ np fun z => e.ok.liv p z np⟩
/-! ### dict(list(zip(a, b))) -/
def rDictP (K : PySem.W.Frag) : List V → Hp → VK → Prop := fun xs H Q => ∃ a ps kvs, xs = [V.ref a] ∧ SqL K H a (List.map V.ref ps) ∧ Paired (fun p (kv : Key × V) => SqT K H p [kV kv.1, kv.2]) ps kvs ∧ ∀ (p : Addr), H p = none → Q (V.ref p) (upd H p (HO.dK (mergeK [] kvs)))
theorem call_dictPD {X : Cx} (h : X.calm = true) : CallR X (.type "dict") (rDictP X.K) := call_dictP h
def gDZip (g : GA) : GE := fun ρ P => g ρ fun ds => ∃ (ks : List Key) (ys : List D), ds = [.lst (ks.map dK), .lst ys] ∧ ks.length = ys.length ∧ ks.length ≤ 1000 ∧ ks.Nodup ∧ P (.dic (ks.zip ys))
theorem rpa_keys : ∀ {ks : List Key} {vs : List V}, RpA M F H vs (ks.map dK) → vs = ks.map kV
  | [], _, h => by cases h; rfl
  | k :: ks, _, h => by
    cases h with
    | cons r s => rw [rp_dK r, rpa_keys s]; rfl
theorem rpk_zip : ∀ {ks : List Key} {vs : List V} {ys : List D}, RpA M F H vs ys → RpK M F H (ks.zip vs) (ks.zip ys)
  | [], _, _, _ => .nil
  | k :: ks, _, _, .nil => .nil
  | k :: ks, _, _, .cons r s => .cons r (rpk_zip s)
instance {t : TA} {g : GA} [h : DA M [.bor, .bor] t g] : DN M (tCB (rDictP K) (tCons (tListZip K t) tNil)) (gDZip g) := ⟨fun {pt F0 H0 z0 F o σ H ρ P Q} e q k =>
  h.run e q fun ds F1 H1 vs q1 x1 r1 => by
    obtain ⟨ks, ys, rfl, hl, h3, nd, q1⟩ := q1
    cases r1 with
    | bor r s =>
      cases s with
      | bor r2 s =>
        cases s
        obtain ⟨a, us, rfl, _, ha, ra⟩ := r
        obtain ⟨b, ws, rfl, _, hb, rb⟩ := r2
        rw [rpa_keys ra] at ha
        have hw : ws.length = ks.length := by rw [rb.length, hl]
        have z1 : (ks.zip ws).map (fun q => kV q.1) = ks.map kV := by
          rw [show (fun (q : Key × V) => kV q.1) = kV ∘ Prod.fst from rfl, ← List.map_map, List.map_fst_zip (by omega)]
        have z2 : (ks.zip ws).map (fun q => q.2) = ws := List.map_snd_zip (by omega)
        refine ⟨a, b, ks.zip ws, rfl, by rw [z1]; exact SqL.of ha, by rw [z2]; exact SqL.of hb, by rw [List.length_zip]; omega, fun H2 p ts s np nts _ hp pr => ?_⟩
        have e1 := e.step x1
        have x2 := Ext.of_same e1.ok s
        refine ⟨p, ts, ks.zip ws, rfl, SqL.of hp, ?_, fun p2 np2 => ?_⟩
        · have : ∀ {ts : List Addr} {kv : List (Key × V)}, Paired (fun t (q : Key × V) => H2 t = some (HO.tup [kV q.1, q.2])) ts kv → Paired (fun p (kv : Key × V) => SqT K H2 p [kV kv.1, kv.2]) ts kv := fun h => by
            induction h with
            | nil => exact .nil
            | cons a _ ih => exact .cons (SqT.of a) ih
          exact this pr
        · rw [mergeK_newD (by rw [List.nil_append, List.map_fst_zip (by omega)]; exact nd), List.nil_append]
          have ok2 := (e1.step x2).ok
          have x3 := Ext.put0 (F := F1) ok2 (o := .dK (ks.zip ws)) np2
          have rz : RpK M F1 H1 (ks.zip ws) (ks.zip ys) := rpk_zip rb
          exact k _ F1 _ p2 q1 ((x1.trans x2).trans x3) ⟨p2, _, rfl, ok2.not_pt np2, upd_same, (rz.ext e1.ok x2).ext ok2 x3⟩ ((x1.trans x2).nn np2) fun z => ok2.liv _ z np2⟩
end
end Dl

namespace K21
open PySem PySem.Spec PyProof.Rows L2 Xv Cr TL Dl
/-- what the odd values need -/
structure Odd (K : PySem.W.Frag) (Ct CL : Addr) : Prop where
  zt : ThF K Ct
  zl : ThF K CL
  nf : ∀ u ∈ ([.type "NoneType", .type "int", .type "str", .type "tuple", .type "list", .type "dict", .ref Ct] : List Value), PySem.W.notFirst K CL u = true ∧ PySem.W.kitOne K u (.ref CL) = some false
section
variable {K : PySem.W.Frag} {Ct CL : Addr} {ns ns2 : List Str} {rs rs2 : List Rw} {n n2 : Nat} {ps qs ps2 qs2 : List Nat} {P : D → Prop}
theorem get_nm {p : Nat} (h : p < ns.length) : ns[p]? = some (ns.getD p "") := by
  rw [List.getD_eq_getElem?_getD, List.getElem?_eq_getElem h]
  rfl
theorem nm_mem {p : Nat} (h : p < ns.length) : ns.getD p "" ∈ ns := List.mem_of_getElem? (get_nm h)
theorem idx_nm (nd : ns.Nodup) {l : List Nat} (h : ∀ p ∈ l, p < ns.length) : (nmP ns l).map (fun u => ns.idxOf u) = l := by
  unfold nmP
  rw [List.map_map]
  refine (List.map_congr_left (g := id) fun p hp => ?_).trans (List.map_id l)
  exact nd_at nd (get_nm (h p hp))
theorem mem_nm {l : List Nat} {us : List Str} (h : ∀ p ∈ l, p < ns.length) (hu : us.Perm (nmP ns l)) : ∀ u ∈ us, u ∈ ns := fun u h1 => by
  obtain ⟨p, hp, rfl⟩ := List.mem_map.mp (hu.mem_iff.mp h1)
  exact nm_mem (h p hp)
theorem lay_of {us ws : List Str} {t1 t2 : Bool} {d1 d2 : D} (e1 : d1 = seqX t1 us) (e2 : d2 = seqX t2 ws) (R : Right ns rs) (L : LotOk n ps qs rs.length ns.length 5) (hu : us.Perm (nmP ns ps)) (hw : ws.Perm (nmP ns qs)) (q : P (layX ns rs n ps qs)) : fLay [thingX ns rs, .int (n : Nat), d1, d2] P := by
  subst e1 e2
  have lu : us.length = ps.length := by rw [hu.length_eq]; exact List.length_map _
  have lw : ws.length = qs.length := by rw [hw.length_eq]; exact List.length_map _
  have p0 := L.p0
  have q0 := L.q0
  have pq := L.pq
  refine ⟨ns, rs, n, t1, t2, us, ws, rfl, R, L.st, by omega, by omega, by omega, mem_nm L.pd hu, mem_nm L.qd hw, fun a b pa wa pb wb => ?_⟩
  have ea : a = ps := List.Perm.eq_of_pairwise (fun _ _ _ _ h1 h2 => Nat.le_antisymm h1 h2) wa L.ps_ (pa.trans ((hu.map _).trans (by rw [idx_nm R.nd L.pd])))
  have eb : b = qs := List.Perm.eq_of_pairwise (fun _ _ _ _ h1 h2 => Nat.le_antisymm h1 h2) wb L.qs_ (pb.trans ((hw.map _).trans (by rw [idx_nm R.nd L.qd])))
  rw [ea, eb]
  exact q
structure LayH (ns : List Str) (rs : List Rw) (n : Nat) (ps qs : List Nat) (us ws : List Str) : Prop where
  r : Right ns rs
  n : n < rs.length
  u0 : 0 < us.length
  w0 : 0 < ws.length
  uw : us.length + ws.length ≤ 5
  un : ∀ u ∈ us, u ∈ ns
  wn : ∀ u ∈ ws, u ∈ ns
  ea : ∀ a : List Nat, a.Perm (us.map fun u => ns.idxOf u) → a.Pairwise (· ≤ ·) → a = ps
  eb : ∀ a : List Nat, a.Perm (ws.map fun u => ns.idxOf u) → a.Pairwise (· ≤ ·) → a = qs
theorem lay_h {us ws : List Str} (R : Right ns rs) (L : LotOk n ps qs rs.length ns.length 5) (hu : us.Perm (nmP ns ps)) (hw : ws.Perm (nmP ns qs)) : LayH ns rs n ps qs us ws := by
  have lu : us.length = ps.length := by rw [hu.length_eq]; exact List.length_map _
  have lw : ws.length = qs.length := by rw [hw.length_eq]; exact List.length_map _
  have p0 := L.p0
  have q0 := L.q0
  have pq := L.pq
  exact ⟨R, L.st, by omega, by omega, by omega, mem_nm L.pd hu, mem_nm L.qd hw, fun a pa wa => List.Perm.eq_of_pairwise (fun _ _ _ _ h1 h2 => Nat.le_antisymm h1 h2) wa L.ps_ (pa.trans ((hu.map _).trans (by rw [idx_nm R.nd L.pd]))), fun b pb wb => List.Perm.eq_of_pairwise (fun _ _ _ _ h1 h2 => Nat.le_antisymm h1 h2) wb L.qs_ (pb.trans ((hw.map _).trans (by rw [idx_nm R.nd L.qd])))⟩
theorem eq_lays (OD : Odd K Ct CL) {neg : Bool} (nm : ∀ z ∈ ns, Nm z) (nm2 : ∀ z ∈ ns2, Nm z) (q : P (.bl (neg ^^ lyEq ns ns2 rs rs2 n n2 ps ps2 qs qs2))) : fEqO (CM Ct CL) K CL neg (fLEq K Ct CL) (layX ns rs n ps qs) (layX ns2 rs2 n2 ps2 qs2) P :=
  ⟨1, _, rfl, rfl, OD.zl.ins, nf_self, ns, rs, n, ps, qs, _, rfl, nm, .inl ⟨ns2, rs2, n2, ps2, qs2, rfl, nm2, _, rfl, q⟩⟩
theorem eq_layO {neg : Bool} {y : D} (oc : ObC (CM Ct CL) K y) (h : PySem.W.notFirst K CL (tyD (CM Ct CL) y) = true ∧ PySem.W.kitOne K (tyD (CM Ct CL) y) (.ref CL) = some false) (nm : ∀ z ∈ ns, Nm z) (q : P (.bl neg)) : fEqO (CM Ct CL) K CL neg (fLEq K Ct CL) (layX ns rs n ps qs) y P :=
  ⟨1, _, rfl, rfl, oc, h.1, ns, rs, n, ps, qs, _, rfl, nm, .inr ⟨oc, h.2, _, rfl, by rw [Bool.xor_false]; exact q⟩⟩
theorem lyEq_lot : lyEq ns ns rs rs n n2 ps ps2 qs qs2 = (decide (n = n2) && (decide (ps = ps2) && decide (qs = qs2))) := by
  unfold lyEq
  rw [decide_eq_true rfl, decide_eq_true rfl]
  rfl
theorem lyEq_comm : lyEq ns ns2 rs rs2 n n2 ps ps2 qs qs2 = lyEq ns2 ns rs2 rs n2 n ps2 ps qs2 qs := by
  unfold lyEq
  simp only [eq_comm]
theorem lyEq_self : lyEq ns ns rs rs n n ps ps qs qs = true := by
  rw [lyEq_lot, decide_eq_true rfl, decide_eq_true rfl, decide_eq_true rfl]
  rfl
/-! ### == of lots -/
def lotD (n : Nat) (ps qs : List Nat) : PyData := .tuple [.int (n : Nat), intsD (ps.map fun (a : Nat) => (a : Int)), intsD (qs.map fun (a : Nat) => (a : Int))]
theorem pyr_nats (l : List Nat) : PyR (natsX l) (intsD (l.map fun (a : Nat) => (a : Int))) := by
  unfold natsX intsD
  rw [natsX_ints]
  exact .lst (pyra_map (fun i => .int i) _)
theorem shaped_lot : SeqAt.shaped (lotD n ps qs) = true := by
  have h1 := shaped_ints (ps.map fun (a : Nat) => (a : Int))
  have h2 := shaped_ints (qs.map fun (a : Nat) => (a : Int))
  unfold SeqAt.shaped at h1 h2 ⊢
  rw [Bool.and_eq_true] at h1 h2 ⊢
  unfold lotD
  have d1 := PySem.W.Datum.depth_le (ps.map fun (a : Nat) => (a : Int))
  have d2 := PySem.W.Datum.depth_le (qs.map fun (a : Nat) => (a : Int))
  refine ⟨?_, ?_⟩
  · simp [PyData.canLay0, PyData.canLayAll0, h1.1, h2.1]
  · have d1' : (intsD (ps.map fun (a : Nat) => (a : Int))).depth ≤ 5 := Nat.le_trans d1 (by decide)
    have d2' : (intsD (qs.map fun (a : Nat) => (a : Int))).depth ≤ 5 := Nat.le_trans d2 (by decide)
    refine decide_eq_true ?_
    simp only [PyData.depth, PyData.depthAll]
    omega
theorem pyr_lot : PyR (.tup [.int (n : Nat), natsX ps, natsX qs]) (lotD n ps qs) := .tup (.cons (.int _) (.cons (pyr_nats _) (.cons (pyr_nats _) .nil)))
theorem eqv_lots : PyData.eqv (lotD n ps qs) (lotD n2 ps2 qs2) = (decide (n = n2) && (decide (ps = ps2) && decide (qs = qs2))) := by
  unfold lotD
  simp only [PyData.eqv, PyData.eqvAll, eqv_ints, dec_ofn, Bool.and_true]
  congr 1
  show decide ((n : Int) = (n2 : Int)) = _
  exact decide_eq_decide.mpr Int.ofNat_inj
/-! ### new names -/
theorem lookup_zip : ∀ {ns ws : List Str} {p : Nat}, ns.Nodup → ns.length = ws.length → p < ns.length → (ns.zip ws).lookup (ns.getD p "") = some (ws.getD p "")
  | [], _, p, _, _, h => by simp at h
  | a :: ns, [], p, _, h, _ => by simp at h
  | a :: ns, b :: ws, 0, nd, hl, h => by simp [List.lookup]
  | a :: ns, b :: ws, p + 1, nd, hl, h => by
    simp only [List.length_cons, Nat.add_lt_add_iff_right, Nat.add_right_cancel_iff] at h hl
    have hm := nm_mem h
    have ne : ((ns.getD p "" : Str) == a) = false := by
      rw [beq_eq_false_iff_ne]
      exact fun z => (List.nodup_cons.mp nd).1 (z ▸ hm)
    show ((a, b) :: ns.zip ws).lookup (ns.getD p "") = some (ws.getD p "")
    rw [List.lookup, ne]
    exact lookup_zip (List.nodup_cons.mp nd).2 hl h
theorem ren_zip {ws : List Str} (nd : ns.Nodup) (hl : ns.length = ws.length) : ns.map (renE (ns.zip ws)) = ws := by
  refine List.ext_getElem (by rw [List.length_map, hl]) fun i h1 h2 => ?_
  rw [List.length_map] at h1
  rw [List.getElem_map]
  unfold renE
  have := lookup_zip (p := i) nd hl h1
  rw [List.getD_eq_getElem?_getD, List.getElem?_eq_getElem h1, List.getD_eq_getElem?_getD, List.getElem?_eq_getElem h2] at this
  rw [show (ns.zip ws).lookup ns[i] = some ws[i] from this]
  rfl
theorem lkD_zip : ∀ {cm : List (Str × Str)} {z y : Str}, cm.lookup z = some y → lkD (kvX cm) (.inr z) = some (.str y)
  | [], _, _, h => by cases h
  | (a, b) :: r, z, y, h => by
    unfold kvX lkD
    rw [List.map_cons, List.find?_cons]
    rw [List.lookup] at h
    by_cases e : a = z
    · subst e
      rw [beq_self_eq_true] at h
      cases h
      rw [decide_eq_true rfl]
      rfl
    · rw [show (z == a) = false by rw [beq_eq_false_iff_ne]; exact fun w => e w.symm] at h
      rw [decide_eq_false (fun w => e (Sum.inr.inj w))]
      exact lkD_zip h
theorem zip_kv (ws : List Str) : (ns.map Sum.inr : List Key).zip (ws.map D.str) = kvX (ns.zip ws) := by
  unfold kvX
  rw [List.zip_map]
  rfl
theorem dK_names (ns : List Str) : (ns.map Sum.inr : List Key).map dK = ns.map D.str := by
  rw [List.map_map]
  rfl
theorem ix0 {n : Nat} (h : 0 < n) : ixN n 0 = some 0 := by
  unfold ixN
  rw [if_pos (by omega), if_pos (by omega)]
  rfl
theorem right_chg {e : Int × Int} {r0 : Rw} {rs' : List Rw} {v : Int} (R : Right ns ((e :: r0) :: rs')) (h0 : 0 ≤ v) (h1 : v < 10) : Right ns (((v, e.2) :: r0) :: rs') := by
  refine ⟨R.d0, R.d4, R.nd, R.nm, R.r0, R.r8, R.tb.1, fun r hr => ?_⟩
  rcases List.mem_cons.mp hr with rfl | z
  · have := R.tb.2 _ List.mem_cons_self
    refine ⟨this.1, fun x hx => ?_⟩
    rcases List.mem_cons.mp hx with rfl | w
    · exact ⟨⟨h0, h1⟩, (this.2 e List.mem_cons_self).2⟩
    · exact this.2 x (List.mem_cons_of_mem _ w)
  · exact R.tb.2 r (List.mem_cons_of_mem _ z)
theorem nm_one {c : Str} (h : c = "a" ∨ c = "b") : Nm c := by
  rcases h with rfl | rfl <;> exact ⟨by decide, by decide, by decide⟩
/-- names that are new to a thing -/
structure Fresh (ns ws : List Str) : Prop where
  hl : ws.length = ns.length
  nd : ws.Nodup
  nm : ∀ z ∈ ws, Nm z
  ne : ws ≠ ns
theorem fresh_rot (R : Right ns rs) (h : 1 < ns.length) : Fresh ns (ns.drop 1 ++ ns.take 1) := by
  have nd := R.nd
  have pm : (ns.drop 1 ++ ns.take 1).Perm ns := List.perm_append_comm.trans (by rw [List.take_append_drop])
  refine ⟨pm.length_eq, pm.nodup_iff.mpr nd, fun z hz => R.nm z (pm.mem_iff.mp hz), ?_⟩
  match ns, nd, h with
  | a :: b :: r, nd, _ =>
    intro z
    have : b = a := (List.cons.inj z).1
    exact (List.nodup_cons.mp nd).1 (this ▸ List.mem_cons_self)
theorem Fresh.right {ws : List Str} (f : Fresh ns ws) (R : Right ns rs) : Right ws rs :=
  ⟨by rw [f.hl]; exact R.d0, by rw [f.hl]; exact R.d4, f.nd, f.nm, R.r0, R.r8, R.tb.1, fun r hr => by rw [f.hl]; exact R.tb.2 r hr⟩
theorem cut_names_from (g : List Str) : cutD (g.map D.str) (some 1) none = (g.drop 1).map D.str := by
  have := cut_from (g.map D.str) 1
  rw [← List.map_drop] at this
  exact this
theorem cut_names_to (g : List Str) : cutD (g.map D.str) none (some 1) = (g.take 1).map D.str := by
  have := cut_to (g.map D.str) 1
  rw [← List.map_take] at this
  exact this
theorem ren_nm {ws : List Str} {l : List Nat} (nd : ns.Nodup) (hl : ns.length = ws.length) (h : ∀ p ∈ l, p < ns.length) : (nmP ns l).map (fun z => D.str (((ns.zip ws).lookup z).getD "")) = (nmP ws l).map D.str := by
  unfold nmP
  rw [List.map_map, List.map_map]
  refine List.map_congr_left fun p hp => ?_
  show D.str (((ns.zip ws).lookup (ns.getD p "")).getD "") = D.str (ws.getD p "")
  rw [lookup_zip nd hl (h p hp)]
  rfl
theorem look_nm {ws : List Str} {l : List Nat} {z : Str} (nd : ns.Nodup) (hl : ns.length = ws.length) (h : ∀ p ∈ l, p < ns.length) (hz : z ∈ nmP ns l) : (ns.zip ws).lookup z = some (((ns.zip ws).lookup z).getD "") := by
  obtain ⟨p, hp, rfl⟩ := List.mem_map.mp hz
  rw [lookup_zip nd hl (h p hp)]
  rfl
/-- a turn of the loop keeps what I says -/
theorem sSeq_inv {g h : GS} {δ : DEnds} {ρ : Rho} (I : Rho → Prop) (h1 : ∀ k : Rho → Prop, (∀ ρ', I ρ' → k ρ') → g { δ with nx := k } ρ) (h2 : ∀ ρ', I ρ' → h δ ρ') : sSeq g h δ ρ := h1 _ h2
theorem seqName {i : Nat} {d : D} {ρ : Rho} {k : Rho → Prop} (h : k (ρ.set i (.d d))) : bName i d ρ k := h
theorem forGo_each {bd : BD} {g : GS} {δ : DEnds} (I : Rho → Prop) : ∀ {xs : List D} {ρ : Rho}, I ρ → (∀ x ∈ xs, ∀ ρ, I ρ → ∀ k : Rho → Prop, (∀ ρ', I ρ' → k ρ') → bd x ρ fun ρ2 => g { nx := k, rt := δ.rt, bk := δ.nx, ct := k } ρ2) → (∀ ρ, I ρ → δ.nx ρ) → forGo bd g δ xs ρ
  | [], ρ, h0, _, hd => hd ρ h0
  | x :: xs, ρ, h0, hs, hd => hs x List.mem_cons_self ρ h0 _ fun ρ' h' => forGo_each I h' (fun y hy => hs y (List.mem_cons_of_mem _ hy)) hd
end
end K21

namespace K21
open PySem PySem.Spec PyProof.Rows L2 Xv Cr TL Dl
abbrev s_dl_eqright : Stmt := top 63
abbrev N_dl_eqright : List Str := ["_law_pot_here", "_law_model_here", "_law_lot", "_law_made", "_law_thing_now", "_law_other", "_law_far", "_law_rows", "_law_row", "_law_words", "_law_fresh", "_law_named_here", "_law_near", "_law_deed", "_law_thing_here"]
theorem sc_dl_eqright : FnScope N_dl_eqright ["_law_pot_here", "_law_model_here", "_law_lot", "_law_made"] (defScope s_dl_eqright) := ⟨rfl, rfl, rfl, by decide +kernel, rfl, by decide +kernel, by decide +kernel⟩
def fEqRight : List D → (D → Prop) → Prop := fun ds P => ∃ ns rs n ps qs, ds = [.non, modelX ns rs, lotX n ps qs, layX ns rs n ps qs] ∧ Right ns rs ∧ LotOk n ps qs rs.length ns.length 5 ∧ P (.bl true)
section
variable {P : Program} {w : World} {K : PySem.W.Frag} {mg : Str → Option Value} {base : Heap} {Ct CL f : Addr} {fd : FuncData}
theorem okd_dl_eqright (F : Fun K "_law_equal_right" "_law_equal_right" s_dl_eqright f fd) (T : Bl mg) (B_dict : mg "dict" = none) (B_zip : mg "zip" = none) (d_dl_thing : ClG P w K mg base 9 "_law_thing" (spN (CM Ct CL) [.bor] fLThing)) (d_dl_other : ClG P w K mg base 3 "_law_otherwise" (spN (CM Ct CL) [.pot, .bor, .full] fOther)) (m_lay : C8.Mak P w K mg base 5 "Layout" CL (spI (CM Ct CL) 1 [.full, .bor, .bor, .bor] fLay) []) (d_dl_named : ClG P w K mg base 1 "_law_named" (spN (CM Ct CL) [.bor, .full] fNamed)) (m_L_eq : Dl.OwnM P w K mg base CL 2 "__eq__" ["self", "other"] (spD (CM Ct CL) [.bor, .bor] (fLEq K Ct CL))) (d_dl_told : ClG P w K mg base 8 "_law_told" (spD (CM Ct CL) [.bor] fTold)) (d_dl_due : ClG P w K mg base 2 "_law_due" (spD (CM Ct CL) [.bor, .bor] fDue)) (p_L_second : Dl.PrpM P w K mg base CL 4 "second" (spN (CM Ct CL) [.bor] (fLy fun ns rs n ps qs P => (∀ p ∈ qs, p < ns.length) ∧ qs.length ≤ 1000 ∧ P (namesX (nmP ns qs))))) (p_L_first : Dl.PrpM P w K mg base CL 4 "first" (spN (CM Ct CL) [.bor] (fLy fun ns rs n ps qs P => (∀ p ∈ ps, p < ns.length) ∧ ps.length ≤ 1000 ∧ P (namesX (nmP ns ps))))) (m_thing : C8.Mak P w K mg base 7 "Thing" Ct (spI (CM Ct CL) 0 [.bor, .bor] fThing) []) (m_T_renamed : C8.Met P w K mg base 10 Ct "renamed" (spD (CM Ct CL) [.bor, .bor] fRen) []) (m_L_repr : Dl.ReprM P w K mg base CL 6 (spD (CM Ct CL) [.bor] fLRepr)) (TC : ThC K Ct) (LC : LyC K CL) (OD : Odd K Ct CL) : FnG P w K mg base 11 f fd ["_law_pot_here", "_law_model_here", "_law_lot", "_law_made"] (spD (CM Ct CL) [.pot, .bor, .full, .bor] fEqRight) := by
  refine okD F sc_dl_eqright rfl fun cdv A outer s H hr hgd => ⟨_, _, (pss_cons (ps_set (i := 4) sc_dl_eqright.nd rfl (Or.inl rfl) (pe_clG d_dl_thing hr (by decide) hgd (by rfl) (pa_cons (pv 1) pa_nil)))
  (pss_cons (ps_for PassesOwn.never rfl (pi_list (pe_clG d_dl_other hr (by decide) hgd (by rfl) (pa_cons (pv 0) (pa_cons (pv 1) (pa_cons (pv 2) pa_nil))))) (pg_name (i := 5) sc_dl_eqright.nd rfl (Or.inl rfl))
  (pss_cons (ps_set (i := 6) sc_dl_eqright.nd rfl (Or.inl rfl) (C8.pe_mk m_lay hr (by decide) (by rfl) (pa_cons (pv 4) (pa_cons (pe_ix ix_tup (pv 5) pe_int (fun _ _ => rfl)) (pa_cons (pe_clG d_dl_named hr (by decide) hgd (by rfl) (pa_cons (pv 1) (pa_cons (pe_ix ix_tup (pv 5) pe_int (fun _ _ => rfl)) pa_nil))) (pa_cons (pe_clG d_dl_named hr (by decide) hgd (by rfl) (pa_cons (pv 1) (pa_cons (pe_ix ix_tup (pv 5) pe_int (fun _ _ => rfl)) pa_nil))) pa_nil))))))
  (pss_cons (ps_if (PW.pt (pw_or (pt_cmpR op_ne (pe_cmpR (op_eqV m_L_eq hr (by decide)) (pv 3) (pv 6) (nomark _)) (pe_cmpR (op_eqD hr.units) (pv 2) (pv 5) (nomark _)) (nomark _)) (pw_or1 (pt_cmpR op_ne (pe_cmpR (op_neV m_L_eq ⟨OD.zl.ne, OD.zl.ins.hm⟩ hr (by decide)) (pv 6) (pv 3) (nomark _)) (pe_cmpR (op_neD hr.units) (pv 2) (pv 5) (nomark _)) (nomark _))))) (pss_one (ps_ret pe_bl)) pss_nil)
  (pss_one (ps_if (pt_cmpR op_ne (pe_clG d_dl_told hr (by decide) hgd (by rfl) (pa_cons (pv 6) pa_nil)) (pe_clG d_dl_due hr (by decide) hgd (by rfl) (pa_cons (pv 1) (pa_cons (pv 5) pa_nil))) (nomark _)) (pss_one (ps_ret pe_bl)) pss_nil)))))
  (pss_cons (ps_own2 (ps_setLc (i := 7) (own := [("_law_row", 8)]) (g := gName 8) (tt := tYes) (te := tCB (rLsD K) (tCons (tVar 8) (tNil))) rfl sc_dl_eqright.nd rfl rfl (sw_true rfl rfl rfl (by decide +kernel)) (pi_list (pe_dget (hu_of hr) (pv 1) pe_str (fun _ _ => rfl))) (blkOk_by (N := N_dl_eqright) (sc := defScope s_dl_eqright) (by decide +kernel)) (fun _ _ _ _ _ => (pg_name (i := 8) sc_dl_eqright.nd rfl (Or.inl rfl))) (fun _ _ _ _ _ => pts_nil) (fun _ _ _ _ _ => (pe_callTy (T := "list") call_lsD (by rfl) T.list (by decide +kernel) (pa_cons (pv 8) pa_nil)))))
  (pss_cons (ps_st2 (ps_asg (pe_tup (pa_cons (pe_callTy (T := "int") call_i1 (by rfl) T.int (by decide +kernel) (pa_cons (pe_cmpR op_eq (pe_ix ix_tup (pe_ix ix_list (pe_ix2 (pe_ix ix_list (pv 7) pe_int (fun _ _ => rfl))) pe_int (fun _ _ => rfl)) pe_int (fun _ _ => rfl)) pe_int (nomark _)) pa_nil)) (pa_cons (pe_ix ix_tup (pe_ix ix_list (pe_ix2 (pe_ix ix_list (pv 7) pe_int (fun _ _ => rfl))) pe_int (fun _ _ => rfl)) pe_int (fun _ _ => rfl)) pa_nil))) (pg_sub (pe_ix ix_list (pv 7) pe_int (fun _ _ => rfl)) pe_int set_list)))
  (pss_cons (ps_frz [7] (ps_if (pt_cmpR (op_eqV m_L_eq hr (by decide)) (pv 3) (C8.pe_mk m_lay hr (by decide) (by rfl) (pa_cons (C8.pe_mk m_thing hr (by decide) (by rfl) (pa_cons (pe_dget (hu_of hr) (pv 1) pe_str (fun _ _ => rfl)) (pa_cons (pv 7) pa_nil))) (pa_cons (pe_ix ix_tup (pv 2) pe_int (fun _ _ => rfl)) (pa_cons (pe_prpV p_L_first LC.cl hr (by decide) (pv 3)) (pa_cons (pe_prpV p_L_second LC.cl hr (by decide) (pv 3)) pa_nil))))) (nomark _)) (pss_one (ps_ret pe_bl)) pss_nil))
  (pss_cons (ps_set (i := 9) sc_dl_eqright.nd rfl (Or.inl rfl) (pe_dget (hu_of hr) (pv 1) pe_str (fun _ _ => rfl)))
  (pss_cons (ps_set (i := 10) sc_dl_eqright.nd rfl (Or.inr rfl) (pe_disp (pps_cons (pe_ix ix_list (pv 9) pe_int (fun _ _ => rfl)) (pe_ifExp (pt_cmpR op_ne (pe_ix ix_list (pv 9) pe_int (fun _ _ => rfl)) pe_str (nomark _)) pe_str pe_str) pps_nil) (by rfl) (by rfl) (fun z => by cases z) (by decide)))
  (pss_cons (ps_if (pt_cmpR op_gt (pe_callB (id := "len") (call_ln) (by rfl) T.len (by decide +kernel) (pa_cons (pv 9) pa_nil)) pe_int (nomark _)) (pss_one (ps_set (i := 10) sc_dl_eqright.nd rfl (Or.inr rfl) (pe_callTy (T := "dict") (call_dictPD rfl) (by rfl) B_dict (by decide +kernel) (pa_cons (pe_listZip rfl (by rfl) T.list (by rfl) B_zip (pa_cons (pv 9) (pa_cons (pe_op op_cat (pe_slice sl_list (pv 9) (po_some pe_int) po_none) (pe_slice sl_list (pv 9) po_none (po_some pe_int))) pa_nil))) pa_nil)))) pss_nil)
  (pss_cons (ps_set (i := 11) sc_dl_eqright.nd rfl (Or.inl rfl) (C8.pe_mt m_T_renamed hr (by decide) (pv 4) (pa_cons (pv 10) pa_nil)))
  (pss_cons (ps_par (i := 12) (j := 6) rfl sc_dl_eqright.nd rfl rfl (by decide) rfl rfl (pa_cons (pe_lc (own := [("_law_deed", 13)]) (g := gName 13) (tt := tYes) (te := tDGet (tVar 10) (tVar 13)) rfl sc_dl_eqright.nd (pi_list (pe_prpV p_L_first LC.cl hr (by decide) (pv 3))) (blkOk_by (N := N_dl_eqright) (sc := defScope s_dl_eqright) (by decide +kernel)) (fun _ _ _ _ _ => (pg_name (i := 13) sc_dl_eqright.nd rfl (Or.inl rfl))) (fun _ _ _ _ _ => pts_nil) (fun _ _ _ _ _ => (pe_dget (hu_of hr) (pv 10) (pv 13) (fun _ _ => rfl)))) (pa_cons (pe_lc (own := [("_law_deed", 13)]) (g := gName 13) (tt := tYes) (te := tDGet (tVar 10) (tVar 13)) rfl sc_dl_eqright.nd (pi_list (pe_prpV p_L_second LC.cl hr (by decide) (pv 3))) (blkOk_by (N := N_dl_eqright) (sc := defScope s_dl_eqright) (by decide +kernel)) (fun _ _ _ _ _ => (pg_name (i := 13) sc_dl_eqright.nd rfl (Or.inl rfl))) (fun _ _ _ _ _ => pts_nil) (fun _ _ _ _ _ => (pe_dget (hu_of hr) (pv 10) (pv 13) (fun _ _ => rfl)))) pa_nil)) (by rfl))
  (pss_cons (ps_if (PW.pt (pw_or (pt_cmpR (op_eqV m_L_eq hr (by decide)) (C8.pe_mk m_lay hr (by decide) (by rfl) (pa_cons (pv 11) (pa_cons (pe_ix ix_tup (pv 2) pe_int (fun _ _ => rfl)) (pa_cons (pv 12) (pa_cons (pv 6) pa_nil))))) (pv 3) (nomark _)) (pw_or1 (pt_not (pt_cmpR (op_neV m_L_eq ⟨OD.zl.ne, OD.zl.ins.hm⟩ hr (by decide)) (C8.pe_mk m_lay hr (by decide) (by rfl) (pa_cons (pv 11) (pa_cons (pe_ix ix_tup (pv 2) pe_int (fun _ _ => rfl)) (pa_cons (pv 12) (pa_cons (pv 6) pa_nil))))) (pv 3) (nomark _)))))) (pss_one (ps_ret pe_bl)) pss_nil)
  (pss_cons (ps_for PassesOwn.never rfl (pi_list (pe_lst (pa_cons pe_non (pa_cons pe_int (pa_cons pe_str (pa_cons (pe_callB (id := "repr") (call_reprV m_L_repr hr (by decide) hgd) (by rfl) T.repr (by decide +kernel) (pa_cons (pv 3) pa_nil)) (pa_cons (pv 4) (pa_cons (pe_tup (pa_cons (pe_ix ix_tup (pv 2) pe_int (fun _ _ => rfl)) (pa_cons (pe_prpV p_L_first LC.cl hr (by decide) (pv 3)) (pa_cons (pe_prpV p_L_second LC.cl hr (by decide) (pv 3)) pa_nil)))) (pa_cons (pe_lst pa_nil) (pa_cons (pe_dnewK) pa_nil)))))))))) (pg_name (i := 14) sc_dl_eqright.nd rfl (Or.inl rfl))
  (pss_one (ps_if (PW.pt (pw_or (pt_cmpR (op_eqV m_L_eq hr (by decide)) (pv 3) (pv 14) (nomark _)) (pw_or1 (pt_not (pt_cmpR (op_neV m_L_eq ⟨OD.zl.ne, OD.zl.ins.hm⟩ hr (by decide)) (pv 3) (pv 14) (nomark _)))))) (pss_one (ps_ret pe_bl)) pss_nil)))
  (pss_one (ps_ret (pe_cmpR (op_eqV m_L_eq hr (by decide)) (pv 3) (pv 3) (nomark _)))))))))))))))), inferInstance, fun ds Q h => ?_⟩
  obtain ⟨ns, rs, n, ps, qs, rfl, R, L, q⟩ := h
  have p0 := L.p0
  have q0 := L.q0
  have pq := L.pq
  refine ⟨ns, rs, rfl, R, ?_⟩
  refine ⟨ns, rs, n, ps, qs, rfl, R, L, fun ls hls => ?_⟩
  refine forGo_inv (I := fun _ ρ => ∃ s5 s6, ρ = [.pot, .b (modelX ns rs), .d (lotX n ps qs), .b (layX ns rs n ps qs), .d (thingX ns rs), s5, s6, .no, .no, .no, .no, .no, .no, .no, .no]) ⟨_, _, rfl⟩ (fun i x ρ hx ⟨s5, s6, e⟩ k hk => ?_) (fun ρ ⟨s5, s6, e⟩ => ?_)
  · subst e
    obtain ⟨n2, ps2, qs2⟩ := x
    have L2 := hls _ (List.mem_of_getElem? hx)
    have z0 := L2.p0
    have z1 := L2.q0
    have z2 := L2.pq
    refine ⟨_, _, _, rfl, rfl, rfl, _, _, _, rfl, rfl, rfl, ns, rs, ps2, rfl, L2.pd, by dsimp only at z2; omega, _, _, _, rfl, rfl, rfl, ns, rs, qs2, rfl, L2.qd, by dsimp only at z2; omega, ?_⟩
    dsimp only [Dl.gNil] at z0 z1 z2 L2 ⊢
    refine lay_of (t1 := false) (t2 := false) rfl rfl R L2 (.refl _) (.refl _) ?_
    refine ⟨1, _, rfl, rfl, OD.zl.ins, nf_self, ns, rs, n, ps, qs, _, rfl, R.nm, .inl ⟨ns, rs, n2, ps2, qs2, rfl, R.nm, _, rfl, ?_⟩⟩
    refine ⟨lotD n ps qs, lotD n2 ps2 qs2, pyr_lot, pyr_lot, shaped_lot, shaped_lot, ?_⟩
    rw [eqv_lots, lyEq_lot]
    generalize eb : (decide (n = n2) && (decide (ps = ps2) && decide (qs = qs2))) = b
    have fin : ∀ b' : Bool, (false ^^ b') = b' := Bool.false_xor
    have snd : ∀ k2 : Prop, k2 → True := fun _ _ => trivial
    have nd : ∀ {z : Str}, (true ^^ decide (z = z)) = true → False := fun h => by rw [decide_eq_true rfl] at h; cases h
    cases b
    · refine ⟨1, _, rfl, rfl, OD.zl.ins, nf_self, ns, rs, n2, ps2, qs2, _, rfl, R.nm, .inl ⟨ns, rs, n, ps, qs, rfl, R.nm, _, rfl, ?_⟩⟩
      refine ⟨lotD n ps qs, lotD n2 ps2 qs2, pyr_lot, pyr_lot, shaped_lot, shaped_lot, ?_⟩
      rw [eqv_lots, lyEq_comm, lyEq_lot, eb]
      refine ⟨ns, rs, n2, ps2, qs2, rfl, R, L2.st, by omega, by omega, L2.pd, L2.qd, ?_⟩
      refine ⟨ns, rs, n2, ps2, qs2, rfl, R, L2.st, by omega, by omega, L2.pd, L2.qd, ?_⟩
      exact ite2 (fun z => (nd z).elim) fun _ => hk _ ⟨_, _, rfl⟩
    · refine ⟨1, _, rfl, rfl, OD.zl.ins, nf_self, ns, rs, n2, ps2, qs2, _, rfl, R.nm, .inl ⟨ns, rs, n, ps, qs, rfl, R.nm, _, rfl, ?_⟩⟩
      refine ⟨lotD n ps qs, lotD n2 ps2 qs2, pyr_lot, pyr_lot, shaped_lot, shaped_lot, ?_⟩
      rw [eqv_lots, lyEq_comm, lyEq_lot, eb]
      refine ⟨ns, rs, n2, ps2, qs2, rfl, R, L2.st, by omega, by omega, L2.pd, L2.qd, ?_⟩
      refine ⟨ns, rs, n2, ps2, qs2, rfl, R, L2.st, by omega, by omega, L2.pd, L2.qd, ?_⟩
      exact ite2 (fun z => (nd z).elim) fun _ => hk _ ⟨_, _, rfl⟩
  · subst e
    have r0 := R.r0
    have r8 := R.r8
    have d0 := R.d0
    have d4 := R.d4
    obtain ⟨rw0, rs', er⟩ : ∃ r rs', rs = r :: rs' := by
      cases rs with
      | nil => simp at r0
      | cons r rs' => exact ⟨r, rs', rfl⟩
    subst er
    obtain ⟨e, r', er⟩ : ∃ e r', rw0 = e :: r' := by
      have := (R.tb.2 _ List.mem_cons_self).1
      cases rw0 with
      | nil => simp at this; omega
      | cons e r' => exact ⟨e, r', rfl⟩
    subst er
    obtain ⟨z0, ns', en⟩ : ∃ z ns', ns = z :: ns' := by
      cases ns with
      | nil => simp at d0
      | cons z ns' => exact ⟨z, ns', rfl⟩
    refine ⟨by decide, ?_⟩
    refine ⟨_, _, _, rfl, rfl, lk_rows ns _, rfl, by rw [List.length_map]; omega, lcGo_map (h := rowX) (fun r hr k q => ?_) ?_⟩
    · exact ⟨_, _, rfl, rfl, q⟩
    have x0 : atI (((e :: r') :: rs').map rowX) 0 = some (rowX (e :: r')) := atD (i := 0) rfl
    have x1 : atI ((e :: r').map fun e : Int × Int => D.tup [.int e.1, .int e.2]) 0 = some (.tup [.int e.1, .int e.2]) := atD (i := 0) rfl
    refine ⟨0, _, rfl, x0, _, 0, _, rfl, rfl, x1, _, _, _, rfl, rfl, rfl, ?_⟩
    refine ⟨0, _, rfl, x0, _, 0, _, rfl, rfl, x1, _, _, _, rfl, rfl, rfl, by show 2 ≤ 16777216; decide, ?_⟩
    refine ⟨0, 0, _, rfl, ix0 (by rw [List.length_append, List.length_map]; exact Nat.lt_add_left _ (Nat.succ_pos _)), rfl, 0, 0, rfl, ix0 (by rw [List.length_map]; exact Nat.succ_pos _), ?_⟩
    have v0 : (0 : Int) ≤ (if (false ^^ decide (e.1 = 0)) = true then 1 else 0) ∧ (if (false ^^ decide (e.1 = 0)) = true then (1 : Int) else 0) < 10 ∧ (if (false ^^ decide (e.1 = 0)) = true then (1 : Int) else 0) ≠ e.1 := by
      rw [Bool.false_xor]
      by_cases z : e.1 = 0
      · rw [decide_eq_true z, if_pos rfl, z]; decide
      · rw [decide_eq_false z, if_neg Bool.false_ne_true]; exact ⟨by decide, by decide, fun w => z w.symm⟩
    have R2 := right_chg R v0.1 v0.2.1
    refine ⟨_, _, _, rfl, rfl, lk_deeds ns _, ns, ((((if (false ^^ decide (e.1 = 0)) = true then 1 else 0 : Int), e.2) :: r') :: rs'), rfl, R2, _, _, _, rfl, rfl, rfl, 1, _, rfl, rfl, ns, _, n, ps, qs, rfl, L.pd, by omega, 1, _, rfl, rfl, ns, _, n, ps, qs, rfl, L.qd, by omega, ?_⟩
    dsimp only [Dl.gNil]
    refine lay_of (t1 := false) (t2 := false) rfl rfl R2 L (.refl _) (.refl _) ?_
    refine ⟨1, _, rfl, rfl, OD.zl.ins, nf_self, ns, _, n, ps, qs, _, rfl, R.nm, .inl ⟨ns, _, n, ps, qs, rfl, R.nm, _, rfl, ?_⟩⟩
    refine ite2 (fun z => ?_) (fun _ => ?_)
    · exfalso
      have z : lyEq ns ns ((e :: r') :: rs') ((((if (false ^^ decide (e.1 = 0)) = true then 1 else 0 : Int), e.2) :: r') :: rs') n n ps ps qs qs = true := by rw [← Bool.false_xor (lyEq _ _ _ _ _ _ _ _ _ _)]; exact z
      unfold lyEq at z
      rw [Bool.and_eq_true, Bool.and_eq_true] at z
      have z := of_decide_eq_true z.1.2
      exact v0.2.2 (congrArg Prod.fst (List.cons.inj (List.cons.inj z).1).1).symm
    refine ⟨_, _, _, rfl, rfl, lk_deeds ns _, ?_⟩
    dsimp only
    refine seqName ?_
    refine sSeq_inv (g := sAsg (gDisp _) (bName 10)) (fun ρ' => ∃ y, y ≠ z0 ∧ Nm y ∧ ρ' = [.pot, .b (modelX ns ((e :: r') :: rs')), .d (lotX n ps qs), .b (layX ns ((e :: r') :: rs') n ps qs), .d (thingX ns ((e :: r') :: rs')), s5, s6, .d (rowsX ((((if (false ^^ decide (e.1 = 0)) = true then 1 else 0 : Int), e.2) :: r') :: rs')), .no, .d (namesX ns), .d (.dic (kvX [(z0, y)])), .no, .no, .no, .no]) (fun k hk => ?_) (fun ρ' ⟨y, hy, nmy, eρ⟩ => ?_)
    · subst en
      refine ⟨_, 0, _, rfl, rfl, atD (i := 0) rfl, _, 0, _, rfl, rfl, atD (i := 0) rfl, ?_⟩
      refine ite2 (fun z => ?_) (fun z => ?_)
      · refine ⟨[(.inr z0, .str "a")], rfl, by show 1 ≤ 15; decide, List.nodup_cons.mpr ⟨fun z => (by cases z), List.nodup_nil⟩, hk _ ⟨_, ?_, nm_one (.inl rfl), rfl⟩⟩
        intro w
        rw [← w] at z
        exact absurd z (by decide)
      · refine ⟨[(.inr z0, .str "b")], rfl, by show 1 ≤ 15; decide, List.nodup_cons.mpr ⟨fun z => (by cases z), List.nodup_nil⟩, hk _ ⟨_, ?_, nm_one (.inr rfl), rfl⟩⟩
        intro w
        rw [← w] at z
        exact z (by decide)
    subst eρ
    refine sSeq_inv (g := sIf _ _ _) (fun ρ' => ∃ ws, Fresh ns ws ∧ ρ' = [.pot, .b (modelX ns ((e :: r') :: rs')), .d (lotX n ps qs), .b (layX ns ((e :: r') :: rs') n ps qs), .d (thingX ns ((e :: r') :: rs')), s5, s6, .d (rowsX ((((if (false ^^ decide (e.1 = 0)) = true then 1 else 0 : Int), e.2) :: r') :: rs')), .no, .d (namesX ns), .d (.dic (kvX (ns.zip ws))), .no, .no, .no, .no]) (fun k hk => ?_) (fun ρ' ⟨ws, fr, eρ⟩ => ?_)
    · refine ite2 (fun z => ?_) (fun z => ?_)
      · have z := of_decide_eq_true z
        rw [List.length_map] at z
        have fr := fresh_rot (rs := (e :: r') :: rs') R (by omega)
        refine ⟨_, _, rfl, rfl, ?_⟩
        rw [cut_names_from, cut_names_to]
        refine ⟨by rw [List.length_map, List.length_map, List.length_drop, List.length_take]; omega, ns.map Sum.inr, (ns.drop 1 ++ ns.take 1).map D.str, by rw [dK_names, List.map_append]; rfl, by rw [List.length_map, List.length_map, fr.hl], by rw [List.length_map]; omega, ?_, ?_⟩
        · exact List.Pairwise.map Sum.inr (fun a b h w => h (Sum.inr.inj w)) R.nd
        · rw [zip_kv]
          exact hk _ ⟨_, fr, rfl⟩
      · have z : ¬ (1 < ns.length) := fun w => z (decide_eq_true (by rw [List.length_map]; omega))
        have : ns' = [] := by
          cases ns' with
          | nil => rfl
          | cons a b => rw [en, List.length_cons, List.length_cons] at z; omega
        subst this
        refine hk _ ⟨[y], ⟨by rw [en]; rfl, List.nodup_cons.mpr ⟨fun z => (by cases z), List.nodup_nil⟩, fun u hu => by rw [List.mem_singleton.mp hu]; exact nmy, fun w => hy ?_⟩, by rw [en]; rfl⟩
        rw [en] at w
        exact (List.cons.inj w).1
    subst eρ
    have er := ren_zip R.nd fr.hl.symm
    have nl : ∀ l : List Nat, (nmP ns l).length = l.length := fun l => List.length_map _
    refine ⟨0, _, rfl, rfl, nm_meth0 (by decide), ns, _, ns.zip ws, rfl, by omega, by omega, by rw [List.length_zip]; omega, fun u hu => ⟨(List.of_mem_zip hu).1, fr.nm _ (List.of_mem_zip hu).2⟩, by rw [er]; exact fr.nd, ?_⟩
    rw [er]
    refine ⟨1, _, rfl, rfl, ns, _, n, ps, qs, rfl, L.pd, by omega, rfl, by rw [List.length_map, nl]; omega, lcGo_map (h := fun z => D.str (((ns.zip ws).lookup z).getD "")) (fun z hz k q => ⟨_, _, _, rfl, rfl, lkD_zip (look_nm R.nd fr.hl.symm L.pd hz), q⟩) ?_⟩
    rw [ren_nm R.nd fr.hl.symm L.pd]
    refine ⟨1, _, rfl, rfl, ns, _, n, ps, qs, rfl, L.qd, by omega, rfl, by rw [List.length_map, nl]; omega, lcGo_map (h := fun z => D.str (((ns.zip ws).lookup z).getD "")) (fun z hz k q => ⟨_, _, _, rfl, rfl, lkD_zip (look_nm R.nd fr.hl.symm L.qd hz), q⟩) ?_⟩
    rw [ren_nm R.nd fr.hl.symm L.qd]
    have Lw : LotOk n ps qs ((e :: r') :: rs').length ws.length 5 := by rw [fr.hl]; exact L
    have lh := lay_h (fr.right R) Lw (.refl _) (.refl _)
    have le : lyEq ws ns ((e :: r') :: rs') ((e :: r') :: rs') n n ps ps qs qs = false := by
      unfold lyEq
      rw [decide_eq_false fr.ne]
      rfl
    refine ⟨_, _, _, rfl, rfl, rfl, ?_⟩
    refine ⟨ws, _, n, false, false, nmP ws ps, nmP ws qs, rfl, lh.r, lh.n, lh.u0, lh.w0, lh.uw, lh.un, lh.wn, fun a b pa wa pb wb => ?_⟩
    rw [lh.ea a pa wa, lh.eb b pb wb]
    refine ⟨1, _, rfl, rfl, OD.zl.ins, nf_self, ws, _, n, ps, qs, _, rfl, fr.nm, .inl ⟨ns, _, n, ps, qs, rfl, R.nm, _, rfl, ?_⟩⟩
    rw [le]
    refine ⟨_, _, _, rfl, rfl, rfl, ?_⟩
    refine ⟨ws, _, n, false, false, nmP ws ps, nmP ws qs, rfl, lh.r, lh.n, lh.u0, lh.w0, lh.uw, lh.un, lh.wn, fun a b pa wa pb wb => ?_⟩
    rw [lh.ea a pa wa, lh.eb b pb wb]
    refine ⟨1, _, rfl, rfl, OD.zl.ins, nf_self, ws, _, n, ps, qs, _, rfl, fr.nm, .inl ⟨ns, _, n, ps, qs, rfl, R.nm, _, rfl, ?_⟩⟩
    rw [le]
    refine ⟨1, _, rfl, rfl, ns, _, n, ps, qs, rfl, R, L.st, by omega, by omega, L.pd, L.qd, _, rfl, ?_⟩
    refine ⟨_, _, _, rfl, rfl, rfl, 1, _, rfl, rfl, ns, _, n, ps, qs, rfl, L.pd, by omega, 1, _, rfl, rfl, ns, _, n, ps, qs, rfl, L.qd, by omega, by show 3 ≤ 16777216; decide, by show 0 ≤ 16777216; decide, by show 8 ≤ 16777216; decide, ?_⟩
    refine forGo_each (fun ρ' => ∃ s14, ρ' = [.pot, .b (modelX ns ((e :: r') :: rs')), .d (lotX n ps qs), .b (layX ns ((e :: r') :: rs') n ps qs), .d (thingX ns ((e :: r') :: rs')), s5, .d (namesX (nmP ws qs)), .d (rowsX ((((if (false ^^ decide (e.1 = 0)) = true then 1 else 0 : Int), e.2) :: r') :: rs')), .no, .d (namesX ns), .d (.dic (kvX (ns.zip ws))), .d (thingX ws ((e :: r') :: rs')), .d (namesX (nmP ws ps)), .no, s14]) ⟨_, rfl⟩ (fun x hx ρ' ⟨s14, eρ⟩ k hk => ?_) (fun ρ' ⟨s14, eρ⟩ => ?_)
    · subst eρ
      have ox : ObC (CM Ct CL) K x ∧ PySem.W.notFirst K CL (tyD (CM Ct CL) x) = true ∧ PySem.W.kitOne K (tyD (CM Ct CL) x) (.ref CL) = some false := by
        simp only [List.mem_cons, List.mem_nil_iff, or_false] at hx
        rcases hx with rfl | rfl | rfl | rfl | rfl | rfl | rfl | rfl
        · exact ⟨trivial, OD.nf (.type "NoneType") (by simp)⟩
        · exact ⟨trivial, OD.nf (.type "int") (by simp)⟩
        · exact ⟨trivial, OD.nf (.type "str") (by simp)⟩
        · exact ⟨trivial, OD.nf (.type "str") (by simp)⟩
        · exact ⟨OD.zt.ins, OD.nf (.ref Ct) (by simp)⟩
        · exact ⟨trivial, OD.nf (.type "tuple") (by simp)⟩
        · exact ⟨trivial, OD.nf (.type "list") (by simp)⟩
        · exact ⟨trivial, OD.nf (.type "dict") (by simp)⟩
      refine ⟨1, _, rfl, rfl, ox.1, ox.2.1, ns, _, n, ps, qs, _, rfl, R.nm, .inr ⟨ox.1, ox.2.2, _, rfl, ?_⟩⟩
      refine ⟨1, _, rfl, rfl, ox.1, ox.2.1, ns, _, n, ps, qs, _, rfl, R.nm, .inr ⟨ox.1, ox.2.2, _, rfl, ?_⟩⟩
      exact hk _ ⟨_, rfl⟩
    · subst eρ
      refine ⟨1, _, rfl, rfl, OD.zl.ins, nf_self, ns, _, n, ps, qs, _, rfl, R.nm, .inl ⟨ns, _, n, ps, qs, rfl, R.nm, _, rfl, ?_⟩⟩
      rw [lyEq_self]
      exact q

end
end K21

/-! Data logic, part 12: a display of borrowed things, compared; [::-1]; classes made by keywords -/
namespace Dl
open PySem PySem.Spec PyProof.Rows L2 Xv Cr
section
variable {M : Cm} {K : PySem.W.Frag} {m : Bool} {pt F0 F F' : Addr → Prop} {H0 H H' : Hp} {z0 : Gh} {o : Ow} {σ : L2.St} {ρ : Rho}
def tNeB (K : PySem.W.Frag) (ta : TA) (tb : TE) : TE := tOp (rNeD K) (tLst ta) tb
theorem pt_neB {X : Cx} {e : Expr} {ta : TA} {tb : TE} (h : PT X e (tTest (tOp (rNeD X.K) (tLst ta) tb))) : PT X e (tTest (tNeB X.K ta tb)) := h
def gNeB (g : GA) (gb : GE) : GE := fun ρ P => g ρ fun ds => gb ρ fun y => ∃ ps q, PyRA ds ps ∧ PyR y q ∧ SeqAt.shaped (.list ps) = true ∧ SeqAt.shaped q = true ∧ P (.bl (true ^^ PyData.eqv (.list ps) q))
theorem ra_dp2 {vs : List V} {ds : List D} {ps : List PyData} (r : RA M pt F H [.bor, .bor] vs ds) (h : PyRA ds ps) : DpAll K H vs ps := by
  cases r with
  | bor r s =>
    cases s with
    | bor r2 s =>
      cases s
      cases h with
      | cons h1 h =>
        cases h with
        | cons h2 h =>
          cases h
          exact .cons (h1.dpb r) (.cons (h2.dpb r2) .nil)
instance {ta : TA} {g : GA} {tb : TE} {gb : GE} [h1 : DA M [.bor, .bor] ta g] [h2 : DB M tb gb] : DTc M (tNeB K ta tb) (gNeB g gb) := ⟨fun {pt F0 H0 z0 F o σ H ρ P Q} e q k =>
  h1.run e q fun ds F1 H1 vs q1 x1 r1 => ⟨by rw [r1.length]; decide, fun p np => by
    have e1 := e.step x1
    have x2 := Ext.put0 (F := F1) e1.ok (o := .lst vs) np
    have e2 := e1.step x2
    refine h2.run e2 q1 fun y F3 H3 w q3 x3 r3 => ?_
    obtain ⟨ps, q, hp, hq, s1, s2, z⟩ := q3
    have hp3 := x3.same p _ (e1.ok.not_pt np) upd_same
    refine ⟨.list ps, q, .lst (SqL.of hp3) (ra_dp2 ((r1.ext e1.ok x2).ext e2.ok x3) hp), hq.dpb r3, s1, s2, ?_⟩
    have := k _ F3 H3 (.bl (true ^^ PyData.eqv (.list ps) q)) z ((x1.trans x2).trans x3) (.bl _)
    rw [Bool.true_xor] at this
    exact this⟩⟩
/-! ### [::-1] -/
def gRev (ga : GE) : GE := fun ρ P => ga ρ fun x => match x with | .lst ds => P (.lst ds.reverse) | _ => False
theorem RpA.revD : ∀ {vs : List V} {ds : List D}, RpA M F H vs ds → RpA M F H vs.reverse ds.reverse
  | _, _, .nil => .nil
  | _, _, .cons r s => by rw [List.reverse_cons, List.reverse_cons]; exact (RpA.revD s).app (.one r)
instance {ta : TE} {ga : GE} [h1 : DB M ta ga] : DN M (tRevL K ta) (gRev ga) := ⟨fun {pt F0 H0 z0 F o σ H ρ P Q} e q k =>
  h1.run e q fun d F1 H1 v q1 x1 r1 => by
    split at q1
    · obtain ⟨a, vs, rfl, _, hz, rv⟩ := r1
      have ok1 := (e.step x1).ok
      refine ⟨a, vs, rfl, SqL.of hz, fun p np => ?_⟩
      have x2 := Ext.put0 (F := F1) ok1 (o := .lst vs.reverse) np
      exact k _ F1 _ p q1 (x1.trans x2) ⟨p, _, rfl, ok1.not_pt np, upd_same, rv.revD.ext ok1 x2⟩ (x1.nn np) fun z => ok1.liv p z np
    · exact q1.elim⟩
/-! ### a class made by four keywords, the last one first -/
def gMakeK4 (c : Nat) (f : List D → (D → Prop) → Prop) (g : GA) : GE := fun ρ P => g ρ fun ds => match ds with | [a, b, c, d] => f [d, c, b, a] P | _ => False
theorem makeK4_run {c : Nat} {t : TA} {g : GA} {f : List D → (D → Prop) → Prop} {E : XK} (h1 : DA M [.bor, .bor, .bor, .full] t g) : DN M (tMakeK (M.ca c) 0 4 (spI M c [.full, .bor, .bor, .bor] f) (fun vs zs => vs ++ zs.reverse) E tNil t) (gMakeK4 c f g) := ⟨fun {pt F0 H0 z0 F o σ H ρ P Q} e q k =>
  h1.run e q fun ds F1 H1 vs q1 x1 r1 => by
    cases r1 with
    | bor r1 s =>
      cases s with
      | bor r2 s =>
        cases s with
        | bor r3 s =>
          cases s with
          | full r4 s =>
            cases s
            refine ⟨rfl, rfl, fun x dx nx nd ne => ⟨pt, F1, H1, x, dx, _, _, P, rfl, (e.step x1).ok, nx, nd, ne, rfl, .full r4 (.bor r3 (.bor r2 (.bor r1 .nil))), q1, fun d F' H' p x2 r nf => ⟨rfl, k d F' H' x p (x1.trans x2) r (x1.nn nx) nf⟩⟩⟩⟩
end
end Dl

namespace K21
open PySem PySem.Spec PyProof.Rows L2 Xv Cr TL Dl
abbrev s_dl_right : Stmt := top 64
abbrev N_dl_right : List Str := ["_law_pot_here", "_law_turn", "_law_model_here", "_law_thing_now", "_law_lot", "_law_near", "_law_far", "_law_kept", "_law_made", "_law_twin", "_law_again"]
theorem sc_dl_right : FnScope N_dl_right ["_law_pot_here"] (defScope s_dl_right) := ⟨rfl, rfl, rfl, by decide +kernel, rfl, by decide +kernel, by decide +kernel⟩
structure MakL (P : Program) (w : World) (K : PySem.W.Frag) (mg : Str → Option Value) (base : Heap) (C : Addr) (sp : Sp) : Prop where
  ex : ∃ (f : Addr) (fd : FuncData), Mk K C f ∧ FnOk P w K mg base CX0 5 f fd ["self", "thing", "state", "first", "second"] sp ∧ mg "Layout" = some (.ref C) ∧ Binds K fd ["self", "thing", "state", "first", "second"] [] ∧ KBn K fd ["self", "thing", "state", "first", "second"] 1 ["second", "first", "state", "thing"] (fun us ws => us ++ ws.reverse) (fun vs zs => vs ++ zs.reverse)
theorem MakL.mak {P : Program} {w : World} {K : PySem.W.Frag} {mg : Str → Option Value} {base : Heap} {C : Addr} {sp : Sp} (c : MakL P w K mg base C sp) : C8.Mak P w K mg base 5 "Layout" C sp [] := by
  obtain ⟨f, fd, M, F, g, b, _⟩ := c.ex
  exact ⟨f, fd, _, [], M, F, g, b, .nil⟩
theorem pe_mkLK {X : Cx} {C : Addr} {j : Nat} {kws : List Keyword} {tk : TA} {p pos : Pos} {sp : Sp} (c : MakL X.prog X.w X.K X.mg X.base C sp) (hr : Room j X.A) (hj : 6 ≤ j) (hg : Gl X "Layout") (hkw : PK X kws tk)
    (hall : (backToKw pos (keywordEach kws X.env)).all (·.1.isSome) = true := by rfl) (hks : (backToKw pos (keywordEach kws X.env)).filterMap (·.1) = (["second", "first", "state", "thing"] : List Str) := by rfl)
    (hpl : ((backTo pos (starEach [] X.env)).any (·.1) || (backToKw pos (keywordEach kws X.env)).any (·.1.isNone)) = false := by rfl) :
    PE X (.Call (.Name "Layout" p) [] kws pos) (tMakeK C 0 4 sp (fun vs zs => vs ++ zs.reverse) E0 tNil tk) := by
  obtain ⟨f, fd, M, F, g, b, kb⟩ := c.ex
  exact pe_makeK0 M F (hr.mono hj) hg g kb pass0 hkw hall hks (by decide) hpl
instance mkLK {Ct CL : Addr} {t : TA} {g : GA} {f : List D → (D → Prop) → Prop} {E : XK} [h1 : DA (CM Ct CL) [.bor, .bor, .bor, .full] t g] : DN (CM Ct CL) (tMakeK CL 0 4 (spI (CM Ct CL) 1 [.full, .bor, .bor, .bor] f) (fun vs zs => vs ++ zs.reverse) E tNil t) (gMakeK4 1 f g) := makeK4_run (M := CM Ct CL) (c := 1) h1
theorem perm_str {ys : List D} {l : List Str} (h : ys.Perm (l.map D.str)) : ∃ us : List Str, ys = us.map D.str ∧ us.Perm l := by
  have e : ∀ d ∈ ys, D.str ((fun d => match d with | D.str z => z | _ => ("" : Str)) d) = d := fun d hd => by
    obtain ⟨z, _, rfl⟩ := List.mem_map.mp (h.mem_iff.mp hd)
    rfl
  refine ⟨ys.map (fun d => match d with | D.str z => z | _ => ("" : Str)), ?_, ?_⟩
  · rw [List.map_map]
    exact (List.map_id ys).symm.trans (List.map_congr_left fun d hd => (e d hd).symm)
  · have := h.map (fun d => match d with | D.str z => z | _ => ("" : Str))
    rw [List.map_map] at this
    rw [show l.map ((fun d => match d with | D.str z => z | _ => ("" : Str)) ∘ D.str) = l from List.map_id l] at this
    exact this
theorem shaped_two {us ws : List Str} (h1 : ∀ x ∈ us, Nm x) (h2 : ∀ x ∈ ws, Nm x) : SeqAt.shaped (.list [namesD us, namesD ws]) = true := by
  have s1 := shaped_names us h1
  have s2 := shaped_names ws h2
  unfold SeqAt.shaped at s1 s2 ⊢
  rw [Bool.and_eq_true] at s1 s2 ⊢
  have d1 : (namesD us).depth ≤ 5 := Nat.le_trans (PySem.W.Datum.depth_le us) (by decide)
  have d2 : (namesD ws).depth ≤ 5 := Nat.le_trans (PySem.W.Datum.depth_le ws) (by decide)
  refine ⟨?_, ?_⟩
  · simp [PyData.canLay0, PyData.canLayAll0, s1.1, s2.1]
  · refine decide_eq_true ?_
    simp only [PyData.depth, PyData.depthAll]
    omega
def fRight : List D → (D → Prop) → Prop := fun ds P => ds = [.non] ∧ P (.bl true)
section
variable {P : Program} {w : World} {K : PySem.W.Frag} {mg : Str → Option Value} {base : Heap} {Ct CL f : Addr} {fd : FuncData}
theorem okd_dl_right (F : Fun K "_law_right" "_law_right" s_dl_right f fd) (T : Bl mg) (d_model : Xv.Cl P w K mg base 4 "_law_model" (spD (CM Ct CL) [.pot, .bor, .bor] fModel)) (d_dl_thing : ClG P w K mg base 9 "_law_thing" (spN (CM Ct CL) [.bor] fLThing)) (d_dl_teams : ClG P w K mg base 2 "_law_teams" (spN (CM Ct CL) [.pot, .bor, .bor] fTeams)) (d_dl_mixed : ClG P w K mg base 2 "_law_mixed" (spN (CM Ct CL) [.pot, .bor] fMixed)) (d_dl_named : ClG P w K mg base 1 "_law_named" (spN (CM Ct CL) [.bor, .full] fNamed)) (m_lay : C8.Mak P w K mg base 5 "Layout" CL (spI (CM Ct CL) 1 [.full, .bor, .bor, .bor] fLay) []) (m_layK : MakL P w K mg base CL (spI (CM Ct CL) 1 [.full, .bor, .bor, .bor] fLay)) (d_dl_told : ClG P w K mg base 8 "_law_told" (spD (CM Ct CL) [.bor] fTold)) (d_dl_due : ClG P w K mg base 2 "_law_due" (spD (CM Ct CL) [.bor, .bor] fDue)) (p_L_thing : Dl.PrpM P w K mg base CL 1 "thing" (spD (CM Ct CL) [.bor] (fLy fun ns rs n ps qs P => P (thingX ns rs)))) (m_T_eq : Dl.OwnM P w K mg base Ct 1 "__eq__" ["self", "other"] (spD (CM Ct CL) [.bor, .bor] (fTEq K Ct CL))) (m_L_eq : Dl.OwnM P w K mg base CL 2 "__eq__" ["self", "other"] (spD (CM Ct CL) [.bor, .bor] (fLEq K Ct CL))) (d_dl_spoilt : ClG P w K mg base 6 "_law_spoilt" (spD (CM Ct CL) [.full] fSpoilt)) (d_dl_eqright : ClG P w K mg base 11 "_law_equal_right" (spD (CM Ct CL) [.pot, .bor, .full, .bor] fEqRight)) (TC : ThC K Ct) (LC : LyC K CL) (OD : Odd K Ct CL) : FnG P w K mg base 12 f fd ["_law_pot_here"] (spD (CM Ct CL) [.pot] fRight) := by
  refine okD F sc_dl_right rfl fun cdv A outer s H hr hgd => ⟨_, _, (pss_cons (ps_for PassesOwn.never rfl (pi_range1 rfl T.range (pa_cons pe_int pa_nil)) (pg_name (i := 1) sc_dl_right.nd rfl (Or.inl rfl))
  (pss_cons (ps_set (i := 2) sc_dl_right.nd rfl (Or.inl rfl) (pe_cl d_model hr (by decide) (by rfl) (pa_cons (pv 0) (pa_cons pe_int (pa_cons pe_int pa_nil)))))
  (pss_cons (ps_par (i := 3) (j := 4) rfl sc_dl_right.nd rfl rfl (by decide) rfl rfl (pa_cons (pe_clG d_dl_thing hr (by decide) hgd (by rfl) (pa_cons (pv 2) pa_nil)) (pa_cons (pe_clG d_dl_teams hr (by decide) hgd (by rfl) (pa_cons (pv 0) (pa_cons (pv 2) (pa_cons pe_int pa_nil)))) pa_nil)) (by rfl))
  (pss_cons (ps_parO (ps_par (i := 5) (j := 6) rfl sc_dl_right.nd rfl rfl (by decide) rfl rfl (pa_cons (pe_clG d_dl_mixed hr (by decide) hgd (by rfl) (pa_cons (pv 0) (pa_cons (pe_clG d_dl_named hr (by decide) hgd (by rfl) (pa_cons (pv 2) (pa_cons (pe_ix ix_tup (pv 4) pe_int (fun _ _ => rfl)) pa_nil))) pa_nil))) (pa_cons (pe_clG d_dl_mixed hr (by decide) hgd (by rfl) (pa_cons (pv 0) (pa_cons (pe_clG d_dl_named hr (by decide) hgd (by rfl) (pa_cons (pv 2) (pa_cons (pe_ix ix_tup (pv 4) pe_int (fun _ _ => rfl)) pa_nil))) pa_nil))) pa_nil)) (by rfl)))
  (pss_cons (ps_set (i := 7) sc_dl_right.nd rfl (Or.inl rfl) (pe_lst (pa_cons (pe_callTy (T := "list") call_lsD (by rfl) T.list (by decide +kernel) (pa_cons (pv 5) pa_nil)) (pa_cons (pe_callTy (T := "list") call_lsD (by rfl) T.list (by decide +kernel) (pa_cons (pv 6) pa_nil)) pa_nil))))
  (pss_cons (ps_set (i := 8) sc_dl_right.nd rfl (Or.inl rfl) (C8.pe_mk m_lay hr (by decide) (by rfl) (pa_cons (pv 3) (pa_cons (pe_ix ix_tup (pv 4) pe_int (fun _ _ => rfl)) (pa_cons (pv 5) (pa_cons (pv 6) pa_nil))))))
  (pss_cons (ps_if (pt_neB (pt_cmpR (op_neD hr.units) (pe_lst (pa_cons (pv 5) (pa_cons (pv 6) pa_nil))) (pv 7) (nomark _))) (pss_one (ps_ret pe_bl)) pss_nil)
  (pss_cons (ps_set (i := 9) sc_dl_right.nd rfl (Or.inl rfl) (pe_mkLK m_layK hr (by decide) (by rfl) (pk_cons (pe_callTy (T := "tuple") call_tupD (by rfl) T.tuple (by decide +kernel) (pa_cons (pe_revL (pv 6)) pa_nil)) (pk_cons (pe_callTy (T := "tuple") call_tupD (by rfl) T.tuple (by decide +kernel) (pa_cons (pe_revL (pv 5)) pa_nil)) (pk_cons (pe_ix ix_tup (pv 4) pe_int (fun _ _ => rfl)) (pk_cons (pe_clG d_dl_thing hr (by decide) hgd (by rfl) (pa_cons (pv 2) pa_nil)) pk_nil))))))
  (pss_cons (ps_expr (pe_bm0 PySem.F.plainAttrs_list PySem.F.slot_list_clear PySem.F.type_list_clear mt_clear (pv 5)))
  (pss_cons (ps_expr (pe_bm PySem.F.plainAttrs_list PySem.F.slot_list_append PySem.F.type_list_append mt_append (pv 6) (pa_cons pe_str pa_nil)))
  (pss_cons (ps_for PassesOwn.never rfl (pi_range1 rfl T.range (pa_cons pe_int pa_nil)) (pg_name (i := 10) sc_dl_right.nd rfl (Or.inl rfl))
  (pss_cons (ps_if (PW.pt (pw_or (pt_cmpR op_ne (pe_clG d_dl_told hr (by decide) hgd (by rfl) (pa_cons (pv 8) pa_nil)) (pe_clG d_dl_due hr (by decide) hgd (by rfl) (pa_cons (pv 2) (pa_cons (pv 4) pa_nil))) (nomark _)) (pw_or1 (pt_cmpR op_ne (pe_clG d_dl_told hr (by decide) hgd (by rfl) (pa_cons (pv 9) pa_nil)) (pe_clG d_dl_due hr (by decide) hgd (by rfl) (pa_cons (pv 2) (pa_cons (pv 4) pa_nil))) (nomark _))))) (pss_one (ps_ret pe_bl)) pss_nil)
  (pss_one (ps_if (PW.pt (pw_or (pt_not (pt_cmpR (op_eqV m_T_eq hr (by decide)) (pe_prpV p_L_thing LC.cl hr (by decide) (pv 8)) (pv 3) (nomark _))) (pw_or (pt_not (pt_cmpR (op_eqV m_L_eq hr (by decide)) (pv 8) (pv 9) (nomark _))) (pw_or (pt_cmpR (op_neV m_L_eq ⟨OD.zl.ne, OD.zl.ins.hm⟩ hr (by decide)) (pv 8) (pv 9) (nomark _)) (pw_or1 (pt_cmpR (op_neV m_L_eq ⟨OD.zl.ne, OD.zl.ins.hm⟩ hr (by decide)) (pe_clG d_dl_spoilt hr (by decide) hgd (by rfl) (pa_cons (pv 8) pa_nil)) (pv 9) (nomark _))))))) (pss_one (ps_ret pe_bl)) pss_nil))))
  (pss_one (ps_if (PW.pt (pw_or (pt_not (pt_val (pe_clG d_dl_eqright hr (by decide) hgd (by rfl) (pa_cons (pv 0) (pa_cons (pv 2) (pa_cons (pv 4) (pa_cons (pv 8) pa_nil))))))) (pw_or1 (pt_cmpR op_ne (pe_clG d_dl_told hr (by decide) hgd (by rfl) (pa_cons (pv 8) pa_nil)) (pe_clG d_dl_due hr (by decide) hgd (by rfl) (pa_cons (pv 2) (pa_cons (pv 4) pa_nil))) (nomark _))))) (pss_one (ps_ret pe_bl)) pss_nil)))))))))))))
  (pss_one (ps_ret pe_bl))), inferInstance, fun ds Q h => ?_⟩
  obtain ⟨rfl, q⟩ := h
  have nd : ∀ {z : Str}, (true ^^ decide (z = z)) = true → False := fun h => by rw [decide_eq_true rfl] at h; cases h
  refine ⟨⟨by decide, by decide⟩, ?_⟩
  refine forGo_each (fun ρ => ∃ s1 s2 s3 s4 s5 s6 s7 s8 s9 s10, ρ = [.pot, s1, s2, s3, s4, s5, s6, s7, s8, s9, s10]) ⟨_, _, _, _, _, _, _, _, _, _, rfl⟩ (fun x hx ρ' hI k hk => ?_) (fun ρ' hI => ?_)
  · obtain ⟨s1, s2, s3, s4, s5, s6, s7, s8, s9, s10, rfl⟩ := hI
    refine ⟨6, 4, rfl, by decide, by decide, by decide, by decide, fun ns rs R _ _ => ?_⟩
    refine ⟨ns, rs, rfl, R, ns, rs, rfl, R, fun n ps qs L => ?_⟩
    have p0 := L.p0
    have q0 := L.q0
    have pq := L.pq
    have nl : ∀ l : List Nat, ((nmP ns l).map D.str).length = l.length := fun l => by rw [List.length_map]; exact List.length_map _
    refine ⟨⟨by decide, by decide⟩, _, _, _, rfl, rfl, rfl, ns, rs, ps, rfl, L.pd, by omega, _, rfl, by rw [nl]; omega, fun ys pm => ?_⟩
    obtain ⟨us, rfl, pu⟩ := perm_str pm
    refine ⟨_, _, _, rfl, rfl, rfl, ns, rs, qs, rfl, L.qd, by omega, _, rfl, by rw [nl]; omega, fun ys pm => ?_⟩
    obtain ⟨ws, rfl, pw⟩ := perm_str pm
    have lh := lay_h R L pu pw
    have lh2 := lay_h R L ((List.reverse_perm us).trans pu) ((List.reverse_perm ws).trans pw)
    have uw := lh.uw
    refine ⟨_, _, rfl, rfl, _, _, rfl, rfl, by show 2 ≤ 16777216; decide, ?_⟩
    refine ⟨_, _, _, rfl, rfl, rfl, ns, rs, n, false, false, us, ws, rfl, lh.r, lh.n, lh.u0, lh.w0, lh.uw, lh.un, lh.wn, fun a b pa wa pb wb => ?_⟩
    rw [lh.ea a pa wa, lh.eb b pb wb]
    have nu : ∀ x ∈ us, Nm x := fun x hx => R.nm x (lh.un x hx)
    have nw : ∀ x ∈ ws, Nm x := fun x hx => R.nm x (lh.wn x hx)
    have sh := shaped_two nu nw
    refine ⟨[namesD us, namesD ws], .list [namesD us, namesD ws], .cons (pyr_names _) (.cons (pyr_names _) .nil), .lst (.cons (pyr_names _) (.cons (pyr_names _) .nil)), sh, sh, ?_⟩
    rw [PySem.SeqAt.eqv_refl _ (SeqAt.canLay_of_shaped sh)]
    refine ⟨_, rfl, _, rfl, _, _, _, rfl, rfl, rfl, ns, rs, rfl, R, ns, rs, n, true, true, us.reverse, ws.reverse, ?_, lh2.r, lh2.n, lh2.u0, lh2.w0, lh2.uw, lh2.un, lh2.wn, fun a b pa wa pb wb => ?_⟩
    · rw [show seqX true us.reverse = .tup (us.map D.str).reverse from congrArg D.tup List.map_reverse, show seqX true ws.reverse = .tup (ws.map D.str).reverse from congrArg D.tup List.map_reverse]
    rw [lh2.ea a pa wa, lh2.eb b pb wb]
    refine ⟨by rw [List.length_map]; omega, ⟨by decide, by decide⟩, ?_⟩
    refine forGo_each (fun ρ => ∃ s10, ρ = [.pot, .d x, .d (modelX ns rs), .d (thingX ns rs), .d (lotX n ps qs), .own (.lst []), .own (.lst (ws.map D.str ++ [.str "Q"])), .d (.lst [namesX us, namesX ws]), .d (layX ns rs n ps qs), .d (layX ns rs n ps qs), s10]) ⟨_, rfl⟩ (fun y hy ρ' hI k hk => ?_) (fun ρ' hI => ?_)
    · obtain ⟨s10, rfl⟩ := hI
      refine ⟨ns, rs, n, ps, qs, rfl, R, L.st, by omega, by omega, L.pd, L.qd, ns, rs, n, ps, qs, rfl, R, L.st, by omega, by omega, L.pd, L.qd, ?_⟩
      refine ite2 (fun z => (nd z).elim) fun _ => ?_
      refine ⟨ns, rs, n, ps, qs, rfl, R, L.st, by omega, by omega, L.pd, L.qd, ns, rs, n, ps, qs, rfl, R, L.st, by omega, by omega, L.pd, L.qd, ?_⟩
      refine ite2 (fun z => (nd z).elim) fun _ => ?_
      refine ⟨1, _, rfl, rfl, ns, rs, n, ps, qs, rfl, 0, _, rfl, rfl, OD.zt.ins, nf_self, ns, rs, _, rfl, R.nm, .inl ⟨ns, rs, rfl, R.nm, _, rfl, ?_⟩⟩
      rw [decide_eq_true (rfl : ns = ns), decide_eq_true (rfl : rs = rs)]
      refine ⟨1, _, rfl, rfl, OD.zl.ins, nf_self, ns, _, n, ps, qs, _, rfl, R.nm, .inl ⟨ns, _, n, ps, qs, rfl, R.nm, _, rfl, ?_⟩⟩
      rw [lyEq_self]
      refine ⟨1, _, rfl, rfl, OD.zl.ins, nf_self, ns, _, n, ps, qs, _, rfl, R.nm, .inl ⟨ns, _, n, ps, qs, rfl, R.nm, _, rfl, ?_⟩⟩
      rw [lyEq_self]
      refine ⟨ns, rs, n, ps, qs, rfl, L.pd, L.qd, by omega, by omega, 1, _, rfl, rfl, OD.zl.ins, nf_self, ns, _, n, ps, qs, _, rfl, R.nm, .inl ⟨ns, _, n, ps, qs, rfl, R.nm, _, rfl, ?_⟩⟩
      rw [lyEq_self]
      exact hk _ ⟨_, rfl⟩
    · obtain ⟨s10, rfl⟩ := hI
      refine ⟨ns, rs, n, ps, qs, rfl, R, L, ?_⟩
      refine ⟨ns, rs, n, ps, qs, rfl, R, L.st, by omega, by omega, L.pd, L.qd, ns, rs, n, ps, qs, rfl, R, L.st, by omega, by omega, L.pd, L.qd, ?_⟩
      exact ite2 (fun z => (nd z).elim) fun _ => hk _ ⟨_, _, _, _, _, _, _, _, _, _, rfl⟩
  · obtain ⟨s1, s2, s3, s4, s5, s6, s7, s8, s9, s10, rfl⟩ := hI
    exact q

end
end K21

namespace K21
open PySem PySem.Spec PyProof.Rows L2 Xv Cr TL Dl
/-! ### what the end needs -/
theorem fng_imp {P : Program} {w : World} {K : PySem.W.Frag} {mg : Str → Option Value} {base : Heap} {k : Nat} {f : Addr} {fd : FuncData} {ps : List Str} {sp sp' : Sp} (F : FnG P w K mg base k f fd ps sp) (h : ∀ vs H Q E, sp' vs H Q E → sp vs H Q E) : FnG P w K mg base k f fd ps sp' :=
  ⟨fun vs H Q E q => F.len vs H Q E (h vs H Q E q), fun A outer s H args us vs Q a b c d e q => F.run A outer s H args us vs Q a b c d e (h vs H Q E0 q)⟩
theorem clg_imp {P : Program} {w : World} {K : PySem.W.Frag} {mg : Str → Option Value} {base : Heap} {k : Nat} {x : Str} {sp sp' : Sp} (c : ClG P w K mg base k x sp) (h : ∀ vs H Q E, sp' vs H Q E → sp vs H Q E) : ClG P w K mg base k x sp' := by
  obtain ⟨f, fd, ps, F, a, b, d⟩ := c.ex
  exact ⟨f, fd, ps, fng_imp F h, a, b, d⟩
theorem kb_oneM {K : PySem.W.Frag} {x : Str} {st : Stmt} {qual a b : Str} {f : Addr} {fd : FuncData} (F : Fun K x qual st f fd)
    (hk : ∀ (kV doc pm : Value) (an : Option Addr) (cdv ct u v : Value), bindArgs (PySem.W.fnOf x qual (defArgs st) (defBody st) (defScope st) .none kV doc pm an cdv ct) ⟨[u], [(b, v)]⟩ = pure ((([a, b] : List Str)).zip [u, v])) :
    KBn K fd [a, b] 1 [b] (fun us ws => us ++ ws) (fun vs zs => vs ++ zs) := by
  obtain ⟨oc, od, kV, doc, pm, an, cdv, ct, osl, rfl, lk, hc⟩ := F.ex
  exact ⟨fun s us ws X l1 l2 => match us, l1, ws, l2 with | [u], _, [v], _ => .of_eq (hk kV doc pm an cdv ct u v), fun r1 r2 => Vals.append r1 r2⟩
theorem kb_four {K : PySem.W.Frag} {x : Str} {st : Stmt} {qual a b c d e : Str} {f : Addr} {fd : FuncData} (F : Fun K x qual st f fd)
    (hk : ∀ (kV doc pm : Value) (an : Option Addr) (cdv ct u v w y z : Value), bindArgs (PySem.W.fnOf x qual (defArgs st) (defBody st) (defScope st) .none kV doc pm an cdv ct) ⟨[u], [(e, v), (d, w), (c, y), (b, z)]⟩ = pure ((([a, b, c, d, e] : List Str)).zip [u, z, y, w, v])) :
    KBn K fd [a, b, c, d, e] 1 [e, d, c, b] (fun us ws => us ++ ws.reverse) (fun vs zs => vs ++ zs.reverse) := by
  obtain ⟨oc, od, kV, doc, pm, an, cdv, ct, osl, rfl, lk, hc⟩ := F.ex
  exact ⟨fun s us ws X l1 l2 => match us, l1, ws, l2 with | [u], _, [v, w, y, z], _ => .of_eq (hk kV doc pm an cdv ct u v w y z), fun r1 r2 => Vals.append r1 (Vals.reverse r2)⟩
def spRight : Sp := fun vs H Q _ => ∃ (p : Addr), vs = [.ref p] ∧ Pot H p ∧ ∀ H', But p H H' → Q (.bl true) H'
theorem right_d (M : Cm) {vs : List V} {H : Hp} {Q : VK} {E : XK} (h : spRight vs H Q E) : spD M [.pot] fRight vs H Q E := by
  obtain ⟨p, rfl, hp, q⟩ := h
  refine ⟨fun b => b = p, fun _ => False, [.non], fun d => d = .bl true, ?_, .pot rfl .nil, ⟨rfl, rfl⟩, fun d F' H' v e x r => ?_⟩
  · exact ⟨fun b e => e ▸ hp, fun _ _ z => z, fun _ z => z.elim⟩
  · subst e
    cases r
    exact q H' fun b o n hb => x.same b o n hb
end K21

namespace K21
open PySem PySem.Spec PyProof.Rows L2 Xv Cr TL
abbrev s_law : Stmt := top 65
abbrev N_law : List Str := ["_law_script", "_law_k"]
theorem sc_law : FnScope N_law ["_law_script"] (defScope s_law) := ⟨rfl, rfl, rfl, by decide +kernel, rfl, by decide +kernel, by decide +kernel⟩
def spLaw (K : PySem.W.Frag) : Sp := fun vs H Q _ => ∃ (a : Addr) (ns : List Int), vs = [.ref a] ∧ SqL K H a (ns.map V.int) ∧ ns.length ≤ 63 ∧ ∀ H', Q (.bl true) H'
section
variable {P : Program} {w : World} {K : PySem.W.Frag} {mg : Str → Option Value} {base : Heap} {f : Addr} {fd : FuncData}
theorem ok_law (F : Fun K "law" "law" s_law f fd) (T : Bl mg) (c_pot : Cl P w K mg base 1 "_law_pot" (spPot K)) (c_right : ClG P w K mg base 12 "_law_right" spRight) : FnG P w K mg base 13 f fd ["_law_script"] (spLaw K) := by
  refine Xv.Fun.okG F sc_law (fun vs H Q E h => ?_) (fun cdv A outer s H vs Q hr hgd h => ?_)
  · obtain ⟨a, ns, rfl, _⟩ := h
    rfl
  · obtain ⟨a, ns, rfl, hS, hlen, q⟩ := h
    refine ⟨_, (pss_one (ps_ret (pe_callB (id := "all") (cr_all rfl) (by rfl) T.all (by decide +kernel) (pa_cons (pe_lc (own := [("_law_k", 1)]) (g := gName 1) (tt := tYes) (te := tCall spRight [] E0 (tCons (tCall (spPot K) [] E0 (tCons (tVar 0) (tCons (tVar 1) tNil))) tNil)) rfl sc_law.nd (pi_range1 rfl T.range (pa_cons (pe_callB (id := "max") (call_max2 rfl) (by rfl) T.max (by decide +kernel) (pa_cons pe_int (pa_cons (pe_callB (id := "min") (call_m2 rfl) (by rfl) T.min (by decide +kernel) (pa_cons pe_int (pa_cons (pe_callB (id := "len") (call_ln) (by rfl) T.len (by decide +kernel) (pa_cons (pv 0) pa_nil)) pa_nil))) pa_nil))) pa_nil)) (blkOk_by (N := N_law) (sc := defScope s_law) (by decide +kernel)) (fun _ _ _ _ _ => (pg_name (i := 1) sc_law.nd rfl (Or.inl rfl))) (fun _ _ _ _ _ => pts_nil) (fun _ _ _ _ _ => (pe_clG c_right hr (by decide) hgd (by rfl) (pa_cons (pe_cl c_pot hr (by decide) (by rfl) (pa_cons (pv 0) (pa_cons (pv 1) pa_nil))) pa_nil)))) pa_nil)))), ?_⟩
    have hm : ∀ z : Int, z = (if (if (((ns.map V.int).length : Nat) : Int) < (4 : Int) then (((ns.map V.int).length : Nat) : Int) else (4 : Int)) > 1 then (if (((ns.map V.int).length : Nat) : Int) < (4 : Int) then (((ns.map V.int).length : Nat) : Int) else (4 : Int)) else 1) → 1 ≤ z ∧ z ≤ 4 := fun z e => by
      subst e
      split <;> split at * <;> omega
    refine ⟨_, rfl, a, _, rfl, .inl hS, _, _, rfl, _, _, rfl, _, rfl, ?_⟩
    obtain ⟨m1, m4⟩ := hm _ rfl
    generalize (if (if (((ns.map V.int).length : Nat) : Int) < (4 : Int) then (((ns.map V.int).length : Nat) : Int) else (4 : Int)) > 1 then (if (((ns.map V.int).length : Nat) : Int) < (4 : Int) then (((ns.map V.int).length : Nat) : Int) else (4 : Int)) else 1) = m at *
    refine ⟨by omega, by omega, fun D hD => ?_⟩
    refine lc_range (lo := 0) (n := m.toNat) (fun k H' => H' D = some (.lst (List.replicate k (V.bl true))) ∧ Same H H') ⟨upd_same, same_upd hD⟩ (fun k H1 hk p => ?_) (fun H1 p => ?_)
    · obtain ⟨h1, h2⟩ := p
      refine ⟨Cr.wipe_back, ?_⟩
      unfold tYes
      dsimp only
      rw [if_pos rfl]
      refine ⟨_, rfl, _, rfl, a, ns, k, ?_, h2.seq hS, by omega, fun H2 p s n hp => ?_⟩
      · show [V.ref a, V.int (0 + (k : Int))] ++ [] = _
        rw [Int.zero_add, List.append_nil]
      have npD : D ≠ p := ne_of_none h1 n
      refine ⟨p, rfl, hp, fun H3 b3 => ?_⟩
      refine ⟨_, b3 _ _ npD (s _ _ h1), by rw [List.length_replicate, sizeLine_eq]; omega, by rw [upd_same, ← List.replicate_succ'], fun b o e => ?_⟩
      rw [upd_ne (ne_of_none e hD)]
      have n0 : H p = none := h2.free n
      exact b3 _ _ (ne_of_none e n0) (s _ _ (h2 _ _ e))
    · obtain ⟨h1, h2⟩ := p
      refine ⟨D, List.replicate m.toNat true, rfl, SqL.of (by rw [h1, List.map_replicate]), ?_⟩
      have e : (List.replicate m.toNat true).all id = true := by
        rw [List.all_eq_true]
        intro x hx
        rw [List.eq_of_mem_replicate hx]
        rfl
      rw [e]
      exact q _
end
end K21

/-! an object called, and its methods, where these may raise -/
namespace Cr
open PySem PySem.Spec PyProof.Rows L2 Xv
section
variable {X : Cx} {CX : CXT} {k : Nat} {C g : Addr} {fd : FuncData} {sp : Sp} {ps : List Str} {E : L2.St → XK} {te : TE} {t : TA} {x m : Str} {p pos apos : Pos} {e o : Expr} {es : List Expr}
/-- what the callee leaves -/
theorem run_own {pins : List (Addr × Obj)} {σ : L2.St} {H : Hp} {s : Shared} {Q : VK} {us : List Value} {vs : List V} (F : FnOk X.prog X.w X.K X.mg X.base CX k g fd ps sp) (hr : Room k X.A) (hb : Binds X.K fd ps []) (hx : PassesAt CX X σ (E σ))
    (I : Inv X pins σ H s) (r : Vals vs us) (h : sp vs H Q (E σ)) : codeAny (model X.prog X.w) X.A (.call (.ref g) ⟨us, []⟩) (fun z s' => match z with | .ok (.ret u) => EP X pins σ Q u s' | .ok _ => False | .error u => X.xe u s') s := by
  have hl : (us ++ []).length = ps.length := by rw [List.append_nil, ← r.length]; exact F.len _ _ _ _ h
  have bb := hb s us I.kIn hl
  rw [List.append_nil] at bb
  refine codeAny_mono (F.run X.A X.stack s H ⟨us, []⟩ us vs Q (E σ) hr I.env0 bb r h) fun z s' hq => ?_
  cases z with
  | error u => exact hx pins H s u s' I hq
  | ok fl =>
    cases fl with
    | ret u => exact I.after hq
    | next => exact False.elim hq
    | brk => exact False.elim hq
    | cont => exact False.elim hq
def tObjS (C : Addr) (sp : Sp) (E : L2.St → XK) (te : TE) (t : TA) : TE := fun σ H Q => te σ H fun x H1 => t σ H1 fun vs H2 => ∃ a dx fs, x = .ref a ∧ H2 a = some (.ins C dx fs) ∧ sp (.ref a :: vs) H2 Q (E σ)
theorem pe_objS (he : PE X (.Name x p) te) (c : CallsO X.K C g) (F : FnOk X.prog X.w X.K X.mg X.base CX k g fd ps sp) (hr : Room k X.A) (hb : Binds X.K fd ps []) (hx : ∀ σ, PassesAt CX X σ (E σ)) (ha : PA X (e :: es) t)
    (hst : starEach (e :: es) X.env = (false, eval e X.env) :: starEach es X.env := by rfl) (hpl : (backTo pos (starEach es X.env)).any (·.1) = false := by rfl) :
    PE X (.Call (.Name x p) (e :: es) [] pos) (tObjS C sp E te t) := by
  refine ⟨fun pins s σ H Q I h => wpAny_Call_Name_kw (thn (he.run pins s σ H _ I h) fun u s1 ⟨y, H1, I1, ry, q⟩ => ?_)⟩
  have h0 : wpAny (model X.prog X.w) X.A (spliced (backTo pos (starEach (e :: es) X.env))) (fun us s2 => (∃ a dx, u = Value.ref a ∧ s2.heap.get? a = some (PySem.W.instObj C dx)) ∧ wpAny (model X.prog X.w) X.A (call u ([] ++ us)) (EP X pins σ Q) X.xe s2) X.xe s1 := by
    refine thn (ha.run pos pins s1 σ H1 _ I1 q) fun us s2 ⟨vs, H2, I2, r, a, dx, fs, ex, ea, q2⟩ => ?_
    subst ex
    obtain rfl : u = Value.ref a := ry
    have ob := obj_get I2 ea
    exact ⟨⟨a, dx, rfl, ob⟩, wpAny_call (inst_call I2.kIn ob c.at_ c.fn c.fi (run_own (us := .ref a :: us) (vs := .ref a :: vs) F hr hb (hx σ) I2 (.cons rfl r) q2))⟩
  show wpAny _ _ (callWith pos u [] (backTo pos (starEach (e :: es) X.env)) []) _ _ _
  rw [hst] at h0 ⊢
  refine callWith_inst (P := fun h => ∃ a dx, u = Value.ref a ∧ h.get? a = some (PySem.W.instObj C dx)) ?_ (fun h ⟨a, dx, e1, e2⟩ => ?_) (Calls.evalArgs_plain h0)
  · show ((false || (backTo pos (starEach es X.env)).any (·.1)) || false) = false
    rw [hpl]
    rfl
  · subst e1
    exact keeper_inst e2
def tMethS (C : Addr) (m : Str) (sp : Sp) (E : L2.St → XK) (ta : TE) (t : TA) : TE := fun σ H Q => ta σ H fun x H1 => ∃ a dx fs, x = .ref a ∧ H1 a = some (.ins C dx fs) ∧ fs.lookup m = none ∧ t σ H1 fun vs H2 => sp (x :: vs) H2 Q (E σ)
theorem pe_methS {pl : Sem Bool} (he : PE X o te) (c : Cls X.K C) (hm : Meth X.K C m g) (F : FnOk X.prog X.w X.K X.mg X.base CX k g fd ps sp) (hr : Room k X.A) (hb : Binds X.K fd ps []) (hx : ∀ σ, PassesAt CX X σ (E σ)) (ha : PA X (e :: es) t)
    (hst : starEach (e :: es) X.env = (false, eval e X.env) :: starEach es X.env := by rfl) (hpl : (backTo pos (starEach es X.env)).any (·.1) = false := by rfl)
    (ht : eval (.Call (.Attribute o m apos) (e :: es) [] pos) X.env = (do
      let ov ← eval o X.env
      standAt apos.atName
      let (fn, fst) ← holding [ov] (getMethod ov m pl)
      callWith pos fn fst (backTo pos (starEach (e :: es) X.env)) (backToKw pos (keywordEach [] X.env))) := by rfl) :
    PE X (.Call (.Attribute o m apos) (e :: es) [] pos) (tMethS C m sp E te t) := by
  refine ⟨fun pins s σ H Q I h => PySem.W.methodCall_KW (pl := pl) (thn (he.run pins s σ H _ I h) fun u s1 ⟨y, H1, I1, ry, a, dx, fs, ex, ea, l, q⟩ => ?_) ht⟩
  subst ex
  obtain rfl : u = Value.ref a := ry
  refine getmeth_ok I1 ea c hm l (PySem.W.callWith_K (first := [.ref a]) (h₀ := X.base) I.ok.mod.kin hm.kp (thn (ha.run pos pins s1 σ H1 _ I1 q) fun us s2 ⟨vs, H2, I2, r, q2⟩ => ⟨I2.kIn, ?_⟩) hst hpl)
  exact wpAny_call (run_own (us := .ref a :: us) (vs := .ref a :: vs) F hr hb (hx σ) I2 (.cons rfl r) q2)
end
/-- an own exception class that is raised, caught, and read -/
structure XCl (P : Program) (w : World) (K : PySem.W.Frag) (mg : Str → Option Value) (base : Heap) (x : Str) (C : Addr) (f : Str) : Prop where
  ex : Ex1 P w K mg base x C f
  sub : PySem.W.subIn K (.ref C) (.type "BaseException") = some true
  ty : PySem.W.typeIn K (.ref C) = some (.type "type")
  xf : XfC K C
  no : PySem.W.findIn K (.ref C) f = some none
  em : PySem.W.exmOne K (.ref C) (.ref C) = some true
/-- a def that may raise -/
structure ClX (P : Program) (w : World) (K : PySem.W.Frag) (mg : Str → Option Value) (base : Heap) (k : Nat) (x : Str) (sp : Sp) : Prop where
  ex : ∃ (f : Addr) (fd : FuncData) (ps : List Str), FnOk P w K mg base (L2.CX P w) k f fd ps sp ∧ mg x = some (.ref f) ∧ PySem.W.keepIn K (.ref f) = true ∧ Binds K fd ps []
/-- an own method that may raise -/
structure MetX (P : Program) (w : World) (K : PySem.W.Frag) (mg : Str → Option Value) (base : Heap) (k : Nat) (C : Addr) (m : Str) (sp : Sp) : Prop where
  ex : ∃ (g : Addr) (fd : FuncData) (ps : List Str), Cls K C ∧ Meth K C m g ∧ FnOk P w K mg base (L2.CX P w) k g fd ps sp ∧ Binds K fd ps []
/-- an own class's objects, called, where that may raise -/
structure CalX (P : Program) (w : World) (K : PySem.W.Frag) (mg : Str → Option Value) (base : Heap) (k : Nat) (C : Addr) (sp : Sp) : Prop where
  ex : ∃ (g : Addr) (fd : FuncData) (ps : List Str), CallsO K C g ∧ FnOk P w K mg base (L2.CX P w) k g fd ps sp ∧ Binds K fd ps []
section
variable {X : Cx} {W : WX} {k j : Nat} {C : Addr} {sp : Sp} {te : TE} {t : TA} {x m : Str} {p pos apos : Pos} {e o : Expr} {es : List Expr}
theorem pe_clX (c : ClX X.prog X.w X.K X.mg X.base k x sp) (hr : Room j X.A) (hk : k ≤ j) (tk : Takes X W) (hg : Gl X x) (ha : PA X (e :: es) t)
    (hdb : (x == ("__debug__" : Str)) = false := by decide) (he : starEach (e :: es) X.env = (false, eval e X.env) :: starEach es X.env := by rfl) (hpl : (backTo pos (starEach es X.env)).any (·.1) = false := by rfl) :
    PE X (.Call (.Name x p) (e :: es) [] pos) (tCallS sp (WE W) t) := by
  obtain ⟨f, fd, ps, F, hm, kp, b⟩ := c.ex
  exact pe_callS F (hr.mono hk) hg hm kp b (fun σ => passAt tk σ) ha hdb he hpl
theorem pe_calX (c : CalX X.prog X.w X.K X.mg X.base k C sp) (hr : Room j X.A) (hk : k ≤ j) (tk : Takes X W) (he : PE X (.Name x p) te) (ha : PA X (e :: es) t)
    (hst : starEach (e :: es) X.env = (false, eval e X.env) :: starEach es X.env := by rfl) (hpl : (backTo pos (starEach es X.env)).any (·.1) = false := by rfl) :
    PE X (.Call (.Name x p) (e :: es) [] pos) (tObjS C sp (WE W) te t) := by
  obtain ⟨g, fd, ps, co, F, b⟩ := c.ex
  exact pe_objS he co F (hr.mono hk) b (fun σ => passAt tk σ) ha hst hpl
theorem pe_metX {pl : Sem Bool} (c : MetX X.prog X.w X.K X.mg X.base k C m sp) (hr : Room j X.A) (hk : k ≤ j) (tk : Takes X W) (he : PE X o te) (ha : PA X (e :: es) t)
    (hst : starEach (e :: es) X.env = (false, eval e X.env) :: starEach es X.env := by rfl) (hpl : (backTo pos (starEach es X.env)).any (·.1) = false := by rfl)
    (ht : eval (.Call (.Attribute o m apos) (e :: es) [] pos) X.env = (do
      let ov ← eval o X.env
      standAt apos.atName
      let (fn, fst) ← holding [ov] (getMethod ov m pl)
      callWith pos fn fst (backTo pos (starEach (e :: es) X.env)) (backToKw pos (keywordEach [] X.env))) := by rfl) :
    PE X (.Call (.Attribute o m apos) (e :: es) [] pos) (tMethS C m sp (WE W) te t) := by
  obtain ⟨g, fd, ps, hc, hm, F, b⟩ := c.ex
  exact pe_methS (pl := pl) he hc hm F (hr.mono hk) b (fun σ => passAt tk σ) ha hst hpl ht
end
end Cr

/-! own exception classes with one field, out of what the module's heap says -/
namespace Cr
open PySem PySem.Spec PyProof.Rows L2 Xv
def bmb (b : String) : List Value := [.type b, .type "Exception", .type "BaseException", .type "object"]
theorem basV : Bas "ValueError" "ValueError.__new__" "ValueError.__init__" (bmb "ValueError") := ⟨F.excBase_ValueError, F.store_ValueError⟩
section
variable {P : Program} {w : World} {K : PySem.W.Frag} {mg : Str → Option Value} {base : Heap} {x f qual : Str} {C fI : Addr} {fd : FuncData} {st : Stmt} {B newId initId : String} {bmB : List Value}
theorem ex1_mk (b : Bas B newId initId bmB) (T : ExT K C fI newId bmB) (hno : PySem.W.takerIn K C f = some none) (F : Fun K "__init__" qual st fI fd) (gm : mg x = some (.ref C)) (sc : FnScope ["self", f] ["self", f] (defScope st)) {p1 p2 p3 p4 : Pos}
    (hb : defBody st = [.Assign [.Attribute (.Name "self" p1) f p2] (.Name f p3) p4]) (vS : (defScope st).names.lookup ("self" : Str) = some .local) (vF : (defScope st).names.lookup f = some .local) (hd : (f == ("__debug__" : Str)) = false) (hcd : (f == ("__classdict__" : Str)) = false)
    (bB : ∀ (kV doc pm : Value) (an : Option Addr) (cdv ct u v : Value), bindArgs (PySem.W.fnOf "__init__" qual (defArgs st) (defBody st) (defScope st) .none kV doc pm an cdv ct) ⟨[u, v], []⟩ = pure ((["self", f] : List Str).zip [u, v]))
    (bK : ∀ (kV doc pm : Value) (an : Option Addr) (cdv ct u v : Value), bindArgs (PySem.W.fnOf "__init__" qual (defArgs st) (defBody st) (defScope st) .none kV doc pm an cdv ct) ⟨[u], [(f, v)]⟩ = pure ((["self", f] : List Str).zip [u, v])) : Ex1 P w K mg base x C f := by
  refine ⟨⟨fI, fd, B, newId, initId, bmB, b, T, ok_one b T hno F sc hb vS vF hd hcd, F.binds fun kV doc pm an cdv ct us hl => match us, hl with | [u, v], _ => bB kV doc pm an cdv ct u v, ?_⟩, gm⟩
  obtain ⟨oc, od, kV, doc, pm, an, cdv, ct, osl, rfl, lk, hc⟩ := F.ex
  exact ⟨fun s us ws X l1 l2 => match us, l1, ws, l2 with | [u], _, [v], _ => .of_eq (bK kV doc pm an cdv ct u v), fun r1 r2 => Vals.append r1 r2⟩
/-- what is seen of such a class -/
def ecA (K : PySem.W.Frag) (C fI : Addr) (q : Str) : Bool × FnS × Bool := (PySem.W.keepIn K (.ref fI), fnS K fI, codeS K fI q)
def ecB (K : PySem.W.Frag) (C fI : Addr) : Bool × Bool × Bool × Bool × Bool := (PySem.W.excInitIn K C (bmb "ValueError") "ValueError.__new__", PySem.W.excOver K C (bmb "ValueError"), PySem.W.hasDictIn K C, PySem.W.isFn K (.ref fI), PySem.W.keepIn K (.ref C))
def ecC (K : PySem.W.Frag) (C fI : Addr) (f : Str) : Option (Option Value) × Bool × Option (Option Value) × Option (Option Value) × Option (Option Value) × Option (Option Value) :=
  (PySem.W.findIn K (.ref C) "__setattr__", He.eqO (PySem.W.findIn K (.ref C) "__init__") (some (some (.ref fI))), PySem.W.findIn K (.ref C) "__getattribute__", PySem.W.findIn K (.ref C) "__getattr__", PySem.W.findIn K (.ref C) f, PySem.W.takerIn K C f)
def ecD (K : PySem.W.Frag) (C : Addr) : Option Bool × Option Value × Option Bool := (PySem.W.subIn K (.ref C) (.type "BaseException"), PySem.W.typeIn K (.ref C), PySem.W.exmOne K (.ref C) (.ref C))
abbrev EcT : Type := (Bool × FnS × Bool) × (Bool × Bool × Bool × Bool × Bool) × (Option (Option Value) × Bool × Option (Option Value) × Option (Option Value) × Option (Option Value) × Option (Option Value)) × (Option Bool × Option Value × Option Bool)
def ecO (K : PySem.W.Frag) (C fI : Addr) (q f : Str) : EcT := (ecA K C fI q, ecB K C fI, ecC K C fI f, ecD K C)
def ecV (q : Str) (st : Stmt) : EcT := ((true, some ("__init__", q, defArgs st, .stmts (defBody st), defScope st, mainGlobals, [], .none, builtinsNs), true), (true, true, true, true, true), (some (some (.builtin "object.__setattr__")), true, some (some (.builtin "BaseException.__getattribute__")), some none, some none, some none), (some true, some (.type "type"), some true))
theorem ec_ok {q : Str} (e : ecO K C fI q f = ecV q st) : (∃ fd, Fun K "__init__" q st fI fd) ∧ ExT K C fI "ValueError.__new__" (bmb "ValueError") ∧ PySem.W.takerIn K C f = some none ∧ PySem.W.findIn K (.ref C) f = some none ∧ XfC K C ∧ PySem.W.subIn K (.ref C) (.type "BaseException") = some true ∧ PySem.W.typeIn K (.ref C) = some (.type "type") ∧ PySem.W.exmOne K (.ref C) (.ref C) = some true := by
  unfold ecO ecV ecA ecB ecC ecD at e
  simp only [Prod.mk.injEq] at e
  obtain ⟨⟨a1, a2, a3⟩, ⟨b1, b2, b3, b4, b5⟩, ⟨c1, c2, c3, c4, c5, c6⟩, d1, d2, d3⟩ := e
  exact ⟨fnS_ok a2 a3 a1, ⟨b1, b2, b3, c1, He.eqO_ok c2, b4, b5⟩, c6, c5, ⟨c3, c4, d1, b3⟩, d1, d2, d3⟩
theorem xcl_mk {q : Str} (e : ecO K C fI q f = ecV q st) (hx : Ex1 P w K mg base x C f) : XCl P w K mg base x C f := by
  obtain ⟨_, _, _, h1, h2, h3, h4, h5⟩ := ec_ok e
  exact ⟨hx, h3, h4, h2, h1, h5⟩
/-- a def that may raise, by its place -/
theorem clx_mk {sp : Sp} {ps : List Str} {k : Nat} (D : Dn K mg x st) (ok : ∀ f fd, Fun K x x st f fd → FnOk P w K mg base (L2.CX P w) k f fd ps sp)
    (hb : ∀ (kV doc pm : Value) (an : Option Addr) (cdv ct : Value) (us : List Value), us.length = ps.length → bindArgs (PySem.W.fnOf x x (defArgs st) (defBody st) (defScope st) .none kV doc pm an cdv ct) ⟨us, []⟩ = pure (ps.zip us)) : ClX P w K mg base k x sp := by
  obtain ⟨f, gm, fd, F⟩ := D
  exact ⟨f, fd, ps, ok f fd F, gm, F.kp, F.binds hb⟩
end
end Cr

namespace K21
open PySem PySem.Spec PyProof.Rows L2 Xv Cr TL
/-! ### the facts as tables -/
def lt (l : List String) (i : Nat) : Str := l.getD i ""
def bnl : List String := ["len", "abs", "max", "min", "int", "divmod", "repr", "isinstance", "enumerate", "range", "all", "list", "tuple", "set", "str", "bool", "ValueError", "sorted", "dict", "zip", "sum"]
def bn (i : Nat) : Str := lt bnl i
def dnl0 : List String := ["is_integer", "is_integer_from", "is_list", "is_filled_list", "is_name", "is_answer", "is_entry", "check_limit", "is_row", "check_rows", "is_hand", "check_hand", "made_thing", "is_state", "check_state", "check_deeds_of_team", "sorted_places", "deeds_at"]
def dnl1 : List String := ["_law_pot", "_law_draw", "_law_pick", "_law_names", "_law_any_rows", "_law_known_rows", "_law_model", "_law_thing", "_law_teams", "_law_named", "_law_mixed", "_law_due", "_law_told", "_law_spoilt", "_law_otherwise", "_law_equal_right", "_law_right", "law"]
def dnl : List String := dnl0 ++ dnl1
def dn (i : Nat) : Str := lt dnl i
def ds (i : Nat) : Stmt := top (([18, 19, 20, 21, 22, 23, 24, 28, 30, 31, 32, 33, 36, 38, 39, 44, 45, 46, 48, 49, 50, 51, 52, 53, 54, 55, 56, 57, 58, 59, 60, 61, 62, 63, 64, 65] : List Nat).getD i 0)
def mnl : List String := ["__init__", "rows", "renamed", "__repr__", "__eq__", "__len__", "__contains__"]
def mn (i : Nat) : Str := lt mnl i
def mq (i : Nat) : Str := "Thing." ++ mn i
def ms (i : Nat) : Stmt := inClass (top 35) (([0, 3, 9, 15, 14, 12, 13] : List Nat).getD i 0)
def pnl : List String := ["deeds"]
def pn (i : Nat) : Str := lt pnl i
def pq (i : Nat) : Str := "Thing." ++ pn i
def pps (i : Nat) : Stmt := inClass (top 35) (([1] : List Nat).getD i 0)
def mnl2 : List String := ["__init__", "deed", "team", "__len__", "__eq__", "__repr__"]
def mn2 (i : Nat) : Str := lt mnl2 i
def mq2 (i : Nat) : Str := "Layout." ++ mn2 i
def ms2 (i : Nat) : Stmt := inClass (top 43) (([0, 6, 7, 21, 22, 23] : List Nat).getD i 0)
def pnl2 : List String := ["thing", "state", "first", "second", "hands"]
def pn2 (i : Nat) : Str := lt pnl2 i
def pq2 (i : Nat) : Str := "Layout." ++ pn2 i
def pps2 (i : Nat) : Stmt := inClass (top 43) (([1, 2, 3, 4, 5] : List Nat).getD i 0)
def cnl : List String := ["LETTERS", "LONGEST_NAME", "GREATEST_ANSWER", "MOST_DEEDS", "MOST_STATES", "MOST_IN_LAYOUT"]
def cn (i : Nat) : Str := lt cnl i
def cvl : Nat → Option (Int ⊕ Str)
  | 0 => some (.inr sgn)
  | 1 => some (.inl 8)
  | 2 => some (.inl 9)
  | 3 => some (.inl 4)
  | 4 => some (.inl 8)
  | 5 => some (.inl 5)
  | _ => none
/-- a global's plain value -/
def cv (K : PySem.W.Frag) (x : Str) : Option (Int ⊕ Str) := match PySem.W.nsIn K mainGlobals x with
  | some (some (.int i _)) => some (.inl i)
  | some (some (.str z _)) => some (.inr z)
  | _ => none
theorem cv_int {K : PySem.W.Frag} {h : Heap} {mg : Str → Option Value} {x : Str} {i : Int} (X : K.In h) (G : h.Ns mainGlobals mg) (e : cv K x = some (.inl i)) : ∃ t, mg x = some (.int i t) := by
  unfold cv at e
  split at e
  · rename_i z
    cases e
    exact ⟨_, PySem.W.mg_of X G z⟩
  · cases e
  · cases e
theorem cv_str {K : PySem.W.Frag} {h : Heap} {mg : Str → Option Value} {x z : Str} (X : K.In h) (G : h.Ns mainGlobals mg) (e : cv K x = some (.inr z)) : ∃ t, mg x = some (.str z t) := by
  unfold cv at e
  split at e
  · cases e
  · rename_i z
    cases e
    exact ⟨_, PySem.W.mg_of X G z⟩
  · cases e
def CT (K : PySem.W.Frag) : Addr := He.ga K "Thing"
def ma (K : PySem.W.Frag) (i : Nat) : Addr := He.ma K (CT K) (mn i)
def pa (K : PySem.W.Frag) (i : Nat) : Addr := He.ma K (CT K) (pn i)
def CLy (K : PySem.W.Frag) : Addr := He.ga K "Layout"
def ma2 (K : PySem.W.Frag) (i : Nat) : Addr := He.ma K (CLy K) (mn2 i)
def pa2 (K : PySem.W.Frag) (i : Nat) : Addr := He.ma K (CLy K) (pn2 i)
def ov (K : PySem.W.Frag) : Nat → Value
  | 0 => .type "NoneType"
  | 1 => .type "int"
  | 2 => .type "str"
  | 3 => .type "tuple"
  | 4 => .type "list"
  | 5 => .type "dict"
  | _ => .ref (CT K)
/-- a property's getter -/
def gt (K : PySem.W.Frag) (p : Addr) : Addr := match PySem.W.recIn K p "property" with
  | some (.ref g :: _) => g
  | _ => 0
def gtB (K : PySem.W.Frag) (p : Addr) : Bool := match PySem.W.recIn K p "property" with
  | some (.ref _ :: _) => true
  | _ => false
theorem gt_ok {K : PySem.W.Frag} {p : Addr} (h : gtB K p = true) : ∃ rest, PySem.W.recIn K p "property" = some (.ref (gt K p) :: rest) := by
  unfold gtB at h
  unfold gt
  split at h
  · rename_i g r e
    rw [e]
    exact ⟨_, rfl⟩
  · cases h
def obs1 (K : PySem.W.Frag) :=
  ((List.range 21).map (fun i => PySem.W.nsIn K mainGlobals (bn i)),
   (List.range 6).map (fun i => cv K (cn i)),
   (List.range 36).map (fun i => (He.eqO (PySem.W.nsIn K mainGlobals (dn i)) (some (some (.ref (He.ga K (dn i))))), PySem.W.keepIn K (.ref (He.ga K (dn i))), fnS K (He.ga K (dn i)), codeS K (He.ga K (dn i)) (dn i))),
   (He.eqO (PySem.W.nsIn K mainGlobals "check_deeds") (some (some (.ref (He.ga K "check_deeds")))), PySem.W.keepIn K (.ref (He.ga K "check_deeds")), fnSD K (He.ga K "check_deeds"), codeS K (He.ga K "check_deeds") "check_deeds", dflN K (He.ga K "check_deeds")),
   (List.range 7).map (fun i => (He.eqO (PySem.W.findIn K (.ref (CT K)) (mn i)) (some (some (.ref (ma K i)))), PySem.W.isFn K (.ref (ma K i)), PySem.W.keepIn K (.ref (ma K i)), PySem.W.fnIn K (ma K i), fnS K (ma K i), codeS K (ma K i) (mq i))),
   (List.range 1).map (fun i => (He.eqO (PySem.W.findIn K (.ref (CT K)) (pn i)) (some (some (.ref (pa K i)))), PySem.W.specialIn K (.ref (pa K i)) "__get__", PySem.W.takesIn K (.ref (pa K i)), gtB K (pa K i), PySem.W.keepIn K (.ref (gt K (pa K i))), fnS K (gt K (pa K i)), codeS K (gt K (pa K i)) (pq i))),
   (He.eqO (PySem.W.nsIn K mainGlobals "Thing") (some (some (.ref (CT K)))), PySem.W.plainGet K (CT K) Str.empty, PySem.W.hasDictIn K (CT K), PySem.W.plainOver K (CT K), PySem.W.makesIn K (CT K), PySem.W.keepIn K (.ref (CT K))),
   (PySem.W.findIn K (.ref (CT K)) "__setattr__", PySem.W.findIn K (.ref (CT K)) "_deeds", PySem.W.findIn K (.ref (CT K)) "_rows", PySem.W.findIn K (.ref (CT K)) "__class__", PySem.W.findIn K (.ref (CT K)) "__ne__", PySem.W.specialIn K (.builtin "object.__class__") "__get__"),
   (PySem.W.takesIn K (.builtin "object.__class__"), PySem.W.mroIn K (CT K) (.type "object"), PySem.W.kitOne K (.ref (CT K)) (.ref (CT K)), PySem.W.kitOne K (.type "NoneType") (.ref (CT K)), PySem.W.kitOne K (.type "str") (.ref (CT K)), PySem.W.kitOne K (.type "list") (.ref (CT K))),
   (PySem.W.notFirst K (CT K) (.type "NoneType"), PySem.W.notFirst K (CT K) (.type "str"), PySem.W.notFirst K (CT K) (.type "list")))
def obs2 (K : PySem.W.Frag) :=
  ((List.range 6).map (fun i => (He.eqO (PySem.W.findIn K (.ref (CLy K)) (mn2 i)) (some (some (.ref (ma2 K i)))), PySem.W.isFn K (.ref (ma2 K i)), PySem.W.keepIn K (.ref (ma2 K i)), PySem.W.fnIn K (ma2 K i), fnS K (ma2 K i), codeS K (ma2 K i) (mq2 i))),
   (List.range 5).map (fun i => (He.eqO (PySem.W.findIn K (.ref (CLy K)) (pn2 i)) (some (some (.ref (pa2 K i)))), PySem.W.specialIn K (.ref (pa2 K i)) "__get__", PySem.W.takesIn K (.ref (pa2 K i)), gtB K (pa2 K i), PySem.W.keepIn K (.ref (gt K (pa2 K i))), fnS K (gt K (pa2 K i)), codeS K (gt K (pa2 K i)) (pq2 i))),
   (He.eqO (PySem.W.nsIn K mainGlobals "Layout") (some (some (.ref (CLy K)))), PySem.W.plainGet K (CLy K) Str.empty, PySem.W.hasDictIn K (CLy K), PySem.W.plainOver K (CLy K), PySem.W.makesIn K (CLy K), PySem.W.keepIn K (.ref (CLy K))),
   (PySem.W.findIn K (.ref (CLy K)) "__setattr__", PySem.W.findIn K (.ref (CLy K)) "_thing", PySem.W.findIn K (.ref (CLy K)) "_state", PySem.W.findIn K (.ref (CLy K)) "_first", PySem.W.findIn K (.ref (CLy K)) "_second", PySem.W.findIn K (.ref (CLy K)) "__class__", PySem.W.findIn K (.ref (CLy K)) "__ne__"),
   (PySem.W.mroIn K (CLy K) (.type "object"), PySem.W.kitOne K (.ref (CLy K)) (.ref (CLy K))),
   (List.range 7).map (fun i => (PySem.W.notFirst K (CLy K) (ov K i), PySem.W.kitOne K (ov K i) (.ref (CLy K)))))
def obsK (K : PySem.W.Frag) := (obs1 K, obs2 K)
abbrev Al1 : Type := List (Option (Option Value)) × List (Option (Int ⊕ Str)) × List (Bool × Bool × FnS × Bool) × (Bool × Bool × Option (Str × Str × Arguments × FuncBody × Scope × Addr × List Str × Addr) × Bool × Bool) × List (Bool × Bool × Bool × Bool × FnS × Bool) × List (Bool × Option (Option Value) × Option Bool × Bool × Bool × FnS × Bool) × (Bool × Bool × Bool × Bool × Bool × Bool) × (Option (Option Value) × Option (Option Value) × Option (Option Value) × Option (Option Value) × Option (Option Value) × Option (Option Value)) × (Option Bool × Option Bool × Option Bool × Option Bool × Option Bool × Option Bool) × (Bool × Bool × Bool)
abbrev Al2 : Type := List (Bool × Bool × Bool × Bool × FnS × Bool) × List (Bool × Option (Option Value) × Option Bool × Bool × Bool × FnS × Bool) × (Bool × Bool × Bool × Bool × Bool × Bool) × (Option (Option Value) × Option (Option Value) × Option (Option Value) × Option (Option Value) × Option (Option Value) × Option (Option Value) × Option (Option Value)) × (Option Bool × Option Bool) × List (Bool × Option Bool)
abbrev AlK : Type := Al1 × Al2
def val1 : Al1 :=
  ((List.range 21).map (fun _ => some none),
   (List.range 6).map cvl,
   (List.range 36).map (fun i => (true, true, some (dn i, dn i, defArgs (ds i), .stmts (defBody (ds i)), defScope (ds i), mainGlobals, [], .none, builtinsNs), true)),
   (true, true, some ("check_deeds", "check_deeds", defArgs s_check_deeds, .stmts (defBody s_check_deeds), defScope s_check_deeds, mainGlobals, [], builtinsNs), true, true),
   (List.range 7).map (fun i => (true, true, true, true, some (mn i, mq i, defArgs (ms i), .stmts (defBody (ms i)), defScope (ms i), mainGlobals, [], .none, builtinsNs), true)),
   (List.range 1).map (fun i => (true, some (some (.builtin "property.__get__")), some true, true, true, some (pn i, pq i, defArgs (pps i), .stmts (defBody (pps i)), defScope (pps i), mainGlobals, [], .none, builtinsNs), true)),
   (true, true, true, true, true, true),
   (some (some (.builtin "object.__setattr__")), some none, some none, some (some (.builtin "object.__class__")), some (some (.builtin "object.__ne__")), some (some (.builtin "getset_descriptor.__get__"))),
   (some true, some true, some true, some false, some false, some false), (true, true, true))
def val2 : Al2 :=
  ((List.range 6).map (fun i => (true, true, true, true, some (mn2 i, mq2 i, defArgs (ms2 i), .stmts (defBody (ms2 i)), defScope (ms2 i), mainGlobals, [], .none, builtinsNs), true)),
   (List.range 5).map (fun i => (true, some (some (.builtin "property.__get__")), some true, true, true, some (pn2 i, pq2 i, defArgs (pps2 i), .stmts (defBody (pps2 i)), defScope (pps2 i), mainGlobals, [], .none, builtinsNs), true)),
   (true, true, true, true, true, true),
   (some (some (.builtin "object.__setattr__")), some none, some none, some none, some none, some (some (.builtin "object.__class__")), some (some (.builtin "object.__ne__"))),
   (some true, some true),
   (List.range 7).map (fun _ => (true, some false)))
def valK : AlK := (val1, val2)
def ofG (g : Addr → Option Obj) : AlK := obsK (He.frG g (asK g))
def hk : PySem.W.Hook where
  α := AlK
  obs := fun s => ofG s.heap.get?
  val := fun _ => valK
  says := fun _ h => ∃ K : PySem.W.Frag, K.In h ∧ obsK K = valK
  of := fun _ _ e => ⟨_, He.frG_in, e⟩
  keeps := fun _ _ _ ⟨K, hK, c⟩ k => ⟨K, PySem.W.Frag.In.keeps hK k, c⟩
def ob (s : PySem.W.SharedT) : AlK := ofG (HandSHeadRun.getT s)
theorem ob_eq (s : PySem.W.SharedT) : ob s = hk.obs s.abs := by
  have e : HandSHeadRun.getT s = s.abs.heap.get? := funext (HandSHeadRun.getT_eq s)
  unfold ob
  rw [e]
  rfl
def ln1 : List Str := ["_wall", "SettleError", "InvalidDeeds", "InvalidRows", "InvalidState", "InvalidDeed", "InvalidNames", "InvalidTeam", "InvalidHand", "StateError", "SharedDeed", "LimitError", "TooMany", "Thing", "Layout", "check_deeds", "entry_at"]
def ln2 : List Str := ["check_deed", "is_integer", "is_integer_from", "is_list", "is_filled_list", "is_name", "is_answer", "is_entry", "check_limit", "is_row", "check_rows", "is_hand", "check_hand", "made_thing", "is_state", "check_state", "check_deeds_of_team"]
def ln3 : List Str := ["sorted_places", "deeds_at", "_law_pot", "_law_draw", "_law_pick", "_law_names", "_law_any_rows", "_law_known_rows", "_law_model", "_law_thing", "_law_teams", "_law_named", "_law_mixed", "_law_due", "_law_told", "_law_spoilt", "_law_otherwise"]
def ln4 : List Str := ["_law_equal_right", "_law_right", "LETTERS", "LONGEST_NAME", "GREATEST_ANSWER", "MOST_DEEDS", "MOST_STATES", "MOST_IN_LAYOUT"]
def lns : List Str := ln1 ++ (ln2 ++ (ln3 ++ (ln4)))
abbrev Rw21 : PySem.W.OpenRow := PySem.W.OpenLaw.row PySem.Challenge.rw_settlesfirst_k21_whole_layouts_told
end K21

namespace K21
open PySem PySem.Spec PyProof.Rows L2 Xv Cr TL
theorem run (w : World) : HandSHeadRun.RunEq Rw21 (PySem.W.view Rw21.prog [65]) hk ob 30000 lns w := by
  intro os
  kernel_rfl
end K21

namespace K21
open PySem PySem.Spec PyProof.Rows L2 Xv Cr TL Dl
/-! ### all of the defs together -/
def Mh (K : PySem.W.Frag) (C : Addr) (m q : Str) (st : Stmt) : Prop := ∃ (g : Addr) (fd : FuncData), PySem.W.findIn K (.ref C) m = some (some (.ref g)) ∧ PySem.W.isFn K (.ref g) = true ∧ PySem.W.keepIn K (.ref g) = true ∧ PySem.W.fnIn K g = true ∧ Fun K m q st g fd
def Ph (K : PySem.W.Frag) (C : Addr) (f q : Str) (st : Stmt) : Prop := ∃ (p g : Addr) (fd : FuncData), PropOf K C f p g ∧ Fun K f q st g fd
def Dd (K : PySem.W.Frag) (mg : Str → Option Value) : Prop := ∃ (f : Addr) (fd : FuncData), mg "check_deeds" = some (.ref f) ∧ PySem.W.keepIn K (.ref f) = true ∧ FunD K "check_deeds" "check_deeds" (defArgs s_check_deeds) (defBody s_check_deeds) (defScope s_check_deeds) [V.non] [] f fd
section
variable {P : Program} {w : World} {K : PySem.W.Frag} {mg : Str → Option Value} {base : Heap} {Ct CL fa : Addr}
theorem deeds_mk (D : Dd K mg) (T : Bl mg) (c_is_filled_list : Cl P w K mg base 2 "is_filled_list" spFilled) (c_is_name : Cl P w K mg base 1 "is_name" spIsName) : ClD P w K mg base 3 "check_deeds" spCheckDeeds [V.non] := by
  obtain ⟨f, fd, gm, kp, F⟩ := D
  obtain ⟨ds, hv, hb⟩ := F.binds1 (ps := ["deeds", "known"]) 1 0 (by simp) rfl (fun Ta kV doc pm an cdv ct us its l1 l2 => match us, l1, its, l2 with | [_], _, [_], _ => ⟨_, rfl, rfl⟩)
  exact ⟨f, fd, ["deeds", "known"], ds, ok_check_deeds F T c_is_filled_list c_is_name, gm, kp, hb, hv⟩
theorem all_mk (T : Bl mg) (Ts : mg "sorted" = none) (Td : mg "dict" = none) (Tz : mg "zip" = none) (Tm : mg "sum" = none) (C : Cn mg) (ML : ∃ t, mg "MOST_IN_LAYOUT" = some (.int 5 t)) (TC : ThC K Ct) (LC : LyC K CL) (OD : Odd K Ct CL) (gT : mg "Thing" = some (.ref Ct)) (gL : mg "Layout" = some (.ref CL)) (mk : PySem.W.makesIn K Ct = true) (mkL : PySem.W.makesIn K CL = true) (kT : PySem.W.keepIn K (.ref Ct) = true) (kL : PySem.W.keepIn K (.ref CL) = true) (hfa : mg "law" = some (.ref fa)) (FL : Dn K mg "law" s_law) (D_cd : Dd K mg) (D_is_integer : Dn K mg "is_integer" (top 18)) (D_is_integer_from : Dn K mg "is_integer_from" (top 19)) (D_is_list : Dn K mg "is_list" (top 20)) (D_is_filled_list : Dn K mg "is_filled_list" (top 21)) (D_is_name : Dn K mg "is_name" (top 22)) (D_is_answer : Dn K mg "is_answer" (top 23)) (D_is_entry : Dn K mg "is_entry" (top 24)) (D_check_limit : Dn K mg "check_limit" (top 28)) (D_is_row : Dn K mg "is_row" (top 30)) (D_check_rows : Dn K mg "check_rows" (top 31)) (D_is_hand : Dn K mg "is_hand" (top 32)) (D_ck_hand : Dn K mg "check_hand" (top 33)) (D_made : Dn K mg "made_thing" (top 36)) (D_is_state : Dn K mg "is_state" (top 38)) (D_check_state : Dn K mg "check_state" (top 39)) (D_team : Dn K mg "check_deeds_of_team" (top 44)) (D_sortp : Dn K mg "sorted_places" (top 45)) (D_dat : Dn K mg "deeds_at" (top 46)) (D_pot : Dn K mg "_law_pot" (top 48)) (D_draw : Dn K mg "_law_draw" (top 49)) (D_pick : Dn K mg "_law_pick" (top 50)) (D_names : Dn K mg "_law_names" (top 51)) (D_anyr : Dn K mg "_law_any_rows" (top 52)) (D_known : Dn K mg "_law_known_rows" (top 53)) (D_model : Dn K mg "_law_model" (top 54)) (D_lthing : Dn K mg "_law_thing" (top 55)) (D_lteams : Dn K mg "_law_teams" (top 56)) (D_lnamed : Dn K mg "_law_named" (top 57)) (D_lmixed : Dn K mg "_law_mixed" (top 58)) (D_ldue : Dn K mg "_law_due" (top 59)) (D_ltold : Dn K mg "_law_told" (top 60)) (D_lspoilt : Dn K mg "_law_spoilt" (top 61)) (D_lother : Dn K mg "_law_otherwise" (top 62)) (D_leqr : Dn K mg "_law_equal_right" (top 63)) (D_lright : Dn K mg "_law_right" (top 64)) (M_t_init : Mh K Ct "__init__" "Thing.__init__" (inClass (top 35) 0)) (M_t_rows : Mh K Ct "rows" "Thing.rows" (inClass (top 35) 3)) (M_t_ren : Mh K Ct "renamed" "Thing.renamed" (inClass (top 35) 9)) (M_t_repr : Mh K Ct "__repr__" "Thing.__repr__" (inClass (top 35) 15)) (M_t_eq : Mh K Ct "__eq__" "Thing.__eq__" (inClass (top 35) 14)) (M_t_len : Mh K Ct "__len__" "Thing.__len__" (inClass (top 35) 12)) (M_t_has : Mh K Ct "__contains__" "Thing.__contains__" (inClass (top 35) 13)) (M_l_init : Mh K CL "__init__" "Layout.__init__" (inClass (top 43) 0)) (M_l_deed : Mh K CL "deed" "Layout.deed" (inClass (top 43) 6)) (M_l_team : Mh K CL "team" "Layout.team" (inClass (top 43) 7)) (M_l_len : Mh K CL "__len__" "Layout.__len__" (inClass (top 43) 21)) (M_l_eq : Mh K CL "__eq__" "Layout.__eq__" (inClass (top 43) 22)) (M_l_repr : Mh K CL "__repr__" "Layout.__repr__" (inClass (top 43) 23)) (P_deeds : Ph K Ct "deeds" "Thing.deeds" (inClass (top 35) 1)) (P_thing : Ph K CL "thing" "Layout.thing" (inClass (top 43) 1)) (P_state : Ph K CL "state" "Layout.state" (inClass (top 43) 2)) (P_first : Ph K CL "first" "Layout.first" (inClass (top 43) 3)) (P_second : Ph K CL "second" "Layout.second" (inClass (top 43) 4)) (P_hands : Ph K CL "hands" "Layout.hands" (inClass (top 43) 5)) :
    ∃ fd : FuncData, (∀ (s : Shared) (v : Value), BindsTo s fd ⟨[v], []⟩ [("_law_script", v)]) ∧ ∀ base : Heap, FnG P w K mg base 13 fa fd ["_law_script"] (spLaw K) := by
  obtain ⟨f0, e0, fd, FL⟩ := FL
  have e := hfa.symm.trans e0
  cases e
  refine ⟨fd, fun s v => ?_, fun base => ?_⟩
  · obtain ⟨oc, od, kV, doc, pm, an, cdv, ct, osl, rfl, lk, hc⟩ := FL.ex
    exact .of_eq rfl
  have c_is_integer := cl_mk (P := P) (w := w) (base := base) D_is_integer (fun f fd F => ok_is_integer F T C) (fun _ _ _ _ _ _ us hl => match us, hl with | [_], _ => rfl)
  have c_is_integer_from := cl_mk (P := P) (w := w) (base := base) D_is_integer_from (fun f fd F => ok_is_integer_from F T C c_is_integer) (fun _ _ _ _ _ _ us hl => match us, hl with | [_, _, _], _ => rfl)
  have c_is_list := cl_mk (P := P) (w := w) (base := base) D_is_list (fun f fd F => ok_is_list F T C) (fun _ _ _ _ _ _ us hl => match us, hl with | [_], _ => rfl)
  have c_is_filled_list := cl_mk (P := P) (w := w) (base := base) D_is_filled_list (fun f fd F => ok_is_filled_list F T C c_is_list) (fun _ _ _ _ _ _ us hl => match us, hl with | [_], _ => rfl)
  have c_is_name := cl_mk (P := P) (w := w) (base := base) D_is_name (fun f fd F => ok_is_name F T C) (fun _ _ _ _ _ _ us hl => match us, hl with | [_], _ => rfl)
  have c_is_answer := cl_mk (P := P) (w := w) (base := base) D_is_answer (fun f fd F => ok_is_answer F T C c_is_integer_from) (fun _ _ _ _ _ _ us hl => match us, hl with | [_], _ => rfl)
  have c_is_entry := cl_mk (P := P) (w := w) (base := base) D_is_entry (fun f fd F => ok_is_entry F T C c_is_answer c_is_integer_from) (fun _ _ _ _ _ _ us hl => match us, hl with | [_, _], _ => rfl)
  have c_check_limit := cl_mk (P := P) (w := w) (base := base) D_check_limit (fun f fd F => ok_check_limit F T C) (fun _ _ _ _ _ _ us hl => match us, hl with | [_, _, _], _ => rfl)
  have c_is_row := cl_mk (P := P) (w := w) (base := base) D_is_row (fun f fd F => ok_is_row F T C c_is_list c_is_entry) (fun _ _ _ _ _ _ us hl => match us, hl with | [_, _, _], _ => rfl)
  have c_check_rows := cl_mk (P := P) (w := w) (base := base) D_check_rows (fun f fd F => ok_check_rows F T c_is_filled_list c_is_row) (fun _ _ _ _ _ _ us hl => match us, hl with | [_, _], _ => rfl)
  have c_check_deeds := deeds_mk (P := P) (w := w) (base := base) D_cd T c_is_filled_list c_is_name
  obtain ⟨g_t_init, fd_t_init, at_t_init, fn_t_init, kp_t_init, fi_t_init, F_t_init⟩ := M_t_init
  obtain ⟨g_t_rows, fd_t_rows, at_t_rows, fn_t_rows, kp_t_rows, fi_t_rows, F_t_rows⟩ := M_t_rows
  obtain ⟨g_t_ren, fd_t_ren, at_t_ren, fn_t_ren, kp_t_ren, fi_t_ren, F_t_ren⟩ := M_t_ren
  obtain ⟨g_t_repr, fd_t_repr, at_t_repr, fn_t_repr, kp_t_repr, fi_t_repr, F_t_repr⟩ := M_t_repr
  obtain ⟨g_t_eq, fd_t_eq, at_t_eq, fn_t_eq, kp_t_eq, fi_t_eq, F_t_eq⟩ := M_t_eq
  obtain ⟨g_t_len, fd_t_len, at_t_len, fn_t_len, kp_t_len, fi_t_len, F_t_len⟩ := M_t_len
  obtain ⟨g_t_has, fd_t_has, at_t_has, fn_t_has, kp_t_has, fi_t_has, F_t_has⟩ := M_t_has
  obtain ⟨g_l_init, fd_l_init, at_l_init, fn_l_init, kp_l_init, fi_l_init, F_l_init⟩ := M_l_init
  obtain ⟨g_l_deed, fd_l_deed, at_l_deed, fn_l_deed, kp_l_deed, fi_l_deed, F_l_deed⟩ := M_l_deed
  obtain ⟨g_l_team, fd_l_team, at_l_team, fn_l_team, kp_l_team, fi_l_team, F_l_team⟩ := M_l_team
  obtain ⟨g_l_len, fd_l_len, at_l_len, fn_l_len, kp_l_len, fi_l_len, F_l_len⟩ := M_l_len
  obtain ⟨g_l_eq, fd_l_eq, at_l_eq, fn_l_eq, kp_l_eq, fi_l_eq, F_l_eq⟩ := M_l_eq
  obtain ⟨g_l_repr, fd_l_repr, at_l_repr, fn_l_repr, kp_l_repr, fi_l_repr, F_l_repr⟩ := M_l_repr
  obtain ⟨p_deeds, gp_deeds, fdp_deeds, po_deeds, FP_deeds⟩ := P_deeds
  obtain ⟨p_thing, gp_thing, fdp_thing, po_thing, FP_thing⟩ := P_thing
  obtain ⟨p_state, gp_state, fdp_state, po_state, FP_state⟩ := P_state
  obtain ⟨p_first, gp_first, fdp_first, po_first, FP_first⟩ := P_first
  obtain ⟨p_second, gp_second, fdp_second, po_second, FP_second⟩ := P_second
  obtain ⟨p_hands, gp_hands, fdp_hands, po_hands, FP_hands⟩ := P_hands
  have o_len : K21.OwnM P w K mg base Ct 1 "__len__" ["self"] (spTLen K Ct) := ⟨g_t_len, fd_t_len, ok_thing_len F_t_len T C TC, at_t_len, fn_t_len, F_t_len.binds (fun _ _ _ _ _ _ us hl => match us, hl with | [_], _ => rfl)⟩
  have o_has : K21.OwnM P w K mg base Ct 1 "__contains__" ["self", "value"] (spTHas K Ct) := ⟨g_t_has, fd_t_has, ok_thing_has F_t_has T C TC, at_t_has, fn_t_has, F_t_has.binds (fun _ _ _ _ _ _ us hl => match us, hl with | [_, _], _ => rfl)⟩
  have o_eq : K21.OwnM P w K mg base Ct 1 "__eq__" ["self", "other"] (spTEq K Ct) := ⟨g_t_eq, fd_t_eq, ok_thing_eq F_t_eq T TC gT OD.zt.ins.me, at_t_eq, fn_t_eq, F_t_eq.binds (fun _ _ _ _ _ _ us hl => match us, hl with | [_, _], _ => rfl)⟩
  have kI := ok_thing_init (P := P) (w := w) (base := base) F_t_init T C TC c_check_deeds c_check_rows c_check_limit
  have m_mk : C8.Mak P w K mg base 7 "Thing" Ct (spThingI K Ct) [] := ⟨g_t_init, fd_t_init, _, [], ⟨mk, at_t_init, fn_t_init, kT⟩, kI, gT, F_t_init.binds (fun _ _ _ _ _ _ us hl => match us, hl with | [_, _, _], _ => rfl), .nil⟩
  have m_thing : C8.Mak P w K mg base 7 "Thing" Ct (spI (CM Ct CL) 0 [.bor, .bor] fThing) [] := ⟨g_t_init, fd_t_init, _, [], ⟨mk, at_t_init, fn_t_init, kT⟩, kI.imp (fun _ _ _ _ h => thing_d h), gT, F_t_init.binds (fun _ _ _ _ _ _ us hl => match us, hl with | [_, _, _], _ => rfl), .nil⟩
  have c_is_hand := cl_mk (P := P) (w := w) (base := base) D_is_hand (fun f fd F => ok_is_hand F c_is_integer_from) (fun _ _ _ _ _ _ us hl => match us, hl with | [_, _], _ => rfl)
  have c_ck_hand := cl_mk (P := P) (w := w) (base := base) D_ck_hand (fun f fd F => ok_ck_hand F c_is_hand) (fun _ _ _ _ _ _ us hl => match us, hl with | [_, _], _ => rfl)
  have c_made := cl_mk (P := P) (w := w) (base := base) D_made (fun f fd F => ok_made F TC m_mk) (fun _ _ _ _ _ _ us hl => match us, hl with | [_, _], _ => rfl)
  have c_is_state := cl_mk (P := P) (w := w) (base := base) D_is_state (fun f fd F => ok_is_state F T C TC c_is_integer_from o_len) (fun _ _ _ _ _ _ us hl => match us, hl with | [_, _], _ => rfl)
  have c_check_state := cl_mk (P := P) (w := w) (base := base) D_check_state (fun f fd F => ok_check_state F T C TC c_is_state) (fun _ _ _ _ _ _ us hl => match us, hl with | [_, _], _ => rfl)
  have c_team := cl_mk (P := P) (w := w) (base := base) D_team (fun f fd F => ok_team F T TC c_is_filled_list o_has) (fun _ _ _ _ _ _ us hl => match us, hl with | [_, _], _ => rfl)
  have m_rows : C8.Met P w K mg base 1 Ct "rows" (spTRows K Ct) [] := ⟨g_t_rows, fd_t_rows, _, [], TC.cl, ⟨at_t_rows, fn_t_rows, kp_t_rows⟩, ok_thing_rows F_t_rows T C TC, F_t_rows.binds (fun _ _ _ _ _ _ us hl => match us, hl with | [_], _ => rfl), .nil⟩
  have p_d : K21.PrpM P w K mg base Ct 1 "deeds" (spTDeeds K Ct) := ⟨p_deeds, gp_deeds, fdp_deeds, po_deeds, ok_thing_deeds FP_deeds T C TC, FP_deeds.binds (fun _ _ _ _ _ _ us hl => match us, hl with | [_], _ => rfl)⟩
  have p_T_deeds : Dl.PrpM P w K mg base Ct 1 "deeds" (spN (CM Ct CL) [.bor] fTDeeds) := ⟨p_deeds, gp_deeds, fdp_deeds, po_deeds, okd_dl_tdeeds FP_deeds T TC, FP_deeds.binds (fun _ _ _ _ _ _ us hl => match us, hl with | [_], _ => rfl)⟩
  have m_repr : K21.ReprM P w K mg base Ct := ⟨g_t_repr, fd_t_repr, ok_thing_repr F_t_repr TC, at_t_repr, fn_t_repr, F_t_repr.binds (fun _ _ _ _ _ _ us hl => match us, hl with | [_], _ => rfl)⟩
  have m_T_renamed : C8.Met P w K mg base 10 Ct "renamed" (spD (CM Ct CL) [.bor, .bor] fRen) [] := ⟨g_t_ren, fd_t_ren, _, [], TC.cl, ⟨at_t_ren, fn_t_ren, kp_t_ren⟩, (ok_renamed F_t_ren T Td TC o_has c_is_name m_rows c_made).imp (fun _ _ _ _ h => ren_d h), F_t_ren.binds (fun _ _ _ _ _ _ us hl => match us, hl with | [_, _], _ => rfl), .nil⟩
  have c_sortp := cl_mk (P := P) (w := w) (base := base) D_sortp (fun f fd F => ok_sortp F T Ts TC p_d) (fun _ _ _ _ _ _ us hl => match us, hl with | [_, _], _ => rfl)
  have c_dat := cl_mk (P := P) (w := w) (base := base) D_dat (fun f fd F => ok_dat F T TC p_d) (fun _ _ _ _ _ _ us hl => match us, hl with | [_, _], _ => rfl)
  have d_dl_dat := cl_mk (P := P) (w := w) (base := base) D_dat (fun f fd F => okd_dl_dat (CL := CL) F T p_T_deeds TC LC) (fun _ _ _ _ _ _ us hl => match us, hl with | [_, _], _ => rfl)
  have m_layK : MakL P w K mg base CL (spI (CM Ct CL) 1 [.full, .bor, .bor, .bor] fLay) := ⟨g_l_init, fd_l_init, ⟨mkL, at_l_init, fn_l_init, kL⟩, (ok_layi F_l_init T ML LC c_check_state c_team c_check_limit c_sortp).imp (fun _ _ _ _ h => lay_d h), gL, F_l_init.binds (fun _ _ _ _ _ _ us hl => match us, hl with | [_, _, _, _, _], _ => rfl), kb_four F_l_init (fun _ _ _ _ _ _ _ _ _ _ _ => rfl)⟩
  have m_lay := m_layK.mak
  have p_L_thing : Dl.PrpM P w K mg base CL 1 "thing" (spD (CM Ct CL) [.bor] (fLy fun ns rs n ps qs P => P (thingX ns rs))) := ⟨p_thing, gp_thing, fdp_thing, po_thing, okd_dl_lth FP_thing T TC LC, FP_thing.binds (fun _ _ _ _ _ _ us hl => match us, hl with | [_], _ => rfl)⟩
  have p_L_state : Dl.PrpM P w K mg base CL 1 "state" (spD (CM Ct CL) [.bor] (fLy fun ns rs n ps qs P => P (.int (n : Nat)))) := ⟨p_state, gp_state, fdp_state, po_state, okd_dl_lst FP_state T TC LC, FP_state.binds (fun _ _ _ _ _ _ us hl => match us, hl with | [_], _ => rfl)⟩
  have p_L_first : Dl.PrpM P w K mg base CL 4 "first" (spN (CM Ct CL) [.bor] (fLy fun ns rs n ps qs P => (∀ p ∈ ps, p < ns.length) ∧ ps.length ≤ 1000 ∧ P (namesX (nmP ns ps)))) := ⟨p_first, gp_first, fdp_first, po_first, okd_dl_lfs FP_first T d_dl_dat TC LC, FP_first.binds (fun _ _ _ _ _ _ us hl => match us, hl with | [_], _ => rfl)⟩
  have p_L_second : Dl.PrpM P w K mg base CL 4 "second" (spN (CM Ct CL) [.bor] (fLy fun ns rs n ps qs P => (∀ p ∈ qs, p < ns.length) ∧ qs.length ≤ 1000 ∧ P (namesX (nmP ns qs)))) := ⟨p_second, gp_second, fdp_second, po_second, okd_dl_lsn FP_second T d_dl_dat TC LC, FP_second.binds (fun _ _ _ _ _ _ us hl => match us, hl with | [_], _ => rfl)⟩
  have p_L_hands : Dl.PrpM P w K mg base CL 1 "hands" (spD (CM Ct CL) [.bor] (fLy fun ns rs n ps qs P => P (.int (ps.length + qs.length : Nat)))) := ⟨p_hands, gp_hands, fdp_hands, po_hands, okd_dl_lhd FP_hands T TC LC, FP_hands.binds (fun _ _ _ _ _ _ us hl => match us, hl with | [_], _ => rfl)⟩
  have m_L_len : Dl.OwnM P w K mg base CL 1 "__len__" ["self"] (spD (CM Ct CL) [.bor] (fLy fun ns rs n ps qs P => ps.length + qs.length ≤ 1000 ∧ P (.int (ps.length + qs.length : Nat)))) := ⟨g_l_len, fd_l_len, okd_dl_lln F_l_len T TC LC, at_l_len, fn_l_len, F_l_len.binds (fun _ _ _ _ _ _ us hl => match us, hl with | [_], _ => rfl)⟩
  have d_check_hand := cl_G (sp' := spD (CM Ct CL) [.bor, .bor] fCHand) c_ck_hand (fun _ _ _ _ h => chand_d _ h)
  have m_L_deed : Dl.Met1 P w K mg base 5 CL "deed" "hand" (spD (CM Ct CL) [.bor, .bor] fLDeed) := ⟨g_l_deed, fd_l_deed, LC.cl, ⟨at_l_deed, fn_l_deed, kp_l_deed⟩, okd_dl_ldeed F_l_deed T d_check_hand m_L_len p_T_deeds TC LC, F_l_deed.binds (fun _ _ _ _ _ _ us hl => match us, hl with | [_, _], _ => rfl), kb_oneM F_l_deed (fun _ _ _ _ _ _ _ _ => rfl)⟩
  have m_L_team : Dl.Met1 P w K mg base 5 CL "team" "hand" (spD (CM Ct CL) [.bor, .bor] fLTeam) := ⟨g_l_team, fd_l_team, LC.cl, ⟨at_l_team, fn_l_team, kp_l_team⟩, okd_dl_lteam F_l_team T d_check_hand m_L_len TC LC, F_l_team.binds (fun _ _ _ _ _ _ us hl => match us, hl with | [_, _], _ => rfl), kb_oneM F_l_team (fun _ _ _ _ _ _ _ _ => rfl)⟩
  have m_T_eq : Dl.OwnM P w K mg base Ct 1 "__eq__" ["self", "other"] (spD (CM Ct CL) [.bor, .bor] (fTEq K Ct CL)) := ⟨g_t_eq, fd_t_eq, (ok_thing_eq F_t_eq T TC gT OD.zt.ins.me).imp (fun _ _ _ _ h => teq_d OD.zt h), at_t_eq, fn_t_eq, F_t_eq.binds (fun _ _ _ _ _ _ us hl => match us, hl with | [_, _], _ => rfl)⟩
  have m_L_eq : Dl.OwnM P w K mg base CL 2 "__eq__" ["self", "other"] (spD (CM Ct CL) [.bor, .bor] (fLEq K Ct CL)) := ⟨g_l_eq, fd_l_eq, (ok_ly_eq F_l_eq T LC OD.zt gL OD.zl.ins.me o_eq).imp (fun _ _ _ _ h => leq_d OD.zl h), at_l_eq, fn_l_eq, F_l_eq.binds (fun _ _ _ _ _ _ us hl => match us, hl with | [_, _], _ => rfl)⟩
  have q_f : K21.PrpM P w K mg base CL 4 "first" (spLyDs K Ct CL true) := ⟨p_first, gp_first, fdp_first, po_first, ok_ly_fs FP_first c_dat LC, FP_first.binds (fun _ _ _ _ _ _ us hl => match us, hl with | [_], _ => rfl)⟩
  have q_s : K21.PrpM P w K mg base CL 4 "second" (spLyDs K Ct CL false) := ⟨p_second, gp_second, fdp_second, po_second, ok_ly_sn FP_second c_dat LC, FP_second.binds (fun _ _ _ _ _ _ us hl => match us, hl with | [_], _ => rfl)⟩
  have m_L_repr : Dl.ReprM P w K mg base CL 6 (spD (CM Ct CL) [.bor] fLRepr) := ⟨g_l_repr, fd_l_repr, fng_imp (ok_ly_repr F_l_repr LC m_repr q_f q_s) (fun _ _ _ _ h => lrepr_d h), at_l_repr, fn_l_repr, F_l_repr.binds (fun _ _ _ _ _ _ us hl => match us, hl with | [_], _ => rfl)⟩
  have c_pot := cl_mk (P := P) (w := w) (base := base) D_pot (fun f fd F => ok_pot F T) (fun _ _ _ _ _ _ us hl => match us, hl with | [_, _], _ => rfl)
  have c_draw := cl_mk (P := P) (w := w) (base := base) D_draw (fun f fd F => ok_draw F T) (fun _ _ _ _ _ _ us hl => match us, hl with | [_, _], _ => rfl)
  have c_pick := cl_mk (P := P) (w := w) (base := base) D_pick (fun f fd F => ok_pick F T c_draw) (fun _ _ _ _ _ _ us hl => match us, hl with | [_, _], _ => rfl)
  have c_names := cl_mk (P := P) (w := w) (base := base) D_names (fun f fd F => ok_names F T c_pick) (fun _ _ _ _ _ _ us hl => match us, hl with | [_, _], _ => rfl)
  have c_anyr := cl_mk (P := P) (w := w) (base := base) D_anyr (fun f fd F => ok_anyr F T c_draw c_pick) (fun _ _ _ _ _ _ us hl => match us, hl with | [_, _, _], _ => rfl)
  have c_known := cl_mk (P := P) (w := w) (base := base) D_known (fun f fd F => ok_known F T c_draw) (fun _ _ _ _ _ _ us hl => match us, hl with | [_, _, _], _ => rfl)
  have c_model := cl_mk (P := P) (w := w) (base := base) D_model (fun f fd F => ok_model F T c_draw c_pick c_names c_known c_anyr) (fun _ _ _ _ _ _ us hl => match us, hl with | [_, _, _], _ => rfl)
  have d_draw := cl_G (sp' := spD (CM Ct CL) [.pot, .bor] fDraw) c_draw (fun _ _ _ _ h => draw_d _ h)
  have d_model := cl_G (sp' := spD (CM Ct CL) [.pot, .bor, .bor] fModel) c_model (fun _ _ _ _ h => model_d _ h)
  have d_dl_thing := clg_mk (P := P) (w := w) (base := base) D_lthing (fun f fd F => okd_dl_thing (Ct := Ct) (CL := CL) F T m_thing) (fun _ _ _ _ _ _ us hl => match us, hl with | [_], _ => rfl)
  have d_dl_teams := clg_mk (P := P) (w := w) (base := base) D_lteams (fun f fd F => okd_dl_teams (Ct := Ct) (CL := CL) F T Ts d_draw) (fun _ _ _ _ _ _ us hl => match us, hl with | [_, _, _], _ => rfl)
  have d_dl_named := clg_mk (P := P) (w := w) (base := base) D_lnamed (fun f fd F => okd_dl_named (Ct := Ct) (CL := CL) F T) (fun _ _ _ _ _ _ us hl => match us, hl with | [_, _], _ => rfl)
  have d_dl_mixed := clg_mk (P := P) (w := w) (base := base) D_lmixed (fun f fd F => okd_dl_mixed (Ct := Ct) (CL := CL) F T d_draw) (fun _ _ _ _ _ _ us hl => match us, hl with | [_, _], _ => rfl)
  have d_dl_due := clg_mk (P := P) (w := w) (base := base) D_ldue (fun f fd F => okd_dl_due (Ct := Ct) (CL := CL) F T Tm d_dl_named) (fun _ _ _ _ _ _ us hl => match us, hl with | [_, _], _ => rfl)
  have d_dl_told := clg_mk (P := P) (w := w) (base := base) D_ltold (fun f fd F => okd_dl_told F T p_L_hands m_L_len p_L_second p_L_first p_L_state m_L_repr m_L_team m_L_deed TC LC) (fun _ _ _ _ _ _ us hl => match us, hl with | [_], _ => rfl)
  have d_dl_spoilt := clg_mk (P := P) (w := w) (base := base) D_lspoilt (fun f fd F => okd_dl_spoilt F T p_L_second p_L_first TC LC) (fun _ _ _ _ _ _ us hl => match us, hl with | [_], _ => rfl)
  have d_dl_pick := clg_mk (P := P) (w := w) (base := base) D_pick (fun f fd F => okd_dl_pick (Ct := Ct) (CL := CL) F T d_draw) (fun _ _ _ _ _ _ us hl => match us, hl with | [_, _], _ => rfl)
  have d_dl_other := clg_mk (P := P) (w := w) (base := base) D_lother (fun f fd F => okd_dl_other (Ct := Ct) (CL := CL) F T Ts d_dl_pick) (fun _ _ _ _ _ _ us hl => match us, hl with | [_, _, _], _ => rfl)
  have d_dl_eqright := clg_mk (P := P) (w := w) (base := base) D_leqr (fun f fd F => okd_dl_eqright F T Td Tz d_dl_thing d_dl_other m_lay d_dl_named m_L_eq d_dl_told d_dl_due p_L_second p_L_first m_thing m_T_renamed m_L_repr TC LC OD) (fun _ _ _ _ _ _ us hl => match us, hl with | [_, _, _, _], _ => rfl)
  have d_dl_right := clg_mk (P := P) (w := w) (base := base) D_lright (fun f fd F => okd_dl_right F T d_model d_dl_thing d_dl_teams d_dl_mixed d_dl_named m_lay m_layK d_dl_told d_dl_due p_L_thing m_T_eq m_L_eq d_dl_spoilt d_dl_eqright TC LC OD) (fun _ _ _ _ _ _ us hl => match us, hl with | [_], _ => rfl)
  have c_right := clg_imp (sp' := spRight) d_dl_right (fun _ _ _ _ h => right_d _ h)
  exact ok_law FL T c_pot c_right
end
/-! ### the facts, taken out -/
theorem facts {w : World} {K : PySem.W.Frag} {h : Heap} {mg : Str → Option Value} {fa : Addr} (X : K.In h) (G : h.Ns mainGlobals mg) (hfa : mg "law" = some (.ref fa)) (c : obsK K = valK) :
    ∃ fd : FuncData, (∀ (s : Shared) (v : Value), BindsTo s fd ⟨[v], []⟩ [("_law_script", v)]) ∧ ∀ base : Heap, FnG pr w K mg base 13 fa fd ["_law_script"] (spLaw K) := by
  unfold obsK valK obs1 val1 obs2 val2 at c
  simp only [Prod.mk.injEq] at c
  obtain ⟨⟨t1, t2, t3, ⟨d1, d2, d3, d4, d5⟩, t5, t6, ⟨e1, e2, e3, e4, e5, e6⟩, ⟨f1, f2, f3, f4, f5, f6⟩, ⟨g1, g2, g3, g4, g5, g6⟩, ⟨h1, h2, h3⟩⟩, u1, u2, ⟨v1, v2, v3, v4, v5, v6⟩, ⟨w1, w2, w3, w4, w5, w6, w7⟩, ⟨y1, y2⟩, u7⟩ := c
  have b : ∀ i, i < 21 → mg (bn i) = none := fun i hi => PySem.W.mg_none_of X G (tab_of t1 i hi)
  have T : Bl mg := ⟨b 0 (by decide), b 1 (by decide), b 2 (by decide), b 3 (by decide), b 4 (by decide), b 5 (by decide), b 6 (by decide), b 7 (by decide), b 8 (by decide), b 9 (by decide), b 10 (by decide), b 11 (by decide), b 12 (by decide), b 13 (by decide), b 14 (by decide), b 15 (by decide), b 16 (by decide)⟩
  have cc : ∀ i, i < 6 → cv K (cn i) = cvl i := fun i hi => tab_of t2 i hi
  have C : Cn mg := ⟨cv_str X G (cc 0 (by decide)), cv_int X G (cc 1 (by decide)), cv_int X G (cc 2 (by decide)), cv_int X G (cc 3 (by decide)), cv_int X G (cc 4 (by decide))⟩
  have D : ∀ i, i < 36 → Dn K mg (dn i) (ds i) := fun i hi => by
    have e := tab_of t3 i hi
    simp only [Prod.mk.injEq] at e
    exact ⟨_, PySem.W.mg_of X G (He.eqO_ok e.1), fnS_ok e.2.2.1 e.2.2.2 e.2.1⟩
  have M : ∀ i, i < 7 → Mh K (CT K) (mn i) (mq i) (ms i) := fun i hi => by
    have e := tab_of t5 i hi
    simp only [Prod.mk.injEq] at e
    obtain ⟨fd, F⟩ := fnS_ok e.2.2.2.2.1 e.2.2.2.2.2 e.2.2.1
    exact ⟨_, fd, He.eqO_ok e.1, e.2.1, e.2.2.1, e.2.2.2.1, F⟩
  have Pp : ∀ i, i < 1 → Ph K (CT K) (pn i) (pq i) (pps i) := fun i hi => by
    have e := tab_of t6 i hi
    simp only [Prod.mk.injEq] at e
    obtain ⟨fd, F⟩ := fnS_ok e.2.2.2.2.2.1 e.2.2.2.2.2.2 e.2.2.2.2.1
    exact ⟨_, _, fd, ⟨He.eqO_ok e.1, e.2.1, e.2.2.1, gt_ok e.2.2.2.1⟩, F⟩
  have Dc : Dd K mg := by
    obtain ⟨fd, F⟩ := fnD_ok d3 d4 d2 d5
    exact ⟨_, fd, PySem.W.mg_of X G (He.eqO_ok d1), d2, F⟩
  have cl : Cls K (CT K) := ⟨e2, e3, e4, f1⟩
  have TC : ThC K (CT K) := ⟨cl, f2, f3⟩
  have Z : ThF K (CT K) := ⟨⟨cl, f4, f6, g1, g2, g3⟩, h1, h2, h3, g4, g5, g6, f5⟩
  have M2 : ∀ i, i < 6 → Mh K (CLy K) (mn2 i) (mq2 i) (ms2 i) := fun i hi => by
    have e := tab_of u1 i hi
    simp only [Prod.mk.injEq] at e
    obtain ⟨fd, F⟩ := fnS_ok e.2.2.2.2.1 e.2.2.2.2.2 e.2.2.1
    exact ⟨_, fd, He.eqO_ok e.1, e.2.1, e.2.2.1, e.2.2.2.1, F⟩
  have Pp2 : ∀ i, i < 5 → Ph K (CLy K) (pn2 i) (pq2 i) (pps2 i) := fun i hi => by
    have e := tab_of u2 i hi
    simp only [Prod.mk.injEq] at e
    obtain ⟨fd, F⟩ := fnS_ok e.2.2.2.2.2.1 e.2.2.2.2.2.2 e.2.2.2.2.1
    exact ⟨_, _, fd, ⟨He.eqO_ok e.1, e.2.1, e.2.2.1, gt_ok e.2.2.2.1⟩, F⟩
  have clL : Cls K (CLy K) := ⟨v2, v3, v4, w1⟩
  have LC : LyC K (CLy K) := ⟨clL, w2, w3, w4, w5⟩
  have nf : ∀ i, i < 7 → PySem.W.notFirst K (CLy K) (ov K i) = true ∧ PySem.W.kitOne K (ov K i) (.ref (CLy K)) = some false := fun i hi => by
    have e := tab_of u7 i hi
    simp only [Prod.mk.injEq] at e
    exact e
  have OD : Odd K (CT K) (CLy K) := ⟨Z, ⟨⟨clL, w6, f6, g1, y1, y2⟩, (nf 0 (by decide)).1, (nf 2 (by decide)).1, (nf 4 (by decide)).1, (nf 0 (by decide)).2, (nf 2 (by decide)).2, (nf 4 (by decide)).2, w7⟩, fun u hu => by
    simp only [List.mem_cons, List.mem_nil_iff, or_false] at hu
    rcases hu with rfl | rfl | rfl | rfl | rfl | rfl | rfl
    · exact nf 0 (by decide)
    · exact nf 1 (by decide)
    · exact nf 2 (by decide)
    · exact nf 3 (by decide)
    · exact nf 4 (by decide)
    · exact nf 5 (by decide)
    · exact nf 6 (by decide)⟩
  exact all_mk T (b 17 (by decide)) (b 18 (by decide)) (b 19 (by decide)) (b 20 (by decide)) C (cv_int X G (cc 5 (by decide))) TC LC OD (PySem.W.mg_of X G (He.eqO_ok e1)) (PySem.W.mg_of X G (He.eqO_ok v1)) e5 v5 e6 v6 hfa (D 35 (by decide)) Dc (D 0 (by decide)) (D 1 (by decide)) (D 2 (by decide)) (D 3 (by decide)) (D 4 (by decide)) (D 5 (by decide)) (D 6 (by decide)) (D 7 (by decide)) (D 8 (by decide)) (D 9 (by decide)) (D 10 (by decide)) (D 11 (by decide)) (D 12 (by decide)) (D 13 (by decide)) (D 14 (by decide)) (D 15 (by decide)) (D 16 (by decide)) (D 17 (by decide)) (D 18 (by decide)) (D 19 (by decide)) (D 20 (by decide)) (D 21 (by decide)) (D 22 (by decide)) (D 23 (by decide)) (D 24 (by decide)) (D 25 (by decide)) (D 26 (by decide)) (D 27 (by decide)) (D 28 (by decide)) (D 29 (by decide)) (D 30 (by decide)) (D 31 (by decide)) (D 32 (by decide)) (D 33 (by decide)) (D 34 (by decide)) (M 0 (by decide)) (M 1 (by decide)) (M 2 (by decide)) (M 3 (by decide)) (M 4 (by decide)) (M 5 (by decide)) (M 6 (by decide)) (M2 0 (by decide)) (M2 1 (by decide)) (M2 2 (by decide)) (M2 3 (by decide)) (M2 4 (by decide)) (M2 5 (by decide)) (Pp 0 (by decide)) (Pp2 0 (by decide)) (Pp2 1 (by decide)) (Pp2 2 (by decide)) (Pp2 3 (by decide)) (Pp2 4 (by decide))
end K21

open PySem PySem.W PySem.Calls PyProof.Rows in
theorem PySem.Challenge.cw_settlesfirst_k21_whole_layouts_told_holds : PySem.Challenge.rw_settlesfirst_k21_whole_layouts_told.Holds := by
  w_on; o_law
  refine HandSHeadRun.head_any (r := OpenLaw.row PySem.Challenge.rw_settlesfirst_k21_whole_layouts_told) (q := view (OpenLaw.row PySem.Challenge.rw_settlesfirst_k21_whole_layouts_told).prog [65]) (H := K21.hk) (ob := K21.ob) (M := 30000) (loose := K21.lns) (d := HandSHeadRun.topDef (OpenLaw.row PySem.Challenge.rw_settlesfirst_k21_whole_layouts_told).prog 65) (kwd := []) K21.ob_eq
    (by kernel_rfl) (fun s => by kernel_rfl) K21.run (by kernel_rfl) (by kernel_rfl) (by kernel_rfl) (by rfl) (by first | assumption | decide +kernel) (by decide +kernel) ⟨rfl, rfl, rfl, rfl, rfl, by decide +kernel⟩ ?hw ?hc
  case hw => w_witness2
  case hc =>
    refine Cr.walkGE (l := PySem.Challenge.rw_settlesfirst_k21_whole_layouts_told) (n := 63) (k := 13) (x := "_law_script") rfl (by decide) (by kernel_rfl) ⟨rfl, by decide, by decide⟩ ?F
    intro w mg fa h Y G hmg0
    obtain ⟨K, KX, c⟩ := Y
    have hmg : mg ("law" : PySem.Str) = some (.ref fa) := by
      have e : (HandSHeadRun.topDef (OpenLaw.row PySem.Challenge.rw_settlesfirst_k21_whole_layouts_told).prog 65).name = ("law" : PySem.Str) := by kernel_rfl
      rw [← e]
      exact hmg0
    obtain ⟨fd, hb, hF⟩ := K21.facts (w := w) KX G hmg c
    exact ⟨K, fd, K21.spLaw K, KX, hb, fun H a ns hl _ hS => ⟨a, ns, rfl, hS, hl, fun _ => rfl⟩, fun base _ _ => hF base⟩

