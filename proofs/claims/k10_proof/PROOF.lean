import PyProof.Rows.All
import Wide.All
import OpenK.AllK
import Wide.FinOn
import HandS.ForMost
import HandS.ExcInit
import HandS.ExcIs
import KE.KExcInit
import KE.KExcSuper
import HandS.MakeKwOnly
import HandS.IsInst
import HandS.EndBits
import HandS.Conv
import HandS.Ends
import HandS.Iter
import HandS.Comp
import HandS.Dict
import HandS.List
import PySem.Challenge.RW_settlesfirst_k10_errors
import HandS.Walk
import KE.KStateDown
import HandS.Head0
import HandS.Head1
import HandS.Head2
import HandS.HeadEnd
import HandS.HeadHook1
set_option Elab.async false
set_option linter.all false
set_option maxRecDepth 100000
set_option maxHeartbeats 2000000
namespace PySem
namespace Xv
open PySem.W PySem.Calls PyProof.Rows
section
variable {M : Model} {A : Around} {E : Value → Shared → Prop} {h : Heap} {g : Array GenState} {d : Drawn} {t : Nat} {os : OsState}
variable {nm q : Str} {C N : Addr} {bs bm bmB : List Value} {hdct : Bool} {sn : List Str} {sub : List Value} {ab : Bool} {col : Option Bool} {dd : Option Addr} {k0 k1 k2 k3 k5 : Option Value} {B newId initId : String}
/-- the arguments that a class of exceptions is called with, keywords among them, pass the look ahead of its maker -/
theorem look_new (F : ExcBaseFacts B newId initId bmB) (hT : ∀ X : String, bm.contains (.type X) = bmB.contains (.type X)) {rest : List Value} {kw : List (Str × Value)} {Q : Unit → Shared → Prop}
    (hC : h.get? C = some (excClassObj nm q C N bs bm hdct sn sub ab col dd k0 k1 k2 k3 k5 newId)) (hq : Q () ⟨h, g, d, t, os⟩) : wpAny M A (checkBuiltinCall newId ⟨.ref C :: rest, kw⟩) Q E ⟨h, g, d, t, os⟩ := by
  have c1 : (Value.ref C :: bm).contains (.type B) = true := by
    rw [List.contains_cons, hT, F.hasB, Bool.or_true]
  have c2 := F.noStar
  simp only [checkBuiltinCall, F.newKind, F.newSplit, F.newRow]
  repeat (first
    | refine wpAny_loadPart_at hC ?_
    | (refine wpAny_isSubtype_exc hC ?_; rw [c1])
    | refine wpAny_staticBase_exc hC ?_
    | refine wpAny_madeBy_exc hC ?_
    | simp only [bne_self_eq_false, Bool.false_eq_true, if_false]
    | wp_step)
  exact hq
theorem look_tcall {rest : List Value} {kw : List (Str × Value)} {Q : Unit → Shared → Prop} (hC : h.get? C = some (excClassObj nm q C N bs bm hdct sn sub ab col dd k0 k1 k2 k3 k5 newId))
    (hq : Q () ⟨h, g, d, t, os⟩) : wpAny M A (checkBuiltinCall "type.__call__" ⟨.ref C :: rest, kw⟩) Q E ⟨h, g, d, t, os⟩ := by
  have f3 := tc_sub
  have hT : (⟨h, g, d, t, os⟩ : Shared).TypeIs (.ref C) "type" := ⟨_, hC, rfl⟩
  simp only [checkBuiltinCall, tc_kind, tc_split]
  repeat (any_goals (first
    | assumption
    | with_reducible refine wpAny_loadPart_at hC ?_
    | with_reducible refine wpAny_onRaise ?_
    | with_reducible refine wpAny_map ?_
    | wp_step))
end
section
variable {prog : Program} {w : World} {A : Around} {E : Value → Shared → Prop} {R : Result → Shared → Prop} {h : Heap} {g : Array GenState} {d : Drawn} {t : Nat} {os : OsState}
variable {nm q : Str} {C N : Addr} {bs bm bmB : List Value} {hdct : Bool} {sn : List Str} {sub : List Value} {ab : Bool} {col : Option Bool} {dd : Option Addr} {k0 k1 k2 k3 k5 : Option Value} {B newId initId : String}
/-- BaseException's maker, keywords or not -/
theorem new_kw (F : ExcBaseFacts B newId initId bmB) (hT : ∀ X : String, bm.contains (.type X) = bmB.contains (.type X)) {rest : List Value} {kw : List (Str × Value)}
    (hC : h.get? C = some (excClassObj nm q C N bs bm hdct sn sub ab col dd k0 k1 k2 k3 k5 newId))
    (hq : R (.ok (.ret (.ref (h.objs.size + 1)))) ⟨(h.push (kdv_tup rest)).push (HandSPX.excO C h.objs.size), g, d, t, os⟩) (hrest : rest.length ≤ sizeLine) :
    codeAny (model prog w) A (.builtin newId ⟨.ref C :: rest, kw⟩) R ⟨h, g, d, t, os⟩ := by
  have e0 := F.ends
  have c1 : (Value.ref C :: bm).contains (.type B) = true := by
    rw [List.contains_cons, hT, F.hasB, Bool.or_true]
  have c2 : (Value.ref C :: bm).contains (.type "AttributeError") = false := by
    rw [List.contains_cons, hT, F.noAttr]; rfl
  have c3 : (Value.ref C :: bm).contains (.type "NameError") = false := by
    rw [List.contains_cons, hT, F.noName]; rfl
  refine codeAny_builtinAt F.entry ?_
  unfold Builtin.«BaseException.__new__»
  refine wpAt_bind ?_
  show wpAt _ _ _ (stack >>= _) _ _ _
  refine wpAt_bind (wpAt_stack fun p below => wpAt_of_wpAny ?_)
  wp_walk
  refine wpAt_of_wpAny ?_
  rw [F.owner]
  repeat (first
    | with_reducible refine wpAny_madeHere_exc F.canon hC ?_
    | with_reducible refine wpAny_loadPart_at hC ?_
    | (with_reducible refine wpAny_isSubtype_exc hC ?_; first | rw [c1] | rw [c2] | rw [c3])
    | wp_step)
  show R _ _
  rw [Heap.size_push]
  exact hq
theorem tcall_kw (F : ExcBaseFacts B newId initId bmB) (hT : ∀ X : String, bm.contains (.type X) = bmB.contains (.type X)) {rest : List Value} {kw : List (Str × Value)} {fI : Addr} {Q : Fin → Shared → Prop}
    (hC : h.get? C = some (excClassObj nm q C N bs bm hdct sn sub ab col dd k0 k1 k2 k3 k5 newId))
    (hi : Looks (model prog w) h (typeLookup (.ref C) "__init__") (some (.ref fI))) (hb : ∀ self, Looks (model prog w) h (bindSpecial (.ref fI) self) (.ref fI, [self])) (hrest : rest.length ≤ sizeLine)
    (hq : codeAny (model prog w) A (.call (.ref fI) ⟨.ref (h.objs.size + 1) :: rest, kw⟩)
      (fun r s' => match r with | .ok (.ret v) => v = .none ∧ Q (.done (.ret (.ref (h.objs.size + 1)))) s' | .ok _ => False | .error e => E e s')
      ⟨(h.push (kdv_tup rest)).push (HandSPX.excO C h.objs.size), g, d, t, os⟩) :
    wpAny (model prog w) A (Builtin.«type.__call__» ⟨.ref C :: rest, kw⟩) Q E ⟨h, g, d, t, os⟩ := by
  repeat (first
    | with_reducible refine wpAny_loadPart_at hC ?_
    | with_reducible refine wpAny_madeBy_exc hC ?_
    | wp_step)
  refine codeAny_call_builtin_code (Code.quiet_builtin _ F.quiet) (look_new F hT hC ?_)
  refine new_kw F hT hC ?_ hrest
  show wpAny _ _ _ _ _ _
  have k : ∀ b o, h.get? b = some o → ((h.push (kdv_tup rest)).push (HandSPX.excO C h.objs.size)).get? b = some o := fun b o e => Heap.get?_push_of_some _ (Heap.get?_push_of_some _ e)
  have hC₁ := k _ _ hC
  have hget : ((h.push (kdv_tup rest)).push (HandSPX.excO C h.objs.size)).get? (h.objs.size + 1) = some (HandSPX.excO C h.objs.size) := by heap_get
  have cC : (Value.ref C :: bm).contains (.ref C) = true := by simp
  have i1 := hi.keeps k
  have b1 := (hb (.ref (h.objs.size + 1))).keeps k
  unfold isInstance
  repeat (first
    | with_reducible refine wpAny_loadPart_at hget ?_
    | (with_reducible refine wpAny_isSubtype_exc hC₁ ?_; rw [cC])
    | wp_step)
  show wpAny _ _ (typeLookup (.ref C) _) _ _ _
  refine i1.at ?_
  refine wpAny_holding (wpAny_bind (b1.at ?_))
  refine wpAny_bind (wpAny_call (codeAny_mono hq fun r s' z => ?_))
  rcases r with e | (v | _ | _ | _) <;> first | exact z | exact z.elim | skip
  obtain ⟨rfl, z⟩ := z
  first
    | exact wpAny_pure (wpAny_pure z)
    | (wp_walk; exact z)
/-- an own class of exceptions is called, keywords or not -/
theorem call_kw (F : ExcBaseFacts B newId initId bmB) (hT : ∀ X : String, bm.contains (.type X) = bmB.contains (.type X)) {rest : List Value} {kw : List (Str × Value)} {fI : Addr}
    (hC : h.get? C = some (excClassObj nm q C N bs bm hdct sn sub ab col dd k0 k1 k2 k3 k5 newId))
    (hi : Looks (model prog w) h (typeLookup (.ref C) "__init__") (some (.ref fI))) (hb : ∀ self, Looks (model prog w) h (bindSpecial (.ref fI) self) (.ref fI, [self])) (hrest : rest.length ≤ sizeLine)
    (hq : codeAny (model prog w) (A.under (.builtin "type.__call__" ⟨.ref C :: rest, kw⟩)) (.call (.ref fI) ⟨.ref (h.objs.size + 1) :: rest, kw⟩) (InitBack (h.objs.size + 1) R)
      ⟨(h.push (kdv_tup rest)).push (HandSPX.excO C h.objs.size), g, d, t, os⟩) :
    codeAny (model prog w) A (.call (.ref C) ⟨rest, kw⟩) R ⟨h, g, d, t, os⟩ := by
  have f1 := tc_lookup
  have f2 := tc_bind (.ref C)
  have hTy : (⟨h, g, d, t, os⟩ : Shared).TypeIs (.ref C) "type" := ⟨_, hC, rfl⟩
  refine codeAny_of_tree ?_
  show wpAny _ _ (callAny (.ref C) _) _ _ _
  repeat (any_goals (first
    | assumption
    | with_reducible refine wpAny_loadPart_at hC ?_
    | wp_step))
  refine ⟨rfl, ?_⟩
  refine codeAny_call_builtin_at (Code.quiet_builtin _ (by decide +kernel)) entry_typeCall (look_tcall hC (tcall_kw F hT hC hi hb hrest ?_))
  refine codeAny_mono hq fun r s' z => ?_
  rcases r with e | (v | _ | _ | _) <;> exact z
end
end Xv
end PySem

namespace PySem
namespace Xv
open PySem.W PySem.Calls PyProof.Rows
open Builtin Builtin.ObjectAttr
section
variable {prog : Program} {w : World} {A : Around} {E : Value → Shared → Prop} {R : Result → Shared → Prop} {hp : Heap} {g : Array GenState} {d : Drawn} {t : Nat} {os : OsState}
variable {B : String} {bmB : List Value} {K : Frag}
/-- the first field of an exception: its dict is made -/
theorem field_first (SF : StoreFacts B bmB "object.__setattr__" "object") {name : Str} {tk : Tok} {v : Value} {x C : Addr} {fv : Array Value}
    (X : K.In hp) (hx : hp.get? x = some { cls := .ref C, data := .fields fv }) (ho : excOver K C bmB = true) (hh : hasDictIn K C = true) (ha : takerIn K C name = some none)
    (hq : ∀ h' tk' dx, (∀ b o, b ≠ x → hp.get? b = some o → h'.get? b = some o) → hp.objs.size ≤ dx → dx ≠ x → h'.get? x = some { cls := .ref C, dict := some dx, data := .fields fv } →
      h'.Ns1 dx (fun y => if y = name then some v else none) → R (.ok (.ret .none)) ⟨h', g, d, tk', os⟩) :
    codeAny (model prog w) A (.call (.builtin "object.__setattr__") ⟨[.ref x, .str name tk, v], []⟩) R ⟨hp, g, d, t, os⟩ := by
  have I : InstAt hp x { cls := .ref C, data := .fields fv } C none := ⟨hx, rfl, rfl, trivial⟩
  have hxs : x ≠ hp.objs.size := Nat.ne_of_lt (Heap.lt_size hx)
  refine osa_openX SF X I ho ha fun b => ?_
  obtain ⟨cd, hc, hd⟩ := any_some hh
  have hcls : Looks (model prog w) hp (classData C) cd := looks_clsIn X hc
  obtain ⟨nm, bs, mro, ns, qn, hdd, sn, sb, ab, col, del⟩ := cd
  dsimp only at hd
  subst hd
  show wpAny _ _ (storeInOwnDict (.ref x) (.ref C) (.str name tk) name v b) _ _ _
  unfold storeInOwnDict ownDictForStores
  repeat (first
    | with_reducible refine HandSPX.store_in_new ?_ ?_
    | with_reducible refine wpAny_loadPart_at hx ?_
    | with_reducible refine hcls.at ?_
    | wp_step)
  · exact ⟨_, #[], _, (Heap.get?_update_ne _ _ _ _ hxs.symm).trans (Heap.get?_push_at rfl rfl), rfl, fun e he => absurd he (by simp), fun _ => rfl⟩
  · intro h' tk' hn' hs
    have hx₁ : (hp.push { cls := .type "dict", data := .dict #[] }).get? x = some { cls := .ref C, data := .fields fv } := Heap.get?_push_of_some _ hx
    refine hq h' tk' hp.objs.size (fun b o hb ho => ?_) (Nat.le_refl _) hxs.symm ?_ hn'
    · exact (hs.2 b (Nat.ne_of_lt (Heap.lt_size ho))).trans ((Heap.get?_update_ne _ _ _ _ hb).trans (Heap.get?_push_of_some _ ho))
    · exact (hs.2 x hxs).trans (Heap.get?_update_self _ hx₁ rfl)
/-- a further one -/
theorem field_more (SF : StoreFacts B bmB "object.__setattr__" "object") {name : Str} {tk : Tok} {v : Value} {x C dx : Addr} {fv : Array Value} {m0 : Str → Option Value} {nl : List Str}
    (X : K.In hp) (hx : hp.get? x = some { cls := .ref C, dict := some dx, data := .fields fv }) (hns : hp.Ns1 dx m0) (hw : Within m0 nl) (hz : nl.length ≤ 1000) (ho : excOver K C bmB = true) (hh : hasDictIn K C = true) (ha : takerIn K C name = some none)
    (hq : ∀ h' tk', (∀ b o, b ≠ dx → hp.get? b = some o → h'.get? b = some o) → h'.Ns1 dx (fun y => if y = name then some v else m0 y) → R (.ok (.ret .none)) ⟨h', g, d, tk', os⟩) :
    codeAny (model prog w) A (.call (.builtin "object.__setattr__") ⟨[.ref x, .str name tk, v], []⟩) R ⟨hp, g, d, t, os⟩ := by
  obtain ⟨oD, esD, epD, hoD, hdD, _⟩ := hns.count hw
  have I : InstAt hp x { cls := .ref C, dict := some dx, data := .fields fv } C (some oD) := ⟨hx, rfl, rfl, hoD⟩
  refine osa_openX SF X I ho ha fun b => ?_
  obtain ⟨cd, hc, hd⟩ := any_some hh
  have hcls : Looks (model prog w) hp (classData C) cd := looks_clsIn X hc
  obtain ⟨nm, bs, mro, ns, qn, hdd, sn, sb, ab, col, del⟩ := cd
  dsimp only at hd
  subst hd
  show wpAny _ _ (storeInOwnDict (.ref x) (.ref C) (.str name tk) name v b) _ _ _
  unfold storeInOwnDict ownDictForStores
  repeat (first
    | with_reducible refine OEX.store_in_old hns hw hz ?_
    | with_reducible refine wpAny_loadPart_at hx ?_
    | with_reducible refine hcls.at ?_
    | wp_step)
  intro h' tk' hn' hs
  exact hq h' tk' (fun b o hb ho => (hs.2 b hb).trans ho) hn'
end
end Xv
end PySem

namespace Xv
open PySem PySem.Spec PyProof.Rows L2
abbrev St := L2.St
/-- what the written part says of an own class of exceptions, at C; its __init__ at fI; over the built-in B -/
structure ExT (K : PySem.W.Frag) (C fI : Addr) (newId : String) (bmB : List Value) : Prop where
  ini : PySem.W.excInitIn K C bmB newId = true
  ov : PySem.W.excOver K C bmB = true
  hd : PySem.W.hasDictIn K C = true
  sa : PySem.W.findIn K (.ref C) "__setattr__" = some (some (.builtin "object.__setattr__"))
  iC : PySem.W.findIn K (.ref C) "__init__" = some (some (.ref fI))
  fn : PySem.W.isFn K (.ref fI) = true
  kC : PySem.W.keepIn K (.ref C) = true
/-- bases -/
structure Bas (B newId initId : String) (bmB : List Value) : Prop where
  F : ExcBaseFacts B newId initId bmB
  S : StoreFacts B bmB "object.__setattr__" "object"
section
variable {X : Cx} {pins : List (Addr × Obj)} {σ : St} {H : Hp} {s : Shared} {a C dx fI : Addr} {f : Str} {y : V} {u : Value} {fs : List (Str × V)} {Q : Unit → Shared → Prop} {E : Value → Shared → Prop} {A : Around}
variable {B newId initId : String} {bmB : List Value}
/-- self.f = y, the first one -/
theorem put_first (b : Bas B newId initId bmB) (T : ExT X.K C fI newId bmB) (I : Inv X pins σ H s) (e : H a = some (exo a C none)) (hno : PySem.W.takerIn X.K C f = some none) (ry : RelV y u)
    (h : ∀ dx s', H dx = none → dx ≠ a → Inv X pins σ (upd (upd H dx (exd dx [(f, y)])) a (exo a C (some dx))) s' → Q () s') : wpAny (model X.prog X.w) A (setAttr (.ref a) f u) Q E s := by
  obtain ⟨t1, ho⟩ := exo_at I.hok e
  obtain ⟨hp, g, d, t, os⟩ := s
  refine PySem.W.set_plain I.kIn (ox := { cls := .ref C, dict := none, data := .fields #[.ref t1, .none, .none, .none, .bool false, .none] }) (od := none) ⟨ho, rfl, rfl, trivial⟩ T.sa ?_
  refine PySem.Xv.field_first b.S I.kIn ho T.ov T.hd hno (fun h' tk' dx k dn dne hx hn => ?_)
  have hnd : H dx = none := I.hok.fresh dn
  have nd : ∀ {b : Addr} {o : Obj}, hp.get? b = some o → b ≠ dx := fun {b o} q => Nat.ne_of_lt (Nat.lt_of_lt_of_le (Heap.lt_size q) dn)
  have na : ∀ {b : Addr}, H b = none → b ≠ a := fun {b} n z => by
    rw [z, e] at n
    cases n
  have U : Un X.fs [] H (upd (upd H dx (exd dx [(f, y)])) a (exo a C (some dx))) hp h' := {
    keep := fun b o q n _ _ => k b o (na n) q
    slot := fun b o q n _ _ => ⟨o.slots, k b o (na n) q⟩
    free := fun b o q n _ => by
      rw [upd_ne (na n), upd_ne (nd q)]
      exact n
    there := fun b o q _ => by
      by_cases hb : b = a
      · exact ⟨_, by rw [hb]; exact hx⟩
      · exact ⟨o, k b o hb q⟩
    tups := fun b xs q => by
      rw [upd_ne (at_ne e q exo_tup), upd_ne (ne_of_none q hnd)]
      exact q
    frzs := fun b o v q => by
      rw [upd_ne (at_ne e q exo_frz), upd_ne (ne_of_none q hnd)]
      exact q
    tbls := fun b ps q => ⟨#[], by
      rw [upd_ne (at_ne e q exo_tbl), upd_ne (ne_of_none q hnd), q]
      simp⟩ }
  have hok : HOk X.prog X.w (upd (upd H dx (exd dx [(f, y)])) a (exo a C (some dx))) h' := fun b o q => by
    by_cases hb : b = a
    · subst hb
      rw [upd_same] at q
      cases q
      exact exo_ok hx
    · rw [upd_ne hb] at q
      by_cases hbd : b = dx
      · subst hbd
        rw [upd_same] at q
        cases q
        exact exd_ok hn (fun z => relO_put (fs := []) (mA := fun _ => none) ry (fun _ => trivial) z)
      · rw [upd_ne hbd] at q
        exact (I.hok b o q).stay (fun c v hc z => k c v (by
            rcases hc with hc | hc
            · rw [hc]
              exact hb
            · exact at_ne e hc exo_own) z)
          (fun c hc => by
            rw [upd_ne (at_ne e hc exo_own), upd_ne (ne_of_none hc hnd)]
            exact hc) (fun c xs hc => by
            rw [upd_ne (at_ne e hc exo_tup), upd_ne (ne_of_none hc hnd)]
            exact hc)
  exact h dx _ hnd dne (I.un (t' := tk') U hok)
/-- a further one -/
theorem put_more (b : Bas B newId initId bmB) (T : ExT X.K C fI newId bmB) (I : Inv X pins σ H s) (e : H a = some (exo a C (some dx))) (ed : H dx = some (exd dx fs)) (hl : fs.length ≤ 900) (hno : PySem.W.takerIn X.K C f = some none) (ry : RelV y u)
    (h : ∀ s', Inv X pins σ (upd H dx (exd dx ((f, y) :: fs))) s' → Q () s') : wpAny (model X.prog X.w) A (setAttr (.ref a) f u) Q E s := by
  obtain ⟨t1, ho⟩ := exo_at I.hok e
  obtain ⟨mA, hns, rel⟩ := exd_at I.hok ed
  have hw := within_of rel
  obtain ⟨hp, g, d, t, os⟩ := s
  obtain ⟨oD, _, _, hoD, _, _⟩ := hns.count hw
  refine PySem.W.set_plain I.kIn (ox := { cls := .ref C, dict := some dx, data := .fields #[.ref t1, .none, .none, .none, .bool false, .none] }) (od := some oD) ⟨ho, rfl, rfl, hoD⟩ T.sa ?_
  refine PySem.Xv.field_more b.S I.kIn ho hns hw (by rw [List.length_map]; omega) T.ov T.hd hno (fun h' tk' k hn => ?_)
  have hd : ∃ o, h'.get? dx = some o := by
    obtain ⟨o, _, _, e', _⟩ := hn
    exact ⟨o, e'⟩
  exact h _ (I.write (t' := tk') (x := dx) (e := dx) (o := exd dx ((f, y) :: fs)) (by rw [ed]; exact True.intro) (.inl rfl) k hd (exd_ok hn (relO_put ry rel)))
end
end Xv

set_option maxHeartbeats 4000000
namespace PySem.W
open PySem PySem.Spec PySem.Calls PyProof.Rows
section
variable {prog : Program} {w : World} {A : Around} {E : Value → Shared → Prop} {s : Shared} {K : Frag} {x D : Addr} {ox : Obj} {od : Option Obj}
theorem xv_data {C : Addr} {name : Str} {a g : Value} (hc : (clsIn K C).isSome = true) (ha : findIn K (.ref C) name = some (some a)) (hg : specialIn K a "__get__" = some (some g)) (ht : takesIn K a = some true) : findObj K C od name = some (.bind g a) := by
  obtain ⟨cd, hc⟩ := Option.isSome_iff_exists.mp hc
  unfold findObj
  rw [hc, Option.bind_some, ha, Option.bind_some]
  simp [hg, ht]
/-- the class of an exception that has its dict, or none as yet -/
theorem xv_class {Q : Option Value → Shared → Prop} (T : L2.ExcC K D)
    (X : K.In s.heap) (I : InstAt s.heap x ox D od) (h : Q (some (.ref D)) { s with toks := s.toks + 1 }) : wpAny (model prog w) A (getAttr? (.ref x) "__class__") Q E s := by
  have hf : findObj K D od "__class__" = some (.bind (.builtin "getset_descriptor.__get__") (.builtin "object.__class__")) :=
    xv_data (by obtain ⟨cd, hc, _⟩ := any_some T.hd; rw [hc]; rfl) T.ha T.hn T.ht
  obtain ⟨hp, g, d, t, os⟩ := s
  have L0 := I.type (M := model prog w)
  have L1 := looks_findIn (M := model prog w) X T.hg
  have L2 := looks_findIn (M := model prog w) X T.hk
  have L3 := looks_find (M := model prog w) X I hf
  have sub : Looks (model prog w) hp (isInstance (.ref x) (.type "BaseException")) true := L0.andThen (looks_subIn X T.hs)
  have z0 : (false && onTheHeap (Value.builtin "BaseException.__getattribute__")) = false := rfl
  have z2 : (Value.builtin "BaseException.__getattribute__" == Value.builtin "object.__getattribute__") = false := by decide +kernel
  have z1 : (onTheHeap (Value.ref D) && Value.builtin "BaseException.__getattribute__" == Value.builtin "object.__getattribute__") = false := by
    rw [z2]; rfl
  unfold getAttr? getAttrBy? getAttrBy
  refine wpAny_bind (wpAny_mkText (wpAny_bind (wpAny_attempt (wpAny_holding (wpAny_bind (L0.at (wpAny_bind (L1.at ?_))))))))
  show wpAny _ _ (if (onTheHeap (Value.ref D) && Value.builtin "BaseException.__getattribute__" == Value.builtin "object.__getattribute__") = true then _ else _) _ _ _
  rw [z1, if_neg Bool.false_ne_true]
  unfold getAttrByItsOwn hookBefore
  refine wpAny_bind ?_
  rw [if_pos (show onTheHeap (Value.ref D) = true from rfl)]
  refine L2.at ?_
  refine wpAny_bind (wpAny_attempt (wpAny_holding ?_))
  unfold callGetattribute
  rw [z0, if_neg Bool.false_ne_true]
  unfold boundAndCalled
  rw [PySem.F.excAttr_ValueError.ga.bind (.ref x)]
  refine wpAny_bind (wpAny_pure ?_)
  show wpAny _ _ (call (.builtin "BaseException.__getattribute__") [.ref x, .str "__class__" t]) _ _ _
  refine wpAny_call (codeAny_call_builtin PySem.F.excAttr_ValueError.ga.plain PySem.F.entry_bexc_ga ?_)
  refine @check_slot (model prog w) _ _ ⟨hp, g, d, t + 1, os⟩ "BaseException.__getattribute__" "BaseException" "__getattribute__" (.ref x) [.str "__class__" t] [] _ (by decide +kernel) (by decide +kernel) sub (PySem.F.args_bexc_ga (.ref x) (.str "__class__" t)) ?_
  unfold Builtin.«object.__getattribute__»
  refine wpAny_bind (wpAny_of_eq (a := ((Value.ref x : Value), [Value.str "__class__" t])) (by first | rfl | (simp only [slotArgs]; rfl)) ?_)
  refine wpAny_bind (wpAny_pure (wpAny_bind (L0.at (wpAny_bind (L3.at ?_)))))
  show wpAny _ _ (holding [Value.builtin "object.__class__"] (call (.builtin "getset_descriptor.__get__") [.builtin "object.__class__", .ref x, .ref D]) >>= ret) _ _ _
  refine wpAny_bind (wpAny_holding (wpAny_call (class_get (s := ⟨hp, g, d, t + 1, os⟩) (ox := ox) (od := od) X I T.hm ?_)))
  refine wpAny_pure ?_
  show wpAny _ _ (handedOut (.ref D)) _ _ _
  rw [handedOut_of (v := .ref D) rfl]
  first
    | exact wpAny_pure (wpAny_pure h)
    | exact wpAny_pure h
    | exact wpAny_pure (wpAny_bind (wpAny_pure (wpAny_pure h)))
theorem xv_kit (T : L2.ExcC K D) : KitX K (.ref x) (.ref D) (fun h => ∃ ox od, InstAt h x ox D od) where
  ty := fun _ _ _ ⟨_, _, I⟩ => I.type
  it := fun _ _ X _ => by
    obtain ⟨cdD, hcD, _⟩ := any_some T.hd
    unfold clsIn at hcD
    split at hcD
    · rename_i c' d' cd' sl' ho
      intro A' Q' E' s' k q
      unfold isType loadHead
      exact wpAny_bind (wpAny_loadPart (k _ _ (X _ _ ho)) (wpAny_pure q))
    · cases hcD
  ne := fun h tp dd its n sl X htp => by
    obtain ⟨cdD, hcD, _⟩ := any_some T.hd
    refine Bool.eq_false_iff.mpr fun q => ?_
    have e : D = tp := Value.ref.inj (beq_iff_eq.mp q)
    subst e
    unfold clsIn at hcD
    split at hcD
    · rename_i c' d' cd' sl' ho
      have z := (X _ _ ho).symm.trans htp
      cases z
    · cases hcD
  ca := fun X ⟨_, _, I⟩ k => xv_class T X I k
end
end PySem.W
namespace Xv
open PySem PySem.Spec PyProof.Rows L2
/-! ### a new exception as a value -/
def tExv (C : Addr) (sp : Sp) (ta : TA) : TE := fun σ H Q => ta σ H fun vs H1 => vs.length ≤ 1000 ∧ ∀ a, H1 a = none → sp (.ref a :: vs) (upd H1 a (exo a C none)) (fun v H2 => v = .non ∧ Q (.ref a) H2) E0
def tExvK (C : Addr) (n : Nat) (sp : Sp) (gV : List V → List V → List V) (tk : TA) : TE := fun σ H Q => tk σ H fun zs H1 => zs.length = n ∧ ∀ a, H1 a = none → sp (gV [.ref a] zs) (upd H1 a (exo a C none)) (fun v H2 => v = .non ∧ Q (.ref a) H2) E0
section
variable {X : Cx} {k : Nat} {C fI : Addr} {fd : FuncData} {ps ks : List Str} {sp : Sp} {x : Str} {p pos : Pos} {e : Expr} {es : List Expr} {kws : List Keyword} {ta tk : TA} {g : List Value → List Value → List Value} {gV : List V → List V → List V} {B newId initId : String} {bmB : List Value}
theorem run_exv {pins : List (Addr × Obj)} {σ : St} {H : Hp} {s : Shared} {Q : VK} {us : List Value} {kw : List (Str × Value)} (b : Bas B newId initId bmB) (T : ExT X.K C fI newId bmB) (F1 : FnOk X.prog X.w X.K X.mg X.base CX0 k fI fd ps sp) (hr : Room (k + 1) X.A)
    (I : Inv X pins σ H s) (hz : us.length ≤ 1000) {al : Addr → List V} {bl : Addr → List Value} (hbl : ∀ a, Vals (al a) (bl a)) (hbind : ∀ a s', X.K.In s'.heap → BindsTo s' fd ⟨.ref a :: us, kw⟩ (ps.zip (bl a)))
    (h : ∀ a, H a = none → sp (al a) (upd H a (exo a C none)) (fun v H2 => v = .non ∧ Q (.ref a) H2) E0) :
    wpAny (model X.prog X.w) X.A (call (.ref C) us kw) (EP X pins σ Q) X.xe s := by
  obtain ⟨nm, N', qn, bs, bm, hdct, sn, sub, ab, col, dd, k0, k1, k2, k3, k5, hC, hT⟩ := PySem.W.excInit_of I.kIn T.ini
  obtain ⟨hp, gg, dr, tk, os⟩ := s
  have hn : H (hp.objs.size + 1) = none := I.hok.fresh (Nat.le_succ _)
  have kk : ∀ b o, hp.get? b = some o → ((hp.push (PySem.W.kdv_tup us)).push (PySem.HandSPX.excO C hp.objs.size)).get? b = some o := fun b o e => Heap.get?_push_of_some _ (Heap.get?_push_of_some _ e)
  have hget : ((hp.push (PySem.W.kdv_tup us)).push (PySem.HandSPX.excO C hp.objs.size)).get? (hp.objs.size + 1) = some (PySem.HandSPX.excO C hp.objs.size) := by heap_get
  have I2 : Inv X pins σ (upd H (hp.objs.size + 1) (exo (hp.objs.size + 1) C none)) ⟨(hp.push (PySem.W.kdv_tup us)).push (PySem.HandSPX.excO C hp.objs.size), gg, dr, tk, os⟩ :=
    I.laid (t' := tk) (a := hp.objs.size + 1) (o := exo (hp.objs.size + 1) C none) (h' := (hp.push (PySem.W.kdv_tup us)).push (PySem.HandSPX.excO C hp.objs.size)) kk (Nat.le_succ _) (exo_ok hget)
  have hus : us.length ≤ sizeLine := by
    rw [sizeLine_eq]
    omega
  refine wpAny_call (PySem.Xv.call_kw b.F hT hC (PySem.W.looks_findIn I.kIn T.iC) (fun self => PySem.W.bind_fn I.kIn self (beq_iff_eq.mp T.fn)) hus
    (codeAny_mono (F1.run _ X.stack _ _ ⟨Value.ref (hp.objs.size + 1) :: us, kw⟩ _ _ _ E0 (hr.make C us kw) (I2.env0.make C us kw) (hbind _ _ I2.kIn) (hbl (hp.objs.size + 1)) (h _ hn)) fun r s' hq' => ?_))
  cases r with
  | error er => exact False.elim hq'
  | ok fl =>
    cases fl with
    | ret u =>
      obtain ⟨v, H2, I3, rv, ev, q3⟩ := I2.after hq'
      subst ev
      exact ⟨rv, ⟨V.ref (hp.objs.size + 1), H2, I3, rfl, q3⟩⟩
    | next => exact False.elim hq'
    | brk => exact False.elim hq'
    | cont => exact False.elim hq'
theorem pe_exv (b : Bas B newId initId bmB) (T : ExT X.K C fI newId bmB) (F1 : FnOk X.prog X.w X.K X.mg X.base CX0 k fI fd ps sp) (hr : Room (k + 1) X.A) (hb : Binds X.K fd ps []) (hg : Gl X x) (hm : X.mg x = some (.ref C)) (ha : PA X (e :: es) ta)
    (hdb : (x == ("__debug__" : Str)) = false := by decide) (he : starEach (e :: es) X.env = (false, eval e X.env) :: starEach es X.env := by rfl) (hpl : (backTo pos (starEach es X.env)).any (·.1) = false := by rfl) :
    PE X (.Call (.Name x p) (e :: es) [] pos) (tExv C sp ta) := by
  refine ⟨fun pins s σ H Q I h => ?_⟩
  refine wpAny_Call_Name_kw (ld_glob I hg hm ?_ hdb)
  refine PySem.W.callWith_K (h₀ := X.base) I.ok.mod.kin T.kC (thn (ha.run pos pins s σ H _ I h) fun us s1 ⟨vs, H1, I1, r1, hz, q1⟩ => ⟨I1.kIn, ?_⟩) he hpl
  have hl : us.length + 1 = ps.length := by
    rw [← F1.len _ _ _ _ (q1 _ (I1.hok.fresh (Nat.le_refl _))), List.length_cons, r1.length]
  exact run_exv (al := fun a => .ref a :: vs) (bl := fun a => .ref a :: us) b T F1 hr I1 (by show us.length ≤ 1000; rw [← r1.length]; exact hz) (fun a => .cons rfl r1)
    (fun a s' ki => by
      have z := hb s' (.ref a :: us) ki (by rw [List.append_nil, List.length_cons, hl])
      rw [List.append_nil] at z
      exact z) q1
theorem pe_exv0 (b : Bas B newId initId bmB) (T : ExT X.K C fI newId bmB) (F1 : FnOk X.prog X.w X.K X.mg X.base CX0 k fI fd ps sp) (hr : Room (k + 1) X.A) (hb : Binds X.K fd ps []) (hg : Gl X x) (hm : X.mg x = some (.ref C))
    (hdb : (x == ("__debug__" : Str)) = false := by decide) :
    PE X (.Call (.Name x p) [] [] pos) (tExv C sp tNil) := by
  refine ⟨fun pins s σ H Q I h => ?_⟩
  refine wpAny_Call_Name_kw (ld_glob I hg hm ?_ hdb)
  refine PySem.W.callWith_K0 I.kIn T.kC ?_
  obtain ⟨hz, q1⟩ := h
  have hl : 1 = ps.length := F1.len _ _ _ _ (q1 _ (I.hok.fresh (Nat.le_refl _)))
  exact run_exv (us := []) (kw := []) (al := fun a => [.ref a]) (bl := fun a => [.ref a]) b T F1 hr I (Nat.zero_le _) (fun a => .cons rfl .nil)
    (fun a s' ki => by
      have z := hb s' [.ref a] ki (by rw [List.append_nil]; exact hl)
      rw [List.append_nil] at z
      exact z) q1
theorem pe_exvK (b : Bas B newId initId bmB) (T : ExT X.K C fI newId bmB) (F1 : FnOk X.prog X.w X.K X.mg X.base CX0 k fI fd ps sp) (hr : Room (k + 1) X.A) (hb : KBn X.K fd ps 1 ks g gV) (hg : Gl X x) (hm : X.mg x = some (.ref C)) (hkw : PK X kws tk)
    (hall : (backToKw pos (keywordEach kws X.env)).all (·.1.isSome) = true := by rfl) (hks : (backToKw pos (keywordEach kws X.env)).filterMap (·.1) = ks := by rfl) (hdb : (x == ("__debug__" : Str)) = false := by decide)
    (hpl : ((backTo pos (starEach [] X.env)).any (·.1) || (backToKw pos (keywordEach kws X.env)).any (·.1.isNone)) = false := by rfl) :
    PE X (.Call (.Name x p) [] kws pos) (tExvK C ks.length sp gV tk) := by
  refine ⟨fun pins s σ H Q I h => ?_⟩
  refine wpAny_Call_Name_kw (ld_glob I hg hm ?_ hdb)
  refine PySem.W.callWith_KW0 (h₀ := X.base) I.ok.mod.kin T.kC hall ?_ hpl
  refine thn (hkw.run pos pins s σ H _ I h) fun ws s2 ⟨zs, H2, I2, rz, l2, q2⟩ => ⟨I2.kIn, ?_⟩
  rw [hks]
  exact run_exv (us := []) (al := fun a => gV [.ref a] zs) (bl := fun a => g [.ref a] ws) b T F1 hr I2 (Nat.zero_le _) (fun a => hb.rel (.cons rfl .nil) rz)
    (fun a s' ki => hb.to s' [.ref a] ws ki rfl (rz.length.symm.trans l2)) q2
end
/-! ### its field, its class -/
section
variable {X : Cx} {a C d : Addr} {dd : Option Addr} {fs : List (Str × V)} {H : Hp} {s : Shared} {pins : List (Addr × Obj)} {σ : St}
theorem exo_inst (I : Inv X pins σ H s) (e : H a = some (exo a C dd)) (hd : ∀ d, dd = some d → ∃ fs, H d = some (exd d fs)) : ∃ ox od, PySem.W.InstAt s.heap a ox C od := by
  obtain ⟨t1, ho⟩ := exo_at I.hok e
  cases dd with
  | none => exact ⟨_, none, ho, rfl, rfl, trivial⟩
  | some d =>
    obtain ⟨fs, ed⟩ := hd d rfl
    obtain ⟨mA, hns, rel⟩ := exd_at I.hok ed
    obtain ⟨oD, _, _, hoD, _⟩ := id hns
    exact ⟨_, some oD, ho, rfl, rfl, hoD⟩
def tXf (K : PySem.W.Frag) (f : Str) (te : TE) : TE := fun σ H Q => te σ H fun x H1 => ∃ a C d fs v, x = .ref a ∧ ExcC K C ∧ PySem.W.findIn K (.ref C) f = some none ∧ H1 a = some (exo a C (some d)) ∧ H1 d = some (exd d fs) ∧ fs.lookup f = some v ∧ Q v H1
/-- e.f of an exception that is held -/
theorem pe_xf {e : Expr} {f : Str} {te : TE} {pos : Pos} (he : PE X e te) (hb : attributeBase e f X.env (eval e X.env) = eval e X.env := by rfl) : PE X (.Attribute e f pos) (tXf X.K f te) := by
  refine ⟨fun pins s σ H Q I h => ?_⟩
  refine attr_of hb (thn (he.run pins s σ H _ I h) fun u s1 hh => ?_)
  obtain ⟨x, H1, I1, rx, a, C, d, fs, v, ex, T, hno, ea, ed, hl, q⟩ := hh
  subst ex
  obtain rfl : u = Value.ref a := rx
  obtain ⟨t1, ho⟩ := exo_at I1.hok ea
  obtain ⟨mA, hns, rel⟩ := exd_at I1.hok ed
  obtain ⟨od, hod, hlk⟩ := lookIn_ns hns
  obtain ⟨uv, hu, ru⟩ := RelO.some_of (v := v) (o := mA f) (by rw [← hl]; exact rel f)
  have J : PySem.W.InstAt s1.heap a { cls := .ref C, dict := some d, data := .fields #[.ref t1, .none, .none, .none, .bool false, .none] } C (some od) := ⟨ho, rfl, rfl, hod⟩
  exact HandSPX.exc_get I1.kIn J T.hg T.hk T.hs (PySem.W.findObj_own T.hd hno rfl (by rw [hlk, hu])) (handed_of ru) ⟨v, H1, I1.tok _, ru, q⟩
/-- isinstance(e, c), e an exception that is held -/
def rXi (K : PySem.W.Frag) : List V → Hp → VK → Prop := fun xs H Q => ∃ (a D : Addr) (dd : Option Addr) (c : V) (cv : Value) (b : Bool), xs = [.ref a, c] ∧ ClsV c cv ∧ ExcC K D ∧ H a = some (exo a D dd) ∧ (∀ d, dd = some d → ∃ fs, H d = some (exd d fs)) ∧ PySem.W.kitOne K (.ref D) cv = some b ∧ Q (.bl b) H
theorem call_xi : CallR X (.builtin "isinstance") (rXi X.K) := by
  intro pins s σ H xs us Q I r h
  obtain ⟨a, D, dd, c, cv, b, rfl, k, T, ea, hd, e, q⟩ := h
  obtain ⟨u1, u2, rfl, r1, r2⟩ := vals2 r
  have e2 := k.eq r2
  subst e2
  cases (show u1 = Value.ref a from r1)
  exact PySem.W.kia_one (PySem.W.xv_kit T) I.kIn (exo_inst I ea hd) e (fun z => nomatch z) fun tk => ⟨.bl b, H, I.tok tk, rfl, q⟩
end
end Xv

namespace PySem
mutual
/-- data in a heap, its dicts none of the interpreter's own -/
inductive Sees (h : Heap) : Value → PyData → Prop
  | none : Sees h .none .none
  | bool (b) : Sees h (.bool b) (.bool b)
  | int (i t) : Sees h (.int i t) (.int i)
  | str (x t) : Sees h (.str x t) (.str x)
  | list {a o vs n xs} : h.get? a = some o → o.cls = .type "list" → o.data = .seq vs n → SeesAll h vs.toList xs → Sees h (.ref a) (.list xs)
  | tuple {a o vs n xs} : h.get? a = some o → o.cls = .type "tuple" → o.data = .seq vs n → SeesAll h vs.toList xs → Sees h (.ref a) (.tuple xs)
  | dict {a o es n kvs} : h.get? a = some o → o.cls = .type "dict" → o.data = .dict es n → (a == sysModules) = false → SeesAll h (es.toList.map (·.key)) (kvs.map (·.1)) →
      SeesAll h (es.toList.map (·.val)) (kvs.map (·.2)) → Sees h (.ref a) (.dict kvs)
inductive SeesAll (h : Heap) : List Value → List PyData → Prop
  | nil : SeesAll h [] []
  | cons {v vs d ds} : Sees h v d → SeesAll h vs ds → SeesAll h (v :: vs) (d :: ds)
end
mutual
theorem Sees.reads {h : Heap} : ∀ {v : Value} {d : PyData}, Sees h v d → ∃ as, Reads h v d as
  | _, _, .none => ⟨_, .none⟩
  | _, _, .bool b => ⟨_, .bool b⟩
  | _, _, .int i t => ⟨_, .int i t⟩
  | _, _, .str x t => ⟨_, .str x t⟩
  | _, _, .list h1 h2 h3 h4 => let ⟨_, r⟩ := SeesAll.reads h4; ⟨_, .list h1 h2 h3 r⟩
  | _, _, .tuple h1 h2 h3 h4 => let ⟨_, r⟩ := SeesAll.reads h4; ⟨_, .tuple h1 h2 h3 r⟩
  | _, _, .dict h1 h2 h3 _ h4 h5 => let ⟨_, r⟩ := SeesAll.reads h4; let ⟨_, r'⟩ := SeesAll.reads h5; ⟨_, .dict h1 h2 h3 r r'⟩
theorem SeesAll.reads {h : Heap} : ∀ {vs : List Value} {ds : List PyData}, SeesAll h vs ds → ∃ as, ReadsAll h vs ds as
  | _, _, .nil => ⟨_, .nil⟩
  | _, _, .cons r rs => let ⟨_, q⟩ := Sees.reads r; let ⟨_, q'⟩ := SeesAll.reads rs; ⟨_, .cons q q'⟩
end
section
variable {prog : Program} {w : World} {h₀ : Heap}
mutual
theorem Sees.reprK : ∀ {v : Value} {d : PyData}, Sees h₀ v d → d.showable = true → d.shown.length ≤ sizeLine → ∃ bs, ReadAtMost h₀ d.depth bs ∧ ReprK prog w bs h₀ d.depth v d.shown
  | _, _, .none, _, _ => ⟨[], (fun _ h => nomatch h), by simp only [PyData.shown]; exact .of_is ReprIs.none _ _ _⟩
  | _, _, .bool b, _, _ => ⟨[], (fun _ h => nomatch h), by simp only [PyData.shown]; exact .of_is (ReprIs.bool b) _ _ _⟩
  | _, _, .int i t, hs, _ => ⟨[], (fun _ h => nomatch h), by simp only [PyData.shown]; exact .of_is (ReprIs.int t (by simpa [PyData.showable] using hs)) _ _ _⟩
  | _, _, .str x t, _, hz => ⟨[], (fun _ h => nomatch h), by simp only [PyData.shown]; exact .of_is (ReprIs.str x t (by simpa only [PyData.shown] using hz)) _ _ _⟩
  | _, _, .list (a := a) (vs := vs) (xs := xs) h1 h2 h3 h4, hs, hz => by
    have zz : (listText (PyData.shownAll xs)).length ≤ sizeLine := by simpa only [PyData.shown] using hz
    obtain ⟨bs, hb, hk⟩ := SeesAll.reprK h4 (by simpa [PyData.showable] using hs) (fun t ht => Nat.le_trans (listText_mem_le ht) zz)
    obtain ⟨_, r⟩ := (Sees.list h1 h2 h3 h4).reads
    have hna : a ∉ bs := not_mem_of_deeper r (by simp only [PyData.depth]; omega) hb
    refine ⟨a :: bs, ReadAtMost.cons r (by simp only [PyData.depth]; omega) hb, ?_⟩
    simp only [PyData.depth, PyData.shown]
    obtain ⟨l⟩ := vs
    cases l with
    | nil =>
      have h5 : SeesAll h₀ [] xs := h4
      cases h5
      simp only [PyData.shownAll, listText_nil]
      exact ReprK.listEmpty h1 h2 h3
    | cons x l => exact ReprK.list h1 h2 h3 hna (by simpa using hk.length_eq) (fun i y e => hk.item i y (by simpa using e))
  | _, _, .tuple (a := a) (xs := xs) h1 h2 h3 h4, hs, hz => by
    have zz : (tupleText (PyData.shownAll xs)).length ≤ sizeLine := by simpa only [PyData.shown] using hz
    obtain ⟨bs, hb, hk⟩ := SeesAll.reprK h4 (by simpa [PyData.showable] using hs) (fun t ht => Nat.le_trans (tupleText_mem_le ht) zz)
    obtain ⟨_, r⟩ := (Sees.tuple h1 h2 h3 h4).reads
    have hna : a ∉ bs := not_mem_of_deeper r (by simp only [PyData.depth]; omega) hb
    refine ⟨a :: bs, ReadAtMost.cons r (by simp only [PyData.depth]; omega) hb, ?_⟩
    simp only [PyData.depth, PyData.shown]
    exact ReprK.tuple h1 h2 h3 hna hk
  | _, _, .dict (a := a) (es := es) (kvs := kvs) h1 h2 h3 hy h4 h5, hs, hz => by
    have zz : (dictText (PyData.shownKv kvs)).length ≤ sizeLine := by simpa only [PyData.shown] using hz
    obtain ⟨s1, s2⟩ := PyData.showableKv_split kvs (by simpa [PyData.showable] using hs)
    obtain ⟨b1, hb1, k1⟩ := SeesAll.reprK h4 s1 (fun t ht => let ⟨p, hp, hl⟩ := PyData.shownKv_key_le kvs t ht; Nat.le_trans hl (Nat.le_trans (dictText_mem_le hp) zz))
    obtain ⟨b2, hb2, k2⟩ := SeesAll.reprK h5 s2 (fun t ht => let ⟨p, hp, hl⟩ := PyData.shownKv_val_le kvs t ht; Nat.le_trans hl (Nat.le_trans (dictText_mem_le hp) zz))
    obtain ⟨_, r⟩ := (Sees.dict h1 h2 h3 hy h4 h5).reads
    have hb : ReadAtMost h₀ (PyData.depthKv kvs) (b1 ++ b2) := (hb1.mono (PyData.depthAll_keys_le kvs)).append (hb2.mono (PyData.depthAll_vals_le kvs))
    have hna : a ∉ b1 ++ b2 := not_mem_of_deeper r (by simp only [PyData.depth]; omega) hb
    refine ⟨a :: (b1 ++ b2), ReadAtMost.cons r (by simp only [PyData.depth]; omega) hb, ?_⟩
    simp only [PyData.depth, PyData.shown, PyData.shownKv_eq]
    exact ReprK.dict h1 h2 h3 hy hna (ReprEntriesK.of_two es.toList _ _
      (k1.more_le (fun b hb => List.mem_append_left _ hb) (PyData.depthAll_keys_le kvs))
      (k2.more_le (fun b hb => List.mem_append_right _ hb) (PyData.depthAll_vals_le kvs)))
theorem SeesAll.reprK : ∀ {vs : List Value} {ds : List PyData}, SeesAll h₀ vs ds → PyData.showableAll ds = true → (∀ t ∈ PyData.shownAll ds, t.length ≤ sizeLine) →
    ∃ bs, ReadAtMost h₀ (PyData.depthAll ds) bs ∧ ReprAllK prog w bs h₀ (PyData.depthAll ds) vs (PyData.shownAll ds)
  | _, _, .nil, _, _ => ⟨[], (fun _ h => nomatch h), by simp only [PyData.shownAll]; exact .nil⟩
  | _, _, .cons (d := d) (ds := ds) r rs, hs, hz => by
    have ss : d.showable = true ∧ PyData.showableAll ds = true := by simpa [PyData.showableAll] using hs
    obtain ⟨b1, hb1, k1⟩ := Sees.reprK r ss.1 (hz _ (by simp only [PyData.shownAll]; exact List.mem_cons_self ..))
    obtain ⟨b2, hb2, k2⟩ := SeesAll.reprK rs ss.2 (fun t ht => hz t (by simp only [PyData.shownAll]; exact List.mem_cons_of_mem _ ht))
    refine ⟨b1 ++ b2, fun b hm => ?_, ?_⟩
    · simp only [PyData.depthAll]
      rcases List.mem_append.mp hm with hm | hm
      · obtain ⟨d', as', r', hd'⟩ := hb1 b hm
        exact ⟨d', as', r', Nat.le_trans hd' (Nat.le_max_left _ _)⟩
      · obtain ⟨d', as', r', hd'⟩ := hb2 b hm
        exact ⟨d', as', r', Nat.le_trans hd' (Nat.le_max_right _ _)⟩
    · simp only [PyData.depthAll, PyData.shownAll]
      exact .cons ((k1.more fun b hb => List.mem_append_left _ hb).level_le (Nat.le_max_left _ _)) (k2.more_le (fun b hb => List.mem_append_right _ hb) (Nat.le_max_right _ _))
end
theorem Sees.showsBy {a : Addr} {d : PyData} (r : Sees h₀ (.ref a) d) (hs : d.showable = true) (hsz : d.shown.length ≤ sizeLine) : ∃ T idr, ShowsBy prog w h₀ a d T idr := by
  cases r with
  | list h1 h2 h3 h4 =>
    rename_i o vs n xs
    have zz : (listText (PyData.shownAll xs)).length ≤ sizeLine := by simpa only [PyData.shown] using hsz
    obtain ⟨bs, hb, hk⟩ := SeesAll.reprK (prog := prog) (w := w) h4 (by simpa [PyData.showable] using hs) (fun t ht => Nat.le_trans (listText_mem_le ht) zz)
    obtain ⟨_, rr⟩ := (Sees.list h1 h2 h3 h4).reads
    have hna : a ∉ bs := not_mem_of_deeper rr (by simp only [PyData.depth]; omega) hb
    refine ⟨"list", "list.__repr__", F.slot_list_repr.toG, F.slot_list_str, F.slot_list_format, fun s hk0 => ⟨o, hk0 _ _ h1, h2⟩, fun A E s Q hg hu hk0 hQ => ?_⟩
    simp only [PyData.depth] at hu
    simp only [PyData.shown] at hQ
    obtain ⟨l⟩ := vs
    cases l with
    | nil =>
      have h5 : SeesAll h₀ [] xs := h4
      cases h5
      simp only [PyData.shownAll, listText_nil] at hQ
      exact call_list_repr_empty ⟨o, hk0 _ _ h1, h2⟩ (hk0 _ _ h1) h3 (hQ s.heap _ _ fun _ _ e => e)
    | cons x l => exact call_list_reprK h1 h2 h3 hna (by simpa using hk.length_eq) (fun i y e => hk.item i y (by simpa using e)) hg (fun b _ => Clear.nil b) hu hk0 hQ zz
  | tuple h1 h2 h3 h4 =>
    rename_i o vs n xs
    have zz : (tupleText (PyData.shownAll xs)).length ≤ sizeLine := by simpa only [PyData.shown] using hsz
    obtain ⟨bs, hb, hk⟩ := SeesAll.reprK (prog := prog) (w := w) h4 (by simpa [PyData.showable] using hs) (fun t ht => Nat.le_trans (tupleText_mem_le ht) zz)
    obtain ⟨_, rr⟩ := (Sees.tuple h1 h2 h3 h4).reads
    have hna : a ∉ bs := not_mem_of_deeper rr (by simp only [PyData.depth]; omega) hb
    refine ⟨"tuple", "tuple.__repr__", F.slot_tuple_repr, F.slot_tuple_str, F.slot_tuple_format, fun s hk0 => ⟨o, hk0 _ _ h1, h2⟩, fun A E s Q hg hu hk0 hQ => ?_⟩
    simp only [PyData.depth] at hu
    simp only [PyData.shown] at hQ
    exact call_tuple_reprK h1 h2 h3 hna hk hg (fun b _ => Clear.nil b) hu hk0 hQ zz
  | dict h1 h2 h3 hy h4 h5 =>
    rename_i o es n kvs
    have zz : (dictText (PyData.shownKv kvs)).length ≤ sizeLine := by simpa only [PyData.shown] using hsz
    obtain ⟨s1, s2⟩ := PyData.showableKv_split kvs (by simpa [PyData.showable] using hs)
    obtain ⟨b1, hb1, k1⟩ := SeesAll.reprK (prog := prog) (w := w) h4 s1 (fun t ht => let ⟨p, hp, hl⟩ := PyData.shownKv_key_le kvs t ht; Nat.le_trans hl (Nat.le_trans (dictText_mem_le hp) zz))
    obtain ⟨b2, hb2, k2⟩ := SeesAll.reprK (prog := prog) (w := w) h5 s2 (fun t ht => let ⟨p, hp, hl⟩ := PyData.shownKv_val_le kvs t ht; Nat.le_trans hl (Nat.le_trans (dictText_mem_le hp) zz))
    obtain ⟨_, rr⟩ := (Sees.dict h1 h2 h3 hy h4 h5).reads
    have hb : ReadAtMost h₀ (PyData.depthKv kvs) (b1 ++ b2) := (hb1.mono (PyData.depthAll_keys_le kvs)).append (hb2.mono (PyData.depthAll_vals_le kvs))
    have hna : a ∉ b1 ++ b2 := not_mem_of_deeper rr (by simp only [PyData.depth]; omega) hb
    refine ⟨"dict", "dict.__repr__", F.slot_dict_repr, F.slot_dict_str, F.slot_dict_format, fun s hk0 => ⟨o, hk0 _ _ h1, h2⟩, fun A E s Q hg hu hk0 hQ => ?_⟩
    simp only [PyData.depth] at hu
    simp only [PyData.shown, PyData.shownKv_eq] at hQ
    exact call_dict_reprK h1 h2 h3 hy hna (ReprEntriesK.of_two es.toList _ _
      (k1.more_le (fun b hb => List.mem_append_left _ hb) (PyData.depthAll_keys_le kvs))
      (k2.more_le (fun b hb => List.mem_append_right _ hb) (PyData.depthAll_vals_le kvs))) hg (fun b _ => Clear.nil b) hu hk0 hQ (by rw [← PyData.shownKv_eq]; exact zz)
/-- repr of data -/
theorem Sees.repr {A : Around} {E : Value → Shared → Prop} {s : Shared} {Q : Value → Shared → Prop} {v : Value} {d : PyData} (r : Sees s.heap v d) (hs : d.showable = true) (hsz : d.shown.length ≤ sizeLine) (hg : A.guards = some []) (hu : A.units + (d.depth + 1) < cLine)
    (hQ : ∀ h' u tk, (∀ b o, s.heap.get? b = some o → h'.get? b = some o) → Q (.str d.shown u) { s with heap := h', toks := tk }) : wpAny (model prog w) A (call (.builtin "repr") [v]) Q E s := by
  cases v with
  | ref a =>
    obtain ⟨T, idr, S⟩ := r.showsBy (prog := prog) (w := w) hs hsz
    exact call_repr_slot (by omega) (S.typeIs s fun _ _ e => e) S.slotRepr (S.call A.in1 E s _ hg (by show A.units + 1 + d.depth < cLine; omega) (fun _ _ e => e) fun h' u tk hk => ⟨_, _, rfl, hQ h' u tk hk⟩)
  | none => cases r with | none => exact P.repr_of_none (by have z := hQ s.heap s.toks (s.toks + 1) (fun _ _ e => e); simpa only [PyData.shown] using z)
  | bool b => cases r with | bool b => exact P.repr_of_bool (by have z := hQ s.heap s.toks (s.toks + 1) (fun _ _ e => e); simpa only [PyData.shown] using z)
  | int i t => cases r with | int i t => exact P.repr_of_int (by simpa [PyData.showable] using hs) (by have z := hQ s.heap s.toks (s.toks + 1) (fun _ _ e => e); simpa only [PyData.shown] using z)
  | str x t => cases r with | str x t => exact P.repr_of_str (by have z := hQ s.heap s.toks (s.toks + 1) (fun _ _ e => e); simpa only [PyData.shown] using z) (by simpa only [PyData.shown] using hsz)
  | ellipsis => cases r
  | notImplemented => cases r
  | float _ _ => cases r
  | bytes _ _ => cases r
  | type _ => cases r
  | builtin _ => cases r
end
end PySem

namespace Xv
open PySem PySem.Spec PyProof.Rows L2
/-! ### data, dicts among them -/
def kD : Key → PyData
  | .inl i => .int i
  | .inr x => .str x
mutual
inductive Dr (K : PySem.W.Frag) (H : Hp) : V → PyData → Prop
  | non : Dr K H .non .none
  | bl (b : Bool) : Dr K H (.bl b) (.bool b)
  | int (i : Int) : Dr K H (.int i) (.int i)
  | str (x : Str) : Dr K H (.str x) (.str x)
  | lst {a : Addr} {xs : List V} {ds : List PyData} : SqL K H a xs → DrAll K H xs ds → Dr K H (.ref a) (.list ds)
  | tup {a : Addr} {xs : List V} {ds : List PyData} : SqT K H a xs → DrAll K H xs ds → Dr K H (.ref a) (.tuple ds)
  | dct {a : Addr} {kvs : List (Key × V)} {ps : List (PyData × PyData)} : H a = some (.dK kvs) → DrKv K H kvs ps → Dr K H (.ref a) (.dict ps)
inductive DrAll (K : PySem.W.Frag) (H : Hp) : List V → List PyData → Prop
  | nil : DrAll K H [] []
  | cons {v : V} {vs : List V} {d : PyData} {ds : List PyData} : Dr K H v d → DrAll K H vs ds → DrAll K H (v :: vs) (d :: ds)
inductive DrKv (K : PySem.W.Frag) (H : Hp) : List (Key × V) → List (PyData × PyData) → Prop
  | nil : DrKv K H [] []
  | cons {k : Key} {v : V} {kvs : List (Key × V)} {d : PyData} {ps : List (PyData × PyData)} : Dr K H v d → DrKv K H kvs ps → DrKv K H ((k, v) :: kvs) ((kD k, d) :: ps)
end
theorem same_tup {K : PySem.W.Frag} {H H' : Hp} {a : Addr} {xs : List V} (e : Same H H') (h : SqT K H a xs) : SqT K H' a xs := by
  rcases h with (h | ⟨o, h⟩) | h
  · exact .inl (.inl (e _ _ h))
  · exact .inl (.inr ⟨o, e _ _ h⟩)
  · exact .inr h
mutual
theorem Dr.same {K : PySem.W.Frag} {H H' : Hp} (e : Same H H') : ∀ {v : V} {d : PyData}, Dr K H v d → Dr K H' v d
  | _, _, .non => .non
  | _, _, .bl b => .bl b
  | _, _, .int i => .int i
  | _, _, .str x => .str x
  | _, _, .lst h hs => .lst (e.seq h) (DrAll.same e hs)
  | _, _, .tup h hs => .tup (same_tup e h) (DrAll.same e hs)
  | _, _, .dct h h1 => .dct (e _ _ h) (DrKv.same e h1)
theorem DrAll.same {K : PySem.W.Frag} {H H' : Hp} (e : Same H H') : ∀ {vs : List V} {ds : List PyData}, DrAll K H vs ds → DrAll K H' vs ds
  | _, _, .nil => .nil
  | _, _, .cons h hs => .cons (Dr.same e h) (DrAll.same e hs)
theorem DrKv.same {K : PySem.W.Frag} {H H' : Hp} (e : Same H H') : ∀ {vs : List (Key × V)} {ds : List (PyData × PyData)}, DrKv K H vs ds → DrKv K H' vs ds
  | _, _, .nil => .nil
  | _, _, .cons h hs => .cons (Dr.same e h) (DrKv.same e hs)
end
section
variable {X : Cx} {pins : List (Addr × Obj)} {σ : St} {H : Hp} {s : Shared}
theorem key_sees {P : Program} {w : World} {h : Heap} {k : Key} {v : Value} (e : (mixKind P w).is k v = true) : Sees h v (kD k) := by
  rcases keyIs_shape e with ⟨i, t, rfl, rfl⟩ | ⟨x, t, rfl, rfl⟩
  · exact .int i t
  · exact .str x t
mutual
theorem Dr.sees (I : Inv X pins σ H s) : ∀ {v : V} {d : PyData}, Dr X.K H v d → ∀ {u : Value}, RelV v u → Sees s.heap u d
  | _, _, .non, _, r => by
    cases r
    exact .none
  | _, _, .bl b, _, r => by
    cases r
    exact .bool b
  | _, _, .int i, _, r => by
    obtain ⟨t, rfl⟩ := r
    exact .int i t
  | _, _, .str x, _, r => by
    obtain ⟨t, rfl⟩ := r
    exact .str x t
  | _, _, .lst hs ha, _, r => by
    cases r
    obtain ⟨its, rv, ⟨o, n, ho, hc, _, hd⟩, _⟩ := I.list hs
    exact .list ho hc hd (DrAll.sees I ha rv)
  | _, _, .tup hs ha, _, r => by
    cases r
    obtain ⟨its, rv, ⟨o, ho, hc, n, hd⟩, _⟩ := I.tuple hs
    exact .tuple ho hc hd (DrAll.sees I ha rv)
  | _, _, .dct ha h1, _, r => by
    cases r
    obtain ⟨_, hy, vs, rel, o, es, ep, ho, hx, hd, _, hp, _⟩ := dk_of I.hok ha
    obtain ⟨z1, z2⟩ := DrKv.sees I h1 rel hp
    exact .dict ho hx.1 hd hy z1 z2
theorem DrAll.sees (I : Inv X pins σ H s) : ∀ {vs : List V} {ds : List PyData}, DrAll X.K H vs ds → ∀ {us : List Value}, Vals vs us → SeesAll s.heap us ds
  | _, _, .nil, _, r => by
    cases r
    exact .nil
  | _, _, .cons h1 h2, _, r => by
    cases r with
    | cons r1 r2 => exact .cons (Dr.sees I h1 r1) (DrAll.sees I h2 r2)
theorem DrKv.sees (I : Inv X pins σ H s) : ∀ {kvs : List (Key × V)} {ps : List (PyData × PyData)}, DrKv X.K H kvs ps → ∀ {vs : List (Key × Value)} {es : List DictEntry}, KV kvs vs → PySem.Pairs (mixKind X.prog X.w) es vs →
    SeesAll s.heap (es.map (·.key)) (ps.map (·.1)) ∧ SeesAll s.heap (es.map (·.val)) (ps.map (·.2))
  | _, _, .nil, _, _, r, p => by
    cases r
    cases p
    exact ⟨.nil, .nil⟩
  | _, _, .cons (k := k) h1 h2, _, _, r, p => by
    cases r with
    | cons r1 r2 =>
      cases p with
      | cons hk hv p2 =>
        obtain ⟨e1, e2⟩ := r1
        dsimp only at e1 e2
        obtain ⟨z1, z2⟩ := DrKv.sees I h2 r2 p2
        rw [← e1] at hk
        rw [← hv] at e2
        exact ⟨.cons (key_sees hk) z1, .cons (Dr.sees I h1 e2) z2⟩
end
/-- repr(e), e data -/
@[irreducible] def rRepr (K : PySem.W.Frag) : List V → Hp → VK → Prop := fun xs H Q => ∃ v d, xs = [v] ∧ Dr K H v d ∧ d.showable = true ∧ d.depth ≤ 60 ∧ d.shown.length ≤ sizeLine ∧ Q (.str d.shown) H
theorem call_repr (hg : X.A.guards = some []) (hu : X.A.units + 64 < cLine) : CallR X (.builtin "repr") (rRepr X.K) := by
  intro pins s σ H xs us Q I r h
  unfold rRepr at h
  obtain ⟨v, d, rfl, hd, hs, hdp, hz, q⟩ := h
  obtain ⟨u, rfl, ru⟩ := vals1 r
  exact (Dr.sees I hd ru).repr hs hz hg (by omega) fun h' t tk k => ⟨.str d.shown, H, I.kept (t' := tk) k, ⟨t, rfl⟩, q⟩
end
/-! ### defs that are called while nothing is being shown -/
structure FnG (P : Program) (w : World) (K : PySem.W.Frag) (mg : Str → Option Value) (base : Heap) (k : Nat) (f : Addr) (fd : FuncData) (ps : List Str) (sp : Sp) : Prop where
  len : ∀ vs H Q E, sp vs H Q E → vs.length = ps.length
  run : ∀ (A : Around) (outer : List Env) (s : Shared) (H : Hp) (args : Args) (us : List Value) (vs : List V) (Q : VK), Room k A → A.guards = some [] → Env0 P w K mg base A outer s H → BindsTo s fd args (ps.zip us) → Vals vs us → sp vs H Q E0 →
    codeAny (model P w) A (.call (.ref f) args) (CR CX0 outer P w H s Q E0) s
section
variable {P : Program} {w : World} {K : PySem.W.Frag} {mg : Str → Option Value} {base : Heap}
theorem Fun.okG {x qual : Str} {st : Stmt} {f : Addr} {fd : FuncData} {N ps : List Str} {k : Nat} {sp : Sp} (F : Fun K x qual st f fd) (S : FnScope N ps (defScope st)) (len : ∀ vs H Q E, sp vs H Q E → vs.length = ps.length)
    (hbody : ∀ (cdv : Value) (A : Around) (outer : List Env) (s : Shared) (H : Hp) (vs : List V) (Q : VK), Room k (A.deeper (envOfC qual (defScope st) s.heap.objs.size f cdv)) → (A.deeper (envOfC qual (defScope st) s.heap.objs.size f cdv)).guards = some [] → sp vs H Q E0 →
      ∃ t, PSs (cxOf CX0 P w K mg base N qual (defScope st) f cdv A outer s H E0).nox (defBody st) t ∧ t { nx := fun _ H' => Q .non H', rt := Q } (start N vs) H) : FnG P w K mg base (k + 1) f fd ps sp := by
  obtain ⟨oc, od, kV, doc, pm, an, cdv, ct, osl, rfl, lk, hcd⟩ := F.ex
  refine ⟨len, fun A outer s H args us vs Q hr hgd e0 hb r hsp => ?_⟩
  have hl := len _ _ _ _ hsp
  have X1 : K.In s.heap := e0.mod.kin.keeps fun b o e => (e0.bs b o e).1
  have lim : s.heap.NoLimit := e0.mod.nolimit.keeps fun b o e => (e0.bs b o e).1
  have kinds : ∀ y ∈ ps.zip us, (defScope st).names.lookup y.1 = some .local ∨ ((defScope st).names.lookup y.1 = some .cell ∧ ((cellsFrom (s.heap.objs.size + 1) (defScope st).names []).lookup y.1).isSome = true) := fun ⟨n, v⟩ hy => by
    rcases S.par n (List.of_mem_zip hy).1 with q | q
    · exact .inl q
    · exact .inr ⟨q, PySem.W.cellsFrom_some _ _ _ (.inl q)⟩
  refine codeAny_call_function hr.depth (X1 _ _ lk) rfl S.co S.gen rfl (PySem.W.codeRec_of X1 hcd) (hb _ _ _ _ ?_)
  refine wpAny_newFunctionEnv_cells S.kind kinds fun env he s1 x => ?_
  subst he
  refine ⟨lim.keeps x.toInCall.keep, codeAny_func ?_⟩
  obtain ⟨t, ht, hq⟩ := hbody cdv A outer s H vs Q (hr.deeper _) hgd hsp
  have I : Inv (cxOf CX0 P w K mg base N qual (defScope st) f cdv A outer s H E0) [] (start N vs) H s1 := inv_start S hr.hd e0 hl r x
  refine wpAny_mono (ht.nox.run [] s1 (start N vs) H _ I hq) (fun fl s' hs => ?_) fun e s' hs => hs
  have fin : ∀ {σ' : St} {H' : Hp} {v : V} {u : Value}, Inv (cxOf CX0 P w K mg base N qual (defScope st) f cdv A outer s H E0) [] σ' H' s' → RelV v u → Q v H' → CE outer P w H s Q u s' :=
    fun {σ' H' v u} J rv q => ⟨v, H', J.os, J.bare, J.base, J.hok, rv, q⟩
  cases fl with
  | ret u =>
    obtain ⟨v, σ', H', J, rv, q⟩ := hs
    exact fin J rv q
  | next =>
    obtain ⟨σ', H', J, q⟩ := hs
    exact fin (v := V.non) (u := Value.none) J rfl q
  | brk =>
    obtain ⟨_, _, _, q⟩ := hs
    exact False.elim q
  | cont =>
    obtain ⟨_, _, _, q⟩ := hs
    exact False.elim q
end
section
variable {X : Cx} {k : Nat} {f : Addr} {fd : FuncData} {ps : List Str} {sp : Sp} {x : Str} {p pos : Pos} {e : Expr} {es : List Expr} {t : TA}
theorem pe_callGd (F : FnG X.prog X.w X.K X.mg X.base k f fd ps sp) (hr : Room k X.A) (hgd : X.A.guards = some []) (hg : Gl X x) (hm : X.mg x = some (.ref f)) (hk : PySem.W.keepIn X.K (.ref f) = true) (hb : Binds X.K fd ps [])
    (ha : PA X (e :: es) t) (hdb : (x == ("__debug__" : Str)) = false := by decide) (he : starEach (e :: es) X.env = (false, eval e X.env) :: starEach es X.env := by rfl) (hpl : (backTo pos (starEach es X.env)).any (·.1) = false := by rfl) :
    PE X (.Call (.Name x p) (e :: es) [] pos) (tCall sp [] E0 t) := by
  refine ⟨fun pins s σ H Q I h => ?_⟩
  refine wpAny_Call_Name_kw (ld_glob I hg hm ?_ hdb)
  refine PySem.W.callWith_K (h₀ := X.base) I.ok.mod.kin hk (thn (ha.run pos pins s σ H _ I h) fun us s1 ⟨vs, H1, I1, r, q⟩ => ⟨I1.kIn, ?_⟩) he hpl
  dsimp only at q
  rw [List.append_nil] at q
  have hl : us.length = ps.length := by
    rw [← r.length]
    exact F.len _ _ _ _ q
  have bb := hb s1 us I1.kIn (by rw [List.append_nil]; exact hl)
  rw [List.append_nil] at bb
  refine wpAny_call (codeAny_mono (F.run X.A X.stack s1 H1 ⟨us, []⟩ us vs Q hr hgd I1.env0 bb r q) fun r s' hq => ?_)
  cases r with
  | error e => exact False.elim hq
  | ok fl =>
    cases fl with
    | ret u => exact I1.after hq
    | next => exact False.elim hq
    | brk => exact False.elim hq
    | cont => exact False.elim hq
end
/-! ### the law's call -/
theorem law_callG {P : Program} {w : World} {K : PySem.W.Frag} {mg mb : Str → Option Value} {k : Nat} {fa a : Addr} {fd : FuncData} {x : Str} {sp : Sp} {s₁ : Shared} {vs : List Value} {ns : List Int}
    (KX : K.In s₁.heap) (hns : s₁.heap.Ns mainGlobals mg) (hb : s₁.heap.Ns builtinsNs mb) (hbb : ∀ x : Str, x ≠ "__name__" → mb x = bootBuiltins x) (hlim : s₁.heap.NoLimit) (hg : s₁.gens = #[])
    (ha : s₁.heap.get? a = some { cls := .type "list", data := .seq vs.toArray }) (hi : IntsAre vs ns) (hl : ns.length ≤ sizeLine) (hr : Room k callerA)
    (F : ∀ base : Heap, K.In base → base.Ns mainGlobals mg → FnG P w K mg base k fa fd [x] sp) (hbind : ∀ (s : Shared) (u : Value), BindsTo s fd ⟨[u], []⟩ [(x, u)])
    (hsp : ∀ H : Hp, Only H → SqL K H a (ns.map V.int) → sp [.ref a] H (fun v _ => v = .bl true) E0) :
    codeAny (model P w) callerA (.call (.ref fa) ⟨[.ref a], []⟩) (fun r s' => r = .ok (.ret (.bool true)) ∧ OldK s₁.heap s'.heap ∧ s'.os = s₁.os ∧ AllBare s'.gens) s₁ := by
  have rv := vals_ints hi
  have lenV := hi.length
  have core : ∀ H : Hp, Only H → SqL K H a (ns.map V.int) → HOk P w H s₁.heap → (∀ b, H b ≠ none → b = a) → (H a ≠ none → K.lookup a = none) →
      codeAny (model P w) callerA (.call (.ref fa) ⟨[.ref a], []⟩) (fun r s' => r = .ok (.ret (.bool true)) ∧ OldK s₁.heap s'.heap ∧ s'.os = s₁.os ∧ AllBare s'.gens) s₁ := by
    intro H hO hS hok hA hK
    have noA : ∀ {b : Addr} {o : Obj} {es : Array DictEntry} {ep : Nat}, s₁.heap.get? b = some o → o.data = .dict es ep → H b = none := fun {b o es ep} e d => by
      cases q : H b with
      | none => rfl
      | some u =>
        obtain rfl : b = a := hA b (by rw [q]; simp)
        rw [ha] at e
        cases e
        cases (show Data.seq vs.toArray _ = Data.dict es ep from d)
    have nsK : ∀ {b : Addr} {m : Str → Option Value}, s₁.heap.Ns b m → (hidT s₁.heap H).Ns b m := fun {b m} ⟨o, es, ep, e, d, r⟩ => ⟨o, es, ep, hidT_get e (noA e d), d, r⟩
    have hKb : K.In (hidT s₁.heap H) := fun b o e => hidT_get (KX b o e) (by
      cases q : H b with
      | none => rfl
      | some u =>
        obtain rfl : b = a := hA b (by rw [q]; simp)
        rw [hK (by rw [q]; simp)] at e
        cases e)
    have hM : Mod K mg (hidT s₁.heap H) := ⟨hKb, nsK hns, ⟨mb, nsK hb, hbb⟩, let ⟨mc, h1, h2⟩ := hlim; ⟨mc, nsK h1, h2⟩⟩
    have e0 : Env0 P w K mg (hidT s₁.heap H) callerA [] s₁ H := ⟨rfl, hM, fun b o e => of_hidT e, Nat.le_of_eq (hidT_size _ _), trivial, fun b hb => absurd (show b ∈ ([] : List Addr) from hb) (by simp), hok, .of_eq hg⟩
    refine codeAny_mono ((F _ hKb (nsK hns)).run callerA [] s₁ H ⟨[.ref a], []⟩ [.ref a] [.ref a] _ hr rfl e0 (hbind s₁ (.ref a)) (.cons rfl .nil) (hsp H hO hS)) fun r s' h => ?_
    cases r with
    | error e => exact False.elim h
    | ok fl =>
      cases fl with
      | next => exact False.elim h
      | brk => exact False.elim h
      | cont => exact False.elim h
      | ret u =>
        obtain ⟨v, H', os, bare, un, hok', r', q⟩ := h
        obtain rfl : v = .bl true := q
        obtain rfl : u = Value.bool true := r'
        refine ⟨rfl, OldK.of_keep fun b o e => ?_, os, bare⟩
        cases q : H b with
        | none => exact un.keep b o e q (by intro z; exact absurd (show b ∈ ([] : List Addr) from z) (by simp)) (by simp)
        | some u =>
          rcases hO b with z | ⟨ob, xs, z⟩
          · rw [q] at z
            cases z
          · have z2 := un.frzs b ob _ z
            obtain ⟨e1, _⟩ := hok b _ z
            obtain ⟨e2, _⟩ := hok' b _ z2
            rw [e] at e1
            cases e1
            exact e2
  cases hk : K.lookup a with
  | some o =>
    have e := KX a o hk
    rw [ha] at e
    cases e
    refine core (fun _ => none) (fun _ => .inl rfl) (.inr ⟨_, vs.toArray, _, hk, rfl, rfl, rfl, by rw [List.size_toArray, lenV]; exact hl, by simpa using rv⟩) (fun b u z => ?_) (fun b z => absurd rfl z) fun z => absurd rfl z
    cases (show (none : Option HO) = some u from z)
  | none =>
    refine core (fun b => if b = a then some (.frz { cls := .type "list", data := .seq vs.toArray } (.lst (ns.map V.int))) else none) (fun b => ?_) (.inl (.inr ⟨{ cls := .type "list", data := .seq vs.toArray }, if_pos rfl⟩)) (fun b u z => ?_) (fun b z => ?_) fun _ => hk
    · by_cases hb : b = a
      · exact .inr ⟨_, _, if_pos hb⟩
      · exact .inl (if_neg hb)
    · by_cases hb : b = a
      · cases (if_pos hb).symm.trans z
        subst hb
        exact ⟨ha, by rw [List.length_map]; exact hl, vs, _, rv, ha⟩
      · cases (if_neg hb).symm.trans z
    · by_cases hb : b = a
      · exact hb
      · exact absurd (if_neg hb) z
theorem walkG {l : PySem.W.OpenLaw} {n k : Nat} {q : Program} {loose : List Str} {XP : (Str → Option Value) → Heap → Prop} {YP : World → Heap → Prop} {d : DefRec} {K : Params → PySem.W.Frag} {sp : World → Sp} {x : Str}
    (hn : l.most = some n) (hn2 : n ≤ sizeLine) (hdf : d.params.defaults = []) (hr : Room k callerA)
    (hY : ∀ (w : World) (h : Heap), YP w h → (K w.params).In h)
    (F : ∀ (w : World) (mg : Str → Option Value) (fa : Addr) (h : Heap), (K w.params).In h → h.Ns mainGlobals mg → mg d.name = some (.ref fa) →
      ∃ fd : FuncData, (∀ (s : Shared) (u : Value), BindsTo s fd ⟨[u], []⟩ [(x, u)]) ∧
        ∀ base : Heap, (K w.params).In base → base.Ns mainGlobals mg → FnG l.prog w (K w.params) mg base k fa fd [x] (sp w))
    (hsp : ∀ (w : World) (H : Hp) (a : Addr) (ns : List Int), ns.length ≤ n → Only H → SqL (K w.params) H a (ns.map V.int) → sp w [.ref a] H (fun v _ => v = .bl true) E0) :
    PySem.W.WalkO q loose XP YP l.row.toRowW d [] (fun f vs => PySem.call f vs) := by
  refine Att.attach_call hn hdf fun w s₀ s₁ mg mb fa o pm cd doc a vs ns G Y ho hd hcd hmg hobj hints hlen hg => ?_
  have KX := hY w _ Y
  obtain ⟨fd, hb, hF⟩ := F w mg fa _ KX G.T.g hmg
  exact law_callG KX G.T.g G.T.b G.T.builtins G.T.nolimit hg hobj hints (Nat.le_trans hlen hn2) hr hF hb (fun H hO hS => hsp w H a ns hlen hO hS)
end Xv

namespace PySem
namespace Xv
open PySem.W PySem.Calls PyProof.Rows
def supS : Scope := { kind := .function, names := [(PySem.Str.ofString "self", .local), (PySem.Str.ofString "__class__", .free), (PySem.Str.ofString "super", .globalImplicit)], isGenerator := false, isCoroutine := false, more := [] }
/-- what the written part says of an __init__ that hands a text on to the base's -/
structure SupT (prog : Program) (K : Frag) (C fI : Addr) (fd : FuncData) (i B newId : String) (bmB : List Value) : Prop where
  fn : ∃ (qual : Str) (params : Arguments) (kV doc pm : Value) (an : Option Addr) (cda cc : Addr) (ct oc : Value) (od : Option Addr) (osl : Array (Option Value)) (ar : Arg) (p0 p1 p2 p3 p4 p5 : Pos) (txt : Str) (kd : Nat)
      (vs : Array Value) (file : Str) (tf : Tok) (ccl cl : Value) (cdd cld : Option Addr) (ccs csl : Array (Option Value)),
    fd = ksFn "__init__" qual params [.Expr (.Call (.Attribute (.Call (.Name "super" p0) [] [] p1) "__init__" p2) [.Constant (.str txt) kd p3] [] p4) p5] supS .none kV doc pm an (.ref cda) ct cc ∧
    K.lookup fI = some ⟨oc, od, .func fd, osl⟩ ∧ codeIn K (.ref cda) qual = true ∧
    (params.posonlyargs ++ params.args).head? = some ar ∧ ar.arg = ("self" : Str) ∧
    K.lookup cda = some ⟨ccl, cdd, .fields vs, ccs⟩ ∧ vs[2]? = some (.str file tf) ∧ ((prog.main.file : Str) == file) = true ∧
    K.lookup cc = some ⟨cl, cld, .cell (some (.ref C)), csl⟩ ∧
    (∀ L : Addr, ∃ pl, eval (.Call (.Attribute (.Call (.Name "super" p0) [] [] p1) "__init__" p2) [.Constant (.str txt) kd p3] [] p4) (ksEnv qual supS L fI (.ref cda) cc) = (do
      let ov ← attributeBase (.Call (.Name "super" p0) [] [] p1) "__init__" (ksEnv qual supS L fI (.ref cda) cc) (eval (.Call (.Name "super" p0) [] [] p1) (ksEnv qual supS L fI (.ref cda) cc))
      standAt p2.atName
      let (f, first) ← holding [ov] (getMethod ov "__init__" pl)
      callWith p4 f first (backTo p4 (starEach [.Constant (.str txt) kd p3] (ksEnv qual supS L fI (.ref cda) cc))) []))
  hD : (clsIn K C).isSome = true
  sup : ks_superIn K C C "__init__" = some (some (.builtin i))
  self : mroIn K C (.ref C) = some true
  base : subIn K (.ref C) (.type B) = some true
  opq : nsIn K cStatics "thirdparty.any" = some none
  sup0 : nsIn K mainGlobals "super" = some none
  top : (prog.main.scope.names.lookup ("super" : Str)).isSome = false
  ini : excInitIn K C bmB newId = true
theorem sup_init {prog : Program} {w : World} {A : Around} {R : Result → Shared → Prop} {s : Shared} {K : Frag} {C fI x t0 : Addr} {fd : FuncData} {i B newId : String} {bmB : List Value} {mg mb : Str → Option Value} {args : Args}
    (T : SupT prog K C fI fd i B newId bmB) (KF : KxsFacts B i) (FB : ExcBaseFacts B newId i bmB) (X : K.In s.heap) (hlim : s.heap.NoLimit) (hG : s.heap.Ns mainGlobals mg) (hS : mg "super" = none) (hB : s.heap.Ns builtinsNs mb) (hBB : ∀ x : Str, x ≠ "__name__" → mb x = bootBuiltins x)
    (hx : s.heap.get? x = some (excObj C t0 none .none)) (hroom : A.depth < recursionLimit) (hbind : BindsTo s fd args [("self", .ref x)])
    (hq : ∀ h' tk t1, (∀ b o, b ≠ x → s.heap.get? b = some o → h'.get? b = some o) → h'.get? x = some (excObj C t1 none .none) → R (.ok (.ret .none)) { s with heap := h', toks := tk }) :
    codeAny (model prog w) A (.call (.ref fI) args) R s := by
  obtain ⟨qual, params, kV, doc, pm, an, cda, cc, ct, oc, od, osl, ar, p0, p1, p2, p3, p4, p5, txt, kd, vs, file, tf, ccl, cl, cdd, cld, ccs, csl, rfl, lk, hcd, hhead, har, hcda, hvs, hfile, hcc, hev⟩ := T.fn
  obtain ⟨cd, hcl⟩ := Option.isSome_iff_exists.mp T.hD
  obtain ⟨oD, hD1, hD2⟩ : ∃ oD, s.heap.get? C = some oD ∧ oD.data = .cls cd := by
    unfold clsIn at hcl
    split at hcl
    · rename_i c d cd' sl ho
      cases hcl
      exact ⟨_, X _ _ ho, rfl⟩
    · cases hcl
  refine ks_codeAny_call_defAt (fd := ksFn "__init__" qual params _ supS .none kV doc pm an (.ref cda) ct cc) (binds := [(("self" : Str), .ref x)]) hroom (X _ _ lk) rfl hlim (codeRec_of X hcd) rfl hbind (show ∀ y ∈ supS.names, y.2 ≠ .cell by decide) (fun y hy => by
    rcases List.mem_cons.mp hy with rfl | hy
    · rfl
    · cases hy) (fun h₁ hns hk₁ => ?_)
  have X₁ : K.In h₁ := X.keeps hk₁
  have hx₁ := hk₁ _ _ hx
  have I₁ : InstAt h₁ x (excObj C t0 none .none) C none := ⟨hx₁, rfl, rfl, trivial⟩
  obtain ⟨pl, hev⟩ := hev s.heap.objs.size
  refine ks_wpAt_execs_cons (ks_wpAt_Expr_any (ks_wpAt_MethodCall ?_ hev))
  refine ks_wpAt_super_base (env := ksEnv qual supS s.heap.objs.size fI (.ref cda) cc) rfl rfl (by decide +kernel) rfl (hk₁ _ _ (X _ _ lk)) rfl hhead rfl (hk₁ _ _ (X _ _ hcda)) rfl hvs hfile T.top ?_
  refine ks_loadName_global rfl rfl (loadGlobal_builtin (env := ksEnv qual supS s.heap.objs.size fI (.ref cda) cc) (hG.keeps hk₁) hS (hB.keeps hk₁) ((hBB _ (by decide +kernel)).trans PyProof.Rows.Boot.«super») ⟨rfl, ?_⟩)
  refine wpAny_loadName_free rfl rfl rfl ⟨_, hk₁ _ _ (X _ _ hcc), rfl⟩ ?_
  rw [har]
  refine wpAny_loadName_local (v := .ref x) rfl rfl hns (by rfl) ?_
  refine ks_wpAny_isType_cls (hk₁ _ _ hD1) hD2 ⟨rfl, ?_⟩
  refine ks_wpAny_call_super (hk₁ _ _ hD1) hD2 I₁.at_ I₁.cls (fun c e => nomatch e) (looks_mroIn X₁ T.self) (fun h₂ e₂ k₂ => ?_)
  have X₂ : K.In h₂ := X₁.keeps k₂
  have hx₂ := k₂ _ _ hx₁
  have I₂ : InstAt h₂ x (excObj C t0 none .none) C none := ⟨hx₂, rfl, rfl, trivial⟩
  have hI : Looks (model prog w) h₂ (isInstance (.ref x) (.type B)) true := I₂.type.andThen (looks_subIn X₂ T.base)
  have hm := T.sup
  unfold ks_superIn at hm
  rw [hcl] at hm
  refine kxs_getMethod KF e₂ (looks_opaque X₂ T.opq) (l₀ := cd.mro) (fun A Q E s k q => wpAny_bind ((looks_clsIn X₂ hcl) A _ E s k (wpAny_pure q))) rfl X₂ hm hI (ks_ne X₂ I₂ hcl) (by decide +kernel) ?_
  have hu : (h₂.push (kxs_mw i x)).get? h₂.objs.size = some (kxs_mw i x) := Heap.get?_push_at rfl rfl
  have k₃ : ∀ b o, s.heap.get? b = some o → (h₂.push (kxs_mw i x)).get? b = some o := fun b o e => Heap.get?_push_of_some _ (k₂ _ _ (hk₁ _ _ e))
  refine kxs_callWith (i := i) (x := x) rfl ?_
  refine evalArgs_plain ?_
  refine Calls.spliced_cons ?_
  show wpAny _ _ (eval (.Constant (.str txt) kd p3) (ksEnv qual supS s.heap.objs.size fI (.ref cda) cc)) _ _ _
  refine Calls.Constant_str ?_
  refine Calls.spliced_nil ⟨hu, ?_⟩
  obtain ⟨nm, N', qn, bs, bm, hdct, sn, sub, ab, col, dd, k0, k1, k2, k3, k5, hC, hT⟩ := excInit_of (X.keeps k₃) T.ini
  refine wpAny_call (codeAny_of_tree ?_)
  show wpAny _ _ (callAny (.ref h₂.objs.size) _) _ _ _
  simp only [callAny]
  refine wpAny_bind (wpAny_load hu ?_)
  simp only [kxs_mw, show (Value.type "method-wrapper" == Value.type "method" || Value.type "method-wrapper" == Value.type "builtin_function_or_method" || Value.type "method-wrapper" == Value.type "method-wrapper") = true by decide, if_true]
  refine KFB.if_so (by decide) ?_
  refine wpAny_bind (check_bound_init FB.toExcCallFacts hC (k₃ _ _ hx) rfl ?_)
  refine wpAny_bind (wpAny_pure (wpAny_pure ?_))
  refine ⟨plainId_quiet FB.init.plain _, codeAny_builtin FB.initEntry ?_⟩
  refine exc_init_tree (cls := .ref C) (t0 := t0) (dv := none) (c2 := .none) (c3 := .none) (b4 := .bool false) (k₃ _ _ hx) (by rw [sizeLine_eq]; show 1 ≤ 16777216; decide) (fun h' kk ex _ => ?_)
  refine wpAt_of_wpAny (wpAny_execs_nil ?_)
  exact hq _ _ _ (fun b o hb e => kk b o hb (k₃ _ _ e)) ex
end Xv
end PySem

namespace Xv
open PySem PySem.Spec PyProof.Rows L2
/-- a stronger reading -/
theorem PE.imp {X : Cx} {e : Expr} {t t' : TE} (h : PE X e t) (k : ∀ σ H Q, t' σ H Q → t σ H Q) : PE X e t' := ⟨fun pins s σ H Q I q => h.run pins s σ H Q I (k σ H Q q)⟩
/-! ### self.f = e -/
def tPut (K : PySem.W.Frag) (f : Str) (to te : TE) : TS := fun D σ H => te σ H fun y H1 => to σ H1 fun x H2 => ∃ (a C fI : Addr) (B newId initId : String) (bmB : List Value), x = .ref a ∧ Bas B newId initId bmB ∧ ExT K C fI newId bmB ∧ PySem.W.takerIn K C f = some none ∧
  ((H2 a = some (exo a C none) ∧ ∀ dx, H2 dx = none → dx ≠ a → D.nx σ (upd (upd H2 dx (exd dx [(f, y)])) a (exo a C (some dx)))) ∨
    ∃ (dx : Addr) (fs : List (Str × V)), H2 a = some (exo a C (some dx)) ∧ H2 dx = some (exd dx fs) ∧ fs.length ≤ 900 ∧ D.nx σ (upd H2 dx (exd dx ((f, y) :: fs))))
theorem ps_put {X : Cx} {o e : Expr} {to te : TE} {f : Str} {p' pos : Pos} (ho : PE X o to) (he : PE X e te) (hs : swapsWith e (some (.Attribute o f p')) pos.line X.env = pure false := by rfl) : PS X (.Assign [.Attribute o f p'] e pos) (tPut X.K f to te) := by
  refine ⟨fun pins s σ H D I h => ?_⟩
  refine plainObj_wpAny_Assign_Attribute (thn (he.run pins s σ H _ I h) fun v s1 ⟨y, H1, I1, r1, q1⟩ => thn (ho.run pins s1 σ H1 _ I1 q1) fun u s2 ⟨x, H2, I2, r2, a, C, fI, B, newId, initId, bmB, ex, b, T, hno, q⟩ => ?_) hs
  subst ex
  obtain rfl : u = Value.ref a := r2
  rcases q with ⟨ea, q⟩ | ⟨dx, fs, ea, ed, hl, q⟩
  · exact put_first b T I2 ea hno r1 fun dx s' n ne J => ⟨σ, _, J, q dx n ne⟩
  · exact put_more b T I2 ea ed hl hno r1 fun s' J => ⟨σ, _, J, q⟩
/-! ### exceptions as values -/
def XV (H : Hp) (C : Addr) (fo : Option (List (Str × V))) (x : V) : Prop := ∃ a, x = .ref a ∧ ((fo = none ∧ H a = some (exo a C none)) ∨ ∃ d fs, fo = some fs ∧ H a = some (exo a C (some d)) ∧ H d = some (exd d fs))
theorem XV.same {H H' : Hp} {C : Addr} {fo : Option (List (Str × V))} {x : V} (e : Same H H') (h : XV H C fo x) : XV H' C fo x := by
  obtain ⟨a, rfl, ⟨r, q⟩ | ⟨d, fs, r, q1, q2⟩⟩ := h
  · exact ⟨a, rfl, .inl ⟨r, e _ _ q⟩⟩
  · exact ⟨a, rfl, .inr ⟨d, fs, r, e _ _ q1, e _ _ q2⟩⟩
def spI1 (C : Addr) (f : Str) : Sp := fun vs H Q _ => ∃ (a : Addr) (v : V), vs = [.ref a, v] ∧ H a = some (exo a C none) ∧ ∀ dx, H dx = none → dx ≠ a → Q .non (upd (upd H dx (exd dx [(f, v)])) a (exo a C (some dx)))
def spI2 (C : Addr) (f g : Str) : Sp := fun vs H Q _ => ∃ (a : Addr) (v w : V), vs = [.ref a, v, w] ∧ H a = some (exo a C none) ∧ ∀ dx, H dx = none → dx ≠ a → ∀ H', Same H (fun b => if b = a then H a else H' b) → H' a = some (exo a C (some dx)) → H' dx = some (exd dx [(g, w), (f, v)]) → Q .non H'
def spI0 (C : Addr) : Sp := fun vs H Q _ => ∃ (a : Addr), vs = [.ref a] ∧ H a = some (exo a C none) ∧ Q .non H
section
variable {P : Program} {w : World} {K : PySem.W.Frag} {mg : Str → Option Value} {base : Heap} {fI C : Addr} {fd : FuncData} {qual f g : Str} {st : Stmt} {B newId initId : String} {bmB : List Value}
theorem ok_one (b : Bas B newId initId bmB) (T : ExT K C fI newId bmB) (hno : PySem.W.takerIn K C f = some none) (F : Fun K "__init__" qual st fI fd) (sc : FnScope ["self", f] ["self", f] (defScope st)) {p1 p2 p3 p4 : Pos}
    (hb : defBody st = [.Assign [.Attribute (.Name "self" p1) f p2] (.Name f p3) p4]) (vS : (defScope st).names.lookup ("self" : Str) = some .local) (vF : (defScope st).names.lookup f = some .local) (hd : (f == ("__debug__" : Str)) = false) (hcd : (f == ("__classdict__" : Str)) = false) :
    FnOk P w K mg base CX0 1 fI fd ["self", f] (spI1 C f) := by
  refine F.ok sc (fun vs H Q E h => ?_) (fun cdv A outer s H vs Q E hr h => ?_)
  · obtain ⟨a, v, rfl, _⟩ := h
    rfl
  · obtain ⟨a, v, rfl, ea, k⟩ := h
    rw [hb]
    refine ⟨_, pss_one (ps_put (pe_var (i := 0) rfl (.inl vS)) (pe_var (i := 1) rfl (.inl vF) hd hcd)), ?_⟩
    exact ⟨_, rfl, _, rfl, a, C, fI, B, newId, initId, bmB, rfl, b, T, hno, .inl ⟨ea, fun dx n ne => k dx n ne⟩⟩
theorem ok_two (b : Bas B newId initId bmB) (T : ExT K C fI newId bmB) (hno : PySem.W.takerIn K C f = some none) (hno2 : PySem.W.takerIn K C g = some none) (F : Fun K "__init__" qual st fI fd) (sc : FnScope ["self", f, g] ["self", f, g] (defScope st)) {p1 p2 p3 p4 q1 q2 q3 q4 : Pos}
    (hb : defBody st = [.Assign [.Attribute (.Name "self" p1) f p2] (.Name f p3) p4, .Assign [.Attribute (.Name "self" q1) g q2] (.Name g q3) q4]) (vS : (defScope st).names.lookup ("self" : Str) = some .local) (vF : (defScope st).names.lookup f = some .local) (vG : (defScope st).names.lookup g = some .local)
    (hd : (f == ("__debug__" : Str)) = false) (hcd : (f == ("__classdict__" : Str)) = false) (gd : (g == ("__debug__" : Str)) = false) (gcd : (g == ("__classdict__" : Str)) = false) :
    FnOk P w K mg base CX0 1 fI fd ["self", f, g] (spI2 C f g) := by
  refine F.ok sc (fun vs H Q E h => ?_) (fun cdv A outer s H vs Q E hr h => ?_)
  · obtain ⟨a, v, w, rfl, _⟩ := h
    rfl
  · obtain ⟨a, v, w, rfl, ea, k⟩ := h
    rw [hb]
    refine ⟨_, pss_cons (ps_put (pe_var (i := 0) rfl (.inl vS)) (pe_var (i := 1) rfl (.inl vF) hd hcd)) (pss_one (ps_put (pe_var (i := 0) rfl (.inl vS)) (pe_var (i := 2) rfl (.inl vG) gd gcd))), ?_⟩
    refine ⟨_, rfl, _, rfl, a, C, fI, B, newId, initId, bmB, rfl, b, T, hno, .inl ⟨ea, fun dx n ne => ?_⟩⟩
    refine ⟨_, rfl, _, rfl, a, C, fI, B, newId, initId, bmB, rfl, b, T, hno2, .inr ⟨dx, _, upd_same, by rw [upd_ne ne, upd_same], by show 1 ≤ 900; decide, ?_⟩⟩
    refine k dx n ne _ (fun c o q => ?_) (by rw [upd_ne ne.symm, upd_same]) upd_same
    by_cases hc : c = a
    · subst hc
      simp only [if_true]
      exact q
    · simp only [if_neg hc]
      rw [upd_ne (ne_of_none q n), upd_ne hc, upd_ne (ne_of_none q n)]
      exact q
/-- an __init__ that hands a text on -/
theorem ok_sup (T : PySem.Xv.SupT P K C fI fd initId B newId bmB) (KF : PySem.W.KxsFacts B initId) (FB : ExcBaseFacts B newId initId bmB) (hS : mg "super" = none) :
    FnOk P w K mg base CX0 1 fI fd ["self"] (spI0 C) := by
  refine ⟨fun vs H Q E h => ?_, fun A outer s H args us vs Q E hr e0 hb r h => ?_⟩
  · obtain ⟨a, rfl, _⟩ := h
    rfl
  · obtain ⟨a, rfl, ea, k⟩ := h
    cases r with
    | cons r1 r2 =>
      cases r2
      cases r1
      obtain ⟨t0, ho⟩ := exo_at e0.hok ea
      have kb : ∀ b o, base.get? b = some o → s.heap.get? b = some o := fun b o e => (e0.bs b o e).1
      obtain ⟨mb, h1, h2⟩ := e0.mod.blt
      refine PySem.Xv.sup_init (x := a) (t0 := t0) T KF FB (e0.mod.kin.keeps kb) (e0.mod.nolimit.keeps kb) (e0.mod.glob.keeps kb) hS (h1.keeps kb) h2 ho hr.depth hb fun h' tk t1 kk ex => ?_
      have eu : upd H a (exo a C none) = H := by
        funext b
        by_cases hb : b = a
        · rw [hb, upd_same, ea]
        · rw [upd_ne hb]
      have mu : Mut (H a) := by
        rw [ea]
        exact True.intro
      have U := Un.write (fs := frs outer) (ex := []) (o := exo a C none) mu (.inl rfl) kk ⟨_, ex⟩
      have W := HOk.write (o' := exo a C none) e0.hok mu (.inl rfl) kk ⟨_, ex⟩ (exo_ok ex)
      rw [eu] at U W
      exact ⟨.non, H, rfl, e0.bare, U, W, rfl, k⟩
end
/-! ### classes of exceptions, by their names -/
/-- a class with one field f -/
structure Ex1 (P : Program) (w : World) (K : PySem.W.Frag) (mg : Str → Option Value) (base : Heap) (x : Str) (C : Addr) (f : Str) : Prop where
  ex : ∃ (fI : Addr) (fd : FuncData) (B newId initId : String) (bmB : List Value), Bas B newId initId bmB ∧ ExT K C fI newId bmB ∧ FnOk P w K mg base CX0 1 fI fd ["self", f] (spI1 C f) ∧ Binds K fd ["self", f] [] ∧ KBn K fd ["self", f] 1 [f] (fun us ws => us ++ ws) (fun vs zs => vs ++ zs)
  gm : mg x = some (.ref C)
structure Ex2 (P : Program) (w : World) (K : PySem.W.Frag) (mg : Str → Option Value) (base : Heap) (x : Str) (C : Addr) (f g : Str) : Prop where
  ex : ∃ (fI : Addr) (fd : FuncData) (B newId initId : String) (bmB : List Value), Bas B newId initId bmB ∧ ExT K C fI newId bmB ∧ FnOk P w K mg base CX0 1 fI fd ["self", f, g] (spI2 C f g) ∧ Binds K fd ["self", f, g] [] ∧ KBn K fd ["self", f, g] 1 [g, f] (fun us ws => us ++ ws.reverse) (fun vs zs => vs ++ zs.reverse)
  gm : mg x = some (.ref C)
structure Ex0 (P : Program) (w : World) (K : PySem.W.Frag) (mg : Str → Option Value) (base : Heap) (x : Str) (C : Addr) : Prop where
  ex : ∃ (fI : Addr) (fd : FuncData) (B newId initId : String) (bmB : List Value), Bas B newId initId bmB ∧ ExT K C fI newId bmB ∧ FnOk P w K mg base CX0 1 fI fd ["self"] (spI0 C) ∧ Binds K fd ["self"] []
  gm : mg x = some (.ref C)
/-- X(e): a new exception -/
def tNew (C : Addr) (ta : TA) (fo : List V → Option (List (Str × V))) (n : Nat) : TE := fun σ H Q => ta σ H fun vs H1 => vs.length = n ∧ ∀ H2 x, Same H1 H2 → XV H2 C (fo vs) x → Q x H2
section
variable {X : Cx} {x f g : Str} {C : Addr} {e e2 : Expr} {ta : TA} {te te2 : TE} {p pos kp kp2 : Pos} {k : Nat}
theorem new_one {H1 : Hp} {v : V} {Q : VK} (q : ∀ H2 x, Same H1 H2 → XV H2 C (some [(f, v)]) x → Q x H2) (a : Addr) (n : H1 a = none) : spI1 C f [.ref a, v] (upd H1 a (exo a C none)) (fun u H2 => u = .non ∧ Q (.ref a) H2) E0 := by
  refine ⟨a, v, rfl, upd_same, fun dx nd ne => ⟨rfl, q _ _ (fun b o hb => ?_) ⟨a, rfl, .inr ⟨dx, _, rfl, upd_same, by rw [upd_ne ne, upd_same]⟩⟩⟩⟩
  rw [upd_ne ne] at nd
  rw [upd_ne (ne_of_none hb n), upd_ne (ne_of_none hb nd), upd_ne (ne_of_none hb n)]
  exact hb
theorem new_two {H1 : Hp} {v w : V} {Q : VK} (q : ∀ H2 x, Same H1 H2 → XV H2 C (some [(g, w), (f, v)]) x → Q x H2) (a : Addr) (n : H1 a = none) : spI2 C f g [.ref a, v, w] (upd H1 a (exo a C none)) (fun u H2 => u = .non ∧ Q (.ref a) H2) E0 := by
  refine ⟨a, v, w, rfl, upd_same, fun dx nd ne H' s ea ed => ⟨rfl, q _ _ (fun b o hb => ?_) ⟨a, rfl, .inr ⟨dx, _, rfl, ea, ed⟩⟩⟩⟩
  have z := s b o (by rw [upd_ne (ne_of_none hb n)]; exact hb)
  simp only [if_neg (ne_of_none hb n)] at z
  exact z
/-- arguments' readings may be weakened behind -/
def tMonA (t : TA) : TA := fun σ H Q => ∃ Q0 : List V → Hp → Prop, t σ H Q0 ∧ ∀ vs H1, Q0 vs H1 → Q vs H1
theorem pa_mon {es : List Expr} {t : TA} (h : PA X es t) : PA X es (tMonA t) := ⟨fun pos pins s σ H Q I ⟨Q0, q0, k⟩ => thn (h.run pos pins s σ H Q0 I q0) fun us s1 ⟨vs, H1, I1, r, q⟩ => ⟨vs, H1, I1, r, k vs H1 q⟩⟩
theorem pk_mon {kws : List Keyword} {t : TA} (h : PK X kws t) : PK X kws (tMonA t) := ⟨fun pos pins s σ H Q I ⟨Q0, q0, k⟩ => thn (h.run pos pins s σ H Q0 I q0) fun us s1 ⟨vs, H1, I1, r, q⟩ => ⟨vs, H1, I1, r, k vs H1 q⟩⟩
theorem pe_new1 (c : Ex1 X.prog X.w X.K X.mg X.base x C f) (hr : Room k X.A) (hk : 2 ≤ k) (hg : Gl X x) (ha : PA X [e] ta) (hdb : (x == ("__debug__" : Str)) = false := by decide) (he : starEach [e] X.env = (false, eval e X.env) :: starEach [] X.env := by rfl) :
    PE X (.Call (.Name x p) [e] [] pos) (tNew C ta (fun vs => some [(f, vs.headD .non)]) 1) := by
  obtain ⟨fI, fd, B, newId, initId, bmB, b, T, F, bi, _⟩ := c.ex
  refine PE.imp (pe_exv b T F (hr.mono hk) bi hg c.gm (pa_mon ha) hdb he (by rfl)) fun σ H Q h => ⟨_, h, fun vs H1 q => ?_⟩
  obtain ⟨hl, q⟩ := q
  match vs, hl with
  | [v], _ => exact ⟨by show 1 ≤ 1000; decide, fun a n => new_one q a n⟩
theorem pe_new2 (c : Ex2 X.prog X.w X.K X.mg X.base x C f g) (hr : Room k X.A) (hk : 2 ≤ k) (hg : Gl X x) (ha : PA X [e, e2] ta) (hdb : (x == ("__debug__" : Str)) = false := by decide) (he : starEach [e, e2] X.env = (false, eval e X.env) :: starEach [e2] X.env := by rfl)
    (hpl : (backTo pos (starEach [e2] X.env)).any (·.1) = false := by rfl) :
    PE X (.Call (.Name x p) [e, e2] [] pos) (tNew C ta (fun vs => some [(g, vs.getD 1 .non), (f, vs.headD .non)]) 2) := by
  obtain ⟨fI, fd, B, newId, initId, bmB, b, T, F, bi, _⟩ := c.ex
  refine PE.imp (pe_exv b T F (hr.mono hk) bi hg c.gm (pa_mon ha) hdb he hpl) fun σ H Q h => ⟨_, h, fun vs H1 q => ?_⟩
  obtain ⟨hl, q⟩ := q
  match vs, hl with
  | [v, w], _ => exact ⟨by show 2 ≤ 1000; decide, fun a n => new_two q a n⟩
theorem pe_new0 (c : Ex0 X.prog X.w X.K X.mg X.base x C) (hr : Room k X.A) (hk : 2 ≤ k) (hg : Gl X x) (hdb : (x == ("__debug__" : Str)) = false := by decide) :
    PE X (.Call (.Name x p) [] [] pos) (tNew C tNil (fun _ => none) 0) := by
  obtain ⟨fI, fd, B, newId, initId, bmB, b, T, F, bi⟩ := c.ex
  refine PE.imp (pe_exv0 b T F (hr.mono hk) bi hg c.gm hdb) fun σ H Q h => ?_
  obtain ⟨_, q⟩ := h
  exact ⟨by decide, fun a n => ⟨a, rfl, upd_same, rfl, q _ _ (fun b o hb => by rw [upd_ne (ne_of_none hb n)]; exact hb) ⟨a, rfl, .inl ⟨rfl, upd_same⟩⟩⟩⟩
theorem pe_new1K (c : Ex1 X.prog X.w X.K X.mg X.base x C f) (hr : Room k X.A) (hk : 2 ≤ k) (hg : Gl X x) (he : PE X e te) (hdb : (x == ("__debug__" : Str)) = false := by decide) :
    PE X (.Call (.Name x p) [] [⟨some f, e, kp⟩] pos) (tNew C (tCons te tNil) (fun vs => some [(f, vs.headD .non)]) 1) := by
  obtain ⟨fI, fd, B, newId, initId, bmB, b, T, F, _, bi⟩ := c.ex
  refine PE.imp (pe_exvK b T F (hr.mono hk) bi hg c.gm (pk_mon (pk_cons he pk_nil)) (by rfl) (by rfl) hdb (by rfl)) fun σ H Q h => ⟨_, h, fun vs H1 q => ?_⟩
  obtain ⟨hl, q⟩ := q
  match vs, hl with
  | [v], _ => exact ⟨rfl, fun a n => new_one q a n⟩
theorem pe_new2K (c : Ex2 X.prog X.w X.K X.mg X.base x C f g) (hr : Room k X.A) (hk : 2 ≤ k) (hg : Gl X x) (he : PE X e te) (he2 : PE X e2 te2) (hdb : (x == ("__debug__" : Str)) = false := by decide) :
    PE X (.Call (.Name x p) [] [⟨some g, e, kp⟩, ⟨some f, e2, kp2⟩] pos) (tNew C (tCons te (tCons te2 tNil)) (fun vs => some [(g, vs.headD .non), (f, vs.getD 1 .non)]) 2) := by
  obtain ⟨fI, fd, B, newId, initId, bmB, b, T, F, _, bi⟩ := c.ex
  refine PE.imp (pe_exvK b T F (hr.mono hk) bi hg c.gm (pk_mon (pk_cons he (pk_cons he2 pk_nil))) (by rfl) (by rfl) hdb (by rfl)) fun σ H Q h => ⟨_, h, fun vs H1 q => ?_⟩
  obtain ⟨hl, q⟩ := q
  match vs, hl with
  | [v, w], _ => exact ⟨rfl, fun a n => new_two q a n⟩
/-! ### fields and classes of such values -/
def tXat (K : PySem.W.Frag) (f : Str) (te : TE) : TE := fun σ H Q => te σ H fun x H1 => ∃ C fs v, XV H1 C (some fs) x ∧ ExcC K C ∧ PySem.W.findIn K (.ref C) f = some none ∧ fs.lookup f = some v ∧ Q v H1
theorem pe_mon {X : Cx} {e : Expr} {t : TE} (h : PE X e t) : PE X e (fun σ H Q => ∃ Q0 : VK, t σ H Q0 ∧ ∀ v H1, Q0 v H1 → Q v H1) := ⟨fun pins s σ H Q I ⟨Q0, q0, k⟩ => thn (h.run pins s σ H Q0 I q0) fun u s1 ⟨v, H1, I1, r, q⟩ => ⟨v, H1, I1, r, k v H1 q⟩⟩
theorem pe_xat (he : PE X e te) (hb : attributeBase e f X.env (eval e X.env) = eval e X.env := by rfl) : PE X (.Attribute e f pos) (tXat X.K f te) := by
  refine PE.imp (pe_xf (pe_mon he) hb) fun σ H Q h => ⟨_, h, fun x H1 q => ?_⟩
  obtain ⟨C, fs, v, ⟨a, rfl, ⟨r, _⟩ | ⟨d, fs', r, q1, q2⟩⟩, T, hno, hl, q⟩ := q
  · cases r
  · cases r
    exact ⟨a, C, d, fs, v, rfl, T, hno, q1, q2, hl, q⟩
def rXis (K : PySem.W.Frag) : List V → Hp → VK → Prop := fun xs H Q => ∃ (x c : V) (C : Addr) (fo : Option (List (Str × V))) (cv : Value) (b : Bool), xs = [x, c] ∧ ClsV c cv ∧ ExcC K C ∧ XV H C fo x ∧ PySem.W.kitOne K (.ref C) cv = some b ∧ Q (.bl b) H
theorem call_xis : CallR X (.builtin "isinstance") (rXis X.K) := by
  intro pins s σ H xs us Q I r h
  obtain ⟨x, c, C, fo, cv, b, rfl, k, T, ⟨a, rfl, v⟩, e, q⟩ := h
  rcases v with ⟨rfl, ea⟩ | ⟨d, fs, rfl, ea, ed⟩
  · exact call_xi pins s σ H _ us Q I r ⟨a, C, none, c, cv, b, rfl, k, T, ea, (fun d z => nomatch z), e, q⟩
  · exact call_xi pins s σ H _ us Q I r ⟨a, C, some d, c, cv, b, rfl, k, T, ea, (fun d' z => by cases z; exact ⟨fs, ed⟩), e, q⟩
end
end Xv

namespace Xv
open PySem PySem.Spec PyProof.Rows L2
/-! ### a def by its name -/
structure Cl (P : Program) (w : World) (K : PySem.W.Frag) (mg : Str → Option Value) (base : Heap) (k : Nat) (x : Str) (sp : Sp) : Prop where
  ex : ∃ (f : Addr) (fd : FuncData) (ps : List Str), FnOk P w K mg base CX0 k f fd ps sp ∧ mg x = some (.ref f) ∧ PySem.W.keepIn K (.ref f) = true ∧ Binds K fd ps []
structure ClG (P : Program) (w : World) (K : PySem.W.Frag) (mg : Str → Option Value) (base : Heap) (k : Nat) (x : Str) (sp : Sp) : Prop where
  ex : ∃ (f : Addr) (fd : FuncData) (ps : List Str), FnG P w K mg base k f fd ps sp ∧ mg x = some (.ref f) ∧ PySem.W.keepIn K (.ref f) = true ∧ Binds K fd ps []
section
variable {X : Cx} {x : Str} {p pos : Pos} {e : Expr} {es : List Expr} {t : TA} {k j : Nat} {sp : Sp}
theorem pe_cl (c : Cl X.prog X.w X.K X.mg X.base k x sp) (hr : Room j X.A) (hk : k ≤ j) (hg : Gl X x) (ha : PA X (e :: es) t)
    (hdb : (x == ("__debug__" : Str)) = false := by decide) (he : starEach (e :: es) X.env = (false, eval e X.env) :: starEach es X.env := by rfl) (hpl : (backTo pos (starEach es X.env)).any (·.1) = false := by rfl) :
    PE X (.Call (.Name x p) (e :: es) [] pos) (tCall sp [] E0 t) := by
  obtain ⟨f, fd, ps, F, hm, kp, b⟩ := c.ex
  exact pe_call F (hr.mono hk) hg hm kp b .nil pass0 ha hdb he hpl
theorem pe_clG (c : ClG X.prog X.w X.K X.mg X.base k x sp) (hr : Room j X.A) (hk : k ≤ j) (hgd : X.A.guards = some []) (hg : Gl X x) (ha : PA X (e :: es) t)
    (hdb : (x == ("__debug__" : Str)) = false := by decide) (he : starEach (e :: es) X.env = (false, eval e X.env) :: starEach es X.env := by rfl) (hpl : (backTo pos (starEach es X.env)).any (·.1) = false := by rfl) :
    PE X (.Call (.Name x p) (e :: es) [] pos) (tCall sp [] E0 t) := by
  obtain ⟨f, fd, ps, F, hm, kp, b⟩ := c.ex
  exact pe_callGd F (hr.mono hk) hgd hg hm kp b ha hdb he hpl
end
/-! ### heaps -/
theorem same_upd {H : Hp} {p : Addr} {o : HO} (n : H p = none) : Same H (upd H p o) := fun b u e => by
  rw [upd_ne (ne_of_none e n)]
  exact e
theorem Same.upd {H H' : Hp} {p : Addr} {o : HO} (s : Same H H') (n : H' p = none) : Same H (upd H' p o) := s.trans (same_upd n)
/-- all but p is as it was -/
def But (p : Addr) (H H' : Hp) : Prop := ∀ b o, b ≠ p → H b = some o → H' b = some o
theorem But.refl (p : Addr) (H : Hp) : But p H H := fun _ _ _ h => h
theorem But.trans {p : Addr} {H H1 H2 : Hp} (a : But p H H1) (b : But p H1 H2) : But p H H2 := fun c o n h => b c o n (a c o n h)
theorem Same.but {p : Addr} {H H' : Hp} (s : Same H H') : But p H H' := fun b o _ h => s b o h
theorem But.upd {p : Addr} {H H' : Hp} {o : HO} (s : But p H H') : But p H (upd H' p o) := fun b u n h => by
  rw [upd_ne n]
  exact s b u n h
theorem But.new {p q : Addr} {H H' : Hp} {o : HO} (s : But p H H') (n : H' q = none) : But p H (L2.upd H' q o) := s.trans (Same.but (same_upd n))
/-- a pot: two numbers that are drawn from -/
def Pot (H : Hp) (p : Addr) : Prop := ∃ a b : Int, H p = some (.lst [.int a, .int b]) ∧ 0 ≤ a ∧ 0 ≤ b ∧ b < 4294967296
/-! ### short data -/
def Sml (d : PyData) : Prop := d.showable = true ∧ d.depth ≤ 10 ∧ d.shown.length ≤ 40
theorem sml_all : ∀ {ds : List PyData}, (∀ d ∈ ds, Sml d) → PyData.showableAll ds = true ∧ PyData.depthAll ds ≤ 10 ∧ ((PyData.shownAll ds).map (·.length)).sum ≤ 40 * ds.length ∧ (PyData.shownAll ds).length = ds.length
  | [], _ => by simp [PyData.showableAll, PyData.depthAll, PyData.shownAll]
  | d :: ds, h => by
    obtain ⟨h1, h2, h3, h4⟩ := sml_all (ds := ds) fun x hx => h x (List.mem_cons_of_mem _ hx)
    obtain ⟨k1, k2, k3⟩ := h d List.mem_cons_self
    refine ⟨?_, ?_, ?_, ?_⟩
    · simp only [PyData.showableAll, k1, h1, Bool.and_self]
    · simp only [PyData.depthAll]
      omega
    · simp only [PyData.shownAll, List.map_cons, List.sum_cons, List.length_cons]
      omega
    · simp only [PyData.shownAll, List.length_cons, h4]
theorem sml_list {ds : List PyData} (h : ∀ d ∈ ds, Sml d) (hz : ds.length ≤ 1000) : (PyData.list ds).showable = true ∧ (PyData.list ds).depth ≤ 60 ∧ (PyData.list ds).shown.length ≤ sizeLine := by
  obtain ⟨h1, h2, h3, h4⟩ := sml_all h
  refine ⟨by simpa only [PyData.showable] using h1, ?_, ?_⟩
  · simp only [PyData.depth]
    omega
  · simp only [PyData.shown]
    have z := listText_len_le (PyData.shownAll ds)
    rw [sizeLine_eq]
    omega
theorem DrAll.rep {K : PySem.W.Frag} {H : Hp} {v : V} {d : PyData} (h : Dr K H v d) : ∀ n, DrAll K H (List.replicate n v) (List.replicate n d)
  | 0 => .nil
  | n + 1 => by
    rw [List.replicate_succ, List.replicate_succ]
    exact .cons h (DrAll.rep h n)
theorem rep_flat {α : Type} (v : α) : ∀ n, (List.replicate n [v]).flatten = List.replicate n v
  | 0 => rfl
  | n + 1 => by
    rw [List.replicate_succ, List.flatten_cons, rep_flat v n, List.replicate_succ]
    rfl
/-! ### lists of exceptions -/
/-- each with its class and its fields -/
def XVs (H : Hp) (cfs : List (Addr × Option (List (Str × V)))) (es : List V) : Prop := Paired (fun c x => XV H c.1 c.2 x) cfs es
theorem XVs.same {H H' : Hp} (s : Same H H') {cfs : List (Addr × Option (List (Str × V)))} {es : List V} (h : XVs H cfs es) : XVs H' cfs es := Paired.mapP h fun _ _ q => q.same s
theorem XVs.append {H : Hp} : ∀ {cs ds : List (Addr × Option (List (Str × V)))} {es fs : List V}, XVs H cs es → XVs H ds fs → XVs H (cs ++ ds) (es ++ fs)
  | _, _, _, _, .nil, h => h
  | _, _, _, _, .cons a b, h => .cons a (XVs.append b h)
/-- new ones, all with the value that stands in slot j -/
def tX (C : Addr) (f : Str) (j : Nat) : TE := fun σ H Q => ∃ v, σ[j]? = some (some v) ∧ ∀ H' x, Same H H' → XV H' C (some [(f, v)]) x → Q x H'
def one (v : V) (c : Addr × Str) : Addr × Option (List (Str × V)) := (c.1, some [(c.2, v)])
def tXs (cs : List (Addr × Str)) (j : Nat) : TA := fun σ H Q => ∃ v, σ[j]? = some (some v) ∧ ∀ H' es, Same H H' → XVs H' (cs.map (one v)) es → Q es H'
section
variable {X : Cx} {x f : Str} {C : Addr} {e : Expr} {es : List Expr} {p pos kp ap : Pos} {k j : Nat} {cs : List (Addr × Str)} {n : Str}
theorem PA.imp {es : List Expr} {t t' : TA} (h : PA X es t) (k : ∀ σ H Q, t' σ H Q → t σ H Q) : PA X es t' := ⟨fun pos pins s σ H Q I q => h.run pos pins s σ H Q I (k σ H Q q)⟩
theorem pe_x (c : Ex1 X.prog X.w X.K X.mg X.base x C f) (hr : Room k X.A) (hk : 2 ≤ k) (hg : Gl X x) (ha : PE X (.Name n ap) (tVar j)) (hdb : (x == ("__debug__" : Str)) = false := by decide) (he : starEach [.Name n ap] X.env = (false, eval (.Name n ap) X.env) :: starEach [] X.env := by rfl) :
    PE X (.Call (.Name x p) [.Name n ap] [] pos) (tX C f j) :=
  PE.imp (pe_new1 c hr hk hg (pa_cons ha pa_nil (by exact he)) hdb he) fun σ H Q ⟨v, hv, q⟩ => ⟨v, hv, rfl, fun H2 x s h => q H2 x s h⟩
theorem pe_xK (c : Ex1 X.prog X.w X.K X.mg X.base x C f) (hr : Room k X.A) (hk : 2 ≤ k) (hg : Gl X x) (ha : PE X (.Name n ap) (tVar j)) (hdb : (x == ("__debug__" : Str)) = false := by decide) :
    PE X (.Call (.Name x p) [] [⟨some f, .Name n ap, kp⟩] pos) (tX C f j) :=
  PE.imp (pe_new1K c hr hk hg ha hdb) fun σ H Q ⟨v, hv, q⟩ => ⟨v, hv, rfl, fun H2 x s h => q H2 x s h⟩
theorem pa_xs1 (h : PE X e (tX C f j)) (hs : starEach [e] X.env = (false, eval e X.env) :: starEach [] X.env := by rfl) : PA X [e] (tXs [(C, f)] j) :=
  PA.imp (pa_cons h pa_nil hs) fun σ H Q ⟨v, hv, q⟩ => ⟨v, hv, fun H' x s h => q H' [x] s (.cons h .nil)⟩
theorem pa_xs (h : PE X e (tX C f j)) (hr : PA X es (tXs cs j)) (hs : starEach (e :: es) X.env = (false, eval e X.env) :: starEach es X.env := by rfl) : PA X (e :: es) (tXs ((C, f) :: cs) j) :=
  PA.imp (pa_cons h hr hs) fun σ H Q ⟨v, hv, q⟩ => ⟨v, hv, fun H' x s h => ⟨v, hv, fun H2 es s2 hh => q H2 (x :: es) (s.trans s2) (.cons (h.same s2) hh)⟩⟩
/-- a new list of such -/
def tXL (cs : List (Addr × Str)) (j : Nat) : TE := fun σ H Q => ∃ v, σ[j]? = some (some v) ∧ ∀ H' l es, Same H H' → H l = none → H' l = some (.lst es) → XVs H' (cs.map (one v)) es → Q (.ref l) H'
theorem pe_xl (h : PA X es (tXs cs j)) (hz : cs.length ≤ 100) : PE X (.List es pos) (tXL cs j) :=
  PE.imp (pe_lst h) fun σ H Q ⟨v, hv, q⟩ => ⟨v, hv, fun H' es s hh => ⟨by
    have z : (cs.map (one v)).length = es.length := Paired.length hh
    rw [List.length_map] at z
    rw [← z, sizeLine_eq]
    omega, fun l hl => q _ l es (s.trans (same_upd hl)) (s.free hl) upd_same (hh.same (same_upd hl))⟩⟩
end
/-! ### the fields of a list of exceptions -/
def AtV (K : PySem.W.Frag) (H : Hp) (f : Str) (x v : V) : Prop := ∃ C fs, XV H C (some fs) x ∧ ExcC K C ∧ PySem.W.findIn K (.ref C) f = some none ∧ fs.lookup f = some v
theorem AtV.same {K : PySem.W.Frag} {H H' : Hp} {f : Str} {x v : V} (s : Same H H') (h : AtV K H f x v) : AtV K H' f x v := by
  obtain ⟨C, fs, q, r⟩ := h
  exact ⟨C, fs, q.same s, r⟩
abbrev AtVs (K : PySem.W.Frag) (H : Hp) (f : Str) : List V → List V → Prop := Paired (AtV K H f)
theorem paired_get {α β : Type} {F : α → β → Prop} : ∀ {l₁ : List α} {l₂ : List β} {i : Nat} {x : α}, Paired F l₁ l₂ → l₁[i]? = some x → ∃ y, l₂[i]? = some y ∧ F x y
  | _, _, _, _, .nil, e => by simp at e
  | _, _, 0, _, .cons r _, e => by simp at e; subst e; exact ⟨_, rfl, r⟩
  | _, _, i + 1, x, .cons _ t, e => by
    obtain ⟨u, h1, h2⟩ := paired_get (i := i) (x := x) t (by simpa using e)
    exact ⟨u, by simpa using h1, h2⟩
theorem take_step {α : Type} {l : List α} {i : Nat} {x : α} (h : l[i]? = some x) : l.take (i + 1) = l.take i ++ [x] := by
  rw [List.take_succ, h]
  rfl
theorem attrs_end {K : PySem.W.Frag} {a : Addr} {xs vs : List V} {i : Nat} {f : Str} {σ : St} {H1 : Hp} {D : Addr} {Qd : Hp → Prop} (hs : SqL K H1 a xs) (hv : AtVs K H1 f xs vs) (hD : H1 D = none) (hz : xs.length ≤ 1000) (hi : i < σ.length)
    (hd : ∀ H2, Same H1 H2 → H2 D = some (.lst vs) → Qd H2) :
    ∃ W : Nat → Nat → Hp → Prop, (∃ m, W 0 m (upd H1 D (.lst []))) ∧ ∀ k m H, W k m H →
      ((Itl K a).stop k H ∧ Qd H) ∨ ((Itl K a).go k H ∧ ∃ Nx : Hp → Prop, (∀ H', Nx H' → ∃ m', m' < m ∧ W (k + 1) m' H') ∧ ∀ x H', (Itl K a).yld k H x H' → gName i x (wipe σ [i]) H' fun σ2 H2 => wipe σ2 [i] = wipe σ [i] ∧ tYes σ2 H2 fun b H3 =>
        if b = true then tXat K f (tVar i) σ2 H3 fun y H4 => ∃ acc, H4 D = some (.lst acc) ∧ acc.length < sizeLine ∧ Nx (upd H4 D (.lst (acc ++ [y]))) else Nx H3) := by
  have hl : xs.length = vs.length := Paired.length hv
  refine lc_list (K := K) (a := a) (xs := xs) (fun n H => H = upd H1 D (.lst (vs.take n)) ∧ n ≤ vs.length) ⟨by rw [List.take_zero], Nat.zero_le _⟩ (fun n H _ p => ?_) (fun n x H hx p => ?_) (fun H p => ?_)
  · rw [p.1]
    exact (same_upd hD).seq hs
  · obtain ⟨rfl, hn⟩ := p
    obtain ⟨v, hv1, hv2⟩ := paired_get hv hx
    have hn1 : n + 1 ≤ vs.length := (List.getElem?_eq_some_iff.mp hv1).1
    refine ⟨?_, ?_⟩
    · show wipe ((wipe σ [i]).set i (some x)) [i] = wipe σ [i]
      simp only [wipe]
      exact List.ext_getElem? fun m => by
        by_cases hm : m = i
        · subst hm
          simp [List.getElem?_set, wipe]
        · simp [List.getElem?_set, wipe, Ne.symm hm]
    · unfold tYes
      dsimp only
      rw [if_pos rfl]
      obtain ⟨C, fs, q, T, hno, hlk⟩ := hv2.same (same_upd (o := .lst (vs.take n)) hD)
      have hset : ((wipe σ [i]).set i (some x))[i]? = some (some x) := by
        rw [List.getElem?_set_self]
        rw [wipe_length]
        exact hi
      refine ⟨x, hset, C, fs, v, q, T, hno, hlk, vs.take n, upd_same, ?_, ?_, hn1⟩
      · rw [List.length_take, sizeLine_eq]
        omega
      · rw [upd_upd, take_step hv1]
  · obtain ⟨rfl, _⟩ := p
    rw [hl, List.take_length]
    exact hd _ (same_upd hD) upd_same
end Xv

namespace K10
open PySem PySem.Spec PyProof.Rows L2 Xv
def top (i : Nat) : Stmt := PySem.Challenge.pw_settlesfirst_k10_errors.main.body.getD i (.Pass ⟨0, 0, 0, 0⟩)
abbrev St := L2.St
/-- the names of builtins stand for them -/
structure Bl (mg : Str → Option Value) : Prop where
  len : mg "len" = none
  abs : mg "abs" = none
  max : mg "max" = none
  min : mg "min" = none
  int : mg "int" = none
  divmod : mg "divmod" = none
  repr : mg "repr" = none
  isinstance : mg "isinstance" = none
  enumerate : mg "enumerate" = none
  range : mg "range" = none
  all : mg "all" = none
  ValueError : mg "ValueError" = none
  LookupError : mg "LookupError" = none
  RuntimeError : mg "RuntimeError" = none
  ArithmeticError : mg "ArithmeticError" = none
abbrev s_pot : Stmt := top 39
abbrev N_pot : List Str := ["_law_script", "_law_k", "_law_cell"]
theorem sc_pot : FnScope N_pot ["_law_script", "_law_k"] (defScope s_pot) := ⟨rfl, rfl, rfl, by decide +kernel, rfl, by decide +kernel, by decide +kernel⟩
abbrev s_draw : Stmt := top 40
abbrev N_draw : List Str := ["_law_pot_here", "_law_many", "_law_digit"]
theorem sc_draw : FnScope N_draw ["_law_pot_here", "_law_many"] (defScope s_draw) := ⟨rfl, rfl, rfl, by decide +kernel, rfl, by decide +kernel, by decide +kernel⟩
abbrev s_pick : Stmt := top 41
abbrev N_pick : List Str := ["_law_pot_here", "_law_some"]
theorem sc_pick : FnScope N_pick ["_law_pot_here", "_law_some"] (defScope s_pick) := ⟨rfl, rfl, rfl, by decide +kernel, rfl, by decide +kernel, by decide +kernel⟩
abbrev s_thing : Stmt := top 42
abbrev N_thing : List Str := ["_law_pot_here"]
theorem sc_thing : FnScope N_thing ["_law_pot_here"] (defScope s_thing) := ⟨rfl, rfl, rfl, by decide +kernel, rfl, by decide +kernel, by decide +kernel⟩
/-! ### a heap without the pot -/
def Sans (p : Addr) (H : Hp) : Hp := fun b => if b = p then none else H b
theorem sans_ne {p b : Addr} {H : Hp} (n : b ≠ p) : Sans p H b = H b := if_neg n
theorem Sans.same (p : Addr) (H : Hp) : Same (Sans p H) H := fun b o h => by
  unfold Sans at h
  by_cases hb : b = p
  · rw [if_pos hb] at h
    cases h
  · rwa [if_neg hb] at h
theorem But.sans {p : Addr} {H H' : Hp} (h : But p H H') : Same (Sans p H) (Sans p H') := fun b o e => by
  unfold Sans at e ⊢
  by_cases hb : b = p
  · rw [if_pos hb] at e
    cases e
  · rw [if_neg hb] at e ⊢
    exact h b o hb e
/-- data that holds nothing of the pot -/
def Dat (K : PySem.W.Frag) (p : Addr) (H : Hp) (v : V) (d : PyData) : Prop := Dr K (Sans p H) v d ∧ Sml d
theorem Dat.but {K : PySem.W.Frag} {p : Addr} {H H' : Hp} {v : V} {d : PyData} (h : Dat K p H v d) (b : But p H H') : Dat K p H' v d := ⟨h.1.same (But.sans b), h.2⟩
theorem Dat.dr {K : PySem.W.Frag} {p : Addr} {H : Hp} {v : V} {d : PyData} (h : Dat K p H v d) : Dr K H v d := h.1.same (Sans.same p H)
theorem Pot.same {H H' : Hp} {p : Addr} (h : Pot H p) (s : Same H H') : Pot H' p := by
  obtain ⟨a, b, e, r⟩ := h
  exact ⟨a, b, s _ _ e, r⟩
theorem Pot.but {H H' : Hp} {p q : Addr} (h : Pot H q) (n : q ≠ p) (s : But p H H') : Pot H' q := by
  obtain ⟨a, b, e, r⟩ := h
  exact ⟨a, b, s _ _ n e, r⟩
theorem chain {p q q2 : Addr} {H : Hp} {o : HO} (hp : H p ≠ none) (n : H q = none) (n2 : upd H q o q2 = none) : But p H (upd H q o) ∧ upd H q o p ≠ none ∧ upd H q o q = some o ∧ q ≠ p := by
  have ne : q ≠ p := fun z => hp (z ▸ n)
  exact ⟨Same.but (same_upd n), by rw [upd_ne ne.symm]; exact hp, upd_same, ne⟩
/-! ### what each def does -/
def spPot (K : PySem.W.Frag) : Sp := fun vs H Q _ => ∃ (a : Addr) (ns : List Int) (k : Nat), vs = [.ref a, .int k] ∧ SqL K H a (ns.map V.int) ∧ k < 64 ∧ ∀ H' p, Same H H' → H p = none → Pot H' p → Q (.ref p) H'
def spDraw : Sp := fun vs H Q _ => ∃ (p : Addr) (n : Int), vs = [.ref p, .int n] ∧ Pot H p ∧ 0 < n ∧ n < 1073741824 ∧ ∀ H' (d : Int), But p H H' → Pot H' p → 0 ≤ d → d < n → Q (.int d) H'
def spPick : Sp := fun vs H Q _ => ∃ (p l : Addr) (xs : List V), vs = [.ref p, .ref l] ∧ Pot H p ∧ l ≠ p ∧ H l = some (.lst xs) ∧ 0 < xs.length ∧ xs.length < 1000 ∧ ∀ H' (i : Nat) x, xs[i]? = some x → But p H H' → Pot H' p → Q x H'
def spThing (K : PySem.W.Frag) : Sp := fun vs H Q _ => ∃ (p : Addr), vs = [.ref p] ∧ Pot H p ∧ ∀ H' v d, But p H H' → Pot H' p → Dat K p H' v d → Q v H'
section
variable {P : Program} {w : World} {K : PySem.W.Frag} {mg : Str → Option Value} {base : Heap}
theorem ok_pot {f : Addr} {fd : FuncData} (F : Fun K "_law_pot" "_law_pot" s_pot f fd) (T : Bl mg) : FnOk P w K mg base CX0 1 f fd ["_law_script", "_law_k"] (spPot K) := by
  refine F.ok sc_pot (fun vs H Q E h => ?_) (fun cdv A outer s H vs Q E hr h => ?_)
  · obtain ⟨a, ns, k, rfl, _⟩ := h
    rfl
  · obtain ⟨a, ns, k, rfl, hS, hk, q⟩ := h
    refine ⟨_, pss_cons (ps_set (i := 2) sc_pot.nd rfl (Or.inl rfl) (pe_op op_add (pe_op op_mul pe_int (pv 1)) pe_int))
      (pss_cons (ps_if (pt_cmpR op_lt (pv 1) (pe_callB call_len_seq (by rfl) T.len (by decide +kernel) (pa_cons (pv 0) pa_nil)) (nomark _)) (pss_one (ps_set (i := 2) sc_pot.nd rfl (Or.inl rfl) (pe_callB call_abs (by rfl) T.abs (by decide +kernel) (pa_cons (pe_ix ix_list (pv 0) (pv 1) (fun _ _ => rfl)) pa_nil)))) pss_nil)
      (pss_one (ps_ret (pe_lst (pa_cons (pe_callB (call_max2 rfl) (by rfl) T.max (by decide +kernel) (pa_cons pe_int (pa_cons (pe_op op_sub (pv 2) (pe_op op_pow pe_int pe_int)) pa_nil))) (pa_cons (pe_op op_add (pe_op op_mod (pe_callTy call_int1 (by rfl) T.int (by decide +kernel) (pa_cons (pe_op op_add (pe_op op_add (pe_op op_mul (pe_op op_mod (pe_callTy call_int1 (by rfl) T.int (by decide +kernel) (pa_cons (pv 2) pa_nil)) pe_int) pe_int) (pe_op op_mul pe_int (pv 1))) pe_int) pa_nil)) pe_int) pe_int) pa_nil)))))), ?_⟩
    have step : ∀ (c : Int), 0 ≤ c % 2147483543 + 1 ∧ c % 2147483543 + 1 < 4294967296 := fun c => by omega
    have step0 : ∀ (c : Int), 0 ≤ (if c > 0 then c else 0) := fun c => by split <;> omega
    refine ⟨_, rfl, _, _, rfl, rfl, .inl ⟨by decide, by decide⟩, _, _, rfl, rfl, ?_⟩
    refine ⟨_, rfl, _, rfl, _, _, rfl, .inl hS, _, _, rfl, rfl, _, rfl, ?_⟩
    refine ite2 (fun hlt => ?_) (fun _ => ?_)
    · have hlt' : k < (ns.map V.int).length := by
        have := of_decide_eq_true hlt
        omega
      have hat : atI (ns.map V.int) (k : Int) = some (V.int (ns[k]'(by simpa using hlt'))) := by
        unfold atI ixN
        rw [if_pos (by omega), if_pos (by omega)]
        simp at hlt' ⊢
      refine ⟨_, rfl, _, rfl, _, _, _, _, rfl, rfl, hS, hat, _, rfl, ?_⟩
      refine ⟨_, rfl, _, _, rfl, rfl, ⟨by decide, by decide, by decide⟩, _, _, rfl, rfl, _, _, rfl, ?_⟩
      refine ⟨_, rfl, .inl ⟨_, rfl, _, _, rfl, rfl, (show (0 : Int) < 2147483563 by decide), _, _, rfl, rfl, .inr ⟨by decide, by decide⟩, _, rfl, _, _, rfl, rfl, .inl ⟨by decide, by decide⟩, _, _, rfl, rfl, _, _, rfl, rfl, .inl ⟨_, rfl, _, _, rfl, rfl, (show (0 : Int) < 2147483543 by decide), _, _, rfl, rfl, ?_⟩⟩⟩
      exact ⟨by show 2 ≤ sizeLine; decide, fun p hp => q _ p (same_upd hp) hp ⟨_, _, upd_same, step0 _, (step _).1, (step _).2⟩⟩
    · refine ⟨_, rfl, _, _, rfl, rfl, ⟨by decide, by decide, by decide⟩, _, _, rfl, rfl, _, _, rfl, ?_⟩
      refine ⟨_, rfl, .inl ⟨_, rfl, _, _, rfl, rfl, (show (0 : Int) < 2147483563 by decide), _, _, rfl, rfl, .inr ⟨by decide, by decide⟩, _, rfl, _, _, rfl, rfl, .inl ⟨by decide, by decide⟩, _, _, rfl, rfl, _, _, rfl, rfl, .inl ⟨_, rfl, _, _, rfl, rfl, (show (0 : Int) < 2147483543 by decide), _, _, rfl, rfl, ?_⟩⟩⟩
      exact ⟨by show 2 ≤ sizeLine; decide, fun p hp => q _ p (same_upd hp) hp ⟨_, _, upd_same, step0 _, (step _).1, (step _).2⟩⟩
theorem ok_draw {f : Addr} {fd : FuncData} (F : Fun K "_law_draw" "_law_draw" s_draw f fd) (T : Bl mg) : FnOk P w K mg base CX0 1 f fd ["_law_pot_here", "_law_many"] spDraw := by
  refine F.ok sc_draw (fun vs H Q E h => ?_) (fun cdv A outer s H vs Q E hr h => ?_)
  · obtain ⟨p, n, rfl, _⟩ := h
    rfl
  · obtain ⟨p, n, rfl, ⟨a, b, hp, ha, hb, hb2⟩, hn, hn2, q⟩ := h
    refine ⟨_, pss_cons (ps_if (pt_cmpR op_gt (pe_ix ix_list (pv 0) pe_int (fun _ _ => rfl)) pe_int (nomark _)) (pss_cons (ps_asg (pe_callB call_divmod (by rfl) T.divmod (by decide +kernel) (pa_cons (pe_ix ix_list (pv 0) pe_int (fun _ _ => rfl)) (pa_cons (pv 1) pa_nil))) (pg_tup rfl (pgs_cons (pg_sub (pv 0) pe_int set_list) (pgs_cons (pg_name (i := 2) sc_draw.nd rfl (Or.inl rfl)) pgs_nil))))
  (pss_one (ps_ret (pv 2)))) pss_nil)
  (pss_cons (ps_asg (pe_op op_mod (pe_callTy call_int1 (by rfl) T.int (by decide +kernel) (pa_cons (pe_op op_add (pe_op op_mul (pe_ix ix_list (pv 0) pe_int (fun _ _ => rfl)) pe_int) pe_int) pa_nil)) pe_int) (pg_sub (pv 0) pe_int set_list))
  (pss_one (ps_ret (pe_op op_mod (pe_callTy call_int1 (by rfl) T.int (by decide +kernel) (pa_cons (pe_op op_fdiv (pe_op op_mod (pe_callTy call_int1 (by rfl) T.int (by decide +kernel) (pa_cons (pe_op op_mul (pe_ix ix_list (pv 0) pe_int (fun _ _ => rfl)) (pe_ix ix_list (pv 0) pe_int (fun _ _ => rfl))) pa_nil)) pe_int) pe_int) pa_nil)) (pv 1))))), ?_⟩
    have dm := Int.emod_nonneg a (show n ≠ 0 by omega)
    refine ⟨_, rfl, _, _, _, _, rfl, rfl, SqL.of hp, rfl, _, _, rfl, rfl, _, rfl, ?_⟩
    refine ite2 (fun _ => ?_) (fun _ => ?_)
    · refine ⟨_, rfl, _, _, _, _, rfl, rfl, SqL.of hp, rfl, _, rfl, _, _, rfl, ⟨hn, hn2⟩, fun t ht => ?_⟩
      have npt : p ≠ t := ne_of_none hp ht
      refine ⟨_, _, rfl, .inl (.inl upd_same), rfl, _, _, rfl, _, rfl, _, _, _, _, rfl, rfl, by rw [upd_ne npt]; exact hp, rfl, _, _, rfl, rfl, _, rfl, ?_⟩
      exact q _ _ (But.upd (Same.but (same_upd ht))) ⟨_, _, upd_same, Int.ediv_nonneg ha (by omega), hb, hb2⟩ dm (Int.emod_lt_of_pos a hn)
    · have z1 : ∀ c : Int, 0 ≤ c % 2147483543 ∧ c % 2147483543 < 4294967296 := fun c => by omega
      have z2 : ∀ c : Int, -(2 ^ 64) < c % 2147483543 ∧ c % 2147483543 < 2 ^ 64 := fun c => by omega
      refine ⟨_, rfl, _, _, _, _, rfl, rfl, SqL.of hp, rfl, _, _, rfl, rfl, .inr ⟨by decide, by decide⟩, _, _, rfl, rfl, .inl ⟨_, rfl, _, _, rfl, rfl, (show (0 : Int) < 2147483543 by decide), _, rfl, _, _, _, _, rfl, rfl, hp, rfl, ?_⟩⟩
      refine ⟨_, rfl, _, _, _, _, rfl, rfl, SqL.of upd_same, rfl, _, rfl, _, _, _, _, rfl, rfl, SqL.of upd_same, rfl, _, _, rfl, rfl, .inl (z2 _), .inl ⟨_, rfl, _, _, rfl, rfl, (show (0 : Int) < 2147483563 by decide), _, _, rfl, rfl, ⟨by decide, by decide⟩, .inl ⟨_, rfl, _, rfl, _, _, rfl, rfl, hn, ?_⟩⟩⟩
      exact q _ _ (But.upd (But.refl _ _)) ⟨_, _, upd_same, ha, (z1 _).1, (z1 _).2⟩ (Int.emod_nonneg _ (by omega)) (Int.emod_lt_of_pos _ hn)
theorem ok_pick {f : Addr} {fd : FuncData} (F : Fun K "_law_pick" "_law_pick" s_pick f fd) (T : Bl mg) (c_draw : Cl P w K mg base 1 "_law_draw" spDraw) : FnOk P w K mg base CX0 2 f fd ["_law_pot_here", "_law_some"] spPick := by
  refine F.ok sc_pick (fun vs H Q E h => ?_) (fun cdv A outer s H vs Q E hr h => ?_)
  · obtain ⟨p, l, xs, rfl, _⟩ := h
    rfl
  · obtain ⟨p, l, xs, rfl, hP, hne, hl, h0, h1, q⟩ := h
    refine ⟨_, pss_one (ps_ret (pe_ix ix_list (pv 1) (pe_cl c_draw hr (by decide) (by rfl) (pa_cons (pv 0) (pa_cons (pe_callB call_len_seq (by rfl) T.len (by decide +kernel) (pa_cons (pv 1) pa_nil)) pa_nil))) (fun _ _ => rfl))), ?_⟩
    refine ⟨_, rfl, _, rfl, _, rfl, _, _, rfl, .inl (SqL.of hl), _, _, rfl, hP, by omega, by omega, fun H' d hb hP' d0 dn => ?_⟩
    have hd : d.toNat < xs.length := by omega
    refine ⟨_, _, _, _, rfl, rfl, SqL.of (hb _ _ hne hl), ?_, q H' d.toNat _ (List.getElem?_eq_getElem hd) hb hP'⟩
    unfold atI ixN
    rw [if_pos d0, if_pos dn]
    exact List.getElem?_eq_getElem hd
theorem ok_thing {f : Addr} {fd : FuncData} (F : Fun K "_law_thing" "_law_thing" s_thing f fd) (c_pick : Cl P w K mg base 2 "_law_pick" spPick) : FnOk P w K mg base CX0 3 f fd ["_law_pot_here"] (spThing K) := by
  refine F.ok sc_thing (fun vs H Q E h => ?_) (fun cdv A outer s H vs Q E hr h => ?_)
  · obtain ⟨p, rfl, _⟩ := h
    rfl
  · obtain ⟨p, rfl, hP, q⟩ := h
    refine ⟨_, pss_one (ps_ret (pe_cl c_pick hr (by decide) (by rfl) (pa_cons (pv 0) (pa_cons (pe_lst (pa_cons pe_non (pa_cons pe_int (pa_cons pe_int (pa_cons pe_bl (pa_cons (pe_un un_neg (pe_op op_pow pe_int pe_int)) (pa_cons pe_str (pa_cons pe_str (pa_cons (pe_tup (pa_cons pe_int (pa_cons pe_str pa_nil))) (pa_cons (pe_lst (pa_cons pe_int (pa_cons (pe_lst (pa_cons pe_int pa_nil)) pa_nil))) (pa_cons (pe_disp (pps_cons pe_str pe_int pps_nil) (by rfl) (by rfl) (fun z => by cases z) (by decide)) (pa_cons (pe_tup pa_nil) (pa_cons (pe_lst pa_nil) pa_nil))))))))))))) pa_nil)))), ?_⟩
    obtain ⟨pa, pb, hp, _⟩ := id hP
    refine ⟨_, rfl, _, _, rfl, rfl, ⟨by decide, by decide, by decide⟩, _, rfl, by show 2 ≤ sizeLine; decide, fun t1 n1 => ?_⟩
    refine ⟨by show 1 ≤ sizeLine; decide, fun a2 n2 => ⟨by show 2 ≤ sizeLine; decide, fun l2 n3 => ?_⟩⟩
    intro dd n4
    refine ⟨upd_same, [(.inr "a", .int 1)], rfl, by show 1 ≤ 15; decide, by show 0 ≤ sizeLine; decide, fun t0 n5 => ⟨by show 0 ≤ sizeLine; decide, fun l0 n6 => ⟨by show 12 ≤ sizeLine; decide, fun l n7 => ?_⟩⟩⟩
    rw [upd_upd] at n5 n6 n7 ⊢
    obtain ⟨b1, z1, f1, m1⟩ := chain (by rw [hp]; simp) n1 n2
    obtain ⟨b2, z2, f2, m2⟩ := chain z1 n2 n3
    obtain ⟨b3, z3, f3, m3⟩ := chain z2 n3 n4
    obtain ⟨b4, z4, f4, m4⟩ := chain z3 n4 n5
    obtain ⟨b5, z5, f5, m5⟩ := chain z4 n5 n6
    obtain ⟨b6, z6, f6, m6⟩ := chain z5 n6 n7
    have ml : l ≠ p := fun z => z6 (z ▸ n7)
    have b7 := Same.but (p := p) (same_upd (o := .lst [.non, .int 0, .int 7, .bl true, .int (-(10 ^ 29)), .str "", .str "a b", .ref t1, .ref l2, .ref dd, .ref t0, .ref l0]) n7)
    refine ⟨p, l, _, rfl, ?_, ml, upd_same, by show 0 < 12; decide, by show 12 < 1000; decide, fun H' i x hx hb hP' => ?_⟩
    · exact Pot.same (Pot.same (Pot.same (Pot.same (Pot.same (Pot.same (Pot.same hP (same_upd n1)) (same_upd n2)) (same_upd n3)) (same_upd n4)) (same_upd n5)) (same_upd n6)) (same_upd n7)
    · have c6 := b7.trans hb
      have c5 := b6.trans c6
      have c4 := b5.trans c5
      have c3 := b4.trans c4
      have c2 := b3.trans c3
      have c1 := b2.trans c2
      have c0 := b1.trans c1
      have g1 : Sans p H' t1 = _ := (sans_ne m1).trans (c1 _ _ m1 f1)
      have g2 : Sans p H' a2 = _ := (sans_ne m2).trans (c2 _ _ m2 f2)
      have g3 : Sans p H' l2 = _ := (sans_ne m3).trans (c3 _ _ m3 f3)
      have g4 : Sans p H' dd = _ := (sans_ne m4).trans (c4 _ _ m4 f4)
      have g5 : Sans p H' t0 = _ := (sans_ne m5).trans (c5 _ _ m5 f5)
      have g6 : Sans p H' l0 = _ := (sans_ne m6).trans (c6 _ _ m6 f6)
      have fin : ∀ d, Dr K (Sans p H') x d → Sml d → Q x H' := fun d h1 h2 => q H' x d c0 hP' ⟨h1, h2⟩
      match i, hx with
      | 0, hx =>
        cases hx
        exact fin _ .non ⟨rfl, by decide +kernel, by decide +kernel⟩
      | 1, hx =>
        cases hx
        exact fin _ (.int _) ⟨rfl, by decide +kernel, by decide +kernel⟩
      | 2, hx =>
        cases hx
        exact fin _ (.int _) ⟨rfl, by decide +kernel, by decide +kernel⟩
      | 3, hx =>
        cases hx
        exact fin _ (.bl _) ⟨rfl, by decide +kernel, by decide +kernel⟩
      | 4, hx =>
        cases hx
        exact fin _ (.int _) ⟨rfl, by decide +kernel, by decide +kernel⟩
      | 5, hx =>
        cases hx
        exact fin _ (.str _) ⟨rfl, by decide +kernel, by decide +kernel⟩
      | 6, hx =>
        cases hx
        exact fin _ (.str _) ⟨rfl, by decide +kernel, by decide +kernel⟩
      | 7, hx =>
        cases hx
        exact fin _ (.tup (.inl (.inl g1)) (.cons (.int _) (.cons (.str _) .nil))) ⟨rfl, by decide +kernel, by decide +kernel⟩
      | 8, hx =>
        cases hx
        exact fin _ (.lst (SqL.of g3) (.cons (.int _) (.cons (.lst (SqL.of g2) (.cons (.int _) .nil)) .nil))) ⟨rfl, by decide +kernel, by decide +kernel⟩
      | 9, hx =>
        cases hx
        exact fin _ (.dct g4 (.cons (.int _) .nil)) ⟨rfl, by decide +kernel, by decide +kernel⟩
      | 10, hx =>
        cases hx
        exact fin _ (.tup (.inl (.inl g5)) .nil) ⟨rfl, by decide +kernel, by decide +kernel⟩
      | 11, hx =>
        cases hx
        exact fin _ (.lst (SqL.of g6) .nil) ⟨rfl, by decide +kernel, by decide +kernel⟩
      | i + 12, hx => simp at hx
end
end K10

namespace K10
open PySem PySem.Spec PyProof.Rows L2 Xv
/-! ### lists of exceptions -/
abbrev CF := Addr × Option (List (Str × V))
def XL (H : Hp) (l : Addr) (cfs : List CF) : Prop := ∃ es, H l = some (.lst es) ∧ XVs H cfs es
theorem XL.same {H H' : Hp} {l : Addr} {cfs : List CF} (h : XL H l cfs) (s : Same H H') : XL H' l cfs := by
  obtain ⟨es, e, x⟩ := h
  exact ⟨es, s _ _ e, XVs.same s x⟩
theorem XVs.len {H : Hp} {cfs : List CF} {es : List V} (h : XVs H cfs es) : es.length = cfs.length := (Paired.length h).symm
theorem XVs.take {H : Hp} : ∀ {cfs : List CF} {es : List V} (n : Nat), XVs H cfs es → XVs H (cfs.take n) (es.take n)
  | _, _, 0, _ => .nil
  | _, _, n + 1, .nil => .nil
  | _, _, n + 1, .cons a b => .cons a (XVs.take n b)
theorem XVs.drop {H : Hp} : ∀ {cfs : List CF} {es : List V} (n : Nat), XVs H cfs es → XVs H (cfs.drop n) (es.drop n)
  | _, _, 0, h => h
  | _, _, n + 1, .nil => .nil
  | _, _, n + 1, .cons a b => XVs.drop n b
theorem XVs.get {H : Hp} {cfs : List CF} {es : List V} {i : Nat} {c : CF} (h : XVs H cfs es) (e : cfs[i]? = some c) : ∃ x, es[i]? = some x ∧ XV H c.1 c.2 x := paired_get h e
theorem XVs.gets {H : Hp} {cfs : List CF} {es : List V} {i : Nat} {x : V} (h : XVs H cfs es) (e : es[i]? = some x) : ∃ c, cfs[i]? = some c ∧ XV H c.1 c.2 x := by
  have hi : i < cfs.length := by
    rw [← XVs.len h]
    exact (List.getElem?_eq_some_iff.mp e).1
  obtain ⟨y, e2, r⟩ := XVs.get h (List.getElem?_eq_getElem hi)
  rw [e] at e2
  cases e2
  exact ⟨_, List.getElem?_eq_getElem hi, r⟩
theorem xcat {H : Hp} {l b : Addr} {a d : List CF} {Q : VK} (h : XL H l a) (k : XL H b d) (z : a.length + d.length ≤ 100) (q : ∀ H' p, Same H H' → H p = none → XL H' p (a ++ d) → Q (.ref p) H') : rCat (.ref l) (.ref b) H Q := by
  obtain ⟨es, e, x⟩ := h
  obtain ⟨fs, f, y⟩ := k
  refine ⟨l, b, es, fs, rfl, rfl, e, f, by rw [XVs.len x, XVs.len y, sizeLine_eq]; omega, fun p n => q _ p (same_upd n) n ⟨_, upd_same, XVs.append (XVs.same (same_upd n) x) (XVs.same (same_upd n) y)⟩⟩
/-- new exceptions, made of the value in slot j -/
def tZs (g : V → List CF) (j : Nat) : TA := fun σ H Q => ∃ v, σ[j]? = some (some v) ∧ ∀ H' es, Same H H' → XVs H' (g v) es → Q es H'
def tZL (g : V → List CF) (j : Nat) : TE := fun σ H Q => ∃ v, σ[j]? = some (some v) ∧ ∀ H' l, Same H H' → H l = none → XL H' l (g v) → Q (.ref l) H'
section
variable {X : Cx} {x f g : Str} {C : Addr} {e : Expr} {es : List Expr} {p pos kp ap : Pos} {k j : Nat} {gs : V → List CF} {n : Str} {i : Int} {ki : Nat}
theorem pz_nil : PA X [] (tZs (fun _ => []) j) := PA.imp pa_nil fun σ H Q ⟨v, _, q⟩ => q H [] (Same.refl H) .nil
theorem pz_1 (h : PE X e (tX C f j)) (hr : PA X es (tZs gs j)) (hs : starEach (e :: es) X.env = (false, eval e X.env) :: starEach es X.env := by rfl) : PA X (e :: es) (tZs (fun v => (C, some [(f, v)]) :: gs v) j) :=
  PA.imp (pa_cons h hr hs) fun σ H Q ⟨v, hv, q⟩ => ⟨v, hv, fun H' x s h => ⟨v, hv, fun H2 es s2 hh => q H2 (x :: es) (s.trans s2) (.cons (h.same s2) hh)⟩⟩
theorem pz_0 (c : Ex0 X.prog X.w X.K X.mg X.base x C) (hr : Room k X.A) (hk : 2 ≤ k) (hg : Gl X x) (hrr : PA X es (tZs gs j)) (hdb : (x == ("__debug__" : Str)) = false := by decide)
    (hs : starEach (.Call (.Name x p) [] [] pos :: es) X.env = (false, eval (.Call (.Name x p) [] [] pos) X.env) :: starEach es X.env := by rfl) : PA X (.Call (.Name x p) [] [] pos :: es) (tZs (fun v => (C, none) :: gs v) j) :=
  PA.imp (pa_cons (pe_new0 c hr hk hg hdb) hrr hs) fun σ H Q ⟨v, hv, q⟩ => ⟨rfl, fun H' x s h => ⟨v, hv, fun H2 es s2 hh => q H2 (x :: es) (s.trans s2) (.cons (h.same s2) hh)⟩⟩
theorem pz_2 (c : Ex2 X.prog X.w X.K X.mg X.base x C f g) (hr : Room k X.A) (hk : 2 ≤ k) (hg : Gl X x) (ha : PE X (.Name n ap) (tVar j)) (hrr : PA X es (tZs gs j)) (hdb : (x == ("__debug__" : Str)) = false := by decide)
    (hs : starEach (.Call (.Name x p) [.Name n ap, .Constant (.int i) ki kp] [] pos :: es) X.env = (false, eval (.Call (.Name x p) [.Name n ap, .Constant (.int i) ki kp] [] pos) X.env) :: starEach es X.env := by rfl)
    (he : starEach [.Name n ap, .Constant (.int i) ki kp] X.env = (false, eval (.Name n ap) X.env) :: starEach [.Constant (.int i) ki kp] X.env := by rfl) (he2 : starEach [.Constant (.int i) ki kp] X.env = (false, eval (.Constant (.int i) ki kp) X.env) :: starEach [] X.env := by rfl) (hpl : (backTo pos (starEach [.Constant (.int i) ki kp] X.env)).any (·.1) = false := by rfl) :
    PA X (.Call (.Name x p) [.Name n ap, .Constant (.int i) ki kp] [] pos :: es) (tZs (fun v => (C, some [(g, .int i), (f, v)]) :: gs v) j) :=
  PA.imp (pa_cons (pe_new2 c hr hk hg (pa_cons ha (pa_cons pe_int pa_nil he2) he) hdb he hpl) hrr hs) fun σ H Q ⟨v, hv, q⟩ => ⟨v, hv, rfl, fun H' x s h => ⟨v, hv, fun H2 es s2 hh => q H2 (x :: es) (s.trans s2) (.cons (h.same s2) hh)⟩⟩
theorem pe_zl (h : PA X es (tZs gs j)) (hz : ∀ v, (gs v).length ≤ 100) : PE X (.List es pos) (tZL gs j) :=
  PE.imp (pe_lst h) fun σ H Q ⟨v, hv, q⟩ => ⟨v, hv, fun H' es s hh => ⟨by rw [XVs.len hh, sizeLine_eq]; exact Nat.le_trans (hz v) (by decide), fun l hl => q _ l (s.trans (same_upd hl)) (s.free hl) ⟨es, upd_same, XVs.same (same_upd hl) hh⟩⟩⟩
end
/-! ### the classes, numbered as the law asks them -/
def nm : Nat → Str
  | 0 => "InvalidDeeds"
  | 1 => "InvalidRows"
  | 2 => "InvalidWord"
  | 3 => "InvalidOrder"
  | 4 => "InvalidThings"
  | 5 => "InvalidScripts"
  | 6 => "InvalidWeaving"
  | 7 => "InvalidText"
  | 8 => "InvalidState"
  | 9 => "InvalidDeed"
  | 10 => "InvalidStates"
  | 11 => "InvalidNames"
  | 12 => "InvalidEntry"
  | 13 => "InvalidAnswers"
  | 14 => "InvalidNumber"
  | 15 => "InvalidTeam"
  | 16 => "InvalidHand"
  | 17 => "InvalidLayout"
  | 18 => "InvalidPlace"
  | 19 => "InvalidClaim"
  | 20 => "InvalidCommand"
  | 21 => "NoSuch"
  | 22 => "SharedDeed"
  | 23 => "OtherThing"
  | 24 => "LastOne"
  | 25 => "NotCritical"
  | 26 => "NotInIt"
  | 27 => "CommandFailed"
  | 28 => "NotTelling"
  | 29 => "NotRecording"
  | 30 => "NotRight"
  | 31 => "NothingToUndo"
  | 32 => "TooMany"
  | _ => ""
def fld : Nat → Str
  | 0 => "position"
  | 1 => "position"
  | 2 => "position"
  | 3 => "position"
  | 4 => "position"
  | 5 => "position"
  | 6 => "position"
  | 7 => "line"
  | 8 => "value"
  | 9 => "value"
  | 10 => "value"
  | 11 => "value"
  | 12 => "value"
  | 13 => "value"
  | 14 => "value"
  | 15 => "value"
  | 16 => "value"
  | 17 => "value"
  | 18 => "value"
  | 19 => "value"
  | 20 => "value"
  | 21 => "value"
  | 22 => "value"
  | 23 => "value"
  | 24 => "value"
  | 25 => "value"
  | 26 => "hand"
  | 27 => "position"
  | _ => ""
def famOf (i : Nat) : Nat := if i < 21 then 0 else if i < 22 then 1 else if i < 32 then 2 else 3
def fmn : Nat → Str
  | 0 => "SettleError"
  | 1 => "MissingError"
  | 2 => "StateError"
  | 3 => "LimitError"
  | _ => ""
def blt : Nat → String
  | 0 => "ValueError"
  | 1 => "LookupError"
  | 2 => "RuntimeError"
  | 3 => "ArithmeticError"
  | _ => ""
structure Zz (P : Program) (w : World) (K : PySem.W.Frag) (mg : Str → Option Value) (base : Heap) (c fm : Nat → Addr) : Prop where
  x1 : ∀ i, i < 28 → Ex1 P w K mg base (nm i) (c i) (fld i)
  x0 : ∀ i, 28 ≤ i → i < 32 → Ex0 P w K mg base (nm i) (c i)
  x32 : Ex2 P w K mg base "TooMany" (c 32) "what" "limit"
  gm : ∀ i, i < 33 → mg (nm i) = some (.ref (c i))
  fg : ∀ j, j < 4 → mg (fmn j) = some (.ref (fm j))
  T : ∀ i, i < 33 → ExcC K (c i)
  no : ∀ i, i < 28 → PySem.W.findIn K (.ref (c i)) (fld i) = some none
  noW : PySem.W.findIn K (.ref (c 32)) "what" = some none
  noL : PySem.W.findIn K (.ref (c 32)) "limit" = some none
  is : ∀ i j, i < 33 → j < 33 → PySem.W.kitOne K (.ref (c i)) (.ref (c j)) = some (decide (j = i))
  isF : ∀ i j, i < 33 → j < 4 → PySem.W.kitOne K (.ref (c i)) (.ref (fm j)) = some (decide (j = famOf i))
  isB : ∀ i j, i < 33 → j < 4 → PySem.W.kitOne K (.ref (c i)) (.type (blt j)) = some (decide (j = famOf i))
def cf (c : Nat → Addr) (is : List Nat) (v : V) : List CF := is.map fun i => (c i, some [(fld i, v)])
end K10

namespace K10
open PySem PySem.Spec PyProof.Rows L2 Xv
section
variable {P : Program} {w : World} {K : PySem.W.Frag} {mg : Str → Option Value} {base : Heap} {c fm : Nat → Addr}
theorem Zz.e0 (Z : Zz P w K mg base c fm) : Ex1 P w K mg base "InvalidDeeds" (c 0) "position" := Z.x1 0 (by decide)
theorem Zz.e1 (Z : Zz P w K mg base c fm) : Ex1 P w K mg base "InvalidRows" (c 1) "position" := Z.x1 1 (by decide)
theorem Zz.e2 (Z : Zz P w K mg base c fm) : Ex1 P w K mg base "InvalidWord" (c 2) "position" := Z.x1 2 (by decide)
theorem Zz.e3 (Z : Zz P w K mg base c fm) : Ex1 P w K mg base "InvalidOrder" (c 3) "position" := Z.x1 3 (by decide)
theorem Zz.e4 (Z : Zz P w K mg base c fm) : Ex1 P w K mg base "InvalidThings" (c 4) "position" := Z.x1 4 (by decide)
theorem Zz.e5 (Z : Zz P w K mg base c fm) : Ex1 P w K mg base "InvalidScripts" (c 5) "position" := Z.x1 5 (by decide)
theorem Zz.e6 (Z : Zz P w K mg base c fm) : Ex1 P w K mg base "InvalidWeaving" (c 6) "position" := Z.x1 6 (by decide)
theorem Zz.e7 (Z : Zz P w K mg base c fm) : Ex1 P w K mg base "InvalidText" (c 7) "line" := Z.x1 7 (by decide)
theorem Zz.e8 (Z : Zz P w K mg base c fm) : Ex1 P w K mg base "InvalidState" (c 8) "value" := Z.x1 8 (by decide)
theorem Zz.e9 (Z : Zz P w K mg base c fm) : Ex1 P w K mg base "InvalidDeed" (c 9) "value" := Z.x1 9 (by decide)
theorem Zz.e10 (Z : Zz P w K mg base c fm) : Ex1 P w K mg base "InvalidStates" (c 10) "value" := Z.x1 10 (by decide)
theorem Zz.e11 (Z : Zz P w K mg base c fm) : Ex1 P w K mg base "InvalidNames" (c 11) "value" := Z.x1 11 (by decide)
theorem Zz.e12 (Z : Zz P w K mg base c fm) : Ex1 P w K mg base "InvalidEntry" (c 12) "value" := Z.x1 12 (by decide)
theorem Zz.e13 (Z : Zz P w K mg base c fm) : Ex1 P w K mg base "InvalidAnswers" (c 13) "value" := Z.x1 13 (by decide)
theorem Zz.e14 (Z : Zz P w K mg base c fm) : Ex1 P w K mg base "InvalidNumber" (c 14) "value" := Z.x1 14 (by decide)
theorem Zz.e15 (Z : Zz P w K mg base c fm) : Ex1 P w K mg base "InvalidTeam" (c 15) "value" := Z.x1 15 (by decide)
theorem Zz.e16 (Z : Zz P w K mg base c fm) : Ex1 P w K mg base "InvalidHand" (c 16) "value" := Z.x1 16 (by decide)
theorem Zz.e17 (Z : Zz P w K mg base c fm) : Ex1 P w K mg base "InvalidLayout" (c 17) "value" := Z.x1 17 (by decide)
theorem Zz.e18 (Z : Zz P w K mg base c fm) : Ex1 P w K mg base "InvalidPlace" (c 18) "value" := Z.x1 18 (by decide)
theorem Zz.e19 (Z : Zz P w K mg base c fm) : Ex1 P w K mg base "InvalidClaim" (c 19) "value" := Z.x1 19 (by decide)
theorem Zz.e20 (Z : Zz P w K mg base c fm) : Ex1 P w K mg base "InvalidCommand" (c 20) "value" := Z.x1 20 (by decide)
theorem Zz.e21 (Z : Zz P w K mg base c fm) : Ex1 P w K mg base "NoSuch" (c 21) "value" := Z.x1 21 (by decide)
theorem Zz.e22 (Z : Zz P w K mg base c fm) : Ex1 P w K mg base "SharedDeed" (c 22) "value" := Z.x1 22 (by decide)
theorem Zz.e23 (Z : Zz P w K mg base c fm) : Ex1 P w K mg base "OtherThing" (c 23) "value" := Z.x1 23 (by decide)
theorem Zz.e24 (Z : Zz P w K mg base c fm) : Ex1 P w K mg base "LastOne" (c 24) "value" := Z.x1 24 (by decide)
theorem Zz.e25 (Z : Zz P w K mg base c fm) : Ex1 P w K mg base "NotCritical" (c 25) "value" := Z.x1 25 (by decide)
theorem Zz.e26 (Z : Zz P w K mg base c fm) : Ex1 P w K mg base "NotInIt" (c 26) "hand" := Z.x1 26 (by decide)
theorem Zz.e27 (Z : Zz P w K mg base c fm) : Ex1 P w K mg base "CommandFailed" (c 27) "position" := Z.x1 27 (by decide)
theorem Zz.e28 (Z : Zz P w K mg base c fm) : Ex0 P w K mg base "NotTelling" (c 28) := Z.x0 28 (by decide) (by decide)
theorem Zz.e29 (Z : Zz P w K mg base c fm) : Ex0 P w K mg base "NotRecording" (c 29) := Z.x0 29 (by decide) (by decide)
theorem Zz.e30 (Z : Zz P w K mg base c fm) : Ex0 P w K mg base "NotRight" (c 30) := Z.x0 30 (by decide) (by decide)
theorem Zz.e31 (Z : Zz P w K mg base c fm) : Ex0 P w K mg base "NothingToUndo" (c 31) := Z.x0 31 (by decide) (by decide)
end
def spMk (g : V → List CF) : Sp := fun vs H Q _ => ∃ v, vs = [v] ∧ ∀ H' l, Same H H' → XL H' l (g v) → Q (.ref l) H'
abbrev s_placed : Stmt := top 43
abbrev N_placed : List Str := ["_law_thing_now", "_law_found"]
theorem sc_placed : FnScope N_placed ["_law_thing_now"] (defScope s_placed) := ⟨rfl, rfl, rfl, by decide +kernel, rfl, by decide +kernel, by decide +kernel⟩
abbrev s_placed_by_name : Stmt := top 44
abbrev N_placed_by_name : List Str := ["_law_near", "_law_found"]
theorem sc_placed_by_name : FnScope N_placed_by_name ["_law_near"] (defScope s_placed_by_name) := ⟨rfl, rfl, rfl, by decide +kernel, rfl, by decide +kernel, by decide +kernel⟩
abbrev s_valued : Stmt := top 45
abbrev N_valued : List Str := ["_law_near", "_law_found"]
theorem sc_valued : FnScope N_valued ["_law_near"] (defScope s_valued) := ⟨rfl, rfl, rfl, by decide +kernel, rfl, by decide +kernel, by decide +kernel⟩
abbrev s_valued_by_name : Stmt := top 46
abbrev N_valued_by_name : List Str := ["_law_near", "_law_found"]
theorem sc_valued_by_name : FnScope N_valued_by_name ["_law_near"] (defScope s_valued_by_name) := ⟨rfl, rfl, rfl, by decide +kernel, rfl, by decide +kernel, by decide +kernel⟩
abbrev s_stood : Stmt := top 47
abbrev N_stood : List Str := ["_law_near"]
theorem sc_stood : FnScope N_stood ["_law_near"] (defScope s_stood) := ⟨rfl, rfl, rfl, by decide +kernel, rfl, by decide +kernel, by decide +kernel⟩
section
variable {P : Program} {w : World} {K : PySem.W.Frag} {mg : Str → Option Value} {base : Heap} {c fm : Nat → Addr}
theorem ok_placed {f : Addr} {fd : FuncData} (F : Fun K "_law_placed" "_law_placed" s_placed f fd) (Z : Zz P w K mg base c fm) : FnOk P w K mg base CX0 3 f fd ["_law_thing_now"] (spMk (cf c [0, 1, 2, 3, 4, 5, 6])) := by
  refine F.ok sc_placed (fun vs H Q E h => ?_) (fun cdv A outer s H vs Q E hr h => ?_)
  · obtain ⟨v, rfl, _⟩ := h
    rfl
  · obtain ⟨v, rfl, q⟩ := h
    refine ⟨_, (pss_cons (ps_set (i := 1) sc_placed.nd rfl (Or.inl rfl) (pe_zl (pz_1 (pe_x Z.e0 hr (by decide) (by rfl) (pv 0)) (pz_1 (pe_x Z.e1 hr (by decide) (by rfl) (pv 0)) (pz_1 (pe_x Z.e2 hr (by decide) (by rfl) (pv 0)) (pz_1 (pe_x Z.e3 hr (by decide) (by rfl) (pv 0)) pz_nil)))) (fun _ => Nat.le_of_ble_eq_true rfl)))
  (pss_one (ps_ret (pe_op op_cat (pv 1) (pe_zl (pz_1 (pe_x Z.e4 hr (by decide) (by rfl) (pv 0)) (pz_1 (pe_x Z.e5 hr (by decide) (by rfl) (pv 0)) (pz_1 (pe_x Z.e6 hr (by decide) (by rfl) (pv 0)) pz_nil))) (fun _ => Nat.le_of_ble_eq_true rfl)))))), ?_⟩
    refine ⟨v, rfl, fun H1 l1 s1 n1 x1 => ?_⟩
    exact ⟨_, rfl, v, rfl, fun H2 l2 s2 n2 x2 => xcat (x1.same s2) x2 (Nat.le_of_ble_eq_true rfl) fun H3 l3 s3 n3 x3 => q _ l3 (s1.trans (s2.trans s3)) x3⟩

theorem ok_placed_by_name {f : Addr} {fd : FuncData} (F : Fun K "_law_placed_by_name" "_law_placed_by_name" s_placed_by_name f fd) (Z : Zz P w K mg base c fm) : FnOk P w K mg base CX0 3 f fd ["_law_near"] (spMk (cf c [0, 1, 2, 3, 4, 5, 6, 27])) := by
  refine F.ok sc_placed_by_name (fun vs H Q E h => ?_) (fun cdv A outer s H vs Q E hr h => ?_)
  · obtain ⟨v, rfl, _⟩ := h
    rfl
  · obtain ⟨v, rfl, q⟩ := h
    refine ⟨_, (pss_cons (ps_set (i := 1) sc_placed_by_name.nd rfl (Or.inl rfl) (pe_zl (pz_1 (pe_xK Z.e0 hr (by decide) (by rfl) (pv 0)) (pz_1 (pe_xK Z.e1 hr (by decide) (by rfl) (pv 0)) (pz_1 (pe_xK Z.e2 hr (by decide) (by rfl) (pv 0)) pz_nil))) (fun _ => Nat.le_of_ble_eq_true rfl)))
  (pss_cons (ps_set (i := 1) sc_placed_by_name.nd rfl (Or.inl rfl) (pe_op op_cat (pv 1) (pe_zl (pz_1 (pe_xK Z.e3 hr (by decide) (by rfl) (pv 0)) (pz_1 (pe_xK Z.e4 hr (by decide) (by rfl) (pv 0)) (pz_1 (pe_xK Z.e5 hr (by decide) (by rfl) (pv 0)) pz_nil))) (fun _ => Nat.le_of_ble_eq_true rfl))))
  (pss_one (ps_ret (pe_op op_cat (pv 1) (pe_zl (pz_1 (pe_xK Z.e6 hr (by decide) (by rfl) (pv 0)) (pz_1 (pe_xK Z.e27 hr (by decide) (by rfl) (pv 0)) pz_nil)) (fun _ => Nat.le_of_ble_eq_true rfl))))))), ?_⟩
    refine ⟨v, rfl, fun H1 l1 s1 n1 x1 => ?_⟩
    refine ⟨_, rfl, v, rfl, fun H2 l2 s2 n2 x2 => xcat (x1.same s2) x2 (Nat.le_of_ble_eq_true rfl) fun H3 l3 s3 n3 x3 => ?_⟩
    replace s1 := s1.trans (s2.trans s3)
    clear s2 s3 n2 n3 x1 x2
    have x1 := x3
    clear x3
    exact ⟨_, rfl, v, rfl, fun H2 l2 s2 n2 x2 => xcat (x1.same s2) x2 (Nat.le_of_ble_eq_true rfl) fun H3 l3 s3 n3 x3 => q _ l3 (s1.trans (s2.trans s3)) x3⟩

theorem ok_valued {f : Addr} {fd : FuncData} (F : Fun K "_law_valued" "_law_valued" s_valued f fd) (Z : Zz P w K mg base c fm) : FnOk P w K mg base CX0 3 f fd ["_law_near"] (spMk (cf c [8, 9, 10, 11, 12, 13, 14, 15, 16, 17, 18, 19, 20])) := by
  refine F.ok sc_valued (fun vs H Q E h => ?_) (fun cdv A outer s H vs Q E hr h => ?_)
  · obtain ⟨v, rfl, _⟩ := h
    rfl
  · obtain ⟨v, rfl, q⟩ := h
    refine ⟨_, (pss_cons (ps_set (i := 1) sc_valued.nd rfl (Or.inl rfl) (pe_zl (pz_1 (pe_x Z.e8 hr (by decide) (by rfl) (pv 0)) (pz_1 (pe_x Z.e9 hr (by decide) (by rfl) (pv 0)) (pz_1 (pe_x Z.e10 hr (by decide) (by rfl) (pv 0)) (pz_1 (pe_x Z.e11 hr (by decide) (by rfl) (pv 0)) (pz_1 (pe_x Z.e12 hr (by decide) (by rfl) (pv 0)) pz_nil))))) (fun _ => Nat.le_of_ble_eq_true rfl)))
  (pss_cons (ps_set (i := 1) sc_valued.nd rfl (Or.inl rfl) (pe_op op_cat (pv 1) (pe_zl (pz_1 (pe_x Z.e13 hr (by decide) (by rfl) (pv 0)) (pz_1 (pe_x Z.e14 hr (by decide) (by rfl) (pv 0)) (pz_1 (pe_x Z.e15 hr (by decide) (by rfl) (pv 0)) (pz_1 (pe_x Z.e16 hr (by decide) (by rfl) (pv 0)) pz_nil)))) (fun _ => Nat.le_of_ble_eq_true rfl))))
  (pss_one (ps_ret (pe_op op_cat (pv 1) (pe_zl (pz_1 (pe_x Z.e17 hr (by decide) (by rfl) (pv 0)) (pz_1 (pe_x Z.e18 hr (by decide) (by rfl) (pv 0)) (pz_1 (pe_x Z.e19 hr (by decide) (by rfl) (pv 0)) (pz_1 (pe_x Z.e20 hr (by decide) (by rfl) (pv 0)) pz_nil)))) (fun _ => Nat.le_of_ble_eq_true rfl))))))), ?_⟩
    refine ⟨v, rfl, fun H1 l1 s1 n1 x1 => ?_⟩
    refine ⟨_, rfl, v, rfl, fun H2 l2 s2 n2 x2 => xcat (x1.same s2) x2 (Nat.le_of_ble_eq_true rfl) fun H3 l3 s3 n3 x3 => ?_⟩
    replace s1 := s1.trans (s2.trans s3)
    clear s2 s3 n2 n3 x1 x2
    have x1 := x3
    clear x3
    exact ⟨_, rfl, v, rfl, fun H2 l2 s2 n2 x2 => xcat (x1.same s2) x2 (Nat.le_of_ble_eq_true rfl) fun H3 l3 s3 n3 x3 => q _ l3 (s1.trans (s2.trans s3)) x3⟩

theorem ok_valued_by_name {f : Addr} {fd : FuncData} (F : Fun K "_law_valued_by_name" "_law_valued_by_name" s_valued_by_name f fd) (Z : Zz P w K mg base c fm) : FnOk P w K mg base CX0 3 f fd ["_law_near"] (spMk (cf c [8, 9, 10, 11, 12, 13, 14, 15, 16, 17, 18, 19, 20, 21, 22, 23, 24, 25])) := by
  refine F.ok sc_valued_by_name (fun vs H Q E h => ?_) (fun cdv A outer s H vs Q E hr h => ?_)
  · obtain ⟨v, rfl, _⟩ := h
    rfl
  · obtain ⟨v, rfl, q⟩ := h
    refine ⟨_, (pss_cons (ps_set (i := 1) sc_valued_by_name.nd rfl (Or.inl rfl) (pe_zl (pz_1 (pe_xK Z.e8 hr (by decide) (by rfl) (pv 0)) (pz_1 (pe_xK Z.e9 hr (by decide) (by rfl) (pv 0)) (pz_1 (pe_xK Z.e10 hr (by decide) (by rfl) (pv 0)) (pz_1 (pe_xK Z.e11 hr (by decide) (by rfl) (pv 0)) pz_nil)))) (fun _ => Nat.le_of_ble_eq_true rfl)))
  (pss_cons (ps_set (i := 1) sc_valued_by_name.nd rfl (Or.inl rfl) (pe_op op_cat (pv 1) (pe_zl (pz_1 (pe_xK Z.e12 hr (by decide) (by rfl) (pv 0)) (pz_1 (pe_xK Z.e13 hr (by decide) (by rfl) (pv 0)) (pz_1 (pe_xK Z.e14 hr (by decide) (by rfl) (pv 0)) pz_nil))) (fun _ => Nat.le_of_ble_eq_true rfl))))
  (pss_cons (ps_set (i := 1) sc_valued_by_name.nd rfl (Or.inl rfl) (pe_op op_cat (pv 1) (pe_zl (pz_1 (pe_xK Z.e15 hr (by decide) (by rfl) (pv 0)) (pz_1 (pe_xK Z.e16 hr (by decide) (by rfl) (pv 0)) (pz_1 (pe_xK Z.e17 hr (by decide) (by rfl) (pv 0)) pz_nil))) (fun _ => Nat.le_of_ble_eq_true rfl))))
  (pss_cons (ps_set (i := 1) sc_valued_by_name.nd rfl (Or.inl rfl) (pe_op op_cat (pv 1) (pe_zl (pz_1 (pe_xK Z.e18 hr (by decide) (by rfl) (pv 0)) (pz_1 (pe_xK Z.e19 hr (by decide) (by rfl) (pv 0)) (pz_1 (pe_xK Z.e20 hr (by decide) (by rfl) (pv 0)) pz_nil))) (fun _ => Nat.le_of_ble_eq_true rfl))))
  (pss_cons (ps_set (i := 1) sc_valued_by_name.nd rfl (Or.inl rfl) (pe_op op_cat (pv 1) (pe_zl (pz_1 (pe_xK Z.e21 hr (by decide) (by rfl) (pv 0)) (pz_1 (pe_xK Z.e22 hr (by decide) (by rfl) (pv 0)) (pz_1 (pe_xK Z.e23 hr (by decide) (by rfl) (pv 0)) (pz_1 (pe_xK Z.e24 hr (by decide) (by rfl) (pv 0)) pz_nil)))) (fun _ => Nat.le_of_ble_eq_true rfl))))
  (pss_one (ps_ret (pe_op op_cat (pv 1) (pe_zl (pz_1 (pe_xK Z.e25 hr (by decide) (by rfl) (pv 0)) pz_nil) (fun _ => Nat.le_of_ble_eq_true rfl)))))))))), ?_⟩
    refine ⟨v, rfl, fun H1 l1 s1 n1 x1 => ?_⟩
    refine ⟨_, rfl, v, rfl, fun H2 l2 s2 n2 x2 => xcat (x1.same s2) x2 (Nat.le_of_ble_eq_true rfl) fun H3 l3 s3 n3 x3 => ?_⟩
    replace s1 := s1.trans (s2.trans s3)
    clear s2 s3 n2 n3 x1 x2
    have x1 := x3
    clear x3
    refine ⟨_, rfl, v, rfl, fun H2 l2 s2 n2 x2 => xcat (x1.same s2) x2 (Nat.le_of_ble_eq_true rfl) fun H3 l3 s3 n3 x3 => ?_⟩
    replace s1 := s1.trans (s2.trans s3)
    clear s2 s3 n2 n3 x1 x2
    have x1 := x3
    clear x3
    refine ⟨_, rfl, v, rfl, fun H2 l2 s2 n2 x2 => xcat (x1.same s2) x2 (Nat.le_of_ble_eq_true rfl) fun H3 l3 s3 n3 x3 => ?_⟩
    replace s1 := s1.trans (s2.trans s3)
    clear s2 s3 n2 n3 x1 x2
    have x1 := x3
    clear x3
    refine ⟨_, rfl, v, rfl, fun H2 l2 s2 n2 x2 => xcat (x1.same s2) x2 (Nat.le_of_ble_eq_true rfl) fun H3 l3 s3 n3 x3 => ?_⟩
    replace s1 := s1.trans (s2.trans s3)
    clear s2 s3 n2 n3 x1 x2
    have x1 := x3
    clear x3
    exact ⟨_, rfl, v, rfl, fun H2 l2 s2 n2 x2 => xcat (x1.same s2) x2 (Nat.le_of_ble_eq_true rfl) fun H3 l3 s3 n3 x3 => q _ l3 (s1.trans (s2.trans s3)) x3⟩

theorem ok_stood {f : Addr} {fd : FuncData} (F : Fun K "_law_stood" "_law_stood" s_stood f fd) (Z : Zz P w K mg base c fm) : FnOk P w K mg base CX0 3 f fd ["_law_near"] (spMk (cf c [22, 23, 24, 25])) := by
  refine F.ok sc_stood (fun vs H Q E h => ?_) (fun cdv A outer s H vs Q E hr h => ?_)
  · obtain ⟨v, rfl, _⟩ := h
    rfl
  · obtain ⟨v, rfl, q⟩ := h
    refine ⟨_, (pss_one (ps_ret (pe_zl (pz_1 (pe_x Z.e22 hr (by decide) (by rfl) (pv 0)) (pz_1 (pe_x Z.e23 hr (by decide) (by rfl) (pv 0)) (pz_1 (pe_x Z.e24 hr (by decide) (by rfl) (pv 0)) (pz_1 (pe_x Z.e25 hr (by decide) (by rfl) (pv 0)) pz_nil)))) (fun _ => Nat.le_of_ble_eq_true rfl)))), ?_⟩
    exact ⟨v, rfl, fun H1 l1 s1 n1 x1 => q _ l1 s1 x1⟩

end
end K10

namespace K10
open PySem PySem.Spec PyProof.Rows L2 Xv
section
variable {P : Program} {w : World} {K : PySem.W.Frag} {mg : Str → Option Value} {base : Heap} {c fm : Nat → Addr}
theorem Zz.f0 (Z : Zz P w K mg base c fm) : mg "SettleError" = some (.ref (fm 0)) := Z.fg 0 (by decide)
theorem Zz.f1 (Z : Zz P w K mg base c fm) : mg "MissingError" = some (.ref (fm 1)) := Z.fg 1 (by decide)
theorem Zz.f2 (Z : Zz P w K mg base c fm) : mg "StateError" = some (.ref (fm 2)) := Z.fg 2 (by decide)
theorem Zz.f3 (Z : Zz P w K mg base c fm) : mg "LimitError" = some (.ref (fm 3)) := Z.fg 3 (by decide)
theorem Zz.b0 (Z : Zz P w K mg base c fm) (i : Nat) (h : i < 33) : PySem.W.kitOne K (.ref (c i)) (.type "ValueError") = some (decide (0 = famOf i)) := Z.isB i 0 h (by decide)
theorem Zz.b1 (Z : Zz P w K mg base c fm) (i : Nat) (h : i < 33) : PySem.W.kitOne K (.ref (c i)) (.type "LookupError") = some (decide (1 = famOf i)) := Z.isB i 1 h (by decide)
theorem Zz.b2 (Z : Zz P w K mg base c fm) (i : Nat) (h : i < 33) : PySem.W.kitOne K (.ref (c i)) (.type "RuntimeError") = some (decide (2 = famOf i)) := Z.isB i 2 h (by decide)
theorem Zz.b3 (Z : Zz P w K mg base c fm) (i : Nat) (h : i < 33) : PySem.W.kitOne K (.ref (c i)) (.type "ArithmeticError") = some (decide (3 = famOf i)) := Z.isB i 3 h (by decide)
end
/-! ### of which classes an exception is -/
def BZ (H : Hp) (l : Addr) (i : Nat) (rs : List (Nat → Bool)) : Prop := H l = some (.lst (rs.map fun r => V.bl (r i)))
theorem BZ.same {H H' : Hp} {l : Addr} {i : Nat} {rs : List (Nat → Bool)} (h : BZ H l i rs) (s : Same H H') : BZ H' l i rs := s _ _ h
theorem bcat {H : Hp} {l b : Addr} {i : Nat} {a d : List (Nat → Bool)} {Q : VK} (h : BZ H l i a) (k : BZ H b i d) (z : a.length + d.length ≤ 100) (q : ∀ H' p, Same H H' → BZ H' p i (a ++ d) → Q (.ref p) H') : rCat (.ref l) (.ref b) H Q :=
  ⟨l, b, _, _, rfl, rfl, h, k, by rw [List.length_map, List.length_map, sizeLine_eq]; omega, fun p n => q _ p (same_upd n) (by unfold BZ; rw [upd_same, List.map_append])⟩
def tIz (c : Nat → Addr) (r : Nat → Bool) : TE := fun σ H Q => ∃ i x fo, σ[0]? = some (some x) ∧ i < 33 ∧ XV H (c i) fo x ∧ Q (.bl (r i)) H
def tIzs (c : Nat → Addr) (rs : List (Nat → Bool)) : TA := fun σ H Q => ∃ i x fo, σ[0]? = some (some x) ∧ i < 33 ∧ XV H (c i) fo x ∧ Q (rs.map fun r => V.bl (r i)) H
def tIzL (c : Nat → Addr) (rs : List (Nat → Bool)) : TE := fun σ H Q => ∃ i x fo, σ[0]? = some (some x) ∧ i < 33 ∧ XV H (c i) fo x ∧ ∀ H' l, Same H H' → BZ H' l i rs → Q (.ref l) H'
section
variable {X : Cx} {c : Nat → Addr} {r : Nat → Bool} {rs : List (Nat → Bool)} {e : Expr} {es : List Expr} {n : Str} {p pos ap : Pos} {v : V} {cv : Value}
theorem pe_is (T : Bl X.mg) (TC : ∀ i, i < 33 → ExcC X.K (c i)) (he : PE X e (tC v)) (hc : ClsV v cv) (hk : ∀ i, i < 33 → PySem.W.kitOne X.K (.ref (c i)) cv = some (r i)) (ha : PE X (.Name n ap) (tVar 0)) (hg : Gl X "isinstance" := by rfl)
    (hs : starEach [.Name n ap, e] X.env = (false, eval (.Name n ap) X.env) :: starEach [e] X.env := by rfl) (hs2 : starEach [e] X.env = (false, eval e X.env) :: starEach [] X.env := by rfl) (hpl : (backTo pos (starEach [e] X.env)).any (·.1) = false := by rfl) :
    PE X (.Call (.Name "isinstance" p) [.Name n ap, e] [] pos) (tIz c r) :=
  PE.imp (pe_callB call_xis hg T.isinstance (by decide +kernel) (pa_cons ha (pa_cons he pa_nil hs2) hs) (by decide) (by decide) hs hpl) fun σ H Q ⟨i, x, fo, hx, hi, hv, q⟩ => ⟨x, hx, x, v, c i, fo, cv, r i, rfl, hc, TC i hi, hv, hk i hi, q⟩
theorem pi_nil : PA X [] (tIzs c []) := PA.imp pa_nil fun σ H Q ⟨i, x, fo, _, _, _, q⟩ => q
theorem pi_cons (h : PE X e (tIz c r)) (hr : PA X es (tIzs c rs)) (hs : starEach (e :: es) X.env = (false, eval e X.env) :: starEach es X.env := by rfl) : PA X (e :: es) (tIzs c (r :: rs)) :=
  PA.imp (pa_cons h hr hs) fun σ H Q ⟨i, x, fo, hx, hi, hv, q⟩ => ⟨i, x, fo, hx, hi, hv, i, x, fo, hx, hi, hv, q⟩
theorem pe_izl (h : PA X es (tIzs c rs)) (hz : rs.length ≤ 100) : PE X (.List es pos) (tIzL c rs) :=
  PE.imp (pe_lst h) fun σ H Q ⟨i, x, fo, hx, hi, hv, q⟩ => ⟨i, x, fo, hx, hi, hv, by rw [List.length_map, sizeLine_eq]; omega, fun l hl => q _ l (same_upd hl) upd_same⟩
end
def spIs (c : Nat → Addr) (rs : List (Nat → Bool)) : Sp := fun vs H Q _ => ∃ i x fo, vs = [x] ∧ i < 33 ∧ XV H (c i) fo x ∧ ∀ H' l, Same H H' → BZ H' l i rs → Q (.ref l) H'
def jz (js : List Nat) : List (Nat → Bool) := js.map fun j => fun i => decide (j = i)
def jf (js : List Nat) : List (Nat → Bool) := js.map fun j => fun i => decide (j = famOf i)
def spEvery (c : Nat → Addr) : Sp := fun vs H Q _ => ∃ v, vs = [v] ∧ ∀ H' l a0 a1 a2 a3, Same H H' → H' l = some (.lst [.ref a0, .ref a1, .ref a2, .ref a3]) → XL H' a0 (cf c [0, 1, 2, 3, 4, 5, 6, 7, 8, 9, 10, 11, 12, 13, 14, 15, 16, 17, 18, 19, 20] v) → XL H' a1 (cf c [21] v) →
  XL H' a2 (cf c [22, 23, 24, 25, 26, 27] v ++ [(c 28, none), (c 29, none), (c 30, none), (c 31, none)]) → XL H' a3 [(c 32, some [("limit", .int 5), ("what", v)])] → Q (.ref l) H'
abbrev s_of_first : Stmt := top 49
abbrev N_of_first : List Str := ["_law_e", "_law_found"]
theorem sc_of_first : FnScope N_of_first ["_law_e"] (defScope s_of_first) := ⟨rfl, rfl, rfl, by decide +kernel, rfl, by decide +kernel, by decide +kernel⟩
abbrev s_of_others : Stmt := top 50
abbrev N_of_others : List Str := ["_law_e", "_law_found"]
theorem sc_of_others : FnScope N_of_others ["_law_e"] (defScope s_of_others) := ⟨rfl, rfl, rfl, by decide +kernel, rfl, by decide +kernel, by decide +kernel⟩
abbrev s_families : Stmt := top 51
abbrev N_families : List Str := ["_law_e", "_law_found"]
theorem sc_families : FnScope N_families ["_law_e"] (defScope s_families) := ⟨rfl, rfl, rfl, by decide +kernel, rfl, by decide +kernel, by decide +kernel⟩
abbrev s_every : Stmt := top 48
abbrev N_every : List Str := ["_law_near", "_law_settled", "_law_stood_here"]
theorem sc_every : FnScope N_every ["_law_near"] (defScope s_every) := ⟨rfl, rfl, rfl, by decide +kernel, rfl, by decide +kernel, by decide +kernel⟩
section
variable {P : Program} {w : World} {K : PySem.W.Frag} {mg : Str → Option Value} {base : Heap} {c fm : Nat → Addr}
theorem ok_of_first {f : Addr} {fd : FuncData} (F : Fun K "_law_of_first" "_law_of_first" s_of_first f fd) (Z : Zz P w K mg base c fm) (T : Bl mg) : FnOk P w K mg base CX0 3 f fd ["_law_e"] (spIs c (jz [0, 1, 2, 3, 4, 5, 6, 7, 8, 9, 10, 11, 12, 13, 14, 15, 16, 17, 18, 19, 20])) := by
  refine F.ok sc_of_first (fun vs H Q E h => ?_) (fun cdv A outer s H vs Q E hr h => ?_)
  · obtain ⟨i, x, fo, rfl, _⟩ := h
    rfl
  · obtain ⟨i, x, fo, rfl, hi, hx, q⟩ := h
    refine ⟨_, (pss_cons (ps_set (i := 1) sc_of_first.nd rfl (Or.inl rfl) (pe_izl (pi_cons (pe_is (r := fun i => decide (0 = i)) T Z.T (pe_glob (v := .ref (c 0)) (by rfl) Z.e0.gm rfl) (.own _) (fun i hi => Z.is i 0 hi (by decide)) (pv 0)) (pi_cons (pe_is (r := fun i => decide (1 = i)) T Z.T (pe_glob (v := .ref (c 1)) (by rfl) Z.e1.gm rfl) (.own _) (fun i hi => Z.is i 1 hi (by decide)) (pv 0)) (pi_cons (pe_is (r := fun i => decide (2 = i)) T Z.T (pe_glob (v := .ref (c 2)) (by rfl) Z.e2.gm rfl) (.own _) (fun i hi => Z.is i 2 hi (by decide)) (pv 0)) pi_nil))) (Nat.le_of_ble_eq_true rfl)))
  (pss_cons (ps_set (i := 1) sc_of_first.nd rfl (Or.inl rfl) (pe_op op_cat (pv 1) (pe_izl (pi_cons (pe_is (r := fun i => decide (3 = i)) T Z.T (pe_glob (v := .ref (c 3)) (by rfl) Z.e3.gm rfl) (.own _) (fun i hi => Z.is i 3 hi (by decide)) (pv 0)) (pi_cons (pe_is (r := fun i => decide (4 = i)) T Z.T (pe_glob (v := .ref (c 4)) (by rfl) Z.e4.gm rfl) (.own _) (fun i hi => Z.is i 4 hi (by decide)) (pv 0)) (pi_cons (pe_is (r := fun i => decide (5 = i)) T Z.T (pe_glob (v := .ref (c 5)) (by rfl) Z.e5.gm rfl) (.own _) (fun i hi => Z.is i 5 hi (by decide)) (pv 0)) pi_nil))) (Nat.le_of_ble_eq_true rfl))))
  (pss_cons (ps_set (i := 1) sc_of_first.nd rfl (Or.inl rfl) (pe_op op_cat (pv 1) (pe_izl (pi_cons (pe_is (r := fun i => decide (6 = i)) T Z.T (pe_glob (v := .ref (c 6)) (by rfl) Z.e6.gm rfl) (.own _) (fun i hi => Z.is i 6 hi (by decide)) (pv 0)) (pi_cons (pe_is (r := fun i => decide (7 = i)) T Z.T (pe_glob (v := .ref (c 7)) (by rfl) Z.e7.gm rfl) (.own _) (fun i hi => Z.is i 7 hi (by decide)) (pv 0)) (pi_cons (pe_is (r := fun i => decide (8 = i)) T Z.T (pe_glob (v := .ref (c 8)) (by rfl) Z.e8.gm rfl) (.own _) (fun i hi => Z.is i 8 hi (by decide)) (pv 0)) pi_nil))) (Nat.le_of_ble_eq_true rfl))))
  (pss_cons (ps_set (i := 1) sc_of_first.nd rfl (Or.inl rfl) (pe_op op_cat (pv 1) (pe_izl (pi_cons (pe_is (r := fun i => decide (9 = i)) T Z.T (pe_glob (v := .ref (c 9)) (by rfl) Z.e9.gm rfl) (.own _) (fun i hi => Z.is i 9 hi (by decide)) (pv 0)) (pi_cons (pe_is (r := fun i => decide (10 = i)) T Z.T (pe_glob (v := .ref (c 10)) (by rfl) Z.e10.gm rfl) (.own _) (fun i hi => Z.is i 10 hi (by decide)) (pv 0)) (pi_cons (pe_is (r := fun i => decide (11 = i)) T Z.T (pe_glob (v := .ref (c 11)) (by rfl) Z.e11.gm rfl) (.own _) (fun i hi => Z.is i 11 hi (by decide)) (pv 0)) pi_nil))) (Nat.le_of_ble_eq_true rfl))))
  (pss_cons (ps_set (i := 1) sc_of_first.nd rfl (Or.inl rfl) (pe_op op_cat (pv 1) (pe_izl (pi_cons (pe_is (r := fun i => decide (12 = i)) T Z.T (pe_glob (v := .ref (c 12)) (by rfl) Z.e12.gm rfl) (.own _) (fun i hi => Z.is i 12 hi (by decide)) (pv 0)) (pi_cons (pe_is (r := fun i => decide (13 = i)) T Z.T (pe_glob (v := .ref (c 13)) (by rfl) Z.e13.gm rfl) (.own _) (fun i hi => Z.is i 13 hi (by decide)) (pv 0)) (pi_cons (pe_is (r := fun i => decide (14 = i)) T Z.T (pe_glob (v := .ref (c 14)) (by rfl) Z.e14.gm rfl) (.own _) (fun i hi => Z.is i 14 hi (by decide)) (pv 0)) pi_nil))) (Nat.le_of_ble_eq_true rfl))))
  (pss_cons (ps_set (i := 1) sc_of_first.nd rfl (Or.inl rfl) (pe_op op_cat (pv 1) (pe_izl (pi_cons (pe_is (r := fun i => decide (15 = i)) T Z.T (pe_glob (v := .ref (c 15)) (by rfl) Z.e15.gm rfl) (.own _) (fun i hi => Z.is i 15 hi (by decide)) (pv 0)) (pi_cons (pe_is (r := fun i => decide (16 = i)) T Z.T (pe_glob (v := .ref (c 16)) (by rfl) Z.e16.gm rfl) (.own _) (fun i hi => Z.is i 16 hi (by decide)) (pv 0)) (pi_cons (pe_is (r := fun i => decide (17 = i)) T Z.T (pe_glob (v := .ref (c 17)) (by rfl) Z.e17.gm rfl) (.own _) (fun i hi => Z.is i 17 hi (by decide)) (pv 0)) pi_nil))) (Nat.le_of_ble_eq_true rfl))))
  (pss_one (ps_ret (pe_op op_cat (pv 1) (pe_izl (pi_cons (pe_is (r := fun i => decide (18 = i)) T Z.T (pe_glob (v := .ref (c 18)) (by rfl) Z.e18.gm rfl) (.own _) (fun i hi => Z.is i 18 hi (by decide)) (pv 0)) (pi_cons (pe_is (r := fun i => decide (19 = i)) T Z.T (pe_glob (v := .ref (c 19)) (by rfl) Z.e19.gm rfl) (.own _) (fun i hi => Z.is i 19 hi (by decide)) (pv 0)) (pi_cons (pe_is (r := fun i => decide (20 = i)) T Z.T (pe_glob (v := .ref (c 20)) (by rfl) Z.e20.gm rfl) (.own _) (fun i hi => Z.is i 20 hi (by decide)) (pv 0)) pi_nil))) (Nat.le_of_ble_eq_true rfl))))))))))), ?_⟩
    refine ⟨i, x, fo, rfl, hi, hx, fun H1 l1 s1 x1 => ?_⟩
    refine ⟨_, rfl, i, x, fo, rfl, hi, hx.same s1, fun H2 l2 s2 x2 => bcat (x1.same s2) x2 (Nat.le_of_ble_eq_true rfl) fun H3 l3 s3 x3 => ?_⟩
    replace s1 := s1.trans (s2.trans s3)
    clear s2 s3 x1 x2
    have x1 := x3
    clear x3
    refine ⟨_, rfl, i, x, fo, rfl, hi, hx.same s1, fun H2 l2 s2 x2 => bcat (x1.same s2) x2 (Nat.le_of_ble_eq_true rfl) fun H3 l3 s3 x3 => ?_⟩
    replace s1 := s1.trans (s2.trans s3)
    clear s2 s3 x1 x2
    have x1 := x3
    clear x3
    refine ⟨_, rfl, i, x, fo, rfl, hi, hx.same s1, fun H2 l2 s2 x2 => bcat (x1.same s2) x2 (Nat.le_of_ble_eq_true rfl) fun H3 l3 s3 x3 => ?_⟩
    replace s1 := s1.trans (s2.trans s3)
    clear s2 s3 x1 x2
    have x1 := x3
    clear x3
    refine ⟨_, rfl, i, x, fo, rfl, hi, hx.same s1, fun H2 l2 s2 x2 => bcat (x1.same s2) x2 (Nat.le_of_ble_eq_true rfl) fun H3 l3 s3 x3 => ?_⟩
    replace s1 := s1.trans (s2.trans s3)
    clear s2 s3 x1 x2
    have x1 := x3
    clear x3
    refine ⟨_, rfl, i, x, fo, rfl, hi, hx.same s1, fun H2 l2 s2 x2 => bcat (x1.same s2) x2 (Nat.le_of_ble_eq_true rfl) fun H3 l3 s3 x3 => ?_⟩
    replace s1 := s1.trans (s2.trans s3)
    clear s2 s3 x1 x2
    have x1 := x3
    clear x3
    exact ⟨_, rfl, i, x, fo, rfl, hi, hx.same s1, fun H2 l2 s2 x2 => bcat (x1.same s2) x2 (Nat.le_of_ble_eq_true rfl) fun H3 l3 s3 x3 => q _ l3 (s1.trans (s2.trans s3)) x3⟩

theorem ok_of_others {f : Addr} {fd : FuncData} (F : Fun K "_law_of_others" "_law_of_others" s_of_others f fd) (Z : Zz P w K mg base c fm) (T : Bl mg) : FnOk P w K mg base CX0 3 f fd ["_law_e"] (spIs c (jz [21, 22, 23, 24, 25, 26, 27, 28, 29, 30, 31, 32])) := by
  refine F.ok sc_of_others (fun vs H Q E h => ?_) (fun cdv A outer s H vs Q E hr h => ?_)
  · obtain ⟨i, x, fo, rfl, _⟩ := h
    rfl
  · obtain ⟨i, x, fo, rfl, hi, hx, q⟩ := h
    refine ⟨_, (pss_cons (ps_set (i := 1) sc_of_others.nd rfl (Or.inl rfl) (pe_izl (pi_cons (pe_is (r := fun i => decide (21 = i)) T Z.T (pe_glob (v := .ref (c 21)) (by rfl) Z.e21.gm rfl) (.own _) (fun i hi => Z.is i 21 hi (by decide)) (pv 0)) (pi_cons (pe_is (r := fun i => decide (22 = i)) T Z.T (pe_glob (v := .ref (c 22)) (by rfl) Z.e22.gm rfl) (.own _) (fun i hi => Z.is i 22 hi (by decide)) (pv 0)) (pi_cons (pe_is (r := fun i => decide (23 = i)) T Z.T (pe_glob (v := .ref (c 23)) (by rfl) Z.e23.gm rfl) (.own _) (fun i hi => Z.is i 23 hi (by decide)) (pv 0)) (pi_cons (pe_is (r := fun i => decide (24 = i)) T Z.T (pe_glob (v := .ref (c 24)) (by rfl) Z.e24.gm rfl) (.own _) (fun i hi => Z.is i 24 hi (by decide)) (pv 0)) pi_nil)))) (Nat.le_of_ble_eq_true rfl)))
  (pss_cons (ps_set (i := 1) sc_of_others.nd rfl (Or.inl rfl) (pe_op op_cat (pv 1) (pe_izl (pi_cons (pe_is (r := fun i => decide (25 = i)) T Z.T (pe_glob (v := .ref (c 25)) (by rfl) Z.e25.gm rfl) (.own _) (fun i hi => Z.is i 25 hi (by decide)) (pv 0)) (pi_cons (pe_is (r := fun i => decide (26 = i)) T Z.T (pe_glob (v := .ref (c 26)) (by rfl) Z.e26.gm rfl) (.own _) (fun i hi => Z.is i 26 hi (by decide)) (pv 0)) (pi_cons (pe_is (r := fun i => decide (27 = i)) T Z.T (pe_glob (v := .ref (c 27)) (by rfl) Z.e27.gm rfl) (.own _) (fun i hi => Z.is i 27 hi (by decide)) (pv 0)) pi_nil))) (Nat.le_of_ble_eq_true rfl))))
  (pss_cons (ps_set (i := 1) sc_of_others.nd rfl (Or.inl rfl) (pe_op op_cat (pv 1) (pe_izl (pi_cons (pe_is (r := fun i => decide (28 = i)) T Z.T (pe_glob (v := .ref (c 28)) (by rfl) Z.e28.gm rfl) (.own _) (fun i hi => Z.is i 28 hi (by decide)) (pv 0)) (pi_cons (pe_is (r := fun i => decide (29 = i)) T Z.T (pe_glob (v := .ref (c 29)) (by rfl) Z.e29.gm rfl) (.own _) (fun i hi => Z.is i 29 hi (by decide)) (pv 0)) (pi_cons (pe_is (r := fun i => decide (30 = i)) T Z.T (pe_glob (v := .ref (c 30)) (by rfl) Z.e30.gm rfl) (.own _) (fun i hi => Z.is i 30 hi (by decide)) (pv 0)) pi_nil))) (Nat.le_of_ble_eq_true rfl))))
  (pss_one (ps_ret (pe_op op_cat (pv 1) (pe_izl (pi_cons (pe_is (r := fun i => decide (31 = i)) T Z.T (pe_glob (v := .ref (c 31)) (by rfl) Z.e31.gm rfl) (.own _) (fun i hi => Z.is i 31 hi (by decide)) (pv 0)) (pi_cons (pe_is (r := fun i => decide (32 = i)) T Z.T (pe_glob (v := .ref (c 32)) (by rfl) Z.x32.gm rfl) (.own _) (fun i hi => Z.is i 32 hi (by decide)) (pv 0)) pi_nil)) (Nat.le_of_ble_eq_true rfl)))))))), ?_⟩
    refine ⟨i, x, fo, rfl, hi, hx, fun H1 l1 s1 x1 => ?_⟩
    refine ⟨_, rfl, i, x, fo, rfl, hi, hx.same s1, fun H2 l2 s2 x2 => bcat (x1.same s2) x2 (Nat.le_of_ble_eq_true rfl) fun H3 l3 s3 x3 => ?_⟩
    replace s1 := s1.trans (s2.trans s3)
    clear s2 s3 x1 x2
    have x1 := x3
    clear x3
    refine ⟨_, rfl, i, x, fo, rfl, hi, hx.same s1, fun H2 l2 s2 x2 => bcat (x1.same s2) x2 (Nat.le_of_ble_eq_true rfl) fun H3 l3 s3 x3 => ?_⟩
    replace s1 := s1.trans (s2.trans s3)
    clear s2 s3 x1 x2
    have x1 := x3
    clear x3
    exact ⟨_, rfl, i, x, fo, rfl, hi, hx.same s1, fun H2 l2 s2 x2 => bcat (x1.same s2) x2 (Nat.le_of_ble_eq_true rfl) fun H3 l3 s3 x3 => q _ l3 (s1.trans (s2.trans s3)) x3⟩

theorem ok_families {f : Addr} {fd : FuncData} (F : Fun K "_law_families" "_law_families" s_families f fd) (Z : Zz P w K mg base c fm) (T : Bl mg) : FnOk P w K mg base CX0 3 f fd ["_law_e"] (spIs c (jf [0, 1, 2, 3] ++ jf [0, 1, 2, 3])) := by
  refine F.ok sc_families (fun vs H Q E h => ?_) (fun cdv A outer s H vs Q E hr h => ?_)
  · obtain ⟨i, x, fo, rfl, _⟩ := h
    rfl
  · obtain ⟨i, x, fo, rfl, hi, hx, q⟩ := h
    refine ⟨_, (pss_cons (ps_set (i := 1) sc_families.nd rfl (Or.inl rfl) (pe_izl (pi_cons (pe_is (r := fun i => decide (0 = famOf i)) T Z.T (pe_glob (v := .ref (fm 0)) (by rfl) Z.f0 rfl) (.own _) (fun i hi => Z.isF i 0 hi (by decide)) (pv 0)) (pi_cons (pe_is (r := fun i => decide (1 = famOf i)) T Z.T (pe_glob (v := .ref (fm 1)) (by rfl) Z.f1 rfl) (.own _) (fun i hi => Z.isF i 1 hi (by decide)) (pv 0)) (pi_cons (pe_is (r := fun i => decide (2 = famOf i)) T Z.T (pe_glob (v := .ref (fm 2)) (by rfl) Z.f2 rfl) (.own _) (fun i hi => Z.isF i 2 hi (by decide)) (pv 0)) pi_nil))) (Nat.le_of_ble_eq_true rfl)))
  (pss_cons (ps_set (i := 1) sc_families.nd rfl (Or.inl rfl) (pe_op op_cat (pv 1) (pe_izl (pi_cons (pe_is (r := fun i => decide (3 = famOf i)) T Z.T (pe_glob (v := .ref (fm 3)) (by rfl) Z.f3 rfl) (.own _) (fun i hi => Z.isF i 3 hi (by decide)) (pv 0)) (pi_cons (pe_is (r := fun i => decide (0 = famOf i)) T Z.T (pe_bltn (v := .ty "ValueError") (by rfl) T.ValueError (by decide +kernel) rfl) (.ty _) Z.b0 (pv 0)) (pi_cons (pe_is (r := fun i => decide (1 = famOf i)) T Z.T (pe_bltn (v := .ty "LookupError") (by rfl) T.LookupError (by decide +kernel) rfl) (.ty _) Z.b1 (pv 0)) pi_nil))) (Nat.le_of_ble_eq_true rfl))))
  (pss_one (ps_ret (pe_op op_cat (pv 1) (pe_izl (pi_cons (pe_is (r := fun i => decide (2 = famOf i)) T Z.T (pe_bltn (v := .ty "RuntimeError") (by rfl) T.RuntimeError (by decide +kernel) rfl) (.ty _) Z.b2 (pv 0)) (pi_cons (pe_is (r := fun i => decide (3 = famOf i)) T Z.T (pe_bltn (v := .ty "ArithmeticError") (by rfl) T.ArithmeticError (by decide +kernel) rfl) (.ty _) Z.b3 (pv 0)) pi_nil)) (Nat.le_of_ble_eq_true rfl))))))), ?_⟩
    refine ⟨i, x, fo, rfl, hi, hx, fun H1 l1 s1 x1 => ?_⟩
    refine ⟨_, rfl, i, x, fo, rfl, hi, hx.same s1, fun H2 l2 s2 x2 => bcat (x1.same s2) x2 (Nat.le_of_ble_eq_true rfl) fun H3 l3 s3 x3 => ?_⟩
    replace s1 := s1.trans (s2.trans s3)
    clear s2 s3 x1 x2
    have x1 := x3
    clear x3
    exact ⟨_, rfl, i, x, fo, rfl, hi, hx.same s1, fun H2 l2 s2 x2 => bcat (x1.same s2) x2 (Nat.le_of_ble_eq_true rfl) fun H3 l3 s3 x3 => q _ l3 (s1.trans (s2.trans s3)) x3⟩

theorem ok_every {f : Addr} {fd : FuncData} (F : Fun K "_law_every" "_law_every" s_every f fd) (Z : Zz P w K mg base c fm) (c_placed : Cl P w K mg base 3 "_law_placed" (spMk (cf c [0, 1, 2, 3, 4, 5, 6]))) (c_valued : Cl P w K mg base 3 "_law_valued" (spMk (cf c [8, 9, 10, 11, 12, 13, 14, 15, 16, 17, 18, 19, 20]))) (c_stood : Cl P w K mg base 3 "_law_stood" (spMk (cf c [22, 23, 24, 25]))) : FnOk P w K mg base CX0 4 f fd ["_law_near"] (spEvery c) := by
  refine F.ok sc_every (fun vs H Q E h => ?_) (fun cdv A outer s H vs Q E hr h => ?_)
  · obtain ⟨v, rfl, _⟩ := h
    rfl
  · obtain ⟨v, rfl, q⟩ := h
    refine ⟨_, (pss_cons (ps_set (i := 1) sc_every.nd rfl (Or.inl rfl) (pe_op op_cat (pe_op op_cat (pe_cl c_placed hr (by decide) (by rfl) (pa_cons (pv 0) pa_nil)) (pe_zl (pz_1 (pe_x Z.e7 hr (by decide) (by rfl) (pv 0)) pz_nil) (fun _ => Nat.le_of_ble_eq_true rfl))) (pe_cl c_valued hr (by decide) (by rfl) (pa_cons (pv 0) pa_nil))))
  (pss_cons (ps_set (i := 2) sc_every.nd rfl (Or.inl rfl) (pe_op op_cat (pe_cl c_stood hr (by decide) (by rfl) (pa_cons (pv 0) pa_nil)) (pe_zl (pz_1 (pe_x Z.e26 hr (by decide) (by rfl) (pv 0)) (pz_1 (pe_x Z.e27 hr (by decide) (by rfl) (pv 0)) (pz_0 (j := 0) Z.e28 hr (by decide) (by rfl) (pz_0 (j := 0) Z.e29 hr (by decide) (by rfl) (pz_0 (j := 0) Z.e30 hr (by decide) (by rfl) pz_nil))))) (fun _ => Nat.le_of_ble_eq_true rfl))))
  (pss_one (ps_ret (pe_lst (pa_cons (pv 1) (pa_cons (pe_zl (pz_1 (pe_x Z.e21 hr (by decide) (by rfl) (pv 0)) pz_nil) (fun _ => Nat.le_of_ble_eq_true rfl)) (pa_cons (pe_op op_cat (pv 2) (pe_zl (pz_0 (j := 0) Z.e31 hr (by decide) (by rfl) pz_nil) (fun _ => Nat.le_of_ble_eq_true rfl))) (pa_cons (pe_zl (pz_2 Z.x32 hr (by decide) (by rfl) (pv 0) pz_nil) (fun _ => Nat.le_of_ble_eq_true rfl)) pa_nil))))))))), ?_⟩
    refine ⟨v, rfl, v, rfl, fun H1 l1 s1 x1 => ⟨v, rfl, fun H2 l2 s2 n2 x2 => xcat (x1.same s2) x2 (Nat.le_of_ble_eq_true rfl) fun H3 l3 s3 n3 x3 => ⟨v, rfl, v, rfl, fun H4 l4 s4 x4 => xcat (x3.same s4) x4 (Nat.le_of_ble_eq_true rfl) fun H5 a0 s5 n5 y0 => ?_⟩⟩⟩
    refine ⟨v, rfl, v, rfl, fun H6 l6 s6 x6 => ⟨v, rfl, fun H7 l7 s7 n7 x7 => xcat (x6.same s7) x7 (Nat.le_of_ble_eq_true rfl) fun H8 l8 s8 n8 x8 => ?_⟩⟩
    refine ⟨_, rfl, v, rfl, fun H9 a1 s9 n9 y1 => ⟨_, rfl, v, rfl, fun Ha la sa na xa => xcat (x8.same (s9.trans sa)) xa (Nat.le_of_ble_eq_true rfl) fun Hb a2 sb nb y2 => ⟨v, rfl, fun Hc a3 sc nc y3 => ?_⟩⟩⟩
    refine ⟨by show 4 ≤ sizeLine; decide, fun l nl => ?_⟩
    have z9 := (s9.trans sa).trans sb
    have z5 := (s6.trans s7).trans s8
    have sl := same_upd (o := .lst [.ref a0, .ref a1, .ref a2, .ref a3]) nl
    refine q _ l a0 a1 a2 a3 ((s1.trans (s2.trans s3)).trans ((s4.trans s5).trans ((z5.trans z9).trans (sc.trans sl)))) upd_same (y0.same ((z5.trans z9).trans (sc.trans sl))) (y1.same ((sa.trans sb).trans (sc.trans sl))) (y2.same (sc.trans sl)) (y3.same sl)

end
end K10

namespace K10
open PySem PySem.Spec PyProof.Rows L2 Xv
/-! ### len, by a name that does not hang on the place -/
def rLn (K : PySem.W.Frag) : List V → Hp → VK → Prop := fun xs H Q => ∃ p ys, xs = [.ref p] ∧ (SqL K H p ys ∨ SqT K H p ys) ∧ Q (.int ys.length) H
theorem call_ln {X : Cx} : CallR X (.builtin "len") (rLn X.K) := call_len_seq
/-! ### lists of bools -/
theorem dp_bools {K : PySem.W.Frag} {H : Hp} : ∀ bs : List Bool, DpAll K H (bs.map V.bl) (bs.map PyData.bool)
  | [] => .nil
  | b :: bs => .cons (.bl b) (dp_bools bs)
theorem can_bools : ∀ bs : List Bool, PyData.canLayAll0 (bs.map PyData.bool) = true
  | [] => rfl
  | b :: bs => by
    rw [List.map_cons, PyData.canLayAll0, can_bools bs]
    rfl
theorem depth_bools : ∀ bs : List Bool, PyData.depthAll (bs.map PyData.bool) ≤ 1
  | [] => by simp [PyData.depthAll]
  | b :: bs => by
    have := depth_bools bs
    rw [List.map_cons, PyData.depthAll]
    simp only [PyData.depth]
    omega
theorem shaped_bools (bs : List Bool) : SeqAt.shaped (.list (bs.map PyData.bool)) = true := by
  unfold SeqAt.shaped
  rw [PyData.canLay0, can_bools, Bool.true_and, PyData.depth]
  have := depth_bools bs
  exact decide_eq_true (by omega)
theorem ne_bools {K : PySem.W.Frag} {H : Hp} {l m : Addr} {bs : List Bool} {Q : VK} (h1 : H l = some (.lst (bs.map V.bl))) (h2 : H m = some (.lst (bs.map V.bl))) (q : Q (.bl false) H) : rNeD K (.ref l) (.ref m) H Q := by
  have e := PySem.SeqAt.eqv_refl (.list (bs.map PyData.bool)) (SeqAt.canLay_of_shaped (shaped_bools bs))
  refine ⟨_, _, .lst (SqL.of h1) (dp_bools bs), .lst (SqL.of h2) (dp_bools bs), shaped_bools bs, shaped_bools bs, ?_⟩
  rw [e]
  exact q
/-! ### parts: exceptions of the classes s, s + 1, .. -/
def Part (c : Nat → Addr) (H : Hp) (a : Addr) (s k : Nat) : Prop := ∃ es, H a = some (.lst es) ∧ es.length = k ∧ ∀ m x, es[m]? = some x → ∃ fo, XV H (c (s + m)) fo x
theorem Part.same {c : Nat → Addr} {H H' : Hp} {a : Addr} {s k : Nat} (h : Part c H a s k) (e : Same H H') : Part c H' a s k := by
  obtain ⟨es, h1, h2, h3⟩ := h
  exact ⟨es, e _ _ h1, h2, fun m x hx => let ⟨fo, q⟩ := h3 m x hx; ⟨fo, q.same e⟩⟩
theorem XL.part {c : Nat → Addr} {H : Hp} {a : Addr} {s k : Nat} {cfs : List CF} (h : XL H a cfs) (e : cfs.map (·.1) = (List.range' s k).map c) : Part c H a s k := by
  obtain ⟨es, h1, h2⟩ := h
  have hl : cfs.length = k := by
    have := congrArg List.length e
    simpa using this
  refine ⟨es, h1, by rw [XVs.len h2, hl], fun m x hx => ?_⟩
  obtain ⟨cf, e1, v⟩ := XVs.gets h2 hx
  have e2 : (cfs.map (·.1))[m]? = some cf.1 := by rw [List.getElem?_map, e1]; rfl
  have hm : m < k := by
    rw [← hl]
    exact (List.getElem?_eq_some_iff.mp e1).1
  rw [e, List.getElem?_map, List.getElem?_range' hm, Nat.one_mul] at e2
  exact ⟨cf.2, by rw [Option.some.inj e2]; exact v⟩
theorem jz_range (i : Nat) : (jz [0, 1, 2, 3, 4, 5, 6, 7, 8, 9, 10, 11, 12, 13, 14, 15, 16, 17, 18, 19, 20] ++ jz [21, 22, 23, 24, 25, 26, 27, 28, 29, 30, 31, 32]).map (fun r => V.bl (r i)) = ((List.range 33).map fun (j : Nat) => decide ((j : Int) = (i : Int))).map V.bl := by
  have e : ∀ j : Nat, decide ((j : Int) = (i : Int)) = decide (j = i) := fun j => decide_eq_decide.mpr (by omega)
  simp only [e]
  rfl
theorem jf_range (i n : Nat) (h : famOf i = n) (hn : n < 4) : (jf [0, 1, 2, 3] ++ jf [0, 1, 2, 3]).map (fun r => V.bl (r i)) = ((List.range 8).map fun (j : Nat) => decide ((j : Int) % 4 = (n : Int))).map V.bl := by
  subst h
  have e : ∀ j : Nat, decide ((j : Int) % 4 = (famOf i : Int)) = decide (j % 4 = famOf i) := fun j => decide_eq_decide.mpr (by omega)
  simp only [e]
  rfl
/-- [f(place) for place in range(n)], the name in slot j -/
theorem range_end {n i : Nat} {f : Nat → Bool} {te : TE} {σ : St} {H1 : Hp} {D : Addr} {Qd : Hp → Prop} (hi : i < σ.length) (hz : n ≤ 1000) (hD : H1 D = none)
    (he : ∀ k H Q, k < n → Q (V.bl (f k)) H → te ((wipe σ [i]).set i (some (.int (0 + (k : Int))))) H Q) (hd : Qd (upd H1 D (.lst (((List.range n).map f).map V.bl)))) :
    ∃ W : Nat → Nat → Hp → Prop, (∃ m, W 0 m (upd H1 D (.lst []))) ∧ ∀ k m H, W k m H →
      ((Itr 0 n).stop k H ∧ Qd H) ∨ ((Itr 0 n).go k H ∧ ∃ Nx : Hp → Prop, (∀ H', Nx H' → ∃ m', m' < m ∧ W (k + 1) m' H') ∧ ∀ x H', (Itr 0 n).yld k H x H' → gName i x (wipe σ [i]) H' fun σ2 H2 => wipe σ2 [i] = wipe σ [i] ∧ tYes σ2 H2 fun b H3 =>
        if b = true then te σ2 H3 fun y H4 => ∃ acc, H4 D = some (.lst acc) ∧ acc.length < sizeLine ∧ Nx (upd H4 D (.lst (acc ++ [y]))) else Nx H3) := by
  refine lc_range (lo := 0) (n := n) (fun k H => H = upd H1 D (.lst (((List.range k).map f).map V.bl))) rfl (fun k H hk p => ?_) (fun H p => by rw [p]; exact hd)
  subst p
  refine ⟨?_, ?_⟩
  · simp only [wipe]
    exact List.ext_getElem? fun m => by
      by_cases hm : m = i
      · subst hm
        simp [List.getElem?_set, wipe]
      · simp [List.getElem?_set, wipe, Ne.symm hm]
  · unfold tYes
    dsimp only
    rw [if_pos rfl]
    refine he k _ _ hk ⟨_, upd_same, by rw [List.length_map, List.length_map, List.length_range, sizeLine_eq]; omega, ?_⟩
    rw [upd_upd, List.range_succ, List.map_append, List.map_append]
    rfl
def start4 : Nat → Nat
  | 0 => 0
  | 1 => 21
  | 2 => 22
  | 3 => 32
  | _ => 33
def cnt4 : Nat → Nat
  | 0 => 21
  | 1 => 1
  | 2 => 10
  | 3 => 1
  | _ => 0
theorem at4 (i m : Nat) (hi : i < 4) (hm : m < cnt4 i) : start4 i + m < 33 ∧ famOf (start4 i + m) = i := by
  match i, hi with
  | 0, _ =>
    have h : m < 21 := hm
    show 0 + m < 33 ∧ famOf (0 + m) = 0
    rw [Nat.zero_add]
    exact ⟨by omega, by unfold famOf; rw [if_pos h]⟩
  | 1, _ =>
    have h : m < 1 := hm
    obtain rfl : m = 0 := by omega
    exact ⟨by decide, rfl⟩
  | 2, _ =>
    have h : m < 10 := hm
    show 22 + m < 33 ∧ famOf (22 + m) = 2
    exact ⟨by omega, by unfold famOf; rw [if_neg (by omega), if_neg (by omega), if_pos (by omega)]⟩
  | 3, _ =>
    have h : m < 1 := hm
    obtain rfl : m = 0 := by omega
    exact ⟨by decide, rfl⟩
def spKinds : Sp := fun vs H Q _ => ∃ p, vs = [.ref p] ∧ Pot H p ∧ ∀ H', But p H H' → Pot H' p → Q (.bl true) H'
abbrev s_kinds_right : Stmt := top 53
abbrev N_kinds_right : List Str := ["_law_pot_here", "_law_every_here", "_law_at", "_law_part", "_law_family", "_law_e", "_law_place"]
theorem sc_kinds_right : FnScope N_kinds_right ["_law_pot_here"] (defScope s_kinds_right) := ⟨rfl, rfl, rfl, by decide +kernel, rfl, by decide +kernel, by decide +kernel⟩
section
variable {P : Program} {w : World} {K : PySem.W.Frag} {mg : Str → Option Value} {base : Heap} {c fm : Nat → Addr}
theorem ok_kinds {f : Addr} {fd : FuncData} (F : Fun K "_law_kinds_right" "_law_kinds_right" s_kinds_right f fd) (T : Bl mg) (c_thing : Cl P w K mg base 3 "_law_thing" (spThing K)) (c_every : Cl P w K mg base 4 "_law_every" (spEvery c))
    (c_of_first : Cl P w K mg base 3 "_law_of_first" (spIs c (jz [0, 1, 2, 3, 4, 5, 6, 7, 8, 9, 10, 11, 12, 13, 14, 15, 16, 17, 18, 19, 20]))) (c_of_others : Cl P w K mg base 3 "_law_of_others" (spIs c (jz [21, 22, 23, 24, 25, 26, 27, 28, 29, 30, 31, 32]))) (c_families : Cl P w K mg base 3 "_law_families" (spIs c (jf [0, 1, 2, 3] ++ jf [0, 1, 2, 3]))) :
    FnOk P w K mg base CX0 5 f fd ["_law_pot_here"] spKinds := by
  refine F.ok sc_kinds_right (fun vs H Q E h => ?_) (fun cdv A outer s H vs Q E hr h => ?_)
  · obtain ⟨p, rfl, _⟩ := h
    rfl
  · obtain ⟨p, rfl, hP, q⟩ := h
    refine ⟨_, (pss_cons (ps_asg (pe_tup (pa_cons (pe_cl c_every hr (by decide) (by rfl) (pa_cons (pe_cl c_thing hr (by decide) (by rfl) (pa_cons (pv 0) pa_nil)) pa_nil)) (pa_cons pe_int pa_nil))) (pg_tup rfl (pgs_cons (pg_name (i := 1) sc_kinds_right.nd rfl (Or.inl rfl)) (pgs_cons (pg_name (i := 2) sc_kinds_right.nd rfl (Or.inr rfl)) pgs_nil))))
  (pss_cons (ps_if (pt_cmpR (op_neD hr.units) (pe_lc (own := [("_law_part", 3)]) (g := gName 3) (te := tCB (rLn K) (tCons (tVar 3) tNil)) (tt := tYes) rfl sc_kinds_right.nd (pi_list (pv 1)) (blkOk_by (N := N_kinds_right) (sc := defScope s_kinds_right) (by decide +kernel)) (fun _ _ _ _ _ => (pg_name (i := 3) sc_kinds_right.nd rfl (Or.inl rfl))) (fun _ _ _ _ _ => pts_nil) (fun _ _ _ _ _ => (pe_callB (id := "len") (call_ln) (by rfl) T.len (by decide +kernel) (pa_cons (pv 3) pa_nil)))) (pe_lst (pa_cons pe_int (pa_cons pe_int (pa_cons pe_int (pa_cons pe_int pa_nil))))) (nomark _)) (pss_one (ps_ret pe_bl)) pss_nil)
  (pss_cons (ps_for PassesOwn.never rfl (pi_enum rfl T.enumerate (pa_cons (pv 1) pa_nil)) (pg_tup rfl (pgs_cons (pg_name (i := 4) sc_kinds_right.nd rfl (Or.inr rfl)) (pgs_cons (pg_name (i := 3) sc_kinds_right.nd rfl (Or.inl rfl)) pgs_nil)))
  (pss_one (ps_for PassesOwn.never rfl (pi_list (pv 3)) (pg_name (i := 5) sc_kinds_right.nd rfl (Or.inl rfl))
  (pss_cons (ps_if (pt_cmpR (op_neD hr.units) (pe_op op_cat (pe_cl c_of_first hr (by decide) (by rfl) (pa_cons (pv 5) pa_nil)) (pe_cl c_of_others hr (by decide) (by rfl) (pa_cons (pv 5) pa_nil))) (pe_lc (own := [("_law_place", 6)]) (g := gName 6) (tt := tYes) rfl sc_kinds_right.nd (pi_range1 rfl T.range (pa_cons pe_int pa_nil)) (blkOk_by (N := N_kinds_right) (sc := defScope s_kinds_right) (by decide +kernel)) (fun _ _ _ _ _ => (pg_name (i := 6) sc_kinds_right.nd rfl (Or.inl rfl))) (fun _ _ _ _ _ => pts_nil) (fun _ _ _ _ _ => (pe_cmpR op_eq (pv 6) (pv 2) (nomark _)))) (nomark _)) (pss_one (ps_ret pe_bl)) pss_nil)
  (pss_cons (ps_if (pt_cmpR (op_neD hr.units) (pe_cl c_families hr (by decide) (by rfl) (pa_cons (pv 5) pa_nil)) (pe_lc (own := [("_law_place", 6)]) (g := gName 6) (tt := tYes) rfl sc_kinds_right.nd (pi_range1 rfl T.range (pa_cons pe_int pa_nil)) (blkOk_by (N := N_kinds_right) (sc := defScope s_kinds_right) (by decide +kernel)) (fun _ _ _ _ _ => (pg_name (i := 6) sc_kinds_right.nd rfl (Or.inl rfl))) (fun _ _ _ _ _ => pts_nil) (fun _ _ _ _ _ => (pe_cmpR op_eq (pe_op op_mod (pe_callTy (T := "int") call_int1 (by rfl) T.int (by decide +kernel) (pa_cons (pv 6) pa_nil)) pe_int) (pv 4) (nomark _)))) (nomark _)) (pss_one (ps_ret pe_bl)) pss_nil)
  (pss_one (ps_set (i := 2) sc_kinds_right.nd rfl (Or.inr rfl) (pe_op op_add (pv 2) pe_int))))))))
  (pss_one (ps_ret (pe_cmpR op_eq (pv 2) pe_int (nomark _))))))), ?_⟩
    refine ⟨_, rfl, p, rfl, hP, fun H1 v d b1 P1 D1 => ⟨v, rfl, fun H2 l a0 a1 a2 a3 s2 hl y0 y1 y2 y3 => ⟨by show 2 ≤ sizeLine; decide, fun t nt => ?_⟩⟩⟩
    refine ⟨t, _, rfl, .inl (.inl upd_same), rfl, _, _, rfl, _, _, rfl, ⟨rfl, ?_⟩⟩
    have s3 : Same H2 (upd H2 t (.tup [.ref l, .int 0])) := same_upd nt
    have PP : ∀ (i : Nat) (x : V), ([.ref a0, .ref a1, .ref a2, .ref a3] : List V)[i]? = some x → ∃ a, x = .ref a ∧ Part c H2 a (start4 i) (cnt4 i) := fun i x hx => by
      match i, hx with
      | 0, hx =>
        cases hx
        exact ⟨a0, rfl, y0.part rfl⟩
      | 1, hx =>
        cases hx
        exact ⟨a1, rfl, y1.part rfl⟩
      | 2, hx =>
        cases hx
        exact ⟨a2, rfl, y2.part rfl⟩
      | 3, hx =>
        cases hx
        exact ⟨a3, rfl, y3.part rfl⟩
      | i + 4, hx => simp at hx
    -- [len(part) for part in every_here] != [21, 1, 10, 1]
    refine ⟨_, rfl, l, rfl, ⟨_, SqL.of (s3 _ _ hl)⟩, fun D hD => ?_⟩
    refine lc_list (K := K) (a := l) (xs := [.ref a0, .ref a1, .ref a2, .ref a3]) (fun n H => H = upd (upd H2 t (.tup [.ref l, .int 0])) D (.lst ((List.range n).map fun k => V.int (cnt4 k)))) rfl (fun n H _ e => by rw [e]; exact SqL.of (same_upd hD _ _ (s3 _ _ hl))) (fun n x H hx e => ?_) (fun H e => ?_)
    · obtain ⟨a, rfl, PT⟩ := PP n x hx
      have hn : n < 4 := (List.getElem?_eq_some_iff.mp hx).1
      subst e
      obtain ⟨es, he1, he2, _⟩ := (PT.same s3).same (same_upd (o := .lst ((List.range n).map fun k => V.int (cnt4 k))) hD)
      refine ⟨rfl, ?_⟩
      unfold tYes
      dsimp only
      rw [if_pos rfl]
      refine ⟨_, rfl, a, es, rfl, .inl (SqL.of he1), _, upd_same, by rw [List.length_map, List.length_range, sizeLine_eq]; omega, ?_⟩
      rw [upd_upd, List.range_succ, List.map_append, he2]
      rfl
    subst e
    refine ⟨by show 4 ≤ sizeLine; decide, fun u nu => ?_⟩
    have s5 := (s3.trans (same_upd (o := .lst ((List.range 4).map fun k => V.int (cnt4 k))) hD)).trans (same_upd (o := .lst [.int 21, .int 1, .int 10, .int 1]) nu)
    have hD5 : upd (upd (upd H2 t (.tup [.ref l, .int 0])) D (.lst ((List.range 4).map fun k => V.int (cnt4 k)))) u (.lst [.int 21, .int 1, .int 10, .int 1]) D = some (.lst [.int 21, .int 1, .int 10, .int 1]) := same_upd nu _ _ upd_same
    refine ⟨.list [.int 21, .int 1, .int 10, .int 1], .list [.int 21, .int 1, .int 10, .int 1], .lst (SqL.of hD5) (.cons (.int _) (.cons (.int _) (.cons (.int _) (.cons (.int _) .nil)))), .lst (SqL.of upd_same) (.cons (.int _) (.cons (.int _) (.cons (.int _) (.cons (.int _) .nil)))), rfl, rfl, _, rfl, ite2 (fun z => absurd z (by decide)) (fun _ => ?_)⟩
    -- for family, part in enumerate(every_here)
    refine ⟨_, rfl, l, _, rfl, SqL.of (s5 _ _ hl), for_it walk_enum (fun n σ H => ∃ u3 u4 u5 u6, σ = [some (.ref p), some (.ref l), some (.int ((start4 n : Nat) : Int)), u3, u4, u5, u6] ∧ Same H2 H) ⟨_, _, _, _, rfl, s5⟩ (fun i σ H _ ⟨_, _, _, _, _, sH⟩ => SqL.of (sH _ _ hl)) ?_ ?_⟩
    · rintro i x σ H4 H5 hi ⟨u3, u4, u5, u6, rfl, sH⟩ ⟨t2, x1, x2, rfl, nt2, rfl, e1, e2⟩
      cases e1
      obtain ⟨a, rfl, PT⟩ := PP i x2 e2
      have hi4 : i < 4 := hi
      have s6 := sH.trans (same_upd (o := .tup [.int (i : Nat), .ref a]) nt2)
      refine ⟨t2, _, rfl, .inl (.inl upd_same), rfl, _, _, rfl, _, _, rfl, ⟨rfl, ?_⟩⟩
      obtain ⟨es, he1, he2, he3⟩ := PT
      refine ⟨_, rfl, a, rfl, ⟨_, SqL.of (s6 _ _ he1)⟩, for_list (K := K) (a := a) (xs := es) (fun m σ H => ∃ u5 u6, σ = [some (.ref p), some (.ref l), some (.int ((start4 i + m : Nat) : Int)), some (.ref a), some (.int (i : Nat)), u5, u6] ∧ Same H2 H) ⟨_, _, rfl, s6⟩ (fun m σ H _ ⟨_, _, _, sH⟩ => SqL.of (sH _ _ he1)) ?_ ?_⟩
      · rintro m x σ H7 hm ⟨u5, u6, rfl, s7⟩
        obtain ⟨fo, xv⟩ := he3 m x hm
        have hm2 : m < cnt4 i := by
          rw [← he2]
          exact (List.getElem?_eq_some_iff.mp hm).1
        obtain ⟨hj, hf⟩ := at4 i m hi4 hm2
        obtain ⟨j, ej⟩ : ∃ j, j = start4 i + m := ⟨_, rfl⟩
        rw [← ej] at xv hj hf ⊢
        have xv7 := xv.same s7
        -- of_first(e) + of_others(e) != [place == at for place in range(33)]
        refine ⟨_, rfl, j, x, fo, rfl, hj, xv7, fun H8 l1 s8 z1 => ⟨_, rfl, j, x, fo, rfl, hj, xv7.same s8, fun H9 l2 s9 z2 => bcat (z1.same s9) z2 (Nat.le_of_ble_eq_true rfl) fun Ha l3 sa z3 => ?_⟩⟩
        have za : Ha l3 = some (.lst (((List.range 33).map fun (k : Nat) => decide ((k : Int) = (j : Int))).map V.bl)) := by
          rw [← jz_range j]
          exact z3
        refine ⟨33, rfl, by decide, by decide, fun D1 hD1 => range_end (i := 6) (n := 33) (f := fun (k : Nat) => decide ((k : Int) = (j : Int))) (by show 6 < 7; decide) (by decide) hD1 (fun k H Q hk q => ?_) ?_⟩
        · have e : decide (V.int (0 + (k : Int)) = V.int (j : Int)) = decide ((k : Int) = (j : Int)) := decide_eq_decide.mpr ⟨fun h => by have := V.int.inj h; omega, fun h => by rw [h, Int.zero_add]⟩
          refine ⟨_, rfl, _, rfl, rfl, ?_⟩
          rw [e]
          exact q
        refine ne_bools (same_upd hD1 _ _ za) upd_same ⟨_, rfl, ite2 (fun z => nomatch z) (fun _ => ?_)⟩
        have sb := (((s7.trans s8).trans s9).trans sa).trans (same_upd (o := .lst (((List.range 33).map fun (k : Nat) => decide ((k : Int) = (j : Int))).map V.bl)) hD1)
        -- families(e) != [int(place) % 4 == family for place in range(8)]
        refine ⟨_, rfl, j, x, fo, rfl, hj, xv.same sb, fun Hb l4 sc z4 => ?_⟩
        have zb : Hb l4 = some (.lst (((List.range 8).map fun (k : Nat) => decide ((k : Int) % 4 = (i : Int))).map V.bl)) := by
          rw [← jf_range j i hf hi4]
          exact z4
        refine ⟨8, rfl, by decide, by decide, fun D2 hD2 => range_end (i := 6) (n := 8) (f := fun (k : Nat) => decide ((k : Int) % 4 = (i : Int))) (by show 6 < 7; decide) (by decide) hD2 (fun k H Q hk q => ?_) ?_⟩
        · have e : decide (V.int ((0 + (k : Int)) % 4) = V.int (i : Int)) = decide ((k : Int) % 4 = (i : Int)) := decide_eq_decide.mpr ⟨fun h => by have := V.int.inj h; omega, fun h => by rw [Int.zero_add, h]⟩
          refine ⟨_, rfl, .inl ⟨_, rfl, _, _, rfl, rfl, (show (0 : Int) < 4 by decide), _, rfl, rfl, ?_⟩⟩
          rw [e]
          exact q
        refine ne_bools (same_upd hD2 _ _ zb) upd_same ⟨_, rfl, ite2 (fun z => nomatch z) (fun _ => ?_)⟩
        refine ⟨_, rfl, _, _, rfl, rfl, ?_⟩
        exact ⟨_, _, by subst ej; rfl, (sb.trans sc).trans (same_upd hD2)⟩
      · rintro σ H8 ⟨u5, u6, rfl, s8⟩
        have e : start4 i + es.length = start4 (i + 1) := by
          rw [he2]
          match i, hi4 with
          | 0, _ => rfl
          | 1, _ => rfl
          | 2, _ => rfl
          | 3, _ => rfl
        rw [e]
        exact ⟨_, _, _, _, rfl, s8⟩
    · rintro σ H4 ⟨u3, u4, u5, u6, rfl, s4⟩
      refine ⟨_, rfl, rfl, ?_⟩
      exact q _ (b1.trans (Same.but (s2.trans s4))) (Pot.same P1 (s2.trans s4))
end
end K10


namespace K10
open PySem PySem.Spec PyProof.Rows L2 Xv
/-! ### fields of lists of exceptions -/
def At (K : PySem.W.Frag) (f : Str) (cf : CF) (v : V) : Prop := ∃ fs, cf.2 = some fs ∧ ExcC K cf.1 ∧ PySem.W.findIn K (.ref cf.1) f = some none ∧ fs.lookup f = some v
theorem ats {K : PySem.W.Frag} {H : Hp} {f : Str} : ∀ {cfs : List CF} {es vs : List V}, XVs H cfs es → Paired (At K f) cfs vs → AtVs K H f es vs
  | _, _, _, .nil, .nil => .nil
  | _, _, _, .cons (a := cf) a b, .cons ⟨fs, e, T, n, l⟩ t => .cons ⟨cf.1, fs, by rw [← e]; exact a, T, n, l⟩ (ats b t)
theorem at_cf {P : Program} {w : World} {K : PySem.W.Frag} {mg : Str → Option Value} {base : Heap} {c fm : Nat → Addr} (Z : Zz P w K mg base c fm) (f : Str) (v : V) : ∀ is : List Nat, (∀ i ∈ is, i < 28 ∧ fld i = f) → Paired (At K f) (cf c is v) (List.replicate is.length v)
  | [], _ => .nil
  | i :: is, h => by
    obtain ⟨h1, h2⟩ := h i List.mem_cons_self
    refine .cons ⟨_, rfl, Z.T i (by omega), ?_, ?_⟩ (at_cf Z f v is fun j hj => h j (List.mem_cons_of_mem _ hj))
    · rw [← h2]
      exact Z.no i h1
    · subst h2
      show (([(fld i, v)] : List (Str × V)).lookup (fld i)) = some v
      simp [List.lookup]
/-- [e.f for e in a], the name in slot i: behind the list's place -/
theorem at_end {K : PySem.W.Frag} {H1 : Hp} {a : Addr} {cfs : List CF} {vs : List V} {f : Str} {i : Nat} {σ : St} {Qd : Addr → Hp → Prop} (x : XL H1 a cfs) (hp : Paired (At K f) cfs vs) (hz : cfs.length ≤ 100) (hi : i < σ.length) (k : ∀ H2 D, Same H1 H2 → H1 D = none → H2 D = some (.lst vs) → Qd D H2) :
    ∃ b, V.ref a = .ref b ∧ (∃ xs, SqL K H1 b xs) ∧ ∀ D, H1 D = none → ∃ W : Nat → Nat → Hp → Prop, (∃ m, W 0 m (upd H1 D (.lst []))) ∧ ∀ k m H, W k m H →
      ((Itl K b).stop k H ∧ Qd D H) ∨ ((Itl K b).go k H ∧ ∃ Nx : Hp → Prop, (∀ H', Nx H' → ∃ m', m' < m ∧ W (k + 1) m' H') ∧ ∀ x H', (Itl K b).yld k H x H' → gName i x (wipe σ [i]) H' fun σ2 H2 => wipe σ2 [i] = wipe σ [i] ∧ tYes σ2 H2 fun b H3 =>
        if b = true then tXat K f (tVar i) σ2 H3 fun y H4 => ∃ acc, H4 D = some (.lst acc) ∧ acc.length < sizeLine ∧ Nx (upd H4 D (.lst (acc ++ [y]))) else Nx H3) := by
  obtain ⟨es, e, xs⟩ := x
  refine ⟨a, rfl, ⟨es, SqL.of e⟩, fun D hD => attrs_end (SqL.of e) (ats xs hp) hD (by rw [XVs.len xs]; omega) hi fun H2 s h => k H2 D s hD h⟩
/-! ### repr of lists -/
theorem rep_at {K : PySem.W.Frag} {H : Hp} {l : Addr} {vs : List V} {ds : List PyData} {Q : VK} (h : H l = some (.lst vs)) (d : DrAll K H vs ds) (sm : ∀ d ∈ ds, Sml d) (hz : ds.length ≤ 1000) (q : Q (.str (PyData.list ds).shown) H) : rRepr K [.ref l] H Q := by
  obtain ⟨h1, h2, h3⟩ := sml_list sm hz
  unfold rRepr
  exact ⟨_, _, rfl, .lst (SqL.of h) d, h1, h2, h3, q⟩
theorem sml_rep {d : PyData} (h : Sml d) (n : Nat) : ∀ e ∈ List.replicate n d, Sml e := fun e he => by
  rw [List.eq_of_mem_replicate he]
  exact h
theorem ne_same {H : Hp} {x : Str} {Q : VK} (q : Q (.bl false) H) : rNe (.str x) (.str x) H Q := ⟨rfl, by rw [decide_eq_true rfl]; exact q⟩
theorem eq_same {H : Hp} {x : Str} {Q : VK} (q : Q (.bl true) H) : rEq (.str x) (.str x) H Q := ⟨rfl, by rw [decide_eq_true rfl]; exact q⟩
/-! ### places and cuts -/
theorem at_i {xs : List V} {n : Nat} {x : V} (h : xs[n]? = some x) : atI xs (n : Int) = some x := by
  have hn := (List.getElem?_eq_some_iff.mp h).1
  unfold atI ixN
  rw [if_pos (by omega), if_pos (by omega)]
  exact h
theorem cut_to {xs : List V} (k : Nat) (h : k ≤ xs.length) : cutV xs none (some (k : Int)) = xs.take k := by
  unfold cutV
  rw [HT.sIx_none, HT.sIx_nat, Nat.min_eq_left h]
  rfl
theorem cut_from {xs : List V} (k : Nat) (h : k ≤ xs.length) : cutV xs (some (k : Int)) none = xs.drop k := by
  unfold cutV
  rw [HT.sIx_none, HT.sIx_nat, Nat.min_eq_left h, ← List.length_drop, List.take_length]
theorem sl_to {K : PySem.W.Frag} {H : Hp} {a : Addr} {cfs : List CF} {Q : VK} (k : Nat) (x : XL H a cfs) (hk : k ≤ cfs.length) (q : ∀ H' p, Same H H' → XL H' p (cfs.take k) → Q (.ref p) H') : rSlL K (.ref a) none (some (k : Int)) H Q := by
  obtain ⟨es, e, xs⟩ := x
  refine ⟨a, es, rfl, SqL.of e, fun p hp => q _ p (same_upd hp) ⟨_, upd_same, ?_⟩⟩
  rw [cut_to k (by rw [XVs.len xs]; exact hk)]
  exact XVs.same (same_upd hp) (XVs.take k xs)
theorem sl_from {H : Hp} {p : Addr} {es : List V} {cfs : List CF} (k : Nat) (xs : XVs H cfs es) (hk : k ≤ cfs.length) (hp : H p = none) : XL (upd H p (.lst (cutV es (some (k : Int)) none))) p (cfs.drop k) := by
  refine ⟨_, upd_same, ?_⟩
  rw [cut_from k (by rw [XVs.len xs]; exact hk)]
  exact XVs.same (same_upd hp) (XVs.drop k xs)
/-- a[n].f, a a list of exceptions -/
theorem get_x {H : Hp} {a : Addr} {cfs : List CF} {C : Addr} {fs : List (Str × V)} (n : Nat) (x : XL H a cfs) (e : cfs[n]? = some (C, some fs)) : ∃ es y, H a = some (.lst es) ∧ atI es (n : Int) = some y ∧ XV H C (some fs) y := by
  obtain ⟨es, h, xs⟩ := x
  obtain ⟨y, hy, v⟩ := XVs.get xs e
  exact ⟨es, y, h, at_i hy, v⟩
def spKept : Sp := fun vs H Q _ => ∃ p, vs = [.ref p] ∧ Pot H p ∧ ∀ H', But p H H' → Pot H' p → Q (.bl true) H'
abbrev s_kept_right : Stmt := top 52
abbrev N_kept_right : List Str := ["_law_pot_here", "_law_near", "_law_far", "_law_placed_here", "_law_valued_here", "_law_texts", "_law_late", "_law_hands_now", "_law_kept", "_law_e", "_law_great", "_law_named_now", "_law_by_name"]
theorem sc_kept_right : FnScope N_kept_right ["_law_pot_here"] (defScope s_kept_right) := ⟨rfl, rfl, rfl, by decide +kernel, rfl, by decide +kernel, by decide +kernel⟩
section
variable {P : Program} {w : World} {K : PySem.W.Frag} {mg : Str → Option Value} {base : Heap} {c fm : Nat → Addr}
theorem ok_kept {f : Addr} {fd : FuncData} (F : Fun K "_law_kept_right" "_law_kept_right" s_kept_right f fd) (T : Bl mg) (Z : Zz P w K mg base c fm) (c_thing : Cl P w K mg base 3 "_law_thing" (spThing K)) (c_every : Cl P w K mg base 4 "_law_every" (spEvery c))
    (c_placed : Cl P w K mg base 3 "_law_placed" (spMk (cf c [0, 1, 2, 3, 4, 5, 6]))) (c_valued : Cl P w K mg base 3 "_law_valued" (spMk (cf c [8, 9, 10, 11, 12, 13, 14, 15, 16, 17, 18, 19, 20])))
    (c_placed_by_name : Cl P w K mg base 3 "_law_placed_by_name" (spMk (cf c [0, 1, 2, 3, 4, 5, 6, 27]))) (c_valued_by_name : Cl P w K mg base 3 "_law_valued_by_name" (spMk (cf c [8, 9, 10, 11, 12, 13, 14, 15, 16, 17, 18, 19, 20, 21, 22, 23, 24, 25]))) :
    FnG P w K mg base 5 f fd ["_law_pot_here"] spKept := by
  refine Xv.Fun.okG F sc_kept_right (fun vs H Q E h => ?_) (fun cdv A outer s H vs Q hr hgd h => ?_)
  · obtain ⟨p, rfl, _⟩ := h
    rfl
  · obtain ⟨p, rfl, hP, q⟩ := h
    refine ⟨_, (pss_cons (ps_par (i := 1) (j := 2) rfl sc_kept_right.nd rfl rfl (by decide) rfl rfl (pa_cons (pe_cl c_thing hr (by decide) (by rfl) (pa_cons (pv 0) pa_nil)) (pa_cons (pe_cl c_thing hr (by decide) (by rfl) (pa_cons (pv 0) pa_nil)) pa_nil)) (by rfl))
  (pss_cons (ps_par (i := 3) (j := 4) rfl sc_kept_right.nd rfl rfl (by decide) rfl rfl (pa_cons (pe_cl c_placed hr (by decide) (by rfl) (pa_cons (pv 1) pa_nil)) (pa_cons (pe_cl c_valued hr (by decide) (by rfl) (pa_cons (pv 1) pa_nil)) pa_nil)) (by rfl))
  (pss_cons (ps_par (i := 5) (j := 6) rfl sc_kept_right.nd rfl rfl (by decide) rfl rfl (pa_cons (pe_lst (pa_cons (pe_x Z.e7 hr (by decide) (by rfl) (pv 1)) (pa_cons (pe_xK Z.e7 hr (by decide) (by rfl) (pv 2)) pa_nil))) (pa_cons (pe_cl c_every hr (by decide) (by rfl) (pa_cons (pv 2) pa_nil)) pa_nil)) (by rfl))
  (pss_cons (ps_set (i := 7) sc_kept_right.nd rfl (Or.inl rfl) (pe_lst (pa_cons (pe_x Z.e26 hr (by decide) (by rfl) (pv 1)) (pa_cons (pe_xK Z.e26 hr (by decide) (by rfl) (pv 2)) pa_nil))))
  (pss_cons (ps_set (i := 8) sc_kept_right.nd rfl (Or.inl rfl) (pe_op op_cat (pe_lc (own := [("_law_e", 9)]) (g := gName 9) (te := tXat K "position" (tVar 9)) (tt := tYes) rfl sc_kept_right.nd (pi_list (pv 3)) (blkOk_by (N := N_kept_right) (sc := defScope s_kept_right) (by decide +kernel)) (fun _ _ _ _ _ => (pg_name (i := 9) sc_kept_right.nd rfl (Or.inl rfl))) (fun _ _ _ _ _ => pts_nil) (fun _ _ _ _ _ => (pe_xat (pv 9)))) (pe_lc (own := [("_law_e", 9)]) (g := gName 9) (te := tXat K "value" (tVar 9)) (tt := tYes) rfl sc_kept_right.nd (pi_list (pv 4)) (blkOk_by (N := N_kept_right) (sc := defScope s_kept_right) (by decide +kernel)) (fun _ _ _ _ _ => (pg_name (i := 9) sc_kept_right.nd rfl (Or.inl rfl))) (fun _ _ _ _ _ => pts_nil) (fun _ _ _ _ _ => (pe_xat (pv 9))))))
  (pss_cons (ps_if (PW.pt (pw_or (pt_cmpR op_ne (pe_callB (id := "repr") (call_repr hgd hr.units) (by rfl) T.repr (by decide +kernel) (pa_cons (pv 8) pa_nil)) (pe_callB (id := "repr") (call_repr hgd hr.units) (by rfl) T.repr (by decide +kernel) (pa_cons (pe_op op_rep (pe_lst (pa_cons (pv 1) pa_nil)) (pe_callB (id := "len") (call_ln) (by rfl) T.len (by decide +kernel) (pa_cons (pv 8) pa_nil))) pa_nil)) (nomark _)) (pw_or1 (pt_cmpR op_ne (pe_callB (id := "repr") (call_repr hgd hr.units) (by rfl) T.repr (by decide +kernel) (pa_cons (pe_lc (own := [("_law_e", 9)]) (g := gName 9) (te := tXat K "line" (tVar 9)) (tt := tYes) rfl sc_kept_right.nd (pi_list (pv 5)) (blkOk_by (N := N_kept_right) (sc := defScope s_kept_right) (by decide +kernel)) (fun _ _ _ _ _ => (pg_name (i := 9) sc_kept_right.nd rfl (Or.inl rfl))) (fun _ _ _ _ _ => pts_nil) (fun _ _ _ _ _ => (pe_xat (pv 9)))) pa_nil)) (pe_callB (id := "repr") (call_repr hgd hr.units) (by rfl) T.repr (by decide +kernel) (pa_cons (pe_lst (pa_cons (pv 1) (pa_cons (pv 2) pa_nil))) pa_nil)) (nomark _))))) (pss_one (ps_ret pe_bl)) pss_nil)
  (pss_cons (ps_set (i := 8) sc_kept_right.nd rfl (Or.inl rfl) (pe_op op_cat (pe_op op_cat (pe_lc (own := [("_law_e", 9)]) (g := gName 9) (te := tXat K "position" (tVar 9)) (tt := tYes) rfl sc_kept_right.nd (pi_list (pe_slice sl_list (pe_ix ix_list (pv 6) pe_int (fun _ _ => rfl)) po_none (po_some pe_int))) (blkOk_by (N := N_kept_right) (sc := defScope s_kept_right) (by decide +kernel)) (fun _ _ _ _ _ => (pg_name (i := 9) sc_kept_right.nd rfl (Or.inl rfl))) (fun _ _ _ _ _ => pts_nil) (fun _ _ _ _ _ => (pe_xat (pv 9)))) (pe_lst (pa_cons (pe_xat (pe_ix ix_list (pe_ix ix_list (pv 6) pe_int (fun _ _ => rfl)) pe_int (fun _ _ => rfl))) pa_nil))) (pe_lc (own := [("_law_e", 9)]) (g := gName 9) (te := tXat K "value" (tVar 9)) (tt := tYes) rfl sc_kept_right.nd (pi_list (pe_op op_cat (pe_slice sl_list (pe_ix ix_list (pv 6) pe_int (fun _ _ => rfl)) (po_some pe_int) po_none) (pe_ix ix_list (pv 6) pe_int (fun _ _ => rfl)))) (blkOk_by (N := N_kept_right) (sc := defScope s_kept_right) (by decide +kernel)) (fun _ _ _ _ _ => (pg_name (i := 9) sc_kept_right.nd rfl (Or.inl rfl))) (fun _ _ _ _ _ => pts_nil) (fun _ _ _ _ _ => (pe_xat (pv 9))))))
  (pss_cons (ps_set (i := 8) sc_kept_right.nd rfl (Or.inl rfl) (pe_op op_cat (pe_op op_cat (pv 8) (pe_lc (own := [("_law_e", 9)]) (g := gName 9) (te := tXat K "value" (tVar 9)) (tt := tYes) rfl sc_kept_right.nd (pi_list (pe_slice sl_list (pe_ix ix_list (pv 6) pe_int (fun _ _ => rfl)) po_none (po_some pe_int))) (blkOk_by (N := N_kept_right) (sc := defScope s_kept_right) (by decide +kernel)) (fun _ _ _ _ _ => (pg_name (i := 9) sc_kept_right.nd rfl (Or.inl rfl))) (fun _ _ _ _ _ => pts_nil) (fun _ _ _ _ _ => (pe_xat (pv 9))))) (pe_lst (pa_cons (pe_xat (pe_ix ix_list (pe_ix ix_list (pv 6) pe_int (fun _ _ => rfl)) pe_int (fun _ _ => rfl))) (pa_cons (pe_xat (pe_ix ix_list (pe_ix ix_list (pv 6) pe_int (fun _ _ => rfl)) pe_int (fun _ _ => rfl))) pa_nil)))))
  (pss_cons (ps_if (PW.pt (pw_or (pt_cmpR op_ne (pe_callB (id := "repr") (call_repr hgd hr.units) (by rfl) T.repr (by decide +kernel) (pa_cons (pv 8) pa_nil)) (pe_callB (id := "repr") (call_repr hgd hr.units) (by rfl) T.repr (by decide +kernel) (pa_cons (pe_op op_rep (pe_lst (pa_cons (pv 2) pa_nil)) pe_int) pa_nil)) (nomark _)) (pw_or1 (pt_cmpR op_ne (pe_callB (id := "repr") (call_repr hgd hr.units) (by rfl) T.repr (by decide +kernel) (pa_cons (pe_lc (own := [("_law_e", 9)]) (g := gName 9) (te := tXat K "hand" (tVar 9)) (tt := tYes) rfl sc_kept_right.nd (pi_list (pv 7)) (blkOk_by (N := N_kept_right) (sc := defScope s_kept_right) (by decide +kernel)) (fun _ _ _ _ _ => (pg_name (i := 9) sc_kept_right.nd rfl (Or.inl rfl))) (fun _ _ _ _ _ => pts_nil) (fun _ _ _ _ _ => (pe_xat (pv 9)))) pa_nil)) (pe_callB (id := "repr") (call_repr hgd hr.units) (by rfl) T.repr (by decide +kernel) (pa_cons (pe_lst (pa_cons (pv 1) (pa_cons (pv 2) pa_nil))) pa_nil)) (nomark _))))) (pss_one (ps_ret pe_bl)) pss_nil)
  (pss_cons (ps_par (i := 10) (j := 11) rfl sc_kept_right.nd rfl rfl (by decide) rfl rfl (pa_cons (pe_new2 Z.x32 hr (by decide) (by rfl) (pa_cons (pv 1) (pa_cons (pv 2) pa_nil))) (pa_cons (pe_new2K Z.x32 hr (by decide) (by rfl) (pv 1) (pv 2)) pa_nil)) (by rfl))
  (pss_cons (ps_if (pt_cmpR op_ne (pe_callB (id := "repr") (call_repr hgd hr.units) (by rfl) T.repr (by decide +kernel) (pa_cons (pe_lst (pa_cons (pe_xat (pv 10)) (pa_cons (pe_xat (pv 10)) (pa_cons (pe_xat (pv 11)) (pa_cons (pe_xat (pv 11)) pa_nil))))) pa_nil)) (pe_callB (id := "repr") (call_repr hgd hr.units) (by rfl) T.repr (by decide +kernel) (pa_cons (pe_lst (pa_cons (pv 1) (pa_cons (pv 2) (pa_cons (pv 2) (pa_cons (pv 1) pa_nil))))) pa_nil)) (nomark _)) (pss_one (ps_ret pe_bl)) pss_nil)
  (pss_cons (ps_set (i := 12) sc_kept_right.nd rfl (Or.inl rfl) (pe_op op_cat (pe_lc (own := [("_law_e", 9)]) (g := gName 9) (te := tXat K "position" (tVar 9)) (tt := tYes) rfl sc_kept_right.nd (pi_list (pe_cl c_placed_by_name hr (by decide) (by rfl) (pa_cons (pv 1) pa_nil))) (blkOk_by (N := N_kept_right) (sc := defScope s_kept_right) (by decide +kernel)) (fun _ _ _ _ _ => (pg_name (i := 9) sc_kept_right.nd rfl (Or.inl rfl))) (fun _ _ _ _ _ => pts_nil) (fun _ _ _ _ _ => (pe_xat (pv 9)))) (pe_lc (own := [("_law_e", 9)]) (g := gName 9) (te := tXat K "value" (tVar 9)) (tt := tYes) rfl sc_kept_right.nd (pi_list (pe_cl c_valued_by_name hr (by decide) (by rfl) (pa_cons (pv 1) pa_nil))) (blkOk_by (N := N_kept_right) (sc := defScope s_kept_right) (by decide +kernel)) (fun _ _ _ _ _ => (pg_name (i := 9) sc_kept_right.nd rfl (Or.inl rfl))) (fun _ _ _ _ _ => pts_nil) (fun _ _ _ _ _ => (pe_xat (pv 9))))))
  (pss_one (ps_ret (pe_cmpR op_eq (pe_callB (id := "repr") (call_repr hgd hr.units) (by rfl) T.repr (by decide +kernel) (pa_cons (pv 12) pa_nil)) (pe_callB (id := "repr") (call_repr hgd hr.units) (by rfl) T.repr (by decide +kernel) (pa_cons (pe_op op_rep (pe_lst (pa_cons (pv 1) pa_nil)) pe_int) pa_nil)) (nomark _)))))))))))))))), ?_⟩
    have i9 : (9 : Nat) < 13 := by decide
    refine ⟨_, rfl, p, rfl, hP, fun H1 near d1 b1 P1 D1 => ⟨_, rfl, p, rfl, P1, fun H2 far d2 b2 P2 D2 => ⟨near, far, rfl, ?_⟩⟩⟩
    have E1 : Dr K H2 near d1 := (D1.but b2).dr
    have E2 : Dr K H2 far d2 := D2.dr
    have m1 : Sml d1 := D1.2
    have m2 : Sml d2 := D2.2
    refine ⟨_, rfl, near, rfl, fun H3 lp s3 xp => ⟨_, rfl, near, rfl, fun H4 lv s4 xv => ⟨_, _, rfl, ?_⟩⟩⟩
    refine ⟨near, rfl, fun H5 e1 s5 x1 => ⟨far, rfl, fun H6 e2 s6 x2 => ⟨by show 2 ≤ sizeLine; decide, fun lt nt => ⟨_, rfl, far, rfl, fun H7 ll a0 a1 a2 a3 s7 hl y0 y1 y2 y3 => ⟨_, _, rfl, ?_⟩⟩⟩⟩⟩
    have st := same_upd (o := .lst [e1, e2]) nt
    have xt : XL (upd H6 lt (.lst [e1, e2])) lt [(c 7, some [("line", near)]), (c 7, some [("line", far)])] := ⟨_, upd_same, .cons ((x1.same s6).same st) (.cons (x2.same st) .nil)⟩
    refine ⟨near, rfl, fun H8 e3 s8 x3 => ⟨far, rfl, fun H9 e4 s9 x4 => ⟨by show 2 ≤ sizeLine; decide, fun lh nh => ?_⟩⟩⟩
    have sh := same_upd (o := .lst [e3, e4]) nh
    have xh : XL (upd H9 lh (.lst [e3, e4])) lh [(c 26, some [("hand", near)]), (c 26, some [("hand", far)])] := ⟨_, upd_same, .cons ((x3.same s9).same sh) (.cons (x4.same sh) .nil)⟩
    have sG7 := (s8.trans s9).trans sh
    have sG4 := (s5.trans s6).trans (st.trans (s7.trans sG7))
    have sG2 := (s3.trans s4).trans sG4
    replace xp := xp.same (s4.trans sG4)
    replace xv := xv.same sG4
    replace xt := xt.same (s7.trans sG7)
    replace hl := sG7 _ _ hl
    replace y0 := y0.same sG7
    replace y1 := y1.same sG7
    replace y2 := y2.same sG7
    replace E1 := E1.same sG2
    replace E2 := E2.same sG2
    replace P2 := Pot.same P2 sG2
    replace b2 := (b1.trans b2).trans (Same.but (p := p) sG2)
    clear sG2 sG4 sG7 st sh s3 s4 s5 s6 s7 s8 s9 x1 x2 x3 x4 y3 P1 D1 D2 b1
    generalize upd H9 lh (.lst [e3, e4]) = G at *
    -- kept = [e.position for e in placed_here] + [e.value for e in valued_here]
    refine ⟨_, rfl, at_end (vs := List.replicate 7 near) xp (at_cf Z "position" near _ (by decide)) (by show 7 ≤ 100; decide) i9 fun Ha D1 sa na h1 => ?_⟩
    refine ⟨_, rfl, at_end (vs := List.replicate 13 near) (xv.same sa) (at_cf Z "value" near _ (by decide)) (by show 13 ≤ 100; decide) i9 fun Hb D2 sb nb h2 => ?_⟩
    refine ⟨D1, D2, _, _, rfl, rfl, sb _ _ h1, h2, by show 7 + 13 ≤ sizeLine; decide, fun lk nk => ?_⟩
    have hk : upd Hb lk (.lst (List.replicate 20 near)) lk = some (.lst (List.replicate 20 near)) := upd_same
    have sc := (sa.trans sb).trans (same_upd (o := .lst (List.replicate 20 near)) nk)
    -- repr(kept) != repr([near] * len(kept))
    rw [show List.replicate 7 near ++ List.replicate 13 near = List.replicate 20 near from rfl]
    refine ⟨_, rfl, ?_⟩
    refine rep_at hk (DrAll.rep (E1.same sc) 20) (sml_rep m1 20) (by rw [List.length_replicate]; decide) ?_
    refine ⟨_, rfl, by show 1 ≤ sizeLine; decide, fun q1 n1 => ⟨_, rfl, lk, _, rfl, .inl (SqL.of (same_upd n1 _ _ hk)), q1, _, _, rfl, rfl, upd_same, by rw [List.length_replicate]; decide, by rw [List.length_replicate]; decide, by rw [List.length_replicate]; show 1 * 20 ≤ sizeLine; decide, fun q2 n2 => ?_⟩⟩
    have sd := (sc.trans (same_upd (o := .lst [near]) n1)).trans (same_upd (o := .lst (List.replicate (((List.replicate 20 near).length : Nat) : Int).toNat [near]).flatten) n2)
    refine rep_at (vs := List.replicate 20 near) (upd_same.trans (congrArg (fun z => some (HO.lst z)) (rep_flat near 20))) (DrAll.rep (E1.same sd) 20) (sml_rep m1 20) (by rw [List.length_replicate]; decide) (ne_same ⟨_, rfl, ite2 (fun z => nomatch z) fun _ => ?_⟩)
    -- repr([e.line for e in texts]) != repr([near, far])
    have sm12 : ∀ d ∈ [d1, d2], Sml d := fun d hd => by
      rcases List.mem_cons.mp hd with rfl | hd
      · exact m1
      · rcases List.mem_cons.mp hd with rfl | hd
        · exact m2
        · cases hd
    refine ⟨_, rfl, at_end (vs := [near, far]) (xt.same sd) (.cons ⟨_, rfl, Z.T 7 (by decide), Z.no 7 (by decide), rfl⟩ (.cons ⟨_, rfl, Z.T 7 (by decide), Z.no 7 (by decide), rfl⟩ .nil)) (by show 2 ≤ 100; decide) i9 fun Hd D3 se nd h3 => ?_⟩
    replace se := sd.trans se
    refine rep_at h3 (.cons (E1.same se) (.cons (E2.same se) .nil)) sm12 (by show 2 ≤ 1000; decide) ?_
    refine ⟨_, rfl, _, rfl, by show 2 ≤ sizeLine; decide, fun q3 n3 => ?_⟩
    replace se := se.trans (same_upd (o := .lst [near, far]) n3)
    refine rep_at upd_same (.cons (E1.same se) (.cons (E2.same se) .nil)) sm12 (by show 2 ≤ 1000; decide) (ne_same ⟨_, rfl, ite2 (fun z => nomatch z) fun _ => ?_⟩)
    replace hl := se _ _ hl
    replace y0 := y0.same se
    replace y1 := y1.same se
    replace y2 := y2.same se
    replace xh := xh.same se
    replace E1 := E1.same se
    replace E2 := E2.same se
    replace P2 := Pot.same P2 se
    replace b2 := b2.trans (Same.but (p := p) se)
    clear xp xv xt sa sb sc sd h1 h2 h3 se hk
    generalize upd Hd q3 (.lst [near, far]) = G2 at *
    -- kept = [e.position for e in late[0][:7]] + [late[0][7].line] + [e.value for e in late[0][8:] + late[1]]
    refine ⟨_, rfl, _, _, _, _, rfl, rfl, SqL.of hl, rfl, 7, rfl, sl_to 7 y0 (by show 7 ≤ 21; decide) fun H3 q4 s3 x4 => ?_⟩
    refine at_end (vs := List.replicate 7 far) (show XL H3 q4 (cf c [0, 1, 2, 3, 4, 5, 6] far) from x4) (at_cf Z "position" far _ (by decide)) (by show 7 ≤ 100; decide) i9 fun H4 D4 s4 nd4 h4 => ?_
    replace s4 := s3.trans s4
    obtain ⟨es7, y7, z1, z2, v7⟩ := get_x 7 (y0.same s4) rfl
    refine ⟨_, rfl, _, _, _, _, rfl, rfl, SqL.of (s4 _ _ hl), rfl, _, _, _, _, rfl, rfl, SqL.of z1, z2, c 7, _, far, v7, Z.T 7 (by decide), Z.no 7 (by decide), rfl, by show 1 ≤ sizeLine; decide, fun q5 n5 => ?_⟩
    have h4b := same_upd (o := .lst [far]) n5 _ _ h4
    replace s4 := s4.trans (same_upd (o := .lst [far]) n5)
    refine ⟨D4, q5, _, _, rfl, rfl, h4b, upd_same, by show 7 + 1 ≤ sizeLine; decide, fun q6 n6 => ?_⟩
    rw [show List.replicate 7 far ++ [far] = List.replicate 8 far from rfl]
    replace s4 := s4.trans (same_upd (o := .lst (List.replicate 8 far)) n6)
    obtain ⟨es0, g1, g2⟩ := y0.same s4
    refine ⟨_, rfl, _, _, _, _, rfl, rfl, SqL.of (s4 _ _ hl), rfl, 8, rfl, a0, es0, rfl, SqL.of g1, fun q7 n7 => ?_⟩
    have x5 := sl_from 8 g2 (by show 8 ≤ 21; decide) n7
    have s5 := same_upd (o := .lst (cutV es0 (some 8) none)) n7
    refine ⟨_, rfl, _, _, _, _, rfl, rfl, SqL.of ((s4.trans s5) _ _ hl), rfl, xcat x5 (y1.same (s4.trans s5)) (by show 13 + 1 ≤ 100; decide) fun H6 q8 s6 _ x6 => ?_⟩
    refine at_end (vs := List.replicate 14 far) (show XL H6 q8 (cf c [8, 9, 10, 11, 12, 13, 14, 15, 16, 17, 18, 19, 20, 21] far) from x6) (at_cf Z "value" far _ (by decide)) (by show 14 ≤ 100; decide) i9 fun H7 D5 s7 nd5 h5 => ?_
    replace s7 := (s5.trans s6).trans s7
    refine ⟨q6, D5, _, _, rfl, rfl, s7 _ _ upd_same, h5, by show 8 + 14 ≤ sizeLine; decide, fun q9 n9 => ?_⟩
    rw [show List.replicate 8 far ++ List.replicate 14 far = List.replicate 22 far from rfl]
    have s9 := (s4.trans s7).trans (same_upd (o := .lst (List.replicate 22 far)) n9)
    have h9 : upd H7 q9 (.lst (List.replicate 22 far)) q9 = some (.lst (List.replicate 22 far)) := upd_same
    generalize upd H7 q9 (.lst (List.replicate 22 far)) = H8 at *
    -- kept = kept + [e.value for e in late[2][:4]] + [late[2][4].hand, late[2][5].position]
    refine ⟨_, rfl, _, rfl, _, _, _, _, rfl, rfl, SqL.of (s9 _ _ hl), rfl, 4, rfl, sl_to 4 (y2.same s9) (by show 4 ≤ 10; decide) fun Ha qa sa xa => ?_⟩
    refine at_end (vs := List.replicate 4 far) (show XL Ha qa (cf c [22, 23, 24, 25] far) from xa) (at_cf Z "value" far _ (by decide)) (by show 4 ≤ 100; decide) i9 fun Hb D6 sb nd6 h6 => ?_
    replace sb := sa.trans sb
    refine ⟨q9, D6, _, _, rfl, rfl, sb _ _ h9, h6, by show 22 + 4 ≤ sizeLine; decide, fun qb nb => ?_⟩
    rw [show List.replicate 22 far ++ List.replicate 4 far = List.replicate 26 far from rfl]
    have hb : upd Hb qb (.lst (List.replicate 26 far)) qb = some (.lst (List.replicate 26 far)) := upd_same
    have sc := (s9.trans sb).trans (same_upd (o := .lst (List.replicate 26 far)) nb)
    obtain ⟨es4, y4, z3, z4, v4⟩ := get_x 4 (y2.same sc) rfl
    obtain ⟨es5, y5, z5, z6, v5⟩ := get_x 5 (y2.same sc) rfl
    refine ⟨_, rfl, _, _, _, _, rfl, rfl, SqL.of (sc _ _ hl), rfl, _, _, _, _, rfl, rfl, SqL.of z3, z4, c 26, _, far, v4, Z.T 26 (by decide), Z.no 26 (by decide), rfl, ?_⟩
    refine ⟨_, rfl, _, _, _, _, rfl, rfl, SqL.of (sc _ _ hl), rfl, _, _, _, _, rfl, rfl, SqL.of z5, z6, c 27, _, far, v5, Z.T 27 (by decide), Z.no 27 (by decide), rfl, by show 2 ≤ sizeLine; decide, fun qc nc => ?_⟩
    replace hb := same_upd (o := .lst [far, far]) nc _ _ hb
    replace sc := sc.trans (same_upd (o := .lst [far, far]) nc)
    refine ⟨qb, qc, _, _, rfl, rfl, hb, upd_same, by show 26 + 2 ≤ sizeLine; decide, fun qd nd => ?_⟩
    rw [show List.replicate 26 far ++ [far, far] = List.replicate 28 far from rfl]
    replace sc := sc.trans (same_upd (o := .lst (List.replicate 28 far)) nd)
    -- repr(kept) != repr([far] * 28)
    refine ⟨_, rfl, ?_⟩
    refine rep_at upd_same (DrAll.rep (E2.same sc) 28) (sml_rep m2 28) (by rw [List.length_replicate]; decide) ?_
    refine ⟨_, rfl, by show 1 ≤ sizeLine; decide, fun q1 n1 => ⟨q1, _, _, rfl, rfl, upd_same, by decide, by decide, by show 1 * 28 ≤ sizeLine; decide, fun q2 n2 => ?_⟩⟩
    have sd := (sc.trans (same_upd (o := .lst [far]) n1)).trans (same_upd (o := .lst (List.replicate (28 : Int).toNat [far]).flatten) n2)
    refine rep_at (vs := List.replicate 28 far) (upd_same.trans (congrArg (fun z => some (HO.lst z)) (rep_flat far 28))) (DrAll.rep (E2.same sd) 28) (sml_rep m2 28) (by rw [List.length_replicate]; decide) (ne_same ⟨_, rfl, ite2 (fun z => nomatch z) fun _ => ?_⟩)
    -- repr([e.hand for e in hands_now]) != repr([near, far])
    refine ⟨_, rfl, at_end (vs := [near, far]) (xh.same sd) (.cons ⟨_, rfl, Z.T 26 (by decide), Z.no 26 (by decide), rfl⟩ (.cons ⟨_, rfl, Z.T 26 (by decide), Z.no 26 (by decide), rfl⟩ .nil)) (by show 2 ≤ 100; decide) i9 fun Hd D3 se nd h3 => ?_⟩
    replace se := sd.trans se
    refine rep_at h3 (.cons (E1.same se) (.cons (E2.same se) .nil)) sm12 (by show 2 ≤ 1000; decide) ?_
    refine ⟨_, rfl, _, rfl, by show 2 ≤ sizeLine; decide, fun q3 n3 => ?_⟩
    replace se := se.trans (same_upd (o := .lst [near, far]) n3)
    refine rep_at upd_same (.cons (E1.same se) (.cons (E2.same se) .nil)) sm12 (by show 2 ≤ 1000; decide) (ne_same ⟨_, rfl, ite2 (fun z => nomatch z) fun _ => ?_⟩)
    replace E1 := E1.same se
    replace E2 := E2.same se
    replace P2 := Pot.same P2 se
    replace b2 := b2.trans (Same.but (p := p) se)
    clear s3 s4 s5 s6 s7 s9 sa sb sc sd se h3 h4 h4b h5 h6 h9 hb hl y0 y1 y2 xh x4 x5 x6 xa g1 g2 z1 z2 z3 z4 z5 z6 v4 v5 v7
    generalize upd Hd q3 (.lst [near, far]) = G3 at *
    -- great, named_now = TooMany(near, far), TooMany(limit=near, what=far)
    refine ⟨_, rfl, _, rfl, rfl, fun H3 g1 s3 xg1 => ⟨_, rfl, _, rfl, rfl, fun H4 g2 s4 xg2 => ⟨_, _, rfl, ?_⟩⟩⟩
    replace xg1 := xg1.same s4
    -- repr([great.what, great.limit, named_now.what, named_now.limit]) != repr([near, far, far, near])
    have TC : ExcC K (c 32) := Z.T 32 (by decide)
    have sm4 : ∀ d ∈ [d1, d2, d2, d1], Sml d := fun d hd => by
      simp only [List.mem_cons, List.not_mem_nil, or_false] at hd
      rcases hd with rfl | rfl | rfl | rfl <;> assumption
    refine ⟨_, rfl, c 32, _, near, xg1, TC, Z.noW, rfl, _, rfl, c 32, _, far, xg1, TC, Z.noL, rfl, _, rfl, c 32, _, far, xg2, TC, Z.noW, rfl, _, rfl, c 32, _, near, xg2, TC, Z.noL, rfl, by show 4 ≤ sizeLine; decide, fun q1 n1 => ?_⟩
    have s5 := (s3.trans s4).trans (same_upd (o := .lst [near, far, far, near]) n1)
    refine rep_at upd_same (.cons (E1.same s5) (.cons (E2.same s5) (.cons (E2.same s5) (.cons (E1.same s5) .nil)))) sm4 (by show 4 ≤ 1000; decide) ?_
    refine ⟨_, rfl, _, rfl, _, rfl, _, rfl, by show 4 ≤ sizeLine; decide, fun q2 n2 => ?_⟩
    have s6 := s5.trans (same_upd (o := .lst [near, far, far, near]) n2)
    refine rep_at upd_same (.cons (E1.same s6) (.cons (E2.same s6) (.cons (E2.same s6) (.cons (E1.same s6) .nil)))) sm4 (by show 4 ≤ 1000; decide) (ne_same ⟨_, rfl, ite2 (fun z => nomatch z) fun _ => ?_⟩)
    -- by_name
    refine ⟨_, rfl, near, rfl, fun H5 l5 s7 x5 => ?_⟩
    refine at_end (vs := List.replicate 8 near) x5 (at_cf Z "position" near _ (by decide)) (by show 8 ≤ 100; decide) i9 fun H6 D7 s8 nd7 h7 => ?_
    refine ⟨_, rfl, near, rfl, fun H7 l6 s9 x6 => ?_⟩
    refine at_end (vs := List.replicate 18 near) x6 (at_cf Z "value" near _ (by decide)) (by show 18 ≤ 100; decide) i9 fun H8 D8 sa nd8 h8 => ?_
    refine ⟨D7, D8, _, _, rfl, rfl, (s9.trans sa) _ _ h7, h8, by show 8 + 18 ≤ sizeLine; decide, fun q3 n3 => ?_⟩
    rw [show List.replicate 8 near ++ List.replicate 18 near = List.replicate 26 near from rfl]
    have sb := (s6.trans ((s7.trans s8).trans (s9.trans sa))).trans (same_upd (o := .lst (List.replicate 26 near)) n3)
    refine ⟨_, rfl, ?_⟩
    refine rep_at upd_same (DrAll.rep (E1.same sb) 26) (sml_rep m1 26) (by rw [List.length_replicate]; decide) ?_
    refine ⟨_, rfl, by show 1 ≤ sizeLine; decide, fun q4 n4 => ⟨q4, _, _, rfl, rfl, upd_same, by decide, by decide, by show 1 * 26 ≤ sizeLine; decide, fun q5 n5 => ?_⟩⟩
    have sd := (sb.trans (same_upd (o := .lst [near]) n4)).trans (same_upd (o := .lst (List.replicate (26 : Int).toNat [near]).flatten) n5)
    refine rep_at (vs := List.replicate 26 near) (upd_same.trans (congrArg (fun z => some (HO.lst z)) (rep_flat near 26))) (DrAll.rep (E1.same sd) 26) (sml_rep m1 26) (by rw [List.length_replicate]; decide) (eq_same ?_)
    exact q _ (b2.trans (Same.but sd)) (Pot.same P2 sd)
end
end K10


namespace K10
open PySem PySem.Spec PyProof.Rows L2 Xv
def spLaw (K : PySem.W.Frag) : Sp := fun vs H Q _ => ∃ (a : Addr) (ns : List Int), vs = [.ref a] ∧ SqL K H a (ns.map V.int) ∧ ns.length ≤ 63 ∧ ∀ H', Q (.bl true) H'
theorem wipe_back {σ : St} {i : Nat} {v : Option V} : wipe ((wipe σ [i]).set i v) [i] = wipe σ [i] := by
  simp only [wipe]
  exact List.ext_getElem? fun m => by
    by_cases hm : m = i
    · subst hm
      simp [List.getElem?_set, wipe]
    · simp [List.getElem?_set, wipe, Ne.symm hm]
abbrev s_law : Stmt := top 54
abbrev N_law : List Str := ["_law_script", "_law_pots", "_law_k", "_law_pot_here"]
theorem sc_law : FnScope N_law ["_law_script"] (defScope s_law) := ⟨rfl, rfl, rfl, by decide +kernel, rfl, by decide +kernel, by decide +kernel⟩
section
variable {P : Program} {w : World} {K : PySem.W.Frag} {mg : Str → Option Value} {base : Heap}
theorem ok_law {f : Addr} {fd : FuncData} (F : Fun K "law" "law" s_law f fd) (T : Bl mg) (c_pot : Cl P w K mg base 1 "_law_pot" (spPot K)) (c_kept : ClG P w K mg base 5 "_law_kept_right" spKept) (c_kinds : Cl P w K mg base 5 "_law_kinds_right" spKinds) :
    FnG P w K mg base 6 f fd ["_law_script"] (spLaw K) := by
  refine Xv.Fun.okG F sc_law (fun vs H Q E h => ?_) (fun cdv A outer s H vs Q hr hgd h => ?_)
  · obtain ⟨a, ns, rfl, _⟩ := h
    rfl
  · obtain ⟨a, ns, rfl, hS, hlen, q⟩ := h
    refine ⟨_, (pss_cons (ps_setLc (i := 1) (own := [("_law_k", 2)]) (g := gName 2) (tt := tYes) rfl sc_law.nd rfl rfl (sw_true rfl rfl rfl (by decide +kernel)) (pi_range1 rfl T.range (pa_cons (pe_callB (id := "max") (call_max2 rfl) (by rfl) T.max (by decide +kernel) (pa_cons pe_int (pa_cons (pe_callB (id := "min") (call_min2 rfl) (by rfl) T.min (by decide +kernel) (pa_cons (pe_callB (id := "len") (call_ln) (by rfl) T.len (by decide +kernel) (pa_cons (pv 0) pa_nil)) (pa_cons pe_int pa_nil))) pa_nil))) pa_nil)) (blkOk_by (N := N_law) (sc := defScope s_law) (by decide +kernel)) (fun _ _ _ _ _ => (pg_name (i := 2) sc_law.nd rfl (Or.inl rfl))) (fun _ _ _ _ _ => pts_nil) (fun _ _ _ _ _ => (pe_cl c_pot hr (by decide) (by rfl) (pa_cons (pv 0) (pa_cons (pv 2) pa_nil)))))
  (pss_one (ps_ret (pe_callB (id := "all") (cr_all rfl) (by rfl) T.all (by decide +kernel) (pa_cons (pe_lc (own := [("_law_pot_here", 3)]) (g := gName 3) (tt := tYes) rfl sc_law.nd (pi_list (pv 1)) (blkOk_by (N := N_law) (sc := defScope s_law) (by decide +kernel)) (fun _ _ _ _ _ => (pg_name (i := 3) sc_law.nd rfl (Or.inl rfl))) (fun _ _ _ _ _ => pts_nil) (fun _ _ _ _ _ => (pe_and (pe_clG c_kept hr (by decide) hgd (by rfl) (pa_cons (pv 3) pa_nil)) (pe_and (pe_clG c_kept hr (by decide) hgd (by rfl) (pa_cons (pv 3) pa_nil)) (pe_one (pe_cl c_kinds hr (by decide) (by rfl) (pa_cons (pv 3) pa_nil))))))) pa_nil))))), ?_⟩
    have hm : ∀ z : Int, z = (if (if (4 : Int) < ((ns.map V.int).length : Nat) then (4 : Int) else ((ns.map V.int).length : Nat)) > 1 then (if (4 : Int) < ((ns.map V.int).length : Nat) then (4 : Int) else ((ns.map V.int).length : Nat)) else 1) → 1 ≤ z ∧ z ≤ 4 := fun z e => by
      subst e
      split <;> split at * <;> omega
    refine ⟨_, rfl, a, _, rfl, .inl hS, _, _, rfl, _, _, rfl, _, rfl, ?_⟩
    obtain ⟨m1, m4⟩ := hm _ rfl
    generalize (if (if (4 : Int) < ((ns.map V.int).length : Nat) then (4 : Int) else ((ns.map V.int).length : Nat)) > 1 then (if (4 : Int) < ((ns.map V.int).length : Nat) then (4 : Int) else ((ns.map V.int).length : Nat)) else 1) = m at *
    refine ⟨by omega, by omega, fun D hD => ?_⟩
    refine lc_range (lo := 0) (n := m.toNat) (fun k H' => ∃ ps : List Addr, ps.length = k ∧ D ∉ ps ∧ ps.Nodup ∧ H' D = some (.lst (ps.map V.ref)) ∧ Same H H' ∧ ∀ p ∈ ps, Pot H' p) ⟨[], rfl, by simp, .nil, upd_same, same_upd hD, by simp⟩ (fun k H1 hk p => ?_) (fun H1 p => ?_)
    · obtain ⟨ps, h1, h2, h3, h4, h5, h6⟩ := p
      refine ⟨wipe_back, ?_⟩
      unfold tYes
      dsimp only
      rw [if_pos rfl]
      refine ⟨_, rfl, _, rfl, a, ns, k, ?_, h5.seq hS, by omega, fun H2 p s n hp => ?_⟩
      · show [V.ref a, V.int (0 + (k : Int))] ++ [] = _
        rw [Int.zero_add, List.append_nil]
      have npD : p ≠ D := (ne_of_none h4 n).symm
      have hpn : p ∉ ps := fun hin => by
        obtain ⟨x, y, e, _⟩ := h6 p hin
        rw [n] at e
        cases e
      refine ⟨_, s _ _ h4, by rw [List.length_map, sizeLine_eq]; omega, ps ++ [p], by rw [List.length_append, h1]; rfl, ?_, ?_, by rw [upd_same, List.map_append]; rfl, fun b o e => ?_, fun r hr' => ?_⟩
      · rw [List.mem_append, List.mem_singleton]
        rintro (z | z)
        · exact h2 z
        · exact npD z.symm
      · rw [List.nodup_append]
        refine ⟨h3, by simp, fun x hx y hy => ?_⟩
        rw [List.mem_singleton.mp hy]
        exact fun z => hpn (z ▸ hx)
      · rw [upd_ne (fun z => by rw [z, hD] at e; cases e)]
        exact s _ _ (h5 _ _ e)
      · have nrD : r ≠ D := fun z => by
          rw [z, List.mem_append, List.mem_singleton] at hr'
          rcases hr' with z | z
          · exact h2 z
          · exact npD z.symm
        have hP : Pot H2 r := by
          rw [List.mem_append, List.mem_singleton] at hr'
          rcases hr' with z | z
          · exact Pot.same (h6 r z) s
          · rw [z]
            exact hp
        exact Pot.but hP nrD (But.upd (But.refl _ _))
    · obtain ⟨ps, h1, h2, h3, h4, h5, h6⟩ := p
      refine ⟨_, rfl, D, rfl, ⟨_, SqL.of h4⟩, fun D2 hD2 => ?_⟩
      have n2 : D ≠ D2 := ne_of_none h4 hD2
      have n3 : D2 ∉ ps := fun hin => by
        obtain ⟨x, y, e, _⟩ := h6 _ hin
        rw [hD2] at e
        cases e
      refine lc_list (K := K) (a := D) (xs := ps.map V.ref) (fun k H' => H' D = some (.lst (ps.map V.ref)) ∧ H' D2 = some (.lst (List.replicate k (V.bl true))) ∧ ∀ p ∈ ps, Pot H' p) ⟨by rw [upd_ne n2]; exact h4, upd_same, fun p hp => Pot.same (h6 p hp) (same_upd hD2)⟩ (fun k H' _ z => SqL.of z.1) (fun k x H' hx z => ?_) (fun H' z => ?_)
      · obtain ⟨z1, z2, z3⟩ := z
        obtain ⟨p, hp, rfl⟩ : ∃ p, p ∈ ps ∧ x = V.ref p := by
          rw [List.getElem?_map] at hx
          cases e : ps[k]? with
          | none =>
            rw [e] at hx
            cases hx
          | some p =>
            rw [e] at hx
            exact ⟨p, List.mem_of_getElem? e, (Option.some.inj hx).symm⟩
        have hk : k < 4 := by
          have := (List.getElem?_eq_some_iff.mp hx).1
          rw [List.length_map] at this
          omega
        have npD : D ≠ p := fun z => h2 (z ▸ hp)
        have npD2 : D2 ≠ p := fun z => n3 (z ▸ hp)
        refine ⟨wipe_back, ?_⟩
        unfold tYes
        dsimp only
        rw [if_pos rfl]
        refine ⟨_, rfl, p, rfl, z3 p hp, fun Ha ba Pa => ⟨true, rfl, ite2 (fun _ => ?_) (fun z => absurd rfl z)⟩⟩
        refine ⟨_, rfl, p, rfl, Pa, fun Hb bb Pb => ⟨true, rfl, ite2 (fun _ => ?_) (fun z => absurd rfl z)⟩⟩
        refine ⟨_, rfl, p, rfl, Pb, fun Hc bc Pc => ?_⟩
        have bt := (ba.trans bb).trans bc
        refine ⟨_, bt _ _ npD2 z2, by rw [List.length_replicate, sizeLine_eq]; omega, by rw [upd_ne n2]; exact bt _ _ npD z1, by rw [upd_same, ← List.replicate_succ'], fun r hr' => ?_⟩
        have nr : r ≠ D2 := fun z => n3 (z ▸ hr')
        refine Pot.but ?_ nr (But.upd (But.refl _ _))
        by_cases e : r = p
        · rw [e]
          exact Pc
        · exact Pot.but (z3 r hr') e bt
      · obtain ⟨z1, z2, z3⟩ := z
        refine ⟨D2, List.replicate (ps.map V.ref).length true, rfl, SqL.of (by rw [z2, List.map_replicate]), ?_⟩
        have e : (List.replicate (ps.map V.ref).length true).all id = true := by
          rw [List.all_eq_true]
          intro x hx
          rw [List.eq_of_mem_replicate hx]
          rfl
        rw [e]
        exact q _
end
end K10


namespace K10
open PySem PySem.Spec PyProof.Rows L2 Xv
def bmb (b : String) : List Value := [.type b, .type "Exception", .type "BaseException", .type "object"]
theorem bas0 : Bas "ValueError" "ValueError.__new__" "ValueError.__init__" (bmb "ValueError") := ⟨F.excBase_ValueError, F.store_ValueError⟩
theorem bas1 : Bas "LookupError" "LookupError.__new__" "LookupError.__init__" (bmb "LookupError") := ⟨F.excBase_LookupError, F.store_LookupError⟩
theorem bas2 : Bas "RuntimeError" "RuntimeError.__new__" "RuntimeError.__init__" (bmb "RuntimeError") := ⟨F.excBase_RuntimeError, F.store_RuntimeError⟩
theorem bas3 : Bas "ArithmeticError" "ArithmeticError.__new__" "ArithmeticError.__init__" (bmb "ArithmeticError") := ⟨F.excBase_ArithmeticError, F.store_ArithmeticError⟩
section
variable {P : Program} {w : World} {K : PySem.W.Frag} {mg : Str → Option Value} {base : Heap} {x f g qual : Str} {C fI : Addr} {fd : FuncData} {st : Stmt} {B newId initId : String} {bmB : List Value}
theorem ex1_mk (b : Bas B newId initId bmB) (T : ExT K C fI newId bmB) (hno : PySem.W.takerIn K C f = some none) (F : Fun K "__init__" qual st fI fd) (gm : mg x = some (.ref C)) (sc : FnScope ["self", f] ["self", f] (defScope st)) {p1 p2 p3 p4 : Pos}
    (hb : defBody st = [.Assign [.Attribute (.Name "self" p1) f p2] (.Name f p3) p4]) (vS : (defScope st).names.lookup ("self" : Str) = some .local) (vF : (defScope st).names.lookup f = some .local) (hd : (f == ("__debug__" : Str)) = false) (hcd : (f == ("__classdict__" : Str)) = false)
    (bB : ∀ (kV doc pm : Value) (an : Option Addr) (cdv ct u v : Value), bindArgs (PySem.W.fnOf "__init__" qual (defArgs st) (defBody st) (defScope st) .none kV doc pm an cdv ct) ⟨[u, v], []⟩ = pure ((["self", f] : List Str).zip [u, v]))
    (bK : ∀ (kV doc pm : Value) (an : Option Addr) (cdv ct u v : Value), bindArgs (PySem.W.fnOf "__init__" qual (defArgs st) (defBody st) (defScope st) .none kV doc pm an cdv ct) ⟨[u], [(f, v)]⟩ = pure ((["self", f] : List Str).zip [u, v])) : Ex1 P w K mg base x C f := by
  refine ⟨⟨fI, fd, B, newId, initId, bmB, b, T, ok_one b T hno F sc hb vS vF hd hcd, F.binds fun kV doc pm an cdv ct us hl => match us, hl with | [u, v], _ => bB kV doc pm an cdv ct u v, ?_⟩, gm⟩
  obtain ⟨oc, od, kV, doc, pm, an, cdv, ct, osl, rfl, lk, hc⟩ := F.ex
  exact ⟨fun s us ws X l1 l2 => match us, l1, ws, l2 with | [u], _, [v], _ => .of_eq (bK kV doc pm an cdv ct u v), fun r1 r2 => Vals.append r1 r2⟩
theorem ex2_mk (b : Bas B newId initId bmB) (T : ExT K C fI newId bmB) (hno : PySem.W.takerIn K C f = some none) (hno2 : PySem.W.takerIn K C g = some none) (F : Fun K "__init__" qual st fI fd) (gm : mg x = some (.ref C)) (sc : FnScope ["self", f, g] ["self", f, g] (defScope st)) {p1 p2 p3 p4 q1 q2 q3 q4 : Pos}
    (hb : defBody st = [.Assign [.Attribute (.Name "self" p1) f p2] (.Name f p3) p4, .Assign [.Attribute (.Name "self" q1) g q2] (.Name g q3) q4]) (vS : (defScope st).names.lookup ("self" : Str) = some .local) (vF : (defScope st).names.lookup f = some .local) (vG : (defScope st).names.lookup g = some .local)
    (hd : (f == ("__debug__" : Str)) = false) (hcd : (f == ("__classdict__" : Str)) = false) (gd : (g == ("__debug__" : Str)) = false) (gcd : (g == ("__classdict__" : Str)) = false)
    (bB : ∀ (kV doc pm : Value) (an : Option Addr) (cdv ct u v w : Value), bindArgs (PySem.W.fnOf "__init__" qual (defArgs st) (defBody st) (defScope st) .none kV doc pm an cdv ct) ⟨[u, v, w], []⟩ = pure ((["self", f, g] : List Str).zip [u, v, w]))
    (bK : ∀ (kV doc pm : Value) (an : Option Addr) (cdv ct u v w : Value), bindArgs (PySem.W.fnOf "__init__" qual (defArgs st) (defBody st) (defScope st) .none kV doc pm an cdv ct) ⟨[u], [(g, v), (f, w)]⟩ = pure ((["self", f, g] : List Str).zip [u, w, v])) : Ex2 P w K mg base x C f g := by
  refine ⟨⟨fI, fd, B, newId, initId, bmB, b, T, ok_two b T hno hno2 F sc hb vS vF vG hd hcd gd gcd, F.binds fun kV doc pm an cdv ct us hl => match us, hl with | [u, v, w], _ => bB kV doc pm an cdv ct u v w, ?_⟩, gm⟩
  obtain ⟨oc, od, kV, doc, pm, an, cdv, ct, osl, rfl, lk, hc⟩ := F.ex
  exact ⟨fun s us ws X l1 l2 => match us, l1, ws, l2 with | [u], _, [v, w], _ => .of_eq (bK kV doc pm an cdv ct u v w), fun r1 r2 => Vals.append r1 (Vals.reverse r2)⟩
/-- an __init__ that closes over its class -/
structure SupF (K : PySem.W.Frag) (qual : Str) (st : Stmt) (file : Str) (C fI : Addr) : Prop where
  ex : ∃ (kV doc pm : Value) (an : Option Addr) (cda cc : Addr) (ct oc : Value) (od : Option Addr) (osl : Array (Option Value)) (vs : Array Value) (tf : Tok) (ccl cl : Value) (cdd cld : Option Addr) (ccs csl : Array (Option Value)),
    K.lookup fI = some ⟨oc, od, .func (PySem.W.ksFn "__init__" qual (defArgs st) (defBody st) (defScope st) .none kV doc pm an (.ref cda) ct cc), osl⟩ ∧ PySem.W.codeIn K (.ref cda) qual = true ∧
    K.lookup cda = some ⟨ccl, cdd, .fields vs, ccs⟩ ∧ vs[2]? = some (.str file tf) ∧ K.lookup cc = some ⟨cl, cld, .cell (some (.ref C)), csl⟩
theorem ex0_mk (T : ExT K C fI "RuntimeError.__new__" (bmb "RuntimeError")) (gm : mg x = some (.ref C)) {file : Str} (S : SupF K qual st file C fI) (hf : ((P.main.file : Str) == file) = true) {ar : Arg} {p0 p1 p2 p3 p4 p5 : Pos} {txt : Str} {kd : Nat}
    (ha : ((defArgs st).posonlyargs ++ (defArgs st).args).head? = some ar) (ha2 : ar.arg = ("self" : Str)) (hs : defScope st = PySem.Xv.supS)
    (hb : defBody st = [.Expr (.Call (.Attribute (.Call (.Name "super" p0) [] [] p1) "__init__" p2) [.Constant (.str txt) kd p3] [] p4) p5])
    (hev : ∀ (L cda cc : Addr), ∃ pl, eval (.Call (.Attribute (.Call (.Name "super" p0) [] [] p1) "__init__" p2) [.Constant (.str txt) kd p3] [] p4) (PySem.W.ksEnv qual PySem.Xv.supS L fI (.ref cda) cc) = (do
      let ov ← attributeBase (.Call (.Name "super" p0) [] [] p1) "__init__" (PySem.W.ksEnv qual PySem.Xv.supS L fI (.ref cda) cc) (eval (.Call (.Name "super" p0) [] [] p1) (PySem.W.ksEnv qual PySem.Xv.supS L fI (.ref cda) cc))
      standAt p2.atName
      let (f, first) ← holding [ov] (getMethod ov "__init__" pl)
      callWith p4 f first (backTo p4 (starEach [.Constant (.str txt) kd p3] (PySem.W.ksEnv qual PySem.Xv.supS L fI (.ref cda) cc))) []))
    (bB : ∀ (kV doc pm : Value) (an : Option Addr) (cdv ct u : Value) (cc : Addr), bindArgs (PySem.W.ksFn "__init__" qual (defArgs st) (defBody st) (defScope st) .none kV doc pm an cdv ct cc) ⟨[u], []⟩ = pure ((["self"] : List Str).zip [u]))
    (hD : (PySem.W.clsIn K C).isSome = true) (sup : PySem.W.ks_superIn K C C "__init__" = some (some (.builtin "RuntimeError.__init__"))) (self : PySem.W.mroIn K C (.ref C) = some true) (bs : PySem.W.subIn K (.ref C) (.type "RuntimeError") = some true)
    (opq : PySem.W.nsIn K cStatics "thirdparty.any" = some none) (sup0 : PySem.W.nsIn K mainGlobals "super" = some none) (tp : (P.main.scope.names.lookup ("super" : Str)).isSome = false) (hS : mg "super" = none) : Ex0 P w K mg base x C := by
  obtain ⟨kV, doc, pm, an, cda, cc, ct, oc, od, osl, vs, tf, ccl, cl, cdd, cld, ccs, csl, l1, l2, l3, l4, l5⟩ := S.ex
  have bB2 := bB kV doc pm an (.ref cda) ct
  rw [hb, hs] at l1 bB2
  refine ⟨⟨fI, _, "RuntimeError", "RuntimeError.__new__", "RuntimeError.__init__", bmb "RuntimeError", bas2, T, ok_sup (fd := PySem.W.ksFn "__init__" qual (defArgs st) [.Expr (.Call (.Attribute (.Call (.Name "super" p0) [] [] p1) "__init__" p2) [.Constant (.str txt) kd p3] [] p4) p5] PySem.Xv.supS .none kV doc pm an (.ref cda) ct cc) ⟨?_, hD, sup, self, bs, opq, sup0, tp, T.ini⟩ PySem.W.kxs_RuntimeError bas2.F hS, .all fun us hl => match us, hl with | [u], _ => bB2 u cc⟩, gm⟩
  exact ⟨qual, defArgs st, kV, doc, pm, an, cda, cc, ct, oc, od, osl, ar, p0, p1, p2, p3, p4, p5, txt, kd, vs, file, tf, ccl, cl, cdd, cld, ccs, csl, rfl, l1, l2, ha, ha2, l3, l4, hf, l5, fun L => hev L cda cc⟩
end
/-! ### the classes of the program -/
section
variable {w : World} {K : PySem.W.Frag} {mg : Str → Option Value} {base : Heap} {C fI : Addr}
abbrev pr : Program := PySem.Challenge.pw_settlesfirst_k10_errors
def Fn (K : PySem.W.Frag) (x qual : Str) (st : Stmt) (f : Addr) : Prop := ∃ fd, Fun K x qual st f fd
abbrev t0 : Stmt := inClass (top 2) 0
theorem k_0 (T : ExT K C fI "ValueError.__new__" (bmb "ValueError")) (hno : PySem.W.takerIn K C "position" = some none) (F : Fn K "__init__" "InvalidDeeds.__init__" t0 fI) (gm : mg "InvalidDeeds" = some (.ref C)) : Ex1 pr w K mg base "InvalidDeeds" C "position" := by
  obtain ⟨fd, F⟩ := F
  exact ex1_mk bas0 T hno F gm ⟨rfl, rfl, rfl, by decide +kernel, rfl, by decide +kernel, by decide +kernel⟩ rfl (by decide +kernel) (by decide +kernel) (by decide +kernel) (by decide +kernel) (fun _ _ _ _ _ _ _ _ => rfl) (fun _ _ _ _ _ _ _ _ => rfl)
abbrev t1 : Stmt := inClass (top 3) 0
theorem k_1 (T : ExT K C fI "ValueError.__new__" (bmb "ValueError")) (hno : PySem.W.takerIn K C "position" = some none) (F : Fn K "__init__" "InvalidRows.__init__" t1 fI) (gm : mg "InvalidRows" = some (.ref C)) : Ex1 pr w K mg base "InvalidRows" C "position" := by
  obtain ⟨fd, F⟩ := F
  exact ex1_mk bas0 T hno F gm ⟨rfl, rfl, rfl, by decide +kernel, rfl, by decide +kernel, by decide +kernel⟩ rfl (by decide +kernel) (by decide +kernel) (by decide +kernel) (by decide +kernel) (fun _ _ _ _ _ _ _ _ => rfl) (fun _ _ _ _ _ _ _ _ => rfl)
abbrev t2 : Stmt := inClass (top 6) 0
theorem k_2 (T : ExT K C fI "ValueError.__new__" (bmb "ValueError")) (hno : PySem.W.takerIn K C "position" = some none) (F : Fn K "__init__" "InvalidWord.__init__" t2 fI) (gm : mg "InvalidWord" = some (.ref C)) : Ex1 pr w K mg base "InvalidWord" C "position" := by
  obtain ⟨fd, F⟩ := F
  exact ex1_mk bas0 T hno F gm ⟨rfl, rfl, rfl, by decide +kernel, rfl, by decide +kernel, by decide +kernel⟩ rfl (by decide +kernel) (by decide +kernel) (by decide +kernel) (by decide +kernel) (fun _ _ _ _ _ _ _ _ => rfl) (fun _ _ _ _ _ _ _ _ => rfl)
abbrev t3 : Stmt := inClass (top 14) 0
theorem k_3 (T : ExT K C fI "ValueError.__new__" (bmb "ValueError")) (hno : PySem.W.takerIn K C "position" = some none) (F : Fn K "__init__" "InvalidOrder.__init__" t3 fI) (gm : mg "InvalidOrder" = some (.ref C)) : Ex1 pr w K mg base "InvalidOrder" C "position" := by
  obtain ⟨fd, F⟩ := F
  exact ex1_mk bas0 T hno F gm ⟨rfl, rfl, rfl, by decide +kernel, rfl, by decide +kernel, by decide +kernel⟩ rfl (by decide +kernel) (by decide +kernel) (by decide +kernel) (by decide +kernel) (fun _ _ _ _ _ _ _ _ => rfl) (fun _ _ _ _ _ _ _ _ => rfl)
abbrev t4 : Stmt := inClass (top 16) 0
theorem k_4 (T : ExT K C fI "ValueError.__new__" (bmb "ValueError")) (hno : PySem.W.takerIn K C "position" = some none) (F : Fn K "__init__" "InvalidThings.__init__" t4 fI) (gm : mg "InvalidThings" = some (.ref C)) : Ex1 pr w K mg base "InvalidThings" C "position" := by
  obtain ⟨fd, F⟩ := F
  exact ex1_mk bas0 T hno F gm ⟨rfl, rfl, rfl, by decide +kernel, rfl, by decide +kernel, by decide +kernel⟩ rfl (by decide +kernel) (by decide +kernel) (by decide +kernel) (by decide +kernel) (fun _ _ _ _ _ _ _ _ => rfl) (fun _ _ _ _ _ _ _ _ => rfl)
abbrev t5 : Stmt := inClass (top 17) 0
theorem k_5 (T : ExT K C fI "ValueError.__new__" (bmb "ValueError")) (hno : PySem.W.takerIn K C "position" = some none) (F : Fn K "__init__" "InvalidScripts.__init__" t5 fI) (gm : mg "InvalidScripts" = some (.ref C)) : Ex1 pr w K mg base "InvalidScripts" C "position" := by
  obtain ⟨fd, F⟩ := F
  exact ex1_mk bas0 T hno F gm ⟨rfl, rfl, rfl, by decide +kernel, rfl, by decide +kernel, by decide +kernel⟩ rfl (by decide +kernel) (by decide +kernel) (by decide +kernel) (by decide +kernel) (fun _ _ _ _ _ _ _ _ => rfl) (fun _ _ _ _ _ _ _ _ => rfl)
abbrev t6 : Stmt := inClass (top 18) 0
theorem k_6 (T : ExT K C fI "ValueError.__new__" (bmb "ValueError")) (hno : PySem.W.takerIn K C "position" = some none) (F : Fn K "__init__" "InvalidWeaving.__init__" t6 fI) (gm : mg "InvalidWeaving" = some (.ref C)) : Ex1 pr w K mg base "InvalidWeaving" C "position" := by
  obtain ⟨fd, F⟩ := F
  exact ex1_mk bas0 T hno F gm ⟨rfl, rfl, rfl, by decide +kernel, rfl, by decide +kernel, by decide +kernel⟩ rfl (by decide +kernel) (by decide +kernel) (by decide +kernel) (by decide +kernel) (fun _ _ _ _ _ _ _ _ => rfl) (fun _ _ _ _ _ _ _ _ => rfl)
abbrev t7 : Stmt := inClass (top 20) 0
theorem k_7 (T : ExT K C fI "ValueError.__new__" (bmb "ValueError")) (hno : PySem.W.takerIn K C "line" = some none) (F : Fn K "__init__" "InvalidText.__init__" t7 fI) (gm : mg "InvalidText" = some (.ref C)) : Ex1 pr w K mg base "InvalidText" C "line" := by
  obtain ⟨fd, F⟩ := F
  exact ex1_mk bas0 T hno F gm ⟨rfl, rfl, rfl, by decide +kernel, rfl, by decide +kernel, by decide +kernel⟩ rfl (by decide +kernel) (by decide +kernel) (by decide +kernel) (by decide +kernel) (fun _ _ _ _ _ _ _ _ => rfl) (fun _ _ _ _ _ _ _ _ => rfl)
abbrev t8 : Stmt := inClass (top 4) 0
theorem k_8 (T : ExT K C fI "ValueError.__new__" (bmb "ValueError")) (hno : PySem.W.takerIn K C "value" = some none) (F : Fn K "__init__" "InvalidState.__init__" t8 fI) (gm : mg "InvalidState" = some (.ref C)) : Ex1 pr w K mg base "InvalidState" C "value" := by
  obtain ⟨fd, F⟩ := F
  exact ex1_mk bas0 T hno F gm ⟨rfl, rfl, rfl, by decide +kernel, rfl, by decide +kernel, by decide +kernel⟩ rfl (by decide +kernel) (by decide +kernel) (by decide +kernel) (by decide +kernel) (fun _ _ _ _ _ _ _ _ => rfl) (fun _ _ _ _ _ _ _ _ => rfl)
abbrev t9 : Stmt := inClass (top 5) 0
theorem k_9 (T : ExT K C fI "ValueError.__new__" (bmb "ValueError")) (hno : PySem.W.takerIn K C "value" = some none) (F : Fn K "__init__" "InvalidDeed.__init__" t9 fI) (gm : mg "InvalidDeed" = some (.ref C)) : Ex1 pr w K mg base "InvalidDeed" C "value" := by
  obtain ⟨fd, F⟩ := F
  exact ex1_mk bas0 T hno F gm ⟨rfl, rfl, rfl, by decide +kernel, rfl, by decide +kernel, by decide +kernel⟩ rfl (by decide +kernel) (by decide +kernel) (by decide +kernel) (by decide +kernel) (fun _ _ _ _ _ _ _ _ => rfl) (fun _ _ _ _ _ _ _ _ => rfl)
abbrev t10 : Stmt := inClass (top 7) 0
theorem k_10 (T : ExT K C fI "ValueError.__new__" (bmb "ValueError")) (hno : PySem.W.takerIn K C "value" = some none) (F : Fn K "__init__" "InvalidStates.__init__" t10 fI) (gm : mg "InvalidStates" = some (.ref C)) : Ex1 pr w K mg base "InvalidStates" C "value" := by
  obtain ⟨fd, F⟩ := F
  exact ex1_mk bas0 T hno F gm ⟨rfl, rfl, rfl, by decide +kernel, rfl, by decide +kernel, by decide +kernel⟩ rfl (by decide +kernel) (by decide +kernel) (by decide +kernel) (by decide +kernel) (fun _ _ _ _ _ _ _ _ => rfl) (fun _ _ _ _ _ _ _ _ => rfl)
abbrev t11 : Stmt := inClass (top 8) 0
theorem k_11 (T : ExT K C fI "ValueError.__new__" (bmb "ValueError")) (hno : PySem.W.takerIn K C "value" = some none) (F : Fn K "__init__" "InvalidNames.__init__" t11 fI) (gm : mg "InvalidNames" = some (.ref C)) : Ex1 pr w K mg base "InvalidNames" C "value" := by
  obtain ⟨fd, F⟩ := F
  exact ex1_mk bas0 T hno F gm ⟨rfl, rfl, rfl, by decide +kernel, rfl, by decide +kernel, by decide +kernel⟩ rfl (by decide +kernel) (by decide +kernel) (by decide +kernel) (by decide +kernel) (fun _ _ _ _ _ _ _ _ => rfl) (fun _ _ _ _ _ _ _ _ => rfl)
abbrev t12 : Stmt := inClass (top 9) 0
theorem k_12 (T : ExT K C fI "ValueError.__new__" (bmb "ValueError")) (hno : PySem.W.takerIn K C "value" = some none) (F : Fn K "__init__" "InvalidEntry.__init__" t12 fI) (gm : mg "InvalidEntry" = some (.ref C)) : Ex1 pr w K mg base "InvalidEntry" C "value" := by
  obtain ⟨fd, F⟩ := F
  exact ex1_mk bas0 T hno F gm ⟨rfl, rfl, rfl, by decide +kernel, rfl, by decide +kernel, by decide +kernel⟩ rfl (by decide +kernel) (by decide +kernel) (by decide +kernel) (by decide +kernel) (fun _ _ _ _ _ _ _ _ => rfl) (fun _ _ _ _ _ _ _ _ => rfl)
abbrev t13 : Stmt := inClass (top 10) 0
theorem k_13 (T : ExT K C fI "ValueError.__new__" (bmb "ValueError")) (hno : PySem.W.takerIn K C "value" = some none) (F : Fn K "__init__" "InvalidAnswers.__init__" t13 fI) (gm : mg "InvalidAnswers" = some (.ref C)) : Ex1 pr w K mg base "InvalidAnswers" C "value" := by
  obtain ⟨fd, F⟩ := F
  exact ex1_mk bas0 T hno F gm ⟨rfl, rfl, rfl, by decide +kernel, rfl, by decide +kernel, by decide +kernel⟩ rfl (by decide +kernel) (by decide +kernel) (by decide +kernel) (by decide +kernel) (fun _ _ _ _ _ _ _ _ => rfl) (fun _ _ _ _ _ _ _ _ => rfl)
abbrev t14 : Stmt := inClass (top 11) 0
theorem k_14 (T : ExT K C fI "ValueError.__new__" (bmb "ValueError")) (hno : PySem.W.takerIn K C "value" = some none) (F : Fn K "__init__" "InvalidNumber.__init__" t14 fI) (gm : mg "InvalidNumber" = some (.ref C)) : Ex1 pr w K mg base "InvalidNumber" C "value" := by
  obtain ⟨fd, F⟩ := F
  exact ex1_mk bas0 T hno F gm ⟨rfl, rfl, rfl, by decide +kernel, rfl, by decide +kernel, by decide +kernel⟩ rfl (by decide +kernel) (by decide +kernel) (by decide +kernel) (by decide +kernel) (fun _ _ _ _ _ _ _ _ => rfl) (fun _ _ _ _ _ _ _ _ => rfl)
abbrev t15 : Stmt := inClass (top 12) 0
theorem k_15 (T : ExT K C fI "ValueError.__new__" (bmb "ValueError")) (hno : PySem.W.takerIn K C "value" = some none) (F : Fn K "__init__" "InvalidTeam.__init__" t15 fI) (gm : mg "InvalidTeam" = some (.ref C)) : Ex1 pr w K mg base "InvalidTeam" C "value" := by
  obtain ⟨fd, F⟩ := F
  exact ex1_mk bas0 T hno F gm ⟨rfl, rfl, rfl, by decide +kernel, rfl, by decide +kernel, by decide +kernel⟩ rfl (by decide +kernel) (by decide +kernel) (by decide +kernel) (by decide +kernel) (fun _ _ _ _ _ _ _ _ => rfl) (fun _ _ _ _ _ _ _ _ => rfl)
abbrev t16 : Stmt := inClass (top 13) 0
theorem k_16 (T : ExT K C fI "ValueError.__new__" (bmb "ValueError")) (hno : PySem.W.takerIn K C "value" = some none) (F : Fn K "__init__" "InvalidHand.__init__" t16 fI) (gm : mg "InvalidHand" = some (.ref C)) : Ex1 pr w K mg base "InvalidHand" C "value" := by
  obtain ⟨fd, F⟩ := F
  exact ex1_mk bas0 T hno F gm ⟨rfl, rfl, rfl, by decide +kernel, rfl, by decide +kernel, by decide +kernel⟩ rfl (by decide +kernel) (by decide +kernel) (by decide +kernel) (by decide +kernel) (fun _ _ _ _ _ _ _ _ => rfl) (fun _ _ _ _ _ _ _ _ => rfl)
abbrev t17 : Stmt := inClass (top 15) 0
theorem k_17 (T : ExT K C fI "ValueError.__new__" (bmb "ValueError")) (hno : PySem.W.takerIn K C "value" = some none) (F : Fn K "__init__" "InvalidLayout.__init__" t17 fI) (gm : mg "InvalidLayout" = some (.ref C)) : Ex1 pr w K mg base "InvalidLayout" C "value" := by
  obtain ⟨fd, F⟩ := F
  exact ex1_mk bas0 T hno F gm ⟨rfl, rfl, rfl, by decide +kernel, rfl, by decide +kernel, by decide +kernel⟩ rfl (by decide +kernel) (by decide +kernel) (by decide +kernel) (by decide +kernel) (fun _ _ _ _ _ _ _ _ => rfl) (fun _ _ _ _ _ _ _ _ => rfl)
abbrev t18 : Stmt := inClass (top 19) 0
theorem k_18 (T : ExT K C fI "ValueError.__new__" (bmb "ValueError")) (hno : PySem.W.takerIn K C "value" = some none) (F : Fn K "__init__" "InvalidPlace.__init__" t18 fI) (gm : mg "InvalidPlace" = some (.ref C)) : Ex1 pr w K mg base "InvalidPlace" C "value" := by
  obtain ⟨fd, F⟩ := F
  exact ex1_mk bas0 T hno F gm ⟨rfl, rfl, rfl, by decide +kernel, rfl, by decide +kernel, by decide +kernel⟩ rfl (by decide +kernel) (by decide +kernel) (by decide +kernel) (by decide +kernel) (fun _ _ _ _ _ _ _ _ => rfl) (fun _ _ _ _ _ _ _ _ => rfl)
abbrev t19 : Stmt := inClass (top 21) 0
theorem k_19 (T : ExT K C fI "ValueError.__new__" (bmb "ValueError")) (hno : PySem.W.takerIn K C "value" = some none) (F : Fn K "__init__" "InvalidClaim.__init__" t19 fI) (gm : mg "InvalidClaim" = some (.ref C)) : Ex1 pr w K mg base "InvalidClaim" C "value" := by
  obtain ⟨fd, F⟩ := F
  exact ex1_mk bas0 T hno F gm ⟨rfl, rfl, rfl, by decide +kernel, rfl, by decide +kernel, by decide +kernel⟩ rfl (by decide +kernel) (by decide +kernel) (by decide +kernel) (by decide +kernel) (fun _ _ _ _ _ _ _ _ => rfl) (fun _ _ _ _ _ _ _ _ => rfl)
abbrev t20 : Stmt := inClass (top 22) 0
theorem k_20 (T : ExT K C fI "ValueError.__new__" (bmb "ValueError")) (hno : PySem.W.takerIn K C "value" = some none) (F : Fn K "__init__" "InvalidCommand.__init__" t20 fI) (gm : mg "InvalidCommand" = some (.ref C)) : Ex1 pr w K mg base "InvalidCommand" C "value" := by
  obtain ⟨fd, F⟩ := F
  exact ex1_mk bas0 T hno F gm ⟨rfl, rfl, rfl, by decide +kernel, rfl, by decide +kernel, by decide +kernel⟩ rfl (by decide +kernel) (by decide +kernel) (by decide +kernel) (by decide +kernel) (fun _ _ _ _ _ _ _ _ => rfl) (fun _ _ _ _ _ _ _ _ => rfl)
abbrev t21 : Stmt := inClass (top 24) 0
theorem k_21 (T : ExT K C fI "LookupError.__new__" (bmb "LookupError")) (hno : PySem.W.takerIn K C "value" = some none) (F : Fn K "__init__" "NoSuch.__init__" t21 fI) (gm : mg "NoSuch" = some (.ref C)) : Ex1 pr w K mg base "NoSuch" C "value" := by
  obtain ⟨fd, F⟩ := F
  exact ex1_mk bas1 T hno F gm ⟨rfl, rfl, rfl, by decide +kernel, rfl, by decide +kernel, by decide +kernel⟩ rfl (by decide +kernel) (by decide +kernel) (by decide +kernel) (by decide +kernel) (fun _ _ _ _ _ _ _ _ => rfl) (fun _ _ _ _ _ _ _ _ => rfl)
abbrev t22 : Stmt := inClass (top 26) 0
theorem k_22 (T : ExT K C fI "RuntimeError.__new__" (bmb "RuntimeError")) (hno : PySem.W.takerIn K C "value" = some none) (F : Fn K "__init__" "SharedDeed.__init__" t22 fI) (gm : mg "SharedDeed" = some (.ref C)) : Ex1 pr w K mg base "SharedDeed" C "value" := by
  obtain ⟨fd, F⟩ := F
  exact ex1_mk bas2 T hno F gm ⟨rfl, rfl, rfl, by decide +kernel, rfl, by decide +kernel, by decide +kernel⟩ rfl (by decide +kernel) (by decide +kernel) (by decide +kernel) (by decide +kernel) (fun _ _ _ _ _ _ _ _ => rfl) (fun _ _ _ _ _ _ _ _ => rfl)
abbrev t23 : Stmt := inClass (top 27) 0
theorem k_23 (T : ExT K C fI "RuntimeError.__new__" (bmb "RuntimeError")) (hno : PySem.W.takerIn K C "value" = some none) (F : Fn K "__init__" "OtherThing.__init__" t23 fI) (gm : mg "OtherThing" = some (.ref C)) : Ex1 pr w K mg base "OtherThing" C "value" := by
  obtain ⟨fd, F⟩ := F
  exact ex1_mk bas2 T hno F gm ⟨rfl, rfl, rfl, by decide +kernel, rfl, by decide +kernel, by decide +kernel⟩ rfl (by decide +kernel) (by decide +kernel) (by decide +kernel) (by decide +kernel) (fun _ _ _ _ _ _ _ _ => rfl) (fun _ _ _ _ _ _ _ _ => rfl)
abbrev t24 : Stmt := inClass (top 28) 0
theorem k_24 (T : ExT K C fI "RuntimeError.__new__" (bmb "RuntimeError")) (hno : PySem.W.takerIn K C "value" = some none) (F : Fn K "__init__" "LastOne.__init__" t24 fI) (gm : mg "LastOne" = some (.ref C)) : Ex1 pr w K mg base "LastOne" C "value" := by
  obtain ⟨fd, F⟩ := F
  exact ex1_mk bas2 T hno F gm ⟨rfl, rfl, rfl, by decide +kernel, rfl, by decide +kernel, by decide +kernel⟩ rfl (by decide +kernel) (by decide +kernel) (by decide +kernel) (by decide +kernel) (fun _ _ _ _ _ _ _ _ => rfl) (fun _ _ _ _ _ _ _ _ => rfl)
abbrev t25 : Stmt := inClass (top 33) 0
theorem k_25 (T : ExT K C fI "RuntimeError.__new__" (bmb "RuntimeError")) (hno : PySem.W.takerIn K C "value" = some none) (F : Fn K "__init__" "NotCritical.__init__" t25 fI) (gm : mg "NotCritical" = some (.ref C)) : Ex1 pr w K mg base "NotCritical" C "value" := by
  obtain ⟨fd, F⟩ := F
  exact ex1_mk bas2 T hno F gm ⟨rfl, rfl, rfl, by decide +kernel, rfl, by decide +kernel, by decide +kernel⟩ rfl (by decide +kernel) (by decide +kernel) (by decide +kernel) (by decide +kernel) (fun _ _ _ _ _ _ _ _ => rfl) (fun _ _ _ _ _ _ _ _ => rfl)
abbrev t26 : Stmt := inClass (top 29) 0
theorem k_26 (T : ExT K C fI "RuntimeError.__new__" (bmb "RuntimeError")) (hno : PySem.W.takerIn K C "hand" = some none) (F : Fn K "__init__" "NotInIt.__init__" t26 fI) (gm : mg "NotInIt" = some (.ref C)) : Ex1 pr w K mg base "NotInIt" C "hand" := by
  obtain ⟨fd, F⟩ := F
  exact ex1_mk bas2 T hno F gm ⟨rfl, rfl, rfl, by decide +kernel, rfl, by decide +kernel, by decide +kernel⟩ rfl (by decide +kernel) (by decide +kernel) (by decide +kernel) (by decide +kernel) (fun _ _ _ _ _ _ _ _ => rfl) (fun _ _ _ _ _ _ _ _ => rfl)
abbrev t27 : Stmt := inClass (top 35) 0
theorem k_27 (T : ExT K C fI "RuntimeError.__new__" (bmb "RuntimeError")) (hno : PySem.W.takerIn K C "position" = some none) (F : Fn K "__init__" "CommandFailed.__init__" t27 fI) (gm : mg "CommandFailed" = some (.ref C)) : Ex1 pr w K mg base "CommandFailed" C "position" := by
  obtain ⟨fd, F⟩ := F
  exact ex1_mk bas2 T hno F gm ⟨rfl, rfl, rfl, by decide +kernel, rfl, by decide +kernel, by decide +kernel⟩ rfl (by decide +kernel) (by decide +kernel) (by decide +kernel) (by decide +kernel) (fun _ _ _ _ _ _ _ _ => rfl) (fun _ _ _ _ _ _ _ _ => rfl)
abbrev t28 : Stmt := inClass (top 30) 0
theorem k_28 (T : ExT K C fI "RuntimeError.__new__" (bmb "RuntimeError")) (gm : mg "NotTelling" = some (.ref C)) (S : SupF K "NotTelling.__init__" t28 pr.main.file C fI)
    (hD : (PySem.W.clsIn K C).isSome = true) (sup : PySem.W.ks_superIn K C C "__init__" = some (some (.builtin "RuntimeError.__init__"))) (self : PySem.W.mroIn K C (.ref C) = some true) (bs : PySem.W.subIn K (.ref C) (.type "RuntimeError") = some true)
    (opq : PySem.W.nsIn K cStatics "thirdparty.any" = some none) (sup0 : PySem.W.nsIn K mainGlobals "super" = some none) (hS : mg "super" = none) : Ex0 pr w K mg base "NotTelling" C :=
  ex0_mk T gm S (by decide +kernel) rfl rfl (by rfl) rfl (fun L cda cc => by refine ⟨?pl, ?h⟩; case h => rfl) (fun _ _ _ _ _ _ _ _ => rfl) hD sup self bs opq sup0 (by decide +kernel) hS
abbrev t29 : Stmt := inClass (top 31) 0
theorem k_29 (T : ExT K C fI "RuntimeError.__new__" (bmb "RuntimeError")) (gm : mg "NotRecording" = some (.ref C)) (S : SupF K "NotRecording.__init__" t29 pr.main.file C fI)
    (hD : (PySem.W.clsIn K C).isSome = true) (sup : PySem.W.ks_superIn K C C "__init__" = some (some (.builtin "RuntimeError.__init__"))) (self : PySem.W.mroIn K C (.ref C) = some true) (bs : PySem.W.subIn K (.ref C) (.type "RuntimeError") = some true)
    (opq : PySem.W.nsIn K cStatics "thirdparty.any" = some none) (sup0 : PySem.W.nsIn K mainGlobals "super" = some none) (hS : mg "super" = none) : Ex0 pr w K mg base "NotRecording" C :=
  ex0_mk T gm S (by decide +kernel) rfl rfl (by rfl) rfl (fun L cda cc => by refine ⟨?pl, ?h⟩; case h => rfl) (fun _ _ _ _ _ _ _ _ => rfl) hD sup self bs opq sup0 (by decide +kernel) hS
abbrev t30 : Stmt := inClass (top 32) 0
theorem k_30 (T : ExT K C fI "RuntimeError.__new__" (bmb "RuntimeError")) (gm : mg "NotRight" = some (.ref C)) (S : SupF K "NotRight.__init__" t30 pr.main.file C fI)
    (hD : (PySem.W.clsIn K C).isSome = true) (sup : PySem.W.ks_superIn K C C "__init__" = some (some (.builtin "RuntimeError.__init__"))) (self : PySem.W.mroIn K C (.ref C) = some true) (bs : PySem.W.subIn K (.ref C) (.type "RuntimeError") = some true)
    (opq : PySem.W.nsIn K cStatics "thirdparty.any" = some none) (sup0 : PySem.W.nsIn K mainGlobals "super" = some none) (hS : mg "super" = none) : Ex0 pr w K mg base "NotRight" C :=
  ex0_mk T gm S (by decide +kernel) rfl rfl (by rfl) rfl (fun L cda cc => by refine ⟨?pl, ?h⟩; case h => rfl) (fun _ _ _ _ _ _ _ _ => rfl) hD sup self bs opq sup0 (by decide +kernel) hS
abbrev t31 : Stmt := inClass (top 34) 0
theorem k_31 (T : ExT K C fI "RuntimeError.__new__" (bmb "RuntimeError")) (gm : mg "NothingToUndo" = some (.ref C)) (S : SupF K "NothingToUndo.__init__" t31 pr.main.file C fI)
    (hD : (PySem.W.clsIn K C).isSome = true) (sup : PySem.W.ks_superIn K C C "__init__" = some (some (.builtin "RuntimeError.__init__"))) (self : PySem.W.mroIn K C (.ref C) = some true) (bs : PySem.W.subIn K (.ref C) (.type "RuntimeError") = some true)
    (opq : PySem.W.nsIn K cStatics "thirdparty.any" = some none) (sup0 : PySem.W.nsIn K mainGlobals "super" = some none) (hS : mg "super" = none) : Ex0 pr w K mg base "NothingToUndo" C :=
  ex0_mk T gm S (by decide +kernel) rfl rfl (by rfl) rfl (fun L cda cc => by refine ⟨?pl, ?h⟩; case h => rfl) (fun _ _ _ _ _ _ _ _ => rfl) hD sup self bs opq sup0 (by decide +kernel) hS
abbrev t32 : Stmt := inClass (top 37) 0
theorem k_32 (T : ExT K C fI "ArithmeticError.__new__" (bmb "ArithmeticError")) (hno : PySem.W.takerIn K C "what" = some none) (hno2 : PySem.W.takerIn K C "limit" = some none) (F : Fn K "__init__" "TooMany.__init__" t32 fI) (gm : mg "TooMany" = some (.ref C)) : Ex2 pr w K mg base "TooMany" C "what" "limit" := by
  obtain ⟨fd, F⟩ := F
  exact ex2_mk bas3 T hno hno2 F gm ⟨rfl, rfl, rfl, by decide +kernel, rfl, by decide +kernel, by decide +kernel⟩ rfl (by decide +kernel) (by decide +kernel) (by decide +kernel) (by decide +kernel) (by decide +kernel) (by decide +kernel) (by decide +kernel) (fun _ _ _ _ _ _ _ _ _ => rfl) (fun _ _ _ _ _ _ _ _ _ => rfl)
end
end K10

namespace K10
open PySem PySem.Spec PyProof.Rows L2 Xv
theorem tab_of {α : Type} {n : Nat} {f g : Nat → α} (h : (List.range n).map f = (List.range n).map g) : ∀ i, i < n → f i = g i := fun i hi => by
  have := congrArg (·[i]?) h
  simpa [hi] using this
def cAt (l : List Addr) (i : Nat) : Addr := l.getD i 0
def newOf : Nat → String
  | 0 => "ValueError.__new__"
  | 1 => "LookupError.__new__"
  | 2 => "RuntimeError.__new__"
  | 3 => "ArithmeticError.__new__"
  | _ => ""
structure Tabs (K : PySem.W.Frag) (cs fs ms : List Addr) : Prop where
  tA : (List.range 33).map (fun i => (PySem.W.excInitIn K (cAt cs i) (bmb (blt (famOf i))) (newOf (famOf i)), PySem.W.excOver K (cAt cs i) (bmb (blt (famOf i))), PySem.W.hasDictIn K (cAt cs i), PySem.W.isFn K (.ref (cAt fs i)), PySem.W.keepIn K (.ref (cAt cs i)))) = (List.range 33).map fun _ => (true, true, true, true, true)
  tB : (List.range 33).map (fun i => (PySem.W.findIn K (.ref (cAt cs i)) "__setattr__", PySem.W.findIn K (.ref (cAt cs i)) "__init__", PySem.W.findIn K (.ref (cAt cs i)) "__getattribute__", PySem.W.findIn K (.ref (cAt cs i)) "__getattr__", PySem.W.findIn K (.ref (cAt cs i)) "__class__")) = (List.range 33).map fun i => (some (some (.builtin "object.__setattr__")), some (some (.ref (cAt fs i))), some (some (.builtin "BaseException.__getattribute__")), some none, some (some (.builtin "object.__class__")))
  tC : (List.range 33).map (fun i => (PySem.W.subIn K (.ref (cAt cs i)) (.type "BaseException"), PySem.W.mroIn K (cAt cs i) (.type "object"))) = (List.range 33).map fun _ => (some true, some true)
  tD : (List.range 28).map (fun i => (PySem.W.takerIn K (cAt cs i) (fld i), PySem.W.findIn K (.ref (cAt cs i)) (fld i))) = (List.range 28).map fun _ => (some none, some none)
  tE : (List.range 33).map (fun i => (List.range 33).map fun j => PySem.W.kitOne K (.ref (cAt cs i)) (.ref (cAt cs j))) = (List.range 33).map fun i => (List.range 33).map fun j => some (decide (j = i))
  tF : (List.range 33).map (fun i => (List.range 4).map fun j => (PySem.W.kitOne K (.ref (cAt cs i)) (.ref (cAt ms j)), PySem.W.kitOne K (.ref (cAt cs i)) (.type (blt j)))) = (List.range 33).map fun i => (List.range 4).map fun j => (some (decide (j = famOf i)), some (decide (j = famOf i)))
  tG : (List.range 4).map (fun i => ((PySem.W.clsIn K (cAt cs (28 + i))).isSome, PySem.W.ks_superIn K (cAt cs (28 + i)) (cAt cs (28 + i)) "__init__", PySem.W.mroIn K (cAt cs (28 + i)) (.ref (cAt cs (28 + i))), PySem.W.subIn K (.ref (cAt cs (28 + i))) (.type "RuntimeError"))) = (List.range 4).map fun _ => (true, some (some (.builtin "RuntimeError.__init__")), some true, some true)
  tH : (PySem.W.takerIn K (cAt cs 32) "what", PySem.W.takerIn K (cAt cs 32) "limit", PySem.W.findIn K (.ref (cAt cs 32)) "what", PySem.W.findIn K (.ref (cAt cs 32)) "limit") = (some none, some none, some none, some none)
  tI : (PySem.W.specialIn K (.builtin "object.__class__") "__get__", PySem.W.takesIn K (.builtin "object.__class__")) = (some (some (.builtin "getset_descriptor.__get__")), some true)
  opq : PySem.W.nsIn K cStatics "thirdparty.any" = some none
section
variable {w : World} {K : PySem.W.Frag} {mg : Str → Option Value} {base : Heap} {cs fs ms : List Addr}
theorem Tabs.ext (T : Tabs K cs fs ms) (i : Nat) (hi : i < 33) : ExT K (cAt cs i) (cAt fs i) (newOf (famOf i)) (bmb (blt (famOf i))) := by
  have a := tab_of T.tA i hi
  have b := tab_of T.tB i hi
  simp only [Prod.mk.injEq] at a b
  exact ⟨a.1, a.2.1, a.2.2.1, b.1, b.2.1, a.2.2.2.1, a.2.2.2.2⟩
theorem Tabs.exc (T : Tabs K cs fs ms) (i : Nat) (hi : i < 33) : ExcC K (cAt cs i) := by
  have a := tab_of T.tA i hi
  have b := tab_of T.tB i hi
  have c := tab_of T.tC i hi
  have d := T.tI
  simp only [Prod.mk.injEq] at a b c d
  exact ⟨b.2.2.1, b.2.2.2.1, c.1, a.2.2.1, b.2.2.2.2, d.1, d.2, c.2⟩
theorem Tabs.tak (T : Tabs K cs fs ms) (i : Nat) (hi : i < 28) : PySem.W.takerIn K (cAt cs i) (fld i) = some none := (Prod.mk.inj (tab_of T.tD i hi)).1
theorem Tabs.no (T : Tabs K cs fs ms) (i : Nat) (hi : i < 28) : PySem.W.findIn K (.ref (cAt cs i)) (fld i) = some none := (Prod.mk.inj (tab_of T.tD i hi)).2
theorem Tabs.is (T : Tabs K cs fs ms) (i j : Nat) (hi : i < 33) (hj : j < 33) : PySem.W.kitOne K (.ref (cAt cs i)) (.ref (cAt cs j)) = some (decide (j = i)) := tab_of (tab_of T.tE i hi) j hj
theorem Tabs.isF (T : Tabs K cs fs ms) (i j : Nat) (hi : i < 33) (hj : j < 4) : PySem.W.kitOne K (.ref (cAt cs i)) (.ref (cAt ms j)) = some (decide (j = famOf i)) := (Prod.mk.inj (tab_of (tab_of T.tF i hi) j hj)).1
theorem Tabs.isB (T : Tabs K cs fs ms) (i j : Nat) (hi : i < 33) (hj : j < 4) : PySem.W.kitOne K (.ref (cAt cs i)) (.type (blt j)) = some (decide (j = famOf i)) := (Prod.mk.inj (tab_of (tab_of T.tF i hi) j hj)).2
theorem Tabs.sup (T : Tabs K cs fs ms) (i : Nat) (hi : i < 4) : (PySem.W.clsIn K (cAt cs (28 + i))).isSome = true ∧ PySem.W.ks_superIn K (cAt cs (28 + i)) (cAt cs (28 + i)) "__init__" = some (some (.builtin "RuntimeError.__init__")) ∧ PySem.W.mroIn K (cAt cs (28 + i)) (.ref (cAt cs (28 + i))) = some true ∧ PySem.W.subIn K (.ref (cAt cs (28 + i))) (.type "RuntimeError") = some true := by
  have a := tab_of T.tG i hi
  simpa only [Prod.mk.injEq] using a
def Names (mg : Str → Option Value) (cs ms : List Addr) : Prop := (∀ i, i < 33 → mg (nm i) = some (.ref (cAt cs i))) ∧ ∀ j, j < 4 → mg (fmn j) = some (.ref (cAt ms j))
theorem zz_mk (T : Tabs K cs fs ms) (N : Names mg cs ms) (F0 : Fn K "__init__" "InvalidDeeds.__init__" t0 (cAt fs 0)) (F1 : Fn K "__init__" "InvalidRows.__init__" t1 (cAt fs 1)) (F2 : Fn K "__init__" "InvalidWord.__init__" t2 (cAt fs 2)) (F3 : Fn K "__init__" "InvalidOrder.__init__" t3 (cAt fs 3)) (F4 : Fn K "__init__" "InvalidThings.__init__" t4 (cAt fs 4)) (F5 : Fn K "__init__" "InvalidScripts.__init__" t5 (cAt fs 5)) (F6 : Fn K "__init__" "InvalidWeaving.__init__" t6 (cAt fs 6)) (F7 : Fn K "__init__" "InvalidText.__init__" t7 (cAt fs 7)) (F8 : Fn K "__init__" "InvalidState.__init__" t8 (cAt fs 8)) (F9 : Fn K "__init__" "InvalidDeed.__init__" t9 (cAt fs 9)) (F10 : Fn K "__init__" "InvalidStates.__init__" t10 (cAt fs 10)) (F11 : Fn K "__init__" "InvalidNames.__init__" t11 (cAt fs 11)) (F12 : Fn K "__init__" "InvalidEntry.__init__" t12 (cAt fs 12)) (F13 : Fn K "__init__" "InvalidAnswers.__init__" t13 (cAt fs 13)) (F14 : Fn K "__init__" "InvalidNumber.__init__" t14 (cAt fs 14)) (F15 : Fn K "__init__" "InvalidTeam.__init__" t15 (cAt fs 15)) (F16 : Fn K "__init__" "InvalidHand.__init__" t16 (cAt fs 16)) (F17 : Fn K "__init__" "InvalidLayout.__init__" t17 (cAt fs 17)) (F18 : Fn K "__init__" "InvalidPlace.__init__" t18 (cAt fs 18)) (F19 : Fn K "__init__" "InvalidClaim.__init__" t19 (cAt fs 19)) (F20 : Fn K "__init__" "InvalidCommand.__init__" t20 (cAt fs 20)) (F21 : Fn K "__init__" "NoSuch.__init__" t21 (cAt fs 21)) (F22 : Fn K "__init__" "SharedDeed.__init__" t22 (cAt fs 22)) (F23 : Fn K "__init__" "OtherThing.__init__" t23 (cAt fs 23)) (F24 : Fn K "__init__" "LastOne.__init__" t24 (cAt fs 24)) (F25 : Fn K "__init__" "NotCritical.__init__" t25 (cAt fs 25)) (F26 : Fn K "__init__" "NotInIt.__init__" t26 (cAt fs 26)) (F27 : Fn K "__init__" "CommandFailed.__init__" t27 (cAt fs 27)) (F32 : Fn K "__init__" "TooMany.__init__" t32 (cAt fs 32)) (S28 : SupF K "NotTelling.__init__" t28 pr.main.file (cAt cs 28) (cAt fs 28)) (S29 : SupF K "NotRecording.__init__" t29 pr.main.file (cAt cs 29) (cAt fs 29)) (S30 : SupF K "NotRight.__init__" t30 pr.main.file (cAt cs 30) (cAt fs 30)) (S31 : SupF K "NothingToUndo.__init__" t31 pr.main.file (cAt cs 31) (cAt fs 31)) (sup0 : PySem.W.nsIn K mainGlobals "super" = some none) (hS : mg "super" = none) : Zz pr w K mg base (cAt cs) (cAt ms) := by
  have W := T.tH
  simp only [Prod.mk.injEq] at W
  refine ⟨?_, ?_, k_32 (T.ext 32 (by decide)) W.1 W.2.1 F32 (N.1 32 (by decide)), N.1, N.2, T.exc, T.no, W.2.2.1, W.2.2.2, T.is, T.isF, T.isB⟩
  · intro i hi
    match i, hi with
    | 0, _ => exact k_0 (T.ext 0 (by decide)) (T.tak 0 (by decide)) F0 (N.1 0 (by decide))
    | 1, _ => exact k_1 (T.ext 1 (by decide)) (T.tak 1 (by decide)) F1 (N.1 1 (by decide))
    | 2, _ => exact k_2 (T.ext 2 (by decide)) (T.tak 2 (by decide)) F2 (N.1 2 (by decide))
    | 3, _ => exact k_3 (T.ext 3 (by decide)) (T.tak 3 (by decide)) F3 (N.1 3 (by decide))
    | 4, _ => exact k_4 (T.ext 4 (by decide)) (T.tak 4 (by decide)) F4 (N.1 4 (by decide))
    | 5, _ => exact k_5 (T.ext 5 (by decide)) (T.tak 5 (by decide)) F5 (N.1 5 (by decide))
    | 6, _ => exact k_6 (T.ext 6 (by decide)) (T.tak 6 (by decide)) F6 (N.1 6 (by decide))
    | 7, _ => exact k_7 (T.ext 7 (by decide)) (T.tak 7 (by decide)) F7 (N.1 7 (by decide))
    | 8, _ => exact k_8 (T.ext 8 (by decide)) (T.tak 8 (by decide)) F8 (N.1 8 (by decide))
    | 9, _ => exact k_9 (T.ext 9 (by decide)) (T.tak 9 (by decide)) F9 (N.1 9 (by decide))
    | 10, _ => exact k_10 (T.ext 10 (by decide)) (T.tak 10 (by decide)) F10 (N.1 10 (by decide))
    | 11, _ => exact k_11 (T.ext 11 (by decide)) (T.tak 11 (by decide)) F11 (N.1 11 (by decide))
    | 12, _ => exact k_12 (T.ext 12 (by decide)) (T.tak 12 (by decide)) F12 (N.1 12 (by decide))
    | 13, _ => exact k_13 (T.ext 13 (by decide)) (T.tak 13 (by decide)) F13 (N.1 13 (by decide))
    | 14, _ => exact k_14 (T.ext 14 (by decide)) (T.tak 14 (by decide)) F14 (N.1 14 (by decide))
    | 15, _ => exact k_15 (T.ext 15 (by decide)) (T.tak 15 (by decide)) F15 (N.1 15 (by decide))
    | 16, _ => exact k_16 (T.ext 16 (by decide)) (T.tak 16 (by decide)) F16 (N.1 16 (by decide))
    | 17, _ => exact k_17 (T.ext 17 (by decide)) (T.tak 17 (by decide)) F17 (N.1 17 (by decide))
    | 18, _ => exact k_18 (T.ext 18 (by decide)) (T.tak 18 (by decide)) F18 (N.1 18 (by decide))
    | 19, _ => exact k_19 (T.ext 19 (by decide)) (T.tak 19 (by decide)) F19 (N.1 19 (by decide))
    | 20, _ => exact k_20 (T.ext 20 (by decide)) (T.tak 20 (by decide)) F20 (N.1 20 (by decide))
    | 21, _ => exact k_21 (T.ext 21 (by decide)) (T.tak 21 (by decide)) F21 (N.1 21 (by decide))
    | 22, _ => exact k_22 (T.ext 22 (by decide)) (T.tak 22 (by decide)) F22 (N.1 22 (by decide))
    | 23, _ => exact k_23 (T.ext 23 (by decide)) (T.tak 23 (by decide)) F23 (N.1 23 (by decide))
    | 24, _ => exact k_24 (T.ext 24 (by decide)) (T.tak 24 (by decide)) F24 (N.1 24 (by decide))
    | 25, _ => exact k_25 (T.ext 25 (by decide)) (T.tak 25 (by decide)) F25 (N.1 25 (by decide))
    | 26, _ => exact k_26 (T.ext 26 (by decide)) (T.tak 26 (by decide)) F26 (N.1 26 (by decide))
    | 27, _ => exact k_27 (T.ext 27 (by decide)) (T.tak 27 (by decide)) F27 (N.1 27 (by decide))
    | i + 28, h => exact absurd h (by omega)
  · intro i h1 h2
    obtain ⟨j, rfl⟩ : ∃ j, i = 28 + j := ⟨i - 28, by omega⟩
    have hj : j < 4 := by omega
    obtain ⟨u1, u2, u3, u4⟩ := T.sup j hj
    match j, hj with
    | 0, _ => exact k_28 (T.ext 28 (by decide)) (N.1 28 (by decide)) S28 u1 u2 u3 u4 T.opq sup0 hS
    | 1, _ => exact k_29 (T.ext 29 (by decide)) (N.1 29 (by decide)) S29 u1 u2 u3 u4 T.opq sup0 hS
    | 2, _ => exact k_30 (T.ext 30 (by decide)) (N.1 30 (by decide)) S30 u1 u2 u3 u4 T.opq sup0 hS
    | 3, _ => exact k_31 (T.ext 31 (by decide)) (N.1 31 (by decide)) S31 u1 u2 u3 u4 T.opq sup0 hS
end

/-! ### the law over the written part -/
section
variable {w : World} {K : PySem.W.Frag} {mg : Str → Option Value} {h : Heap} {cs fs ms : List Addr}
theorem cl_mk {base : Heap} {k : Nat} {x : Str} {st : Stmt} {f : Addr} {ps : List Str} {sp : Sp} (F : Fn K x x st f) (gm : mg x = some (.ref f)) (ok : ∀ fd, Fun K x x st f fd → FnOk pr w K mg base CX0 k f fd ps sp)
    (hb : ∀ (kV doc pm : Value) (an : Option Addr) (cdv ct : Value) (us : List Value), us.length = ps.length → bindArgs (PySem.W.fnOf x x (defArgs st) (defBody st) (defScope st) .none kV doc pm an cdv ct) ⟨us, []⟩ = pure (ps.zip us)) : Cl pr w K mg base k x sp := by
  obtain ⟨fd, F⟩ := F
  exact ⟨f, fd, ps, ok fd F, gm, F.kp, F.binds hb⟩
theorem clg_mk {base : Heap} {k : Nat} {x : Str} {st : Stmt} {f : Addr} {ps : List Str} {sp : Sp} (F : Fn K x x st f) (gm : mg x = some (.ref f)) (ok : ∀ fd, Fun K x x st f fd → FnG pr w K mg base k f fd ps sp)
    (hb : ∀ (kV doc pm : Value) (an : Option Addr) (cdv ct : Value) (us : List Value), us.length = ps.length → bindArgs (PySem.W.fnOf x x (defArgs st) (defBody st) (defScope st) .none kV doc pm an cdv ct) ⟨us, []⟩ = pure (ps.zip us)) : ClG pr w K mg base k x sp := by
  obtain ⟨fd, F⟩ := F
  exact ⟨f, fd, ps, ok fd F, gm, F.kp, F.binds hb⟩
def Dn (K : PySem.W.Frag) (mg : Str → Option Value) (x : Str) (st : Stmt) : Prop := ∃ f, mg x = some (.ref f) ∧ Fn K x x st f
theorem all_mk {fa : Addr} (Z : ∀ base, Zz pr w K mg base (cAt cs) (cAt ms)) (T : Bl mg) (hfa : mg "law" = some (.ref fa)) (FL : Dn K mg "law" s_law) (D_pot : Dn K mg "_law_pot" s_pot) (D_draw : Dn K mg "_law_draw" s_draw) (D_pick : Dn K mg "_law_pick" s_pick) (D_thing : Dn K mg "_law_thing" s_thing) (D_placed : Dn K mg "_law_placed" s_placed) (D_placed_by_name : Dn K mg "_law_placed_by_name" s_placed_by_name) (D_valued : Dn K mg "_law_valued" s_valued) (D_valued_by_name : Dn K mg "_law_valued_by_name" s_valued_by_name) (D_stood : Dn K mg "_law_stood" s_stood) (D_every : Dn K mg "_law_every" s_every) (D_of_first : Dn K mg "_law_of_first" s_of_first) (D_of_others : Dn K mg "_law_of_others" s_of_others) (D_families : Dn K mg "_law_families" s_families) (D_kept_right : Dn K mg "_law_kept_right" s_kept_right) (D_kinds_right : Dn K mg "_law_kinds_right" s_kinds_right) :
    ∃ fd : FuncData, (∀ (s : Shared) (v : Value), BindsTo s fd ⟨[v], []⟩ [("_law_script", v)]) ∧ ∀ base : Heap, K.In base → base.Ns mainGlobals mg → FnG pr w K mg base 6 fa fd ["_law_script"] (spLaw K) := by
  obtain ⟨f0, e0, fd, FL⟩ := FL
  have e := hfa.symm.trans e0
  cases e
  obtain ⟨f_pot, m_pot, F_pot⟩ := D_pot
  obtain ⟨f_draw, m_draw, F_draw⟩ := D_draw
  obtain ⟨f_pick, m_pick, F_pick⟩ := D_pick
  obtain ⟨f_thing, m_thing, F_thing⟩ := D_thing
  obtain ⟨f_placed, m_placed, F_placed⟩ := D_placed
  obtain ⟨f_placed_by_name, m_placed_by_name, F_placed_by_name⟩ := D_placed_by_name
  obtain ⟨f_valued, m_valued, F_valued⟩ := D_valued
  obtain ⟨f_valued_by_name, m_valued_by_name, F_valued_by_name⟩ := D_valued_by_name
  obtain ⟨f_stood, m_stood, F_stood⟩ := D_stood
  obtain ⟨f_every, m_every, F_every⟩ := D_every
  obtain ⟨f_of_first, m_of_first, F_of_first⟩ := D_of_first
  obtain ⟨f_of_others, m_of_others, F_of_others⟩ := D_of_others
  obtain ⟨f_families, m_families, F_families⟩ := D_families
  obtain ⟨f_kept_right, m_kept_right, F_kept_right⟩ := D_kept_right
  obtain ⟨f_kinds_right, m_kinds_right, F_kinds_right⟩ := D_kinds_right
  refine ⟨fd, ?_, fun base _ _ => ?_⟩
  · obtain ⟨oc, od, kV, doc, pm, an, cdv, ct, osl, rfl, lk, hc⟩ := FL.ex
    exact fun s v => .of_eq rfl
  have Zb := Z base
  have c_pot := cl_mk (w := w) (base := base) F_pot m_pot (fun fd F => ok_pot F T) (fun _ _ _ _ _ _ us hl => match us, hl with | [_, _], _ => rfl)
  have c_draw := cl_mk (w := w) (base := base) F_draw m_draw (fun fd F => ok_draw F T) (fun _ _ _ _ _ _ us hl => match us, hl with | [_, _], _ => rfl)
  have c_pick := cl_mk (w := w) (base := base) F_pick m_pick (fun fd F => ok_pick F T c_draw) (fun _ _ _ _ _ _ us hl => match us, hl with | [_, _], _ => rfl)
  have c_thing := cl_mk (w := w) (base := base) F_thing m_thing (fun fd F => ok_thing F c_pick) (fun _ _ _ _ _ _ us hl => match us, hl with | [_], _ => rfl)
  have c_placed := cl_mk (w := w) (base := base) F_placed m_placed (fun fd F => ok_placed F Zb) (fun _ _ _ _ _ _ us hl => match us, hl with | [_], _ => rfl)
  have c_placed_by_name := cl_mk (w := w) (base := base) F_placed_by_name m_placed_by_name (fun fd F => ok_placed_by_name F Zb) (fun _ _ _ _ _ _ us hl => match us, hl with | [_], _ => rfl)
  have c_valued := cl_mk (w := w) (base := base) F_valued m_valued (fun fd F => ok_valued F Zb) (fun _ _ _ _ _ _ us hl => match us, hl with | [_], _ => rfl)
  have c_valued_by_name := cl_mk (w := w) (base := base) F_valued_by_name m_valued_by_name (fun fd F => ok_valued_by_name F Zb) (fun _ _ _ _ _ _ us hl => match us, hl with | [_], _ => rfl)
  have c_stood := cl_mk (w := w) (base := base) F_stood m_stood (fun fd F => ok_stood F Zb) (fun _ _ _ _ _ _ us hl => match us, hl with | [_], _ => rfl)
  have c_every := cl_mk (w := w) (base := base) F_every m_every (fun fd F => ok_every F Zb c_placed c_valued c_stood) (fun _ _ _ _ _ _ us hl => match us, hl with | [_], _ => rfl)
  have c_of_first := cl_mk (w := w) (base := base) F_of_first m_of_first (fun fd F => ok_of_first F Zb T) (fun _ _ _ _ _ _ us hl => match us, hl with | [_], _ => rfl)
  have c_of_others := cl_mk (w := w) (base := base) F_of_others m_of_others (fun fd F => ok_of_others F Zb T) (fun _ _ _ _ _ _ us hl => match us, hl with | [_], _ => rfl)
  have c_families := cl_mk (w := w) (base := base) F_families m_families (fun fd F => ok_families F Zb T) (fun _ _ _ _ _ _ us hl => match us, hl with | [_], _ => rfl)
  have c_kept_right := clg_mk (w := w) (base := base) F_kept_right m_kept_right (fun fd F => ok_kept F T Zb c_thing c_every c_placed c_valued c_placed_by_name c_valued_by_name) (fun _ _ _ _ _ _ us hl => match us, hl with | [_], _ => rfl)
  have c_kinds_right := cl_mk (w := w) (base := base) F_kinds_right m_kinds_right (fun fd F => ok_kinds F T c_thing c_every c_of_first c_of_others c_families) (fun _ _ _ _ _ _ us hl => match us, hl with | [_], _ => rfl)
  exact ok_law FL T c_pot c_kept_right c_kinds_right
theorem supf_mk {qual : Str} {st : Stmt} {file : Str} {C fI : Addr} {kV doc pm : Value} {an : Option Addr} {cda cc : Addr} {ct oc : Value} {od : Option Addr} {osl : Array (Option Value)} {vs : Array Value} {tf : Tok} {ccl cl : Value} {cdd cld : Option Addr} {ccs csl : Array (Option Value)}
    (l1 : K.lookup fI = some ⟨oc, od, .func (PySem.W.ksFn "__init__" qual (defArgs st) (defBody st) (defScope st) .none kV doc pm an (.ref cda) ct cc), osl⟩) (l2 : PySem.W.codeIn K (.ref cda) qual = true)
    (l3 : K.lookup cda = some ⟨ccl, cdd, .fields vs, ccs⟩) (l4 : vs[2]? = some (.str file tf)) (l5 : K.lookup cc = some ⟨cl, cld, .cell (some (.ref C)), csl⟩) : SupF K qual st file C fI :=
  ⟨⟨kV, doc, pm, an, cda, cc, ct, oc, od, osl, vs, tf, ccl, cl, cdd, cld, ccs, csl, l1, l2, l3, l4, l5⟩⟩
def Dk (K : PySem.W.Frag) (x : Str) (st : Stmt) : Prop := ∃ f, PySem.W.nsIn K mainGlobals x = some (some (.ref f)) ∧ Fn K x x st f
theorem Dk.dn {x : Str} {st : Stmt} (X : K.In h) (G : h.Ns mainGlobals mg) (D : Dk K x st) : Dn K mg x st := by
  obtain ⟨f, e, F⟩ := D
  exact ⟨f, PySem.W.mg_of X G e, F⟩
theorem names_mk {C0 C1 C2 C3 C4 C5 C6 C7 C8 C9 C10 C11 C12 C13 C14 C15 C16 C17 C18 C19 C20 C21 C22 C23 C24 C25 C26 C27 C28 C29 C30 C31 C32 M0 M1 M2 M3 : Addr} (X : K.In h) (G : h.Ns mainGlobals mg) (g0 : PySem.W.nsIn K mainGlobals "InvalidDeeds" = some (some (.ref C0))) (g1 : PySem.W.nsIn K mainGlobals "InvalidRows" = some (some (.ref C1))) (g2 : PySem.W.nsIn K mainGlobals "InvalidWord" = some (some (.ref C2))) (g3 : PySem.W.nsIn K mainGlobals "InvalidOrder" = some (some (.ref C3))) (g4 : PySem.W.nsIn K mainGlobals "InvalidThings" = some (some (.ref C4))) (g5 : PySem.W.nsIn K mainGlobals "InvalidScripts" = some (some (.ref C5))) (g6 : PySem.W.nsIn K mainGlobals "InvalidWeaving" = some (some (.ref C6))) (g7 : PySem.W.nsIn K mainGlobals "InvalidText" = some (some (.ref C7))) (g8 : PySem.W.nsIn K mainGlobals "InvalidState" = some (some (.ref C8))) (g9 : PySem.W.nsIn K mainGlobals "InvalidDeed" = some (some (.ref C9))) (g10 : PySem.W.nsIn K mainGlobals "InvalidStates" = some (some (.ref C10))) (g11 : PySem.W.nsIn K mainGlobals "InvalidNames" = some (some (.ref C11))) (g12 : PySem.W.nsIn K mainGlobals "InvalidEntry" = some (some (.ref C12))) (g13 : PySem.W.nsIn K mainGlobals "InvalidAnswers" = some (some (.ref C13))) (g14 : PySem.W.nsIn K mainGlobals "InvalidNumber" = some (some (.ref C14))) (g15 : PySem.W.nsIn K mainGlobals "InvalidTeam" = some (some (.ref C15))) (g16 : PySem.W.nsIn K mainGlobals "InvalidHand" = some (some (.ref C16))) (g17 : PySem.W.nsIn K mainGlobals "InvalidLayout" = some (some (.ref C17))) (g18 : PySem.W.nsIn K mainGlobals "InvalidPlace" = some (some (.ref C18))) (g19 : PySem.W.nsIn K mainGlobals "InvalidClaim" = some (some (.ref C19))) (g20 : PySem.W.nsIn K mainGlobals "InvalidCommand" = some (some (.ref C20))) (g21 : PySem.W.nsIn K mainGlobals "NoSuch" = some (some (.ref C21))) (g22 : PySem.W.nsIn K mainGlobals "SharedDeed" = some (some (.ref C22))) (g23 : PySem.W.nsIn K mainGlobals "OtherThing" = some (some (.ref C23))) (g24 : PySem.W.nsIn K mainGlobals "LastOne" = some (some (.ref C24))) (g25 : PySem.W.nsIn K mainGlobals "NotCritical" = some (some (.ref C25))) (g26 : PySem.W.nsIn K mainGlobals "NotInIt" = some (some (.ref C26))) (g27 : PySem.W.nsIn K mainGlobals "CommandFailed" = some (some (.ref C27))) (g28 : PySem.W.nsIn K mainGlobals "NotTelling" = some (some (.ref C28))) (g29 : PySem.W.nsIn K mainGlobals "NotRecording" = some (some (.ref C29))) (g30 : PySem.W.nsIn K mainGlobals "NotRight" = some (some (.ref C30))) (g31 : PySem.W.nsIn K mainGlobals "NothingToUndo" = some (some (.ref C31))) (g32 : PySem.W.nsIn K mainGlobals "TooMany" = some (some (.ref C32))) (m0 : PySem.W.nsIn K mainGlobals "SettleError" = some (some (.ref M0))) (m1 : PySem.W.nsIn K mainGlobals "MissingError" = some (some (.ref M1))) (m2 : PySem.W.nsIn K mainGlobals "StateError" = some (some (.ref M2))) (m3 : PySem.W.nsIn K mainGlobals "LimitError" = some (some (.ref M3))) : Names mg [C0, C1, C2, C3, C4, C5, C6, C7, C8, C9, C10, C11, C12, C13, C14, C15, C16, C17, C18, C19, C20, C21, C22, C23, C24, C25, C26, C27, C28, C29, C30, C31, C32] [M0, M1, M2, M3] := by
  refine ⟨fun i hi => ?_, fun j hj => ?_⟩
  · match i, hi with
    | 0, _ => exact PySem.W.mg_of X G g0
    | 1, _ => exact PySem.W.mg_of X G g1
    | 2, _ => exact PySem.W.mg_of X G g2
    | 3, _ => exact PySem.W.mg_of X G g3
    | 4, _ => exact PySem.W.mg_of X G g4
    | 5, _ => exact PySem.W.mg_of X G g5
    | 6, _ => exact PySem.W.mg_of X G g6
    | 7, _ => exact PySem.W.mg_of X G g7
    | 8, _ => exact PySem.W.mg_of X G g8
    | 9, _ => exact PySem.W.mg_of X G g9
    | 10, _ => exact PySem.W.mg_of X G g10
    | 11, _ => exact PySem.W.mg_of X G g11
    | 12, _ => exact PySem.W.mg_of X G g12
    | 13, _ => exact PySem.W.mg_of X G g13
    | 14, _ => exact PySem.W.mg_of X G g14
    | 15, _ => exact PySem.W.mg_of X G g15
    | 16, _ => exact PySem.W.mg_of X G g16
    | 17, _ => exact PySem.W.mg_of X G g17
    | 18, _ => exact PySem.W.mg_of X G g18
    | 19, _ => exact PySem.W.mg_of X G g19
    | 20, _ => exact PySem.W.mg_of X G g20
    | 21, _ => exact PySem.W.mg_of X G g21
    | 22, _ => exact PySem.W.mg_of X G g22
    | 23, _ => exact PySem.W.mg_of X G g23
    | 24, _ => exact PySem.W.mg_of X G g24
    | 25, _ => exact PySem.W.mg_of X G g25
    | 26, _ => exact PySem.W.mg_of X G g26
    | 27, _ => exact PySem.W.mg_of X G g27
    | 28, _ => exact PySem.W.mg_of X G g28
    | 29, _ => exact PySem.W.mg_of X G g29
    | 30, _ => exact PySem.W.mg_of X G g30
    | 31, _ => exact PySem.W.mg_of X G g31
    | 32, _ => exact PySem.W.mg_of X G g32
    | i + 33, z => exact absurd z (by omega)
  · match j, hj with
    | 0, _ => exact PySem.W.mg_of X G m0
    | 1, _ => exact PySem.W.mg_of X G m1
    | 2, _ => exact PySem.W.mg_of X G m2
    | 3, _ => exact PySem.W.mg_of X G m3
    | j + 4, z => exact absurd z (by omega)
theorem fin_mk {C0 C1 C2 C3 C4 C5 C6 C7 C8 C9 C10 C11 C12 C13 C14 C15 C16 C17 C18 C19 C20 C21 C22 C23 C24 C25 C26 C27 C28 C29 C30 C31 C32 F0 F1 F2 F3 F4 F5 F6 F7 F8 F9 F10 F11 F12 F13 F14 F15 F16 F17 F18 F19 F20 F21 F22 F23 F24 F25 F26 F27 F28 F29 F30 F31 F32 M0 M1 M2 M3 fa : Addr} (X : K.In h) (G : h.Ns mainGlobals mg) (hfa : mg "law" = some (.ref fa)) (g0 : PySem.W.nsIn K mainGlobals "InvalidDeeds" = some (some (.ref C0))) (g1 : PySem.W.nsIn K mainGlobals "InvalidRows" = some (some (.ref C1))) (g2 : PySem.W.nsIn K mainGlobals "InvalidWord" = some (some (.ref C2))) (g3 : PySem.W.nsIn K mainGlobals "InvalidOrder" = some (some (.ref C3))) (g4 : PySem.W.nsIn K mainGlobals "InvalidThings" = some (some (.ref C4))) (g5 : PySem.W.nsIn K mainGlobals "InvalidScripts" = some (some (.ref C5))) (g6 : PySem.W.nsIn K mainGlobals "InvalidWeaving" = some (some (.ref C6))) (g7 : PySem.W.nsIn K mainGlobals "InvalidText" = some (some (.ref C7))) (g8 : PySem.W.nsIn K mainGlobals "InvalidState" = some (some (.ref C8))) (g9 : PySem.W.nsIn K mainGlobals "InvalidDeed" = some (some (.ref C9))) (g10 : PySem.W.nsIn K mainGlobals "InvalidStates" = some (some (.ref C10))) (g11 : PySem.W.nsIn K mainGlobals "InvalidNames" = some (some (.ref C11))) (g12 : PySem.W.nsIn K mainGlobals "InvalidEntry" = some (some (.ref C12))) (g13 : PySem.W.nsIn K mainGlobals "InvalidAnswers" = some (some (.ref C13))) (g14 : PySem.W.nsIn K mainGlobals "InvalidNumber" = some (some (.ref C14))) (g15 : PySem.W.nsIn K mainGlobals "InvalidTeam" = some (some (.ref C15))) (g16 : PySem.W.nsIn K mainGlobals "InvalidHand" = some (some (.ref C16))) (g17 : PySem.W.nsIn K mainGlobals "InvalidLayout" = some (some (.ref C17))) (g18 : PySem.W.nsIn K mainGlobals "InvalidPlace" = some (some (.ref C18))) (g19 : PySem.W.nsIn K mainGlobals "InvalidClaim" = some (some (.ref C19))) (g20 : PySem.W.nsIn K mainGlobals "InvalidCommand" = some (some (.ref C20))) (g21 : PySem.W.nsIn K mainGlobals "NoSuch" = some (some (.ref C21))) (g22 : PySem.W.nsIn K mainGlobals "SharedDeed" = some (some (.ref C22))) (g23 : PySem.W.nsIn K mainGlobals "OtherThing" = some (some (.ref C23))) (g24 : PySem.W.nsIn K mainGlobals "LastOne" = some (some (.ref C24))) (g25 : PySem.W.nsIn K mainGlobals "NotCritical" = some (some (.ref C25))) (g26 : PySem.W.nsIn K mainGlobals "NotInIt" = some (some (.ref C26))) (g27 : PySem.W.nsIn K mainGlobals "CommandFailed" = some (some (.ref C27))) (g28 : PySem.W.nsIn K mainGlobals "NotTelling" = some (some (.ref C28))) (g29 : PySem.W.nsIn K mainGlobals "NotRecording" = some (some (.ref C29))) (g30 : PySem.W.nsIn K mainGlobals "NotRight" = some (some (.ref C30))) (g31 : PySem.W.nsIn K mainGlobals "NothingToUndo" = some (some (.ref C31))) (g32 : PySem.W.nsIn K mainGlobals "TooMany" = some (some (.ref C32))) (m0 : PySem.W.nsIn K mainGlobals "SettleError" = some (some (.ref M0))) (m1 : PySem.W.nsIn K mainGlobals "MissingError" = some (some (.ref M1))) (m2 : PySem.W.nsIn K mainGlobals "StateError" = some (some (.ref M2))) (m3 : PySem.W.nsIn K mainGlobals "LimitError" = some (some (.ref M3))) (b_len : PySem.W.nsIn K mainGlobals "len" = some none) (b_abs : PySem.W.nsIn K mainGlobals "abs" = some none) (b_max : PySem.W.nsIn K mainGlobals "max" = some none) (b_min : PySem.W.nsIn K mainGlobals "min" = some none) (b_int : PySem.W.nsIn K mainGlobals "int" = some none) (b_divmod : PySem.W.nsIn K mainGlobals "divmod" = some none) (b_repr : PySem.W.nsIn K mainGlobals "repr" = some none) (b_isinstance : PySem.W.nsIn K mainGlobals "isinstance" = some none) (b_enumerate : PySem.W.nsIn K mainGlobals "enumerate" = some none) (b_range : PySem.W.nsIn K mainGlobals "range" = some none) (b_all : PySem.W.nsIn K mainGlobals "all" = some none) (b_ValueError : PySem.W.nsIn K mainGlobals "ValueError" = some none) (b_LookupError : PySem.W.nsIn K mainGlobals "LookupError" = some none) (b_RuntimeError : PySem.W.nsIn K mainGlobals "RuntimeError" = some none) (b_ArithmeticError : PySem.W.nsIn K mainGlobals "ArithmeticError" = some none) (b_super : PySem.W.nsIn K mainGlobals "super" = some none) (i0 : PySem.W.findIn K (.ref C0) "__init__" = some (some (.ref F0))) (i1 : PySem.W.findIn K (.ref C1) "__init__" = some (some (.ref F1))) (i2 : PySem.W.findIn K (.ref C2) "__init__" = some (some (.ref F2))) (i3 : PySem.W.findIn K (.ref C3) "__init__" = some (some (.ref F3))) (i4 : PySem.W.findIn K (.ref C4) "__init__" = some (some (.ref F4))) (i5 : PySem.W.findIn K (.ref C5) "__init__" = some (some (.ref F5))) (i6 : PySem.W.findIn K (.ref C6) "__init__" = some (some (.ref F6))) (i7 : PySem.W.findIn K (.ref C7) "__init__" = some (some (.ref F7))) (i8 : PySem.W.findIn K (.ref C8) "__init__" = some (some (.ref F8))) (i9 : PySem.W.findIn K (.ref C9) "__init__" = some (some (.ref F9))) (i10 : PySem.W.findIn K (.ref C10) "__init__" = some (some (.ref F10))) (i11 : PySem.W.findIn K (.ref C11) "__init__" = some (some (.ref F11))) (i12 : PySem.W.findIn K (.ref C12) "__init__" = some (some (.ref F12))) (i13 : PySem.W.findIn K (.ref C13) "__init__" = some (some (.ref F13))) (i14 : PySem.W.findIn K (.ref C14) "__init__" = some (some (.ref F14))) (i15 : PySem.W.findIn K (.ref C15) "__init__" = some (some (.ref F15))) (i16 : PySem.W.findIn K (.ref C16) "__init__" = some (some (.ref F16))) (i17 : PySem.W.findIn K (.ref C17) "__init__" = some (some (.ref F17))) (i18 : PySem.W.findIn K (.ref C18) "__init__" = some (some (.ref F18))) (i19 : PySem.W.findIn K (.ref C19) "__init__" = some (some (.ref F19))) (i20 : PySem.W.findIn K (.ref C20) "__init__" = some (some (.ref F20))) (i21 : PySem.W.findIn K (.ref C21) "__init__" = some (some (.ref F21))) (i22 : PySem.W.findIn K (.ref C22) "__init__" = some (some (.ref F22))) (i23 : PySem.W.findIn K (.ref C23) "__init__" = some (some (.ref F23))) (i24 : PySem.W.findIn K (.ref C24) "__init__" = some (some (.ref F24))) (i25 : PySem.W.findIn K (.ref C25) "__init__" = some (some (.ref F25))) (i26 : PySem.W.findIn K (.ref C26) "__init__" = some (some (.ref F26))) (i27 : PySem.W.findIn K (.ref C27) "__init__" = some (some (.ref F27))) (i28 : PySem.W.findIn K (.ref C28) "__init__" = some (some (.ref F28))) (i29 : PySem.W.findIn K (.ref C29) "__init__" = some (some (.ref F29))) (i30 : PySem.W.findIn K (.ref C30) "__init__" = some (some (.ref F30))) (i31 : PySem.W.findIn K (.ref C31) "__init__" = some (some (.ref F31))) (i32 : PySem.W.findIn K (.ref C32) "__init__" = some (some (.ref F32))) (d_pot : Dk K "_law_pot" s_pot) (d_draw : Dk K "_law_draw" s_draw) (d_pick : Dk K "_law_pick" s_pick) (d_thing : Dk K "_law_thing" s_thing) (d_placed : Dk K "_law_placed" s_placed) (d_placed_by_name : Dk K "_law_placed_by_name" s_placed_by_name) (d_valued : Dk K "_law_valued" s_valued) (d_valued_by_name : Dk K "_law_valued_by_name" s_valued_by_name) (d_stood : Dk K "_law_stood" s_stood) (d_every : Dk K "_law_every" s_every) (d_of_first : Dk K "_law_of_first" s_of_first) (d_of_others : Dk K "_law_of_others" s_of_others) (d_families : Dk K "_law_families" s_families) (d_kept_right : Dk K "_law_kept_right" s_kept_right) (d_kinds_right : Dk K "_law_kinds_right" s_kinds_right) (dlaw : Dk K "law" s_law) (f0 : Fn K "__init__" "InvalidDeeds.__init__" t0 F0) (f1 : Fn K "__init__" "InvalidRows.__init__" t1 F1) (f2 : Fn K "__init__" "InvalidWord.__init__" t2 F2) (f3 : Fn K "__init__" "InvalidOrder.__init__" t3 F3) (f4 : Fn K "__init__" "InvalidThings.__init__" t4 F4) (f5 : Fn K "__init__" "InvalidScripts.__init__" t5 F5) (f6 : Fn K "__init__" "InvalidWeaving.__init__" t6 F6) (f7 : Fn K "__init__" "InvalidText.__init__" t7 F7) (f8 : Fn K "__init__" "InvalidState.__init__" t8 F8) (f9 : Fn K "__init__" "InvalidDeed.__init__" t9 F9) (f10 : Fn K "__init__" "InvalidStates.__init__" t10 F10) (f11 : Fn K "__init__" "InvalidNames.__init__" t11 F11) (f12 : Fn K "__init__" "InvalidEntry.__init__" t12 F12) (f13 : Fn K "__init__" "InvalidAnswers.__init__" t13 F13) (f14 : Fn K "__init__" "InvalidNumber.__init__" t14 F14) (f15 : Fn K "__init__" "InvalidTeam.__init__" t15 F15) (f16 : Fn K "__init__" "InvalidHand.__init__" t16 F16) (f17 : Fn K "__init__" "InvalidLayout.__init__" t17 F17) (f18 : Fn K "__init__" "InvalidPlace.__init__" t18 F18) (f19 : Fn K "__init__" "InvalidClaim.__init__" t19 F19) (f20 : Fn K "__init__" "InvalidCommand.__init__" t20 F20) (f21 : Fn K "__init__" "NoSuch.__init__" t21 F21) (f22 : Fn K "__init__" "SharedDeed.__init__" t22 F22) (f23 : Fn K "__init__" "OtherThing.__init__" t23 F23) (f24 : Fn K "__init__" "LastOne.__init__" t24 F24) (f25 : Fn K "__init__" "NotCritical.__init__" t25 F25) (f26 : Fn K "__init__" "NotInIt.__init__" t26 F26) (f27 : Fn K "__init__" "CommandFailed.__init__" t27 F27) (f32 : Fn K "__init__" "TooMany.__init__" t32 F32) (s28 : SupF K "NotTelling.__init__" t28 pr.main.file C28 F28) (s29 : SupF K "NotRecording.__init__" t29 pr.main.file C29 F29) (s30 : SupF K "NotRight.__init__" t30 pr.main.file C30 F30) (s31 : SupF K "NothingToUndo.__init__" t31 pr.main.file C31 F31) (Tb : Tabs K [C0, C1, C2, C3, C4, C5, C6, C7, C8, C9, C10, C11, C12, C13, C14, C15, C16, C17, C18, C19, C20, C21, C22, C23, C24, C25, C26, C27, C28, C29, C30, C31, C32] [F0, F1, F2, F3, F4, F5, F6, F7, F8, F9, F10, F11, F12, F13, F14, F15, F16, F17, F18, F19, F20, F21, F22, F23, F24, F25, F26, F27, F28, F29, F30, F31, F32] [M0, M1, M2, M3]) :
    ∃ fd : FuncData, (∀ (s : Shared) (v : Value), BindsTo s fd ⟨[v], []⟩ [("_law_script", v)]) ∧ ∀ base : Heap, K.In base → base.Ns mainGlobals mg → FnG pr w K mg base 6 fa fd ["_law_script"] (spLaw K) := by
  have n0 : ∀ {x : Str}, PySem.W.nsIn K mainGlobals x = some none → mg x = none := fun e => PySem.W.mg_none_of X G e
  exact all_mk (fun base => zz_mk Tb (names_mk X G g0 g1 g2 g3 g4 g5 g6 g7 g8 g9 g10 g11 g12 g13 g14 g15 g16 g17 g18 g19 g20 g21 g22 g23 g24 g25 g26 g27 g28 g29 g30 g31 g32 m0 m1 m2 m3) f0 f1 f2 f3 f4 f5 f6 f7 f8 f9 f10 f11 f12 f13 f14 f15 f16 f17 f18 f19 f20 f21 f22 f23 f24 f25 f26 f27 f32 s28 s29 s30 s31 b_super (n0 b_super)) ⟨n0 b_len, n0 b_abs, n0 b_max, n0 b_min, n0 b_int, n0 b_divmod, n0 b_repr, n0 b_isinstance, n0 b_enumerate, n0 b_range, n0 b_all, n0 b_ValueError, n0 b_LookupError, n0 b_RuntimeError, n0 b_ArithmeticError⟩ hfa (dlaw.dn X G) (d_pot.dn X G) (d_draw.dn X G) (d_pick.dn X G) (d_thing.dn X G) (d_placed.dn X G) (d_placed_by_name.dn X G) (d_valued.dn X G) (d_valued_by_name.dn X G) (d_stood.dn X G) (d_every.dn X G) (d_of_first.dn X G) (d_of_others.dn X G) (d_families.dn X G) (d_kept_right.dn X G) (d_kinds_right.dn X G)
end
theorem walk {l : PySem.W.OpenLaw} {q : Program} {loose : List Str} {XP : (Str → Option Value) → Heap → Prop} {YP : World → Heap → Prop} {d : DefRec} {K : Params → PySem.W.Frag} (hn : l.most = some 63) (hdf : d.params.defaults = [])
    (hY : ∀ (w : World) (h : Heap), YP w h → (K w.params).In h)
    (F : ∀ (w : World) (mg : Str → Option Value) (fa : Addr) (h : Heap), (K w.params).In h → h.Ns mainGlobals mg → mg d.name = some (.ref fa) →
      ∃ fd : FuncData, (∀ (s : Shared) (u : Value), BindsTo s fd ⟨[u], []⟩ [("_law_script", u)]) ∧ ∀ base : Heap, (K w.params).In base → base.Ns mainGlobals mg → FnG l.prog w (K w.params) mg base 6 fa fd ["_law_script"] (spLaw (K w.params))) :
    PySem.W.WalkO q loose XP YP l.row.toRowW d [] (fun f vs => PySem.call f vs) :=
  Xv.walkG (n := 63) (k := 6) (x := "_law_script") (sp := fun w => spLaw (K w.params)) hn (by decide) hdf ⟨rfl, by decide, by decide⟩ hY F (fun _ _ a ns hl _ hS => ⟨a, ns, rfl, hS, hl, fun _ => rfl⟩)
end K10


set_option maxHeartbeats 0
namespace Xv
open PySem PySem.Spec PyProof.Rows L2
/-- the end, where the written part is known by what it says -/
theorem walkGE {l : PySem.W.OpenLaw} {n k : Nat} {q : Program} {loose : List Str} {XP : (Str → Option Value) → Heap → Prop} {YP : World → Heap → Prop} {d : DefRec} {x : Str}
    (hn : l.most = some n) (hn2 : n ≤ sizeLine) (hdf : d.params.defaults = []) (hr : Room k callerA)
    (F : ∀ (w : World) (mg : Str → Option Value) (fa : Addr) (h : Heap), YP w h → h.Ns mainGlobals mg → mg d.name = some (.ref fa) →
      ∃ (K : PySem.W.Frag) (fd : FuncData) (sp : Sp), K.In h ∧ (∀ (s : Shared) (u : Value), BindsTo s fd ⟨[u], []⟩ [(x, u)]) ∧ (∀ (H : Hp) (a : Addr) (ns : List Int), ns.length ≤ n → Only H → SqL K H a (ns.map V.int) → sp [.ref a] H (fun v _ => v = .bl true) E0) ∧
        ∀ base : Heap, K.In base → base.Ns mainGlobals mg → FnG l.prog w K mg base k fa fd [x] sp) :
    PySem.W.WalkO q loose XP YP l.row.toRowW d [] (fun f vs => PySem.call f vs) := by
  refine Att.attach_call hn hdf (fun w s₀ s₁ mg mb fa o pm cd doc a vs ns G Y ho hd hcd hmg hobj hints hlen hg => ?_)
  obtain ⟨K, fd, sp, KX, hb, hsp, hF⟩ := F w mg fa _ Y G.T.g hmg
  exact law_callG KX G.T.g G.T.b G.T.builtins G.T.nolimit hg hobj hints (Nat.le_trans hlen hn2) hr hF hb (fun H hO hS => hsp H a ns hlen hO hS)
/-! ### what of the heap is looked at -/
def valsO (o : Obj) : List Addr := match o.data with
  | .dict es _ => es.toList.flatMap fun e => He.refV e.val
  | _ => []
def nsO (o : Obj) : List Addr := match o.data with
  | .cls cd => [cd.ns]
  | _ => []
def fnO (o : Obj) : List Addr := match o.data with
  | .func fd => He.refV fd.code ++ fd.closure.map (·.2)
  | _ => []
def at0 (g : Addr → Option Obj) (f : Obj → List Addr) (a : Addr) : List Addr := match g a with
  | some o => f o
  | none => []
def asK (g : Addr → Option Obj) : List Addr :=
  let v := at0 g valsO mainGlobals
  let n := v.flatMap (at0 g nsO)
  let m := n.flatMap (at0 g valsO)
  mainGlobals :: cStatics :: (v ++ (n ++ (m ++ (v ++ m).flatMap (at0 g fnO))))
abbrev FnS : Type := Option (Str × Str × Arguments × FuncBody × Scope × Addr × List Str × Value × Addr)
def fnS (K : PySem.W.Frag) (a : Addr) : FnS := match K.lookup a with
  | some ⟨_, _, .func fd, _⟩ => some (fd.name, fd.qualname, fd.params, fd.body, fd.scope, fd.globals, fd.closure.map (·.1), fd.defaults, fd.builtins)
  | _ => none
def codeS (K : PySem.W.Frag) (a : Addr) (q : Str) : Bool := match K.lookup a with
  | some ⟨_, _, .func fd, _⟩ => PySem.W.codeIn K fd.code q
  | _ => false
theorem fnS_ok {K : PySem.W.Frag} {a : Addr} {x q : Str} {st : Stmt} (e : fnS K a = (some (x, q, defArgs st, FuncBody.stmts (defBody st), defScope st, mainGlobals, [], Value.none, builtinsNs) : FnS)) (c : codeS K a q = true) (k : PySem.W.keepIn K (.ref a) = true) : ∃ fd, Fun K x q st a fd := by
  unfold fnS at e
  unfold codeS at c
  cases z : K.lookup a with
  | none =>
    rw [z] at c
    cases c
  | some o =>
    obtain ⟨oc, od, dt, osl⟩ := o
    rw [z] at c e
    cases dt with
    | func fd =>
      obtain ⟨n1, n2, n3, n4, n5, n6, n7, n8, n9, n10, n11, n12, n13, n14, n15⟩ := fd
      have e2 : (some (n1, n2, n3, n4, n5, n6, n7.map (·.1), n8, n15) : FnS) = _ := e
      simp only [Option.some.injEq, Prod.mk.injEq] at e2
      obtain ⟨h1, h2, h3, h4, h5, h6, h7, h8, h9⟩ := e2
      obtain rfl := List.map_eq_nil_iff.mp h7
      subst h1 h2 h3 h4 h5 h6 h8 h9
      exact ⟨_, fun_mk (st := st) z c k⟩
    | _ => cases c
def fileB (o : Option Obj) (file : Str) : Bool := match o with
  | some ⟨_, _, .fields vs, _⟩ => (match (vs[2]? : Option Value) with
    | some (Value.str f _) => decide (f = file)
    | _ => false)
  | _ => false
theorem fileB_ok {o : Option Obj} {file : Str} (h : fileB o file = true) : ∃ oc od vs sl tf, o = some ⟨oc, od, .fields vs, sl⟩ ∧ vs[2]? = some (Value.str file tf) := by
  unfold fileB at h
  split at h
  · split at h
    · rename_i e
      have q := of_decide_eq_true h
      subst q
      exact ⟨_, _, _, _, _, rfl, e⟩
    · cases h
  · cases h
def cellB (o : Option Obj) (C : Addr) : Bool := match o with
  | some ⟨_, _, .cell (some (.ref D)), _⟩ => decide (D = C)
  | _ => false
theorem cellB_ok {o : Option Obj} {C : Addr} (h : cellB o C = true) : ∃ oc od sl, o = some ⟨oc, od, .cell (some (.ref C)), sl⟩ := by
  unfold cellB at h
  split at h
  · have q := of_decide_eq_true h
    subst q
    exact ⟨_, _, _, rfl⟩
  · cases h
/-- an __init__ that closes over its class alone -/
def supB (K : PySem.W.Frag) (a C : Addr) (q file : Str) : Bool := match K.lookup a with
  | some ⟨_, _, .func fd, _⟩ => (match fd.closure, fd.code with
    | [(_, cc)], .ref cda => PySem.W.codeIn K (.ref cda) q && (fileB (K.lookup cda) file && cellB (K.lookup cc) C)
    | _, _ => false)
  | _ => false
theorem supB_ok {K : PySem.W.Frag} {a C : Addr} {q file : Str} {st : Stmt} (e : fnS K a = (some (("__init__" : Str), q, defArgs st, FuncBody.stmts (defBody st), defScope st, mainGlobals, (["__class__"] : List Str), Value.none, builtinsNs) : FnS)) (b : supB K a C q file = true) : K10.SupF K q st file C a := by
  unfold supB at b
  split at b
  · rename_i fd sl z
    split at b
    · rename_i y cc cda e1 e2
      obtain ⟨b1, b2⟩ := Bool.and_eq_true_iff.mp b
      obtain ⟨b2, b3⟩ := Bool.and_eq_true_iff.mp b2
      obtain ⟨_, _, vs, _, tf, z2, z4⟩ := fileB_ok b2
      obtain ⟨_, _, _, z3⟩ := cellB_ok b3
      unfold fnS at e
      rw [z] at e
      obtain ⟨n1, n2, n3, n4, n5, n6, n7, n8, n9, n10, n11, n12, n13, n14, n15⟩ := fd
      dsimp only at e e1 e2
      subst e1 e2
      simp only [Option.some.injEq, Prod.mk.injEq] at e
      obtain ⟨h1, h2, h3, h4, h5, h6, h7, h8, h9⟩ := e
      have hy : y = ("__class__" : Str) := (List.cons.inj h7).1
      subst h1 h2 h3 h4 h5 h6 h8 h9 hy
      exact K10.supf_mk z b1 z2 z4 z3
    · cases b
  · cases b
end Xv
namespace K10
open PySem PySem.Spec PyProof.Rows L2 Xv
/-! ### the facts as tables -/
def bn : Nat → Str
  | 0 => "len"
  | 1 => "abs"
  | 2 => "max"
  | 3 => "min"
  | 4 => "int"
  | 5 => "divmod"
  | 6 => "repr"
  | 7 => "isinstance"
  | 8 => "enumerate"
  | 9 => "range"
  | 10 => "all"
  | 11 => "ValueError"
  | 12 => "LookupError"
  | 13 => "RuntimeError"
  | 14 => "ArithmeticError"
  | 15 => "super"
  | _ => ""
def dn : Nat → Str
  | 0 => "_law_pot"
  | 1 => "_law_draw"
  | 2 => "_law_pick"
  | 3 => "_law_thing"
  | 4 => "_law_placed"
  | 5 => "_law_placed_by_name"
  | 6 => "_law_valued"
  | 7 => "_law_valued_by_name"
  | 8 => "_law_stood"
  | 9 => "_law_every"
  | 10 => "_law_of_first"
  | 11 => "_law_of_others"
  | 12 => "_law_families"
  | 13 => "_law_kept_right"
  | 14 => "_law_kinds_right"
  | 15 => "law"
  | _ => ""
def ds (i : Nat) : Stmt := top (39 + i)
def tt : Nat → Nat
  | 0 => 2
  | 1 => 3
  | 2 => 6
  | 3 => 14
  | 4 => 16
  | 5 => 17
  | 6 => 18
  | 7 => 20
  | 8 => 4
  | 9 => 5
  | 10 => 7
  | 11 => 8
  | 12 => 9
  | 13 => 10
  | 14 => 11
  | 15 => 12
  | 16 => 13
  | 17 => 15
  | 18 => 19
  | 19 => 21
  | 20 => 22
  | 21 => 24
  | 22 => 26
  | 23 => 27
  | 24 => 28
  | 25 => 33
  | 26 => 29
  | 27 => 35
  | 28 => 30
  | 29 => 31
  | 30 => 32
  | 31 => 34
  | 32 => 37
  | _ => 0
def ti (i : Nat) : Stmt := inClass (top (tt i)) 0
def CS (K : PySem.W.Frag) : List Addr := (List.range 33).map fun i => He.ga K (nm i)
def FS (K : PySem.W.Frag) : List Addr := (List.range 33).map fun i => He.ma K (He.ga K (nm i)) "__init__"
def MS (K : PySem.W.Frag) : List Addr := (List.range 4).map fun j => He.ga K (fmn j)
def qn (i : Nat) : Str := nm i ++ ".__init__"
def obsK (K : PySem.W.Frag) :=
  ((List.range 33).map (fun i => He.eqO (PySem.W.nsIn K mainGlobals (nm i)) (some (some (.ref (cAt (CS K) i))))),
   (List.range 4).map (fun j => He.eqO (PySem.W.nsIn K mainGlobals (fmn j)) (some (some (.ref (cAt (MS K) j))))),
   (List.range 16).map (fun i => PySem.W.nsIn K mainGlobals (bn i)),
   (List.range 16).map (fun i => (He.eqO (PySem.W.nsIn K mainGlobals (dn i)) (some (some (.ref (He.ga K (dn i))))), PySem.W.keepIn K (.ref (He.ga K (dn i))), fnS K (He.ga K (dn i)), codeS K (He.ga K (dn i)) (dn i))),
   (List.range 33).map (fun i => (PySem.W.keepIn K (.ref (cAt (FS K) i)), fnS K (cAt (FS K) i), codeS K (cAt (FS K) i) (qn i))),
   (List.range 4).map (fun i => supB K (cAt (FS K) (28 + i)) (cAt (CS K) (28 + i)) (qn (28 + i)) pr.main.file),
   (List.range 33).map (fun i => (PySem.W.excInitIn K (cAt (CS K) i) (bmb (blt (famOf i))) (newOf (famOf i)), PySem.W.excOver K (cAt (CS K) i) (bmb (blt (famOf i))), PySem.W.hasDictIn K (cAt (CS K) i), PySem.W.isFn K (.ref (cAt (FS K) i)), PySem.W.keepIn K (.ref (cAt (CS K) i)))),
   (List.range 33).map (fun i => (PySem.W.findIn K (.ref (cAt (CS K) i)) "__setattr__", He.eqO (PySem.W.findIn K (.ref (cAt (CS K) i)) "__init__") (some (some (.ref (cAt (FS K) i)))), PySem.W.findIn K (.ref (cAt (CS K) i)) "__getattribute__", PySem.W.findIn K (.ref (cAt (CS K) i)) "__getattr__", PySem.W.findIn K (.ref (cAt (CS K) i)) "__class__")),
   (List.range 33).map (fun i => (PySem.W.subIn K (.ref (cAt (CS K) i)) (.type "BaseException"), PySem.W.mroIn K (cAt (CS K) i) (.type "object"))),
   (List.range 28).map (fun i => (PySem.W.takerIn K (cAt (CS K) i) (fld i), PySem.W.findIn K (.ref (cAt (CS K) i)) (fld i))),
   (List.range 33).map (fun i => (List.range 33).map fun j => PySem.W.kitOne K (.ref (cAt (CS K) i)) (.ref (cAt (CS K) j))),
   (List.range 33).map (fun i => (List.range 4).map fun j => (PySem.W.kitOne K (.ref (cAt (CS K) i)) (.ref (cAt (MS K) j)), PySem.W.kitOne K (.ref (cAt (CS K) i)) (.type (blt j)))),
   (List.range 4).map (fun i => ((PySem.W.clsIn K (cAt (CS K) (28 + i))).isSome, PySem.W.ks_superIn K (cAt (CS K) (28 + i)) (cAt (CS K) (28 + i)) "__init__", PySem.W.mroIn K (cAt (CS K) (28 + i)) (.ref (cAt (CS K) (28 + i))), PySem.W.subIn K (.ref (cAt (CS K) (28 + i))) (.type "RuntimeError"))),
   (PySem.W.takerIn K (cAt (CS K) 32) "what", PySem.W.takerIn K (cAt (CS K) 32) "limit", PySem.W.findIn K (.ref (cAt (CS K) 32)) "what", PySem.W.findIn K (.ref (cAt (CS K) 32)) "limit"),
   (PySem.W.specialIn K (.builtin "object.__class__") "__get__", PySem.W.takesIn K (.builtin "object.__class__")),
   PySem.W.nsIn K cStatics "thirdparty.any")
abbrev AlK : Type := List Bool × List Bool × List (Option (Option Value)) × List (Bool × Bool × FnS × Bool) × List (Bool × FnS × Bool) × List Bool × List (Bool × Bool × Bool × Bool × Bool) × List (Option (Option Value) × Bool × Option (Option Value) × Option (Option Value) × Option (Option Value)) × List (Option Bool × Option Bool) × List (Option (Option Value) × Option (Option Value)) × List (List (Option Bool)) × List (List (Option Bool × Option Bool)) × List (Bool × Option (Option Value) × Option Bool × Option Bool) × (Option (Option Value) × Option (Option Value) × Option (Option Value) × Option (Option Value)) × (Option (Option Value) × Option Bool) × Option (Option Value)
def valK : AlK :=
  ((List.range 33).map (fun _ => true), (List.range 4).map (fun _ => true), (List.range 16).map (fun _ => some none),
   (List.range 16).map (fun i => (true, true, some (dn i, dn i, defArgs (ds i), .stmts (defBody (ds i)), defScope (ds i), mainGlobals, [], .none, builtinsNs), true)),
   (List.range 33).map (fun i => (true, some ("__init__", qn i, defArgs (ti i), .stmts (defBody (ti i)), defScope (ti i), mainGlobals, (if 28 ≤ i ∧ i < 32 then ["__class__"] else []), .none, builtinsNs), true)),
   (List.range 4).map (fun _ => true),
   (List.range 33).map (fun _ => (true, true, true, true, true)),
   (List.range 33).map (fun _ => (some (some (.builtin "object.__setattr__")), true, some (some (.builtin "BaseException.__getattribute__")), some none, some (some (.builtin "object.__class__")))),
   (List.range 33).map (fun _ => (some true, some true)), (List.range 28).map (fun _ => (some none, some none)),
   (List.range 33).map (fun i => (List.range 33).map fun j => some (decide (j = i))), (List.range 33).map (fun i => (List.range 4).map fun j => (some (decide (j = famOf i)), some (decide (j = famOf i)))),
   (List.range 4).map (fun _ => (true, some (some (.builtin "RuntimeError.__init__")), some true, some true)), (some none, some none, some none, some none), (some (some (.builtin "getset_descriptor.__get__")), some true), some none)
def ofG (g : Addr → Option Obj) : AlK := obsK (He.frG g (asK g))
def hk : PySem.W.Hook where
  α := AlK
  obs := fun s => ofG s.heap.get?
  val := fun _ => valK
  says := fun _ h => ∃ K : PySem.W.Frag, K.In h ∧ obsK K = valK
  of := fun _ _ e => ⟨_, He.frG_in, e⟩
  keeps := fun _ _ _ ⟨K, hK, c⟩ k => ⟨K, PySem.W.Frag.In.keeps hK k, c⟩
def ob (s : PySem.W.SharedT) : AlK := ofG (HandSHeadRun.getT s)
theorem ob_eq (s : PySem.W.SharedT) : ob s = hk.obs s.abs := by
  have e : HandSHeadRun.getT s = s.abs.heap.get? := funext (HandSHeadRun.getT_eq s)
  unfold ob
  rw [e]
  rfl
def ln1 : List Str := ["InvalidDeeds", "InvalidRows", "InvalidWord", "InvalidOrder", "InvalidThings", "InvalidScripts", "InvalidWeaving", "InvalidText", "InvalidState", "InvalidDeed", "InvalidStates", "InvalidNames", "InvalidEntry", "InvalidAnswers", "InvalidNumber", "InvalidTeam", "InvalidHand", "InvalidLayout", "InvalidPlace", "InvalidClaim"]
def ln2 : List Str := ["InvalidCommand", "NoSuch", "SharedDeed", "OtherThing", "LastOne", "NotCritical", "NotInIt", "CommandFailed", "NotTelling", "NotRecording", "NotRight", "NothingToUndo", "TooMany", "SettleError", "MissingError", "StateError", "LimitError", "_law_pot", "_law_draw", "_law_pick", "_law_thing", "_law_placed", "_law_placed_by_name", "_law_valued", "_law_valued_by_name", "_law_stood", "_law_every", "_law_of_first", "_law_of_others", "_law_families", "_law_kept_right", "_law_kinds_right"]
abbrev Rw10 : PySem.W.OpenRow := PySem.W.OpenLaw.row PySem.Challenge.rw_settlesfirst_k10_errors
theorem run (w : World) : HandSHeadRun.RunEq Rw10 (PySem.W.view Rw10.prog [54]) hk ob 14000 (ln1 ++ ln2) w := by
  intro os
  kernel_rfl
/-! ### the facts, taken out -/
section
variable {K : PySem.W.Frag} {h : Heap} {mg : Str → Option Value}
theorem at33 (f : Nat → Addr) (i : Nat) (hi : i < 33) : cAt ((List.range 33).map f) i = f i := by
  unfold cAt
  simp [List.getD, hi]
theorem at4' (f : Nat → Addr) (i : Nat) (hi : i < 4) : cAt ((List.range 4).map f) i = f i := by
  unfold cAt
  simp [List.getD, hi]
theorem facts {w : World} {fa : Addr} (X : K.In h) (G : h.Ns mainGlobals mg) (hfa : mg "law" = some (.ref fa)) (c : obsK K = valK) :
    ∃ fd : FuncData, (∀ (s : Shared) (v : Value), BindsTo s fd ⟨[v], []⟩ [("_law_script", v)]) ∧ ∀ base : Heap, K.In base → base.Ns mainGlobals mg → FnG pr w K mg base 6 fa fd ["_law_script"] (spLaw K) := by
  unfold obsK valK at c
  simp only [Prod.mk.injEq] at c
  obtain ⟨t1, t2, t3, t4, t5, t6, t7, t8, t9, t10, t11, t12, t13, t14, t15, t16⟩ := c
  have T : Tabs K (CS K) (FS K) (MS K) := by
    refine ⟨t7, ?_, t9, t10, t11, t12, t13, by simp only [Prod.mk.injEq]; exact t14, by simp only [Prod.mk.injEq]; exact t15, t16⟩
    refine List.map_congr_left fun i hi => ?_
    have e := tab_of t8 i (List.mem_range.mp hi)
    simp only [Prod.mk.injEq] at e ⊢
    exact ⟨e.1, He.eqO_ok e.2.1, e.2.2⟩
  have N : Names mg (CS K) (MS K) := ⟨fun i hi => PySem.W.mg_of X G (He.eqO_ok (tab_of t1 i hi)), fun j hj => PySem.W.mg_of X G (He.eqO_ok (tab_of t2 j hj))⟩
  have b : ∀ i, i < 16 → mg (bn i) = none := fun i hi => PySem.W.mg_none_of X G (tab_of t3 i hi)
  have D : ∀ i, i < 16 → Dn K mg (dn i) (ds i) := fun i hi => by
    have e := tab_of t4 i hi
    simp only [Prod.mk.injEq] at e
    exact ⟨_, PySem.W.mg_of X G (He.eqO_ok e.1), fnS_ok e.2.2.1 e.2.2.2 e.2.1⟩
  have I : ∀ i, i < 33 → ¬ (28 ≤ i ∧ i < 32) → Fn K "__init__" (qn i) (ti i) (cAt (FS K) i) := fun i hi hn => by
    have e := tab_of t5 i hi
    simp only [Prod.mk.injEq, if_neg hn] at e
    exact fnS_ok e.2.1 e.2.2 e.1
  have S : ∀ i, i < 4 → SupF K (qn (28 + i)) (ti (28 + i)) pr.main.file (cAt (CS K) (28 + i)) (cAt (FS K) (28 + i)) := fun i hi => by
    have e := tab_of t5 (28 + i) (by omega)
    simp only [Prod.mk.injEq, if_pos (show 28 ≤ 28 + i ∧ 28 + i < 32 from ⟨by omega, by omega⟩)] at e
    exact supB_ok e.2.1 (tab_of t6 i hi)
  exact all_mk (fun base => zz_mk T N (I 0 (by decide) (by decide)) (I 1 (by decide) (by decide)) (I 2 (by decide) (by decide)) (I 3 (by decide) (by decide)) (I 4 (by decide) (by decide)) (I 5 (by decide) (by decide)) (I 6 (by decide) (by decide)) (I 7 (by decide) (by decide)) (I 8 (by decide) (by decide)) (I 9 (by decide) (by decide)) (I 10 (by decide) (by decide)) (I 11 (by decide) (by decide)) (I 12 (by decide) (by decide)) (I 13 (by decide) (by decide)) (I 14 (by decide) (by decide)) (I 15 (by decide) (by decide)) (I 16 (by decide) (by decide)) (I 17 (by decide) (by decide)) (I 18 (by decide) (by decide)) (I 19 (by decide) (by decide)) (I 20 (by decide) (by decide)) (I 21 (by decide) (by decide)) (I 22 (by decide) (by decide)) (I 23 (by decide) (by decide)) (I 24 (by decide) (by decide)) (I 25 (by decide) (by decide)) (I 26 (by decide) (by decide)) (I 27 (by decide) (by decide)) (I 32 (by decide) (by decide)) (S 0 (by decide)) (S 1 (by decide)) (S 2 (by decide)) (S 3 (by decide)) (tab_of t3 15 (by decide)) (b 15 (by decide))) ⟨b 0 (by decide), b 1 (by decide), b 2 (by decide), b 3 (by decide), b 4 (by decide), b 5 (by decide), b 6 (by decide), b 7 (by decide), b 8 (by decide), b 9 (by decide), b 10 (by decide), b 11 (by decide), b 12 (by decide), b 13 (by decide), b 14 (by decide)⟩ hfa (D 15 (by decide)) (D 0 (by decide)) (D 1 (by decide)) (D 2 (by decide)) (D 3 (by decide)) (D 4 (by decide)) (D 5 (by decide)) (D 6 (by decide)) (D 7 (by decide)) (D 8 (by decide)) (D 9 (by decide)) (D 10 (by decide)) (D 11 (by decide)) (D 12 (by decide)) (D 13 (by decide)) (D 14 (by decide))
end
end K10
open PySem PySem.W PySem.Calls PyProof.Rows in
theorem PySem.Challenge.cw_settlesfirst_k10_errors_holds : PySem.Challenge.rw_settlesfirst_k10_errors.Holds := by
  w_on; o_law
  refine HandSHeadRun.head_any (r := OpenLaw.row PySem.Challenge.rw_settlesfirst_k10_errors) (q := view (OpenLaw.row PySem.Challenge.rw_settlesfirst_k10_errors).prog [54]) (H := K10.hk) (ob := K10.ob) (M := 14000) (loose := K10.ln1 ++ K10.ln2) (d := HandSHeadRun.topDef (OpenLaw.row PySem.Challenge.rw_settlesfirst_k10_errors).prog 54) (kwd := []) K10.ob_eq
    (by kernel_rfl) (fun s => by kernel_rfl) K10.run (by kernel_rfl) (by kernel_rfl) (by kernel_rfl) (by rfl) (by first | assumption | decide +kernel) (by decide +kernel) ⟨rfl, rfl, rfl, rfl, rfl, by decide +kernel⟩ ?hw ?hc
  case hw => w_witness2
  case hc =>
    refine Xv.walkGE (l := PySem.Challenge.rw_settlesfirst_k10_errors) (n := 63) (k := 6) (x := "_law_script") rfl (by decide) (by kernel_rfl) ⟨rfl, by decide, by decide⟩ ?F
    intro w mg fa h Y G hmg0
    obtain ⟨K, KX, c⟩ := Y
    have hmg : mg ("law" : PySem.Str) = some (.ref fa) := by
      have e : (HandSHeadRun.topDef (OpenLaw.row PySem.Challenge.rw_settlesfirst_k10_errors).prog 54).name = ("law" : PySem.Str) := by kernel_rfl
      rw [← e]
      exact hmg0
    obtain ⟨fd, hb, hF⟩ := K10.facts (w := w) KX G hmg c
    exact ⟨K, fd, K10.spLaw K, KX, hb, fun H a ns hl _ hS => ⟨a, ns, rfl, hS, hl, fun _ => rfl⟩, hF⟩

