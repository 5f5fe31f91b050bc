/- The operators' Table (package operators): Set answers as the document's Turn does, and the two maps hold what its list then holds. -/
import Derived.Test.YtoobbkckpabamaaDoorTurnK
namespace Go.Proofs.YtoobbkckpabamaaDoor
open Go Go.RowKit Go.Maps Go.WideShapes
theorem Tab.tight {w : World} {B tb m1 m2 n1 n2 : Nat} {D1 D2 : DataW Unit} (h : Tab w B tb m1 m2 n1 n2 D1 D2) : Tab w B tb m1 m2 (Maps.size D1) (Maps.size D2) D1 D2 := by
  have tight : ∀ {m n : Nat} {D : DataW Unit}, w.ownsMap Tryd.prog 9 opElem m n D → w.ownsMap Tryd.prog 9 opElem m (Maps.size D) D := by
    rintro m n D ⟨es, clock, hb, F, hs, rfl⟩
    exact ⟨es, clock, hb, F, by simp [Maps.size, length_sorted], rfl⟩
  exact ⟨h.c1, h.c2, tight h.o1, tight h.o2, h.ne, h.bt, h.b1, h.b2, h.t1, h.t2⟩
theorem findAt_none_iff {ts : List Opr} {n : ByteArray} {fr : Bool} : findAt ts n fr = none ↔ (findAt ts n fr).isSome = false := by
  cases findAt ts n fr <;> simp
theorem Corr.map1 {ts : List Opr} {D1 D2 : DataW Unit} (h : Corr ts D1 D2) : Maps.size D1 ≤ ts.length ∧ Maps.size D2 ≤ ts.length := by
  have := h.size; omega
theorem pickB_or (k : Int) (m1 m2 : Nat) : pickB k m1 m2 = m1 ∨ pickB k m1 m2 = m2 := by unfold pickB; cases inF k <;> simp
def SetTo (w w' : World) (B tb m1 m2 : Nat) (ts : List Opr) (p : Int) (k n : ByteArray) : Prop :=
  ∃ D1' D2' m, (m = m1 ∨ m = m2) ∧ Tab w' B tb m1 m2 (Maps.size D1') (Maps.size D2') D1' D2' ∧ w.grownBy w' (some m) ∧ ∀ ts', TurnTo ts p k n ts' → Corr ts' D1' D2'
theorem set_any (B tb m1 m2 : Nat) (ts : List Opr) (D1 D2 : DataW Unit) (p : Int) (k n : ByteArray) (w : World) (h : Tab w B tb m1 m2 (Maps.size D1) (Maps.size D2) D1 D2) (hC : Corr ts D1 D2) (hl : ts.length ≤ 100) (hs : n.size < 2 ^ 60) (hK : Kinds w) (hS : SortsA w) :
    Calls Tryd.prog 23 #[.pointer (some ⟨tb, 0, none⟩), .int .i64 p, .string k, .string n] w fun e w' => e = .returned (.int .i64 (turnE ts p k n)) ∧ SetTo w w' B tb m1 m2 ts p k n := by
  have hz := hC.size
  by_cases hok : okTurn p k n = true
  · obtain ⟨d1, d2, d3, d4, d5⟩ := okTurn_more hok
    have hh := hC.has d3 n
    by_cases hp : p = 0
    · subst hp
      have hE : turnE ts 0 k n = 0 := by unfold turnE; rw [if_neg (by simp [hok]), if_neg (by simp)]
      refine (set_del B tb m1 m2 _ _ D1 D2 k n w h hs hK hS hok _ rfl).mono ?_
      rintro e w' ⟨rfl, hT, hb⟩
      refine ⟨by rw [hE], _, _, _, pickB_or _ _ _, hT.tight, hb, fun ts' ht => ?_⟩
      unfold TurnTo at ht
      rw [if_pos hE, if_neg (by omega)] at ht
      rw [ht]
      exact hC.cut d3 n
    · by_cases hm : findAt ts n (frontB k) = none ∧ 100 ≤ ts.length
      · have hE : turnE ts p k n = 10 := by unfold turnE; rw [if_neg (by simp [hok]), if_pos ⟨hm.1, by omega, hm.2⟩]
        refine (set_many B tb m1 m2 _ _ D1 D2 p k n w h hs hK hS hok (by rw [hh, hm.1]; rfl) hp (by omega) (by omega) (by omega)).mono ?_
        rintro e w' ⟨rfl, hb⟩
        refine ⟨by rw [hE], D1, D2, m1, Or.inl rfl, h.below hb, below_grown _ hb, fun ts' ht => ?_⟩
        unfold TurnTo at ht
        rw [if_neg (by rw [hE]; decide)] at ht
        rw [ht]
        exact hC
      · have hE : turnE ts p k n = 0 := by unfold turnE; rw [if_neg (by simp [hok]), if_neg (fun hx => hm ⟨hx.1, hx.2.2⟩)]
        refine (set_put B tb m1 m2 _ _ D1 D2 p k n w h hs hK hS hok _ rfl hp (by omega) (by omega) ?_).mono ?_
        · cases hf : findAt ts n (frontB k) with
          | none => exact Or.inr (by have : ¬ 100 ≤ ts.length := fun hx => hm ⟨hf, hx⟩
                                     omega)
          | some j => exact Or.inl (by rw [hh, hf]; rfl)
        · rintro e w' ⟨rfl, hT, hb⟩
          refine ⟨by rw [hE], _, _, _, pickB_or _ _ _, hT.tight, hb, fun ts' ht => ?_⟩
          unfold TurnTo at ht
          rw [if_pos hE, if_pos (by omega)] at ht
          obtain ⟨i, hi, rfl⟩ := ht
          exact hC.lay hok (by omega) hi
  · have hE : turnE ts p k n = 8 := by unfold turnE; rw [if_pos (by simpa using hok)]
    refine (set_bad tb p k n w hs hK hS (by simpa using hok)).mono ?_
    rintro e w' ⟨rfl, rfl⟩
    refine ⟨by rw [hE], D1, D2, m1, Or.inl rfl, h, below_grown _ (Below.refl _ _), fun ts' ht => ?_⟩
    unfold TurnTo at ht
    rw [if_neg (by rw [hE]; decide)] at ht
    rw [ht]
    exact hC
theorem TurnTo.len {ts ts' : List Opr} {p : Int} {k n : ByteArray} (h : TurnTo ts p k n ts') (hl : ts.length ≤ 100) : ts'.length ≤ 100 := by
  unfold TurnTo at h
  by_cases hE : turnE ts p k n = 0
  · rw [if_pos hE] at h
    have hcut : (cutAt ts n (frontB k)).length ≤ ts.length ∧ (findAt ts n (frontB k) ≠ none → (cutAt ts n (frontB k)).length + 1 ≤ ts.length) := by
      unfold cutAt
      cases hf : findAt ts n (frontB k) with
      | none => exact ⟨Nat.le_refl _, fun h => absurd rfl h⟩
      | some j =>
        have := findAt_lt hf
        simp only [List.length_eraseIdx_of_lt this]
        exact ⟨by omega, fun _ => by omega⟩
    by_cases hp : 0 < p
    · rw [if_pos hp] at h
      obtain ⟨i, hi, rfl⟩ := h
      have h1 := (lay_perm (cutAt ts n (frontB k)) (p, k, n) i).length_eq
      rw [h1, List.length_cons]
      unfold turnE at hE
      by_cases hok : okTurn p k n = false
      · rw [if_pos hok] at hE; omega
      · rw [if_neg hok] at hE
        by_cases hm : findAt ts n (frontB k) = none ∧ 0 < p ∧ 100 ≤ ts.length
        · rw [if_pos hm] at hE; omega
        · by_cases hf : findAt ts n (frontB k) = none
          · have : ¬ 100 ≤ ts.length := fun hx => hm ⟨hf, hp, hx⟩
            omega
          · have := hcut.2 hf; omega
    · rw [if_neg hp] at h
      rw [h]; omega
  · rw [if_neg hE] at h
    rw [h]; exact hl
end Go.Proofs.YtoobbkckpabamaaDoor
