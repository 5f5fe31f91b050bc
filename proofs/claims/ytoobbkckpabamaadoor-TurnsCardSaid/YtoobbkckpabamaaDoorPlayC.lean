/- The document's own Session (package creedref): New lays the fourteen operators, as the Table's maps. -/
import Derived.Test.YtoobbkckpabamaaDoorPlayB
import Derived.Test.YtoobbkckpabamaaDoorWalkI
namespace Go.Proofs.YtoobbkckpabamaaDoor
open Go Go.RowKit Go.Maps Go.WideShapes
theorem Corr.lay' {ts : List Opr} {D1 D2 : DataW Unit} (h : Corr ts D1 D2) {p : Int} {k n : ByteArray} (hp : 1 ≤ p) (d2 : p ≤ 1200) (d3 : kindB k = true) (d5 : n.size ≤ 40) {i : Nat} (hf : Fits (cutAt ts n (frontB k)) (p, k, n) i) :
    Corr ((cutAt ts n (frontB k)).take i ++ (p, k, n) :: (cutAt ts n (frontB k)).drop i) (putD (inF (numI k)) D1 n p (numI k)) (putD (!inF (numI k)) D2 n p (numI k)) := by
  have hc := h.cut d3 n
  have hkey : ∀ t ∈ cutAt ts n (frontB k), keyB n (frontB k) t = false := by
    rw [cut_filter h.sorted]
    intro t ht
    simpa using (List.mem_filter.1 ht).2
  generalize hl : cutAt ts n (frontB k) = l at *
  have hp1 := lay_perm l (p, k, n) i
  refine ⟨lay_sorted hc.sorted hf hkey, fun t ht => ?_, ?_, ?_⟩
  · rcases List.mem_cons.1 (hp1.mem_iff.1 ht) with rfl | ht
    · exact ⟨by omega, d2, d3, d5⟩
    · exact hc.fine t ht
  · obtain ⟨es, he, pe⟩ := hc.d1
    rw [inF_num d3] at he ⊢
    refine (?_ : ∃ es', _ ∧ _)
    cases hF : frontB k
    · rw [hF] at he
      refine ⟨es, he, pe.trans (List.Perm.trans ?_ ((hp1.filter isF).map entry).symm)⟩
      rw [List.filter_cons_of_neg (by simp [isF, hF])]
    · rw [hF] at he
      obtain ⟨es0, he0, hput⟩ := put_del D1 (by obtain ⟨e, q, _⟩ := h.d1; exact ⟨e, q⟩) n (opD p (numI k))
      have e1 : es = es0 := by
        have : DataW.map es = DataW.map es0 := he.symm.trans he0
        cases this; rfl
      subst e1
      refine ⟨_, hput, (insert_perm _ _).trans (((pe.cons _)).trans ?_)⟩
      refine (List.Perm.trans ?_ ((hp1.filter isF).map entry).symm)
      rw [List.filter_cons_of_pos (by simp [isF, hF])]
      exact List.Perm.refl _
  · obtain ⟨es, he, pe⟩ := hc.d2
    rw [inF_num d3] at he ⊢
    refine (?_ : ∃ es', _ ∧ _)
    cases hF : frontB k
    · rw [hF] at he
      obtain ⟨es0, he0, hput⟩ := put_del D2 (by obtain ⟨e, q, _⟩ := h.d2; exact ⟨e, q⟩) n (opD p (numI k))
      have e1 : es = es0 := by
        have : DataW.map es = DataW.map es0 := he.symm.trans he0
        cases this; rfl
      subst e1
      refine ⟨_, hput, (insert_perm _ _).trans (((pe.cons _)).trans ?_)⟩
      refine (List.Perm.trans ?_ ((hp1.filter notF).map entry).symm)
      rw [List.filter_cons_of_pos (by simp [notF, hF])]
      exact List.Perm.refl _
    · rw [hF] at he
      refine ⟨es, he, pe.trans (List.Perm.trans ?_ ((hp1.filter notF).map entry).symm)⟩
      rw [List.filter_cons_of_neg (by simp [notF, hF])]

/-- the document's Session on its way: its list as the maps behind the first k rows -/
def RS (sb : Nat) (w : World) (k : Nat) : Prop := ∃ ts, SRef sb w ts ∧ Corr ts (mapF k) (mapB k)
theorem size_row (k : Nat) (hk : k < 14) : Maps.size (mapF k) + Maps.size (mapB k) = k :=
  match k, hk with
  | 0, _ => by kernel_rfl
  | 1, _ => by kernel_rfl
  | 2, _ => by kernel_rfl
  | 3, _ => by kernel_rfl
  | 4, _ => by kernel_rfl
  | 5, _ => by kernel_rfl
  | 6, _ => by kernel_rfl
  | 7, _ => by kernel_rfl
  | 8, _ => by kernel_rfl
  | 9, _ => by kernel_rfl
  | 10, _ => by kernel_rfl
  | 11, _ => by kernel_rfl
  | 12, _ => by kernel_rfl
  | 13, _ => by kernel_rfl
theorem ok_row (k : Nat) (hk : k < 14) (h2 : k ≠ 2) : okTurn (R k).pri (R k).kind (R k).name = true :=
  match k, hk with
  | 0, _ => by kernel_rfl
  | 1, _ => by kernel_rfl
  | 2, _ => absurd rfl h2
  | 3, _ => by kernel_rfl
  | 4, _ => by kernel_rfl
  | 5, _ => by kernel_rfl
  | 6, _ => by kernel_rfl
  | 7, _ => by kernel_rfl
  | 8, _ => by kernel_rfl
  | 9, _ => by kernel_rfl
  | 10, _ => by kernel_rfl
  | 11, _ => by kernel_rfl
  | 12, _ => by kernel_rfl
  | 13, _ => by kernel_rfl
theorem num_row (k : Nat) (hk : k < 14) : numI (R k).kind = (R k).num ∧ 0 < (R k).pri ∧ (R k).name.size < 2 ^ 60 :=
  match k, hk with
  | 0, _ => ⟨by kernel_rfl, by decide, by decide⟩
  | 1, _ => ⟨by kernel_rfl, by decide, by decide⟩
  | 2, _ => ⟨by kernel_rfl, by decide, by decide⟩
  | 3, _ => ⟨by kernel_rfl, by decide, by decide⟩
  | 4, _ => ⟨by kernel_rfl, by decide, by decide⟩
  | 5, _ => ⟨by kernel_rfl, by decide, by decide⟩
  | 6, _ => ⟨by kernel_rfl, by decide, by decide⟩
  | 7, _ => ⟨by kernel_rfl, by decide, by decide⟩
  | 8, _ => ⟨by kernel_rfl, by decide, by decide⟩
  | 9, _ => ⟨by kernel_rfl, by decide, by decide⟩
  | 10, _ => ⟨by kernel_rfl, by decide, by decide⟩
  | 11, _ => ⟨by kernel_rfl, by decide, by decide⟩
  | 12, _ => ⟨by kernel_rfl, by decide, by decide⟩
  | 13, _ => ⟨by kernel_rfl, by decide, by decide⟩
theorem rs_turn (sb k : Nat) (hk : k < 14) (h2 : k ≠ 2) (w : World) (h : RS sb w k) :
    Calls Tryd.prog 38 #[.pointer (some ⟨sb, 0, none⟩), .int .i64 (R k).pri, .string (R k).kind, .string (R k).name] w fun e w' => (∃ z, e = .returned (.int .i64 z)) ∧ RS sb w' (k + 1) ∧ Below sb w w' := by
  obtain ⟨ts, hS, hC⟩ := h
  have hok := ok_row k hk h2
  obtain ⟨n1, n2, n3⟩ := num_row k hk
  have hz := hC.size
  have hz2 := size_row k hk
  have hsb : sb < w.heap.size := by obtain ⟨v, hc, _⟩ := hS; exact lt_cell hc
  refine (turn_any sb ts _ _ _ w hS n3 (by omega)).mono ?_
  rintro e w' ⟨rfl, ts', hto, hS', hg⟩
  refine ⟨⟨_, rfl⟩, ⟨ts', hS', ?_⟩, (turned_grown hg).below (Nat.le_of_lt hsb) (by simp)⟩
  have hE : turnE ts (R k).pri (R k).kind (R k).name = 0 := by
    unfold turnE
    rw [if_neg (by simp [hok]), if_neg (by omega)]
  unfold TurnTo at hto
  rw [if_pos hE, if_pos n2] at hto
  obtain ⟨i, hi, rfl⟩ := hto
  rw [mapF_succ k hk, mapB_succ k hk, ← n1]
  exact hC.lay hok n2 hi
theorem rs_put (sb : Nat) (w : World) (h : RS sb w 2) :
    Calls Tryd.prog 39 #[.pointer (some ⟨sb, 0, none⟩), .agg #[.int .i64 (R 2).pri, .string (R 2).kind, .string (R 2).name]] w fun e w' => e = .returned (.tuple #[]) ∧ RS sb w' 3 ∧ Below sb w w' := by
  obtain ⟨ts, ⟨v, hc, hf, ho⟩, hC⟩ := h
  have hz := hC.size
  have hz2 := size_row 2 (by decide)
  have hsb : sb < w.heap.size := lt_cell hc
  refine (put_any sb v ts ((R 2).pri, (R 2).kind, (R 2).name) w hc hf ho (by omega)).mono ?_
  rintro e w' ⟨rfl, hP⟩
  obtain ⟨i, hi, hS, hg⟩ := hP.ref
  refine ⟨rfl, ⟨_, hS, ?_⟩, (turned_grown hg).below (Nat.le_of_lt hsb) (by simp)⟩
  have hno : findAt ts (R 2).name (frontB (R 2).kind) = none := by
    rw [findAt_none_iff, ← hC.has (k := (R 2).kind) (by kernel_rfl)]
    kernel_rfl
  have hcut : cutAt ts (R 2).name (frontB (R 2).kind) = ts := by unfold cutAt; rw [hno]
  rw [mapF_succ 2 (by decide), mapB_succ 2 (by decide), ← (num_row 2 (by decide)).1]
  have := hC.lay' (p := (R 2).pri) (k := (R 2).kind) (n := (R 2).name) (by decide) (by decide) (by kernel_rfl) (by decide) (i := i) (by rw [hcut]; exact hi)
  rw [hcut] at this
  exact this
end Go.Proofs.YtoobbkckpabamaaDoor
