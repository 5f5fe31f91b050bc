/- The document's list of operators and the two maps hold the same: what Turn and Set do to each keeps it so. -/
import Derived.Test.YtoobbkckpabamaaDoorTurnI
import Derived.Test.YtoobbkckpabamaaDoorTurnH
namespace Go.Proofs.YtoobbkckpabamaaDoor
open Go Go.RowKit Go.Maps Go.WideShapes
theorem lay_sorted {l : List Opr} {o : Opr} {i : Nat} (hs : Sorted l) (hf : Fits l o i) (hk : ∀ t ∈ l, keyB o.2.2 (frontB o.2.1) t = false) : Sorted (l.take i ++ o :: l.drop i) := by
  obtain ⟨hi, hb, he⟩ := hf
  have hall : (l.take i ++ l.drop i).Pairwise fun a b => lessB a b = true := by rw [List.take_append_drop]; exact hs
  rw [List.pairwise_append] at hall
  have hdrop : ∀ b ∈ l.drop i, lessB o b = true := by
    intro b hbm
    rcases he with he | he
    · rw [he, List.drop_length] at hbm; cases hbm
    · by_cases hil : i < l.length
      · have h0 := he hil
        have h1 := less_total (hk _ (List.getElem_mem hil)) h0
        rw [List.drop_eq_getElem_cons hil] at hbm
        rcases List.mem_cons.1 hbm with rfl | hbm
        · exact h1
        · have h2 := hall.2.1
          rw [List.drop_eq_getElem_cons hil, List.pairwise_cons] at h2
          exact less_trans h1 (h2.1 b hbm)
      · rw [List.drop_eq_nil_of_le (by omega)] at hbm; cases hbm
  have htake : ∀ a ∈ l.take i, lessB a o = true := by
    intro a ham
    obtain ⟨j, hj, rfl⟩ := List.mem_iff_getElem.1 ham
    rw [List.length_take] at hj
    rw [List.getElem_take]
    exact hb j (by omega) (by omega)
  show List.Pairwise _ _
  rw [List.pairwise_append]
  refine ⟨hall.1, List.pairwise_cons.2 ⟨hdrop, hall.2.1⟩, fun a ha b hb' => ?_⟩
  rcases List.mem_cons.1 hb' with rfl | hb'
  · exact htake a ha
  · exact hall.2.2 a ha b hb'
theorem lay_perm (l : List Opr) (o : Opr) (i : Nat) : (l.take i ++ o :: l.drop i).Perm (o :: l) := by
  refine (List.perm_middle).trans ?_
  rw [List.take_append_drop]
/-- how an operator stands in a map -/
def entry (t : Opr) : Lit × DataW Unit := (.string t.2.2.data.toList, opD t.1 (numI t.2.1))
def isF (t : Opr) : Bool := frontB t.2.1
def notF (t : Opr) : Bool := !frontB t.2.1
structure Corr (ts : List Opr) (D1 D2 : DataW Unit) : Prop where
  sorted : Sorted ts
  fine : ∀ t ∈ ts, 1 ≤ t.1 ∧ t.1 ≤ 1200 ∧ kindB t.2.1 = true ∧ t.2.2.size ≤ 40
  d1 : ∃ es, D1 = .map es ∧ es.Perm ((ts.filter isF).map entry)
  d2 : ∃ es, D2 = .map es ∧ es.Perm ((ts.filter notF).map entry)
theorem Corr.size {ts : List Opr} {D1 D2 : DataW Unit} (h : Corr ts D1 D2) : Maps.size D1 + Maps.size D2 = ts.length := by
  obtain ⟨e1, rfl, p1⟩ := h.d1
  obtain ⟨e2, rfl, p2⟩ := h.d2
  rw [size_eq, size_eq, p1.length_eq, p2.length_eq, List.length_map, List.length_map]
  have : ∀ l : List Opr, (l.filter isF).length + (l.filter notF).length = l.length := by
    intro l
    induction l with
    | nil => rfl
    | cons t l ih =>
      cases ht : frontB t.2.1
      · simp only [List.filter_cons, isF, notF, ht, Bool.not_false, if_true, Bool.false_eq_true, if_false, List.length_cons] at ih ⊢
        omega
      · simp only [List.filter_cons, isF, notF, ht, Bool.not_true, if_true, Bool.false_eq_true, if_false, List.length_cons] at ih ⊢
        omega
  exact this ts
theorem same_str (a b : List UInt8) : (Lit.string a).sameKey (.string b) = (a == b) := by
  by_cases h : a = b
  · subst h; simp [Lit.sameKey]
  · rw [sameKey_ne (by simpa using h)]
    symm; simpa using h
theorem same_name (t : Opr) (n : ByteArray) : (entry t).1.sameKey (.string n.data.toList) = (t.2.2.toList == n.toList) := by
  show (Lit.string _).sameKey _ = _
  rw [same_str, ByteArray.toList_eq, ByteArray.toList_eq]
theorem inF_num {k : ByteArray} (h : kindB k = true) : inF (numI k) = frontB k := by
  rw [kindB_iff] at h
  rcases h with h | h | h | h | h | h | h <;> simp [numI, frontB, inF, h]
theorem has_perm {es : List (Lit × DataW Unit)} {l : List Opr} (p : es.Perm (l.map entry)) (n : ByteArray) : Maps.has (.map es) (.string n.data.toList) = l.any fun t => t.2.2.toList == n.toList := by
  rw [has_eq]
  rw [Bool.eq_iff_iff, List.any_eq_true, List.any_eq_true]
  constructor
  · rintro ⟨x, hx, hk⟩
    obtain ⟨t, ht, rfl⟩ := List.mem_map.1 (p.mem_iff.1 hx)
    exact ⟨t, ht, by rw [← same_name]; exact hk⟩
  · rintro ⟨t, ht, hk⟩
    exact ⟨entry t, p.mem_iff.2 (List.mem_map_of_mem ht), by rw [same_name]; exact hk⟩
theorem any_find (ts : List Opr) (n : ByteArray) (fr : Bool) : (findAt ts n fr).isSome = ts.any (keyB n fr) := by
  rw [findAt_key, List.findIdx?_isSome]
theorem Corr.has {ts : List Opr} {D1 D2 : DataW Unit} (h : Corr ts D1 D2) {k : ByteArray} (hk : kindB k = true) (n : ByteArray) : Maps.has (pickD (numI k) D1 D2) (.string n.data.toList) = (findAt ts n (frontB k)).isSome := by
  rw [any_find]
  unfold pickD
  rw [inF_num hk]
  cases hf : frontB k
  · obtain ⟨es, rfl, p⟩ := h.d2
    simp only [Bool.false_eq_true, if_false]
    rw [has_perm p, List.any_filter]
    congr 1
    funext t
    unfold keyB notF
    cases frontB t.2.1 <;> simp
  · obtain ⟨es, rfl, p⟩ := h.d1
    simp only [if_true]
    rw [has_perm p, List.any_filter]
    congr 1
    funext t
    unfold keyB isF
    cases frontB t.2.1 <;> simp
end Go.Proofs.YtoobbkckpabamaaDoor
