/- What ranging over a map of operators collects, whatever the order; and that sorting it gives the document's list. -/
import Derived.Test.YtoobbkckpabamaaDoorSortK
import Derived.Sort.KeysCollected
namespace Go.Proofs.YtoobbkckpabamaaDoor
open Go Go.RowKit Go.Lib Go.Sort Go.Shelf Go.Maps
/-- what has been met so far: no operator twice; one of l is there just where its entry is no longer to come -/
def Coll (l : List Opr) (left : Lit → Bool) (L : List Opr) : Prop := L.Nodup ∧ ∀ t, t ∈ L ↔ (t ∈ l ∧ left (.string t.2.2.data.toList) = false)
theorem Coll.start {es : List (Lit × DataW Unit)} {l : List Opr} (p : es.Perm (l.map entry)) : Coll l (Maps.has (.map es)) [] := by
  refine ⟨List.nodup_nil, fun t => ⟨fun h => by (cases h), fun h => ?_⟩⟩
  have hh := has_perm p t.2.2
  rw [h.2] at hh
  have : l.any (fun u => u.2.2.toList == t.2.2.toList) = true := List.any_eq_true.2 ⟨t, h.1, by simp⟩
  rw [← hh] at this
  cases this
theorem find_at {es : List (Lit × DataW Unit)} {kl : Lit} {y : DataW Unit} (hy : ∀ es', y ≠ .map es') (hat : ∀ zd, (DataW.map es).atKey kl zd = y) : ∃ q ∈ es, q.1.sameKey kl = true ∧ q.2 = y := by
  unfold DataW.atKey at hat
  cases hf : es.find? (fun p => p.1.sameKey kl) with
  | none =>
    simp only [hf] at hat
    exact absurd (hat (.map [])).symm (hy [])
  | some q =>
    simp only [hf] at hat
    exact ⟨q, List.mem_of_find?_eq_some hf, by have := List.find?_some hf; simpa using this, hat (.map [])⟩
theorem byte_ext {a : ByteArray} {x : List UInt8} (h : a.data.toList = x) : a = ⟨x.toArray⟩ := by
  subst h
  apply ByteArray.ext
  simp
theorem Coll.step {es : List (Lit × DataW Unit)} {l L : List Opr} {left : Lit → Bool} {x : List UInt8} {p k : Int} (hC : Coll l left L) (hp : es.Perm (l.map entry)) (hN : ∀ a ∈ l, ∀ b ∈ l, a.2.2.toList = b.2.2.toList → a = b)
    (hlk : left (.string x) = true) (hat : ∀ zd, (DataW.map es).atKey (.string x) zd = opD p k) :
    ∃ t ∈ l, t.2.2 = ⟨x.toArray⟩ ∧ t.1 = p ∧ numI t.2.1 = k ∧ Coll l (fun z => left z && !z.sameKey (.string x)) (L ++ [t]) := by
  obtain ⟨q, hq, hs, hy⟩ := find_at (fun es' h => by cases h) hat
  obtain ⟨t, ht, rfl⟩ := List.mem_map.1 (hp.mem_iff.1 hq)
  have hx : t.2.2.data.toList = x := by
    have : (Lit.string t.2.2.data.toList).sameKey (.string x) = true := hs
    rw [same_str] at this
    exact eq_of_beq this
  have hy' : opD t.1 (numI t.2.1) = opD p k := hy
  have h12 : t.1 = p ∧ numI t.2.1 = k := by
    unfold opD at hy'
    injection hy' with h
    injection h with h1 h2
    injection h2 with h2 _
    injection h1 with h1
    injection h2 with h2
    injection h1 with _ h1
    injection h2 with _ h2
    exact ⟨h1, h2⟩
  refine ⟨t, ht, byte_ext hx, h12.1, h12.2, ?_, fun u => ?_⟩
  · have hnew : t ∉ L := fun hm => by
      have := ((hC.2 t).1 hm).2
      rw [hx, hlk] at this; cases this
    exact List.nodup_append.2 ⟨hC.1, by simp, fun a ha b hb => by simp at hb; subst hb; exact fun e => hnew (e ▸ ha)⟩
  · show _ ↔ (u ∈ l ∧ (left (.string u.2.2.data.toList) && !(Lit.string u.2.2.data.toList).sameKey (.string x)) = false)
    rw [List.mem_append, List.mem_singleton, hC.2 u, same_str]
    constructor
    · rintro (⟨h1, h2⟩ | rfl)
      · exact ⟨h1, by rw [h2]; rfl⟩
      · exact ⟨ht, by rw [hx]; simp⟩
    · rintro ⟨h1, h2⟩
      by_cases hu : u.2.2.data.toList = x
      · refine Or.inr (hN u h1 t ht ?_)
        rw [ByteArray.toList_eq, ByteArray.toList_eq, hu, hx]
      · have hne : (u.2.2.data.toList == x) = false := by simpa using hu
        rw [hne] at h2
        exact Or.inl ⟨h1, by simpa using h2⟩
theorem Coll.perm {l L : List Opr} {left : Lit → Bool} (hC : Coll l left L) (hn : l.Nodup) (h0 : ∀ kl, left kl = false) : L.Perm l :=
  (List.perm_ext_iff_of_nodup hC.1 hn).2 fun t => by rw [hC.2 t, h0]; simp
theorem sorted_nodup {ts : List Opr} (h : Sorted ts) : ts.Nodup := h.imp fun {a b} hab e => by
  subst e; rw [less_irrefl] at hab; cases hab
theorem sorted_lt {ts : List Opr} (h : Sorted ts) : ∀ a ∈ ts, ∀ b ∈ ts, a = b ∨ lessB a b = true ∨ lessB b a = true := by
  induction ts with
  | nil => intro a ha; cases ha
  | cons t ts ih =>
    rw [Sorted, List.pairwise_cons] at h
    intro a ha b hb
    rcases List.mem_cons.1 ha with h1 | h1 <;> rcases List.mem_cons.1 hb with h2 | h2
    · exact Or.inl (h1.trans h2.symm)
    · rw [h1]; exact Or.inr (Or.inl (h.1 b h2))
    · rw [h2]; exact Or.inr (Or.inr (h.1 a h1))
    · exact ih h.2 a h1 b h2
theorem names_of {ts : List Opr} (h : Sorted ts) (f : Opr → Bool) (hf : ∀ a b, f a = true → f b = true → frontB a.2.1 = frontB b.2.1) : ∀ a ∈ ts.filter f, ∀ b ∈ ts.filter f, a.2.2.toList = b.2.2.toList → a = b := by
  intro a ha b hb e
  obtain ⟨ha1, ha2⟩ := List.mem_filter.1 ha
  obtain ⟨hb1, hb2⟩ := List.mem_filter.1 hb
  have hfr := hf a b ha2 hb2
  rcases sorted_lt h a ha1 b hb1 with h | h | h
  · exact h
  · rw [less_iff] at h
    rcases h with h | ⟨_, h1, h2⟩
    · rw [e, bl_irrefl] at h; cases h
    · rw [hfr, h2] at h1; cases h1
  · rw [less_iff] at h
    rcases h with h | ⟨_, h1, h2⟩
    · rw [e, bl_irrefl] at h; cases h
    · rw [← hfr, h2] at h1; cases h1
/-- what was collected, sorted, is the document's list -/
theorem sorted_same {ts L1 L2 L' : List Opr} (h : Sorted ts) (h1 : L1.Perm (ts.filter isF)) (h2 : L2.Perm (ts.filter notF)) (hp : L'.Perm (L1 ++ L2)) (hs : L'.Pairwise fun a b => lessB b a = false) : L' = ts := by
  have hall : L'.Perm ts := (hp.trans (h1.append h2)).trans (List.filter_append_perm isF ts)
  refine List.Perm.eq_of_pairwise (le := fun a b => lessB b a = false) (fun a b ha hb h3 h4 => ?_) hs (h.imp fun {a b} hab => ?_) hall
  · rcases sorted_lt h a (hall.mem_iff.1 ha) b hb with h5 | h5 | h5
    · exact h5
    · rw [h5] at h4; cases h4
    · rw [h5] at h3; cases h3
  · cases hba : lessB b a with
    | false => rfl
    | true =>
      have := less_trans hab hba
      rw [less_irrefl] at this; cases this
/-- the ones in front stand ahead: so names alone serve -/
theorem ok_two {L1 L2 : List Opr} (h1 : ∀ t ∈ L1, frontB t.2.1 = true) (h2 : ∀ t ∈ L2, frontB t.2.1 = false) : OkIn (ltOf cmpN) lessB 0 (L1 ++ L2).length (L1 ++ L2).toArray := by
  intro i j _ hij hj hl
  have hi : i < (L1 ++ L2).length := by omega
  have ei : (L1 ++ L2).toArray[i]! = (L1 ++ L2)[i] := by rw [getElem!_pos _ i (by simpa using hi)]; simp
  have ej : (L1 ++ L2).toArray[j]! = (L1 ++ L2)[j] := by rw [getElem!_pos _ j (by simpa using hj)]; simp
  rw [ei, ej] at hl ⊢
  rw [ltN]
  rw [less_iff] at hl
  rcases hl with h | ⟨_, hx, hy⟩
  · exact h
  · exfalso
    by_cases hi1 : i < L1.length
    · rw [List.getElem_append_left hi1, h1 _ (List.getElem_mem _)] at hy
      cases hy
    · rw [List.getElem_append_right (by omega), h2 _ (List.getElem_mem _)] at hx
      cases hx
theorem kn_num {k : ByteArray} (h : kindB k = true) : ∃ i : Nat, i < 7 ∧ numI k = i ∧ kn i = k := by
  rw [kindB_iff] at h
  have e : ∀ l, k.toList = l → k = bs l := fun l hl => by
    rw [ByteArray.toList_eq] at hl
    exact byte_ext hl
  rcases h with h | h | h | h | h | h | h
  · exact ⟨0, by omega, by simp [numI, h], (e _ h).symm⟩
  · exact ⟨1, by omega, by simp [numI, h], (e _ h).symm⟩
  · exact ⟨2, by omega, by simp [numI, h], (e _ h).symm⟩
  · exact ⟨3, by omega, by simp [numI, h], (e _ h).symm⟩
  · exact ⟨4, by omega, by simp [numI, h], (e _ h).symm⟩
  · exact ⟨5, by omega, by simp [numI, h], (e _ h).symm⟩
  · exact ⟨6, by omega, by simp [numI, h], (e _ h).symm⟩
end Go.Proofs.YtoobbkckpabamaaDoor
