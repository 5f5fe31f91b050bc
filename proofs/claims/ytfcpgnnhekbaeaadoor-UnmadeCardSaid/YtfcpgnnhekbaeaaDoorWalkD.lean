/- The document's own Session (package creedref): Turn lays a new operator; New makes the Session. -/
import Derived.Test.YtfcpgnnhekbaeaaDoorWalkC2
namespace Go.Proofs.YtfcpgnnhekbaeaaDoor
open Go Go.RowKit
set_option maxRecDepth 100000 in
set_option maxHeartbeats 4000000 in
theorem turn_new (sb : Nat) (v : Value) (ts : List Opr) (o : Opr) (w : World) (hc : w.cell? ⟨sb, 0, none⟩ = some v) (hf : w.frozen? ⟨sb, 0, none⟩ = false) (hown : w.ownsRow (sb + 1) 79 3 v ts.length (flat ts))
    (hl : ts.length < 90) (hp : 0 < o.1) (hp2 : o.1 ≤ 1200) (hK : ∀ w, Calls Tryd.prog 37 #[.string o.2.1] w fun e w' => e = .returned (.bool true) ∧ w' = w)
    (hN : ∀ w, Calls Tryd.prog 38 #[.string o.2.2] w fun e w' => e = .returned (.bool true) ∧ w' = w) (n1 : ¬ o.2.2.toList = []) (n2 : ¬ o.2.2.toList = [44]) (n3 : ¬ o.2.2.toList = [124]) (n4 : ¬ o.2.2.toList = [91, 93]) (n5 : ¬ o.2.2.toList = [123, 125])
    (hno : ∀ t ∈ ts, ¬ (t.2.2.toList = o.2.2.toList ∧ frontB t.2.1 = frontB o.2.1)) :
    Calls Tryd.prog 29 #[.pointer (some ⟨sb, 0, none⟩), .int .i64 o.1, .string o.2.1, .string o.2.2] w fun e w' => e = .returned (.int .i64 0) ∧ PutPost sb ts o w w' := by
  have d1 : ¬ o.1 < 0 := by omega
  have d2 : ¬ 1200 < o.1 := by omega
  have e1 : o.2.2.toList.isEmpty = false := by simpa using n1
  have e2 : (o.2.2.toList == [44]) = false := by simpa using n2
  have e3 : (o.2.2.toList == [124]) = false := by simpa using n3
  have e4 : (o.2.2.toList == [91, 93]) = false := by simpa using n4
  have e5 : (o.2.2.toList == [123, 125]) = false := by simpa using n5
  have hv0 : (v = .slice none 0 0 ∧ ts.length = 0) ∨ ∃ g cap, v = .slice (some ⟨g, 0, none⟩) ts.length cap := by
    rcases hown.2 with ⟨hv, hn⟩ | ⟨g, cap, cur, hv, _⟩
    · exact Or.inl ⟨hv, hn⟩
    · exact Or.inr ⟨g, cap, hv⟩
  rcases hv0 with ⟨hv, hn⟩ | ⟨g, cap, hv⟩
  all_goals
    subst hv
    go_enter Tryd.func29, Tryd.ntmps29
    go_wp2_with (first
      | (go_at_call 37; refine (hK _).mono ?_; rintro e w' ⟨rfl, rfl⟩)
      | (go_at_call 38; refine (hN _).mono ?_; rintro e w' ⟨rfl, rfl⟩)
      | (go_at_call 40; refine (front_any _ _).mono ?_; rintro e w' ⟨rfl, rfl⟩)
      | (go_at_call 39; refine (find_no sb _ ts _ _ _ hc hown (by omega) hno).mono ?_; rintro e w' ⟨rfl, rfl⟩)
      | (go_at_call 30; refine (put_any sb _ ts o _ hc hf hown (by omega)).mono ?_; rintro e w2 ⟨rfl, hP⟩))
    go_ret
    exact ⟨rfl, hP⟩

/-- what a Session under way has: its list is its own, of no more than n operators, each of them among these -/
def Has (sb : Nat) (w : World) (n : Nat) (l : List Opr) : Prop :=
  ∃ v ts, w.cell? ⟨sb, 0, none⟩ = some v ∧ w.frozen? ⟨sb, 0, none⟩ = false ∧ w.ownsRow (sb + 1) 79 3 v ts.length (flat ts) ∧ ts.length = n ∧ ∀ t ∈ ts, t ∈ l
theorem Has.next {sb : Nat} {w w' : World} {ts : List Opr} {o : Opr} {n : Nat} {l : List Opr} (h : PutPost sb ts o w w') (hn : ts.length = n) (hm : ∀ t ∈ ts, t ∈ l) : Has sb w' (n + 1) (o :: l) ∧ Below sb w w' := by
  obtain ⟨k, hk, v', hc, hf, ho, hb⟩ := h
  refine ⟨⟨v', ts.take k ++ o :: ts.drop k, hc, hf, ?_, ?_, ?_⟩, hb⟩
  · have hl : (ts.take k ++ o :: ts.drop k).length = ts.length + 1 := by
      have := hk.1
      simp only [List.length_append, List.length_take, List.length_cons, List.length_drop]; omega
    rw [hl]; exact ho
  · have := hk.1
    simp only [List.length_append, List.length_take, List.length_cons, List.length_drop]; omega
  · intro t ht
    simp only [List.mem_append, List.mem_cons] at ht
    rcases ht with ht | rfl | ht
    · exact List.mem_cons_of_mem _ (hm t (List.mem_of_mem_take ht))
    · exact List.mem_cons_self ..
    · exact List.mem_cons_of_mem _ (hm t (List.mem_of_mem_drop ht))
theorem turn_has (sb n : Nat) (l : List Opr) (o : Opr) (w : World) (h : Has sb w n l) (hl : n < 90) (hp : 0 < o.1) (hp2 : o.1 ≤ 1200) (hK : ∀ w, Calls Tryd.prog 37 #[.string o.2.1] w fun e w' => e = .returned (.bool true) ∧ w' = w)
    (hN : ∀ w, Calls Tryd.prog 38 #[.string o.2.2] w fun e w' => e = .returned (.bool true) ∧ w' = w) (n1 : ¬ o.2.2.toList = []) (n2 : ¬ o.2.2.toList = [44]) (n3 : ¬ o.2.2.toList = [124]) (n4 : ¬ o.2.2.toList = [91, 93]) (n5 : ¬ o.2.2.toList = [123, 125])
    (hno : ∀ t ∈ l, ¬ (t.2.2.toList = o.2.2.toList ∧ frontB t.2.1 = frontB o.2.1)) :
    Calls Tryd.prog 29 #[.pointer (some ⟨sb, 0, none⟩), .int .i64 o.1, .string o.2.1, .string o.2.2] w fun e w' => e = .returned (.int .i64 0) ∧ Has sb w' (n + 1) (o :: l) ∧ Below sb w w' := by
  obtain ⟨v, ts, hc, hf, hown, hn, hm⟩ := h
  exact (turn_new sb v ts o w hc hf hown (by omega) hp hp2 hK hN n1 n2 n3 n4 n5 (fun t ht => hno t (hm t ht))).mono fun e w' ⟨he, hP⟩ => ⟨he, Has.next hP hn hm⟩
end Go.Proofs.YtfcpgnnhekbaeaaDoor
