/- The operators' Table (package operators): how an operator is told. Under: the table of types' names holds what the program lays. -/
import Derived.Test.YtoobbkckpabamaaDoorSortJ
import Derived.Test.YtoobbkckpabamaaDoorTurnL
namespace Go.Proofs.YtoobbkckpabamaaDoor
open Go Go.RowKit Go.Lib Go.Sort Go.Shelf Go.Maps
theorem kind_at {w : World} (h : Kinds w) (k : Nat) (hk : k < 7) : w.cell? ⟨1, k, none⟩ = some (.string (kn k)) := by
  match k, hk with
  | 0, _ => exact h.k0
  | 1, _ => exact h.k1
  | 2, _ => exact h.k2
  | 3, _ => exact h.k3
  | 4, _ => exact h.k4
  | 5, _ => exact h.k5
  | 6, _ => exact h.k6
set_option maxRecDepth 100000 in
theorem told_any (p : Int) (k : Nat) (nm : ByteArray) (w : World) (h : Kinds w) (hk : k < 7) :
    Calls Tryd.prog 46 #[.agg #[.int .i64 p, .int .u8 k], .string nm] w fun e w' => e = .returned (.agg #[.int .i64 p, .string (kn k), .string nm]) ∧ Below w.heap.size w w' := by
  have hc := kind_at h k hk
  generalize kn k = s at hc ⊢
  have ka : ((k : Int)).toNat = k := by omega
  have kb : (0 : Int) ≤ (k : Int) := by omega
  have kc : (k : Int) < 7 := by omega
  have hcA : ∀ o o', ((w.alloc o).alloc o').drew.cell? ⟨1, k, none⟩ = some (.string s) := fun o o' => keep ((((Below.refl w.heap.size w).alloc (Nat.le_refl _) o).alloc (by simp) o').drew) hc
  clear h
  have mixed : Tryd.prog.follows .mixedOrders = true := by kernel_rfl
  go_enter Tryd.func46, Tryd.ntmps46
  go_wp2_with fail
  go_big_region_o
  all_goals go_wp2
  exact bodyPost_ret_by (by simp [results, Tryd.results46, go_sem]) rfl ⟨rfl, (((Below.refl _ _).alloc (Nat.le_refl _) _).alloc (by simp) _).drew⟩
/-! ### the sort in append's words -/
theorem flatK_flat (L : List Opr) : flatK cellsOp 3 L.toArray = (flat L).toArray := by
  apply Array.ext
  · simp [flat_length]
  · intro t h1 h2
    simp only [size_flatK, List.size_toArray] at h1
    have hq : t / 3 < L.length := by omega
    have e1 : (flatK cellsOp 3 L.toArray)[t]! = (cellsOp L.toArray[t / 3]!)[t % 3]! := get_flatK _ _ _ _ (by simpa using h1)
    rw [getElem!_pos _ t (by simpa using h1)] at e1
    rw [e1]
    obtain ⟨f0, f1, f2⟩ := flat_get L (t / 3) hq
    have hr : t % 3 = 0 ∨ t % 3 = 1 ∨ t % 3 = 2 := by omega
    have hx : L.toArray[t / 3]! = L[t / 3] := by simp [hq]
    rw [hx]
    simp only [List.getElem_toArray]
    rcases hr with hr | hr | hr
    · have ht : t = t / 3 * 3 := by omega
      rw [hr]
      rw [← ht] at f0
      rw [List.getElem?_eq_some_iff] at f0
      obtain ⟨_, f0⟩ := f0
      rw [f0]; rfl
    · have ht : t = t / 3 * 3 + 1 := by omega
      rw [hr]
      rw [← ht] at f1
      rw [List.getElem?_eq_some_iff] at f1
      obtain ⟨_, f1⟩ := f1
      rw [f1]; rfl
    · have ht : t = t / 3 * 3 + 2 := by omega
      rw [hr]
      rw [← ht] at f2
      rw [List.getElem?_eq_some_iff] at f2
      obtain ⟨_, f2⟩ := f2
      rw [f2]; rfl
theorem holds_of_own {w : World} {g n : Nat} {cur : Array Value} {e : TypeId} {xs : List Value} (hb : w.heap[g]? = some (.cells cur e (0, 0))) (ht : cur.toList.take n = xs) (hx : xs.length = n) : Holds id w g 0 xs.toArray := by
  intro j hj
  have hj' : j < xs.length := by simpa using hj
  refine ⟨?_, by simp [World.frozen?, hb]⟩
  have h1 : (cur.toList.take n)[j]? = xs[j]? := by rw [ht]
  rw [List.getElem?_take_of_lt (by omega)] at h1
  simp only [World.cell?, hb, Nat.zero_add]
  simp only [Option.isSome_none, Bool.false_eq_true, if_false]
  rw [← Array.getElem?_toList, h1]
  simp [hj']
theorem heap_put {w : World} {g n : Nat} {os : Array Obj} {cur : Array Value} {e : TypeId} {fr : Nat × Nat} (F : Array Value) (hb : w.heap[g]? = some (.cells cur e fr)) :
    (grow (putRow id (Sort.ahead w n) g 0 F) os).heap[g]? = some (.cells (putCells id 0 F cur) e fr) := by
  have hg : g < w.heap.size := (Array.getElem?_eq_some_iff.1 hb).1
  rw [heap_grow_old _ _ (by simpa using hg)]
  simp [putRow, mapBlock, Sort.ahead, Array.getElem?_modify, hb, onCells]
theorem grown_put {w : World} {g n : Nat} {os : Array Obj} (F : Array Value) : w.grownBy (grow (putRow id (Sort.ahead w n) g 0 F) os) (some g) := by
  refine ⟨rfl, rfl, rfl, by simp, fun k hk hne => ?_⟩
  rw [heap_grow_old _ _ (by simpa using hk)]
  have : g ≠ k := fun e => hne (by rw [e])
  simp [putRow, mapBlock, Sort.ahead, Array.getElem?_modify, this]
theorem take_put (cur : Array Value) (xs : List Value) (h : xs.length ≤ cur.size) : (putCells id 0 xs.toArray cur).toList.take xs.length = xs := by
  apply List.ext_getElem?
  intro j
  by_cases hj : j < xs.length
  · rw [List.getElem?_take_of_lt hj, Array.getElem?_toList]
    simp [putCells, hj, show j < cur.size by omega]
  · rw [List.getElem?_take_eq_none (by omega), List.getElem?_eq_none (by omega)]
theorem sortOps_any (base g cap : Nat) (L : List Opr) (w : World) (hown : w.ownsRow base 94 3 (.slice (some ⟨g, 0, none⟩) L.length cap) L.length (flat L)) (hsz : L.length < 1099511627776) (hO : OkIn (ltOf cmpN) lessB 0 L.length L.toArray) :
    Calls Tryd.prog 47 #[.slice (some ⟨g, 0, none⟩) L.length cap, .func (.func 48) #[] #[]] w fun e w' => e = .returned (.tuple #[]) ∧
      ∃ L', L'.Perm L ∧ (L'.Pairwise fun a b => lessB b a = false) ∧ w'.ownsRow base 94 3 (.slice (some ⟨g, 0, none⟩) L.length cap) L.length (flat L') ∧ w.grownBy w' (some g) := by
  rcases hown.2 with ⟨h0, _⟩ | ⟨g', cap', cur, hv, hbg, hb, h1, h2, h3, h4⟩
  · cases h0
  cases hv
  have hgl : g < w.heap.size := (Array.getElem?_eq_some_iff.1 hb).1
  have hH : HoldsK cellsOp 3 w g 0 L.toArray := by
    unfold HoldsK
    rw [flatK_flat]
    exact holds_of_own hb h4 (flat_length L)
  have R : RowK cellsOp 3 w g 0 L.toArray := ⟨fun _ => rfl, one_op, hH, hgl⟩
  have hn : L.toArray.size = L.length := by simp
  refine (sortStable_any stP cellsOp cmpN lessB finer_less 48 #[] g 0 cap L.length L.toArray w w eg48 (cmpLays_any _ _ _ _) R (SWK.start hH) hn hsz eg78 (insC g 0 cap L.length L.toArray w R hn hsz) hO).mono ?_
  rintro e w' ⟨rfl, d', ⟨m, os, rfl⟩, hp, hs⟩
  have hz : d'.size = L.length := by rw [hp.1]; simp
  have hd : d' = d'.toList.toArray := by simp
  refine ⟨rfl, d'.toList, ?_, ?_, ?_, ?_⟩
  · have := hp.2.2
    rw [Array.toList_extract, Array.toList_extract] at this
    simpa [List.extract_eq_take_drop, hz, List.take_of_length_le] using this
  · rw [List.pairwise_iff_getElem]
    intro i j hi hj hij
    have := hs i j (Nat.zero_le _) hij (by simpa [hz] using hj)
    rw [getElem!_pos d' i (by simpa using hi), getElem!_pos d' j (by simpa using hj)] at this
    exact this
  · unfold sortWorldK putRowK
    rw [hd, flatK_flat]
    have hl : (flat d'.toList).length = L.length * 3 := by rw [flat_length]; simp [hz]
    refine ⟨by simpa using hl, Or.inr ⟨g, cap, _, rfl, hbg, heap_put _ hb, h1, h2, by simp [putCells, h3], ?_⟩⟩
    dsimp only
    rw [← hl]
    exact take_put cur _ (by rw [hl, h3]; omega)
  · exact grown_put _
end Go.Proofs.YtoobbkckpabamaaDoor
