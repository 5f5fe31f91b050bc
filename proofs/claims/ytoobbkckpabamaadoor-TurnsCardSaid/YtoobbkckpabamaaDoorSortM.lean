/- The operators' Table (package operators): All tells the document's list. Under: the table of types' names holds what the program lays. -/
import Derived.Test.YtoobbkckpabamaaDoorSortL
import Derived.Test.YtoobbkckpabamaaDoorTurnO
import Derived.Maps.RangeWalk
import Derived.Sort.OwnSorted
import Derived.Laws.MakeOwn
import Derived.BigRegion
namespace Go.Proofs.YtoobbkckpabamaaDoor
open Go Go.RowKit Go.Lib Go.Sort Go.Shelf Go.Maps
theorem flat_snoc (L : List Opr) (t : Opr) : flat L ++ cellsOp t = flat (L ++ [t]) := by simp [flat]
theorem own_snoc {w : World} {B : Nat} {v : Value} {L : List Opr} {t : Opr} (h : w.ownsRow B 94 3 v (L.length + 1) (flat L ++ cellsOp t)) : w.ownsRow B 94 3 v (L ++ [t]).length (flat (L ++ [t])) := by
  rw [flat_snoc] at h
  simpa using h
theorem madeRow (W : World) (n : Nat) (M : Array Value) (hM : M.size = n * 3) (hn : n ≤ maxLen) : (W.alloc (.cells M 94)).ownsRow W.heap.size 94 3 (.slice (some ⟨W.heap.size, 0, none⟩) 0 n) 0 [] :=
  ⟨rfl, Or.inr ⟨W.heap.size, n, M, rfl, Nat.le_refl _, heap_alloc_new W _, Nat.zero_le _, hn, hM, by simp⟩⟩
def mkV (pk : Int × Int) : Value := .agg #[.int .i64 pk.1, .int .u8 pk.2]
set_option maxRecDepth 100000 in
set_option maxHeartbeats 8000000 in
theorem all_any (B tb m1 m2 : Nat) (ts : List Opr) (D1 D2 : DataW Unit) (w : World) (h : Tab w B tb m1 m2 (Maps.size D1) (Maps.size D2) D1 D2) (hC : Corr ts D1 D2) (hl : ts.length ≤ 100) (hK : Kinds w) :
    Calls Tryd.prog 30 #[.pointer (some ⟨tb, 0, none⟩)] w fun e w' => ∃ g cap, e = .returned (.slice (some ⟨g, 0, none⟩) ts.length cap) ∧ w'.ownsRow w.heap.size 94 3 (.slice (some ⟨g, 0, none⟩) ts.length cap) ts.length (flat ts) ∧ Below w.heap.size w w' := by
  have mixed : Tryd.prog.follows .mixedOrders = true := by kernel_rfl
  obtain ⟨i0, hi, hz0, hz1, hz2⟩ := info_parts info86
  have hsize := hC.size
  have c1 := h.c1
  have c2 := h.c2
  obtain ⟨lt0, lt1, lt2⟩ := h.ends
  have l1 : ∀ ty, (Builtin.len_ #[102] ty #[.map (some m1)]).run Tryd.prog w.drew = .ok (.int .i64 (Maps.size D1)) w.drew := fun ty => World.ownsMap.len (w := w.drew) h.o1 Tryd.underlying102 ty
  have l2 : ∀ ty, (Builtin.len_ #[102] ty #[.map (some m2)]).run Tryd.prog w.drew = .ok (.int .i64 (Maps.size D2)) w.drew := fun ty => World.ownsMap.len (w := w.drew) h.o2 Tryd.underlying102 ty
  have hsum : ((Maps.size D1 : Nat) : Int) + ((Maps.size D2 : Nat) : Int) = (ts.length : Int) := by omega
  have hwr : IntKind.i64.wrap (((Maps.size D1 : Nat) : Int) + ((Maps.size D2 : Nat) : Int)) = (ts.length : Int) := by rw [IntKind.wrap_i64]; omega
  have hwr2 : IntKind.i64.wrap (ts.length : Int) = (ts.length : Int) := by rw [IntKind.wrap_i64]; omega
  obtain ⟨M, hM⟩ : ∃ M, M = madeCells (Value.agg #[.int .i64 0, .string .empty, .string .empty]).cells (((ts.length : Nat) : Int).toNat * i0.size) := ⟨_, rfl⟩
  have hMs : M.size = ts.length * 3 := by rw [hM, size_madeCells, hz1]; simp
  have hmk : ∀ W : World, (Instr.makeSlice 55 (.int .i64 0) (.int .i64 (ts.length : Int))).run Tryd.prog W = .ok (.slice (some ⟨W.heap.size, 0, none⟩) 0 ts.length) (W.alloc (.cells M 94)) := fun W => by
    have h := run_make (P := Tryd.prog) W 55 94 i0 _ Tryd.underlying55 hi hz0 .i64 .i64 0 (ts.length : Int) (by omega) (by omega) (by rw [hz2]; omega) (by omega)
    rw [← hM] at h
    simpa using h
  clear hM
  go_enter Tryd.func30, Tryd.ntmps30
  go_wp2_with fail
  go_big_region_o
  obtain ⟨es1, hD1, p1⟩ := hC.d1
  obtain ⟨es2, hD2, p2⟩ := hC.d2
  have N1 : Aside (∀ a ∈ ts.filter isF, ∀ b ∈ ts.filter isF, a.2.2.toList = b.2.2.toList → a = b) := names_of hC.sorted isF (fun a b h1 h2 => by unfold isF at h1 h2; rw [h1, h2])
  have N2 : Aside (∀ a ∈ ts.filter notF, ∀ b ∈ ts.filter notF, a.2.2.toList = b.2.2.toList → a = b) := names_of hC.sorted notF (fun a b h1 h2 => by unfold notF at h1 h2; simp only [Bool.not_eq_true'] at h1 h2; rw [h1, h2])
  have P1 : Aside (D1 = .map es1 ∧ es1.Perm ((ts.filter isF).map entry)) := ⟨hD1, p1⟩
  have P2 : Aside (D2 = .map es2 ∧ es2.Perm ((ts.filter notF).map entry)) := ⟨hD2, p2⟩
  have HC : Aside (Corr ts D1 D2) := hC
  have HT : Aside (Tab w B tb m1 m2 (Maps.size D1) (Maps.size D2) D1 D2) := h
  have z1 : Maps.size D1 ≤ 100 := by omega
  have z2 : Maps.size D2 ≤ 100 := by omega
  have hrow0 : (w.alloc (.cells M 94)).drew.ownsRow w.heap.size 94 3 (.slice (some ⟨w.heap.size, 0, none⟩) 0 ts.length) 0 [] := madeRow w ts.length M hMs (by unfold maxLen; omega)
  have B1 : Below w.heap.size w (w.alloc (.cells M 94)).drew := ((Below.refl _ _).alloc (Nat.le_refl _) _).drew
  have hT1 := h.below B1
  have c1' := hT1.c1
  have c2' := hT1.c2
  clear hmk hMs hwr hwr2 hsum l1 l2 c1 c2 hD1 p1 hD2 p2 hC h hsize mixed
  generalize (w.alloc (.cells M 94)).drew = w1 at hrow0 B1 hT1 c1' c2' ⊢
  clear M
  have ho1 := hT1.o1
  have ho2 := hT1.o2
  go_wp2_with (at_range; refine wpList_range_own _ rfl _ 102 rfl 9 100 law9 Tryd.underlying102 _ m1 _ _ rfl ho1 ?_; intro w0 hrg0 hg0 hs0)
  go_frame
  clear hs0
  go_loopw [3] (fun v wr => ∃ (left : Lit → Bool) (cnt : Nat) (L : List Opr), wr.ranges Tryd.prog 9 opElem m1 w1.heap.size (Maps.size D1) D1 left cnt ∧ L.length + cnt ≤ Maps.size D1 ∧
      wr.ownsRow w.heap.size 94 3 v L.length (flat L) ∧ v ≠ .slice none 0 0 ∧ Coll (ts.filter isF) left L ∧ Below w.heap.size w wr)
    (fun _ wr => wr.rangeLeft m1 w1.heap.size)
  case atStart =>
    refine ⟨_, _, [], hrg0, by simp, hrow0.kept hg0 (Or.inr (by simp [Value.ownBlock])), by simp, ?_, B1.grown hg0 B1.size (fun j hj => by cases hj)⟩
    rw [P1.out.1]; exact Coll.start P1.out.2
  case round =>
    obtain ⟨left, cnt, L, hrg, hcs, hrow, hnn, hCo, hnx⟩ := hrel
    clear hrg0 hg0
    have HCo : Aside (Coll (ts.filter isF) left L) := hCo
    clear hCo
    go_wp2_with (at_next; refine wpList_next_ranges _ rfl _ rfl 9 law9 opElem encStr mkV (fun key kl hk => by obtain ⟨x, hx, _⟩ := Maps.keyOf_str Tryd.underlying9 hk; exact ⟨x, hx⟩) (fun v y hv => by obtain ⟨p, k, rfl, _⟩ := opElem_inv' hv; exact ⟨(p, k), rfl⟩) m1 w1.heap.size (Maps.size D1) _ _ _ rfl hrg ?_ ?_)
    · intro hc0 hl0
      have HP : Aside (L.Perm (ts.filter isF)) := HCo.out.perm ((sorted_nodup HC.out.sorted).filter _) hl0
      have hL : L.length ≤ Maps.size D1 := by omega
      have hT2 := HT.out.below hnx
      have c3 := hT2.c2
      have ho3 := hT2.o2
      have B2 : Below w.heap.size w wr := hnx
      clear HCo hl0 hc0 hcs hrg hT1 c1' c2' ho1 ho2 hT2 B1 hrow0 hnx
      generalize wr = w8 at hrow c3 ho3 B2 ⊢
      clear cnt left
      go_wp2_with (at_range; refine wpList_range_own _ rfl _ 102 rfl 9 100 law9 Tryd.underlying102 _ m2 _ _ rfl ho3 ?_; intro w9 hrg0 hg0 hs0)
      go_frame
      clear hs0
      go_loopw [3] (fun v wr => ∃ (left : Lit → Bool) (cnt : Nat) (K : List Opr), wr.ranges Tryd.prog 9 opElem m2 w8.heap.size (Maps.size D2) D2 left cnt ∧ K.length + cnt ≤ Maps.size D2 ∧
          wr.ownsRow w.heap.size 94 3 v (L ++ K).length (flat (L ++ K)) ∧ v ≠ .slice none 0 0 ∧ Coll (ts.filter notF) left K ∧ Below w.heap.size w wr)
        (fun _ wr => wr.rangeLeft m2 w8.heap.size)
      case atStart =>
        refine ⟨_, _, [], hrg0, by simp, ?_, hnn, ?_, B2.grown hg0 B2.size (fun j hj => by cases hj)⟩
        · rw [List.append_nil]; exact hrow.kept hg0 (by cases hv : u3.ownBlock <;> simp)
        · rw [P2.out.1]; exact Coll.start P2.out.2
      case round =>
        obtain ⟨left, cnt, K, hrg, hcs, hrow, hnn, hCo, hnx⟩ := hrel
        clear hrg0 hg0
        have HCo : Aside (Coll (ts.filter notF) left K) := hCo
        clear hCo
        go_wp2_with (at_next; refine wpList_next_ranges _ rfl _ rfl 9 law9 opElem encStr mkV (fun key kl hk => by obtain ⟨x, hx, _⟩ := Maps.keyOf_str Tryd.underlying9 hk; exact ⟨x, hx⟩) (fun v y hv => by obtain ⟨p, k, rfl, _⟩ := opElem_inv' hv; exact ⟨(p, k), rfl⟩) m2 w8.heap.size (Maps.size D2) _ _ _ rfl hrg ?_ ?_)
        · intro hc0 hl0
          have HQ : Aside (K.Perm (ts.filter notF)) := HCo.out.perm ((sorted_nodup HC.out.sorted).filter _) hl0
          have hlen : (L ++ K).length = ts.length := ((HP.out.append HQ.out).trans (List.filter_append_perm isF ts)).length_eq
          obtain ⟨g, cap, hv⟩ : ∃ g cap, u3 = .slice (some ⟨g, 0, none⟩) (L ++ K).length cap := by
            rcases hrow.2 with ⟨hnil, _⟩ | ⟨g, cap, cur, hv, _⟩
            · exact absurd hnil hnn
            · exact ⟨g, cap, hv⟩
          rw [hv] at hrow ⊢
          have hcall := sortOps_any w.heap.size g cap (L ++ K) wr hrow (by omega) (ok_two (fun t ht => by
            have := (List.mem_filter.1 (HP.out.mem_iff.1 ht)).2
            unfold isF at this; exact this) (fun t ht => by
            have := (List.mem_filter.1 (HQ.out.mem_iff.1 ht)).2
            unfold notF at this; simpa using this))
          have hgb := (hrow.lt g rfl).1
          rw [hlen] at hcall ⊢
          clear hrow hrg hcs hnn hc0 hl0 HCo hv
          go_wp2_with (go_at_call 47; refine hcall.mono ?_; rintro e w' ⟨rfl, L', q1, q2, q3, q4⟩)
          go_ret
          have hsame : L' = ts := sorted_same HC.out.sorted HP.out HQ.out q1 q2
          rw [hsame] at q3
          exact ⟨g, cap, rfl, q3, hnx.grown q4 hnx.size (fun j hj => by cases hj; exact hgb)⟩
        · intro x p k kl yd yp w2 cnt2 hkey hlk hv hat hrg2 hlt hg2 hs2 hen
          clear hs2
          obtain ⟨x', ex, rfl, _⟩ := Maps.keyOf_str Tryd.underlying9 hkey
          obtain rfl : x = x' := encStr_inj ex
          have hy : yd = opD p k := by
            have hh : some (yd, yp) = some (opD p k, []) := hv.symm.trans rfl
            injection hh with hh
            injection hh
          rw [P2.out.1, hy] at hat
          obtain ⟨t, ht, q1, q2, q3, hC2⟩ := HCo.out.step P2.out.2 N2.out hlk hat
          obtain ⟨i, hi7, hni, hkn⟩ := kn_num (HC.out.fine t (List.mem_filter.1 ht).1).2.2.1
          have ek : encStr x = .string t.2.2 := by rw [q1]
          have ev : mkV (p, k) = .agg #[.int .i64 t.1, .int .u8 (i : Int)] := by rw [← q2, ← q3, hni]; rfl
          have C2 : Aside (Coll (ts.filter notF) (fun z => left z && !z.sameKey (.string x)) (K ++ [t])) := hC2
          rw [ek, ev] at hen ⊢
          have hnx2 : Below w.heap.size w w2 := hnx.grown hg2 hnx.size (fun j hj => by cases hj; exact B2.size)
          have hnx3 : Below w.heap.size w (w2.alloc (.cells #[.int .i64 t.1, .int .u8 (i : Int)] 100)) := hnx2.alloc hnx2.size _
          have htold : ∀ W, Below w.heap.size w W → Calls Tryd.prog 46 #[.agg #[.int .i64 t.1, .int .u8 (i : Int)], .string t.2.2] W fun e w' => e = .returned (.agg #[.int .i64 t.1, .string t.2.1, .string t.2.2]) ∧ Below W.heap.size W w' := fun W hW => by
            have := told_any t.1 i t.2.2 W (hK.below hW) hi7
            rw [hkn] at this
            exact this
          have hLK : (L ++ K).length ≤ 200 := by rw [List.length_append]; omega
          have hrow2 := hrow.kept hg2 (Or.inr (row_ne_iter hrow hrg).symm)
          have hi9 : i < 256 := by omega
          clear hC2 hat hv hkey ex q1 q2 q3 hni hkn ek ev hi7
          go_wp2_with (first
            | (go_at_call 46; refine (htold _ hnx3).mono ?_; rintro e w4 ⟨rfl, hb4⟩; have hrow4 := (hrow2.alloc (.cells #[.int .i64 t.1, .int .u8 (i : Int)] 100)).kept (below_grown none hb4) (by cases hv : u3.ownBlock <;> simp); have hrg4 := (hrg2.alloc (.cells #[.int .i64 t.1, .int .u8 (i : Int)] 100)).kept (below_grown none hb4) (by simp) (by simp); have hnx4 := hnx3.trans (hb4.mono hnx3.size))
            | (at_builtin; refine wpList_append_own _ rfl (.tmp 46) (.tmp 50) 55 rfl w.heap.size 94 i0 _ 3 40 Tryd.underlying55 hi hz0 hz1 hz2 rfl (by decide) u3 (L ++ K).length (flat (L ++ K)) rfl (hrow4.alloc _) ⟨w4.heap.size, 0, none⟩ 1 1 (cellsOp t) rfl rfl (new3' w4 _ rfl t) (one_op t) (by unfold maxLen; omega) (by omega) (by have := hnx4.size; simp; omega) ?_; intro v' w6 hown' hg6 hnil6; go_frame))
          have hrg6 := (hrg4.alloc (.cells #[.int .i64 t.1, .string t.2.1, .string t.2.2] 94)).kept hg6 (row_ne_low hrow4 lt2) (row_ne_iter hrow4 hrg4)
          have hnx6 : Below w.heap.size w w6 := (hnx4.alloc hnx4.size _).grown hg6 (by have := hnx4.size; simp; omega) (fun j hj => (hrow4.lt j hj).1)
          go_roundw
          case rel => exact ⟨_, cnt2, K ++ [t], hrg6, by simp; omega, by rw [← List.append_assoc]; exact own_snoc hown', fun hv' => by have := (hnil6.1 hv').2; omega, C2.out, hnx6⟩
          case measure => rw [hrg6.left_eq, hrg.left_eq]; exact hlt
    · intro x p k kl yd yp w2 cnt2 hkey hlk hv hat hrg2 hlt hg2 hs2 hen
      clear hs2
      obtain ⟨x', ex, rfl, _⟩ := Maps.keyOf_str Tryd.underlying9 hkey
      obtain rfl : x = x' := encStr_inj ex
      have hy : yd = opD p k := by
        have hh : some (yd, yp) = some (opD p k, []) := hv.symm.trans rfl
        injection hh with hh
        injection hh
      rw [P1.out.1, hy] at hat
      obtain ⟨t, ht, q1, q2, q3, hC2⟩ := HCo.out.step P1.out.2 N1.out hlk hat
      obtain ⟨i, hi7, hni, hkn⟩ := kn_num (HC.out.fine t (List.mem_filter.1 ht).1).2.2.1
      have ek : encStr x = .string t.2.2 := by rw [q1]
      have ev : mkV (p, k) = .agg #[.int .i64 t.1, .int .u8 (i : Int)] := by rw [← q2, ← q3, hni]; rfl
      have C2 : Aside (Coll (ts.filter isF) (fun z => left z && !z.sameKey (.string x)) (L ++ [t])) := hC2
      rw [ek, ev] at hen ⊢
      have hnx2 : Below w.heap.size w w2 := hnx.grown hg2 hnx.size (fun j hj => by cases hj; exact B1.size)
      have hnx3 : Below w.heap.size w (w2.alloc (.cells #[.int .i64 t.1, .int .u8 (i : Int)] 100)) := hnx2.alloc hnx2.size _
      have htold : ∀ W, Below w.heap.size w W → Calls Tryd.prog 46 #[.agg #[.int .i64 t.1, .int .u8 (i : Int)], .string t.2.2] W fun e w' => e = .returned (.agg #[.int .i64 t.1, .string t.2.1, .string t.2.2]) ∧ Below W.heap.size W w' := fun W hW => by
        have := told_any t.1 i t.2.2 W (hK.below hW) hi7
        rw [hkn] at this
        exact this
      have hrow2 := hrow.kept hg2 (Or.inr (row_ne_iter hrow hrg).symm)
      have hi9 : i < 256 := by omega
      clear hC2 hat hv hkey ex q1 q2 q3 hni hkn ek ev hi7
      go_wp2_with (first
        | (go_at_call 46; refine (htold _ hnx3).mono ?_; rintro e w4 ⟨rfl, hb4⟩; have hrow4 := (hrow2.alloc (.cells #[.int .i64 t.1, .int .u8 (i : Int)] 100)).kept (below_grown none hb4) (by cases hv : u3.ownBlock <;> simp); have hrg4 := (hrg2.alloc (.cells #[.int .i64 t.1, .int .u8 (i : Int)] 100)).kept (below_grown none hb4) (by simp) (by simp); have hnx4 := hnx3.trans (hb4.mono hnx3.size))
        | (at_builtin; refine wpList_append_own _ rfl (.tmp 30) (.tmp 34) 55 rfl w.heap.size 94 i0 _ 3 40 Tryd.underlying55 hi hz0 hz1 hz2 rfl (by decide) u3 L.length (flat L) rfl (hrow4.alloc _) ⟨w4.heap.size, 0, none⟩ 1 1 (cellsOp t) rfl rfl (new3' w4 _ rfl t) (one_op t) (by unfold maxLen; omega) (by omega) (by have := hnx4.size; simp; omega) ?_; intro v' w6 hown' hg6 hnil6; go_frame))
      have hrg6 := (hrg4.alloc (.cells #[.int .i64 t.1, .string t.2.1, .string t.2.2] 94)).kept hg6 (row_ne_low hrow4 lt1) (row_ne_iter hrow4 hrg4)
      have hnx6 : Below w.heap.size w w6 := (hnx4.alloc hnx4.size _).grown hg6 (by have := hnx4.size; simp; omega) (fun j hj => (hrow4.lt j hj).1)
      go_roundw
      case rel => exact ⟨_, cnt2, L ++ [t], hrg6, by simp; omega, own_snoc hown', fun hv' => by have := (hnil6.1 hv').2; omega, C2.out, hnx6⟩
      case measure => rw [hrg6.left_eq, hrg.left_eq]; exact hlt
end Go.Proofs.YtoobbkckpabamaaDoor
