/- One operator more, on a Table of New's: Set answers OK. Under: the tables at package level hold what the program lays. -/
import Derived.Test.YtfcpgnnhekbaeaaDoorWalkJ
import Derived.Maps.OwnSet
namespace Go.Proofs.YtfcpgnnhekbaeaaDoor
open Go Go.RowKit Go.Maps
theorem opElem_inv {v : Value} {z : DataW Unit × List MemPlace} (h : opElem v = some z) : ∃ p k, v = .agg #[.int .i64 p, .int .u8 k] ∧ z = (opD p k, []) := by
  unfold opElem at h
  split at h
  · rename_i cs
    split at h
    · rename_i p k hl
      cases h
      refine ⟨p, k, ?_, rfl⟩
      congr 1
      apply Array.ext'
      rw [hl]
    · cases h
  · cases h
theorem zero86 (w : World) : (zeroValue 86).run Tryd.prog w = .ok (.agg #[.int .i64 0, .int .u8 0]) w := by kernel_rfl
theorem owns_look {w : World} {m n : Nat} {D : DataW Unit} (h : w.ownsMap Tryd.prog 9 opElem m n D) (nm : ByteArray) (hs : nm.size ≤ 1000) :
    ∃ p k, (Instr.lookup 88 (.map (some m)) (.string nm) true).run Tryd.prog w = .ok (.tuple #[.agg #[.int .i64 p, .int .u8 k], .bool (Maps.has D (.string nm.data.toList))]) w := by
  have hkey : keyOf Tryd.prog 9 (.string nm) = some (.string nm.data.toList) := WideMaps.keyOf_string_mk Tryd.underlying9 (by unfold maxLen; omega)
  obtain ⟨v, ps, hr, hv⟩ := h.look_ok law9 Tryd.underlying88 (zero86 w) (zd := opD 0 0) (zp := []) rfl hkey
  obtain ⟨p, k, rfl, _⟩ := opElem_inv hv
  exact ⟨p, k, hr⟩
theorem owns_size {w : World} {m n : Nat} {D : DataW Unit} (h : w.ownsMap Tryd.prog 9 opElem m n D) : Maps.size D ≤ n := by
  obtain ⟨es, clock, hb, F, hs, rfl⟩ := h
  simpa [Maps.size, length_sorted] using hs
theorem grow_via {w w1 w2 : World} {n m : Nat} (hb : Below w.heap.size w w1) (hg : (w1.drewN n).grownBy w2 (some m)) : w.grownBy w2 (some m) :=
  ⟨hg.os.trans hb.os, hg.tape.trans hb.tape, hg.output.trans hb.output, Nat.le_trans hb.size hg.size, fun q hq hne => (hg.block q (Nat.lt_of_lt_of_le hq hb.size) hne).trans (hb.block q hq)⟩
set_option maxRecDepth 100000 in
set_option maxHeartbeats 4000000 in
theorem set_a (B tb m1 m2 : Nat) (D1 D2 : DataW Unit) (w : World) (h : Tab w B tb m1 m2 14 14 D1 D2) (hK : Kinds w) (hS : Sorts w) :
    Calls Tryd.prog 20 #[.pointer (some ⟨tb, 0, none⟩), .int .i64 1, .string { data := #[102, 121] }, .string { data := #[97] }] w fun e w' => e = .returned (.int .i64 0) ∧ w.grownBy w' (some m1) := by
  have B1 : Below w.heap.size w (w.alloc (.cells #[.int .i64 1, .int .u8 0] 86)) := (Below.refl _ _).alloc (Nat.le_refl _) _
  have T1 := h.below B1
  go_enter Tryd.func20, Tryd.ntmps20
  go_wp2_with (first
    | (go_at_call 33; refine (kindOf_fy _ hK).mono ?_; rintro e w' ⟨rfl, rfl⟩)
    | (go_at_call 34; refine (turned_a _ hS).mono ?_; rintro e w' ⟨rfl, rfl⟩)
    | (go_at_call 35; refine (sort_any tb m1 m2 _ _ _ T1.c1 T1.c2).mono ?_; rintro e w2 ⟨rfl, hb2⟩; have T2 := T1.below hb2; obtain ⟨pp, kk, hlk⟩ : ∃ pp kk, (Instr.lookup 88 (.map (some (pickB 0 m1 m2))) (.string { data := #[97] }) true).run Tryd.prog w2 = .ok (.tuple #[.agg #[.int .i64 pp, .int .u8 kk], .bool (Maps.has D1 (.string [97]))]) w2 := owns_look T2.o1 { data := #[97] } (by decide)))
  have A3 : Below w2.heap.size w2 (w2.alloc (.cells #[.int .i64 pp, .int .u8 kk] 86)) := (Below.refl _ _).alloc (Nat.le_refl _) _
  have T3 := T2.below A3
  have c1 := T3.c1
  have c2 := T3.c2
  have z1 := owns_size T3.o1
  have z2 := owns_size T3.o2
  have l1 : ∀ n ty, (Builtin.len_ #[88] ty #[.map (some m1)]).run Tryd.prog ((w2.alloc (.cells #[.int .i64 pp, .int .u8 kk] 86)).drewN n) = .ok (.int .i64 (Maps.size D1)) ((w2.alloc (.cells #[.int .i64 pp, .int .u8 kk] 86)).drewN n) := fun n ty => World.ownsMap.len (w := (w2.alloc (.cells #[.int .i64 pp, .int .u8 kk] 86)).drewN n) T3.o1 Tryd.underlying88 ty
  have l2 : ∀ n ty, (Builtin.len_ #[88] ty #[.map (some m2)]).run Tryd.prog ((w2.alloc (.cells #[.int .i64 pp, .int .u8 kk] 86)).drewN n) = .ok (.int .i64 (Maps.size D2)) ((w2.alloc (.cells #[.int .i64 pp, .int .u8 kk] 86)).drewN n) := fun n ty => World.ownsMap.len (w := (w2.alloc (.cells #[.int .i64 pp, .int .u8 kk] 86)).drewN n) T3.o2 Tryd.underlying88 ty
  have s1 : ((Maps.size D1 : Nat) : Int) + ((Maps.size D2 : Nat) : Int) < 100 := by omega
  have x0 : (w2.alloc (.cells #[.int .i64 pp, .int .u8 kk] 86)).cell? ⟨w'.heap.size, 0, none⟩ = some (.int .i64 1) := keep A3 (keep hb2 (by simp))
  have x1 : (w2.alloc (.cells #[.int .i64 pp, .int .u8 kk] 86)).cell? ⟨w'.heap.size, 1, none⟩ = some (.int .u8 0) := keep A3 (keep hb2 (by simp))
  by_cases hh : Maps.has D1 (.string [97]) = true
  all_goals
    go_quiet (fail)
    have T4 : Tab ((w2.alloc (.cells #[.int .i64 pp, .int .u8 kk] 86)).drewN nq) B tb m1 m2 14 14 D1 D2 := ⟨T3.c1, T3.c2, T3.o1, T3.o2, T3.ne, T3.bt, T3.b1, T3.b2, T3.t1, T3.t2⟩
    clear l1 l2 hh z1 z2
    go_wp2_with (go_at_call 36; refine (tput_any _ _ _ _ _ _ _ _ _ _ _ _ T4 (by omega) (by omega) (by omega) (by decide)).mono ?_; rintro e w5 ⟨rfl, hP⟩)
    go_ret
    exact ⟨rfl, grow_via (B1.trans ((hb2.trans (A3.mono hb2.size)).mono B1.size)) hP.2.2⟩
end Go.Proofs.YtfcpgnnhekbaeaaDoor
