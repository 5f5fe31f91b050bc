/- The operators' Table (package operators): put takes an operator away. -/
import Derived.Test.YtoobbkckpabamaaDoorTurnF
import Derived.Maps.OwnSet
namespace Go.Proofs.YtoobbkckpabamaaDoor
open Go Go.RowKit Go.Maps
def delD (b : Bool) (D : DataW Unit) (nm : ByteArray) : DataW Unit := if b then D.del (.string nm.data.toList) else D
theorem key9 (nm : ByteArray) (hs : nm.size ≤ 1000) : keyOf Tryd.prog 9 (.string nm) = some (.string nm.data.toList) := WideMaps.keyOf_string_mk Tryd.underlying9 (by unfold maxLen; omega)
theorem Tab.rub {w : World} {B tb m1 m2 n1 n2 : Nat} {D1 D2 : DataW Unit} (h : Tab w B tb m1 m2 n1 n2 D1 D2) (k : Int) (nm : ByteArray) (hs : nm.size ≤ 1000) (ty : TypeId) :
    ∃ w', (Builtin.delete_ #[102, 9] ty #[.map (some (pickB k m1 m2)), .string nm]).run Tryd.prog w = .ok (.tuple #[]) w' ∧
      Tab w' B tb m1 m2 n1 n2 (delD (inF k) D1 nm) (delD (!inF k) D2 nm) ∧ Below B w w' ∧ w.grownBy w' (some (pickB k m1 m2)) := by
  have hkey := key9 nm hs
  cases hF : inF k
  · obtain ⟨w', hrun, ho, ht⟩ := h.o2.drop law9 Tryd.underlying102 hkey ty
    have hg := ht.grown
    refine ⟨w', by simpa [pickB, hF] using hrun, ⟨hg.cell h.c1 (by simpa using h.t2), hg.cell h.c2 (by simpa using h.t2), ?_, ?_, h.ne, h.bt, h.b1, h.b2, h.t1, h.t2⟩, ?_⟩
    · simpa [delD] using h.o1.kept hg (by simpa using h.ne)
    · simpa [delD] using ho
    · exact ⟨(Below.refl B w).grown hg (Nat.le_of_lt h.lt) (fun q hq => by cases hq; exact h.b2), by simpa [pickB, hF] using hg⟩
  · obtain ⟨w', hrun, ho, ht⟩ := h.o1.drop law9 Tryd.underlying102 hkey ty
    have hg := ht.grown
    refine ⟨w', by simpa [pickB, hF] using hrun, ⟨hg.cell h.c1 (by simpa using h.t1), hg.cell h.c2 (by simpa using h.t1), ?_, ?_, h.ne, h.bt, h.b1, h.b2, h.t1, h.t2⟩, ?_⟩
    · simpa [delD] using ho
    · simpa [delD] using h.o2.kept hg (by simpa using Ne.symm h.ne)
    · exact ⟨(Below.refl B w).grown hg (Nat.le_of_lt h.lt) (fun q hq => by cases hq; exact h.b1), by simpa [pickB, hF] using hg⟩
/-- what taking away leaves -/
def DPost (w w' : World) (B tb m1 m2 n1 n2 : Nat) (D1 D2 : DataW Unit) (k : Int) (nm : ByteArray) : Prop :=
  Tab w' B tb m1 m2 n1 n2 (delD (inF k) D1 nm) (delD (!inF k) D2 nm) ∧ Below B w w' ∧ w.grownBy w' (some (pickB k m1 m2))
theorem RSt.rub {w W : World} {B tb m1 m2 n1 n2 : Nat} {D1 D2 : DataW Unit} {p k : Int} (h : RSt w W B tb m1 m2 n1 n2 D1 D2 p k) (hB : B ≤ w.heap.size) (nm : ByteArray) (hs : nm.size ≤ 1000) (ty : TypeId) :
    ∃ w', (Builtin.delete_ #[102, 9] ty #[.map (some (pickB k m1 m2)), .string nm]).run Tryd.prog W = .ok (.tuple #[]) w' ∧ DPost w w' B tb m1 m2 n1 n2 D1 D2 k nm := by
  obtain ⟨w', hr, ht, hb, hg⟩ := h.tab.rub k nm hs ty
  refine ⟨w', hr, ht, (h.bel.mono hB).trans hb, ⟨hg.os.trans h.bel.os, hg.tape.trans h.bel.tape, hg.output.trans h.bel.output, Nat.le_trans h.bel.size hg.size, fun q hq hne => (hg.block q (Nat.lt_of_lt_of_le hq h.bel.size) hne).trans (h.bel.block q hq)⟩⟩
theorem RSt.first' {w : World} {B tb m1 m2 n1 n2 : Nat} {D1 D2 : DataW Unit} (h : Tab w B tb m1 m2 n1 n2 D1 D2) (p k : Int) : RSt w (w.alloc (Obj.cells #[Value.int IntKind.i64 p, Value.int IntKind.u8 k] 100)) B tb m1 m2 n1 n2 D1 D2 p k := by
  have B0 : Below w.heap.size w (w.alloc (Obj.cells #[Value.int IntKind.i64 p, Value.int IntKind.u8 k] 100)) := (Below.refl _ _).alloc (Nat.le_refl _) _
  exact ⟨h.below B0, B0, by simp, by simp⟩
set_option maxRecDepth 100000 in
set_option maxHeartbeats 4000000 in
theorem tdel_any (B tb m1 m2 n1 n2 : Nat) (D1 D2 : DataW Unit) (k : Int) (nm : ByteArray) (w : World) (h : Tab w B tb m1 m2 n1 n2 D1 D2) (hs : nm.size ≤ 1000) :
    Calls Tryd.prog 45 #[.pointer (some ⟨tb, 0, none⟩), .agg #[.int .i64 0, .int .u8 k], .string nm] w fun e w' => e = .returned (.tuple #[]) ∧ DPost w w' B tb m1 m2 n1 n2 D1 D2 k nm := by
  have hR := RSt.first' h 0 k
  have hB := Nat.le_of_lt h.lt
  have b0 := hR.b0
  have b1 := hR.b1
  go_enter Tryd.func45, Tryd.ntmps45
  go_wp2_with (first
    | (go_at_call 44; refine (sort_any tb m1 m2 _ _ _ (RSt.tab (w := w) (by assumption)).c1 (RSt.tab (w := w) (by assumption)).c2).mono ?_; rintro e ws ⟨rfl, hbs⟩; have hRs := RSt.next (w := w) (by assumption) hbs; have bs0 := hRs.b0; have bs1 := hRs.b1; obtain ⟨wu, hru, hTu⟩ := hRs.rub hB nm hs 0))
  exact bodyPost_ret_by (results_none rfl _ _ _) rfl ⟨rfl, by assumption⟩
end Go.Proofs.YtoobbkckpabamaaDoor
