/- The operators' Table (package operators): New makes the Table of fourteen operators. Under: the tables at package level hold what the program lays. -/
import Derived.Test.YtoobbkckpabamaaDoorWalkH
import Derived.Deep.MidRow
namespace Go.Proofs.YtoobbkckpabamaaDoor
open Go Go.RowKit Go.Maps
structure Row where
  pri : Int
  kind : ByteArray
  name : ByteArray
  num : Int
def rows : List Row := [⟨1200, { data := #[120, 102, 120] }, { data := #[58, 45] }, 2⟩, ⟨1100, { data := #[120, 102, 121] }, { data := #[59] }, 3⟩, ⟨1000, { data := #[120, 102, 121] }, { data := #[44] }, 3⟩, ⟨900, { data := #[102, 121] }, { data := #[92] }, 0⟩, ⟨700, { data := #[120, 102, 120] }, { data := #[61] }, 2⟩, ⟨700, { data := #[120, 102, 120] }, { data := #[60] }, 2⟩, ⟨700, { data := #[120, 102, 120] }, { data := #[62] }, 2⟩, ⟨700, { data := #[120, 102, 120] }, { data := #[105, 115] }, 2⟩, ⟨500, { data := #[121, 102, 120] }, { data := #[43] }, 4⟩, ⟨500, { data := #[121, 102, 120] }, { data := #[45] }, 4⟩, ⟨400, { data := #[121, 102, 120] }, { data := #[42] }, 4⟩, ⟨400, { data := #[121, 102, 120] }, { data := #[47] }, 4⟩, ⟨200, { data := #[120, 102, 121] }, { data := #[94] }, 3⟩, ⟨200, { data := #[102, 121] }, { data := #[45] }, 0⟩]
def R (k : Nat) : Row := rows.getD k ⟨1, .empty, .empty, 0⟩
def firstV : List Value := [.int .i64 1200, .string { data := #[120, 102, 120] }, .string { data := #[58, 45] }, .int .i64 1100, .string { data := #[120, 102, 121] }, .string { data := #[59] }, .int .i64 1000, .string { data := #[120, 102, 121] }, .string { data := #[44] }, .int .i64 900, .string { data := #[102, 121] }, .string { data := #[92] }, .int .i64 700, .string { data := #[120, 102, 120] }, .string { data := #[61] }, .int .i64 700, .string { data := #[120, 102, 120] }, .string { data := #[60] }, .int .i64 700, .string { data := #[120, 102, 120] }, .string { data := #[62] }, .int .i64 700, .string { data := #[120, 102, 120] }, .string { data := #[105, 115] }, .int .i64 500, .string { data := #[121, 102, 120] }, .string { data := #[43] }, .int .i64 500, .string { data := #[121, 102, 120] }, .string { data := #[45] }, .int .i64 400, .string { data := #[121, 102, 120] }, .string { data := #[42] }, .int .i64 400, .string { data := #[121, 102, 120] }, .string { data := #[47] }, .int .i64 200, .string { data := #[120, 102, 121] }, .string { data := #[94] }, .int .i64 200, .string { data := #[102, 121] }, .string { data := #[45] }]
/-- the table 'first', cell by cell -/
def Firsts (w : World) : Prop := ∀ i, i < 42 → w.cell? ⟨0, i, none⟩ = firstV[i]?
theorem Firsts.below {w w' : World} (h : Firsts w) (hb : Below w.heap.size w w') : Firsts w' := fun i hi => by
  have e := h i hi
  rw [List.getElem?_eq_getElem (by show i < 42; exact hi)] at e ⊢
  exact keep hb e
theorem Firsts.range {w : World} (h : Firsts w) : w.rangeAt 0 0 firstV := fun j v hj => by
  have hl : j < 42 := by
    have := (List.getElem?_eq_some_iff.1 hj).1
    exact this
  rw [Nat.zero_add, h j hl]; exact hj
theorem ix0 (w : World) : (Instr.index 111 (.agg #[.int .i64 1200, .string { data := #[120, 102, 120] }, .string { data := #[58, 45] }, .int .i64 1100, .string { data := #[120, 102, 121] }, .string { data := #[59] }, .int .i64 1000, .string { data := #[120, 102, 121] }, .string { data := #[44] }, .int .i64 900, .string { data := #[102, 121] }, .string { data := #[92] }, .int .i64 700, .string { data := #[120, 102, 120] }, .string { data := #[61] }, .int .i64 700, .string { data := #[120, 102, 120] }, .string { data := #[60] }, .int .i64 700, .string { data := #[120, 102, 120] }, .string { data := #[62] }, .int .i64 700, .string { data := #[120, 102, 120] }, .string { data := #[105, 115] }, .int .i64 500, .string { data := #[121, 102, 120] }, .string { data := #[43] }, .int .i64 500, .string { data := #[121, 102, 120] }, .string { data := #[45] }, .int .i64 400, .string { data := #[121, 102, 120] }, .string { data := #[42] }, .int .i64 400, .string { data := #[121, 102, 120] }, .string { data := #[47] }, .int .i64 200, .string { data := #[120, 102, 121] }, .string { data := #[94] }, .int .i64 200, .string { data := #[102, 121] }, .string { data := #[45] }]) (.int .i64 0)).run Tryd.prog w = .ok (.agg #[.int .i64 (R 0).pri, .string (R 0).kind, .string (R 0).name]) w := by kernel_rfl
theorem ix1 (w : World) : (Instr.index 111 (.agg #[.int .i64 1200, .string { data := #[120, 102, 120] }, .string { data := #[58, 45] }, .int .i64 1100, .string { data := #[120, 102, 121] }, .string { data := #[59] }, .int .i64 1000, .string { data := #[120, 102, 121] }, .string { data := #[44] }, .int .i64 900, .string { data := #[102, 121] }, .string { data := #[92] }, .int .i64 700, .string { data := #[120, 102, 120] }, .string { data := #[61] }, .int .i64 700, .string { data := #[120, 102, 120] }, .string { data := #[60] }, .int .i64 700, .string { data := #[120, 102, 120] }, .string { data := #[62] }, .int .i64 700, .string { data := #[120, 102, 120] }, .string { data := #[105, 115] }, .int .i64 500, .string { data := #[121, 102, 120] }, .string { data := #[43] }, .int .i64 500, .string { data := #[121, 102, 120] }, .string { data := #[45] }, .int .i64 400, .string { data := #[121, 102, 120] }, .string { data := #[42] }, .int .i64 400, .string { data := #[121, 102, 120] }, .string { data := #[47] }, .int .i64 200, .string { data := #[120, 102, 121] }, .string { data := #[94] }, .int .i64 200, .string { data := #[102, 121] }, .string { data := #[45] }]) (.int .i64 1)).run Tryd.prog w = .ok (.agg #[.int .i64 (R 1).pri, .string (R 1).kind, .string (R 1).name]) w := by kernel_rfl
theorem ix2 (w : World) : (Instr.index 111 (.agg #[.int .i64 1200, .string { data := #[120, 102, 120] }, .string { data := #[58, 45] }, .int .i64 1100, .string { data := #[120, 102, 121] }, .string { data := #[59] }, .int .i64 1000, .string { data := #[120, 102, 121] }, .string { data := #[44] }, .int .i64 900, .string { data := #[102, 121] }, .string { data := #[92] }, .int .i64 700, .string { data := #[120, 102, 120] }, .string { data := #[61] }, .int .i64 700, .string { data := #[120, 102, 120] }, .string { data := #[60] }, .int .i64 700, .string { data := #[120, 102, 120] }, .string { data := #[62] }, .int .i64 700, .string { data := #[120, 102, 120] }, .string { data := #[105, 115] }, .int .i64 500, .string { data := #[121, 102, 120] }, .string { data := #[43] }, .int .i64 500, .string { data := #[121, 102, 120] }, .string { data := #[45] }, .int .i64 400, .string { data := #[121, 102, 120] }, .string { data := #[42] }, .int .i64 400, .string { data := #[121, 102, 120] }, .string { data := #[47] }, .int .i64 200, .string { data := #[120, 102, 121] }, .string { data := #[94] }, .int .i64 200, .string { data := #[102, 121] }, .string { data := #[45] }]) (.int .i64 2)).run Tryd.prog w = .ok (.agg #[.int .i64 (R 2).pri, .string (R 2).kind, .string (R 2).name]) w := by kernel_rfl
theorem ix3 (w : World) : (Instr.index 111 (.agg #[.int .i64 1200, .string { data := #[120, 102, 120] }, .string { data := #[58, 45] }, .int .i64 1100, .string { data := #[120, 102, 121] }, .string { data := #[59] }, .int .i64 1000, .string { data := #[120, 102, 121] }, .string { data := #[44] }, .int .i64 900, .string { data := #[102, 121] }, .string { data := #[92] }, .int .i64 700, .string { data := #[120, 102, 120] }, .string { data := #[61] }, .int .i64 700, .string { data := #[120, 102, 120] }, .string { data := #[60] }, .int .i64 700, .string { data := #[120, 102, 120] }, .string { data := #[62] }, .int .i64 700, .string { data := #[120, 102, 120] }, .string { data := #[105, 115] }, .int .i64 500, .string { data := #[121, 102, 120] }, .string { data := #[43] }, .int .i64 500, .string { data := #[121, 102, 120] }, .string { data := #[45] }, .int .i64 400, .string { data := #[121, 102, 120] }, .string { data := #[42] }, .int .i64 400, .string { data := #[121, 102, 120] }, .string { data := #[47] }, .int .i64 200, .string { data := #[120, 102, 121] }, .string { data := #[94] }, .int .i64 200, .string { data := #[102, 121] }, .string { data := #[45] }]) (.int .i64 3)).run Tryd.prog w = .ok (.agg #[.int .i64 (R 3).pri, .string (R 3).kind, .string (R 3).name]) w := by kernel_rfl
theorem ix4 (w : World) : (Instr.index 111 (.agg #[.int .i64 1200, .string { data := #[120, 102, 120] }, .string { data := #[58, 45] }, .int .i64 1100, .string { data := #[120, 102, 121] }, .string { data := #[59] }, .int .i64 1000, .string { data := #[120, 102, 121] }, .string { data := #[44] }, .int .i64 900, .string { data := #[102, 121] }, .string { data := #[92] }, .int .i64 700, .string { data := #[120, 102, 120] }, .string { data := #[61] }, .int .i64 700, .string { data := #[120, 102, 120] }, .string { data := #[60] }, .int .i64 700, .string { data := #[120, 102, 120] }, .string { data := #[62] }, .int .i64 700, .string { data := #[120, 102, 120] }, .string { data := #[105, 115] }, .int .i64 500, .string { data := #[121, 102, 120] }, .string { data := #[43] }, .int .i64 500, .string { data := #[121, 102, 120] }, .string { data := #[45] }, .int .i64 400, .string { data := #[121, 102, 120] }, .string { data := #[42] }, .int .i64 400, .string { data := #[121, 102, 120] }, .string { data := #[47] }, .int .i64 200, .string { data := #[120, 102, 121] }, .string { data := #[94] }, .int .i64 200, .string { data := #[102, 121] }, .string { data := #[45] }]) (.int .i64 4)).run Tryd.prog w = .ok (.agg #[.int .i64 (R 4).pri, .string (R 4).kind, .string (R 4).name]) w := by kernel_rfl
theorem ix5 (w : World) : (Instr.index 111 (.agg #[.int .i64 1200, .string { data := #[120, 102, 120] }, .string { data := #[58, 45] }, .int .i64 1100, .string { data := #[120, 102, 121] }, .string { data := #[59] }, .int .i64 1000, .string { data := #[120, 102, 121] }, .string { data := #[44] }, .int .i64 900, .string { data := #[102, 121] }, .string { data := #[92] }, .int .i64 700, .string { data := #[120, 102, 120] }, .string { data := #[61] }, .int .i64 700, .string { data := #[120, 102, 120] }, .string { data := #[60] }, .int .i64 700, .string { data := #[120, 102, 120] }, .string { data := #[62] }, .int .i64 700, .string { data := #[120, 102, 120] }, .string { data := #[105, 115] }, .int .i64 500, .string { data := #[121, 102, 120] }, .string { data := #[43] }, .int .i64 500, .string { data := #[121, 102, 120] }, .string { data := #[45] }, .int .i64 400, .string { data := #[121, 102, 120] }, .string { data := #[42] }, .int .i64 400, .string { data := #[121, 102, 120] }, .string { data := #[47] }, .int .i64 200, .string { data := #[120, 102, 121] }, .string { data := #[94] }, .int .i64 200, .string { data := #[102, 121] }, .string { data := #[45] }]) (.int .i64 5)).run Tryd.prog w = .ok (.agg #[.int .i64 (R 5).pri, .string (R 5).kind, .string (R 5).name]) w := by kernel_rfl
theorem ix6 (w : World) : (Instr.index 111 (.agg #[.int .i64 1200, .string { data := #[120, 102, 120] }, .string { data := #[58, 45] }, .int .i64 1100, .string { data := #[120, 102, 121] }, .string { data := #[59] }, .int .i64 1000, .string { data := #[120, 102, 121] }, .string { data := #[44] }, .int .i64 900, .string { data := #[102, 121] }, .string { data := #[92] }, .int .i64 700, .string { data := #[120, 102, 120] }, .string { data := #[61] }, .int .i64 700, .string { data := #[120, 102, 120] }, .string { data := #[60] }, .int .i64 700, .string { data := #[120, 102, 120] }, .string { data := #[62] }, .int .i64 700, .string { data := #[120, 102, 120] }, .string { data := #[105, 115] }, .int .i64 500, .string { data := #[121, 102, 120] }, .string { data := #[43] }, .int .i64 500, .string { data := #[121, 102, 120] }, .string { data := #[45] }, .int .i64 400, .string { data := #[121, 102, 120] }, .string { data := #[42] }, .int .i64 400, .string { data := #[121, 102, 120] }, .string { data := #[47] }, .int .i64 200, .string { data := #[120, 102, 121] }, .string { data := #[94] }, .int .i64 200, .string { data := #[102, 121] }, .string { data := #[45] }]) (.int .i64 6)).run Tryd.prog w = .ok (.agg #[.int .i64 (R 6).pri, .string (R 6).kind, .string (R 6).name]) w := by kernel_rfl
theorem ix7 (w : World) : (Instr.index 111 (.agg #[.int .i64 1200, .string { data := #[120, 102, 120] }, .string { data := #[58, 45] }, .int .i64 1100, .string { data := #[120, 102, 121] }, .string { data := #[59] }, .int .i64 1000, .string { data := #[120, 102, 121] }, .string { data := #[44] }, .int .i64 900, .string { data := #[102, 121] }, .string { data := #[92] }, .int .i64 700, .string { data := #[120, 102, 120] }, .string { data := #[61] }, .int .i64 700, .string { data := #[120, 102, 120] }, .string { data := #[60] }, .int .i64 700, .string { data := #[120, 102, 120] }, .string { data := #[62] }, .int .i64 700, .string { data := #[120, 102, 120] }, .string { data := #[105, 115] }, .int .i64 500, .string { data := #[121, 102, 120] }, .string { data := #[43] }, .int .i64 500, .string { data := #[121, 102, 120] }, .string { data := #[45] }, .int .i64 400, .string { data := #[121, 102, 120] }, .string { data := #[42] }, .int .i64 400, .string { data := #[121, 102, 120] }, .string { data := #[47] }, .int .i64 200, .string { data := #[120, 102, 121] }, .string { data := #[94] }, .int .i64 200, .string { data := #[102, 121] }, .string { data := #[45] }]) (.int .i64 7)).run Tryd.prog w = .ok (.agg #[.int .i64 (R 7).pri, .string (R 7).kind, .string (R 7).name]) w := by kernel_rfl
theorem ix8 (w : World) : (Instr.index 111 (.agg #[.int .i64 1200, .string { data := #[120, 102, 120] }, .string { data := #[58, 45] }, .int .i64 1100, .string { data := #[120, 102, 121] }, .string { data := #[59] }, .int .i64 1000, .string { data := #[120, 102, 121] }, .string { data := #[44] }, .int .i64 900, .string { data := #[102, 121] }, .string { data := #[92] }, .int .i64 700, .string { data := #[120, 102, 120] }, .string { data := #[61] }, .int .i64 700, .string { data := #[120, 102, 120] }, .string { data := #[60] }, .int .i64 700, .string { data := #[120, 102, 120] }, .string { data := #[62] }, .int .i64 700, .string { data := #[120, 102, 120] }, .string { data := #[105, 115] }, .int .i64 500, .string { data := #[121, 102, 120] }, .string { data := #[43] }, .int .i64 500, .string { data := #[121, 102, 120] }, .string { data := #[45] }, .int .i64 400, .string { data := #[121, 102, 120] }, .string { data := #[42] }, .int .i64 400, .string { data := #[121, 102, 120] }, .string { data := #[47] }, .int .i64 200, .string { data := #[120, 102, 121] }, .string { data := #[94] }, .int .i64 200, .string { data := #[102, 121] }, .string { data := #[45] }]) (.int .i64 8)).run Tryd.prog w = .ok (.agg #[.int .i64 (R 8).pri, .string (R 8).kind, .string (R 8).name]) w := by kernel_rfl
theorem ix9 (w : World) : (Instr.index 111 (.agg #[.int .i64 1200, .string { data := #[120, 102, 120] }, .string { data := #[58, 45] }, .int .i64 1100, .string { data := #[120, 102, 121] }, .string { data := #[59] }, .int .i64 1000, .string { data := #[120, 102, 121] }, .string { data := #[44] }, .int .i64 900, .string { data := #[102, 121] }, .string { data := #[92] }, .int .i64 700, .string { data := #[120, 102, 120] }, .string { data := #[61] }, .int .i64 700, .string { data := #[120, 102, 120] }, .string { data := #[60] }, .int .i64 700, .string { data := #[120, 102, 120] }, .string { data := #[62] }, .int .i64 700, .string { data := #[120, 102, 120] }, .string { data := #[105, 115] }, .int .i64 500, .string { data := #[121, 102, 120] }, .string { data := #[43] }, .int .i64 500, .string { data := #[121, 102, 120] }, .string { data := #[45] }, .int .i64 400, .string { data := #[121, 102, 120] }, .string { data := #[42] }, .int .i64 400, .string { data := #[121, 102, 120] }, .string { data := #[47] }, .int .i64 200, .string { data := #[120, 102, 121] }, .string { data := #[94] }, .int .i64 200, .string { data := #[102, 121] }, .string { data := #[45] }]) (.int .i64 9)).run Tryd.prog w = .ok (.agg #[.int .i64 (R 9).pri, .string (R 9).kind, .string (R 9).name]) w := by kernel_rfl
theorem ix10 (w : World) : (Instr.index 111 (.agg #[.int .i64 1200, .string { data := #[120, 102, 120] }, .string { data := #[58, 45] }, .int .i64 1100, .string { data := #[120, 102, 121] }, .string { data := #[59] }, .int .i64 1000, .string { data := #[120, 102, 121] }, .string { data := #[44] }, .int .i64 900, .string { data := #[102, 121] }, .string { data := #[92] }, .int .i64 700, .string { data := #[120, 102, 120] }, .string { data := #[61] }, .int .i64 700, .string { data := #[120, 102, 120] }, .string { data := #[60] }, .int .i64 700, .string { data := #[120, 102, 120] }, .string { data := #[62] }, .int .i64 700, .string { data := #[120, 102, 120] }, .string { data := #[105, 115] }, .int .i64 500, .string { data := #[121, 102, 120] }, .string { data := #[43] }, .int .i64 500, .string { data := #[121, 102, 120] }, .string { data := #[45] }, .int .i64 400, .string { data := #[121, 102, 120] }, .string { data := #[42] }, .int .i64 400, .string { data := #[121, 102, 120] }, .string { data := #[47] }, .int .i64 200, .string { data := #[120, 102, 121] }, .string { data := #[94] }, .int .i64 200, .string { data := #[102, 121] }, .string { data := #[45] }]) (.int .i64 10)).run Tryd.prog w = .ok (.agg #[.int .i64 (R 10).pri, .string (R 10).kind, .string (R 10).name]) w := by kernel_rfl
theorem ix11 (w : World) : (Instr.index 111 (.agg #[.int .i64 1200, .string { data := #[120, 102, 120] }, .string { data := #[58, 45] }, .int .i64 1100, .string { data := #[120, 102, 121] }, .string { data := #[59] }, .int .i64 1000, .string { data := #[120, 102, 121] }, .string { data := #[44] }, .int .i64 900, .string { data := #[102, 121] }, .string { data := #[92] }, .int .i64 700, .string { data := #[120, 102, 120] }, .string { data := #[61] }, .int .i64 700, .string { data := #[120, 102, 120] }, .string { data := #[60] }, .int .i64 700, .string { data := #[120, 102, 120] }, .string { data := #[62] }, .int .i64 700, .string { data := #[120, 102, 120] }, .string { data := #[105, 115] }, .int .i64 500, .string { data := #[121, 102, 120] }, .string { data := #[43] }, .int .i64 500, .string { data := #[121, 102, 120] }, .string { data := #[45] }, .int .i64 400, .string { data := #[121, 102, 120] }, .string { data := #[42] }, .int .i64 400, .string { data := #[121, 102, 120] }, .string { data := #[47] }, .int .i64 200, .string { data := #[120, 102, 121] }, .string { data := #[94] }, .int .i64 200, .string { data := #[102, 121] }, .string { data := #[45] }]) (.int .i64 11)).run Tryd.prog w = .ok (.agg #[.int .i64 (R 11).pri, .string (R 11).kind, .string (R 11).name]) w := by kernel_rfl
theorem ix12 (w : World) : (Instr.index 111 (.agg #[.int .i64 1200, .string { data := #[120, 102, 120] }, .string { data := #[58, 45] }, .int .i64 1100, .string { data := #[120, 102, 121] }, .string { data := #[59] }, .int .i64 1000, .string { data := #[120, 102, 121] }, .string { data := #[44] }, .int .i64 900, .string { data := #[102, 121] }, .string { data := #[92] }, .int .i64 700, .string { data := #[120, 102, 120] }, .string { data := #[61] }, .int .i64 700, .string { data := #[120, 102, 120] }, .string { data := #[60] }, .int .i64 700, .string { data := #[120, 102, 120] }, .string { data := #[62] }, .int .i64 700, .string { data := #[120, 102, 120] }, .string { data := #[105, 115] }, .int .i64 500, .string { data := #[121, 102, 120] }, .string { data := #[43] }, .int .i64 500, .string { data := #[121, 102, 120] }, .string { data := #[45] }, .int .i64 400, .string { data := #[121, 102, 120] }, .string { data := #[42] }, .int .i64 400, .string { data := #[121, 102, 120] }, .string { data := #[47] }, .int .i64 200, .string { data := #[120, 102, 121] }, .string { data := #[94] }, .int .i64 200, .string { data := #[102, 121] }, .string { data := #[45] }]) (.int .i64 12)).run Tryd.prog w = .ok (.agg #[.int .i64 (R 12).pri, .string (R 12).kind, .string (R 12).name]) w := by kernel_rfl
theorem ix13 (w : World) : (Instr.index 111 (.agg #[.int .i64 1200, .string { data := #[120, 102, 120] }, .string { data := #[58, 45] }, .int .i64 1100, .string { data := #[120, 102, 121] }, .string { data := #[59] }, .int .i64 1000, .string { data := #[120, 102, 121] }, .string { data := #[44] }, .int .i64 900, .string { data := #[102, 121] }, .string { data := #[92] }, .int .i64 700, .string { data := #[120, 102, 120] }, .string { data := #[61] }, .int .i64 700, .string { data := #[120, 102, 120] }, .string { data := #[60] }, .int .i64 700, .string { data := #[120, 102, 120] }, .string { data := #[62] }, .int .i64 700, .string { data := #[120, 102, 120] }, .string { data := #[105, 115] }, .int .i64 500, .string { data := #[121, 102, 120] }, .string { data := #[43] }, .int .i64 500, .string { data := #[121, 102, 120] }, .string { data := #[45] }, .int .i64 400, .string { data := #[121, 102, 120] }, .string { data := #[42] }, .int .i64 400, .string { data := #[121, 102, 120] }, .string { data := #[47] }, .int .i64 200, .string { data := #[120, 102, 121] }, .string { data := #[94] }, .int .i64 200, .string { data := #[102, 121] }, .string { data := #[45] }]) (.int .i64 13)).run Tryd.prog w = .ok (.agg #[.int .i64 (R 13).pri, .string (R 13).kind, .string (R 13).name]) w := by kernel_rfl
theorem ix (k : Nat) (hk : k < 14) (w : World) : (Instr.index 111 (.agg #[.int .i64 1200, .string { data := #[120, 102, 120] }, .string { data := #[58, 45] }, .int .i64 1100, .string { data := #[120, 102, 121] }, .string { data := #[59] }, .int .i64 1000, .string { data := #[120, 102, 121] }, .string { data := #[44] }, .int .i64 900, .string { data := #[102, 121] }, .string { data := #[92] }, .int .i64 700, .string { data := #[120, 102, 120] }, .string { data := #[61] }, .int .i64 700, .string { data := #[120, 102, 120] }, .string { data := #[60] }, .int .i64 700, .string { data := #[120, 102, 120] }, .string { data := #[62] }, .int .i64 700, .string { data := #[120, 102, 120] }, .string { data := #[105, 115] }, .int .i64 500, .string { data := #[121, 102, 120] }, .string { data := #[43] }, .int .i64 500, .string { data := #[121, 102, 120] }, .string { data := #[45] }, .int .i64 400, .string { data := #[121, 102, 120] }, .string { data := #[42] }, .int .i64 400, .string { data := #[121, 102, 120] }, .string { data := #[47] }, .int .i64 200, .string { data := #[120, 102, 121] }, .string { data := #[94] }, .int .i64 200, .string { data := #[102, 121] }, .string { data := #[45] }]) (.int .i64 k)).run Tryd.prog w = .ok (.agg #[.int .i64 (R k).pri, .string (R k).kind, .string (R k).name]) w :=
  match k, hk with
  | 0, _ => ix0 w
  | 1, _ => ix1 w
  | 2, _ => ix2 w
  | 3, _ => ix3 w
  | 4, _ => ix4 w
  | 5, _ => ix5 w
  | 6, _ => ix6 w
  | 7, _ => ix7 w
  | 8, _ => ix8 w
  | 9, _ => ix9 w
  | 10, _ => ix10 w
  | 11, _ => ix11 w
  | 12, _ => ix12 w
  | 13, _ => ix13 w
theorem kindOf_row (k : Nat) (hk : k < 14) (w : World) (h : Kinds w) : Calls Tryd.prog 42 #[.string (R k).kind] w fun e w' => e = .returned (.tuple #[.int .u8 (R k).num, .bool true]) ∧ w' = w :=
  match k, hk with
  | 0, _ => kindOf_xfx w h
  | 1, _ => kindOf_xfy w h
  | 2, _ => kindOf_xfy w h
  | 3, _ => kindOf_fy w h
  | 4, _ => kindOf_xfx w h
  | 5, _ => kindOf_xfx w h
  | 6, _ => kindOf_xfx w h
  | 7, _ => kindOf_xfx w h
  | 8, _ => kindOf_yfx w h
  | 9, _ => kindOf_yfx w h
  | 10, _ => kindOf_yfx w h
  | 11, _ => kindOf_yfx w h
  | 12, _ => kindOf_xfy w h
  | 13, _ => kindOf_fy w h
theorem pri_row (k : Nat) (hk : k < 14) : ¬ (R k).pri = 0 ∧ (R k).name.size ≤ 1000 :=
  match k, hk with
  | 0, _ => by decide
  | 1, _ => by decide
  | 2, _ => by decide
  | 3, _ => by decide
  | 4, _ => by decide
  | 5, _ => by decide
  | 6, _ => by decide
  | 7, _ => by decide
  | 8, _ => by decide
  | 9, _ => by decide
  | 10, _ => by decide
  | 11, _ => by decide
  | 12, _ => by decide
  | 13, _ => by decide
/-- the two maps behind the first k rows -/
def mapF (k : Nat) : DataW Unit := (rows.take k).foldl (fun D o => putD (inF o.num) D o.name o.pri o.num) (.map [])
def mapB (k : Nat) : DataW Unit := (rows.take k).foldl (fun D o => putD (!inF o.num) D o.name o.pri o.num) (.map [])
theorem rows_take (k : Nat) (hk : k < 14) : rows.take (k + 1) = rows.take k ++ [R k] := by
  match k, hk with
  | 0, _ => rfl
  | 1, _ => rfl
  | 2, _ => rfl
  | 3, _ => rfl
  | 4, _ => rfl
  | 5, _ => rfl
  | 6, _ => rfl
  | 7, _ => rfl
  | 8, _ => rfl
  | 9, _ => rfl
  | 10, _ => rfl
  | 11, _ => rfl
  | 12, _ => rfl
  | 13, _ => rfl
theorem mapF_succ (k : Nat) (hk : k < 14) : mapF (k + 1) = putD (inF (R k).num) (mapF k) (R k).name (R k).pri (R k).num := by
  unfold mapF; rw [rows_take k hk, List.foldl_append]; rfl
theorem mapB_succ (k : Nat) (hk : k < 14) : mapB (k + 1) = putD (!inF (R k).num) (mapB k) (R k).name (R k).pri (R k).num := by
  unfold mapB; rw [rows_take k hk, List.foldl_append]; rfl
/-- what New leaves: a Table of its own, of the fourteen operators -/
def NewPost (w w' : World) (tb : Nat) : Prop := ∃ m1 m2, Tab w' w.heap.size tb m1 m2 14 14 (mapF 14) (mapB 14) ∧ Below w.heap.size w w'
theorem cell_new0 (w : World) (c : Array Value) (t : TypeId) (i : Nat) (v : Value) (h : c[i]? = some v) : (w.alloc (.cells c t)).cell? ⟨w.heap.size, i, none⟩ = some v := by
  simp [h]
theorem first_tab (w : World) : Tab (((w.alloc (.map #[] 0)).alloc (.map #[] 0)).alloc (.cells #[.map (some w.heap.size), .map (some (w.heap.size + 1))] 105)) w.heap.size (w.heap.size + 1 + 1) w.heap.size (w.heap.size + 1) 0 0 (mapF 0) (mapB 0) := by
  have h1 := World.ownsMap_made w Tryd.prog 9 opElem
  have h2 := World.ownsMap_made (w.alloc (.map #[] 0)) Tryd.prog 9 opElem
  refine ⟨?_, ?_, (h1.alloc _).alloc _, ?_, by omega, by omega, by omega, by omega, by omega, by omega⟩
  · have := cell_new0 ((w.alloc (.map #[] 0)).alloc (.map #[] 0)) #[.map (some w.heap.size), .map (some (w.heap.size + 1))] 105 0 (.map (some w.heap.size)) rfl
    simpa using this
  · have := cell_new0 ((w.alloc (.map #[] 0)).alloc (.map #[] 0)) #[.map (some w.heap.size), .map (some (w.heap.size + 1))] 105 1 (.map (some (w.heap.size + 1))) rfl
    simpa using this
  · have := h2.alloc (.cells #[.map (some w.heap.size), .map (some (w.heap.size + 1))] 105)
    have e : mapB 0 = .map [] := rfl
    rw [e]
    simpa using this
set_option maxRecDepth 100000 in
set_option maxHeartbeats 8000000 in
theorem tnew_any (w : World) (hF : Firsts w) (hKi : Kinds w) : Calls Tryd.prog 37 #[] w fun e w' => ∃ tb, e = .returned (.pointer (some ⟨tb, 0, none⟩)) ∧ NewPost w w' tb := by
  have hM : ∀ W : World, (Instr.makeMap 102 none).run Tryd.prog W = .ok (.map (some W.heap.size)) (W.alloc (.map #[] 0)) := fun W => run_makeMap 102 W
  have B0 : Below w.heap.size w (((w.alloc (.map #[] 0)).alloc (.map #[] 0)).alloc (.cells #[.map (some w.heap.size), .map (some (w.heap.size + 1))] 105)) := (((Below.refl _ _).alloc (Nat.le_refl _) _).alloc (by simp) _).alloc (by simp; omega) _
  have T0 := first_tab w
  have F0 := hF.below B0
  have hr := F0.range
  have hI : ∀ k : Nat, k < 14 → ∀ W, (Instr.index 111 (.agg firstV.toArray) (.int .i64 k)).run Tryd.prog W = .ok (.agg #[.int .i64 (R k).pri, .string (R k).kind, .string (R k).name]) W := fun k hk W => ix k hk W
  clear F0 hF
  go_enter Tryd.func37, Tryd.ntmps37
  go_wp2_with (refine wpList_load_mid rfl 111 _ rfl 0 0 rfl firstV _ hr Tryd.underlying111 rfl (by kernel_rfl) ?_)
  clear hr hM
  go_loopw [11] (fun i wr => ∃ k : Nat, k ≤ 14 ∧ i = .int .i64 k ∧ Tab wr w.heap.size (w.heap.size + 1 + 1) w.heap.size (w.heap.size + 1) k k (mapF k) (mapB k) ∧ Below w.heap.size w wr) (fun i _ => 14 - (intOf i).toNat)
  case atStart => exact ⟨0, by omega, rfl, T0, B0⟩
  case round =>
    obtain ⟨k, hk, rfl, hT, hb⟩ := hrel
    by_cases hlt : k < 14
    · have hIk := hI k hlt
      have hA : Below wr.heap.size wr (wr.alloc (.cells #[.int .i64 (R k).pri, .string (R k).kind, .string (R k).name] 94)) := (Below.refl _ _).alloc (Nat.le_refl _) _
      have hT1 := hT.below hA
      have hb1 := hb.trans (hA.mono hb.size)
      have hp := pri_row k hlt
      clear hI
      go_wp2_with (first
        | (go_at_call 42; refine (kindOf_row k hlt _ (hKi.below hb1)).mono ?_; rintro e w' ⟨rfl, rfl⟩)
        | (go_at_call 45; refine (tput_any _ _ _ _ _ _ _ _ _ _ _ _ hT1 (by omega) (by omega) hp.1 hp.2).mono ?_; rintro e w2 ⟨rfl, hP⟩))
      go_roundw
      case rel => exact ⟨k + 1, by omega, by go_num, by rw [mapF_succ k hlt, mapB_succ k hlt]; exact hP.1, hb1.trans hP.2.1⟩
      case measure => simp [intOf]; omega
    · have : k = 14 := by omega
      subst this
      go_wp2
      go_ret
      exact ⟨_, rfl, _, _, hT, hb⟩
end Go.Proofs.YtoobbkckpabamaaDoor
