/- The two Sessions side by side, the library's and the document's: what stands between two steps. -/
import Derived.Test.YtoobbkckpabamaaDoorTurnM
namespace Go.Proofs.YtoobbkckpabamaaDoor
open Go Go.RowKit Go.Maps
theorem turned_nil {w w' : World} (h : Below w.heap.size w w') : Turned w w' [] := ⟨h.os, h.tape, h.output, h.size, fun q hq _ => h.block q hq⟩
theorem SRef.kept {w w' : World} {S : List Nat} {rb : Nat} {ts : List Opr} (h : SRef rb w ts) (ht : Turned w w' S) (hs : ∀ s ∈ S, s < rb) : SRef rb w' ts := by
  obtain ⟨v, hc, hf, ho⟩ := h
  have no : ∀ q, rb ≤ q → q ∉ S := fun q hq hm => by have := hs q hm; omega
  refine ⟨v, ht.cell (no rb (Nat.le_refl _)) hc, (ht.froz (lt_cell hc) (no rb (Nat.le_refl _))).trans hf, ho.1, ?_⟩
  rcases ho.2 with hn | ⟨g, cap, cur, rfl, hb, hg, rest⟩
  · exact Or.inl hn
  · have hl : g < w.heap.size := by
      by_cases hl : g < w.heap.size
      · exact hl
      · rw [Array.getElem?_eq_none (by omega)] at hg; cases hg
    exact Or.inr ⟨g, cap, cur, rfl, hb, (ht.block g hl (no g (by omega))).trans hg, rest⟩
/-- the two Sessions side by side -/
structure Inv (w : World) (B bb sb tb m1 m2 rb : Nat) (ts : List Opr) (D1 D2 : DataW Unit) : Prop where
  b0 : w.cell? ⟨bb, 0, none⟩ = some (.pointer (some ⟨sb, 0, none⟩))
  b1 : w.cell? ⟨bb, 1, none⟩ = some (.pointer (some ⟨rb, 0, none⟩))
  sess : Sess w B sb tb m1 m2 D1 D2
  ref : SRef rb w ts
  corr : Corr ts D1 D2
  len : ts.length ≤ 100
  ls : sb < rb
  lr : rb < bb
  low : 2 < B
  kinds : Kinds w
  sorts : SortsA w
theorem Inv.fresh {w w' : World} {B bb sb tb m1 m2 rb : Nat} {ts : List Opr} {D1 D2 : DataW Unit} (h : Inv w B bb sb tb m1 m2 rb ts D1 D2) (hb : Below w.heap.size w w') : Inv w' B bb sb tb m1 m2 rb ts D1 D2 :=
  ⟨keep hb h.b0, keep hb h.b1, h.sess.kept (turned_nil hb) (fun _ hs => by cases hs), h.ref.kept (turned_nil hb) (fun _ hs => by cases hs), h.corr, h.len, h.ls, h.lr, h.low, h.kinds.below hb, h.sorts.below hb⟩
end Go.Proofs.YtoobbkckpabamaaDoor
