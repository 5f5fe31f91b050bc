/- The order of operators, by name and in front first: it is a strict order, and one of two operators of unlike keys is less. -/
import Derived.Test.YtoobbkckpabamaaDoorTurnD
import Derived.Test.YtoobbkckpabamaaDoorTurnF
namespace Go.Proofs.YtoobbkckpabamaaDoor
open Go Go.RowKit
theorem bl_irrefl : ∀ x : List UInt8, Op.bytesLess x x = false
  | [] => rfl
  | a :: x => by simp [Op.bytesLess, bl_irrefl x]
theorem bl_trans : ∀ {x y z : List UInt8}, Op.bytesLess x y = true → Op.bytesLess y z = true → Op.bytesLess x z = true
  | [], [], _, h, _ => by simp [Op.bytesLess] at h
  | [], _ :: _, [], _, h => by simp [Op.bytesLess] at h
  | [], _ :: _, _ :: _, _, _ => by simp [Op.bytesLess]
  | _ :: _, [], _, h, _ => by simp [Op.bytesLess] at h
  | _ :: _, _ :: _, [], _, h => by simp [Op.bytesLess] at h
  | a :: x, b :: y, c :: z, h1, h2 => by
    have ih := @bl_trans x y z
    simp only [Op.bytesLess, Bool.or_eq_true, Bool.and_eq_true, decide_eq_true_eq, beq_iff_eq, UInt8.lt_iff_toNat_lt] at h1 h2 ⊢
    rcases h1 with h1 | ⟨rfl, h1⟩ <;> rcases h2 with h2 | ⟨rfl, h2⟩
    · exact Or.inl (by omega)
    · exact Or.inl h1
    · exact Or.inl h2
    · exact Or.inr ⟨rfl, ih h1 h2⟩
theorem bl_total : ∀ x y : List UInt8, Op.bytesLess x y = false → Op.bytesLess y x = false → x = y
  | [], [], _, _ => rfl
  | [], _ :: _, h, _ => by simp [Op.bytesLess] at h
  | _ :: _, [], _, h => by simp [Op.bytesLess] at h
  | a :: x, b :: y, h1, h2 => by
    have ih := bl_total x y
    simp only [Op.bytesLess, Bool.or_eq_false_iff, Bool.and_eq_false_iff, decide_eq_false_iff_not, UInt8.lt_iff_toNat_lt] at h1 h2
    have hab : a = b := UInt8.toNat_inj.1 (by omega)
    subst hab
    rw [ih (by simpa using h1.2) (by simpa using h2.2)]
theorem less_iff (a b : Opr) : lessB a b = true ↔ Op.bytesLess a.2.2.toList b.2.2.toList = true ∨ (a.2.2.toList = b.2.2.toList ∧ frontB a.2.1 = true ∧ frontB b.2.1 = false) := by
  simp only [lessB, Bool.or_eq_true, Bool.and_eq_true, beq_iff_eq, Bool.not_eq_true', and_assoc]
theorem less_irrefl (a : Opr) : lessB a a = false := by
  rw [Bool.eq_false_iff, Ne, less_iff]
  rintro (h | ⟨_, h1, h2⟩)
  · rw [bl_irrefl] at h; cases h
  · rw [h1] at h2; cases h2
theorem less_trans {a b c : Opr} (h1 : lessB a b = true) (h2 : lessB b c = true) : lessB a c = true := by
  rw [less_iff] at *
  rcases h1 with h1 | ⟨e1, f1, g1⟩ <;> rcases h2 with h2 | ⟨e2, f2, g2⟩
  · exact Or.inl (bl_trans h1 h2)
  · exact Or.inl (e2 ▸ h1)
  · exact Or.inl (e1 ▸ h2)
  · rw [f2] at g1; cases g1
/-- two operators of one name and one sort -/
def keyB (n : ByteArray) (fr : Bool) (t : Opr) : Bool := t.2.2.toList == n.toList && frontB t.2.1 == fr
theorem less_total {a b : Opr} (hk : keyB b.2.2 (frontB b.2.1) a = false) (h : lessB a b = false) : lessB b a = true := by
  rw [Bool.eq_false_iff, Ne, less_iff] at h
  rw [less_iff]
  by_cases h1 : Op.bytesLess b.2.2.toList a.2.2.toList = true
  · exact Or.inl h1
  · have h2 : Op.bytesLess a.2.2.toList b.2.2.toList = false := by
      rw [Bool.eq_false_iff]; exact fun e => h (Or.inl e)
    have e := bl_total _ _ h2 (by simpa using h1)
    have hf : (frontB a.2.1 == frontB b.2.1) = false := by simpa [keyB, e] using hk
    refine Or.inr ⟨e.symm, ?_⟩
    cases ha : frontB a.2.1 <;> cases hb : frontB b.2.1
    · simp [ha, hb] at hf
    · exact ⟨rfl, rfl⟩
    · exact absurd (Or.inr ⟨e, ha, hb⟩) h
    · simp [ha, hb] at hf
/-- in a sorted list nothing stands twice -/
theorem less_key {a b : Opr} (h : lessB a b = true) (n : ByteArray) (fr : Bool) (ha : keyB n fr a = true) (hb : keyB n fr b = true) : False := by
  simp only [keyB, Bool.and_eq_true, beq_iff_eq] at ha hb
  rw [less_iff] at h
  rcases h with h | ⟨_, h1, h2⟩
  · rw [ha.1, hb.1, bl_irrefl] at h; cases h
  · rw [ha.2] at h1; rw [hb.2] at h2; rw [h1] at h2; cases h2
theorem key_less {a b : Opr} (n : ByteArray) (fr : Bool) (h : lessB a b = true ∨ lessB b a = true) (ha : keyB n fr a = true) : keyB n fr b = false := by
  rw [Bool.eq_false_iff]
  intro hb
  rcases h with h | h
  · exact less_key h n fr ha hb
  · exact less_key h n fr hb ha
theorem findAt_key (ts : List Opr) (n : ByteArray) (fr : Bool) : findAt ts n fr = ts.findIdx? (keyB n fr) := rfl
def Sorted (ts : List Opr) : Prop := ts.Pairwise fun a b => lessB a b = true
/-- taking one away is leaving out its key -/
theorem cut_filter : ∀ {ts : List Opr} (_ : Sorted ts) (n : ByteArray) (fr : Bool), cutAt ts n fr = ts.filter fun t => !keyB n fr t
  | [], _, n, fr => by simp [cutAt, findAt_key]
  | t :: ts, h, n, fr => by
    rw [Sorted, List.pairwise_cons] at h
    have ih := cut_filter h.2 n fr
    unfold cutAt at ih ⊢
    rw [findAt_key] at ih ⊢
    rw [List.findIdx?_cons]
    cases hk : keyB n fr t
    · simp only [hk, Bool.false_eq_true, if_false, List.filter_cons, Bool.not_false, if_true]
      cases hf : ts.findIdx? (keyB n fr) with
      | none => rw [hf] at ih; simp only [Option.map_none]; rw [← ih]
      | some i => rw [hf] at ih; simp only [Option.map_some, List.eraseIdx_cons_succ]; rw [← ih]
    · simp only [hk, if_true, List.eraseIdx_cons_zero, List.filter_cons, Bool.not_true, Bool.false_eq_true, if_false]
      symm
      rw [List.filter_eq_self]
      intro a ha
      rw [key_less n fr (Or.inl (h.1 a ha)) hk]
      rfl
end Go.Proofs.YtoobbkckpabamaaDoor
