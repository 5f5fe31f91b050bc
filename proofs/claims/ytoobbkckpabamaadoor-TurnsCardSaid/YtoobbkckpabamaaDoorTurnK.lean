/- The document's list of operators and the two maps hold the same behind each turn. -/
import Derived.Test.YtoobbkckpabamaaDoorTurnJ
namespace Go.Proofs.YtoobbkckpabamaaDoor
open Go Go.RowKit Go.Maps Go.WideShapes
def nameIs (n : ByteArray) (t : Opr) : Bool := t.2.2.toList == n.toList
theorem del_perm {es : List (Lit × DataW Unit)} {l : List Opr} (p : es.Perm (l.map entry)) (n : ByteArray) :
    (es.filter fun q => !q.1.sameKey (.string n.data.toList)).Perm ((l.filter fun t => !nameIs n t).map entry) := by
  refine (p.filter _).trans ?_
  rw [List.filter_map]
  refine List.Perm.of_eq ?_
  congr 2
  funext t
  show (!(entry t).1.sameKey _) = _
  rw [same_name]
  rfl
theorem cut_isF (ts : List Opr) (n : ByteArray) : (ts.filter fun t => !keyB n true t).filter isF = (ts.filter isF).filter fun t => !nameIs n t := by
  rw [List.filter_filter, List.filter_filter]
  congr 1
  funext t
  unfold keyB isF nameIs
  cases frontB t.2.1 <;> simp
theorem cut_notF (ts : List Opr) (n : ByteArray) : (ts.filter fun t => !keyB n false t).filter notF = (ts.filter notF).filter fun t => !nameIs n t := by
  rw [List.filter_filter, List.filter_filter]
  congr 1
  funext t
  unfold keyB notF nameIs
  cases frontB t.2.1 <;> simp
theorem cut_isF' (ts : List Opr) (n : ByteArray) : (ts.filter fun t => !keyB n false t).filter isF = ts.filter isF := by
  rw [List.filter_filter]
  congr 1
  funext t
  unfold keyB isF
  cases frontB t.2.1 <;> simp
theorem cut_notF' (ts : List Opr) (n : ByteArray) : (ts.filter fun t => !keyB n true t).filter notF = ts.filter notF := by
  rw [List.filter_filter]
  congr 1
  funext t
  unfold keyB notF
  cases frontB t.2.1 <;> simp
theorem Corr.cut {ts : List Opr} {D1 D2 : DataW Unit} (h : Corr ts D1 D2) {k : ByteArray} (hk : kindB k = true) (n : ByteArray) :
    Corr (cutAt ts n (frontB k)) (delD (inF (numI k)) D1 n) (delD (!inF (numI k)) D2 n) := by
  rw [cut_filter h.sorted, inF_num hk]
  refine ⟨h.sorted.filter _, fun t ht => h.fine t (List.mem_filter.1 ht).1, ?_, ?_⟩
  · obtain ⟨es, rfl, p⟩ := h.d1
    cases frontB k
    · exact ⟨es, rfl, by rw [cut_isF']; exact p⟩
    · exact ⟨_, rfl, by rw [cut_isF]; exact del_perm p n⟩
  · obtain ⟨es, rfl, p⟩ := h.d2
    cases frontB k
    · exact ⟨_, rfl, by rw [cut_notF]; exact del_perm p n⟩
    · exact ⟨es, rfl, by rw [cut_notF']; exact p⟩
theorem put_del (D : DataW Unit) (hm : ∃ es, D = .map es) (n : ByteArray) (d : DataW Unit) : ∃ es, (D.del (.string n.data.toList)) = .map es ∧ D.put (.string n.data.toList) d = .map (DataW.insert (.string n.data.toList, d) es) := by
  obtain ⟨es, rfl⟩ := hm
  exact ⟨_, rfl, rfl⟩
theorem Corr.lay {ts : List Opr} {D1 D2 : DataW Unit} (h : Corr ts D1 D2) {p : Int} {k n : ByteArray} (hok : okTurn p k n = true) (hp : 0 < p) {i : Nat} (hf : Fits (cutAt ts n (frontB k)) (p, k, n) i) :
    Corr ((cutAt ts n (frontB k)).take i ++ (p, k, n) :: (cutAt ts n (frontB k)).drop i) (putD (inF (numI k)) D1 n p (numI k)) (putD (!inF (numI k)) D2 n p (numI k)) := by
  obtain ⟨d1, d2, d3, d4, d5⟩ := okTurn_more hok
  have hc := h.cut d3 n
  have hkey : ∀ t ∈ cutAt ts n (frontB k), keyB n (frontB k) t = false := by
    rw [cut_filter h.sorted]
    intro t ht
    simpa using (List.mem_filter.1 ht).2
  generalize hl : cutAt ts n (frontB k) = l at *
  have hp1 := lay_perm l (p, k, n) i
  refine ⟨lay_sorted hc.sorted hf hkey, fun t ht => ?_, ?_, ?_⟩
  · rcases List.mem_cons.1 (hp1.mem_iff.1 ht) with rfl | ht
    · exact ⟨by omega, d2, d3, d5⟩
    · exact hc.fine t ht
  · obtain ⟨es, he, pe⟩ := hc.d1
    rw [inF_num d3] at he ⊢
    refine (?_ : ∃ es', _ ∧ _)
    cases hF : frontB k
    · rw [hF] at he
      refine ⟨es, he, pe.trans (List.Perm.trans ?_ ((hp1.filter isF).map entry).symm)⟩
      rw [List.filter_cons_of_neg (by simp [isF, hF])]
    · rw [hF] at he
      obtain ⟨es0, he0, hput⟩ := put_del D1 (by obtain ⟨e, q, _⟩ := h.d1; exact ⟨e, q⟩) n (opD p (numI k))
      have e1 : es = es0 := by
        have : DataW.map es = DataW.map es0 := he.symm.trans he0
        cases this; rfl
      subst e1
      refine ⟨_, hput, (insert_perm _ _).trans (((pe.cons _)).trans ?_)⟩
      refine (List.Perm.trans ?_ ((hp1.filter isF).map entry).symm)
      rw [List.filter_cons_of_pos (by simp [isF, hF])]
      exact List.Perm.refl _
  · obtain ⟨es, he, pe⟩ := hc.d2
    rw [inF_num d3] at he ⊢
    refine (?_ : ∃ es', _ ∧ _)
    cases hF : frontB k
    · rw [hF] at he
      obtain ⟨es0, he0, hput⟩ := put_del D2 (by obtain ⟨e, q, _⟩ := h.d2; exact ⟨e, q⟩) n (opD p (numI k))
      have e1 : es = es0 := by
        have : DataW.map es = DataW.map es0 := he.symm.trans he0
        cases this; rfl
      subst e1
      refine ⟨_, hput, (insert_perm _ _).trans (((pe.cons _)).trans ?_)⟩
      refine (List.Perm.trans ?_ ((hp1.filter notF).map entry).symm)
      rw [List.filter_cons_of_pos (by simp [notF, hF])]
      exact List.Perm.refl _
    · rw [hF] at he
      refine ⟨es, he, pe.trans (List.Perm.trans ?_ ((hp1.filter notF).map entry).symm)⟩
      rw [List.filter_cons_of_neg (by simp [notF, hF])]
end Go.Proofs.YtoobbkckpabamaaDoor
