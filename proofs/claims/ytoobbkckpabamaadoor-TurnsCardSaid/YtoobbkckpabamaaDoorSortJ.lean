/- The library's stable sort over this program: cmp.Compare at strings, the closure by names, insertion sort laid, and the sort itself. -/
import Derived.Test.YtoobbkckpabamaaDoorSortI
import Derived.Test.YtoobbkckpabamaaDoorTurnI
import Derived.Laws.Cover1
namespace Go.Proofs.YtoobbkckpabamaaDoor
open Go Go.RowKit Go.Lib Go.Sort Go.Shelf
/-- by names -/
def cmpN (a b : Opr) : Int := if Op.bytesLess a.2.2.toList b.2.2.toList = true then -1 else if (a.2.2.toList == b.2.2.toList) = true then 0 else 1
theorem isNaN_any (x : ByteArray) (w : World) : Calls Tryd.prog 66 #[.string x] w fun e w' => e = .returned (.bool false) ∧ w' = w := by
  go_enter Tryd.func66, Tryd.ntmps66
  go_wp2
  go_ret
  exact ⟨ret_bool (by simp), rfl⟩
def cmpS (x y : ByteArray) : Int := if Op.bytesLess x.toList y.toList = true then -1 else if (x.toList == y.toList) = true then 0 else 1
theorem compare_any (x y : ByteArray) (w : World) : Calls Tryd.prog 49 #[.string x, .string y] w fun e w' => e = .returned (.int .i64 (cmpS x y)) ∧ w' = w := by
  unfold cmpS
  cases h1 : Op.bytesLess x.toList y.toList
  all_goals cases h2 : (x.toList == y.toList)
  all_goals
    go_enter Tryd.func49, Tryd.ntmps49
    go_wp2_with (go_at_call 66; refine (isNaN_any _ _).mono ?_; rintro e w' ⟨rfl, hw⟩; have hw := hw.symm; subst hw)
    go_ret
    exact ⟨by simp, rfl⟩
theorem closure_any (x y : Opr) (W : World) : Calls Tryd.prog 48 #[.agg (cellsOp x).toArray, .agg (cellsOp y).toArray] W fun e w' => e = .returned (.int .i64 (cmpN x y)) ∧ ∃ q os', w' = grow (W.drewN q) os' := by
  have hcon := fun W' => compare_any x.2.2 y.2.2 W'
  rw [show cmpN x y = cmpS x.2.2 y.2.2 from rfl]
  generalize cmpS x.2.2 y.2.2 = r at hcon ⊢
  simp only [cellsOp]
  go_enter Tryd.func48, Tryd.ntmps48
  go_wp2_with (go_at_call 49; refine (hcon _).mono ?_; rintro e w' ⟨rfl, rfl⟩)
  go_ret
  exact ⟨rfl, 0, _, by rw [alloc_eq_grow, alloc_eq_grow, grow_grow]; rfl⟩
theorem cmpLays_any (blk off size : Nat) (w : World) : CmpLays Tryd.prog 48 #[] cellsOp 3 cmpN blk off size w := fun _ _ _ _ x y => closure_any x y _
theorem ltN (x y : Opr) : ltOf cmpN x y = Op.bytesLess x.2.2.toList y.2.2.toList := by
  unfold ltOf cmpN
  cases h1 : Op.bytesLess x.2.2.toList y.2.2.toList
  · cases h2 : (x.2.2.toList == y.2.2.toList) <;> simp
  · simp
theorem finer_less : Finer (ltOf cmpN) lessB where
  swo := {
    irrefl := less_irrefl
    trans := fun x y z h1 h2 => less_trans h1 h2
    ntrans := fun x y z h1 h2 => by
      rw [Bool.eq_false_iff, Ne, less_iff] at *
      rintro (h | ⟨h3, h4, h5⟩)
      · cases hxy : Op.bytesLess x.2.2.toList y.2.2.toList with
        | true => exact h1 (Or.inl hxy)
        | false =>
          cases hyz : Op.bytesLess y.2.2.toList z.2.2.toList with
          | true => exact h2 (Or.inl hyz)
          | false =>
            cases hyx : Op.bytesLess y.2.2.toList x.2.2.toList with
            | true => exact h2 (Or.inl (bl_trans hyx h))
            | false =>
              have e := bl_total _ _ hxy hyx
              rw [e, hyz] at h; cases h
      · cases hxy : Op.bytesLess x.2.2.toList y.2.2.toList with
        | true => exact h1 (Or.inl hxy)
        | false =>
          cases hyz : Op.bytesLess y.2.2.toList z.2.2.toList with
          | true => exact h2 (Or.inl hyz)
          | false =>
            have e : x.2.2.toList = y.2.2.toList := by
              refine bl_total _ _ hxy ?_
              cases hyx : Op.bytesLess y.2.2.toList x.2.2.toList with
              | false => rfl
              | true => rw [← h3] at hyz; rw [hyx] at hyz; cases hyz
            cases hy : frontB y.2.1 with
            | true => exact h2 (Or.inr ⟨e.symm.trans h3, hy, h5⟩)
            | false => exact h1 (Or.inr ⟨e, h4, hy⟩) }
  sub := fun x y h => by
    rw [ltN] at h
    rw [less_iff]
    exact Or.inl h
theorem stP : StP Tryd.prog 3 :=
  ⟨by kernel_rfl, Tryd.func47, Tryd.func65, Tryd.func79, Tryd.func81, Tryd.func82, Tryd.underlying0, Tryd.isAgg0, Tryd.sizeOf0, Tryd.zeroValue0, Tryd.underlying3, Tryd.isAgg3, Tryd.sizeOf3, Tryd.zeroValue3, Tryd.underlying4, Tryd.isAgg4, Tryd.sizeOf4, Tryd.zeroValue4,
    Tryd.underlying55, Tryd.isAgg55, Tryd.sizeOf55, Tryd.zeroValue55, Tryd.underlying110, Tryd.isAgg110, Tryd.sizeOf110, Tryd.zeroValue110, Tryd.underlying125, Tryd.isAgg125, Tryd.sizeOf125, Tryd.zeroValue125, Tryd.isAgg94, Tryd.sizeOf94⟩
/-- the library's numbers in this dump -/
def insRen : Ren := ⟨fun | 20 => 78 | n => n, fun | 22 => 55 | 24 => 94 | 25 => 110 | n => n, fun n => n⟩
theorem insLays : SlLaysF0.n20 Tryd.prog insRen :=
  { mixed := by kernel_rfl
    f20 := ⟨Tryd.f78.name, by decide, by kernel_rfl⟩
    t0 := Tryd.underlying0, a0 := Tryd.isAgg0, z0 := Tryd.sizeOf0, v0 := Tryd.zeroValue0
    t3 := Tryd.underlying3, a3 := Tryd.isAgg3, z3 := Tryd.sizeOf3, v3 := Tryd.zeroValue3
    t4 := Tryd.underlying4, a4 := Tryd.isAgg4, z4 := Tryd.sizeOf4, v4 := Tryd.zeroValue4
    t22 := Tryd.underlying55, a22 := Tryd.isAgg55, z22 := Tryd.sizeOf55, v22 := Tryd.zeroValue55
    t25 := Tryd.underlying110, a25 := Tryd.isAgg110, z25 := Tryd.sizeOf110, v25 := Tryd.zeroValue110 }
theorem eg48 (args : Array Value) (w : World) : (callFunc 48 args).run Tryd.prog w = .ok (.enter 48 args) w := enters_of Tryd.func48 (by kernel_rfl) rfl args w
theorem eg78 (args : Array Value) (w : World) : (callFunc 78 args).run Tryd.prog w = .ok (.enter 78 args) w := enters_of Tryd.func78 (by kernel_rfl) rfl args w
theorem insC (blk off cap n : Nat) (d0 : Array Opr) (w0 : World) (R : RowK cellsOp 3 w0 blk off d0) (hn : d0.size = n) (hsz : n < 1099511627776) : InsC Tryd.prog cellsOp 3 cmpN 48 #[] blk off cap n w0 := by
  intro a b d w hd hab hb S
  have hs : d.size = d0.size := by omega
  have H := S.holds R.hblk R.hH hs
  have hcall := AnyQ.insertionSortCmpFunc insLays 3 Tryd.isAgg94 Tryd.sizeOf94 cellsOp R.hk R.h1 cmpN 48 #[] blk off cap a b d w eg48 (cmpLays_any blk off d.size w) H (S.lt R.hblk) hab (by omega) (by omega)
  rw [hd] at hcall
  refine hcall.mono ?_
  rintro e w' ⟨rfl, m, os, rfl⟩
  refine ⟨rfl, S.on R.hblk m _ os ?_⟩
  by_cases h : a = b
  · subst h
    unfold insertionSort
    rw [insOuter, if_neg (by omega)]
  · have sz : ∀ (q i : Nat) (x : Array Opr), (insInner (ltOf cmpN) i q x).size = x.size := by
      intro q
      induction q with
      | zero => intro i x; unfold insInner; rfl
      | succ q ih =>
        intro i x
        unfold insInner
        split
        · rw [ih, swp_size]
        · rfl
    have sz2 : ∀ (q i : Nat) (x : Array Opr), b - i = q → (insOuter (ltOf cmpN) a b i x).size = x.size := by
      intro q
      induction q with
      | zero => intro i x hq; rw [insOuter, if_neg (by omega)]
      | succ q ih =>
        intro i x hq
        rw [insOuter, if_pos (by omega), ih _ _ (by omega), sz]
    exact sz2 _ _ _ rfl
end Go.Proofs.YtoobbkckpabamaaDoor
