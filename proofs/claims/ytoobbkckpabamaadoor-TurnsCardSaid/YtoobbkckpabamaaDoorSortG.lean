/- The library's stable sort at elements of k cells: merging in place, whole. -/
import Derived.Test.YtoobbkckpabamaaDoorSortF
import Derived.Deep.CutRange
namespace Go.Proofs.YtoobbkckpabamaaDoor
open Go Go.RowKit Go.Lib Go.Sort Go.Shelf
section
variable {P : Program} {k : Nat} {α : Type} [Inhabited α]
/-- merging in place from a over m to b does its work -/
def SymC (P : Program) (enc : α → List Value) (k : Nat) (cf : α → α → Int) (lt' : α → α → Bool) (g : Nat) (cb : Array Value) (blk off cap sz : Nat) (w0 : World) (a m b : Nat) : Prop :=
  ∀ (d : Array α) (w : World), d.size = sz → SWK enc k w0 blk off d w → SortedIn lt' a m d → SortedIn lt' m b d → Cross (ltOf cf) lt' a m b d →
    Calls P 79 #[.slice (some ⟨blk, off, none⟩) sz cap, .int .i64 a, .int .i64 m, .int .i64 b, .func (.func g) #[] cb] w fun e w' => e = .returned (.tuple #[]) ∧ Merged lt' enc k w0 blk off a b d w'
theorem permIn_at {a b : Nat} {d d' : Array α} (h : PermIn a b d d') {p : Nat} (hp : b ≤ p) : d'[p]! = d[p]! := h.2.1 p (Or.inr hp)
set_option maxHeartbeats 16000000 in
set_option maxRecDepth 1000000 in
theorem sym_mid (L : StP P k) (enc : α → List Value) (cf : α → α → Int) (lt' : α → α → Bool) (F : Finer (ltOf cf) lt') (g : Nat) (cb : Array Value) (blk off cap a m b : Nat) (d0 d : Array α) (w0 w : World)
    (eg : ∀ args w, (callFunc g args).run P w = .ok (.enter g args) w) (hcmp : CmpLays P g cb enc k cf blk off d0.size w0) (R : RowK enc k w0 blk off d0) (hs : d0.size = d.size) (S : SWK enc k w0 blk off d w)
    (ham : a + 1 < m) (hmb : m + 1 < b) (hb : b ≤ d.size) (hsz : d.size < 4611686018427387904) (h1 : SortedIn lt' a m d) (h2 : SortedIn lt' m b d) (hC : Cross (ltOf cf) lt' a m b d)
    (IH : ∀ a' m' b', b' - a' < b - a → a' < m' → m' < b' → b' ≤ d.size → SymC P enc k cf lt' g cb blk off cap d.size w0 a' m' b') :
    Calls P 79 #[.slice (some ⟨blk, off, none⟩) d.size cap, .int .i64 a, .int .i64 m, .int .i64 b, .func (.func g) #[] cb] w fun e w' => e = .returned (.tuple #[]) ∧ Merged lt' enc k w0 blk off a b d w' := by
  have mixed := L.mixed; have t0 := L.t0; have a0 := L.a0; have z0 := L.z0; have v0 := L.v0; have t3 := L.t3; have a3 := L.a3; have z3 := L.z3; have v3 := L.v3; have t4 := L.t4; have a4 := L.a4; have z4 := L.z4; have v4 := L.v4; have t49 := L.t49; have a49 := L.a49; have z49 := L.z49; have v49 := L.v49; have t110 := L.t110; have a110 := L.a110; have z110 := L.z110; have v110 := L.v110; have aE := L.aE; have zE := L.zE; have t125 := L.t125; have a125 := L.a125; have z125 := L.z125; have v125 := L.v125
  have e81 : ∀ args w, (callFunc 81 args).run P w = .ok (.enter 81 args) w := enters_of L.f81 (by kernel_rfl) rfl
  have e79 : ∀ args w, (callFunc 79 args).run P w = .ok (.enter 79 args) w := enters_of L.f79 (by kernel_rfl) rfl
  have HC : Aside _ := hcmp
  have S0 : Aside _ := S
  have HS : Aside (SortedIn lt' a m d ∧ SortedIn lt' m b d ∧ Cross (ltOf cf) lt' a m b d) := ⟨h1, h2, hC⟩
  have HI : Aside _ := IH
  have F79 := L.f79
  obtain ⟨mid, hmid⟩ : ∃ mid : Nat, mid = (a + b) / 2 := ⟨_, rfl⟩
  have hmz : ((a : Int) + (b : Int)) / 2 = (mid : Int) := by omega
  have hm1 : a < mid := by omega
  have hm2 : mid < b := by omega
  obtain ⟨s0, r0, hcase⟩ : ∃ s0 r0 : Nat, (mid < m ∧ s0 = mid + m - b ∧ r0 = mid) ∨ (m ≤ mid ∧ s0 = a ∧ r0 = m) := by
    by_cases h : mid < m
    · exact ⟨_, _, Or.inl ⟨h, rfl, rfl⟩⟩
    · exact ⟨_, _, Or.inr ⟨by omega, rfl, rfl⟩⟩
  have f1 : a ≤ s0 := by omega
  have f2 : s0 ≤ r0 := by omega
  have f3 : r0 ≤ m := by omega
  have f4 : r0 ≤ mid := by omega
  have f5 : mid + m ≤ b + s0 := by omega
  have f6 : s0 = b ∨ mid + m - s0 = b ∨ s0 = a := by omega
  have f7 : r0 = mid ∨ r0 = m := by omega
  have two : ((m : Int) - (a : Int) == 1) = false := by rw [beq_eq_false_iff_ne]; omega
  have three : ((b : Int) - (m : Int) == 1) = false := by rw [beq_eq_false_iff_ne]; omega
  have HCA : Aside ((mid < m ∧ s0 = mid + m - b ∧ r0 = mid) ∨ (m ≤ mid ∧ s0 = a ∧ r0 = m)) := hcase
  clear hcmp S h1 h2 hC IH hcase hmid
  go_enter F79, Tryd.ntmps79
  go_upto_if 140 with fail
  clear two three
  go_cut [20, 21] from 135 to 146 (fun s20 s21 wx => s20 = .int .i64 (s0 : Int) ∧ s21 = .int .i64 (r0 : Int) ∧ wx = w)
  case first =>
    rcases HCA.out with ⟨hx, hs0, hr0⟩ | ⟨hx, hs0, hr0⟩
    · have hxz : (mid : Int) < (m : Int) := by omega
      have hsz0 : (mid : Int) + (m : Int) - (b : Int) = (s0 : Int) := by omega
      have hwz : IntKind.i64.wrap ((mid : Int) + (m : Int) - (b : Int)) = (s0 : Int) := by rw [IntKind.wrap_i64]; omega
      subst hr0
      clear hs0 hx
      go_wp2
      go_meet
      exact ⟨rfl, rfl, rfl⟩
    · have hxz : ¬ (mid : Int) < (m : Int) := by omega
      subst hs0
      subst hr0
      go_wp2
      go_meet
      exact ⟨rfl, rfl, rfl⟩
  case rest =>
    obtain ⟨rfl, rfl, rfl⟩ := hcut
    go_wp2
    go_loopg [20, 21] (r0 - s0) (fun gk s20 s21 wr => ∃ (s r : Nat), s20 = .int .i64 s ∧ s21 = .int .i64 r ∧ s0 ≤ s ∧ s ≤ r ∧ r ≤ r0 ∧ r - s ≤ gk ∧ Aside (SWK enc k w0 blk off d wr ∧ (s = s0 ∨ ltOf cf d[mid + m - s]! d[s - 1]! = false) ∧ (r = r0 ∨ ltOf cf d[mid + m - 1 - r]! d[r]! = true)))
    case atStart => exact ⟨s0, r0, rfl, rfl, Nat.le_refl _, f2, Nat.le_refl _, Nat.le_refl _, ⟨S0.out, Or.inl rfl, Or.inl rfl⟩⟩
    case round =>
      clear S0
      obtain ⟨s, r, rfl, rfl, hs0, hsr, hr0, hgk, S1⟩ := hrel
      by_cases hlt : s < r
      · have hltz : (s : Int) < (r : Int) := by omega
        obtain ⟨c, hc⟩ : ∃ c : Nat, c = (s + r) / 2 := ⟨_, rfl⟩
        have hcz : ((s : Int) + (r : Int)) / 2 = (c : Int) := by omega
        have hic : s ≤ c := by omega
        have hcj : c < r := by omega
        obtain ⟨q, hq⟩ : ∃ q : Nat, q = mid + m - 1 - c := ⟨_, rfl⟩
        have hqz : (mid : Int) + (m : Int) - 1 - (c : Int) = (q : Int) := by omega
        have rq : IntKind.i64.wrap ((mid : Int) + (m : Int) - 1 - (c : Int)) = (q : Int) := by rw [IntKind.wrap_i64]; omega
        have hqb : q < b := by omega
        clear hc
        have ea : ((q : Int)).toNat = q := by omega
        have pa : (0 : Int) ≤ (q : Int) := by omega
        have ba : (q : Int) < (d.size : Int) := by omega
        have ra : IntKind.i64.wrap (q : Int) = (q : Int) := by rw [IntKind.wrap_i64]; omega
        have ec : ((c : Int)).toNat = c := by omega
        have pc : (0 : Int) ≤ (c : Int) := by omega
        have bc : (c : Int) < (d.size : Int) := by omega
        obtain ⟨x, hx⟩ : ∃ x, x = d[q]! := ⟨_, rfl⟩
        obtain ⟨y, hy⟩ : ∃ x, x = d[c]! := ⟨_, rfl⟩
        have la := S1.out.1.ld R (by omega) P q (by omega)
        have lb := S1.out.1.ld R (by omega) P c (by omega)
        rw [← hx] at la
        rw [← hy] at lb
        have hcc := S1.out.1.cmp HC.out (by omega) x y
        by_cases hv : cf x y < 0
        · have HL : Aside (ltOf cf d[mid + m - 1 - c]! d[c]! = true) := by rw [← hq, ← hx, ← hy]; exact decide_eq_true hv
          have hd : decide (cf x y < 0) = true := decide_eq_true hv
          clear hx hy hq
          go_wp2_with fail
          go_quiet_grown (first | (go_at_fn g; refine Calls.grown_of (hcc _ _)))
          have S2 : Aside (SWK enc k w0 blk off d (grow (wr.drewN nq) osq) ∧ (s = s0 ∨ ltOf cf d[mid + m - s]! d[s - 1]! = false) ∧ (c = r0 ∨ ltOf cf d[mid + m - 1 - c]! d[c]! = true)) := ⟨S1.out.1.grown nq osq, S1.out.2.1, Or.inr HL.out⟩
          clear la lb hcc S1 HL
          generalize grow (wr.drewN nq) osq = w2 at S2 ⊢
          clear nq osq
          go_wp2
          go_roundg (c - s)
          case measure => omega
          case rel => exact ⟨s, c, rfl, rfl, hs0, by omega, by omega, Nat.le_refl _, S2⟩
        · have HL : Aside (ltOf cf d[mid + m - (c + 1)]! d[c + 1 - 1]! = false) := by rw [show mid + m - (c + 1) = q by omega, show c + 1 - 1 = c by omega, ← hx, ← hy]; exact decide_eq_false hv
          have hd : decide (cf x y < 0) = false := decide_eq_false hv
          clear hx hy hq
          go_wp2_with fail
          go_quiet_grown (first | (go_at_fn g; refine Calls.grown_of (hcc _ _)))
          have S2 : Aside (SWK enc k w0 blk off d (grow (wr.drewN nq) osq) ∧ (c + 1 = s0 ∨ ltOf cf d[mid + m - (c + 1)]! d[c + 1 - 1]! = false) ∧ (r = r0 ∨ ltOf cf d[mid + m - 1 - r]! d[r]! = true)) := ⟨S1.out.1.grown nq osq, Or.inr HL.out, S1.out.2.2⟩
          clear la lb hcc S1 HL
          generalize grow (wr.drewN nq) osq = w2 at S2 ⊢
          clear nq osq
          go_wp2
          go_roundg (r - (c + 1))
          case measure => omega
          case rel => exact ⟨c + 1, r, by go_num, rfl, by omega, by omega, hr0, Nat.le_refl _, S2⟩
      · have : s = r := by omega
        subst this
        obtain ⟨e, he⟩ : ∃ e : Nat, e = mid + m - s := ⟨_, rfl⟩
        have hez : (mid : Int) + (m : Int) - (s : Int) = (e : Int) := by omega
        have hwz : IntKind.i64.wrap ((mid : Int) + (m : Int) - (s : Int)) = (e : Int) := by rw [IntKind.wrap_i64]; omega
        have g1 : m ≤ e := by omega
        have g2 : e ≤ b := by omega
        have g3 : s + (e - m) = mid := by omega
        have hV : Aside (s < m → m < e → ltOf cf d[e - 1]! d[s]! = true) := by
          intro hx1 hx2
          rcases S1.out.2.2 with h | h
          · rcases f7 with h7 | h7 <;> omega
          · rw [show e - 1 = mid + m - 1 - s by omega]; exact h
        have hU : Aside (a < s → e < b → ltOf cf d[e]! d[s - 1]! = false) := by
          intro hx1 hx2
          rcases S1.out.2.1 with h | h
          · rcases f6 with h6 | h6 | h6 <;> omega
          · rw [he]; exact h
        have S2 : Aside (SWK enc k w0 blk off d wr) := S1.out.1
        clear S1 HCA f6 f7 he hgk hsr
        go_upto_region 39 with fail
        go_cut [185] from 178 to 185 (fun s185 wx => s185 = .bool (decide (s < m) && decide (m < e)) ∧ wx = wr)
        case first =>
          by_cases h1 : s < m
          all_goals by_cases h2 : m < e
          · have z1 : (s : Int) < (m : Int) := by omega
            have z2 : (m : Int) < (e : Int) := by omega
            go_wp2_with fail
            go_meet
            exact ⟨by simp [h1, h2], rfl⟩
          · have z1 : (s : Int) < (m : Int) := by omega
            have z2 : ¬ (m : Int) < (e : Int) := by omega
            go_wp2_with fail
            go_meet
            exact ⟨by simp [h1, h2], rfl⟩
          · have z1 : ¬ (s : Int) < (m : Int) := by omega
            go_wp2_with fail
            go_meet
            exact ⟨by simp [h1, h2], rfl⟩
          · have z1 : ¬ (s : Int) < (m : Int) := by omega
            go_wp2_with fail
            go_meet
            exact ⟨by simp [h1, h2], rfl⟩
        case rest =>
          obtain ⟨rfl, rfl⟩ := hcut
          go_upto_if 185 with fail
          go_cut [] from 178 to 191 (fun wx => ∃ d1, Aside (Left enc k w0 blk off a b d d1 (rot (fun i => d[i]!) s m e) wx))
          case first =>
            by_cases h : s < m ∧ m < e
            · have hbb : (decide (s < m) && decide (m < e)) = true := by simp [h.1, h.2]
              have hcall := rotate_any L enc g cb blk off cap s m e a b d0 d w0 wc R hs S2.out (by omega) h.1 h.2 g2 hb hsz
              go_wp2_with (go_at_fn 81; refine hcall.mono ?_; rintro e' w1 ⟨rfl, d1, S3⟩)
              go_meet
              exact ⟨d1, S3⟩
            · have hbb : (decide (s < m) && decide (m < e)) = false := by
                rw [Bool.and_eq_false_iff, decide_eq_false_iff_not, decide_eq_false_iff_not]; omega
              go_wp2_with fail
              go_meet
              exact ⟨d, S2.out, rfl, permIn_refl _ _ _, is_rot_self d s m e (by omega)⟩
          case rest =>
            obtain ⟨d1, S3⟩ := hcut
            have hd1 : d1.size = d.size := S3.out.2.1
            have SP : Aside _ := sym_split F (s := s) (e := e) (mid := mid) (d1 := d1) (by omega) (by omega) g1 g2 g3 HS.out.1 HS.out.2.1 HS.out.2.2 hV.out hU.out S3.out.2.2.2 hd1 hb
            have S4 : Aside (SWK enc k w0 blk off d1 wc ∧ PermIn a b d d1) := ⟨S3.out.1, S3.out.2.2.1⟩
            clear S2 S3 hV hU HS
            go_upto_region 41 with fail
            go_cut [199] from 192 to 199 (fun s199 wx => s199 = .bool (decide (a < s) && decide (s < mid)) ∧ wx = wc)
            case first =>
              by_cases h1 : a < s
              all_goals by_cases h2 : s < mid
              · have z1 : (a : Int) < (s : Int) := by omega
                have z2 : (s : Int) < (mid : Int) := by omega
                go_wp2_with fail
                go_meet
                exact ⟨by simp [h1, h2], rfl⟩
              · have z1 : (a : Int) < (s : Int) := by omega
                have z2 : ¬ (s : Int) < (mid : Int) := by omega
                go_wp2_with fail
                go_meet
                exact ⟨by simp [h1, h2], rfl⟩
              · have z1 : ¬ (a : Int) < (s : Int) := by omega
                go_wp2_with fail
                go_meet
                exact ⟨by simp [h1, h2], rfl⟩
              · have z1 : ¬ (a : Int) < (s : Int) := by omega
                go_wp2_with fail
                go_meet
                exact ⟨by simp [h1, h2], rfl⟩
            case rest =>
              obtain ⟨rfl, rfl⟩ := hcut
              go_upto_if 199 with fail
              go_cut [] from 192 to 205 (fun wx => ∃ d2, Aside (SWK enc k w0 blk off d2 wx ∧ PermIn a mid d1 d2 ∧ SortedIn lt' a mid d2))
              case first =>
                by_cases h : a < s ∧ s < mid
                · have hbb : (decide (a < s) && decide (s < mid)) = true := by simp [h.1, h.2]
                  have hcall := HI.out a s mid (by omega) h.1 h.2 (by omega) d1 wc hd1 S4.out.1 SP.out.1 SP.out.2.1 SP.out.2.2.1
                  go_wp2_with (go_at_fn 79; refine hcall.mono ?_; rintro e' w1 ⟨rfl, d2, S5⟩)
                  go_meet
                  exact ⟨d2, S5⟩
                · have hbb : (decide (a < s) && decide (s < mid)) = false := by
                    rw [Bool.and_eq_false_iff, decide_eq_false_iff_not, decide_eq_false_iff_not]; omega
                  go_wp2_with fail
                  go_meet
                  refine ⟨d1, S4.out.1, permIn_refl _ _ _, ?_⟩
                  by_cases hx : s = a
                  · subst hx; exact SP.out.2.1
                  · have : s = mid := by omega
                    subst this; exact SP.out.1
              case rest =>
                obtain ⟨d2, S5⟩ := hcut
                have hd2 : d2.size = d.size := by rw [S5.out.2.1.1, hd1]
                have hp2 : ∀ p, mid ≤ p → d2[p]! = d1[p]! := fun p hp => permIn_at S5.out.2.1 hp
                have SQ : Aside (SortedIn lt' mid e d2 ∧ SortedIn lt' e b d2 ∧ Cross (ltOf cf) lt' mid e b d2) := by
                  obtain ⟨_, _, _, q4, q5, q6, _⟩ := SP.out
                  refine ⟨fun i j hi hij hj => ?_, fun i j hi hij hj => ?_, fun i j hi hij hj hj2 => ?_⟩
                  · rw [hp2 i hi, hp2 j (by omega)]; exact q4 i j hi hij hj
                  · rw [hp2 i (by omega), hp2 j (by omega)]; exact q5 i j hi hij hj
                  · rw [hp2 i hi, hp2 j (by omega)]; exact q6 i j hi hij hj hj2
                have JO : Aside (∀ d3 : Array α, PermIn mid b d2 d3 → SortedIn lt' mid b d3 → PermIn a b d d3 ∧ SortedIn lt' a b d3) := fun d3 p3 s3 => by
                  have := sym_join (d1 := d1) (by omega) (by omega) (by omega) SP.out.2.2.2.2.2.2 S5.out.2.1 S5.out.2.2 p3 s3
                  exact ⟨permIn_trans _ _ _ _ _ S4.out.2 this.1, this.2⟩
                have S6 : Aside (SWK enc k w0 blk off d2 wc) := S5.out.1
                clear S4 S5 SP hp2
                go_upto_region 43 with fail
                go_cut [213] from 206 to 213 (fun s213 wx => s213 = .bool (decide (mid < e) && decide (e < b)) ∧ wx = wc)
                case first =>
                  by_cases h1 : mid < e
                  all_goals by_cases h2 : e < b
                  · have z1 : (mid : Int) < (e : Int) := by omega
                    have z2 : (e : Int) < (b : Int) := by omega
                    go_wp2_with fail
                    go_meet
                    exact ⟨by simp [h1, h2], rfl⟩
                  · have z1 : (mid : Int) < (e : Int) := by omega
                    have z2 : ¬ (e : Int) < (b : Int) := by omega
                    go_wp2_with fail
                    go_meet
                    exact ⟨by simp [h1, h2], rfl⟩
                  · have z1 : ¬ (mid : Int) < (e : Int) := by omega
                    go_wp2_with fail
                    go_meet
                    exact ⟨by simp [h1, h2], rfl⟩
                  · have z1 : ¬ (mid : Int) < (e : Int) := by omega
                    go_wp2_with fail
                    go_meet
                    exact ⟨by simp [h1, h2], rfl⟩
                case rest =>
                  obtain ⟨rfl, rfl⟩ := hcut
                  by_cases h : mid < e ∧ e < b
                  · have hbb : (decide (mid < e) && decide (e < b)) = true := by simp [h.1, h.2]
                    have hcall := HI.out mid e b (by omega) h.1 h.2 hb d2 wc hd2 S6.out SQ.out.1 SQ.out.2.1 SQ.out.2.2
                    go_wp2_with (go_at_fn 79; refine hcall.mono ?_; rintro e' w1 ⟨rfl, d3, S7, p7, s7⟩)
                    go_end0
                    exact ⟨rfl, d3, S7, JO.out d3 p7 s7⟩
                  · have hbb : (decide (mid < e) && decide (e < b)) = false := by
                      rw [Bool.and_eq_false_iff, decide_eq_false_iff_not, decide_eq_false_iff_not]; omega
                    go_wp2_with fail
                    go_end0
                    refine ⟨rfl, d2, S6.out, JO.out d2 (permIn_refl _ _ _) ?_⟩
                    by_cases hx : e = b
                    · subst hx; exact SQ.out.1
                    · have : e = mid := by omega
                      subst this; exact SQ.out.2.1
theorem sym_any (L : StP P k) (enc : α → List Value) (cf : α → α → Int) (lt' : α → α → Bool) (F : Finer (ltOf cf) lt') (g : Nat) (cb : Array Value) (blk off cap : Nat) (d0 : Array α) (w0 : World)
    (eg : ∀ args w, (callFunc g args).run P w = .ok (.enter g args) w) (hcmp : CmpLays P g cb enc k cf blk off d0.size w0) (R : RowK enc k w0 blk off d0) (hsz : d0.size < 4611686018427387904) :
    ∀ N a m b : Nat, b - a ≤ N → a < m → m < b → b ≤ d0.size → SymC P enc k cf lt' g cb blk off cap d0.size w0 a m b
  | 0, a, m, b, hN, ham, hmb, hb => by omega
  | N + 1, a, m, b, hN, ham, hmb, hb => by
    intro d w hd S h1 h2 hC
    rw [← hd]
    by_cases x1 : m = a + 1
    · subst x1
      exact sym_left L enc cf lt' F g cb blk off cap a b d0 d w0 w eg hcmp R hd.symm S hmb (by omega) (by omega) h2 hC
    · by_cases x2 : b = m + 1
      · subst x2
        exact sym_right L enc cf lt' F g cb blk off cap a m d0 d w0 w eg hcmp R hd.symm S (by omega) (by omega) (by omega) h1 hC
      · refine sym_mid L enc cf lt' F g cb blk off cap a m b d0 d w0 w eg hcmp R hd.symm S (by omega) (by omega) (by omega) (by omega) h1 h2 hC fun a' m' b' hlt hx hy hz => ?_
        rw [hd]
        exact sym_any L enc cf lt' F g cb blk off cap d0 w0 eg hcmp R hsz N a' m' b' (by omega) hx hy (by omega)
end
end Go.Proofs.YtoobbkckpabamaaDoor
