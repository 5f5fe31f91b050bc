/- The library's stable sort at elements of k cells: swapRange and rotate, from a world of the sort's to a world of the sort's. -/
import Derived.Test.YtoobbkckpabamaaDoorSortB
import Derived.Test.YtoobbkckpabamaaDoorProg
import Derived.Shelf.SlSortCmp.KitK
import Derived.Sort.WalkB2
import Derived.Sort.WalkB12
import Derived.Deep.LoopGhost
import Derived.KernelRfl
namespace Go.Proofs.YtoobbkckpabamaaDoor
open Go Go.RowKit Go.Lib Go.Sort Go.Shelf
/-- what a program bears of the stable sort: the bodies, and the types that they name -/
structure StP (P : Program) (k : Nat) : Prop where
  mixed : P.follows .mixedOrders = true
  f47 : P.funcs[47]? = some Tryd.f47
  f65 : P.funcs[65]? = some Tryd.f65
  f79 : P.funcs[79]? = some Tryd.f79
  f81 : P.funcs[81]? = some Tryd.f81
  f82 : P.funcs[82]? = some Tryd.f82
  t0 : P.underlying 0 = some (TypeDesc.tuple #[])
  a0 : ∀ w, (isAgg 0).run P w = .ok false w
  z0 : ∀ w, (Go.sizeOf 0).run P w = .ok 1 w
  v0 : ∀ w, (zeroValue 0).run P w = .ok (Value.tuple #[]) w
  t3 : P.underlying 3 = some (TypeDesc.int IntKind.i64)
  a3 : ∀ w, (isAgg 3).run P w = .ok false w
  z3 : ∀ w, (Go.sizeOf 3).run P w = .ok 1 w
  v3 : ∀ w, (zeroValue 3).run P w = .ok (Value.int IntKind.i64 0) w
  t4 : P.underlying 4 = some (TypeDesc.bool)
  a4 : ∀ w, (isAgg 4).run P w = .ok false w
  z4 : ∀ w, (Go.sizeOf 4).run P w = .ok 1 w
  v4 : ∀ w, (zeroValue 4).run P w = .ok (Value.bool false) w
  t49 : P.underlying 55 = some (TypeDesc.slice 94)
  a49 : ∀ w, (isAgg 55).run P w = .ok false w
  z49 : ∀ w, (Go.sizeOf 55).run P w = .ok 1 w
  v49 : ∀ w, (zeroValue 55).run P w = .ok (Value.slice none 0 0) w
  t110 : P.underlying 110 = some (TypeDesc.func #[94, 94] #[3] false)
  a110 : ∀ w, (isAgg 110).run P w = .ok false w
  z110 : ∀ w, (Go.sizeOf 110).run P w = .ok 1 w
  v110 : ∀ w, (zeroValue 110).run P w = .ok (Value.nilFunc) w
  t125 : P.underlying 125 = some (TypeDesc.int IntKind.u64)
  a125 : ∀ w, (isAgg 125).run P w = .ok false w
  z125 : ∀ w, (Go.sizeOf 125).run P w = .ok 1 w
  v125 : ∀ w, (zeroValue 125).run P w = .ok (Value.int IntKind.u64 0) w
  aE : ∀ w, (isAgg 94).run P w = .ok true w
  zE : ∀ w, (Go.sizeOf 94).run P w = .ok k w
section
variable {P : Program} {k : Nat} {α : Type} [Inhabited α]
/-- what a step of the sort leaves: a world of the sort's, the row's places permuted from lo to hi, told by f -/
def Left (enc : α → List Value) (k : Nat) (w0 : World) (blk off lo hi : Nat) (d d' : Array α) (f : Nat → α) (w' : World) : Prop :=
  SWK enc k w0 blk off d' w' ∧ d'.size = d.size ∧ PermIn lo hi d d' ∧ Is d' f
set_option maxHeartbeats 4000000 in
set_option maxRecDepth 1000000 in
theorem swapRange_any (L : StP P k) (enc : α → List Value) (g : Nat) (cb : Array Value) (blk off cap a b n lo hi : Nat) (d0 d : Array α) (w0 w : World)
    (R : RowK enc k w0 blk off d0) (hs : d0.size = d.size) (S : SWK enc k w0 blk off d w) (hlo : lo ≤ a) (hab : a + n ≤ b) (hb : b + n ≤ hi) (hhi : hi ≤ d.size) (hsz : d.size < 4611686018427387904) :
    Calls P 82 #[.slice (some ⟨blk, off, none⟩) d.size cap, .int .i64 a, .int .i64 b, .int .i64 n, .func (.func g) #[] cb] w fun e w' => e = .returned (.tuple #[]) ∧ ∃ d', Left enc k w0 blk off lo hi d d' (swr (fun i => d[i]!) a b n) w' := by
  have mixed := L.mixed; have t0 := L.t0; have a0 := L.a0; have z0 := L.z0; have v0 := L.v0; have t3 := L.t3; have a3 := L.a3; have z3 := L.z3; have v3 := L.v3; have t4 := L.t4; have a4 := L.a4; have z4 := L.z4; have v4 := L.v4; have t49 := L.t49; have a49 := L.a49; have z49 := L.z49; have v49 := L.v49; have t110 := L.t110; have a110 := L.a110; have z110 := L.z110; have v110 := L.v110; have aE := L.aE; have zE := L.zE
  have S0 : Aside (Left enc k w0 blk off lo hi d d (swr (fun i => d[i]!) a b 0) w) := ⟨S, rfl, permIn_refl _ _ _, by rw [swr_zero]; exact is_self d⟩
  have F82 := L.f82
  clear S
  go_enter F82, Tryd.ntmps82
  go_wp2
  go_loopg [10] n (fun gk s10 wr => ∃ (q : Nat) (dk : Array α), s10 = .int .i64 q ∧ q ≤ n ∧ n - q ≤ gk ∧ dk.size = d.size ∧ Aside (Left enc k w0 blk off lo hi d dk (swr (fun i => d[i]!) a b q) wr))
  case atStart => exact ⟨0, d, rfl, Nat.zero_le _, Nat.le_refl _, rfl, S0⟩
  case round =>
    clear S0
    obtain ⟨q, dk, rfl, hq, hgk, hds, S1⟩ := hrel
    by_cases hlt : q < n
    · have hltz : (q : Int) < (n : Int) := by omega
      go_wp2_with fail
      have ea : ((a : Int) + (q : Int)).toNat = a + q := by omega
      have pa : (0 : Int) ≤ (a : Int) + (q : Int) := by omega
      have ba : (a : Int) + (q : Int) < (d.size : Int) := by omega
      have ra : IntKind.i64.wrap ((a : Int) + (q : Int)) = (a : Int) + (q : Int) := by rw [IntKind.wrap_i64]; omega
      have ec : ((b : Int) + (q : Int)).toNat = b + q := by omega
      have pc : (0 : Int) ≤ (b : Int) + (q : Int) := by omega
      have bc : (b : Int) + (q : Int) < (d.size : Int) := by omega
      have rc : IntKind.i64.wrap ((b : Int) + (q : Int)) = (b : Int) + (q : Int) := by rw [IntKind.wrap_i64]; omega
      have S2 : Aside (Left enc k w0 blk off lo hi d (swp dk (a + q) (b + q)) (swr (fun i => d[i]!) a b (q + 1)) ((wr.drew.setCells blk (off + (a + q) * k) (enc dk[b + q]!)).setCells blk (off + (b + q) * k) (enc dk[a + q]!))) :=
        ⟨S1.out.1.swapped R (a + q) (b + q) (by omega) (by omega), by rw [swp_size]; exact hds, permIn_trans _ _ _ _ _ S1.out.2.2.1 (swp_permIn dk lo hi (a + q) (b + q) (by omega) (by omega) (by omega) (by omega) (by omega)), swr_step S1.out.2.2.2 hlt hab (by omega)⟩
      have la := S1.out.1.ld1 R (by omega) P (a + q) (by omega)
      have lb := S1.out.1.ld1 R (by omega) P (b + q) (by omega)
      have sa := S1.out.1.st1 R (by omega) P (a + q) (by omega) dk[b + q]!
      have sb := S1.out.1.st2 R (by omega) P (a + q) (b + q) (by omega) (by omega) dk[b + q]! dk[a + q]!
      have na : (enc dk[a + q]!).length = k := R.hk _
      have nb : (enc dk[b + q]!).length = k := R.hk _
      generalize enc dk[a + q]! = cI at S2 la sb na
      generalize enc dk[b + q]! = cJ at S2 lb sa sb nb
      clear S1
      go_wp2_with fail
      go_big_region_o
      clear la lb sa sb
      generalize (wr.drew.setCells blk (off + (a + q) * k) cJ).setCells blk (off + (b + q) * k) cI = w2 at S2 ⊢
      go_wp2
      go_roundg (n - (q + 1))
      case measure => omega
      case rel => exact ⟨q + 1, swp dk (a + q) (b + q), by go_num, by omega, Nat.le_refl _, by rw [swp_size]; exact hds, S2⟩
    · have : q = n := by omega
      subst this
      go_wp2
      go_end0
      exact ⟨rfl, dk, S1.out⟩
end
end Go.Proofs.YtoobbkckpabamaaDoor
