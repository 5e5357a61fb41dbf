/-
  The document's chart: On, held, Move, Times, Turn, Far, Side: what they answer; memory that was there stays as it was. A spot as the program's.
  The document's Turn.
  chart's Nearest and the document's.
-/
import Derived.Test.YtnnimjaigciedaaChC
namespace Go.Proofs.Ytnnimjaigciedaa
open Go.RowKit
set_option linter.unusedVariables false

theorem result24 {fn : Func} {p : Tmp} (h : fn.results = #[.cell p 62]) (tmps : Array Value) (w : World) (g t : Nat) (x y : Int) (hp : tmps.getD p undef = .pointer (some ⟨g, 0, none⟩)) (hP : Pt w g t x y) :
    (results fn tmps).run Try.prog w = .ok (.agg #[.int .i64 x, .int .i64 y]) w := by
  have hp2 : tmps[p]?.getD undef = .pointer (some ⟨g, 0, none⟩) := by simpa using hp
  simp only [results, h]
  simp [hp2, asAddr, load24 w g t x y hP]


set_option maxRecDepth 100000 in
set_option maxHeartbeats 2000000 in
theorem to_any (x y : Int) (w : World) :
    Calls Try.prog 25 #[.agg #[.int .i64 x, .int .i64 y]] w fun e w' => e = .returned (.agg #[.int .i64 x, .int .i64 y]) ∧ Below w.heap.size w w' := by
  go_enter Try.func25, Try.ntmps25
  go_wp2
  exact bodyPost_ret (result24 Try.results25 _ _ (w.heap.size + 1) 62 x y rfl (Pt.mk_ (by simp))) rfl ⟨rfl, ((Below.refl _ _).alloc (Nat.le_refl _) _).alloc (by simp) _⟩


set_option maxRecDepth 100000 in
set_option maxHeartbeats 2000000 in
theorem ron_any (x y : Int) (w : World) :
    Calls Try.prog 79 #[.agg #[.int .i64 x, .int .i64 y]] w fun e w' => e = .returned (.bool (decide (On x y))) ∧ Below w.heap.size w w' := by
  by_cases hon : On x y
  · have HE := Lib.hid (decide_eq_true hon)
    obtain ⟨o1, o2, o3, o4⟩ := hon
    go_enter Try.func79, Try.ntmps79
    go_wp2
    go_ret
    exact ⟨by rw [HE.out]; rfl, (Below.refl _ _).alloc (Nat.le_refl _) _⟩
  · have HE := Lib.hid (decide_eq_false hon)
    have h4 : x < -1000 ∨ (-1000 ≤ x ∧ 1000 < x) ∨ (-1000 ≤ x ∧ x ≤ 1000 ∧ y < -1000) ∨ (-1000 ≤ x ∧ x ≤ 1000 ∧ -1000 ≤ y ∧ 1000 < y) := by
      unfold On at hon
      omega
    clear hon
    rcases h4 with o1 | ⟨o1, o2⟩ | ⟨o1, o2, o3⟩ | ⟨o1, o2, o3, o4⟩
    all_goals
      first | have b9 : decide (y ≤ 1000) = false := decide_eq_false (by omega) | skip
      go_enter Try.func79, Try.ntmps79
      go_wp2
      go_ret
      exact ⟨by rw [HE.out]; rfl, (Below.refl _ _).alloc (Nat.le_refl _) _⟩


set_option maxRecDepth 100000 in
set_option maxHeartbeats 2000000 in
theorem rfar_any (a b c d : Int) (w : World) :
    Calls Try.prog 51 #[.agg #[.int .i64 a, .int .i64 b], .agg #[.int .i64 c, .int .i64 d]] w fun e w' => e = .returned (.int .i64 (farP a b c d)) ∧ Below w.heap.size w w' := by
  by_cases h0 : On a b
  · skip
    by_cases h1 : On c d
    · skip
      have b0 : decide (On a b) = true := decide_eq_true h0
      have b1 : decide (On c d) = true := decide_eq_true h1
      have HE : Hid (farP a b c d = (a - c) * (a - c) + (b - d) * (b - d)) := Lib.hid (by unfold farP; rw [if_pos ⟨h0, h1⟩])
      obtain ⟨o1, o2, o3, o4⟩ := h0
      obtain ⟨o5, o6, o7, o8⟩ := h1
      have m1 := mul_bound (a := a - c) (b := a - c) (A := 2000) (B := 2000) (by omega) (by omega) (by omega) (by omega)
      have m2 := mul_bound (a := b - d) (b := b - d) (A := 2000) (B := 2000) (by omega) (by omega) (by omega) (by omega)
      go_enter Try.func51, Try.ntmps51
      go_wp2_with fail
      have P0 : Hid (Pt ((w.alloc (.cells #[.int .i64 a, .int .i64 b] 56)).alloc (.cells #[.int .i64 c, .int .i64 d] 56)) (w.heap.size) 56 (a) (b)) := Lib.hid ((Pt.mk_ rfl).alloc _)
      have P1 : Hid (Pt ((w.alloc (.cells #[.int .i64 a, .int .i64 b] 56)).alloc (.cells #[.int .i64 c, .int .i64 d] 56)) (w.heap.size + 1) 56 (c) (d)) := Lib.hid (Pt.mk_ (by simp))
      have HW : Hid (Below w.heap.size w ((w.alloc (.cells #[.int .i64 a, .int .i64 b] 56)).alloc (.cells #[.int .i64 c, .int .i64 d] 56))) := Lib.hid (((Below.refl _ _).alloc (Nat.le_refl _) _).alloc (by simp) _)
      generalize ((w.alloc (.cells #[.int .i64 a, .int .i64 b] 56)).alloc (.cells #[.int .i64 c, .int .i64 d] 56)) = V at P0 P1 HW  ⊢
      refine (ron_any _ _ _).mono ?_
      rintro e W0 ⟨rfl, hB⟩
      have HW1 := Lib.hid (HW.out.trans (hB.mono HW.out.size))
      have Q0 := Lib.hid (P0.out.keep hB)
      have Q1 := Lib.hid (P1.out.keep hB)
      clear hB HW P0 P1
      have Q0a := Q0.out.c0
      have Q0b := Q0.out.c1
      have Q1a := Q1.out.c0
      have Q1b := Q1.out.c1
      go_wp2_with fail
      refine (ron_any _ _ _).mono ?_
      rintro e W1 ⟨rfl, hB⟩
      replace HW1 := Lib.hid (HW1.out.trans (hB.mono HW1.out.size))
      replace Q0 := Lib.hid (Q0.out.keep hB)
      replace Q1 := Lib.hid (Q1.out.keep hB)
      clear hB Q0a Q0b Q1a Q1b
      have Q0a := Q0.out.c0
      have Q0b := Q0.out.c1
      have Q1a := Q1.out.c0
      have Q1b := Q1.out.c1
      go_wp2
      go_ret
      exact ⟨by rw [HE.out]; rfl, HW1.out⟩
    · have HE : Hid (farP a b c d = -1) := Lib.hid (by unfold farP; rw [if_neg (by rintro ⟨k0, k1⟩; exact h1 k1)])
      have b0 : decide (On a b) = true := decide_eq_true h0
      have b1 : decide (On c d) = false := decide_eq_false h1
      clear h0 h1
      go_enter Try.func51, Try.ntmps51
      go_wp2_with fail
      have P0 : Hid (Pt ((w.alloc (.cells #[.int .i64 a, .int .i64 b] 56)).alloc (.cells #[.int .i64 c, .int .i64 d] 56)) (w.heap.size) 56 (a) (b)) := Lib.hid ((Pt.mk_ rfl).alloc _)
      have P1 : Hid (Pt ((w.alloc (.cells #[.int .i64 a, .int .i64 b] 56)).alloc (.cells #[.int .i64 c, .int .i64 d] 56)) (w.heap.size + 1) 56 (c) (d)) := Lib.hid (Pt.mk_ (by simp))
      have HW : Hid (Below w.heap.size w ((w.alloc (.cells #[.int .i64 a, .int .i64 b] 56)).alloc (.cells #[.int .i64 c, .int .i64 d] 56))) := Lib.hid (((Below.refl _ _).alloc (Nat.le_refl _) _).alloc (by simp) _)
      generalize ((w.alloc (.cells #[.int .i64 a, .int .i64 b] 56)).alloc (.cells #[.int .i64 c, .int .i64 d] 56)) = V at P0 P1 HW  ⊢
      refine (ron_any _ _ _).mono ?_
      rintro e W0 ⟨rfl, hB⟩
      have HW1 := Lib.hid (HW.out.trans (hB.mono HW.out.size))
      have Q0 := Lib.hid (P0.out.keep hB)
      have Q1 := Lib.hid (P1.out.keep hB)
      clear hB HW P0 P1
      have Q0a := Q0.out.c0
      have Q0b := Q0.out.c1
      have Q1a := Q1.out.c0
      have Q1b := Q1.out.c1
      go_wp2_with fail
      refine (ron_any _ _ _).mono ?_
      rintro e W1 ⟨rfl, hB⟩
      replace HW1 := Lib.hid (HW1.out.trans (hB.mono HW1.out.size))
      replace Q0 := Lib.hid (Q0.out.keep hB)
      replace Q1 := Lib.hid (Q1.out.keep hB)
      clear hB Q0a Q0b Q1a Q1b
      have Q0a := Q0.out.c0
      have Q0b := Q0.out.c1
      have Q1a := Q1.out.c0
      have Q1b := Q1.out.c1
      go_wp2
      go_ret
      exact ⟨by rw [HE.out]; rfl, HW1.out⟩
  · have HE : Hid (farP a b c d = -1) := Lib.hid (by unfold farP; rw [if_neg (by rintro ⟨k0, k1⟩; exact h0 k0)])
    have b0 : decide (On a b) = false := decide_eq_false h0
    clear h0
    go_enter Try.func51, Try.ntmps51
    go_wp2_with fail
    have P0 : Hid (Pt ((w.alloc (.cells #[.int .i64 a, .int .i64 b] 56)).alloc (.cells #[.int .i64 c, .int .i64 d] 56)) (w.heap.size) 56 (a) (b)) := Lib.hid ((Pt.mk_ rfl).alloc _)
    have P1 : Hid (Pt ((w.alloc (.cells #[.int .i64 a, .int .i64 b] 56)).alloc (.cells #[.int .i64 c, .int .i64 d] 56)) (w.heap.size + 1) 56 (c) (d)) := Lib.hid (Pt.mk_ (by simp))
    have HW : Hid (Below w.heap.size w ((w.alloc (.cells #[.int .i64 a, .int .i64 b] 56)).alloc (.cells #[.int .i64 c, .int .i64 d] 56))) := Lib.hid (((Below.refl _ _).alloc (Nat.le_refl _) _).alloc (by simp) _)
    generalize ((w.alloc (.cells #[.int .i64 a, .int .i64 b] 56)).alloc (.cells #[.int .i64 c, .int .i64 d] 56)) = V at P0 P1 HW  ⊢
    refine (ron_any _ _ _).mono ?_
    rintro e W0 ⟨rfl, hB⟩
    have HW1 := Lib.hid (HW.out.trans (hB.mono HW.out.size))
    have Q0 := Lib.hid (P0.out.keep hB)
    have Q1 := Lib.hid (P1.out.keep hB)
    clear hB HW P0 P1
    have Q0a := Q0.out.c0
    have Q0b := Q0.out.c1
    have Q1a := Q1.out.c0
    have Q1b := Q1.out.c1
    go_wp2
    go_ret
    exact ⟨by rw [HE.out]; rfl, HW1.out⟩


end Go.Proofs.Ytnnimjaigciedaa
namespace Go.Proofs.Ytnnimjaigciedaa
open Go.RowKit
set_option linter.unusedVariables false
theorem tmod4_pos {n : Int} (h : 0 ≤ n.tmod 4) : n.tmod 4 = n % 4 := by
  rw [Int.tmod_eq_emod] at h ⊢
  split at h <;> rename_i h1
  · rw [if_pos h1]; omega
  · exfalso; simp at h1 h; omega
theorem tmod4_neg {n : Int} (h : n.tmod 4 < 0) : n.tmod 4 + 4 = n % 4 := by
  rw [Int.tmod_eq_emod] at h ⊢
  split at h <;> rename_i h1
  · exfalso; omega
  · rw [if_neg h1]; simp

end Go.Proofs.Ytnnimjaigciedaa
namespace Go.Proofs.Ytnnimjaigciedaa
open Go.RowKit
set_option linter.unusedVariables false

/-- Which of the spots from number i on is nearest, one of them, or none, being it so far. -/
def nearGo (x y : Int) : List (Int × Int) → Nat → Int → Int → Int
  | [], _, best, _ => best
  | p :: r, i, best, least => if 0 ≤ farP x y p.1 p.2 ∧ (best < 0 ∨ farP x y p.1 p.2 < least) then nearGo x y r (i + 1) i (farP x y p.1 p.2) else nearGo x y r (i + 1) best least
def nearP (x y : Int) (l : List (Int × Int)) : Int := nearGo x y l 0 (-1) 0

theorem near_step {x y : Int} {l : List (Int × Int)} {k : Nat} {best least : Int} {u v : Int} (h : nearGo x y (l.drop k) k best least = nearP x y l) (hk : k < l.length) (hx : l.getD k (0, 0) = (u, v)) :
    ((0 ≤ farP x y u v ∧ (best < 0 ∨ farP x y u v < least)) → nearGo x y (l.drop (k + 1)) (k + 1) k (farP x y u v) = nearP x y l) ∧
    (¬ (0 ≤ farP x y u v ∧ (best < 0 ∨ farP x y u v < least)) → nearGo x y (l.drop (k + 1)) (k + 1) best least = nearP x y l) := by
  rw [drop_spot l k hk, hx, nearGo] at h
  refine ⟨fun h1 => ?_, fun h1 => ?_⟩
  · rw [if_pos h1] at h; exact h
  · rw [if_neg h1] at h; exact h

theorem far_bound (a b c d : Int) : -1 ≤ farP a b c d ∧ farP a b c d ≤ 8000000 := by
  unfold farP
  split
  · rename_i h
    obtain ⟨⟨o1, o2, o3, o4⟩, o5, o6, o7, o8⟩ := h
    have m1 := mul_bound (a := a - c) (b := a - c) (A := 2000) (B := 2000) (by omega) (by omega) (by omega) (by omega)
    have m2 := mul_bound (a := b - d) (b := b - d) (A := 2000) (B := 2000) (by omega) (by omega) (by omega) (by omega)
    have n1 : 0 ≤ (a - c) * (a - c) := by
      rcases Int.le_total 0 (a - c) with h | h
      · exact Int.mul_nonneg h h
      · exact Int.mul_nonneg_of_nonpos_of_nonpos h h
    have n2 : 0 ≤ (b - d) * (b - d) := by
      rcases Int.le_total 0 (b - d) with h | h
      · exact Int.mul_nonneg h h
      · exact Int.mul_nonneg_of_nonpos_of_nonpos h h
    omega
  · omega

set_option maxRecDepth 100000 in
set_option maxHeartbeats 2000000 in
theorem nearest_any (x y : Int) (s : Option Addr) (cap : Nat) (l : List (Int × Int)) (w : World) (hN : SpotRow w s l) (hlen : l.length ≤ 9223372036854775807) :
    Calls Try.prog 50 #[.agg #[.int .i64 x, .int .i64 y], .slice s l.length cap] w fun e w' => e = .returned (.int .i64 (nearP x y l)) ∧ Below w.heap.size w w' := by
  have HF : Hid (∀ u v, -1 ≤ farP x y u v ∧ farP x y u v ≤ 8000000) := Lib.hid fun u v => far_bound x y u v
  have HC : Hid (∀ u v w, Calls Try.prog 78 #[.agg #[.int .i64 x, .int .i64 y], .agg #[.int .i64 u, .int .i64 v]] w fun e w' => e = .returned (.int .i64 (farP x y u v)) ∧ Below w.heap.size w w') := Lib.hid fun u v w => far_any x y u v w
  have HNs := Lib.hid (far_bound x y)
  rcases hN with rfl | ⟨b, off, rfl, hb, hc⟩
  · go_enter Try.func50, Try.ntmps50
    go_wp2
    refine wp_loop_rounds 1 ?_
    rw [rounds_succ]
    go_wp2
    go_ret
    exact ⟨rfl, (Below.refl _ _).alloc (Nat.le_refl _) _⟩
  · have HCE := Lib.hid hc
    clear hc
    obtain ⟨len, hl⟩ : ∃ n, l.length = n := ⟨_, rfl⟩
    rw [hl] at hlen ⊢
    have HL := Lib.hid hl
    clear hl
    go_enter Try.func50, Try.ntmps50
    go_wp2
    have P0 : Hid (Pt (w.alloc (.cells #[.int .i64 x, .int .i64 y] 62)) w.heap.size 62 x y) := Lib.hid (Pt.mk_ rfl)
    have HW : Hid (Below w.heap.size w (w.alloc (.cells #[.int .i64 x, .int .i64 y] 62))) := Lib.hid ((Below.refl _ _).alloc (Nat.le_refl _) _)
    generalize w.alloc (.cells #[.int .i64 x, .int .i64 y] 62) = V at P0 HW ⊢
    go_loopw [5, 6, 7, 8, 9, 12] (fun be le _ _ _ i wr => ∃ (k : Nat) (best least : Int), k ≤ len ∧ i = .int .i64 k ∧ be = .int .i64 best ∧ le = .int .i64 least ∧ -1 ≤ best ∧ best < len ∧ Hid (nearGo x y (l.drop k) k best least = nearP x y l) ∧ Hid (Pt wr w.heap.size 62 x y) ∧ Hid (Below w.heap.size w wr)) (fun _ _ _ _ _ i _ => len - (intOf i).toNat)
    case atStart => exact ⟨0, -1, 0, Nat.zero_le _, rfl, rfl, rfl, by omega, by omega, Lib.hid rfl, P0, HW⟩
    case round =>
      obtain ⟨k, best, least, hk, rfl, rfl, rfl, hb1, hb2, HG, P1, HB⟩ := hrel
      by_cases hlt : k < len
      · obtain ⟨q, hq⟩ : ∃ q, l.getD k (0, 0) = q := ⟨_, rfl⟩
        obtain ⟨u, v⟩ := q
        obtain ⟨hc1, hc2⟩ := HCE.out k (by rw [HL.out]; exact hlt)
        rw [hq] at hc1 hc2
        have HX := Lib.hid (near_step HG.out (by rw [HL.out]; exact hlt) hq)
        rw [← HB.out.cell (p := ⟨b, off + k * 2, none⟩) hb] at hc1
        rw [← HB.out.cell (p := ⟨b, off + k * 2 + 1, none⟩) hb] at hc2
        clear hq
        have hb3 : b < wr.heap.size := Nat.lt_of_lt_of_le hb HB.out.size
        have k1 := P1.out.c0
        have k2 := P1.out.c1
        have k3 := P1.out.lt
        simp only at hc1 hc2
        go_wp2_with fail
        have HW2 : Hid (Below w.heap.size w (wr.alloc (.cells #[.int .i64 u, .int .i64 v] 62))) := Lib.hid (HB.out.alloc HB.out.size _)
        have P2 : Hid (Pt (wr.alloc (.cells #[.int .i64 u, .int .i64 v] 62)) w.heap.size 62 x y) := Lib.hid (P1.out.alloc _)
        refine (HC.out u v _).mono ?_
        rintro e Y ⟨rfl, hB⟩
        have HW3 := Lib.hid (HW2.out.trans (hB.mono HW2.out.size))
        have P3 := Lib.hid (P2.out.keep hB)
        clear hB HW2 P2 P1 HB k1 k2 k3 hc1 hc2
        obtain ⟨f1, f2⟩ := HF.out u v
        generalize farP x y u v = f at *
        by_cases h0 : 0 ≤ f
        · by_cases h1 : best < 0
          · have HT := Lib.hid (HX.out.1 ⟨h0, .inl h1⟩)
            go_wp2
            go_roundw
            case rel => exact ⟨k + 1, k, f, by omega, by go_num, by go_num, rfl, by omega, by omega, HT, P3, HW3⟩
            case measure => simp [intOf] <;> omega
          · by_cases h2 : f < least
            · have HT := Lib.hid (HX.out.1 ⟨h0, .inr h2⟩)
              go_wp2
              go_roundw
              case rel => exact ⟨k + 1, k, f, by omega, by go_num, by go_num, rfl, by omega, by omega, HT, P3, HW3⟩
              case measure => simp [intOf] <;> omega
            · have HT := Lib.hid (HX.out.2 (by omega))
              go_wp2
              go_roundw
              case rel => exact ⟨k + 1, best, least, by omega, by go_num, rfl, rfl, by omega, by omega, HT, P3, HW3⟩
              case measure => simp [intOf] <;> omega
        · have HT := Lib.hid (HX.out.2 (by omega))
          go_wp2
          go_roundw
          case rel => exact ⟨k + 1, best, least, by omega, by go_num, rfl, rfl, by omega, by omega, HT, P3, HW3⟩
          case measure => simp [intOf] <;> omega
      · have HE : Hid (best = nearP x y l) := Lib.hid (by rw [← HG.out, List.drop_eq_nil_of_le (by rw [HL.out]; omega)]; rfl)
        go_wp2
        go_ret
        exact ⟨by rw [← HE.out]; rfl, HB.out⟩
end Go.Proofs.Ytnnimjaigciedaa
