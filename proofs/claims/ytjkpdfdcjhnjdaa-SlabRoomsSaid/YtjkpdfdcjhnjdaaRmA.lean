/-
  SlabRooms: the walk.
-/
import Derived.Test.YtjkpdfdcjhnjdaaSlG
namespace Go.Proofs.Ytjkpdfdcjhnjdaa
open Go.RowKit
set_option linter.unusedVariables false
theorem ss_eq {l : List Int} {k : Nat} {x x2 y y2 : Int} {d : Bool} (h1 : x = x2) (h2 : y = y2) : (⟨l, k, x, y, d⟩ : SS) = ⟨l, k, x2, y2, d⟩ := by rw [h1, h2]
set_option maxRecDepth 100000 in
set_option maxHeartbeats 4000000 in
theorem rooms_big (n fu : Int) (m : Nat) (w : World) (hn : 0 ≤ n) (hm : n % 262146 = m) (hmm : 262144 < m) (hf : 0 ≤ fu) (hf2 : fu ≤ 255) : Calls Try.prog 6 #[.int .u32 n, .int .u8 fu] w fun e w' => e = .returned (.bool true) ∧ Below w.heap.size w w' := by
  have hm1 : n.tmod 262146 = (m : Int) := by rw [Int.tmod_eq_emod_of_nonneg hn]; exact hm
  obtain ⟨i0, hi, hz0, hz1, hz2⟩ := info_parts byte_info
  have hm2 : (262144 : Int) < (m : Int) := by omega
  have hm3 : (m : Int) ≤ 262145 := by omega
  go_enter Try.func6, Try.ntmps6
  go_wp2_with fail
  refine (new_any w).mono ?_
  rintro e w1 ⟨b, rfl, hb, hA, hB⟩
  have HA := Lib.hid hA
  have HB := Lib.hid hB
  have HBB := Lib.hid hb
  clear hA hB hb
  go_wp2_with (at_make; refine wpList_make_full _ rfl (.tmp 19) (.tmp 19) 27 rfl w.heap.size 5 i0 (.int .u8 0) 1 Try.underlying27 hi hz0 hz1 .i64 .i64 _ _ (m) rfl rfl ?c1 ?c2 ?c3 ?c4 ?c5 ?_)
  case c1 => omega
  case c2 => omega
  case c3 => rw [hz2]; omega
  case c4 => unfold maxLen; omega
  case c5 => exact HB.out.size
  intro m1 hown hg
  have hB : Below w1.heap.size w1 m1 := (Below.refl _ _).grown hg (Nat.le_refl _) (by simp)
  have HS := Lib.hid (src_made hown)
  have HA2 := Lib.hid (HA.out.keep hB)
  have HB2 := Lib.hid (HB.out.trans (hB.mono HB.out.size))
  have HN : Hid (w1.heap.size ≠ b) := Lib.hid (fun e => by have := HA.out.top.lt; omega)
  clear HA HB hown hg hB
  have HA := HA2
  have HB := HB2
  clear HA2 HB2
  go_wp2_with fail
  obtain ⟨hE, hS⟩ := app_full fresh (List.replicate m 0) rfl (by simp [fresh]; omega)
  refine (app_any w.heap.size b _ fresh (List.replicate m 0) (some ⟨w1.heap.size, 0, none⟩) _ m m1 HA.out (by simp) HS.out (by intro a ha; injection ha with ha; subst ha; exact HN.out) HB.out.size (by simp; omega)).mono ?_
  rintro e w2 ⟨vw2, rfl, hAt, ho, _⟩
  rw [hE]
  rw [hS] at hAt
  have HB2 := Lib.hid (HB.out.trans (ho.below (HA.out.up HBB.out) HB.out.size))
  have HA2 := Lib.hid hAt
  clear HA HB hAt ho hE hS HS
  have HA := HA2
  have HB := HB2
  clear HA2 HB2
  go_wp2_with fail
  obtain ⟨hE, hS⟩ := era_go fresh rfl (by decide) (by decide)
  refine (era_any w.heap.size b _ fresh w2 HA.out).mono ?_
  rintro e we ⟨rfl, hAt, ho⟩
  rw [hE]
  rw [hS, show eraV fresh vw2 = .slice none 0 0 by unfold eraV; rw [if_pos hE], show (⟨[], 0, up fresh.st, burn fresh.fu, false⟩ : SS) = ⟨[], 0, 1, -1, false⟩ by kernel_rfl] at hAt
  have HB2 := Lib.hid (HB.out.trans (ho.below (Of.one (v := .slice none 0 0) HBB.out) HB.out.size))
  have HA2 := Lib.hid hAt
  clear HA HB hAt ho hE hS
  have HA := HA2
  have HB := HB2
  clear HA2 HB2
  go_wp2_with fail
  refine (loo_any w.heap.size b _ _ we HA.out).mono ?_
  rintro e wl ⟨rfl, nl, rfl⟩
  rw [show loose (⟨[], 0, 1, -1, false⟩ : SS) = 0 from rfl]
  have hB : Below we.heap.size we (we.drewN nl) := below_drewN (Below.refl _ _) _
  have HA2 := Lib.hid (HA.out.keep hB)
  have HB2 := Lib.hid (HB.out.trans (hB.mono HB.out.size))
  clear HA HB hB
  have HA := HA2
  have HB := HB2
  clear HA2 HB2
  go_wp2_with fail
  generalize we.drewN nl = V at HA HB ⊢
  refine (ste_any w.heap.size b _ _ V HA.out).mono ?_
  rintro e w' ⟨rfl, rfl⟩
  go_wp2_with fail
  refine (fus_any w.heap.size b _ _ fu V HA.out (by omega)).mono ?_
  rintro e V2 ⟨rfl, hAt, ho⟩
  rw [show fusS (⟨[], 0, 1, -1, false⟩ : SS) fu = ⟨[], 0, 1, fu, false⟩ by unfold fusS mx; rw [if_neg (by decide), if_neg (by omega)]] at hAt
  rw [show chkE (⟨[], 0, 1, -1, false⟩ : SS).dn = 0 from rfl]
  have HB2 := Lib.hid (HB.out.trans (ho.below (Of.one (v := .slice none 0 0) HBB.out) HB.out.size))
  have HA2 := Lib.hid hAt
  clear HA HB hAt ho
  have HA := HA2
  have HB := HB2
  clear HA2 HB2
  obtain ⟨F, hF⟩ : ∃ F : Nat, fu = F := ⟨fu.toNat, by omega⟩
  subst hF
  have HF2 : Hid (F ≤ 255) := Lib.hid (by omega)
  go_wp2_with fail
  go_loopw [64] (fun i wr => ∃ (k : Nat) (vk : Value), k ≤ F ∧ i = .int .i64 k ∧ Hid (AtS wr w.heap.size b vk ⟨List.replicate k 1, 0, (1 : Int) + k, (F : Int) - k, false⟩) ∧ Hid (Below w.heap.size w wr)) (fun i _ => F - (intOf i).toNat)
  case atStart => exact ⟨0, _, Nat.zero_le _, rfl, Lib.hid (by simpa using HA.out), HB⟩
  case round =>
    clear HA HB
    obtain ⟨k, vk, hk, rfl, HA, HB⟩ := hrel
    by_cases hlt : k < F
    · skip
      have hkl : (k : Int) < (F : Int) := by omega
      have hBa : Below wr.heap.size wr (wr.alloc (.cells #[.int .u8 1] 5)) := (Below.refl _ _).alloc (Nat.le_refl _) _
      have HA2 := Lib.hid (HA.out.keep hBa)
      have HB2 := Lib.hid (HB.out.trans (hBa.mono HB.out.size))
      have HS : Hid (Src (wr.alloc (.cells #[.int .u8 1] 5)) (some ⟨wr.heap.size, 0, none⟩) 1 [1]) := Lib.hid (Src.lit wr _ [1] rfl)
      have HN : Hid (wr.heap.size ≠ b) := Lib.hid (fun e => by have := HA.out.top.lt; omega)
      clear HA HB hBa
      go_wp2_with fail
      generalize wr.alloc (.cells #[.int .u8 1] 5) = V3 at HA2 HB2 HS ⊢
      generalize wr.heap.size = gl at HS HN ⊢
      obtain ⟨hE, hS⟩ := app_go ⟨List.replicate k 1, 0, (1 : Int) + k, (F : Int) - k, false⟩ [1] rfl (by simp; omega) (by show (F : Int) - k ≠ 0; omega)
      rw [show up ((1 : Int) + (k : Int)) = (1 : Int) + ((k + 1 : Nat) : Int) by rw [up_small _ (by omega) (by omega)]; omega, show burn ((F : Int) - (k : Int)) = (F : Int) - ((k + 1 : Nat) : Int) by unfold burn; rw [if_pos (by omega)]; omega, show List.replicate k (1 : Int) ++ [1] = List.replicate (k + 1) 1 from (List.replicate_succ' (n := k) (a := (1 : Int))).symm] at hS
      refine (app_any w.heap.size b _ _ [1] _ _ _ V3 HA2.out rfl HS.out (by intro a ha; injection ha with ha; subst ha; exact HN.out) HB2.out.size (by decide)).mono ?_
      rintro e V4 ⟨v4, rfl, hAt, ho, _⟩
      rw [hE]
      rw [hS] at hAt
      have HB5 := Lib.hid (HB2.out.trans (ho.below (HA2.out.up HBB.out) HB2.out.size))
      have HA5 := Lib.hid hAt
      clear HA2 HB2 HS HN hAt ho hE hS
      go_wp2
      go_roundw
      case rel => exact ⟨k + 1, v4, by omega, by go_num, HA5, HB5⟩
      case measure => simp [intOf]; omega
    · skip
      obtain rfl : k = F := by omega
      have hst : (1 : Int) + (k : Int) ≤ 1000 := by omega
      have hAz := HA.out
      rw [show (k : Int) - (k : Int) = 0 by omega] at hAz
      have HA2 := Lib.hid hAz
      clear HA hAz
      have HKS := HF2.out
      go_wp2_with fail
      refine (awake_any _).mono ?_
      rintro e V3 ⟨rfl, hB⟩
      have HA3 := Lib.hid (HA2.out.keep hB)
      have HB3 := Lib.hid (HB.out.trans (hB.mono HB.out.size))
      clear HA2 HB hB
      obtain ⟨hE, hS⟩ := app_fuse ⟨List.replicate k 1, 0, (1 : Int) + k, 0, false⟩ [] rfl (by simp; omega) rfl
      go_wp2_with fail
      refine (app_any w.heap.size b _ _ [] none 0 0 V3 HA3.out rfl ⟨fun _ => rfl, .inl rfl⟩ (by intro a ha; cases ha) HB3.out.size (by decide)).mono ?_
      rintro e V4 ⟨v4, rfl, hAt, ho, _⟩
      rw [hE]
      rw [hS] at hAt
      have HB5 := Lib.hid (HB3.out.trans (ho.below (HA3.out.up HBB.out) HB3.out.size))
      have HA5 := Lib.hid hAt
      clear HA3 HB3 hAt ho hE hS
      go_wp2_with fail
      refine (dow_any w.heap.size b _ _ V4 HA5.out).mono ?_
      rintro e w' ⟨rfl, rfl⟩
      go_wp2_with fail
      refine (ste_any w.heap.size b _ _ V4 HA5.out).mono ?_
      rintro e w' ⟨rfl, rfl⟩
      go_wp2_with fail
      refine (crs_any w.heap.size b _ _ 0 0 V4 HA5.out HB5.out.size).mono ?_
      rintro e V6 ⟨v6, rfl, hAt, ho, _⟩
      have HB6 := Lib.hid (HB5.out.trans (ho.below (HA5.out.up HBB.out) HB5.out.size))
      have HA6 := Lib.hid hAt
      clear HA5 HB5 hAt ho
      go_wp2_with fail
      refine (dow_any w.heap.size b _ _ V6 HA6.out).mono ?_
      rintro e w' ⟨rfl, rfl⟩
      rw [show (crsS ⟨List.replicate k 1, 0, (1 : Int) + (k : Int), 0, true⟩ 0 0).dn = false from rfl]
      go_wp2
      go_ret
      exact ⟨rfl, HB6.out⟩

set_option maxRecDepth 100000 in
set_option maxHeartbeats 4000000 in
theorem rooms_fit (n fu : Int) (m : Nat) (w : World) (hn : 0 ≤ n) (hm : n % 262146 = m) (hmm : m ≤ 262144) (hf : 0 ≤ fu) (hf2 : fu ≤ 255) : Calls Try.prog 6 #[.int .u32 n, .int .u8 fu] w fun e w' => e = .returned (.bool true) ∧ Below w.heap.size w w' := by
  have hm1 : n.tmod 262146 = (m : Int) := by rw [Int.tmod_eq_emod_of_nonneg hn]; exact hm
  obtain ⟨i0, hi, hz0, hz1, hz2⟩ := info_parts byte_info
  have hm2 : (m : Int) ≤ 262144 := by omega
  go_enter Try.func6, Try.ntmps6
  go_wp2_with fail
  refine (new_any w).mono ?_
  rintro e w1 ⟨b, rfl, hb, hA, hB⟩
  have HA := Lib.hid hA
  have HB := Lib.hid hB
  have HBB := Lib.hid hb
  clear hA hB hb
  go_wp2_with (at_make; refine wpList_make_full _ rfl (.tmp 19) (.tmp 19) 27 rfl w.heap.size 5 i0 (.int .u8 0) 1 Try.underlying27 hi hz0 hz1 .i64 .i64 _ _ (m) rfl rfl ?c1 ?c2 ?c3 ?c4 ?c5 ?_)
  case c1 => omega
  case c2 => omega
  case c3 => rw [hz2]; omega
  case c4 => unfold maxLen; omega
  case c5 => exact HB.out.size
  intro m1 hown hg
  have hB : Below w1.heap.size w1 m1 := (Below.refl _ _).grown hg (Nat.le_refl _) (by simp)
  have HS := Lib.hid (src_made hown)
  have HA2 := Lib.hid (HA.out.keep hB)
  have HB2 := Lib.hid (HB.out.trans (hB.mono HB.out.size))
  have HN : Hid (w1.heap.size ≠ b) := Lib.hid (fun e => by have := HA.out.top.lt; omega)
  clear HA HB hown hg hB
  have HA := HA2
  have HB := HB2
  clear HA2 HB2
  go_wp2_with fail
  obtain ⟨hE, hS⟩ := (show stepE fresh (List.replicate m (0 : Int)).length = 0 ∧ appS fresh (List.replicate m 0) = (⟨List.replicate m 0, 0, 1, -1, false⟩ : SS) by obtain ⟨h1, h2⟩ := app_go fresh (List.replicate m 0) rfl (by simp [fresh]; omega) (by decide); exact ⟨h1, h2.trans (by simp only [fresh, List.nil_append]; exact ss_eq (by kernel_rfl) (by kernel_rfl))⟩)
  refine (app_any w.heap.size b _ fresh (List.replicate m 0) (some ⟨w1.heap.size, 0, none⟩) _ m m1 HA.out (by simp) HS.out (by intro a ha; injection ha with ha; subst ha; exact HN.out) HB.out.size (by simp; omega)).mono ?_
  rintro e w2 ⟨vw2, rfl, hAt, ho, _⟩
  rw [hE]
  rw [hS] at hAt
  have HB2 := Lib.hid (HB.out.trans (ho.below (HA.out.up HBB.out) HB.out.size))
  have HA2 := Lib.hid hAt
  clear HA HB hAt ho hE hS HS
  have HA := HA2
  have HB := HB2
  clear HA2 HB2
  obtain ⟨r, hr⟩ : ∃ r : Nat, (262144 : Int) - (m : Int) = r := ⟨262144 - m, by omega⟩
  have hr2 : (r : Int) ≤ 262144 := by omega
  have hr3 : m + r = 262144 := by omega
  obtain ⟨m3, hrun, hown, hg⟩ := run_make_full (P := Try.prog) w2 w.heap.size 27 5 i0 (.int .u8 0) 1 Try.underlying27 hi hz0 hz1 .i64 .i64 (r + 1) (by rw [hz2]; omega) (by unfold maxLen; omega) HB.out.size
  rw [Nat.mul_one] at hown
  rw [show (((r + 1 : Nat)) : Int) = (r : Int) + 1 by omega] at hrun
  have hB : Below w2.heap.size w2 m3 := (Below.refl _ _).grown hg (Nat.le_refl _) (by simp)
  have HS := Lib.hid (src_made hown)
  have HA2 := Lib.hid (HA.out.keep hB)
  have HB2 := Lib.hid (HB.out.trans (hB.mono HB.out.size))
  have HN : Hid (w2.heap.size ≠ b) := Lib.hid (fun e => by have := HA.out.top.lt; omega)
  clear HA HB hown hg hB
  have HA := HA2
  have HB := HB2
  clear HA2 HB2
  go_wp2_with fail
  obtain ⟨hE, hS⟩ := app_full (⟨List.replicate m 0, 0, 1, -1, false⟩ : SS) (List.replicate (r + 1) 0) rfl (by simp; omega)
  refine (app_any w.heap.size b _ (⟨List.replicate m 0, 0, 1, -1, false⟩ : SS) (List.replicate (r + 1) 0) (some ⟨w2.heap.size, 0, none⟩) _ (r + 1) m3 HA.out (by simp) HS.out (by intro a ha; injection ha with ha; subst ha; exact HN.out) HB.out.size (by simp; omega)).mono ?_
  rintro e w4 ⟨vw4, rfl, hAt, ho, _⟩
  rw [hE]
  rw [hS] at hAt
  have HB2 := Lib.hid (HB.out.trans (ho.below (HA.out.up HBB.out) HB.out.size))
  have HA2 := Lib.hid hAt
  clear HA HB hAt ho hE hS HS
  have HA := HA2
  have HB := HB2
  clear HA2 HB2
  obtain ⟨m5, hrun, hown, hg⟩ := run_make_full (P := Try.prog) w4 w.heap.size 27 5 i0 (.int .u8 0) 1 Try.underlying27 hi hz0 hz1 .i64 .i64 (r) (by rw [hz2]; omega) (by unfold maxLen; omega) HB.out.size
  rw [Nat.mul_one] at hown
  have hB : Below w4.heap.size w4 m5 := (Below.refl _ _).grown hg (Nat.le_refl _) (by simp)
  have HS := Lib.hid (src_made hown)
  have HA2 := Lib.hid (HA.out.keep hB)
  have HB2 := Lib.hid (HB.out.trans (hB.mono HB.out.size))
  have HN : Hid (w4.heap.size ≠ b) := Lib.hid (fun e => by have := HA.out.top.lt; omega)
  clear HA HB hown hg hB
  have HA := HA2
  have HB := HB2
  clear HA2 HB2
  go_wp2_with fail
  obtain ⟨hE, hS⟩ := (show stepE (⟨List.replicate m 0, 0, 1, -1, false⟩ : SS) (List.replicate r (0 : Int)).length = 0 ∧ appS (⟨List.replicate m 0, 0, 1, -1, false⟩ : SS) (List.replicate r 0) = (⟨List.replicate m 0 ++ List.replicate r 0, 0, 2, -1, false⟩ : SS) by obtain ⟨h1, h2⟩ := app_go (⟨List.replicate m 0, 0, 1, -1, false⟩ : SS) (List.replicate r 0) rfl (by simp; omega) (show (-1 : Int) ≠ 0 by decide); exact ⟨h1, h2.trans (ss_eq (by kernel_rfl) (by kernel_rfl))⟩)
  refine (app_any w.heap.size b _ (⟨List.replicate m 0, 0, 1, -1, false⟩ : SS) (List.replicate r 0) (some ⟨w4.heap.size, 0, none⟩) _ r m5 HA.out (by simp) HS.out (by intro a ha; injection ha with ha; subst ha; exact HN.out) HB.out.size (by simp; omega)).mono ?_
  rintro e w6 ⟨vw6, rfl, hAt, ho, _⟩
  rw [hE]
  rw [hS] at hAt
  have HB2 := Lib.hid (HB.out.trans (ho.below (HA.out.up HBB.out) HB.out.size))
  have HA2 := Lib.hid hAt
  clear HA HB hAt ho hE hS HS
  have HA := HA2
  have HB := HB2
  clear HA2 HB2
  go_wp2_with fail
  refine (loo_any w.heap.size b _ _ w6 HA.out).mono ?_
  rintro e wl ⟨rfl, nl, rfl⟩
  rw [show loose (⟨List.replicate m 0 ++ List.replicate r 0, 0, 2, -1, false⟩ : SS) = 262144 by unfold loose; simp; omega]
  have hB : Below w6.heap.size w6 (w6.drewN nl) := below_drewN (Below.refl _ _) _
  have HA2 := Lib.hid (HA.out.keep hB)
  have HB2 := Lib.hid (HB.out.trans (hB.mono HB.out.size))
  clear HA HB hB
  have HA := HA2
  have HB := HB2
  clear HA2 HB2
  go_wp2_with fail
  generalize w6.drewN nl = U at HA HB ⊢
  obtain ⟨hE, hS⟩ := era_go (⟨List.replicate m 0 ++ List.replicate r 0, 0, 2, -1, false⟩ : SS) rfl (by simp; omega) (show (-1 : Int) ≠ 0 by decide)
  refine (era_any w.heap.size b _ (⟨List.replicate m 0 ++ List.replicate r 0, 0, 2, -1, false⟩ : SS) U HA.out).mono ?_
  rintro e we ⟨rfl, hAt, ho⟩
  rw [hE]
  rw [hS, show eraV (⟨List.replicate m 0 ++ List.replicate r 0, 0, 2, -1, false⟩ : SS) vw6 = .slice none 0 0 by unfold eraV; rw [if_pos hE], show (⟨[], 0, up (⟨List.replicate m 0 ++ List.replicate r 0, 0, 2, -1, false⟩ : SS).st, burn (⟨List.replicate m 0 ++ List.replicate r 0, 0, 2, -1, false⟩ : SS).fu, false⟩ : SS) = ⟨[], 0, 3, -1, false⟩ by kernel_rfl] at hAt
  have HB2 := Lib.hid (HB.out.trans (ho.below (Of.one (v := .slice none 0 0) HBB.out) HB.out.size))
  have HA2 := Lib.hid hAt
  clear HA HB hAt ho hE hS hr hr2
  have HA := HA2
  have HB := HB2
  clear HA2 HB2
  go_wp2_with fail
  refine (loo_any w.heap.size b _ _ we HA.out).mono ?_
  rintro e wl ⟨rfl, nl, rfl⟩
  rw [show loose (⟨[], 0, 3, -1, false⟩ : SS) = 0 from rfl]
  have hB : Below we.heap.size we (we.drewN nl) := below_drewN (Below.refl _ _) _
  have HA2 := Lib.hid (HA.out.keep hB)
  have HB2 := Lib.hid (HB.out.trans (hB.mono HB.out.size))
  clear HA HB hB
  have HA := HA2
  have HB := HB2
  clear HA2 HB2
  go_wp2_with fail
  generalize we.drewN nl = V at HA HB ⊢
  refine (ste_any w.heap.size b _ _ V HA.out).mono ?_
  rintro e w' ⟨rfl, rfl⟩
  go_wp2_with fail
  refine (fus_any w.heap.size b _ _ fu V HA.out (by omega)).mono ?_
  rintro e V2 ⟨rfl, hAt, ho⟩
  rw [show fusS (⟨[], 0, 3, -1, false⟩ : SS) fu = ⟨[], 0, 3, fu, false⟩ by unfold fusS mx; rw [if_neg (by decide), if_neg (by omega)]] at hAt
  rw [show chkE (⟨[], 0, 3, -1, false⟩ : SS).dn = 0 from rfl]
  have HB2 := Lib.hid (HB.out.trans (ho.below (Of.one (v := .slice none 0 0) HBB.out) HB.out.size))
  have HA2 := Lib.hid hAt
  clear HA HB hAt ho
  have HA := HA2
  have HB := HB2
  clear HA2 HB2
  obtain ⟨F, hF⟩ : ∃ F : Nat, fu = F := ⟨fu.toNat, by omega⟩
  subst hF
  have HF2 : Hid (F ≤ 255) := Lib.hid (by omega)
  go_wp2_with fail
  go_loopw [64] (fun i wr => ∃ (k : Nat) (vk : Value), k ≤ F ∧ i = .int .i64 k ∧ Hid (AtS wr w.heap.size b vk ⟨List.replicate k 1, 0, (3 : Int) + k, (F : Int) - k, false⟩) ∧ Hid (Below w.heap.size w wr)) (fun i _ => F - (intOf i).toNat)
  case atStart => exact ⟨0, _, Nat.zero_le _, rfl, Lib.hid (by simpa using HA.out), HB⟩
  case round =>
    clear HA HB
    obtain ⟨k, vk, hk, rfl, HA, HB⟩ := hrel
    by_cases hlt : k < F
    · skip
      have hkl : (k : Int) < (F : Int) := by omega
      have hBa : Below wr.heap.size wr (wr.alloc (.cells #[.int .u8 1] 5)) := (Below.refl _ _).alloc (Nat.le_refl _) _
      have HA2 := Lib.hid (HA.out.keep hBa)
      have HB2 := Lib.hid (HB.out.trans (hBa.mono HB.out.size))
      have HS : Hid (Src (wr.alloc (.cells #[.int .u8 1] 5)) (some ⟨wr.heap.size, 0, none⟩) 1 [1]) := Lib.hid (Src.lit wr _ [1] rfl)
      have HN : Hid (wr.heap.size ≠ b) := Lib.hid (fun e => by have := HA.out.top.lt; omega)
      clear HA HB hBa
      go_wp2_with fail
      generalize wr.alloc (.cells #[.int .u8 1] 5) = V3 at HA2 HB2 HS ⊢
      generalize wr.heap.size = gl at HS HN ⊢
      obtain ⟨hE, hS⟩ := app_go ⟨List.replicate k 1, 0, (3 : Int) + k, (F : Int) - k, false⟩ [1] rfl (by simp; omega) (by show (F : Int) - k ≠ 0; omega)
      rw [show up ((3 : Int) + (k : Int)) = (3 : Int) + ((k + 1 : Nat) : Int) by rw [up_small _ (by omega) (by omega)]; omega, show burn ((F : Int) - (k : Int)) = (F : Int) - ((k + 1 : Nat) : Int) by unfold burn; rw [if_pos (by omega)]; omega, show List.replicate k (1 : Int) ++ [1] = List.replicate (k + 1) 1 from (List.replicate_succ' (n := k) (a := (1 : Int))).symm] at hS
      refine (app_any w.heap.size b _ _ [1] _ _ _ V3 HA2.out rfl HS.out (by intro a ha; injection ha with ha; subst ha; exact HN.out) HB2.out.size (by decide)).mono ?_
      rintro e V4 ⟨v4, rfl, hAt, ho, _⟩
      rw [hE]
      rw [hS] at hAt
      have HB5 := Lib.hid (HB2.out.trans (ho.below (HA2.out.up HBB.out) HB2.out.size))
      have HA5 := Lib.hid hAt
      clear HA2 HB2 HS HN hAt ho hE hS
      go_wp2
      go_roundw
      case rel => exact ⟨k + 1, v4, by omega, by go_num, HA5, HB5⟩
      case measure => simp [intOf]; omega
    · skip
      obtain rfl : k = F := by omega
      have hst : (3 : Int) + (k : Int) ≤ 1000 := by omega
      have hAz := HA.out
      rw [show (k : Int) - (k : Int) = 0 by omega] at hAz
      have HA2 := Lib.hid hAz
      clear HA hAz
      have HKS := HF2.out
      go_wp2_with fail
      refine (awake_any _).mono ?_
      rintro e V3 ⟨rfl, hB⟩
      have HA3 := Lib.hid (HA2.out.keep hB)
      have HB3 := Lib.hid (HB.out.trans (hB.mono HB.out.size))
      clear HA2 HB hB
      obtain ⟨hE, hS⟩ := app_fuse ⟨List.replicate k 1, 0, (3 : Int) + k, 0, false⟩ [] rfl (by simp; omega) rfl
      go_wp2_with fail
      refine (app_any w.heap.size b _ _ [] none 0 0 V3 HA3.out rfl ⟨fun _ => rfl, .inl rfl⟩ (by intro a ha; cases ha) HB3.out.size (by decide)).mono ?_
      rintro e V4 ⟨v4, rfl, hAt, ho, _⟩
      rw [hE]
      rw [hS] at hAt
      have HB5 := Lib.hid (HB3.out.trans (ho.below (HA3.out.up HBB.out) HB3.out.size))
      have HA5 := Lib.hid hAt
      clear HA3 HB3 hAt ho hE hS
      go_wp2_with fail
      refine (dow_any w.heap.size b _ _ V4 HA5.out).mono ?_
      rintro e w' ⟨rfl, rfl⟩
      go_wp2_with fail
      refine (ste_any w.heap.size b _ _ V4 HA5.out).mono ?_
      rintro e w' ⟨rfl, rfl⟩
      go_wp2_with fail
      refine (crs_any w.heap.size b _ _ 0 0 V4 HA5.out HB5.out.size).mono ?_
      rintro e V6 ⟨v6, rfl, hAt, ho, _⟩
      have HB6 := Lib.hid (HB5.out.trans (ho.below (HA5.out.up HBB.out) HB5.out.size))
      have HA6 := Lib.hid hAt
      clear HA5 HB5 hAt ho
      go_wp2_with fail
      refine (dow_any w.heap.size b _ _ V6 HA6.out).mono ?_
      rintro e w' ⟨rfl, rfl⟩
      rw [show (crsS ⟨List.replicate k 1, 0, (3 : Int) + (k : Int), 0, true⟩ 0 0).dn = false from rfl]
      go_wp2
      go_ret
      exact ⟨rfl, HB6.out⟩

end Go.Proofs.Ytjkpdfdcjhnjdaa
