/-
  The document's In of any kind: Sum (73), a lamp's Take (32).
-/
import Derived.Test.YtkonokjhpddbfaaDoorRngBG
import Derived.Test.YtkonokjhpddbfaaDoorGG
namespace Go.Proofs.YtkonokjhpddbfaaDoor
open Go.RowKit
set_option linter.unusedVariables false

theorem aftL_ok {l : List Nat} {n : Nat} (h : n ≤ l.length) : Oct.aftL l n = l.drop n := if_pos h
theorem aftL_no {l : List Nat} {n : Nat} (h : ¬ n ≤ l.length) : Oct.aftL l n = [] := if_neg h
theorem aftE_bad {l : List Nat} {e n : Nat} (h : e ≠ 0) : Oct.aftE l e n = e := if_pos h
theorem aftE_ok {l : List Nat} {n : Nat} (h : n ≤ l.length) : Oct.aftE l 0 n = 0 := by unfold Oct.aftE; rw [if_neg (fun h => h rfl), if_pos h]
theorem aftE_no {l : List Nat} {n : Nat} (h : ¬ n ≤ l.length) : Oct.aftE l 0 n = 9 := by unfold Oct.aftE; rw [if_neg (fun h => h rfl), if_neg h]
theorem aft_nil (n : Nat) : Oct.aftL [] n = [] := by unfold Oct.aftL; split <;> simp
theorem aft_step (r0 : List Nat) (e0 k : Nat) (h : e0 ≠ 0 → r0 = []) : Oct.aftL (Oct.aftL r0 (32 * k)) 32 = Oct.aftL r0 (32 * (k + 1)) ∧ Oct.aftE (Oct.aftL r0 (32 * k)) (Oct.aftE r0 e0 (32 * k)) 32 = Oct.aftE r0 e0 (32 * (k + 1)) := by
  by_cases he : e0 = 0
  · subst he
    by_cases h1 : 32 * k ≤ r0.length
    · rw [aftL_ok h1, aftE_ok h1]
      by_cases h2 : 32 * (k + 1) ≤ r0.length
      · have h3 : 32 ≤ (r0.drop (32 * k)).length := by rw [List.length_drop]; omega
        rw [aftL_ok h3, aftE_ok h3, aftL_ok h2, aftE_ok h2, List.drop_drop]
        exact ⟨rfl, rfl⟩
      · have h3 : ¬ 32 ≤ (r0.drop (32 * k)).length := by rw [List.length_drop]; omega
        rw [aftL_no h3, aftE_no h3, aftL_no h2, aftE_no h2]
        exact ⟨rfl, rfl⟩
    · have h2 : ¬ 32 * (k + 1) ≤ r0.length := by omega
      rw [aftL_no h1, aftE_no h1, aftL_no h2, aftE_no h2, aft_nil]
      exact ⟨rfl, aftE_bad (by omega)⟩
  · rw [h he, aft_nil, aft_nil, aft_nil, aftE_bad he, aftE_bad he, aftE_bad he]
    exact ⟨rfl, rfl⟩
/-- The document's In behind k sums. -/
def RefZ (w : World) (g : Nat) (A : Option Addr) (c : Nat) (l r0 : List Nat) (e0 k : Nat) : Prop := (e0 ≠ 0 → r0 = []) ∧ RefR w g A c l (Oct.aftL r0 (32 * k)) (Oct.aftE r0 e0 (32 * k))
theorem RefZ.below {w w' : World} {g : Nat} {A : Option Addr} {c : Nat} {l r0 : List Nat} {e0 k : Nat} (h : RefZ w g A c l r0 e0 k) (hb : Below w.heap.size w w') : RefZ w' g A c l r0 e0 k := ⟨h.1, h.2.below hb⟩
theorem RefZ.far {w w' : World} {g n : Nat} {A : Option Addr} {c : Nat} {l r0 : List Nat} {e0 k : Nat} (h : RefZ w g A c l r0 e0 k) (hg : w.grownBy w' (some n)) (hn : g < n) : RefZ w' g A c l r0 e0 k := ⟨h.1, h.2.far hg hn⟩
theorem RefZ.lt {w : World} {g : Nat} {A : Option Addr} {c : Nat} {l r0 : List Nat} {e0 k : Nat} (h : RefZ w g A c l r0 e0 k) : g < w.heap.size := h.2.lt
theorem rawZ_any (g : Nat) (A : Option Addr) (c : Nat) (l r0 : List Nat) (e0 k : Nat) (w : World) (HR : Hid (RefZ w g A c l r0 e0 k)) (hl : l.length ≤ 5000) :
    Calls Tryd.prog 98 #[.pointer (some ⟨g, 0, none⟩), .int .i64 32] w fun x w' => (∃ A' c', x = .returned (.slice A' (if 32 * (k + 1) ≤ r0.length then 32 else 0) c') ∧ (32 * (k + 1) ≤ r0.length → ∀ b, b < w.heap.size → Src w' b A' c' ((r0.drop (32 * k)).take 32))) ∧ RefZ w' g A c l r0 e0 (k + 1) ∧ w.grownBy w' (some g) := by
  have hs := aft_step r0 e0 k HR.out.1
  refine (rawR_any 32 (by omega) (by omega) g A c l _ _ w (Lib.hid HR.out.2) hl).mono ?_
  rintro x w' ⟨A', k', c', rfl, hk, hsr, hr, hg⟩
  have hc : 32 ≤ (Oct.aftL r0 (32 * k)).length ↔ 32 * (k + 1) ≤ r0.length := by
    unfold Oct.aftL
    split
    · rw [List.length_drop]; omega
    · simp; omega
  refine ⟨⟨A', c', ?_, fun h b hb => ?_⟩, ⟨HR.out.1, by rw [hs.1, hs.2] at hr; exact hr⟩, hg⟩
  · rw [hk]
    by_cases h : 32 * (k + 1) ≤ r0.length
    · rw [if_pos h, if_pos (hc.2 h)]
    · rw [if_neg h, if_neg (fun h2 => h (hc.1 h2))]
  · have h2 := hsr b hb
    rw [if_pos (hc.2 h)] at h2
    have e : Oct.aftL r0 (32 * k) = r0.drop (32 * k) := by unfold Oct.aftL; rw [if_pos (by omega)]
    rw [e] at h2
    exact h2
set_option maxRecDepth 100000 in
set_option maxHeartbeats 1000000 in
theorem refsumZ_any (g : Nat) (A : Option Addr) (c : Nat) (l r0 : List Nat) (e0 k : Nat) (w : World) (HR : Hid (RefZ w g A c l r0 e0 k)) (hl : l.length ≤ 5000) :
    Calls Tryd.prog 73 #[.pointer (some ⟨g, 0, none⟩)] w fun e w' => e = .returned (.agg (w8 (tk r0 k)).toArray) ∧ RefZ w' g A c l r0 e0 (k + 1) ∧ w.grownBy w' (some g) := by
  have hgw := HR.out.lt
  go_enter Tryd.func73, Tryd.ntmps73
  go_upto_region 2 with fail
  have HB : Hid (Blk ((w.alloc (.cells zsum 29)).alloc (.cells zsum 29)) w.heap.size 29 (w8 (List.replicate 32 0))) := Lib.hid (by
    have h := (Blk.new w 29 (w8 (List.replicate 32 0))).alloc (.cells zsum 29)
    rw [zsum_eq] at h
    exact h)
  have HC : Hid (Blk ((w.alloc (.cells zsum 29)).alloc (.cells zsum 29)) (w.heap.size + 1) 29 (w8 (List.replicate 32 0))) := Lib.hid (by
    have h := Blk.new (w.alloc (.cells zsum 29)) 29 (w8 (List.replicate 32 0))
    rw [zsum_eq, World.size_alloc] at h
    exact h)
  have HW : Hid (Below w.heap.size w ((w.alloc (.cells zsum 29)).alloc (.cells zsum 29))) := Lib.hid (((Below.refl _ _).alloc (Nat.le_refl _) _).alloc (by simp) _)
  unfold zsum at HB HC HW
  generalize ((w.alloc (.cells _ 29)).alloc (.cells _ 29)) = V at HB HC HW ⊢
  have hV : w.heap.size + 1 < V.heap.size := HC.out.lt
  have HRV := Lib.hid (HR.out.below HW.out)
  go_wp2_with fail
  refine (rawZ_any g A c l r0 e0 k V HRV hl).mono ?_
  rintro e w1 ⟨⟨A', c', rfl, hS⟩, hr1, hg1⟩
  have HR1 := Lib.hid hr1
  have HG1 : Hid (w.grownBy w1 (some g)) := Lib.hid ((Oct.Below.grownBy HW.out _).trans hg1)
  have HB1 := Lib.hid (HB.out.grown hg1 (by intro he; injection he; omega))
  have HC1 := Lib.hid (HC.out.grown hg1 (by intro he; injection he; omega))
  have hTL := tk_length r0 k
  have HTL := Lib.hid hTL
  have HRG := Lib.hid (fun (X : World) (h : Blk X (w.heap.size + 1) 29 (w8 (tk r0 k))) => h.all)
  have HS5 : Hid ((Tryd.prog.info? 29).map (·.size) = some (w8 (tk r0 k)).length) := Lib.hid (by rw [w8_length, HTL.out]; exact info29)
  have HS6 : Hid ((Tryd.prog.info? 29).map (·.size) = some (w8 (tk r0 k)).toArray.size) := Lib.hid (by rw [List.size_toArray, w8_length, HTL.out]; exact info29)
  have HZ6 : Hid ((w8 (List.replicate 32 0)).toArray.size = (w8 (tk r0 k)).toArray.size) := Lib.hid (by rw [List.size_toArray, List.size_toArray, w8_length, w8_length, HTL.out]; simp)
  have HO6 := Lib.hid (all_oneCell_toArray (w8_one (tk r0 k)))
  clear hTL hr1 HB HC HRV
  by_cases hs : 32 * (k + 1) ≤ r0.length
  · have HD : Hid (tk r0 k = (r0.drop (32 * k)).take 32) := Lib.hid (if_pos hs)
    have HSR := Lib.hid (hS hs (w.heap.size + 1) (by omega))
    have hg1w := hg1
    rw [if_pos hs]
    have HNE : Hid (∀ b, some b = some g → b < w.heap.size) := Lib.hid fun b hb => by injection hb; omega
    clear hS hg1 hg1w
    go_wp2_with fail
    go_loopw [5] (fun i wr => ∃ (j : Nat), j ≤ 32 ∧ i = .int .i64 j ∧ Hid (Blk wr w.heap.size 29 (w8 (List.replicate 32 0))) ∧ Hid (Blk wr (w.heap.size + 1) 29 (w8 ((tk r0 k).take j ++ List.replicate (32 - j) 0))) ∧ Hid (RefZ wr g A c l r0 e0 (k + 1)) ∧ Hid (Src wr (w.heap.size + 1) A' c' (tk r0 k)) ∧ Hid (w.grownBy wr (some g))) (fun i _ => 32 - (intOf i).toNat)
    case atStart => exact ⟨0, Nat.zero_le _, rfl, HB1, HC1, HR1, Lib.hid (by rw [HD.out]; exact HSR.out), HG1⟩
    case round =>
      clear HB1 HC1 HR1 HSR HG1
      obtain ⟨j, hj, rfl, HB, HC, HRr, HSR, HG⟩ := hrel
      by_cases hlt : j < 32
      · have j1 : (j : Int) < 32 := by omega
        obtain ⟨x, hx⟩ : ∃ x, (tk r0 k).getD j 0 = x := ⟨_, rfl⟩
        rcases HSR.out.at_ with hn | ⟨b, off, hA, hb1, hb2, hb3⟩
        · exfalso
          have h9 := HTL.out
          rw [hn] at h9
          simp at h9
        subst hA
        have hc1 := hb3 j (by rw [HTL.out]; exact hlt)
        rw [hx] at hc1
        obtain ⟨u, hu⟩ : ∃ u, wr.cell? ⟨w.heap.size + 1, j, none⟩ = some u := by
          rw [HC.out.cell]
          exact ⟨_, List.getElem?_eq_getElem (by rw [w8_length]; simp [HTL.out]; omega)⟩
        have hf2 := HC.out.frozen j
        have HE := Lib.hid (HC.out.set_ j (.int .u8 (x : Int)))
        rw [w8_set8, take_set32 (tk r0 k) j x hlt HTL.out hx] at HE
        have HBE := Lib.hid (HB.out.far (p := ⟨w.heap.size + 1, j, none⟩) (by show w.heap.size ≠ w.heap.size + 1; omega) (.int .u8 (x : Int)))
        have HGs : Hid (wr.grownBy (wr.setCell ⟨w.heap.size + 1, j, none⟩ (.int .u8 (x : Int))) (some (w.heap.size + 1))) := Lib.hid (only_setCell (only_refl _ _) (.inl rfl) _)
        have HGE := Lib.hid (grown_new' HG.out HGs.out (by intro b hb; injection hb; omega))
        have HSE := Lib.hid (HSR.out.grown HGs.out)
        have HRE : Hid (RefZ (wr.setCell ⟨w.heap.size + 1, j, none⟩ (.int .u8 (x : Int))) g A c l r0 e0 (k + 1)) := Lib.hid (HRr.out.far HGs.out (by omega))
        clear hx hb3
        go_wp2
        go_roundw
        case rel => exact ⟨j + 1, by omega, by go_num, HBE, HE, HRE, HSE, HGE⟩
        case measure => simp [intOf]; omega
      · obtain rfl : j = 32 := by omega
        have HC2 : Hid (Blk wr (w.heap.size + 1) 29 (w8 (tk r0 k))) := Lib.hid (by have h := HC.out; rw [Nat.sub_self, List.replicate_zero, List.append_nil, List.take_of_length_le (by rw [HTL.out]; omega)] at h; exact h)
        have HRG2 := Lib.hid (HRG.out wr HC2.out)
        go_wp2_with (first | (refine wpList_load_mid rfl 29 (.tmp 3) rfl (w.heap.size + 1) 0 rfl (w8 (tk r0 k)) _ HRG2.out Tryd.underlying29 rfl HS5.out ?_) | (refine wpList_store_row rfl 29 (.tmp 2) (.tmp 20) rfl w.heap.size (w8 (tk r0 k)).toArray rfl rfl 29 _ HB.out HS6.out HZ6.out HO6.out ?_))
        have HGz : wr.grownBy (wr.setRow w.heap.size (w8 (tk r0 k)).toArray) (some w.heap.size) := Oct.only_setRow _ _ _
        exact bodyPost_ret (v := .agg (w8 (tk r0 k)).toArray) (results_cell_row Tryd.results73 _ _ w.heap.size 29 (w8 (tk r0 k)).toArray (0, 0) _ rfl (HB.out.setRow _) Tryd.underlying29 rfl HS6.out) rfl ⟨rfl, HRr.out.far HGz (by omega), grown_new' HG.out HGz (by intro b hb; injection hb; omega)⟩
  · have HD : Hid (tk r0 k = List.replicate 32 0) := Lib.hid (if_neg hs)
    rw [if_neg hs]
    have HC2 : Hid (Blk w1 (w.heap.size + 1) 29 (w8 (tk r0 k))) := Lib.hid (by rw [HD.out]; exact HC1.out)
    have HRG2 := Lib.hid (HRG.out w1 HC2.out)
    clear hS hg1
    go_wp2_with fail
    refine wp_loop_rounds 1 ?_
    rw [rounds_succ]
    go_wp2_with (first | (refine wpList_load_mid rfl 29 (.tmp 3) rfl (w.heap.size + 1) 0 rfl (w8 (tk r0 k)) _ HRG2.out Tryd.underlying29 rfl HS5.out ?_) | (refine wpList_store_row rfl 29 (.tmp 2) (.tmp 20) rfl w.heap.size (w8 (tk r0 k)).toArray rfl rfl 29 _ HB1.out HS6.out HZ6.out HO6.out ?_))
    have HGz : w1.grownBy (w1.setRow w.heap.size (w8 (tk r0 k)).toArray) (some w.heap.size) := Oct.only_setRow _ _ _
    exact bodyPost_ret (v := .agg (w8 (tk r0 k)).toArray) (results_cell_row Tryd.results73 _ _ w.heap.size 29 (w8 (tk r0 k)).toArray (0, 0) _ rfl (HB1.out.setRow _) Tryd.underlying29 rfl HS6.out) rfl ⟨rfl, HR1.out.far HGz (by omega), grown_new' HG1.out HGz (by intro b hb; injection hb; omega)⟩

set_option maxRecDepth 100000 in
set_option maxHeartbeats 4000000 in
theorem rtakeZ_any (g : Nat) (A : Option Addr) (c : Nat) (l r0 : List Nat) (e0 : Nat) (w : World) (HR0 : Hid (RefZ w g A c l r0 e0 0)) (hl : l.length ≤ 5000) :
    Calls Tryd.prog 32 #[.pointer (some ⟨g, 0, none⟩)] w fun e w' => e = .returned (.agg (w8 (takeN r0)).toArray) ∧ RefZ w' g A c l r0 e0 32 ∧ w.grownBy w' (some g) := by
  have hgw := HR0.out.lt
  go_enter Tryd.func32, Tryd.ntmps32
  go_upto_region 2 with fail
  have HB : Hid (Blk ((w.alloc (.cells Tryd.zeroCells51 51)).alloc (.cells Tryd.zeroCells51 51)) w.heap.size 51 (w8 (List.replicate 1024 0))) := Lib.hid (by
    have h := (Blk.new w 51 (w8 (List.replicate 1024 0))).alloc (.cells Tryd.zeroCells51 51)
    rw [zc51] at h
    exact h)
  have HC : Hid (Blk ((w.alloc (.cells Tryd.zeroCells51 51)).alloc (.cells Tryd.zeroCells51 51)) (w.heap.size + 1) 51 (w8 (List.replicate 1024 0))) := Lib.hid (by
    have h := Blk.new (w.alloc (.cells Tryd.zeroCells51 51)) 51 (w8 (List.replicate 1024 0))
    rw [zc51, World.size_alloc] at h
    exact h)
  have HW : Hid (Below w.heap.size w ((w.alloc (.cells Tryd.zeroCells51 51)).alloc (.cells Tryd.zeroCells51 51))) := Lib.hid (((Below.refl _ _).alloc (Nat.le_refl _) _).alloc (by simp) _)
  generalize ((w.alloc (.cells Tryd.zeroCells51 51)).alloc (.cells Tryd.zeroCells51 51)) = V at HB HC HW ⊢
  have HRV := Lib.hid (HR0.out.below HW.out)
  have HGV : Hid (w.grownBy V (some g)) := Lib.hid (Oct.Below.grownBy HW.out _)
  have HTF : Hid (∀ a, (tf r0 a).length = 16) := Lib.hid (tf_length r0)
  have HTG : Hid (∀ a, (tg r0 a).length = 16) := Lib.hid (tg_length r0)
  rw [← sigC_zero (tf r0) (tg r0)] at HC
  go_wp2_with fail
  go_loopw [4, 5, 6] (fun a _ _ wr => ∃ (k : Nat), k ≤ 32 ∧ a = .int .i64 k ∧ Hid (Blk wr w.heap.size 51 (w8 (List.replicate 1024 0))) ∧ Hid (Blk wr (w.heap.size + 1) 51 (w8 (sigC (tf r0) (tg r0) k k))) ∧ Hid (RefZ wr g A c l r0 e0 k) ∧ Hid (w.grownBy wr (some g))) (fun a _ _ _ => 32 - (intOf a).toNat)
  case atStart => exact ⟨0, Nat.zero_le _, rfl, HB, HC, HRV, HGV⟩
  case round =>
    clear HB HC HRV HGV HW
    obtain ⟨k, hk, rfl, HB, HC, HRK, HG⟩ := hrel
    by_cases hlt : k < 32
    · have k1 : (k : Int) < 32 := by omega
      go_wp2_with fail
      refine (refsumZ_any g A c l r0 e0 k wr HRK hl).mono ?_
      rintro e X4 ⟨rfl, hr4, hg4⟩
      have HG4 := Lib.hid (HG.out.trans hg4)
      have HR4 := Lib.hid hr4
      have HB4 := Lib.hid (HB.out.grown hg4 (by intro he; injection he; omega))
      have HC4 := Lib.hid (HC.out.grown hg4 (by intro he; injection he; omega))
      clear hr4 hg4 HB HC HRK HG
      have HLA := Lib.hid (heap_alloc_last X4 (.cells zsum 29))
      have HS4 : Hid ((Tryd.prog.info? 29).map (·.size) = some (w8 (tk r0 k)).toArray.size) := Lib.hid (by rw [List.size_toArray, w8_length, tk_length]; exact info29)
      have HZ4 : Hid (zsum.size = (w8 (tk r0 k)).toArray.size) := Lib.hid (Eq.trans (b := 32) rfl (by rw [List.size_toArray, w8_length, tk_length]))
      have HO4 := Lib.hid (all_oneCell_toArray (w8_one (tk r0 k)))
      go_upto_region 6 with (first | (refine wpList_store_row rfl 29 (.tmp 5) (.tmp 12) rfl X4.heap.size (w8 (tk r0 k)).toArray rfl rfl 29 _ HLA.out HS4.out HZ4.out HO4.out ?_; rw [World.setRow_alloc_new]))
      have HD5 : Hid (Blk (X4.alloc (.cells (w8 (tk r0 k)).toArray 29)) X4.heap.size 29 (w8 (tk r0 k))) := Lib.hid (by
        have h := Blk.new X4 29 (w8 (tk r0 k))
        exact h)
      have HX5 : Hid (Below X4.heap.size X4 (X4.alloc (.cells (w8 (tk r0 k)).toArray 29))) := Lib.hid ((Below.refl _ _).alloc (Nat.le_refl _) _)
      generalize (X4.alloc (.cells (w8 (tk r0 k)).toArray 29)) = X5 at HD5 HX5 ⊢
      have HG5 := Lib.hid (Oct.only_below HG4.out HX5.out)
      have HR5 := Lib.hid (HR4.out.below HX5.out)
      have HB5 := Lib.hid (HB4.out.below HX5.out HB4.out.lt)
      have HC5 : Hid (Blk X5 (w.heap.size + 1) 51 (w8 (sigP (tf r0) (tg r0) k 0 0))) := Lib.hid (by rw [← sigP_start _ _ k hlt]; exact HC4.out.below HX5.out HC4.out.lt)
      have hgD : w.heap.size + 1 < X4.heap.size := HC4.out.lt
      generalize X4.heap.size = gD at HD5 hgD ⊢
      clear HLA HS4 HZ4 HO4 HG4 HR4 HB4 HC4 HX5
      go_wp2_with fail
      go_loopw [6] (fun a wr => ∃ (i : Nat), i ≤ 16 ∧ a = .int .i64 i ∧ Hid (Blk wr w.heap.size 51 (w8 (List.replicate 1024 0))) ∧ Hid (Blk wr (w.heap.size + 1) 51 (w8 (sigP (tf r0) (tg r0) k i i))) ∧ Hid (Blk wr gD 29 (w8 (tk r0 k))) ∧ Hid (RefZ wr g A c l r0 e0 (k + 1)) ∧ Hid (w.grownBy wr (some g))) (fun a _ => 16 - (intOf a).toNat)
      case atStart => exact ⟨0, Nat.zero_le _, rfl, HB5, HC5, HD5, HR5, HG5⟩
      case round =>
        clear HB5 HC5 HD5 HR5 HG5
        obtain ⟨i, hi, rfl, HB8, HC9i, HD8, HR8, HG8⟩ := hrel
        by_cases hil : i < 16
        · have i1 : (i : Int) < 16 := by omega
          have i2 : (i : Int) < 32 := by omega
          have i3 : (16 : Int) + (i : Int) < 32 := by omega
          have i4 : IntKind.i64.wrap (16 + (i : Int)) = 16 + (i : Int) := IntWalk.i64_in _ (by omega)
          obtain ⟨xo, hxo⟩ : ∃ x, (tk r0 k).getD i 0 = x := ⟨_, rfl⟩
          obtain ⟨xt, hxt⟩ : ∃ x, (tk r0 k).getD (16 + i) 0 = x := ⟨_, rfl⟩
          have HXo : Hid ((tf r0 k).getD i 0 = xo) := Lib.hid (by rw [← hxo]; simp [tf, List.getD, hil])
          have HXt : Hid ((tg r0 k).getD i 0 = xt) := Lib.hid (by rw [← hxt]; simp [tg, List.getD])
          have HCx9 : Hid (∀ w', Blk w' gD 29 (w8 (tk r0 k)) → w'.cell? ⟨gD, i, none⟩ = some (.int .u8 (xo : Int))) := Lib.hid fun w' h => by rw [h.cell, w8_get _ _ (by rw [tk_length]; omega), hxo]
          have HCx10 : Hid (∀ w', Blk w' gD 29 (w8 (tk r0 k)) → w'.cell? ⟨gD, 16 + i, none⟩ = some (.int .u8 (xt : Int))) := Lib.hid fun w' h => by rw [h.cell, w8_get _ _ (by rw [tk_length]; omega), hxt]
          have HTH9 : Hid (∀ X : World, Blk X (w.heap.size + 1) 51 (w8 (sigP (tf r0) (tg r0) k i i)) → X.there (w.heap.size + 1) (k * 16 + i) 1) := Lib.hid fun X h => h.there _ _ (by rw [w8_length, sigP_length _ _ HTF.out HTG.out k i i hlt (by omega) (by omega)]; omega)
          have HTH10 : Hid (∀ X : World, Blk X (w.heap.size + 1) 51 (w8 (sigP (tf r0) (tg r0) k (i + 1) i)) → X.there (w.heap.size + 1) (512 + k * 16 + i) 1) := Lib.hid fun X h => h.there _ _ (by rw [w8_length, sigP_length _ _ HTF.out HTG.out k (i + 1) i hlt (by omega) (by omega)]; omega)
          have hix : ∀ W : World, (Instr.indexAt 29 (.pointer (some ⟨gD, 0, none⟩)) (.int .i64 (16 + (i : Int)))).run Tryd.prog W = .ok (.pointer (some ⟨gD, 16 + i, none⟩)) W := idx29 gD i hil
          clear hxo hxt
          go_upto_region 9 with fail
          refine wp_region_held_drew (S := fun w' => Blk w' gD 29 (w8 (tk r0 k))) (by kernel_rfl) (HD8.out.drewN 1) (fun hHeld => ?_)
          refine wpAnyH_take (i := 0) (v := .int .i64 (k : Int)) rfl (by kernel_rfl) (by kernel_rfl) (by kernel_rfl) (fun _ _ _ h => h) (Or.inl ⟨by rfl, fun w _ => by rfl⟩) hHeld ?_
          show wpAnyH _ _ _ _ _ _ _ (Act.put _ (some 17) _) _
          simp only [Act.put, List.setIfInBounds_toArray, List.set_cons_zero, List.set_cons_succ]
          refine wpAnyH_take (i := 1) (v := .int .i64 (i : Int)) rfl (by kernel_rfl) (by kernel_rfl) (by kernel_rfl) (fun _ _ _ h => h) (Or.inl ⟨by rfl, fun w _ => by rfl⟩) hHeld ?_
          show wpAnyH _ _ _ _ _ _ _ (Act.put _ (some 18) _) _
          simp only [Act.put, List.setIfInBounds_toArray, List.set_cons_zero, List.set_cons_succ]
          refine wpAnyH_take (i := 2) (v := .int .i64 (i : Int)) rfl (by kernel_rfl) (by kernel_rfl) (by kernel_rfl) (fun _ _ _ h => h) (Or.inl ⟨by rfl, fun w _ => by rfl⟩) hHeld ?_
          show wpAnyH _ _ _ _ _ _ _ (Act.put _ (some 19) _) _
          simp only [Act.put, List.setIfInBounds_toArray, List.set_cons_zero, List.set_cons_succ]
          refine wpAnyH_take (i := 3) (v := .pointer (some ⟨gD, i, none⟩)) rfl (by kernel_rfl) (by kernel_rfl) (by kernel_rfl) (fun _ _ _ h => h) (Or.inl ⟨by rfl, by intro w' _; go_simp⟩) hHeld ?_
          show wpAnyH _ _ _ _ _ _ _ (Act.put _ (some 20) _) _
          simp only [Act.put, List.setIfInBounds_toArray, List.set_cons_zero, List.set_cons_succ]
          refine wpAnyH_take (i := 4) (v := .int .u8 (xo : Int)) rfl (by kernel_rfl) (by kernel_rfl) (by kernel_rfl) (fun _ _ _ h => h) (Or.inl ⟨by rfl, by intro w' h; have hc := HCx9.out w' h; go_simp⟩) hHeld ?_
          show wpAnyH _ _ _ _ _ _ _ (Act.put _ (some 21) _) _
          simp only [Act.put, List.setIfInBounds_toArray, List.set_cons_zero, List.set_cons_succ]
          refine wpAnyH_take (i := 5) (v := .pointer (some ⟨w.heap.size + 1, 0, none⟩)) rfl (by kernel_rfl) (by kernel_rfl) (by kernel_rfl) (fun _ _ _ h => h) (Or.inl ⟨by rfl, by intro w' _; go_simp⟩) hHeld ?_
          show wpAnyH _ _ _ _ _ _ _ (Act.put _ (some 22) _) _
          simp only [Act.put, List.setIfInBounds_toArray, List.set_cons_zero, List.set_cons_succ]
          refine wpAnyH_take (i := 6) (v := .pointer (some ⟨w.heap.size + 1, k * 16, none⟩)) rfl (by kernel_rfl) (by kernel_rfl) (by kernel_rfl) (fun _ _ _ h => h) (Or.inl ⟨by rfl, by intro w' _; go_simp⟩) hHeld ?_
          show wpAnyH _ _ _ _ _ _ _ (Act.put _ (some 23) _) _
          simp only [Act.put, List.setIfInBounds_toArray, List.set_cons_zero, List.set_cons_succ]
          refine wpAnyH_take (i := 7) (v := .pointer (some ⟨w.heap.size + 1, k * 16 + i, none⟩)) rfl (by kernel_rfl) (by kernel_rfl) (by kernel_rfl) (fun _ _ _ h => h) (Or.inl ⟨by rfl, by intro w' _; go_simp⟩) hHeld ?_
          show wpAnyH _ _ _ _ _ _ _ (Act.put _ (some 24) _) _
          simp only [Act.put, List.setIfInBounds_toArray, List.set_cons_zero, List.set_cons_succ]
          refine wpAnyH_ready (rs := [8]) (by kernel_rfl) (by simp) ?_
          refine AllReadyH.cons rfl (fun K hK => ?_) AllReadyH.nil
          refine step_store1 rfl 5 (.tmp 24) (.tmp 21) rfl (w.heap.size + 1) (k * 16 + i) (.int .u8 (xo : Int)) rfl rfl (HTH9.out _ (HC9i.out.drewN 1)) info5 rfl rfl ?_
          refine hK.out _ _ (Blk.far (HD8.out.drewN 1) (p := ⟨w.heap.size + 1, k * 16 + i, none⟩) (by show gD ≠ w.heap.size + 1; omega) _) (fun hHeld => ?_)
          clear hK K
          show wpAnyH _ _ _ _ _ _ _ (Act.put _ none _) _
          simp only [Act.put]
          refine wpAnyH_done (by kernel_rfl) ?_ _
          have HGs9 : Hid (wr.drew.grownBy (wr.drew.setCell ⟨w.heap.size + 1, k * 16 + i, none⟩ (.int .u8 (xo : Int))) (some (w.heap.size + 1))) := Lib.hid (only_setCell (only_refl _ _) (.inl rfl) _)
          have HC10i : Hid (Blk (wr.drew.setCell ⟨w.heap.size + 1, k * 16 + i, none⟩ (.int .u8 (xo : Int))) (w.heap.size + 1) 51 (w8 (sigP (tf r0) (tg r0) k (i + 1) i))) := Lib.hid (by
            have h := Blk.set_ (HC9i.out.drewN 1) (k * 16 + i) (.int .u8 (xo : Int))
            rw [w8_set8, sigP_o _ _ HTF.out k i i xo hil HXo.out] at h
            exact h)
          have HB9 := Lib.hid (Blk.grown (w := wr.drew) (HB8.out.drewN 1) HGs9.out (by intro he; injection he; omega))
          have HD9 := Lib.hid (Blk.grown (w := wr.drew) (HD8.out.drewN 1) HGs9.out (by intro he; injection he; omega))
          have HR9 := Lib.hid (RefZ.far (w := wr.drew) (HR8.out.below (below_drewN (Below.refl _ _) 1)) HGs9.out (by omega))
          have HG9 := Lib.hid (grown_new' (X1 := wr.drew) (only_drewN HG8.out 1) HGs9.out (by intro b hb; injection hb; omega))
          generalize wr.drew.setCell ⟨w.heap.size + 1, k * 16 + i, none⟩ (.int .u8 (xo : Int)) = X9 at HC10i HB9 HD9 HR9 HG9 ⊢
          clear HB8 HC9i HD8 HR8 HG8 HGs9 hHeld
          go_upto_region 10 with fail
          refine wp_region_held_drew (S := fun w' => Blk w' gD 29 (w8 (tk r0 k))) (by kernel_rfl) (HD9.out.drewN 1) (fun hHeld => ?_)
          refine wpAnyH_take (i := 0) (v := .int .i64 (k : Int)) rfl (by kernel_rfl) (by kernel_rfl) (by kernel_rfl) (fun _ _ _ h => h) (Or.inl ⟨by rfl, fun w _ => by rfl⟩) hHeld ?_
          show wpAnyH _ _ _ _ _ _ _ (Act.put _ (some 25) _) _
          simp only [Act.put, List.setIfInBounds_toArray, List.set_cons_zero, List.set_cons_succ]
          refine wpAnyH_take (i := 1) (v := .int .i64 (i : Int)) rfl (by kernel_rfl) (by kernel_rfl) (by kernel_rfl) (fun _ _ _ h => h) (Or.inl ⟨by rfl, fun w _ => by rfl⟩) hHeld ?_
          show wpAnyH _ _ _ _ _ _ _ (Act.put _ (some 26) _) _
          simp only [Act.put, List.setIfInBounds_toArray, List.set_cons_zero, List.set_cons_succ]
          refine wpAnyH_take (i := 2) (v := .int .i64 (i : Int)) rfl (by kernel_rfl) (by kernel_rfl) (by kernel_rfl) (fun _ _ _ h => h) (Or.inl ⟨by rfl, fun w _ => by rfl⟩) hHeld ?_
          show wpAnyH _ _ _ _ _ _ _ (Act.put _ (some 27) _) _
          simp only [Act.put, List.setIfInBounds_toArray, List.set_cons_zero, List.set_cons_succ]
          refine wpAnyH_take (i := 3) (v := .int .i64 (16 + (i : Int))) rfl (by kernel_rfl) (by kernel_rfl) (by kernel_rfl) (fun _ _ _ h => h) (Or.inl ⟨by rfl, by intro w' _; go_simp⟩) hHeld ?_
          show wpAnyH _ _ _ _ _ _ _ (Act.put _ (some 28) _) _
          simp only [Act.put, List.setIfInBounds_toArray, List.set_cons_zero, List.set_cons_succ]
          refine wpAnyH_take (i := 4) (v := .pointer (some ⟨gD, 16 + i, none⟩)) rfl (by kernel_rfl) (by kernel_rfl) (by kernel_rfl) (fun _ _ _ h => h) (Or.inl ⟨by rfl, fun w' _ => by first | (have h7 := hix w'; go_simp) | go_simp⟩) hHeld ?_
          show wpAnyH _ _ _ _ _ _ _ (Act.put _ (some 29) _) _
          simp only [Act.put, List.setIfInBounds_toArray, List.set_cons_zero, List.set_cons_succ]
          refine wpAnyH_take (i := 5) (v := .int .u8 (xt : Int)) rfl (by kernel_rfl) (by kernel_rfl) (by kernel_rfl) (fun _ _ _ h => h) (Or.inl ⟨by rfl, by intro w' h; have hc := HCx10.out w' h; go_simp⟩) hHeld ?_
          show wpAnyH _ _ _ _ _ _ _ (Act.put _ (some 30) _) _
          simp only [Act.put, List.setIfInBounds_toArray, List.set_cons_zero, List.set_cons_succ]
          refine wpAnyH_take (i := 6) (v := .pointer (some ⟨w.heap.size + 1, 512, none⟩)) rfl (by kernel_rfl) (by kernel_rfl) (by kernel_rfl) (fun _ _ _ h => h) (Or.inl ⟨by rfl, by intro w' _; go_simp⟩) hHeld ?_
          show wpAnyH _ _ _ _ _ _ _ (Act.put _ (some 31) _) _
          simp only [Act.put, List.setIfInBounds_toArray, List.set_cons_zero, List.set_cons_succ]
          refine wpAnyH_take (i := 7) (v := .pointer (some ⟨w.heap.size + 1, 512 + k * 16, none⟩)) rfl (by kernel_rfl) (by kernel_rfl) (by kernel_rfl) (fun _ _ _ h => h) (Or.inl ⟨by rfl, by intro w' _; go_simp⟩) hHeld ?_
          show wpAnyH _ _ _ _ _ _ _ (Act.put _ (some 32) _) _
          simp only [Act.put, List.setIfInBounds_toArray, List.set_cons_zero, List.set_cons_succ]
          refine wpAnyH_take (i := 8) (v := .pointer (some ⟨w.heap.size + 1, 512 + k * 16 + i, none⟩)) rfl (by kernel_rfl) (by kernel_rfl) (by kernel_rfl) (fun _ _ _ h => h) (Or.inl ⟨by rfl, by intro w' _; go_simp⟩) hHeld ?_
          show wpAnyH _ _ _ _ _ _ _ (Act.put _ (some 33) _) _
          simp only [Act.put, List.setIfInBounds_toArray, List.set_cons_zero, List.set_cons_succ]
          refine wpAnyH_ready (rs := [9]) (by kernel_rfl) (by simp) ?_
          refine AllReadyH.cons rfl (fun K hK => ?_) AllReadyH.nil
          refine step_store1 rfl 5 (.tmp 33) (.tmp 30) rfl (w.heap.size + 1) (512 + k * 16 + i) (.int .u8 (xt : Int)) rfl rfl (HTH10.out _ (HC10i.out.drewN 1)) info5 rfl rfl ?_
          refine hK.out _ _ (Blk.far (HD9.out.drewN 1) (p := ⟨w.heap.size + 1, 512 + k * 16 + i, none⟩) (by show gD ≠ w.heap.size + 1; omega) _) (fun hHeld => ?_)
          clear hK K
          show wpAnyH _ _ _ _ _ _ _ (Act.put _ none _) _
          simp only [Act.put]
          refine wpAnyH_done (by kernel_rfl) ?_ _
          have HGs10 : Hid (X9.drew.grownBy (X9.drew.setCell ⟨w.heap.size + 1, 512 + k * 16 + i, none⟩ (.int .u8 (xt : Int))) (some (w.heap.size + 1))) := Lib.hid (only_setCell (only_refl _ _) (.inl rfl) _)
          have HCE : Hid (Blk (X9.drew.setCell ⟨w.heap.size + 1, 512 + k * 16 + i, none⟩ (.int .u8 (xt : Int))) (w.heap.size + 1) 51 (w8 (sigP (tf r0) (tg r0) k (i + 1) (i + 1)))) := Lib.hid (by
            have h := Blk.set_ (HC10i.out.drewN 1) (512 + k * 16 + i) (.int .u8 (xt : Int))
            rw [w8_set8, sigP_t _ _ HTF.out HTG.out k (i + 1) i xt hlt (by omega) hil HXt.out] at h
            exact h)
          have HBE := Lib.hid (Blk.grown (w := X9.drew) (HB9.out.drewN 1) HGs10.out (by intro he; injection he; omega))
          have HDE := Lib.hid (Blk.grown (w := X9.drew) (HD9.out.drewN 1) HGs10.out (by intro he; injection he; omega))
          have HRE := Lib.hid (RefZ.far (w := X9.drew) (HR9.out.below (below_drewN (Below.refl _ _) 1)) HGs10.out (by omega))
          have HGE := Lib.hid (grown_new' (X1 := X9.drew) (only_drewN HG9.out 1) HGs10.out (by intro b hb; injection hb; omega))
          generalize X9.drew.setCell ⟨w.heap.size + 1, 512 + k * 16 + i, none⟩ (.int .u8 (xt : Int)) = X10 at HCE HBE HDE HRE HGE ⊢
          clear HB9 HC10i HD9 HR9 HG9 HGs10 hHeld hix
          go_wp2
          go_roundw
          case rel => exact ⟨i + 1, by omega, by go_num, HBE, HCE, HDE, HRE, HGE⟩
          case measure => simp [intOf]; omega
        · obtain rfl : i = 16 := by omega
          have HCE : Hid (Blk wr (w.heap.size + 1) 51 (w8 (sigC (tf r0) (tg r0) (k + 1) (k + 1)))) := Lib.hid (by rw [← sigP_end _ _ HTF.out HTG.out k]; exact HC9i.out)
          clear HC9i
          go_wp2
          go_roundw
          case rel => exact ⟨k + 1, by omega, by go_num, HB8, HCE, HR8, HG8⟩
          case measure => simp [intOf]; omega
    · obtain rfl : k = 32 := by omega
      rw [sigC_end, show rows (tf r0) 32 ++ rows (tg r0) 32 = takeN r0 from rfl] at HC
      have HRG := Lib.hid HC.out.all
      have HS5 : Hid ((Tryd.prog.info? 51).map (·.size) = some (w8 (takeN r0)).length) := Lib.hid (by rw [w8_length, takeN_length]; exact info51)
      have HS6 : Hid ((Tryd.prog.info? 51).map (·.size) = some (w8 (takeN r0)).toArray.size) := Lib.hid (by rw [List.size_toArray, w8_length, takeN_length]; exact info51)
      have HZ6 : Hid ((w8 (List.replicate 1024 0)).toArray.size = (w8 (takeN r0)).toArray.size) := Lib.hid (by rw [List.size_toArray, List.size_toArray, w8_length, w8_length, takeN_length]; simp)
      have HO6 := Lib.hid (all_oneCell_toArray (w8_one (takeN r0)))
      go_wp2_with (first | (refine wpList_load_mid rfl 51 (.tmp 3) rfl (w.heap.size + 1) 0 rfl (w8 (takeN r0)) _ HRG.out Tryd.underlying51 rfl HS5.out ?_) | (refine wpList_store_row rfl 51 (.tmp 2) (.tmp 34) rfl w.heap.size (w8 (takeN r0)).toArray rfl rfl 51 _ HB.out HS6.out HZ6.out HO6.out ?_))
      have HGz : wr.grownBy (wr.setRow w.heap.size (w8 (takeN r0)).toArray) (some w.heap.size) := Oct.only_setRow _ _ _
      exact bodyPost_ret (v := .agg (w8 (takeN r0)).toArray) (results_cell_row Tryd.results32 _ _ w.heap.size 51 (w8 (takeN r0)).toArray (0, 0) _ rfl (HB.out.setRow _) Tryd.underlying51 rfl HS6.out) rfl ⟨rfl, HRK.out.far HGz hgw, grown_new' HG.out HGz (by intro b hb; injection hb; omega)⟩
end Go.Proofs.YtkonokjhpddbfaaDoor
