/-
  The document's All.
-/
import Derived.Test.YtnnimjaigciedaaWebAr
namespace Go.Proofs.Ytnnimjaigciedaa
open Go.RowKit
set_option linter.unusedVariables false

set_option maxRecDepth 100000 in
set_option maxHeartbeats 8000000 in
theorem rall_any (sa : Option Addr) (sl sc : Nat) (ea : Option Addr) (el ec : Nat) (es : List Ed) (w : World) (hE : EdgeRow w ea es) (hel : es.length = el) (hel2 : el ≤ 100) (hok : ∀ e ∈ es, EdOk e) :
    Calls Try.prog 30 #[.agg #[.slice sa sl sc, .slice ea el ec]] w fun r w' => r = .returned (.tuple #[.int .u64 (allV es), .int .i64 (allE es)]) ∧ Below w.heap.size w w' := by
  have E0w := Lib.hid hE
  have HE0 := E0w
  have Bw : Hid (Below w.heap.size w w) := Lib.hid (Below.refl _ _)
  have HEL := Lib.hid hel
  have HOK := Lib.hid hok
  have HV : Hid (sumV (caps es) = allV es ∧ sumE (caps es) = allE es) := Lib.hid (by
    have h := all_caps es hok 0 ⟨by decide, by decide⟩
    unfold sumV sumE allV allE
    rw [h]; exact ⟨rfl, rfl⟩)
  clear hE hel hok
  go_enter Try.func30, Try.ntmps30
  have hB : Below w.heap.size w (w.alloc (.cells #[.slice sa sl sc, .slice ea el ec] 25)) := (Below.refl _ _).alloc (Nat.le_refl _) _
  have BY1 : Hid (Below w.heap.size w (w.alloc (.cells #[.slice sa sl sc, .slice ea el ec] 25))) := Lib.hid (Bw.out.trans (hB.mono Bw.out.size))
  have E0Y1 : Hid (EdgeRow (w.alloc (.cells #[.slice sa sl sc, .slice ea el ec] 25)) ea es) := Lib.hid (E0w.out.below hB)
  have PY1 : Hid (Blk (w.alloc (.cells #[.slice sa sl sc, .slice ea el ec] 25)) w.heap.size 25 [.slice sa sl sc, .slice ea el ec]) := Lib.hid (Blk.new _ _ [.slice sa sl sc, .slice ea el ec])
  clear hB Bw E0w
  go_wp2
  generalize (w.alloc (.cells #[.slice sa sl sc, .slice ea el ec] 25)) = Y1 at BY1 E0Y1 PY1 ⊢
  generalize w.heap.size = gp at PY1 ⊢
  have HO0 : Hid (Y1.ownsRow w.heap.size 40 1 (.slice none 0 0) 0 (us [])) := Lib.hid (World.ownsRow_nil _ _ _ _)
  go_loopw [4, 5] (fun l i wd => ∃ (k : Nat) (v : Value), k ≤ el ∧ i = .int .i64 k ∧ v = l ∧ Hid (wd.ownsRow w.heap.size 40 1 v (caps (es.take k)).length (us (caps (es.take k)))) ∧ Hid (Blk wd gp 25 [.slice sa sl sc, .slice ea el ec]) ∧ Hid (Below w.heap.size w wd)) (fun _ i _ => el - (intOf i).toNat)
  case atStart => exact ⟨0, _, Nat.zero_le _, rfl, rfl, HO0, PY1, BY1⟩
  case round =>
    clear HO0 E0Y1 BY1 PY1
    obtain ⟨k, v, hk, rfl, rfl, O, P, B⟩ := hrel
    have cP1 := Blk.cell P.out 1
    simp only [List.getElem?_cons_zero, List.getElem?_cons_succ] at cP1
    by_cases hlt : k < el
    · have hk' : k < es.length := by rw [HEL.out]; exact hlt
      obtain ⟨be, oe, rfl, hce⟩ := HE0.out.at_ hk'
      obtain ⟨p, q, c, d, f, g, h, i, hx⟩ : ∃ p q c d f g h i, es.getD k ed0 = ⟨p, q, c, d, f, g, h, i⟩ := ⟨_, _, _, _, _, _, _, _, rfl⟩
      rw [hx] at hce
      have C : Hid (EdAt wr be (oe + k * 8) ⟨p, q, c, d, f, g, h, i⟩) := Lib.hid (hce.below B.out)
      have HBE : Hid (be < w.heap.size) := Lib.hid hce.1
      have hk0 : (0 : Int) ≤ (k : Int) := Int.natCast_nonneg _
      have hk1 : (k : Int) < (el : Int) := by omega
      have HSU : Hid (caps (es.take (k + 1)) = caps (es.take k) ++ [c, d]) := Lib.hid (by rw [caps_snoc es k hk', hx])
      have hln : (caps (es.take k)).length ≤ 400 := by rw [caps_length, List.length_take]; omega
      clear hce hx hk'
      go_wp2_with fail
      have hBz : Below wr.heap.size wr wr.drew := below_drewN (Below.refl _ _) 1
      have BX0 : Hid (Below w.heap.size w wr.drew) := Lib.hid (B.out.trans (hBz.mono B.out.size))
      have PX0 : Hid (Blk wr.drew gp 25 [.slice sa sl sc, .slice (some ⟨be, oe, none⟩) el ec]) := Lib.hid (P.out.below hBz P.out.lt)
      have CX0 : Hid (EdAt wr.drew be (oe + k * 8) ⟨p, q, c, d, f, g, h, i⟩) := Lib.hid (C.out.below hBz)
      have OX0 : Hid (World.ownsRow wr.drew w.heap.size 40 1 v (caps (es.take k)).length (us (caps (es.take k)))) := Lib.hid (ownsRow_keep O.out hBz)
      clear hBz
      refine wp_region_held_drew (S := fun w' => Blk w' gp 25 [.slice sa sl sc, .slice (some ⟨be, oe, none⟩) el ec] ∧ EdAt w' be (oe + k * 8) ⟨p, q, c, d, f, g, h, i⟩) (by kernel_rfl) (⟨PX0.out, CX0.out⟩) (fun hHeld => ?_)
      generalize wr.drew = X0 at hHeld BX0 PX0 CX0 OX0 ⊢
      refine wpAnyH_take (i := 0) (v := v) rfl (by kernel_rfl) (by kernel_rfl) (by kernel_rfl) (fun _ _ _ h => h) (Or.inl ⟨by rfl, fun w _ => by rfl⟩) hHeld ?_
      show wpAnyH _ _ _ _ _ _ _ (Act.put _ (some 13) _) _
      simp only [Act.put, List.setIfInBounds_toArray, List.set_cons_zero, List.set_cons_succ]
      refine wpAnyH_take (i := 1) (v := .pointer (some ⟨gp, 1, none⟩)) rfl (by kernel_rfl) (by kernel_rfl) (by kernel_rfl) (fun _ _ _ h => h) (Or.inl ⟨by rfl, by intro w' h; go_simp⟩) hHeld ?_
      show wpAnyH _ _ _ _ _ _ _ (Act.put _ (some 14) _) _
      simp only [Act.put, List.setIfInBounds_toArray, List.set_cons_zero, List.set_cons_succ]
      refine wpAnyH_take (i := 2) (v := .slice (some ⟨be, oe, none⟩) el ec) rfl (by kernel_rfl) (by kernel_rfl) (by kernel_rfl) (fun _ _ _ h => h) (Or.inl ⟨by rfl, by intro w' h; have k1 := Blk.cell h.1 1; simp only [List.getElem?_cons_zero, List.getElem?_cons_succ] at k1; go_simp⟩) hHeld ?_
      show wpAnyH _ _ _ _ _ _ _ (Act.put _ (some 15) _) _
      simp only [Act.put, List.setIfInBounds_toArray, List.set_cons_zero, List.set_cons_succ]
      refine wpAnyH_take (i := 3) (v := .int .i64 (k : Int)) rfl (by kernel_rfl) (by kernel_rfl) (by kernel_rfl) (fun _ _ _ h => h) (Or.inl ⟨by rfl, fun w _ => by rfl⟩) hHeld ?_
      show wpAnyH _ _ _ _ _ _ _ (Act.put _ (some 16) _) _
      simp only [Act.put, List.setIfInBounds_toArray, List.set_cons_zero, List.set_cons_succ]
      refine wpAnyH_take (i := 4) (v := .pointer (some ⟨be, oe + k * 8, none⟩)) rfl (by kernel_rfl) (by kernel_rfl) (by kernel_rfl) (fun _ _ _ h => h) (Or.inl ⟨by rfl, by intro w' h; go_simp⟩) hHeld ?_
      show wpAnyH _ _ _ _ _ _ _ (Act.put _ (some 17) _) _
      simp only [Act.put, List.setIfInBounds_toArray, List.set_cons_zero, List.set_cons_succ]
      refine wpAnyH_take (i := 5) (v := .pointer (some ⟨be, oe + k * 8 + 2, none⟩)) rfl (by kernel_rfl) (by kernel_rfl) (by kernel_rfl) (fun _ _ _ h => h) (Or.inl ⟨by rfl, by intro w' h; go_simp⟩) hHeld ?_
      show wpAnyH _ _ _ _ _ _ _ (Act.put _ (some 18) _) _
      simp only [Act.put, List.setIfInBounds_toArray, List.set_cons_zero, List.set_cons_succ]
      refine wpAnyH_take (i := 6) (v := .pointer (some ⟨be, oe + k * 8 + 2, none⟩)) rfl (by kernel_rfl) (by kernel_rfl) (by kernel_rfl) (fun _ _ _ h => h) (Or.inl ⟨by rfl, by intro w' h; go_simp⟩) hHeld ?_
      show wpAnyH _ _ _ _ _ _ _ (Act.put _ (some 19) _) _
      simp only [Act.put, List.setIfInBounds_toArray, List.set_cons_zero, List.set_cons_succ]
      refine wpAnyH_take (i := 7) (v := .int .u64 c) rfl (by kernel_rfl) (by kernel_rfl) (by kernel_rfl) (fun _ _ _ h => h) (Or.inl ⟨by rfl, by intro w' h; have k2 : w'.cell? ⟨be, oe + k * 8 + 2, none⟩ = _ := h.2.2 2 _ rfl; go_simp⟩) hHeld ?_
      show wpAnyH _ _ _ _ _ _ _ (Act.put _ (some 20) _) _
      simp only [Act.put, List.setIfInBounds_toArray, List.set_cons_zero, List.set_cons_succ]
      refine wpAnyH_take (i := 8) (v := .pointer (some ⟨gp, 1, none⟩)) rfl (by kernel_rfl) (by kernel_rfl) (by kernel_rfl) (fun _ _ _ h => h) (Or.inl ⟨by rfl, by intro w' h; go_simp⟩) hHeld ?_
      show wpAnyH _ _ _ _ _ _ _ (Act.put _ (some 21) _) _
      simp only [Act.put, List.setIfInBounds_toArray, List.set_cons_zero, List.set_cons_succ]
      refine wpAnyH_take (i := 9) (v := .slice (some ⟨be, oe, none⟩) el ec) rfl (by kernel_rfl) (by kernel_rfl) (by kernel_rfl) (fun _ _ _ h => h) (Or.inl ⟨by rfl, by intro w' h; have k1 := Blk.cell h.1 1; simp only [List.getElem?_cons_zero, List.getElem?_cons_succ] at k1; go_simp⟩) hHeld ?_
      show wpAnyH _ _ _ _ _ _ _ (Act.put _ (some 22) _) _
      simp only [Act.put, List.setIfInBounds_toArray, List.set_cons_zero, List.set_cons_succ]
      refine wpAnyH_take (i := 10) (v := .int .i64 (k : Int)) rfl (by kernel_rfl) (by kernel_rfl) (by kernel_rfl) (fun _ _ _ h => h) (Or.inl ⟨by rfl, fun w _ => by rfl⟩) hHeld ?_
      show wpAnyH _ _ _ _ _ _ _ (Act.put _ (some 23) _) _
      simp only [Act.put, List.setIfInBounds_toArray, List.set_cons_zero, List.set_cons_succ]
      refine wpAnyH_take (i := 11) (v := .pointer (some ⟨be, oe + k * 8, none⟩)) rfl (by kernel_rfl) (by kernel_rfl) (by kernel_rfl) (fun _ _ _ h => h) (Or.inl ⟨by rfl, by intro w' h; go_simp⟩) hHeld ?_
      show wpAnyH _ _ _ _ _ _ _ (Act.put _ (some 24) _) _
      simp only [Act.put, List.setIfInBounds_toArray, List.set_cons_zero, List.set_cons_succ]
      refine wpAnyH_take (i := 12) (v := .pointer (some ⟨be, oe + k * 8 + 2, none⟩)) rfl (by kernel_rfl) (by kernel_rfl) (by kernel_rfl) (fun _ _ _ h => h) (Or.inl ⟨by rfl, by intro w' h; go_simp⟩) hHeld ?_
      show wpAnyH _ _ _ _ _ _ _ (Act.put _ (some 25) _) _
      simp only [Act.put, List.setIfInBounds_toArray, List.set_cons_zero, List.set_cons_succ]
      refine wpAnyH_take (i := 13) (v := .pointer (some ⟨be, oe + k * 8 + 3, none⟩)) rfl (by kernel_rfl) (by kernel_rfl) (by kernel_rfl) (fun _ _ _ h => h) (Or.inl ⟨by rfl, by intro w' h; go_simp⟩) hHeld ?_
      show wpAnyH _ _ _ _ _ _ _ (Act.put _ (some 26) _) _
      simp only [Act.put, List.setIfInBounds_toArray, List.set_cons_zero, List.set_cons_succ]
      refine wpAnyH_take (i := 14) (v := .int .u64 d) rfl (by kernel_rfl) (by kernel_rfl) (by kernel_rfl) (fun _ _ _ h => h) (Or.inl ⟨by rfl, by intro w' h; have k3 : w'.cell? ⟨be, oe + k * 8 + 3, none⟩ = _ := h.2.2 3 _ rfl; go_simp⟩) hHeld ?_
      show wpAnyH _ _ _ _ _ _ _ (Act.put _ (some 27) _) _
      simp only [Act.put, List.setIfInBounds_toArray, List.set_cons_zero, List.set_cons_succ]
      refine wpAnyH_ready (rs := [15]) (by kernel_rfl) (by simp) ?_
      refine AllReadyH.cons rfl (fun K hK => ?_) AllReadyH.nil
      refine step_two rfl 20 27 rfl c d rfl rfl ?_
      intro X1 gn hB hN hg
      have BX1 : Hid (Below w.heap.size w X1) := Lib.hid (BX0.out.trans (hB.mono BX0.out.size))
      have PX1 : Hid (Blk X1 gp 25 [.slice sa sl sc, .slice (some ⟨be, oe, none⟩) el ec]) := Lib.hid (PX0.out.below hB PX0.out.lt)
      have CX1 : Hid (EdAt X1 be (oe + k * 8) ⟨p, q, c, d, f, g, h, i⟩) := Lib.hid (CX0.out.below hB)
      have OX1 : Hid (World.ownsRow X1 w.heap.size 40 1 v (caps (es.take k)).length (us (caps (es.take k)))) := Lib.hid (ownsRow_keep OX0.out hB)
      have NX1 : Hid (Blk X1 gn 40 (us [c, d])) := Lib.hid (hN)
      clear BX0 PX0 CX0 OX0 hB hN hg
      refine hK.out _ _ (⟨PX1.out, CX1.out⟩) (fun hHeld => ?_)
      clear hK K
      show wpAnyH _ _ _ _ _ _ _ (Act.put _ (some 28) _) _
      simp only [Act.put, List.setIfInBounds_toArray, List.set_cons_zero, List.set_cons_succ]
      refine wpAnyH_ready (rs := [16]) (by kernel_rfl) (by simp) ?_
      refine AllReadyH.cons rfl (fun K hK => ?_) AllReadyH.nil
      refine step_num rfl (.tmp 13) (.tmp 28) rfl w.heap.size v (caps (es.take k)) [c, d] rfl OX1.out gn 2 2 rfl NX1.out rfl hln (by decide) BX1.out.size ?_
      intro v2 X2 hOwn2 hO
      have hOwn := OX1.out
      have hPO := own_ne PX1.out OX1.out (by decide)
      have hCO : EdAt X2 be (oe + k * 8) ⟨p, q, c, d, f, g, h, i⟩ := CX1.out.grown hO (fun e1 => by have := (hOwn.lt be e1.symm).1; have := HBE.out; omega)
      have BX2 : Hid (Below w.heap.size w X2) := Lib.hid (below_own BX1.out hO hOwn (Nat.le_refl _) BX1.out.size)
      have PX2 : Hid (Blk X2 gp 25 [.slice sa sl sc, .slice (some ⟨be, oe, none⟩) el ec]) := Lib.hid (PX1.out.grown hO hPO)
      have CX2 : Hid (EdAt X2 be (oe + k * 8) ⟨p, q, c, d, f, g, h, i⟩) := Lib.hid (hCO)
      have O2X2 : Hid (World.ownsRow X2 w.heap.size 40 1 v2 (caps (es.take k) ++ [c, d]).length (us (caps (es.take k) ++ [c, d]))) := Lib.hid (hOwn2)
      clear BX1 PX1 CX1 hOwn hOwn2 hO hCO
      refine hK.out _ _ (⟨PX2.out, CX2.out⟩) (fun hHeld => ?_)
      clear hK K
      show wpAnyH _ _ _ _ _ _ _ (Act.put _ (some 29) _) _
      simp only [Act.put, List.setIfInBounds_toArray, List.set_cons_zero, List.set_cons_succ]
      refine wpAnyH_take (i := 17) (v := v2) rfl (by kernel_rfl) (by kernel_rfl) (by kernel_rfl) (fun _ _ _ h => h) (Or.inl ⟨by rfl, fun w _ => by rfl⟩) hHeld ?_
      show wpAnyH _ _ _ _ _ _ _ (Act.put _ (some 4) _) _
      simp only [Act.put, List.setIfInBounds_toArray, List.set_cons_zero, List.set_cons_succ]
      refine wpAnyH_done (by kernel_rfl) ?_ _
      clear hHeld
      have HN : Hid (X2.ownsRow w.heap.size 40 1 v2 (caps (es.take (k + 1))).length (us (caps (es.take (k + 1))))) := Lib.hid (by rw [HSU.out]; exact O2X2.out)
      go_wp2
      go_roundw
      case rel => exact ⟨k + 1, v2, by omega, by go_num, rfl, HN, PX2, BX2⟩
      case measure => simp [intOf] <;> omega
    · obtain rfl : k = el := by omega
      have hO := O.out
      rw [List.take_of_length_le (by rw [HEL.out]; exact Nat.le_refl _)] at hO
      obtain ⟨a', c', hv, hn⟩ := Nums.of_own hO (caps_word es HOK.out) (by rw [caps_length, HEL.out]; omega)
      have HN := Lib.hid hn
      clear hn hO
      subst hv
      go_wp2_with fail
      refine (rsum_any a' c' (caps es) wr HN.out).mono ?_
      rintro e w' ⟨rfl, rfl⟩
      rw [HV.out.1, HV.out.2]
      go_wp2
      go_ret2
      exact ⟨rfl, B.out⟩
end Go.Proofs.Ytnnimjaigciedaa
