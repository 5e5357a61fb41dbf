/-
  code.Run: what a run answers, what it costs, or what is wrong.
-/
import Derived.Test.YtkilajobnlagbaaDoorCodF
namespace Go.Proofs.YtkilajobnlagbaaDoor
open Go.RowKit
set_option linter.unusedVariables false

/-- The answer. -/
def retV (R : Int × Nat × Int) : Value := .tuple #[.int .u64 R.1, .int .i64 (R.2.1 : Int), .int .i64 R.2.2]
/-- What holds at the label. -/
structure RunInv (w wd : World) (gs gb : Nat) (A : Option Addr) (n c : Nat) (p : List Int) (fa : Option Addr) (fn fc : Nat) (pa : Option Addr) (pn pc : Nat) (ht : Int) (fs : List Int) (ps : List Bool) (s : List Int) : Prop where
  below : Below w.heap.size w wd
  stk : Stk wd gs w.heap.size s
  hgs : w.heap.size ≤ gs
  box : Blk wd gb 33 [.slice fa fn fc, .slice pa pn pc, .int .u64 ht]
  len : s.length ≤ 32
  word : ∀ x ∈ s, Word x
theorem RunInv.turn {w wd wd' : World} {gs gb : Nat} {A : Option Addr} {n c : Nat} {p : List Int} {fa : Option Addr} {fn fc : Nat} {pa : Option Addr} {pn pc : Nat} {ht : Int} {fs : List Int} {ps : List Bool} {s : List Int}
    (h : RunInv w wd gs gb A n c p fa fn fc pa pn pc ht fs ps s) (hB : Below wd.heap.size wd wd') : RunInv w wd' gs gb A n c p fa fn fc pa pn pc ht fs ps s :=
  ⟨h.below.trans (hB.mono h.below.size), h.stk.below hB, h.hgs, h.box.below hB h.box.lt, h.len, h.word⟩

set_option maxRecDepth 100000 in
set_option maxHeartbeats 4000000 in
theorem run_bad (A : Option Addr) (n c : Nat) (p : List Int) (fa : Option Addr) (fn fc : Nat) (pa : Option Addr) (pn pc : Nat) (ht : Int) (fs : List Int) (ps : List Bool) (gas : Int) (w : World) (HP : Hid (Pg w A n c p)) (HT : Hid (KTab w)) (HF : Hid (FRow w fa fn fs)) (HB : Hid (BRow w pa pn ps)) (hh : Word ht) (hfn : fn ≤ 1000000) (hpn : pn ≤ 1000000) (h : 256 < n ∨ gas < 0 ∨ 4096 < gas) :
    Calls Tryd.prog 11 #[.slice A n c, .agg #[.slice fa fn fc, .slice pa pn pc, .int .u64 ht], .int .i64 gas] w fun e w' => e = .returned (retV (0, 0, 1)) ∧ Below w.heap.size w w' := by
  unfold retV
  by_cases h1 : 256 < n
  · have d1 : (256 : Int) < (n : Int) := by omega
    clear HP HT HF HB h
    go_enter Tryd.func11, Tryd.ntmps11
    go_wp2
    go_step3
    go_wp2
    rw [Exit.noGoto_ret]
    go_ret3
    exact ⟨rfl, (Below.refl _ _).alloc (Nat.le_refl _) _⟩
  · have d1 : ¬ ((256 : Int) < (n : Int)) := by omega
    by_cases h2 : gas < 0
    · clear HP HT HF HB h
      go_enter Tryd.func11, Tryd.ntmps11
      go_wp2
      go_step3
      go_wp2
      rw [Exit.noGoto_ret]
      go_ret3
      exact ⟨rfl, (Below.refl _ _).alloc (Nat.le_refl _) _⟩
    · have h3 : 4096 < gas := by omega
      clear HP HT HF HB h
      go_enter Tryd.func11, Tryd.ntmps11
      go_wp2
      go_step3
      go_wp2
      rw [Exit.noGoto_ret]
      go_ret3
      exact ⟨rfl, (Below.refl _ _).alloc (Nat.le_refl _) _⟩

/-- What holds at the label. -/
def RunJ (A : Option Addr) (n c : Nat) (p : List Int) (fa : Option Addr) (fn fc : Nat) (pa : Option Addr) (pn pc : Nat) (ht : Int) (fs : List Int) (ps : List Bool) (G : Nat) (w : World) (R : Int × Nat × Int) (a' : Act) (wd : World) : Prop :=
  ∃ (at_ cost f : Nat) (s : List Int) (u : Nat → Value), a' = { tmps := #[.slice A n c, .agg #[.slice fa fn fc, .slice pa pn pc, .int .u64 ht], .int .i64 (G : Int), u 3, .pointer (some ⟨w.heap.size, 0, none⟩), u 5, u 6, u 7, u 8, .pointer (some ⟨w.heap.size + 1, 0, none⟩), .int .i64 (at_ : Int), .int .i64 (cost : Int), u 12, u 13, u 14, u 15, u 16, u 17, u 18, u 19, u 20, u 21, u 22, u 23, u 24, u 25, u 26, u 27, u 28, u 29, u 30, u 31, u 32, u 33, u 34, u 35, u 36, u 37, u 38, u 39, u 40, u 41, u 42, u 43, u 44, u 45, u 46, u 47, u 48, u 49, u 50, u 51, u 52, u 53, u 54, u 55, u 56, u 57, u 58, u 59, u 60, u 61, u 62, u 63, u 64, u 65, u 66, u 67, u 68, u 69, u 70, u 71, u 72, u 73, u 74, u 75, u 76, u 77, u 78, u 79], defers := [] } ∧ at_ ≤ 65535 ∧ cost ≤ G ∧ G + 1 ≤ cost + f ∧ Hid (runL p fs ps ht G f at_ cost s = R) ∧ Hid (RunInv w wd (w.heap.size + 1) w.heap.size A n c p fa fn fc pa pn pc ht fs ps s)
theorem wp_scope_jumps2 {P : Program} {a : Act} {w : World} {Q : Exit → Act → World → Prop} {c rest : Code} (l : Nat) (J : Act → World → Prop) (μ : Act → World → Nat) (hf : findLabel c l = some (Code.skip.seq rest))
    (pass : ∀ a w, J a w → rest.wp P (Exit.jump l (fun a' w' => J a' w' ∧ μ a' w' < μ a w) Q) a w) (first : (∀ a w, J a w → rest.wp P (Exit.jump l J Q) a w) → c.wp P (Exit.jump l J Q) a w) : (Code.scope c).wp P Q a w :=
  wp_scope_jumps l J μ hf (first fun a w hJ => wp_mono (pass a w hJ) (by intro e a w h; cases e <;> simp_all [Exit.jump])) (fun a w hJ => wp_seq (wp_skip (pass a w hJ)))
set_option maxRecDepth 1000000 in
set_option maxHeartbeats 16000000 in
theorem run_good (A : Option Addr) (n c : Nat) (p : List Int) (fa : Option Addr) (fn fc : Nat) (pa : Option Addr) (pn pc : Nat) (ht : Int) (fs : List Int) (ps : List Bool) (G : Nat) (w : World) (HP : Hid (Pg w A n c p)) (HT : Hid (KTab w)) (HF : Hid (FRow w fa fn fs)) (HB : Hid (BRow w pa pn ps)) (hh : Word ht) (hfn : fn ≤ 1000000) (hpn : pn ≤ 1000000) (hn : n ≤ 256) (hG : G ≤ 4096) (R : Int × Nat × Int) (HR0 : Hid (runL p fs ps ht G (G + 1) 0 0 [] = R)) :
    Calls Tryd.prog 11 #[.slice A n c, .agg #[.slice fa fn fc, .slice pa pn pc, .int .u64 ht], .int .i64 (G : Int)] w fun e w' => e = .returned (retV R) ∧ Below w.heap.size w w' := by
  have q1 : ¬ ((256 : Int) < (n : Int)) := by omega
  have q2 : ¬ ((G : Int) < 0) := by omega
  have q3 : ¬ ((4096 : Int) < (G : Int)) := by omega
  have hst : Stk ((w.alloc (.cells #[.slice fa fn fc, .slice pa pn pc, .int .u64 ht] 33)).alloc (.cells #[.slice none 0 0] 54)) (w.heap.size + 1) w.heap.size [] := ⟨_, Blk.mk_ (cs := [.slice none 0 0]) (by simp), World.ownsRow_nil _ _ _ _⟩
  have hbx : Blk ((w.alloc (.cells #[.slice fa fn fc, .slice pa pn pc, .int .u64 ht] 33)).alloc (.cells #[.slice none 0 0] 54)) w.heap.size 33 [.slice fa fn fc, .slice pa pn pc, .int .u64 ht] := (Blk.new w 33 [.slice fa fn fc, .slice pa pn pc, .int .u64 ht]).alloc _
  have hbl : Below w.heap.size w ((w.alloc (.cells #[.slice fa fn fc, .slice pa pn pc, .int .u64 ht] 33)).alloc (.cells #[.slice none 0 0] 54)) := ((Below.refl _ _).alloc (Nat.le_refl _) _).alloc (by simp) _
  have I0 : Hid (RunInv w ((w.alloc (.cells #[.slice fa fn fc, .slice pa pn pc, .int .u64 ht] 33)).alloc (.cells #[.slice none 0 0] 54)) (w.heap.size + 1) w.heap.size A n c p fa fn fc pa pn pc ht fs ps []) := Lib.hid ⟨hbl, hst, by omega, hbx, by simp, by simp⟩
  clear hst hbx hbl
  go_enter Tryd.func11, Tryd.ntmps11
  go_wp2
  refine wp_scope_jumps2 0 (RunJ A n c p fa fn fc pa pn pc ht fs ps G w R) (fun a' _ => G + 1 - (intOf (a'.tmps.getD 11 undef)).toNat) rfl ?_ ?_
  · intro a' wd hJ
    obtain ⟨at_, cost, f0, s, u, rfl, hat, hcost, hfuel, HR, Iwd⟩ := hJ
    obtain ⟨f, rfl⟩ : ∃ f, f0 = f + 1 := ⟨f0 - 1, by omega⟩
    have HO := Lib.hid (orderAt_any A n c at_ p wd (Lib.hid (HP.out.below Iwd.out.below)) (Lib.hid (HT.out.below Iwd.out.below HT.out.lt)) (by omega))
    have hR := HR.out
    rw [runL] at hR
    have hov7 := ordV_length p at_
    have hov1 := ordV_one p at_
    by_cases hE : ordE p at_ = 0
    · obtain ⟨hop, hbl⟩ := ord_ok hE
      obtain ⟨num, hnu, hnum, hjmp⟩ := num_nat HP.out at_
      have hplen : p.length ≤ 256 := by have := HP.out.len; omega
      rw [if_neg (by simpa using hE)] at hR
      have hv : ordV p at_ = ordCells (opAt p at_) (numAt p at_) (at_ + 1 + fol (opAt p at_)) := by unfold ordV; rw [if_pos hE]
      rw [hnu, Int.toNat_natCast] at hR
      rw [hnu] at hv
      obtain ⟨op, hopE⟩ : ∃ x, opAt p at_ = x := ⟨_, rfl⟩
      rw [hopE] at hR hv hop hbl hjmp
      obtain ⟨bh, hbh⟩ : ∃ x, at_ + 1 + fol op = x := ⟨_, rfl⟩
      rw [hbh] at hR hv hbl
      have hC1 := cst_pos op
      have hC10 := cst_le op
      have hTK := tks_le op
      have hfj : op = 11 ∨ op = 12 → num ≤ 65535 := fun h => hjmp (fol_jump op h)
      unfold ordCells at hv
      obtain ⟨F, hFe⟩ : ∃ x, fol op = x := ⟨_, rfl⟩
      obtain ⟨C, hCe⟩ : ∃ x, cst op = x := ⟨_, rfl⟩
      obtain ⟨TK, hTKe⟩ : ∃ x, tks op = x := ⟨_, rfl⟩
      obtain ⟨NM, hNMe⟩ : ∃ x, nm op = x := ⟨_, rfl⟩
      have hC0 : op = 0 → C = cst 0 ∧ TK = 1 := fun h => by rw [← hCe, ← hTKe, h]; exact ⟨rfl, rfl⟩
      rw [hCe] at hR hv hC1 hC10
      rw [hTKe] at hR hv hTK
      rw [hFe, hNMe] at hv
      clear hnu hopE hbh hFe hCe hTKe hNMe hjmp
      rw [hE, hv] at HO
      rw [hv] at hov7 hov1
      have HLA := fun (W : World) => heap_alloc_last W (.cells ordZero.toArray 58)
      unfold ordZero at HLA
      have hz58 : (Tryd.prog.info? 58).map (·.size) = some (List.toArray [Value.int .i64 (op : Int), Value.string NM, Value.int .i64 (F : Int), Value.int .i64 (C : Int), Value.int .i64 (TK : Int), Value.int .u64 (num : Int), Value.int .i64 (bh : Int)]).size := info58
      have hzz : (#[.int .i64 0, .string ⟨#[]⟩, .int .i64 0, .int .i64 0, .int .i64 0, .int .u64 0, .int .i64 0] : Array Value).size = (List.toArray [Value.int .i64 (op : Int), Value.string NM, Value.int .i64 (F : Int), Value.int .i64 (C : Int), Value.int .i64 (TK : Int), Value.int .u64 (num : Int), Value.int .i64 (bh : Int)]).size := rfl
      have op0 : (0 : Int) ≤ (op : Int) := Int.natCast_nonneg _
      have C0 : (0 : Int) ≤ (C : Int) := Int.natCast_nonneg _
      have cost0 : (0 : Int) ≤ (cost : Int) := Int.natCast_nonneg _
      have cost1 : (cost : Int) ≤ (G : Int) := by omega
      have G1 : (G : Int) ≤ 4096 := by omega
      have C9 : (C : Int) ≤ 10 := by omega
      clear hv hov7
      go_wp2_with fail
      refine HO.out.mono ?_
      rintro e w1 ⟨rfl, hB1⟩
      have I1 := Lib.hid (Iwd.out.turn hB1)
      have hLA := HLA w1
      clear HO hB1 Iwd HLA
      go_upto_region 6 with (first | (refine wpList_store_row rfl 58 (.tmp 12) (.tmp 32) rfl w1.heap.size (List.toArray [Value.int .i64 (op : Int), Value.string NM, Value.int .i64 (F : Int), Value.int .i64 (C : Int), Value.int .i64 (TK : Int), Value.int .u64 (num : Int), Value.int .i64 (bh : Int)]) rfl rfl 58 _ hLA hz58 hzz hov1 ?_; rw [World.setRow_alloc_new]))
      have hB1 : Below w1.heap.size w1 (w1.alloc (.cells (List.toArray [Value.int .i64 (op : Int), Value.string NM, Value.int .i64 (F : Int), Value.int .i64 (C : Int), Value.int .i64 (TK : Int), Value.int .u64 (num : Int), Value.int .i64 (bh : Int)]) 58)) := (Below.refl _ _).alloc (Nat.le_refl _) _
      have I2 := Lib.hid (I1.out.turn hB1)
      have O2 : Hid (Blk (w1.alloc (.cells (List.toArray [Value.int .i64 (op : Int), Value.string NM, Value.int .i64 (F : Int), Value.int .i64 (C : Int), Value.int .i64 (TK : Int), Value.int .u64 (num : Int), Value.int .i64 (bh : Int)]) 58)) w1.heap.size 58 [Value.int .i64 (op : Int), Value.string NM, Value.int .i64 (F : Int), Value.int .i64 (C : Int), Value.int .i64 (TK : Int), Value.int .u64 (num : Int), Value.int .i64 (bh : Int)]) := Lib.hid (Blk.new w1 58 [Value.int .i64 (op : Int), Value.string NM, Value.int .i64 (F : Int), Value.int .i64 (C : Int), Value.int .i64 (TK : Int), Value.int .u64 (num : Int), Value.int .i64 (bh : Int)])
      clear hB1 I1 hLA hz58 hzz hov1
      generalize hW2 : w1.alloc (.cells (List.toArray _) 58) = w2 at I2 O2 ⊢
      clear hW2
      generalize w1.heap.size = go at O2 ⊢
      have oc0 := Blk.cell O2.out 0
      have oc1 := Blk.cell O2.out 1
      have oc2 := Blk.cell O2.out 2
      have oc3 := Blk.cell O2.out 3
      have oc4 := Blk.cell O2.out 4
      have oc5 := Blk.cell O2.out 5
      have oc6 := Blk.cell O2.out 6
      have bx0 := Blk.cell I2.out.box 0
      have bx1 := Blk.cell I2.out.box 1
      have bx2 := Blk.cell I2.out.box 2
      simp only [List.getElem?_cons_zero, List.getElem?_cons_succ] at oc0 oc1 oc2 oc3 oc4 oc5 oc6 bx0 bx1 bx2
      by_cases hg : G < cost + C
      · rw [if_pos hg] at hR
        have d1 : (G : Int) - (cost : Int) < (C : Int) := by omega
        clear hg
        subst hR
        go_wp2
        simp only [Exit.jump]
        go_ret3
        exact ⟨rfl, I2.out.below⟩
      · rw [if_neg hg] at hR
        have d1 : ¬ ((G : Int) - (cost : Int) < (C : Int)) := by omega
        have hcg : cost + C ≤ G := by omega
        clear hg
        go_wp2_with fail
        refine (take_any (w.heap.size + 1) w.heap.size TK s w2 (Lib.hid I2.out.stk) I2.out.hgs hTK).mono ?_
        rintro e w3 ⟨rfl, hs3, hT3⟩
        have O3 := Lib.hid (hT3.keep _ _ _ (by decide) (by decide) O2.out)
        obtain ⟨ha3, hb3, hl3⟩ := tk_word TK I2.out.word
        have hn3 := tk_len TK I2.out.len
        have I3 : Hid (RunInv w w3 (w.heap.size + 1) w.heap.size A n c p fa fn fc pa pn pc ht fs ps (tkL s TK)) := Lib.hid ⟨I2.out.below.trans hT3.below, hs3, I2.out.hgs, hT3.keep _ _ _ (by decide) (by decide) I2.out.box, hn3, hl3⟩
        clear oc0 oc1 oc2 oc3 oc4 oc5 oc6 bx0 bx1 bx2
        clear hs3 hT3 I2 O2
        have hA1 : TK = 1 → tkA s 1 = tkA s TK := fun h => by rw [h]
        obtain ⟨a, hae⟩ : ∃ x, tkA s TK = x := ⟨_, rfl⟩
        obtain ⟨b, hbe⟩ : ∃ x, tkB s TK = x := ⟨_, rfl⟩
        obtain ⟨E1, hEe⟩ : ∃ x, tkE s TK = x := ⟨_, rfl⟩
        obtain ⟨s1, hse⟩ : ∃ x, tkL s TK = x := ⟨_, rfl⟩
        rw [hae, hbe, hEe, hse] at hR
        rw [hae] at ha3 hA1 ⊢
        rw [hbe] at hb3 ⊢
        rw [hEe]
        rw [hse] at I3 hn3 hl3
        clear hae hbe hEe hse
        have oc0 := Blk.cell O3.out 0
        have oc1 := Blk.cell O3.out 1
        have oc2 := Blk.cell O3.out 2
        have oc3 := Blk.cell O3.out 3
        have oc4 := Blk.cell O3.out 4
        have oc5 := Blk.cell O3.out 5
        have oc6 := Blk.cell O3.out 6
        have bx0 := Blk.cell I3.out.box 0
        have bx1 := Blk.cell I3.out.box 1
        have bx2 := Blk.cell I3.out.box 2
        simp only [List.getElem?_cons_zero, List.getElem?_cons_succ] at oc0 oc1 oc2 oc3 oc4 oc5 oc6 bx0 bx1 bx2
        by_cases hE1 : E1 = 0
        · subst hE1
          rw [if_neg (by simp)] at hR
          by_cases hop0 : op = 0
          · subst hop0
            obtain ⟨hc0, ht0⟩ := hC0 rfl
            rw [if_pos rfl, hA1 ht0, ← hc0] at hR
            subst hR
            have hz : ((0 : Nat) : Int) = 0 := rfl
            rw [hz] at oc0
            go_wp2
            simp only [Exit.jump]
            go_ret3
            exact ⟨by simp [retV, hc0], I3.out.below⟩
          · rw [if_neg hop0] at hR
            have hopI : ¬ ((op : Int) = 0) := by omega
            have HD := Lib.hid (do_any op hop hop0 (w.heap.size + 1) w.heap.size num bh NM F C TK fa fn fc pa pn pc ht a b fs ps s1 w3 (Lib.hid I3.out.stk) I3.out.hgs hn3 (Lib.hid (HF.out.below (B := 0) I3.out.below)) (Lib.hid (HB.out.below I3.out.below)) hfn hpn hnum ha3 hb3)
            have hlw := lays_word (op := op) (num := num) (fs := fs) (ps := ps) (ht := ht) (a := a) (b := b) hnum HF.out.word hh ha3 hb3
            obtain ⟨r, hr⟩ : ∃ r, laysR op num fs ps ht a b = r := ⟨_, rfl⟩
            rw [hr] at hR HD hlw
            clear hr hop0
            go_wp2_with fail
            refine HD.out.mono ?_
            rintro e w4 ⟨rfl, hs4, hT4⟩
            have O4 := Lib.hid (hT4.keep _ _ _ (by decide) (by decide) O3.out)
            by_cases hE2 : doE s1 r = 0
            · have I4 : Hid (RunInv w w4 (w.heap.size + 1) w.heap.size A n c p fa fn fc pa pn pc ht fs ps (doL s1 r)) := Lib.hid ⟨I3.out.below.trans hT4.below, hs4, I3.out.hgs, hT4.keep _ _ _ (by decide) (by decide) I3.out.box, do_len hn3 hE2, do_word hl3 hlw⟩
              clear oc0 oc1 oc2 oc3 oc4 oc5 oc6 bx0 bx1 bx2
              clear hs4 hT4 I3 O3 HD
              rw [if_neg (by simpa using hE2)] at hR
              rw [hE2]
              obtain ⟨s2, hs2⟩ : ∃ x, doL s1 r = x := ⟨_, rfl⟩
              rw [hs2] at hR I4
              clear hs2
              have oc0 := Blk.cell O4.out 0
              have oc1 := Blk.cell O4.out 1
              have oc2 := Blk.cell O4.out 2
              have oc3 := Blk.cell O4.out 3
              have oc4 := Blk.cell O4.out 4
              have oc5 := Blk.cell O4.out 5
              have oc6 := Blk.cell O4.out 6
              have bx0 := Blk.cell I4.out.box 0
              have bx1 := Blk.cell I4.out.box 1
              have bx2 := Blk.cell I4.out.box 2
              simp only [List.getElem?_cons_zero, List.getElem?_cons_succ] at oc0 oc1 oc2 oc3 oc4 oc5 oc6 bx0 bx1 bx2
              have hne := next_any op num bh F C TK NM a w4 hop hfj
              have hnv : nextV op num bh a ≤ 65535 := by unfold nextV; split
                                                         · rename_i h; exact hfj (h.imp id And.left)
                                                         · omega
              obtain ⟨nx, hnx⟩ : ∃ x, nextV op num bh a = x := ⟨_, rfl⟩
              rw [hnx] at hR hne hnv
              have HNE := Lib.hid hne
              clear hnx hne
              go_wp2_with fail
              refine HNE.out.mono ?_
              rintro e w5 ⟨rfl, hB5⟩
              have I5 := Lib.hid (I4.out.turn hB5)
              clear oc0 oc1 oc2 oc3 oc4 oc5 oc6 bx0 bx1 bx2
              clear hB5 I4 O4 HNE
              go_wp2
              go_step3
              rw [show (cost : Int) + (C : Int) = ((cost + C : Nat) : Int) by omega]
              exact ⟨rfl, ⟨nx, cost + C, f, s2, fun i => (#[undef, undef, undef, _, undef, _, _, _, _, undef, undef, undef, _, _, _, _, _, _, _, _, _, _, _, _, _, _, _, _, _, _, _, _, _, _, _, _, _, _, _, _, _, _, _, _, _, _, _, _, _, _, _, _, _, _, _, _, _, _, _, _, _, _, _, _, _, _, _, _, _, _, _, _, _, _, _, _, _, _, _, _] : Array Value).getD i undef, rfl, by omega, by omega, by omega, Lib.hid hR, I5⟩, by simp [intOf]; omega⟩
            · rw [if_pos (by simpa using hE2)] at hR
              have hB4 := I3.out.below.trans hT4.below
              clear oc0 oc1 oc2 oc3 oc4 oc5 oc6 bx0 bx1 bx2
              clear hs4 hT4 I3 O3 HD O4
              obtain ⟨E2, hE2e⟩ : ∃ x, doE s1 r = x := ⟨_, rfl⟩
              rw [hE2e] at hR hE2 ⊢
              clear hE2e
              subst hR
              go_wp2
              simp only [Exit.jump]
              go_ret3
              exact ⟨by simp [retV], hB4⟩
        · rw [if_pos (by simpa using hE1)] at hR
          subst hR
          go_wp2
          simp only [Exit.jump]
          go_ret3
          exact ⟨by simp [retV], I3.out.below⟩
    · rw [if_pos (by simpa using hE)] at hR
      rw [ordZero_bad p at_ _ rfl hE] at HO
      obtain ⟨EE, hEE⟩ : ∃ x, ordE p at_ = x := ⟨_, rfl⟩
      rw [hEE] at HO hR hE
      subst hR
      clear hEE hov7 hov1
      have HLA := fun (W : World) => heap_alloc_last W (.cells ordZero.toArray 58)
      unfold ordZero at HLA HO
      have cost0 : (0 : Int) ≤ (cost : Int) := Int.natCast_nonneg _
      go_wp2_with fail
      refine HO.out.mono ?_
      rintro e w1 ⟨rfl, hB1⟩
      have B1 := Lib.hid (Iwd.out.turn hB1).below
      have B2 := Lib.hid (B1.out.alloc (Iwd.out.turn hB1).below.size (.cells ordZero.toArray 58))
      unfold ordZero at B2
      clear HO hB1 Iwd HLA
      go_wp2
      simp only [Exit.jump]
      go_ret3
      exact ⟨by simp [retV], B2.out⟩
  · intro FIRST
    go_wp2
    go_step3
    rename_i K hK
    exact hK _ _ (FIRST _ _ ⟨0, 0, G + 1, [], fun i => (#[undef, undef, undef, _, undef, _, _, _, _, undef, undef, undef, _, _, _, _, _, _, _, _, _, _, _, _, _, _, _, _, _, _, _, _, _, _, _, _, _, _, _, _, _, _, _, _, _, _, _, _, _, _, _, _, _, _, _, _, _, _, _, _, _, _, _, _, _, _, _, _, _, _, _, _, _, _, _, _, _, _, _, _] : Array Value).getD i undef, rfl, by omega, by omega, by omega, HR0, I0⟩)
end Go.Proofs.YtkilajobnlagbaaDoor
