/-
  The document's Run 13: whatever it is given.
-/
import Derived.Test.YtkilajobnlagbaaDoorCodZ
import Derived.Test.YtkilajobnlagbaaDoorCodH
namespace Go.Proofs.YtkilajobnlagbaaDoor
open Go.RowKit
set_option linter.unusedVariables false

set_option maxRecDepth 100000 in
theorem rrun_bad (A : Option Addr) (n c : Nat) (fa : Option Addr) (fn fc : Nat) (pa : Option Addr) (pn pc : Nat) (ht gas : Int) (w : World) (hb : 256 < n ∨ gas < 0 ∨ 4096 < gas) :
    Calls Tryd.prog 13 #[.slice A n c, wldV fa fn fc pa pn pc ht, .int .i64 gas] w fun e w' => e = .returned (.tuple #[.int .u64 0, .int .i64 0, .int .i64 1]) ∧ Below w.heap.size w w' := by
  have HB := Lib.hid (fun o => (Below.refl w.heap.size w).alloc (Nat.le_refl _) o)
  unfold wldV
  by_cases h1 : 256 < n
  · have d1 : (256 : Int) < (n : Int) := by omega
    clear hb h1
    go_enter Tryd.func13, Tryd.ntmps13
    go_wp2
    go_ret3
    exact ⟨rfl, HB.out _⟩
  · have d1 : ¬ ((256 : Int) < (n : Int)) := by omega
    by_cases h2 : gas < 0
    · clear hb h1
      go_enter Tryd.func13, Tryd.ntmps13
      go_wp2
      go_ret3
      exact ⟨rfl, HB.out _⟩
    · have h3 : 4096 < gas := by omega
      clear hb h1
      go_enter Tryd.func13, Tryd.ntmps13
      go_wp2
      go_ret3
      exact ⟨rfl, HB.out _⟩

set_option maxRecDepth 1000000 in
set_option maxHeartbeats 16000000 in
theorem rrun_good (A : Option Addr) (n c : Nat) (p : List Int) (fa : Option Addr) (fn fc : Nat) (pa : Option Addr) (pn pc : Nat) (ht : Int) (fs : List Int) (ps : List Bool) (G : Nat) (W : World) (HP : Hid (Pg W A n c p)) (HF : Hid (FRow W fa fn fs)) (HB : Hid (BRow W pa pn ps)) (hh : Word ht) (hfn : fn ≤ 300) (hpn : pn ≤ 300) (hn : n ≤ 256) (hG : G ≤ 4096) (R : Int × Nat × Int) (HR0 : Hid (runL p fs ps ht G (G + 1) 0 0 [] = R)) :
    Calls Tryd.prog 13 #[.slice A n c, wldV fa fn fc pa pn pc ht, .int .i64 (G : Int)] W fun e w' => e = .returned (retV R) ∧ Below W.heap.size W w' := by
  have q1 : ¬ ((256 : Int) < (n : Int)) := by omega
  have q2 : ¬ ((G : Int) < 0) := by omega
  have q3 : ¬ ((4096 : Int) < (G : Int)) := by omega
  have G0 : (0 : Int) ≤ (G : Int) := Int.natCast_nonneg _
  have G1 : (G : Int) ≤ 4096 := by omega
  have HFN := Lib.hid hfn
  have HPN := Lib.hid hpn
  have HPL := Lib.hid HP.out.len
  have HN := Lib.hid hn
  have HH := Lib.hid hh
  have I0 : Hid (DInv W (W.alloc (.cells #[.slice fa fn fc, .slice pa pn pc, .int .u64 ht] 27)) A n c fa fn fc pa pn pc ht (.slice none 0 0) []) := Lib.hid ⟨(Below.refl _ _).alloc (Nat.le_refl _) _, Blk.new W 27 [.slice fa fn fc, .slice pa pn pc, .int .u64 ht], World.ownsRow_nil _ _ _ _, by simp, by simp⟩
  clear hfn hpn hn hG hh
  unfold wldV
  go_enter Tryd.func13, Tryd.ntmps13
  go_upto_region 3 with fail
  generalize W.alloc (.cells #[.slice fa fn fc, .slice pa pn pc, .int .u64 ht] 27) = w0 at I0 ⊢
  go_wp2_with fail
  go_loopw [9, 10, 11] (fun v t u wr => ∃ (at_ cost f : Nat) (s : List Int), t = .int .i64 at_ ∧ u = .int .i64 cost ∧ at_ ≤ 65535 ∧ cost ≤ G ∧ G < cost + f ∧ Hid (runL p fs ps ht G f at_ cost s = R) ∧ Hid (DInv W wr A n c fa fn fc pa pn pc ht v s)) (fun _ _ u _ => G + 1 - (intOf u).toNat)
  case atStart => exact ⟨0, 0, G + 1, [], rfl, rfl, Nat.zero_le _, Nat.zero_le _, by omega, HR0, I0⟩
  case round =>
    obtain ⟨at_, cost, f0, s, rfl, rfl, hat, hcost, hfuel, HR, I⟩ := hrel
    obtain ⟨f, rfl⟩ : ∃ f, f0 = f + 1 := ⟨f0 - 1, by omega⟩
    have hR := HR.out
    rw [runL] at hR
    clear HR
    have hplen : p.length ≤ 256 := by have := HPL.out; have := HN.out; omega
    have HO := Lib.hid (rorder_any A n c at_ p wr (Lib.hid (HP.out.below I.out.turn)) (by omega))
    have at0 : (0 : Int) ≤ (at_ : Int) := Int.natCast_nonneg _
    have at1 : (at_ : Int) ≤ 65535 := by omega
    have co0 : (0 : Int) ≤ (cost : Int) := Int.natCast_nonneg _
    have co1 : (cost : Int) ≤ 4096 := by omega
    have hwI : W.heap.size ≤ wr.heap.size := I.out.turn.size
    by_cases hE : ordE p at_ = 0
    · obtain ⟨hop, hbl⟩ := ord_ok hE
      obtain ⟨num, hnu, hnum, hjmp⟩ := num_nat HP.out at_
      rw [if_neg (by simpa using hE)] at hR
      rw [hnu, Int.toNat_natCast] at hR
      have hv : ordR p at_ = .tuple #[.int .i64 (opAt p at_ : Int), .int .u64 (num : Int), .int .i64 0] := by unfold ordR; rw [if_pos hE, hnu]
      rw [hv] at HO
      obtain ⟨op, hopE⟩ : ∃ x, opAt p at_ = x := ⟨_, rfl⟩
      rw [hopE] at hR hop hbl hjmp HO
      have HMO := Lib.hid (fun w => more_any op hop w)
      have HCO := Lib.hid (fun w => cost_any op hop w)
      have HTA := Lib.hid (fun w => takes_any op hop w)
      have hC1 := cst_pos op
      have hC10 := cst_le op
      have hTK := tks_le op
      have hF8 := fol_le op
      have hfj : op = 11 ∨ op = 12 → num ≤ 65535 := fun h => hjmp (fol_jump op h)
      have hLS := lay_same op num fs ps ht s hop
      have HLY := Lib.hid (fun a b w hF hP ha hb => lays_any op hop num fa fn fc pa pn pc ht a b fs ps w hF hP HFN.out HPN.out hnum ha hb)
      have hLW := fun a b ha hb => lays_word (op := op) (num := num) (fs := fs) (ps := ps) (ht := ht) (a := a) (b := b) hnum HF.out.word HH.out ha hb
      have hC0 : op = 0 → cst op = cst 0 ∧ tks op = 1 := fun h => by rw [h]; exact ⟨rfl, rfl⟩
      clear hv hnu hopE hjmp hE
      have HFJ := Lib.hid hfj
      have HHOP := Lib.hid hop
      have HC0 := Lib.hid hC0
      have HLW := Lib.hid hLW
      unfold wldV at HLY
      clear hfj hLW hC0
      obtain ⟨C, hCe⟩ : ∃ x, cst op = x := ⟨_, rfl⟩
      obtain ⟨TK, hTKe⟩ : ∃ x, tks op = x := ⟨_, rfl⟩
      obtain ⟨F, hFe⟩ : ∃ x, fol op = x := ⟨_, rfl⟩
      rw [hCe] at hR HCO hC1 hC10 HC0
      rw [hTKe] at hR HTA hTK hLS HC0
      rw [hFe] at hR HMO hbl hF8
      have HTK := Lib.hid hTKe
      clear hCe hFe hTKe
      have C0 : (0 : Int) ≤ (C : Int) := Int.natCast_nonneg _
      have C9 : (C : Int) ≤ 10 := by omega
      have F0 : (0 : Int) ≤ (F : Int) := Int.natCast_nonneg _
      have F9 : (F : Int) ≤ 8 := by omega
      have op0 : (0 : Int) ≤ (op : Int) := Int.natCast_nonneg _
      have op9 : (op : Int) < 18 := by have := HHOP.out; omega
      have nu0 : (0 : Int) ≤ (num : Int) := Int.natCast_nonneg _
      have hsl := I.out.len
      obtain ⟨v, cv, rfl, hvc, hvm, hvn⟩ := urow_slice I.out.own
      obtain ⟨L, hL⟩ : ∃ x, s.length = x := ⟨_, rfl⟩
      rw [hL] at hsl hvc hvn hLS
      have L0 : (0 : Int) ≤ (L : Int) := Int.natCast_nonneg _
      have L9 : (L : Int) ≤ 32 := by omega
      rw [show (Value.slice v s.length cv) = Value.slice v L cv by rw [hL]] at I ⊢
      have HL := Lib.hid hL
      have HNUM := Lib.hid hnum
      clear hL hop hnum
      go_wp2_with fail
      refine HO.out.mono ?_
      rintro e w1 ⟨rfl, rfl⟩
      clear HO
      by_cases hg : G < cost + C
      · rw [if_pos hg] at hR
        have d1 : (G : Int) < (cost : Int) + (C : Int) := by omega
        clear hg
        subst hR
        go_wp2_with fail
        refine (HCO.out _).mono ?_
        rintro e w2 ⟨rfl, rfl⟩
        go_wp2
        go_ret3
        exact ⟨rfl, I.out.turn⟩
      · rw [if_neg hg] at hR
        have d1 : ¬ ((G : Int) < (cost : Int) + (C : Int)) := by omega
        have hcg : cost + C ≤ G := by omega
        clear hg
        go_wp2_with fail
        refine (HCO.out _).mono ?_
        rintro e w2 ⟨rfl, rfl⟩
        go_wp2_with fail
        refine (HCO.out _).mono ?_
        rintro e w2 ⟨rfl, rfl⟩
        go_wp2_with fail
        refine (HTA.out _).mono ?_
        rintro e w2 ⟨rfl, rfl⟩
        have hcc : (cost : Int) + (C : Int) = ((cost + C : Nat) : Int) := by omega
        obtain ⟨cost2, hcost2⟩ : ∃ x, cost + C = x := ⟨_, rfl⟩
        rw [hcost2] at hcc hR hcg
        rw [hcc]
        have HC2 : Hid (cost < cost2) := Lib.hid (by omega)
        have HCC := Lib.hid hcost2
        have c20 : (0 : Int) ≤ (cost2 : Int) := Int.natCast_nonneg _
        have c21 : (cost2 : Int) ≤ 4096 := by omega
        clear hcc hcost2 d1 co0 co1 C0 C9 hcost
        by_cases hLT : L < TK
        · have hE2 : tkE s TK = 12 := by unfold tkE; rw [if_pos (by rw [HL.out]; exact hLT)]
          rw [hE2, if_pos (by decide)] at hR
          have d2 : (L : Int) < (TK : Int) := by omega
          subst hR
          clear hLT hE2
          go_wp2
          go_ret3
          exact ⟨rfl, I.out.turn⟩
        · have hE2 : tkE s TK = 0 := by unfold tkE; rw [if_neg (by rw [HL.out]; exact hLT)]
          rw [hE2, if_neg (by decide)] at hR
          have d2 : ¬ ((L : Int) < (TK : Int)) := by omega
          have hls := hLS (by omega)
          rw [hls] at hR
          have htk : tkL s TK = s.take (L - TK) := by unfold tkL; rw [HL.out, if_neg (by omega)]
          rw [htk] at hR
          have htka : TK = 1 → tkA s 1 = topB s TK := fun h => by
            unfold tkA topB
            rw [HL.out, if_neg (by omega), if_neg (by decide), h, if_neg (by decide)]
          have HTKA := Lib.hid htka
          clear htka
          have hna : op = 12 → tkA s TK = topB s TK := fun h => by
            have h1 : TK = 1 := by rw [← HTK.out, h]; rfl
            unfold tkA topB
            rw [HL.out, if_neg (by omega), h1, if_neg (by decide)]
          have HNA := Lib.hid hna
          clear hna
          clear hE2 hls hLS htk
          obtain hT | hT | hT : TK = 0 ∨ TK = 1 ∨ TK = 2 := by omega
          · subst hT
            have HT0 := HTA.out
            have hbw : Word 0 := ⟨by decide, by decide⟩
            have haw : Word 0 := ⟨by decide, by decide⟩
            have HBV : Hid (topB s 0 = 0) := Lib.hid rfl
            have HAV : Hid (topA s 0 = 0) := Lib.hid rfl
            have HBW := Lib.hid hbw
            have HAW := Lib.hid haw
            clear hbw haw
            rw [HAV.out, HBV.out] at hR
            rw [HBV.out] at HTKA HNA
            have hm : L - 0 = L := Nat.sub_zero L
            rw [hm] at hR
            obtain ⟨A1, c1, w3, hr3, ho3, hT3⟩ := lit_app hwI v L cv L s (by have := I.out.own; rw [HL.out] at this; exact this) HL.out (by omega) hsl
            have m0 : (0 : Int) ≤ (L : Int) := Int.natCast_nonneg _
            have m9 : (L : Int) ≤ 32 := by omega
            have hcut := slLo v L cv L (by omega)
            obtain ⟨s1, hs1⟩ : ∃ x, s.take L = x := ⟨_, rfl⟩
            have hs1l : s1.length = L := by rw [← hs1, List.length_take, HL.out]; omega
            rw [hs1] at hR ho3
            have hs1w : ∀ x ∈ s1, Word x := fun x hx => I.out.word x (by rw [← hs1] at hx; exact List.mem_of_mem_take hx)
            have I3 : Hid (DInv W w3 A n c fa fn fc pa pn pc ht (.slice A1 L c1) s1) := Lib.hid (I.out.go hT3 (by rw [hs1l]; exact ho3) (by omega) hs1w)
            have HS1 := Lib.hid hs1l
            have HM : Hid (L ≤ 32) := Lib.hid (by omega)
            have HR3 := Lib.hid hr3
            clear hs1 hs1w ho3 hT3 hr3 hs1l
            have hTx := fun w => HT0 w
            go_wp2_with fail
            refine (HT0 _).mono ?_
            rintro e w4 ⟨rfl, rfl⟩
            go_wp2_with fail
            refine (HT0 _).mono ?_
            rintro e w4 ⟨rfl, rfl⟩
            go_wp2_with fail
            refine (HT0 _).mono ?_
            rintro e w4 ⟨rfl, rfl⟩
            have hr3 := HR3.out
            go_upto_region 19 with (at_builtin; refine wpList_append_v rfl (.tmp 76) (.tmp 83) 23 23 rfl _ w3 (hr3 _) ?_)
            clear hr3 HR3 hcut I
            have bx0 := Blk.cell I3.out.box 0
            have bx1 := Blk.cell I3.out.box 1
            have bx2 := Blk.cell I3.out.box 2
            simp only [List.getElem?_cons_zero, List.getElem?_cons_succ] at bx0 bx1 bx2
            by_cases hop0 : op = 0
            · exact absurd (HC0.out hop0).2 (by decide)
            · rw [if_neg hop0] at hR
              have hopI : ¬ ((op : Int) = 0) := by omega
              have hly := fun w hF hP => HLY.out 0 0 w hF hP HAW.out HBW.out
              obtain ⟨r, hr⟩ : ∃ r, layD op num fs ps ht 0 0 = r := ⟨_, rfl⟩
              have hrl : r.2.length ≤ 2 := by rw [← hr]; exact layD_nil
              have hrw : ∀ x ∈ r.2, Word x := by
                rw [← hr]
                unfold layD
                exact HLW.out _ _ (by split; exact HBW.out; exact HAW.out) HBW.out
              rw [hr] at hly hR
              have HLYS := Lib.hid hly
              have HRW := Lib.hid hrw
              clear hr hop0 hly hrw
              go_wp2_with fail
              clear bx0 bx1 bx2
              refine (HLYS.out w3 (Lib.hid (HF.out.below (B := 0) I3.out.turn)) (Lib.hid (HB.out.below I3.out.turn))).mono ?_
              rintro e w4 ⟨hB4, hpost⟩
              have hT4 : Turn W.heap.size w3 w4 := Turn.new I3.out.turn.size hB4
              obtain ⟨E, l⟩ := r
              simp only [] at hpost hR hrl
              have HRWL : Hid (∀ x ∈ l, Word x) := Lib.hid HRW.out
              clear HRW HLYS
              rcases hpost with ⟨hne, rfl⟩ | ⟨h0, ⟨hnil, rfl⟩ | ⟨g4, hg4, rfl, hblk⟩⟩
              · have he : (E != 0) = true := by simpa using hne
                have hd : doE s1 (E, l) = E := by unfold doE; rw [if_neg hne]
                rw [hd, if_pos hne] at hR
                subst hR
                have B4 := Lib.hid (I3.out.turn.trans hT4.below)
                clear hd hne hT4 hB4 I3
                go_wp2
                go_ret3
                exact ⟨rfl, B4.out⟩
              · subst h0
                subst hnil
                have I4 : Hid (DInv W w4 A n c fa fn fc pa pn pc ht (.slice A1 L c1) s1) := Lib.hid (I3.out.go hT4 (by have := I3.out.own.kept (Oct.Below.grownBy hB4 none) (by cases A1 <;> simp [Value.ownBlock]); exact this) I3.out.len I3.out.word)
                have hdE : doE s1 (0, []) = if 32 < L + 0 then 4 else 0 := by unfold doE layE; rw [if_pos rfl, HS1.out]; rfl
                have hdL : ¬ 32 < L + 0 → doL s1 (0, []) = s1 ++ [] := fun h => by unfold doL layL; rw [if_pos rfl, HS1.out, if_neg (by simpa using h)]
                rw [hdE] at hR
                clear hdE hT4 hB4 I3
                by_cases hfull : 32 < L + 0
                · rw [if_pos hfull, if_pos (by decide)] at hR
                  have df : (32 : Int) < (L : Int) := by omega
                  subst hR
                  clear hfull hdL
                  go_wp2
                  go_ret3
                  exact ⟨rfl, I4.out.turn⟩
                · rw [if_neg hfull, if_neg (by decide), hdL hfull] at hR
                  have df : ¬ ((32 : Int) < (L : Int)) := by omega
                  obtain ⟨A5, c5, w5, hr5, ho5, hT5⟩ := own_app I4.out.turn.size A1 none L c1 0 s1 [] (by have := I4.out.own; rw [HS1.out] at this; exact this) rfl (.inl ⟨rfl, rfl⟩) (by omega)
                  have hsl5 : (s1 ++ []).length = L + 0 := by rw [List.length_append, HS1.out]; rfl
                  have I5 : Hid (DInv W w5 A n c fa fn fc pa pn pc ht (.slice A5 (L + 0) c5) (s1 ++ [])) := Lib.hid (I4.out.go hT5 (by rw [hsl5]; exact ho5) (by omega) (fun x hx => (List.mem_append.1 hx).elim (I4.out.word x) (HRWL.out x)))
                  have HR5 := Lib.hid hr5
                  clear hfull hdL ho5 hT5 hr5 I4
                  have hnx := HNA.out
                  have hnv : ∀ x, nextV op num (at_ + 1 + F) x = if op = 11 ∨ op = 12 ∧ x ≠ 0 then num else at_ + 1 + F := fun x => rfl
                  rw [hnv] at hR
                  clear hnv
                  have hr5 := HR5.out
                  by_cases h11 : op = 11
                  · rw [if_pos (.inl h11)] at hR
                    have e11 : (op : Int) = 11 := by omega
                    have num9 : (num : Int) ≤ 65535 := by have := HFJ.out (.inl h11); omega
                    have HNM : Hid (num ≤ 65535) := Lib.hid (HFJ.out (.inl h11))
                    have HE11 := Lib.hid e11
                    clear h11 e11
                    have HRF := Lib.hid hR
                    clear hR hnx
                    go_wp2_with (at_builtin; refine wpList_append_v rfl (.tmp 109) (.tmp 110) 23 23 rfl _ w5 (hr5 _) ?_)
                    clear hr5 HR5
                    refine (HMO.out _).mono ?_
                    rintro e w6 ⟨rfl, rfl⟩
                    have e11 := HE11.out
                    go_wp2_with fail
                    exact ⟨⟨num, cost2, f, s1 ++ [], rfl, rfl, HNM.out, hcg, by have := HC2.out; omega, HRF, I5⟩, by show G + 1 - cost2 < G + 1 - cost; have := HC2.out; omega⟩
                  · have e11 : ¬ ((op : Int) = 11) := by omega
                    by_cases h12 : op = 12
                    · exfalso
                      have := HTK.out
                      rw [h12] at this
                      exact absurd this (by decide)
                    · rw [if_neg (by omega)] at hR
                      have e12 : ¬ ((op : Int) = 12) := by omega
                      clear h12 h11
                      have HRF := Lib.hid hR
                      clear hR hnx
                      go_wp2_with (at_builtin; refine wpList_append_v rfl (.tmp 109) (.tmp 110) 23 23 rfl _ w5 (hr5 _) ?_)
                      clear hr5 HR5
                      refine (HMO.out _).mono ?_
                      rintro e w6 ⟨rfl, rfl⟩
                      go_wp2_with fail
                      exact ⟨⟨at_ + 1 + F, cost2, f, s1 ++ [], congrArg (Value.int .i64) (by omega), rfl, by omega, hcg, by have := HC2.out; omega, HRF, I5⟩, by show G + 1 - cost2 < G + 1 - cost; have := HC2.out; omega⟩
              · subst h0
                obtain ⟨k, hk⟩ : ∃ k, l.length = k := ⟨_, rfl⟩
                rw [hk] at hrl
                rw [show (Value.slice (some ⟨g4, 0, none⟩) l.length l.length) = Value.slice (some ⟨g4, 0, none⟩) k k by rw [hk]]
                have k0 : (0 : Int) ≤ (k : Int) := Int.natCast_nonneg _
                have k9 : (k : Int) ≤ 2 := by omega
                have I4 : Hid (DInv W w4 A n c fa fn fc pa pn pc ht (.slice A1 L c1) s1) := Lib.hid (I3.out.go hT4 (by have := I3.out.own.kept (Oct.Below.grownBy hB4 none) (by cases A1 <;> simp [Value.ownBlock]); exact this) I3.out.len I3.out.word)
                have hdE : doE s1 (0, l) = if 32 < L + k then 4 else 0 := by unfold doE layE; rw [if_pos rfl, HS1.out, hk]
                have hdL : ¬ 32 < L + k → doL s1 (0, l) = s1 ++ l := fun h => by unfold doL layL; rw [if_pos rfl, HS1.out, hk, if_neg h]
                rw [hdE] at hR
                clear hdE hT4 hB4 I3
                by_cases hfull : 32 < L + k
                · rw [if_pos hfull, if_pos (by decide)] at hR
                  have df : (32 : Int) < (L : Int) + (k : Int) := by omega
                  subst hR
                  clear hfull hdL
                  go_wp2
                  go_ret3
                  exact ⟨rfl, I4.out.turn⟩
                · rw [if_neg hfull, if_neg (by decide), hdL hfull] at hR
                  have df : ¬ ((32 : Int) < (L : Int) + (k : Int)) := by omega
                  obtain ⟨A5, c5, w5, hr5, ho5, hT5⟩ := own_app I4.out.turn.size A1 (some ⟨g4, 0, none⟩) L c1 k s1 l (by have := I4.out.own; rw [HS1.out] at this; exact this) hk (.inr ⟨g4, rfl, hblk⟩) (by omega)
                  have hsl5 : (s1 ++ l).length = L + k := by rw [List.length_append, HS1.out, hk]
                  have I5 : Hid (DInv W w5 A n c fa fn fc pa pn pc ht (.slice A5 (L + k) c5) (s1 ++ l)) := Lib.hid (I4.out.go hT5 (by rw [hsl5]; exact ho5) (by omega) (fun x hx => (List.mem_append.1 hx).elim (I4.out.word x) (HRWL.out x)))
                  have HR5 := Lib.hid hr5
                  clear hfull hdL ho5 hT5 hr5 I4 hblk hg4 hk
                  have hnx := HNA.out
                  have hnv : ∀ x, nextV op num (at_ + 1 + F) x = if op = 11 ∨ op = 12 ∧ x ≠ 0 then num else at_ + 1 + F := fun x => rfl
                  rw [hnv] at hR
                  clear hnv
                  have hr5 := HR5.out
                  by_cases h11 : op = 11
                  · rw [if_pos (.inl h11)] at hR
                    have e11 : (op : Int) = 11 := by omega
                    have num9 : (num : Int) ≤ 65535 := by have := HFJ.out (.inl h11); omega
                    have HNM : Hid (num ≤ 65535) := Lib.hid (HFJ.out (.inl h11))
                    have HE11 := Lib.hid e11
                    clear h11 e11
                    have HRF := Lib.hid hR
                    clear hR hnx
                    go_wp2_with (at_builtin; refine wpList_append_v rfl (.tmp 109) (.tmp 110) 23 23 rfl _ w5 (hr5 _) ?_)
                    clear hr5 HR5
                    refine (HMO.out _).mono ?_
                    rintro e w6 ⟨rfl, rfl⟩
                    have e11 := HE11.out
                    go_wp2_with fail
                    exact ⟨⟨num, cost2, f, s1 ++ l, rfl, rfl, HNM.out, hcg, by have := HC2.out; omega, HRF, I5⟩, by show G + 1 - cost2 < G + 1 - cost; have := HC2.out; omega⟩
                  · have e11 : ¬ ((op : Int) = 11) := by omega
                    by_cases h12 : op = 12
                    · exfalso
                      have := HTK.out
                      rw [h12] at this
                      exact absurd this (by decide)
                    · rw [if_neg (by omega)] at hR
                      have e12 : ¬ ((op : Int) = 12) := by omega
                      clear h12 h11
                      have HRF := Lib.hid hR
                      clear hR hnx
                      go_wp2_with (at_builtin; refine wpList_append_v rfl (.tmp 109) (.tmp 110) 23 23 rfl _ w5 (hr5 _) ?_)
                      clear hr5 HR5
                      refine (HMO.out _).mono ?_
                      rintro e w6 ⟨rfl, rfl⟩
                      go_wp2_with fail
                      exact ⟨⟨at_ + 1 + F, cost2, f, s1 ++ l, congrArg (Value.int .i64) (by omega), rfl, by omega, hcg, by have := HC2.out; omega, HRF, I5⟩, by show G + 1 - cost2 < G + 1 - cost; have := HC2.out; omega⟩
          · subst hT
            have HT0 := HTA.out
            obtain ⟨g, rfl, hgB, hgl, hcells⟩ := urow_cell (n := L) (by have := I.out.own; rw [HL.out] at this; exact this) HL.out (by omega)
            have cb := hcells (L - 1) (by omega)
            have hbw : Word (s.getD (L - 1) 0) := I.out.word _ (by have := HL.out; simp [List.getD, show L - 1 < s.length by omega])
            obtain ⟨b, hb⟩ : ∃ x, s.getD (L - 1) 0 = x := ⟨_, rfl⟩
            rw [hb] at cb hbw
            have HBV : Hid (topB s 1 = b) := Lib.hid (by unfold topB; rw [HL.out, if_neg (by decide)]; exact hb)
            have ib : ((L : Int) - 1).toNat = L - 1 := by omega
            have ib2 : (0 : Int) ≤ (L : Int) - 1 := by omega
            have ib3 : (L : Int) - 1 < (L : Int) := by omega
            have haw : Word 0 := ⟨by decide, by decide⟩
            have HAV : Hid (topA s 1 = 0) := Lib.hid (by unfold topA; rw [if_neg (by decide)])
            clear hb hcells hgB hgl
            have HBW := Lib.hid hbw
            have HAW := Lib.hid haw
            clear hbw haw
            rw [HAV.out, HBV.out] at hR
            rw [HBV.out] at HTKA HNA
            have HTB : Hid (tkA s 1 = b) := Lib.hid (HTKA.out rfl)
            obtain ⟨m, hm⟩ : ∃ x, L - 1 = x := ⟨_, rfl⟩
            rw [hm] at hR cb
            obtain ⟨A1, c1, w3, hr3, ho3, hT3⟩ := lit_app hwI (some ⟨g, 0, none⟩) L cv m s (by have := I.out.own; rw [HL.out] at this; exact this) HL.out (by omega) hsl
            have hmI : (L : Int) - 1 = (m : Int) := by omega
            have m0 : (0 : Int) ≤ (m : Int) := Int.natCast_nonneg _
            have m9 : (m : Int) ≤ 32 := by omega
            have hcut := slLo (some ⟨g, 0, none⟩) L cv m (by omega)
            obtain ⟨s1, hs1⟩ : ∃ x, s.take m = x := ⟨_, rfl⟩
            have hs1l : s1.length = m := by rw [← hs1, List.length_take, HL.out]; omega
            rw [hs1] at hR ho3
            have hs1w : ∀ x ∈ s1, Word x := fun x hx => I.out.word x (by rw [← hs1] at hx; exact List.mem_of_mem_take hx)
            have I3 : Hid (DInv W w3 A n c fa fn fc pa pn pc ht (.slice A1 m c1) s1) := Lib.hid (I.out.go hT3 (by rw [hs1l]; exact ho3) (by omega) hs1w)
            have HS1 := Lib.hid hs1l
            have HM : Hid (m ≤ 32) := Lib.hid (by omega)
            have HR3 := Lib.hid hr3
            clear hs1 hs1w ho3 hT3 hr3 hs1l
            have hTx := fun w => HT0 w
            go_wp2_with fail
            refine (HT0 _).mono ?_
            rintro e w4 ⟨rfl, rfl⟩
            go_wp2_with fail
            refine (HT0 _).mono ?_
            rintro e w4 ⟨rfl, rfl⟩
            go_wp2_with fail
            refine (HT0 _).mono ?_
            rintro e w4 ⟨rfl, rfl⟩
            have hr3 := HR3.out
            go_upto_region 19 with (at_builtin; refine wpList_append_v rfl (.tmp 76) (.tmp 83) 23 23 rfl _ w3 (hr3 _) ?_)
            clear hr3 HR3 hcut I
            have bx0 := Blk.cell I3.out.box 0
            have bx1 := Blk.cell I3.out.box 1
            have bx2 := Blk.cell I3.out.box 2
            simp only [List.getElem?_cons_zero, List.getElem?_cons_succ] at bx0 bx1 bx2
            by_cases hop0 : op = 0
            · have hz0 : (op : Int) = 0 := by omega
              have hcc := HCC.out
              rw [if_pos hop0, ← (HC0.out hop0).1, hcc, HTB.out] at hR
              subst hR
              clear hop0 hcc
              go_wp2
              go_ret3
              exact ⟨rfl, I3.out.turn⟩
            · rw [if_neg hop0] at hR
              have hopI : ¬ ((op : Int) = 0) := by omega
              have hly := fun w hF hP => HLY.out 0 b w hF hP HAW.out HBW.out
              obtain ⟨r, hr⟩ : ∃ r, layD op num fs ps ht 0 b = r := ⟨_, rfl⟩
              have hrl : r.2.length ≤ 2 := by rw [← hr]; exact layD_nil
              have hrw : ∀ x ∈ r.2, Word x := by
                rw [← hr]
                unfold layD
                exact HLW.out _ _ (by split; exact HBW.out; exact HAW.out) HBW.out
              rw [hr] at hly hR
              have HLYS := Lib.hid hly
              have HRW := Lib.hid hrw
              clear hr hop0 hly hrw
              go_wp2_with fail
              clear bx0 bx1 bx2
              refine (HLYS.out w3 (Lib.hid (HF.out.below (B := 0) I3.out.turn)) (Lib.hid (HB.out.below I3.out.turn))).mono ?_
              rintro e w4 ⟨hB4, hpost⟩
              have hT4 : Turn W.heap.size w3 w4 := Turn.new I3.out.turn.size hB4
              obtain ⟨E, l⟩ := r
              simp only [] at hpost hR hrl
              have HRWL : Hid (∀ x ∈ l, Word x) := Lib.hid HRW.out
              clear HRW HLYS
              rcases hpost with ⟨hne, rfl⟩ | ⟨h0, ⟨hnil, rfl⟩ | ⟨g4, hg4, rfl, hblk⟩⟩
              · have he : (E != 0) = true := by simpa using hne
                have hd : doE s1 (E, l) = E := by unfold doE; rw [if_neg hne]
                rw [hd, if_pos hne] at hR
                subst hR
                have B4 := Lib.hid (I3.out.turn.trans hT4.below)
                clear hd hne hT4 hB4 I3
                go_wp2
                go_ret3
                exact ⟨rfl, B4.out⟩
              · subst h0
                subst hnil
                have I4 : Hid (DInv W w4 A n c fa fn fc pa pn pc ht (.slice A1 m c1) s1) := Lib.hid (I3.out.go hT4 (by have := I3.out.own.kept (Oct.Below.grownBy hB4 none) (by cases A1 <;> simp [Value.ownBlock]); exact this) I3.out.len I3.out.word)
                have hdE : doE s1 (0, []) = if 32 < m + 0 then 4 else 0 := by unfold doE layE; rw [if_pos rfl, HS1.out]; rfl
                have hdL : ¬ 32 < m + 0 → doL s1 (0, []) = s1 ++ [] := fun h => by unfold doL layL; rw [if_pos rfl, HS1.out, if_neg (by simpa using h)]
                rw [hdE] at hR
                clear hdE hT4 hB4 I3
                by_cases hfull : 32 < m + 0
                · rw [if_pos hfull, if_pos (by decide)] at hR
                  have df : (32 : Int) < (m : Int) := by omega
                  subst hR
                  clear hfull hdL
                  go_wp2
                  go_ret3
                  exact ⟨rfl, I4.out.turn⟩
                · rw [if_neg hfull, if_neg (by decide), hdL hfull] at hR
                  have df : ¬ ((32 : Int) < (m : Int)) := by omega
                  obtain ⟨A5, c5, w5, hr5, ho5, hT5⟩ := own_app I4.out.turn.size A1 none m c1 0 s1 [] (by have := I4.out.own; rw [HS1.out] at this; exact this) rfl (.inl ⟨rfl, rfl⟩) (by omega)
                  have hsl5 : (s1 ++ []).length = m + 0 := by rw [List.length_append, HS1.out]; rfl
                  have I5 : Hid (DInv W w5 A n c fa fn fc pa pn pc ht (.slice A5 (m + 0) c5) (s1 ++ [])) := Lib.hid (I4.out.go hT5 (by rw [hsl5]; exact ho5) (by omega) (fun x hx => (List.mem_append.1 hx).elim (I4.out.word x) (HRWL.out x)))
                  have HR5 := Lib.hid hr5
                  clear hfull hdL ho5 hT5 hr5 I4
                  have hnx := HNA.out
                  have hnv : ∀ x, nextV op num (at_ + 1 + F) x = if op = 11 ∨ op = 12 ∧ x ≠ 0 then num else at_ + 1 + F := fun x => rfl
                  rw [hnv] at hR
                  clear hnv
                  have hr5 := HR5.out
                  by_cases h11 : op = 11
                  · rw [if_pos (.inl h11)] at hR
                    have e11 : (op : Int) = 11 := by omega
                    have num9 : (num : Int) ≤ 65535 := by have := HFJ.out (.inl h11); omega
                    have HNM : Hid (num ≤ 65535) := Lib.hid (HFJ.out (.inl h11))
                    have HE11 := Lib.hid e11
                    clear h11 e11
                    have HRF := Lib.hid hR
                    clear hR hnx
                    go_wp2_with (at_builtin; refine wpList_append_v rfl (.tmp 109) (.tmp 110) 23 23 rfl _ w5 (hr5 _) ?_)
                    clear hr5 HR5
                    refine (HMO.out _).mono ?_
                    rintro e w6 ⟨rfl, rfl⟩
                    have e11 := HE11.out
                    go_wp2_with fail
                    exact ⟨⟨num, cost2, f, s1 ++ [], rfl, rfl, HNM.out, hcg, by have := HC2.out; omega, HRF, I5⟩, by show G + 1 - cost2 < G + 1 - cost; have := HC2.out; omega⟩
                  · have e11 : ¬ ((op : Int) = 11) := by omega
                    by_cases h12 : op = 12
                    · have e12 : (op : Int) = 12 := by omega
                      have HE12 := Lib.hid e12
                      rw [hnx h12] at hR
                      clear e12
                      by_cases hb0 : b = 0
                      · rw [if_neg (by omega)] at hR
                        have eb : (b != 0) = false := by simpa using hb0
                        clear h12 h11 hb0
                        have HRF := Lib.hid hR
                        clear hR hnx
                        go_wp2_with (at_builtin; refine wpList_append_v rfl (.tmp 109) (.tmp 110) 23 23 rfl _ w5 (hr5 _) ?_)
                        clear hr5 HR5
                        refine (HMO.out _).mono ?_
                        rintro e w6 ⟨rfl, rfl⟩
                        have e12 := HE12.out
                        go_wp2_with fail
                        exact ⟨⟨at_ + 1 + F, cost2, f, s1 ++ [], congrArg (Value.int .i64) (by omega), rfl, by omega, hcg, by have := HC2.out; omega, HRF, I5⟩, by show G + 1 - cost2 < G + 1 - cost; have := HC2.out; omega⟩
                      · rw [if_pos (.inr ⟨h12, hb0⟩)] at hR
                        have eb : (b != 0) = true := by simpa using hb0
                        have num9 : (num : Int) ≤ 65535 := by have := HFJ.out (.inr h12); omega
                        have HNM : Hid (num ≤ 65535) := Lib.hid (HFJ.out (.inr h12))
                        clear h12 h11 hb0
                        have HRF := Lib.hid hR
                        clear hR hnx
                        go_wp2_with (at_builtin; refine wpList_append_v rfl (.tmp 109) (.tmp 110) 23 23 rfl _ w5 (hr5 _) ?_)
                        clear hr5 HR5
                        refine (HMO.out _).mono ?_
                        rintro e w6 ⟨rfl, rfl⟩
                        have e12 := HE12.out
                        go_wp2_with fail
                        exact ⟨⟨num, cost2, f, s1 ++ [], rfl, rfl, HNM.out, hcg, by have := HC2.out; omega, HRF, I5⟩, by show G + 1 - cost2 < G + 1 - cost; have := HC2.out; omega⟩
                    · rw [if_neg (by omega)] at hR
                      have e12 : ¬ ((op : Int) = 12) := by omega
                      clear h12 h11
                      have HRF := Lib.hid hR
                      clear hR hnx
                      go_wp2_with (at_builtin; refine wpList_append_v rfl (.tmp 109) (.tmp 110) 23 23 rfl _ w5 (hr5 _) ?_)
                      clear hr5 HR5
                      refine (HMO.out _).mono ?_
                      rintro e w6 ⟨rfl, rfl⟩
                      go_wp2_with fail
                      exact ⟨⟨at_ + 1 + F, cost2, f, s1 ++ [], congrArg (Value.int .i64) (by omega), rfl, by omega, hcg, by have := HC2.out; omega, HRF, I5⟩, by show G + 1 - cost2 < G + 1 - cost; have := HC2.out; omega⟩
              · subst h0
                obtain ⟨k, hk⟩ : ∃ k, l.length = k := ⟨_, rfl⟩
                rw [hk] at hrl
                rw [show (Value.slice (some ⟨g4, 0, none⟩) l.length l.length) = Value.slice (some ⟨g4, 0, none⟩) k k by rw [hk]]
                have k0 : (0 : Int) ≤ (k : Int) := Int.natCast_nonneg _
                have k9 : (k : Int) ≤ 2 := by omega
                have I4 : Hid (DInv W w4 A n c fa fn fc pa pn pc ht (.slice A1 m c1) s1) := Lib.hid (I3.out.go hT4 (by have := I3.out.own.kept (Oct.Below.grownBy hB4 none) (by cases A1 <;> simp [Value.ownBlock]); exact this) I3.out.len I3.out.word)
                have hdE : doE s1 (0, l) = if 32 < m + k then 4 else 0 := by unfold doE layE; rw [if_pos rfl, HS1.out, hk]
                have hdL : ¬ 32 < m + k → doL s1 (0, l) = s1 ++ l := fun h => by unfold doL layL; rw [if_pos rfl, HS1.out, hk, if_neg h]
                rw [hdE] at hR
                clear hdE hT4 hB4 I3
                by_cases hfull : 32 < m + k
                · rw [if_pos hfull, if_pos (by decide)] at hR
                  have df : (32 : Int) < (m : Int) + (k : Int) := by omega
                  subst hR
                  clear hfull hdL
                  go_wp2
                  go_ret3
                  exact ⟨rfl, I4.out.turn⟩
                · rw [if_neg hfull, if_neg (by decide), hdL hfull] at hR
                  have df : ¬ ((32 : Int) < (m : Int) + (k : Int)) := by omega
                  obtain ⟨A5, c5, w5, hr5, ho5, hT5⟩ := own_app I4.out.turn.size A1 (some ⟨g4, 0, none⟩) m c1 k s1 l (by have := I4.out.own; rw [HS1.out] at this; exact this) hk (.inr ⟨g4, rfl, hblk⟩) (by omega)
                  have hsl5 : (s1 ++ l).length = m + k := by rw [List.length_append, HS1.out, hk]
                  have I5 : Hid (DInv W w5 A n c fa fn fc pa pn pc ht (.slice A5 (m + k) c5) (s1 ++ l)) := Lib.hid (I4.out.go hT5 (by rw [hsl5]; exact ho5) (by omega) (fun x hx => (List.mem_append.1 hx).elim (I4.out.word x) (HRWL.out x)))
                  have HR5 := Lib.hid hr5
                  clear hfull hdL ho5 hT5 hr5 I4 hblk hg4 hk
                  have hnx := HNA.out
                  have hnv : ∀ x, nextV op num (at_ + 1 + F) x = if op = 11 ∨ op = 12 ∧ x ≠ 0 then num else at_ + 1 + F := fun x => rfl
                  rw [hnv] at hR
                  clear hnv
                  have hr5 := HR5.out
                  by_cases h11 : op = 11
                  · rw [if_pos (.inl h11)] at hR
                    have e11 : (op : Int) = 11 := by omega
                    have num9 : (num : Int) ≤ 65535 := by have := HFJ.out (.inl h11); omega
                    have HNM : Hid (num ≤ 65535) := Lib.hid (HFJ.out (.inl h11))
                    have HE11 := Lib.hid e11
                    clear h11 e11
                    have HRF := Lib.hid hR
                    clear hR hnx
                    go_wp2_with (at_builtin; refine wpList_append_v rfl (.tmp 109) (.tmp 110) 23 23 rfl _ w5 (hr5 _) ?_)
                    clear hr5 HR5
                    refine (HMO.out _).mono ?_
                    rintro e w6 ⟨rfl, rfl⟩
                    have e11 := HE11.out
                    go_wp2_with fail
                    exact ⟨⟨num, cost2, f, s1 ++ l, rfl, rfl, HNM.out, hcg, by have := HC2.out; omega, HRF, I5⟩, by show G + 1 - cost2 < G + 1 - cost; have := HC2.out; omega⟩
                  · have e11 : ¬ ((op : Int) = 11) := by omega
                    by_cases h12 : op = 12
                    · have e12 : (op : Int) = 12 := by omega
                      have HE12 := Lib.hid e12
                      rw [hnx h12] at hR
                      clear e12
                      by_cases hb0 : b = 0
                      · rw [if_neg (by omega)] at hR
                        have eb : (b != 0) = false := by simpa using hb0
                        clear h12 h11 hb0
                        have HRF := Lib.hid hR
                        clear hR hnx
                        go_wp2_with (at_builtin; refine wpList_append_v rfl (.tmp 109) (.tmp 110) 23 23 rfl _ w5 (hr5 _) ?_)
                        clear hr5 HR5
                        refine (HMO.out _).mono ?_
                        rintro e w6 ⟨rfl, rfl⟩
                        have e12 := HE12.out
                        go_wp2_with fail
                        exact ⟨⟨at_ + 1 + F, cost2, f, s1 ++ l, congrArg (Value.int .i64) (by omega), rfl, by omega, hcg, by have := HC2.out; omega, HRF, I5⟩, by show G + 1 - cost2 < G + 1 - cost; have := HC2.out; omega⟩
                      · rw [if_pos (.inr ⟨h12, hb0⟩)] at hR
                        have eb : (b != 0) = true := by simpa using hb0
                        have num9 : (num : Int) ≤ 65535 := by have := HFJ.out (.inr h12); omega
                        have HNM : Hid (num ≤ 65535) := Lib.hid (HFJ.out (.inr h12))
                        clear h12 h11 hb0
                        have HRF := Lib.hid hR
                        clear hR hnx
                        go_wp2_with (at_builtin; refine wpList_append_v rfl (.tmp 109) (.tmp 110) 23 23 rfl _ w5 (hr5 _) ?_)
                        clear hr5 HR5
                        refine (HMO.out _).mono ?_
                        rintro e w6 ⟨rfl, rfl⟩
                        have e12 := HE12.out
                        go_wp2_with fail
                        exact ⟨⟨num, cost2, f, s1 ++ l, rfl, rfl, HNM.out, hcg, by have := HC2.out; omega, HRF, I5⟩, by show G + 1 - cost2 < G + 1 - cost; have := HC2.out; omega⟩
                    · rw [if_neg (by omega)] at hR
                      have e12 : ¬ ((op : Int) = 12) := by omega
                      clear h12 h11
                      have HRF := Lib.hid hR
                      clear hR hnx
                      go_wp2_with (at_builtin; refine wpList_append_v rfl (.tmp 109) (.tmp 110) 23 23 rfl _ w5 (hr5 _) ?_)
                      clear hr5 HR5
                      refine (HMO.out _).mono ?_
                      rintro e w6 ⟨rfl, rfl⟩
                      go_wp2_with fail
                      exact ⟨⟨at_ + 1 + F, cost2, f, s1 ++ l, congrArg (Value.int .i64) (by omega), rfl, by omega, hcg, by have := HC2.out; omega, HRF, I5⟩, by show G + 1 - cost2 < G + 1 - cost; have := HC2.out; omega⟩
          · subst hT
            have HT0 := HTA.out
            obtain ⟨g, rfl, hgB, hgl, hcells⟩ := urow_cell (n := L) (by have := I.out.own; rw [HL.out] at this; exact this) HL.out (by omega)
            have cb := hcells (L - 1) (by omega)
            have hbw : Word (s.getD (L - 1) 0) := I.out.word _ (by have := HL.out; simp [List.getD, show L - 1 < s.length by omega])
            obtain ⟨b, hb⟩ : ∃ x, s.getD (L - 1) 0 = x := ⟨_, rfl⟩
            rw [hb] at cb hbw
            have HBV : Hid (topB s 2 = b) := Lib.hid (by unfold topB; rw [HL.out, if_neg (by decide)]; exact hb)
            have ib : ((L : Int) - 1).toNat = L - 1 := by omega
            have ib2 : (0 : Int) ≤ (L : Int) - 1 := by omega
            have ib3 : (L : Int) - 1 < (L : Int) := by omega
            have ca := hcells (L - 2) (by omega)
            have haw : Word (s.getD (L - 2) 0) := I.out.word _ (by have := HL.out; simp [List.getD, show L - 2 < s.length by omega])
            obtain ⟨a, ha⟩ : ∃ x, s.getD (L - 2) 0 = x := ⟨_, rfl⟩
            rw [ha] at ca haw
            have HAV : Hid (topA s 2 = a) := Lib.hid (by unfold topA; rw [HL.out, if_pos rfl]; exact ha)
            have ia : ((L : Int) - 2).toNat = L - 2 := by omega
            have ia2 : (0 : Int) ≤ (L : Int) - 2 := by omega
            have ia3 : (L : Int) - 2 < (L : Int) := by omega
            clear ha
            clear hb hcells hgB hgl
            have HBW := Lib.hid hbw
            have HAW := Lib.hid haw
            clear hbw haw
            rw [HAV.out, HBV.out] at hR
            rw [HBV.out] at HTKA HNA
            obtain ⟨m, hm⟩ : ∃ x, L - 2 = x := ⟨_, rfl⟩
            rw [hm] at hR ca
            obtain ⟨A1, c1, w3, hr3, ho3, hT3⟩ := lit_app hwI (some ⟨g, 0, none⟩) L cv m s (by have := I.out.own; rw [HL.out] at this; exact this) HL.out (by omega) hsl
            have hmI : (L : Int) - 2 = (m : Int) := by omega
            have m0 : (0 : Int) ≤ (m : Int) := Int.natCast_nonneg _
            have m9 : (m : Int) ≤ 32 := by omega
            have hcut := slLo (some ⟨g, 0, none⟩) L cv m (by omega)
            obtain ⟨s1, hs1⟩ : ∃ x, s.take m = x := ⟨_, rfl⟩
            have hs1l : s1.length = m := by rw [← hs1, List.length_take, HL.out]; omega
            rw [hs1] at hR ho3
            have hs1w : ∀ x ∈ s1, Word x := fun x hx => I.out.word x (by rw [← hs1] at hx; exact List.mem_of_mem_take hx)
            have I3 : Hid (DInv W w3 A n c fa fn fc pa pn pc ht (.slice A1 m c1) s1) := Lib.hid (I.out.go hT3 (by rw [hs1l]; exact ho3) (by omega) hs1w)
            have HS1 := Lib.hid hs1l
            have HM : Hid (m ≤ 32) := Lib.hid (by omega)
            have HR3 := Lib.hid hr3
            clear hs1 hs1w ho3 hT3 hr3 hs1l
            have hTx := fun w => HT0 w
            go_wp2_with fail
            refine (HT0 _).mono ?_
            rintro e w4 ⟨rfl, rfl⟩
            go_wp2_with fail
            refine (HT0 _).mono ?_
            rintro e w4 ⟨rfl, rfl⟩
            go_wp2_with fail
            refine (HT0 _).mono ?_
            rintro e w4 ⟨rfl, rfl⟩
            have hr3 := HR3.out
            go_upto_region 19 with (at_builtin; refine wpList_append_v rfl (.tmp 76) (.tmp 83) 23 23 rfl _ w3 (hr3 _) ?_)
            clear hr3 HR3 hcut I
            have bx0 := Blk.cell I3.out.box 0
            have bx1 := Blk.cell I3.out.box 1
            have bx2 := Blk.cell I3.out.box 2
            simp only [List.getElem?_cons_zero, List.getElem?_cons_succ] at bx0 bx1 bx2
            by_cases hop0 : op = 0
            · exact absurd (HC0.out hop0).2 (by decide)
            · rw [if_neg hop0] at hR
              have hopI : ¬ ((op : Int) = 0) := by omega
              have hly := fun w hF hP => HLY.out a b w hF hP HAW.out HBW.out
              obtain ⟨r, hr⟩ : ∃ r, layD op num fs ps ht a b = r := ⟨_, rfl⟩
              have hrl : r.2.length ≤ 2 := by rw [← hr]; exact layD_nil
              have hrw : ∀ x ∈ r.2, Word x := by
                rw [← hr]
                unfold layD
                exact HLW.out _ _ (by split; exact HBW.out; exact HAW.out) HBW.out
              rw [hr] at hly hR
              have HLYS := Lib.hid hly
              have HRW := Lib.hid hrw
              clear hr hop0 hly hrw
              go_wp2_with fail
              clear bx0 bx1 bx2
              refine (HLYS.out w3 (Lib.hid (HF.out.below (B := 0) I3.out.turn)) (Lib.hid (HB.out.below I3.out.turn))).mono ?_
              rintro e w4 ⟨hB4, hpost⟩
              have hT4 : Turn W.heap.size w3 w4 := Turn.new I3.out.turn.size hB4
              obtain ⟨E, l⟩ := r
              simp only [] at hpost hR hrl
              have HRWL : Hid (∀ x ∈ l, Word x) := Lib.hid HRW.out
              clear HRW HLYS
              rcases hpost with ⟨hne, rfl⟩ | ⟨h0, ⟨hnil, rfl⟩ | ⟨g4, hg4, rfl, hblk⟩⟩
              · have he : (E != 0) = true := by simpa using hne
                have hd : doE s1 (E, l) = E := by unfold doE; rw [if_neg hne]
                rw [hd, if_pos hne] at hR
                subst hR
                have B4 := Lib.hid (I3.out.turn.trans hT4.below)
                clear hd hne hT4 hB4 I3
                go_wp2
                go_ret3
                exact ⟨rfl, B4.out⟩
              · subst h0
                subst hnil
                have I4 : Hid (DInv W w4 A n c fa fn fc pa pn pc ht (.slice A1 m c1) s1) := Lib.hid (I3.out.go hT4 (by have := I3.out.own.kept (Oct.Below.grownBy hB4 none) (by cases A1 <;> simp [Value.ownBlock]); exact this) I3.out.len I3.out.word)
                have hdE : doE s1 (0, []) = if 32 < m + 0 then 4 else 0 := by unfold doE layE; rw [if_pos rfl, HS1.out]; rfl
                have hdL : ¬ 32 < m + 0 → doL s1 (0, []) = s1 ++ [] := fun h => by unfold doL layL; rw [if_pos rfl, HS1.out, if_neg (by simpa using h)]
                rw [hdE] at hR
                clear hdE hT4 hB4 I3
                by_cases hfull : 32 < m + 0
                · rw [if_pos hfull, if_pos (by decide)] at hR
                  have df : (32 : Int) < (m : Int) := by omega
                  subst hR
                  clear hfull hdL
                  go_wp2
                  go_ret3
                  exact ⟨rfl, I4.out.turn⟩
                · rw [if_neg hfull, if_neg (by decide), hdL hfull] at hR
                  have df : ¬ ((32 : Int) < (m : Int)) := by omega
                  obtain ⟨A5, c5, w5, hr5, ho5, hT5⟩ := own_app I4.out.turn.size A1 none m c1 0 s1 [] (by have := I4.out.own; rw [HS1.out] at this; exact this) rfl (.inl ⟨rfl, rfl⟩) (by omega)
                  have hsl5 : (s1 ++ []).length = m + 0 := by rw [List.length_append, HS1.out]; rfl
                  have I5 : Hid (DInv W w5 A n c fa fn fc pa pn pc ht (.slice A5 (m + 0) c5) (s1 ++ [])) := Lib.hid (I4.out.go hT5 (by rw [hsl5]; exact ho5) (by omega) (fun x hx => (List.mem_append.1 hx).elim (I4.out.word x) (HRWL.out x)))
                  have HR5 := Lib.hid hr5
                  clear hfull hdL ho5 hT5 hr5 I4
                  have hnx := HNA.out
                  have hnv : ∀ x, nextV op num (at_ + 1 + F) x = if op = 11 ∨ op = 12 ∧ x ≠ 0 then num else at_ + 1 + F := fun x => rfl
                  rw [hnv] at hR
                  clear hnv
                  have hr5 := HR5.out
                  by_cases h11 : op = 11
                  · rw [if_pos (.inl h11)] at hR
                    have e11 : (op : Int) = 11 := by omega
                    have num9 : (num : Int) ≤ 65535 := by have := HFJ.out (.inl h11); omega
                    have HNM : Hid (num ≤ 65535) := Lib.hid (HFJ.out (.inl h11))
                    have HE11 := Lib.hid e11
                    clear h11 e11
                    have HRF := Lib.hid hR
                    clear hR hnx
                    go_wp2_with (at_builtin; refine wpList_append_v rfl (.tmp 109) (.tmp 110) 23 23 rfl _ w5 (hr5 _) ?_)
                    clear hr5 HR5
                    refine (HMO.out _).mono ?_
                    rintro e w6 ⟨rfl, rfl⟩
                    have e11 := HE11.out
                    go_wp2_with fail
                    exact ⟨⟨num, cost2, f, s1 ++ [], rfl, rfl, HNM.out, hcg, by have := HC2.out; omega, HRF, I5⟩, by show G + 1 - cost2 < G + 1 - cost; have := HC2.out; omega⟩
                  · have e11 : ¬ ((op : Int) = 11) := by omega
                    by_cases h12 : op = 12
                    · exfalso
                      have := HTK.out
                      rw [h12] at this
                      exact absurd this (by decide)
                    · rw [if_neg (by omega)] at hR
                      have e12 : ¬ ((op : Int) = 12) := by omega
                      clear h12 h11
                      have HRF := Lib.hid hR
                      clear hR hnx
                      go_wp2_with (at_builtin; refine wpList_append_v rfl (.tmp 109) (.tmp 110) 23 23 rfl _ w5 (hr5 _) ?_)
                      clear hr5 HR5
                      refine (HMO.out _).mono ?_
                      rintro e w6 ⟨rfl, rfl⟩
                      go_wp2_with fail
                      exact ⟨⟨at_ + 1 + F, cost2, f, s1 ++ [], congrArg (Value.int .i64) (by omega), rfl, by omega, hcg, by have := HC2.out; omega, HRF, I5⟩, by show G + 1 - cost2 < G + 1 - cost; have := HC2.out; omega⟩
              · subst h0
                obtain ⟨k, hk⟩ : ∃ k, l.length = k := ⟨_, rfl⟩
                rw [hk] at hrl
                rw [show (Value.slice (some ⟨g4, 0, none⟩) l.length l.length) = Value.slice (some ⟨g4, 0, none⟩) k k by rw [hk]]
                have k0 : (0 : Int) ≤ (k : Int) := Int.natCast_nonneg _
                have k9 : (k : Int) ≤ 2 := by omega
                have I4 : Hid (DInv W w4 A n c fa fn fc pa pn pc ht (.slice A1 m c1) s1) := Lib.hid (I3.out.go hT4 (by have := I3.out.own.kept (Oct.Below.grownBy hB4 none) (by cases A1 <;> simp [Value.ownBlock]); exact this) I3.out.len I3.out.word)
                have hdE : doE s1 (0, l) = if 32 < m + k then 4 else 0 := by unfold doE layE; rw [if_pos rfl, HS1.out, hk]
                have hdL : ¬ 32 < m + k → doL s1 (0, l) = s1 ++ l := fun h => by unfold doL layL; rw [if_pos rfl, HS1.out, hk, if_neg h]
                rw [hdE] at hR
                clear hdE hT4 hB4 I3
                by_cases hfull : 32 < m + k
                · rw [if_pos hfull, if_pos (by decide)] at hR
                  have df : (32 : Int) < (m : Int) + (k : Int) := by omega
                  subst hR
                  clear hfull hdL
                  go_wp2
                  go_ret3
                  exact ⟨rfl, I4.out.turn⟩
                · rw [if_neg hfull, if_neg (by decide), hdL hfull] at hR
                  have df : ¬ ((32 : Int) < (m : Int) + (k : Int)) := by omega
                  obtain ⟨A5, c5, w5, hr5, ho5, hT5⟩ := own_app I4.out.turn.size A1 (some ⟨g4, 0, none⟩) m c1 k s1 l (by have := I4.out.own; rw [HS1.out] at this; exact this) hk (.inr ⟨g4, rfl, hblk⟩) (by omega)
                  have hsl5 : (s1 ++ l).length = m + k := by rw [List.length_append, HS1.out, hk]
                  have I5 : Hid (DInv W w5 A n c fa fn fc pa pn pc ht (.slice A5 (m + k) c5) (s1 ++ l)) := Lib.hid (I4.out.go hT5 (by rw [hsl5]; exact ho5) (by omega) (fun x hx => (List.mem_append.1 hx).elim (I4.out.word x) (HRWL.out x)))
                  have HR5 := Lib.hid hr5
                  clear hfull hdL ho5 hT5 hr5 I4 hblk hg4 hk
                  have hnx := HNA.out
                  have hnv : ∀ x, nextV op num (at_ + 1 + F) x = if op = 11 ∨ op = 12 ∧ x ≠ 0 then num else at_ + 1 + F := fun x => rfl
                  rw [hnv] at hR
                  clear hnv
                  have hr5 := HR5.out
                  by_cases h11 : op = 11
                  · rw [if_pos (.inl h11)] at hR
                    have e11 : (op : Int) = 11 := by omega
                    have num9 : (num : Int) ≤ 65535 := by have := HFJ.out (.inl h11); omega
                    have HNM : Hid (num ≤ 65535) := Lib.hid (HFJ.out (.inl h11))
                    have HE11 := Lib.hid e11
                    clear h11 e11
                    have HRF := Lib.hid hR
                    clear hR hnx
                    go_wp2_with (at_builtin; refine wpList_append_v rfl (.tmp 109) (.tmp 110) 23 23 rfl _ w5 (hr5 _) ?_)
                    clear hr5 HR5
                    refine (HMO.out _).mono ?_
                    rintro e w6 ⟨rfl, rfl⟩
                    have e11 := HE11.out
                    go_wp2_with fail
                    exact ⟨⟨num, cost2, f, s1 ++ l, rfl, rfl, HNM.out, hcg, by have := HC2.out; omega, HRF, I5⟩, by show G + 1 - cost2 < G + 1 - cost; have := HC2.out; omega⟩
                  · have e11 : ¬ ((op : Int) = 11) := by omega
                    by_cases h12 : op = 12
                    · exfalso
                      have := HTK.out
                      rw [h12] at this
                      exact absurd this (by decide)
                    · rw [if_neg (by omega)] at hR
                      have e12 : ¬ ((op : Int) = 12) := by omega
                      clear h12 h11
                      have HRF := Lib.hid hR
                      clear hR hnx
                      go_wp2_with (at_builtin; refine wpList_append_v rfl (.tmp 109) (.tmp 110) 23 23 rfl _ w5 (hr5 _) ?_)
                      clear hr5 HR5
                      refine (HMO.out _).mono ?_
                      rintro e w6 ⟨rfl, rfl⟩
                      go_wp2_with fail
                      exact ⟨⟨at_ + 1 + F, cost2, f, s1 ++ l, congrArg (Value.int .i64) (by omega), rfl, by omega, hcg, by have := HC2.out; omega, HRF, I5⟩, by show G + 1 - cost2 < G + 1 - cost; have := HC2.out; omega⟩
    · rw [if_pos (by simpa using hE)] at hR
      have hv : ordR p at_ = .tuple #[.int .i64 0, .int .u64 0, .int .i64 (ordE p at_)] := by unfold ordR; rw [if_neg hE]
      rw [hv] at HO
      obtain ⟨EE, hEE⟩ : ∃ x, ordE p at_ = x := ⟨_, rfl⟩
      rw [hEE] at HO hR hE
      have he : (EE != 0) = true := by simpa using hE
      subst hR
      clear hEE hv hE
      go_wp2_with fail
      refine HO.out.mono ?_
      rintro e w1 ⟨rfl, rfl⟩
      go_wp2
      go_ret3
      exact ⟨rfl, I.out.turn⟩
end Go.Proofs.YtkilajobnlagbaaDoor
