/-
  The document's Text 15.
-/
import Derived.Test.YtkilajobnlagbaaDoorCodFB
namespace Go.Proofs.YtkilajobnlagbaaDoor
open Go.RowKit
set_option linter.unusedVariables false

/-- A line behind a text. -/
def moreS (k : Nat) (S l : ByteArray) : ByteArray := if k = 0 then l else (S ++ ⟨#[10]⟩) ++ l
theorem joinTail_snoc (sep : List UInt8) (r : List (List UInt8)) (y : List UInt8) : Lib.joinTail sep (r ++ [y]) = Lib.joinTail sep r ++ sep ++ y := by
  simp [Lib.joinTail]
theorem join_snoc (L : List (List UInt8)) (y : List UInt8) (h : L ≠ []) : Lib.join (L ++ [y]) [10] = Lib.join L [10] ++ [10] ++ y := by
  cases L with
  | nil => exact absurd rfl h
  | cons x r =>
    rw [List.cons_append, Lib.join_cons, Lib.join_cons, joinTail_snoc]
    simp
theorem joinS_snoc (L : List ByteArray) (y : ByteArray) : joinS (L ++ [y]) = moreS L.length (joinS L) y := by
  unfold moreS
  cases L with
  | nil =>
    rw [if_pos (show ([] : List ByteArray).length = 0 from rfl)]
    apply ba_ext
    show Lib.join [y.data.toList] [10] = _
    exact Lib.join_one _ _
  | cons x r =>
    rw [if_neg (by simp)]
    apply ba_ext
    show Lib.join (((x :: r) ++ [y]).map (·.data.toList)) [10] = _
    rw [List.map_append]
    show Lib.join ((x :: r).map (·.data.toList) ++ [y.data.toList]) [10] = _
    rw [join_snoc _ _ (by simp)]
    simp [joinS]
theorem moreS_zero (S l : ByteArray) : moreS 0 S l = l := rfl
theorem moreS_succ (k : Nat) (h : 0 < k) (S l : ByteArray) : moreS k S l = (S ++ ⟨#[10]⟩) ++ l := by unfold moreS; rw [if_neg (by omega)]
theorem joinS_size (L : List ByteArray) (h : ∀ x ∈ L, x.size ≤ 26) : (joinS L).size ≤ L.length * 27 := by
  have h1 := join_le (L.map (·.data.toList)) (fun x hx => by
    obtain ⟨y, hy, rfl⟩ := List.mem_map.1 hx
    have := h y hy
    show y.data.toList.length ≤ 26
    rw [Array.length_toList]
    exact this)
  rw [List.length_map] at h1
  have e : (joinS L).size = (Lib.join (L.map (·.data.toList)) [10]).length := by
    show ((Lib.join (L.map (·.data.toList)) [10]).toArray).size = _
    rw [List.size_toArray]
  omega
theorem linesOf_snoc (p : List Int) (bs : List Nat) (k : Nat) : linesOf p (bs ++ [k]) = linesOf p bs ++ [lineS (nm (opAt p k)) (fol (opAt p k)) (numAt p k).toNat] := by simp [linesOf]
set_option maxRecDepth 100000 in
set_option maxHeartbeats 4000000 in
theorem rtext_any (A : Option Addr) (n c : Nat) (p : List Int) (w : World) (HP : Hid (Pg w A n c p)) :
    Calls Tryd.prog 15 #[.slice A n c] w fun e w' => e = .returned (.tuple #[.string (textV p), .int .i64 (ordsV p).1]) ∧ Below w.heap.size w w' := by
  have HCK := Lib.hid (rcheck_any A n c p w HP)
  by_cases h0 : (ordsV p).1 = 0
  · have hbz := ordsV_zero p h0
    have hfew := ordsV_few p
    have hpl : p.length ≤ 256 := by
      rcases Nat.lt_or_ge 256 p.length with h | h
      · unfold ordsV at h0; rw [if_pos h] at h0; simp at h0
      · exact h
    have hl := HP.out.len
    have hTX : textV p = joinS (linesOf p (ordsV p).2) := by unfold textV; rw [if_neg (by simpa using h0)]
    rw [hTX, h0]
    rw [h0] at HCK
    have hb0 : begF p (p.length + 1) 0 [] = (0, (ordsV p).2) := by rw [hbz.2, ← hbz.1]
    obtain ⟨BS, hBS⟩ : ∃ x, (ordsV p).2 = x := ⟨_, rfl⟩
    rw [hBS] at hb0 ⊢
    rw [hl] at hb0
    have HB0 := Lib.hid hb0
    have HL := Lib.hid hl
    have n9 : (n : Int) ≤ 256 := by omega
    clear hbz hfew hpl hTX hBS hb0 h0
    go_enter Tryd.func15, Tryd.ntmps15
    go_wp2_with fail
    refine HCK.out.mono ?_
    rintro e w1 ⟨rfl, hB1⟩
    have HB1 := Lib.hid hB1
    clear hB1 HCK
    go_wp2
    go_loopw [5, 6] (fun s t wr => ∃ (bs : List Nat) (k f : Nat) (S : ByteArray), s = .string S ∧ t = .int .i64 k ∧ k ≤ n ∧ n < f + k ∧ Hid (begF p f k bs = (0, BS)) ∧ Hid (S = joinS (linesOf p bs)) ∧ Hid (bs.length ≤ k ∧ (0 < k → 0 < bs.length)) ∧ Hid (Below w.heap.size w wr)) (fun _ t _ => n - (intOf t).toNat)
    case atStart => exact ⟨[], 0, n + 1, ⟨#[]⟩, rfl, rfl, by omega, by omega, HB0, Lib.hid rfl, Lib.hid ⟨by simp, by simp⟩, HB1⟩
    case round =>
      obtain ⟨bs, k, f, S, rfl, rfl, hk, hf, HR2, HS, HK, HB⟩ := hrel
      obtain ⟨f, rfl⟩ : ∃ f', f = f' + 1 := ⟨f - 1, by omega⟩
      have hR := HR2.out
      rw [begF] at hR
      have k0 : (0 : Int) ≤ (k : Int) := Int.natCast_nonneg _
      have hS9 : S.size ≤ 7000 := by
        rw [HS.out]
        have h1 := joinS_size (linesOf p bs) (fun x hx => by
          obtain ⟨b, _, rfl⟩ := List.mem_map.1 hx
          obtain ⟨q, h1, h2, _⟩ := num_nat HP.out b
          exact line_le p b (by rw [h1, Int.toNat_natCast]; omega))
        have h2 : (linesOf p bs).length = bs.length := by simp [linesOf]
        have := HK.out.1
        omega
      by_cases hlt : k < n
      · rw [if_neg (by have := HL.out; omega)] at hR
        have hE : ordE p k = 0 := by
          by_cases hE : ordE p k = 0
          · exact hE
          · rw [if_pos (by simpa using hE)] at hR
            exact absurd (congrArg Prod.fst hR) hE
        rw [if_neg (by simpa using hE)] at hR
        have hOA := Lib.hid (rorder_any A n c k p wr (Lib.hid (HP.out.below HB.out)) (by omega))
        have kn : (k : Int) < (n : Int) := by omega
        obtain ⟨hop18, hble⟩ := ord_ok hE
        have hor : ordR p k = .tuple #[.int .i64 (opAt p k : Int), .int .u64 (numAt p k), .int .i64 0] := by unfold ordR; rw [if_pos hE]
        rw [hor] at hOA
        have hsn := linesOf_snoc p bs k
        have hjs := joinS_snoc (linesOf p bs) (lineS (nm (opAt p k)) (fol (opAt p k)) (numAt p k).toNat)
        rw [← hsn, ← HS.out, show (linesOf p bs).length = bs.length by simp [linesOf]] at hjs
        have HM := Lib.hid (fun w => more_any (opAt p k) hop18 w)
        obtain ⟨num, hnu, hnum, _⟩ := num_nat HP.out k
        rw [hnu] at hOA hjs
        rw [Int.toNat_natCast] at hjs
        have HD := Lib.hid (fun w => rdec_any num w (by omega))
        obtain ⟨op, hop⟩ : ∃ x, opAt p k = x := ⟨_, rfl⟩
        rw [hop] at hOA HM hR hble hjs
        rw [hop] at hop18
        have hF8 := fol_le op
        have hng := nmsL_get op hop18
        have hnz : (nm op).size ≤ 5 := nm_le op
        have hdz : (⟨(Lib.decDigits num).toArray⟩ : ByteArray).size ≤ 20 := by
          show ((Lib.decDigits num).toArray).size ≤ 20
          rw [List.size_toArray]
          exact dec_le num (by omega)
        obtain ⟨F, hF⟩ : ∃ F, fol op = F := ⟨_, rfl⟩
        rw [hF] at HM hR hble hF8 hjs
        obtain ⟨NM, hNM⟩ : ∃ x, nm op = x := ⟨_, rfl⟩
        rw [hNM] at hng hnz hjs
        obtain ⟨DD, hDD⟩ : ∃ x, (⟨(Lib.decDigits num).toArray⟩ : ByteArray) = x := ⟨_, rfl⟩
        rw [hDD] at HD hdz
        unfold lineS at hjs
        rw [hDD] at hjs
        have HNG := Lib.hid hng
        have F0 : (0 : Int) ≤ (F : Int) := Int.natCast_nonneg _
        have F8 : (F : Int) ≤ 8 := by omega
        have o0 : (0 : Int) ≤ (op : Int) := Int.natCast_nonneg _
        have o1 : (op : Int) < 18 := by omega
        have HR3 := Lib.hid hR
        have HK2 : Hid ((bs ++ [k]).length ≤ k + 1 + F ∧ (0 < k + 1 + F → 0 < (bs ++ [k]).length)) := Lib.hid ⟨by have := HK.out.1; simp; omega, by simp⟩
        have hbk : k = 0 ∧ bs.length = 0 ∨ 0 < k ∧ 0 < bs.length := by
          have := HK.out
          rcases Nat.eq_zero_or_pos k with h | h
          · exact .inl ⟨h, by omega⟩
          · exact .inr ⟨h, this.2 h⟩
        clear hor hE hop hF hNM hDD hR HR2 hng hnu hsn HK hop18
        rcases hbk with ⟨hk1, hb1⟩ | ⟨hk1, hb1⟩
        · subst hk1
          rw [hb1, moreS_zero] at hjs
          have hS0 : S = ⟨#[]⟩ := by
            rw [HS.out]
            have : bs = [] := List.eq_nil_of_length_eq_zero hb1
            subst this
            rfl
          clear HS
          subst hS0
          clear hb1
          by_cases hF0 : F = 0
          · subst hF0
            rw [if_pos rfl] at hjs
            have HJ := Lib.hid hjs
            clear hjs
            go_wp2_with fail
            refine hOA.out.mono ?_
            rintro e w2 ⟨rfl, rfl⟩
            clear hOA
            go_wp2_with fail
            refine (names_any _).mono ?_
            rintro e w3 ⟨rfl, hNB, hB3⟩
            have HB3 := Lib.hid (HB.out.trans (hB3.mono HB.out.size))
            have hcell := hNB.cell op
            rw [HNG.out] at hcell
            clear hNB hB3 HB
            go_wp2_with fail
            refine (HM.out _).mono ?_
            rintro e w4 ⟨rfl, rfl⟩
            go_wp2_with fail
            refine (HM.out _).mono ?_
            rintro e w6 ⟨rfl, rfl⟩
            go_wp2_with fail
            exact ⟨⟨bs ++ [0], 0 + 1 + 0, f, _, rfl, by go_num, by omega, by omega, HR3, Lib.hid (by rw [HJ.out]; try (apply ba_ext; simp)), HK2, HB3⟩, by simp [intOf]; omega⟩
          · rw [if_neg hF0] at hjs
            have Fp : (0 : Int) < (F : Int) := by omega
            clear hF0
            have HJ := Lib.hid hjs
            clear hjs
            go_wp2_with fail
            refine hOA.out.mono ?_
            rintro e w2 ⟨rfl, rfl⟩
            clear hOA
            go_wp2_with fail
            refine (names_any _).mono ?_
            rintro e w3 ⟨rfl, hNB, hB3⟩
            have HB3 := Lib.hid (HB.out.trans (hB3.mono HB.out.size))
            have hcell := hNB.cell op
            rw [HNG.out] at hcell
            clear hNB hB3 HB
            go_wp2_with fail
            refine (HM.out _).mono ?_
            rintro e w4 ⟨rfl, rfl⟩
            go_wp2_with fail
            refine (HD.out _).mono ?_
            rintro e w5 ⟨rfl, hB5⟩
            have HB5 := Lib.hid (HB3.out.trans (hB5.mono HB3.out.size))
            clear hB5
            go_wp2_with fail
            refine (HM.out _).mono ?_
            rintro e w6 ⟨rfl, rfl⟩
            go_wp2_with fail
            exact ⟨⟨bs ++ [0], 0 + 1 + F, f, _, rfl, by go_num, by omega, by omega, HR3, Lib.hid (by rw [HJ.out]; try (apply ba_ext; simp)), HK2, HB5⟩, by simp [intOf]; omega⟩
        · rw [moreS_succ _ hb1] at hjs
          have kp : (0 : Int) < (k : Int) := by omega
          clear hb1 HS
          by_cases hF0 : F = 0
          · subst hF0
            rw [if_pos rfl] at hjs
            have HJ := Lib.hid hjs
            clear hjs
            go_wp2_with fail
            refine hOA.out.mono ?_
            rintro e w2 ⟨rfl, rfl⟩
            clear hOA
            go_wp2_with fail
            refine (names_any _).mono ?_
            rintro e w3 ⟨rfl, hNB, hB3⟩
            have HB3 := Lib.hid (HB.out.trans (hB3.mono HB.out.size))
            have hcell := hNB.cell op
            rw [HNG.out] at hcell
            clear hNB hB3 HB
            go_wp2_with fail
            refine (HM.out _).mono ?_
            rintro e w4 ⟨rfl, rfl⟩
            go_wp2_with fail
            refine (HM.out _).mono ?_
            rintro e w6 ⟨rfl, rfl⟩
            go_wp2_with fail
            exact ⟨⟨bs ++ [k], k + 1 + 0, f, _, rfl, by go_num, by omega, by omega, HR3, Lib.hid (by rw [HJ.out]; try (apply ba_ext; simp)), HK2, HB3⟩, by simp [intOf]; omega⟩
          · rw [if_neg hF0] at hjs
            have Fp : (0 : Int) < (F : Int) := by omega
            clear hF0
            have HJ := Lib.hid hjs
            clear hjs
            go_wp2_with fail
            refine hOA.out.mono ?_
            rintro e w2 ⟨rfl, rfl⟩
            clear hOA
            go_wp2_with fail
            refine (names_any _).mono ?_
            rintro e w3 ⟨rfl, hNB, hB3⟩
            have HB3 := Lib.hid (HB.out.trans (hB3.mono HB.out.size))
            have hcell := hNB.cell op
            rw [HNG.out] at hcell
            clear hNB hB3 HB
            go_wp2_with fail
            refine (HM.out _).mono ?_
            rintro e w4 ⟨rfl, rfl⟩
            go_wp2_with fail
            refine (HD.out _).mono ?_
            rintro e w5 ⟨rfl, hB5⟩
            have HB5 := Lib.hid (HB3.out.trans (hB5.mono HB3.out.size))
            clear hB5
            go_wp2_with fail
            refine (HM.out _).mono ?_
            rintro e w6 ⟨rfl, rfl⟩
            go_wp2_with fail
            exact ⟨⟨bs ++ [k], k + 1 + F, f, _, rfl, by go_num, by omega, by omega, HR3, Lib.hid (by rw [HJ.out]; try (apply ba_ext; simp)), HK2, HB5⟩, by simp [intOf]; omega⟩
      · obtain rfl : k = n := by omega
        rw [if_pos (by have := HL.out; omega)] at hR
        injection hR with h1 h2
        subst h2
        have HS2 := HS
        clear HB0 HR2
        go_wp2_with fail
        go_ret2
        rw [← HS.out]
        exact ⟨rfl, HB.out⟩
  · have hT : textV p = ⟨#[]⟩ := by unfold textV; rw [if_pos (by simpa using h0)]
    rw [hT]
    obtain ⟨E, hE⟩ : ∃ x, (ordsV p).1 = x := ⟨_, rfl⟩
    rw [hE] at HCK h0 ⊢
    clear hE hT
    go_enter Tryd.func15, Tryd.ntmps15
    go_wp2_with fail
    refine HCK.out.mono ?_
    rintro e w1 ⟨rfl, hB1⟩
    have HB1 := Lib.hid hB1
    clear hB1 HCK
    go_wp2_with fail
    go_ret2
    exact ⟨rfl, HB1.out⟩
end Go.Proofs.YtkilajobnlagbaaDoor
