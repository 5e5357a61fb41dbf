/-
  CodeBack: the law's walk.
-/
import Derived.Test.YtkilajobnlagbaaDoorCodEH
import Derived.Laws.BytesString
import Derived.Stop.LaidErr
import Derived.Test.YtkilajobnlagbaaDoorCodT
namespace Go.Proofs.YtkilajobnlagbaaDoor
open Go.RowKit
set_option linter.unusedVariables false

/-- Bytes as a text. -/
def txtI (l : List Int) : ByteArray := l.foldl (fun r n => r.push (UInt8.ofNat n.toNat)) ByteArray.empty
theorem conv_src (w : World) (A : Option Addr) (c : Nat) (l : List Int) (hS : Oct.Src w A c l) : (convert 22 9 (.slice A l.length c)).run Tryd.prog w = .ok (.string (txtI l)) w := by
  rw [run_convert_bytes_string w 22 9 5 A l.length c Tryd.underlying22 Tryd.underlying5 Tryd.underlying9]
  rcases hS.2 with rfl | ⟨g, off, rfl, _, hc⟩
  · cases A with
    | none => rfl
    | some ad =>
      refine run_bytesToString w ad 0 c [] ?_
      exact run_loadCells_list w ad [] (by simp)
  · refine run_bytesToString w _ l.length c l ?_
    have h := run_loadCells_list (P := Tryd.prog) w ⟨g, off, none⟩ (l.map (Value.int .u8)) (by
      intro j v hv
      have hj : j < l.length := by
        have := (List.getElem?_eq_some_iff.1 hv).1
        simpa using this
      rw [Go.Addr.add_mid, hc j hj, ← hv]
      simp [List.getD, hj])
    simpa using h
theorem drew_src {w : World} {A : Option Addr} {c : Nat} {l : List Int} (h : Oct.Src w A c l) (q : Nat) : Oct.Src (w.drewN q) A c l := ⟨h.1, h.2⟩
theorem conv_drew (w : World) (A : Option Addr) (n c : Nat) (l : List Int) (hn : l.length = n) (hS : Oct.Src w A c l) (q : Nat) : (convert 22 9 (.slice A n c)).run Tryd.prog (w.drewN q) = .ok (.string (txtI l)) (w.drewN q) := by
  subst hn
  exact conv_src _ A c l (drew_src hS q)
theorem conv_any (w : World) (A : Option Addr) (n c : Nat) (l : List Int) (hn : l.length = n) (hS : Oct.Src w A c l) : (convert 22 9 (.slice A n c)).run Tryd.prog w = .ok (.string (txtI l)) w := by
  subst hn
  exact conv_src _ A c l hS

theorem parseV_bytes (t : ByteArray) : ∀ b ∈ (parseV t).2, 0 ≤ b ∧ b < 256 := by
  unfold parseV
  split
  · simp
  · split
    · simp
    · split
      · simp
      · split
        · simp
        · exact allL_bytes _

set_option maxRecDepth 100000 in
set_option maxHeartbeats 4000000 in
theorem codeBack_walk (A : Option Addr) (n c : Nat) (p : List Int) (t : ByteArray) (W : World) (HM : Hid (MCell W)) (HT : Hid (KTab W)) (HPT : Hid (PTab W)) (HE3 : Hid (ECell 3 W)) (HE4 : Hid (ECell 4 W)) (HP : Hid (Pg W A n c p)) :
    Calls Tryd.prog 5 #[.slice A n c, .string t] W fun e W1 => e = .returned (.bool true) ∧ Below W.heap.size W W1 := by
  have HTX := Lib.hid (text_any A n c p W HP HT HPT)
  by_cases he : (ordsV p).1 = 0
  · by_cases hs : (textV p).size ≤ 4096
    · have htb := text_back p HP.out.bytes he hs
      obtain ⟨S, hS⟩ : ∃ S, textV p = S := ⟨_, rfl⟩
      rw [hS] at HTX hs htb
      rw [he] at HTX
      have HTB := Lib.hid htb
      have hsi : (S.size : Int) ≤ 4096 := by omega
      clear htb hS he hs
      go_enter Tryd.func5, Tryd.ntmps5
      go_wp2_with fail
      refine HTX.out.mono ?_
      rintro e w1 ⟨rfl, hB1⟩
      have HB1 := Lib.hid hB1
      have HBx := Lib.hid HB1.out
      have HMx : Hid (MCell w1) := Lib.hid (HM.out.below HB1.out)
      have HTx : Hid (KTab w1) := Lib.hid (HT.out.below HB1.out HT.out.lt)
      have HPTx : Hid (PTab w1) := Lib.hid (PTab.below HPT.out HB1.out)
      have HE3x : Hid (ECell 3 w1) := Lib.hid (HE3.out.below HB1.out)
      have HE4x : Hid (ECell 4 w1) := Lib.hid (HE4.out.below HB1.out)
      clear hB1 HTX
      have HPA := Lib.hid (parse_any S w1 HMx HTx HPTx HE3x HE4x)
      rw [HTB.out] at HPA
      go_wp2_with fail
      refine HPA.out.mono ?_
      rintro e w2 ⟨v, rfl, hO, hB2⟩
      have HB2 := Lib.hid (HB1.out.trans (hB2.mono HB1.out.size))
      obtain ⟨Ay, cy, hv, hPy⟩ := own_pg hO HP.out.bytes
      subst hv
      obtain ⟨k, hk⟩ : ∃ k, p.length = k := ⟨_, rfl⟩
      rw [hk] at hPy ⊢
      have hcy := conv_any w2 Ay k cy p hk hPy.src
      have hcp := conv_any w2 A n c p HP.out.len (HP.out.src.below HB2.out)
      have hcy2 := conv_drew w2 Ay k cy p hk hPy.src
      have hcp2 := conv_drew w2 A n c p HP.out.len (HP.out.src.below HB2.out)
      clear hO hB2 hPy hk HPA HBx HMx HTx HPTx HE3x HE4x HB1 HTB
      have HBx := Lib.hid HB2.out
      have HMx : Hid (MCell w2) := Lib.hid (HM.out.below HB2.out)
      have HTx : Hid (KTab w2) := Lib.hid (HT.out.below HB2.out HT.out.lt)
      have HPTx : Hid (PTab w2) := Lib.hid (PTab.below HPT.out HB2.out)
      have HE3x : Hid (ECell 3 w2) := Lib.hid (HE3.out.below HB2.out)
      have HE4x : Hid (ECell 4 w2) := Lib.hid (HE4.out.below HB2.out)
      go_wp2_with fail
      by_cases hc : (parseV t).1 = 0
      · have hpb := parse_back t hc
        have HPA := Lib.hid (parse_any t w2 HMx HTx HPTx HE3x HE4x)
        obtain ⟨y, hy⟩ : ∃ y, (parseV t).2 = y := ⟨_, rfl⟩
        rw [hy] at hpb HPA
        rw [hc] at HPA
        have HYB : Hid (∀ b ∈ y, 0 ≤ b ∧ b < 256) := Lib.hid (by rw [← hy]; exact parseV_bytes t)
        have HPB := Lib.hid hpb
        clear hy hc hpb
        go_wp2_with fail
        refine HPA.out.mono ?_
        rintro e w7 ⟨v, rfl, hO, hB7⟩
        have HB7 := Lib.hid (HBx.out.trans (hB7.mono HBx.out.size))
        obtain ⟨Ay, cy, hv, hPy⟩ := own_pg hO HYB.out
        subst hv
        have HPy := Lib.hid hPy
        have HT7 : Hid (KTab w7) := Lib.hid (HT.out.below HB7.out HT.out.lt)
        have HPT7 : Hid (PTab w7) := Lib.hid (PTab.below HPT.out HB7.out)
        obtain ⟨m, hm⟩ : ∃ m, y.length = m := ⟨_, rfl⟩
        rw [hm] at HPy ⊢
        have HTX := Lib.hid (text_any Ay m cy y w7 HPy HT7 HPT7)
        rw [HPB.out.1, HPB.out.2] at HTX
        clear hO hB7 hPy hm HPA HBx HT7 HPT7 HMx HTx HPTx HE3x HE4x
        go_wp2_with fail
        refine HTX.out.mono ?_
        rintro e w8 ⟨rfl, hB8⟩
        have HB8 := Lib.hid (HB7.out.trans (hB8.mono HB7.out.size))
        have HM8 : Hid (MCell w8) := Lib.hid (HM.out.below HB8.out)
        have HT8 : Hid (KTab w8) := Lib.hid (HT.out.below HB8.out HT.out.lt)
        have HPT8 : Hid (PTab w8) := Lib.hid (PTab.below HPT.out HB8.out)
        clear hB8 HB7 HTX HPy HPB
        go_wp2_with fail
        refine (awake_any w8 HM8 HT8 HPT8).mono ?_
        rintro e w9 ⟨rfl, hB9⟩
        have HB9 := Lib.hid (HB8.out.trans (hB9.mono HB8.out.size))
        clear hB9
        go_wp2_with fail
        go_ret
        exact ⟨rfl, HB9.out⟩
      · have HPA := Lib.hid (parse_any t w2 HMx HTx HPTx HE3x HE4x)
        obtain ⟨c2, hc2⟩ : ∃ c, (parseV t).1 = c := ⟨_, rfl⟩
        rw [hc2] at HPA hc
        clear hc2
        go_wp2_with fail
        refine HPA.out.mono ?_
        rintro e w7 ⟨v, rfl, hO, hB7⟩
        have HB7 := Lib.hid (HBx.out.trans (hB7.mono HBx.out.size))
        have HM8 : Hid (MCell w7) := Lib.hid (HM.out.below HB7.out)
        have HT8 : Hid (KTab w7) := Lib.hid (HT.out.below HB7.out HT.out.lt)
        have HPT8 : Hid (PTab w7) := Lib.hid (PTab.below HPT.out HB7.out)
        clear hO hB7 HPA HBx HMx HTx HPTx HE3x HE4x
        go_wp2_with fail
        refine (awake_any w7 HM8 HT8 HPT8).mono ?_
        rintro e w9 ⟨rfl, hB9⟩
        have HB9 := Lib.hid (HB7.out.trans (hB9.mono HB7.out.size))
        clear hB9
        go_wp2_with fail
        go_ret
        exact ⟨rfl, HB9.out⟩
    · have hsi : ¬ (((textV p).size : Int) ≤ 4096) := by omega
      obtain ⟨S, hS⟩ : ∃ S, textV p = S := ⟨_, rfl⟩
      rw [hS] at HTX hsi
      rw [he] at HTX
      clear hS he hs
      go_enter Tryd.func5, Tryd.ntmps5
      go_wp2_with fail
      refine HTX.out.mono ?_
      rintro e w1 ⟨rfl, hB1⟩
      have HB1 := Lib.hid hB1
      have HBx := Lib.hid HB1.out
      have HMx : Hid (MCell w1) := Lib.hid (HM.out.below HB1.out)
      have HTx : Hid (KTab w1) := Lib.hid (HT.out.below HB1.out HT.out.lt)
      have HPTx : Hid (PTab w1) := Lib.hid (PTab.below HPT.out HB1.out)
      have HE3x : Hid (ECell 3 w1) := Lib.hid (HE3.out.below HB1.out)
      have HE4x : Hid (ECell 4 w1) := Lib.hid (HE4.out.below HB1.out)
      clear hB1 HTX
      go_wp2_with fail
      by_cases hc : (parseV t).1 = 0
      · have hpb := parse_back t hc
        have HPA := Lib.hid (parse_any t w1 HMx HTx HPTx HE3x HE4x)
        obtain ⟨y, hy⟩ : ∃ y, (parseV t).2 = y := ⟨_, rfl⟩
        rw [hy] at hpb HPA
        rw [hc] at HPA
        have HYB : Hid (∀ b ∈ y, 0 ≤ b ∧ b < 256) := Lib.hid (by rw [← hy]; exact parseV_bytes t)
        have HPB := Lib.hid hpb
        clear hy hc hpb
        go_wp2_with fail
        refine HPA.out.mono ?_
        rintro e w7 ⟨v, rfl, hO, hB7⟩
        have HB7 := Lib.hid (HBx.out.trans (hB7.mono HBx.out.size))
        obtain ⟨Ay, cy, hv, hPy⟩ := own_pg hO HYB.out
        subst hv
        have HPy := Lib.hid hPy
        have HT7 : Hid (KTab w7) := Lib.hid (HT.out.below HB7.out HT.out.lt)
        have HPT7 : Hid (PTab w7) := Lib.hid (PTab.below HPT.out HB7.out)
        obtain ⟨m, hm⟩ : ∃ m, y.length = m := ⟨_, rfl⟩
        rw [hm] at HPy ⊢
        have HTX := Lib.hid (text_any Ay m cy y w7 HPy HT7 HPT7)
        rw [HPB.out.1, HPB.out.2] at HTX
        clear hO hB7 hPy hm HPA HBx HT7 HPT7 HMx HTx HPTx HE3x HE4x
        go_wp2_with fail
        refine HTX.out.mono ?_
        rintro e w8 ⟨rfl, hB8⟩
        have HB8 := Lib.hid (HB7.out.trans (hB8.mono HB7.out.size))
        have HM8 : Hid (MCell w8) := Lib.hid (HM.out.below HB8.out)
        have HT8 : Hid (KTab w8) := Lib.hid (HT.out.below HB8.out HT.out.lt)
        have HPT8 : Hid (PTab w8) := Lib.hid (PTab.below HPT.out HB8.out)
        clear hB8 HB7 HTX HPy HPB
        go_wp2_with fail
        refine (awake_any w8 HM8 HT8 HPT8).mono ?_
        rintro e w9 ⟨rfl, hB9⟩
        have HB9 := Lib.hid (HB8.out.trans (hB9.mono HB8.out.size))
        clear hB9
        go_wp2_with fail
        go_ret
        exact ⟨rfl, HB9.out⟩
      · have HPA := Lib.hid (parse_any t w1 HMx HTx HPTx HE3x HE4x)
        obtain ⟨c2, hc2⟩ : ∃ c, (parseV t).1 = c := ⟨_, rfl⟩
        rw [hc2] at HPA hc
        clear hc2
        go_wp2_with fail
        refine HPA.out.mono ?_
        rintro e w7 ⟨v, rfl, hO, hB7⟩
        have HB7 := Lib.hid (HBx.out.trans (hB7.mono HBx.out.size))
        have HM8 : Hid (MCell w7) := Lib.hid (HM.out.below HB7.out)
        have HT8 : Hid (KTab w7) := Lib.hid (HT.out.below HB7.out HT.out.lt)
        have HPT8 : Hid (PTab w7) := Lib.hid (PTab.below HPT.out HB7.out)
        clear hO hB7 HPA HBx HMx HTx HPTx HE3x HE4x
        go_wp2_with fail
        refine (awake_any w7 HM8 HT8 HPT8).mono ?_
        rintro e w9 ⟨rfl, hB9⟩
        have HB9 := Lib.hid (HB7.out.trans (hB9.mono HB7.out.size))
        clear hB9
        go_wp2_with fail
        go_ret
        exact ⟨rfl, HB9.out⟩
  · obtain ⟨S, hS⟩ : ∃ S, textV p = S := ⟨_, rfl⟩
    obtain ⟨E, hE⟩ : ∃ S, (ordsV p).1 = S := ⟨_, rfl⟩
    rw [hS, hE] at HTX
    rw [hE] at he
    clear hS hE
    go_enter Tryd.func5, Tryd.ntmps5
    go_wp2_with fail
    refine HTX.out.mono ?_
    rintro e w1 ⟨rfl, hB1⟩
    have HB1 := Lib.hid hB1
    have HBx := Lib.hid HB1.out
    have HMx : Hid (MCell w1) := Lib.hid (HM.out.below HB1.out)
    have HTx : Hid (KTab w1) := Lib.hid (HT.out.below HB1.out HT.out.lt)
    have HPTx : Hid (PTab w1) := Lib.hid (PTab.below HPT.out HB1.out)
    have HE3x : Hid (ECell 3 w1) := Lib.hid (HE3.out.below HB1.out)
    have HE4x : Hid (ECell 4 w1) := Lib.hid (HE4.out.below HB1.out)
    clear hB1 HTX
    go_wp2_with fail
    by_cases hc : (parseV t).1 = 0
    · have hpb := parse_back t hc
      have HPA := Lib.hid (parse_any t w1 HMx HTx HPTx HE3x HE4x)
      obtain ⟨y, hy⟩ : ∃ y, (parseV t).2 = y := ⟨_, rfl⟩
      rw [hy] at hpb HPA
      rw [hc] at HPA
      have HYB : Hid (∀ b ∈ y, 0 ≤ b ∧ b < 256) := Lib.hid (by rw [← hy]; exact parseV_bytes t)
      have HPB := Lib.hid hpb
      clear hy hc hpb
      go_wp2_with fail
      refine HPA.out.mono ?_
      rintro e w7 ⟨v, rfl, hO, hB7⟩
      have HB7 := Lib.hid (HBx.out.trans (hB7.mono HBx.out.size))
      obtain ⟨Ay, cy, hv, hPy⟩ := own_pg hO HYB.out
      subst hv
      have HPy := Lib.hid hPy
      have HT7 : Hid (KTab w7) := Lib.hid (HT.out.below HB7.out HT.out.lt)
      have HPT7 : Hid (PTab w7) := Lib.hid (PTab.below HPT.out HB7.out)
      obtain ⟨m, hm⟩ : ∃ m, y.length = m := ⟨_, rfl⟩
      rw [hm] at HPy ⊢
      have HTX := Lib.hid (text_any Ay m cy y w7 HPy HT7 HPT7)
      rw [HPB.out.1, HPB.out.2] at HTX
      clear hO hB7 hPy hm HPA HBx HT7 HPT7 HMx HTx HPTx HE3x HE4x
      go_wp2_with fail
      refine HTX.out.mono ?_
      rintro e w8 ⟨rfl, hB8⟩
      have HB8 := Lib.hid (HB7.out.trans (hB8.mono HB7.out.size))
      have HM8 : Hid (MCell w8) := Lib.hid (HM.out.below HB8.out)
      have HT8 : Hid (KTab w8) := Lib.hid (HT.out.below HB8.out HT.out.lt)
      have HPT8 : Hid (PTab w8) := Lib.hid (PTab.below HPT.out HB8.out)
      clear hB8 HB7 HTX HPy HPB
      go_wp2_with fail
      refine (awake_any w8 HM8 HT8 HPT8).mono ?_
      rintro e w9 ⟨rfl, hB9⟩
      have HB9 := Lib.hid (HB8.out.trans (hB9.mono HB8.out.size))
      clear hB9
      go_wp2_with fail
      go_ret
      exact ⟨rfl, HB9.out⟩
    · have HPA := Lib.hid (parse_any t w1 HMx HTx HPTx HE3x HE4x)
      obtain ⟨c2, hc2⟩ : ∃ c, (parseV t).1 = c := ⟨_, rfl⟩
      rw [hc2] at HPA hc
      clear hc2
      go_wp2_with fail
      refine HPA.out.mono ?_
      rintro e w7 ⟨v, rfl, hO, hB7⟩
      have HB7 := Lib.hid (HBx.out.trans (hB7.mono HBx.out.size))
      have HM8 : Hid (MCell w7) := Lib.hid (HM.out.below HB7.out)
      have HT8 : Hid (KTab w7) := Lib.hid (HT.out.below HB7.out HT.out.lt)
      have HPT8 : Hid (PTab w7) := Lib.hid (PTab.below HPT.out HB7.out)
      clear hO hB7 HPA HBx HMx HTx HPTx HE3x HE4x
      go_wp2_with fail
      refine (awake_any w7 HM8 HT8 HPT8).mono ?_
      rintro e w9 ⟨rfl, hB9⟩
      have HB9 := Lib.hid (HB7.out.trans (hB9.mono HB7.out.size))
      clear hB9
      go_wp2_with fail
      go_ret
      exact ⟨rfl, HB9.out⟩
end Go.Proofs.YtkilajobnlagbaaDoor
