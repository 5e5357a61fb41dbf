/-
  The document's Reach (23), of whatever web and node.
-/
import Derived.Test.YtnnimjaigciedaaWebRj
namespace Go.Proofs.Ytnnimjaigciedaa
open Go.RowKit
set_option linter.unusedVariables false

set_option maxRecDepth 100000 in
set_option maxHeartbeats 2000000 in
theorem rreach_any (sa : Option Addr) (sl sc : Nat) (ea : Option Addr) (el ec : Nat) (es : List Ed) (node amt : Int) (w : World) (hE : EdgeRow w ea es) (hel : es.length = el) (hel2 : el ≤ 90) (hsl2 : sl ≤ 1000) (hok : ∀ e ∈ es, EdOk e) :
    Calls Try.prog 23 #[.agg #[.slice sa sl sc, .slice ea el ec], .int .i64 node, .int .u64 amt] w (RePost sl es node amt w) := by
  by_cases hc : checkE sl es = 0
  · by_cases hn : 0 ≤ node ∧ node < (sl : Int)
    · have hb : reaB sl es node = true := decide_eq_true ⟨hc, hn⟩
      refine (rreach_good sa sl sc ea el ec es node amt w hE hel hel2 hsl2 hok hc hn).mono ?_
      rintro e w' ⟨a, c, l, h1, h2, h3, h4⟩
      exact ⟨a, c, l, h1, by unfold ReachL; rw [if_pos hb]; exact h2, h3, h4⟩
    · have hb : reaB sl es node = false := decide_eq_false (fun h => hn h.2)
      have HFIN : Hid (∀ W, Below w.heap.size w W → RePost sl es node amt w (.returned (.slice none 0 0)) W) := Lib.hid (fun W hB => ⟨none, 0, [], rfl, by unfold ReachL; rw [hb, if_neg (by decide)], .inl rfl, hB⟩)
      have HE := Lib.hid hE
      have HCK := Lib.hid (fun W (h : EdgeRow W ea es) => rcheck_any sa sl sc ea el ec es W h hel (by omega) (by omega))
      rw [hc] at HCK
      have HB0 : Hid (Below w.heap.size w (w.alloc (.cells #[.slice sa sl sc, .slice ea el ec] 25))) := Lib.hid ((Below.refl _ _).alloc (Nat.le_refl _) _)
      have HP0 : Hid (Blk (w.alloc (.cells #[.slice sa sl sc, .slice ea el ec] 25)) w.heap.size 25 [.slice sa sl sc, .slice ea el ec]) := Lib.hid (Blk.new w 25 _)
      have hsI : (sl : Int) ≤ 1000 := by omega
      clear hE hel hc hb
      by_cases h0 : node < 0
      · clear hn
        go_enter Try.func23, Try.ntmps23
        have p0 : (w.alloc (.cells #[.slice sa sl sc, .slice ea el ec] 25)).cell? ⟨w.heap.size, 0, none⟩ = some (.slice sa sl sc) := HP0.out.cell 0
        have p1 : (w.alloc (.cells #[.slice sa sl sc, .slice ea el ec] 25)).cell? ⟨w.heap.size, 1, none⟩ = some (.slice ea el ec) := HP0.out.cell 1
        go_wp2_with fail
        clear p0 p1
        refine (HCK.out _ (HE.out.below HB0.out)).mono ?_
        rintro e V1 ⟨rfl, hB⟩
        have HB1 := Lib.hid (HB0.out.trans (hB.mono HB0.out.size))
        clear hB HP0 HB0 HCK
        go_wp2
        go_ret
        exact HFIN.out _ HB1.out
      · have h1 : (sl : Int) ≤ node := by omega
        clear hn
        go_enter Try.func23, Try.ntmps23
        have p0 : (w.alloc (.cells #[.slice sa sl sc, .slice ea el ec] 25)).cell? ⟨w.heap.size, 0, none⟩ = some (.slice sa sl sc) := HP0.out.cell 0
        have p1 : (w.alloc (.cells #[.slice sa sl sc, .slice ea el ec] 25)).cell? ⟨w.heap.size, 1, none⟩ = some (.slice ea el ec) := HP0.out.cell 1
        go_wp2_with fail
        clear p0 p1
        refine (HCK.out _ (HE.out.below HB0.out)).mono ?_
        rintro e V1 ⟨rfl, hB⟩
        have HP1 := Lib.hid (HP0.out.below hB HP0.out.lt)
        have HB1 := Lib.hid (HB0.out.trans (hB.mono HB0.out.size))
        clear hB HP0 HB0 HCK
        have p0 : V1.cell? ⟨w.heap.size, 0, none⟩ = some (.slice sa sl sc) := HP1.out.cell 0
        go_wp2
        go_ret
        exact HFIN.out _ HB1.out
  · have hb : reaB sl es node = false := decide_eq_false (fun h => hc h.1)
    have HFIN : Hid (∀ W, Below w.heap.size w W → RePost sl es node amt w (.returned (.slice none 0 0)) W) := Lib.hid (fun W hB => ⟨none, 0, [], rfl, by unfold ReachL; rw [hb, if_neg (by decide)], .inl rfl, hB⟩)
    have HE := Lib.hid hE
    have HCK := Lib.hid (fun W (h : EdgeRow W ea es) => rcheck_any sa sl sc ea el ec es W h hel (by omega) (by omega))
    obtain ⟨ck, hck⟩ : ∃ ck, checkE sl es = ck := ⟨_, rfl⟩
    rw [hck] at HCK hc
    have HB0 : Hid (Below w.heap.size w (w.alloc (.cells #[.slice sa sl sc, .slice ea el ec] 25))) := Lib.hid ((Below.refl _ _).alloc (Nat.le_refl _) _)
    have HP0 : Hid (Blk (w.alloc (.cells #[.slice sa sl sc, .slice ea el ec] 25)) w.heap.size 25 [.slice sa sl sc, .slice ea el ec]) := Lib.hid (Blk.new w 25 _)
    clear hE hel hck hb
    go_enter Try.func23, Try.ntmps23
    have p0 : (w.alloc (.cells #[.slice sa sl sc, .slice ea el ec] 25)).cell? ⟨w.heap.size, 0, none⟩ = some (.slice sa sl sc) := HP0.out.cell 0
    have p1 : (w.alloc (.cells #[.slice sa sl sc, .slice ea el ec] 25)).cell? ⟨w.heap.size, 1, none⟩ = some (.slice ea el ec) := HP0.out.cell 1
    go_wp2_with fail
    clear p0 p1
    refine (HCK.out _ (HE.out.below HB0.out)).mono ?_
    rintro e V1 ⟨rfl, hB⟩
    have HB1 := Lib.hid (HB0.out.trans (hB.mono HB0.out.size))
    clear hB HP0 HB0 HCK
    go_wp2
    go_ret
    exact HFIN.out _ HB1.out
end Go.Proofs.Ytnnimjaigciedaa
