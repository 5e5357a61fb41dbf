/-
  The program's Reach (22), of whatever web and node.
-/
import Derived.Test.YtnnimjaigciedaaWebRf
namespace Go.Proofs.Ytnnimjaigciedaa
open Go.RowKit
set_option linter.unusedVariables false

/-- Is there anything to reach? -/
def reaB (sl : Nat) (es : List Ed) (node : Int) : Bool := decide (checkE sl es = 0 ∧ 0 ≤ node ∧ node < (sl : Int))
def ReachL (sl : Nat) (es : List Ed) (node amt : Int) (l : List Int) : Prop := if reaB sl es node = true then ReachP es amt node l else l = []
theorem ReachL.eq {sl : Nat} {es : List Ed} {node amt : Int} {l m : List Int} (h : ReachL sl es node amt l) (k : ReachL sl es node amt m) : l = m := by
  unfold ReachL at h k
  split at h
  · rename_i hb
    rw [if_pos hb] at k
    exact h.eq k
  · rename_i hb
    rw [if_neg hb] at k
    rw [h, k]
def RePost (sl : Nat) (es : List Ed) (node amt : Int) (w : World) (e : Ending) (w' : World) : Prop := ∃ a c l, e = .returned (.slice a l.length c) ∧ ReachL sl es node amt l ∧ IRow w' a l ∧ Below w.heap.size w w'

set_option maxRecDepth 100000 in
set_option maxHeartbeats 2000000 in
theorem reach_any (sa : Option Addr) (sl sc : Nat) (ea : Option Addr) (el ec : Nat) (es : List Ed) (node amt : Int) (w : World) (hE : EdgeRow w ea es) (hel : es.length = el) (hel2 : el ≤ 90) (hsl2 : sl ≤ 1000) :
    Calls Try.prog 22 #[.agg #[.slice sa sl sc, .slice ea el ec], .int .i64 node, .int .u64 amt] w (RePost sl es node amt w) := by
  by_cases hc : checkE sl es = 0
  · by_cases hn : 0 ≤ node ∧ node < (sl : Int)
    · have hb : reaB sl es node = true := decide_eq_true ⟨hc, hn⟩
      refine (reach_good sa sl sc ea el ec es node amt w hE hel hel2 hsl2 hc hn).mono ?_
      rintro e w' ⟨a, c, l, h1, h2, h3, h4⟩
      exact ⟨a, c, l, h1, by unfold ReachL; rw [if_pos hb]; exact h2, h3, h4⟩
    · have hb : reaB sl es node = false := decide_eq_false (fun h => hn h.2)
      have HFIN : Hid (∀ W, Below w.heap.size w W → RePost sl es node amt w (.returned (.slice none 0 0)) W) := Lib.hid (fun W hB => ⟨none, 0, [], rfl, by unfold ReachL; rw [hb, if_neg (by decide)], .inl rfl, hB⟩)
      have hhas : hasB node sl = false := by unfold hasB; exact decide_eq_false hn
      have HE := Lib.hid hE
      have HCK := Lib.hid (fun W (h : EdgeRow W ea es) => check_any sa sl sc ea el ec es W h hel (by omega) (by omega))
      have HHA := Lib.hid (fun W => has_any sa sl sc ea el ec node W)
      rw [hc] at HCK
      rw [hhas] at HHA
      have HB0 : Hid (Below w.heap.size w (w.alloc (.cells #[.slice sa sl sc, .slice ea el ec] 31))) := Lib.hid ((Below.refl _ _).alloc (Nat.le_refl _) _)
      have HP0 : Hid (Blk (w.alloc (.cells #[.slice sa sl sc, .slice ea el ec] 31)) w.heap.size 31 [.slice sa sl sc, .slice ea el ec]) := Lib.hid (Blk.new w 31 _)
      clear hE hel hc hn hhas hb
      go_enter Try.func22, Try.ntmps22
      have p0 : (w.alloc (.cells #[.slice sa sl sc, .slice ea el ec] 31)).cell? ⟨w.heap.size, 0, none⟩ = some (.slice sa sl sc) := HP0.out.cell 0
      have p1 : (w.alloc (.cells #[.slice sa sl sc, .slice ea el ec] 31)).cell? ⟨w.heap.size, 1, none⟩ = some (.slice ea el ec) := HP0.out.cell 1
      go_wp2_with fail
      clear p0 p1
      refine (HCK.out _ (HE.out.below HB0.out)).mono ?_
      rintro e V1 ⟨rfl, hB⟩
      have HP1 := Lib.hid (HP0.out.below hB HP0.out.lt)
      have HB1 := Lib.hid (HB0.out.trans (hB.mono HB0.out.size))
      clear hB HP0 HB0 HCK
      have p0 : V1.cell? ⟨w.heap.size, 0, none⟩ = some (.slice sa sl sc) := HP1.out.cell 0
      have p1 : V1.cell? ⟨w.heap.size, 1, none⟩ = some (.slice ea el ec) := HP1.out.cell 1
      go_wp2_with fail
      clear p0 p1
      refine (HHA.out _).mono ?_
      rintro e V2 ⟨rfl, hB⟩
      have HB2 := Lib.hid (HB1.out.trans (hB.mono HB1.out.size))
      clear hB HP1 HB1 HHA
      go_wp2
      go_ret
      exact HFIN.out _ HB2.out
  · have hb : reaB sl es node = false := decide_eq_false (fun h => hc h.1)
    have HFIN : Hid (∀ W, Below w.heap.size w W → RePost sl es node amt w (.returned (.slice none 0 0)) W) := Lib.hid (fun W hB => ⟨none, 0, [], rfl, by unfold ReachL; rw [hb, if_neg (by decide)], .inl rfl, hB⟩)
    have HE := Lib.hid hE
    have HCK := Lib.hid (fun W (h : EdgeRow W ea es) => check_any sa sl sc ea el ec es W h hel (by omega) (by omega))
    obtain ⟨ck, hck⟩ : ∃ ck, checkE sl es = ck := ⟨_, rfl⟩
    rw [hck] at HCK hc
    have HB0 : Hid (Below w.heap.size w (w.alloc (.cells #[.slice sa sl sc, .slice ea el ec] 31))) := Lib.hid ((Below.refl _ _).alloc (Nat.le_refl _) _)
    have HP0 : Hid (Blk (w.alloc (.cells #[.slice sa sl sc, .slice ea el ec] 31)) w.heap.size 31 [.slice sa sl sc, .slice ea el ec]) := Lib.hid (Blk.new w 31 _)
    clear hE hel hck hb
    go_enter Try.func22, Try.ntmps22
    have p0 : (w.alloc (.cells #[.slice sa sl sc, .slice ea el ec] 31)).cell? ⟨w.heap.size, 0, none⟩ = some (.slice sa sl sc) := HP0.out.cell 0
    have p1 : (w.alloc (.cells #[.slice sa sl sc, .slice ea el ec] 31)).cell? ⟨w.heap.size, 1, none⟩ = some (.slice ea el ec) := HP0.out.cell 1
    go_wp2_with fail
    clear p0 p1
    refine (HCK.out _ (HE.out.below HB0.out)).mono ?_
    rintro e V1 ⟨rfl, hB⟩
    have HB1 := Lib.hid (HB0.out.trans (hB.mono HB0.out.size))
    clear hB HP0 HB0 HCK
    go_wp2
    go_ret
    exact HFIN.out _ HB1.out
end Go.Proofs.Ytnnimjaigciedaa
