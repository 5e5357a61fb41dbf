/-
  A slice of things that came in, as a list; what the statements' fits (function 14) answers: whether they are not too many.
-/
import Derived.Test.YtneacogenjlhgaaRefLaid
namespace Go.Proofs.Ytneacogenjlhgaa
open Go.RowKit
set_option linter.unusedVariables false

/-- A slice of things. -/
def Items (w : World) (A : Option Addr) (l : List It) : Prop :=
  (l = [] ∨ ∃ b off, A = some ⟨b, off, none⟩ ∧ b < w.heap.size ∧ ∀ i, i < l.length → w.rangeAt b (off + i * 36) (l.getD i default).cells) ∧ ∀ x ∈ l, x.Ok w

/-- Not too many, and no blob too long. -/
def fitsB (l : List It) : Bool := l.all (fun x => decide (x.n ≤ 4096)) && decide (l.length ≤ 40)

theorem it_mem (l : List It) (k : Nat) (x : It) (hk : k < l.length) (hx : l.getD k default = x) : x ∈ l := by
  rw [← hx]
  simp [List.getD, hk]

theorem it_take (l : List It) (k : Nat) (x : It) (hk : k < l.length) (hx : l.getD k default = x) : l.take (k + 1) = l.take k ++ [x] := by
  have e : l[k] = x := by rw [← hx]; simp [List.getD, hk]
  rw [List.take_succ_eq_append_getElem hk, e]

theorem info31 : (Try.prog.info? 31).map (·.size) = some 36 := by kernel_rfl

/-- A thing that is zero. -/
def zit : Array Value := #[.int .i64 0, .int .u64 0, .int .u8 0, .int .u8 0, .int .u8 0, .int .u8 0, .int .u8 0, .int .u8 0, .int .u8 0, .int .u8 0, .int .u8 0, .int .u8 0, .int .u8 0, .int .u8 0, .int .u8 0, .int .u8 0, .int .u8 0, .int .u8 0, .int .u8 0, .int .u8 0, .int .u8 0, .int .u8 0, .int .u8 0, .int .u8 0, .int .u8 0, .int .u8 0, .int .u8 0, .int .u8 0, .int .u8 0, .int .u8 0, .int .u8 0, .int .u8 0, .int .u8 0, .int .u8 0, .slice none 0 0, .int .i64 0]

theorem It.oneCells (x : It) : x.cells.toArray.all (·.oneCell') = true := all_oneCell_toArray (by
  intro v hv
  simp only [It.cells, List.mem_cons, List.mem_append, List.not_mem_nil, or_false] at hv
  rcases hv with rfl | rfl | hv | rfl | rfl
  · rfl
  · rfl
  · obtain ⟨n, _, rfl⟩ := List.mem_map.1 hv; rfl
  · rfl
  · rfl)

theorem Held.range (w : World) (x : It) : (w.alloc (.cells x.cells.toArray 31)).rangeAt w.heap.size 0 x.cells := fun j v hv => by
  rw [Nat.zero_add, World.cell?_alloc_at _ _ _ _ rfl]
  simpa using hv

set_option maxRecDepth 100000 in
set_option maxHeartbeats 2000000 in
theorem fits_any (A : Option Addr) (cap len : Nat) (l : List It) (w : World) (hI : Items w A l) (hl : l.length = len) (hm : len ≤ 140737488355328) :
    Calls Try.prog 14 #[.slice A len cap] w fun e w' => e = .returned (.bool (fitsB l)) ∧ Below w.heap.size w w' := by
  have HI := Lib.hid hI
  have HL := Lib.hid hl
  clear hI hl
  go_enter Try.func14, Try.ntmps14
  go_wp2_with fail
  go_loopw [7, 4] (fun i _ wr => ∃ (k : Nat), k ≤ len ∧ i = .int .i64 k ∧ Hid ((l.take k).all (fun x => decide (x.n ≤ 4096)) = true) ∧ Hid (Below w.heap.size w wr)) (fun i _ _ => len - (intOf i).toNat)
  case atStart => exact ⟨0, Nat.zero_le _, rfl, Lib.hid (by simp), Lib.hid (Below.refl _ _)⟩
  case round =>
    obtain ⟨k, hk, rfl, HT, HB⟩ := hrel
    by_cases hlt : k < len
    · have hkn : k < l.length := by rw [HL.out]; exact hlt
      rcases HI.out.1 with h0 | ⟨b, off, rfl, hb, hc⟩
      · exfalso
        rw [h0] at hkn
        simp at hkn
      · obtain ⟨x, hx⟩ : ∃ x, l.getD k default = x := ⟨_, rfl⟩
        have hrange := hc k hkn
        rw [hx] at hrange
        have HRG := Lib.hid (rangeAt_below hrange HB.out hb)
        have hok := HI.out.2 x (it_mem l k x hkn hx)
        have HTK := Lib.hid (it_take l k x hkn hx)
        have hbl : x.cells.length = 36 := x.size hok.d
        have HBS : Hid ((Try.prog.info? 31).map (·.size) = some x.cells.length) := Lib.hid (by rw [hbl]; exact info31)
        have HST : Hid ((Try.prog.info? 31).map (·.size) = some x.cells.toArray.size) := Lib.hid (by rw [List.size_toArray, hbl]; exact info31)
        have hz36 : zit.size = 36 := rfl
        have HSZ : Hid (zit.size = x.cells.toArray.size) := Lib.hid (by rw [hz36, List.size_toArray, hbl])
        have HAL : Hid (x.cells.toArray.all (·.oneCell') = true) := Lib.hid x.oneCells
        have HLA := Lib.hid (heap_alloc_last wr (.cells zit 31))
        have hp := (Held.new wr x hok.d).p
        have HOK := Lib.hid hok
        have HBN := Lib.hid (HB.out.alloc HB.out.size (.cells x.cells.toArray 31))
        have hbr : b < wr.heap.size := Nat.lt_of_lt_of_le hb HB.out.size
        have HMM := Lib.hid (it_mem l k x hkn hx)
        clear hc hx hrange hok hbl hz36
        unfold zit at HSZ HLA
        by_cases hn : x.n ≤ 4096
        · have hn' : (x.n : Int) ≤ 4096 := by omega
          go_wp2_with (first | (refine wpList_load_mid rfl 31 (.tmp 9) rfl b (off + k * 36) rfl x.cells _ HRG.out Try.underlying31 rfl HBS.out ?_) | (refine wpList_store_row rfl 31 (.tmp 4) (.tmp 10) rfl wr.heap.size x.cells.toArray rfl rfl 31 _ HLA.out HST.out HSZ.out HAL.out ?_; rw [World.setRow_alloc_new]))
          refine ⟨⟨k + 1, by omega, by go_num, Lib.hid ?_, HBN⟩, by simp [intOf]; omega⟩
          rw [HTK.out, List.all_append, HT.out]
          simp [hn]
        · have hn' : (4096 : Int) < x.n := by omega
          go_wp2_with (first | (refine wpList_load_mid rfl 31 (.tmp 9) rfl b (off + k * 36) rfl x.cells _ HRG.out Try.underlying31 rfl HBS.out ?_) | (refine wpList_store_row rfl 31 (.tmp 4) (.tmp 10) rfl wr.heap.size x.cells.toArray rfl rfl 31 _ HLA.out HST.out HSZ.out HAL.out ?_; rw [World.setRow_alloc_new]))
          have hf : fitsB l = false := by
            have : l.all (fun x => decide (x.n ≤ 4096)) = false := by
              rw [List.all_eq_false]
              exact ⟨x, HMM.out, by simp; omega⟩
            simp [fitsB, this]
          rw [hf]
          go_ret
          exact ⟨rfl, HBN.out⟩
    · have htk : l.take k = l := List.take_of_length_le (by rw [HL.out]; omega)
      rw [htk] at HT
      have hf : fitsB l = decide ((len : Int) ≤ 40) := by
        have h1 := HT.out
        have h2 := HL.out
        unfold fitsB
        rw [h1, h2, Bool.true_and]
        by_cases h : len ≤ 40
        · rw [decide_eq_true h, decide_eq_true (by omega)]
        · rw [decide_eq_false h, decide_eq_false (by omega)]
      have HF := Lib.hid hf
      clear hf htk HT
      go_wp2
      go_ret
      exact ⟨by rw [HF.out]; simp, HB.out⟩
end Go.Proofs.Ytneacogenjlhgaa
