/-
  (*Mill).Write, mill.New, mill.Of, and a nil mill: the sum of parts is that of all their bytes, one behind the other; nothing that was there is written but the mill itself.
-/
import Derived.Test.YtbdjlnejlkiijaaDoorRRRSum
namespace Go.Proofs.YtbdjlnejlkiijaaDoorRRR
open Go.RowKit
set_option linter.unusedVariables false

/-- Some parts that are read, outside block b. -/
structure Parts (w : World) (b : Nat) (A : Option Addr) (ps : List (List Nat)) : Prop where
  at_ : ps = [] ∨ ∃ g off, A = some ⟨g, off, none⟩ ∧ g < w.heap.size ∧ g ≠ b ∧ ∀ i, i < ps.length → ∃ Ai ci, w.cell? ⟨g, off + i, none⟩ = some (.slice Ai (ps.getD i []).length ci) ∧ ci ≤ 9223372036854775807 ∧ Src w b Ai ci (ps.getD i [])

theorem Parts.grown {w w' : World} {b : Nat} {A : Option Addr} {ps : List (List Nat)} (h : Parts w b A ps) (hg : w.grownBy w' (some b)) : Parts w' b A ps := by
  refine ⟨?_⟩
  rcases h.at_ with h1 | ⟨g, off, h1, h2, h3, h4⟩
  · exact .inl h1
  · refine .inr ⟨g, off, h1, Nat.lt_of_lt_of_le h2 hg.size, h3, fun i hi => ?_⟩
    obtain ⟨Ai, ci, h5, h6, h7⟩ := h4 i hi
    refine ⟨Ai, ci, ?_, h6, h7.grown hg⟩
    rw [← h5]
    exact World.cell?_of_block (hg.block g h2 (fun e => h3 (by injection e)))
theorem Parts.below {w w' : World} {b : Nat} {A : Option Addr} {ps : List (List Nat)} (h : Parts w b A ps) (hB : Below w.heap.size w w') : Parts w' b A ps := by
  refine ⟨?_⟩
  rcases h.at_ with h1 | ⟨g, off, h1, h2, h3, h4⟩
  · exact .inl h1
  · refine .inr ⟨g, off, h1, Nat.lt_of_lt_of_le h2 hB.size, h3, fun i hi => ?_⟩
    obtain ⟨Ai, ci, h5, h6, h7⟩ := h4 i hi
    refine ⟨Ai, ci, ?_, h6, h7.below hB⟩
    rw [← h5]
    exact hB.cell (p := ⟨g, off + i, none⟩) h2
theorem Src.new {w : World} {b b' : Nat} {A : Option Addr} {c : Nat} {l : List Nat} (h : Src w b A c l) (hb : w.heap.size ≤ b') : Src w b' A c l := by
  refine ⟨h.le, ?_, h.lt⟩
  rcases h.at_ with h1 | ⟨g, off, h1, h2, h3, h4⟩
  · exact .inl h1
  · exact .inr ⟨g, off, h1, h2, by omega, h4⟩
theorem Parts.new {w : World} {b b' : Nat} {A : Option Addr} {ps : List (List Nat)} (h : Parts w b A ps) (hb : w.heap.size ≤ b') : Parts w b' A ps := by
  refine ⟨?_⟩
  rcases h.at_ with h1 | ⟨g, off, h1, h2, h3, h4⟩
  · exact .inl h1
  · refine .inr ⟨g, off, h1, h2, by omega, fun i hi => ?_⟩
    obtain ⟨Ai, ci, h5, h6, h7⟩ := h4 i hi
    exact ⟨Ai, ci, h5, h6, h7.new hb⟩

theorem flatten_take (ps : List (List Nat)) (k : Nat) (hk : k < ps.length) : (ps.take (k + 1)).flatten = (ps.take k).flatten ++ ps.getD k [] := by
  rw [List.take_succ_eq_append_getElem hk, List.flatten_append]
  simp [List.getD, hk]
theorem flatten_le (ps : List (List Nat)) (k : Nat) (hk : k < ps.length) : (ps.take k).flatten.length + (ps.getD k []).length ≤ ps.flatten.length := by
  have h : ps.flatten = (ps.take (k + 1)).flatten ++ (ps.drop (k + 1)).flatten := by rw [← List.flatten_append, List.take_append_drop]
  rw [h, flatten_take ps k hk]
  simp

set_option maxRecDepth 100000 in
set_option maxHeartbeats 4000000 in
theorem write_any (b m c : Nat) (A : Option Addr) (l bs : List Nat) (ps : List (List Nat)) (w : World) (HR : Hid (Rep w b l bs)) (HT : Hid (Tab w)) (hb : b ≠ 0) (HP : Hid (Parts w b A ps)) (HM : Hid (ps.length = m)) (hm : m ≤ 9223372036854775807) (HN : Hid (l.length + ps.flatten.length ≤ 1000000000000)) :
    Calls Tryd.prog 49 #[.pointer (some ⟨b, 0, none⟩), .slice A m c] w (Took w b (l ++ ps.flatten)) := by
  go_enter Tryd.func49, Tryd.ntmps49
  go_wp2_with fail
  go_loopw [10, 5] (fun i _ wr => ∃ (k : Nat) (bs' : List Nat), k ≤ m ∧ i = .int .i64 k ∧ Hid (Rep wr b (l ++ (ps.take k).flatten) bs') ∧ Hid (w.grownBy wr (some b))) (fun i _ _ => m - (intOf i).toNat)
  case atStart => exact ⟨0, bs, Nat.zero_le _, rfl, Lib.hid (by simpa using HR.out), Lib.hid (only_refl _ _)⟩
  case round =>
    obtain ⟨k, bs', hk, rfl, HR', HG⟩ := hrel
    by_cases hlt : k < m
    · have hkp : k < ps.length := by rw [HM.out]; exact hlt
      rcases (HP.out.grown HG.out).at_ with h0 | ⟨g, off, rfl, hg, hgb, hc⟩
      · rw [h0] at hkp
        simp at hkp
      obtain ⟨Ai, ci, hcell, hci, hsrc⟩ := hc k hkp
      obtain ⟨x, hx⟩ : ∃ x, ps.getD k [] = x := ⟨_, rfl⟩
      obtain ⟨n, hn⟩ : ∃ n, x.length = n := ⟨_, rfl⟩
      rw [hx, hn] at hcell
      rw [hx] at hsrc
      have HS := Lib.hid hsrc
      have HTK : Hid ((ps.take (k + 1)).flatten = (ps.take k).flatten ++ x) := Lib.hid (by rw [flatten_take ps k hkp, hx])
      have HLN : Hid ((l ++ (ps.take k).flatten).length + x.length ≤ 1000000000000) := Lib.hid (by have h1 := flatten_le ps k hkp; rw [hx] at h1; have h2 := HN.out; rw [List.length_append]; omega)
      have HX := Lib.hid hn
      clear hc hsrc hx hn hkp
      go_wp2_with fail
      refine (take_any b ci Ai _ bs' x wr HR' (Lib.hid (HT.out.grown HG.out hb)) hb HS HLN hci n HX).mono ?_
      rintro e w4 ⟨rfl, ⟨bs4, hr4⟩, hg4⟩
      rw [List.append_assoc, ← HTK.out] at hr4
      have HR4 := Lib.hid hr4
      have HG4 := Lib.hid (only_trans HG.out hg4)
      clear hr4 hg4 hcell
      go_wp2
      go_roundw
      case rel => exact ⟨k + 1, bs4, by omega, by go_num, HR4, HG4⟩
      case measure => simp [intOf]; omega
    · have htk : ps.take k = ps := List.take_of_length_le (by rw [HM.out]; omega)
      rw [htk] at HR'
      clear htk
      go_wp2
      go_end0
      exact ⟨rfl, ⟨bs', HR'.out⟩, HG.out⟩

theorem write_nil (v : Value) (w : World) : Calls Tryd.prog 49 #[.pointer none, v] w fun e w' => e = .returned (.tuple #[]) ∧ w = w' := by
  go_enter Tryd.func49, Tryd.ntmps49
  go_wp2
  exact bodyPost_ret (v := .tuple #[]) (by simp [results, Tryd.results49, go_sem]) rfl ⟨rfl, rfl⟩

theorem fresh_eq : ((((((((zmill.setIfInBounds 0 (Value.int IntKind.u32 1779033703)).setIfInBounds 1 (Value.int IntKind.u32 3144134277)).setIfInBounds 2 (Value.int IntKind.u32 1013904242)).setIfInBounds 3 (Value.int IntKind.u32 2773480762)).setIfInBounds 4 (Value.int IntKind.u32 1359893119)).setIfInBounds 5 (Value.int IntKind.u32 2600822924)).setIfInBounds 6 (Value.int IntKind.u32 528734635)).setIfInBounds 7 (Value.int IntKind.u32 1541459225)) = (millCells firsts (List.replicate 64 0) 0).toArray := by kernel_rfl

theorem rep_new (w : World) : Rep (w.alloc (.cells (millCells firsts (List.replicate 64 0) 0).toArray 143)) w.heap.size [] (List.replicate 64 0) :=
  ⟨Blk.new w 143 _, by simp, by simp, by simp⟩

set_option maxRecDepth 100000 in
theorem new_any (w : World) : Calls Tryd.prog 48 #[] w fun e w' => e = .returned (.pointer (some ⟨w.heap.size, 0, none⟩)) ∧ Rep w' w.heap.size [] (List.replicate 64 0) ∧ Below w.heap.size w w' := by
  have hz65 := zero65
  have hzs : ¬ zmill.size < 8 := by have hz : zmill.size = 73 := rfl; rw [hz]; omega
  have HR := Lib.hid (rep_new w)
  go_enter Tryd.func48, Tryd.ntmps48
  go_wp2
  go_ret
  rw [fresh_eq]
  exact ⟨rfl, HR.out, (Below.refl _ _).alloc (Nat.le_refl _) _⟩

/-- A sum of nothing at all. -/
def noSum : List Nat := List.replicate 32 0

set_option maxRecDepth 100000 in
set_option maxHeartbeats 2000000 in
theorem sum_nil (w : World) : Calls Tryd.prog 51 #[.pointer none] w fun e w' => e = .returned (.agg (w8 noSum).toArray) ∧ Below w.heap.size w w' := by
  go_enter Tryd.func51, Tryd.ntmps51
  go_upto_region 3 with fail
  have H0 : Hid (Blk ((w.alloc (.cells #[.int .u8 0, .int .u8 0, .int .u8 0, .int .u8 0, .int .u8 0, .int .u8 0, .int .u8 0, .int .u8 0, .int .u8 0, .int .u8 0, .int .u8 0, .int .u8 0, .int .u8 0, .int .u8 0, .int .u8 0, .int .u8 0, .int .u8 0, .int .u8 0, .int .u8 0, .int .u8 0, .int .u8 0, .int .u8 0, .int .u8 0, .int .u8 0, .int .u8 0, .int .u8 0, .int .u8 0, .int .u8 0, .int .u8 0, .int .u8 0, .int .u8 0, .int .u8 0] 52)).alloc (.cells #[.int .u8 0, .int .u8 0, .int .u8 0, .int .u8 0, .int .u8 0, .int .u8 0, .int .u8 0, .int .u8 0, .int .u8 0, .int .u8 0, .int .u8 0, .int .u8 0, .int .u8 0, .int .u8 0, .int .u8 0, .int .u8 0, .int .u8 0, .int .u8 0, .int .u8 0, .int .u8 0, .int .u8 0, .int .u8 0, .int .u8 0, .int .u8 0, .int .u8 0, .int .u8 0, .int .u8 0, .int .u8 0, .int .u8 0, .int .u8 0, .int .u8 0, .int .u8 0] 52)) w.heap.size 52 (w8 noSum)) := Lib.hid (by
    have h := (Blk.new w 52 (w8 (List.replicate 32 0))).alloc (.cells (w8 (List.replicate 32 0)).toArray 52)
    rw [zsum_eq] at h
    exact h)
  have H1 : Hid (Blk ((w.alloc (.cells #[.int .u8 0, .int .u8 0, .int .u8 0, .int .u8 0, .int .u8 0, .int .u8 0, .int .u8 0, .int .u8 0, .int .u8 0, .int .u8 0, .int .u8 0, .int .u8 0, .int .u8 0, .int .u8 0, .int .u8 0, .int .u8 0, .int .u8 0, .int .u8 0, .int .u8 0, .int .u8 0, .int .u8 0, .int .u8 0, .int .u8 0, .int .u8 0, .int .u8 0, .int .u8 0, .int .u8 0, .int .u8 0, .int .u8 0, .int .u8 0, .int .u8 0, .int .u8 0] 52)).alloc (.cells #[.int .u8 0, .int .u8 0, .int .u8 0, .int .u8 0, .int .u8 0, .int .u8 0, .int .u8 0, .int .u8 0, .int .u8 0, .int .u8 0, .int .u8 0, .int .u8 0, .int .u8 0, .int .u8 0, .int .u8 0, .int .u8 0, .int .u8 0, .int .u8 0, .int .u8 0, .int .u8 0, .int .u8 0, .int .u8 0, .int .u8 0, .int .u8 0, .int .u8 0, .int .u8 0, .int .u8 0, .int .u8 0, .int .u8 0, .int .u8 0, .int .u8 0, .int .u8 0] 52)) (w.heap.size + 1) 52 (w8 noSum)) := Lib.hid (by
    have h := Blk.new (w.alloc (.cells (w8 (List.replicate 32 0)).toArray 52)) 52 (w8 (List.replicate 32 0))
    rw [zsum_eq, World.size_alloc] at h
    exact h)
  have H2 : Hid (Below w.heap.size w ((w.alloc (.cells #[.int .u8 0, .int .u8 0, .int .u8 0, .int .u8 0, .int .u8 0, .int .u8 0, .int .u8 0, .int .u8 0, .int .u8 0, .int .u8 0, .int .u8 0, .int .u8 0, .int .u8 0, .int .u8 0, .int .u8 0, .int .u8 0, .int .u8 0, .int .u8 0, .int .u8 0, .int .u8 0, .int .u8 0, .int .u8 0, .int .u8 0, .int .u8 0, .int .u8 0, .int .u8 0, .int .u8 0, .int .u8 0, .int .u8 0, .int .u8 0, .int .u8 0, .int .u8 0] 52)).alloc (.cells #[.int .u8 0, .int .u8 0, .int .u8 0, .int .u8 0, .int .u8 0, .int .u8 0, .int .u8 0, .int .u8 0, .int .u8 0, .int .u8 0, .int .u8 0, .int .u8 0, .int .u8 0, .int .u8 0, .int .u8 0, .int .u8 0, .int .u8 0, .int .u8 0, .int .u8 0, .int .u8 0, .int .u8 0, .int .u8 0, .int .u8 0, .int .u8 0, .int .u8 0, .int .u8 0, .int .u8 0, .int .u8 0, .int .u8 0, .int .u8 0, .int .u8 0, .int .u8 0] 52))) := Lib.hid (((Below.refl _ _).alloc (Nat.le_refl _) _).alloc (by simp) _)
  generalize (w.alloc (.cells #[.int .u8 0, .int .u8 0, .int .u8 0, .int .u8 0, .int .u8 0, .int .u8 0, .int .u8 0, .int .u8 0, .int .u8 0, .int .u8 0, .int .u8 0, .int .u8 0, .int .u8 0, .int .u8 0, .int .u8 0, .int .u8 0, .int .u8 0, .int .u8 0, .int .u8 0, .int .u8 0, .int .u8 0, .int .u8 0, .int .u8 0, .int .u8 0, .int .u8 0, .int .u8 0, .int .u8 0, .int .u8 0, .int .u8 0, .int .u8 0, .int .u8 0, .int .u8 0] 52)).alloc (.cells #[.int .u8 0, .int .u8 0, .int .u8 0, .int .u8 0, .int .u8 0, .int .u8 0, .int .u8 0, .int .u8 0, .int .u8 0, .int .u8 0, .int .u8 0, .int .u8 0, .int .u8 0, .int .u8 0, .int .u8 0, .int .u8 0, .int .u8 0, .int .u8 0, .int .u8 0, .int .u8 0, .int .u8 0, .int .u8 0, .int .u8 0, .int .u8 0, .int .u8 0, .int .u8 0, .int .u8 0, .int .u8 0, .int .u8 0, .int .u8 0, .int .u8 0, .int .u8 0] 52) = V at H0 H1 H2 ⊢
  have HR := Lib.hid H1.out.all
  have HS5 : Hid ((Tryd.prog.info? 52).map (·.size) = some (w8 noSum).length) := Lib.hid info25
  have HS6 : Hid ((Tryd.prog.info? 52).map (·.size) = some (w8 noSum).toArray.size) := Lib.hid info25
  have HO6 := Lib.hid (all_oneCell_toArray (w8_one noSum))
  go_wp2_with (first | (refine wpList_load_mid rfl 52 (.tmp 3) rfl (w.heap.size + 1) 0 rfl (w8 noSum) _ HR.out Tryd.underlying52 rfl HS5.out ?_) | (refine wpList_store_row rfl 52 (.tmp 2) (.tmp 10) rfl w.heap.size (w8 noSum).toArray rfl rfl 52 _ H0.out HS6.out rfl HO6.out ?_))
  exact bodyPost_ret (v := .agg (w8 noSum).toArray) (results_cell_row Tryd.results51 _ _ w.heap.size 52 (w8 noSum).toArray (0, 0) _ rfl (H0.out.setRow _) Tryd.underlying52 rfl HS6.out) rfl ⟨rfl, below_setRow H2.out (Nat.le_refl _) _⟩

end Go.Proofs.YtbdjlnejlkiijaaDoorRRR
