/-
  What an Out's Sum answers (function 32), for whatever bytes the call itself made and whatever sums come: its bytes, and the sums' 32 bytes each behind them; of other memory nothing that was there is written.
-/
import Derived.Test.YtbdjlnejlkiijaaDoorRRROctNil
import Derived.Deep.MidRow
namespace Go.Proofs.YtbdjlnejlkiijaaDoorRRR.Oct
open Go.RowKit
set_option linter.unusedVariables false

/-- A slice of sums (32 bytes each), read as a list of lists. -/
def Digs (w : World) (A : Option Addr) (ds : List (List Int)) : Prop :=
  (ds = [] ∨ ∃ b off, A = some ⟨b, off, none⟩ ∧ b < w.heap.size ∧ ∀ i, i < ds.length → w.rangeAt b (off + i * 32) (byt (ds.getD i []))) ∧ ∀ d ∈ ds, d.length = 32

theorem rangeAt_below {w w' : World} {b o : Nat} {cs : List Value} {B : Nat} (h : w.rangeAt b o cs) (hB : Below B w w') (hb : b < B) : w'.rangeAt b o cs := fun j v hv => by
  rw [hB.cell (p := ⟨b, o + j, none⟩) hb]
  exact h j v hv

theorem Digs.below {w w' : World} {A : Option Addr} {ds : List (List Int)} (h : Digs w A ds) (hB : Below w.heap.size w w') : Digs w' A ds := by
  refine ⟨?_, h.2⟩
  rcases h.1 with h1 | ⟨b, off, h1, h2, h3⟩
  · exact .inl h1
  · exact .inr ⟨b, off, h1, Nat.lt_of_lt_of_le h2 hB.size, fun i hi => rangeAt_below (h3 i hi) hB h2⟩

/-- The sums' bytes. -/
def digs (ds : List (List Int)) : List Int := ds.flatMap id

theorem digs_length (ds : List (List Int)) (h : ∀ d ∈ ds, d.length = 32) : (digs ds).length = 32 * ds.length := by
  induction ds with
  | nil => rfl
  | cons d r ih =>
    have h1 := ih fun d hd => h d (by simp [hd])
    have h2 := h d (by simp)
    simp [digs] at h1 ⊢
    omega

theorem digs_take (ds : List (List Int)) (k : Nat) (x : List Int) (hk : k < ds.length) (hx : ds.getD k [] = x) : digs (ds.take k) ++ x = digs (ds.take (k + 1)) := by
  have e : ds[k] = x := by rw [← hx]; simp [List.getD, hk]
  rw [List.take_succ_eq_append_getElem hk, e]
  simp [digs]

theorem dig_mem (ds : List (List Int)) (k : Nat) (x : List Int) (hk : k < ds.length) (hx : ds.getD k [] = x) : x ∈ ds := by
  rw [← hx]
  simp [List.getD, hk]

theorem Src.row (w : World) (t : TypeId) (l : List Int) : Src (w.alloc (.cells (byt l).toArray t)) (some ⟨w.heap.size, 0, none⟩) 32 l := by
  refine ⟨fun h => (by cases h), .inr ⟨w.heap.size, 0, rfl, by simp, fun i hi => ?_⟩⟩
  rw [Nat.zero_add, World.cell?_alloc_at _ _ _ _ rfl]
  simp [byt, List.getD, hi]

theorem info42 : (Tryd.prog.info? 52).map (·.size) = some 32 := by kernel_rfl

set_option maxRecDepth 100000 in
set_option maxHeartbeats 2000000 in
theorem outsum_any (v : Value) (A : Option Addr) (cap base : Nat) (xs : List Int) (ds : List (List Int)) (w : World) (hO : Own w base v xs) (hR : Digs w A ds) (hl : xs.length + 32 * ds.length ≤ 140737488355320) (hbase : base ≤ w.heap.size) :
    Calls Tryd.prog 47 #[v, .slice A ds.length cap] w (Laid w base v (xs ++ digs ds)) := by
  have HO := Lib.hid hO
  have HX := Lib.hid hl
  obtain ⟨len, hlen⟩ : ∃ n, ds.length = n := ⟨_, rfl⟩
  rw [hlen] at hl ⊢
  have hl2 : len ≤ 4398046511103 := by omega
  have HL := Lib.hid hlen
  have HR := Lib.hid hR
  clear hO hlen hR hl
  go_enter Tryd.func47, Tryd.ntmps47
  go_wp2_with fail
  go_loopw [5, 10, 7] (fun t i _ wr => ∃ (k : Nat), k ≤ len ∧ i = .int .i64 k ∧ Hid (Own wr w.heap.size t (digs (ds.take k))) ∧ Hid (Below w.heap.size w wr)) (fun _ i _ _ => len - (intOf i).toNat)
  case atStart => exact ⟨0, Nat.zero_le _, rfl, Lib.hid (Own.nil _ _), Lib.hid (Below.refl _ _)⟩
  case round =>
    obtain ⟨k, hk, rfl, HT, HB⟩ := hrel
    by_cases hlt : k < len
    · rcases HR.out.1 with h0 | ⟨b, off, rfl, hb, hc⟩
      · exfalso
        have := HL.out
        rw [h0] at this
        simp at this
        omega
      · have hkn : k < ds.length := by rw [HL.out]; exact hlt
        obtain ⟨x, hx⟩ : ∃ x, ds.getD k [] = x := ⟨_, rfl⟩
        have hrange := hc k hkn
        rw [hx] at hrange
        have HRG := Lib.hid (rangeAt_below hrange HB.out hb)
        have hx32 : x.length = 32 := HR.out.2 x (dig_mem ds k x hkn hx)
        have HTK := Lib.hid (digs_take ds k x hkn hx)
        have hbl : (byt x).length = 32 := by simp [byt, hx32]
        have HBS : Hid ((Tryd.prog.info? 52).map (·.size) = some (byt x).length) := Lib.hid (by rw [hbl]; exact info42)
        have HST : Hid ((Tryd.prog.info? 52).map (·.size) = some (byt x).toArray.size) := Lib.hid (by rw [List.size_toArray, hbl]; exact info42)
        have hbt : (byt x).toArray.size = 32 := by rw [List.size_toArray, hbl]
        have hsz : zeros.size = 32 := by simp [zeros]
        have HSZ : Hid ((#[.int .u8 0, .int .u8 0, .int .u8 0, .int .u8 0, .int .u8 0, .int .u8 0, .int .u8 0, .int .u8 0, .int .u8 0, .int .u8 0, .int .u8 0, .int .u8 0, .int .u8 0, .int .u8 0, .int .u8 0, .int .u8 0, .int .u8 0, .int .u8 0, .int .u8 0, .int .u8 0, .int .u8 0, .int .u8 0, .int .u8 0, .int .u8 0, .int .u8 0, .int .u8 0, .int .u8 0, .int .u8 0, .int .u8 0, .int .u8 0, .int .u8 0, .int .u8 0] : Array Value).size = (byt x).toArray.size) := Lib.hid (hsz.trans hbt.symm)
        have HAL : Hid ((byt x).toArray.all (·.oneCell') = true) := Lib.hid (all_oneCell_toArray (by intro v hv; obtain ⟨n, _, rfl⟩ := List.mem_map.1 hv; rfl))
        have HLA := Lib.hid (heap_alloc_last wr (.cells #[.int .u8 0, .int .u8 0, .int .u8 0, .int .u8 0, .int .u8 0, .int .u8 0, .int .u8 0, .int .u8 0, .int .u8 0, .int .u8 0, .int .u8 0, .int .u8 0, .int .u8 0, .int .u8 0, .int .u8 0, .int .u8 0, .int .u8 0, .int .u8 0, .int .u8 0, .int .u8 0, .int .u8 0, .int .u8 0, .int .u8 0, .int .u8 0, .int .u8 0, .int .u8 0, .int .u8 0, .int .u8 0, .int .u8 0, .int .u8 0, .int .u8 0, .int .u8 0] 52))
        have HSR : Hid (Src (wr.alloc (.cells (byt x).toArray 52)) (some ⟨wr.heap.size, 0, none⟩) 32 x) := Lib.hid (Src.row wr 52 x)
        have HLN : Hid ((digs (ds.take k)).length ≤ 32 * k) := Lib.hid (by rw [digs_length _ fun d hd => HR.out.2 d (List.mem_of_mem_take hd), List.length_take]; omega)
        clear hbl hbt hsz
        have hbr : b < wr.heap.size := Nat.lt_of_lt_of_le hb HB.out.size
        have HX32 := Lib.hid hx32
        clear hc hx hrange hx32
        go_wp2_with (first | (refine wpList_load_mid rfl 52 (.tmp 12) rfl b (off + k * 32) rfl (byt x) _ HRG.out Tryd.underlying52 rfl HBS.out ?_) | (refine wpList_store_row rfl 52 (.tmp 7) (.tmp 13) rfl wr.heap.size (byt x).toArray rfl rfl 52 _ HLA.out HST.out HSZ.out HAL.out ?_; rw [World.setRow_alloc_new]) | (at_builtin; refine wpList_app rfl (.tmp 14) (.tmp 15) 35 35 rfl Tryd.underlying35 Tryd.underlying35 w.heap.size _ (digs (ds.take k)) x rfl (HT.out.below ((Below.refl _ _).alloc (Nat.le_refl _) _)) (some ⟨wr.heap.size, 0, none⟩) 32 32 rfl HX32.out.symm HSR.out ?c1 ?c2 ?_))
        case c1 => have := HLN.out; rw [HX32.out]; have := HX.out; rw [HL.out] at this; omega
        case c2 => have := HB.out.size; simp; omega
        intro v' w1 hO' hg hL
        have hbb := (HB.out.alloc HB.out.size (.cells (byt x).toArray 52)).trans (grown_below hg (by have := HB.out.size; simp; omega) fun g hg => (World.ownsRow.lt HT.out g hg).1)
        have HB2 := Lib.hid hbb
        rw [HTK.out] at hO'
        have HT2 := Lib.hid hO'
        clear hO' hg hL hkn hbb
        go_wp2
        go_roundw
        case rel => exact ⟨k + 1, by omega, by go_num, HT2, HB2⟩
        case measure => simp [intOf]; omega
    · obtain rfl : k = len := by omega
      have htk : ds.take k = ds := List.take_of_length_le (by rw [HL.out]; exact Nat.le_refl _)
      rw [htk] at HT
      obtain ⟨A', c', hv, hS⟩ := HT.out.src
      subst hv
      have HS := Lib.hid hS
      have HLL := Lib.hid (digs_length ds HR.out.2)
      obtain ⟨m, hm⟩ : ∃ m, (digs ds).length = m := ⟨_, rfl⟩
      rw [hm]
      have HM := Lib.hid hm
      clear hS htk hm
      go_wp2_with (at_builtin; refine wpList_app rfl (.tmp 18) (.tmp 19) 36 35 rfl Tryd.underlying36 Tryd.underlying35 base v xs (digs ds) rfl (HO.out.below HB.out) A' m c' rfl HM.out.symm HS.out ?c1 ?c2 ?_)
      case c1 => rw [HLL.out]; have := HX.out; omega
      case c2 => exact Nat.le_trans hbase HB.out.size
      intro v' w1 hO' hg hL
      have HLD := Lib.hid (Laid.mk HB.out hO' hg hL)
      clear hO' hg hL
      go_wp2
      go_ret
      exact HLD.out
end Go.Proofs.YtbdjlnejlkiijaaDoorRRR.Oct
