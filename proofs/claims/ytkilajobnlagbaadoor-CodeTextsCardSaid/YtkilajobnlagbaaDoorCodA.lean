/-
  The kinds of orders (a table), and orderAt: the order at a place of a program.
-/
import Derived.Test.YtkilajobnlagbaaDoorKit
import Derived.Test.YtkilajobnlagbaaDoorNumOf
import Derived.Test.YtkilajobnlagbaaDoorMny
namespace Go.Proofs.YtkilajobnlagbaaDoor
open Go.RowKit
set_option linter.unusedVariables false

def fol (op : Nat) : Nat := [0, 8, 1, 0, 0, 0, 0, 0, 0, 0, 0, 2, 2, 0, 0, 0, 1, 0].getD op 0
def cst (op : Nat) : Nat := [1, 1, 1, 1, 1, 3, 1, 1, 1, 1, 1, 1, 1, 1, 1, 1, 10, 1].getD op 1
def tks (op : Nat) : Nat := [1, 0, 0, 2, 2, 2, 2, 2, 1, 2, 2, 0, 1, 1, 2, 1, 0, 0].getD op 0
def nmB (op : Nat) : List UInt8 := ([[104, 97, 108, 116], [112, 117, 115, 104], [108, 111, 97, 100], [97, 100, 100], [115, 117, 98], [109, 117, 108], [108, 101, 115, 115], [115, 97, 109, 101], [110, 111, 116], [98, 111, 116, 104], [97, 110, 121], [106, 117, 109, 112], [105, 102], [116, 119, 105, 99, 101], [115, 119, 97, 112], [100, 114, 111, 112], [112, 97, 105, 100], [110, 111, 119]] : List (List UInt8)).getD op []
def nm (op : Nat) : ByteArray := ⟨(nmB op).toArray⟩
def kcell (op : Nat) : List Value := [.string (nm op), .int .i64 (fol op : Int), .int .i64 (cst op : Int), .int .i64 (tks op : Int)]
/-- The table of kinds. -/
def KTab (w : World) : Prop := ∀ op, op < 18 → ∀ j v, (kcell op)[j]? = some v → w.cell? ⟨0, op * 4 + j, none⟩ = some v
theorem KTab.lt {w : World} (h : KTab w) : 0 < w.heap.size := World.block_lt_of_cell? w _ (h 0 (by omega) 0 _ rfl)
theorem KTab.below {w w' : World} {B : Nat} (h : KTab w) (hB : Below B w w') (hb : 0 < B) : KTab w' := fun op ho j v hv => (hB.cell (p := ⟨0, op * 4 + j, none⟩) hb).trans (h op ho j v hv)
theorem KTab.keep {w w' : World} (h : KTab w) (hB : Below w.heap.size w w') : KTab w' := h.below hB h.lt

theorem fol_le (op : Nat) : fol op ≤ 8 := by
  by_cases h : op < 18
  · have : ∀ op, op < 18 → fol op ≤ 8 := by decide
    exact this op h
  · unfold fol; simp [List.getD, show ¬ op < 18 by omega]

/-- A program's bytes. -/
structure Pg (w : World) (A : Option Addr) (n c : Nat) (l : List Int) : Prop where
  len : l.length = n
  le : n ≤ c
  cap : c ≤ 9223372036854775807
  bytes : ∀ b ∈ l, 0 ≤ b ∧ b < 256
  src : Oct.Src w A c l
theorem Pg.below {w w' : World} {A : Option Addr} {n c : Nat} {l : List Int} (h : Pg w A n c l) (hB : Below w.heap.size w w') : Pg w' A n c l := ⟨h.len, h.le, h.cap, h.bytes, h.src.below hB⟩
/-- A part of it. -/
theorem Pg.part {w : World} {g o n c : Nat} {l : List Int} (h : Pg w (some ⟨g, o, none⟩) n c l) (lo k : Nat) (hk : lo + k ≤ n) : Oct.Src w (some ⟨g, Oct.cutPlace o c lo, none⟩) (c - lo) ((l.drop lo).take k) := by
  have hl := h.len
  have hc := h.le
  refine ⟨fun h => (by cases h), ?_⟩
  rcases Nat.eq_zero_or_pos k with rfl | hk0
  · left; simp
  · right
    have hs := h.src.2
    rcases hs with hs | ⟨b, off, he, hlt, hs⟩
    · exfalso; rw [hs] at hl; simp at hl; omega
    · injection he with he
      injection he with h1 h2
      subst h1 h2
      refine ⟨g, _, rfl, hlt, fun i hi => ?_⟩
      have hi' : i < k := by simp at hi; omega
      rw [Oct.cutPlace, if_neg (by omega), Nat.add_assoc, hs (lo + i) (by omega)]
      simp [List.getD, hi', List.getElem?_drop]
theorem cutLH (g o L c lo hi : Nat) (h1 : lo ≤ hi) (h2 : hi ≤ c) (W : World) : (Instr.slice 22 (.slice (some ⟨g, o, none⟩) L c) (some (.int .i64 (lo : Int))) (some (.int .i64 (hi : Int))) none).run Tryd.prog W = .ok (.slice (some ⟨g, Oct.cutPlace o c lo, none⟩) (hi - lo) (c - lo)) W := by
  obtain ⟨i0, hi0, hz0, hz1, hz2⟩ := info_parts Oct.byte_info
  rw [run_slice_lh (P := Tryd.prog) W 22 _ L c (by kernel_rfl) .i64 .i64 (lo : Int) (hi : Int) (by omega) (by omega) (by omega), show Tryd.prog.elem 22 = 5 by kernel_rfl]
  by_cases e : c = lo <;> simp [sizeOf, typeInfo, hi0, hz1, sliced, Oct.cutPlace, e, Go.WideShapes.add_plain]

def opAt (l : List Int) (at_ : Nat) : Nat := (l.getD at_ 0).toNat
def ordE (l : List Int) (at_ : Nat) : Int := if l.length ≤ at_ then 9 else if 18 ≤ opAt l at_ then 33 else if l.length < at_ + 1 + fol (opAt l at_) then 9 else 0
def numAt (l : List Int) (at_ : Nat) : Int := Oct.numB ((l.drop (at_ + 1)).take (fol (opAt l at_))) 0
def ordCells (op : Nat) (num : Int) (behind : Nat) : List Value := [.int .i64 (op : Int), .string (nm op), .int .i64 (fol op : Int), .int .i64 (cst op : Int), .int .i64 (tks op : Int), .int .u64 num, .int .i64 (behind : Int)]
def ordZero : List Value := [.int .i64 0, .string ⟨#[]⟩, .int .i64 0, .int .i64 0, .int .i64 0, .int .u64 0, .int .i64 0]
def ordV (l : List Int) (at_ : Nat) : List Value := if ordE l at_ = 0 then ordCells (opAt l at_) (numAt l at_) (at_ + 1 + fol (opAt l at_)) else ordZero

theorem results_ct {fn : Func} {p u : Tmp} {ty : TypeId} (h : fn.results = #[.cell p ty, .tmp u]) (tmps : Array Value) (w : World) (g t : Nat) (cs : List Value) (d : TypeDesc) (hp : tmps.getD p undef = .pointer (some ⟨g, 0, none⟩)) (hB : Blk w g t cs)
    (hu : Tryd.prog.underlying ty = some d) (hd : d.isRow = true) (hi : (Tryd.prog.info? ty).map (·.size) = some cs.length) :
    (results fn tmps).run Tryd.prog w = .ok (.tuple #[.agg cs.toArray, tmps.getD u undef]) w := by
  rw [results_cell_tmp h, hp]
  simp [asAddr, Result.andThen, run_loadVar_mid w g 0 ty cs d hB.all hu hd hi]
theorem all_one {l : List Value} (h : ∀ v ∈ l, v.oneCell' = true) : l.toArray.all (·.oneCell') = true := Array.all_eq_true_iff_forall_mem.2 (by simpa using h)
theorem ordZero_one : ∀ v ∈ ordZero, v.oneCell' = true := by
  intro v hv
  simp only [ordZero, List.mem_cons, List.not_mem_nil, or_false] at hv
  rcases hv with rfl | rfl | rfl | rfl | rfl | rfl | rfl <;> rfl
theorem ord_one (op num : Int) (NM : ByteArray) (F C TK bh : Int) : ∀ v ∈ [Value.int .i64 op, .string NM, .int .i64 F, .int .i64 C, .int .i64 TK, .int .u64 num, .int .i64 bh], v.oneCell' = true := by
  intro v hv
  simp only [List.mem_cons, List.not_mem_nil, or_false] at hv
  rcases hv with rfl | rfl | rfl | rfl | rfl | rfl | rfl <;> rfl
theorem info58 : (Tryd.prog.info? 58).map (·.size) = some 7 := by kernel_rfl
theorem ordZero_bad (l : List Int) (at_ : Nat) (e : Int) (h : ordE l at_ = e) (hn : e ≠ 0) : ordV l at_ = ordZero := by
  unfold ordV
  rw [if_neg (by rw [h]; exact hn)]

set_option maxRecDepth 100000 in
set_option maxHeartbeats 4000000 in
theorem orderAt_any (A : Option Addr) (n c at_ : Nat) (l : List Int) (w : World) (HP : Hid (Pg w A n c l)) (HT : Hid (KTab w)) (ha : at_ ≤ 1000000000) :
    Calls Tryd.prog 20 #[.slice A n c, .int .i64 (at_ : Int)] w fun e w' => e = .returned (.tuple #[.agg (ordV l at_).toArray, .int .i64 (ordE l at_)]) ∧ Below w.heap.size w w' := by
  have hl := HP.out.len
  by_cases h1 : n ≤ at_
  · have he : ordE l at_ = 9 := by unfold ordE; rw [if_pos (by omega)]
    rw [he, ordZero_bad l at_ 9 he (by decide)]
    have HR : Blk (w.alloc (.cells ordZero.toArray 58)) w.heap.size 58 ordZero := Blk.new w 58 ordZero
    unfold ordZero at HR ⊢
    go_enter Tryd.func20, Tryd.ntmps20
    go_wp2
    exact bodyPost_ret (results_ct Tryd.results20 _ _ w.heap.size 58 _ _ rfl HR Tryd.underlying58 rfl info58) rfl ⟨rfl, (Below.refl _ _).alloc (Nat.le_refl _) _⟩
  · have hat : at_ < l.length := by omega
    obtain ⟨g, o, rfl, hg, hsrc⟩ : ∃ g o, A = some ⟨g, o, none⟩ ∧ g < w.heap.size ∧ ∀ i, i < l.length → w.cell? ⟨g, o + i, none⟩ = some (.int .u8 (l.getD i 0)) := by
      rcases HP.out.src.2 with h | ⟨g, o, h, h2, h3⟩
      · rw [h] at hat; simp at hat
      · exact ⟨g, o, h, h2, h3⟩
    have hcell := hsrc at_ hat
    have hb := HP.out.bytes (l.getD at_ 0) (by simp [List.getD, hat])
    obtain ⟨op, hop⟩ : ∃ op, opAt l at_ = op := ⟨_, rfl⟩
    have hopI : l.getD at_ 0 = (op : Int) := by rw [← hop]; unfold opAt; omega
    rw [hopI] at hcell
    have hop256 : op < 256 := by omega
    have a0 : (0 : Int) ≤ (at_ : Int) := Int.natCast_nonneg _
    have a1 : (at_ : Int) < (n : Int) := by omega
    by_cases h2 : 18 ≤ op
    · have he : ordE l at_ = 33 := by unfold ordE; rw [if_neg (by omega), if_pos (by rw [hop]; exact h2)]
      rw [he, ordZero_bad l at_ 33 he (by decide)]
      have HR : Blk (w.alloc (.cells ordZero.toArray 58)) w.heap.size 58 ordZero := Blk.new w 58 ordZero
      have hc2 : ∀ ob, (w.alloc ob).cell? ⟨g, o + at_, none⟩ = some (.int .u8 (op : Int)) := fun ob => by rw [World.cell?_alloc_lt _ _ _ hg]; exact hcell
      unfold ordZero at HR ⊢
      clear hsrc hb hopI hop hat
      go_enter Tryd.func20, Tryd.ntmps20
      go_wp2
      exact bodyPost_ret (results_ct Tryd.results20 _ _ w.heap.size 58 _ _ rfl HR Tryd.underlying58 rfl info58) rfl ⟨rfl, (Below.refl _ _).alloc (Nat.le_refl _) _⟩
    · have hop18 : op < 18 := by omega
      have hk := fun j v hv => HT.out op hop18 j v hv
      have hkl := HT.out.lt
      have k0 : w.cell? ⟨0, op * 4, none⟩ = some (.string (nm op)) := hk 0 _ rfl
      have k1 : w.cell? ⟨0, op * 4 + 1, none⟩ = some (.int .i64 (fol op : Int)) := hk 1 _ rfl
      have k2 : w.cell? ⟨0, op * 4 + 2, none⟩ = some (.int .i64 (cst op : Int)) := hk 2 _ rfl
      have k3 : w.cell? ⟨0, op * 4 + 3, none⟩ = some (.int .i64 (tks op : Int)) := hk 3 _ rfl
      have hF8 := fol_le op
      have heF : ordE l at_ = if n < at_ + 1 + fol op then 9 else 0 := by unfold ordE; rw [if_neg (by omega), if_neg (by rw [hop]; omega), hop, hl]
      have hv : ordE l at_ = 0 → ordV l at_ = ordCells op (numAt l at_) (at_ + 1 + fol op) := fun h => by unfold ordV; rw [if_pos h, hop]
      have hnum : numAt l at_ = Oct.numB ((l.drop (at_ + 1)).take (fol op)) 0 := by unfold numAt; rw [hop]
      unfold ordCells at hv
      obtain ⟨F, hF⟩ : ∃ F, fol op = F := ⟨_, rfl⟩
      obtain ⟨C, hC⟩ : ∃ C, cst op = C := ⟨_, rfl⟩
      obtain ⟨TK, hTK⟩ : ∃ C, tks op = C := ⟨_, rfl⟩
      obtain ⟨NM, hNM⟩ : ∃ C, nm op = C := ⟨_, rfl⟩
      rw [hF, hC, hTK, hNM] at hv
      rw [hF] at k1 hF8 heF hnum
      rw [hC] at k2
      rw [hTK] at k3
      rw [hNM] at k0
      obtain ⟨NUM, hNU⟩ : ∃ C, numAt l at_ = C := ⟨_, rfl⟩
      rw [hNU] at hv hnum
      have HPart := Lib.hid (fun hle : at_ + 1 + F ≤ n => HP.out.part (at_ + 1) F hle)
      have HBY : Hid (∀ b ∈ (l.drop (at_ + 1)).take F, 0 ≤ b ∧ b < 256) := Lib.hid fun b hb => HP.out.bytes b (List.mem_of_mem_drop (List.mem_of_mem_take hb))
      have HLN : Hid (at_ + 1 + F ≤ n → ((l.drop (at_ + 1)).take F).length = F) := Lib.hid fun h => by simp; omega
      have HNU := Lib.hid hnum
      have hcap := HP.out.cap
      have hle := HP.out.le
      have op0 : (0 : Int) ≤ (op : Int) := Int.natCast_nonneg _
      have op1 : (op : Int) < 18 := by omega
      have hz : ordE l at_ ≠ 0 → ordV l at_ = ordZero := fun h => ordZero_bad l at_ _ rfl h
      obtain ⟨EE, hEE⟩ : ∃ e, ordE l at_ = e := ⟨_, rfl⟩
      obtain ⟨OV, hOV⟩ : ∃ e, ordV l at_ = e := ⟨_, rfl⟩
      rw [hEE] at heF hv hz ⊢
      rw [hOV] at hv hz ⊢
      clear hEE hOV
      clear hk hF hC hTK hNM hNU hsrc hb hopI hop hnum hat
      go_enter Tryd.func20, Tryd.ntmps20
      go_upto_region 1 with fail
      have hB0 : Below w.heap.size w (w.alloc (.cells ordZero.toArray 58)) := (Below.refl _ _).alloc (Nat.le_refl _) _
      have HR : Blk (w.alloc (.cells ordZero.toArray 58)) w.heap.size 58 ordZero := Blk.new w 58 ordZero
      replace hcell := (hB0.cell (p := ⟨g, o + at_, none⟩) hg).trans hcell
      replace k0 := (hB0.cell (p := ⟨0, op * 4, none⟩) hkl).trans k0
      replace k1 := (hB0.cell (p := ⟨0, op * 4 + 1, none⟩) hkl).trans k1
      replace k2 := (hB0.cell (p := ⟨0, op * 4 + 2, none⟩) hkl).trans k2
      replace k3 := (hB0.cell (p := ⟨0, op * 4 + 3, none⟩) hkl).trans k3
      unfold ordZero at hB0 HR hcell k0 k1 k2 k3
      generalize hVV : w.alloc (.cells (List.toArray _) 58) = V at hB0 HR hcell k0 k1 k2 k3
      clear hVV
      obtain ⟨gr, hgr⟩ : ∃ x, w.heap.size = x := ⟨_, rfl⟩
      have BV := Lib.hid hB0
      have RV := Lib.hid HR
      rw [hgr] at RV ⊢
      have HGR := Lib.hid hgr
      clear hB0 HR hgr
      go_upto_region 8 with fail
      have hB1 : Below V.heap.size V (V.alloc (.cells #[.string NM, .int .i64 (F : Int), .int .i64 (C : Int), .int .i64 (TK : Int)] 56)) := (Below.refl _ _).alloc (Nat.le_refl _) _
      have BX := Lib.hid (BV.out.trans (hB1.mono BV.out.size))
      have RX := Lib.hid (RV.out.below hB1 RV.out.lt)
      have KX : Hid (Blk (V.alloc (.cells #[.string NM, .int .i64 (F : Int), .int .i64 (C : Int), .int .i64 (TK : Int)] 56)) V.heap.size 56 [.string NM, .int .i64 (F : Int), .int .i64 (C : Int), .int .i64 (TK : Int)]) := Lib.hid (Blk.new V 56 [.string NM, .int .i64 (F : Int), .int .i64 (C : Int), .int .i64 (TK : Int)])
      have hkr : gr < V.heap.size := RV.out.lt
      clear hB1 BV RV hcell k0 k1 k2 k3
      generalize V.alloc (.cells #[.string NM, .int .i64 (F : Int), .int .i64 (C : Int), .int .i64 (TK : Int)] 56) = X at BX RX KX ⊢
      generalize V.heap.size = gk at KX hkr ⊢
      by_cases h3 : n < at_ + 1 + F
      · have he : EE = 9 := by rw [heF, if_pos h3]
        have hov : OV = ordZero := hz (by rw [he]; decide)
        subst he hov
        clear heF hv hz
        have hz7 : (Tryd.prog.info? 58).map (·.size) = some ordZero.toArray.size := info58
        have hzz7 : ordZero.toArray.size = ordZero.toArray.size := rfl
        have hzo7 := all_one ordZero_one
        have hR9 : X.heap[gr]? = some (.cells ordZero.toArray 58 (0, 0)) := RX.out
        go_wp2_with (first | (refine wpList_store_row rfl 58 (.tmp 4) (.tmp 34) rfl gr ordZero.toArray rfl rfl 58 ordZero.toArray hR9 hz7 hzz7 hzo7 ?_))
        exact bodyPost_ret (results_ct Tryd.results20 _ _ gr 58 ordZero _ rfl (RX.out.setRow _) Tryd.underlying58 rfl info58) rfl ⟨rfl, below_setRow BX.out (by have := HGR.out; omega) _⟩
      · have he : EE = 0 := by rw [heF, if_neg h3]
        have hov := hv he
        have hP := HPart.out (by omega)
        have PX : Hid (Oct.Src X (some ⟨g, Oct.cutPlace o c (at_ + 1), none⟩) (c - (at_ + 1)) ((l.drop (at_ + 1)).take F)) := Lib.hid (hP.below BX.out)
        have HLF := Lib.hid (HLN.out (by omega))
        have hcut := fun W => cutLH g o n c (at_ + 1) (at_ + 1 + F) (by omega) (by omega) W
        rw [show at_ + 1 + F - (at_ + 1) = F by omega] at hcut
        have hI1 : ((at_ + 1 : Nat) : Int) = (at_ : Int) + 1 := by omega
        have hI2 : ((at_ + 1 + F : Nat) : Int) = (at_ : Int) + 1 + (F : Int) := by omega
        rw [hI1, hI2] at hcut
        rw [hI2] at hov
        subst he hov
        have HCT := Lib.hid hcut
        have HW1 : Hid (IntKind.i64.wrap ((at_ : Int) + 1) = (at_ : Int) + 1) := Lib.hid (by simp [IntKind.wrap, IntKind.signed, IntKind.bits]; omega)
        have HNC := Lib.hid (fun W hS => Oct.numberOf_any (some ⟨g, Oct.cutPlace o c (at_ + 1), none⟩) (c - (at_ + 1)) F ((l.drop (at_ + 1)).take F) W (Lib.hid hS) HLF hF8 HBY)
        rw [← HNU.out] at HNC
        clear hP hv heF hz hcut hI1 hI2 HP HT HPart HLN
        go_upto_region 10 with fail
        have hBz : Below X.heap.size X X.drew := below_drewN (Below.refl _ _) 1
        have BX0 : Hid (Below w.heap.size w X.drew) := Lib.hid (BX.out.trans (hBz.mono BX.out.size))
        have RX0 : Hid (Blk X.drew gr 58 ordZero) := Lib.hid (RX.out.below hBz RX.out.lt)
        have KX0 : Hid (Blk X.drew gk 56 [.string NM, .int .i64 (F : Int), .int .i64 (C : Int), .int .i64 (TK : Int)]) := Lib.hid (KX.out.below hBz KX.out.lt)
        have PX0 : Hid (Oct.Src X.drew (some ⟨g, Oct.cutPlace o c (at_ + 1), none⟩) (c - (at_ + 1)) ((l.drop (at_ + 1)).take F)) := Lib.hid (PX.out.below hBz)
        clear hBz
        refine wp_region_held_drew (S := fun w' => Blk w' gk 56 [.string NM, .int .i64 (F : Int), .int .i64 (C : Int), .int .i64 (TK : Int)]) (by kernel_rfl) (KX0.out) (fun hHeld => ?_)
        generalize X.drew = X0 at hHeld BX0 RX0 KX0 PX0 ⊢
        refine wpAnyH_take (i := 0) (v := .int .i64 (op : Int)) rfl (by kernel_rfl) (by kernel_rfl) (by kernel_rfl) (fun _ _ _ h => h) (Or.inl ⟨by rfl, fun w _ => by rfl⟩) hHeld ?_
        show wpAnyH _ _ _ _ _ _ _ (Act.put _ (some 35) _) _
        simp only [Act.put, List.setIfInBounds_toArray, List.set_cons_zero, List.set_cons_succ]
        refine wpAnyH_take (i := 1) (v := .agg #[.string NM, .int .i64 (F : Int), .int .i64 (C : Int), .int .i64 (TK : Int)]) rfl (by kernel_rfl) (by kernel_rfl) (by kernel_rfl) (fun _ _ _ h => h) (yieldsIf_load_mid rfl 56 (.tmp 7) rfl gk 0 rfl [.string NM, .int .i64 (F : Int), .int .i64 (C : Int), .int .i64 (TK : Int)] _ (fun w' hS => hS.all) Tryd.underlying56 rfl (by kernel_rfl)) hHeld ?_
        show wpAnyH _ _ _ _ _ _ _ (Act.put _ (some 36) _) _
        simp only [Act.put, List.setIfInBounds_toArray, List.set_cons_zero, List.set_cons_succ]
        refine wpAnyH_take (i := 2) (v := .slice (some ⟨g, o, none⟩) n c) rfl (by kernel_rfl) (by kernel_rfl) (by kernel_rfl) (fun _ _ _ h => h) (Or.inl ⟨by rfl, fun w _ => by rfl⟩) hHeld ?_
        show wpAnyH _ _ _ _ _ _ _ (Act.put _ (some 37) _) _
        simp only [Act.put, List.setIfInBounds_toArray, List.set_cons_zero, List.set_cons_succ]
        refine wpAnyH_take (i := 3) (v := .int .i64 (at_ : Int)) rfl (by kernel_rfl) (by kernel_rfl) (by kernel_rfl) (fun _ _ _ h => h) (Or.inl ⟨by rfl, fun w _ => by rfl⟩) hHeld ?_
        show wpAnyH _ _ _ _ _ _ _ (Act.put _ (some 38) _) _
        simp only [Act.put, List.setIfInBounds_toArray, List.set_cons_zero, List.set_cons_succ]
        refine wpAnyH_take (i := 4) (v := .int .i64 ((at_ : Int) + 1)) rfl (by kernel_rfl) (by kernel_rfl) (by kernel_rfl) (fun _ _ _ h => h) (Or.inl ⟨by rfl, by intro w' hS; have hw1 := HW1.out; go_simp⟩) hHeld ?_
        show wpAnyH _ _ _ _ _ _ _ (Act.put _ (some 39) _) _
        simp only [Act.put, List.setIfInBounds_toArray, List.set_cons_zero, List.set_cons_succ]
        refine wpAnyH_take (i := 5) (v := .int .i64 ((at_ : Int) + 1 + (F : Int))) rfl (by kernel_rfl) (by kernel_rfl) (by kernel_rfl) (fun _ _ _ h => h) (Or.inl ⟨by rfl, fun w _ => by rfl⟩) hHeld ?_
        show wpAnyH _ _ _ _ _ _ _ (Act.put _ (some 40) _) _
        simp only [Act.put, List.setIfInBounds_toArray, List.set_cons_zero, List.set_cons_succ]
        refine wpAnyH_take (i := 6) (v := .slice (some ⟨g, Oct.cutPlace o c (at_ + 1), none⟩) F (c - (at_ + 1))) rfl (by kernel_rfl) (by kernel_rfl) (by kernel_rfl) (fun _ _ _ h => h) (Or.inl ⟨by rfl, by intro w' hS; have hk := HCT.out w'; go_simp⟩) hHeld ?_
        show wpAnyH _ _ _ _ _ _ _ (Act.put _ (some 41) _) _
        simp only [Act.put, List.setIfInBounds_toArray, List.set_cons_zero, List.set_cons_succ]
        refine wpAnyH_take (i := 8) (v := .int .i64 ((at_ : Int) + 1 + (F : Int))) rfl (by kernel_rfl) (by kernel_rfl) (by kernel_rfl) (fun _ _ _ h => h) (Or.inl ⟨by rfl, fun w _ => by rfl⟩) hHeld ?_
        show wpAnyH _ _ _ _ _ _ _ (Act.put _ (some 43) _) _
        simp only [Act.put, List.setIfInBounds_toArray, List.set_cons_zero, List.set_cons_succ]
        refine wpAnyH_ready (rs := [7]) (by kernel_rfl) (by simp) ?_
        refine AllReadyH.cons rfl (fun K hK => ?_) AllReadyH.nil
        refine step_call rfl 37 #[.tmp 41] #[22] rfl #[.slice (some ⟨g, Oct.cutPlace o c (at_ + 1), none⟩) F (c - (at_ + 1))] (by simp [Act.eval]) (by go_simp) (HNC.out X0 PX0.out) ?_
        rintro e X1 ⟨rfl, hB⟩
        have BX1 : Hid (Below w.heap.size w X1) := Lib.hid (BX0.out.trans (hB.mono BX0.out.size))
        have RX1 : Hid (Blk X1 gr 58 ordZero) := Lib.hid (RX0.out.below hB RX0.out.lt)
        have KX1 : Hid (Blk X1 gk 56 [.string NM, .int .i64 (F : Int), .int .i64 (C : Int), .int .i64 (TK : Int)]) := Lib.hid (KX0.out.below hB KX0.out.lt)
        have PX1 : Hid (Oct.Src X1 (some ⟨g, Oct.cutPlace o c (at_ + 1), none⟩) (c - (at_ + 1)) ((l.drop (at_ + 1)).take F)) := Lib.hid (PX0.out.below hB)
        clear BX0 RX0 KX0 PX0 hB
        refine ⟨_, rfl, hK.out _ _ (KX1.out) (fun hHeld => ?_)⟩
        clear hK K
        show wpAnyH _ _ _ _ _ _ _ (Act.put _ (some 42) _) _
        simp only [Act.put, List.setIfInBounds_toArray, List.set_cons_zero, List.set_cons_succ]
        refine wpAnyH_take (i := 9) (v := .agg #[.int .i64 (op : Int), .string NM, .int .i64 (F : Int), .int .i64 (C : Int), .int .i64 (TK : Int), .int .u64 NUM, .int .i64 ((at_ : Int) + 1 + (F : Int))]) rfl (by kernel_rfl) (by kernel_rfl) (by kernel_rfl) (fun _ _ _ h => h) (Or.inl ⟨by rfl, by intro w' hS; go_simp⟩) hHeld ?_
        show wpAnyH _ _ _ _ _ _ _ (Act.put _ (some 44) _) _
        simp only [Act.put, List.setIfInBounds_toArray, List.set_cons_zero, List.set_cons_succ]
        refine wpAnyH_ready (rs := [10]) (by kernel_rfl) (by simp) ?_
        refine AllReadyH.cons rfl (fun K hK => ?_) AllReadyH.nil
        refine step_store rfl 58 (.tmp 4) (.tmp 44) rfl gr [.int .i64 (op : Int), .string NM, .int .i64 (F : Int), .int .i64 (C : Int), .int .i64 (TK : Int), .int .u64 NUM, .int .i64 ((at_ : Int) + 1 + (F : Int))] rfl rfl 58 _ RX1.out (by kernel_rfl) rfl (all_one (ord_one _ _ _ _ _ _ _)) ?_
        intro X2 hRn hO
        have hgN : ∀ k, some gr = some k → w.heap.size ≤ k := fun k hk => by injection hk with hk; have := HGR.out; omega
        have hKN : some gk ≠ some gr := fun e => by injection e with e; omega
        have BX2 : Hid (Below w.heap.size w X2) := Lib.hid (BX1.out.grown hO BX1.out.size hgN)
        have KX2 : Hid (Blk X2 gk 56 [.string NM, .int .i64 (F : Int), .int .i64 (C : Int), .int .i64 (TK : Int)]) := Lib.hid (KX1.out.grown hO hKN)
        have RX2 : Hid (Blk X2 gr 58 [.int .i64 (op : Int), .string NM, .int .i64 (F : Int), .int .i64 (C : Int), .int .i64 (TK : Int), .int .u64 NUM, .int .i64 ((at_ : Int) + 1 + (F : Int))]) := Lib.hid (hRn)
        clear BX1 KX1 hRn hO hgN hKN
        refine hK.out _ _ (KX2.out) (fun hHeld => ?_)
        clear hK K
        show wpAnyH _ _ _ _ _ _ _ (Act.put _ none _) _
        simp only [Act.put]
        refine wpAnyH_take (i := 11) (v := .int .i64 0) rfl (by kernel_rfl) (by kernel_rfl) (by kernel_rfl) (fun _ _ _ h => h) (Or.inl ⟨by rfl, fun w _ => by rfl⟩) hHeld ?_
        show wpAnyH _ _ _ _ _ _ _ (Act.put _ (some 5) _) _
        simp only [Act.put, List.setIfInBounds_toArray, List.set_cons_zero, List.set_cons_succ]
        refine wpAnyH_done (by kernel_rfl) ?_ _
        clear hHeld
        go_wp2
        exact bodyPost_ret (results_ct Tryd.results20 _ _ gr 58 [.int .i64 (op : Int), .string NM, .int .i64 (F : Int), .int .i64 (C : Int), .int .i64 (TK : Int), .int .u64 NUM, .int .i64 ((at_ : Int) + 1 + (F : Int))] _ rfl RX2.out Tryd.underlying58 rfl (by kernel_rfl)) rfl ⟨rfl, BX2.out⟩
end Go.Proofs.YtkilajobnlagbaaDoor
