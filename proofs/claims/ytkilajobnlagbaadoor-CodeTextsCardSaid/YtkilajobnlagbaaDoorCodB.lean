/-
  A run's stack: take, lay.
-/
import Derived.Test.YtkilajobnlagbaaDoorCodA
import Derived.OwnWalk
import Derived.Laws.OwnMore
namespace Go.Proofs.YtkilajobnlagbaaDoor
open Go.RowKit
set_option linter.unusedVariables false

def u64s (l : List Int) : List Value := l.map (Value.int .u64)
theorem u64s_length (l : List Int) : (u64s l).length = l.length := by simp [u64s]
theorem u64s_get (l : List Int) (k : Nat) (hk : k < l.length) : (u64s l)[k]? = some (.int .u64 (l.getD k 0)) := by simp [u64s, List.getD, hk]
theorem u64s_one (l : List Int) : ∀ v ∈ u64s l, v.oneCell' = true := by
  intro v hv
  simp only [u64s, List.mem_map] at hv
  obtain ⟨x, _, rfl⟩ := hv
  rfl
theorem info25 : (Tryd.prog.info? 25).map (fun i => (i.zero, i.size, i.bytes)) = some (some (.int .u64 0), 1, 8) := by kernel_rfl
/-- A run's stack, in memory. -/
structure Stk (w : World) (gs base : Nat) (l : List Int) : Prop where
  ex : ∃ v, Blk w gs 54 [v] ∧ w.ownsRow base 25 1 v l.length (u64s l)
/-- What a step of the stack leaves. -/
structure Turn (base : Nat) (w w' : World) : Prop where
  below : Below base w w'
  keep : ∀ g t cs, t ≠ 25 → t ≠ 54 → Blk w g t cs → Blk w' g t cs
theorem Turn.refl (base : Nat) (w : World) : Turn base w w := ⟨Below.refl _ _, fun _ _ _ _ _ h => h⟩
theorem Turn.trans {base : Nat} {a b c : World} (h : Turn base a b) (k : Turn base b c) : Turn base a c := ⟨h.below.trans k.below, fun g t cs h1 h2 h3 => k.keep g t cs h1 h2 (h.keep g t cs h1 h2 h3)⟩
theorem Turn.new {base : Nat} {w w' : World} (hb : base ≤ w.heap.size) (h : Below w.heap.size w w') : Turn base w w' := ⟨h.mono hb, fun g t cs _ _ hB => hB.below h hB.lt⟩
theorem Turn.one {base k : Nat} {tk : TypeId} {w w' : World} {cs : List Value} (hb : base ≤ w.heap.size) (hk : base ≤ k) (hB : Blk w k tk cs) (ht : tk = 25 ∨ tk = 54) (h : w.grownBy w' (some k)) : Turn base w w' :=
  ⟨(Below.refl _ _).grown h hb (fun j hj => by injection hj with hj; omega), fun g t cs' h1 h2 hB' => hB'.grown h (fun e => by
    injection e with e
    subst e
    unfold Blk at hB hB'
    rw [hB] at hB'
    injection hB' with hB'
    injection hB' with _ hB'
    rcases ht with ht | ht
    · exact h1 (hB'.symm.trans ht)
    · exact h2 (hB'.symm.trans ht))⟩
theorem Stk.below {w w' : World} {gs base : Nat} {l : List Int} (h : Stk w gs base l) (hB : Below w.heap.size w w') : Stk w' gs base l := by
  obtain ⟨v, h1, h2⟩ := h.ex
  exact ⟨v, h1.below hB h1.lt, h2.kept (Oct.Below.grownBy hB none) (by
    cases hv : v.ownBlock with
    | none => exact .inl rfl
    | some k => exact .inr (by simp))⟩
theorem Stk.lt {w : World} {gs base : Nat} {l : List Int} (h : Stk w gs base l) : gs < w.heap.size := by
  obtain ⟨v, h1, _⟩ := h.ex
  exact h1.lt
def tkE (l : List Int) (m : Nat) : Int := if l.length < m then 12 else 0
def tkA (l : List Int) (m : Nat) : Int := if l.length < m then 0 else if m = 0 then 0 else l.getD (l.length - m) 0
def tkB (l : List Int) (m : Nat) : Int := if l.length < m then 0 else if m < 2 then 0 else l.getD (l.length - 1) 0
def tkL (l : List Int) (m : Nat) : List Int := if l.length < m then l else l.take (l.length - m)

theorem slLo (A : Option Addr) (L c h : Nat) (hh : h ≤ c) (W : World) : (Instr.slice 23 (.slice A L c) none (some (.int .i64 (h : Int))) none).run Tryd.prog W = .ok (.slice A h c) W := by
  obtain ⟨i0, hi, hzz⟩ := Option.map_eq_some_iff.1 info25
  simp only [Prod.mk.injEq] at hzz
  rw [run_slice_h (P := Tryd.prog) W 23 A L c (by kernel_rfl) .i64 (h : Int) (by omega) (by omega), show Tryd.prog.elem 23 = 25 by kernel_rfl]
  cases A <;> simp [sizeOf, typeInfo, hi, sliced, Addr.add]
theorem slHi (g L c h : Nat) (hh : h ≤ L) (hc : L ≤ c) (W : World) : (Instr.slice 23 (.slice (some ⟨g, 0, none⟩) L c) (some (.int .i64 (h : Int))) none none).run Tryd.prog W = .ok (.slice (some ⟨g, Oct.cutPlace 0 c h, none⟩) (L - h) (c - h)) W := by
  obtain ⟨i0, hi, hzz⟩ := Option.map_eq_some_iff.1 info25
  simp only [Prod.mk.injEq] at hzz
  obtain ⟨hz0, hz1, hz2⟩ := hzz
  rw [run_slice_l (P := Tryd.prog) W 23 _ L c (by kernel_rfl) .i64 (h : Int) (by omega) (by omega), show Tryd.prog.elem 23 = 25 by kernel_rfl]
  by_cases e : c = h <;> simp [sizeOf, typeInfo, hi, hz1, sliced, Oct.cutPlace, e, Go.WideShapes.add_plain]

set_option maxRecDepth 100000 in
set_option maxHeartbeats 2000000 in
theorem take_short (gs base m : Nat) (l : List Int) (w : World) (HS : Hid (Stk w gs base l)) (hm : l.length < m) (hm2 : m ≤ 2) :
    Calls Tryd.prog 21 #[.pointer (some ⟨gs, 0, none⟩), .int .i64 (m : Int)] w fun e w' => e = .returned (.tuple #[.int .u64 0, .int .u64 0, .int .i64 12]) ∧ w' = w := by
  obtain ⟨v, hB, hO⟩ := HS.out.ex
  have c0 : w.cell? ⟨gs, 0, none⟩ = some v := hB.cell 0
  obtain ⟨n, hn⟩ : ∃ n, l.length = n := ⟨_, rfl⟩
  obtain ⟨A, cp, rfl⟩ : ∃ A cp, v = .slice A n cp := by
    rcases hO.2 with ⟨rfl, h⟩ | ⟨g, cap, cur, rfl, _⟩
    · exact ⟨none, 0, by rw [← hn, h]⟩
    · exact ⟨_, _, by rw [hn]⟩
  rw [hn] at hm
  have d1 : (n : Int) - (m : Int) < 0 := by omega
  clear hB hO
  go_enter Tryd.func21, Tryd.ntmps21
  go_wp2
  go_ret3
  exact ⟨rfl, rfl⟩

/-- What take leaves. -/
def TakePost (gs base m : Nat) (l : List Int) (w : World) (e : Ending) (w' : World) : Prop := e = .returned (.tuple #[.int .u64 (tkA l m), .int .u64 (tkB l m), .int .i64 (tkE l m)]) ∧ Stk w' gs base (tkL l m) ∧ Turn base w w'
set_option maxRecDepth 100000 in
set_option maxHeartbeats 2000000 in
theorem take_any (gs base m : Nat) (l : List Int) (w : World) (HS : Hid (Stk w gs base l)) (hb : base ≤ gs) (hm2 : m ≤ 2) :
    Calls Tryd.prog 21 #[.pointer (some ⟨gs, 0, none⟩), .int .i64 (m : Int)] w (TakePost gs base m l w) := by
  by_cases hm : l.length < m
  · refine (take_short gs base m l w HS hm hm2).mono ?_
    rintro e w' ⟨rfl, rfl⟩
    refine ⟨?_, ?_, Turn.refl _ _⟩
    · unfold tkA tkB tkE; rw [if_pos hm, if_pos hm, if_pos hm]
    · unfold tkL; rw [if_pos hm]; exact HS.out
  · obtain ⟨v, hB, hO⟩ := HS.out.ex
    have c0 : w.cell? ⟨gs, 0, none⟩ = some v := hB.cell 0
    have f0 := hB.frozen 0
    have hbw : base ≤ w.heap.size := Nat.le_trans hb (Nat.le_of_lt hB.lt)
    have hG := fun u => only_setCell (p := ⟨gs, 0, none⟩) (only_refl w (some gs)) (.inl rfl) u
    have hE : tkE l m = 0 := by unfold tkE; rw [if_neg hm]
    have hL : tkL l m = l.take (l.length - m) := by unfold tkL; rw [if_neg hm]
    unfold TakePost
    rw [hE, hL]
    rcases hO.2 with ⟨rfl, h0⟩ | ⟨g, cap, cur, rfl, hgb, hgc, hnc, hcm, hcs, htk⟩
    · obtain rfl : l = [] := List.eq_nil_of_length_eq_zero h0
      obtain rfl : m = 0 := by simpa using hm
      have hs : Stk (w.setCell ⟨gs, 0, none⟩ (.slice none 0 0)) gs base [] := ⟨_, hB.set_ 0 _, World.ownsRow_nil _ _ _ _⟩
      have hT : Turn base w (w.setCell ⟨gs, 0, none⟩ (.slice none 0 0)) := Turn.one hbw hb hB (.inr rfl) (hG _)
      have hs1 := fun W => slLo none 0 0 0 (Nat.le_refl _) W
      have hs2 : ∀ W, (Instr.slice 23 (.slice none 0 0) (some (.int .i64 ((0 : Nat) : Int))) none none).run Tryd.prog W = .ok (.slice none 0 0) W := fun W => by
        obtain ⟨i0, hi, hzz⟩ := Option.map_eq_some_iff.1 info25
        rw [run_slice_l (P := Tryd.prog) W 23 none 0 0 (by kernel_rfl) .i64 ((0 : Nat) : Int) (by omega) (by omega)]
        simp [sizeOf, typeInfo, hi, sliced, show Tryd.prog.elem 23 = 25 by kernel_rfl]
      clear hB hO hG
      go_enter Tryd.func21, Tryd.ntmps21
      go_wp2
      go_ret3
      exact ⟨rfl, hs, hT⟩
    · obtain ⟨n, hn⟩ : ∃ n, l.length = n := ⟨_, rfl⟩
      rw [hn] at hnc hm hL htk c0 hB hO ⊢
      obtain ⟨k, hk⟩ : ∃ k, n - m = k := ⟨_, rfl⟩
      have hkn : k + m = n := by omega
      have hmx : (n : Int) ≤ 9223372036854775807 := by unfold maxLen at hcm; omega
      have hmx0 : (0 : Int) ≤ (n : Int) := Int.natCast_nonneg _
      rw [hk] at hL ⊢
      have hs : Stk (w.setCell ⟨gs, 0, none⟩ (.slice (some ⟨g, 0, none⟩) k cap)) gs base (l.take k) := by
        refine ⟨_, hB.set_ 0 _, by rw [u64s_length]; omega, .inr ⟨g, cap, cur, by rw [List.length_take, hn, Nat.min_eq_left (by omega)], hgb, ?_, by rw [List.length_take]; omega, hcm, hcs, ?_⟩⟩
        · have hne : g ≠ gs := by
            rintro rfl
            unfold Blk at hB
            rw [hB] at hgc
            injection hgc with h
            injection h with _ h
            exact absurd h (by decide)
          exact (Below.heap_setCell w ⟨gs, 0, none⟩ _ g hne).trans hgc
        · rw [Nat.mul_one] at htk ⊢
          rw [List.length_take, hn, Nat.min_eq_left (by omega)]
          unfold u64s at htk ⊢
          rw [List.map_take, ← htk, List.take_take, Nat.min_eq_left (by omega)]
      have hT : Turn base w (w.setCell ⟨gs, 0, none⟩ (.slice (some ⟨g, 0, none⟩) k cap)) := Turn.one hbw hb hB (.inr rfl) (hG _)
      have hcell : ∀ j, j < n → w.cell? ⟨g, j, none⟩ = some (.int .u64 (l.getD j 0)) := fun j hj => by
        have h1 := World.ownsRow.cellAt hO j (by rw [Nat.mul_one]; exact hj)
        rw [h1]
        exact u64s_get l j (by omega)
      have hgg : g ≠ gs := by
        rintro rfl
        unfold Blk at hB
        rw [hB] at hgc
        injection hgc with h
        injection h with _ h
        exact absurd h (by decide)
      have hcell2 : ∀ j, j < n → (w.setCell ⟨gs, 0, none⟩ (.slice (some ⟨g, 0, none⟩) k cap)).cell? ⟨g, j, none⟩ = some (.int .u64 (l.getD j 0)) := fun j hj => by
        rw [World.cell?_of_block (Below.heap_setCell w ⟨gs, 0, none⟩ _ g hgg)]
        exact hcell j hj
      have hs1 := fun W => slLo (some ⟨g, 0, none⟩) n cap k (by omega) W
      have hs2 := fun W => slHi g n cap k (by omega) hnc W
      have hA : tkA l m = if m = 0 then 0 else l.getD k 0 := by unfold tkA; rw [if_neg (by omega), hn, hk]
      have hBB : tkB l m = if m < 2 then 0 else l.getD (n - 1) 0 := by unfold tkB; rw [if_neg (by omega), hn]
      have hd : (n : Int) - (m : Int) = (k : Int) := by omega
      have hsI : ((k : Nat) : Int) = (n : Int) - (m : Int) := hd.symm
      obtain ⟨VA, hVA⟩ : ∃ a, tkA l m = a := ⟨_, rfl⟩
      obtain ⟨VB, hVB⟩ : ∃ a, tkB l m = a := ⟨_, rfl⟩
      rw [hVA] at hA ⊢
      rw [hVB] at hBB ⊢
      have HST := Lib.hid (And.intro hs hT)
      clear hs hT hL hB hO hG hgc hcs htk hcell hVA hVB hgg
      rcases (by omega : m = 0 ∨ m = 1 ∨ m = 2) with rfl | rfl | rfl
      · have e1 : VA = 0 := by rw [hA]; rfl
        have e2 : VB = 0 := by rw [hBB]; rfl
        subst e1 e2
        have hnk : n = k := by omega
        subst hnk
        clear hA hBB hcell2 hd hsI
        rw [show ((0 : Nat) : Int) = 0 from rfl]
        go_enter Tryd.func21, Tryd.ntmps21
        go_wp2
        go_ret3
        exact ⟨rfl, HST.out⟩
      · have e1 : VA = l.getD k 0 := by rw [hA]; rfl
        have e2 : VB = 0 := by rw [hBB]; rfl
        subst e1 e2
        have hcp : Oct.cutPlace 0 cap k = k := by unfold Oct.cutPlace; rw [if_neg (by omega)]; omega
        have hc := hcell2 k (by omega)
        obtain ⟨a, ha⟩ : ∃ a, l.getD k 0 = a := ⟨_, rfl⟩
        rw [ha] at hc ⊢
        rw [hcp] at hs2
        rw [show n - k = 1 by omega] at hs2
        have hd2 : (n : Int) - 1 = (k : Int) := by omega
        clear hA hBB hcell2 hd hsI ha hcp hk hkn hn hm
        rw [show ((1 : Nat) : Int) = 1 from rfl]
        go_enter Tryd.func21, Tryd.ntmps21
        go_wp2
        go_ret3
        exact ⟨rfl, HST.out⟩
      · have e1 : VA = l.getD k 0 := by rw [hA]; rfl
        have e2 : VB = l.getD (n - 1) 0 := by rw [hBB]; rfl
        subst e1 e2
        have hcp : Oct.cutPlace 0 cap k = k := by unfold Oct.cutPlace; rw [if_neg (by omega)]; omega
        have hc := hcell2 k (by omega)
        have hc' := hcell2 (k + 1) (by omega)
        obtain ⟨a, ha⟩ : ∃ a, l.getD k 0 = a := ⟨_, rfl⟩
        rw [show n - 1 = k + 1 by omega]
        obtain ⟨a2, ha2⟩ : ∃ a, l.getD (k + 1) 0 = a := ⟨_, rfl⟩
        rw [ha] at hc ⊢
        rw [ha2] at hc' ⊢
        rw [hcp] at hs2
        rw [show n - k = 2 by omega] at hs2
        have hd2 : (n : Int) - 2 = (k : Int) := by omega
        clear hA hBB hcell2 hd hsI ha ha2 hcp hk hkn hn hm
        rw [show ((2 : Nat) : Int) = 2 from rfl]
        go_enter Tryd.func21, Tryd.ntmps21
        go_wp2
        go_ret3
        exact ⟨rfl, HST.out⟩
end Go.Proofs.YtkilajobnlagbaaDoor
