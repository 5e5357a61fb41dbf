/-
  A run: what it comes to.
-/
import Derived.Test.YtkilajobnlagbaaDoorCodE
import Derived.ScopeJumps
import Derived.WalkMore
namespace Go.Proofs.YtkilajobnlagbaaDoor
open Go.RowKit
set_option linter.unusedVariables false

theorem numB_lt (l : List Int) (h : ∀ b ∈ l, 0 ≤ b ∧ b < 256) : ∀ n : Int, 0 ≤ n → 0 ≤ Oct.numB l n ∧ Oct.numB l n < (n + 1) * 256 ^ l.length := by
  induction l with
  | nil => intro n hn; simp [Oct.numB]; omega
  | cons b r ih =>
    intro n hn
    have hb := h b (by simp)
    have := ih (fun x hx => h x (by simp [hx])) (n * 256 + b) (by omega)
    refine ⟨this.1, Int.lt_of_lt_of_le this.2 ?_⟩
    rw [List.length_cons, Int.pow_succ]
    have h1 : n * 256 + b + 1 ≤ (n + 1) * 256 := by omega
    have h2 := Int.mul_le_mul_of_nonneg_right h1 (show (0 : Int) ≤ 256 ^ r.length from Int.le_of_lt (Int.pow_pos (by omega)))
    rw [Int.mul_assoc, Int.mul_comm 256] at h2
    exact h2
theorem num_nat {w : World} {A : Option Addr} {n c : Nat} {l : List Int} (hP : Pg w A n c l) (at_ : Nat) : ∃ k : Nat, numAt l at_ = (k : Int) ∧ (k : Int) ≤ 18446744073709551615 ∧ (fol (opAt l at_) ≤ 2 → k ≤ 65535) := by
  have hb : ∀ b ∈ (l.drop (at_ + 1)).take (fol (opAt l at_)), 0 ≤ b ∧ b < 256 := fun b hb => hP.bytes b (List.mem_of_mem_drop (List.mem_of_mem_take hb))
  obtain ⟨h1, h2⟩ := numB_lt _ hb 0 (by omega)
  have hl : ((l.drop (at_ + 1)).take (fol (opAt l at_))).length ≤ fol (opAt l at_) := by simp; omega
  have h8 := fol_le (opAt l at_)
  have hp : ∀ k m : Nat, k ≤ m → (256 : Int) ^ k ≤ 256 ^ m := fun k m h => by
    have := Nat.pow_le_pow_right (show 0 < 256 by omega) h
    calc (256 : Int) ^ k = ((256 ^ k : Nat) : Int) := by rw [Int.natCast_pow]; rfl
      _ ≤ ((256 ^ m : Nat) : Int) := Int.ofNat_le.2 this
      _ = 256 ^ m := by rw [Int.natCast_pow]; rfl
  have hA : numAt l at_ = Oct.numB ((l.drop (at_ + 1)).take (fol (opAt l at_))) 0 := rfl
  rw [← hA] at h1 h2
  rw [show (0 : Int) + 1 = 1 by omega, Int.one_mul] at h2
  have q8 := Int.lt_of_lt_of_le h2 (hp _ 8 (Nat.le_trans hl h8))
  rw [show (256 : Int) ^ 8 = 18446744073709551616 by decide] at q8
  have q2 : fol (opAt l at_) ≤ 2 → numAt l at_ < 65536 := fun h => by
    have := Int.lt_of_lt_of_le h2 (hp _ 2 (Nat.le_trans hl h))
    rw [show (256 : Int) ^ 2 = 65536 by decide] at this
    exact this
  clear h2 hp hA
  refine ⟨(numAt l at_).toNat, (Int.toNat_of_nonneg h1).symm, by omega, fun h => ?_⟩
  have := q2 h
  omega
theorem cst_pos (op : Nat) : 1 ≤ cst op := by
  by_cases h : op < 18
  · have : ∀ op, op < 18 → 1 ≤ cst op := by decide
    exact this op h
  · unfold cst; simp [List.getD, show ¬ op < 18 by omega]
theorem cst_le (op : Nat) : cst op ≤ 10 := by
  by_cases h : op < 18
  · have : ∀ op, op < 18 → cst op ≤ 10 := by decide
    exact this op h
  · unfold cst; simp [List.getD, show ¬ op < 18 by omega]
theorem tks_le (op : Nat) : tks op ≤ 2 := by
  by_cases h : op < 18
  · have : ∀ op, op < 18 → tks op ≤ 2 := by decide
    exact this op h
  · unfold tks; simp [List.getD, show ¬ op < 18 by omega]
theorem fol_jump (op : Nat) (h : op = 11 ∨ op = 12) : fol op ≤ 2 := by rcases h with rfl | rfl <;> decide
theorem ord_ok {l : List Int} {at_ : Nat} (h : ordE l at_ = 0) : opAt l at_ < 18 ∧ at_ + 1 + fol (opAt l at_) ≤ l.length := by
  unfold ordE at h
  split at h
  · cases h
  · split at h
    · cases h
    · split at h
      · cases h
      · omega

theorem do_any (op : Nat) (hop : op < 18) (h0 : op ≠ 0) (gs base num bh : Nat) (NM : ByteArray) (F C TK : Nat) (fa : Option Addr) (fn fc : Nat) (pa : Option Addr) (pn pc : Nat) (ht a b : Int) (fs : List Int) (ps : List Bool) (l : List Int) (w : World) (HS : Hid (Stk w gs base l)) (hb : base ≤ gs) (hl : l.length ≤ 32) (HF : Hid (FRow w fa fn fs)) (HP : Hid (BRow w pa pn ps)) (hfn : fn ≤ 1000000) (hpn : pn ≤ 1000000) (hnum : (num : Int) ≤ 18446744073709551615) (ha : Word a) (hbb : Word b) :
    Calls Tryd.prog 22 #[.pointer (some ⟨gs, 0, none⟩), .agg #[.int .i64 (op : Int), .string NM, .int .i64 (F : Int), .int .i64 (C : Int), .int .i64 (TK : Int), .int .u64 (num : Int), .int .i64 (bh : Int)], .int .u64 a, .int .u64 b, .agg #[.slice fa fn fc, .slice pa pn pc, .int .u64 ht]] w (LayPost gs base (doE l (laysR op num fs ps ht a b)) (doL l (laysR op num fs ps ht a b)) w) := by
  match op, hop, h0 with
  | 1, _, _ => exact do_1 gs base num bh NM F C TK fa fn fc pa pn pc ht a b fs ps l w HS hb hl HF HP hfn hpn hnum ha hbb
  | 2, _, _ => exact do_2 gs base num bh NM F C TK fa fn fc pa pn pc ht a b fs ps l w HS hb hl HF HP hfn hpn hnum ha hbb
  | 3, _, _ => exact do_3 gs base num bh NM F C TK fa fn fc pa pn pc ht a b fs ps l w HS hb hl HF HP hfn hpn hnum ha hbb
  | 4, _, _ => exact do_4 gs base num bh NM F C TK fa fn fc pa pn pc ht a b fs ps l w HS hb hl HF HP hfn hpn hnum ha hbb
  | 5, _, _ => exact do_5 gs base num bh NM F C TK fa fn fc pa pn pc ht a b fs ps l w HS hb hl HF HP hfn hpn hnum ha hbb
  | 6, _, _ => exact do_6 gs base num bh NM F C TK fa fn fc pa pn pc ht a b fs ps l w HS hb hl HF HP hfn hpn hnum ha hbb
  | 7, _, _ => exact do_7 gs base num bh NM F C TK fa fn fc pa pn pc ht a b fs ps l w HS hb hl HF HP hfn hpn hnum ha hbb
  | 8, _, _ => exact do_8 gs base num bh NM F C TK fa fn fc pa pn pc ht a b fs ps l w HS hb hl HF HP hfn hpn hnum ha hbb
  | 9, _, _ => exact do_9 gs base num bh NM F C TK fa fn fc pa pn pc ht a b fs ps l w HS hb hl HF HP hfn hpn hnum ha hbb
  | 10, _, _ => exact do_10 gs base num bh NM F C TK fa fn fc pa pn pc ht a b fs ps l w HS hb hl HF HP hfn hpn hnum ha hbb
  | 11, _, _ => exact do_11 gs base num bh NM F C TK fa fn fc pa pn pc ht a b fs ps l w HS hb hl HF HP hfn hpn hnum ha hbb
  | 12, _, _ => exact do_12 gs base num bh NM F C TK fa fn fc pa pn pc ht a b fs ps l w HS hb hl HF HP hfn hpn hnum ha hbb
  | 13, _, _ => exact do_13 gs base num bh NM F C TK fa fn fc pa pn pc ht a b fs ps l w HS hb hl HF HP hfn hpn hnum ha hbb
  | 14, _, _ => exact do_14 gs base num bh NM F C TK fa fn fc pa pn pc ht a b fs ps l w HS hb hl HF HP hfn hpn hnum ha hbb
  | 15, _, _ => exact do_15 gs base num bh NM F C TK fa fn fc pa pn pc ht a b fs ps l w HS hb hl HF HP hfn hpn hnum ha hbb
  | 16, _, _ => exact do_16 gs base num bh NM F C TK fa fn fc pa pn pc ht a b fs ps l w HS hb hl HF HP hfn hpn hnum ha hbb
  | 17, _, _ => exact do_17 gs base num bh NM F C TK fa fn fc pa pn pc ht a b fs ps l w HS hb hl HF HP hfn hpn hnum ha hbb
  | 0, _, h => exact absurd rfl h
  | n + 18, h, _ => omega

theorem lays_word {op num : Nat} {fs : List Int} {ps : List Bool} {ht a b : Int} (hn : (num : Int) ≤ 18446744073709551615) (hf : ∀ x ∈ fs, Word x) (hh : Word ht) (ha : Word a) (hb : Word b) : ∀ x ∈ (laysR op num fs ps ht a b).2, Word x := by
  have h01 : ∀ q, Word (one01 q) := fun q => by cases q <;> exact ⟨by decide, by decide⟩
  intro x hx
  unfold laysR at hx
  split at hx
  · simp at hx; subst hx; exact ⟨Int.natCast_nonneg _, hn⟩
  · split at hx
    · simp at hx
    · rename_i hlt
      simp at hx; subst hx
      exact hf _ (by simp [show num < fs.length by omega])
  · simp at hx; subst hx; unfold addV; unfold Word at *; split <;> omega
  · simp at hx; subst hx; unfold subV; unfold Word at *; split <;> omega
  · simp at hx; subst hx; unfold mulV; unfold Word at *
    have := Int.mul_nonneg ha.1 hb.1
    split <;> omega
  all_goals first
    | (simp only [List.mem_singleton] at hx; subst hx; exact h01 _)
    | skip
  · simp at hx; subst hx; exact ha
  · simp at hx; rcases hx with rfl | rfl
    · exact hb
    · exact ha
  · split at hx
    · simp at hx
    · simp only [List.mem_singleton] at hx; subst hx; exact h01 _
  · simp at hx; subst hx; exact hh
  · simp at hx
theorem do_len {l : List Int} {r : Int × List Int} (h : l.length ≤ 32) (he : doE l r = 0) : (doL l r).length ≤ 32 := by
  unfold doE at he
  unfold doL
  split at he
  · rename_i h1
    rw [if_pos h1]
    unfold layE at he
    unfold layL
    split at he
    · cases he
    · rename_i h2
      rw [if_neg h2, List.length_append]; omega
  · rename_i h1
    rw [if_neg h1]; exact h
theorem do_word {l : List Int} {r : Int × List Int} (h : ∀ x ∈ l, Word x) (hr : ∀ x ∈ r.2, Word x) : ∀ x ∈ doL l r, Word x := by
  intro x hx
  unfold doL layL at hx
  split at hx
  · split at hx
    · exact h x hx
    · rcases List.mem_append.1 hx with hx | hx
      · exact h x hx
      · exact hr x hx
  · exact h x hx
theorem tk_word {l : List Int} (m : Nat) (h : ∀ x ∈ l, Word x) : Word (tkA l m) ∧ Word (tkB l m) ∧ ∀ x ∈ tkL l m, Word x := by
  have h0 : Word 0 := ⟨by decide, by decide⟩
  have hg : ∀ k, k < l.length → Word (l.getD k 0) := fun k hk => h _ (by simp [List.getD, hk])
  refine ⟨?_, ?_, ?_⟩
  · unfold tkA; split
    · exact h0
    · split
      · exact h0
      · exact hg _ (by omega)
  · unfold tkB; split
    · exact h0
    · split
      · exact h0
      · exact hg _ (by omega)
  · unfold tkL; split
    · exact h
    · exact fun x hx => h x (List.mem_of_mem_take hx)
theorem tk_len {l : List Int} (m : Nat) (h : l.length ≤ 32) : (tkL l m).length ≤ 32 := by
  unfold tkL; split
  · exact h
  · simp; omega
theorem ordV_length (l : List Int) (at_ : Nat) : (ordV l at_).length = 7 := by unfold ordV; split <;> rfl
theorem ordV_one (l : List Int) (at_ : Nat) : (ordV l at_).toArray.all (·.oneCell') = true := by
  unfold ordV; split
  · exact all_one (ord_one _ _ _ _ _ _ _)
  · exact all_one ordZero_one
end Go.Proofs.YtkilajobnlagbaaDoor
