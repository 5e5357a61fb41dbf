/-
  SlabLasts: what is sure; the walk's first look.
-/
import Derived.Test.YtjkpdfdcjhnjdaaSlG
namespace Go.Proofs.Ytjkpdfdcjhnjdaa
open Go.ChangeShapes Go.WideShapes Go.ChangeAt Go.RowKit Go.Deep
set_option linter.unusedVariables false

theorem txt_push (l : List Int) : ∀ r : ByteArray, (l.foldl (fun r n => r.push (UInt8.ofNat n.toNat)) r).size = r.size + l.length := by
  induction l with
  | nil => intro r; rfl
  | cons n t ih => intro r; rw [List.foldl_cons, ih, ByteArray.size_push, List.length_cons]; omega
theorem txt_size (l : List Int) : (txt l).size = l.length := by
  have := txt_push l ByteArray.empty
  simpa [txt] using this

/-- What stands in the law's walk: the slab, and the text q that is sure. -/
structure Ls (w0 w : World) (b : Nat) (v : Value) (s : SS) (q : List Int) : Prop where
  A : AtS w w0.heap.size b v s
  B : Below w0.heap.size w0 w
  pre : s.l.take q.length = q
  le : q.length ≤ s.k
  ub : w0.heap.size ≤ b
section
variable {w0 w w' : World} {b : Nat} {v v' : Value} {s : SS} {q p : List Int}
theorem Ls.keep (h : Ls w0 w b v s q) (hB : Below w.heap.size w w') : Ls w0 w' b v s q := ⟨h.A.keep hB, h.B.trans (hB.mono h.B.size), h.pre, h.le, h.ub⟩
theorem Ls.up (h : Ls w0 w b v s q) : ∀ i, Of b v i → w0.heap.size ≤ i := h.A.up h.ub
theorem Ls.onlyS {S : Nat → Prop} (h : Ls w0 w b v s q) (ho : OnlyS S w w') (h1 : ∀ i, Of b v i → ¬ S i) (h2 : ∀ i, S i → w0.heap.size ≤ i) : Ls w0 w' b v s q := ⟨h.A.onlyS ho h1, h.B.trans (ho.below h2 h.B.size), h.pre, h.le, h.ub⟩
theorem stepS_keeps (s : SS) (n : Nat) : (stepS s n).l = s.l ∧ (stepS s n).k = s.k := ⟨stepS_l s n, stepS_k s n⟩
theorem Ls.app (h : Ls w0 w b v s q) (hA : AtS w' w0.heap.size b v' (appS s p)) (ho : OnlyS (Of b v) w w') : Ls w0 w' b v' (appS s p) q := by
  refine ⟨hA, h.B.trans (ho.below h.up h.B.size), ?_, ?_, h.ub⟩
  · unfold appS
    split
    · show (s.l ++ p).take q.length = q
      have := h.le
      have := h.A.kl
      rw [List.take_append_of_le_length (by omega)]
      exact h.pre
    · rw [stepS_l]; exact h.pre
  · unfold appS
    split
    · show q.length ≤ (stepS s p.length).k
      rw [stepS_k]; exact h.le
    · rw [stepS_k]; exact h.le
theorem Ls.one (h : Ls w0 w b v s q) (ho : OnlyS (fun i => i = b) w w') : Below w0.heap.size w0 w' := h.B.trans (ho.below (by rintro i rfl; exact h.ub) h.B.size)
theorem Ls.synNo (h : Ls w0 w b v s q) (hE : stepE s 0 ≠ 0) (hA : AtS w' w0.heap.size b v (synS s)) (ho : OnlyS (fun i => i = b) w w') : Ls w0 w' b v (synS s) q := by
  refine ⟨hA, h.one ho, ?_, ?_, h.ub⟩
  · unfold synS; rw [if_neg hE, stepS_l]; exact h.pre
  · unfold synS; rw [if_neg hE, stepS_k]; exact h.le
theorem Ls.synOk (h : Ls w0 w b v s q) (hE : stepE s 0 = 0) (hA : AtS w' w0.heap.size b v (synS s)) (ho : OnlyS (fun i => i = b) w w') : Ls w0 w' b v (synS s) s.l := by
  refine ⟨hA, h.one ho, ?_, ?_, h.ub⟩
  · unfold synS; rw [if_pos hE]; exact List.take_length
  · unfold synS; rw [if_pos hE]; exact Nat.le_refl _
theorem syn_ok (s : SS) (hE : stepE s 0 = 0) : (synS s).l = s.l ∧ (synS s).dn = false := by
  unfold synS
  rw [if_pos hE]
  refine ⟨rfl, ?_⟩
  show (stepS s 0).dn = false
  unfold stepE at hE
  unfold stepS
  split at hE
  · cases hE
  · rename_i h1
    split at hE
    · cases hE
    · rename_i h2
      split at hE
      · cases hE
      · rename_i h3
        rw [if_neg h1, if_neg h2, if_neg h3]
theorem Ls.eraOk (h : Ls w0 w b v s q) (hE : stepE s 0 = 0) (hA : AtS w' w0.heap.size b (eraV s v) (eraS s)) (ho : OnlyS (fun i => i = b) w w') : Ls w0 w' b (eraV s v) (eraS s) [] :=
  ⟨hA, h.one ho, rfl, Nat.zero_le _, h.ub⟩
theorem Ls.eraNo (h : Ls w0 w b v s q) (hE : stepE s 0 ≠ 0) (hA : AtS w' w0.heap.size b (eraV s v) (eraS s)) (ho : OnlyS (fun i => i = b) w w') : Ls w0 w' b v (eraS s) q := by
  have hv : eraV s v = v := if_neg hE
  rw [hv] at hA
  refine ⟨hA, h.one ho, ?_, ?_, h.ub⟩
  · unfold eraS; rw [if_neg hE, stepS_l]; exact h.pre
  · unfold eraS; rw [if_neg hE, stepS_k]; exact h.le
theorem Ls.fus (h : Ls w0 w b v s q) {n : Int} (hA : AtS w' w0.heap.size b v (fusS s n)) (ho : OnlyS (fun i => i = b) w w') : Ls w0 w' b v (fusS s n) q := by
  refine ⟨hA, h.one ho, ?_, ?_, h.ub⟩
  · unfold fusS; split <;> exact h.pre
  · unfold fusS; split <;> exact h.le
theorem Ls.crsPre (h : Ls w0 w b v s q) (a c : Int) : (crsL s a c).take q.length = q := by
  unfold crsL
  have h1 := h.le
  have h2 := h.A.kl
  have h3 : crsK s a ≤ loose s := nearN_le _ _
  unfold loose at h3
  rw [List.take_append_of_le_length (by rw [List.length_take]; omega), List.take_take, Nat.min_eq_left (by omega)]
  exact h.pre
theorem Ls.crs (h : Ls w0 w b v s q) {a c : Int} (hA : AtS w' w0.heap.size b v' (crsS s a c)) (ho : OnlyS (Of b v) w w') : Ls w0 w' b v' (crsS s a c) (crsL s a c) :=
  ⟨hA, h.B.trans (ho.below h.up h.B.size), List.take_length, Nat.le_refl _, h.ub⟩
theorem take_le {l q : List Int} (h : l.take q.length = q) : q.length ≤ l.length := by
  have := congrArg List.length h
  rw [List.length_take] at this
  omega
end
theorem Src.take {w : World} {A : Option Addr} {c n : Nat} {l : List Int} (h : Src w A c l) : Src w A c (l.take n) := by
  refine ⟨h.1, ?_⟩
  rcases h.2 with rfl | ⟨b, off, h1, h2, h3⟩
  · exact .inl (by simp)
  · refine .inr ⟨b, off, h1, h2, fun i hi => ?_⟩
    rw [List.length_take] at hi
    rw [h3 i (by omega)]
    simp [List.getD, show i < n by omega]
theorem Own.set {w : World} {base g n c : Nat} {l : List Int} (h : Own w base (.slice (some ⟨g, 0, none⟩) n c) l) (i : Nat) (x : Int) (hi : i < l.length) :
    Own (w.setCell ⟨g, i, none⟩ (.int .u8 x)) base (.slice (some ⟨g, 0, none⟩) n c) (l.set i x) := by
  rcases h.2 with ⟨h1, _⟩ | ⟨g', cap, cur, hv, hb, hg, hn, hcm, hcs, htk⟩
  · cases h1
  · injection hv with h1 h2 h3
    injection h1 with h1
    injection h1 with h1
    subst h1 h3
    have hB : Blk w g 5 cur.toList := by unfold Blk; simpa using hg
    have hB2 := hB.set_ i (.int .u8 x)
    refine ⟨by rw [byt_length]; omega, .inr ⟨g, c, (cur.toList.set i (.int .u8 x)).toArray, by rw [List.length_set, h2], hb, hB2, by rw [List.length_set]; exact hn, hcm, by simpa using hcs, ?_⟩⟩
    rw [List.length_set]
    simp only [Nat.mul_one] at htk ⊢
    rw [List.take_set, htk]
    simp [byt]
end Go.Proofs.Ytjkpdfdcjhnjdaa
