/-
  lamp.Take (function 31): place by place 32 bytes off an In, or zeros where they aren't there whole; of older memory only the In is written.
  lamp.Lay (function 33): place by place both pieces behind an Out; of older memory only the Out's own block is written.
  The document's In (tollhouseref01): Raw (function 98), Sum (73), Left (36): place by place the next 32 bytes, or an error; of older memory only the In is written.
  The document's Take (function 32): place by place 32 bytes off its In, or zeros where they aren't there whole; of older memory only the In is written.
  The document's Lay (function 37): a signature's bytes behind others; nothing that was there is written.
-/
import Derived.Test.YtkonokjhpddbfaaDoorGD
import Derived.Test.YtkonokjhpddbfaaDoorGC
import Derived.Lib.SlBytesRow
namespace Go.Proofs.YtkonokjhpddbfaaDoor
open Go.RowKit
set_option linter.unusedVariables false

theorem slice32_16 (g : Nat) (W : World) : (Instr.sliceAt 36 (.pointer (some ⟨g, 0, none⟩)) (some (.int .i64 16)) none none).run Tryd.prog W = .ok (.slice (some ⟨g, 16, none⟩) 16 16) W := by
  have h := slice_sum g 4 (by omega) W
  exact h
/-- What is taken for a place. -/
def tk (l : List Nat) (k : Nat) : List Nat := if 32 * (k + 1) ≤ l.length then (l.drop (32 * k)).take 32 else List.replicate 32 0
def tf (l : List Nat) (k : Nat) : List Nat := (tk l k).take 16
def tg (l : List Nat) (k : Nat) : List Nat := (tk l k).drop 16
def takeN (l : List Nat) : List Nat := rows (tf l) 32 ++ rows (tg l) 32
theorem tk_length (l : List Nat) (k : Nat) : (tk l k).length = 32 := by
  unfold tk
  split
  · simp; omega
  · simp
theorem tf_length (l : List Nat) (k : Nat) : (tf l k).length = 16 := by simp [tf, tk_length]
theorem tg_length (l : List Nat) (k : Nat) : (tg l k).length = 16 := by simp [tg, tk_length]
theorem takeN_length (l : List Nat) : (takeN l).length = 1024 := by
  unfold takeN
  rw [List.length_append, rows_length (tf_length l), rows_length (tg_length l)]
/-- An In behind k sums. -/
def InK (w : World) (g : Nat) (l : List Nat) (k : Nat) : Prop := if 32 * k ≤ l.length then Oct.InAt w g (ints (l.drop (32 * k))) else Oct.InBad w g
theorem InK.below {w w' : World} {g : Nat} {l : List Nat} {k : Nat} (h : InK w g l k) (hb : Below w.heap.size w w') : InK w' g l k := by
  unfold InK at h ⊢
  split at h
  · rename_i hc; rw [if_pos hc]; exact h.below hb
  · rename_i hc; rw [if_neg hc]; exact h.below hb
theorem InK.far {w w' : World} {g b : Nat} {l : List Nat} {k : Nat} (h : InK w g l k) (hg : w.grownBy w' (some b)) (hb : g < b) : InK w' g l k := by
  unfold InK at h ⊢
  split at h
  · rename_i hc; rw [if_pos hc]; exact h.far hg hb
  · rename_i hc; rw [if_neg hc]; exact h.far hg (by omega)
theorem InK.lt {w : World} {g : Nat} {l : List Nat} {k : Nat} (h : InK w g l k) : g < w.heap.size := by
  unfold InK at h
  split at h
  · exact h.lt
  · exact Oct.Bk.lt h
theorem zeros_w8 : Oct.zeros = (w8 (List.replicate 32 0)).toArray := by kernel_rfl
theorem insum_any (g : Nat) (l : List Nat) (k : Nat) (w : World) (HI : Hid (InK w g l k)) : Calls Tryd.prog 72 #[.pointer (some ⟨g, 0, none⟩)] w fun r w' => r = .returned (.agg (w8 (tk l k)).toArray) ∧ InK w' g l (k + 1) ∧ w.grownBy w' (some g) := by
  have hi := HI.out
  unfold InK at hi
  by_cases h1 : 32 * (k + 1) ≤ l.length
  · rw [if_pos (by omega)] at hi
    have e : ints (l.drop (32 * k)) = ints ((l.drop (32 * k)).take 32) ++ ints (l.drop (32 * (k + 1))) := by
      unfold ints
      rw [← List.map_append, show 32 * (k + 1) = 32 * k + 32 by omega, ← List.drop_drop, List.take_append_drop]
    rw [e] at hi
    refine (Oct.sum_in g _ _ w (Lib.hid hi) (Lib.hid (by simp [ints]; omega))).mono ?_
    rintro r w' ⟨rfl, h2, h3⟩
    refine ⟨?_, ?_, h3⟩
    · rw [byt_ints]
      unfold tk
      rw [if_pos h1]
    · unfold InK
      rw [if_pos h1]
      exact h2
  · have hs : Oct.InSh w g := by
      split at hi
      · exact .inr ⟨_, by simp [ints]; omega, hi⟩
      · exact .inl hi
    refine (Oct.sum_sh g w (Lib.hid hs)).mono ?_
    rintro r w' ⟨rfl, h2, h3⟩
    refine ⟨?_, ?_, h3⟩
    · rw [zeros_w8]
      unfold tk
      rw [if_neg h1]
    · unfold InK
      rw [if_neg h1]
      exact h2
theorem splice8 (pre old post x : List Nat) (o : Nat) (ho : pre.length = o) (hl : old.length = x.length) : splice (w8 (pre ++ (old ++ post))) o (w8 x) = w8 (pre ++ (x ++ post)) := by
  unfold splice
  rw [← w8_append, ← w8_append, ← w8_append, ← w8_append, List.take_append_of_le_length (by rw [w8_length]; omega), List.take_of_length_le (by rw [w8_length]; omega)]
  congr 2
  rw [← ho, w8_length, ← hl, List.drop_append, List.drop_eq_nil_of_le (by rw [w8_length]; omega), List.nil_append, w8_length, show pre.length + old.length - pre.length = old.length by omega, List.drop_append, List.drop_eq_nil_of_le (by rw [w8_length]; omega), List.nil_append, w8_length, Nat.sub_self, List.drop_zero]
theorem sigC_sOpen (f g : Nat → List Nat) (hf : ∀ a, (f a).length = 16) (k j : Nat) (hk : k < 32) : splice (w8 (sigC f g k j)) (k * 16) (w8 (f k)) = w8 (sigC f g (k + 1) j) := by
  have hl := rows_length hf k
  have e : sigC f g k j = rows f k ++ (List.replicate 16 0 ++ (List.replicate (512 - 16 * (k + 1)) 0 ++ (rows g j ++ List.replicate (512 - 16 * j) 0))) := by
    unfold sigC
    rw [zeros_cut (512 - 16 * k) 16 (by omega), show 512 - 16 * k - 16 = 512 - 16 * (k + 1) by omega]
    simp only [List.append_assoc]
  rw [e, splice8 _ _ _ _ _ (by omega) (by rw [hf k]; simp)]
  unfold sigC
  rw [rows_succ, List.append_assoc]
theorem sigC_sOther (f g : Nat → List Nat) (hf : ∀ a, (f a).length = 16) (hg : ∀ a, (g a).length = 16) (i k : Nat) (hk : k < 32) (hi : i ≤ 32) : splice (w8 (sigC f g i k)) (512 + k * 16) (w8 (g k)) = w8 (sigC f g i (k + 1)) := by
  have hl := rows_length hf i
  have hm := rows_length hg k
  have e : sigC f g i k = (rows f i ++ (List.replicate (512 - 16 * i) 0 ++ rows g k)) ++ (List.replicate 16 0 ++ List.replicate (512 - 16 * (k + 1)) 0) := by
    unfold sigC
    rw [zeros_cut (512 - 16 * k) 16 (by omega), show 512 - 16 * k - 16 = 512 - 16 * (k + 1) by omega]
    simp only [List.append_assoc]
  rw [e, splice8 _ _ _ _ _ (by simp only [List.length_append, List.length_replicate, hl, hm]; omega) (by rw [hg k]; simp)]
  unfold sigC
  rw [rows_succ]
  simp only [List.append_assoc]
theorem src_part {w : World} {g : Nat} {t : TypeId} {S : List Nat} (h : Blk w g t (w8 S)) (o n : Nat) : ∀ j v, (w8 ((S.drop o).take n))[j]? = some v → w.cell? ((⟨g, o, none⟩ : Addr).add j) = some v := by
  intro j v hv
  rw [Addr.add_mid, h.cell, ← hv, ← w8_take, ← w8_drop, List.getElem?_take]
  have h1 := (List.getElem?_eq_some_iff.1 hv).1
  rw [w8_length, List.length_take] at h1
  rw [if_pos (by omega), List.getElem?_drop]

end Go.Proofs.YtkonokjhpddbfaaDoor
namespace Go.Proofs.YtkonokjhpddbfaaDoor
open Go.RowKit
set_option linter.unusedVariables false

/-- A signature's bytes. -/
def layN (S : List Nat) : List Nat := rows (fun a => pcs S a ++ pcs S (32 + a)) 32
theorem ints_append (l m : List Nat) : ints l ++ ints m = ints (l ++ m) := by simp [ints]
theorem ints_length (l : List Nat) : (ints l).length = l.length := by simp [ints]
theorem build_dig (x : List Nat) (hx : x.length = 32) (w : World) : (Instr.buildSlice 92 1 #[(0, .agg (w8 x).toArray)]).run Tryd.prog w = .ok (.slice (some ⟨w.heap.size, 0, none⟩) 1 1) (w.alloc (.cells (w8 x).toArray 36)) := by
  have h := Oct.build_sum (ints x) (by rw [byt_ints, w8_length, hx]) w
  rw [byt_ints] at h
  exact h
theorem wpList_lay {ops : Array Oper} {rest : List Oper} {o : Oper} {a : Act} {w : World} {Q : Exit → Act → World → Prop} (hgd : o.guard = none) (t len : Nat) (parts : Array (Nat × Operand)) (ho : o.op = .buildSlice t len parts)
    (vals : Array (Nat × Value)) (hv : (parts.map fun (i, x) => (i, a.eval x)) = vals) (cells : Array Value) (e : TypeId) (hb : (Instr.buildSlice t len vals).run Tryd.prog w = .ok (.slice (some ⟨w.heap.size, 0, none⟩) len len) (w.alloc (.cells cells e)))
    (h : wpList Tryd.prog ops Q rest (a.put o.dst (.slice (some ⟨w.heap.size, 0, none⟩) len len)) (w.alloc (.cells cells e))) : wpList Tryd.prog ops Q (o :: rest) a w := by
  refine wpList_plain hgd fun K hK => ?_
  have e : (execOp a.eval o).run Tryd.prog w = .ok (.value (.slice (some ⟨w.heap.size, 0, none⟩) len len)) (w.alloc (.cells cells e)) := by
    unfold execOp
    simp only [ho, hv, Sem.run_bind, hb, Result.andThen_ok, Sem.run_pure]
  unfold Oper.wp
  rw [e]
  exact hK _ _ h
/-- What has grown from V on by laying behind v: v's block, and what is new. -/
structure LayAt (V wr : World) (base : Nat) (v t : Value) (l : List Nat) : Prop where
  own : Oct.Own wr base t (ints l)
  grown : V.grownBy wr v.ownBlock
  lies : t.ownBlock = v.ownBlock ∨ ∃ gg, V.heap.size ≤ gg ∧ t.ownBlock = some gg
theorem grown_new' {w X1 X2 : World} {r q : Option Nat} (h : w.grownBy X1 r) (h2 : X1.grownBy X2 q) (hb : ∀ b, q = some b → w.heap.size ≤ b) : w.grownBy X2 r :=
  ⟨h2.os.trans h.os, h2.tape.trans h.tape, h2.output.trans h.output, Nat.le_trans h.size h2.size, fun i hi hn => (h2.block i (Nat.lt_of_lt_of_le hi h.size) (by intro he; have := hb i he.symm; omega)).trans (h.block i hi hn)⟩
theorem LayAt.below {V wr w' : World} {base : Nat} {v t : Value} {l : List Nat} (h : LayAt V wr base v t l) (hB : Below wr.heap.size wr w') : LayAt V w' base v t l := ⟨h.own.below hB, Oct.only_below h.grown hB, h.lies⟩
theorem LayAt.step {V wr w' : World} {base : Nat} {v t t' : Value} {l m : List Nat} (h : LayAt V wr base v t l) (hO : Oct.Own w' base t' (ints m)) (hg : wr.grownBy w' t.ownBlock) (hL : Oct.Lies wr t t') : LayAt V w' base v t' m := by
  have hg2 : V.grownBy w' v.ownBlock := by
    rcases h.lies with e | ⟨gg, h1, h2⟩
    · rw [e] at hg
      exact h.grown.trans hg
    · exact grown_new' h.grown hg (fun b hb => by rw [h2] at hb; injection hb; omega)
  refine ⟨hO, hg2, ?_⟩
  rcases hL with e | ⟨gg, h1, h2⟩
  · rw [e]; exact h.lies
  · exact .inr ⟨gg, Nat.le_trans h.grown.size h1, h2⟩
/-- A store into a block that is new, and isn't the laid bytes' own. -/
theorem LayAt.other {V wr w' : World} {base b : Nat} {v t : Value} {l : List Nat} (h : LayAt V wr base v t l) (hg : wr.grownBy w' (some b)) (hb : V.heap.size ≤ b) (hn : t.ownBlock ≠ some b) : LayAt V w' base v t l :=
  ⟨World.ownsRow.kept h.own hg (by rcases ht : t.ownBlock with _ | g
                                   · exact .inl rfl
                                   · exact .inr fun he => hn (by rw [ht, he])), grown_new' h.grown hg (fun c hc => by injection hc; omega), h.lies⟩

set_option maxRecDepth 100000 in
set_option maxHeartbeats 1000000 in
theorem lay_lamp (S : List Nat) (v : Value) (base : Nat) (xs : List Nat) (w : World) (HL : Hid (S.length = 1024)) (HP : Hid (∀ x ∈ S, x < 256)) (HO : Hid (Oct.Own w base v (ints xs))) (hbase : base ≤ w.heap.size) (hxs : xs.length ≤ 100000) :
    Calls Tryd.prog 33 #[.agg (w8 S).toArray, v] w (fun e w' => ∃ v', e = .returned v' ∧ Oct.Own w' base v' (ints (xs ++ layN S)) ∧ w.grownBy w' v.ownBlock ∧ Oct.Lies w v v') := by
  go_enter Tryd.func33, Tryd.ntmps33
  go_upto_region 1 with fail
  have HA : Hid (Blk (w.alloc (.cells (w8 S).toArray 56)) w.heap.size 56 (w8 S)) := Lib.hid (by
    have h := Blk.new w 56 (w8 S)
    exact h)
  have HW : Hid (Below w.heap.size w (w.alloc (.cells (w8 S).toArray 56))) := Lib.hid ((Below.refl _ _).alloc (Nat.le_refl _) _)
  generalize (w.alloc (.cells (w8 S).toArray 56)) = V at HA HW ⊢
  have hV : w.heap.size < V.heap.size := HA.out.lt
  have HVL : Hid (∀ b, v.ownBlock = some b → b < w.heap.size) := Lib.hid fun b hb => (World.ownsRow.lt HO.out b hb).2
  obtain ⟨h', hh⟩ : ∃ h : Nat → List Nat, h = fun a => pcs S a ++ pcs S (32 + a) := ⟨_, rfl⟩
  have HH : Hid (∀ a, h' a = pcs S a ++ pcs S (32 + a)) := Lib.hid fun a => by rw [hh]
  have HLN : Hid (layN S = rows h' 32) := Lib.hid (by rw [hh]; rfl)
  have HHL : Hid (∀ a, a < 32 → (h' a).length = 32) := Lib.hid fun a ha => by rw [hh]; simp only [List.length_append]; rw [pcs_length _ _ (by rw [HL.out]; omega), pcs_length _ _ (by rw [HL.out]; omega)]
  clear hh
  have HLY : Hid (LayAt V V base v v (xs ++ rows h' 0)) := Lib.hid ⟨by rw [rows_zero, List.append_nil]; exact HO.out.below HW.out, World.grownBy.refl _ _, .inl rfl⟩
  go_wp2_with fail
  go_loopw [8, 1, 5, 6, 7] (fun i t _ _ _ wr => ∃ (k : Nat), k ≤ 32 ∧ i = .int .i64 k ∧ Hid (Blk wr w.heap.size 56 (w8 S)) ∧ Hid (LayAt V wr base v t (xs ++ rows h' k))) (fun i _ _ _ _ _ => 32 - (intOf i).toNat)
  case atStart => exact ⟨0, Nat.zero_le _, rfl, HA, HLY⟩
  case round =>
    clear HA HLY
    obtain ⟨k, hk, rfl, HA, HLY⟩ := hrel
    have HRL : Hid ((rows h' k).length = 32 * k) := Lib.hid (rows_length' k (fun a ha => HHL.out a (by omega)))
    by_cases hlt : k < 32
    · have k1 : (k : Int) < 32 := by omega
      have hwr : V.heap.size ≤ wr.heap.size := HLY.out.grown.size
      have HNB : Hid (∀ b, u1.ownBlock = some b → b < wr.heap.size) := Lib.hid fun b hb => (World.ownsRow.lt HLY.out.own b hb).2
      go_upto_region 5 with fail
      have HB4 : Hid (Blk (wr.alloc (.cells zsum 36)) wr.heap.size 36 (w8 (List.replicate 32 0))) := Lib.hid (by
        have h := Blk.new wr 36 (w8 (List.replicate 32 0))
        rw [zsum_eq] at h
        exact h)
      have HX4 : Hid (Below wr.heap.size wr (wr.alloc (.cells zsum 36))) := Lib.hid ((Below.refl _ _).alloc (Nat.le_refl _) _)
      unfold zsum at HB4 HX4
      generalize (wr.alloc (.cells _ 36)) = X4 at HB4 HX4 ⊢
      have HA4 := Lib.hid (HA.out.below HX4.out HA.out.lt)
      have HY4 := Lib.hid (HLY.out.below HX4.out)
      have hgB : V.heap.size ≤ wr.heap.size := hwr
      generalize hgg : wr.heap.size = gB at HB4 hgB HNB ⊢
      have HP1 : Hid ((pcs S k).length = 16) := Lib.hid (pcs_length _ _ (by rw [HL.out]; omega))
      have HP2 : Hid ((pcs S (32 + k)).length = 16) := Lib.hid (pcs_length _ _ (by rw [HL.out]; omega))
      have HL1 : Hid ((w8 (pcs S k)).length = 16) := Lib.hid (by rw [w8_length, HP1.out])
      have HL2 : Hid ((w8 (pcs S (32 + k))).length = 16) := Lib.hid (by rw [w8_length, HP2.out])
      have HSa : Hid (∀ (X : World), Blk X w.heap.size 56 (w8 S) → ∀ j v, (w8 (pcs S k))[j]? = some v → X.drew.cell? ((⟨w.heap.size, k * 16, none⟩ : Addr).add j) = some v) := Lib.hid fun X h => by
        have h1 := src_part (w := X.drew) h (k * 16) 16
        unfold pcs
        rw [Nat.mul_comm 16 k]
        exact h1
      have HSb : Hid (∀ (X : World), Blk X w.heap.size 56 (w8 S) → ∀ j v, (w8 (pcs S (32 + k)))[j]? = some v → X.drew.cell? ((⟨w.heap.size, 512 + k * 16, none⟩ : Addr).add j) = some v) := Lib.hid fun X h => by
        have h1 := src_part (w := X.drew) h (512 + k * 16) 16
        unfold pcs
        rw [show 16 * (32 + k) = 512 + k * 16 by omega]
        exact h1
      have HFa : Hid (0 + 16 ≤ (w8 (List.replicate 32 0)).length) := Lib.hid (by rw [w8_length]; simp)
      have HFb : Hid (16 + 16 ≤ (w8 (pcs S k ++ List.replicate 16 0)).length) := Lib.hid (by rw [w8_length, List.length_append, HP1.out]; simp)
      clear HA HLY HX4
      have hsa := slice32 gB 0
      have hsb := slice16 w.heap.size (k * 16)
      refine wp_region_held_drew (S := fun w' => True) (by kernel_rfl) trivial (fun hHeld => ?_)
      refine wpAnyH_take (i := 0) (v := .slice (some ⟨gB, 0, none⟩) 32 32) rfl (by kernel_rfl) (by kernel_rfl) (by kernel_rfl) (fun _ _ _ h => h) (Or.inl ⟨by rfl, by intro w' _; go_simp⟩) hHeld ?_
      show wpAnyH _ _ _ _ _ _ _ (Act.put _ (some 11) _) _
      simp only [Act.put, List.setIfInBounds_toArray, List.set_cons_zero, List.set_cons_succ]
      refine wpAnyH_take (i := 1) (v := .int .i64 (k : Int)) rfl (by kernel_rfl) (by kernel_rfl) (by kernel_rfl) (fun _ _ _ h => h) (Or.inl ⟨by rfl, fun w _ => by rfl⟩) hHeld ?_
      show wpAnyH _ _ _ _ _ _ _ (Act.put _ (some 12) _) _
      simp only [Act.put, List.setIfInBounds_toArray, List.set_cons_zero, List.set_cons_succ]
      refine wpAnyH_take (i := 2) (v := .pointer (some ⟨w.heap.size, 0, none⟩)) rfl (by kernel_rfl) (by kernel_rfl) (by kernel_rfl) (fun _ _ _ h => h) (Or.inl ⟨by rfl, by intro w' _; go_simp⟩) hHeld ?_
      show wpAnyH _ _ _ _ _ _ _ (Act.put _ (some 13) _) _
      simp only [Act.put, List.setIfInBounds_toArray, List.set_cons_zero, List.set_cons_succ]
      refine wpAnyH_take (i := 3) (v := .pointer (some ⟨w.heap.size, k * 16, none⟩)) rfl (by kernel_rfl) (by kernel_rfl) (by kernel_rfl) (fun _ _ _ h => h) (Or.inl ⟨by rfl, by intro w' _; go_simp⟩) hHeld ?_
      show wpAnyH _ _ _ _ _ _ _ (Act.put _ (some 14) _) _
      simp only [Act.put, List.setIfInBounds_toArray, List.set_cons_zero, List.set_cons_succ]
      refine wpAnyH_take (i := 4) (v := .slice (some ⟨w.heap.size, k * 16, none⟩) 16 16) rfl (by kernel_rfl) (by kernel_rfl) (by kernel_rfl) (fun _ _ _ h => h) (Or.inl ⟨by rfl, by intro w' _; go_simp⟩) hHeld ?_
      show wpAnyH _ _ _ _ _ _ _ (Act.put _ (some 15) _) _
      simp only [Act.put, List.setIfInBounds_toArray, List.set_cons_zero, List.set_cons_succ]
      refine wpAnyH_ready (rs := [5]) (by kernel_rfl) (by simp) ?_
      refine AllReadyH.cons rfl (fun K hK => ?_) AllReadyH.nil
      refine step_copy_at rfl (.tmp 11) (.tmp 15) 30 30 rfl 5 Tryd.underlying30 info5 gB 0 32 32 ⟨w.heap.size, k * 16, none⟩ 16 16 rfl rfl (w8 (List.replicate 32 0)) 36 (HB4.out.drewN 1) (w8 (pcs S k)) 16 HL1.out rfl (HSa.out _ HA4.out) HFa.out (w8_one _) ?_
      intro X5 HB5 HG5
      refine hK.out _ _ (trivial) (fun hHeld => ?_)
      clear hK K
      show wpAnyH _ _ _ _ _ _ _ (Act.put _ (some 16) _) _
      simp only [Act.put, List.setIfInBounds_toArray, List.set_cons_zero, List.set_cons_succ]
      refine wpAnyH_take (i := 6) (v := .int .i64 16) rfl (by kernel_rfl) (by kernel_rfl) (by kernel_rfl) (fun _ _ _ h => h) (Or.inl ⟨by rfl, fun w _ => by rfl⟩) hHeld ?_
      show wpAnyH _ _ _ _ _ _ _ (Act.put _ (some 7) _) _
      simp only [Act.put, List.setIfInBounds_toArray, List.set_cons_zero, List.set_cons_succ]
      refine wpAnyH_done (by kernel_rfl) ?_ _
      have HB5s : Hid (Blk X5 gB 36 (w8 (pcs S k ++ List.replicate 16 0))) := Lib.hid (by
        have h := HB5.out
        have e := splice8 [] (List.replicate 16 0) (List.replicate 16 0) (pcs S k) 0 rfl (by rw [HP1.out]; simp)
        rw [List.nil_append, List.nil_append, List.replicate_append_replicate] at e
        rw [e] at h
        exact h)
      have HA5 := Lib.hid (Blk.grown (HA4.out.drewN 1) HG5.out (by intro he; injection he; omega))
      have HY5 := Lib.hid (LayAt.other (HY4.out.below (below_drewN (Below.refl _ _) 1)) HG5.out hgB (by intro he; have := HNB.out _ he; omega))
      clear HA4 HY4 HB4 HB5 HG5 hHeld hsa hsb
      go_upto_region 6 with fail
      have hsa := slice32_16 gB
      have hsb := slice16 w.heap.size (512 + k * 16)
      refine wp_region_held_drew (S := fun w' => True) (by kernel_rfl) trivial (fun hHeld => ?_)
      refine wpAnyH_take (i := 0) (v := .int .i64 16) rfl (by kernel_rfl) (by kernel_rfl) (by kernel_rfl) (fun _ _ _ h => h) (Or.inl ⟨by rfl, fun w _ => by rfl⟩) hHeld ?_
      show wpAnyH _ _ _ _ _ _ _ (Act.put _ (some 17) _) _
      simp only [Act.put, List.setIfInBounds_toArray, List.set_cons_zero, List.set_cons_succ]
      refine wpAnyH_take (i := 1) (v := .slice (some ⟨gB, 16, none⟩) 16 16) rfl (by kernel_rfl) (by kernel_rfl) (by kernel_rfl) (fun _ _ _ h => h) (Or.inl ⟨by rfl, by intro w' _; go_simp⟩) hHeld ?_
      show wpAnyH _ _ _ _ _ _ _ (Act.put _ (some 18) _) _
      simp only [Act.put, List.setIfInBounds_toArray, List.set_cons_zero, List.set_cons_succ]
      refine wpAnyH_take (i := 2) (v := .int .i64 (k : Int)) rfl (by kernel_rfl) (by kernel_rfl) (by kernel_rfl) (fun _ _ _ h => h) (Or.inl ⟨by rfl, fun w _ => by rfl⟩) hHeld ?_
      show wpAnyH _ _ _ _ _ _ _ (Act.put _ (some 19) _) _
      simp only [Act.put, List.setIfInBounds_toArray, List.set_cons_zero, List.set_cons_succ]
      refine wpAnyH_take (i := 3) (v := .pointer (some ⟨w.heap.size, 512, none⟩)) rfl (by kernel_rfl) (by kernel_rfl) (by kernel_rfl) (fun _ _ _ h => h) (Or.inl ⟨by rfl, by intro w' _; go_simp⟩) hHeld ?_
      show wpAnyH _ _ _ _ _ _ _ (Act.put _ (some 20) _) _
      simp only [Act.put, List.setIfInBounds_toArray, List.set_cons_zero, List.set_cons_succ]
      refine wpAnyH_take (i := 4) (v := .pointer (some ⟨w.heap.size, 512 + k * 16, none⟩)) rfl (by kernel_rfl) (by kernel_rfl) (by kernel_rfl) (fun _ _ _ h => h) (Or.inl ⟨by rfl, by intro w' _; go_simp⟩) hHeld ?_
      show wpAnyH _ _ _ _ _ _ _ (Act.put _ (some 21) _) _
      simp only [Act.put, List.setIfInBounds_toArray, List.set_cons_zero, List.set_cons_succ]
      refine wpAnyH_take (i := 5) (v := .slice (some ⟨w.heap.size, 512 + k * 16, none⟩) 16 16) rfl (by kernel_rfl) (by kernel_rfl) (by kernel_rfl) (fun _ _ _ h => h) (Or.inl ⟨by rfl, by intro w' _; go_simp⟩) hHeld ?_
      show wpAnyH _ _ _ _ _ _ _ (Act.put _ (some 22) _) _
      simp only [Act.put, List.setIfInBounds_toArray, List.set_cons_zero, List.set_cons_succ]
      refine wpAnyH_ready (rs := [6]) (by kernel_rfl) (by simp) ?_
      refine AllReadyH.cons rfl (fun K hK => ?_) AllReadyH.nil
      refine step_copy_at rfl (.tmp 18) (.tmp 22) 30 30 rfl 5 Tryd.underlying30 info5 gB 16 16 16 ⟨w.heap.size, 512 + k * 16, none⟩ 16 16 rfl rfl (w8 (pcs S k ++ List.replicate 16 0)) 36 (HB5s.out.drewN 1) (w8 (pcs S (32 + k))) 16 HL2.out rfl (HSb.out _ HA5.out) HFb.out (w8_one _) ?_
      intro X6 HB6 HG6
      refine hK.out _ _ (trivial) (fun hHeld => ?_)
      clear hK K
      show wpAnyH _ _ _ _ _ _ _ (Act.put _ (some 23) _) _
      simp only [Act.put, List.setIfInBounds_toArray, List.set_cons_zero, List.set_cons_succ]
      refine wpAnyH_done (by kernel_rfl) ?_ _
      have HB6s : Hid (Blk X6 gB 36 (w8 (h' k))) := Lib.hid (by
        have h := HB6.out
        have e := splice8 (pcs S k) (List.replicate 16 0) [] (pcs S (32 + k)) 16 HP1.out (by rw [HP2.out]; simp)
        rw [List.append_nil, List.append_nil, ← HH.out k] at e
        rw [e] at h
        exact h)
      have HA6 := Lib.hid (Blk.grown (HA5.out.drewN 1) HG6.out (by intro he; injection he; omega))
      have HY6 := Lib.hid (LayAt.other (HY5.out.below (below_drewN (Below.refl _ _) 1)) HG6.out hgB (by intro he; have := HNB.out _ he; omega))
      clear HA5 HY5 HB5s HB6 HG6 hHeld hsa hsb
      have HRG := Lib.hid HB6s.out.all
      have HHK : Hid ((h' k).length = 32) := Lib.hid (HHL.out k hlt)
      have HS7 : Hid ((Tryd.prog.info? 36).map (·.size) = some (w8 (h' k)).length) := Lib.hid (by rw [w8_length, HHK.out]; exact info36)
      have HBD : Hid (∀ X : World, (Instr.buildSlice 92 1 #[(0, .agg (w8 (h' k)).toArray)]).run Tryd.prog X = .ok (.slice (some ⟨X.heap.size, 0, none⟩) 1 1) (X.alloc (.cells (w8 (h' k)).toArray 36))) := Lib.hid fun X => build_dig (h' k) HHK.out X
      go_wp2_with (first | (refine wpList_load_mid rfl 36 (.tmp 6) rfl gB 0 rfl (w8 (h' k)) _ HRG.out Tryd.underlying36 rfl HS7.out ?_) | (refine wpList_lay rfl 92 1 #[(0, .tmp 25)] rfl #[(0, .agg (w8 (h' k)).toArray)] (by simp [Act.eval, Act.put]) (w8 (h' k)).toArray 36 (HBD.out _) ?_))
      have HB7 : Hid (Blk (X6.alloc (.cells (w8 (h' k)).toArray 36)) X6.heap.size 36 (w8 (h' k))) := Lib.hid (by
        have h := Blk.new X6 36 (w8 (h' k))
        exact h)
      have HX7 : Hid (Below X6.heap.size X6 (X6.alloc (.cells (w8 (h' k)).toArray 36))) := Lib.hid ((Below.refl _ _).alloc (Nat.le_refl _) _)
      generalize (X6.alloc (.cells (w8 (h' k)).toArray 36)) = X7 at HB7 HX7 ⊢
      have HA7 := Lib.hid (HA6.out.below HX7.out HA6.out.lt)
      have HY7 := Lib.hid (HY6.out.below HX7.out)
      have hc := Oct.outsum_one u1 X6.heap.size base (ints (xs ++ rows h' k)) (ints (h' k)) X7 HY7.out.own (by have h := HB7.out; unfold Blk at h; rw [byt_ints]; exact h) (by rw [ints_length, HHK.out]) (by rw [ints_length, List.length_append, HRL.out]; omega) (by have := HY7.out.grown.size; have := HW.out.size; omega)
      refine hc.mono ?_
      clear hc
      rintro e X8 ⟨v8, rfl, hO8, hg8, hL8⟩
      rw [ints_append, List.append_assoc, ← rows_succ] at hO8
      have HA8 := Lib.hid (HA7.out.grown hg8 (by
        intro he
        rcases HY7.out.lies with e1 | ⟨gg, e1, e2⟩
        · rw [e1] at he; have := HVL.out _ he.symm; omega
        · rw [e2] at he; injection he; omega))
      have HY8 := Lib.hid (HY7.out.step hO8 hg8 hL8)
      clear hO8 hg8 hL8 HA6 HY6 HA7 HY7 HX7 HB7 HB6s HRG HBD hgg
      go_wp2
      go_roundw
      case rel => exact ⟨k + 1, by omega, by go_num, HA8, HY8⟩
      case measure => simp [intOf]; omega
    · obtain rfl : k = 32 := by omega
      rw [← HLN.out] at HLY
      go_wp2
      go_ret
      refine ⟨_, rfl, HLY.out.own, (Oct.Below.grownBy HW.out _).trans HLY.out.grown, ?_⟩
      rcases HLY.out.lies with e1 | ⟨gg, e1, e2⟩
      · exact .inl e1
      · exact .inr ⟨gg, by omega, e2⟩
end Go.Proofs.YtkonokjhpddbfaaDoor
namespace Go.Proofs.YtkonokjhpddbfaaDoor
open Go.RowKit
set_option linter.unusedVariables false

/-- The document's In behind k sums. -/
theorem step_lay8 {ops : Array Oper} {o : Oper} {a : Act} {w : World} {K : Act → World → Prop} {Q : Exit → Act → World → Prop} {E : Prop} (hw : Region.wanted o (yielded ops a.tmps) = true) (t len : Nat) (parts : Array (Nat × Operand)) (ho : o.op = .buildSlice t len parts)
    (vals : Array (Nat × Value)) (hv : (parts.map fun (i, x) => (i, a.eval x)) = vals) (cells : Array Value) (e : TypeId) (hb : (Instr.buildSlice t len vals).run Tryd.prog w = .ok (.slice (some ⟨w.heap.size, 0, none⟩) len len) (w.alloc (.cells cells e)))
    (h : K (a.put o.dst (.slice (some ⟨w.heap.size, 0, none⟩) len len)) (w.alloc (.cells cells e))) :
    if Region.wanted o (yielded ops a.tmps) = true then Oper.wp Tryd.prog o a w K Q else E := by
  rw [if_pos hw]
  have e : (execOp a.eval o).run Tryd.prog w = .ok (.value (.slice (some ⟨w.heap.size, 0, none⟩) len len)) (w.alloc (.cells cells e)) := by
    unfold execOp
    simp only [ho, hv, Sem.run_bind, hb, Result.andThen_ok, Sem.run_pure]
  unfold Oper.wp
  rw [e]
  exact h

theorem w8_set8 (l : List Nat) (k x : Nat) : (w8 l).set k (.int .u8 (x : Int)) = w8 (l.set k x) := by simp [w8, List.map_set]
def rAt (L k : Nat) : Nat := if 32 * k ≤ L then 32 * k else 32 * (L / 32)
def rBad (L k : Nat) : Nat := if 32 * k ≤ L then 0 else 9
structure RefK (w : World) (g : Nat) (A : Option Addr) (c : Nat) (l : List Nat) (k : Nat) : Prop where
  blk : Blk w g 68 [.slice A l.length c, .int .i64 ((rAt l.length k : Nat) : Int), .int .i64 ((rBad l.length k : Nat) : Int)]
  src : Src w g A c l
  cap : c ≤ 9223372036854775807
  old : l ≠ [] → ∀ a, A = some a → a.block < g
theorem RefK.below {w w' : World} {g : Nat} {A : Option Addr} {c : Nat} {l : List Nat} {k : Nat} (h : RefK w g A c l k) (hb : Below w.heap.size w w') : RefK w' g A c l k := ⟨h.blk.below hb h.blk.lt, h.src.below hb, h.cap, h.old⟩
theorem Src.farG {w w' : World} {b n : Nat} {A : Option Addr} {c : Nat} {l : List Nat} (h : Src w b A c l) (hg : w.grownBy w' (some n)) (hn : l ≠ [] → ∀ a, A = some a → a.block ≠ n) : Src w' b A c l := by
  refine ⟨h.le, ?_, h.lt⟩
  rcases h.at_ with h1 | ⟨g, off, h1, h2, h3, h4⟩
  · exact .inl h1
  · refine .inr ⟨g, off, h1, Nat.lt_of_lt_of_le h2 hg.size, h3, fun i hi => ?_⟩
    rw [← h4 i hi]
    exact World.cell?_of_block (hg.block g h2 (fun e => by injection e with e; exact hn (fun hl => by rw [hl] at hi; exact absurd hi (Nat.not_lt_zero _)) _ h1 e))
theorem RefK.far {w w' : World} {g n : Nat} {A : Option Addr} {c : Nat} {l : List Nat} {k : Nat} (h : RefK w g A c l k) (hg : w.grownBy w' (some n)) (hn : g < n) : RefK w' g A c l k :=
  ⟨h.blk.grown hg (by intro he; injection he; omega), h.src.farG hg (fun hl a ha => by have := h.old hl a ha; omega), h.cap, h.old⟩
theorem step_app8 {ops : Array Oper} {o : Oper} {a : Act} {w : World} {K : Act → World → Prop} {Q : Exit → Act → World → Prop} {E : Prop} (hw : Region.wanted o (yielded ops a.tmps) = true) (s x : Operand)
    (ho : o.op = .call { callee := .builtin .append, args := #[s, x], argTypes := #[30, 30] })
    (base b : Nat) (v : Value) (xs l : List Nat) (hs : a.eval s = v) (hO : Own w base v xs) (A : Option Addr) (n c : Nat) (hx : a.eval x = .slice A n c) (hn : n = l.length) (hS : Src w b A c l) (hb : xs.length + l.length ≤ 140737488355328) (hbase : base ≤ w.heap.size)
    (h : ∀ v' w', Hid (Own w' base v' (xs ++ l)) → Hid (w.grownBy w' v.ownBlock) → K (a.put o.dst v') w') :
    if Region.wanted o (yielded ops a.tmps) = true then Oper.wp Tryd.prog o a w K Q else E := by
  rw [if_pos hw]
  subst hn
  obtain ⟨v', w', hr, h2, h3, h4⟩ := run_app w base b o.type v xs l hO A c hS hb hbase
  unfold Oper.wp execOp
  simp only [ho, resolve, invoke, builtin, Sem.run_bind, Sem.run_pure, Result.andThen_ok, List.map_toArray, List.map_cons, List.map_nil, hs, hx, hr]
  exact h v' w' (Lib.hid h2) (Lib.hid h3)
theorem window (g o L c lo hi : Nat) (h1 : lo < hi) (h2 : hi ≤ c) (W : World) : (Instr.slice 30 (.slice (some ⟨g, o, none⟩) L c) (some (.int .i64 (lo : Int))) (some (.int .i64 (hi : Int))) none).run Tryd.prog W = .ok (.slice (some ⟨g, o + lo, none⟩) (hi - lo) (c - lo)) W := by
  obtain ⟨i0, hi0, hz0, hz1, hz2⟩ := info_parts byte_info
  exact Lib.run_slice_window W 30 5 Tryd.underlying30 (fun w => by simp [sizeOf, typeInfo, hi0, hz1]) g o L c lo hi h1 h2

/-- What Raw of 32 bytes answers. -/
def RawPost (w : World) (g : Nat) (A : Option Addr) (c : Nat) (l : List Nat) (k : Nat) (e : Ending) (w' : World) : Prop :=
  (∃ A' c', e = .returned (.slice A' (if 32 * (k + 1) ≤ l.length then 32 else 0) c') ∧ (32 * (k + 1) ≤ l.length → ∀ b, b < w.heap.size → Src w' b A' c' ((l.drop (32 * k)).take 32))) ∧ RefK w' g A c l (k + 1) ∧ w.grownBy w' (some g)
theorem RawPost.whole {w : World} {g : Nat} {A : Option Addr} {c : Nat} {l : List Nat} {k : Nat} {w' : World} {A' : Option Addr} {c' : Nat} (hs : 32 * (k + 1) ≤ l.length) (h1 : ∀ b, b < w.heap.size → Src w' b A' c' ((l.drop (32 * k)).take 32)) (h2 : RefK w' g A c l (k + 1)) (h3 : w.grownBy w' (some g)) : RawPost w g A c l k (.returned (.slice A' 32 c')) w' :=
  ⟨⟨A', c', by rw [if_pos hs], fun _ => h1⟩, h2, h3⟩
theorem take_set32 (d : List Nat) (k x : Nat) (hk : k < 32) (hd : d.length = 32) (hx : d.getD k 0 = x) : (d.take k ++ List.replicate (32 - k) 0).set k x = d.take (k + 1) ++ List.replicate (32 - (k + 1)) 0 := by
  have e : d[k]'(by omega) = x := by rw [← hx]; simp [List.getD, show k < d.length by omega]
  have hl : (d.take k).length = k := by simp; omega
  rw [List.set_append_right _ _ (by omega), hl, Nat.sub_self, show 32 - k = (32 - (k + 1)) + 1 by omega, List.replicate_succ, List.set_cons_zero, List.take_succ_eq_append_getElem (by omega), e]
  simp
end Go.Proofs.YtkonokjhpddbfaaDoor
namespace Go.Proofs.YtkonokjhpddbfaaDoor
open Go.RowKit
set_option linter.unusedVariables false

theorem step_store1 {ops : Array Oper} {o : Oper} {a : Act} {w : World} {K : Act → World → Prop} {Q : Exit → Act → World → Prop} {E : Prop} (hw : Region.wanted o (yielded ops a.tmps) = true) (ty : TypeId) (x y : Operand) (ho : o.op = .store ty x y)
    (b off : Nat) (v : Value) (hx : a.eval x = .pointer (some ⟨b, off, none⟩)) (hy : a.eval y = v) (ht : w.there b off 1) (hi : (Tryd.prog.info? ty).map (·.size) = some 1) (h1 : v.oneCell' = true) (hc : v.cells = #[v])
    (h : K (a.put o.dst undef) (w.setCell ⟨b, off, none⟩ v)) : if Region.wanted o (yielded ops a.tmps) = true then Oper.wp Tryd.prog o a w K Q else E := by
  rw [if_pos hw]
  have h0 := run_storeCells_cells (P := Tryd.prog) b off [v] 0 w (fun j hj => by simpa using (ht j (by simpa using hj)).1) (fun j hj => by simpa using (ht j (by simpa using hj)).2) (fun u hu => by simp at hu; subst hu; exact h1)
  have hrun : (storeVar ty ⟨b, off, none⟩ v).run Tryd.prog w = .ok () (w.setCell ⟨b, off, none⟩ v) := by
    cases hq : Tryd.prog.info? ty with
    | none => simp [hq] at hi
    | some i =>
      have hs : i.size = 1 := by simpa [hq] using hi
      simp only [Nat.add_zero] at h0
      simp [storeVar, sizeOf, typeInfo, hq, hc, hs, h0]
      rfl
  unfold Oper.wp execOp
  simp only [ho, hx, hy, Instr.storeAt, Instr.sureAddr, Sem.run_bind, Sem.run_pure, Result.andThen_ok, hrun]
  exact h
/-- A signature so far, within a place. -/
def sigP (f g : Nat → List Nat) (k i j : Nat) : List Nat := rows f k ++ ((f k).take i ++ (List.replicate (16 - i) 0 ++ (List.replicate (512 - 16 * (k + 1)) 0 ++ (rows g k ++ ((g k).take j ++ (List.replicate (16 - j) 0 ++ List.replicate (512 - 16 * (k + 1)) 0))))))
theorem put1 (pre a post : List Nat) (i x o : Nat) (hi : i < 16) (ha : a.length = 16) (hx : a.getD i 0 = x) (ho : pre.length + i = o) : (pre ++ (a.take i ++ (List.replicate (16 - i) 0 ++ post))).set o x = pre ++ (a.take (i + 1) ++ (List.replicate (16 - (i + 1)) 0 ++ post)) := by
  have e : a[i]'(by omega) = x := by rw [← hx]; simp [List.getD, show i < a.length by omega]
  have hl : (a.take i).length = i := by simp; omega
  rw [← ho, List.set_append_right _ _ (by omega), show pre.length + i - pre.length = i by omega, List.set_append_right _ _ (by omega), hl, Nat.sub_self, show 16 - i = (16 - (i + 1)) + 1 by omega, List.replicate_succ, List.cons_append, List.set_cons_zero, List.take_succ_eq_append_getElem (by omega), e]
  simp
theorem sigP_start (f g : Nat → List Nat) (k : Nat) (hk : k < 32) : sigC f g k k = sigP f g k 0 0 := by
  unfold sigC sigP
  rw [zeros_cut (512 - 16 * k) 16 (by omega), show 512 - 16 * k - 16 = 512 - 16 * (k + 1) by omega]
  simp only [List.take_zero, List.nil_append, List.append_assoc, Nat.sub_zero]
theorem sigP_end (f g : Nat → List Nat) (hf : ∀ a, (f a).length = 16) (hg : ∀ a, (g a).length = 16) (k : Nat) : sigP f g k 16 16 = sigC f g (k + 1) (k + 1) := by
  unfold sigC sigP
  rw [rows_succ, rows_succ, List.take_of_length_le (by rw [hf k]; omega), List.take_of_length_le (by rw [hg k]; omega)]
  simp only [Nat.sub_self, List.replicate_zero, List.nil_append, List.append_assoc]
theorem sigP_length (f g : Nat → List Nat) (hf : ∀ a, (f a).length = 16) (hg : ∀ a, (g a).length = 16) (k i j : Nat) (hk : k < 32) (hi : i ≤ 16) (hj : j ≤ 16) : (sigP f g k i j).length = 1024 := by
  unfold sigP
  simp only [List.length_append, rows_length hf, rows_length hg, List.length_replicate, List.length_take, hf k, hg k]
  omega
theorem sigP_o (f g : Nat → List Nat) (hf : ∀ a, (f a).length = 16) (k i j x : Nat) (hi : i < 16) (hx : (f k).getD i 0 = x) : (sigP f g k i j).set (k * 16 + i) x = sigP f g k (i + 1) j := put1 _ _ _ i x _ hi (hf k) hx (by rw [rows_length hf]; omega)
theorem sigP_t (f g : Nat → List Nat) (hf : ∀ a, (f a).length = 16) (hg : ∀ a, (g a).length = 16) (k i j x : Nat) (hk : k < 32) (hi : i ≤ 16) (hj : j < 16) (hx : (g k).getD j 0 = x) : (sigP f g k i j).set (512 + k * 16 + j) x = sigP f g k i (j + 1) := by
  have e : ∀ m, sigP f g k i m = (rows f k ++ ((f k).take i ++ (List.replicate (16 - i) 0 ++ (List.replicate (512 - 16 * (k + 1)) 0 ++ rows g k)))) ++ ((g k).take m ++ (List.replicate (16 - m) 0 ++ List.replicate (512 - 16 * (k + 1)) 0)) := by
    intro m
    unfold sigP
    simp only [List.append_assoc]
  rw [e, e]
  exact put1 _ _ _ j x _ hj (hg k) hx (by simp only [List.length_append, rows_length hf, rows_length hg, List.length_replicate, List.length_take, hf k]; omega)

theorem idx29 (g i : Nat) (hi : i < 16) (W : World) : (Instr.indexAt 29 (.pointer (some ⟨g, 0, none⟩)) (.int .i64 (16 + (i : Int)))).run Tryd.prog W = .ok (.pointer (some ⟨g, 16 + i, none⟩)) W := by
  have i3 : (16 : Int) + (i : Int) < 32 := by omega
  have i4 : (0 : Int) ≤ 16 + (i : Int) := by omega
  have e : ((16 : Int) + (i : Int)).toNat = 16 + i := by omega
  go_simp
end Go.Proofs.YtkonokjhpddbfaaDoor
namespace Go.Proofs.YtkonokjhpddbfaaDoor
open Go.RowKit
set_option linter.unusedVariables false
theorem slice16r8 (g o : Nat) (W : World) : (Instr.sliceAt 48 (.pointer (some ⟨g, o, none⟩)) none none none).run Tryd.prog W = .ok (.slice (some ⟨g, o, none⟩) 16 16) W := by
  have h := run_sliceAt_array_all (P := Tryd.prog) W 48 ⟨g, o, none⟩ (by kernel_rfl)
  rw [h, show Tryd.prog.arrayLen 48 = 16 by kernel_rfl, show Tryd.prog.elem 48 = 5 by kernel_rfl]
  obtain ⟨i0, hi, hz0, hz1, hz2⟩ := info_parts byte_info
  simp [sizeOf, typeInfo, hi, slicedAt, Addr.add_mid]

theorem Own.lower {w : World} {base base' : Nat} {v : Value} {l : List Nat} (h : Own w base v l) (hb : base' ≤ base) : Own w base' v l := by
  refine ⟨h.1, ?_⟩
  rcases h.2 with h1 | ⟨g, cap, cur, hv, hg, rest⟩
  · exact .inl h1
  · exact .inr ⟨g, cap, cur, hv, Nat.le_trans hb hg, rest⟩
set_option maxRecDepth 100000 in
set_option maxHeartbeats 1000000 in
theorem rlay_any (S : List Nat) (A : Option Addr) (n c : Nat) (bs : List Nat) (w : World) (HL : Hid (S.length = 1024)) (HP : Hid (∀ x ∈ S, x < 256)) (HS : Hid (Src w w.heap.size A c bs)) (HN : Hid (bs.length = n)) (hn : n ≤ 100000) :
    Calls Tryd.prog 37 #[.slice A n c, .agg (w8 S).toArray] w fun e w' => ∃ v', e = .returned v' ∧ Own w' w.heap.size v' (bs ++ layN S) ∧ Below w.heap.size w w' := by
  go_enter Tryd.func37, Tryd.ntmps37
  go_upto_region 1 with fail
  have HA : Hid (Blk (w.alloc (.cells (w8 S).toArray 51)) w.heap.size 51 (w8 S)) := Lib.hid (by
    have h := Blk.new w 51 (w8 S)
    exact h)
  have HW : Hid (Below w.heap.size w (w.alloc (.cells (w8 S).toArray 51))) := Lib.hid ((Below.refl _ _).alloc (Nat.le_refl _) _)
  generalize (w.alloc (.cells (w8 S).toArray 51)) = V at HA HW ⊢
  have hV : w.heap.size < V.heap.size := HA.out.lt
  have HSV := Lib.hid ((HS.out.below HW.out).below ((Below.refl V.heap.size V).alloc (Nat.le_refl _) (.cells #[] 5)))
  have HOE : Hid (Own (V.alloc (.cells #[] 5)) V.heap.size (.slice (some ⟨V.heap.size, 0, none⟩) 0 0) []) := Lib.hid (Own.ofOct (Own.none_ V))
  have HVE : Hid (Below V.heap.size V (V.alloc (.cells #[] 5))) := Lib.hid ((Below.refl _ _).alloc (Nat.le_refl _) _)
  have HM0 : Hid (([] : List Nat).length + bs.length ≤ 140737488355328) := Lib.hid (by rw [HN.out]; simp; omega)
  go_wp2_with (at_builtin; refine wpList_app rfl (.tmp 7) (.tmp 8) rfl V.heap.size w.heap.size (.slice (some ⟨V.heap.size, 0, none⟩) 0 0) [] bs rfl HOE.out A n c rfl HN.out.symm HSV.out HM0.out HVE.out.size ?_)
  intro v1 w1 HO1 HG1 HL1
  have HV1 : Hid (Below V.heap.size V w1) := Lib.hid (HVE.out.grown HG1.out HVE.out.size fun g' hg' => (HOE.out.base_ hg').1)
  have HO1s : Hid (Own w1 V.heap.size v1 (bs ++ rows (fun a => pcs S a ++ pcs S (32 + a)) 0)) := Lib.hid (by rw [rows_zero, List.append_nil]; exact HO1.out)
  obtain ⟨h', hh⟩ : ∃ h : Nat → List Nat, h = fun a => pcs S a ++ pcs S (32 + a) := ⟨_, rfl⟩
  have HH : Hid (∀ a, h' a = pcs S a ++ pcs S (32 + a)) := Lib.hid fun a => by rw [hh]
  have HLN : Hid (layN S = rows h' 32) := Lib.hid (by rw [hh]; rfl)
  have HHL : Hid (∀ a, a < 32 → (h' a).length = 32) := Lib.hid fun a ha => by rw [hh]; simp only [List.length_append]; rw [pcs_length _ _ (by rw [HL.out]; omega), pcs_length _ _ (by rw [HL.out]; omega)]
  rw [← hh] at HO1s
  clear hh HO1 HG1 HL1 HOE HVE HSV HM0
  go_wp2_with fail
  go_loopw [6, 5] (fun i t wr => ∃ (k : Nat), k ≤ 32 ∧ i = .int .i64 k ∧ Hid (Own wr V.heap.size t (bs ++ rows h' k)) ∧ Hid (Below V.heap.size V wr)) (fun i _ _ => 32 - (intOf i).toNat)
  case atStart => exact ⟨0, Nat.zero_le _, rfl, HO1s, HV1⟩
  case round =>
    clear HO1s HV1
    obtain ⟨k, hk, rfl, HO, HV⟩ := hrel
    have HRL : Hid ((rows h' k).length = 32 * k) := Lib.hid (rows_length' k (fun a ha => HHL.out a (by omega)))
    by_cases hlt : k < 32
    · have k1 : (k : Int) < 32 := by omega
      have HP1 : Hid ((pcs S k).length = 16) := Lib.hid (pcs_length _ _ (by rw [HL.out]; omega))
      have HP2 : Hid ((pcs S (32 + k)).length = 16) := Lib.hid (pcs_length _ _ (by rw [HL.out]; omega))
      have HSM : Hid (∀ X : World, Below V.heap.size V X → Src X V.heap.size (some ⟨w.heap.size, k * 16, none⟩) 16 (pcs S k) ∧ Src X V.heap.size (some ⟨w.heap.size, 512 + k * 16, none⟩) 16 (pcs S (32 + k))) := Lib.hid fun X hX => by
        have hb := HA.out.below hX (by omega)
        have h1 := Src.mid hb (b := V.heap.size) (by omega) HP.out (k * 16) 16 (by rw [HL.out]; omega)
        have h2 := Src.mid hb (b := V.heap.size) (by omega) HP.out (512 + k * 16) 16 (by rw [HL.out]; omega)
        unfold pcs
        rw [show 16 * k = k * 16 by omega, show 16 * (32 + k) = 512 + k * 16 by omega]
        exact ⟨h1, h2⟩
      have HS1 := Lib.hid (HSM.out wr HV.out).1
      have HM1 : Hid ((bs ++ rows h' k).length + (pcs S k).length ≤ 140737488355328) := Lib.hid (by rw [List.length_append, HRL.out, HP1.out, HN.out]; omega)
      have hs1 := slice16r8 w.heap.size (k * 16)
      have hs2 := slice16r8 w.heap.size (512 + k * 16)
      go_upto_region 6 with (at_builtin; refine wpList_app rfl (.tmp 14) (.tmp 18) rfl V.heap.size V.heap.size _ _ (pcs S k) rfl HO.out (some ⟨w.heap.size, k * 16, none⟩) 16 16 rfl HP1.out.symm HS1.out HM1.out HV.out.size ?_; intro v2 w2 HO2 HG2 HL2)
      have HV2 : Hid (Below V.heap.size V w2) := Lib.hid (HV.out.grown HG2.out HV.out.size fun g' hg' => (HO.out.base_ hg').1)
      have HS2 := Lib.hid (HSM.out w2 HV2.out).2
      have HM2 : Hid ((bs ++ rows h' k ++ pcs S k).length + (pcs S (32 + k)).length ≤ 140737488355328) := Lib.hid (by rw [List.length_append, List.length_append, HRL.out, HP1.out, HP2.out, HN.out]; omega)
      have HO2s : Hid (Own w2 V.heap.size v2 (bs ++ rows h' k ++ pcs S k)) := Lib.hid (by first | exact HO2.out | (rw [List.append_assoc]; exact HO2.out))
      clear HG2 HL2 HO2
      go_wp2_with (at_builtin; refine wpList_app rfl (.tmp 20) (.tmp 24) rfl V.heap.size V.heap.size _ _ (pcs S (32 + k)) rfl HO2s.out (some ⟨w.heap.size, 512 + k * 16, none⟩) 16 16 rfl HP2.out.symm HS2.out HM2.out HV2.out.size ?_)
      intro v3 w3 HO3 HG3 HL3
      have HV3 : Hid (Below V.heap.size V w3) := Lib.hid (HV2.out.grown HG3.out HV2.out.size fun g' hg' => (HO2s.out.base_ hg').1)
      have HOE : Hid (Own w3 V.heap.size v3 (bs ++ rows h' (k + 1))) := Lib.hid (by
        have h := HO3.out
        rw [rows_succ, HH.out k]
        first | exact h | (rw [List.append_assoc] at h; exact h) | (simp only [List.append_assoc] at h; exact h) | (simp only [List.append_assoc]; exact h))
      clear HG3 HL3 HO3 hs1 hs2
      go_wp2
      go_roundw
      case rel => exact ⟨k + 1, by omega, by go_num, HOE, HV3⟩
      case measure => simp [intOf]; omega
    · obtain rfl : k = 32 := by omega
      rw [← HLN.out] at HO
      have HOw : Hid (Own wr w.heap.size u5 (bs ++ layN S)) := Lib.hid (Own.lower HO.out (by omega))
      go_wp2
      go_ret
      exact ⟨_, rfl, HOw.out, HW.out.trans (HV.out.mono (by omega))⟩
end Go.Proofs.YtkonokjhpddbfaaDoor
