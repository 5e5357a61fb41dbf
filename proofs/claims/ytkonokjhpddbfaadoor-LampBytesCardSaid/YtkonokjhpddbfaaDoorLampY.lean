/-
  lamp.Lay (function 33): place by place both pieces behind an Out; of older memory only the Out's own block is written.
-/
import Derived.Test.YtkonokjhpddbfaaDoorLampT
import Derived.Test.YtkonokjhpddbfaaDoorLampE
import Derived.Test.YtkonokjhpddbfaaDoorOctOnesLib
namespace Go.Proofs.YtkonokjhpddbfaaDoor
open Go.RowKit
set_option linter.unusedVariables false

/-- A signature's bytes. -/
def layN (S : List Nat) : List Nat := rows (fun a => pcs S a ++ pcs S (32 + a)) 32
theorem ints_append (l m : List Nat) : ints l ++ ints m = ints (l ++ m) := by simp [ints]
theorem ints_length (l : List Nat) : (ints l).length = l.length := by simp [ints]
theorem build_dig (x : List Nat) (hx : x.length = 32) (w : World) : (Instr.buildSlice 92 1 #[(0, .agg (w8 x).toArray)]).run Tryd.prog w = .ok (.slice (some ⟨w.heap.size, 0, none⟩) 1 1) (w.alloc (.cells (w8 x).toArray 36)) := by
  have h := Oct.build_sum (ints x) (by rw [byt_ints, w8_length, hx]) w
  rw [byt_ints] at h
  exact h
theorem wpList_lay {ops : Array Oper} {rest : List Oper} {o : Oper} {a : Act} {w : World} {Q : Exit → Act → World → Prop} (hgd : o.guard = none) (t len : Nat) (parts : Array (Nat × Operand)) (ho : o.op = .buildSlice t len parts)
    (vals : Array (Nat × Value)) (hv : (parts.map fun (i, x) => (i, a.eval x)) = vals) (cells : Array Value) (e : TypeId) (hb : (Instr.buildSlice t len vals).run Tryd.prog w = .ok (.slice (some ⟨w.heap.size, 0, none⟩) len len) (w.alloc (.cells cells e)))
    (h : wpList Tryd.prog ops Q rest (a.put o.dst (.slice (some ⟨w.heap.size, 0, none⟩) len len)) (w.alloc (.cells cells e))) : wpList Tryd.prog ops Q (o :: rest) a w := by
  refine wpList_plain hgd fun K hK => ?_
  have e : (execOp a.eval o).run Tryd.prog w = .ok (.value (.slice (some ⟨w.heap.size, 0, none⟩) len len)) (w.alloc (.cells cells e)) := by
    unfold execOp
    simp only [ho, hv, Sem.run_bind, hb, Result.andThen_ok, Sem.run_pure]
  unfold Oper.wp
  rw [e]
  exact hK _ _ h
/-- What has grown from V on by laying behind v: v's block, and what is new. -/
structure LayAt (V wr : World) (base : Nat) (v t : Value) (l : List Nat) : Prop where
  own : Oct.Own wr base t (ints l)
  grown : V.grownBy wr v.ownBlock
  lies : t.ownBlock = v.ownBlock ∨ ∃ gg, V.heap.size ≤ gg ∧ t.ownBlock = some gg
theorem grown_new' {w X1 X2 : World} {r q : Option Nat} (h : w.grownBy X1 r) (h2 : X1.grownBy X2 q) (hb : ∀ b, q = some b → w.heap.size ≤ b) : w.grownBy X2 r :=
  ⟨h2.os.trans h.os, h2.tape.trans h.tape, h2.output.trans h.output, Nat.le_trans h.size h2.size, fun i hi hn => (h2.block i (Nat.lt_of_lt_of_le hi h.size) (by intro he; have := hb i he.symm; omega)).trans (h.block i hi hn)⟩
theorem LayAt.below {V wr w' : World} {base : Nat} {v t : Value} {l : List Nat} (h : LayAt V wr base v t l) (hB : Below wr.heap.size wr w') : LayAt V w' base v t l := ⟨h.own.below hB, Oct.only_below h.grown hB, h.lies⟩
theorem LayAt.step {V wr w' : World} {base : Nat} {v t t' : Value} {l m : List Nat} (h : LayAt V wr base v t l) (hO : Oct.Own w' base t' (ints m)) (hg : wr.grownBy w' t.ownBlock) (hL : Oct.Lies wr t t') : LayAt V w' base v t' m := by
  have hg2 : V.grownBy w' v.ownBlock := by
    rcases h.lies with e | ⟨gg, h1, h2⟩
    · rw [e] at hg
      exact h.grown.trans hg
    · exact grown_new' h.grown hg (fun b hb => by rw [h2] at hb; injection hb; omega)
  refine ⟨hO, hg2, ?_⟩
  rcases hL with e | ⟨gg, h1, h2⟩
  · rw [e]; exact h.lies
  · exact .inr ⟨gg, Nat.le_trans h.grown.size h1, h2⟩
/-- A store into a block that is new, and isn't the laid bytes' own. -/
theorem LayAt.other {V wr w' : World} {base b : Nat} {v t : Value} {l : List Nat} (h : LayAt V wr base v t l) (hg : wr.grownBy w' (some b)) (hb : V.heap.size ≤ b) (hn : t.ownBlock ≠ some b) : LayAt V w' base v t l :=
  ⟨World.ownsRow.kept h.own hg (by rcases ht : t.ownBlock with _ | g
                                   · exact .inl rfl
                                   · exact .inr fun he => hn (by rw [ht, he])), grown_new' h.grown hg (fun c hc => by injection hc; omega), h.lies⟩

set_option maxRecDepth 100000 in
set_option maxHeartbeats 1000000 in
theorem lay_lamp (S : List Nat) (v : Value) (base : Nat) (xs : List Nat) (w : World) (HL : Hid (S.length = 1024)) (HP : Hid (∀ x ∈ S, x < 256)) (HO : Hid (Oct.Own w base v (ints xs))) (hbase : base ≤ w.heap.size) (hxs : xs.length ≤ 100000) :
    Calls Tryd.prog 33 #[.agg (w8 S).toArray, v] w (fun e w' => ∃ v', e = .returned v' ∧ Oct.Own w' base v' (ints (xs ++ layN S)) ∧ w.grownBy w' v.ownBlock ∧ Oct.Lies w v v') := by
  go_enter Tryd.func33, Tryd.ntmps33
  go_upto_region 1 with fail
  have HA : Hid (Blk (w.alloc (.cells (w8 S).toArray 56)) w.heap.size 56 (w8 S)) := Lib.hid (by
    have h := Blk.new w 56 (w8 S)
    exact h)
  have HW : Hid (Below w.heap.size w (w.alloc (.cells (w8 S).toArray 56))) := Lib.hid ((Below.refl _ _).alloc (Nat.le_refl _) _)
  generalize (w.alloc (.cells (w8 S).toArray 56)) = V at HA HW ⊢
  have hV : w.heap.size < V.heap.size := HA.out.lt
  have HVL : Hid (∀ b, v.ownBlock = some b → b < w.heap.size) := Lib.hid fun b hb => (World.ownsRow.lt HO.out b hb).2
  obtain ⟨h', hh⟩ : ∃ h : Nat → List Nat, h = fun a => pcs S a ++ pcs S (32 + a) := ⟨_, rfl⟩
  have HH : Hid (∀ a, h' a = pcs S a ++ pcs S (32 + a)) := Lib.hid fun a => by rw [hh]
  have HLN : Hid (layN S = rows h' 32) := Lib.hid (by rw [hh]; rfl)
  have HHL : Hid (∀ a, a < 32 → (h' a).length = 32) := Lib.hid fun a ha => by rw [hh]; simp only [List.length_append]; rw [pcs_length _ _ (by rw [HL.out]; omega), pcs_length _ _ (by rw [HL.out]; omega)]
  clear hh
  have HLY : Hid (LayAt V V base v v (xs ++ rows h' 0)) := Lib.hid ⟨by rw [rows_zero, List.append_nil]; exact HO.out.below HW.out, World.grownBy.refl _ _, .inl rfl⟩
  go_wp2_with fail
  go_loopw [8, 1, 5, 6, 7] (fun i t _ _ _ wr => ∃ (k : Nat), k ≤ 32 ∧ i = .int .i64 k ∧ Hid (Blk wr w.heap.size 56 (w8 S)) ∧ Hid (LayAt V wr base v t (xs ++ rows h' k))) (fun i _ _ _ _ _ => 32 - (intOf i).toNat)
  case atStart => exact ⟨0, Nat.zero_le _, rfl, HA, HLY⟩
  case round =>
    clear HA HLY
    obtain ⟨k, hk, rfl, HA, HLY⟩ := hrel
    have HRL : Hid ((rows h' k).length = 32 * k) := Lib.hid (rows_length' k (fun a ha => HHL.out a (by omega)))
    by_cases hlt : k < 32
    · have k1 : (k : Int) < 32 := by omega
      have hwr : V.heap.size ≤ wr.heap.size := HLY.out.grown.size
      have HNB : Hid (∀ b, u1.ownBlock = some b → b < wr.heap.size) := Lib.hid fun b hb => (World.ownsRow.lt HLY.out.own b hb).2
      go_upto_region 5 with fail
      have HB4 : Hid (Blk (wr.alloc (.cells zsum 36)) wr.heap.size 36 (w8 (List.replicate 32 0))) := Lib.hid (by
        have h := Blk.new wr 36 (w8 (List.replicate 32 0))
        rw [zsum_eq] at h
        exact h)
      have HX4 : Hid (Below wr.heap.size wr (wr.alloc (.cells zsum 36))) := Lib.hid ((Below.refl _ _).alloc (Nat.le_refl _) _)
      unfold zsum at HB4 HX4
      generalize (wr.alloc (.cells _ 36)) = X4 at HB4 HX4 ⊢
      have HA4 := Lib.hid (HA.out.below HX4.out HA.out.lt)
      have HY4 := Lib.hid (HLY.out.below HX4.out)
      have hgB : V.heap.size ≤ wr.heap.size := hwr
      generalize hgg : wr.heap.size = gB at HB4 hgB HNB ⊢
      have HP1 : Hid ((pcs S k).length = 16) := Lib.hid (pcs_length _ _ (by rw [HL.out]; omega))
      have HP2 : Hid ((pcs S (32 + k)).length = 16) := Lib.hid (pcs_length _ _ (by rw [HL.out]; omega))
      have HL1 : Hid ((w8 (pcs S k)).length = 16) := Lib.hid (by rw [w8_length, HP1.out])
      have HL2 : Hid ((w8 (pcs S (32 + k))).length = 16) := Lib.hid (by rw [w8_length, HP2.out])
      have HSa : Hid (∀ (X : World), Blk X w.heap.size 56 (w8 S) → ∀ j v, (w8 (pcs S k))[j]? = some v → X.drew.cell? ((⟨w.heap.size, k * 16, none⟩ : Addr).add j) = some v) := Lib.hid fun X h => by
        have h1 := src_part (w := X.drew) h (k * 16) 16
        unfold pcs
        rw [Nat.mul_comm 16 k]
        exact h1
      have HSb : Hid (∀ (X : World), Blk X w.heap.size 56 (w8 S) → ∀ j v, (w8 (pcs S (32 + k)))[j]? = some v → X.drew.cell? ((⟨w.heap.size, 512 + k * 16, none⟩ : Addr).add j) = some v) := Lib.hid fun X h => by
        have h1 := src_part (w := X.drew) h (512 + k * 16) 16
        unfold pcs
        rw [show 16 * (32 + k) = 512 + k * 16 by omega]
        exact h1
      have HFa : Hid (0 + 16 ≤ (w8 (List.replicate 32 0)).length) := Lib.hid (by rw [w8_length]; simp)
      have HFb : Hid (16 + 16 ≤ (w8 (pcs S k ++ List.replicate 16 0)).length) := Lib.hid (by rw [w8_length, List.length_append, HP1.out]; simp)
      clear HA HLY HX4
      have hsa := slice32 gB 0
      have hsb := slice16 w.heap.size (k * 16)
      refine wp_region_held_drew (S := fun w' => True) (by kernel_rfl) trivial (fun hHeld => ?_)
      refine wpAnyH_take (i := 0) (v := .slice (some ⟨gB, 0, none⟩) 32 32) rfl (by kernel_rfl) (by kernel_rfl) (by kernel_rfl) (fun _ _ _ h => h) (Or.inl ⟨by rfl, by intro w' _; go_simp⟩) hHeld ?_
      show wpAnyH _ _ _ _ _ _ _ (Act.put _ (some 11) _) _
      simp only [Act.put, List.setIfInBounds_toArray, List.set_cons_zero, List.set_cons_succ]
      refine wpAnyH_take (i := 1) (v := .int .i64 (k : Int)) rfl (by kernel_rfl) (by kernel_rfl) (by kernel_rfl) (fun _ _ _ h => h) (Or.inl ⟨by rfl, fun w _ => by rfl⟩) hHeld ?_
      show wpAnyH _ _ _ _ _ _ _ (Act.put _ (some 12) _) _
      simp only [Act.put, List.setIfInBounds_toArray, List.set_cons_zero, List.set_cons_succ]
      refine wpAnyH_take (i := 2) (v := .pointer (some ⟨w.heap.size, 0, none⟩)) rfl (by kernel_rfl) (by kernel_rfl) (by kernel_rfl) (fun _ _ _ h => h) (Or.inl ⟨by rfl, by intro w' _; go_simp⟩) hHeld ?_
      show wpAnyH _ _ _ _ _ _ _ (Act.put _ (some 13) _) _
      simp only [Act.put, List.setIfInBounds_toArray, List.set_cons_zero, List.set_cons_succ]
      refine wpAnyH_take (i := 3) (v := .pointer (some ⟨w.heap.size, k * 16, none⟩)) rfl (by kernel_rfl) (by kernel_rfl) (by kernel_rfl) (fun _ _ _ h => h) (Or.inl ⟨by rfl, by intro w' _; go_simp⟩) hHeld ?_
      show wpAnyH _ _ _ _ _ _ _ (Act.put _ (some 14) _) _
      simp only [Act.put, List.setIfInBounds_toArray, List.set_cons_zero, List.set_cons_succ]
      refine wpAnyH_take (i := 4) (v := .slice (some ⟨w.heap.size, k * 16, none⟩) 16 16) rfl (by kernel_rfl) (by kernel_rfl) (by kernel_rfl) (fun _ _ _ h => h) (Or.inl ⟨by rfl, by intro w' _; go_simp⟩) hHeld ?_
      show wpAnyH _ _ _ _ _ _ _ (Act.put _ (some 15) _) _
      simp only [Act.put, List.setIfInBounds_toArray, List.set_cons_zero, List.set_cons_succ]
      refine wpAnyH_ready (rs := [5]) (by kernel_rfl) (by simp) ?_
      refine AllReadyH.cons rfl (fun K hK => ?_) AllReadyH.nil
      refine step_copy_at rfl (.tmp 11) (.tmp 15) 30 30 rfl 5 Tryd.underlying30 info5 gB 0 32 32 ⟨w.heap.size, k * 16, none⟩ 16 16 rfl rfl (w8 (List.replicate 32 0)) 36 (HB4.out.drewN 1) (w8 (pcs S k)) 16 HL1.out rfl (HSa.out _ HA4.out) HFa.out (w8_one _) ?_
      intro X5 HB5 HG5
      refine hK.out _ _ (trivial) (fun hHeld => ?_)
      clear hK K
      show wpAnyH _ _ _ _ _ _ _ (Act.put _ (some 16) _) _
      simp only [Act.put, List.setIfInBounds_toArray, List.set_cons_zero, List.set_cons_succ]
      refine wpAnyH_take (i := 6) (v := .int .i64 16) rfl (by kernel_rfl) (by kernel_rfl) (by kernel_rfl) (fun _ _ _ h => h) (Or.inl ⟨by rfl, fun w _ => by rfl⟩) hHeld ?_
      show wpAnyH _ _ _ _ _ _ _ (Act.put _ (some 7) _) _
      simp only [Act.put, List.setIfInBounds_toArray, List.set_cons_zero, List.set_cons_succ]
      refine wpAnyH_done (by kernel_rfl) ?_ _
      have HB5s : Hid (Blk X5 gB 36 (w8 (pcs S k ++ List.replicate 16 0))) := Lib.hid (by
        have h := HB5.out
        have e := splice8 [] (List.replicate 16 0) (List.replicate 16 0) (pcs S k) 0 rfl (by rw [HP1.out]; simp)
        rw [List.nil_append, List.nil_append, List.replicate_append_replicate] at e
        rw [e] at h
        exact h)
      have HA5 := Lib.hid (Blk.grown (HA4.out.drewN 1) HG5.out (by intro he; injection he; omega))
      have HY5 := Lib.hid (LayAt.other (HY4.out.below (below_drewN (Below.refl _ _) 1)) HG5.out hgB (by intro he; have := HNB.out _ he; omega))
      clear HA4 HY4 HB4 HB5 HG5 hHeld hsa hsb
      go_upto_region 6 with fail
      have hsa := slice32_16 gB
      have hsb := slice16 w.heap.size (512 + k * 16)
      refine wp_region_held_drew (S := fun w' => True) (by kernel_rfl) trivial (fun hHeld => ?_)
      refine wpAnyH_take (i := 0) (v := .int .i64 16) rfl (by kernel_rfl) (by kernel_rfl) (by kernel_rfl) (fun _ _ _ h => h) (Or.inl ⟨by rfl, fun w _ => by rfl⟩) hHeld ?_
      show wpAnyH _ _ _ _ _ _ _ (Act.put _ (some 17) _) _
      simp only [Act.put, List.setIfInBounds_toArray, List.set_cons_zero, List.set_cons_succ]
      refine wpAnyH_take (i := 1) (v := .slice (some ⟨gB, 16, none⟩) 16 16) rfl (by kernel_rfl) (by kernel_rfl) (by kernel_rfl) (fun _ _ _ h => h) (Or.inl ⟨by rfl, by intro w' _; go_simp⟩) hHeld ?_
      show wpAnyH _ _ _ _ _ _ _ (Act.put _ (some 18) _) _
      simp only [Act.put, List.setIfInBounds_toArray, List.set_cons_zero, List.set_cons_succ]
      refine wpAnyH_take (i := 2) (v := .int .i64 (k : Int)) rfl (by kernel_rfl) (by kernel_rfl) (by kernel_rfl) (fun _ _ _ h => h) (Or.inl ⟨by rfl, fun w _ => by rfl⟩) hHeld ?_
      show wpAnyH _ _ _ _ _ _ _ (Act.put _ (some 19) _) _
      simp only [Act.put, List.setIfInBounds_toArray, List.set_cons_zero, List.set_cons_succ]
      refine wpAnyH_take (i := 3) (v := .pointer (some ⟨w.heap.size, 512, none⟩)) rfl (by kernel_rfl) (by kernel_rfl) (by kernel_rfl) (fun _ _ _ h => h) (Or.inl ⟨by rfl, by intro w' _; go_simp⟩) hHeld ?_
      show wpAnyH _ _ _ _ _ _ _ (Act.put _ (some 20) _) _
      simp only [Act.put, List.setIfInBounds_toArray, List.set_cons_zero, List.set_cons_succ]
      refine wpAnyH_take (i := 4) (v := .pointer (some ⟨w.heap.size, 512 + k * 16, none⟩)) rfl (by kernel_rfl) (by kernel_rfl) (by kernel_rfl) (fun _ _ _ h => h) (Or.inl ⟨by rfl, by intro w' _; go_simp⟩) hHeld ?_
      show wpAnyH _ _ _ _ _ _ _ (Act.put _ (some 21) _) _
      simp only [Act.put, List.setIfInBounds_toArray, List.set_cons_zero, List.set_cons_succ]
      refine wpAnyH_take (i := 5) (v := .slice (some ⟨w.heap.size, 512 + k * 16, none⟩) 16 16) rfl (by kernel_rfl) (by kernel_rfl) (by kernel_rfl) (fun _ _ _ h => h) (Or.inl ⟨by rfl, by intro w' _; go_simp⟩) hHeld ?_
      show wpAnyH _ _ _ _ _ _ _ (Act.put _ (some 22) _) _
      simp only [Act.put, List.setIfInBounds_toArray, List.set_cons_zero, List.set_cons_succ]
      refine wpAnyH_ready (rs := [6]) (by kernel_rfl) (by simp) ?_
      refine AllReadyH.cons rfl (fun K hK => ?_) AllReadyH.nil
      refine step_copy_at rfl (.tmp 18) (.tmp 22) 30 30 rfl 5 Tryd.underlying30 info5 gB 16 16 16 ⟨w.heap.size, 512 + k * 16, none⟩ 16 16 rfl rfl (w8 (pcs S k ++ List.replicate 16 0)) 36 (HB5s.out.drewN 1) (w8 (pcs S (32 + k))) 16 HL2.out rfl (HSb.out _ HA5.out) HFb.out (w8_one _) ?_
      intro X6 HB6 HG6
      refine hK.out _ _ (trivial) (fun hHeld => ?_)
      clear hK K
      show wpAnyH _ _ _ _ _ _ _ (Act.put _ (some 23) _) _
      simp only [Act.put, List.setIfInBounds_toArray, List.set_cons_zero, List.set_cons_succ]
      refine wpAnyH_done (by kernel_rfl) ?_ _
      have HB6s : Hid (Blk X6 gB 36 (w8 (h' k))) := Lib.hid (by
        have h := HB6.out
        have e := splice8 (pcs S k) (List.replicate 16 0) [] (pcs S (32 + k)) 16 HP1.out (by rw [HP2.out]; simp)
        rw [List.append_nil, List.append_nil, ← HH.out k] at e
        rw [e] at h
        exact h)
      have HA6 := Lib.hid (Blk.grown (HA5.out.drewN 1) HG6.out (by intro he; injection he; omega))
      have HY6 := Lib.hid (LayAt.other (HY5.out.below (below_drewN (Below.refl _ _) 1)) HG6.out hgB (by intro he; have := HNB.out _ he; omega))
      clear HA5 HY5 HB5s HB6 HG6 hHeld hsa hsb
      have HRG := Lib.hid HB6s.out.all
      have HHK : Hid ((h' k).length = 32) := Lib.hid (HHL.out k hlt)
      have HS7 : Hid ((Tryd.prog.info? 36).map (·.size) = some (w8 (h' k)).length) := Lib.hid (by rw [w8_length, HHK.out]; exact info36)
      have HBD : Hid (∀ X : World, (Instr.buildSlice 92 1 #[(0, .agg (w8 (h' k)).toArray)]).run Tryd.prog X = .ok (.slice (some ⟨X.heap.size, 0, none⟩) 1 1) (X.alloc (.cells (w8 (h' k)).toArray 36))) := Lib.hid fun X => build_dig (h' k) HHK.out X
      go_wp2_with (first | (refine wpList_load_mid rfl 36 (.tmp 6) rfl gB 0 rfl (w8 (h' k)) _ HRG.out Tryd.underlying36 rfl HS7.out ?_) | (refine wpList_lay rfl 92 1 #[(0, .tmp 25)] rfl #[(0, .agg (w8 (h' k)).toArray)] (by simp [Act.eval, Act.put]) (w8 (h' k)).toArray 36 (HBD.out _) ?_))
      have HB7 : Hid (Blk (X6.alloc (.cells (w8 (h' k)).toArray 36)) X6.heap.size 36 (w8 (h' k))) := Lib.hid (by
        have h := Blk.new X6 36 (w8 (h' k))
        exact h)
      have HX7 : Hid (Below X6.heap.size X6 (X6.alloc (.cells (w8 (h' k)).toArray 36))) := Lib.hid ((Below.refl _ _).alloc (Nat.le_refl _) _)
      generalize (X6.alloc (.cells (w8 (h' k)).toArray 36)) = X7 at HB7 HX7 ⊢
      have HA7 := Lib.hid (HA6.out.below HX7.out HA6.out.lt)
      have HY7 := Lib.hid (HY6.out.below HX7.out)
      have hc := Oct.outsum_one u1 X6.heap.size base (ints (xs ++ rows h' k)) (ints (h' k)) X7 HY7.out.own (by have h := HB7.out; unfold Blk at h; rw [byt_ints]; exact h) (by rw [ints_length, HHK.out]) (by rw [ints_length, List.length_append, HRL.out]; omega) (by have := HY7.out.grown.size; have := HW.out.size; omega)
      refine hc.mono ?_
      clear hc
      rintro e X8 ⟨v8, rfl, hO8, hg8, hL8⟩
      rw [ints_append, List.append_assoc, ← rows_succ] at hO8
      have HA8 := Lib.hid (HA7.out.grown hg8 (by
        intro he
        rcases HY7.out.lies with e1 | ⟨gg, e1, e2⟩
        · rw [e1] at he; have := HVL.out _ he.symm; omega
        · rw [e2] at he; injection he; omega))
      have HY8 := Lib.hid (HY7.out.step hO8 hg8 hL8)
      clear hO8 hg8 hL8 HA6 HY6 HA7 HY7 HX7 HB7 HB6s HRG HBD hgg
      go_wp2
      go_roundw
      case rel => exact ⟨k + 1, by omega, by go_num, HA8, HY8⟩
      case measure => simp [intOf]; omega
    · obtain rfl : k = 32 := by omega
      rw [← HLN.out] at HLY
      go_wp2
      go_ret
      refine ⟨_, rfl, HLY.out.own, (Oct.Below.grownBy HW.out _).trans HLY.out.grown, ?_⟩
      rcases HLY.out.lies with e1 | ⟨gg, e1, e2⟩
      · exact .inl e1
      · exact .inr ⟨gg, by omega, e2⟩
end Go.Proofs.YtkonokjhpddbfaaDoor
