/-
  The document's In (tollhouseref01): Raw (function 98), Sum (73), Left (36): place by place the next 32 bytes, or an error; of older memory only the In is written.
-/
import Derived.Test.YtkonokjhpddbfaaDoorLampY
import Derived.Lib.SlBytesRow
namespace Go.Proofs.YtkonokjhpddbfaaDoor
open Go.RowKit
set_option linter.unusedVariables false

/-- The document's In behind k sums. -/
theorem step_lay8 {ops : Array Oper} {o : Oper} {a : Act} {w : World} {K : Act → World → Prop} {Q : Exit → Act → World → Prop} {E : Prop} (hw : Region.wanted o (yielded ops a.tmps) = true) (t len : Nat) (parts : Array (Nat × Operand)) (ho : o.op = .buildSlice t len parts)
    (vals : Array (Nat × Value)) (hv : (parts.map fun (i, x) => (i, a.eval x)) = vals) (cells : Array Value) (e : TypeId) (hb : (Instr.buildSlice t len vals).run Tryd.prog w = .ok (.slice (some ⟨w.heap.size, 0, none⟩) len len) (w.alloc (.cells cells e)))
    (h : K (a.put o.dst (.slice (some ⟨w.heap.size, 0, none⟩) len len)) (w.alloc (.cells cells e))) :
    if Region.wanted o (yielded ops a.tmps) = true then Oper.wp Tryd.prog o a w K Q else E := by
  rw [if_pos hw]
  have e : (execOp a.eval o).run Tryd.prog w = .ok (.value (.slice (some ⟨w.heap.size, 0, none⟩) len len)) (w.alloc (.cells cells e)) := by
    unfold execOp
    simp only [ho, hv, Sem.run_bind, hb, Result.andThen_ok, Sem.run_pure]
  unfold Oper.wp
  rw [e]
  exact h

theorem step_new8 {ops : Array Oper} {o : Oper} {a : Act} {w : World} {K : Act → World → Prop} {Q : Exit → Act → World → Prop} {E : Prop} (hw : Region.wanted o (yielded ops a.tmps) = true) (t : TypeId) (ho : o.op = .alloc t)
    (cells : Array Value) (hb : (Instr.alloc t true (.tuple #[])).run Tryd.prog w = .ok (.pointer (some ⟨w.heap.size, 0, none⟩)) (w.alloc (.cells cells t)))
    (h : K (a.put o.dst (.pointer (some ⟨w.heap.size, 0, none⟩))) (w.alloc (.cells cells t))) :
    if Region.wanted o (yielded ops a.tmps) = true then Oper.wp Tryd.prog o a w K Q else E := by
  rw [if_pos hw]
  have e : (execOp a.eval o).run Tryd.prog w = .ok (.value (.pointer (some ⟨w.heap.size, 0, none⟩))) (w.alloc (.cells cells t)) := by
    unfold execOp
    simp only [ho, Sem.run_bind, hb, Result.andThen_ok, Sem.run_pure]
  unfold Oper.wp
  rw [e]
  exact h

theorem w8_set8 (l : List Nat) (k x : Nat) : (w8 l).set k (.int .u8 (x : Int)) = w8 (l.set k x) := by simp [w8, List.map_set]
def rAt (L k : Nat) : Nat := if 32 * k ≤ L then 32 * k else 32 * (L / 32)
def rBad (L k : Nat) : Nat := if 32 * k ≤ L then 0 else 9
structure RefK (w : World) (g : Nat) (A : Option Addr) (c : Nat) (l : List Nat) (k : Nat) : Prop where
  blk : Blk w g 68 [.slice A l.length c, .int .i64 ((rAt l.length k : Nat) : Int), .int .i64 ((rBad l.length k : Nat) : Int)]
  src : Src w g A c l
  cap : c ≤ 9223372036854775807
  old : l ≠ [] → ∀ a, A = some a → a.block < g
theorem RefK.below {w w' : World} {g : Nat} {A : Option Addr} {c : Nat} {l : List Nat} {k : Nat} (h : RefK w g A c l k) (hb : Below w.heap.size w w') : RefK w' g A c l k := ⟨h.blk.below hb h.blk.lt, h.src.below hb, h.cap, h.old⟩
theorem Src.farG {w w' : World} {b n : Nat} {A : Option Addr} {c : Nat} {l : List Nat} (h : Src w b A c l) (hg : w.grownBy w' (some n)) (hn : l ≠ [] → ∀ a, A = some a → a.block ≠ n) : Src w' b A c l := by
  refine ⟨h.le, ?_, h.lt⟩
  rcases h.at_ with h1 | ⟨g, off, h1, h2, h3, h4⟩
  · exact .inl h1
  · refine .inr ⟨g, off, h1, Nat.lt_of_lt_of_le h2 hg.size, h3, fun i hi => ?_⟩
    rw [← h4 i hi]
    exact World.cell?_of_block (hg.block g h2 (fun e => by injection e with e; exact hn (fun hl => by rw [hl] at hi; exact absurd hi (Nat.not_lt_zero _)) _ h1 e))
theorem RefK.far {w w' : World} {g n : Nat} {A : Option Addr} {c : Nat} {l : List Nat} {k : Nat} (h : RefK w g A c l k) (hg : w.grownBy w' (some n)) (hn : g < n) : RefK w' g A c l k :=
  ⟨h.blk.grown hg (by intro he; injection he; omega), h.src.farG hg (fun hl a ha => by have := h.old hl a ha; omega), h.cap, h.old⟩
theorem step_app8 {ops : Array Oper} {o : Oper} {a : Act} {w : World} {K : Act → World → Prop} {Q : Exit → Act → World → Prop} {E : Prop} (hw : Region.wanted o (yielded ops a.tmps) = true) (s x : Operand)
    (ho : o.op = .call { callee := .builtin .append, args := #[s, x], argTypes := #[30, 30] })
    (base b : Nat) (v : Value) (xs l : List Nat) (hs : a.eval s = v) (hO : Own w base v xs) (A : Option Addr) (n c : Nat) (hx : a.eval x = .slice A n c) (hn : n = l.length) (hS : Src w b A c l) (hb : xs.length + l.length ≤ 140737488355328) (hbase : base ≤ w.heap.size)
    (h : ∀ v' w', Hid (Own w' base v' (xs ++ l)) → Hid (w.grownBy w' v.ownBlock) → K (a.put o.dst v') w') :
    if Region.wanted o (yielded ops a.tmps) = true then Oper.wp Tryd.prog o a w K Q else E := by
  rw [if_pos hw]
  subst hn
  obtain ⟨v', w', hr, h2, h3, h4⟩ := run_app w base b o.type v xs l hO A c hS hb hbase
  unfold Oper.wp execOp
  simp only [ho, resolve, invoke, builtin, Sem.run_bind, Sem.run_pure, Result.andThen_ok, List.map_toArray, List.map_cons, List.map_nil, hs, hx, hr]
  exact h v' w' (Lib.hid h2) (Lib.hid h3)
theorem window (g o L c lo hi : Nat) (h1 : lo < hi) (h2 : hi ≤ c) (W : World) : (Instr.slice 30 (.slice (some ⟨g, o, none⟩) L c) (some (.int .i64 (lo : Int))) (some (.int .i64 (hi : Int))) none).run Tryd.prog W = .ok (.slice (some ⟨g, o + lo, none⟩) (hi - lo) (c - lo)) W := by
  obtain ⟨i0, hi0, hz0, hz1, hz2⟩ := info_parts byte_info
  exact Lib.run_slice_window W 30 5 Tryd.underlying30 (fun w => by simp [sizeOf, typeInfo, hi0, hz1]) g o L c lo hi h1 h2

/-- What Raw of 32 bytes answers. -/
def RawPost (w : World) (g : Nat) (A : Option Addr) (c : Nat) (l : List Nat) (k : Nat) (e : Ending) (w' : World) : Prop :=
  (∃ A' c', e = .returned (.slice A' (if 32 * (k + 1) ≤ l.length then 32 else 0) c') ∧ (32 * (k + 1) ≤ l.length → ∀ b, b < w.heap.size → Src w' b A' c' ((l.drop (32 * k)).take 32))) ∧ RefK w' g A c l (k + 1) ∧ w.grownBy w' (some g)
theorem RawPost.whole {w : World} {g : Nat} {A : Option Addr} {c : Nat} {l : List Nat} {k : Nat} {w' : World} {A' : Option Addr} {c' : Nat} (hs : 32 * (k + 1) ≤ l.length) (h1 : ∀ b, b < w.heap.size → Src w' b A' c' ((l.drop (32 * k)).take 32)) (h2 : RefK w' g A c l (k + 1)) (h3 : w.grownBy w' (some g)) : RawPost w g A c l k (.returned (.slice A' 32 c')) w' :=
  ⟨⟨A', c', by rw [if_pos hs], fun _ => h1⟩, h2, h3⟩
theorem RawPost.short {w : World} {g : Nat} {A : Option Addr} {c : Nat} {l : List Nat} {k : Nat} {w' : World} (hs : ¬ 32 * (k + 1) ≤ l.length) (h2 : RefK w' g A c l (k + 1)) (h3 : w.grownBy w' (some g)) : RawPost w g A c l k (.returned (.slice none 0 0)) w' :=
  ⟨⟨none, 0, by rw [if_neg hs], fun h => absurd h hs⟩, h2, h3⟩
set_option maxRecDepth 100000 in
set_option maxHeartbeats 1000000 in
theorem raw_any (g : Nat) (A : Option Addr) (c : Nat) (l : List Nat) (k : Nat) (w : World) (HR : Hid (RefK w g A c l k)) (hl : l.length ≤ 5000) (hk : k < 100) :
    Calls Tryd.prog 98 #[.pointer (some ⟨g, 0, none⟩), .int .i64 32] w (RawPost w g A c l k) := by
  obtain ⟨L, hL⟩ : ∃ L, l.length = L := ⟨_, rfl⟩
  have hb := HR.out.blk
  rw [hL] at hb hl
  have HLL := Lib.hid hL
  by_cases h0 : 32 * k ≤ L
  · have e1 : rAt L k = 32 * k := if_pos h0
    have e2 : rBad L k = 0 := if_pos h0
    rw [e1, e2] at hb
    obtain ⟨at_, hat⟩ : ∃ a, 32 * k = a := ⟨_, rfl⟩
    rw [hat] at hb h0
    have hb' : Blk w g 68 [.slice A L c, .int .i64 (at_ : Int), .int .i64 0] := hb
    have HM := Lib.hid hb'
    have HMm := HM
    have HWm : Hid (Below w.heap.size w w) := Lib.hid (Below.refl _ _)
    have c2 := hb'.cell 2
    have a1 : (at_ : Int) ≤ (L : Int) := by omega
    have l1 : (L : Int) ≤ 5000 := by omega
    clear hb hb'
    go_enter Tryd.func98, Tryd.ntmps98
    go_upto_region 3 with fail
    by_cases hs : 32 * (k + 1) ≤ L
    · have wr1 : IntKind.i64.wrap ((L : Int) - (at_ : Int)) = (L : Int) - (at_ : Int) := IntWalk.i64_in _ (by omega)
      have hcmp : decide ((L : Int) - (at_ : Int) < 32) = false := by simp; omega
      have HMX0 : Hid (Blk w.drew g 68 [.slice A L c, .int .i64 (at_ : Int), .int .i64 0]) := Lib.hid (HMm.out.below (below_drewN (Below.refl _ _) 1) HMm.out.lt)
      have HWX0 : Hid (Below w.heap.size w w.drew) := Lib.hid (below_drewN HWm.out 1)
      refine wp_region_held_drew (S := fun w' => Blk w' g 68 [.slice A L c, .int .i64 (at_ : Int), .int .i64 0]) (by kernel_rfl) (HMX0.out) (fun hHeld => ?_)
      generalize w.drew = X0 at hHeld HMX0 HWX0 ⊢
      refine wpAnyH_take (i := 0) (v := .int .i64 32) rfl (by kernel_rfl) (by kernel_rfl) (by kernel_rfl) (fun _ _ _ h => h) (Or.inl ⟨by rfl, fun w _ => by rfl⟩) hHeld ?_
      show wpAnyH _ _ _ _ _ _ _ (Act.put _ (some 10) _) _
      simp only [Act.put, List.setIfInBounds_toArray, List.set_cons_zero, List.set_cons_succ]
      refine wpAnyH_take (i := 1) (v := .pointer (some ⟨g, 0, none⟩)) rfl (by kernel_rfl) (by kernel_rfl) (by kernel_rfl) (fun _ _ _ h => h) (Or.inl ⟨by rfl, fun w _ => by rfl⟩) hHeld ?_
      show wpAnyH _ _ _ _ _ _ _ (Act.put _ (some 11) _) _
      simp only [Act.put, List.setIfInBounds_toArray, List.set_cons_zero, List.set_cons_succ]
      refine wpAnyH_take (i := 2) (v := .pointer (some ⟨g, 0, none⟩)) rfl (by kernel_rfl) (by kernel_rfl) (by kernel_rfl) (fun _ _ _ h => h) (Or.inl ⟨by rfl, by intro w' _; go_simp⟩) hHeld ?_
      show wpAnyH _ _ _ _ _ _ _ (Act.put _ (some 12) _) _
      simp only [Act.put, List.setIfInBounds_toArray, List.set_cons_zero, List.set_cons_succ]
      refine wpAnyH_take (i := 3) (v := .pointer (some ⟨g, 0, none⟩)) rfl (by kernel_rfl) (by kernel_rfl) (by kernel_rfl) (fun _ _ _ h => h) (Or.inl ⟨by rfl, by intro w' _; go_simp⟩) hHeld ?_
      show wpAnyH _ _ _ _ _ _ _ (Act.put _ (some 13) _) _
      simp only [Act.put, List.setIfInBounds_toArray, List.set_cons_zero, List.set_cons_succ]
      refine wpAnyH_take (i := 4) (v := .slice A L c) rfl (by kernel_rfl) (by kernel_rfl) (by kernel_rfl) (fun _ _ _ h => h) (Or.inl ⟨by rfl, by intro w' h; have hc := Blk.cell h 0; go_simp⟩) hHeld ?_
      show wpAnyH _ _ _ _ _ _ _ (Act.put _ (some 14) _) _
      simp only [Act.put, List.setIfInBounds_toArray, List.set_cons_zero, List.set_cons_succ]
      refine wpAnyH_take (i := 5) (v := .int .i64 (L : Int)) rfl (by kernel_rfl) (by kernel_rfl) (by kernel_rfl) (fun _ _ _ h => h) (Or.inl ⟨by rfl, by intro w' _; go_simp⟩) hHeld ?_
      show wpAnyH _ _ _ _ _ _ _ (Act.put _ (some 15) _) _
      simp only [Act.put, List.setIfInBounds_toArray, List.set_cons_zero, List.set_cons_succ]
      refine wpAnyH_take (i := 6) (v := .pointer (some ⟨g, 0, none⟩)) rfl (by kernel_rfl) (by kernel_rfl) (by kernel_rfl) (fun _ _ _ h => h) (Or.inl ⟨by rfl, fun w _ => by rfl⟩) hHeld ?_
      show wpAnyH _ _ _ _ _ _ _ (Act.put _ (some 16) _) _
      simp only [Act.put, List.setIfInBounds_toArray, List.set_cons_zero, List.set_cons_succ]
      refine wpAnyH_take (i := 7) (v := .pointer (some ⟨g, 0, none⟩)) rfl (by kernel_rfl) (by kernel_rfl) (by kernel_rfl) (fun _ _ _ h => h) (Or.inl ⟨by rfl, by intro w' _; go_simp⟩) hHeld ?_
      show wpAnyH _ _ _ _ _ _ _ (Act.put _ (some 17) _) _
      simp only [Act.put, List.setIfInBounds_toArray, List.set_cons_zero, List.set_cons_succ]
      refine wpAnyH_take (i := 8) (v := .pointer (some ⟨g, 1, none⟩)) rfl (by kernel_rfl) (by kernel_rfl) (by kernel_rfl) (fun _ _ _ h => h) (Or.inl ⟨by rfl, by intro w' _; go_simp⟩) hHeld ?_
      show wpAnyH _ _ _ _ _ _ _ (Act.put _ (some 18) _) _
      simp only [Act.put, List.setIfInBounds_toArray, List.set_cons_zero, List.set_cons_succ]
      refine wpAnyH_take (i := 9) (v := .int .i64 (at_ : Int)) rfl (by kernel_rfl) (by kernel_rfl) (by kernel_rfl) (fun _ _ _ h => h) (Or.inl ⟨by rfl, by intro w' h; have hc := Blk.cell h 1; go_simp⟩) hHeld ?_
      show wpAnyH _ _ _ _ _ _ _ (Act.put _ (some 19) _) _
      simp only [Act.put, List.setIfInBounds_toArray, List.set_cons_zero, List.set_cons_succ]
      refine wpAnyH_take (i := 10) (v := .int .i64 ((L : Int) - (at_ : Int))) rfl (by kernel_rfl) (by kernel_rfl) (by kernel_rfl) (fun _ _ _ h => h) (Or.inl ⟨by rfl, by intro w' _; go_simp⟩) hHeld ?_
      show wpAnyH _ _ _ _ _ _ _ (Act.put _ (some 20) _) _
      simp only [Act.put, List.setIfInBounds_toArray, List.set_cons_zero, List.set_cons_succ]
      refine wpAnyH_take (i := 11) (v := .bool false) rfl (by kernel_rfl) (by kernel_rfl) (by kernel_rfl) (fun _ _ _ h => h) (Or.inl ⟨by rfl, by intro w' _; go_simp⟩) hHeld ?_
      show wpAnyH _ _ _ _ _ _ _ (Act.put _ (some 21) _) _
      simp only [Act.put, List.setIfInBounds_toArray, List.set_cons_zero, List.set_cons_succ]
      refine wpAnyH_done (by kernel_rfl) ?_ _
      clear hHeld
      have hsrc := HR.out.src
      rcases hsrc.at_ with hn | ⟨b, off, hA, hb1, hb2, hb3⟩
      · exfalso
        have h9 := HLL.out
        rw [hn] at h9
        simp at h9
        omega
      subst hA
      have c1b := HMX0.out.cell 1
      have f1b := HMX0.out.frozen 1
      have HM6 : Hid (Blk (X0.setCell ⟨g, 1, none⟩ (.int .i64 ((at_ : Int) + 32))) g 68 [.slice (some ⟨b, off, none⟩) L c, .int .i64 ((at_ : Int) + 32), .int .i64 0]) := Lib.hid (HMX0.out.set_ 1 (.int .i64 ((at_ : Int) + 32)))
      have HG6 : Hid (w.grownBy (X0.setCell ⟨g, 1, none⟩ (.int .i64 ((at_ : Int) + 32))) (some g)) := Lib.hid (only_setCell (Oct.only_below (only_refl w (some g)) HWX0.out) (.inl rfl) _)
      have HS6 := Lib.hid (HR.out.src.grown HG6.out)
      have e3 : rAt l.length (k + 1) = at_ + 32 := by rw [HLL.out]; unfold rAt; rw [if_pos hs]; omega
      have e4 : rBad l.length (k + 1) = 0 := by rw [HLL.out]; exact if_pos hs
      have cL : L ≤ c := by have := hsrc.le; rw [HLL.out] at this; exact this
      have hwin := window b off L c at_ (at_ + 32) (by omega) (by omega)
      rw [show at_ + 32 - at_ = 32 by omega, show ((at_ + 32 : Nat) : Int) = (at_ : Int) + 32 from rfl] at hwin
      have hsub : IntKind.i64.wrap (at_ : Int) = (at_ : Int) := IntWalk.i64_in _ (by omega)
      have HN32 : Hid (32 = ((l.drop (32 * k)).take 32).length) := Lib.hid (by rw [List.length_take, List.length_drop, HLL.out]; omega)
      have HM32 : Hid (([] : List Nat).length + ((l.drop (32 * k)).take 32).length ≤ 140737488355328) := Lib.hid (by rw [← HN32.out]; simp)
      have HB32 : Hid (∀ x ∈ [] ++ (l.drop (32 * k)).take 32, x < 256) := Lib.hid (fun x hx => hsrc.lt x (List.mem_of_mem_drop (List.mem_of_mem_take (by simpa using hx))))
      have HWS : Hid (∀ X, Src X g (some ⟨b, off, none⟩) c l → Src X g (some ⟨b, off + at_, none⟩) (c - at_) ((l.drop (32 * k)).take 32)) := Lib.hid fun X h => by
        refine ⟨by rw [← HN32.out]; omega, .inr ⟨b, off + at_, rfl, ?_, ?_, fun i hi => ?_⟩, fun x hx => h.lt x (List.mem_of_mem_drop (List.mem_of_mem_take hx))⟩
        · rcases h.at_ with hn | ⟨b2, o2, hA2, hq1, hq2, hq3⟩
          · exfalso; have h9 := HLL.out; rw [hn] at h9; simp at h9; omega
          · injection hA2 with hA2; injection hA2 with hA2; subst hA2; exact hq1
        · exact hb2
        · rcases h.at_ with hn | ⟨b2, o2, hA2, hq1, hq2, hq3⟩
          · exfalso; have h9 := HLL.out; rw [hn] at h9; simp at h9; omega
          · injection hA2 with hA2; injection hA2 with hA2 hA3; subst hA2; subst hA3
            rw [← HN32.out] at hi
            rw [Nat.add_assoc, hq3 (at_ + i) (by rw [HLL.out]; omega)]
            simp only [List.getD, List.getElem?_take, hi, if_true, List.getElem?_drop, hat]
      have HWS2 : Hid (∀ (X Y : World) (n : Nat), Src X g (some ⟨b, off, none⟩) c l → Below n X Y → b < n → Src Y g (some ⟨b, off, none⟩) c l) := Lib.hid (fun X Y n h hB hbn => ⟨h.le, by
        rcases h.at_ with hn | ⟨b2, o2, hA2, hq1, hq2, hq3⟩
        · exact .inl hn
        · injection hA2 with hA2; injection hA2 with hA2 hA3; subst hA2; subst hA3
          exact .inr ⟨b, off, rfl, Nat.lt_of_lt_of_le hq1 hB.size, hq2, fun i hi => by rw [hB.cell (p := ⟨b, off + i, none⟩) hbn]; exact hq3 i hi⟩, h.lt⟩)
      go_upto_region 7 with fail
      generalize X0.setCell ⟨g, 1, none⟩ (.int .i64 ((at_ : Int) + 32)) = w6 at HM6 HG6 HS6 ⊢
      have HWs6 : Hid (Below w6.heap.size w6 w6) := Lib.hid (Below.refl _ _)
      have HMs6 := HM6
      have HSs6 := HS6
      clear HMX0 HWX0
      have HMX0 : Hid (Blk w6.drew g 68 [.slice (some ⟨b, off, none⟩) L c, .int .i64 ((at_ : Int) + 32), .int .i64 0]) := Lib.hid (HMs6.out.below (below_drewN (Below.refl _ _) 1) HMs6.out.lt)
      have HSX0 : Hid (Src w6.drew g (some ⟨b, off, none⟩) c l) := Lib.hid (HSs6.out.below (below_drewN (Below.refl _ _) 1))
      have HWX0 : Hid (Below w6.heap.size w6 w6.drew) := Lib.hid (below_drewN HWs6.out 1)
      refine wp_region_held_drew (S := fun w' => Blk w' g 68 [.slice (some ⟨b, off, none⟩) L c, .int .i64 ((at_ : Int) + 32), .int .i64 0]) (by kernel_rfl) (HMX0.out) (fun hHeld => ?_)
      generalize w6.drew = X0 at hHeld HMX0 HSX0 HWX0 ⊢
      refine wpAnyH_take (i := 1) (v := .pointer (some ⟨g, 0, none⟩)) rfl (by kernel_rfl) (by kernel_rfl) (by kernel_rfl) (fun _ _ _ h => h) (Or.inl ⟨by rfl, fun w _ => by rfl⟩) hHeld ?_
      show wpAnyH _ _ _ _ _ _ _ (Act.put _ (some 35) _) _
      simp only [Act.put, List.setIfInBounds_toArray, List.set_cons_zero, List.set_cons_succ]
      refine wpAnyH_take (i := 2) (v := .pointer (some ⟨g, 0, none⟩)) rfl (by kernel_rfl) (by kernel_rfl) (by kernel_rfl) (fun _ _ _ h => h) (Or.inl ⟨by rfl, by intro w' _; go_simp⟩) hHeld ?_
      show wpAnyH _ _ _ _ _ _ _ (Act.put _ (some 36) _) _
      simp only [Act.put, List.setIfInBounds_toArray, List.set_cons_zero, List.set_cons_succ]
      refine wpAnyH_take (i := 3) (v := .pointer (some ⟨g, 0, none⟩)) rfl (by kernel_rfl) (by kernel_rfl) (by kernel_rfl) (fun _ _ _ h => h) (Or.inl ⟨by rfl, by intro w' _; go_simp⟩) hHeld ?_
      show wpAnyH _ _ _ _ _ _ _ (Act.put _ (some 37) _) _
      simp only [Act.put, List.setIfInBounds_toArray, List.set_cons_zero, List.set_cons_succ]
      refine wpAnyH_take (i := 4) (v := .slice (some ⟨b, off, none⟩) L c) rfl (by kernel_rfl) (by kernel_rfl) (by kernel_rfl) (fun _ _ _ h => h) (Or.inl ⟨by rfl, by intro w' h; have hc := Blk.cell h 0; go_simp⟩) hHeld ?_
      show wpAnyH _ _ _ _ _ _ _ (Act.put _ (some 38) _) _
      simp only [Act.put, List.setIfInBounds_toArray, List.set_cons_zero, List.set_cons_succ]
      refine wpAnyH_take (i := 5) (v := .pointer (some ⟨g, 0, none⟩)) rfl (by kernel_rfl) (by kernel_rfl) (by kernel_rfl) (fun _ _ _ h => h) (Or.inl ⟨by rfl, fun w _ => by rfl⟩) hHeld ?_
      show wpAnyH _ _ _ _ _ _ _ (Act.put _ (some 39) _) _
      simp only [Act.put, List.setIfInBounds_toArray, List.set_cons_zero, List.set_cons_succ]
      refine wpAnyH_take (i := 6) (v := .pointer (some ⟨g, 0, none⟩)) rfl (by kernel_rfl) (by kernel_rfl) (by kernel_rfl) (fun _ _ _ h => h) (Or.inl ⟨by rfl, by intro w' _; go_simp⟩) hHeld ?_
      show wpAnyH _ _ _ _ _ _ _ (Act.put _ (some 40) _) _
      simp only [Act.put, List.setIfInBounds_toArray, List.set_cons_zero, List.set_cons_succ]
      refine wpAnyH_take (i := 7) (v := .pointer (some ⟨g, 1, none⟩)) rfl (by kernel_rfl) (by kernel_rfl) (by kernel_rfl) (fun _ _ _ h => h) (Or.inl ⟨by rfl, by intro w' _; go_simp⟩) hHeld ?_
      show wpAnyH _ _ _ _ _ _ _ (Act.put _ (some 41) _) _
      simp only [Act.put, List.setIfInBounds_toArray, List.set_cons_zero, List.set_cons_succ]
      refine wpAnyH_take (i := 8) (v := .int .i64 ((at_ : Int) + 32)) rfl (by kernel_rfl) (by kernel_rfl) (by kernel_rfl) (fun _ _ _ h => h) (Or.inl ⟨by rfl, by intro w' h; have hc := Blk.cell h 1; go_simp⟩) hHeld ?_
      show wpAnyH _ _ _ _ _ _ _ (Act.put _ (some 42) _) _
      simp only [Act.put, List.setIfInBounds_toArray, List.set_cons_zero, List.set_cons_succ]
      refine wpAnyH_take (i := 9) (v := .int .i64 32) rfl (by kernel_rfl) (by kernel_rfl) (by kernel_rfl) (fun _ _ _ h => h) (Or.inl ⟨by rfl, fun w _ => by rfl⟩) hHeld ?_
      show wpAnyH _ _ _ _ _ _ _ (Act.put _ (some 43) _) _
      simp only [Act.put, List.setIfInBounds_toArray, List.set_cons_zero, List.set_cons_succ]
      refine wpAnyH_take (i := 10) (v := .int .i64 (at_ : Int)) rfl (by kernel_rfl) (by kernel_rfl) (by kernel_rfl) (fun _ _ _ h => h) (Or.inl ⟨by rfl, by intro w' _; go_simp⟩) hHeld ?_
      show wpAnyH _ _ _ _ _ _ _ (Act.put _ (some 44) _) _
      simp only [Act.put, List.setIfInBounds_toArray, List.set_cons_zero, List.set_cons_succ]
      refine wpAnyH_take (i := 11) (v := .pointer (some ⟨g, 0, none⟩)) rfl (by kernel_rfl) (by kernel_rfl) (by kernel_rfl) (fun _ _ _ h => h) (Or.inl ⟨by rfl, fun w _ => by rfl⟩) hHeld ?_
      show wpAnyH _ _ _ _ _ _ _ (Act.put _ (some 45) _) _
      simp only [Act.put, List.setIfInBounds_toArray, List.set_cons_zero, List.set_cons_succ]
      refine wpAnyH_take (i := 12) (v := .pointer (some ⟨g, 0, none⟩)) rfl (by kernel_rfl) (by kernel_rfl) (by kernel_rfl) (fun _ _ _ h => h) (Or.inl ⟨by rfl, by intro w' _; go_simp⟩) hHeld ?_
      show wpAnyH _ _ _ _ _ _ _ (Act.put _ (some 46) _) _
      simp only [Act.put, List.setIfInBounds_toArray, List.set_cons_zero, List.set_cons_succ]
      refine wpAnyH_take (i := 13) (v := .pointer (some ⟨g, 1, none⟩)) rfl (by kernel_rfl) (by kernel_rfl) (by kernel_rfl) (fun _ _ _ h => h) (Or.inl ⟨by rfl, by intro w' _; go_simp⟩) hHeld ?_
      show wpAnyH _ _ _ _ _ _ _ (Act.put _ (some 47) _) _
      simp only [Act.put, List.setIfInBounds_toArray, List.set_cons_zero, List.set_cons_succ]
      refine wpAnyH_take (i := 14) (v := .int .i64 ((at_ : Int) + 32)) rfl (by kernel_rfl) (by kernel_rfl) (by kernel_rfl) (fun _ _ _ h => h) (Or.inl ⟨by rfl, by intro w' h; have hc := Blk.cell h 1; go_simp⟩) hHeld ?_
      show wpAnyH _ _ _ _ _ _ _ (Act.put _ (some 48) _) _
      simp only [Act.put, List.setIfInBounds_toArray, List.set_cons_zero, List.set_cons_succ]
      refine wpAnyH_take (i := 15) (v := .slice (some ⟨b, off + at_, none⟩) 32 (c - at_)) rfl (by kernel_rfl) (by kernel_rfl) (by kernel_rfl) (fun _ _ _ h => h) (Or.inl ⟨by rfl, by intro w' _; go_simp⟩) hHeld ?_
      show wpAnyH _ _ _ _ _ _ _ (Act.put _ (some 49) _) _
      simp only [Act.put, List.setIfInBounds_toArray, List.set_cons_zero, List.set_cons_succ]
      refine wpAnyH_ready (rs := [0]) (by kernel_rfl) (by simp) ?_
      refine AllReadyH.cons rfl (fun K hK => ?_) AllReadyH.nil
      refine step_lay8 rfl 30 0 #[] rfl #[] (by simp [Act.eval]) #[] 5 (by kernel_rfl) ?_
      have hB : Below X0.heap.size X0 (X0.alloc (.cells #[] 5)) := (Below.refl _ _).alloc (Nat.le_refl _) _
      have HWX1 := Lib.hid (HWX0.out.trans (hB.mono HWX0.out.size))
      have HMX1 := Lib.hid (HMX0.out.below hB HMX0.out.lt)
      have HSX1 := Lib.hid (HSX0.out.below hB)
      have HEX1 : Hid (Blk (X0.alloc (.cells #[] 5)) X0.heap.size 5 []) := Lib.hid (Blk.new _ _ _)
      have HOE : Hid (Own (X0.alloc (.cells #[] 5)) X0.heap.size (.slice (some ⟨X0.heap.size, 0, none⟩) 0 0) []) := Lib.hid (Own.ofOct (Own.none_ X0))
      have hX0 : w6.heap.size ≤ X0.heap.size := HWX0.out.size
      clear hB
      refine hK.out _ _ (HMX1.out) (fun hHeld => ?_)
      generalize (X0.alloc (.cells #[] 5)) = X1 at hHeld HWX1 HMX1 HSX1 HEX1 HOE ⊢
      clear hK K
      show wpAnyH _ _ _ _ _ _ _ (Act.put _ (some 34) _) _
      simp only [Act.put, List.setIfInBounds_toArray, List.set_cons_zero, List.set_cons_succ]
      refine wpAnyH_ready (rs := [16]) (by kernel_rfl) (by simp) ?_
      refine AllReadyH.cons rfl (fun K hK => ?_) AllReadyH.nil
      refine step_app8 rfl (.tmp 34) (.tmp 49) rfl X0.heap.size g (.slice (some ⟨X0.heap.size, 0, none⟩) 0 0) [] ((l.drop (32 * k)).take 32) rfl HOE.out (some ⟨b, off + at_, none⟩) 32 (c - at_) rfl HN32.out (HWS.out _ HSX1.out) HM32.out (by have := HWX1.out.size; have := HEX1.out.lt; omega) ?_
      intro v9 X2 HO9 HG9a
      have HBw : Hid (Below X0.heap.size X1 X2) := Lib.hid (Oct.grown_below HG9a.out (by have := HEX1.out.lt; omega) (by intro gg hgg; have h5 : X0.heap.size = gg := (by simpa [Value.ownBlock] using hgg); omega))
      have HMX2 := Lib.hid (HMX1.out.below HBw.out (by have := HM6.out.lt; omega))
      have HSX2 : Hid (Src X2 g (some ⟨b, off, none⟩) c l) := Lib.hid (HWS2.out _ _ _ HSX1.out HBw.out (by have := HG6.out.size; omega))
      have HGwX2 : Hid (w.grownBy X2 (some g)) := Lib.hid (grown_new' (Oct.only_below HG6.out HWX1.out) HG9a.out (by intro gg hgg; have h5 : X0.heap.size = gg := (by simpa [Value.ownBlock] using hgg); have := HG6.out.size; omega))
      have HWX2 : Hid True := Lib.hid trivial
      obtain ⟨A9, c9, hv9, hc9, hs9⟩ := HO9.out.src (b := g) (by intro he; have h1 := (World.ownsRow.lt HO9.out g he).1; have := HM6.out.lt; omega) (HB32.out)
      rw [List.nil_append, ← HN32.out] at hv9
      rw [List.nil_append] at hs9
      subst hv9
      have HS9 : Hid (∀ bb, bb < w.heap.size → Src X2 bb A9 c9 ((l.drop (32 * k)).take 32)) := Lib.hid fun bb hbb => by
        obtain ⟨A8, c8, hv8, _, hs8⟩ := HO9.out.src (b := bb) (by intro he; have h1 := (World.ownsRow.lt HO9.out bb he).1; have := HG6.out.size; omega) HB32.out
        injection hv8 with q1 q2 q3
        subst q1
        subst q3
        exact hs8
      clear hs9 HO9 HG9a HBw HEX1 HOE
      refine hK.out _ _ (HMX2.out) (fun hHeld => ?_)
      clear hK K
      show wpAnyH _ _ _ _ _ _ _ (Act.put _ (some 50) _) _
      simp only [Act.put, List.setIfInBounds_toArray, List.set_cons_zero, List.set_cons_succ]
      refine wpAnyH_take (i := 17) (v := .slice A9 32 c9) rfl (by kernel_rfl) (by kernel_rfl) (by kernel_rfl) (fun _ _ _ h => h) (Or.inl ⟨by rfl, fun w _ => by rfl⟩) hHeld ?_
      show wpAnyH _ _ _ _ _ _ _ (Act.put _ (some 4) _) _
      simp only [Act.put, List.setIfInBounds_toArray, List.set_cons_zero, List.set_cons_succ]
      refine wpAnyH_done (by kernel_rfl) ?_ _
      clear hHeld
      have HE9 : Hid (RefK X2 g (some ⟨b, off, none⟩) c l (k + 1)) := Lib.hid ⟨by rw [e3, e4, HLL.out]; exact HMX2.out, HSX2.out, HR.out.cap, HR.out.old⟩
      have HG9 : Hid (w.grownBy X2 (some g)) := HGwX2
      go_wp2
      go_ret
      exact RawPost.whole (by rw [HLL.out]; exact hs) HS9.out HE9.out HG9.out
    · have wr1 : IntKind.i64.wrap ((L : Int) - (at_ : Int)) = (L : Int) - (at_ : Int) := IntWalk.i64_in _ (by omega)
      have hcmp : decide ((L : Int) - (at_ : Int) < 32) = true := by simp; omega
      have HMX0 : Hid (Blk w.drew g 68 [.slice A L c, .int .i64 (at_ : Int), .int .i64 0]) := Lib.hid (HMm.out.below (below_drewN (Below.refl _ _) 1) HMm.out.lt)
      have HWX0 : Hid (Below w.heap.size w w.drew) := Lib.hid (below_drewN HWm.out 1)
      refine wp_region_held_drew (S := fun w' => Blk w' g 68 [.slice A L c, .int .i64 (at_ : Int), .int .i64 0]) (by kernel_rfl) (HMX0.out) (fun hHeld => ?_)
      generalize w.drew = X0 at hHeld HMX0 HWX0 ⊢
      refine wpAnyH_take (i := 0) (v := .int .i64 32) rfl (by kernel_rfl) (by kernel_rfl) (by kernel_rfl) (fun _ _ _ h => h) (Or.inl ⟨by rfl, fun w _ => by rfl⟩) hHeld ?_
      show wpAnyH _ _ _ _ _ _ _ (Act.put _ (some 10) _) _
      simp only [Act.put, List.setIfInBounds_toArray, List.set_cons_zero, List.set_cons_succ]
      refine wpAnyH_take (i := 1) (v := .pointer (some ⟨g, 0, none⟩)) rfl (by kernel_rfl) (by kernel_rfl) (by kernel_rfl) (fun _ _ _ h => h) (Or.inl ⟨by rfl, fun w _ => by rfl⟩) hHeld ?_
      show wpAnyH _ _ _ _ _ _ _ (Act.put _ (some 11) _) _
      simp only [Act.put, List.setIfInBounds_toArray, List.set_cons_zero, List.set_cons_succ]
      refine wpAnyH_take (i := 2) (v := .pointer (some ⟨g, 0, none⟩)) rfl (by kernel_rfl) (by kernel_rfl) (by kernel_rfl) (fun _ _ _ h => h) (Or.inl ⟨by rfl, by intro w' _; go_simp⟩) hHeld ?_
      show wpAnyH _ _ _ _ _ _ _ (Act.put _ (some 12) _) _
      simp only [Act.put, List.setIfInBounds_toArray, List.set_cons_zero, List.set_cons_succ]
      refine wpAnyH_take (i := 3) (v := .pointer (some ⟨g, 0, none⟩)) rfl (by kernel_rfl) (by kernel_rfl) (by kernel_rfl) (fun _ _ _ h => h) (Or.inl ⟨by rfl, by intro w' _; go_simp⟩) hHeld ?_
      show wpAnyH _ _ _ _ _ _ _ (Act.put _ (some 13) _) _
      simp only [Act.put, List.setIfInBounds_toArray, List.set_cons_zero, List.set_cons_succ]
      refine wpAnyH_take (i := 4) (v := .slice A L c) rfl (by kernel_rfl) (by kernel_rfl) (by kernel_rfl) (fun _ _ _ h => h) (Or.inl ⟨by rfl, by intro w' h; have hc := Blk.cell h 0; go_simp⟩) hHeld ?_
      show wpAnyH _ _ _ _ _ _ _ (Act.put _ (some 14) _) _
      simp only [Act.put, List.setIfInBounds_toArray, List.set_cons_zero, List.set_cons_succ]
      refine wpAnyH_take (i := 5) (v := .int .i64 (L : Int)) rfl (by kernel_rfl) (by kernel_rfl) (by kernel_rfl) (fun _ _ _ h => h) (Or.inl ⟨by rfl, by intro w' _; go_simp⟩) hHeld ?_
      show wpAnyH _ _ _ _ _ _ _ (Act.put _ (some 15) _) _
      simp only [Act.put, List.setIfInBounds_toArray, List.set_cons_zero, List.set_cons_succ]
      refine wpAnyH_take (i := 6) (v := .pointer (some ⟨g, 0, none⟩)) rfl (by kernel_rfl) (by kernel_rfl) (by kernel_rfl) (fun _ _ _ h => h) (Or.inl ⟨by rfl, fun w _ => by rfl⟩) hHeld ?_
      show wpAnyH _ _ _ _ _ _ _ (Act.put _ (some 16) _) _
      simp only [Act.put, List.setIfInBounds_toArray, List.set_cons_zero, List.set_cons_succ]
      refine wpAnyH_take (i := 7) (v := .pointer (some ⟨g, 0, none⟩)) rfl (by kernel_rfl) (by kernel_rfl) (by kernel_rfl) (fun _ _ _ h => h) (Or.inl ⟨by rfl, by intro w' _; go_simp⟩) hHeld ?_
      show wpAnyH _ _ _ _ _ _ _ (Act.put _ (some 17) _) _
      simp only [Act.put, List.setIfInBounds_toArray, List.set_cons_zero, List.set_cons_succ]
      refine wpAnyH_take (i := 8) (v := .pointer (some ⟨g, 1, none⟩)) rfl (by kernel_rfl) (by kernel_rfl) (by kernel_rfl) (fun _ _ _ h => h) (Or.inl ⟨by rfl, by intro w' _; go_simp⟩) hHeld ?_
      show wpAnyH _ _ _ _ _ _ _ (Act.put _ (some 18) _) _
      simp only [Act.put, List.setIfInBounds_toArray, List.set_cons_zero, List.set_cons_succ]
      refine wpAnyH_take (i := 9) (v := .int .i64 (at_ : Int)) rfl (by kernel_rfl) (by kernel_rfl) (by kernel_rfl) (fun _ _ _ h => h) (Or.inl ⟨by rfl, by intro w' h; have hc := Blk.cell h 1; go_simp⟩) hHeld ?_
      show wpAnyH _ _ _ _ _ _ _ (Act.put _ (some 19) _) _
      simp only [Act.put, List.setIfInBounds_toArray, List.set_cons_zero, List.set_cons_succ]
      refine wpAnyH_take (i := 10) (v := .int .i64 ((L : Int) - (at_ : Int))) rfl (by kernel_rfl) (by kernel_rfl) (by kernel_rfl) (fun _ _ _ h => h) (Or.inl ⟨by rfl, by intro w' _; go_simp⟩) hHeld ?_
      show wpAnyH _ _ _ _ _ _ _ (Act.put _ (some 20) _) _
      simp only [Act.put, List.setIfInBounds_toArray, List.set_cons_zero, List.set_cons_succ]
      refine wpAnyH_take (i := 11) (v := .bool true) rfl (by kernel_rfl) (by kernel_rfl) (by kernel_rfl) (fun _ _ _ h => h) (Or.inl ⟨by rfl, by intro w' _; go_simp⟩) hHeld ?_
      show wpAnyH _ _ _ _ _ _ _ (Act.put _ (some 21) _) _
      simp only [Act.put, List.setIfInBounds_toArray, List.set_cons_zero, List.set_cons_succ]
      refine wpAnyH_done (by kernel_rfl) ?_ _
      clear hHeld
      have c2b := HMX0.out.cell 2
      have f2b := HMX0.out.frozen 2
      have HE := Lib.hid (HMX0.out.set_ 2 (.int .i64 9))
      have HG : Hid (w.grownBy (X0.setCell ⟨g, 2, none⟩ (.int .i64 9)) (some g)) := Lib.hid (only_setCell (Oct.only_below (only_refl w (some g)) HWX0.out) (.inl rfl) _)
      have HSX := Lib.hid (HR.out.src.grown HG.out)
      go_wp2
      go_ret
      refine RawPost.short (by rw [HLL.out]; exact hs) ⟨?_, HSX.out, HR.out.cap, HR.out.old⟩ HG.out
      have e3 : rAt l.length (k + 1) = at_ := by rw [HLL.out]; unfold rAt; rw [if_neg hs]; omega
      have e4 : rBad l.length (k + 1) = 9 := by rw [HLL.out]; exact if_neg hs
      rw [e3, e4, HLL.out]
      exact HE.out
  · have e1 : rAt L k = 32 * (L / 32) := if_neg h0
    have e2 : rBad L k = 9 := if_neg h0
    rw [e1, e2] at hb
    have hb' : Blk w g 68 [.slice A L c, .int .i64 ((32 * (L / 32) : Nat) : Int), .int .i64 9] := hb
    have HM := Lib.hid hb'
    have c2 := hb'.cell 2
    clear hb hb'
    go_enter Tryd.func98, Tryd.ntmps98
    go_wp2
    go_ret
    refine RawPost.short (by rw [HLL.out]; omega) ⟨?_, HR.out.src, HR.out.cap, HR.out.old⟩ (only_refl _ _)
    have e3 : rAt l.length (k + 1) = 32 * (L / 32) := by rw [HLL.out]; exact if_neg (by omega)
    have e4 : rBad l.length (k + 1) = 9 := by rw [HLL.out]; exact if_neg (by omega)
    rw [e3, e4, HLL.out]
    exact HM.out

theorem take_set32 (d : List Nat) (k x : Nat) (hk : k < 32) (hd : d.length = 32) (hx : d.getD k 0 = x) : (d.take k ++ List.replicate (32 - k) 0).set k x = d.take (k + 1) ++ List.replicate (32 - (k + 1)) 0 := by
  have e : d[k]'(by omega) = x := by rw [← hx]; simp [List.getD, show k < d.length by omega]
  have hl : (d.take k).length = k := by simp; omega
  rw [List.set_append_right _ _ (by omega), hl, Nat.sub_self, show 32 - k = (32 - (k + 1)) + 1 by omega, List.replicate_succ, List.set_cons_zero, List.take_succ_eq_append_getElem (by omega), e]
  simp
set_option maxRecDepth 100000 in
set_option maxHeartbeats 1000000 in
theorem refsum_any (g : Nat) (A : Option Addr) (c : Nat) (l : List Nat) (k : Nat) (w : World) (HR : Hid (RefK w g A c l k)) (hl : l.length ≤ 5000) (hk : k < 100) :
    Calls Tryd.prog 73 #[.pointer (some ⟨g, 0, none⟩)] w fun e w' => e = .returned (.agg (w8 (tk l k)).toArray) ∧ RefK w' g A c l (k + 1) ∧ w.grownBy w' (some g) := by
  have hgw := HR.out.blk.lt
  go_enter Tryd.func73, Tryd.ntmps73
  go_upto_region 2 with fail
  have HB : Hid (Blk ((w.alloc (.cells zsum 29)).alloc (.cells zsum 29)) w.heap.size 29 (w8 (List.replicate 32 0))) := Lib.hid (by
    have h := (Blk.new w 29 (w8 (List.replicate 32 0))).alloc (.cells zsum 29)
    rw [zsum_eq] at h
    exact h)
  have HC : Hid (Blk ((w.alloc (.cells zsum 29)).alloc (.cells zsum 29)) (w.heap.size + 1) 29 (w8 (List.replicate 32 0))) := Lib.hid (by
    have h := Blk.new (w.alloc (.cells zsum 29)) 29 (w8 (List.replicate 32 0))
    rw [zsum_eq, World.size_alloc] at h
    exact h)
  have HW : Hid (Below w.heap.size w ((w.alloc (.cells zsum 29)).alloc (.cells zsum 29))) := Lib.hid (((Below.refl _ _).alloc (Nat.le_refl _) _).alloc (by simp) _)
  unfold zsum at HB HC HW
  generalize ((w.alloc (.cells _ 29)).alloc (.cells _ 29)) = V at HB HC HW ⊢
  have hV : w.heap.size + 1 < V.heap.size := HC.out.lt
  have HRV := Lib.hid (HR.out.below HW.out)
  go_wp2_with fail
  refine (raw_any g A c l k V HRV hl hk).mono ?_
  rintro e w1 ⟨⟨A', c', rfl, hS⟩, hr1, hg1⟩
  have HR1 := Lib.hid hr1
  have HG1 : Hid (w.grownBy w1 (some g)) := Lib.hid ((Oct.Below.grownBy HW.out _).trans hg1)
  have HB1 := Lib.hid (HB.out.grown hg1 (by intro he; injection he; omega))
  have HC1 := Lib.hid (HC.out.grown hg1 (by intro he; injection he; omega))
  have hTL := tk_length l k
  have HTL := Lib.hid hTL
  have HRG := Lib.hid (fun (X : World) (h : Blk X (w.heap.size + 1) 29 (w8 (tk l k))) => h.all)
  have HS5 : Hid ((Tryd.prog.info? 29).map (·.size) = some (w8 (tk l k)).length) := Lib.hid (by rw [w8_length, HTL.out]; exact info29)
  have HS6 : Hid ((Tryd.prog.info? 29).map (·.size) = some (w8 (tk l k)).toArray.size) := Lib.hid (by rw [List.size_toArray, w8_length, HTL.out]; exact info29)
  have HZ6 : Hid ((w8 (List.replicate 32 0)).toArray.size = (w8 (tk l k)).toArray.size) := Lib.hid (by rw [List.size_toArray, List.size_toArray, w8_length, w8_length, HTL.out]; simp)
  have HO6 := Lib.hid (all_oneCell_toArray (w8_one (tk l k)))
  clear hTL hr1 HB HC HRV
  by_cases hs : 32 * (k + 1) ≤ l.length
  · have HD : Hid (tk l k = (l.drop (32 * k)).take 32) := Lib.hid (if_pos hs)
    have HSR := Lib.hid (hS hs (w.heap.size + 1) (by omega))
    have hg1w := hg1
    rw [if_pos hs]
    have HNE : Hid (∀ b, some b = some g → b < w.heap.size) := Lib.hid fun b hb => by injection hb; omega
    clear hS hg1 hg1w
    go_wp2_with fail
    go_loopw [5] (fun i wr => ∃ (j : Nat), j ≤ 32 ∧ i = .int .i64 j ∧ Hid (Blk wr w.heap.size 29 (w8 (List.replicate 32 0))) ∧ Hid (Blk wr (w.heap.size + 1) 29 (w8 ((tk l k).take j ++ List.replicate (32 - j) 0))) ∧ Hid (RefK wr g A c l (k + 1)) ∧ Hid (Src wr (w.heap.size + 1) A' c' (tk l k)) ∧ Hid (w.grownBy wr (some g))) (fun i _ => 32 - (intOf i).toNat)
    case atStart => exact ⟨0, Nat.zero_le _, rfl, HB1, HC1, HR1, Lib.hid (by rw [HD.out]; exact HSR.out), HG1⟩
    case round =>
      clear HB1 HC1 HR1 HSR HG1
      obtain ⟨j, hj, rfl, HB, HC, HRr, HSR, HG⟩ := hrel
      by_cases hlt : j < 32
      · have j1 : (j : Int) < 32 := by omega
        obtain ⟨x, hx⟩ : ∃ x, (tk l k).getD j 0 = x := ⟨_, rfl⟩
        rcases HSR.out.at_ with hn | ⟨b, off, hA, hb1, hb2, hb3⟩
        · exfalso
          have h9 := HTL.out
          rw [hn] at h9
          simp at h9
        subst hA
        have hc1 := hb3 j (by rw [HTL.out]; exact hlt)
        rw [hx] at hc1
        obtain ⟨u, hu⟩ : ∃ u, wr.cell? ⟨w.heap.size + 1, j, none⟩ = some u := by
          rw [HC.out.cell]
          exact ⟨_, List.getElem?_eq_getElem (by rw [w8_length]; simp [HTL.out]; omega)⟩
        have hf2 := HC.out.frozen j
        have HE := Lib.hid (HC.out.set_ j (.int .u8 (x : Int)))
        rw [w8_set8, take_set32 (tk l k) j x hlt HTL.out hx] at HE
        have HBE := Lib.hid (HB.out.far (p := ⟨w.heap.size + 1, j, none⟩) (by show w.heap.size ≠ w.heap.size + 1; omega) (.int .u8 (x : Int)))
        have HGs : Hid (wr.grownBy (wr.setCell ⟨w.heap.size + 1, j, none⟩ (.int .u8 (x : Int))) (some (w.heap.size + 1))) := Lib.hid (only_setCell (only_refl _ _) (.inl rfl) _)
        have HGE := Lib.hid (grown_new' HG.out HGs.out (by intro b hb; injection hb; omega))
        have HSE := Lib.hid (HSR.out.grown HGs.out)
        have HRE : Hid (RefK (wr.setCell ⟨w.heap.size + 1, j, none⟩ (.int .u8 (x : Int))) g A c l (k + 1)) := Lib.hid (HRr.out.far HGs.out (by omega))
        clear hx hb3
        go_wp2
        go_roundw
        case rel => exact ⟨j + 1, by omega, by go_num, HBE, HE, HRE, HSE, HGE⟩
        case measure => simp [intOf]; omega
      · obtain rfl : j = 32 := by omega
        have HC2 : Hid (Blk wr (w.heap.size + 1) 29 (w8 (tk l k))) := Lib.hid (by have h := HC.out; rw [Nat.sub_self, List.replicate_zero, List.append_nil, List.take_of_length_le (by rw [HTL.out]; omega)] at h; exact h)
        have HRG2 := Lib.hid (HRG.out wr HC2.out)
        go_wp2_with (first | (refine wpList_load_mid rfl 29 (.tmp 3) rfl (w.heap.size + 1) 0 rfl (w8 (tk l k)) _ HRG2.out Tryd.underlying29 rfl HS5.out ?_) | (refine wpList_store_row rfl 29 (.tmp 2) (.tmp 20) rfl w.heap.size (w8 (tk l k)).toArray rfl rfl 29 _ HB.out HS6.out HZ6.out HO6.out ?_))
        have HGz : wr.grownBy (wr.setRow w.heap.size (w8 (tk l k)).toArray) (some w.heap.size) := Oct.only_setRow _ _ _
        exact bodyPost_ret (v := .agg (w8 (tk l k)).toArray) (results_cell_row Tryd.results73 _ _ w.heap.size 29 (w8 (tk l k)).toArray (0, 0) _ rfl (HB.out.setRow _) Tryd.underlying29 rfl HS6.out) rfl ⟨rfl, HRr.out.far HGz (by omega), grown_new' HG.out HGz (by intro b hb; injection hb; omega)⟩
  · have HD : Hid (tk l k = List.replicate 32 0) := Lib.hid (if_neg hs)
    rw [if_neg hs]
    have HC2 : Hid (Blk w1 (w.heap.size + 1) 29 (w8 (tk l k))) := Lib.hid (by rw [HD.out]; exact HC1.out)
    have HRG2 := Lib.hid (HRG.out w1 HC2.out)
    clear hS hg1
    go_wp2_with fail
    refine wp_loop_rounds 1 ?_
    rw [rounds_succ]
    go_wp2_with (first | (refine wpList_load_mid rfl 29 (.tmp 3) rfl (w.heap.size + 1) 0 rfl (w8 (tk l k)) _ HRG2.out Tryd.underlying29 rfl HS5.out ?_) | (refine wpList_store_row rfl 29 (.tmp 2) (.tmp 20) rfl w.heap.size (w8 (tk l k)).toArray rfl rfl 29 _ HB1.out HS6.out HZ6.out HO6.out ?_))
    have HGz : w1.grownBy (w1.setRow w.heap.size (w8 (tk l k)).toArray) (some w.heap.size) := Oct.only_setRow _ _ _
    exact bodyPost_ret (v := .agg (w8 (tk l k)).toArray) (results_cell_row Tryd.results73 _ _ w.heap.size 29 (w8 (tk l k)).toArray (0, 0) _ rfl (HB1.out.setRow _) Tryd.underlying29 rfl HS6.out) rfl ⟨rfl, HR1.out.far HGz (by omega), grown_new' HG1.out HGz (by intro b hb; injection hb; omega)⟩
end Go.Proofs.YtkonokjhpddbfaaDoor
