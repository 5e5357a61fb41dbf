/-
  The document's New.
-/
import Derived.Test.YtbopnijekafogaaTillS
import Derived.Test.YtbopnijekafogaaTillP
import Derived.Test.YtbopnijekafogaaKit
namespace Go.Proofs.Ytbopnijekafogaa
open Go.RowKit
set_option linter.unusedVariables false

theorem up_grown {B : Nat} {a w w' : World} {g : Nat} (h : Below B a w) (hg : w.grownBy w' (some g)) (hB : B ≤ g) (hs : B ≤ w.heap.size) : Below B a w' :=
  ⟨hg.os.trans h.os, hg.tape.trans h.tape, hg.output.trans h.output, Nat.le_trans h.size hg.size, fun i hi => (hg.block i (by omega) (by intro e; injection e; omega)).trans (h.block i hi)⟩

def zs (n : Nat) : List Value := List.replicate n (.int .u64 0)
theorem make22 (n : Nat) (h : n ≤ 16) (w : World) : (Instr.makeSlice 22 (.int .i64 n) (.int .i64 n)).run Try.prog w = .ok (.slice (some ⟨w.heap.size, 0, none⟩) n n) (w.alloc (.cells (zs n).toArray 33)) := by
  rcases upto16 h with rfl | rfl | rfl | rfl | rfl | rfl | rfl | rfl | rfl | rfl | rfl | rfl | rfl | rfl | rfl | rfl | rfl <;> kernel_rfl
def us (xs : List Int) : List Value := xs.map fun x => .int .u64 x
theorem hs_fresh (xs : List Int) : hs (fresh xs) = us xs := by unfold hs fresh us; simp
theorem ns_fresh (xs : List Int) : ns (fresh xs) = zs xs.length := by
  unfold ns fresh zs
  induction xs with
  | nil => rfl
  | cons x r ih => simp only [List.map_cons, List.length_cons, List.replicate_succ, ih]

theorem info33 : (Try.prog.info? 33).map (fun i => (i.zero, i.size, i.bytes)) = some (some (.int .u64 0), 1, 8) := by kernel_rfl

section
variable {ops : Array Oper} {o : Oper} {a : Act} {w : World} {K : Act → World → Prop} {Q : Exit → Act → World → Prop} {E : Prop}
theorem step_lay22 (hw : Region.wanted o (yielded ops a.tmps) = true) (ho : o.op = .buildSlice 22 0 #[])
    (h : ∀ Y g, Below w.heap.size w Y → Blk Y g 33 [] → w.heap.size ≤ g → K (a.put o.dst (.slice (some ⟨g, 0, none⟩) 0 0)) Y) :
    if Region.wanted o (yielded ops a.tmps) = true then Oper.wp Try.prog o a w K Q else E :=
  step_lay hw 22 0 #[] ho #[] (by simp) _ (w.alloc (.cells #[] 33)) (by kernel_rfl) (h _ _ ((Below.refl _ _).alloc (Nat.le_refl _) _) (Blk.new w 33 []) (Nat.le_refl _))
theorem step_make22 (hw : Region.wanted o (yielded ops a.tmps) = true) (x y : Operand) (ho : o.op = .makeSlice 22 x y) (n : Nat) (hn : n ≤ 16) (hx : a.eval x = .int .i64 n) (hy : a.eval y = .int .i64 n)
    (h : ∀ Y g, Below w.heap.size w Y → Blk Y g 33 (zs n) → w.heap.size ≤ g → K (a.put o.dst (.slice (some ⟨g, 0, none⟩) n n)) Y) :
    if Region.wanted o (yielded ops a.tmps) = true then Oper.wp Try.prog o a w K Q else E :=
  step_make hw 22 x y ho _ _ (by rw [hx, hy]; exact make22 n hn w) (h _ _ ((Below.refl _ _).alloc (Nat.le_refl _) _) (Blk.new w 33 _) (Nat.le_refl _))
theorem step_box58 (hw : Region.wanted o (yielded ops a.tmps) = true) (x : Operand) (ho : o.op = .box 58 x) (A B : Option Addr) (n1 c1 n2 c2 : Nat) (K0 : Int) (hx : a.eval x = .agg #[.slice A n1 c1, .slice B n2 c2, .int .u64 K0])
    (h : ∀ Y g, Below w.heap.size w Y → Blk Y g 58 [.slice A n1 c1, .slice B n2 c2, .int .u64 K0] → w.heap.size ≤ g → K (a.put o.dst (.pointer (some ⟨g, 0, none⟩))) Y) :
    if Region.wanted o (yielded ops a.tmps) = true then Oper.wp Try.prog o a w K Q else E :=
  step_box hw 58 x ho _ (w.alloc (.cells #[.slice A n1 c1, .slice B n2 c2, .int .u64 K0] 58)) (by rw [hx]; kernel_rfl) (h _ _ ((Below.refl _ _).alloc (Nat.le_refl _) _) (Blk.new w 58 [.slice A n1 c1, .slice B n2 c2, .int .u64 K0]) (Nat.le_refl _))
theorem step_app22 (hw : Region.wanted o (yielded ops a.tmps) = true) (s x : Operand) (ho : o.op = .call { callee := .builtin .append, args := #[s, x], argTypes := #[22, 22] }) (g0 : Nat) (hs : a.eval s = .slice (some ⟨g0, 0, none⟩) 0 0) (hB : Blk w g0 33 [])
    (ad : Option Addr) (m c : Nat) (hx : a.eval x = .slice ad m c) (xs : List Int) (hl : xs.length = m) (hN : Nums w ad xs) (hs16 : m ≤ 16) (hnil : ad = none → m = 0)
    (h : ∀ Y g cap sp, w.grownBy Y (some g0) → Blk Y g 33 (us xs ++ sp) → (g = g0 ∨ g = w.heap.size) → K (a.put o.dst (.slice (some ⟨g, 0, none⟩) m cap)) Y) :
    if Region.wanted o (yielded ops a.tmps) = true then Oper.wp Try.prog o a w K Q else E := by
  obtain ⟨i0, hi, hz0, hz1, hz2⟩ := info_parts info33
  obtain ⟨g, cap, sp, W, hr, hb, _, _, hg, hgr⟩ := append_empty (P := Try.prog) (w := w) 22 33 i0 _ 1 8 Try.underlying22 hi hz0 hz1 hz2 rfl (by decide) g0 hB ad m c (us xs) (by unfold us; rw [List.length_map, hl, Nat.mul_one]) (fun b hb j u hu => by
    unfold us at hu
    rw [List.getElem?_map] at hu
    have hj : j < xs.length := by
      rcases Nat.lt_or_ge j xs.length with h | h
      · exact h
      · rw [List.getElem?_eq_none h] at hu; cases hu
    rw [List.getElem?_eq_getElem hj] at hu
    injection hu with hu
    subst hu
    rcases hN.1 with h0 | ⟨b0, off, he, hb0, hc⟩
    · subst h0; simp at hj
    · rw [he] at hb
      injection hb with hb
      subst hb
      rw [Go.WideShapes.add_plain, hc j hj, getD_at _ _ hj]) hnil (fun u hu => by unfold us at hu; obtain ⟨x, _, rfl⟩ := List.mem_map.1 hu; rfl) (by unfold maxLen; omega) (by omega)
  exact step_append hw s x 22 22 ho _ W (fun ty => by rw [hs, hx]; exact hr ty) (h W g cap sp hgr hb hg)
end

/-- What the document's New leaves behind. -/
def RNewOk (xs : List Int) (w : World) (e : Ending) (w' : World) : Prop :=
  ∃ b gh gn cap sp, e = .returned (.tuple #[.pointer (some ⟨b, 0, none⟩), .int .i64 0]) ∧ RefT w' b gh gn cap sp (fresh xs) 0 ∧ Below w.heap.size w w' ∧ w.heap.size ≤ b ∧ w.heap.size ≤ gh ∧ w.heap.size ≤ gn

theorem rnew_long (a : Option Addr) (cap len : Nat) (w : World) (hlen : 16 < len) (hl2 : len ≤ 9223372036854775807) :
    Calls Try.prog 8 #[.slice a len cap] w fun e w' => e = .returned (.tuple #[.pointer none, .int .i64 8]) ∧ w = w' := by
  have d : decide ((16 : Int) < len) = true := decide_eq_true (by omega)
  go_enter Try.func8, Try.ntmps8
  go_wp2
  go_ret2
  exact ⟨rfl, rfl⟩

theorem rnew_over (a : Option Addr) (cap len : Nat) (xs : List Int) (w : World) (hlen : xs.length = len) (hs : len ≤ 16) (hN : Nums w a xs) (hE : sumE xs ≠ 0) :
    Calls Try.prog 8 #[.slice a len cap] w fun e w' => e = .returned (.tuple #[.pointer none, .int .i64 (sumE xs)]) ∧ w = w' := by
  have d : decide ((16 : Int) < len) = false := decide_eq_false (by omega)
  have HS := Lib.hid (rsum_any a cap xs w hN)
  rw [hlen] at HS
  have b0 : (sumE xs != 0) = true := by simpa using hE
  clear hN hE hlen
  generalize sumE xs = z at HS b0 ⊢
  generalize sumV xs = y at HS
  go_enter Try.func8, Try.ntmps8
  go_wp2_with fail
  refine HS.out.mono ?_
  rintro e w' ⟨rfl, rfl⟩
  go_wp2
  go_ret2
  exact ⟨rfl, rfl⟩

set_option maxRecDepth 100000 in
set_option maxHeartbeats 1000000 in
theorem rnew_ok (a : Option Addr) (c len : Nat) (xs : List Int) (w : World) (hlen : xs.length = len) (hs : len ≤ 16) (hN : Nums w a xs) (hE : sumE xs = 0) (hnil : a = none → len = 0) :
    Calls Try.prog 8 #[.slice a len c] w (RNewOk xs w) := by
  have d : decide ((16 : Int) < len) = false := decide_eq_false (by omega)
  have HS := Lib.hid (rsum_any a c xs w hN)
  rw [hlen, hE] at HS
  have HL := Lib.hid hlen
  have N := Lib.hid hN
  have HNil := Lib.hid hnil
  have W : Hid (Below w.heap.size w w) := Lib.hid (Below.refl _ _)
  have hwd := hN.2.1
  have HWD := Lib.hid hwd
  clear hN hE hlen hnil hwd
  generalize sumV xs = y at HS
  go_enter Try.func8, Try.ntmps8
  go_wp2_with fail
  refine HS.out.mono ?_
  rintro e w' ⟨rfl, rfl⟩
  go_wp2_with fail
  have hBz : Below w.heap.size w w.drew := below_drewN (Below.refl _ _) 1
  have WX0 : Hid (Below w.heap.size w w.drew) := Lib.hid (W.out.trans (hBz.mono W.out.size))
  have NX0 : Hid (Nums w.drew a xs) := Lib.hid (N.out.below hBz)
  clear hBz
  refine wp_region_held_drew (S := fun w' => True) (by kernel_rfl) (trivial) (fun hHeld => ?_)
  generalize w.drew = X0 at hHeld WX0 NX0 ⊢
  refine wpAnyH_take (i := 1) (v := .slice a len c) rfl (by kernel_rfl) (by kernel_rfl) (by kernel_rfl) (fun _ _ _ h => h) (Or.inl ⟨by rfl, fun w _ => by rfl⟩) hHeld ?_
  show wpAnyH _ _ _ _ _ _ _ (Act.put _ (some 18) _) _
  simp only [Act.put, List.setIfInBounds_toArray, List.set_cons_zero, List.set_cons_succ]
  refine wpAnyH_take (i := 3) (v := .slice a len c) rfl (by kernel_rfl) (by kernel_rfl) (by kernel_rfl) (fun _ _ _ h => h) (Or.inl ⟨by rfl, fun w _ => by rfl⟩) hHeld ?_
  show wpAnyH _ _ _ _ _ _ _ (Act.put _ (some 20) _) _
  simp only [Act.put, List.setIfInBounds_toArray, List.set_cons_zero, List.set_cons_succ]
  refine wpAnyH_take (i := 4) (v := .int .i64 (len : Int)) rfl (by kernel_rfl) (by kernel_rfl) (by kernel_rfl) (fun _ _ _ h => h) (Or.inl ⟨by rfl, by intro w' h; go_simp⟩) hHeld ?_
  show wpAnyH _ _ _ _ _ _ _ (Act.put _ (some 21) _) _
  simp only [Act.put, List.setIfInBounds_toArray, List.set_cons_zero, List.set_cons_succ]
  refine wpAnyH_ready (rs := [0, 5]) (by kernel_rfl) (by simp) ?_
  refine AllReadyH.cons rfl (fun K hK => ?_) (AllReadyH.cons rfl (fun K hK => ?_) AllReadyH.nil)
  · refine step_lay22 rfl rfl ?_
    intro X1 gE hB hE hgX
    have hgE : w.heap.size ≤ gE := Nat.le_trans WX0.out.size hgX
    have WX1 : Hid (Below w.heap.size w X1) := Lib.hid (WX0.out.trans (hB.mono WX0.out.size))
    have NX1 : Hid (Nums X1 a xs) := Lib.hid (NX0.out.below hB)
    have EX1 : Hid (Blk X1 gE 33 []) := Lib.hid (hE)
    clear WX0 NX0 hB hE hgX
    refine hK.out _ _ (trivial) (fun hHeld => ?_)
    clear hK K
    show wpAnyH _ _ _ _ _ _ _ (Act.put _ (some 17) _) _
    simp only [Act.put, List.setIfInBounds_toArray, List.set_cons_zero, List.set_cons_succ]
    refine wpAnyH_ready (rs := [2, 5]) (by kernel_rfl) (by simp) ?_
    refine AllReadyH.cons rfl (fun K hK => ?_) (AllReadyH.cons rfl (fun K hK => ?_) AllReadyH.nil)
    · refine step_app22 rfl (.tmp 17) (.tmp 18) rfl gE rfl EX1.out a len c rfl xs HL.out NX1.out hs HNil.out ?_
      intro X2 gh cap sp hO hA hat
      have hgh : w.heap.size ≤ gh := by have := WX1.out.size; omega
      have WX2 : Hid (Below w.heap.size w X2) := Lib.hid (up_grown WX1.out hO hgE WX1.out.size)
      have AX2 : Hid (Blk X2 gh 33 (us xs ++ sp)) := Lib.hid (hA)
      clear WX1 hO hA
      refine hK.out _ _ (trivial) (fun hHeld => ?_)
      clear hK K
      show wpAnyH _ _ _ _ _ _ _ (Act.put _ (some 19) _) _
      simp only [Act.put, List.setIfInBounds_toArray, List.set_cons_zero, List.set_cons_succ]
      refine wpAnyH_ready (rs := [5]) (by kernel_rfl) (by simp) ?_
      refine AllReadyH.cons rfl (fun K hK => ?_) AllReadyH.nil
      refine step_make22 rfl (.tmp 21) (.tmp 21) rfl len hs rfl rfl ?_
      intro X3 gn hB hM hgX
      have hgn : w.heap.size ≤ gn := Nat.le_trans WX2.out.size hgX
      have hne : gh ≠ gn := by have := AX2.out.lt; omega
      have WX3 : Hid (Below w.heap.size w X3) := Lib.hid (WX2.out.trans (hB.mono WX2.out.size))
      have AX3 : Hid (Blk X3 gh 33 (us xs ++ sp)) := Lib.hid (AX2.out.below hB AX2.out.lt)
      have MX3 : Hid (Blk X3 gn 33 (zs len)) := Lib.hid (hM)
      clear WX2 AX2 hB hM
      refine hK.out _ _ (trivial) (fun hHeld => ?_)
      clear hK K
      show wpAnyH _ _ _ _ _ _ _ (Act.put _ (some 22) _) _
      simp only [Act.put, List.setIfInBounds_toArray, List.set_cons_zero, List.set_cons_succ]
      refine wpAnyH_take (i := 6) (v := (.agg #[.slice (some ⟨gh, 0, none⟩) len cap, .slice (some ⟨gn, 0, none⟩) len len, .int .u64 0])) rfl (by kernel_rfl) (by kernel_rfl) (by kernel_rfl) (fun _ _ _ h => h) (Or.inl ⟨by rfl, by intro w' h; kernel_rfl⟩) hHeld ?_
      show wpAnyH _ _ _ _ _ _ _ (Act.put _ (some 23) _) _
      simp only [Act.put, List.setIfInBounds_toArray, List.set_cons_zero, List.set_cons_succ]
      refine wpAnyH_ready (rs := [7]) (by kernel_rfl) (by simp) ?_
      refine AllReadyH.cons rfl (fun K hK => ?_) AllReadyH.nil
      refine step_box58 rfl (.tmp 23) rfl _ _ _ _ _ _ 0 rfl ?_
      intro X4 gb hB hT hgX2
      have hgb : w.heap.size ≤ gb := Nat.le_trans WX3.out.size hgX2
      have WX4 : Hid (Below w.heap.size w X4) := Lib.hid (WX3.out.trans (hB.mono WX3.out.size))
      have AX4 : Hid (Blk X4 gh 33 (us xs ++ sp)) := Lib.hid (AX3.out.below hB AX3.out.lt)
      have MX4 : Hid (Blk X4 gn 33 (zs len)) := Lib.hid (MX3.out.below hB MX3.out.lt)
      have TX4 : Hid (Blk X4 gb 58 [.slice (some ⟨gh, 0, none⟩) len cap, .slice (some ⟨gn, 0, none⟩) len len, .int .u64 0]) := Lib.hid (hT)
      clear WX3 AX3 MX3 hB hT
      refine hK.out _ _ (trivial) (fun hHeld => ?_)
      clear hK K
      show wpAnyH _ _ _ _ _ _ _ (Act.put _ (some 24) _) _
      simp only [Act.put, List.setIfInBounds_toArray, List.set_cons_zero, List.set_cons_succ]
      refine wpAnyH_take (i := 8) (v := .pointer (some ⟨gb, 0, none⟩)) rfl (by kernel_rfl) (by kernel_rfl) (by kernel_rfl) (fun _ _ _ h => h) (Or.inl ⟨by rfl, fun w _ => by rfl⟩) hHeld ?_
      show wpAnyH _ _ _ _ _ _ _ (Act.put _ (some 2) _) _
      simp only [Act.put, List.setIfInBounds_toArray, List.set_cons_zero, List.set_cons_succ]
      refine wpAnyH_take (i := 9) (v := .int .i64 0) rfl (by kernel_rfl) (by kernel_rfl) (by kernel_rfl) (fun _ _ _ h => h) (Or.inl ⟨by rfl, fun w _ => by rfl⟩) hHeld ?_
      show wpAnyH _ _ _ _ _ _ _ (Act.put _ (some 3) _) _
      simp only [Act.put, List.setIfInBounds_toArray, List.set_cons_zero, List.set_cons_succ]
      refine wpAnyH_done (by kernel_rfl) ?_ _
      have HR : Hid (RefT X4 gb gh gn cap sp (fresh xs) 0) := Lib.hid
        { top := by rw [fresh_length, HL.out]; exact TX4.out
          has := by rw [hs_fresh]; exact AX4.out
          next := by rw [ns_fresh, HL.out]; exact MX4.out
          ok := fun p hp => by unfold fresh at hp; obtain ⟨x, hx, rfl⟩ := List.mem_map.1 hp; exact ⟨HWD.out x hx, by unfold Word; omega⟩
          kept := ⟨by decide, by decide⟩
          small := by rw [fresh_length, HL.out]; exact hs
          ne := hne }
      go_wp2
      go_ret2
      exact ⟨gb, gh, gn, cap, sp, rfl, HR.out, WX4.out, hgb, hgh, hgn⟩
    · refine step_make22 rfl (.tmp 21) (.tmp 21) rfl len hs rfl rfl ?_
      intro X2 gn hB hM hgX
      have hgn : w.heap.size ≤ gn := Nat.le_trans WX1.out.size hgX
      have hEM : some gn ≠ some gE := fun e => by injection e with e; have := EX1.out.lt; omega
      have WX2 : Hid (Below w.heap.size w X2) := Lib.hid (WX1.out.trans (hB.mono WX1.out.size))
      have NX2 : Hid (Nums X2 a xs) := Lib.hid (NX1.out.below hB)
      have EX2 : Hid (Blk X2 gE 33 []) := Lib.hid (EX1.out.below hB EX1.out.lt)
      have MX2 : Hid (Blk X2 gn 33 (zs len)) := Lib.hid (hM)
      clear WX1 NX1 EX1 hB hM
      refine hK.out _ _ (trivial) (fun hHeld => ?_)
      clear hK K
      show wpAnyH _ _ _ _ _ _ _ (Act.put _ (some 22) _) _
      simp only [Act.put, List.setIfInBounds_toArray, List.set_cons_zero, List.set_cons_succ]
      refine wpAnyH_ready (rs := [2]) (by kernel_rfl) (by simp) ?_
      refine AllReadyH.cons rfl (fun K hK => ?_) AllReadyH.nil
      refine step_app22 rfl (.tmp 17) (.tmp 18) rfl gE rfl EX2.out a len c rfl xs HL.out NX2.out hs HNil.out ?_
      intro X3 gh cap sp hO hA hat
      have hgh : w.heap.size ≤ gh := by have := WX2.out.size; omega
      have hne : gh ≠ gn := by have := MX2.out.lt; have : gn ≠ gE := fun e => hEM (by rw [e]); omega
      have WX3 : Hid (Below w.heap.size w X3) := Lib.hid (up_grown WX2.out hO hgE WX2.out.size)
      have MX3 : Hid (Blk X3 gn 33 (zs len)) := Lib.hid (MX2.out.grown hO hEM)
      have AX3 : Hid (Blk X3 gh 33 (us xs ++ sp)) := Lib.hid (hA)
      clear WX2 MX2 hO hA
      refine hK.out _ _ (trivial) (fun hHeld => ?_)
      clear hK K
      show wpAnyH _ _ _ _ _ _ _ (Act.put _ (some 19) _) _
      simp only [Act.put, List.setIfInBounds_toArray, List.set_cons_zero, List.set_cons_succ]
      refine wpAnyH_take (i := 6) (v := (.agg #[.slice (some ⟨gh, 0, none⟩) len cap, .slice (some ⟨gn, 0, none⟩) len len, .int .u64 0])) rfl (by kernel_rfl) (by kernel_rfl) (by kernel_rfl) (fun _ _ _ h => h) (Or.inl ⟨by rfl, by intro w' h; kernel_rfl⟩) hHeld ?_
      show wpAnyH _ _ _ _ _ _ _ (Act.put _ (some 23) _) _
      simp only [Act.put, List.setIfInBounds_toArray, List.set_cons_zero, List.set_cons_succ]
      refine wpAnyH_ready (rs := [7]) (by kernel_rfl) (by simp) ?_
      refine AllReadyH.cons rfl (fun K hK => ?_) AllReadyH.nil
      refine step_box58 rfl (.tmp 23) rfl _ _ _ _ _ _ 0 rfl ?_
      intro X4 gb hB hT hgX2
      have hgb : w.heap.size ≤ gb := Nat.le_trans WX3.out.size hgX2
      have WX4 : Hid (Below w.heap.size w X4) := Lib.hid (WX3.out.trans (hB.mono WX3.out.size))
      have MX4 : Hid (Blk X4 gn 33 (zs len)) := Lib.hid (MX3.out.below hB MX3.out.lt)
      have AX4 : Hid (Blk X4 gh 33 (us xs ++ sp)) := Lib.hid (AX3.out.below hB AX3.out.lt)
      have TX4 : Hid (Blk X4 gb 58 [.slice (some ⟨gh, 0, none⟩) len cap, .slice (some ⟨gn, 0, none⟩) len len, .int .u64 0]) := Lib.hid (hT)
      clear WX3 MX3 AX3 hB hT
      refine hK.out _ _ (trivial) (fun hHeld => ?_)
      clear hK K
      show wpAnyH _ _ _ _ _ _ _ (Act.put _ (some 24) _) _
      simp only [Act.put, List.setIfInBounds_toArray, List.set_cons_zero, List.set_cons_succ]
      refine wpAnyH_take (i := 8) (v := .pointer (some ⟨gb, 0, none⟩)) rfl (by kernel_rfl) (by kernel_rfl) (by kernel_rfl) (fun _ _ _ h => h) (Or.inl ⟨by rfl, fun w _ => by rfl⟩) hHeld ?_
      show wpAnyH _ _ _ _ _ _ _ (Act.put _ (some 2) _) _
      simp only [Act.put, List.setIfInBounds_toArray, List.set_cons_zero, List.set_cons_succ]
      refine wpAnyH_take (i := 9) (v := .int .i64 0) rfl (by kernel_rfl) (by kernel_rfl) (by kernel_rfl) (fun _ _ _ h => h) (Or.inl ⟨by rfl, fun w _ => by rfl⟩) hHeld ?_
      show wpAnyH _ _ _ _ _ _ _ (Act.put _ (some 3) _) _
      simp only [Act.put, List.setIfInBounds_toArray, List.set_cons_zero, List.set_cons_succ]
      refine wpAnyH_done (by kernel_rfl) ?_ _
      have HR : Hid (RefT X4 gb gh gn cap sp (fresh xs) 0) := Lib.hid
        { top := by rw [fresh_length, HL.out]; exact TX4.out
          has := by rw [hs_fresh]; exact AX4.out
          next := by rw [ns_fresh, HL.out]; exact MX4.out
          ok := fun p hp => by unfold fresh at hp; obtain ⟨x, hx, rfl⟩ := List.mem_map.1 hp; exact ⟨HWD.out x hx, by unfold Word; omega⟩
          kept := ⟨by decide, by decide⟩
          small := by rw [fresh_length, HL.out]; exact hs
          ne := hne }
      go_wp2
      go_ret2
      exact ⟨gb, gh, gn, cap, sp, rfl, HR.out, WX4.out, hgb, hgh, hgn⟩
  · refine step_make22 rfl (.tmp 21) (.tmp 21) rfl len hs rfl rfl ?_
    intro X1 gn hB hM hgX
    have hgn : w.heap.size ≤ gn := Nat.le_trans WX0.out.size hgX
    have WX1 : Hid (Below w.heap.size w X1) := Lib.hid (WX0.out.trans (hB.mono WX0.out.size))
    have NX1 : Hid (Nums X1 a xs) := Lib.hid (NX0.out.below hB)
    have MX1 : Hid (Blk X1 gn 33 (zs len)) := Lib.hid (hM)
    clear WX0 NX0 hB hM
    refine hK.out _ _ (trivial) (fun hHeld => ?_)
    clear hK K
    show wpAnyH _ _ _ _ _ _ _ (Act.put _ (some 22) _) _
    simp only [Act.put, List.setIfInBounds_toArray, List.set_cons_zero, List.set_cons_succ]
    refine wpAnyH_ready (rs := [0]) (by kernel_rfl) (by simp) ?_
    refine AllReadyH.cons rfl (fun K hK => ?_) AllReadyH.nil
    refine step_lay22 rfl rfl ?_
    intro X2 gE hB hE hgX
    have hgE : w.heap.size ≤ gE := Nat.le_trans WX1.out.size hgX
    have hEM : some gn ≠ some gE := fun e => by injection e with e; have := MX1.out.lt; omega
    have WX2 : Hid (Below w.heap.size w X2) := Lib.hid (WX1.out.trans (hB.mono WX1.out.size))
    have NX2 : Hid (Nums X2 a xs) := Lib.hid (NX1.out.below hB)
    have MX2 : Hid (Blk X2 gn 33 (zs len)) := Lib.hid (MX1.out.below hB MX1.out.lt)
    have EX2 : Hid (Blk X2 gE 33 []) := Lib.hid (hE)
    clear WX1 NX1 MX1 hB hE hgX
    refine hK.out _ _ (trivial) (fun hHeld => ?_)
    clear hK K
    show wpAnyH _ _ _ _ _ _ _ (Act.put _ (some 17) _) _
    simp only [Act.put, List.setIfInBounds_toArray, List.set_cons_zero, List.set_cons_succ]
    refine wpAnyH_ready (rs := [2]) (by kernel_rfl) (by simp) ?_
    refine AllReadyH.cons rfl (fun K hK => ?_) AllReadyH.nil
    refine step_app22 rfl (.tmp 17) (.tmp 18) rfl gE rfl EX2.out a len c rfl xs HL.out NX2.out hs HNil.out ?_
    intro X3 gh cap sp hO hA hat
    have hgh : w.heap.size ≤ gh := by have := WX2.out.size; omega
    have hne : gh ≠ gn := by have := MX2.out.lt; have : gn ≠ gE := fun e => hEM (by rw [e]); omega
    have WX3 : Hid (Below w.heap.size w X3) := Lib.hid (up_grown WX2.out hO hgE WX2.out.size)
    have MX3 : Hid (Blk X3 gn 33 (zs len)) := Lib.hid (MX2.out.grown hO hEM)
    have AX3 : Hid (Blk X3 gh 33 (us xs ++ sp)) := Lib.hid (hA)
    clear WX2 MX2 hO hA
    refine hK.out _ _ (trivial) (fun hHeld => ?_)
    clear hK K
    show wpAnyH _ _ _ _ _ _ _ (Act.put _ (some 19) _) _
    simp only [Act.put, List.setIfInBounds_toArray, List.set_cons_zero, List.set_cons_succ]
    refine wpAnyH_take (i := 6) (v := (.agg #[.slice (some ⟨gh, 0, none⟩) len cap, .slice (some ⟨gn, 0, none⟩) len len, .int .u64 0])) rfl (by kernel_rfl) (by kernel_rfl) (by kernel_rfl) (fun _ _ _ h => h) (Or.inl ⟨by rfl, by intro w' h; kernel_rfl⟩) hHeld ?_
    show wpAnyH _ _ _ _ _ _ _ (Act.put _ (some 23) _) _
    simp only [Act.put, List.setIfInBounds_toArray, List.set_cons_zero, List.set_cons_succ]
    refine wpAnyH_ready (rs := [7]) (by kernel_rfl) (by simp) ?_
    refine AllReadyH.cons rfl (fun K hK => ?_) AllReadyH.nil
    refine step_box58 rfl (.tmp 23) rfl _ _ _ _ _ _ 0 rfl ?_
    intro X4 gb hB hT hgX2
    have hgb : w.heap.size ≤ gb := Nat.le_trans WX3.out.size hgX2
    have WX4 : Hid (Below w.heap.size w X4) := Lib.hid (WX3.out.trans (hB.mono WX3.out.size))
    have MX4 : Hid (Blk X4 gn 33 (zs len)) := Lib.hid (MX3.out.below hB MX3.out.lt)
    have AX4 : Hid (Blk X4 gh 33 (us xs ++ sp)) := Lib.hid (AX3.out.below hB AX3.out.lt)
    have TX4 : Hid (Blk X4 gb 58 [.slice (some ⟨gh, 0, none⟩) len cap, .slice (some ⟨gn, 0, none⟩) len len, .int .u64 0]) := Lib.hid (hT)
    clear WX3 MX3 AX3 hB hT
    refine hK.out _ _ (trivial) (fun hHeld => ?_)
    clear hK K
    show wpAnyH _ _ _ _ _ _ _ (Act.put _ (some 24) _) _
    simp only [Act.put, List.setIfInBounds_toArray, List.set_cons_zero, List.set_cons_succ]
    refine wpAnyH_take (i := 8) (v := .pointer (some ⟨gb, 0, none⟩)) rfl (by kernel_rfl) (by kernel_rfl) (by kernel_rfl) (fun _ _ _ h => h) (Or.inl ⟨by rfl, fun w _ => by rfl⟩) hHeld ?_
    show wpAnyH _ _ _ _ _ _ _ (Act.put _ (some 2) _) _
    simp only [Act.put, List.setIfInBounds_toArray, List.set_cons_zero, List.set_cons_succ]
    refine wpAnyH_take (i := 9) (v := .int .i64 0) rfl (by kernel_rfl) (by kernel_rfl) (by kernel_rfl) (fun _ _ _ h => h) (Or.inl ⟨by rfl, fun w _ => by rfl⟩) hHeld ?_
    show wpAnyH _ _ _ _ _ _ _ (Act.put _ (some 3) _) _
    simp only [Act.put, List.setIfInBounds_toArray, List.set_cons_zero, List.set_cons_succ]
    refine wpAnyH_done (by kernel_rfl) ?_ _
    have HR : Hid (RefT X4 gb gh gn cap sp (fresh xs) 0) := Lib.hid
      { top := by rw [fresh_length, HL.out]; exact TX4.out
        has := by rw [hs_fresh]; exact AX4.out
        next := by rw [ns_fresh, HL.out]; exact MX4.out
        ok := fun p hp => by unfold fresh at hp; obtain ⟨x, hx, rfl⟩ := List.mem_map.1 hp; exact ⟨HWD.out x hx, by unfold Word; omega⟩
        kept := ⟨by decide, by decide⟩
        small := by rw [fresh_length, HL.out]; exact hs
        ne := hne }
    go_wp2
    go_ret2
    exact ⟨gb, gh, gn, cap, sp, rfl, HR.out, WX4.out, hgb, hgh, hgn⟩
end Go.Proofs.Ytbopnijekafogaa
