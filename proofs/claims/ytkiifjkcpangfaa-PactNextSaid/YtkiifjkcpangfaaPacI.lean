/-
  A state alike; the first one; a wish as the program's.
-/
import Derived.Test.YtkiifjkcpangfaaPacH
namespace Go.Proofs.Ytkiifjkcpangfaa
open Go.RowKit
set_option linter.unusedVariables false

set_option maxRecDepth 100000 in
set_option maxHeartbeats 4000000 in
theorem clone_any (a : Option Addr) (n c : Nat) (l : List Cnd) (w : World) (hR : CRow w a l) (hnil : a = none → n = 0 ∧ c = 0) (hl : l.length = n) (hl2 : n ≤ 1000) :
    Calls Try.prog 41 #[.slice a n c] w fun e w' => ∃ a' c', e = .returned (.slice a' n c') ∧ w'.ownsRow w.heap.size 60 36 (.slice a' n c') n (cflat l) ∧ Below w.heap.size w w' := by
  have hq := fun (w : World) (a : Option Addr) (n c n' c' : Nat) => Lib.run_eql_slice_nil (P := Try.prog) w 29 60 a n c n' c' Try.underlying29
  cases a with
  | none =>
    obtain ⟨rfl, rfl⟩ := hnil rfl
    obtain rfl : l = [] := List.eq_nil_of_length_eq_zero hl
    go_enter Try.func41, Try.ntmps41
    go_wp2
    go_ret
    exact ⟨_, _, rfl, World.ownsRow_nil _ _ _ _, Below.refl _ _⟩
  | some ad =>
    have HL := Lib.hid hl
    obtain ⟨i0, hi, hz0, hz1, hz2⟩ := info_parts zinfo60
    have B0 : Below w.heap.size w (w.alloc (.cells #[] 60)) := (Below.refl _ _).alloc (Nat.le_refl _) _
    have hown : (w.alloc (.cells #[] 60)).ownsRow w.heap.size 60 36 (.slice (some ⟨w.heap.size, 0, none⟩) 0 0) 0 [] := World.ownsRow_made w #[] 0 (Nat.le_refl _) (Nat.zero_le _) rfl
    obtain ⟨v, Y, hr, ho, hg, _, _⟩ := run_append_own_at (P := Try.prog) (w.alloc (.cells #[] 60)) w.heap.size 29 0 60 i0 _ 36 64 Try.underlying29 hi hz0 hz1 hz2 rfl (by decide) _ 0 [] hown ad n c (cflat l) (by rw [cflat_length l hR.ok, hl]) (hR.below B0).cells (cflat_one l) (by unfold maxLen; omega) (by omega) (by simp)
    have HB : Hid (Below w.heap.size w Y) := Lib.hid (B0.grown hg (by simp) (fun k hk => (hown.lt k hk).1))
    rw [Nat.zero_add, List.nil_append] at ho
    obtain ⟨a', c', rfl⟩ := own_slice ho
    have HO : Hid (Y.ownsRow w.heap.size 60 36 (.slice a' n c') n (cflat l)) := Lib.hid ho
    have HR : Hid (∀ ty, (Builtin.append_ #[29, 29] ty #[.slice (some ⟨w.heap.size, 0, none⟩) 0 0, .slice (some ad) n c]).run Try.prog (w.alloc (.cells #[] 60)) = .ok (.slice a' n c') Y) := Lib.hid (fun ty => hr)
    clear hR hnil hl hg ho hr hown B0
    go_enter Try.func41, Try.ntmps41
    go_wp2_with (at_builtin; refine wpList_append_run_ rfl (.tmp 5) (.tmp 6) 29 29 rfl (.slice a' n c') Y (fun ty => HR.out ty) ?_)
    go_ret
    exact ⟨a', c', rfl, HO.out, HB.out⟩

set_option maxRecDepth 100000 in
set_option maxHeartbeats 4000000 in
theorem twin_any (ch rd m0 m1 t0 t1 : Int) (a : Option Addr) (n cap : Nat) (cs : List Cnd) (w : World) (hC : CRow w a cs) (hnil : a = none → n = 0 ∧ cap = 0) (hl : cs.length = n) (hn : n ≤ 1000) :
    Calls Try.prog 21 #[.agg #[.int .u32 ch, .int .u64 rd, .int .u64 m0, .int .u64 m1, .int .u64 t0, .int .u64 t1, .slice a n cap]] w fun e w' => ∃ a' c', e = .returned (.agg #[.int .u32 ch, .int .u64 rd, .int .u64 m0, .int .u64 m1, .int .u64 t0, .int .u64 t1, .slice a' n c']) ∧ w'.ownsRow w.heap.size 60 36 (.slice a' n c') n (cflat cs) ∧ Below w.heap.size w w' := by
  have HC := Lib.hid hC
  have HL := Lib.hid hl
  have HN := Lib.hid hnil
  clear hC hl hnil
  go_enter Try.func21, Try.ntmps21
  go_upto_region 1 with fail
  have B0 : Hid (Below w.heap.size w ((w.alloc (.cells #[.int .u32 ch, .int .u64 rd, .int .u64 m0, .int .u64 m1, .int .u64 t0, .int .u64 t1, .slice a n cap] 31)).alloc (.cells #[.int .u32 0, .int .u64 0, .int .u64 0, .int .u64 0, .int .u64 0, .int .u64 0, .slice none 0 0] 31))) := Lib.hid (((Below.refl _ _).alloc (Nat.le_refl _) _).alloc (by simp) _)
  have A0 : Hid (Blk ((w.alloc (.cells #[.int .u32 ch, .int .u64 rd, .int .u64 m0, .int .u64 m1, .int .u64 t0, .int .u64 t1, .slice a n cap] 31)).alloc (.cells #[.int .u32 0, .int .u64 0, .int .u64 0, .int .u64 0, .int .u64 0, .int .u64 0, .slice none 0 0] 31)) w.heap.size 31 [.int .u32 ch, .int .u64 rd, .int .u64 m0, .int .u64 m1, .int .u64 t0, .int .u64 t1, .slice a n cap]) := Lib.hid ((Blk.mk_ rfl).alloc _)
  have R0 : Hid (Blk ((w.alloc (.cells #[.int .u32 ch, .int .u64 rd, .int .u64 m0, .int .u64 m1, .int .u64 t0, .int .u64 t1, .slice a n cap] 31)).alloc (.cells #[.int .u32 0, .int .u64 0, .int .u64 0, .int .u64 0, .int .u64 0, .int .u64 0, .slice none 0 0] 31)) (w.heap.size + 1) 31 [.int .u32 0, .int .u64 0, .int .u64 0, .int .u64 0, .int .u64 0, .int .u64 0, .slice none 0 0]) := Lib.hid (Blk.mk_ (by simp))
  generalize ((w.alloc (.cells #[.int .u32 ch, .int .u64 rd, .int .u64 m0, .int .u64 m1, .int .u64 t0, .int .u64 t1, .slice a n cap] 31)).alloc (.cells #[.int .u32 0, .int .u64 0, .int .u64 0, .int .u64 0, .int .u64 0, .int .u64 0, .slice none 0 0] 31)) = V at B0 A0 R0 ⊢
  obtain ⟨gR, hgR⟩ : ∃ g, w.heap.size + 1 = g := ⟨_, rfl⟩
  obtain ⟨gA, hgA⟩ : ∃ g, w.heap.size = g := ⟨_, rfl⟩
  have HGR : Hid (w.heap.size ≤ gR) := Lib.hid (by omega)
  have HGA : Hid (w.heap.size ≤ gA) := Lib.hid (by omega)
  have HNE : Hid (gA ≠ gR) := Lib.hid (by omega)
  rw [hgR] at R0 ⊢
  rw [hgA] at A0 ⊢
  clear hgR hgA
  have k0 := A0.out.cell 0
  have k1 := A0.out.cell 1
  have k2 := A0.out.cell 2
  have k3 := A0.out.cell 3
  have k4 := A0.out.cell 4
  have k5 := A0.out.cell 5
  have k6 := A0.out.cell 6
  simp only [List.getElem?_cons_zero, List.getElem?_cons_succ] at k0 k1 k2 k3 k4 k5 k6
  go_wp2_with fail
  refine (clone_any a n cap cs V (HC.out.below B0.out) HN.out HL.out hn).mono ?_
  rintro e W ⟨a', c', rfl, ho, hB⟩
  have A1 := Lib.hid (A0.out.below hB A0.out.lt)
  have R1 := Lib.hid (R0.out.below hB R0.out.lt)
  have B1 := Lib.hid (B0.out.trans (hB.mono B0.out.size))
  have hAV := A0.out.lt
  have hRV := R0.out.lt
  have OA : Hid (some gA ≠ (Value.slice a' n c').ownBlock) := Lib.hid (ownBlock_ne ho hAV)
  have OR : Hid (some gR ≠ (Value.slice a' n c').ownBlock) := Lib.hid (ownBlock_ne ho hRV)
  have O1 := Lib.hid (own_mono ho B0.out.size)
  clear hB A0 R0 B0 ho k0 k1 k2 k3 k4 k5 k6 hAV hRV
  have k0 := A1.out.cell 0
  have k1 := A1.out.cell 1
  have k2 := A1.out.cell 2
  have k3 := A1.out.cell 3
  have k4 := A1.out.cell 4
  have k5 := A1.out.cell 5
  have k6 := A1.out.cell 6
  simp only [List.getElem?_cons_zero, List.getElem?_cons_succ] at k0 k1 k2 k3 k4 k5 k6
  have q0 := A1.out.frozen 0
  have q1 := A1.out.frozen 1
  have q2 := A1.out.frozen 2
  have q3 := A1.out.frozen 3
  have q4 := A1.out.frozen 4
  have q5 := A1.out.frozen 5
  have q6 := A1.out.frozen 6
  go_upto_region 2 with fail
  have A2 : Hid (Blk (W.setCell ⟨gA, 6, none⟩ (.slice a' n c')) gA 31 [.int .u32 ch, .int .u64 rd, .int .u64 m0, .int .u64 m1, .int .u64 t0, .int .u64 t1, .slice a' n c']) := Lib.hid (A1.out.set_ 6 _)
  have R2 : Hid (Blk (W.setCell ⟨gA, 6, none⟩ (.slice a' n c')) gR 31 [.int .u32 0, .int .u64 0, .int .u64 0, .int .u64 0, .int .u64 0, .int .u64 0, .slice none 0 0]) := Lib.hid (R1.out.far (p := ⟨gA, 6, none⟩) (fun e => HNE.out e.symm) _)
  have B2 : Hid (Below w.heap.size w (W.setCell ⟨gA, 6, none⟩ (.slice a' n c'))) := Lib.hid (B1.out.setCell (p := ⟨gA, 6, none⟩) HGA.out _)
  have O2 : Hid ((W.setCell ⟨gA, 6, none⟩ (.slice a' n c')).ownsRow w.heap.size 60 36 (.slice a' n c') n (cflat cs)) := Lib.hid (O1.out.kept (only_setCell (p := ⟨gA, 6, none⟩) (only_refl W (some gA)) (.inl rfl) _) (.inr (fun e => OA.out e.symm)))
  clear A1 R1 B1 O1 k0 k1 k2 k3 k4 k5 k6 q0 q1 q2 q3 q4 q5 q6
  generalize W.setCell ⟨gA, 6, none⟩ (.slice a' n c') = Y at A2 R2 B2 O2 ⊢
  have k0 := A2.out.cell 0
  have k1 := A2.out.cell 1
  have k2 := A2.out.cell 2
  have k3 := A2.out.cell 3
  have k4 := A2.out.cell 4
  have k5 := A2.out.cell 5
  have k6 := A2.out.cell 6
  simp only [List.getElem?_cons_zero, List.getElem?_cons_succ] at k0 k1 k2 k3 k4 k5 k6
  have r0 := R2.out.cell 0
  have r1 := R2.out.cell 1
  have r2 := R2.out.cell 2
  have r3 := R2.out.cell 3
  have r4 := R2.out.cell 4
  have r5 := R2.out.cell 5
  have r6 := R2.out.cell 6
  simp only [List.getElem?_cons_zero, List.getElem?_cons_succ] at r0 r1 r2 r3 r4 r5 r6
  have f0 := R2.out.frozen 0
  have f1 := R2.out.frozen 1
  have f2 := R2.out.frozen 2
  have f3 := R2.out.frozen 3
  have f4 := R2.out.frozen 4
  have f5 := R2.out.frozen 5
  have f6 := R2.out.frozen 6
  go_wp2
  have hown := O2.out.kept ((only_setCell (p := ⟨gR, 6, none⟩) (only_setCell (p := ⟨gR, 5, none⟩) (only_setCell (p := ⟨gR, 4, none⟩) (only_setCell (p := ⟨gR, 3, none⟩) (only_setCell (p := ⟨gR, 2, none⟩) (only_setCell (p := ⟨gR, 1, none⟩) (only_setCell (p := ⟨gR, 0, none⟩) (only_refl Y (some gR)) (.inl rfl) (.int .u32 ch)) (.inl rfl) (.int .u64 rd)) (.inl rfl) (.int .u64 m0)) (.inl rfl) (.int .u64 m1)) (.inl rfl) (.int .u64 t0)) (.inl rfl) (.int .u64 t1)) (.inl rfl) (.slice a' n c'))) (.inr (fun e => OR.out e.symm))
  have hRR : Blk ((((((((Y.setCell ⟨gR, 0, none⟩ (.int .u32 ch)).setCell ⟨gR, 1, none⟩ (.int .u64 rd)).setCell ⟨gR, 2, none⟩ (.int .u64 m0)).setCell ⟨gR, 3, none⟩ (.int .u64 m1)).setCell ⟨gR, 4, none⟩ (.int .u64 t0)).setCell ⟨gR, 5, none⟩ (.int .u64 t1)).setCell ⟨gR, 6, none⟩ (.slice a' n c'))) gR 31 [.int .u32 ch, .int .u64 rd, .int .u64 m0, .int .u64 m1, .int .u64 t0, .int .u64 t1, .slice a' n c'] := (((((((R2.out.set_ 0 _).set_ 1 _).set_ 2 _).set_ 3 _).set_ 4 _).set_ 5 _).set_ 6 _)
  have hz1 : (Try.prog.info? 31).map (·.size) = some (#[.int .u32 ch, .int .u64 rd, .int .u64 m0, .int .u64 m1, .int .u64 t0, .int .u64 t1, .slice a' n c'] : Array Value).size := info31
  exact bodyPost_ret (results_cell_row Try.results21 _ _ gR 31 #[.int .u32 ch, .int .u64 rd, .int .u64 m0, .int .u64 m1, .int .u64 t0, .int .u64 t1, .slice a' n c'] (0, 0) _ rfl hRR Try.underlying31 rfl hz1) rfl ⟨a', c', rfl, hown, (((((((B2.out.setCell (p := ⟨gR, 0, none⟩) HGR.out _).setCell (p := ⟨gR, 1, none⟩) HGR.out _).setCell (p := ⟨gR, 2, none⟩) HGR.out _).setCell (p := ⟨gR, 3, none⟩) HGR.out _).setCell (p := ⟨gR, 4, none⟩) HGR.out _).setCell (p := ⟨gR, 5, none⟩) HGR.out _).setCell (p := ⟨gR, 6, none⟩) HGR.out _)⟩

set_option maxRecDepth 100000 in
set_option maxHeartbeats 4000000 in
theorem new_any (ch : Int) (w : World) : Calls Try.prog 28 #[.int .u32 ch] w fun e w' => e = .returned (.agg #[.int .u32 ch, .int .u64 0, .int .u64 0, .int .u64 0, .int .u64 0, .int .u64 0, .slice none 0 0]) ∧ Below w.heap.size w w' := by
  go_enter Try.func28, Try.ntmps28
  go_upto_region 1 with fail
  have B0 : Hid (Below w.heap.size w (w.alloc (.cells #[.int .u32 0, .int .u64 0, .int .u64 0, .int .u64 0, .int .u64 0, .int .u64 0, .slice none 0 0] 31))) := Lib.hid ((Below.refl _ _).alloc (Nat.le_refl _) _)
  have R0 : Hid (Blk (w.alloc (.cells #[.int .u32 0, .int .u64 0, .int .u64 0, .int .u64 0, .int .u64 0, .int .u64 0, .slice none 0 0] 31)) w.heap.size 31 [.int .u32 0, .int .u64 0, .int .u64 0, .int .u64 0, .int .u64 0, .int .u64 0, .slice none 0 0]) := Lib.hid (Blk.mk_ rfl)
  generalize w.alloc (.cells #[.int .u32 0, .int .u64 0, .int .u64 0, .int .u64 0, .int .u64 0, .int .u64 0, .slice none 0 0] 31) = Y at B0 R0 ⊢
  have HG : Hid (w.heap.size ≤ w.heap.size) := Lib.hid (Nat.le_refl _)
  obtain ⟨gR, hgR⟩ : ∃ g, w.heap.size = g := ⟨_, rfl⟩
  have HGR : Hid (w.heap.size ≤ gR) := Lib.hid (by omega)
  rw [hgR] at R0 ⊢
  clear hgR HG
  have r0 := R0.out.cell 0
  have r1 := R0.out.cell 1
  have r2 := R0.out.cell 2
  have r3 := R0.out.cell 3
  have r4 := R0.out.cell 4
  have r5 := R0.out.cell 5
  have r6 := R0.out.cell 6
  simp only [List.getElem?_cons_zero, List.getElem?_cons_succ] at r0 r1 r2 r3 r4 r5 r6
  have f0 := R0.out.frozen 0
  have f1 := R0.out.frozen 1
  have f2 := R0.out.frozen 2
  have f3 := R0.out.frozen 3
  have f4 := R0.out.frozen 4
  have f5 := R0.out.frozen 5
  have f6 := R0.out.frozen 6
  go_wp2
  have hRR : Blk ((((((((Y.setCell ⟨gR, 0, none⟩ (.int .u32 ch)).setCell ⟨gR, 1, none⟩ (.int .u64 0)).setCell ⟨gR, 2, none⟩ (.int .u64 0)).setCell ⟨gR, 3, none⟩ (.int .u64 0)).setCell ⟨gR, 4, none⟩ (.int .u64 0)).setCell ⟨gR, 5, none⟩ (.int .u64 0)).setCell ⟨gR, 6, none⟩ (.slice none 0 0))) gR 31 [.int .u32 ch, .int .u64 0, .int .u64 0, .int .u64 0, .int .u64 0, .int .u64 0, .slice none 0 0] := (((((((R0.out.set_ 0 _).set_ 1 _).set_ 2 _).set_ 3 _).set_ 4 _).set_ 5 _).set_ 6 _)
  have hz1 : (Try.prog.info? 31).map (·.size) = some (#[.int .u32 ch, .int .u64 0, .int .u64 0, .int .u64 0, .int .u64 0, .int .u64 0, .slice none 0 0] : Array Value).size := info31
  exact bodyPost_ret (results_cell_row Try.results28 _ _ gR 31 #[.int .u32 ch, .int .u64 0, .int .u64 0, .int .u64 0, .int .u64 0, .int .u64 0, .slice none 0 0] (0, 0) _ rfl hRR Try.underlying31 rfl hz1) rfl ⟨rfl, (((((((B0.out.setCell (p := ⟨gR, 0, none⟩) HGR.out _).setCell (p := ⟨gR, 1, none⟩) HGR.out _).setCell (p := ⟨gR, 2, none⟩) HGR.out _).setCell (p := ⟨gR, 3, none⟩) HGR.out _).setCell (p := ⟨gR, 4, none⟩) HGR.out _).setCell (p := ⟨gR, 5, none⟩) HGR.out _).setCell (p := ⟨gR, 6, none⟩) HGR.out _)⟩

end Go.Proofs.Ytkiifjkcpangfaa
