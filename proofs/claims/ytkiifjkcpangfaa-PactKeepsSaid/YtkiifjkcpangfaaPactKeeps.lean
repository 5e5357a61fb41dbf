/-
  tollhouselaw12.PactKeeps returns true for every input: whatever the other side wants in its turn, a side's worth never falls but by one of its own payments that is done; what is handed in isn't written.
-/
import Derived.Test.YtkiifjkcpangfaaPacW
namespace Go.Proofs.Ytkiifjkcpangfaa.pactKeeps
open Go.ChangeShapes Go.WideShapes Go.ChangeAt Go.RowKit Go.Deep
set_option linter.unusedVariables false

def S0 : St := ⟨1, 0, 0, 0, 0, 0, []⟩
theorem w_0 : Word 0 := ⟨by decide, by decide⟩
theorem S0_ok : S0.Ok := ⟨w_0, w_0, w_0, w_0, w_0⟩
theorem turn01 (T : Int) (h : T = 0 ∨ T = 1) : 1 - T = 0 ∨ 1 - T = 1 := by omega

set_option maxRecDepth 100000 in
set_option maxHeartbeats 4000000 in
theorem walk (p0 p1 : Int) (ao : Option Addr) (no capo : Nat) (os : List Wish) (w : World) (hR : ORow w ao os) (hlo : os.length = no) (hmo : no ≤ maxLen) (hp0 : Word p0) (hp1 : Word p1) :
    Calls Try.prog 6 #[.agg #[.int .u64 p0, .int .u64 p1], .slice ao no capo] w fun e w' => e = .returned (.bool true) ∧ Below w.heap.size w w' := by
  have HR := Lib.hid hR
  have HLO := Lib.hid hlo
  have BA : Hid (Below w.heap.size w (w.alloc (.cells #[.int .u64 p0, .int .u64 p1] 24))) := Lib.hid ((Below.refl _ _).alloc (Nat.le_refl _) _)
  have PA : Hid (Blk (w.alloc (.cells #[.int .u64 p0, .int .u64 p1] 24)) w.heap.size 24 [.int .u64 p0, .int .u64 p1]) := Lib.hid (Blk.mk_ rfl)
  clear hR hlo
  go_enter Try.func6, Try.ntmps6
  go_upto_region 1 with fail
  generalize (w.alloc (.cells #[.int .u64 p0, .int .u64 p1] 24)) = A at BA PA ⊢
  obtain ⟨gp, hgp⟩ : ∃ q, w.heap.size = q := ⟨_, rfl⟩
  have HGP : Hid (w.heap.size ≤ gp) := Lib.hid (by omega)
  rw [hgp] at PA ⊢
  clear hgp
  go_wp2_with fail
  refine (new_any 1 A).mono ?_
  rintro e B ⟨rfl, hB⟩
  have BB : Hid (Below w.heap.size w B) := Lib.hid (BA.out.trans (hB.mono BA.out.size))
  have PB := Lib.hid (PA.out.below hB PA.out.lt)
  clear hB BA PA
  have HLA := heap_alloc_last B (.cells #[.int .u32 0, .int .u64 0, .int .u64 0, .int .u64 0, .int .u64 0, .int .u64 0, .slice none 0 0] 31)
  have hz1 : (Try.prog.info? 31).map (·.size) = some (#[.int .u32 1, .int .u64 0, .int .u64 0, .int .u64 0, .int .u64 0, .int .u64 0, .slice none 0 0] : Array Value).size := info31
  go_upto_region 2 with (first | (refine wpList_store_row rfl 31 (.tmp 5) (.tmp 18) rfl B.heap.size #[.int .u32 1, .int .u64 0, .int .u64 0, .int .u64 0, .int .u64 0, .int .u64 0, .slice none 0 0] rfl rfl 31 _ HLA hz1 rfl rfl ?_; rw [World.setRow_alloc_new]))
  clear HLA hz1
  have hB : Below B.heap.size B (B.alloc (.cells #[.int .u32 1, .int .u64 0, .int .u64 0, .int .u64 0, .int .u64 0, .int .u64 0, .slice none 0 0] 31)) := (Below.refl _ _).alloc (Nat.le_refl _) _
  have BC : Hid (Below w.heap.size w (B.alloc (.cells #[.int .u32 1, .int .u64 0, .int .u64 0, .int .u64 0, .int .u64 0, .int .u64 0, .slice none 0 0] 31))) := Lib.hid (BB.out.trans (hB.mono BB.out.size))
  have PC := Lib.hid (PB.out.below hB PB.out.lt)
  have XC : Hid (StAt (B.alloc (.cells #[.int .u32 1, .int .u64 0, .int .u64 0, .int .u64 0, .int .u64 0, .int .u64 0, .slice none 0 0] 31)) w.heap.size B.heap.size S0 none 0 0) := Lib.hid ⟨Blk.new _ _ [.int .u32 1, .int .u64 0, .int .u64 0, .int .u64 0, .int .u64 0, .int .u64 0, .slice none 0 0], World.ownsRow_nil _ _ _ _, (by intro x hx; cases hx), rfl⟩
  have HGX : Hid (gp < B.heap.size ∧ w.heap.size ≤ B.heap.size) := Lib.hid ⟨PB.out.lt, BB.out.size⟩
  clear hB BB PB
  generalize B.alloc (.cells #[.int .u32 1, .int .u64 0, .int .u64 0, .int .u64 0, .int .u64 0, .int .u64 0, .slice none 0 0] 31) = C at BC PC XC ⊢
  generalize B.heap.size = gx at HGX XC ⊢
  go_wp2
  go_loopw [6, 7, 8, 9, 10, 11, 12, 13, 14, 15, 16, 17, 21] (fun _ _ _ _ _ _ _ _ _ _ _ _ i wr => ∃ (k : Nat) (s : St) (a : Option Addr) (n cap : Nat), k ≤ no ∧ i = .int .i64 k ∧ Hid (Below w.heap.size w wr) ∧ Hid (Blk wr gp 24 [.int .u64 p0, .int .u64 p1]) ∧ Hid (StAt wr w.heap.size gx s a n cap) ∧ Hid (s.Ok ∧ s.cs.length ≤ 8)) (fun _ _ _ _ _ _ _ _ _ _ _ _ i _ => no - (intOf i).toNat)
  case atStart => exact ⟨0, S0, none, 0, 0, Nat.zero_le _, rfl, BC, PC, XC, Lib.hid ⟨S0_ok, by decide⟩⟩
  case round =>
    clear BC PC XC
    obtain ⟨k, s, a, n, cap, hk, rfl, HB, P0, X0, HS⟩ := hrel
    by_cases hlt : k < no
    case neg =>
      go_wp2_with fail
      refine (awake_any wr).mono ?_
      rintro e Z ⟨rfl, hB⟩
      go_wp2
      go_ret
      exact ⟨rfl, HB.out.trans (hB.mono HB.out.size)⟩
    have hk' : k < os.length := by rw [HLO.out]; exact hlt
    obtain ⟨b, o, q, rfl, hb, hq, hr, hok⟩ := HR.out.get hk'
    have RG := range_below hr HB.out hb
    have HOK := Lib.hid hok
    clear hq hr hb hk'
    have hz1 : (Try.prog.info? 55).map (·.size) = some q.cells.toArray.size := by rw [hok.size]; exact info55
    have hz2 : (Try.prog.info? 55).map (·.size) = some q.cells.length := by rw [hok.len]; exact info55
    have hz3 : (#[.int .i64 0, .int .u64 0, .int .u64 0, .int .i64 0, .int .u64 0, .int .u8 0, .int .u8 0, .int .u8 0, .int .u8 0, .int .u8 0, .int .u8 0, .int .u8 0, .int .u8 0, .int .u8 0, .int .u8 0, .int .u8 0, .int .u8 0, .int .u8 0, .int .u8 0, .int .u8 0, .int .u8 0, .int .u8 0, .int .u8 0, .int .u8 0, .int .u8 0, .int .u8 0, .int .u8 0, .int .u8 0, .int .u8 0, .int .u8 0, .int .u8 0, .int .u8 0, .int .u8 0, .int .u8 0, .int .u8 0, .int .u8 0, .int .u8 0, .int .u64 0, .int .u64 0] : Array Value).size = q.cells.toArray.size := by rw [hok.size]; rfl
    have hco : q.cells.toArray.all (·.oneCell') = true := ocells_one _ _ _ _
    have HLA := heap_alloc_last wr (.cells #[.int .i64 0, .int .u64 0, .int .u64 0, .int .i64 0, .int .u64 0, .int .u8 0, .int .u8 0, .int .u8 0, .int .u8 0, .int .u8 0, .int .u8 0, .int .u8 0, .int .u8 0, .int .u8 0, .int .u8 0, .int .u8 0, .int .u8 0, .int .u8 0, .int .u8 0, .int .u8 0, .int .u8 0, .int .u8 0, .int .u8 0, .int .u8 0, .int .u8 0, .int .u8 0, .int .u8 0, .int .u8 0, .int .u8 0, .int .u8 0, .int .u8 0, .int .u8 0, .int .u8 0, .int .u8 0, .int .u8 0, .int .u8 0, .int .u8 0, .int .u64 0, .int .u64 0] 55)
    go_upto_region 5 with (first | (refine wpList_load_mid rfl 55 (.tmp 24) rfl b (o + k * 39) rfl q.cells _ RG Try.underlying55 rfl hz2 ?_) | (refine wpList_store_row rfl 55 (.tmp 7) (.tmp 25) rfl wr.heap.size q.cells.toArray rfl rfl 55 _ HLA hz1 hz3 hco ?_; rw [World.setRow_alloc_new]))
    clear hz1 hz2 hz3 hco HLA RG hok
    have hB : Below wr.heap.size wr (wr.alloc (.cells q.cells.toArray 55)) := (Below.refl _ _).alloc (Nat.le_refl _) _
    have BD : Hid (Below w.heap.size w (wr.alloc (.cells q.cells.toArray 55))) := Lib.hid (HB.out.trans (hB.mono HB.out.size))
    have PD := Lib.hid (P0.out.below hB P0.out.lt)
    have XD := Lib.hid (X0.out.keep hB)
    have KD : Hid (Blk (wr.alloc (.cells q.cells.toArray 55)) wr.heap.size 55 (ocells q.k q.amt q.c q.id)) := Lib.hid (Blk.new wr 55 q.cells)
    have HGQ : Hid (w.heap.size ≤ wr.heap.size ∧ gp < wr.heap.size ∧ gx < wr.heap.size) := Lib.hid ⟨HB.out.size, P0.out.lt, X0.out.blk.lt⟩
    clear hB HB P0 X0
    generalize (wr.alloc (.cells q.cells.toArray 55)) = D at BD PD XD KD ⊢
    generalize wr.heap.size = gq at HGQ KD ⊢
    by_cases h40 : 40 ≤ k
    case pos =>
      have b40 : (k : Int) ≥ 40 := by omega
      go_wp2_with fail
      refine (awake_any D).mono ?_
      rintro e Z ⟨rfl, hB⟩
      go_wp2
      go_ret
      exact ⟨rfl, BD.out.trans (hB.mono BD.out.size)⟩
    have b40 : ¬ (k : Int) ≥ 40 := by omega
    obtain ⟨T, hT⟩ : ∃ T, turnF (wr64 (s.rd + 1)) = T := ⟨_, rfl⟩
    have HT1 : Hid (∀ W, Calls Try.prog 22 #[.int .u64 (IntKind.u64.wrap (s.rd + 1))] W fun e w2 => e = .returned (.int .i64 T) ∧ W = w2) := Lib.hid (fun W => by have := turn_any (wr64 (s.rd + 1)) W (wr64_word _); rwa [hT] at this)
    have hT01 := turnF_side (wr64 (s.rd + 1))
    rw [hT] at hT01
    have HT01 := Lib.hid hT01
    have HTO := Lib.hid (turn01 T hT01)
    have HO1 := Lib.hid (fun W => other_any T hT01 W)
    clear hT hT01
    obtain ⟨O, hOO⟩ : ∃ O, 1 - T = O := ⟨_, rfl⟩
    rw [hOO] at HTO HO1
    have HOO := Lib.hid hOO
    clear hOO
    have XK := XD.out.blk
    have s0 := XK.cell 0
    have s1 := XK.cell 1
    have s2 := XK.cell 2
    have s3 := XK.cell 3
    have s4 := XK.cell 4
    have s5 := XK.cell 5
    have s6 := XK.cell 6
    simp only [List.getElem?_cons_zero, List.getElem?_cons_succ] at s0 s1 s2 s3 s4 s5 s6
    go_wp2_with fail
    clear s0 s1 s2 s3 s4 s5 s6 XK b40
    refine (HT1.out _).mono ?_
    rintro e w2 ⟨rfl, rfl⟩
    clear HT1
    have k3 := KD.out.cell 3
    rw [ocells_3] at k3
    have f3 := KD.out.frozen 3
    go_upto_region 8 with fail
    clear k3 f3
    have hO1 : D.grownBy (D.setCell ⟨gq, 3, none⟩ (.int .i64 T)) (some gq) := only_setCell (p := ⟨gq, 3, none⟩) (only_refl _ _) (.inl rfl) _
    have BE : Hid (Below w.heap.size w (D.setCell ⟨gq, 3, none⟩ (.int .i64 T))) := Lib.hid (BD.out.grown hO1 BD.out.size (fun q hq => by injection hq with hq; have := HGQ.out; omega))
    have PE : Hid (Blk (D.setCell ⟨gq, 3, none⟩ (.int .i64 T)) gp 24 [.int .u64 p0, .int .u64 p1]) := Lib.hid (PD.out.grown hO1 (fun e => by injection e with e; have := HGQ.out; omega))
    have KE : Hid (Blk (D.setCell ⟨gq, 3, none⟩ (.int .i64 T)) gq 55 (ocells q.k q.amt (q.c.by_ T) q.id)) := Lib.hid (KD.out.set_ 3 (.int .i64 T))
    have XE : Hid (StAt (D.setCell ⟨gq, 3, none⟩ (.int .i64 T)) w.heap.size gx s a n cap) := Lib.hid (XD.out.other hO1 (fun e => by have := HGQ.out; omega) KD.out (by decide))
    clear hO1 BD PD KD XD
    generalize (D.setCell ⟨gq, 3, none⟩ (.int .i64 T)) = E at BE PE KE XE ⊢
    have HZK : Hid ((Try.prog.info? 55).map (·.size) = some (ocells q.k q.amt (q.c.by_ T) q.id).length) := Lib.hid (by rw [ocells_length _ _ _ _ (HOK.out.c.by_ T)]; exact info55)
    obtain ⟨E1, hE1⟩ : ∃ x, nextE s p0 p1 T q.k q.amt (q.c.by_ T) q.id = x := ⟨_, rfl⟩
    obtain ⟨SS, hSS⟩ : ∃ x, nextS s p0 p1 T q.k q.amt (q.c.by_ T) q.id = x := ⟨_, rfl⟩
    have HNX : Hid (∀ X, CRow X a s.cs → Calls Try.prog 24 #[.agg #[.int .u32 s.ch, .int .u64 s.rd, .int .u64 s.m0, .int .u64 s.m1, .int .u64 s.t0, .int .u64 s.t1, .slice a n cap], .agg #[.int .u64 p0, .int .u64 p1], .int .i64 T, .agg (ocells q.k q.amt (q.c.by_ T) q.id).toArray] X (NextPost SS E1 X)) := Lib.hid (fun X hC => by
      have := next_any n cap s a p0 p1 T q.k q.amt q.id (q.c.by_ T) X hC XE.out.nil_ XE.out.len (by have := XE.out.len; have := HS.out.2; omega) (HOK.out.c.by_ T) HOK.out.amt hp0 hp1 HS.out.1
      rwa [hE1, hSS] at this)
    have HE1 := Lib.hid hE1
    have HSS := Lib.hid hSS
    have HSO : Hid (∀ x ∈ SS.cs, x.Ok) := Lib.hid (by rw [← hSS]; exact nextS_cok XE.out.ok (HOK.out.c.by_ T))
    clear hE1 hSS
    go_cut [9, 10] (fun s9 s10 wc => ∃ gN aN nN cN, s9 = .pointer (some ⟨gN, 0, none⟩) ∧ s10 = .int .i64 E1 ∧ Hid (Below w.heap.size w wc) ∧ Hid (Blk wc gp 24 [.int .u64 p0, .int .u64 p1]) ∧ Hid (Blk wc gq 55 (ocells q.k q.amt (q.c.by_ T) q.id)) ∧ Hid (StAt wc w.heap.size gx s a n cap) ∧ Hid (StAt wc w.heap.size gN SS aN nN cN) ∧ Hid (w.heap.size ≤ gN ∧ gp < gN ∧ gq < gN ∧ gx < gN))
    case first =>
      have hBz : Below E.heap.size E E.drew := below_drewN (Below.refl _ _) 1
      have BX0 : Hid (Below w.heap.size w E.drew) := Lib.hid (BE.out.trans (hBz.mono BE.out.size))
      have PX0 : Hid (Blk E.drew gp 24 [.int .u64 p0, .int .u64 p1]) := Lib.hid (PE.out.below hBz PE.out.lt)
      have KX0 : Hid (Blk E.drew gq 55 (ocells q.k q.amt (q.c.by_ T) q.id)) := Lib.hid (KE.out.below hBz KE.out.lt)
      have XX0 : Hid (StAt E.drew w.heap.size gx s a n cap) := Lib.hid (XE.out.keep hBz)
      clear hBz
      refine wp_region_held_drew (S := fun w' => Blk w' gp 24 [.int .u64 p0, .int .u64 p1] ∧ Blk w' gq 55 (ocells q.k q.amt (q.c.by_ T) q.id) ∧ StAt w' w.heap.size gx s a n cap) (by kernel_rfl) (⟨PX0.out, KX0.out, XX0.out⟩) (fun hHeld => ?_)
      generalize E.drew = X0 at hHeld BX0 PX0 KX0 XX0 ⊢
      refine wpAnyH_take (i := 0) (v := .agg #[.int .u32 s.ch, .int .u64 s.rd, .int .u64 s.m0, .int .u64 s.m1, .int .u64 s.t0, .int .u64 s.t1, .slice a n cap]) rfl (by kernel_rfl) (by kernel_rfl) (by kernel_rfl) (fun _ _ _ h => h) (Or.inl ⟨by rfl, by intro w' h; have q0 := Blk.cell h.2.2.blk 0; have q1 := Blk.cell h.2.2.blk 1; have q2 := Blk.cell h.2.2.blk 2; have q3 := Blk.cell h.2.2.blk 3; have q4 := Blk.cell h.2.2.blk 4; have q5 := Blk.cell h.2.2.blk 5; have q6 := Blk.cell h.2.2.blk 6; simp only [List.getElem?_cons_zero, List.getElem?_cons_succ] at q0 q1 q2 q3 q4 q5 q6; go_simp⟩) hHeld ?_
      show wpAnyH _ _ _ _ _ _ _ (Act.put _ (some 36) _) _
      simp only [Act.put, List.setIfInBounds_toArray, List.set_cons_zero, List.set_cons_succ]
      refine wpAnyH_take (i := 1) (v := .agg #[.int .u64 p0, .int .u64 p1]) rfl (by kernel_rfl) (by kernel_rfl) (by kernel_rfl) (fun _ _ _ h => h) (Or.inl ⟨by rfl, by intro w' h; have q0 := Blk.cell h.1 0; have q1 := Blk.cell h.1 1; simp only [List.getElem?_cons_zero, List.getElem?_cons_succ] at q0 q1; go_simp⟩) hHeld ?_
      show wpAnyH _ _ _ _ _ _ _ (Act.put _ (some 37) _) _
      simp only [Act.put, List.setIfInBounds_toArray, List.set_cons_zero, List.set_cons_succ]
      refine wpAnyH_take (i := 2) (v := .int .i64 T) rfl (by kernel_rfl) (by kernel_rfl) (by kernel_rfl) (fun _ _ _ h => h) (Or.inl ⟨by rfl, fun w _ => by rfl⟩) hHeld ?_
      show wpAnyH _ _ _ _ _ _ _ (Act.put _ (some 38) _) _
      simp only [Act.put, List.setIfInBounds_toArray, List.set_cons_zero, List.set_cons_succ]
      refine wpAnyH_take (i := 3) (v := .agg (ocells q.k q.amt (q.c.by_ T) q.id).toArray) rfl (by kernel_rfl) (by kernel_rfl) (by kernel_rfl) (fun _ _ _ h => h) (yieldsIf_load_mid (by rfl) 55 (.tmp 7) rfl gq 0 rfl (ocells q.k q.amt (q.c.by_ T) q.id) _ (fun w h => Blk.all h.2.1) Try.underlying55 rfl HZK.out) hHeld ?_
      show wpAnyH _ _ _ _ _ _ _ (Act.put _ (some 39) _) _
      simp only [Act.put, List.setIfInBounds_toArray, List.set_cons_zero, List.set_cons_succ]
      refine wpAnyH_ready (rs := [4, 9]) (by kernel_rfl) (by simp) ?_
      refine AllReadyH.cons rfl (fun K hK => ?_) (AllReadyH.cons rfl (fun K hK => ?_) AllReadyH.nil)
      · refine step_call rfl 25 #[.tmp 39] #[55] rfl #[.agg (ocells q.k q.amt (q.c.by_ T) q.id).toArray] (by simp [Act.eval]) (by go_simp) (op_any q.k q.amt q.id (q.c.by_ T) X0 (HOK.out.c.by_ T)) ?_
        rintro e X1 ⟨rfl, hB⟩
        have BX1 : Hid (Below w.heap.size w X1) := Lib.hid (BX0.out.trans (hB.mono BX0.out.size))
        have PX1 : Hid (Blk X1 gp 24 [.int .u64 p0, .int .u64 p1]) := Lib.hid (PX0.out.below hB PX0.out.lt)
        have KX1 : Hid (Blk X1 gq 55 (ocells q.k q.amt (q.c.by_ T) q.id)) := Lib.hid (KX0.out.below hB KX0.out.lt)
        have XX1 : Hid (StAt X1 w.heap.size gx s a n cap) := Lib.hid (XX0.out.keep hB)
        clear BX0 PX0 KX0 XX0 hB
        refine ⟨_, rfl, hK.out _ _ (⟨PX1.out, KX1.out, XX1.out⟩) (fun hHeld => ?_)⟩
        clear hK K
        show wpAnyH _ _ _ _ _ _ _ (Act.put _ (some 40) _) _
        simp only [Act.put, List.setIfInBounds_toArray, List.set_cons_zero, List.set_cons_succ]
        refine wpAnyH_ready (rs := [5, 9]) (by kernel_rfl) (by simp) ?_
        refine AllReadyH.cons rfl (fun K hK => ?_) (AllReadyH.cons rfl (fun K hK => ?_) AllReadyH.nil)
        · refine step_call rfl 24 #[.tmp 36, .tmp 37, .tmp 38, .tmp 40] #[31, 24, 36, 62] rfl #[.agg #[.int .u32 s.ch, .int .u64 s.rd, .int .u64 s.m0, .int .u64 s.m1, .int .u64 s.t0, .int .u64 s.t1, .slice a n cap], .agg #[.int .u64 p0, .int .u64 p1], .int .i64 T, .agg (ocells q.k q.amt (q.c.by_ T) q.id).toArray] (by simp [Act.eval]) (by go_simp) (HNX.out X1 XX1.out.row) ?_
          rintro e X2 ⟨aN, nN, cN, rfl, hR, hlen, hB⟩
          have HLEN := Lib.hid hlen
          have BX2 : Hid (Below w.heap.size w X2) := Lib.hid (BX1.out.trans (hB.mono BX1.out.size))
          have PX2 : Hid (Blk X2 gp 24 [.int .u64 p0, .int .u64 p1]) := Lib.hid (PX1.out.below hB PX1.out.lt)
          have KX2 : Hid (Blk X2 gq 55 (ocells q.k q.amt (q.c.by_ T) q.id)) := Lib.hid (KX1.out.below hB KX1.out.lt)
          have XX2 : Hid (StAt X2 w.heap.size gx s a n cap) := Lib.hid (XX1.out.keep hB)
          have RX2 : Hid (X2.ownsRow w.heap.size 60 36 (.slice aN nN cN) nN (cflat SS.cs)) := Lib.hid (own_mono hR BX1.out.size)
          clear BX1 PX1 KX1 XX1 hB hR hlen
          refine ⟨_, rfl, hK.out _ _ (⟨PX2.out, KX2.out, XX2.out⟩) (fun hHeld => ?_)⟩
          clear hK K
          show wpAnyH _ _ _ _ _ _ _ (Act.put _ (some 41) _) _
          simp only [Act.put, List.setIfInBounds_toArray, List.set_cons_zero, List.set_cons_succ]
          refine wpAnyH_take (i := 6) (v := .tuple #[.agg #[.int .u32 SS.ch, .int .u64 SS.rd, .int .u64 SS.m0, .int .u64 SS.m1, .int .u64 SS.t0, .int .u64 SS.t1, .slice aN nN cN], .int .i64 E1]) rfl (by kernel_rfl) (by kernel_rfl) (by kernel_rfl) (fun _ _ _ h => h) (Or.inl ⟨by rfl, fun w _ => by rfl⟩) hHeld ?_
          show wpAnyH _ _ _ _ _ _ _ (Act.put _ (some 35) _) _
          simp only [Act.put, List.setIfInBounds_toArray, List.set_cons_zero, List.set_cons_succ]
          refine wpAnyH_take (i := 7) (v := .agg #[.int .u32 SS.ch, .int .u64 SS.rd, .int .u64 SS.m0, .int .u64 SS.m1, .int .u64 SS.t0, .int .u64 SS.t1, .slice aN nN cN]) rfl (by kernel_rfl) (by kernel_rfl) (by kernel_rfl) (fun _ _ _ h => h) (Or.inl ⟨by rfl, by intro w' h; go_simp⟩) hHeld ?_
          show wpAnyH _ _ _ _ _ _ _ (Act.put _ (some 42) _) _
          simp only [Act.put, List.setIfInBounds_toArray, List.set_cons_zero, List.set_cons_succ]
          refine wpAnyH_take (i := 8) (v := .int .i64 E1) rfl (by kernel_rfl) (by kernel_rfl) (by kernel_rfl) (fun _ _ _ h => h) (Or.inl ⟨by rfl, by intro w' h; go_simp⟩) hHeld ?_
          show wpAnyH _ _ _ _ _ _ _ (Act.put _ (some 43) _) _
          simp only [Act.put, List.setIfInBounds_toArray, List.set_cons_zero, List.set_cons_succ]
          refine wpAnyH_ready (rs := [9]) (by kernel_rfl) (by simp) ?_
          refine AllReadyH.cons rfl (fun K hK => ?_) AllReadyH.nil
          refine step_new rfl 31 rfl #[.int .u32 0, .int .u64 0, .int .u64 0, .int .u64 0, .int .u64 0, .int .u64 0, .slice none 0 0] (.pointer (some ⟨X2.heap.size, 0, none⟩)) (by kernel_rfl) ?_
          have hB : Below X2.heap.size X2 (X2.alloc (.cells #[.int .u32 0, .int .u64 0, .int .u64 0, .int .u64 0, .int .u64 0, .int .u64 0, .slice none 0 0] 31)) := (Below.refl _ _).alloc (Nat.le_refl _) _
          have hZ := Blk.new X2 31 [.int .u32 0, .int .u64 0, .int .u64 0, .int .u64 0, .int .u64 0, .int .u64 0, .slice none 0 0]
          generalize X2.alloc (.cells #[.int .u32 0, .int .u64 0, .int .u64 0, .int .u64 0, .int .u64 0, .int .u64 0, .slice none 0 0] 31) = X3 at hB hZ ⊢
          obtain ⟨gN, hgN⟩ : ∃ q, X2.heap.size = q := ⟨_, rfl⟩
          have HGN : Hid (w.heap.size ≤ gN ∧ gp < gN ∧ gq < gN ∧ gx < gN) := Lib.hid ⟨by have := BX2.out.size; omega, by have := PX2.out.lt; omega, by have := KX2.out.lt; omega, by have := XX2.out.blk.lt; omega⟩
          rw [hgN] at hZ ⊢
          clear hgN
          have BX3 : Hid (Below w.heap.size w X3) := Lib.hid (BX2.out.trans (hB.mono BX2.out.size))
          have PX3 : Hid (Blk X3 gp 24 [.int .u64 p0, .int .u64 p1]) := Lib.hid (PX2.out.below hB PX2.out.lt)
          have KX3 : Hid (Blk X3 gq 55 (ocells q.k q.amt (q.c.by_ T) q.id)) := Lib.hid (KX2.out.below hB KX2.out.lt)
          have XX3 : Hid (StAt X3 w.heap.size gx s a n cap) := Lib.hid (XX2.out.keep hB)
          have RX3 : Hid (X3.ownsRow w.heap.size 60 36 (.slice aN nN cN) nN (cflat SS.cs)) := Lib.hid (own_keep RX2.out hB)
          have ZX3 : Hid (Blk X3 gN 31 [.int .u32 0, .int .u64 0, .int .u64 0, .int .u64 0, .int .u64 0, .int .u64 0, .slice none 0 0]) := Lib.hid (hZ)
          clear BX2 PX2 KX2 XX2 RX2 hB hZ
          refine hK.out _ _ (⟨PX3.out, KX3.out, XX3.out⟩) (fun hHeld => ?_)
          clear hK K
          show wpAnyH _ _ _ _ _ _ _ (Act.put _ (some 9) _) _
          simp only [Act.put, List.setIfInBounds_toArray, List.set_cons_zero, List.set_cons_succ]
          refine wpAnyH_ready (rs := [10]) (by kernel_rfl) (by simp) ?_
          refine AllReadyH.cons rfl (fun K hK => ?_) AllReadyH.nil
          refine step_store rfl 31 (.tmp 9) (.tmp 42) rfl gN [.int .u32 SS.ch, .int .u64 SS.rd, .int .u64 SS.m0, .int .u64 SS.m1, .int .u64 SS.t0, .int .u64 SS.t1, .slice aN nN cN] rfl rfl 31 _ ZX3.out info31 rfl (by simp [Value.oneCell']) ?_
          intro X4 hZ hO
          have hKW : ∀ q, some gN = some q → w.heap.size ≤ q := fun q hq => by injection hq with hq; have := HGN.out; omega
          have hnP : some gp ≠ some gN := fun e => by injection e with e; have := HGN.out; omega
          have hnK : some gq ≠ some gN := fun e => by injection e with e; have := HGN.out; omega
          have hnX : gx ≠ gN := fun e => by have := HGN.out; omega
          have BX4 : Hid (Below w.heap.size w X4) := Lib.hid (BX3.out.grown hO BX3.out.size hKW)
          have PX4 : Hid (Blk X4 gp 24 [.int .u64 p0, .int .u64 p1]) := Lib.hid (PX3.out.grown hO hnP)
          have KX4 : Hid (Blk X4 gq 55 (ocells q.k q.amt (q.c.by_ T) q.id)) := Lib.hid (KX3.out.grown hO hnK)
          have XX4 : Hid (StAt X4 w.heap.size gx s a n cap) := Lib.hid (XX3.out.other hO hnX ZX3.out (by decide))
          have RX4 : Hid (X4.ownsRow w.heap.size 60 36 (.slice aN nN cN) nN (cflat SS.cs)) := Lib.hid (RX3.out.kept hO (.inr (fun e => own_ne RX3.out ZX3.out (by decide) e.symm)))
          have ZX4 : Hid (Blk X4 gN 31 [.int .u32 SS.ch, .int .u64 SS.rd, .int .u64 SS.m0, .int .u64 SS.m1, .int .u64 SS.t0, .int .u64 SS.t1, .slice aN nN cN]) := Lib.hid (hZ)
          clear BX3 PX3 KX3 XX3 RX3 hZ hO hKW ZX3 hnP hnK hnX
          refine hK.out _ _ (⟨PX4.out, KX4.out, XX4.out⟩) (fun hHeld => ?_)
          clear hK K
          show wpAnyH _ _ _ _ _ _ _ (Act.put _ none _) _
          simp only [Act.put]
          refine wpAnyH_take (i := 11) (v := .int .i64 E1) rfl (by kernel_rfl) (by kernel_rfl) (by kernel_rfl) (fun _ _ _ h => h) (Or.inl ⟨by rfl, fun w _ => by rfl⟩) hHeld ?_
          show wpAnyH _ _ _ _ _ _ _ (Act.put _ (some 10) _) _
          simp only [Act.put, List.setIfInBounds_toArray, List.set_cons_zero, List.set_cons_succ]
          refine wpAnyH_done (by kernel_rfl) ?_ _
          go_wp2
          go_meet
          exact ⟨gN, aN, nN, cN, rfl, rfl, BX4, PX4, KX4, XX4, Lib.hid ⟨ZX4.out, RX4.out, HSO.out, HLEN.out⟩, HGN⟩
        · refine step_new rfl 31 rfl #[.int .u32 0, .int .u64 0, .int .u64 0, .int .u64 0, .int .u64 0, .int .u64 0, .slice none 0 0] (.pointer (some ⟨X1.heap.size, 0, none⟩)) (by kernel_rfl) ?_
          have hB : Below X1.heap.size X1 (X1.alloc (.cells #[.int .u32 0, .int .u64 0, .int .u64 0, .int .u64 0, .int .u64 0, .int .u64 0, .slice none 0 0] 31)) := (Below.refl _ _).alloc (Nat.le_refl _) _
          have hZ := Blk.new X1 31 [.int .u32 0, .int .u64 0, .int .u64 0, .int .u64 0, .int .u64 0, .int .u64 0, .slice none 0 0]
          generalize X1.alloc (.cells #[.int .u32 0, .int .u64 0, .int .u64 0, .int .u64 0, .int .u64 0, .int .u64 0, .slice none 0 0] 31) = X2 at hB hZ ⊢
          obtain ⟨gN, hgN⟩ : ∃ q, X1.heap.size = q := ⟨_, rfl⟩
          have HGN : Hid (w.heap.size ≤ gN ∧ gp < gN ∧ gq < gN ∧ gx < gN) := Lib.hid ⟨by have := BX1.out.size; omega, by have := PX1.out.lt; omega, by have := KX1.out.lt; omega, by have := XX1.out.blk.lt; omega⟩
          rw [hgN] at hZ ⊢
          clear hgN
          have BX2 : Hid (Below w.heap.size w X2) := Lib.hid (BX1.out.trans (hB.mono BX1.out.size))
          have PX2 : Hid (Blk X2 gp 24 [.int .u64 p0, .int .u64 p1]) := Lib.hid (PX1.out.below hB PX1.out.lt)
          have KX2 : Hid (Blk X2 gq 55 (ocells q.k q.amt (q.c.by_ T) q.id)) := Lib.hid (KX1.out.below hB KX1.out.lt)
          have XX2 : Hid (StAt X2 w.heap.size gx s a n cap) := Lib.hid (XX1.out.keep hB)
          have ZX2 : Hid (Blk X2 gN 31 [.int .u32 0, .int .u64 0, .int .u64 0, .int .u64 0, .int .u64 0, .int .u64 0, .slice none 0 0]) := Lib.hid (hZ)
          clear BX1 PX1 KX1 XX1 hB hZ
          refine hK.out _ _ (⟨PX2.out, KX2.out, XX2.out⟩) (fun hHeld => ?_)
          clear hK K
          show wpAnyH _ _ _ _ _ _ _ (Act.put _ (some 9) _) _
          simp only [Act.put, List.setIfInBounds_toArray, List.set_cons_zero, List.set_cons_succ]
          refine wpAnyH_ready (rs := [5]) (by kernel_rfl) (by simp) ?_
          refine AllReadyH.cons rfl (fun K hK => ?_) AllReadyH.nil
          refine step_call rfl 24 #[.tmp 36, .tmp 37, .tmp 38, .tmp 40] #[31, 24, 36, 62] rfl #[.agg #[.int .u32 s.ch, .int .u64 s.rd, .int .u64 s.m0, .int .u64 s.m1, .int .u64 s.t0, .int .u64 s.t1, .slice a n cap], .agg #[.int .u64 p0, .int .u64 p1], .int .i64 T, .agg (ocells q.k q.amt (q.c.by_ T) q.id).toArray] (by simp [Act.eval]) (by go_simp) (HNX.out X2 XX2.out.row) ?_
          rintro e X3 ⟨aN, nN, cN, rfl, hR, hlen, hB⟩
          have HLEN := Lib.hid hlen
          have BX3 : Hid (Below w.heap.size w X3) := Lib.hid (BX2.out.trans (hB.mono BX2.out.size))
          have PX3 : Hid (Blk X3 gp 24 [.int .u64 p0, .int .u64 p1]) := Lib.hid (PX2.out.below hB PX2.out.lt)
          have KX3 : Hid (Blk X3 gq 55 (ocells q.k q.amt (q.c.by_ T) q.id)) := Lib.hid (KX2.out.below hB KX2.out.lt)
          have XX3 : Hid (StAt X3 w.heap.size gx s a n cap) := Lib.hid (XX2.out.keep hB)
          have ZX3 : Hid (Blk X3 gN 31 [.int .u32 0, .int .u64 0, .int .u64 0, .int .u64 0, .int .u64 0, .int .u64 0, .slice none 0 0]) := Lib.hid (ZX2.out.below hB ZX2.out.lt)
          have RX3 : Hid (X3.ownsRow w.heap.size 60 36 (.slice aN nN cN) nN (cflat SS.cs)) := Lib.hid (own_mono hR BX2.out.size)
          clear BX2 PX2 KX2 XX2 ZX2 hB hR hlen
          refine ⟨_, rfl, hK.out _ _ (⟨PX3.out, KX3.out, XX3.out⟩) (fun hHeld => ?_)⟩
          clear hK K
          show wpAnyH _ _ _ _ _ _ _ (Act.put _ (some 41) _) _
          simp only [Act.put, List.setIfInBounds_toArray, List.set_cons_zero, List.set_cons_succ]
          refine wpAnyH_take (i := 6) (v := .tuple #[.agg #[.int .u32 SS.ch, .int .u64 SS.rd, .int .u64 SS.m0, .int .u64 SS.m1, .int .u64 SS.t0, .int .u64 SS.t1, .slice aN nN cN], .int .i64 E1]) rfl (by kernel_rfl) (by kernel_rfl) (by kernel_rfl) (fun _ _ _ h => h) (Or.inl ⟨by rfl, fun w _ => by rfl⟩) hHeld ?_
          show wpAnyH _ _ _ _ _ _ _ (Act.put _ (some 35) _) _
          simp only [Act.put, List.setIfInBounds_toArray, List.set_cons_zero, List.set_cons_succ]
          refine wpAnyH_take (i := 7) (v := .agg #[.int .u32 SS.ch, .int .u64 SS.rd, .int .u64 SS.m0, .int .u64 SS.m1, .int .u64 SS.t0, .int .u64 SS.t1, .slice aN nN cN]) rfl (by kernel_rfl) (by kernel_rfl) (by kernel_rfl) (fun _ _ _ h => h) (Or.inl ⟨by rfl, by intro w' h; go_simp⟩) hHeld ?_
          show wpAnyH _ _ _ _ _ _ _ (Act.put _ (some 42) _) _
          simp only [Act.put, List.setIfInBounds_toArray, List.set_cons_zero, List.set_cons_succ]
          refine wpAnyH_take (i := 8) (v := .int .i64 E1) rfl (by kernel_rfl) (by kernel_rfl) (by kernel_rfl) (fun _ _ _ h => h) (Or.inl ⟨by rfl, by intro w' h; go_simp⟩) hHeld ?_
          show wpAnyH _ _ _ _ _ _ _ (Act.put _ (some 43) _) _
          simp only [Act.put, List.setIfInBounds_toArray, List.set_cons_zero, List.set_cons_succ]
          refine wpAnyH_ready (rs := [10]) (by kernel_rfl) (by simp) ?_
          refine AllReadyH.cons rfl (fun K hK => ?_) AllReadyH.nil
          refine step_store rfl 31 (.tmp 9) (.tmp 42) rfl gN [.int .u32 SS.ch, .int .u64 SS.rd, .int .u64 SS.m0, .int .u64 SS.m1, .int .u64 SS.t0, .int .u64 SS.t1, .slice aN nN cN] rfl rfl 31 _ ZX3.out info31 rfl (by simp [Value.oneCell']) ?_
          intro X4 hZ hO
          have hKW : ∀ q, some gN = some q → w.heap.size ≤ q := fun q hq => by injection hq with hq; have := HGN.out; omega
          have hnP : some gp ≠ some gN := fun e => by injection e with e; have := HGN.out; omega
          have hnK : some gq ≠ some gN := fun e => by injection e with e; have := HGN.out; omega
          have hnX : gx ≠ gN := fun e => by have := HGN.out; omega
          have BX4 : Hid (Below w.heap.size w X4) := Lib.hid (BX3.out.grown hO BX3.out.size hKW)
          have PX4 : Hid (Blk X4 gp 24 [.int .u64 p0, .int .u64 p1]) := Lib.hid (PX3.out.grown hO hnP)
          have KX4 : Hid (Blk X4 gq 55 (ocells q.k q.amt (q.c.by_ T) q.id)) := Lib.hid (KX3.out.grown hO hnK)
          have XX4 : Hid (StAt X4 w.heap.size gx s a n cap) := Lib.hid (XX3.out.other hO hnX ZX3.out (by decide))
          have RX4 : Hid (X4.ownsRow w.heap.size 60 36 (.slice aN nN cN) nN (cflat SS.cs)) := Lib.hid (RX3.out.kept hO (.inr (fun e => own_ne RX3.out ZX3.out (by decide) e.symm)))
          have ZX4 : Hid (Blk X4 gN 31 [.int .u32 SS.ch, .int .u64 SS.rd, .int .u64 SS.m0, .int .u64 SS.m1, .int .u64 SS.t0, .int .u64 SS.t1, .slice aN nN cN]) := Lib.hid (hZ)
          clear BX3 PX3 KX3 XX3 RX3 hZ hO hKW ZX3 hnP hnK hnX
          refine hK.out _ _ (⟨PX4.out, KX4.out, XX4.out⟩) (fun hHeld => ?_)
          clear hK K
          show wpAnyH _ _ _ _ _ _ _ (Act.put _ none _) _
          simp only [Act.put]
          refine wpAnyH_take (i := 11) (v := .int .i64 E1) rfl (by kernel_rfl) (by kernel_rfl) (by kernel_rfl) (fun _ _ _ h => h) (Or.inl ⟨by rfl, fun w _ => by rfl⟩) hHeld ?_
          show wpAnyH _ _ _ _ _ _ _ (Act.put _ (some 10) _) _
          simp only [Act.put, List.setIfInBounds_toArray, List.set_cons_zero, List.set_cons_succ]
          refine wpAnyH_done (by kernel_rfl) ?_ _
          go_wp2
          go_meet
          exact ⟨gN, aN, nN, cN, rfl, rfl, BX4, PX4, KX4, XX4, Lib.hid ⟨ZX4.out, RX4.out, HSO.out, HLEN.out⟩, HGN⟩
      · refine step_new rfl 31 rfl #[.int .u32 0, .int .u64 0, .int .u64 0, .int .u64 0, .int .u64 0, .int .u64 0, .slice none 0 0] (.pointer (some ⟨X0.heap.size, 0, none⟩)) (by kernel_rfl) ?_
        have hB : Below X0.heap.size X0 (X0.alloc (.cells #[.int .u32 0, .int .u64 0, .int .u64 0, .int .u64 0, .int .u64 0, .int .u64 0, .slice none 0 0] 31)) := (Below.refl _ _).alloc (Nat.le_refl _) _
        have hZ := Blk.new X0 31 [.int .u32 0, .int .u64 0, .int .u64 0, .int .u64 0, .int .u64 0, .int .u64 0, .slice none 0 0]
        generalize X0.alloc (.cells #[.int .u32 0, .int .u64 0, .int .u64 0, .int .u64 0, .int .u64 0, .int .u64 0, .slice none 0 0] 31) = X1 at hB hZ ⊢
        obtain ⟨gN, hgN⟩ : ∃ q, X0.heap.size = q := ⟨_, rfl⟩
        have HGN : Hid (w.heap.size ≤ gN ∧ gp < gN ∧ gq < gN ∧ gx < gN) := Lib.hid ⟨by have := BX0.out.size; omega, by have := PX0.out.lt; omega, by have := KX0.out.lt; omega, by have := XX0.out.blk.lt; omega⟩
        rw [hgN] at hZ ⊢
        clear hgN
        have BX1 : Hid (Below w.heap.size w X1) := Lib.hid (BX0.out.trans (hB.mono BX0.out.size))
        have PX1 : Hid (Blk X1 gp 24 [.int .u64 p0, .int .u64 p1]) := Lib.hid (PX0.out.below hB PX0.out.lt)
        have KX1 : Hid (Blk X1 gq 55 (ocells q.k q.amt (q.c.by_ T) q.id)) := Lib.hid (KX0.out.below hB KX0.out.lt)
        have XX1 : Hid (StAt X1 w.heap.size gx s a n cap) := Lib.hid (XX0.out.keep hB)
        have ZX1 : Hid (Blk X1 gN 31 [.int .u32 0, .int .u64 0, .int .u64 0, .int .u64 0, .int .u64 0, .int .u64 0, .slice none 0 0]) := Lib.hid (hZ)
        clear BX0 PX0 KX0 XX0 hB hZ
        refine hK.out _ _ (⟨PX1.out, KX1.out, XX1.out⟩) (fun hHeld => ?_)
        clear hK K
        show wpAnyH _ _ _ _ _ _ _ (Act.put _ (some 9) _) _
        simp only [Act.put, List.setIfInBounds_toArray, List.set_cons_zero, List.set_cons_succ]
        refine wpAnyH_ready (rs := [4]) (by kernel_rfl) (by simp) ?_
        refine AllReadyH.cons rfl (fun K hK => ?_) AllReadyH.nil
        refine step_call rfl 25 #[.tmp 39] #[55] rfl #[.agg (ocells q.k q.amt (q.c.by_ T) q.id).toArray] (by simp [Act.eval]) (by go_simp) (op_any q.k q.amt q.id (q.c.by_ T) X1 (HOK.out.c.by_ T)) ?_
        rintro e X2 ⟨rfl, hB⟩
        have BX2 : Hid (Below w.heap.size w X2) := Lib.hid (BX1.out.trans (hB.mono BX1.out.size))
        have PX2 : Hid (Blk X2 gp 24 [.int .u64 p0, .int .u64 p1]) := Lib.hid (PX1.out.below hB PX1.out.lt)
        have KX2 : Hid (Blk X2 gq 55 (ocells q.k q.amt (q.c.by_ T) q.id)) := Lib.hid (KX1.out.below hB KX1.out.lt)
        have XX2 : Hid (StAt X2 w.heap.size gx s a n cap) := Lib.hid (XX1.out.keep hB)
        have ZX2 : Hid (Blk X2 gN 31 [.int .u32 0, .int .u64 0, .int .u64 0, .int .u64 0, .int .u64 0, .int .u64 0, .slice none 0 0]) := Lib.hid (ZX1.out.below hB ZX1.out.lt)
        clear BX1 PX1 KX1 XX1 ZX1 hB
        refine ⟨_, rfl, hK.out _ _ (⟨PX2.out, KX2.out, XX2.out⟩) (fun hHeld => ?_)⟩
        clear hK K
        show wpAnyH _ _ _ _ _ _ _ (Act.put _ (some 40) _) _
        simp only [Act.put, List.setIfInBounds_toArray, List.set_cons_zero, List.set_cons_succ]
        refine wpAnyH_ready (rs := [5]) (by kernel_rfl) (by simp) ?_
        refine AllReadyH.cons rfl (fun K hK => ?_) AllReadyH.nil
        refine step_call rfl 24 #[.tmp 36, .tmp 37, .tmp 38, .tmp 40] #[31, 24, 36, 62] rfl #[.agg #[.int .u32 s.ch, .int .u64 s.rd, .int .u64 s.m0, .int .u64 s.m1, .int .u64 s.t0, .int .u64 s.t1, .slice a n cap], .agg #[.int .u64 p0, .int .u64 p1], .int .i64 T, .agg (ocells q.k q.amt (q.c.by_ T) q.id).toArray] (by simp [Act.eval]) (by go_simp) (HNX.out X2 XX2.out.row) ?_
        rintro e X3 ⟨aN, nN, cN, rfl, hR, hlen, hB⟩
        have HLEN := Lib.hid hlen
        have BX3 : Hid (Below w.heap.size w X3) := Lib.hid (BX2.out.trans (hB.mono BX2.out.size))
        have PX3 : Hid (Blk X3 gp 24 [.int .u64 p0, .int .u64 p1]) := Lib.hid (PX2.out.below hB PX2.out.lt)
        have KX3 : Hid (Blk X3 gq 55 (ocells q.k q.amt (q.c.by_ T) q.id)) := Lib.hid (KX2.out.below hB KX2.out.lt)
        have XX3 : Hid (StAt X3 w.heap.size gx s a n cap) := Lib.hid (XX2.out.keep hB)
        have ZX3 : Hid (Blk X3 gN 31 [.int .u32 0, .int .u64 0, .int .u64 0, .int .u64 0, .int .u64 0, .int .u64 0, .slice none 0 0]) := Lib.hid (ZX2.out.below hB ZX2.out.lt)
        have RX3 : Hid (X3.ownsRow w.heap.size 60 36 (.slice aN nN cN) nN (cflat SS.cs)) := Lib.hid (own_mono hR BX2.out.size)
        clear BX2 PX2 KX2 XX2 ZX2 hB hR hlen
        refine ⟨_, rfl, hK.out _ _ (⟨PX3.out, KX3.out, XX3.out⟩) (fun hHeld => ?_)⟩
        clear hK K
        show wpAnyH _ _ _ _ _ _ _ (Act.put _ (some 41) _) _
        simp only [Act.put, List.setIfInBounds_toArray, List.set_cons_zero, List.set_cons_succ]
        refine wpAnyH_take (i := 6) (v := .tuple #[.agg #[.int .u32 SS.ch, .int .u64 SS.rd, .int .u64 SS.m0, .int .u64 SS.m1, .int .u64 SS.t0, .int .u64 SS.t1, .slice aN nN cN], .int .i64 E1]) rfl (by kernel_rfl) (by kernel_rfl) (by kernel_rfl) (fun _ _ _ h => h) (Or.inl ⟨by rfl, fun w _ => by rfl⟩) hHeld ?_
        show wpAnyH _ _ _ _ _ _ _ (Act.put _ (some 35) _) _
        simp only [Act.put, List.setIfInBounds_toArray, List.set_cons_zero, List.set_cons_succ]
        refine wpAnyH_take (i := 7) (v := .agg #[.int .u32 SS.ch, .int .u64 SS.rd, .int .u64 SS.m0, .int .u64 SS.m1, .int .u64 SS.t0, .int .u64 SS.t1, .slice aN nN cN]) rfl (by kernel_rfl) (by kernel_rfl) (by kernel_rfl) (fun _ _ _ h => h) (Or.inl ⟨by rfl, by intro w' h; go_simp⟩) hHeld ?_
        show wpAnyH _ _ _ _ _ _ _ (Act.put _ (some 42) _) _
        simp only [Act.put, List.setIfInBounds_toArray, List.set_cons_zero, List.set_cons_succ]
        refine wpAnyH_take (i := 8) (v := .int .i64 E1) rfl (by kernel_rfl) (by kernel_rfl) (by kernel_rfl) (fun _ _ _ h => h) (Or.inl ⟨by rfl, by intro w' h; go_simp⟩) hHeld ?_
        show wpAnyH _ _ _ _ _ _ _ (Act.put _ (some 43) _) _
        simp only [Act.put, List.setIfInBounds_toArray, List.set_cons_zero, List.set_cons_succ]
        refine wpAnyH_ready (rs := [10]) (by kernel_rfl) (by simp) ?_
        refine AllReadyH.cons rfl (fun K hK => ?_) AllReadyH.nil
        refine step_store rfl 31 (.tmp 9) (.tmp 42) rfl gN [.int .u32 SS.ch, .int .u64 SS.rd, .int .u64 SS.m0, .int .u64 SS.m1, .int .u64 SS.t0, .int .u64 SS.t1, .slice aN nN cN] rfl rfl 31 _ ZX3.out info31 rfl (by simp [Value.oneCell']) ?_
        intro X4 hZ hO
        have hKW : ∀ q, some gN = some q → w.heap.size ≤ q := fun q hq => by injection hq with hq; have := HGN.out; omega
        have hnP : some gp ≠ some gN := fun e => by injection e with e; have := HGN.out; omega
        have hnK : some gq ≠ some gN := fun e => by injection e with e; have := HGN.out; omega
        have hnX : gx ≠ gN := fun e => by have := HGN.out; omega
        have BX4 : Hid (Below w.heap.size w X4) := Lib.hid (BX3.out.grown hO BX3.out.size hKW)
        have PX4 : Hid (Blk X4 gp 24 [.int .u64 p0, .int .u64 p1]) := Lib.hid (PX3.out.grown hO hnP)
        have KX4 : Hid (Blk X4 gq 55 (ocells q.k q.amt (q.c.by_ T) q.id)) := Lib.hid (KX3.out.grown hO hnK)
        have XX4 : Hid (StAt X4 w.heap.size gx s a n cap) := Lib.hid (XX3.out.other hO hnX ZX3.out (by decide))
        have RX4 : Hid (X4.ownsRow w.heap.size 60 36 (.slice aN nN cN) nN (cflat SS.cs)) := Lib.hid (RX3.out.kept hO (.inr (fun e => own_ne RX3.out ZX3.out (by decide) e.symm)))
        have ZX4 : Hid (Blk X4 gN 31 [.int .u32 SS.ch, .int .u64 SS.rd, .int .u64 SS.m0, .int .u64 SS.m1, .int .u64 SS.t0, .int .u64 SS.t1, .slice aN nN cN]) := Lib.hid (hZ)
        clear BX3 PX3 KX3 XX3 RX3 hZ hO hKW ZX3 hnP hnK hnX
        refine hK.out _ _ (⟨PX4.out, KX4.out, XX4.out⟩) (fun hHeld => ?_)
        clear hK K
        show wpAnyH _ _ _ _ _ _ _ (Act.put _ none _) _
        simp only [Act.put]
        refine wpAnyH_take (i := 11) (v := .int .i64 E1) rfl (by kernel_rfl) (by kernel_rfl) (by kernel_rfl) (fun _ _ _ h => h) (Or.inl ⟨by rfl, fun w _ => by rfl⟩) hHeld ?_
        show wpAnyH _ _ _ _ _ _ _ (Act.put _ (some 10) _) _
        simp only [Act.put, List.setIfInBounds_toArray, List.set_cons_zero, List.set_cons_succ]
        refine wpAnyH_done (by kernel_rfl) ?_ _
        go_wp2
        go_meet
        exact ⟨gN, aN, nN, cN, rfl, rfl, BX4, PX4, KX4, XX4, Lib.hid ⟨ZX4.out, RX4.out, HSO.out, HLEN.out⟩, HGN⟩
    case rest =>
      clear BE PE KE XE HNX
      obtain ⟨gy, aN, nN, cN, rfl, rfl, BF, PF, KF, XF, YF, HGY⟩ := hcut
      generalize wc = F at BF PF KF XF YF ⊢
      by_cases h1 : E1 = 0
      case neg =>
        have b1 : (E1 != 0) = true := by simpa using h1
        clear h1
        go_wp2
        refine ⟨⟨k + 1, s, a, n, cap, by omega, by go_num, BF, PF, XF, HS⟩, ?_⟩
        simp [intOf] <;> omega
      have b1 : (E1 != 0) = false := by simpa using h1
      subst h1
      have HKP := Lib.hid (keeps (s := s) (p0 := p0) (p1 := p1) (T := T) (k := q.k) (amt := q.amt) (c := q.c.by_ T) (id := q.id) HT01.out XF.out.ok HOK.out.amt HE1.out)
      have HSK := Lib.hid (nextS_ok (s := s) (p0 := p0) (p1 := p1) (T := T) (k := q.k) (amt := q.amt) (c := q.c.by_ T) (id := q.id) HS.out.1 XF.out.ok HOK.out.amt HE1.out)
      rw [HSS.out] at HKP HSK
      rw [HOO.out] at HKP
      go_wp2_with fail
      refine (HO1.out _).mono ?_
      rintro e w2 ⟨rfl, rfl⟩
      clear HO1 b1
      have XK := XF.out.blk
      have s0 := XK.cell 0
      have s1 := XK.cell 1
      have s2 := XK.cell 2
      have s3 := XK.cell 3
      have s4 := XK.cell 4
      have s5 := XK.cell 5
      have s6 := XK.cell 6
      simp only [List.getElem?_cons_zero, List.getElem?_cons_succ] at s0 s1 s2 s3 s4 s5 s6
      have q0 := PF.out.cell 0
      have q1 := PF.out.cell 1
      simp only [List.getElem?_cons_zero, List.getElem?_cons_succ] at q0 q1
      go_wp2_with fail
      clear s0 s1 s2 s3 s4 s5 s6 q0 q1 XK
      refine (worth_any s a n cap p0 p1 O F HTO.out XF.out.row XF.out.len (by have := XF.out.len; have := HS.out.2; omega) HS.out.1 hp0 hp1).mono ?_
      rintro e G ⟨v1, ok1, rfl, hB, hv1⟩
      have HV1 := Lib.hid hv1
      clear hv1
      have BG : Hid (Below w.heap.size w G) := Lib.hid (BF.out.trans (hB.mono BF.out.size))
      have PG := Lib.hid (PF.out.below hB PF.out.lt)
      have KG := Lib.hid (KF.out.below hB KF.out.lt)
      have XG := Lib.hid (XF.out.keep hB)
      have YG := Lib.hid (YF.out.keep hB)
      clear hB BF PF KF XF YF
      have XK := YG.out.blk
      have s0 := XK.cell 0
      have s1 := XK.cell 1
      have s2 := XK.cell 2
      have s3 := XK.cell 3
      have s4 := XK.cell 4
      have s5 := XK.cell 5
      have s6 := XK.cell 6
      simp only [List.getElem?_cons_zero, List.getElem?_cons_succ] at s0 s1 s2 s3 s4 s5 s6
      have q0 := PG.out.cell 0
      have q1 := PG.out.cell 1
      simp only [List.getElem?_cons_zero, List.getElem?_cons_succ] at q0 q1
      go_wp2_with fail
      clear s0 s1 s2 s3 s4 s5 s6 q0 q1 XK
      refine (worth_any SS aN nN cN p0 p1 O G HTO.out YG.out.row YG.out.len (by have := YG.out.len; have := HSK.out.2.1; omega) HSK.out.1 hp0 hp1).mono ?_
      rintro e H ⟨v2, ok2, rfl, hB, hv2⟩
      have HV2 := Lib.hid hv2
      clear hv2
      have BH : Hid (Below w.heap.size w H) := Lib.hid (BG.out.trans (hB.mono BG.out.size))
      have PH := Lib.hid (PG.out.below hB PG.out.lt)
      have KH := Lib.hid (KG.out.below hB KG.out.lt)
      have XH := Lib.hid (XG.out.keep hB)
      have YH := Lib.hid (YG.out.keep hB)
      clear hB BG PG KG XG YG
      have XK := XH.out.blk
      have s0 := XK.cell 0
      have s1 := XK.cell 1
      have s2 := XK.cell 2
      have s3 := XK.cell 3
      have s4 := XK.cell 4
      have s5 := XK.cell 5
      have s6 := XK.cell 6
      simp only [List.getElem?_cons_zero, List.getElem?_cons_succ] at s0 s1 s2 s3 s4 s5 s6
      have k38 := KH.out.cell 38
      rw [ocells_38 _ _ _ _ (HOK.out.c.by_ T)] at k38
      go_wp2_with fail
      clear s0 s1 s2 s3 s4 s5 s6 XK k38
      refine (find_any s.ch s.rd s.m0 s.m1 s.t0 s.t1 a n cap s.cs q.id H XH.out.row XH.out.len (by have := XH.out.len; have := HS.out.2; omega)).mono ?_
      rintro e J ⟨rfl, hB⟩
      have BJ : Hid (Below w.heap.size w J) := Lib.hid (BH.out.trans (hB.mono BH.out.size))
      have PJ := Lib.hid (PH.out.below hB PH.out.lt)
      have KJ := Lib.hid (KH.out.below hB KH.out.lt)
      have XJ := Lib.hid (XH.out.keep hB)
      have YJ := Lib.hid (YH.out.keep hB)
      clear hB BH PH KH XH YH
      have HFA := Lib.hid (findV_at q.id s.cs)
      obtain ⟨fv, hfv⟩ : ∃ x, findV q.id s.cs = x := ⟨_, rfl⟩
      rw [hfv] at HFA HKP ⊢
      clear hfv
      have XK := XJ.out.blk
      have s0 := XK.cell 0
      have s1 := XK.cell 1
      have s2 := XK.cell 2
      have s3 := XK.cell 3
      have s4 := XK.cell 4
      have s5 := XK.cell 5
      have s6 := XK.cell 6
      simp only [List.getElem?_cons_zero, List.getElem?_cons_succ] at s0 s1 s2 s3 s4 s5 s6
      have YK := YJ.out.blk
      have t0 := YK.cell 0
      have t1 := YK.cell 1
      have t2 := YK.cell 2
      have t3 := YK.cell 3
      have t4 := YK.cell 4
      have t5 := YK.cell 5
      have t6 := YK.cell 6
      simp only [List.getElem?_cons_zero, List.getElem?_cons_succ] at t0 t1 t2 t3 t4 t5 t6
      have f0 := XK.frozen 0
      have f1 := XK.frozen 1
      have f2 := XK.frozen 2
      have f3 := XK.frozen 3
      have f4 := XK.frozen 4
      have f5 := XK.frozen 5
      have f6 := XK.frozen 6
      have k0 := KJ.out.cell 0
      rw [ocells_0] at k0
      by_cases hk3 : q.k = 3
      case neg =>
        have bk : (q.k == 3) = false := by simpa using hk3
        have HKL : Hid (worthF s p0 p1 O ≤ worthF SS p0 p1 O) := Lib.hid (by rcases HKP.out with h | ⟨h, _⟩; exact h; exact absurd h hk3)
        clear hk3
        cases ok1
        case false =>
          go_wp2
          have hO : J.grownBy (((((((J.setCell ⟨gx, 0, none⟩ (.int .u32 SS.ch)).setCell ⟨gx, 1, none⟩ (.int .u64 SS.rd)).setCell ⟨gx, 2, none⟩ (.int .u64 SS.m0)).setCell ⟨gx, 3, none⟩ (.int .u64 SS.m1)).setCell ⟨gx, 4, none⟩ (.int .u64 SS.t0)).setCell ⟨gx, 5, none⟩ (.int .u64 SS.t1)).setCell ⟨gx, 6, none⟩ (.slice aN nN cN)) (some gx) := (only_setCell (p := ⟨gx, 6, none⟩) (only_setCell (p := ⟨gx, 5, none⟩) (only_setCell (p := ⟨gx, 4, none⟩) (only_setCell (p := ⟨gx, 3, none⟩) (only_setCell (p := ⟨gx, 2, none⟩) (only_setCell (p := ⟨gx, 1, none⟩) (only_setCell (p := ⟨gx, 0, none⟩) (only_refl J (some gx)) (.inl rfl) (.int .u32 SS.ch)) (.inl rfl) (.int .u64 SS.rd)) (.inl rfl) (.int .u64 SS.m0)) (.inl rfl) (.int .u64 SS.m1)) (.inl rfl) (.int .u64 SS.t0)) (.inl rfl) (.int .u64 SS.t1)) (.inl rfl) (.slice aN nN cN))
          have hgx := HGX.out
          refine ⟨⟨k + 1, SS, aN, nN, cN, by omega, by go_num, Lib.hid (BJ.out.grown hO BJ.out.size (fun q hq => by injection hq with hq; omega)), Lib.hid (PJ.out.grown hO (fun e => by injection e with e; omega)), Lib.hid ⟨(((((((XJ.out.blk.set_ 0 _).set_ 1 _).set_ 2 _).set_ 3 _).set_ 4 _).set_ 5 _).set_ 6 _), YJ.out.own.kept hO (.inr (fun e => own_ne YJ.out.own XJ.out.blk (by decide) e.symm)), YJ.out.ok, YJ.out.len⟩, Lib.hid ⟨HSK.out.1, HSK.out.2.1⟩⟩, ?_⟩
          simp [intOf] <;> omega
        cases ok2
        case false =>
          go_wp2
          have hO : J.grownBy (((((((J.setCell ⟨gx, 0, none⟩ (.int .u32 SS.ch)).setCell ⟨gx, 1, none⟩ (.int .u64 SS.rd)).setCell ⟨gx, 2, none⟩ (.int .u64 SS.m0)).setCell ⟨gx, 3, none⟩ (.int .u64 SS.m1)).setCell ⟨gx, 4, none⟩ (.int .u64 SS.t0)).setCell ⟨gx, 5, none⟩ (.int .u64 SS.t1)).setCell ⟨gx, 6, none⟩ (.slice aN nN cN)) (some gx) := (only_setCell (p := ⟨gx, 6, none⟩) (only_setCell (p := ⟨gx, 5, none⟩) (only_setCell (p := ⟨gx, 4, none⟩) (only_setCell (p := ⟨gx, 3, none⟩) (only_setCell (p := ⟨gx, 2, none⟩) (only_setCell (p := ⟨gx, 1, none⟩) (only_setCell (p := ⟨gx, 0, none⟩) (only_refl J (some gx)) (.inl rfl) (.int .u32 SS.ch)) (.inl rfl) (.int .u64 SS.rd)) (.inl rfl) (.int .u64 SS.m0)) (.inl rfl) (.int .u64 SS.m1)) (.inl rfl) (.int .u64 SS.t0)) (.inl rfl) (.int .u64 SS.t1)) (.inl rfl) (.slice aN nN cN))
          have hgx := HGX.out
          refine ⟨⟨k + 1, SS, aN, nN, cN, by omega, by go_num, Lib.hid (BJ.out.grown hO BJ.out.size (fun q hq => by injection hq with hq; omega)), Lib.hid (PJ.out.grown hO (fun e => by injection e with e; omega)), Lib.hid ⟨(((((((XJ.out.blk.set_ 0 _).set_ 1 _).set_ 2 _).set_ 3 _).set_ 4 _).set_ 5 _).set_ 6 _), YJ.out.own.kept hO (.inr (fun e => own_ne YJ.out.own XJ.out.blk (by decide) e.symm)), YJ.out.ok, YJ.out.len⟩, Lib.hid ⟨HSK.out.1, HSK.out.2.1⟩⟩, ?_⟩
          simp [intOf] <;> omega
        have hlv : ¬ v2 < v1 := by have h1 := HV1.out rfl; have h2 := HV2.out rfl; have h3 := HKL.out; omega
        go_wp2
        have hO : J.grownBy (((((((J.setCell ⟨gx, 0, none⟩ (.int .u32 SS.ch)).setCell ⟨gx, 1, none⟩ (.int .u64 SS.rd)).setCell ⟨gx, 2, none⟩ (.int .u64 SS.m0)).setCell ⟨gx, 3, none⟩ (.int .u64 SS.m1)).setCell ⟨gx, 4, none⟩ (.int .u64 SS.t0)).setCell ⟨gx, 5, none⟩ (.int .u64 SS.t1)).setCell ⟨gx, 6, none⟩ (.slice aN nN cN)) (some gx) := (only_setCell (p := ⟨gx, 6, none⟩) (only_setCell (p := ⟨gx, 5, none⟩) (only_setCell (p := ⟨gx, 4, none⟩) (only_setCell (p := ⟨gx, 3, none⟩) (only_setCell (p := ⟨gx, 2, none⟩) (only_setCell (p := ⟨gx, 1, none⟩) (only_setCell (p := ⟨gx, 0, none⟩) (only_refl J (some gx)) (.inl rfl) (.int .u32 SS.ch)) (.inl rfl) (.int .u64 SS.rd)) (.inl rfl) (.int .u64 SS.m0)) (.inl rfl) (.int .u64 SS.m1)) (.inl rfl) (.int .u64 SS.t0)) (.inl rfl) (.int .u64 SS.t1)) (.inl rfl) (.slice aN nN cN))
        have hgx := HGX.out
        refine ⟨⟨k + 1, SS, aN, nN, cN, by omega, by go_num, Lib.hid (BJ.out.grown hO BJ.out.size (fun q hq => by injection hq with hq; omega)), Lib.hid (PJ.out.grown hO (fun e => by injection e with e; omega)), Lib.hid ⟨(((((((XJ.out.blk.set_ 0 _).set_ 1 _).set_ 2 _).set_ 3 _).set_ 4 _).set_ 5 _).set_ 6 _), YJ.out.own.kept hO (.inr (fun e => own_ne YJ.out.own XJ.out.blk (by decide) e.symm)), YJ.out.ok, YJ.out.len⟩, Lib.hid ⟨HSK.out.1, HSK.out.2.1⟩⟩, ?_⟩
        simp [intOf] <;> omega
      have bk : (q.k == 3) = true := by simpa using hk3
      clear hk3
      rcases HFA.out with ⟨hf, _⟩ | ⟨j, hj, hf, hid, _⟩
      case inl =>
        subst hf
        have HKL : Hid (worthF s p0 p1 O ≤ worthF SS p0 p1 O) := Lib.hid (by rcases HKP.out with h | ⟨_, j, hj, hf, _⟩; exact h; omega)
        cases ok1
        case false =>
          go_wp2
          have hO : J.grownBy (((((((J.setCell ⟨gx, 0, none⟩ (.int .u32 SS.ch)).setCell ⟨gx, 1, none⟩ (.int .u64 SS.rd)).setCell ⟨gx, 2, none⟩ (.int .u64 SS.m0)).setCell ⟨gx, 3, none⟩ (.int .u64 SS.m1)).setCell ⟨gx, 4, none⟩ (.int .u64 SS.t0)).setCell ⟨gx, 5, none⟩ (.int .u64 SS.t1)).setCell ⟨gx, 6, none⟩ (.slice aN nN cN)) (some gx) := (only_setCell (p := ⟨gx, 6, none⟩) (only_setCell (p := ⟨gx, 5, none⟩) (only_setCell (p := ⟨gx, 4, none⟩) (only_setCell (p := ⟨gx, 3, none⟩) (only_setCell (p := ⟨gx, 2, none⟩) (only_setCell (p := ⟨gx, 1, none⟩) (only_setCell (p := ⟨gx, 0, none⟩) (only_refl J (some gx)) (.inl rfl) (.int .u32 SS.ch)) (.inl rfl) (.int .u64 SS.rd)) (.inl rfl) (.int .u64 SS.m0)) (.inl rfl) (.int .u64 SS.m1)) (.inl rfl) (.int .u64 SS.t0)) (.inl rfl) (.int .u64 SS.t1)) (.inl rfl) (.slice aN nN cN))
          have hgx := HGX.out
          refine ⟨⟨k + 1, SS, aN, nN, cN, by omega, by go_num, Lib.hid (BJ.out.grown hO BJ.out.size (fun q hq => by injection hq with hq; omega)), Lib.hid (PJ.out.grown hO (fun e => by injection e with e; omega)), Lib.hid ⟨(((((((XJ.out.blk.set_ 0 _).set_ 1 _).set_ 2 _).set_ 3 _).set_ 4 _).set_ 5 _).set_ 6 _), YJ.out.own.kept hO (.inr (fun e => own_ne YJ.out.own XJ.out.blk (by decide) e.symm)), YJ.out.ok, YJ.out.len⟩, Lib.hid ⟨HSK.out.1, HSK.out.2.1⟩⟩, ?_⟩
          simp [intOf] <;> omega
        cases ok2
        case false =>
          go_wp2
          have hO : J.grownBy (((((((J.setCell ⟨gx, 0, none⟩ (.int .u32 SS.ch)).setCell ⟨gx, 1, none⟩ (.int .u64 SS.rd)).setCell ⟨gx, 2, none⟩ (.int .u64 SS.m0)).setCell ⟨gx, 3, none⟩ (.int .u64 SS.m1)).setCell ⟨gx, 4, none⟩ (.int .u64 SS.t0)).setCell ⟨gx, 5, none⟩ (.int .u64 SS.t1)).setCell ⟨gx, 6, none⟩ (.slice aN nN cN)) (some gx) := (only_setCell (p := ⟨gx, 6, none⟩) (only_setCell (p := ⟨gx, 5, none⟩) (only_setCell (p := ⟨gx, 4, none⟩) (only_setCell (p := ⟨gx, 3, none⟩) (only_setCell (p := ⟨gx, 2, none⟩) (only_setCell (p := ⟨gx, 1, none⟩) (only_setCell (p := ⟨gx, 0, none⟩) (only_refl J (some gx)) (.inl rfl) (.int .u32 SS.ch)) (.inl rfl) (.int .u64 SS.rd)) (.inl rfl) (.int .u64 SS.m0)) (.inl rfl) (.int .u64 SS.m1)) (.inl rfl) (.int .u64 SS.t0)) (.inl rfl) (.int .u64 SS.t1)) (.inl rfl) (.slice aN nN cN))
          have hgx := HGX.out
          refine ⟨⟨k + 1, SS, aN, nN, cN, by omega, by go_num, Lib.hid (BJ.out.grown hO BJ.out.size (fun q hq => by injection hq with hq; omega)), Lib.hid (PJ.out.grown hO (fun e => by injection e with e; omega)), Lib.hid ⟨(((((((XJ.out.blk.set_ 0 _).set_ 1 _).set_ 2 _).set_ 3 _).set_ 4 _).set_ 5 _).set_ 6 _), YJ.out.own.kept hO (.inr (fun e => own_ne YJ.out.own XJ.out.blk (by decide) e.symm)), YJ.out.ok, YJ.out.len⟩, Lib.hid ⟨HSK.out.1, HSK.out.2.1⟩⟩, ?_⟩
          simp [intOf] <;> omega
        have hlv : ¬ v2 < v1 := by have h1 := HV1.out rfl; have h2 := HV2.out rfl; have h3 := HKL.out; omega
        go_wp2
        have hO : J.grownBy (((((((J.setCell ⟨gx, 0, none⟩ (.int .u32 SS.ch)).setCell ⟨gx, 1, none⟩ (.int .u64 SS.rd)).setCell ⟨gx, 2, none⟩ (.int .u64 SS.m0)).setCell ⟨gx, 3, none⟩ (.int .u64 SS.m1)).setCell ⟨gx, 4, none⟩ (.int .u64 SS.t0)).setCell ⟨gx, 5, none⟩ (.int .u64 SS.t1)).setCell ⟨gx, 6, none⟩ (.slice aN nN cN)) (some gx) := (only_setCell (p := ⟨gx, 6, none⟩) (only_setCell (p := ⟨gx, 5, none⟩) (only_setCell (p := ⟨gx, 4, none⟩) (only_setCell (p := ⟨gx, 3, none⟩) (only_setCell (p := ⟨gx, 2, none⟩) (only_setCell (p := ⟨gx, 1, none⟩) (only_setCell (p := ⟨gx, 0, none⟩) (only_refl J (some gx)) (.inl rfl) (.int .u32 SS.ch)) (.inl rfl) (.int .u64 SS.rd)) (.inl rfl) (.int .u64 SS.m0)) (.inl rfl) (.int .u64 SS.m1)) (.inl rfl) (.int .u64 SS.t0)) (.inl rfl) (.int .u64 SS.t1)) (.inl rfl) (.slice aN nN cN))
        have hgx := HGX.out
        refine ⟨⟨k + 1, SS, aN, nN, cN, by omega, by go_num, Lib.hid (BJ.out.grown hO BJ.out.size (fun q hq => by injection hq with hq; omega)), Lib.hid (PJ.out.grown hO (fun e => by injection e with e; omega)), Lib.hid ⟨(((((((XJ.out.blk.set_ 0 _).set_ 1 _).set_ 2 _).set_ 3 _).set_ 4 _).set_ 5 _).set_ 6 _), YJ.out.own.kept hO (.inr (fun e => own_ne YJ.out.own XJ.out.blk (by decide) e.symm)), YJ.out.ok, YJ.out.len⟩, Lib.hid ⟨HSK.out.1, HSK.out.2.1⟩⟩, ?_⟩
        simp [intOf] <;> omega
      subst hf
      obtain ⟨bj, oj, cj, rfl, hbj, hcj, hrj, hokj⟩ := XJ.out.row.get hj
      have hjn : j < n := by rw [← XJ.out.len]; exact hj
      have c1 := hrj 1 _ cj.c1
      have HCJ := Lib.hid hcj
      clear hcj hrj hokj hbj
      by_cases ho : cj.side = O
      case pos =>
        have bo : (cj.side == O) = true := by simpa using ho
        clear ho
        cases ok1
        case false =>
          go_wp2
          have hO : J.grownBy (((((((J.setCell ⟨gx, 0, none⟩ (.int .u32 SS.ch)).setCell ⟨gx, 1, none⟩ (.int .u64 SS.rd)).setCell ⟨gx, 2, none⟩ (.int .u64 SS.m0)).setCell ⟨gx, 3, none⟩ (.int .u64 SS.m1)).setCell ⟨gx, 4, none⟩ (.int .u64 SS.t0)).setCell ⟨gx, 5, none⟩ (.int .u64 SS.t1)).setCell ⟨gx, 6, none⟩ (.slice aN nN cN)) (some gx) := (only_setCell (p := ⟨gx, 6, none⟩) (only_setCell (p := ⟨gx, 5, none⟩) (only_setCell (p := ⟨gx, 4, none⟩) (only_setCell (p := ⟨gx, 3, none⟩) (only_setCell (p := ⟨gx, 2, none⟩) (only_setCell (p := ⟨gx, 1, none⟩) (only_setCell (p := ⟨gx, 0, none⟩) (only_refl J (some gx)) (.inl rfl) (.int .u32 SS.ch)) (.inl rfl) (.int .u64 SS.rd)) (.inl rfl) (.int .u64 SS.m0)) (.inl rfl) (.int .u64 SS.m1)) (.inl rfl) (.int .u64 SS.t0)) (.inl rfl) (.int .u64 SS.t1)) (.inl rfl) (.slice aN nN cN))
          have hgx := HGX.out
          refine ⟨⟨k + 1, SS, aN, nN, cN, by omega, by go_num, Lib.hid (BJ.out.grown hO BJ.out.size (fun q hq => by injection hq with hq; omega)), Lib.hid (PJ.out.grown hO (fun e => by injection e with e; omega)), Lib.hid ⟨(((((((XJ.out.blk.set_ 0 _).set_ 1 _).set_ 2 _).set_ 3 _).set_ 4 _).set_ 5 _).set_ 6 _), YJ.out.own.kept hO (.inr (fun e => own_ne YJ.out.own XJ.out.blk (by decide) e.symm)), YJ.out.ok, YJ.out.len⟩, Lib.hid ⟨HSK.out.1, HSK.out.2.1⟩⟩, ?_⟩
          simp [intOf] <;> omega
        cases ok2
        case false =>
          go_wp2
          have hO : J.grownBy (((((((J.setCell ⟨gx, 0, none⟩ (.int .u32 SS.ch)).setCell ⟨gx, 1, none⟩ (.int .u64 SS.rd)).setCell ⟨gx, 2, none⟩ (.int .u64 SS.m0)).setCell ⟨gx, 3, none⟩ (.int .u64 SS.m1)).setCell ⟨gx, 4, none⟩ (.int .u64 SS.t0)).setCell ⟨gx, 5, none⟩ (.int .u64 SS.t1)).setCell ⟨gx, 6, none⟩ (.slice aN nN cN)) (some gx) := (only_setCell (p := ⟨gx, 6, none⟩) (only_setCell (p := ⟨gx, 5, none⟩) (only_setCell (p := ⟨gx, 4, none⟩) (only_setCell (p := ⟨gx, 3, none⟩) (only_setCell (p := ⟨gx, 2, none⟩) (only_setCell (p := ⟨gx, 1, none⟩) (only_setCell (p := ⟨gx, 0, none⟩) (only_refl J (some gx)) (.inl rfl) (.int .u32 SS.ch)) (.inl rfl) (.int .u64 SS.rd)) (.inl rfl) (.int .u64 SS.m0)) (.inl rfl) (.int .u64 SS.m1)) (.inl rfl) (.int .u64 SS.t0)) (.inl rfl) (.int .u64 SS.t1)) (.inl rfl) (.slice aN nN cN))
          have hgx := HGX.out
          refine ⟨⟨k + 1, SS, aN, nN, cN, by omega, by go_num, Lib.hid (BJ.out.grown hO BJ.out.size (fun q hq => by injection hq with hq; omega)), Lib.hid (PJ.out.grown hO (fun e => by injection e with e; omega)), Lib.hid ⟨(((((((XJ.out.blk.set_ 0 _).set_ 1 _).set_ 2 _).set_ 3 _).set_ 4 _).set_ 5 _).set_ 6 _), YJ.out.own.kept hO (.inr (fun e => own_ne YJ.out.own XJ.out.blk (by decide) e.symm)), YJ.out.ok, YJ.out.len⟩, Lib.hid ⟨HSK.out.1, HSK.out.2.1⟩⟩, ?_⟩
          simp [intOf] <;> omega
        by_cases hlv : v2 < v1
        case pos =>
          go_wp2
          have hO : J.grownBy (((((((J.setCell ⟨gx, 0, none⟩ (.int .u32 SS.ch)).setCell ⟨gx, 1, none⟩ (.int .u64 SS.rd)).setCell ⟨gx, 2, none⟩ (.int .u64 SS.m0)).setCell ⟨gx, 3, none⟩ (.int .u64 SS.m1)).setCell ⟨gx, 4, none⟩ (.int .u64 SS.t0)).setCell ⟨gx, 5, none⟩ (.int .u64 SS.t1)).setCell ⟨gx, 6, none⟩ (.slice aN nN cN)) (some gx) := (only_setCell (p := ⟨gx, 6, none⟩) (only_setCell (p := ⟨gx, 5, none⟩) (only_setCell (p := ⟨gx, 4, none⟩) (only_setCell (p := ⟨gx, 3, none⟩) (only_setCell (p := ⟨gx, 2, none⟩) (only_setCell (p := ⟨gx, 1, none⟩) (only_setCell (p := ⟨gx, 0, none⟩) (only_refl J (some gx)) (.inl rfl) (.int .u32 SS.ch)) (.inl rfl) (.int .u64 SS.rd)) (.inl rfl) (.int .u64 SS.m0)) (.inl rfl) (.int .u64 SS.m1)) (.inl rfl) (.int .u64 SS.t0)) (.inl rfl) (.int .u64 SS.t1)) (.inl rfl) (.slice aN nN cN))
          have hgx := HGX.out
          refine ⟨⟨k + 1, SS, aN, nN, cN, by omega, by go_num, Lib.hid (BJ.out.grown hO BJ.out.size (fun q hq => by injection hq with hq; omega)), Lib.hid (PJ.out.grown hO (fun e => by injection e with e; omega)), Lib.hid ⟨(((((((XJ.out.blk.set_ 0 _).set_ 1 _).set_ 2 _).set_ 3 _).set_ 4 _).set_ 5 _).set_ 6 _), YJ.out.own.kept hO (.inr (fun e => own_ne YJ.out.own XJ.out.blk (by decide) e.symm)), YJ.out.ok, YJ.out.len⟩, Lib.hid ⟨HSK.out.1, HSK.out.2.1⟩⟩, ?_⟩
          simp [intOf] <;> omega
        case neg =>
          go_wp2
          have hO : J.grownBy (((((((J.setCell ⟨gx, 0, none⟩ (.int .u32 SS.ch)).setCell ⟨gx, 1, none⟩ (.int .u64 SS.rd)).setCell ⟨gx, 2, none⟩ (.int .u64 SS.m0)).setCell ⟨gx, 3, none⟩ (.int .u64 SS.m1)).setCell ⟨gx, 4, none⟩ (.int .u64 SS.t0)).setCell ⟨gx, 5, none⟩ (.int .u64 SS.t1)).setCell ⟨gx, 6, none⟩ (.slice aN nN cN)) (some gx) := (only_setCell (p := ⟨gx, 6, none⟩) (only_setCell (p := ⟨gx, 5, none⟩) (only_setCell (p := ⟨gx, 4, none⟩) (only_setCell (p := ⟨gx, 3, none⟩) (only_setCell (p := ⟨gx, 2, none⟩) (only_setCell (p := ⟨gx, 1, none⟩) (only_setCell (p := ⟨gx, 0, none⟩) (only_refl J (some gx)) (.inl rfl) (.int .u32 SS.ch)) (.inl rfl) (.int .u64 SS.rd)) (.inl rfl) (.int .u64 SS.m0)) (.inl rfl) (.int .u64 SS.m1)) (.inl rfl) (.int .u64 SS.t0)) (.inl rfl) (.int .u64 SS.t1)) (.inl rfl) (.slice aN nN cN))
          have hgx := HGX.out
          refine ⟨⟨k + 1, SS, aN, nN, cN, by omega, by go_num, Lib.hid (BJ.out.grown hO BJ.out.size (fun q hq => by injection hq with hq; omega)), Lib.hid (PJ.out.grown hO (fun e => by injection e with e; omega)), Lib.hid ⟨(((((((XJ.out.blk.set_ 0 _).set_ 1 _).set_ 2 _).set_ 3 _).set_ 4 _).set_ 5 _).set_ 6 _), YJ.out.own.kept hO (.inr (fun e => own_ne YJ.out.own XJ.out.blk (by decide) e.symm)), YJ.out.ok, YJ.out.len⟩, Lib.hid ⟨HSK.out.1, HSK.out.2.1⟩⟩, ?_⟩
          simp [intOf] <;> omega
      have bo : (cj.side == O) = false := by simpa using ho
      have HKL : Hid (worthF s p0 p1 O ≤ worthF SS p0 p1 O) := Lib.hid (by
        rcases HKP.out with h | ⟨_, i, hi, hf, hsd⟩
        · exact h
        · have e : i = j := by omega
          subst e; rw [HCJ.out] at hsd; exact absurd hsd ho)
      clear ho
      cases ok1
      case false =>
        go_wp2
        have hO : J.grownBy (((((((J.setCell ⟨gx, 0, none⟩ (.int .u32 SS.ch)).setCell ⟨gx, 1, none⟩ (.int .u64 SS.rd)).setCell ⟨gx, 2, none⟩ (.int .u64 SS.m0)).setCell ⟨gx, 3, none⟩ (.int .u64 SS.m1)).setCell ⟨gx, 4, none⟩ (.int .u64 SS.t0)).setCell ⟨gx, 5, none⟩ (.int .u64 SS.t1)).setCell ⟨gx, 6, none⟩ (.slice aN nN cN)) (some gx) := (only_setCell (p := ⟨gx, 6, none⟩) (only_setCell (p := ⟨gx, 5, none⟩) (only_setCell (p := ⟨gx, 4, none⟩) (only_setCell (p := ⟨gx, 3, none⟩) (only_setCell (p := ⟨gx, 2, none⟩) (only_setCell (p := ⟨gx, 1, none⟩) (only_setCell (p := ⟨gx, 0, none⟩) (only_refl J (some gx)) (.inl rfl) (.int .u32 SS.ch)) (.inl rfl) (.int .u64 SS.rd)) (.inl rfl) (.int .u64 SS.m0)) (.inl rfl) (.int .u64 SS.m1)) (.inl rfl) (.int .u64 SS.t0)) (.inl rfl) (.int .u64 SS.t1)) (.inl rfl) (.slice aN nN cN))
        have hgx := HGX.out
        refine ⟨⟨k + 1, SS, aN, nN, cN, by omega, by go_num, Lib.hid (BJ.out.grown hO BJ.out.size (fun q hq => by injection hq with hq; omega)), Lib.hid (PJ.out.grown hO (fun e => by injection e with e; omega)), Lib.hid ⟨(((((((XJ.out.blk.set_ 0 _).set_ 1 _).set_ 2 _).set_ 3 _).set_ 4 _).set_ 5 _).set_ 6 _), YJ.out.own.kept hO (.inr (fun e => own_ne YJ.out.own XJ.out.blk (by decide) e.symm)), YJ.out.ok, YJ.out.len⟩, Lib.hid ⟨HSK.out.1, HSK.out.2.1⟩⟩, ?_⟩
        simp [intOf] <;> omega
      cases ok2
      case false =>
        go_wp2
        have hO : J.grownBy (((((((J.setCell ⟨gx, 0, none⟩ (.int .u32 SS.ch)).setCell ⟨gx, 1, none⟩ (.int .u64 SS.rd)).setCell ⟨gx, 2, none⟩ (.int .u64 SS.m0)).setCell ⟨gx, 3, none⟩ (.int .u64 SS.m1)).setCell ⟨gx, 4, none⟩ (.int .u64 SS.t0)).setCell ⟨gx, 5, none⟩ (.int .u64 SS.t1)).setCell ⟨gx, 6, none⟩ (.slice aN nN cN)) (some gx) := (only_setCell (p := ⟨gx, 6, none⟩) (only_setCell (p := ⟨gx, 5, none⟩) (only_setCell (p := ⟨gx, 4, none⟩) (only_setCell (p := ⟨gx, 3, none⟩) (only_setCell (p := ⟨gx, 2, none⟩) (only_setCell (p := ⟨gx, 1, none⟩) (only_setCell (p := ⟨gx, 0, none⟩) (only_refl J (some gx)) (.inl rfl) (.int .u32 SS.ch)) (.inl rfl) (.int .u64 SS.rd)) (.inl rfl) (.int .u64 SS.m0)) (.inl rfl) (.int .u64 SS.m1)) (.inl rfl) (.int .u64 SS.t0)) (.inl rfl) (.int .u64 SS.t1)) (.inl rfl) (.slice aN nN cN))
        have hgx := HGX.out
        refine ⟨⟨k + 1, SS, aN, nN, cN, by omega, by go_num, Lib.hid (BJ.out.grown hO BJ.out.size (fun q hq => by injection hq with hq; omega)), Lib.hid (PJ.out.grown hO (fun e => by injection e with e; omega)), Lib.hid ⟨(((((((XJ.out.blk.set_ 0 _).set_ 1 _).set_ 2 _).set_ 3 _).set_ 4 _).set_ 5 _).set_ 6 _), YJ.out.own.kept hO (.inr (fun e => own_ne YJ.out.own XJ.out.blk (by decide) e.symm)), YJ.out.ok, YJ.out.len⟩, Lib.hid ⟨HSK.out.1, HSK.out.2.1⟩⟩, ?_⟩
        simp [intOf] <;> omega
      have hlv : ¬ v2 < v1 := by have h1 := HV1.out rfl; have h2 := HV2.out rfl; have h3 := HKL.out; omega
      go_wp2
      have hO : J.grownBy (((((((J.setCell ⟨gx, 0, none⟩ (.int .u32 SS.ch)).setCell ⟨gx, 1, none⟩ (.int .u64 SS.rd)).setCell ⟨gx, 2, none⟩ (.int .u64 SS.m0)).setCell ⟨gx, 3, none⟩ (.int .u64 SS.m1)).setCell ⟨gx, 4, none⟩ (.int .u64 SS.t0)).setCell ⟨gx, 5, none⟩ (.int .u64 SS.t1)).setCell ⟨gx, 6, none⟩ (.slice aN nN cN)) (some gx) := (only_setCell (p := ⟨gx, 6, none⟩) (only_setCell (p := ⟨gx, 5, none⟩) (only_setCell (p := ⟨gx, 4, none⟩) (only_setCell (p := ⟨gx, 3, none⟩) (only_setCell (p := ⟨gx, 2, none⟩) (only_setCell (p := ⟨gx, 1, none⟩) (only_setCell (p := ⟨gx, 0, none⟩) (only_refl J (some gx)) (.inl rfl) (.int .u32 SS.ch)) (.inl rfl) (.int .u64 SS.rd)) (.inl rfl) (.int .u64 SS.m0)) (.inl rfl) (.int .u64 SS.m1)) (.inl rfl) (.int .u64 SS.t0)) (.inl rfl) (.int .u64 SS.t1)) (.inl rfl) (.slice aN nN cN))
      have hgx := HGX.out
      refine ⟨⟨k + 1, SS, aN, nN, cN, by omega, by go_num, Lib.hid (BJ.out.grown hO BJ.out.size (fun q hq => by injection hq with hq; omega)), Lib.hid (PJ.out.grown hO (fun e => by injection e with e; omega)), Lib.hid ⟨(((((((XJ.out.blk.set_ 0 _).set_ 1 _).set_ 2 _).set_ 3 _).set_ 4 _).set_ 5 _).set_ 6 _), YJ.out.own.kept hO (.inr (fun e => own_ne YJ.out.own XJ.out.blk (by decide) e.symm)), YJ.out.ok, YJ.out.len⟩, Lib.hid ⟨HSK.out.1, HSK.out.2.1⟩⟩, ?_⟩
      simp [intOf] <;> omega
set_option maxRecDepth 100000 in
theorem lifted (os : Os) (started : os.Started) (H : Type) (enc : TypeId × Value → H) :
    ReturnsInHanded {} Try.checked os 6 .any (Rows.pactKeepsSpec.pre6 enc Try.prog Try.f6 Rows.pactKeepsRow.domain false) (Rows.pactKeepsSpec.post enc Try.prog Try.f6 false true false false) := by
  refine returnsInHanded_of_change (C := Try.checked) own started (by kernel_rfl) Try.func6
    (ChangeSpec.witness6 (enc := enc) (C := Try.checked) false ⟨#[], #[.agg #[.int .u64 0, .int .u64 0], .slice none 0 0], []⟩ 8 (by kernel_rfl) (by kernel_rfl) (by kernel_rfl) (by kernel_rfl)) ?_
  intro W base args ds gs before hval0 hW hcnd _
  have hval : ∀ (j : Nat) t v, Try.f6.params[j]? = some t → args[j]? = some v → Value.okWide Try.prog W .any base t v := hval0
  have hW' := hW
  obtain ⟨p, q, hA0, hV, rfl, hfz, hnd⟩ := hW
  have hA : DataW.TrodAll enc Try.prog W 0 (fun _ => true) true Try.f6.params.toList args.toList ds p := hA0
  rw [Try.params6] at hA hval
  obtain ⟨v0, vs0, dd0, ds0, p0, q0, hargs, rfl, rfl, h0, r0⟩ := trodAll_cons hA
  obtain ⟨v1, vs1, dd1, ds1, p1, q1, rfl, rfl, rfl, h1, r1⟩ := trodAll_cons r0
  obtain ⟨rfl, rfl, rfl⟩ := trodAll_nil r1
  obtain rfl : args = #[v0, v1] := by cases args; simp_all
  obtain ⟨rfl, rfl⟩ := trodVars_none hV
  have kk0 := h0
  have lt0 : ∀ x ∈ p0, x.block < W.heap.size := by obtain ⟨m, hm⟩ := kk0; exact DataW.trod_lt m _ _ _ hm
  obtain ⟨x0, y0, rfl, hx0, hy0⟩ := openPut (hval 0 24 v0 rfl rfl) h0
  have kk1 := h1
  have lt1 : ∀ x ∈ p1, x.block < W.heap.size := by obtain ⟨m, hm⟩ := kk1; exact DataW.trod_lt m _ _ _ hm
  obtain ⟨A1, n1, cap1, os1, rfl, hl1, hR1, hm1⟩ := openOps (hval 1 68 v1 rfl rfl) h1
  clear hA0 hval0
  refine Calls.mono (R := (fun e W1 => e = .returned (.bool true) ∧ Below W.heap.size W W1)) ?_ fun e W1 ⟨he, bel⟩ => ?_
  · skip
    exact walk x0 y0 A1 n1 cap1 os1 W hR1 hl1 hm1 hx0 hy0
  subst he
  exact ⟨_, rfl, _, _, _, [], _, [], hW', trodAll_mk1 (shut_bool Try.underlying4 _), (trodAll_cons_mk (Below.trod laidOut (by kernel_rfl) (of_decide_eq_true (by kernel_rfl)) kk0 bel lt0) (trodAll_cons_mk (Below.trod laidOut (by kernel_rfl) (of_decide_eq_true (by kernel_rfl)) kk1 bel lt1) trodAll_mk0)), rfl, bel.frame _, fun h => by cases h⟩

theorem proved : Rows.PactKeepsSaid :=
  OpenClaim.holds_of_wide 6 Try.f6 rfl rfl rfl rfl rfl rfl rfl ⟨rfl, rfl, rfl, rfl, rfl⟩ rfl rfl rfl rfl rfl (by kernel_rfl) Try.func6 (by kernel_rfl)
    (of_decide_eq_true (by kernel_rfl)) (by unfold Func.isWrapper; first | (rw [if_pos (by decide +kernel)]; kernel_rfl) | (rw [if_neg (by decide +kernel)]; exact ⟨rfl, rfl⟩))
    (fun os started H enc _ => lifted os started H enc)
#print axioms proved
end Go.Proofs.Ytkiifjkcpangfaa.pactKeeps
