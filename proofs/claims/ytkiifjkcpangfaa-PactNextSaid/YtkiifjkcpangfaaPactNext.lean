/-
  tollhouselaw12.PactNext returns true for every input: the state behind any wish of any side, or why there is none, is the document's; the state itself isn't turned; what is handed in isn't written.
-/
import Derived.Test.YtkiifjkcpangfaaPacV3
namespace Go.Proofs.Ytkiifjkcpangfaa.pactNext
open Go.ChangeShapes Go.WideShapes Go.ChangeAt Go.RowKit Go.Deep
set_option linter.unusedVariables false


set_option maxRecDepth 100000 in
set_option maxHeartbeats 4000000 in
theorem walk (s : St) (a : Option Addr) (n cap : Nat) (p0 p1 sd k amt id : Int) (c : Cnd) (w : World) (hC : CRow w a s.cs) (hl : s.cs.length = n) (hO : s.Ok) (hm : n ≤ maxLen) (hp0 : Word p0) (hp1 : Word p1) (hok : c.Ok) (hamt : Word amt) (hid : Word id) :
    Calls Try.prog 4 #[.agg #[.int .u32 s.ch, .int .u64 s.rd, .int .u64 s.m0, .int .u64 s.m1, .int .u64 s.t0, .int .u64 s.t1, .slice a n cap], .agg #[.int .u64 p0, .int .u64 p1], .int .i64 sd, .agg (ocells k amt c id).toArray] w fun e w' => e = .returned (.bool true) ∧ Below w.heap.size w w' := by
  have HOK := Lib.hid hok
  have HC := Lib.hid hC
  have HL := Lib.hid hl
  have HO := Lib.hid hO
  have BA : Hid (Below w.heap.size w (((w.alloc (.cells #[.int .u32 s.ch, .int .u64 s.rd, .int .u64 s.m0, .int .u64 s.m1, .int .u64 s.t0, .int .u64 s.t1, .slice a n cap] 27)).alloc (.cells #[.int .u64 p0, .int .u64 p1] 24)).alloc (.cells (ocells k amt c id).toArray 55))) := Lib.hid ((((Below.refl _ _).alloc (Nat.le_refl _) _).alloc (by simp) _).alloc (by simp; omega) _)
  have SA : Hid (Blk (((w.alloc (.cells #[.int .u32 s.ch, .int .u64 s.rd, .int .u64 s.m0, .int .u64 s.m1, .int .u64 s.t0, .int .u64 s.t1, .slice a n cap] 27)).alloc (.cells #[.int .u64 p0, .int .u64 p1] 24)).alloc (.cells (ocells k amt c id).toArray 55)) w.heap.size 27 [.int .u32 s.ch, .int .u64 s.rd, .int .u64 s.m0, .int .u64 s.m1, .int .u64 s.t0, .int .u64 s.t1, .slice a n cap]) := Lib.hid (((Blk.mk_ rfl).alloc _).alloc _)
  have PA : Hid (Blk (((w.alloc (.cells #[.int .u32 s.ch, .int .u64 s.rd, .int .u64 s.m0, .int .u64 s.m1, .int .u64 s.t0, .int .u64 s.t1, .slice a n cap] 27)).alloc (.cells #[.int .u64 p0, .int .u64 p1] 24)).alloc (.cells (ocells k amt c id).toArray 55)) (w.heap.size + 1) 24 [.int .u64 p0, .int .u64 p1]) := Lib.hid ((Blk.mk_ (by simp)).alloc _)
  have KA : Hid (Blk (((w.alloc (.cells #[.int .u32 s.ch, .int .u64 s.rd, .int .u64 s.m0, .int .u64 s.m1, .int .u64 s.t0, .int .u64 s.t1, .slice a n cap] 27)).alloc (.cells #[.int .u64 p0, .int .u64 p1] 24)).alloc (.cells (ocells k amt c id).toArray 55)) (w.heap.size + 1 + 1) 55 (ocells k amt c id)) := Lib.hid (Blk.mk_ (by simp))
  clear hok hC hl hO
  go_enter Try.func4, Try.ntmps4
  go_upto_region 1 with fail
  generalize (((w.alloc (.cells #[.int .u32 s.ch, .int .u64 s.rd, .int .u64 s.m0, .int .u64 s.m1, .int .u64 s.t0, .int .u64 s.t1, .slice a n cap] 27)).alloc (.cells #[.int .u64 p0, .int .u64 p1] 24)).alloc (.cells (ocells k amt c id).toArray 55)) = A at BA SA PA KA ⊢
  obtain ⟨gk, hgk⟩ : ∃ q, w.heap.size + 1 + 1 = q := ⟨_, rfl⟩
  obtain ⟨gp, hgp⟩ : ∃ q, w.heap.size + 1 = q := ⟨_, rfl⟩
  obtain ⟨gs, hgs⟩ : ∃ q, w.heap.size = q := ⟨_, rfl⟩
  rw [hgk] at KA ⊢
  rw [hgp] at PA ⊢
  rw [hgs] at SA ⊢
  clear hgk hgp hgs
  have s0 := SA.out.cell 0
  have s1 := SA.out.cell 1
  have s2 := SA.out.cell 2
  have s3 := SA.out.cell 3
  have s4 := SA.out.cell 4
  have s5 := SA.out.cell 5
  have s6 := SA.out.cell 6
  simp only [List.getElem?_cons_zero, List.getElem?_cons_succ] at s0 s1 s2 s3 s4 s5 s6
  by_cases hn : n ≤ 40
  case neg =>
    have b2 : (n : Int) > 40 := by omega
    go_wp2_with fail
    refine (awake_any A).mono ?_
    rintro e Z ⟨rfl, hB⟩
    go_wp2
    go_ret
    exact ⟨rfl, BA.out.trans (hB.mono BA.out.size)⟩
  have hn2 : ¬ (n : Int) > 40 := by omega
  go_upto_region 3 with fail
  go_wp2_with fail
  clear s0 s1 s2 s3 s4 s5 s6 hn2
  refine (to_any s.ch s.rd s.m0 s.m1 s.t0 s.t1 a n cap s.cs A (HC.out.below BA.out) HL.out (by omega)).mono ?_
  rintro e B ⟨a1, c1, rfl, hown, hB⟩
  have OB := Lib.hid (own_mono hown BA.out.size)
  clear hown
  have BB : Hid (Below w.heap.size w B) := Lib.hid (BA.out.trans (hB.mono BA.out.size))
  have SB := Lib.hid (SA.out.below hB SA.out.lt)
  have PB := Lib.hid (PA.out.below hB PA.out.lt)
  have KB := Lib.hid (KA.out.below hB KA.out.lt)
  clear hB BA SA PA KA
  have HLA := heap_alloc_last B (.cells #[.int .u32 0, .int .u64 0, .int .u64 0, .int .u64 0, .int .u64 0, .int .u64 0, .slice none 0 0] 31)
  have hz1 : (Try.prog.info? 31).map (·.size) = some (#[.int .u32 s.ch, .int .u64 s.rd, .int .u64 s.m0, .int .u64 s.m1, .int .u64 s.t0, .int .u64 s.t1, .slice a1 n c1] : Array Value).size := info31
  go_upto_region 4 with (first | (refine wpList_store_row rfl 31 (.tmp 9) (.tmp 23) rfl B.heap.size #[.int .u32 s.ch, .int .u64 s.rd, .int .u64 s.m0, .int .u64 s.m1, .int .u64 s.t0, .int .u64 s.t1, .slice a1 n c1] rfl rfl 31 _ HLA hz1 rfl rfl ?_; rw [World.setRow_alloc_new]))
  clear HLA hz1
  have hB : Below B.heap.size B (B.alloc (.cells #[.int .u32 s.ch, .int .u64 s.rd, .int .u64 s.m0, .int .u64 s.m1, .int .u64 s.t0, .int .u64 s.t1, .slice a1 n c1] 31)) := (Below.refl _ _).alloc (Nat.le_refl _) _
  have XC : Hid (StAt (B.alloc (.cells #[.int .u32 s.ch, .int .u64 s.rd, .int .u64 s.m0, .int .u64 s.m1, .int .u64 s.t0, .int .u64 s.t1, .slice a1 n c1] 31)) w.heap.size B.heap.size s a1 n c1) := Lib.hid ⟨Blk.new _ _ [.int .u32 s.ch, .int .u64 s.rd, .int .u64 s.m0, .int .u64 s.m1, .int .u64 s.t0, .int .u64 s.t1, .slice a1 n c1], own_keep OB.out hB, HC.out.ok, HL.out⟩
  clear OB
  have BC : Hid (Below w.heap.size w (B.alloc (.cells #[.int .u32 s.ch, .int .u64 s.rd, .int .u64 s.m0, .int .u64 s.m1, .int .u64 s.t0, .int .u64 s.t1, .slice a1 n c1] 31))) := Lib.hid (BB.out.trans (hB.mono BB.out.size))
  have SC := Lib.hid (SB.out.below hB SB.out.lt)
  have PC := Lib.hid (PB.out.below hB PB.out.lt)
  have KC := Lib.hid (KB.out.below hB KB.out.lt)
  clear hB BB SB PB KB
  generalize (B.alloc (.cells #[.int .u32 s.ch, .int .u64 s.rd, .int .u64 s.m0, .int .u64 s.m1, .int .u64 s.t0, .int .u64 s.t1, .slice a1 n c1] 31)) = C at BC SC PC KC XC ⊢
  generalize B.heap.size = gx at XC ⊢
  obtain ⟨E, hE⟩ : ∃ q, nextE s p0 p1 sd k amt c id = q := ⟨_, rfl⟩
  obtain ⟨SS, hS⟩ : ∃ q, nextS s p0 p1 sd k amt c id = q := ⟨_, rfl⟩
  have HNX : Hid (∀ X, CRow X a1 s.cs → Calls Try.prog 24 #[.agg #[.int .u32 s.ch, .int .u64 s.rd, .int .u64 s.m0, .int .u64 s.m1, .int .u64 s.t0, .int .u64 s.t1, .slice a1 n c1], .agg #[.int .u64 p0, .int .u64 p1], .int .i64 sd, .agg (ocells k amt c id).toArray] X (NextPost SS E X)) := Lib.hid (fun X hC => by
    have := next_any n c1 s a1 p0 p1 sd k amt id c X hC XC.out.nil_ XC.out.len (by omega) HOK.out hamt hp0 hp1 HO.out
    rwa [hE, hS] at this)
  have HRX : Hid (∀ X, CRow X a s.cs → Calls Try.prog 26 #[.agg #[.int .u32 s.ch, .int .u64 s.rd, .int .u64 s.m0, .int .u64 s.m1, .int .u64 s.t0, .int .u64 s.t1, .slice a n cap], .agg #[.int .u64 p0, .int .u64 p1], .int .i64 sd, .agg (ocells k amt c id).toArray] X (RNextPost SS E X)) := Lib.hid (fun X hC => by
    have := rnext_any n cap s a p0 p1 sd k amt id c X hC HL.out (by omega) HOK.out hamt hp0 hp1 HO.out
    rwa [hE, hS] at this)
  have HSO : Hid (∀ x ∈ SS.cs, x.Ok) := Lib.hid (by
    rw [← hS]; unfold nextS
    split
    · exact doS_cok s.nxt HC.out.ok _ _ _ _ HOK.out _
    · intro x hx; cases hx)
  have HSL : Hid (SS.cs.length ≤ 41) := Lib.hid (by
    rw [← hS]; unfold nextS
    split
    · have h1 := doS_len s.nxt sd k amt c id
      have h2 : s.nxt.cs.length = n := HL.out
      omega
    · exact Nat.zero_le _)
  clear hE hS
  have HZK : Hid ((Try.prog.info? 55).map (·.size) = some (ocells k amt c id).length) := Lib.hid (by rw [ocells_length k amt c id HOK.out]; exact info55)
  go_cut [10, 11] (fun s7 s8 wc => ∃ gN aN nN cN BN, s7 = .pointer (some ⟨gN, 0, none⟩) ∧ s8 = .int .i64 E ∧ Hid (Below w.heap.size w wc) ∧ Hid (Blk wc gs 27 [.int .u32 s.ch, .int .u64 s.rd, .int .u64 s.m0, .int .u64 s.m1, .int .u64 s.t0, .int .u64 s.t1, .slice a n cap]) ∧ Hid (Blk wc gp 24 [.int .u64 p0, .int .u64 p1]) ∧ Hid (Blk wc gk 55 (ocells k amt c id)) ∧ Hid (StAt wc w.heap.size gx s a1 n c1) ∧ Hid (Blk wc gN 31 [.int .u32 SS.ch, .int .u64 SS.rd, .int .u64 SS.m0, .int .u64 SS.m1, .int .u64 SS.t0, .int .u64 SS.t1, .slice aN nN cN]) ∧ Hid (wc.ownsRow BN 60 36 (.slice aN nN cN) nN (cflat SS.cs)) ∧ Hid (SS.cs.length = nN) ∧ Hid (w.heap.size ≤ BN ∧ ∀ q, (Value.slice a1 n c1).ownBlock = some q → q < BN))
  case first =>
    have hBz : Below C.heap.size C C.drew := below_drewN (Below.refl _ _) 1
    have BX0 : Hid (Below w.heap.size w C.drew) := Lib.hid (BC.out.trans (hBz.mono BC.out.size))
    have SX0 : Hid (Blk C.drew gs 27 [.int .u32 s.ch, .int .u64 s.rd, .int .u64 s.m0, .int .u64 s.m1, .int .u64 s.t0, .int .u64 s.t1, .slice a n cap]) := Lib.hid (SC.out.below hBz SC.out.lt)
    have PX0 : Hid (Blk C.drew gp 24 [.int .u64 p0, .int .u64 p1]) := Lib.hid (PC.out.below hBz PC.out.lt)
    have KX0 : Hid (Blk C.drew gk 55 (ocells k amt c id)) := Lib.hid (KC.out.below hBz KC.out.lt)
    have XX0 : Hid (StAt C.drew w.heap.size gx s a1 n c1) := Lib.hid (XC.out.keep hBz)
    clear hBz
    refine wp_region_held_drew (S := fun w' => Blk w' gs 27 [.int .u32 s.ch, .int .u64 s.rd, .int .u64 s.m0, .int .u64 s.m1, .int .u64 s.t0, .int .u64 s.t1, .slice a n cap] ∧ Blk w' gp 24 [.int .u64 p0, .int .u64 p1] ∧ Blk w' gk 55 (ocells k amt c id) ∧ StAt w' w.heap.size gx s a1 n c1) (by kernel_rfl) (⟨SX0.out, PX0.out, KX0.out, XX0.out⟩) (fun hHeld => ?_)
    generalize C.drew = X0 at hHeld BX0 SX0 PX0 KX0 XX0 ⊢
    refine wpAnyH_take (i := 0) (v := .agg #[.int .u32 s.ch, .int .u64 s.rd, .int .u64 s.m0, .int .u64 s.m1, .int .u64 s.t0, .int .u64 s.t1, .slice a1 n c1]) rfl (by kernel_rfl) (by kernel_rfl) (by kernel_rfl) (fun _ _ _ h => h) (Or.inl ⟨by rfl, by intro w' h; have q0 := Blk.cell h.2.2.2.blk 0; have q1 := Blk.cell h.2.2.2.blk 1; have q2 := Blk.cell h.2.2.2.blk 2; have q3 := Blk.cell h.2.2.2.blk 3; have q4 := Blk.cell h.2.2.2.blk 4; have q5 := Blk.cell h.2.2.2.blk 5; have q6 := Blk.cell h.2.2.2.blk 6; simp only [List.getElem?_cons_zero, List.getElem?_cons_succ] at q0 q1 q2 q3 q4 q5 q6; go_simp⟩) hHeld ?_
    show wpAnyH _ _ _ _ _ _ _ (Act.put _ (some 25) _) _
    simp only [Act.put, List.setIfInBounds_toArray, List.set_cons_zero, List.set_cons_succ]
    refine wpAnyH_take (i := 1) (v := .agg #[.int .u64 p0, .int .u64 p1]) rfl (by kernel_rfl) (by kernel_rfl) (by kernel_rfl) (fun _ _ _ h => h) (Or.inl ⟨by rfl, by intro w' h; have q0 := Blk.cell h.2.1 0; have q1 := Blk.cell h.2.1 1; simp only [List.getElem?_cons_zero, List.getElem?_cons_succ] at q0 q1; go_simp⟩) hHeld ?_
    show wpAnyH _ _ _ _ _ _ _ (Act.put _ (some 26) _) _
    simp only [Act.put, List.setIfInBounds_toArray, List.set_cons_zero, List.set_cons_succ]
    refine wpAnyH_take (i := 2) (v := .int .i64 sd) rfl (by kernel_rfl) (by kernel_rfl) (by kernel_rfl) (fun _ _ _ h => h) (Or.inl ⟨by rfl, fun w _ => by rfl⟩) hHeld ?_
    show wpAnyH _ _ _ _ _ _ _ (Act.put _ (some 27) _) _
    simp only [Act.put, List.setIfInBounds_toArray, List.set_cons_zero, List.set_cons_succ]
    refine wpAnyH_take (i := 3) (v := .agg (ocells k amt c id).toArray) rfl (by kernel_rfl) (by kernel_rfl) (by kernel_rfl) (fun _ _ _ h => h) (yieldsIf_load_mid (by rfl) 55 (.tmp 7) rfl gk 0 rfl (ocells k amt c id) _ (fun w h => Blk.all h.2.2.1) Try.underlying55 rfl HZK.out) hHeld ?_
    show wpAnyH _ _ _ _ _ _ _ (Act.put _ (some 28) _) _
    simp only [Act.put, List.setIfInBounds_toArray, List.set_cons_zero, List.set_cons_succ]
    refine wpAnyH_ready (rs := [4, 9]) (by kernel_rfl) (by simp) ?_
    refine AllReadyH.cons rfl (fun K hK => ?_) (AllReadyH.cons rfl (fun K hK => ?_) AllReadyH.nil)
    · refine step_call rfl 25 #[.tmp 28] #[55] rfl #[.agg (ocells k amt c id).toArray] (by simp [Act.eval]) (by go_simp) (op_any k amt id c X0 HOK.out) ?_
      rintro e X1 ⟨rfl, hB⟩
      have BX1 : Hid (Below w.heap.size w X1) := Lib.hid (BX0.out.trans (hB.mono BX0.out.size))
      have SX1 : Hid (Blk X1 gs 27 [.int .u32 s.ch, .int .u64 s.rd, .int .u64 s.m0, .int .u64 s.m1, .int .u64 s.t0, .int .u64 s.t1, .slice a n cap]) := Lib.hid (SX0.out.below hB SX0.out.lt)
      have PX1 : Hid (Blk X1 gp 24 [.int .u64 p0, .int .u64 p1]) := Lib.hid (PX0.out.below hB PX0.out.lt)
      have KX1 : Hid (Blk X1 gk 55 (ocells k amt c id)) := Lib.hid (KX0.out.below hB KX0.out.lt)
      have XX1 : Hid (StAt X1 w.heap.size gx s a1 n c1) := Lib.hid (XX0.out.keep hB)
      clear BX0 SX0 PX0 KX0 XX0 hB
      refine ⟨_, rfl, hK.out _ _ (⟨SX1.out, PX1.out, KX1.out, XX1.out⟩) (fun hHeld => ?_)⟩
      clear hK K
      show wpAnyH _ _ _ _ _ _ _ (Act.put _ (some 29) _) _
      simp only [Act.put, List.setIfInBounds_toArray, List.set_cons_zero, List.set_cons_succ]
      refine wpAnyH_ready (rs := [5, 9]) (by kernel_rfl) (by simp) ?_
      refine AllReadyH.cons rfl (fun K hK => ?_) (AllReadyH.cons rfl (fun K hK => ?_) AllReadyH.nil)
      · refine step_call rfl 24 #[.tmp 25, .tmp 26, .tmp 27, .tmp 29] #[31, 24, 36, 62] rfl #[.agg #[.int .u32 s.ch, .int .u64 s.rd, .int .u64 s.m0, .int .u64 s.m1, .int .u64 s.t0, .int .u64 s.t1, .slice a1 n c1], .agg #[.int .u64 p0, .int .u64 p1], .int .i64 sd, .agg (ocells k amt c id).toArray] (by simp [Act.eval]) (by go_simp) (HNX.out X1 XX1.out.row) ?_
        rintro e X2 ⟨aN, nN, cN, rfl, hR, hlen, hB⟩
        have HLEN := Lib.hid hlen
        obtain ⟨BN, hBN⟩ : ∃ q, X1.heap.size = q := ⟨_, rfl⟩
        rw [hBN] at hR
        have HBN : Hid (w.heap.size ≤ BN ∧ ∀ q, (Value.slice a1 n c1).ownBlock = some q → q < BN) := Lib.hid ⟨hBN ▸ BX1.out.size, fun q hq => hBN ▸ (XX1.out.own.lt q hq).2⟩
        have BX2 : Hid (Below w.heap.size w X2) := Lib.hid (BX1.out.trans (hB.mono BX1.out.size))
        have SX2 : Hid (Blk X2 gs 27 [.int .u32 s.ch, .int .u64 s.rd, .int .u64 s.m0, .int .u64 s.m1, .int .u64 s.t0, .int .u64 s.t1, .slice a n cap]) := Lib.hid (SX1.out.below hB SX1.out.lt)
        have PX2 : Hid (Blk X2 gp 24 [.int .u64 p0, .int .u64 p1]) := Lib.hid (PX1.out.below hB PX1.out.lt)
        have KX2 : Hid (Blk X2 gk 55 (ocells k amt c id)) := Lib.hid (KX1.out.below hB KX1.out.lt)
        have XX2 : Hid (StAt X2 w.heap.size gx s a1 n c1) := Lib.hid (XX1.out.keep hB)
        have RX2 : Hid (X2.ownsRow BN 60 36 (.slice aN nN cN) nN (cflat SS.cs)) := Lib.hid (hR)
        clear BX1 SX1 PX1 KX1 XX1 hB hR hlen hBN
        refine ⟨_, rfl, hK.out _ _ (⟨SX2.out, PX2.out, KX2.out, XX2.out⟩) (fun hHeld => ?_)⟩
        clear hK K
        show wpAnyH _ _ _ _ _ _ _ (Act.put _ (some 30) _) _
        simp only [Act.put, List.setIfInBounds_toArray, List.set_cons_zero, List.set_cons_succ]
        refine wpAnyH_take (i := 6) (v := .tuple #[.agg #[.int .u32 SS.ch, .int .u64 SS.rd, .int .u64 SS.m0, .int .u64 SS.m1, .int .u64 SS.t0, .int .u64 SS.t1, .slice aN nN cN], .int .i64 E]) rfl (by kernel_rfl) (by kernel_rfl) (by kernel_rfl) (fun _ _ _ h => h) (Or.inl ⟨by rfl, fun w _ => by rfl⟩) hHeld ?_
        show wpAnyH _ _ _ _ _ _ _ (Act.put _ (some 24) _) _
        simp only [Act.put, List.setIfInBounds_toArray, List.set_cons_zero, List.set_cons_succ]
        refine wpAnyH_take (i := 7) (v := .agg #[.int .u32 SS.ch, .int .u64 SS.rd, .int .u64 SS.m0, .int .u64 SS.m1, .int .u64 SS.t0, .int .u64 SS.t1, .slice aN nN cN]) rfl (by kernel_rfl) (by kernel_rfl) (by kernel_rfl) (fun _ _ _ h => h) (Or.inl ⟨by rfl, by intro w' h; go_simp⟩) hHeld ?_
        show wpAnyH _ _ _ _ _ _ _ (Act.put _ (some 31) _) _
        simp only [Act.put, List.setIfInBounds_toArray, List.set_cons_zero, List.set_cons_succ]
        refine wpAnyH_take (i := 8) (v := .int .i64 E) rfl (by kernel_rfl) (by kernel_rfl) (by kernel_rfl) (fun _ _ _ h => h) (Or.inl ⟨by rfl, by intro w' h; go_simp⟩) hHeld ?_
        show wpAnyH _ _ _ _ _ _ _ (Act.put _ (some 32) _) _
        simp only [Act.put, List.setIfInBounds_toArray, List.set_cons_zero, List.set_cons_succ]
        refine wpAnyH_ready (rs := [9]) (by kernel_rfl) (by simp) ?_
        refine AllReadyH.cons rfl (fun K hK => ?_) AllReadyH.nil
        refine step_new rfl 31 rfl #[.int .u32 0, .int .u64 0, .int .u64 0, .int .u64 0, .int .u64 0, .int .u64 0, .slice none 0 0] (.pointer (some ⟨X2.heap.size, 0, none⟩)) (by kernel_rfl) ?_
        have hB : Below X2.heap.size X2 (X2.alloc (.cells #[.int .u32 0, .int .u64 0, .int .u64 0, .int .u64 0, .int .u64 0, .int .u64 0, .slice none 0 0] 31)) := (Below.refl _ _).alloc (Nat.le_refl _) _
        have hZ := Blk.new X2 31 [.int .u32 0, .int .u64 0, .int .u64 0, .int .u64 0, .int .u64 0, .int .u64 0, .slice none 0 0]
        generalize X2.alloc (.cells #[.int .u32 0, .int .u64 0, .int .u64 0, .int .u64 0, .int .u64 0, .int .u64 0, .slice none 0 0] 31) = X3 at hB hZ ⊢
        obtain ⟨gN, hgN⟩ : ∃ q, X2.heap.size = q := ⟨_, rfl⟩
        have HGN : Hid (w.heap.size ≤ gN ∧ gs < gN ∧ gp < gN ∧ gk < gN ∧ gx < gN) := Lib.hid ⟨by have := BX2.out.size; omega, by have := SX2.out.lt; omega, by have := PX2.out.lt; omega, by have := KX2.out.lt; omega, by have := XX2.out.blk.lt; omega⟩
        rw [hgN] at hZ ⊢
        clear hgN
        have BX3 : Hid (Below w.heap.size w X3) := Lib.hid (BX2.out.trans (hB.mono BX2.out.size))
        have SX3 : Hid (Blk X3 gs 27 [.int .u32 s.ch, .int .u64 s.rd, .int .u64 s.m0, .int .u64 s.m1, .int .u64 s.t0, .int .u64 s.t1, .slice a n cap]) := Lib.hid (SX2.out.below hB SX2.out.lt)
        have PX3 : Hid (Blk X3 gp 24 [.int .u64 p0, .int .u64 p1]) := Lib.hid (PX2.out.below hB PX2.out.lt)
        have KX3 : Hid (Blk X3 gk 55 (ocells k amt c id)) := Lib.hid (KX2.out.below hB KX2.out.lt)
        have XX3 : Hid (StAt X3 w.heap.size gx s a1 n c1) := Lib.hid (XX2.out.keep hB)
        have RX3 : Hid (X3.ownsRow BN 60 36 (.slice aN nN cN) nN (cflat SS.cs)) := Lib.hid (own_keep RX2.out hB)
        have ZX3 : Hid (Blk X3 gN 31 [.int .u32 0, .int .u64 0, .int .u64 0, .int .u64 0, .int .u64 0, .int .u64 0, .slice none 0 0]) := Lib.hid (hZ)
        clear BX2 SX2 PX2 KX2 XX2 RX2 hB hZ
        refine hK.out _ _ (⟨SX3.out, PX3.out, KX3.out, XX3.out⟩) (fun hHeld => ?_)
        clear hK K
        show wpAnyH _ _ _ _ _ _ _ (Act.put _ (some 10) _) _
        simp only [Act.put, List.setIfInBounds_toArray, List.set_cons_zero, List.set_cons_succ]
        refine wpAnyH_ready (rs := [10]) (by kernel_rfl) (by simp) ?_
        refine AllReadyH.cons rfl (fun K hK => ?_) AllReadyH.nil
        refine step_store rfl 31 (.tmp 10) (.tmp 31) rfl gN [.int .u32 SS.ch, .int .u64 SS.rd, .int .u64 SS.m0, .int .u64 SS.m1, .int .u64 SS.t0, .int .u64 SS.t1, .slice aN nN cN] rfl rfl 31 _ ZX3.out info31 rfl (by simp [Value.oneCell']) ?_
        intro X4 hZ hO
        have hKW : ∀ q, some gN = some q → w.heap.size ≤ q := fun q hq => by injection hq with hq; have := HGN.out; omega
        have hnS : some gs ≠ some gN := fun e => by injection e with e; have := HGN.out; omega
        have hnP : some gp ≠ some gN := fun e => by injection e with e; have := HGN.out; omega
        have hnK : some gk ≠ some gN := fun e => by injection e with e; have := HGN.out; omega
        have hnX : gx ≠ gN := fun e => by have := HGN.out; omega
        have BX4 : Hid (Below w.heap.size w X4) := Lib.hid (BX3.out.grown hO BX3.out.size hKW)
        have SX4 : Hid (Blk X4 gs 27 [.int .u32 s.ch, .int .u64 s.rd, .int .u64 s.m0, .int .u64 s.m1, .int .u64 s.t0, .int .u64 s.t1, .slice a n cap]) := Lib.hid (SX3.out.grown hO hnS)
        have PX4 : Hid (Blk X4 gp 24 [.int .u64 p0, .int .u64 p1]) := Lib.hid (PX3.out.grown hO hnP)
        have KX4 : Hid (Blk X4 gk 55 (ocells k amt c id)) := Lib.hid (KX3.out.grown hO hnK)
        have XX4 : Hid (StAt X4 w.heap.size gx s a1 n c1) := Lib.hid (XX3.out.other hO hnX ZX3.out (by decide))
        have RX4 : Hid (X4.ownsRow BN 60 36 (.slice aN nN cN) nN (cflat SS.cs)) := Lib.hid (RX3.out.kept hO (.inr (fun e => own_ne RX3.out ZX3.out (by decide) e.symm)))
        have ZX4 : Hid (Blk X4 gN 31 [.int .u32 SS.ch, .int .u64 SS.rd, .int .u64 SS.m0, .int .u64 SS.m1, .int .u64 SS.t0, .int .u64 SS.t1, .slice aN nN cN]) := Lib.hid (hZ)
        clear BX3 SX3 PX3 KX3 XX3 RX3 hZ hO hKW ZX3 hnS hnP hnK hnX
        refine hK.out _ _ (⟨SX4.out, PX4.out, KX4.out, XX4.out⟩) (fun hHeld => ?_)
        clear hK K
        show wpAnyH _ _ _ _ _ _ _ (Act.put _ none _) _
        simp only [Act.put]
        refine wpAnyH_take (i := 11) (v := .int .i64 E) rfl (by kernel_rfl) (by kernel_rfl) (by kernel_rfl) (fun _ _ _ h => h) (Or.inl ⟨by rfl, fun w _ => by rfl⟩) hHeld ?_
        show wpAnyH _ _ _ _ _ _ _ (Act.put _ (some 11) _) _
        simp only [Act.put, List.setIfInBounds_toArray, List.set_cons_zero, List.set_cons_succ]
        refine wpAnyH_done (by kernel_rfl) ?_ _
        go_wp2
        go_meet
        exact ⟨gN, aN, nN, cN, BN, rfl, rfl, BX4, SX4, PX4, KX4, XX4, ZX4, RX4, HLEN, HBN⟩
      · refine step_new rfl 31 rfl #[.int .u32 0, .int .u64 0, .int .u64 0, .int .u64 0, .int .u64 0, .int .u64 0, .slice none 0 0] (.pointer (some ⟨X1.heap.size, 0, none⟩)) (by kernel_rfl) ?_
        have hB : Below X1.heap.size X1 (X1.alloc (.cells #[.int .u32 0, .int .u64 0, .int .u64 0, .int .u64 0, .int .u64 0, .int .u64 0, .slice none 0 0] 31)) := (Below.refl _ _).alloc (Nat.le_refl _) _
        have hZ := Blk.new X1 31 [.int .u32 0, .int .u64 0, .int .u64 0, .int .u64 0, .int .u64 0, .int .u64 0, .slice none 0 0]
        generalize X1.alloc (.cells #[.int .u32 0, .int .u64 0, .int .u64 0, .int .u64 0, .int .u64 0, .int .u64 0, .slice none 0 0] 31) = X2 at hB hZ ⊢
        obtain ⟨gN, hgN⟩ : ∃ q, X1.heap.size = q := ⟨_, rfl⟩
        have HGN : Hid (w.heap.size ≤ gN ∧ gs < gN ∧ gp < gN ∧ gk < gN ∧ gx < gN) := Lib.hid ⟨by have := BX1.out.size; omega, by have := SX1.out.lt; omega, by have := PX1.out.lt; omega, by have := KX1.out.lt; omega, by have := XX1.out.blk.lt; omega⟩
        rw [hgN] at hZ ⊢
        clear hgN
        have BX2 : Hid (Below w.heap.size w X2) := Lib.hid (BX1.out.trans (hB.mono BX1.out.size))
        have SX2 : Hid (Blk X2 gs 27 [.int .u32 s.ch, .int .u64 s.rd, .int .u64 s.m0, .int .u64 s.m1, .int .u64 s.t0, .int .u64 s.t1, .slice a n cap]) := Lib.hid (SX1.out.below hB SX1.out.lt)
        have PX2 : Hid (Blk X2 gp 24 [.int .u64 p0, .int .u64 p1]) := Lib.hid (PX1.out.below hB PX1.out.lt)
        have KX2 : Hid (Blk X2 gk 55 (ocells k amt c id)) := Lib.hid (KX1.out.below hB KX1.out.lt)
        have XX2 : Hid (StAt X2 w.heap.size gx s a1 n c1) := Lib.hid (XX1.out.keep hB)
        have ZX2 : Hid (Blk X2 gN 31 [.int .u32 0, .int .u64 0, .int .u64 0, .int .u64 0, .int .u64 0, .int .u64 0, .slice none 0 0]) := Lib.hid (hZ)
        clear BX1 SX1 PX1 KX1 XX1 hB hZ
        refine hK.out _ _ (⟨SX2.out, PX2.out, KX2.out, XX2.out⟩) (fun hHeld => ?_)
        clear hK K
        show wpAnyH _ _ _ _ _ _ _ (Act.put _ (some 10) _) _
        simp only [Act.put, List.setIfInBounds_toArray, List.set_cons_zero, List.set_cons_succ]
        refine wpAnyH_ready (rs := [5]) (by kernel_rfl) (by simp) ?_
        refine AllReadyH.cons rfl (fun K hK => ?_) AllReadyH.nil
        refine step_call rfl 24 #[.tmp 25, .tmp 26, .tmp 27, .tmp 29] #[31, 24, 36, 62] rfl #[.agg #[.int .u32 s.ch, .int .u64 s.rd, .int .u64 s.m0, .int .u64 s.m1, .int .u64 s.t0, .int .u64 s.t1, .slice a1 n c1], .agg #[.int .u64 p0, .int .u64 p1], .int .i64 sd, .agg (ocells k amt c id).toArray] (by simp [Act.eval]) (by go_simp) (HNX.out X2 XX2.out.row) ?_
        rintro e X3 ⟨aN, nN, cN, rfl, hR, hlen, hB⟩
        have HLEN := Lib.hid hlen
        obtain ⟨BN, hBN⟩ : ∃ q, X2.heap.size = q := ⟨_, rfl⟩
        rw [hBN] at hR
        have HBN : Hid (w.heap.size ≤ BN ∧ ∀ q, (Value.slice a1 n c1).ownBlock = some q → q < BN) := Lib.hid ⟨hBN ▸ BX2.out.size, fun q hq => hBN ▸ (XX2.out.own.lt q hq).2⟩
        have BX3 : Hid (Below w.heap.size w X3) := Lib.hid (BX2.out.trans (hB.mono BX2.out.size))
        have SX3 : Hid (Blk X3 gs 27 [.int .u32 s.ch, .int .u64 s.rd, .int .u64 s.m0, .int .u64 s.m1, .int .u64 s.t0, .int .u64 s.t1, .slice a n cap]) := Lib.hid (SX2.out.below hB SX2.out.lt)
        have PX3 : Hid (Blk X3 gp 24 [.int .u64 p0, .int .u64 p1]) := Lib.hid (PX2.out.below hB PX2.out.lt)
        have KX3 : Hid (Blk X3 gk 55 (ocells k amt c id)) := Lib.hid (KX2.out.below hB KX2.out.lt)
        have XX3 : Hid (StAt X3 w.heap.size gx s a1 n c1) := Lib.hid (XX2.out.keep hB)
        have ZX3 : Hid (Blk X3 gN 31 [.int .u32 0, .int .u64 0, .int .u64 0, .int .u64 0, .int .u64 0, .int .u64 0, .slice none 0 0]) := Lib.hid (ZX2.out.below hB ZX2.out.lt)
        have RX3 : Hid (X3.ownsRow BN 60 36 (.slice aN nN cN) nN (cflat SS.cs)) := Lib.hid (hR)
        clear BX2 SX2 PX2 KX2 XX2 ZX2 hB hR hlen hBN
        refine ⟨_, rfl, hK.out _ _ (⟨SX3.out, PX3.out, KX3.out, XX3.out⟩) (fun hHeld => ?_)⟩
        clear hK K
        show wpAnyH _ _ _ _ _ _ _ (Act.put _ (some 30) _) _
        simp only [Act.put, List.setIfInBounds_toArray, List.set_cons_zero, List.set_cons_succ]
        refine wpAnyH_take (i := 6) (v := .tuple #[.agg #[.int .u32 SS.ch, .int .u64 SS.rd, .int .u64 SS.m0, .int .u64 SS.m1, .int .u64 SS.t0, .int .u64 SS.t1, .slice aN nN cN], .int .i64 E]) rfl (by kernel_rfl) (by kernel_rfl) (by kernel_rfl) (fun _ _ _ h => h) (Or.inl ⟨by rfl, fun w _ => by rfl⟩) hHeld ?_
        show wpAnyH _ _ _ _ _ _ _ (Act.put _ (some 24) _) _
        simp only [Act.put, List.setIfInBounds_toArray, List.set_cons_zero, List.set_cons_succ]
        refine wpAnyH_take (i := 7) (v := .agg #[.int .u32 SS.ch, .int .u64 SS.rd, .int .u64 SS.m0, .int .u64 SS.m1, .int .u64 SS.t0, .int .u64 SS.t1, .slice aN nN cN]) rfl (by kernel_rfl) (by kernel_rfl) (by kernel_rfl) (fun _ _ _ h => h) (Or.inl ⟨by rfl, by intro w' h; go_simp⟩) hHeld ?_
        show wpAnyH _ _ _ _ _ _ _ (Act.put _ (some 31) _) _
        simp only [Act.put, List.setIfInBounds_toArray, List.set_cons_zero, List.set_cons_succ]
        refine wpAnyH_take (i := 8) (v := .int .i64 E) rfl (by kernel_rfl) (by kernel_rfl) (by kernel_rfl) (fun _ _ _ h => h) (Or.inl ⟨by rfl, by intro w' h; go_simp⟩) hHeld ?_
        show wpAnyH _ _ _ _ _ _ _ (Act.put _ (some 32) _) _
        simp only [Act.put, List.setIfInBounds_toArray, List.set_cons_zero, List.set_cons_succ]
        refine wpAnyH_ready (rs := [10]) (by kernel_rfl) (by simp) ?_
        refine AllReadyH.cons rfl (fun K hK => ?_) AllReadyH.nil
        refine step_store rfl 31 (.tmp 10) (.tmp 31) rfl gN [.int .u32 SS.ch, .int .u64 SS.rd, .int .u64 SS.m0, .int .u64 SS.m1, .int .u64 SS.t0, .int .u64 SS.t1, .slice aN nN cN] rfl rfl 31 _ ZX3.out info31 rfl (by simp [Value.oneCell']) ?_
        intro X4 hZ hO
        have hKW : ∀ q, some gN = some q → w.heap.size ≤ q := fun q hq => by injection hq with hq; have := HGN.out; omega
        have hnS : some gs ≠ some gN := fun e => by injection e with e; have := HGN.out; omega
        have hnP : some gp ≠ some gN := fun e => by injection e with e; have := HGN.out; omega
        have hnK : some gk ≠ some gN := fun e => by injection e with e; have := HGN.out; omega
        have hnX : gx ≠ gN := fun e => by have := HGN.out; omega
        have BX4 : Hid (Below w.heap.size w X4) := Lib.hid (BX3.out.grown hO BX3.out.size hKW)
        have SX4 : Hid (Blk X4 gs 27 [.int .u32 s.ch, .int .u64 s.rd, .int .u64 s.m0, .int .u64 s.m1, .int .u64 s.t0, .int .u64 s.t1, .slice a n cap]) := Lib.hid (SX3.out.grown hO hnS)
        have PX4 : Hid (Blk X4 gp 24 [.int .u64 p0, .int .u64 p1]) := Lib.hid (PX3.out.grown hO hnP)
        have KX4 : Hid (Blk X4 gk 55 (ocells k amt c id)) := Lib.hid (KX3.out.grown hO hnK)
        have XX4 : Hid (StAt X4 w.heap.size gx s a1 n c1) := Lib.hid (XX3.out.other hO hnX ZX3.out (by decide))
        have RX4 : Hid (X4.ownsRow BN 60 36 (.slice aN nN cN) nN (cflat SS.cs)) := Lib.hid (RX3.out.kept hO (.inr (fun e => own_ne RX3.out ZX3.out (by decide) e.symm)))
        have ZX4 : Hid (Blk X4 gN 31 [.int .u32 SS.ch, .int .u64 SS.rd, .int .u64 SS.m0, .int .u64 SS.m1, .int .u64 SS.t0, .int .u64 SS.t1, .slice aN nN cN]) := Lib.hid (hZ)
        clear BX3 SX3 PX3 KX3 XX3 RX3 hZ hO hKW ZX3 hnS hnP hnK hnX
        refine hK.out _ _ (⟨SX4.out, PX4.out, KX4.out, XX4.out⟩) (fun hHeld => ?_)
        clear hK K
        show wpAnyH _ _ _ _ _ _ _ (Act.put _ none _) _
        simp only [Act.put]
        refine wpAnyH_take (i := 11) (v := .int .i64 E) rfl (by kernel_rfl) (by kernel_rfl) (by kernel_rfl) (fun _ _ _ h => h) (Or.inl ⟨by rfl, fun w _ => by rfl⟩) hHeld ?_
        show wpAnyH _ _ _ _ _ _ _ (Act.put _ (some 11) _) _
        simp only [Act.put, List.setIfInBounds_toArray, List.set_cons_zero, List.set_cons_succ]
        refine wpAnyH_done (by kernel_rfl) ?_ _
        go_wp2
        go_meet
        exact ⟨gN, aN, nN, cN, BN, rfl, rfl, BX4, SX4, PX4, KX4, XX4, ZX4, RX4, HLEN, HBN⟩
    · refine step_new rfl 31 rfl #[.int .u32 0, .int .u64 0, .int .u64 0, .int .u64 0, .int .u64 0, .int .u64 0, .slice none 0 0] (.pointer (some ⟨X0.heap.size, 0, none⟩)) (by kernel_rfl) ?_
      have hB : Below X0.heap.size X0 (X0.alloc (.cells #[.int .u32 0, .int .u64 0, .int .u64 0, .int .u64 0, .int .u64 0, .int .u64 0, .slice none 0 0] 31)) := (Below.refl _ _).alloc (Nat.le_refl _) _
      have hZ := Blk.new X0 31 [.int .u32 0, .int .u64 0, .int .u64 0, .int .u64 0, .int .u64 0, .int .u64 0, .slice none 0 0]
      generalize X0.alloc (.cells #[.int .u32 0, .int .u64 0, .int .u64 0, .int .u64 0, .int .u64 0, .int .u64 0, .slice none 0 0] 31) = X1 at hB hZ ⊢
      obtain ⟨gN, hgN⟩ : ∃ q, X0.heap.size = q := ⟨_, rfl⟩
      have HGN : Hid (w.heap.size ≤ gN ∧ gs < gN ∧ gp < gN ∧ gk < gN ∧ gx < gN) := Lib.hid ⟨by have := BX0.out.size; omega, by have := SX0.out.lt; omega, by have := PX0.out.lt; omega, by have := KX0.out.lt; omega, by have := XX0.out.blk.lt; omega⟩
      rw [hgN] at hZ ⊢
      clear hgN
      have BX1 : Hid (Below w.heap.size w X1) := Lib.hid (BX0.out.trans (hB.mono BX0.out.size))
      have SX1 : Hid (Blk X1 gs 27 [.int .u32 s.ch, .int .u64 s.rd, .int .u64 s.m0, .int .u64 s.m1, .int .u64 s.t0, .int .u64 s.t1, .slice a n cap]) := Lib.hid (SX0.out.below hB SX0.out.lt)
      have PX1 : Hid (Blk X1 gp 24 [.int .u64 p0, .int .u64 p1]) := Lib.hid (PX0.out.below hB PX0.out.lt)
      have KX1 : Hid (Blk X1 gk 55 (ocells k amt c id)) := Lib.hid (KX0.out.below hB KX0.out.lt)
      have XX1 : Hid (StAt X1 w.heap.size gx s a1 n c1) := Lib.hid (XX0.out.keep hB)
      have ZX1 : Hid (Blk X1 gN 31 [.int .u32 0, .int .u64 0, .int .u64 0, .int .u64 0, .int .u64 0, .int .u64 0, .slice none 0 0]) := Lib.hid (hZ)
      clear BX0 SX0 PX0 KX0 XX0 hB hZ
      refine hK.out _ _ (⟨SX1.out, PX1.out, KX1.out, XX1.out⟩) (fun hHeld => ?_)
      clear hK K
      show wpAnyH _ _ _ _ _ _ _ (Act.put _ (some 10) _) _
      simp only [Act.put, List.setIfInBounds_toArray, List.set_cons_zero, List.set_cons_succ]
      refine wpAnyH_ready (rs := [4]) (by kernel_rfl) (by simp) ?_
      refine AllReadyH.cons rfl (fun K hK => ?_) AllReadyH.nil
      refine step_call rfl 25 #[.tmp 28] #[55] rfl #[.agg (ocells k amt c id).toArray] (by simp [Act.eval]) (by go_simp) (op_any k amt id c X1 HOK.out) ?_
      rintro e X2 ⟨rfl, hB⟩
      have BX2 : Hid (Below w.heap.size w X2) := Lib.hid (BX1.out.trans (hB.mono BX1.out.size))
      have SX2 : Hid (Blk X2 gs 27 [.int .u32 s.ch, .int .u64 s.rd, .int .u64 s.m0, .int .u64 s.m1, .int .u64 s.t0, .int .u64 s.t1, .slice a n cap]) := Lib.hid (SX1.out.below hB SX1.out.lt)
      have PX2 : Hid (Blk X2 gp 24 [.int .u64 p0, .int .u64 p1]) := Lib.hid (PX1.out.below hB PX1.out.lt)
      have KX2 : Hid (Blk X2 gk 55 (ocells k amt c id)) := Lib.hid (KX1.out.below hB KX1.out.lt)
      have XX2 : Hid (StAt X2 w.heap.size gx s a1 n c1) := Lib.hid (XX1.out.keep hB)
      have ZX2 : Hid (Blk X2 gN 31 [.int .u32 0, .int .u64 0, .int .u64 0, .int .u64 0, .int .u64 0, .int .u64 0, .slice none 0 0]) := Lib.hid (ZX1.out.below hB ZX1.out.lt)
      clear BX1 SX1 PX1 KX1 XX1 ZX1 hB
      refine ⟨_, rfl, hK.out _ _ (⟨SX2.out, PX2.out, KX2.out, XX2.out⟩) (fun hHeld => ?_)⟩
      clear hK K
      show wpAnyH _ _ _ _ _ _ _ (Act.put _ (some 29) _) _
      simp only [Act.put, List.setIfInBounds_toArray, List.set_cons_zero, List.set_cons_succ]
      refine wpAnyH_ready (rs := [5]) (by kernel_rfl) (by simp) ?_
      refine AllReadyH.cons rfl (fun K hK => ?_) AllReadyH.nil
      refine step_call rfl 24 #[.tmp 25, .tmp 26, .tmp 27, .tmp 29] #[31, 24, 36, 62] rfl #[.agg #[.int .u32 s.ch, .int .u64 s.rd, .int .u64 s.m0, .int .u64 s.m1, .int .u64 s.t0, .int .u64 s.t1, .slice a1 n c1], .agg #[.int .u64 p0, .int .u64 p1], .int .i64 sd, .agg (ocells k amt c id).toArray] (by simp [Act.eval]) (by go_simp) (HNX.out X2 XX2.out.row) ?_
      rintro e X3 ⟨aN, nN, cN, rfl, hR, hlen, hB⟩
      have HLEN := Lib.hid hlen
      obtain ⟨BN, hBN⟩ : ∃ q, X2.heap.size = q := ⟨_, rfl⟩
      rw [hBN] at hR
      have HBN : Hid (w.heap.size ≤ BN ∧ ∀ q, (Value.slice a1 n c1).ownBlock = some q → q < BN) := Lib.hid ⟨hBN ▸ BX2.out.size, fun q hq => hBN ▸ (XX2.out.own.lt q hq).2⟩
      have BX3 : Hid (Below w.heap.size w X3) := Lib.hid (BX2.out.trans (hB.mono BX2.out.size))
      have SX3 : Hid (Blk X3 gs 27 [.int .u32 s.ch, .int .u64 s.rd, .int .u64 s.m0, .int .u64 s.m1, .int .u64 s.t0, .int .u64 s.t1, .slice a n cap]) := Lib.hid (SX2.out.below hB SX2.out.lt)
      have PX3 : Hid (Blk X3 gp 24 [.int .u64 p0, .int .u64 p1]) := Lib.hid (PX2.out.below hB PX2.out.lt)
      have KX3 : Hid (Blk X3 gk 55 (ocells k amt c id)) := Lib.hid (KX2.out.below hB KX2.out.lt)
      have XX3 : Hid (StAt X3 w.heap.size gx s a1 n c1) := Lib.hid (XX2.out.keep hB)
      have ZX3 : Hid (Blk X3 gN 31 [.int .u32 0, .int .u64 0, .int .u64 0, .int .u64 0, .int .u64 0, .int .u64 0, .slice none 0 0]) := Lib.hid (ZX2.out.below hB ZX2.out.lt)
      have RX3 : Hid (X3.ownsRow BN 60 36 (.slice aN nN cN) nN (cflat SS.cs)) := Lib.hid (hR)
      clear BX2 SX2 PX2 KX2 XX2 ZX2 hB hR hlen hBN
      refine ⟨_, rfl, hK.out _ _ (⟨SX3.out, PX3.out, KX3.out, XX3.out⟩) (fun hHeld => ?_)⟩
      clear hK K
      show wpAnyH _ _ _ _ _ _ _ (Act.put _ (some 30) _) _
      simp only [Act.put, List.setIfInBounds_toArray, List.set_cons_zero, List.set_cons_succ]
      refine wpAnyH_take (i := 6) (v := .tuple #[.agg #[.int .u32 SS.ch, .int .u64 SS.rd, .int .u64 SS.m0, .int .u64 SS.m1, .int .u64 SS.t0, .int .u64 SS.t1, .slice aN nN cN], .int .i64 E]) rfl (by kernel_rfl) (by kernel_rfl) (by kernel_rfl) (fun _ _ _ h => h) (Or.inl ⟨by rfl, fun w _ => by rfl⟩) hHeld ?_
      show wpAnyH _ _ _ _ _ _ _ (Act.put _ (some 24) _) _
      simp only [Act.put, List.setIfInBounds_toArray, List.set_cons_zero, List.set_cons_succ]
      refine wpAnyH_take (i := 7) (v := .agg #[.int .u32 SS.ch, .int .u64 SS.rd, .int .u64 SS.m0, .int .u64 SS.m1, .int .u64 SS.t0, .int .u64 SS.t1, .slice aN nN cN]) rfl (by kernel_rfl) (by kernel_rfl) (by kernel_rfl) (fun _ _ _ h => h) (Or.inl ⟨by rfl, by intro w' h; go_simp⟩) hHeld ?_
      show wpAnyH _ _ _ _ _ _ _ (Act.put _ (some 31) _) _
      simp only [Act.put, List.setIfInBounds_toArray, List.set_cons_zero, List.set_cons_succ]
      refine wpAnyH_take (i := 8) (v := .int .i64 E) rfl (by kernel_rfl) (by kernel_rfl) (by kernel_rfl) (fun _ _ _ h => h) (Or.inl ⟨by rfl, by intro w' h; go_simp⟩) hHeld ?_
      show wpAnyH _ _ _ _ _ _ _ (Act.put _ (some 32) _) _
      simp only [Act.put, List.setIfInBounds_toArray, List.set_cons_zero, List.set_cons_succ]
      refine wpAnyH_ready (rs := [10]) (by kernel_rfl) (by simp) ?_
      refine AllReadyH.cons rfl (fun K hK => ?_) AllReadyH.nil
      refine step_store rfl 31 (.tmp 10) (.tmp 31) rfl gN [.int .u32 SS.ch, .int .u64 SS.rd, .int .u64 SS.m0, .int .u64 SS.m1, .int .u64 SS.t0, .int .u64 SS.t1, .slice aN nN cN] rfl rfl 31 _ ZX3.out info31 rfl (by simp [Value.oneCell']) ?_
      intro X4 hZ hO
      have hKW : ∀ q, some gN = some q → w.heap.size ≤ q := fun q hq => by injection hq with hq; have := HGN.out; omega
      have hnS : some gs ≠ some gN := fun e => by injection e with e; have := HGN.out; omega
      have hnP : some gp ≠ some gN := fun e => by injection e with e; have := HGN.out; omega
      have hnK : some gk ≠ some gN := fun e => by injection e with e; have := HGN.out; omega
      have hnX : gx ≠ gN := fun e => by have := HGN.out; omega
      have BX4 : Hid (Below w.heap.size w X4) := Lib.hid (BX3.out.grown hO BX3.out.size hKW)
      have SX4 : Hid (Blk X4 gs 27 [.int .u32 s.ch, .int .u64 s.rd, .int .u64 s.m0, .int .u64 s.m1, .int .u64 s.t0, .int .u64 s.t1, .slice a n cap]) := Lib.hid (SX3.out.grown hO hnS)
      have PX4 : Hid (Blk X4 gp 24 [.int .u64 p0, .int .u64 p1]) := Lib.hid (PX3.out.grown hO hnP)
      have KX4 : Hid (Blk X4 gk 55 (ocells k amt c id)) := Lib.hid (KX3.out.grown hO hnK)
      have XX4 : Hid (StAt X4 w.heap.size gx s a1 n c1) := Lib.hid (XX3.out.other hO hnX ZX3.out (by decide))
      have RX4 : Hid (X4.ownsRow BN 60 36 (.slice aN nN cN) nN (cflat SS.cs)) := Lib.hid (RX3.out.kept hO (.inr (fun e => own_ne RX3.out ZX3.out (by decide) e.symm)))
      have ZX4 : Hid (Blk X4 gN 31 [.int .u32 SS.ch, .int .u64 SS.rd, .int .u64 SS.m0, .int .u64 SS.m1, .int .u64 SS.t0, .int .u64 SS.t1, .slice aN nN cN]) := Lib.hid (hZ)
      clear BX3 SX3 PX3 KX3 XX3 RX3 hZ hO hKW ZX3 hnS hnP hnK hnX
      refine hK.out _ _ (⟨SX4.out, PX4.out, KX4.out, XX4.out⟩) (fun hHeld => ?_)
      clear hK K
      show wpAnyH _ _ _ _ _ _ _ (Act.put _ none _) _
      simp only [Act.put]
      refine wpAnyH_take (i := 11) (v := .int .i64 E) rfl (by kernel_rfl) (by kernel_rfl) (by kernel_rfl) (fun _ _ _ h => h) (Or.inl ⟨by rfl, fun w _ => by rfl⟩) hHeld ?_
      show wpAnyH _ _ _ _ _ _ _ (Act.put _ (some 11) _) _
      simp only [Act.put, List.setIfInBounds_toArray, List.set_cons_zero, List.set_cons_succ]
      refine wpAnyH_done (by kernel_rfl) ?_ _
      go_wp2
      go_meet
      exact ⟨gN, aN, nN, cN, BN, rfl, rfl, BX4, SX4, PX4, KX4, XX4, ZX4, RX4, HLEN, HBN⟩
  case rest =>
    clear BC SC PC KC XC HNX
    obtain ⟨gy, aN, nN, cN, BN, rfl, rfl, BD, SD, PD, KD, XD, YD, RD, HLEN, HBN⟩ := hcut
    generalize wc = D at BD SD PD KD XD YD RD ⊢
    obtain ⟨sp, hsp⟩ := YB.of_own RD.out
    have DD := Lib.hid hsp
    clear hsp RD
    have hK9 : D.heap[gk]? = some (.cells (ocells k amt c id).toArray 55 (0, 0)) := KD.out
    have hzk : (Try.prog.info? 55).map (·.size) = some (ocells k amt c id).toArray.size := by rw [ocells_size k amt c id HOK.out]; exact info55
    have s0 := SD.out.cell 0
    have s1 := SD.out.cell 1
    have s2 := SD.out.cell 2
    have s3 := SD.out.cell 3
    have s4 := SD.out.cell 4
    have s5 := SD.out.cell 5
    have s6 := SD.out.cell 6
    simp only [List.getElem?_cons_zero, List.getElem?_cons_succ] at s0 s1 s2 s3 s4 s5 s6
    have q0 := PD.out.cell 0
    have q1 := PD.out.cell 1
    simp only [List.getElem?_cons_zero, List.getElem?_cons_succ] at q0 q1
    go_wp2_with (first | (refine wpList_load_row rfl 55 (.tmp 7) rfl gk rfl 55 (ocells k amt c id).toArray (0, 0) _ hK9 Try.underlying55 rfl hzk ?_))
    clear hK9 hzk s0 s1 s2 s3 s4 s5 s6 q0 q1
    refine (HRX.out D (HC.out.below BD.out)).mono ?_
    rintro e F ⟨a2, n2, c2, rfl, hR, hlen, hB⟩
    have HLEN2 := Lib.hid hlen
    have ZF := Lib.hid (own_mono hR BD.out.size)
    clear hR hlen
    have BF : Hid (Below w.heap.size w F) := Lib.hid (BD.out.trans (hB.mono BD.out.size))
    have SF := Lib.hid (SD.out.below hB SD.out.lt)
    have PF := Lib.hid (PD.out.below hB PD.out.lt)
    have KF := Lib.hid (KD.out.below hB KD.out.lt)
    have YF := Lib.hid (YD.out.below hB YD.out.lt)
    have XF := Lib.hid (XD.out.keep hB)
    have DF := Lib.hid (DD.out.keep hB)
    clear hB BD SD PD KD XD YD DD
    have HLA := heap_alloc_last F (.cells #[.int .u32 0, .int .u64 0, .int .u64 0, .int .u64 0, .int .u64 0, .int .u64 0, .slice none 0 0] 27)
    have hz1 : (Try.prog.info? 27).map (·.size) = some (#[.int .u32 SS.ch, .int .u64 SS.rd, .int .u64 SS.m0, .int .u64 SS.m1, .int .u64 SS.t0, .int .u64 SS.t1, .slice a2 n2 c2] : Array Value).size := info27
    go_upto_region 6 with (first | (refine wpList_store_row rfl 27 (.tmp 12) (.tmp 39) rfl F.heap.size #[.int .u32 SS.ch, .int .u64 SS.rd, .int .u64 SS.m0, .int .u64 SS.m1, .int .u64 SS.t0, .int .u64 SS.t1, .slice a2 n2 c2] rfl rfl 27 _ HLA hz1 rfl rfl ?_; rw [World.setRow_alloc_new]))
    clear HLA hz1
    have hB : Below F.heap.size F (F.alloc (.cells #[.int .u32 SS.ch, .int .u64 SS.rd, .int .u64 SS.m0, .int .u64 SS.m1, .int .u64 SS.t0, .int .u64 SS.t1, .slice a2 n2 c2] 27)) := (Below.refl _ _).alloc (Nat.le_refl _) _
    have VG : Hid (Blk (F.alloc (.cells #[.int .u32 SS.ch, .int .u64 SS.rd, .int .u64 SS.m0, .int .u64 SS.m1, .int .u64 SS.t0, .int .u64 SS.t1, .slice a2 n2 c2] 27)) F.heap.size 27 [.int .u32 SS.ch, .int .u64 SS.rd, .int .u64 SS.m0, .int .u64 SS.m1, .int .u64 SS.t0, .int .u64 SS.t1, .slice a2 n2 c2]) := Lib.hid (Blk.new _ _ [.int .u32 SS.ch, .int .u64 SS.rd, .int .u64 SS.m0, .int .u64 SS.m1, .int .u64 SS.t0, .int .u64 SS.t1, .slice a2 n2 c2])
    have BG : Hid (Below w.heap.size w (F.alloc (.cells #[.int .u32 SS.ch, .int .u64 SS.rd, .int .u64 SS.m0, .int .u64 SS.m1, .int .u64 SS.t0, .int .u64 SS.t1, .slice a2 n2 c2] 27))) := Lib.hid (BF.out.trans (hB.mono BF.out.size))
    have SG := Lib.hid (SF.out.below hB SF.out.lt)
    have PG := Lib.hid (PF.out.below hB PF.out.lt)
    have KG := Lib.hid (KF.out.below hB KF.out.lt)
    have YG := Lib.hid (YF.out.below hB YF.out.lt)
    have XG := Lib.hid (XF.out.keep hB)
    have DG := Lib.hid (DF.out.keep hB)
    have ZG := Lib.hid (own_keep ZF.out hB)
    clear hB BF SF PF KF XF YF DF ZF
    generalize (F.alloc (.cells #[.int .u32 SS.ch, .int .u64 SS.rd, .int .u64 SS.m0, .int .u64 SS.m1, .int .u64 SS.t0, .int .u64 SS.t1, .slice a2 n2 c2] 27)) = G at BG SG PG KG XG YG DG ZG VG ⊢
    generalize F.heap.size = gv at VG ⊢
    have F1L : Hid (SS.cs.length = nN) := HLEN
    have F1O : Hid (∀ x ∈ SS.cs, x.Ok) := HSO
    have F2L : Hid ((SS.cs.map Cnd.fl).length = nN) := Lib.hid (by rw [List.length_map]; exact HLEN.out)
    have F2O : Hid (∀ x ∈ SS.cs.map Cnd.fl, x.Ok) := Lib.hid (map_ok HSO.out)
    have hN41 : nN ≤ 41 := by have := HSL.out; have := HLEN.out; omega
    have y6 := YG.out.cell 6
    simp only [List.getElem?_cons_zero, List.getElem?_cons_succ] at y6
    go_upto_region 7 with fail
    clear y6
    have D0 : Hid (YB BN aN nN (flp (SS.cs) 0) sp G) := Lib.hid (by rw [flp_0]; exact DG.out)
    go_loopw [14, 44] (fun _ x wr => ∃ (i : Nat), i ≤ nN ∧ x = .int .i64 i ∧ Hid (YB BN aN nN (flp (SS.cs) i) sp wr) ∧ Hid (Below w.heap.size w wr) ∧ Hid (Blk wr gs 27 [.int .u32 s.ch, .int .u64 s.rd, .int .u64 s.m0, .int .u64 s.m1, .int .u64 s.t0, .int .u64 s.t1, .slice a n cap]) ∧ Hid (Blk wr gp 24 [.int .u64 p0, .int .u64 p1]) ∧ Hid (Blk wr gk 55 (ocells k amt c id)) ∧ Hid (StAt wr w.heap.size gx s a1 n c1) ∧ Hid (Blk wr gy 31 [.int .u32 SS.ch, .int .u64 SS.rd, .int .u64 SS.m0, .int .u64 SS.m1, .int .u64 SS.t0, .int .u64 SS.t1, .slice aN nN cN]) ∧ Hid (wr.ownsRow w.heap.size 53 36 (.slice a2 n2 c2) n2 (cflat SS.cs)) ∧ Hid (Blk wr gv 27 [.int .u32 SS.ch, .int .u64 SS.rd, .int .u64 SS.m0, .int .u64 SS.m1, .int .u64 SS.t0, .int .u64 SS.t1, .slice a2 n2 c2])) (fun _ x _ => nN - (intOf x).toNat)
    case atStart => exact ⟨0, Nat.zero_le _, rfl, D0, BG, SG, PG, KG, XG, YG, ZG, VG⟩
    case round =>
      clear D0 DG BG SG PG KG XG YG ZG VG
      obtain ⟨i, hi, rfl, D0, B0, S0, P0, K0, X0, Y0, Z0, V0⟩ := hrel
      by_cases hlt : i < nN
      · have hL : (SS.cs).length = nN := F1L.out
        have hi' : i < (SS.cs).length := by rw [hL]; exact hlt
        rcases D0.out with h0 | ⟨gb, rfl, hgb, hb⟩
        · exact absurd h0 (by omega)
        obtain ⟨hc2, hst⟩ := flp_cells (SS.cs) F1O.out sp i hi'
        have hw := (F1O.out _ (getD_mem hi')).amt
        obtain ⟨x, hx⟩ : ∃ q, ((SS.cs).getD i cnd0).amt = q := ⟨_, rfl⟩
        rw [hx] at hc2 hst hw
        have e1 : wr.cell? ⟨gb, i * 36 + 2, none⟩ = some (.int .u64 x) := by rw [hb.cell]; exact hc2
        have e2 := hb.frozen (i * 36 + 2)
        have y6 := Y0.out.cell 6
        simp only [List.getElem?_cons_zero, List.getElem?_cons_succ] at y6
        have hfx : bits .xor .u64 x 1 = fx x := rfl
        generalize fx x = x2 at hst hfx
        have HST := Lib.hid hst
        have HB_ := Lib.hid hb
        have HGB := Lib.hid hgb
        clear hst hc2 hw hx hi' hL hb hgb D0
        go_upto_region 10 with fail
        clear e1 e2 y6 hfx
        have hO : wr.grownBy (wr.setCell ⟨gb, i * 36 + 2, none⟩ (.int .u64 x2)) (some gb) := only_setCell (p := ⟨gb, i * 36 + 2, none⟩) (only_refl wr (some gb)) (.inl rfl) (.int .u64 x2)
        have DE : Hid (YB BN (some ⟨gb, 0, none⟩) nN (flp (SS.cs) (i + 1)) sp (wr.setCell ⟨gb, i * 36 + 2, none⟩ (.int .u64 x2))) := Lib.hid (.inr ⟨gb, rfl, HGB.out, by rw [← HST.out]; exact HB_.out.set_ (i * 36 + 2) (.int .u64 x2)⟩)
        have BE : Hid (Below w.heap.size w (wr.setCell ⟨gb, i * 36 + 2, none⟩ (.int .u64 x2))) := Lib.hid (B0.out.grown hO B0.out.size (fun q hq => by injection hq with hq; have := HGB.out; have := HBN.out.1; omega))
        have SE : Hid (Blk (wr.setCell ⟨gb, i * 36 + 2, none⟩ (.int .u64 x2)) gs 27 [.int .u32 s.ch, .int .u64 s.rd, .int .u64 s.m0, .int .u64 s.m1, .int .u64 s.t0, .int .u64 s.t1, .slice a n cap]) := Lib.hid (S0.out.grown hO (fun e => S0.out.ne_ HB_.out (by decide) (by injection e)))
        have PE : Hid (Blk (wr.setCell ⟨gb, i * 36 + 2, none⟩ (.int .u64 x2)) gp 24 [.int .u64 p0, .int .u64 p1]) := Lib.hid (P0.out.grown hO (fun e => P0.out.ne_ HB_.out (by decide) (by injection e)))
        have KE : Hid (Blk (wr.setCell ⟨gb, i * 36 + 2, none⟩ (.int .u64 x2)) gk 55 (ocells k amt c id)) := Lib.hid (K0.out.grown hO (fun e => K0.out.ne_ HB_.out (by decide) (by injection e)))
        have YE : Hid (Blk (wr.setCell ⟨gb, i * 36 + 2, none⟩ (.int .u64 x2)) gy 31 [.int .u32 SS.ch, .int .u64 SS.rd, .int .u64 SS.m0, .int .u64 SS.m1, .int .u64 SS.t0, .int .u64 SS.t1, .slice (some ⟨gb, 0, none⟩) nN cN]) := Lib.hid (Y0.out.grown hO (fun e => Y0.out.ne_ HB_.out (by decide) (by injection e)))
        have VE : Hid (Blk (wr.setCell ⟨gb, i * 36 + 2, none⟩ (.int .u64 x2)) gv 27 [.int .u32 SS.ch, .int .u64 SS.rd, .int .u64 SS.m0, .int .u64 SS.m1, .int .u64 SS.t0, .int .u64 SS.t1, .slice a2 n2 c2]) := Lib.hid (V0.out.grown hO (fun e => V0.out.ne_ HB_.out (by decide) (by injection e)))
        have XE : Hid (StAt (wr.setCell ⟨gb, i * 36 + 2, none⟩ (.int .u64 x2)) w.heap.size gx s a1 n c1) := Lib.hid ⟨X0.out.blk.grown hO (fun e => X0.out.blk.ne_ HB_.out (by decide) (by injection e)), X0.out.own.kept hO (.inr (fun e => by have h1 := HBN.out.2 gb e; have h2 := HGB.out; omega)), X0.out.ok, X0.out.len⟩
        have ZE : Hid ((wr.setCell ⟨gb, i * 36 + 2, none⟩ (.int .u64 x2)).ownsRow w.heap.size 53 36 (.slice a2 n2 c2) n2 (cflat SS.cs)) := Lib.hid (Z0.out.kept hO (.inr (fun e => own_ne Z0.out HB_.out (by decide) e.symm)))
        clear hO HST HB_ HGB B0 S0 P0 K0 X0 Y0 Z0 V0
        generalize (wr.setCell ⟨gb, i * 36 + 2, none⟩ (.int .u64 x2)) = W at DE BE SE PE KE XE YE ZE VE ⊢
        go_wp2
        go_roundw
        case rel => exact ⟨i + 1, by omega, by go_num, DE, BE, SE, PE, KE, XE, YE, ZE, VE⟩
        case measure => simp [intOf] <;> omega
      · obtain rfl : nN = i := by omega
        have D1 := D0.out
        rw [show flp (SS.cs) nN = (SS.cs).map Cnd.fl from F1L.out ▸ flp_all (SS.cs)] at D1
        clear D0
        have DH : Hid (YB BN aN nN (SS.cs.map Cnd.fl) sp wr) := Lib.hid D1
        clear D1
        have BH := B0
        have SH := S0
        have PH := P0
        have KH := K0
        have XH := X0
        have YH := Y0
        have ZH := Z0
        have VH := V0
        clear B0 S0 P0 K0 X0 Y0 Z0 V0
        go_upto_region 11 with fail
        have hBz : Below wr.heap.size wr wr.drew := below_drewN (Below.refl _ _) 1
        have BX0 : Hid (Below w.heap.size w wr.drew) := Lib.hid (BH.out.trans (hBz.mono BH.out.size))
        have SX0 : Hid (Blk wr.drew gs 27 [.int .u32 s.ch, .int .u64 s.rd, .int .u64 s.m0, .int .u64 s.m1, .int .u64 s.t0, .int .u64 s.t1, .slice a n cap]) := Lib.hid (SH.out.below hBz SH.out.lt)
        have PX0 : Hid (Blk wr.drew gp 24 [.int .u64 p0, .int .u64 p1]) := Lib.hid (PH.out.below hBz PH.out.lt)
        have KX0 : Hid (Blk wr.drew gk 55 (ocells k amt c id)) := Lib.hid (KH.out.below hBz KH.out.lt)
        have YX0 : Hid (Blk wr.drew gy 31 [.int .u32 SS.ch, .int .u64 SS.rd, .int .u64 SS.m0, .int .u64 SS.m1, .int .u64 SS.t0, .int .u64 SS.t1, .slice aN nN cN]) := Lib.hid (YH.out.below hBz YH.out.lt)
        have VX0 : Hid (Blk wr.drew gv 27 [.int .u32 SS.ch, .int .u64 SS.rd, .int .u64 SS.m0, .int .u64 SS.m1, .int .u64 SS.t0, .int .u64 SS.t1, .slice a2 n2 c2]) := Lib.hid (VH.out.below hBz VH.out.lt)
        have XX0 : Hid (StAt wr.drew w.heap.size gx s a1 n c1) := Lib.hid (XH.out.keep hBz)
        have ZX0 : Hid (wr.drew.ownsRow w.heap.size 53 36 (.slice a2 n2 c2) n2 (cflat SS.cs)) := Lib.hid (own_keep ZH.out hBz)
        have DX0 : Hid (YB BN aN nN (SS.cs.map Cnd.fl) sp wr.drew) := Lib.hid (DH.out.keep hBz)
        clear hBz
        refine wp_region_held_drew (S := fun w' => Blk w' gs 27 [.int .u32 s.ch, .int .u64 s.rd, .int .u64 s.m0, .int .u64 s.m1, .int .u64 s.t0, .int .u64 s.t1, .slice a n cap] ∧ StAt w' w.heap.size gx s a1 n c1) (by kernel_rfl) (⟨SX0.out, XX0.out⟩) (fun hHeld => ?_)
        generalize wr.drew = X0 at hHeld BX0 SX0 PX0 KX0 YX0 VX0 XX0 ZX0 DX0 ⊢
        refine wpAnyH_take (i := 0) (v := .agg #[.int .u32 s.ch, .int .u64 s.rd, .int .u64 s.m0, .int .u64 s.m1, .int .u64 s.t0, .int .u64 s.t1, .slice a1 n c1]) rfl (by kernel_rfl) (by kernel_rfl) (by kernel_rfl) (fun _ _ _ h => h) (Or.inl ⟨by rfl, by intro w' h; have q0 := Blk.cell h.2.blk 0; have q1 := Blk.cell h.2.blk 1; have q2 := Blk.cell h.2.blk 2; have q3 := Blk.cell h.2.blk 3; have q4 := Blk.cell h.2.blk 4; have q5 := Blk.cell h.2.blk 5; have q6 := Blk.cell h.2.blk 6; simp only [List.getElem?_cons_zero, List.getElem?_cons_succ] at q0 q1 q2 q3 q4 q5 q6; go_simp⟩) hHeld ?_
        show wpAnyH _ _ _ _ _ _ _ (Act.put _ (some 57) _) _
        simp only [Act.put, List.setIfInBounds_toArray, List.set_cons_zero, List.set_cons_succ]
        refine wpAnyH_take (i := 2) (v := .agg #[.int .u32 s.ch, .int .u64 s.rd, .int .u64 s.m0, .int .u64 s.m1, .int .u64 s.t0, .int .u64 s.t1, .slice a n cap]) rfl (by kernel_rfl) (by kernel_rfl) (by kernel_rfl) (fun _ _ _ h => h) (Or.inl ⟨by rfl, by intro w' h; have q0 := Blk.cell h.1 0; have q1 := Blk.cell h.1 1; have q2 := Blk.cell h.1 2; have q3 := Blk.cell h.1 3; have q4 := Blk.cell h.1 4; have q5 := Blk.cell h.1 5; have q6 := Blk.cell h.1 6; simp only [List.getElem?_cons_zero, List.getElem?_cons_succ] at q0 q1 q2 q3 q4 q5 q6; go_simp⟩) hHeld ?_
        show wpAnyH _ _ _ _ _ _ _ (Act.put _ (some 59) _) _
        simp only [Act.put, List.setIfInBounds_toArray, List.set_cons_zero, List.set_cons_succ]
        refine wpAnyH_ready (rs := [1]) (by kernel_rfl) (by simp) ?_
        refine AllReadyH.cons rfl (fun K hK => ?_) AllReadyH.nil
        refine step_call rfl 27 #[.tmp 57] #[31] rfl #[.agg #[.int .u32 s.ch, .int .u64 s.rd, .int .u64 s.m0, .int .u64 s.m1, .int .u64 s.t0, .int .u64 s.t1, .slice a1 n c1]] (by simp [Act.eval]) (by go_simp) (from_any s.ch s.rd s.m0 s.m1 s.t0 s.t1 a1 n c1 s.cs X0 XX0.out.row HL.out (by omega)) ?_
        rintro e X1 ⟨a5, c5, rfl, hown, hB⟩
        have BX1 : Hid (Below w.heap.size w X1) := Lib.hid (BX0.out.trans (hB.mono BX0.out.size))
        have SX1 : Hid (Blk X1 gs 27 [.int .u32 s.ch, .int .u64 s.rd, .int .u64 s.m0, .int .u64 s.m1, .int .u64 s.t0, .int .u64 s.t1, .slice a n cap]) := Lib.hid (SX0.out.below hB SX0.out.lt)
        have PX1 : Hid (Blk X1 gp 24 [.int .u64 p0, .int .u64 p1]) := Lib.hid (PX0.out.below hB PX0.out.lt)
        have KX1 : Hid (Blk X1 gk 55 (ocells k amt c id)) := Lib.hid (KX0.out.below hB KX0.out.lt)
        have YX1 : Hid (Blk X1 gy 31 [.int .u32 SS.ch, .int .u64 SS.rd, .int .u64 SS.m0, .int .u64 SS.m1, .int .u64 SS.t0, .int .u64 SS.t1, .slice aN nN cN]) := Lib.hid (YX0.out.below hB YX0.out.lt)
        have VX1 : Hid (Blk X1 gv 27 [.int .u32 SS.ch, .int .u64 SS.rd, .int .u64 SS.m0, .int .u64 SS.m1, .int .u64 SS.t0, .int .u64 SS.t1, .slice a2 n2 c2]) := Lib.hid (VX0.out.below hB VX0.out.lt)
        have XX1 : Hid (StAt X1 w.heap.size gx s a1 n c1) := Lib.hid (XX0.out.keep hB)
        have ZX1 : Hid (X1.ownsRow w.heap.size 53 36 (.slice a2 n2 c2) n2 (cflat SS.cs)) := Lib.hid (own_keep ZX0.out hB)
        have DX1 : Hid (YB BN aN nN (SS.cs.map Cnd.fl) sp X1) := Lib.hid (DX0.out.keep hB)
        have TX1 : Hid (CRow X1 a5 s.cs) := Lib.hid (CRow.of_own (by rw [HL.out]; exact hown) HC.out.ok)
        clear BX0 SX0 PX0 KX0 YX0 VX0 XX0 ZX0 DX0 hown hB
        refine ⟨_, rfl, hK.out _ _ (⟨SX1.out, XX1.out⟩) (fun hHeld => ?_)⟩
        clear hK K
        show wpAnyH _ _ _ _ _ _ _ (Act.put _ (some 58) _) _
        simp only [Act.put, List.setIfInBounds_toArray, List.set_cons_zero, List.set_cons_succ]
        refine wpAnyH_ready (rs := [3]) (by kernel_rfl) (by simp) ?_
        refine AllReadyH.cons rfl (fun K hK => ?_) AllReadyH.nil
        refine step_call rfl 20 #[.tmp 58, .tmp 59] #[27, 27] rfl #[.agg #[.int .u32 s.ch, .int .u64 s.rd, .int .u64 s.m0, .int .u64 s.m1, .int .u64 s.t0, .int .u64 s.t1, .slice a5 n c5], .agg #[.int .u32 s.ch, .int .u64 s.rd, .int .u64 s.m0, .int .u64 s.m1, .int .u64 s.t0, .int .u64 s.t1, .slice a n cap]] (by simp [Act.eval]) (by go_simp) ((show Calls Try.prog 20 #[.agg #[.int .u32 s.ch, .int .u64 s.rd, .int .u64 s.m0, .int .u64 s.m1, .int .u64 s.t0, .int .u64 s.t1, .slice a5 n c5], .agg #[.int .u32 s.ch, .int .u64 s.rd, .int .u64 s.m0, .int .u64 s.m1, .int .u64 s.t0, .int .u64 s.t1, .slice a n cap]] X1 (fun e w2 => e = .returned (.bool true) ∧ Below X1.heap.size X1 w2) from (rsame_any s.ch s.rd s.m0 s.m1 s.t0 s.t1 a5 n c5 s.cs s.ch s.rd s.m0 s.m1 s.t0 s.t1 a n cap s.cs X1 TX1.out HL.out (by omega) (HC.out.below BX1.out) HL.out (by omega)).mono (fun e w2 ⟨h1, h2⟩ => ⟨h1.trans (by simp), h2⟩))) ?_
        rintro e X2 ⟨rfl, hB⟩
        have BX2 : Hid (Below w.heap.size w X2) := Lib.hid (BX1.out.trans (hB.mono BX1.out.size))
        have SX2 : Hid (Blk X2 gs 27 [.int .u32 s.ch, .int .u64 s.rd, .int .u64 s.m0, .int .u64 s.m1, .int .u64 s.t0, .int .u64 s.t1, .slice a n cap]) := Lib.hid (SX1.out.below hB SX1.out.lt)
        have PX2 : Hid (Blk X2 gp 24 [.int .u64 p0, .int .u64 p1]) := Lib.hid (PX1.out.below hB PX1.out.lt)
        have KX2 : Hid (Blk X2 gk 55 (ocells k amt c id)) := Lib.hid (KX1.out.below hB KX1.out.lt)
        have YX2 : Hid (Blk X2 gy 31 [.int .u32 SS.ch, .int .u64 SS.rd, .int .u64 SS.m0, .int .u64 SS.m1, .int .u64 SS.t0, .int .u64 SS.t1, .slice aN nN cN]) := Lib.hid (YX1.out.below hB YX1.out.lt)
        have VX2 : Hid (Blk X2 gv 27 [.int .u32 SS.ch, .int .u64 SS.rd, .int .u64 SS.m0, .int .u64 SS.m1, .int .u64 SS.t0, .int .u64 SS.t1, .slice a2 n2 c2]) := Lib.hid (VX1.out.below hB VX1.out.lt)
        have XX2 : Hid (StAt X2 w.heap.size gx s a1 n c1) := Lib.hid (XX1.out.keep hB)
        have ZX2 : Hid (X2.ownsRow w.heap.size 53 36 (.slice a2 n2 c2) n2 (cflat SS.cs)) := Lib.hid (own_keep ZX1.out hB)
        have DX2 : Hid (YB BN aN nN (SS.cs.map Cnd.fl) sp X2) := Lib.hid (DX1.out.keep hB)
        clear BX1 SX1 PX1 KX1 YX1 VX1 XX1 ZX1 DX1 hB TX1
        refine ⟨_, rfl, hK.out _ _ (⟨SX2.out, XX2.out⟩) (fun hHeld => ?_)⟩
        clear hK K
        show wpAnyH _ _ _ _ _ _ _ (Act.put _ (some 60) _) _
        simp only [Act.put, List.setIfInBounds_toArray, List.set_cons_zero, List.set_cons_succ]
        refine wpAnyH_take (i := 4) (v := .bool true) rfl (by kernel_rfl) (by kernel_rfl) (by kernel_rfl) (fun _ _ _ h => h) (Or.inl ⟨by rfl, fun w _ => by rfl⟩) hHeld ?_
        show wpAnyH _ _ _ _ _ _ _ (Act.put _ (some 15) _) _
        simp only [Act.put, List.setIfInBounds_toArray, List.set_cons_zero, List.set_cons_succ]
        refine wpAnyH_done (by kernel_rfl) ?_ _
        clear hHeld
        have y6 := YX2.out.cell 6
        simp only [List.getElem?_cons_zero, List.getElem?_cons_succ] at y6
        go_upto_region 13 with fail
        clear y6
        have D0 : Hid (YB BN aN nN (flp (SS.cs.map Cnd.fl) 0) sp X2) := Lib.hid (by rw [flp_0]; exact DX2.out)
        go_loopw [16, 64] (fun _ x wr => ∃ (i : Nat), i ≤ nN ∧ x = .int .i64 i ∧ Hid (YB BN aN nN (flp (SS.cs.map Cnd.fl) i) sp wr) ∧ Hid (Below w.heap.size w wr) ∧ Hid (Blk wr gs 27 [.int .u32 s.ch, .int .u64 s.rd, .int .u64 s.m0, .int .u64 s.m1, .int .u64 s.t0, .int .u64 s.t1, .slice a n cap]) ∧ Hid (Blk wr gp 24 [.int .u64 p0, .int .u64 p1]) ∧ Hid (Blk wr gk 55 (ocells k amt c id)) ∧ Hid (StAt wr w.heap.size gx s a1 n c1) ∧ Hid (Blk wr gy 31 [.int .u32 SS.ch, .int .u64 SS.rd, .int .u64 SS.m0, .int .u64 SS.m1, .int .u64 SS.t0, .int .u64 SS.t1, .slice aN nN cN]) ∧ Hid (wr.ownsRow w.heap.size 53 36 (.slice a2 n2 c2) n2 (cflat SS.cs)) ∧ Hid (Blk wr gv 27 [.int .u32 SS.ch, .int .u64 SS.rd, .int .u64 SS.m0, .int .u64 SS.m1, .int .u64 SS.t0, .int .u64 SS.t1, .slice a2 n2 c2])) (fun _ x _ => nN - (intOf x).toNat)
        case atStart => exact ⟨0, Nat.zero_le _, rfl, D0, BX2, SX2, PX2, KX2, XX2, YX2, ZX2, VX2⟩
        case round =>
          clear D0 DX2 BX2 SX2 PX2 KX2 XX2 YX2 ZX2 VX2
          obtain ⟨i, hi, rfl, D0, B0, S0, P0, K0, X0, Y0, Z0, V0⟩ := hrel
          by_cases hlt : i < nN
          · have hL : (SS.cs.map Cnd.fl).length = nN := F2L.out
            have hi' : i < (SS.cs.map Cnd.fl).length := by rw [hL]; exact hlt
            rcases D0.out with h0 | ⟨gb, rfl, hgb, hb⟩
            · exact absurd h0 (by omega)
            obtain ⟨hc2, hst⟩ := flp_cells (SS.cs.map Cnd.fl) F2O.out sp i hi'
            have hw := (F2O.out _ (getD_mem hi')).amt
            obtain ⟨x, hx⟩ : ∃ q, ((SS.cs.map Cnd.fl).getD i cnd0).amt = q := ⟨_, rfl⟩
            rw [hx] at hc2 hst hw
            have e1 : wr.cell? ⟨gb, i * 36 + 2, none⟩ = some (.int .u64 x) := by rw [hb.cell]; exact hc2
            have e2 := hb.frozen (i * 36 + 2)
            have y6 := Y0.out.cell 6
            simp only [List.getElem?_cons_zero, List.getElem?_cons_succ] at y6
            have hfx : bits .xor .u64 x 1 = fx x := rfl
            generalize fx x = x2 at hst hfx
            have HST := Lib.hid hst
            have HB_ := Lib.hid hb
            have HGB := Lib.hid hgb
            clear hst hc2 hw hx hi' hL hb hgb D0
            go_upto_region 16 with fail
            clear e1 e2 y6 hfx
            have hO : wr.grownBy (wr.setCell ⟨gb, i * 36 + 2, none⟩ (.int .u64 x2)) (some gb) := only_setCell (p := ⟨gb, i * 36 + 2, none⟩) (only_refl wr (some gb)) (.inl rfl) (.int .u64 x2)
            have DE : Hid (YB BN (some ⟨gb, 0, none⟩) nN (flp (SS.cs.map Cnd.fl) (i + 1)) sp (wr.setCell ⟨gb, i * 36 + 2, none⟩ (.int .u64 x2))) := Lib.hid (.inr ⟨gb, rfl, HGB.out, by rw [← HST.out]; exact HB_.out.set_ (i * 36 + 2) (.int .u64 x2)⟩)
            have BE : Hid (Below w.heap.size w (wr.setCell ⟨gb, i * 36 + 2, none⟩ (.int .u64 x2))) := Lib.hid (B0.out.grown hO B0.out.size (fun q hq => by injection hq with hq; have := HGB.out; have := HBN.out.1; omega))
            have SE : Hid (Blk (wr.setCell ⟨gb, i * 36 + 2, none⟩ (.int .u64 x2)) gs 27 [.int .u32 s.ch, .int .u64 s.rd, .int .u64 s.m0, .int .u64 s.m1, .int .u64 s.t0, .int .u64 s.t1, .slice a n cap]) := Lib.hid (S0.out.grown hO (fun e => S0.out.ne_ HB_.out (by decide) (by injection e)))
            have PE : Hid (Blk (wr.setCell ⟨gb, i * 36 + 2, none⟩ (.int .u64 x2)) gp 24 [.int .u64 p0, .int .u64 p1]) := Lib.hid (P0.out.grown hO (fun e => P0.out.ne_ HB_.out (by decide) (by injection e)))
            have KE : Hid (Blk (wr.setCell ⟨gb, i * 36 + 2, none⟩ (.int .u64 x2)) gk 55 (ocells k amt c id)) := Lib.hid (K0.out.grown hO (fun e => K0.out.ne_ HB_.out (by decide) (by injection e)))
            have YE : Hid (Blk (wr.setCell ⟨gb, i * 36 + 2, none⟩ (.int .u64 x2)) gy 31 [.int .u32 SS.ch, .int .u64 SS.rd, .int .u64 SS.m0, .int .u64 SS.m1, .int .u64 SS.t0, .int .u64 SS.t1, .slice (some ⟨gb, 0, none⟩) nN cN]) := Lib.hid (Y0.out.grown hO (fun e => Y0.out.ne_ HB_.out (by decide) (by injection e)))
            have VE : Hid (Blk (wr.setCell ⟨gb, i * 36 + 2, none⟩ (.int .u64 x2)) gv 27 [.int .u32 SS.ch, .int .u64 SS.rd, .int .u64 SS.m0, .int .u64 SS.m1, .int .u64 SS.t0, .int .u64 SS.t1, .slice a2 n2 c2]) := Lib.hid (V0.out.grown hO (fun e => V0.out.ne_ HB_.out (by decide) (by injection e)))
            have XE : Hid (StAt (wr.setCell ⟨gb, i * 36 + 2, none⟩ (.int .u64 x2)) w.heap.size gx s a1 n c1) := Lib.hid ⟨X0.out.blk.grown hO (fun e => X0.out.blk.ne_ HB_.out (by decide) (by injection e)), X0.out.own.kept hO (.inr (fun e => by have h1 := HBN.out.2 gb e; have h2 := HGB.out; omega)), X0.out.ok, X0.out.len⟩
            have ZE : Hid ((wr.setCell ⟨gb, i * 36 + 2, none⟩ (.int .u64 x2)).ownsRow w.heap.size 53 36 (.slice a2 n2 c2) n2 (cflat SS.cs)) := Lib.hid (Z0.out.kept hO (.inr (fun e => own_ne Z0.out HB_.out (by decide) e.symm)))
            clear hO HST HB_ HGB B0 S0 P0 K0 X0 Y0 Z0 V0
            generalize (wr.setCell ⟨gb, i * 36 + 2, none⟩ (.int .u64 x2)) = W at DE BE SE PE KE XE YE ZE VE ⊢
            go_wp2
            go_roundw
            case rel => exact ⟨i + 1, by omega, by go_num, DE, BE, SE, PE, KE, XE, YE, ZE, VE⟩
            case measure => simp [intOf] <;> omega
          · obtain rfl : nN = i := by omega
            have D1 := D0.out
            rw [show flp (SS.cs.map Cnd.fl) nN = (SS.cs.map Cnd.fl).map Cnd.fl from F2L.out ▸ flp_all (SS.cs.map Cnd.fl)] at D1
            clear D0
            rw [map_map HSO.out] at D1
            have DH : Hid (YB BN aN nN SS.cs sp wr) := Lib.hid D1
            clear D1
            have BH := B0
            have SH := S0
            have PH := P0
            have KH := K0
            have XH := X0
            have YH := Y0
            have ZH := Z0
            have VH := V0
            clear B0 S0 P0 K0 X0 Y0 Z0 V0
            go_upto_region 17 with fail
            have hBz : Below wr.heap.size wr wr.drew := below_drewN (Below.refl _ _) 1
            have BX0 : Hid (Below w.heap.size w wr.drew) := Lib.hid (BH.out.trans (hBz.mono BH.out.size))
            have SX0 : Hid (Blk wr.drew gs 27 [.int .u32 s.ch, .int .u64 s.rd, .int .u64 s.m0, .int .u64 s.m1, .int .u64 s.t0, .int .u64 s.t1, .slice a n cap]) := Lib.hid (SH.out.below hBz SH.out.lt)
            have PX0 : Hid (Blk wr.drew gp 24 [.int .u64 p0, .int .u64 p1]) := Lib.hid (PH.out.below hBz PH.out.lt)
            have KX0 : Hid (Blk wr.drew gk 55 (ocells k amt c id)) := Lib.hid (KH.out.below hBz KH.out.lt)
            have YX0 : Hid (Blk wr.drew gy 31 [.int .u32 SS.ch, .int .u64 SS.rd, .int .u64 SS.m0, .int .u64 SS.m1, .int .u64 SS.t0, .int .u64 SS.t1, .slice aN nN cN]) := Lib.hid (YH.out.below hBz YH.out.lt)
            have VX0 : Hid (Blk wr.drew gv 27 [.int .u32 SS.ch, .int .u64 SS.rd, .int .u64 SS.m0, .int .u64 SS.m1, .int .u64 SS.t0, .int .u64 SS.t1, .slice a2 n2 c2]) := Lib.hid (VH.out.below hBz VH.out.lt)
            have XX0 : Hid (StAt wr.drew w.heap.size gx s a1 n c1) := Lib.hid (XH.out.keep hBz)
            have ZX0 : Hid (wr.drew.ownsRow w.heap.size 53 36 (.slice a2 n2 c2) n2 (cflat SS.cs)) := Lib.hid (own_keep ZH.out hBz)
            have DX0 : Hid (YB BN aN nN (SS.cs) sp wr.drew) := Lib.hid (DH.out.keep hBz)
            clear hBz
            refine wp_region_held_drew (S := fun w' => Blk w' gy 31 [.int .u32 SS.ch, .int .u64 SS.rd, .int .u64 SS.m0, .int .u64 SS.m1, .int .u64 SS.t0, .int .u64 SS.t1, .slice aN nN cN] ∧ Blk w' gv 27 [.int .u32 SS.ch, .int .u64 SS.rd, .int .u64 SS.m0, .int .u64 SS.m1, .int .u64 SS.t0, .int .u64 SS.t1, .slice a2 n2 c2]) (by kernel_rfl) (⟨YX0.out, VX0.out⟩) (fun hHeld => ?_)
            generalize wr.drew = X0 at hHeld BX0 SX0 PX0 KX0 YX0 VX0 XX0 ZX0 DX0 ⊢
            refine wpAnyH_ready (rs := [0]) (by kernel_rfl) (by simp) ?_
            refine AllReadyH.cons rfl (fun K hK => ?_) AllReadyH.nil
            refine step_call rfl 9 #[] #[] rfl #[] (by simp) (by go_simp) (awake_any X0) ?_
            rintro e X1 ⟨rfl, hB⟩
            have BX1 : Hid (Below w.heap.size w X1) := Lib.hid (BX0.out.trans (hB.mono BX0.out.size))
            have SX1 : Hid (Blk X1 gs 27 [.int .u32 s.ch, .int .u64 s.rd, .int .u64 s.m0, .int .u64 s.m1, .int .u64 s.t0, .int .u64 s.t1, .slice a n cap]) := Lib.hid (SX0.out.below hB SX0.out.lt)
            have PX1 : Hid (Blk X1 gp 24 [.int .u64 p0, .int .u64 p1]) := Lib.hid (PX0.out.below hB PX0.out.lt)
            have KX1 : Hid (Blk X1 gk 55 (ocells k amt c id)) := Lib.hid (KX0.out.below hB KX0.out.lt)
            have YX1 : Hid (Blk X1 gy 31 [.int .u32 SS.ch, .int .u64 SS.rd, .int .u64 SS.m0, .int .u64 SS.m1, .int .u64 SS.t0, .int .u64 SS.t1, .slice aN nN cN]) := Lib.hid (YX0.out.below hB YX0.out.lt)
            have VX1 : Hid (Blk X1 gv 27 [.int .u32 SS.ch, .int .u64 SS.rd, .int .u64 SS.m0, .int .u64 SS.m1, .int .u64 SS.t0, .int .u64 SS.t1, .slice a2 n2 c2]) := Lib.hid (VX0.out.below hB VX0.out.lt)
            have XX1 : Hid (StAt X1 w.heap.size gx s a1 n c1) := Lib.hid (XX0.out.keep hB)
            have ZX1 : Hid (X1.ownsRow w.heap.size 53 36 (.slice a2 n2 c2) n2 (cflat SS.cs)) := Lib.hid (own_keep ZX0.out hB)
            have DX1 : Hid (YB BN aN nN (SS.cs) sp X1) := Lib.hid (DX0.out.keep hB)
            clear BX0 SX0 PX0 KX0 YX0 VX0 XX0 ZX0 DX0 hB
            refine ⟨_, rfl, hK.out _ _ (⟨YX1.out, VX1.out⟩) (fun hHeld => ?_)⟩
            clear hK K
            show wpAnyH _ _ _ _ _ _ _ (Act.put _ (some 77) _) _
            simp only [Act.put, List.setIfInBounds_toArray, List.set_cons_zero, List.set_cons_succ]
            refine wpAnyH_take (i := 1) (v := .bool true) rfl (by kernel_rfl) (by kernel_rfl) (by kernel_rfl) (fun _ _ _ h => h) (Or.inl ⟨by rfl, fun w _ => by rfl⟩) hHeld ?_
            show wpAnyH _ _ _ _ _ _ _ (Act.put _ (some 78) _) _
            simp only [Act.put, List.setIfInBounds_toArray, List.set_cons_zero, List.set_cons_succ]
            refine wpAnyH_take (i := 2) (v := .bool true) rfl (by kernel_rfl) (by kernel_rfl) (by kernel_rfl) (fun _ _ _ h => h) (Or.inl ⟨by rfl, fun w _ => by rfl⟩) hHeld ?_
            show wpAnyH _ _ _ _ _ _ _ (Act.put _ (some 79) _) _
            simp only [Act.put, List.setIfInBounds_toArray, List.set_cons_zero, List.set_cons_succ]
            refine wpAnyH_take (i := 3) (v := .bool true) rfl (by kernel_rfl) (by kernel_rfl) (by kernel_rfl) (fun _ _ _ h => h) (Or.inl ⟨by rfl, by intro w' h; go_simp⟩) hHeld ?_
            show wpAnyH _ _ _ _ _ _ _ (Act.put _ (some 80) _) _
            simp only [Act.put, List.setIfInBounds_toArray, List.set_cons_zero, List.set_cons_succ]
            refine wpAnyH_take (i := 4) (v := .bool true) rfl (by kernel_rfl) (by kernel_rfl) (by kernel_rfl) (fun _ _ _ h => h) (Or.inl ⟨by rfl, fun w _ => by rfl⟩) hHeld ?_
            show wpAnyH _ _ _ _ _ _ _ (Act.put _ (some 81) _) _
            simp only [Act.put, List.setIfInBounds_toArray, List.set_cons_zero, List.set_cons_succ]
            refine wpAnyH_take (i := 5) (v := .int .i64 E) rfl (by kernel_rfl) (by kernel_rfl) (by kernel_rfl) (fun _ _ _ h => h) (Or.inl ⟨by rfl, fun w _ => by rfl⟩) hHeld ?_
            show wpAnyH _ _ _ _ _ _ _ (Act.put _ (some 82) _) _
            simp only [Act.put, List.setIfInBounds_toArray, List.set_cons_zero, List.set_cons_succ]
            refine wpAnyH_take (i := 6) (v := .int .i64 E) rfl (by kernel_rfl) (by kernel_rfl) (by kernel_rfl) (fun _ _ _ h => h) (Or.inl ⟨by rfl, fun w _ => by rfl⟩) hHeld ?_
            show wpAnyH _ _ _ _ _ _ _ (Act.put _ (some 83) _) _
            simp only [Act.put, List.setIfInBounds_toArray, List.set_cons_zero, List.set_cons_succ]
            refine wpAnyH_take (i := 7) (v := .bool true) rfl (by kernel_rfl) (by kernel_rfl) (by kernel_rfl) (fun _ _ _ h => h) (Or.inl ⟨by rfl, by intro w' h; go_simp⟩) hHeld ?_
            show wpAnyH _ _ _ _ _ _ _ (Act.put _ (some 84) _) _
            simp only [Act.put, List.setIfInBounds_toArray, List.set_cons_zero, List.set_cons_succ]
            refine wpAnyH_take (i := 8) (v := .bool true) rfl (by kernel_rfl) (by kernel_rfl) (by kernel_rfl) (fun _ _ _ h => h) (Or.inl ⟨by rfl, by intro w' h; go_simp⟩) hHeld ?_
            show wpAnyH _ _ _ _ _ _ _ (Act.put _ (some 85) _) _
            simp only [Act.put, List.setIfInBounds_toArray, List.set_cons_zero, List.set_cons_succ]
            refine wpAnyH_take (i := 9) (v := .bool true) rfl (by kernel_rfl) (by kernel_rfl) (by kernel_rfl) (fun _ _ _ h => h) (Or.inl ⟨by rfl, fun w _ => by rfl⟩) hHeld ?_
            show wpAnyH _ _ _ _ _ _ _ (Act.put _ (some 86) _) _
            simp only [Act.put, List.setIfInBounds_toArray, List.set_cons_zero, List.set_cons_succ]
            refine wpAnyH_take (i := 10) (v := .agg #[.int .u32 SS.ch, .int .u64 SS.rd, .int .u64 SS.m0, .int .u64 SS.m1, .int .u64 SS.t0, .int .u64 SS.t1, .slice aN nN cN]) rfl (by kernel_rfl) (by kernel_rfl) (by kernel_rfl) (fun _ _ _ h => h) (Or.inl ⟨by rfl, by intro w' h; have q0 := Blk.cell h.1 0; have q1 := Blk.cell h.1 1; have q2 := Blk.cell h.1 2; have q3 := Blk.cell h.1 3; have q4 := Blk.cell h.1 4; have q5 := Blk.cell h.1 5; have q6 := Blk.cell h.1 6; simp only [List.getElem?_cons_zero, List.getElem?_cons_succ] at q0 q1 q2 q3 q4 q5 q6; go_simp⟩) hHeld ?_
            show wpAnyH _ _ _ _ _ _ _ (Act.put _ (some 87) _) _
            simp only [Act.put, List.setIfInBounds_toArray, List.set_cons_zero, List.set_cons_succ]
            refine wpAnyH_take (i := 12) (v := .agg #[.int .u32 SS.ch, .int .u64 SS.rd, .int .u64 SS.m0, .int .u64 SS.m1, .int .u64 SS.t0, .int .u64 SS.t1, .slice a2 n2 c2]) rfl (by kernel_rfl) (by kernel_rfl) (by kernel_rfl) (fun _ _ _ h => h) (Or.inl ⟨by rfl, by intro w' h; have q0 := Blk.cell h.2 0; have q1 := Blk.cell h.2 1; have q2 := Blk.cell h.2 2; have q3 := Blk.cell h.2 3; have q4 := Blk.cell h.2 4; have q5 := Blk.cell h.2 5; have q6 := Blk.cell h.2 6; simp only [List.getElem?_cons_zero, List.getElem?_cons_succ] at q0 q1 q2 q3 q4 q5 q6; go_simp⟩) hHeld ?_
            show wpAnyH _ _ _ _ _ _ _ (Act.put _ (some 89) _) _
            simp only [Act.put, List.setIfInBounds_toArray, List.set_cons_zero, List.set_cons_succ]
            refine wpAnyH_ready (rs := [11]) (by kernel_rfl) (by simp) ?_
            refine AllReadyH.cons rfl (fun K hK => ?_) AllReadyH.nil
            refine step_call rfl 27 #[.tmp 87] #[31] rfl #[.agg #[.int .u32 SS.ch, .int .u64 SS.rd, .int .u64 SS.m0, .int .u64 SS.m1, .int .u64 SS.t0, .int .u64 SS.t1, .slice aN nN cN]] (by simp [Act.eval]) (by go_simp) (from_any SS.ch SS.rd SS.m0 SS.m1 SS.t0 SS.t1 aN nN cN SS.cs X1 (DX1.out.row HLEN.out HSO.out) HLEN.out (by have := HSL.out; have := HLEN.out; omega)) ?_
            rintro e X2 ⟨a6, c6, rfl, hown, hB⟩
            have BX2 : Hid (Below w.heap.size w X2) := Lib.hid (BX1.out.trans (hB.mono BX1.out.size))
            have SX2 : Hid (Blk X2 gs 27 [.int .u32 s.ch, .int .u64 s.rd, .int .u64 s.m0, .int .u64 s.m1, .int .u64 s.t0, .int .u64 s.t1, .slice a n cap]) := Lib.hid (SX1.out.below hB SX1.out.lt)
            have PX2 : Hid (Blk X2 gp 24 [.int .u64 p0, .int .u64 p1]) := Lib.hid (PX1.out.below hB PX1.out.lt)
            have KX2 : Hid (Blk X2 gk 55 (ocells k amt c id)) := Lib.hid (KX1.out.below hB KX1.out.lt)
            have YX2 : Hid (Blk X2 gy 31 [.int .u32 SS.ch, .int .u64 SS.rd, .int .u64 SS.m0, .int .u64 SS.m1, .int .u64 SS.t0, .int .u64 SS.t1, .slice aN nN cN]) := Lib.hid (YX1.out.below hB YX1.out.lt)
            have VX2 : Hid (Blk X2 gv 27 [.int .u32 SS.ch, .int .u64 SS.rd, .int .u64 SS.m0, .int .u64 SS.m1, .int .u64 SS.t0, .int .u64 SS.t1, .slice a2 n2 c2]) := Lib.hid (VX1.out.below hB VX1.out.lt)
            have XX2 : Hid (StAt X2 w.heap.size gx s a1 n c1) := Lib.hid (XX1.out.keep hB)
            have ZX2 : Hid (X2.ownsRow w.heap.size 53 36 (.slice a2 n2 c2) n2 (cflat SS.cs)) := Lib.hid (own_keep ZX1.out hB)
            have DX2 : Hid (YB BN aN nN (SS.cs) sp X2) := Lib.hid (DX1.out.keep hB)
            have TX2 : Hid (CRow X2 a6 SS.cs) := Lib.hid (CRow.of_own (by rw [HLEN.out]; exact hown) HSO.out)
            clear BX1 SX1 PX1 KX1 YX1 VX1 XX1 ZX1 DX1 hown hB
            refine ⟨_, rfl, hK.out _ _ (⟨YX2.out, VX2.out⟩) (fun hHeld => ?_)⟩
            clear hK K
            show wpAnyH _ _ _ _ _ _ _ (Act.put _ (some 88) _) _
            simp only [Act.put, List.setIfInBounds_toArray, List.set_cons_zero, List.set_cons_succ]
            refine wpAnyH_ready (rs := [13]) (by kernel_rfl) (by simp) ?_
            refine AllReadyH.cons rfl (fun K hK => ?_) AllReadyH.nil
            refine step_call rfl 20 #[.tmp 88, .tmp 89] #[27, 27] rfl #[.agg #[.int .u32 SS.ch, .int .u64 SS.rd, .int .u64 SS.m0, .int .u64 SS.m1, .int .u64 SS.t0, .int .u64 SS.t1, .slice a6 nN c6], .agg #[.int .u32 SS.ch, .int .u64 SS.rd, .int .u64 SS.m0, .int .u64 SS.m1, .int .u64 SS.t0, .int .u64 SS.t1, .slice a2 n2 c2]] (by simp [Act.eval]) (by go_simp) ((show Calls Try.prog 20 #[.agg #[.int .u32 SS.ch, .int .u64 SS.rd, .int .u64 SS.m0, .int .u64 SS.m1, .int .u64 SS.t0, .int .u64 SS.t1, .slice a6 nN c6], .agg #[.int .u32 SS.ch, .int .u64 SS.rd, .int .u64 SS.m0, .int .u64 SS.m1, .int .u64 SS.t0, .int .u64 SS.t1, .slice a2 n2 c2]] X2 (fun e w2 => e = .returned (.bool true) ∧ Below X2.heap.size X2 w2) from (rsame_any SS.ch SS.rd SS.m0 SS.m1 SS.t0 SS.t1 a6 nN c6 SS.cs SS.ch SS.rd SS.m0 SS.m1 SS.t0 SS.t1 a2 n2 c2 SS.cs X2 TX2.out HLEN.out (by have := HSL.out; have := HLEN.out; omega) (CRow.of_own (by rw [HLEN2.out]; exact ZX2.out) HSO.out) HLEN2.out (by have := HSL.out; have := HLEN2.out; omega)).mono (fun e w2 ⟨h1, h2⟩ => ⟨h1.trans (by simp), h2⟩))) ?_
            rintro e X3 ⟨rfl, hB⟩
            have BX3 : Hid (Below w.heap.size w X3) := Lib.hid (BX2.out.trans (hB.mono BX2.out.size))
            have SX3 : Hid (Blk X3 gs 27 [.int .u32 s.ch, .int .u64 s.rd, .int .u64 s.m0, .int .u64 s.m1, .int .u64 s.t0, .int .u64 s.t1, .slice a n cap]) := Lib.hid (SX2.out.below hB SX2.out.lt)
            have PX3 : Hid (Blk X3 gp 24 [.int .u64 p0, .int .u64 p1]) := Lib.hid (PX2.out.below hB PX2.out.lt)
            have KX3 : Hid (Blk X3 gk 55 (ocells k amt c id)) := Lib.hid (KX2.out.below hB KX2.out.lt)
            have YX3 : Hid (Blk X3 gy 31 [.int .u32 SS.ch, .int .u64 SS.rd, .int .u64 SS.m0, .int .u64 SS.m1, .int .u64 SS.t0, .int .u64 SS.t1, .slice aN nN cN]) := Lib.hid (YX2.out.below hB YX2.out.lt)
            have VX3 : Hid (Blk X3 gv 27 [.int .u32 SS.ch, .int .u64 SS.rd, .int .u64 SS.m0, .int .u64 SS.m1, .int .u64 SS.t0, .int .u64 SS.t1, .slice a2 n2 c2]) := Lib.hid (VX2.out.below hB VX2.out.lt)
            have XX3 : Hid (StAt X3 w.heap.size gx s a1 n c1) := Lib.hid (XX2.out.keep hB)
            have ZX3 : Hid (X3.ownsRow w.heap.size 53 36 (.slice a2 n2 c2) n2 (cflat SS.cs)) := Lib.hid (own_keep ZX2.out hB)
            have DX3 : Hid (YB BN aN nN (SS.cs) sp X3) := Lib.hid (DX2.out.keep hB)
            clear BX2 SX2 PX2 KX2 YX2 VX2 XX2 ZX2 DX2 hB TX2
            refine ⟨_, rfl, hK.out _ _ (⟨YX3.out, VX3.out⟩) (fun hHeld => ?_)⟩
            clear hK K
            show wpAnyH _ _ _ _ _ _ _ (Act.put _ (some 90) _) _
            simp only [Act.put, List.setIfInBounds_toArray, List.set_cons_zero, List.set_cons_succ]
            refine wpAnyH_take (i := 14) (v := .bool true) rfl (by kernel_rfl) (by kernel_rfl) (by kernel_rfl) (fun _ _ _ h => h) (Or.inl ⟨by rfl, by intro w' h; go_simp⟩) hHeld ?_
            show wpAnyH _ _ _ _ _ _ _ (Act.put _ (some 91) _) _
            simp only [Act.put, List.setIfInBounds_toArray, List.set_cons_zero, List.set_cons_succ]
            refine wpAnyH_take (i := 15) (v := .bool true) rfl (by kernel_rfl) (by kernel_rfl) (by kernel_rfl) (fun _ _ _ h => h) (Or.inl ⟨by rfl, fun w _ => by rfl⟩) hHeld ?_
            show wpAnyH _ _ _ _ _ _ _ (Act.put _ (some 8) _) _
            simp only [Act.put, List.setIfInBounds_toArray, List.set_cons_zero, List.set_cons_succ]
            refine wpAnyH_done (by kernel_rfl) ?_ _
            go_wp2
            go_ret
            exact ⟨rfl, BX3.out⟩
set_option maxRecDepth 100000 in
theorem lifted (os : Os) (started : os.Started) (H : Type) (enc : TypeId × Value → H) :
    ReturnsInHanded {} Try.checked os 4 .any (Rows.pactNextSpec.pre6 enc Try.prog Try.f4 Rows.pactNextRow.domain false) (Rows.pactNextSpec.post enc Try.prog Try.f4 false true false false) := by
  refine returnsInHanded_of_change (C := Try.checked) own started (by kernel_rfl) Try.func4
    (ChangeSpec.witness6 (enc := enc) (C := Try.checked) false ⟨#[], #[.agg #[.int .u32 0, .int .u64 0, .int .u64 0, .int .u64 0, .int .u64 0, .int .u64 0, .slice none 0 0], .agg #[.int .u64 0, .int .u64 0], .int .i64 0, .agg #[.int .i64 0, .int .u64 0, .int .u64 0, .int .i64 0, .int .u64 0, .int .u8 0, .int .u8 0, .int .u8 0, .int .u8 0, .int .u8 0, .int .u8 0, .int .u8 0, .int .u8 0, .int .u8 0, .int .u8 0, .int .u8 0, .int .u8 0, .int .u8 0, .int .u8 0, .int .u8 0, .int .u8 0, .int .u8 0, .int .u8 0, .int .u8 0, .int .u8 0, .int .u8 0, .int .u8 0, .int .u8 0, .int .u8 0, .int .u8 0, .int .u8 0, .int .u8 0, .int .u8 0, .int .u8 0, .int .u8 0, .int .u8 0, .int .u8 0, .int .u64 0, .int .u64 0]], []⟩ 8 (by kernel_rfl) (by kernel_rfl) (by kernel_rfl) (by kernel_rfl)) ?_
  intro W base args ds gs before hval0 hW hcnd _
  have hval : ∀ (j : Nat) t v, Try.f4.params[j]? = some t → args[j]? = some v → Value.okWide Try.prog W .any base t v := hval0
  have hW' := hW
  obtain ⟨p, q, hA0, hV, rfl, hfz, hnd⟩ := hW
  have hA : DataW.TrodAll enc Try.prog W 0 (fun _ => true) true Try.f4.params.toList args.toList ds p := hA0
  rw [Try.params4] at hA hval
  obtain ⟨v0, vs0, dd0, ds0, p0, q0, hargs, rfl, rfl, h0, r0⟩ := trodAll_cons hA
  obtain ⟨v1, vs1, dd1, ds1, p1, q1, rfl, rfl, rfl, h1, r1⟩ := trodAll_cons r0
  obtain ⟨v2, vs2, dd2, ds2, p2, q2, rfl, rfl, rfl, h2, r2⟩ := trodAll_cons r1
  obtain ⟨v3, vs3, dd3, ds3, p3, q3, rfl, rfl, rfl, h3, r3⟩ := trodAll_cons r2
  obtain ⟨rfl, rfl, rfl⟩ := trodAll_nil r3
  obtain rfl : args = #[v0, v1, v2, v3] := by cases args; simp_all
  obtain ⟨rfl, rfl⟩ := trodVars_none hV
  have kk0 := h0
  have lt0 : ∀ x ∈ p0, x.block < W.heap.size := by obtain ⟨m, hm⟩ := kk0; exact DataW.trod_lt m _ _ _ hm
  obtain ⟨s0, A0, n0, cap0, rfl, hC0, hl0, hO0, hm0⟩ := openState (hval 0 27 v0 rfl rfl) h0
  have kk1 := h1
  have lt1 : ∀ x ∈ p1, x.block < W.heap.size := by obtain ⟨m, hm⟩ := kk1; exact DataW.trod_lt m _ _ _ hm
  obtain ⟨x1, y1, rfl, hx1, hy1⟩ := openPut (hval 1 24 v1 rfl rfl) h1
  obtain ⟨a2, rfl, rfl, rfl, w2⟩ := open_int Try.underlying3 (hval 2 3 v2 rfl rfl) h2
  have kk3 := h3
  have lt3 : ∀ x ∈ p3, x.block < W.heap.size := by obtain ⟨m, hm⟩ := kk3; exact DataW.trod_lt m _ _ _ hm
  obtain ⟨k3, am3, c3, id3, rfl, hc3, ham3, hid3⟩ := openOp (hval 3 55 v3 rfl rfl) h3
  clear hA0 hval0
  refine Calls.mono (R := (fun e W1 => e = .returned (.bool true) ∧ Below W.heap.size W W1)) ?_ fun e W1 ⟨he, bel⟩ => ?_
  · skip
    exact walk s0 A0 n0 cap0 x1 y1 a2 k3 am3 id3 c3 W hC0 hl0 hO0 hm0 hx1 hy1 hc3 ham3 hid3
  subst he
  exact ⟨_, rfl, _, _, _, [], _, [], hW', trodAll_mk1 (shut_bool Try.underlying4 _), (trodAll_cons_mk (Below.trod laidOut (by kernel_rfl) (of_decide_eq_true (by kernel_rfl)) kk0 bel lt0) (trodAll_cons_mk (Below.trod laidOut (by kernel_rfl) (of_decide_eq_true (by kernel_rfl)) kk1 bel lt1) (trodAll_cons_mk (shut_int Try.underlying3 w2) (trodAll_cons_mk (Below.trod laidOut (by kernel_rfl) (of_decide_eq_true (by kernel_rfl)) kk3 bel lt3) trodAll_mk0)))), rfl, bel.frame _, fun h => by cases h⟩

theorem proved : Rows.PactNextSaid :=
  OpenClaim.holds_of_wide 4 Try.f4 rfl rfl rfl rfl rfl rfl rfl ⟨rfl, rfl, rfl, rfl, rfl⟩ rfl rfl rfl rfl rfl (by kernel_rfl) Try.func4 (by kernel_rfl)
    (of_decide_eq_true (by kernel_rfl)) (by unfold Func.isWrapper; first | (rw [if_pos (by decide +kernel)]; kernel_rfl) | (rw [if_neg (by decide +kernel)]; exact ⟨rfl, rfl⟩))
    (fun os started H enc _ => lifted os started H enc)
#print axioms proved
end Go.Proofs.Ytkiifjkcpangfaa.pactNext
