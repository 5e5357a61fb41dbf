/-
  tollhouselaw12.PactTurns returns true for every input: turns go to and fro; whatever is wanted, the next round is one more, of the same channel, and the wrong side gets none; what is handed in isn't written.
-/
import Derived.Test.YtkiifjkcpangfaaPacX
namespace Go.Proofs.Ytkiifjkcpangfaa.pactTurns
open Go.ChangeShapes Go.WideShapes Go.ChangeAt Go.RowKit Go.Deep
set_option linter.unusedVariables false

def wr (x : Int) : Int := IntKind.u64.wrap x
theorem wr_eq (x : Int) : wr x = x % 18446744073709551616 := by unfold wr; simp [IntKind.wrap, IntKind.signed, IntKind.bits]
theorem wr_word (x : Int) : Word (wr x) := by rw [wr_eq]; unfold Word; omega
theorem turn_1 (r : Int) (hr : Word r) : turnF (wr (r + 2)) = 1 - turnF (wr (r + 1)) ∧ turnF r = 1 - turnF (wr (r + 1)) := by
  rw [wr_eq, wr_eq]; unfold turnF Word at *; omega
theorem other_any (T : Int) (hT : T = 0 ∨ T = 1) (W : World) : Calls Try.prog 31 #[.int .i64 T] W fun e w' => e = .returned (.int .i64 (1 - T)) ∧ W = w' := by
  rcases hT with rfl | rfl
  · exact other0 W
  · exact other1 W
theorem same_ch {s : St} {p0 p1 side k amt : Int} {c : Cnd} {id : Int} (h : nextE s p0 p1 side k amt c id = 0) : (nextS s p0 p1 side k amt c id).rd = wr (s.rd + 1) ∧ (nextS s p0 p1 side k amt c id).ch = s.ch ∨ ¬ Word s.rd := by
  obtain ⟨h1, h2, h3, h4, h5, h6⟩ := nextE_zero h
  by_cases hw : Word s.rd
  · left
    have hr := (sound_parts h1).1
    rw [h5, wr_eq, show (s.rd + 1) % 18446744073709551616 = s.rd + 1 by have := hw.1; omega]
    unfold doS St.pay St.tak
    repeat' split
    all_goals exact ⟨rfl, rfl⟩
  · exact .inr hw
theorem wrong_side {s : St} {p0 p1 T k amt k' amt' : Int} {c : Cnd} {id : Int} (hw : Word s.rd) (hT : T = turnF (wr (s.rd + 1))) :
    nextE s p0 p1 (1 - T) k amt c id ≠ 0 ∧ (nextE s p0 p1 T k amt c id = 0 → nextE s p0 p1 (1 - T) k amt c id = 26) := by
  have key : ∀ h1 : soundE s p0 p1 = 0, T = turnF (s.rd + 1) := fun h1 => by
    have hr := (sound_parts h1).1
    rw [hT, wr_eq, show (s.rd + 1) % 18446744073709551616 = s.rd + 1 by have := hw.1; omega]
  constructor
  · intro h
    obtain ⟨h1, h2, h3, _⟩ := nextE_zero h
    have := key h1
    unfold turnF at this h3
    omega
  · intro h
    obtain ⟨h1, h2, h3, _⟩ := nextE_zero h
    exact nextE_3 h1 h2 (by have := key h1; unfold turnF at this ⊢; omega)

set_option maxRecDepth 100000 in
set_option maxHeartbeats 4000000 in
theorem walk (s : St) (a : Option Addr) (n cap : Nat) (p0 p1 k amt id : Int) (c : Cnd) (w : World) (hC : CRow w a s.cs) (hl : s.cs.length = n) (hO : s.Ok) (hm : n ≤ maxLen) (hp0 : Word p0) (hp1 : Word p1) (hok : c.Ok) (hamt : Word amt) (hid : Word id) :
    Calls Try.prog 7 #[.agg #[.int .u32 s.ch, .int .u64 s.rd, .int .u64 s.m0, .int .u64 s.m1, .int .u64 s.t0, .int .u64 s.t1, .slice a n cap], .agg #[.int .u64 p0, .int .u64 p1], .agg (ocells k amt c id).toArray] w fun e w' => e = .returned (.bool true) ∧ Below w.heap.size w w' := by
  have HOK := Lib.hid hok
  have HC := Lib.hid hC
  have HL := Lib.hid hl
  have HO := Lib.hid hO
  have BA : Hid (Below w.heap.size w (((w.alloc (.cells #[.int .u32 s.ch, .int .u64 s.rd, .int .u64 s.m0, .int .u64 s.m1, .int .u64 s.t0, .int .u64 s.t1, .slice a n cap] 27)).alloc (.cells #[.int .u64 p0, .int .u64 p1] 24)).alloc (.cells (ocells k amt c id).toArray 55))) := Lib.hid ((((Below.refl _ _).alloc (Nat.le_refl _) _).alloc (by simp) _).alloc (by simp; omega) _)
  have SA : Hid (Blk (((w.alloc (.cells #[.int .u32 s.ch, .int .u64 s.rd, .int .u64 s.m0, .int .u64 s.m1, .int .u64 s.t0, .int .u64 s.t1, .slice a n cap] 27)).alloc (.cells #[.int .u64 p0, .int .u64 p1] 24)).alloc (.cells (ocells k amt c id).toArray 55)) w.heap.size 27 [.int .u32 s.ch, .int .u64 s.rd, .int .u64 s.m0, .int .u64 s.m1, .int .u64 s.t0, .int .u64 s.t1, .slice a n cap]) := Lib.hid (((Blk.mk_ rfl).alloc _).alloc _)
  have PA : Hid (Blk (((w.alloc (.cells #[.int .u32 s.ch, .int .u64 s.rd, .int .u64 s.m0, .int .u64 s.m1, .int .u64 s.t0, .int .u64 s.t1, .slice a n cap] 27)).alloc (.cells #[.int .u64 p0, .int .u64 p1] 24)).alloc (.cells (ocells k amt c id).toArray 55)) (w.heap.size + 1) 24 [.int .u64 p0, .int .u64 p1]) := Lib.hid ((Blk.mk_ (by simp)).alloc _)
  have KA : Hid (Blk (((w.alloc (.cells #[.int .u32 s.ch, .int .u64 s.rd, .int .u64 s.m0, .int .u64 s.m1, .int .u64 s.t0, .int .u64 s.t1, .slice a n cap] 27)).alloc (.cells #[.int .u64 p0, .int .u64 p1] 24)).alloc (.cells (ocells k amt c id).toArray 55)) (w.heap.size + 1 + 1) 55 (ocells k amt c id)) := Lib.hid (Blk.mk_ (by simp))
  clear hok hC hl hO
  go_enter Try.func7, Try.ntmps7
  go_upto_region 1 with fail
  generalize (((w.alloc (.cells #[.int .u32 s.ch, .int .u64 s.rd, .int .u64 s.m0, .int .u64 s.m1, .int .u64 s.t0, .int .u64 s.t1, .slice a n cap] 27)).alloc (.cells #[.int .u64 p0, .int .u64 p1] 24)).alloc (.cells (ocells k amt c id).toArray 55)) = A at BA SA PA KA ⊢
  obtain ⟨gk, hgk⟩ : ∃ q, w.heap.size + 1 + 1 = q := ⟨_, rfl⟩
  obtain ⟨gp, hgp⟩ : ∃ q, w.heap.size + 1 = q := ⟨_, rfl⟩
  obtain ⟨gs, hgs⟩ : ∃ q, w.heap.size = q := ⟨_, rfl⟩
  have HG : Hid (w.heap.size ≤ gs ∧ gs < gp ∧ gp < gk) := Lib.hid ⟨by omega, by omega, by omega⟩
  rw [hgk] at KA ⊢
  rw [hgp] at PA ⊢
  rw [hgs] at SA ⊢
  clear hgk hgp hgs
  have s0 := SA.out.cell 0
  have s1 := SA.out.cell 1
  have s2 := SA.out.cell 2
  have s3 := SA.out.cell 3
  have s4 := SA.out.cell 4
  have s5 := SA.out.cell 5
  have s6 := SA.out.cell 6
  simp only [List.getElem?_cons_zero, List.getElem?_cons_succ] at s0 s1 s2 s3 s4 s5 s6
  by_cases hn : n ≤ 40
  case neg =>
    have b1 : decide ((40 : Int) < (n : Int)) = true := decide_eq_true (by omega)
    have b2 : (n : Int) > 40 := by omega
    go_wp2_with fail
    refine (awake_any A).mono ?_
    rintro e Z ⟨rfl, hB⟩
    go_wp2
    go_ret
    exact ⟨rfl, BA.out.trans (hB.mono BA.out.size)⟩
  have hn2 : ¬ (n : Int) > 40 := by omega
  go_upto_region 3 with fail
  go_wp2_with fail
  clear s0 s1 s2 s3 s4 s5 s6 hn2
  refine (to_any s.ch s.rd s.m0 s.m1 s.t0 s.t1 a n cap s.cs A (HC.out.below BA.out) HL.out (by omega)).mono ?_
  rintro e B ⟨a1, c1, rfl, hown, hB⟩
  have BB : Hid (Below w.heap.size w B) := Lib.hid (BA.out.trans (hB.mono BA.out.size))
  have PB := Lib.hid (PA.out.below hB PA.out.lt)
  have KB := Lib.hid (KA.out.below hB KA.out.lt)
  have OB := Lib.hid (own_mono hown BA.out.size)
  clear hB hown BA SA PA KA
  have HLA := heap_alloc_last B (.cells #[.int .u32 0, .int .u64 0, .int .u64 0, .int .u64 0, .int .u64 0, .int .u64 0, .slice none 0 0] 31)
  have hz1 : (Try.prog.info? 31).map (·.size) = some (#[.int .u32 s.ch, .int .u64 s.rd, .int .u64 s.m0, .int .u64 s.m1, .int .u64 s.t0, .int .u64 s.t1, .slice a1 n c1] : Array Value).size := info31
  go_upto_region 4 with (first | (refine wpList_store_row rfl 31 (.tmp 7) (.tmp 19) rfl B.heap.size #[.int .u32 s.ch, .int .u64 s.rd, .int .u64 s.m0, .int .u64 s.m1, .int .u64 s.t0, .int .u64 s.t1, .slice a1 n c1] rfl rfl 31 _ HLA hz1 rfl rfl ?_; rw [World.setRow_alloc_new]))
  clear HLA hz1
  have hB : Below B.heap.size B (B.alloc (.cells #[.int .u32 s.ch, .int .u64 s.rd, .int .u64 s.m0, .int .u64 s.m1, .int .u64 s.t0, .int .u64 s.t1, .slice a1 n c1] 31)) := (Below.refl _ _).alloc (Nat.le_refl _) _
  have BG : Hid (Below w.heap.size w (B.alloc (.cells #[.int .u32 s.ch, .int .u64 s.rd, .int .u64 s.m0, .int .u64 s.m1, .int .u64 s.t0, .int .u64 s.t1, .slice a1 n c1] 31))) := Lib.hid (BB.out.trans (hB.mono BB.out.size))
  have PG := Lib.hid (PB.out.below hB PB.out.lt)
  have KG := Lib.hid (KB.out.below hB KB.out.lt)
  have XG : Hid (StAt (B.alloc (.cells #[.int .u32 s.ch, .int .u64 s.rd, .int .u64 s.m0, .int .u64 s.m1, .int .u64 s.t0, .int .u64 s.t1, .slice a1 n c1] 31)) w.heap.size B.heap.size s a1 n c1) := Lib.hid ⟨Blk.new _ _ [.int .u32 s.ch, .int .u64 s.rd, .int .u64 s.m0, .int .u64 s.m1, .int .u64 s.t0, .int .u64 s.t1, .slice a1 n c1], own_keep OB.out hB, HC.out.ok, HL.out⟩
  have HGX : Hid (w.heap.size ≤ gk ∧ gp < gk ∧ gk < B.heap.size) := Lib.hid ⟨by have := HG.out; omega, HG.out.2.2, KB.out.lt⟩
  clear hB BB PB KB OB HG HC HL
  generalize (B.alloc (.cells #[.int .u32 s.ch, .int .u64 s.rd, .int .u64 s.m0, .int .u64 s.m1, .int .u64 s.t0, .int .u64 s.t1, .slice a1 n c1] 31)) = G at BG PG KG XG ⊢
  generalize B.heap.size = gx at HGX XG ⊢
  obtain ⟨T, hT⟩ : ∃ T, turnF (wr (s.rd + 1)) = T := ⟨_, rfl⟩
  have HTT := Lib.hid hT
  have HT1 : Hid (∀ W, Calls Try.prog 22 #[.int .u64 (IntKind.u64.wrap (s.rd + 1))] W fun e w2 => e = .returned (.int .i64 T) ∧ W = w2) := Lib.hid (fun W => by have := turn_any (wr (s.rd + 1)) W (wr_word _); rwa [hT] at this)
  have ht := turn_1 s.rd HO.out.rd
  rw [hT] at ht
  have HT2 : Hid (∀ W, Calls Try.prog 22 #[.int .u64 (IntKind.u64.wrap (s.rd + 2))] W fun e w2 => e = .returned (.int .i64 (1 - T)) ∧ W = w2) := Lib.hid (fun W => by have := turn_any (wr (s.rd + 2)) W (wr_word _); rwa [ht.1] at this)
  have HT0 : Hid (∀ W, Calls Try.prog 22 #[.int .u64 s.rd] W fun e w2 => e = .returned (.int .i64 (1 - T)) ∧ W = w2) := Lib.hid (fun W => by have := turn_any s.rd W HO.out.rd; rwa [ht.2] at this)
  have hT01 := turnF_side (wr (s.rd + 1))
  rw [hT] at hT01
  have HO1 : Hid (∀ W, Calls Try.prog 31 #[.int .i64 T] W fun e w2 => e = .returned (.int .i64 (1 - T)) ∧ W = w2) := Lib.hid (fun W => other_any T hT01 W)
  have HO2 : Hid (∀ W, Calls Try.prog 31 #[.int .i64 (1 - T)] W fun e w2 => e = .returned (.int .i64 T) ∧ W = w2) := Lib.hid (fun W => by have := other_any (1 - T) (by omega) W; rwa [show (1 : Int) - (1 - T) = T by omega] at this)
  have HNE : Hid (T ≠ 1 - T) := Lib.hid (by omega)
  clear ht hT hT01
  obtain ⟨O, hOO⟩ : ∃ O, 1 - T = O := ⟨_, rfl⟩
  rw [hOO] at HT2 HT0 HO1 HO2 HNE
  have HOO := Lib.hid hOO
  clear hOO
  have XK := XG.out.blk
  have s0 := XK.cell 0
  have s1 := XK.cell 1
  have s2 := XK.cell 2
  have s3 := XK.cell 3
  have s4 := XK.cell 4
  have s5 := XK.cell 5
  have s6 := XK.cell 6
  simp only [List.getElem?_cons_zero, List.getElem?_cons_succ] at s0 s1 s2 s3 s4 s5 s6
  go_wp2_with fail
  refine (HT1.out _).mono ?_
  rintro e w2 ⟨rfl, rfl⟩
  have b1 : (T == O) = false := by simpa using HNE.out
  have b2 : (O != O) = false := by simp
  have b3 : (T != T) = false := by simp
  go_upto_region 5 with fail
  go_quiet (first | (go_at_call 22; first | exact quiet_w (HT2.out _) | exact quiet_w (HT0.out _)) | (go_at_call 31; first | exact quiet_w (HO1.out _) | exact quiet_w (HO2.out _)))
  have k3 := KG.out.cell 3
  rw [ocells_3] at k3
  have f3 := KG.out.frozen 3
  go_upto_region 8 with fail
  clear k3 f3 XK s0 s1 s2 s3 s4 s5 s6 HT1 HT2 HT0 HO2 b1 b2 b3
  have hO1 : (G.drewN nq).grownBy ((G.drewN nq).setCell ⟨gk, 3, none⟩ (.int .i64 T)) (some gk) := only_setCell (p := ⟨gk, 3, none⟩) (only_refl _ _) (.inl rfl) _
  have hBd : Below G.heap.size G (G.drewN nq) := below_drewN (Below.refl _ _) _
  have KD := KG.out.below hBd KG.out.lt
  have BC : Hid (Below w.heap.size w ((G.drewN nq).setCell ⟨gk, 3, none⟩ (.int .i64 T))) := Lib.hid ((BG.out.trans (hBd.mono BG.out.size)).grown hO1 BG.out.size (fun q hq => by injection hq with hq; have := HGX.out; omega))
  have PC : Hid (Blk ((G.drewN nq).setCell ⟨gk, 3, none⟩ (.int .i64 T)) gp 24 [.int .u64 p0, .int .u64 p1]) := Lib.hid ((PG.out.below hBd PG.out.lt).grown hO1 (fun e => by injection e with e; have := HGX.out; omega))
  have KC : Hid (Blk ((G.drewN nq).setCell ⟨gk, 3, none⟩ (.int .i64 T)) gk 55 (ocells k amt (c.by_ T) id)) := Lib.hid (KD.set_ 3 (.int .i64 T))
  have XC : Hid (StAt ((G.drewN nq).setCell ⟨gk, 3, none⟩ (.int .i64 T)) w.heap.size gx s a1 n c1) := Lib.hid ((XG.out.keep hBd).other hO1 (fun e => by have := HGX.out; omega) KD (by decide))
  clear hO1 hBd KD BG PG KG XG
  generalize ((G.drewN nq).setCell ⟨gk, 3, none⟩ (.int .i64 T)) = C at BC PC KC XC ⊢
  have HZK : Hid ((Try.prog.info? 55).map (·.size) = some (ocells k amt (c.by_ T) id).length) := Lib.hid (by rw [ocells_length k amt (c.by_ T) id (HOK.out.by_ T)]; exact info55)
  obtain ⟨E1, hE1⟩ : ∃ q, nextE s p0 p1 T k amt (c.by_ T) id = q := ⟨_, rfl⟩
  obtain ⟨SS, hSS⟩ : ∃ q, nextS s p0 p1 T k amt (c.by_ T) id = q := ⟨_, rfl⟩
  have HNX : Hid (∀ X, CRow X a1 s.cs → Calls Try.prog 24 #[.agg #[.int .u32 s.ch, .int .u64 s.rd, .int .u64 s.m0, .int .u64 s.m1, .int .u64 s.t0, .int .u64 s.t1, .slice a1 n c1], .agg #[.int .u64 p0, .int .u64 p1], .int .i64 T, .agg (ocells k amt (c.by_ T) id).toArray] X (NextPost SS E1 X)) := Lib.hid (fun X hC => by
    have := next_any n c1 s a1 p0 p1 T k amt id (c.by_ T) X hC XC.out.nil_ XC.out.len (by omega) (HOK.out.by_ T) hamt hp0 hp1 HO.out
    rwa [hE1, hSS] at this)
  have HE1 := Lib.hid hE1
  have HSS := Lib.hid hSS
  have HSO : Hid (∀ x ∈ SS.cs, x.Ok) := Lib.hid (by
    rw [← hSS]; unfold nextS
    split
    · exact doS_cok s.nxt XC.out.ok _ _ _ _ (HOK.out.by_ T) _
    · intro x hx; cases hx)
  clear hE1 hSS
  go_cut [9, 10] (fun s7 s8 wc => ∃ gN aN nN cN, s7 = .pointer (some ⟨gN, 0, none⟩) ∧ s8 = .int .i64 E1 ∧ Hid (Below w.heap.size w wc) ∧ Hid (Blk wc gp 24 [.int .u64 p0, .int .u64 p1]) ∧ Hid (Blk wc gk 55 (ocells k amt (c.by_ T) id)) ∧ Hid (StAt wc w.heap.size gx s a1 n c1) ∧ Hid (StAt wc w.heap.size gN SS aN nN cN) ∧ Hid (w.heap.size ≤ gN ∧ gp < gN ∧ gk < gN ∧ gx < gN))
  case first =>
    have hBz : Below C.heap.size C C.drew := below_drewN (Below.refl _ _) 1
    have BX0 : Hid (Below w.heap.size w C.drew) := Lib.hid (BC.out.trans (hBz.mono BC.out.size))
    have PX0 : Hid (Blk C.drew gp 24 [.int .u64 p0, .int .u64 p1]) := Lib.hid (PC.out.below hBz PC.out.lt)
    have KX0 : Hid (Blk C.drew gk 55 (ocells k amt (c.by_ T) id)) := Lib.hid (KC.out.below hBz KC.out.lt)
    have XX0 : Hid (StAt C.drew w.heap.size gx s a1 n c1) := Lib.hid (XC.out.keep hBz)
    clear hBz
    refine wp_region_held_drew (S := fun w' => Blk w' gp 24 [.int .u64 p0, .int .u64 p1] ∧ Blk w' gk 55 (ocells k amt (c.by_ T) id) ∧ StAt w' w.heap.size gx s a1 n c1) (by kernel_rfl) (⟨PX0.out, KX0.out, XX0.out⟩) (fun hHeld => ?_)
    generalize C.drew = X0 at hHeld BX0 PX0 KX0 XX0 ⊢
    refine wpAnyH_take (i := 0) (v := .agg #[.int .u32 s.ch, .int .u64 s.rd, .int .u64 s.m0, .int .u64 s.m1, .int .u64 s.t0, .int .u64 s.t1, .slice a1 n c1]) rfl (by kernel_rfl) (by kernel_rfl) (by kernel_rfl) (fun _ _ _ h => h) (Or.inl ⟨by rfl, by intro w' h; have q0 := Blk.cell h.2.2.blk 0; have q1 := Blk.cell h.2.2.blk 1; have q2 := Blk.cell h.2.2.blk 2; have q3 := Blk.cell h.2.2.blk 3; have q4 := Blk.cell h.2.2.blk 4; have q5 := Blk.cell h.2.2.blk 5; have q6 := Blk.cell h.2.2.blk 6; simp only [List.getElem?_cons_zero, List.getElem?_cons_succ] at q0 q1 q2 q3 q4 q5 q6; go_simp⟩) hHeld ?_
    show wpAnyH _ _ _ _ _ _ _ (Act.put _ (some 49) _) _
    simp only [Act.put, List.setIfInBounds_toArray, List.set_cons_zero, List.set_cons_succ]
    refine wpAnyH_take (i := 1) (v := .agg #[.int .u64 p0, .int .u64 p1]) rfl (by kernel_rfl) (by kernel_rfl) (by kernel_rfl) (fun _ _ _ h => h) (Or.inl ⟨by rfl, by intro w' h; have q0 := Blk.cell h.1 0; have q1 := Blk.cell h.1 1; simp only [List.getElem?_cons_zero, List.getElem?_cons_succ] at q0 q1; go_simp⟩) hHeld ?_
    show wpAnyH _ _ _ _ _ _ _ (Act.put _ (some 50) _) _
    simp only [Act.put, List.setIfInBounds_toArray, List.set_cons_zero, List.set_cons_succ]
    refine wpAnyH_take (i := 2) (v := .int .i64 T) rfl (by kernel_rfl) (by kernel_rfl) (by kernel_rfl) (fun _ _ _ h => h) (Or.inl ⟨by rfl, fun w _ => by rfl⟩) hHeld ?_
    show wpAnyH _ _ _ _ _ _ _ (Act.put _ (some 51) _) _
    simp only [Act.put, List.setIfInBounds_toArray, List.set_cons_zero, List.set_cons_succ]
    refine wpAnyH_take (i := 3) (v := .agg (ocells k amt (c.by_ T) id).toArray) rfl (by kernel_rfl) (by kernel_rfl) (by kernel_rfl) (fun _ _ _ h => h) (yieldsIf_load_mid (by rfl) 55 (.tmp 5) rfl gk 0 rfl (ocells k amt (c.by_ T) id) _ (fun w h => Blk.all h.2.1) Try.underlying55 rfl HZK.out) hHeld ?_
    show wpAnyH _ _ _ _ _ _ _ (Act.put _ (some 52) _) _
    simp only [Act.put, List.setIfInBounds_toArray, List.set_cons_zero, List.set_cons_succ]
    refine wpAnyH_ready (rs := [4, 9]) (by kernel_rfl) (by simp) ?_
    refine AllReadyH.cons rfl (fun K hK => ?_) (AllReadyH.cons rfl (fun K hK => ?_) AllReadyH.nil)
    · refine step_call rfl 25 #[.tmp 52] #[55] rfl #[.agg (ocells k amt (c.by_ T) id).toArray] (by simp [Act.eval]) (by go_simp) (op_any k amt id (c.by_ T) X0 (HOK.out.by_ T)) ?_
      rintro e X1 ⟨rfl, hB⟩
      have BX1 : Hid (Below w.heap.size w X1) := Lib.hid (BX0.out.trans (hB.mono BX0.out.size))
      have PX1 : Hid (Blk X1 gp 24 [.int .u64 p0, .int .u64 p1]) := Lib.hid (PX0.out.below hB PX0.out.lt)
      have KX1 : Hid (Blk X1 gk 55 (ocells k amt (c.by_ T) id)) := Lib.hid (KX0.out.below hB KX0.out.lt)
      have XX1 : Hid (StAt X1 w.heap.size gx s a1 n c1) := Lib.hid (XX0.out.keep hB)
      clear BX0 PX0 KX0 XX0 hB
      refine ⟨_, rfl, hK.out _ _ (⟨PX1.out, KX1.out, XX1.out⟩) (fun hHeld => ?_)⟩
      clear hK K
      show wpAnyH _ _ _ _ _ _ _ (Act.put _ (some 53) _) _
      simp only [Act.put, List.setIfInBounds_toArray, List.set_cons_zero, List.set_cons_succ]
      refine wpAnyH_ready (rs := [5, 9]) (by kernel_rfl) (by simp) ?_
      refine AllReadyH.cons rfl (fun K hK => ?_) (AllReadyH.cons rfl (fun K hK => ?_) AllReadyH.nil)
      · refine step_call rfl 24 #[.tmp 49, .tmp 50, .tmp 51, .tmp 53] #[31, 24, 36, 62] rfl #[.agg #[.int .u32 s.ch, .int .u64 s.rd, .int .u64 s.m0, .int .u64 s.m1, .int .u64 s.t0, .int .u64 s.t1, .slice a1 n c1], .agg #[.int .u64 p0, .int .u64 p1], .int .i64 T, .agg (ocells k amt (c.by_ T) id).toArray] (by simp [Act.eval]) (by go_simp) (HNX.out X1 XX1.out.row) ?_
        rintro e X2 ⟨aN, nN, cN, rfl, hR, hlen, hB⟩
        have HLEN := Lib.hid hlen
        have BX2 : Hid (Below w.heap.size w X2) := Lib.hid (BX1.out.trans (hB.mono BX1.out.size))
        have PX2 : Hid (Blk X2 gp 24 [.int .u64 p0, .int .u64 p1]) := Lib.hid (PX1.out.below hB PX1.out.lt)
        have KX2 : Hid (Blk X2 gk 55 (ocells k amt (c.by_ T) id)) := Lib.hid (KX1.out.below hB KX1.out.lt)
        have XX2 : Hid (StAt X2 w.heap.size gx s a1 n c1) := Lib.hid (XX1.out.keep hB)
        have RX2 : Hid (X2.ownsRow w.heap.size 60 36 (.slice aN nN cN) nN (cflat SS.cs)) := Lib.hid (own_mono hR BX1.out.size)
        clear BX1 PX1 KX1 XX1 hB hR hlen
        refine ⟨_, rfl, hK.out _ _ (⟨PX2.out, KX2.out, XX2.out⟩) (fun hHeld => ?_)⟩
        clear hK K
        show wpAnyH _ _ _ _ _ _ _ (Act.put _ (some 54) _) _
        simp only [Act.put, List.setIfInBounds_toArray, List.set_cons_zero, List.set_cons_succ]
        refine wpAnyH_take (i := 6) (v := .tuple #[.agg #[.int .u32 SS.ch, .int .u64 SS.rd, .int .u64 SS.m0, .int .u64 SS.m1, .int .u64 SS.t0, .int .u64 SS.t1, .slice aN nN cN], .int .i64 E1]) rfl (by kernel_rfl) (by kernel_rfl) (by kernel_rfl) (fun _ _ _ h => h) (Or.inl ⟨by rfl, fun w _ => by rfl⟩) hHeld ?_
        show wpAnyH _ _ _ _ _ _ _ (Act.put _ (some 48) _) _
        simp only [Act.put, List.setIfInBounds_toArray, List.set_cons_zero, List.set_cons_succ]
        refine wpAnyH_take (i := 7) (v := .agg #[.int .u32 SS.ch, .int .u64 SS.rd, .int .u64 SS.m0, .int .u64 SS.m1, .int .u64 SS.t0, .int .u64 SS.t1, .slice aN nN cN]) rfl (by kernel_rfl) (by kernel_rfl) (by kernel_rfl) (fun _ _ _ h => h) (Or.inl ⟨by rfl, by intro w' h; go_simp⟩) hHeld ?_
        show wpAnyH _ _ _ _ _ _ _ (Act.put _ (some 55) _) _
        simp only [Act.put, List.setIfInBounds_toArray, List.set_cons_zero, List.set_cons_succ]
        refine wpAnyH_take (i := 8) (v := .int .i64 E1) rfl (by kernel_rfl) (by kernel_rfl) (by kernel_rfl) (fun _ _ _ h => h) (Or.inl ⟨by rfl, by intro w' h; go_simp⟩) hHeld ?_
        show wpAnyH _ _ _ _ _ _ _ (Act.put _ (some 56) _) _
        simp only [Act.put, List.setIfInBounds_toArray, List.set_cons_zero, List.set_cons_succ]
        refine wpAnyH_ready (rs := [9]) (by kernel_rfl) (by simp) ?_
        refine AllReadyH.cons rfl (fun K hK => ?_) AllReadyH.nil
        refine step_new rfl 31 rfl #[.int .u32 0, .int .u64 0, .int .u64 0, .int .u64 0, .int .u64 0, .int .u64 0, .slice none 0 0] (.pointer (some ⟨X2.heap.size, 0, none⟩)) (by kernel_rfl) ?_
        have hB : Below X2.heap.size X2 (X2.alloc (.cells #[.int .u32 0, .int .u64 0, .int .u64 0, .int .u64 0, .int .u64 0, .int .u64 0, .slice none 0 0] 31)) := (Below.refl _ _).alloc (Nat.le_refl _) _
        have hZ := Blk.new X2 31 [.int .u32 0, .int .u64 0, .int .u64 0, .int .u64 0, .int .u64 0, .int .u64 0, .slice none 0 0]
        generalize X2.alloc (.cells #[.int .u32 0, .int .u64 0, .int .u64 0, .int .u64 0, .int .u64 0, .int .u64 0, .slice none 0 0] 31) = X3 at hB hZ ⊢
        obtain ⟨gN, hgN⟩ : ∃ q, X2.heap.size = q := ⟨_, rfl⟩
        have HGN : Hid (w.heap.size ≤ gN ∧ gp < gN ∧ gk < gN ∧ gx < gN) := Lib.hid ⟨by have := BX2.out.size; omega, by have := PX2.out.lt; omega, by have := KX2.out.lt; omega, by have := XX2.out.blk.lt; omega⟩
        rw [hgN] at hZ ⊢
        clear hgN
        have BX3 : Hid (Below w.heap.size w X3) := Lib.hid (BX2.out.trans (hB.mono BX2.out.size))
        have PX3 : Hid (Blk X3 gp 24 [.int .u64 p0, .int .u64 p1]) := Lib.hid (PX2.out.below hB PX2.out.lt)
        have KX3 : Hid (Blk X3 gk 55 (ocells k amt (c.by_ T) id)) := Lib.hid (KX2.out.below hB KX2.out.lt)
        have XX3 : Hid (StAt X3 w.heap.size gx s a1 n c1) := Lib.hid (XX2.out.keep hB)
        have RX3 : Hid (X3.ownsRow w.heap.size 60 36 (.slice aN nN cN) nN (cflat SS.cs)) := Lib.hid (own_keep RX2.out hB)
        have ZX3 : Hid (Blk X3 gN 31 [.int .u32 0, .int .u64 0, .int .u64 0, .int .u64 0, .int .u64 0, .int .u64 0, .slice none 0 0]) := Lib.hid (hZ)
        clear BX2 PX2 KX2 XX2 RX2 hB hZ
        refine hK.out _ _ (⟨PX3.out, KX3.out, XX3.out⟩) (fun hHeld => ?_)
        clear hK K
        show wpAnyH _ _ _ _ _ _ _ (Act.put _ (some 9) _) _
        simp only [Act.put, List.setIfInBounds_toArray, List.set_cons_zero, List.set_cons_succ]
        refine wpAnyH_ready (rs := [10]) (by kernel_rfl) (by simp) ?_
        refine AllReadyH.cons rfl (fun K hK => ?_) AllReadyH.nil
        refine step_store rfl 31 (.tmp 9) (.tmp 55) rfl gN [.int .u32 SS.ch, .int .u64 SS.rd, .int .u64 SS.m0, .int .u64 SS.m1, .int .u64 SS.t0, .int .u64 SS.t1, .slice aN nN cN] rfl rfl 31 _ ZX3.out info31 rfl (by simp [Value.oneCell']) ?_
        intro X4 hZ hO
        have hKW : ∀ q, some gN = some q → w.heap.size ≤ q := fun q hq => by injection hq with hq; have := HGN.out; omega
        have hnP : some gp ≠ some gN := fun e => by injection e with e; have := HGN.out; omega
        have hnK : some gk ≠ some gN := fun e => by injection e with e; have := HGN.out; omega
        have hnX : gx ≠ gN := fun e => by have := HGN.out; omega
        have BX4 : Hid (Below w.heap.size w X4) := Lib.hid (BX3.out.grown hO BX3.out.size hKW)
        have PX4 : Hid (Blk X4 gp 24 [.int .u64 p0, .int .u64 p1]) := Lib.hid (PX3.out.grown hO hnP)
        have KX4 : Hid (Blk X4 gk 55 (ocells k amt (c.by_ T) id)) := Lib.hid (KX3.out.grown hO hnK)
        have XX4 : Hid (StAt X4 w.heap.size gx s a1 n c1) := Lib.hid (XX3.out.other hO hnX ZX3.out (by decide))
        have RX4 : Hid (X4.ownsRow w.heap.size 60 36 (.slice aN nN cN) nN (cflat SS.cs)) := Lib.hid (RX3.out.kept hO (.inr (fun e => own_ne RX3.out ZX3.out (by decide) e.symm)))
        have ZX4 : Hid (Blk X4 gN 31 [.int .u32 SS.ch, .int .u64 SS.rd, .int .u64 SS.m0, .int .u64 SS.m1, .int .u64 SS.t0, .int .u64 SS.t1, .slice aN nN cN]) := Lib.hid (hZ)
        clear BX3 PX3 KX3 XX3 RX3 hZ hO hKW ZX3 hnP hnK hnX
        refine hK.out _ _ (⟨PX4.out, KX4.out, XX4.out⟩) (fun hHeld => ?_)
        clear hK K
        show wpAnyH _ _ _ _ _ _ _ (Act.put _ none _) _
        simp only [Act.put]
        refine wpAnyH_take (i := 11) (v := .int .i64 E1) rfl (by kernel_rfl) (by kernel_rfl) (by kernel_rfl) (fun _ _ _ h => h) (Or.inl ⟨by rfl, fun w _ => by rfl⟩) hHeld ?_
        show wpAnyH _ _ _ _ _ _ _ (Act.put _ (some 10) _) _
        simp only [Act.put, List.setIfInBounds_toArray, List.set_cons_zero, List.set_cons_succ]
        refine wpAnyH_done (by kernel_rfl) ?_ _
        go_wp2
        go_meet
        exact ⟨gN, aN, nN, cN, rfl, rfl, BX4, PX4, KX4, XX4, Lib.hid ⟨ZX4.out, RX4.out, HSO.out, HLEN.out⟩, HGN⟩
      · refine step_new rfl 31 rfl #[.int .u32 0, .int .u64 0, .int .u64 0, .int .u64 0, .int .u64 0, .int .u64 0, .slice none 0 0] (.pointer (some ⟨X1.heap.size, 0, none⟩)) (by kernel_rfl) ?_
        have hB : Below X1.heap.size X1 (X1.alloc (.cells #[.int .u32 0, .int .u64 0, .int .u64 0, .int .u64 0, .int .u64 0, .int .u64 0, .slice none 0 0] 31)) := (Below.refl _ _).alloc (Nat.le_refl _) _
        have hZ := Blk.new X1 31 [.int .u32 0, .int .u64 0, .int .u64 0, .int .u64 0, .int .u64 0, .int .u64 0, .slice none 0 0]
        generalize X1.alloc (.cells #[.int .u32 0, .int .u64 0, .int .u64 0, .int .u64 0, .int .u64 0, .int .u64 0, .slice none 0 0] 31) = X2 at hB hZ ⊢
        obtain ⟨gN, hgN⟩ : ∃ q, X1.heap.size = q := ⟨_, rfl⟩
        have HGN : Hid (w.heap.size ≤ gN ∧ gp < gN ∧ gk < gN ∧ gx < gN) := Lib.hid ⟨by have := BX1.out.size; omega, by have := PX1.out.lt; omega, by have := KX1.out.lt; omega, by have := XX1.out.blk.lt; omega⟩
        rw [hgN] at hZ ⊢
        clear hgN
        have BX2 : Hid (Below w.heap.size w X2) := Lib.hid (BX1.out.trans (hB.mono BX1.out.size))
        have PX2 : Hid (Blk X2 gp 24 [.int .u64 p0, .int .u64 p1]) := Lib.hid (PX1.out.below hB PX1.out.lt)
        have KX2 : Hid (Blk X2 gk 55 (ocells k amt (c.by_ T) id)) := Lib.hid (KX1.out.below hB KX1.out.lt)
        have XX2 : Hid (StAt X2 w.heap.size gx s a1 n c1) := Lib.hid (XX1.out.keep hB)
        have ZX2 : Hid (Blk X2 gN 31 [.int .u32 0, .int .u64 0, .int .u64 0, .int .u64 0, .int .u64 0, .int .u64 0, .slice none 0 0]) := Lib.hid (hZ)
        clear BX1 PX1 KX1 XX1 hB hZ
        refine hK.out _ _ (⟨PX2.out, KX2.out, XX2.out⟩) (fun hHeld => ?_)
        clear hK K
        show wpAnyH _ _ _ _ _ _ _ (Act.put _ (some 9) _) _
        simp only [Act.put, List.setIfInBounds_toArray, List.set_cons_zero, List.set_cons_succ]
        refine wpAnyH_ready (rs := [5]) (by kernel_rfl) (by simp) ?_
        refine AllReadyH.cons rfl (fun K hK => ?_) AllReadyH.nil
        refine step_call rfl 24 #[.tmp 49, .tmp 50, .tmp 51, .tmp 53] #[31, 24, 36, 62] rfl #[.agg #[.int .u32 s.ch, .int .u64 s.rd, .int .u64 s.m0, .int .u64 s.m1, .int .u64 s.t0, .int .u64 s.t1, .slice a1 n c1], .agg #[.int .u64 p0, .int .u64 p1], .int .i64 T, .agg (ocells k amt (c.by_ T) id).toArray] (by simp [Act.eval]) (by go_simp) (HNX.out X2 XX2.out.row) ?_
        rintro e X3 ⟨aN, nN, cN, rfl, hR, hlen, hB⟩
        have HLEN := Lib.hid hlen
        have BX3 : Hid (Below w.heap.size w X3) := Lib.hid (BX2.out.trans (hB.mono BX2.out.size))
        have PX3 : Hid (Blk X3 gp 24 [.int .u64 p0, .int .u64 p1]) := Lib.hid (PX2.out.below hB PX2.out.lt)
        have KX3 : Hid (Blk X3 gk 55 (ocells k amt (c.by_ T) id)) := Lib.hid (KX2.out.below hB KX2.out.lt)
        have XX3 : Hid (StAt X3 w.heap.size gx s a1 n c1) := Lib.hid (XX2.out.keep hB)
        have ZX3 : Hid (Blk X3 gN 31 [.int .u32 0, .int .u64 0, .int .u64 0, .int .u64 0, .int .u64 0, .int .u64 0, .slice none 0 0]) := Lib.hid (ZX2.out.below hB ZX2.out.lt)
        have RX3 : Hid (X3.ownsRow w.heap.size 60 36 (.slice aN nN cN) nN (cflat SS.cs)) := Lib.hid (own_mono hR BX2.out.size)
        clear BX2 PX2 KX2 XX2 ZX2 hB hR hlen
        refine ⟨_, rfl, hK.out _ _ (⟨PX3.out, KX3.out, XX3.out⟩) (fun hHeld => ?_)⟩
        clear hK K
        show wpAnyH _ _ _ _ _ _ _ (Act.put _ (some 54) _) _
        simp only [Act.put, List.setIfInBounds_toArray, List.set_cons_zero, List.set_cons_succ]
        refine wpAnyH_take (i := 6) (v := .tuple #[.agg #[.int .u32 SS.ch, .int .u64 SS.rd, .int .u64 SS.m0, .int .u64 SS.m1, .int .u64 SS.t0, .int .u64 SS.t1, .slice aN nN cN], .int .i64 E1]) rfl (by kernel_rfl) (by kernel_rfl) (by kernel_rfl) (fun _ _ _ h => h) (Or.inl ⟨by rfl, fun w _ => by rfl⟩) hHeld ?_
        show wpAnyH _ _ _ _ _ _ _ (Act.put _ (some 48) _) _
        simp only [Act.put, List.setIfInBounds_toArray, List.set_cons_zero, List.set_cons_succ]
        refine wpAnyH_take (i := 7) (v := .agg #[.int .u32 SS.ch, .int .u64 SS.rd, .int .u64 SS.m0, .int .u64 SS.m1, .int .u64 SS.t0, .int .u64 SS.t1, .slice aN nN cN]) rfl (by kernel_rfl) (by kernel_rfl) (by kernel_rfl) (fun _ _ _ h => h) (Or.inl ⟨by rfl, by intro w' h; go_simp⟩) hHeld ?_
        show wpAnyH _ _ _ _ _ _ _ (Act.put _ (some 55) _) _
        simp only [Act.put, List.setIfInBounds_toArray, List.set_cons_zero, List.set_cons_succ]
        refine wpAnyH_take (i := 8) (v := .int .i64 E1) rfl (by kernel_rfl) (by kernel_rfl) (by kernel_rfl) (fun _ _ _ h => h) (Or.inl ⟨by rfl, by intro w' h; go_simp⟩) hHeld ?_
        show wpAnyH _ _ _ _ _ _ _ (Act.put _ (some 56) _) _
        simp only [Act.put, List.setIfInBounds_toArray, List.set_cons_zero, List.set_cons_succ]
        refine wpAnyH_ready (rs := [10]) (by kernel_rfl) (by simp) ?_
        refine AllReadyH.cons rfl (fun K hK => ?_) AllReadyH.nil
        refine step_store rfl 31 (.tmp 9) (.tmp 55) rfl gN [.int .u32 SS.ch, .int .u64 SS.rd, .int .u64 SS.m0, .int .u64 SS.m1, .int .u64 SS.t0, .int .u64 SS.t1, .slice aN nN cN] rfl rfl 31 _ ZX3.out info31 rfl (by simp [Value.oneCell']) ?_
        intro X4 hZ hO
        have hKW : ∀ q, some gN = some q → w.heap.size ≤ q := fun q hq => by injection hq with hq; have := HGN.out; omega
        have hnP : some gp ≠ some gN := fun e => by injection e with e; have := HGN.out; omega
        have hnK : some gk ≠ some gN := fun e => by injection e with e; have := HGN.out; omega
        have hnX : gx ≠ gN := fun e => by have := HGN.out; omega
        have BX4 : Hid (Below w.heap.size w X4) := Lib.hid (BX3.out.grown hO BX3.out.size hKW)
        have PX4 : Hid (Blk X4 gp 24 [.int .u64 p0, .int .u64 p1]) := Lib.hid (PX3.out.grown hO hnP)
        have KX4 : Hid (Blk X4 gk 55 (ocells k amt (c.by_ T) id)) := Lib.hid (KX3.out.grown hO hnK)
        have XX4 : Hid (StAt X4 w.heap.size gx s a1 n c1) := Lib.hid (XX3.out.other hO hnX ZX3.out (by decide))
        have RX4 : Hid (X4.ownsRow w.heap.size 60 36 (.slice aN nN cN) nN (cflat SS.cs)) := Lib.hid (RX3.out.kept hO (.inr (fun e => own_ne RX3.out ZX3.out (by decide) e.symm)))
        have ZX4 : Hid (Blk X4 gN 31 [.int .u32 SS.ch, .int .u64 SS.rd, .int .u64 SS.m0, .int .u64 SS.m1, .int .u64 SS.t0, .int .u64 SS.t1, .slice aN nN cN]) := Lib.hid (hZ)
        clear BX3 PX3 KX3 XX3 RX3 hZ hO hKW ZX3 hnP hnK hnX
        refine hK.out _ _ (⟨PX4.out, KX4.out, XX4.out⟩) (fun hHeld => ?_)
        clear hK K
        show wpAnyH _ _ _ _ _ _ _ (Act.put _ none _) _
        simp only [Act.put]
        refine wpAnyH_take (i := 11) (v := .int .i64 E1) rfl (by kernel_rfl) (by kernel_rfl) (by kernel_rfl) (fun _ _ _ h => h) (Or.inl ⟨by rfl, fun w _ => by rfl⟩) hHeld ?_
        show wpAnyH _ _ _ _ _ _ _ (Act.put _ (some 10) _) _
        simp only [Act.put, List.setIfInBounds_toArray, List.set_cons_zero, List.set_cons_succ]
        refine wpAnyH_done (by kernel_rfl) ?_ _
        go_wp2
        go_meet
        exact ⟨gN, aN, nN, cN, rfl, rfl, BX4, PX4, KX4, XX4, Lib.hid ⟨ZX4.out, RX4.out, HSO.out, HLEN.out⟩, HGN⟩
    · refine step_new rfl 31 rfl #[.int .u32 0, .int .u64 0, .int .u64 0, .int .u64 0, .int .u64 0, .int .u64 0, .slice none 0 0] (.pointer (some ⟨X0.heap.size, 0, none⟩)) (by kernel_rfl) ?_
      have hB : Below X0.heap.size X0 (X0.alloc (.cells #[.int .u32 0, .int .u64 0, .int .u64 0, .int .u64 0, .int .u64 0, .int .u64 0, .slice none 0 0] 31)) := (Below.refl _ _).alloc (Nat.le_refl _) _
      have hZ := Blk.new X0 31 [.int .u32 0, .int .u64 0, .int .u64 0, .int .u64 0, .int .u64 0, .int .u64 0, .slice none 0 0]
      generalize X0.alloc (.cells #[.int .u32 0, .int .u64 0, .int .u64 0, .int .u64 0, .int .u64 0, .int .u64 0, .slice none 0 0] 31) = X1 at hB hZ ⊢
      obtain ⟨gN, hgN⟩ : ∃ q, X0.heap.size = q := ⟨_, rfl⟩
      have HGN : Hid (w.heap.size ≤ gN ∧ gp < gN ∧ gk < gN ∧ gx < gN) := Lib.hid ⟨by have := BX0.out.size; omega, by have := PX0.out.lt; omega, by have := KX0.out.lt; omega, by have := XX0.out.blk.lt; omega⟩
      rw [hgN] at hZ ⊢
      clear hgN
      have BX1 : Hid (Below w.heap.size w X1) := Lib.hid (BX0.out.trans (hB.mono BX0.out.size))
      have PX1 : Hid (Blk X1 gp 24 [.int .u64 p0, .int .u64 p1]) := Lib.hid (PX0.out.below hB PX0.out.lt)
      have KX1 : Hid (Blk X1 gk 55 (ocells k amt (c.by_ T) id)) := Lib.hid (KX0.out.below hB KX0.out.lt)
      have XX1 : Hid (StAt X1 w.heap.size gx s a1 n c1) := Lib.hid (XX0.out.keep hB)
      have ZX1 : Hid (Blk X1 gN 31 [.int .u32 0, .int .u64 0, .int .u64 0, .int .u64 0, .int .u64 0, .int .u64 0, .slice none 0 0]) := Lib.hid (hZ)
      clear BX0 PX0 KX0 XX0 hB hZ
      refine hK.out _ _ (⟨PX1.out, KX1.out, XX1.out⟩) (fun hHeld => ?_)
      clear hK K
      show wpAnyH _ _ _ _ _ _ _ (Act.put _ (some 9) _) _
      simp only [Act.put, List.setIfInBounds_toArray, List.set_cons_zero, List.set_cons_succ]
      refine wpAnyH_ready (rs := [4]) (by kernel_rfl) (by simp) ?_
      refine AllReadyH.cons rfl (fun K hK => ?_) AllReadyH.nil
      refine step_call rfl 25 #[.tmp 52] #[55] rfl #[.agg (ocells k amt (c.by_ T) id).toArray] (by simp [Act.eval]) (by go_simp) (op_any k amt id (c.by_ T) X1 (HOK.out.by_ T)) ?_
      rintro e X2 ⟨rfl, hB⟩
      have BX2 : Hid (Below w.heap.size w X2) := Lib.hid (BX1.out.trans (hB.mono BX1.out.size))
      have PX2 : Hid (Blk X2 gp 24 [.int .u64 p0, .int .u64 p1]) := Lib.hid (PX1.out.below hB PX1.out.lt)
      have KX2 : Hid (Blk X2 gk 55 (ocells k amt (c.by_ T) id)) := Lib.hid (KX1.out.below hB KX1.out.lt)
      have XX2 : Hid (StAt X2 w.heap.size gx s a1 n c1) := Lib.hid (XX1.out.keep hB)
      have ZX2 : Hid (Blk X2 gN 31 [.int .u32 0, .int .u64 0, .int .u64 0, .int .u64 0, .int .u64 0, .int .u64 0, .slice none 0 0]) := Lib.hid (ZX1.out.below hB ZX1.out.lt)
      clear BX1 PX1 KX1 XX1 ZX1 hB
      refine ⟨_, rfl, hK.out _ _ (⟨PX2.out, KX2.out, XX2.out⟩) (fun hHeld => ?_)⟩
      clear hK K
      show wpAnyH _ _ _ _ _ _ _ (Act.put _ (some 53) _) _
      simp only [Act.put, List.setIfInBounds_toArray, List.set_cons_zero, List.set_cons_succ]
      refine wpAnyH_ready (rs := [5]) (by kernel_rfl) (by simp) ?_
      refine AllReadyH.cons rfl (fun K hK => ?_) AllReadyH.nil
      refine step_call rfl 24 #[.tmp 49, .tmp 50, .tmp 51, .tmp 53] #[31, 24, 36, 62] rfl #[.agg #[.int .u32 s.ch, .int .u64 s.rd, .int .u64 s.m0, .int .u64 s.m1, .int .u64 s.t0, .int .u64 s.t1, .slice a1 n c1], .agg #[.int .u64 p0, .int .u64 p1], .int .i64 T, .agg (ocells k amt (c.by_ T) id).toArray] (by simp [Act.eval]) (by go_simp) (HNX.out X2 XX2.out.row) ?_
      rintro e X3 ⟨aN, nN, cN, rfl, hR, hlen, hB⟩
      have HLEN := Lib.hid hlen
      have BX3 : Hid (Below w.heap.size w X3) := Lib.hid (BX2.out.trans (hB.mono BX2.out.size))
      have PX3 : Hid (Blk X3 gp 24 [.int .u64 p0, .int .u64 p1]) := Lib.hid (PX2.out.below hB PX2.out.lt)
      have KX3 : Hid (Blk X3 gk 55 (ocells k amt (c.by_ T) id)) := Lib.hid (KX2.out.below hB KX2.out.lt)
      have XX3 : Hid (StAt X3 w.heap.size gx s a1 n c1) := Lib.hid (XX2.out.keep hB)
      have ZX3 : Hid (Blk X3 gN 31 [.int .u32 0, .int .u64 0, .int .u64 0, .int .u64 0, .int .u64 0, .int .u64 0, .slice none 0 0]) := Lib.hid (ZX2.out.below hB ZX2.out.lt)
      have RX3 : Hid (X3.ownsRow w.heap.size 60 36 (.slice aN nN cN) nN (cflat SS.cs)) := Lib.hid (own_mono hR BX2.out.size)
      clear BX2 PX2 KX2 XX2 ZX2 hB hR hlen
      refine ⟨_, rfl, hK.out _ _ (⟨PX3.out, KX3.out, XX3.out⟩) (fun hHeld => ?_)⟩
      clear hK K
      show wpAnyH _ _ _ _ _ _ _ (Act.put _ (some 54) _) _
      simp only [Act.put, List.setIfInBounds_toArray, List.set_cons_zero, List.set_cons_succ]
      refine wpAnyH_take (i := 6) (v := .tuple #[.agg #[.int .u32 SS.ch, .int .u64 SS.rd, .int .u64 SS.m0, .int .u64 SS.m1, .int .u64 SS.t0, .int .u64 SS.t1, .slice aN nN cN], .int .i64 E1]) rfl (by kernel_rfl) (by kernel_rfl) (by kernel_rfl) (fun _ _ _ h => h) (Or.inl ⟨by rfl, fun w _ => by rfl⟩) hHeld ?_
      show wpAnyH _ _ _ _ _ _ _ (Act.put _ (some 48) _) _
      simp only [Act.put, List.setIfInBounds_toArray, List.set_cons_zero, List.set_cons_succ]
      refine wpAnyH_take (i := 7) (v := .agg #[.int .u32 SS.ch, .int .u64 SS.rd, .int .u64 SS.m0, .int .u64 SS.m1, .int .u64 SS.t0, .int .u64 SS.t1, .slice aN nN cN]) rfl (by kernel_rfl) (by kernel_rfl) (by kernel_rfl) (fun _ _ _ h => h) (Or.inl ⟨by rfl, by intro w' h; go_simp⟩) hHeld ?_
      show wpAnyH _ _ _ _ _ _ _ (Act.put _ (some 55) _) _
      simp only [Act.put, List.setIfInBounds_toArray, List.set_cons_zero, List.set_cons_succ]
      refine wpAnyH_take (i := 8) (v := .int .i64 E1) rfl (by kernel_rfl) (by kernel_rfl) (by kernel_rfl) (fun _ _ _ h => h) (Or.inl ⟨by rfl, by intro w' h; go_simp⟩) hHeld ?_
      show wpAnyH _ _ _ _ _ _ _ (Act.put _ (some 56) _) _
      simp only [Act.put, List.setIfInBounds_toArray, List.set_cons_zero, List.set_cons_succ]
      refine wpAnyH_ready (rs := [10]) (by kernel_rfl) (by simp) ?_
      refine AllReadyH.cons rfl (fun K hK => ?_) AllReadyH.nil
      refine step_store rfl 31 (.tmp 9) (.tmp 55) rfl gN [.int .u32 SS.ch, .int .u64 SS.rd, .int .u64 SS.m0, .int .u64 SS.m1, .int .u64 SS.t0, .int .u64 SS.t1, .slice aN nN cN] rfl rfl 31 _ ZX3.out info31 rfl (by simp [Value.oneCell']) ?_
      intro X4 hZ hO
      have hKW : ∀ q, some gN = some q → w.heap.size ≤ q := fun q hq => by injection hq with hq; have := HGN.out; omega
      have hnP : some gp ≠ some gN := fun e => by injection e with e; have := HGN.out; omega
      have hnK : some gk ≠ some gN := fun e => by injection e with e; have := HGN.out; omega
      have hnX : gx ≠ gN := fun e => by have := HGN.out; omega
      have BX4 : Hid (Below w.heap.size w X4) := Lib.hid (BX3.out.grown hO BX3.out.size hKW)
      have PX4 : Hid (Blk X4 gp 24 [.int .u64 p0, .int .u64 p1]) := Lib.hid (PX3.out.grown hO hnP)
      have KX4 : Hid (Blk X4 gk 55 (ocells k amt (c.by_ T) id)) := Lib.hid (KX3.out.grown hO hnK)
      have XX4 : Hid (StAt X4 w.heap.size gx s a1 n c1) := Lib.hid (XX3.out.other hO hnX ZX3.out (by decide))
      have RX4 : Hid (X4.ownsRow w.heap.size 60 36 (.slice aN nN cN) nN (cflat SS.cs)) := Lib.hid (RX3.out.kept hO (.inr (fun e => own_ne RX3.out ZX3.out (by decide) e.symm)))
      have ZX4 : Hid (Blk X4 gN 31 [.int .u32 SS.ch, .int .u64 SS.rd, .int .u64 SS.m0, .int .u64 SS.m1, .int .u64 SS.t0, .int .u64 SS.t1, .slice aN nN cN]) := Lib.hid (hZ)
      clear BX3 PX3 KX3 XX3 RX3 hZ hO hKW ZX3 hnP hnK hnX
      refine hK.out _ _ (⟨PX4.out, KX4.out, XX4.out⟩) (fun hHeld => ?_)
      clear hK K
      show wpAnyH _ _ _ _ _ _ _ (Act.put _ none _) _
      simp only [Act.put]
      refine wpAnyH_take (i := 11) (v := .int .i64 E1) rfl (by kernel_rfl) (by kernel_rfl) (by kernel_rfl) (fun _ _ _ h => h) (Or.inl ⟨by rfl, fun w _ => by rfl⟩) hHeld ?_
      show wpAnyH _ _ _ _ _ _ _ (Act.put _ (some 10) _) _
      simp only [Act.put, List.setIfInBounds_toArray, List.set_cons_zero, List.set_cons_succ]
      refine wpAnyH_done (by kernel_rfl) ?_ _
      go_wp2
      go_meet
      exact ⟨gN, aN, nN, cN, rfl, rfl, BX4, PX4, KX4, XX4, Lib.hid ⟨ZX4.out, RX4.out, HSO.out, HLEN.out⟩, HGN⟩
  case rest =>
    clear BC PC KC XC HNX
    obtain ⟨gy, aN, nN, cN, rfl, rfl, BD, PD, KD, XD, YD, HGY⟩ := hcut
    generalize wc = D at BD PD KD XD YD ⊢
    have XK := XD.out.blk
    have s0 := XK.cell 0
    have s1 := XK.cell 1
    have s2 := XK.cell 2
    have s3 := XK.cell 3
    have s4 := XK.cell 4
    have s5 := XK.cell 5
    have s6 := XK.cell 6
    simp only [List.getElem?_cons_zero, List.getElem?_cons_succ] at s0 s1 s2 s3 s4 s5 s6
    have YK := YD.out.blk
    have t0 := YK.cell 0
    have t1 := YK.cell 1
    have t2 := YK.cell 2
    have t3 := YK.cell 3
    have t4 := YK.cell 4
    have t5 := YK.cell 5
    have t6 := YK.cell 6
    simp only [List.getElem?_cons_zero, List.getElem?_cons_succ] at t0 t1 t2 t3 t4 t5 t6
    have HW := Lib.hid (wrong_side (s := s) (p0 := p0) (p1 := p1) (T := T) (k := k) (amt := amt) (k' := 0) (amt' := 0) (c := c.by_ T) (id := id) HO.out.rd HTT.out.symm)
    by_cases h1 : E1 = 0
    case pos =>
      have hs : SS.rd = wr (s.rd + 1) ∧ SS.ch = s.ch := by
        rcases same_ch (by rw [HE1.out]; exact h1 : nextE s p0 p1 T k amt (c.by_ T) id = 0) with h | h
        · rwa [HSS.out] at h
        · exact absurd HO.out.rd h
      have b1 : (E1 == 0) = true := by simpa using h1
      have b2 : (SS.rd != IntKind.u64.wrap (s.rd + 1)) = false := by simp only [bne_eq_false_iff_eq]; exact hs.1
      have b3 : (SS.ch != s.ch) = false := by simpa using hs.2
      skip
      have H1 := Lib.hid h1
      clear h1
      go_upto_region 11 with fail
      clear s0 s1 s2 s3 s4 s5 s6 t0 t1 t2 t3 t4 t5 t6 XK YK b1 b2 b3 hs HSO YD
      obtain ⟨E2, hE2⟩ : ∃ q, nextE s p0 p1 O k amt (c.by_ T) id = q := ⟨_, rfl⟩
      obtain ⟨S2, hS2⟩ : ∃ q, nextS s p0 p1 O k amt (c.by_ T) id = q := ⟨_, rfl⟩
      have HNX : Hid (∀ X, CRow X a1 s.cs → Calls Try.prog 24 #[.agg #[.int .u32 s.ch, .int .u64 s.rd, .int .u64 s.m0, .int .u64 s.m1, .int .u64 s.t0, .int .u64 s.t1, .slice a1 n c1], .agg #[.int .u64 p0, .int .u64 p1], .int .i64 O, .agg (ocells k amt (c.by_ T) id).toArray] X (NextPost S2 E2 X)) := Lib.hid (fun X hC => by
        have := next_any n c1 s a1 p0 p1 O k amt id (c.by_ T) X hC XD.out.nil_ XD.out.len (by omega) (HOK.out.by_ T) hamt hp0 hp1 HO.out
        rwa [hE2, hS2] at this)
      have HE2 := Lib.hid hE2
      have HS2 := Lib.hid hS2
      have HSO : Hid (∀ x ∈ S2.cs, x.Ok) := Lib.hid (by
        rw [← hS2]; unfold nextS
        split
        · exact doS_cok s.nxt XD.out.ok _ _ _ _ (HOK.out.by_ T) _
        · intro x hx; cases hx)
      clear hE2 hS2
      go_cut [11, 12] (fun s7 s8 wc => ∃ gN aN nN cN, s7 = .pointer (some ⟨gN, 0, none⟩) ∧ s8 = .int .i64 E2 ∧ Hid (Below w.heap.size w wc) ∧ Hid (Blk wc gp 24 [.int .u64 p0, .int .u64 p1]) ∧ Hid (Blk wc gk 55 (ocells k amt (c.by_ T) id)) ∧ Hid (StAt wc w.heap.size gx s a1 n c1) ∧ Hid (StAt wc w.heap.size gN S2 aN nN cN) ∧ Hid (w.heap.size ≤ gN ∧ gp < gN ∧ gk < gN ∧ gx < gN))
      case first =>
        have hBz : Below D.heap.size D D.drew := below_drewN (Below.refl _ _) 1
        have BX0 : Hid (Below w.heap.size w D.drew) := Lib.hid (BD.out.trans (hBz.mono BD.out.size))
        have PX0 : Hid (Blk D.drew gp 24 [.int .u64 p0, .int .u64 p1]) := Lib.hid (PD.out.below hBz PD.out.lt)
        have KX0 : Hid (Blk D.drew gk 55 (ocells k amt (c.by_ T) id)) := Lib.hid (KD.out.below hBz KD.out.lt)
        have XX0 : Hid (StAt D.drew w.heap.size gx s a1 n c1) := Lib.hid (XD.out.keep hBz)
        clear hBz
        refine wp_region_held_drew (S := fun w' => Blk w' gp 24 [.int .u64 p0, .int .u64 p1] ∧ Blk w' gk 55 (ocells k amt (c.by_ T) id) ∧ StAt w' w.heap.size gx s a1 n c1) (by kernel_rfl) (⟨PX0.out, KX0.out, XX0.out⟩) (fun hHeld => ?_)
        generalize D.drew = X0 at hHeld BX0 PX0 KX0 XX0 ⊢
        refine wpAnyH_take (i := 0) (v := .agg #[.int .u32 s.ch, .int .u64 s.rd, .int .u64 s.m0, .int .u64 s.m1, .int .u64 s.t0, .int .u64 s.t1, .slice a1 n c1]) rfl (by kernel_rfl) (by kernel_rfl) (by kernel_rfl) (fun _ _ _ h => h) (Or.inl ⟨by rfl, by intro w' h; have q0 := Blk.cell h.2.2.blk 0; have q1 := Blk.cell h.2.2.blk 1; have q2 := Blk.cell h.2.2.blk 2; have q3 := Blk.cell h.2.2.blk 3; have q4 := Blk.cell h.2.2.blk 4; have q5 := Blk.cell h.2.2.blk 5; have q6 := Blk.cell h.2.2.blk 6; simp only [List.getElem?_cons_zero, List.getElem?_cons_succ] at q0 q1 q2 q3 q4 q5 q6; go_simp⟩) hHeld ?_
        show wpAnyH _ _ _ _ _ _ _ (Act.put _ (some 75) _) _
        simp only [Act.put, List.setIfInBounds_toArray, List.set_cons_zero, List.set_cons_succ]
        refine wpAnyH_take (i := 1) (v := .agg #[.int .u64 p0, .int .u64 p1]) rfl (by kernel_rfl) (by kernel_rfl) (by kernel_rfl) (fun _ _ _ h => h) (Or.inl ⟨by rfl, by intro w' h; have q0 := Blk.cell h.1 0; have q1 := Blk.cell h.1 1; simp only [List.getElem?_cons_zero, List.getElem?_cons_succ] at q0 q1; go_simp⟩) hHeld ?_
        show wpAnyH _ _ _ _ _ _ _ (Act.put _ (some 76) _) _
        simp only [Act.put, List.setIfInBounds_toArray, List.set_cons_zero, List.set_cons_succ]
        refine wpAnyH_take (i := 2) (v := .int .i64 T) rfl (by kernel_rfl) (by kernel_rfl) (by kernel_rfl) (fun _ _ _ h => h) (Or.inl ⟨by rfl, fun w _ => by rfl⟩) hHeld ?_
        show wpAnyH _ _ _ _ _ _ _ (Act.put _ (some 77) _) _
        simp only [Act.put, List.setIfInBounds_toArray, List.set_cons_zero, List.set_cons_succ]
        refine wpAnyH_take (i := 4) (v := .agg (ocells k amt (c.by_ T) id).toArray) rfl (by kernel_rfl) (by kernel_rfl) (by kernel_rfl) (fun _ _ _ h => h) (yieldsIf_load_mid (by rfl) 55 (.tmp 5) rfl gk 0 rfl (ocells k amt (c.by_ T) id) _ (fun w h => Blk.all h.2.1) Try.underlying55 rfl HZK.out) hHeld ?_
        show wpAnyH _ _ _ _ _ _ _ (Act.put _ (some 79) _) _
        simp only [Act.put, List.setIfInBounds_toArray, List.set_cons_zero, List.set_cons_succ]
        refine wpAnyH_ready (rs := [3, 10]) (by kernel_rfl) (by simp) ?_
        refine AllReadyH.cons rfl (fun K hK => ?_) (AllReadyH.cons rfl (fun K hK => ?_) AllReadyH.nil)
        · refine step_call rfl 31 #[.tmp 77] #[36] rfl #[.int .i64 T] (by simp [Act.eval]) (by go_simp) (HO1.out X0) ?_
          rintro e X1 ⟨rfl, rfl⟩
          refine ⟨_, rfl, hK.out _ _ (⟨PX0.out, KX0.out, XX0.out⟩) (fun hHeld => ?_)⟩
          clear hK K
          show wpAnyH _ _ _ _ _ _ _ (Act.put _ (some 78) _) _
          simp only [Act.put, List.setIfInBounds_toArray, List.set_cons_zero, List.set_cons_succ]
          refine wpAnyH_ready (rs := [5, 10]) (by kernel_rfl) (by simp) ?_
          refine AllReadyH.cons rfl (fun K hK => ?_) (AllReadyH.cons rfl (fun K hK => ?_) AllReadyH.nil)
          · refine step_call rfl 25 #[.tmp 79] #[55] rfl #[.agg (ocells k amt (c.by_ T) id).toArray] (by simp [Act.eval]) (by go_simp) (op_any k amt id (c.by_ T) X0 (HOK.out.by_ T)) ?_
            rintro e X2 ⟨rfl, hB⟩
            have BX2 : Hid (Below w.heap.size w X2) := Lib.hid (BX0.out.trans (hB.mono BX0.out.size))
            have PX2 : Hid (Blk X2 gp 24 [.int .u64 p0, .int .u64 p1]) := Lib.hid (PX0.out.below hB PX0.out.lt)
            have KX2 : Hid (Blk X2 gk 55 (ocells k amt (c.by_ T) id)) := Lib.hid (KX0.out.below hB KX0.out.lt)
            have XX2 : Hid (StAt X2 w.heap.size gx s a1 n c1) := Lib.hid (XX0.out.keep hB)
            clear BX0 PX0 KX0 XX0 hB
            refine ⟨_, rfl, hK.out _ _ (⟨PX2.out, KX2.out, XX2.out⟩) (fun hHeld => ?_)⟩
            clear hK K
            show wpAnyH _ _ _ _ _ _ _ (Act.put _ (some 80) _) _
            simp only [Act.put, List.setIfInBounds_toArray, List.set_cons_zero, List.set_cons_succ]
            refine wpAnyH_ready (rs := [6, 10]) (by kernel_rfl) (by simp) ?_
            refine AllReadyH.cons rfl (fun K hK => ?_) (AllReadyH.cons rfl (fun K hK => ?_) AllReadyH.nil)
            · refine step_call rfl 24 #[.tmp 75, .tmp 76, .tmp 78, .tmp 80] #[31, 24, 36, 62] rfl #[.agg #[.int .u32 s.ch, .int .u64 s.rd, .int .u64 s.m0, .int .u64 s.m1, .int .u64 s.t0, .int .u64 s.t1, .slice a1 n c1], .agg #[.int .u64 p0, .int .u64 p1], .int .i64 O, .agg (ocells k amt (c.by_ T) id).toArray] (by simp [Act.eval]) (by go_simp) (HNX.out X2 XX2.out.row) ?_
              rintro e X3 ⟨aN, nN, cN, rfl, hR, hlen, hB⟩
              have HLEN := Lib.hid hlen
              have BX3 : Hid (Below w.heap.size w X3) := Lib.hid (BX2.out.trans (hB.mono BX2.out.size))
              have PX3 : Hid (Blk X3 gp 24 [.int .u64 p0, .int .u64 p1]) := Lib.hid (PX2.out.below hB PX2.out.lt)
              have KX3 : Hid (Blk X3 gk 55 (ocells k amt (c.by_ T) id)) := Lib.hid (KX2.out.below hB KX2.out.lt)
              have XX3 : Hid (StAt X3 w.heap.size gx s a1 n c1) := Lib.hid (XX2.out.keep hB)
              have RX3 : Hid (X3.ownsRow w.heap.size 60 36 (.slice aN nN cN) nN (cflat S2.cs)) := Lib.hid (own_mono hR BX2.out.size)
              clear BX2 PX2 KX2 XX2 hB hR hlen
              refine ⟨_, rfl, hK.out _ _ (⟨PX3.out, KX3.out, XX3.out⟩) (fun hHeld => ?_)⟩
              clear hK K
              show wpAnyH _ _ _ _ _ _ _ (Act.put _ (some 81) _) _
              simp only [Act.put, List.setIfInBounds_toArray, List.set_cons_zero, List.set_cons_succ]
              refine wpAnyH_take (i := 7) (v := .tuple #[.agg #[.int .u32 S2.ch, .int .u64 S2.rd, .int .u64 S2.m0, .int .u64 S2.m1, .int .u64 S2.t0, .int .u64 S2.t1, .slice aN nN cN], .int .i64 E2]) rfl (by kernel_rfl) (by kernel_rfl) (by kernel_rfl) (fun _ _ _ h => h) (Or.inl ⟨by rfl, fun w _ => by rfl⟩) hHeld ?_
              show wpAnyH _ _ _ _ _ _ _ (Act.put _ (some 74) _) _
              simp only [Act.put, List.setIfInBounds_toArray, List.set_cons_zero, List.set_cons_succ]
              refine wpAnyH_take (i := 8) (v := .agg #[.int .u32 S2.ch, .int .u64 S2.rd, .int .u64 S2.m0, .int .u64 S2.m1, .int .u64 S2.t0, .int .u64 S2.t1, .slice aN nN cN]) rfl (by kernel_rfl) (by kernel_rfl) (by kernel_rfl) (fun _ _ _ h => h) (Or.inl ⟨by rfl, by intro w' h; go_simp⟩) hHeld ?_
              show wpAnyH _ _ _ _ _ _ _ (Act.put _ (some 82) _) _
              simp only [Act.put, List.setIfInBounds_toArray, List.set_cons_zero, List.set_cons_succ]
              refine wpAnyH_take (i := 9) (v := .int .i64 E2) rfl (by kernel_rfl) (by kernel_rfl) (by kernel_rfl) (fun _ _ _ h => h) (Or.inl ⟨by rfl, by intro w' h; go_simp⟩) hHeld ?_
              show wpAnyH _ _ _ _ _ _ _ (Act.put _ (some 83) _) _
              simp only [Act.put, List.setIfInBounds_toArray, List.set_cons_zero, List.set_cons_succ]
              refine wpAnyH_ready (rs := [10]) (by kernel_rfl) (by simp) ?_
              refine AllReadyH.cons rfl (fun K hK => ?_) AllReadyH.nil
              refine step_new rfl 31 rfl #[.int .u32 0, .int .u64 0, .int .u64 0, .int .u64 0, .int .u64 0, .int .u64 0, .slice none 0 0] (.pointer (some ⟨X3.heap.size, 0, none⟩)) (by kernel_rfl) ?_
              have hB : Below X3.heap.size X3 (X3.alloc (.cells #[.int .u32 0, .int .u64 0, .int .u64 0, .int .u64 0, .int .u64 0, .int .u64 0, .slice none 0 0] 31)) := (Below.refl _ _).alloc (Nat.le_refl _) _
              have hZ := Blk.new X3 31 [.int .u32 0, .int .u64 0, .int .u64 0, .int .u64 0, .int .u64 0, .int .u64 0, .slice none 0 0]
              generalize X3.alloc (.cells #[.int .u32 0, .int .u64 0, .int .u64 0, .int .u64 0, .int .u64 0, .int .u64 0, .slice none 0 0] 31) = X4 at hB hZ ⊢
              obtain ⟨gN, hgN⟩ : ∃ q, X3.heap.size = q := ⟨_, rfl⟩
              have HGN : Hid (w.heap.size ≤ gN ∧ gp < gN ∧ gk < gN ∧ gx < gN) := Lib.hid ⟨by have := BX3.out.size; omega, by have := PX3.out.lt; omega, by have := KX3.out.lt; omega, by have := XX3.out.blk.lt; omega⟩
              rw [hgN] at hZ ⊢
              clear hgN
              have BX4 : Hid (Below w.heap.size w X4) := Lib.hid (BX3.out.trans (hB.mono BX3.out.size))
              have PX4 : Hid (Blk X4 gp 24 [.int .u64 p0, .int .u64 p1]) := Lib.hid (PX3.out.below hB PX3.out.lt)
              have KX4 : Hid (Blk X4 gk 55 (ocells k amt (c.by_ T) id)) := Lib.hid (KX3.out.below hB KX3.out.lt)
              have XX4 : Hid (StAt X4 w.heap.size gx s a1 n c1) := Lib.hid (XX3.out.keep hB)
              have RX4 : Hid (X4.ownsRow w.heap.size 60 36 (.slice aN nN cN) nN (cflat S2.cs)) := Lib.hid (own_keep RX3.out hB)
              have ZX4 : Hid (Blk X4 gN 31 [.int .u32 0, .int .u64 0, .int .u64 0, .int .u64 0, .int .u64 0, .int .u64 0, .slice none 0 0]) := Lib.hid (hZ)
              clear BX3 PX3 KX3 XX3 RX3 hB hZ
              refine hK.out _ _ (⟨PX4.out, KX4.out, XX4.out⟩) (fun hHeld => ?_)
              clear hK K
              show wpAnyH _ _ _ _ _ _ _ (Act.put _ (some 11) _) _
              simp only [Act.put, List.setIfInBounds_toArray, List.set_cons_zero, List.set_cons_succ]
              refine wpAnyH_ready (rs := [11]) (by kernel_rfl) (by simp) ?_
              refine AllReadyH.cons rfl (fun K hK => ?_) AllReadyH.nil
              refine step_store rfl 31 (.tmp 11) (.tmp 82) rfl gN [.int .u32 S2.ch, .int .u64 S2.rd, .int .u64 S2.m0, .int .u64 S2.m1, .int .u64 S2.t0, .int .u64 S2.t1, .slice aN nN cN] rfl rfl 31 _ ZX4.out info31 rfl (by simp [Value.oneCell']) ?_
              intro X5 hZ hO
              have hKW : ∀ q, some gN = some q → w.heap.size ≤ q := fun q hq => by injection hq with hq; have := HGN.out; omega
              have hnP : some gp ≠ some gN := fun e => by injection e with e; have := HGN.out; omega
              have hnK : some gk ≠ some gN := fun e => by injection e with e; have := HGN.out; omega
              have hnX : gx ≠ gN := fun e => by have := HGN.out; omega
              have BX5 : Hid (Below w.heap.size w X5) := Lib.hid (BX4.out.grown hO BX4.out.size hKW)
              have PX5 : Hid (Blk X5 gp 24 [.int .u64 p0, .int .u64 p1]) := Lib.hid (PX4.out.grown hO hnP)
              have KX5 : Hid (Blk X5 gk 55 (ocells k amt (c.by_ T) id)) := Lib.hid (KX4.out.grown hO hnK)
              have XX5 : Hid (StAt X5 w.heap.size gx s a1 n c1) := Lib.hid (XX4.out.other hO hnX ZX4.out (by decide))
              have RX5 : Hid (X5.ownsRow w.heap.size 60 36 (.slice aN nN cN) nN (cflat S2.cs)) := Lib.hid (RX4.out.kept hO (.inr (fun e => own_ne RX4.out ZX4.out (by decide) e.symm)))
              have ZX5 : Hid (Blk X5 gN 31 [.int .u32 S2.ch, .int .u64 S2.rd, .int .u64 S2.m0, .int .u64 S2.m1, .int .u64 S2.t0, .int .u64 S2.t1, .slice aN nN cN]) := Lib.hid (hZ)
              clear BX4 PX4 KX4 XX4 RX4 hZ hO hKW ZX4 hnP hnK hnX
              refine hK.out _ _ (⟨PX5.out, KX5.out, XX5.out⟩) (fun hHeld => ?_)
              clear hK K
              show wpAnyH _ _ _ _ _ _ _ (Act.put _ none _) _
              simp only [Act.put]
              refine wpAnyH_take (i := 12) (v := .int .i64 E2) rfl (by kernel_rfl) (by kernel_rfl) (by kernel_rfl) (fun _ _ _ h => h) (Or.inl ⟨by rfl, fun w _ => by rfl⟩) hHeld ?_
              show wpAnyH _ _ _ _ _ _ _ (Act.put _ (some 12) _) _
              simp only [Act.put, List.setIfInBounds_toArray, List.set_cons_zero, List.set_cons_succ]
              refine wpAnyH_done (by kernel_rfl) ?_ _
              go_wp2
              go_meet
              exact ⟨gN, aN, nN, cN, rfl, rfl, BX5, PX5, KX5, XX5, Lib.hid ⟨ZX5.out, RX5.out, HSO.out, HLEN.out⟩, HGN⟩
            · refine step_new rfl 31 rfl #[.int .u32 0, .int .u64 0, .int .u64 0, .int .u64 0, .int .u64 0, .int .u64 0, .slice none 0 0] (.pointer (some ⟨X2.heap.size, 0, none⟩)) (by kernel_rfl) ?_
              have hB : Below X2.heap.size X2 (X2.alloc (.cells #[.int .u32 0, .int .u64 0, .int .u64 0, .int .u64 0, .int .u64 0, .int .u64 0, .slice none 0 0] 31)) := (Below.refl _ _).alloc (Nat.le_refl _) _
              have hZ := Blk.new X2 31 [.int .u32 0, .int .u64 0, .int .u64 0, .int .u64 0, .int .u64 0, .int .u64 0, .slice none 0 0]
              generalize X2.alloc (.cells #[.int .u32 0, .int .u64 0, .int .u64 0, .int .u64 0, .int .u64 0, .int .u64 0, .slice none 0 0] 31) = X3 at hB hZ ⊢
              obtain ⟨gN, hgN⟩ : ∃ q, X2.heap.size = q := ⟨_, rfl⟩
              have HGN : Hid (w.heap.size ≤ gN ∧ gp < gN ∧ gk < gN ∧ gx < gN) := Lib.hid ⟨by have := BX2.out.size; omega, by have := PX2.out.lt; omega, by have := KX2.out.lt; omega, by have := XX2.out.blk.lt; omega⟩
              rw [hgN] at hZ ⊢
              clear hgN
              have BX3 : Hid (Below w.heap.size w X3) := Lib.hid (BX2.out.trans (hB.mono BX2.out.size))
              have PX3 : Hid (Blk X3 gp 24 [.int .u64 p0, .int .u64 p1]) := Lib.hid (PX2.out.below hB PX2.out.lt)
              have KX3 : Hid (Blk X3 gk 55 (ocells k amt (c.by_ T) id)) := Lib.hid (KX2.out.below hB KX2.out.lt)
              have XX3 : Hid (StAt X3 w.heap.size gx s a1 n c1) := Lib.hid (XX2.out.keep hB)
              have ZX3 : Hid (Blk X3 gN 31 [.int .u32 0, .int .u64 0, .int .u64 0, .int .u64 0, .int .u64 0, .int .u64 0, .slice none 0 0]) := Lib.hid (hZ)
              clear BX2 PX2 KX2 XX2 hB hZ
              refine hK.out _ _ (⟨PX3.out, KX3.out, XX3.out⟩) (fun hHeld => ?_)
              clear hK K
              show wpAnyH _ _ _ _ _ _ _ (Act.put _ (some 11) _) _
              simp only [Act.put, List.setIfInBounds_toArray, List.set_cons_zero, List.set_cons_succ]
              refine wpAnyH_ready (rs := [6]) (by kernel_rfl) (by simp) ?_
              refine AllReadyH.cons rfl (fun K hK => ?_) AllReadyH.nil
              refine step_call rfl 24 #[.tmp 75, .tmp 76, .tmp 78, .tmp 80] #[31, 24, 36, 62] rfl #[.agg #[.int .u32 s.ch, .int .u64 s.rd, .int .u64 s.m0, .int .u64 s.m1, .int .u64 s.t0, .int .u64 s.t1, .slice a1 n c1], .agg #[.int .u64 p0, .int .u64 p1], .int .i64 O, .agg (ocells k amt (c.by_ T) id).toArray] (by simp [Act.eval]) (by go_simp) (HNX.out X3 XX3.out.row) ?_
              rintro e X4 ⟨aN, nN, cN, rfl, hR, hlen, hB⟩
              have HLEN := Lib.hid hlen
              have BX4 : Hid (Below w.heap.size w X4) := Lib.hid (BX3.out.trans (hB.mono BX3.out.size))
              have PX4 : Hid (Blk X4 gp 24 [.int .u64 p0, .int .u64 p1]) := Lib.hid (PX3.out.below hB PX3.out.lt)
              have KX4 : Hid (Blk X4 gk 55 (ocells k amt (c.by_ T) id)) := Lib.hid (KX3.out.below hB KX3.out.lt)
              have XX4 : Hid (StAt X4 w.heap.size gx s a1 n c1) := Lib.hid (XX3.out.keep hB)
              have ZX4 : Hid (Blk X4 gN 31 [.int .u32 0, .int .u64 0, .int .u64 0, .int .u64 0, .int .u64 0, .int .u64 0, .slice none 0 0]) := Lib.hid (ZX3.out.below hB ZX3.out.lt)
              have RX4 : Hid (X4.ownsRow w.heap.size 60 36 (.slice aN nN cN) nN (cflat S2.cs)) := Lib.hid (own_mono hR BX3.out.size)
              clear BX3 PX3 KX3 XX3 ZX3 hB hR hlen
              refine ⟨_, rfl, hK.out _ _ (⟨PX4.out, KX4.out, XX4.out⟩) (fun hHeld => ?_)⟩
              clear hK K
              show wpAnyH _ _ _ _ _ _ _ (Act.put _ (some 81) _) _
              simp only [Act.put, List.setIfInBounds_toArray, List.set_cons_zero, List.set_cons_succ]
              refine wpAnyH_take (i := 7) (v := .tuple #[.agg #[.int .u32 S2.ch, .int .u64 S2.rd, .int .u64 S2.m0, .int .u64 S2.m1, .int .u64 S2.t0, .int .u64 S2.t1, .slice aN nN cN], .int .i64 E2]) rfl (by kernel_rfl) (by kernel_rfl) (by kernel_rfl) (fun _ _ _ h => h) (Or.inl ⟨by rfl, fun w _ => by rfl⟩) hHeld ?_
              show wpAnyH _ _ _ _ _ _ _ (Act.put _ (some 74) _) _
              simp only [Act.put, List.setIfInBounds_toArray, List.set_cons_zero, List.set_cons_succ]
              refine wpAnyH_take (i := 8) (v := .agg #[.int .u32 S2.ch, .int .u64 S2.rd, .int .u64 S2.m0, .int .u64 S2.m1, .int .u64 S2.t0, .int .u64 S2.t1, .slice aN nN cN]) rfl (by kernel_rfl) (by kernel_rfl) (by kernel_rfl) (fun _ _ _ h => h) (Or.inl ⟨by rfl, by intro w' h; go_simp⟩) hHeld ?_
              show wpAnyH _ _ _ _ _ _ _ (Act.put _ (some 82) _) _
              simp only [Act.put, List.setIfInBounds_toArray, List.set_cons_zero, List.set_cons_succ]
              refine wpAnyH_take (i := 9) (v := .int .i64 E2) rfl (by kernel_rfl) (by kernel_rfl) (by kernel_rfl) (fun _ _ _ h => h) (Or.inl ⟨by rfl, by intro w' h; go_simp⟩) hHeld ?_
              show wpAnyH _ _ _ _ _ _ _ (Act.put _ (some 83) _) _
              simp only [Act.put, List.setIfInBounds_toArray, List.set_cons_zero, List.set_cons_succ]
              refine wpAnyH_ready (rs := [11]) (by kernel_rfl) (by simp) ?_
              refine AllReadyH.cons rfl (fun K hK => ?_) AllReadyH.nil
              refine step_store rfl 31 (.tmp 11) (.tmp 82) rfl gN [.int .u32 S2.ch, .int .u64 S2.rd, .int .u64 S2.m0, .int .u64 S2.m1, .int .u64 S2.t0, .int .u64 S2.t1, .slice aN nN cN] rfl rfl 31 _ ZX4.out info31 rfl (by simp [Value.oneCell']) ?_
              intro X5 hZ hO
              have hKW : ∀ q, some gN = some q → w.heap.size ≤ q := fun q hq => by injection hq with hq; have := HGN.out; omega
              have hnP : some gp ≠ some gN := fun e => by injection e with e; have := HGN.out; omega
              have hnK : some gk ≠ some gN := fun e => by injection e with e; have := HGN.out; omega
              have hnX : gx ≠ gN := fun e => by have := HGN.out; omega
              have BX5 : Hid (Below w.heap.size w X5) := Lib.hid (BX4.out.grown hO BX4.out.size hKW)
              have PX5 : Hid (Blk X5 gp 24 [.int .u64 p0, .int .u64 p1]) := Lib.hid (PX4.out.grown hO hnP)
              have KX5 : Hid (Blk X5 gk 55 (ocells k amt (c.by_ T) id)) := Lib.hid (KX4.out.grown hO hnK)
              have XX5 : Hid (StAt X5 w.heap.size gx s a1 n c1) := Lib.hid (XX4.out.other hO hnX ZX4.out (by decide))
              have RX5 : Hid (X5.ownsRow w.heap.size 60 36 (.slice aN nN cN) nN (cflat S2.cs)) := Lib.hid (RX4.out.kept hO (.inr (fun e => own_ne RX4.out ZX4.out (by decide) e.symm)))
              have ZX5 : Hid (Blk X5 gN 31 [.int .u32 S2.ch, .int .u64 S2.rd, .int .u64 S2.m0, .int .u64 S2.m1, .int .u64 S2.t0, .int .u64 S2.t1, .slice aN nN cN]) := Lib.hid (hZ)
              clear BX4 PX4 KX4 XX4 RX4 hZ hO hKW ZX4 hnP hnK hnX
              refine hK.out _ _ (⟨PX5.out, KX5.out, XX5.out⟩) (fun hHeld => ?_)
              clear hK K
              show wpAnyH _ _ _ _ _ _ _ (Act.put _ none _) _
              simp only [Act.put]
              refine wpAnyH_take (i := 12) (v := .int .i64 E2) rfl (by kernel_rfl) (by kernel_rfl) (by kernel_rfl) (fun _ _ _ h => h) (Or.inl ⟨by rfl, fun w _ => by rfl⟩) hHeld ?_
              show wpAnyH _ _ _ _ _ _ _ (Act.put _ (some 12) _) _
              simp only [Act.put, List.setIfInBounds_toArray, List.set_cons_zero, List.set_cons_succ]
              refine wpAnyH_done (by kernel_rfl) ?_ _
              go_wp2
              go_meet
              exact ⟨gN, aN, nN, cN, rfl, rfl, BX5, PX5, KX5, XX5, Lib.hid ⟨ZX5.out, RX5.out, HSO.out, HLEN.out⟩, HGN⟩
          · refine step_new rfl 31 rfl #[.int .u32 0, .int .u64 0, .int .u64 0, .int .u64 0, .int .u64 0, .int .u64 0, .slice none 0 0] (.pointer (some ⟨X0.heap.size, 0, none⟩)) (by kernel_rfl) ?_
            have hB : Below X0.heap.size X0 (X0.alloc (.cells #[.int .u32 0, .int .u64 0, .int .u64 0, .int .u64 0, .int .u64 0, .int .u64 0, .slice none 0 0] 31)) := (Below.refl _ _).alloc (Nat.le_refl _) _
            have hZ := Blk.new X0 31 [.int .u32 0, .int .u64 0, .int .u64 0, .int .u64 0, .int .u64 0, .int .u64 0, .slice none 0 0]
            generalize X0.alloc (.cells #[.int .u32 0, .int .u64 0, .int .u64 0, .int .u64 0, .int .u64 0, .int .u64 0, .slice none 0 0] 31) = X2 at hB hZ ⊢
            obtain ⟨gN, hgN⟩ : ∃ q, X0.heap.size = q := ⟨_, rfl⟩
            have HGN : Hid (w.heap.size ≤ gN ∧ gp < gN ∧ gk < gN ∧ gx < gN) := Lib.hid ⟨by have := BX0.out.size; omega, by have := PX0.out.lt; omega, by have := KX0.out.lt; omega, by have := XX0.out.blk.lt; omega⟩
            rw [hgN] at hZ ⊢
            clear hgN
            have BX2 : Hid (Below w.heap.size w X2) := Lib.hid (BX0.out.trans (hB.mono BX0.out.size))
            have PX2 : Hid (Blk X2 gp 24 [.int .u64 p0, .int .u64 p1]) := Lib.hid (PX0.out.below hB PX0.out.lt)
            have KX2 : Hid (Blk X2 gk 55 (ocells k amt (c.by_ T) id)) := Lib.hid (KX0.out.below hB KX0.out.lt)
            have XX2 : Hid (StAt X2 w.heap.size gx s a1 n c1) := Lib.hid (XX0.out.keep hB)
            have ZX2 : Hid (Blk X2 gN 31 [.int .u32 0, .int .u64 0, .int .u64 0, .int .u64 0, .int .u64 0, .int .u64 0, .slice none 0 0]) := Lib.hid (hZ)
            clear BX0 PX0 KX0 XX0 hB hZ
            refine hK.out _ _ (⟨PX2.out, KX2.out, XX2.out⟩) (fun hHeld => ?_)
            clear hK K
            show wpAnyH _ _ _ _ _ _ _ (Act.put _ (some 11) _) _
            simp only [Act.put, List.setIfInBounds_toArray, List.set_cons_zero, List.set_cons_succ]
            refine wpAnyH_ready (rs := [5]) (by kernel_rfl) (by simp) ?_
            refine AllReadyH.cons rfl (fun K hK => ?_) AllReadyH.nil
            refine step_call rfl 25 #[.tmp 79] #[55] rfl #[.agg (ocells k amt (c.by_ T) id).toArray] (by simp [Act.eval]) (by go_simp) (op_any k amt id (c.by_ T) X2 (HOK.out.by_ T)) ?_
            rintro e X3 ⟨rfl, hB⟩
            have BX3 : Hid (Below w.heap.size w X3) := Lib.hid (BX2.out.trans (hB.mono BX2.out.size))
            have PX3 : Hid (Blk X3 gp 24 [.int .u64 p0, .int .u64 p1]) := Lib.hid (PX2.out.below hB PX2.out.lt)
            have KX3 : Hid (Blk X3 gk 55 (ocells k amt (c.by_ T) id)) := Lib.hid (KX2.out.below hB KX2.out.lt)
            have XX3 : Hid (StAt X3 w.heap.size gx s a1 n c1) := Lib.hid (XX2.out.keep hB)
            have ZX3 : Hid (Blk X3 gN 31 [.int .u32 0, .int .u64 0, .int .u64 0, .int .u64 0, .int .u64 0, .int .u64 0, .slice none 0 0]) := Lib.hid (ZX2.out.below hB ZX2.out.lt)
            clear BX2 PX2 KX2 XX2 ZX2 hB
            refine ⟨_, rfl, hK.out _ _ (⟨PX3.out, KX3.out, XX3.out⟩) (fun hHeld => ?_)⟩
            clear hK K
            show wpAnyH _ _ _ _ _ _ _ (Act.put _ (some 80) _) _
            simp only [Act.put, List.setIfInBounds_toArray, List.set_cons_zero, List.set_cons_succ]
            refine wpAnyH_ready (rs := [6]) (by kernel_rfl) (by simp) ?_
            refine AllReadyH.cons rfl (fun K hK => ?_) AllReadyH.nil
            refine step_call rfl 24 #[.tmp 75, .tmp 76, .tmp 78, .tmp 80] #[31, 24, 36, 62] rfl #[.agg #[.int .u32 s.ch, .int .u64 s.rd, .int .u64 s.m0, .int .u64 s.m1, .int .u64 s.t0, .int .u64 s.t1, .slice a1 n c1], .agg #[.int .u64 p0, .int .u64 p1], .int .i64 O, .agg (ocells k amt (c.by_ T) id).toArray] (by simp [Act.eval]) (by go_simp) (HNX.out X3 XX3.out.row) ?_
            rintro e X4 ⟨aN, nN, cN, rfl, hR, hlen, hB⟩
            have HLEN := Lib.hid hlen
            have BX4 : Hid (Below w.heap.size w X4) := Lib.hid (BX3.out.trans (hB.mono BX3.out.size))
            have PX4 : Hid (Blk X4 gp 24 [.int .u64 p0, .int .u64 p1]) := Lib.hid (PX3.out.below hB PX3.out.lt)
            have KX4 : Hid (Blk X4 gk 55 (ocells k amt (c.by_ T) id)) := Lib.hid (KX3.out.below hB KX3.out.lt)
            have XX4 : Hid (StAt X4 w.heap.size gx s a1 n c1) := Lib.hid (XX3.out.keep hB)
            have ZX4 : Hid (Blk X4 gN 31 [.int .u32 0, .int .u64 0, .int .u64 0, .int .u64 0, .int .u64 0, .int .u64 0, .slice none 0 0]) := Lib.hid (ZX3.out.below hB ZX3.out.lt)
            have RX4 : Hid (X4.ownsRow w.heap.size 60 36 (.slice aN nN cN) nN (cflat S2.cs)) := Lib.hid (own_mono hR BX3.out.size)
            clear BX3 PX3 KX3 XX3 ZX3 hB hR hlen
            refine ⟨_, rfl, hK.out _ _ (⟨PX4.out, KX4.out, XX4.out⟩) (fun hHeld => ?_)⟩
            clear hK K
            show wpAnyH _ _ _ _ _ _ _ (Act.put _ (some 81) _) _
            simp only [Act.put, List.setIfInBounds_toArray, List.set_cons_zero, List.set_cons_succ]
            refine wpAnyH_take (i := 7) (v := .tuple #[.agg #[.int .u32 S2.ch, .int .u64 S2.rd, .int .u64 S2.m0, .int .u64 S2.m1, .int .u64 S2.t0, .int .u64 S2.t1, .slice aN nN cN], .int .i64 E2]) rfl (by kernel_rfl) (by kernel_rfl) (by kernel_rfl) (fun _ _ _ h => h) (Or.inl ⟨by rfl, fun w _ => by rfl⟩) hHeld ?_
            show wpAnyH _ _ _ _ _ _ _ (Act.put _ (some 74) _) _
            simp only [Act.put, List.setIfInBounds_toArray, List.set_cons_zero, List.set_cons_succ]
            refine wpAnyH_take (i := 8) (v := .agg #[.int .u32 S2.ch, .int .u64 S2.rd, .int .u64 S2.m0, .int .u64 S2.m1, .int .u64 S2.t0, .int .u64 S2.t1, .slice aN nN cN]) rfl (by kernel_rfl) (by kernel_rfl) (by kernel_rfl) (fun _ _ _ h => h) (Or.inl ⟨by rfl, by intro w' h; go_simp⟩) hHeld ?_
            show wpAnyH _ _ _ _ _ _ _ (Act.put _ (some 82) _) _
            simp only [Act.put, List.setIfInBounds_toArray, List.set_cons_zero, List.set_cons_succ]
            refine wpAnyH_take (i := 9) (v := .int .i64 E2) rfl (by kernel_rfl) (by kernel_rfl) (by kernel_rfl) (fun _ _ _ h => h) (Or.inl ⟨by rfl, by intro w' h; go_simp⟩) hHeld ?_
            show wpAnyH _ _ _ _ _ _ _ (Act.put _ (some 83) _) _
            simp only [Act.put, List.setIfInBounds_toArray, List.set_cons_zero, List.set_cons_succ]
            refine wpAnyH_ready (rs := [11]) (by kernel_rfl) (by simp) ?_
            refine AllReadyH.cons rfl (fun K hK => ?_) AllReadyH.nil
            refine step_store rfl 31 (.tmp 11) (.tmp 82) rfl gN [.int .u32 S2.ch, .int .u64 S2.rd, .int .u64 S2.m0, .int .u64 S2.m1, .int .u64 S2.t0, .int .u64 S2.t1, .slice aN nN cN] rfl rfl 31 _ ZX4.out info31 rfl (by simp [Value.oneCell']) ?_
            intro X5 hZ hO
            have hKW : ∀ q, some gN = some q → w.heap.size ≤ q := fun q hq => by injection hq with hq; have := HGN.out; omega
            have hnP : some gp ≠ some gN := fun e => by injection e with e; have := HGN.out; omega
            have hnK : some gk ≠ some gN := fun e => by injection e with e; have := HGN.out; omega
            have hnX : gx ≠ gN := fun e => by have := HGN.out; omega
            have BX5 : Hid (Below w.heap.size w X5) := Lib.hid (BX4.out.grown hO BX4.out.size hKW)
            have PX5 : Hid (Blk X5 gp 24 [.int .u64 p0, .int .u64 p1]) := Lib.hid (PX4.out.grown hO hnP)
            have KX5 : Hid (Blk X5 gk 55 (ocells k amt (c.by_ T) id)) := Lib.hid (KX4.out.grown hO hnK)
            have XX5 : Hid (StAt X5 w.heap.size gx s a1 n c1) := Lib.hid (XX4.out.other hO hnX ZX4.out (by decide))
            have RX5 : Hid (X5.ownsRow w.heap.size 60 36 (.slice aN nN cN) nN (cflat S2.cs)) := Lib.hid (RX4.out.kept hO (.inr (fun e => own_ne RX4.out ZX4.out (by decide) e.symm)))
            have ZX5 : Hid (Blk X5 gN 31 [.int .u32 S2.ch, .int .u64 S2.rd, .int .u64 S2.m0, .int .u64 S2.m1, .int .u64 S2.t0, .int .u64 S2.t1, .slice aN nN cN]) := Lib.hid (hZ)
            clear BX4 PX4 KX4 XX4 RX4 hZ hO hKW ZX4 hnP hnK hnX
            refine hK.out _ _ (⟨PX5.out, KX5.out, XX5.out⟩) (fun hHeld => ?_)
            clear hK K
            show wpAnyH _ _ _ _ _ _ _ (Act.put _ none _) _
            simp only [Act.put]
            refine wpAnyH_take (i := 12) (v := .int .i64 E2) rfl (by kernel_rfl) (by kernel_rfl) (by kernel_rfl) (fun _ _ _ h => h) (Or.inl ⟨by rfl, fun w _ => by rfl⟩) hHeld ?_
            show wpAnyH _ _ _ _ _ _ _ (Act.put _ (some 12) _) _
            simp only [Act.put, List.setIfInBounds_toArray, List.set_cons_zero, List.set_cons_succ]
            refine wpAnyH_done (by kernel_rfl) ?_ _
            go_wp2
            go_meet
            exact ⟨gN, aN, nN, cN, rfl, rfl, BX5, PX5, KX5, XX5, Lib.hid ⟨ZX5.out, RX5.out, HSO.out, HLEN.out⟩, HGN⟩
        · refine step_new rfl 31 rfl #[.int .u32 0, .int .u64 0, .int .u64 0, .int .u64 0, .int .u64 0, .int .u64 0, .slice none 0 0] (.pointer (some ⟨X0.heap.size, 0, none⟩)) (by kernel_rfl) ?_
          have hB : Below X0.heap.size X0 (X0.alloc (.cells #[.int .u32 0, .int .u64 0, .int .u64 0, .int .u64 0, .int .u64 0, .int .u64 0, .slice none 0 0] 31)) := (Below.refl _ _).alloc (Nat.le_refl _) _
          have hZ := Blk.new X0 31 [.int .u32 0, .int .u64 0, .int .u64 0, .int .u64 0, .int .u64 0, .int .u64 0, .slice none 0 0]
          generalize X0.alloc (.cells #[.int .u32 0, .int .u64 0, .int .u64 0, .int .u64 0, .int .u64 0, .int .u64 0, .slice none 0 0] 31) = X1 at hB hZ ⊢
          obtain ⟨gN, hgN⟩ : ∃ q, X0.heap.size = q := ⟨_, rfl⟩
          have HGN : Hid (w.heap.size ≤ gN ∧ gp < gN ∧ gk < gN ∧ gx < gN) := Lib.hid ⟨by have := BX0.out.size; omega, by have := PX0.out.lt; omega, by have := KX0.out.lt; omega, by have := XX0.out.blk.lt; omega⟩
          rw [hgN] at hZ ⊢
          clear hgN
          have BX1 : Hid (Below w.heap.size w X1) := Lib.hid (BX0.out.trans (hB.mono BX0.out.size))
          have PX1 : Hid (Blk X1 gp 24 [.int .u64 p0, .int .u64 p1]) := Lib.hid (PX0.out.below hB PX0.out.lt)
          have KX1 : Hid (Blk X1 gk 55 (ocells k amt (c.by_ T) id)) := Lib.hid (KX0.out.below hB KX0.out.lt)
          have XX1 : Hid (StAt X1 w.heap.size gx s a1 n c1) := Lib.hid (XX0.out.keep hB)
          have ZX1 : Hid (Blk X1 gN 31 [.int .u32 0, .int .u64 0, .int .u64 0, .int .u64 0, .int .u64 0, .int .u64 0, .slice none 0 0]) := Lib.hid (hZ)
          clear BX0 PX0 KX0 XX0 hB hZ
          refine hK.out _ _ (⟨PX1.out, KX1.out, XX1.out⟩) (fun hHeld => ?_)
          clear hK K
          show wpAnyH _ _ _ _ _ _ _ (Act.put _ (some 11) _) _
          simp only [Act.put, List.setIfInBounds_toArray, List.set_cons_zero, List.set_cons_succ]
          refine wpAnyH_ready (rs := [3]) (by kernel_rfl) (by simp) ?_
          refine AllReadyH.cons rfl (fun K hK => ?_) AllReadyH.nil
          refine step_call rfl 31 #[.tmp 77] #[36] rfl #[.int .i64 T] (by simp [Act.eval]) (by go_simp) (HO1.out X1) ?_
          rintro e X2 ⟨rfl, rfl⟩
          refine ⟨_, rfl, hK.out _ _ (⟨PX1.out, KX1.out, XX1.out⟩) (fun hHeld => ?_)⟩
          clear hK K
          show wpAnyH _ _ _ _ _ _ _ (Act.put _ (some 78) _) _
          simp only [Act.put, List.setIfInBounds_toArray, List.set_cons_zero, List.set_cons_succ]
          refine wpAnyH_ready (rs := [5]) (by kernel_rfl) (by simp) ?_
          refine AllReadyH.cons rfl (fun K hK => ?_) AllReadyH.nil
          refine step_call rfl 25 #[.tmp 79] #[55] rfl #[.agg (ocells k amt (c.by_ T) id).toArray] (by simp [Act.eval]) (by go_simp) (op_any k amt id (c.by_ T) X1 (HOK.out.by_ T)) ?_
          rintro e X3 ⟨rfl, hB⟩
          have BX3 : Hid (Below w.heap.size w X3) := Lib.hid (BX1.out.trans (hB.mono BX1.out.size))
          have PX3 : Hid (Blk X3 gp 24 [.int .u64 p0, .int .u64 p1]) := Lib.hid (PX1.out.below hB PX1.out.lt)
          have KX3 : Hid (Blk X3 gk 55 (ocells k amt (c.by_ T) id)) := Lib.hid (KX1.out.below hB KX1.out.lt)
          have XX3 : Hid (StAt X3 w.heap.size gx s a1 n c1) := Lib.hid (XX1.out.keep hB)
          have ZX3 : Hid (Blk X3 gN 31 [.int .u32 0, .int .u64 0, .int .u64 0, .int .u64 0, .int .u64 0, .int .u64 0, .slice none 0 0]) := Lib.hid (ZX1.out.below hB ZX1.out.lt)
          clear BX1 PX1 KX1 XX1 ZX1 hB
          refine ⟨_, rfl, hK.out _ _ (⟨PX3.out, KX3.out, XX3.out⟩) (fun hHeld => ?_)⟩
          clear hK K
          show wpAnyH _ _ _ _ _ _ _ (Act.put _ (some 80) _) _
          simp only [Act.put, List.setIfInBounds_toArray, List.set_cons_zero, List.set_cons_succ]
          refine wpAnyH_ready (rs := [6]) (by kernel_rfl) (by simp) ?_
          refine AllReadyH.cons rfl (fun K hK => ?_) AllReadyH.nil
          refine step_call rfl 24 #[.tmp 75, .tmp 76, .tmp 78, .tmp 80] #[31, 24, 36, 62] rfl #[.agg #[.int .u32 s.ch, .int .u64 s.rd, .int .u64 s.m0, .int .u64 s.m1, .int .u64 s.t0, .int .u64 s.t1, .slice a1 n c1], .agg #[.int .u64 p0, .int .u64 p1], .int .i64 O, .agg (ocells k amt (c.by_ T) id).toArray] (by simp [Act.eval]) (by go_simp) (HNX.out X3 XX3.out.row) ?_
          rintro e X4 ⟨aN, nN, cN, rfl, hR, hlen, hB⟩
          have HLEN := Lib.hid hlen
          have BX4 : Hid (Below w.heap.size w X4) := Lib.hid (BX3.out.trans (hB.mono BX3.out.size))
          have PX4 : Hid (Blk X4 gp 24 [.int .u64 p0, .int .u64 p1]) := Lib.hid (PX3.out.below hB PX3.out.lt)
          have KX4 : Hid (Blk X4 gk 55 (ocells k amt (c.by_ T) id)) := Lib.hid (KX3.out.below hB KX3.out.lt)
          have XX4 : Hid (StAt X4 w.heap.size gx s a1 n c1) := Lib.hid (XX3.out.keep hB)
          have ZX4 : Hid (Blk X4 gN 31 [.int .u32 0, .int .u64 0, .int .u64 0, .int .u64 0, .int .u64 0, .int .u64 0, .slice none 0 0]) := Lib.hid (ZX3.out.below hB ZX3.out.lt)
          have RX4 : Hid (X4.ownsRow w.heap.size 60 36 (.slice aN nN cN) nN (cflat S2.cs)) := Lib.hid (own_mono hR BX3.out.size)
          clear BX3 PX3 KX3 XX3 ZX3 hB hR hlen
          refine ⟨_, rfl, hK.out _ _ (⟨PX4.out, KX4.out, XX4.out⟩) (fun hHeld => ?_)⟩
          clear hK K
          show wpAnyH _ _ _ _ _ _ _ (Act.put _ (some 81) _) _
          simp only [Act.put, List.setIfInBounds_toArray, List.set_cons_zero, List.set_cons_succ]
          refine wpAnyH_take (i := 7) (v := .tuple #[.agg #[.int .u32 S2.ch, .int .u64 S2.rd, .int .u64 S2.m0, .int .u64 S2.m1, .int .u64 S2.t0, .int .u64 S2.t1, .slice aN nN cN], .int .i64 E2]) rfl (by kernel_rfl) (by kernel_rfl) (by kernel_rfl) (fun _ _ _ h => h) (Or.inl ⟨by rfl, fun w _ => by rfl⟩) hHeld ?_
          show wpAnyH _ _ _ _ _ _ _ (Act.put _ (some 74) _) _
          simp only [Act.put, List.setIfInBounds_toArray, List.set_cons_zero, List.set_cons_succ]
          refine wpAnyH_take (i := 8) (v := .agg #[.int .u32 S2.ch, .int .u64 S2.rd, .int .u64 S2.m0, .int .u64 S2.m1, .int .u64 S2.t0, .int .u64 S2.t1, .slice aN nN cN]) rfl (by kernel_rfl) (by kernel_rfl) (by kernel_rfl) (fun _ _ _ h => h) (Or.inl ⟨by rfl, by intro w' h; go_simp⟩) hHeld ?_
          show wpAnyH _ _ _ _ _ _ _ (Act.put _ (some 82) _) _
          simp only [Act.put, List.setIfInBounds_toArray, List.set_cons_zero, List.set_cons_succ]
          refine wpAnyH_take (i := 9) (v := .int .i64 E2) rfl (by kernel_rfl) (by kernel_rfl) (by kernel_rfl) (fun _ _ _ h => h) (Or.inl ⟨by rfl, by intro w' h; go_simp⟩) hHeld ?_
          show wpAnyH _ _ _ _ _ _ _ (Act.put _ (some 83) _) _
          simp only [Act.put, List.setIfInBounds_toArray, List.set_cons_zero, List.set_cons_succ]
          refine wpAnyH_ready (rs := [11]) (by kernel_rfl) (by simp) ?_
          refine AllReadyH.cons rfl (fun K hK => ?_) AllReadyH.nil
          refine step_store rfl 31 (.tmp 11) (.tmp 82) rfl gN [.int .u32 S2.ch, .int .u64 S2.rd, .int .u64 S2.m0, .int .u64 S2.m1, .int .u64 S2.t0, .int .u64 S2.t1, .slice aN nN cN] rfl rfl 31 _ ZX4.out info31 rfl (by simp [Value.oneCell']) ?_
          intro X5 hZ hO
          have hKW : ∀ q, some gN = some q → w.heap.size ≤ q := fun q hq => by injection hq with hq; have := HGN.out; omega
          have hnP : some gp ≠ some gN := fun e => by injection e with e; have := HGN.out; omega
          have hnK : some gk ≠ some gN := fun e => by injection e with e; have := HGN.out; omega
          have hnX : gx ≠ gN := fun e => by have := HGN.out; omega
          have BX5 : Hid (Below w.heap.size w X5) := Lib.hid (BX4.out.grown hO BX4.out.size hKW)
          have PX5 : Hid (Blk X5 gp 24 [.int .u64 p0, .int .u64 p1]) := Lib.hid (PX4.out.grown hO hnP)
          have KX5 : Hid (Blk X5 gk 55 (ocells k amt (c.by_ T) id)) := Lib.hid (KX4.out.grown hO hnK)
          have XX5 : Hid (StAt X5 w.heap.size gx s a1 n c1) := Lib.hid (XX4.out.other hO hnX ZX4.out (by decide))
          have RX5 : Hid (X5.ownsRow w.heap.size 60 36 (.slice aN nN cN) nN (cflat S2.cs)) := Lib.hid (RX4.out.kept hO (.inr (fun e => own_ne RX4.out ZX4.out (by decide) e.symm)))
          have ZX5 : Hid (Blk X5 gN 31 [.int .u32 S2.ch, .int .u64 S2.rd, .int .u64 S2.m0, .int .u64 S2.m1, .int .u64 S2.t0, .int .u64 S2.t1, .slice aN nN cN]) := Lib.hid (hZ)
          clear BX4 PX4 KX4 XX4 RX4 hZ hO hKW ZX4 hnP hnK hnX
          refine hK.out _ _ (⟨PX5.out, KX5.out, XX5.out⟩) (fun hHeld => ?_)
          clear hK K
          show wpAnyH _ _ _ _ _ _ _ (Act.put _ none _) _
          simp only [Act.put]
          refine wpAnyH_take (i := 12) (v := .int .i64 E2) rfl (by kernel_rfl) (by kernel_rfl) (by kernel_rfl) (fun _ _ _ h => h) (Or.inl ⟨by rfl, fun w _ => by rfl⟩) hHeld ?_
          show wpAnyH _ _ _ _ _ _ _ (Act.put _ (some 12) _) _
          simp only [Act.put, List.setIfInBounds_toArray, List.set_cons_zero, List.set_cons_succ]
          refine wpAnyH_done (by kernel_rfl) ?_ _
          go_wp2
          go_meet
          exact ⟨gN, aN, nN, cN, rfl, rfl, BX5, PX5, KX5, XX5, Lib.hid ⟨ZX5.out, RX5.out, HSO.out, HLEN.out⟩, HGN⟩
      case rest =>
        clear BD PD KD XD HNX
        obtain ⟨gz, a3, n3, c3, rfl, rfl, BE, PE, KE, XE, YE, HGZ⟩ := hcut
        generalize wc = F at BE PE KE XE YE ⊢
        go_wp2_with fail
        refine (awake_any F).mono ?_
        rintro e Z ⟨rfl, hB⟩
        have hw := HW.out
        rw [HOO.out, HE2.out] at hw
        have b5 : (E2 != 0) = true := by simpa using hw.1
        have b6 : (E1 != 0) = false := by simpa using H1.out
        have b7 : (E2 == 26) = true := by simpa using hw.2 (by rw [HE1.out]; exact H1.out)
        clear hw
        go_wp2
        go_ret
        exact ⟨rfl, BE.out.trans (hB.mono BE.out.size)⟩
    case neg =>
      have b1 : (E1 == 0) = false := by simpa using h1
      skip
      have H1 := Lib.hid h1
      clear h1
      go_upto_region 11 with fail
      clear s0 s1 s2 s3 s4 s5 s6 t0 t1 t2 t3 t4 t5 t6 XK YK b1 HSO YD
      obtain ⟨E2, hE2⟩ : ∃ q, nextE s p0 p1 O k amt (c.by_ T) id = q := ⟨_, rfl⟩
      obtain ⟨S2, hS2⟩ : ∃ q, nextS s p0 p1 O k amt (c.by_ T) id = q := ⟨_, rfl⟩
      have HNX : Hid (∀ X, CRow X a1 s.cs → Calls Try.prog 24 #[.agg #[.int .u32 s.ch, .int .u64 s.rd, .int .u64 s.m0, .int .u64 s.m1, .int .u64 s.t0, .int .u64 s.t1, .slice a1 n c1], .agg #[.int .u64 p0, .int .u64 p1], .int .i64 O, .agg (ocells k amt (c.by_ T) id).toArray] X (NextPost S2 E2 X)) := Lib.hid (fun X hC => by
        have := next_any n c1 s a1 p0 p1 O k amt id (c.by_ T) X hC XD.out.nil_ XD.out.len (by omega) (HOK.out.by_ T) hamt hp0 hp1 HO.out
        rwa [hE2, hS2] at this)
      have HE2 := Lib.hid hE2
      have HS2 := Lib.hid hS2
      have HSO : Hid (∀ x ∈ S2.cs, x.Ok) := Lib.hid (by
        rw [← hS2]; unfold nextS
        split
        · exact doS_cok s.nxt XD.out.ok _ _ _ _ (HOK.out.by_ T) _
        · intro x hx; cases hx)
      clear hE2 hS2
      go_cut [11, 12] (fun s7 s8 wc => ∃ gN aN nN cN, s7 = .pointer (some ⟨gN, 0, none⟩) ∧ s8 = .int .i64 E2 ∧ Hid (Below w.heap.size w wc) ∧ Hid (Blk wc gp 24 [.int .u64 p0, .int .u64 p1]) ∧ Hid (Blk wc gk 55 (ocells k amt (c.by_ T) id)) ∧ Hid (StAt wc w.heap.size gx s a1 n c1) ∧ Hid (StAt wc w.heap.size gN S2 aN nN cN) ∧ Hid (w.heap.size ≤ gN ∧ gp < gN ∧ gk < gN ∧ gx < gN))
      case first =>
        have hBz : Below D.heap.size D D.drew := below_drewN (Below.refl _ _) 1
        have BX0 : Hid (Below w.heap.size w D.drew) := Lib.hid (BD.out.trans (hBz.mono BD.out.size))
        have PX0 : Hid (Blk D.drew gp 24 [.int .u64 p0, .int .u64 p1]) := Lib.hid (PD.out.below hBz PD.out.lt)
        have KX0 : Hid (Blk D.drew gk 55 (ocells k amt (c.by_ T) id)) := Lib.hid (KD.out.below hBz KD.out.lt)
        have XX0 : Hid (StAt D.drew w.heap.size gx s a1 n c1) := Lib.hid (XD.out.keep hBz)
        clear hBz
        refine wp_region_held_drew (S := fun w' => Blk w' gp 24 [.int .u64 p0, .int .u64 p1] ∧ Blk w' gk 55 (ocells k amt (c.by_ T) id) ∧ StAt w' w.heap.size gx s a1 n c1) (by kernel_rfl) (⟨PX0.out, KX0.out, XX0.out⟩) (fun hHeld => ?_)
        generalize D.drew = X0 at hHeld BX0 PX0 KX0 XX0 ⊢
        refine wpAnyH_take (i := 0) (v := .agg #[.int .u32 s.ch, .int .u64 s.rd, .int .u64 s.m0, .int .u64 s.m1, .int .u64 s.t0, .int .u64 s.t1, .slice a1 n c1]) rfl (by kernel_rfl) (by kernel_rfl) (by kernel_rfl) (fun _ _ _ h => h) (Or.inl ⟨by rfl, by intro w' h; have q0 := Blk.cell h.2.2.blk 0; have q1 := Blk.cell h.2.2.blk 1; have q2 := Blk.cell h.2.2.blk 2; have q3 := Blk.cell h.2.2.blk 3; have q4 := Blk.cell h.2.2.blk 4; have q5 := Blk.cell h.2.2.blk 5; have q6 := Blk.cell h.2.2.blk 6; simp only [List.getElem?_cons_zero, List.getElem?_cons_succ] at q0 q1 q2 q3 q4 q5 q6; go_simp⟩) hHeld ?_
        show wpAnyH _ _ _ _ _ _ _ (Act.put _ (some 75) _) _
        simp only [Act.put, List.setIfInBounds_toArray, List.set_cons_zero, List.set_cons_succ]
        refine wpAnyH_take (i := 1) (v := .agg #[.int .u64 p0, .int .u64 p1]) rfl (by kernel_rfl) (by kernel_rfl) (by kernel_rfl) (fun _ _ _ h => h) (Or.inl ⟨by rfl, by intro w' h; have q0 := Blk.cell h.1 0; have q1 := Blk.cell h.1 1; simp only [List.getElem?_cons_zero, List.getElem?_cons_succ] at q0 q1; go_simp⟩) hHeld ?_
        show wpAnyH _ _ _ _ _ _ _ (Act.put _ (some 76) _) _
        simp only [Act.put, List.setIfInBounds_toArray, List.set_cons_zero, List.set_cons_succ]
        refine wpAnyH_take (i := 2) (v := .int .i64 T) rfl (by kernel_rfl) (by kernel_rfl) (by kernel_rfl) (fun _ _ _ h => h) (Or.inl ⟨by rfl, fun w _ => by rfl⟩) hHeld ?_
        show wpAnyH _ _ _ _ _ _ _ (Act.put _ (some 77) _) _
        simp only [Act.put, List.setIfInBounds_toArray, List.set_cons_zero, List.set_cons_succ]
        refine wpAnyH_take (i := 4) (v := .agg (ocells k amt (c.by_ T) id).toArray) rfl (by kernel_rfl) (by kernel_rfl) (by kernel_rfl) (fun _ _ _ h => h) (yieldsIf_load_mid (by rfl) 55 (.tmp 5) rfl gk 0 rfl (ocells k amt (c.by_ T) id) _ (fun w h => Blk.all h.2.1) Try.underlying55 rfl HZK.out) hHeld ?_
        show wpAnyH _ _ _ _ _ _ _ (Act.put _ (some 79) _) _
        simp only [Act.put, List.setIfInBounds_toArray, List.set_cons_zero, List.set_cons_succ]
        refine wpAnyH_ready (rs := [3, 10]) (by kernel_rfl) (by simp) ?_
        refine AllReadyH.cons rfl (fun K hK => ?_) (AllReadyH.cons rfl (fun K hK => ?_) AllReadyH.nil)
        · refine step_call rfl 31 #[.tmp 77] #[36] rfl #[.int .i64 T] (by simp [Act.eval]) (by go_simp) (HO1.out X0) ?_
          rintro e X1 ⟨rfl, rfl⟩
          refine ⟨_, rfl, hK.out _ _ (⟨PX0.out, KX0.out, XX0.out⟩) (fun hHeld => ?_)⟩
          clear hK K
          show wpAnyH _ _ _ _ _ _ _ (Act.put _ (some 78) _) _
          simp only [Act.put, List.setIfInBounds_toArray, List.set_cons_zero, List.set_cons_succ]
          refine wpAnyH_ready (rs := [5, 10]) (by kernel_rfl) (by simp) ?_
          refine AllReadyH.cons rfl (fun K hK => ?_) (AllReadyH.cons rfl (fun K hK => ?_) AllReadyH.nil)
          · refine step_call rfl 25 #[.tmp 79] #[55] rfl #[.agg (ocells k amt (c.by_ T) id).toArray] (by simp [Act.eval]) (by go_simp) (op_any k amt id (c.by_ T) X0 (HOK.out.by_ T)) ?_
            rintro e X2 ⟨rfl, hB⟩
            have BX2 : Hid (Below w.heap.size w X2) := Lib.hid (BX0.out.trans (hB.mono BX0.out.size))
            have PX2 : Hid (Blk X2 gp 24 [.int .u64 p0, .int .u64 p1]) := Lib.hid (PX0.out.below hB PX0.out.lt)
            have KX2 : Hid (Blk X2 gk 55 (ocells k amt (c.by_ T) id)) := Lib.hid (KX0.out.below hB KX0.out.lt)
            have XX2 : Hid (StAt X2 w.heap.size gx s a1 n c1) := Lib.hid (XX0.out.keep hB)
            clear BX0 PX0 KX0 XX0 hB
            refine ⟨_, rfl, hK.out _ _ (⟨PX2.out, KX2.out, XX2.out⟩) (fun hHeld => ?_)⟩
            clear hK K
            show wpAnyH _ _ _ _ _ _ _ (Act.put _ (some 80) _) _
            simp only [Act.put, List.setIfInBounds_toArray, List.set_cons_zero, List.set_cons_succ]
            refine wpAnyH_ready (rs := [6, 10]) (by kernel_rfl) (by simp) ?_
            refine AllReadyH.cons rfl (fun K hK => ?_) (AllReadyH.cons rfl (fun K hK => ?_) AllReadyH.nil)
            · refine step_call rfl 24 #[.tmp 75, .tmp 76, .tmp 78, .tmp 80] #[31, 24, 36, 62] rfl #[.agg #[.int .u32 s.ch, .int .u64 s.rd, .int .u64 s.m0, .int .u64 s.m1, .int .u64 s.t0, .int .u64 s.t1, .slice a1 n c1], .agg #[.int .u64 p0, .int .u64 p1], .int .i64 O, .agg (ocells k amt (c.by_ T) id).toArray] (by simp [Act.eval]) (by go_simp) (HNX.out X2 XX2.out.row) ?_
              rintro e X3 ⟨aN, nN, cN, rfl, hR, hlen, hB⟩
              have HLEN := Lib.hid hlen
              have BX3 : Hid (Below w.heap.size w X3) := Lib.hid (BX2.out.trans (hB.mono BX2.out.size))
              have PX3 : Hid (Blk X3 gp 24 [.int .u64 p0, .int .u64 p1]) := Lib.hid (PX2.out.below hB PX2.out.lt)
              have KX3 : Hid (Blk X3 gk 55 (ocells k amt (c.by_ T) id)) := Lib.hid (KX2.out.below hB KX2.out.lt)
              have XX3 : Hid (StAt X3 w.heap.size gx s a1 n c1) := Lib.hid (XX2.out.keep hB)
              have RX3 : Hid (X3.ownsRow w.heap.size 60 36 (.slice aN nN cN) nN (cflat S2.cs)) := Lib.hid (own_mono hR BX2.out.size)
              clear BX2 PX2 KX2 XX2 hB hR hlen
              refine ⟨_, rfl, hK.out _ _ (⟨PX3.out, KX3.out, XX3.out⟩) (fun hHeld => ?_)⟩
              clear hK K
              show wpAnyH _ _ _ _ _ _ _ (Act.put _ (some 81) _) _
              simp only [Act.put, List.setIfInBounds_toArray, List.set_cons_zero, List.set_cons_succ]
              refine wpAnyH_take (i := 7) (v := .tuple #[.agg #[.int .u32 S2.ch, .int .u64 S2.rd, .int .u64 S2.m0, .int .u64 S2.m1, .int .u64 S2.t0, .int .u64 S2.t1, .slice aN nN cN], .int .i64 E2]) rfl (by kernel_rfl) (by kernel_rfl) (by kernel_rfl) (fun _ _ _ h => h) (Or.inl ⟨by rfl, fun w _ => by rfl⟩) hHeld ?_
              show wpAnyH _ _ _ _ _ _ _ (Act.put _ (some 74) _) _
              simp only [Act.put, List.setIfInBounds_toArray, List.set_cons_zero, List.set_cons_succ]
              refine wpAnyH_take (i := 8) (v := .agg #[.int .u32 S2.ch, .int .u64 S2.rd, .int .u64 S2.m0, .int .u64 S2.m1, .int .u64 S2.t0, .int .u64 S2.t1, .slice aN nN cN]) rfl (by kernel_rfl) (by kernel_rfl) (by kernel_rfl) (fun _ _ _ h => h) (Or.inl ⟨by rfl, by intro w' h; go_simp⟩) hHeld ?_
              show wpAnyH _ _ _ _ _ _ _ (Act.put _ (some 82) _) _
              simp only [Act.put, List.setIfInBounds_toArray, List.set_cons_zero, List.set_cons_succ]
              refine wpAnyH_take (i := 9) (v := .int .i64 E2) rfl (by kernel_rfl) (by kernel_rfl) (by kernel_rfl) (fun _ _ _ h => h) (Or.inl ⟨by rfl, by intro w' h; go_simp⟩) hHeld ?_
              show wpAnyH _ _ _ _ _ _ _ (Act.put _ (some 83) _) _
              simp only [Act.put, List.setIfInBounds_toArray, List.set_cons_zero, List.set_cons_succ]
              refine wpAnyH_ready (rs := [10]) (by kernel_rfl) (by simp) ?_
              refine AllReadyH.cons rfl (fun K hK => ?_) AllReadyH.nil
              refine step_new rfl 31 rfl #[.int .u32 0, .int .u64 0, .int .u64 0, .int .u64 0, .int .u64 0, .int .u64 0, .slice none 0 0] (.pointer (some ⟨X3.heap.size, 0, none⟩)) (by kernel_rfl) ?_
              have hB : Below X3.heap.size X3 (X3.alloc (.cells #[.int .u32 0, .int .u64 0, .int .u64 0, .int .u64 0, .int .u64 0, .int .u64 0, .slice none 0 0] 31)) := (Below.refl _ _).alloc (Nat.le_refl _) _
              have hZ := Blk.new X3 31 [.int .u32 0, .int .u64 0, .int .u64 0, .int .u64 0, .int .u64 0, .int .u64 0, .slice none 0 0]
              generalize X3.alloc (.cells #[.int .u32 0, .int .u64 0, .int .u64 0, .int .u64 0, .int .u64 0, .int .u64 0, .slice none 0 0] 31) = X4 at hB hZ ⊢
              obtain ⟨gN, hgN⟩ : ∃ q, X3.heap.size = q := ⟨_, rfl⟩
              have HGN : Hid (w.heap.size ≤ gN ∧ gp < gN ∧ gk < gN ∧ gx < gN) := Lib.hid ⟨by have := BX3.out.size; omega, by have := PX3.out.lt; omega, by have := KX3.out.lt; omega, by have := XX3.out.blk.lt; omega⟩
              rw [hgN] at hZ ⊢
              clear hgN
              have BX4 : Hid (Below w.heap.size w X4) := Lib.hid (BX3.out.trans (hB.mono BX3.out.size))
              have PX4 : Hid (Blk X4 gp 24 [.int .u64 p0, .int .u64 p1]) := Lib.hid (PX3.out.below hB PX3.out.lt)
              have KX4 : Hid (Blk X4 gk 55 (ocells k amt (c.by_ T) id)) := Lib.hid (KX3.out.below hB KX3.out.lt)
              have XX4 : Hid (StAt X4 w.heap.size gx s a1 n c1) := Lib.hid (XX3.out.keep hB)
              have RX4 : Hid (X4.ownsRow w.heap.size 60 36 (.slice aN nN cN) nN (cflat S2.cs)) := Lib.hid (own_keep RX3.out hB)
              have ZX4 : Hid (Blk X4 gN 31 [.int .u32 0, .int .u64 0, .int .u64 0, .int .u64 0, .int .u64 0, .int .u64 0, .slice none 0 0]) := Lib.hid (hZ)
              clear BX3 PX3 KX3 XX3 RX3 hB hZ
              refine hK.out _ _ (⟨PX4.out, KX4.out, XX4.out⟩) (fun hHeld => ?_)
              clear hK K
              show wpAnyH _ _ _ _ _ _ _ (Act.put _ (some 11) _) _
              simp only [Act.put, List.setIfInBounds_toArray, List.set_cons_zero, List.set_cons_succ]
              refine wpAnyH_ready (rs := [11]) (by kernel_rfl) (by simp) ?_
              refine AllReadyH.cons rfl (fun K hK => ?_) AllReadyH.nil
              refine step_store rfl 31 (.tmp 11) (.tmp 82) rfl gN [.int .u32 S2.ch, .int .u64 S2.rd, .int .u64 S2.m0, .int .u64 S2.m1, .int .u64 S2.t0, .int .u64 S2.t1, .slice aN nN cN] rfl rfl 31 _ ZX4.out info31 rfl (by simp [Value.oneCell']) ?_
              intro X5 hZ hO
              have hKW : ∀ q, some gN = some q → w.heap.size ≤ q := fun q hq => by injection hq with hq; have := HGN.out; omega
              have hnP : some gp ≠ some gN := fun e => by injection e with e; have := HGN.out; omega
              have hnK : some gk ≠ some gN := fun e => by injection e with e; have := HGN.out; omega
              have hnX : gx ≠ gN := fun e => by have := HGN.out; omega
              have BX5 : Hid (Below w.heap.size w X5) := Lib.hid (BX4.out.grown hO BX4.out.size hKW)
              have PX5 : Hid (Blk X5 gp 24 [.int .u64 p0, .int .u64 p1]) := Lib.hid (PX4.out.grown hO hnP)
              have KX5 : Hid (Blk X5 gk 55 (ocells k amt (c.by_ T) id)) := Lib.hid (KX4.out.grown hO hnK)
              have XX5 : Hid (StAt X5 w.heap.size gx s a1 n c1) := Lib.hid (XX4.out.other hO hnX ZX4.out (by decide))
              have RX5 : Hid (X5.ownsRow w.heap.size 60 36 (.slice aN nN cN) nN (cflat S2.cs)) := Lib.hid (RX4.out.kept hO (.inr (fun e => own_ne RX4.out ZX4.out (by decide) e.symm)))
              have ZX5 : Hid (Blk X5 gN 31 [.int .u32 S2.ch, .int .u64 S2.rd, .int .u64 S2.m0, .int .u64 S2.m1, .int .u64 S2.t0, .int .u64 S2.t1, .slice aN nN cN]) := Lib.hid (hZ)
              clear BX4 PX4 KX4 XX4 RX4 hZ hO hKW ZX4 hnP hnK hnX
              refine hK.out _ _ (⟨PX5.out, KX5.out, XX5.out⟩) (fun hHeld => ?_)
              clear hK K
              show wpAnyH _ _ _ _ _ _ _ (Act.put _ none _) _
              simp only [Act.put]
              refine wpAnyH_take (i := 12) (v := .int .i64 E2) rfl (by kernel_rfl) (by kernel_rfl) (by kernel_rfl) (fun _ _ _ h => h) (Or.inl ⟨by rfl, fun w _ => by rfl⟩) hHeld ?_
              show wpAnyH _ _ _ _ _ _ _ (Act.put _ (some 12) _) _
              simp only [Act.put, List.setIfInBounds_toArray, List.set_cons_zero, List.set_cons_succ]
              refine wpAnyH_done (by kernel_rfl) ?_ _
              go_wp2
              go_meet
              exact ⟨gN, aN, nN, cN, rfl, rfl, BX5, PX5, KX5, XX5, Lib.hid ⟨ZX5.out, RX5.out, HSO.out, HLEN.out⟩, HGN⟩
            · refine step_new rfl 31 rfl #[.int .u32 0, .int .u64 0, .int .u64 0, .int .u64 0, .int .u64 0, .int .u64 0, .slice none 0 0] (.pointer (some ⟨X2.heap.size, 0, none⟩)) (by kernel_rfl) ?_
              have hB : Below X2.heap.size X2 (X2.alloc (.cells #[.int .u32 0, .int .u64 0, .int .u64 0, .int .u64 0, .int .u64 0, .int .u64 0, .slice none 0 0] 31)) := (Below.refl _ _).alloc (Nat.le_refl _) _
              have hZ := Blk.new X2 31 [.int .u32 0, .int .u64 0, .int .u64 0, .int .u64 0, .int .u64 0, .int .u64 0, .slice none 0 0]
              generalize X2.alloc (.cells #[.int .u32 0, .int .u64 0, .int .u64 0, .int .u64 0, .int .u64 0, .int .u64 0, .slice none 0 0] 31) = X3 at hB hZ ⊢
              obtain ⟨gN, hgN⟩ : ∃ q, X2.heap.size = q := ⟨_, rfl⟩
              have HGN : Hid (w.heap.size ≤ gN ∧ gp < gN ∧ gk < gN ∧ gx < gN) := Lib.hid ⟨by have := BX2.out.size; omega, by have := PX2.out.lt; omega, by have := KX2.out.lt; omega, by have := XX2.out.blk.lt; omega⟩
              rw [hgN] at hZ ⊢
              clear hgN
              have BX3 : Hid (Below w.heap.size w X3) := Lib.hid (BX2.out.trans (hB.mono BX2.out.size))
              have PX3 : Hid (Blk X3 gp 24 [.int .u64 p0, .int .u64 p1]) := Lib.hid (PX2.out.below hB PX2.out.lt)
              have KX3 : Hid (Blk X3 gk 55 (ocells k amt (c.by_ T) id)) := Lib.hid (KX2.out.below hB KX2.out.lt)
              have XX3 : Hid (StAt X3 w.heap.size gx s a1 n c1) := Lib.hid (XX2.out.keep hB)
              have ZX3 : Hid (Blk X3 gN 31 [.int .u32 0, .int .u64 0, .int .u64 0, .int .u64 0, .int .u64 0, .int .u64 0, .slice none 0 0]) := Lib.hid (hZ)
              clear BX2 PX2 KX2 XX2 hB hZ
              refine hK.out _ _ (⟨PX3.out, KX3.out, XX3.out⟩) (fun hHeld => ?_)
              clear hK K
              show wpAnyH _ _ _ _ _ _ _ (Act.put _ (some 11) _) _
              simp only [Act.put, List.setIfInBounds_toArray, List.set_cons_zero, List.set_cons_succ]
              refine wpAnyH_ready (rs := [6]) (by kernel_rfl) (by simp) ?_
              refine AllReadyH.cons rfl (fun K hK => ?_) AllReadyH.nil
              refine step_call rfl 24 #[.tmp 75, .tmp 76, .tmp 78, .tmp 80] #[31, 24, 36, 62] rfl #[.agg #[.int .u32 s.ch, .int .u64 s.rd, .int .u64 s.m0, .int .u64 s.m1, .int .u64 s.t0, .int .u64 s.t1, .slice a1 n c1], .agg #[.int .u64 p0, .int .u64 p1], .int .i64 O, .agg (ocells k amt (c.by_ T) id).toArray] (by simp [Act.eval]) (by go_simp) (HNX.out X3 XX3.out.row) ?_
              rintro e X4 ⟨aN, nN, cN, rfl, hR, hlen, hB⟩
              have HLEN := Lib.hid hlen
              have BX4 : Hid (Below w.heap.size w X4) := Lib.hid (BX3.out.trans (hB.mono BX3.out.size))
              have PX4 : Hid (Blk X4 gp 24 [.int .u64 p0, .int .u64 p1]) := Lib.hid (PX3.out.below hB PX3.out.lt)
              have KX4 : Hid (Blk X4 gk 55 (ocells k amt (c.by_ T) id)) := Lib.hid (KX3.out.below hB KX3.out.lt)
              have XX4 : Hid (StAt X4 w.heap.size gx s a1 n c1) := Lib.hid (XX3.out.keep hB)
              have ZX4 : Hid (Blk X4 gN 31 [.int .u32 0, .int .u64 0, .int .u64 0, .int .u64 0, .int .u64 0, .int .u64 0, .slice none 0 0]) := Lib.hid (ZX3.out.below hB ZX3.out.lt)
              have RX4 : Hid (X4.ownsRow w.heap.size 60 36 (.slice aN nN cN) nN (cflat S2.cs)) := Lib.hid (own_mono hR BX3.out.size)
              clear BX3 PX3 KX3 XX3 ZX3 hB hR hlen
              refine ⟨_, rfl, hK.out _ _ (⟨PX4.out, KX4.out, XX4.out⟩) (fun hHeld => ?_)⟩
              clear hK K
              show wpAnyH _ _ _ _ _ _ _ (Act.put _ (some 81) _) _
              simp only [Act.put, List.setIfInBounds_toArray, List.set_cons_zero, List.set_cons_succ]
              refine wpAnyH_take (i := 7) (v := .tuple #[.agg #[.int .u32 S2.ch, .int .u64 S2.rd, .int .u64 S2.m0, .int .u64 S2.m1, .int .u64 S2.t0, .int .u64 S2.t1, .slice aN nN cN], .int .i64 E2]) rfl (by kernel_rfl) (by kernel_rfl) (by kernel_rfl) (fun _ _ _ h => h) (Or.inl ⟨by rfl, fun w _ => by rfl⟩) hHeld ?_
              show wpAnyH _ _ _ _ _ _ _ (Act.put _ (some 74) _) _
              simp only [Act.put, List.setIfInBounds_toArray, List.set_cons_zero, List.set_cons_succ]
              refine wpAnyH_take (i := 8) (v := .agg #[.int .u32 S2.ch, .int .u64 S2.rd, .int .u64 S2.m0, .int .u64 S2.m1, .int .u64 S2.t0, .int .u64 S2.t1, .slice aN nN cN]) rfl (by kernel_rfl) (by kernel_rfl) (by kernel_rfl) (fun _ _ _ h => h) (Or.inl ⟨by rfl, by intro w' h; go_simp⟩) hHeld ?_
              show wpAnyH _ _ _ _ _ _ _ (Act.put _ (some 82) _) _
              simp only [Act.put, List.setIfInBounds_toArray, List.set_cons_zero, List.set_cons_succ]
              refine wpAnyH_take (i := 9) (v := .int .i64 E2) rfl (by kernel_rfl) (by kernel_rfl) (by kernel_rfl) (fun _ _ _ h => h) (Or.inl ⟨by rfl, by intro w' h; go_simp⟩) hHeld ?_
              show wpAnyH _ _ _ _ _ _ _ (Act.put _ (some 83) _) _
              simp only [Act.put, List.setIfInBounds_toArray, List.set_cons_zero, List.set_cons_succ]
              refine wpAnyH_ready (rs := [11]) (by kernel_rfl) (by simp) ?_
              refine AllReadyH.cons rfl (fun K hK => ?_) AllReadyH.nil
              refine step_store rfl 31 (.tmp 11) (.tmp 82) rfl gN [.int .u32 S2.ch, .int .u64 S2.rd, .int .u64 S2.m0, .int .u64 S2.m1, .int .u64 S2.t0, .int .u64 S2.t1, .slice aN nN cN] rfl rfl 31 _ ZX4.out info31 rfl (by simp [Value.oneCell']) ?_
              intro X5 hZ hO
              have hKW : ∀ q, some gN = some q → w.heap.size ≤ q := fun q hq => by injection hq with hq; have := HGN.out; omega
              have hnP : some gp ≠ some gN := fun e => by injection e with e; have := HGN.out; omega
              have hnK : some gk ≠ some gN := fun e => by injection e with e; have := HGN.out; omega
              have hnX : gx ≠ gN := fun e => by have := HGN.out; omega
              have BX5 : Hid (Below w.heap.size w X5) := Lib.hid (BX4.out.grown hO BX4.out.size hKW)
              have PX5 : Hid (Blk X5 gp 24 [.int .u64 p0, .int .u64 p1]) := Lib.hid (PX4.out.grown hO hnP)
              have KX5 : Hid (Blk X5 gk 55 (ocells k amt (c.by_ T) id)) := Lib.hid (KX4.out.grown hO hnK)
              have XX5 : Hid (StAt X5 w.heap.size gx s a1 n c1) := Lib.hid (XX4.out.other hO hnX ZX4.out (by decide))
              have RX5 : Hid (X5.ownsRow w.heap.size 60 36 (.slice aN nN cN) nN (cflat S2.cs)) := Lib.hid (RX4.out.kept hO (.inr (fun e => own_ne RX4.out ZX4.out (by decide) e.symm)))
              have ZX5 : Hid (Blk X5 gN 31 [.int .u32 S2.ch, .int .u64 S2.rd, .int .u64 S2.m0, .int .u64 S2.m1, .int .u64 S2.t0, .int .u64 S2.t1, .slice aN nN cN]) := Lib.hid (hZ)
              clear BX4 PX4 KX4 XX4 RX4 hZ hO hKW ZX4 hnP hnK hnX
              refine hK.out _ _ (⟨PX5.out, KX5.out, XX5.out⟩) (fun hHeld => ?_)
              clear hK K
              show wpAnyH _ _ _ _ _ _ _ (Act.put _ none _) _
              simp only [Act.put]
              refine wpAnyH_take (i := 12) (v := .int .i64 E2) rfl (by kernel_rfl) (by kernel_rfl) (by kernel_rfl) (fun _ _ _ h => h) (Or.inl ⟨by rfl, fun w _ => by rfl⟩) hHeld ?_
              show wpAnyH _ _ _ _ _ _ _ (Act.put _ (some 12) _) _
              simp only [Act.put, List.setIfInBounds_toArray, List.set_cons_zero, List.set_cons_succ]
              refine wpAnyH_done (by kernel_rfl) ?_ _
              go_wp2
              go_meet
              exact ⟨gN, aN, nN, cN, rfl, rfl, BX5, PX5, KX5, XX5, Lib.hid ⟨ZX5.out, RX5.out, HSO.out, HLEN.out⟩, HGN⟩
          · refine step_new rfl 31 rfl #[.int .u32 0, .int .u64 0, .int .u64 0, .int .u64 0, .int .u64 0, .int .u64 0, .slice none 0 0] (.pointer (some ⟨X0.heap.size, 0, none⟩)) (by kernel_rfl) ?_
            have hB : Below X0.heap.size X0 (X0.alloc (.cells #[.int .u32 0, .int .u64 0, .int .u64 0, .int .u64 0, .int .u64 0, .int .u64 0, .slice none 0 0] 31)) := (Below.refl _ _).alloc (Nat.le_refl _) _
            have hZ := Blk.new X0 31 [.int .u32 0, .int .u64 0, .int .u64 0, .int .u64 0, .int .u64 0, .int .u64 0, .slice none 0 0]
            generalize X0.alloc (.cells #[.int .u32 0, .int .u64 0, .int .u64 0, .int .u64 0, .int .u64 0, .int .u64 0, .slice none 0 0] 31) = X2 at hB hZ ⊢
            obtain ⟨gN, hgN⟩ : ∃ q, X0.heap.size = q := ⟨_, rfl⟩
            have HGN : Hid (w.heap.size ≤ gN ∧ gp < gN ∧ gk < gN ∧ gx < gN) := Lib.hid ⟨by have := BX0.out.size; omega, by have := PX0.out.lt; omega, by have := KX0.out.lt; omega, by have := XX0.out.blk.lt; omega⟩
            rw [hgN] at hZ ⊢
            clear hgN
            have BX2 : Hid (Below w.heap.size w X2) := Lib.hid (BX0.out.trans (hB.mono BX0.out.size))
            have PX2 : Hid (Blk X2 gp 24 [.int .u64 p0, .int .u64 p1]) := Lib.hid (PX0.out.below hB PX0.out.lt)
            have KX2 : Hid (Blk X2 gk 55 (ocells k amt (c.by_ T) id)) := Lib.hid (KX0.out.below hB KX0.out.lt)
            have XX2 : Hid (StAt X2 w.heap.size gx s a1 n c1) := Lib.hid (XX0.out.keep hB)
            have ZX2 : Hid (Blk X2 gN 31 [.int .u32 0, .int .u64 0, .int .u64 0, .int .u64 0, .int .u64 0, .int .u64 0, .slice none 0 0]) := Lib.hid (hZ)
            clear BX0 PX0 KX0 XX0 hB hZ
            refine hK.out _ _ (⟨PX2.out, KX2.out, XX2.out⟩) (fun hHeld => ?_)
            clear hK K
            show wpAnyH _ _ _ _ _ _ _ (Act.put _ (some 11) _) _
            simp only [Act.put, List.setIfInBounds_toArray, List.set_cons_zero, List.set_cons_succ]
            refine wpAnyH_ready (rs := [5]) (by kernel_rfl) (by simp) ?_
            refine AllReadyH.cons rfl (fun K hK => ?_) AllReadyH.nil
            refine step_call rfl 25 #[.tmp 79] #[55] rfl #[.agg (ocells k amt (c.by_ T) id).toArray] (by simp [Act.eval]) (by go_simp) (op_any k amt id (c.by_ T) X2 (HOK.out.by_ T)) ?_
            rintro e X3 ⟨rfl, hB⟩
            have BX3 : Hid (Below w.heap.size w X3) := Lib.hid (BX2.out.trans (hB.mono BX2.out.size))
            have PX3 : Hid (Blk X3 gp 24 [.int .u64 p0, .int .u64 p1]) := Lib.hid (PX2.out.below hB PX2.out.lt)
            have KX3 : Hid (Blk X3 gk 55 (ocells k amt (c.by_ T) id)) := Lib.hid (KX2.out.below hB KX2.out.lt)
            have XX3 : Hid (StAt X3 w.heap.size gx s a1 n c1) := Lib.hid (XX2.out.keep hB)
            have ZX3 : Hid (Blk X3 gN 31 [.int .u32 0, .int .u64 0, .int .u64 0, .int .u64 0, .int .u64 0, .int .u64 0, .slice none 0 0]) := Lib.hid (ZX2.out.below hB ZX2.out.lt)
            clear BX2 PX2 KX2 XX2 ZX2 hB
            refine ⟨_, rfl, hK.out _ _ (⟨PX3.out, KX3.out, XX3.out⟩) (fun hHeld => ?_)⟩
            clear hK K
            show wpAnyH _ _ _ _ _ _ _ (Act.put _ (some 80) _) _
            simp only [Act.put, List.setIfInBounds_toArray, List.set_cons_zero, List.set_cons_succ]
            refine wpAnyH_ready (rs := [6]) (by kernel_rfl) (by simp) ?_
            refine AllReadyH.cons rfl (fun K hK => ?_) AllReadyH.nil
            refine step_call rfl 24 #[.tmp 75, .tmp 76, .tmp 78, .tmp 80] #[31, 24, 36, 62] rfl #[.agg #[.int .u32 s.ch, .int .u64 s.rd, .int .u64 s.m0, .int .u64 s.m1, .int .u64 s.t0, .int .u64 s.t1, .slice a1 n c1], .agg #[.int .u64 p0, .int .u64 p1], .int .i64 O, .agg (ocells k amt (c.by_ T) id).toArray] (by simp [Act.eval]) (by go_simp) (HNX.out X3 XX3.out.row) ?_
            rintro e X4 ⟨aN, nN, cN, rfl, hR, hlen, hB⟩
            have HLEN := Lib.hid hlen
            have BX4 : Hid (Below w.heap.size w X4) := Lib.hid (BX3.out.trans (hB.mono BX3.out.size))
            have PX4 : Hid (Blk X4 gp 24 [.int .u64 p0, .int .u64 p1]) := Lib.hid (PX3.out.below hB PX3.out.lt)
            have KX4 : Hid (Blk X4 gk 55 (ocells k amt (c.by_ T) id)) := Lib.hid (KX3.out.below hB KX3.out.lt)
            have XX4 : Hid (StAt X4 w.heap.size gx s a1 n c1) := Lib.hid (XX3.out.keep hB)
            have ZX4 : Hid (Blk X4 gN 31 [.int .u32 0, .int .u64 0, .int .u64 0, .int .u64 0, .int .u64 0, .int .u64 0, .slice none 0 0]) := Lib.hid (ZX3.out.below hB ZX3.out.lt)
            have RX4 : Hid (X4.ownsRow w.heap.size 60 36 (.slice aN nN cN) nN (cflat S2.cs)) := Lib.hid (own_mono hR BX3.out.size)
            clear BX3 PX3 KX3 XX3 ZX3 hB hR hlen
            refine ⟨_, rfl, hK.out _ _ (⟨PX4.out, KX4.out, XX4.out⟩) (fun hHeld => ?_)⟩
            clear hK K
            show wpAnyH _ _ _ _ _ _ _ (Act.put _ (some 81) _) _
            simp only [Act.put, List.setIfInBounds_toArray, List.set_cons_zero, List.set_cons_succ]
            refine wpAnyH_take (i := 7) (v := .tuple #[.agg #[.int .u32 S2.ch, .int .u64 S2.rd, .int .u64 S2.m0, .int .u64 S2.m1, .int .u64 S2.t0, .int .u64 S2.t1, .slice aN nN cN], .int .i64 E2]) rfl (by kernel_rfl) (by kernel_rfl) (by kernel_rfl) (fun _ _ _ h => h) (Or.inl ⟨by rfl, fun w _ => by rfl⟩) hHeld ?_
            show wpAnyH _ _ _ _ _ _ _ (Act.put _ (some 74) _) _
            simp only [Act.put, List.setIfInBounds_toArray, List.set_cons_zero, List.set_cons_succ]
            refine wpAnyH_take (i := 8) (v := .agg #[.int .u32 S2.ch, .int .u64 S2.rd, .int .u64 S2.m0, .int .u64 S2.m1, .int .u64 S2.t0, .int .u64 S2.t1, .slice aN nN cN]) rfl (by kernel_rfl) (by kernel_rfl) (by kernel_rfl) (fun _ _ _ h => h) (Or.inl ⟨by rfl, by intro w' h; go_simp⟩) hHeld ?_
            show wpAnyH _ _ _ _ _ _ _ (Act.put _ (some 82) _) _
            simp only [Act.put, List.setIfInBounds_toArray, List.set_cons_zero, List.set_cons_succ]
            refine wpAnyH_take (i := 9) (v := .int .i64 E2) rfl (by kernel_rfl) (by kernel_rfl) (by kernel_rfl) (fun _ _ _ h => h) (Or.inl ⟨by rfl, by intro w' h; go_simp⟩) hHeld ?_
            show wpAnyH _ _ _ _ _ _ _ (Act.put _ (some 83) _) _
            simp only [Act.put, List.setIfInBounds_toArray, List.set_cons_zero, List.set_cons_succ]
            refine wpAnyH_ready (rs := [11]) (by kernel_rfl) (by simp) ?_
            refine AllReadyH.cons rfl (fun K hK => ?_) AllReadyH.nil
            refine step_store rfl 31 (.tmp 11) (.tmp 82) rfl gN [.int .u32 S2.ch, .int .u64 S2.rd, .int .u64 S2.m0, .int .u64 S2.m1, .int .u64 S2.t0, .int .u64 S2.t1, .slice aN nN cN] rfl rfl 31 _ ZX4.out info31 rfl (by simp [Value.oneCell']) ?_
            intro X5 hZ hO
            have hKW : ∀ q, some gN = some q → w.heap.size ≤ q := fun q hq => by injection hq with hq; have := HGN.out; omega
            have hnP : some gp ≠ some gN := fun e => by injection e with e; have := HGN.out; omega
            have hnK : some gk ≠ some gN := fun e => by injection e with e; have := HGN.out; omega
            have hnX : gx ≠ gN := fun e => by have := HGN.out; omega
            have BX5 : Hid (Below w.heap.size w X5) := Lib.hid (BX4.out.grown hO BX4.out.size hKW)
            have PX5 : Hid (Blk X5 gp 24 [.int .u64 p0, .int .u64 p1]) := Lib.hid (PX4.out.grown hO hnP)
            have KX5 : Hid (Blk X5 gk 55 (ocells k amt (c.by_ T) id)) := Lib.hid (KX4.out.grown hO hnK)
            have XX5 : Hid (StAt X5 w.heap.size gx s a1 n c1) := Lib.hid (XX4.out.other hO hnX ZX4.out (by decide))
            have RX5 : Hid (X5.ownsRow w.heap.size 60 36 (.slice aN nN cN) nN (cflat S2.cs)) := Lib.hid (RX4.out.kept hO (.inr (fun e => own_ne RX4.out ZX4.out (by decide) e.symm)))
            have ZX5 : Hid (Blk X5 gN 31 [.int .u32 S2.ch, .int .u64 S2.rd, .int .u64 S2.m0, .int .u64 S2.m1, .int .u64 S2.t0, .int .u64 S2.t1, .slice aN nN cN]) := Lib.hid (hZ)
            clear BX4 PX4 KX4 XX4 RX4 hZ hO hKW ZX4 hnP hnK hnX
            refine hK.out _ _ (⟨PX5.out, KX5.out, XX5.out⟩) (fun hHeld => ?_)
            clear hK K
            show wpAnyH _ _ _ _ _ _ _ (Act.put _ none _) _
            simp only [Act.put]
            refine wpAnyH_take (i := 12) (v := .int .i64 E2) rfl (by kernel_rfl) (by kernel_rfl) (by kernel_rfl) (fun _ _ _ h => h) (Or.inl ⟨by rfl, fun w _ => by rfl⟩) hHeld ?_
            show wpAnyH _ _ _ _ _ _ _ (Act.put _ (some 12) _) _
            simp only [Act.put, List.setIfInBounds_toArray, List.set_cons_zero, List.set_cons_succ]
            refine wpAnyH_done (by kernel_rfl) ?_ _
            go_wp2
            go_meet
            exact ⟨gN, aN, nN, cN, rfl, rfl, BX5, PX5, KX5, XX5, Lib.hid ⟨ZX5.out, RX5.out, HSO.out, HLEN.out⟩, HGN⟩
        · refine step_new rfl 31 rfl #[.int .u32 0, .int .u64 0, .int .u64 0, .int .u64 0, .int .u64 0, .int .u64 0, .slice none 0 0] (.pointer (some ⟨X0.heap.size, 0, none⟩)) (by kernel_rfl) ?_
          have hB : Below X0.heap.size X0 (X0.alloc (.cells #[.int .u32 0, .int .u64 0, .int .u64 0, .int .u64 0, .int .u64 0, .int .u64 0, .slice none 0 0] 31)) := (Below.refl _ _).alloc (Nat.le_refl _) _
          have hZ := Blk.new X0 31 [.int .u32 0, .int .u64 0, .int .u64 0, .int .u64 0, .int .u64 0, .int .u64 0, .slice none 0 0]
          generalize X0.alloc (.cells #[.int .u32 0, .int .u64 0, .int .u64 0, .int .u64 0, .int .u64 0, .int .u64 0, .slice none 0 0] 31) = X1 at hB hZ ⊢
          obtain ⟨gN, hgN⟩ : ∃ q, X0.heap.size = q := ⟨_, rfl⟩
          have HGN : Hid (w.heap.size ≤ gN ∧ gp < gN ∧ gk < gN ∧ gx < gN) := Lib.hid ⟨by have := BX0.out.size; omega, by have := PX0.out.lt; omega, by have := KX0.out.lt; omega, by have := XX0.out.blk.lt; omega⟩
          rw [hgN] at hZ ⊢
          clear hgN
          have BX1 : Hid (Below w.heap.size w X1) := Lib.hid (BX0.out.trans (hB.mono BX0.out.size))
          have PX1 : Hid (Blk X1 gp 24 [.int .u64 p0, .int .u64 p1]) := Lib.hid (PX0.out.below hB PX0.out.lt)
          have KX1 : Hid (Blk X1 gk 55 (ocells k amt (c.by_ T) id)) := Lib.hid (KX0.out.below hB KX0.out.lt)
          have XX1 : Hid (StAt X1 w.heap.size gx s a1 n c1) := Lib.hid (XX0.out.keep hB)
          have ZX1 : Hid (Blk X1 gN 31 [.int .u32 0, .int .u64 0, .int .u64 0, .int .u64 0, .int .u64 0, .int .u64 0, .slice none 0 0]) := Lib.hid (hZ)
          clear BX0 PX0 KX0 XX0 hB hZ
          refine hK.out _ _ (⟨PX1.out, KX1.out, XX1.out⟩) (fun hHeld => ?_)
          clear hK K
          show wpAnyH _ _ _ _ _ _ _ (Act.put _ (some 11) _) _
          simp only [Act.put, List.setIfInBounds_toArray, List.set_cons_zero, List.set_cons_succ]
          refine wpAnyH_ready (rs := [3]) (by kernel_rfl) (by simp) ?_
          refine AllReadyH.cons rfl (fun K hK => ?_) AllReadyH.nil
          refine step_call rfl 31 #[.tmp 77] #[36] rfl #[.int .i64 T] (by simp [Act.eval]) (by go_simp) (HO1.out X1) ?_
          rintro e X2 ⟨rfl, rfl⟩
          refine ⟨_, rfl, hK.out _ _ (⟨PX1.out, KX1.out, XX1.out⟩) (fun hHeld => ?_)⟩
          clear hK K
          show wpAnyH _ _ _ _ _ _ _ (Act.put _ (some 78) _) _
          simp only [Act.put, List.setIfInBounds_toArray, List.set_cons_zero, List.set_cons_succ]
          refine wpAnyH_ready (rs := [5]) (by kernel_rfl) (by simp) ?_
          refine AllReadyH.cons rfl (fun K hK => ?_) AllReadyH.nil
          refine step_call rfl 25 #[.tmp 79] #[55] rfl #[.agg (ocells k amt (c.by_ T) id).toArray] (by simp [Act.eval]) (by go_simp) (op_any k amt id (c.by_ T) X1 (HOK.out.by_ T)) ?_
          rintro e X3 ⟨rfl, hB⟩
          have BX3 : Hid (Below w.heap.size w X3) := Lib.hid (BX1.out.trans (hB.mono BX1.out.size))
          have PX3 : Hid (Blk X3 gp 24 [.int .u64 p0, .int .u64 p1]) := Lib.hid (PX1.out.below hB PX1.out.lt)
          have KX3 : Hid (Blk X3 gk 55 (ocells k amt (c.by_ T) id)) := Lib.hid (KX1.out.below hB KX1.out.lt)
          have XX3 : Hid (StAt X3 w.heap.size gx s a1 n c1) := Lib.hid (XX1.out.keep hB)
          have ZX3 : Hid (Blk X3 gN 31 [.int .u32 0, .int .u64 0, .int .u64 0, .int .u64 0, .int .u64 0, .int .u64 0, .slice none 0 0]) := Lib.hid (ZX1.out.below hB ZX1.out.lt)
          clear BX1 PX1 KX1 XX1 ZX1 hB
          refine ⟨_, rfl, hK.out _ _ (⟨PX3.out, KX3.out, XX3.out⟩) (fun hHeld => ?_)⟩
          clear hK K
          show wpAnyH _ _ _ _ _ _ _ (Act.put _ (some 80) _) _
          simp only [Act.put, List.setIfInBounds_toArray, List.set_cons_zero, List.set_cons_succ]
          refine wpAnyH_ready (rs := [6]) (by kernel_rfl) (by simp) ?_
          refine AllReadyH.cons rfl (fun K hK => ?_) AllReadyH.nil
          refine step_call rfl 24 #[.tmp 75, .tmp 76, .tmp 78, .tmp 80] #[31, 24, 36, 62] rfl #[.agg #[.int .u32 s.ch, .int .u64 s.rd, .int .u64 s.m0, .int .u64 s.m1, .int .u64 s.t0, .int .u64 s.t1, .slice a1 n c1], .agg #[.int .u64 p0, .int .u64 p1], .int .i64 O, .agg (ocells k amt (c.by_ T) id).toArray] (by simp [Act.eval]) (by go_simp) (HNX.out X3 XX3.out.row) ?_
          rintro e X4 ⟨aN, nN, cN, rfl, hR, hlen, hB⟩
          have HLEN := Lib.hid hlen
          have BX4 : Hid (Below w.heap.size w X4) := Lib.hid (BX3.out.trans (hB.mono BX3.out.size))
          have PX4 : Hid (Blk X4 gp 24 [.int .u64 p0, .int .u64 p1]) := Lib.hid (PX3.out.below hB PX3.out.lt)
          have KX4 : Hid (Blk X4 gk 55 (ocells k amt (c.by_ T) id)) := Lib.hid (KX3.out.below hB KX3.out.lt)
          have XX4 : Hid (StAt X4 w.heap.size gx s a1 n c1) := Lib.hid (XX3.out.keep hB)
          have ZX4 : Hid (Blk X4 gN 31 [.int .u32 0, .int .u64 0, .int .u64 0, .int .u64 0, .int .u64 0, .int .u64 0, .slice none 0 0]) := Lib.hid (ZX3.out.below hB ZX3.out.lt)
          have RX4 : Hid (X4.ownsRow w.heap.size 60 36 (.slice aN nN cN) nN (cflat S2.cs)) := Lib.hid (own_mono hR BX3.out.size)
          clear BX3 PX3 KX3 XX3 ZX3 hB hR hlen
          refine ⟨_, rfl, hK.out _ _ (⟨PX4.out, KX4.out, XX4.out⟩) (fun hHeld => ?_)⟩
          clear hK K
          show wpAnyH _ _ _ _ _ _ _ (Act.put _ (some 81) _) _
          simp only [Act.put, List.setIfInBounds_toArray, List.set_cons_zero, List.set_cons_succ]
          refine wpAnyH_take (i := 7) (v := .tuple #[.agg #[.int .u32 S2.ch, .int .u64 S2.rd, .int .u64 S2.m0, .int .u64 S2.m1, .int .u64 S2.t0, .int .u64 S2.t1, .slice aN nN cN], .int .i64 E2]) rfl (by kernel_rfl) (by kernel_rfl) (by kernel_rfl) (fun _ _ _ h => h) (Or.inl ⟨by rfl, fun w _ => by rfl⟩) hHeld ?_
          show wpAnyH _ _ _ _ _ _ _ (Act.put _ (some 74) _) _
          simp only [Act.put, List.setIfInBounds_toArray, List.set_cons_zero, List.set_cons_succ]
          refine wpAnyH_take (i := 8) (v := .agg #[.int .u32 S2.ch, .int .u64 S2.rd, .int .u64 S2.m0, .int .u64 S2.m1, .int .u64 S2.t0, .int .u64 S2.t1, .slice aN nN cN]) rfl (by kernel_rfl) (by kernel_rfl) (by kernel_rfl) (fun _ _ _ h => h) (Or.inl ⟨by rfl, by intro w' h; go_simp⟩) hHeld ?_
          show wpAnyH _ _ _ _ _ _ _ (Act.put _ (some 82) _) _
          simp only [Act.put, List.setIfInBounds_toArray, List.set_cons_zero, List.set_cons_succ]
          refine wpAnyH_take (i := 9) (v := .int .i64 E2) rfl (by kernel_rfl) (by kernel_rfl) (by kernel_rfl) (fun _ _ _ h => h) (Or.inl ⟨by rfl, by intro w' h; go_simp⟩) hHeld ?_
          show wpAnyH _ _ _ _ _ _ _ (Act.put _ (some 83) _) _
          simp only [Act.put, List.setIfInBounds_toArray, List.set_cons_zero, List.set_cons_succ]
          refine wpAnyH_ready (rs := [11]) (by kernel_rfl) (by simp) ?_
          refine AllReadyH.cons rfl (fun K hK => ?_) AllReadyH.nil
          refine step_store rfl 31 (.tmp 11) (.tmp 82) rfl gN [.int .u32 S2.ch, .int .u64 S2.rd, .int .u64 S2.m0, .int .u64 S2.m1, .int .u64 S2.t0, .int .u64 S2.t1, .slice aN nN cN] rfl rfl 31 _ ZX4.out info31 rfl (by simp [Value.oneCell']) ?_
          intro X5 hZ hO
          have hKW : ∀ q, some gN = some q → w.heap.size ≤ q := fun q hq => by injection hq with hq; have := HGN.out; omega
          have hnP : some gp ≠ some gN := fun e => by injection e with e; have := HGN.out; omega
          have hnK : some gk ≠ some gN := fun e => by injection e with e; have := HGN.out; omega
          have hnX : gx ≠ gN := fun e => by have := HGN.out; omega
          have BX5 : Hid (Below w.heap.size w X5) := Lib.hid (BX4.out.grown hO BX4.out.size hKW)
          have PX5 : Hid (Blk X5 gp 24 [.int .u64 p0, .int .u64 p1]) := Lib.hid (PX4.out.grown hO hnP)
          have KX5 : Hid (Blk X5 gk 55 (ocells k amt (c.by_ T) id)) := Lib.hid (KX4.out.grown hO hnK)
          have XX5 : Hid (StAt X5 w.heap.size gx s a1 n c1) := Lib.hid (XX4.out.other hO hnX ZX4.out (by decide))
          have RX5 : Hid (X5.ownsRow w.heap.size 60 36 (.slice aN nN cN) nN (cflat S2.cs)) := Lib.hid (RX4.out.kept hO (.inr (fun e => own_ne RX4.out ZX4.out (by decide) e.symm)))
          have ZX5 : Hid (Blk X5 gN 31 [.int .u32 S2.ch, .int .u64 S2.rd, .int .u64 S2.m0, .int .u64 S2.m1, .int .u64 S2.t0, .int .u64 S2.t1, .slice aN nN cN]) := Lib.hid (hZ)
          clear BX4 PX4 KX4 XX4 RX4 hZ hO hKW ZX4 hnP hnK hnX
          refine hK.out _ _ (⟨PX5.out, KX5.out, XX5.out⟩) (fun hHeld => ?_)
          clear hK K
          show wpAnyH _ _ _ _ _ _ _ (Act.put _ none _) _
          simp only [Act.put]
          refine wpAnyH_take (i := 12) (v := .int .i64 E2) rfl (by kernel_rfl) (by kernel_rfl) (by kernel_rfl) (fun _ _ _ h => h) (Or.inl ⟨by rfl, fun w _ => by rfl⟩) hHeld ?_
          show wpAnyH _ _ _ _ _ _ _ (Act.put _ (some 12) _) _
          simp only [Act.put, List.setIfInBounds_toArray, List.set_cons_zero, List.set_cons_succ]
          refine wpAnyH_done (by kernel_rfl) ?_ _
          go_wp2
          go_meet
          exact ⟨gN, aN, nN, cN, rfl, rfl, BX5, PX5, KX5, XX5, Lib.hid ⟨ZX5.out, RX5.out, HSO.out, HLEN.out⟩, HGN⟩
      case rest =>
        clear BD PD KD XD HNX
        obtain ⟨gz, a3, n3, c3, rfl, rfl, BE, PE, KE, XE, YE, HGZ⟩ := hcut
        generalize wc = F at BE PE KE XE YE ⊢
        go_wp2_with fail
        refine (awake_any F).mono ?_
        rintro e Z ⟨rfl, hB⟩
        have hw := HW.out
        rw [HOO.out, HE2.out] at hw
        have b5 : (E2 != 0) = true := by simpa using hw.1
        have b6 : (E1 != 0) = true := by simpa using H1.out
        clear hw
        go_wp2
        go_ret
        exact ⟨rfl, BE.out.trans (hB.mono BE.out.size)⟩
set_option maxRecDepth 100000 in
theorem lifted (os : Os) (started : os.Started) (H : Type) (enc : TypeId × Value → H) :
    ReturnsInHanded {} Try.checked os 7 .any (Rows.pactTurnsSpec.pre6 enc Try.prog Try.f7 Rows.pactTurnsRow.domain false) (Rows.pactTurnsSpec.post enc Try.prog Try.f7 false true false false) := by
  refine returnsInHanded_of_change (C := Try.checked) own started (by kernel_rfl) Try.func7
    (ChangeSpec.witness6 (enc := enc) (C := Try.checked) false ⟨#[], #[.agg #[.int .u32 0, .int .u64 0, .int .u64 0, .int .u64 0, .int .u64 0, .int .u64 0, .slice none 0 0], .agg #[.int .u64 0, .int .u64 0], .agg #[.int .i64 0, .int .u64 0, .int .u64 0, .int .i64 0, .int .u64 0, .int .u8 0, .int .u8 0, .int .u8 0, .int .u8 0, .int .u8 0, .int .u8 0, .int .u8 0, .int .u8 0, .int .u8 0, .int .u8 0, .int .u8 0, .int .u8 0, .int .u8 0, .int .u8 0, .int .u8 0, .int .u8 0, .int .u8 0, .int .u8 0, .int .u8 0, .int .u8 0, .int .u8 0, .int .u8 0, .int .u8 0, .int .u8 0, .int .u8 0, .int .u8 0, .int .u8 0, .int .u8 0, .int .u8 0, .int .u8 0, .int .u8 0, .int .u8 0, .int .u64 0, .int .u64 0]], []⟩ 8 (by kernel_rfl) (by kernel_rfl) (by kernel_rfl) (by kernel_rfl)) ?_
  intro W base args ds gs before hval0 hW hcnd _
  have hval : ∀ (j : Nat) t v, Try.f7.params[j]? = some t → args[j]? = some v → Value.okWide Try.prog W .any base t v := hval0
  have hW' := hW
  obtain ⟨p, q, hA0, hV, rfl, hfz, hnd⟩ := hW
  have hA : DataW.TrodAll enc Try.prog W 0 (fun _ => true) true Try.f7.params.toList args.toList ds p := hA0
  rw [Try.params7] at hA hval
  obtain ⟨v0, vs0, dd0, ds0, p0, q0, hargs, rfl, rfl, h0, r0⟩ := trodAll_cons hA
  obtain ⟨v1, vs1, dd1, ds1, p1, q1, rfl, rfl, rfl, h1, r1⟩ := trodAll_cons r0
  obtain ⟨v2, vs2, dd2, ds2, p2, q2, rfl, rfl, rfl, h2, r2⟩ := trodAll_cons r1
  obtain ⟨rfl, rfl, rfl⟩ := trodAll_nil r2
  obtain rfl : args = #[v0, v1, v2] := by cases args; simp_all
  obtain ⟨rfl, rfl⟩ := trodVars_none hV
  have kk0 := h0
  have lt0 : ∀ x ∈ p0, x.block < W.heap.size := by obtain ⟨m, hm⟩ := kk0; exact DataW.trod_lt m _ _ _ hm
  obtain ⟨s0, A0, n0, cap0, rfl, hC0, hl0, hO0, hm0⟩ := openState (hval 0 27 v0 rfl rfl) h0
  have kk1 := h1
  have lt1 : ∀ x ∈ p1, x.block < W.heap.size := by obtain ⟨m, hm⟩ := kk1; exact DataW.trod_lt m _ _ _ hm
  obtain ⟨x1, y1, rfl, hx1, hy1⟩ := openPut (hval 1 24 v1 rfl rfl) h1
  have kk2 := h2
  have lt2 : ∀ x ∈ p2, x.block < W.heap.size := by obtain ⟨m, hm⟩ := kk2; exact DataW.trod_lt m _ _ _ hm
  obtain ⟨k2, am2, c2, id2, rfl, hc2, ham2, hid2⟩ := openOp (hval 2 55 v2 rfl rfl) h2
  clear hA0 hval0
  refine Calls.mono (R := (fun e W1 => e = .returned (.bool true) ∧ Below W.heap.size W W1)) ?_ fun e W1 ⟨he, bel⟩ => ?_
  · skip
    exact walk s0 A0 n0 cap0 x1 y1 k2 am2 id2 c2 W hC0 hl0 hO0 hm0 hx1 hy1 hc2 ham2 hid2
  subst he
  exact ⟨_, rfl, _, _, _, [], _, [], hW', trodAll_mk1 (shut_bool Try.underlying4 _), (trodAll_cons_mk (Below.trod laidOut (by kernel_rfl) (of_decide_eq_true (by kernel_rfl)) kk0 bel lt0) (trodAll_cons_mk (Below.trod laidOut (by kernel_rfl) (of_decide_eq_true (by kernel_rfl)) kk1 bel lt1) (trodAll_cons_mk (Below.trod laidOut (by kernel_rfl) (of_decide_eq_true (by kernel_rfl)) kk2 bel lt2) trodAll_mk0))), rfl, bel.frame _, fun h => by cases h⟩

theorem proved : Rows.PactTurnsSaid :=
  OpenClaim.holds_of_wide 7 Try.f7 rfl rfl rfl rfl rfl rfl rfl ⟨rfl, rfl, rfl, rfl, rfl⟩ rfl rfl rfl rfl rfl (by kernel_rfl) Try.func7 (by kernel_rfl)
    (of_decide_eq_true (by kernel_rfl)) (by unfold Func.isWrapper; first | (rw [if_pos (by decide +kernel)]; kernel_rfl) | (rw [if_neg (by decide +kernel)]; exact ⟨rfl, rfl⟩))
    (fun os started H enc _ => lifted os started H enc)
#print axioms proved
end Go.Proofs.Ytkiifjkcpangfaa.pactTurns
