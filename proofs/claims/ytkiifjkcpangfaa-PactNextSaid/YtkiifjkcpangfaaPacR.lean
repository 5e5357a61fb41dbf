/-
  What comes of a wish of the side whose turn it is.
-/
import Derived.Test.YtkiifjkcpangfaaPacQ
namespace Go.Proofs.Ytkiifjkcpangfaa
open Go.RowKit
set_option linter.unusedVariables false

def St.mv (s : St) (side : Int) : Int := if side = 0 then s.m0 else s.m1
def St.tk (s : St) (side : Int) : Int := if side = 0 then s.t0 else s.t1
def St.pay (s : St) (side amt : Int) : St := if side = 0 then ⟨s.ch, s.rd, s.m0 + amt, s.m1, s.t0, s.t1, s.cs⟩ else ⟨s.ch, s.rd, s.m0, s.m1 + amt, s.t0, s.t1, s.cs⟩
def St.tak (s : St) (side amt : Int) : St := if side = 0 then ⟨s.ch, s.rd, s.m0, s.m1, s.t0 + amt, s.t1, s.cs⟩ else ⟨s.ch, s.rd, s.m0, s.m1, s.t0, s.t1 + amt, s.cs⟩
/-- The payment of an Id. -/
def St.at_ (s : St) (id : Int) : Cnd := s.cs.getD (findV id s.cs).toNat cnd0
def St.less (s : St) (id : Int) : St := s.out (findV id s.cs).toNat
def doE (s : St) (p0 p1 side k amt : Int) (c : Cnd) (id : Int) : Int :=
  if k = 0 then 0
  else if k = 1 then spR (spE (freeF s p0 p1 side) amt) (s.mv side) amt
  else if k = 2 then lockE s p0 p1 side c
  else if k = 3 then (if findV id s.cs < 0 then 6 else spR 0 (s.mv (s.at_ id).side) (s.at_ id).amt)
  else if k = 4 then (if findV id s.cs < 0 then 6 else 0)
  else if k = 5 then spR (spE (freeF s p0 p1 side) amt) (s.tk side) amt
  else 33
def doS (s : St) (side k amt : Int) (c : Cnd) (id : Int) : St :=
  if k = 1 then s.pay side amt else if k = 2 then s.add c else if k = 3 then (s.less id).pay (s.at_ id).side (s.at_ id).amt else if k = 4 then s.less id else if k = 5 then s.tak side amt else s
def DoPost (B g : Nat) (s : St) (E : Int) (w : World) (e : Ending) (w' : World) : Prop := e = .returned (.int .i64 E) ∧ Below B w w' ∧ (E = 0 → ∃ a n cap, StAt w' B g s a n cap)
theorem St.Ok.mv {s : St} (h : s.Ok) (side : Int) : Word (s.mv side) := by unfold St.mv; split; exact h.m0; exact h.m1
theorem St.Ok.tk {s : St} (h : s.Ok) (side : Int) : Word (s.tk side) := by unfold St.tk; split; exact h.t0; exact h.t1
theorem below_only {B : Nat} {w w' : World} {g : Nat} (h : w.grownBy w' (some g)) (hB : B ≤ w.heap.size) (hg : B ≤ g) : Below B w w' := (Below.refl B w).grown h hB (fun q hq => by injection hq with hq; omega)

set_option maxRecDepth 100000 in
set_option maxHeartbeats 4000000 in
theorem do_0 (B g n cap : Nat) (s : St) (a : Option Addr) (p0 p1 amt id : Int) (c : Cnd) (w : World) (hS : StAt w B g s a n cap) (hn : n ≤ 1000) (hok : c.Ok) (hamt : Word amt) (hp0 : Word p0) (hp1 : Word p1) (hO : s.Ok) (hBw : B ≤ w.heap.size) (hBg : B ≤ g) (side : Int) : Calls Try.prog 42 #[.pointer (some ⟨g, 0, none⟩), .agg #[.int .u64 p0, .int .u64 p1], .int .i64 side, .agg (ocells 0 amt c id).toArray] w (DoPost B g s 0 w) := by
  have HB : Hid (Below w.heap.size w ((w.alloc (.cells #[.int .u64 p0, .int .u64 p1] 24)).alloc (.cells (ocells 0 amt c id).toArray 62))) := Lib.hid (((Below.refl _ _).alloc (Nat.le_refl _) _).alloc (by simp) _)
  have HS := Lib.hid (hS.keep HB.out)
  have HK : Hid (Blk ((w.alloc (.cells #[.int .u64 p0, .int .u64 p1] 24)).alloc (.cells (ocells 0 amt c id).toArray 62)) (w.heap.size + 1) 62 (ocells 0 amt c id)) := Lib.hid (Blk.mk_ (by simp))
  have HP : Hid (Blk ((w.alloc (.cells #[.int .u64 p0, .int .u64 p1] 24)).alloc (.cells (ocells 0 amt c id).toArray 62)) w.heap.size 24 [.int .u64 p0, .int .u64 p1]) := Lib.hid ((Blk.mk_ rfl).alloc _)
  have HOK := Lib.hid hok
  have HO := Lib.hid hO
  have HBW := Lib.hid hBw
  have HBG := Lib.hid hBg
  have e38 := ocells_38 0 amt c id hok
  have HGN : Hid (g < w.heap.size) := Lib.hid hS.blk.lt
  clear hS hok hO hBw hBg
  go_enter Try.func42, Try.ntmps42
  go_upto_region 1 with fail
  generalize ((w.alloc (.cells #[.int .u64 p0, .int .u64 p1] 24)).alloc (.cells (ocells 0 amt c id).toArray 62)) = V at HB HS HK HP ⊢
  obtain ⟨gk, hgk⟩ : ∃ q, w.heap.size + 1 = q := ⟨_, rfl⟩
  obtain ⟨gp, hgp⟩ : ∃ q, w.heap.size = q := ⟨_, rfl⟩
  have HGK : Hid (gk = w.heap.size + 1 ∧ gp = w.heap.size) := Lib.hid ⟨hgk.symm, hgp.symm⟩
  rw [hgk] at HK ⊢
  rw [hgp] at HP ⊢
  clear hgk hgp
  have c0 := HK.out.cell 0
  rw [ocells_0] at c0
  clear e38
  go_wp2
  go_ret
  exact ⟨rfl, HB.out.mono HBW.out, fun _ => ⟨a, n, cap, HS.out⟩⟩

set_option maxRecDepth 100000 in
set_option maxHeartbeats 4000000 in
theorem do_n (B g n cap : Nat) (s : St) (a : Option Addr) (p0 p1 amt id : Int) (c : Cnd) (w : World) (hS : StAt w B g s a n cap) (hn : n ≤ 1000) (hok : c.Ok) (hamt : Word amt) (hp0 : Word p0) (hp1 : Word p1) (hO : s.Ok) (hBw : B ≤ w.heap.size) (hBg : B ≤ g) (side k : Int) (h0 : k ≠ 0) (h1 : k ≠ 1) (h2 : k ≠ 2) (h3 : k ≠ 3) (h4 : k ≠ 4) (h5 : k ≠ 5) : Calls Try.prog 42 #[.pointer (some ⟨g, 0, none⟩), .agg #[.int .u64 p0, .int .u64 p1], .int .i64 side, .agg (ocells k amt c id).toArray] w (DoPost B g s 33 w) := by
  have b0 : (k == 0) = false := by simpa using h0
  have b1 : (k == 1) = false := by simpa using h1
  have b2 : (k == 2) = false := by simpa using h2
  have b3 : (k == 3) = false := by simpa using h3
  have b4 : (k == 4) = false := by simpa using h4
  have b5 : (k == 5) = false := by simpa using h5
  clear h0 h1 h2 h3 h4 h5
  have HB : Hid (Below w.heap.size w ((w.alloc (.cells #[.int .u64 p0, .int .u64 p1] 24)).alloc (.cells (ocells k amt c id).toArray 62))) := Lib.hid (((Below.refl _ _).alloc (Nat.le_refl _) _).alloc (by simp) _)
  have HS := Lib.hid (hS.keep HB.out)
  have HK : Hid (Blk ((w.alloc (.cells #[.int .u64 p0, .int .u64 p1] 24)).alloc (.cells (ocells k amt c id).toArray 62)) (w.heap.size + 1) 62 (ocells k amt c id)) := Lib.hid (Blk.mk_ (by simp))
  have HP : Hid (Blk ((w.alloc (.cells #[.int .u64 p0, .int .u64 p1] 24)).alloc (.cells (ocells k amt c id).toArray 62)) w.heap.size 24 [.int .u64 p0, .int .u64 p1]) := Lib.hid ((Blk.mk_ rfl).alloc _)
  have HOK := Lib.hid hok
  have HO := Lib.hid hO
  have HBW := Lib.hid hBw
  have HBG := Lib.hid hBg
  have e38 := ocells_38 k amt c id hok
  have HGN : Hid (g < w.heap.size) := Lib.hid hS.blk.lt
  clear hS hok hO hBw hBg
  go_enter Try.func42, Try.ntmps42
  go_upto_region 1 with fail
  generalize ((w.alloc (.cells #[.int .u64 p0, .int .u64 p1] 24)).alloc (.cells (ocells k amt c id).toArray 62)) = V at HB HS HK HP ⊢
  obtain ⟨gk, hgk⟩ : ∃ q, w.heap.size + 1 = q := ⟨_, rfl⟩
  obtain ⟨gp, hgp⟩ : ∃ q, w.heap.size = q := ⟨_, rfl⟩
  have HGK : Hid (gk = w.heap.size + 1 ∧ gp = w.heap.size) := Lib.hid ⟨hgk.symm, hgp.symm⟩
  rw [hgk] at HK ⊢
  rw [hgp] at HP ⊢
  clear hgk hgp
  have c0 := HK.out.cell 0
  rw [ocells_0] at c0
  clear e38
  go_wp2
  go_ret
  exact ⟨rfl, HB.out.mono HBW.out, fun h => by cases h⟩

set_option maxRecDepth 100000 in
set_option maxHeartbeats 4000000 in
theorem do_1_0 (B g n cap : Nat) (s : St) (a : Option Addr) (p0 p1 amt id : Int) (c : Cnd) (w : World) (hS : StAt w B g s a n cap) (hn : n ≤ 1000) (hok : c.Ok) (hamt : Word amt) (hp0 : Word p0) (hp1 : Word p1) (hO : s.Ok) (hBw : B ≤ w.heap.size) (hBg : B ≤ g) : Calls Try.prog 42 #[.pointer (some ⟨g, 0, none⟩), .agg #[.int .u64 p0, .int .u64 p1], .int .i64 0, .agg (ocells 1 amt c id).toArray] w (DoPost B g (s.pay 0 amt) (spR (spE (freeF s p0 p1 0) amt) s.m0 amt) w) := by
  have HB : Hid (Below w.heap.size w ((w.alloc (.cells #[.int .u64 p0, .int .u64 p1] 24)).alloc (.cells (ocells 1 amt c id).toArray 62))) := Lib.hid (((Below.refl _ _).alloc (Nat.le_refl _) _).alloc (by simp) _)
  have HS := Lib.hid (hS.keep HB.out)
  have HK : Hid (Blk ((w.alloc (.cells #[.int .u64 p0, .int .u64 p1] 24)).alloc (.cells (ocells 1 amt c id).toArray 62)) (w.heap.size + 1) 62 (ocells 1 amt c id)) := Lib.hid (Blk.mk_ (by simp))
  have HP : Hid (Blk ((w.alloc (.cells #[.int .u64 p0, .int .u64 p1] 24)).alloc (.cells (ocells 1 amt c id).toArray 62)) w.heap.size 24 [.int .u64 p0, .int .u64 p1]) := Lib.hid ((Blk.mk_ rfl).alloc _)
  have HOK := Lib.hid hok
  have HO := Lib.hid hO
  have HBW := Lib.hid hBw
  have HBG := Lib.hid hBg
  have e38 := ocells_38 1 amt c id hok
  have HGN : Hid (g < w.heap.size) := Lib.hid hS.blk.lt
  clear hS hok hO hBw hBg
  go_enter Try.func42, Try.ntmps42
  go_upto_region 1 with fail
  generalize ((w.alloc (.cells #[.int .u64 p0, .int .u64 p1] 24)).alloc (.cells (ocells 1 amt c id).toArray 62)) = V at HB HS HK HP ⊢
  obtain ⟨gk, hgk⟩ : ∃ q, w.heap.size + 1 = q := ⟨_, rfl⟩
  obtain ⟨gp, hgp⟩ : ∃ q, w.heap.size = q := ⟨_, rfl⟩
  have HGK : Hid (gk = w.heap.size + 1 ∧ gp = w.heap.size) := Lib.hid ⟨hgk.symm, hgp.symm⟩
  rw [hgk] at HK ⊢
  rw [hgp] at HP ⊢
  clear hgk hgp
  have c0 := HK.out.cell 0
  rw [ocells_0] at c0
  clear e38
  go_upto_region 5 with fail
  clear c0
  have BB : Hid (Below w.heap.size w V) := HB
  have S := HS
  have K := HK
  have PP := HP
  clear HB HS HK HP
  have hBz : Below V.heap.size V V.drew := below_drewN (Below.refl _ _) 1
  have BBX0 : Hid (Below w.heap.size w V.drew) := Lib.hid (BB.out.trans (hBz.mono BB.out.size))
  have SX0 : Hid (StAt V.drew B g s a n cap) := Lib.hid (S.out.keep hBz)
  have KX0 : Hid (Blk V.drew gk 62 (ocells 1 amt c id)) := Lib.hid (K.out.below hBz K.out.lt)
  have PPX0 : Hid (Blk V.drew gp 24 [.int .u64 p0, .int .u64 p1]) := Lib.hid (PP.out.below hBz PP.out.lt)
  clear hBz
  refine wp_region_held_drew (S := fun w' => Blk w' gk 62 (ocells 1 amt c id) ∧ Blk w' gp 24 [.int .u64 p0, .int .u64 p1]) (by kernel_rfl) (⟨KX0.out, PPX0.out⟩) (fun hHeld => ?_)
  generalize V.drew = X0 at hHeld BBX0 SX0 KX0 PPX0 ⊢
  refine wpAnyH_take (i := 0) (v := .pointer (some ⟨g, 0, none⟩)) rfl (by kernel_rfl) (by kernel_rfl) (by kernel_rfl) (fun _ _ _ h => h) (Or.inl ⟨by rfl, fun w _ => by rfl⟩) hHeld ?_
  show wpAnyH _ _ _ _ _ _ _ (Act.put _ (some 19) _) _
  simp only [Act.put, List.setIfInBounds_toArray, List.set_cons_zero, List.set_cons_succ]
  refine wpAnyH_take (i := 1) (v := .agg #[.int .u64 p0, .int .u64 p1]) rfl (by kernel_rfl) (by kernel_rfl) (by kernel_rfl) (fun _ _ _ h => h) (yieldsIf_load_mid (by rfl) 24 (.tmp 5) rfl gp 0 rfl [.int .u64 p0, .int .u64 p1] _ (fun w h => Blk.all h.2) Try.underlying24 rfl info24) hHeld ?_
  show wpAnyH _ _ _ _ _ _ _ (Act.put _ (some 20) _) _
  simp only [Act.put, List.setIfInBounds_toArray, List.set_cons_zero, List.set_cons_succ]
  refine wpAnyH_take (i := 2) (v := .int .i64 0) rfl (by kernel_rfl) (by kernel_rfl) (by kernel_rfl) (fun _ _ _ h => h) (Or.inl ⟨by rfl, fun w _ => by rfl⟩) hHeld ?_
  show wpAnyH _ _ _ _ _ _ _ (Act.put _ (some 21) _) _
  simp only [Act.put, List.setIfInBounds_toArray, List.set_cons_zero, List.set_cons_succ]
  refine wpAnyH_take (i := 3) (v := .pointer (some ⟨gk, 1, none⟩)) rfl (by kernel_rfl) (by kernel_rfl) (by kernel_rfl) (fun _ _ _ h => h) (Or.inl ⟨by rfl, by intro w' h; go_simp⟩) hHeld ?_
  show wpAnyH _ _ _ _ _ _ _ (Act.put _ (some 22) _) _
  simp only [Act.put, List.setIfInBounds_toArray, List.set_cons_zero, List.set_cons_succ]
  refine wpAnyH_take (i := 4) (v := .int .u64 amt) rfl (by kernel_rfl) (by kernel_rfl) (by kernel_rfl) (fun _ _ _ h => h) (Or.inl ⟨by rfl, by intro w' h; have q := Blk.cell h.1 1; rw [ocells_1] at q; go_simp⟩) hHeld ?_
  show wpAnyH _ _ _ _ _ _ _ (Act.put _ (some 23) _) _
  simp only [Act.put, List.setIfInBounds_toArray, List.set_cons_zero, List.set_cons_succ]
  refine wpAnyH_take (i := 5) (v := .pointer (some ⟨g, 0, none⟩)) rfl (by kernel_rfl) (by kernel_rfl) (by kernel_rfl) (fun _ _ _ h => h) (Or.inl ⟨by rfl, fun w _ => by rfl⟩) hHeld ?_
  show wpAnyH _ _ _ _ _ _ _ (Act.put _ (some 24) _) _
  simp only [Act.put, List.setIfInBounds_toArray, List.set_cons_zero, List.set_cons_succ]
  refine wpAnyH_take (i := 6) (v := .int .i64 0) rfl (by kernel_rfl) (by kernel_rfl) (by kernel_rfl) (fun _ _ _ h => h) (Or.inl ⟨by rfl, fun w _ => by rfl⟩) hHeld ?_
  show wpAnyH _ _ _ _ _ _ _ (Act.put _ (some 25) _) _
  simp only [Act.put, List.setIfInBounds_toArray, List.set_cons_zero, List.set_cons_succ]
  refine wpAnyH_take (i := 7) (v := .pointer (some ⟨g, 0, none⟩)) rfl (by kernel_rfl) (by kernel_rfl) (by kernel_rfl) (fun _ _ _ h => h) (Or.inl ⟨by rfl, by intro w' h; go_simp⟩) hHeld ?_
  show wpAnyH _ _ _ _ _ _ _ (Act.put _ (some 26) _) _
  simp only [Act.put, List.setIfInBounds_toArray, List.set_cons_zero, List.set_cons_succ]
  refine wpAnyH_take (i := 8) (v := .pointer (some ⟨g, 2, none⟩)) rfl (by kernel_rfl) (by kernel_rfl) (by kernel_rfl) (fun _ _ _ h => h) (Or.inl ⟨by rfl, by intro w' h; go_simp⟩) hHeld ?_
  show wpAnyH _ _ _ _ _ _ _ (Act.put _ (some 27) _) _
  simp only [Act.put, List.setIfInBounds_toArray, List.set_cons_zero, List.set_cons_succ]
  refine wpAnyH_take (i := 9) (v := .pointer (some ⟨g, 2, none⟩)) rfl (by kernel_rfl) (by kernel_rfl) (by kernel_rfl) (fun _ _ _ h => h) (Or.inl ⟨by rfl, by intro w' h; go_simp⟩) hHeld ?_
  show wpAnyH _ _ _ _ _ _ _ (Act.put _ (some 28) _) _
  simp only [Act.put, List.setIfInBounds_toArray, List.set_cons_zero, List.set_cons_succ]
  refine wpAnyH_ready (rs := [10]) (by kernel_rfl) (by simp) ?_
  refine AllReadyH.cons rfl (fun K hK => ?_) AllReadyH.nil
  have hSP := spend_any s.ch s.rd s.m0 s.m1 s.t0 s.t1 a n cap s.cs g 2 s.m0 p0 p1 0 amt X0 SX0.out.blk SX0.out.row SX0.out.len hn hp0 hp1 HO.out.eta hamt rfl HO.out.m0
  refine step_call rfl 48 #[.tmp 19, .tmp 20, .tmp 21, .tmp 23, .tmp 28] #[90, 24, 36, 23, 99] rfl #[.pointer (some ⟨g, 0, none⟩), .agg #[.int .u64 p0, .int .u64 p1], .int .i64 0, .int .u64 amt, .pointer (some ⟨g, 2, none⟩)] (by simp [Act.eval]) (by go_simp) (hSP) ?_
  rintro e X1 ⟨rfl, hO, hN⟩
  clear hSP
  have hKO : some gk ≠ some g := fun e => by injection e with e; have := HGN.out; have := HGK.out.1; omega
  have hPO : some gp ≠ some g := fun e => by injection e with e; have := HGN.out; have := HGK.out.2; omega
  have hBY : Below B w X1 := (BBX0.out.mono HBW.out).trans (below_only hO (Nat.le_trans HBW.out BBX0.out.size) HBG.out)
  have hSY : ∀ h : spR (spE (freeF s p0 p1 0) amt) s.m0 amt = 0, StAt X1 B g (s.pay 0 amt) a n cap := fun h => SX0.out.turned hO (hN h) rfl
  have KX1 : Hid (Blk X1 gk 62 (ocells 1 amt c id)) := Lib.hid (KX0.out.grown hO hKO)
  have PPX1 : Hid (Blk X1 gp 24 [.int .u64 p0, .int .u64 p1]) := Lib.hid (PPX0.out.grown hO hPO)
  have BYX1 : Hid (Below B w X1) := Lib.hid (hBY)
  have SYX1 : Hid (∀ h : spR (spE (freeF s p0 p1 0) amt) s.m0 amt = 0, StAt X1 B g (s.pay 0 amt) a n cap) := Lib.hid (hSY)
  clear KX0 PPX0 hO hN hBY hSY hKO hPO SX0 BBX0
  refine ⟨_, rfl, hK.out _ _ (⟨KX1.out, PPX1.out⟩) (fun hHeld => ?_)⟩
  clear hK K
  show wpAnyH _ _ _ _ _ _ _ (Act.put _ (some 29) _) _
  simp only [Act.put, List.setIfInBounds_toArray, List.set_cons_zero, List.set_cons_succ]
  refine wpAnyH_take (i := 11) (v := .int .i64 (spR (spE (freeF s p0 p1 0) amt) s.m0 amt)) rfl (by kernel_rfl) (by kernel_rfl) (by kernel_rfl) (fun _ _ _ h => h) (Or.inl ⟨by rfl, fun w _ => by rfl⟩) hHeld ?_
  show wpAnyH _ _ _ _ _ _ _ (Act.put _ (some 8) _) _
  simp only [Act.put, List.setIfInBounds_toArray, List.set_cons_zero, List.set_cons_succ]
  refine wpAnyH_done (by kernel_rfl) ?_ _
  clear hHeld
  go_wp2
  go_ret
  exact ⟨rfl, BYX1.out, fun h => ⟨a, n, cap, SYX1.out h⟩⟩
set_option maxRecDepth 100000 in
set_option maxHeartbeats 4000000 in
theorem do_1_1 (B g n cap : Nat) (s : St) (a : Option Addr) (p0 p1 amt id : Int) (c : Cnd) (w : World) (hS : StAt w B g s a n cap) (hn : n ≤ 1000) (hok : c.Ok) (hamt : Word amt) (hp0 : Word p0) (hp1 : Word p1) (hO : s.Ok) (hBw : B ≤ w.heap.size) (hBg : B ≤ g) : Calls Try.prog 42 #[.pointer (some ⟨g, 0, none⟩), .agg #[.int .u64 p0, .int .u64 p1], .int .i64 1, .agg (ocells 1 amt c id).toArray] w (DoPost B g (s.pay 1 amt) (spR (spE (freeF s p0 p1 1) amt) s.m1 amt) w) := by
  have HB : Hid (Below w.heap.size w ((w.alloc (.cells #[.int .u64 p0, .int .u64 p1] 24)).alloc (.cells (ocells 1 amt c id).toArray 62))) := Lib.hid (((Below.refl _ _).alloc (Nat.le_refl _) _).alloc (by simp) _)
  have HS := Lib.hid (hS.keep HB.out)
  have HK : Hid (Blk ((w.alloc (.cells #[.int .u64 p0, .int .u64 p1] 24)).alloc (.cells (ocells 1 amt c id).toArray 62)) (w.heap.size + 1) 62 (ocells 1 amt c id)) := Lib.hid (Blk.mk_ (by simp))
  have HP : Hid (Blk ((w.alloc (.cells #[.int .u64 p0, .int .u64 p1] 24)).alloc (.cells (ocells 1 amt c id).toArray 62)) w.heap.size 24 [.int .u64 p0, .int .u64 p1]) := Lib.hid ((Blk.mk_ rfl).alloc _)
  have HOK := Lib.hid hok
  have HO := Lib.hid hO
  have HBW := Lib.hid hBw
  have HBG := Lib.hid hBg
  have e38 := ocells_38 1 amt c id hok
  have HGN : Hid (g < w.heap.size) := Lib.hid hS.blk.lt
  clear hS hok hO hBw hBg
  go_enter Try.func42, Try.ntmps42
  go_upto_region 1 with fail
  generalize ((w.alloc (.cells #[.int .u64 p0, .int .u64 p1] 24)).alloc (.cells (ocells 1 amt c id).toArray 62)) = V at HB HS HK HP ⊢
  obtain ⟨gk, hgk⟩ : ∃ q, w.heap.size + 1 = q := ⟨_, rfl⟩
  obtain ⟨gp, hgp⟩ : ∃ q, w.heap.size = q := ⟨_, rfl⟩
  have HGK : Hid (gk = w.heap.size + 1 ∧ gp = w.heap.size) := Lib.hid ⟨hgk.symm, hgp.symm⟩
  rw [hgk] at HK ⊢
  rw [hgp] at HP ⊢
  clear hgk hgp
  have c0 := HK.out.cell 0
  rw [ocells_0] at c0
  clear e38
  go_upto_region 5 with fail
  clear c0
  have BB : Hid (Below w.heap.size w V) := HB
  have S := HS
  have K := HK
  have PP := HP
  clear HB HS HK HP
  have hBz : Below V.heap.size V V.drew := below_drewN (Below.refl _ _) 1
  have BBX0 : Hid (Below w.heap.size w V.drew) := Lib.hid (BB.out.trans (hBz.mono BB.out.size))
  have SX0 : Hid (StAt V.drew B g s a n cap) := Lib.hid (S.out.keep hBz)
  have KX0 : Hid (Blk V.drew gk 62 (ocells 1 amt c id)) := Lib.hid (K.out.below hBz K.out.lt)
  have PPX0 : Hid (Blk V.drew gp 24 [.int .u64 p0, .int .u64 p1]) := Lib.hid (PP.out.below hBz PP.out.lt)
  clear hBz
  refine wp_region_held_drew (S := fun w' => Blk w' gk 62 (ocells 1 amt c id) ∧ Blk w' gp 24 [.int .u64 p0, .int .u64 p1]) (by kernel_rfl) (⟨KX0.out, PPX0.out⟩) (fun hHeld => ?_)
  generalize V.drew = X0 at hHeld BBX0 SX0 KX0 PPX0 ⊢
  refine wpAnyH_take (i := 0) (v := .pointer (some ⟨g, 0, none⟩)) rfl (by kernel_rfl) (by kernel_rfl) (by kernel_rfl) (fun _ _ _ h => h) (Or.inl ⟨by rfl, fun w _ => by rfl⟩) hHeld ?_
  show wpAnyH _ _ _ _ _ _ _ (Act.put _ (some 19) _) _
  simp only [Act.put, List.setIfInBounds_toArray, List.set_cons_zero, List.set_cons_succ]
  refine wpAnyH_take (i := 1) (v := .agg #[.int .u64 p0, .int .u64 p1]) rfl (by kernel_rfl) (by kernel_rfl) (by kernel_rfl) (fun _ _ _ h => h) (yieldsIf_load_mid (by rfl) 24 (.tmp 5) rfl gp 0 rfl [.int .u64 p0, .int .u64 p1] _ (fun w h => Blk.all h.2) Try.underlying24 rfl info24) hHeld ?_
  show wpAnyH _ _ _ _ _ _ _ (Act.put _ (some 20) _) _
  simp only [Act.put, List.setIfInBounds_toArray, List.set_cons_zero, List.set_cons_succ]
  refine wpAnyH_take (i := 2) (v := .int .i64 1) rfl (by kernel_rfl) (by kernel_rfl) (by kernel_rfl) (fun _ _ _ h => h) (Or.inl ⟨by rfl, fun w _ => by rfl⟩) hHeld ?_
  show wpAnyH _ _ _ _ _ _ _ (Act.put _ (some 21) _) _
  simp only [Act.put, List.setIfInBounds_toArray, List.set_cons_zero, List.set_cons_succ]
  refine wpAnyH_take (i := 3) (v := .pointer (some ⟨gk, 1, none⟩)) rfl (by kernel_rfl) (by kernel_rfl) (by kernel_rfl) (fun _ _ _ h => h) (Or.inl ⟨by rfl, by intro w' h; go_simp⟩) hHeld ?_
  show wpAnyH _ _ _ _ _ _ _ (Act.put _ (some 22) _) _
  simp only [Act.put, List.setIfInBounds_toArray, List.set_cons_zero, List.set_cons_succ]
  refine wpAnyH_take (i := 4) (v := .int .u64 amt) rfl (by kernel_rfl) (by kernel_rfl) (by kernel_rfl) (fun _ _ _ h => h) (Or.inl ⟨by rfl, by intro w' h; have q := Blk.cell h.1 1; rw [ocells_1] at q; go_simp⟩) hHeld ?_
  show wpAnyH _ _ _ _ _ _ _ (Act.put _ (some 23) _) _
  simp only [Act.put, List.setIfInBounds_toArray, List.set_cons_zero, List.set_cons_succ]
  refine wpAnyH_take (i := 5) (v := .pointer (some ⟨g, 0, none⟩)) rfl (by kernel_rfl) (by kernel_rfl) (by kernel_rfl) (fun _ _ _ h => h) (Or.inl ⟨by rfl, fun w _ => by rfl⟩) hHeld ?_
  show wpAnyH _ _ _ _ _ _ _ (Act.put _ (some 24) _) _
  simp only [Act.put, List.setIfInBounds_toArray, List.set_cons_zero, List.set_cons_succ]
  refine wpAnyH_take (i := 6) (v := .int .i64 1) rfl (by kernel_rfl) (by kernel_rfl) (by kernel_rfl) (fun _ _ _ h => h) (Or.inl ⟨by rfl, fun w _ => by rfl⟩) hHeld ?_
  show wpAnyH _ _ _ _ _ _ _ (Act.put _ (some 25) _) _
  simp only [Act.put, List.setIfInBounds_toArray, List.set_cons_zero, List.set_cons_succ]
  refine wpAnyH_take (i := 7) (v := .pointer (some ⟨g, 0, none⟩)) rfl (by kernel_rfl) (by kernel_rfl) (by kernel_rfl) (fun _ _ _ h => h) (Or.inl ⟨by rfl, by intro w' h; go_simp⟩) hHeld ?_
  show wpAnyH _ _ _ _ _ _ _ (Act.put _ (some 26) _) _
  simp only [Act.put, List.setIfInBounds_toArray, List.set_cons_zero, List.set_cons_succ]
  refine wpAnyH_take (i := 8) (v := .pointer (some ⟨g, 2, none⟩)) rfl (by kernel_rfl) (by kernel_rfl) (by kernel_rfl) (fun _ _ _ h => h) (Or.inl ⟨by rfl, by intro w' h; go_simp⟩) hHeld ?_
  show wpAnyH _ _ _ _ _ _ _ (Act.put _ (some 27) _) _
  simp only [Act.put, List.setIfInBounds_toArray, List.set_cons_zero, List.set_cons_succ]
  refine wpAnyH_take (i := 9) (v := .pointer (some ⟨g, 3, none⟩)) rfl (by kernel_rfl) (by kernel_rfl) (by kernel_rfl) (fun _ _ _ h => h) (Or.inl ⟨by rfl, by intro w' h; go_simp⟩) hHeld ?_
  show wpAnyH _ _ _ _ _ _ _ (Act.put _ (some 28) _) _
  simp only [Act.put, List.setIfInBounds_toArray, List.set_cons_zero, List.set_cons_succ]
  refine wpAnyH_ready (rs := [10]) (by kernel_rfl) (by simp) ?_
  refine AllReadyH.cons rfl (fun K hK => ?_) AllReadyH.nil
  have hSP := spend_any s.ch s.rd s.m0 s.m1 s.t0 s.t1 a n cap s.cs g 3 s.m1 p0 p1 1 amt X0 SX0.out.blk SX0.out.row SX0.out.len hn hp0 hp1 HO.out.eta hamt rfl HO.out.m1
  refine step_call rfl 48 #[.tmp 19, .tmp 20, .tmp 21, .tmp 23, .tmp 28] #[90, 24, 36, 23, 99] rfl #[.pointer (some ⟨g, 0, none⟩), .agg #[.int .u64 p0, .int .u64 p1], .int .i64 1, .int .u64 amt, .pointer (some ⟨g, 3, none⟩)] (by simp [Act.eval]) (by go_simp) (hSP) ?_
  rintro e X1 ⟨rfl, hO, hN⟩
  clear hSP
  have hKO : some gk ≠ some g := fun e => by injection e with e; have := HGN.out; have := HGK.out.1; omega
  have hPO : some gp ≠ some g := fun e => by injection e with e; have := HGN.out; have := HGK.out.2; omega
  have hBY : Below B w X1 := (BBX0.out.mono HBW.out).trans (below_only hO (Nat.le_trans HBW.out BBX0.out.size) HBG.out)
  have hSY : ∀ h : spR (spE (freeF s p0 p1 1) amt) s.m1 amt = 0, StAt X1 B g (s.pay 1 amt) a n cap := fun h => SX0.out.turned hO (hN h) rfl
  have KX1 : Hid (Blk X1 gk 62 (ocells 1 amt c id)) := Lib.hid (KX0.out.grown hO hKO)
  have PPX1 : Hid (Blk X1 gp 24 [.int .u64 p0, .int .u64 p1]) := Lib.hid (PPX0.out.grown hO hPO)
  have BYX1 : Hid (Below B w X1) := Lib.hid (hBY)
  have SYX1 : Hid (∀ h : spR (spE (freeF s p0 p1 1) amt) s.m1 amt = 0, StAt X1 B g (s.pay 1 amt) a n cap) := Lib.hid (hSY)
  clear KX0 PPX0 hO hN hBY hSY hKO hPO SX0 BBX0
  refine ⟨_, rfl, hK.out _ _ (⟨KX1.out, PPX1.out⟩) (fun hHeld => ?_)⟩
  clear hK K
  show wpAnyH _ _ _ _ _ _ _ (Act.put _ (some 29) _) _
  simp only [Act.put, List.setIfInBounds_toArray, List.set_cons_zero, List.set_cons_succ]
  refine wpAnyH_take (i := 11) (v := .int .i64 (spR (spE (freeF s p0 p1 1) amt) s.m1 amt)) rfl (by kernel_rfl) (by kernel_rfl) (by kernel_rfl) (fun _ _ _ h => h) (Or.inl ⟨by rfl, fun w _ => by rfl⟩) hHeld ?_
  show wpAnyH _ _ _ _ _ _ _ (Act.put _ (some 8) _) _
  simp only [Act.put, List.setIfInBounds_toArray, List.set_cons_zero, List.set_cons_succ]
  refine wpAnyH_done (by kernel_rfl) ?_ _
  clear hHeld
  go_wp2
  go_ret
  exact ⟨rfl, BYX1.out, fun h => ⟨a, n, cap, SYX1.out h⟩⟩
set_option maxRecDepth 100000 in
set_option maxHeartbeats 4000000 in
theorem do_5_0 (B g n cap : Nat) (s : St) (a : Option Addr) (p0 p1 amt id : Int) (c : Cnd) (w : World) (hS : StAt w B g s a n cap) (hn : n ≤ 1000) (hok : c.Ok) (hamt : Word amt) (hp0 : Word p0) (hp1 : Word p1) (hO : s.Ok) (hBw : B ≤ w.heap.size) (hBg : B ≤ g) : Calls Try.prog 42 #[.pointer (some ⟨g, 0, none⟩), .agg #[.int .u64 p0, .int .u64 p1], .int .i64 0, .agg (ocells 5 amt c id).toArray] w (DoPost B g (s.tak 0 amt) (spR (spE (freeF s p0 p1 0) amt) s.t0 amt) w) := by
  have HB : Hid (Below w.heap.size w ((w.alloc (.cells #[.int .u64 p0, .int .u64 p1] 24)).alloc (.cells (ocells 5 amt c id).toArray 62))) := Lib.hid (((Below.refl _ _).alloc (Nat.le_refl _) _).alloc (by simp) _)
  have HS := Lib.hid (hS.keep HB.out)
  have HK : Hid (Blk ((w.alloc (.cells #[.int .u64 p0, .int .u64 p1] 24)).alloc (.cells (ocells 5 amt c id).toArray 62)) (w.heap.size + 1) 62 (ocells 5 amt c id)) := Lib.hid (Blk.mk_ (by simp))
  have HP : Hid (Blk ((w.alloc (.cells #[.int .u64 p0, .int .u64 p1] 24)).alloc (.cells (ocells 5 amt c id).toArray 62)) w.heap.size 24 [.int .u64 p0, .int .u64 p1]) := Lib.hid ((Blk.mk_ rfl).alloc _)
  have HOK := Lib.hid hok
  have HO := Lib.hid hO
  have HBW := Lib.hid hBw
  have HBG := Lib.hid hBg
  have e38 := ocells_38 5 amt c id hok
  have HGN : Hid (g < w.heap.size) := Lib.hid hS.blk.lt
  clear hS hok hO hBw hBg
  go_enter Try.func42, Try.ntmps42
  go_upto_region 1 with fail
  generalize ((w.alloc (.cells #[.int .u64 p0, .int .u64 p1] 24)).alloc (.cells (ocells 5 amt c id).toArray 62)) = V at HB HS HK HP ⊢
  obtain ⟨gk, hgk⟩ : ∃ q, w.heap.size + 1 = q := ⟨_, rfl⟩
  obtain ⟨gp, hgp⟩ : ∃ q, w.heap.size = q := ⟨_, rfl⟩
  have HGK : Hid (gk = w.heap.size + 1 ∧ gp = w.heap.size) := Lib.hid ⟨hgk.symm, hgp.symm⟩
  rw [hgk] at HK ⊢
  rw [hgp] at HP ⊢
  clear hgk hgp
  have c0 := HK.out.cell 0
  rw [ocells_0] at c0
  clear e38
  go_upto_region 17 with fail
  clear c0
  have BB : Hid (Below w.heap.size w V) := HB
  have S := HS
  have K := HK
  have PP := HP
  clear HB HS HK HP
  have hBz : Below V.heap.size V V.drew := below_drewN (Below.refl _ _) 1
  have BBX0 : Hid (Below w.heap.size w V.drew) := Lib.hid (BB.out.trans (hBz.mono BB.out.size))
  have SX0 : Hid (StAt V.drew B g s a n cap) := Lib.hid (S.out.keep hBz)
  have KX0 : Hid (Blk V.drew gk 62 (ocells 5 amt c id)) := Lib.hid (K.out.below hBz K.out.lt)
  have PPX0 : Hid (Blk V.drew gp 24 [.int .u64 p0, .int .u64 p1]) := Lib.hid (PP.out.below hBz PP.out.lt)
  clear hBz
  refine wp_region_held_drew (S := fun w' => Blk w' gk 62 (ocells 5 amt c id) ∧ Blk w' gp 24 [.int .u64 p0, .int .u64 p1]) (by kernel_rfl) (⟨KX0.out, PPX0.out⟩) (fun hHeld => ?_)
  generalize V.drew = X0 at hHeld BBX0 SX0 KX0 PPX0 ⊢
  refine wpAnyH_take (i := 0) (v := .pointer (some ⟨g, 0, none⟩)) rfl (by kernel_rfl) (by kernel_rfl) (by kernel_rfl) (fun _ _ _ h => h) (Or.inl ⟨by rfl, fun w _ => by rfl⟩) hHeld ?_
  show wpAnyH _ _ _ _ _ _ _ (Act.put _ (some 71) _) _
  simp only [Act.put, List.setIfInBounds_toArray, List.set_cons_zero, List.set_cons_succ]
  refine wpAnyH_take (i := 1) (v := .agg #[.int .u64 p0, .int .u64 p1]) rfl (by kernel_rfl) (by kernel_rfl) (by kernel_rfl) (fun _ _ _ h => h) (yieldsIf_load_mid (by rfl) 24 (.tmp 5) rfl gp 0 rfl [.int .u64 p0, .int .u64 p1] _ (fun w h => Blk.all h.2) Try.underlying24 rfl info24) hHeld ?_
  show wpAnyH _ _ _ _ _ _ _ (Act.put _ (some 72) _) _
  simp only [Act.put, List.setIfInBounds_toArray, List.set_cons_zero, List.set_cons_succ]
  refine wpAnyH_take (i := 2) (v := .int .i64 0) rfl (by kernel_rfl) (by kernel_rfl) (by kernel_rfl) (fun _ _ _ h => h) (Or.inl ⟨by rfl, fun w _ => by rfl⟩) hHeld ?_
  show wpAnyH _ _ _ _ _ _ _ (Act.put _ (some 73) _) _
  simp only [Act.put, List.setIfInBounds_toArray, List.set_cons_zero, List.set_cons_succ]
  refine wpAnyH_take (i := 3) (v := .pointer (some ⟨gk, 1, none⟩)) rfl (by kernel_rfl) (by kernel_rfl) (by kernel_rfl) (fun _ _ _ h => h) (Or.inl ⟨by rfl, by intro w' h; go_simp⟩) hHeld ?_
  show wpAnyH _ _ _ _ _ _ _ (Act.put _ (some 74) _) _
  simp only [Act.put, List.setIfInBounds_toArray, List.set_cons_zero, List.set_cons_succ]
  refine wpAnyH_take (i := 4) (v := .int .u64 amt) rfl (by kernel_rfl) (by kernel_rfl) (by kernel_rfl) (fun _ _ _ h => h) (Or.inl ⟨by rfl, by intro w' h; have q := Blk.cell h.1 1; rw [ocells_1] at q; go_simp⟩) hHeld ?_
  show wpAnyH _ _ _ _ _ _ _ (Act.put _ (some 75) _) _
  simp only [Act.put, List.setIfInBounds_toArray, List.set_cons_zero, List.set_cons_succ]
  refine wpAnyH_take (i := 5) (v := .pointer (some ⟨g, 0, none⟩)) rfl (by kernel_rfl) (by kernel_rfl) (by kernel_rfl) (fun _ _ _ h => h) (Or.inl ⟨by rfl, fun w _ => by rfl⟩) hHeld ?_
  show wpAnyH _ _ _ _ _ _ _ (Act.put _ (some 76) _) _
  simp only [Act.put, List.setIfInBounds_toArray, List.set_cons_zero, List.set_cons_succ]
  refine wpAnyH_take (i := 6) (v := .int .i64 0) rfl (by kernel_rfl) (by kernel_rfl) (by kernel_rfl) (fun _ _ _ h => h) (Or.inl ⟨by rfl, fun w _ => by rfl⟩) hHeld ?_
  show wpAnyH _ _ _ _ _ _ _ (Act.put _ (some 77) _) _
  simp only [Act.put, List.setIfInBounds_toArray, List.set_cons_zero, List.set_cons_succ]
  refine wpAnyH_take (i := 7) (v := .pointer (some ⟨g, 0, none⟩)) rfl (by kernel_rfl) (by kernel_rfl) (by kernel_rfl) (fun _ _ _ h => h) (Or.inl ⟨by rfl, by intro w' h; go_simp⟩) hHeld ?_
  show wpAnyH _ _ _ _ _ _ _ (Act.put _ (some 78) _) _
  simp only [Act.put, List.setIfInBounds_toArray, List.set_cons_zero, List.set_cons_succ]
  refine wpAnyH_take (i := 8) (v := .pointer (some ⟨g, 4, none⟩)) rfl (by kernel_rfl) (by kernel_rfl) (by kernel_rfl) (fun _ _ _ h => h) (Or.inl ⟨by rfl, by intro w' h; go_simp⟩) hHeld ?_
  show wpAnyH _ _ _ _ _ _ _ (Act.put _ (some 79) _) _
  simp only [Act.put, List.setIfInBounds_toArray, List.set_cons_zero, List.set_cons_succ]
  refine wpAnyH_take (i := 9) (v := .pointer (some ⟨g, 4, none⟩)) rfl (by kernel_rfl) (by kernel_rfl) (by kernel_rfl) (fun _ _ _ h => h) (Or.inl ⟨by rfl, by intro w' h; go_simp⟩) hHeld ?_
  show wpAnyH _ _ _ _ _ _ _ (Act.put _ (some 80) _) _
  simp only [Act.put, List.setIfInBounds_toArray, List.set_cons_zero, List.set_cons_succ]
  refine wpAnyH_ready (rs := [10]) (by kernel_rfl) (by simp) ?_
  refine AllReadyH.cons rfl (fun K hK => ?_) AllReadyH.nil
  have hSP := spend_any s.ch s.rd s.m0 s.m1 s.t0 s.t1 a n cap s.cs g 4 s.t0 p0 p1 0 amt X0 SX0.out.blk SX0.out.row SX0.out.len hn hp0 hp1 HO.out.eta hamt rfl HO.out.t0
  refine step_call rfl 48 #[.tmp 71, .tmp 72, .tmp 73, .tmp 75, .tmp 80] #[90, 24, 36, 23, 99] rfl #[.pointer (some ⟨g, 0, none⟩), .agg #[.int .u64 p0, .int .u64 p1], .int .i64 0, .int .u64 amt, .pointer (some ⟨g, 4, none⟩)] (by simp [Act.eval]) (by go_simp) (hSP) ?_
  rintro e X1 ⟨rfl, hO, hN⟩
  clear hSP
  have hKO : some gk ≠ some g := fun e => by injection e with e; have := HGN.out; have := HGK.out.1; omega
  have hPO : some gp ≠ some g := fun e => by injection e with e; have := HGN.out; have := HGK.out.2; omega
  have hBY : Below B w X1 := (BBX0.out.mono HBW.out).trans (below_only hO (Nat.le_trans HBW.out BBX0.out.size) HBG.out)
  have hSY : ∀ h : spR (spE (freeF s p0 p1 0) amt) s.t0 amt = 0, StAt X1 B g (s.tak 0 amt) a n cap := fun h => SX0.out.turned hO (hN h) rfl
  have KX1 : Hid (Blk X1 gk 62 (ocells 5 amt c id)) := Lib.hid (KX0.out.grown hO hKO)
  have PPX1 : Hid (Blk X1 gp 24 [.int .u64 p0, .int .u64 p1]) := Lib.hid (PPX0.out.grown hO hPO)
  have BYX1 : Hid (Below B w X1) := Lib.hid (hBY)
  have SYX1 : Hid (∀ h : spR (spE (freeF s p0 p1 0) amt) s.t0 amt = 0, StAt X1 B g (s.tak 0 amt) a n cap) := Lib.hid (hSY)
  clear KX0 PPX0 hO hN hBY hSY hKO hPO SX0 BBX0
  refine ⟨_, rfl, hK.out _ _ (⟨KX1.out, PPX1.out⟩) (fun hHeld => ?_)⟩
  clear hK K
  show wpAnyH _ _ _ _ _ _ _ (Act.put _ (some 81) _) _
  simp only [Act.put, List.setIfInBounds_toArray, List.set_cons_zero, List.set_cons_succ]
  refine wpAnyH_take (i := 11) (v := .int .i64 (spR (spE (freeF s p0 p1 0) amt) s.t0 amt)) rfl (by kernel_rfl) (by kernel_rfl) (by kernel_rfl) (fun _ _ _ h => h) (Or.inl ⟨by rfl, fun w _ => by rfl⟩) hHeld ?_
  show wpAnyH _ _ _ _ _ _ _ (Act.put _ (some 8) _) _
  simp only [Act.put, List.setIfInBounds_toArray, List.set_cons_zero, List.set_cons_succ]
  refine wpAnyH_done (by kernel_rfl) ?_ _
  clear hHeld
  go_wp2
  go_ret
  exact ⟨rfl, BYX1.out, fun h => ⟨a, n, cap, SYX1.out h⟩⟩
set_option maxRecDepth 100000 in
set_option maxHeartbeats 4000000 in
theorem do_5_1 (B g n cap : Nat) (s : St) (a : Option Addr) (p0 p1 amt id : Int) (c : Cnd) (w : World) (hS : StAt w B g s a n cap) (hn : n ≤ 1000) (hok : c.Ok) (hamt : Word amt) (hp0 : Word p0) (hp1 : Word p1) (hO : s.Ok) (hBw : B ≤ w.heap.size) (hBg : B ≤ g) : Calls Try.prog 42 #[.pointer (some ⟨g, 0, none⟩), .agg #[.int .u64 p0, .int .u64 p1], .int .i64 1, .agg (ocells 5 amt c id).toArray] w (DoPost B g (s.tak 1 amt) (spR (spE (freeF s p0 p1 1) amt) s.t1 amt) w) := by
  have HB : Hid (Below w.heap.size w ((w.alloc (.cells #[.int .u64 p0, .int .u64 p1] 24)).alloc (.cells (ocells 5 amt c id).toArray 62))) := Lib.hid (((Below.refl _ _).alloc (Nat.le_refl _) _).alloc (by simp) _)
  have HS := Lib.hid (hS.keep HB.out)
  have HK : Hid (Blk ((w.alloc (.cells #[.int .u64 p0, .int .u64 p1] 24)).alloc (.cells (ocells 5 amt c id).toArray 62)) (w.heap.size + 1) 62 (ocells 5 amt c id)) := Lib.hid (Blk.mk_ (by simp))
  have HP : Hid (Blk ((w.alloc (.cells #[.int .u64 p0, .int .u64 p1] 24)).alloc (.cells (ocells 5 amt c id).toArray 62)) w.heap.size 24 [.int .u64 p0, .int .u64 p1]) := Lib.hid ((Blk.mk_ rfl).alloc _)
  have HOK := Lib.hid hok
  have HO := Lib.hid hO
  have HBW := Lib.hid hBw
  have HBG := Lib.hid hBg
  have e38 := ocells_38 5 amt c id hok
  have HGN : Hid (g < w.heap.size) := Lib.hid hS.blk.lt
  clear hS hok hO hBw hBg
  go_enter Try.func42, Try.ntmps42
  go_upto_region 1 with fail
  generalize ((w.alloc (.cells #[.int .u64 p0, .int .u64 p1] 24)).alloc (.cells (ocells 5 amt c id).toArray 62)) = V at HB HS HK HP ⊢
  obtain ⟨gk, hgk⟩ : ∃ q, w.heap.size + 1 = q := ⟨_, rfl⟩
  obtain ⟨gp, hgp⟩ : ∃ q, w.heap.size = q := ⟨_, rfl⟩
  have HGK : Hid (gk = w.heap.size + 1 ∧ gp = w.heap.size) := Lib.hid ⟨hgk.symm, hgp.symm⟩
  rw [hgk] at HK ⊢
  rw [hgp] at HP ⊢
  clear hgk hgp
  have c0 := HK.out.cell 0
  rw [ocells_0] at c0
  clear e38
  go_upto_region 17 with fail
  clear c0
  have BB : Hid (Below w.heap.size w V) := HB
  have S := HS
  have K := HK
  have PP := HP
  clear HB HS HK HP
  have hBz : Below V.heap.size V V.drew := below_drewN (Below.refl _ _) 1
  have BBX0 : Hid (Below w.heap.size w V.drew) := Lib.hid (BB.out.trans (hBz.mono BB.out.size))
  have SX0 : Hid (StAt V.drew B g s a n cap) := Lib.hid (S.out.keep hBz)
  have KX0 : Hid (Blk V.drew gk 62 (ocells 5 amt c id)) := Lib.hid (K.out.below hBz K.out.lt)
  have PPX0 : Hid (Blk V.drew gp 24 [.int .u64 p0, .int .u64 p1]) := Lib.hid (PP.out.below hBz PP.out.lt)
  clear hBz
  refine wp_region_held_drew (S := fun w' => Blk w' gk 62 (ocells 5 amt c id) ∧ Blk w' gp 24 [.int .u64 p0, .int .u64 p1]) (by kernel_rfl) (⟨KX0.out, PPX0.out⟩) (fun hHeld => ?_)
  generalize V.drew = X0 at hHeld BBX0 SX0 KX0 PPX0 ⊢
  refine wpAnyH_take (i := 0) (v := .pointer (some ⟨g, 0, none⟩)) rfl (by kernel_rfl) (by kernel_rfl) (by kernel_rfl) (fun _ _ _ h => h) (Or.inl ⟨by rfl, fun w _ => by rfl⟩) hHeld ?_
  show wpAnyH _ _ _ _ _ _ _ (Act.put _ (some 71) _) _
  simp only [Act.put, List.setIfInBounds_toArray, List.set_cons_zero, List.set_cons_succ]
  refine wpAnyH_take (i := 1) (v := .agg #[.int .u64 p0, .int .u64 p1]) rfl (by kernel_rfl) (by kernel_rfl) (by kernel_rfl) (fun _ _ _ h => h) (yieldsIf_load_mid (by rfl) 24 (.tmp 5) rfl gp 0 rfl [.int .u64 p0, .int .u64 p1] _ (fun w h => Blk.all h.2) Try.underlying24 rfl info24) hHeld ?_
  show wpAnyH _ _ _ _ _ _ _ (Act.put _ (some 72) _) _
  simp only [Act.put, List.setIfInBounds_toArray, List.set_cons_zero, List.set_cons_succ]
  refine wpAnyH_take (i := 2) (v := .int .i64 1) rfl (by kernel_rfl) (by kernel_rfl) (by kernel_rfl) (fun _ _ _ h => h) (Or.inl ⟨by rfl, fun w _ => by rfl⟩) hHeld ?_
  show wpAnyH _ _ _ _ _ _ _ (Act.put _ (some 73) _) _
  simp only [Act.put, List.setIfInBounds_toArray, List.set_cons_zero, List.set_cons_succ]
  refine wpAnyH_take (i := 3) (v := .pointer (some ⟨gk, 1, none⟩)) rfl (by kernel_rfl) (by kernel_rfl) (by kernel_rfl) (fun _ _ _ h => h) (Or.inl ⟨by rfl, by intro w' h; go_simp⟩) hHeld ?_
  show wpAnyH _ _ _ _ _ _ _ (Act.put _ (some 74) _) _
  simp only [Act.put, List.setIfInBounds_toArray, List.set_cons_zero, List.set_cons_succ]
  refine wpAnyH_take (i := 4) (v := .int .u64 amt) rfl (by kernel_rfl) (by kernel_rfl) (by kernel_rfl) (fun _ _ _ h => h) (Or.inl ⟨by rfl, by intro w' h; have q := Blk.cell h.1 1; rw [ocells_1] at q; go_simp⟩) hHeld ?_
  show wpAnyH _ _ _ _ _ _ _ (Act.put _ (some 75) _) _
  simp only [Act.put, List.setIfInBounds_toArray, List.set_cons_zero, List.set_cons_succ]
  refine wpAnyH_take (i := 5) (v := .pointer (some ⟨g, 0, none⟩)) rfl (by kernel_rfl) (by kernel_rfl) (by kernel_rfl) (fun _ _ _ h => h) (Or.inl ⟨by rfl, fun w _ => by rfl⟩) hHeld ?_
  show wpAnyH _ _ _ _ _ _ _ (Act.put _ (some 76) _) _
  simp only [Act.put, List.setIfInBounds_toArray, List.set_cons_zero, List.set_cons_succ]
  refine wpAnyH_take (i := 6) (v := .int .i64 1) rfl (by kernel_rfl) (by kernel_rfl) (by kernel_rfl) (fun _ _ _ h => h) (Or.inl ⟨by rfl, fun w _ => by rfl⟩) hHeld ?_
  show wpAnyH _ _ _ _ _ _ _ (Act.put _ (some 77) _) _
  simp only [Act.put, List.setIfInBounds_toArray, List.set_cons_zero, List.set_cons_succ]
  refine wpAnyH_take (i := 7) (v := .pointer (some ⟨g, 0, none⟩)) rfl (by kernel_rfl) (by kernel_rfl) (by kernel_rfl) (fun _ _ _ h => h) (Or.inl ⟨by rfl, by intro w' h; go_simp⟩) hHeld ?_
  show wpAnyH _ _ _ _ _ _ _ (Act.put _ (some 78) _) _
  simp only [Act.put, List.setIfInBounds_toArray, List.set_cons_zero, List.set_cons_succ]
  refine wpAnyH_take (i := 8) (v := .pointer (some ⟨g, 4, none⟩)) rfl (by kernel_rfl) (by kernel_rfl) (by kernel_rfl) (fun _ _ _ h => h) (Or.inl ⟨by rfl, by intro w' h; go_simp⟩) hHeld ?_
  show wpAnyH _ _ _ _ _ _ _ (Act.put _ (some 79) _) _
  simp only [Act.put, List.setIfInBounds_toArray, List.set_cons_zero, List.set_cons_succ]
  refine wpAnyH_take (i := 9) (v := .pointer (some ⟨g, 5, none⟩)) rfl (by kernel_rfl) (by kernel_rfl) (by kernel_rfl) (fun _ _ _ h => h) (Or.inl ⟨by rfl, by intro w' h; go_simp⟩) hHeld ?_
  show wpAnyH _ _ _ _ _ _ _ (Act.put _ (some 80) _) _
  simp only [Act.put, List.setIfInBounds_toArray, List.set_cons_zero, List.set_cons_succ]
  refine wpAnyH_ready (rs := [10]) (by kernel_rfl) (by simp) ?_
  refine AllReadyH.cons rfl (fun K hK => ?_) AllReadyH.nil
  have hSP := spend_any s.ch s.rd s.m0 s.m1 s.t0 s.t1 a n cap s.cs g 5 s.t1 p0 p1 1 amt X0 SX0.out.blk SX0.out.row SX0.out.len hn hp0 hp1 HO.out.eta hamt rfl HO.out.t1
  refine step_call rfl 48 #[.tmp 71, .tmp 72, .tmp 73, .tmp 75, .tmp 80] #[90, 24, 36, 23, 99] rfl #[.pointer (some ⟨g, 0, none⟩), .agg #[.int .u64 p0, .int .u64 p1], .int .i64 1, .int .u64 amt, .pointer (some ⟨g, 5, none⟩)] (by simp [Act.eval]) (by go_simp) (hSP) ?_
  rintro e X1 ⟨rfl, hO, hN⟩
  clear hSP
  have hKO : some gk ≠ some g := fun e => by injection e with e; have := HGN.out; have := HGK.out.1; omega
  have hPO : some gp ≠ some g := fun e => by injection e with e; have := HGN.out; have := HGK.out.2; omega
  have hBY : Below B w X1 := (BBX0.out.mono HBW.out).trans (below_only hO (Nat.le_trans HBW.out BBX0.out.size) HBG.out)
  have hSY : ∀ h : spR (spE (freeF s p0 p1 1) amt) s.t1 amt = 0, StAt X1 B g (s.tak 1 amt) a n cap := fun h => SX0.out.turned hO (hN h) rfl
  have KX1 : Hid (Blk X1 gk 62 (ocells 5 amt c id)) := Lib.hid (KX0.out.grown hO hKO)
  have PPX1 : Hid (Blk X1 gp 24 [.int .u64 p0, .int .u64 p1]) := Lib.hid (PPX0.out.grown hO hPO)
  have BYX1 : Hid (Below B w X1) := Lib.hid (hBY)
  have SYX1 : Hid (∀ h : spR (spE (freeF s p0 p1 1) amt) s.t1 amt = 0, StAt X1 B g (s.tak 1 amt) a n cap) := Lib.hid (hSY)
  clear KX0 PPX0 hO hN hBY hSY hKO hPO SX0 BBX0
  refine ⟨_, rfl, hK.out _ _ (⟨KX1.out, PPX1.out⟩) (fun hHeld => ?_)⟩
  clear hK K
  show wpAnyH _ _ _ _ _ _ _ (Act.put _ (some 81) _) _
  simp only [Act.put, List.setIfInBounds_toArray, List.set_cons_zero, List.set_cons_succ]
  refine wpAnyH_take (i := 11) (v := .int .i64 (spR (spE (freeF s p0 p1 1) amt) s.t1 amt)) rfl (by kernel_rfl) (by kernel_rfl) (by kernel_rfl) (fun _ _ _ h => h) (Or.inl ⟨by rfl, fun w _ => by rfl⟩) hHeld ?_
  show wpAnyH _ _ _ _ _ _ _ (Act.put _ (some 8) _) _
  simp only [Act.put, List.setIfInBounds_toArray, List.set_cons_zero, List.set_cons_succ]
  refine wpAnyH_done (by kernel_rfl) ?_ _
  clear hHeld
  go_wp2
  go_ret
  exact ⟨rfl, BYX1.out, fun h => ⟨a, n, cap, SYX1.out h⟩⟩
set_option maxRecDepth 100000 in
set_option maxHeartbeats 4000000 in
theorem do_2 (B g n cap : Nat) (s : St) (a : Option Addr) (p0 p1 amt id : Int) (c : Cnd) (w : World) (hS : StAt w B g s a n cap) (hn : n ≤ 1000) (hok : c.Ok) (hamt : Word amt) (hp0 : Word p0) (hp1 : Word p1) (hO : s.Ok) (hBw : B ≤ w.heap.size) (hBg : B ≤ g) (side : Int) : Calls Try.prog 42 #[.pointer (some ⟨g, 0, none⟩), .agg #[.int .u64 p0, .int .u64 p1], .int .i64 side, .agg (ocells 2 amt c id).toArray] w (DoPost B g (s.add c) (lockE s p0 p1 side c) w) := by
  have HB : Hid (Below w.heap.size w ((w.alloc (.cells #[.int .u64 p0, .int .u64 p1] 24)).alloc (.cells (ocells 2 amt c id).toArray 62))) := Lib.hid (((Below.refl _ _).alloc (Nat.le_refl _) _).alloc (by simp) _)
  have HS := Lib.hid (hS.keep HB.out)
  have HK : Hid (Blk ((w.alloc (.cells #[.int .u64 p0, .int .u64 p1] 24)).alloc (.cells (ocells 2 amt c id).toArray 62)) (w.heap.size + 1) 62 (ocells 2 amt c id)) := Lib.hid (Blk.mk_ (by simp))
  have HP : Hid (Blk ((w.alloc (.cells #[.int .u64 p0, .int .u64 p1] 24)).alloc (.cells (ocells 2 amt c id).toArray 62)) w.heap.size 24 [.int .u64 p0, .int .u64 p1]) := Lib.hid ((Blk.mk_ rfl).alloc _)
  have HOK := Lib.hid hok
  have HO := Lib.hid hO
  have HBW := Lib.hid hBw
  have HBG := Lib.hid hBg
  have e38 := ocells_38 2 amt c id hok
  have HGN : Hid (g < w.heap.size) := Lib.hid hS.blk.lt
  clear hS hok hO hBw hBg
  go_enter Try.func42, Try.ntmps42
  go_upto_region 1 with fail
  generalize ((w.alloc (.cells #[.int .u64 p0, .int .u64 p1] 24)).alloc (.cells (ocells 2 amt c id).toArray 62)) = V at HB HS HK HP ⊢
  obtain ⟨gk, hgk⟩ : ∃ q, w.heap.size + 1 = q := ⟨_, rfl⟩
  obtain ⟨gp, hgp⟩ : ∃ q, w.heap.size = q := ⟨_, rfl⟩
  have HGK : Hid (gk = w.heap.size + 1 ∧ gp = w.heap.size) := Lib.hid ⟨hgk.symm, hgp.symm⟩
  rw [hgk] at HK ⊢
  rw [hgp] at HP ⊢
  clear hgk hgp
  have c0 := HK.out.cell 0
  rw [ocells_0] at c0
  clear e38
  have hzc : (Try.prog.info? 60).map (·.size) = some c.cells.length := by rw [HOK.out.len]; exact info60
  have RG : V.rangeAt gk 2 c.cells := by
    have h := ocells_c 2 amt c id HOK.out HK.out.all
    rwa [Nat.zero_add] at h
  have q0 := HP.out.cell 0
  have q1 := HP.out.cell 1
  simp only [List.getElem?_cons_zero, List.getElem?_cons_succ] at q0 q1
  go_wp2_with (first | (refine wpList_load_mid rfl 60 (.tmp 35) rfl gk 2 rfl c.cells _ RG Try.underlying60 rfl hzc ?_))
  refine (lock_any B g n cap s a p0 p1 side c V HS.out hn HOK.out hp0 hp1 HO.out (Nat.le_trans HBW.out HB.out.size) HBG.out).mono ?_
  rintro e W ⟨rfl, hBY, hSY⟩
  have BY := Lib.hid ((HB.out.mono HBW.out).trans hBY)
  have SY := Lib.hid hSY
  clear hBY hSY RG q0 q1 c0 hzc
  go_wp2
  go_ret
  exact ⟨rfl, BY.out, SY.out⟩

set_option maxRecDepth 100000 in
set_option maxHeartbeats 4000000 in
theorem do_3_none (B g n cap : Nat) (s : St) (a : Option Addr) (p0 p1 amt id : Int) (c : Cnd) (w : World) (hS : StAt w B g s a n cap) (hn : n ≤ 1000) (hok : c.Ok) (hamt : Word amt) (hp0 : Word p0) (hp1 : Word p1) (hO : s.Ok) (hBw : B ≤ w.heap.size) (hBg : B ≤ g) (side : Int) (hf : findV id s.cs = -1) : Calls Try.prog 42 #[.pointer (some ⟨g, 0, none⟩), .agg #[.int .u64 p0, .int .u64 p1], .int .i64 side, .agg (ocells 3 amt c id).toArray] w (DoPost B g s 6 w) := by
  have HB : Hid (Below w.heap.size w ((w.alloc (.cells #[.int .u64 p0, .int .u64 p1] 24)).alloc (.cells (ocells 3 amt c id).toArray 62))) := Lib.hid (((Below.refl _ _).alloc (Nat.le_refl _) _).alloc (by simp) _)
  have HS := Lib.hid (hS.keep HB.out)
  have HK : Hid (Blk ((w.alloc (.cells #[.int .u64 p0, .int .u64 p1] 24)).alloc (.cells (ocells 3 amt c id).toArray 62)) (w.heap.size + 1) 62 (ocells 3 amt c id)) := Lib.hid (Blk.mk_ (by simp))
  have HP : Hid (Blk ((w.alloc (.cells #[.int .u64 p0, .int .u64 p1] 24)).alloc (.cells (ocells 3 amt c id).toArray 62)) w.heap.size 24 [.int .u64 p0, .int .u64 p1]) := Lib.hid ((Blk.mk_ rfl).alloc _)
  have HOK := Lib.hid hok
  have HO := Lib.hid hO
  have HBW := Lib.hid hBw
  have HBG := Lib.hid hBg
  have e38 := ocells_38 3 amt c id hok
  have HGN : Hid (g < w.heap.size) := Lib.hid hS.blk.lt
  clear hS hok hO hBw hBg
  go_enter Try.func42, Try.ntmps42
  go_upto_region 1 with fail
  generalize ((w.alloc (.cells #[.int .u64 p0, .int .u64 p1] 24)).alloc (.cells (ocells 3 amt c id).toArray 62)) = V at HB HS HK HP ⊢
  obtain ⟨gk, hgk⟩ : ∃ q, w.heap.size + 1 = q := ⟨_, rfl⟩
  obtain ⟨gp, hgp⟩ : ∃ q, w.heap.size = q := ⟨_, rfl⟩
  have HGK : Hid (gk = w.heap.size + 1 ∧ gp = w.heap.size) := Lib.hid ⟨hgk.symm, hgp.symm⟩
  rw [hgk] at HK ⊢
  rw [hgp] at HP ⊢
  clear hgk hgp
  have c0 := HK.out.cell 0
  rw [ocells_0] at c0
  have c38 := HK.out.cell 38
  rw [e38] at c38
  clear e38
  go_wp2_with fail
  refine (takeOut_none B g n cap s a id V HS.out hn hf).mono ?_
  rintro e W ⟨rfl, hB⟩
  have BY := Lib.hid ((HB.out.trans (hB.mono HB.out.size)).mono HBW.out)
  clear hB c0 c38
  have hz1 : (Try.prog.info? 60).map (·.size) = some cnd0.cells.toArray.size := info60
  have hco := cnd0.all_one
  have hz3 : (#[.int .u64 0, .int .i64 0, .int .u64 0, .int .u8 0, .int .u8 0, .int .u8 0, .int .u8 0, .int .u8 0, .int .u8 0, .int .u8 0, .int .u8 0, .int .u8 0, .int .u8 0, .int .u8 0, .int .u8 0, .int .u8 0, .int .u8 0, .int .u8 0, .int .u8 0, .int .u8 0, .int .u8 0, .int .u8 0, .int .u8 0, .int .u8 0, .int .u8 0, .int .u8 0, .int .u8 0, .int .u8 0, .int .u8 0, .int .u8 0, .int .u8 0, .int .u8 0, .int .u8 0, .int .u8 0, .int .u8 0, .int .u64 0] : Array Value).size = cnd0.cells.toArray.size := rfl
  have HLA := heap_alloc_last W (.cells #[.int .u64 0, .int .i64 0, .int .u64 0, .int .u8 0, .int .u8 0, .int .u8 0, .int .u8 0, .int .u8 0, .int .u8 0, .int .u8 0, .int .u8 0, .int .u8 0, .int .u8 0, .int .u8 0, .int .u8 0, .int .u8 0, .int .u8 0, .int .u8 0, .int .u8 0, .int .u8 0, .int .u8 0, .int .u8 0, .int .u8 0, .int .u8 0, .int .u8 0, .int .u8 0, .int .u8 0, .int .u8 0, .int .u8 0, .int .u8 0, .int .u8 0, .int .u8 0, .int .u8 0, .int .u8 0, .int .u8 0, .int .u64 0] 60)
  generalize cnd0.cells.toArray = zc at hz1 hco hz3 ⊢
  go_wp2_with (first | (refine wpList_store_row rfl 60 (.tmp 9) (.tmp 45) rfl W.heap.size zc rfl rfl 60 _ HLA hz1 hz3 hco ?_; rw [World.setRow_alloc_new]))
  go_ret
  exact ⟨rfl, BY.out.alloc (Nat.le_trans HBW.out BY.out.size) _, fun h => by cases h⟩

set_option maxRecDepth 100000 in
set_option maxHeartbeats 4000000 in
theorem do_4_none (B g n cap : Nat) (s : St) (a : Option Addr) (p0 p1 amt id : Int) (c : Cnd) (w : World) (hS : StAt w B g s a n cap) (hn : n ≤ 1000) (hok : c.Ok) (hamt : Word amt) (hp0 : Word p0) (hp1 : Word p1) (hO : s.Ok) (hBw : B ≤ w.heap.size) (hBg : B ≤ g) (side : Int) (hf : findV id s.cs = -1) : Calls Try.prog 42 #[.pointer (some ⟨g, 0, none⟩), .agg #[.int .u64 p0, .int .u64 p1], .int .i64 side, .agg (ocells 4 amt c id).toArray] w (DoPost B g s 6 w) := by
  have HB : Hid (Below w.heap.size w ((w.alloc (.cells #[.int .u64 p0, .int .u64 p1] 24)).alloc (.cells (ocells 4 amt c id).toArray 62))) := Lib.hid (((Below.refl _ _).alloc (Nat.le_refl _) _).alloc (by simp) _)
  have HS := Lib.hid (hS.keep HB.out)
  have HK : Hid (Blk ((w.alloc (.cells #[.int .u64 p0, .int .u64 p1] 24)).alloc (.cells (ocells 4 amt c id).toArray 62)) (w.heap.size + 1) 62 (ocells 4 amt c id)) := Lib.hid (Blk.mk_ (by simp))
  have HP : Hid (Blk ((w.alloc (.cells #[.int .u64 p0, .int .u64 p1] 24)).alloc (.cells (ocells 4 amt c id).toArray 62)) w.heap.size 24 [.int .u64 p0, .int .u64 p1]) := Lib.hid ((Blk.mk_ rfl).alloc _)
  have HOK := Lib.hid hok
  have HO := Lib.hid hO
  have HBW := Lib.hid hBw
  have HBG := Lib.hid hBg
  have e38 := ocells_38 4 amt c id hok
  have HGN : Hid (g < w.heap.size) := Lib.hid hS.blk.lt
  clear hS hok hO hBw hBg
  go_enter Try.func42, Try.ntmps42
  go_upto_region 1 with fail
  generalize ((w.alloc (.cells #[.int .u64 p0, .int .u64 p1] 24)).alloc (.cells (ocells 4 amt c id).toArray 62)) = V at HB HS HK HP ⊢
  obtain ⟨gk, hgk⟩ : ∃ q, w.heap.size + 1 = q := ⟨_, rfl⟩
  obtain ⟨gp, hgp⟩ : ∃ q, w.heap.size = q := ⟨_, rfl⟩
  have HGK : Hid (gk = w.heap.size + 1 ∧ gp = w.heap.size) := Lib.hid ⟨hgk.symm, hgp.symm⟩
  rw [hgk] at HK ⊢
  rw [hgp] at HP ⊢
  clear hgk hgp
  have c0 := HK.out.cell 0
  rw [ocells_0] at c0
  have c38 := HK.out.cell 38
  rw [e38] at c38
  clear e38
  go_wp2_with fail
  refine (takeOut_none B g n cap s a id V HS.out hn hf).mono ?_
  rintro e W ⟨rfl, hB⟩
  have BY := Lib.hid ((HB.out.trans (hB.mono HB.out.size)).mono HBW.out)
  clear hB c0 c38
  have hz1 : (Try.prog.info? 60).map (·.size) = some cnd0.cells.toArray.size := info60
  have hco := cnd0.all_one
  have hz3 : (#[.int .u64 0, .int .i64 0, .int .u64 0, .int .u8 0, .int .u8 0, .int .u8 0, .int .u8 0, .int .u8 0, .int .u8 0, .int .u8 0, .int .u8 0, .int .u8 0, .int .u8 0, .int .u8 0, .int .u8 0, .int .u8 0, .int .u8 0, .int .u8 0, .int .u8 0, .int .u8 0, .int .u8 0, .int .u8 0, .int .u8 0, .int .u8 0, .int .u8 0, .int .u8 0, .int .u8 0, .int .u8 0, .int .u8 0, .int .u8 0, .int .u8 0, .int .u8 0, .int .u8 0, .int .u8 0, .int .u8 0, .int .u64 0] : Array Value).size = cnd0.cells.toArray.size := rfl
  have HLA := heap_alloc_last W (.cells #[.int .u64 0, .int .i64 0, .int .u64 0, .int .u8 0, .int .u8 0, .int .u8 0, .int .u8 0, .int .u8 0, .int .u8 0, .int .u8 0, .int .u8 0, .int .u8 0, .int .u8 0, .int .u8 0, .int .u8 0, .int .u8 0, .int .u8 0, .int .u8 0, .int .u8 0, .int .u8 0, .int .u8 0, .int .u8 0, .int .u8 0, .int .u8 0, .int .u8 0, .int .u8 0, .int .u8 0, .int .u8 0, .int .u8 0, .int .u8 0, .int .u8 0, .int .u8 0, .int .u8 0, .int .u8 0, .int .u8 0, .int .u64 0] 60)
  generalize cnd0.cells.toArray = zc at hz1 hco hz3 ⊢
  go_wp2_with (first | (refine wpList_store_row rfl 60 (.tmp 11) (.tmp 66) rfl W.heap.size zc rfl rfl 60 _ HLA hz1 hz3 hco ?_; rw [World.setRow_alloc_new]))
  go_ret
  exact ⟨rfl, BY.out.alloc (Nat.le_trans HBW.out BY.out.size) _, fun h => by cases h⟩

set_option maxRecDepth 100000 in
set_option maxHeartbeats 4000000 in
theorem do_4_at (B g n cap : Nat) (s : St) (a : Option Addr) (p0 p1 amt id : Int) (c : Cnd) (w : World) (hS : StAt w B g s a n cap) (hn : n ≤ 1000) (hok : c.Ok) (hamt : Word amt) (hp0 : Word p0) (hp1 : Word p1) (hO : s.Ok) (hBw : B ≤ w.heap.size) (hBg : B ≤ g) (side : Int) (j : Nat) (hj : j < n) (hf : findV id s.cs = (j : Int)) : Calls Try.prog 42 #[.pointer (some ⟨g, 0, none⟩), .agg #[.int .u64 p0, .int .u64 p1], .int .i64 side, .agg (ocells 4 amt c id).toArray] w (DoPost B g (s.out j) 0 w) := by
  have hcok : (s.cs.getD j cnd0).Ok := hS.ok _ (getD_mem (by rw [hS.len]; exact hj))
  have HB : Hid (Below w.heap.size w ((w.alloc (.cells #[.int .u64 p0, .int .u64 p1] 24)).alloc (.cells (ocells 4 amt c id).toArray 62))) := Lib.hid (((Below.refl _ _).alloc (Nat.le_refl _) _).alloc (by simp) _)
  have HS := Lib.hid (hS.keep HB.out)
  have HK : Hid (Blk ((w.alloc (.cells #[.int .u64 p0, .int .u64 p1] 24)).alloc (.cells (ocells 4 amt c id).toArray 62)) (w.heap.size + 1) 62 (ocells 4 amt c id)) := Lib.hid (Blk.mk_ (by simp))
  have HP : Hid (Blk ((w.alloc (.cells #[.int .u64 p0, .int .u64 p1] 24)).alloc (.cells (ocells 4 amt c id).toArray 62)) w.heap.size 24 [.int .u64 p0, .int .u64 p1]) := Lib.hid ((Blk.mk_ rfl).alloc _)
  have HOK := Lib.hid hok
  have HO := Lib.hid hO
  have HBW := Lib.hid hBw
  have HBG := Lib.hid hBg
  have e38 := ocells_38 4 amt c id hok
  have HGN : Hid (g < w.heap.size) := Lib.hid hS.blk.lt
  clear hS hok hO hBw hBg
  go_enter Try.func42, Try.ntmps42
  go_upto_region 1 with fail
  generalize ((w.alloc (.cells #[.int .u64 p0, .int .u64 p1] 24)).alloc (.cells (ocells 4 amt c id).toArray 62)) = V at HB HS HK HP ⊢
  obtain ⟨gk, hgk⟩ : ∃ q, w.heap.size + 1 = q := ⟨_, rfl⟩
  obtain ⟨gp, hgp⟩ : ∃ q, w.heap.size = q := ⟨_, rfl⟩
  have HGK : Hid (gk = w.heap.size + 1 ∧ gp = w.heap.size) := Lib.hid ⟨hgk.symm, hgp.symm⟩
  rw [hgk] at HK ⊢
  rw [hgp] at HP ⊢
  clear hgk hgp
  have c0 := HK.out.cell 0
  rw [ocells_0] at c0
  have c38 := HK.out.cell 38
  rw [e38] at c38
  clear e38
  go_wp2_with fail
  refine (takeOut_at B g n cap j s a id V HS.out hn hj hf (Nat.le_trans HBW.out HB.out.size) HBG.out).mono ?_
  rintro e W ⟨rfl, m, hSY, hBY⟩
  have BY := Lib.hid ((HB.out.mono HBW.out).trans hBY)
  have SY := Lib.hid hSY
  clear hBY hSY c0 c38
  have hz1 : (Try.prog.info? 60).map (·.size) = some (s.cs.getD j cnd0).cells.toArray.size := by rw [hcok.size]; exact info60
  have hco := (s.cs.getD j cnd0).all_one
  have hz3 : (#[.int .u64 0, .int .i64 0, .int .u64 0, .int .u8 0, .int .u8 0, .int .u8 0, .int .u8 0, .int .u8 0, .int .u8 0, .int .u8 0, .int .u8 0, .int .u8 0, .int .u8 0, .int .u8 0, .int .u8 0, .int .u8 0, .int .u8 0, .int .u8 0, .int .u8 0, .int .u8 0, .int .u8 0, .int .u8 0, .int .u8 0, .int .u8 0, .int .u8 0, .int .u8 0, .int .u8 0, .int .u8 0, .int .u8 0, .int .u8 0, .int .u8 0, .int .u8 0, .int .u8 0, .int .u8 0, .int .u8 0, .int .u64 0] : Array Value).size = (s.cs.getD j cnd0).cells.toArray.size := by rw [hcok.size]; rfl
  have HLA := heap_alloc_last W (.cells #[.int .u64 0, .int .i64 0, .int .u64 0, .int .u8 0, .int .u8 0, .int .u8 0, .int .u8 0, .int .u8 0, .int .u8 0, .int .u8 0, .int .u8 0, .int .u8 0, .int .u8 0, .int .u8 0, .int .u8 0, .int .u8 0, .int .u8 0, .int .u8 0, .int .u8 0, .int .u8 0, .int .u8 0, .int .u8 0, .int .u8 0, .int .u8 0, .int .u8 0, .int .u8 0, .int .u8 0, .int .u8 0, .int .u8 0, .int .u8 0, .int .u8 0, .int .u8 0, .int .u8 0, .int .u8 0, .int .u8 0, .int .u64 0] 60)
  generalize (s.cs.getD j cnd0).cells.toArray = zc at hz1 hco hz3 ⊢
  go_wp2_with (first | (refine wpList_store_row rfl 60 (.tmp 11) (.tmp 66) rfl W.heap.size zc rfl rfl 60 _ HLA hz1 hz3 hco ?_; rw [World.setRow_alloc_new]))
  go_ret
  exact ⟨rfl, BY.out.alloc (Nat.le_trans HBW.out BY.out.size) _, fun _ => ⟨a, m, cap, SY.out.keep ((Below.refl _ _).alloc (Nat.le_refl _) _)⟩⟩

set_option maxRecDepth 100000 in
set_option maxHeartbeats 4000000 in
theorem do_3_0 (B g n cap : Nat) (s : St) (a : Option Addr) (p0 p1 amt id : Int) (c : Cnd) (w : World) (hS : StAt w B g s a n cap) (hn : n ≤ 1000) (hok : c.Ok) (hamt : Word amt) (hp0 : Word p0) (hp1 : Word p1) (hO : s.Ok) (hBw : B ≤ w.heap.size) (hBg : B ≤ g) (side : Int) (j : Nat) (hj : j < n) (hf : findV id s.cs = (j : Int)) (x : Cnd) (hx : s.cs.getD j cnd0 = x) (hxs : x.side = 0) : Calls Try.prog 42 #[.pointer (some ⟨g, 0, none⟩), .agg #[.int .u64 p0, .int .u64 p1], .int .i64 side, .agg (ocells 3 amt c id).toArray] w (DoPost B g ((s.out j).pay 0 x.amt) (spR 0 s.m0 x.amt) w) := by
  have hcok : x.Ok := hx ▸ hS.ok _ (getD_mem (by rw [hS.len]; exact hj))
  have HB : Hid (Below w.heap.size w ((w.alloc (.cells #[.int .u64 p0, .int .u64 p1] 24)).alloc (.cells (ocells 3 amt c id).toArray 62))) := Lib.hid (((Below.refl _ _).alloc (Nat.le_refl _) _).alloc (by simp) _)
  have HS := Lib.hid (hS.keep HB.out)
  have HK : Hid (Blk ((w.alloc (.cells #[.int .u64 p0, .int .u64 p1] 24)).alloc (.cells (ocells 3 amt c id).toArray 62)) (w.heap.size + 1) 62 (ocells 3 amt c id)) := Lib.hid (Blk.mk_ (by simp))
  have HP : Hid (Blk ((w.alloc (.cells #[.int .u64 p0, .int .u64 p1] 24)).alloc (.cells (ocells 3 amt c id).toArray 62)) w.heap.size 24 [.int .u64 p0, .int .u64 p1]) := Lib.hid ((Blk.mk_ rfl).alloc _)
  have HOK := Lib.hid hok
  have HO := Lib.hid hO
  have HBW := Lib.hid hBw
  have HBG := Lib.hid hBg
  have e38 := ocells_38 3 amt c id hok
  have HGN : Hid (g < w.heap.size) := Lib.hid hS.blk.lt
  clear hS hok hO hBw hBg
  go_enter Try.func42, Try.ntmps42
  go_upto_region 1 with fail
  generalize ((w.alloc (.cells #[.int .u64 p0, .int .u64 p1] 24)).alloc (.cells (ocells 3 amt c id).toArray 62)) = V at HB HS HK HP ⊢
  obtain ⟨gk, hgk⟩ : ∃ q, w.heap.size + 1 = q := ⟨_, rfl⟩
  obtain ⟨gp, hgp⟩ : ∃ q, w.heap.size = q := ⟨_, rfl⟩
  have HGK : Hid (gk = w.heap.size + 1 ∧ gp = w.heap.size) := Lib.hid ⟨hgk.symm, hgp.symm⟩
  rw [hgk] at HK ⊢
  rw [hgp] at HP ⊢
  clear hgk hgp
  have c0 := HK.out.cell 0
  rw [ocells_0] at c0
  have c38 := HK.out.cell 38
  rw [e38] at c38
  clear e38
  go_wp2_with fail
  refine (takeOut_at B g n cap j s a id V HS.out hn hj hf (Nat.le_trans HBW.out HB.out.size) HBG.out).mono ?_
  rintro e W ⟨rfl, m, hSY, hBY⟩
  rw [hx]
  have BY := Lib.hid ((HB.out.mono HBW.out).trans hBY)
  have SY := Lib.hid hSY
  have XOK := Lib.hid hcok
  have XS := Lib.hid hxs
  clear hBY hSY c0 c38 hx
  have hz1 : (Try.prog.info? 60).map (·.size) = some x.cells.toArray.size := by rw [hcok.size]; exact info60
  have hco := x.all_one
  have hz3 : (#[.int .u64 0, .int .i64 0, .int .u64 0, .int .u8 0, .int .u8 0, .int .u8 0, .int .u8 0, .int .u8 0, .int .u8 0, .int .u8 0, .int .u8 0, .int .u8 0, .int .u8 0, .int .u8 0, .int .u8 0, .int .u8 0, .int .u8 0, .int .u8 0, .int .u8 0, .int .u8 0, .int .u8 0, .int .u8 0, .int .u8 0, .int .u8 0, .int .u8 0, .int .u8 0, .int .u8 0, .int .u8 0, .int .u8 0, .int .u8 0, .int .u8 0, .int .u8 0, .int .u8 0, .int .u8 0, .int .u8 0, .int .u64 0] : Array Value).size = x.cells.toArray.size := by rw [hcok.size]; rfl
  have HLA := heap_alloc_last W (.cells #[.int .u64 0, .int .i64 0, .int .u64 0, .int .u8 0, .int .u8 0, .int .u8 0, .int .u8 0, .int .u8 0, .int .u8 0, .int .u8 0, .int .u8 0, .int .u8 0, .int .u8 0, .int .u8 0, .int .u8 0, .int .u8 0, .int .u8 0, .int .u8 0, .int .u8 0, .int .u8 0, .int .u8 0, .int .u8 0, .int .u8 0, .int .u8 0, .int .u8 0, .int .u8 0, .int .u8 0, .int .u8 0, .int .u8 0, .int .u8 0, .int .u8 0, .int .u8 0, .int .u8 0, .int .u8 0, .int .u8 0, .int .u64 0] 60)
  have hD := Blk.new W 60 x.cells
  have c1 := hD.cell 1
  have c2 := hD.cell 2
  rw [Cnd.c1, hxs] at c1
  rw [Cnd.c2] at c2
  have D := Lib.hid hD
  have hB : Below W.heap.size W (W.alloc (.cells x.cells.toArray 60)) := (Below.refl _ _).alloc (Nat.le_refl _) _
  have BZ := Lib.hid (BY.out.trans (hB.mono (Nat.le_trans HBW.out BY.out.size)))
  have SZ := Lib.hid (SY.out.keep hB)
  clear hcok hxs hD hB
  go_upto_region 12 with (first | (refine wpList_store_row rfl 60 (.tmp 9) (.tmp 45) rfl W.heap.size x.cells.toArray rfl rfl 60 _ HLA hz1 hz3 hco ?_; rw [World.setRow_alloc_new]))
  clear hz1 hco hz3 HLA SY BY HS HB HK HP
  generalize W.alloc (.cells x.cells.toArray 60) = U at c1 c2 D BZ SZ ⊢
  generalize W.heap.size = gc at c1 c2 D ⊢
  have BB := BZ
  have S := SZ
  clear BZ SZ c1 c2
  obtain ⟨E, hE⟩ : ∃ E, spR 0 s.m0 x.amt = E := ⟨_, rfl⟩
  have HR : Hid (∀ X, StAt X B g (s.out j) a m cap → Calls Try.prog 51 #[.pointer (some ⟨g, 2, none⟩), .int .u64 x.amt] X fun e w' => e = .returned (.int .i64 E) ∧ X.grownBy w' (some g) ∧ (E = 0 → StAt w' B g ((s.out j).pay 0 x.amt) a m cap)) := Lib.hid (fun X hX => by
    by_cases h : 18446744073709551616 ≤ s.m0 + x.amt
    · refine (raise_over g 2 s.m0 x.amt _ 31 X hX.blk rfl HO.out.m0 XOK.out.amt h).mono ?_
      rintro e w' ⟨rfl, rfl⟩
      rw [spR_over h] at hE
      exact ⟨by rw [hE], only_refl _ _, fun h0 => by rw [h0] at hE; cases hE⟩
    · refine (raise_ok g 2 s.m0 x.amt _ 31 X hX.blk rfl HO.out.m0 XOK.out.amt (by omega)).mono ?_
      rintro e w' ⟨rfl, rfl⟩
      rw [spR_ok h] at hE
      have hG := only_setCell (p := ⟨g, 2, none⟩) (only_refl X (some g)) (.inl rfl) (.int .u64 (s.m0 + x.amt))
      exact ⟨by rw [hE], hG, fun _ => hX.turned hG (hX.blk.set_ 2 (.int .u64 (s.m0 + x.amt))) rfl⟩)
  rw [hE]
  have HE := Lib.hid hE
  clear hE
  have hBz : Below U.heap.size U U.drew := below_drewN (Below.refl _ _) 1
  have BBX0 : Hid (Below B w U.drew) := Lib.hid (BB.out.trans (hBz.mono (Nat.le_trans HBW.out BB.out.size)))
  have SX0 : Hid (StAt U.drew B g (s.out j) a m cap) := Lib.hid (S.out.keep hBz)
  have DX0 : Hid (Blk U.drew gc 60 x.cells) := Lib.hid (D.out.below hBz D.out.lt)
  clear hBz
  refine wp_region_held_drew (S := fun w' => Blk w' gc 60 x.cells) (by kernel_rfl) (DX0.out) (fun hHeld => ?_)
  generalize U.drew = X0 at hHeld BBX0 SX0 DX0 ⊢
  refine wpAnyH_take (i := 0) (v := .pointer (some ⟨g, 0, none⟩)) rfl (by kernel_rfl) (by kernel_rfl) (by kernel_rfl) (fun _ _ _ h => h) (Or.inl ⟨by rfl, fun w _ => by rfl⟩) hHeld ?_
  show wpAnyH _ _ _ _ _ _ _ (Act.put _ (some 50) _) _
  simp only [Act.put, List.setIfInBounds_toArray, List.set_cons_zero, List.set_cons_succ]
  refine wpAnyH_take (i := 1) (v := .pointer (some ⟨gc, 1, none⟩)) rfl (by kernel_rfl) (by kernel_rfl) (by kernel_rfl) (fun _ _ _ h => h) (Or.inl ⟨by rfl, by intro w' h; go_simp⟩) hHeld ?_
  show wpAnyH _ _ _ _ _ _ _ (Act.put _ (some 51) _) _
  simp only [Act.put, List.setIfInBounds_toArray, List.set_cons_zero, List.set_cons_succ]
  refine wpAnyH_take (i := 2) (v := .int .i64 0) rfl (by kernel_rfl) (by kernel_rfl) (by kernel_rfl) (fun _ _ _ h => h) (Or.inl ⟨by rfl, by intro w' h; have q := Blk.cell h 1; rw [Cnd.c1, XS.out] at q; go_simp⟩) hHeld ?_
  show wpAnyH _ _ _ _ _ _ _ (Act.put _ (some 52) _) _
  simp only [Act.put, List.setIfInBounds_toArray, List.set_cons_zero, List.set_cons_succ]
  refine wpAnyH_take (i := 3) (v := .pointer (some ⟨g, 0, none⟩)) rfl (by kernel_rfl) (by kernel_rfl) (by kernel_rfl) (fun _ _ _ h => h) (Or.inl ⟨by rfl, by intro w' h; go_simp⟩) hHeld ?_
  show wpAnyH _ _ _ _ _ _ _ (Act.put _ (some 53) _) _
  simp only [Act.put, List.setIfInBounds_toArray, List.set_cons_zero, List.set_cons_succ]
  refine wpAnyH_take (i := 4) (v := .pointer (some ⟨g, 2, none⟩)) rfl (by kernel_rfl) (by kernel_rfl) (by kernel_rfl) (fun _ _ _ h => h) (Or.inl ⟨by rfl, by intro w' h; go_simp⟩) hHeld ?_
  show wpAnyH _ _ _ _ _ _ _ (Act.put _ (some 54) _) _
  simp only [Act.put, List.setIfInBounds_toArray, List.set_cons_zero, List.set_cons_succ]
  refine wpAnyH_take (i := 5) (v := .pointer (some ⟨g, 2, none⟩)) rfl (by kernel_rfl) (by kernel_rfl) (by kernel_rfl) (fun _ _ _ h => h) (Or.inl ⟨by rfl, by intro w' h; go_simp⟩) hHeld ?_
  show wpAnyH _ _ _ _ _ _ _ (Act.put _ (some 55) _) _
  simp only [Act.put, List.setIfInBounds_toArray, List.set_cons_zero, List.set_cons_succ]
  refine wpAnyH_take (i := 6) (v := .pointer (some ⟨gc, 2, none⟩)) rfl (by kernel_rfl) (by kernel_rfl) (by kernel_rfl) (fun _ _ _ h => h) (Or.inl ⟨by rfl, by intro w' h; go_simp⟩) hHeld ?_
  show wpAnyH _ _ _ _ _ _ _ (Act.put _ (some 56) _) _
  simp only [Act.put, List.setIfInBounds_toArray, List.set_cons_zero, List.set_cons_succ]
  refine wpAnyH_take (i := 7) (v := .int .u64 x.amt) rfl (by kernel_rfl) (by kernel_rfl) (by kernel_rfl) (fun _ _ _ h => h) (Or.inl ⟨by rfl, by intro w' h; have q := Blk.cell h 2; rw [Cnd.c2] at q; go_simp⟩) hHeld ?_
  show wpAnyH _ _ _ _ _ _ _ (Act.put _ (some 57) _) _
  simp only [Act.put, List.setIfInBounds_toArray, List.set_cons_zero, List.set_cons_succ]
  refine wpAnyH_ready (rs := [8]) (by kernel_rfl) (by simp) ?_
  refine AllReadyH.cons rfl (fun K hK => ?_) AllReadyH.nil
  refine step_call rfl 51 #[.tmp 55, .tmp 57] #[99, 23] rfl #[.pointer (some ⟨g, 2, none⟩), .int .u64 x.amt] (by simp [Act.eval]) (by go_simp) (HR.out X0 SX0.out) ?_
  rintro e X1 ⟨rfl, hO, hN⟩
  have hDO : some gc ≠ some g := fun e => DX0.out.ne_ SX0.out.blk (by decide) (by injection e)
  have hBY : Below B w X1 := BBX0.out.trans (below_only hO (Nat.le_trans HBW.out BBX0.out.size) HBG.out)
  have DX1 : Hid (Blk X1 gc 60 x.cells) := Lib.hid (DX0.out.grown hO hDO)
  have BYX1 : Hid (Below B w X1) := Lib.hid (hBY)
  have SYX1 : Hid (E = 0 → StAt X1 B g ((s.out j).pay 0 x.amt) a m cap) := Lib.hid (hN)
  clear DX0 hO hN hBY hDO SX0 BBX0
  refine ⟨_, rfl, hK.out _ _ (DX1.out) (fun hHeld => ?_)⟩
  clear hK K
  show wpAnyH _ _ _ _ _ _ _ (Act.put _ (some 58) _) _
  simp only [Act.put, List.setIfInBounds_toArray, List.set_cons_zero, List.set_cons_succ]
  refine wpAnyH_take (i := 9) (v := .int .i64 E) rfl (by kernel_rfl) (by kernel_rfl) (by kernel_rfl) (fun _ _ _ h => h) (Or.inl ⟨by rfl, fun w _ => by rfl⟩) hHeld ?_
  show wpAnyH _ _ _ _ _ _ _ (Act.put _ (some 8) _) _
  simp only [Act.put, List.setIfInBounds_toArray, List.set_cons_zero, List.set_cons_succ]
  refine wpAnyH_done (by kernel_rfl) ?_ _
  clear hHeld
  go_wp2
  go_ret
  exact ⟨by rw [HE.out]; rfl, BYX1.out, fun h => ⟨a, m, cap, SYX1.out (HE.out ▸ h)⟩⟩
set_option maxRecDepth 100000 in
set_option maxHeartbeats 4000000 in
theorem do_3_1 (B g n cap : Nat) (s : St) (a : Option Addr) (p0 p1 amt id : Int) (c : Cnd) (w : World) (hS : StAt w B g s a n cap) (hn : n ≤ 1000) (hok : c.Ok) (hamt : Word amt) (hp0 : Word p0) (hp1 : Word p1) (hO : s.Ok) (hBw : B ≤ w.heap.size) (hBg : B ≤ g) (side : Int) (j : Nat) (hj : j < n) (hf : findV id s.cs = (j : Int)) (x : Cnd) (hx : s.cs.getD j cnd0 = x) (hxs : x.side = 1) : Calls Try.prog 42 #[.pointer (some ⟨g, 0, none⟩), .agg #[.int .u64 p0, .int .u64 p1], .int .i64 side, .agg (ocells 3 amt c id).toArray] w (DoPost B g ((s.out j).pay 1 x.amt) (spR 0 s.m1 x.amt) w) := by
  have hcok : x.Ok := hx ▸ hS.ok _ (getD_mem (by rw [hS.len]; exact hj))
  have HB : Hid (Below w.heap.size w ((w.alloc (.cells #[.int .u64 p0, .int .u64 p1] 24)).alloc (.cells (ocells 3 amt c id).toArray 62))) := Lib.hid (((Below.refl _ _).alloc (Nat.le_refl _) _).alloc (by simp) _)
  have HS := Lib.hid (hS.keep HB.out)
  have HK : Hid (Blk ((w.alloc (.cells #[.int .u64 p0, .int .u64 p1] 24)).alloc (.cells (ocells 3 amt c id).toArray 62)) (w.heap.size + 1) 62 (ocells 3 amt c id)) := Lib.hid (Blk.mk_ (by simp))
  have HP : Hid (Blk ((w.alloc (.cells #[.int .u64 p0, .int .u64 p1] 24)).alloc (.cells (ocells 3 amt c id).toArray 62)) w.heap.size 24 [.int .u64 p0, .int .u64 p1]) := Lib.hid ((Blk.mk_ rfl).alloc _)
  have HOK := Lib.hid hok
  have HO := Lib.hid hO
  have HBW := Lib.hid hBw
  have HBG := Lib.hid hBg
  have e38 := ocells_38 3 amt c id hok
  have HGN : Hid (g < w.heap.size) := Lib.hid hS.blk.lt
  clear hS hok hO hBw hBg
  go_enter Try.func42, Try.ntmps42
  go_upto_region 1 with fail
  generalize ((w.alloc (.cells #[.int .u64 p0, .int .u64 p1] 24)).alloc (.cells (ocells 3 amt c id).toArray 62)) = V at HB HS HK HP ⊢
  obtain ⟨gk, hgk⟩ : ∃ q, w.heap.size + 1 = q := ⟨_, rfl⟩
  obtain ⟨gp, hgp⟩ : ∃ q, w.heap.size = q := ⟨_, rfl⟩
  have HGK : Hid (gk = w.heap.size + 1 ∧ gp = w.heap.size) := Lib.hid ⟨hgk.symm, hgp.symm⟩
  rw [hgk] at HK ⊢
  rw [hgp] at HP ⊢
  clear hgk hgp
  have c0 := HK.out.cell 0
  rw [ocells_0] at c0
  have c38 := HK.out.cell 38
  rw [e38] at c38
  clear e38
  go_wp2_with fail
  refine (takeOut_at B g n cap j s a id V HS.out hn hj hf (Nat.le_trans HBW.out HB.out.size) HBG.out).mono ?_
  rintro e W ⟨rfl, m, hSY, hBY⟩
  rw [hx]
  have BY := Lib.hid ((HB.out.mono HBW.out).trans hBY)
  have SY := Lib.hid hSY
  have XOK := Lib.hid hcok
  have XS := Lib.hid hxs
  clear hBY hSY c0 c38 hx
  have hz1 : (Try.prog.info? 60).map (·.size) = some x.cells.toArray.size := by rw [hcok.size]; exact info60
  have hco := x.all_one
  have hz3 : (#[.int .u64 0, .int .i64 0, .int .u64 0, .int .u8 0, .int .u8 0, .int .u8 0, .int .u8 0, .int .u8 0, .int .u8 0, .int .u8 0, .int .u8 0, .int .u8 0, .int .u8 0, .int .u8 0, .int .u8 0, .int .u8 0, .int .u8 0, .int .u8 0, .int .u8 0, .int .u8 0, .int .u8 0, .int .u8 0, .int .u8 0, .int .u8 0, .int .u8 0, .int .u8 0, .int .u8 0, .int .u8 0, .int .u8 0, .int .u8 0, .int .u8 0, .int .u8 0, .int .u8 0, .int .u8 0, .int .u8 0, .int .u64 0] : Array Value).size = x.cells.toArray.size := by rw [hcok.size]; rfl
  have HLA := heap_alloc_last W (.cells #[.int .u64 0, .int .i64 0, .int .u64 0, .int .u8 0, .int .u8 0, .int .u8 0, .int .u8 0, .int .u8 0, .int .u8 0, .int .u8 0, .int .u8 0, .int .u8 0, .int .u8 0, .int .u8 0, .int .u8 0, .int .u8 0, .int .u8 0, .int .u8 0, .int .u8 0, .int .u8 0, .int .u8 0, .int .u8 0, .int .u8 0, .int .u8 0, .int .u8 0, .int .u8 0, .int .u8 0, .int .u8 0, .int .u8 0, .int .u8 0, .int .u8 0, .int .u8 0, .int .u8 0, .int .u8 0, .int .u8 0, .int .u64 0] 60)
  have hD := Blk.new W 60 x.cells
  have c1 := hD.cell 1
  have c2 := hD.cell 2
  rw [Cnd.c1, hxs] at c1
  rw [Cnd.c2] at c2
  have D := Lib.hid hD
  have hB : Below W.heap.size W (W.alloc (.cells x.cells.toArray 60)) := (Below.refl _ _).alloc (Nat.le_refl _) _
  have BZ := Lib.hid (BY.out.trans (hB.mono (Nat.le_trans HBW.out BY.out.size)))
  have SZ := Lib.hid (SY.out.keep hB)
  clear hcok hxs hD hB
  go_upto_region 12 with (first | (refine wpList_store_row rfl 60 (.tmp 9) (.tmp 45) rfl W.heap.size x.cells.toArray rfl rfl 60 _ HLA hz1 hz3 hco ?_; rw [World.setRow_alloc_new]))
  clear hz1 hco hz3 HLA SY BY HS HB HK HP
  generalize W.alloc (.cells x.cells.toArray 60) = U at c1 c2 D BZ SZ ⊢
  generalize W.heap.size = gc at c1 c2 D ⊢
  have BB := BZ
  have S := SZ
  clear BZ SZ c1 c2
  obtain ⟨E, hE⟩ : ∃ E, spR 0 s.m1 x.amt = E := ⟨_, rfl⟩
  have HR : Hid (∀ X, StAt X B g (s.out j) a m cap → Calls Try.prog 51 #[.pointer (some ⟨g, 3, none⟩), .int .u64 x.amt] X fun e w' => e = .returned (.int .i64 E) ∧ X.grownBy w' (some g) ∧ (E = 0 → StAt w' B g ((s.out j).pay 1 x.amt) a m cap)) := Lib.hid (fun X hX => by
    by_cases h : 18446744073709551616 ≤ s.m1 + x.amt
    · refine (raise_over g 3 s.m1 x.amt _ 31 X hX.blk rfl HO.out.m1 XOK.out.amt h).mono ?_
      rintro e w' ⟨rfl, rfl⟩
      rw [spR_over h] at hE
      exact ⟨by rw [hE], only_refl _ _, fun h0 => by rw [h0] at hE; cases hE⟩
    · refine (raise_ok g 3 s.m1 x.amt _ 31 X hX.blk rfl HO.out.m1 XOK.out.amt (by omega)).mono ?_
      rintro e w' ⟨rfl, rfl⟩
      rw [spR_ok h] at hE
      have hG := only_setCell (p := ⟨g, 3, none⟩) (only_refl X (some g)) (.inl rfl) (.int .u64 (s.m1 + x.amt))
      exact ⟨by rw [hE], hG, fun _ => hX.turned hG (hX.blk.set_ 3 (.int .u64 (s.m1 + x.amt))) rfl⟩)
  rw [hE]
  have HE := Lib.hid hE
  clear hE
  have hBz : Below U.heap.size U U.drew := below_drewN (Below.refl _ _) 1
  have BBX0 : Hid (Below B w U.drew) := Lib.hid (BB.out.trans (hBz.mono (Nat.le_trans HBW.out BB.out.size)))
  have SX0 : Hid (StAt U.drew B g (s.out j) a m cap) := Lib.hid (S.out.keep hBz)
  have DX0 : Hid (Blk U.drew gc 60 x.cells) := Lib.hid (D.out.below hBz D.out.lt)
  clear hBz
  refine wp_region_held_drew (S := fun w' => Blk w' gc 60 x.cells) (by kernel_rfl) (DX0.out) (fun hHeld => ?_)
  generalize U.drew = X0 at hHeld BBX0 SX0 DX0 ⊢
  refine wpAnyH_take (i := 0) (v := .pointer (some ⟨g, 0, none⟩)) rfl (by kernel_rfl) (by kernel_rfl) (by kernel_rfl) (fun _ _ _ h => h) (Or.inl ⟨by rfl, fun w _ => by rfl⟩) hHeld ?_
  show wpAnyH _ _ _ _ _ _ _ (Act.put _ (some 50) _) _
  simp only [Act.put, List.setIfInBounds_toArray, List.set_cons_zero, List.set_cons_succ]
  refine wpAnyH_take (i := 1) (v := .pointer (some ⟨gc, 1, none⟩)) rfl (by kernel_rfl) (by kernel_rfl) (by kernel_rfl) (fun _ _ _ h => h) (Or.inl ⟨by rfl, by intro w' h; go_simp⟩) hHeld ?_
  show wpAnyH _ _ _ _ _ _ _ (Act.put _ (some 51) _) _
  simp only [Act.put, List.setIfInBounds_toArray, List.set_cons_zero, List.set_cons_succ]
  refine wpAnyH_take (i := 2) (v := .int .i64 1) rfl (by kernel_rfl) (by kernel_rfl) (by kernel_rfl) (fun _ _ _ h => h) (Or.inl ⟨by rfl, by intro w' h; have q := Blk.cell h 1; rw [Cnd.c1, XS.out] at q; go_simp⟩) hHeld ?_
  show wpAnyH _ _ _ _ _ _ _ (Act.put _ (some 52) _) _
  simp only [Act.put, List.setIfInBounds_toArray, List.set_cons_zero, List.set_cons_succ]
  refine wpAnyH_take (i := 3) (v := .pointer (some ⟨g, 0, none⟩)) rfl (by kernel_rfl) (by kernel_rfl) (by kernel_rfl) (fun _ _ _ h => h) (Or.inl ⟨by rfl, by intro w' h; go_simp⟩) hHeld ?_
  show wpAnyH _ _ _ _ _ _ _ (Act.put _ (some 53) _) _
  simp only [Act.put, List.setIfInBounds_toArray, List.set_cons_zero, List.set_cons_succ]
  refine wpAnyH_take (i := 4) (v := .pointer (some ⟨g, 2, none⟩)) rfl (by kernel_rfl) (by kernel_rfl) (by kernel_rfl) (fun _ _ _ h => h) (Or.inl ⟨by rfl, by intro w' h; go_simp⟩) hHeld ?_
  show wpAnyH _ _ _ _ _ _ _ (Act.put _ (some 54) _) _
  simp only [Act.put, List.setIfInBounds_toArray, List.set_cons_zero, List.set_cons_succ]
  refine wpAnyH_take (i := 5) (v := .pointer (some ⟨g, 3, none⟩)) rfl (by kernel_rfl) (by kernel_rfl) (by kernel_rfl) (fun _ _ _ h => h) (Or.inl ⟨by rfl, by intro w' h; go_simp⟩) hHeld ?_
  show wpAnyH _ _ _ _ _ _ _ (Act.put _ (some 55) _) _
  simp only [Act.put, List.setIfInBounds_toArray, List.set_cons_zero, List.set_cons_succ]
  refine wpAnyH_take (i := 6) (v := .pointer (some ⟨gc, 2, none⟩)) rfl (by kernel_rfl) (by kernel_rfl) (by kernel_rfl) (fun _ _ _ h => h) (Or.inl ⟨by rfl, by intro w' h; go_simp⟩) hHeld ?_
  show wpAnyH _ _ _ _ _ _ _ (Act.put _ (some 56) _) _
  simp only [Act.put, List.setIfInBounds_toArray, List.set_cons_zero, List.set_cons_succ]
  refine wpAnyH_take (i := 7) (v := .int .u64 x.amt) rfl (by kernel_rfl) (by kernel_rfl) (by kernel_rfl) (fun _ _ _ h => h) (Or.inl ⟨by rfl, by intro w' h; have q := Blk.cell h 2; rw [Cnd.c2] at q; go_simp⟩) hHeld ?_
  show wpAnyH _ _ _ _ _ _ _ (Act.put _ (some 57) _) _
  simp only [Act.put, List.setIfInBounds_toArray, List.set_cons_zero, List.set_cons_succ]
  refine wpAnyH_ready (rs := [8]) (by kernel_rfl) (by simp) ?_
  refine AllReadyH.cons rfl (fun K hK => ?_) AllReadyH.nil
  refine step_call rfl 51 #[.tmp 55, .tmp 57] #[99, 23] rfl #[.pointer (some ⟨g, 3, none⟩), .int .u64 x.amt] (by simp [Act.eval]) (by go_simp) (HR.out X0 SX0.out) ?_
  rintro e X1 ⟨rfl, hO, hN⟩
  have hDO : some gc ≠ some g := fun e => DX0.out.ne_ SX0.out.blk (by decide) (by injection e)
  have hBY : Below B w X1 := BBX0.out.trans (below_only hO (Nat.le_trans HBW.out BBX0.out.size) HBG.out)
  have DX1 : Hid (Blk X1 gc 60 x.cells) := Lib.hid (DX0.out.grown hO hDO)
  have BYX1 : Hid (Below B w X1) := Lib.hid (hBY)
  have SYX1 : Hid (E = 0 → StAt X1 B g ((s.out j).pay 1 x.amt) a m cap) := Lib.hid (hN)
  clear DX0 hO hN hBY hDO SX0 BBX0
  refine ⟨_, rfl, hK.out _ _ (DX1.out) (fun hHeld => ?_)⟩
  clear hK K
  show wpAnyH _ _ _ _ _ _ _ (Act.put _ (some 58) _) _
  simp only [Act.put, List.setIfInBounds_toArray, List.set_cons_zero, List.set_cons_succ]
  refine wpAnyH_take (i := 9) (v := .int .i64 E) rfl (by kernel_rfl) (by kernel_rfl) (by kernel_rfl) (fun _ _ _ h => h) (Or.inl ⟨by rfl, fun w _ => by rfl⟩) hHeld ?_
  show wpAnyH _ _ _ _ _ _ _ (Act.put _ (some 8) _) _
  simp only [Act.put, List.setIfInBounds_toArray, List.set_cons_zero, List.set_cons_succ]
  refine wpAnyH_done (by kernel_rfl) ?_ _
  clear hHeld
  go_wp2
  go_ret
  exact ⟨by rw [HE.out]; rfl, BYX1.out, fun h => ⟨a, m, cap, SYX1.out (HE.out ▸ h)⟩⟩
set_option maxRecDepth 100000 in
set_option maxHeartbeats 4000000 in
theorem do_any (B g n cap : Nat) (s : St) (a : Option Addr) (p0 p1 amt id : Int) (c : Cnd) (w : World) (hS : StAt w B g s a n cap) (hn : n ≤ 1000) (hok : c.Ok) (hamt : Word amt) (hp0 : Word p0) (hp1 : Word p1) (hO : s.Ok) (hBw : B ≤ w.heap.size) (hBg : B ≤ g) (side k : Int) (hsd : side = 0 ∨ side = 1) (hcs : ∀ c ∈ s.cs, c.side = 0 ∨ c.side = 1) : Calls Try.prog 42 #[.pointer (some ⟨g, 0, none⟩), .agg #[.int .u64 p0, .int .u64 p1], .int .i64 side, .agg (ocells k amt c id).toArray] w (DoPost B g (doS s side k amt c id) (doE s p0 p1 side k amt c id) w) := by
  unfold doS doE
  by_cases h0 : k = 0
  · subst h0
    simpa using do_0 B g n cap s a p0 p1 amt id c w hS hn hok hamt hp0 hp1 hO hBw hBg side
  by_cases h1 : k = 1
  · subst h1
    rcases hsd with rfl | rfl
    · simpa [St.mv] using do_1_0 B g n cap s a p0 p1 amt id c w hS hn hok hamt hp0 hp1 hO hBw hBg
    · simpa [St.mv] using do_1_1 B g n cap s a p0 p1 amt id c w hS hn hok hamt hp0 hp1 hO hBw hBg
  by_cases h2 : k = 2
  · subst h2
    simpa using do_2 B g n cap s a p0 p1 amt id c w hS hn hok hamt hp0 hp1 hO hBw hBg side
  by_cases h5 : k = 5
  · subst h5
    rcases hsd with rfl | rfl
    · simpa [St.tk] using do_5_0 B g n cap s a p0 p1 amt id c w hS hn hok hamt hp0 hp1 hO hBw hBg
    · simpa [St.tk] using do_5_1 B g n cap s a p0 p1 amt id c w hS hn hok hamt hp0 hp1 hO hBw hBg
  by_cases h3 : k = 3
  · subst h3
    rcases findV_at id s.cs with ⟨hf, _⟩ | ⟨j, hj, hf, _⟩
    · have := do_3_none B g n cap s a p0 p1 amt id c w hS hn hok hamt hp0 hp1 hO hBw hBg side hf
      refine this.mono fun e w' ⟨a1, a2, a3⟩ => ?_
      simp only [hf, DoPost] at a1 ⊢
      exact ⟨by simpa using a1, a2, fun h => by simp at h⟩
    · have hx : s.at_ id = s.cs.getD j cnd0 := by unfold St.at_; rw [hf]; simp
      have hj' : (findV id s.cs).toNat = j := by rw [hf]; simp
      have hnn : ¬ (j : Int) < 0 := by omega
      have hls : s.less id = s.out j := by unfold St.less; rw [hj']
      rcases hcs _ (getD_mem hj) with hs | hs
      · have := do_3_0 B g n cap s a p0 p1 amt id c w hS hn hok hamt hp0 hp1 hO hBw hBg side j (by rw [← hS.len]; exact hj) hf _ rfl hs
        rw [hx, hls, hs]
        simpa [hf, hnn, St.mv] using this
      · have := do_3_1 B g n cap s a p0 p1 amt id c w hS hn hok hamt hp0 hp1 hO hBw hBg side j (by rw [← hS.len]; exact hj) hf _ rfl hs
        rw [hx, hls, hs]
        simpa [hf, hnn, St.mv] using this
  by_cases h4 : k = 4
  · subst h4
    rcases findV_at id s.cs with ⟨hf, _⟩ | ⟨j, hj, hf, _⟩
    · have := do_4_none B g n cap s a p0 p1 amt id c w hS hn hok hamt hp0 hp1 hO hBw hBg side hf
      refine this.mono fun e w' ⟨a1, a2, a3⟩ => ?_
      simp only [hf, DoPost] at a1 ⊢
      exact ⟨by simpa using a1, a2, fun h => by simp at h⟩
    · have hj' : (findV id s.cs).toNat = j := by rw [hf]; simp
      have hnn : ¬ (j : Int) < 0 := by omega
      have hls : s.less id = s.out j := by unfold St.less; rw [hj']
      have := do_4_at B g n cap s a p0 p1 amt id c w hS hn hok hamt hp0 hp1 hO hBw hBg side j (by rw [← hS.len]; exact hj) hf
      rw [hls]
      simpa [hf, hnn] using this
  · have := do_n B g n cap s a p0 p1 amt id c w hS hn hok hamt hp0 hp1 hO hBw hBg side k h0 h1 h2 h3 h4 h5
    simpa [h0, h1, h2, h3, h4, h5] using this

end Go.Proofs.Ytkiifjkcpangfaa
