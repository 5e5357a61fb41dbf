/-
  What a side spends; a payment taken out.
-/
import Derived.Test.YtkiifjkcpangfaaPacO
namespace Go.Proofs.Ytkiifjkcpangfaa
open Go.RowKit
set_option linter.unusedVariables false

theorem results_ct {fn : Func} {p u : Tmp} {ty : TypeId} (h : fn.results = #[.cell p ty, .tmp u]) (tmps : Array Value) (w : World) (g t : Nat) (cs : List Value) (d : TypeDesc) (hp : tmps.getD p undef = .pointer (some ⟨g, 0, none⟩)) (hB : Blk w g t cs)
    (hu : Try.prog.underlying ty = some d) (hd : d.isRow = true) (hi : (Try.prog.info? ty).map (·.size) = some cs.length) :
    (results fn tmps).run Try.prog w = .ok (.tuple #[.agg cs.toArray, tmps.getD u undef]) w := by
  rw [results_cell_tmp h, hp]
  simp [asAddr, Result.andThen, run_loadVar_mid w g 0 ty cs d hB.all hu hd hi]
/-- A state in memory that is one's own: its block, its payments' row, both from block B on. -/
structure StAt (w : World) (B g : Nat) (s : St) (a : Option Addr) (n cap : Nat) : Prop where
  blk : Blk w g 31 [.int .u32 s.ch, .int .u64 s.rd, .int .u64 s.m0, .int .u64 s.m1, .int .u64 s.t0, .int .u64 s.t1, .slice a n cap]
  own : w.ownsRow B 60 36 (.slice a n cap) n (cflat s.cs)
  ok : ∀ c ∈ s.cs, c.Ok
  len : s.cs.length = n
theorem StAt.row {w : World} {B g n cap : Nat} {s : St} {a : Option Addr} (h : StAt w B g s a n cap) : CRow w a s.cs := CRow.of_own (by rw [h.len]; exact h.own) h.ok
theorem StAt.keep {w w' : World} {B g n cap : Nat} {s : St} {a : Option Addr} (h : StAt w B g s a n cap) (hB : Below w.heap.size w w') : StAt w' B g s a n cap := ⟨h.blk.below hB h.blk.lt, own_keep h.own hB, h.ok, h.len⟩
/-- Two blocks of unlike elements are two. -/
theorem own_ne {w : World} {base e s n : Nat} {v : Value} {xs : List Value} (h : w.ownsRow base e s v n xs) {g t : Nat} {cs : List Value} (hB : Blk w g t cs) (hne : e ≠ t) : some g ≠ v.ownBlock := by
  rcases h.2 with ⟨rfl, _⟩ | ⟨g', cap', cur', rfl, _, hg', _⟩
  · intro e; cases e
  · intro e
    simp only [Value.ownBlock] at e
    injection e with e
    subst e
    unfold Blk at hB
    rw [hg'] at hB
    injection hB with hB
    injection hB with _ ht
    exact hne ht
theorem StAt.turned {w w' : World} {B g n cap : Nat} {s s' : St} {a : Option Addr} (h : StAt w B g s a n cap) (hG : w.grownBy w' (some g)) (hb : Blk w' g 31 [.int .u32 s'.ch, .int .u64 s'.rd, .int .u64 s'.m0, .int .u64 s'.m1, .int .u64 s'.t0, .int .u64 s'.t1, .slice a n cap]) (hc : s'.cs = s.cs) : StAt w' B g s' a n cap :=
  ⟨hb, by rw [hc]; exact h.own.kept hG (.inr (fun e => own_ne h.own h.blk (by decide) e.symm)), by rw [hc]; exact h.ok, by rw [hc]; exact h.len⟩
def St.out (s : St) (j : Nat) : St := ⟨s.ch, s.rd, s.m0, s.m1, s.t0, s.t1, s.cs.eraseIdx j⟩
def spR (e v amt : Int) : Int := if e ≠ 0 then e else if 18446744073709551616 ≤ v + amt then 11 else 0
theorem spR_e {e : Int} (h : e ≠ 0) (v amt : Int) : spR e v amt = e := by unfold spR; rw [if_pos h]
theorem spR_over {v amt : Int} (h : 18446744073709551616 ≤ v + amt) : spR 0 v amt = 11 := by unfold spR; rw [if_neg (by decide), if_pos h]
theorem spR_ok {v amt : Int} (h : ¬ 18446744073709551616 ≤ v + amt) : spR 0 v amt = 0 := by unfold spR; rw [if_neg (by decide), if_neg h]

set_option maxRecDepth 100000 in
set_option maxHeartbeats 4000000 in
theorem spend_any (ch rd m0 m1 t0 t1 : Int) (a : Option Addr) (n cap : Nat) (cs : List Cnd) (g i : Nat) (v p0 p1 side amt : Int) (w : World) (hS : Blk w g 31 [.int .u32 ch, .int .u64 rd, .int .u64 m0, .int .u64 m1, .int .u64 t0, .int .u64 t1, .slice a n cap]) (hC : CRow w a cs) (hl : cs.length = n) (hn : n ≤ 1000) (hp0 : Word p0) (hp1 : Word p1) (hO : St.Ok ⟨ch, rd, m0, m1, t0, t1, cs⟩) (hamt : Word amt) (hv : ([.int .u32 ch, .int .u64 rd, .int .u64 m0, .int .u64 m1, .int .u64 t0, .int .u64 t1, .slice a n cap] : List Value)[i]? = some (.int .u64 v)) (hwv : Word v) :
    Calls Try.prog 48 #[.pointer (some ⟨g, 0, none⟩), .agg #[.int .u64 p0, .int .u64 p1], .int .i64 side, .int .u64 amt, .pointer (some ⟨g, i, none⟩)] w fun e w' => e = .returned (.int .i64 (spR (spE (freeF ⟨ch, rd, m0, m1, t0, t1, cs⟩ p0 p1 side) amt) v amt)) ∧ w.grownBy w' (some g) ∧ (spR (spE (freeF ⟨ch, rd, m0, m1, t0, t1, cs⟩ p0 p1 side) amt) v amt = 0 → Blk w' g 31 (([.int .u32 ch, .int .u64 rd, .int .u64 m0, .int .u64 m1, .int .u64 t0, .int .u64 t1, .slice a n cap] : List Value).set i (.int .u64 (v + amt)))) := by
  have HB : Hid (Below w.heap.size w (w.alloc (.cells #[.int .u64 p0, .int .u64 p1] 24))) := Lib.hid ((Below.refl _ _).alloc (Nat.le_refl _) _)
  have HV := Lib.hid hv
  have HS := Lib.hid hS
  have HC := Lib.hid hC
  clear hv hS hC
  go_enter Try.func48, Try.ntmps48
  go_wp2_with fail
  refine (afford_any ch rd m0 m1 t0 t1 a n cap cs g p0 p1 side amt _ (HS.out.below HB.out HS.out.lt) (HC.out.below HB.out) hl hn hp0 hp1 hO hamt).mono ?_
  rintro e V ⟨rfl, hB⟩
  have BV := Lib.hid (HB.out.trans (hB.mono HB.out.size))
  have SV := Lib.hid (HS.out.below BV.out HS.out.lt)
  clear hB
  obtain ⟨E, hE⟩ : ∃ x, spE (freeF ⟨ch, rd, m0, m1, t0, t1, cs⟩ p0 p1 side) amt = x := ⟨_, rfl⟩
  rw [hE]
  have HE := Lib.hid hE
  clear hE
  by_cases h0 : E = 0
  · subst h0
    by_cases h1 : 18446744073709551616 ≤ v + amt
    · have HT := Lib.hid (spR_over h1)
      have H1 := Lib.hid h1
      clear h1
      go_wp2_with fail
      refine (raise_over g i v amt _ 31 V SV.out HV.out hwv hamt H1.out).mono ?_
      rintro e w' ⟨rfl, rfl⟩
      go_wp2
      go_ret
      exact ⟨by rw [HE.out, HT.out]; rfl, only_below (only_refl w _) BV.out, fun h => by rw [HE.out, HT.out] at h; cases h⟩
    · have HT := Lib.hid (spR_ok h1)
      have H1 := Lib.hid h1
      clear h1
      go_wp2_with fail
      refine (raise_ok g i v amt _ 31 V SV.out HV.out hwv hamt (by have := H1.out; omega)).mono ?_
      rintro e w' ⟨rfl, rfl⟩
      have HW := Lib.hid (SV.out.set_ i (.int .u64 (v + amt)))
      have HG := Lib.hid (only_setCell (p := ⟨g, i, none⟩) (only_below (only_refl w (some g)) BV.out) (.inl rfl) (.int .u64 (v + amt)))
      generalize V.setCell ⟨g, i, none⟩ (.int .u64 (v + amt)) = Z at HW HG ⊢
      go_wp2
      go_ret
      exact ⟨by rw [HE.out, HT.out]; rfl, HG.out, fun _ => HW.out⟩
  · have b0 : (E != 0) = true := by simpa using h0
    have HT := Lib.hid (spR_e h0 v amt)
    have H0 := Lib.hid h0
    clear h0
    go_wp2
    go_ret
    exact ⟨by rw [HE.out, HT.out]; rfl, only_below (only_refl w _) BV.out, fun h => by rw [HE.out, HT.out] at h; exact absurd h H0.out⟩

set_option maxRecDepth 100000 in
set_option maxHeartbeats 4000000 in
theorem takeOut_none (B g n cap : Nat) (s : St) (a : Option Addr) (id : Int) (w : World) (hS : StAt w B g s a n cap) (hn : n ≤ 1000) (hf : findV id s.cs = -1) :
    Calls Try.prog 50 #[.pointer (some ⟨g, 0, none⟩), .int .u64 id] w fun e w' => e = .returned (.tuple #[.agg cnd0.cells.toArray, .int .i64 6]) ∧ Below w.heap.size w w' := by
  have HB : Hid (Below w.heap.size w (w.alloc (.cells #[.int .u64 0, .int .i64 0, .int .u64 0, .int .u8 0, .int .u8 0, .int .u8 0, .int .u8 0, .int .u8 0, .int .u8 0, .int .u8 0, .int .u8 0, .int .u8 0, .int .u8 0, .int .u8 0, .int .u8 0, .int .u8 0, .int .u8 0, .int .u8 0, .int .u8 0, .int .u8 0, .int .u8 0, .int .u8 0, .int .u8 0, .int .u8 0, .int .u8 0, .int .u8 0, .int .u8 0, .int .u8 0, .int .u8 0, .int .u8 0, .int .u8 0, .int .u8 0, .int .u8 0, .int .u8 0, .int .u8 0, .int .u64 0] 60))) := Lib.hid ((Below.refl _ _).alloc (Nat.le_refl _) _)
  have HS := Lib.hid (hS.keep HB.out)
  have HR : Hid (Blk (w.alloc (.cells #[.int .u64 0, .int .i64 0, .int .u64 0, .int .u8 0, .int .u8 0, .int .u8 0, .int .u8 0, .int .u8 0, .int .u8 0, .int .u8 0, .int .u8 0, .int .u8 0, .int .u8 0, .int .u8 0, .int .u8 0, .int .u8 0, .int .u8 0, .int .u8 0, .int .u8 0, .int .u8 0, .int .u8 0, .int .u8 0, .int .u8 0, .int .u8 0, .int .u8 0, .int .u8 0, .int .u8 0, .int .u8 0, .int .u8 0, .int .u8 0, .int .u8 0, .int .u8 0, .int .u8 0, .int .u8 0, .int .u8 0, .int .u64 0] 60)) w.heap.size 60 cnd0.cells) := Lib.hid (Blk.mk_ rfl)
  have HF := Lib.hid hf
  have hz1 : (Try.prog.info? 60).map (·.size) = some cnd0.cells.toArray.size := info60
  have hz2 : (Try.prog.info? 60).map (·.size) = some cnd0.cells.length := info60
  have hb0 : ∀ W, (Instr.build 60 #[]).run Try.prog W = .ok (.agg cnd0.cells.toArray) W := fun W => run_build W 60 _ _ (by show Program.built Try.prog 60 _ = some _; kernel_rfl)
  clear hS hf
  go_enter Try.func50, Try.ntmps50
  go_upto_region 1 with fail
  generalize (w.alloc (.cells #[.int .u64 0, .int .i64 0, .int .u64 0, .int .u8 0, .int .u8 0, .int .u8 0, .int .u8 0, .int .u8 0, .int .u8 0, .int .u8 0, .int .u8 0, .int .u8 0, .int .u8 0, .int .u8 0, .int .u8 0, .int .u8 0, .int .u8 0, .int .u8 0, .int .u8 0, .int .u8 0, .int .u8 0, .int .u8 0, .int .u8 0, .int .u8 0, .int .u8 0, .int .u8 0, .int .u8 0, .int .u8 0, .int .u8 0, .int .u8 0, .int .u8 0, .int .u8 0, .int .u8 0, .int .u8 0, .int .u8 0, .int .u64 0] 60)) = V at HB HS HR ⊢
  generalize hgr : w.heap.size = gr at HR ⊢
  have HGR := Lib.hid hgr
  clear hgr
  have k0 := HS.out.blk
  have KK := Lib.hid k0
  clear k0
  have k0 := KK.out.cell 0
  have k1 := KK.out.cell 1
  have k2 := KK.out.cell 2
  have k3 := KK.out.cell 3
  have k4 := KK.out.cell 4
  have k5 := KK.out.cell 5
  have k6 := KK.out.cell 6
  simp only [List.getElem?_cons_zero, List.getElem?_cons_succ] at k0 k1 k2 k3 k4 k5 k6
  go_wp2_with fail
  refine (find_any s.ch s.rd s.m0 s.m1 s.t0 s.t1 a n cap s.cs id V HS.out.row HS.out.len hn).mono ?_
  rintro e W ⟨rfl, hB⟩
  rw [HF.out]
  have BW := Lib.hid (HB.out.trans (hB.mono HB.out.size))
  have RW := Lib.hid (HR.out.below hB HR.out.lt)
  clear hB KK k0 k1 k2 k3 k4 k5 k6 HR HS
  have hR9 : W.heap[gr]? = some (.cells cnd0.cells.toArray 60 (0, 0)) := RW.out
  have hco := cnd0.all_one
  go_wp2_with (first | (refine wpList_build_v rfl 60 _ rfl #[] (by simp) _ (hb0 _) ?_) | (refine wpList_store_row rfl 60 (.tmp 4) (.tmp 15) rfl gr cnd0.cells.toArray rfl rfl 60 _ hR9 hz1 rfl hco ?_))
  exact bodyPost_ret (results_ct Try.results50 _ _ gr 60 cnd0.cells _ rfl (RW.out.setRow _) Try.underlying60 rfl hz2) rfl ⟨rfl, below_setRow BW.out (by rw [HGR.out]; omega) _⟩

set_option maxRecDepth 100000 in
set_option maxHeartbeats 4000000 in
theorem takeOut_at (B g n cap j : Nat) (s : St) (a : Option Addr) (id : Int) (w : World) (hS : StAt w B g s a n cap) (hn : n ≤ 1000) (hj : j < n) (hf : findV id s.cs = (j : Int)) (hBw : B ≤ w.heap.size) (hBg : B ≤ g) :
    Calls Try.prog 50 #[.pointer (some ⟨g, 0, none⟩), .int .u64 id] w fun e w' => e = .returned (.tuple #[.agg (s.cs.getD j cnd0).cells.toArray, .int .i64 0]) ∧ ∃ m, StAt w' B g (s.out j) a m cap ∧ Below B w w' := by
  have hjl : j < s.cs.length := by rw [hS.len]; exact hj
  obtain ⟨c, hc⟩ : ∃ c, s.cs.getD j cnd0 = c := ⟨_, rfl⟩
  have hok : c.Ok := hc ▸ hS.ok _ (getD_mem hjl)
  obtain ⟨gr, rfl, hgrB⟩ : ∃ gr, a = some ⟨gr, 0, none⟩ ∧ B ≤ gr := by
    rcases hS.own.2 with ⟨h1, h0⟩ | ⟨gr, c1, cur, h1, hb, _⟩
    · omega
    · injection h1 with h1; exact ⟨gr, h1, hb⟩
  have HB : Hid (Below w.heap.size w (w.alloc (.cells #[.int .u64 0, .int .i64 0, .int .u64 0, .int .u8 0, .int .u8 0, .int .u8 0, .int .u8 0, .int .u8 0, .int .u8 0, .int .u8 0, .int .u8 0, .int .u8 0, .int .u8 0, .int .u8 0, .int .u8 0, .int .u8 0, .int .u8 0, .int .u8 0, .int .u8 0, .int .u8 0, .int .u8 0, .int .u8 0, .int .u8 0, .int .u8 0, .int .u8 0, .int .u8 0, .int .u8 0, .int .u8 0, .int .u8 0, .int .u8 0, .int .u8 0, .int .u8 0, .int .u8 0, .int .u8 0, .int .u8 0, .int .u64 0] 60))) := Lib.hid ((Below.refl _ _).alloc (Nat.le_refl _) _)
  have HS := Lib.hid (hS.keep HB.out)
  have HR : Hid (Blk (w.alloc (.cells #[.int .u64 0, .int .i64 0, .int .u64 0, .int .u8 0, .int .u8 0, .int .u8 0, .int .u8 0, .int .u8 0, .int .u8 0, .int .u8 0, .int .u8 0, .int .u8 0, .int .u8 0, .int .u8 0, .int .u8 0, .int .u8 0, .int .u8 0, .int .u8 0, .int .u8 0, .int .u8 0, .int .u8 0, .int .u8 0, .int .u8 0, .int .u8 0, .int .u8 0, .int .u8 0, .int .u8 0, .int .u8 0, .int .u8 0, .int .u8 0, .int .u8 0, .int .u8 0, .int .u8 0, .int .u8 0, .int .u8 0, .int .u64 0] 60)) w.heap.size 60 [.int .u64 0, .int .i64 0, .int .u64 0, .int .u8 0, .int .u8 0, .int .u8 0, .int .u8 0, .int .u8 0, .int .u8 0, .int .u8 0, .int .u8 0, .int .u8 0, .int .u8 0, .int .u8 0, .int .u8 0, .int .u8 0, .int .u8 0, .int .u8 0, .int .u8 0, .int .u8 0, .int .u8 0, .int .u8 0, .int .u8 0, .int .u8 0, .int .u8 0, .int .u8 0, .int .u8 0, .int .u8 0, .int .u8 0, .int .u8 0, .int .u8 0, .int .u8 0, .int .u8 0, .int .u8 0, .int .u8 0, .int .u64 0]) := Lib.hid (Blk.mk_ rfl)
  have HF := Lib.hid hf
  have HOK := Lib.hid hok
  have HJL := Lib.hid hjl
  have HC := Lib.hid hc
  have HBW := Lib.hid hBw
  have HBG := Lib.hid hBg
  have HGB := Lib.hid hgrB
  rw [hc]
  have hgn : g < w.heap.size := hS.blk.lt
  have HGN := Lib.hid hgn
  have hrn : gr < w.heap.size := (hS.own.lt gr rfl).2
  have HRN := Lib.hid hrn
  clear hS hf hok hjl hc hBw hBg hgrB hgn hrn
  go_enter Try.func50, Try.ntmps50
  go_upto_region 1 with fail
  generalize (w.alloc (.cells #[.int .u64 0, .int .i64 0, .int .u64 0, .int .u8 0, .int .u8 0, .int .u8 0, .int .u8 0, .int .u8 0, .int .u8 0, .int .u8 0, .int .u8 0, .int .u8 0, .int .u8 0, .int .u8 0, .int .u8 0, .int .u8 0, .int .u8 0, .int .u8 0, .int .u8 0, .int .u8 0, .int .u8 0, .int .u8 0, .int .u8 0, .int .u8 0, .int .u8 0, .int .u8 0, .int .u8 0, .int .u8 0, .int .u8 0, .int .u8 0, .int .u8 0, .int .u8 0, .int .u8 0, .int .u8 0, .int .u8 0, .int .u64 0] 60)) = V at HB HS HR ⊢
  obtain ⟨gR, hgr⟩ : ∃ q, w.heap.size = q := ⟨_, rfl⟩
  rw [hgr] at HR HGN HRN ⊢
  have HGR := Lib.hid hgr
  clear hgr
  have KK := Lib.hid HS.out.blk
  have k0 := KK.out.cell 0
  have k1 := KK.out.cell 1
  have k2 := KK.out.cell 2
  have k3 := KK.out.cell 3
  have k4 := KK.out.cell 4
  have k5 := KK.out.cell 5
  have k6 := KK.out.cell 6
  simp only [List.getElem?_cons_zero, List.getElem?_cons_succ] at k0 k1 k2 k3 k4 k5 k6
  go_wp2_with fail
  refine (find_any s.ch s.rd s.m0 s.m1 s.t0 s.t1 (some ⟨gr, 0, none⟩) n cap s.cs id V HS.out.row HS.out.len hn).mono ?_
  rintro e W ⟨rfl, hB⟩
  rw [HF.out]
  have BW := Lib.hid (HB.out.trans (hB.mono HB.out.size))
  have RW := Lib.hid (HR.out.below hB HR.out.lt)
  have SW := Lib.hid (HS.out.keep hB)
  clear hB KK k0 k1 k2 k3 k4 k5 k6 HR HS HB
  -- the payment itself
  obtain ⟨b9, o9, c9, h91, h92, h93, h94, h95⟩ := SW.out.row.get HJL.out
  obtain rfl : c9 = c := by rw [← h93, HC.out]
  injection h91 with h91
  injection h91 with h96 h97
  subst h96
  subst h97
  have RG : W.rangeAt gr (j * 36) c9.cells := by rw [Nat.zero_add] at h94; exact h94
  have hok := h95
  clear h92 h93 h94 h95
  have KK := Lib.hid SW.out.blk
  have k0 := KK.out.cell 0
  have k1 := KK.out.cell 1
  have k2 := KK.out.cell 2
  have k3 := KK.out.cell 3
  have k4 := KK.out.cell 4
  have k5 := KK.out.cell 5
  have k6 := KK.out.cell 6
  simp only [List.getElem?_cons_zero, List.getElem?_cons_succ] at k0 k1 k2 k3 k4 k5 k6
  have g1 : (0 : Int) ≤ (j : Int) := by omega
  have g2 : (j : Int) < (n : Int) := by omega
  have hz1 : (Try.prog.info? 60).map (·.size) = some c9.cells.toArray.size := by rw [hok.size]; exact info60
  have hz2 : (Try.prog.info? 60).map (·.size) = some c9.cells.length := by rw [hok.len]; exact info60
  have hz3 : (#[.int .u64 0, .int .i64 0, .int .u64 0, .int .u8 0, .int .u8 0, .int .u8 0, .int .u8 0, .int .u8 0, .int .u8 0, .int .u8 0, .int .u8 0, .int .u8 0, .int .u8 0, .int .u8 0, .int .u8 0, .int .u8 0, .int .u8 0, .int .u8 0, .int .u8 0, .int .u8 0, .int .u8 0, .int .u8 0, .int .u8 0, .int .u8 0, .int .u8 0, .int .u8 0, .int .u8 0, .int .u8 0, .int .u8 0, .int .u8 0, .int .u8 0, .int .u8 0, .int .u8 0, .int .u8 0, .int .u8 0, .int .u64 0] : Array Value).size = c9.cells.toArray.size := by rw [hok.size]; rfl
  have hco := c9.all_one
  have HLA := heap_alloc_last W (.cells #[.int .u64 0, .int .i64 0, .int .u64 0, .int .u8 0, .int .u8 0, .int .u8 0, .int .u8 0, .int .u8 0, .int .u8 0, .int .u8 0, .int .u8 0, .int .u8 0, .int .u8 0, .int .u8 0, .int .u8 0, .int .u8 0, .int .u8 0, .int .u8 0, .int .u8 0, .int .u8 0, .int .u8 0, .int .u8 0, .int .u8 0, .int .u8 0, .int .u8 0, .int .u8 0, .int .u8 0, .int .u8 0, .int .u8 0, .int .u8 0, .int .u8 0, .int .u8 0, .int .u8 0, .int .u8 0, .int .u8 0, .int .u64 0] 60)
  go_upto_region 5 with (first | (refine wpList_load_mid rfl 60 (.tmp 21) rfl gr (j * 36) rfl c9.cells _ RG Try.underlying60 rfl hz2 ?_) | (refine wpList_store_row rfl 60 (.tmp 7) (.tmp 22) rfl W.heap.size c9.cells.toArray rfl rfl 60 _ HLA hz1 hz3 hco ?_; rw [World.setRow_alloc_new]) | fail)
  have hD := Blk.new W 60 c9.cells
  clear hz1 hz2 hz3 hco HLA
  have hB : Below W.heap.size W (W.alloc (.cells c9.cells.toArray 60)) := (Below.refl _ _).alloc (Nat.le_refl _) _
  have BB : Hid (Below B w (W.alloc (.cells c9.cells.toArray 60))) := Lib.hid ((BW.out.trans (hB.mono BW.out.size)).mono HBW.out)
  have S : Hid (Blk (W.alloc (.cells c9.cells.toArray 60)) g 31 [.int .u32 s.ch, .int .u64 s.rd, .int .u64 s.m0, .int .u64 s.m1, .int .u64 s.t0, .int .u64 s.t1, .slice (some ⟨gr, 0, none⟩) n cap]) := Lib.hid (SW.out.blk.below hB SW.out.blk.lt)
  have O : Hid ((W.alloc (.cells c9.cells.toArray 60)).ownsRow B 60 36 (.slice (some ⟨gr, 0, none⟩) n cap) n (cflat s.cs)) := Lib.hid (own_keep SW.out.own hB)
  have R := Lib.hid (RW.out.below hB RW.out.lt)
  have C := Lib.hid hD
  have HGC : Hid (gR < W.heap.size) := Lib.hid RW.out.lt
  have HOKS := Lib.hid SW.out.ok
  have HLEN := Lib.hid SW.out.len
  clear RG hD hB hok KK k0 k1 k2 k3 k4 k5 k6 SW RW BW
  generalize W.alloc (.cells c9.cells.toArray 60) = U at BB S O R C ⊢
  generalize W.heap.size = gc at C HGC ⊢
  have e1 : IntKind.i64.wrap ((j : Int) + 1) = ((j + 1 : Nat) : Int) := by rw [show ((j : Int) + 1) = ((j + 1 : Nat) : Int) by omega]; exact IntWalk.i64_in _ (by omega)
  have k0 := S.out.cell 0
  have k1 := S.out.cell 1
  have k2 := S.out.cell 2
  have k3 := S.out.cell 3
  have k4 := S.out.cell 4
  have k5 := S.out.cell 5
  have k6 := S.out.cell 6
  simp only [List.getElem?_cons_zero, List.getElem?_cons_succ] at k0 k1 k2 k3 k4 k5 k6
  go_wp2_with fail
  refine (delete_any gr j (j + 1) n cap B s.cs U O.out HOKS.out HLEN.out hn hj rfl).mono ?_
  rintro e X ⟨m, hm, rfl, hown, hO⟩
  have hKB : ∀ q, some gr = some q → B ≤ q := fun q hq => by injection hq with hq; have := HGB.out; omega
  have hSO : some g ≠ some gr := own_ne O.out S.out (by decide)
  have hRO : some gR ≠ some gr := fun e => by injection e with e; have := HRN.out; omega
  have hCO : some gc ≠ some gr := fun e => by injection e with e; have := HRN.out; have := HGC.out; omega
  have BX := Lib.hid (BB.out.grown hO (Nat.le_trans HBW.out BB.out.size) hKB)
  have SX := Lib.hid (S.out.grown hO hSO)
  have RX := Lib.hid (R.out.grown hO hRO)
  have CX := Lib.hid (C.out.grown hO hCO)
  have OX := Lib.hid hown
  have HM := Lib.hid hm
  clear hown hO hm hKB hSO hRO hCO BB S R C O e1 k0 k1 k2 k3 k4 k5 k6
  have k0 := SX.out.cell 0
  have k1 := SX.out.cell 1
  have k2 := SX.out.cell 2
  have k3 := SX.out.cell 3
  have k4 := SX.out.cell 4
  have k5 := SX.out.cell 5
  have k6 := SX.out.cell 6
  simp only [List.getElem?_cons_zero, List.getElem?_cons_succ] at k0 k1 k2 k3 k4 k5 k6
  have f0 := SX.out.frozen 0
  have f1 := SX.out.frozen 1
  have f2 := SX.out.frozen 2
  have f3 := SX.out.frozen 3
  have f4 := SX.out.frozen 4
  have f5 := SX.out.frozen 5
  have f6 := SX.out.frozen 6
  go_upto_region 6 with fail
  clear k0 k1 k2 k3 k4 k5 k6 f0 f1 f2 f3 f4 f5 f6
  have hO := only_setCell (p := ⟨g, 6, none⟩) (only_refl X (some g)) (.inl rfl) (.slice (some ⟨gr, 0, none⟩) m cap)
  have hRO : some gR ≠ some g := fun e => by injection e with e; have := HGN.out; omega
  have hCO : some gc ≠ some g := fun e => by injection e with e; have := HGN.out; have := HGC.out; omega
  have SY := Lib.hid (SX.out.set_ 6 (.slice (some ⟨gr, 0, none⟩) m cap))
  have BY := Lib.hid (BX.out.grown hO (Nat.le_trans HBW.out BX.out.size) (fun q hq => by injection hq with hq; have := HBG.out; omega))
  have RY := Lib.hid (RX.out.grown hO hRO)
  have CY := Lib.hid (CX.out.grown hO hCO)
  have OY := Lib.hid (OX.out.kept hO (.inr (fun e => own_ne OX.out SX.out (by decide) e.symm)))
  clear hO hRO hCO BX SX RX CX OX
  generalize X.setCell ⟨g, 6, none⟩ (.slice (some ⟨gr, 0, none⟩) m cap) = Y at SY BY RY CY OY ⊢
  have hz1 : (Try.prog.info? 60).map (·.size) = some c9.cells.toArray.size := by rw [HOK.out.size]; exact info60
  have hz2 : (Try.prog.info? 60).map (·.size) = some c9.cells.length := by rw [HOK.out.len]; exact info60
  have hz3 : (#[.int .u64 0, .int .i64 0, .int .u64 0, .int .u8 0, .int .u8 0, .int .u8 0, .int .u8 0, .int .u8 0, .int .u8 0, .int .u8 0, .int .u8 0, .int .u8 0, .int .u8 0, .int .u8 0, .int .u8 0, .int .u8 0, .int .u8 0, .int .u8 0, .int .u8 0, .int .u8 0, .int .u8 0, .int .u8 0, .int .u8 0, .int .u8 0, .int .u8 0, .int .u8 0, .int .u8 0, .int .u8 0, .int .u8 0, .int .u8 0, .int .u8 0, .int .u8 0, .int .u8 0, .int .u8 0, .int .u8 0, .int .u64 0] : Array Value).size = c9.cells.toArray.size := by rw [HOK.out.size]; rfl
  have hco := c9.all_one
  have hR9 : Y.heap[gR]? = some (.cells #[.int .u64 0, .int .i64 0, .int .u64 0, .int .u8 0, .int .u8 0, .int .u8 0, .int .u8 0, .int .u8 0, .int .u8 0, .int .u8 0, .int .u8 0, .int .u8 0, .int .u8 0, .int .u8 0, .int .u8 0, .int .u8 0, .int .u8 0, .int .u8 0, .int .u8 0, .int .u8 0, .int .u8 0, .int .u8 0, .int .u8 0, .int .u8 0, .int .u8 0, .int .u8 0, .int .u8 0, .int .u8 0, .int .u8 0, .int .u8 0, .int .u8 0, .int .u8 0, .int .u8 0, .int .u8 0, .int .u8 0, .int .u64 0] 60 (0, 0)) := RY.out
  have hC9 : Y.heap[gc]? = some (.cells c9.cells.toArray 60 (0, 0)) := CY.out
  go_wp2_with (first | (refine wpList_load_row rfl 60 (.tmp 7) rfl gc rfl 60 c9.cells.toArray (0, 0) _ hC9 Try.underlying60 rfl hz1 ?_) | (refine wpList_store_row rfl 60 (.tmp 4) (.tmp 34) rfl gR c9.cells.toArray rfl rfl 60 _ hR9 hz1 hz3 hco ?_))
  have hGS : some g ≠ some gR := fun e => by injection e with e; have := HGN.out; omega
  have hG9 := only_setRow (only_refl Y (some gR)) c9.cells.toArray
  exact bodyPost_ret (results_ct Try.results50 _ _ gR 60 c9.cells _ rfl (RY.out.setRow _) Try.underlying60 rfl hz2) rfl ⟨rfl, ⟨m, ⟨SY.out.grown hG9 hGS, OY.out.kept hG9 (.inr (fun e => by have e : some gr = some gR := e; injection e with e; have := HRN.out; omega)), eraseIdx_ok HOKS.out j, by have := HLEN.out; have := HM.out; show (s.cs.eraseIdx j).length = m; rw [List.length_eraseIdx, if_pos HJL.out]; omega⟩⟩, below_setRow BY.out (by have := HBW.out; have := HGR.out; omega) _⟩
end Go.Proofs.Ytkiifjkcpangfaa
