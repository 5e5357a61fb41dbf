/-
  tollhouselaw12.PactWhole returns true for every input: behind any wishes, one behind the other, a state may be, also if more is put in; what both have at last comes to what was put in, less what was paid out; what is handed in isn't written.
-/
import Derived.Test.YtkiifjkcpangfaaPacSp
namespace Go.Proofs.Ytkiifjkcpangfaa.pactWhole
open Go.ChangeShapes Go.WideShapes Go.ChangeAt Go.RowKit Go.Deep
set_option linter.unusedVariables false

section
variable {H : Type} {enc : TypeId × Value → H} {P : Program} {w : World} {base : Nat} {spare : Nat → Bool} {held : Bool}
theorem open_flatb {t e : TypeId} {a : Option Addr} {len cap : Nat} {d : DataW H} {p : List MemPlace} (n c : Nat) (ls : List (Nat × TypeId)) (ht : P.underlying t = some (.slice e)) (hc : P.cellsOf e = c) (hc0 : 0 < c) (hls : flatR P n e = ls) (hne : ∃ u, (0, u) ∈ ls ∧ P.underlying u = some .bool)
    (h : DataW.Trod enc P w base spare held t (.slice a len cap) d p) : FlatRow enc P w base spare held a c len ls := by
  subst hc hls
  obtain ⟨fuel, hf⟩ := h
  rcases open_slice ht hf with ⟨hcs, _⟩ | ⟨x, l, cp, m, fu, D, Pl, hcs, _, hl, hm, hmm, hd, hx⟩
  · simp [Value.cells] at hcs
    obtain ⟨rfl, rfl, rfl⟩ := hcs
    exact ⟨.inl rfl, by unfold maxLen; omega, fun _ => rfl⟩
  · simp [Value.cells] at hcs
    obtain ⟨rfl, rfl, rfl⟩ := hcs
    have hlm : len ≤ m := by rw [hmm]; split <;> omega
    refine ⟨?_, by omega, fun h => by cases h⟩
    by_cases h0 : len = 0
    · exact .inl h0
    · right
      obtain ⟨b, off, spot⟩ := x
      have first : ∃ v, w.cell? ((⟨b, off, spot⟩ : Addr).add (0 * P.cellsOf e) |>.add 0) = some v := by
        obtain ⟨cs', h1, h2⟩ := hx 0 (by omega)
        obtain ⟨u, hu, hk⟩ := hne
        obtain ⟨z, hz⟩ := (flat_part n e _ _ _ h2 0 u hu).bool hk
        have h3 := World.cells?_some h1
        exact ⟨_, by rw [h3.2.2 0 hc0]; exact hz⟩
      have hspot : spot = none := by
        obtain ⟨v, hv⟩ := first
        simpa [Addr.add] using World.cell?_spot hv
      subst hspot
      refine ⟨b, off, rfl, ?_, fun i hi => ?_⟩
      · obtain ⟨v, hv⟩ := first
        have := World.block_lt_of_cell? _ _ hv
        rw [Go.WideShapes.add_plain, Go.WideShapes.add_plain] at this
        exact this
      · obtain ⟨cs', h1, h2⟩ := hx i (by omega)
        have h3 := World.cells?_some h1
        refine ⟨cs', fun j v hv => ?_, fun o u hm => flat_part n e _ _ _ h2 o u hm⟩
        have hj : j < P.cellsOf e := by
          rcases Nat.lt_or_ge j (P.cellsOf e) with h | h
          · exact h
          · rw [List.getElem?_eq_none (by omega)] at hv; cases hv
        have h4 := h3.2.2 j hj
        rw [Go.WideShapes.add_plain, Go.WideShapes.add_plain] at h4
        rw [h4]; exact hv

end
section
variable {H : Type} {enc : TypeId × Value → H} {W : World} {base : Nat} {spare : Nat → Bool} {held : Bool}
theorem bools_of {a : Option Addr} {n : Nat} (h : FlatRow enc Try.prog W base spare held a 1 n [(0, 4)]) : ∃ l : List Bool, l.length = n ∧ BRow W a l := by
  have each : ∀ i, ∃ q : Bool, (i < n → ∃ b off, a = some ⟨b, off, none⟩ ∧ b < W.heap.size ∧ W.cell? ⟨b, off + i, none⟩ = some (.bool q)) := by
    intro i
    by_cases hi : i < n
    · obtain ⟨b, off, ha, hb, cs, hc, hp⟩ := h.row hi
      obtain ⟨q, hq⟩ := (hp 0 4 (by simp)).bool Try.underlying4
      exact ⟨q, fun _ => ⟨b, off, ha, hb, by have := hc 0 _ hq; rwa [Nat.mul_one, Nat.add_zero] at this⟩⟩
    · exact ⟨false, fun h => absurd h hi⟩
  obtain ⟨f, hf⟩ := Classical.axiomOfChoice each
  refine ⟨(List.range n).map f, by simp, ?_⟩
  rcases h.1 with h0 | ⟨b, off, ha, hb, _⟩
  · subst h0; exact .inl rfl
  · refine .inr ⟨b, off, ha, hb, fun i hi => ?_⟩
    have hi' : i < n := by simpa using hi
    obtain ⟨b', off', ha', _, h1⟩ := hf i hi'
    rw [ha] at ha'
    injection ha' with ha'
    injection ha' with e1 e2
    subst e1 e2
    simp only [List.getD, List.getElem?_map, List.getElem?_range hi', Option.map_some, Option.getD_some]
    exact h1
set_option maxRecDepth 100000 in
theorem openBools {v : Value} {d : DataW H} {p : List MemPlace} {b0 : Nat} (hv : Value.okWide Try.prog W .any b0 69 v) (h : DataW.Trod enc Try.prog W base spare held 69 v d p) :
    ∃ (A : Option Addr) (n cap : Nat) (bs : List Bool), v = .slice A n cap ∧ bs.length = n ∧ BRow W A bs ∧ n ≤ maxLen := by
  obtain ⟨A, n, cap, rfl⟩ := okWide_slice Try.underlying69 hv
  have f0 := open_flatb 1 1 [(0, 4)] Try.underlying69 (by kernel_rfl) (by decide) (by kernel_rfl) ⟨4, by simp, Try.underlying4⟩ h
  obtain ⟨l, hl, hR⟩ := bools_of f0
  exact ⟨A, n, cap, l, rfl, hl, hR, f0.2.1⟩
end

theorem two_rows {w : World} {b1 b2 e1 e2 s1 s2 n1 n2 : Nat} {v1 v2 : Value} {x1 x2 : List Value} (h1 : w.ownsRow b1 e1 s1 v1 n1 x1) (h2 : w.ownsRow b2 e2 s2 v2 n2 x2) (hne : e1 ≠ e2) (h : v1.ownBlock = v2.ownBlock) (hv : v1.ownBlock ≠ none) : False := by
  rcases h1.2 with ⟨rfl, _⟩ | ⟨g, c, cur, rfl, _, hg, _⟩
  · exact hv rfl
  · exact own_ne h2 (show Blk w g e1 cur.toList by unfold Blk; simpa using hg) (fun e => hne e.symm) h
def S0 : St := ⟨1, 0, 0, 0, 0, 0, []⟩
theorem w_0 : Word 0 := ⟨by decide, by decide⟩
theorem S0_ok : S0.Ok := ⟨w_0, w_0, w_0, w_0, w_0⟩
theorem S0_sound {p0 p1 : Int} (hp0 : Word p0) (hp1 : Word p1) : soundE S0 p0 p1 = 0 := by
  unfold Word at hp0 hp1
  rw [soundE_iff, freeF_0, freeF_1, free2_iff, free2_iff]
  refine ⟨by show (0 : Int) ≤ 200; decide, by show 0 ≤ 8; decide, rfl, ⟨rfl, ?_, ?_, ?_, ?_⟩, ⟨rfl, ?_, ?_, ?_, ?_⟩⟩
  all_goals simp only [S0, heldGo]
  all_goals simp
  all_goals omega
/-- The verdicts on so many payments. -/
def vs (bs : List Bool) (n : Nat) : List Bool := (List.range n).map fun i => bs.getD i false
theorem vs_len (bs : List Bool) (n : Nat) : (vs bs n).length = n := by simp [vs]
theorem vs_snoc (bs : List Bool) (n : Nat) : vs bs (n + 1) = vs bs n ++ [bs.getD n false] := by simp [vs, List.range_succ]
theorem getD_none (bs : List Bool) (j : Nat) (h : bs.length ≤ j) : bs.getD j false = false := by simp [List.getD, h]
theorem addE_cases' {a b : Int} (h : addE a b ≠ 0) : addE a b = 11 := by rcases addE_cases a b with h1 | h1; exact absurd h1 h; exact h1

set_option maxRecDepth 100000 in
set_option maxHeartbeats 4000000 in
theorem walk (p0 p1 m0 m1 : Int) (ao ab : Option Addr) (no capo nb capb : Nat) (os : List Wish) (bs : List Bool) (w : World) (hR : ORow w ao os) (hlo : os.length = no) (hmo : no ≤ maxLen) (hV : BRow w ab bs) (hlb : bs.length = nb) (hp0 : Word p0) (hp1 : Word p1) (hm0 : Word m0) (hm1 : Word m1) :
    Calls Try.prog 5 #[.agg #[.int .u64 p0, .int .u64 p1], .agg #[.int .u64 m0, .int .u64 m1], .slice ao no capo, .slice ab nb capb] w fun e w' => e = .returned (.bool true) ∧ Below w.heap.size w w' := by
  have HR := Lib.hid hR
  have HLO := Lib.hid hlo
  have HV := Lib.hid hV
  have HLB := Lib.hid hlb
  have BA : Hid (Below w.heap.size w ((w.alloc (.cells #[.int .u64 p0, .int .u64 p1] 24)).alloc (.cells #[.int .u64 m0, .int .u64 m1] 24))) := Lib.hid (((Below.refl _ _).alloc (Nat.le_refl _) _).alloc (by simp) _)
  have PA : Hid (Blk ((w.alloc (.cells #[.int .u64 p0, .int .u64 p1] 24)).alloc (.cells #[.int .u64 m0, .int .u64 m1] 24)) w.heap.size 24 [.int .u64 p0, .int .u64 p1]) := Lib.hid ((Blk.mk_ rfl).alloc _)
  have MA : Hid (Blk ((w.alloc (.cells #[.int .u64 p0, .int .u64 p1] 24)).alloc (.cells #[.int .u64 m0, .int .u64 m1] 24)) (w.heap.size + 1) 24 [.int .u64 m0, .int .u64 m1]) := Lib.hid (Blk.mk_ (by simp))
  clear hR hlo hV hlb
  go_enter Try.func5, Try.ntmps5
  go_upto_region 1 with fail
  generalize ((w.alloc (.cells #[.int .u64 p0, .int .u64 p1] 24)).alloc (.cells #[.int .u64 m0, .int .u64 m1] 24)) = A at BA PA MA ⊢
  obtain ⟨gm, hgm⟩ : ∃ q, w.heap.size + 1 = q := ⟨_, rfl⟩
  obtain ⟨gp, hgp⟩ : ∃ q, w.heap.size = q := ⟨_, rfl⟩
  have HGP : Hid (w.heap.size ≤ gp ∧ gp < gm) := Lib.hid ⟨by omega, by omega⟩
  rw [hgm] at MA ⊢
  rw [hgp] at PA ⊢
  clear hgm hgp
  go_wp2_with fail
  refine (new_any 1 A).mono ?_
  rintro e B ⟨rfl, hB⟩
  have BB : Hid (Below w.heap.size w B) := Lib.hid (BA.out.trans (hB.mono BA.out.size))
  have PB := Lib.hid (PA.out.below hB PA.out.lt)
  have MB := Lib.hid (MA.out.below hB MA.out.lt)
  clear hB BA PA MA
  have HLA := heap_alloc_last B (.cells #[.int .u32 0, .int .u64 0, .int .u64 0, .int .u64 0, .int .u64 0, .int .u64 0, .slice none 0 0] 31)
  have hz1 : (Try.prog.info? 31).map (·.size) = some (#[.int .u32 1, .int .u64 0, .int .u64 0, .int .u64 0, .int .u64 0, .int .u64 0, .slice none 0 0] : Array Value).size := info31
  go_upto_region 2 with (first | (refine wpList_store_row rfl 31 (.tmp 9) (.tmp 29) rfl B.heap.size #[.int .u32 1, .int .u64 0, .int .u64 0, .int .u64 0, .int .u64 0, .int .u64 0, .slice none 0 0] rfl rfl 31 _ HLA hz1 rfl rfl ?_; rw [World.setRow_alloc_new]))
  clear HLA hz1
  have hB : Below B.heap.size B (B.alloc (.cells #[.int .u32 1, .int .u64 0, .int .u64 0, .int .u64 0, .int .u64 0, .int .u64 0, .slice none 0 0] 31)) := (Below.refl _ _).alloc (Nat.le_refl _) _
  have BC : Hid (Below w.heap.size w (B.alloc (.cells #[.int .u32 1, .int .u64 0, .int .u64 0, .int .u64 0, .int .u64 0, .int .u64 0, .slice none 0 0] 31))) := Lib.hid (BB.out.trans (hB.mono BB.out.size))
  have PC := Lib.hid (PB.out.below hB PB.out.lt)
  have MC := Lib.hid (MB.out.below hB MB.out.lt)
  have XC : Hid (StAt (B.alloc (.cells #[.int .u32 1, .int .u64 0, .int .u64 0, .int .u64 0, .int .u64 0, .int .u64 0, .slice none 0 0] 31)) w.heap.size B.heap.size S0 none 0 0) := Lib.hid ⟨Blk.new _ _ [.int .u32 1, .int .u64 0, .int .u64 0, .int .u64 0, .int .u64 0, .int .u64 0, .slice none 0 0], World.ownsRow_nil _ _ _ _, (by intro x hx; cases hx), rfl⟩
  have HGX : Hid (gp < B.heap.size ∧ gm < B.heap.size ∧ w.heap.size ≤ B.heap.size) := Lib.hid ⟨PB.out.lt, MB.out.lt, BB.out.size⟩
  clear hB BB PB MB
  generalize B.alloc (.cells #[.int .u32 1, .int .u64 0, .int .u64 0, .int .u64 0, .int .u64 0, .int .u64 0, .slice none 0 0] 31) = C at BC PC MC XC ⊢
  generalize B.heap.size = gx at HGX XC ⊢
  go_wp2
  go_loopw [10, 11, 12, 13, 32] (fun _ _ _ _ i wr => ∃ (k : Nat) (s : St) (a : Option Addr) (n cap : Nat), k ≤ no ∧ i = .int .i64 k ∧ Hid (Below w.heap.size w wr) ∧ Hid (Blk wr gp 24 [.int .u64 p0, .int .u64 p1]) ∧ Hid (Blk wr gm 24 [.int .u64 m0, .int .u64 m1]) ∧ Hid (StAt wr w.heap.size gx s a n cap) ∧ Hid (s.Ok ∧ s.cs.length ≤ 8 ∧ soundE s p0 p1 = 0)) (fun _ _ _ _ i _ => no - (intOf i).toNat)
  case atStart => exact ⟨0, S0, none, 0, 0, Nat.zero_le _, rfl, BC, PC, MC, XC, Lib.hid ⟨S0_ok, by decide, S0_sound hp0 hp1⟩⟩
  case round =>
    clear BC PC MC XC
    obtain ⟨k, s, a, n, cap, hk, rfl, HB, P0, M0, X0, HS⟩ := hrel
    by_cases hlt : k < no
    case neg =>
      have BD := HB
      have PD := P0
      have MD := M0
      have XD := X0
      clear HB P0 M0 X0
      skip
      have hn8 : n ≤ 8 := by have h1 := XD.out.len; have h2 := HS.out.2.1; omega
      have XK := XD.out.blk
      have s0 := XK.cell 0
      have s1 := XK.cell 1
      have s2 := XK.cell 2
      have s3 := XK.cell 3
      have s4 := XK.cell 4
      have s5 := XK.cell 5
      have s6 := XK.cell 6
      simp only [List.getElem?_cons_zero, List.getElem?_cons_succ] at s0 s1 s2 s3 s4 s5 s6
      have q0 := PD.out.cell 0
      have q1 := PD.out.cell 1
      simp only [List.getElem?_cons_zero, List.getElem?_cons_succ] at q0 q1
      go_wp2_with fail
      clear s0 s1 s2 s3 s4 s5 s6 XK q0 q1
      refine ((show Calls Try.prog 15 #[.agg #[.int .u32 s.ch, .int .u64 s.rd, .int .u64 s.m0, .int .u64 s.m1, .int .u64 s.t0, .int .u64 s.t1, .slice a n cap], .agg #[.int .u64 p0, .int .u64 p1]] wr (fun e w2 => e = .returned (.int .i64 (soundE s p0 p1)) ∧ Below wr.heap.size wr w2) from sound_any s.ch s.rd s.m0 s.m1 s.t0 s.t1 a n cap s.cs p0 p1 wr XD.out.row XD.out.len (by omega) hp0 hp1 HS.out.1.eta)).mono ?_
      rw [HS.out.2.2]
      rintro e F ⟨rfl, hB⟩
      have BF := Lib.hid (BD.out.trans (hB.mono BD.out.size))
      have PF := Lib.hid (PD.out.below hB PD.out.lt)
      have MF := Lib.hid (MD.out.below hB MD.out.lt)
      have XF := Lib.hid (XD.out.keep hB)
      clear hB BD PD MD XD
      have XK := XF.out.blk
      have s0 := XK.cell 0
      have s1 := XK.cell 1
      have s2 := XK.cell 2
      have s3 := XK.cell 3
      have s4 := XK.cell 4
      have s5 := XK.cell 5
      have s6 := XK.cell 6
      simp only [List.getElem?_cons_zero, List.getElem?_cons_succ] at s0 s1 s2 s3 s4 s5 s6
      go_wp2
      clear s0 s1 s2 s3 s4 s5 s6 XK
      go_loopw [14, 15, 68] (fun l _ j wd => ∃ (i : Nat) (v : Value), i ≤ n ∧ j = .int .i64 i ∧ v = l ∧ Hid (wd.ownsRow w.heap.size 4 1 v i (bools (vs bs i))) ∧ Hid (Below w.heap.size w wd) ∧ Hid (Blk wd gp 24 [.int .u64 p0, .int .u64 p1]) ∧ Hid (Blk wd gm 24 [.int .u64 m0, .int .u64 m1]) ∧ Hid (StAt wd w.heap.size gx s a n cap)) (fun _ _ j _ => n - (intOf j).toNat)
      case atStart => exact ⟨0, _, Nat.zero_le _, rfl, rfl, Lib.hid (World.ownsRow_nil _ _ _ _), BF, PF, MF, XF⟩
      case round =>
        clear BF PF MF XF
        obtain ⟨i, v, hi, rfl, rfl, O2, B2, P2, M2, X2⟩ := hrel
        obtain ⟨av, cv, rfl⟩ := own_slice O2.out
        skip
        by_cases hin : i < n
        case pos =>
          have hi8 : i ≤ 8 := by omega
          obtain ⟨d, hd⟩ : ∃ d, bs.getD i false = d := ⟨_, rfl⟩
          have HD := Lib.hid hd
          have HVS : Hid (vs bs (i + 1) = vs bs i ++ [d]) := Lib.hid (by rw [vs_snoc, hd])
          have hB : Below wr.heap.size wr (wr.alloc (.cells #[.bool d] 4)) := (Below.refl _ _).alloc (Nat.le_refl _) _
          have B3 : Hid (Below w.heap.size w (wr.alloc (.cells #[.bool d] 4))) := Lib.hid (B2.out.trans (hB.mono B2.out.size))
          have P3 := Lib.hid (P2.out.below hB P2.out.lt)
          have M3 := Lib.hid (M2.out.below hB M2.out.lt)
          have X3 := Lib.hid (X2.out.keep hB)
          have O3 := own_keep O2.out hB
          have hN := Blk.new wr 4 [.bool d]
          obtain ⟨v2, W2, happ, hown, hO⟩ := app_bool (wr.alloc (.cells #[.bool d] 4)) w.heap.size i wr.heap.size _ _ d O3 hN (by omega) B3.out.size
          have HAP := Lib.hid happ
          have HOW := Lib.hid hown
          have HO2 := Lib.hid hO
          have HO3 := Lib.hid O3
          clear happ hown hO O3 hN hB
          by_cases hib : i < nb
          case pos =>
            obtain ⟨bb, ob, rfl, hbb, hcb⟩ := HV.out.get (i := i) (by rw [HLB.out]; exact hib)
            rw [hd] at hcb
            have hcb2 := (B2.out.cell (p := ⟨bb, ob + i, none⟩) hbb).trans hcb
            clear hcb hbb hd
            have bl : decide ((i : Int) < (nb : Int)) = true := decide_eq_true (by omega)
            have bl2 : (i : Int) < (nb : Int) := by omega
            go_wp2_with (first | (at_builtin; refine wpList_append_run_ rfl (.tmp 71) (.tmp 82) 69 69 rfl v2 W2 HAP.out ?_))
            go_roundw
            case rel => exact ⟨i + 1, v2, by omega, by go_num, rfl, Lib.hid (by rw [HVS.out, bools_append]; exact HOW.out), Lib.hid (below_own B3.out HO2.out HO3.out (Nat.le_refl _) B3.out.size), Lib.hid (P3.out.grown HO2.out (own_ne HO3.out P3.out (by decide))), Lib.hid (M3.out.grown HO2.out (own_ne HO3.out M3.out (by decide))), Lib.hid ⟨X3.out.blk.grown HO2.out (own_ne HO3.out X3.out.blk (by decide)), X3.out.own.kept HO2.out (by by_cases h0 : (Value.slice a n cap).ownBlock = none; exact .inl h0; exact .inr (fun e => two_rows X3.out.own HO3.out (by decide) e h0)), X3.out.ok, X3.out.len⟩⟩
            case measure => simp [intOf] <;> omega
          have hdf : d = false := by rw [← hd]; exact getD_none bs i (by rw [HLB.out]; omega)
          subst hdf
          clear hd
          have bl : decide ((i : Int) < (nb : Int)) = false := decide_eq_false (by omega)
          have bl2 : ¬ (i : Int) < (nb : Int) := by omega
          go_wp2_with (first | (at_builtin; refine wpList_append_run_ rfl (.tmp 71) (.tmp 82) 69 69 rfl v2 W2 HAP.out ?_))
          go_roundw
          case rel => exact ⟨i + 1, v2, by omega, by go_num, rfl, Lib.hid (by rw [HVS.out, bools_append]; exact HOW.out), Lib.hid (below_own B3.out HO2.out HO3.out (Nat.le_refl _) B3.out.size), Lib.hid (P3.out.grown HO2.out (own_ne HO3.out P3.out (by decide))), Lib.hid (M3.out.grown HO2.out (own_ne HO3.out M3.out (by decide))), Lib.hid ⟨X3.out.blk.grown HO2.out (own_ne HO3.out X3.out.blk (by decide)), X3.out.own.kept HO2.out (by by_cases h0 : (Value.slice a n cap).ownBlock = none; exact .inl h0; exact .inr (fun e => two_rows X3.out.own HO3.out (by decide) e h0)), X3.out.ok, X3.out.len⟩⟩
          case measure => simp [intOf] <;> omega
        have hin2 : i = n := by omega
        subst hin2
        have HBR : Hid (BRow wr av (vs bs i)) := Lib.hid (BRow.of_own O2.out)
        clear O2
        have hsumc : addE p0 p1 = 0 ∨ addE p0 p1 ≠ 0 := by omega
        have q0 := P2.out.cell 0
        have q1 := P2.out.cell 1
        simp only [List.getElem?_cons_zero, List.getElem?_cons_succ] at q0 q1
        go_wp2_with fail
        clear q0 q1
        refine (radd_any p0 p1 _ hp0 hp1).mono ?_
        rintro e w2 ⟨rfl, rfl⟩
        have XK := X2.out.blk
        have s0 := XK.cell 0
        have s1 := XK.cell 1
        have s2 := XK.cell 2
        have s3 := XK.cell 3
        have s4 := XK.cell 4
        have s5 := XK.cell 5
        have s6 := XK.cell 6
        simp only [List.getElem?_cons_zero, List.getElem?_cons_succ] at s0 s1 s2 s3 s4 s5 s6
        have q0 := P2.out.cell 0
        have q1 := P2.out.cell 1
        simp only [List.getElem?_cons_zero, List.getElem?_cons_succ] at q0 q1
        have z24 := zero24
        go_wp2_with fail
        clear s0 s1 s2 s3 s4 s5 s6 XK q0 q1 z24
        refine (split_any s a av i cap cv p0 p1 (vs bs i) wr X2.out.row X2.out.len (by omega) HS.out.1 hp0 hp1 HBR.out (vs_len _ _) HS.out.2.2).mono ?_
        rintro e F ⟨o0, o1, Es, rfl, hB, hsp⟩
        have HSP := Lib.hid hsp
        clear hsp HBR
        have BF := Lib.hid (B2.out.trans (hB.mono B2.out.size))
        have PF := Lib.hid (P2.out.below hB P2.out.lt)
        have MF := Lib.hid (M2.out.below hB M2.out.lt)
        have XF := Lib.hid (X2.out.keep hB)
        clear hB B2 P2 M2 X2
        have HLA := heap_alloc_last F (.cells #[.int .u64 0, .int .u64 0] 24)
        have hz1 : (Try.prog.info? 24).map (·.size) = some (#[.int .u64 o0, .int .u64 o1] : Array Value).size := info24
        go_upto_region 21 with (first | (refine wpList_store_row rfl 24 (.tmp 18) (.tmp 99) rfl F.heap.size #[.int .u64 o0, .int .u64 o1] rfl rfl 24 _ HLA hz1 rfl rfl ?_; rw [World.setRow_alloc_new]))
        clear HLA hz1
        have hB : Below F.heap.size F (F.alloc (.cells #[.int .u64 o0, .int .u64 o1] 24)) := (Below.refl _ _).alloc (Nat.le_refl _) _
        have VG : Hid (Blk (F.alloc (.cells #[.int .u64 o0, .int .u64 o1] 24)) F.heap.size 24 [.int .u64 o0, .int .u64 o1]) := Lib.hid (Blk.new F 24 [.int .u64 o0, .int .u64 o1])
        have BG := Lib.hid (BF.out.trans (hB.mono BF.out.size))
        have PG := Lib.hid (PF.out.below hB PF.out.lt)
        have MG := Lib.hid (MF.out.below hB MF.out.lt)
        have XG := Lib.hid (XF.out.keep hB)
        clear hB BF PF MF XF
        generalize (F.alloc (.cells #[.int .u64 o0, .int .u64 o1] 24)) = G at BG PG MG XG VG ⊢
        generalize F.heap.size = go_ at VG ⊢
        rcases hsumc with hz | hz
        case inr =>
          have b1 : (addE p0 p1 != 0) = true := by simpa using hz
          go_wp2_with fail
          refine (awake_any G).mono ?_
          rintro e Z ⟨rfl, hB⟩
          go_wp2
          go_ret
          exact ⟨rfl, BG.out.trans (hB.mono BG.out.size)⟩
        have b1 : (addE p0 p1 != 0) = false := by simpa using hz
        have hov : p0 + p1 < 18446744073709551616 := by unfold addE at hz; split at hz; assumption; cases hz
        have hav : addV p0 p1 = p0 + p1 := addV0 hov
        obtain ⟨w1, w2, w3⟩ := whole HS.out.1 XG.out.ok hp0 hp1 (vs bs i) (by rw [vs_len]; exact XG.out.len.symm) HS.out.2.2 hov
        obtain ⟨rfl, rfl, rfl⟩ := HSP.out w1 w2
        have hn0 : Word (sumV (partsF s p0 p1 0 (vs bs i))) := sumV_word _ (parts_word HS.out.1 XG.out.ok hp0 hp1 0 _)
        have hn1 : Word (sumV (partsF s p0 p1 1 (vs bs i))) := sumV_word _ (parts_word HS.out.1 XG.out.ok hp0 hp1 1 _)
        generalize sumV (partsF s p0 p1 0 (vs bs i)) = o0 at VG w3 hn0 ⊢
        generalize sumV (partsF s p0 p1 1 (vs bs i)) = o1 at VG w3 hn1 ⊢
        rw [hav]
        clear HSP w1 w2 hz hav
        have q0 := VG.out.cell 0
        have q1 := VG.out.cell 1
        simp only [List.getElem?_cons_zero, List.getElem?_cons_succ] at q0 q1
        go_wp2_with fail
        clear q0 q1 b1
        refine (radd_ok o0 o1 _ hn0 hn1 (by omega)).mono ?_
        rintro e w2 ⟨rfl, rfl⟩
        rw [w3]
        have bs1 : ((p0 + p1) != (p0 + p1)) = false := by simp
        have q0 := PG.out.cell 0
        have q1 := PG.out.cell 1
        simp only [List.getElem?_cons_zero, List.getElem?_cons_succ] at q0 q1
        have t0 := MG.out.cell 0
        have t1 := MG.out.cell 1
        simp only [List.getElem?_cons_zero, List.getElem?_cons_succ] at t0 t1
        go_wp2_with fail
        clear q0 q1 t0 t1 bs1 hn0 hn1 w3 VG
        refine (radd_any p0 m0 _ hp0 hm0).mono ?_
        rintro e w2 ⟨rfl, rfl⟩
        have q0 := PG.out.cell 0
        have q1 := PG.out.cell 1
        simp only [List.getElem?_cons_zero, List.getElem?_cons_succ] at q0 q1
        have t0 := MG.out.cell 0
        have t1 := MG.out.cell 1
        simp only [List.getElem?_cons_zero, List.getElem?_cons_succ] at t0 t1
        go_wp2_with fail
        clear q0 q1 t0 t1
        refine (radd_any p1 m1 _ hp1 hm1).mono ?_
        rintro e w2 ⟨rfl, rfl⟩
        have ha0 : Word (addV p0 m0) := addV_word hp0 hm0
        have ha1 : Word (addV p1 m1) := addV_word hp1 hm1
        go_wp2_with fail
        refine (radd_any (addV p0 m0) (addV p1 m1) _ ha0 ha1).mono ?_
        rintro e w2 ⟨rfl, rfl⟩
        by_cases c1 : addE p0 m0 = 0
        case neg =>
          have b1 : (addE p0 m0 != 0) = true := by simpa using c1
          go_wp2_with fail
          refine (awake_any G).mono ?_
          rintro e Z ⟨rfl, hB⟩
          go_wp2
          go_ret
          exact ⟨rfl, BG.out.trans (hB.mono BG.out.size)⟩
        have b1 : (addE p0 m0 != 0) = false := by simpa using c1
        by_cases c2 : addE p1 m1 = 0
        case neg =>
          have b2 : (addE p1 m1 != 0) = true := by simpa using c2
          go_wp2_with fail
          refine (awake_any G).mono ?_
          rintro e Z ⟨rfl, hB⟩
          go_wp2
          go_ret
          exact ⟨rfl, BG.out.trans (hB.mono BG.out.size)⟩
        have b2 : (addE p1 m1 != 0) = false := by simpa using c2
        by_cases c3 : addE (addV p0 m0) (addV p1 m1) = 0
        case neg =>
          have b3 : (addE (addV p0 m0) (addV p1 m1) != 0) = true := by simpa using c3
          go_wp2_with fail
          refine (awake_any G).mono ?_
          rintro e Z ⟨rfl, hB⟩
          go_wp2
          go_ret
          exact ⟨rfl, BG.out.trans (hB.mono BG.out.size)⟩
        have b3 : (addE (addV p0 m0) (addV p1 m1) != 0) = false := by simpa using c3
        have e0 : addV p0 m0 = p0 + m0 := by unfold addE at c1; unfold addV; split at c1 <;> simp_all
        have e1 : addV p1 m1 = p1 + m1 := by unfold addE at c2; unfold addV; split at c2 <;> simp_all
        have HMO := Lib.hid (more (q0 := addV p0 m0) (q1 := addV p1 m1) HS.out.2.2 (by rw [e0]; have := hm0.1; omega) (by rw [e1]; have := hm1.1; omega))
        have HA0 := Lib.hid ha0
        have HA1 := Lib.hid ha1
        clear e0 e1 c1 c2 c3
        generalize addV p0 m0 = r0 at HMO HA0 b3 ⊢
        generalize addV p1 m1 = r1 at HMO HA1 b3 ⊢
        clear ha0 ha1
        have XK := XG.out.blk
        have s0 := XK.cell 0
        have s1 := XK.cell 1
        have s2 := XK.cell 2
        have s3 := XK.cell 3
        have s4 := XK.cell 4
        have s5 := XK.cell 5
        have s6 := XK.cell 6
        simp only [List.getElem?_cons_zero, List.getElem?_cons_succ] at s0 s1 s2 s3 s4 s5 s6
        have z24 := fun W => built24 r0 r1 W
        go_wp2_with fail
        clear s0 s1 s2 s3 s4 s5 s6 XK z24 b1 b2 b3
        refine ((show Calls Try.prog 15 #[.agg #[.int .u32 s.ch, .int .u64 s.rd, .int .u64 s.m0, .int .u64 s.m1, .int .u64 s.t0, .int .u64 s.t1, .slice a i cap], .agg #[.int .u64 r0, .int .u64 r1]] G (fun e w2 => e = .returned (.int .i64 (soundE s r0 r1)) ∧ Below G.heap.size G w2) from sound_any s.ch s.rd s.m0 s.m1 s.t0 s.t1 a i cap s.cs r0 r1 G XG.out.row XG.out.len (by omega) HA0.out HA1.out HS.out.1.eta)).mono ?_
        rintro e K ⟨rfl, hB⟩
        have BK := Lib.hid (BG.out.trans (hB.mono BG.out.size))
        have PK := Lib.hid (PG.out.below hB PG.out.lt)
        have MK := Lib.hid (MG.out.below hB MG.out.lt)
        have XK := Lib.hid (XG.out.keep hB)
        clear hB BG PG MG XG
        go_wp2_with fail
        refine (awake_any K).mono ?_
        rintro e Z ⟨rfl, hB⟩
        have BZ := BK.out.trans (hB.mono BK.out.size)
        clear hB
        rcases HMO.out with hk | hk
        case inl =>
          rw [hk]
          go_wp2
          go_ret
          exact ⟨rfl, BZ⟩
        case inr =>
          rw [hk]
          go_wp2
          go_ret
          exact ⟨rfl, BZ⟩
    have hk' : k < os.length := by rw [HLO.out]; exact hlt
    obtain ⟨b, o, q, rfl, hb, hq, hr, hok⟩ := HR.out.get hk'
    have RG := range_below hr HB.out hb
    have HOK := Lib.hid hok
    clear hq hr hb hk'
    have hz1 : (Try.prog.info? 55).map (·.size) = some q.cells.toArray.size := by rw [hok.size]; exact info55
    have hz2 : (Try.prog.info? 55).map (·.size) = some q.cells.length := by rw [hok.len]; exact info55
    have hz3 : (#[.int .i64 0, .int .u64 0, .int .u64 0, .int .i64 0, .int .u64 0, .int .u8 0, .int .u8 0, .int .u8 0, .int .u8 0, .int .u8 0, .int .u8 0, .int .u8 0, .int .u8 0, .int .u8 0, .int .u8 0, .int .u8 0, .int .u8 0, .int .u8 0, .int .u8 0, .int .u8 0, .int .u8 0, .int .u8 0, .int .u8 0, .int .u8 0, .int .u8 0, .int .u8 0, .int .u8 0, .int .u8 0, .int .u8 0, .int .u8 0, .int .u8 0, .int .u8 0, .int .u8 0, .int .u8 0, .int .u8 0, .int .u8 0, .int .u8 0, .int .u64 0, .int .u64 0] : Array Value).size = q.cells.toArray.size := by rw [hok.size]; rfl
    have hco : q.cells.toArray.all (·.oneCell') = true := ocells_one _ _ _ _
    have HLA := heap_alloc_last wr (.cells #[.int .i64 0, .int .u64 0, .int .u64 0, .int .i64 0, .int .u64 0, .int .u8 0, .int .u8 0, .int .u8 0, .int .u8 0, .int .u8 0, .int .u8 0, .int .u8 0, .int .u8 0, .int .u8 0, .int .u8 0, .int .u8 0, .int .u8 0, .int .u8 0, .int .u8 0, .int .u8 0, .int .u8 0, .int .u8 0, .int .u8 0, .int .u8 0, .int .u8 0, .int .u8 0, .int .u8 0, .int .u8 0, .int .u8 0, .int .u8 0, .int .u8 0, .int .u8 0, .int .u8 0, .int .u8 0, .int .u8 0, .int .u8 0, .int .u8 0, .int .u64 0, .int .u64 0] 55)
    go_upto_region 5 with (first | (refine wpList_load_mid rfl 55 (.tmp 35) rfl b (o + k * 39) rfl q.cells _ RG Try.underlying55 rfl hz2 ?_) | (refine wpList_store_row rfl 55 (.tmp 11) (.tmp 36) rfl wr.heap.size q.cells.toArray rfl rfl 55 _ HLA hz1 hz3 hco ?_; rw [World.setRow_alloc_new]))
    clear hz1 hz2 hz3 hco HLA RG hok
    have hB : Below wr.heap.size wr (wr.alloc (.cells q.cells.toArray 55)) := (Below.refl _ _).alloc (Nat.le_refl _) _
    have BD : Hid (Below w.heap.size w (wr.alloc (.cells q.cells.toArray 55))) := Lib.hid (HB.out.trans (hB.mono HB.out.size))
    have PD := Lib.hid (P0.out.below hB P0.out.lt)
    have MD := Lib.hid (M0.out.below hB M0.out.lt)
    have XD := Lib.hid (X0.out.keep hB)
    have KD : Hid (Blk (wr.alloc (.cells q.cells.toArray 55)) wr.heap.size 55 (ocells q.k q.amt q.c q.id)) := Lib.hid (Blk.new wr 55 q.cells)
    have HGQ : Hid (w.heap.size ≤ wr.heap.size ∧ gp < wr.heap.size ∧ gm < wr.heap.size ∧ gx < wr.heap.size) := Lib.hid ⟨HB.out.size, P0.out.lt, M0.out.lt, X0.out.blk.lt⟩
    clear hB HB P0 M0 X0
    generalize (wr.alloc (.cells q.cells.toArray 55)) = D at BD PD MD XD KD ⊢
    generalize wr.heap.size = gq at HGQ KD ⊢
    by_cases h40 : 40 ≤ k
    case pos =>
      have b40 : (k : Int) ≥ 40 := by omega
      have hn8 : n ≤ 8 := by have h1 := XD.out.len; have h2 := HS.out.2.1; omega
      have XK := XD.out.blk
      have s0 := XK.cell 0
      have s1 := XK.cell 1
      have s2 := XK.cell 2
      have s3 := XK.cell 3
      have s4 := XK.cell 4
      have s5 := XK.cell 5
      have s6 := XK.cell 6
      simp only [List.getElem?_cons_zero, List.getElem?_cons_succ] at s0 s1 s2 s3 s4 s5 s6
      have q0 := PD.out.cell 0
      have q1 := PD.out.cell 1
      simp only [List.getElem?_cons_zero, List.getElem?_cons_succ] at q0 q1
      go_wp2_with fail
      clear s0 s1 s2 s3 s4 s5 s6 XK q0 q1 b40
      refine ((show Calls Try.prog 15 #[.agg #[.int .u32 s.ch, .int .u64 s.rd, .int .u64 s.m0, .int .u64 s.m1, .int .u64 s.t0, .int .u64 s.t1, .slice a n cap], .agg #[.int .u64 p0, .int .u64 p1]] D (fun e w2 => e = .returned (.int .i64 (soundE s p0 p1)) ∧ Below D.heap.size D w2) from sound_any s.ch s.rd s.m0 s.m1 s.t0 s.t1 a n cap s.cs p0 p1 D XD.out.row XD.out.len (by omega) hp0 hp1 HS.out.1.eta)).mono ?_
      rw [HS.out.2.2]
      rintro e F ⟨rfl, hB⟩
      have BF := Lib.hid (BD.out.trans (hB.mono BD.out.size))
      have PF := Lib.hid (PD.out.below hB PD.out.lt)
      have MF := Lib.hid (MD.out.below hB MD.out.lt)
      have XF := Lib.hid (XD.out.keep hB)
      clear hB BD PD MD XD
      have XK := XF.out.blk
      have s0 := XK.cell 0
      have s1 := XK.cell 1
      have s2 := XK.cell 2
      have s3 := XK.cell 3
      have s4 := XK.cell 4
      have s5 := XK.cell 5
      have s6 := XK.cell 6
      simp only [List.getElem?_cons_zero, List.getElem?_cons_succ] at s0 s1 s2 s3 s4 s5 s6
      go_wp2
      clear s0 s1 s2 s3 s4 s5 s6 XK
      go_loopw [14, 15, 68] (fun l _ j wd => ∃ (i : Nat) (v : Value), i ≤ n ∧ j = .int .i64 i ∧ v = l ∧ Hid (wd.ownsRow w.heap.size 4 1 v i (bools (vs bs i))) ∧ Hid (Below w.heap.size w wd) ∧ Hid (Blk wd gp 24 [.int .u64 p0, .int .u64 p1]) ∧ Hid (Blk wd gm 24 [.int .u64 m0, .int .u64 m1]) ∧ Hid (StAt wd w.heap.size gx s a n cap)) (fun _ _ j _ => n - (intOf j).toNat)
      case atStart => exact ⟨0, _, Nat.zero_le _, rfl, rfl, Lib.hid (World.ownsRow_nil _ _ _ _), BF, PF, MF, XF⟩
      case round =>
        clear BF PF MF XF
        obtain ⟨i, v, hi, rfl, rfl, O2, B2, P2, M2, X2⟩ := hrel
        obtain ⟨av, cv, rfl⟩ := own_slice O2.out
        skip
        by_cases hin : i < n
        case pos =>
          have hi8 : i ≤ 8 := by omega
          obtain ⟨d, hd⟩ : ∃ d, bs.getD i false = d := ⟨_, rfl⟩
          have HD := Lib.hid hd
          have HVS : Hid (vs bs (i + 1) = vs bs i ++ [d]) := Lib.hid (by rw [vs_snoc, hd])
          have hB : Below wr.heap.size wr (wr.alloc (.cells #[.bool d] 4)) := (Below.refl _ _).alloc (Nat.le_refl _) _
          have B3 : Hid (Below w.heap.size w (wr.alloc (.cells #[.bool d] 4))) := Lib.hid (B2.out.trans (hB.mono B2.out.size))
          have P3 := Lib.hid (P2.out.below hB P2.out.lt)
          have M3 := Lib.hid (M2.out.below hB M2.out.lt)
          have X3 := Lib.hid (X2.out.keep hB)
          have O3 := own_keep O2.out hB
          have hN := Blk.new wr 4 [.bool d]
          obtain ⟨v2, W2, happ, hown, hO⟩ := app_bool (wr.alloc (.cells #[.bool d] 4)) w.heap.size i wr.heap.size _ _ d O3 hN (by omega) B3.out.size
          have HAP := Lib.hid happ
          have HOW := Lib.hid hown
          have HO2 := Lib.hid hO
          have HO3 := Lib.hid O3
          clear happ hown hO O3 hN hB
          by_cases hib : i < nb
          case pos =>
            obtain ⟨bb, ob, rfl, hbb, hcb⟩ := HV.out.get (i := i) (by rw [HLB.out]; exact hib)
            rw [hd] at hcb
            have hcb2 := (B2.out.cell (p := ⟨bb, ob + i, none⟩) hbb).trans hcb
            clear hcb hbb hd
            have bl : decide ((i : Int) < (nb : Int)) = true := decide_eq_true (by omega)
            have bl2 : (i : Int) < (nb : Int) := by omega
            go_wp2_with (first | (at_builtin; refine wpList_append_run_ rfl (.tmp 71) (.tmp 82) 69 69 rfl v2 W2 HAP.out ?_))
            go_roundw
            case rel => exact ⟨i + 1, v2, by omega, by go_num, rfl, Lib.hid (by rw [HVS.out, bools_append]; exact HOW.out), Lib.hid (below_own B3.out HO2.out HO3.out (Nat.le_refl _) B3.out.size), Lib.hid (P3.out.grown HO2.out (own_ne HO3.out P3.out (by decide))), Lib.hid (M3.out.grown HO2.out (own_ne HO3.out M3.out (by decide))), Lib.hid ⟨X3.out.blk.grown HO2.out (own_ne HO3.out X3.out.blk (by decide)), X3.out.own.kept HO2.out (by by_cases h0 : (Value.slice a n cap).ownBlock = none; exact .inl h0; exact .inr (fun e => two_rows X3.out.own HO3.out (by decide) e h0)), X3.out.ok, X3.out.len⟩⟩
            case measure => simp [intOf] <;> omega
          have hdf : d = false := by rw [← hd]; exact getD_none bs i (by rw [HLB.out]; omega)
          subst hdf
          clear hd
          have bl : decide ((i : Int) < (nb : Int)) = false := decide_eq_false (by omega)
          have bl2 : ¬ (i : Int) < (nb : Int) := by omega
          go_wp2_with (first | (at_builtin; refine wpList_append_run_ rfl (.tmp 71) (.tmp 82) 69 69 rfl v2 W2 HAP.out ?_))
          go_roundw
          case rel => exact ⟨i + 1, v2, by omega, by go_num, rfl, Lib.hid (by rw [HVS.out, bools_append]; exact HOW.out), Lib.hid (below_own B3.out HO2.out HO3.out (Nat.le_refl _) B3.out.size), Lib.hid (P3.out.grown HO2.out (own_ne HO3.out P3.out (by decide))), Lib.hid (M3.out.grown HO2.out (own_ne HO3.out M3.out (by decide))), Lib.hid ⟨X3.out.blk.grown HO2.out (own_ne HO3.out X3.out.blk (by decide)), X3.out.own.kept HO2.out (by by_cases h0 : (Value.slice a n cap).ownBlock = none; exact .inl h0; exact .inr (fun e => two_rows X3.out.own HO3.out (by decide) e h0)), X3.out.ok, X3.out.len⟩⟩
          case measure => simp [intOf] <;> omega
        have hin2 : i = n := by omega
        subst hin2
        have HBR : Hid (BRow wr av (vs bs i)) := Lib.hid (BRow.of_own O2.out)
        clear O2
        have hsumc : addE p0 p1 = 0 ∨ addE p0 p1 ≠ 0 := by omega
        have q0 := P2.out.cell 0
        have q1 := P2.out.cell 1
        simp only [List.getElem?_cons_zero, List.getElem?_cons_succ] at q0 q1
        go_wp2_with fail
        clear q0 q1
        refine (radd_any p0 p1 _ hp0 hp1).mono ?_
        rintro e w2 ⟨rfl, rfl⟩
        have XK := X2.out.blk
        have s0 := XK.cell 0
        have s1 := XK.cell 1
        have s2 := XK.cell 2
        have s3 := XK.cell 3
        have s4 := XK.cell 4
        have s5 := XK.cell 5
        have s6 := XK.cell 6
        simp only [List.getElem?_cons_zero, List.getElem?_cons_succ] at s0 s1 s2 s3 s4 s5 s6
        have q0 := P2.out.cell 0
        have q1 := P2.out.cell 1
        simp only [List.getElem?_cons_zero, List.getElem?_cons_succ] at q0 q1
        have z24 := zero24
        go_wp2_with fail
        clear s0 s1 s2 s3 s4 s5 s6 XK q0 q1 z24
        refine (split_any s a av i cap cv p0 p1 (vs bs i) wr X2.out.row X2.out.len (by omega) HS.out.1 hp0 hp1 HBR.out (vs_len _ _) HS.out.2.2).mono ?_
        rintro e F ⟨o0, o1, Es, rfl, hB, hsp⟩
        have HSP := Lib.hid hsp
        clear hsp HBR
        have BF := Lib.hid (B2.out.trans (hB.mono B2.out.size))
        have PF := Lib.hid (P2.out.below hB P2.out.lt)
        have MF := Lib.hid (M2.out.below hB M2.out.lt)
        have XF := Lib.hid (X2.out.keep hB)
        clear hB B2 P2 M2 X2
        have HLA := heap_alloc_last F (.cells #[.int .u64 0, .int .u64 0] 24)
        have hz1 : (Try.prog.info? 24).map (·.size) = some (#[.int .u64 o0, .int .u64 o1] : Array Value).size := info24
        go_upto_region 21 with (first | (refine wpList_store_row rfl 24 (.tmp 18) (.tmp 99) rfl F.heap.size #[.int .u64 o0, .int .u64 o1] rfl rfl 24 _ HLA hz1 rfl rfl ?_; rw [World.setRow_alloc_new]))
        clear HLA hz1
        have hB : Below F.heap.size F (F.alloc (.cells #[.int .u64 o0, .int .u64 o1] 24)) := (Below.refl _ _).alloc (Nat.le_refl _) _
        have VG : Hid (Blk (F.alloc (.cells #[.int .u64 o0, .int .u64 o1] 24)) F.heap.size 24 [.int .u64 o0, .int .u64 o1]) := Lib.hid (Blk.new F 24 [.int .u64 o0, .int .u64 o1])
        have BG := Lib.hid (BF.out.trans (hB.mono BF.out.size))
        have PG := Lib.hid (PF.out.below hB PF.out.lt)
        have MG := Lib.hid (MF.out.below hB MF.out.lt)
        have XG := Lib.hid (XF.out.keep hB)
        clear hB BF PF MF XF
        generalize (F.alloc (.cells #[.int .u64 o0, .int .u64 o1] 24)) = G at BG PG MG XG VG ⊢
        generalize F.heap.size = go_ at VG ⊢
        rcases hsumc with hz | hz
        case inr =>
          have b1 : (addE p0 p1 != 0) = true := by simpa using hz
          go_wp2_with fail
          refine (awake_any G).mono ?_
          rintro e Z ⟨rfl, hB⟩
          go_wp2
          go_ret
          exact ⟨rfl, BG.out.trans (hB.mono BG.out.size)⟩
        have b1 : (addE p0 p1 != 0) = false := by simpa using hz
        have hov : p0 + p1 < 18446744073709551616 := by unfold addE at hz; split at hz; assumption; cases hz
        have hav : addV p0 p1 = p0 + p1 := addV0 hov
        obtain ⟨w1, w2, w3⟩ := whole HS.out.1 XG.out.ok hp0 hp1 (vs bs i) (by rw [vs_len]; exact XG.out.len.symm) HS.out.2.2 hov
        obtain ⟨rfl, rfl, rfl⟩ := HSP.out w1 w2
        have hn0 : Word (sumV (partsF s p0 p1 0 (vs bs i))) := sumV_word _ (parts_word HS.out.1 XG.out.ok hp0 hp1 0 _)
        have hn1 : Word (sumV (partsF s p0 p1 1 (vs bs i))) := sumV_word _ (parts_word HS.out.1 XG.out.ok hp0 hp1 1 _)
        generalize sumV (partsF s p0 p1 0 (vs bs i)) = o0 at VG w3 hn0 ⊢
        generalize sumV (partsF s p0 p1 1 (vs bs i)) = o1 at VG w3 hn1 ⊢
        rw [hav]
        clear HSP w1 w2 hz hav
        have q0 := VG.out.cell 0
        have q1 := VG.out.cell 1
        simp only [List.getElem?_cons_zero, List.getElem?_cons_succ] at q0 q1
        go_wp2_with fail
        clear q0 q1 b1
        refine (radd_ok o0 o1 _ hn0 hn1 (by omega)).mono ?_
        rintro e w2 ⟨rfl, rfl⟩
        rw [w3]
        have bs1 : ((p0 + p1) != (p0 + p1)) = false := by simp
        have q0 := PG.out.cell 0
        have q1 := PG.out.cell 1
        simp only [List.getElem?_cons_zero, List.getElem?_cons_succ] at q0 q1
        have t0 := MG.out.cell 0
        have t1 := MG.out.cell 1
        simp only [List.getElem?_cons_zero, List.getElem?_cons_succ] at t0 t1
        go_wp2_with fail
        clear q0 q1 t0 t1 bs1 hn0 hn1 w3 VG
        refine (radd_any p0 m0 _ hp0 hm0).mono ?_
        rintro e w2 ⟨rfl, rfl⟩
        have q0 := PG.out.cell 0
        have q1 := PG.out.cell 1
        simp only [List.getElem?_cons_zero, List.getElem?_cons_succ] at q0 q1
        have t0 := MG.out.cell 0
        have t1 := MG.out.cell 1
        simp only [List.getElem?_cons_zero, List.getElem?_cons_succ] at t0 t1
        go_wp2_with fail
        clear q0 q1 t0 t1
        refine (radd_any p1 m1 _ hp1 hm1).mono ?_
        rintro e w2 ⟨rfl, rfl⟩
        have ha0 : Word (addV p0 m0) := addV_word hp0 hm0
        have ha1 : Word (addV p1 m1) := addV_word hp1 hm1
        go_wp2_with fail
        refine (radd_any (addV p0 m0) (addV p1 m1) _ ha0 ha1).mono ?_
        rintro e w2 ⟨rfl, rfl⟩
        by_cases c1 : addE p0 m0 = 0
        case neg =>
          have b1 : (addE p0 m0 != 0) = true := by simpa using c1
          go_wp2_with fail
          refine (awake_any G).mono ?_
          rintro e Z ⟨rfl, hB⟩
          go_wp2
          go_ret
          exact ⟨rfl, BG.out.trans (hB.mono BG.out.size)⟩
        have b1 : (addE p0 m0 != 0) = false := by simpa using c1
        by_cases c2 : addE p1 m1 = 0
        case neg =>
          have b2 : (addE p1 m1 != 0) = true := by simpa using c2
          go_wp2_with fail
          refine (awake_any G).mono ?_
          rintro e Z ⟨rfl, hB⟩
          go_wp2
          go_ret
          exact ⟨rfl, BG.out.trans (hB.mono BG.out.size)⟩
        have b2 : (addE p1 m1 != 0) = false := by simpa using c2
        by_cases c3 : addE (addV p0 m0) (addV p1 m1) = 0
        case neg =>
          have b3 : (addE (addV p0 m0) (addV p1 m1) != 0) = true := by simpa using c3
          go_wp2_with fail
          refine (awake_any G).mono ?_
          rintro e Z ⟨rfl, hB⟩
          go_wp2
          go_ret
          exact ⟨rfl, BG.out.trans (hB.mono BG.out.size)⟩
        have b3 : (addE (addV p0 m0) (addV p1 m1) != 0) = false := by simpa using c3
        have e0 : addV p0 m0 = p0 + m0 := by unfold addE at c1; unfold addV; split at c1 <;> simp_all
        have e1 : addV p1 m1 = p1 + m1 := by unfold addE at c2; unfold addV; split at c2 <;> simp_all
        have HMO := Lib.hid (more (q0 := addV p0 m0) (q1 := addV p1 m1) HS.out.2.2 (by rw [e0]; have := hm0.1; omega) (by rw [e1]; have := hm1.1; omega))
        have HA0 := Lib.hid ha0
        have HA1 := Lib.hid ha1
        clear e0 e1 c1 c2 c3
        generalize addV p0 m0 = r0 at HMO HA0 b3 ⊢
        generalize addV p1 m1 = r1 at HMO HA1 b3 ⊢
        clear ha0 ha1
        have XK := XG.out.blk
        have s0 := XK.cell 0
        have s1 := XK.cell 1
        have s2 := XK.cell 2
        have s3 := XK.cell 3
        have s4 := XK.cell 4
        have s5 := XK.cell 5
        have s6 := XK.cell 6
        simp only [List.getElem?_cons_zero, List.getElem?_cons_succ] at s0 s1 s2 s3 s4 s5 s6
        have z24 := fun W => built24 r0 r1 W
        go_wp2_with fail
        clear s0 s1 s2 s3 s4 s5 s6 XK z24 b1 b2 b3
        refine ((show Calls Try.prog 15 #[.agg #[.int .u32 s.ch, .int .u64 s.rd, .int .u64 s.m0, .int .u64 s.m1, .int .u64 s.t0, .int .u64 s.t1, .slice a i cap], .agg #[.int .u64 r0, .int .u64 r1]] G (fun e w2 => e = .returned (.int .i64 (soundE s r0 r1)) ∧ Below G.heap.size G w2) from sound_any s.ch s.rd s.m0 s.m1 s.t0 s.t1 a i cap s.cs r0 r1 G XG.out.row XG.out.len (by omega) HA0.out HA1.out HS.out.1.eta)).mono ?_
        rintro e K ⟨rfl, hB⟩
        have BK := Lib.hid (BG.out.trans (hB.mono BG.out.size))
        have PK := Lib.hid (PG.out.below hB PG.out.lt)
        have MK := Lib.hid (MG.out.below hB MG.out.lt)
        have XK := Lib.hid (XG.out.keep hB)
        clear hB BG PG MG XG
        go_wp2_with fail
        refine (awake_any K).mono ?_
        rintro e Z ⟨rfl, hB⟩
        have BZ := BK.out.trans (hB.mono BK.out.size)
        clear hB
        rcases HMO.out with hk | hk
        case inl =>
          rw [hk]
          go_wp2
          go_ret
          exact ⟨rfl, BZ⟩
        case inr =>
          rw [hk]
          go_wp2
          go_ret
          exact ⟨rfl, BZ⟩
    have b40 : ¬ (k : Int) ≥ 40 := by omega
    obtain ⟨T, hT⟩ : ∃ T, turnF (wr64 (s.rd + 1)) = T := ⟨_, rfl⟩
    have HT1 : Hid (∀ W, Calls Try.prog 22 #[.int .u64 (IntKind.u64.wrap (s.rd + 1))] W fun e w2 => e = .returned (.int .i64 T) ∧ W = w2) := Lib.hid (fun W => by have := turn_any (wr64 (s.rd + 1)) W (wr64_word _); rwa [hT] at this)
    clear hT
    have XK := XD.out.blk
    have s0 := XK.cell 0
    have s1 := XK.cell 1
    have s2 := XK.cell 2
    have s3 := XK.cell 3
    have s4 := XK.cell 4
    have s5 := XK.cell 5
    have s6 := XK.cell 6
    simp only [List.getElem?_cons_zero, List.getElem?_cons_succ] at s0 s1 s2 s3 s4 s5 s6
    have k3 := KD.out.cell 3
    rw [ocells_3] at k3
    have f3 := KD.out.frozen 3
    go_wp2_with fail
    clear s0 s1 s2 s3 s4 s5 s6 XK b40
    refine (HT1.out _).mono ?_
    rintro e w2 ⟨rfl, rfl⟩
    go_upto_region 7 with fail
    clear k3 f3
    have hO1 : D.grownBy (D.setCell ⟨gq, 3, none⟩ (.int .i64 T)) (some gq) := only_setCell (p := ⟨gq, 3, none⟩) (only_refl _ _) (.inl rfl) _
    have BE : Hid (Below w.heap.size w (D.setCell ⟨gq, 3, none⟩ (.int .i64 T))) := Lib.hid (BD.out.grown hO1 BD.out.size (fun q hq => by injection hq with hq; have := HGQ.out; omega))
    have PE : Hid (Blk (D.setCell ⟨gq, 3, none⟩ (.int .i64 T)) gp 24 [.int .u64 p0, .int .u64 p1]) := Lib.hid (PD.out.grown hO1 (fun e => by injection e with e; have := HGQ.out; omega))
    have ME : Hid (Blk (D.setCell ⟨gq, 3, none⟩ (.int .i64 T)) gm 24 [.int .u64 m0, .int .u64 m1]) := Lib.hid (MD.out.grown hO1 (fun e => by injection e with e; have := HGQ.out; omega))
    have KE : Hid (Blk (D.setCell ⟨gq, 3, none⟩ (.int .i64 T)) gq 55 (ocells q.k q.amt (q.c.by_ T) q.id)) := Lib.hid (KD.out.set_ 3 (.int .i64 T))
    have XE : Hid (StAt (D.setCell ⟨gq, 3, none⟩ (.int .i64 T)) w.heap.size gx s a n cap) := Lib.hid (XD.out.other hO1 (fun e => by have := HGQ.out; omega) KD.out (by decide))
    clear hO1 BD PD MD KD XD
    generalize (D.setCell ⟨gq, 3, none⟩ (.int .i64 T)) = E at BE PE ME KE XE ⊢
    have HZK : Hid ((Try.prog.info? 55).map (·.size) = some (ocells q.k q.amt (q.c.by_ T) q.id).length) := Lib.hid (by rw [ocells_length _ _ _ _ (HOK.out.c.by_ T)]; exact info55)
    obtain ⟨E1, hE1⟩ : ∃ x, nextE s p0 p1 T q.k q.amt (q.c.by_ T) q.id = x := ⟨_, rfl⟩
    obtain ⟨SS, hSS⟩ : ∃ x, nextS s p0 p1 T q.k q.amt (q.c.by_ T) q.id = x := ⟨_, rfl⟩
    have HNX : Hid (∀ X, CRow X a s.cs → Calls Try.prog 24 #[.agg #[.int .u32 s.ch, .int .u64 s.rd, .int .u64 s.m0, .int .u64 s.m1, .int .u64 s.t0, .int .u64 s.t1, .slice a n cap], .agg #[.int .u64 p0, .int .u64 p1], .int .i64 T, .agg (ocells q.k q.amt (q.c.by_ T) q.id).toArray] X (NextPost SS E1 X)) := Lib.hid (fun X hC => by
      have := next_any n cap s a p0 p1 T q.k q.amt q.id (q.c.by_ T) X hC XE.out.nil_ XE.out.len (by have := XE.out.len; have := HS.out.2; omega) (HOK.out.c.by_ T) HOK.out.amt hp0 hp1 HS.out.1
      rwa [hE1, hSS] at this)
    have HE1 := Lib.hid hE1
    have HSS := Lib.hid hSS
    have HSO : Hid (∀ x ∈ SS.cs, x.Ok) := Lib.hid (by rw [← hSS]; exact nextS_cok XE.out.ok (HOK.out.c.by_ T))
    clear hE1 hSS
    go_cut [12, 13] (fun s9 s10 wc => ∃ gN aN nN cN, s9 = .pointer (some ⟨gN, 0, none⟩) ∧ s10 = .int .i64 E1 ∧ Hid (Below w.heap.size w wc) ∧ Hid (Blk wc gp 24 [.int .u64 p0, .int .u64 p1]) ∧ Hid (Blk wc gm 24 [.int .u64 m0, .int .u64 m1]) ∧ Hid (Blk wc gq 55 (ocells q.k q.amt (q.c.by_ T) q.id)) ∧ Hid (StAt wc w.heap.size gx s a n cap) ∧ Hid (StAt wc w.heap.size gN SS aN nN cN) ∧ Hid (w.heap.size ≤ gN ∧ gp < gN ∧ gm < gN ∧ gq < gN ∧ gx < gN))
    case first =>
      have hBz : Below E.heap.size E E.drew := below_drewN (Below.refl _ _) 1
      have BX0 : Hid (Below w.heap.size w E.drew) := Lib.hid (BE.out.trans (hBz.mono BE.out.size))
      have PX0 : Hid (Blk E.drew gp 24 [.int .u64 p0, .int .u64 p1]) := Lib.hid (PE.out.below hBz PE.out.lt)
      have MX0 : Hid (Blk E.drew gm 24 [.int .u64 m0, .int .u64 m1]) := Lib.hid (ME.out.below hBz ME.out.lt)
      have KX0 : Hid (Blk E.drew gq 55 (ocells q.k q.amt (q.c.by_ T) q.id)) := Lib.hid (KE.out.below hBz KE.out.lt)
      have XX0 : Hid (StAt E.drew w.heap.size gx s a n cap) := Lib.hid (XE.out.keep hBz)
      clear hBz
      refine wp_region_held_drew (S := fun w' => Blk w' gp 24 [.int .u64 p0, .int .u64 p1] ∧ Blk w' gq 55 (ocells q.k q.amt (q.c.by_ T) q.id) ∧ StAt w' w.heap.size gx s a n cap) (by kernel_rfl) (⟨PX0.out, KX0.out, XX0.out⟩) (fun hHeld => ?_)
      generalize E.drew = X0 at hHeld BX0 PX0 MX0 KX0 XX0 ⊢
      refine wpAnyH_take (i := 0) (v := .agg #[.int .u32 s.ch, .int .u64 s.rd, .int .u64 s.m0, .int .u64 s.m1, .int .u64 s.t0, .int .u64 s.t1, .slice a n cap]) rfl (by kernel_rfl) (by kernel_rfl) (by kernel_rfl) (fun _ _ _ h => h) (Or.inl ⟨by rfl, by intro w' h; have q0 := Blk.cell h.2.2.blk 0; have q1 := Blk.cell h.2.2.blk 1; have q2 := Blk.cell h.2.2.blk 2; have q3 := Blk.cell h.2.2.blk 3; have q4 := Blk.cell h.2.2.blk 4; have q5 := Blk.cell h.2.2.blk 5; have q6 := Blk.cell h.2.2.blk 6; simp only [List.getElem?_cons_zero, List.getElem?_cons_succ] at q0 q1 q2 q3 q4 q5 q6; go_simp⟩) hHeld ?_
      show wpAnyH _ _ _ _ _ _ _ (Act.put _ (some 46) _) _
      simp only [Act.put, List.setIfInBounds_toArray, List.set_cons_zero, List.set_cons_succ]
      refine wpAnyH_take (i := 1) (v := .agg #[.int .u64 p0, .int .u64 p1]) rfl (by kernel_rfl) (by kernel_rfl) (by kernel_rfl) (fun _ _ _ h => h) (Or.inl ⟨by rfl, by intro w' h; have q0 := Blk.cell h.1 0; have q1 := Blk.cell h.1 1; simp only [List.getElem?_cons_zero, List.getElem?_cons_succ] at q0 q1; go_simp⟩) hHeld ?_
      show wpAnyH _ _ _ _ _ _ _ (Act.put _ (some 47) _) _
      simp only [Act.put, List.setIfInBounds_toArray, List.set_cons_zero, List.set_cons_succ]
      refine wpAnyH_take (i := 2) (v := .pointer (some ⟨gx, 1, none⟩)) rfl (by kernel_rfl) (by kernel_rfl) (by kernel_rfl) (fun _ _ _ h => h) (Or.inl ⟨by rfl, by intro w' h; go_simp⟩) hHeld ?_
      show wpAnyH _ _ _ _ _ _ _ (Act.put _ (some 48) _) _
      simp only [Act.put, List.setIfInBounds_toArray, List.set_cons_zero, List.set_cons_succ]
      refine wpAnyH_take (i := 3) (v := .int .u64 s.rd) rfl (by kernel_rfl) (by kernel_rfl) (by kernel_rfl) (fun _ _ _ h => h) (Or.inl ⟨by rfl, by intro w' h; have q0 := Blk.cell h.2.2.blk 0; have q1 := Blk.cell h.2.2.blk 1; have q2 := Blk.cell h.2.2.blk 2; have q3 := Blk.cell h.2.2.blk 3; have q4 := Blk.cell h.2.2.blk 4; have q5 := Blk.cell h.2.2.blk 5; have q6 := Blk.cell h.2.2.blk 6; simp only [List.getElem?_cons_zero, List.getElem?_cons_succ] at q0 q1 q2 q3 q4 q5 q6; go_simp⟩) hHeld ?_
      show wpAnyH _ _ _ _ _ _ _ (Act.put _ (some 49) _) _
      simp only [Act.put, List.setIfInBounds_toArray, List.set_cons_zero, List.set_cons_succ]
      refine wpAnyH_take (i := 4) (v := .int .u64 (IntKind.u64.wrap (s.rd + 1))) rfl (by kernel_rfl) (by kernel_rfl) (by kernel_rfl) (fun _ _ _ h => h) (Or.inl ⟨by rfl, by intro w' h; go_simp⟩) hHeld ?_
      show wpAnyH _ _ _ _ _ _ _ (Act.put _ (some 50) _) _
      simp only [Act.put, List.setIfInBounds_toArray, List.set_cons_zero, List.set_cons_succ]
      refine wpAnyH_take (i := 6) (v := .agg (ocells q.k q.amt (q.c.by_ T) q.id).toArray) rfl (by kernel_rfl) (by kernel_rfl) (by kernel_rfl) (fun _ _ _ h => h) (yieldsIf_load_mid (by rfl) 55 (.tmp 11) rfl gq 0 rfl (ocells q.k q.amt (q.c.by_ T) q.id) _ (fun w h => Blk.all h.2.1) Try.underlying55 rfl HZK.out) hHeld ?_
      show wpAnyH _ _ _ _ _ _ _ (Act.put _ (some 52) _) _
      simp only [Act.put, List.setIfInBounds_toArray, List.set_cons_zero, List.set_cons_succ]
      refine wpAnyH_ready (rs := [5, 12]) (by kernel_rfl) (by simp) ?_
      refine AllReadyH.cons rfl (fun K hK => ?_) (AllReadyH.cons rfl (fun K hK => ?_) AllReadyH.nil)
      · refine step_call rfl 22 #[.tmp 50] #[23] rfl #[.int .u64 (IntKind.u64.wrap (s.rd + 1))] (by simp [Act.eval]) (by go_simp) (HT1.out X0) ?_
        rintro e X1 ⟨rfl, rfl⟩
        refine ⟨_, rfl, hK.out _ _ (⟨PX0.out, KX0.out, XX0.out⟩) (fun hHeld => ?_)⟩
        clear hK K
        show wpAnyH _ _ _ _ _ _ _ (Act.put _ (some 51) _) _
        simp only [Act.put, List.setIfInBounds_toArray, List.set_cons_zero, List.set_cons_succ]
        refine wpAnyH_ready (rs := [7, 12]) (by kernel_rfl) (by simp) ?_
        refine AllReadyH.cons rfl (fun K hK => ?_) (AllReadyH.cons rfl (fun K hK => ?_) AllReadyH.nil)
        · refine step_call rfl 25 #[.tmp 52] #[55] rfl #[.agg (ocells q.k q.amt (q.c.by_ T) q.id).toArray] (by simp [Act.eval]) (by go_simp) (op_any q.k q.amt q.id (q.c.by_ T) X0 (HOK.out.c.by_ T)) ?_
          rintro e X2 ⟨rfl, hB⟩
          have BX2 : Hid (Below w.heap.size w X2) := Lib.hid (BX0.out.trans (hB.mono BX0.out.size))
          have PX2 : Hid (Blk X2 gp 24 [.int .u64 p0, .int .u64 p1]) := Lib.hid (PX0.out.below hB PX0.out.lt)
          have MX2 : Hid (Blk X2 gm 24 [.int .u64 m0, .int .u64 m1]) := Lib.hid (MX0.out.below hB MX0.out.lt)
          have KX2 : Hid (Blk X2 gq 55 (ocells q.k q.amt (q.c.by_ T) q.id)) := Lib.hid (KX0.out.below hB KX0.out.lt)
          have XX2 : Hid (StAt X2 w.heap.size gx s a n cap) := Lib.hid (XX0.out.keep hB)
          clear BX0 PX0 MX0 KX0 XX0 hB
          refine ⟨_, rfl, hK.out _ _ (⟨PX2.out, KX2.out, XX2.out⟩) (fun hHeld => ?_)⟩
          clear hK K
          show wpAnyH _ _ _ _ _ _ _ (Act.put _ (some 53) _) _
          simp only [Act.put, List.setIfInBounds_toArray, List.set_cons_zero, List.set_cons_succ]
          refine wpAnyH_ready (rs := [8, 12]) (by kernel_rfl) (by simp) ?_
          refine AllReadyH.cons rfl (fun K hK => ?_) (AllReadyH.cons rfl (fun K hK => ?_) AllReadyH.nil)
          · refine step_call rfl 24 #[.tmp 46, .tmp 47, .tmp 51, .tmp 53] #[31, 24, 36, 62] rfl #[.agg #[.int .u32 s.ch, .int .u64 s.rd, .int .u64 s.m0, .int .u64 s.m1, .int .u64 s.t0, .int .u64 s.t1, .slice a n cap], .agg #[.int .u64 p0, .int .u64 p1], .int .i64 T, .agg (ocells q.k q.amt (q.c.by_ T) q.id).toArray] (by simp [Act.eval]) (by go_simp) (HNX.out X2 XX2.out.row) ?_
            rintro e X3 ⟨aN, nN, cN, rfl, hR, hlen, hB⟩
            have HLEN := Lib.hid hlen
            have BX3 : Hid (Below w.heap.size w X3) := Lib.hid (BX2.out.trans (hB.mono BX2.out.size))
            have PX3 : Hid (Blk X3 gp 24 [.int .u64 p0, .int .u64 p1]) := Lib.hid (PX2.out.below hB PX2.out.lt)
            have MX3 : Hid (Blk X3 gm 24 [.int .u64 m0, .int .u64 m1]) := Lib.hid (MX2.out.below hB MX2.out.lt)
            have KX3 : Hid (Blk X3 gq 55 (ocells q.k q.amt (q.c.by_ T) q.id)) := Lib.hid (KX2.out.below hB KX2.out.lt)
            have XX3 : Hid (StAt X3 w.heap.size gx s a n cap) := Lib.hid (XX2.out.keep hB)
            have RX3 : Hid (X3.ownsRow w.heap.size 60 36 (.slice aN nN cN) nN (cflat SS.cs)) := Lib.hid (own_mono hR BX2.out.size)
            clear BX2 PX2 MX2 KX2 XX2 hB hR hlen
            refine ⟨_, rfl, hK.out _ _ (⟨PX3.out, KX3.out, XX3.out⟩) (fun hHeld => ?_)⟩
            clear hK K
            show wpAnyH _ _ _ _ _ _ _ (Act.put _ (some 54) _) _
            simp only [Act.put, List.setIfInBounds_toArray, List.set_cons_zero, List.set_cons_succ]
            refine wpAnyH_take (i := 9) (v := .tuple #[.agg #[.int .u32 SS.ch, .int .u64 SS.rd, .int .u64 SS.m0, .int .u64 SS.m1, .int .u64 SS.t0, .int .u64 SS.t1, .slice aN nN cN], .int .i64 E1]) rfl (by kernel_rfl) (by kernel_rfl) (by kernel_rfl) (fun _ _ _ h => h) (Or.inl ⟨by rfl, fun w _ => by rfl⟩) hHeld ?_
            show wpAnyH _ _ _ _ _ _ _ (Act.put _ (some 45) _) _
            simp only [Act.put, List.setIfInBounds_toArray, List.set_cons_zero, List.set_cons_succ]
            refine wpAnyH_take (i := 10) (v := .agg #[.int .u32 SS.ch, .int .u64 SS.rd, .int .u64 SS.m0, .int .u64 SS.m1, .int .u64 SS.t0, .int .u64 SS.t1, .slice aN nN cN]) rfl (by kernel_rfl) (by kernel_rfl) (by kernel_rfl) (fun _ _ _ h => h) (Or.inl ⟨by rfl, by intro w' h; go_simp⟩) hHeld ?_
            show wpAnyH _ _ _ _ _ _ _ (Act.put _ (some 55) _) _
            simp only [Act.put, List.setIfInBounds_toArray, List.set_cons_zero, List.set_cons_succ]
            refine wpAnyH_take (i := 11) (v := .int .i64 E1) rfl (by kernel_rfl) (by kernel_rfl) (by kernel_rfl) (fun _ _ _ h => h) (Or.inl ⟨by rfl, by intro w' h; go_simp⟩) hHeld ?_
            show wpAnyH _ _ _ _ _ _ _ (Act.put _ (some 56) _) _
            simp only [Act.put, List.setIfInBounds_toArray, List.set_cons_zero, List.set_cons_succ]
            refine wpAnyH_ready (rs := [12]) (by kernel_rfl) (by simp) ?_
            refine AllReadyH.cons rfl (fun K hK => ?_) AllReadyH.nil
            refine step_new rfl 31 rfl #[.int .u32 0, .int .u64 0, .int .u64 0, .int .u64 0, .int .u64 0, .int .u64 0, .slice none 0 0] (.pointer (some ⟨X3.heap.size, 0, none⟩)) (by kernel_rfl) ?_
            have hB : Below X3.heap.size X3 (X3.alloc (.cells #[.int .u32 0, .int .u64 0, .int .u64 0, .int .u64 0, .int .u64 0, .int .u64 0, .slice none 0 0] 31)) := (Below.refl _ _).alloc (Nat.le_refl _) _
            have hZ := Blk.new X3 31 [.int .u32 0, .int .u64 0, .int .u64 0, .int .u64 0, .int .u64 0, .int .u64 0, .slice none 0 0]
            generalize X3.alloc (.cells #[.int .u32 0, .int .u64 0, .int .u64 0, .int .u64 0, .int .u64 0, .int .u64 0, .slice none 0 0] 31) = X4 at hB hZ ⊢
            obtain ⟨gN, hgN⟩ : ∃ q, X3.heap.size = q := ⟨_, rfl⟩
            have HGN : Hid (w.heap.size ≤ gN ∧ gp < gN ∧ gm < gN ∧ gq < gN ∧ gx < gN) := Lib.hid ⟨by have := BX3.out.size; omega, by have := PX3.out.lt; omega, by have := MX3.out.lt; omega, by have := KX3.out.lt; omega, by have := XX3.out.blk.lt; omega⟩
            rw [hgN] at hZ ⊢
            clear hgN
            have BX4 : Hid (Below w.heap.size w X4) := Lib.hid (BX3.out.trans (hB.mono BX3.out.size))
            have PX4 : Hid (Blk X4 gp 24 [.int .u64 p0, .int .u64 p1]) := Lib.hid (PX3.out.below hB PX3.out.lt)
            have MX4 : Hid (Blk X4 gm 24 [.int .u64 m0, .int .u64 m1]) := Lib.hid (MX3.out.below hB MX3.out.lt)
            have KX4 : Hid (Blk X4 gq 55 (ocells q.k q.amt (q.c.by_ T) q.id)) := Lib.hid (KX3.out.below hB KX3.out.lt)
            have XX4 : Hid (StAt X4 w.heap.size gx s a n cap) := Lib.hid (XX3.out.keep hB)
            have RX4 : Hid (X4.ownsRow w.heap.size 60 36 (.slice aN nN cN) nN (cflat SS.cs)) := Lib.hid (own_keep RX3.out hB)
            have ZX4 : Hid (Blk X4 gN 31 [.int .u32 0, .int .u64 0, .int .u64 0, .int .u64 0, .int .u64 0, .int .u64 0, .slice none 0 0]) := Lib.hid (hZ)
            clear BX3 PX3 MX3 KX3 XX3 RX3 hB hZ
            refine hK.out _ _ (⟨PX4.out, KX4.out, XX4.out⟩) (fun hHeld => ?_)
            clear hK K
            show wpAnyH _ _ _ _ _ _ _ (Act.put _ (some 12) _) _
            simp only [Act.put, List.setIfInBounds_toArray, List.set_cons_zero, List.set_cons_succ]
            refine wpAnyH_ready (rs := [13]) (by kernel_rfl) (by simp) ?_
            refine AllReadyH.cons rfl (fun K hK => ?_) AllReadyH.nil
            refine step_store rfl 31 (.tmp 12) (.tmp 55) rfl gN [.int .u32 SS.ch, .int .u64 SS.rd, .int .u64 SS.m0, .int .u64 SS.m1, .int .u64 SS.t0, .int .u64 SS.t1, .slice aN nN cN] rfl rfl 31 _ ZX4.out info31 rfl (by simp [Value.oneCell']) ?_
            intro X5 hZ hO
            have hKW : ∀ q, some gN = some q → w.heap.size ≤ q := fun q hq => by injection hq with hq; have := HGN.out; omega
            have hnP : some gp ≠ some gN := fun e => by injection e with e; have := HGN.out; omega
            have hnM : some gm ≠ some gN := fun e => by injection e with e; have := HGN.out; omega
            have hnK : some gq ≠ some gN := fun e => by injection e with e; have := HGN.out; omega
            have hnX : gx ≠ gN := fun e => by have := HGN.out; omega
            have BX5 : Hid (Below w.heap.size w X5) := Lib.hid (BX4.out.grown hO BX4.out.size hKW)
            have PX5 : Hid (Blk X5 gp 24 [.int .u64 p0, .int .u64 p1]) := Lib.hid (PX4.out.grown hO hnP)
            have MX5 : Hid (Blk X5 gm 24 [.int .u64 m0, .int .u64 m1]) := Lib.hid (MX4.out.grown hO hnM)
            have KX5 : Hid (Blk X5 gq 55 (ocells q.k q.amt (q.c.by_ T) q.id)) := Lib.hid (KX4.out.grown hO hnK)
            have XX5 : Hid (StAt X5 w.heap.size gx s a n cap) := Lib.hid (XX4.out.other hO hnX ZX4.out (by decide))
            have RX5 : Hid (X5.ownsRow w.heap.size 60 36 (.slice aN nN cN) nN (cflat SS.cs)) := Lib.hid (RX4.out.kept hO (.inr (fun e => own_ne RX4.out ZX4.out (by decide) e.symm)))
            have ZX5 : Hid (Blk X5 gN 31 [.int .u32 SS.ch, .int .u64 SS.rd, .int .u64 SS.m0, .int .u64 SS.m1, .int .u64 SS.t0, .int .u64 SS.t1, .slice aN nN cN]) := Lib.hid (hZ)
            clear BX4 PX4 MX4 KX4 XX4 RX4 hZ hO hKW ZX4 hnP hnM hnK hnX
            refine hK.out _ _ (⟨PX5.out, KX5.out, XX5.out⟩) (fun hHeld => ?_)
            clear hK K
            show wpAnyH _ _ _ _ _ _ _ (Act.put _ none _) _
            simp only [Act.put]
            refine wpAnyH_take (i := 14) (v := .int .i64 E1) rfl (by kernel_rfl) (by kernel_rfl) (by kernel_rfl) (fun _ _ _ h => h) (Or.inl ⟨by rfl, fun w _ => by rfl⟩) hHeld ?_
            show wpAnyH _ _ _ _ _ _ _ (Act.put _ (some 13) _) _
            simp only [Act.put, List.setIfInBounds_toArray, List.set_cons_zero, List.set_cons_succ]
            refine wpAnyH_done (by kernel_rfl) ?_ _
            go_wp2
            go_meet
            exact ⟨gN, aN, nN, cN, rfl, rfl, BX5, PX5, MX5, KX5, XX5, Lib.hid ⟨ZX5.out, RX5.out, HSO.out, HLEN.out⟩, HGN⟩
          · refine step_new rfl 31 rfl #[.int .u32 0, .int .u64 0, .int .u64 0, .int .u64 0, .int .u64 0, .int .u64 0, .slice none 0 0] (.pointer (some ⟨X2.heap.size, 0, none⟩)) (by kernel_rfl) ?_
            have hB : Below X2.heap.size X2 (X2.alloc (.cells #[.int .u32 0, .int .u64 0, .int .u64 0, .int .u64 0, .int .u64 0, .int .u64 0, .slice none 0 0] 31)) := (Below.refl _ _).alloc (Nat.le_refl _) _
            have hZ := Blk.new X2 31 [.int .u32 0, .int .u64 0, .int .u64 0, .int .u64 0, .int .u64 0, .int .u64 0, .slice none 0 0]
            generalize X2.alloc (.cells #[.int .u32 0, .int .u64 0, .int .u64 0, .int .u64 0, .int .u64 0, .int .u64 0, .slice none 0 0] 31) = X3 at hB hZ ⊢
            obtain ⟨gN, hgN⟩ : ∃ q, X2.heap.size = q := ⟨_, rfl⟩
            have HGN : Hid (w.heap.size ≤ gN ∧ gp < gN ∧ gm < gN ∧ gq < gN ∧ gx < gN) := Lib.hid ⟨by have := BX2.out.size; omega, by have := PX2.out.lt; omega, by have := MX2.out.lt; omega, by have := KX2.out.lt; omega, by have := XX2.out.blk.lt; omega⟩
            rw [hgN] at hZ ⊢
            clear hgN
            have BX3 : Hid (Below w.heap.size w X3) := Lib.hid (BX2.out.trans (hB.mono BX2.out.size))
            have PX3 : Hid (Blk X3 gp 24 [.int .u64 p0, .int .u64 p1]) := Lib.hid (PX2.out.below hB PX2.out.lt)
            have MX3 : Hid (Blk X3 gm 24 [.int .u64 m0, .int .u64 m1]) := Lib.hid (MX2.out.below hB MX2.out.lt)
            have KX3 : Hid (Blk X3 gq 55 (ocells q.k q.amt (q.c.by_ T) q.id)) := Lib.hid (KX2.out.below hB KX2.out.lt)
            have XX3 : Hid (StAt X3 w.heap.size gx s a n cap) := Lib.hid (XX2.out.keep hB)
            have ZX3 : Hid (Blk X3 gN 31 [.int .u32 0, .int .u64 0, .int .u64 0, .int .u64 0, .int .u64 0, .int .u64 0, .slice none 0 0]) := Lib.hid (hZ)
            clear BX2 PX2 MX2 KX2 XX2 hB hZ
            refine hK.out _ _ (⟨PX3.out, KX3.out, XX3.out⟩) (fun hHeld => ?_)
            clear hK K
            show wpAnyH _ _ _ _ _ _ _ (Act.put _ (some 12) _) _
            simp only [Act.put, List.setIfInBounds_toArray, List.set_cons_zero, List.set_cons_succ]
            refine wpAnyH_ready (rs := [8]) (by kernel_rfl) (by simp) ?_
            refine AllReadyH.cons rfl (fun K hK => ?_) AllReadyH.nil
            refine step_call rfl 24 #[.tmp 46, .tmp 47, .tmp 51, .tmp 53] #[31, 24, 36, 62] rfl #[.agg #[.int .u32 s.ch, .int .u64 s.rd, .int .u64 s.m0, .int .u64 s.m1, .int .u64 s.t0, .int .u64 s.t1, .slice a n cap], .agg #[.int .u64 p0, .int .u64 p1], .int .i64 T, .agg (ocells q.k q.amt (q.c.by_ T) q.id).toArray] (by simp [Act.eval]) (by go_simp) (HNX.out X3 XX3.out.row) ?_
            rintro e X4 ⟨aN, nN, cN, rfl, hR, hlen, hB⟩
            have HLEN := Lib.hid hlen
            have BX4 : Hid (Below w.heap.size w X4) := Lib.hid (BX3.out.trans (hB.mono BX3.out.size))
            have PX4 : Hid (Blk X4 gp 24 [.int .u64 p0, .int .u64 p1]) := Lib.hid (PX3.out.below hB PX3.out.lt)
            have MX4 : Hid (Blk X4 gm 24 [.int .u64 m0, .int .u64 m1]) := Lib.hid (MX3.out.below hB MX3.out.lt)
            have KX4 : Hid (Blk X4 gq 55 (ocells q.k q.amt (q.c.by_ T) q.id)) := Lib.hid (KX3.out.below hB KX3.out.lt)
            have XX4 : Hid (StAt X4 w.heap.size gx s a n cap) := Lib.hid (XX3.out.keep hB)
            have ZX4 : Hid (Blk X4 gN 31 [.int .u32 0, .int .u64 0, .int .u64 0, .int .u64 0, .int .u64 0, .int .u64 0, .slice none 0 0]) := Lib.hid (ZX3.out.below hB ZX3.out.lt)
            have RX4 : Hid (X4.ownsRow w.heap.size 60 36 (.slice aN nN cN) nN (cflat SS.cs)) := Lib.hid (own_mono hR BX3.out.size)
            clear BX3 PX3 MX3 KX3 XX3 ZX3 hB hR hlen
            refine ⟨_, rfl, hK.out _ _ (⟨PX4.out, KX4.out, XX4.out⟩) (fun hHeld => ?_)⟩
            clear hK K
            show wpAnyH _ _ _ _ _ _ _ (Act.put _ (some 54) _) _
            simp only [Act.put, List.setIfInBounds_toArray, List.set_cons_zero, List.set_cons_succ]
            refine wpAnyH_take (i := 9) (v := .tuple #[.agg #[.int .u32 SS.ch, .int .u64 SS.rd, .int .u64 SS.m0, .int .u64 SS.m1, .int .u64 SS.t0, .int .u64 SS.t1, .slice aN nN cN], .int .i64 E1]) rfl (by kernel_rfl) (by kernel_rfl) (by kernel_rfl) (fun _ _ _ h => h) (Or.inl ⟨by rfl, fun w _ => by rfl⟩) hHeld ?_
            show wpAnyH _ _ _ _ _ _ _ (Act.put _ (some 45) _) _
            simp only [Act.put, List.setIfInBounds_toArray, List.set_cons_zero, List.set_cons_succ]
            refine wpAnyH_take (i := 10) (v := .agg #[.int .u32 SS.ch, .int .u64 SS.rd, .int .u64 SS.m0, .int .u64 SS.m1, .int .u64 SS.t0, .int .u64 SS.t1, .slice aN nN cN]) rfl (by kernel_rfl) (by kernel_rfl) (by kernel_rfl) (fun _ _ _ h => h) (Or.inl ⟨by rfl, by intro w' h; go_simp⟩) hHeld ?_
            show wpAnyH _ _ _ _ _ _ _ (Act.put _ (some 55) _) _
            simp only [Act.put, List.setIfInBounds_toArray, List.set_cons_zero, List.set_cons_succ]
            refine wpAnyH_take (i := 11) (v := .int .i64 E1) rfl (by kernel_rfl) (by kernel_rfl) (by kernel_rfl) (fun _ _ _ h => h) (Or.inl ⟨by rfl, by intro w' h; go_simp⟩) hHeld ?_
            show wpAnyH _ _ _ _ _ _ _ (Act.put _ (some 56) _) _
            simp only [Act.put, List.setIfInBounds_toArray, List.set_cons_zero, List.set_cons_succ]
            refine wpAnyH_ready (rs := [13]) (by kernel_rfl) (by simp) ?_
            refine AllReadyH.cons rfl (fun K hK => ?_) AllReadyH.nil
            refine step_store rfl 31 (.tmp 12) (.tmp 55) rfl gN [.int .u32 SS.ch, .int .u64 SS.rd, .int .u64 SS.m0, .int .u64 SS.m1, .int .u64 SS.t0, .int .u64 SS.t1, .slice aN nN cN] rfl rfl 31 _ ZX4.out info31 rfl (by simp [Value.oneCell']) ?_
            intro X5 hZ hO
            have hKW : ∀ q, some gN = some q → w.heap.size ≤ q := fun q hq => by injection hq with hq; have := HGN.out; omega
            have hnP : some gp ≠ some gN := fun e => by injection e with e; have := HGN.out; omega
            have hnM : some gm ≠ some gN := fun e => by injection e with e; have := HGN.out; omega
            have hnK : some gq ≠ some gN := fun e => by injection e with e; have := HGN.out; omega
            have hnX : gx ≠ gN := fun e => by have := HGN.out; omega
            have BX5 : Hid (Below w.heap.size w X5) := Lib.hid (BX4.out.grown hO BX4.out.size hKW)
            have PX5 : Hid (Blk X5 gp 24 [.int .u64 p0, .int .u64 p1]) := Lib.hid (PX4.out.grown hO hnP)
            have MX5 : Hid (Blk X5 gm 24 [.int .u64 m0, .int .u64 m1]) := Lib.hid (MX4.out.grown hO hnM)
            have KX5 : Hid (Blk X5 gq 55 (ocells q.k q.amt (q.c.by_ T) q.id)) := Lib.hid (KX4.out.grown hO hnK)
            have XX5 : Hid (StAt X5 w.heap.size gx s a n cap) := Lib.hid (XX4.out.other hO hnX ZX4.out (by decide))
            have RX5 : Hid (X5.ownsRow w.heap.size 60 36 (.slice aN nN cN) nN (cflat SS.cs)) := Lib.hid (RX4.out.kept hO (.inr (fun e => own_ne RX4.out ZX4.out (by decide) e.symm)))
            have ZX5 : Hid (Blk X5 gN 31 [.int .u32 SS.ch, .int .u64 SS.rd, .int .u64 SS.m0, .int .u64 SS.m1, .int .u64 SS.t0, .int .u64 SS.t1, .slice aN nN cN]) := Lib.hid (hZ)
            clear BX4 PX4 MX4 KX4 XX4 RX4 hZ hO hKW ZX4 hnP hnM hnK hnX
            refine hK.out _ _ (⟨PX5.out, KX5.out, XX5.out⟩) (fun hHeld => ?_)
            clear hK K
            show wpAnyH _ _ _ _ _ _ _ (Act.put _ none _) _
            simp only [Act.put]
            refine wpAnyH_take (i := 14) (v := .int .i64 E1) rfl (by kernel_rfl) (by kernel_rfl) (by kernel_rfl) (fun _ _ _ h => h) (Or.inl ⟨by rfl, fun w _ => by rfl⟩) hHeld ?_
            show wpAnyH _ _ _ _ _ _ _ (Act.put _ (some 13) _) _
            simp only [Act.put, List.setIfInBounds_toArray, List.set_cons_zero, List.set_cons_succ]
            refine wpAnyH_done (by kernel_rfl) ?_ _
            go_wp2
            go_meet
            exact ⟨gN, aN, nN, cN, rfl, rfl, BX5, PX5, MX5, KX5, XX5, Lib.hid ⟨ZX5.out, RX5.out, HSO.out, HLEN.out⟩, HGN⟩
        · refine step_new rfl 31 rfl #[.int .u32 0, .int .u64 0, .int .u64 0, .int .u64 0, .int .u64 0, .int .u64 0, .slice none 0 0] (.pointer (some ⟨X0.heap.size, 0, none⟩)) (by kernel_rfl) ?_
          have hB : Below X0.heap.size X0 (X0.alloc (.cells #[.int .u32 0, .int .u64 0, .int .u64 0, .int .u64 0, .int .u64 0, .int .u64 0, .slice none 0 0] 31)) := (Below.refl _ _).alloc (Nat.le_refl _) _
          have hZ := Blk.new X0 31 [.int .u32 0, .int .u64 0, .int .u64 0, .int .u64 0, .int .u64 0, .int .u64 0, .slice none 0 0]
          generalize X0.alloc (.cells #[.int .u32 0, .int .u64 0, .int .u64 0, .int .u64 0, .int .u64 0, .int .u64 0, .slice none 0 0] 31) = X2 at hB hZ ⊢
          obtain ⟨gN, hgN⟩ : ∃ q, X0.heap.size = q := ⟨_, rfl⟩
          have HGN : Hid (w.heap.size ≤ gN ∧ gp < gN ∧ gm < gN ∧ gq < gN ∧ gx < gN) := Lib.hid ⟨by have := BX0.out.size; omega, by have := PX0.out.lt; omega, by have := MX0.out.lt; omega, by have := KX0.out.lt; omega, by have := XX0.out.blk.lt; omega⟩
          rw [hgN] at hZ ⊢
          clear hgN
          have BX2 : Hid (Below w.heap.size w X2) := Lib.hid (BX0.out.trans (hB.mono BX0.out.size))
          have PX2 : Hid (Blk X2 gp 24 [.int .u64 p0, .int .u64 p1]) := Lib.hid (PX0.out.below hB PX0.out.lt)
          have MX2 : Hid (Blk X2 gm 24 [.int .u64 m0, .int .u64 m1]) := Lib.hid (MX0.out.below hB MX0.out.lt)
          have KX2 : Hid (Blk X2 gq 55 (ocells q.k q.amt (q.c.by_ T) q.id)) := Lib.hid (KX0.out.below hB KX0.out.lt)
          have XX2 : Hid (StAt X2 w.heap.size gx s a n cap) := Lib.hid (XX0.out.keep hB)
          have ZX2 : Hid (Blk X2 gN 31 [.int .u32 0, .int .u64 0, .int .u64 0, .int .u64 0, .int .u64 0, .int .u64 0, .slice none 0 0]) := Lib.hid (hZ)
          clear BX0 PX0 MX0 KX0 XX0 hB hZ
          refine hK.out _ _ (⟨PX2.out, KX2.out, XX2.out⟩) (fun hHeld => ?_)
          clear hK K
          show wpAnyH _ _ _ _ _ _ _ (Act.put _ (some 12) _) _
          simp only [Act.put, List.setIfInBounds_toArray, List.set_cons_zero, List.set_cons_succ]
          refine wpAnyH_ready (rs := [7]) (by kernel_rfl) (by simp) ?_
          refine AllReadyH.cons rfl (fun K hK => ?_) AllReadyH.nil
          refine step_call rfl 25 #[.tmp 52] #[55] rfl #[.agg (ocells q.k q.amt (q.c.by_ T) q.id).toArray] (by simp [Act.eval]) (by go_simp) (op_any q.k q.amt q.id (q.c.by_ T) X2 (HOK.out.c.by_ T)) ?_
          rintro e X3 ⟨rfl, hB⟩
          have BX3 : Hid (Below w.heap.size w X3) := Lib.hid (BX2.out.trans (hB.mono BX2.out.size))
          have PX3 : Hid (Blk X3 gp 24 [.int .u64 p0, .int .u64 p1]) := Lib.hid (PX2.out.below hB PX2.out.lt)
          have MX3 : Hid (Blk X3 gm 24 [.int .u64 m0, .int .u64 m1]) := Lib.hid (MX2.out.below hB MX2.out.lt)
          have KX3 : Hid (Blk X3 gq 55 (ocells q.k q.amt (q.c.by_ T) q.id)) := Lib.hid (KX2.out.below hB KX2.out.lt)
          have XX3 : Hid (StAt X3 w.heap.size gx s a n cap) := Lib.hid (XX2.out.keep hB)
          have ZX3 : Hid (Blk X3 gN 31 [.int .u32 0, .int .u64 0, .int .u64 0, .int .u64 0, .int .u64 0, .int .u64 0, .slice none 0 0]) := Lib.hid (ZX2.out.below hB ZX2.out.lt)
          clear BX2 PX2 MX2 KX2 XX2 ZX2 hB
          refine ⟨_, rfl, hK.out _ _ (⟨PX3.out, KX3.out, XX3.out⟩) (fun hHeld => ?_)⟩
          clear hK K
          show wpAnyH _ _ _ _ _ _ _ (Act.put _ (some 53) _) _
          simp only [Act.put, List.setIfInBounds_toArray, List.set_cons_zero, List.set_cons_succ]
          refine wpAnyH_ready (rs := [8]) (by kernel_rfl) (by simp) ?_
          refine AllReadyH.cons rfl (fun K hK => ?_) AllReadyH.nil
          refine step_call rfl 24 #[.tmp 46, .tmp 47, .tmp 51, .tmp 53] #[31, 24, 36, 62] rfl #[.agg #[.int .u32 s.ch, .int .u64 s.rd, .int .u64 s.m0, .int .u64 s.m1, .int .u64 s.t0, .int .u64 s.t1, .slice a n cap], .agg #[.int .u64 p0, .int .u64 p1], .int .i64 T, .agg (ocells q.k q.amt (q.c.by_ T) q.id).toArray] (by simp [Act.eval]) (by go_simp) (HNX.out X3 XX3.out.row) ?_
          rintro e X4 ⟨aN, nN, cN, rfl, hR, hlen, hB⟩
          have HLEN := Lib.hid hlen
          have BX4 : Hid (Below w.heap.size w X4) := Lib.hid (BX3.out.trans (hB.mono BX3.out.size))
          have PX4 : Hid (Blk X4 gp 24 [.int .u64 p0, .int .u64 p1]) := Lib.hid (PX3.out.below hB PX3.out.lt)
          have MX4 : Hid (Blk X4 gm 24 [.int .u64 m0, .int .u64 m1]) := Lib.hid (MX3.out.below hB MX3.out.lt)
          have KX4 : Hid (Blk X4 gq 55 (ocells q.k q.amt (q.c.by_ T) q.id)) := Lib.hid (KX3.out.below hB KX3.out.lt)
          have XX4 : Hid (StAt X4 w.heap.size gx s a n cap) := Lib.hid (XX3.out.keep hB)
          have ZX4 : Hid (Blk X4 gN 31 [.int .u32 0, .int .u64 0, .int .u64 0, .int .u64 0, .int .u64 0, .int .u64 0, .slice none 0 0]) := Lib.hid (ZX3.out.below hB ZX3.out.lt)
          have RX4 : Hid (X4.ownsRow w.heap.size 60 36 (.slice aN nN cN) nN (cflat SS.cs)) := Lib.hid (own_mono hR BX3.out.size)
          clear BX3 PX3 MX3 KX3 XX3 ZX3 hB hR hlen
          refine ⟨_, rfl, hK.out _ _ (⟨PX4.out, KX4.out, XX4.out⟩) (fun hHeld => ?_)⟩
          clear hK K
          show wpAnyH _ _ _ _ _ _ _ (Act.put _ (some 54) _) _
          simp only [Act.put, List.setIfInBounds_toArray, List.set_cons_zero, List.set_cons_succ]
          refine wpAnyH_take (i := 9) (v := .tuple #[.agg #[.int .u32 SS.ch, .int .u64 SS.rd, .int .u64 SS.m0, .int .u64 SS.m1, .int .u64 SS.t0, .int .u64 SS.t1, .slice aN nN cN], .int .i64 E1]) rfl (by kernel_rfl) (by kernel_rfl) (by kernel_rfl) (fun _ _ _ h => h) (Or.inl ⟨by rfl, fun w _ => by rfl⟩) hHeld ?_
          show wpAnyH _ _ _ _ _ _ _ (Act.put _ (some 45) _) _
          simp only [Act.put, List.setIfInBounds_toArray, List.set_cons_zero, List.set_cons_succ]
          refine wpAnyH_take (i := 10) (v := .agg #[.int .u32 SS.ch, .int .u64 SS.rd, .int .u64 SS.m0, .int .u64 SS.m1, .int .u64 SS.t0, .int .u64 SS.t1, .slice aN nN cN]) rfl (by kernel_rfl) (by kernel_rfl) (by kernel_rfl) (fun _ _ _ h => h) (Or.inl ⟨by rfl, by intro w' h; go_simp⟩) hHeld ?_
          show wpAnyH _ _ _ _ _ _ _ (Act.put _ (some 55) _) _
          simp only [Act.put, List.setIfInBounds_toArray, List.set_cons_zero, List.set_cons_succ]
          refine wpAnyH_take (i := 11) (v := .int .i64 E1) rfl (by kernel_rfl) (by kernel_rfl) (by kernel_rfl) (fun _ _ _ h => h) (Or.inl ⟨by rfl, by intro w' h; go_simp⟩) hHeld ?_
          show wpAnyH _ _ _ _ _ _ _ (Act.put _ (some 56) _) _
          simp only [Act.put, List.setIfInBounds_toArray, List.set_cons_zero, List.set_cons_succ]
          refine wpAnyH_ready (rs := [13]) (by kernel_rfl) (by simp) ?_
          refine AllReadyH.cons rfl (fun K hK => ?_) AllReadyH.nil
          refine step_store rfl 31 (.tmp 12) (.tmp 55) rfl gN [.int .u32 SS.ch, .int .u64 SS.rd, .int .u64 SS.m0, .int .u64 SS.m1, .int .u64 SS.t0, .int .u64 SS.t1, .slice aN nN cN] rfl rfl 31 _ ZX4.out info31 rfl (by simp [Value.oneCell']) ?_
          intro X5 hZ hO
          have hKW : ∀ q, some gN = some q → w.heap.size ≤ q := fun q hq => by injection hq with hq; have := HGN.out; omega
          have hnP : some gp ≠ some gN := fun e => by injection e with e; have := HGN.out; omega
          have hnM : some gm ≠ some gN := fun e => by injection e with e; have := HGN.out; omega
          have hnK : some gq ≠ some gN := fun e => by injection e with e; have := HGN.out; omega
          have hnX : gx ≠ gN := fun e => by have := HGN.out; omega
          have BX5 : Hid (Below w.heap.size w X5) := Lib.hid (BX4.out.grown hO BX4.out.size hKW)
          have PX5 : Hid (Blk X5 gp 24 [.int .u64 p0, .int .u64 p1]) := Lib.hid (PX4.out.grown hO hnP)
          have MX5 : Hid (Blk X5 gm 24 [.int .u64 m0, .int .u64 m1]) := Lib.hid (MX4.out.grown hO hnM)
          have KX5 : Hid (Blk X5 gq 55 (ocells q.k q.amt (q.c.by_ T) q.id)) := Lib.hid (KX4.out.grown hO hnK)
          have XX5 : Hid (StAt X5 w.heap.size gx s a n cap) := Lib.hid (XX4.out.other hO hnX ZX4.out (by decide))
          have RX5 : Hid (X5.ownsRow w.heap.size 60 36 (.slice aN nN cN) nN (cflat SS.cs)) := Lib.hid (RX4.out.kept hO (.inr (fun e => own_ne RX4.out ZX4.out (by decide) e.symm)))
          have ZX5 : Hid (Blk X5 gN 31 [.int .u32 SS.ch, .int .u64 SS.rd, .int .u64 SS.m0, .int .u64 SS.m1, .int .u64 SS.t0, .int .u64 SS.t1, .slice aN nN cN]) := Lib.hid (hZ)
          clear BX4 PX4 MX4 KX4 XX4 RX4 hZ hO hKW ZX4 hnP hnM hnK hnX
          refine hK.out _ _ (⟨PX5.out, KX5.out, XX5.out⟩) (fun hHeld => ?_)
          clear hK K
          show wpAnyH _ _ _ _ _ _ _ (Act.put _ none _) _
          simp only [Act.put]
          refine wpAnyH_take (i := 14) (v := .int .i64 E1) rfl (by kernel_rfl) (by kernel_rfl) (by kernel_rfl) (fun _ _ _ h => h) (Or.inl ⟨by rfl, fun w _ => by rfl⟩) hHeld ?_
          show wpAnyH _ _ _ _ _ _ _ (Act.put _ (some 13) _) _
          simp only [Act.put, List.setIfInBounds_toArray, List.set_cons_zero, List.set_cons_succ]
          refine wpAnyH_done (by kernel_rfl) ?_ _
          go_wp2
          go_meet
          exact ⟨gN, aN, nN, cN, rfl, rfl, BX5, PX5, MX5, KX5, XX5, Lib.hid ⟨ZX5.out, RX5.out, HSO.out, HLEN.out⟩, HGN⟩
      · refine step_new rfl 31 rfl #[.int .u32 0, .int .u64 0, .int .u64 0, .int .u64 0, .int .u64 0, .int .u64 0, .slice none 0 0] (.pointer (some ⟨X0.heap.size, 0, none⟩)) (by kernel_rfl) ?_
        have hB : Below X0.heap.size X0 (X0.alloc (.cells #[.int .u32 0, .int .u64 0, .int .u64 0, .int .u64 0, .int .u64 0, .int .u64 0, .slice none 0 0] 31)) := (Below.refl _ _).alloc (Nat.le_refl _) _
        have hZ := Blk.new X0 31 [.int .u32 0, .int .u64 0, .int .u64 0, .int .u64 0, .int .u64 0, .int .u64 0, .slice none 0 0]
        generalize X0.alloc (.cells #[.int .u32 0, .int .u64 0, .int .u64 0, .int .u64 0, .int .u64 0, .int .u64 0, .slice none 0 0] 31) = X1 at hB hZ ⊢
        obtain ⟨gN, hgN⟩ : ∃ q, X0.heap.size = q := ⟨_, rfl⟩
        have HGN : Hid (w.heap.size ≤ gN ∧ gp < gN ∧ gm < gN ∧ gq < gN ∧ gx < gN) := Lib.hid ⟨by have := BX0.out.size; omega, by have := PX0.out.lt; omega, by have := MX0.out.lt; omega, by have := KX0.out.lt; omega, by have := XX0.out.blk.lt; omega⟩
        rw [hgN] at hZ ⊢
        clear hgN
        have BX1 : Hid (Below w.heap.size w X1) := Lib.hid (BX0.out.trans (hB.mono BX0.out.size))
        have PX1 : Hid (Blk X1 gp 24 [.int .u64 p0, .int .u64 p1]) := Lib.hid (PX0.out.below hB PX0.out.lt)
        have MX1 : Hid (Blk X1 gm 24 [.int .u64 m0, .int .u64 m1]) := Lib.hid (MX0.out.below hB MX0.out.lt)
        have KX1 : Hid (Blk X1 gq 55 (ocells q.k q.amt (q.c.by_ T) q.id)) := Lib.hid (KX0.out.below hB KX0.out.lt)
        have XX1 : Hid (StAt X1 w.heap.size gx s a n cap) := Lib.hid (XX0.out.keep hB)
        have ZX1 : Hid (Blk X1 gN 31 [.int .u32 0, .int .u64 0, .int .u64 0, .int .u64 0, .int .u64 0, .int .u64 0, .slice none 0 0]) := Lib.hid (hZ)
        clear BX0 PX0 MX0 KX0 XX0 hB hZ
        refine hK.out _ _ (⟨PX1.out, KX1.out, XX1.out⟩) (fun hHeld => ?_)
        clear hK K
        show wpAnyH _ _ _ _ _ _ _ (Act.put _ (some 12) _) _
        simp only [Act.put, List.setIfInBounds_toArray, List.set_cons_zero, List.set_cons_succ]
        refine wpAnyH_ready (rs := [5]) (by kernel_rfl) (by simp) ?_
        refine AllReadyH.cons rfl (fun K hK => ?_) AllReadyH.nil
        refine step_call rfl 22 #[.tmp 50] #[23] rfl #[.int .u64 (IntKind.u64.wrap (s.rd + 1))] (by simp [Act.eval]) (by go_simp) (HT1.out X1) ?_
        rintro e X2 ⟨rfl, rfl⟩
        refine ⟨_, rfl, hK.out _ _ (⟨PX1.out, KX1.out, XX1.out⟩) (fun hHeld => ?_)⟩
        clear hK K
        show wpAnyH _ _ _ _ _ _ _ (Act.put _ (some 51) _) _
        simp only [Act.put, List.setIfInBounds_toArray, List.set_cons_zero, List.set_cons_succ]
        refine wpAnyH_ready (rs := [7]) (by kernel_rfl) (by simp) ?_
        refine AllReadyH.cons rfl (fun K hK => ?_) AllReadyH.nil
        refine step_call rfl 25 #[.tmp 52] #[55] rfl #[.agg (ocells q.k q.amt (q.c.by_ T) q.id).toArray] (by simp [Act.eval]) (by go_simp) (op_any q.k q.amt q.id (q.c.by_ T) X1 (HOK.out.c.by_ T)) ?_
        rintro e X3 ⟨rfl, hB⟩
        have BX3 : Hid (Below w.heap.size w X3) := Lib.hid (BX1.out.trans (hB.mono BX1.out.size))
        have PX3 : Hid (Blk X3 gp 24 [.int .u64 p0, .int .u64 p1]) := Lib.hid (PX1.out.below hB PX1.out.lt)
        have MX3 : Hid (Blk X3 gm 24 [.int .u64 m0, .int .u64 m1]) := Lib.hid (MX1.out.below hB MX1.out.lt)
        have KX3 : Hid (Blk X3 gq 55 (ocells q.k q.amt (q.c.by_ T) q.id)) := Lib.hid (KX1.out.below hB KX1.out.lt)
        have XX3 : Hid (StAt X3 w.heap.size gx s a n cap) := Lib.hid (XX1.out.keep hB)
        have ZX3 : Hid (Blk X3 gN 31 [.int .u32 0, .int .u64 0, .int .u64 0, .int .u64 0, .int .u64 0, .int .u64 0, .slice none 0 0]) := Lib.hid (ZX1.out.below hB ZX1.out.lt)
        clear BX1 PX1 MX1 KX1 XX1 ZX1 hB
        refine ⟨_, rfl, hK.out _ _ (⟨PX3.out, KX3.out, XX3.out⟩) (fun hHeld => ?_)⟩
        clear hK K
        show wpAnyH _ _ _ _ _ _ _ (Act.put _ (some 53) _) _
        simp only [Act.put, List.setIfInBounds_toArray, List.set_cons_zero, List.set_cons_succ]
        refine wpAnyH_ready (rs := [8]) (by kernel_rfl) (by simp) ?_
        refine AllReadyH.cons rfl (fun K hK => ?_) AllReadyH.nil
        refine step_call rfl 24 #[.tmp 46, .tmp 47, .tmp 51, .tmp 53] #[31, 24, 36, 62] rfl #[.agg #[.int .u32 s.ch, .int .u64 s.rd, .int .u64 s.m0, .int .u64 s.m1, .int .u64 s.t0, .int .u64 s.t1, .slice a n cap], .agg #[.int .u64 p0, .int .u64 p1], .int .i64 T, .agg (ocells q.k q.amt (q.c.by_ T) q.id).toArray] (by simp [Act.eval]) (by go_simp) (HNX.out X3 XX3.out.row) ?_
        rintro e X4 ⟨aN, nN, cN, rfl, hR, hlen, hB⟩
        have HLEN := Lib.hid hlen
        have BX4 : Hid (Below w.heap.size w X4) := Lib.hid (BX3.out.trans (hB.mono BX3.out.size))
        have PX4 : Hid (Blk X4 gp 24 [.int .u64 p0, .int .u64 p1]) := Lib.hid (PX3.out.below hB PX3.out.lt)
        have MX4 : Hid (Blk X4 gm 24 [.int .u64 m0, .int .u64 m1]) := Lib.hid (MX3.out.below hB MX3.out.lt)
        have KX4 : Hid (Blk X4 gq 55 (ocells q.k q.amt (q.c.by_ T) q.id)) := Lib.hid (KX3.out.below hB KX3.out.lt)
        have XX4 : Hid (StAt X4 w.heap.size gx s a n cap) := Lib.hid (XX3.out.keep hB)
        have ZX4 : Hid (Blk X4 gN 31 [.int .u32 0, .int .u64 0, .int .u64 0, .int .u64 0, .int .u64 0, .int .u64 0, .slice none 0 0]) := Lib.hid (ZX3.out.below hB ZX3.out.lt)
        have RX4 : Hid (X4.ownsRow w.heap.size 60 36 (.slice aN nN cN) nN (cflat SS.cs)) := Lib.hid (own_mono hR BX3.out.size)
        clear BX3 PX3 MX3 KX3 XX3 ZX3 hB hR hlen
        refine ⟨_, rfl, hK.out _ _ (⟨PX4.out, KX4.out, XX4.out⟩) (fun hHeld => ?_)⟩
        clear hK K
        show wpAnyH _ _ _ _ _ _ _ (Act.put _ (some 54) _) _
        simp only [Act.put, List.setIfInBounds_toArray, List.set_cons_zero, List.set_cons_succ]
        refine wpAnyH_take (i := 9) (v := .tuple #[.agg #[.int .u32 SS.ch, .int .u64 SS.rd, .int .u64 SS.m0, .int .u64 SS.m1, .int .u64 SS.t0, .int .u64 SS.t1, .slice aN nN cN], .int .i64 E1]) rfl (by kernel_rfl) (by kernel_rfl) (by kernel_rfl) (fun _ _ _ h => h) (Or.inl ⟨by rfl, fun w _ => by rfl⟩) hHeld ?_
        show wpAnyH _ _ _ _ _ _ _ (Act.put _ (some 45) _) _
        simp only [Act.put, List.setIfInBounds_toArray, List.set_cons_zero, List.set_cons_succ]
        refine wpAnyH_take (i := 10) (v := .agg #[.int .u32 SS.ch, .int .u64 SS.rd, .int .u64 SS.m0, .int .u64 SS.m1, .int .u64 SS.t0, .int .u64 SS.t1, .slice aN nN cN]) rfl (by kernel_rfl) (by kernel_rfl) (by kernel_rfl) (fun _ _ _ h => h) (Or.inl ⟨by rfl, by intro w' h; go_simp⟩) hHeld ?_
        show wpAnyH _ _ _ _ _ _ _ (Act.put _ (some 55) _) _
        simp only [Act.put, List.setIfInBounds_toArray, List.set_cons_zero, List.set_cons_succ]
        refine wpAnyH_take (i := 11) (v := .int .i64 E1) rfl (by kernel_rfl) (by kernel_rfl) (by kernel_rfl) (fun _ _ _ h => h) (Or.inl ⟨by rfl, by intro w' h; go_simp⟩) hHeld ?_
        show wpAnyH _ _ _ _ _ _ _ (Act.put _ (some 56) _) _
        simp only [Act.put, List.setIfInBounds_toArray, List.set_cons_zero, List.set_cons_succ]
        refine wpAnyH_ready (rs := [13]) (by kernel_rfl) (by simp) ?_
        refine AllReadyH.cons rfl (fun K hK => ?_) AllReadyH.nil
        refine step_store rfl 31 (.tmp 12) (.tmp 55) rfl gN [.int .u32 SS.ch, .int .u64 SS.rd, .int .u64 SS.m0, .int .u64 SS.m1, .int .u64 SS.t0, .int .u64 SS.t1, .slice aN nN cN] rfl rfl 31 _ ZX4.out info31 rfl (by simp [Value.oneCell']) ?_
        intro X5 hZ hO
        have hKW : ∀ q, some gN = some q → w.heap.size ≤ q := fun q hq => by injection hq with hq; have := HGN.out; omega
        have hnP : some gp ≠ some gN := fun e => by injection e with e; have := HGN.out; omega
        have hnM : some gm ≠ some gN := fun e => by injection e with e; have := HGN.out; omega
        have hnK : some gq ≠ some gN := fun e => by injection e with e; have := HGN.out; omega
        have hnX : gx ≠ gN := fun e => by have := HGN.out; omega
        have BX5 : Hid (Below w.heap.size w X5) := Lib.hid (BX4.out.grown hO BX4.out.size hKW)
        have PX5 : Hid (Blk X5 gp 24 [.int .u64 p0, .int .u64 p1]) := Lib.hid (PX4.out.grown hO hnP)
        have MX5 : Hid (Blk X5 gm 24 [.int .u64 m0, .int .u64 m1]) := Lib.hid (MX4.out.grown hO hnM)
        have KX5 : Hid (Blk X5 gq 55 (ocells q.k q.amt (q.c.by_ T) q.id)) := Lib.hid (KX4.out.grown hO hnK)
        have XX5 : Hid (StAt X5 w.heap.size gx s a n cap) := Lib.hid (XX4.out.other hO hnX ZX4.out (by decide))
        have RX5 : Hid (X5.ownsRow w.heap.size 60 36 (.slice aN nN cN) nN (cflat SS.cs)) := Lib.hid (RX4.out.kept hO (.inr (fun e => own_ne RX4.out ZX4.out (by decide) e.symm)))
        have ZX5 : Hid (Blk X5 gN 31 [.int .u32 SS.ch, .int .u64 SS.rd, .int .u64 SS.m0, .int .u64 SS.m1, .int .u64 SS.t0, .int .u64 SS.t1, .slice aN nN cN]) := Lib.hid (hZ)
        clear BX4 PX4 MX4 KX4 XX4 RX4 hZ hO hKW ZX4 hnP hnM hnK hnX
        refine hK.out _ _ (⟨PX5.out, KX5.out, XX5.out⟩) (fun hHeld => ?_)
        clear hK K
        show wpAnyH _ _ _ _ _ _ _ (Act.put _ none _) _
        simp only [Act.put]
        refine wpAnyH_take (i := 14) (v := .int .i64 E1) rfl (by kernel_rfl) (by kernel_rfl) (by kernel_rfl) (fun _ _ _ h => h) (Or.inl ⟨by rfl, fun w _ => by rfl⟩) hHeld ?_
        show wpAnyH _ _ _ _ _ _ _ (Act.put _ (some 13) _) _
        simp only [Act.put, List.setIfInBounds_toArray, List.set_cons_zero, List.set_cons_succ]
        refine wpAnyH_done (by kernel_rfl) ?_ _
        go_wp2
        go_meet
        exact ⟨gN, aN, nN, cN, rfl, rfl, BX5, PX5, MX5, KX5, XX5, Lib.hid ⟨ZX5.out, RX5.out, HSO.out, HLEN.out⟩, HGN⟩
    case rest =>
      clear BE PE ME KE XE HNX HT1
      obtain ⟨gy, aN, nN, cN, rfl, rfl, BJ, PJ, MJ, KJ, XJ, YJ, HGY⟩ := hcut
      generalize wc = J at BJ PJ MJ KJ XJ YJ ⊢
      by_cases h1 : E1 = 0
      case neg =>
        have b1 : (E1 == 0) = false := by simpa using h1
        clear h1
        go_wp2
        refine ⟨⟨k + 1, s, a, n, cap, by omega, by go_num, BJ, PJ, MJ, XJ, HS⟩, ?_⟩
        simp [intOf] <;> omega
      have b1 : (E1 == 0) = true := by simpa using h1
      subst h1
      have HSK := Lib.hid (nextS_ok (s := s) (p0 := p0) (p1 := p1) (T := T) (k := q.k) (amt := q.amt) (c := q.c.by_ T) (id := q.id) HS.out.1 XJ.out.ok HOK.out.amt HE1.out)
      rw [HSS.out] at HSK
      have XK := XJ.out.blk
      have YK := YJ.out.blk
      have s0 := XK.cell 0
      have s1 := XK.cell 1
      have s2 := XK.cell 2
      have s3 := XK.cell 3
      have s4 := XK.cell 4
      have s5 := XK.cell 5
      have s6 := XK.cell 6
      simp only [List.getElem?_cons_zero, List.getElem?_cons_succ] at s0 s1 s2 s3 s4 s5 s6
      have t0 := YK.cell 0
      have t1 := YK.cell 1
      have t2 := YK.cell 2
      have t3 := YK.cell 3
      have t4 := YK.cell 4
      have t5 := YK.cell 5
      have t6 := YK.cell 6
      simp only [List.getElem?_cons_zero, List.getElem?_cons_succ] at t0 t1 t2 t3 t4 t5 t6
      have f0 := XK.frozen 0
      have f1 := XK.frozen 1
      have f2 := XK.frozen 2
      have f3 := XK.frozen 3
      have f4 := XK.frozen 4
      have f5 := XK.frozen 5
      have f6 := XK.frozen 6
      go_wp2
      have hO : J.grownBy (((((((J.setCell ⟨gx, 0, none⟩ (.int .u32 SS.ch)).setCell ⟨gx, 1, none⟩ (.int .u64 SS.rd)).setCell ⟨gx, 2, none⟩ (.int .u64 SS.m0)).setCell ⟨gx, 3, none⟩ (.int .u64 SS.m1)).setCell ⟨gx, 4, none⟩ (.int .u64 SS.t0)).setCell ⟨gx, 5, none⟩ (.int .u64 SS.t1)).setCell ⟨gx, 6, none⟩ (.slice aN nN cN)) (some gx) := (only_setCell (p := ⟨gx, 6, none⟩) (only_setCell (p := ⟨gx, 5, none⟩) (only_setCell (p := ⟨gx, 4, none⟩) (only_setCell (p := ⟨gx, 3, none⟩) (only_setCell (p := ⟨gx, 2, none⟩) (only_setCell (p := ⟨gx, 1, none⟩) (only_setCell (p := ⟨gx, 0, none⟩) (only_refl J (some gx)) (.inl rfl) (.int .u32 SS.ch)) (.inl rfl) (.int .u64 SS.rd)) (.inl rfl) (.int .u64 SS.m0)) (.inl rfl) (.int .u64 SS.m1)) (.inl rfl) (.int .u64 SS.t0)) (.inl rfl) (.int .u64 SS.t1)) (.inl rfl) (.slice aN nN cN))
      have hgx := HGX.out
      refine ⟨⟨k + 1, SS, aN, nN, cN, by omega, by go_num, Lib.hid (BJ.out.grown hO BJ.out.size (fun q hq => by injection hq with hq; omega)), Lib.hid (PJ.out.grown hO (fun e => by injection e with e; omega)), Lib.hid (MJ.out.grown hO (fun e => by injection e with e; omega)), Lib.hid ⟨(((((((XJ.out.blk.set_ 0 _).set_ 1 _).set_ 2 _).set_ 3 _).set_ 4 _).set_ 5 _).set_ 6 _), YJ.out.own.kept hO (.inr (fun e => own_ne YJ.out.own XJ.out.blk (by decide) e.symm)), YJ.out.ok, YJ.out.len⟩, Lib.hid ⟨HSK.out.1, HSK.out.2.1, HSK.out.2.2⟩⟩, ?_⟩
      simp [intOf] <;> omega
set_option maxRecDepth 100000 in
theorem lifted (os : Os) (started : os.Started) (H : Type) (enc : TypeId × Value → H) :
    ReturnsInHanded {} Try.checked os 5 .any (Rows.pactWholeSpec.pre6 enc Try.prog Try.f5 Rows.pactWholeRow.domain false) (Rows.pactWholeSpec.post enc Try.prog Try.f5 false true false false) := by
  refine returnsInHanded_of_change (C := Try.checked) own started (by kernel_rfl) Try.func5
    (ChangeSpec.witness6 (enc := enc) (C := Try.checked) false ⟨#[], #[.agg #[.int .u64 0, .int .u64 0], .agg #[.int .u64 0, .int .u64 0], .slice none 0 0, .slice none 0 0], []⟩ 8 (by kernel_rfl) (by kernel_rfl) (by kernel_rfl) (by kernel_rfl)) ?_
  intro W base args ds gs before hval0 hW hcnd _
  have hval : ∀ (j : Nat) t v, Try.f5.params[j]? = some t → args[j]? = some v → Value.okWide Try.prog W .any base t v := hval0
  have hW' := hW
  obtain ⟨p, q, hA0, hV, rfl, hfz, hnd⟩ := hW
  have hA : DataW.TrodAll enc Try.prog W 0 (fun _ => true) true Try.f5.params.toList args.toList ds p := hA0
  rw [Try.params5] at hA hval
  obtain ⟨v0, vs0, dd0, ds0, p0, q0, hargs, rfl, rfl, h0, r0⟩ := trodAll_cons hA
  obtain ⟨v1, vs1, dd1, ds1, p1, q1, rfl, rfl, rfl, h1, r1⟩ := trodAll_cons r0
  obtain ⟨v2, vs2, dd2, ds2, p2, q2, rfl, rfl, rfl, h2, r2⟩ := trodAll_cons r1
  obtain ⟨v3, vs3, dd3, ds3, p3, q3, rfl, rfl, rfl, h3, r3⟩ := trodAll_cons r2
  obtain ⟨rfl, rfl, rfl⟩ := trodAll_nil r3
  obtain rfl : args = #[v0, v1, v2, v3] := by cases args; simp_all
  obtain ⟨rfl, rfl⟩ := trodVars_none hV
  have kk0 := h0
  have lt0 : ∀ x ∈ p0, x.block < W.heap.size := by obtain ⟨m, hm⟩ := kk0; exact DataW.trod_lt m _ _ _ hm
  obtain ⟨x0, y0, rfl, hx0, hy0⟩ := openPut (hval 0 24 v0 rfl rfl) h0
  have kk1 := h1
  have lt1 : ∀ x ∈ p1, x.block < W.heap.size := by obtain ⟨m, hm⟩ := kk1; exact DataW.trod_lt m _ _ _ hm
  obtain ⟨x1, y1, rfl, hx1, hy1⟩ := openPut (hval 1 24 v1 rfl rfl) h1
  have kk2 := h2
  have lt2 : ∀ x ∈ p2, x.block < W.heap.size := by obtain ⟨m, hm⟩ := kk2; exact DataW.trod_lt m _ _ _ hm
  obtain ⟨A2, n2, cap2, os2, rfl, hl2, hR2, hm2⟩ := openOps (hval 2 68 v2 rfl rfl) h2
  have kk3 := h3
  have lt3 : ∀ x ∈ p3, x.block < W.heap.size := by obtain ⟨m, hm⟩ := kk3; exact DataW.trod_lt m _ _ _ hm
  obtain ⟨A3, n3, cap3, bs3, rfl, hl3, hR3, hm3⟩ := openBools (hval 3 69 v3 rfl rfl) h3
  clear hA0 hval0
  refine Calls.mono (R := (fun e W1 => e = .returned (.bool true) ∧ Below W.heap.size W W1)) ?_ fun e W1 ⟨he, bel⟩ => ?_
  · skip
    exact walk x0 y0 x1 y1 A2 A3 n2 cap2 n3 cap3 os2 bs3 W hR2 hl2 hm2 hR3 hl3 hx0 hy0 hx1 hy1
  subst he
  exact ⟨_, rfl, _, _, _, [], _, [], hW', trodAll_mk1 (shut_bool Try.underlying4 _), (trodAll_cons_mk (Below.trod laidOut (by kernel_rfl) (of_decide_eq_true (by kernel_rfl)) kk0 bel lt0) (trodAll_cons_mk (Below.trod laidOut (by kernel_rfl) (of_decide_eq_true (by kernel_rfl)) kk1 bel lt1) (trodAll_cons_mk (Below.trod laidOut (by kernel_rfl) (of_decide_eq_true (by kernel_rfl)) kk2 bel lt2) (trodAll_cons_mk (Below.trod laidOut (by kernel_rfl) (of_decide_eq_true (by kernel_rfl)) kk3 bel lt3) trodAll_mk0)))), rfl, bel.frame _, fun h => by cases h⟩

theorem proved : Rows.PactWholeSaid :=
  OpenClaim.holds_of_wide 5 Try.f5 rfl rfl rfl rfl rfl rfl rfl ⟨rfl, rfl, rfl, rfl, rfl⟩ rfl rfl rfl rfl rfl (by kernel_rfl) Try.func5 (by kernel_rfl)
    (of_decide_eq_true (by kernel_rfl)) (by unfold Func.isWrapper; first | (rw [if_pos (by decide +kernel)]; kernel_rfl) | (rw [if_neg (by decide +kernel)]; exact ⟨rfl, rfl⟩))
    (fun os started H enc _ => lifted os started H enc)
#print axioms proved
end Go.Proofs.Ytkiifjkcpangfaa.pactWhole
