/-
  The document's lays 27: what an order lays.
-/
import Derived.Test.YtkilajobnlagbaaDoorCodX
import Derived.Test.YtkilajobnlagbaaDoorCodS
namespace Go.Proofs.YtkilajobnlagbaaDoor
open Go.RowKit
set_option linter.unusedVariables false

/-- What an order lays, of the topmost number B and the one below it. -/
def layD (op num : Nat) (fs : List Int) (ps : List Bool) (ht a b : Int) : Int × List Int := laysR op num fs ps ht (if tks op = 1 then b else a) b
def DPost (r : Int × List Int) (w : World) (e : Ending) (w' : World) : Prop :=
  Below w.heap.size w w' ∧ ((r.1 ≠ 0 ∧ e = .returned (.tuple #[.slice none 0 0, .int .i64 r.1])) ∨
    (r.1 = 0 ∧ ((r.2 = [] ∧ e = .returned (.tuple #[.slice none 0 0, .int .i64 0])) ∨
      ∃ g, w.heap.size ≤ g ∧ e = .returned (.tuple #[.slice (some ⟨g, 0, none⟩) r.2.length r.2.length, .int .i64 0]) ∧ Blk w' g 25 (u64s r.2))))
section
variable {w : World} {r : Int × List Int} {bx : Obj}
theorem DPost.bad (x : Int) (h : r.1 = x) (hx : x ≠ 0) : DPost r w (.returned (.tuple #[.slice none 0 0, .int .i64 x])) (w.alloc bx) :=
  ⟨(Below.refl _ _).alloc (Nat.le_refl _) _, .inl ⟨by rw [h]; exact hx, by rw [h]⟩⟩
theorem DPost.none_ (h : r = (0, [])) : DPost r w (.returned (.tuple #[.slice none 0 0, .int .i64 0])) (w.alloc bx) :=
  ⟨(Below.refl _ _).alloc (Nat.le_refl _) _, .inr ⟨by rw [h], .inl ⟨by rw [h], rfl⟩⟩⟩
theorem DPost.one (x : Int) (h : r = (0, [x])) : DPost r w (.returned (.tuple #[.slice (some ⟨w.heap.size + 1, 0, none⟩) 1 1, .int .i64 0])) ((w.alloc bx).alloc (.cells #[.int .u64 x] 25)) := by
  subst h
  refine ⟨up2 _ _, .inr ⟨rfl, .inr ⟨w.heap.size + 1, Nat.le_succ _, rfl, ?_⟩⟩⟩
  have := Blk.new (w.alloc bx) 25 [.int .u64 x]
  rw [World.size_alloc] at this
  exact this
theorem DPost.two (x y : Int) (h : r = (0, [x, y])) : DPost r w (.returned (.tuple #[.slice (some ⟨w.heap.size + 1, 0, none⟩) 2 2, .int .i64 0])) ((w.alloc bx).alloc (.cells #[.int .u64 x, .int .u64 y] 25)) := by
  subst h
  refine ⟨up2 _ _, .inr ⟨rfl, .inr ⟨w.heap.size + 1, Nat.le_succ _, rfl, ?_⟩⟩⟩
  have := Blk.new (w.alloc bx) 25 [.int .u64 x, .int .u64 y]
  rw [World.size_alloc] at this
  exact this
end

set_option maxRecDepth 100000 in
set_option maxHeartbeats 2000000 in
theorem lays_k0 (num : Nat) (fa : Option Addr) (fn fc : Nat) (pa : Option Addr) (pn pc : Nat) (ht a b : Int) (fs : List Int) (ps : List Bool) (w : World) (HF : Hid (FRow w fa fn fs)) (HP : Hid (BRow w pa pn ps)) (hfn : fn ≤ 300) (hpn : pn ≤ 300) (hnum : (num : Int) ≤ 18446744073709551615) (ha : Word a) (hb : Word b) :
    Calls Tryd.prog 27 #[.int .i64 0, .int .u64 (num : Int), wldV fa fn fc pa pn pc ht, .int .u64 a, .int .u64 b] w (DPost (layD 0 num fs ps ht a b) w) := by
  have f0 : (0 : Int) ≤ (fn : Int) := Int.natCast_nonneg _
  have f1 : (fn : Int) ≤ 300 := by omega
  have p0 : (0 : Int) ≤ (pn : Int) := Int.natCast_nonneg _
  have p1 : (pn : Int) ≤ 300 := by omega
  have n0 : (0 : Int) ≤ (num : Int) := Int.natCast_nonneg _
  obtain ⟨a0, a1⟩ := ha
  obtain ⟨b0, b1⟩ := hb
  have hfl := HF.out.len
  have hpl := HP.out.len
  clear hfl hpl
  unfold wldV
  go_enter Tryd.func27, Tryd.ntmps27
  go_wp2
  go_ret2
  exact DPost.none_ rfl

set_option maxRecDepth 100000 in
set_option maxHeartbeats 2000000 in
theorem lays_k11 (num : Nat) (fa : Option Addr) (fn fc : Nat) (pa : Option Addr) (pn pc : Nat) (ht a b : Int) (fs : List Int) (ps : List Bool) (w : World) (HF : Hid (FRow w fa fn fs)) (HP : Hid (BRow w pa pn ps)) (hfn : fn ≤ 300) (hpn : pn ≤ 300) (hnum : (num : Int) ≤ 18446744073709551615) (ha : Word a) (hb : Word b) :
    Calls Tryd.prog 27 #[.int .i64 11, .int .u64 (num : Int), wldV fa fn fc pa pn pc ht, .int .u64 a, .int .u64 b] w (DPost (layD 11 num fs ps ht a b) w) := by
  have f0 : (0 : Int) ≤ (fn : Int) := Int.natCast_nonneg _
  have f1 : (fn : Int) ≤ 300 := by omega
  have p0 : (0 : Int) ≤ (pn : Int) := Int.natCast_nonneg _
  have p1 : (pn : Int) ≤ 300 := by omega
  have n0 : (0 : Int) ≤ (num : Int) := Int.natCast_nonneg _
  obtain ⟨a0, a1⟩ := ha
  obtain ⟨b0, b1⟩ := hb
  have hfl := HF.out.len
  have hpl := HP.out.len
  clear hfl hpl
  unfold wldV
  go_enter Tryd.func27, Tryd.ntmps27
  go_wp2
  go_ret2
  exact DPost.none_ rfl

set_option maxRecDepth 100000 in
set_option maxHeartbeats 2000000 in
theorem lays_k12 (num : Nat) (fa : Option Addr) (fn fc : Nat) (pa : Option Addr) (pn pc : Nat) (ht a b : Int) (fs : List Int) (ps : List Bool) (w : World) (HF : Hid (FRow w fa fn fs)) (HP : Hid (BRow w pa pn ps)) (hfn : fn ≤ 300) (hpn : pn ≤ 300) (hnum : (num : Int) ≤ 18446744073709551615) (ha : Word a) (hb : Word b) :
    Calls Tryd.prog 27 #[.int .i64 12, .int .u64 (num : Int), wldV fa fn fc pa pn pc ht, .int .u64 a, .int .u64 b] w (DPost (layD 12 num fs ps ht a b) w) := by
  have f0 : (0 : Int) ≤ (fn : Int) := Int.natCast_nonneg _
  have f1 : (fn : Int) ≤ 300 := by omega
  have p0 : (0 : Int) ≤ (pn : Int) := Int.natCast_nonneg _
  have p1 : (pn : Int) ≤ 300 := by omega
  have n0 : (0 : Int) ≤ (num : Int) := Int.natCast_nonneg _
  obtain ⟨a0, a1⟩ := ha
  obtain ⟨b0, b1⟩ := hb
  have hfl := HF.out.len
  have hpl := HP.out.len
  clear hfl hpl
  unfold wldV
  go_enter Tryd.func27, Tryd.ntmps27
  go_wp2
  go_ret2
  exact DPost.none_ rfl

set_option maxRecDepth 100000 in
set_option maxHeartbeats 2000000 in
theorem lays_k15 (num : Nat) (fa : Option Addr) (fn fc : Nat) (pa : Option Addr) (pn pc : Nat) (ht a b : Int) (fs : List Int) (ps : List Bool) (w : World) (HF : Hid (FRow w fa fn fs)) (HP : Hid (BRow w pa pn ps)) (hfn : fn ≤ 300) (hpn : pn ≤ 300) (hnum : (num : Int) ≤ 18446744073709551615) (ha : Word a) (hb : Word b) :
    Calls Tryd.prog 27 #[.int .i64 15, .int .u64 (num : Int), wldV fa fn fc pa pn pc ht, .int .u64 a, .int .u64 b] w (DPost (layD 15 num fs ps ht a b) w) := by
  have f0 : (0 : Int) ≤ (fn : Int) := Int.natCast_nonneg _
  have f1 : (fn : Int) ≤ 300 := by omega
  have p0 : (0 : Int) ≤ (pn : Int) := Int.natCast_nonneg _
  have p1 : (pn : Int) ≤ 300 := by omega
  have n0 : (0 : Int) ≤ (num : Int) := Int.natCast_nonneg _
  obtain ⟨a0, a1⟩ := ha
  obtain ⟨b0, b1⟩ := hb
  have hfl := HF.out.len
  have hpl := HP.out.len
  clear hfl hpl
  unfold wldV
  go_enter Tryd.func27, Tryd.ntmps27
  go_wp2
  go_ret2
  exact DPost.none_ rfl

set_option maxRecDepth 100000 in
set_option maxHeartbeats 2000000 in
theorem lays_k1 (num : Nat) (fa : Option Addr) (fn fc : Nat) (pa : Option Addr) (pn pc : Nat) (ht a b : Int) (fs : List Int) (ps : List Bool) (w : World) (HF : Hid (FRow w fa fn fs)) (HP : Hid (BRow w pa pn ps)) (hfn : fn ≤ 300) (hpn : pn ≤ 300) (hnum : (num : Int) ≤ 18446744073709551615) (ha : Word a) (hb : Word b) :
    Calls Tryd.prog 27 #[.int .i64 1, .int .u64 (num : Int), wldV fa fn fc pa pn pc ht, .int .u64 a, .int .u64 b] w (DPost (layD 1 num fs ps ht a b) w) := by
  have f0 : (0 : Int) ≤ (fn : Int) := Int.natCast_nonneg _
  have f1 : (fn : Int) ≤ 300 := by omega
  have p0 : (0 : Int) ≤ (pn : Int) := Int.natCast_nonneg _
  have p1 : (pn : Int) ≤ 300 := by omega
  have n0 : (0 : Int) ≤ (num : Int) := Int.natCast_nonneg _
  obtain ⟨a0, a1⟩ := ha
  obtain ⟨b0, b1⟩ := hb
  have hfl := HF.out.len
  have hpl := HP.out.len
  clear hfl hpl
  unfold wldV
  go_enter Tryd.func27, Tryd.ntmps27
  go_wp2
  go_ret2
  exact DPost.one _ rfl

set_option maxRecDepth 100000 in
set_option maxHeartbeats 2000000 in
theorem lays_k17 (num : Nat) (fa : Option Addr) (fn fc : Nat) (pa : Option Addr) (pn pc : Nat) (ht a b : Int) (fs : List Int) (ps : List Bool) (w : World) (HF : Hid (FRow w fa fn fs)) (HP : Hid (BRow w pa pn ps)) (hfn : fn ≤ 300) (hpn : pn ≤ 300) (hnum : (num : Int) ≤ 18446744073709551615) (ha : Word a) (hb : Word b) :
    Calls Tryd.prog 27 #[.int .i64 17, .int .u64 (num : Int), wldV fa fn fc pa pn pc ht, .int .u64 a, .int .u64 b] w (DPost (layD 17 num fs ps ht a b) w) := by
  have f0 : (0 : Int) ≤ (fn : Int) := Int.natCast_nonneg _
  have f1 : (fn : Int) ≤ 300 := by omega
  have p0 : (0 : Int) ≤ (pn : Int) := Int.natCast_nonneg _
  have p1 : (pn : Int) ≤ 300 := by omega
  have n0 : (0 : Int) ≤ (num : Int) := Int.natCast_nonneg _
  obtain ⟨a0, a1⟩ := ha
  obtain ⟨b0, b1⟩ := hb
  have hfl := HF.out.len
  have hpl := HP.out.len
  clear hfl hpl
  unfold wldV
  go_enter Tryd.func27, Tryd.ntmps27
  go_wp2
  go_ret2
  exact DPost.one _ rfl

set_option maxRecDepth 100000 in
set_option maxHeartbeats 2000000 in
theorem lays_k13 (num : Nat) (fa : Option Addr) (fn fc : Nat) (pa : Option Addr) (pn pc : Nat) (ht a b : Int) (fs : List Int) (ps : List Bool) (w : World) (HF : Hid (FRow w fa fn fs)) (HP : Hid (BRow w pa pn ps)) (hfn : fn ≤ 300) (hpn : pn ≤ 300) (hnum : (num : Int) ≤ 18446744073709551615) (ha : Word a) (hb : Word b) :
    Calls Tryd.prog 27 #[.int .i64 13, .int .u64 (num : Int), wldV fa fn fc pa pn pc ht, .int .u64 a, .int .u64 b] w (DPost (layD 13 num fs ps ht a b) w) := by
  have f0 : (0 : Int) ≤ (fn : Int) := Int.natCast_nonneg _
  have f1 : (fn : Int) ≤ 300 := by omega
  have p0 : (0 : Int) ≤ (pn : Int) := Int.natCast_nonneg _
  have p1 : (pn : Int) ≤ 300 := by omega
  have n0 : (0 : Int) ≤ (num : Int) := Int.natCast_nonneg _
  obtain ⟨a0, a1⟩ := ha
  obtain ⟨b0, b1⟩ := hb
  have hfl := HF.out.len
  have hpl := HP.out.len
  clear hfl hpl
  unfold wldV
  go_enter Tryd.func27, Tryd.ntmps27
  go_wp2
  go_ret2
  exact DPost.two _ _ rfl

set_option maxRecDepth 100000 in
set_option maxHeartbeats 2000000 in
theorem lays_k14 (num : Nat) (fa : Option Addr) (fn fc : Nat) (pa : Option Addr) (pn pc : Nat) (ht a b : Int) (fs : List Int) (ps : List Bool) (w : World) (HF : Hid (FRow w fa fn fs)) (HP : Hid (BRow w pa pn ps)) (hfn : fn ≤ 300) (hpn : pn ≤ 300) (hnum : (num : Int) ≤ 18446744073709551615) (ha : Word a) (hb : Word b) :
    Calls Tryd.prog 27 #[.int .i64 14, .int .u64 (num : Int), wldV fa fn fc pa pn pc ht, .int .u64 a, .int .u64 b] w (DPost (layD 14 num fs ps ht a b) w) := by
  have f0 : (0 : Int) ≤ (fn : Int) := Int.natCast_nonneg _
  have f1 : (fn : Int) ≤ 300 := by omega
  have p0 : (0 : Int) ≤ (pn : Int) := Int.natCast_nonneg _
  have p1 : (pn : Int) ≤ 300 := by omega
  have n0 : (0 : Int) ≤ (num : Int) := Int.natCast_nonneg _
  obtain ⟨a0, a1⟩ := ha
  obtain ⟨b0, b1⟩ := hb
  have hfl := HF.out.len
  have hpl := HP.out.len
  clear hfl hpl
  unfold wldV
  go_enter Tryd.func27, Tryd.ntmps27
  go_wp2
  go_ret2
  exact DPost.two _ _ rfl

set_option maxRecDepth 100000 in
set_option maxHeartbeats 2000000 in
theorem lays_k2n (num : Nat) (fa : Option Addr) (fn fc : Nat) (pa : Option Addr) (pn pc : Nat) (ht a b : Int) (fs : List Int) (ps : List Bool) (w : World) (HF : Hid (FRow w fa fn fs)) (HP : Hid (BRow w pa pn ps)) (hfn : fn ≤ 300) (hpn : pn ≤ 300) (hnum : (num : Int) ≤ 18446744073709551615) (ha : Word a) (hb : Word b) (h : fs.length ≤ num) :
    Calls Tryd.prog 27 #[.int .i64 2, .int .u64 (num : Int), wldV fa fn fc pa pn pc ht, .int .u64 a, .int .u64 b] w (DPost (layD 2 num fs ps ht a b) w) := by
  have f0 : (0 : Int) ≤ (fn : Int) := Int.natCast_nonneg _
  have f1 : (fn : Int) ≤ 300 := by omega
  have p0 : (0 : Int) ≤ (pn : Int) := Int.natCast_nonneg _
  have p1 : (pn : Int) ≤ 300 := by omega
  have n0 : (0 : Int) ≤ (num : Int) := Int.natCast_nonneg _
  obtain ⟨a0, a1⟩ := ha
  obtain ⟨b0, b1⟩ := hb
  have hfl := HF.out.len
  have hpl := HP.out.len
  have d1 : (fn : Int) ≤ (num : Int) := by omega
  have HD : Hid ((layD 2 num fs ps ht a b).1 = 1) := Lib.hid (by unfold layD laysR; simp only []; rw [if_pos h])
  clear hfl hpl h
  unfold wldV
  go_enter Tryd.func27, Tryd.ntmps27
  go_wp2
  go_ret2
  exact DPost.bad 1 HD.out (by decide)

set_option maxRecDepth 100000 in
set_option maxHeartbeats 2000000 in
theorem lays_k2y (num : Nat) (fa : Option Addr) (fn fc : Nat) (pa : Option Addr) (pn pc : Nat) (ht a b : Int) (fs : List Int) (ps : List Bool) (w : World) (HF : Hid (FRow w fa fn fs)) (HP : Hid (BRow w pa pn ps)) (hfn : fn ≤ 300) (hpn : pn ≤ 300) (hnum : (num : Int) ≤ 18446744073709551615) (ha : Word a) (hb : Word b) (h : ¬ fs.length ≤ num) :
    Calls Tryd.prog 27 #[.int .i64 2, .int .u64 (num : Int), wldV fa fn fc pa pn pc ht, .int .u64 a, .int .u64 b] w (DPost (layD 2 num fs ps ht a b) w) := by
  have f0 : (0 : Int) ≤ (fn : Int) := Int.natCast_nonneg _
  have f1 : (fn : Int) ≤ 300 := by omega
  have p0 : (0 : Int) ≤ (pn : Int) := Int.natCast_nonneg _
  have p1 : (pn : Int) ≤ 300 := by omega
  have n0 : (0 : Int) ≤ (num : Int) := Int.natCast_nonneg _
  obtain ⟨a0, a1⟩ := ha
  obtain ⟨b0, b1⟩ := hb
  have hfl := HF.out.len
  have hpl := HP.out.len
  have d1 : ¬ ((fn : Int) ≤ (num : Int)) := by omega
  have d2 : (num : Int) < (fn : Int) := by omega
  have HD : Hid (layD 2 num fs ps ht a b = (0, [fs.getD num 0])) := Lib.hid (by unfold layD laysR; simp only []; rw [if_neg h])
  obtain ⟨bf, off, rfl, hbf, hcf⟩ := HF.out.at_ num (by omega)
  have hc : ∀ ob, (w.alloc ob).cell? ⟨bf, off + num, none⟩ = some (.int .u64 (fs.getD num 0)) := fun ob => by rw [World.cell?_alloc_lt _ _ _ hbf]; exact hcf
  obtain ⟨x, hx⟩ : ∃ x, fs.getD num 0 = x := ⟨_, rfl⟩
  rw [hx] at hc HD
  clear hx hcf hfl hpl h
  unfold wldV
  go_enter Tryd.func27, Tryd.ntmps27
  go_wp2
  go_ret2
  exact DPost.one _ HD.out

set_option maxRecDepth 100000 in
set_option maxHeartbeats 2000000 in
theorem lays_k3y (num : Nat) (fa : Option Addr) (fn fc : Nat) (pa : Option Addr) (pn pc : Nat) (ht a b : Int) (fs : List Int) (ps : List Bool) (w : World) (HF : Hid (FRow w fa fn fs)) (HP : Hid (BRow w pa pn ps)) (hfn : fn ≤ 300) (hpn : pn ≤ 300) (hnum : (num : Int) ≤ 18446744073709551615) (ha : Word a) (hb : Word b) (h : addE a b = 0) :
    Calls Tryd.prog 27 #[.int .i64 3, .int .u64 (num : Int), wldV fa fn fc pa pn pc ht, .int .u64 a, .int .u64 b] w (DPost (layD 3 num fs ps ht a b) w) := by
  have f0 : (0 : Int) ≤ (fn : Int) := Int.natCast_nonneg _
  have f1 : (fn : Int) ≤ 300 := by omega
  have p0 : (0 : Int) ≤ (pn : Int) := Int.natCast_nonneg _
  have p1 : (pn : Int) ≤ 300 := by omega
  have n0 : (0 : Int) ≤ (num : Int) := Int.natCast_nonneg _
  obtain ⟨a0, a1⟩ := ha
  obtain ⟨b0, b1⟩ := hb
  have hfl := HF.out.len
  have hpl := HP.out.len
  have HC := Lib.hid (fun w => radd_any a b w ⟨a0, a1⟩ ⟨b0, b1⟩)
  have HD : Hid (layD 3 num fs ps ht a b = (addE a b, [addV a b])) := Lib.hid rfl
  obtain ⟨E, hE⟩ : ∃ x, addE a b = x := ⟨_, rfl⟩
  obtain ⟨V, hV⟩ : ∃ x, addV a b = x := ⟨_, rfl⟩
  rw [hE, hV] at HC HD
  rw [hE] at h
  clear hE hV hfl hpl
  subst h
  unfold wldV
  go_enter Tryd.func27, Tryd.ntmps27
  go_wp2_with fail
  refine (HC.out _).mono ?_
  rintro e w2 ⟨rfl, rfl⟩
  go_wp2
  go_ret2
  exact DPost.one _ HD.out

set_option maxRecDepth 100000 in
set_option maxHeartbeats 2000000 in
theorem lays_k3n (num : Nat) (fa : Option Addr) (fn fc : Nat) (pa : Option Addr) (pn pc : Nat) (ht a b : Int) (fs : List Int) (ps : List Bool) (w : World) (HF : Hid (FRow w fa fn fs)) (HP : Hid (BRow w pa pn ps)) (hfn : fn ≤ 300) (hpn : pn ≤ 300) (hnum : (num : Int) ≤ 18446744073709551615) (ha : Word a) (hb : Word b) (h : addE a b ≠ 0) :
    Calls Tryd.prog 27 #[.int .i64 3, .int .u64 (num : Int), wldV fa fn fc pa pn pc ht, .int .u64 a, .int .u64 b] w (DPost (layD 3 num fs ps ht a b) w) := by
  have f0 : (0 : Int) ≤ (fn : Int) := Int.natCast_nonneg _
  have f1 : (fn : Int) ≤ 300 := by omega
  have p0 : (0 : Int) ≤ (pn : Int) := Int.natCast_nonneg _
  have p1 : (pn : Int) ≤ 300 := by omega
  have n0 : (0 : Int) ≤ (num : Int) := Int.natCast_nonneg _
  obtain ⟨a0, a1⟩ := ha
  obtain ⟨b0, b1⟩ := hb
  have hfl := HF.out.len
  have hpl := HP.out.len
  have HC := Lib.hid (fun w => radd_any a b w ⟨a0, a1⟩ ⟨b0, b1⟩)
  have HD : Hid (layD 3 num fs ps ht a b = (addE a b, [addV a b])) := Lib.hid rfl
  obtain ⟨E, hE⟩ : ∃ x, addE a b = x := ⟨_, rfl⟩
  obtain ⟨V, hV⟩ : ∃ x, addV a b = x := ⟨_, rfl⟩
  rw [hE, hV] at HC HD
  rw [hE] at h
  clear hE hV hfl hpl
  have HH := Lib.hid h
  unfold wldV
  go_enter Tryd.func27, Tryd.ntmps27
  go_wp2_with fail
  refine (HC.out _).mono ?_
  rintro e w2 ⟨rfl, rfl⟩
  go_wp2
  go_ret2
  exact DPost.bad E (by rw [HD.out]) HH.out

set_option maxRecDepth 100000 in
set_option maxHeartbeats 2000000 in
theorem lays_k4y (num : Nat) (fa : Option Addr) (fn fc : Nat) (pa : Option Addr) (pn pc : Nat) (ht a b : Int) (fs : List Int) (ps : List Bool) (w : World) (HF : Hid (FRow w fa fn fs)) (HP : Hid (BRow w pa pn ps)) (hfn : fn ≤ 300) (hpn : pn ≤ 300) (hnum : (num : Int) ≤ 18446744073709551615) (ha : Word a) (hb : Word b) (h : subE a b = 0) :
    Calls Tryd.prog 27 #[.int .i64 4, .int .u64 (num : Int), wldV fa fn fc pa pn pc ht, .int .u64 a, .int .u64 b] w (DPost (layD 4 num fs ps ht a b) w) := by
  have f0 : (0 : Int) ≤ (fn : Int) := Int.natCast_nonneg _
  have f1 : (fn : Int) ≤ 300 := by omega
  have p0 : (0 : Int) ≤ (pn : Int) := Int.natCast_nonneg _
  have p1 : (pn : Int) ≤ 300 := by omega
  have n0 : (0 : Int) ≤ (num : Int) := Int.natCast_nonneg _
  obtain ⟨a0, a1⟩ := ha
  obtain ⟨b0, b1⟩ := hb
  have hfl := HF.out.len
  have hpl := HP.out.len
  have HC := Lib.hid (fun w => rsub_any a b w ⟨a0, a1⟩ ⟨b0, b1⟩)
  have HD : Hid (layD 4 num fs ps ht a b = (subE a b, [subV a b])) := Lib.hid rfl
  obtain ⟨E, hE⟩ : ∃ x, subE a b = x := ⟨_, rfl⟩
  obtain ⟨V, hV⟩ : ∃ x, subV a b = x := ⟨_, rfl⟩
  rw [hE, hV] at HC HD
  rw [hE] at h
  clear hE hV hfl hpl
  subst h
  unfold wldV
  go_enter Tryd.func27, Tryd.ntmps27
  go_wp2_with fail
  refine (HC.out _).mono ?_
  rintro e w2 ⟨rfl, rfl⟩
  go_wp2
  go_ret2
  exact DPost.one _ HD.out

set_option maxRecDepth 100000 in
set_option maxHeartbeats 2000000 in
theorem lays_k4n (num : Nat) (fa : Option Addr) (fn fc : Nat) (pa : Option Addr) (pn pc : Nat) (ht a b : Int) (fs : List Int) (ps : List Bool) (w : World) (HF : Hid (FRow w fa fn fs)) (HP : Hid (BRow w pa pn ps)) (hfn : fn ≤ 300) (hpn : pn ≤ 300) (hnum : (num : Int) ≤ 18446744073709551615) (ha : Word a) (hb : Word b) (h : subE a b ≠ 0) :
    Calls Tryd.prog 27 #[.int .i64 4, .int .u64 (num : Int), wldV fa fn fc pa pn pc ht, .int .u64 a, .int .u64 b] w (DPost (layD 4 num fs ps ht a b) w) := by
  have f0 : (0 : Int) ≤ (fn : Int) := Int.natCast_nonneg _
  have f1 : (fn : Int) ≤ 300 := by omega
  have p0 : (0 : Int) ≤ (pn : Int) := Int.natCast_nonneg _
  have p1 : (pn : Int) ≤ 300 := by omega
  have n0 : (0 : Int) ≤ (num : Int) := Int.natCast_nonneg _
  obtain ⟨a0, a1⟩ := ha
  obtain ⟨b0, b1⟩ := hb
  have hfl := HF.out.len
  have hpl := HP.out.len
  have HC := Lib.hid (fun w => rsub_any a b w ⟨a0, a1⟩ ⟨b0, b1⟩)
  have HD : Hid (layD 4 num fs ps ht a b = (subE a b, [subV a b])) := Lib.hid rfl
  obtain ⟨E, hE⟩ : ∃ x, subE a b = x := ⟨_, rfl⟩
  obtain ⟨V, hV⟩ : ∃ x, subV a b = x := ⟨_, rfl⟩
  rw [hE, hV] at HC HD
  rw [hE] at h
  clear hE hV hfl hpl
  have HH := Lib.hid h
  unfold wldV
  go_enter Tryd.func27, Tryd.ntmps27
  go_wp2_with fail
  refine (HC.out _).mono ?_
  rintro e w2 ⟨rfl, rfl⟩
  go_wp2
  go_ret2
  exact DPost.bad E (by rw [HD.out]) HH.out

set_option maxRecDepth 100000 in
set_option maxHeartbeats 2000000 in
theorem lays_k5y (num : Nat) (fa : Option Addr) (fn fc : Nat) (pa : Option Addr) (pn pc : Nat) (ht a b : Int) (fs : List Int) (ps : List Bool) (w : World) (HF : Hid (FRow w fa fn fs)) (HP : Hid (BRow w pa pn ps)) (hfn : fn ≤ 300) (hpn : pn ≤ 300) (hnum : (num : Int) ≤ 18446744073709551615) (ha : Word a) (hb : Word b) (h : mulE a b = 0) :
    Calls Tryd.prog 27 #[.int .i64 5, .int .u64 (num : Int), wldV fa fn fc pa pn pc ht, .int .u64 a, .int .u64 b] w (DPost (layD 5 num fs ps ht a b) w) := by
  have f0 : (0 : Int) ≤ (fn : Int) := Int.natCast_nonneg _
  have f1 : (fn : Int) ≤ 300 := by omega
  have p0 : (0 : Int) ≤ (pn : Int) := Int.natCast_nonneg _
  have p1 : (pn : Int) ≤ 300 := by omega
  have n0 : (0 : Int) ≤ (num : Int) := Int.natCast_nonneg _
  obtain ⟨a0, a1⟩ := ha
  obtain ⟨b0, b1⟩ := hb
  have hfl := HF.out.len
  have hpl := HP.out.len
  have HC := Lib.hid (fun w => rmul_any a b w ⟨a0, a1⟩ ⟨b0, b1⟩)
  have HD : Hid (layD 5 num fs ps ht a b = (mulE a b, [mulV a b])) := Lib.hid rfl
  obtain ⟨E, hE⟩ : ∃ x, mulE a b = x := ⟨_, rfl⟩
  obtain ⟨V, hV⟩ : ∃ x, mulV a b = x := ⟨_, rfl⟩
  rw [hE, hV] at HC HD
  rw [hE] at h
  clear hE hV hfl hpl
  subst h
  unfold wldV
  go_enter Tryd.func27, Tryd.ntmps27
  go_upto_region 15 with fail
  have hB0 : Below w.heap.size w (w.alloc (.cells #[.slice fa fn fc, .slice pa pn pc, .int .u64 ht] 27)) := (Below.refl _ _).alloc (Nat.le_refl _) _
  have B0 := Lib.hid hB0
  clear hB0
  generalize w.alloc (.cells #[.slice fa fn fc, .slice pa pn pc, .int .u64 ht] 27) = w1 at B0 ⊢
  go_wp2_with fail
  refine (HC.out _).mono ?_
  rintro e w2 ⟨rfl, hB⟩
  have B2 := Lib.hid (B0.out.trans (hB.mono B0.out.size))
  clear hB B0
  go_wp2
  go_ret2
  exact ⟨B2.out.alloc B2.out.size _, .inr ⟨by rw [HD.out], .inr ⟨w2.heap.size, B2.out.size, by rw [HD.out]; rfl, by rw [HD.out]; exact Blk.new w2 25 [.int .u64 V]⟩⟩⟩

set_option maxRecDepth 100000 in
set_option maxHeartbeats 2000000 in
theorem lays_k5n (num : Nat) (fa : Option Addr) (fn fc : Nat) (pa : Option Addr) (pn pc : Nat) (ht a b : Int) (fs : List Int) (ps : List Bool) (w : World) (HF : Hid (FRow w fa fn fs)) (HP : Hid (BRow w pa pn ps)) (hfn : fn ≤ 300) (hpn : pn ≤ 300) (hnum : (num : Int) ≤ 18446744073709551615) (ha : Word a) (hb : Word b) (h : mulE a b ≠ 0) :
    Calls Tryd.prog 27 #[.int .i64 5, .int .u64 (num : Int), wldV fa fn fc pa pn pc ht, .int .u64 a, .int .u64 b] w (DPost (layD 5 num fs ps ht a b) w) := by
  have f0 : (0 : Int) ≤ (fn : Int) := Int.natCast_nonneg _
  have f1 : (fn : Int) ≤ 300 := by omega
  have p0 : (0 : Int) ≤ (pn : Int) := Int.natCast_nonneg _
  have p1 : (pn : Int) ≤ 300 := by omega
  have n0 : (0 : Int) ≤ (num : Int) := Int.natCast_nonneg _
  obtain ⟨a0, a1⟩ := ha
  obtain ⟨b0, b1⟩ := hb
  have hfl := HF.out.len
  have hpl := HP.out.len
  have HC := Lib.hid (fun w => rmul_any a b w ⟨a0, a1⟩ ⟨b0, b1⟩)
  have HD : Hid (layD 5 num fs ps ht a b = (mulE a b, [mulV a b])) := Lib.hid rfl
  obtain ⟨E, hE⟩ : ∃ x, mulE a b = x := ⟨_, rfl⟩
  obtain ⟨V, hV⟩ : ∃ x, mulV a b = x := ⟨_, rfl⟩
  rw [hE, hV] at HC HD
  rw [hE] at h
  clear hE hV hfl hpl
  have HH := Lib.hid h
  unfold wldV
  go_enter Tryd.func27, Tryd.ntmps27
  go_upto_region 15 with fail
  have hB0 : Below w.heap.size w (w.alloc (.cells #[.slice fa fn fc, .slice pa pn pc, .int .u64 ht] 27)) := (Below.refl _ _).alloc (Nat.le_refl _) _
  have B0 := Lib.hid hB0
  clear hB0
  generalize w.alloc (.cells #[.slice fa fn fc, .slice pa pn pc, .int .u64 ht] 27) = w1 at B0 ⊢
  go_wp2_with fail
  refine (HC.out _).mono ?_
  rintro e w2 ⟨rfl, hB⟩
  have B2 := Lib.hid (B0.out.trans (hB.mono B0.out.size))
  clear hB B0
  go_wp2
  go_ret2
  exact ⟨B2.out, .inl ⟨by rw [HD.out]; exact HH.out, by rw [HD.out]; rfl⟩⟩

set_option maxRecDepth 100000 in
set_option maxHeartbeats 2000000 in
theorem lays_k6y (num : Nat) (fa : Option Addr) (fn fc : Nat) (pa : Option Addr) (pn pc : Nat) (ht a b : Int) (fs : List Int) (ps : List Bool) (w : World) (HF : Hid (FRow w fa fn fs)) (HP : Hid (BRow w pa pn ps)) (hfn : fn ≤ 300) (hpn : pn ≤ 300) (hnum : (num : Int) ≤ 18446744073709551615) (ha : Word a) (hb : Word b) (h : a < b) :
    Calls Tryd.prog 27 #[.int .i64 6, .int .u64 (num : Int), wldV fa fn fc pa pn pc ht, .int .u64 a, .int .u64 b] w (DPost (layD 6 num fs ps ht a b) w) := by
  have f0 : (0 : Int) ≤ (fn : Int) := Int.natCast_nonneg _
  have f1 : (fn : Int) ≤ 300 := by omega
  have p0 : (0 : Int) ≤ (pn : Int) := Int.natCast_nonneg _
  have p1 : (pn : Int) ≤ 300 := by omega
  have n0 : (0 : Int) ≤ (num : Int) := Int.natCast_nonneg _
  obtain ⟨a0, a1⟩ := ha
  obtain ⟨b0, b1⟩ := hb
  have hfl := HF.out.len
  have hpl := HP.out.len
  have HD : Hid (layD 6 num fs ps ht a b = (0, [one01 true])) := Lib.hid (by unfold layD laysR; simp only []; rw [show (if tks 6 = 1 then b else a) = a from rfl, decide_eq_true h])
  clear hfl hpl
  unfold wldV
  go_enter Tryd.func27, Tryd.ntmps27
  go_wp2_with fail
  refine (one_any' _ _).mono ?_
  rintro e w2 ⟨rfl, rfl⟩
  go_wp2
  go_ret2
  exact DPost.one _ HD.out

set_option maxRecDepth 100000 in
set_option maxHeartbeats 2000000 in
theorem lays_k6n (num : Nat) (fa : Option Addr) (fn fc : Nat) (pa : Option Addr) (pn pc : Nat) (ht a b : Int) (fs : List Int) (ps : List Bool) (w : World) (HF : Hid (FRow w fa fn fs)) (HP : Hid (BRow w pa pn ps)) (hfn : fn ≤ 300) (hpn : pn ≤ 300) (hnum : (num : Int) ≤ 18446744073709551615) (ha : Word a) (hb : Word b) (h : ¬ (a < b)) :
    Calls Tryd.prog 27 #[.int .i64 6, .int .u64 (num : Int), wldV fa fn fc pa pn pc ht, .int .u64 a, .int .u64 b] w (DPost (layD 6 num fs ps ht a b) w) := by
  have f0 : (0 : Int) ≤ (fn : Int) := Int.natCast_nonneg _
  have f1 : (fn : Int) ≤ 300 := by omega
  have p0 : (0 : Int) ≤ (pn : Int) := Int.natCast_nonneg _
  have p1 : (pn : Int) ≤ 300 := by omega
  have n0 : (0 : Int) ≤ (num : Int) := Int.natCast_nonneg _
  obtain ⟨a0, a1⟩ := ha
  obtain ⟨b0, b1⟩ := hb
  have hfl := HF.out.len
  have hpl := HP.out.len
  have HD : Hid (layD 6 num fs ps ht a b = (0, [one01 false])) := Lib.hid (by unfold layD laysR; simp only []; rw [show (if tks 6 = 1 then b else a) = a from rfl, decide_eq_false h])
  clear hfl hpl
  unfold wldV
  go_enter Tryd.func27, Tryd.ntmps27
  go_wp2_with fail
  refine (one_any' _ _).mono ?_
  rintro e w2 ⟨rfl, rfl⟩
  go_wp2
  go_ret2
  exact DPost.one _ HD.out

set_option maxRecDepth 100000 in
set_option maxHeartbeats 2000000 in
theorem lays_k7y (num : Nat) (fa : Option Addr) (fn fc : Nat) (pa : Option Addr) (pn pc : Nat) (ht a b : Int) (fs : List Int) (ps : List Bool) (w : World) (HF : Hid (FRow w fa fn fs)) (HP : Hid (BRow w pa pn ps)) (hfn : fn ≤ 300) (hpn : pn ≤ 300) (hnum : (num : Int) ≤ 18446744073709551615) (ha : Word a) (hb : Word b) (h : a = b) :
    Calls Tryd.prog 27 #[.int .i64 7, .int .u64 (num : Int), wldV fa fn fc pa pn pc ht, .int .u64 a, .int .u64 b] w (DPost (layD 7 num fs ps ht a b) w) := by
  have f0 : (0 : Int) ≤ (fn : Int) := Int.natCast_nonneg _
  have f1 : (fn : Int) ≤ 300 := by omega
  have p0 : (0 : Int) ≤ (pn : Int) := Int.natCast_nonneg _
  have p1 : (pn : Int) ≤ 300 := by omega
  have n0 : (0 : Int) ≤ (num : Int) := Int.natCast_nonneg _
  obtain ⟨a0, a1⟩ := ha
  obtain ⟨b0, b1⟩ := hb
  have hfl := HF.out.len
  have hpl := HP.out.len
  have HD : Hid (layD 7 num fs ps ht a b = (0, [one01 true])) := Lib.hid (by unfold layD laysR; simp only []; rw [show (if tks 7 = 1 then b else a) = a from rfl, decide_eq_true h])
  clear hfl hpl
  unfold wldV
  go_enter Tryd.func27, Tryd.ntmps27
  go_wp2_with fail
  refine (one_any' _ _).mono ?_
  rintro e w2 ⟨rfl, rfl⟩
  go_wp2
  go_ret2
  exact DPost.one _ HD.out

set_option maxRecDepth 100000 in
set_option maxHeartbeats 2000000 in
theorem lays_k7n (num : Nat) (fa : Option Addr) (fn fc : Nat) (pa : Option Addr) (pn pc : Nat) (ht a b : Int) (fs : List Int) (ps : List Bool) (w : World) (HF : Hid (FRow w fa fn fs)) (HP : Hid (BRow w pa pn ps)) (hfn : fn ≤ 300) (hpn : pn ≤ 300) (hnum : (num : Int) ≤ 18446744073709551615) (ha : Word a) (hb : Word b) (h : ¬ (a = b)) :
    Calls Tryd.prog 27 #[.int .i64 7, .int .u64 (num : Int), wldV fa fn fc pa pn pc ht, .int .u64 a, .int .u64 b] w (DPost (layD 7 num fs ps ht a b) w) := by
  have f0 : (0 : Int) ≤ (fn : Int) := Int.natCast_nonneg _
  have f1 : (fn : Int) ≤ 300 := by omega
  have p0 : (0 : Int) ≤ (pn : Int) := Int.natCast_nonneg _
  have p1 : (pn : Int) ≤ 300 := by omega
  have n0 : (0 : Int) ≤ (num : Int) := Int.natCast_nonneg _
  obtain ⟨a0, a1⟩ := ha
  obtain ⟨b0, b1⟩ := hb
  have hfl := HF.out.len
  have hpl := HP.out.len
  have HD : Hid (layD 7 num fs ps ht a b = (0, [one01 false])) := Lib.hid (by unfold layD laysR; simp only []; rw [show (if tks 7 = 1 then b else a) = a from rfl, decide_eq_false h])
  clear hfl hpl
  have e1 : (a == b) = false := by simpa using h
  unfold wldV
  go_enter Tryd.func27, Tryd.ntmps27
  go_wp2_with fail
  refine (one_any' _ _).mono ?_
  rintro e w2 ⟨rfl, rfl⟩
  go_wp2
  go_ret2
  exact DPost.one _ HD.out

set_option maxRecDepth 100000 in
set_option maxHeartbeats 2000000 in
theorem lays_k8y (num : Nat) (fa : Option Addr) (fn fc : Nat) (pa : Option Addr) (pn pc : Nat) (ht a b : Int) (fs : List Int) (ps : List Bool) (w : World) (HF : Hid (FRow w fa fn fs)) (HP : Hid (BRow w pa pn ps)) (hfn : fn ≤ 300) (hpn : pn ≤ 300) (hnum : (num : Int) ≤ 18446744073709551615) (ha : Word a) (hb : Word b) (h : b = 0) :
    Calls Tryd.prog 27 #[.int .i64 8, .int .u64 (num : Int), wldV fa fn fc pa pn pc ht, .int .u64 a, .int .u64 b] w (DPost (layD 8 num fs ps ht a b) w) := by
  have f0 : (0 : Int) ≤ (fn : Int) := Int.natCast_nonneg _
  have f1 : (fn : Int) ≤ 300 := by omega
  have p0 : (0 : Int) ≤ (pn : Int) := Int.natCast_nonneg _
  have p1 : (pn : Int) ≤ 300 := by omega
  have n0 : (0 : Int) ≤ (num : Int) := Int.natCast_nonneg _
  obtain ⟨a0, a1⟩ := ha
  obtain ⟨b0, b1⟩ := hb
  have hfl := HF.out.len
  have hpl := HP.out.len
  have HD : Hid (layD 8 num fs ps ht a b = (0, [one01 true])) := Lib.hid (by unfold layD laysR; simp only []; rw [show (if tks 8 = 1 then b else a) = b from rfl, decide_eq_true h])
  clear hfl hpl
  unfold wldV
  go_enter Tryd.func27, Tryd.ntmps27
  go_wp2_with fail
  refine (one_any' _ _).mono ?_
  rintro e w2 ⟨rfl, rfl⟩
  go_wp2
  go_ret2
  exact DPost.one _ HD.out

set_option maxRecDepth 100000 in
set_option maxHeartbeats 2000000 in
theorem lays_k8n (num : Nat) (fa : Option Addr) (fn fc : Nat) (pa : Option Addr) (pn pc : Nat) (ht a b : Int) (fs : List Int) (ps : List Bool) (w : World) (HF : Hid (FRow w fa fn fs)) (HP : Hid (BRow w pa pn ps)) (hfn : fn ≤ 300) (hpn : pn ≤ 300) (hnum : (num : Int) ≤ 18446744073709551615) (ha : Word a) (hb : Word b) (h : ¬ (b = 0)) :
    Calls Tryd.prog 27 #[.int .i64 8, .int .u64 (num : Int), wldV fa fn fc pa pn pc ht, .int .u64 a, .int .u64 b] w (DPost (layD 8 num fs ps ht a b) w) := by
  have f0 : (0 : Int) ≤ (fn : Int) := Int.natCast_nonneg _
  have f1 : (fn : Int) ≤ 300 := by omega
  have p0 : (0 : Int) ≤ (pn : Int) := Int.natCast_nonneg _
  have p1 : (pn : Int) ≤ 300 := by omega
  have n0 : (0 : Int) ≤ (num : Int) := Int.natCast_nonneg _
  obtain ⟨a0, a1⟩ := ha
  obtain ⟨b0, b1⟩ := hb
  have hfl := HF.out.len
  have hpl := HP.out.len
  have HD : Hid (layD 8 num fs ps ht a b = (0, [one01 false])) := Lib.hid (by unfold layD laysR; simp only []; rw [show (if tks 8 = 1 then b else a) = b from rfl, decide_eq_false h])
  clear hfl hpl
  have e1 : (b == 0) = false := by simpa using h
  unfold wldV
  go_enter Tryd.func27, Tryd.ntmps27
  go_wp2_with fail
  refine (one_any' _ _).mono ?_
  rintro e w2 ⟨rfl, rfl⟩
  go_wp2
  go_ret2
  exact DPost.one _ HD.out

set_option maxRecDepth 100000 in
set_option maxHeartbeats 2000000 in
theorem lays_k900 (num : Nat) (fa : Option Addr) (fn fc : Nat) (pa : Option Addr) (pn pc : Nat) (ht a b : Int) (fs : List Int) (ps : List Bool) (w : World) (HF : Hid (FRow w fa fn fs)) (HP : Hid (BRow w pa pn ps)) (hfn : fn ≤ 300) (hpn : pn ≤ 300) (hnum : (num : Int) ≤ 18446744073709551615) (ha : Word a) (hb : Word b) (h : a = 0) (h2 : b = 0) :
    Calls Tryd.prog 27 #[.int .i64 9, .int .u64 (num : Int), wldV fa fn fc pa pn pc ht, .int .u64 a, .int .u64 b] w (DPost (layD 9 num fs ps ht a b) w) := by
  have f0 : (0 : Int) ≤ (fn : Int) := Int.natCast_nonneg _
  have f1 : (fn : Int) ≤ 300 := by omega
  have p0 : (0 : Int) ≤ (pn : Int) := Int.natCast_nonneg _
  have p1 : (pn : Int) ≤ 300 := by omega
  have n0 : (0 : Int) ≤ (num : Int) := Int.natCast_nonneg _
  obtain ⟨a0, a1⟩ := ha
  obtain ⟨b0, b1⟩ := hb
  have hfl := HF.out.len
  have hpl := HP.out.len
  have HD : Hid (layD 9 num fs ps ht a b = (0, [one01 false])) := Lib.hid (by unfold layD laysR; simp only []; rw [show (if tks 9 = 1 then b else a) = a from rfl]; simp [h, h2])
  have e1 : (a != 0) = false := by simp [h]
  have e2 : (b != 0) = false := by simp [h2]
  clear hfl hpl h h2
  unfold wldV
  go_enter Tryd.func27, Tryd.ntmps27
  go_wp2_with fail
  refine (one_any' _ _).mono ?_
  rintro e w2 ⟨rfl, rfl⟩
  go_wp2
  go_ret2
  exact DPost.one _ HD.out

set_option maxRecDepth 100000 in
set_option maxHeartbeats 2000000 in
theorem lays_k901 (num : Nat) (fa : Option Addr) (fn fc : Nat) (pa : Option Addr) (pn pc : Nat) (ht a b : Int) (fs : List Int) (ps : List Bool) (w : World) (HF : Hid (FRow w fa fn fs)) (HP : Hid (BRow w pa pn ps)) (hfn : fn ≤ 300) (hpn : pn ≤ 300) (hnum : (num : Int) ≤ 18446744073709551615) (ha : Word a) (hb : Word b) (h : a = 0) (h2 : b ≠ 0) :
    Calls Tryd.prog 27 #[.int .i64 9, .int .u64 (num : Int), wldV fa fn fc pa pn pc ht, .int .u64 a, .int .u64 b] w (DPost (layD 9 num fs ps ht a b) w) := by
  have f0 : (0 : Int) ≤ (fn : Int) := Int.natCast_nonneg _
  have f1 : (fn : Int) ≤ 300 := by omega
  have p0 : (0 : Int) ≤ (pn : Int) := Int.natCast_nonneg _
  have p1 : (pn : Int) ≤ 300 := by omega
  have n0 : (0 : Int) ≤ (num : Int) := Int.natCast_nonneg _
  obtain ⟨a0, a1⟩ := ha
  obtain ⟨b0, b1⟩ := hb
  have hfl := HF.out.len
  have hpl := HP.out.len
  have HD : Hid (layD 9 num fs ps ht a b = (0, [one01 false])) := Lib.hid (by unfold layD laysR; simp only []; rw [show (if tks 9 = 1 then b else a) = a from rfl]; simp [h, h2])
  have e1 : (a != 0) = false := by simp [h]
  have e2 : (b != 0) = true := by simp [h2]
  clear hfl hpl h h2
  unfold wldV
  go_enter Tryd.func27, Tryd.ntmps27
  go_wp2_with fail
  refine (one_any' _ _).mono ?_
  rintro e w2 ⟨rfl, rfl⟩
  go_wp2
  go_ret2
  exact DPost.one _ HD.out

set_option maxRecDepth 100000 in
set_option maxHeartbeats 2000000 in
theorem lays_k910 (num : Nat) (fa : Option Addr) (fn fc : Nat) (pa : Option Addr) (pn pc : Nat) (ht a b : Int) (fs : List Int) (ps : List Bool) (w : World) (HF : Hid (FRow w fa fn fs)) (HP : Hid (BRow w pa pn ps)) (hfn : fn ≤ 300) (hpn : pn ≤ 300) (hnum : (num : Int) ≤ 18446744073709551615) (ha : Word a) (hb : Word b) (h : a ≠ 0) (h2 : b = 0) :
    Calls Tryd.prog 27 #[.int .i64 9, .int .u64 (num : Int), wldV fa fn fc pa pn pc ht, .int .u64 a, .int .u64 b] w (DPost (layD 9 num fs ps ht a b) w) := by
  have f0 : (0 : Int) ≤ (fn : Int) := Int.natCast_nonneg _
  have f1 : (fn : Int) ≤ 300 := by omega
  have p0 : (0 : Int) ≤ (pn : Int) := Int.natCast_nonneg _
  have p1 : (pn : Int) ≤ 300 := by omega
  have n0 : (0 : Int) ≤ (num : Int) := Int.natCast_nonneg _
  obtain ⟨a0, a1⟩ := ha
  obtain ⟨b0, b1⟩ := hb
  have hfl := HF.out.len
  have hpl := HP.out.len
  have HD : Hid (layD 9 num fs ps ht a b = (0, [one01 false])) := Lib.hid (by unfold layD laysR; simp only []; rw [show (if tks 9 = 1 then b else a) = a from rfl]; simp [h, h2])
  have e1 : (a != 0) = true := by simp [h]
  have e2 : (b != 0) = false := by simp [h2]
  clear hfl hpl h h2
  unfold wldV
  go_enter Tryd.func27, Tryd.ntmps27
  go_wp2_with fail
  refine (one_any' _ _).mono ?_
  rintro e w2 ⟨rfl, rfl⟩
  go_wp2
  go_ret2
  exact DPost.one _ HD.out

set_option maxRecDepth 100000 in
set_option maxHeartbeats 2000000 in
theorem lays_k911 (num : Nat) (fa : Option Addr) (fn fc : Nat) (pa : Option Addr) (pn pc : Nat) (ht a b : Int) (fs : List Int) (ps : List Bool) (w : World) (HF : Hid (FRow w fa fn fs)) (HP : Hid (BRow w pa pn ps)) (hfn : fn ≤ 300) (hpn : pn ≤ 300) (hnum : (num : Int) ≤ 18446744073709551615) (ha : Word a) (hb : Word b) (h : a ≠ 0) (h2 : b ≠ 0) :
    Calls Tryd.prog 27 #[.int .i64 9, .int .u64 (num : Int), wldV fa fn fc pa pn pc ht, .int .u64 a, .int .u64 b] w (DPost (layD 9 num fs ps ht a b) w) := by
  have f0 : (0 : Int) ≤ (fn : Int) := Int.natCast_nonneg _
  have f1 : (fn : Int) ≤ 300 := by omega
  have p0 : (0 : Int) ≤ (pn : Int) := Int.natCast_nonneg _
  have p1 : (pn : Int) ≤ 300 := by omega
  have n0 : (0 : Int) ≤ (num : Int) := Int.natCast_nonneg _
  obtain ⟨a0, a1⟩ := ha
  obtain ⟨b0, b1⟩ := hb
  have hfl := HF.out.len
  have hpl := HP.out.len
  have HD : Hid (layD 9 num fs ps ht a b = (0, [one01 true])) := Lib.hid (by unfold layD laysR; simp only []; rw [show (if tks 9 = 1 then b else a) = a from rfl]; simp [h, h2])
  have e1 : (a != 0) = true := by simp [h]
  have e2 : (b != 0) = true := by simp [h2]
  clear hfl hpl h h2
  unfold wldV
  go_enter Tryd.func27, Tryd.ntmps27
  go_wp2_with fail
  refine (one_any' _ _).mono ?_
  rintro e w2 ⟨rfl, rfl⟩
  go_wp2
  go_ret2
  exact DPost.one _ HD.out

set_option maxRecDepth 100000 in
set_option maxHeartbeats 2000000 in
theorem lays_k1000 (num : Nat) (fa : Option Addr) (fn fc : Nat) (pa : Option Addr) (pn pc : Nat) (ht a b : Int) (fs : List Int) (ps : List Bool) (w : World) (HF : Hid (FRow w fa fn fs)) (HP : Hid (BRow w pa pn ps)) (hfn : fn ≤ 300) (hpn : pn ≤ 300) (hnum : (num : Int) ≤ 18446744073709551615) (ha : Word a) (hb : Word b) (h : a = 0) (h2 : b = 0) :
    Calls Tryd.prog 27 #[.int .i64 10, .int .u64 (num : Int), wldV fa fn fc pa pn pc ht, .int .u64 a, .int .u64 b] w (DPost (layD 10 num fs ps ht a b) w) := by
  have f0 : (0 : Int) ≤ (fn : Int) := Int.natCast_nonneg _
  have f1 : (fn : Int) ≤ 300 := by omega
  have p0 : (0 : Int) ≤ (pn : Int) := Int.natCast_nonneg _
  have p1 : (pn : Int) ≤ 300 := by omega
  have n0 : (0 : Int) ≤ (num : Int) := Int.natCast_nonneg _
  obtain ⟨a0, a1⟩ := ha
  obtain ⟨b0, b1⟩ := hb
  have hfl := HF.out.len
  have hpl := HP.out.len
  have HD : Hid (layD 10 num fs ps ht a b = (0, [one01 false])) := Lib.hid (by unfold layD laysR; simp only []; rw [show (if tks 10 = 1 then b else a) = a from rfl]; simp [h, h2])
  have e1 : (a != 0) = false := by simp [h]
  have e2 : (b != 0) = false := by simp [h2]
  clear hfl hpl h h2
  unfold wldV
  go_enter Tryd.func27, Tryd.ntmps27
  go_wp2_with fail
  refine (one_any' _ _).mono ?_
  rintro e w2 ⟨rfl, rfl⟩
  go_wp2
  go_ret2
  exact DPost.one _ HD.out

set_option maxRecDepth 100000 in
set_option maxHeartbeats 2000000 in
theorem lays_k1001 (num : Nat) (fa : Option Addr) (fn fc : Nat) (pa : Option Addr) (pn pc : Nat) (ht a b : Int) (fs : List Int) (ps : List Bool) (w : World) (HF : Hid (FRow w fa fn fs)) (HP : Hid (BRow w pa pn ps)) (hfn : fn ≤ 300) (hpn : pn ≤ 300) (hnum : (num : Int) ≤ 18446744073709551615) (ha : Word a) (hb : Word b) (h : a = 0) (h2 : b ≠ 0) :
    Calls Tryd.prog 27 #[.int .i64 10, .int .u64 (num : Int), wldV fa fn fc pa pn pc ht, .int .u64 a, .int .u64 b] w (DPost (layD 10 num fs ps ht a b) w) := by
  have f0 : (0 : Int) ≤ (fn : Int) := Int.natCast_nonneg _
  have f1 : (fn : Int) ≤ 300 := by omega
  have p0 : (0 : Int) ≤ (pn : Int) := Int.natCast_nonneg _
  have p1 : (pn : Int) ≤ 300 := by omega
  have n0 : (0 : Int) ≤ (num : Int) := Int.natCast_nonneg _
  obtain ⟨a0, a1⟩ := ha
  obtain ⟨b0, b1⟩ := hb
  have hfl := HF.out.len
  have hpl := HP.out.len
  have HD : Hid (layD 10 num fs ps ht a b = (0, [one01 true])) := Lib.hid (by unfold layD laysR; simp only []; rw [show (if tks 10 = 1 then b else a) = a from rfl]; simp [h, h2])
  have e1 : (a != 0) = false := by simp [h]
  have e2 : (b != 0) = true := by simp [h2]
  clear hfl hpl h h2
  unfold wldV
  go_enter Tryd.func27, Tryd.ntmps27
  go_wp2_with fail
  refine (one_any' _ _).mono ?_
  rintro e w2 ⟨rfl, rfl⟩
  go_wp2
  go_ret2
  exact DPost.one _ HD.out

set_option maxRecDepth 100000 in
set_option maxHeartbeats 2000000 in
theorem lays_k1010 (num : Nat) (fa : Option Addr) (fn fc : Nat) (pa : Option Addr) (pn pc : Nat) (ht a b : Int) (fs : List Int) (ps : List Bool) (w : World) (HF : Hid (FRow w fa fn fs)) (HP : Hid (BRow w pa pn ps)) (hfn : fn ≤ 300) (hpn : pn ≤ 300) (hnum : (num : Int) ≤ 18446744073709551615) (ha : Word a) (hb : Word b) (h : a ≠ 0) (h2 : b = 0) :
    Calls Tryd.prog 27 #[.int .i64 10, .int .u64 (num : Int), wldV fa fn fc pa pn pc ht, .int .u64 a, .int .u64 b] w (DPost (layD 10 num fs ps ht a b) w) := by
  have f0 : (0 : Int) ≤ (fn : Int) := Int.natCast_nonneg _
  have f1 : (fn : Int) ≤ 300 := by omega
  have p0 : (0 : Int) ≤ (pn : Int) := Int.natCast_nonneg _
  have p1 : (pn : Int) ≤ 300 := by omega
  have n0 : (0 : Int) ≤ (num : Int) := Int.natCast_nonneg _
  obtain ⟨a0, a1⟩ := ha
  obtain ⟨b0, b1⟩ := hb
  have hfl := HF.out.len
  have hpl := HP.out.len
  have HD : Hid (layD 10 num fs ps ht a b = (0, [one01 true])) := Lib.hid (by unfold layD laysR; simp only []; rw [show (if tks 10 = 1 then b else a) = a from rfl]; simp [h, h2])
  have e1 : (a != 0) = true := by simp [h]
  have e2 : (b != 0) = false := by simp [h2]
  clear hfl hpl h h2
  unfold wldV
  go_enter Tryd.func27, Tryd.ntmps27
  go_wp2_with fail
  refine (one_any' _ _).mono ?_
  rintro e w2 ⟨rfl, rfl⟩
  go_wp2
  go_ret2
  exact DPost.one _ HD.out

set_option maxRecDepth 100000 in
set_option maxHeartbeats 2000000 in
theorem lays_k1011 (num : Nat) (fa : Option Addr) (fn fc : Nat) (pa : Option Addr) (pn pc : Nat) (ht a b : Int) (fs : List Int) (ps : List Bool) (w : World) (HF : Hid (FRow w fa fn fs)) (HP : Hid (BRow w pa pn ps)) (hfn : fn ≤ 300) (hpn : pn ≤ 300) (hnum : (num : Int) ≤ 18446744073709551615) (ha : Word a) (hb : Word b) (h : a ≠ 0) (h2 : b ≠ 0) :
    Calls Tryd.prog 27 #[.int .i64 10, .int .u64 (num : Int), wldV fa fn fc pa pn pc ht, .int .u64 a, .int .u64 b] w (DPost (layD 10 num fs ps ht a b) w) := by
  have f0 : (0 : Int) ≤ (fn : Int) := Int.natCast_nonneg _
  have f1 : (fn : Int) ≤ 300 := by omega
  have p0 : (0 : Int) ≤ (pn : Int) := Int.natCast_nonneg _
  have p1 : (pn : Int) ≤ 300 := by omega
  have n0 : (0 : Int) ≤ (num : Int) := Int.natCast_nonneg _
  obtain ⟨a0, a1⟩ := ha
  obtain ⟨b0, b1⟩ := hb
  have hfl := HF.out.len
  have hpl := HP.out.len
  have HD : Hid (layD 10 num fs ps ht a b = (0, [one01 true])) := Lib.hid (by unfold layD laysR; simp only []; rw [show (if tks 10 = 1 then b else a) = a from rfl]; simp [h, h2])
  have e1 : (a != 0) = true := by simp [h]
  have e2 : (b != 0) = true := by simp [h2]
  clear hfl hpl h h2
  unfold wldV
  go_enter Tryd.func27, Tryd.ntmps27
  go_wp2_with fail
  refine (one_any' _ _).mono ?_
  rintro e w2 ⟨rfl, rfl⟩
  go_wp2
  go_ret2
  exact DPost.one _ HD.out

set_option maxRecDepth 100000 in
set_option maxHeartbeats 2000000 in
theorem lays_k16n (num : Nat) (fa : Option Addr) (fn fc : Nat) (pa : Option Addr) (pn pc : Nat) (ht a b : Int) (fs : List Int) (ps : List Bool) (w : World) (HF : Hid (FRow w fa fn fs)) (HP : Hid (BRow w pa pn ps)) (hfn : fn ≤ 300) (hpn : pn ≤ 300) (hnum : (num : Int) ≤ 18446744073709551615) (ha : Word a) (hb : Word b) (h : ps.length ≤ num) :
    Calls Tryd.prog 27 #[.int .i64 16, .int .u64 (num : Int), wldV fa fn fc pa pn pc ht, .int .u64 a, .int .u64 b] w (DPost (layD 16 num fs ps ht a b) w) := by
  have f0 : (0 : Int) ≤ (fn : Int) := Int.natCast_nonneg _
  have f1 : (fn : Int) ≤ 300 := by omega
  have p0 : (0 : Int) ≤ (pn : Int) := Int.natCast_nonneg _
  have p1 : (pn : Int) ≤ 300 := by omega
  have n0 : (0 : Int) ≤ (num : Int) := Int.natCast_nonneg _
  obtain ⟨a0, a1⟩ := ha
  obtain ⟨b0, b1⟩ := hb
  have hfl := HF.out.len
  have hpl := HP.out.len
  have d1 : (pn : Int) ≤ (num : Int) := by omega
  have HD : Hid ((layD 16 num fs ps ht a b).1 = 1) := Lib.hid (by unfold layD laysR; simp only []; rw [if_pos h])
  clear hfl hpl h
  unfold wldV
  go_enter Tryd.func27, Tryd.ntmps27
  go_wp2
  go_ret2
  exact DPost.bad 1 HD.out (by decide)

set_option maxRecDepth 100000 in
set_option maxHeartbeats 2000000 in
theorem lays_k16y (num : Nat) (fa : Option Addr) (fn fc : Nat) (pa : Option Addr) (pn pc : Nat) (ht a b : Int) (fs : List Int) (ps : List Bool) (w : World) (HF : Hid (FRow w fa fn fs)) (HP : Hid (BRow w pa pn ps)) (hfn : fn ≤ 300) (hpn : pn ≤ 300) (hnum : (num : Int) ≤ 18446744073709551615) (ha : Word a) (hb : Word b) (h : ¬ ps.length ≤ num) :
    Calls Tryd.prog 27 #[.int .i64 16, .int .u64 (num : Int), wldV fa fn fc pa pn pc ht, .int .u64 a, .int .u64 b] w (DPost (layD 16 num fs ps ht a b) w) := by
  have f0 : (0 : Int) ≤ (fn : Int) := Int.natCast_nonneg _
  have f1 : (fn : Int) ≤ 300 := by omega
  have p0 : (0 : Int) ≤ (pn : Int) := Int.natCast_nonneg _
  have p1 : (pn : Int) ≤ 300 := by omega
  have n0 : (0 : Int) ≤ (num : Int) := Int.natCast_nonneg _
  obtain ⟨a0, a1⟩ := ha
  obtain ⟨b0, b1⟩ := hb
  have hfl := HF.out.len
  have hpl := HP.out.len
  have d1 : ¬ ((pn : Int) ≤ (num : Int)) := by omega
  have d2 : (num : Int) < (pn : Int) := by omega
  have HD : Hid (layD 16 num fs ps ht a b = (0, [one01 (ps.getD num false)])) := Lib.hid (by unfold layD laysR; simp only []; rw [if_neg h])
  obtain ⟨bf, off, rfl, hbf, hcf⟩ := HP.out.at_ num (by omega)
  have hc : ∀ ob, (w.alloc ob).cell? ⟨bf, off + num, none⟩ = some (.bool (ps.getD num false)) := fun ob => by rw [World.cell?_alloc_lt _ _ _ hbf]; exact hcf
  obtain ⟨x, hx⟩ : ∃ x, ps.getD num false = x := ⟨_, rfl⟩
  rw [hx] at hc HD
  clear hx hcf hfl hpl h
  unfold wldV
  go_enter Tryd.func27, Tryd.ntmps27
  go_wp2_with fail
  refine (one_any' _ _).mono ?_
  rintro e w2 ⟨rfl, rfl⟩
  go_wp2
  go_ret2
  exact DPost.one _ HD.out

theorem lays_any (op : Nat) (hop : op < 18) (num : Nat) (fa : Option Addr) (fn fc : Nat) (pa : Option Addr) (pn pc : Nat) (ht a b : Int) (fs : List Int) (ps : List Bool) (w : World) (HF : Hid (FRow w fa fn fs)) (HP : Hid (BRow w pa pn ps)) (hfn : fn ≤ 300) (hpn : pn ≤ 300) (hnum : (num : Int) ≤ 18446744073709551615) (ha : Word a) (hb : Word b) :
    Calls Tryd.prog 27 #[.int .i64 (op : Int), .int .u64 (num : Int), wldV fa fn fc pa pn pc ht, .int .u64 a, .int .u64 b] w (DPost (layD op num fs ps ht a b) w) := by
  match op, hop with
  | 0, _ => exact lays_k0 num fa fn fc pa pn pc ht a b fs ps w HF HP hfn hpn hnum ha hb
  | 1, _ => exact lays_k1 num fa fn fc pa pn pc ht a b fs ps w HF HP hfn hpn hnum ha hb
  | 2, _ =>
    by_cases h : fs.length ≤ num
    · exact lays_k2n num fa fn fc pa pn pc ht a b fs ps w HF HP hfn hpn hnum ha hb h
    · exact lays_k2y num fa fn fc pa pn pc ht a b fs ps w HF HP hfn hpn hnum ha hb h
  | 3, _ =>
    by_cases h : addE a b = 0
    · exact lays_k3y num fa fn fc pa pn pc ht a b fs ps w HF HP hfn hpn hnum ha hb h
    · exact lays_k3n num fa fn fc pa pn pc ht a b fs ps w HF HP hfn hpn hnum ha hb h
  | 4, _ =>
    by_cases h : subE a b = 0
    · exact lays_k4y num fa fn fc pa pn pc ht a b fs ps w HF HP hfn hpn hnum ha hb h
    · exact lays_k4n num fa fn fc pa pn pc ht a b fs ps w HF HP hfn hpn hnum ha hb h
  | 5, _ =>
    by_cases h : mulE a b = 0
    · exact lays_k5y num fa fn fc pa pn pc ht a b fs ps w HF HP hfn hpn hnum ha hb h
    · exact lays_k5n num fa fn fc pa pn pc ht a b fs ps w HF HP hfn hpn hnum ha hb h
  | 6, _ =>
    by_cases h : a < b
    · exact lays_k6y num fa fn fc pa pn pc ht a b fs ps w HF HP hfn hpn hnum ha hb h
    · exact lays_k6n num fa fn fc pa pn pc ht a b fs ps w HF HP hfn hpn hnum ha hb h
  | 7, _ =>
    by_cases h : a = b
    · exact lays_k7y num fa fn fc pa pn pc ht a b fs ps w HF HP hfn hpn hnum ha hb h
    · exact lays_k7n num fa fn fc pa pn pc ht a b fs ps w HF HP hfn hpn hnum ha hb h
  | 8, _ =>
    by_cases h : b = 0
    · exact lays_k8y num fa fn fc pa pn pc ht a b fs ps w HF HP hfn hpn hnum ha hb h
    · exact lays_k8n num fa fn fc pa pn pc ht a b fs ps w HF HP hfn hpn hnum ha hb h
  | 9, _ =>
    by_cases h : a = 0
    · by_cases h2 : b = 0
      · exact lays_k900 num fa fn fc pa pn pc ht a b fs ps w HF HP hfn hpn hnum ha hb h h2
      · exact lays_k901 num fa fn fc pa pn pc ht a b fs ps w HF HP hfn hpn hnum ha hb h h2
    · by_cases h2 : b = 0
      · exact lays_k910 num fa fn fc pa pn pc ht a b fs ps w HF HP hfn hpn hnum ha hb h h2
      · exact lays_k911 num fa fn fc pa pn pc ht a b fs ps w HF HP hfn hpn hnum ha hb h h2
  | 10, _ =>
    by_cases h : a = 0
    · by_cases h2 : b = 0
      · exact lays_k1000 num fa fn fc pa pn pc ht a b fs ps w HF HP hfn hpn hnum ha hb h h2
      · exact lays_k1001 num fa fn fc pa pn pc ht a b fs ps w HF HP hfn hpn hnum ha hb h h2
    · by_cases h2 : b = 0
      · exact lays_k1010 num fa fn fc pa pn pc ht a b fs ps w HF HP hfn hpn hnum ha hb h h2
      · exact lays_k1011 num fa fn fc pa pn pc ht a b fs ps w HF HP hfn hpn hnum ha hb h h2
  | 11, _ => exact lays_k11 num fa fn fc pa pn pc ht a b fs ps w HF HP hfn hpn hnum ha hb
  | 12, _ => exact lays_k12 num fa fn fc pa pn pc ht a b fs ps w HF HP hfn hpn hnum ha hb
  | 13, _ => exact lays_k13 num fa fn fc pa pn pc ht a b fs ps w HF HP hfn hpn hnum ha hb
  | 14, _ => exact lays_k14 num fa fn fc pa pn pc ht a b fs ps w HF HP hfn hpn hnum ha hb
  | 15, _ => exact lays_k15 num fa fn fc pa pn pc ht a b fs ps w HF HP hfn hpn hnum ha hb
  | 16, _ =>
    by_cases h : ps.length ≤ num
    · exact lays_k16n num fa fn fc pa pn pc ht a b fs ps w HF HP hfn hpn hnum ha hb h
    · exact lays_k16y num fa fn fc pa pn pc ht a b fs ps w HF HP hfn hpn hnum ha hb h
  | 17, _ => exact lays_k17 num fa fn fc pa pn pc ht a b fs ps w HF HP hfn hpn hnum ha hb
  | n + 18, h => omega
end Go.Proofs.YtkilajobnlagbaaDoor
