/-
  What an Out's calls answer (One, Four, Eight, Blob of octet), for whatever bytes the call itself made and whatever comes: its bytes, and these things in order behind them; of other memory nothing that was there is written.
-/
import Derived.Test.YtbdjlnejlkiijaaDoorRRROctBytes
namespace Go.Proofs.YtbdjlnejlkiijaaDoorRRR.Oct
open Go.RowKit
set_option linter.unusedVariables false

/-- A slice of numbers of a kind, read as a list. -/
def Rd (k : IntKind) (w : World) (A : Option Addr) (ns : List Int) : Prop :=
  ns = [] ∨ ∃ b off, A = some ⟨b, off, none⟩ ∧ b < w.heap.size ∧ ∀ i, i < ns.length → w.cell? ⟨b, off + i, none⟩ = some (.int k (ns.getD i 0))

theorem Rd.below {k : IntKind} {w w' : World} {A : Option Addr} {ns : List Int} (h : Rd k w A ns) (hB : Below w.heap.size w w') : Rd k w' A ns := by
  rcases h with h1 | ⟨b, off, h1, h2, h3⟩
  · exact .inl h1
  · exact .inr ⟨b, off, h1, Nat.lt_of_lt_of_le h2 hB.size, fun i hi => by rw [hB.cell (p := ⟨b, off + i, none⟩) h2]; exact h3 i hi⟩

theorem Rd.lit (k : IntKind) (t : TypeId) (w : World) (cs : Array Value) (l : List Int) (h : cs.toList = l.map (Value.int k)) : Rd k (w.alloc (.cells cs t)) (some ⟨w.heap.size, 0, none⟩) l := by
  refine .inr ⟨w.heap.size, 0, rfl, by simp, fun i hi => ?_⟩
  rw [Nat.zero_add, World.cell?_alloc_at _ _ _ _ rfl, ← Array.getElem?_toList, h]
  simp [List.getD, hi]

/-- Numbers' bytes. -/
def be4s (ns : List Int) : List Int := ns.flatMap be4
def be8 (n : Int) : List Int := be4 (n / 4294967296) ++ be4 (n % 4294967296)
def be8s (ns : List Int) : List Int := ns.flatMap be8

theorem be4s_length (ns : List Int) : (be4s ns).length = 4 * ns.length := by
  induction ns with
  | nil => rfl
  | cons n r ih => simp [be4s, be4] at ih ⊢; omega

theorem be8s_length (ns : List Int) : (be8s ns).length = 8 * ns.length := by
  induction ns with
  | nil => rfl
  | cons n r ih => simp [be8s, be8, be4] at ih ⊢; omega

theorem be4s_take (ns : List Int) (k : Nat) (x : Int) (hk : k < ns.length) (hx : ns.getD k 0 = x) : be4s (ns.take k) ++ be4 x = be4s (ns.take (k + 1)) := by
  have e : ns[k] = x := by rw [← hx]; simp [List.getD, hk]
  rw [List.take_succ_eq_append_getElem hk, e]
  simp [be4s]

theorem be8s_take (ns : List Int) (k : Nat) (x : Int) (hk : k < ns.length) (hx : ns.getD k 0 = x) : be8s (ns.take k) ++ be4 (x / 4294967296) ++ be4 (x % 4294967296) = be8s (ns.take (k + 1)) := by
  have e : ns[k] = x := by rw [← hx]; simp [List.getD, hk]
  rw [List.take_succ_eq_append_getElem hk, e]
  simp [be8s, be8]

theorem mem_getD (ns : List Int) (k : Nat) (x : Int) (hk : k < ns.length) (hx : ns.getD k 0 = x) : x ∈ ns := by
  rw [← hx]
  simp [List.getD, hk]

/-- What one more laying makes of bytes that lie above. -/
theorem Laid.above {w wr w' : World} {t v' : Value} {l : List Int} (hw : Below w.heap.size w wr) {xs : List Int} (hO : Own wr w.heap.size t xs) (h : wr.grownBy w' t.ownBlock) : Below w.heap.size w w' :=
  hw.trans (grown_below h hw.size fun g hg => (World.ownsRow.lt hO g hg).1)

set_option maxRecDepth 100000 in
set_option maxHeartbeats 2000000 in
theorem four_any (v : Value) (A : Option Addr) (cap base : Nat) (xs ns : List Int) (w : World) (hO : Own w base v xs) (hR : Rd .u32 w A ns) (hn : ∀ n ∈ ns, 0 ≤ n ∧ n ≤ 4294967295) (hl : xs.length + 4 * ns.length ≤ 140737488355320) (hbase : base ≤ w.heap.size) :
    Calls Tryd.prog 26 #[v, .slice A ns.length cap] w (Laid w base v (xs ++ be4s ns)) := by
  have HO := Lib.hid hO
  have HN := Lib.hid hn
  have HX := Lib.hid hl
  obtain ⟨len, hlen⟩ : ∃ n, ns.length = n := ⟨_, rfl⟩
  rw [hlen] at hl ⊢
  have hl2 : len ≤ 35184372088830 := by omega
  have HL := Lib.hid hlen
  have HR := Lib.hid hR
  clear hO hn hlen hR hl
  go_enter Tryd.func26, Tryd.ntmps26
  go_wp2_with fail
  go_loopw [5, 10, 7] (fun t i _ wr => ∃ (k : Nat), k ≤ len ∧ i = .int .i64 k ∧ Hid (Own wr w.heap.size t (be4s (ns.take k))) ∧ Hid (Below w.heap.size w wr)) (fun _ i _ _ => len - (intOf i).toNat)
  case atStart => exact ⟨0, Nat.zero_le _, rfl, Lib.hid (Own.nil _ _), Lib.hid (Below.refl _ _)⟩
  case round =>
    obtain ⟨k, hk, rfl, HT, HB⟩ := hrel
    by_cases hlt : k < len
    · rcases HR.out with h0 | ⟨b, off, rfl, hb, hc⟩
      · exfalso
        have := HL.out
        rw [h0] at this
        simp at this
        omega
      · have hkn : k < ns.length := by rw [HL.out]; exact hlt
        obtain ⟨x, hx⟩ : ∃ x, ns.getD k 0 = x := ⟨_, rfl⟩
        have hcell := hc k hkn
        rw [hx] at hcell
        rw [← HB.out.cell (p := ⟨b, off + k, none⟩) hb] at hcell
        have hbr : b < wr.heap.size := Nat.lt_of_lt_of_le hb HB.out.size
        obtain ⟨x0, x1⟩ := HN.out x (mem_getD ns k x hkn hx)
        have HTK := Lib.hid (be4s_take ns k x hkn hx)
        clear hc hx
        go_wp2_with fail
        refine (layFour_any _ _ w.heap.size (be4s (ns.take k)) _ x0 x1 HT.out (by rw [be4s_length, List.length_take]; omega) HB.out.size).mono ?_
        rintro e w' ⟨v', rfl, hO', hg, hL⟩
        have HB2 := Lib.hid (Laid.above (v' := v') (l := []) HB.out HT.out hg)
        rw [HTK.out] at hO'
        have HT2 := Lib.hid hO'
        clear hO' hg hL hkn
        go_wp2
        go_roundw
        case rel => exact ⟨k + 1, by omega, by go_num, HT2, HB2⟩
        case measure => simp [intOf]; omega
    · obtain rfl : k = len := by omega
      have htk : ns.take k = ns := List.take_of_length_le (by rw [HL.out]; exact Nat.le_refl _)
      rw [htk] at HT
      obtain ⟨A', c', hv, hS⟩ := HT.out.src
      subst hv
      have HS := Lib.hid hS
      have HLL := Lib.hid (be4s_length ns)
      obtain ⟨m, hm⟩ : ∃ m, (be4s ns).length = m := ⟨_, rfl⟩
      rw [hm]
      have HM := Lib.hid hm
      clear hS htk hm
      go_wp2_with (at_builtin; refine wpList_app rfl (.tmp 18) (.tmp 19) 36 35 rfl Tryd.underlying36 Tryd.underlying35 base v xs (be4s ns) rfl (HO.out.below HB.out) A' m c' rfl HM.out.symm HS.out ?c1 ?c2 ?_)
      case c1 => rw [HLL.out]; have := HX.out; omega
      case c2 => exact Nat.le_trans hbase HB.out.size
      intro v' w1 hO' hg hL
      have HLD := Lib.hid (Laid.mk HB.out hO' hg hL)
      clear hO' hg hL
      go_wp2
      go_ret
      exact HLD.out

set_option maxRecDepth 100000 in
set_option maxHeartbeats 2000000 in
theorem eight_any (v : Value) (A : Option Addr) (cap base : Nat) (xs ns : List Int) (w : World) (hO : Own w base v xs) (hR : Rd .u64 w A ns) (hn : ∀ n ∈ ns, 0 ≤ n ∧ n ≤ 18446744073709551615) (hl : xs.length + 8 * ns.length ≤ 140737488355320) (hbase : base ≤ w.heap.size) :
    Calls Tryd.prog 27 #[v, .slice A ns.length cap] w (Laid w base v (xs ++ be8s ns)) := by
  have HO := Lib.hid hO
  have HN := Lib.hid hn
  have HX := Lib.hid hl
  obtain ⟨len, hlen⟩ : ∃ n, ns.length = n := ⟨_, rfl⟩
  rw [hlen] at hl ⊢
  have hl2 : len ≤ 17592186044415 := by omega
  have HL := Lib.hid hlen
  have HR := Lib.hid hR
  clear hO hn hlen hR hl
  go_enter Tryd.func27, Tryd.ntmps27
  go_wp2_with fail
  go_loopw [5, 10, 7] (fun t i _ wr => ∃ (k : Nat), k ≤ len ∧ i = .int .i64 k ∧ Hid (Own wr w.heap.size t (be8s (ns.take k))) ∧ Hid (Below w.heap.size w wr)) (fun _ i _ _ => len - (intOf i).toNat)
  case atStart => exact ⟨0, Nat.zero_le _, rfl, Lib.hid (Own.nil _ _), Lib.hid (Below.refl _ _)⟩
  case round =>
    obtain ⟨k, hk, rfl, HT, HB⟩ := hrel
    by_cases hlt : k < len
    · rcases HR.out with h0 | ⟨b, off, rfl, hb, hc⟩
      · exfalso
        have := HL.out
        rw [h0] at this
        simp at this
        omega
      · have hkn : k < ns.length := by rw [HL.out]; exact hlt
        obtain ⟨x, hx⟩ : ∃ x, ns.getD k 0 = x := ⟨_, rfl⟩
        have hcell := hc k hkn
        rw [hx] at hcell
        rw [← HB.out.cell (p := ⟨b, off + k, none⟩) hb] at hcell
        have hbr : b < wr.heap.size := Nat.lt_of_lt_of_le hb HB.out.size
        obtain ⟨x0, x1⟩ := HN.out x (mem_getD ns k x hkn hx)
        have HTK := Lib.hid (be8s_take ns k x hkn hx)
        have hy : IntKind.u32.wrap (x / 4294967296) = x / 4294967296 := IntWalk.u32_in _ ⟨by omega, by omega⟩
        have hz : IntKind.u32.wrap x = x % 4294967296 := IntKind.wrap_u32 x
        clear hc hx
        go_wp2_with fail
        refine (layFour_any _ _ w.heap.size (be8s (ns.take k)) _ (by omega) (by omega) HT.out (by rw [be8s_length, List.length_take]; omega) HB.out.size).mono ?_
        rintro e w' ⟨v', rfl, hO', hg, hL⟩
        have HB2 := Lib.hid (Laid.above (v' := v') (l := []) HB.out HT.out hg)
        have HT2 := Lib.hid hO'
        clear hO' hg hL
        go_wp2_with fail
        refine (layFour_any _ _ w.heap.size (be8s (ns.take k) ++ be4 (x / 4294967296)) _ (by omega) (by omega) HT2.out (by rw [List.length_append, be8s_length, List.length_take]; simp [be4]; omega) HB2.out.size).mono ?_
        rintro e w'' ⟨v'', rfl, hO', hg, hL⟩
        have HB3 := Lib.hid (Laid.above (v' := v') (l := []) HB2.out HT2.out hg)
        rw [HTK.out] at hO'
        have HT3 := Lib.hid hO'
        clear hO' hg hL hkn hy hz
        go_wp2
        go_roundw
        case rel => exact ⟨k + 1, by omega, by go_num, HT3, HB3⟩
        case measure => simp [intOf]; omega
    · obtain rfl : k = len := by omega
      have htk : ns.take k = ns := List.take_of_length_le (by rw [HL.out]; exact Nat.le_refl _)
      rw [htk] at HT
      obtain ⟨A', c', hv, hS⟩ := HT.out.src
      subst hv
      have HS := Lib.hid hS
      have HLL := Lib.hid (be8s_length ns)
      obtain ⟨m, hm⟩ : ∃ m, (be8s ns).length = m := ⟨_, rfl⟩
      rw [hm]
      have HM := Lib.hid hm
      clear hS htk hm
      go_wp2_with (at_builtin; refine wpList_app rfl (.tmp 24) (.tmp 25) 36 35 rfl Tryd.underlying36 Tryd.underlying35 base v xs (be8s ns) rfl (HO.out.below HB.out) A' m c' rfl HM.out.symm HS.out ?c1 ?c2 ?_)
      case c1 => rw [HLL.out]; have := HX.out; omega
      case c2 => exact Nat.le_trans hbase HB.out.size
      intro v' w1 hO' hg hL
      have HLD := Lib.hid (Laid.mk HB.out hO' hg hL)
      clear hO' hg hL
      go_wp2
      go_ret
      exact HLD.out

set_option maxRecDepth 100000 in
set_option maxHeartbeats 1000000 in
theorem one_any (v : Value) (A : Option Addr) (cap base : Nat) (xs ns : List Int) (w : World) (hO : Own w base v xs) (hS : Src w A cap ns) (hl : xs.length + ns.length ≤ 140737488355320) (hbase : base ≤ w.heap.size) :
    Calls Tryd.prog 28 #[v, .slice A ns.length cap] w (Laid w base v (xs ++ ns)) := by
  have HO := Lib.hid hO
  have HS := Lib.hid hS
  obtain ⟨len, hlen⟩ : ∃ n, ns.length = n := ⟨_, rfl⟩
  have HX := Lib.hid hl
  rw [hlen]
  have HL := Lib.hid hlen
  clear hO hS hlen hl
  go_enter Tryd.func28, Tryd.ntmps28
  go_wp2_with (at_builtin; refine wpList_app rfl (.tmp 5) (.tmp 6) 36 35 rfl Tryd.underlying36 Tryd.underlying35 base v xs ns rfl HO.out A len cap rfl HL.out.symm HS.out ?c1 hbase ?_)
  case c1 => have := HX.out; omega
  intro v' w1 hO' hg hL
  have HLD := Lib.hid (Laid.mk (Below.refl _ _) hO' hg hL)
  clear hO' hg hL
  go_wp2
  go_ret
  exact HLD.out

end Go.Proofs.YtbdjlnejlkiijaaDoorRRR.Oct
