/-
  A ring's signature that came in, read off the argument.
-/
import Derived.Test.YtkonokjhpddbfaaDoorFlat
import Derived.Test.YtkonokjhpddbfaaDoorGF
import Derived.Test.YtkonokjhpddbfaaDoorGH
namespace Go.Proofs.YtkonokjhpddbfaaDoor
open Go.ChangeShapes Go.WideShapes Go.ChangeAt Go.RowKit Go.Deep
set_option linter.unusedVariables false

theorem cells99 : Tryd.prog.cellsOf 99 = 1026 := by kernel_rfl
theorem cells38 : Tryd.prog.cellsOf 38 = 1 := by kernel_rfl
theorem cells22s : Tryd.prog.cellsOf 22 = 1 := by kernel_rfl
def LB : List (Nat × TypeId) := (List.range 32).map fun i => (i, 5)
theorem flat29 : flatR Tryd.prog 2 29 = LB := by kernel_rfl
section
variable {H : Type} {enc : TypeId × Value → H} {W : World} {base : Nat} {spare : Nat → Bool} {held : Bool}
theorem part_bytes {cs : List Value} (h : ∀ o u, (o, u) ∈ LB → PartAt enc Tryd.prog W base spare held cs o u) : ∃ x : List Nat, cs.take 32 = w8 x ∧ x.length = 32 ∧ ∀ y ∈ x, y < 256 := by
  have hb : BytesAt (cs.take 32) 32 := by
    have h1 : ∀ j, j < 32 → ∃ z : Nat, z < 256 ∧ cs[j]? = some (.int .u8 (z : Int)) := by
      intro j hj
      obtain ⟨z, hz, hw⟩ := (h j 5 (by simp [LB]; exact hj)).int Tryd.underlying5
      have hb := bounds_u8 hw
      exact ⟨z.toNat, by omega, by rw [hz, Int.toNat_of_nonneg hb.1]⟩
    refine ⟨?_, fun j hj => ?_⟩
    · obtain ⟨z, _, hz⟩ := h1 31 (by omega)
      have := (List.getElem?_eq_some_iff.1 hz).1
      rw [List.length_take]
      omega
    · obtain ⟨z, h2, hz⟩ := h1 j hj
      exact ⟨z, h2, by rw [List.getElem?_take, if_pos hj]; exact hz⟩
  obtain ⟨x, h1, h2, h3⟩ := bytesAt_list hb
  exact ⟨x, h1, h2, h3⟩
/-- Sums that came in. -/
theorem openWay {t : TypeId} {a : Option Addr} {len cap : Nat} {d : DataW H} {p : List MemPlace} (ht : Tryd.prog.underlying t = some (.slice 29)) (h : DataW.Trod enc Tryd.prog W base spare held t (.slice a len cap) d p) :
    ∃ q : Nat → List Nat, (∀ i, (q i).length = 32) ∧ (∀ i, ∀ x ∈ q i, x < 256) ∧ WayR W (.slice a len cap) q len ∧ len ≤ maxLen := by
  have f0 := open_flat 2 32 LB ht (by kernel_rfl) (by decide) flat29 ⟨5, .u8, by simp [LB], Tryd.underlying5⟩ h
  have hex : ∀ i, ∃ x : List Nat, x.length = 32 ∧ (∀ y ∈ x, y < 256) ∧ (i < len → ∀ b off, a = some ⟨b, off, none⟩ → W.rangeAt b (off + i * 32) (w8 x)) := by
    intro i
    by_cases hi : i < len
    · obtain ⟨b, off, ha, hb, cs, h1, h2⟩ := f0.row hi
      obtain ⟨x, h3, h4, h5⟩ := part_bytes h2
      refine ⟨x, h4, h5, fun _ b' off' ha' => ?_⟩
      rw [ha] at ha'
      injection ha' with ha'
      injection ha' with e1 e2
      subst e1; subst e2
      intro j u hu
      rw [← h3, List.getElem?_take] at hu
      split at hu
      · exact h1 j u hu
      · cases hu
    · exact ⟨List.replicate 32 0, by simp, by intro y hy; rw [List.eq_of_mem_replicate hy]; omega, fun h => absurd h hi⟩
  obtain ⟨q, hq⟩ := Classical.axiomOfChoice hex
  refine ⟨q, fun i => (hq i).1, fun i => (hq i).2.1, ?_, f0.2.1⟩
  rcases f0.1 with h0 | ⟨b, off, ha, hb, _⟩
  · exact ⟨a, cap, rfl, .inl h0⟩
  · exact ⟨a, cap, rfl, .inr ⟨b, off, ha, hb, fun i hi => (hq i).2.2 hi b off ha⟩⟩
end
set_option maxRecDepth 100000 in
theorem openSig5 {H : Type} {enc : TypeId × Value → H} {W : World} {base b0 : Nat} {held : Bool} {v : Value} {d : DataW H} {p : List MemPlace} (hv : Value.okWide Tryd.prog W .any b0 99 v)
    (h : DataW.Trod enc Tryd.prog W base (fun _ => true) held 99 v d p) :
    ∃ (S : List Nat) (key : Nat) (a : Option Addr) (len cap : Nat) (q : Nat → List Nat), v = .agg (rsg S key (.slice a len cap)).toArray ∧ S.length = 1024 ∧ (∀ x ∈ S, x < 256) ∧ key < 4294967296 ∧ (∀ i, (q i).length = 32) ∧ (∀ i, ∀ x ∈ q i, x < 256) ∧ WayR W (.slice a len cap) q len ∧ len ≤ maxLen := by
  simp only [Value.okWide, Tryd.underlying99] at hv
  obtain ⟨cs, rfl, _⟩ := hv
  obtain ⟨fuel, hf⟩ := h
  have hcl : (Value.agg cs).cells.toList = cs.toList := rfl
  rw [hcl] at hf
  obtain ⟨xs, m, _, _, hlen, hxs, hx⟩ := DataW.trod_struct Tryd.underlying99 hf
  rw [cells99] at hlen
  have hx3 : xs.length = 3 := hxs
  have f0 : DataW.trod enc Tryd.prog W base (fun _ => true) held m 51 ((cs.toList.drop 0).take (Tryd.prog.cellsOf 51)) = xs[0]? := hx 0 _ rfl
  have f1 : DataW.trod enc Tryd.prog W base (fun _ => true) held m 38 ((cs.toList.drop 1024).take (Tryd.prog.cellsOf 38)) = xs[1]? := hx 1 _ rfl
  have f2 : DataW.trod enc Tryd.prog W base (fun _ => true) held m 22 ((cs.toList.drop 1025).take (Tryd.prog.cellsOf 22)) = xs[2]? := hx 2 _ rfl
  rw [cells51, List.getElem?_eq_getElem (by omega), List.drop_zero] at f0
  rw [cells38, List.getElem?_eq_getElem (by omega)] at f1
  rw [cells22s, List.getElem?_eq_getElem (by omega)] at f2
  obtain ⟨S, hS, h1, h2⟩ := bytesAt_list (sig_bytes f0)
  obtain ⟨z, he, _, hw⟩ := DataW.trod_int Tryd.underlying38 f1
  obtain ⟨hz0, hz1⟩ := bounds_u32 hw
  have hsl : ∃ a n c, (cs.toList.drop 1025).take 1 = [.slice a n c] := by
    rcases DataW.trod_slice Tryd.underlying22 f2 with ⟨h3, _⟩ | ⟨a, len, cap, elems, rest, n, _, h3, _⟩
    · exact ⟨_, _, _, h3⟩
    · exact ⟨_, _, _, h3⟩
  obtain ⟨a, n, c, hs⟩ := hsl
  rw [hs] at f2
  obtain ⟨q, g1, g2, g3, g4⟩ := openWay (d := xs[2].1) (p := xs[2].2) Tryd.underlying22 ⟨m, f2⟩
  refine ⟨S, z.toNat, a, n, c, q, ?_, h1, h2, by omega, g1, g2, g3, g4⟩
  have e : cs.toList = rsg S z.toNat (.slice a n c) := by
    have e1 : cs.toList = cs.toList.take 1024 ++ ((cs.toList.drop 1024).take 1 ++ (cs.toList.drop 1025).take 1) := by
      have e2 : cs.toList.drop 1024 = (cs.toList.drop 1024).take 1 ++ cs.toList.drop 1025 := by
        have := (List.take_append_drop 1 (cs.toList.drop 1024)).symm
        rw [List.drop_drop] at this
        exact this
      have e3 : cs.toList.drop 1025 = (cs.toList.drop 1025).take 1 := by rw [List.take_of_length_le (by rw [List.length_drop]; omega)]
      rw [← e3, ← e2, List.take_append_drop]
    rw [e1, hS, hs]
    have e4 : (cs.toList.drop 1024).take 1 = [.int .u32 (z.toNat : Int)] := by
      rw [Int.toNat_of_nonneg hz0]
      simpa using he
    rw [e4]
    rfl
  rw [← e]
end Go.Proofs.YtkonokjhpddbfaaDoor
