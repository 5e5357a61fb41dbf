/-
  Parts that came in, with how much they hold.
-/
import Derived.Test.YtcpjfdaacnkcnaaDoorArgB
namespace Go.Proofs.YtcpjfdaacnkcnaaDoor
open Go.ChangeShapes Go.WideShapes Go.ChangeAt Go.RowKit Go.Deep
set_option linter.unusedVariables false

theorem flat_bulk {H : Type} (f : Nat → DataW H) (g : Nat → List Nat) : ∀ (rs : List Nat), (∀ r ∈ rs, (g r).length ≤ Rows.uptoBulk (f r)) → (rs.map g).flatten.length ≤ Rows.uptoBulkAll (rs.map f)
  | [], _ => by simp [Rows.uptoBulkAll]
  | r :: rs, h => by
    have h1 := h r (by simp)
    have h2 := flat_bulk f g rs (fun x hx => h x (by simp [hx]))
    simp only [List.map_cons, List.flatten_cons, List.length_append, Rows.uptoBulkAll]
    omega
theorem lits_bulk {H : Type} (k : IntKind) : ∀ (l : List Int), l.length ≤ Rows.uptoBulkAll (lits (H := H) k l)
  | [] => by simp [lits]
  | a :: l => by
    have h := lits_bulk (H := H) k l
    simp only [lits, List.map_cons, List.length_cons, Rows.uptoBulkAll, Rows.uptoBulk] at h ⊢
    omega
theorem row_bulk {H : Type} (A : Option Addr) (L : Nat) (Z : List Int) (h : L ≤ Z.length) (hn : A = none → L = 0) : L ≤ Rows.uptoBulk (intRow (H := H) .u8 A L Z) := by
  cases A with
  | none => rw [hn rfl]; omega
  | some a =>
    have h1 := lits_bulk (H := H) .u8 (Z.take L)
    simp only [intRow, Rows.uptoBulk]
    rw [List.length_take] at h1
    omega

theorem openPartsB {H : Type} {enc : TypeId × Value → H} {W : World} {base : Nat} {held : Bool} {a : Option Addr} {len cap : Nat} {d : DataW H} {p : List MemPlace}
    (h : DataW.Trod enc Tryd.prog W base (fun _ => true) held 32 (.slice a len cap) d p) (hsz : ∀ n ∈ d.weights Tryd.prog 32, n ≤ reachBytes) : ∃ ps, Came W a len ps ∧ ps.flatten.length ≤ Rows.uptoBulk d := by
  obtain ⟨fuel, hf⟩ := h
  rcases open_int_rows Tryd.underlying32 Tryd.underlying22 Tryd.underlying5 cells22 cells5 hf with ⟨hcs, _⟩ | ⟨x, l, c, A, L, C, Z, hcs, _, hl, hm, hd, hrow⟩
  · simp [Value.cells] at hcs
    obtain ⟨rfl, rfl, rfl⟩ := hcs
    exact ⟨[], ⟨⟨.inl rfl⟩, rfl, by omega, by simp⟩, by simp⟩
  · simp [Value.cells] at hcs
    obtain ⟨rfl, rfl, rfl⟩ := hcs
    have hd1 := (Prod.mk.inj hd).1
    subst hd1
    have hown : cap * 24 ≤ reachBytes := by
      have := hsz _ (by simp only [DataW.weights, Tryd.underlying32]; exact List.mem_cons_self ..)
      rw [bytes22] at this
      simp only [List.length_map, List.length_range] at this
      rw [show len + (cap - len) = cap by omega] at this
      exact this
    have heach : ∀ r, r < len → L r ≤ 140737488355328 := by
      intro r hr
      obtain ⟨_, h2, h3, h4, _, h6, _⟩ := hrow r (by omega)
      cases hA : A r with
      | none => have := h6 hA; omega
      | some a' =>
        have hmem : intRow .u8 (A r) (L r) (Z r) ∈ (List.range len).map fun r => intRow (H := H) .u8 (A r) (L r) (Z r) := List.mem_map.2 ⟨r, List.mem_range.2 hr, rfl⟩
        have hw : (Z r).length * 1 ∈ (intRow (H := H) .u8 (A r) (L r) (Z r)).weights Tryd.prog 22 := by
          rw [hA]
          simp only [intRow, DataW.weights, Tryd.underlying22, bytes5]
          refine List.mem_cons.2 (.inl ?_)
          simp [lits]
          omega
        have := hsz _ (by simp only [DataW.weights, Tryd.underlying32]; exact List.mem_cons.2 (.inr (List.mem_append.2 (.inl (weightsAll_mem hmem _ hw)))))
        simp only [reachBytes] at this
        omega
    have hsr : ∀ r, r < len → Src W W.heap.size (A r) (C r) (bytesAt (Z r) (L r)) ∧ (bytesAt (Z r) (L r)).length = L r := by
      intro r hr
      obtain ⟨_, h2, h3, h4, h5, h6, h7⟩ := hrow r (by omega)
      exact Src.open_ h2 h4 h5 h6 (fun a' ha c hc => (h7 a' ha).2 c hc) (Nat.le_refl _)
    refine ⟨(List.range len).map fun r => bytesAt (Z r) (L r), ⟨⟨?_⟩, by simp, by simp only [reachBytes] at hown; omega, ?_⟩, ?_⟩
    · rcases Nat.eq_zero_or_pos len with h0 | h0
      · subst h0; exact .inl rfl
      · obtain ⟨g, off, spot⟩ := x
        have hc0 := (hrow 0 (by omega)).1
        have hspot : spot = none := by simpa [Addr.add] using World.cell?_spot hc0
        subst hspot
        have hlt : g < W.heap.size := by
          have := World.block_lt_of_cell? _ _ hc0
          rw [Addr.add_mid] at this
          exact this
        refine .inr ⟨g, off, rfl, hlt, by omega, fun i hi => ?_⟩
        have hi' : i < len := by simpa using hi
        have e : ((List.range len).map fun r => bytesAt (Z r) (L r)).getD i [] = bytesAt (Z i) (L i) := by simp [List.getD, hi']
        rw [e]
        obtain ⟨h1, h2, h3, _⟩ := hrow i (by omega)
        rw [Addr.add_mid] at h1
        refine ⟨A i, C i, by rw [(hsr i hi').2]; exact h1, by unfold maxLen at h3; exact h3, (hsr i hi').1⟩
    · intro q hq
      obtain ⟨r, hr, rfl⟩ := List.mem_map.1 hq
      have hr' := List.mem_range.1 hr
      exact ⟨by rw [(hsr r hr').2]; exact heach r hr', (hsr r hr').1.lt⟩
    · have h := flat_bulk (H := H) (fun r => intRow .u8 (A r) (L r) (Z r)) (fun r => bytesAt (Z r) (L r)) (List.range len) (fun r hr => by
        have hr' := List.mem_range.1 hr
        rw [(hsr r hr').2]
        obtain ⟨_, h2, h3, h4, _, h6, _⟩ := hrow r (by omega)
        exact row_bulk (A r) (L r) (Z r) (by omega) (fun h => by have := h6 h; omega))
      simp only [Rows.uptoBulk]
      omega
end Go.Proofs.YtcpjfdaacnkcnaaDoor
