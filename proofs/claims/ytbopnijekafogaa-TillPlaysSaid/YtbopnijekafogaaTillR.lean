/-
  The document's till: its three blocks; in, Order, Keep, Give, Move, All.
-/
import Derived.Test.YtbopnijekafogaaTillC
namespace Go.Proofs.Ytbopnijekafogaa
open Go.RowKit
set_option linter.unusedVariables false

/-- Only what has been there, but for some blocks, is as it was. -/
structure OnlyS (S : Nat → Prop) (w w' : World) : Prop where
  os : w'.os = w.os
  tape : w'.tape = w.tape
  output : w'.output = w.output
  size : w.heap.size ≤ w'.heap.size
  block : ∀ i, i < w.heap.size → ¬ S i → w'.heap[i]? = w.heap[i]?
theorem OnlyS.refl (S : Nat → Prop) (w : World) : OnlyS S w w := ⟨rfl, rfl, rfl, Nat.le_refl _, fun _ _ _ => rfl⟩
theorem OnlyS.trans {S : Nat → Prop} {u v w : World} (h : OnlyS S u v) (k : OnlyS S v w) : OnlyS S u w :=
  ⟨k.os.trans h.os, k.tape.trans h.tape, k.output.trans h.output, Nat.le_trans h.size k.size, fun i hi h1 => (k.block i (Nat.lt_of_lt_of_le hi h.size) h1).trans (h.block i hi h1)⟩
theorem OnlyS.setCell {S : Nat → Prop} {a w : World} (h : OnlyS S a w) {p : Addr} (hp : S p.block) (u : Value) : OnlyS S a (w.setCell p u) :=
  ⟨h.os, h.tape, h.output, by simpa [World.setCell] using h.size, fun i hi h1 => (Below.heap_setCell w p u i (by rintro rfl; exact h1 hp)).trans (h.block i hi h1)⟩
theorem OnlyS.drewN {S : Nat → Prop} {a w : World} (h : OnlyS S a w) (n : Nat) : OnlyS S a (w.drewN n) := ⟨h.os, h.tape, h.output, h.size, h.block⟩
theorem OnlyS.below {S : Nat → Prop} {B : Nat} {a w : World} (h : OnlyS S a w) (hS : ∀ i, S i → B ≤ i) (hB : B ≤ a.heap.size) : Below B a w :=
  ⟨h.os, h.tape, h.output, h.size, fun i hi => h.block i (by omega) (fun hs => by have := hS i hs; omega)⟩
theorem OnlyS.of_below {S : Nat → Prop} {a w : World} (h : Below a.heap.size a w) : OnlyS S a w := ⟨h.os, h.tape, h.output, h.size, fun i hi _ => h.block i hi⟩
theorem OnlyS.of2 {S : Nat → Prop} {b g : Nat} {a w : World} (h : Only2 b g a w) (hb : S b) (hg : S g) : OnlyS S a w :=
  ⟨h.os, h.tape, h.output, h.size, fun i hi h1 => h.block i hi (by rintro rfl; exact h1 hb) (by rintro rfl; exact h1 hg)⟩
theorem Blk.onlyS {S : Nat → Prop} {i : Nat} {a w : World} {t : TypeId} {cs : List Value} (h : Blk a i t cs) (ho : OnlyS S a w) (h1 : ¬ S i) : Blk w i t cs := (ho.block i h.lt h1).trans h
theorem AtT.onlyS {S : Nat → Prop} {w w' : World} {b g : Nat} {l : List (Int × Int)} {K : Int} (h : AtT w b g l K) (ho : OnlyS S w w') (h1 : ¬ S b) (h2 : ¬ S g) : AtT w' b g l K := ⟨h.top.onlyS ho h1, h.row.onlyS ho h2, h.ok, h.kept, h.small⟩

/-- What accounts have; their next numbers. -/
def hs (l : List (Int × Int)) : List Value := l.map fun a => .int .u64 a.1
def ns (l : List (Int × Int)) : List Value := l.map fun a => .int .u64 a.2
theorem hs_length (l : List (Int × Int)) : (hs l).length = l.length := List.length_map ..
theorem ns_length (l : List (Int × Int)) : (ns l).length = l.length := List.length_map ..
theorem hs_at (l : List (Int × Int)) (k : Nat) (hk : k < l.length) : (hs l)[k]? = some (.int .u64 (l.getD k (0, 0)).1) := by
  unfold hs
  rw [List.getElem?_map, List.getElem?_eq_getElem hk]
  simp [List.getD, hk]
theorem ns_at (l : List (Int × Int)) (k : Nat) (hk : k < l.length) : (ns l)[k]? = some (.int .u64 (l.getD k (0, 0)).2) := by
  unfold ns
  rw [List.getElem?_map, List.getElem?_eq_getElem hk]
  simp [List.getD, hk]
theorem hs_set (l : List (Int × Int)) (k : Nat) (x y : Int) : hs (l.set k (x, y)) = (hs l).set k (.int .u64 x) := by unfold hs; rw [List.map_set]
theorem ns_set (l : List (Int × Int)) (k : Nat) (x y : Int) : ns (l.set k (x, y)) = (ns l).set k (.int .u64 y) := by unfold ns; rw [List.map_set]
theorem set_back {α : Type} (l : List α) (k : Nat) (v : α) (h : l[k]? = some v) : l.set k v = l := by
  rw [List.getElem?_eq_some_iff] at h
  obtain ⟨hk, rfl⟩ := h
  exact List.set_getElem_self hk
theorem ns_set_has (l : List (Int × Int)) (k : Nat) (hk : k < l.length) (x : Int) : ns (l.set k (x, (l.getD k (0, 0)).2)) = ns l := by rw [ns_set, set_back _ _ _ (ns_at l k hk)]
theorem hs_set_next (l : List (Int × Int)) (k : Nat) (hk : k < l.length) (x : Int) : hs (l.set k ((l.getD k (0, 0)).1, x)) = hs l := by rw [hs_set, set_back _ _ _ (hs_at l k hk)]

/-- The document's till: b its block, gh what accounts have (with room behind), gn their next numbers. -/
structure RefT (w : World) (b gh gn cap : Nat) (sp : List Value) (l : List (Int × Int)) (K : Int) : Prop where
  top : Blk w b 58 [.slice (some ⟨gh, 0, none⟩) l.length cap, .slice (some ⟨gn, 0, none⟩) l.length l.length, .int .u64 K]
  has : Blk w gh 33 (hs l ++ sp)
  next : Blk w gn 33 (ns l)
  ok : ∀ a ∈ l, Word a.1 ∧ Word a.2
  kept : Word K
  small : l.length ≤ 16
  ne : gh ≠ gn

section
variable {w w' : World} {b gh gn cap : Nat} {sp : List Value} {l : List (Int × Int)} {K : Int}
theorem RefT.nh (h : RefT w b gh gn cap sp l K) : b ≠ gh := h.top.ne_ h.has (by decide)
theorem RefT.nn (h : RefT w b gh gn cap sp l K) : b ≠ gn := h.top.ne_ h.next (by decide)
theorem RefT.c0 (h : RefT w b gh gn cap sp l K) : w.cell? ⟨b, 0, none⟩ = some (.slice (some ⟨gh, 0, none⟩) l.length cap) := h.top.cell 0
theorem RefT.c1 (h : RefT w b gh gn cap sp l K) : w.cell? ⟨b, 1, none⟩ = some (.slice (some ⟨gn, 0, none⟩) l.length l.length) := h.top.cell 1
theorem RefT.c2 (h : RefT w b gh gn cap sp l K) : w.cell? ⟨b, 2, none⟩ = some (.int .u64 K) := h.top.cell 2
theorem RefT.hasCell (h : RefT w b gh gn cap sp l K) (k : Nat) (hk : k < l.length) : w.cell? ⟨gh, k, none⟩ = some (.int .u64 (l.getD k (0, 0)).1) := by
  rw [h.has.cell, List.getElem?_append_left (by rw [hs_length]; exact hk)]; exact hs_at l k hk
theorem RefT.nextCell (h : RefT w b gh gn cap sp l K) (k : Nat) (hk : k < l.length) : w.cell? ⟨gn, k, none⟩ = some (.int .u64 (l.getD k (0, 0)).2) := by
  rw [h.next.cell]; exact ns_at l k hk
theorem RefT.word (h : RefT w b gh gn cap sp l K) (k : Nat) (hk : k < l.length) : Word (l.getD k (0, 0)).1 ∧ Word (l.getD k (0, 0)).2 := by
  rw [show l.getD k (0, 0) = l[k] by simp [List.getD, hk]]
  exact h.ok _ (List.getElem_mem hk)
theorem RefT.setHas (h : RefT w b gh gn cap sp l K) (k : Nat) (hk : k < l.length) (x : Int) (hx : Word x) : RefT (w.setCell ⟨gh, k, none⟩ (.int .u64 x)) b gh gn cap sp (l.set k (x, (l.getD k (0, 0)).2)) K where
  top := by rw [List.length_set]; exact h.top.far (p := ⟨gh, k, none⟩) h.nh _
  has := by
    have := h.has.set_ k (.int .u64 x)
    rw [List.set_append_left _ _ (by rw [hs_length]; exact hk)] at this
    rw [hs_set]; exact this
  next := by rw [ns_set_has l k hk]; exact h.next.far (p := ⟨gh, k, none⟩) (Ne.symm h.ne) _
  ok := fun a ha => by
    rcases List.mem_or_eq_of_mem_set ha with h1 | rfl
    · exact h.ok a h1
    · exact ⟨hx, (h.word k hk).2⟩
  kept := h.kept
  small := by rw [List.length_set]; exact h.small
  ne := h.ne
theorem RefT.setNext (h : RefT w b gh gn cap sp l K) (k : Nat) (hk : k < l.length) (x : Int) (hx : Word x) : RefT (w.setCell ⟨gn, k, none⟩ (.int .u64 x)) b gh gn cap sp (l.set k ((l.getD k (0, 0)).1, x)) K where
  top := by rw [List.length_set]; exact h.top.far (p := ⟨gn, k, none⟩) h.nn _
  has := by rw [hs_set_next l k hk]; exact h.has.far (p := ⟨gn, k, none⟩) h.ne _
  next := by rw [ns_set]; exact h.next.set_ k (.int .u64 x)
  ok := fun a ha => by
    rcases List.mem_or_eq_of_mem_set ha with h1 | rfl
    · exact h.ok a h1
    · exact ⟨(h.word k hk).1, hx⟩
  kept := h.kept
  small := by rw [List.length_set]; exact h.small
  ne := h.ne
theorem RefT.setKept (h : RefT w b gh gn cap sp l K) (x : Int) (hx : Word x) : RefT (w.setCell ⟨b, 2, none⟩ (.int .u64 x)) b gh gn cap sp l x where
  top := h.top.set_ 2 _
  has := h.has.far (p := ⟨b, 2, none⟩) (fun e => h.nh e.symm) _
  next := h.next.far (p := ⟨b, 2, none⟩) (fun e => h.nn e.symm) _
  ok := h.ok
  kept := hx
  small := h.small
  ne := h.ne
theorem RefT.drewN (h : RefT w b gh gn cap sp l K) (n : Nat) : RefT (w.drewN n) b gh gn cap sp l K := ⟨h.top.drewN n, h.has.drewN n, h.next.drewN n, h.ok, h.kept, h.small, h.ne⟩
theorem RefT.keep (h : RefT w b gh gn cap sp l K) (hB : Below w.heap.size w w') : RefT w' b gh gn cap sp l K := ⟨h.top.below hB h.top.lt, h.has.below hB h.has.lt, h.next.below hB h.next.lt, h.ok, h.kept, h.small, h.ne⟩
theorem RefT.onlyS {S : Nat → Prop} (h : RefT w b gh gn cap sp l K) (ho : OnlyS S w w') (h1 : ¬ S b) (h2 : ¬ S gh) (h3 : ¬ S gn) : RefT w' b gh gn cap sp l K := ⟨h.top.onlyS ho h1, h.has.onlyS ho h2, h.next.onlyS ho h3, h.ok, h.kept, h.small, h.ne⟩
end
theorem AtT.drewN {w : World} {b g : Nat} {l : List (Int × Int)} {K : Int} (h : AtT w b g l K) (n : Nat) : AtT (w.drewN n) b g l K := ⟨h.top.drewN n, h.row.drewN n, h.ok, h.kept, h.small⟩

theorem wrp_word2 {x : Int} (h : Word x) : IntKind.u64.wrap x = x := by
  have := wr_mod x
  unfold wrp at this
  rw [this]
  unfold Word at h
  omega
def inBB (who : Int) (n : Nat) : Bool := decide (0 ≤ who ∧ who < n)

set_option maxHeartbeats 1000000 in
theorem rin_yes (b gh gn cap k : Nat) (sp : List Value) (l : List (Int × Int)) (K : Int) (w : World) (h : RefT w b gh gn cap sp l K) (hk : k < l.length) :
    Calls Try.prog 28 #[.pointer (some ⟨b, 0, none⟩), .int .i64 k] w fun e w' => e = .returned (.bool true) ∧ w = w' := by
  have hc := h.c0
  have hs := h.small
  obtain ⟨m, hm⟩ : ∃ m, l.length = m := ⟨_, rfl⟩
  rw [hm] at hc hs hk
  clear h hm
  have d : decide ((k : Int) < m) = true := decide_eq_true (by omega)
  have d0 : decide ((0 : Int) ≤ k) = true := decide_eq_true (by omega)
  go_enter Try.func28, Try.ntmps28
  go_wp2
  go_ret
  exact ⟨rfl, rfl⟩

set_option maxHeartbeats 1000000 in
theorem rin_no (b gh gn cap : Nat) (who : Int) (sp : List Value) (l : List (Int × Int)) (K : Int) (w : World) (h : RefT w b gh gn cap sp l K) (hk : ¬ (0 ≤ who ∧ who < l.length)) :
    Calls Try.prog 28 #[.pointer (some ⟨b, 0, none⟩), .int .i64 who] w fun e w' => e = .returned (.bool false) ∧ w = w' := by
  have hc := h.c0
  have hs := h.small
  obtain ⟨m, hm⟩ : ∃ m, l.length = m := ⟨_, rfl⟩
  rw [hm] at hc hs hk
  clear h hm
  by_cases h1 : who < 0
  · have d0 : decide ((0 : Int) ≤ who) = false := decide_eq_false (by omega)
    clear hk
    go_enter Try.func28, Try.ntmps28
    go_wp2
    go_ret
    exact ⟨rfl, rfl⟩
  · have d0 : decide ((0 : Int) ≤ who) = true := decide_eq_true (by omega)
    have d : decide (who < (m : Int)) = false := decide_eq_false (by omega)
    clear hk
    go_enter Try.func28, Try.ntmps28
    go_wp2
    go_ret
    exact ⟨rfl, rfl⟩

def RPost (b gh gn cap : Nat) (sp : List Value) (l : List (Int × Int)) (K r : Int) (w : World) (e : Ending) (w' : World) : Prop := e = .returned (.int .i64 r) ∧ RefT w' b gh gn cap sp l K ∧ OnlyS (fun i => i = b ∨ i = gh ∨ i = gn) w w'

set_option maxHeartbeats 1000000 in
theorem rorder_any (b gh gn cap : Nat) (sp : List Value) (l : List (Int × Int)) (K who n : Int) (w : World) (h : RefT w b gh gn cap sp l K) (hn : Word n) :
    Calls Try.prog 13 #[.pointer (some ⟨b, 0, none⟩), .int .i64 who, .int .u64 n] w (RPost b gh gn cap sp (ordL l who n) K (ordE l who n) w) := by
  have H := Lib.hid h
  rcases chk_cases who l.length with ⟨h1, h2⟩ | ⟨k, rfl, hk, h2⟩
  · have e1 : ordE l who n = 1 := if_neg h1
    have e2 : ordL l who n = l := if_neg (by rw [e1]; decide)
    rw [e1, e2]
    have HI := Lib.hid (rin_no b gh gn cap who sp l K w h h1)
    clear h e1 e2 h1 h2
    go_enter Try.func13, Try.ntmps13
    go_wp2_with fail
    refine HI.out.mono ?_
    rintro e w' ⟨rfl, rfl⟩
    go_wp2
    go_ret
    exact ⟨rfl, H.out, OnlyS.refl _ _⟩
  · have HI := Lib.hid (rin_yes b gh gn cap k sp l K w h hk)
    have hc := h.c1
    have hs := h.small
    have hh := h.nextCell k hk
    have hf := h.next.frozen k
    have hw := (h.word k hk).2
    by_cases hx : n = (l.getD k (0, 0)).2
    · have e1 : ordE l k n = 0 := by
        unfold ordE
        rw [if_pos ⟨by omega, by omega⟩, Int.toNat_natCast, if_pos hx]
      have e2 : ordL l k n = l.set k ((l.getD k (0, 0)).1, wrp (n + 1)) := by
        unfold ordL
        rw [if_pos e1, Int.toNat_natCast]
      have HA := Lib.hid (h.setNext k hk _ (wr_word (n + 1)))
      rw [e1, e2]
      rw [← hx] at hh
      obtain ⟨y, hy⟩ : ∃ y, wrp (n + 1) = y := ⟨_, rfl⟩
      rw [hy] at HA ⊢
      have hy' : IntKind.u64.wrap (n + 1) = y := hy
      obtain ⟨m, hm⟩ : ∃ m, l.length = m := ⟨_, rfl⟩
      rw [hm] at hc hs hk
      have b1 : (n != n) = false := by simp
      clear h e1 e2 h2 hx hw hm hy
      go_enter Try.func13, Try.ntmps13
      go_wp2_with fail
      refine HI.out.mono ?_
      rintro e w' ⟨rfl, rfl⟩
      go_wp2
      go_ret
      exact ⟨rfl, HA.out, (OnlyS.refl _ _).setCell (p := ⟨gn, k, none⟩) (.inr (.inr rfl)) _⟩
    · have e1 : ordE l k n = 22 := by
        unfold ordE
        rw [if_pos ⟨by omega, by omega⟩, Int.toNat_natCast, if_neg hx]
      have e2 : ordL l k n = l := if_neg (by rw [e1]; decide)
      rw [e1, e2]
      obtain ⟨y, hy⟩ : ∃ y, (l.getD k (0, 0)).2 = y := ⟨_, rfl⟩
      rw [hy] at hx hh
      have b1 : (y != n) = true := by simpa using fun e => hx (Eq.symm e)
      obtain ⟨m, hm⟩ : ∃ m, l.length = m := ⟨_, rfl⟩
      rw [hm] at hc hs hk
      clear h e1 e2 h2 hx hw hm hy
      go_enter Try.func13, Try.ntmps13
      go_wp2_with fail
      refine HI.out.mono ?_
      rintro e w' ⟨rfl, rfl⟩
      go_wp2
      go_ret
      exact ⟨rfl, H.out, OnlyS.refl _ _⟩

set_option maxHeartbeats 1000000 in
theorem rkeep_any (b gh gn cap : Nat) (sp : List Value) (l : List (Int × Int)) (K who n : Int) (w : World) (h : RefT w b gh gn cap sp l K) (hn : Word n) :
    Calls Try.prog 15 #[.pointer (some ⟨b, 0, none⟩), .int .i64 who, .int .u64 n] w (RPost b gh gn cap sp (keepL l who n) (keepK l K who n) (keepE l who n) w) := by
  have H := Lib.hid h
  rcases chk_cases who l.length with ⟨h1, h2⟩ | ⟨k, rfl, hk, h2⟩
  · have e1 : keepE l who n = 1 := if_neg h1
    have e2 : keepL l who n = l := if_neg (by rw [e1]; decide)
    have e3 : keepK l K who n = K := if_neg (by rw [e1]; decide)
    rw [e1, e2, e3]
    have HI := Lib.hid (rin_no b gh gn cap who sp l K w h h1)
    clear h e1 e2 e3 h1 h2
    go_enter Try.func15, Try.ntmps15
    go_wp2_with fail
    refine HI.out.mono ?_
    rintro e w' ⟨rfl, rfl⟩
    go_wp2
    go_ret
    exact ⟨rfl, H.out, OnlyS.refl _ _⟩
  · have HI := Lib.hid (rin_yes b gh gn cap k sp l K w h hk)
    have hc := h.c0
    have hs := h.small
    have hh := h.hasCell k hk
    have hf := h.has.frozen k
    have hw := (h.word k hk).1
    by_cases hx : (l.getD k (0, 0)).1 < n
    · have e1 : keepE l k n = 12 := by
        unfold keepE
        rw [if_pos ⟨by omega, by omega⟩, Int.toNat_natCast, if_pos hx]
      have e2 : keepL l k n = l := if_neg (by rw [e1]; decide)
      have e3 : keepK l K k n = K := if_neg (by rw [e1]; decide)
      rw [e1, e2, e3]
      obtain ⟨y, hy⟩ : ∃ y, (l.getD k (0, 0)).1 = y := ⟨_, rfl⟩
      rw [hy] at hx hh
      have b1 : decide (y < n) = true := decide_eq_true hx
      obtain ⟨m, hm⟩ : ∃ m, l.length = m := ⟨_, rfl⟩
      rw [hm] at hc hs hk
      clear h e1 e2 e3 h2 hx hw hm hy
      go_enter Try.func15, Try.ntmps15
      go_wp2_with fail
      refine HI.out.mono ?_
      rintro e w' ⟨rfl, rfl⟩
      go_wp2
      go_ret
      exact ⟨rfl, H.out, OnlyS.refl _ _⟩
    · have e1 : keepE l k n = 0 := by
        unfold keepE
        rw [if_pos ⟨by omega, by omega⟩, Int.toNat_natCast, if_neg hx]
      have e2 : keepL l k n = l.set k ((l.getD k (0, 0)).1 - n, (l.getD k (0, 0)).2) := by
        unfold keepL
        rw [if_pos e1, Int.toNat_natCast]
      have e3 : keepK l K k n = wrp (K + n) := if_pos e1
      rw [e1, e2, e3]
      have HW : Word ((l.getD k (0, 0)).1 - n) := by unfold Word at *; omega
      have HA := Lib.hid (((h.drewN 1).setHas k hk _ HW).setKept _ (wr_word (K + n)))
      have hkp := h.c2
      have hne := h.nh
      have hf2 := h.top.frozen 2
      obtain ⟨y, hy⟩ : ∃ y, (l.getD k (0, 0)).1 = y := ⟨_, rfl⟩
      rw [hy] at hx hh HA ⊢
      have b1 : decide (y < n) = false := decide_eq_false hx
      obtain ⟨z, hz⟩ : ∃ z, wrp (K + n) = z := ⟨_, rfl⟩
      rw [hz] at HA ⊢
      have hz' : IntKind.u64.wrap (K + n) = z := hz
      have hyn : IntKind.u64.wrap (y - n) = y - n := by
        rw [hy] at hw
        exact wrp_word2 (by unfold Word at *; omega)
      obtain ⟨m, hm⟩ : ∃ m, l.length = m := ⟨_, rfl⟩
      rw [hm] at hc hs hk
      obtain ⟨v, hv⟩ : ∃ v, y - n = v := ⟨_, rfl⟩
      rw [hv] at hyn HA ⊢
      have hs1 : IntKind.u64.wrap (y - n) = v := by rw [hv]; exact hyn
      clear h e1 e2 e3 h2 hx hw hm hy hz hyn hv HW
      have hk0 : (0 : Int) ≤ (k : Int) := Int.natCast_nonneg _
      have hk1 : (k : Int) < (m : Int) := by omega
      go_enter Try.func15, Try.ntmps15
      go_wp2_with fail
      refine HI.out.mono ?_
      rintro e w' ⟨rfl, rfl⟩
      go_wp2_with fail
      go_still_tail 15, (by kernel_rfl)
      change wpList _ _ _ _ _ w.drew
      go_wp2
      go_ret
      exact ⟨rfl, HA.out, ((OnlyS.refl _ w).drewN 1 |>.setCell (p := ⟨gh, k, none⟩) (.inr (.inl rfl)) _).setCell (p := ⟨b, 2, none⟩) (.inl rfl) _⟩
end Go.Proofs.Ytbopnijekafogaa
