/-
  The document's next state, whatever is wanted; amounts turned in a row and back.
-/
import Derived.Test.YtkiifjkcpangfaaPacV
import Derived.Test.YtkiifjkcpangfaaPacV2
import Derived.Test.YtkiifjkcpangfaaPacV4
import Derived.Laws.BitsAllLaws
namespace Go.Proofs.Ytkiifjkcpangfaa
open Go.RowKit
set_option linter.unusedVariables false

theorem rnext_any (n cap : Nat) (s : St) (a : Option Addr) (p0 p1 side k amt id : Int) (c : Cnd) (w : World) (hC : CRow w a s.cs) (hl : s.cs.length = n) (hn : n ≤ 1000) (hok : c.Ok) (hamt : Word amt) (hp0 : Word p0) (hp1 : Word p1) (hO : s.Ok) :
    Calls Try.prog 26 #[.agg #[.int .u32 s.ch, .int .u64 s.rd, .int .u64 s.m0, .int .u64 s.m1, .int .u64 s.t0, .int .u64 s.t1, .slice a n cap], .agg #[.int .u64 p0, .int .u64 p1], .int .i64 side, .agg (ocells k amt c id).toArray] w (RNextPost (nextS s p0 p1 side k amt c id) (nextE s p0 p1 side k amt c id) w) := by
  by_cases h1 : soundE s p0 p1 = 0
  case neg => exact rnext_bad n cap s a p0 p1 side k amt id c w hC hl hn hok hamt hp0 hp1 hO (.inl h1)
  by_cases h2 : s.rd = 200
  case pos => exact rnext_bad n cap s a p0 p1 side k amt id c w hC hl hn hok hamt hp0 hp1 hO (.inr (.inl h2))
  by_cases h3 : side = turnF (s.rd + 1)
  case neg => exact rnext_bad n cap s a p0 p1 side k amt id c w hC hl hn hok hamt hp0 hp1 hO (.inr (.inr h3))
  by_cases h4 : k = 3
  case pos => subst h4; exact rnext_3 n cap s a p0 p1 side amt id c w hC hl hn hok hamt hp0 hp1 hO h1 h2 h3
  by_cases h5 : k = 4
  case pos => subst h5; exact rnext_4 n cap s a p0 p1 side amt id c w hC hl hn hok hamt hp0 hp1 hO h1 h2 h3
  by_cases h6 : k = 2
  case pos => subst h6; exact rnext_2 n cap s a p0 p1 side amt id c w hC hl hn hok hamt hp0 hp1 hO h1 h2 h3
  exact rnext_a n cap s a p0 p1 side k amt id c w hC hl hn hok hamt hp0 hp1 hO h1 h2 h3 h6 h4 h5

def fx (x : Int) : Int := bits .xor .u64 x 1
theorem fx_word {x : Int} (h : Word x) : Word (fx x) ∧ fx (fx x) = x := by
  obtain ⟨n, rfl⟩ : ∃ n : Nat, x = n := ⟨x.toNat, by have := h.1; omega⟩
  have hn : n < 18446744073709551616 := by have := h.2; omega
  have e : ∀ m : Nat, m < 18446744073709551616 → fx (m : Int) = ((m ^^^ 1 : Nat) : Int) := fun m hm => u64_xor_nat m 1 hm (by decide)
  have hx : n ^^^ 1 < 2 ^ 64 := Nat.xor_lt_two_pow (by omega) (by decide)
  rw [e n hn]
  refine ⟨⟨by omega, by omega⟩, ?_⟩
  rw [e _ (by omega), Nat.xor_assoc, Nat.xor_self, Nat.xor_zero]
def Cnd.fl (c : Cnd) : Cnd := ⟨c.id, c.side, fx c.amt, c.h, c.ex⟩
theorem Cnd.Ok.fl {c : Cnd} (h : c.Ok) : c.fl.Ok := ⟨h.id, (fx_word h.amt).1, h.h⟩
theorem Cnd.fl_fl {c : Cnd} (h : c.Ok) : c.fl.fl = c := by
  unfold Cnd.fl
  rw [(fx_word h.amt).2]
theorem Cnd.set2 (c : Cnd) : c.cells.set 2 (.int .u64 (fx c.amt)) = c.fl.cells := rfl
/-- The first payments turned. -/
def flp (l : List Cnd) (i : Nat) : List Cnd := (l.take i).map Cnd.fl ++ l.drop i
theorem flp_0 (l : List Cnd) : flp l 0 = l := by simp [flp]
theorem flp_all (l : List Cnd) : flp l l.length = l.map Cnd.fl := by simp [flp]
theorem flp_len (l : List Cnd) (i : Nat) : (flp l i).length = l.length := by simp only [flp, List.length_append, List.length_map, List.length_take, List.length_drop]; omega
theorem map_ok {l : List Cnd} (h : ∀ c ∈ l, c.Ok) : ∀ c ∈ l.map Cnd.fl, c.Ok := fun c hc => by
  obtain ⟨d, hd, rfl⟩ := List.mem_map.1 hc
  exact (h d hd).fl
theorem flp_ok {l : List Cnd} (h : ∀ c ∈ l, c.Ok) (i : Nat) : ∀ c ∈ flp l i, c.Ok := fun c hc => by
  rcases List.mem_append.1 hc with h1 | h1
  · exact map_ok (fun d hd => h d (List.mem_of_mem_take hd)) c h1
  · exact h c (List.mem_of_mem_drop h1)
theorem map_map {l : List Cnd} (h : ∀ c ∈ l, c.Ok) : (l.map Cnd.fl).map Cnd.fl = l := by
  rw [List.map_map]
  conv => rhs; rw [← List.map_id l]
  exact List.map_congr_left (fun c hc => Cnd.fl_fl (h c hc))
theorem flp_split (l : List Cnd) (i : Nat) (h : i < l.length) : flp l i = (l.take i).map Cnd.fl ++ (l.getD i cnd0 :: l.drop (i + 1)) ∧ flp l (i + 1) = (l.take i).map Cnd.fl ++ ((l.getD i cnd0).fl :: l.drop (i + 1)) := by
  refine ⟨by rw [flp, drop_cnd l i h], ?_⟩
  rw [flp, take_snoc l i h, List.map_append, List.append_assoc]
  rfl
/-- A row's cells behind one amount's turn. -/
theorem flp_cells (l : List Cnd) (hok : ∀ c ∈ l, c.Ok) (sp : List Value) (i : Nat) (h : i < l.length) : (cflat (flp l i) ++ sp)[i * 36 + 2]? = some (.int .u64 (l.getD i cnd0).amt) ∧ (cflat (flp l i) ++ sp).set (i * 36 + 2) (.int .u64 (fx (l.getD i cnd0).amt)) = cflat (flp l (i + 1)) ++ sp := by
  obtain ⟨e1, e2⟩ := flp_split l i h
  have hl : (cflat ((l.take i).map Cnd.fl)).length = i * 36 := by
    rw [cflat_length _ (map_ok (fun d hd => hok d (List.mem_of_mem_take hd))), List.length_map, List.length_take]; omega
  have hc : (l.getD i cnd0).cells.length = 36 := (hok _ (getD_mem h)).len
  rw [e1, e2, cflat_append, cflat_append, cflat_cons, cflat_cons, List.append_assoc, List.append_assoc, List.append_assoc, List.append_assoc]
  constructor
  · rw [List.getElem?_append_right (by rw [hl]; omega), hl, show i * 36 + 2 - i * 36 = 2 by omega, List.getElem?_append_left (by rw [hc]; decide)]
    exact Cnd.c2 _
  · rw [List.set_append_right _ _ (by rw [hl]; omega), hl, show i * 36 + 2 - i * 36 = 2 by omega, List.set_append_left _ _ (by rw [hc]; decide), Cnd.set2]
/-- A row of one's own, laid open: so many payments at the beginning of a block, or none. -/
def YB (BN : Nat) (a : Option Addr) (n : Nat) (l : List Cnd) (sp : List Value) (W : World) : Prop := n = 0 ∨ ∃ g, a = some ⟨g, 0, none⟩ ∧ BN ≤ g ∧ Blk W g 60 (cflat l ++ sp)
theorem YB.of_own {W : World} {BN n c : Nat} {a : Option Addr} {l : List Cnd} (h : W.ownsRow BN 60 36 (.slice a n c) n (cflat l)) : ∃ sp, YB BN a n l sp W := by
  have hlt := h.lt
  rcases h.2 with ⟨_, h0⟩ | ⟨g, cap, cur, h1, _, hg, hnc, hcm, hcs, htk⟩
  · exact ⟨[], .inl h0⟩
  · injection h1 with h1 h2 h3
    subst h1
    refine ⟨cur.toList.drop (n * 36), .inr ⟨g, rfl, (hlt g rfl).1, ?_⟩⟩
    unfold Blk
    rw [← htk, List.take_append_drop]
    exact hg
theorem YB.keep {W W' : World} {BN n : Nat} {a : Option Addr} {l : List Cnd} {sp : List Value} (h : YB BN a n l sp W) (hB : Below W.heap.size W W') : YB BN a n l sp W' := h.imp id fun ⟨g, h1, h2, h3⟩ => ⟨g, h1, h2, h3.below hB h3.lt⟩
theorem YB.row {W : World} {BN n : Nat} {a : Option Addr} {l : List Cnd} {sp : List Value} (h : YB BN a n l sp W) (hl : l.length = n) (hok : ∀ c ∈ l, c.Ok) : CRow W a l := by
  refine ⟨?_, hok⟩
  rcases h with h0 | ⟨g, rfl, _, hg⟩
  · exact .inl (List.eq_nil_of_length_eq_zero (by rw [hl]; exact h0))
  · refine .inr ⟨g, 0, rfl, hg.lt, fun i hi j u hu => ?_⟩
    have h5 := cflat_at l hok i hi j u hu
    have h7 := (List.getElem?_eq_some_iff.1 h5).1
    rw [Nat.zero_add, hg.cell, List.getElem?_append_left h7]
    exact h5
end Go.Proofs.Ytkiifjkcpangfaa
