/-
  The document's Sum, All.
-/
import Derived.Test.YtnnimjaigciedaaWebRw
namespace Go.Proofs.Ytnnimjaigciedaa
open Go.RowKit
set_option linter.unusedVariables false

/-- Where the document's sum stands: it goes on, or it has ended in an error. -/
def Sums (xs : List Int) (k : Nat) (s e : Int) : Prop := (e = 0 ∧ sumGo 0 xs = sumGo s (xs.drop k)) ∨ (e ≠ 0 ∧ sumV xs = s ∧ sumE xs = e)

set_option maxHeartbeats 1000000 in
theorem rsum_any (a : Option Addr) (cap : Nat) (xs : List Int) (w : World) (hN : Nums w a xs) :
    Calls Try.prog 58 #[.slice a xs.length cap] w fun e w' => e = .returned (.tuple #[.int .u64 (sumV xs), .int .i64 (sumE xs)]) ∧ w = w' := by
  have HN := Lib.hid hN
  obtain ⟨h1, h2, h3⟩ := hN
  have h2' := Lib.hid h2
  clear h2
  rcases h1 with rfl | ⟨b, off, rfl, hb, hc⟩
  · have e1 : sumV [] = 0 := rfl
    have e2 : sumE [] = 0 := rfl
    rw [e1, e2]
    clear e1 e2
    go_enter Try.func58, Try.ntmps58
    go_wp2
    refine wp_loop_rounds 1 ?_
    rw [rounds_succ]
    go_wp2
    go_ret2
    exact ⟨rfl, rfl⟩
  · have HC := Lib.hid hc
    clear hc
    obtain ⟨len, hlen⟩ : ∃ n, xs.length = n := ⟨_, rfl⟩
    rw [hlen] at h3 ⊢
    have HL := Lib.hid hlen
    clear hlen
    go_enter Try.func58, Try.ntmps58
    go_wp2
    go_loop [4, 5, 6] (fun t v i => ∃ (k : Nat) (s e : Int), k ≤ len ∧ i = .int .i64 k ∧ t = .int .u64 s ∧ v = .int .i64 e ∧ Word s ∧ Hid (Sums xs k s e)) (fun _ _ i => len - (intOf i).toNat)
    case atStart => exact ⟨0, 0, 0, Nat.zero_le _, rfl, rfl, rfl, by unfold Word; omega, Lib.hid (.inl ⟨rfl, rfl⟩)⟩
    case round =>
      obtain ⟨k, s, e, hk, rfl, rfl, rfl, hs, HS⟩ := hrel
      by_cases hlt : k < len
      · by_cases he : e = 0
        · subst he
          have hS : sumGo 0 xs = sumGo s (xs.drop k) := by
            rcases HS.out with h | h
            · exact h.2
            · exact absurd rfl h.1
          have hxs : k < xs.length := by rw [HL.out]; exact hlt
          obtain ⟨x, hx⟩ : ∃ x, xs.getD k 0 = x := ⟨_, rfl⟩
          have hcell := HC.out k hxs
          rw [hx] at hcell
          have hwx : Word x := hx ▸ HN.out.getD_word k
          have HX := Lib.hid (sum_step hS hxs hx)
          have hw' := addV_word hs hwx
          clear hx hxs hS
          go_wp2_with (go_at_call 56; refine (radd_any _ _ _ hs hwx).mono ?_; rintro e w' ⟨rfl, rfl⟩)
          go_round
          case rel =>
            refine ⟨k + 1, _, _, by omega, by go_num, rfl, rfl, hw', Lib.hid ?_⟩
            by_cases h0 : addE s x = 0
            · exact .inl ⟨h0, HX.out.1 h0⟩
            · have := HX.out.2 h0
              have hv : addV s x = 0 := by
                unfold addE at h0
                unfold addV
                split at h0
                · exact absurd rfl h0
                · rename_i h; rw [if_neg h]
              exact .inr ⟨h0, by rw [hv]; exact this.1, this.2⟩
          case measure => simp [intOf]; omega
        · have b0 : (e == 0) = false := by simpa using he
          have HE : Hid (sumV xs = s ∧ sumE xs = e) := by
            rcases HS.out with h | h
            · exact absurd h.1 he
            · exact h.2
          clear he
          go_wp2
          go_ret2
          exact ⟨by rw [HE.out.1, HE.out.2]; rfl, rfl⟩
      · have HE : Hid (sumV xs = s ∧ sumE xs = e) := by
          rcases HS.out with h | h
          · have := sum_end h.2 (by rw [HL.out]; omega)
            exact ⟨this.1, by rw [this.2, h.1]⟩
          · exact h.2
        go_wp2
        all_goals
          go_ret2
          exact ⟨by rw [HE.out.1, HE.out.2]; rfl, rfl⟩

/-- What all channels can send, one number behind the other. -/
def caps : List Ed → List Int
  | [] => []
  | e :: r => e.c :: e.d :: caps r
theorem caps_length (l : List Ed) : (caps l).length = l.length * 2 := by
  induction l with
  | nil => rfl
  | cons e r ih => simp [caps, ih]; omega
theorem caps_snoc (l : List Ed) (k : Nat) (hk : k < l.length) : caps (l.take (k + 1)) = caps (l.take k) ++ [(l.getD k ed0).c, (l.getD k ed0).d] := by
  induction l generalizing k with
  | nil => simp at hk
  | cons e r ih =>
    match k, hk with
    | 0, _ => simp [caps]
    | k + 1, hk =>
      have := ih k (by simpa using hk)
      simp only [List.take_succ_cons, caps, List.cons_append, List.getD_cons_succ, this]
theorem caps_word (l : List Ed) (h : ∀ e ∈ l, EdOk e) : ∀ n ∈ caps l, Word n := by
  induction l with
  | nil => intro n hn; simp [caps] at hn
  | cons e r ih =>
    intro n hn
    simp [caps] at hn
    rcases hn with rfl | rfl | hn
    · exact (h e (by simp)).2.2.1
    · exact (h e (by simp)).2.2.2.1
    · exact ih (fun e he => h e (by simp [he])) n hn
theorem all_caps (l : List Ed) (h : ∀ e ∈ l, EdOk e) : ∀ s, Word s → allGo s l = sumGo s (caps l) := by
  induction l with
  | nil => intro s _; rfl
  | cons e r ih =>
    intro s hs
    have hc := (h e (by simp)).2.2.1
    have hd := (h e (by simp)).2.2.2.1
    have ih := ih fun e he => h e (by simp [he])
    obtain ⟨h1, h2⟩ := sum3 s e.c e.d hs hc hd
    unfold allGo caps
    rw [h1, sumGo]
    have hs' := hs
    unfold Word at hs hc hd
    by_cases a1 : s + e.c < 18446744073709551616
    · have e1 : addE s e.c = 0 := if_pos a1
      have v1 : addV s e.c = s + e.c := if_pos a1
      rw [if_pos e1, v1, sumGo]
      by_cases a2 : s + e.c + e.d < 18446744073709551616
      · have e2 : addE (s + e.c) e.d = 0 := if_pos a2
        have v2 : addV (s + e.c) e.d = s + e.c + e.d := if_pos a2
        rw [if_pos a2, if_pos rfl, if_pos e2, v2, h2 a2]
        exact ih _ (by unfold Word; omega)
      · have e2 : ¬ addE (s + e.c) e.d = 0 := by unfold addE; rw [if_neg a2]; decide
        rw [if_neg a2, if_neg (by decide), if_neg e2]
    · have e1 : ¬ addE s e.c = 0 := by unfold addE; rw [if_neg a1]; decide
      rw [if_neg (show ¬ s + e.c + e.d < 18446744073709551616 by omega), if_neg e1]
      exact if_neg (by decide)

def us (xs : List Int) : List Value := xs.map fun x => .int .u64 x
theorem us_append (a b : List Int) : us (a ++ b) = us a ++ us b := List.map_append
theorem us_at (xs : List Int) (i : Nat) (h : i < xs.length) : (us xs)[i]? = some (.int .u64 (xs.getD i 0)) := by
  unfold us
  rw [List.getElem?_map, List.getElem?_eq_getElem h, getD_at xs i h]
  rfl
theorem Nums.of_own {w : World} {base : Nat} {v : Value} {xs : List Int} (h : w.ownsRow base 40 1 v xs.length (us xs)) (hw : ∀ n ∈ xs, Word n) (hl : xs.length ≤ 1000) : ∃ a c, v = .slice a xs.length c ∧ Nums w a xs := by
  rcases h.2 with ⟨rfl, h0⟩ | ⟨g, c, cur, rfl, _, hg, _⟩
  · have : xs = [] := List.eq_nil_of_length_eq_zero h0
    subst this
    exact ⟨none, 0, rfl, .inl rfl, hw, by omega⟩
  · refine ⟨_, c, rfl, .inr ⟨g, 0, rfl, ?_, fun i hi => ?_⟩, hw, by omega⟩
    · rcases Nat.lt_or_ge g w.heap.size with h2 | h2
      · exact h2
      · rw [Array.getElem?_eq_none h2] at hg; cases hg
    · have h2 := h.cells (g := g) rfl i _ (us_at xs i hi)
      rw [Go.WideShapes.add_plain] at h2
      exact h2
theorem info40 : (Try.prog.info? 40).map (fun i => (i.zero, i.size, i.bytes)) = some (some (.int .u64 0), 1, 8) := by kernel_rfl
section
variable {ops : Array Oper} {o : Oper} {a : Act} {w : World} {K : Act → World → Prop} {Q : Exit → Act → World → Prop} {E : Prop}
theorem step_two (hw : Region.wanted o (yielded ops a.tmps) = true) (s t : Nat) (ho : o.op = .buildSlice 85 2 #[(0, .tmp s), (1, .tmp t)]) (x y : Int) (hs : a.eval (.tmp s) = .int .u64 x) (ht : a.eval (.tmp t) = .int .u64 y)
    (h : ∀ Y g, Below w.heap.size w Y → Blk Y g 40 (us [x, y]) → w.heap.size ≤ g → K (a.put o.dst (.slice (some ⟨g, 0, none⟩) 2 2)) Y) :
    if Region.wanted o (yielded ops a.tmps) = true then Oper.wp Try.prog o a w K Q else E :=
  step_lay hw 85 2 _ ho #[(0, .int .u64 x), (1, .int .u64 y)] (by simp [hs, ht]) _ (w.alloc (.cells #[.int .u64 x, .int .u64 y] 40)) (by kernel_rfl) (h _ _ ((Below.refl _ _).alloc (Nat.le_refl _) _) (Blk.new w 40 (us [x, y])) (Nat.le_refl _))
set_option maxRecDepth 100000 in
theorem step_num (hw : Region.wanted o (yielded ops a.tmps) = true) (s x : Operand) (ho : o.op = .call { callee := .builtin .append, args := #[s, x], argTypes := #[85, 85] }) (base : Nat) (v : Value) (l q : List Int) (hs : a.eval s = v) (hown : w.ownsRow base 40 1 v l.length (us l))
    (g n c : Nat) (hx : a.eval x = .slice (some ⟨g, 0, none⟩) n c) (hg : Blk w g 40 (us q)) (hq : q.length = n) (hl : l.length ≤ 400) (hn : n ≤ 10) (hbase : base ≤ w.heap.size)
    (h : ∀ v' Y, Y.ownsRow base 40 1 v' (l ++ q).length (us (l ++ q)) → w.grownBy Y v.ownBlock → K (a.put o.dst v') Y) :
    if Region.wanted o (yielded ops a.tmps) = true then Oper.wp Try.prog o a w K Q else E := by
  obtain ⟨i0, hi, hz0, hz1, hz2⟩ := info_parts info40
  refine step_own hw s x 85 ho base 40 i0 _ 1 8 Try.underlying85 hi hz0 hz1 hz2 rfl (by decide) v l.length (us l) hs hown ⟨g, 0, none⟩ n c (us q) hx (by unfold us; simp [hq]) (news_of hg) (fun u hu => by unfold us at hu; obtain ⟨x, _, rfl⟩ := List.mem_map.1 hu; rfl) (by unfold maxLen; omega) (by omega) hbase (fun v' Y h1 h2 _ _ => h v' Y ?_ h2)
  rw [us_append, List.length_append, hq]; exact h1
end
end Go.Proofs.Ytnnimjaigciedaa
