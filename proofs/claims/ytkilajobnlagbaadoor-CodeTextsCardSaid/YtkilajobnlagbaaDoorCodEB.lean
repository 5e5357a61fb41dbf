/-
  Text 14: whatever bytes it is given.
-/
import Derived.Test.YtkilajobnlagbaaDoorCodEA
import Derived.Test.YtkilajobnlagbaaDoorShelfB
namespace Go.Proofs.YtkilajobnlagbaaDoor
open Go.RowKit
set_option linter.unusedVariables false

/-- A program's lines, its text. -/
def linesOf (p : List Int) (bs : List Nat) : List ByteArray := bs.map fun b => lineS (nm (opAt p b)) (fol (opAt p b)) (numAt p b).toNat
def joinS (l : List ByteArray) : ByteArray := ⟨(Lib.join (l.map (·.data.toList)) [10]).toArray⟩
def textV (p : List Int) : ByteArray := if (ordsV p).1 ≠ 0 then ⟨#[]⟩ else joinS (linesOf p (ordsV p).2)
theorem begF_len (p : List Int) : ∀ (f at_ : Nat) (bs : List Nat), (begF p f at_ bs).2.length ≤ bs.length + f
  | 0, _, bs => by simp [begF]
  | f + 1, at_, bs => by
    rw [begF]
    split
    · exact Nat.le_add_right _ _
    · split
      · simp
      · have := begF_len p f (at_ + 1 + fol (opAt p at_)) (bs ++ [at_])
        rw [List.length_append] at this
        simp at this
        omega
theorem ordsV_few (p : List Int) : (ordsV p).2.length ≤ 257 := by
  unfold ordsV
  split
  · simp
  · split
    · simp
    · split
      · simp
      · have := begF_len p (p.length + 1) 0 []
        simp at this
        show (begF p (p.length + 1) 0 []).2.length ≤ 257
        omega
theorem nm_le (op : Nat) : (nm op).size ≤ 5 := by
  by_cases h : op < 18
  · have : ∀ op, op < 18 → (nm op).size ≤ 5 := by decide
    exact this op h
  · unfold nm nmB
    simp [List.getD, show ¬ op < 18 by omega, ByteArray.size]
theorem size_append_ (a b : ByteArray) : (a ++ b).size = a.size + b.size := by simp
theorem line_le (p : List Int) (b : Nat) (hn : (numAt p b).toNat < 18446744073709551616) : (lineS (nm (opAt p b)) (fol (opAt p b)) (numAt p b).toNat).size ≤ 26 := by
  have h1 := nm_le (opAt p b)
  have h2 := dec_le _ hn
  unfold lineS
  split
  · omega
  · rw [size_append_, size_append_]
    have e1 : (⟨#[32]⟩ : ByteArray).size = 1 := rfl
    have e2 : (⟨(Lib.decDigits (numAt p b).toNat).toArray⟩ : ByteArray).size = (Lib.decDigits (numAt p b).toNat).length := by simp [ByteArray.size]
    omega
theorem join_le (l : List (List UInt8)) (h : ∀ x ∈ l, x.length ≤ 26) : (Lib.join l [10]).length ≤ l.length * 27 := by
  cases l with
  | nil => simp [Lib.join_nil]
  | cons x r =>
    rw [Lib.join_cons, List.length_append]
    have ht : ∀ r : List (List UInt8), (∀ x ∈ r, x.length ≤ 26) → (Lib.joinTail [10] r).length ≤ r.length * 27 := by
      intro r
      induction r with
      | nil => intro _; simp [Lib.joinTail]
      | cons y r ih =>
        intro h
        have h1 := ih (fun z hz => h z (by simp [hz]))
        have h2 := h y (by simp)
        have e : Lib.joinTail [10] (y :: r) = ([10] ++ y) ++ Lib.joinTail [10] r := by simp [Lib.joinTail]
        rw [e, List.length_append, List.length_append, List.length_cons]
        simp
        omega
    have := ht r (fun z hz => h z (by simp [hz]))
    have h2 := h x (by simp)
    rw [List.length_cons]
    omega
/-- So many lines are laid. -/
def laidTo (l : List ByteArray) (k : Nat) : List Value := (l.take k).map Value.string ++ List.replicate (l.length - k) (.string ⟨#[]⟩)
theorem laidTo_zero (l : List ByteArray) : laidTo l 0 = List.replicate l.length (.string ⟨#[]⟩) := by simp [laidTo]
theorem laidTo_all (l : List ByteArray) : laidTo l l.length = l.map Value.string := by simp [laidTo]
theorem laidTo_at (l : List ByteArray) (k : Nat) (h : k < l.length) : (laidTo l k)[k]? = some (.string ⟨#[]⟩) := by
  unfold laidTo
  rw [List.getElem?_append_right (by simp; omega)]
  simp [show k - min k l.length = 0 by omega, show 0 < l.length - k by omega]
theorem laidTo_set (l : List ByteArray) (k : Nat) (h : k < l.length) : (laidTo l k).set k (.string (l.getD k ⟨#[]⟩)) = laidTo l (k + 1) := by
  unfold laidTo
  have e1 : ((l.take k).map Value.string).length = k := by simp; omega
  rw [List.set_append_right _ _ (by rw [e1]; exact Nat.le_refl _), e1, Nat.sub_self, show l.length - k = (l.length - (k + 1)) + 1 by omega, List.replicate_succ, List.set_cons_zero, List.take_succ_eq_append_getElem h]
  simp only [List.map_append, List.map_cons, List.map_nil, List.append_assoc, List.cons_append, List.nil_append, List.getD, List.getElem?_eq_getElem h, Option.getD_some]
theorem mkStrs {w : World} {b n : Nat} (h : w.ownsRow b 9 1 (.slice (some ⟨b, 0, none⟩) n n) n (madeCells (#[.string ⟨#[]⟩] : Array Value) (n * 1)).toList) : Blk w b 9 (List.replicate n (.string ⟨#[]⟩)) := by
  rcases h.2 with ⟨h1, _⟩ | ⟨g, cap, cur, h1, h2, h3, h4, h5, h6, h7⟩
  · cases h1
  · injection h1 with h1 h8 h9
    injection h1 with h1
    injection h1 with h1
    subst h1 h9
    have e : cur.toList = List.replicate n (.string ⟨#[]⟩) := by
      rw [← List.take_of_length_le (l := cur.toList) (i := n * 1) (by simp; omega), h7]
      apply List.ext_getElem?
      intro i
      by_cases hi : i < n
      · simp [madeCells, hi, Nat.mod_one]
      · simp [madeCells, hi]
    unfold Blk
    rw [h3, ← e]
theorem info9t : (Tryd.prog.info? 9).map (fun i => (i.zero, i.size, i.bytes)) = some (some (.string ⟨#[]⟩), 1, 16) := by kernel_rfl
theorem own_ne9t {w : World} {g b n : Nat} {v : Value} {xs cs : List Value} (hB : Blk w g 9 cs) (hO : w.ownsRow b 58 7 v n xs) : some g ≠ v.ownBlock := by
  rcases hO.2 with ⟨rfl, _⟩ | ⟨g', cap, cur, rfl, _, hg, _⟩
  · simp [Value.ownBlock]
  · intro h
    have : g = g' := by simpa [Value.ownBlock] using h
    subst this
    unfold Blk at hB
    rw [hB] at hg
    cases hg

set_option maxRecDepth 100000 in
set_option maxHeartbeats 8000000 in
theorem text_any (A : Option Addr) (n c : Nat) (p : List Int) (w : World) (HP : Hid (Pg w A n c p)) (HT : Hid (KTab w)) (HPT : Hid (PTab w)) :
    Calls Tryd.prog 14 #[.slice A n c] w fun e w' => e = .returned (.tuple #[.string (textV p), .int .i64 (ordsV p).1]) ∧ Below w.heap.size w w' := by
  have HOR := Lib.hid (ordersOf_any A n c p w HP HT)
  have hfew := ordsV_few p
  have hTX : textV p = if (ordsV p).1 ≠ 0 then ⟨#[]⟩ else joinS (linesOf p (ordsV p).2) := rfl
  obtain ⟨E, hE⟩ : ∃ x, (ordsV p).1 = x := ⟨_, rfl⟩
  obtain ⟨bs, hbs⟩ : ∃ x, (ordsV p).2 = x := ⟨_, rfl⟩
  rw [hE, hbs] at HOR hTX
  rw [hbs] at hfew
  rw [hE]
  clear hE hbs
  by_cases h0 : E = 0
  · rw [if_neg (by simpa using h0)] at hTX
    subst h0
    rw [hTX]
    obtain ⟨m, hm⟩ : ∃ m, bs.length = m := ⟨_, rfl⟩
    rw [hm] at HOR hfew
    obtain ⟨LN, hLN⟩ : ∃ x, linesOf p bs = x := ⟨_, rfl⟩
    have hLNl : LN.length = m := by rw [← hLN, linesOf, List.length_map, hm]
    have HLN : Hid (∀ k, k < m → LN.getD k ⟨#[]⟩ = lineS (nm (opAt p (bs.getD k 0))) (fol (opAt p (bs.getD k 0))) (numAt p (bs.getD k 0)).toNat) := Lib.hid (fun k hk => by rw [← hLN]; simp [linesOf, List.getD, show k < bs.length by omega])
    have HNUM : Hid (∀ b, ∃ k : Nat, numAt p b = (k : Int) ∧ k < 18446744073709551616) := Lib.hid (fun b => by obtain ⟨k, h1, h2, _⟩ := num_nat HP.out b; exact ⟨k, h1, by omega⟩)
    have HLE : Hid (∀ x ∈ LN, x.size ≤ 26) := Lib.hid (fun x hx => by
      rw [← hLN, linesOf] at hx
      obtain ⟨b, _, rfl⟩ := List.mem_map.1 hx
      obtain ⟨k, h1, h2⟩ := HNUM.out b
      exact line_le p b (by rw [h1, Int.toNat_natCast]; exact h2))
    rw [hLN]
    have HM := Lib.hid hm
    have HLL := Lib.hid hLNl
    have HFW := Lib.hid hfew
    have m0 : (0 : Int) ≤ (m : Int) := Int.natCast_nonneg _
    have m9 : (m : Int) ≤ 257 := by omega
    obtain ⟨i9, hi9, hzz⟩ := Option.map_eq_some_iff.1 info9t
    simp only [Prod.mk.injEq] at hzz
    obtain ⟨hz0, hz1, hz2⟩ := hzz
    clear hTX hLN hm hLNl
    go_enter Tryd.func14, Tryd.ntmps14
    go_wp2_with fail
    refine HOR.out.mono ?_
    rintro e w1 ⟨v, rfl, hO, hB⟩
    have O1 := Lib.hid hO
    have B1 := Lib.hid hB
    clear hO hB HOR
    obtain ⟨Ao, co, rfl, hA, hmx⟩ := own_slice O1.out
    go_wp2_with (at_make; refine wpList_make_full _ rfl (.tmp 18) (.tmp 18) 73 rfl w1.heap.size 9 i9 (.string ⟨#[]⟩) 1 Tryd.underlying73 hi9 hz0 hz1 .i64 .i64 _ _ m rfl rfl ?c1 ?c2 ?c3 ?c4 ?c5 ?_)
    all_goals first | exact Nat.le_refl _ | rfl | omega | (rw [hz2]; omega) | (unfold maxLen; omega) | skip
    intro w2 hown hg
    have hB2 : Below w1.heap.size w1 w2 := (Below.refl _ _).grown hg (Nat.le_refl _) (by simp)
    have B2 : Hid (Below w.heap.size w w2) := Lib.hid (B1.out.trans (hB2.mono B1.out.size))
    have O2 := Lib.hid (own_below O1.out hB2)
    have G2 : Hid (Blk w2 w1.heap.size 9 (laidTo LN 0)) := Lib.hid (by rw [laidTo_zero, HLL.out]; exact mkStrs (by rw [Nat.mul_one]; exact hown))
    have HGL : Hid (w.heap.size ≤ w1.heap.size) := Lib.hid B1.out.size
    have HA := Lib.hid hA
    clear hown hg hB2 B1 O1 hi9 hz0 hz1 hz2 hA
    generalize w1.heap.size = gl at G2 HGL ⊢
    go_wp2_with fail
    go_loopw [22] (fun t wr => ∃ k : Nat, t = .int .i64 (k : Int) ∧ k ≤ m ∧ Hid (wr.ownsRow w.heap.size 58 7 (.slice Ao m co) m (oflat p bs)) ∧ Hid (Blk wr gl 9 (laidTo LN k)) ∧ Hid (Below w.heap.size w wr)) (fun t _ => m - (intOf t).toNat)
    case atStart => exact ⟨0, rfl, Nat.zero_le _, O2, G2, B2⟩
    case round =>
      obtain ⟨k, rfl, hk, HO, HG, HB⟩ := hrel
      have k0 : (0 : Int) ≤ (k : Int) := Int.natCast_nonneg _
      have k9 : (k : Int) ≤ 257 := by omega
      by_cases hlt : k < m
      · have kn : (k : Int) < (m : Int) := by omega
        obtain ⟨gk, rfl, _⟩ := HA.out (by omega)
        have hrg := own_range HO.out k (by rw [HM.out]; exact hlt) HM.out
        have hLk := HLN.out k hlt
        obtain ⟨num, hnum, hnum9⟩ := HNUM.out (bs.getD k 0)
        unfold cellsAt ordCells at hrg
        rw [hnum] at hrg
        rw [hnum, Int.toNat_natCast] at hLk
        obtain ⟨op, hop⟩ : ∃ x, opAt p (bs.getD k 0) = x := ⟨_, rfl⟩
        rw [hop] at hrg hLk
        have hN5 := nm_le op
        obtain ⟨bh, hbh⟩ : ∃ x, bs.getD k 0 + 1 + fol op = x := ⟨_, rfl⟩
        obtain ⟨F, hF⟩ : ∃ x, fol op = x := ⟨_, rfl⟩
        obtain ⟨C, hC⟩ : ∃ x, cst op = x := ⟨_, rfl⟩
        obtain ⟨TK, hTK⟩ : ∃ x, tks op = x := ⟨_, rfl⟩
        obtain ⟨NM, hNM⟩ : ∃ x, nm op = x := ⟨_, rfl⟩
        rw [hbh, hF, hC, hTK, hNM] at hrg
        rw [hF, hNM] at hLk
        rw [hNM] at hN5
        have HLI := Lib.hid (fun w h => line_any op num bh F C TK NM w h hnum9 (by omega))
        rw [← hLk] at HLI
        obtain ⟨s, hs⟩ : ∃ x, LN.getD k ⟨#[]⟩ = x := ⟨_, rfl⟩
        rw [hs] at HLI
        have HS := Lib.hid hs
        have hz58l : (Tryd.prog.info? 58).map (·.size) = some ([Value.int .i64 (op : Int), Value.string NM, Value.int .i64 (F : Int), Value.int .i64 (C : Int), Value.int .i64 (TK : Int), Value.int .u64 (num : Int), Value.int .i64 (bh : Int)] : List Value).length := info58
        have hLA := heap_alloc_last wr (.cells ordZero.toArray 58)
        unfold ordZero at hLA
        have hz58 : (Tryd.prog.info? 58).map (·.size) = some (List.toArray ([Value.int .i64 (op : Int), Value.string NM, Value.int .i64 (F : Int), Value.int .i64 (C : Int), Value.int .i64 (TK : Int), Value.int .u64 (num : Int), Value.int .i64 (bh : Int)] : List Value)).size := info58
        have hzz : (#[.int .i64 0, .string ⟨#[]⟩, .int .i64 0, .int .i64 0, .int .i64 0, .int .u64 0, .int .i64 0] : Array Value).size = (List.toArray ([Value.int .i64 (op : Int), Value.string NM, Value.int .i64 (F : Int), Value.int .i64 (C : Int), Value.int .i64 (TK : Int), Value.int .u64 (num : Int), Value.int .i64 (bh : Int)] : List Value)).size := rfl
        have hone := all_one (ord_one op num NM F C TK bh)
        clear hLk hnum hop hbh hF hC hTK hNM hN5 hs hnum9
        go_upto_region 8 with (first | (refine wpList_load_mid rfl 58 (.tmp 25) rfl gk (k * 7) rfl ([Value.int .i64 (op : Int), Value.string NM, Value.int .i64 (F : Int), Value.int .i64 (C : Int), Value.int .i64 (TK : Int), Value.int .u64 (num : Int), Value.int .i64 (bh : Int)] : List Value) _ hrg Tryd.underlying58 rfl hz58l ?_) | (refine wpList_store_row rfl 58 (.tmp 8) (.tmp 26) rfl wr.heap.size (List.toArray ([Value.int .i64 (op : Int), Value.string NM, Value.int .i64 (F : Int), Value.int .i64 (C : Int), Value.int .i64 (TK : Int), Value.int .u64 (num : Int), Value.int .i64 (bh : Int)] : List Value)) rfl rfl 58 _ hLA hz58 hzz hone ?_; rw [World.setRow_alloc_new]))
        have hBV : Below wr.heap.size wr (wr.alloc (.cells (List.toArray ([Value.int .i64 (op : Int), Value.string NM, Value.int .i64 (F : Int), Value.int .i64 (C : Int), Value.int .i64 (TK : Int), Value.int .u64 (num : Int), Value.int .i64 (bh : Int)] : List Value)) 58)) := up1 _ _
        have Q3 : Hid (Blk (wr.alloc (.cells (List.toArray ([Value.int .i64 (op : Int), Value.string NM, Value.int .i64 (F : Int), Value.int .i64 (C : Int), Value.int .i64 (TK : Int), Value.int .u64 (num : Int), Value.int .i64 (bh : Int)] : List Value)) 58)) wr.heap.size 58 ([Value.int .i64 (op : Int), Value.string NM, Value.int .i64 (F : Int), Value.int .i64 (C : Int), Value.int .i64 (TK : Int), Value.int .u64 (num : Int), Value.int .i64 (bh : Int)] : List Value)) := Lib.hid (Blk.new wr 58 _)
        have O3 := Lib.hid (own_below HO.out hBV)
        have G3 := Lib.hid (HG.out.below hBV HG.out.lt)
        have B3 := Lib.hid (HB.out.trans (hBV.mono HB.out.size))
        clear hBV hLA hz58 hzz hone hrg hz58l HO HG HB
        generalize hV : wr.alloc (.cells (List.toArray ([Value.int .i64 (op : Int), Value.string NM, Value.int .i64 (F : Int), Value.int .i64 (C : Int), Value.int .i64 (TK : Int), Value.int .u64 (num : Int), Value.int .i64 (bh : Int)] : List Value)) 58) = V at Q3 O3 G3 B3 ⊢
        clear hV
        generalize wr.heap.size = go at Q3 ⊢
        have oc0 := Blk.cell Q3.out 0
        have oc1 := Blk.cell Q3.out 1
        have oc2 := Blk.cell Q3.out 2
        have oc3 := Blk.cell Q3.out 3
        have oc4 := Blk.cell Q3.out 4
        have oc5 := Blk.cell Q3.out 5
        have oc6 := Blk.cell Q3.out 6
        simp only [List.getElem?_cons_zero, List.getElem?_cons_succ] at oc0 oc1 oc2 oc3 oc4 oc5 oc6
        go_wp2_with fail
        clear oc0 oc1 oc2 oc3 oc4 oc5 oc6
        refine (HLI.out V (Lib.hid (PTab.below HPT.out B3.out))).mono ?_
        rintro e w4 ⟨rfl, hB4⟩
        have O4 := Lib.hid (own_below O3.out hB4)
        have G4 := Lib.hid (G3.out.below hB4 G3.out.lt)
        have B4 := Lib.hid (B3.out.trans (hB4.mono B3.out.size))
        clear hB4 Q3 O3 G3 B3 HLI
        have hc4 := G4.out.cell k
        rw [laidTo_at LN k (by rw [HLL.out]; exact hlt)] at hc4
        have hf4 := G4.out.frozen k
        have hGr : w4.grownBy (w4.setCell ⟨gl, k, none⟩ (.string s)) (some gl) := only_setCell (p := ⟨gl, k, none⟩) (only_refl w4 (some gl)) (.inl rfl) (.string s)
        have O5 : Hid ((w4.setCell ⟨gl, k, none⟩ (.string s)).ownsRow w.heap.size 58 7 (.slice (some ⟨gk, 0, none⟩) m co) m (oflat p bs)) := Lib.hid (O4.out.kept hGr (.inr (fun e => own_ne9t G4.out O4.out e.symm)))
        have G5 : Hid (Blk (w4.setCell ⟨gl, k, none⟩ (.string s)) gl 9 (laidTo LN (k + 1))) := Lib.hid (by rw [← laidTo_set LN k (by rw [HLL.out]; exact hlt), HS.out]; exact G4.out.set_ k _)
        have B5 : Hid (Below w.heap.size w (w4.setCell ⟨gl, k, none⟩ (.string s))) := Lib.hid (B4.out.grown hGr B4.out.size (fun j hj => by injection hj with hj; have := HGL.out; omega))
        clear hGr O4 G4 B4
        go_wp2_with fail
        exact ⟨⟨k + 1, rfl, by omega, O5, G5, B5⟩, by show m - (k + 1) < m - k; omega⟩
      · have kn : ¬ ((k : Int) < (m : Int)) := by omega
        have hkm : k = m := by omega
        subst hkm
        have hG := HG.out
        rw [← HLL.out, laidTo_all] at hG
        have hJ := Tryd.strings_Join gl 0 k LN ⟨#[10]⟩ wr (fun j x hx => by rw [Nat.zero_add, hG.cell, List.getElem?_map, hx]; rfl) hG.lt (by rw [HLL.out]; have := HFW.out; omega) (by rw [HLL.out]; exact Nat.le_refl _) (by
          have h1 := join_le (LN.map (·.data.toList)) (fun x hx => by
            obtain ⟨y, hy, rfl⟩ := List.mem_map.1 hx
            have := HLE.out y hy
            show y.data.toList.length ≤ 26
            rw [Array.length_toList]
            exact this)
          rw [List.length_map, HLL.out] at h1
          have := HFW.out
          refine Nat.le_trans h1 ?_
          omega)
        rw [HLL.out] at hJ
        have HJ := Lib.hid hJ
        clear hG hJ HO HG
        go_wp2_with fail
        refine HJ.out.mono ?_
        rintro e w5 ⟨rfl, hB5⟩
        have B5 := Lib.hid (HB.out.trans (hB5.mono HB.out.size))
        clear hB5
        go_wp2
        go_ret2
        exact ⟨rfl, B5.out⟩
  · rw [if_pos (by simpa using h0)] at hTX
    rw [hTX]
    have hE0 : (E != 0) = true := by simpa using h0
    clear hTX hfew h0
    go_enter Tryd.func14, Tryd.ntmps14
    go_wp2_with fail
    refine HOR.out.mono ?_
    rintro e w1 ⟨v, rfl, _, hB⟩
    have B1 := Lib.hid hB
    clear hB HOR
    go_wp2
    go_ret2
    exact ⟨rfl, B1.out⟩
end Go.Proofs.YtkilajobnlagbaaDoor
