/-
  Bytes that the call itself made, and what is laid behind them: append of bytes to a slice of bytes, whatever the names of the two types; octet.layFour (function 59): a number's four bytes, the highest first.
  What an Out's calls answer (One, Four, Eight, Blob of octet), for whatever bytes the call itself made and whatever comes: its bytes, and these things in order behind them; of other memory nothing that was there is written.
  tollhouselaw01.awake (function 15): the document's example of octet answers true; memory that was there stays as it was. And string(b) of bytes that are read.
  What a nil In answers (octet): zeros and empty lists, and ErrNil where it answers an error; memory that was there stays as it was.
  What an Out's Sum answers (function 32), for whatever bytes the call itself made and whatever sums come: its bytes, and the sums' 32 bytes each behind them; of other memory nothing that was there is written.
  Small facts for OctetOnes: one sum laid as a slice of its own, the rows of sums, what stays as it was.
  An In off which things are taken: its block, what is left; octet.Of (function 19), next (61), number (60), Bad (25), Left (29), End (26).
  octet's In.Sum (function 23): the next 32 bytes.
  An In with too few bytes left, or with an error already: octet's Fail (function 103), next (97), Sum (72), Bad (34), Left (35): a sum of zeros, the error ErrShort, nothing left.
  What the document's Num answers (function 57): the bytes, and a number's so many behind them; nothing that was there is written.
-/
import Derived.Test.YtkonokjhpddbfaaDoorProg
import Derived.WalkKit
import Derived.WalkSpells
import Derived.WalkSmall
import Derived.LoopN
import Derived.Lib.Hide
import Derived.Maps.AppendAt
import Derived.Deep.Draws
import Derived.Deep.QuietTactic
import Derived.BigQuiet
import Derived.Lib.SlBytesConst
import Derived.Deep.RegionHeld3
import Derived.Deep.WholeRow
import Derived.Deep.MidRow
import Derived.ProofKit
import Derived.Great.BuildSlice
import Derived.Deep.AppendLies
import Derived.Deep.OwnRows
import Derived.Laws.CopyOwn
import Derived.Deep.Cut
namespace Go.Proofs.YtkonokjhpddbfaaDoor.Oct
open Go.RowKit
set_option linter.unusedVariables false

theorem append_types {P : Program} (w : World) (t t' ty e e' : TypeId) (i : TypeInfo) (a : Option Addr) (n c : Nat) (x : Value) (ht : P.underlying t = some (.slice e)) (ht' : P.underlying t' = some (.slice e')) (hi : P.info? e = some i) :
    (Builtin.append_ #[t, t'] ty #[.slice a n c, x]).run P w = (Builtin.append_ #[t, t] ty #[.slice a n c, x]).run P w := by
  simp [Builtin.append_, run_underlying ht, run_underlying ht', sizeOf, typeInfo, hi]

/-- Bytes as cells. -/
def byt (l : List Int) : List Value := l.map (Value.int .u8)
/-- A slice of bytes that the call owns. -/
def Own (w : World) (base : Nat) (v : Value) (l : List Int) : Prop := w.ownsRow base 5 1 v l.length (byt l)
/-- A slice of bytes that is read. -/
def Src (w : World) (A : Option Addr) (c : Nat) (l : List Int) : Prop :=
  (A = none → c = 0) ∧ (l = [] ∨ ∃ b off, A = some ⟨b, off, none⟩ ∧ b < w.heap.size ∧ ∀ i, i < l.length → w.cell? ⟨b, off + i, none⟩ = some (.int .u8 (l.getD i 0)))
/-- Where an answer lies: in the old block, or in a new one. -/
def Lies (w : World) (v v' : Value) : Prop := v'.ownBlock = v.ownBlock ∨ ∃ g, w.heap.size ≤ g ∧ v'.ownBlock = some g

theorem byte_info : (Tryd.prog.info? 5).map (fun i => (i.zero, i.size, i.bytes)) = some (some (.int .u8 0), 1, 1) := by kernel_rfl

theorem byt_append (l m : List Int) : byt l ++ byt m = byt (l ++ m) := by simp [byt]

theorem Own.src {w : World} {base : Nat} {v : Value} {l : List Int} (h : Own w base v l) : ∃ A c, v = .slice A l.length c ∧ Src w A c l := by
  rcases h.2 with ⟨rfl, h0⟩ | ⟨g, c, cur, rfl, _, hg, _⟩
  · have : l = [] := List.eq_nil_of_length_eq_zero h0
    subst this
    exact ⟨none, 0, rfl, fun _ => rfl, .inl rfl⟩
  · refine ⟨_, c, rfl, fun h => (by cases h), .inr ⟨g, 0, rfl, ?_, fun i hi => ?_⟩⟩
    · rcases Nat.lt_or_ge g w.heap.size with h2 | h2
      · exact h2
      · rw [Array.getElem?_eq_none h2] at hg; cases hg
    · rw [Nat.zero_add, World.ownsRow.cellAt h i (by omega)]
      simp [byt, List.getD, hi]

set_option maxRecDepth 100000 in
theorem run_app (w : World) (base : Nat) (t t' ty : TypeId) (ht : Tryd.prog.underlying t = some (.slice 5)) (ht' : Tryd.prog.underlying t' = some (.slice 5)) (v : Value) (xs l : List Int) (hO : Own w base v xs) (A : Option Addr) (c : Nat) (hS : Src w A c l)
    (hb : xs.length + l.length ≤ 140737488355328) (hbase : base ≤ w.heap.size) :
    ∃ v' w', (Builtin.append_ #[t, t'] ty #[v, .slice A l.length c]).run Tryd.prog w = .ok v' w' ∧ Own w' base v' (xs ++ l) ∧ w.grownBy w' v.ownBlock ∧ Lies w v v' := by
  obtain ⟨i0, hi, hz0, hz1, hz2⟩ := info_parts byte_info
  obtain ⟨A', c', rfl, _⟩ := hO.src
  rw [append_types w t t' ty 5 5 i0 A' xs.length c' _ ht ht' hi]
  obtain ⟨hc, hl⟩ := hS
  cases A with
  | none =>
    have hl0 : l = [] := by
      rcases hl with h | ⟨b, off, h, _⟩
      · exact h
      · cases h
    subst hl0
    rw [hc rfl]
    refine ⟨_, w, run_append_owned_none (P := Tryd.prog) w base t ty 5 i0 1 ht hi _ _ _ hO, by simpa using hO, World.grownBy.refl w _, .inl rfl⟩
  | some ad =>
    have hcells : ∀ j u, (byt l)[j]? = some u → w.cell? (ad.add j) = some u := by
      intro j u hu
      rcases hl with rfl | ⟨b, off, h, _, hcell⟩
      · simp [byt] at hu
      · injection h with h
        subst h
        have hj : j < l.length := by
          have := (List.getElem?_eq_some_iff.1 hu).1
          simpa [byt] using this
        rw [Go.WideShapes.add_plain, hcell j hj, ← hu]
        simp [byt, List.getD, hj]
    obtain ⟨v', w', hr, h2, h3, _, h5⟩ := run_append_own_at (P := Tryd.prog) w base t ty 5 i0 (.int .u8 0) 1 1 ht hi hz0 hz1 hz2 rfl (by omega) _ xs.length (byt xs) hO ad l.length c (byt l) (by simp [byt]) hcells
      (by intro u hu; obtain ⟨n, _, rfl⟩ := List.mem_map.1 hu; rfl) (by unfold maxLen; omega) (by omega) hbase
    refine ⟨v', w', hr, ?_, h3, ?_⟩
    · unfold Own
      rw [List.length_append, ← byt_append]
      exact h2
    · rcases h5 with h5 | h5
      · exact .inl h5
      · exact .inr ⟨_, Nat.le_refl _, h5⟩

theorem wpList_app {w : World} {ops : Array Oper} {rest : List Oper} {o : Oper} {a : Act} {Q : Exit → Act → World → Prop} (hgd : o.guard = none) (s x : Operand) (t t' : TypeId)
    (ho : o.op = .call { callee := .builtin .append, args := #[s, x], argTypes := #[t, t'] }) (ht : Tryd.prog.underlying t = some (.slice 5)) (ht' : Tryd.prog.underlying t' = some (.slice 5))
    (base : Nat) (v : Value) (xs l : List Int) (hs : a.eval s = v) (hO : Own w base v xs) (A : Option Addr) (n c : Nat) (hx : a.eval x = .slice A n c) (hn : n = l.length) (hS : Src w A c l) (hb : xs.length + l.length ≤ 140737488355328) (hbase : base ≤ w.heap.size)
    (h : ∀ v' w', Own w' base v' (xs ++ l) → w.grownBy w' v.ownBlock → Lies w v v' → wpList Tryd.prog ops Q rest (a.put o.dst v') w') : wpList Tryd.prog ops Q (o :: rest) a w := by
  subst hn
  refine wpList_plain hgd fun K hK => ?_
  obtain ⟨v', w', hr, h2, h3, h4⟩ := run_app w base t t' o.type ht ht' v xs l hO A c hS hb hbase
  unfold Oper.wp execOp
  simp only [ho, resolve, invoke, builtin, Sem.run_bind, Sem.run_pure, Result.andThen_ok, List.map_toArray, List.map_cons, List.map_nil, hs, hx, hr]
  exact hK _ _ (h v' w' h2 h3 h4)

theorem Own.below {w w' : World} {base : Nat} {v : Value} {l : List Int} (h : Own w base v l) (hB : Below w.heap.size w w') : Own w' base v l := by
  refine ⟨h.1, ?_⟩
  rcases h.2 with h1 | ⟨g, cap, cur, hv, hb, hg, rest⟩
  · exact .inl h1
  · have hlt : g < w.heap.size := by
      rcases Nat.lt_or_ge g w.heap.size with h2 | h2
      · exact h2
      · rw [Array.getElem?_eq_none h2] at hg; cases hg
    exact .inr ⟨g, cap, cur, hv, hb, (hB.block g hlt).trans hg, rest⟩

theorem Own.nil (w : World) (base : Nat) : Own w base (.slice none 0 0) [] := World.ownsRow_nil w base 5 1

theorem Below.grownBy {w w' : World} (h : Below w.heap.size w w') (row : Option Nat) : w.grownBy w' row := ⟨h.os, h.tape, h.output, h.size, fun k hk _ => h.block k hk⟩

theorem grown_below {w w' : World} {row : Option Nat} {B : Nat} (h : w.grownBy w' row) (hB : B ≤ w.heap.size) (hr : ∀ g, row = some g → B ≤ g) : Below B w w' := (Below.refl B w).grown h hB hr

theorem Src.below {w w' : World} {A : Option Addr} {c : Nat} {l : List Int} (h : Src w A c l) (hB : Below w.heap.size w w') : Src w' A c l := by
  refine ⟨h.1, ?_⟩
  rcases h.2 with h1 | ⟨b, off, h1, h2, h3⟩
  · exact .inl h1
  · exact .inr ⟨b, off, h1, Nat.lt_of_lt_of_le h2 hB.size, fun i hi => by rw [hB.cell (p := ⟨b, off + i, none⟩) h2]; exact h3 i hi⟩

/-- A number's four bytes, the highest first. -/
def be4 (n : Int) : List Int := [n / 16777216, n / 65536 % 256, n / 256 % 256, n % 256]

/-- What a call that lays more behind bytes answers. -/
def Laid (w : World) (base : Nat) (v : Value) (l : List Int) (e : Ending) (w' : World) : Prop := ∃ v', e = .returned v' ∧ Own w' base v' l ∧ w.grownBy w' v.ownBlock ∧ Lies w v v'

theorem Src.lit (w : World) (cs : Array Value) (l : List Int) (h : cs.toList = byt l) : Src (w.alloc (.cells cs 5)) (some ⟨w.heap.size, 0, none⟩) l.length l := by
  refine ⟨fun h => (by cases h), .inr ⟨w.heap.size, 0, rfl, by simp, fun i hi => ?_⟩⟩
  rw [Nat.zero_add, World.cell?_alloc_at _ _ _ _ rfl, ← Array.getElem?_toList, h]
  simp [byt, List.getD, hi]

theorem Laid.mk {w w1 w2 : World} {base : Nat} {v v' : Value} {l : List Int} (hB : Below w.heap.size w w1) (hO : Own w2 base v' l) (hg : w1.grownBy w2 v.ownBlock) (hL : Lies w1 v v') : Laid w base v l (.returned v') w2 := by
  refine ⟨v', rfl, hO, (Below.grownBy hB _).trans hg, ?_⟩
  rcases hL with h | ⟨g, h1, h2⟩
  · exact .inl h
  · exact .inr ⟨g, Nat.le_trans hB.size h1, h2⟩

set_option maxRecDepth 100000 in
set_option maxHeartbeats 1000000 in
theorem layFour_any (v : Value) (n : Int) (base : Nat) (xs : List Int) (w : World) (hn : 0 ≤ n) (hn' : n ≤ 4294967295) (hO : Own w base v xs) (hl : xs.length ≤ 140737488355320) (hbase : base ≤ w.heap.size) :
    Calls Tryd.prog 104 #[v, .int .u32 n] w (Laid w base v (xs ++ be4 n)) := by
  have HO := Lib.hid hO
  clear hO
  go_enter Tryd.func104, Tryd.ntmps104
  have hnew := Src.lit w #[.int .u8 (n / 16777216), .int .u8 (n / 65536 % 256), .int .u8 (n / 256 % 256), .int .u8 (n % 256)] (be4 n) rfl
  have HNW := Lib.hid hnew
  clear hnew
  go_wp2_with (at_builtin; refine wpList_app rfl (.tmp 5) (.tmp 17) 30 30 rfl Tryd.underlying30 Tryd.underlying30 base v xs (be4 n) rfl (HO.out.below ((Below.refl _ _).alloc (Nat.le_refl _) _)) (some ⟨w.heap.size, 0, none⟩) 4 4 rfl rfl HNW.out ?c1 ?c2 ?_)
  case c1 => simp [be4]; omega
  case c2 => simp; omega
  intro v' w1 hO' hg hL
  have HL := Lib.hid (Laid.mk ((Below.refl _ w).alloc (Nat.le_refl _) _) hO' hg hL)
  clear hO' hg hL
  go_wp2
  go_ret
  exact HL.out
end Go.Proofs.YtkonokjhpddbfaaDoor.Oct
namespace Go.Proofs.YtkonokjhpddbfaaDoor.Oct
open Go.RowKit
set_option linter.unusedVariables false

/-- A slice of numbers of a kind, read as a list. -/
def Rd (k : IntKind) (w : World) (A : Option Addr) (ns : List Int) : Prop :=
  ns = [] ∨ ∃ b off, A = some ⟨b, off, none⟩ ∧ b < w.heap.size ∧ ∀ i, i < ns.length → w.cell? ⟨b, off + i, none⟩ = some (.int k (ns.getD i 0))

theorem Rd.below {k : IntKind} {w w' : World} {A : Option Addr} {ns : List Int} (h : Rd k w A ns) (hB : Below w.heap.size w w') : Rd k w' A ns := by
  rcases h with h1 | ⟨b, off, h1, h2, h3⟩
  · exact .inl h1
  · exact .inr ⟨b, off, h1, Nat.lt_of_lt_of_le h2 hB.size, fun i hi => by rw [hB.cell (p := ⟨b, off + i, none⟩) h2]; exact h3 i hi⟩

theorem Rd.lit (k : IntKind) (t : TypeId) (w : World) (cs : Array Value) (l : List Int) (h : cs.toList = l.map (Value.int k)) : Rd k (w.alloc (.cells cs t)) (some ⟨w.heap.size, 0, none⟩) l := by
  refine .inr ⟨w.heap.size, 0, rfl, by simp, fun i hi => ?_⟩
  rw [Nat.zero_add, World.cell?_alloc_at _ _ _ _ rfl, ← Array.getElem?_toList, h]
  simp [List.getD, hi]

/-- Numbers' bytes. -/
def be4s (ns : List Int) : List Int := ns.flatMap be4
theorem be4s_length (ns : List Int) : (be4s ns).length = 4 * ns.length := by
  induction ns with
  | nil => rfl
  | cons n r ih => simp [be4s, be4] at ih ⊢; omega

theorem be4s_take (ns : List Int) (k : Nat) (x : Int) (hk : k < ns.length) (hx : ns.getD k 0 = x) : be4s (ns.take k) ++ be4 x = be4s (ns.take (k + 1)) := by
  have e : ns[k] = x := by rw [← hx]; simp [List.getD, hk]
  rw [List.take_succ_eq_append_getElem hk, e]
  simp [be4s]

theorem mem_getD (ns : List Int) (k : Nat) (x : Int) (hk : k < ns.length) (hx : ns.getD k 0 = x) : x ∈ ns := by
  rw [← hx]
  simp [List.getD, hk]

/-- What one more laying makes of bytes that lie above. -/
theorem Laid.above {w wr w' : World} {t v' : Value} {l : List Int} (hw : Below w.heap.size w wr) {xs : List Int} (hO : Own wr w.heap.size t xs) (h : wr.grownBy w' t.ownBlock) : Below w.heap.size w w' :=
  hw.trans (grown_below h hw.size fun g hg => (World.ownsRow.lt hO g hg).1)

set_option maxRecDepth 100000 in
set_option maxHeartbeats 2000000 in
theorem four_any (v : Value) (A : Option Addr) (cap base : Nat) (xs ns : List Int) (w : World) (hO : Own w base v xs) (hR : Rd .u32 w A ns) (hn : ∀ n ∈ ns, 0 ≤ n ∧ n ≤ 4294967295) (hl : xs.length + 4 * ns.length ≤ 140737488355320) (hbase : base ≤ w.heap.size) :
    Calls Tryd.prog 87 #[v, .slice A ns.length cap] w (Laid w base v (xs ++ be4s ns)) := by
  have HO := Lib.hid hO
  have HN := Lib.hid hn
  have HX := Lib.hid hl
  obtain ⟨len, hlen⟩ : ∃ n, ns.length = n := ⟨_, rfl⟩
  rw [hlen] at hl ⊢
  have hl2 : len ≤ 35184372088830 := by omega
  have HL := Lib.hid hlen
  have HR := Lib.hid hR
  clear hO hn hlen hR hl
  go_enter Tryd.func87, Tryd.ntmps87
  go_wp2_with fail
  go_loopw [5, 10, 7] (fun t i _ wr => ∃ (k : Nat), k ≤ len ∧ i = .int .i64 k ∧ Hid (Own wr w.heap.size t (be4s (ns.take k))) ∧ Hid (Below w.heap.size w wr)) (fun _ i _ _ => len - (intOf i).toNat)
  case atStart => exact ⟨0, Nat.zero_le _, rfl, Lib.hid (Own.nil _ _), Lib.hid (Below.refl _ _)⟩
  case round =>
    obtain ⟨k, hk, rfl, HT, HB⟩ := hrel
    by_cases hlt : k < len
    · rcases HR.out with h0 | ⟨b, off, rfl, hb, hc⟩
      · exfalso
        have := HL.out
        rw [h0] at this
        simp at this
        omega
      · have hkn : k < ns.length := by rw [HL.out]; exact hlt
        obtain ⟨x, hx⟩ : ∃ x, ns.getD k 0 = x := ⟨_, rfl⟩
        have hcell := hc k hkn
        rw [hx] at hcell
        rw [← HB.out.cell (p := ⟨b, off + k, none⟩) hb] at hcell
        have hbr : b < wr.heap.size := Nat.lt_of_lt_of_le hb HB.out.size
        obtain ⟨x0, x1⟩ := HN.out x (mem_getD ns k x hkn hx)
        have HTK := Lib.hid (be4s_take ns k x hkn hx)
        clear hc hx
        go_wp2_with fail
        refine (layFour_any _ _ w.heap.size (be4s (ns.take k)) _ x0 x1 HT.out (by rw [be4s_length, List.length_take]; omega) HB.out.size).mono ?_
        rintro e w' ⟨v', rfl, hO', hg, hL⟩
        have HB2 := Lib.hid (Laid.above (v' := v') (l := []) HB.out HT.out hg)
        rw [HTK.out] at hO'
        have HT2 := Lib.hid hO'
        clear hO' hg hL hkn
        go_wp2
        go_roundw
        case rel => exact ⟨k + 1, by omega, by go_num, HT2, HB2⟩
        case measure => simp [intOf]; omega
    · obtain rfl : k = len := by omega
      have htk : ns.take k = ns := List.take_of_length_le (by rw [HL.out]; exact Nat.le_refl _)
      rw [htk] at HT
      obtain ⟨A', c', hv, hS⟩ := HT.out.src
      subst hv
      have HS := Lib.hid hS
      have HLL := Lib.hid (be4s_length ns)
      obtain ⟨m, hm⟩ : ∃ m, (be4s ns).length = m := ⟨_, rfl⟩
      rw [hm]
      have HM := Lib.hid hm
      clear hS htk hm
      go_wp2_with (at_builtin; refine wpList_app rfl (.tmp 18) (.tmp 19) 71 30 rfl Tryd.underlying71 Tryd.underlying30 base v xs (be4s ns) rfl (HO.out.below HB.out) A' m c' rfl HM.out.symm HS.out ?c1 ?c2 ?_)
      case c1 => rw [HLL.out]; have := HX.out; omega
      case c2 => exact Nat.le_trans hbase HB.out.size
      intro v' w1 hO' hg hL
      have HLD := Lib.hid (Laid.mk HB.out hO' hg hL)
      clear hO' hg hL
      go_wp2
      go_ret
      exact HLD.out

set_option maxRecDepth 100000 in
set_option maxHeartbeats 1000000 in
theorem one_any (v : Value) (A : Option Addr) (cap base : Nat) (xs ns : List Int) (w : World) (hO : Own w base v xs) (hS : Src w A cap ns) (hl : xs.length + ns.length ≤ 140737488355320) (hbase : base ≤ w.heap.size) :
    Calls Tryd.prog 88 #[v, .slice A ns.length cap] w (Laid w base v (xs ++ ns)) := by
  have HO := Lib.hid hO
  have HS := Lib.hid hS
  obtain ⟨len, hlen⟩ : ∃ n, ns.length = n := ⟨_, rfl⟩
  have HX := Lib.hid hl
  rw [hlen]
  have HL := Lib.hid hlen
  clear hO hS hlen hl
  go_enter Tryd.func88, Tryd.ntmps88
  go_wp2_with (at_builtin; refine wpList_app rfl (.tmp 5) (.tmp 6) 71 30 rfl Tryd.underlying71 Tryd.underlying30 base v xs ns rfl HO.out A len cap rfl HL.out.symm HS.out ?c1 hbase ?_)
  case c1 => have := HX.out; omega
  intro v' w1 hO' hg hL
  have HLD := Lib.hid (Laid.mk (Below.refl _ _) hO' hg hL)
  clear hO' hg hL
  go_wp2
  go_ret
  exact HLD.out

end Go.Proofs.YtkonokjhpddbfaaDoor.Oct
namespace Go.Proofs.YtkonokjhpddbfaaDoor.Oct
open Go.RowKit
set_option linter.unusedVariables false

/-- Bytes as a text. -/
def txt (l : List Int) : ByteArray := l.foldl (fun r n => r.push (UInt8.ofNat n.toNat)) ByteArray.empty

theorem to_string (w : World) (A : Option Addr) (c n : Nat) (l : List Int) (hn : n = l.length) (hS : Src w A c l) : (convert 71 9 (.slice A n c)).run Tryd.prog w = .ok (.string (txt l)) w := by
  subst hn
  rw [run_convert_bytes_string w 71 9 5 A l.length c Tryd.underlying71 Tryd.underlying5 Tryd.underlying9]
  rcases hS.2 with rfl | ⟨b, off, rfl, _, hc⟩
  · cases A with
    | none => rfl
    | some ad =>
      refine run_bytesToString w ad 0 c [] ?_
      exact run_loadCells_list w ad [] (by simp)
  · refine run_bytesToString w _ l.length c l ?_
    have h := run_loadCells_list (P := Tryd.prog) w ⟨b, off, none⟩ (l.map (Value.int .u8)) (by
      intro j v hv
      have hj : j < l.length := by
        have := (List.getElem?_eq_some_iff.1 hv).1
        simpa using this
      rw [Go.WideShapes.add_plain, hc j hj, ← hv]
      simp [List.getD, hj])
    simpa using h

end Go.Proofs.YtkonokjhpddbfaaDoor.Oct
namespace Go.Proofs.YtkonokjhpddbfaaDoor.Oct
open Go.RowKit
set_option linter.unusedVariables false

theorem copy_none (a : Option Addr) (n c : Nat) (w : World) : (Builtin.copy_ #[30, 30] 3 #[.slice a n c, .slice none 0 0]).run Tryd.prog w = .ok (.int .i64 0) w := by
  obtain ⟨i0, hi, hz0, hz1, hz2⟩ := info_parts byte_info
  cases a <;> simp [Builtin.copy_, run_underlying Tryd.underlying30, sizeOf, typeInfo, hi, Builtin.lenOf, Builtin.firstCells, storeCells] <;> rfl

/-- A sum that is zero. -/
def zeros : Array Value := Array.replicate 32 (.int .u8 0)
theorem zeros_lit : (#[.int .u8 0, .int .u8 0, .int .u8 0, .int .u8 0, .int .u8 0, .int .u8 0, .int .u8 0, .int .u8 0, .int .u8 0, .int .u8 0, .int .u8 0, .int .u8 0, .int .u8 0, .int .u8 0, .int .u8 0, .int .u8 0, .int .u8 0, .int .u8 0, .int .u8 0, .int .u8 0, .int .u8 0, .int .u8 0, .int .u8 0, .int .u8 0, .int .u8 0, .int .u8 0, .int .u8 0, .int .u8 0, .int .u8 0, .int .u8 0, .int .u8 0, .int .u8 0] : Array Value) = zeros := rfl

end Go.Proofs.YtkonokjhpddbfaaDoor.Oct
namespace Go.Proofs.YtkonokjhpddbfaaDoor.Oct
open Go.RowKit
set_option linter.unusedVariables false

/-- A slice of sums (32 bytes each), read as a list of lists. -/
def Digs (w : World) (A : Option Addr) (ds : List (List Int)) : Prop :=
  (ds = [] ∨ ∃ b off, A = some ⟨b, off, none⟩ ∧ b < w.heap.size ∧ ∀ i, i < ds.length → w.rangeAt b (off + i * 32) (byt (ds.getD i []))) ∧ ∀ d ∈ ds, d.length = 32

theorem rangeAt_below {w w' : World} {b o : Nat} {cs : List Value} {B : Nat} (h : w.rangeAt b o cs) (hB : Below B w w') (hb : b < B) : w'.rangeAt b o cs := fun j v hv => by
  rw [hB.cell (p := ⟨b, o + j, none⟩) hb]
  exact h j v hv

theorem Digs.below {w w' : World} {A : Option Addr} {ds : List (List Int)} (h : Digs w A ds) (hB : Below w.heap.size w w') : Digs w' A ds := by
  refine ⟨?_, h.2⟩
  rcases h.1 with h1 | ⟨b, off, h1, h2, h3⟩
  · exact .inl h1
  · exact .inr ⟨b, off, h1, Nat.lt_of_lt_of_le h2 hB.size, fun i hi => rangeAt_below (h3 i hi) hB h2⟩

/-- The sums' bytes. -/
def digs (ds : List (List Int)) : List Int := ds.flatMap id

theorem digs_length (ds : List (List Int)) (h : ∀ d ∈ ds, d.length = 32) : (digs ds).length = 32 * ds.length := by
  induction ds with
  | nil => rfl
  | cons d r ih =>
    have h1 := ih fun d hd => h d (by simp [hd])
    have h2 := h d (by simp)
    simp [digs] at h1 ⊢
    omega

theorem digs_take (ds : List (List Int)) (k : Nat) (x : List Int) (hk : k < ds.length) (hx : ds.getD k [] = x) : digs (ds.take k) ++ x = digs (ds.take (k + 1)) := by
  have e : ds[k] = x := by rw [← hx]; simp [List.getD, hk]
  rw [List.take_succ_eq_append_getElem hk, e]
  simp [digs]

theorem dig_mem (ds : List (List Int)) (k : Nat) (x : List Int) (hk : k < ds.length) (hx : ds.getD k [] = x) : x ∈ ds := by
  rw [← hx]
  simp [List.getD, hk]

theorem Src.row (w : World) (t : TypeId) (l : List Int) : Src (w.alloc (.cells (byt l).toArray t)) (some ⟨w.heap.size, 0, none⟩) 32 l := by
  refine ⟨fun h => (by cases h), .inr ⟨w.heap.size, 0, rfl, by simp, fun i hi => ?_⟩⟩
  rw [Nat.zero_add, World.cell?_alloc_at _ _ _ _ rfl]
  simp [byt, List.getD, hi]

theorem info42 : (Tryd.prog.info? 36).map (·.size) = some 32 := by kernel_rfl

set_option maxRecDepth 100000 in
set_option maxHeartbeats 2000000 in
theorem outsum_any (v : Value) (A : Option Addr) (cap base : Nat) (xs : List Int) (ds : List (List Int)) (w : World) (hO : Own w base v xs) (hR : Digs w A ds) (hl : xs.length + 32 * ds.length ≤ 140737488355320) (hbase : base ≤ w.heap.size) :
    Calls Tryd.prog 74 #[v, .slice A ds.length cap] w (Laid w base v (xs ++ digs ds)) := by
  have HO := Lib.hid hO
  have HX := Lib.hid hl
  obtain ⟨len, hlen⟩ : ∃ n, ds.length = n := ⟨_, rfl⟩
  rw [hlen] at hl ⊢
  have hl2 : len ≤ 4398046511103 := by omega
  have HL := Lib.hid hlen
  have HR := Lib.hid hR
  clear hO hlen hR hl
  go_enter Tryd.func74, Tryd.ntmps74
  go_wp2_with fail
  go_loopw [5, 10, 7] (fun t i _ wr => ∃ (k : Nat), k ≤ len ∧ i = .int .i64 k ∧ Hid (Own wr w.heap.size t (digs (ds.take k))) ∧ Hid (Below w.heap.size w wr)) (fun _ i _ _ => len - (intOf i).toNat)
  case atStart => exact ⟨0, Nat.zero_le _, rfl, Lib.hid (Own.nil _ _), Lib.hid (Below.refl _ _)⟩
  case round =>
    obtain ⟨k, hk, rfl, HT, HB⟩ := hrel
    by_cases hlt : k < len
    · rcases HR.out.1 with h0 | ⟨b, off, rfl, hb, hc⟩
      · exfalso
        have := HL.out
        rw [h0] at this
        simp at this
        omega
      · have hkn : k < ds.length := by rw [HL.out]; exact hlt
        obtain ⟨x, hx⟩ : ∃ x, ds.getD k [] = x := ⟨_, rfl⟩
        have hrange := hc k hkn
        rw [hx] at hrange
        have HRG := Lib.hid (rangeAt_below hrange HB.out hb)
        have hx32 : x.length = 32 := HR.out.2 x (dig_mem ds k x hkn hx)
        have HTK := Lib.hid (digs_take ds k x hkn hx)
        have hbl : (byt x).length = 32 := by simp [byt, hx32]
        have HBS : Hid ((Tryd.prog.info? 36).map (·.size) = some (byt x).length) := Lib.hid (by rw [hbl]; exact info42)
        have HST : Hid ((Tryd.prog.info? 36).map (·.size) = some (byt x).toArray.size) := Lib.hid (by rw [List.size_toArray, hbl]; exact info42)
        have hbt : (byt x).toArray.size = 32 := by rw [List.size_toArray, hbl]
        have hsz : zeros.size = 32 := by simp [zeros]
        have HSZ : Hid ((#[.int .u8 0, .int .u8 0, .int .u8 0, .int .u8 0, .int .u8 0, .int .u8 0, .int .u8 0, .int .u8 0, .int .u8 0, .int .u8 0, .int .u8 0, .int .u8 0, .int .u8 0, .int .u8 0, .int .u8 0, .int .u8 0, .int .u8 0, .int .u8 0, .int .u8 0, .int .u8 0, .int .u8 0, .int .u8 0, .int .u8 0, .int .u8 0, .int .u8 0, .int .u8 0, .int .u8 0, .int .u8 0, .int .u8 0, .int .u8 0, .int .u8 0, .int .u8 0] : Array Value).size = (byt x).toArray.size) := Lib.hid (hsz.trans hbt.symm)
        have HAL : Hid ((byt x).toArray.all (·.oneCell') = true) := Lib.hid (all_oneCell_toArray (by intro v hv; obtain ⟨n, _, rfl⟩ := List.mem_map.1 hv; rfl))
        have HLA := Lib.hid (heap_alloc_last wr (.cells #[.int .u8 0, .int .u8 0, .int .u8 0, .int .u8 0, .int .u8 0, .int .u8 0, .int .u8 0, .int .u8 0, .int .u8 0, .int .u8 0, .int .u8 0, .int .u8 0, .int .u8 0, .int .u8 0, .int .u8 0, .int .u8 0, .int .u8 0, .int .u8 0, .int .u8 0, .int .u8 0, .int .u8 0, .int .u8 0, .int .u8 0, .int .u8 0, .int .u8 0, .int .u8 0, .int .u8 0, .int .u8 0, .int .u8 0, .int .u8 0, .int .u8 0, .int .u8 0] 36))
        have HSR : Hid (Src (wr.alloc (.cells (byt x).toArray 36)) (some ⟨wr.heap.size, 0, none⟩) 32 x) := Lib.hid (Src.row wr 36 x)
        have HLN : Hid ((digs (ds.take k)).length ≤ 32 * k) := Lib.hid (by rw [digs_length _ fun d hd => HR.out.2 d (List.mem_of_mem_take hd), List.length_take]; omega)
        clear hbl hbt hsz
        have hbr : b < wr.heap.size := Nat.lt_of_lt_of_le hb HB.out.size
        have HX32 := Lib.hid hx32
        clear hc hx hrange hx32
        go_wp2_with (first | (refine wpList_load_mid rfl 36 (.tmp 12) rfl b (off + k * 32) rfl (byt x) _ HRG.out Tryd.underlying36 rfl HBS.out ?_) | (refine wpList_store_row rfl 36 (.tmp 7) (.tmp 13) rfl wr.heap.size (byt x).toArray rfl rfl 36 _ HLA.out HST.out HSZ.out HAL.out ?_; rw [World.setRow_alloc_new]) | (at_builtin; refine wpList_app rfl (.tmp 14) (.tmp 15) 30 30 rfl Tryd.underlying30 Tryd.underlying30 w.heap.size _ (digs (ds.take k)) x rfl (HT.out.below ((Below.refl _ _).alloc (Nat.le_refl _) _)) (some ⟨wr.heap.size, 0, none⟩) 32 32 rfl HX32.out.symm HSR.out ?c1 ?c2 ?_))
        case c1 => have := HLN.out; rw [HX32.out]; have := HX.out; rw [HL.out] at this; omega
        case c2 => have := HB.out.size; simp; omega
        intro v' w1 hO' hg hL
        have hbb := (HB.out.alloc HB.out.size (.cells (byt x).toArray 36)).trans (grown_below hg (by have := HB.out.size; simp; omega) fun g hg => (World.ownsRow.lt HT.out g hg).1)
        have HB2 := Lib.hid hbb
        rw [HTK.out] at hO'
        have HT2 := Lib.hid hO'
        clear hO' hg hL hkn hbb
        go_wp2
        go_roundw
        case rel => exact ⟨k + 1, by omega, by go_num, HT2, HB2⟩
        case measure => simp [intOf]; omega
    · obtain rfl : k = len := by omega
      have htk : ds.take k = ds := List.take_of_length_le (by rw [HL.out]; exact Nat.le_refl _)
      rw [htk] at HT
      obtain ⟨A', c', hv, hS⟩ := HT.out.src
      subst hv
      have HS := Lib.hid hS
      have HLL := Lib.hid (digs_length ds HR.out.2)
      obtain ⟨m, hm⟩ : ∃ m, (digs ds).length = m := ⟨_, rfl⟩
      rw [hm]
      have HM := Lib.hid hm
      clear hS htk hm
      go_wp2_with (at_builtin; refine wpList_app rfl (.tmp 18) (.tmp 19) 71 30 rfl Tryd.underlying71 Tryd.underlying30 base v xs (digs ds) rfl (HO.out.below HB.out) A' m c' rfl HM.out.symm HS.out ?c1 ?c2 ?_)
      case c1 => rw [HLL.out]; have := HX.out; omega
      case c2 => exact Nat.le_trans hbase HB.out.size
      intro v' w1 hO' hg hL
      have HLD := Lib.hid (Laid.mk HB.out hO' hg hL)
      clear hO' hg hL
      go_wp2
      go_ret
      exact HLD.out
end Go.Proofs.YtkonokjhpddbfaaDoor.Oct
namespace Go.Proofs.YtkonokjhpddbfaaDoor.Oct
open Go.ChangeShapes Go.WideShapes Go.ChangeAt Go.RowKit
set_option linter.unusedVariables false

theorem Laid.keep {w wr w' : World} {base : Nat} {t : Value} {xs : List Int} (hw : Below base w wr) (hO : Own wr base t xs) (hb : base ≤ wr.heap.size) (h : wr.grownBy w' t.ownBlock) : Below base w w' :=
  hw.trans (grown_below h hb fun g hg => (World.ownsRow.lt hO g hg).1)

theorem take_snoc (ns : List Int) (k : Nat) (x : Int) (hk : k < ns.length) (hx : ns.getD k 0 = x) : ns.take k ++ [x] = ns.take (k + 1) := by
  have e : ns[k] = x := by rw [← hx]; simp [List.getD, hk]
  rw [List.take_succ_eq_append_getElem hk, e]

theorem Src.one (w : World) (x : Int) : Src (w.alloc (.cells #[.int .u8 x] 5)) (some ⟨w.heap.size, 0, none⟩) 1 [x] := Src.lit w #[.int .u8 x] [x] rfl
theorem fold_get : ∀ (l : List Value) (p : Nat) (cs : Array Value), p + l.length ≤ cs.size →
    ((l.zipIdx p).foldl (fun (cs : Array Value) (cj : Value × Nat) => cs.setIfInBounds (0 + cj.2) cj.1) cs).size = cs.size ∧
    ∀ j, ((l.zipIdx p).foldl (fun (cs : Array Value) (cj : Value × Nat) => cs.setIfInBounds (0 + cj.2) cj.1) cs)[j]? = if p ≤ j ∧ j < p + l.length then l[j - p]? else cs[j]?
  | [], p, cs, _ => by
    refine ⟨rfl, fun j => ?_⟩
    rw [if_neg (by simp)]
    rfl
  | a :: l, p, cs, h => by
    have hl : p + 1 + l.length ≤ (cs.setIfInBounds (0 + p) a).size := by simp at h ⊢; omega
    obtain ⟨h1, h2⟩ := fold_get l (p + 1) (cs.setIfInBounds (0 + p) a) hl
    rw [List.zipIdx_cons, List.foldl_cons]
    refine ⟨by rw [h1]; simp, fun j => ?_⟩
    rw [h2 j]
    by_cases hj : j = p
    · subst hj
      rw [if_neg (by omega), if_pos (by simp)]
      have : j < cs.size := by simp at h; omega
      simp [this]
    · by_cases hj2 : p + 1 ≤ j ∧ j < p + 1 + l.length
      · rw [if_pos hj2, if_pos (by simp; omega)]
        have : j - p = (j - (p + 1)) + 1 := by omega
        rw [this]
        simp
      · rw [if_neg hj2, if_neg (by simp; omega)]
        rw [Array.getElem?_setIfInBounds_ne (by omega)]

theorem fold_all (l : List Value) (cs : Array Value) (h : cs.size = l.length) : (l.toArray.zipIdx.foldl (fun (cs : Array Value) (cj : Value × Nat) => cs.setIfInBounds (0 + cj.2) cj.1) cs) = l.toArray := by
  rw [← Array.foldl_toList]
  have e : l.toArray.zipIdx.toList = l.zipIdx 0 := by simp
  rw [e]
  obtain ⟨h1, h2⟩ := fold_get l 0 cs (by omega)
  apply Array.ext_getElem?
  intro j
  rw [h2 j]
  by_cases hj : j < l.length
  · rw [if_pos (by omega)]
    simp
  · rw [if_neg (by omega), Array.getElem?_eq_none (by omega), Array.getElem?_eq_none (by rw [List.size_toArray]; omega)]

set_option maxRecDepth 100000 in
theorem build_sum (x : List Int) (hx : (byt x).length = 32) (w : World) : (Instr.buildSlice 92 1 #[(0, .agg (byt x).toArray)]).run Tryd.prog w = .ok (.slice (some ⟨w.heap.size, 0, none⟩) 1 1) (w.alloc (.cells (byt x).toArray 36)) := by
  obtain ⟨i0, hi, hz0, hz1, hz2⟩ := info_parts (show (Tryd.prog.info? 36).map (fun i => (i.zero, i.size, i.bytes)) = some (some (.agg zeros), 32, 32) by kernel_rfl)
  refine run_buildSlice w 92 36 1 _ (byt x).toArray i0 (.agg zeros) Tryd.underlying92 hi hz0 (by rw [hz1]; decide) (by rw [hz1]; decide) ?_
  rw [hz1]
  show Instr.fill _ _ [(0, .agg (byt x).toArray)] = _
  unfold Instr.fill
  simp only [Value.cells, List.size_toArray, hx, Array.size_map, Array.size_range]
  rw [if_neg (by decide)]
  simp only [Nat.zero_mul]
  unfold Instr.fill
  congr 1
  exact fold_all (byt x) _ (by simp [hx])

theorem digs_one (x : List Int) : digs [x] = x := by simp [digs]

/-- One sum, out of a block of its own. -/
theorem outsum_one (v : Value) (g base : Nat) (xs x : List Int) (w : World) (hO : Own w base v xs) (hg : w.heap[g]? = some (.cells (byt x).toArray 36 (0, 0))) (hx : x.length = 32) (hl : xs.length ≤ 1000000) (hbase : base ≤ w.heap.size) :
    Calls Tryd.prog 74 #[v, .slice (some ⟨g, 0, none⟩) 1 1] w (Laid w base v (xs ++ x)) := by
  have hlt : g < w.heap.size := by
    rcases Nat.lt_or_ge g w.heap.size with h2 | h2
    · exact h2
    · rw [Array.getElem?_eq_none h2] at hg; cases hg
  have h := outsum_any v (some ⟨g, 0, none⟩) 1 base xs [x] w hO ⟨.inr ⟨g, 0, rfl, hlt, fun i hi => by
    have : i = 0 := by simpa using hi
    subst this
    intro j u hu
    have := World.news_of_block hg j u (by simpa using hu)
    rw [Go.WideShapes.add_plain] at this
    simpa using this⟩, by simpa using hx⟩ (by simp; omega) hbase
  rw [digs_one] at h
  exact h

/-- The two rows lie apart. -/
def Apart (t u : Value) : Prop := ∀ g, t.ownBlock = some g → u.ownBlock ≠ some g

theorem info29 : (Tryd.prog.info? 29).map (·.size) = some 32 := by kernel_rfl
/-- What is held through the fourth loop's region: the bytes so far, the row of sums so far, apart; the sum at hand; nothing older is written. -/
structure Inv (w W : World) (base bx : Nat) (x : List Int) (t u : Value) (X : List Int) (n : Nat) (Y : List Value) : Prop where
  own : Own W base t X
  row : W.ownsRow base 36 32 u n Y
  ap : Apart t u
  bel : Below base w W
  rg : W.rangeAt bx 0 (byt x)
  tb : t.ownBlock ≠ some bx
  ub : u.ownBlock ≠ some bx
  lt : bx < W.heap.size
  le : base ≤ W.heap.size

/-- A block of one sum that is neither row's. -/
structure Blk (W : World) (x : List Int) (t u : Value) (g : Nat) : Prop where
  holds : W.heap[g]? = some (.cells (byt x).toArray 36 (0, 0))
  nt : t.ownBlock ≠ some g
  nu : u.ownBlock ≠ some g

theorem Blk.lt {W : World} {x : List Int} {t u : Value} {g : Nat} (h : Blk W x t u g) : g < W.heap.size := by
  rcases Nat.lt_or_ge g W.heap.size with h2 | h2
  · exact h2
  · have := h.holds
    rw [Array.getElem?_eq_none h2] at this
    cases this

theorem Inv.alloc {w W : World} {base bx : Nat} {x : List Int} {t u : Value} {X : List Int} {n : Nat} {Y : List Value} (h : Inv w W base bx x t u X n Y) (o : Obj) : Inv w (W.alloc o) base bx x t u X n Y where
  own := World.ownsRow.alloc h.own o
  row := h.row.alloc o
  ap := h.ap
  bel := h.bel.alloc h.le o
  rg := World.rangeAt_alloc h.rg o
  tb := h.tb
  ub := h.ub
  lt := by have := h.lt; simp; omega
  le := by have := h.le; simp; omega

theorem Inv.blk {w W : World} {base bx : Nat} {x : List Int} {t u : Value} {X : List Int} {n : Nat} {Y : List Value} (h : Inv w W base bx x t u X n Y) : Blk (W.alloc (.cells (byt x).toArray 36)) x t u W.heap.size where
  holds := heap_alloc_last W _
  nt := fun hg => absurd (World.ownsRow.lt h.own _ hg).2 (Nat.lt_irrefl _)
  nu := fun hg => absurd (World.ownsRow.lt h.row _ hg).2 (Nat.lt_irrefl _)

theorem Blk.alloc {W : World} {x : List Int} {t u : Value} {g : Nat} (h : Blk W x t u g) (o : Obj) : Blk (W.alloc o) x t u g where
  holds := by
    have := (Below.refl W.heap.size W).alloc (Nat.le_refl _) o
    rw [this.block g h.lt]
    exact h.holds
  nt := h.nt
  nu := h.nu

end Go.Proofs.YtkonokjhpddbfaaDoor.Oct
namespace Go.Proofs.YtkonokjhpddbfaaDoor.Oct
open Go.RowKit
set_option linter.unusedVariables false

/-- A block that is known whole, and may be written. -/
def Bk (w : World) (g : Nat) (t : TypeId) (cs : List Value) : Prop := w.heap[g]? = some (.cells cs.toArray t (0, 0))
section
variable {w w' : World} {g : Nat} {t : TypeId} {cs : List Value}
theorem Bk.lt (h : Bk w g t cs) : g < w.heap.size := by
  rcases Nat.lt_or_ge g w.heap.size with hlt | hge
  · exact hlt
  · unfold Bk at h; rw [Array.getElem?_eq_none hge] at h; cases h
theorem Bk.cell (h : Bk w g t cs) (i : Nat) : w.cell? ⟨g, i, none⟩ = cs[i]? := by
  rw [cell_of_row w g i cs.toArray t (0, 0) h]; simp
theorem Bk.frozen (h : Bk w g t cs) (i : Nat) : w.frozen? ⟨g, i, none⟩ = false := by
  unfold Bk at h
  simp [World.frozen?, h]
theorem Bk.new (w : World) (t : TypeId) (cs : List Value) : Bk (w.alloc (.cells cs.toArray t)) w.heap.size t cs := heap_alloc_last w _
theorem Bk.alloc (h : Bk w g t cs) (o : Obj) : Bk (w.alloc o) g t cs := (Below.heap_alloc w o g h.lt).trans h
theorem Bk.set_ (h : Bk w g t cs) (i : Nat) (u : Value) : Bk (w.setCell ⟨g, i, none⟩ u) g t (cs.set i u) := by
  unfold Bk at h ⊢
  rw [setCell_eq_setRow w g i cs.toArray t (0, 0) u h, setRow_heap w g cs.toArray _ t _ h]
  simp
theorem Bk.below {B : Nat} (h : Bk w g t cs) (hb : Below B w w') (hg : g < B) : Bk w' g t cs := (hb.block g hg).trans h
theorem Bk.grown {row : Option Nat} (h : Bk w g t cs) (hb : w.grownBy w' row) (hg : some g ≠ row) : Bk w' g t cs := (hb.block g h.lt hg).trans h
theorem Bk.all (h : Bk w g t cs) : w.rangeAt g 0 cs := fun j v hv => by
  rw [h.cell, Nat.zero_add]
  exact hv
end
theorem only_set (w : World) (g o : Nat) (u : Value) : w.grownBy (w.setCell ⟨g, o, none⟩ u) (some g) :=
  ⟨rfl, rfl, rfl, by simp [World.setCell], fun i hi hne => Below.heap_setCell w ⟨g, o, none⟩ u i (by rintro rfl; exact hne rfl)⟩
theorem only_below {a w w1 : World} {r : Option Nat} (h : a.grownBy w r) (hb : Below w.heap.size w w1) : a.grownBy w1 r :=
  ⟨hb.os.trans h.os, hb.tape.trans h.tape, hb.output.trans h.output, Nat.le_trans h.size hb.size, fun i hi hn => (hb.block i (Nat.lt_of_lt_of_le hi h.size)).trans (h.block i hi hn)⟩
theorem only_drewN {a w : World} {row : Option Nat} (h : a.grownBy w row) (n : Nat) : a.grownBy (w.drewN n) row := ⟨h.os, h.tape, h.output, h.size, h.block⟩

/-- An In with nothing wrong, and what is left of its bytes. -/
structure InAt (w : World) (g : Nat) (l : List Int) : Prop where
  ex : ∃ gr o c, Bk w g 130 [.slice (some ⟨gr, o, none⟩) l.length c, .int .i64 0] ∧ gr < g ∧ l.length ≤ c ∧ c ≤ 9223372036854775807 ∧ ∀ i, i < l.length → w.cell? ⟨gr, o + i, none⟩ = some (.int .u8 (l.getD i 0))
theorem InAt.below {w w' : World} {g : Nat} {l : List Int} (h : InAt w g l) (hb : Below w.heap.size w w') : InAt w' g l := by
  obtain ⟨gr, o, c, h1, h2, h4, h5, h6⟩ := h.ex
  exact ⟨gr, o, c, h1.below hb h1.lt, h2, h4, h5, fun i hi => by rw [hb.cell (p := ⟨gr, o + i, none⟩) (Nat.lt_trans h2 h1.lt)]; exact h6 i hi⟩
theorem InAt.far {w w' : World} {g b : Nat} {l : List Int} (h : InAt w g l) (hg : w.grownBy w' (some b)) (hb : g < b) : InAt w' g l := by
  obtain ⟨gr, o, c, h1, h2, h4, h5, h6⟩ := h.ex
  refine ⟨gr, o, c, h1.grown hg (by intro he; injection he; omega), h2, h4, h5, fun i hi => ?_⟩
  rw [← h6 i hi]
  exact World.cell?_of_block (hg.block gr (Nat.lt_trans h2 h1.lt) (by intro he; injection he; omega))
theorem InAt.drewN {w : World} {g : Nat} {l : List Int} (h : InAt w g l) (n : Nat) : InAt (w.drewN n) g l := ⟨h.ex⟩
theorem InAt.lt {w : World} {g : Nat} {l : List Int} (h : InAt w g l) : g < w.heap.size := by
  obtain ⟨gr, o, c, h1, _⟩ := h.ex
  exact h1.lt

def cutPlace (o c h : Nat) : Nat := if c = h then o else o + h
theorem cutLo (A : Option Addr) (L c h : Nat) (hh : h ≤ c) (W : World) : (Instr.slice 30 (.slice A L c) none (some (.int .i64 (h : Int))) none).run Tryd.prog W = .ok (.slice A h c) W := by
  obtain ⟨i0, hi, hzz⟩ := Option.map_eq_some_iff.1 byte_info
  simp only [Prod.mk.injEq] at hzz
  rw [run_slice_h (P := Tryd.prog) W 30 A L c (by kernel_rfl) .i64 (h : Int) (by omega) (by omega), show Tryd.prog.elem 30 = 5 by kernel_rfl]
  cases A <;> simp [sizeOf, typeInfo, hi, sliced, Addr.add]
theorem cutHi (g o L c h : Nat) (hh : h ≤ L) (hc : L ≤ c) (W : World) : (Instr.slice 30 (.slice (some ⟨g, o, none⟩) L c) (some (.int .i64 (h : Int))) none none).run Tryd.prog W = .ok (.slice (some ⟨g, cutPlace o c h, none⟩) (L - h) (c - h)) W := by
  obtain ⟨i0, hi, hzz⟩ := Option.map_eq_some_iff.1 byte_info
  simp only [Prod.mk.injEq] at hzz
  obtain ⟨hz0, hz1, hz2⟩ := hzz
  rw [run_slice_l (P := Tryd.prog) W 30 _ L c (by kernel_rfl) .i64 (h : Int) (by omega) (by omega), show Tryd.prog.elem 30 = 5 by kernel_rfl]
  by_cases e : c = h <;> simp [sizeOf, typeInfo, hi, hz1, sliced, cutPlace, e, Go.WideShapes.add_plain]

theorem InAt.cut {w : World} {g gr o c L n : Nat} {xs ys : List Int} (hn : xs.length = n) (hL : (xs ++ ys).length = L) (h1 : Bk w g 130 [.slice (some ⟨gr, o, none⟩) L c, .int .i64 0]) (h2 : gr < g) (h4 : L ≤ c) (h5 : c ≤ 9223372036854775807) (h6 : ∀ i, i < L → w.cell? ⟨gr, o + i, none⟩ = some (.int .u8 ((xs ++ ys).getD i 0))) :
    InAt (w.setCell ⟨g, 0, none⟩ (.slice (some ⟨gr, cutPlace o c n, none⟩) (L - n) (c - n))) g ys ∧ Src (w.setCell ⟨g, 0, none⟩ (.slice (some ⟨gr, cutPlace o c n, none⟩) (L - n) (c - n))) (some ⟨gr, o, none⟩) c xs := by
  have hly : L - n = ys.length := by rw [← hL, ← hn]; simp
  have hfar : ∀ j, (w.setCell ⟨g, 0, none⟩ (.slice (some ⟨gr, cutPlace o c n, none⟩) (L - n) (c - n))).cell? ⟨gr, j, none⟩ = w.cell? ⟨gr, j, none⟩ := fun j => World.cell?_setCell_other _ _ _ _ (by intro h; injection h; omega)
  have hLn : L = n + ys.length := by rw [← hL, ← hn]; simp
  have h3 : gr < w.heap.size := Nat.lt_trans h2 h1.lt
  refine ⟨⟨gr, cutPlace o c n, c - n, ?_, h2, by omega, by omega, fun i hi => ?_⟩, fun h => (by cases h), ?_⟩
  · have h := h1.set_ 0 (.slice (some ⟨gr, cutPlace o c n, none⟩) (L - n) (c - n))
    rw [hly] at h ⊢
    exact h
  · rw [hfar]
    have hcn : cutPlace o c n = o + n := by unfold cutPlace; rw [if_neg (by omega)]
    rw [hcn, show o + n + i = o + (n + i) by omega, h6 (n + i) (by omega)]
    simp [List.getD, List.getElem?_append_right, hn]
  · rcases Nat.eq_zero_or_pos xs.length with h0 | h0
    · exact .inl (List.eq_nil_of_length_eq_zero h0)
    · refine .inr ⟨gr, o, rfl, by simpa [World.setCell] using h3, fun i hi => ?_⟩
      rw [hfar, h6 i (by omega)]
      simp [List.getD, List.getElem?_append_left hi]

set_option maxRecDepth 100000 in
theorem next_any (g n : Nat) (xs ys : List Int) (w : World) (HI : Hid (InAt w g (xs ++ ys))) (HN : Hid (xs.length = n)) :
    Calls Tryd.prog 97 #[.pointer (some ⟨g, 0, none⟩), .int .i64 (n : Int)] w fun e w' => ∃ A c, e = .returned (.slice A n c) ∧ Src w' A c xs ∧ InAt w' g ys ∧ w.grownBy w' (some g) := by
  obtain ⟨gr, o, c, h1, h2, h4, h5, h6⟩ := HI.out.ex
  obtain ⟨L, hL⟩ : ∃ L, (xs ++ ys).length = L := ⟨_, rfl⟩
  rw [hL] at h1 h4 h6
  have hnL : n ≤ L := by rw [← hL, ← HN.out]; simp
  have HC := Lib.hid (InAt.cut HN.out hL h1 h2 h4 h5 h6)
  have c0 := h1.cell 0
  have f0 := h1.frozen 0
  have hs1 := cutLo (some ⟨gr, o, none⟩) L c n (by omega)
  have hs2 := cutHi gr o L c n hnL h4
  have n1 : (n : Int) ≤ (L : Int) := by omega
  have HG := Lib.hid (only_set w g 0 (.slice (some ⟨gr, cutPlace o c n, none⟩) (L - n) (c - n)))
  clear h1 h2 h6 hL
  go_enter Tryd.func97, Tryd.ntmps97
  go_wp2
  go_ret
  exact ⟨_, _, rfl, HC.out.2, HC.out.1, HG.out⟩

theorem bad_any (g : Nat) (l : List Int) (w : World) (HI : Hid (InAt w g l)) : Calls Tryd.prog 34 #[.pointer (some ⟨g, 0, none⟩)] w fun r w' => r = .returned (.int .i64 0) ∧ w = w' := by
  obtain ⟨gr, o, c, h1, _⟩ := HI.out.ex
  have c1 := h1.cell 1
  clear h1
  go_enter Tryd.func34, Tryd.ntmps34
  go_wp2
  go_ret
  exact ⟨rfl, rfl⟩
theorem left_any (g : Nat) (l : List Int) (n : Nat) (w : World) (HI : Hid (InAt w g l)) (HN : Hid (l.length = n)) : Calls Tryd.prog 35 #[.pointer (some ⟨g, 0, none⟩)] w fun r w' => r = .returned (.int .i64 n) ∧ w = w' := by
  obtain ⟨gr, o, c, h1, _⟩ := HI.out.ex
  rw [HN.out] at h1
  have c0 := h1.cell 0
  clear h1
  go_enter Tryd.func35, Tryd.ntmps35
  go_wp2
  go_ret
  exact ⟨rfl, rfl⟩
theorem end_any (g : Nat) (w : World) (HI : Hid (InAt w g [])) : Calls Tryd.prog 38 #[.pointer (some ⟨g, 0, none⟩)] w fun r w' => r = .returned (.int .i64 0) ∧ w = w' := by
  go_enter Tryd.func38, Tryd.ntmps38
  go_wp2_with fail
  refine (bad_any g [] w HI).mono ?_
  rintro e w' ⟨rfl, rfl⟩
  go_wp2_with fail
  refine (left_any g [] 0 w HI (Lib.hid rfl)).mono ?_
  rintro e w' ⟨rfl, rfl⟩
  go_wp2_with fail
  refine (bad_any g [] w HI).mono ?_
  rintro e w' ⟨rfl, rfl⟩
  go_wp2
  go_ret
  exact ⟨rfl, rfl⟩

/-- A number off bytes, the greatest first. -/
def numB : List Int → Int → Int
  | [], n => n
  | b :: r, n => numB r (n * 256 + b)
theorem numB_snoc (l : List Int) (b n : Int) : numB (l ++ [b]) n = numB l n * 256 + b := by
  induction l generalizing n with
  | nil => rfl
  | cons a r ih => exact ih _

set_option maxRecDepth 100000 in
theorem number_any (A : Option Addr) (c n : Nat) (l : List Int) (w : World) (HS : Hid (Src w A c l)) (HN : Hid (l.length = n)) (hn : n ≤ 8) (HB : Hid (∀ b ∈ l, 0 ≤ b ∧ b < 256)) :
    Calls Tryd.prog 101 #[.slice A n c] w fun r w' => r = .returned (.int .u64 (numB l 0)) ∧ w = w' := by
  go_enter Tryd.func101, Tryd.ntmps101
  go_wp2_with fail
  go_loop [8, 3, 5] (fun i t _ => ∃ (k v : Nat), k ≤ n ∧ i = .int .i64 k ∧ t = .int .u64 v ∧ Hid (numB (l.take k) 0 = v) ∧ Hid (v < 256 ^ k)) (fun i _ _ => n - (intOf i).toNat)
  case atStart => exact ⟨0, 0, Nat.zero_le _, rfl, rfl, Lib.hid (by simp [numB]), Lib.hid (by simp)⟩
  case round =>
    obtain ⟨k, v, hk, rfl, rfl, HV, HVB⟩ := hrel
    by_cases hlt : k < n
    · have hkn : k < l.length := by rw [HN.out]; exact hlt
      rcases HS.out.2 with h0 | ⟨b, off, rfl, hb, hc⟩
      · exfalso
        rw [h0] at hkn
        simp at hkn
      · obtain ⟨x, hx⟩ : ∃ x, l.getD k 0 = x := ⟨_, rfl⟩
        have hcell := hc k hkn
        rw [hx] at hcell
        have hxm : x ∈ l := by rw [← hx]; simp [List.getD, hkn]
        obtain ⟨x0, x1⟩ := HB.out x hxm
        obtain ⟨y, rfl⟩ : ∃ y : Nat, x = (y : Int) := ⟨x.toNat, by omega⟩
        have hy : y < 256 := by omega
        clear hc hxm
        have hp : 256 ^ k ≤ 72057594037927936 := by
          have h1 : k ≤ 7 := by omega
          have h2 := Nat.pow_le_pow_right (n := 256) (by omega) h1
          exact h2
        have HOR : Hid (bits .or .u64 (IntKind.u64.wrap ((v : Int) * 256)) (y : Int) = ((v * 256 + y : Nat) : Int)) := Lib.hid (by
          have h1 := HVB.out
          have e1 : IntKind.u64.wrap ((v : Int) * 256) = ((v * 256 : Nat) : Int) := by
            rw [show (v : Int) * 256 = ((v * 256 : Nat) : Int) by simp]
            exact IntWalk.u64_in _ (by omega)
          rw [e1, u64_or_nat _ _ (by omega) (by omega), nat_join 8 (v * 256) y (by omega) hy])
        have HV2 : Hid (numB (l.take (k + 1)) 0 = ((v * 256 + y : Nat) : Int)) := Lib.hid (by
          rw [← take_snoc l k _ hkn hx, numB_snoc, HV.out]
          simp)
        have HVB2 : Hid (v * 256 + y < 256 ^ (k + 1)) := Lib.hid (by
          have h1 := HVB.out
          rw [Nat.pow_succ]
          omega)
        clear hx hp
        go_wp2
        rw [HOR.out]
        go_round
        case rel => exact ⟨k + 1, v * 256 + y, by omega, by go_num, rfl, HV2, HVB2⟩
        case measure => simp [intOf]; omega
    · have htk : l.take k = l := List.take_of_length_le (by rw [HN.out]; omega)
      rw [htk] at HV
      clear htk
      go_wp2
      go_ret
      exact ⟨by rw [HV.out]; rfl, rfl⟩

theorem splice_all (cur cs : List Value) (h : cs.length = cur.length) : splice cur 0 cs = cs := by
  simp [splice, h]
theorem byt_one (l : List Int) : ∀ v ∈ byt l, v.oneCell' = true := by
  intro v hv
  obtain ⟨n, _, rfl⟩ := List.mem_map.1 hv
  rfl
theorem info5 : (Tryd.prog.info? 5).map (·.size) = some 1 := by kernel_rfl
theorem Src.cells {w : World} {A : Option Addr} {c : Nat} {l : List Int} (h : Src w A c l) (hl : 0 < (byt l).length) : ∃ ad, A = some ad ∧ ∀ j v, (byt l)[j]? = some v → w.cell? (ad.add j) = some v := by
  rcases h.2 with rfl | ⟨b, off, rfl, _, hc⟩
  · simp [byt] at hl
  · refine ⟨_, rfl, fun j v hv => ?_⟩
    have hj : j < l.length := by
      have := (List.getElem?_eq_some_iff.1 hv).1
      simpa [byt] using this
    rw [Go.WideShapes.add_plain, hc j hj, ← hv]
    simp [byt, List.getD, hj]
set_option maxRecDepth 100000 in
set_option maxHeartbeats 1000000 in
theorem of_any (A : Option Addr) (c n : Nat) (l : List Int) (w : World) (HS : Hid (Src w A c l)) (HN : Hid (l.length = n)) (hn : n ≤ 1000000000) :
    Calls Tryd.prog 30 #[.slice A n c] w fun r w' => ∃ g, r = .returned (.pointer (some ⟨g, 0, none⟩)) ∧ InAt w' g l ∧ Below w.heap.size w w' ∧ w.heap.size ≤ g := by
  have hmk := run_make_row' (P := Tryd.prog) 30 5 (.int .u8 0) 1 Tryd.underlying30 byte_info rfl .i64 .i64 n (by omega) (by omega)
  have HB0 : Hid (Below w.heap.size w (w.alloc (.cells (madeCells #[.int .u8 0] n) 5))) := Lib.hid ((Below.refl _ _).alloc (Nat.le_refl _) _)
  have HC0 : Hid ((w.alloc (.cells (madeCells #[.int .u8 0] n) 5)).heap[w.heap.size]? = some (.cells (List.replicate n (Value.int .u8 0)).toArray 5 (0, 0))) := Lib.hid (by
    have h := heap_alloc_last w (.cells (madeCells #[.int .u8 0] n) 5)
    have e : (List.replicate n (Value.int .u8 0)).toArray = madeCells #[.int .u8 0] n := by
      apply Array.ext'
      rw [toList_madeCells_one]
    rw [e]
    exact h)
  go_enter Tryd.func30, Tryd.ntmps30
  go_upto_region 2 with fail
  generalize w.alloc (.cells (madeCells #[.int .u8 0] n) 5) = V at HB0 HC0 ⊢
  have HSV := Lib.hid (HS.out.below HB0.out)
  have HL1 : Hid ((byt l).length = Nat.min n n) := Lib.hid (by simp [byt, HN.out])
  have HPS : Hid (0 < (byt l).length → (some ⟨w.heap.size, 0, none⟩ : Option Addr) = some ⟨w.heap.size, 0, none⟩ ∧ ∃ ad, A = some ad ∧ ∀ j v, (byt l)[j]? = some v → V.cell? (ad.add j) = some v) := Lib.hid fun h => ⟨rfl, HSV.out.cells h⟩
  have HFT : Hid (0 + (byt l).length ≤ (List.replicate n (Value.int .u8 0)).length) := Lib.hid (by simp [byt, HN.out])
  have HO1 := Lib.hid (byt_one l)
  clear hmk
  go_wp2_with (with_reducible refine wpList_copy_splice rfl (.tmp 7) (.tmp 8) 30 30 rfl 5 Tryd.underlying30 info5 (some ⟨w.heap.size, 0, none⟩) A n n n c rfl rfl w.heap.size 0 _ 5 HC0.out (byt l) HL1.out HPS.out HFT.out HO1.out w.heap.size w HB0.out (Nat.le_refl _) ?_)
  intro V1 HC1 hB1
  have HB1 := Lib.hid hB1
  have HR1 : Hid (Bk V1 w.heap.size 5 (byt l)) := Lib.hid (by
    have h := HC1.out
    rw [splice_all _ _ (by simp [byt, HN.out])] at h
    exact h)
  clear hB1 HC1
  go_wp2
  go_ret
  refine ⟨_, rfl, ⟨w.heap.size, 0, n, ?_, ?_, ?_, ?_, ?_⟩, HB1.out.alloc HB1.out.size _, HB1.out.size⟩
  · rw [HN.out]
    exact Bk.new V1 130 [.slice (some ⟨w.heap.size, 0, none⟩) n n, .int .i64 0]
  · exact HR1.out.lt
  · rw [HN.out]
    exact Nat.le_refl _
  · omega
  · intro i hi
    have h := (HR1.out.alloc (.cells #[.slice (some ⟨w.heap.size, 0, none⟩) n n, .int .i64 0] 130)).cell i
    rw [Nat.zero_add]
    refine h.trans ?_
    simp [byt, List.getD, hi]

theorem slice42 (g : Nat) (W : World) : (Instr.sliceAt 36 (.pointer (some ⟨g, 0, none⟩)) none none none).run Tryd.prog W = .ok (.slice (some ⟨g, 0, none⟩) 32 32) W := by
  have h := run_sliceAt_array_all (P := Tryd.prog) W 36 ⟨g, 0, none⟩ (by kernel_rfl)
  rw [h, show Tryd.prog.arrayLen 36 = 32 by kernel_rfl, show Tryd.prog.elem 36 = 5 by kernel_rfl]
  obtain ⟨i0, hi, hzz⟩ := Option.map_eq_some_iff.1 byte_info
  simp [sizeOf, typeInfo, hi, slicedAt, Go.WideShapes.add_plain]
end Go.Proofs.YtkonokjhpddbfaaDoor.Oct
namespace Go.Proofs.YtkonokjhpddbfaaDoor.Oct
open Go.RowKit
set_option linter.unusedVariables false

theorem only_setRow (w : World) (g : Nat) (c : Array Value) : w.grownBy (w.setRow g c) (some g) :=
  ⟨rfl, rfl, rfl, by simp, fun i hi hne => setRow_other w g i c (by rintro rfl; exact hne rfl)⟩
theorem Bk.setRow {w : World} {g : Nat} {t : TypeId} {cs : List Value} (h : Bk w g t cs) (c : List Value) : Bk (w.setRow g c.toArray) g t c := setRow_heap w g cs.toArray c.toArray t _ h

theorem step_copy_at {ops : Array Oper} {o : Oper} {a : Act} {w : World} {K : Act → World → Prop} {Q : Exit → Act → World → Prop} {E : Prop} (hgd : o.guard = none) (d s : Operand) (dT sT : TypeId)
    (ho : o.op = .call { callee := .builtin .copy, args := #[d, s], argTypes := #[dT, sT] }) (elem : TypeId) (hu : Tryd.prog.underlying dT = some (.slice elem)) (hsz : (Tryd.prog.info? elem).map (·.size) = some 1)
    (g off dLen dCap : Nat) (ad : Addr) (sLen sCap : Nat) (hd : a.eval d = .slice (some ⟨g, off, none⟩) dLen dCap) (hs : a.eval s = .slice (some ad) sLen sCap)
    (cur : List Value) (t : TypeId) (hg : Bk w g t cur) (cs : List Value) (n : Nat) (hcs : cs.length = n) (hn : n = Nat.min sLen dLen)
    (hsrc : ∀ j v, cs[j]? = some v → w.cell? (ad.add j) = some v) (hfit : off + n ≤ cur.length) (h1 : ∀ v ∈ cs, v.oneCell' = true)
    (h : ∀ w', Hid (Bk w' g t (splice cur off cs)) → Hid (w.grownBy w' (some g)) → K (a.put o.dst (.int .i64 (n : Int))) w') :
    if Region.wanted o (yielded ops a.tmps) = true then Oper.wp Tryd.prog o a w K Q else E := by
  have hw : Region.wanted o (yielded ops a.tmps) = true := by simp [Region.wanted, hgd]
  rw [if_pos hw]
  subst hcs
  have hrun := run_copy_row (P := Tryd.prog) w dT sT o.type elem g off dLen dCap ad sLen sCap cur.toArray t cs hu hsz hg hn hsrc (by simpa using hfit) h1
  have h2 := h (w.setRow g (splice cur off cs).toArray) (Lib.hid (hg.setRow _)) (Lib.hid (only_setRow w g _))
  unfold Oper.wp
  simp [execOp, ho, resolve, invoke, builtin, hd, hs, hrun, Result.andThen]
  exact (by simpa [splice] using h2 : K (a.put o.dst (.int .i64 (cs.length : Int))) (w.setRow g (List.take off cur ++ (cs ++ List.drop (off + cs.length) cur)).toArray))

theorem grown_new {w X1 X2 : World} {r : Option Nat} {b : Nat} (h : w.grownBy X1 r) (h2 : X1.grownBy X2 (some b)) (hb : w.heap.size ≤ b) : w.grownBy X2 r :=
  ⟨h2.os.trans h.os, h2.tape.trans h.tape, h2.output.trans h.output, Nat.le_trans h.size h2.size, fun i hi hn => (h2.block i (Nat.lt_of_lt_of_le hi h.size) (by intro he; injection he; omega)).trans (h.block i hi hn)⟩

set_option maxRecDepth 100000 in
set_option maxHeartbeats 1000000 in
theorem sum_in (g : Nat) (D ys : List Int) (w : World) (HI : Hid (InAt w g (D ++ ys))) (HD : Hid (D.length = 32)) :
    Calls Tryd.prog 72 #[.pointer (some ⟨g, 0, none⟩)] w fun r w' => r = .returned (.agg (byt D).toArray) ∧ InAt w' g ys ∧ w.grownBy w' (some g) := by
  have hsl := slice42 (w.heap.size + 1)
  go_enter Tryd.func72, Tryd.ntmps72
  go_wp2_with fail
  rw [zeros_lit]
  have H0 : Hid (Bk ((w.alloc (.cells zeros 36)).alloc (.cells zeros 36)) w.heap.size 36 zeros.toList) := Lib.hid ((Bk.new w 36 zeros.toList).alloc _)
  have H1 : Hid (Bk ((w.alloc (.cells zeros 36)).alloc (.cells zeros 36)) (w.heap.size + 1) 36 zeros.toList) := Lib.hid (by
    have h := Bk.new (w.alloc (.cells zeros 36)) 36 zeros.toList
    rw [World.size_alloc] at h
    exact h)
  have HB : Hid (Below w.heap.size w ((w.alloc (.cells zeros 36)).alloc (.cells zeros 36))) := Lib.hid (((Below.refl _ w).alloc (Nat.le_refl _) (.cells zeros 36)).alloc (by simp) (.cells zeros 36))
  generalize (w.alloc (.cells zeros 36)).alloc (.cells zeros 36) = W at H0 H1 HB ⊢
  have HG0 : Hid (w.grownBy W (some g)) := Lib.hid (Below.grownBy HB.out _)
  have HIW := Lib.hid (HI.out.below HB.out)
  have hgw := HI.out.lt
  have HL1 : Hid ((byt D).length = 32) := Lib.hid (by simp [byt, HD.out])
  have HZ : Hid (0 + 32 ≤ zeros.toList.length) := Lib.hid (by simp [zeros])
  have HO1 := Lib.hid (byt_one D)
  have HNX : Hid (∀ X, InAt X g (D ++ ys) → Calls Tryd.prog 97 #[.pointer (some ⟨g, 0, none⟩), .int .i64 32] X fun e w' => ∃ ad c, e = .returned (.slice (some ad) 32 c) ∧ (∀ j v, (byt D)[j]? = some v → w'.cell? (ad.add j) = some v) ∧ InAt w' g ys ∧ X.grownBy w' (some g)) := Lib.hid fun X hX => by
    refine (next_any g 32 D ys X (Lib.hid hX) HD).mono ?_
    rintro e w' ⟨A, c, rfl, hs, hi, hg⟩
    obtain ⟨ad, rfl, hc⟩ := hs.cells (by rw [HL1.out]; omega)
    exact ⟨ad, c, rfl, hc, hi, hg⟩
  have HBG : Hid (∀ X1, W.drew.grownBy X1 (some g) → Hid (Bk X1 (w.heap.size + 1) 36 zeros.toList)) := Lib.hid fun X1 hg1 => Lib.hid (Bk.grown (w := W.drew) H1.out hg1 (by intro he; injection he; omega))
  go_region_held3 (fun w' => True) (trivial)
    (first
      | (go_at_call 97
         ((with_reducible refine (HNX.out _ ?_).mono ?_))
         · exact HIW.out.drewN 1
         rintro e X1 ⟨ad, cc, rfl, hs1, hi1, hg1⟩
         have HB1 : Hid (Bk X1 (w.heap.size + 1) 36 zeros.toList) := HBG.out X1 hg1)
      | (refine step_copy_at rfl (.tmp 4) (.tmp 6) 30 30 rfl 5 Tryd.underlying30 info5 (w.heap.size + 1) 0 32 32 ad 32 cc rfl rfl zeros.toList 36 HB1.out (byt D) 32 HL1.out rfl hs1 HZ.out HO1.out ?_
         intro X2 HB2 HG2))
  have HD2 : Hid (Bk X2 (w.heap.size + 1) 36 (byt D)) := Lib.hid (by
    have h := HB2.out
    rw [splice_all _ _ (by rw [HL1.out]; simp [zeros])] at h
    exact h)
  have H02 : Hid (Bk X2 w.heap.size 36 zeros.toList) := Lib.hid (Bk.grown (Bk.grown (w := W.drew) H0.out hg1 (by intro he; injection he; omega)) HG2.out (by intro he; injection he; omega))
  have HI2 := Lib.hid (hi1.far HG2.out (by omega))
  have HW2 : Hid (w.grownBy X2 (some g)) := Lib.hid (grown_new ((only_drewN HG0.out 1).trans hg1) HG2.out (by omega))
  clear hs1 hi1 hg1 HB1 HB2 HG2 hsl
  have HRG := Lib.hid HD2.out.all
  have HS5 : Hid ((Tryd.prog.info? 36).map (·.size) = some (byt D).length) := Lib.hid (by rw [HL1.out]; exact info42)
  have HS6 : Hid ((Tryd.prog.info? 36).map (·.size) = some (byt D).toArray.size) := Lib.hid (by rw [List.size_toArray, HL1.out]; exact info42)
  have HZ6 : Hid (zeros.toList.toArray.size = (byt D).toArray.size) := Lib.hid (by rw [List.size_toArray, List.size_toArray, HL1.out]; simp [zeros])
  have HO6 := Lib.hid (all_oneCell_toArray (byt_one D))
  go_wp2_with (first | (refine wpList_load_mid rfl 36 (.tmp 3) rfl (w.heap.size + 1) 0 rfl (byt D) _ HRG.out Tryd.underlying36 rfl HS5.out ?_) | (refine wpList_store_row rfl 36 (.tmp 2) (.tmp 8) rfl w.heap.size (byt D).toArray rfl rfl 36 _ H02.out HS6.out HZ6.out HO6.out ?_))
  exact bodyPost_ret (v := .agg (byt D).toArray) (results_cell_row Tryd.results72 _ _ w.heap.size 36 (byt D).toArray (0, 0) _ rfl (H02.out.setRow _) Tryd.underlying36 rfl HS6.out) rfl ⟨rfl, HI2.out.far (only_setRow _ _ _) hgw, grown_new HW2.out (only_setRow _ _ _) (Nat.le_refl _)⟩
end Go.Proofs.YtkonokjhpddbfaaDoor.Oct
namespace Go.Proofs.YtkonokjhpddbfaaDoor.Oct
open Go.RowKit
set_option linter.unusedVariables false

/-- An In off which too much was asked. -/
def InBad (w : World) (g : Nat) : Prop := Bk w g 130 [.slice none 0 0, .int .i64 9]
/-- An In off which no sum can be taken. -/
def InSh (w : World) (g : Nat) : Prop := InBad w g ∨ ∃ l : List Int, l.length < 32 ∧ InAt w g l
theorem InBad.below {w w' : World} {g : Nat} (h : InBad w g) (hb : Below w.heap.size w w') : InBad w' g := Bk.below h hb (Bk.lt h)
theorem InSh.below {w w' : World} {g : Nat} (h : InSh w g) (hb : Below w.heap.size w w') : InSh w' g := by
  rcases h with h | ⟨l, hl, h⟩
  · exact .inl (h.below hb)
  · exact .inr ⟨l, hl, h.below hb⟩
theorem InSh.lt {w : World} {g : Nat} (h : InSh w g) : g < w.heap.size := by
  rcases h with h | ⟨l, hl, h⟩
  · exact Bk.lt h
  · exact h.lt
theorem InBad.far {w w' : World} {g b : Nat} (h : InBad w g) (hg : w.grownBy w' (some b)) (hb : g ≠ b) : InBad w' g := Bk.grown h hg (by intro he; injection he; omega)

theorem fail_bad (g : Nat) (w : World) (HI : Hid (InBad w g)) : Calls Tryd.prog 103 #[.pointer (some ⟨g, 0, none⟩), .int .i64 9] w fun r w' => r = .returned (.tuple #[]) ∧ w = w' := by
  have c1 := Bk.cell HI.out 1
  go_enter Tryd.func103, Tryd.ntmps103
  go_wp2
  exact bodyPost_ret (v := .tuple #[]) (by simp [results, Tryd.results103, go_sem]) rfl ⟨rfl, rfl⟩
theorem fail_short (g : Nat) (l : List Int) (w : World) (HI : Hid (InAt w g l)) : Calls Tryd.prog 103 #[.pointer (some ⟨g, 0, none⟩), .int .i64 9] w fun r w' => r = .returned (.tuple #[]) ∧ InBad w' g ∧ w.grownBy w' (some g) := by
  obtain ⟨gr, o, c, h1, _⟩ := HI.out.ex
  have c1 := h1.cell 1
  have c0 := h1.cell 0
  have f1 := h1.frozen 1
  have c0' := (h1.set_ 1 (.int .i64 9)).cell 0
  have f0' := (h1.set_ 1 (.int .i64 9)).frozen 0
  have HE : Hid (InBad ((w.setCell ⟨g, 1, none⟩ (.int .i64 9)).setCell ⟨g, 0, none⟩ (.slice none 0 0)) g) := Lib.hid ((h1.set_ 1 (.int .i64 9)).set_ 0 (.slice none 0 0))
  have HG : Hid (w.grownBy ((w.setCell ⟨g, 1, none⟩ (.int .i64 9)).setCell ⟨g, 0, none⟩ (.slice none 0 0)) (some g)) := Lib.hid ((only_set w g 1 _).trans (only_set _ g 0 _))
  clear h1
  go_enter Tryd.func103, Tryd.ntmps103
  go_wp2
  go_end0
  exact ⟨rfl, HE.out, HG.out⟩
theorem next_sh (g : Nat) (w : World) (HI : Hid (InSh w g)) : Calls Tryd.prog 97 #[.pointer (some ⟨g, 0, none⟩), .int .i64 32] w fun r w' => r = .returned (.slice none 0 0) ∧ InBad w' g ∧ w.grownBy w' (some g) := by
  rcases HI.out with hb | ⟨l, hl, hi⟩
  · have c0 := Bk.cell hb 0
    have HB := Lib.hid hb
    clear hb
    go_enter Tryd.func97, Tryd.ntmps97
    go_wp2_with fail
    refine (fail_bad g w HB).mono ?_
    rintro e w1 ⟨rfl, rfl⟩
    go_wp2
    go_ret
    exact ⟨rfl, HB.out, World.grownBy.refl _ _⟩
  · obtain ⟨gr, o, c, h1, _⟩ := hi.ex
    obtain ⟨L, hL⟩ : ∃ L, l.length = L := ⟨_, rfl⟩
    rw [hL] at h1 hl
    have c0 := h1.cell 0
    have l1 : (L : Int) < 32 := by omega
    have HI2 := Lib.hid hi
    clear h1 hi
    go_enter Tryd.func97, Tryd.ntmps97
    go_wp2_with fail
    refine (fail_short g l w HI2).mono ?_
    rintro e w1 ⟨rfl, h2, h3⟩
    have H2 := Lib.hid h2
    have H3 := Lib.hid h3
    clear h2 h3 c0
    go_wp2
    go_ret
    exact ⟨rfl, H2.out, H3.out⟩
set_option maxRecDepth 100000 in
set_option maxHeartbeats 1000000 in
theorem sum_sh (g : Nat) (w : World) (HI : Hid (InSh w g)) : Calls Tryd.prog 72 #[.pointer (some ⟨g, 0, none⟩)] w fun r w' => r = .returned (.agg zeros) ∧ InBad w' g ∧ w.grownBy w' (some g) := by
  have hcp := copy_none
  have hsl := slice42 (w.heap.size + 1)
  go_enter Tryd.func72, Tryd.ntmps72
  go_wp2_with fail
  rw [zeros_lit]
  have H0 : Hid (Bk ((w.alloc (.cells zeros 36)).alloc (.cells zeros 36)) w.heap.size 36 zeros.toList) := Lib.hid ((Bk.new w 36 zeros.toList).alloc _)
  have H1 : Hid (Bk ((w.alloc (.cells zeros 36)).alloc (.cells zeros 36)) (w.heap.size + 1) 36 zeros.toList) := Lib.hid (by
    have h := Bk.new (w.alloc (.cells zeros 36)) 36 zeros.toList
    rw [World.size_alloc] at h
    exact h)
  have HB : Hid (Below w.heap.size w ((w.alloc (.cells zeros 36)).alloc (.cells zeros 36))) := Lib.hid (((Below.refl _ w).alloc (Nat.le_refl _) (.cells zeros 36)).alloc (by simp) (.cells zeros 36))
  generalize (w.alloc (.cells zeros 36)).alloc (.cells zeros 36) = W at H0 H1 HB ⊢
  have HG0 : Hid (w.grownBy W (some g)) := Lib.hid (Below.grownBy HB.out _)
  have HIW := Lib.hid (HI.out.below HB.out)
  have hgw := HI.out.lt
  have HNX : Hid (∀ X, InSh X g → Calls Tryd.prog 97 #[.pointer (some ⟨g, 0, none⟩), .int .i64 32] X fun e w' => e = .returned (.slice none 0 0) ∧ InBad w' g ∧ X.grownBy w' (some g)) := Lib.hid fun X hX => next_sh g X (Lib.hid hX)
  go_region_held3 (fun w' => True) (trivial)
    (first
      | (go_at_call 97
         ((with_reducible refine (HNX.out _ ?_).mono ?_))
         · exact HIW.out.below (below_drewN (Below.refl _ _) 1)
         rintro e X1 ⟨rfl, hi1, hg1⟩))
  have HG1 : Hid (w.grownBy X1 (some g)) := Lib.hid ((only_drewN HG0.out 1).trans hg1)
  have H01 : Hid (Bk X1 w.heap.size 36 zeros.toList) := Lib.hid (Bk.grown (w := W.drew) H0.out hg1 (by intro he; injection he; omega))
  have H11 : Hid (Bk X1 (w.heap.size + 1) 36 zeros.toList) := Lib.hid (Bk.grown (w := W.drew) H1.out hg1 (by intro he; injection he; omega))
  have HBX := Lib.hid hi1
  clear hg1 hi1 hsl hcp
  have HRG := Lib.hid H11.out.all
  have HS5 : Hid ((Tryd.prog.info? 36).map (·.size) = some zeros.toList.length) := Lib.hid (by kernel_rfl)
  have HS6 : Hid ((Tryd.prog.info? 36).map (·.size) = some zeros.size) := Lib.hid (by kernel_rfl)
  have HO6 : Hid (zeros.all (·.oneCell') = true) := Lib.hid (by kernel_rfl)
  go_wp2_with (first | (refine wpList_load_mid rfl 36 (.tmp 3) rfl (w.heap.size + 1) 0 rfl zeros.toList _ HRG.out Tryd.underlying36 rfl HS5.out ?_) | (refine wpList_store_row rfl 36 (.tmp 2) (.tmp 8) rfl w.heap.size zeros rfl rfl 36 _ H01.out HS6.out rfl HO6.out ?_))
  exact bodyPost_ret (v := .agg zeros) (results_cell_row Tryd.results72 _ _ w.heap.size 36 zeros (0, 0) _ rfl (setRow_heap X1 w.heap.size _ zeros 36 _ H01.out) Tryd.underlying36 rfl HS6.out) rfl ⟨rfl, HBX.out.far (only_setRow _ _ _) (by omega), grown_new HG1.out (only_setRow _ _ _) (Nat.le_refl _)⟩
end Go.Proofs.YtkonokjhpddbfaaDoor.Oct
namespace Go.Proofs.YtkonokjhpddbfaaDoor.Oct
open Go.RowKit
set_option linter.unusedVariables false

/-- A number's last bytes, the greatest first. -/
def numV : Nat → Int → List Int
  | 0, _ => []
  | s + 1, n => numV s (n / 256) ++ [n % 256]

theorem numV_length : ∀ (s : Nat) (n : Int), (numV s n).length = s
  | 0, _ => rfl
  | s + 1, n => by simp [numV, numV_length s]

theorem set_rep (q : Nat) (d : Int) (done : List Int) : (byt (List.replicate (q + 1) 0 ++ done)).set q (.int .u8 d) = byt (List.replicate q 0 ++ (d :: done)) := by
  have e : byt (List.replicate (q + 1) 0 ++ done) = byt (List.replicate q 0) ++ (.int .u8 0 :: byt done) := by
    rw [List.replicate_succ']
    simp [byt]
  rw [e, List.set_append]
  have hq : ¬ q < (byt (List.replicate q 0)).length := by simp [byt]
  rw [if_neg hq]
  have h0 : q - (byt (List.replicate q 0)).length = 0 := by simp [byt]
  rw [h0]
  simp [byt]

theorem made_own (w : World) (s : Nat) (hs : s ≤ 8) : Own (w.alloc (.cells (madeCells #[.int .u8 0] s) 5)) w.heap.size (.slice (some ⟨w.heap.size, 0, none⟩) s s) (List.replicate s 0) := by
  have h := World.ownsRow_lit (e := 5) (size := 1) w (madeCells #[.int .u8 0] s) s (Nat.le_refl _) (by unfold maxLen; omega) (by simp [madeCells])
  unfold Own
  have e : byt (List.replicate s 0) = (madeCells #[.int .u8 0] s).toList := by rw [toList_madeCells_one]; simp [byt]
  rw [e, List.length_replicate]
  exact h

set_option maxRecDepth 100000 in
set_option maxHeartbeats 2000000 in
theorem num_any (A : Option Addr) (cap len : Nat) (b : List Int) (m0 : Int) (s : Nat) (hs : s ≤ 8) (w : World) (hS : Src w A cap b) (hb : b.length = len) (hl : len ≤ 1000000) (hm0 : 0 ≤ m0) (hm1 : m0 ≤ 18446744073709551615) :
    Calls Tryd.prog 89 #[.slice A len cap, .int .u64 m0, .int .i64 s] w fun e w' => ∃ v', e = .returned v' ∧ Own w' w.heap.size v' (b ++ numV s m0) ∧ Below w.heap.size w w' := by
  have hmk := run_make_row' (P := Tryd.prog) 30 5 (.int .u8 0) 1 Tryd.underlying30 byte_info rfl .i64 .i64 s (by omega) (by omega)
  have HS := Lib.hid hS
  have HL := Lib.hid hb
  have HM := Lib.hid (made_own w s hs)
  have HB0 := Lib.hid ((Below.refl w.heap.size w).alloc (Nat.le_refl _) (.cells (madeCells #[.int .u8 0] s) 5))
  clear hS hb
  go_enter Tryd.func89, Tryd.ntmps89
  go_wp2_with fail
  go_loopw [1, 8] (fun n i wr => ∃ (r : Nat) (m : Int) (done : List Int), r ≤ s ∧ n = .int .u64 m ∧ i = .int .i64 ((r : Int) - 1) ∧ 0 ≤ m ∧ m ≤ 18446744073709551615 ∧ Hid (wr.ownsRow w.heap.size 5 1 (.slice (some ⟨w.heap.size, 0, none⟩) s s) s (byt (List.replicate r 0 ++ done))) ∧ Hid (numV s m0 = numV r m ++ done) ∧ Hid (Below w.heap.size w wr)) (fun _ i _ => (intOf i + 1).toNat)
  case atStart => exact ⟨s, m0, [], Nat.le_refl _, rfl, by go_num, hm0, hm1, Lib.hid (by have := HM.out; unfold Own at this; simpa using this), Lib.hid (by simp), HB0⟩
  case round =>
    obtain ⟨r, m, done, hr, rfl, rfl, h0, h1, HO, HN, HB⟩ := hrel
    rcases r with _ | q
    · have HP : Hid (Own wr w.heap.size (.slice (some ⟨w.heap.size, 0, none⟩) s s) (numV s m0)) := Lib.hid (by
        have h1 := HN.out
        have h2 := HO.out
        simp only [numV, List.nil_append, List.replicate_zero] at h1 h2
        unfold Own
        rw [numV_length, h1]
        exact h2)
      have HE := Lib.hid (World.ownsRow_lit (base := w.heap.size) (e := 5) (size := 1) wr #[] 0 HB.out.size (by unfold maxLen; omega) rfl)
      have HSb := Lib.hid (HS.out.below (HB.out.alloc HB.out.size (.cells #[] 5)))
      have HPb := Lib.hid (World.ownsRow.alloc HP.out (.cells #[] 5))
      have HBb := Lib.hid (HB.out.alloc HB.out.size (.cells #[] 5))
      have hgt : w.heap.size < wr.heap.size := (World.ownsRow.lt HP.out w.heap.size rfl).2
      clear HO HN HP HB HS
      go_wp2_with (at_builtin; refine wpList_app rfl (.tmp 25) (.tmp 26) 30 30 rfl Tryd.underlying30 Tryd.underlying30 w.heap.size _ [] b rfl HE.out A len cap rfl HL.out.symm HSb.out ?c1 ?c2 ?_)
      case c1 => have := HL.out; simp; omega
      case c2 => have := HBb.out.size; simp at this; omega
      intro v1 w1 hO1 hg1 hL1
      have HO1 := Lib.hid hO1
      have HB1 := Lib.hid (HBb.out.trans (grown_below hg1 HBb.out.size fun g hg => (World.ownsRow.lt HE.out g hg).1))
      have HP1 := Lib.hid (World.ownsRow.kept HPb.out hg1 (.inr (by simp [Value.ownBlock]; omega)))
      have HS1 : Hid (Src w1 (some ⟨w.heap.size, 0, none⟩) s (numV s m0)) := Lib.hid (by
        obtain ⟨A', c', hv, hS'⟩ := Own.src HP1.out
        simp at hv
        obtain ⟨rfl, _, rfl⟩ := hv
        exact hS')
      clear hO1 hg1 hL1 HP1 HPb HE HSb HBb hgt
      go_wp2_with (at_builtin; refine wpList_app rfl (.tmp 27) (.tmp 28) 30 30 rfl Tryd.underlying30 Tryd.underlying30 w.heap.size v1 b (numV s m0) rfl HO1.out (some ⟨w.heap.size, 0, none⟩) s s rfl (numV_length s m0).symm HS1.out ?c3 ?c4 ?_)
      case c3 => have := HL.out; rw [numV_length]; omega
      case c4 => exact HB1.out.size
      intro v2 w2 hO2 hg2 hL2
      have HF : Hid (Own w2 w.heap.size v2 (b ++ numV s m0) ∧ Below w.heap.size w w2) := Lib.hid ⟨hO2, HB1.out.trans (grown_below hg2 HB1.out.size fun g hg => (World.ownsRow.lt HO1.out g hg).1)⟩
      clear hO2 hg2 hL2 HO1 HB1 HS1
      go_wp2
      go_ret
      exact ⟨_, rfl, HF.out.1, HF.out.2⟩
    · have hq : ((q + 1 : Nat) : Int) - 1 = q := by omega
      rw [hq]
      have hcell := HO.out.cellAt q (by omega)
      have hfr := HO.out.frozenAt q
      have hc2 : wr.cell? ⟨w.heap.size, q, none⟩ = some (.int .u8 0) := by
        rw [hcell]
        simp [byt, List.replicate_succ']
      clear hcell
      go_wp2
      have hst := HO.out.stored q (.int .u8 (m % 256))
      rw [set_rep] at hst
      refine ⟨⟨q, m / 256, (m % 256) :: done, by omega, rfl, rfl, by omega, by omega, Lib.hid hst.1, Lib.hid ?_, Lib.hid ?_⟩, ?_⟩
      · rw [HN.out]; simp [numV]
      · exact HB.out.trans (grown_below hst.2 HB.out.size fun g hg => by cases hg; exact Nat.le_refl _)
      · simp [intOf]
end Go.Proofs.YtkonokjhpddbfaaDoor.Oct
