/-
  A till's Order, Keep, Give, Move.
-/
import Derived.Test.YtbopnijekafogaaTillA
namespace Go.Proofs.Ytbopnijekafogaa
open Go.RowKit
set_option linter.unusedVariables false

def wrp (x : Int) : Int := IntKind.u64.wrap x
theorem wr_mod (x : Int) : wrp x = x % 18446744073709551616 := by
  unfold wrp
  simp [IntKind.wrap, IntKind.signed, IntKind.bits]
theorem wr_word (x : Int) : Word (wrp x) := by rw [wr_mod]; unfold Word; omega

def ordE (l : List (Int × Int)) (who n : Int) : Int := if 0 ≤ who ∧ who < l.length then (if n = (l.getD who.toNat (0, 0)).2 then 0 else 22) else 1
def ordL (l : List (Int × Int)) (who n : Int) : List (Int × Int) := if ordE l who n = 0 then l.set who.toNat ((l.getD who.toNat (0, 0)).1, wrp (n + 1)) else l

theorem chk_cases (who : Int) (n : Nat) : (¬ (0 ≤ who ∧ who < n) ∧ chkE who n = 1) ∨ ∃ k : Nat, who = k ∧ k < n ∧ chkE who n = 0 := by
  unfold chkE
  by_cases h : 0 ≤ who ∧ who < n
  · exact .inr ⟨who.toNat, by omega, by omega, if_pos h⟩
  · exact .inl ⟨h, if_neg h⟩

set_option maxHeartbeats 1000000 in
theorem order_any (b g : Nat) (l : List (Int × Int)) (K who n : Int) (w : World) (h : AtT w b g l K) (hn : Word n) :
    Calls Try.prog 12 #[.pointer (some ⟨b, 0, none⟩), .int .i64 who, .int .u64 n] w (TillPost b g (ordL l who n) K (ordE l who n) w) := by
  have H := Lib.hid h
  have HC := Lib.hid (check_any b g l K who w h)
  rcases chk_cases who l.length with ⟨h1, h2⟩ | ⟨k, rfl, hk, h2⟩
  · have e1 : ordE l who n = 1 := if_neg h1
    have e2 : ordL l who n = l := if_neg (by rw [e1]; decide)
    rw [e1, e2]
    rw [h2] at HC
    clear h e1 e2 h1 h2
    go_enter Try.func12, Try.ntmps12
    go_wp2_with fail
    refine HC.out.mono ?_
    rintro e w' ⟨rfl, rfl⟩
    go_wp2
    go_ret
    exact ⟨rfl, H.out, Only2.refl _ _ _⟩
  · rw [h2] at HC
    have hc := h.sl
    have hs := h.small
    have hh := h.nextCell k hk
    have hf := h.row.frozen (k * 2 + 1)
    have hw := (h.word k hk).2
    by_cases hx : n = (l.getD k (0, 0)).2
    · have e1 : ordE l k n = 0 := by
        unfold ordE
        rw [if_pos ⟨by omega, by omega⟩, Int.toNat_natCast, if_pos hx]
      have e2 : ordL l k n = l.set k ((l.getD k (0, 0)).1, wrp (n + 1)) := by
        unfold ordL
        rw [if_pos e1, Int.toNat_natCast]
      have HA := Lib.hid (h.setNext k hk _ (wr_word (n + 1)))
      rw [e1, e2]
      rw [← hx] at hh
      obtain ⟨y, hy⟩ : ∃ y, wrp (n + 1) = y := ⟨_, rfl⟩
      rw [hy] at HA ⊢
      have hy' : IntKind.u64.wrap (n + 1) = y := hy
      obtain ⟨m, hm⟩ : ∃ m, l.length = m := ⟨_, rfl⟩
      rw [hm] at hc hs hk
      have b1 : (n != n) = false := by simp
      clear h e1 e2 h2 hx hw hm hy
      go_enter Try.func12, Try.ntmps12
      go_wp2_with fail
      refine HC.out.mono ?_
      rintro e w' ⟨rfl, rfl⟩
      go_wp2
      go_ret
      exact ⟨rfl, HA.out, Only2.setg _ _ _ _ _⟩
    · have e1 : ordE l k n = 22 := by
        unfold ordE
        rw [if_pos ⟨by omega, by omega⟩, Int.toNat_natCast, if_neg hx]
      have e2 : ordL l k n = l := if_neg (by rw [e1]; decide)
      rw [e1, e2]
      obtain ⟨y, hy⟩ : ∃ y, (l.getD k (0, 0)).2 = y := ⟨_, rfl⟩
      rw [hy] at hx hh
      have b1 : (n != y) = true := by simpa using hx
      obtain ⟨m, hm⟩ : ∃ m, l.length = m := ⟨_, rfl⟩
      rw [hm] at hc hs hk
      clear h e1 e2 h2 hx hw hm hy
      go_enter Try.func12, Try.ntmps12
      go_wp2_with fail
      refine HC.out.mono ?_
      rintro e w' ⟨rfl, rfl⟩
      go_wp2
      go_ret
      exact ⟨rfl, H.out, Only2.refl _ _ _⟩

def keepE (l : List (Int × Int)) (who n : Int) : Int := if 0 ≤ who ∧ who < l.length then (if (l.getD who.toNat (0, 0)).1 < n then 12 else 0) else 1
def keepL (l : List (Int × Int)) (who n : Int) : List (Int × Int) := if keepE l who n = 0 then l.set who.toNat ((l.getD who.toNat (0, 0)).1 - n, (l.getD who.toNat (0, 0)).2) else l
def keepK (l : List (Int × Int)) (K who n : Int) : Int := if keepE l who n = 0 then wrp (K + n) else K

set_option maxHeartbeats 1000000 in
theorem keep_any (b g : Nat) (l : List (Int × Int)) (K who n : Int) (w : World) (h : AtT w b g l K) (hn : Word n) :
    Calls Try.prog 14 #[.pointer (some ⟨b, 0, none⟩), .int .i64 who, .int .u64 n] w (TillPost b g (keepL l who n) (keepK l K who n) (keepE l who n) w) := by
  have H := Lib.hid h
  have HC := Lib.hid (check_any b g l K who w h)
  rcases chk_cases who l.length with ⟨h1, h2⟩ | ⟨k, rfl, hk, h2⟩
  · have e1 : keepE l who n = 1 := if_neg h1
    have e2 : keepL l who n = l := if_neg (by rw [e1]; decide)
    have e3 : keepK l K who n = K := if_neg (by rw [e1]; decide)
    rw [e1, e2, e3]
    rw [h2] at HC
    clear h e1 e2 e3 h1 h2
    go_enter Try.func14, Try.ntmps14
    go_wp2_with fail
    refine HC.out.mono ?_
    rintro e w' ⟨rfl, rfl⟩
    go_wp2
    go_ret
    exact ⟨rfl, H.out, Only2.refl _ _ _⟩
  · rw [h2] at HC
    by_cases hx : (l.getD k (0, 0)).1 < n
    · have e1 : keepE l k n = 12 := by
        unfold keepE
        rw [if_pos ⟨by omega, by omega⟩, Int.toNat_natCast, if_pos hx]
      have e2 : keepL l k n = l := if_neg (by rw [e1]; decide)
      have e3 : keepK l K k n = K := if_neg (by rw [e1]; decide)
      rw [e1, e2, e3]
      have HT := Lib.hid (take_no b g k l K n w h hk hn hx)
      clear h e1 e2 e3 h2 hx
      go_enter Try.func14, Try.ntmps14
      go_wp2_with fail
      refine HC.out.mono ?_
      rintro e w' ⟨rfl, rfl⟩
      go_wp2_with fail
      refine HT.out.mono ?_
      rintro e w' ⟨rfl, rfl⟩
      go_wp2
      go_ret
      exact ⟨rfl, H.out, Only2.refl _ _ _⟩
    · have e1 : keepE l k n = 0 := by
        unfold keepE
        rw [if_pos ⟨by omega, by omega⟩, Int.toNat_natCast, if_neg hx]
      have e2 : keepL l k n = l.set k ((l.getD k (0, 0)).1 - n, (l.getD k (0, 0)).2) := by
        unfold keepL
        rw [if_pos e1, Int.toNat_natCast]
      have e3 : keepK l K k n = wrp (K + n) := if_pos e1
      rw [e1, e2, e3]
      have HT := Lib.hid (take_yes b g k l K n w h hk hn (by omega))
      obtain ⟨l', hl⟩ : ∃ l', l.set k ((l.getD k (0, 0)).1 - n, (l.getD k (0, 0)).2) = l' := ⟨_, rfl⟩
      rw [hl] at HT ⊢
      obtain ⟨y, hy⟩ : ∃ y, Hid (wrp (K + n) = y) := ⟨_, Lib.hid rfl⟩
      rw [hy.out]
      clear h e1 e2 e3 h2 hx hl
      go_enter Try.func14, Try.ntmps14
      go_wp2_with fail
      refine HC.out.mono ?_
      rintro e w' ⟨rfl, rfl⟩
      go_wp2_with fail
      refine HT.out.mono ?_
      rintro e w' ⟨rfl, hA, hO⟩
      have HA := Lib.hid (hA.setKept _ (wr_word (K + n)))
      have hc := hA.kp
      have hf := hA.top.frozen 1
      have HO := Lib.hid hO
      clear hA hO
      rw [hy.out] at HA
      have hy' : IntKind.u64.wrap (K + n) = y := hy.out
      go_wp2
      go_ret
      exact ⟨rfl, HA.out, HO.out.trans (Only2.setb _ _ _ _ _)⟩

def giveE (l : List (Int × Int)) (K who n : Int) : Int := if 0 ≤ who ∧ who < l.length then (if K < n then 12 else 0) else 1
def giveL (l : List (Int × Int)) (K who n : Int) : List (Int × Int) := if giveE l K who n = 0 then l.set who.toNat (wrp ((l.getD who.toNat (0, 0)).1 + n), (l.getD who.toNat (0, 0)).2) else l
def giveK (l : List (Int × Int)) (K who n : Int) : Int := if giveE l K who n = 0 then K - n else K

set_option maxHeartbeats 1000000 in
theorem give_any (b g : Nat) (l : List (Int × Int)) (K who n : Int) (w : World) (h : AtT w b g l K) (hn : Word n) :
    Calls Try.prog 16 #[.pointer (some ⟨b, 0, none⟩), .int .i64 who, .int .u64 n] w (TillPost b g (giveL l K who n) (giveK l K who n) (giveE l K who n) w) := by
  have H := Lib.hid h
  have HC := Lib.hid (check_any b g l K who w h)
  rcases chk_cases who l.length with ⟨h1, h2⟩ | ⟨k, rfl, hk, h2⟩
  · have e1 : giveE l K who n = 1 := if_neg h1
    have e2 : giveL l K who n = l := if_neg (by rw [e1]; decide)
    have e3 : giveK l K who n = K := if_neg (by rw [e1]; decide)
    rw [e1, e2, e3]
    rw [h2] at HC
    clear h e1 e2 e3 h1 h2
    go_enter Try.func16, Try.ntmps16
    go_wp2_with fail
    refine HC.out.mono ?_
    rintro e w' ⟨rfl, rfl⟩
    go_wp2
    go_ret
    exact ⟨rfl, H.out, Only2.refl _ _ _⟩
  · rw [h2] at HC
    have hkp := h.kp
    by_cases hx : K < n
    · have e1 : giveE l K k n = 12 := by
        unfold giveE
        rw [if_pos ⟨by omega, by omega⟩, if_pos hx]
      have e2 : giveL l K k n = l := if_neg (by rw [e1]; decide)
      have e3 : giveK l K k n = K := if_neg (by rw [e1]; decide)
      rw [e1, e2, e3]
      have HV := Lib.hid (sub_any K n w h.kept hn)
      rw [show subE K n = 12 from if_pos hx] at HV
      clear h e1 e2 e3 h2 hx
      go_enter Try.func16, Try.ntmps16
      go_wp2_with fail
      refine HC.out.mono ?_
      rintro e w' ⟨rfl, rfl⟩
      go_wp2_with fail
      refine HV.out.mono ?_
      rintro e w' ⟨rfl, rfl⟩
      go_wp2
      go_ret
      exact ⟨rfl, H.out, Only2.refl _ _ _⟩
    · have e1 : giveE l K k n = 0 := by
        unfold giveE
        rw [if_pos ⟨by omega, by omega⟩, if_neg hx]
      have e2 : giveL l K k n = l.set k (wrp ((l.getD k (0, 0)).1 + n), (l.getD k (0, 0)).2) := by
        unfold giveL
        rw [if_pos e1, Int.toNat_natCast]
      have e3 : giveK l K k n = K - n := if_pos e1
      rw [e1, e2, e3]
      have HV := Lib.hid (sub_any K n w h.kept hn)
      rw [show subE K n = 0 from if_neg hx, show subV K n = K - n from if_neg hx] at HV
      have hw : Word (K - n) := by have := h.kept; unfold Word at *; omega
      obtain ⟨z, hz⟩ : ∃ z, K - n = z := ⟨_, rfl⟩
      rw [hz] at HV hw ⊢
      have h' := h.setKept z hw
      have HA := Lib.hid (h'.setHas k hk _ (wr_word ((l.getD k (0, 0)).1 + n)))
      have hc := h'.sl
      have hs := h'.small
      have hh := h'.hasCell k hk
      have hf := h'.row.frozen (k * 2)
      have hf1 := h.top.frozen 1
      obtain ⟨y, hy⟩ : ∃ y, wrp ((l.getD k (0, 0)).1 + n) = y := ⟨_, rfl⟩
      rw [hy] at HA ⊢
      obtain ⟨x, hx'⟩ : ∃ x, (l.getD k (0, 0)).1 = x := ⟨_, rfl⟩
      rw [hx'] at hh hy
      have hy' : IntKind.u64.wrap (x + n) = y := hy
      obtain ⟨m, hm⟩ : ∃ m, l.length = m := ⟨_, rfl⟩
      rw [hm] at hc hs hk
      clear h h' e1 e2 e3 h2 hx hy hz hx' hw hn hm
      go_enter Try.func16, Try.ntmps16
      go_wp2_with fail
      refine HC.out.mono ?_
      rintro e w' ⟨rfl, rfl⟩
      go_wp2_with fail
      refine HV.out.mono ?_
      rintro e w' ⟨rfl, rfl⟩
      go_wp2
      go_ret
      exact ⟨rfl, HA.out, (Only2.setb _ _ _ _ _).trans (Only2.setg _ _ _ _ _)⟩

def moveE (l : List (Int × Int)) (who to n : Int) : Int := if 0 ≤ who ∧ who < l.length then (if 0 ≤ to ∧ to < l.length then (if (l.getD who.toNat (0, 0)).1 < n then 12 else 0) else 1) else 1
def mov1 (l : List (Int × Int)) (k : Nat) (n : Int) : List (Int × Int) := l.set k ((l.getD k (0, 0)).1 - n, (l.getD k (0, 0)).2)
def mov2 (l : List (Int × Int)) (k : Nat) (n : Int) : List (Int × Int) := l.set k (wrp ((l.getD k (0, 0)).1 + n), (l.getD k (0, 0)).2)
theorem mov1_length (l : List (Int × Int)) (k : Nat) (n : Int) : (mov1 l k n).length = l.length := List.length_set
theorem mov2_length (l : List (Int × Int)) (k : Nat) (n : Int) : (mov2 l k n).length = l.length := List.length_set
def moveL (l : List (Int × Int)) (who to n : Int) : List (Int × Int) := if moveE l who to n = 0 then mov2 (mov1 l who.toNat n) to.toNat n else l

set_option maxHeartbeats 1000000 in
theorem move_any (b g : Nat) (l : List (Int × Int)) (K who to n : Int) (w : World) (h : AtT w b g l K) (hn : Word n) :
    Calls Try.prog 18 #[.pointer (some ⟨b, 0, none⟩), .int .i64 who, .int .i64 to, .int .u64 n] w (TillPost b g (moveL l who to n) K (moveE l who to n) w) := by
  have H := Lib.hid h
  have HC := Lib.hid (check_any b g l K who w h)
  have HC2 := Lib.hid (check_any b g l K to w h)
  rcases chk_cases who l.length with ⟨h1, h2⟩ | ⟨k, rfl, hk, h2⟩
  · have e1 : moveE l who to n = 1 := if_neg h1
    have e2 : moveL l who to n = l := if_neg (by rw [e1]; decide)
    rw [e1, e2]
    rw [h2] at HC
    clear h e1 e2 h1 h2
    go_enter Try.func18, Try.ntmps18
    go_wp2_with fail
    refine HC.out.mono ?_
    rintro e w' ⟨rfl, rfl⟩
    go_wp2
    go_ret
    exact ⟨rfl, H.out, Only2.refl _ _ _⟩
  · rw [h2] at HC
    rcases chk_cases to l.length with ⟨h3, h4⟩ | ⟨j, rfl, hj, h4⟩
    · have e1 : moveE l k to n = 1 := by
        unfold moveE
        rw [if_pos ⟨by omega, by omega⟩, if_neg h3]
      have e2 : moveL l k to n = l := if_neg (by rw [e1]; decide)
      rw [e1, e2]
      rw [h4] at HC2
      clear h e1 e2 h2 h3 h4
      go_enter Try.func18, Try.ntmps18
      go_wp2_with fail
      refine HC.out.mono ?_
      rintro e w' ⟨rfl, rfl⟩
      go_wp2_with fail
      refine HC2.out.mono ?_
      rintro e w' ⟨rfl, rfl⟩
      go_wp2
      go_ret
      exact ⟨rfl, H.out, Only2.refl _ _ _⟩
    · rw [h4] at HC2
      by_cases hx : (l.getD k (0, 0)).1 < n
      · have e1 : moveE l k j n = 12 := by
          unfold moveE
          rw [if_pos ⟨by omega, by omega⟩, if_pos ⟨by omega, by omega⟩, Int.toNat_natCast, if_pos hx]
        have e2 : moveL l k j n = l := if_neg (by rw [e1]; decide)
        rw [e1, e2]
        have HT := Lib.hid (take_no b g k l K n w h hk hn hx)
        clear h e1 e2 h2 h4 hx
        go_enter Try.func18, Try.ntmps18
        go_wp2_with fail
        refine HC.out.mono ?_
        rintro e w' ⟨rfl, rfl⟩
        go_wp2_with fail
        refine HC2.out.mono ?_
        rintro e w' ⟨rfl, rfl⟩
        go_wp2_with fail
        refine HT.out.mono ?_
        rintro e w' ⟨rfl, rfl⟩
        go_wp2
        go_ret
        exact ⟨rfl, H.out, Only2.refl _ _ _⟩
      · have e1 : moveE l k j n = 0 := by
          unfold moveE
          rw [if_pos ⟨by omega, by omega⟩, if_pos ⟨by omega, by omega⟩, Int.toNat_natCast, if_neg hx]
        have e2 : moveL l k j n = mov2 (mov1 l k n) j n := by
          unfold moveL
          rw [if_pos e1, Int.toNat_natCast, Int.toNat_natCast]
        rw [e1, e2]
        have HT := Lib.hid (take_yes b g k l K n w h hk hn (by omega))
        have hj' : j < (mov1 l k n).length := by rw [mov1_length]; exact hj
        change Hid (Calls _ _ _ _ (TillPost b g (mov1 l k n) K 0 w)) at HT
        obtain ⟨l', hl⟩ : ∃ l', mov1 l k n = l' := ⟨_, rfl⟩
        rw [hl] at HT hj' ⊢
        clear h e1 e2 h2 h4 hx hl hj
        go_enter Try.func18, Try.ntmps18
        go_wp2_with fail
        refine HC.out.mono ?_
        rintro e w' ⟨rfl, rfl⟩
        go_wp2_with fail
        refine HC2.out.mono ?_
        rintro e w' ⟨rfl, rfl⟩
        go_wp2_with fail
        refine HT.out.mono ?_
        rintro e w' ⟨rfl, hA, hO⟩
        have HA := Lib.hid (hA.setHas j hj' _ (wr_word ((l'.getD j (0, 0)).1 + n)))
        change Hid (AtT (w'.setCell ⟨g, j * 2, none⟩ (.int .u64 (wrp ((l'.getD j (0, 0)).1 + n)))) b g (mov2 l' j n) K) at HA
        have hc := hA.sl
        have hs := hA.small
        have hh := hA.hasCell j hj'
        have hf := hA.row.frozen (j * 2)
        have HO := Lib.hid hO
        obtain ⟨x, hx'⟩ : ∃ x, (l'.getD j (0, 0)).1 = x := ⟨_, rfl⟩
        rw [hx'] at hh HA
        obtain ⟨y, hy⟩ : ∃ y, wrp (x + n) = y := ⟨_, rfl⟩
        rw [hy] at HA
        have hy' : IntKind.u64.wrap (x + n) = y := hy
        obtain ⟨m, hm⟩ : ∃ m, l'.length = m := ⟨_, rfl⟩
        rw [hm] at hc hs hj'
        clear hA hO hy hx' hm hn
        go_wp2
        go_ret
        exact ⟨rfl, HA.out, HO.out.trans (Only2.setg _ _ _ _ _)⟩
end Go.Proofs.Ytbopnijekafogaa
