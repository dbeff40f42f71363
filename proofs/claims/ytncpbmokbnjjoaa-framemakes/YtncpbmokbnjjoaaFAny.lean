/- Make and Next, of the program and of the document, at whatever they are asked. -/
import Derived.Test.YtncpbmokbnjjoaaFRefAll
namespace Go.Proofs.Ytncpbmokbnjjoaa
open Go.RowKit
def mk (bs : List UInt8) : List UInt8 := if bs.length ≤ 8192 then Frm.frame bs else []
def mkErr (bs : List UInt8) : Nat := if bs.length ≤ 8192 then 0 else 4
def nx (bs : List UInt8) : List UInt8 := if Frm.err bs = 0 then Frm.body bs else []
def nxAt (bs : List UInt8) : Nat := if Frm.err bs = 0 then 10 + Frm.hd bs else 0
theorem mk_length (bs : List UInt8) : (mk bs).length ≤ 8202 := by
  unfold mk; split
  · rw [Frm.frame_length]; omega
  · simp
theorem make_all (A : Option Addr) (bs : List UInt8) (n m x cap : Nat) (hn : bs.length = n) (hm : (mk bs).length = m) (hx : mkErr bs = x) (w : World) (hr : Rd w A bs) :
    Calls Try.prog 9 #[.slice A n cap] w fun e w' => ∃ D g, e = .returned (.tuple #[.slice D m m, .int .i64 (x : Int)]) ∧ w.heap.size ≤ g ∧ Below w.heap.size w w' ∧ Rd w' D (mk bs) ∧ (0 < m → D = some ⟨g, 0, none⟩ ∧ Blk w' g 5 ((mk bs).map Bv).toArray) := by
  by_cases h : n ≤ 8192
  · have e1 : mk bs = Frm.frame bs := by unfold mk; rw [hn, if_pos h]
    obtain rfl : 0 = x := by rw [← hx]; unfold mkErr; rw [hn, if_pos h]
    rw [e1] at hm ⊢
    rw [Frm.frame_length, hn] at hm
    refine (make_at A bs n m cap hn h hm w hr).mono ?_
    rintro e w' ⟨g, rfl, h1, h2, h3⟩
    exact ⟨_, g, rfl, h1, h2, h3.rd, fun _ => ⟨rfl, h3⟩⟩
  · have e1 : mk bs = [] := by unfold mk; rw [hn, if_neg h]
    obtain rfl : 4 = x := by rw [← hx]; unfold mkErr; rw [hn, if_neg h]
    rw [e1] at hm ⊢
    obtain rfl : 0 = m := hm
    refine (make_long A n cap (by omega) w).mono ?_
    rintro e w' ⟨rfl, rfl⟩
    exact ⟨none, w.heap.size, rfl, Nat.le_refl _, Below.refl _ _, .inl rfl, fun h => absurd h (by omega)⟩
theorem rmake_all (A : Option Addr) (bs : List UInt8) (n m x cap : Nat) (hn : bs.length = n) (hm : (mk bs).length = m) (hx : mkErr bs = x) (w : World) (hr : Rd w A bs) :
    Calls Try.prog 10 #[.slice A n cap] w fun e w' => ∃ B c, e = .returned (.tuple #[.slice B m c, .int .i64 (x : Int)]) ∧ Below w.heap.size w w' ∧ Own w' w.heap.size 5 (.slice B m c) (mk bs) := by
  by_cases h : n ≤ 8192
  · have e1 : mk bs = Frm.frame bs := by unfold mk; rw [hn, if_pos h]
    obtain rfl : 0 = x := by rw [← hx]; unfold mkErr; rw [hn, if_pos h]
    rw [e1] at hm ⊢
    rw [Frm.frame_length, hn] at hm
    exact rmake_at A bs n m cap hn h hm w hr
  · have e1 : mk bs = [] := by unfold mk; rw [hn, if_neg h]
    obtain rfl : 4 = x := by rw [← hx]; unfold mkErr; rw [hn, if_neg h]
    rw [e1] at hm ⊢
    obtain rfl : 0 = m := hm
    refine (rmake_long A n cap (by omega) w).mono ?_
    rintro e w' ⟨rfl, rfl⟩
    exact ⟨none, 0, rfl, Below.refl _ _, Own.none_ _ _ _⟩
theorem next_all (A : Option Addr) (bs : List UInt8) (n q z x cap : Nat) (hn : bs.length = n) (hc : n ≤ cap) (hl : n ≤ 140737488351232) (hq : (nx bs).length = q) (hz : nxAt bs = z) (hx : Frm.err bs = x) (w : World) (hr : Rd w A bs) :
    Calls Try.prog 11 #[.slice A n cap] w fun e w' => ∃ D, e = .returned (.tuple #[.slice D q q, .int .i64 (z : Int), .int .i64 (x : Int)]) ∧ Below w.heap.size w w' ∧ Rd w' D (nx bs) := by
  by_cases h : Frm.err bs = 0
  · have e1 : nx bs = Frm.body bs := by unfold nx; rw [if_pos h]
    obtain rfl : 0 = x := by rw [← hx]; exact h.symm
    obtain rfl : 10 + Frm.hd bs = z := by rw [← hz]; unfold nxAt; rw [if_pos h]
    rw [e1] at hq ⊢
    rw [Frm.body_length h] at hq
    refine (next_good A bs n q cap hn hc hl w hr h hq).mono ?_
    rintro e w' ⟨g, rfl, _, h2, h3⟩
    exact ⟨_, by rw [hq]; rfl, h2, h3.rd⟩
  · have e1 : nx bs = [] := by unfold nx; rw [if_neg h]
    obtain rfl : 0 = z := by rw [← hz]; unfold nxAt; rw [if_neg h]
    rw [e1] at hq ⊢
    obtain rfl : 0 = q := hq
    refine (next_bad A bs n x cap hn hc hl w hr hx (by rw [← hx]; exact h)).mono ?_
    rintro e w' ⟨rfl, h2⟩
    exact ⟨none, rfl, h2, .inl rfl⟩
theorem rnext_all (A : Option Addr) (bs : List UInt8) (n q z x cap : Nat) (hn : bs.length = n) (hc : n ≤ cap) (hl : n ≤ 140737488351232) (hq : (nx bs).length = q) (hz : nxAt bs = z) (hx : Frm.err bs = x) (w : World) (hr : Rd w A bs) :
    Calls Try.prog 12 #[.slice A n cap] w fun e w' => ∃ D c, e = .returned (.tuple #[.slice D q c, .int .i64 (z : Int), .int .i64 (x : Int)]) ∧ Below w.heap.size w w' ∧ Rd w' D (nx bs) := by
  by_cases h : Frm.err bs = 0
  · have e1 : nx bs = Frm.body bs := by unfold nx; rw [if_pos h]
    obtain rfl : 0 = x := by rw [← hx]; exact h.symm
    obtain rfl : 10 + Frm.hd bs = z := by rw [← hz]; unfold nxAt; rw [if_pos h]
    rw [e1] at hq ⊢
    rw [Frm.body_length h] at hq
    refine (rnext_good A bs n q cap hn hc hl w hr h hq).mono ?_
    rintro e w' ⟨B, c, rfl, h2, h3⟩
    obtain ⟨B', c', e', _, h4⟩ := h3.rd
    injection e' with e1
    subst e1
    exact ⟨B, c, by rw [hq]; rfl, h2, h4⟩
  · have e1 : nx bs = [] := by unfold nx; rw [if_neg h]
    obtain rfl : 0 = z := by rw [← hz]; unfold nxAt; rw [if_neg h]
    rw [e1] at hq ⊢
    obtain rfl : 0 = q := hq
    refine (rnext_bad A bs n x cap hn hc hl w hr hx (by rw [← hx]; exact h)).mono ?_
    rintro e w' ⟨rfl, h2⟩
    exact ⟨none, 0, rfl, h2, .inl rfl⟩
end Go.Proofs.Ytncpbmokbnjjoaa
