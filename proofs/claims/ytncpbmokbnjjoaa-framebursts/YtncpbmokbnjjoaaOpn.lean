/- Package crc: told and Open. -/
import Derived.Test.YtncpbmokbnjjoaaCrc
import Derived.Deep.QuietTactic
import Derived.BigQuiet
import Derived.Deep.RegionHeld3
namespace Go.Proofs.Ytncpbmokbnjjoaa
open Go.RowKit
theorem or32 (k x y : Nat) (hx : x < 2 ^ k) (hk : k ≤ 32) (hy : 2 ^ k * y < 4294967296) : bits .or .u32 (x : Int) ((2 ^ k * y : Nat) : Int) = ((x + 2 ^ k * y : Nat) : Int) := by
  have h2 : 2 ^ k ≤ 2 ^ 32 := Nat.pow_le_pow_right (by decide) hk
  rw [u32_or_nat x _ (by omega) hy, Nat.or_comm, nat_join k _ _ (by simp) hx, Nat.add_comm]
theorem or_told (a b c d : UInt8) : bits .or .u32 (bits .or .u32 (bits .or .u32 (a.toNat : Int) ((b.toNat : Int) * 256)) ((c.toNat : Int) * 65536)) ((d.toNat : Int) * 16777216) = (Crc.told [a, b, c, d] : Int) := by
  have ha := a.toNat_lt; have hb := b.toNat_lt; have hc := c.toNat_lt; have hd := d.toNat_lt
  rw [show (b.toNat : Int) * 256 = ((2 ^ 8 * b.toNat : Nat) : Int) by omega, or32 8 _ _ (by omega) (by omega) (by omega)]
  rw [show (c.toNat : Int) * 65536 = ((2 ^ 16 * c.toNat : Nat) : Int) by omega, or32 16 _ _ (by omega) (by omega) (by omega)]
  rw [show (d.toNat : Int) * 16777216 = ((2 ^ 24 * d.toNat : Nat) : Int) by omega, or32 24 _ _ (by omega) (by omega) (by omega)]
  rfl
set_option maxRecDepth 100000 in
set_option maxHeartbeats 400000 in
theorem told_any (g off : Nat) (bs : List UInt8) (cap : Nat) (hl : bs.length = 4) (w : World) (hr : Rd w (some ⟨g, off, none⟩) bs) :
    Calls Try.prog 29 #[.slice (some ⟨g, off, none⟩) 4 cap] w fun e w' => e = .returned (.int .u32 (Crc.told bs : Int)) ∧ ∃ n, w' = w.drewN n := by
  match bs, hl with
  | [a, b, c, d], _ =>
    have hc : w.cell? ⟨g, off, none⟩ = some (.int .u8 (a.toNat : Int)) ∧ w.cell? ⟨g, off + 1, none⟩ = some (.int .u8 (b.toNat : Int)) ∧ w.cell? ⟨g, off + 2, none⟩ = some (.int .u8 (c.toNat : Int)) ∧ w.cell? ⟨g, off + 3, none⟩ = some (.int .u8 (d.toNat : Int)) := by
      rcases hr with h | ⟨g', off', e, _, hc⟩
      · simp at h
      · simp at e
        obtain ⟨rfl, rfl⟩ := e
        exact ⟨hc 0 (by simp), hc 1 (by simp), hc 2 (by simp), hc 3 (by simp)⟩
    obtain ⟨hc0, hc1, hc2, hc3⟩ := hc
    clear hr
    have ha := a.toNat_lt; have hb := b.toNat_lt; have hc := c.toNat_lt; have hd := d.toNat_lt
    go_enter Try.func29, Try.ntmps29
    go_wp2_with fail
    go_quiet (fail)
    go_wp2
    go_ret
    exact ⟨congrArg (fun z => Ending.returned (.int .u32 z)) (or_told a b c d), nq, rfl⟩
set_option maxRecDepth 100000 in
set_option maxHeartbeats 400000 in
theorem open_short (A : Option Addr) (bs : List UInt8) (cap : Nat) (hl : bs.length < 4) (w : World) :
    Calls Try.prog 23 #[.slice A bs.length cap] w fun e w' => e = .returned (.tuple #[.slice none 0 0, .bool false]) ∧ Below w.heap.size w w' := by
  have hd : decide ((bs.length : Int) - 4 < 0) = true := by simp; omega
  go_enter Try.func23, Try.ntmps23
  go_wp2_with fail
  go_quiet (fail)
  go_wp2
  go_ret2
  exact ⟨rfl, below_drewN (Below.refl _ _) _⟩
theorem sum_at (A : Option Addr) (bs : List UInt8) (n cap : Nat) (hn : bs.length = n) (hl : n ≤ maxLen) (w : World) (hr : Rd w A bs) :
    Calls Try.prog 27 #[.slice A n cap] w fun e w' => e = .returned (.int .u32 (Crc.sum bs : Int)) ∧ Below w.heap.size w w' := by
  subst hn; exact sum_any A bs cap hl w hr
theorem told_at (g off : Nat) (bs : List UInt8) (n cap : Nat) (hl : bs.length = 4) (hn : n = 4) (w : World) (hr : Rd w (some ⟨g, off, none⟩) bs) :
    Calls Try.prog 29 #[.slice (some ⟨g, off, none⟩) n cap] w fun e w' => e = .returned (.int .u32 (Crc.told bs : Int)) ∧ ∃ n, w' = w.drewN n := by
  subst hn; exact told_any g off bs cap hl w hr
theorem Rd.drop {w : World} {g off : Nat} {bs : List UInt8} (h : Rd w (some ⟨g, off, none⟩) bs) (k : Nat) : Rd w (some ⟨g, off + k, none⟩) (bs.drop k) := by
  rcases h with rfl | ⟨g', off', e, hg, hc⟩
  · exact .inl (by simp)
  · simp at e
    obtain ⟨rfl, rfl⟩ := e
    refine .inr ⟨g, off + k, rfl, hg, fun i hi => ?_⟩
    have hi' : k + i < bs.length := by simp at hi; omega
    rw [List.getElem_drop, Nat.add_assoc]; exact hc (k + i) hi'
set_option maxRecDepth 100000 in
set_option maxHeartbeats 400000 in
theorem open_yes (A : Option Addr) (bs : List UInt8) (cap : Nat) (hl : 4 ≤ bs.length) (hcap : bs.length ≤ cap) (hm : bs.length ≤ 140737488355328 - 4096) (w : World) (hr : Rd w A bs) (hg : Crc.good bs = true) :
    Calls Try.prog 23 #[.slice A bs.length cap] w fun e w' => ∃ g, e = .returned (.tuple #[.slice (some ⟨g, 0, none⟩) (bs.length - 4) (bs.length - 4), .bool true]) ∧ w.heap.size ≤ g ∧ Below w.heap.size w w' ∧ Blk w' g 5 ((bs.take (bs.length - 4)).map Bv).toArray := by
  have hd : decide ((bs.length : Int) - 4 < 0) = false := by simp; omega
  have hd1 : 0 ≤ (bs.length : Int) - 4 := by omega
  have hd2 : 4 ≤ (bs.length : Int) := by omega
  have hd3 : (bs.length : Int) - 4 ≤ (cap : Int) := by omega
  have hd4 : (bs.length : Int) - 4 ≤ (bs.length : Int) := by omega
  have hd5 : (bs.length : Int) ≤ (cap : Int) := by omega
  have hd6 : ((bs.length : Int) - 4).toNat = bs.length - 4 := by omega
  have hd7 : ¬ cap = bs.length - 4 := by omega
  obtain ⟨g, off, rfl, hgw, hc⟩ := hr.at_ (k := 0) (by omega)
  go_enter Try.func23, Try.ntmps23
  go_wp2_with fail
  have hS0 : Below w.heap.size w w.drew := (Below.refl _ _).drew
  go_region_held3 (fun w' => Below w.heap.size w w') (first | exact hS2 | exact hS1 | exact hS0)
    (first
      | (go_at_call 27; ((with_reducible refine (sum_at _ (bs.take (bs.length - 4)) _ _ ?_ ?_ _ ?_).mono ?_); (simp); (unfold maxLen; omega); (exact (hr.below hS0).take _); rintro e w1 ⟨rfl, hb1⟩; have hS1 : Below w.heap.size w w1 := hS0.trans (hb1.mono hS0.size)))
      | (go_at_call 29; ((with_reducible refine (told_at _ _ (bs.drop (bs.length - 4)) _ _ ?_ ?_ _ ?_).mono ?_); (simp; omega); (omega); (exact (hr.below hS1).drop _); rintro e w2 ⟨rfl, n1, rfl⟩; have hS2 : Below w.heap.size w (w1.drewN n1) := below_drewN hS1 _)))
  have hne : ((Crc.sum (bs.take (bs.length - 4)) : Int) != (Crc.told (bs.drop (bs.length - 4)) : Int)) = false := by
    simp [Crc.good] at hg
    simp [hg.2]
  obtain ⟨i0, hi0, hz0, hz1, hz2⟩ := info_parts byte_info
  have hmk := fun W => run_make (P := Try.prog) W 22 5 i0 _ Try.underlying22 hi0 hz0 .i64 .i64 (bs.length - 4) (bs.length - 4) (by omega) (by omega) (by rw [hz2]; omega) (by omega)
  obtain ⟨Z, hZ⟩ : ∃ Z : List Value, Z = (madeCells #[Value.int IntKind.u8 0] (bs.length - 4)).toList := ⟨_, rfl⟩
  have HZ := Lib.hid hZ
  clear hZ
  have hZl : Z.length = bs.length - 4 := by rw [HZ.out]; simp [size_madeCells]
  have HZl := Lib.hid hZl
  clear hZl
  have HM : Hid ((bs.take (bs.length - 4)).length = Nat.min bs.length (bs.length - 4)) := by
    show _ = min _ _
    rw [List.length_take]; omega
  generalize w1.drewN n1 = w2 at *
  have hr1 : ∀ o : Obj, Rd (w2.alloc o) (some ⟨g, off, none⟩) (bs.take (bs.length - 4)) := fun o => (hr.below (hS2.alloc hS2.size o)).take _
  go_wp2_with (refine wpList_copy_rd rfl (.tmp 24) (.tmp 25) 22 22 rfl 5 Try.underlying22 (by kernel_rfl) w2.heap.size (bs.length - 4) (bs.length - 4) (some ⟨g, off, none⟩) bs.length cap (by rfl) (by rfl) (bs.take (bs.length - 4)) (hr1 _) HM.out Z 5 (by rw [HZ.out]; exact heap_alloc_new _ _) (by rw [HZl.out]; simp) ?_; intro w3 hB3 hb3')
  have hb3 := hb3' w.heap.size w (hS2.alloc hS2.size _) hS2.size
  go_ret2
  refine ⟨w2.heap.size, rfl, hS2.size, hb3, ?_⟩
  have e : (bs.take (bs.length - 4)).map Bv ++ Z.drop (bs.take (bs.length - 4)).length = (bs.take (bs.length - 4)).map Bv := by
    rw [List.drop_eq_nil_of_le (by rw [HZl.out]; simp), List.append_nil]
  rw [← e]; exact hB3
set_option maxRecDepth 100000 in
set_option maxHeartbeats 400000 in
theorem open_no (A : Option Addr) (bs : List UInt8) (cap : Nat) (hl : 4 ≤ bs.length) (hcap : bs.length ≤ cap) (hm : bs.length ≤ 140737488355328 - 4096) (w : World) (hr : Rd w A bs) (hg : Crc.good bs = false) :
    Calls Try.prog 23 #[.slice A bs.length cap] w fun e w' => e = .returned (.tuple #[.slice none 0 0, .bool false]) ∧ Below w.heap.size w w' := by
  have hd : decide ((bs.length : Int) - 4 < 0) = false := by simp; omega
  have hd1 : 0 ≤ (bs.length : Int) - 4 := by omega
  have hd2 : 4 ≤ (bs.length : Int) := by omega
  have hd3 : (bs.length : Int) - 4 ≤ (cap : Int) := by omega
  have hd4 : (bs.length : Int) - 4 ≤ (bs.length : Int) := by omega
  have hd5 : (bs.length : Int) ≤ (cap : Int) := by omega
  have hd6 : ((bs.length : Int) - 4).toNat = bs.length - 4 := by omega
  have hd7 : ¬ cap = bs.length - 4 := by omega
  obtain ⟨g, off, rfl, hgw, hc⟩ := hr.at_ (k := 0) (by omega)
  go_enter Try.func23, Try.ntmps23
  go_wp2_with fail
  have hS0 : Below w.heap.size w w.drew := (Below.refl _ _).drew
  go_region_held3 (fun w' => Below w.heap.size w w') (first | exact hS2 | exact hS1 | exact hS0)
    (first
      | (go_at_call 27; ((with_reducible refine (sum_at _ (bs.take (bs.length - 4)) _ _ ?_ ?_ _ ?_).mono ?_); (simp); (unfold maxLen; omega); (exact (hr.below hS0).take _); rintro e w1 ⟨rfl, hb1⟩; have hS1 : Below w.heap.size w w1 := hS0.trans (hb1.mono hS0.size)))
      | (go_at_call 29; ((with_reducible refine (told_at _ _ (bs.drop (bs.length - 4)) _ _ ?_ ?_ _ ?_).mono ?_); (simp; omega); (omega); (exact (hr.below hS1).drop _); rintro e w2 ⟨rfl, n1, rfl⟩; have hS2 : Below w.heap.size w (w1.drewN n1) := below_drewN hS1 _)))
  have hne : ((Crc.sum (bs.take (bs.length - 4)) : Int) != (Crc.told (bs.drop (bs.length - 4)) : Int)) = true := by
    simp [Crc.good, hl] at hg
    rw [bne_iff_ne]; intro h; exact hg (by omega)
  have hS3 : Below w.heap.size w (w1.drewN n1) := below_drewN hS1 _
  go_wp2_with fail
  go_ret2
  exact ⟨rfl, hS3⟩
/-- Whatever is opened and was not sealed. -/
theorem open_bad (A : Option Addr) (bs : List UInt8) (cap : Nat) (hcap : bs.length ≤ cap) (hm : bs.length ≤ 140737488355328 - 4096) (w : World) (hr : Rd w A bs) (hg : Crc.good bs = false) :
    Calls Try.prog 23 #[.slice A bs.length cap] w fun e w' => e = .returned (.tuple #[.slice none 0 0, .bool false]) ∧ Below w.heap.size w w' := by
  by_cases hl : 4 ≤ bs.length
  · exact open_no A bs cap hl hcap hm w hr hg
  · exact open_short A bs cap (by omega) w
theorem seal_at (A : Option Addr) (bs : List UInt8) (n m cap : Nat) (hn : bs.length = n) (hm : n + 4 = m) (hl : n ≤ 140737488355328 - 4096) (w : World) (hr : Rd w A bs) :
    Calls Try.prog 19 #[.slice A n cap] w fun e w' => ∃ g, e = .returned (.slice (some ⟨g, 0, none⟩) m m) ∧ w.heap.size ≤ g ∧ Below w.heap.size w w' ∧ Blk w' g 5 ((Crc.shut bs).map Bv).toArray := by
  subst hn; subst hm
  refine (seal_any A bs cap hl w hr).mono ?_
  rintro e w' ⟨rfl, h1, h2⟩
  exact ⟨_, rfl, Nat.le_refl _, h1, h2⟩
theorem open_goodW (A : Option Addr) (bs : List UInt8) (n m cap : Nat) (hn : bs.length = n) (hm : n = m + 4) (hcap : n ≤ cap) (hl : n ≤ 140737488355328 - 4096) (w : World) (hr : Rd w A bs) (hg : Crc.good bs = true) :
    Calls Try.prog 23 #[.slice A n cap] w fun e w' => ∃ g, e = .returned (.tuple #[.slice (some ⟨g, 0, none⟩) m m, .bool true]) ∧ w.heap.size ≤ g ∧ Below w.heap.size w w' ∧ Blk w' g 5 ((bs.take m).map Bv).toArray := by
  subst hn
  obtain rfl : m = bs.length - 4 := by omega
  exact open_yes A bs cap (by omega) hcap hl w hr hg
theorem open_good (A : Option Addr) (bs : List UInt8) (n m cap : Nat) (hn : bs.length = n) (hm : n = m + 4) (hcap : n ≤ cap) (hl : cap ≤ 140737488355328 - 4096) (w : World) (hr : Rd w A bs) (hg : Crc.good bs = true) :
    Calls Try.prog 23 #[.slice A n cap] w fun e w' => ∃ g, e = .returned (.tuple #[.slice (some ⟨g, 0, none⟩) m m, .bool true]) ∧ w.heap.size ≤ g ∧ Below w.heap.size w w' ∧ Blk w' g 5 ((bs.take m).map Bv).toArray :=
  open_goodW A bs n m cap hn hm hcap (Nat.le_trans hcap hl) w hr hg
theorem open_noneW (A : Option Addr) (bs : List UInt8) (n cap : Nat) (hn : bs.length = n) (hcap : n ≤ cap) (hl : n ≤ 140737488355328 - 4096) (w : World) (hr : Rd w A bs) (hg : Crc.good bs = false) :
    Calls Try.prog 23 #[.slice A n cap] w fun e w' => e = .returned (.tuple #[.slice none 0 0, .bool false]) ∧ Below w.heap.size w w' := by
  subst hn
  exact open_bad A bs cap hcap hl w hr hg
theorem open_none (A : Option Addr) (bs : List UInt8) (n cap : Nat) (hn : bs.length = n) (hcap : n ≤ cap) (hl : cap ≤ 140737488355328 - 4096) (w : World) (hr : Rd w A bs) (hg : Crc.good bs = false) :
    Calls Try.prog 23 #[.slice A n cap] w fun e w' => e = .returned (.tuple #[.slice none 0 0, .bool false]) ∧ Below w.heap.size w w' :=
  open_noneW A bs n cap hn hcap (Nat.le_trans hcap hl) w hr hg
theorem add_at (s : Int) (n : Nat) (hs : s = (n : Int)) (A : Option Addr) (bs : List UInt8) (m cap : Nat) (h1 : n < 4294967296) (hm : bs.length = m) (hl : m ≤ 140737488351232) (w : World) (hr : Rd w A bs) :
    Calls Try.prog 32 #[.int .u32 s, .slice A m cap] w fun e w' => e = .returned (.int .u32 (Crc.add n bs : Int)) ∧ Below w.heap.size w w' := by
  subst hm; subst hs
  exact add_any n A bs cap h1 (by unfold maxLen; omega) w hr
theorem Rd.cut {w : World} {A : Option Addr} {bs : List UInt8} (h : Rd w A bs) (k : Nat) : Rd w (A.map fun x => x.add k) (bs.drop k) := by
  rcases h with rfl | ⟨g, off, rfl, hg, hc⟩
  · exact .inl (by simp)
  · have := Rd.drop (.inr ⟨g, off, rfl, hg, hc⟩ : Rd w (some ⟨g, off, none⟩) bs) k
    simpa [add_lit] using this
end Go.Proofs.Ytncpbmokbnjjoaa
