/- Contracts of the program and of the document (WRefS, WRefT), each used further on. -/
import Derived.Test.YtckabmlilbkmbaaGreatN1
set_option maxRecDepth 100000
set_option maxHeartbeats 4000000
namespace Go.Proofs.YtckabmlilbkmbaaGreat
section
open Go.RowKit
theorem refFail_at (w : World) (g : Nat) (s : Wire.St) (h : Sc w g 55 s) (hfi : s.fine) (z : Int) :
  Calls Tryz.prog 86 #[.pointer (some ⟨g, 0, none⟩), .int .i64 z] w fun e w' => e = .returned (.tuple #[]) /\ Sc w' g 55 (s.fail z) /\ Touch g w w' := by
 have h0 := h
 obtain ⟨A, n, cap, hB, h1, h2, h3, hr, ha⟩ := h
 obtain ⟨c0, c1, f0, f1⟩ := blk2 hB
 clear h1
 obtain ⟨rest, err⟩ := s
 simp only at c1
 by_cases hz : z = 0
 ·subst hz
  go_enter Tryz.func86, Tryz.ntmps86
  go_wp2
  (try simp only [Exit.inBlock, Exit.then])
  refine bodyPost_ret (results_none rfl _ _ _) rfl ?_
  refine ⟨rfl, ?_, Touch.refl _ _⟩
  unfold Wire.St.fail
  rw [if_neg (fun h => h.2 rfl)]
  exact h0
 ·have hd : (z == 0) = false := by simpa using hz
  by_cases he : err = 0
  ·subst he
   go_enter Tryz.func86, Tryz.ntmps86
   go_wp2
   go_end0
   refine ⟨rfl, ?_, ((Touch.refl _ _).set_ _ _).set_ _ _⟩
   unfold Wire.St.fail
   rw [if_pos ⟨rfl, hz⟩]
   exact ⟨none, 0, 0, (hB.put 1 (.int .i64 z)).put 0 (.slice none 0 0), rfl, by omega, by omega, .inl rfl, fun a h => by cases h⟩
  ·have hd2 : (err == 0) = false := by simpa using he
   obtain rfl : rest = [] := hfi he
   go_enter Tryz.func86, Tryz.ntmps86
   go_wp2
   go_end0
   refine ⟨rfl, ?_, (Touch.refl _ _).set_ _ _⟩
   unfold Wire.St.fail
   rw [if_neg (fun h => he h.1)]
   exact ⟨none, 0, 0, hB.put 0 (.slice none 0 0), rfl, by omega, by omega, .inl rfl, fun a h => by cases h⟩
theorem and127 (x : UInt8) : bits .and .u8 (x.toNat : Int) 127 = ((x.toNat % 128 : Nat) : Int) := by
 have e := u8_and_nat x.toNat 127 x.toNat_lt (by decide)
 rw [nat_mask7] at e
 exact e
theorem ref_pow (p : Nat) (hp : p <= 9) : 128 ^ p <= 9223372036854775808 := by
 have : (128 : Nat) ^ p <= 128 ^ 9 := Nat.pow_le_pow_right (by decide) hp
 exact Nat.le_trans this (by decide)
theorem ref_acc (acc un x p : Nat) (h : un = 128 ^ p /\ acc < 128 ^ p) (hp : p <= 8 ∨ (p <= 9 /\ x % 128 <= 1)) :
  IntKind.u64.wrap ((acc : Int) + IntKind.u64.wrap ((un : Int) * ((x : Int) % 128))) = ((acc + x % 128 * 128 ^ p : Nat) : Int) := by
 obtain ⟨rfl, ha⟩ := h
 have hb : acc + x % 128 * 128 ^ p < 18446744073709551616 := by
  rcases hp with h | ⟨h, hx⟩
  ·have h1 := ref_pow (p + 1) (by omega)
   rw [Nat.pow_succ] at h1
   have : x % 128 * 128 ^ p <= 127 * 128 ^ p := Nat.mul_le_mul_right _ (by omega)
   omega
  ·have h1 := ref_pow p h
   have : x % 128 * 128 ^ p <= 1 * 128 ^ p := Nat.mul_le_mul_right _ hx
   omega
 have e : ((128 ^ p : Nat) : Int) * ((x : Int) % 128) = ((x % 128 * 128 ^ p : Nat) : Int) := by
  rw [Nat.mul_comm]; simp
 rw [e, IntKind.wrap_u64, IntKind.wrap_u64]
 generalize x % 128 * 128 ^ p = z at *
 omega
theorem ref_un (un acc p : Nat) (h : un = 128 ^ p /\ acc < 128 ^ p) (hp : p <= 8) : IntKind.u64.wrap ((un : Int) * 128) = ((128 ^ (p + 1) : Nat) : Int) := by
 obtain ⟨rfl, _⟩ := h
 have h1 := ref_pow (p + 1) (by omega)
 rw [Nat.pow_succ] at h1 ⊢
 generalize 128 ^ p = z at *
 rw [IntKind.wrap_u64]
 omega
theorem ref_le (un acc x p : Nat) (h : un = 128 ^ p /\ acc < 128 ^ p) : acc + x % 128 * 128 ^ p < 128 ^ (p + 1) := by
 obtain ⟨rfl, ha⟩ := h
 have : x % 128 * 128 ^ p <= 127 * 128 ^ p := Nat.mul_le_mul_right _ (by omega)
 rw [Nat.pow_succ]
 omega
theorem refNum_at (w : World) (g : Nat) (s : Wire.St) (h : Sc w g 55 s) (hfi : s.fine) :
  Calls Tryz.prog 112 #[.pointer (some ⟨g, 0, none⟩)] w (Reads w g 55 (.int .u64 (s.numV : Int)) s.numS) := by
 have h0 := h
 obtain ⟨A, n, cap, hB, h1, h2, h3, hr, ha⟩ := h
 obtain ⟨c0, c1, f0, f1⟩ := blk2 hB
 obtain ⟨bs, err⟩ := s
 simp only at h1 c1 hr
 by_cases he : err = 0
 ·subst he
  have HN := Jh h1
  clear h1
  have hnum : Hid (∀ t, Wire.num bs = t -> (Wire.St.mk bs 0).numV = t.1 /\ (Wire.St.mk bs 0).numS = if t.2.2 = 0 then ⟨bs.drop t.2.1, 0⟩ else (Wire.St.mk bs 0).fail (t.2.2 : Nat)) := by
   intro t ht
   subst ht
   exact ⟨rfl, rfl⟩
  generalize (Wire.St.mk bs 0).numV = nv at *
  generalize (Wire.St.mk bs 0).numS = ns at *
  go_enter Tryz.func112, Tryz.ntmps112
  go_wp2_with fail
  go_loop [3, 4, 5] (fun x u i => ∃ (p acc un : Nat), p <= 9 /\ p <= n /\ i = .int .i64 (p : Int) /\ x = .int .u64 (acc : Int) /\ u = .int .u64 (un : Int) /\ Hid (un = 128 ^ p /\ acc < 128 ^ p) /\ Hid (Wire.num bs = Wire.scan (10 - p) p acc (bs.drop p))) (fun _ _ i => 10 - (intOf i).toNat)
  case atStart => exact ⟨0, 0, 1, by omega, by omega, rfl, rfl, rfl, ⟨rfl, by decide⟩, rfl⟩
  case round =>
   obtain ⟨p, acc, un, hp, hpn, rfl, rfl, rfl, hacc, HI⟩ := hrel
   obtain ⟨f, hf⟩ : ∃ f, 10 - p = f + 1 := ⟨9 - p, by omega⟩
   have HF := Jh hf
   clear hf
   by_cases hpl : p = n
   ·subst hpl
    have hN : Wire.num bs = (0, 0, 2) := by
     rw [HI.o, List.drop_eq_nil_of_le (by rw [HN.o]; omega), HF.o]; rfl
    obtain ⟨rfl, hns⟩ := hnum.o _ hN
    have HNS := Jh hns
    clear hns hN
    go_wp2_with fail
    refine (refFail_at w g _ h0 hfi _).mono ?_
    rintro e w1 ⟨rfl, hs1, ht1⟩
    go_wp2_with fail
    go_ret
    refine ⟨rfl, ?_, ht1⟩
    rw [HNS.o]; exact hs1
   ·obtain ⟨g2, off, rfl, hg2, hc⟩ := hr.at_ (k := p) (by rw [HN.o]; omega)
    have hdr : bs.drop p = bs[p]'(by rw [HN.o]; omega) :: bs.drop (p + 1) := List.drop_eq_getElem_cons _
    generalize hX : bs[p]'(by rw [HN.o]; omega) = x at *
    clear hX
    have HD := Jh hdr
    clear hdr
    have hx : x.toNat < 256 := x.toNat_lt
    have h1 := and127 x
    have h3p : p < n := by omega
    have h4 : decide (n <= p) = false := by simp; omega
    have HSc : Hid (Wire.num bs = if 128 <= x.toNat then Wire.scan f (p + 1) (acc + x.toNat % 128 * 128 ^ p) (bs.drop (p + 1)) else if Wire.mayEnd x.toNat p then (acc + x.toNat * 128 ^ p, p + 1, 0) else (0, 0, 3)) := by
     show _ = _
     rw [HI.o, HF.o, HD.o, scan_cons]
    by_cases h9 : p = 9
    ·have d9 : ((p : Int) == 9) = true := by simp; omega
     have hpos : 0 < p := by omega
     have H9 := Jh h9
     have d0 : decide ((0 : Int) < (p : Int)) = true := by simp; omega
     by_cases hx1 : x.toNat = 1
     ·have HX1 := Jh hx1
      have hx2 : 1 <= x.toNat /\ x.toNat <= 1 := by omega
      clear h9
      have dx : ((x.toNat : Int) != 1) = false := by simp; omega
      have dx0 : ((x.toNat : Int) == 0) = false := by simp; omega
      clear hx1
      have hlo : x.toNat < 128 := by omega
      have dh : decide ((x.toNat : Int) < 128) = true := by simp; omega
      have hN : Wire.num bs = (acc + x.toNat * 128 ^ p, p + 1, 0) := by
       rw [HSc.o, if_neg (by omega), if_pos]
       simp [Wire.mayEnd, H9.o, HX1.o]
      obtain ⟨rfl, rfl⟩ := hnum.o _ hN
      clear hN
      have HV : Hid (IntKind.u64.wrap ((acc : Int) + IntKind.u64.wrap ((un : Int) * ((x.toNat : Int) % 128))) = ((acc + x.toNat * 128 ^ p : Nat) : Int)) := by
       have h := ref_acc acc un x.toNat p hacc.o (.inr ⟨by omega, by omega⟩)
       rw [show acc + x.toNat % 128 * 128 ^ p = acc + x.toNat * 128 ^ p by rw [Nat.mod_eq_of_lt hlo]] at h
       exact h
      obtain ⟨A', hcut, hr', hAA⟩ := run_cutH (g := g) hr HN.o (k := p + 1) (by omega) h2 ha
      simp only [show ((p + 1 : Nat) : Int) = (p : Int) + 1 by omega] at hcut
      have H3 := Jh h3p
      clear h3p hpn hpl
      go_wp2_with fail
      go_ret
      have hT : Touch g w (w.setCell ⟨g, 0, none⟩ (.slice A' (n - (p + 1)) (cap - (p + 1)))) := (Touch.refl _ _).set_ _ _
      refine ⟨ret_int HV.o, ?_, hT⟩
      exact ⟨A', n - (p + 1), cap - (p + 1), hB.put 0 _, by simp [HN.o], by have := H3.o; omega, by omega, hT.rd hr' (rd_apart hB hr'), hAA⟩
     ·clear h9
      have dx : ((x.toNat : Int) != 1) = true := by simp; omega
      have hN : Wire.num bs = (0, 0, 3) := by
       rw [HSc.o]
       have hf0 : f = 0 := by have := HF.o; have := H9.o; omega
       rw [hf0]
       split
       ·rfl
       ·rw [if_neg]; simp [Wire.mayEnd, H9.o, hx1]
      obtain ⟨rfl, hns⟩ := hnum.o _ hN
      have HNS := Jh hns
      clear hns hN
      go_wp2_with fail
      refine (refFail_at w g _ h0 hfi _).mono ?_
      rintro e w1 ⟨rfl, hs1, ht1⟩
      go_wp2_with fail
      go_ret
      refine ⟨rfl, ?_, ht1⟩
      rw [HNS.o]; exact hs1
    ·have d9 : ((p : Int) == 9) = false := by simp; omega
     by_cases hz : 0 < p /\ x.toNat = 0
     ·have d0 : decide ((0 : Int) < (p : Int)) = true := by simp; omega
      have dx : ((x.toNat : Int) == 0) = true := by simp; omega
      have hN : Wire.num bs = (0, 0, 3) := by
       rw [HSc.o, if_neg (by omega), if_neg]
       simp [Wire.mayEnd, h9, hz.2]; omega
      obtain ⟨rfl, hns⟩ := hnum.o _ hN
      have HNS := Jh hns
      clear hns hN
      go_wp2_with fail
      refine (refFail_at w g _ h0 hfi _).mono ?_
      rintro e w1 ⟨rfl, hs1, ht1⟩
      go_wp2_with fail
      go_ret
      refine ⟨rfl, ?_, ht1⟩
      rw [HNS.o]; exact hs1
     ·by_cases hp0 : 0 < p
      ·have d0 : decide ((0 : Int) < (p : Int)) = true := by simp; omega
       have dx : ((x.toNat : Int) == 0) = false := by simp; omega
       by_cases hhi : 128 <= x.toNat
       ·have dh : decide ((x.toNat : Int) < 128) = false := by simp; omega
        go_wp2_with fail
        go_round
        case rel =>
         refine ⟨p + 1, acc + x.toNat % 128 * 128 ^ p, 128 ^ (p + 1), by omega, by omega, by go_num, ?_, ?_, ⟨rfl, ref_le un acc x.toNat p hacc.o⟩, ?_⟩
         ·rw [ref_acc acc un x.toNat p hacc.o (.inl (by omega))]
         ·rw [ref_un un acc p hacc.o (by omega)]
         ·show _ = _
          rw [HSc.o, if_pos hhi, show 10 - (p + 1) = f by have := HF.o; omega]
        case measure => simp [intOf]; omega
       ·have hlo : x.toNat < 128 := by omega
        have dh : decide ((x.toNat : Int) < 128) = true := by simp; omega
        have hN : Wire.num bs = (acc + x.toNat * 128 ^ p, p + 1, 0) := by
         rw [HSc.o, if_neg (by omega), if_pos]
         rw [Wire.mayEnd, if_neg h9]; simp; omega
        obtain ⟨rfl, rfl⟩ := hnum.o _ hN
        clear hN
        have HV : Hid (IntKind.u64.wrap ((acc : Int) + IntKind.u64.wrap ((un : Int) * ((x.toNat : Int) % 128))) = ((acc + x.toNat * 128 ^ p : Nat) : Int)) := by
         have h := ref_acc acc un x.toNat p hacc.o (.inl (by omega))
         rw [show acc + x.toNat % 128 * 128 ^ p = acc + x.toNat * 128 ^ p by rw [Nat.mod_eq_of_lt hlo]] at h
         exact h
        obtain ⟨A', hcut, hr', hAA⟩ := run_cutH (g := g) hr HN.o (k := p + 1) (by omega) h2 ha
        simp only [show ((p + 1 : Nat) : Int) = (p : Int) + 1 by omega] at hcut
        have H3 := Jh h3p
        clear h3p hpn hpl
        go_wp2_with fail
        go_ret
        have hT : Touch g w (w.setCell ⟨g, 0, none⟩ (.slice A' (n - (p + 1)) (cap - (p + 1)))) := (Touch.refl _ _).set_ _ _
        refine ⟨ret_int HV.o, ?_, hT⟩
        exact ⟨A', n - (p + 1), cap - (p + 1), hB.put 0 _, by simp [HN.o], by have := H3.o; omega, by omega, hT.rd hr' (rd_apart hB hr'), hAA⟩
      ·have d0 : decide ((0 : Int) < (p : Int)) = false := by simp; omega
       by_cases hhi : 128 <= x.toNat
       ·have dh : decide ((x.toNat : Int) < 128) = false := by simp; omega
        go_wp2_with fail
        go_round
        case rel =>
         refine ⟨p + 1, acc + x.toNat % 128 * 128 ^ p, 128 ^ (p + 1), by omega, by omega, by go_num, ?_, ?_, ⟨rfl, ref_le un acc x.toNat p hacc.o⟩, ?_⟩
         ·rw [ref_acc acc un x.toNat p hacc.o (.inl (by omega))]
         ·rw [ref_un un acc p hacc.o (by omega)]
         ·show _ = _
          rw [HSc.o, if_pos hhi, show 10 - (p + 1) = f by have := HF.o; omega]
        case measure => simp [intOf]; omega
       ·have hlo : x.toNat < 128 := by omega
        have dh : decide ((x.toNat : Int) < 128) = true := by simp; omega
        have hN : Wire.num bs = (acc + x.toNat * 128 ^ p, p + 1, 0) := by
         rw [HSc.o, if_neg (by omega), if_pos]
         rw [Wire.mayEnd, if_neg h9]; simp; omega
        obtain ⟨rfl, rfl⟩ := hnum.o _ hN
        clear hN
        have HV : Hid (IntKind.u64.wrap ((acc : Int) + IntKind.u64.wrap ((un : Int) * ((x.toNat : Int) % 128))) = ((acc + x.toNat * 128 ^ p : Nat) : Int)) := by
         have h := ref_acc acc un x.toNat p hacc.o (.inl (by omega))
         rw [show acc + x.toNat % 128 * 128 ^ p = acc + x.toNat * 128 ^ p by rw [Nat.mod_eq_of_lt hlo]] at h
         exact h
        obtain ⟨A', hcut, hr', hAA⟩ := run_cutH (g := g) hr HN.o (k := p + 1) (by omega) h2 ha
        simp only [show ((p + 1 : Nat) : Int) = (p : Int) + 1 by omega] at hcut
        have H3 := Jh h3p
        clear h3p hpn hpl
        go_wp2_with fail
        go_ret
        have hT : Touch g w (w.setCell ⟨g, 0, none⟩ (.slice A' (n - (p + 1)) (cap - (p + 1)))) := (Touch.refl _ _).set_ _ _
        refine ⟨ret_int HV.o, ?_, hT⟩
        exact ⟨A', n - (p + 1), cap - (p + 1), hB.put 0 _, by simp [HN.o], by have := H3.o; omega, by omega, hT.rd hr' (rd_apart hB hr'), hAA⟩
 ·have hd : (err != 0) = true := by simpa using he
  obtain rfl : bs = [] := hfi he
  have e1 : (Wire.St.mk [] err).numS = ⟨[], err⟩ := by
   show (Wire.St.mk [] err).fail 2 = _
   simp [Wire.St.fail, he]
  have e2 : (Wire.St.mk [] err).numV = 0 := rfl
  rw [e1, e2]
  go_enter Tryz.func112, Tryz.ntmps112
  go_wp2_with fail
  go_ret
  exact ⟨rfl, h0, Touch.refl _ _⟩
end
section
open Go.RowKit
theorem numV_err {s : Wire.St} (h : s.fine) (he : s.numS.err ≠ 0) : s.numV = 0 := by
 by_cases h0 : (Wire.num s.rest).2.2 = 0
 ·have e : s.numS.err = s.err := by unfold Wire.St.numS; rw [if_pos h0]
  rw [e] at he
  have hr := h he
  rw [hr] at h0
  cases h0
 ·exact (Wire.num_bad _ h0).1
theorem fail_err {s : Wire.St} (he : s.err ≠ 0) (z : Int) : s.fail z = s := by unfold Wire.St.fail; rw [if_neg (fun h => he h.1)]
theorem uptoV_err {s : Wire.St} (h : s.fine) (m : Int) (he : (s.uptoS m).err ≠ 0) : s.uptoV m = 0 := by
 unfold Wire.St.uptoV
 unfold Wire.St.uptoS at he
 split
 ·rfl
 ·rename_i ho
  rw [if_neg ho] at he
  exact numV_err h he
theorem refInt_at (w : World) (g : Nat) (s : Wire.St) (h : Sc w g 55 s) (hfi : s.fine) :
  Calls Tryz.prog 149 #[.pointer (some ⟨g, 0, none⟩)] w (Reads w g 55 (.int .i64 (Wire.zag s.numV)) s.numS) := by
 have hn := refNum_at w g s h hfi
 have hv := Wire.num_lt s.rest
 have e : (Wire.num s.rest).1 = s.numV := rfl
 rw [e] at hv
 clear e
 generalize s.numV = v at *
 generalize s.numS = s1 at *
 have hv2 : (v : Int) <= 18446744073709551615 := by omega
 clear hv
 unfold Wire.zag
 by_cases h1 : v % 2 = 1
 ·rw [if_pos h1]
  have hd : ((v : Int) % 2 == 1) = true := by simp; omega
  clear h1
  go_enter Tryz.func149, Tryz.ntmps149
  go_wp2_with fail
  refine hn.mono ?_
  rintro e w1 ⟨rfl, hs1, ht1⟩
  go_wp2_with fail
  go_ret
  exact ⟨ret_int (by omega), hs1, ht1⟩
 ·rw [if_neg h1]
  have hd : ((v : Int) % 2 == 1) = false := by simp; omega
  clear h1
  go_enter Tryz.func149, Tryz.ntmps149
  go_wp2_with fail
  refine hn.mono ?_
  rintro e w1 ⟨rfl, hs1, ht1⟩
  go_wp2_with fail
  go_ret
  exact ⟨ret_int (by omega), hs1, ht1⟩
theorem refUpto_at (w : World) (g : Nat) (s : Wire.St) (h : Sc w g 55 s) (hfi : s.fine) (m : Int) (hm1 : -9223372036854775808 <= m) (hm2 : m <= 9223372036854775807) :
  Calls Tryz.prog 85 #[.pointer (some ⟨g, 0, none⟩), .int .i64 m] w (Reads w g 55 (.int .i64 (s.uptoV m : Int)) (s.uptoS m)) := by
 have hn := refNum_at w g s h hfi
 have hf1 := Wire.St.numS_fine hfi
 have hve := numV_err (s := s) hfi
 unfold Wire.St.uptoV Wire.St.uptoS Wire.St.over
 generalize s.numS = s1 at *
 generalize s.numV = v at *
 have HF := Jh hf1
 clear hf1
 by_cases he : s1.err = 0
 ·clear hve
  have HE := Jh he
  clear he
  by_cases h0 : m < 0
  ·have hd : decide (m < 0) = true := by simpa using h0
   rw [hd, Bool.true_or, if_pos rfl, if_pos rfl]
   go_enter Tryz.func85, Tryz.ntmps85
   go_wp2_with fail
   refine hn.mono ?_
   rintro e w1 ⟨rfl, hs1, ht1⟩
   have hs0 := hs1
   obtain ⟨A, n, cap, hB, l1, l2, l3, hr⟩ := hs1
   rw [HE.o] at hB
   obtain ⟨c0, c1, f0, f1⟩ := blk2 hB
   clear l1
   go_wp2_with fail
   refine (refFail_at w1 g s1 hs0 HF.o _).mono ?_
   rintro e w2 ⟨rfl, hs2, ht2⟩
   go_wp2_with fail
   go_ret
   exact ⟨rfl, hs2, ht1.trans ht2⟩
  ·obtain ⟨k, rfl⟩ := Int.eq_ofNat_of_zero_le (show 0 <= m by omega)
   have hd : decide ((k : Int) < 0) = false := by simp
   rw [hd, Bool.false_or]
   have hk : k <= 9223372036854775807 := by omega
   clear hm1 hm2 h0
   by_cases hv : k < v
   ·have hd2 : decide ((k : Int) < (v : Int)) = true := by simpa using hv
    have hd3 : decide (k < v) = true := by simpa using hv
    rw [hd2, if_pos rfl, if_pos rfl]
    go_enter Tryz.func85, Tryz.ntmps85
    go_wp2_with fail
    refine hn.mono ?_
    rintro e w1 ⟨rfl, hs1, ht1⟩
    have hs0 := hs1
    obtain ⟨A, n, cap, hB, l1, l2, l3, hr⟩ := hs1
    rw [HE.o] at hB
    obtain ⟨c0, c1, f0, f1⟩ := blk2 hB
    clear l1
    go_wp2_with fail
    refine (refFail_at w1 g s1 hs0 HF.o _).mono ?_
    rintro e w2 ⟨rfl, hs2, ht2⟩
    go_wp2_with fail
    go_ret
    exact ⟨rfl, hs2, ht1.trans ht2⟩
   ·have hd2 : decide ((k : Int) < (v : Int)) = false := by simpa using hv
    have hd3 : decide (k < v) = false := by simpa using hv
    have hv2 : v <= k := by omega
    rw [hd2, if_neg (by simp), if_neg (by simp)]
    go_enter Tryz.func85, Tryz.ntmps85
    go_wp2_with fail
    refine hn.mono ?_
    rintro e w1 ⟨rfl, hs1, ht1⟩
    have hs0 := hs1
    obtain ⟨A, n, cap, hB, l1, l2, l3, hr⟩ := hs1
    rw [HE.o] at hB
    obtain ⟨c0, c1, f0, f1⟩ := blk2 hB
    clear l1
    go_wp2_with fail
    go_ret
    exact ⟨rfl, hs0, ht1⟩
 ·obtain rfl := hve he
  clear hve
  have e1 : ∀ b : Bool, (if b = true then s1.fail 4 else s1) = s1 := fun b => by cases b <;> simp [fail_err he]
  have e2 : ∀ b : Bool, (if b = true then 0 else 0) = (0 : Nat) := fun b => by cases b <;> rfl
  rw [e1, e2]
  have hd : (s1.err == 0) = false := by simpa using he
  clear e1 e2 he
  go_enter Tryz.func85, Tryz.ntmps85
  go_wp2_with fail
  refine hn.mono ?_
  rintro e w1 ⟨rfl, hs1, ht1⟩
  have hs0 := hs1
  obtain ⟨A, n, cap, hB, l1, l2, l3, hr⟩ := hs1
  obtain ⟨c0, c1, f0, f1⟩ := blk2 hB
  clear l1
  go_wp2_with fail
  go_ret
  exact ⟨rfl, hs0, ht1⟩
theorem refText_at (w : World) (g : Nat) (s : Wire.St) (h : Sc w g 55 s) (hfi : s.fine) (m : Int) (hm1 : -9223372036854775808 <= m) (hm2 : m <= 9223372036854775807) :
  Calls Tryz.prog 52 #[.pointer (some ⟨g, 0, none⟩), .int .i64 m] w (Reads w g 55 (.string ⟨(s.textV m).toArray⟩) (s.textS m)) := by
 have hu := refUpto_at w g s h hfi m hm1 hm2
 have hf1 := Wire.St.uptoS_fine hfi m
 have hve := uptoV_err (s := s) hfi m
 unfold Wire.St.textV Wire.St.textS
 have hk : s.uptoV m <= 9223372036854775807 := by
  unfold Wire.St.uptoV Wire.St.over
  split
  ·omega
  ·rename_i h
   simp at h
   omega
 generalize s.uptoS m = s1 at *
 generalize s.uptoV m = k at *
 have HF := Jh hf1
 clear hf1
 by_cases he : s1.err = 0
 ·clear hve
  have HE := Jh he
  clear he
  by_cases hlt : s1.rest.length < k
  ·rw [if_pos hlt, if_pos hlt]
   go_enter Tryz.func52, Tryz.ntmps52
   go_wp2_with fail
   refine hu.mono ?_
   rintro e w1 ⟨rfl, hs1, ht1⟩
   have hs0 := hs1
   obtain ⟨A, n, cap, hB, h1, h2, h3, hr, ha⟩ := hs1
   rw [HE.o] at hB
   obtain ⟨c0, c1, f0, f1⟩ := blk2 hB
   rw [h1] at hlt
   clear h1
   have hd : decide (n < k) = true := by simpa using hlt
   go_wp2_with fail
   refine (refFail_at w1 g s1 hs0 HF.o _).mono ?_
   rintro e w2 ⟨rfl, hs2, ht2⟩
   have hs02 := hs2
   obtain ⟨A', n', cap', hB', h1', h2', h3', hr'⟩ := hs2
   have hfe : (s1.fail 2).err = 2 := by unfold Wire.St.fail; rw [if_pos ⟨HE.o, by decide⟩]
   rw [hfe] at hB'
   obtain ⟨c0', c1', f0', f1'⟩ := blk2 hB'
   clear h1' hfe c0 c1 f0 f1 hB
   go_wp2_with fail
   go_ret
   exact ⟨rfl, hs02, ht1.trans ht2⟩
  ·rw [if_neg hlt, if_neg hlt]
   go_enter Tryz.func52, Tryz.ntmps52
   go_wp2_with fail
   refine hu.mono ?_
   rintro e w1 ⟨rfl, hs1, ht1⟩
   obtain ⟨A, n, cap, hB, h1, h2, h3, hr, ha⟩ := hs1
   rw [HE.o] at hB
   obtain ⟨c0, c1, f0, f1⟩ := blk2 hB
   rw [h1] at hlt
   have HL := Jh h1
   clear h1
   have hd : decide (n < k) = false := by simpa using hlt
   have hkn : k <= n := by omega
   obtain ⟨A', hcut, hr', hAA⟩ := run_cutH (g := g) hr HL.o hkn h2 ha
   have hhd := run_head A n cap k hkn h2
   have hst := run_str (P := Tryz.prog) w1 A (s1.rest.take k) k cap (hr.take k) (by rw [List.length_take, HL.o]; omega) 29 5 9 Tryz.underlying29 Tryz.underlying5 Tryz.underlying9
   have HK := Jh hkn
   clear hkn hlt
   go_wp2_with fail
   go_ret
   refine ⟨rfl, ?_, ht1.set_ _ _⟩
   have hT : Touch g w1 (w1.setCell ⟨g, 0, none⟩ (.slice A' (n - k) (cap - k))) := (Touch.refl _ _).set_ _ _
   refine ⟨A', n - k, cap - k, ?_, by simp [HL.o], by have := HK.o; omega, by omega, hT.rd hr' (rd_apart hB hr'), hAA⟩
   simp only [HE.o]
   exact hB.put 0 _
 ·obtain rfl := hve he
  clear hve
  have hrest := HF.o he
  have hd : (s1.err == 0) = false := by simpa using he
  have hd2 : (s1.err != 0) = true := by simpa using he
  obtain ⟨rest, err⟩ := s1
  simp only at hrest hd hd2
  subst hrest
  rw [if_neg (by simp), if_neg (by simp)]
  simp only [List.take_zero, List.drop_zero]
  clear he
  go_enter Tryz.func52, Tryz.ntmps52
  go_wp2_with fail
  refine hu.mono ?_
  rintro e w1 ⟨rfl, hs1, ht1⟩
  have hs0 := hs1
  obtain ⟨A, n, cap, hB, h1, h2, h3, hr, ha⟩ := hs1
  obtain ⟨c0, c1, f0, f1⟩ := blk2 hB
  simp only at c1
  clear h1
  go_wp2_with fail
  go_ret
  exact ⟨rfl, hs0, ht1⟩
end
end Go.Proofs.YtckabmlilbkmbaaGreat
