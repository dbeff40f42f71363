/- Contracts of the program and of the document (WRef, WRefS, WRefT, VRefGet, PRefGet), each used further on. -/
import Derived.Deep.CutRange
import Derived.Test.YtoffnfooeojhnaaGreatM1
import Derived.Test.YtoffnfooeojhnaaGreatA3
set_option maxRecDepth 100000
set_option maxHeartbeats 4000000
namespace Go.Proofs.YtoffnfooeojhnaaGreat
open Go.RowKit
end Go.Proofs.YtoffnfooeojhnaaGreat
namespace Go.Proofs.YtoffnfooeojhnaaGreat
open Go.RowKit
theorem refFail_at (w : World) (g : Nat) (s : Wire.St) (h : Sc w g 43 s) (hfi : s.fine) (z : Int) :
  Calls Tryz.prog 66 #[.pointer (some ⟨g, 0, none⟩), .int .i64 z] w fun e w' => e = .returned (.tuple #[]) /\ Sc w' g 43 (s.fail z) /\ Touch g w w' := by
 have h0 := h
 obtain ⟨A, n, cap, hB, h1, h2, h3, hr, ha⟩ := h
 obtain ⟨c0, c1, f0, f1⟩ := blk2 hB
 clear h1
 obtain ⟨rest, err⟩ := s
 simp only at c1
 by_cases hz : z = 0
 ·subst hz
  go_enter Tryz.func66, Tryz.ntmps66
  go_wp2
  (try simp only [Exit.inBlock, Exit.then])
  refine bodyPost_ret (results_none rfl _ _ _) rfl ?_
  refine ⟨rfl, ?_, Touch.refl _ _⟩
  unfold Wire.St.fail
  rw [if_neg (fun h => h.2 rfl)]
  exact h0
 ·have hd : (z == 0) = false := by simpa using hz
  by_cases he : err = 0
  ·subst he
   go_enter Tryz.func66, Tryz.ntmps66
   go_wp2
   go_end0
   refine ⟨rfl, ?_, ((Touch.refl _ _).set_ _ _).set_ _ _⟩
   unfold Wire.St.fail
   rw [if_pos ⟨rfl, hz⟩]
   exact ⟨none, 0, 0, (hB.put 1 (.int .i64 z)).put 0 (.slice none 0 0), rfl, by omega, by omega, .inl rfl, fun a h => by cases h⟩
  ·have hd2 : (err == 0) = false := by simpa using he
   obtain rfl : rest = [] := hfi he
   go_enter Tryz.func66, Tryz.ntmps66
   go_wp2
   go_end0
   refine ⟨rfl, ?_, (Touch.refl _ _).set_ _ _⟩
   unfold Wire.St.fail
   rw [if_neg (fun h => he h.1)]
   exact ⟨none, 0, 0, hB.put 0 (.slice none 0 0), rfl, by omega, by omega, .inl rfl, fun a h => by cases h⟩
theorem and127 (x : UInt8) : bits .and .u8 (x.toNat : Int) 127 = ((x.toNat % 128 : Nat) : Int) := by
 have e := u8_and_nat x.toNat 127 x.toNat_lt (by decide)
 rw [nat_mask7] at e
 exact e
theorem ref_pow (p : Nat) (hp : p <= 9) : 128 ^ p <= 9223372036854775808 := by
 have : (128 : Nat) ^ p <= 128 ^ 9 := Nat.pow_le_pow_right (by decide) hp
 exact Nat.le_trans this (by decide)
theorem ref_acc (acc un x p : Nat) (h : un = 128 ^ p /\ acc < 128 ^ p) (hp : p <= 8 ∨ (p <= 9 /\ x % 128 <= 1)) :
  IntKind.u64.wrap ((acc : Int) + IntKind.u64.wrap ((un : Int) * ((x : Int) % 128))) = ((acc + x % 128 * 128 ^ p : Nat) : Int) := by
 obtain ⟨rfl, ha⟩ := h
 have hb : acc + x % 128 * 128 ^ p < 18446744073709551616 := by
  rcases hp with h | ⟨h, hx⟩
  ·have h1 := ref_pow (p + 1) (by omega)
   rw [Nat.pow_succ] at h1
   have : x % 128 * 128 ^ p <= 127 * 128 ^ p := Nat.mul_le_mul_right _ (by omega)
   omega
  ·have h1 := ref_pow p h
   have : x % 128 * 128 ^ p <= 1 * 128 ^ p := Nat.mul_le_mul_right _ hx
   omega
 have e : ((128 ^ p : Nat) : Int) * ((x : Int) % 128) = ((x % 128 * 128 ^ p : Nat) : Int) := by
  rw [Nat.mul_comm]; simp
 rw [e, IntKind.wrap_u64, IntKind.wrap_u64]
 generalize x % 128 * 128 ^ p = z at *
 omega
theorem ref_un (un acc p : Nat) (h : un = 128 ^ p /\ acc < 128 ^ p) (hp : p <= 8) : IntKind.u64.wrap ((un : Int) * 128) = ((128 ^ (p + 1) : Nat) : Int) := by
 obtain ⟨rfl, _⟩ := h
 have h1 := ref_pow (p + 1) (by omega)
 rw [Nat.pow_succ] at h1 ⊢
 generalize 128 ^ p = z at *
 rw [IntKind.wrap_u64]
 omega
theorem ref_le (un acc x p : Nat) (h : un = 128 ^ p /\ acc < 128 ^ p) : acc + x % 128 * 128 ^ p < 128 ^ (p + 1) := by
 obtain ⟨rfl, ha⟩ := h
 have : x % 128 * 128 ^ p <= 127 * 128 ^ p := Nat.mul_le_mul_right _ (by omega)
 rw [Nat.pow_succ]
 omega
theorem refNum_at (w : World) (g : Nat) (s : Wire.St) (h : Sc w g 43 s) (hfi : s.fine) :
  Calls Tryz.prog 102 #[.pointer (some ⟨g, 0, none⟩)] w (Reads w g 43 (.int .u64 (s.numV : Int)) s.numS) := by
 have h0 := h
 obtain ⟨A, n, cap, hB, h1, h2, h3, hr, ha⟩ := h
 obtain ⟨c0, c1, f0, f1⟩ := blk2 hB
 obtain ⟨bs, err⟩ := s
 simp only at h1 c1 hr
 by_cases he : err = 0
 ·subst he
  have HN := Lib.hid h1
  clear h1
  have hnum : Hid (∀ t, Wire.num bs = t -> (Wire.St.mk bs 0).numV = t.1 /\ (Wire.St.mk bs 0).numS = if t.2.2 = 0 then ⟨bs.drop t.2.1, 0⟩ else (Wire.St.mk bs 0).fail (t.2.2 : Nat)) := by
   intro t ht
   subst ht
   exact ⟨rfl, rfl⟩
  generalize (Wire.St.mk bs 0).numV = nv at *
  generalize (Wire.St.mk bs 0).numS = ns at *
  go_enter Tryz.func102, Tryz.ntmps102
  go_wp2_with fail
  go_loop [3, 4, 5] (fun x u i => ∃ (p acc un : Nat), p <= 9 /\ p <= n /\ i = .int .i64 (p : Int) /\ x = .int .u64 (acc : Int) /\ u = .int .u64 (un : Int) /\ Hid (un = 128 ^ p /\ acc < 128 ^ p) /\ Hid (Wire.num bs = Wire.scan (10 - p) p acc (bs.drop p))) (fun _ _ i => 10 - (intOf i).toNat)
  case atStart => exact ⟨0, 0, 1, by omega, by omega, rfl, rfl, rfl, ⟨rfl, by decide⟩, rfl⟩
  case round =>
   obtain ⟨p, acc, un, hp, hpn, rfl, rfl, rfl, hacc, HI⟩ := hrel
   obtain ⟨f, hf⟩ : ∃ f, 10 - p = f + 1 := ⟨9 - p, by omega⟩
   have HF := Lib.hid hf
   clear hf
   by_cases hpl : p = n
   ·subst hpl
    have hN : Wire.num bs = (0, 0, 2) := by
     rw [HI.out, List.drop_eq_nil_of_le (by rw [HN.out]; omega), HF.out]; rfl
    obtain ⟨rfl, hns⟩ := hnum.out _ hN
    have HNS := Lib.hid hns
    clear hns hN
    go_wp2_with fail
    refine (refFail_at w g _ h0 hfi _).mono ?_
    rintro e w1 ⟨rfl, hs1, ht1⟩
    go_wp2_with fail
    go_ret
    refine ⟨rfl, ?_, ht1⟩
    rw [HNS.out]; exact hs1
   ·obtain ⟨g2, off, rfl, hg2, hc⟩ := hr.at_ (k := p) (by rw [HN.out]; omega)
    have hdr : bs.drop p = bs[p]'(by rw [HN.out]; omega) :: bs.drop (p + 1) := List.drop_eq_getElem_cons _
    generalize hX : bs[p]'(by rw [HN.out]; omega) = x at *
    clear hX
    have HD := Lib.hid hdr
    clear hdr
    have hx : x.toNat < 256 := x.toNat_lt
    have h1 := and127 x
    have h3p : p < n := by omega
    have h4 : decide (n <= p) = false := by simp; omega
    have HSc : Hid (Wire.num bs = if 128 <= x.toNat then Wire.scan f (p + 1) (acc + x.toNat % 128 * 128 ^ p) (bs.drop (p + 1)) else if Wire.mayEnd x.toNat p then (acc + x.toNat * 128 ^ p, p + 1, 0) else (0, 0, 3)) := by
     show _ = _
     rw [HI.out, HF.out, HD.out, scan_cons]
    by_cases h9 : p = 9
    ·have d9 : ((p : Int) == 9) = true := by simp; omega
     have hpos : 0 < p := by omega
     have H9 := Lib.hid h9
     have d0 : decide ((0 : Int) < (p : Int)) = true := by simp; omega
     by_cases hx1 : x.toNat = 1
     ·have HX1 := Lib.hid hx1
      have hx2 : 1 <= x.toNat /\ x.toNat <= 1 := by omega
      clear h9
      have dx : ((x.toNat : Int) != 1) = false := by simp; omega
      have dx0 : ((x.toNat : Int) == 0) = false := by simp; omega
      clear hx1
      have hlo : x.toNat < 128 := by omega
      have dh : decide ((x.toNat : Int) < 128) = true := by simp; omega
      have hN : Wire.num bs = (acc + x.toNat * 128 ^ p, p + 1, 0) := by
       rw [HSc.out, if_neg (by omega), if_pos]
       simp [Wire.mayEnd, H9.out, HX1.out]
      obtain ⟨rfl, rfl⟩ := hnum.out _ hN
      clear hN
      have HV : Hid (IntKind.u64.wrap ((acc : Int) + IntKind.u64.wrap ((un : Int) * ((x.toNat : Int) % 128))) = ((acc + x.toNat * 128 ^ p : Nat) : Int)) := by
       have h := ref_acc acc un x.toNat p hacc.out (.inr ⟨by omega, by omega⟩)
       rw [show acc + x.toNat % 128 * 128 ^ p = acc + x.toNat * 128 ^ p by rw [Nat.mod_eq_of_lt hlo]] at h
       exact h
      obtain ⟨A', hcut, hr', hAA⟩ := run_cutH (g := g) hr HN.out (k := p + 1) (by omega) h2 ha
      simp only [show ((p + 1 : Nat) : Int) = (p : Int) + 1 by omega] at hcut
      have H3 := Lib.hid h3p
      clear h3p hpn hpl
      go_wp2_with fail
      go_ret
      have hT : Touch g w (w.setCell ⟨g, 0, none⟩ (.slice A' (n - (p + 1)) (cap - (p + 1)))) := (Touch.refl _ _).set_ _ _
      refine ⟨ret_int HV.out, ?_, hT⟩
      exact ⟨A', n - (p + 1), cap - (p + 1), hB.put 0 _, by simp [HN.out], by have := H3.out; omega, by omega, hT.rd hr' (rd_apart hB hr'), hAA⟩
     ·clear h9
      have dx : ((x.toNat : Int) != 1) = true := by simp; omega
      have hN : Wire.num bs = (0, 0, 3) := by
       rw [HSc.out]
       have hf0 : f = 0 := by have := HF.out; have := H9.out; omega
       rw [hf0]
       split
       ·rfl
       ·rw [if_neg]; simp [Wire.mayEnd, H9.out, hx1]
      obtain ⟨rfl, hns⟩ := hnum.out _ hN
      have HNS := Lib.hid hns
      clear hns hN
      go_wp2_with fail
      refine (refFail_at w g _ h0 hfi _).mono ?_
      rintro e w1 ⟨rfl, hs1, ht1⟩
      go_wp2_with fail
      go_ret
      refine ⟨rfl, ?_, ht1⟩
      rw [HNS.out]; exact hs1
    ·have d9 : ((p : Int) == 9) = false := by simp; omega
     by_cases hz : 0 < p /\ x.toNat = 0
     ·have d0 : decide ((0 : Int) < (p : Int)) = true := by simp; omega
      have dx : ((x.toNat : Int) == 0) = true := by simp; omega
      have hN : Wire.num bs = (0, 0, 3) := by
       rw [HSc.out, if_neg (by omega), if_neg]
       simp [Wire.mayEnd, h9, hz.2]; omega
      obtain ⟨rfl, hns⟩ := hnum.out _ hN
      have HNS := Lib.hid hns
      clear hns hN
      go_wp2_with fail
      refine (refFail_at w g _ h0 hfi _).mono ?_
      rintro e w1 ⟨rfl, hs1, ht1⟩
      go_wp2_with fail
      go_ret
      refine ⟨rfl, ?_, ht1⟩
      rw [HNS.out]; exact hs1
     ·by_cases hp0 : 0 < p
      ·have d0 : decide ((0 : Int) < (p : Int)) = true := by simp; omega
       have dx : ((x.toNat : Int) == 0) = false := by simp; omega
       by_cases hhi : 128 <= x.toNat
       ·have dh : decide ((x.toNat : Int) < 128) = false := by simp; omega
        go_wp2_with fail
        go_round
        case rel =>
         refine ⟨p + 1, acc + x.toNat % 128 * 128 ^ p, 128 ^ (p + 1), by omega, by omega, by go_num, ?_, ?_, ⟨rfl, ref_le un acc x.toNat p hacc.out⟩, ?_⟩
         ·rw [ref_acc acc un x.toNat p hacc.out (.inl (by omega))]
         ·rw [ref_un un acc p hacc.out (by omega)]
         ·show _ = _
          rw [HSc.out, if_pos hhi, show 10 - (p + 1) = f by have := HF.out; omega]
        case measure => simp [intOf]; omega
       ·have hlo : x.toNat < 128 := by omega
        have dh : decide ((x.toNat : Int) < 128) = true := by simp; omega
        have hN : Wire.num bs = (acc + x.toNat * 128 ^ p, p + 1, 0) := by
         rw [HSc.out, if_neg (by omega), if_pos]
         rw [Wire.mayEnd, if_neg h9]; simp; omega
        obtain ⟨rfl, rfl⟩ := hnum.out _ hN
        clear hN
        have HV : Hid (IntKind.u64.wrap ((acc : Int) + IntKind.u64.wrap ((un : Int) * ((x.toNat : Int) % 128))) = ((acc + x.toNat * 128 ^ p : Nat) : Int)) := by
         have h := ref_acc acc un x.toNat p hacc.out (.inl (by omega))
         rw [show acc + x.toNat % 128 * 128 ^ p = acc + x.toNat * 128 ^ p by rw [Nat.mod_eq_of_lt hlo]] at h
         exact h
        obtain ⟨A', hcut, hr', hAA⟩ := run_cutH (g := g) hr HN.out (k := p + 1) (by omega) h2 ha
        simp only [show ((p + 1 : Nat) : Int) = (p : Int) + 1 by omega] at hcut
        have H3 := Lib.hid h3p
        clear h3p hpn hpl
        go_wp2_with fail
        go_ret
        have hT : Touch g w (w.setCell ⟨g, 0, none⟩ (.slice A' (n - (p + 1)) (cap - (p + 1)))) := (Touch.refl _ _).set_ _ _
        refine ⟨ret_int HV.out, ?_, hT⟩
        exact ⟨A', n - (p + 1), cap - (p + 1), hB.put 0 _, by simp [HN.out], by have := H3.out; omega, by omega, hT.rd hr' (rd_apart hB hr'), hAA⟩
      ·have d0 : decide ((0 : Int) < (p : Int)) = false := by simp; omega
       by_cases hhi : 128 <= x.toNat
       ·have dh : decide ((x.toNat : Int) < 128) = false := by simp; omega
        go_wp2_with fail
        go_round
        case rel =>
         refine ⟨p + 1, acc + x.toNat % 128 * 128 ^ p, 128 ^ (p + 1), by omega, by omega, by go_num, ?_, ?_, ⟨rfl, ref_le un acc x.toNat p hacc.out⟩, ?_⟩
         ·rw [ref_acc acc un x.toNat p hacc.out (.inl (by omega))]
         ·rw [ref_un un acc p hacc.out (by omega)]
         ·show _ = _
          rw [HSc.out, if_pos hhi, show 10 - (p + 1) = f by have := HF.out; omega]
        case measure => simp [intOf]; omega
       ·have hlo : x.toNat < 128 := by omega
        have dh : decide ((x.toNat : Int) < 128) = true := by simp; omega
        have hN : Wire.num bs = (acc + x.toNat * 128 ^ p, p + 1, 0) := by
         rw [HSc.out, if_neg (by omega), if_pos]
         rw [Wire.mayEnd, if_neg h9]; simp; omega
        obtain ⟨rfl, rfl⟩ := hnum.out _ hN
        clear hN
        have HV : Hid (IntKind.u64.wrap ((acc : Int) + IntKind.u64.wrap ((un : Int) * ((x.toNat : Int) % 128))) = ((acc + x.toNat * 128 ^ p : Nat) : Int)) := by
         have h := ref_acc acc un x.toNat p hacc.out (.inl (by omega))
         rw [show acc + x.toNat % 128 * 128 ^ p = acc + x.toNat * 128 ^ p by rw [Nat.mod_eq_of_lt hlo]] at h
         exact h
        obtain ⟨A', hcut, hr', hAA⟩ := run_cutH (g := g) hr HN.out (k := p + 1) (by omega) h2 ha
        simp only [show ((p + 1 : Nat) : Int) = (p : Int) + 1 by omega] at hcut
        have H3 := Lib.hid h3p
        clear h3p hpn hpl
        go_wp2_with fail
        go_ret
        have hT : Touch g w (w.setCell ⟨g, 0, none⟩ (.slice A' (n - (p + 1)) (cap - (p + 1)))) := (Touch.refl _ _).set_ _ _
        refine ⟨ret_int HV.out, ?_, hT⟩
        exact ⟨A', n - (p + 1), cap - (p + 1), hB.put 0 _, by simp [HN.out], by have := H3.out; omega, by omega, hT.rd hr' (rd_apart hB hr'), hAA⟩
 ·have hd : (err != 0) = true := by simpa using he
  obtain rfl : bs = [] := hfi he
  have e1 : (Wire.St.mk [] err).numS = ⟨[], err⟩ := by
   show (Wire.St.mk [] err).fail 2 = _
   simp [Wire.St.fail, he]
  have e2 : (Wire.St.mk [] err).numV = 0 := rfl
  rw [e1, e2]
  go_enter Tryz.func102, Tryz.ntmps102
  go_wp2_with fail
  go_ret
  exact ⟨rfl, h0, Touch.refl _ _⟩
end Go.Proofs.YtoffnfooeojhnaaGreat
namespace Go.Proofs.YtoffnfooeojhnaaGreat
open Go.RowKit
theorem numV_err {s : Wire.St} (h : s.fine) (he : s.numS.err ≠ 0) : s.numV = 0 := by
 by_cases h0 : (Wire.num s.rest).2.2 = 0
 ·have e : s.numS.err = s.err := by unfold Wire.St.numS; rw [if_pos h0]
  rw [e] at he
  have hr := h he
  rw [hr] at h0
  cases h0
 ·exact (Wire.num_bad _ h0).1
theorem fail_err {s : Wire.St} (he : s.err ≠ 0) (z : Int) : s.fail z = s := by unfold Wire.St.fail; rw [if_neg (fun h => he h.1)]
theorem uptoV_err {s : Wire.St} (h : s.fine) (m : Int) (he : (s.uptoS m).err ≠ 0) : s.uptoV m = 0 := by
 unfold Wire.St.uptoV
 unfold Wire.St.uptoS at he
 split
 ·rfl
 ·rename_i ho
  rw [if_neg ho] at he
  exact numV_err h he
theorem refInt_at (w : World) (g : Nat) (s : Wire.St) (h : Sc w g 43 s) (hfi : s.fine) :
  Calls Tryz.prog 145 #[.pointer (some ⟨g, 0, none⟩)] w (Reads w g 43 (.int .i64 (Wire.zag s.numV)) s.numS) := by
 have hn := refNum_at w g s h hfi
 have hv := Wire.num_lt s.rest
 have e : (Wire.num s.rest).1 = s.numV := rfl
 rw [e] at hv
 clear e
 generalize s.numV = v at *
 generalize s.numS = s1 at *
 have hv2 : (v : Int) <= 18446744073709551615 := by omega
 clear hv
 unfold Wire.zag
 by_cases h1 : v % 2 = 1
 ·rw [if_pos h1]
  have hd : ((v : Int) % 2 == 1) = true := by simp; omega
  clear h1
  go_enter Tryz.func145, Tryz.ntmps145
  go_wp2_with fail
  refine hn.mono ?_
  rintro e w1 ⟨rfl, hs1, ht1⟩
  go_wp2_with fail
  go_ret
  exact ⟨ret_int (by omega), hs1, ht1⟩
 ·rw [if_neg h1]
  have hd : ((v : Int) % 2 == 1) = false := by simp; omega
  clear h1
  go_enter Tryz.func145, Tryz.ntmps145
  go_wp2_with fail
  refine hn.mono ?_
  rintro e w1 ⟨rfl, hs1, ht1⟩
  go_wp2_with fail
  go_ret
  exact ⟨ret_int (by omega), hs1, ht1⟩
theorem refUpto_at (w : World) (g : Nat) (s : Wire.St) (h : Sc w g 43 s) (hfi : s.fine) (m : Int) (hm1 : -9223372036854775808 <= m) (hm2 : m <= 9223372036854775807) :
  Calls Tryz.prog 64 #[.pointer (some ⟨g, 0, none⟩), .int .i64 m] w (Reads w g 43 (.int .i64 (s.uptoV m : Int)) (s.uptoS m)) := by
 have hn := refNum_at w g s h hfi
 have hf1 := Wire.St.numS_fine hfi
 have hve := numV_err (s := s) hfi
 unfold Wire.St.uptoV Wire.St.uptoS Wire.St.over
 generalize s.numS = s1 at *
 generalize s.numV = v at *
 have HF := Lib.hid hf1
 clear hf1
 by_cases he : s1.err = 0
 ·clear hve
  have HE := Lib.hid he
  clear he
  by_cases h0 : m < 0
  ·have hd : decide (m < 0) = true := by simpa using h0
   rw [hd, Bool.true_or, if_pos rfl, if_pos rfl]
   go_enter Tryz.func64, Tryz.ntmps64
   go_wp2_with fail
   refine hn.mono ?_
   rintro e w1 ⟨rfl, hs1, ht1⟩
   have hs0 := hs1
   obtain ⟨A, n, cap, hB, l1, l2, l3, hr⟩ := hs1
   rw [HE.out] at hB
   obtain ⟨c0, c1, f0, f1⟩ := blk2 hB
   clear l1
   go_wp2_with fail
   refine (refFail_at w1 g s1 hs0 HF.out _).mono ?_
   rintro e w2 ⟨rfl, hs2, ht2⟩
   go_wp2_with fail
   go_ret
   exact ⟨rfl, hs2, ht1.trans ht2⟩
  ·obtain ⟨k, rfl⟩ := Int.eq_ofNat_of_zero_le (show 0 <= m by omega)
   have hd : decide ((k : Int) < 0) = false := by simp
   rw [hd, Bool.false_or]
   have hk : k <= 9223372036854775807 := by omega
   clear hm1 hm2 h0
   by_cases hv : k < v
   ·have hd2 : decide ((k : Int) < (v : Int)) = true := by simpa using hv
    have hd3 : decide (k < v) = true := by simpa using hv
    rw [hd2, if_pos rfl, if_pos rfl]
    go_enter Tryz.func64, Tryz.ntmps64
    go_wp2_with fail
    refine hn.mono ?_
    rintro e w1 ⟨rfl, hs1, ht1⟩
    have hs0 := hs1
    obtain ⟨A, n, cap, hB, l1, l2, l3, hr⟩ := hs1
    rw [HE.out] at hB
    obtain ⟨c0, c1, f0, f1⟩ := blk2 hB
    clear l1
    go_wp2_with fail
    refine (refFail_at w1 g s1 hs0 HF.out _).mono ?_
    rintro e w2 ⟨rfl, hs2, ht2⟩
    go_wp2_with fail
    go_ret
    exact ⟨rfl, hs2, ht1.trans ht2⟩
   ·have hd2 : decide ((k : Int) < (v : Int)) = false := by simpa using hv
    have hd3 : decide (k < v) = false := by simpa using hv
    have hv2 : v <= k := by omega
    rw [hd2, if_neg (by simp), if_neg (by simp)]
    go_enter Tryz.func64, Tryz.ntmps64
    go_wp2_with fail
    refine hn.mono ?_
    rintro e w1 ⟨rfl, hs1, ht1⟩
    have hs0 := hs1
    obtain ⟨A, n, cap, hB, l1, l2, l3, hr⟩ := hs1
    rw [HE.out] at hB
    obtain ⟨c0, c1, f0, f1⟩ := blk2 hB
    clear l1
    go_wp2_with fail
    go_ret
    exact ⟨rfl, hs0, ht1⟩
 ·obtain rfl := hve he
  clear hve
  have e1 : ∀ b : Bool, (if b = true then s1.fail 4 else s1) = s1 := fun b => by cases b <;> simp [fail_err he]
  have e2 : ∀ b : Bool, (if b = true then 0 else 0) = (0 : Nat) := fun b => by cases b <;> rfl
  rw [e1, e2]
  have hd : (s1.err == 0) = false := by simpa using he
  clear e1 e2 he
  go_enter Tryz.func64, Tryz.ntmps64
  go_wp2_with fail
  refine hn.mono ?_
  rintro e w1 ⟨rfl, hs1, ht1⟩
  have hs0 := hs1
  obtain ⟨A, n, cap, hB, l1, l2, l3, hr⟩ := hs1
  obtain ⟨c0, c1, f0, f1⟩ := blk2 hB
  clear l1
  go_wp2_with fail
  go_ret
  exact ⟨rfl, hs0, ht1⟩
theorem refText_at (w : World) (g : Nat) (s : Wire.St) (h : Sc w g 43 s) (hfi : s.fine) (m : Int) (hm1 : -9223372036854775808 <= m) (hm2 : m <= 9223372036854775807) :
  Calls Tryz.prog 103 #[.pointer (some ⟨g, 0, none⟩), .int .i64 m] w (Reads w g 43 (.string ⟨(s.textV m).toArray⟩) (s.textS m)) := by
 have hu := refUpto_at w g s h hfi m hm1 hm2
 have hf1 := Wire.St.uptoS_fine hfi m
 have hve := uptoV_err (s := s) hfi m
 unfold Wire.St.textV Wire.St.textS
 have hk : s.uptoV m <= 9223372036854775807 := by
  unfold Wire.St.uptoV Wire.St.over
  split
  ·omega
  ·rename_i h
   simp at h
   omega
 generalize s.uptoS m = s1 at *
 generalize s.uptoV m = k at *
 have HF := Lib.hid hf1
 clear hf1
 by_cases he : s1.err = 0
 ·clear hve
  have HE := Lib.hid he
  clear he
  by_cases hlt : s1.rest.length < k
  ·rw [if_pos hlt, if_pos hlt]
   go_enter Tryz.func103, Tryz.ntmps103
   go_wp2_with fail
   refine hu.mono ?_
   rintro e w1 ⟨rfl, hs1, ht1⟩
   have hs0 := hs1
   obtain ⟨A, n, cap, hB, h1, h2, h3, hr, ha⟩ := hs1
   rw [HE.out] at hB
   obtain ⟨c0, c1, f0, f1⟩ := blk2 hB
   rw [h1] at hlt
   clear h1
   have hd : decide (n < k) = true := by simpa using hlt
   go_wp2_with fail
   refine (refFail_at w1 g s1 hs0 HF.out _).mono ?_
   rintro e w2 ⟨rfl, hs2, ht2⟩
   have hs02 := hs2
   obtain ⟨A', n', cap', hB', h1', h2', h3', hr'⟩ := hs2
   have hfe : (s1.fail 2).err = 2 := by unfold Wire.St.fail; rw [if_pos ⟨HE.out, by decide⟩]
   rw [hfe] at hB'
   obtain ⟨c0', c1', f0', f1'⟩ := blk2 hB'
   clear h1' hfe c0 c1 f0 f1 hB
   go_wp2_with fail
   go_ret
   exact ⟨rfl, hs02, ht1.trans ht2⟩
  ·rw [if_neg hlt, if_neg hlt]
   go_enter Tryz.func103, Tryz.ntmps103
   go_wp2_with fail
   refine hu.mono ?_
   rintro e w1 ⟨rfl, hs1, ht1⟩
   obtain ⟨A, n, cap, hB, h1, h2, h3, hr, ha⟩ := hs1
   rw [HE.out] at hB
   obtain ⟨c0, c1, f0, f1⟩ := blk2 hB
   rw [h1] at hlt
   have HL := Lib.hid h1
   clear h1
   have hd : decide (n < k) = false := by simpa using hlt
   have hkn : k <= n := by omega
   obtain ⟨A', hcut, hr', hAA⟩ := run_cutH (g := g) hr HL.out hkn h2 ha
   have hhd := run_head A n cap k hkn h2
   have hst := run_str (P := Tryz.prog) w1 A (s1.rest.take k) k cap (hr.take k) (by rw [List.length_take, HL.out]; omega) 24 5 9 Tryz.underlying24 Tryz.underlying5 Tryz.underlying9
   have HK := Lib.hid hkn
   clear hkn hlt
   go_wp2_with fail
   go_ret
   refine ⟨rfl, ?_, ht1.set_ _ _⟩
   have hT : Touch g w1 (w1.setCell ⟨g, 0, none⟩ (.slice A' (n - k) (cap - k))) := (Touch.refl _ _).set_ _ _
   refine ⟨A', n - k, cap - k, ?_, by simp [HL.out], by have := HK.out; omega, by omega, hT.rd hr' (rd_apart hB hr'), hAA⟩
   simp only [HE.out]
   exact hB.put 0 _
 ·obtain rfl := hve he
  clear hve
  have hrest := HF.out he
  have hd : (s1.err == 0) = false := by simpa using he
  have hd2 : (s1.err != 0) = true := by simpa using he
  obtain ⟨rest, err⟩ := s1
  simp only at hrest hd hd2
  subst hrest
  rw [if_neg (by simp), if_neg (by simp)]
  simp only [List.take_zero, List.drop_zero]
  clear he
  go_enter Tryz.func103, Tryz.ntmps103
  go_wp2_with fail
  refine hu.mono ?_
  rintro e w1 ⟨rfl, hs1, ht1⟩
  have hs0 := hs1
  obtain ⟨A, n, cap, hB, h1, h2, h3, hr, ha⟩ := hs1
  obtain ⟨c0, c1, f0, f1⟩ := blk2 hB
  simp only at c1
  clear h1
  go_wp2_with fail
  go_ret
  exact ⟨rfl, hs0, ht1⟩
end Go.Proofs.YtoffnfooeojhnaaGreat
namespace Go.Proofs.YtoffnfooeojhnaaGreat
open Go.RowKit
theorem refUpto_is (w : World) (g : Nat) (s s' : Wire.St) (v : Nat) (h : Sc w g 43 s) (hfi : s.fine) (m : Int) (hm1 : -9223372036854775808 <= m) (hm2 : m <= 9223372036854775807) (hv : s.uptoV m = v) (hs : s.uptoS m = s') :
  Calls Tryz.prog 64 #[.pointer (some ⟨g, 0, none⟩), .int .i64 m] w (Reads w g 43 (.int .i64 (v : Int)) s') := by
 subst hv; subst hs; exact refUpto_at w g s h hfi m hm1 hm2
theorem Sc.intro {w : World} {g : Nat} {t : TypeId} {s : Wire.St} {A : Option Addr} {n cap : Nat} (hB : Blk w g t #[.slice A n cap, .int .i64 s.err]) (h : s.rest.length = n /\ n <= cap /\ cap <= 140737488355328 /\ Rd w A s.rest /\ Ahd A g) : Sc w g t s := ⟨A, n, cap, hB, h⟩
theorem rvget_int (w : World) (g : Nat) (s : Wire.St) (h : Sc w g 43 s) (hfi : s.fine) (hv : s.uptoV 3 = 1) (K I : Int) (Tx : List UInt8) (s' : Wire.St) (hK : Vals.getK s = K) (hI : Vals.getI s = I) (hTx : Vals.getT s = Tx) (hs' : Vals.getS s = s') :
  Calls Tryz.prog 104 #[.pointer (some ⟨g, 0, none⟩)] w (Reads w g 43 (.agg (vC K I Tx.toArray)) s') := by
 have HV := Lib.hid hv
 have HK := Lib.hid hK
 have HI := Lib.hid hI
 have HT := Lib.hid hTx
 have eS : Hid (Vals.getS s = (s.uptoS 3).numS) := by show _ = _; unfold Vals.getS; rw [HV.out]; rfl
 obtain rfl := eS.out.symm.trans hs'
 clear hv hK hI hTx hs'
 have hfi1 := Wire.St.uptoS_fine hfi 3
 have hg := h.lt
 have h0 := h.below ((Below.refl _ _).alloc (Nat.le_refl _) (.cells (vC 0 0 #[]) 33))
 obtain ⟨hB, hb0⟩ := box3 w 33 (.int .i64 0) (.int .i64 0) (.string ⟨#[]⟩)
 go_enter Tryz.func104, Tryz.ntmps104
 go_wp2_with fail
 generalize w.alloc (.cells (vC 0 0 #[]) 33) = w0 at *
 refine (refUpto_is _ g s _ 1 h0 hfi 3 (by decide) (by decide) HV.out rfl).mono ?_
 rintro e w1 ⟨rfl, h1, hT1⟩
 have hR1 := hT1.blk hB (by omega)
 have hT1w := (Touch.of_below (g := g) hb0).trans hT1
 go_wp2_with fail
 obtain ⟨hB2, hb2⟩ := box3 w1 33 (.int .i64 1) (.int .i64 0) (.string ⟨#[]⟩)
 have hgw1 : w.heap.size <= w1.heap.size := hT1w.size
 have hne : w.heap.size ≠ w1.heap.size := by have := hR1.lt; omega
 have hgv : g ≠ w1.heap.size := by omega
 have h2 := h1.below hb2
 have hR2 := hR1.below hb2 hR1.lt
 have hT2w := hT1w.trans (Touch.of_below (g := g) hb2)
 generalize w1.alloc (.cells (vC 1 0 #[]) 33) = w2 at *
 clear hB h h0 hb0 hT1 hR1 hT1w h1 hb2
 refine (refInt_at w2 g _ h2 hfi1).mono ?_
 rintro e w3 ⟨rfl, h3, hT3⟩
 have hB3 := hT3.blk hB2 (by omega)
 have hR3 := hT3.blk hR2 (by omega)
 have hT3w := hT2w.trans hT3
 clear hB2 hR2 hT2w hT3 h2
 obtain ⟨d0, d1, d2, e0, e1, e2⟩ := blk3 hB3
 have hB3v := hB3.put 1 (.int .i64 (Wire.zag (s.uptoS 3).numV))
 have h3' := h3.far3 hB3 hgv 1 (.int .i64 (Wire.zag (s.uptoS 3).numV))
 simp only [List.setIfInBounds_toArray, List.set_cons_zero, List.set_cons_succ] at hB3v
 have hT3' := hT3w.new_ (j := 1) (v := (.int .i64 (Wire.zag (s.uptoS 3).numV))) hgw1
 have hR3' := hR3.far (p := ⟨w1.heap.size, 1, none⟩) hne (.int .i64 (Wire.zag (s.uptoS 3).numV))
 obtain ⟨A', n', cap', hG, hG'⟩ := h3'
 have h3' := Sc.intro hG hG'
 obtain ⟨_, s1, _, _⟩ := blk2 hG
 obtain ⟨v0, v1, v2, _, _, _⟩ := blk3 hB3v
 obtain ⟨r0, r1, r2, k0, k1, k2⟩ := blk3 hR3'
 clear hB3 hT3w hR3 h3 hG hG' hB3v
 by_cases hz : ((s.uptoS 3).numS).err = 0
 ·have HZ : Hid (((s.uptoS 3).numS).err = 0) := hz
  rw [hz] at s1
  clear hz
  obtain rfl : (1 : Int) = K := by rw [<- HK.out]; unfold Vals.getK; rw [eS.out, if_pos HZ.out, HV.out]; rfl
  obtain rfl : (Wire.zag (s.uptoS 3).numV) = I := by rw [<- HI.out]; unfold Vals.getI; rw [eS.out, if_pos HZ.out, HV.out]; rfl
  obtain rfl : [] = Tx := by rw [<- HT.out]; unfold Vals.getT; rw [eS.out, if_pos HZ.out, HV.out]; rfl
  go_wp2_with fail
  refine bodyPost_ret (v := .agg #[(.int .i64 1), (.int .i64 (Wire.zag (s.uptoS 3).numV)), (.string ⟨#[]⟩)]) (by simp [results, Tryz.results104, go_sem, r0, r1, r2]) rfl ?_
  exact ⟨rfl, h3'.set3 hR3' (by omega), hT3'.set3 (Nat.le_refl _) _ _ _⟩
 ·have HZ : Hid (((s.uptoS 3).numS).err ≠ 0) := hz
  have hd : ((((s.uptoS 3).numS).err) != 0) = true := by simpa using hz
  clear hz
  obtain rfl : (0 : Int) = K := by rw [<- HK.out]; unfold Vals.getK; rw [eS.out, if_neg HZ.out]
  obtain rfl : (0 : Int) = I := by rw [<- HI.out]; unfold Vals.getI; rw [eS.out, if_neg HZ.out]
  obtain rfl : [] = Tx := by rw [<- HT.out]; unfold Vals.getT; rw [eS.out, if_neg HZ.out]
  go_wp2_with fail
  refine bodyPost_ret (v := .agg (vC 0 0 #[])) (by simp [results, Tryz.results104, go_sem, r0, r1, r2]) rfl ?_
  exact ⟨rfl, h3'.set3 hR3' (by omega), hT3'.set3 (Nat.le_refl _) _ _ _⟩
theorem rvget_text (w : World) (g : Nat) (s : Wire.St) (h : Sc w g 43 s) (hfi : s.fine) (hv : s.uptoV 3 = 2) (K I : Int) (Tx : List UInt8) (s' : Wire.St) (hK : Vals.getK s = K) (hI : Vals.getI s = I) (hTx : Vals.getT s = Tx) (hs' : Vals.getS s = s') :
  Calls Tryz.prog 104 #[.pointer (some ⟨g, 0, none⟩)] w (Reads w g 43 (.agg (vC K I Tx.toArray)) s') := by
 have HV := Lib.hid hv
 have HK := Lib.hid hK
 have HI := Lib.hid hI
 have HT := Lib.hid hTx
 have eS : Hid (Vals.getS s = (s.uptoS 3).textS 64) := by show _ = _; unfold Vals.getS; rw [HV.out]; rfl
 obtain rfl := eS.out.symm.trans hs'
 clear hv hK hI hTx hs'
 have hfi1 := Wire.St.uptoS_fine hfi 3
 have hg := h.lt
 have h0 := h.below ((Below.refl _ _).alloc (Nat.le_refl _) (.cells (vC 0 0 #[]) 33))
 obtain ⟨hB, hb0⟩ := box3 w 33 (.int .i64 0) (.int .i64 0) (.string ⟨#[]⟩)
 go_enter Tryz.func104, Tryz.ntmps104
 go_wp2_with fail
 generalize w.alloc (.cells (vC 0 0 #[]) 33) = w0 at *
 refine (refUpto_is _ g s _ 2 h0 hfi 3 (by decide) (by decide) HV.out rfl).mono ?_
 rintro e w1 ⟨rfl, h1, hT1⟩
 have hR1 := hT1.blk hB (by omega)
 have hT1w := (Touch.of_below (g := g) hb0).trans hT1
 go_wp2_with fail
 obtain ⟨hB2, hb2⟩ := box3 w1 33 (.int .i64 2) (.int .i64 0) (.string ⟨#[]⟩)
 have hgw1 : w.heap.size <= w1.heap.size := hT1w.size
 have hne : w.heap.size ≠ w1.heap.size := by have := hR1.lt; omega
 have hgv : g ≠ w1.heap.size := by omega
 have h2 := h1.below hb2
 have hR2 := hR1.below hb2 hR1.lt
 have hT2w := hT1w.trans (Touch.of_below (g := g) hb2)
 generalize w1.alloc (.cells (vC 2 0 #[]) 33) = w2 at *
 clear hB h h0 hb0 hT1 hR1 hT1w h1 hb2
 refine (refText_at w2 g _ h2 hfi1 64 (by decide) (by decide)).mono ?_
 rintro e w3 ⟨rfl, h3, hT3⟩
 have hB3 := hT3.blk hB2 (by omega)
 have hR3 := hT3.blk hR2 (by omega)
 have hT3w := hT2w.trans hT3
 clear hB2 hR2 hT2w hT3 h2
 obtain ⟨d0, d1, d2, e0, e1, e2⟩ := blk3 hB3
 have hB3v := hB3.put 2 (.string ⟨((s.uptoS 3).textV 64).toArray⟩)
 have h3' := h3.far3 hB3 hgv 2 (.string ⟨((s.uptoS 3).textV 64).toArray⟩)
 simp only [List.setIfInBounds_toArray, List.set_cons_zero, List.set_cons_succ] at hB3v
 have hT3' := hT3w.new_ (j := 2) (v := (.string ⟨((s.uptoS 3).textV 64).toArray⟩)) hgw1
 have hR3' := hR3.far (p := ⟨w1.heap.size, 2, none⟩) hne (.string ⟨((s.uptoS 3).textV 64).toArray⟩)
 obtain ⟨A', n', cap', hG, hG'⟩ := h3'
 have h3' := Sc.intro hG hG'
 obtain ⟨_, s1, _, _⟩ := blk2 hG
 obtain ⟨v0, v1, v2, _, _, _⟩ := blk3 hB3v
 obtain ⟨r0, r1, r2, k0, k1, k2⟩ := blk3 hR3'
 clear hB3 hT3w hR3 h3 hG hG' hB3v
 by_cases hz : ((s.uptoS 3).textS 64).err = 0
 ·have HZ : Hid (((s.uptoS 3).textS 64).err = 0) := hz
  rw [hz] at s1
  clear hz
  obtain rfl : (2 : Int) = K := by rw [<- HK.out]; unfold Vals.getK; rw [eS.out, if_pos HZ.out, HV.out]; rfl
  obtain rfl : (0 : Int) = I := by rw [<- HI.out]; unfold Vals.getI; rw [eS.out, if_pos HZ.out, HV.out]; rfl
  obtain rfl : ((s.uptoS 3).textV 64) = Tx := by rw [<- HT.out]; unfold Vals.getT; rw [eS.out, if_pos HZ.out, HV.out]; rfl
  go_wp2_with fail
  refine bodyPost_ret (v := .agg #[(.int .i64 2), (.int .i64 0), (.string ⟨((s.uptoS 3).textV 64).toArray⟩)]) (by simp [results, Tryz.results104, go_sem, r0, r1, r2]) rfl ?_
  exact ⟨rfl, h3'.set3 hR3' (by omega), hT3'.set3 (Nat.le_refl _) _ _ _⟩
 ·have HZ : Hid (((s.uptoS 3).textS 64).err ≠ 0) := hz
  have hd : ((((s.uptoS 3).textS 64).err) != 0) = true := by simpa using hz
  clear hz
  obtain rfl : (0 : Int) = K := by rw [<- HK.out]; unfold Vals.getK; rw [eS.out, if_neg HZ.out]
  obtain rfl : (0 : Int) = I := by rw [<- HI.out]; unfold Vals.getI; rw [eS.out, if_neg HZ.out]
  obtain rfl : [] = Tx := by rw [<- HT.out]; unfold Vals.getT; rw [eS.out, if_neg HZ.out]
  go_wp2_with fail
  refine bodyPost_ret (v := .agg (vC 0 0 #[])) (by simp [results, Tryz.results104, go_sem, r0, r1, r2]) rfl ?_
  exact ⟨rfl, h3'.set3 hR3' (by omega), hT3'.set3 (Nat.le_refl _) _ _ _⟩
theorem rvget_bool (w : World) (g : Nat) (s : Wire.St) (h : Sc w g 43 s) (hfi : s.fine) (hv : s.uptoV 3 = 3) (K I : Int) (Tx : List UInt8) (s' : Wire.St) (hK : Vals.getK s = K) (hI : Vals.getI s = I) (hTx : Vals.getT s = Tx) (hs' : Vals.getS s = s') :
  Calls Tryz.prog 104 #[.pointer (some ⟨g, 0, none⟩)] w (Reads w g 43 (.agg (vC K I Tx.toArray)) s') := by
 have HV := Lib.hid hv
 have HK := Lib.hid hK
 have HI := Lib.hid hI
 have HT := Lib.hid hTx
 have eS : Hid (Vals.getS s = (s.uptoS 3).uptoS 1) := by show _ = _; unfold Vals.getS; rw [HV.out]; rfl
 obtain rfl := eS.out.symm.trans hs'
 clear hv hK hI hTx hs'
 have hfi1 := Wire.St.uptoS_fine hfi 3
 have hg := h.lt
 have h0 := h.below ((Below.refl _ _).alloc (Nat.le_refl _) (.cells (vC 0 0 #[]) 33))
 obtain ⟨hB, hb0⟩ := box3 w 33 (.int .i64 0) (.int .i64 0) (.string ⟨#[]⟩)
 go_enter Tryz.func104, Tryz.ntmps104
 go_wp2_with fail
 generalize w.alloc (.cells (vC 0 0 #[]) 33) = w0 at *
 refine (refUpto_is _ g s _ 3 h0 hfi 3 (by decide) (by decide) HV.out rfl).mono ?_
 rintro e w1 ⟨rfl, h1, hT1⟩
 have hR1 := hT1.blk hB (by omega)
 have hT1w := (Touch.of_below (g := g) hb0).trans hT1
 go_wp2_with fail
 obtain ⟨hB2, hb2⟩ := box3 w1 33 (.int .i64 3) (.int .i64 0) (.string ⟨#[]⟩)
 have hgw1 : w.heap.size <= w1.heap.size := hT1w.size
 have hne : w.heap.size ≠ w1.heap.size := by have := hR1.lt; omega
 have hgv : g ≠ w1.heap.size := by omega
 have h2 := h1.below hb2
 have hR2 := hR1.below hb2 hR1.lt
 have hT2w := hT1w.trans (Touch.of_below (g := g) hb2)
 generalize w1.alloc (.cells (vC 3 0 #[]) 33) = w2 at *
 clear hB h h0 hb0 hT1 hR1 hT1w h1 hb2
 refine (refUpto_at w2 g _ h2 hfi1 1 (by decide) (by decide)).mono ?_
 rintro e w3 ⟨rfl, h3, hT3⟩
 have hB3 := hT3.blk hB2 (by omega)
 have hR3 := hT3.blk hR2 (by omega)
 have hT3w := hT2w.trans hT3
 clear hB2 hR2 hT2w hT3 h2
 obtain ⟨d0, d1, d2, e0, e1, e2⟩ := blk3 hB3
 have hB3v := hB3.put 1 (.int .i64 ((s.uptoS 3).uptoV 1 : Int))
 have h3' := h3.far3 hB3 hgv 1 (.int .i64 ((s.uptoS 3).uptoV 1 : Int))
 simp only [List.setIfInBounds_toArray, List.set_cons_zero, List.set_cons_succ] at hB3v
 have hT3' := hT3w.new_ (j := 1) (v := (.int .i64 ((s.uptoS 3).uptoV 1 : Int))) hgw1
 have hR3' := hR3.far (p := ⟨w1.heap.size, 1, none⟩) hne (.int .i64 ((s.uptoS 3).uptoV 1 : Int))
 obtain ⟨A', n', cap', hG, hG'⟩ := h3'
 have h3' := Sc.intro hG hG'
 obtain ⟨_, s1, _, _⟩ := blk2 hG
 obtain ⟨v0, v1, v2, _, _, _⟩ := blk3 hB3v
 obtain ⟨r0, r1, r2, k0, k1, k2⟩ := blk3 hR3'
 clear hB3 hT3w hR3 h3 hG hG' hB3v
 by_cases hz : ((s.uptoS 3).uptoS 1).err = 0
 ·have HZ : Hid (((s.uptoS 3).uptoS 1).err = 0) := hz
  rw [hz] at s1
  clear hz
  obtain rfl : (3 : Int) = K := by rw [<- HK.out]; unfold Vals.getK; rw [eS.out, if_pos HZ.out, HV.out]; rfl
  obtain rfl : ((s.uptoS 3).uptoV 1 : Int) = I := by rw [<- HI.out]; unfold Vals.getI; rw [eS.out, if_pos HZ.out, HV.out]; rfl
  obtain rfl : [] = Tx := by rw [<- HT.out]; unfold Vals.getT; rw [eS.out, if_pos HZ.out, HV.out]; rfl
  go_wp2_with fail
  refine bodyPost_ret (v := .agg #[(.int .i64 3), (.int .i64 ((s.uptoS 3).uptoV 1 : Int)), (.string ⟨#[]⟩)]) (by simp [results, Tryz.results104, go_sem, r0, r1, r2]) rfl ?_
  exact ⟨rfl, h3'.set3 hR3' (by omega), hT3'.set3 (Nat.le_refl _) _ _ _⟩
 ·have HZ : Hid (((s.uptoS 3).uptoS 1).err ≠ 0) := hz
  have hd : ((((s.uptoS 3).uptoS 1).err) != 0) = true := by simpa using hz
  clear hz
  obtain rfl : (0 : Int) = K := by rw [<- HK.out]; unfold Vals.getK; rw [eS.out, if_neg HZ.out]
  obtain rfl : (0 : Int) = I := by rw [<- HI.out]; unfold Vals.getI; rw [eS.out, if_neg HZ.out]
  obtain rfl : [] = Tx := by rw [<- HT.out]; unfold Vals.getT; rw [eS.out, if_neg HZ.out]
  go_wp2_with fail
  refine bodyPost_ret (v := .agg (vC 0 0 #[])) (by simp [results, Tryz.results104, go_sem, r0, r1, r2]) rfl ?_
  exact ⟨rfl, h3'.set3 hR3' (by omega), hT3'.set3 (Nat.le_refl _) _ _ _⟩
theorem rvget_none (w : World) (g : Nat) (s : Wire.St) (h : Sc w g 43 s) (hfi : s.fine) (hv : s.uptoV 3 = 0) (K I : Int) (Tx : List UInt8) (s' : Wire.St) (hK : Vals.getK s = K) (hI : Vals.getI s = I) (hTx : Vals.getT s = Tx) (hs' : Vals.getS s = s') :
  Calls Tryz.prog 104 #[.pointer (some ⟨g, 0, none⟩)] w (Reads w g 43 (.agg (vC K I Tx.toArray)) s') := by
 have HV := Lib.hid hv
 have HK := Lib.hid hK
 have HI := Lib.hid hI
 have HT := Lib.hid hTx
 have eS : Hid (Vals.getS s = (s.uptoS 3).fail 3) := by show _ = _; unfold Vals.getS; rw [HV.out]; rfl
 have HZ0 : Hid (((s.uptoS 3).fail 3).err ≠ 0) := by show _ ≠ _; unfold Wire.St.fail; split <;> simp_all
 obtain rfl := eS.out.symm.trans hs'
 clear hv hK hI hTx hs'
 have hfi1 := Wire.St.uptoS_fine hfi 3
 have hg := h.lt
 have h0 := h.below ((Below.refl _ _).alloc (Nat.le_refl _) (.cells (vC 0 0 #[]) 33))
 obtain ⟨hB, hb0⟩ := box3 w 33 (.int .i64 0) (.int .i64 0) (.string ⟨#[]⟩)
 go_enter Tryz.func104, Tryz.ntmps104
 go_wp2_with fail
 generalize w.alloc (.cells (vC 0 0 #[]) 33) = w0 at *
 refine (refUpto_is _ g s _ 0 h0 hfi 3 (by decide) (by decide) HV.out rfl).mono ?_
 rintro e w1 ⟨rfl, h1, hT1⟩
 have hR1 := hT1.blk hB (by omega)
 have hT1w := (Touch.of_below (g := g) hb0).trans hT1
 go_wp2_with fail
 obtain ⟨hB2, hb2⟩ := box3 w1 33 (.int .i64 0) (.int .i64 0) (.string ⟨#[]⟩)
 have hgw1 : w.heap.size <= w1.heap.size := hT1w.size
 have hne : w.heap.size ≠ w1.heap.size := by have := hR1.lt; omega
 have hgv : g ≠ w1.heap.size := by omega
 have h2 := h1.below hb2
 have hR2 := hR1.below hb2 hR1.lt
 have hT2w := hT1w.trans (Touch.of_below (g := g) hb2)
 generalize w1.alloc (.cells (vC 0 0 #[]) 33) = w2 at *
 clear hB h h0 hb0 hT1 hR1 hT1w h1 hb2
 refine (refFail_at w2 g _ h2 hfi1 3).mono ?_
 rintro e w3 ⟨rfl, h3, hT3⟩
 have hB3 := hT3.blk hB2 (by omega)
 have hR3 := hT3.blk hR2 (by omega)
 have hT3w := hT2w.trans hT3
 clear hB2 hR2 hT2w hT3 h2
 obtain ⟨d0, d1, d2, e0, e1, e2⟩ := blk3 hB3
 have hB3v := hB3
 have hT3' := hT3w
 have hR3' := hR3
 have h3' := h3
 obtain ⟨A', n', cap', hG, hG'⟩ := h3'
 have h3' := Sc.intro hG hG'
 obtain ⟨_, s1, _, _⟩ := blk2 hG
 obtain ⟨v0, v1, v2, _, _, _⟩ := blk3 hB3v
 obtain ⟨r0, r1, r2, k0, k1, k2⟩ := blk3 hR3'
 clear hB3 hT3w hR3 h3 hG hG' hB3v
 by_cases hz : ((s.uptoS 3).fail 3).err = 0
 ·exact absurd hz HZ0.out
 ·have HZ : Hid (((s.uptoS 3).fail 3).err ≠ 0) := hz
  have hd : ((((s.uptoS 3).fail 3).err) != 0) = true := by simpa using hz
  clear hz
  obtain rfl : (0 : Int) = K := by rw [<- HK.out]; unfold Vals.getK; rw [eS.out, if_neg HZ.out]
  obtain rfl : (0 : Int) = I := by rw [<- HI.out]; unfold Vals.getI; rw [eS.out, if_neg HZ.out]
  obtain rfl : [] = Tx := by rw [<- HT.out]; unfold Vals.getT; rw [eS.out, if_neg HZ.out]
  go_wp2_with fail
  refine bodyPost_ret (v := .agg (vC 0 0 #[])) (by simp [results, Tryz.results104, go_sem, r0, r1, r2]) rfl ?_
  exact ⟨rfl, h3'.set3 hR3' (by omega), hT3'.set3 (Nat.le_refl _) _ _ _⟩
theorem rvget_at (w : World) (g : Nat) (s : Wire.St) (h : Sc w g 43 s) (hfi : s.fine) (K I : Int) (Tx : List UInt8) (s' : Wire.St) (hK : Vals.getK s = K) (hI : Vals.getI s = I) (hTx : Vals.getT s = Tx) (hs' : Vals.getS s = s') :
  Calls Tryz.prog 104 #[.pointer (some ⟨g, 0, none⟩)] w (Reads w g 43 (.agg (vC K I Tx.toArray)) s') := by
 rcases upto3 s with hv | hv | hv | hv
 ·exact rvget_none w g s h hfi hv K I Tx s' hK hI hTx hs'
 ·exact rvget_int w g s h hfi hv K I Tx s' hK hI hTx hs'
 ·exact rvget_text w g s h hfi hv K I Tx s' hK hI hTx hs'
 ·exact rvget_bool w g s h hfi hv K I Tx s' hK hI hTx hs'
end Go.Proofs.YtoffnfooeojhnaaGreat
namespace Go.Proofs.YtoffnfooeojhnaaGreat
open Go.RowKit
structure PG (w wx : World) (g b : Nat) (s : Wire.St) (n : List UInt8) (o k i : Int) (t : List UInt8) : Prop where
 sc : Sc wx g 43 s
 c : Blk wx b 35 (pC n.toArray o k i t.toArray)
 r : Blk wx w.heap.size 35 (pC #[] 0 0 0 #[])
 t : Touch g w wx
 g1 : g < w.heap.size
 g2 : w.heap.size < b
theorem PG.step {w wx wy : World} {g b : Nat} {s s' : Wire.St} {n : List UInt8} {o k i : Int} {t : List UInt8} (h : PG w wx g b s n o k i t) (hS : Sc wy g 43 s') (hT : Touch g wx wy) : PG w wy g b s' n o k i t :=
 ⟨hS, hT.blk h.c (by have := h.g1; have := h.g2; omega), hT.blk h.r (by have := h.g1; omega), h.t.trans hT, h.g1, h.g2⟩
theorem PG.to {w wx : World} {g b : Nat} {s s' : Wire.St} {n : List UInt8} {o k i o' k' i' : Int} {t t' : List UInt8} (h : PG w wx g b s n o k i t) (e : s = s') (e1 : o = o') (e2 : k = k') (e3 : i = i') (e4 : t = t') : PG w wx g b s' n o' k' i' t' := by
 subst e e1 e2 e3 e4; exact h
theorem PG.op {w wx : World} {g b : Nat} {s : Wire.St} {n : List UInt8} {o k i : Int} {t : List UInt8} (h : PG w wx g b s n o k i t) (o' : Int) : PG w (wx.setCell ⟨b, 1, none⟩ (.int .i64 o')) g b s n o' k i t := by
 have hC := h.c.put 1 (.int .i64 o')
 simp only [List.setIfInBounds_toArray, List.set_cons_zero, List.set_cons_succ] at hC
 exact ⟨h.sc.farN h.c (noByte5 _ _ _ _ _) (by have := h.g1; have := h.g2; omega) 1 _, hC, h.r.far (p := ⟨b, 1, none⟩) (by have := h.g2; show w.heap.size ≠ b; omega) _, h.t.new_ (j := 1) (by have := h.g2; omega), h.g1, h.g2⟩
theorem PG.val {w wx : World} {g b : Nat} {s : Wire.St} {n : List UInt8} {o k i : Int} {t : List UInt8} (h : PG w wx g b s n o k i t) (k' i' : Int) (t' : List UInt8) : PG w (setV wx b k' i' ⟨t'.toArray⟩) g b s n o k' i' t' :=
 ⟨h.sc.setV_ h.c (noByte5 _ _ _ _ _) (by have := h.g1; have := h.g2; omega) k' i' _, h.c.setV_ k' i' _, h.r.farV (by have := h.g2; omega) k' i' _, h.t.setV_ (by have := h.g2; omega) k' i' _, h.g1, h.g2⟩
theorem rpget_at (w : World) (g : Nat) (s : Wire.St) (h : Sc w g 43 s) (hfi : s.fine) (N : List UInt8) (O K I : Int) (Tx : List UInt8) (s' : Wire.St) (hN : Preds.getN s = N) (hO : Preds.getO s = O) (hK : Preds.getK s = K) (hI : Preds.getI s = I) (hTx : Preds.getT s = Tx) (hs' : Preds.getS s = s') :
  Calls Tryz.prog 65 #[.pointer (some ⟨g, 0, none⟩)] w (Reads w g 43 (.agg (pC N.toArray O K I Tx.toArray)) s') := by
 have HG : Hid ((Preds.getS s).err = 0 -> s.textV 16 = N /\ (Preds.rawO s : Int) = O /\ Preds.rawK s = K /\ Preds.rawI s = I /\ Preds.rawT s = Tx) := fun hz => by
  obtain ⟨g1, g2, g3, g4, g5⟩ := Preds.get_good s hz
  exact ⟨g1.symm.trans hN, g2.symm.trans hO, g3.symm.trans hK, g4.symm.trans hI, g5.symm.trans hTx⟩
 have HBD : Hid ((Preds.getS s).err ≠ 0 -> [] = N /\ 0 = O /\ 0 = K /\ 0 = I /\ [] = Tx) := fun hz => by
  obtain ⟨g1, g2, g3, g4, g5⟩ := Preds.get_bad s hz
  exact ⟨g1.symm.trans hN, g2.symm.trans hO, g3.symm.trans hK, g4.symm.trans hI, g5.symm.trans hTx⟩
 have hR := Preds.rawO_le s
 have fN := Lib.hid (Preds.nameS_fine hfi)
 have fO : Hid ((Preds.behind s).fine) := Preds.opS_fine (Preds.nameS_fine hfi)
 have fT := Lib.hid (Wire.St.textS_fine hfi 16)
 have fU := Lib.hid (Wire.St.uptoS_fine fN.out 8)
 have fV := Lib.hid (Vals.getS_fine fO.out)
 have hl := vgetT_le (Preds.behind s)
 obtain ⟨nm, hnm⟩ : ∃ nm, Hid (s.textV 16 = nm) := ⟨_, rfl⟩
 obtain ⟨q, hq⟩ : ∃ q, Hid (Preds.rawO s = q) := ⟨_, rfl⟩
 obtain ⟨s1, es1⟩ : ∃ x, Hid (s.textS 16 = x) := ⟨_, rfl⟩
 obtain ⟨s2, es2⟩ : ∃ x, Hid (Preds.nameS s = x) := ⟨_, rfl⟩
 obtain ⟨s3, es3⟩ : ∃ x, Hid (s2.uptoS 8 = x) := ⟨_, rfl⟩
 obtain ⟨s4, es4⟩ : ∃ x, Hid (Preds.behind s = x) := ⟨_, rfl⟩
 obtain ⟨s5, es5⟩ : ∃ x, Hid ((if q = 8 then s4 else Vals.getS s4) = x) := ⟨_, rfl⟩
 obtain ⟨k, hk⟩ : ∃ x, Hid (Preds.rawK s = x) := ⟨_, rfl⟩
 obtain ⟨i, hi⟩ : ∃ x, Hid (Preds.rawI s = x) := ⟨_, rfl⟩
 obtain ⟨t, ht⟩ : ∃ x, Hid (Preds.rawT s = x) := ⟨_, rfl⟩
 have hx := fun w0 h0 => refText_at w0 g s h0 hfi 16 (by decide) (by decide)
 have hy := fun w0 h0 => refUpto_is w0 g s2 s3 q h0 (es2.out ▸ fN.out) 8 (by decide) (by decide) (by rw [<- es2.out]; exact hq.out) es3.out
 have hv := fun w0 h0 => rvget_at w0 g s4 h0 (es4.out ▸ fO.out) _ _ _ _ rfl rfl rfl rfl
 have E2 : Hid (s2 = if nm = [] then s1.fail 3 else s1) := by show _ = _; rw [<- es2.out, <- hnm.out, <- es1.out]; rfl
 have E4 : Hid (s4 = if q = 0 then s3.fail 3 else s3) := by show _ = _; rw [<- es4.out, <- es3.out, <- hq.out, <- es2.out]; rfl
 have EK : Hid (k = if q = 8 then 0 else Vals.getK s4) := by show _ = _; rw [<- hk.out, <- hq.out, <- es4.out]; rfl
 have EI : Hid (i = if q = 8 then 0 else Vals.getI s4) := by show _ = _; rw [<- hi.out, <- hq.out, <- es4.out]; rfl
 have ET : Hid (t = if q = 8 then [] else Vals.getT s4) := by show _ = _; rw [<- ht.out, <- hq.out, <- es4.out]; rfl
 have E6 : Hid (s' = if Preds.wrong q k t then s5.fail 3 else s5) := by
  show _ = _
  rw [EK.out, ET.out, <- es5.out, <- hs']
  unfold Preds.getS Preds.sideS
  rw [hq.out, es4.out]
  by_cases h8 : q = 8
  ·subst h8; simp [Preds.wrong]
  ·simp only [if_neg h8]
 rw [hs', hnm.out, hq.out, hk.out, hi.out, ht.out] at HG
 rw [hs'] at HBD
 rw [es4.out] at hl fO fV
 rw [hq.out] at hR
 rw [es1.out] at fT
 rw [es2.out, es3.out] at fU
 have hT : t.length <= 64 := by rw [ET.out]; split <;> simp [hl]
 have f5 : Hid (s5.fine) := by
  show s5.fine
  rw [<- es5.out]
  by_cases h8 : q = 8
  ·rw [if_pos h8]; exact fO.out
  ·rw [if_neg h8]; exact fV.out
 clear hN hO hK hI hTx hs' hq hk hi ht es4 fN hl
 rw [hnm.out, es1.out] at hx
 clear hnm es1 es2 es3
 have hg := h.lt
 obtain ⟨hB, hb0⟩ := box5 w 35 (.string ⟨#[]⟩) (.int .i64 0) (.int .i64 0) (.int .i64 0) (.string ⟨#[]⟩)
 have h0 := h.below hb0
 go_enter Tryz.func65, Tryz.ntmps65
 go_wp2_with fail
 generalize w.alloc (.cells (pC #[] 0 0 0 #[]) 35) = w0 at *
 refine (hx w0 h0).mono ?_
 rintro e w1 ⟨rfl, h1, hT1⟩
 have hR1 := hT1.blk hB (by omega)
 have hT1w := (Touch.of_below (g := g) hb0).trans hT1
 clear h h0 hB hb0 hT1 hx
 obtain ⟨hC2, hb2⟩ := box5 w1 35 (.string ⟨nm.toArray⟩) (.int .i64 0) (.int .i64 0) (.int .i64 0) (.string ⟨#[]⟩)
 have P := Lib.hid (PG.mk (w := w) (n := nm) (t := []) (h1.below hb2) hC2 (hR1.below hb2 hR1.lt) (hT1w.trans (Touch.of_below (g := g) hb2)) hg hR1.lt)
 clear h1 hR1 hT1w hb2 hC2 hg
 go_upto_if 9 with fail
 generalize w1.heap.size = b at *
 generalize w1.alloc (.cells (pC nm.toArray 0 0 0 #[]) 35) = w2 at *
 go_cut [] from 4 (fun wx => Hid (PG w wx g b s2 nm 0 0 0 []))
 case first =>
  by_cases hE : nm = []
  ·have hd : nm.isEmpty = true := by simp [hE]
   have e2 : Hid (s1.fail 3 = s2) := by show _ = _; rw [E2.out, if_pos hE]
   clear hE
   rw [hd]
   go_wp2_with fail
   refine (refFail_at w2 g s1 P.out.sc fT.out 3).mono ?_
   rintro e w3 ⟨rfl, h3, hT3⟩
   go_wp2_with fail
   go_meet
   case rel => exact (P.out.step h3 hT3).to e2.out rfl rfl rfl rfl
  ·have hd : nm.isEmpty = false := by simpa using hE
   have e2 : Hid (s1 = s2) := by show _ = _; rw [E2.out, if_neg hE]
   clear hE
   rw [hd]
   go_wp2_with fail
   go_meet
   case rel => exact P.out.to e2.out rfl rfl rfl rfl
 case rest =>
  clear P E2 fT
  go_wp2_with fail
  refine (hy wc hcut.out.sc).mono ?_
  rintro e w3 ⟨rfl, h3, hT3⟩
  have P3 := Lib.hid (hcut.out.step h3 hT3)
  clear hcut h3 hT3 hy
  obtain ⟨d0, d1, d2, d3, d4, c0, c1, c2, c3, c4⟩ := blk5 P3.out.c
  have P4 := Lib.hid (P3.out.op q)
  clear P3
  go_upto_if 17 with fail
  clear d0 d1 d2 d3 d4 c0 c1 c2 c3 c4
  generalize w3.setCell ⟨b, 1, none⟩ (.int .i64 q) = w4 at *
  go_cut [] from 4 (fun wx => Hid (PG w wx g b s4 nm q 0 0 []))
  case first =>
   by_cases hE : q = 0
   ·have hd : ((q : Int) == 0) = true := by simp [hE]
    have e2 : Hid (s3.fail 3 = s4) := by show _ = _; rw [E4.out, if_pos hE]
    clear hE
    go_wp2_with fail
    refine (refFail_at w4 g s3 P4.out.sc fU.out 3).mono ?_
    rintro e w5 ⟨rfl, h5, hT5⟩
    go_wp2_with fail
    go_meet
    case rel => exact (P4.out.step h5 hT5).to e2.out rfl rfl rfl rfl
   ·have hd : ((q : Int) == 0) = false := by simpa using hE
    have e2 : Hid (s3 = s4) := by show _ = _; rw [E4.out, if_neg hE]
    clear hE
    go_wp2_with fail
    go_meet
    case rel => exact P4.out.to e2.out rfl rfl rfl rfl
  case rest =>
   clear P4 E4 fU
   have P5 := hcut
   clear hcut
   generalize wc = w5 at *
   obtain ⟨d0, d1, d2, d3, d4, c0, c1, c2, c3, c4⟩ := blk5 P5.out.c
   go_upto_if 22 with fail
   clear d0 d1 d2 d3 d4 c0 c1 c2 c3 c4
   go_cut [] from 4 (fun wx => Hid (PG w wx g b s5 nm q k i t))
   case first =>
    by_cases hE : q = 8
    ·have hd : ((q : Int) != 8) = false := by simp [hE]
     have e2 : Hid (s4 = s5) := by show _ = _; rw [<- es5.out, if_pos hE]
     have ek : Hid (0 = k) := by show _ = _; rw [EK.out, if_pos hE]
     have ei : Hid (0 = i) := by show _ = _; rw [EI.out, if_pos hE]
     have et : Hid ([] = t) := by show _ = _; rw [ET.out, if_pos hE]
     clear hE
     go_wp2_with fail
     go_meet
     case rel => exact P5.out.to e2.out rfl ek.out ei.out et.out
    ·have hd : ((q : Int) != 8) = true := by simp; omega
     have e2 : Hid (Vals.getS s4 = s5) := by show _ = _; rw [<- es5.out, if_neg hE]
     have ek : Hid (Vals.getK s4 = k) := by show _ = _; rw [EK.out, if_neg hE]
     have ei : Hid (Vals.getI s4 = i) := by show _ = _; rw [EI.out, if_neg hE]
     have et : Hid (Vals.getT s4 = t) := by show _ = _; rw [ET.out, if_neg hE]
     rw [e2.out, ek.out, ei.out, et.out] at hv
     clear hE e2 ek ei et
     go_wp2_with fail
     refine (hv w5 P5.out.sc).mono ?_
     rintro e w6 ⟨rfl, h6, hT6⟩
     have P6 := Lib.hid (P5.out.step h6 hT6)
     obtain ⟨d0, d1, d2, d3, d4, c0, c1, c2, c3, c4⟩ := blk5 P6.out.c
     have P7 := Lib.hid (P6.out.val k i t)
     clear P6 h6 hT6
     go_wp2_with fail
     go_meet
     case rel => exact P7.out
   case rest =>
    clear P5 hv EK EI ET es5
    have P8 := hcut
    clear hcut
    generalize wc = w8 at *
    obtain ⟨d0, d1, d2, d3, d4, c0, c1, c2, c3, c4⟩ := blk5 P8.out.c
    go_upto_region 9 with fail
    go_cut [41] from 4 (fun s41 wx => s41 = .bool (Preds.wrong q k t) /\ w8 = wx)
    case first =>
     have hw : Hid (Preds.wrong (q : Int) k t = ((((q : Int) == 7) && (k != 2)) || decide ((32 : Int) < (t.length : Int)))) := by
      show _ = _
      unfold Preds.wrong
      congr 1
      ·congr 1
       simp only [bne, decide_not]; rfl
      ·simp; omega
     cases h7 : ((q : Int) == 7) <;> cases hk2 : (k != 2) <;> cases hl2 : decide ((32 : Int) < (t.length : Int)) <;> rw [h7, hk2, hl2] at hw <;> (go_wp2_with fail; go_meet; exact ⟨congrArg Value.bool hw.out.symm, rfl⟩)
    case rest =>
     clear d0 d1 d2 d3 d4 c0 c1 c2 c3 c4
     obtain ⟨rfl, rfl⟩ := hcut
     generalize Preds.wrong (q : Int) k t = z at *
     go_upto_if 41 with fail
     go_cut [] from 4 (fun wx => Hid (PG w wx g b s' nm q k i t))
     case first =>
      cases z
      ·have e2 : Hid (s5 = s') := by show _ = _; rw [E6.out]; rfl
       go_wp2_with fail
       go_meet
       case rel => exact P8.out.to e2.out rfl rfl rfl rfl
      ·have e2 : Hid (s5.fail 3 = s') := by show _ = _; rw [E6.out]; rfl
       go_wp2_with fail
       refine (refFail_at w8 g s5 P8.out.sc f5.out 3).mono ?_
       rintro e w9 ⟨rfl, h9, hT9⟩
       go_wp2_with fail
       go_meet
       case rel => exact (P8.out.step h9 hT9).to e2.out rfl rfl rfl rfl
     case rest =>
      clear P8 E6 f5
      have P := hcut
      clear hcut
      obtain ⟨A', n', cap', hG, hG'⟩ := P.out.sc
      obtain ⟨_, y1, _, _⟩ := blk2 hG
      obtain ⟨r0, r1, r2, r3, r4, k0, k1, k2, k3, k4⟩ := blk5 P.out.r
      obtain ⟨x0, x1, x2, x3, x4, _, _, _, _, _⟩ := blk5 P.out.c
      have hgw := P.out.g1
      clear hG hG'
      by_cases hz : s'.err = 0
      ·rw [hz] at y1
       obtain ⟨rfl, rfl, rfl, rfl, rfl⟩ := HG.out hz
       clear hz HG HBD
       go_wp2_with fail
       refine bodyPost_ret (v := .agg (pC nm.toArray q k i t.toArray)) (by simp [results, Tryz.results65, go_sem, r0, r1, r2, r3, r4]) rfl ?_
       exact ⟨rfl, P.out.sc.setP_ P.out.r (noByte5 _ _ _ _ _) (by omega) _ _ _ _ _, P.out.t.setP_ (Nat.le_refl _) _ _ _ _ _⟩
      ·have hd : ((s'.err) != 0) = true := by simpa using hz
       obtain ⟨rfl, rfl, rfl, rfl, rfl⟩ := HBD.out hz
       clear hz HG HBD
       go_wp2_with fail
       refine bodyPost_ret (v := .agg (pC #[] 0 0 0 #[])) (by simp [results, Tryz.results65, go_sem, r0, r1, r2, r3, r4]) rfl ?_
       exact ⟨rfl, P.out.sc.setP_ P.out.r (noByte5 _ _ _ _ _) (by omega) _ _ _ _ _, P.out.t.setP_ (Nat.le_refl _) _ _ _ _ _⟩
end Go.Proofs.YtoffnfooeojhnaaGreat
