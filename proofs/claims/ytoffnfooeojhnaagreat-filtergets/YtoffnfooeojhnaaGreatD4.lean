/- What stands behind the small case of Get: laid apart. -/
import Derived.Test.YtoffnfooeojhnaaGreatM1
set_option maxRecDepth 100000
set_option maxHeartbeats 4000000
namespace Wire
theorem scan_put : ∀ (f p acc m : Nat) (r : List UInt8), f + p = 10 -> m < 2 ^ (64 - 7 * p) -> (0 < p -> 0 < m) -> p <= 9 -> scan f p acc (put m ++ r) = (acc + m * 128 ^ p, p + (put m).length, 0)
 | 0, _, _, _, _ => by omega
 | f + 1, p, acc, m, r => by
  intro hf hm h0 hp
  by_cases h : m < 128
  ·rw [put_lo m h, List.singleton_append, scan]
   have hx : (UInt8.ofNat m).toNat = m := by simp; omega
   rw [hx, if_neg (by omega), if_pos]
   ·simp
   ·unfold mayEnd
    by_cases h9 : p = 9
    ·subst h9
     have := h0 (by omega)
     simp only [if_true, beq_iff_eq]; omega
    ·rw [if_neg h9]
     rcases Nat.eq_zero_or_pos p with hp0 | hp0
     ·simp [hp0]
     ·have := h0 hp0
      simp; omega
  ·have hp8 : p <= 8 := by
    rcases Nat.lt_or_ge p 9 with h9 | h9
    ·omega
    ·obtain rfl : p = 9 := by omega
     simp at hm; omega
   rw [put_hi m (by omega), List.cons_append, scan]
   have hx : (UInt8.ofNat (m % 128 + 128)).toNat = m % 128 + 128 := by simp; omega
   rw [hx, if_pos (by omega), scan_put f (p + 1) _ (m / 128) r (by omega) ?_ (fun _ => by omega) (by omega)]
   ·have : acc + (m % 128 + 128) % 128 * 128 ^ p + m / 128 * 128 ^ (p + 1) = acc + m * 128 ^ p := by
     rw [Nat.pow_succ, Nat.mul_comm (128 ^ p) 128, <- Nat.mul_assoc, Nat.add_assoc, <- Nat.add_mul]
     congr 2; omega
    rw [this]
    simp; omega
   ·have e : 64 - 7 * p = (64 - 7 * (p + 1)) + 7 := by omega
    rw [e, Nat.pow_add] at hm
    omega
end Wire
namespace Wire
theorem num_put (m : Nat) (h : m < 2 ^ 64) (r : List UInt8) : num (put m ++ r) = (m, (put m).length, 0) := by
 have := scan_put 10 0 0 m r rfl h (by omega) (by omega)
 simpa [num] using this
end Wire
namespace Wire
theorem zag_zig (n : Int) : zag (zig n) = n := by
 unfold zag zig
 by_cases h : n < 0
 ·rw [if_pos h, if_pos (by omega)]; omega
 ·rw [if_neg h, if_neg (by omega)]; omega
end Wire
namespace Vals
open Wire
open Go.Op (bytesLess)
theorem upto_put (m n : Nat) (r : List UInt8) (h : n <= m) (hm : n < 2 ^ 64) : (St.mk (put n ++ r) 0).uptoV (m : Int) = n /\ (St.mk (put n ++ r) 0).uptoS (m : Int) = ⟨r, 0⟩ := by
 have e := num_put n hm r
 have ho : (St.mk (put n ++ r) 0).over (m : Int) = false := by
  unfold St.over St.numV
  rw [e]
  simp; omega
 refine ⟨?_, ?_⟩
 ·unfold St.uptoV
  rw [if_neg (by rw [ho]; simp)]
  unfold St.numV
  rw [e]
 ·unfold St.uptoS
  rw [if_neg (by rw [ho]; simp)]
  unfold St.numS
  simp only [e]
  simp
end Vals
namespace Vals
open Wire
open Go.Op (bytesLess)
theorem text_put (t : List UInt8) (r : List UInt8) (h : t.length <= 64) : (St.mk (text t ++ r) 0).textV 64 = t /\ (St.mk (text t ++ r) 0).textS 64 = ⟨r, 0⟩ := by
 have e : text t ++ r = put t.length ++ (t ++ r) := by unfold text; simp
 rw [e]
 obtain ⟨h1, h2⟩ := upto_put 64 t.length (t ++ r) h (by omega)
 rw [show ((64 : Nat) : Int) = 64 from rfl] at h1 h2
 refine ⟨?_, ?_⟩
 ·unfold St.textV
  rw [h1, h2, if_neg (by simp)]
  simp
 ·unfold St.textS
  rw [h1, h2, if_neg (by simp)]
  simp
end Vals
namespace Vals
open Wire
open Go.Op (bytesLess)
theorem num_put' (n : Nat) (r : List UInt8) (hm : n < 2 ^ 64) : (St.mk (put n ++ r) 0).numV = n /\ (St.mk (put n ++ r) 0).numS = ⟨r, 0⟩ := by
 have e := num_put n hm r
 unfold St.numV St.numS
 simp only [e]
 simp
end Vals
namespace Vals
open Wire
open Go.Op (bytesLess)
theorem get_lay (k i : Int) (t r : List UInt8) (h : right k i t = true) (h1 : -9223372036854775808 <= i) (h2 : i <= 9223372036854775807) :
  getS ⟨lay k i t ++ r, 0⟩ = ⟨r, 0⟩ /\ getK ⟨lay k i t ++ r, 0⟩ = k /\ getI ⟨lay k i t ++ r, 0⟩ = i /\ getT ⟨lay k i t ++ r, 0⟩ = t := by
 unfold lay
 rw [if_pos h]
 unfold bytes
 rcases right_cases h with ⟨rfl, rfl⟩ | ⟨rfl, rfl, ht⟩ | ⟨rfl, rfl, hi⟩
 ·rw [if_pos rfl, List.append_assoc]
  obtain ⟨e1, e2⟩ := upto_put 3 1 (put (zig i) ++ r) (by omega) (by omega)
  obtain ⟨e3, e4⟩ := num_put' (zig i) r (zig_lt i h1 h2)
  have e1' : (St.mk (put (1 : Int).toNat ++ (put (zig i) ++ r)) 0).uptoV 3 = 1 := e1
  have e2' : (St.mk (put (1 : Int).toNat ++ (put (zig i) ++ r)) 0).uptoS 3 = ⟨put (zig i) ++ r, 0⟩ := e2
  have eS : getS ⟨put (1 : Int).toNat ++ (put (zig i) ++ r), 0⟩ = ⟨r, 0⟩ := by unfold getS; rw [e1', e2', if_pos rfl, e4]
  refine ⟨eS, ?_, ?_, ?_⟩
  ·unfold getK; rw [eS, if_pos rfl, e1']; rfl
  ·unfold getI; rw [eS, if_pos rfl, e1', if_pos rfl, e2', e3, zag_zig]
  ·unfold getT; rw [eS, if_pos rfl, e1', if_neg (by decide)]
 ·rw [if_neg (by decide), if_pos rfl, List.append_assoc]
  obtain ⟨e1, e2⟩ := upto_put 3 2 (text t ++ r) (by omega) (by omega)
  obtain ⟨e3, e4⟩ := text_put t r ht
  have e1' : (St.mk (put (2 : Int).toNat ++ (text t ++ r)) 0).uptoV 3 = 2 := e1
  have e2' : (St.mk (put (2 : Int).toNat ++ (text t ++ r)) 0).uptoS 3 = ⟨text t ++ r, 0⟩ := e2
  have eS : getS ⟨put (2 : Int).toNat ++ (text t ++ r), 0⟩ = ⟨r, 0⟩ := by unfold getS; rw [e1', e2', if_neg (by decide), if_pos rfl, e4]
  refine ⟨eS, ?_, ?_, ?_⟩
  ·unfold getK; rw [eS, if_pos rfl, e1']; rfl
  ·unfold getI; rw [eS, if_pos rfl, e1', if_neg (by decide), if_neg (by decide)]
  ·unfold getT; rw [eS, if_pos rfl, e1', if_pos rfl, e2', e3]
 ·rw [if_neg (by decide), if_neg (by decide), List.append_assoc]
  obtain ⟨e1, e2⟩ := upto_put 3 3 (put i.toNat ++ r) (by omega) (by omega)
  obtain ⟨e3, e4⟩ := upto_put 1 i.toNat r (by omega) (by omega)
  have e3' : (St.mk (put i.toNat ++ r) 0).uptoV 1 = i.toNat := e3
  have e4' : (St.mk (put i.toNat ++ r) 0).uptoS 1 = ⟨r, 0⟩ := e4
  have e1' : (St.mk (put (3 : Int).toNat ++ (put i.toNat ++ r)) 0).uptoV 3 = 3 := e1
  have e2' : (St.mk (put (3 : Int).toNat ++ (put i.toNat ++ r)) 0).uptoS 3 = ⟨put i.toNat ++ r, 0⟩ := e2
  have eS : getS ⟨put (3 : Int).toNat ++ (put i.toNat ++ r), 0⟩ = ⟨r, 0⟩ := by unfold getS; rw [e1', e2', if_neg (by decide), if_neg (by decide), if_pos rfl, e4']
  refine ⟨eS, ?_, ?_, ?_⟩
  ·unfold getK; rw [eS, if_pos rfl, e1']; rfl
  ·unfold getI; rw [eS, if_pos rfl, e1', if_neg (by decide), if_pos rfl, e2', e3']; omega
  ·unfold getT; rw [eS, if_pos rfl, e1', if_neg (by decide)]
end Vals
namespace Preds
open Wire
theorem text_put16 (t : List UInt8) (r : List UInt8) (h : t.length <= 16) : (St.mk (text t ++ r) 0).textV 16 = t /\ (St.mk (text t ++ r) 0).textS 16 = ⟨r, 0⟩ := by
 have e : text t ++ r = put t.length ++ (t ++ r) := by unfold text; simp
 rw [e]
 obtain ⟨h1, h2⟩ := Vals.upto_put 16 t.length (t ++ r) h (by omega)
 rw [show ((16 : Nat) : Int) = 16 from rfl] at h1 h2
 refine ⟨?_, ?_⟩
 ·unfold St.textV
  rw [h1, h2, if_neg (by simp)]
  simp
 ·unfold St.textS
  rw [h1, h2, if_neg (by simp)]
  simp
end Preds
namespace Preds
open Wire
theorem get_lay (n : List UInt8) (o k i : Int) (t r : List UInt8) (h : right n o k i t = true) (h1 : -9223372036854775808 <= i) (h2 : i <= 9223372036854775807) :
  getS ⟨lay n o k i t ++ r, 0⟩ = ⟨r, 0⟩ /\ getN ⟨lay n o k i t ++ r, 0⟩ = n /\ getO ⟨lay n o k i t ++ r, 0⟩ = o /\ getK ⟨lay n o k i t ++ r, 0⟩ = k /\ getI ⟨lay n o k i t ++ r, 0⟩ = i /\ getT ⟨lay n o k i t ++ r, 0⟩ = t := by
 obtain ⟨a1, a2, ha⟩ := right_parts h
 unfold lay
 rw [if_pos h]
 unfold bytes
 rw [List.append_assoc, List.append_assoc]
 generalize hrest : (if o = 8 then [] else Vals.lay k i t) ++ r = q
 obtain ⟨e1, e2⟩ := text_put16 n (put o.toNat ++ q) a2
 have hN : nameS ⟨text n ++ (put o.toNat ++ q), 0⟩ = ⟨put o.toNat ++ q, 0⟩ := by
  unfold nameS
  rw [e1, e2, if_neg (by intro hn; rw [hn] at a1; simp at a1)]
 have ho : 1 <= o /\ o <= 8 := by rcases asks_cases ha with ⟨rfl, _⟩ | ⟨_, b1, b2, _⟩ <;> omega
 obtain ⟨e3, e4⟩ := Vals.upto_put 8 o.toNat q (by omega) (by omega)
 rw [show ((8 : Nat) : Int) = 8 from rfl] at e3 e4
 have hO : rawO ⟨text n ++ (put o.toNat ++ q), 0⟩ = o.toNat := by unfold rawO; rw [hN, e3]
 have hB : behind ⟨text n ++ (put o.toNat ++ q), 0⟩ = ⟨q, 0⟩ := by
  unfold behind opS
  rw [hN, e3, e4, if_neg (by omega)]
 generalize (St.mk (text n ++ (put o.toNat ++ q)) 0) = s at *
 rcases asks_cases ha with ⟨rfl, rfl, rfl, rfl⟩ | ⟨h8, b1, b2, b3, b4, b5⟩
 ·rw [if_pos rfl, List.nil_append] at hrest
  subst hrest
  replace hO : rawO s = 8 := hO
  have hS : getS s = ⟨r, 0⟩ := by unfold getS; rw [hO, if_pos rfl, hB]
  obtain ⟨g1, g2, g3, g4, g5⟩ := get_good s (by rw [hS])
  refine ⟨hS, g1.trans e1, ?_, ?_, ?_, ?_⟩
  ·rw [g2, hO]; rfl
  ·rw [g3]; unfold rawK; rw [hO]; rfl
  ·rw [g4]; unfold rawI; rw [hO]; rfl
  ·rw [g5]; unfold rawT; rw [hO]; rfl
 ·rw [if_neg h8] at hrest
  have ne : ¬ o.toNat = 8 := by omega
  obtain ⟨v1, v2, v3, v4⟩ := Vals.get_lay k i t r b3 h1 h2
  rw [hrest] at v1 v2 v3 v4
  have hS : getS s = ⟨r, 0⟩ := by
   unfold getS
   rw [hO, if_neg ne, hB]
   unfold sideS
   rw [v1, v2, v4, if_neg]
   unfold wrong
   simp only [Bool.or_eq_true, Bool.and_eq_true, decide_eq_true_eq]
   rintro (⟨c1, c2⟩ | c)
   ·exact c2 (b5 (by omega))
   ·omega
  obtain ⟨g1, g2, g3, g4, g5⟩ := get_good s (by rw [hS])
  refine ⟨hS, g1.trans e1, ?_, ?_, ?_, ?_⟩
  ·rw [g2, hO]; omega
  ·rw [g3]; unfold rawK; rw [hO, if_neg ne, hB]; exact v2
  ·rw [g4]; unfold rawI; rw [hO, if_neg ne, hB]; exact v3
  ·rw [g5]; unfold rawT; rw [hO, if_neg ne, hB]; exact v4
end Preds
