/- Contracts of the program and of the document (RHas, RZero, RIn, RSpn, RMeet, RMeet1, RMeet2, RMeet3, RMeetA, ROf, RFold), each used further on. -/
import Derived.Test.YtoffnfooeojhnaaN2
namespace Go.Proofs.Ytoffnfooeojhnaa
open Go.RowKit Go.Sort Spans Op
/-- Has, field by field. -/
def haF (K lo hi : Int) (f t : List UInt8) (o : Bool) (es : List Val) (k i : Int) (x : List UInt8) : Bool :=
 Vals.right k i x && (K == 4 || (K == k && ((if K = 2 then inT f t o x else inN lo hi i) && !decide ((⟨k, i, x⟩ : Val) ∈ es))))
set_option maxRecDepth 100000 in
set_option maxHeartbeats 4000000 in
theorem rhasF_at (K lo hi : Int) (f t : List UInt8) (o : Bool) (A : Option Addr) (n c : Nat) (es : List Val) (k i : Int) (x : List UInt8) (w : World) (hn : es.length = n) (hm : n <= 100000) (hx : x.length <= 9223372036854775807) (hf : f.length <= 9223372036854775807) (ht : t.length <= 9223372036854775807) (hr : RdW w A es) :
  Calls Try.prog 14 #[spF K lo hi f t o A n c, .agg #[.int .i64 k, .int .i64 i, .string ⟨x.toArray⟩]] w fun e w' => e = .returned (.bool (haF K lo hi f t o es k i x)) /\ Grown w w' := by
 have HN := Lib.hid hn
 have HG0 := Lib.hid (gr2 w (.cells #[.int .i64 K, .int .i64 lo, .int .i64 hi, .string ⟨f.toArray⟩, .string ⟨t.toArray⟩, .bool o, .slice A n c] 29) (.cells #[.int .i64 k, .int .i64 i, .string ⟨x.toArray⟩] 24))
 have HR0 := Lib.hid (hr.below HG0.out.below)
 have hX0 := (Blk.new w 29 #[.int .i64 K, .int .i64 lo, .int .i64 hi, .string ⟨f.toArray⟩, .string ⟨t.toArray⟩, .bool o, .slice A n c]).alloc (.cells #[.int .i64 k, .int .i64 i, .string ⟨x.toArray⟩] 24)
 have hV0 := Blk.new (w.alloc (.cells #[.int .i64 K, .int .i64 lo, .int .i64 hi, .string ⟨f.toArray⟩, .string ⟨t.toArray⟩, .bool o, .slice A n c] 29)) 24 #[.int .i64 k, .int .i64 i, .string ⟨x.toArray⟩]
 rw [show (w.alloc (.cells #[.int .i64 K, .int .i64 lo, .int .i64 hi, .string ⟨f.toArray⟩, .string ⟨t.toArray⟩, .bool o, .slice A n c] 29)).heap.size = w.heap.size + 1 by simp] at hV0
 clear hn hr
 go_enter Try.func14, Try.ntmps14
 go_wp2_with fail
 generalize ((w.alloc (.cells #[.int .i64 K, .int .i64 lo, .int .i64 hi, .string ⟨f.toArray⟩, .string ⟨t.toArray⟩, .bool o, .slice A n c] 29)).alloc (.cells #[.int .i64 k, .int .i64 i, .string ⟨x.toArray⟩] 24)) = w0 at *
 refine (refRight_gr k i x w0 hx).mono ?_
 rintro e w1 ⟨rfl, hg1⟩
 have HG1 := Lib.hid (HG0.out.trans hg1)
 have HR1 := Lib.hid (HR0.out.below hg1.below)
 have hX1 := Blk.below hX0 hg1.below hX0.lt
 have hV1 := Blk.below hV0 hg1.below hV0.lt
 obtain ⟨a0, a1, a2, a3, a4, a5, a6, _⟩ := blk7 hX1
 obtain ⟨v0, v1, v2, _⟩ := blk3 hV1
 have hl1 := hX1.lt
 have hl2 := hV1.lt
 clear HG0 HR0 hX0 hV0 hg1
 cases hri : Vals.right k i x with
 | false =>
  go_wp2_with fail
  go_ret
  exact ⟨ret_b (by simp [haF, hri]), HG1.out⟩
 | true =>
  have HRI := Lib.hid hri
  have hk0 : k ≠ 0 := by rcases Vals.right_cases hri with ⟨h, _⟩ | ⟨h, _⟩ | ⟨h, _⟩ <;> omega
  have HK0 : Hid (((0 : Int) == k) = false) := beq_eq_false_iff_ne.2 (Ne.symm hk0)
  clear hri hk0
  by_cases h0 : K = 0
  ·subst h0
   go_wp2_with fail
   go_ret
   exact ⟨ret_b (by simp [haF, HK0.out]), HG1.out⟩
  have q0 : (K == 0) = false := beq_eq_false_iff_ne.2 h0
  by_cases h4 : K = 4
  ·subst h4
   go_wp2_with fail
   go_ret
   exact ⟨ret_b (by simp [haF, HRI.out]), HG1.out⟩
  have q4 : (K == 4) = false := beq_eq_false_iff_ne.2 h4
  by_cases hkk : K = k
  ·subst hkk
   obtain ⟨b, hb⟩ : ∃ b, decide ((⟨K, i, x⟩ : Val) ∈ es) = b := ⟨_, rfl⟩
   have HM := Lib.hid hb
   clear hb
   go_wp2_with fail
   refine (refHas_at A es n c HN.out hm K i x w1 HR1.out b HM.out).mono ?_
   rintro e w2 ⟨rfl, hg2⟩
   have hX2 := Blk.below hX1 hg2.below hX1.lt
   have hV2 := Blk.below hV1 hg2.below hV1.lt
   have HG2 := Lib.hid (HG1.out.trans hg2)
   have HR2 := Lib.hid (HR1.out.below hg2.below)
   clear a0 a1 a2 a3 a4 a5 a6 v0 v1 v2 hl1 hl2 HG1 HR1 hg2
   obtain ⟨a0, a1, a2, a3, a4, a5, a6, _⟩ := blk7 hX2
   obtain ⟨v0, v1, v2, _⟩ := blk3 hV2
   have hl1 := hX2.lt
   have hl2 := hV2.lt
   cases b with
   | true =>
    go_wp2_with fail
    go_ret
    exact ⟨ret_b (by simp [haF, q4, of_decide_eq_true HM.out]), HG2.out⟩
   | false =>
    by_cases h2 : K = 2
    ·subst h2
     obtain ⟨z1, hz1⟩ : ∃ z, Vals.cmpT x f = z := ⟨_, rfl⟩
     have HZ1 := Lib.hid hz1
     clear hz1
     go_wp2_with fail
     refine (textG_at x f hx hf w2).mono ?_
     rintro e w3 ⟨rfl, hg3⟩
     rw [HZ1.out]
     have hX3 := Blk.below hX2 hg3.below hX2.lt
     have hV3 := Blk.below hV2 hg3.below hV2.lt
     have HG3 := Lib.hid (HG2.out.trans hg3)
     have HR3 := Lib.hid (HR2.out.below hg3.below)
     clear a0 a1 a2 a3 a4 a5 a6 v0 v1 v2 hl1 hl2 HG2 HR2 hg3
     obtain ⟨a0, a1, a2, a3, a4, a5, a6, _⟩ := blk7 hX3
     obtain ⟨v0, v1, v2, _⟩ := blk3 hV3
     have hl1 := hX3.lt
     have hl2 := hV3.lt
     cases hlf : bytesLess x f with
     | true =>
      have u5 : decide (0 <= z1) = false := decide_eq_false (by rw [<- HZ1.out]; have := (cmpT_neg_iff x f).2 hlf; omega)
      have HLF := Lib.hid hlf
      clear hlf
      go_wp2_with fail
      go_ret
      exact ⟨ret_b (by simp [haF, HRI.out, HM.out, inT, HLF.out]), HG3.out⟩
     | false =>
      have u5 : decide (0 <= z1) = true := decide_eq_true (by rw [<- HZ1.out]; have : ¬ Vals.cmpT x f < 0 := (fun h => by have := (cmpT_neg_iff x f).1 h; rw [hlf] at this; cases this); omega)
      have HLF := Lib.hid hlf
      clear hlf
      cases o with
      | true =>
       go_wp2_with fail
       go_ret
       exact ⟨ret_b (by simp [haF, HRI.out, HM.out, inT, HLF.out]), HG3.out⟩
      | false =>
       obtain ⟨z2, hz2⟩ : ∃ z, Vals.cmpT x t = z := ⟨_, rfl⟩
       have HZ2 := Lib.hid hz2
       clear hz2
       go_wp2_with fail
       refine (textG_at x t hx ht w3).mono ?_
       rintro e w4 ⟨rfl, hg4⟩
       rw [HZ2.out]
       have HG4 := Lib.hid (HG3.out.trans hg4)
       cases hlt : bytesLess x t with
       | true =>
        have u6 : decide (z2 < 0) = true := decide_eq_true (by rw [<- HZ2.out]; exact (cmpT_neg_iff _ _).2 hlt)
        have HLT := Lib.hid hlt
        clear hlt
        go_wp2_with fail
        go_ret
        exact ⟨ret_b (by simp [haF, HRI.out, HM.out, inT, HLF.out, HLT.out]), HG4.out⟩
       | false =>
        have u6 : decide (z2 < 0) = false := decide_eq_false (by rw [<- HZ2.out]; exact fun h => by have := (cmpT_neg_iff _ _).1 h; rw [hlt] at this; cases this)
        have HLT := Lib.hid hlt
        clear hlt
        go_wp2_with fail
        go_ret
        exact ⟨ret_b (by simp [haF, HRI.out, HM.out, inT, HLF.out, HLT.out]), HG4.out⟩
    ·have q2 : (K == 2) = false := beq_eq_false_iff_ne.2 h2
     by_cases ha : lo <= i
     ·by_cases hb : i <= hi
      ·have d1 : decide (lo <= i) = true := decide_eq_true ha
       have d2 : decide (i <= hi) = true := decide_eq_true hb
       go_wp2_with fail
       go_ret
       exact ⟨ret_b (by simp [haF, HRI.out, q4, HM.out, h2, inN, ha, hb]), HG2.out⟩
      ·have d1 : decide (lo <= i) = true := decide_eq_true ha
       have d2 : decide (i <= hi) = false := decide_eq_false hb
       go_wp2_with fail
       go_ret
       exact ⟨ret_b (by simp [haF, HRI.out, q4, HM.out, h2, inN, ha, hb]), HG2.out⟩
     ·have d1 : decide (lo <= i) = false := decide_eq_false ha
      go_wp2_with fail
      go_ret
      exact ⟨ret_b (by simp [haF, HRI.out, q4, HM.out, h2, inN]; omega), HG2.out⟩
  ·have qk : (K == k) = false := beq_eq_false_iff_ne.2 hkk
   go_wp2_with fail
   go_ret
   exact ⟨ret_b (by simp [haF, q4, qk]), HG1.out⟩
theorem haF_is {a : Sp} (hc : Canon a) {v : Val} (h1 : -9223372036854775808 <= v.i) (h2 : v.i <= 9223372036854775807) : haF a.kind a.lo a.hi a.frm a.to_ a.opn a.no v.k v.i v.t = has a v := by
 have hr : rightV v = Vals.right v.k v.i v.t := by unfold rightV; simp [h1, h2]
 unfold haF has
 rw [<- hr]
 by_cases h0 : a.kind = 0
 ·have e := kind_none hc h0
  subst e
  cases hv : rightV v with
  | false => rfl
  | true =>
   have hk : v.k ≠ 0 := by
    rw [hr] at hv
    rcases Vals.right_cases hv with ⟨h, _⟩ | ⟨h, _⟩ | ⟨h, _⟩ <;> omega
   have : ((0 : Int) == v.k) = false := beq_eq_false_iff_ne.2 (Ne.symm hk)
   simp [none_, this]
 ·rw [if_neg h0]
  by_cases h4 : a.kind = 4
  ·rw [if_pos h4]; simp [h4]
  ·rw [if_neg h4]
   have q4 : (a.kind == 4) = false := beq_eq_false_iff_ne.2 h4
   rw [q4]
   by_cases hk : a.kind = v.k
   ·have e : decide (v.k = a.kind) = true := decide_eq_true hk.symm
    rw [e]
    have e2 : (a.kind == v.k) = true := beq_iff_eq.2 hk
    rw [e2]
    cases rightV v <;> cases decide (v ∈ a.no) <;> simp
   ·have e : decide (v.k = a.kind) = false := decide_eq_false (Ne.symm hk)
    have e2 : (a.kind == v.k) = false := beq_eq_false_iff_ne.2 hk
    rw [e, e2]
    cases rightV v <;> simp
end Go.Proofs.Ytoffnfooeojhnaa
namespace Go.Proofs.Ytoffnfooeojhnaa
open Go.RowKit Go.Sort Spans Op
set_option maxRecDepth 100000 in
set_option maxHeartbeats 1000000 in
theorem rzero_at (s : List UInt8) (hs : s.length <= 1000) (w : World) :
  Calls Try.prog 59 #[.string ⟨s.toArray⟩] w fun e w' => e = .returned (.bool (zeroEnd s).isSome) /\ Grown w w' := by
 rcases List.eq_nil_or_concat s with rfl | ⟨u, x, rfl⟩
 ·have HZ : Hid ((zeroEnd ([] : List UInt8)).isSome = false) := by show _ = _; rfl
  go_enter Try.func59, Try.ntmps59
  go_wp2_with fail
  go_ret
  exact ⟨ret_b (by rw [HZ.out]), Grown.refl _⟩
 ·rw [List.concat_eq_append] at hs ⊢
  have hz1 : (⟨(u ++ [x]).toArray⟩ : ByteArray).size = u.length + 1 := by simp [ByteArray.size]
  have hz2 : ∀ h, (⟨(u ++ [x]).toArray⟩ : ByteArray)[u.length]'h = x := by intro h; show (u ++ [x]).toArray[u.length] = x; simp
  have hul : u.length <= 1000 := by simp at hs; omega
  by_cases hx : x = 0
  ·subst hx
   have HZ : Hid ((zeroEnd (u ++ [0])).isSome = true) := by show _ = _; rw [(zeroEnd_iff _ _).2 rfl]; rfl
   generalize hS : (⟨(u ++ [0]).toArray⟩ : ByteArray) = S at *
   clear hS
   go_enter Try.func59, Try.ntmps59
   go_wp2_with fail
   go_ret
   exact ⟨ret_b (by rw [HZ.out]), Grown.refl _⟩
  ·have HZ : Hid ((zeroEnd (u ++ [x])).isSome = false) := by
    show _ = _
    cases hz : zeroEnd (u ++ [x]) with
    | none => rfl
    | some v =>
     have := (zeroEnd_iff _ _).1 hz
     exact absurd (List.append_inj_right' this rfl) (by simpa using hx)
   have hd : (((x.toNat : Nat) : Int) == 0) = false := by
    have : x.toNat ≠ 0 := fun e => hx (UInt8.toNat_inj.1 e)
    simpa using this
   generalize hS : (⟨(u ++ [x]).toArray⟩ : ByteArray) = S at *
   clear hS hx
   go_enter Try.func59, Try.ntmps59
   go_wp2_with fail
   go_ret
   exact ⟨ret_b (by rw [HZ.out]), Grown.refl _⟩
end Go.Proofs.Ytoffnfooeojhnaa
namespace Go.Proofs.Ytoffnfooeojhnaa
open Go.RowKit Go.Sort Spans Op
/-- In, field by field. -/
def inF (K lo hi : Int) (f t : List UInt8) (o : Bool) (es : List Val) (K' lo' hi' : Int) (f' t' : List UInt8) (o' : Bool) (fs : List Val) : Bool :=
 if K = 0 ∨ K' = 4 then true else if K ≠ K' then false
 else !(fs.any fun v => haF K lo hi f t o es v.k v.i v.t) && (if K = 2 then !bytesLess f f' && (o' || (!o && !bytesLess t' t)) else decide (lo' <= lo) && decide (hi <= hi'))
set_option maxRecDepth 100000 in
set_option maxHeartbeats 4000000 in
theorem rinF_at (K lo hi : Int) (f t : List UInt8) (o : Bool) (A : Option Addr) (n c : Nat) (es : List Val) (K' lo' hi' : Int) (f' t' : List UInt8) (o' : Bool) (A' : Option Addr) (n' c' : Nat) (fs : List Val) (w : World) (hn : es.length = n) (hm : n <= 100000) (hn' : fs.length = n') (hm' : n' <= 100000)
  (hf : f.length <= 9223372036854775807) (ht : t.length <= 9223372036854775807) (hf' : f'.length <= 9223372036854775807) (ht' : t'.length <= 9223372036854775807) (hv : ∀ v ∈ fs, v.t.length <= 9223372036854775807) (hr : RdW w A es) (hr' : RdW w A' fs) :
  Calls Try.prog 12 #[spF K lo hi f t o A n c, spF K' lo' hi' f' t' o' A' n' c'] w fun e w' => e = .returned (.bool (inF K lo hi f t o es K' lo' hi' f' t' o' fs)) /\ Grown w w' := by
 have HN := Lib.hid hn
 have HN' := Lib.hid hn'
 have HV := Lib.hid hv
 have HG0 := Lib.hid (gr2 w (.cells #[.int .i64 K, .int .i64 lo, .int .i64 hi, .string ⟨f.toArray⟩, .string ⟨t.toArray⟩, .bool o, .slice A n c] 29) (.cells #[.int .i64 K', .int .i64 lo', .int .i64 hi', .string ⟨f'.toArray⟩, .string ⟨t'.toArray⟩, .bool o', .slice A' n' c'] 29))
 have HR := Lib.hid (hr.below HG0.out.below)
 have HR' := Lib.hid (hr'.below HG0.out.below)
 have hX := (Blk.new w 29 #[.int .i64 K, .int .i64 lo, .int .i64 hi, .string ⟨f.toArray⟩, .string ⟨t.toArray⟩, .bool o, .slice A n c]).alloc (.cells #[.int .i64 K', .int .i64 lo', .int .i64 hi', .string ⟨f'.toArray⟩, .string ⟨t'.toArray⟩, .bool o', .slice A' n' c'] 29)
 have hY := Blk.new (w.alloc (.cells #[.int .i64 K, .int .i64 lo, .int .i64 hi, .string ⟨f.toArray⟩, .string ⟨t.toArray⟩, .bool o, .slice A n c] 29)) 29 #[.int .i64 K', .int .i64 lo', .int .i64 hi', .string ⟨f'.toArray⟩, .string ⟨t'.toArray⟩, .bool o', .slice A' n' c']
 rw [show (w.alloc (.cells #[.int .i64 K, .int .i64 lo, .int .i64 hi, .string ⟨f.toArray⟩, .string ⟨t.toArray⟩, .bool o, .slice A n c] 29)).heap.size = w.heap.size + 1 by simp] at hY
 clear hn hr hn' hr' hv
 by_cases h0 : K = 0
 ·subst h0
  go_enter Try.func12, Try.ntmps12
  go_wp2_with fail
  go_ret
  exact ⟨ret_b (by simp [inF]), HG0.out⟩
 have q0 : (K == 0) = false := beq_eq_false_iff_ne.2 h0
 by_cases h4 : K' = 4
 ·subst h4
  go_enter Try.func12, Try.ntmps12
  go_wp2_with fail
  go_ret
  exact ⟨ret_b (by simp [inF]), HG0.out⟩
 have q4 : (K' == 4) = false := beq_eq_false_iff_ne.2 h4
 by_cases hkk : K = K'
 ·subst hkk
  have HIN : Hid (inF K lo hi f t o es K lo' hi' f' t' o' fs = (!(fs.any fun v => haF K lo hi f t o es v.k v.i v.t) && (if K = 2 then !bytesLess f f' && (o' || (!o && !bytesLess t' t)) else decide (lo' <= lo) && decide (hi <= hi')))) := by
   show _ = _
   unfold inF
   rw [if_neg (by simp [h0, h4]), if_neg (by simp)]
  go_enter Try.func12, Try.ntmps12
  go_wp2_with fail
  generalize ((w.alloc (.cells #[.int .i64 K, .int .i64 lo, .int .i64 hi, .string ⟨f.toArray⟩, .string ⟨t.toArray⟩, .bool o, .slice A n c] 29)).alloc (.cells #[.int .i64 K, .int .i64 lo', .int .i64 hi', .string ⟨f'.toArray⟩, .string ⟨t'.toArray⟩, .bool o', .slice A' n' c'] 29)) = w0 at *
  generalize w.heap.size = g0 at *
  go_loopg [5] n' (fun gg s5 wr => ∃ q : Nat, q <= n' /\ n' - q <= gg /\ s5 = .int .i64 (q : Int) /\ Hid (Grown w0 wr) /\ Hid (((fs.take q).any fun v => haF K lo hi f t o es v.k v.i v.t) = false))
  case atStart => exact ⟨0, Nat.zero_le _, by omega, rfl, Grown.refl w0, by show _ = _; rfl⟩
  case round =>
   obtain ⟨q, hq, hgg, rfl, HG, HA⟩ := hrel
   have hl1 := (Blk.below hX HG.out.below hX.lt).lt
   have hl2 := (Blk.below hY HG.out.below hY.lt).lt
   obtain ⟨a0, a1, a2, a3, a4, a5, a6, _⟩ := blk7 (Blk.below hX HG.out.below hX.lt)
   obtain ⟨b0, b1, b2, b3, b4, b5, b6, _⟩ := blk7 (Blk.below hY HG.out.below hY.lt)
   by_cases hlt : q < n'
   ·have hk' : q < fs.length := by rw [HN'.out]; exact hlt
    obtain ⟨g, off, rfl, hg, c0, c1, c2⟩ := RdW.at3 (HR'.out.below HG.out.below) hk'
    obtain ⟨x, hx⟩ : ∃ x, fs[q] = x := ⟨_, rfl⟩
    have HX := Lib.hid hx
    have hxl : x.t.length <= 9223372036854775807 := HV.out x (hx ▸ List.getElem_mem hk')
    rw [hx] at c0 c1 c2
    clear hx
    obtain ⟨xk, xi, xt⟩ := x
    have w5 : (q : Int) < (n' : Int) := by omega
    have hS0 : (fun w' => w'.cell? ⟨g0, 0, none⟩ = some (.int .i64 K) /\ w'.cell? ⟨g0, 1, none⟩ = some (.int .i64 lo) /\ w'.cell? ⟨g0, 2, none⟩ = some (.int .i64 hi) /\ w'.cell? ⟨g0, 3, none⟩ = some (.string ⟨f.toArray⟩) /\ w'.cell? ⟨g0, 4, none⟩ = some (.string ⟨t.toArray⟩) /\ w'.cell? ⟨g0, 5, none⟩ = some (.bool o) /\ w'.cell? ⟨g0, 6, none⟩ = some (.slice A n c) /\ w'.cell? ⟨g0 + 1, 6, none⟩ = some (.slice (some ⟨g, off, none⟩) n' c') /\ w'.cell? ⟨g, off + q * 3, none⟩ = some (.int .i64 xk) /\ w'.cell? ⟨g, off + q * 3 + 1, none⟩ = some (.int .i64 xi) /\ w'.cell? ⟨g, off + q * 3 + 2, none⟩ = some (.string ⟨xt.toArray⟩)) wr.drew := ⟨a0, a1, a2, a3, a4, a5, a6, b6, c0, c1, c2⟩
    go_wp2_with fail
    refine wp_region_held_drew (S := fun w' => w'.cell? ⟨g0, 0, none⟩ = some (.int .i64 K) /\ w'.cell? ⟨g0, 1, none⟩ = some (.int .i64 lo) /\ w'.cell? ⟨g0, 2, none⟩ = some (.int .i64 hi) /\ w'.cell? ⟨g0, 3, none⟩ = some (.string ⟨f.toArray⟩) /\ w'.cell? ⟨g0, 4, none⟩ = some (.string ⟨t.toArray⟩) /\ w'.cell? ⟨g0, 5, none⟩ = some (.bool o) /\ w'.cell? ⟨g0, 6, none⟩ = some (.slice A n c) /\ w'.cell? ⟨g0 + 1, 6, none⟩ = some (.slice (some ⟨g, off, none⟩) n' c') /\ w'.cell? ⟨g, off + q * 3, none⟩ = some (.int .i64 xk) /\ w'.cell? ⟨g, off + q * 3 + 1, none⟩ = some (.int .i64 xi) /\ w'.cell? ⟨g, off + q * 3 + 2, none⟩ = some (.string ⟨xt.toArray⟩)) (by kernel_rfl) hS0 (fun _ => ?_)
    refine wpAnyH_yes (i := 0) (d := 26) (v := ?_) rfl rfl (by kernel_rfl) (by kernel_rfl) (by kernel_rfl) (fun _ _ _ h => h) (by rfl) ?_ hS0 ?_
    rotate_left
    ·intro w' hSw; obtain ⟨m0, m1, m2, m3, m4, m5, m6, m7, m8, m9, m10⟩ := hSw; go_simp <;> with_reducible rfl
    simp only [Act.put, List.setIfInBounds_toArray, List.set_cons_zero, List.set_cons_succ]
    refine wpAnyH_yes (i := 1) (d := 27) (v := ?_) rfl rfl (by kernel_rfl) (by kernel_rfl) (by kernel_rfl) (fun _ _ _ h => h) (by rfl) ?_ hS0 ?_
    rotate_left
    ·intro w' hSw; obtain ⟨m0, m1, m2, m3, m4, m5, m6, m7, m8, m9, m10⟩ := hSw; go_simp <;> with_reducible rfl
    simp only [Act.put, List.setIfInBounds_toArray, List.set_cons_zero, List.set_cons_succ]
    refine wpAnyH_yes (i := 2) (d := 28) (v := ?_) rfl rfl (by kernel_rfl) (by kernel_rfl) (by kernel_rfl) (fun _ _ _ h => h) (by rfl) ?_ hS0 ?_
    rotate_left
    ·intro w' hSw; obtain ⟨m0, m1, m2, m3, m4, m5, m6, m7, m8, m9, m10⟩ := hSw; go_simp <;> with_reducible rfl
    simp only [Act.put, List.setIfInBounds_toArray, List.set_cons_zero, List.set_cons_succ]
    refine wpAnyH_yes (i := 3) (d := 29) (v := ?_) rfl rfl (by kernel_rfl) (by kernel_rfl) (by kernel_rfl) (fun _ _ _ h => h) (by rfl) ?_ hS0 ?_
    rotate_left
    ·intro w' hSw; obtain ⟨m0, m1, m2, m3, m4, m5, m6, m7, m8, m9, m10⟩ := hSw; go_simp <;> with_reducible rfl
    simp only [Act.put, List.setIfInBounds_toArray, List.set_cons_zero, List.set_cons_succ]
    refine wpAnyH_yes (i := 4) (d := 30) (v := ?_) rfl rfl (by kernel_rfl) (by kernel_rfl) (by kernel_rfl) (fun _ _ _ h => h) (by rfl) ?_ hS0 ?_
    rotate_left
    ·intro w' hSw; obtain ⟨m0, m1, m2, m3, m4, m5, m6, m7, m8, m9, m10⟩ := hSw; go_simp <;> with_reducible rfl
    simp only [Act.put, List.setIfInBounds_toArray, List.set_cons_zero, List.set_cons_succ]
    refine wpAnyH_yes (i := 5) (d := 31) (v := ?_) rfl rfl (by kernel_rfl) (by kernel_rfl) (by kernel_rfl) (fun _ _ _ h => h) (by rfl) ?_ hS0 ?_
    rotate_left
    ·intro w' hSw; obtain ⟨m0, m1, m2, m3, m4, m5, m6, m7, m8, m9, m10⟩ := hSw; go_simp <;> with_reducible rfl
    simp only [Act.put, List.setIfInBounds_toArray, List.set_cons_zero, List.set_cons_succ]
    refine wpAnyH_one (i := 6) (by kernel_rfl) rfl (by rfl) (fun Kx hK6 => ?_)
    go_simp
    with_reducible refine (rhasF_at K lo hi f t o A n c es xk xi xt wr.drew HN.out hm hxl hf ht (HR.out.below HG.out.drew.below)).mono ?_
    rintro e w2 ⟨rfl, hg2⟩
    have HG2 := Lib.hid (HG.out.drew.trans hg2)
    have hS2 : (fun w' => w'.cell? ⟨g0, 0, none⟩ = some (.int .i64 K) /\ w'.cell? ⟨g0, 1, none⟩ = some (.int .i64 lo) /\ w'.cell? ⟨g0, 2, none⟩ = some (.int .i64 hi) /\ w'.cell? ⟨g0, 3, none⟩ = some (.string ⟨f.toArray⟩) /\ w'.cell? ⟨g0, 4, none⟩ = some (.string ⟨t.toArray⟩) /\ w'.cell? ⟨g0, 5, none⟩ = some (.bool o) /\ w'.cell? ⟨g0, 6, none⟩ = some (.slice A n c) /\ w'.cell? ⟨g0 + 1, 6, none⟩ = some (.slice (some ⟨g, off, none⟩) n' c') /\ w'.cell? ⟨g, off + q * 3, none⟩ = some (.int .i64 xk) /\ w'.cell? ⟨g, off + q * 3 + 1, none⟩ = some (.int .i64 xi) /\ w'.cell? ⟨g, off + q * 3 + 2, none⟩ = some (.string ⟨xt.toArray⟩)) w2 := by
     obtain ⟨a0, a1, a2, a3, a4, a5, a6, _⟩ := blk7 (Blk.below hX HG2.out.below hX.lt)
     obtain ⟨_, _, _, _, _, _, b6, _⟩ := blk7 (Blk.below hY HG2.out.below hY.lt)
     exact ⟨a0, a1, a2, a3, a4, a5, a6, b6, (hg2.below.cell (p := ⟨g, off + q * 3, none⟩) hg).trans c0, (hg2.below.cell (p := ⟨g, off + q * 3 + 1, none⟩) hg).trans c1, (hg2.below.cell (p := ⟨g, off + q * 3 + 2, none⟩) hg).trans c2⟩
    go_wp2_with fail
    refine hK6.out _ _ hS2 ?_
    refine wpAnyH_done (by kernel_rfl) ?_ _
    clear a0 a1 a2 a3 a4 a5 a6 b0 b1 b2 b3 b4 b5 b6 c0 c1 c2 hS0 hS2 w5
    cases hh : haF K lo hi f t o es xk xi xt with
    | true =>
     have HM : Hid ((fs.any fun v => haF K lo hi f t o es v.k v.i v.t) = true) := List.any_eq_true.2 ⟨⟨xk, xi, xt⟩, by rw [<- HX.out]; exact List.getElem_mem hk', hh⟩
     clear hh
     go_wp2_with fail
     go_ret
     exact ⟨ret_b (by rw [HIN.out, HM.out]; rfl), HG0.out.trans HG2.out⟩
    | false =>
     have HQ : Hid (((fs.take (q + 1)).any fun v => haF K lo hi f t o es v.k v.i v.t) = false) := by
      show _ = _
      rw [takeS hk', HX.out, List.any_append, HA.out]
      simp [hh]
     clear hh
     go_wp2_with fail
     go_roundg (n' - (q + 1))
     case measure => omega
     case rel => exact ⟨q + 1, by omega, Nat.le_refl _, by go_num, HG2, HQ⟩
   ·have hkn : q = n' := by omega
    have HAN : Hid (inF K lo hi f t o es K lo' hi' f' t' o' fs = (if K = 2 then !bytesLess f f' && (o' || (!o && !bytesLess t' t)) else decide (lo' <= lo) && decide (hi <= hi'))) := by
     show _ = _
     have := HA.out
     rw [hkn, List.take_of_length_le (by rw [HN'.out]; exact Nat.le_refl _)] at this
     rw [HIN.out, this]
     rfl
    clear hkn
    by_cases h2 : K = 2
    ·subst h2
     obtain ⟨z1, hz1⟩ : ∃ z, Vals.cmpT f f' = z := ⟨_, rfl⟩
     have HZ1 := Lib.hid hz1
     clear hz1
     go_wp2_with fail
     refine (textG_at f f' hf hf' wr).mono ?_
     rintro e w3 ⟨rfl, hg3⟩
     rw [HZ1.out]
     have HG3 := Lib.hid (HG.out.trans hg3)
     clear a0 a1 a2 a3 a4 a5 a6 b0 b1 b2 b3 b4 b5 b6 hl1 hl2
     have hl1 := (Blk.below hX HG3.out.below hX.lt).lt
     have hl2 := (Blk.below hY HG3.out.below hY.lt).lt
     obtain ⟨a0, a1, a2, a3, a4, a5, a6, _⟩ := blk7 (Blk.below hX HG3.out.below hX.lt)
     obtain ⟨b0, b1, b2, b3, b4, b5, b6, _⟩ := blk7 (Blk.below hY HG3.out.below hY.lt)
     cases hlf : bytesLess f f' with
     | true =>
      have u5 : decide (0 <= z1) = false := decide_eq_false (by rw [<- HZ1.out]; have := (cmpT_neg_iff f f').2 hlf; omega)
      have HLF := Lib.hid hlf
      clear hlf
      go_wp2_with fail
      go_ret
      exact ⟨ret_b (by rw [HAN.out, if_pos True.intro, HLF.out]; rfl), HG0.out.trans HG3.out⟩
     | false =>
      have u5 : decide (0 <= z1) = true := decide_eq_true (by rw [<- HZ1.out]; have : ¬ Vals.cmpT f f' < 0 := (fun h => by have := (cmpT_neg_iff f f').1 h; rw [hlf] at this; cases this); omega)
      have HLF := Lib.hid hlf
      clear hlf
      cases o' with
      | true =>
       go_wp2_with fail
       go_ret
       exact ⟨ret_b (by rw [HAN.out, if_pos True.intro, HLF.out]; rfl), HG0.out.trans HG3.out⟩
      | false =>
       cases o with
       | true =>
        go_wp2_with fail
        go_ret
        exact ⟨ret_b (by rw [HAN.out, if_pos True.intro, HLF.out]; rfl), HG0.out.trans HG3.out⟩
       | false =>
        obtain ⟨z2, hz2⟩ : ∃ z, Vals.cmpT t t' = z := ⟨_, rfl⟩
        have HZ2 := Lib.hid hz2
        clear hz2
        go_wp2_with fail
        refine (textG_at t t' ht ht' w3).mono ?_
        rintro e w4 ⟨rfl, hg4⟩
        rw [HZ2.out]
        have HG4 := Lib.hid (HG3.out.trans hg4)
        cases hlt : bytesLess t' t with
        | true =>
         have u6 : decide (z2 <= 0) = false := decide_eq_false (by rw [<- HZ2.out]; have := (cmpT_pos_iff t t').2 hlt; omega)
         have HLT := Lib.hid hlt
         clear hlt
         go_wp2_with fail
         go_ret
         exact ⟨ret_b (by rw [HAN.out, if_pos True.intro, HLF.out, HLT.out]; rfl), HG0.out.trans HG4.out⟩
        | false =>
         have u6 : decide (z2 <= 0) = true := decide_eq_true (by rw [<- HZ2.out]; exact (Vals.cmpT_le t t').2 hlt)
         have HLT := Lib.hid hlt
         clear hlt
         go_wp2_with fail
         go_ret
         exact ⟨ret_b (by rw [HAN.out, if_pos True.intro, HLF.out, HLT.out]; rfl), HG0.out.trans HG4.out⟩
    ·have q2 : (K == 2) = false := beq_eq_false_iff_ne.2 h2
     by_cases ha : lo' <= lo
     ·have d1 : decide (lo' <= lo) = true := decide_eq_true ha
      by_cases hb : hi <= hi'
      ·have d2 : decide (hi <= hi') = true := decide_eq_true hb
       go_wp2_with fail
       go_ret
       exact ⟨ret_b (by rw [HAN.out, if_neg h2, d1, d2]; rfl), HG0.out.trans HG.out⟩
      ·have d2 : decide (hi <= hi') = false := decide_eq_false hb
       go_wp2_with fail
       go_ret
       exact ⟨ret_b (by rw [HAN.out, if_neg h2, d1, d2]; rfl), HG0.out.trans HG.out⟩
     ·have d1 : decide (lo' <= lo) = false := decide_eq_false ha
      go_wp2_with fail
      go_ret
      exact ⟨ret_b (by rw [HAN.out, if_neg h2, d1]; rfl), HG0.out.trans HG.out⟩
 ·have qk : (K == K') = false := beq_eq_false_iff_ne.2 hkk
  go_enter Try.func12, Try.ntmps12
  go_wp2_with fail
  go_ret
  exact ⟨ret_b (by simp [inF, h0, h4, hkk]), HG0.out⟩
end Go.Proofs.Ytoffnfooeojhnaa
namespace Go.Proofs.Ytoffnfooeojhnaa
open Go.RowKit Go.Sort Spans Op
theorem canon_bd {a : Sp} (h : Canon a) : a.frm.length <= 33 /\ a.to_.length <= 33 /\ -9223372036854775808 <= a.lo /\ a.lo <= 9223372036854775807 /\ -9223372036854775808 <= a.hi /\ a.hi <= 9223372036854775807 := by
 rcases h with rfl | rfl | h | h
 ·simp [none_]
 ·simp [any_]
 ·have h1 := h.low
  have h2 := h.ord
  have h3 := h.high
  have h4 : -9223372036854775808 <= lowest a.kind := by unfold lowest; split <;> omega
  have h5 : highest a.kind <= 9223372036854775807 := by unfold highest; split <;> omega
  rw [h.frm, h.to_]
  simp
  omega
 ·refine ⟨h.flen.len, ?_, by rw [h.lo]; decide, by rw [h.lo]; decide, by rw [h.hi]; decide, by rw [h.hi]; decide⟩
  cases ho : a.opn with
  | true => rw [h.isOpn ho]; simp
  | false => exact (h.shut ho).1.len
theorem inF_is {a b : Sp} (ha : Canon a) (hb : Canon b) : inF a.kind a.lo a.hi a.frm a.to_ a.opn a.no b.kind b.lo b.hi b.frm b.to_ b.opn b.no = inn a b := by
 unfold inF inn
 have e : (b.no.any fun v => haF a.kind a.lo a.hi a.frm a.to_ a.opn a.no v.k v.i v.t) = b.no.any fun v => has a v := by
  have h1 : ∀ v ∈ b.no, haF a.kind a.lo a.hi a.frm a.to_ a.opn a.no v.k v.i v.t = has a v := fun v hv => by
   have h2 := (rightV_iff v).1 (no_right hb v hv).1
   exact haF_is ha h2.2.1 h2.2.2
  rw [Bool.eq_iff_iff, List.any_eq_true, List.any_eq_true]
  exact ⟨fun ⟨v, hv, h⟩ => ⟨v, hv, (h1 v hv) ▸ h⟩, fun ⟨v, hv, h⟩ => ⟨v, hv, (h1 v hv).symm ▸ h⟩⟩
 rw [e]
theorem rin_at (a b : Sp) (ha : Canon a) (hb : Canon b) (A : Option Addr) (n c : Nat) (A' : Option Addr) (n' c' : Nat) (w : World) (hn : a.no.length = n) (hm : n <= 100000) (hn' : b.no.length = n') (hm' : n' <= 100000) (hr : RdW w A a.no) (hr' : RdW w A' b.no) (q : Bool) (hq : inn a b = q) :
  Calls Try.prog 12 #[spF a.kind a.lo a.hi a.frm a.to_ a.opn A n c, spF b.kind b.lo b.hi b.frm b.to_ b.opn A' n' c'] w fun e w' => e = .returned (.bool q) /\ Grown w w' := by
 subst hq
 rw [<- inF_is ha hb]
 have h1 := canon_bd ha
 have h2 := canon_bd hb
 exact rinF_at _ _ _ _ _ _ A n c _ _ _ _ _ _ _ A' n' c' _ w hn hm hn' hm' (by omega) (by omega) (by omega) (by omega) (fun v hv => by have := (no_right hb v hv).2; omega) hr hr'
theorem rhas_at (a : Sp) (ha : Canon a) (A : Option Addr) (n c : Nat) (v : Val) (w : World) (hn : a.no.length = n) (hm : n <= 100000) (hx : v.t.length <= 9223372036854775807) (h1 : -9223372036854775808 <= v.i) (h2 : v.i <= 9223372036854775807) (hr : RdW w A a.no) (b : Bool) (hb : has a v = b) :
  Calls Try.prog 14 #[spF a.kind a.lo a.hi a.frm a.to_ a.opn A n c, .agg #[.int .i64 v.k, .int .i64 v.i, .string ⟨v.t.toArray⟩]] w fun e w' => e = .returned (.bool b) /\ Grown w w' := by
 subst hb
 rw [<- haF_is ha h1 h2]
 have h3 := canon_bd ha
 exact rhasF_at _ _ _ _ _ _ A n c _ _ _ _ w hn hm hx (by omega) (by omega) hr
theorem rdk_own' {α : Type} {L : Lay α} {w : World} {base : Nat} {A : Option Addr} {n c : Nat} {es : List α} (h : OwnK L w base (.slice A n c) es) : RdK L w A es := by
 obtain ⟨B, d, e, _, hr⟩ := h.rd
 injection e with e1 _ _
 subst e1
 exact hr
/-- A span is handed back, whose row lies behind a place. -/
def GivesB (base : Nat) (w : World) (a : Sp) (e : Ending) (w' : World) : Prop := ∃ A n c, e = .returned (spF a.kind a.lo a.hi a.frm a.to_ a.opn A n c) /\ a.no.length = n /\ n <= c /\ OwnW w' base (.slice A n c) a.no /\ Below w.heap.size w w'
theorem Gives.b {base : Nat} {w w' : World} {a : Sp} {e : Ending} (h : Gives w a e w') (hb : base <= w.heap.size) : GivesB base w a e w' := by
 obtain ⟨A, n, c, h1, h2, h3, h4, h5⟩ := h
 exact ⟨A, n, c, h1, h2, h3, h4.less hb, h5⟩
end Go.Proofs.Ytoffnfooeojhnaa
namespace Go.Proofs.Ytoffnfooeojhnaa
open Go.RowKit Go.Sort Spans Op
set_option maxRecDepth 100000 in
set_option maxHeartbeats 400000 in
theorem rmeet_left (lo hi : Int) (f t : List UInt8) (o : Bool) (A : Option Addr) (n c : Nat) (K' lo' hi' : Int) (f' t' : List UInt8) (o' : Bool) (A' : Option Addr) (n' c' : Nat) (w : World) :
  Calls Try.prog 10 #[.agg #[.int .i64 4, .int .i64 lo, .int .i64 hi, .string ⟨f.toArray⟩, .string ⟨t.toArray⟩, .bool o, .slice A n c], .agg #[.int .i64 K', .int .i64 lo', .int .i64 hi', .string ⟨f'.toArray⟩, .string ⟨t'.toArray⟩, .bool o', .slice A' n' c']] w fun e w' => e = .returned (spF K' lo' hi' f' t' o' A' n' c') /\ Below w.heap.size w w' := by
 have hgr := gr3 w (.cells #[.int .i64 4, .int .i64 lo, .int .i64 hi, .string ⟨f.toArray⟩, .string ⟨t.toArray⟩, .bool o, .slice A n c] 29) (.cells #[.int .i64 K', .int .i64 lo', .int .i64 hi', .string ⟨f'.toArray⟩, .string ⟨t'.toArray⟩, .bool o', .slice A' n' c'] 29) (.cells #[.int .i64 0, .int .i64 0, .int .i64 0, .string ⟨#[]⟩, .string ⟨#[]⟩, .bool false, .slice none 0 0] 29)
 have hX := ((Blk.new w 29 #[.int .i64 4, .int .i64 lo, .int .i64 hi, .string ⟨f.toArray⟩, .string ⟨t.toArray⟩, .bool o, .slice A n c]).alloc (.cells #[.int .i64 K', .int .i64 lo', .int .i64 hi', .string ⟨f'.toArray⟩, .string ⟨t'.toArray⟩, .bool o', .slice A' n' c'] 29)).alloc (.cells #[.int .i64 0, .int .i64 0, .int .i64 0, .string ⟨#[]⟩, .string ⟨#[]⟩, .bool false, .slice none 0 0] 29)
 have hX2 := (Blk.new (w.alloc (.cells #[.int .i64 4, .int .i64 lo, .int .i64 hi, .string ⟨f.toArray⟩, .string ⟨t.toArray⟩, .bool o, .slice A n c] 29)) 29 #[.int .i64 K', .int .i64 lo', .int .i64 hi', .string ⟨f'.toArray⟩, .string ⟨t'.toArray⟩, .bool o', .slice A' n' c']).alloc (.cells #[.int .i64 0, .int .i64 0, .int .i64 0, .string ⟨#[]⟩, .string ⟨#[]⟩, .bool false, .slice none 0 0] 29)
 have hY := Blk.new ((w.alloc (.cells #[.int .i64 4, .int .i64 lo, .int .i64 hi, .string ⟨f.toArray⟩, .string ⟨t.toArray⟩, .bool o, .slice A n c] 29)).alloc (.cells #[.int .i64 K', .int .i64 lo', .int .i64 hi', .string ⟨f'.toArray⟩, .string ⟨t'.toArray⟩, .bool o', .slice A' n' c'] 29)) 29 #[.int .i64 0, .int .i64 0, .int .i64 0, .string ⟨#[]⟩, .string ⟨#[]⟩, .bool false, .slice none 0 0]
 rw [show (w.alloc (.cells #[.int .i64 4, .int .i64 lo, .int .i64 hi, .string ⟨f.toArray⟩, .string ⟨t.toArray⟩, .bool o, .slice A n c] 29)).heap.size = w.heap.size + 1 by simp] at hX2
 rw [show ((w.alloc (.cells #[.int .i64 4, .int .i64 lo, .int .i64 hi, .string ⟨f.toArray⟩, .string ⟨t.toArray⟩, .bool o, .slice A n c] 29)).alloc (.cells #[.int .i64 K', .int .i64 lo', .int .i64 hi', .string ⟨f'.toArray⟩, .string ⟨t'.toArray⟩, .bool o', .slice A' n' c'] 29)).heap.size = w.heap.size + 2 by simp] at hY
 have BB := Lib.hid hgr.below
 have HX := Lib.hid hX
 have HX2 := Lib.hid hX2
 have HY := Lib.hid hY
 clear hgr hX hX2 hY
 obtain ⟨b0, b1, b2, b3, b4, b5, b6, _⟩ := blk7 HX2.out
 obtain ⟨z0, z1, z2, z3, z4, z5, z6, q0, q1, q2, q3, q4, q5, q6⟩ := blk7 HY.out
 have hlY := HY.out.lt
 have hlX := HX2.out.lt
 have a20 := HX.out.cell 0
 go_enter Try.func10, Try.ntmps10
 go_wp2_with fail
 refine bodyPost_ret (v := spF K' lo' hi' f' t' o' A' n' c') (by simp [results, Try.results10, go_sem]) rfl ?_
 exact ⟨rfl, (gr3 _ _ _ _).below⟩
set_option maxRecDepth 100000 in
set_option maxHeartbeats 400000 in
theorem rmeet_right (K lo hi : Int) (f t : List UInt8) (o : Bool) (A : Option Addr) (n c : Nat) (lo' hi' : Int) (f' t' : List UInt8) (o' : Bool) (A' : Option Addr) (n' c' : Nat) (w : World) (h4 : K ≠ 4) :
  Calls Try.prog 10 #[.agg #[.int .i64 K, .int .i64 lo, .int .i64 hi, .string ⟨f.toArray⟩, .string ⟨t.toArray⟩, .bool o, .slice A n c], .agg #[.int .i64 4, .int .i64 lo', .int .i64 hi', .string ⟨f'.toArray⟩, .string ⟨t'.toArray⟩, .bool o', .slice A' n' c']] w fun e w' => e = .returned (spF K lo hi f t o A n c) /\ Below w.heap.size w w' := by
 have hgr := gr3 w (.cells #[.int .i64 K, .int .i64 lo, .int .i64 hi, .string ⟨f.toArray⟩, .string ⟨t.toArray⟩, .bool o, .slice A n c] 29) (.cells #[.int .i64 4, .int .i64 lo', .int .i64 hi', .string ⟨f'.toArray⟩, .string ⟨t'.toArray⟩, .bool o', .slice A' n' c'] 29) (.cells #[.int .i64 0, .int .i64 0, .int .i64 0, .string ⟨#[]⟩, .string ⟨#[]⟩, .bool false, .slice none 0 0] 29)
 have hX := ((Blk.new w 29 #[.int .i64 K, .int .i64 lo, .int .i64 hi, .string ⟨f.toArray⟩, .string ⟨t.toArray⟩, .bool o, .slice A n c]).alloc (.cells #[.int .i64 4, .int .i64 lo', .int .i64 hi', .string ⟨f'.toArray⟩, .string ⟨t'.toArray⟩, .bool o', .slice A' n' c'] 29)).alloc (.cells #[.int .i64 0, .int .i64 0, .int .i64 0, .string ⟨#[]⟩, .string ⟨#[]⟩, .bool false, .slice none 0 0] 29)
 have hX2 := (Blk.new (w.alloc (.cells #[.int .i64 K, .int .i64 lo, .int .i64 hi, .string ⟨f.toArray⟩, .string ⟨t.toArray⟩, .bool o, .slice A n c] 29)) 29 #[.int .i64 4, .int .i64 lo', .int .i64 hi', .string ⟨f'.toArray⟩, .string ⟨t'.toArray⟩, .bool o', .slice A' n' c']).alloc (.cells #[.int .i64 0, .int .i64 0, .int .i64 0, .string ⟨#[]⟩, .string ⟨#[]⟩, .bool false, .slice none 0 0] 29)
 have hY := Blk.new ((w.alloc (.cells #[.int .i64 K, .int .i64 lo, .int .i64 hi, .string ⟨f.toArray⟩, .string ⟨t.toArray⟩, .bool o, .slice A n c] 29)).alloc (.cells #[.int .i64 4, .int .i64 lo', .int .i64 hi', .string ⟨f'.toArray⟩, .string ⟨t'.toArray⟩, .bool o', .slice A' n' c'] 29)) 29 #[.int .i64 0, .int .i64 0, .int .i64 0, .string ⟨#[]⟩, .string ⟨#[]⟩, .bool false, .slice none 0 0]
 rw [show (w.alloc (.cells #[.int .i64 K, .int .i64 lo, .int .i64 hi, .string ⟨f.toArray⟩, .string ⟨t.toArray⟩, .bool o, .slice A n c] 29)).heap.size = w.heap.size + 1 by simp] at hX2
 rw [show ((w.alloc (.cells #[.int .i64 K, .int .i64 lo, .int .i64 hi, .string ⟨f.toArray⟩, .string ⟨t.toArray⟩, .bool o, .slice A n c] 29)).alloc (.cells #[.int .i64 4, .int .i64 lo', .int .i64 hi', .string ⟨f'.toArray⟩, .string ⟨t'.toArray⟩, .bool o', .slice A' n' c'] 29)).heap.size = w.heap.size + 2 by simp] at hY
 have BB := Lib.hid hgr.below
 have HX := Lib.hid hX
 have HX2 := Lib.hid hX2
 have HY := Lib.hid hY
 clear hgr hX hX2 hY
 have v4 : (K == 4) = false := beq_eq_false_iff_ne.2 h4
 clear h4
 obtain ⟨b0, b1, b2, b3, b4, b5, b6, _⟩ := blk7 HX.out
 obtain ⟨z0, z1, z2, z3, z4, z5, z6, q0, q1, q2, q3, q4, q5, q6⟩ := blk7 HY.out
 have hlY := HY.out.lt
 have hlX := HX.out.lt
 have b20 := HX2.out.cell 0
 go_enter Try.func10, Try.ntmps10
 go_wp2_with fail
 refine bodyPost_ret (v := spF K lo hi f t o A n c) (by simp [results, Try.results10, go_sem]) rfl ?_
 exact ⟨rfl, (gr3 _ _ _ _).below⟩
set_option maxRecDepth 100000 in
set_option maxHeartbeats 400000 in
theorem rmeet_unlike (K lo hi : Int) (f t : List UInt8) (o : Bool) (A : Option Addr) (n c : Nat) (K' lo' hi' : Int) (f' t' : List UInt8) (o' : Bool) (A' : Option Addr) (n' c' : Nat) (w : World) (h4 : K ≠ 4) (h4' : K' ≠ 4) (hk : K ≠ K') :
  Calls Try.prog 10 #[.agg #[.int .i64 K, .int .i64 lo, .int .i64 hi, .string ⟨f.toArray⟩, .string ⟨t.toArray⟩, .bool o, .slice A n c], .agg #[.int .i64 K', .int .i64 lo', .int .i64 hi', .string ⟨f'.toArray⟩, .string ⟨t'.toArray⟩, .bool o', .slice A' n' c']] w fun e w' => e = .returned (spF 0 0 0 [] [] false none 0 0) /\ Below w.heap.size w w' := by
 have hgr := gr3 w (.cells #[.int .i64 K, .int .i64 lo, .int .i64 hi, .string ⟨f.toArray⟩, .string ⟨t.toArray⟩, .bool o, .slice A n c] 29) (.cells #[.int .i64 K', .int .i64 lo', .int .i64 hi', .string ⟨f'.toArray⟩, .string ⟨t'.toArray⟩, .bool o', .slice A' n' c'] 29) (.cells #[.int .i64 0, .int .i64 0, .int .i64 0, .string ⟨#[]⟩, .string ⟨#[]⟩, .bool false, .slice none 0 0] 29)
 have hX := ((Blk.new w 29 #[.int .i64 K, .int .i64 lo, .int .i64 hi, .string ⟨f.toArray⟩, .string ⟨t.toArray⟩, .bool o, .slice A n c]).alloc (.cells #[.int .i64 K', .int .i64 lo', .int .i64 hi', .string ⟨f'.toArray⟩, .string ⟨t'.toArray⟩, .bool o', .slice A' n' c'] 29)).alloc (.cells #[.int .i64 0, .int .i64 0, .int .i64 0, .string ⟨#[]⟩, .string ⟨#[]⟩, .bool false, .slice none 0 0] 29)
 have hX2 := (Blk.new (w.alloc (.cells #[.int .i64 K, .int .i64 lo, .int .i64 hi, .string ⟨f.toArray⟩, .string ⟨t.toArray⟩, .bool o, .slice A n c] 29)) 29 #[.int .i64 K', .int .i64 lo', .int .i64 hi', .string ⟨f'.toArray⟩, .string ⟨t'.toArray⟩, .bool o', .slice A' n' c']).alloc (.cells #[.int .i64 0, .int .i64 0, .int .i64 0, .string ⟨#[]⟩, .string ⟨#[]⟩, .bool false, .slice none 0 0] 29)
 have hY := Blk.new ((w.alloc (.cells #[.int .i64 K, .int .i64 lo, .int .i64 hi, .string ⟨f.toArray⟩, .string ⟨t.toArray⟩, .bool o, .slice A n c] 29)).alloc (.cells #[.int .i64 K', .int .i64 lo', .int .i64 hi', .string ⟨f'.toArray⟩, .string ⟨t'.toArray⟩, .bool o', .slice A' n' c'] 29)) 29 #[.int .i64 0, .int .i64 0, .int .i64 0, .string ⟨#[]⟩, .string ⟨#[]⟩, .bool false, .slice none 0 0]
 rw [show (w.alloc (.cells #[.int .i64 K, .int .i64 lo, .int .i64 hi, .string ⟨f.toArray⟩, .string ⟨t.toArray⟩, .bool o, .slice A n c] 29)).heap.size = w.heap.size + 1 by simp] at hX2
 rw [show ((w.alloc (.cells #[.int .i64 K, .int .i64 lo, .int .i64 hi, .string ⟨f.toArray⟩, .string ⟨t.toArray⟩, .bool o, .slice A n c] 29)).alloc (.cells #[.int .i64 K', .int .i64 lo', .int .i64 hi', .string ⟨f'.toArray⟩, .string ⟨t'.toArray⟩, .bool o', .slice A' n' c'] 29)).heap.size = w.heap.size + 2 by simp] at hY
 have BB := Lib.hid hgr.below
 have HX := Lib.hid hX
 have HX2 := Lib.hid hX2
 have HY := Lib.hid hY
 clear hgr hX hX2 hY
 have v4 : (K == 4) = false := beq_eq_false_iff_ne.2 h4
 have v4' : (K' == 4) = false := beq_eq_false_iff_ne.2 h4'
 have vk : (K != K') = true := by simpa using hk
 clear h4 h4' hk
 go_enter Try.func10, Try.ntmps10
 go_wp2_with fail
 refine bodyPost_ret (v := spF 0 0 0 [] [] false none 0 0) (by simp [results, Try.results10, go_sem]) rfl ?_
 exact ⟨rfl, (gr3 _ _ _ _).below⟩
set_option maxRecDepth 100000 in
set_option maxHeartbeats 400000 in
theorem rmeet_none (lo hi : Int) (f t : List UInt8) (o : Bool) (A : Option Addr) (n c : Nat) (lo' hi' : Int) (f' t' : List UInt8) (o' : Bool) (A' : Option Addr) (n' c' : Nat) (w : World) :
  Calls Try.prog 10 #[.agg #[.int .i64 0, .int .i64 lo, .int .i64 hi, .string ⟨f.toArray⟩, .string ⟨t.toArray⟩, .bool o, .slice A n c], .agg #[.int .i64 0, .int .i64 lo', .int .i64 hi', .string ⟨f'.toArray⟩, .string ⟨t'.toArray⟩, .bool o', .slice A' n' c']] w fun e w' => e = .returned (spF 0 0 0 [] [] false none 0 0) /\ Below w.heap.size w w' := by
 have hgr := gr3 w (.cells #[.int .i64 0, .int .i64 lo, .int .i64 hi, .string ⟨f.toArray⟩, .string ⟨t.toArray⟩, .bool o, .slice A n c] 29) (.cells #[.int .i64 0, .int .i64 lo', .int .i64 hi', .string ⟨f'.toArray⟩, .string ⟨t'.toArray⟩, .bool o', .slice A' n' c'] 29) (.cells #[.int .i64 0, .int .i64 0, .int .i64 0, .string ⟨#[]⟩, .string ⟨#[]⟩, .bool false, .slice none 0 0] 29)
 have hX := ((Blk.new w 29 #[.int .i64 0, .int .i64 lo, .int .i64 hi, .string ⟨f.toArray⟩, .string ⟨t.toArray⟩, .bool o, .slice A n c]).alloc (.cells #[.int .i64 0, .int .i64 lo', .int .i64 hi', .string ⟨f'.toArray⟩, .string ⟨t'.toArray⟩, .bool o', .slice A' n' c'] 29)).alloc (.cells #[.int .i64 0, .int .i64 0, .int .i64 0, .string ⟨#[]⟩, .string ⟨#[]⟩, .bool false, .slice none 0 0] 29)
 have hX2 := (Blk.new (w.alloc (.cells #[.int .i64 0, .int .i64 lo, .int .i64 hi, .string ⟨f.toArray⟩, .string ⟨t.toArray⟩, .bool o, .slice A n c] 29)) 29 #[.int .i64 0, .int .i64 lo', .int .i64 hi', .string ⟨f'.toArray⟩, .string ⟨t'.toArray⟩, .bool o', .slice A' n' c']).alloc (.cells #[.int .i64 0, .int .i64 0, .int .i64 0, .string ⟨#[]⟩, .string ⟨#[]⟩, .bool false, .slice none 0 0] 29)
 have hY := Blk.new ((w.alloc (.cells #[.int .i64 0, .int .i64 lo, .int .i64 hi, .string ⟨f.toArray⟩, .string ⟨t.toArray⟩, .bool o, .slice A n c] 29)).alloc (.cells #[.int .i64 0, .int .i64 lo', .int .i64 hi', .string ⟨f'.toArray⟩, .string ⟨t'.toArray⟩, .bool o', .slice A' n' c'] 29)) 29 #[.int .i64 0, .int .i64 0, .int .i64 0, .string ⟨#[]⟩, .string ⟨#[]⟩, .bool false, .slice none 0 0]
 rw [show (w.alloc (.cells #[.int .i64 0, .int .i64 lo, .int .i64 hi, .string ⟨f.toArray⟩, .string ⟨t.toArray⟩, .bool o, .slice A n c] 29)).heap.size = w.heap.size + 1 by simp] at hX2
 rw [show ((w.alloc (.cells #[.int .i64 0, .int .i64 lo, .int .i64 hi, .string ⟨f.toArray⟩, .string ⟨t.toArray⟩, .bool o, .slice A n c] 29)).alloc (.cells #[.int .i64 0, .int .i64 lo', .int .i64 hi', .string ⟨f'.toArray⟩, .string ⟨t'.toArray⟩, .bool o', .slice A' n' c'] 29)).heap.size = w.heap.size + 2 by simp] at hY
 have BB := Lib.hid hgr.below
 have HX := Lib.hid hX
 have HX2 := Lib.hid hX2
 have HY := Lib.hid hY
 clear hgr hX hX2 hY
 go_enter Try.func10, Try.ntmps10
 go_wp2_with fail
 refine bodyPost_ret (v := spF 0 0 0 [] [] false none 0 0) (by simp [results, Try.results10, go_sem]) rfl ?_
 exact ⟨rfl, (gr3 _ _ _ _).below⟩
end Go.Proofs.Ytoffnfooeojhnaa
namespace Go.Proofs.Ytoffnfooeojhnaa
open Go.RowKit Go.Sort Spans Op
set_option maxRecDepth 100000 in
set_option maxHeartbeats 400000 in
theorem rmeet_1 (lo hi : Int) (A : Option Addr) (n c : Nat) (lo' hi' : Int) (A' : Option Addr) (n' c' : Nat) (w : World) (es fs : List Val) (hlow : lowest 1 <= max lo lo') (hhigh : min hi hi' <= highest 1) (hl : ∀ v ∈ es ++ fs, v.k = 1 /\ v.t = []) (hn : es.length = n) (hm : n <= 500) (hn' : fs.length = n') (hm' : n' <= 500) (hr : RdW w A es) (hr' : RdW w A' fs) :
  Calls Try.prog 10 #[spF 1 lo hi [] [] false A n c, spF 1 lo' hi' [] [] false A' n' c'] w (GivesS w (IsInts 1 (max lo lo') (min hi hi') (es ++ fs)) (n + n')) := by
 have HN := Lib.hid hn
 have HN' := Lib.hid hn'
 have R1 := Lib.hid hr
 have R2 := Lib.hid hr'
 have HLL := Lib.hid hl
 clear hn hn' hr hr' hl
 have hgr := gr3 w (.cells #[.int .i64 1, .int .i64 lo, .int .i64 hi, .string ⟨#[]⟩, .string ⟨#[]⟩, .bool false, .slice A n c] 29) (.cells #[.int .i64 1, .int .i64 lo', .int .i64 hi', .string ⟨#[]⟩, .string ⟨#[]⟩, .bool false, .slice A' n' c'] 29) (.cells #[.int .i64 0, .int .i64 0, .int .i64 0, .string ⟨#[]⟩, .string ⟨#[]⟩, .bool false, .slice none 0 0] 29)
 have hX := ((Blk.new w 29 #[.int .i64 1, .int .i64 lo, .int .i64 hi, .string ⟨#[]⟩, .string ⟨#[]⟩, .bool false, .slice A n c]).alloc (.cells #[.int .i64 1, .int .i64 lo', .int .i64 hi', .string ⟨#[]⟩, .string ⟨#[]⟩, .bool false, .slice A' n' c'] 29)).alloc (.cells #[.int .i64 0, .int .i64 0, .int .i64 0, .string ⟨#[]⟩, .string ⟨#[]⟩, .bool false, .slice none 0 0] 29)
 have hX2 := (Blk.new (w.alloc (.cells #[.int .i64 1, .int .i64 lo, .int .i64 hi, .string ⟨#[]⟩, .string ⟨#[]⟩, .bool false, .slice A n c] 29)) 29 #[.int .i64 1, .int .i64 lo', .int .i64 hi', .string ⟨#[]⟩, .string ⟨#[]⟩, .bool false, .slice A' n' c']).alloc (.cells #[.int .i64 0, .int .i64 0, .int .i64 0, .string ⟨#[]⟩, .string ⟨#[]⟩, .bool false, .slice none 0 0] 29)
 have hY := Blk.new ((w.alloc (.cells #[.int .i64 1, .int .i64 lo, .int .i64 hi, .string ⟨#[]⟩, .string ⟨#[]⟩, .bool false, .slice A n c] 29)).alloc (.cells #[.int .i64 1, .int .i64 lo', .int .i64 hi', .string ⟨#[]⟩, .string ⟨#[]⟩, .bool false, .slice A' n' c'] 29)) 29 #[.int .i64 0, .int .i64 0, .int .i64 0, .string ⟨#[]⟩, .string ⟨#[]⟩, .bool false, .slice none 0 0]
 rw [show (w.alloc (.cells #[.int .i64 1, .int .i64 lo, .int .i64 hi, .string ⟨#[]⟩, .string ⟨#[]⟩, .bool false, .slice A n c] 29)).heap.size = w.heap.size + 1 by simp] at hX2
 rw [show ((w.alloc (.cells #[.int .i64 1, .int .i64 lo, .int .i64 hi, .string ⟨#[]⟩, .string ⟨#[]⟩, .bool false, .slice A n c] 29)).alloc (.cells #[.int .i64 1, .int .i64 lo', .int .i64 hi', .string ⟨#[]⟩, .string ⟨#[]⟩, .bool false, .slice A' n' c'] 29)).heap.size = w.heap.size + 2 by simp] at hY
 have BB := Lib.hid hgr.below
 have HX := Lib.hid hX
 have HX2 := Lib.hid hX2
 have HY := Lib.hid hY
 clear hgr hX hX2 hY
 go_enter Try.func10, Try.ntmps10
 go_wp2_with fail
 generalize (((w.alloc (.cells #[.int .i64 1, .int .i64 lo, .int .i64 hi, .string ⟨#[]⟩, .string ⟨#[]⟩, .bool false, .slice A n c] 29)).alloc (.cells #[.int .i64 1, .int .i64 lo', .int .i64 hi', .string ⟨#[]⟩, .string ⟨#[]⟩, .bool false, .slice A' n' c'] 29)).alloc (.cells #[.int .i64 0, .int .i64 0, .int .i64 0, .string ⟨#[]⟩, .string ⟨#[]⟩, .bool false, .slice none 0 0] 29)) = w0 at *
 have hS0 : Blk w0.drew w.heap.size 29 #[.int .i64 1, .int .i64 lo, .int .i64 hi, .string ⟨#[]⟩, .string ⟨#[]⟩, .bool false, .slice A n c] /\ Blk w0.drew (w.heap.size + 1) 29 #[.int .i64 1, .int .i64 lo', .int .i64 hi', .string ⟨#[]⟩, .string ⟨#[]⟩, .bool false, .slice A' n' c'] := ⟨HX.out, HX2.out⟩
 refine wp_region_held_drew (S := fun w' => Blk w' w.heap.size 29 #[.int .i64 1, .int .i64 lo, .int .i64 hi, .string ⟨#[]⟩, .string ⟨#[]⟩, .bool false, .slice A n c] /\ Blk w' (w.heap.size + 1) 29 #[.int .i64 1, .int .i64 lo', .int .i64 hi', .string ⟨#[]⟩, .string ⟨#[]⟩, .bool false, .slice A' n' c']) (by kernel_rfl) hS0 (fun _ => ?_)
 refine wpAnyH_yes (i := 1) (d := 28) (v := ?_) rfl rfl (by kernel_rfl) (by kernel_rfl) (by kernel_rfl) (fun _ _ _ h => h) (by rfl) ?_ hS0 ?_
 rotate_left
 ·intro w' hSw; obtain ⟨r0, r1, r2, r3, r4, r5, r6, _⟩ := blk7 hSw.1; obtain ⟨m0, m1, m2, m3, m4, m5, m6, _⟩ := blk7 hSw.2; go_simp <;> with_reducible rfl
 simp only [Act.put, List.setIfInBounds_toArray, List.set_cons_zero, List.set_cons_succ]
 refine wpAnyH_yes (i := 2) (d := 29) (v := ?_) rfl rfl (by kernel_rfl) (by kernel_rfl) (by kernel_rfl) (fun _ _ _ h => h) (by rfl) ?_ hS0 ?_
 rotate_left
 ·intro w' hSw; obtain ⟨r0, r1, r2, r3, r4, r5, r6, _⟩ := blk7 hSw.1; obtain ⟨m0, m1, m2, m3, m4, m5, m6, _⟩ := blk7 hSw.2; go_simp <;> with_reducible rfl
 simp only [Act.put, List.setIfInBounds_toArray, List.set_cons_zero, List.set_cons_succ]
 refine wpAnyH_yes (i := 4) (d := 31) (v := ?_) rfl rfl (by kernel_rfl) (by kernel_rfl) (by kernel_rfl) (fun _ _ _ h => h) (by rfl) ?_ hS0 ?_
 rotate_left
 ·intro w' hSw; obtain ⟨r0, r1, r2, r3, r4, r5, r6, _⟩ := blk7 hSw.1; obtain ⟨m0, m1, m2, m3, m4, m5, m6, _⟩ := blk7 hSw.2; go_simp <;> with_reducible rfl
 simp only [Act.put, List.setIfInBounds_toArray, List.set_cons_zero, List.set_cons_succ]
 refine wpAnyH_yes (i := 5) (d := 32) (v := ?_) rfl rfl (by kernel_rfl) (by kernel_rfl) (by kernel_rfl) (fun _ _ _ h => h) (by rfl) ?_ hS0 ?_
 rotate_left
 ·intro w' hSw; obtain ⟨r0, r1, r2, r3, r4, r5, r6, _⟩ := blk7 hSw.1; obtain ⟨m0, m1, m2, m3, m4, m5, m6, _⟩ := blk7 hSw.2; go_simp <;> with_reducible rfl
 simp only [Act.put, List.setIfInBounds_toArray, List.set_cons_zero, List.set_cons_succ]
 have HX' := Lib.hid (Blk.below HX.out (show Below w0.heap.size w0 w0.drew from (Below.refl _ _).drew) HX.out.lt)
 have HX2' := Lib.hid (Blk.below HX2.out (show Below w0.heap.size w0 w0.drew from (Below.refl _ _).drew) HX2.out.lt)
 have HY' := Lib.hid (Blk.below HY.out (show Below w0.heap.size w0 w0.drew from (Below.refl _ _).drew) HY.out.lt)
 have BB' := Lib.hid BB.out.drew
 clear hS0 HX HX2 HY BB
 have HX := HX'
 clear HX'
 have HX2 := HX2'
 clear HX2'
 have HY := HY'
 clear HY'
 have BB := BB'
 clear BB'
 generalize w0.drew = wA at *
 refine wpAnyH_one (i := 0) (by kernel_rfl) rfl (by rfl) (fun K hK => ?_)
 go_simp
 have hO0 : OwnW (wA.alloc (.cells #[] 24)) wA.heap.size (.slice (some ⟨wA.heap.size, 0, none⟩) 0 0) [] := OwnK.empty wA wA.heap.size (Nat.le_refl _)
 have hb : Below wA.heap.size wA (wA.alloc (.cells #[] 24)) := (gr1 wA _).below
 have hs6 := hb.size
 have hB7 : w.heap.size <= wA.heap.size := BB.out.size
 have hlX := HX.out.lt
 have hlX2 := HX2.out.lt
 have hlY := HY.out.lt
 replace HX := Lib.hid (Blk.below HX.out hb HX.out.lt)
 replace HX2 := Lib.hid (Blk.below HX2.out hb HX2.out.lt)
 replace HY := Lib.hid (Blk.below HY.out hb HY.out.lt)
 replace BB := Lib.hid (below_next BB.out (Nat.le_refl _) hb)
 clear hb
 generalize (wA.alloc (.cells #[] 24)) = wB at *
 refine hK.out _ _ ⟨HX.out, HX2.out⟩ ?_
 clear hK
 generalize wA.heap.size = B7 at *
 have HN0 : Hid ((es : List Val).length = n) := HN
 refine wpAnyH_one (i := 3) (by kernel_rfl) rfl (by rfl) (fun K hK => ?_)
 refine op_append_k layV (.tmp 27) (.tmp 29) 27 underV (by rfl) B7 _ ([]) (by rfl) hO0 A (es) (n) (c) (by rfl) (RdK.below R1.out BB.out) HN.out (by rw [maxLen_num]; simp; omega) (by simp only [layV]; simp; omega) hs6 ?_
 intro v3 wC o7 hbx
 have hb7 : Below B7 wB wC := hbx wB (Below.refl _ _)
 clear hbx
 replace HX := Lib.hid (Blk.below HX.out hb7 (by omega))
 replace HX2 := Lib.hid (Blk.below HX2.out hb7 (by omega))
 replace HY := Lib.hid (Blk.below HY.out hb7 (by omega))
 replace BB := Lib.hid (BB.out.trans (hb7.mono (by omega)))
 replace hs6 := Nat.le_trans hs6 hb7.size
 clear hb7
 rw [List.nil_append] at o7
 obtain ⟨A7, c7, hv7, hc7, _⟩ := OwnK.form o7 HN.out
 subst hv7
 refine hK.out _ _ ⟨HX.out, HX2.out⟩ ?_
 clear hK hO0
 simp only [Act.put, List.setIfInBounds_toArray, List.set_cons_zero, List.set_cons_succ]
 refine wpAnyH_one (i := 6) (by kernel_rfl) rfl (by rfl) (fun K hK => ?_)
 refine op_append_k layV (.tmp 30) (.tmp 32) 27 underV (by rfl) B7 _ (es) (by rfl) o7 A' (fs) (n') (c') (by rfl) (RdK.below R2.out BB.out) HN'.out (by rw [maxLen_num]; rw [HN.out]; omega) (by simp only [layV]; rw [HN.out]; omega) hs6 ?_
 intro v6 wD o9 hbx
 have hb7 : Below B7 wC wD := hbx wC (Below.refl _ _)
 clear hbx
 replace HX := Lib.hid (Blk.below HX.out hb7 (by omega))
 replace HX2 := Lib.hid (Blk.below HX2.out hb7 (by omega))
 replace HY := Lib.hid (Blk.below HY.out hb7 (by omega))
 replace BB := Lib.hid (BB.out.trans (hb7.mono (by omega)))
 replace hs6 := Nat.le_trans hs6 hb7.size
 clear hb7
 obtain ⟨A9, c9, hv9, hc9, _⟩ := OwnK.form o9 (n := n + n') (by rw [List.length_append, HN.out, HN'.out])
 subst hv9
 have HO := Lib.hid o9
 clear o9 o7 HN0
 refine hK.out _ _ ⟨HX.out, HX2.out⟩ ?_
 clear hK
 simp only [Act.put, List.setIfInBounds_toArray, List.set_cons_zero, List.set_cons_succ]
 refine wpAnyH_yes (i := 7) (d := 5) (v := ?_) rfl rfl (by kernel_rfl) (by kernel_rfl) (by kernel_rfl) (fun _ _ _ h => h) (by rfl) ?_ ⟨HX.out, HX2.out⟩ ?_
 rotate_left
 ·intro w' hSw; obtain ⟨r0, r1, r2, r3, r4, r5, r6, _⟩ := blk7 hSw.1; obtain ⟨m0, m1, m2, m3, m4, m5, m6, _⟩ := blk7 hSw.2; go_simp <;> with_reducible rfl
 simp only [Act.put, List.setIfInBounds_toArray, List.set_cons_zero, List.set_cons_succ]
 refine wpAnyH_done (by kernel_rfl) ?_ _
 clear hs6 hlX hlX2 hlY
 obtain ⟨a0, a1, a2, a3, a4, a5, a6, _⟩ := blk7 HX.out
 obtain ⟨b0, b1, b2, b3, b4, b5, b6, _⟩ := blk7 HX2.out
 have hlX := HX.out.lt
 have hlX2 := HX2.out.lt
 go_wp2_with fail
 clear a0 a1 a2 a3 a4 a5 a6 b0 b1 b2 b3 b4 b5 b6 hlX hlX2
 refine (rints_at 1 (max lo lo') (min hi hi') A9 (es ++ fs) (n + n') c9 (by decide) hlow hhigh (by rw [List.length_append, HN.out, HN'.out]) (by omega) HLL.out wD (rdk_own' HO.out)).mono ?_
 rintro e wE ⟨⟨rK, rlo, rhi, rf, rt, ro, rno⟩, hin, hrl, A7, n7, c7, rfl, hl7, hc7, ho7, hb7⟩
 dsimp only at hrl hl7 ho7
 have HIN := Lib.hid hin
 clear hin
 have hY3 := Blk.below HY.out hb7 HY.out.lt
 have hB3 := below_next BB.out (Nat.le_refl _) hb7
 obtain ⟨u0, u1, u2, u3, u4, u5, u6, q0, q1, q2, q3, q4, q5, q6⟩ := blk7 hY3
 have hlY := hY3.lt
 have HL7 := Lib.hid hl7
 have HC7 := Lib.hid hc7
 have hs7 : w.heap.size + 2 < wD.heap.size := HY.out.lt
 have HO7 := Lib.hid ho7
 have HB3 := Lib.hid hB3
 clear hb7 hl7 hc7 ho7 hB3 hY3 HX HX2 HO
 go_wp2_with fail
 refine bodyPost_ret (v := spF rK rlo rhi rf rt ro A7 n7 c7) (by simp [results, Try.results10, go_sem, u0, u1, u2, u3, u4, u5, u6]) rfl ?_
 exact ⟨⟨rK, rlo, rhi, rf, rt, ro, rno⟩, HIN.out, by show rno.length <= n + n'; have := hrl; omega, A7, n7, c7, rfl, HL7.out, HC7.out, (OwnK.put7 HO7.out (by omega) _ _ _ _ _ _ _).less (by omega), below_put7 HB3.out (by omega) _ _ _ _ _ _ _⟩
end Go.Proofs.Ytoffnfooeojhnaa
namespace Go.Proofs.Ytoffnfooeojhnaa
open Go.RowKit Go.Sort Spans Op
theorem rtexts_is (frm to_ : List UInt8) (opn : Bool) (A : Option Addr) (l : List Val) (n c : Nat) (hf : Short frm) (ho : opn = true -> to_ = []) (ht : opn = false -> Short to_) (hn : l.length = n) (hm : n <= 1000) (hl : ∀ v ∈ l, v.k = 2 /\ v.i = 0 /\ v.t.length <= 32) (w : World) (hr : RdW w A l) :
  Calls Try.prog 28 #[.string ⟨frm.toArray⟩, .string ⟨to_.toArray⟩, .bool opn, .slice A n c] w (GivesS w (IsTexts frm to_ opn l) n) := by
 cases opn with
 | true => obtain rfl := ho rfl; exact rtexts_open frm A l n c hf hn hm hl w hr
 | false => exact rtexts_shut frm to_ A l n c hf (ht rfl) hn hm hl w hr
set_option maxRecDepth 100000 in
set_option maxHeartbeats 400000 in
theorem rmeet_2 (f t : List UInt8) (o : Bool) (A : Option Addr) (n c : Nat) (f' t' : List UInt8) (o' : Bool) (A' : Option Addr) (n' c' : Nat) (w : World) (es fs : List Val) (ff : List UInt8) (hf : maxT f f' = ff) (tt : List UInt8) (ht : (if o then t' else if o' then t else minT t t') = tt) (hshort : Short ff) (hop : (o && o') = true -> tt = []) (hsh : (o && o') = false -> Short tt) (hlf : f.length <= 9223372036854775807) (hlf' : f'.length <= 9223372036854775807) (hltt : t.length <= 9223372036854775807) (hlt' : t'.length <= 9223372036854775807) (hl : ∀ v ∈ es ++ fs, v.k = 2 /\ v.i = 0 /\ v.t.length <= 32) (hn : es.length = n) (hm : n <= 500) (hn' : fs.length = n') (hm' : n' <= 500) (hr : RdW w A es) (hr' : RdW w A' fs) :
  Calls Try.prog 10 #[spF 2 0 0 f t o A n c, spF 2 0 0 f' t' o' A' n' c'] w (GivesS w (IsTexts ff tt (o && o') (es ++ fs)) (n + n')) := by
 have HN := Lib.hid hn
 have HN' := Lib.hid hn'
 have R1 := Lib.hid hr
 have R2 := Lib.hid hr'
 have HLL := Lib.hid hl
 clear hn hn' hr hr' hl
 have HF := Lib.hid hf
 have HT := Lib.hid ht
 have HS := Lib.hid hshort
 have HOP := Lib.hid hop
 have HSH := Lib.hid hsh
 clear hf ht hshort hop hsh
 have hgr := gr3 w (.cells #[.int .i64 2, .int .i64 0, .int .i64 0, .string ⟨f.toArray⟩, .string ⟨t.toArray⟩, .bool o, .slice A n c] 29) (.cells #[.int .i64 2, .int .i64 0, .int .i64 0, .string ⟨f'.toArray⟩, .string ⟨t'.toArray⟩, .bool o', .slice A' n' c'] 29) (.cells #[.int .i64 0, .int .i64 0, .int .i64 0, .string ⟨#[]⟩, .string ⟨#[]⟩, .bool false, .slice none 0 0] 29)
 have hX := ((Blk.new w 29 #[.int .i64 2, .int .i64 0, .int .i64 0, .string ⟨f.toArray⟩, .string ⟨t.toArray⟩, .bool o, .slice A n c]).alloc (.cells #[.int .i64 2, .int .i64 0, .int .i64 0, .string ⟨f'.toArray⟩, .string ⟨t'.toArray⟩, .bool o', .slice A' n' c'] 29)).alloc (.cells #[.int .i64 0, .int .i64 0, .int .i64 0, .string ⟨#[]⟩, .string ⟨#[]⟩, .bool false, .slice none 0 0] 29)
 have hX2 := (Blk.new (w.alloc (.cells #[.int .i64 2, .int .i64 0, .int .i64 0, .string ⟨f.toArray⟩, .string ⟨t.toArray⟩, .bool o, .slice A n c] 29)) 29 #[.int .i64 2, .int .i64 0, .int .i64 0, .string ⟨f'.toArray⟩, .string ⟨t'.toArray⟩, .bool o', .slice A' n' c']).alloc (.cells #[.int .i64 0, .int .i64 0, .int .i64 0, .string ⟨#[]⟩, .string ⟨#[]⟩, .bool false, .slice none 0 0] 29)
 have hY := Blk.new ((w.alloc (.cells #[.int .i64 2, .int .i64 0, .int .i64 0, .string ⟨f.toArray⟩, .string ⟨t.toArray⟩, .bool o, .slice A n c] 29)).alloc (.cells #[.int .i64 2, .int .i64 0, .int .i64 0, .string ⟨f'.toArray⟩, .string ⟨t'.toArray⟩, .bool o', .slice A' n' c'] 29)) 29 #[.int .i64 0, .int .i64 0, .int .i64 0, .string ⟨#[]⟩, .string ⟨#[]⟩, .bool false, .slice none 0 0]
 rw [show (w.alloc (.cells #[.int .i64 2, .int .i64 0, .int .i64 0, .string ⟨f.toArray⟩, .string ⟨t.toArray⟩, .bool o, .slice A n c] 29)).heap.size = w.heap.size + 1 by simp] at hX2
 rw [show ((w.alloc (.cells #[.int .i64 2, .int .i64 0, .int .i64 0, .string ⟨f.toArray⟩, .string ⟨t.toArray⟩, .bool o, .slice A n c] 29)).alloc (.cells #[.int .i64 2, .int .i64 0, .int .i64 0, .string ⟨f'.toArray⟩, .string ⟨t'.toArray⟩, .bool o', .slice A' n' c'] 29)).heap.size = w.heap.size + 2 by simp] at hY
 have BB := Lib.hid hgr.below
 have HX := Lib.hid hX
 have HX2 := Lib.hid hX2
 have HY := Lib.hid hY
 clear hgr hX hX2 hY
 go_enter Try.func10, Try.ntmps10
 go_wp2_with fail
 generalize (((w.alloc (.cells #[.int .i64 2, .int .i64 0, .int .i64 0, .string ⟨f.toArray⟩, .string ⟨t.toArray⟩, .bool o, .slice A n c] 29)).alloc (.cells #[.int .i64 2, .int .i64 0, .int .i64 0, .string ⟨f'.toArray⟩, .string ⟨t'.toArray⟩, .bool o', .slice A' n' c'] 29)).alloc (.cells #[.int .i64 0, .int .i64 0, .int .i64 0, .string ⟨#[]⟩, .string ⟨#[]⟩, .bool false, .slice none 0 0] 29)) = w0 at *
 have hS0 : Blk w0.drew w.heap.size 29 #[.int .i64 2, .int .i64 0, .int .i64 0, .string ⟨f.toArray⟩, .string ⟨t.toArray⟩, .bool o, .slice A n c] /\ Blk w0.drew (w.heap.size + 1) 29 #[.int .i64 2, .int .i64 0, .int .i64 0, .string ⟨f'.toArray⟩, .string ⟨t'.toArray⟩, .bool o', .slice A' n' c'] := ⟨HX.out, HX2.out⟩
 refine wp_region_held_drew (S := fun w' => Blk w' w.heap.size 29 #[.int .i64 2, .int .i64 0, .int .i64 0, .string ⟨f.toArray⟩, .string ⟨t.toArray⟩, .bool o, .slice A n c] /\ Blk w' (w.heap.size + 1) 29 #[.int .i64 2, .int .i64 0, .int .i64 0, .string ⟨f'.toArray⟩, .string ⟨t'.toArray⟩, .bool o', .slice A' n' c']) (by kernel_rfl) hS0 (fun _ => ?_)
 refine wpAnyH_yes (i := 1) (d := 28) (v := ?_) rfl rfl (by kernel_rfl) (by kernel_rfl) (by kernel_rfl) (fun _ _ _ h => h) (by rfl) ?_ hS0 ?_
 rotate_left
 ·intro w' hSw; obtain ⟨r0, r1, r2, r3, r4, r5, r6, _⟩ := blk7 hSw.1; obtain ⟨m0, m1, m2, m3, m4, m5, m6, _⟩ := blk7 hSw.2; go_simp <;> with_reducible rfl
 simp only [Act.put, List.setIfInBounds_toArray, List.set_cons_zero, List.set_cons_succ]
 refine wpAnyH_yes (i := 2) (d := 29) (v := ?_) rfl rfl (by kernel_rfl) (by kernel_rfl) (by kernel_rfl) (fun _ _ _ h => h) (by rfl) ?_ hS0 ?_
 rotate_left
 ·intro w' hSw; obtain ⟨r0, r1, r2, r3, r4, r5, r6, _⟩ := blk7 hSw.1; obtain ⟨m0, m1, m2, m3, m4, m5, m6, _⟩ := blk7 hSw.2; go_simp <;> with_reducible rfl
 simp only [Act.put, List.setIfInBounds_toArray, List.set_cons_zero, List.set_cons_succ]
 refine wpAnyH_yes (i := 4) (d := 31) (v := ?_) rfl rfl (by kernel_rfl) (by kernel_rfl) (by kernel_rfl) (fun _ _ _ h => h) (by rfl) ?_ hS0 ?_
 rotate_left
 ·intro w' hSw; obtain ⟨r0, r1, r2, r3, r4, r5, r6, _⟩ := blk7 hSw.1; obtain ⟨m0, m1, m2, m3, m4, m5, m6, _⟩ := blk7 hSw.2; go_simp <;> with_reducible rfl
 simp only [Act.put, List.setIfInBounds_toArray, List.set_cons_zero, List.set_cons_succ]
 refine wpAnyH_yes (i := 5) (d := 32) (v := ?_) rfl rfl (by kernel_rfl) (by kernel_rfl) (by kernel_rfl) (fun _ _ _ h => h) (by rfl) ?_ hS0 ?_
 rotate_left
 ·intro w' hSw; obtain ⟨r0, r1, r2, r3, r4, r5, r6, _⟩ := blk7 hSw.1; obtain ⟨m0, m1, m2, m3, m4, m5, m6, _⟩ := blk7 hSw.2; go_simp <;> with_reducible rfl
 simp only [Act.put, List.setIfInBounds_toArray, List.set_cons_zero, List.set_cons_succ]
 have HX' := Lib.hid (Blk.below HX.out (show Below w0.heap.size w0 w0.drew from (Below.refl _ _).drew) HX.out.lt)
 have HX2' := Lib.hid (Blk.below HX2.out (show Below w0.heap.size w0 w0.drew from (Below.refl _ _).drew) HX2.out.lt)
 have HY' := Lib.hid (Blk.below HY.out (show Below w0.heap.size w0 w0.drew from (Below.refl _ _).drew) HY.out.lt)
 have BB' := Lib.hid BB.out.drew
 clear hS0 HX HX2 HY BB
 have HX := HX'
 clear HX'
 have HX2 := HX2'
 clear HX2'
 have HY := HY'
 clear HY'
 have BB := BB'
 clear BB'
 generalize w0.drew = wA at *
 refine wpAnyH_one (i := 0) (by kernel_rfl) rfl (by rfl) (fun K hK => ?_)
 go_simp
 have hO0 : OwnW (wA.alloc (.cells #[] 24)) wA.heap.size (.slice (some ⟨wA.heap.size, 0, none⟩) 0 0) [] := OwnK.empty wA wA.heap.size (Nat.le_refl _)
 have hb : Below wA.heap.size wA (wA.alloc (.cells #[] 24)) := (gr1 wA _).below
 have hs6 := hb.size
 have hB7 : w.heap.size <= wA.heap.size := BB.out.size
 have hlX := HX.out.lt
 have hlX2 := HX2.out.lt
 have hlY := HY.out.lt
 replace HX := Lib.hid (Blk.below HX.out hb HX.out.lt)
 replace HX2 := Lib.hid (Blk.below HX2.out hb HX2.out.lt)
 replace HY := Lib.hid (Blk.below HY.out hb HY.out.lt)
 replace BB := Lib.hid (below_next BB.out (Nat.le_refl _) hb)
 clear hb
 generalize (wA.alloc (.cells #[] 24)) = wB at *
 refine hK.out _ _ ⟨HX.out, HX2.out⟩ ?_
 clear hK
 generalize wA.heap.size = B7 at *
 have HN0 : Hid ((es : List Val).length = n) := HN
 refine wpAnyH_one (i := 3) (by kernel_rfl) rfl (by rfl) (fun K hK => ?_)
 refine op_append_k layV (.tmp 27) (.tmp 29) 27 underV (by rfl) B7 _ ([]) (by rfl) hO0 A (es) (n) (c) (by rfl) (RdK.below R1.out BB.out) HN.out (by rw [maxLen_num]; simp; omega) (by simp only [layV]; simp; omega) hs6 ?_
 intro v3 wC o7 hbx
 have hb7 : Below B7 wB wC := hbx wB (Below.refl _ _)
 clear hbx
 replace HX := Lib.hid (Blk.below HX.out hb7 (by omega))
 replace HX2 := Lib.hid (Blk.below HX2.out hb7 (by omega))
 replace HY := Lib.hid (Blk.below HY.out hb7 (by omega))
 replace BB := Lib.hid (BB.out.trans (hb7.mono (by omega)))
 replace hs6 := Nat.le_trans hs6 hb7.size
 clear hb7
 rw [List.nil_append] at o7
 obtain ⟨A7, c7, hv7, hc7, _⟩ := OwnK.form o7 HN.out
 subst hv7
 refine hK.out _ _ ⟨HX.out, HX2.out⟩ ?_
 clear hK hO0
 simp only [Act.put, List.setIfInBounds_toArray, List.set_cons_zero, List.set_cons_succ]
 refine wpAnyH_one (i := 6) (by kernel_rfl) rfl (by rfl) (fun K hK => ?_)
 refine op_append_k layV (.tmp 30) (.tmp 32) 27 underV (by rfl) B7 _ (es) (by rfl) o7 A' (fs) (n') (c') (by rfl) (RdK.below R2.out BB.out) HN'.out (by rw [maxLen_num]; rw [HN.out]; omega) (by simp only [layV]; rw [HN.out]; omega) hs6 ?_
 intro v6 wD o9 hbx
 have hb7 : Below B7 wC wD := hbx wC (Below.refl _ _)
 clear hbx
 replace HX := Lib.hid (Blk.below HX.out hb7 (by omega))
 replace HX2 := Lib.hid (Blk.below HX2.out hb7 (by omega))
 replace HY := Lib.hid (Blk.below HY.out hb7 (by omega))
 replace BB := Lib.hid (BB.out.trans (hb7.mono (by omega)))
 replace hs6 := Nat.le_trans hs6 hb7.size
 clear hb7
 obtain ⟨A9, c9, hv9, hc9, _⟩ := OwnK.form o9 (n := n + n') (by rw [List.length_append, HN.out, HN'.out])
 subst hv9
 have HO := Lib.hid o9
 clear o9 o7 HN0
 refine hK.out _ _ ⟨HX.out, HX2.out⟩ ?_
 clear hK
 simp only [Act.put, List.setIfInBounds_toArray, List.set_cons_zero, List.set_cons_succ]
 refine wpAnyH_yes (i := 7) (d := 5) (v := ?_) rfl rfl (by kernel_rfl) (by kernel_rfl) (by kernel_rfl) (fun _ _ _ h => h) (by rfl) ?_ ⟨HX.out, HX2.out⟩ ?_
 rotate_left
 ·intro w' hSw; obtain ⟨r0, r1, r2, r3, r4, r5, r6, _⟩ := blk7 hSw.1; obtain ⟨m0, m1, m2, m3, m4, m5, m6, _⟩ := blk7 hSw.2; go_simp <;> with_reducible rfl
 simp only [Act.put, List.setIfInBounds_toArray, List.set_cons_zero, List.set_cons_succ]
 refine wpAnyH_done (by kernel_rfl) ?_ _
 clear hs6 hlX hlX2 hlY
 obtain ⟨a0, a1, a2, a3, a4, a5, a6, _⟩ := blk7 HX.out
 obtain ⟨b0, b1, b2, b3, b4, b5, b6, _⟩ := blk7 HX2.out
 have hlX := HX.out.lt
 have hlX2 := HX2.out.lt
 obtain ⟨z1, hz1⟩ : ∃ z, Vals.cmpT f f' = z := ⟨_, rfl⟩
 have HZ1 := Lib.hid hz1
 clear hz1
 go_wp2_with fail
 refine (textG_at f f' hlf hlf' wD).mono ?_
 rintro e wE ⟨rfl, hg⟩
 rw [HZ1.out]
 have hb := hg.below
 clear hg
 clear a0 a1 a2 a3 a4 a5 a6 b0 b1 b2 b3 b4 b5 b6 hlX hlX2
 replace HX := Lib.hid (Blk.below HX.out hb HX.out.lt)
 replace HX2 := Lib.hid (Blk.below HX2.out hb HX2.out.lt)
 replace HY := Lib.hid (Blk.below HY.out hb HY.out.lt)
 replace BB := Lib.hid (below_next BB.out (Nat.le_refl _) hb)
 replace HO := Lib.hid (OwnK.below HO.out hb)
 clear hb
 obtain ⟨a0, a1, a2, a3, a4, a5, a6, _⟩ := blk7 HX.out
 obtain ⟨b0, b1, b2, b3, b4, b5, b6, _⟩ := blk7 HX2.out
 have hlX := HX.out.lt
 have hlX2 := HX2.out.lt
 cases hlt : bytesLess f f' with
 | true =>
  have u5 : decide (z1 < 0) = true := decide_eq_true (by rw [<- HZ1.out]; exact (cmpT_neg_iff f f').2 hlt)
  have HFF : Hid (f' = ff) := by show _ = _; rw [<- HF.out]; unfold maxT; rw [if_pos hlt]
  clear hlt
  cases o with
  | true =>
   cases o' with
   | true =>
    have HTT : Hid (t' = tt) := by show _ = _; rw [<- HT.out]; rfl
    go_wp2_with fail
    rw [HFF.out, HTT.out]
    clear a0 a1 a2 a3 a4 a5 a6 b0 b1 b2 b3 b4 b5 b6 hlX hlX2
    refine (rtexts_is ff tt true A9 (es ++ fs) (n + n') c9 HS.out (fun h => HOP.out (by first | exact h | cases h)) (fun h => HSH.out (by first | exact h | cases h)) (by rw [List.length_append, HN.out, HN'.out]) (by omega) HLL.out wE (rdk_own' HO.out)).mono ?_
    rintro e wF ⟨⟨rK, rlo, rhi, rf, rt, ro, rno⟩, hin, hrl, A7, n7, c7, rfl, hl7, hc7, ho7, hb7⟩
    dsimp only at hrl hl7 ho7
    have HIN := Lib.hid hin
    clear hin
    have hY3 := Blk.below HY.out hb7 HY.out.lt
    have hB3 := below_next BB.out (Nat.le_refl _) hb7
    obtain ⟨u0, u1, u2, u3, u4, u5, u6, q0, q1, q2, q3, q4, q5, q6⟩ := blk7 hY3
    have hlY := hY3.lt
    have HL7 := Lib.hid hl7
    have HC7 := Lib.hid hc7
    have hs7 : w.heap.size + 2 < wE.heap.size := HY.out.lt
    have HO7 := Lib.hid ho7
    have HB3 := Lib.hid hB3
    clear hb7 hl7 hc7 ho7 hB3 hY3 HX HX2 HO
    go_wp2_with fail
    refine bodyPost_ret (v := spF rK rlo rhi rf rt ro A7 n7 c7) (by simp [results, Try.results10, go_sem, u0, u1, u2, u3, u4, u5, u6]) rfl ?_
    exact ⟨⟨rK, rlo, rhi, rf, rt, ro, rno⟩, HIN.out, by show rno.length <= n + n'; have := hrl; omega, A7, n7, c7, rfl, HL7.out, HC7.out, (OwnK.put7 HO7.out (by omega) _ _ _ _ _ _ _).less (by omega), below_put7 HB3.out (by omega) _ _ _ _ _ _ _⟩
   | false =>
    have HTT : Hid (t' = tt) := by show _ = _; rw [<- HT.out]; rfl
    go_wp2_with fail
    rw [HFF.out, HTT.out]
    clear a0 a1 a2 a3 a4 a5 a6 b0 b1 b2 b3 b4 b5 b6 hlX hlX2
    refine (rtexts_is ff tt false A9 (es ++ fs) (n + n') c9 HS.out (fun h => HOP.out (by first | exact h | cases h)) (fun h => HSH.out (by first | exact h | cases h)) (by rw [List.length_append, HN.out, HN'.out]) (by omega) HLL.out wE (rdk_own' HO.out)).mono ?_
    rintro e wF ⟨⟨rK, rlo, rhi, rf, rt, ro, rno⟩, hin, hrl, A7, n7, c7, rfl, hl7, hc7, ho7, hb7⟩
    dsimp only at hrl hl7 ho7
    have HIN := Lib.hid hin
    clear hin
    have hY3 := Blk.below HY.out hb7 HY.out.lt
    have hB3 := below_next BB.out (Nat.le_refl _) hb7
    obtain ⟨u0, u1, u2, u3, u4, u5, u6, q0, q1, q2, q3, q4, q5, q6⟩ := blk7 hY3
    have hlY := hY3.lt
    have HL7 := Lib.hid hl7
    have HC7 := Lib.hid hc7
    have hs7 : w.heap.size + 2 < wE.heap.size := HY.out.lt
    have HO7 := Lib.hid ho7
    have HB3 := Lib.hid hB3
    clear hb7 hl7 hc7 ho7 hB3 hY3 HX HX2 HO
    go_wp2_with fail
    refine bodyPost_ret (v := spF rK rlo rhi rf rt ro A7 n7 c7) (by simp [results, Try.results10, go_sem, u0, u1, u2, u3, u4, u5, u6]) rfl ?_
    exact ⟨⟨rK, rlo, rhi, rf, rt, ro, rno⟩, HIN.out, by show rno.length <= n + n'; have := hrl; omega, A7, n7, c7, rfl, HL7.out, HC7.out, (OwnK.put7 HO7.out (by omega) _ _ _ _ _ _ _).less (by omega), below_put7 HB3.out (by omega) _ _ _ _ _ _ _⟩
  | false =>
   cases o' with
   | true =>
    have HTT : Hid (t = tt) := by show _ = _; rw [<- HT.out]; rfl
    go_wp2_with fail
    rw [HFF.out, HTT.out]
    clear a0 a1 a2 a3 a4 a5 a6 b0 b1 b2 b3 b4 b5 b6 hlX hlX2
    refine (rtexts_is ff tt false A9 (es ++ fs) (n + n') c9 HS.out (fun h => HOP.out (by first | exact h | cases h)) (fun h => HSH.out (by first | exact h | cases h)) (by rw [List.length_append, HN.out, HN'.out]) (by omega) HLL.out wE (rdk_own' HO.out)).mono ?_
    rintro e wF ⟨⟨rK, rlo, rhi, rf, rt, ro, rno⟩, hin, hrl, A7, n7, c7, rfl, hl7, hc7, ho7, hb7⟩
    dsimp only at hrl hl7 ho7
    have HIN := Lib.hid hin
    clear hin
    have hY3 := Blk.below HY.out hb7 HY.out.lt
    have hB3 := below_next BB.out (Nat.le_refl _) hb7
    obtain ⟨u0, u1, u2, u3, u4, u5, u6, q0, q1, q2, q3, q4, q5, q6⟩ := blk7 hY3
    have hlY := hY3.lt
    have HL7 := Lib.hid hl7
    have HC7 := Lib.hid hc7
    have hs7 : w.heap.size + 2 < wE.heap.size := HY.out.lt
    have HO7 := Lib.hid ho7
    have HB3 := Lib.hid hB3
    clear hb7 hl7 hc7 ho7 hB3 hY3 HX HX2 HO
    go_wp2_with fail
    refine bodyPost_ret (v := spF rK rlo rhi rf rt ro A7 n7 c7) (by simp [results, Try.results10, go_sem, u0, u1, u2, u3, u4, u5, u6]) rfl ?_
    exact ⟨⟨rK, rlo, rhi, rf, rt, ro, rno⟩, HIN.out, by show rno.length <= n + n'; have := hrl; omega, A7, n7, c7, rfl, HL7.out, HC7.out, (OwnK.put7 HO7.out (by omega) _ _ _ _ _ _ _).less (by omega), below_put7 HB3.out (by omega) _ _ _ _ _ _ _⟩
   | false =>
    obtain ⟨z2, hz2⟩ : ∃ z, Vals.cmpT t' t = z := ⟨_, rfl⟩
    have HZ2 := Lib.hid hz2
    clear hz2
    go_wp2_with fail
    refine (textG_at t' t hlt' hltt wE).mono ?_
    rintro e wF ⟨rfl, hg⟩
    rw [HZ2.out]
    have hb := hg.below
    clear hg
    clear a0 a1 a2 a3 a4 a5 a6 b0 b1 b2 b3 b4 b5 b6 hlX hlX2
    replace HX := Lib.hid (Blk.below HX.out hb HX.out.lt)
    replace HX2 := Lib.hid (Blk.below HX2.out hb HX2.out.lt)
    replace HY := Lib.hid (Blk.below HY.out hb HY.out.lt)
    replace BB := Lib.hid (below_next BB.out (Nat.le_refl _) hb)
    replace HO := Lib.hid (OwnK.below HO.out hb)
    clear hb
    obtain ⟨a0, a1, a2, a3, a4, a5, a6, _⟩ := blk7 HX.out
    obtain ⟨b0, b1, b2, b3, b4, b5, b6, _⟩ := blk7 HX2.out
    have hlX := HX.out.lt
    have hlX2 := HX2.out.lt
    cases hl2 : bytesLess t' t with
    | true =>
     have u6 : decide (z2 < 0) = true := decide_eq_true (by rw [<- HZ2.out]; exact (cmpT_neg_iff t' t).2 hl2)
     have HTT : Hid (t' = tt) := by show _ = _; rw [<- HT.out]; show t' = minT t t'; unfold minT; rw [if_pos hl2]
     clear hl2
     go_wp2_with fail
     rw [HFF.out, HTT.out]
     clear a0 a1 a2 a3 a4 a5 a6 b0 b1 b2 b3 b4 b5 b6 hlX hlX2
     refine (rtexts_is ff tt false A9 (es ++ fs) (n + n') c9 HS.out (fun h => HOP.out (by first | exact h | cases h)) (fun h => HSH.out (by first | exact h | cases h)) (by rw [List.length_append, HN.out, HN'.out]) (by omega) HLL.out wF (rdk_own' HO.out)).mono ?_
     rintro e wG ⟨⟨rK, rlo, rhi, rf, rt, ro, rno⟩, hin, hrl, A7, n7, c7, rfl, hl7, hc7, ho7, hb7⟩
     dsimp only at hrl hl7 ho7
     have HIN := Lib.hid hin
     clear hin
     have hY3 := Blk.below HY.out hb7 HY.out.lt
     have hB3 := below_next BB.out (Nat.le_refl _) hb7
     obtain ⟨u0, u1, u2, u3, u4, u5, u6, q0, q1, q2, q3, q4, q5, q6⟩ := blk7 hY3
     have hlY := hY3.lt
     have HL7 := Lib.hid hl7
     have HC7 := Lib.hid hc7
     have hs7 : w.heap.size + 2 < wF.heap.size := HY.out.lt
     have HO7 := Lib.hid ho7
     have HB3 := Lib.hid hB3
     clear hb7 hl7 hc7 ho7 hB3 hY3 HX HX2 HO
     go_wp2_with fail
     refine bodyPost_ret (v := spF rK rlo rhi rf rt ro A7 n7 c7) (by simp [results, Try.results10, go_sem, u0, u1, u2, u3, u4, u5, u6]) rfl ?_
     exact ⟨⟨rK, rlo, rhi, rf, rt, ro, rno⟩, HIN.out, by show rno.length <= n + n'; have := hrl; omega, A7, n7, c7, rfl, HL7.out, HC7.out, (OwnK.put7 HO7.out (by omega) _ _ _ _ _ _ _).less (by omega), below_put7 HB3.out (by omega) _ _ _ _ _ _ _⟩
    | false =>
     have u6 : decide (z2 < 0) = false := decide_eq_false (by rw [<- HZ2.out]; intro h; have := (cmpT_neg_iff t' t).1 h; rw [hl2] at this; cases this)
     have HTT : Hid (t = tt) := by show _ = _; rw [<- HT.out]; show t = minT t t'; unfold minT; rw [if_neg (by rw [hl2]; simp)]
     clear hl2
     go_wp2_with fail
     rw [HFF.out, HTT.out]
     clear a0 a1 a2 a3 a4 a5 a6 b0 b1 b2 b3 b4 b5 b6 hlX hlX2
     refine (rtexts_is ff tt false A9 (es ++ fs) (n + n') c9 HS.out (fun h => HOP.out (by first | exact h | cases h)) (fun h => HSH.out (by first | exact h | cases h)) (by rw [List.length_append, HN.out, HN'.out]) (by omega) HLL.out wF (rdk_own' HO.out)).mono ?_
     rintro e wG ⟨⟨rK, rlo, rhi, rf, rt, ro, rno⟩, hin, hrl, A7, n7, c7, rfl, hl7, hc7, ho7, hb7⟩
     dsimp only at hrl hl7 ho7
     have HIN := Lib.hid hin
     clear hin
     have hY3 := Blk.below HY.out hb7 HY.out.lt
     have hB3 := below_next BB.out (Nat.le_refl _) hb7
     obtain ⟨u0, u1, u2, u3, u4, u5, u6, q0, q1, q2, q3, q4, q5, q6⟩ := blk7 hY3
     have hlY := hY3.lt
     have HL7 := Lib.hid hl7
     have HC7 := Lib.hid hc7
     have hs7 : w.heap.size + 2 < wF.heap.size := HY.out.lt
     have HO7 := Lib.hid ho7
     have HB3 := Lib.hid hB3
     clear hb7 hl7 hc7 ho7 hB3 hY3 HX HX2 HO
     go_wp2_with fail
     refine bodyPost_ret (v := spF rK rlo rhi rf rt ro A7 n7 c7) (by simp [results, Try.results10, go_sem, u0, u1, u2, u3, u4, u5, u6]) rfl ?_
     exact ⟨⟨rK, rlo, rhi, rf, rt, ro, rno⟩, HIN.out, by show rno.length <= n + n'; have := hrl; omega, A7, n7, c7, rfl, HL7.out, HC7.out, (OwnK.put7 HO7.out (by omega) _ _ _ _ _ _ _).less (by omega), below_put7 HB3.out (by omega) _ _ _ _ _ _ _⟩
 | false =>
  have u5 : decide (z1 < 0) = false := decide_eq_false (by rw [<- HZ1.out]; intro h; have := (cmpT_neg_iff f f').1 h; rw [hlt] at this; cases this)
  have HFF : Hid (f = ff) := by show _ = _; rw [<- HF.out]; unfold maxT; rw [if_neg (by rw [hlt]; simp)]
  clear hlt
  cases o with
  | true =>
   cases o' with
   | true =>
    have HTT : Hid (t' = tt) := by show _ = _; rw [<- HT.out]; rfl
    go_wp2_with fail
    rw [HFF.out, HTT.out]
    clear a0 a1 a2 a3 a4 a5 a6 b0 b1 b2 b3 b4 b5 b6 hlX hlX2
    refine (rtexts_is ff tt true A9 (es ++ fs) (n + n') c9 HS.out (fun h => HOP.out (by first | exact h | cases h)) (fun h => HSH.out (by first | exact h | cases h)) (by rw [List.length_append, HN.out, HN'.out]) (by omega) HLL.out wE (rdk_own' HO.out)).mono ?_
    rintro e wF ⟨⟨rK, rlo, rhi, rf, rt, ro, rno⟩, hin, hrl, A7, n7, c7, rfl, hl7, hc7, ho7, hb7⟩
    dsimp only at hrl hl7 ho7
    have HIN := Lib.hid hin
    clear hin
    have hY3 := Blk.below HY.out hb7 HY.out.lt
    have hB3 := below_next BB.out (Nat.le_refl _) hb7
    obtain ⟨u0, u1, u2, u3, u4, u5, u6, q0, q1, q2, q3, q4, q5, q6⟩ := blk7 hY3
    have hlY := hY3.lt
    have HL7 := Lib.hid hl7
    have HC7 := Lib.hid hc7
    have hs7 : w.heap.size + 2 < wE.heap.size := HY.out.lt
    have HO7 := Lib.hid ho7
    have HB3 := Lib.hid hB3
    clear hb7 hl7 hc7 ho7 hB3 hY3 HX HX2 HO
    go_wp2_with fail
    refine bodyPost_ret (v := spF rK rlo rhi rf rt ro A7 n7 c7) (by simp [results, Try.results10, go_sem, u0, u1, u2, u3, u4, u5, u6]) rfl ?_
    exact ⟨⟨rK, rlo, rhi, rf, rt, ro, rno⟩, HIN.out, by show rno.length <= n + n'; have := hrl; omega, A7, n7, c7, rfl, HL7.out, HC7.out, (OwnK.put7 HO7.out (by omega) _ _ _ _ _ _ _).less (by omega), below_put7 HB3.out (by omega) _ _ _ _ _ _ _⟩
   | false =>
    have HTT : Hid (t' = tt) := by show _ = _; rw [<- HT.out]; rfl
    go_wp2_with fail
    rw [HFF.out, HTT.out]
    clear a0 a1 a2 a3 a4 a5 a6 b0 b1 b2 b3 b4 b5 b6 hlX hlX2
    refine (rtexts_is ff tt false A9 (es ++ fs) (n + n') c9 HS.out (fun h => HOP.out (by first | exact h | cases h)) (fun h => HSH.out (by first | exact h | cases h)) (by rw [List.length_append, HN.out, HN'.out]) (by omega) HLL.out wE (rdk_own' HO.out)).mono ?_
    rintro e wF ⟨⟨rK, rlo, rhi, rf, rt, ro, rno⟩, hin, hrl, A7, n7, c7, rfl, hl7, hc7, ho7, hb7⟩
    dsimp only at hrl hl7 ho7
    have HIN := Lib.hid hin
    clear hin
    have hY3 := Blk.below HY.out hb7 HY.out.lt
    have hB3 := below_next BB.out (Nat.le_refl _) hb7
    obtain ⟨u0, u1, u2, u3, u4, u5, u6, q0, q1, q2, q3, q4, q5, q6⟩ := blk7 hY3
    have hlY := hY3.lt
    have HL7 := Lib.hid hl7
    have HC7 := Lib.hid hc7
    have hs7 : w.heap.size + 2 < wE.heap.size := HY.out.lt
    have HO7 := Lib.hid ho7
    have HB3 := Lib.hid hB3
    clear hb7 hl7 hc7 ho7 hB3 hY3 HX HX2 HO
    go_wp2_with fail
    refine bodyPost_ret (v := spF rK rlo rhi rf rt ro A7 n7 c7) (by simp [results, Try.results10, go_sem, u0, u1, u2, u3, u4, u5, u6]) rfl ?_
    exact ⟨⟨rK, rlo, rhi, rf, rt, ro, rno⟩, HIN.out, by show rno.length <= n + n'; have := hrl; omega, A7, n7, c7, rfl, HL7.out, HC7.out, (OwnK.put7 HO7.out (by omega) _ _ _ _ _ _ _).less (by omega), below_put7 HB3.out (by omega) _ _ _ _ _ _ _⟩
  | false =>
   cases o' with
   | true =>
    have HTT : Hid (t = tt) := by show _ = _; rw [<- HT.out]; rfl
    go_wp2_with fail
    rw [HFF.out, HTT.out]
    clear a0 a1 a2 a3 a4 a5 a6 b0 b1 b2 b3 b4 b5 b6 hlX hlX2
    refine (rtexts_is ff tt false A9 (es ++ fs) (n + n') c9 HS.out (fun h => HOP.out (by first | exact h | cases h)) (fun h => HSH.out (by first | exact h | cases h)) (by rw [List.length_append, HN.out, HN'.out]) (by omega) HLL.out wE (rdk_own' HO.out)).mono ?_
    rintro e wF ⟨⟨rK, rlo, rhi, rf, rt, ro, rno⟩, hin, hrl, A7, n7, c7, rfl, hl7, hc7, ho7, hb7⟩
    dsimp only at hrl hl7 ho7
    have HIN := Lib.hid hin
    clear hin
    have hY3 := Blk.below HY.out hb7 HY.out.lt
    have hB3 := below_next BB.out (Nat.le_refl _) hb7
    obtain ⟨u0, u1, u2, u3, u4, u5, u6, q0, q1, q2, q3, q4, q5, q6⟩ := blk7 hY3
    have hlY := hY3.lt
    have HL7 := Lib.hid hl7
    have HC7 := Lib.hid hc7
    have hs7 : w.heap.size + 2 < wE.heap.size := HY.out.lt
    have HO7 := Lib.hid ho7
    have HB3 := Lib.hid hB3
    clear hb7 hl7 hc7 ho7 hB3 hY3 HX HX2 HO
    go_wp2_with fail
    refine bodyPost_ret (v := spF rK rlo rhi rf rt ro A7 n7 c7) (by simp [results, Try.results10, go_sem, u0, u1, u2, u3, u4, u5, u6]) rfl ?_
    exact ⟨⟨rK, rlo, rhi, rf, rt, ro, rno⟩, HIN.out, by show rno.length <= n + n'; have := hrl; omega, A7, n7, c7, rfl, HL7.out, HC7.out, (OwnK.put7 HO7.out (by omega) _ _ _ _ _ _ _).less (by omega), below_put7 HB3.out (by omega) _ _ _ _ _ _ _⟩
   | false =>
    obtain ⟨z2, hz2⟩ : ∃ z, Vals.cmpT t' t = z := ⟨_, rfl⟩
    have HZ2 := Lib.hid hz2
    clear hz2
    go_wp2_with fail
    refine (textG_at t' t hlt' hltt wE).mono ?_
    rintro e wF ⟨rfl, hg⟩
    rw [HZ2.out]
    have hb := hg.below
    clear hg
    clear a0 a1 a2 a3 a4 a5 a6 b0 b1 b2 b3 b4 b5 b6 hlX hlX2
    replace HX := Lib.hid (Blk.below HX.out hb HX.out.lt)
    replace HX2 := Lib.hid (Blk.below HX2.out hb HX2.out.lt)
    replace HY := Lib.hid (Blk.below HY.out hb HY.out.lt)
    replace BB := Lib.hid (below_next BB.out (Nat.le_refl _) hb)
    replace HO := Lib.hid (OwnK.below HO.out hb)
    clear hb
    obtain ⟨a0, a1, a2, a3, a4, a5, a6, _⟩ := blk7 HX.out
    obtain ⟨b0, b1, b2, b3, b4, b5, b6, _⟩ := blk7 HX2.out
    have hlX := HX.out.lt
    have hlX2 := HX2.out.lt
    cases hl2 : bytesLess t' t with
    | true =>
     have u6 : decide (z2 < 0) = true := decide_eq_true (by rw [<- HZ2.out]; exact (cmpT_neg_iff t' t).2 hl2)
     have HTT : Hid (t' = tt) := by show _ = _; rw [<- HT.out]; show t' = minT t t'; unfold minT; rw [if_pos hl2]
     clear hl2
     go_wp2_with fail
     rw [HFF.out, HTT.out]
     clear a0 a1 a2 a3 a4 a5 a6 b0 b1 b2 b3 b4 b5 b6 hlX hlX2
     refine (rtexts_is ff tt false A9 (es ++ fs) (n + n') c9 HS.out (fun h => HOP.out (by first | exact h | cases h)) (fun h => HSH.out (by first | exact h | cases h)) (by rw [List.length_append, HN.out, HN'.out]) (by omega) HLL.out wF (rdk_own' HO.out)).mono ?_
     rintro e wG ⟨⟨rK, rlo, rhi, rf, rt, ro, rno⟩, hin, hrl, A7, n7, c7, rfl, hl7, hc7, ho7, hb7⟩
     dsimp only at hrl hl7 ho7
     have HIN := Lib.hid hin
     clear hin
     have hY3 := Blk.below HY.out hb7 HY.out.lt
     have hB3 := below_next BB.out (Nat.le_refl _) hb7
     obtain ⟨u0, u1, u2, u3, u4, u5, u6, q0, q1, q2, q3, q4, q5, q6⟩ := blk7 hY3
     have hlY := hY3.lt
     have HL7 := Lib.hid hl7
     have HC7 := Lib.hid hc7
     have hs7 : w.heap.size + 2 < wF.heap.size := HY.out.lt
     have HO7 := Lib.hid ho7
     have HB3 := Lib.hid hB3
     clear hb7 hl7 hc7 ho7 hB3 hY3 HX HX2 HO
     go_wp2_with fail
     refine bodyPost_ret (v := spF rK rlo rhi rf rt ro A7 n7 c7) (by simp [results, Try.results10, go_sem, u0, u1, u2, u3, u4, u5, u6]) rfl ?_
     exact ⟨⟨rK, rlo, rhi, rf, rt, ro, rno⟩, HIN.out, by show rno.length <= n + n'; have := hrl; omega, A7, n7, c7, rfl, HL7.out, HC7.out, (OwnK.put7 HO7.out (by omega) _ _ _ _ _ _ _).less (by omega), below_put7 HB3.out (by omega) _ _ _ _ _ _ _⟩
    | false =>
     have u6 : decide (z2 < 0) = false := decide_eq_false (by rw [<- HZ2.out]; intro h; have := (cmpT_neg_iff t' t).1 h; rw [hl2] at this; cases this)
     have HTT : Hid (t = tt) := by show _ = _; rw [<- HT.out]; show t = minT t t'; unfold minT; rw [if_neg (by rw [hl2]; simp)]
     clear hl2
     go_wp2_with fail
     rw [HFF.out, HTT.out]
     clear a0 a1 a2 a3 a4 a5 a6 b0 b1 b2 b3 b4 b5 b6 hlX hlX2
     refine (rtexts_is ff tt false A9 (es ++ fs) (n + n') c9 HS.out (fun h => HOP.out (by first | exact h | cases h)) (fun h => HSH.out (by first | exact h | cases h)) (by rw [List.length_append, HN.out, HN'.out]) (by omega) HLL.out wF (rdk_own' HO.out)).mono ?_
     rintro e wG ⟨⟨rK, rlo, rhi, rf, rt, ro, rno⟩, hin, hrl, A7, n7, c7, rfl, hl7, hc7, ho7, hb7⟩
     dsimp only at hrl hl7 ho7
     have HIN := Lib.hid hin
     clear hin
     have hY3 := Blk.below HY.out hb7 HY.out.lt
     have hB3 := below_next BB.out (Nat.le_refl _) hb7
     obtain ⟨u0, u1, u2, u3, u4, u5, u6, q0, q1, q2, q3, q4, q5, q6⟩ := blk7 hY3
     have hlY := hY3.lt
     have HL7 := Lib.hid hl7
     have HC7 := Lib.hid hc7
     have hs7 : w.heap.size + 2 < wF.heap.size := HY.out.lt
     have HO7 := Lib.hid ho7
     have HB3 := Lib.hid hB3
     clear hb7 hl7 hc7 ho7 hB3 hY3 HX HX2 HO
     go_wp2_with fail
     refine bodyPost_ret (v := spF rK rlo rhi rf rt ro A7 n7 c7) (by simp [results, Try.results10, go_sem, u0, u1, u2, u3, u4, u5, u6]) rfl ?_
     exact ⟨⟨rK, rlo, rhi, rf, rt, ro, rno⟩, HIN.out, by show rno.length <= n + n'; have := hrl; omega, A7, n7, c7, rfl, HL7.out, HC7.out, (OwnK.put7 HO7.out (by omega) _ _ _ _ _ _ _).less (by omega), below_put7 HB3.out (by omega) _ _ _ _ _ _ _⟩
end Go.Proofs.Ytoffnfooeojhnaa
namespace Go.Proofs.Ytoffnfooeojhnaa
open Go.RowKit Go.Sort Spans Op
set_option maxRecDepth 100000 in
set_option maxHeartbeats 400000 in
theorem rmeet_3 (lo hi : Int) (A : Option Addr) (n c : Nat) (lo' hi' : Int) (A' : Option Addr) (n' c' : Nat) (w : World) (es fs : List Val) (hlow : lowest 3 <= max lo lo') (hhigh : min hi hi' <= highest 3) (hl : ∀ v ∈ es ++ fs, v.k = 3 /\ v.t = []) (hn : es.length = n) (hm : n <= 500) (hn' : fs.length = n') (hm' : n' <= 500) (hr : RdW w A es) (hr' : RdW w A' fs) :
  Calls Try.prog 10 #[spF 3 lo hi [] [] false A n c, spF 3 lo' hi' [] [] false A' n' c'] w (GivesS w (IsInts 3 (max lo lo') (min hi hi') (es ++ fs)) (n + n')) := by
 have HN := Lib.hid hn
 have HN' := Lib.hid hn'
 have R1 := Lib.hid hr
 have R2 := Lib.hid hr'
 have HLL := Lib.hid hl
 clear hn hn' hr hr' hl
 have hgr := gr3 w (.cells #[.int .i64 3, .int .i64 lo, .int .i64 hi, .string ⟨#[]⟩, .string ⟨#[]⟩, .bool false, .slice A n c] 29) (.cells #[.int .i64 3, .int .i64 lo', .int .i64 hi', .string ⟨#[]⟩, .string ⟨#[]⟩, .bool false, .slice A' n' c'] 29) (.cells #[.int .i64 0, .int .i64 0, .int .i64 0, .string ⟨#[]⟩, .string ⟨#[]⟩, .bool false, .slice none 0 0] 29)
 have hX := ((Blk.new w 29 #[.int .i64 3, .int .i64 lo, .int .i64 hi, .string ⟨#[]⟩, .string ⟨#[]⟩, .bool false, .slice A n c]).alloc (.cells #[.int .i64 3, .int .i64 lo', .int .i64 hi', .string ⟨#[]⟩, .string ⟨#[]⟩, .bool false, .slice A' n' c'] 29)).alloc (.cells #[.int .i64 0, .int .i64 0, .int .i64 0, .string ⟨#[]⟩, .string ⟨#[]⟩, .bool false, .slice none 0 0] 29)
 have hX2 := (Blk.new (w.alloc (.cells #[.int .i64 3, .int .i64 lo, .int .i64 hi, .string ⟨#[]⟩, .string ⟨#[]⟩, .bool false, .slice A n c] 29)) 29 #[.int .i64 3, .int .i64 lo', .int .i64 hi', .string ⟨#[]⟩, .string ⟨#[]⟩, .bool false, .slice A' n' c']).alloc (.cells #[.int .i64 0, .int .i64 0, .int .i64 0, .string ⟨#[]⟩, .string ⟨#[]⟩, .bool false, .slice none 0 0] 29)
 have hY := Blk.new ((w.alloc (.cells #[.int .i64 3, .int .i64 lo, .int .i64 hi, .string ⟨#[]⟩, .string ⟨#[]⟩, .bool false, .slice A n c] 29)).alloc (.cells #[.int .i64 3, .int .i64 lo', .int .i64 hi', .string ⟨#[]⟩, .string ⟨#[]⟩, .bool false, .slice A' n' c'] 29)) 29 #[.int .i64 0, .int .i64 0, .int .i64 0, .string ⟨#[]⟩, .string ⟨#[]⟩, .bool false, .slice none 0 0]
 rw [show (w.alloc (.cells #[.int .i64 3, .int .i64 lo, .int .i64 hi, .string ⟨#[]⟩, .string ⟨#[]⟩, .bool false, .slice A n c] 29)).heap.size = w.heap.size + 1 by simp] at hX2
 rw [show ((w.alloc (.cells #[.int .i64 3, .int .i64 lo, .int .i64 hi, .string ⟨#[]⟩, .string ⟨#[]⟩, .bool false, .slice A n c] 29)).alloc (.cells #[.int .i64 3, .int .i64 lo', .int .i64 hi', .string ⟨#[]⟩, .string ⟨#[]⟩, .bool false, .slice A' n' c'] 29)).heap.size = w.heap.size + 2 by simp] at hY
 have BB := Lib.hid hgr.below
 have HX := Lib.hid hX
 have HX2 := Lib.hid hX2
 have HY := Lib.hid hY
 clear hgr hX hX2 hY
 go_enter Try.func10, Try.ntmps10
 go_wp2_with fail
 generalize (((w.alloc (.cells #[.int .i64 3, .int .i64 lo, .int .i64 hi, .string ⟨#[]⟩, .string ⟨#[]⟩, .bool false, .slice A n c] 29)).alloc (.cells #[.int .i64 3, .int .i64 lo', .int .i64 hi', .string ⟨#[]⟩, .string ⟨#[]⟩, .bool false, .slice A' n' c'] 29)).alloc (.cells #[.int .i64 0, .int .i64 0, .int .i64 0, .string ⟨#[]⟩, .string ⟨#[]⟩, .bool false, .slice none 0 0] 29)) = w0 at *
 have hS0 : Blk w0.drew w.heap.size 29 #[.int .i64 3, .int .i64 lo, .int .i64 hi, .string ⟨#[]⟩, .string ⟨#[]⟩, .bool false, .slice A n c] /\ Blk w0.drew (w.heap.size + 1) 29 #[.int .i64 3, .int .i64 lo', .int .i64 hi', .string ⟨#[]⟩, .string ⟨#[]⟩, .bool false, .slice A' n' c'] := ⟨HX.out, HX2.out⟩
 refine wp_region_held_drew (S := fun w' => Blk w' w.heap.size 29 #[.int .i64 3, .int .i64 lo, .int .i64 hi, .string ⟨#[]⟩, .string ⟨#[]⟩, .bool false, .slice A n c] /\ Blk w' (w.heap.size + 1) 29 #[.int .i64 3, .int .i64 lo', .int .i64 hi', .string ⟨#[]⟩, .string ⟨#[]⟩, .bool false, .slice A' n' c']) (by kernel_rfl) hS0 (fun _ => ?_)
 refine wpAnyH_yes (i := 1) (d := 28) (v := ?_) rfl rfl (by kernel_rfl) (by kernel_rfl) (by kernel_rfl) (fun _ _ _ h => h) (by rfl) ?_ hS0 ?_
 rotate_left
 ·intro w' hSw; obtain ⟨r0, r1, r2, r3, r4, r5, r6, _⟩ := blk7 hSw.1; obtain ⟨m0, m1, m2, m3, m4, m5, m6, _⟩ := blk7 hSw.2; go_simp <;> with_reducible rfl
 simp only [Act.put, List.setIfInBounds_toArray, List.set_cons_zero, List.set_cons_succ]
 refine wpAnyH_yes (i := 2) (d := 29) (v := ?_) rfl rfl (by kernel_rfl) (by kernel_rfl) (by kernel_rfl) (fun _ _ _ h => h) (by rfl) ?_ hS0 ?_
 rotate_left
 ·intro w' hSw; obtain ⟨r0, r1, r2, r3, r4, r5, r6, _⟩ := blk7 hSw.1; obtain ⟨m0, m1, m2, m3, m4, m5, m6, _⟩ := blk7 hSw.2; go_simp <;> with_reducible rfl
 simp only [Act.put, List.setIfInBounds_toArray, List.set_cons_zero, List.set_cons_succ]
 refine wpAnyH_yes (i := 4) (d := 31) (v := ?_) rfl rfl (by kernel_rfl) (by kernel_rfl) (by kernel_rfl) (fun _ _ _ h => h) (by rfl) ?_ hS0 ?_
 rotate_left
 ·intro w' hSw; obtain ⟨r0, r1, r2, r3, r4, r5, r6, _⟩ := blk7 hSw.1; obtain ⟨m0, m1, m2, m3, m4, m5, m6, _⟩ := blk7 hSw.2; go_simp <;> with_reducible rfl
 simp only [Act.put, List.setIfInBounds_toArray, List.set_cons_zero, List.set_cons_succ]
 refine wpAnyH_yes (i := 5) (d := 32) (v := ?_) rfl rfl (by kernel_rfl) (by kernel_rfl) (by kernel_rfl) (fun _ _ _ h => h) (by rfl) ?_ hS0 ?_
 rotate_left
 ·intro w' hSw; obtain ⟨r0, r1, r2, r3, r4, r5, r6, _⟩ := blk7 hSw.1; obtain ⟨m0, m1, m2, m3, m4, m5, m6, _⟩ := blk7 hSw.2; go_simp <;> with_reducible rfl
 simp only [Act.put, List.setIfInBounds_toArray, List.set_cons_zero, List.set_cons_succ]
 have HX' := Lib.hid (Blk.below HX.out (show Below w0.heap.size w0 w0.drew from (Below.refl _ _).drew) HX.out.lt)
 have HX2' := Lib.hid (Blk.below HX2.out (show Below w0.heap.size w0 w0.drew from (Below.refl _ _).drew) HX2.out.lt)
 have HY' := Lib.hid (Blk.below HY.out (show Below w0.heap.size w0 w0.drew from (Below.refl _ _).drew) HY.out.lt)
 have BB' := Lib.hid BB.out.drew
 clear hS0 HX HX2 HY BB
 have HX := HX'
 clear HX'
 have HX2 := HX2'
 clear HX2'
 have HY := HY'
 clear HY'
 have BB := BB'
 clear BB'
 generalize w0.drew = wA at *
 refine wpAnyH_one (i := 0) (by kernel_rfl) rfl (by rfl) (fun K hK => ?_)
 go_simp
 have hO0 : OwnW (wA.alloc (.cells #[] 24)) wA.heap.size (.slice (some ⟨wA.heap.size, 0, none⟩) 0 0) [] := OwnK.empty wA wA.heap.size (Nat.le_refl _)
 have hb : Below wA.heap.size wA (wA.alloc (.cells #[] 24)) := (gr1 wA _).below
 have hs6 := hb.size
 have hB7 : w.heap.size <= wA.heap.size := BB.out.size
 have hlX := HX.out.lt
 have hlX2 := HX2.out.lt
 have hlY := HY.out.lt
 replace HX := Lib.hid (Blk.below HX.out hb HX.out.lt)
 replace HX2 := Lib.hid (Blk.below HX2.out hb HX2.out.lt)
 replace HY := Lib.hid (Blk.below HY.out hb HY.out.lt)
 replace BB := Lib.hid (below_next BB.out (Nat.le_refl _) hb)
 clear hb
 generalize (wA.alloc (.cells #[] 24)) = wB at *
 refine hK.out _ _ ⟨HX.out, HX2.out⟩ ?_
 clear hK
 generalize wA.heap.size = B7 at *
 have HN0 : Hid ((es : List Val).length = n) := HN
 refine wpAnyH_one (i := 3) (by kernel_rfl) rfl (by rfl) (fun K hK => ?_)
 refine op_append_k layV (.tmp 27) (.tmp 29) 27 underV (by rfl) B7 _ ([]) (by rfl) hO0 A (es) (n) (c) (by rfl) (RdK.below R1.out BB.out) HN.out (by rw [maxLen_num]; simp; omega) (by simp only [layV]; simp; omega) hs6 ?_
 intro v3 wC o7 hbx
 have hb7 : Below B7 wB wC := hbx wB (Below.refl _ _)
 clear hbx
 replace HX := Lib.hid (Blk.below HX.out hb7 (by omega))
 replace HX2 := Lib.hid (Blk.below HX2.out hb7 (by omega))
 replace HY := Lib.hid (Blk.below HY.out hb7 (by omega))
 replace BB := Lib.hid (BB.out.trans (hb7.mono (by omega)))
 replace hs6 := Nat.le_trans hs6 hb7.size
 clear hb7
 rw [List.nil_append] at o7
 obtain ⟨A7, c7, hv7, hc7, _⟩ := OwnK.form o7 HN.out
 subst hv7
 refine hK.out _ _ ⟨HX.out, HX2.out⟩ ?_
 clear hK hO0
 simp only [Act.put, List.setIfInBounds_toArray, List.set_cons_zero, List.set_cons_succ]
 refine wpAnyH_one (i := 6) (by kernel_rfl) rfl (by rfl) (fun K hK => ?_)
 refine op_append_k layV (.tmp 30) (.tmp 32) 27 underV (by rfl) B7 _ (es) (by rfl) o7 A' (fs) (n') (c') (by rfl) (RdK.below R2.out BB.out) HN'.out (by rw [maxLen_num]; rw [HN.out]; omega) (by simp only [layV]; rw [HN.out]; omega) hs6 ?_
 intro v6 wD o9 hbx
 have hb7 : Below B7 wC wD := hbx wC (Below.refl _ _)
 clear hbx
 replace HX := Lib.hid (Blk.below HX.out hb7 (by omega))
 replace HX2 := Lib.hid (Blk.below HX2.out hb7 (by omega))
 replace HY := Lib.hid (Blk.below HY.out hb7 (by omega))
 replace BB := Lib.hid (BB.out.trans (hb7.mono (by omega)))
 replace hs6 := Nat.le_trans hs6 hb7.size
 clear hb7
 obtain ⟨A9, c9, hv9, hc9, _⟩ := OwnK.form o9 (n := n + n') (by rw [List.length_append, HN.out, HN'.out])
 subst hv9
 have HO := Lib.hid o9
 clear o9 o7 HN0
 refine hK.out _ _ ⟨HX.out, HX2.out⟩ ?_
 clear hK
 simp only [Act.put, List.setIfInBounds_toArray, List.set_cons_zero, List.set_cons_succ]
 refine wpAnyH_yes (i := 7) (d := 5) (v := ?_) rfl rfl (by kernel_rfl) (by kernel_rfl) (by kernel_rfl) (fun _ _ _ h => h) (by rfl) ?_ ⟨HX.out, HX2.out⟩ ?_
 rotate_left
 ·intro w' hSw; obtain ⟨r0, r1, r2, r3, r4, r5, r6, _⟩ := blk7 hSw.1; obtain ⟨m0, m1, m2, m3, m4, m5, m6, _⟩ := blk7 hSw.2; go_simp <;> with_reducible rfl
 simp only [Act.put, List.setIfInBounds_toArray, List.set_cons_zero, List.set_cons_succ]
 refine wpAnyH_done (by kernel_rfl) ?_ _
 clear hs6 hlX hlX2 hlY
 obtain ⟨a0, a1, a2, a3, a4, a5, a6, _⟩ := blk7 HX.out
 obtain ⟨b0, b1, b2, b3, b4, b5, b6, _⟩ := blk7 HX2.out
 have hlX := HX.out.lt
 have hlX2 := HX2.out.lt
 go_wp2_with fail
 clear a0 a1 a2 a3 a4 a5 a6 b0 b1 b2 b3 b4 b5 b6 hlX hlX2
 refine (rints_at 3 (max lo lo') (min hi hi') A9 (es ++ fs) (n + n') c9 (by decide) hlow hhigh (by rw [List.length_append, HN.out, HN'.out]) (by omega) HLL.out wD (rdk_own' HO.out)).mono ?_
 rintro e wE ⟨⟨rK, rlo, rhi, rf, rt, ro, rno⟩, hin, hrl, A7, n7, c7, rfl, hl7, hc7, ho7, hb7⟩
 dsimp only at hrl hl7 ho7
 have HIN := Lib.hid hin
 clear hin
 have hY3 := Blk.below HY.out hb7 HY.out.lt
 have hB3 := below_next BB.out (Nat.le_refl _) hb7
 obtain ⟨u0, u1, u2, u3, u4, u5, u6, q0, q1, q2, q3, q4, q5, q6⟩ := blk7 hY3
 have hlY := hY3.lt
 have HL7 := Lib.hid hl7
 have HC7 := Lib.hid hc7
 have hs7 : w.heap.size + 2 < wD.heap.size := HY.out.lt
 have HO7 := Lib.hid ho7
 have HB3 := Lib.hid hB3
 clear hb7 hl7 hc7 ho7 hB3 hY3 HX HX2 HO
 go_wp2_with fail
 refine bodyPost_ret (v := spF rK rlo rhi rf rt ro A7 n7 c7) (by simp [results, Try.results10, go_sem, u0, u1, u2, u3, u4, u5, u6]) rfl ?_
 exact ⟨⟨rK, rlo, rhi, rf, rt, ro, rno⟩, HIN.out, by show rno.length <= n + n'; have := hrl; omega, A7, n7, c7, rfl, HL7.out, HC7.out, (OwnK.put7 HO7.out (by omega) _ _ _ _ _ _ _).less (by omega), below_put7 HB3.out (by omega) _ _ _ _ _ _ _⟩
end Go.Proofs.Ytoffnfooeojhnaa
namespace Go.Proofs.Ytoffnfooeojhnaa
open Go.RowKit Go.Sort Spans Op
theorem rmeet_at (base : Nat) (a b : Sp) (ha : Canon a) (hb : Canon b) (A : Option Addr) (n c : Nat) (A' : Option Addr) (n' c' : Nat) (w : World) (hn : a.no.length = n) (hm : n <= 500) (hn' : b.no.length = n') (hm' : n' <= 500) (hbase : base <= w.heap.size) (hc : n <= c) (hc' : n' <= c') (ho : OwnW w base (.slice A n c) a.no) (ho' : OwnW w base (.slice A' n' c') b.no) :
  Calls Try.prog 10 #[spF a.kind a.lo a.hi a.frm a.to_ a.opn A n c, spF b.kind b.lo b.hi b.frm b.to_ b.opn A' n' c'] w (fun e w' => ∃ r, IsMeet a b r /\ r.no.length <= a.no.length + b.no.length /\ GivesB base w r e w') := by
 have hr := rdk_own' ho
 have hr' := rdk_own' ho'
 by_cases h4 : a.kind = 4
 ·have e := kind_any ha h4
  subst e
  refine (rmeet_left 0 0 [] [] false A n c b.kind b.lo b.hi b.frm b.to_ b.opn A' n' c' w).mono ?_
  rintro e w' ⟨rfl, hbw⟩
  exact ⟨b, (meet_any hb).2, by omega, A', n', c', rfl, hn', hc', OwnK.below ho' hbw, hbw⟩
 by_cases h4' : b.kind = 4
 ·have e := kind_any hb h4'
  subst e
  refine (rmeet_right a.kind a.lo a.hi a.frm a.to_ a.opn A n c 0 0 [] [] false A' n' c' w h4).mono ?_
  rintro e w' ⟨rfl, hbw⟩
  exact ⟨a, (meet_any ha).1, by omega, A, n, c, rfl, hn, hc, OwnK.below ho hbw, hbw⟩
 by_cases hk : a.kind = b.kind
 ·rcases ha with rfl | rfl | ha | ha
  ·have e : b = none_ := kind_none hb hk.symm
   subst e
   refine (rmeet_none 0 0 [] [] false A n c 0 0 [] [] false A' n' c' w).mono ?_
   rintro e w' ⟨rfl, hbw⟩
   exact ⟨none_, meet_none _ _ (.inl rfl), by simp [none_], none, 0, 0, rfl, rfl, Nat.le_refl _, OwnK.none_ _ _, hbw⟩
  ·exact absurd rfl h4
  ·have hb' : CanonN b := by
    rcases hb with rfl | rfl | hb | hb
    ·exact absurd hk (N_not4 ha).2.2
    ·exact absurd hk h4
    ·exact hb
    ·exact absurd (hk.trans hb.kind) (N_not4 ha).2.1
   obtain ⟨K, lo, hi, f, t, o, no⟩ := a
   obtain ⟨K', lo', hi', f', t', o', no'⟩ := b
   have e1 : f = [] := ha.frm
   have e2 : t = [] := ha.to_
   have e3 : o = false := ha.opn
   have e4 : f' = [] := hb'.frm
   have e5 : t' = [] := hb'.to_
   have e6 : o' = false := hb'.opn
   have e7 : K = K' := hk
   subst e1; subst e2; subst e3; subst e4; subst e5; subst e6; subst e7
   have hlow : lowest K <= max lo lo' := Int.le_trans ha.low (Int.le_max_left _ _)
   have hhigh : min hi hi' <= highest K := Int.le_trans (Int.min_le_left _ _) ha.high
   have hl : ∀ v ∈ no ++ no', v.k = K /\ v.t = [] := fun v hv => by
    rcases List.mem_append.1 hv with h | h
    ·exact ⟨(ha.no v h).1, (ha.no v h).2.1⟩
    ·exact ⟨(hb'.no v h).1, (hb'.no v h).2.1⟩
   have hfin : ∀ r, IsInts K (max lo lo') (min hi hi') (no ++ no') r -> IsMeet ⟨K, lo, hi, [], [], false, no⟩ ⟨K, lo', hi', [], [], false, no'⟩ r := fun r h =>
    meet_N ha hb' rfl (fun x => by show max lo lo' <= x ↔ lo <= x /\ lo' <= x; omega) (fun x => by show x <= min hi hi' ↔ x <= hi /\ x <= hi'; omega) (fun v => List.mem_append) h
   have hkk : K = 1 ∨ K = 3 := ha.kind
   rcases hkk with rfl | rfl
   ·refine (rmeet_1 lo hi A n c lo' hi' A' n' c' w no no' hlow hhigh hl hn hm hn' hm' hr hr').mono ?_
    rintro e w' ⟨r, hi, hl, h⟩
    exact ⟨r, hfin r hi, by show r.no.length <= no.length + no'.length; dsimp only at hn hn'; omega, h.b hbase⟩
   ·refine (rmeet_3 lo hi A n c lo' hi' A' n' c' w no no' hlow hhigh hl hn hm hn' hm' hr hr').mono ?_
    rintro e w' ⟨r, hi, hl, h⟩
    exact ⟨r, hfin r hi, by show r.no.length <= no.length + no'.length; dsimp only at hn hn'; omega, h.b hbase⟩
  ·have hb' : CanonT b := by
    rcases hb with rfl | rfl | hb | hb
    ·exact absurd hk (T_not4 ha).2
    ·exact absurd hk h4
    ·exact absurd (hk.symm.trans ha.kind) (N_not4 hb).2.1
    ·exact hb
   have bda := canon_bd (.inr (.inr (.inr ha)))
   have bdb := canon_bd (.inr (.inr (.inr hb')))
   obtain ⟨K, lo, hi, f, t, o, no⟩ := a
   obtain ⟨K', lo', hi', f', t', o', no'⟩ := b
   have e1 : lo = 0 := ha.lo
   have e2 : hi = 0 := ha.hi
   have e3 : lo' = 0 := hb'.lo
   have e4 : hi' = 0 := hb'.hi
   have e5 : K = 2 := ha.kind
   have e6 : K' = 2 := hb'.kind
   subst e1; subst e2; subst e3; subst e4; subst e5; subst e6
   have hl : ∀ v ∈ no ++ no', v.k = 2 /\ v.i = 0 /\ v.t.length <= 32 := fun v hv => by
    rcases List.mem_append.1 hv with h | h
    ·exact ⟨(ha.no v h).1, (ha.no v h).2.1, (ha.no v h).2.2.1⟩
    ·exact ⟨(hb'.no v h).1, (hb'.no v h).2.1, (hb'.no v h).2.2.1⟩
   have i1 : o = true -> t = [] := ha.isOpn
   have i2 : o' = true -> t' = [] := hb'.isOpn
   have s1 : o = false -> Short t := fun h => (ha.shut h).1
   have s2 : o' = false -> Short t' := fun h => (hb'.shut h).1
   dsimp only at bda bdb
   refine (rmeet_2 f t o A n c f' t' o' A' n' c' w no no' _ rfl _ rfl (maxT_short ha.flen hb'.flen) ?_ ?_ (by omega) (by omega) (by omega) (by omega) hl hn hm hn' hm' hr hr').mono ?_
   ·intro h
    cases o <;> cases o' <;> simp at h
    exact i2 rfl
   ·intro h
    cases o <;> cases o' <;> simp at h
    ·exact minT_short (s1 rfl) (s2 rfl)
    ·exact s1 rfl
    ·exact s2 rfl
   ·rintro e w' ⟨r, hi, hl, h⟩
    refine ⟨r, meet_T ha hb' (fun x => maxT_le f f' x) (fun x => ?_) (fun v => List.mem_append) hi, by show r.no.length <= no.length + no'.length; dsimp only at hn hn'; omega, h.b hbase⟩
    show _ ↔ (o = true ∨ bytesLess x t = true) /\ (o' = true ∨ bytesLess x t' = true)
    cases o <;> cases o' <;> simp
    exact minT_lt t t' x
 ·refine (rmeet_unlike a.kind a.lo a.hi a.frm a.to_ a.opn A n c b.kind b.lo b.hi b.frm b.to_ b.opn A' n' c' w h4 h4' hk).mono ?_
  rintro e w' ⟨rfl, hbw⟩
  exact ⟨none_, meet_kinds h4 h4' hk, by simp [none_], none, 0, 0, rfl, rfl, Nat.le_refl _, OwnK.none_ _ _, hbw⟩
end Go.Proofs.Ytoffnfooeojhnaa
namespace Go.Proofs.Ytoffnfooeojhnaa
open Go.RowKit Go.Sort Spans Op
set_option maxRecDepth 100000 in
set_option maxHeartbeats 4000000 in
theorem rof_no (n : List UInt8) (o k i : Int) (t : List UInt8) (w : World) (hn : n.length <= 9223372036854775807) (hl : t.length <= 9223372036854775807) (hr : Preds.right n o k i t = false) :
  Calls Try.prog 20 #[.agg #[.string ⟨n.toArray⟩, .int .i64 o, .int .i64 k, .int .i64 i, .string ⟨t.toArray⟩]] w (Gives w none_) := by
 have HRR := Lib.hid hr
 clear hr
 have hgr := gr2 w (.cells #[.string ⟨n.toArray⟩, .int .i64 o, .int .i64 k, .int .i64 i, .string ⟨t.toArray⟩] 38) (.cells #[.int .i64 0, .int .i64 0, .int .i64 0, .string ⟨#[]⟩, .string ⟨#[]⟩, .bool false, .slice none 0 0] 29)
 have hP := (Blk.new w 38 #[.string ⟨n.toArray⟩, .int .i64 o, .int .i64 k, .int .i64 i, .string ⟨t.toArray⟩]).alloc (.cells #[.int .i64 0, .int .i64 0, .int .i64 0, .string ⟨#[]⟩, .string ⟨#[]⟩, .bool false, .slice none 0 0] 29)
 have hY := Blk.new (w.alloc (.cells #[.string ⟨n.toArray⟩, .int .i64 o, .int .i64 k, .int .i64 i, .string ⟨t.toArray⟩] 38)) 29 #[.int .i64 0, .int .i64 0, .int .i64 0, .string ⟨#[]⟩, .string ⟨#[]⟩, .bool false, .slice none 0 0]
 rw [show (w.alloc (.cells #[.string ⟨n.toArray⟩, .int .i64 o, .int .i64 k, .int .i64 i, .string ⟨t.toArray⟩] 38)).heap.size = w.heap.size + 1 by simp] at hY
 go_enter Try.func20, Try.ntmps20
 go_wp2_with fail
 generalize ((w.alloc (.cells #[.string ⟨n.toArray⟩, .int .i64 o, .int .i64 k, .int .i64 i, .string ⟨t.toArray⟩] 38)).alloc (.cells #[.int .i64 0, .int .i64 0, .int .i64 0, .string ⟨#[]⟩, .string ⟨#[]⟩, .bool false, .slice none 0 0] 29)) = w0 at *
 refine (rpright_is n o k i t w0 hn hl false HRR.out).mono ?_
 rintro e w1 ⟨rfl, hb1⟩
 have HY := Lib.hid (Blk.below hY hb1 hY.lt)
 have HP := Lib.hid (Blk.below hP hb1 hP.lt)
 have BB := Lib.hid (below_next hgr.below (Nat.le_refl _) hb1)
 clear hgr hY hP hb1
 obtain ⟨y0, y1, y2, y3, y4, y5, y6, q0, q1, q2, q3, q4, q5, q6⟩ := blk7 HY.out
 have hlY := HY.out.lt
 clear HP
 go_wp2_with fail
 refine bodyPost_ret (v := spF 0 0 0 [] [] false none 0 0) (by simp [results, Try.results20, go_sem, y0, y1, y2, y3, y4, y5, y6]) rfl ?_
 exact ⟨none, 0, 0, rfl, rfl, Nat.le_refl _, OwnK.none_ _ _, below_put7 BB.out (by omega) _ _ _ _ _ _ _⟩
set_option maxRecDepth 100000 in
set_option maxHeartbeats 4000000 in
theorem rof_any (n : List UInt8) (k i : Int) (t : List UInt8) (w : World) (hn : n.length <= 9223372036854775807) (hl : t.length <= 9223372036854775807) (hr : Preds.right n 8 k i t = true) :
  Calls Try.prog 20 #[.agg #[.string ⟨n.toArray⟩, .int .i64 8, .int .i64 k, .int .i64 i, .string ⟨t.toArray⟩]] w (Gives w any_) := by
 have HRR := Lib.hid hr
 clear hr
 have hgr := gr2 w (.cells #[.string ⟨n.toArray⟩, .int .i64 8, .int .i64 k, .int .i64 i, .string ⟨t.toArray⟩] 38) (.cells #[.int .i64 0, .int .i64 0, .int .i64 0, .string ⟨#[]⟩, .string ⟨#[]⟩, .bool false, .slice none 0 0] 29)
 have hP := (Blk.new w 38 #[.string ⟨n.toArray⟩, .int .i64 8, .int .i64 k, .int .i64 i, .string ⟨t.toArray⟩]).alloc (.cells #[.int .i64 0, .int .i64 0, .int .i64 0, .string ⟨#[]⟩, .string ⟨#[]⟩, .bool false, .slice none 0 0] 29)
 have hY := Blk.new (w.alloc (.cells #[.string ⟨n.toArray⟩, .int .i64 8, .int .i64 k, .int .i64 i, .string ⟨t.toArray⟩] 38)) 29 #[.int .i64 0, .int .i64 0, .int .i64 0, .string ⟨#[]⟩, .string ⟨#[]⟩, .bool false, .slice none 0 0]
 rw [show (w.alloc (.cells #[.string ⟨n.toArray⟩, .int .i64 8, .int .i64 k, .int .i64 i, .string ⟨t.toArray⟩] 38)).heap.size = w.heap.size + 1 by simp] at hY
 go_enter Try.func20, Try.ntmps20
 go_wp2_with fail
 generalize ((w.alloc (.cells #[.string ⟨n.toArray⟩, .int .i64 8, .int .i64 k, .int .i64 i, .string ⟨t.toArray⟩] 38)).alloc (.cells #[.int .i64 0, .int .i64 0, .int .i64 0, .string ⟨#[]⟩, .string ⟨#[]⟩, .bool false, .slice none 0 0] 29)) = w0 at *
 refine (rpright_is n 8 k i t w0 hn hl true HRR.out).mono ?_
 rintro e w1 ⟨rfl, hb1⟩
 have HY := Lib.hid (Blk.below hY hb1 hY.lt)
 have HP := Lib.hid (Blk.below hP hb1 hP.lt)
 have BB := Lib.hid (below_next hgr.below (Nat.le_refl _) hb1)
 clear hgr hY hP hb1
 obtain ⟨p0, p1, p2, p3, p4, _⟩ := blk5 HP.out
 have hlP := HP.out.lt
 obtain ⟨y0, y1, y2, y3, y4, y5, y6, q0, q1, q2, q3, q4, q5, q6⟩ := blk7 HY.out
 have hlY := HY.out.lt
 go_wp2_with fail
 refine bodyPost_ret (v := spF 4 0 0 [] [] false none 0 0) (by simp [results, Try.results20, go_sem, y0, y1, y2, y3, y4, y5, y6]) rfl ?_
 exact ⟨none, 0, 0, rfl, rfl, Nat.le_refl _, OwnK.none_ _ _, below_put7 BB.out (by omega) _ _ _ _ _ _ _⟩
set_option maxRecDepth 100000 in
set_option maxHeartbeats 4000000 in
theorem rof_N1 (n : List UInt8) (o i : Int) (w : World) (hn : n.length <= 9223372036854775807) (hl : ([] : List UInt8).length <= 9223372036854775807) (h8 : o ≠ 8) (hP8 : rightP ⟨n, o, 1, i, []⟩ = true) (hr : Preds.right n o 1 i [] = true) :
  Calls Try.prog 20 #[.agg #[.string ⟨n.toArray⟩, .int .i64 o, .int .i64 1, .int .i64 i, .string ⟨#[]⟩]] w (GivesS w (IsOf ⟨n, o, 1, i, []⟩) 1) := by
 have v8 : (o == 8) = false := beq_eq_false_iff_ne.2 h8
 have HP8 := Lib.hid hP8
 clear hP8 h8
 have HRR := Lib.hid hr
 clear hr
 have hgr := gr2 w (.cells #[.string ⟨n.toArray⟩, .int .i64 o, .int .i64 1, .int .i64 i, .string ⟨#[]⟩] 38) (.cells #[.int .i64 0, .int .i64 0, .int .i64 0, .string ⟨#[]⟩, .string ⟨#[]⟩, .bool false, .slice none 0 0] 29)
 have hP := (Blk.new w 38 #[.string ⟨n.toArray⟩, .int .i64 o, .int .i64 1, .int .i64 i, .string ⟨#[]⟩]).alloc (.cells #[.int .i64 0, .int .i64 0, .int .i64 0, .string ⟨#[]⟩, .string ⟨#[]⟩, .bool false, .slice none 0 0] 29)
 have hY := Blk.new (w.alloc (.cells #[.string ⟨n.toArray⟩, .int .i64 o, .int .i64 1, .int .i64 i, .string ⟨#[]⟩] 38)) 29 #[.int .i64 0, .int .i64 0, .int .i64 0, .string ⟨#[]⟩, .string ⟨#[]⟩, .bool false, .slice none 0 0]
 rw [show (w.alloc (.cells #[.string ⟨n.toArray⟩, .int .i64 o, .int .i64 1, .int .i64 i, .string ⟨#[]⟩] 38)).heap.size = w.heap.size + 1 by simp] at hY
 go_enter Try.func20, Try.ntmps20
 go_wp2_with fail
 generalize ((w.alloc (.cells #[.string ⟨n.toArray⟩, .int .i64 o, .int .i64 1, .int .i64 i, .string ⟨#[]⟩] 38)).alloc (.cells #[.int .i64 0, .int .i64 0, .int .i64 0, .string ⟨#[]⟩, .string ⟨#[]⟩, .bool false, .slice none 0 0] 29)) = w0 at *
 refine (rpright_is n o 1 i [] w0 hn hl true HRR.out).mono ?_
 rintro e w1 ⟨rfl, hb1⟩
 have HY := Lib.hid (Blk.below hY hb1 hY.lt)
 have HP := Lib.hid (Blk.below hP hb1 hP.lt)
 have BB := Lib.hid (below_next hgr.below (Nat.le_refl _) hb1)
 clear hgr hY hP hb1
 obtain ⟨p0, p1, p2, p3, p4, _⟩ := blk5 HP.out
 have hlP := HP.out.lt
 go_wp2_with fail
 clear p0 p1 p2 p3 p4 hlP
 with_reducible refine (rnumber_at ⟨n, o, 1, i, []⟩ HP8.out (.inl rfl) w1).mono ?_
 rintro e w3 ⟨⟨rK, rlo, rhi, rf, rt, ro, rno⟩, hin, hrl, A7, n7, c7, rfl, hl7, hc7, ho7, hb7⟩
 dsimp only at hrl hl7 ho7
 have HIN := Lib.hid hin
 clear hin
 have HY3 := Lib.hid (Blk.below HY.out hb7 HY.out.lt)
 have BB3 := Lib.hid (below_next BB.out (Nat.le_refl _) hb7)
 have hs7 : w.heap.size + 1 < w1.heap.size := HY.out.lt
 have HL7 := Lib.hid hl7
 have HC7 := Lib.hid hc7
 have HO7 := Lib.hid ho7
 clear hb7 hl7 hc7 ho7 HP HY
 obtain ⟨y0, y1, y2, y3, y4, y5, y6, q0, q1, q2, q3, q4, q5, q6⟩ := blk7 HY3.out
 have hlY := HY3.out.lt
 go_wp2_with fail
 refine bodyPost_ret (v := spF rK rlo rhi rf rt ro A7 n7 c7) (by simp [results, Try.results20, go_sem, y0, y1, y2, y3, y4, y5, y6]) rfl ?_
 exact ⟨⟨rK, rlo, rhi, rf, rt, ro, rno⟩, HIN.out, by show rno.length <= 1; omega, A7, n7, c7, rfl, HL7.out, HC7.out, (OwnK.put7 HO7.out (by omega) _ _ _ _ _ _ _).less (by omega), below_put7 BB3.out (by omega) _ _ _ _ _ _ _⟩
set_option maxRecDepth 100000 in
set_option maxHeartbeats 4000000 in
theorem rof_N3 (n : List UInt8) (o i : Int) (w : World) (hn : n.length <= 9223372036854775807) (hl : ([] : List UInt8).length <= 9223372036854775807) (h8 : o ≠ 8) (hP8 : rightP ⟨n, o, 3, i, []⟩ = true) (hr : Preds.right n o 3 i [] = true) :
  Calls Try.prog 20 #[.agg #[.string ⟨n.toArray⟩, .int .i64 o, .int .i64 3, .int .i64 i, .string ⟨#[]⟩]] w (GivesS w (IsOf ⟨n, o, 3, i, []⟩) 1) := by
 have v8 : (o == 8) = false := beq_eq_false_iff_ne.2 h8
 have HP8 := Lib.hid hP8
 clear hP8 h8
 have HRR := Lib.hid hr
 clear hr
 have hgr := gr2 w (.cells #[.string ⟨n.toArray⟩, .int .i64 o, .int .i64 3, .int .i64 i, .string ⟨#[]⟩] 38) (.cells #[.int .i64 0, .int .i64 0, .int .i64 0, .string ⟨#[]⟩, .string ⟨#[]⟩, .bool false, .slice none 0 0] 29)
 have hP := (Blk.new w 38 #[.string ⟨n.toArray⟩, .int .i64 o, .int .i64 3, .int .i64 i, .string ⟨#[]⟩]).alloc (.cells #[.int .i64 0, .int .i64 0, .int .i64 0, .string ⟨#[]⟩, .string ⟨#[]⟩, .bool false, .slice none 0 0] 29)
 have hY := Blk.new (w.alloc (.cells #[.string ⟨n.toArray⟩, .int .i64 o, .int .i64 3, .int .i64 i, .string ⟨#[]⟩] 38)) 29 #[.int .i64 0, .int .i64 0, .int .i64 0, .string ⟨#[]⟩, .string ⟨#[]⟩, .bool false, .slice none 0 0]
 rw [show (w.alloc (.cells #[.string ⟨n.toArray⟩, .int .i64 o, .int .i64 3, .int .i64 i, .string ⟨#[]⟩] 38)).heap.size = w.heap.size + 1 by simp] at hY
 go_enter Try.func20, Try.ntmps20
 go_wp2_with fail
 generalize ((w.alloc (.cells #[.string ⟨n.toArray⟩, .int .i64 o, .int .i64 3, .int .i64 i, .string ⟨#[]⟩] 38)).alloc (.cells #[.int .i64 0, .int .i64 0, .int .i64 0, .string ⟨#[]⟩, .string ⟨#[]⟩, .bool false, .slice none 0 0] 29)) = w0 at *
 refine (rpright_is n o 3 i [] w0 hn hl true HRR.out).mono ?_
 rintro e w1 ⟨rfl, hb1⟩
 have HY := Lib.hid (Blk.below hY hb1 hY.lt)
 have HP := Lib.hid (Blk.below hP hb1 hP.lt)
 have BB := Lib.hid (below_next hgr.below (Nat.le_refl _) hb1)
 clear hgr hY hP hb1
 obtain ⟨p0, p1, p2, p3, p4, _⟩ := blk5 HP.out
 have hlP := HP.out.lt
 go_wp2_with fail
 clear p0 p1 p2 p3 p4 hlP
 with_reducible refine (rnumber_at ⟨n, o, 3, i, []⟩ HP8.out (.inr rfl) w1).mono ?_
 rintro e w3 ⟨⟨rK, rlo, rhi, rf, rt, ro, rno⟩, hin, hrl, A7, n7, c7, rfl, hl7, hc7, ho7, hb7⟩
 dsimp only at hrl hl7 ho7
 have HIN := Lib.hid hin
 clear hin
 have HY3 := Lib.hid (Blk.below HY.out hb7 HY.out.lt)
 have BB3 := Lib.hid (below_next BB.out (Nat.le_refl _) hb7)
 have hs7 : w.heap.size + 1 < w1.heap.size := HY.out.lt
 have HL7 := Lib.hid hl7
 have HC7 := Lib.hid hc7
 have HO7 := Lib.hid ho7
 clear hb7 hl7 hc7 ho7 HP HY
 obtain ⟨y0, y1, y2, y3, y4, y5, y6, q0, q1, q2, q3, q4, q5, q6⟩ := blk7 HY3.out
 have hlY := HY3.out.lt
 go_wp2_with fail
 refine bodyPost_ret (v := spF rK rlo rhi rf rt ro A7 n7 c7) (by simp [results, Try.results20, go_sem, y0, y1, y2, y3, y4, y5, y6]) rfl ?_
 exact ⟨⟨rK, rlo, rhi, rf, rt, ro, rno⟩, HIN.out, by show rno.length <= 1; omega, A7, n7, c7, rfl, HL7.out, HC7.out, (OwnK.put7 HO7.out (by omega) _ _ _ _ _ _ _).less (by omega), below_put7 BB3.out (by omega) _ _ _ _ _ _ _⟩
set_option maxRecDepth 100000 in
set_option maxHeartbeats 4000000 in
theorem rof_T1 (n : List UInt8) (t : List UInt8) (ht : t.length <= 32) (w : World) (hn : n.length <= 9223372036854775807) (hl : t.length <= 9223372036854775807) (hr : Preds.right n 1 2 0 t = true) :
  Calls Try.prog 20 #[.agg #[.string ⟨n.toArray⟩, .int .i64 1, .int .i64 2, .int .i64 0, .string ⟨t.toArray⟩]] w (GivesS w (IsTexts t (t ++ [0]) false []) 1) := by
 have HRR := Lib.hid hr
 clear hr
 have hgr := gr2 w (.cells #[.string ⟨n.toArray⟩, .int .i64 1, .int .i64 2, .int .i64 0, .string ⟨t.toArray⟩] 38) (.cells #[.int .i64 0, .int .i64 0, .int .i64 0, .string ⟨#[]⟩, .string ⟨#[]⟩, .bool false, .slice none 0 0] 29)
 have hP := (Blk.new w 38 #[.string ⟨n.toArray⟩, .int .i64 1, .int .i64 2, .int .i64 0, .string ⟨t.toArray⟩]).alloc (.cells #[.int .i64 0, .int .i64 0, .int .i64 0, .string ⟨#[]⟩, .string ⟨#[]⟩, .bool false, .slice none 0 0] 29)
 have hY := Blk.new (w.alloc (.cells #[.string ⟨n.toArray⟩, .int .i64 1, .int .i64 2, .int .i64 0, .string ⟨t.toArray⟩] 38)) 29 #[.int .i64 0, .int .i64 0, .int .i64 0, .string ⟨#[]⟩, .string ⟨#[]⟩, .bool false, .slice none 0 0]
 rw [show (w.alloc (.cells #[.string ⟨n.toArray⟩, .int .i64 1, .int .i64 2, .int .i64 0, .string ⟨t.toArray⟩] 38)).heap.size = w.heap.size + 1 by simp] at hY
 go_enter Try.func20, Try.ntmps20
 go_wp2_with fail
 generalize ((w.alloc (.cells #[.string ⟨n.toArray⟩, .int .i64 1, .int .i64 2, .int .i64 0, .string ⟨t.toArray⟩] 38)).alloc (.cells #[.int .i64 0, .int .i64 0, .int .i64 0, .string ⟨#[]⟩, .string ⟨#[]⟩, .bool false, .slice none 0 0] 29)) = w0 at *
 refine (rpright_is n 1 2 0 t w0 hn hl true HRR.out).mono ?_
 rintro e w1 ⟨rfl, hb1⟩
 have HY := Lib.hid (Blk.below hY hb1 hY.lt)
 have HP := Lib.hid (Blk.below hP hb1 hP.lt)
 have BB := Lib.hid (below_next hgr.below (Nat.le_refl _) hb1)
 clear hgr hY hP hb1
 obtain ⟨p0, p1, p2, p3, p4, _⟩ := blk5 HP.out
 have hlP := HP.out.lt
 have hap := ba_app0 t
 have hno : ¬ 9223372036854775807 < t.length + 1 := by omega
 go_wp2_with fail
 clear p0 p1 p2 p3 p4 hlP hap hno
 refine (rtexts_shut t (t ++ [0]) none [] 0 0 (.inl ht) (.inr ⟨t, rfl, ht⟩) rfl (by decide) (fun v hv => by cases hv) w1 (.inl rfl)).mono ?_
 rintro e w3 ⟨⟨rK, rlo, rhi, rf, rt, ro, rno⟩, hin, hrl, A7, n7, c7, rfl, hl7, hc7, ho7, hb7⟩
 dsimp only at hrl hl7 ho7
 have HIN := Lib.hid hin
 clear hin
 have HY3 := Lib.hid (Blk.below HY.out hb7 HY.out.lt)
 have BB3 := Lib.hid (below_next BB.out (Nat.le_refl _) hb7)
 have hs7 : w.heap.size + 1 < w1.heap.size := HY.out.lt
 have HL7 := Lib.hid hl7
 have HC7 := Lib.hid hc7
 have HO7 := Lib.hid ho7
 clear hb7 hl7 hc7 ho7 HP HY
 obtain ⟨y0, y1, y2, y3, y4, y5, y6, q0, q1, q2, q3, q4, q5, q6⟩ := blk7 HY3.out
 have hlY := HY3.out.lt
 go_wp2_with fail
 refine bodyPost_ret (v := spF rK rlo rhi rf rt ro A7 n7 c7) (by simp [results, Try.results20, go_sem, y0, y1, y2, y3, y4, y5, y6]) rfl ?_
 exact ⟨⟨rK, rlo, rhi, rf, rt, ro, rno⟩, HIN.out, by show rno.length <= 1; omega, A7, n7, c7, rfl, HL7.out, HC7.out, (OwnK.put7 HO7.out (by omega) _ _ _ _ _ _ _).less (by omega), below_put7 BB3.out (by omega) _ _ _ _ _ _ _⟩
set_option maxRecDepth 100000 in
set_option maxHeartbeats 4000000 in
theorem rof_T2 (n : List UInt8) (t : List UInt8) (ht : t.length <= 32) (w : World) (hn : n.length <= 9223372036854775807) (hl : t.length <= 9223372036854775807) (hr : Preds.right n 2 2 0 t = true) :
  Calls Try.prog 20 #[.agg #[.string ⟨n.toArray⟩, .int .i64 2, .int .i64 2, .int .i64 0, .string ⟨t.toArray⟩]] w (GivesS w (IsTexts [] [] true [(⟨2, 0, t⟩ : Val)]) 1) := by
 have HRR := Lib.hid hr
 clear hr
 have hgr := gr2 w (.cells #[.string ⟨n.toArray⟩, .int .i64 2, .int .i64 2, .int .i64 0, .string ⟨t.toArray⟩] 38) (.cells #[.int .i64 0, .int .i64 0, .int .i64 0, .string ⟨#[]⟩, .string ⟨#[]⟩, .bool false, .slice none 0 0] 29)
 have hP := (Blk.new w 38 #[.string ⟨n.toArray⟩, .int .i64 2, .int .i64 2, .int .i64 0, .string ⟨t.toArray⟩]).alloc (.cells #[.int .i64 0, .int .i64 0, .int .i64 0, .string ⟨#[]⟩, .string ⟨#[]⟩, .bool false, .slice none 0 0] 29)
 have hY := Blk.new (w.alloc (.cells #[.string ⟨n.toArray⟩, .int .i64 2, .int .i64 2, .int .i64 0, .string ⟨t.toArray⟩] 38)) 29 #[.int .i64 0, .int .i64 0, .int .i64 0, .string ⟨#[]⟩, .string ⟨#[]⟩, .bool false, .slice none 0 0]
 rw [show (w.alloc (.cells #[.string ⟨n.toArray⟩, .int .i64 2, .int .i64 2, .int .i64 0, .string ⟨t.toArray⟩] 38)).heap.size = w.heap.size + 1 by simp] at hY
 go_enter Try.func20, Try.ntmps20
 go_wp2_with fail
 generalize ((w.alloc (.cells #[.string ⟨n.toArray⟩, .int .i64 2, .int .i64 2, .int .i64 0, .string ⟨t.toArray⟩] 38)).alloc (.cells #[.int .i64 0, .int .i64 0, .int .i64 0, .string ⟨#[]⟩, .string ⟨#[]⟩, .bool false, .slice none 0 0] 29)) = w0 at *
 refine (rpright_is n 2 2 0 t w0 hn hl true HRR.out).mono ?_
 rintro e w1 ⟨rfl, hb1⟩
 have HY := Lib.hid (Blk.below hY hb1 hY.lt)
 have HP := Lib.hid (Blk.below hP hb1 hP.lt)
 have BB := Lib.hid (below_next hgr.below (Nat.le_refl _) hb1)
 clear hgr hY hP hb1
 obtain ⟨p0, p1, p2, p3, p4, _⟩ := blk5 HP.out
 have hlP := HP.out.lt
 have hrx := rdk_one layV w1 ⟨2, 0, t⟩ 24 #[.int .i64 2, .int .i64 0, .string ⟨t.toArray⟩] rfl
 have hbx := (gr1 w1 (.cells #[.int .i64 2, .int .i64 0, .string ⟨t.toArray⟩] 24)).below
 go_wp2_with fail
 clear p0 p1 p2 p3 p4 hlP
 replace HY := Lib.hid (Blk.below HY.out hbx HY.out.lt)
 replace HP := Lib.hid (Blk.below HP.out hbx HP.out.lt)
 replace BB := Lib.hid (below_next BB.out (Nat.le_refl _) hbx)
 generalize w1.alloc (.cells #[.int .i64 2, .int .i64 0, .string ⟨t.toArray⟩] 24) = w2 at *
 generalize w1.heap.size = q9 at *
 clear hbx
 refine (rtexts_open [] (some ⟨q9, 0, none⟩) [⟨2, 0, t⟩] 1 1 (.inl (by simp)) rfl (by decide) (fun v hv => by simp at hv; subst hv; exact ⟨rfl, rfl, ht⟩) w2 hrx).mono ?_
 rintro e w3 ⟨⟨rK, rlo, rhi, rf, rt, ro, rno⟩, hin, hrl, A7, n7, c7, rfl, hl7, hc7, ho7, hb7⟩
 dsimp only at hrl hl7 ho7
 have HIN := Lib.hid hin
 clear hin
 have HY3 := Lib.hid (Blk.below HY.out hb7 HY.out.lt)
 have BB3 := Lib.hid (below_next BB.out (Nat.le_refl _) hb7)
 have hs7 : w.heap.size + 1 < w2.heap.size := HY.out.lt
 have HL7 := Lib.hid hl7
 have HC7 := Lib.hid hc7
 have HO7 := Lib.hid ho7
 clear hb7 hl7 hc7 ho7 HP HY
 obtain ⟨y0, y1, y2, y3, y4, y5, y6, q0, q1, q2, q3, q4, q5, q6⟩ := blk7 HY3.out
 have hlY := HY3.out.lt
 go_wp2_with fail
 refine bodyPost_ret (v := spF rK rlo rhi rf rt ro A7 n7 c7) (by simp [results, Try.results20, go_sem, y0, y1, y2, y3, y4, y5, y6]) rfl ?_
 exact ⟨⟨rK, rlo, rhi, rf, rt, ro, rno⟩, HIN.out, by show rno.length <= 1; omega, A7, n7, c7, rfl, HL7.out, HC7.out, (OwnK.put7 HO7.out (by omega) _ _ _ _ _ _ _).less (by omega), below_put7 BB3.out (by omega) _ _ _ _ _ _ _⟩
set_option maxRecDepth 100000 in
set_option maxHeartbeats 4000000 in
theorem rof_T3 (n : List UInt8) (t : List UInt8) (ht : t.length <= 32) (w : World) (hn : n.length <= 9223372036854775807) (hl : t.length <= 9223372036854775807) (hr : Preds.right n 3 2 0 t = true) :
  Calls Try.prog 20 #[.agg #[.string ⟨n.toArray⟩, .int .i64 3, .int .i64 2, .int .i64 0, .string ⟨t.toArray⟩]] w (GivesS w (IsTexts [] t false []) 1) := by
 have HRR := Lib.hid hr
 clear hr
 have hgr := gr2 w (.cells #[.string ⟨n.toArray⟩, .int .i64 3, .int .i64 2, .int .i64 0, .string ⟨t.toArray⟩] 38) (.cells #[.int .i64 0, .int .i64 0, .int .i64 0, .string ⟨#[]⟩, .string ⟨#[]⟩, .bool false, .slice none 0 0] 29)
 have hP := (Blk.new w 38 #[.string ⟨n.toArray⟩, .int .i64 3, .int .i64 2, .int .i64 0, .string ⟨t.toArray⟩]).alloc (.cells #[.int .i64 0, .int .i64 0, .int .i64 0, .string ⟨#[]⟩, .string ⟨#[]⟩, .bool false, .slice none 0 0] 29)
 have hY := Blk.new (w.alloc (.cells #[.string ⟨n.toArray⟩, .int .i64 3, .int .i64 2, .int .i64 0, .string ⟨t.toArray⟩] 38)) 29 #[.int .i64 0, .int .i64 0, .int .i64 0, .string ⟨#[]⟩, .string ⟨#[]⟩, .bool false, .slice none 0 0]
 rw [show (w.alloc (.cells #[.string ⟨n.toArray⟩, .int .i64 3, .int .i64 2, .int .i64 0, .string ⟨t.toArray⟩] 38)).heap.size = w.heap.size + 1 by simp] at hY
 go_enter Try.func20, Try.ntmps20
 go_wp2_with fail
 generalize ((w.alloc (.cells #[.string ⟨n.toArray⟩, .int .i64 3, .int .i64 2, .int .i64 0, .string ⟨t.toArray⟩] 38)).alloc (.cells #[.int .i64 0, .int .i64 0, .int .i64 0, .string ⟨#[]⟩, .string ⟨#[]⟩, .bool false, .slice none 0 0] 29)) = w0 at *
 refine (rpright_is n 3 2 0 t w0 hn hl true HRR.out).mono ?_
 rintro e w1 ⟨rfl, hb1⟩
 have HY := Lib.hid (Blk.below hY hb1 hY.lt)
 have HP := Lib.hid (Blk.below hP hb1 hP.lt)
 have BB := Lib.hid (below_next hgr.below (Nat.le_refl _) hb1)
 clear hgr hY hP hb1
 obtain ⟨p0, p1, p2, p3, p4, _⟩ := blk5 HP.out
 have hlP := HP.out.lt
 go_wp2_with fail
 clear p0 p1 p2 p3 p4 hlP
 refine (rtexts_shut [] t none [] 0 0 (.inl (by simp)) (.inl ht) rfl (by decide) (fun v hv => by cases hv) w1 (.inl rfl)).mono ?_
 rintro e w3 ⟨⟨rK, rlo, rhi, rf, rt, ro, rno⟩, hin, hrl, A7, n7, c7, rfl, hl7, hc7, ho7, hb7⟩
 dsimp only at hrl hl7 ho7
 have HIN := Lib.hid hin
 clear hin
 have HY3 := Lib.hid (Blk.below HY.out hb7 HY.out.lt)
 have BB3 := Lib.hid (below_next BB.out (Nat.le_refl _) hb7)
 have hs7 : w.heap.size + 1 < w1.heap.size := HY.out.lt
 have HL7 := Lib.hid hl7
 have HC7 := Lib.hid hc7
 have HO7 := Lib.hid ho7
 clear hb7 hl7 hc7 ho7 HP HY
 obtain ⟨y0, y1, y2, y3, y4, y5, y6, q0, q1, q2, q3, q4, q5, q6⟩ := blk7 HY3.out
 have hlY := HY3.out.lt
 go_wp2_with fail
 refine bodyPost_ret (v := spF rK rlo rhi rf rt ro A7 n7 c7) (by simp [results, Try.results20, go_sem, y0, y1, y2, y3, y4, y5, y6]) rfl ?_
 exact ⟨⟨rK, rlo, rhi, rf, rt, ro, rno⟩, HIN.out, by show rno.length <= 1; omega, A7, n7, c7, rfl, HL7.out, HC7.out, (OwnK.put7 HO7.out (by omega) _ _ _ _ _ _ _).less (by omega), below_put7 BB3.out (by omega) _ _ _ _ _ _ _⟩
set_option maxRecDepth 100000 in
set_option maxHeartbeats 4000000 in
theorem rof_T4 (n : List UInt8) (t : List UInt8) (ht : t.length <= 32) (w : World) (hn : n.length <= 9223372036854775807) (hl : t.length <= 9223372036854775807) (hr : Preds.right n 4 2 0 t = true) :
  Calls Try.prog 20 #[.agg #[.string ⟨n.toArray⟩, .int .i64 4, .int .i64 2, .int .i64 0, .string ⟨t.toArray⟩]] w (GivesS w (IsTexts [] (t ++ [0]) false []) 1) := by
 have HRR := Lib.hid hr
 clear hr
 have hgr := gr2 w (.cells #[.string ⟨n.toArray⟩, .int .i64 4, .int .i64 2, .int .i64 0, .string ⟨t.toArray⟩] 38) (.cells #[.int .i64 0, .int .i64 0, .int .i64 0, .string ⟨#[]⟩, .string ⟨#[]⟩, .bool false, .slice none 0 0] 29)
 have hP := (Blk.new w 38 #[.string ⟨n.toArray⟩, .int .i64 4, .int .i64 2, .int .i64 0, .string ⟨t.toArray⟩]).alloc (.cells #[.int .i64 0, .int .i64 0, .int .i64 0, .string ⟨#[]⟩, .string ⟨#[]⟩, .bool false, .slice none 0 0] 29)
 have hY := Blk.new (w.alloc (.cells #[.string ⟨n.toArray⟩, .int .i64 4, .int .i64 2, .int .i64 0, .string ⟨t.toArray⟩] 38)) 29 #[.int .i64 0, .int .i64 0, .int .i64 0, .string ⟨#[]⟩, .string ⟨#[]⟩, .bool false, .slice none 0 0]
 rw [show (w.alloc (.cells #[.string ⟨n.toArray⟩, .int .i64 4, .int .i64 2, .int .i64 0, .string ⟨t.toArray⟩] 38)).heap.size = w.heap.size + 1 by simp] at hY
 go_enter Try.func20, Try.ntmps20
 go_wp2_with fail
 generalize ((w.alloc (.cells #[.string ⟨n.toArray⟩, .int .i64 4, .int .i64 2, .int .i64 0, .string ⟨t.toArray⟩] 38)).alloc (.cells #[.int .i64 0, .int .i64 0, .int .i64 0, .string ⟨#[]⟩, .string ⟨#[]⟩, .bool false, .slice none 0 0] 29)) = w0 at *
 refine (rpright_is n 4 2 0 t w0 hn hl true HRR.out).mono ?_
 rintro e w1 ⟨rfl, hb1⟩
 have HY := Lib.hid (Blk.below hY hb1 hY.lt)
 have HP := Lib.hid (Blk.below hP hb1 hP.lt)
 have BB := Lib.hid (below_next hgr.below (Nat.le_refl _) hb1)
 clear hgr hY hP hb1
 obtain ⟨p0, p1, p2, p3, p4, _⟩ := blk5 HP.out
 have hlP := HP.out.lt
 have hap := ba_app0 t
 have hno : ¬ 9223372036854775807 < t.length + 1 := by omega
 go_wp2_with fail
 clear p0 p1 p2 p3 p4 hlP hap hno
 refine (rtexts_shut [] (t ++ [0]) none [] 0 0 (.inl (by simp)) (.inr ⟨t, rfl, ht⟩) rfl (by decide) (fun v hv => by cases hv) w1 (.inl rfl)).mono ?_
 rintro e w3 ⟨⟨rK, rlo, rhi, rf, rt, ro, rno⟩, hin, hrl, A7, n7, c7, rfl, hl7, hc7, ho7, hb7⟩
 dsimp only at hrl hl7 ho7
 have HIN := Lib.hid hin
 clear hin
 have HY3 := Lib.hid (Blk.below HY.out hb7 HY.out.lt)
 have BB3 := Lib.hid (below_next BB.out (Nat.le_refl _) hb7)
 have hs7 : w.heap.size + 1 < w1.heap.size := HY.out.lt
 have HL7 := Lib.hid hl7
 have HC7 := Lib.hid hc7
 have HO7 := Lib.hid ho7
 clear hb7 hl7 hc7 ho7 HP HY
 obtain ⟨y0, y1, y2, y3, y4, y5, y6, q0, q1, q2, q3, q4, q5, q6⟩ := blk7 HY3.out
 have hlY := HY3.out.lt
 go_wp2_with fail
 refine bodyPost_ret (v := spF rK rlo rhi rf rt ro A7 n7 c7) (by simp [results, Try.results20, go_sem, y0, y1, y2, y3, y4, y5, y6]) rfl ?_
 exact ⟨⟨rK, rlo, rhi, rf, rt, ro, rno⟩, HIN.out, by show rno.length <= 1; omega, A7, n7, c7, rfl, HL7.out, HC7.out, (OwnK.put7 HO7.out (by omega) _ _ _ _ _ _ _).less (by omega), below_put7 BB3.out (by omega) _ _ _ _ _ _ _⟩
set_option maxRecDepth 100000 in
set_option maxHeartbeats 4000000 in
theorem rof_T5 (n : List UInt8) (t : List UInt8) (ht : t.length <= 32) (w : World) (hn : n.length <= 9223372036854775807) (hl : t.length <= 9223372036854775807) (hr : Preds.right n 5 2 0 t = true) :
  Calls Try.prog 20 #[.agg #[.string ⟨n.toArray⟩, .int .i64 5, .int .i64 2, .int .i64 0, .string ⟨t.toArray⟩]] w (GivesS w (IsTexts (t ++ [0]) [] true []) 1) := by
 have HRR := Lib.hid hr
 clear hr
 have hgr := gr2 w (.cells #[.string ⟨n.toArray⟩, .int .i64 5, .int .i64 2, .int .i64 0, .string ⟨t.toArray⟩] 38) (.cells #[.int .i64 0, .int .i64 0, .int .i64 0, .string ⟨#[]⟩, .string ⟨#[]⟩, .bool false, .slice none 0 0] 29)
 have hP := (Blk.new w 38 #[.string ⟨n.toArray⟩, .int .i64 5, .int .i64 2, .int .i64 0, .string ⟨t.toArray⟩]).alloc (.cells #[.int .i64 0, .int .i64 0, .int .i64 0, .string ⟨#[]⟩, .string ⟨#[]⟩, .bool false, .slice none 0 0] 29)
 have hY := Blk.new (w.alloc (.cells #[.string ⟨n.toArray⟩, .int .i64 5, .int .i64 2, .int .i64 0, .string ⟨t.toArray⟩] 38)) 29 #[.int .i64 0, .int .i64 0, .int .i64 0, .string ⟨#[]⟩, .string ⟨#[]⟩, .bool false, .slice none 0 0]
 rw [show (w.alloc (.cells #[.string ⟨n.toArray⟩, .int .i64 5, .int .i64 2, .int .i64 0, .string ⟨t.toArray⟩] 38)).heap.size = w.heap.size + 1 by simp] at hY
 go_enter Try.func20, Try.ntmps20
 go_wp2_with fail
 generalize ((w.alloc (.cells #[.string ⟨n.toArray⟩, .int .i64 5, .int .i64 2, .int .i64 0, .string ⟨t.toArray⟩] 38)).alloc (.cells #[.int .i64 0, .int .i64 0, .int .i64 0, .string ⟨#[]⟩, .string ⟨#[]⟩, .bool false, .slice none 0 0] 29)) = w0 at *
 refine (rpright_is n 5 2 0 t w0 hn hl true HRR.out).mono ?_
 rintro e w1 ⟨rfl, hb1⟩
 have HY := Lib.hid (Blk.below hY hb1 hY.lt)
 have HP := Lib.hid (Blk.below hP hb1 hP.lt)
 have BB := Lib.hid (below_next hgr.below (Nat.le_refl _) hb1)
 clear hgr hY hP hb1
 obtain ⟨p0, p1, p2, p3, p4, _⟩ := blk5 HP.out
 have hlP := HP.out.lt
 have hap := ba_app0 t
 have hno : ¬ 9223372036854775807 < t.length + 1 := by omega
 go_wp2_with fail
 clear p0 p1 p2 p3 p4 hlP hap hno
 refine (rtexts_open (t ++ [0]) none [] 0 0 (.inr ⟨t, rfl, ht⟩) rfl (by decide) (fun v hv => by cases hv) w1 (.inl rfl)).mono ?_
 rintro e w3 ⟨⟨rK, rlo, rhi, rf, rt, ro, rno⟩, hin, hrl, A7, n7, c7, rfl, hl7, hc7, ho7, hb7⟩
 dsimp only at hrl hl7 ho7
 have HIN := Lib.hid hin
 clear hin
 have HY3 := Lib.hid (Blk.below HY.out hb7 HY.out.lt)
 have BB3 := Lib.hid (below_next BB.out (Nat.le_refl _) hb7)
 have hs7 : w.heap.size + 1 < w1.heap.size := HY.out.lt
 have HL7 := Lib.hid hl7
 have HC7 := Lib.hid hc7
 have HO7 := Lib.hid ho7
 clear hb7 hl7 hc7 ho7 HP HY
 obtain ⟨y0, y1, y2, y3, y4, y5, y6, q0, q1, q2, q3, q4, q5, q6⟩ := blk7 HY3.out
 have hlY := HY3.out.lt
 go_wp2_with fail
 refine bodyPost_ret (v := spF rK rlo rhi rf rt ro A7 n7 c7) (by simp [results, Try.results20, go_sem, y0, y1, y2, y3, y4, y5, y6]) rfl ?_
 exact ⟨⟨rK, rlo, rhi, rf, rt, ro, rno⟩, HIN.out, by show rno.length <= 1; omega, A7, n7, c7, rfl, HL7.out, HC7.out, (OwnK.put7 HO7.out (by omega) _ _ _ _ _ _ _).less (by omega), below_put7 BB3.out (by omega) _ _ _ _ _ _ _⟩
set_option maxRecDepth 100000 in
set_option maxHeartbeats 4000000 in
theorem rof_T6 (n : List UInt8) (t : List UInt8) (ht : t.length <= 32) (w : World) (hn : n.length <= 9223372036854775807) (hl : t.length <= 9223372036854775807) (hr : Preds.right n 6 2 0 t = true) :
  Calls Try.prog 20 #[.agg #[.string ⟨n.toArray⟩, .int .i64 6, .int .i64 2, .int .i64 0, .string ⟨t.toArray⟩]] w (GivesS w (IsTexts t [] true []) 1) := by
 have HRR := Lib.hid hr
 clear hr
 have hgr := gr2 w (.cells #[.string ⟨n.toArray⟩, .int .i64 6, .int .i64 2, .int .i64 0, .string ⟨t.toArray⟩] 38) (.cells #[.int .i64 0, .int .i64 0, .int .i64 0, .string ⟨#[]⟩, .string ⟨#[]⟩, .bool false, .slice none 0 0] 29)
 have hP := (Blk.new w 38 #[.string ⟨n.toArray⟩, .int .i64 6, .int .i64 2, .int .i64 0, .string ⟨t.toArray⟩]).alloc (.cells #[.int .i64 0, .int .i64 0, .int .i64 0, .string ⟨#[]⟩, .string ⟨#[]⟩, .bool false, .slice none 0 0] 29)
 have hY := Blk.new (w.alloc (.cells #[.string ⟨n.toArray⟩, .int .i64 6, .int .i64 2, .int .i64 0, .string ⟨t.toArray⟩] 38)) 29 #[.int .i64 0, .int .i64 0, .int .i64 0, .string ⟨#[]⟩, .string ⟨#[]⟩, .bool false, .slice none 0 0]
 rw [show (w.alloc (.cells #[.string ⟨n.toArray⟩, .int .i64 6, .int .i64 2, .int .i64 0, .string ⟨t.toArray⟩] 38)).heap.size = w.heap.size + 1 by simp] at hY
 go_enter Try.func20, Try.ntmps20
 go_wp2_with fail
 generalize ((w.alloc (.cells #[.string ⟨n.toArray⟩, .int .i64 6, .int .i64 2, .int .i64 0, .string ⟨t.toArray⟩] 38)).alloc (.cells #[.int .i64 0, .int .i64 0, .int .i64 0, .string ⟨#[]⟩, .string ⟨#[]⟩, .bool false, .slice none 0 0] 29)) = w0 at *
 refine (rpright_is n 6 2 0 t w0 hn hl true HRR.out).mono ?_
 rintro e w1 ⟨rfl, hb1⟩
 have HY := Lib.hid (Blk.below hY hb1 hY.lt)
 have HP := Lib.hid (Blk.below hP hb1 hP.lt)
 have BB := Lib.hid (below_next hgr.below (Nat.le_refl _) hb1)
 clear hgr hY hP hb1
 obtain ⟨p0, p1, p2, p3, p4, _⟩ := blk5 HP.out
 have hlP := HP.out.lt
 go_wp2_with fail
 clear p0 p1 p2 p3 p4 hlP
 refine (rtexts_open t none [] 0 0 (.inl ht) rfl (by decide) (fun v hv => by cases hv) w1 (.inl rfl)).mono ?_
 rintro e w3 ⟨⟨rK, rlo, rhi, rf, rt, ro, rno⟩, hin, hrl, A7, n7, c7, rfl, hl7, hc7, ho7, hb7⟩
 dsimp only at hrl hl7 ho7
 have HIN := Lib.hid hin
 clear hin
 have HY3 := Lib.hid (Blk.below HY.out hb7 HY.out.lt)
 have BB3 := Lib.hid (below_next BB.out (Nat.le_refl _) hb7)
 have hs7 : w.heap.size + 1 < w1.heap.size := HY.out.lt
 have HL7 := Lib.hid hl7
 have HC7 := Lib.hid hc7
 have HO7 := Lib.hid ho7
 clear hb7 hl7 hc7 ho7 HP HY
 obtain ⟨y0, y1, y2, y3, y4, y5, y6, q0, q1, q2, q3, q4, q5, q6⟩ := blk7 HY3.out
 have hlY := HY3.out.lt
 go_wp2_with fail
 refine bodyPost_ret (v := spF rK rlo rhi rf rt ro A7 n7 c7) (by simp [results, Try.results20, go_sem, y0, y1, y2, y3, y4, y5, y6]) rfl ?_
 exact ⟨⟨rK, rlo, rhi, rf, rt, ro, rno⟩, HIN.out, by show rno.length <= 1; omega, A7, n7, c7, rfl, HL7.out, HC7.out, (OwnK.put7 HO7.out (by omega) _ _ _ _ _ _ _).less (by omega), below_put7 BB3.out (by omega) _ _ _ _ _ _ _⟩
set_option maxRecDepth 100000 in
set_option maxHeartbeats 4000000 in
theorem rof_T7 (n : List UInt8) (t : List UInt8) (ht : t.length <= 32) (w : World) (hn : n.length <= 9223372036854775807) (hl : t.length <= 9223372036854775807) (hr : Preds.right n 7 2 0 t = true) :
  Calls Try.prog 20 #[.agg #[.string ⟨n.toArray⟩, .int .i64 7, .int .i64 2, .int .i64 0, .string ⟨t.toArray⟩]] w (GivesS w (IsTexts t ((Spans.up t).getD []) (Spans.up t).isNone []) 1) := by
 have HRR := Lib.hid hr
 clear hr
 have hgr := gr2 w (.cells #[.string ⟨n.toArray⟩, .int .i64 7, .int .i64 2, .int .i64 0, .string ⟨t.toArray⟩] 38) (.cells #[.int .i64 0, .int .i64 0, .int .i64 0, .string ⟨#[]⟩, .string ⟨#[]⟩, .bool false, .slice none 0 0] 29)
 have hP := (Blk.new w 38 #[.string ⟨n.toArray⟩, .int .i64 7, .int .i64 2, .int .i64 0, .string ⟨t.toArray⟩]).alloc (.cells #[.int .i64 0, .int .i64 0, .int .i64 0, .string ⟨#[]⟩, .string ⟨#[]⟩, .bool false, .slice none 0 0] 29)
 have hY := Blk.new (w.alloc (.cells #[.string ⟨n.toArray⟩, .int .i64 7, .int .i64 2, .int .i64 0, .string ⟨t.toArray⟩] 38)) 29 #[.int .i64 0, .int .i64 0, .int .i64 0, .string ⟨#[]⟩, .string ⟨#[]⟩, .bool false, .slice none 0 0]
 rw [show (w.alloc (.cells #[.string ⟨n.toArray⟩, .int .i64 7, .int .i64 2, .int .i64 0, .string ⟨t.toArray⟩] 38)).heap.size = w.heap.size + 1 by simp] at hY
 go_enter Try.func20, Try.ntmps20
 go_wp2_with fail
 generalize ((w.alloc (.cells #[.string ⟨n.toArray⟩, .int .i64 7, .int .i64 2, .int .i64 0, .string ⟨t.toArray⟩] 38)).alloc (.cells #[.int .i64 0, .int .i64 0, .int .i64 0, .string ⟨#[]⟩, .string ⟨#[]⟩, .bool false, .slice none 0 0] 29)) = w0 at *
 refine (rpright_is n 7 2 0 t w0 hn hl true HRR.out).mono ?_
 rintro e w1 ⟨rfl, hb1⟩
 have HY := Lib.hid (Blk.below hY hb1 hY.lt)
 have HP := Lib.hid (Blk.below hP hb1 hP.lt)
 have BB := Lib.hid (below_next hgr.below (Nat.le_refl _) hb1)
 clear hgr hY hP hb1
 obtain ⟨p0, p1, p2, p3, p4, _⟩ := blk5 HP.out
 have hlP := HP.out.lt
 go_wp2_with fail
 clear p0 p1 p2 p3 p4 hlP
 refine (rup_at t (by omega) w1).mono ?_
 rintro e w2 ⟨rfl, hb2⟩
 replace HY := Lib.hid (Blk.below HY.out hb2 HY.out.lt)
 replace HP := Lib.hid (Blk.below HP.out hb2 HP.out.lt)
 replace BB := Lib.hid (below_next BB.out (Nat.le_refl _) hb2)
 clear hb2
 cases hu : Spans.up t with
 | none =>
  go_wp2_with fail
  refine (rtexts_open t none [] 0 0 (.inl ht) rfl (by decide) (fun v hv => by cases hv) w2 (.inl rfl)).mono ?_
  rintro e w3 ⟨⟨rK, rlo, rhi, rf, rt, ro, rno⟩, hin, hrl, A7, n7, c7, rfl, hl7, hc7, ho7, hb7⟩
  dsimp only at hrl hl7 ho7
  have HIN := Lib.hid hin
  clear hin
  have HY3 := Lib.hid (Blk.below HY.out hb7 HY.out.lt)
  have BB3 := Lib.hid (below_next BB.out (Nat.le_refl _) hb7)
  have hs7 : w.heap.size + 1 < w2.heap.size := HY.out.lt
  have HL7 := Lib.hid hl7
  have HC7 := Lib.hid hc7
  have HO7 := Lib.hid ho7
  clear hb7 hl7 hc7 ho7 HP HY
  obtain ⟨y0, y1, y2, y3, y4, y5, y6, q0, q1, q2, q3, q4, q5, q6⟩ := blk7 HY3.out
  have hlY := HY3.out.lt
  go_wp2_with fail
  refine bodyPost_ret (v := spF rK rlo rhi rf rt ro A7 n7 c7) (by simp [results, Try.results20, go_sem, y0, y1, y2, y3, y4, y5, y6]) rfl ?_
  exact ⟨⟨rK, rlo, rhi, rf, rt, ro, rno⟩, (by rw [hu]; exact HIN.out), by show rno.length <= 1; omega, A7, n7, c7, rfl, HL7.out, HC7.out, (OwnK.put7 HO7.out (by omega) _ _ _ _ _ _ _).less (by omega), below_put7 BB3.out (by omega) _ _ _ _ _ _ _⟩
 | some u =>
  go_wp2_with fail
  refine (rtexts_shut t u none [] 0 0 (.inl ht) (.inl (by have := up_len t u hu; omega)) rfl (by decide) (fun v hv => by cases hv) w2 (.inl rfl)).mono ?_
  rintro e w3 ⟨⟨rK, rlo, rhi, rf, rt, ro, rno⟩, hin, hrl, A7, n7, c7, rfl, hl7, hc7, ho7, hb7⟩
  dsimp only at hrl hl7 ho7
  have HIN := Lib.hid hin
  clear hin
  have HY3 := Lib.hid (Blk.below HY.out hb7 HY.out.lt)
  have BB3 := Lib.hid (below_next BB.out (Nat.le_refl _) hb7)
  have hs7 : w.heap.size + 1 < w2.heap.size := HY.out.lt
  have HL7 := Lib.hid hl7
  have HC7 := Lib.hid hc7
  have HO7 := Lib.hid ho7
  clear hb7 hl7 hc7 ho7 HP HY
  obtain ⟨y0, y1, y2, y3, y4, y5, y6, q0, q1, q2, q3, q4, q5, q6⟩ := blk7 HY3.out
  have hlY := HY3.out.lt
  go_wp2_with fail
  refine bodyPost_ret (v := spF rK rlo rhi rf rt ro A7 n7 c7) (by simp [results, Try.results20, go_sem, y0, y1, y2, y3, y4, y5, y6]) rfl ?_
  exact ⟨⟨rK, rlo, rhi, rf, rt, ro, rno⟩, (by rw [hu]; exact HIN.out), by show rno.length <= 1; omega, A7, n7, c7, rfl, HL7.out, HC7.out, (OwnK.put7 HO7.out (by omega) _ _ _ _ _ _ _).less (by omega), below_put7 BB3.out (by omega) _ _ _ _ _ _ _⟩
theorem rof_at (p : Pr) (w : World) (hn : p.n.length <= 9223372036854775807) (hl : p.t.length <= 9223372036854775807) (hi1 : -9223372036854775808 <= p.i) (hi2 : p.i <= 9223372036854775807) :
  Calls Try.prog 20 #[.agg #[.string ⟨p.n.toArray⟩, .int .i64 p.o, .int .i64 p.k, .int .i64 p.i, .string ⟨p.t.toArray⟩]] w (GivesS w (IsOf p) 1) := by
 obtain ⟨n, o, k, i, t⟩ := p
 dsimp only at *
 cases hr : Preds.right n o k i t with
 | false => exact (rof_no n o k i t w hn hl hr).mono fun e w' h => ⟨none_, of_wrong hr, by simp [none_], h⟩
 | true =>
  have hP : rightP ⟨n, o, k, i, t⟩ = true := (rightP_iff _).2 ⟨hr, hi1, hi2⟩
  rcases rightP_cases hP with ⟨h8, h1, h2, h3⟩ | ⟨h8, h1, h2, hv, hlt, h7⟩
  ·dsimp only at h8 h1 h2 h3
   subst h8
   exact (rof_any n k i t w hn hl hr).mono fun e w' h => ⟨any_, of_E hP rfl, by simp [any_], h⟩
  ·dsimp only at h8 h1 h2 hv hlt h7
   by_cases hk2 : k = 2
   ·subst hk2
    have hi0 : i = 0 := by rcases Vals.right_cases hv with ⟨h, _⟩ | ⟨_, h, _⟩ | ⟨h, _⟩ <;> omega
    subst hi0
    have hoo : o = 1 ∨ o = 2 ∨ o = 3 ∨ o = 4 ∨ o = 5 ∨ o = 6 ∨ o = 7 := by omega
    rcases hoo with rfl | rfl | rfl | rfl | rfl | rfl | rfl
    ·exact (rof_T1 n t hlt w hn hl hr).mono fun e w' ⟨r, hi, hl, h⟩ => ⟨r, of_T hP rfl (by simpa [ofFrm, ofTo, ofOpn, ofNo, sideV] using hi), hl, h⟩
    ·exact (rof_T2 n t hlt w hn hl hr).mono fun e w' ⟨r, hi, hl, h⟩ => ⟨r, of_T hP rfl (by simpa [ofFrm, ofTo, ofOpn, ofNo, sideV] using hi), hl, h⟩
    ·exact (rof_T3 n t hlt w hn hl hr).mono fun e w' ⟨r, hi, hl, h⟩ => ⟨r, of_T hP rfl (by simpa [ofFrm, ofTo, ofOpn, ofNo, sideV] using hi), hl, h⟩
    ·exact (rof_T4 n t hlt w hn hl hr).mono fun e w' ⟨r, hi, hl, h⟩ => ⟨r, of_T hP rfl (by simpa [ofFrm, ofTo, ofOpn, ofNo, sideV] using hi), hl, h⟩
    ·exact (rof_T5 n t hlt w hn hl hr).mono fun e w' ⟨r, hi, hl, h⟩ => ⟨r, of_T hP rfl (by simpa [ofFrm, ofTo, ofOpn, ofNo, sideV] using hi), hl, h⟩
    ·exact (rof_T6 n t hlt w hn hl hr).mono fun e w' ⟨r, hi, hl, h⟩ => ⟨r, of_T hP rfl (by simpa [ofFrm, ofTo, ofOpn, ofNo, sideV] using hi), hl, h⟩
    ·exact (rof_T7 n t hlt w hn hl hr).mono fun e w' ⟨r, hi, hl, h⟩ => ⟨r, of_T hP rfl (by simpa [ofFrm, ofTo, ofOpn, ofNo, sideV] using hi), hl, h⟩
   ·have hk : k = 1 ∨ k = 3 := by rcases Vals.right_cases hv with ⟨h, _⟩ | ⟨h, _⟩ | ⟨h, _⟩ <;> omega
    have ht : t = [] := by rcases Vals.right_cases hv with ⟨_, h⟩ | ⟨h, _⟩ | ⟨_, h, _⟩ <;> first | exact h | omega
    subst ht
    rcases hk with rfl | rfl
    ·exact rof_N1 n o i w hn hl h8 hP hr
    ·exact rof_N3 n o i w hn hl h8 hP hr
end Go.Proofs.Ytoffnfooeojhnaa
namespace Go.Proofs.Ytoffnfooeojhnaa
open Go.RowKit Go.Sort Spans Op
set_option maxRecDepth 100000 in
set_option maxHeartbeats 8000000 in
theorem rfold_at (A : Option Addr) (l : List Pr) (n c : Nat) (hn : l.length = n) (hm : n <= 100) (hl : ∀ p ∈ l, p.n.length <= 100 /\ p.t.length <= 100 /\ -9223372036854775808 <= p.i /\ p.i <= 9223372036854775807) (w : World) (hr : RdQ w A l) :
  Calls Try.prog 7 #[.slice A n c] w (GivesS w (IsAll (l)) n) := by
 have HN := Lib.hid hn
 have HLL := Lib.hid hl
 have HR := Lib.hid hr
 clear hn hl hr
 have hY0 := (Blk.new w 29 #[.int .i64 0, .int .i64 0, .int .i64 0, .string ⟨#[]⟩, .string ⟨#[]⟩, .bool false, .slice none 0 0]).alloc (.cells #[.int .i64 4, .int .i64 0, .int .i64 0, .string ⟨#[]⟩, .string ⟨#[]⟩, .bool false, .slice none 0 0] 29)
 have hV0 := Blk.new (w.alloc (.cells #[.int .i64 0, .int .i64 0, .int .i64 0, .string ⟨#[]⟩, .string ⟨#[]⟩, .bool false, .slice none 0 0] 29)) 29 #[.int .i64 4, .int .i64 0, .int .i64 0, .string ⟨#[]⟩, .string ⟨#[]⟩, .bool false, .slice none 0 0]
 rw [show (w.alloc (.cells #[.int .i64 0, .int .i64 0, .int .i64 0, .string ⟨#[]⟩, .string ⟨#[]⟩, .bool false, .slice none 0 0] 29)).heap.size = w.heap.size + 1 by simp] at hV0
 have hg0 := (gr2 w (.cells #[.int .i64 0, .int .i64 0, .int .i64 0, .string ⟨#[]⟩, .string ⟨#[]⟩, .bool false, .slice none 0 0] 29) (.cells #[.int .i64 4, .int .i64 0, .int .i64 0, .string ⟨#[]⟩, .string ⟨#[]⟩, .bool false, .slice none 0 0] 29)).below
 have HY2 := Lib.hid hY0
 have HV2 := Lib.hid hV0
 have HB2 := Lib.hid hg0
 clear hY0 hV0 hg0
 go_enter Try.func7, Try.ntmps7
 go_wp2_with fail
 generalize (w.alloc (.cells #[.int .i64 0, .int .i64 0, .int .i64 0, .string ⟨#[]⟩, .string ⟨#[]⟩, .bool false, .slice none 0 0] 29)).alloc (.cells #[.int .i64 4, .int .i64 0, .int .i64 0, .string ⟨#[]⟩, .string ⟨#[]⟩, .bool false, .slice none 0 0] 29) = w2 at *
 go_loopg [4] n (fun gg s4 wr => ∃ (k : Nat) (K lo hi : Int) (f t : List UInt8) (o : Bool) (es : List Val) (B : Option Addr) (m d : Nat), k <= n /\ n - k <= gg /\ s4 = .int .i64 (k : Int) /\ m <= k /\ m <= d /\ Hid (es.length = m) /\ Hid (IsAll (l.take (k)) ⟨K, lo, hi, f, t, o, es⟩) /\ Hid (Blk wr (w.heap.size + 1) 29 #[.int .i64 K, .int .i64 lo, .int .i64 hi, .string ⟨f.toArray⟩, .string ⟨t.toArray⟩, .bool o, .slice B m d]) /\ Hid (Blk wr w.heap.size 29 #[.int .i64 0, .int .i64 0, .int .i64 0, .string ⟨#[]⟩, .string ⟨#[]⟩, .bool false, .slice none 0 0]) /\ Hid (OwnW wr (w.heap.size + 2) (.slice B m d) es) /\ Hid (Below w.heap.size w wr))
 case atStart => exact ⟨0, 4, 0, 0, [], [], false, [], none, 0, 0, Nat.zero_le _, by omega, rfl, Nat.le_refl _, Nat.le_refl _, rfl, by show IsAll _ _; exact all_nil, HV2, HY2, OwnK.none_ _ _, HB2⟩
 case round =>
  obtain ⟨k, K, lo, hi, f, t, o, es, B, m, d, hk, hgg, rfl, hmk, hmd, HM, HI, HV, HY, HO, HB⟩ := hrel
  clear HV2 HY2 HB2
  have hlV := HV.out.lt
  by_cases hlt : k < n
  ·have hk' : k < l.length := by rw [HN.out]; exact hlt
   have hpl := HLL.out _ (List.getElem_mem hk')
   obtain ⟨g, off, rfl, hg, c0, c1, c2, c3, c4⟩ := RdQ.at5 HR.out hk'
   obtain ⟨x, hx⟩ : ∃ x, l[k] = x := ⟨_, rfl⟩
   have HX := Lib.hid hx
   rw [hx] at c0 c1 c2 c3 c4 hpl
   clear hx
   obtain ⟨xn, xo, xk, xi, xt⟩ := x
   obtain ⟨hp1, hp2, hp3, hp4⟩ := hpl
   dsimp only at hp1 hp2 hp3 hp4
   have hkeep : ∀ w', Below w.heap.size w w' -> w'.cell? ⟨g, off + k * 5, none⟩ = some (.string ⟨xn.toArray⟩) /\ w'.cell? ⟨g, off + k * 5 + 1, none⟩ = some (.int .i64 xo) /\ w'.cell? ⟨g, off + k * 5 + 2, none⟩ = some (.int .i64 xk) /\ w'.cell? ⟨g, off + k * 5 + 3, none⟩ = some (.int .i64 xi) /\ w'.cell? ⟨g, off + k * 5 + 4, none⟩ = some (.string ⟨xt.toArray⟩) := fun w' hb => ⟨(hb.cell (p := ⟨g, off + k * 5, none⟩) hg).trans c0, (hb.cell (p := ⟨g, off + k * 5 + 1, none⟩) hg).trans c1, (hb.cell (p := ⟨g, off + k * 5 + 2, none⟩) hg).trans c2, (hb.cell (p := ⟨g, off + k * 5 + 3, none⟩) hg).trans c3, (hb.cell (p := ⟨g, off + k * 5 + 4, none⟩) hg).trans c4⟩
   have HK := Lib.hid hkeep
   clear hkeep c0 c1 c2 c3 c4
   have w5 : (k : Int) < (n : Int) := by omega
   have hS0 := HK.out wr.drew HB.out.drew
   go_wp2_with fail
   refine wp_region_held_drew (S := fun w' => w'.cell? ⟨g, off + k * 5, none⟩ = some (.string ⟨xn.toArray⟩) /\ w'.cell? ⟨g, off + k * 5 + 1, none⟩ = some (.int .i64 xo) /\ w'.cell? ⟨g, off + k * 5 + 2, none⟩ = some (.int .i64 xk) /\ w'.cell? ⟨g, off + k * 5 + 3, none⟩ = some (.int .i64 xi) /\ w'.cell? ⟨g, off + k * 5 + 4, none⟩ = some (.string ⟨xt.toArray⟩)) (by kernel_rfl) hS0 (fun _ => ?_)
   refine wpAnyH_yes (i := 1) (d := 13) (v := ?_) rfl rfl (by kernel_rfl) (by kernel_rfl) (by kernel_rfl) (fun _ _ _ h => h) (by rfl) ?_ hS0 ?_
   rotate_left
   ·intro w' hSw; obtain ⟨s0, s1, s2, s3, s4⟩ := hSw; go_simp <;> with_reducible rfl
   simp only [Act.put, List.setIfInBounds_toArray, List.set_cons_zero, List.set_cons_succ]
   refine wpAnyH_yes (i := 2) (d := 14) (v := ?_) rfl rfl (by kernel_rfl) (by kernel_rfl) (by kernel_rfl) (fun _ _ _ h => h) (by rfl) ?_ hS0 ?_
   rotate_left
   ·intro w' hSw; obtain ⟨s0, s1, s2, s3, s4⟩ := hSw; go_simp <;> with_reducible rfl
   simp only [Act.put, List.setIfInBounds_toArray, List.set_cons_zero, List.set_cons_succ]
   refine wpAnyH_yes (i := 3) (d := 15) (v := ?_) rfl rfl (by kernel_rfl) (by kernel_rfl) (by kernel_rfl) (fun _ _ _ h => h) (by rfl) ?_ hS0 ?_
   rotate_left
   ·intro w' hSw; obtain ⟨s0, s1, s2, s3, s4⟩ := hSw; go_simp <;> with_reducible rfl
   simp only [Act.put, List.setIfInBounds_toArray, List.set_cons_zero, List.set_cons_succ]
   have hV3 : Hid (Blk wr.drew (w.heap.size + 1) 29 #[.int .i64 K, .int .i64 lo, .int .i64 hi, .string ⟨f.toArray⟩, .string ⟨t.toArray⟩, .bool o, .slice B m d]) := HV.out
   have hY3 : Hid (Blk wr.drew w.heap.size 29 #[.int .i64 0, .int .i64 0, .int .i64 0, .string ⟨#[]⟩, .string ⟨#[]⟩, .bool false, .slice none 0 0]) := HY.out
   have hO3 : Hid (OwnW wr.drew (w.heap.size + 2) (.slice B m d) es) := OwnK.below HO.out (Below.refl _ _).drew
   have hB3 := Lib.hid HB.out.drew
   clear HV HY HO HB hlV
   generalize wr.drew = w4 at *
   have hS0 := HK.out w4 hB3.out
   refine wpAnyH_pair (i := 0) (j := 4) (by kernel_rfl) rfl rfl (by rfl) (by rfl) (fun Ka hKa => ?_) (fun Kb hKb => ?_)
   ·skip
    obtain ⟨z0, z1, z2, z3, z4, z5, z6, _⟩ := blk7 hV3.out
    have hlV := hV3.out.lt
    go_simp
    refine hKa.out _ _ hS0 ?_
    clear hKa z0 z1 z2 z3 z4 z5 z6 hlV
    refine wpAnyH_yes (i := 4) (d := 16) (v := ?_) rfl rfl (by kernel_rfl) (by kernel_rfl) (by kernel_rfl) (fun _ _ _ h => h) (by rfl) ?_ hS0 ?_
    rotate_left
    ·intro w' hSw; obtain ⟨s0, s1, s2, s3, s4⟩ := hSw; go_simp <;> with_reducible rfl
    simp only [Act.put, List.setIfInBounds_toArray, List.set_cons_zero, List.set_cons_succ]
    refine wpAnyH_one (i := 5) (by kernel_rfl) rfl (by rfl) (fun Kc hK5 => ?_)
    go_simp
    with_reducible refine (rof_at ⟨xn, xo, xk, xi, xt⟩ w4 (by show xn.length <= _; omega) (by show xt.length <= _; omega) hp3 hp4).mono ?_
    rintro e w5 ⟨⟨uK, ulo, uhi, uf, ut, uo, uno⟩, hof, hul, A5, n5, c5, rfl, hl5, hc5, ho5, hb5⟩
    dsimp only at hul hl5 ho5
    replace hB3 := Lib.hid (below_next hB3.out (by have := hB3.out.size; omega) hb5)
    have hlV := hV3.out.lt
    replace hV3 := Lib.hid (Blk.below hV3.out hb5 hlV)
    replace hY3 := Lib.hid (Blk.below hY3.out hb5 hY3.out.lt)
    replace hO3 := Lib.hid (OwnK.below hO3.out hb5)
    have hO5 : Hid (OwnW w5 (w.heap.size + 2) (.slice A5 n5 c5) uno) := ho5.less (by omega)
    have HOF := Lib.hid hof
    have HL5 := Lib.hid hl5
    have HC5 := Lib.hid hc5
    clear hb5 hlV ho5 hof hl5 hc5
    have hS1 := HK.out w5 hB3.out
    go_wp2_with fail
    refine hK5.out _ _ hS1 ?_
    clear hK5
    refine wpAnyH_one (i := 6) (by kernel_rfl) rfl (by rfl) (fun Kc hK6 => ?_)
    have hlV := hV3.out.lt
    go_simp
    have hcA : Canon ⟨K, lo, hi, f, t, o, es⟩ := HI.out.1
    have hcB : Canon ⟨uK, ulo, uhi, uf, ut, uo, uno⟩ := HOF.out.1
    have hl5 := HL5.out
    have hc5 := HC5.out
    with_reducible refine (rmeet_at (w.heap.size + 2) ⟨K, lo, hi, f, t, o, es⟩ ⟨uK, ulo, uhi, uf, ut, uo, uno⟩ hcA hcB B m d A5 n5 c5 w5 HM.out (by omega) hl5 (by omega) (by omega) hmd hc5 hO3.out hO5.out).mono ?_
    rintro e w6 ⟨⟨rK, rlo, rhi, rf, rt, ro, rno⟩, him, hrl, A7, n7, c7, rfl, hl7, hc7, ho7, hb7⟩
    dsimp only at hrl hl7 ho7
    replace hB3 := Lib.hid (below_next hB3.out (by have := hB3.out.size; omega) hb7)
    replace hV3 := Lib.hid (Blk.below hV3.out hb7 hlV)
    replace hY3 := Lib.hid (Blk.below hY3.out hb7 hY3.out.lt)
    have HIM := Lib.hid him
    have HM7 := Lib.hid hl7
    have HO7 := Lib.hid ho7
    have hnk : n7 <= k + 1 := by have h1 := HM.out; omega
    clear hb7 hlV him hl7 ho7 hl5 hc5 hO3 hO5
    have hS2 := HK.out w6 hB3.out
    go_wp2_with fail
    refine hK6.out _ _ hS2 ?_
    clear hK6
    refine wpAnyH_one (i := 7) (by kernel_rfl) rfl (by rfl) (fun Kc hK7 => ?_)
    obtain ⟨z0, z1, z2, z3, z4, z5, z6, y0, y1, y2, y3, y4, y5, y6⟩ := blk7 hV3.out
    have hlV := hV3.out.lt
    go_simp
    have HV7 : Hid (Blk (((((((w6.setCell ⟨w.heap.size + 1, 0, none⟩ (.int .i64 rK)).setCell ⟨w.heap.size + 1, 1, none⟩ (.int .i64 rlo)).setCell ⟨w.heap.size + 1, 2, none⟩ (.int .i64 rhi)).setCell ⟨w.heap.size + 1, 3, none⟩ (.string ⟨rf.toArray⟩)).setCell ⟨w.heap.size + 1, 4, none⟩ (.string ⟨rt.toArray⟩)).setCell ⟨w.heap.size + 1, 5, none⟩ (.bool ro)).setCell ⟨w.heap.size + 1, 6, none⟩ (.slice A7 n7 c7)) (w.heap.size + 1) 29 #[.int .i64 rK, .int .i64 rlo, .int .i64 rhi, .string ⟨rf.toArray⟩, .string ⟨rt.toArray⟩, .bool ro, .slice A7 n7 c7]) := Blk.put7 hV3.out _ _ _ _ _ _ _
    have HY7 : Hid (Blk (((((((w6.setCell ⟨w.heap.size + 1, 0, none⟩ (.int .i64 rK)).setCell ⟨w.heap.size + 1, 1, none⟩ (.int .i64 rlo)).setCell ⟨w.heap.size + 1, 2, none⟩ (.int .i64 rhi)).setCell ⟨w.heap.size + 1, 3, none⟩ (.string ⟨rf.toArray⟩)).setCell ⟨w.heap.size + 1, 4, none⟩ (.string ⟨rt.toArray⟩)).setCell ⟨w.heap.size + 1, 5, none⟩ (.bool ro)).setCell ⟨w.heap.size + 1, 6, none⟩ (.slice A7 n7 c7)) w.heap.size 29 #[.int .i64 0, .int .i64 0, .int .i64 0, .string ⟨#[]⟩, .string ⟨#[]⟩, .bool false, .slice none 0 0]) := Blk.far7 hY3.out (by omega) _ _ _ _ _ _ _
    have HO8 : Hid (OwnW (((((((w6.setCell ⟨w.heap.size + 1, 0, none⟩ (.int .i64 rK)).setCell ⟨w.heap.size + 1, 1, none⟩ (.int .i64 rlo)).setCell ⟨w.heap.size + 1, 2, none⟩ (.int .i64 rhi)).setCell ⟨w.heap.size + 1, 3, none⟩ (.string ⟨rf.toArray⟩)).setCell ⟨w.heap.size + 1, 4, none⟩ (.string ⟨rt.toArray⟩)).setCell ⟨w.heap.size + 1, 5, none⟩ (.bool ro)).setCell ⟨w.heap.size + 1, 6, none⟩ (.slice A7 n7 c7)) (w.heap.size + 2) (.slice A7 n7 c7) rno) := OwnK.put7 HO7.out (by omega) _ _ _ _ _ _ _
    have hB7 : Below w.heap.size w (((((((w6.setCell ⟨w.heap.size + 1, 0, none⟩ (.int .i64 rK)).setCell ⟨w.heap.size + 1, 1, none⟩ (.int .i64 rlo)).setCell ⟨w.heap.size + 1, 2, none⟩ (.int .i64 rhi)).setCell ⟨w.heap.size + 1, 3, none⟩ (.string ⟨rf.toArray⟩)).setCell ⟨w.heap.size + 1, 4, none⟩ (.string ⟨rt.toArray⟩)).setCell ⟨w.heap.size + 1, 5, none⟩ (.bool ro)).setCell ⟨w.heap.size + 1, 6, none⟩ (.slice A7 n7 c7)) := below_put7 hB3.out (by omega) _ _ _ _ _ _ _
    have HB7 := Lib.hid hB7
    have hS3 := HK.out _ hB7
    have HI7 : Hid (IsAll (l.take (k + 1)) ⟨rK, rlo, rhi, rf, rt, ro, rno⟩) := by
     show IsAll _ _
     rw [List.take_succ_eq_append_getElem hk', HX.out]
     exact all_snoc HI.out HOF.out HIM.out
    refine hK7.out _ _ hS3 ?_
    clear hK7 z0 z1 z2 z3 z4 z5 z6 y0 y1 y2 y3 y4 y5 y6 hlV hV3 hY3 hB3 hB7 HO7 HOF HIM
    refine wpAnyH_done (by kernel_rfl) ?_ _
    generalize (((((((w6.setCell ⟨w.heap.size + 1, 0, none⟩ (.int .i64 rK)).setCell ⟨w.heap.size + 1, 1, none⟩ (.int .i64 rlo)).setCell ⟨w.heap.size + 1, 2, none⟩ (.int .i64 rhi)).setCell ⟨w.heap.size + 1, 3, none⟩ (.string ⟨rf.toArray⟩)).setCell ⟨w.heap.size + 1, 4, none⟩ (.string ⟨rt.toArray⟩)).setCell ⟨w.heap.size + 1, 5, none⟩ (.bool ro)).setCell ⟨w.heap.size + 1, 6, none⟩ (.slice A7 n7 c7)) = w7 at *
    go_wp2_with fail
    go_roundg (n - (k + 1))
    case measure => omega
    case rel => exact ⟨k + 1, rK, rlo, rhi, rf, rt, ro, rno, A7, n7, c7, by omega, Nat.le_refl _, by go_num, hnk, hc7, HM7, HI7, HV7, HY7, HO8, HB7⟩
   ·skip
    have hS0' := hS0
    obtain ⟨s0, s1, s2, s3, s4⟩ := hS0'
    go_simp
    refine hKb.out _ _ hS0 ?_
    clear hKb s0 s1 s2 s3 s4
    refine wpAnyH_pair (i := 0) (j := 5) (by kernel_rfl) rfl rfl (by rfl) (by rfl) (fun Ka hKa => ?_) (fun Kb hKb => ?_)
    ·skip
     obtain ⟨z0, z1, z2, z3, z4, z5, z6, _⟩ := blk7 hV3.out
     have hlV := hV3.out.lt
     go_simp
     refine hKa.out _ _ hS0 ?_
     clear hKa z0 z1 z2 z3 z4 z5 z6 hlV
     refine wpAnyH_one (i := 5) (by kernel_rfl) rfl (by rfl) (fun Kc hK5 => ?_)
     go_simp
     with_reducible refine (rof_at ⟨xn, xo, xk, xi, xt⟩ w4 (by show xn.length <= _; omega) (by show xt.length <= _; omega) hp3 hp4).mono ?_
     rintro e w5 ⟨⟨uK, ulo, uhi, uf, ut, uo, uno⟩, hof, hul, A5, n5, c5, rfl, hl5, hc5, ho5, hb5⟩
     dsimp only at hul hl5 ho5
     replace hB3 := Lib.hid (below_next hB3.out (by have := hB3.out.size; omega) hb5)
     have hlV := hV3.out.lt
     replace hV3 := Lib.hid (Blk.below hV3.out hb5 hlV)
     replace hY3 := Lib.hid (Blk.below hY3.out hb5 hY3.out.lt)
     replace hO3 := Lib.hid (OwnK.below hO3.out hb5)
     have hO5 : Hid (OwnW w5 (w.heap.size + 2) (.slice A5 n5 c5) uno) := ho5.less (by omega)
     have HOF := Lib.hid hof
     have HL5 := Lib.hid hl5
     have HC5 := Lib.hid hc5
     clear hb5 hlV ho5 hof hl5 hc5
     have hS1 := HK.out w5 hB3.out
     go_wp2_with fail
     refine hK5.out _ _ hS1 ?_
     clear hK5
     refine wpAnyH_one (i := 6) (by kernel_rfl) rfl (by rfl) (fun Kc hK6 => ?_)
     have hlV := hV3.out.lt
     go_simp
     have hcA : Canon ⟨K, lo, hi, f, t, o, es⟩ := HI.out.1
     have hcB : Canon ⟨uK, ulo, uhi, uf, ut, uo, uno⟩ := HOF.out.1
     have hl5 := HL5.out
     have hc5 := HC5.out
     with_reducible refine (rmeet_at (w.heap.size + 2) ⟨K, lo, hi, f, t, o, es⟩ ⟨uK, ulo, uhi, uf, ut, uo, uno⟩ hcA hcB B m d A5 n5 c5 w5 HM.out (by omega) hl5 (by omega) (by omega) hmd hc5 hO3.out hO5.out).mono ?_
     rintro e w6 ⟨⟨rK, rlo, rhi, rf, rt, ro, rno⟩, him, hrl, A7, n7, c7, rfl, hl7, hc7, ho7, hb7⟩
     dsimp only at hrl hl7 ho7
     replace hB3 := Lib.hid (below_next hB3.out (by have := hB3.out.size; omega) hb7)
     replace hV3 := Lib.hid (Blk.below hV3.out hb7 hlV)
     replace hY3 := Lib.hid (Blk.below hY3.out hb7 hY3.out.lt)
     have HIM := Lib.hid him
     have HM7 := Lib.hid hl7
     have HO7 := Lib.hid ho7
     have hnk : n7 <= k + 1 := by have h1 := HM.out; omega
     clear hb7 hlV him hl7 ho7 hl5 hc5 hO3 hO5
     have hS2 := HK.out w6 hB3.out
     go_wp2_with fail
     refine hK6.out _ _ hS2 ?_
     clear hK6
     refine wpAnyH_one (i := 7) (by kernel_rfl) rfl (by rfl) (fun Kc hK7 => ?_)
     obtain ⟨z0, z1, z2, z3, z4, z5, z6, y0, y1, y2, y3, y4, y5, y6⟩ := blk7 hV3.out
     have hlV := hV3.out.lt
     go_simp
     have HV7 : Hid (Blk (((((((w6.setCell ⟨w.heap.size + 1, 0, none⟩ (.int .i64 rK)).setCell ⟨w.heap.size + 1, 1, none⟩ (.int .i64 rlo)).setCell ⟨w.heap.size + 1, 2, none⟩ (.int .i64 rhi)).setCell ⟨w.heap.size + 1, 3, none⟩ (.string ⟨rf.toArray⟩)).setCell ⟨w.heap.size + 1, 4, none⟩ (.string ⟨rt.toArray⟩)).setCell ⟨w.heap.size + 1, 5, none⟩ (.bool ro)).setCell ⟨w.heap.size + 1, 6, none⟩ (.slice A7 n7 c7)) (w.heap.size + 1) 29 #[.int .i64 rK, .int .i64 rlo, .int .i64 rhi, .string ⟨rf.toArray⟩, .string ⟨rt.toArray⟩, .bool ro, .slice A7 n7 c7]) := Blk.put7 hV3.out _ _ _ _ _ _ _
     have HY7 : Hid (Blk (((((((w6.setCell ⟨w.heap.size + 1, 0, none⟩ (.int .i64 rK)).setCell ⟨w.heap.size + 1, 1, none⟩ (.int .i64 rlo)).setCell ⟨w.heap.size + 1, 2, none⟩ (.int .i64 rhi)).setCell ⟨w.heap.size + 1, 3, none⟩ (.string ⟨rf.toArray⟩)).setCell ⟨w.heap.size + 1, 4, none⟩ (.string ⟨rt.toArray⟩)).setCell ⟨w.heap.size + 1, 5, none⟩ (.bool ro)).setCell ⟨w.heap.size + 1, 6, none⟩ (.slice A7 n7 c7)) w.heap.size 29 #[.int .i64 0, .int .i64 0, .int .i64 0, .string ⟨#[]⟩, .string ⟨#[]⟩, .bool false, .slice none 0 0]) := Blk.far7 hY3.out (by omega) _ _ _ _ _ _ _
     have HO8 : Hid (OwnW (((((((w6.setCell ⟨w.heap.size + 1, 0, none⟩ (.int .i64 rK)).setCell ⟨w.heap.size + 1, 1, none⟩ (.int .i64 rlo)).setCell ⟨w.heap.size + 1, 2, none⟩ (.int .i64 rhi)).setCell ⟨w.heap.size + 1, 3, none⟩ (.string ⟨rf.toArray⟩)).setCell ⟨w.heap.size + 1, 4, none⟩ (.string ⟨rt.toArray⟩)).setCell ⟨w.heap.size + 1, 5, none⟩ (.bool ro)).setCell ⟨w.heap.size + 1, 6, none⟩ (.slice A7 n7 c7)) (w.heap.size + 2) (.slice A7 n7 c7) rno) := OwnK.put7 HO7.out (by omega) _ _ _ _ _ _ _
     have hB7 : Below w.heap.size w (((((((w6.setCell ⟨w.heap.size + 1, 0, none⟩ (.int .i64 rK)).setCell ⟨w.heap.size + 1, 1, none⟩ (.int .i64 rlo)).setCell ⟨w.heap.size + 1, 2, none⟩ (.int .i64 rhi)).setCell ⟨w.heap.size + 1, 3, none⟩ (.string ⟨rf.toArray⟩)).setCell ⟨w.heap.size + 1, 4, none⟩ (.string ⟨rt.toArray⟩)).setCell ⟨w.heap.size + 1, 5, none⟩ (.bool ro)).setCell ⟨w.heap.size + 1, 6, none⟩ (.slice A7 n7 c7)) := below_put7 hB3.out (by omega) _ _ _ _ _ _ _
     have HB7 := Lib.hid hB7
     have hS3 := HK.out _ hB7
     have HI7 : Hid (IsAll (l.take (k + 1)) ⟨rK, rlo, rhi, rf, rt, ro, rno⟩) := by
      show IsAll _ _
      rw [List.take_succ_eq_append_getElem hk', HX.out]
      exact all_snoc HI.out HOF.out HIM.out
     refine hK7.out _ _ hS3 ?_
     clear hK7 z0 z1 z2 z3 z4 z5 z6 y0 y1 y2 y3 y4 y5 y6 hlV hV3 hY3 hB3 hB7 HO7 HOF HIM
     refine wpAnyH_done (by kernel_rfl) ?_ _
     generalize (((((((w6.setCell ⟨w.heap.size + 1, 0, none⟩ (.int .i64 rK)).setCell ⟨w.heap.size + 1, 1, none⟩ (.int .i64 rlo)).setCell ⟨w.heap.size + 1, 2, none⟩ (.int .i64 rhi)).setCell ⟨w.heap.size + 1, 3, none⟩ (.string ⟨rf.toArray⟩)).setCell ⟨w.heap.size + 1, 4, none⟩ (.string ⟨rt.toArray⟩)).setCell ⟨w.heap.size + 1, 5, none⟩ (.bool ro)).setCell ⟨w.heap.size + 1, 6, none⟩ (.slice A7 n7 c7)) = w7 at *
     go_wp2_with fail
     go_roundg (n - (k + 1))
     case measure => omega
     case rel => exact ⟨k + 1, rK, rlo, rhi, rf, rt, ro, rno, A7, n7, c7, by omega, Nat.le_refl _, by go_num, hnk, hc7, HM7, HI7, HV7, HY7, HO8, HB7⟩
    ·skip
     go_simp
     with_reducible refine (rof_at ⟨xn, xo, xk, xi, xt⟩ w4 (by show xn.length <= _; omega) (by show xt.length <= _; omega) hp3 hp4).mono ?_
     rintro e w5 ⟨⟨uK, ulo, uhi, uf, ut, uo, uno⟩, hof, hul, A5, n5, c5, rfl, hl5, hc5, ho5, hb5⟩
     dsimp only at hul hl5 ho5
     replace hB3 := Lib.hid (below_next hB3.out (by have := hB3.out.size; omega) hb5)
     have hlV := hV3.out.lt
     replace hV3 := Lib.hid (Blk.below hV3.out hb5 hlV)
     replace hY3 := Lib.hid (Blk.below hY3.out hb5 hY3.out.lt)
     replace hO3 := Lib.hid (OwnK.below hO3.out hb5)
     have hO5 : Hid (OwnW w5 (w.heap.size + 2) (.slice A5 n5 c5) uno) := ho5.less (by omega)
     have HOF := Lib.hid hof
     have HL5 := Lib.hid hl5
     have HC5 := Lib.hid hc5
     clear hb5 hlV ho5 hof hl5 hc5
     have hS1 := HK.out w5 hB3.out
     go_wp2_with fail
     refine hKb.out _ _ hS1 ?_
     clear hKb
     refine wpAnyH_one (i := 0) (by kernel_rfl) rfl (by rfl) (fun Kc hK0 => ?_)
     obtain ⟨z0, z1, z2, z3, z4, z5, z6, _⟩ := blk7 hV3.out
     have hlV := hV3.out.lt
     go_simp
     refine hK0.out _ _ hS1 ?_
     clear hK0 z0 z1 z2 z3 z4 z5 z6 hlV
     refine wpAnyH_one (i := 6) (by kernel_rfl) rfl (by rfl) (fun Kc hK6 => ?_)
     have hlV := hV3.out.lt
     go_simp
     have hcA : Canon ⟨K, lo, hi, f, t, o, es⟩ := HI.out.1
     have hcB : Canon ⟨uK, ulo, uhi, uf, ut, uo, uno⟩ := HOF.out.1
     have hl5 := HL5.out
     have hc5 := HC5.out
     with_reducible refine (rmeet_at (w.heap.size + 2) ⟨K, lo, hi, f, t, o, es⟩ ⟨uK, ulo, uhi, uf, ut, uo, uno⟩ hcA hcB B m d A5 n5 c5 w5 HM.out (by omega) hl5 (by omega) (by omega) hmd hc5 hO3.out hO5.out).mono ?_
     rintro e w6 ⟨⟨rK, rlo, rhi, rf, rt, ro, rno⟩, him, hrl, A7, n7, c7, rfl, hl7, hc7, ho7, hb7⟩
     dsimp only at hrl hl7 ho7
     replace hB3 := Lib.hid (below_next hB3.out (by have := hB3.out.size; omega) hb7)
     replace hV3 := Lib.hid (Blk.below hV3.out hb7 hlV)
     replace hY3 := Lib.hid (Blk.below hY3.out hb7 hY3.out.lt)
     have HIM := Lib.hid him
     have HM7 := Lib.hid hl7
     have HO7 := Lib.hid ho7
     have hnk : n7 <= k + 1 := by have h1 := HM.out; omega
     clear hb7 hlV him hl7 ho7 hl5 hc5 hO3 hO5
     have hS2 := HK.out w6 hB3.out
     go_wp2_with fail
     refine hK6.out _ _ hS2 ?_
     clear hK6
     refine wpAnyH_one (i := 7) (by kernel_rfl) rfl (by rfl) (fun Kc hK7 => ?_)
     obtain ⟨z0, z1, z2, z3, z4, z5, z6, y0, y1, y2, y3, y4, y5, y6⟩ := blk7 hV3.out
     have hlV := hV3.out.lt
     go_simp
     have HV7 : Hid (Blk (((((((w6.setCell ⟨w.heap.size + 1, 0, none⟩ (.int .i64 rK)).setCell ⟨w.heap.size + 1, 1, none⟩ (.int .i64 rlo)).setCell ⟨w.heap.size + 1, 2, none⟩ (.int .i64 rhi)).setCell ⟨w.heap.size + 1, 3, none⟩ (.string ⟨rf.toArray⟩)).setCell ⟨w.heap.size + 1, 4, none⟩ (.string ⟨rt.toArray⟩)).setCell ⟨w.heap.size + 1, 5, none⟩ (.bool ro)).setCell ⟨w.heap.size + 1, 6, none⟩ (.slice A7 n7 c7)) (w.heap.size + 1) 29 #[.int .i64 rK, .int .i64 rlo, .int .i64 rhi, .string ⟨rf.toArray⟩, .string ⟨rt.toArray⟩, .bool ro, .slice A7 n7 c7]) := Blk.put7 hV3.out _ _ _ _ _ _ _
     have HY7 : Hid (Blk (((((((w6.setCell ⟨w.heap.size + 1, 0, none⟩ (.int .i64 rK)).setCell ⟨w.heap.size + 1, 1, none⟩ (.int .i64 rlo)).setCell ⟨w.heap.size + 1, 2, none⟩ (.int .i64 rhi)).setCell ⟨w.heap.size + 1, 3, none⟩ (.string ⟨rf.toArray⟩)).setCell ⟨w.heap.size + 1, 4, none⟩ (.string ⟨rt.toArray⟩)).setCell ⟨w.heap.size + 1, 5, none⟩ (.bool ro)).setCell ⟨w.heap.size + 1, 6, none⟩ (.slice A7 n7 c7)) w.heap.size 29 #[.int .i64 0, .int .i64 0, .int .i64 0, .string ⟨#[]⟩, .string ⟨#[]⟩, .bool false, .slice none 0 0]) := Blk.far7 hY3.out (by omega) _ _ _ _ _ _ _
     have HO8 : Hid (OwnW (((((((w6.setCell ⟨w.heap.size + 1, 0, none⟩ (.int .i64 rK)).setCell ⟨w.heap.size + 1, 1, none⟩ (.int .i64 rlo)).setCell ⟨w.heap.size + 1, 2, none⟩ (.int .i64 rhi)).setCell ⟨w.heap.size + 1, 3, none⟩ (.string ⟨rf.toArray⟩)).setCell ⟨w.heap.size + 1, 4, none⟩ (.string ⟨rt.toArray⟩)).setCell ⟨w.heap.size + 1, 5, none⟩ (.bool ro)).setCell ⟨w.heap.size + 1, 6, none⟩ (.slice A7 n7 c7)) (w.heap.size + 2) (.slice A7 n7 c7) rno) := OwnK.put7 HO7.out (by omega) _ _ _ _ _ _ _
     have hB7 : Below w.heap.size w (((((((w6.setCell ⟨w.heap.size + 1, 0, none⟩ (.int .i64 rK)).setCell ⟨w.heap.size + 1, 1, none⟩ (.int .i64 rlo)).setCell ⟨w.heap.size + 1, 2, none⟩ (.int .i64 rhi)).setCell ⟨w.heap.size + 1, 3, none⟩ (.string ⟨rf.toArray⟩)).setCell ⟨w.heap.size + 1, 4, none⟩ (.string ⟨rt.toArray⟩)).setCell ⟨w.heap.size + 1, 5, none⟩ (.bool ro)).setCell ⟨w.heap.size + 1, 6, none⟩ (.slice A7 n7 c7)) := below_put7 hB3.out (by omega) _ _ _ _ _ _ _
     have HB7 := Lib.hid hB7
     have hS3 := HK.out _ hB7
     have HI7 : Hid (IsAll (l.take (k + 1)) ⟨rK, rlo, rhi, rf, rt, ro, rno⟩) := by
      show IsAll _ _
      rw [List.take_succ_eq_append_getElem hk', HX.out]
      exact all_snoc HI.out HOF.out HIM.out
     refine hK7.out _ _ hS3 ?_
     clear hK7 z0 z1 z2 z3 z4 z5 z6 y0 y1 y2 y3 y4 y5 y6 hlV hV3 hY3 hB3 hB7 HO7 HOF HIM
     refine wpAnyH_done (by kernel_rfl) ?_ _
     generalize (((((((w6.setCell ⟨w.heap.size + 1, 0, none⟩ (.int .i64 rK)).setCell ⟨w.heap.size + 1, 1, none⟩ (.int .i64 rlo)).setCell ⟨w.heap.size + 1, 2, none⟩ (.int .i64 rhi)).setCell ⟨w.heap.size + 1, 3, none⟩ (.string ⟨rf.toArray⟩)).setCell ⟨w.heap.size + 1, 4, none⟩ (.string ⟨rt.toArray⟩)).setCell ⟨w.heap.size + 1, 5, none⟩ (.bool ro)).setCell ⟨w.heap.size + 1, 6, none⟩ (.slice A7 n7 c7)) = w7 at *
     go_wp2_with fail
     go_roundg (n - (k + 1))
     case measure => omega
     case rel => exact ⟨k + 1, rK, rlo, rhi, rf, rt, ro, rno, A7, n7, c7, by omega, Nat.le_refl _, by go_num, hnk, hc7, HM7, HI7, HV7, HY7, HO8, HB7⟩
  ·have hkn : Hid (k = n) := by show k = n; omega
   obtain ⟨u0, u1, u2, u3, u4, u5, u6, q0, q1, q2, q3, q4, q5, q6⟩ := blk7 HY.out
   obtain ⟨v0, v1, v2, v3, v4, v5, v6, _⟩ := blk7 HV.out
   have hlY := HY.out.lt
   go_wp2_with fail
   refine bodyPost_ret (v := spF K lo hi f t o B m d) (by simp [results, Try.results7, go_sem, u0, u1, u2, u3, u4, u5, u6]) rfl ?_
   have hI := HI.out
   rw [hkn.out, List.take_of_length_le (by rw [HN.out]; exact Nat.le_refl _)] at hI
   exact ⟨⟨K, lo, hi, f, t, o, es⟩, hI, by show es.length <= _; have := HM.out; have := HN.out; omega, B, m, d, rfl, HM.out, hmd, (OwnK.put7 HO.out (by omega) _ _ _ _ _ _ _).less (by omega), below_put7 HB.out (Nat.le_refl _) _ _ _ _ _ _ _⟩
end Go.Proofs.Ytoffnfooeojhnaa
