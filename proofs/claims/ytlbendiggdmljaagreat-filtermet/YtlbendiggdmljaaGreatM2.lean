/- Contracts of the program and of the document (WSize, WLay, WNum, WScan, WRead, VPut, VGet, PPut, PGet), each used further on. -/
import Derived.Lib.BitFns
import Derived.Lib.Zigzag
import Derived.Lib.AppendStr
import Derived.Test.YtlbendiggdmljaaGreatM1
namespace Go.Proofs.YtlbendiggdmljaaGreat
open Go.RowKit
theorem tab_size : (Lib.len8tab.size : Int) = 256 := by rw [Lib.len8tab_size]; rfl
theorem tab_at (y : Int) (h : y.toNat < Lib.len8tab.size) : ((Lib.len8tab[y.toNat]'h).toNat : Int) = Lib.len8 y := by
  unfold Lib.len8
  rw [getElem?_pos Lib.len8tab y.toNat h]; rfl
theorem wrap_two (k a b : Nat) (hk : k ≤ 56) (ha : a ≤ 8) (hb : b = k + a) : wrap64 ((k : Int) + wrap64 (a : Int)) = (b : Int) := by
  unfold wrap64; omega
/-- One of the eight ways: so many bits are cut off, and what is left is looked up. -/
theorem len_way (x k : Nat) (z : Int) (j : Nat) (h : z.toNat < Lib.len8tab.size) (hx : x < 2 ^ 64) (hk : k ≤ 56) (h1 : j = 2 ^ k) (hj : k = 0 ∨ j ≤ x) (hz : z = ((x / j : Nat) : Int)) :
    wrap64 ((k : Int) + wrap64 ((Lib.len8tab[z.toNat]'h).toNat : Int)) = (Lib.bitLen x : Int) := by
  subst h1
  generalize hq : x / 2 ^ k = q at *
  have hs := tab_size
  have hl : q < 256 := by omega
  rw [tab_at z h, Lib.len8_of _ (by omega) (by omega), show z.toNat = q by omega]
  refine wrap_two k _ _ hk (Lib.bitLen_le8 ⟨q, hl⟩) ?_
  rcases hj with rfl | hj
  · simp at hq; simp [hq]
  · rw [Lib.bitLen_shift k x hj hx, hq]
set_option maxHeartbeats 4000000 in
set_option maxRecDepth 100000 in
theorem len64_int (x : Int) (w : World) (h0 : 0 ≤ x) (h1 : x ≤ 18446744073709551615) :
    Calls Tryz.prog 148 #[.int .u64 x] w fun e w' => e = .returned (.int .i64 (Lib.bitLen x.toNat : Int)) ∧ w = w' := by
  go_enter Tryz.func148, Tryz.ntmps148
  go_wp2
  all_goals first
    | (go_ret; refine ⟨congrArg Ending.returned (congrArg (Value.int IntKind.i64) ?_), rfl⟩)
    | (exfalso; have hs := tab_size; omega)
  · exact len_way x.toNat 56 _ 72057594037927936 _ (by omega) (by decide) rfl (.inr (by omega)) (by omega)
  · exact len_way x.toNat 48 _ 281474976710656 _ (by omega) (by decide) rfl (.inr (by omega)) (by omega)
  · exact len_way x.toNat 40 _ 1099511627776 _ (by omega) (by decide) rfl (.inr (by omega)) (by omega)
  · exact len_way x.toNat 32 _ 4294967296 _ (by omega) (by decide) rfl (.inr (by omega)) (by omega)
  · exact len_way x.toNat 24 _ 16777216 _ (by omega) (by decide) rfl (.inr (by omega)) (by omega)
  · exact len_way x.toNat 16 _ 65536 _ (by omega) (by decide) rfl (.inr (by omega)) (by omega)
  · exact len_way x.toNat 8 _ 256 _ (by omega) (by decide) rfl (.inr (by omega)) (by omega)
  · have hs := tab_size
    have h := len_way x.toNat 0 x 1 (by omega) (by omega) (by decide) rfl (.inl rfl) (by omega)
    simpa using h
theorem or1 (n : Nat) (h : n < 2 ^ 64) : bits .or .u64 (n : Int) 1 = ((n ||| 1 : Nat) : Int) := u64_or_nat n 1 h (by decide)
theorem size_any (n : Nat) (w : World) (hn : n < 2 ^ 64) :
    Calls Tryz.prog 125 #[.int .u64 (n : Int)] w fun e w' => e = .returned (.int .i64 ((Wire.put n).length : Int)) ∧ w = w' := by
  have HN := Lib.hid hn
  have hor := or1 n hn
  have hlt : n ||| 1 < 2 ^ 64 := Nat.or_lt_two_pow hn (by decide)
  have HL := Lib.hid (Wire.put_len n hn)
  have hb := Lib.bitLen_le (n ||| 1) 64 (by decide) hlt
  generalize hm : n ||| 1 = m at *
  clear hm hn
  have H0 : Hid ((0 : Int) ≤ (m : Int) ∧ (m : Int) ≤ 18446744073709551615) := ⟨by omega, by omega⟩
  clear hlt
  go_enter Tryz.func125, Tryz.ntmps125
  go_wp2_with fail
  refine (len64_int (m : Int) _ H0.out.1 H0.out.2).mono ?_
  rintro e w1 ⟨rfl, rfl⟩
  rw [show ((m : Int)).toNat = m from rfl]
  go_wp2_with fail
  go_ret
  refine ⟨?_, rfl⟩
  rw [HL.out]
  exact ret_int (a := ((Lib.bitLen m : Int) + 7 - 1) / 7) (by omega)
end Go.Proofs.YtlbendiggdmljaaGreat
namespace Go.Proofs.YtlbendiggdmljaaGreat
open Go.RowKit
set_option maxRecDepth 100000 in
set_option maxHeartbeats 400000 in
/-- copied: the bytes anew, with room behind. -/
theorem wcopied_at (A : Option Addr) (bs : List UInt8) (n cap r m : Nat) (ri : Int) (hri : ri = (r : Int)) (hn : bs.length = n) (hm : n + r = m) (hl : m ≤ 140737488355328) (w : World) (hr : Rd w A bs) :
    Calls Tryz.prog 55 #[.slice A n cap, .int .i64 ri] w fun e w' => ∃ g Z, e = .returned (.slice (some ⟨g, 0, none⟩) n m) ∧ w.heap.size ≤ g ∧ Below w.heap.size w w' ∧ Blk w' g 5 (bs.map Bv ++ Z).toArray ∧ Z.length = r := by
  subst hn
  subst hm
  subst hri
  obtain ⟨i0, hi0, hz0, hz1, hz2⟩ := info_parts byte_info
  have hmk := fun W => run_make (P := Tryz.prog) W 24 5 i0 _ Tryz.underlying24 hi0 hz0 .i64 .i64 bs.length (bs.length + r) (by omega) (by omega) (by rw [hz2]; omega) (by omega)
  obtain ⟨Z, hZ⟩ : ∃ Z : List Value, Z = (madeCells #[Value.int IntKind.u8 0] (bs.length + r)).toList := ⟨_, rfl⟩
  have HZ := Lib.hid hZ
  clear hZ
  have hZl : Z.length = bs.length + r := by rw [HZ.out]; simp [size_madeCells]
  have HZl := Lib.hid hZl
  clear hZl
  have hr1 : ∀ o : Obj, Rd (w.alloc o) A bs := fun o => hr.below ((Below.refl _ _).alloc (Nat.le_refl _) o)
  go_enter Tryz.func55, Tryz.ntmps55
  go_wp2_with (refine wpList_copy_rd rfl (.tmp 13) (.tmp 14) 24 24 rfl 5 Tryz.underlying24 (by kernel_rfl) w.heap.size bs.length (bs.length + r) A bs.length cap (by rfl) (by rfl) bs (hr1 _) (by simp) Z 5 (by rw [HZ.out]; exact heap_alloc_new _ _) (by rw [HZl.out]; omega) ?_; intro w2 hB2 hb2')
  have hb2 := hb2' w.heap.size w ((Below.refl _ _).alloc (Nat.le_refl _) _) (Nat.le_refl _)
  go_ret
  exact ⟨w.heap.size, Z.drop bs.length, rfl, Nat.le_refl _, hb2, hB2, by rw [List.length_drop, HZl.out]; omega⟩
theorem or128 (n : Nat) : bits .or .u8 ((n : Int) % 256) 128 = (((UInt8.ofNat (n % 128 + 128)).toNat : Nat) : Int) := by
  have h : ∀ x : Fin 256, x.val ||| 128 = x.val % 128 + 128 := by decide +kernel
  have e := u8_or_nat (n % 256) 128 (by omega) (by decide)
  have h' := h ⟨n % 256, by omega⟩
  simp only at h'
  rw [h'] at e
  have : (UInt8.ofNat (n % 128 + 128)).toNat = n % 128 + 128 := by simp; omega
  rw [this]
  refine Eq.trans ?_ (e.trans ?_)
  · rfl
  · omega
theorem byte_of (n : Nat) (h : n < 128) : (n : Int) = (((UInt8.ofNat n).toNat : Nat) : Int) := by
  have : (UInt8.ofNat n).toNat = n := by simp; omega
  rw [this]
theorem lay_step (bs pre : List UInt8) (Z : List Value) (x : UInt8) (n k : Nat) (hn : bs.length + k = n) (hk : pre.length = k) :
    (((bs ++ pre).map Bv ++ Z.drop k).take n ++ [Value.int .u8 (x.toNat : Int)] ++ ((bs ++ pre).map Bv ++ Z.drop k).drop (n + 1)).toArray = ((bs ++ (pre ++ [x])).map Bv ++ Z.drop (k + 1)).toArray := by
  have hl : ((bs ++ pre).map Bv).length = n := by simp; omega
  have e1 : ((bs ++ pre).map Bv ++ Z.drop k).take n = (bs ++ pre).map Bv := by
    rw [List.take_append_of_le_length (by omega)]; exact List.take_of_length_le (by omega)
  have e2 : ((bs ++ pre).map Bv ++ Z.drop k).drop (n + 1) = Z.drop (k + 1) := by
    rw [List.drop_append, List.drop_eq_nil_of_le (by omega), hl, List.nil_append, List.drop_drop]
    congr 1; omega
  rw [e1, e2]
  simp [Bv]
theorem blk_step {w : World} {g : Nat} {t : TypeId} {bs pre : List UInt8} {Z : List Value} {x : UInt8} {n k : Nat} {v : Int} (hv : v = (x.toNat : Int)) (hn : bs.length + k = n) (hk : pre.length = k)
    (h : Blk w g t (((bs ++ pre).map Bv ++ Z.drop k).take n ++ [Value.int .u8 v] ++ ((bs ++ pre).map Bv ++ Z.drop k).drop (n + 1)).toArray) : Blk w g t ((bs ++ (pre ++ [x])).map Bv ++ Z.drop (k + 1)).toArray := by
  subst hv
  rw [lay_step bs pre Z x n k hn hk] at h; exact h
set_option maxRecDepth 100000 in
set_option maxHeartbeats 800000 in
theorem lay_at (g : Nat) (bs : List UInt8) (Z : List Value) (n cap m L : Nat) (hn : bs.length = n) (hc : n + Z.length = cap) (hm : m < 2 ^ 64) (hL : n + (Wire.put m).length = L) (hfit : (Wire.put m).length ≤ Z.length) (hl : cap ≤ 140737488355328) (w : World)
    (hB : Blk w g 5 (bs.map Bv ++ Z).toArray) :
    Calls Tryz.prog 124 #[.slice (some ⟨g, 0, none⟩) n cap, .int .u64 (m : Int)] w fun e w' => e = .returned (.slice (some ⟨g, 0, none⟩) L cap) ∧ Blk w' g 5 ((bs ++ Wire.put m).map Bv ++ Z.drop (Wire.put m).length).toArray ∧ (∀ B w0, Below B w0 w → B ≤ g → Below B w0 w') := by
  obtain ⟨i0, hi0, hz0, hz1, hz2⟩ := info_parts byte_info
  have HN := Lib.hid hn
  have HC := Lib.hid hc
  have HM := Lib.hid hm
  have HL := Lib.hid hL
  have hp1 := Wire.put_pos m
  have hp2 := Wire.put_len_le m hm
  have hcap : n + (Wire.put m).length ≤ cap := by omega
  clear hn hc hm hL
  generalize hlen : (Wire.put m).length = len at *
  have HE := Lib.hid hlen
  clear hlen
  go_enter Tryz.func124, Tryz.ntmps124
  go_wp2_with fail
  refine (size_any m _ HM.out).mono ?_
  rintro e w1 ⟨rfl, rfl⟩
  rw [HE.out]
  go_wp2_with fail
  go_loopw [0, 1, 8] (fun v x i wr => ∃ (pre : List UInt8) (q : Nat), Wire.put m = pre ++ Wire.put q ∧ Hid (q < 2 ^ 64) ∧ v = .slice (some ⟨g, 0, none⟩) (n + pre.length) cap ∧ x = .int .u64 (q : Int) ∧ i = .int .i64 (pre.length : Int) ∧ Blk wr g 5 ((bs ++ pre).map Bv ++ Z.drop pre.length).toArray ∧ (∀ B w0, Below B w0 w → B ≤ g → Below B w0 wr)) (fun _ _ i _ => len - (intOf i).toNat)
  case atStart => exact ⟨[], m, rfl, HM, rfl, rfl, rfl, by simpa using hB, fun _ _ h _ => h⟩
  case round =>
    obtain ⟨pre, q, hpq, hq, rfl, rfl, rfl, hBr, hbr⟩ := hrel
    have hll : len = pre.length + (Wire.put q).length := by rw [← HE.out, hpq, List.length_append]
    have HPQ := Lib.hid hpq
    have HLL := Lib.hid hll
    have hqp := Wire.put_pos q
    clear hpq
    have hprel : pre.length < len := by omega
    clear hll
    generalize hk : pre.length = k at *
    have HK := Lib.hid hk
    clear hk
    have hnew := fun vs => Blk.src (cs := vs) (Blk.new wr 5 vs.toArray)
    have hBa := fun O => hBr.alloc O
    by_cases hlt : k + 1 < len
    · have hq128 : 128 ≤ q := by
        rcases Nat.lt_or_ge q 128 with h | h
        · have := HLL.out; rw [Wire.put_lo q h] at this; simp at this; omega
        · exact h
      have hd1 : (k : Int) < (len : Int) - 1 := by omega
      have HF : Hid (n + k + 1 ≤ cap) := by show _ ≤ _; omega
      have HG : Hid (n + k + 1 ≤ ((bs ++ pre).map Bv ++ Z.drop k).length) := by
        show _ ≤ _
        simp [HN.out, HK.out]; omega
      go_wp2_with (at_builtin; refine wpList_append_fit rfl (.tmp 10) (.tmp 14) 24 rfl 5 i0 Tryz.underlying24 hi0 hz1 g (n + k) cap ((bs ++ pre).map Bv ++ Z.drop k) (by rfl) (hBa _) ⟨wr.heap.size, 0, none⟩ 1 1 [.int .u8 (bits .or .u8 ((q : Int) % 256) 128)] (by rfl) (by rfl) (hnew _) (by intro u hu; simp at hu; subst hu; rfl) HF.out HG.out ?_; intro w4 hB4 hb4')
      go_roundw
      case rel =>
        refine ⟨pre ++ [UInt8.ofNat (q % 128 + 128)], q / 128, ?_, ?_, ?_, ?_, ?_, ?_, ?_⟩
        · rw [HPQ.out, Wire.put_hi q hq128]; simp
        · have := hq.out; exact (by omega : q / 128 < 2 ^ 64)
        · simp [HK.out]; omega
        · go_num
        · simp [HK.out]
        · rw [List.length_append, List.length_singleton, HK.out]
          exact blk_step (or128 q) (by rw [HN.out]) HK.out hB4
        · intro B w0 h hg
          have hg2 := hBr.lt
          exact hb4' B w0 ((hbr B w0 h hg).alloc (by omega) _) hg
      case measure => simp [intOf]; omega
    · have hq128 : q < 128 := by
        rcases Nat.lt_or_ge q 128 with h | h
        · exact h
        · have := HLL.out; rw [Wire.put_hi q h] at this; simp at this
          have := Wire.put_pos (q / 128); omega
      have hd1 : ¬ (k : Int) < (len : Int) - 1 := by omega
      have HF : Hid (n + k + 1 ≤ cap) := by show _ ≤ _; omega
      have HG : Hid (n + k + 1 ≤ ((bs ++ pre).map Bv ++ Z.drop k).length) := by
        show _ ≤ _
        simp [HN.out, HK.out]; omega
      go_wp2_with (at_builtin; refine wpList_append_fit rfl (.tmp 19) (.tmp 22) 24 rfl 5 i0 Tryz.underlying24 hi0 hz1 g (n + k) cap ((bs ++ pre).map Bv ++ Z.drop k) (by rfl) (hBa _) ⟨wr.heap.size, 0, none⟩ 1 1 [.int .u8 (q : Int)] (by rfl) (by rfl) (hnew _) (by intro u hu; simp at hu; subst hu; rfl) HF.out HG.out ?_; intro w4 hB4 hb4')
      go_ret
      have h1 : (Wire.put q).length = 1 := by rw [Wire.put_lo q hq128]; rfl
      have h2 : len = k + 1 := by have := HLL.out; omega
      refine ⟨?_, ?_, ?_⟩
      · rw [← HL.out, h2]; rfl
      · rw [HPQ.out, Wire.put_lo q hq128, h2]
        simpa using blk_step (byte_of q hq128) (by rw [HN.out]) HK.out hB4
      · intro B w0 h hg
        have hg2 := hBr.lt
        exact hb4' B w0 ((hbr B w0 h hg).alloc (by omega) _) hg
set_option maxRecDepth 100000 in
set_option maxHeartbeats 400000 in
theorem put_at (A : Option Addr) (bs : List UInt8) (n cap m L : Nat) (hn : bs.length = n) (hL : n + (Wire.put m).length = L) (hm : m < 2 ^ 64) (hl : L ≤ 140737488355328) (w : World) (hr : Rd w A bs) :
    Calls Tryz.prog 84 #[.slice A n cap, .int .u64 (m : Int)] w fun e w' => ∃ g, e = .returned (.slice (some ⟨g, 0, none⟩) L L) ∧ w.heap.size ≤ g ∧ Below w.heap.size w w' ∧ Blk w' g 5 ((bs ++ Wire.put m).map Bv).toArray := by
  have HN := Lib.hid hn
  have HM := Lib.hid hm
  have HL := Lib.hid hL
  clear hn hm hL
  go_enter Tryz.func84, Tryz.ntmps84
  go_wp2_with fail
  refine (size_any m _ HM.out).mono ?_
  rintro e w1 ⟨rfl, rfl⟩
  go_wp2_with fail
  refine (wcopied_at A bs n cap (Wire.put m).length L _ rfl HN.out HL.out hl w hr).mono ?_
  rintro e w1 ⟨g, Z, rfl, hg, hb, hB, hZ⟩
  have HZ := Lib.hid hZ
  clear hZ
  go_wp2_with fail
  refine (lay_at g bs Z n L m L HN.out (by rw [HZ.out]; exact HL.out) HM.out HL.out (by rw [HZ.out]; omega) hl w1 hB).mono ?_
  rintro e w2 ⟨rfl, hB2, hb2⟩
  go_wp2_with fail
  go_ret
  refine ⟨g, rfl, hg, hb2 _ _ hb hg, ?_⟩
  have hd : Z.drop (Wire.put m).length = [] := List.drop_eq_nil_of_le (by rw [HZ.out]; omega)
  rw [hd] at hB2
  simpa using hB2
theorem fold_eq (n : Int) (h1 : -9223372036854775808 ≤ n) (h2 : n ≤ 9223372036854775807) : bits .xor .u64 (IntKind.u64.wrap (IntKind.u64.wrap n * 2)) (IntKind.u64.wrap (n / 9223372036854775808)) = ((Wire.zig n : Nat) : Int) := by
  rw [IntKind.wrap_u64, IntKind.wrap_u64, IntKind.wrap_u64]
  unfold Wire.zig
  by_cases h : n < 0
  · rw [if_pos h]
    have e1 : n % 18446744073709551616 * 2 % 18446744073709551616 = (((2 * n + 18446744073709551616).toNat : Nat) : Int) := by omega
    have e2 : n / 9223372036854775808 % 18446744073709551616 = ((2 ^ 64 - 1 : Nat) : Int) := by omega
    rw [e1, e2, bits_xor_u64_nat _ _ (by omega) (by decide), Nat.xor_comm, Lib.xor_ones64 _ (by omega)]
    omega
  · rw [if_neg h]
    have e1 : n % 18446744073709551616 * 2 % 18446744073709551616 = (((2 * n).toNat : Nat) : Int) := by omega
    have e2 : n / 9223372036854775808 % 18446744073709551616 = ((0 : Nat) : Int) := by omega
    rw [e1, e2, bits_xor_u64_nat _ _ (by omega) (by decide), Nat.xor_zero]
    omega
theorem folded_any (n : Int) (h1 : -9223372036854775808 ≤ n) (h2 : n ≤ 9223372036854775807) (w : World) :
    Calls Tryz.prog 169 #[.int .i64 n] w fun e w' => e = .returned (.int .u64 ((Wire.zig n : Nat) : Int)) ∧ w = w' := by
  have HE := Lib.hid (fold_eq n h1 h2)
  go_enter Tryz.func169, Tryz.ntmps169
  go_wp2
  go_ret
  refine ⟨?_, rfl⟩
  exact ret_int HE.out
set_option maxRecDepth 100000 in
theorem putInt_at (A : Option Addr) (bs : List UInt8) (n cap L : Nat) (m : Int) (hn : bs.length = n) (hL : n + (Wire.put (Wire.zig m)).length = L) (h1 : -9223372036854775808 ≤ m) (h2 : m ≤ 9223372036854775807) (hl : L ≤ 140737488355328) (w : World) (hr : Rd w A bs) :
    Calls Tryz.prog 149 #[.slice A n cap, .int .i64 m] w fun e w' => ∃ g, e = .returned (.slice (some ⟨g, 0, none⟩) L L) ∧ w.heap.size ≤ g ∧ Below w.heap.size w w' ∧ Blk w' g 5 ((bs ++ Wire.put (Wire.zig m)).map Bv).toArray := by
  have HN := Lib.hid hn
  have HL := Lib.hid hL
  clear hn hL
  go_enter Tryz.func149, Tryz.ntmps149
  go_wp2_with fail
  refine (folded_any m h1 h2 _).mono ?_
  rintro e w1 ⟨rfl, rfl⟩
  have HM := Lib.hid (Wire.zig_lt m h1 h2)
  go_wp2_with fail
  refine (put_at A bs n cap (Wire.zig m) L HN.out HL.out HM.out hl w hr).mono ?_
  rintro e w2 ⟨g, rfl, hg, hb, hB⟩
  go_wp2_with fail
  go_ret
  exact ⟨g, rfl, hg, hb, by simpa using hB⟩
/-- append(b, s...) of a text, where there is room. -/
theorem wpList_append_text {P : Program} {w : World} {ops : Array Oper} {rest : List Oper} {o : Oper} {a : Act} {Q : Exit → Act → World → Prop} (hgd : o.guard = none) (s x : Operand) (t u : TypeId)
    (ho : o.op = .call { callee := .builtin .append, args := #[s, x], argTypes := #[t, u] }) (e : TypeId) (i : TypeInfo) (ht : P.underlying t = some (.slice e)) (hu : P.underlying u = some .string) (hi : P.info? e = some i) (hsize : i.size = 1)
    (g n cap : Nat) (cur : List Value) (hs : a.eval s = .slice (some ⟨g, 0, none⟩) n cap) (hg : Blk w g e cur.toArray)
    (ss : List UInt8) (m : Nat) (hx : a.eval x = .string ⟨ss.toArray⟩) (hm : ss.length = m)
    (hroom : n + m ≤ cap) (hfit : n + m ≤ cur.length)
    (h : ∀ w', Blk w' g e (cur.take n ++ ss.map Bv ++ cur.drop (n + m)).toArray → (∀ B w0, Below B w0 w → B ≤ g → Below B w0 w') → wpList P ops Q rest (a.put o.dst (.slice (some ⟨g, 0, none⟩) (n + m) cap)) w') : wpList P ops Q (o :: rest) a w := by
  subst hm
  refine wpList_plain hgd fun K hK => ?_
  have hsz : (⟨ss.toArray⟩ : ByteArray).size = ss.length := rfl
  have hr := Lib.run_append_room_string (P := P) w t u o.type e i ht hu hi hsize g n cap cur.toArray hg ⟨ss.toArray⟩ (by rw [hsz]; exact hroom) (by rw [hsz]; simpa using hfit)
  unfold Oper.wp execOp
  simp only [ho, resolve, invoke, builtin, Sem.run_bind, Sem.run_pure, Result.andThen_ok, List.map_toArray, List.map_cons, List.map_nil, hs, hx, hr]
  refine hK _ _ (h _ ?_ fun B w0 hb hB => below_setRow hb hB _)
  have e1 : Lib.strCells ⟨ss.toArray⟩ = ss.map Bv := by simp [Lib.strCells, Bv]
  rw [hsz, e1]
  exact setRow_heap w g cur.toArray _ e _ hg
set_option maxRecDepth 100000 in
set_option maxHeartbeats 800000 in
theorem putText_at (A : Option Addr) (bs ss : List UInt8) (n cap k L : Nat) (hn : bs.length = n) (hk : ss.length = k) (hL : n + (Wire.text ss).length = L) (hl : L ≤ 140737488355328) (w : World) (hr : Rd w A bs) :
    Calls Tryz.prog 126 #[.slice A n cap, .string ⟨ss.toArray⟩] w fun e w' => ∃ g, e = .returned (.slice (some ⟨g, 0, none⟩) L L) ∧ w.heap.size ≤ g ∧ Below w.heap.size w w' ∧ Blk w' g 5 ((bs ++ Wire.text ss).map Bv).toArray := by
  obtain ⟨i0, hi0, hz0, hz1, hz2⟩ := info_parts byte_info
  have hkk : k < 2 ^ 64 := by
    have : (Wire.text ss).length = (Wire.put ss.length).length + ss.length := by simp [Wire.text]
    omega
  have hkl : k ≤ 140737488355328 := by
    have : (Wire.text ss).length = (Wire.put ss.length).length + ss.length := by simp [Wire.text]
    omega
  have HS : Hid ((⟨ss.toArray⟩ : ByteArray).size = k) := hk
  have HX : Hid (n + ((Wire.put k).length + k) = L) := by
    show _ = _
    rw [← hL, ← hk]; simp [Wire.text]
  have HT : Hid (Wire.text ss = Wire.put k ++ ss) := by
    show _ = _
    rw [← hk]; rfl
  have hp2 := Wire.put_len_le k hkk
  have HN := Lib.hid hn
  have HK := Lib.hid hk
  have HKK := Lib.hid hkk
  clear hn hk hL hkk
  have hsz : (⟨ss.toArray⟩ : ByteArray).size = k := HS.out
  generalize hlen : (Wire.put k).length = len at *
  have HE := Lib.hid hlen
  clear hlen
  go_enter Tryz.func126, Tryz.ntmps126
  go_wp2_with fail
  refine (size_any k _ HKK.out).mono ?_
  rintro e w1 ⟨rfl, rfl⟩
  rw [HE.out]
  go_wp2_with fail
  refine (wcopied_at A bs n cap (len + k) L _ (by omega) HN.out HX.out hl w hr).mono ?_
  rintro e w1 ⟨g, Z, rfl, hg, hb, hB, hZ⟩
  have HZ := Lib.hid hZ
  clear hZ
  have HF : Hid (n + len + k ≤ L) := by have := HX.out; show _ ≤ _; omega
  have HA : Hid (n + len + k = L) := by have := HX.out; show _ = _; omega
  have HG : Hid (n + len + k ≤ ((bs ++ Wire.put k).map Bv ++ Z.drop len).length) := by
    show _ ≤ _
    simp [HN.out, HE.out, HZ.out]; omega
  go_wp2_with fail
  refine (lay_at g bs Z n L k (n + len) HN.out (by rw [HZ.out]; exact HX.out) HKK.out (by rw [HE.out]) (by rw [HZ.out, HE.out]; omega) hl w1 hB).mono ?_
  rintro e w2 ⟨rfl, hB2, hb2⟩
  rw [HE.out] at hB2
  have hb3 := hb2 _ _ hb hg
  clear hb2
  go_wp2_with (at_builtin; refine wpList_append_text rfl (.tmp 19) (.tmp 20) 24 9 rfl 5 i0 Tryz.underlying24 Tryz.underlying9 hi0 hz1 g (n + len) L ((bs ++ Wire.put k).map Bv ++ Z.drop len) (by rfl) hB2 ss k (by rfl) HK.out HF.out HG.out ?_; intro w4 hB4 hb4')
  go_ret
  refine ⟨g, by rw [← HA.out]; rfl, hg, hb4' _ _ hb3 hg, ?_⟩
  rw [HT.out]
  have hl1 : ((bs ++ Wire.put k).map Bv).length = n + len := by simp [HN.out, HE.out]
  have e1 : ((bs ++ Wire.put k).map Bv ++ Z.drop len).take (n + len) = (bs ++ Wire.put k).map Bv := by
    rw [List.take_append_of_le_length (by omega)]; exact List.take_of_length_le (by omega)
  have e2 : ((bs ++ Wire.put k).map Bv ++ Z.drop len).drop (n + len + k) = [] := by
    apply List.drop_eq_nil_of_le
    simp [HN.out, HE.out, HZ.out]; omega
  rw [e1, e2] at hB4
  simpa using hB4
end Go.Proofs.YtlbendiggdmljaaGreat
namespace Go.Proofs.YtlbendiggdmljaaGreat
open Go.RowKit
theorem and128_hi (x : UInt8) (hx : 128 ≤ x.toNat) : bits .and .u8 (x.toNat : Int) 128 = 128 := by
  have h : ∀ y : Fin 256, 128 ≤ y.val → y.val &&& 128 = 128 := by decide +kernel
  have e := u8_and_nat x.toNat 128 x.toNat_lt (by decide)
  rw [h ⟨x.toNat, x.toNat_lt⟩ hx] at e
  exact e
theorem and128_lo (x : UInt8) (hx : x.toNat < 128) : bits .and .u8 (x.toNat : Int) 128 = 0 := by
  have h : ∀ y : Fin 256, y.val < 128 → y.val &&& 128 = 0 := by decide +kernel
  have e := u8_and_nat x.toNat 128 x.toNat_lt (by decide)
  rw [h ⟨x.toNat, x.toNat_lt⟩ hx] at e
  exact e
theorem not128 (x : UInt8) : bits .andNot .u8 (x.toNat : Int) 128 = ((x.toNat % 128 : Nat) : Int) := by
  have e := u8_andNot_nat x.toNat 128 x.toNat_lt (by decide)
  rw [show 255 - 128 = 127 from rfl, nat_mask7] at e
  exact e
theorem or_step (acc x p : Nat) (ha : acc < 2 ^ (7 * p)) (hp : p ≤ 9) (hx : p ≤ 8 ∨ x % 128 ≤ 1) : bits .or .u64 (acc : Int) (IntKind.u64.wrap ((x : Int) % 128 * 2 ^ (p * 7))) = ((acc + x % 128 * 128 ^ p : Nat) : Int) := by
  have e1 : (128 : Nat) ^ p = 2 ^ (7 * p) := by rw [show (128 : Nat) = 2 ^ 7 from rfl, ← Nat.pow_mul]
  have hlt : x % 128 * 2 ^ (7 * p) < 2 ^ 64 := by
    rcases hx with h | h
    · have : 2 ^ (7 * p) ≤ 2 ^ 56 := Nat.pow_le_pow_right (by decide) (by omega)
      have h2 : x % 128 < 128 := by omega
      calc x % 128 * 2 ^ (7 * p) ≤ x % 128 * 2 ^ 56 := Nat.mul_le_mul_left _ this
        _ < 128 * 2 ^ 56 := Nat.mul_lt_mul_of_pos_right h2 (by decide)
        _ ≤ 2 ^ 64 := by decide
    · have : 2 ^ (7 * p) ≤ 2 ^ 63 := Nat.pow_le_pow_right (by decide) (by omega)
      calc x % 128 * 2 ^ (7 * p) ≤ 1 * 2 ^ 63 := Nat.mul_le_mul h this
        _ < 2 ^ 64 := by decide
  have hal : acc < 2 ^ 64 := Nat.lt_of_lt_of_le ha (Nat.pow_le_pow_right (by decide) (by omega))
  have e2 : ((x : Int) % 128 * 2 ^ (p * 7)) = ((x % 128 * 2 ^ (7 * p) : Nat) : Int) := by
    rw [Nat.mul_comm 7 p]; simp
  rw [e2, e1, IntKind.wrap_u64]
  generalize hz : x % 128 * 2 ^ (7 * p) = z at *
  rw [show (z : Int) % 18446744073709551616 = (z : Int) by omega, u64_or_nat acc z (by omega) (by omega), Nat.or_comm, nat_join (7 * p) z acc (by rw [← hz]; exact Nat.mul_mod_left _ _) ha]
  omega
set_option maxHeartbeats 400000 in
theorem mayEnd_any (x p : Nat) (hx : x < 256) (hp : p < 10) (b : Bool) (hb : Wire.mayEnd x p = b) (w : World) :
    Calls Tryz.prog 150 #[.int .u8 (x : Int), .int .i64 (p : Int)] w fun e w' => e = .returned (.bool b) ∧ w = w' := by
  have HB := Lib.hid hb
  clear hb
  by_cases h9 : p = 9
  · subst h9
    by_cases h1 : x = 1
    · subst h1
      go_enter Tryz.func150, Tryz.ntmps150
      go_wp2
      go_ret
      exact ⟨by rw [← HB.out]; rfl, rfl⟩
    · have hd : ((x : Int) == 1) = false := by simp; omega
      go_enter Tryz.func150, Tryz.ntmps150
      go_wp2
      go_ret
      exact ⟨by rw [← HB.out]; simp [Wire.mayEnd, h1], rfl⟩
  · have hd : ((p : Int) == 9) = false := by simp; omega
    by_cases h0 : x = 0
    · subst h0
      by_cases hp0 : p = 0
      · subst hp0
        go_enter Tryz.func150, Tryz.ntmps150
        go_wp2
        go_ret
        exact ⟨by rw [← HB.out]; rfl, rfl⟩
      · have hd2 : ((p : Int) == 0) = false := by simp; omega
        go_enter Tryz.func150, Tryz.ntmps150
        go_wp2
        go_ret
        exact ⟨by rw [← HB.out]; simp [Wire.mayEnd, h9, hp0], rfl⟩
    · have hd2 : ((x : Int) != 0) = true := by simp; omega
      go_enter Tryz.func150, Tryz.ntmps150
      go_wp2
      go_ret
      exact ⟨by rw [← HB.out]; simp [Wire.mayEnd, h9, h0], rfl⟩
theorem ret_num {bs : List UInt8} {t : Nat × Nat × Nat} (h : Wire.num bs = t) {a b c : Int} (h1 : a = (t.1 : Int)) (h2 : b = (t.2.1 : Int)) (h3 : c = (t.2.2 : Int)) :
    Ending.returned (.tuple #[.int .u64 a, .int .i64 b, .int .i64 c]) = .returned (.tuple #[.int .u64 ((Wire.num bs).1 : Int), .int .i64 ((Wire.num bs).2.1 : Int), .int .i64 ((Wire.num bs).2.2 : Int)]) := by
  rw [h, h1, h2, h3]
theorem scan_cons (f p acc : Nat) (x : UInt8) (r : List UInt8) : Wire.scan (f + 1) p acc (x :: r) = if 128 ≤ x.toNat then Wire.scan f (p + 1) (acc + x.toNat % 128 * 128 ^ p) r
    else if Wire.mayEnd x.toNat p then (acc + x.toNat * 128 ^ p, p + 1, 0) else (0, 0, 3) := rfl
set_option maxRecDepth 100000 in
set_option maxHeartbeats 800000 in
theorem number_at (A : Option Addr) (bs : List UInt8) (n cap : Nat) (hn : bs.length = n) (hl : n ≤ 140737488355328) (w : World) (hr : Rd w A bs) :
    Calls Tryz.prog 129 #[.slice A n cap] w fun e w' => e = .returned (.tuple #[.int .u64 ((Wire.num bs).1 : Int), .int .i64 ((Wire.num bs).2.1 : Int), .int .i64 ((Wire.num bs).2.2 : Int)]) ∧ w = w' := by
  have HN := Lib.hid hn
  clear hn
  go_enter Tryz.func129, Tryz.ntmps129
  go_wp2_with fail
  go_loop [5, 8] (fun x i => ∃ (p acc : Nat) (z : Int), p ≤ 10 ∧ p ≤ n ∧ i = .int .i64 (p : Int) ∧ x = .int .u64 z ∧ Hid (p ≤ 9 → z = (acc : Int) ∧ acc < 2 ^ (7 * p)) ∧ Hid (Wire.num bs = Wire.scan (10 - p) p acc (bs.drop p))) (fun _ i => 10 - (intOf i).toNat)
  case atStart => exact ⟨0, 0, 0, by omega, by omega, rfl, rfl, fun _ => by simp, rfl⟩
  case round =>
    obtain ⟨p, acc, z, hp, hpn, rfl, rfl, hacc, HI⟩ := hrel
    by_cases h10 : p = 10
    · subst h10
      go_wp2
      go_ret3
      exact ⟨ret_num HI.out rfl rfl rfl, rfl⟩
    · have hlt : p < 10 := by omega
      obtain ⟨f, hf⟩ : ∃ f, 10 - p = f + 1 := ⟨9 - p, by omega⟩
      have HF := Lib.hid hf
      clear hf
      obtain ⟨hz, hal⟩ := hacc.out (by omega)
      subst hz
      have HA := Lib.hid hal
      clear hal hacc
      by_cases hpl : p = n
      · subst hpl
        go_wp2
        go_ret3
        refine ⟨ret_num (t := (0, 0, 2)) ?_ rfl rfl rfl, rfl⟩
        rw [HI.out, List.drop_eq_nil_of_le (by rw [HN.out]; omega), HF.out]; rfl
      · obtain ⟨g, off, rfl, hg, hc⟩ := hr.at_ (k := p) (by rw [HN.out]; omega)
        have hdr : bs.drop p = bs[p]'(by rw [HN.out]; omega) :: bs.drop (p + 1) := List.drop_eq_getElem_cons _
        generalize hX : bs[p]'(by rw [HN.out]; omega) = x at *
        clear hX
        have HD := Lib.hid hdr
        clear hdr
        have hx : x.toNat < 256 := x.toNat_lt
        have h1 := not128 x
        have h3 : p < n := by omega
        have h4 : ((p : Int) == (n : Int)) = false := by simp; omega
        have HSc : Hid (Wire.num bs = if 128 ≤ x.toNat then Wire.scan f (p + 1) (acc + x.toNat % 128 * 128 ^ p) (bs.drop (p + 1)) else if Wire.mayEnd x.toNat p then (acc + x.toNat * 128 ^ p, p + 1, 0) else (0, 0, 3)) := by
          show _ = _
          rw [HI.out, HF.out, HD.out, scan_cons]
        by_cases hhi : 128 ≤ x.toNat
        · have h2 := and128_hi x hhi
          go_wp2_with fail
          go_round
          case rel =>
            refine ⟨p + 1, acc + x.toNat % 128 * 128 ^ p, _, by omega, by omega, by go_num, rfl, ?_, ?_⟩
            · intro h9
              refine ⟨or_step acc x.toNat p HA.out (by omega) (.inl (by omega)), ?_⟩
              have e1 : (128 : Nat) ^ p = 2 ^ (7 * p) := by rw [show (128 : Nat) = 2 ^ 7 from rfl, ← Nat.pow_mul]
              have hz := HA.out
              rw [e1, Nat.mul_add, Nat.pow_add]
              have : x.toNat % 128 * 2 ^ (7 * p) ≤ 127 * 2 ^ (7 * p) := Nat.mul_le_mul_right _ (by omega)
              omega
            · show _ = _
              rw [HSc.out, if_pos hhi, show 10 - (p + 1) = f by have := HF.out; omega]
          case measure => simp [intOf]; omega
        · have hlo : x.toNat < 128 := by omega
          have h2 := and128_lo x hlo
          cases hme : Wire.mayEnd x.toNat p with
          | true =>
            have HM := Lib.hid hme
            clear hme
            go_wp2_with fail
            refine (mayEnd_any x.toNat p hx hlt true HM.out _).mono ?_
            rintro e w1 ⟨rfl, rfl⟩
            go_wp2_with fail
            go_ret3
            have hm : x.toNat % 128 = x.toNat := by omega
            have ho := or_step acc x.toNat p HA.out (by omega) (by
              by_cases h9 : p = 9
              · right
                have := HM.out
                simp [Wire.mayEnd, h9] at this
                omega
              · left; omega)
            refine ⟨ret_num (t := (acc + x.toNat * 128 ^ p, p + 1, 0)) ?_ (by rw [hm] at ho; exact ho) (by simp) rfl, rfl⟩
            rw [HSc.out, if_neg hhi, if_pos HM.out]
          | false =>
            have HM := Lib.hid hme
            clear hme
            go_wp2_with fail
            refine (mayEnd_any x.toNat p hx hlt false HM.out _).mono ?_
            rintro e w1 ⟨rfl, rfl⟩
            go_wp2_with fail
            go_ret3
            refine ⟨ret_num (t := (0, 0, 3)) ?_ rfl rfl rfl, rfl⟩
            rw [HSc.out, if_neg hhi, if_neg (by rw [HM.out]; simp)]
end Go.Proofs.YtlbendiggdmljaaGreat
namespace Go.Proofs.YtlbendiggdmljaaGreat
open Go.RowKit
/-- A row of a scan's two cells holds no byte. -/
theorem rd_apart {w : World} {g : Nat} {t : TypeId} {a : Option Addr} {n c : Nat} {z : Int} {A : Option Addr} {bs : List UInt8} (hB : Blk w g t #[.slice a n c, .int .i64 z]) (hr : Rd w A bs) (off : Nat) : A ≠ some ⟨g, off, none⟩ ∨ bs = [] := by
  rcases hr with rfl | ⟨g', off', rfl, hg, hc⟩
  · exact .inr rfl
  · by_cases h0 : bs = []
    · exact .inr h0
    · refine .inl fun e => ?_
      cases e
      have hl : 0 < bs.length := List.length_pos_iff.2 h0
      have h := hc 0 hl
      rw [hB.cell] at h
      rcases off with _ | _ | off
      · simp at h
      · simp at h
      · simp at h
/-- An address ahead of a block. -/
def Ahd (A : Option Addr) (g : Nat) : Prop := ∀ a, A = some a → a.block < g
/-- A cut off the front, as the model spells it, and where it lies. -/
theorem run_cutH {w : World} {A : Option Addr} {bs : List UInt8} {n cap k g : Nat} (hr : Rd w A bs) (hn : bs.length = n) (hk : k ≤ n) (hc : n ≤ cap) (ha : Ahd A g) :
    ∃ A', (∀ W, (Instr.slice 24 (.slice A n cap) (some (.int .i64 (k : Int))) none none).run Tryz.prog W = .ok (.slice A' (n - k) (cap - k)) W) ∧ Rd w A' (bs.drop k) ∧ Ahd A' g := by
  by_cases hck : cap = k
  · refine ⟨A, fun W => ?_, .inl (List.drop_eq_nil_of_le (by omega)), ha⟩
    have h1 : (0 : Int) ≤ (k : Int) := by omega
    have h2 : (k : Int) ≤ (n : Int) := by omega
    subst hck
    go_simp
  · refine ⟨A.map fun x => x.add k, fun W => ?_, ?_, fun a h => ?_⟩
    · have h1 : (0 : Int) ≤ (k : Int) := by omega
      have h2 : (k : Int) ≤ (n : Int) := by omega
      go_simp
    · rcases hr with rfl | ⟨g, off, rfl, hg, hcell⟩
      · exact .inl (by simp)
      · refine .inr ⟨g, off + k, by simp [add_lit], hg, fun i hi => ?_⟩
        have hi' : k + i < bs.length := by simp at hi; omega
        rw [List.getElem_drop, Nat.add_assoc]; exact hcell (k + i) hi'
    · rcases A with _ | x
      · simp at h
      · simp only [Option.map_some, Option.some.injEq] at h
        subst h
        have hx := ha x rfl
        unfold Addr.add
        split <;> exact hx
/-- A scan in block g. -/
def Sc (w : World) (g : Nat) (t : TypeId) (s : Wire.St) : Prop :=
  ∃ A n cap, Blk w g t #[.slice A n cap, .int .i64 s.err] ∧ s.rest.length = n ∧ n ≤ cap ∧ cap ≤ 140737488355328 ∧ Rd w A s.rest ∧ Ahd A g
theorem Sc.lt {w : World} {g : Nat} {t : TypeId} {s : Wire.St} (h : Sc w g t s) : g < w.heap.size := by
  obtain ⟨A, n, cap, hB, _⟩ := h
  exact hB.lt
theorem Sc.below {w w' : World} {g : Nat} {t : TypeId} {s : Wire.St} (h : Sc w g t s) (hb : Below w.heap.size w w') : Sc w' g t s := by
  obtain ⟨A, n, cap, hB, h1, h2, h3, hr, ha⟩ := h
  exact ⟨A, n, cap, hB.below hb hB.lt, h1, h2, h3, hr.below hb, ha⟩
theorem err_at (w : World) (g : Nat) (s : Wire.St) (h : Sc w g 77 s) (z : Int) (hz : s.err = z) :
    Calls Tryz.prog 29 #[.pointer (some ⟨g, 0, none⟩)] w fun e w' => e = .returned (.int .i64 z) ∧ w = w' := by
  subst hz
  obtain ⟨A, n', cap, hB, h1, h2, h3, hr, ha⟩ := h
  obtain ⟨c0, c1, f0, f1⟩ := blk2 hB
  clear h1
  go_enter Tryz.func29, Tryz.ntmps29
  go_wp2
  go_ret
  exact ⟨rfl, rfl⟩
theorem end_at (w : World) (g : Nat) (s : Wire.St) (h : Sc w g 77 s) (z : Int) (hz : s.endE = z) :
    Calls Tryz.prog 34 #[.pointer (some ⟨g, 0, none⟩)] w fun e w' => e = .returned (.int .i64 z) ∧ w = w' := by
  obtain ⟨A, n, cap, hB, h1, h2, h3, hr, ha⟩ := h
  obtain ⟨c0, c1, f0, f1⟩ := blk2 hB
  unfold Wire.St.endE at hz
  rw [h1] at hz
  clear h1
  obtain ⟨rest, err⟩ := s
  simp only at hz c1
  clear hB hr
  by_cases he : err = 0
  · subst he
    by_cases hn : n = 0
    · subst hn
      obtain rfl : z = 0 := by rw [← hz]; simp
      clear hz
      go_enter Tryz.func34, Tryz.ntmps34
      go_wp2
      go_ret
      exact ⟨rfl, rfl⟩
    · have hn' : 0 < n := by omega
      have hd : decide ((0 : Int) < (n : Int)) = true := by simp; omega
      obtain rfl : z = 5 := by rw [← hz]; simp [hn']
      clear hz
      go_enter Tryz.func34, Tryz.ntmps34
      go_wp2
      go_ret
      exact ⟨rfl, rfl⟩
  · have hd : (err == 0) = false := by simpa using he
    obtain rfl : err = z := by rw [← hz, if_neg (fun h => he h.1)]
    clear hz
    go_enter Tryz.func34, Tryz.ntmps34
    go_wp2
    go_ret
    exact ⟨rfl, rfl⟩
set_option maxRecDepth 100000 in
theorem fail_at (w : World) (g : Nat) (s : Wire.St) (h : Sc w g 77 s) (z : Int) :
    Calls Tryz.prog 58 #[.pointer (some ⟨g, 0, none⟩), .int .i64 z] w fun e w' => e = .returned (.tuple #[]) ∧ Sc w' g 77 (s.fail z) ∧ Touch g w w' := by
  have h0 := h
  obtain ⟨A, n, cap, hB, h1, h2, h3, hr, ha⟩ := h
  obtain ⟨c0, c1, f0, f1⟩ := blk2 hB
  clear h1
  obtain ⟨rest, err⟩ := s
  simp only at *
  by_cases he : err = 0
  · subst he
    by_cases hz : z = 0
    · subst hz
      go_enter Tryz.func58, Tryz.ntmps58
      go_wp2
      (try simp only [Exit.inBlock, Exit.then])
      refine bodyPost_ret (results_none rfl _ _ _) rfl ?_
      exact ⟨rfl, h0, Touch.refl _ _⟩
    · have hd : (z == 0) = false := by simpa using hz
      go_enter Tryz.func58, Tryz.ntmps58
      go_wp2
      go_end0
      refine ⟨rfl, ?_, ((Touch.refl _ _).set_ _ _).set_ _ _⟩
      unfold Wire.St.fail
      rw [if_pos ⟨rfl, hz⟩]
      refine ⟨none, 0, 0, ?_, rfl, by omega, by omega, .inl rfl, fun a h => by cases h⟩
      exact (hB.put 1 (.int .i64 z)).put 0 (.slice none 0 0)
  · have hd : (err != 0) = true := by simpa using he
    go_enter Tryz.func58, Tryz.ntmps58
    go_wp2
    (try simp only [Exit.inBlock, Exit.then])
    refine bodyPost_ret (results_none rfl _ _ _) rfl ?_
    refine ⟨rfl, ?_, Touch.refl _ _⟩
    unfold Wire.St.fail
    rw [if_neg (fun h => he h.1)]
    exact h0
end Go.Proofs.YtlbendiggdmljaaGreat
namespace Go.Proofs.YtlbendiggdmljaaGreat
open Go.RowKit
set_option maxRecDepth 100000 in
theorem on_at (A : Option Addr) (bs : List UInt8) (n cap : Nat) (hn : bs.length = n) (hl : n ≤ 140737488355328) (w : World) (hr : Rd w A bs) :
    Calls Tryz.prog 25 #[.slice A n cap] w fun e w' => ∃ g, e = .returned (.pointer (some ⟨g, 0, none⟩)) ∧ w.heap.size ≤ g ∧ Below w.heap.size w w' ∧ Sc w' g 77 ⟨bs, 0⟩ := by
  have HN := Lib.hid hn
  clear hn
  go_enter Tryz.func25, Tryz.ntmps25
  go_wp2_with fail
  refine (wcopied_at A bs n cap 0 n _ rfl HN.out rfl hl w hr).mono ?_
  rintro e w1 ⟨g, Z, rfl, hg, hb, hB, hZ⟩
  obtain rfl : Z = [] := List.eq_nil_of_length_eq_zero hZ
  clear hZ
  go_wp2_with fail
  go_ret
  refine ⟨w1.heap.size, rfl, hb.size, hb.alloc hb.size _, ?_⟩
  rw [List.append_nil] at hB
  exact ⟨some ⟨g, 0, none⟩, n, n, Blk.new _ _ _, HN.out, Nat.le_refl _, hl, (hB.alloc _).rd, fun a h => by cases h; exact (show g < _ from hB.lt)⟩
/-- What a reading leaves: the value's kind and number, the scan's state, only its block turned. -/
def Reads (w : World) (g : Nat) (T : TypeId) (v : Value) (s : Wire.St) (e : Ending) (w' : World) : Prop := e = .returned v ∧ Sc w' g T s ∧ Touch g w w'
set_option maxRecDepth 100000 in
set_option maxHeartbeats 800000 in
theorem num_at (w : World) (g : Nat) (s : Wire.St) (h : Sc w g 77 s) :
    Calls Tryz.prog 88 #[.pointer (some ⟨g, 0, none⟩)] w (Reads w g 77 (.int .u64 (s.numV : Int)) s.numS) := by
  have h0 := h
  obtain ⟨A, n, cap, hB, h1, h2, h3, hr, ha⟩ := h
  obtain ⟨c0, c1, f0, f1⟩ := blk2 hB
  have hle := Wire.num_le s.rest
  have hlt := Wire.num_lt s.rest
  have hbad := Wire.num_bad s.rest
  obtain ⟨rest, err⟩ := s
  simp only [Wire.St.numV, Wire.St.numS] at *
  have hnum := number_at A rest n cap h1 (by omega) w hr
  rcases hq : Wire.num rest with ⟨v, k, e⟩
  rw [hq] at hle hlt hbad hnum
  simp only at hle hlt hbad hnum
  have HL := Lib.hid h1
  have HV := Lib.hid hlt
  clear h1 hlt hq
  have hk : k ≤ n := by rw [HL.out] at hle; exact hle
  clear hle
  by_cases he : e = 0
  · subst he
    obtain ⟨A', hcut, hr', hAA⟩ := run_cutH (g := g) hr HL.out hk h2 ha
    have HK := Lib.hid hk
    clear hk
    go_enter Tryz.func88, Tryz.ntmps88
    go_wp2_with fail
    refine hnum.mono ?_
    rintro e w1 ⟨rfl, rfl⟩
    go_wp2_with fail
    go_ret
    refine ⟨rfl, ?_, (Touch.refl _ _).set_ _ _⟩
    have hT : Touch g w (w.setCell ⟨g, 0, none⟩ (.slice A' (n - k) (cap - k))) := (Touch.refl _ _).set_ _ _
    exact ⟨A', n - k, cap - k, hB.put 0 _, by simp [HL.out], by omega, by omega, hT.rd hr' (rd_apart hB hr'), hAA⟩
  · have hb := hbad he
    obtain ⟨rfl, rfl, _⟩ := hb
    clear hbad
    have hd : ((e : Int) != 0) = true := by simpa using he
    go_enter Tryz.func88, Tryz.ntmps88
    go_wp2_with fail
    refine hnum.mono ?_
    rintro e1 w1 ⟨rfl, rfl⟩
    go_wp2_with fail
    refine (fail_at w g ⟨rest, err⟩ h0 _).mono ?_
    rintro e1 w1 ⟨rfl, hs1, ht1⟩
    go_wp2_with fail
    go_ret
    exact ⟨rfl, hs1, ht1⟩
theorem unfold_eq (n : Nat) (h : n < 2 ^ 64) : bits .xor .i64 (wrap64 ((n : Int) / 2)) (wrap64 (IntKind.u64.wrap ((n : Int) * 9223372036854775808)) / 9223372036854775808) = Wire.zag n := by
  rw [IntKind.wrap_u64]
  unfold wrap64
  unfold Wire.zag
  have e1 : ((n : Int) / 2 + 9223372036854775808) % 18446744073709551616 - 9223372036854775808 = ((n / 2 : Nat) : Int) := by omega
  rw [e1]
  by_cases h1 : n % 2 = 1
  · rw [if_pos h1, show ((n : Int) * 9223372036854775808 % 18446744073709551616 + 9223372036854775808) % 18446744073709551616 - 9223372036854775808 = -9223372036854775808 by omega]
    have := Lib.i64_not (n / 2) (by omega)
    rw [show (-9223372036854775808 : Int) / 9223372036854775808 = -1 from rfl]
    have hc : bits .xor .i64 ((n / 2 : Nat) : Int) (-1) = bits .xor .i64 (-1) ((n / 2 : Nat) : Int) := by
      unfold bits; simp only [BitVec.xor_comm]
    rw [hc, this]; omega
  · rw [if_neg h1, show ((n : Int) * 9223372036854775808 % 18446744073709551616 + 9223372036854775808) % 18446744073709551616 - 9223372036854775808 = 0 by omega]
    rw [show (0 : Int) / 9223372036854775808 = 0 from rfl]
    show IntKind.i64.wrap ((BitVec.ofInt 64 ((n / 2 : Nat) : Int) ^^^ BitVec.ofInt 64 0).toNat : Int) = _
    have h2 : (BitVec.ofInt 64 ((n / 2 : Nat) : Int)).toNat = n / 2 := by
      rw [BitVec.ofInt_natCast, BitVec.toNat_ofNat]; exact Nat.mod_eq_of_lt (by omega)
    have h3 : (BitVec.ofInt 64 0).toNat = 0 := rfl
    rw [BitVec.toNat_xor, h2, h3, Nat.xor_zero, IntKind.wrap_i64]
    omega
theorem unfolded_any (n : Nat) (h : n < 2 ^ 64) (w : World) :
    Calls Tryz.prog 170 #[.int .u64 (n : Int)] w fun e w' => e = .returned (.int .i64 (Wire.zag n)) ∧ w = w' := by
  have HE := Lib.hid (unfold_eq n h)
  clear h
  go_enter Tryz.func170, Tryz.ntmps170
  go_wp2
  go_ret
  refine ⟨?_, rfl⟩
  exact ret_int HE.out
theorem int_at (w : World) (g : Nat) (s : Wire.St) (h : Sc w g 77 s) :
    Calls Tryz.prog 151 #[.pointer (some ⟨g, 0, none⟩)] w (Reads w g 77 (.int .i64 (Wire.zag s.numV)) s.numS) := by
  have HV := Lib.hid (Wire.num_lt s.rest)
  go_enter Tryz.func151, Tryz.ntmps151
  go_wp2_with fail
  refine (num_at w g s h).mono ?_
  rintro e w1 ⟨rfl, hs1, ht1⟩
  go_wp2_with fail
  refine (unfolded_any s.numV HV.out _).mono ?_
  rintro e w2 ⟨rfl, rfl⟩
  go_wp2_with fail
  go_ret
  exact ⟨rfl, hs1, ht1⟩
set_option maxRecDepth 100000 in
set_option maxHeartbeats 800000 in
theorem upto_at (w : World) (g : Nat) (s : Wire.St) (h : Sc w g 77 s) (m : Int) (hm1 : -9223372036854775808 ≤ m) (hm2 : m ≤ 9223372036854775807) :
    Calls Tryz.prog 56 #[.pointer (some ⟨g, 0, none⟩), .int .i64 m] w (Reads w g 77 (.int .i64 (s.uptoV m : Int)) (s.uptoS m)) := by
  have hn := num_at w g s h
  unfold Wire.St.uptoV Wire.St.uptoS Wire.St.over
  have HV : Hid (s.numV < 2 ^ 64) := Wire.num_lt s.rest
  generalize s.numS = s1 at *
  generalize s.numV = v at *
  by_cases h0 : m < 0
  · have hd : decide (m < 0) = true := by simpa using h0
    rw [hd, Bool.true_or, if_pos rfl, if_pos rfl]
    go_enter Tryz.func56, Tryz.ntmps56
    go_wp2_with fail
    refine hn.mono ?_
    rintro e w1 ⟨rfl, hs1, ht1⟩
    go_wp2_with fail
    refine (fail_at w1 g s1 hs1 _).mono ?_
    rintro e w2 ⟨rfl, hs2, ht2⟩
    go_wp2_with fail
    go_ret
    exact ⟨rfl, hs2, ht1.trans ht2⟩
  · obtain ⟨k, rfl⟩ := Int.eq_ofNat_of_zero_le (show 0 ≤ m by omega)
    have hd : decide ((k : Int) < 0) = false := by simp
    rw [hd, Bool.false_or]
    have hk : k ≤ 9223372036854775807 := by omega
    clear hm1 hm2 h0
    by_cases hv : k < v
    · have hd2 : decide ((k : Int) < (v : Int)) = true := by simpa using hv
      have hd3 : decide (k < v) = true := by simpa using hv
      rw [hd2, if_pos rfl, if_pos rfl]
      go_enter Tryz.func56, Tryz.ntmps56
      go_wp2_with fail
      refine hn.mono ?_
      rintro e w1 ⟨rfl, hs1, ht1⟩
      go_wp2_with fail
      refine (fail_at w1 g s1 hs1 _).mono ?_
      rintro e w2 ⟨rfl, hs2, ht2⟩
      go_wp2_with fail
      go_ret
      exact ⟨rfl, hs2, ht1.trans ht2⟩
    · have hd2 : decide ((k : Int) < (v : Int)) = false := by simpa using hv
      have hd3 : decide (k < v) = false := by simpa using hv
      have hv2 : v ≤ k := by omega
      rw [hd2, if_neg (by simp), if_neg (by simp)]
      go_enter Tryz.func56, Tryz.ntmps56
      go_wp2_with fail
      refine hn.mono ?_
      rintro e w1 ⟨rfl, hs1, ht1⟩
      go_wp2_with fail
      go_ret
      exact ⟨rfl, hs1, ht1⟩
set_option maxRecDepth 100000 in
set_option maxHeartbeats 800000 in
theorem text_at (w : World) (g : Nat) (s : Wire.St) (h : Sc w g 77 s) (m : Int) (hm1 : -9223372036854775808 ≤ m) (hm2 : m ≤ 9223372036854775807) :
    Calls Tryz.prog 130 #[.pointer (some ⟨g, 0, none⟩), .int .i64 m] w (Reads w g 77 (.string ⟨(s.textV m).toArray⟩) (s.textS m)) := by
  have hu := upto_at w g s h m hm1 hm2
  unfold Wire.St.textV Wire.St.textS
  generalize s.uptoS m = s1 at *
  have hk : s.uptoV m ≤ 9223372036854775807 := by
    unfold Wire.St.uptoV Wire.St.over
    split
    · omega
    · rename_i h
      simp at h
      omega
  generalize s.uptoV m = k at *
  by_cases hlt : s1.rest.length < k
  · rw [if_pos hlt, if_pos hlt]
    go_enter Tryz.func130, Tryz.ntmps130
    go_wp2_with fail
    refine hu.mono ?_
    rintro e w1 ⟨rfl, hs1, ht1⟩
    have hs0 := hs1
    obtain ⟨A, n, cap, hB, h1, h2, h3, hr, ha⟩ := hs1
    obtain ⟨c0, c1, f0, f1⟩ := blk2 hB
    rw [h1] at hlt
    clear h1
    have hd : decide (n < k) = true := by simpa using hlt
    go_wp2_with fail
    refine (fail_at w1 g s1 hs0 _).mono ?_
    rintro e w2 ⟨rfl, hs2, ht2⟩
    go_wp2_with fail
    go_ret
    exact ⟨rfl, hs2, ht1.trans ht2⟩
  · rw [if_neg hlt, if_neg hlt]
    go_enter Tryz.func130, Tryz.ntmps130
    go_wp2_with fail
    refine hu.mono ?_
    rintro e w1 ⟨rfl, hs1, ht1⟩
    obtain ⟨A, n, cap, hB, h1, h2, h3, hr, ha⟩ := hs1
    obtain ⟨c0, c1, f0, f1⟩ := blk2 hB
    rw [h1] at hlt
    have HL := Lib.hid h1
    clear h1
    have hd : decide (n < k) = false := by simpa using hlt
    have hkn : k ≤ n := by omega
    obtain ⟨A', hcut, hr', hAA⟩ := run_cutH (g := g) hr HL.out hkn h2 ha
    have hhd := run_head A n cap k hkn h2
    have hst := run_str (P := Tryz.prog) w1 A (s1.rest.take k) k cap (hr.take k) (by rw [List.length_take, HL.out]; omega) 24 5 9 Tryz.underlying24 Tryz.underlying5 Tryz.underlying9
    have HK := Lib.hid hkn
    clear hkn hlt
    go_wp2_with fail
    go_ret
    refine ⟨rfl, ?_, ht1.set_ _ _⟩
    have hT : Touch g w1 (w1.setCell ⟨g, 0, none⟩ (.slice A' (n - k) (cap - k))) := (Touch.refl _ _).set_ _ _
    exact ⟨A', n - k, cap - k, hB.put 0 _, by simp [HL.out], by have := HK.out; omega, by omega, hT.rd hr' (rd_apart hB hr'), hAA⟩
theorem upto_is (w : World) (g : Nat) (s s' : Wire.St) (v : Nat) (h : Sc w g 77 s) (m : Int) (hm1 : -9223372036854775808 ≤ m) (hm2 : m ≤ 9223372036854775807) (hv : s.uptoV m = v) (hs : s.uptoS m = s') :
    Calls Tryz.prog 56 #[.pointer (some ⟨g, 0, none⟩), .int .i64 m] w (Reads w g 77 (.int .i64 (v : Int)) s') := by
  subst hv; subst hs; exact upto_at w g s h m hm1 hm2
/-- One scan's reading leaves another one as it was. -/
theorem Touch.sc {g g' : Nat} {T T' : TypeId} {w w' : World} {s s' : Wire.St} (h : Touch g w w') (hg : Sc w g T s) (hg' : Sc w g' T' s') (hne : g' ≠ g) : Sc w' g' T' s' := by
  obtain ⟨A, n, cap, hB, _⟩ := hg
  obtain ⟨A', n', cap', hB', h1, h2, h3, hr, ha⟩ := hg'
  exact ⟨A', n', cap', h.blk hB' hne, h1, h2, h3, h.rd hr (rd_apart hB hr), ha⟩
end Go.Proofs.YtlbendiggdmljaaGreat
namespace Go.Proofs.YtlbendiggdmljaaGreat
open Go.RowKit
/-- New bytes, told as a slice. -/
def Lays (w : World) (bs : List UInt8) (L : Nat) (e : Ending) (w' : World) : Prop := ∃ D c, e = .returned (.slice D L c) ∧ L ≤ c ∧ Below w.heap.size w w' ∧ Rd w' D bs
set_option maxRecDepth 100000 in
theorem vput_wrong (A : Option Addr) (bs : List UInt8) (n cap : Nat) (k i : Int) (t : List UInt8) (hn : bs.length = n) (hl : n ≤ 140737488355328) (ht : t.length ≤ 9223372036854775807) (w : World) (hr : Rd w A bs) (hw : Vals.right k i t = false) :
    Calls Tryz.prog 127 #[.slice A n cap, .agg #[.int .i64 k, .int .i64 i, .string ⟨t.toArray⟩]] w (Lays w bs n) := by
  obtain ⟨i0, hi0, hz0, hz1, hz2⟩ := info_parts byte_info
  have HW := Lib.hid hw
  have HN := Lib.hid hn
  clear hw hn
  go_enter Tryz.func127, Tryz.ntmps127
  go_wp2_with fail
  obtain ⟨hB, hb0⟩ := box3 w 33 (.int .i64 k) (.int .i64 i) (.string ⟨t.toArray⟩)
  generalize w.alloc (.cells #[.int .i64 k, .int .i64 i, .string ⟨t.toArray⟩] 33) = w0 at *
  refine (right_is k i t w0 ht false HW.out).mono ?_
  rintro e w1 ⟨rfl, hb1⟩
  have hb1w := hb0.trans (hb1.mono hb0.size)
  have hr1 := (hr.below hb1w).below ((Below.refl _ _).alloc (Nat.le_refl _) (.cells #[] 5))
  clear hB hb0 hb1
  go_wp2_with (at_builtin; refine wpList_append_rd rfl (.tmp 9) (.tmp 10) 24 rfl w1.heap.size 5 i0 Tryz.underlying24 hi0 hz0 hz1 hz2 _ [] (by rfl) (Own.empty w1 w1.heap.size 5 (Nat.le_refl _)) A bs n cap (by rfl) hr1 HN.out (by simp; omega) (by simp) ?_; intro v2 w2 hO2 hb2' _ _)
  rw [List.nil_append] at hO2
  have hb2 := hb2' w1 ((Below.refl _ _).alloc (Nat.le_refl _) _)
  obtain ⟨D, c, rfl, hc, hr2⟩ := hO2.rd
  rw [HN.out] at hc
  go_ret
  rw [HN.out]
  exact ⟨D, c, rfl, hc, hb1w.trans (hb2.mono hb1w.size), hr2⟩
set_option maxRecDepth 100000 in
theorem vput_int (A : Option Addr) (bs : List UInt8) (n cap L : Nat) (i : Int) (hn : bs.length = n) (hL : n + (Wire.put 1 ++ Wire.put (Wire.zig i)).length = L) (hl : L ≤ 140737488355328) (h1 : -9223372036854775808 ≤ i) (h2 : i ≤ 9223372036854775807) (w : World) (hr : Rd w A bs) :
    Calls Tryz.prog 127 #[.slice A n cap, .agg #[.int .i64 1, .int .i64 i, .string ⟨#[]⟩]] w (Lays w (bs ++ (Wire.put 1 ++ Wire.put (Wire.zig i))) L) := by
  have HN := Lib.hid hn
  have HL := Lib.hid hL
  have HP := Lib.hid (Wire.put_lo 1 (by decide))
  have HL1 : Hid (n + (Wire.put 1).length = n + 1) := by show _ = _; rw [HP.out]; rfl
  have hL' : n + 1 + (Wire.put (Wire.zig i)).length = L := by rw [HP.out] at hL; simp at hL ⊢; omega
  have HL' := Lib.hid hL'
  have hl1 : n + 1 ≤ 140737488355328 := by omega
  clear hL hL' hn
  go_enter Tryz.func127, Tryz.ntmps127
  go_wp2_with fail
  obtain ⟨hB, hb0⟩ := box3 w 33 (.int .i64 1) (.int .i64 i) (.string ⟨#[]⟩)
  generalize w.alloc (.cells #[.int .i64 1, .int .i64 i, .string ⟨#[]⟩] 33) = w0 at *
  refine (right_is 1 (i) [] w0 (by simp) true rfl).mono ?_
  rintro e w1 ⟨rfl, hb1⟩
  have hb1w := hb0.trans (hb1.mono hb0.size)
  obtain ⟨c0, c1, c2, f0, f1, f2⟩ := blk3 (hB.below hb1 hB.lt)
  have hB1 := hB.below hb1 hB.lt
  have hr1 := hr.below hb1w
  clear hB hb0 hb1
  go_wp2_with fail
  refine (put_at A bs n cap 1 (n + 1) HN.out HL1.out (by decide) hl1 w1 hr1).mono ?_
  rintro e w2 ⟨g2, rfl, hg2, hb2, hB2⟩
  have hb2w := hb1w.trans (hb2.mono hb1w.size)
  clear c0 c1 c2 f0 f1 f2
  obtain ⟨c0, c1, c2, f0, f1, f2⟩ := blk3 (hB1.below hb2 hB1.lt)
  have HN2 : Hid ((bs ++ Wire.put 1).length = n + 1) := by show _ = _; rw [List.length_append, HN.out, HP.out]; rfl
  clear hb1w hr1 hB1
  go_wp2_with fail
  refine (putInt_at (some ⟨g2, 0, none⟩) (bs ++ Wire.put 1) (n + 1) (n + 1) L i HN2.out HL'.out h1 h2 hl w2 hB2.rd).mono ?_
  rintro e w3 ⟨g3, rfl, hg3, hb3, hB3⟩
  go_wp2_with fail
  go_ret
  exact ⟨_, _, rfl, Nat.le_refl _, hb2w.trans (hb3.mono hb2w.size), by rw [← List.append_assoc]; exact hB3.rd⟩
set_option maxRecDepth 100000 in
theorem vput_text (A : Option Addr) (bs : List UInt8) (n cap L : Nat) (t : List UInt8) (hn : bs.length = n) (hL : n + (Wire.put 2 ++ Wire.text t).length = L) (hl : L ≤ 140737488355328) (ht : t.length ≤ 64) (w : World) (hr : Rd w A bs) :
    Calls Tryz.prog 127 #[.slice A n cap, .agg #[.int .i64 2, .int .i64 0, .string ⟨t.toArray⟩]] w (Lays w (bs ++ (Wire.put 2 ++ Wire.text t)) L) := by
  have HN := Lib.hid hn
  have HL := Lib.hid hL
  have HP := Lib.hid (Wire.put_lo 2 (by decide))
  have HL1 : Hid (n + (Wire.put 2).length = n + 1) := by show _ = _; rw [HP.out]; rfl
  have hL' : n + 1 + (Wire.text t).length = L := by rw [HP.out] at hL; simp at hL ⊢; omega
  have HL' := Lib.hid hL'
  have hl1 : n + 1 ≤ 140737488355328 := by omega
  clear hL hL' hn
  go_enter Tryz.func127, Tryz.ntmps127
  go_wp2_with fail
  obtain ⟨hB, hb0⟩ := box3 w 33 (.int .i64 2) (.int .i64 0) (.string ⟨t.toArray⟩)
  generalize w.alloc (.cells #[.int .i64 2, .int .i64 0, .string ⟨t.toArray⟩] 33) = w0 at *
  refine (right_is 2 (0) t w0 (by omega) true (by simp [Vals.right, ht])).mono ?_
  rintro e w1 ⟨rfl, hb1⟩
  have hb1w := hb0.trans (hb1.mono hb0.size)
  obtain ⟨c0, c1, c2, f0, f1, f2⟩ := blk3 (hB.below hb1 hB.lt)
  have hB1 := hB.below hb1 hB.lt
  have hr1 := hr.below hb1w
  clear hB hb0 hb1
  go_wp2_with fail
  refine (put_at A bs n cap 2 (n + 1) HN.out HL1.out (by decide) hl1 w1 hr1).mono ?_
  rintro e w2 ⟨g2, rfl, hg2, hb2, hB2⟩
  have hb2w := hb1w.trans (hb2.mono hb1w.size)
  clear c0 c1 c2 f0 f1 f2
  obtain ⟨c0, c1, c2, f0, f1, f2⟩ := blk3 (hB1.below hb2 hB1.lt)
  have HN2 : Hid ((bs ++ Wire.put 2).length = n + 1) := by show _ = _; rw [List.length_append, HN.out, HP.out]; rfl
  clear hb1w hr1 hB1
  go_wp2_with fail
  refine (putText_at (some ⟨g2, 0, none⟩) (bs ++ Wire.put 2) t (n + 1) (n + 1) t.length L HN2.out rfl HL'.out hl w2 hB2.rd).mono ?_
  rintro e w3 ⟨g3, rfl, hg3, hb3, hB3⟩
  go_wp2_with fail
  go_ret
  exact ⟨_, _, rfl, Nat.le_refl _, hb2w.trans (hb3.mono hb2w.size), by rw [← List.append_assoc]; exact hB3.rd⟩
set_option maxRecDepth 100000 in
theorem vput_off (A : Option Addr) (bs : List UInt8) (n cap L : Nat)  (hn : bs.length = n) (hL : n + (Wire.put 3 ++ Wire.put 0).length = L) (hl : L ≤ 140737488355328)  (w : World) (hr : Rd w A bs) :
    Calls Tryz.prog 127 #[.slice A n cap, .agg #[.int .i64 3, .int .i64 0, .string ⟨#[]⟩]] w (Lays w (bs ++ (Wire.put 3 ++ Wire.put 0)) L) := by
  have HN := Lib.hid hn
  have HL := Lib.hid hL
  have HP := Lib.hid (Wire.put_lo 3 (by decide))
  have HL1 : Hid (n + (Wire.put 3).length = n + 1) := by show _ = _; rw [HP.out]; rfl
  have hL' : n + 1 + (Wire.put 0).length = L := by rw [HP.out] at hL; simp at hL ⊢; omega
  have HL' := Lib.hid hL'
  have hl1 : n + 1 ≤ 140737488355328 := by omega
  clear hL hL' hn
  go_enter Tryz.func127, Tryz.ntmps127
  go_wp2_with fail
  obtain ⟨hB, hb0⟩ := box3 w 33 (.int .i64 3) (.int .i64 0) (.string ⟨#[]⟩)
  generalize w.alloc (.cells #[.int .i64 3, .int .i64 0, .string ⟨#[]⟩] 33) = w0 at *
  refine (right_is 3 (0) [] w0 (by simp) true rfl).mono ?_
  rintro e w1 ⟨rfl, hb1⟩
  have hb1w := hb0.trans (hb1.mono hb0.size)
  obtain ⟨c0, c1, c2, f0, f1, f2⟩ := blk3 (hB.below hb1 hB.lt)
  have hB1 := hB.below hb1 hB.lt
  have hr1 := hr.below hb1w
  clear hB hb0 hb1
  go_wp2_with fail
  refine (put_at A bs n cap 3 (n + 1) HN.out HL1.out (by decide) hl1 w1 hr1).mono ?_
  rintro e w2 ⟨g2, rfl, hg2, hb2, hB2⟩
  have hb2w := hb1w.trans (hb2.mono hb1w.size)
  clear c0 c1 c2 f0 f1 f2
  obtain ⟨c0, c1, c2, f0, f1, f2⟩ := blk3 (hB1.below hb2 hB1.lt)
  have HN2 : Hid ((bs ++ Wire.put 3).length = n + 1) := by show _ = _; rw [List.length_append, HN.out, HP.out]; rfl
  clear hb1w hr1 hB1
  go_wp2_with fail
  refine (put_at (some ⟨g2, 0, none⟩) (bs ++ Wire.put 3) (n + 1) (n + 1) 0 L HN2.out HL'.out (by decide) hl w2 hB2.rd).mono ?_
  rintro e w3 ⟨g3, rfl, hg3, hb3, hB3⟩
  go_wp2_with fail
  go_ret
  exact ⟨_, _, rfl, Nat.le_refl _, hb2w.trans (hb3.mono hb2w.size), by rw [← List.append_assoc]; exact hB3.rd⟩
set_option maxRecDepth 100000 in
theorem vput_on (A : Option Addr) (bs : List UInt8) (n cap L : Nat)  (hn : bs.length = n) (hL : n + (Wire.put 3 ++ Wire.put 1).length = L) (hl : L ≤ 140737488355328)  (w : World) (hr : Rd w A bs) :
    Calls Tryz.prog 127 #[.slice A n cap, .agg #[.int .i64 3, .int .i64 1, .string ⟨#[]⟩]] w (Lays w (bs ++ (Wire.put 3 ++ Wire.put 1)) L) := by
  have HN := Lib.hid hn
  have HL := Lib.hid hL
  have HP := Lib.hid (Wire.put_lo 3 (by decide))
  have HL1 : Hid (n + (Wire.put 3).length = n + 1) := by show _ = _; rw [HP.out]; rfl
  have hL' : n + 1 + (Wire.put 1).length = L := by rw [HP.out] at hL; simp at hL ⊢; omega
  have HL' := Lib.hid hL'
  have hl1 : n + 1 ≤ 140737488355328 := by omega
  clear hL hL' hn
  go_enter Tryz.func127, Tryz.ntmps127
  go_wp2_with fail
  obtain ⟨hB, hb0⟩ := box3 w 33 (.int .i64 3) (.int .i64 1) (.string ⟨#[]⟩)
  generalize w.alloc (.cells #[.int .i64 3, .int .i64 1, .string ⟨#[]⟩] 33) = w0 at *
  refine (right_is 3 (1) [] w0 (by simp) true rfl).mono ?_
  rintro e w1 ⟨rfl, hb1⟩
  have hb1w := hb0.trans (hb1.mono hb0.size)
  obtain ⟨c0, c1, c2, f0, f1, f2⟩ := blk3 (hB.below hb1 hB.lt)
  have hB1 := hB.below hb1 hB.lt
  have hr1 := hr.below hb1w
  clear hB hb0 hb1
  go_wp2_with fail
  refine (put_at A bs n cap 3 (n + 1) HN.out HL1.out (by decide) hl1 w1 hr1).mono ?_
  rintro e w2 ⟨g2, rfl, hg2, hb2, hB2⟩
  have hb2w := hb1w.trans (hb2.mono hb1w.size)
  clear c0 c1 c2 f0 f1 f2
  obtain ⟨c0, c1, c2, f0, f1, f2⟩ := blk3 (hB1.below hb2 hB1.lt)
  have HN2 : Hid ((bs ++ Wire.put 3).length = n + 1) := by show _ = _; rw [List.length_append, HN.out, HP.out]; rfl
  clear hb1w hr1 hB1
  go_wp2_with fail
  refine (put_at (some ⟨g2, 0, none⟩) (bs ++ Wire.put 3) (n + 1) (n + 1) 1 L HN2.out HL'.out (by decide) hl w2 hB2.rd).mono ?_
  rintro e w3 ⟨g3, rfl, hg3, hb3, hB3⟩
  go_wp2_with fail
  go_ret
  exact ⟨_, _, rfl, Nat.le_refl _, hb2w.trans (hb3.mono hb2w.size), by rw [← List.append_assoc]; exact hB3.rd⟩
theorem vput_at (A : Option Addr) (bs : List UInt8) (n cap L : Nat) (k i : Int) (t : List UInt8) (hn : bs.length = n) (hL : n + (Vals.lay k i t).length = L) (hl : L ≤ 140737488355328) (h1 : -9223372036854775808 ≤ i) (h2 : i ≤ 9223372036854775807) (ht : t.length ≤ 9223372036854775807) (w : World) (hr : Rd w A bs) :
    Calls Tryz.prog 127 #[.slice A n cap, .agg #[.int .i64 k, .int .i64 i, .string ⟨t.toArray⟩]] w (Lays w (bs ++ Vals.lay k i t) L) := by
  cases h : Vals.right k i t with
  | false =>
    have e : Vals.lay k i t = [] := by unfold Vals.lay; rw [h]; rfl
    rw [e] at hL ⊢
    rw [List.append_nil]
    simp only [List.length_nil, Nat.add_zero] at hL
    subst hL
    exact vput_wrong A bs n cap k i t hn hl ht w hr h
  | true =>
    have e : Vals.lay k i t = Vals.bytes k i t := by unfold Vals.lay; rw [if_pos h]
    rw [e] at hL ⊢
    unfold Vals.bytes at hL ⊢
    rcases Vals.right_cases h with ⟨rfl, rfl⟩ | ⟨rfl, rfl, ht'⟩ | ⟨rfl, rfl, rfl | rfl⟩
    · rw [if_pos rfl] at hL ⊢
      exact vput_int A bs n cap L i hn hL hl h1 h2 w hr
    · rw [if_neg (by decide), if_pos rfl] at hL ⊢
      exact vput_text A bs n cap L t hn hL hl ht' w hr
    · rw [if_neg (by decide), if_neg (by decide)] at hL ⊢
      exact vput_off A bs n cap L hn hL hl w hr
    · rw [if_neg (by decide), if_neg (by decide)] at hL ⊢
      exact vput_on A bs n cap L hn hL hl w hr
end Go.Proofs.YtlbendiggdmljaaGreat
namespace Go.Proofs.YtlbendiggdmljaaGreat
open Go.RowKit
theorem Touch.new_ {g : Nat} {a w : World} (h : Touch g a w) {b j : Nat} {v : Value} (hb : a.heap.size ≤ b) : Touch g a (w.setCell ⟨b, j, none⟩ v) :=
  ⟨h.os, h.tape, h.output, by simpa using h.size, fun k hk hne => (heap_setCell_other w ⟨b, j, none⟩ k v (by show k ≠ b; omega)).trans (h.block k hk hne)⟩
/-- A row of a value's three cells holds no byte. -/
theorem rd_apart3 {w : World} {g : Nat} {t : TypeId} {x y : Int} {z : ByteArray} {A : Option Addr} {bs : List UInt8} (hB : Blk w g t #[.int .i64 x, .int .i64 y, .string z]) (hr : Rd w A bs) (off : Nat) : A ≠ some ⟨g, off, none⟩ ∨ bs = [] := by
  rcases hr with rfl | ⟨g', off', rfl, hg, hc⟩
  · exact .inr rfl
  · by_cases h0 : bs = []
    · exact .inr h0
    · refine .inl fun e => ?_
      cases e
      have hl : 0 < bs.length := List.length_pos_iff.2 h0
      have h := hc 0 hl
      rw [hB.cell] at h
      rcases off with _ | _ | _ | off
      · simp at h
      · simp at h
      · simp at h
      · simp at h
theorem Sc.far3 {w : World} {g b : Nat} {t t' : TypeId} {s : Wire.St} {x y : Int} {z : ByteArray} (h : Sc w g t s) (hB : Blk w b t' #[.int .i64 x, .int .i64 y, .string z]) (hne : g ≠ b) (j : Nat) (u : Value) : Sc (w.setCell ⟨b, j, none⟩ u) g t s := by
  obtain ⟨A, n, cap, hG, h1, h2, h3, hr, ha⟩ := h
  exact ⟨A, n, cap, hG.far (p := ⟨b, j, none⟩) hne u, h1, h2, h3, ((Touch.refl b w).set_ j u).rd hr (rd_apart3 hB hr), ha⟩
theorem Sc.set3 {w : World} {g b : Nat} {t t' : TypeId} {s : Wire.St} {x y x' y' : Int} {z z' : ByteArray} (h : Sc w g t s) (hB : Blk w b t' #[.int .i64 x, .int .i64 y, .string z]) (hne : g ≠ b) :
    Sc (((w.setCell ⟨b, 0, none⟩ (.int .i64 x')).setCell ⟨b, 1, none⟩ (.int .i64 y')).setCell ⟨b, 2, none⟩ (.string z')) g t s := by
  have b1 : Blk (w.setCell ⟨b, 0, none⟩ (.int .i64 x')) b t' #[.int .i64 x', .int .i64 y, .string z] := by simpa using hB.put 0 (.int .i64 x')
  have b2 : Blk ((w.setCell ⟨b, 0, none⟩ (.int .i64 x')).setCell ⟨b, 1, none⟩ (.int .i64 y')) b t' #[.int .i64 x', .int .i64 y', .string z] := by simpa using b1.put 1 (.int .i64 y')
  exact ((h.far3 hB hne 0 _).far3 b1 hne 1 _).far3 b2 hne 2 _
theorem Touch.set3 {g b : Nat} {a w : World} (h : Touch g a w) (hb : a.heap.size ≤ b) (x y z : Value) : Touch g a (((w.setCell ⟨b, 0, none⟩ x).setCell ⟨b, 1, none⟩ y).setCell ⟨b, 2, none⟩ z) :=
  ((h.new_ hb).new_ hb).new_ hb
set_option maxRecDepth 100000 in
set_option maxHeartbeats 800000 in
theorem vget_int (w : World) (g : Nat) (s : Wire.St) (h : Sc w g 77 s) (hv : s.uptoV 3 = 1) (K I : Int) (Tx : List UInt8) (s' : Wire.St) (hK : Vals.getK s = K) (hI : Vals.getI s = I) (hTx : Vals.getT s = Tx) (hs' : Vals.getS s = s') :
    Calls Tryz.prog 131 #[.pointer (some ⟨g, 0, none⟩)] w (Reads w g 77 (.agg #[.int .i64 K, .int .i64 I, .string ⟨Tx.toArray⟩]) s') := by
  have HV := Lib.hid hv
  have HK := Lib.hid hK
  have HI := Lib.hid hI
  have HT := Lib.hid hTx
  have eS : Vals.getS s = (s.uptoS 3).numS := by unfold Vals.getS; rw [HV.out]; rfl
  obtain rfl := eS.symm.trans hs'
  clear hv hK hI hTx hs'
  have hg := h.lt
  have h0 := h.below ((Below.refl _ _).alloc (Nat.le_refl _) (.cells #[.int .i64 0, .int .i64 0, .string ⟨#[]⟩] 33))
  obtain ⟨hB, hb0⟩ := box3 w 33 (.int .i64 0) (.int .i64 0) (.string ⟨#[]⟩)
  go_enter Tryz.func131, Tryz.ntmps131
  go_wp2_with fail
  generalize w.alloc (.cells #[.int .i64 0, .int .i64 0, .string ⟨#[]⟩] 33) = w0 at *
  refine (upto_is _ g s _ 1 h0 3 (by decide) (by decide) HV.out rfl).mono ?_
  rintro e w1 ⟨rfl, h1, hT1⟩
  have hR1 := hT1.blk hB (by omega)
  have hT1w := (Touch.of_below (g := g) hb0).trans hT1
  go_wp2_with fail
  obtain ⟨hB2, hb2⟩ := box3 w1 33 (.int .i64 1) (.int .i64 0) (.string ⟨#[]⟩)
  have hgw1 : w.heap.size ≤ w1.heap.size := hT1w.size
  have hne : w.heap.size ≠ w1.heap.size := by have := hR1.lt; omega
  have hgv : g ≠ w1.heap.size := by omega
  have h2 := h1.below hb2
  have hR2 := hR1.below hb2 hR1.lt
  have hT2w := hT1w.trans (Touch.of_below (g := g) hb2)
  generalize w1.alloc (.cells #[.int .i64 1, .int .i64 0, .string ⟨#[]⟩] 33) = w2 at *
  clear hB h h0 hb0 hT1 hR1 hT1w h1 hb2
  refine (int_at w2 g _ h2).mono ?_
  rintro e w3 ⟨rfl, h3, hT3⟩
  have hB3 := hT3.blk hB2 (by omega)
  have hR3 := hT3.blk hR2 (by omega)
  have hT3w := hT2w.trans hT3
  clear hB2 hR2 hT2w hT3 h2
  obtain ⟨d0, d1, d2, e0, e1, e2⟩ := blk3 hB3
  have hB3v := hB3.put 1 (.int .i64 (Wire.zag (s.uptoS 3).numV))
  have h3' := h3.far3 hB3 hgv 1 (.int .i64 (Wire.zag (s.uptoS 3).numV))
  simp only [List.setIfInBounds_toArray, List.set_cons_zero, List.set_cons_succ] at hB3v
  have hT3' := hT3w.new_ (j := 1) (v := (.int .i64 (Wire.zag (s.uptoS 3).numV))) hgw1
  have hR3' := hR3.far (p := ⟨w1.heap.size, 1, none⟩) hne (.int .i64 (Wire.zag (s.uptoS 3).numV))
  clear hB3 hT3w hR3 h3
  go_wp2_with fail
  clear d0 d1 d2 e0 e1 e2
  generalize w3.setCell ⟨w1.heap.size, 1, none⟩ (.int .i64 (Wire.zag (s.uptoS 3).numV)) = w4 at *
  by_cases hz : ((s.uptoS 3).numS).err = 0
  · have HZ : Hid (((s.uptoS 3).numS).err = 0) := hz
    clear hz
    obtain rfl : (1 : Int) = K := by rw [← HK.out]; unfold Vals.getK; rw [eS, if_pos HZ.out, HV.out]; rfl
    obtain rfl : (Wire.zag (s.uptoS 3).numV) = I := by rw [← HI.out]; unfold Vals.getI; rw [eS, if_pos HZ.out, HV.out]; rfl
    obtain rfl : [] = Tx := by rw [← HT.out]; unfold Vals.getT; rw [eS, if_pos HZ.out, HV.out]; rfl
    refine (err_at w4 g ((s.uptoS 3).numS) h3' _ HZ.out).mono ?_
    rintro e w5 ⟨rfl, rfl⟩
    obtain ⟨c0, c1, c2, f0, f1, f2⟩ := blk3 hB3v
    obtain ⟨d0, d1, d2, e0, e1, e2⟩ := blk3 hR3'
    clear hB3v
    go_wp2_with fail
    refine bodyPost_ret (v := .agg #[(.int .i64 1), (.int .i64 (Wire.zag (s.uptoS 3).numV)), (.string ⟨#[]⟩)]) (by simp [results, Tryz.results131, go_sem, d0, d1, d2]) rfl ?_
    exact ⟨rfl, h3'.set3 hR3' (by omega), hT3'.set3 (Nat.le_refl _) _ _ _⟩
  · have HZ : Hid (((s.uptoS 3).numS).err ≠ 0) := hz
    have hd : ((((s.uptoS 3).numS).err) != 0) = true := by simpa using hz
    clear hz
    obtain rfl : (0 : Int) = K := by rw [← HK.out]; unfold Vals.getK; rw [eS, if_neg HZ.out]
    obtain rfl : (0 : Int) = I := by rw [← HI.out]; unfold Vals.getI; rw [eS, if_neg HZ.out]
    obtain rfl : [] = Tx := by rw [← HT.out]; unfold Vals.getT; rw [eS, if_neg HZ.out]
    refine (err_at w4 g ((s.uptoS 3).numS) h3' _ rfl).mono ?_
    rintro e w5 ⟨rfl, rfl⟩
    obtain ⟨d0, d1, d2, e0, e1, e2⟩ := blk3 hR3'
    clear hB3v
    go_wp2_with fail
    refine bodyPost_ret (v := .agg #[.int .i64 0, .int .i64 0, .string ⟨#[]⟩]) (by simp [results, Tryz.results131, go_sem, d0, d1, d2]) rfl ?_
    exact ⟨rfl, h3'.set3 hR3' (by omega), hT3'.set3 (Nat.le_refl _) _ _ _⟩
set_option maxRecDepth 100000 in
set_option maxHeartbeats 800000 in
theorem vget_text (w : World) (g : Nat) (s : Wire.St) (h : Sc w g 77 s) (hv : s.uptoV 3 = 2) (K I : Int) (Tx : List UInt8) (s' : Wire.St) (hK : Vals.getK s = K) (hI : Vals.getI s = I) (hTx : Vals.getT s = Tx) (hs' : Vals.getS s = s') :
    Calls Tryz.prog 131 #[.pointer (some ⟨g, 0, none⟩)] w (Reads w g 77 (.agg #[.int .i64 K, .int .i64 I, .string ⟨Tx.toArray⟩]) s') := by
  have HV := Lib.hid hv
  have HK := Lib.hid hK
  have HI := Lib.hid hI
  have HT := Lib.hid hTx
  have eS : Vals.getS s = (s.uptoS 3).textS 64 := by unfold Vals.getS; rw [HV.out]; rfl
  obtain rfl := eS.symm.trans hs'
  clear hv hK hI hTx hs'
  have hg := h.lt
  have h0 := h.below ((Below.refl _ _).alloc (Nat.le_refl _) (.cells #[.int .i64 0, .int .i64 0, .string ⟨#[]⟩] 33))
  obtain ⟨hB, hb0⟩ := box3 w 33 (.int .i64 0) (.int .i64 0) (.string ⟨#[]⟩)
  go_enter Tryz.func131, Tryz.ntmps131
  go_wp2_with fail
  generalize w.alloc (.cells #[.int .i64 0, .int .i64 0, .string ⟨#[]⟩] 33) = w0 at *
  refine (upto_is _ g s _ 2 h0 3 (by decide) (by decide) HV.out rfl).mono ?_
  rintro e w1 ⟨rfl, h1, hT1⟩
  have hR1 := hT1.blk hB (by omega)
  have hT1w := (Touch.of_below (g := g) hb0).trans hT1
  go_wp2_with fail
  obtain ⟨hB2, hb2⟩ := box3 w1 33 (.int .i64 2) (.int .i64 0) (.string ⟨#[]⟩)
  have hgw1 : w.heap.size ≤ w1.heap.size := hT1w.size
  have hne : w.heap.size ≠ w1.heap.size := by have := hR1.lt; omega
  have hgv : g ≠ w1.heap.size := by omega
  have h2 := h1.below hb2
  have hR2 := hR1.below hb2 hR1.lt
  have hT2w := hT1w.trans (Touch.of_below (g := g) hb2)
  generalize w1.alloc (.cells #[.int .i64 2, .int .i64 0, .string ⟨#[]⟩] 33) = w2 at *
  clear hB h h0 hb0 hT1 hR1 hT1w h1 hb2
  refine (text_at w2 g _ h2 64 (by decide) (by decide)).mono ?_
  rintro e w3 ⟨rfl, h3, hT3⟩
  have hB3 := hT3.blk hB2 (by omega)
  have hR3 := hT3.blk hR2 (by omega)
  have hT3w := hT2w.trans hT3
  clear hB2 hR2 hT2w hT3 h2
  obtain ⟨d0, d1, d2, e0, e1, e2⟩ := blk3 hB3
  have hB3v := hB3.put 2 (.string ⟨((s.uptoS 3).textV 64).toArray⟩)
  have h3' := h3.far3 hB3 hgv 2 (.string ⟨((s.uptoS 3).textV 64).toArray⟩)
  simp only [List.setIfInBounds_toArray, List.set_cons_zero, List.set_cons_succ] at hB3v
  have hT3' := hT3w.new_ (j := 2) (v := (.string ⟨((s.uptoS 3).textV 64).toArray⟩)) hgw1
  have hR3' := hR3.far (p := ⟨w1.heap.size, 2, none⟩) hne (.string ⟨((s.uptoS 3).textV 64).toArray⟩)
  clear hB3 hT3w hR3 h3
  go_wp2_with fail
  clear d0 d1 d2 e0 e1 e2
  generalize w3.setCell ⟨w1.heap.size, 2, none⟩ (.string ⟨((s.uptoS 3).textV 64).toArray⟩) = w4 at *
  by_cases hz : ((s.uptoS 3).textS 64).err = 0
  · have HZ : Hid (((s.uptoS 3).textS 64).err = 0) := hz
    clear hz
    obtain rfl : (2 : Int) = K := by rw [← HK.out]; unfold Vals.getK; rw [eS, if_pos HZ.out, HV.out]; rfl
    obtain rfl : (0 : Int) = I := by rw [← HI.out]; unfold Vals.getI; rw [eS, if_pos HZ.out, HV.out]; rfl
    obtain rfl : ((s.uptoS 3).textV 64) = Tx := by rw [← HT.out]; unfold Vals.getT; rw [eS, if_pos HZ.out, HV.out]; rfl
    refine (err_at w4 g ((s.uptoS 3).textS 64) h3' _ HZ.out).mono ?_
    rintro e w5 ⟨rfl, rfl⟩
    obtain ⟨c0, c1, c2, f0, f1, f2⟩ := blk3 hB3v
    obtain ⟨d0, d1, d2, e0, e1, e2⟩ := blk3 hR3'
    clear hB3v
    go_wp2_with fail
    refine bodyPost_ret (v := .agg #[(.int .i64 2), (.int .i64 0), (.string ⟨((s.uptoS 3).textV 64).toArray⟩)]) (by simp [results, Tryz.results131, go_sem, d0, d1, d2]) rfl ?_
    exact ⟨rfl, h3'.set3 hR3' (by omega), hT3'.set3 (Nat.le_refl _) _ _ _⟩
  · have HZ : Hid (((s.uptoS 3).textS 64).err ≠ 0) := hz
    have hd : ((((s.uptoS 3).textS 64).err) != 0) = true := by simpa using hz
    clear hz
    obtain rfl : (0 : Int) = K := by rw [← HK.out]; unfold Vals.getK; rw [eS, if_neg HZ.out]
    obtain rfl : (0 : Int) = I := by rw [← HI.out]; unfold Vals.getI; rw [eS, if_neg HZ.out]
    obtain rfl : [] = Tx := by rw [← HT.out]; unfold Vals.getT; rw [eS, if_neg HZ.out]
    refine (err_at w4 g ((s.uptoS 3).textS 64) h3' _ rfl).mono ?_
    rintro e w5 ⟨rfl, rfl⟩
    obtain ⟨d0, d1, d2, e0, e1, e2⟩ := blk3 hR3'
    clear hB3v
    go_wp2_with fail
    refine bodyPost_ret (v := .agg #[.int .i64 0, .int .i64 0, .string ⟨#[]⟩]) (by simp [results, Tryz.results131, go_sem, d0, d1, d2]) rfl ?_
    exact ⟨rfl, h3'.set3 hR3' (by omega), hT3'.set3 (Nat.le_refl _) _ _ _⟩
set_option maxRecDepth 100000 in
set_option maxHeartbeats 800000 in
theorem vget_bool (w : World) (g : Nat) (s : Wire.St) (h : Sc w g 77 s) (hv : s.uptoV 3 = 3) (K I : Int) (Tx : List UInt8) (s' : Wire.St) (hK : Vals.getK s = K) (hI : Vals.getI s = I) (hTx : Vals.getT s = Tx) (hs' : Vals.getS s = s') :
    Calls Tryz.prog 131 #[.pointer (some ⟨g, 0, none⟩)] w (Reads w g 77 (.agg #[.int .i64 K, .int .i64 I, .string ⟨Tx.toArray⟩]) s') := by
  have HV := Lib.hid hv
  have HK := Lib.hid hK
  have HI := Lib.hid hI
  have HT := Lib.hid hTx
  have eS : Vals.getS s = (s.uptoS 3).uptoS 1 := by unfold Vals.getS; rw [HV.out]; rfl
  obtain rfl := eS.symm.trans hs'
  clear hv hK hI hTx hs'
  have hg := h.lt
  have h0 := h.below ((Below.refl _ _).alloc (Nat.le_refl _) (.cells #[.int .i64 0, .int .i64 0, .string ⟨#[]⟩] 33))
  obtain ⟨hB, hb0⟩ := box3 w 33 (.int .i64 0) (.int .i64 0) (.string ⟨#[]⟩)
  go_enter Tryz.func131, Tryz.ntmps131
  go_wp2_with fail
  generalize w.alloc (.cells #[.int .i64 0, .int .i64 0, .string ⟨#[]⟩] 33) = w0 at *
  refine (upto_is _ g s _ 3 h0 3 (by decide) (by decide) HV.out rfl).mono ?_
  rintro e w1 ⟨rfl, h1, hT1⟩
  have hR1 := hT1.blk hB (by omega)
  have hT1w := (Touch.of_below (g := g) hb0).trans hT1
  go_wp2_with fail
  obtain ⟨hB2, hb2⟩ := box3 w1 33 (.int .i64 3) (.int .i64 0) (.string ⟨#[]⟩)
  have hgw1 : w.heap.size ≤ w1.heap.size := hT1w.size
  have hne : w.heap.size ≠ w1.heap.size := by have := hR1.lt; omega
  have hgv : g ≠ w1.heap.size := by omega
  have h2 := h1.below hb2
  have hR2 := hR1.below hb2 hR1.lt
  have hT2w := hT1w.trans (Touch.of_below (g := g) hb2)
  generalize w1.alloc (.cells #[.int .i64 3, .int .i64 0, .string ⟨#[]⟩] 33) = w2 at *
  clear hB h h0 hb0 hT1 hR1 hT1w h1 hb2
  refine (upto_at w2 g _ h2 1 (by decide) (by decide)).mono ?_
  rintro e w3 ⟨rfl, h3, hT3⟩
  have hB3 := hT3.blk hB2 (by omega)
  have hR3 := hT3.blk hR2 (by omega)
  have hT3w := hT2w.trans hT3
  clear hB2 hR2 hT2w hT3 h2
  obtain ⟨d0, d1, d2, e0, e1, e2⟩ := blk3 hB3
  have hB3v := hB3.put 1 (.int .i64 ((s.uptoS 3).uptoV 1 : Int))
  have h3' := h3.far3 hB3 hgv 1 (.int .i64 ((s.uptoS 3).uptoV 1 : Int))
  simp only [List.setIfInBounds_toArray, List.set_cons_zero, List.set_cons_succ] at hB3v
  have hT3' := hT3w.new_ (j := 1) (v := (.int .i64 ((s.uptoS 3).uptoV 1 : Int))) hgw1
  have hR3' := hR3.far (p := ⟨w1.heap.size, 1, none⟩) hne (.int .i64 ((s.uptoS 3).uptoV 1 : Int))
  clear hB3 hT3w hR3 h3
  go_wp2_with fail
  clear d0 d1 d2 e0 e1 e2
  generalize w3.setCell ⟨w1.heap.size, 1, none⟩ (.int .i64 ((s.uptoS 3).uptoV 1 : Int)) = w4 at *
  by_cases hz : ((s.uptoS 3).uptoS 1).err = 0
  · have HZ : Hid (((s.uptoS 3).uptoS 1).err = 0) := hz
    clear hz
    obtain rfl : (3 : Int) = K := by rw [← HK.out]; unfold Vals.getK; rw [eS, if_pos HZ.out, HV.out]; rfl
    obtain rfl : ((s.uptoS 3).uptoV 1 : Int) = I := by rw [← HI.out]; unfold Vals.getI; rw [eS, if_pos HZ.out, HV.out]; rfl
    obtain rfl : [] = Tx := by rw [← HT.out]; unfold Vals.getT; rw [eS, if_pos HZ.out, HV.out]; rfl
    refine (err_at w4 g ((s.uptoS 3).uptoS 1) h3' _ HZ.out).mono ?_
    rintro e w5 ⟨rfl, rfl⟩
    obtain ⟨c0, c1, c2, f0, f1, f2⟩ := blk3 hB3v
    obtain ⟨d0, d1, d2, e0, e1, e2⟩ := blk3 hR3'
    clear hB3v
    go_wp2_with fail
    refine bodyPost_ret (v := .agg #[(.int .i64 3), (.int .i64 ((s.uptoS 3).uptoV 1 : Int)), (.string ⟨#[]⟩)]) (by simp [results, Tryz.results131, go_sem, d0, d1, d2]) rfl ?_
    exact ⟨rfl, h3'.set3 hR3' (by omega), hT3'.set3 (Nat.le_refl _) _ _ _⟩
  · have HZ : Hid (((s.uptoS 3).uptoS 1).err ≠ 0) := hz
    have hd : ((((s.uptoS 3).uptoS 1).err) != 0) = true := by simpa using hz
    clear hz
    obtain rfl : (0 : Int) = K := by rw [← HK.out]; unfold Vals.getK; rw [eS, if_neg HZ.out]
    obtain rfl : (0 : Int) = I := by rw [← HI.out]; unfold Vals.getI; rw [eS, if_neg HZ.out]
    obtain rfl : [] = Tx := by rw [← HT.out]; unfold Vals.getT; rw [eS, if_neg HZ.out]
    refine (err_at w4 g ((s.uptoS 3).uptoS 1) h3' _ rfl).mono ?_
    rintro e w5 ⟨rfl, rfl⟩
    obtain ⟨d0, d1, d2, e0, e1, e2⟩ := blk3 hR3'
    clear hB3v
    go_wp2_with fail
    refine bodyPost_ret (v := .agg #[.int .i64 0, .int .i64 0, .string ⟨#[]⟩]) (by simp [results, Tryz.results131, go_sem, d0, d1, d2]) rfl ?_
    exact ⟨rfl, h3'.set3 hR3' (by omega), hT3'.set3 (Nat.le_refl _) _ _ _⟩
set_option maxRecDepth 100000 in
set_option maxHeartbeats 800000 in
theorem vget_none (w : World) (g : Nat) (s : Wire.St) (h : Sc w g 77 s) (hv : s.uptoV 3 = 0) (K I : Int) (Tx : List UInt8) (s' : Wire.St) (hK : Vals.getK s = K) (hI : Vals.getI s = I) (hTx : Vals.getT s = Tx) (hs' : Vals.getS s = s') :
    Calls Tryz.prog 131 #[.pointer (some ⟨g, 0, none⟩)] w (Reads w g 77 (.agg #[.int .i64 K, .int .i64 I, .string ⟨Tx.toArray⟩]) s') := by
  have HV := Lib.hid hv
  have HK := Lib.hid hK
  have HI := Lib.hid hI
  have HT := Lib.hid hTx
  have eS : Vals.getS s = (s.uptoS 3).fail 3 := by unfold Vals.getS; rw [HV.out]; rfl
  have HZ0 : Hid (((s.uptoS 3).fail 3).err ≠ 0) := by show _ ≠ _; unfold Wire.St.fail; split <;> simp_all
  obtain rfl := eS.symm.trans hs'
  clear hv hK hI hTx hs'
  have hg := h.lt
  have h0 := h.below ((Below.refl _ _).alloc (Nat.le_refl _) (.cells #[.int .i64 0, .int .i64 0, .string ⟨#[]⟩] 33))
  obtain ⟨hB, hb0⟩ := box3 w 33 (.int .i64 0) (.int .i64 0) (.string ⟨#[]⟩)
  go_enter Tryz.func131, Tryz.ntmps131
  go_wp2_with fail
  generalize w.alloc (.cells #[.int .i64 0, .int .i64 0, .string ⟨#[]⟩] 33) = w0 at *
  refine (upto_is _ g s _ 0 h0 3 (by decide) (by decide) HV.out rfl).mono ?_
  rintro e w1 ⟨rfl, h1, hT1⟩
  have hR1 := hT1.blk hB (by omega)
  have hT1w := (Touch.of_below (g := g) hb0).trans hT1
  go_wp2_with fail
  obtain ⟨hB2, hb2⟩ := box3 w1 33 (.int .i64 0) (.int .i64 0) (.string ⟨#[]⟩)
  have hgw1 : w.heap.size ≤ w1.heap.size := hT1w.size
  have hne : w.heap.size ≠ w1.heap.size := by have := hR1.lt; omega
  have hgv : g ≠ w1.heap.size := by omega
  have h2 := h1.below hb2
  have hR2 := hR1.below hb2 hR1.lt
  have hT2w := hT1w.trans (Touch.of_below (g := g) hb2)
  generalize w1.alloc (.cells #[.int .i64 0, .int .i64 0, .string ⟨#[]⟩] 33) = w2 at *
  clear hB h h0 hb0 hT1 hR1 hT1w h1 hb2
  refine (fail_at w2 g _ h2 3).mono ?_
  rintro e w3 ⟨rfl, h3, hT3⟩
  have hB3 := hT3.blk hB2 (by omega)
  have hR3 := hT3.blk hR2 (by omega)
  have hT3w := hT2w.trans hT3
  clear hB2 hR2 hT2w hT3 h2
  obtain ⟨d0, d1, d2, e0, e1, e2⟩ := blk3 hB3
  have hB3v := hB3
  have hT3' := hT3w
  have hR3' := hR3
  have h3' := h3
  clear hB3 hT3w hR3 h3
  go_wp2_with fail
  clear d0 d1 d2 e0 e1 e2
  generalize w3 = w4 at *
  by_cases hz : ((s.uptoS 3).fail 3).err = 0
  · exact absurd hz HZ0.out
  · have HZ : Hid (((s.uptoS 3).fail 3).err ≠ 0) := hz
    have hd : ((((s.uptoS 3).fail 3).err) != 0) = true := by simpa using hz
    clear hz
    obtain rfl : (0 : Int) = K := by rw [← HK.out]; unfold Vals.getK; rw [eS, if_neg HZ.out]
    obtain rfl : (0 : Int) = I := by rw [← HI.out]; unfold Vals.getI; rw [eS, if_neg HZ.out]
    obtain rfl : [] = Tx := by rw [← HT.out]; unfold Vals.getT; rw [eS, if_neg HZ.out]
    refine (err_at w4 g ((s.uptoS 3).fail 3) h3' _ rfl).mono ?_
    rintro e w5 ⟨rfl, rfl⟩
    obtain ⟨d0, d1, d2, e0, e1, e2⟩ := blk3 hR3'
    clear hB3v
    go_wp2_with fail
    refine bodyPost_ret (v := .agg #[.int .i64 0, .int .i64 0, .string ⟨#[]⟩]) (by simp [results, Tryz.results131, go_sem, d0, d1, d2]) rfl ?_
    exact ⟨rfl, h3'.set3 hR3' (by omega), hT3'.set3 (Nat.le_refl _) _ _ _⟩
theorem upto3 (s : Wire.St) : s.uptoV 3 = 0 ∨ s.uptoV 3 = 1 ∨ s.uptoV 3 = 2 ∨ s.uptoV 3 = 3 := by
  have : s.uptoV 3 ≤ 3 := by
    unfold Wire.St.uptoV Wire.St.over
    split
    · omega
    · rename_i h
      simp at h; omega
  omega
theorem vget_at (w : World) (g : Nat) (s : Wire.St) (h : Sc w g 77 s) (K I : Int) (Tx : List UInt8) (s' : Wire.St) (hK : Vals.getK s = K) (hI : Vals.getI s = I) (hTx : Vals.getT s = Tx) (hs' : Vals.getS s = s') :
    Calls Tryz.prog 131 #[.pointer (some ⟨g, 0, none⟩)] w (Reads w g 77 (.agg #[.int .i64 K, .int .i64 I, .string ⟨Tx.toArray⟩]) s') := by
  rcases upto3 s with hv | hv | hv | hv
  · exact vget_none w g s h hv K I Tx s' hK hI hTx hs'
  · exact vget_int w g s h hv K I Tx s' hK hI hTx hs'
  · exact vget_text w g s h hv K I Tx s' hK hI hTx hs'
  · exact vget_bool w g s h hv K I Tx s' hK hI hTx hs'
end Go.Proofs.YtlbendiggdmljaaGreat
namespace Go.Proofs.YtlbendiggdmljaaGreat
open Go.RowKit
theorem put_eight (A : Option Addr) (bs : List UInt8) (n cap L : Nat) (hn : bs.length = n) (hL : n + (Wire.put 8).length = L) (hl : L ≤ 140737488355328) (w : World) (hr : Rd w A bs) :
    Calls Tryz.prog 84 #[.slice A n cap, .int .u64 8] w fun e w' => ∃ g, e = .returned (.slice (some ⟨g, 0, none⟩) L L) ∧ w.heap.size ≤ g ∧ Below w.heap.size w w' ∧ Blk w' g 5 ((bs ++ Wire.put 8).map Bv).toArray :=
  put_at A bs n cap 8 L hn hL (by decide) hl w hr
set_option maxRecDepth 100000 in
set_option maxHeartbeats 1600000 in
theorem pput_wrong (A : Option Addr) (bs : List UInt8) (n cap : Nat) (nm : List UInt8) (o k i : Int) (t : List UInt8) (hn : bs.length = n) (hl : n ≤ 140737488355328) (hnm : nm.length ≤ 9223372036854775807) (ht : t.length ≤ 9223372036854775807) (w : World) (hr : Rd w A bs) (hw : Preds.right nm o k i t = false) :
    Calls Tryz.prog 85 #[.slice A n cap, .agg #[.string ⟨nm.toArray⟩, .int .i64 o, .int .i64 k, .int .i64 i, .string ⟨t.toArray⟩]] w (Lays w bs n) := by
  obtain ⟨i0, hi0, hz0, hz1, hz2⟩ := info_parts byte_info
  have HW := Lib.hid hw
  have HN := Lib.hid hn
  clear hw hn
  obtain ⟨hP, hb0⟩ := box5 w 35 (.string ⟨nm.toArray⟩) (.int .i64 o) (.int .i64 k) (.int .i64 i) (.string ⟨t.toArray⟩)
  go_enter Tryz.func85, Tryz.ntmps85
  go_wp2_with fail
  generalize w.alloc (.cells #[.string ⟨nm.toArray⟩, .int .i64 o, .int .i64 k, .int .i64 i, .string ⟨t.toArray⟩] 35) = w0 at *
  refine (pright_is nm o k i t w0 hnm ht false HW.out).mono ?_
  rintro e w1 ⟨rfl, hb1⟩
  have hb1w := below_next hb0 (Nat.le_refl _) hb1
  have hr1 := (hr.below hb1w).below ((Below.refl _ _).alloc (Nat.le_refl _) (.cells #[] 5))
  clear hP hb0 hb1
  go_wp2_with (at_builtin; refine wpList_append_rd rfl (.tmp 9) (.tmp 10) 24 rfl w1.heap.size 5 i0 Tryz.underlying24 hi0 hz0 hz1 hz2 _ [] (by rfl) (Own.empty w1 w1.heap.size 5 (Nat.le_refl _)) A bs n cap (by rfl) hr1 HN.out (by simp; omega) (by simp) ?_; intro v2 w2 hO2 hb2' _ _)
  rw [List.nil_append] at hO2
  have hb2 := hb2' w1 ((Below.refl _ _).alloc (Nat.le_refl _) _)
  obtain ⟨D, c, rfl, hc, hr2⟩ := hO2.rd
  rw [HN.out] at hc
  go_ret
  rw [HN.out]
  exact ⟨D, c, rfl, hc, hb1w.trans (hb2.mono hb1w.size), hr2⟩
set_option maxRecDepth 100000 in
set_option maxHeartbeats 1600000 in
theorem pput_ex (A : Option Addr) (bs : List UInt8) (n cap L1 L2 : Nat) (nm : List UInt8) (k i : Int) (t : List UInt8) (hn : bs.length = n) (hL1 : n + (Wire.text nm).length = L1) (hL2 : L1 + (Wire.put 8).length = L2) (hl : L2 ≤ 140737488355328) (hnm : nm.length ≤ 9223372036854775807) (ht : t.length ≤ 9223372036854775807) (w : World) (hr : Rd w A bs) (hw : Preds.right nm 8 k i t = true) :
    Calls Tryz.prog 85 #[.slice A n cap, .agg #[.string ⟨nm.toArray⟩, .int .i64 8, .int .i64 k, .int .i64 i, .string ⟨t.toArray⟩]] w (Lays w (bs ++ (Wire.text nm ++ (Wire.put 8 ++ []))) L2) := by
  have HW := Lib.hid hw
  have HN := Lib.hid hn
  have HL1 := Lib.hid hL1
  have HL2 := Lib.hid hL2
  have hl1 : L1 ≤ 140737488355328 := by omega
  have hl2 : L2 ≤ 140737488355328 := by omega
  clear hw hn hL1 hL2
  have HX1 : Hid ((bs ++ Wire.text nm).length = L1) := by show _ = _; rw [List.length_append, HN.out, HL1.out]
  have HX2 : Hid (((bs ++ Wire.text nm) ++ Wire.put 8).length = L2) := by show _ = _; rw [List.length_append, HX1.out, HL2.out]
  obtain ⟨hP, hb0⟩ := box5 w 35 (.string ⟨nm.toArray⟩) (.int .i64 8) (.int .i64 k) (.int .i64 i) (.string ⟨t.toArray⟩)
  go_enter Tryz.func85, Tryz.ntmps85
  go_wp2_with fail
  generalize w.alloc (.cells #[.string ⟨nm.toArray⟩, .int .i64 8, .int .i64 k, .int .i64 i, .string ⟨t.toArray⟩] 35) = w0 at *
  refine (pright_is nm 8 k i t w0 hnm ht true HW.out).mono ?_
  rintro e w1 ⟨rfl, hb1⟩
  have hb1w := below_next hb0 (Nat.le_refl _) hb1
  have hP1 := hP.below hb1 hP.lt
  have hra := hr.below hb1w
  clear hP hb0 hb1 hr
  go_wp2_with fail
  have hkeep : Hid (∀ w', Below w1.heap.size w1 w' → Below w1.heap.size w1 w' ∧ w'.cell? ⟨w.heap.size, 0, none⟩ = some (.string ⟨nm.toArray⟩) ∧ w'.cell? ⟨w.heap.size, 1, none⟩ = some (.int .i64 8) ∧ w'.cell? ⟨w.heap.size, 2, none⟩ = some (.int .i64 k) ∧ w'.cell? ⟨w.heap.size, 3, none⟩ = some (.int .i64 i) ∧ w'.cell? ⟨w.heap.size, 4, none⟩ = some (.string ⟨t.toArray⟩)) := fun w' h => ⟨h, (hP1.below h hP1.lt).cell 0, (hP1.below h hP1.lt).cell 1, (hP1.below h hP1.lt).cell 2, (hP1.below h hP1.lt).cell 3, (hP1.below h hP1.lt).cell 4⟩
  have hS0 := hkeep.out w1.drew (Below.refl _ _).drew
  refine wp_region_held_drew (S := fun w' => Below w1.heap.size w1 w' ∧ w'.cell? ⟨w.heap.size, 0, none⟩ = some (.string ⟨nm.toArray⟩) ∧ w'.cell? ⟨w.heap.size, 1, none⟩ = some (.int .i64 8) ∧ w'.cell? ⟨w.heap.size, 2, none⟩ = some (.int .i64 k) ∧ w'.cell? ⟨w.heap.size, 3, none⟩ = some (.int .i64 i) ∧ w'.cell? ⟨w.heap.size, 4, none⟩ = some (.string ⟨t.toArray⟩)) (by kernel_rfl) hS0 (fun _ => ?_)
  refine wpAnyH_yes (i := 0) (d := 12) (v := ?_) rfl rfl (by kernel_rfl) (by kernel_rfl) (by kernel_rfl) (fun _ _ _ h => h) (by rfl) ?_ hS0 ?_
  rotate_left
  · intro w' hSw; go_simp <;> with_reducible rfl
  simp only [Act.put, List.setIfInBounds_toArray, List.set_cons_zero, List.set_cons_succ]
  refine wpAnyH_yes (i := 1) (d := 13) (v := ?_) rfl rfl (by kernel_rfl) (by kernel_rfl) (by kernel_rfl) (fun _ _ _ h => h) (by rfl) ?_ hS0 ?_
  rotate_left
  · intro w' hSw; go_simp <;> with_reducible rfl
  simp only [Act.put, List.setIfInBounds_toArray, List.set_cons_zero, List.set_cons_succ]
  refine wpAnyH_yes (i := 2) (d := 14) (v := ?_) rfl rfl (by kernel_rfl) (by kernel_rfl) (by kernel_rfl) (fun _ _ _ h => h) (by rfl) ?_ hS0 ?_
  rotate_left
  · intro w' hSw; go_simp <;> with_reducible rfl
  simp only [Act.put, List.setIfInBounds_toArray, List.set_cons_zero, List.set_cons_succ]
  refine wpAnyH_yes (i := 4) (d := 16) (v := ?_) rfl rfl (by kernel_rfl) (by kernel_rfl) (by kernel_rfl) (fun _ _ _ h => h) (by rfl) ?_ hS0 ?_
  rotate_left
  · intro w' hSw; go_simp <;> with_reducible rfl
  simp only [Act.put, List.setIfInBounds_toArray, List.set_cons_zero, List.set_cons_succ]
  refine wpAnyH_yes (i := 5) (d := 17) (v := ?_) rfl rfl (by kernel_rfl) (by kernel_rfl) (by kernel_rfl) (fun _ _ _ h => h) (by rfl) ?_ hS0 ?_
  rotate_left
  · intro w' hSw; go_simp <;> with_reducible rfl
  simp only [Act.put, List.setIfInBounds_toArray, List.set_cons_zero, List.set_cons_succ]
  refine wpAnyH_yes (i := 6) (d := 18) (v := .int .u64 8) rfl rfl (by kernel_rfl) (by kernel_rfl) (by kernel_rfl) (fun _ _ _ h => h) (by rfl) ?_ hS0 ?_
  · intro w' hSw
    go_simp
    all_goals first | rfl | (rw [IntKind.wrap_u64]; omega)
  simp only [Act.put, List.setIfInBounds_toArray, List.set_cons_zero, List.set_cons_succ]
  refine wpAnyH_one (i := 3) (by kernel_rfl) rfl (by rfl) (fun Kx hK1 => ?_)
  go_simp
  with_reducible refine (putText_at A bs nm n cap nm.length L1 HN.out rfl HL1.out hl1 _ (hra.below hS0.1)).mono ?_
  rintro e w2 ⟨g2, rfl, hg2, hb2, hB2⟩
  have hS1 := hkeep.out _ (below_next hS0.1 (Nat.le_refl _) hb2)
  go_wp2_with fail
  refine hK1.out _ _ hS1 ?_
  refine wpAnyH_one (i := 7) (by kernel_rfl) rfl (by rfl) (fun Kx hK2 => ?_)
  go_simp
  with_reducible refine (put_eight (some ⟨g2, 0, none⟩) (bs ++ Wire.text nm) L1 L1 L2 HX1.out HL2.out hl2 _ hB2.rd).mono ?_
  rintro e w3 ⟨g3, rfl, hg3, hb3, hB3⟩
  have hS2 := hkeep.out _ (below_next hS1.1 (Nat.le_refl _) hb3)
  go_wp2_with fail
  refine hK2.out _ _ hS2 ?_
  refine wpAnyH_yes (i := 8) (d := 5) (v := ?_) rfl rfl (by kernel_rfl) (by kernel_rfl) (by kernel_rfl) (fun _ _ _ h => h) (by rfl) ?_ hS2 ?_
  rotate_left
  · intro w' hSw; go_simp <;> with_reducible rfl
  simp only [Act.put, List.setIfInBounds_toArray, List.set_cons_zero, List.set_cons_succ]
  refine wpAnyH_done (by kernel_rfl) ?_ _
  have hbl := below_next hb1w (Nat.le_refl _) hS2.1
  obtain ⟨_, c0, c1, c2, c3, c4⟩ := hS2
  clear hS0 hS1 hkeep hP1 hra hb1w
  have hr3 := hB3.rd
  rw [List.append_assoc] at hr3
  go_wp2_with fail
  go_ret
  exact ⟨_, _, rfl, Nat.le_refl _, hbl, by rw [List.append_nil]; exact hr3⟩
set_option maxRecDepth 100000 in
set_option maxHeartbeats 1600000 in
theorem pput_so (A : Option Addr) (bs : List UInt8) (n cap L1 L2 L : Nat) (nm : List UInt8) (q : Nat) (k i : Int) (t : List UInt8) (hn : bs.length = n) (hL1 : n + (Wire.text nm).length = L1) (hL2 : L1 + (Wire.put q).length = L2) (hq : q ≤ 8) (hq8 : q ≠ 8) (hL : L2 + (Vals.lay k i t).length = L) (hl : L ≤ 140737488355328) (h1 : -9223372036854775808 ≤ i) (h2 : i ≤ 9223372036854775807) (hnm : nm.length ≤ 9223372036854775807) (ht : t.length ≤ 9223372036854775807) (w : World) (hr : Rd w A bs) (hw : Preds.right nm (q : Int) k i t = true) :
    Calls Tryz.prog 85 #[.slice A n cap, .agg #[.string ⟨nm.toArray⟩, .int .i64 (q : Int), .int .i64 k, .int .i64 i, .string ⟨t.toArray⟩]] w (Lays w (bs ++ (Wire.text nm ++ (Wire.put q ++ Vals.lay k i t))) L) := by
  have HW := Lib.hid hw
  have HN := Lib.hid hn
  have HL1 := Lib.hid hL1
  have HL2 := Lib.hid hL2
  have hl1 : L1 ≤ 140737488355328 := by omega
  have hl2 : L2 ≤ 140737488355328 := by omega
  have HL := Lib.hid hL
  have hqi : (q : Int) ≤ 18446744073709551615 := by omega
  have hq0 : (0 : Int) ≤ (q : Int) := by omega
  have e8 : ((q : Int) == 8) = false := by simp; omega
  have HQ : Hid (q < 2 ^ 64) := by show q < _; omega
  clear hw hn hL1 hL2 hL hq hq8
  have HX1 : Hid ((bs ++ Wire.text nm).length = L1) := by show _ = _; rw [List.length_append, HN.out, HL1.out]
  have HX2 : Hid (((bs ++ Wire.text nm) ++ Wire.put q).length = L2) := by show _ = _; rw [List.length_append, HX1.out, HL2.out]
  obtain ⟨hP, hb0⟩ := box5 w 35 (.string ⟨nm.toArray⟩) (.int .i64 (q : Int)) (.int .i64 k) (.int .i64 i) (.string ⟨t.toArray⟩)
  go_enter Tryz.func85, Tryz.ntmps85
  go_wp2_with fail
  generalize w.alloc (.cells #[.string ⟨nm.toArray⟩, .int .i64 (q : Int), .int .i64 k, .int .i64 i, .string ⟨t.toArray⟩] 35) = w0 at *
  refine (pright_is nm (q : Int) k i t w0 hnm ht true HW.out).mono ?_
  rintro e w1 ⟨rfl, hb1⟩
  have hb1w := below_next hb0 (Nat.le_refl _) hb1
  have hP1 := hP.below hb1 hP.lt
  have hra := hr.below hb1w
  clear hP hb0 hb1 hr
  go_wp2_with fail
  have hkeep : Hid (∀ w', Below w1.heap.size w1 w' → Below w1.heap.size w1 w' ∧ w'.cell? ⟨w.heap.size, 0, none⟩ = some (.string ⟨nm.toArray⟩) ∧ w'.cell? ⟨w.heap.size, 1, none⟩ = some (.int .i64 (q : Int)) ∧ w'.cell? ⟨w.heap.size, 2, none⟩ = some (.int .i64 k) ∧ w'.cell? ⟨w.heap.size, 3, none⟩ = some (.int .i64 i) ∧ w'.cell? ⟨w.heap.size, 4, none⟩ = some (.string ⟨t.toArray⟩)) := fun w' h => ⟨h, (hP1.below h hP1.lt).cell 0, (hP1.below h hP1.lt).cell 1, (hP1.below h hP1.lt).cell 2, (hP1.below h hP1.lt).cell 3, (hP1.below h hP1.lt).cell 4⟩
  have hS0 := hkeep.out w1.drew (Below.refl _ _).drew
  refine wp_region_held_drew (S := fun w' => Below w1.heap.size w1 w' ∧ w'.cell? ⟨w.heap.size, 0, none⟩ = some (.string ⟨nm.toArray⟩) ∧ w'.cell? ⟨w.heap.size, 1, none⟩ = some (.int .i64 (q : Int)) ∧ w'.cell? ⟨w.heap.size, 2, none⟩ = some (.int .i64 k) ∧ w'.cell? ⟨w.heap.size, 3, none⟩ = some (.int .i64 i) ∧ w'.cell? ⟨w.heap.size, 4, none⟩ = some (.string ⟨t.toArray⟩)) (by kernel_rfl) hS0 (fun _ => ?_)
  refine wpAnyH_yes (i := 0) (d := 12) (v := ?_) rfl rfl (by kernel_rfl) (by kernel_rfl) (by kernel_rfl) (fun _ _ _ h => h) (by rfl) ?_ hS0 ?_
  rotate_left
  · intro w' hSw; go_simp <;> with_reducible rfl
  simp only [Act.put, List.setIfInBounds_toArray, List.set_cons_zero, List.set_cons_succ]
  refine wpAnyH_yes (i := 1) (d := 13) (v := ?_) rfl rfl (by kernel_rfl) (by kernel_rfl) (by kernel_rfl) (fun _ _ _ h => h) (by rfl) ?_ hS0 ?_
  rotate_left
  · intro w' hSw; go_simp <;> with_reducible rfl
  simp only [Act.put, List.setIfInBounds_toArray, List.set_cons_zero, List.set_cons_succ]
  refine wpAnyH_yes (i := 2) (d := 14) (v := ?_) rfl rfl (by kernel_rfl) (by kernel_rfl) (by kernel_rfl) (fun _ _ _ h => h) (by rfl) ?_ hS0 ?_
  rotate_left
  · intro w' hSw; go_simp <;> with_reducible rfl
  simp only [Act.put, List.setIfInBounds_toArray, List.set_cons_zero, List.set_cons_succ]
  refine wpAnyH_yes (i := 4) (d := 16) (v := ?_) rfl rfl (by kernel_rfl) (by kernel_rfl) (by kernel_rfl) (fun _ _ _ h => h) (by rfl) ?_ hS0 ?_
  rotate_left
  · intro w' hSw; go_simp <;> with_reducible rfl
  simp only [Act.put, List.setIfInBounds_toArray, List.set_cons_zero, List.set_cons_succ]
  refine wpAnyH_yes (i := 5) (d := 17) (v := ?_) rfl rfl (by kernel_rfl) (by kernel_rfl) (by kernel_rfl) (fun _ _ _ h => h) (by rfl) ?_ hS0 ?_
  rotate_left
  · intro w' hSw; go_simp <;> with_reducible rfl
  simp only [Act.put, List.setIfInBounds_toArray, List.set_cons_zero, List.set_cons_succ]
  refine wpAnyH_yes (i := 6) (d := 18) (v := .int .u64 (q : Int)) rfl rfl (by kernel_rfl) (by kernel_rfl) (by kernel_rfl) (fun _ _ _ h => h) (by rfl) ?_ hS0 ?_
  · intro w' hSw
    go_simp
    all_goals first | rfl | (rw [IntKind.wrap_u64]; omega)
  simp only [Act.put, List.setIfInBounds_toArray, List.set_cons_zero, List.set_cons_succ]
  refine wpAnyH_one (i := 3) (by kernel_rfl) rfl (by rfl) (fun Kx hK3 => ?_)
  go_simp
  with_reducible refine (putText_at A bs nm n cap nm.length L1 HN.out rfl HL1.out hl1 _ (hra.below hS0.1)).mono ?_
  rintro e w2 ⟨g2, rfl, hg2, hb2, hB2⟩
  have hS1 := hkeep.out _ (below_next hS0.1 (Nat.le_refl _) hb2)
  go_wp2_with fail
  refine hK3.out _ _ hS1 ?_
  refine wpAnyH_one (i := 7) (by kernel_rfl) rfl (by rfl) (fun Kx hK4 => ?_)
  go_simp
  with_reducible refine (put_at (some ⟨g2, 0, none⟩) (bs ++ Wire.text nm) L1 L1 q L2 HX1.out HL2.out HQ.out hl2 _ hB2.rd).mono ?_
  rintro e w3 ⟨g3, rfl, hg3, hb3, hB3⟩
  have hS2 := hkeep.out _ (below_next hS1.1 (Nat.le_refl _) hb3)
  go_wp2_with fail
  refine hK4.out _ _ hS2 ?_
  refine wpAnyH_yes (i := 8) (d := 5) (v := ?_) rfl rfl (by kernel_rfl) (by kernel_rfl) (by kernel_rfl) (fun _ _ _ h => h) (by rfl) ?_ hS2 ?_
  rotate_left
  · intro w' hSw; go_simp <;> with_reducible rfl
  simp only [Act.put, List.setIfInBounds_toArray, List.set_cons_zero, List.set_cons_succ]
  refine wpAnyH_done (by kernel_rfl) ?_ _
  have hbl := below_next hb1w (Nat.le_refl _) hS2.1
  obtain ⟨_, c0, c1, c2, c3, c4⟩ := hS2
  clear hS0 hS1 hkeep hP1 hra hb1w
  go_wp2_with fail
  refine (vput_at (some ⟨g3, 0, none⟩) ((bs ++ Wire.text nm) ++ Wire.put q) L2 L2 L k i t HX2.out HL.out hl h1 h2 ht w3 hB3.rd).mono ?_
  rintro e w4 ⟨D, c, rfl, hc, hb4, hr4⟩
  rw [List.append_assoc, List.append_assoc] at hr4
  clear c0 c1 c2 c3 c4
  go_wp2_with fail
  go_ret
  exact ⟨D, c, rfl, hc, below_next hbl (Nat.le_refl _) hb4, hr4⟩
theorem pput_at (A : Option Addr) (bs : List UInt8) (n cap L : Nat) (nm : List UInt8) (o k i : Int) (t : List UInt8) (hn : bs.length = n) (hL : n + (Preds.lay nm o k i t).length = L) (hl : L ≤ 140737488355328) (h1 : -9223372036854775808 ≤ i) (h2 : i ≤ 9223372036854775807) (hnm : nm.length ≤ 9223372036854775807) (ht : t.length ≤ 9223372036854775807) (w : World) (hr : Rd w A bs) :
    Calls Tryz.prog 85 #[.slice A n cap, .agg #[.string ⟨nm.toArray⟩, .int .i64 o, .int .i64 k, .int .i64 i, .string ⟨t.toArray⟩]] w (Lays w (bs ++ Preds.lay nm o k i t) L) := by
  cases h : Preds.right nm o k i t with
  | false =>
    have e : Preds.lay nm o k i t = [] := by unfold Preds.lay; rw [h]; rfl
    rw [e] at hL ⊢
    rw [List.append_nil]
    simp only [List.length_nil, Nat.add_zero] at hL
    subst hL
    exact pput_wrong A bs n cap nm o k i t hn hl hnm ht w hr h
  | true =>
    have e : Preds.lay nm o k i t = Preds.bytes nm o k i t := by unfold Preds.lay; rw [if_pos h]
    rw [e] at hL ⊢
    unfold Preds.bytes at hL ⊢
    have ho : 0 ≤ o ∧ o ≤ 8 := by rcases Preds.asks_cases (Preds.right_parts h).2.2 with ⟨rfl, _⟩ | ⟨_, b1, b2, _⟩ <;> omega
    obtain ⟨q, rfl⟩ := Int.eq_ofNat_of_zero_le ho.1
    rw [Int.toNat_natCast] at hL ⊢
    by_cases h8 : q = 8
    · subst h8
      rw [if_pos (show ((8 : Nat) : Int) = 8 from rfl)] at hL ⊢
      refine pput_ex A bs n cap (n + (Wire.text nm).length) L nm k i t hn rfl ?_ hl hnm ht w hr h
      rw [← hL]; simp only [List.length_append, List.length_nil]; omega
    · rw [if_neg (by omega)] at hL ⊢
      refine pput_so A bs n cap (n + (Wire.text nm).length) (n + (Wire.text nm).length + (Wire.put q).length) L nm q k i t hn rfl rfl (by omega) h8 ?_ hl h1 h2 hnm ht w hr h
      rw [← hL]; simp only [List.length_append]; omega
end Go.Proofs.YtlbendiggdmljaaGreat
namespace Go.Proofs.YtlbendiggdmljaaGreat
open Go.RowKit
/-- Cells among which no byte is. -/
def NoByte (cs : Array Value) : Prop := ∀ (off : Nat) (x : Int), cs[off]? ≠ some (.int .u8 x)
theorem noByte5 (a b : ByteArray) (x y z : Int) : NoByte #[.string a, .int .i64 x, .int .i64 y, .int .i64 z, .string b] := by
  intro off v
  rcases off with _ | _ | _ | _ | _ | off <;> simp
theorem NoByte.put {cs : Array Value} (h : NoByte cs) (j : Nat) {u : Value} (hu : ∀ x, u ≠ .int .u8 x) : NoByte (cs.setIfInBounds j u) := by
  intro off x e
  rw [Array.getElem?_setIfInBounds] at e
  split at e
  · split at e
    · injection e with e; exact hu x e
    · cases e
  · exact h off x e
theorem rd_apartN {w : World} {g : Nat} {t : TypeId} {cs : Array Value} {A : Option Addr} {bs : List UInt8} (hB : Blk w g t cs) (hn : NoByte cs) (hr : Rd w A bs) (off : Nat) : A ≠ some ⟨g, off, none⟩ ∨ bs = [] := by
  rcases hr with rfl | ⟨g', off', rfl, hg, hc⟩
  · exact .inr rfl
  · by_cases h0 : bs = []
    · exact .inr h0
    · refine .inl fun e => ?_
      cases e
      have h := hc 0 (List.length_pos_iff.2 h0)
      rw [hB.cell] at h
      exact hn _ _ h
theorem Sc.farN {w : World} {g b : Nat} {t t' : TypeId} {s : Wire.St} {cs : Array Value} (h : Sc w g t s) (hB : Blk w b t' cs) (hn : NoByte cs) (hne : g ≠ b) (j : Nat) (u : Value) : Sc (w.setCell ⟨b, j, none⟩ u) g t s := by
  obtain ⟨A, n, cap, hG, h1, h2, h3, hr, ha⟩ := h
  exact ⟨A, n, cap, hG.far (p := ⟨b, j, none⟩) hne u, h1, h2, h3, ((Touch.refl b w).set_ j u).rd hr (rd_apartN hB hn hr), ha⟩
/-- A scan stays while a block behind it turns. -/
theorem Sc.behind {w w' : World} {g b : Nat} {t : TypeId} {s : Wire.St} {row : Option Nat} (h : Sc w g t s) (hg : w.grownBy w' row) (hr : ∀ j, row = some j → b ≤ j) (hb : g < b) : Sc w' g t s := by
  obtain ⟨A, n, cap, hG, h1, h2, h3, hrd, ha⟩ := h
  refine ⟨A, n, cap, (hg.block g hG.lt (fun e => by have := hr g e.symm; omega)).trans hG, h1, h2, h3, ?_, ha⟩
  rcases hrd with h | ⟨q, off, rfl, hq, hc⟩
  · exact .inl h
  · have hqg : q < g := ha _ rfl
    exact .inr ⟨q, off, rfl, Nat.lt_of_lt_of_le hq hg.size, fun i hi => hg.cell (hc i hi) (fun e => by have := hr q e.symm; omega)⟩
/-- Three cells of a predicate set: its value. -/
def setV (w : World) (b : Nat) (k i : Int) (t : ByteArray) : World := ((w.setCell ⟨b, 2, none⟩ (.int .i64 k)).setCell ⟨b, 3, none⟩ (.int .i64 i)).setCell ⟨b, 4, none⟩ (.string t)
/-- All five cells of a predicate set. -/
def setP (w : World) (b : Nat) (n : ByteArray) (o k i : Int) (t : ByteArray) : World := ((((w.setCell ⟨b, 0, none⟩ (.string n)).setCell ⟨b, 1, none⟩ (.int .i64 o)).setCell ⟨b, 2, none⟩ (.int .i64 k)).setCell ⟨b, 3, none⟩ (.int .i64 i)).setCell ⟨b, 4, none⟩ (.string t)
theorem Sc.setV_ {w : World} {g b : Nat} {t t' : TypeId} {s : Wire.St} {cs : Array Value} (h : Sc w g t s) (hB : Blk w b t' cs) (hn : NoByte cs) (hne : g ≠ b) (k i : Int) (z : ByteArray) : Sc (setV w b k i z) g t s :=
  ((h.farN hB hn hne 2 _).farN (hB.put 2 (.int .i64 k)) (hn.put 2 (by simp)) hne 3 _).farN ((hB.put 2 (.int .i64 k)).put 3 (.int .i64 i)) ((hn.put 2 (by simp)).put 3 (by simp)) hne 4 _
theorem Sc.setP_ {w : World} {g b : Nat} {t t' : TypeId} {s : Wire.St} {cs : Array Value} (h : Sc w g t s) (hB : Blk w b t' cs) (hn : NoByte cs) (hne : g ≠ b) (m : ByteArray) (o k i : Int) (z : ByteArray) : Sc (setP w b m o k i z) g t s :=
  Sc.setV_ ((h.farN hB hn hne 0 _).farN (hB.put 0 (.string m)) (hn.put 0 (by simp)) hne 1 _) ((hB.put 0 (.string m)).put 1 (.int .i64 o)) ((hn.put 0 (by simp)).put 1 (by simp)) hne k i z
theorem Touch.setV_ {g b : Nat} {a w : World} (h : Touch g a w) (hb : a.heap.size ≤ b) (k i : Int) (z : ByteArray) : Touch g a (setV w b k i z) := ((h.new_ hb).new_ hb).new_ hb
theorem Touch.setP_ {g b : Nat} {a w : World} (h : Touch g a w) (hb : a.heap.size ≤ b) (m : ByteArray) (o k i : Int) (z : ByteArray) : Touch g a (setP w b m o k i z) := Touch.setV_ ((h.new_ hb).new_ hb) hb k i z
theorem Blk.setV_ {w : World} {b : Nat} {t : TypeId} {v0 v1 v2 v3 v4 : Value} (hB : Blk w b t #[v0, v1, v2, v3, v4]) (k i : Int) (z : ByteArray) : Blk (setV w b k i z) b t #[v0, v1, .int .i64 k, .int .i64 i, .string z] := by
  have := ((hB.put 2 (.int .i64 k)).put 3 (.int .i64 i)).put 4 (.string z)
  unfold setV
  simpa using this
theorem Blk.farV {w : World} {b b' : Nat} {t : TypeId} {cs : Array Value} (hB : Blk w b t cs) (hne : b ≠ b') (k i : Int) (z : ByteArray) : Blk (setV w b' k i z) b t cs :=
  ((hB.far (p := ⟨b', 2, none⟩) hne _).far (p := ⟨b', 3, none⟩) hne _).far (p := ⟨b', 4, none⟩) hne _
set_option maxRecDepth 100000 in
set_option maxHeartbeats 1600000 in
theorem getName_at (w : World) (g : Nat) (s : Wire.St) (h : Sc w g 77 s) :
    Calls Tryz.prog 89 #[.pointer (some ⟨g, 0, none⟩)] w (Reads w g 77 (.string ⟨(s.textV 16).toArray⟩) (Preds.nameS s)) := by
  have ht := text_at w g s h 16 (by decide) (by decide)
  unfold Preds.nameS
  generalize s.textS 16 = s1 at *
  by_cases hv : s.textV 16 = []
  · rw [if_pos hv]
    rw [hv] at ht ⊢
    clear hv h
    go_enter Tryz.func89, Tryz.ntmps89
    go_wp2_with fail
    refine ht.mono ?_
    rintro e w1 ⟨rfl, h1, hT1⟩
    go_wp2_with fail
    refine (fail_at w1 g s1 h1 3).mono ?_
    rintro e w2 ⟨rfl, h2, hT2⟩
    go_wp2_with fail
    go_ret
    exact ⟨rfl, h2, hT1.trans hT2⟩
  · rw [if_neg hv]
    have hd : (s.textV 16 == []) = false := by simpa using hv
    generalize s.textV 16 = v at *
    clear hv h
    go_enter Tryz.func89, Tryz.ntmps89
    go_wp2_with fail
    refine ht.mono ?_
    rintro e w1 ⟨rfl, h1, hT1⟩
    go_wp2_with fail
    go_ret
    exact ⟨rfl, h1, hT1⟩
set_option maxRecDepth 100000 in
set_option maxHeartbeats 1600000 in
theorem getOp_at (w : World) (g : Nat) (s : Wire.St) (h : Sc w g 77 s) :
    Calls Tryz.prog 90 #[.pointer (some ⟨g, 0, none⟩)] w (Reads w g 77 (.int .i64 (s.uptoV 8 : Int)) (Preds.opS s)) := by
  have ht := upto_at w g s h 8 (by decide) (by decide)
  unfold Preds.opS
  generalize s.uptoS 8 = s1 at *
  generalize s.uptoV 8 = v at *
  by_cases hv : v = 0
  · rw [if_pos hv]
    subst hv
    clear h
    go_enter Tryz.func90, Tryz.ntmps90
    go_wp2_with fail
    refine ht.mono ?_
    rintro e w1 ⟨rfl, h1, hT1⟩
    go_wp2_with fail
    refine (fail_at w1 g s1 h1 3).mono ?_
    rintro e w2 ⟨rfl, h2, hT2⟩
    go_wp2_with fail
    go_ret
    exact ⟨rfl, h2, hT1.trans hT2⟩
  · rw [if_neg hv]
    have hd : ((v : Int) == 0) = false := by simp; omega
    clear hv h
    go_enter Tryz.func90, Tryz.ntmps90
    go_wp2_with fail
    refine ht.mono ?_
    rintro e w1 ⟨rfl, h1, hT1⟩
    go_wp2_with fail
    go_ret
    exact ⟨rfl, h1, hT1⟩
theorem getOp_is (w : World) (g : Nat) (s : Wire.St) (h : Sc w g 77 s) (v : Nat) (s' : Wire.St) (hv : s.uptoV 8 = v) (hs : Preds.opS s = s') :
    Calls Tryz.prog 90 #[.pointer (some ⟨g, 0, none⟩)] w (Reads w g 77 (.int .i64 (v : Int)) s') := by
  subst hv; subst hs; exact getOp_at w g s h
theorem vgetT_le (s : Wire.St) : (Vals.getT s).length ≤ 64 := by
  unfold Vals.getT
  split
  · split
    · exact Vals.textV_le _ 64
    · simp
  · simp
set_option maxRecDepth 100000 in
set_option maxHeartbeats 1600000 in
theorem side_pre (w : World) (g : Nat) (s : Wire.St) (h : Sc w g 77 s) (K I : Int) (Tx : List UInt8) (hK : Vals.getK s = K) (hI : Vals.getI s = I) (hTx : Vals.getT s = Tx) (_hl : Tx.length ≤ 64) (hk : K ≠ 2) :
    Calls Tryz.prog 91 #[.pointer (some ⟨g, 0, none⟩), .int .i64 7] w (Reads w g 77 (.agg #[.int .i64 K, .int .i64 I, .string ⟨Tx.toArray⟩]) ((Vals.getS s).fail 3)) := by
  have hv := fun w0 h0 => vget_at w0 g s h0 K I Tx _ hK hI hTx rfl
  clear hK hI hTx
  have e1 : (K != 2) = true := by simpa using hk
  clear hk
  generalize Vals.getS s = s1 at *
  have hg := h.lt
  obtain ⟨hB, hb0⟩ := box3 w 33 (.int .i64 0) (.int .i64 0) (.string ⟨#[]⟩)
  have h0 := h.below hb0
  go_enter Tryz.func91, Tryz.ntmps91
  go_wp2_with fail
  generalize w.alloc (.cells #[.int .i64 0, .int .i64 0, .string ⟨#[]⟩] 33) = w0 at *
  refine (hv w0 h0).mono ?_
  rintro e w1 ⟨rfl, h1, hT1⟩
  have hR1 := hT1.blk hB (by omega)
  have hT1w := (Touch.of_below (g := g) hb0).trans hT1
  have hgw1 : w.heap.size ≤ w1.heap.size := hT1w.size
  have hne : w.heap.size ≠ w1.heap.size := by have := hR1.lt; omega
  have hgv : g ≠ w1.heap.size := by omega
  obtain ⟨hC4, hb2⟩ := box3 w1 33 (.int .i64 K) (.int .i64 I) (.string ⟨Tx.toArray⟩)
  have h4 := h1.below hb2
  have hR4 := hR1.below hb2 hR1.lt
  have hT4w := hT1w.trans (Touch.of_below (g := g) hb2)
  clear hv h h0 hB hb0 hT1
  clear h1 hR1 hT1w hb2
  go_wp2_with fail
  generalize w1.heap.size = gc at *
  generalize w1.alloc (.cells #[.int .i64 K, .int .i64 I, .string ⟨Tx.toArray⟩] 33) = w4 at *
  refine (fail_at w4 g _ h4 3).mono ?_
  rintro e w5 ⟨rfl, h5, hT5⟩
  have hC5 := hT5.blk hC4 (by omega)
  have hR5 := hT5.blk hR4 (by omega)
  have hT5w := hT4w.trans hT5
  clear hC4 hR4 hT4w hT5 h4
  obtain ⟨x0, x1, x2, _, _, _⟩ := blk3 hC5
  obtain ⟨r0, r1, r2, k0, k1, k2⟩ := blk3 hR5
  go_wp2_with fail
  refine bodyPost_ret (v := .agg #[.int .i64 K, .int .i64 I, .string ⟨Tx.toArray⟩]) (by simp [results, Tryz.results91, go_sem, r0, r1, r2]) rfl ?_
  exact ⟨rfl, h5.set3 hR5 (by omega), hT5w.set3 (Nat.le_refl _) _ _ _⟩
set_option maxRecDepth 100000 in
set_option maxHeartbeats 1600000 in
theorem side_long7 (w : World) (g : Nat) (s : Wire.St) (h : Sc w g 77 s) (I : Int) (Tx : List UInt8) (hK : Vals.getK s = 2) (hI : Vals.getI s = I) (hTx : Vals.getT s = Tx) (_hl : Tx.length ≤ 64) (hk : 32 < Tx.length) :
    Calls Tryz.prog 91 #[.pointer (some ⟨g, 0, none⟩), .int .i64 7] w (Reads w g 77 (.agg #[.int .i64 2, .int .i64 I, .string ⟨Tx.toArray⟩]) ((Vals.getS s).fail 3)) := by
  have hv := fun w0 h0 => vget_at w0 g s h0 2 I Tx _ hK hI hTx rfl
  clear hK hI hTx
  have e2 : decide ((32 : Int) < (Tx.length : Int)) = true := by simp; omega
  clear hk
  generalize Vals.getS s = s1 at *
  have hg := h.lt
  obtain ⟨hB, hb0⟩ := box3 w 33 (.int .i64 0) (.int .i64 0) (.string ⟨#[]⟩)
  have h0 := h.below hb0
  go_enter Tryz.func91, Tryz.ntmps91
  go_wp2_with fail
  generalize w.alloc (.cells #[.int .i64 0, .int .i64 0, .string ⟨#[]⟩] 33) = w0 at *
  refine (hv w0 h0).mono ?_
  rintro e w1 ⟨rfl, h1, hT1⟩
  have hR1 := hT1.blk hB (by omega)
  have hT1w := (Touch.of_below (g := g) hb0).trans hT1
  have hgw1 : w.heap.size ≤ w1.heap.size := hT1w.size
  have hne : w.heap.size ≠ w1.heap.size := by have := hR1.lt; omega
  have hgv : g ≠ w1.heap.size := by omega
  obtain ⟨hC4, hb2⟩ := box3 w1 33 (.int .i64 2) (.int .i64 I) (.string ⟨Tx.toArray⟩)
  have h4 := h1.below hb2
  have hR4 := hR1.below hb2 hR1.lt
  have hT4w := hT1w.trans (Touch.of_below (g := g) hb2)
  clear hv h h0 hB hb0 hT1
  clear h1 hR1 hT1w hb2
  go_wp2_with fail
  generalize w1.heap.size = gc at *
  generalize w1.alloc (.cells #[.int .i64 2, .int .i64 I, .string ⟨Tx.toArray⟩] 33) = w4 at *
  refine (fail_at w4 g _ h4 3).mono ?_
  rintro e w5 ⟨rfl, h5, hT5⟩
  have hC5 := hT5.blk hC4 (by omega)
  have hR5 := hT5.blk hR4 (by omega)
  have hT5w := hT4w.trans hT5
  clear hC4 hR4 hT4w hT5 h4
  obtain ⟨x0, x1, x2, _, _, _⟩ := blk3 hC5
  obtain ⟨r0, r1, r2, k0, k1, k2⟩ := blk3 hR5
  go_wp2_with fail
  refine bodyPost_ret (v := .agg #[.int .i64 2, .int .i64 I, .string ⟨Tx.toArray⟩]) (by simp [results, Tryz.results91, go_sem, r0, r1, r2]) rfl ?_
  exact ⟨rfl, h5.set3 hR5 (by omega), hT5w.set3 (Nat.le_refl _) _ _ _⟩
set_option maxRecDepth 100000 in
set_option maxHeartbeats 1600000 in
theorem side_ok7 (w : World) (g : Nat) (s : Wire.St) (h : Sc w g 77 s) (I : Int) (Tx : List UInt8) (hK : Vals.getK s = 2) (hI : Vals.getI s = I) (hTx : Vals.getT s = Tx) (_hl : Tx.length ≤ 64) (hk : Tx.length ≤ 32) :
    Calls Tryz.prog 91 #[.pointer (some ⟨g, 0, none⟩), .int .i64 7] w (Reads w g 77 (.agg #[.int .i64 2, .int .i64 I, .string ⟨Tx.toArray⟩]) (Vals.getS s)) := by
  have hv := fun w0 h0 => vget_at w0 g s h0 2 I Tx _ hK hI hTx rfl
  clear hK hI hTx
  have e2 : decide ((32 : Int) < (Tx.length : Int)) = false := by simp; omega
  clear hk
  generalize Vals.getS s = s1 at *
  have hg := h.lt
  obtain ⟨hB, hb0⟩ := box3 w 33 (.int .i64 0) (.int .i64 0) (.string ⟨#[]⟩)
  have h0 := h.below hb0
  go_enter Tryz.func91, Tryz.ntmps91
  go_wp2_with fail
  generalize w.alloc (.cells #[.int .i64 0, .int .i64 0, .string ⟨#[]⟩] 33) = w0 at *
  refine (hv w0 h0).mono ?_
  rintro e w1 ⟨rfl, h1, hT1⟩
  have hR1 := hT1.blk hB (by omega)
  have hT1w := (Touch.of_below (g := g) hb0).trans hT1
  have hgw1 : w.heap.size ≤ w1.heap.size := hT1w.size
  have hne : w.heap.size ≠ w1.heap.size := by have := hR1.lt; omega
  have hgv : g ≠ w1.heap.size := by omega
  obtain ⟨hC4, hb2⟩ := box3 w1 33 (.int .i64 2) (.int .i64 I) (.string ⟨Tx.toArray⟩)
  have h4 := h1.below hb2
  have hR4 := hR1.below hb2 hR1.lt
  have hT4w := hT1w.trans (Touch.of_below (g := g) hb2)
  clear hv h h0 hB hb0 hT1
  obtain ⟨r0, r1, r2, k0, k1, k2⟩ := blk3 hR1
  have hlt : w.heap.size < w1.heap.size := hR1.lt
  clear hC4 h4 hR4 hT4w
  go_wp2_with fail
  have hR5 : Blk ((((w1.setCell ⟨w.heap.size, 0, none⟩ (.int .i64 2)).setCell ⟨w.heap.size, 1, none⟩ (.int .i64 I)).setCell ⟨w.heap.size, 2, none⟩ (.string ⟨Tx.toArray⟩)).alloc (.cells #[.int .i64 2, .int .i64 I, .string ⟨Tx.toArray⟩] 33)) w.heap.size 33 #[.int .i64 2, .int .i64 I, .string ⟨Tx.toArray⟩] := by
    have := ((hR1.put 0 (.int .i64 2)).put 1 (.int .i64 I)).put 2 (.string ⟨Tx.toArray⟩)
    exact (by simpa using this : Blk _ _ _ _).alloc _
  have h5 := (h1.set3 (x' := 2) (y' := I) (z' := ⟨Tx.toArray⟩) hR1 (by omega)).below ((Below.refl _ _).alloc (Nat.le_refl _) (.cells #[.int .i64 2, .int .i64 I, .string ⟨Tx.toArray⟩] 33))
  have hT5 := (hT1w.set3 (Nat.le_refl _) (.int .i64 2) (.int .i64 I) (.string ⟨Tx.toArray⟩)).trans (Touch.of_below (g := g) ((Below.refl _ _).alloc (Nat.le_refl _) (.cells #[.int .i64 2, .int .i64 I, .string ⟨Tx.toArray⟩] 33)))
  clear r0 r1 r2 k0 k1 k2
  generalize (((w1.setCell ⟨w.heap.size, 0, none⟩ (.int .i64 2)).setCell ⟨w.heap.size, 1, none⟩ (.int .i64 I)).setCell ⟨w.heap.size, 2, none⟩ (.string ⟨Tx.toArray⟩)).alloc (.cells #[.int .i64 2, .int .i64 I, .string ⟨Tx.toArray⟩] 33) = w6 at *
  obtain ⟨r0, r1, r2, _, _, _⟩ := blk3 hR5
  refine bodyPost_ret (v := .agg #[.int .i64 2, .int .i64 I, .string ⟨Tx.toArray⟩]) (by simp [results, Tryz.results91, go_sem, r0, r1, r2]) rfl ?_
  exact ⟨rfl, h5, hT5⟩
set_option maxRecDepth 100000 in
set_option maxHeartbeats 1600000 in
theorem side_long (w : World) (g : Nat) (s : Wire.St) (h : Sc w g 77 s) (o : Int) (K I : Int) (Tx : List UInt8) (hK : Vals.getK s = K) (hI : Vals.getI s = I) (hTx : Vals.getT s = Tx) (_hl : Tx.length ≤ 64) (ho : o ≠ 7) (hk : 32 < Tx.length) :
    Calls Tryz.prog 91 #[.pointer (some ⟨g, 0, none⟩), .int .i64 o] w (Reads w g 77 (.agg #[.int .i64 K, .int .i64 I, .string ⟨Tx.toArray⟩]) ((Vals.getS s).fail 3)) := by
  have hv := fun w0 h0 => vget_at w0 g s h0 K I Tx _ hK hI hTx rfl
  clear hK hI hTx
  have e7 : (o == 7) = false := by simpa using ho
  clear ho
  have e2 : decide ((32 : Int) < (Tx.length : Int)) = true := by simp; omega
  clear hk
  generalize Vals.getS s = s1 at *
  have hg := h.lt
  obtain ⟨hB, hb0⟩ := box3 w 33 (.int .i64 0) (.int .i64 0) (.string ⟨#[]⟩)
  have h0 := h.below hb0
  go_enter Tryz.func91, Tryz.ntmps91
  go_wp2_with fail
  generalize w.alloc (.cells #[.int .i64 0, .int .i64 0, .string ⟨#[]⟩] 33) = w0 at *
  refine (hv w0 h0).mono ?_
  rintro e w1 ⟨rfl, h1, hT1⟩
  have hR1 := hT1.blk hB (by omega)
  have hT1w := (Touch.of_below (g := g) hb0).trans hT1
  have hgw1 : w.heap.size ≤ w1.heap.size := hT1w.size
  have hne : w.heap.size ≠ w1.heap.size := by have := hR1.lt; omega
  have hgv : g ≠ w1.heap.size := by omega
  obtain ⟨hC4, hb2⟩ := box3 w1 33 (.int .i64 K) (.int .i64 I) (.string ⟨Tx.toArray⟩)
  have h4 := h1.below hb2
  have hR4 := hR1.below hb2 hR1.lt
  have hT4w := hT1w.trans (Touch.of_below (g := g) hb2)
  clear hv h h0 hB hb0 hT1
  clear h1 hR1 hT1w hb2
  go_wp2_with fail
  generalize w1.heap.size = gc at *
  generalize w1.alloc (.cells #[.int .i64 K, .int .i64 I, .string ⟨Tx.toArray⟩] 33) = w4 at *
  refine (fail_at w4 g _ h4 3).mono ?_
  rintro e w5 ⟨rfl, h5, hT5⟩
  have hC5 := hT5.blk hC4 (by omega)
  have hR5 := hT5.blk hR4 (by omega)
  have hT5w := hT4w.trans hT5
  clear hC4 hR4 hT4w hT5 h4
  obtain ⟨x0, x1, x2, _, _, _⟩ := blk3 hC5
  obtain ⟨r0, r1, r2, k0, k1, k2⟩ := blk3 hR5
  go_wp2_with fail
  refine bodyPost_ret (v := .agg #[.int .i64 K, .int .i64 I, .string ⟨Tx.toArray⟩]) (by simp [results, Tryz.results91, go_sem, r0, r1, r2]) rfl ?_
  exact ⟨rfl, h5.set3 hR5 (by omega), hT5w.set3 (Nat.le_refl _) _ _ _⟩
set_option maxRecDepth 100000 in
set_option maxHeartbeats 1600000 in
theorem side_ok (w : World) (g : Nat) (s : Wire.St) (h : Sc w g 77 s) (o : Int) (K I : Int) (Tx : List UInt8) (hK : Vals.getK s = K) (hI : Vals.getI s = I) (hTx : Vals.getT s = Tx) (_hl : Tx.length ≤ 64) (ho : o ≠ 7) (hk : Tx.length ≤ 32) :
    Calls Tryz.prog 91 #[.pointer (some ⟨g, 0, none⟩), .int .i64 o] w (Reads w g 77 (.agg #[.int .i64 K, .int .i64 I, .string ⟨Tx.toArray⟩]) (Vals.getS s)) := by
  have hv := fun w0 h0 => vget_at w0 g s h0 K I Tx _ hK hI hTx rfl
  clear hK hI hTx
  have e7 : (o == 7) = false := by simpa using ho
  clear ho
  have e2 : decide ((32 : Int) < (Tx.length : Int)) = false := by simp; omega
  clear hk
  generalize Vals.getS s = s1 at *
  have hg := h.lt
  obtain ⟨hB, hb0⟩ := box3 w 33 (.int .i64 0) (.int .i64 0) (.string ⟨#[]⟩)
  have h0 := h.below hb0
  go_enter Tryz.func91, Tryz.ntmps91
  go_wp2_with fail
  generalize w.alloc (.cells #[.int .i64 0, .int .i64 0, .string ⟨#[]⟩] 33) = w0 at *
  refine (hv w0 h0).mono ?_
  rintro e w1 ⟨rfl, h1, hT1⟩
  have hR1 := hT1.blk hB (by omega)
  have hT1w := (Touch.of_below (g := g) hb0).trans hT1
  have hgw1 : w.heap.size ≤ w1.heap.size := hT1w.size
  have hne : w.heap.size ≠ w1.heap.size := by have := hR1.lt; omega
  have hgv : g ≠ w1.heap.size := by omega
  obtain ⟨hC4, hb2⟩ := box3 w1 33 (.int .i64 K) (.int .i64 I) (.string ⟨Tx.toArray⟩)
  have h4 := h1.below hb2
  have hR4 := hR1.below hb2 hR1.lt
  have hT4w := hT1w.trans (Touch.of_below (g := g) hb2)
  clear hv h h0 hB hb0 hT1
  obtain ⟨r0, r1, r2, k0, k1, k2⟩ := blk3 hR1
  have hlt : w.heap.size < w1.heap.size := hR1.lt
  clear hC4 h4 hR4 hT4w
  go_wp2_with fail
  have hR5 : Blk ((((w1.setCell ⟨w.heap.size, 0, none⟩ (.int .i64 K)).setCell ⟨w.heap.size, 1, none⟩ (.int .i64 I)).setCell ⟨w.heap.size, 2, none⟩ (.string ⟨Tx.toArray⟩)).alloc (.cells #[.int .i64 K, .int .i64 I, .string ⟨Tx.toArray⟩] 33)) w.heap.size 33 #[.int .i64 K, .int .i64 I, .string ⟨Tx.toArray⟩] := by
    have := ((hR1.put 0 (.int .i64 K)).put 1 (.int .i64 I)).put 2 (.string ⟨Tx.toArray⟩)
    exact (by simpa using this : Blk _ _ _ _).alloc _
  have h5 := (h1.set3 (x' := K) (y' := I) (z' := ⟨Tx.toArray⟩) hR1 (by omega)).below ((Below.refl _ _).alloc (Nat.le_refl _) (.cells #[.int .i64 K, .int .i64 I, .string ⟨Tx.toArray⟩] 33))
  have hT5 := (hT1w.set3 (Nat.le_refl _) (.int .i64 K) (.int .i64 I) (.string ⟨Tx.toArray⟩)).trans (Touch.of_below (g := g) ((Below.refl _ _).alloc (Nat.le_refl _) (.cells #[.int .i64 K, .int .i64 I, .string ⟨Tx.toArray⟩] 33)))
  clear r0 r1 r2 k0 k1 k2
  generalize (((w1.setCell ⟨w.heap.size, 0, none⟩ (.int .i64 K)).setCell ⟨w.heap.size, 1, none⟩ (.int .i64 I)).setCell ⟨w.heap.size, 2, none⟩ (.string ⟨Tx.toArray⟩)).alloc (.cells #[.int .i64 K, .int .i64 I, .string ⟨Tx.toArray⟩] 33) = w6 at *
  obtain ⟨r0, r1, r2, _, _, _⟩ := blk3 hR5
  refine bodyPost_ret (v := .agg #[.int .i64 K, .int .i64 I, .string ⟨Tx.toArray⟩]) (by simp [results, Tryz.results91, go_sem, r0, r1, r2]) rfl ?_
  exact ⟨rfl, h5, hT5⟩
theorem getSide_at (w : World) (g : Nat) (s : Wire.St) (h : Sc w g 77 s) (o : Int) (K I : Int) (Tx : List UInt8) (s' : Wire.St) (hK : Vals.getK s = K) (hI : Vals.getI s = I) (hTx : Vals.getT s = Tx) (hs : Preds.sideS s o = s') :
    Calls Tryz.prog 91 #[.pointer (some ⟨g, 0, none⟩), .int .i64 o] w (Reads w g 77 (.agg #[.int .i64 K, .int .i64 I, .string ⟨Tx.toArray⟩]) s') := by
  subst hs
  have hl : Tx.length ≤ 64 := by rw [← hTx]; exact vgetT_le s
  unfold Preds.sideS Preds.wrong
  rw [hK, hTx]
  by_cases h7 : o = 7
  · subst h7
    by_cases hk : K = 2
    · subst hk
      by_cases h2 : 32 < Tx.length
      · rw [if_pos (by simp [h2])]
        exact side_long7 w g s h I Tx hK hI hTx hl h2
      · rw [if_neg (by simp; omega)]
        exact side_ok7 w g s h I Tx hK hI hTx hl (by omega)
    · rw [if_pos (by simp [hk])]
      exact side_pre w g s h K I Tx hK hI hTx hl hk
  · by_cases h2 : 32 < Tx.length
    · rw [if_pos (by simp [h2])]
      exact side_long w g s h o K I Tx hK hI hTx hl h7 h2
    · rw [if_neg (by simp [h7]; omega)]
      exact side_ok w g s h o K I Tx hK hI hTx hl h7 (by omega)
set_option maxRecDepth 100000 in
set_option maxHeartbeats 1600000 in
theorem pget_ex (w : World) (g : Nat) (s : Wire.St) (h : Sc w g 77 s) (N : List UInt8) (O K I : Int) (Tx : List UInt8) (s' : Wire.St) (hN : Preds.getN s = N) (hO : Preds.getO s = O) (hK : Preds.getK s = K) (hI : Preds.getI s = I) (hTx : Preds.getT s = Tx) (hs' : Preds.getS s = s') (hv : Preds.rawO s = 8) :
    Calls Tryz.prog 57 #[.pointer (some ⟨g, 0, none⟩)] w (Reads w g 77 (.agg #[.string ⟨N.toArray⟩, .int .i64 O, .int .i64 K, .int .i64 I, .string ⟨Tx.toArray⟩]) s') := by
  have HV := Lib.hid hv
  have HV8 : Hid ((Preds.nameS s).uptoV 8 = 8) := hv
  have HN := Lib.hid hN
  have HO := Lib.hid hO
  have HK := Lib.hid hK
  have HI := Lib.hid hI
  have HT := Lib.hid hTx
  have eS : Hid (Preds.getS s = Preds.behind s) := by show _ = _; unfold Preds.getS; rw [hv]; rfl
  have HG : Hid ((Preds.behind s).err = 0 → s.textV 16 = N ∧ 8 = O ∧ 0 = K ∧ 0 = I ∧ [] = Tx) := fun hz => by
    have hz' : (Preds.getS s).err = 0 := by rw [eS.out]; exact hz
    obtain ⟨g1, g2, g3, g4, g5⟩ := Preds.get_good s hz'
    refine ⟨g1.symm.trans hN, ?_, ?_, ?_, ?_⟩
    · rw [← hO, g2, hv]; rfl
    · rw [← hK, g3]; unfold Preds.rawK; rw [hv]; rfl
    · rw [← hI, g4]; unfold Preds.rawI; rw [hv]; rfl
    · rw [← hTx, g5]; unfold Preds.rawT; rw [hv]; rfl
  have HBD : Hid ((Preds.behind s).err ≠ 0 → [] = N ∧ 0 = O ∧ 0 = K ∧ 0 = I ∧ [] = Tx) := fun hz => by
    have hz' : (Preds.getS s).err ≠ 0 := by rw [eS.out]; exact hz
    obtain ⟨g1, g2, g3, g4, g5⟩ := Preds.get_bad s hz'
    exact ⟨g1.symm.trans hN, g2.symm.trans hO, g3.symm.trans hK, g4.symm.trans hI, g5.symm.trans hTx⟩
  obtain rfl := eS.out.symm.trans hs'
  clear hv hN hO hK hI hTx hs' HN HO HK HI HT eS
  have hg := h.lt
  obtain ⟨hB, hb0⟩ := box5 w 35 (.string ⟨#[]⟩) (.int .i64 0) (.int .i64 0) (.int .i64 0) (.string ⟨#[]⟩)
  have h0 := h.below hb0
  go_enter Tryz.func57, Tryz.ntmps57
  go_wp2_with fail
  generalize w.alloc (.cells #[.string ⟨#[]⟩, .int .i64 0, .int .i64 0, .int .i64 0, .string ⟨#[]⟩] 35) = w0 at *
  refine (getName_at w0 g s h0).mono ?_
  rintro e w1 ⟨rfl, h1, hT1⟩
  have hR1 := hT1.blk hB (by omega)
  have hT1w := (Touch.of_below (g := g) hb0).trans hT1
  clear h h0 hB hb0 hT1
  generalize s.textV 16 = nm at *
  go_wp2_with fail
  obtain ⟨hC2, hb2⟩ := box5 w1 35 (.string ⟨nm.toArray⟩) (.int .i64 0) (.int .i64 0) (.int .i64 0) (.string ⟨#[]⟩)
  have hgw1 : w.heap.size ≤ w1.heap.size := hT1w.size
  have hne : w.heap.size ≠ w1.heap.size := by have := hR1.lt; omega
  have hgv : g ≠ w1.heap.size := by omega
  have h2 := h1.below hb2
  have hR2 := hR1.below hb2 hR1.lt
  have hT2w := hT1w.trans (Touch.of_below (g := g) hb2)
  clear h1 hR1 hT1w hb2
  generalize w1.heap.size = gc at *
  generalize w1.alloc (.cells #[.string ⟨nm.toArray⟩, .int .i64 0, .int .i64 0, .int .i64 0, .string ⟨#[]⟩] 35) = w2 at *
  refine (getOp_is w2 g _ h2 8 (Preds.behind s) HV8.out rfl).mono ?_
  rintro e w3 ⟨rfl, h3, hT3⟩
  have hC3 := hT3.blk hC2 (by omega)
  have hR3 := hT3.blk hR2 (by omega)
  have hT3w := hT2w.trans hT3
  clear hC2 hR2 hT2w hT3 h2
  obtain ⟨d0, d1, d2, d3, d4, e0, e1, e2, e3, e4⟩ := blk5 hC3
  have hC4 := hC3.put 1 (.int .i64 8)
  simp only [List.setIfInBounds_toArray, List.set_cons_zero, List.set_cons_succ] at hC4
  have h4 := h3.farN hC3 (noByte5 _ _ _ _ _) hgv 1 (.int .i64 8)
  have hT4w := hT3w.new_ (j := 1) (v := .int .i64 8) hgw1
  have hR4 := hR3.far (p := ⟨gc, 1, none⟩) hne (.int .i64 8)
  clear hC3 hT3w hR3 h3
  go_wp2_with fail
  clear d0 d1 d2 d3 d4 e0 e1 e2 e3 e4
  generalize w3.setCell ⟨gc, 1, none⟩ (.int .i64 8) = w4 at *
  by_cases hz : (Preds.behind s).err = 0
  · have HZ : Hid ((Preds.behind s).err = 0) := hz
    obtain ⟨rfl, rfl, rfl, rfl, rfl⟩ := HG.out hz
    clear hz HG HBD
    refine (err_at w4 g _ h4 _ HZ.out).mono ?_
    rintro e w9 ⟨rfl, rfl⟩
    obtain ⟨c0, c1, c2, c3, c4, f0, f1, f2, f3, f4⟩ := blk5 hC4
    obtain ⟨r0, r1, r2, r3, r4, k0, k1, k2, k3, k4⟩ := blk5 hR4
    clear hC4
    go_wp2_with fail
    refine bodyPost_ret (v := .agg #[.string ⟨nm.toArray⟩, .int .i64 8, .int .i64 0, .int .i64 0, .string ⟨#[]⟩]) (by simp [results, Tryz.results57, go_sem, r0, r1, r2, r3, r4]) rfl ?_
    exact ⟨rfl, h4.setP_ hR4 (noByte5 _ _ _ _ _) (by omega) _ _ _ _ _, hT4w.setP_ (Nat.le_refl _) _ _ _ _ _⟩
  · have HZ : Hid ((Preds.behind s).err ≠ 0) := hz
    have hd : (((Preds.behind s).err) != 0) = true := by simpa using hz
    obtain ⟨rfl, rfl, rfl, rfl, rfl⟩ := HBD.out hz
    clear hz HG HBD
    refine (err_at w4 g _ h4 _ rfl).mono ?_
    rintro e w9 ⟨rfl, rfl⟩
    obtain ⟨r0, r1, r2, r3, r4, k0, k1, k2, k3, k4⟩ := blk5 hR4
    clear hC4
    go_wp2_with fail
    refine bodyPost_ret (v := .agg #[.string ⟨#[]⟩, .int .i64 0, .int .i64 0, .int .i64 0, .string ⟨#[]⟩]) (by simp [results, Tryz.results57, go_sem, r0, r1, r2, r3, r4]) rfl ?_
    exact ⟨rfl, h4.setP_ hR4 (noByte5 _ _ _ _ _) (by omega) _ _ _ _ _, hT4w.setP_ (Nat.le_refl _) _ _ _ _ _⟩
set_option maxRecDepth 100000 in
set_option maxHeartbeats 1600000 in
theorem pget_so (w : World) (g : Nat) (s : Wire.St) (h : Sc w g 77 s) (N : List UInt8) (O K I : Int) (Tx : List UInt8) (s' : Wire.St) (hN : Preds.getN s = N) (hO : Preds.getO s = O) (hK : Preds.getK s = K) (hI : Preds.getI s = I) (hTx : Preds.getT s = Tx) (hs' : Preds.getS s = s') (q : Nat) (hv : Preds.rawO s = q) (hq : q ≤ 7) (K0 I0 : Int) (T0 : List UInt8) (hK0 : Vals.getK (Preds.behind s) = K0) (hI0 : Vals.getI (Preds.behind s) = I0) (hT0 : Vals.getT (Preds.behind s) = T0) :
    Calls Tryz.prog 57 #[.pointer (some ⟨g, 0, none⟩)] w (Reads w g 77 (.agg #[.string ⟨N.toArray⟩, .int .i64 O, .int .i64 K, .int .i64 I, .string ⟨Tx.toArray⟩]) s') := by
  have HV := Lib.hid hv
  have HV8 : Hid ((Preds.nameS s).uptoV 8 = q) := hv
  have HN := Lib.hid hN
  have HO := Lib.hid hO
  have HK := Lib.hid hK
  have HI := Lib.hid hI
  have HT := Lib.hid hTx
  have eS : Hid (Preds.getS s = Preds.sideS (Preds.behind s) (q : Int)) := by show _ = _; unfold Preds.getS; rw [hv]; rw [if_neg (by omega)]
  have HG : Hid ((Preds.sideS (Preds.behind s) (q : Int)).err = 0 → s.textV 16 = N ∧ (q : Int) = O ∧ K0 = K ∧ I0 = I ∧ T0 = Tx) := fun hz => by
    have hz' : (Preds.getS s).err = 0 := by rw [eS.out]; exact hz
    obtain ⟨g1, g2, g3, g4, g5⟩ := Preds.get_good s hz'
    refine ⟨g1.symm.trans hN, ?_, ?_, ?_, ?_⟩
    · rw [← hO, g2, hv]
    · rw [← hK, g3]; unfold Preds.rawK; rw [hv]; rw [if_neg (by omega)]; exact hK0.symm
    · rw [← hI, g4]; unfold Preds.rawI; rw [hv]; rw [if_neg (by omega)]; exact hI0.symm
    · rw [← hTx, g5]; unfold Preds.rawT; rw [hv]; rw [if_neg (by omega)]; exact hT0.symm
  have HBD : Hid ((Preds.sideS (Preds.behind s) (q : Int)).err ≠ 0 → [] = N ∧ 0 = O ∧ 0 = K ∧ 0 = I ∧ [] = Tx) := fun hz => by
    have hz' : (Preds.getS s).err ≠ 0 := by rw [eS.out]; exact hz
    obtain ⟨g1, g2, g3, g4, g5⟩ := Preds.get_bad s hz'
    exact ⟨g1.symm.trans hN, g2.symm.trans hO, g3.symm.trans hK, g4.symm.trans hI, g5.symm.trans hTx⟩
  obtain rfl := eS.out.symm.trans hs'
  have HSD := fun w0 h0 => getSide_at w0 g (Preds.behind s) h0 (q : Int) K0 I0 T0 _ hK0 hI0 hT0 rfl
  have e8 : ((q : Int) != 8) = true := by simp; omega
  have hqi : (q : Int) ≤ 7 := by omega
  clear hK0 hI0 hT0 hq
  clear hv hN hO hK hI hTx hs' HN HO HK HI HT eS
  have hg := h.lt
  obtain ⟨hB, hb0⟩ := box5 w 35 (.string ⟨#[]⟩) (.int .i64 0) (.int .i64 0) (.int .i64 0) (.string ⟨#[]⟩)
  have h0 := h.below hb0
  go_enter Tryz.func57, Tryz.ntmps57
  go_wp2_with fail
  generalize w.alloc (.cells #[.string ⟨#[]⟩, .int .i64 0, .int .i64 0, .int .i64 0, .string ⟨#[]⟩] 35) = w0 at *
  refine (getName_at w0 g s h0).mono ?_
  rintro e w1 ⟨rfl, h1, hT1⟩
  have hR1 := hT1.blk hB (by omega)
  have hT1w := (Touch.of_below (g := g) hb0).trans hT1
  clear h h0 hB hb0 hT1
  generalize s.textV 16 = nm at *
  go_wp2_with fail
  obtain ⟨hC2, hb2⟩ := box5 w1 35 (.string ⟨nm.toArray⟩) (.int .i64 0) (.int .i64 0) (.int .i64 0) (.string ⟨#[]⟩)
  have hgw1 : w.heap.size ≤ w1.heap.size := hT1w.size
  have hne : w.heap.size ≠ w1.heap.size := by have := hR1.lt; omega
  have hgv : g ≠ w1.heap.size := by omega
  have h2 := h1.below hb2
  have hR2 := hR1.below hb2 hR1.lt
  have hT2w := hT1w.trans (Touch.of_below (g := g) hb2)
  clear h1 hR1 hT1w hb2
  generalize w1.heap.size = gc at *
  generalize w1.alloc (.cells #[.string ⟨nm.toArray⟩, .int .i64 0, .int .i64 0, .int .i64 0, .string ⟨#[]⟩] 35) = w2 at *
  refine (getOp_is w2 g _ h2 q (Preds.behind s) HV8.out rfl).mono ?_
  rintro e w3 ⟨rfl, h3, hT3⟩
  have hC3 := hT3.blk hC2 (by omega)
  have hR3 := hT3.blk hR2 (by omega)
  have hT3w := hT2w.trans hT3
  clear hC2 hR2 hT2w hT3 h2
  obtain ⟨d0, d1, d2, d3, d4, e0, e1, e2, e3, e4⟩ := blk5 hC3
  have hC4 := hC3.put 1 (.int .i64 (q : Int))
  simp only [List.setIfInBounds_toArray, List.set_cons_zero, List.set_cons_succ] at hC4
  have h4 := h3.farN hC3 (noByte5 _ _ _ _ _) hgv 1 (.int .i64 (q : Int))
  have hT4w := hT3w.new_ (j := 1) (v := .int .i64 (q : Int)) hgw1
  have hR4 := hR3.far (p := ⟨gc, 1, none⟩) hne (.int .i64 (q : Int))
  clear hC3 hT3w hR3 h3
  go_wp2_with fail
  clear d0 d1 d2 d3 d4 e0 e1 e2 e3 e4
  generalize w3.setCell ⟨gc, 1, none⟩ (.int .i64 (q : Int)) = w4 at *
  refine (HSD w4 h4).mono ?_
  rintro e w5 ⟨rfl, h5, hT5⟩
  have hC5 := hT5.blk hC4 (by omega)
  have hR5 := hT5.blk hR4 (by omega)
  have hT5w := hT4w.trans hT5
  clear hC4 hR4 hT4w hT5 h4 HSD
  obtain ⟨d0, d1, d2, d3, d4, e0, e1, e2, e3, e4⟩ := blk5 hC5
  have hC6 := hC5.setV_ K0 I0 ⟨T0.toArray⟩
  have h6 := h5.setV_ hC5 (noByte5 _ _ _ _ _) hgv K0 I0 ⟨T0.toArray⟩
  have hT6w := hT5w.setV_ hgw1 K0 I0 ⟨T0.toArray⟩
  have hR6 := hR5.farV hne K0 I0 ⟨T0.toArray⟩
  clear hC5 hT5w hR5 h5
  go_wp2_with fail
  clear d0 d1 d2 d3 d4 e0 e1 e2 e3 e4
  unfold setV at hC6 h6 hT6w hR6
  generalize ((w5.setCell ⟨gc, 2, none⟩ (.int .i64 K0)).setCell ⟨gc, 3, none⟩ (.int .i64 I0)).setCell ⟨gc, 4, none⟩ (.string ⟨T0.toArray⟩) = w6 at *
  by_cases hz : (Preds.sideS (Preds.behind s) (q : Int)).err = 0
  · have HZ : Hid ((Preds.sideS (Preds.behind s) (q : Int)).err = 0) := hz
    obtain ⟨rfl, rfl, rfl, rfl, rfl⟩ := HG.out hz
    clear hz HG HBD
    refine (err_at w6 g _ h6 _ HZ.out).mono ?_
    rintro e w9 ⟨rfl, rfl⟩
    obtain ⟨c0, c1, c2, c3, c4, f0, f1, f2, f3, f4⟩ := blk5 hC6
    obtain ⟨r0, r1, r2, r3, r4, k0, k1, k2, k3, k4⟩ := blk5 hR6
    clear hC6
    go_wp2_with fail
    refine bodyPost_ret (v := .agg #[.string ⟨nm.toArray⟩, .int .i64 (q : Int), .int .i64 K0, .int .i64 I0, .string ⟨T0.toArray⟩]) (by simp [results, Tryz.results57, go_sem, r0, r1, r2, r3, r4]) rfl ?_
    exact ⟨rfl, h6.setP_ hR6 (noByte5 _ _ _ _ _) (by omega) _ _ _ _ _, hT6w.setP_ (Nat.le_refl _) _ _ _ _ _⟩
  · have HZ : Hid ((Preds.sideS (Preds.behind s) (q : Int)).err ≠ 0) := hz
    have hd : (((Preds.sideS (Preds.behind s) (q : Int)).err) != 0) = true := by simpa using hz
    obtain ⟨rfl, rfl, rfl, rfl, rfl⟩ := HBD.out hz
    clear hz HG HBD
    refine (err_at w6 g _ h6 _ rfl).mono ?_
    rintro e w9 ⟨rfl, rfl⟩
    obtain ⟨r0, r1, r2, r3, r4, k0, k1, k2, k3, k4⟩ := blk5 hR6
    clear hC6
    go_wp2_with fail
    refine bodyPost_ret (v := .agg #[.string ⟨#[]⟩, .int .i64 0, .int .i64 0, .int .i64 0, .string ⟨#[]⟩]) (by simp [results, Tryz.results57, go_sem, r0, r1, r2, r3, r4]) rfl ?_
    exact ⟨rfl, h6.setP_ hR6 (noByte5 _ _ _ _ _) (by omega) _ _ _ _ _, hT6w.setP_ (Nat.le_refl _) _ _ _ _ _⟩
theorem pget_at (w : World) (g : Nat) (s : Wire.St) (h : Sc w g 77 s) (N : List UInt8) (O K I : Int) (Tx : List UInt8) (s' : Wire.St) (hN : Preds.getN s = N) (hO : Preds.getO s = O) (hK : Preds.getK s = K) (hI : Preds.getI s = I) (hTx : Preds.getT s = Tx) (hs' : Preds.getS s = s') :
    Calls Tryz.prog 57 #[.pointer (some ⟨g, 0, none⟩)] w (Reads w g 77 (.agg #[.string ⟨N.toArray⟩, .int .i64 O, .int .i64 K, .int .i64 I, .string ⟨Tx.toArray⟩]) s') := by
  by_cases h8 : Preds.rawO s = 8
  · exact pget_ex w g s h N O K I Tx s' hN hO hK hI hTx hs' h8
  · exact pget_so w g s h N O K I Tx s' hN hO hK hI hTx hs' _ rfl (by have := Preds.rawO_le s; omega) _ _ _ rfl rfl rfl
end Go.Proofs.YtlbendiggdmljaaGreat
