/- Package wire: bytes copied, numbers, ints and texts laid. -/
import Derived.Test.YtcmjekchfgnbdaaWSize
import Derived.Lib.AppendStr
namespace Go.Proofs.Ytcmjekchfgnbdaa
open Go.RowKit
set_option maxRecDepth 100000 in
set_option maxHeartbeats 400000 in
/-- copied: the bytes anew, with room behind. -/
theorem copied_at (A : Option Addr) (bs : List UInt8) (n cap r m : Nat) (ri : Int) (hri : ri = (r : Int)) (hn : bs.length = n) (hm : n + r = m) (hl : m ≤ 140737488355328) (w : World) (hr : Rd w A bs) :
    Calls Try.prog 38 #[.slice A n cap, .int .i64 ri] w fun e w' => ∃ g Z, e = .returned (.slice (some ⟨g, 0, none⟩) n m) ∧ w.heap.size ≤ g ∧ Below w.heap.size w w' ∧ Blk w' g 5 (bs.map Bv ++ Z).toArray ∧ Z.length = r := by
  subst hn
  subst hm
  subst hri
  obtain ⟨i0, hi0, hz0, hz1, hz2⟩ := info_parts byte_info
  have hmk := fun W => run_make (P := Try.prog) W 27 5 i0 _ Try.underlying27 hi0 hz0 .i64 .i64 bs.length (bs.length + r) (by omega) (by omega) (by rw [hz2]; omega) (by omega)
  obtain ⟨Z, hZ⟩ : ∃ Z : List Value, Z = (madeCells #[Value.int IntKind.u8 0] (bs.length + r)).toList := ⟨_, rfl⟩
  have HZ := Lib.hid hZ
  clear hZ
  have hZl : Z.length = bs.length + r := by rw [HZ.out]; simp [size_madeCells]
  have HZl := Lib.hid hZl
  clear hZl
  have hr1 : ∀ o : Obj, Rd (w.alloc o) A bs := fun o => hr.below ((Below.refl _ _).alloc (Nat.le_refl _) o)
  go_enter Try.func38, Try.ntmps38
  go_wp2_with (refine wpList_copy_rd rfl (.tmp 13) (.tmp 14) 27 27 rfl 5 Try.underlying27 (by kernel_rfl) w.heap.size bs.length (bs.length + r) A bs.length cap (by rfl) (by rfl) bs (hr1 _) (by simp) Z 5 (by rw [HZ.out]; exact heap_alloc_new _ _) (by rw [HZl.out]; omega) ?_; intro w2 hB2 hb2')
  have hb2 := hb2' w.heap.size w ((Below.refl _ _).alloc (Nat.le_refl _) _) (Nat.le_refl _)
  go_ret
  exact ⟨w.heap.size, Z.drop bs.length, rfl, Nat.le_refl _, hb2, hB2, by rw [List.length_drop, HZl.out]; omega⟩
theorem or128 (n : Nat) : bits .or .u8 ((n : Int) % 256) 128 = (((UInt8.ofNat (n % 128 + 128)).toNat : Nat) : Int) := by
  have h : ∀ x : Fin 256, x.val ||| 128 = x.val % 128 + 128 := by decide +kernel
  have e := u8_or_nat (n % 256) 128 (by omega) (by decide)
  have h' := h ⟨n % 256, by omega⟩
  simp only at h'
  rw [h'] at e
  have : (UInt8.ofNat (n % 128 + 128)).toNat = n % 128 + 128 := by simp; omega
  rw [this]
  refine Eq.trans ?_ (e.trans ?_)
  · rfl
  · omega
theorem byte_of (n : Nat) (h : n < 128) : (n : Int) = (((UInt8.ofNat n).toNat : Nat) : Int) := by
  have : (UInt8.ofNat n).toNat = n := by simp; omega
  rw [this]
theorem lay_step (bs pre : List UInt8) (Z : List Value) (x : UInt8) (n k : Nat) (hn : bs.length + k = n) (hk : pre.length = k) :
    (((bs ++ pre).map Bv ++ Z.drop k).take n ++ [Value.int .u8 (x.toNat : Int)] ++ ((bs ++ pre).map Bv ++ Z.drop k).drop (n + 1)).toArray = ((bs ++ (pre ++ [x])).map Bv ++ Z.drop (k + 1)).toArray := by
  have hl : ((bs ++ pre).map Bv).length = n := by simp; omega
  have e1 : ((bs ++ pre).map Bv ++ Z.drop k).take n = (bs ++ pre).map Bv := by
    rw [List.take_append_of_le_length (by omega)]; exact List.take_of_length_le (by omega)
  have e2 : ((bs ++ pre).map Bv ++ Z.drop k).drop (n + 1) = Z.drop (k + 1) := by
    rw [List.drop_append, List.drop_eq_nil_of_le (by omega), hl, List.nil_append, List.drop_drop]
    congr 1; omega
  rw [e1, e2]
  simp [Bv]
theorem blk_step {w : World} {g : Nat} {t : TypeId} {bs pre : List UInt8} {Z : List Value} {x : UInt8} {n k : Nat} {v : Int} (hv : v = (x.toNat : Int)) (hn : bs.length + k = n) (hk : pre.length = k)
    (h : Blk w g t (((bs ++ pre).map Bv ++ Z.drop k).take n ++ [Value.int .u8 v] ++ ((bs ++ pre).map Bv ++ Z.drop k).drop (n + 1)).toArray) : Blk w g t ((bs ++ (pre ++ [x])).map Bv ++ Z.drop (k + 1)).toArray := by
  subst hv
  rw [lay_step bs pre Z x n k hn hk] at h; exact h
set_option maxRecDepth 100000 in
set_option maxHeartbeats 800000 in
theorem lay_at (g : Nat) (bs : List UInt8) (Z : List Value) (n cap m L : Nat) (hn : bs.length = n) (hc : n + Z.length = cap) (hm : m < 2 ^ 64) (hL : n + (Wire.put m).length = L) (hfit : (Wire.put m).length ≤ Z.length) (hl : cap ≤ 140737488355328) (w : World)
    (hB : Blk w g 5 (bs.map Bv ++ Z).toArray) :
    Calls Try.prog 51 #[.slice (some ⟨g, 0, none⟩) n cap, .int .u64 (m : Int)] w fun e w' => e = .returned (.slice (some ⟨g, 0, none⟩) L cap) ∧ Blk w' g 5 ((bs ++ Wire.put m).map Bv ++ Z.drop (Wire.put m).length).toArray ∧ (∀ B w0, Below B w0 w → B ≤ g → Below B w0 w') := by
  obtain ⟨i0, hi0, hz0, hz1, hz2⟩ := info_parts byte_info
  have HN := Lib.hid hn
  have HC := Lib.hid hc
  have HM := Lib.hid hm
  have HL := Lib.hid hL
  have hp1 := Wire.put_pos m
  have hp2 := Wire.put_len_le m hm
  have hcap : n + (Wire.put m).length ≤ cap := by omega
  clear hn hc hm hL
  generalize hlen : (Wire.put m).length = len at *
  have HE := Lib.hid hlen
  clear hlen
  go_enter Try.func51, Try.ntmps51
  go_wp2_with fail
  refine (size_any m _ HM.out).mono ?_
  rintro e w1 ⟨rfl, rfl⟩
  rw [HE.out]
  go_wp2_with fail
  go_loopw [0, 1, 8] (fun v x i wr => ∃ (pre : List UInt8) (q : Nat), Wire.put m = pre ++ Wire.put q ∧ Hid (q < 2 ^ 64) ∧ v = .slice (some ⟨g, 0, none⟩) (n + pre.length) cap ∧ x = .int .u64 (q : Int) ∧ i = .int .i64 (pre.length : Int) ∧ Blk wr g 5 ((bs ++ pre).map Bv ++ Z.drop pre.length).toArray ∧ (∀ B w0, Below B w0 w → B ≤ g → Below B w0 wr)) (fun _ _ i _ => len - (intOf i).toNat)
  case atStart => exact ⟨[], m, rfl, HM, rfl, rfl, rfl, by simpa using hB, fun _ _ h _ => h⟩
  case round =>
    obtain ⟨pre, q, hpq, hq, rfl, rfl, rfl, hBr, hbr⟩ := hrel
    have hll : len = pre.length + (Wire.put q).length := by rw [← HE.out, hpq, List.length_append]
    have HPQ := Lib.hid hpq
    have HLL := Lib.hid hll
    have hqp := Wire.put_pos q
    clear hpq
    have hprel : pre.length < len := by omega
    clear hll
    generalize hk : pre.length = k at *
    have HK := Lib.hid hk
    clear hk
    have hnew := fun vs => Blk.src (cs := vs) (Blk.new wr 5 vs.toArray)
    have hBa := fun O => hBr.alloc O
    by_cases hlt : k + 1 < len
    · have hq128 : 128 ≤ q := by
        rcases Nat.lt_or_ge q 128 with h | h
        · have := HLL.out; rw [Wire.put_lo q h] at this; simp at this; omega
        · exact h
      have hd1 : (k : Int) < (len : Int) - 1 := by omega
      have HF : Hid (n + k + 1 ≤ cap) := by show _ ≤ _; omega
      have HG : Hid (n + k + 1 ≤ ((bs ++ pre).map Bv ++ Z.drop k).length) := by
        show _ ≤ _
        simp [HN.out, HK.out]; omega
      go_wp2_with (at_builtin; refine wpList_append_fit rfl (.tmp 10) (.tmp 14) 27 rfl 5 i0 Try.underlying27 hi0 hz1 g (n + k) cap ((bs ++ pre).map Bv ++ Z.drop k) (by rfl) (hBa _) ⟨wr.heap.size, 0, none⟩ 1 1 [.int .u8 (bits .or .u8 ((q : Int) % 256) 128)] (by rfl) (by rfl) (hnew _) (by intro u hu; simp at hu; subst hu; rfl) HF.out HG.out ?_; intro w4 hB4 hb4')
      go_roundw
      case rel =>
        refine ⟨pre ++ [UInt8.ofNat (q % 128 + 128)], q / 128, ?_, ?_, ?_, ?_, ?_, ?_, ?_⟩
        · rw [HPQ.out, Wire.put_hi q hq128]; simp
        · have := hq.out; exact (by omega : q / 128 < 2 ^ 64)
        · simp [HK.out]; omega
        · go_num
        · simp [HK.out]
        · rw [List.length_append, List.length_singleton, HK.out]
          exact blk_step (or128 q) (by rw [HN.out]) HK.out hB4
        · intro B w0 h hg
          have hg2 := hBr.lt
          exact hb4' B w0 ((hbr B w0 h hg).alloc (by omega) _) hg
      case measure => simp [intOf]; omega
    · have hq128 : q < 128 := by
        rcases Nat.lt_or_ge q 128 with h | h
        · exact h
        · have := HLL.out; rw [Wire.put_hi q h] at this; simp at this
          have := Wire.put_pos (q / 128); omega
      have hd1 : ¬ (k : Int) < (len : Int) - 1 := by omega
      have HF : Hid (n + k + 1 ≤ cap) := by show _ ≤ _; omega
      have HG : Hid (n + k + 1 ≤ ((bs ++ pre).map Bv ++ Z.drop k).length) := by
        show _ ≤ _
        simp [HN.out, HK.out]; omega
      go_wp2_with (at_builtin; refine wpList_append_fit rfl (.tmp 19) (.tmp 22) 27 rfl 5 i0 Try.underlying27 hi0 hz1 g (n + k) cap ((bs ++ pre).map Bv ++ Z.drop k) (by rfl) (hBa _) ⟨wr.heap.size, 0, none⟩ 1 1 [.int .u8 (q : Int)] (by rfl) (by rfl) (hnew _) (by intro u hu; simp at hu; subst hu; rfl) HF.out HG.out ?_; intro w4 hB4 hb4')
      go_ret
      have h1 : (Wire.put q).length = 1 := by rw [Wire.put_lo q hq128]; rfl
      have h2 : len = k + 1 := by have := HLL.out; omega
      refine ⟨?_, ?_, ?_⟩
      · rw [← HL.out, h2]; rfl
      · rw [HPQ.out, Wire.put_lo q hq128, h2]
        simpa using blk_step (byte_of q hq128) (by rw [HN.out]) HK.out hB4
      · intro B w0 h hg
        have hg2 := hBr.lt
        exact hb4' B w0 ((hbr B w0 h hg).alloc (by omega) _) hg
set_option maxRecDepth 100000 in
set_option maxHeartbeats 400000 in
theorem put_at (A : Option Addr) (bs : List UInt8) (n cap m L : Nat) (hn : bs.length = n) (hL : n + (Wire.put m).length = L) (hm : m < 2 ^ 64) (hl : L ≤ 140737488355328) (w : World) (hr : Rd w A bs) :
    Calls Try.prog 33 #[.slice A n cap, .int .u64 (m : Int)] w fun e w' => ∃ g, e = .returned (.slice (some ⟨g, 0, none⟩) L L) ∧ w.heap.size ≤ g ∧ Below w.heap.size w w' ∧ Blk w' g 5 ((bs ++ Wire.put m).map Bv).toArray := by
  have HN := Lib.hid hn
  have HM := Lib.hid hm
  have HL := Lib.hid hL
  clear hn hm hL
  go_enter Try.func33, Try.ntmps33
  go_wp2_with fail
  refine (size_any m _ HM.out).mono ?_
  rintro e w1 ⟨rfl, rfl⟩
  go_wp2_with fail
  refine (copied_at A bs n cap (Wire.put m).length L _ rfl HN.out HL.out hl w hr).mono ?_
  rintro e w1 ⟨g, Z, rfl, hg, hb, hB, hZ⟩
  have HZ := Lib.hid hZ
  clear hZ
  go_wp2_with fail
  refine (lay_at g bs Z n L m L HN.out (by rw [HZ.out]; exact HL.out) HM.out HL.out (by rw [HZ.out]; omega) hl w1 hB).mono ?_
  rintro e w2 ⟨rfl, hB2, hb2⟩
  go_wp2_with fail
  go_ret
  refine ⟨g, rfl, hg, hb2 _ _ hb hg, ?_⟩
  have hd : Z.drop (Wire.put m).length = [] := List.drop_eq_nil_of_le (by rw [HZ.out]; omega)
  rw [hd] at hB2
  simpa using hB2
theorem fold_eq (n : Int) (h1 : -9223372036854775808 ≤ n) (h2 : n ≤ 9223372036854775807) : bits .xor .u64 (IntKind.u64.wrap (IntKind.u64.wrap n * 2)) (IntKind.u64.wrap (n / 9223372036854775808)) = ((Wire.zig n : Nat) : Int) := by
  rw [IntKind.wrap_u64, IntKind.wrap_u64, IntKind.wrap_u64]
  unfold Wire.zig
  by_cases h : n < 0
  · rw [if_pos h]
    have e1 : n % 18446744073709551616 * 2 % 18446744073709551616 = (((2 * n + 18446744073709551616).toNat : Nat) : Int) := by omega
    have e2 : n / 9223372036854775808 % 18446744073709551616 = ((2 ^ 64 - 1 : Nat) : Int) := by omega
    rw [e1, e2, bits_xor_u64_nat _ _ (by omega) (by decide), Nat.xor_comm, Lib.xor_ones64 _ (by omega)]
    omega
  · rw [if_neg h]
    have e1 : n % 18446744073709551616 * 2 % 18446744073709551616 = (((2 * n).toNat : Nat) : Int) := by omega
    have e2 : n / 9223372036854775808 % 18446744073709551616 = ((0 : Nat) : Int) := by omega
    rw [e1, e2, bits_xor_u64_nat _ _ (by omega) (by decide), Nat.xor_zero]
    omega
theorem folded_any (n : Int) (h1 : -9223372036854775808 ≤ n) (h2 : n ≤ 9223372036854775807) (w : World) :
    Calls Try.prog 66 #[.int .i64 n] w fun e w' => e = .returned (.int .u64 ((Wire.zig n : Nat) : Int)) ∧ w = w' := by
  have HE := Lib.hid (fold_eq n h1 h2)
  go_enter Try.func66, Try.ntmps66
  go_wp2
  go_ret
  refine ⟨?_, rfl⟩
  exact ret_int HE.out
set_option maxRecDepth 100000 in
theorem putInt_at (A : Option Addr) (bs : List UInt8) (n cap L : Nat) (m : Int) (hn : bs.length = n) (hL : n + (Wire.put (Wire.zig m)).length = L) (h1 : -9223372036854775808 ≤ m) (h2 : m ≤ 9223372036854775807) (hl : L ≤ 140737488355328) (w : World) (hr : Rd w A bs) :
    Calls Try.prog 53 #[.slice A n cap, .int .i64 m] w fun e w' => ∃ g, e = .returned (.slice (some ⟨g, 0, none⟩) L L) ∧ w.heap.size ≤ g ∧ Below w.heap.size w w' ∧ Blk w' g 5 ((bs ++ Wire.put (Wire.zig m)).map Bv).toArray := by
  have HN := Lib.hid hn
  have HL := Lib.hid hL
  clear hn hL
  go_enter Try.func53, Try.ntmps53
  go_wp2_with fail
  refine (folded_any m h1 h2 _).mono ?_
  rintro e w1 ⟨rfl, rfl⟩
  have HM := Lib.hid (Wire.zig_lt m h1 h2)
  go_wp2_with fail
  refine (put_at A bs n cap (Wire.zig m) L HN.out HL.out HM.out hl w hr).mono ?_
  rintro e w2 ⟨g, rfl, hg, hb, hB⟩
  go_wp2_with fail
  go_ret
  exact ⟨g, rfl, hg, hb, by simpa using hB⟩
/-- append(b, s...) of a text, where there is room. -/
theorem wpList_append_text {P : Program} {w : World} {ops : Array Oper} {rest : List Oper} {o : Oper} {a : Act} {Q : Exit → Act → World → Prop} (hgd : o.guard = none) (s x : Operand) (t u : TypeId)
    (ho : o.op = .call { callee := .builtin .append, args := #[s, x], argTypes := #[t, u] }) (e : TypeId) (i : TypeInfo) (ht : P.underlying t = some (.slice e)) (hu : P.underlying u = some .string) (hi : P.info? e = some i) (hsize : i.size = 1)
    (g n cap : Nat) (cur : List Value) (hs : a.eval s = .slice (some ⟨g, 0, none⟩) n cap) (hg : Blk w g e cur.toArray)
    (ss : List UInt8) (m : Nat) (hx : a.eval x = .string ⟨ss.toArray⟩) (hm : ss.length = m)
    (hroom : n + m ≤ cap) (hfit : n + m ≤ cur.length)
    (h : ∀ w', Blk w' g e (cur.take n ++ ss.map Bv ++ cur.drop (n + m)).toArray → (∀ B w0, Below B w0 w → B ≤ g → Below B w0 w') → wpList P ops Q rest (a.put o.dst (.slice (some ⟨g, 0, none⟩) (n + m) cap)) w') : wpList P ops Q (o :: rest) a w := by
  subst hm
  refine wpList_plain hgd fun K hK => ?_
  have hsz : (⟨ss.toArray⟩ : ByteArray).size = ss.length := rfl
  have hr := Lib.run_append_room_string (P := P) w t u o.type e i ht hu hi hsize g n cap cur.toArray hg ⟨ss.toArray⟩ (by rw [hsz]; exact hroom) (by rw [hsz]; simpa using hfit)
  unfold Oper.wp execOp
  simp only [ho, resolve, invoke, builtin, Sem.run_bind, Sem.run_pure, Result.andThen_ok, List.map_toArray, List.map_cons, List.map_nil, hs, hx, hr]
  refine hK _ _ (h _ ?_ fun B w0 hb hB => below_setRow hb hB _)
  have e1 : Lib.strCells ⟨ss.toArray⟩ = ss.map Bv := by simp [Lib.strCells, Bv]
  rw [hsz, e1]
  exact setRow_heap w g cur.toArray _ e _ hg
set_option maxRecDepth 100000 in
set_option maxHeartbeats 800000 in
theorem putText_at (A : Option Addr) (bs ss : List UInt8) (n cap k L : Nat) (hn : bs.length = n) (hk : ss.length = k) (hL : n + (Wire.text ss).length = L) (hl : L ≤ 140737488355328) (w : World) (hr : Rd w A bs) :
    Calls Try.prog 34 #[.slice A n cap, .string ⟨ss.toArray⟩] w fun e w' => ∃ g, e = .returned (.slice (some ⟨g, 0, none⟩) L L) ∧ w.heap.size ≤ g ∧ Below w.heap.size w w' ∧ Blk w' g 5 ((bs ++ Wire.text ss).map Bv).toArray := by
  obtain ⟨i0, hi0, hz0, hz1, hz2⟩ := info_parts byte_info
  have hkk : k < 2 ^ 64 := by
    have : (Wire.text ss).length = (Wire.put ss.length).length + ss.length := by simp [Wire.text]
    omega
  have hkl : k ≤ 140737488355328 := by
    have : (Wire.text ss).length = (Wire.put ss.length).length + ss.length := by simp [Wire.text]
    omega
  have HS : Hid ((⟨ss.toArray⟩ : ByteArray).size = k) := hk
  have HX : Hid (n + ((Wire.put k).length + k) = L) := by
    show _ = _
    rw [← hL, ← hk]; simp [Wire.text]
  have HT : Hid (Wire.text ss = Wire.put k ++ ss) := by
    show _ = _
    rw [← hk]; rfl
  have hp2 := Wire.put_len_le k hkk
  have HN := Lib.hid hn
  have HK := Lib.hid hk
  have HKK := Lib.hid hkk
  clear hn hk hL hkk
  have hsz : (⟨ss.toArray⟩ : ByteArray).size = k := HS.out
  generalize hlen : (Wire.put k).length = len at *
  have HE := Lib.hid hlen
  clear hlen
  go_enter Try.func34, Try.ntmps34
  go_wp2_with fail
  refine (size_any k _ HKK.out).mono ?_
  rintro e w1 ⟨rfl, rfl⟩
  rw [HE.out]
  go_wp2_with fail
  refine (copied_at A bs n cap (len + k) L _ (by omega) HN.out HX.out hl w hr).mono ?_
  rintro e w1 ⟨g, Z, rfl, hg, hb, hB, hZ⟩
  have HZ := Lib.hid hZ
  clear hZ
  have HF : Hid (n + len + k ≤ L) := by have := HX.out; show _ ≤ _; omega
  have HA : Hid (n + len + k = L) := by have := HX.out; show _ = _; omega
  have HG : Hid (n + len + k ≤ ((bs ++ Wire.put k).map Bv ++ Z.drop len).length) := by
    show _ ≤ _
    simp [HN.out, HE.out, HZ.out]; omega
  go_wp2_with fail
  refine (lay_at g bs Z n L k (n + len) HN.out (by rw [HZ.out]; exact HX.out) HKK.out (by rw [HE.out]) (by rw [HZ.out, HE.out]; omega) hl w1 hB).mono ?_
  rintro e w2 ⟨rfl, hB2, hb2⟩
  rw [HE.out] at hB2
  have hb3 := hb2 _ _ hb hg
  clear hb2
  go_wp2_with (at_builtin; refine wpList_append_text rfl (.tmp 19) (.tmp 20) 27 9 rfl 5 i0 Try.underlying27 Try.underlying9 hi0 hz1 g (n + len) L ((bs ++ Wire.put k).map Bv ++ Z.drop len) (by rfl) hB2 ss k (by rfl) HK.out HF.out HG.out ?_; intro w4 hB4 hb4')
  go_ret
  refine ⟨g, by rw [← HA.out]; rfl, hg, hb4' _ _ hb3 hg, ?_⟩
  rw [HT.out]
  have hl1 : ((bs ++ Wire.put k).map Bv).length = n + len := by simp [HN.out, HE.out]
  have e1 : ((bs ++ Wire.put k).map Bv ++ Z.drop len).take (n + len) = (bs ++ Wire.put k).map Bv := by
    rw [List.take_append_of_le_length (by omega)]; exact List.take_of_length_le (by omega)
  have e2 : ((bs ++ Wire.put k).map Bv ++ Z.drop len).drop (n + len + k) = [] := by
    apply List.drop_eq_nil_of_le
    simp [HN.out, HE.out, HZ.out]; omega
  rw [e1, e2] at hB4
  simpa using hB4
end Go.Proofs.Ytcmjekchfgnbdaa
