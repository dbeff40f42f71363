/- A value of a span that is not in another one. -/
import Derived.Test.YtcgmbgfbhdimeaaSSml
namespace Spans
open Go.Op (bytesLess)
theorem not_sub {a b : Sp} (ha : Canon a) (hb : Canon b) (h : inn a b = false) : ¬ ∀ v, has a v = true → has b v = true := fun k => by
  rw [(in_iff ha hb).2 k] at h; simp at h
theorem out_kind {b : Sp} {v : Val} (h4 : b.kind ≠ 4) (hk : v.k ≠ b.kind) : has b v = false := by
  cases h : has b v with
  | false => rfl
  | true => rcases has_kind h with e | e
            · exact absurd e h4
            · exact absurd e hk
theorem sub_any {a b : Sp} (ha : Canon a) (hb : Canon b) (h : inn a b = false) : b.kind ≠ 4 := fun h4 => by
  refine not_sub ha hb h fun v hv => ?_
  have e : b.kind = 4 := h4
  unfold has
  rw [if_neg (by omega), if_pos e]
  exact has_right hv
theorem sub_none {a b : Sp} (ha : Canon a) (hb : Canon b) (h : inn a b = false) : a.kind ≠ 0 := fun h0 => by
  refine not_sub ha hb h fun v hv => ?_
  unfold has at hv
  rw [if_pos h0] at hv
  simp at hv
theorem wit_N {a b : Sp} (ha : CanonN a) (hb : CanonN b) (hk : a.kind = b.kind) (h : inn a b = false) (h1 : b.lo ≤ a.lo) (h2 : a.hi ≤ b.hi) (h3 : ∀ v ∈ b.no, has a v = false) : False := by
  refine not_sub (.inr (.inr (.inl ha))) (.inr (.inr (.inl hb))) h fun v hv => ?_
  have hv' := hv
  rw [N_iff ha] at hv
  rw [N_iff hb]
  exact ⟨hv.1, hv.2.1.trans hk, fun hm => by rw [h3 v hm] at hv'; simp at hv', by omega, by omega⟩
theorem wit_T {a b : Sp} (ha : CanonT a) (hb : CanonT b) (h : inn a b = false) (h1 : bytesLess a.frm b.frm = false) (h3 : ∀ v ∈ b.no, has a v = false) : b.opn = false ∧ (a.opn = true ∨ bytesLess b.to_ a.to_ = true) := by
  cases ho : b.opn with
  | true =>
    exfalso
    refine not_sub (.inr (.inr (.inr ha))) (.inr (.inr (.inr hb))) h fun v hv => ?_
    have hv' := hv
    rw [T_iff ha] at hv
    rw [T_iff hb]
    exact ⟨hv.1, hv.2.1, fun hm => by rw [h3 v hm] at hv'; simp at hv', le_trans h1 hv.2.2.2.1, .inl ho⟩
  | false =>
    refine ⟨rfl, ?_⟩
    cases hao : a.opn with
    | true => exact .inl rfl
    | false =>
      right
      cases hlt : bytesLess b.to_ a.to_ with
      | true => rfl
      | false =>
        exfalso
        refine not_sub (.inr (.inr (.inr ha))) (.inr (.inr (.inr hb))) h fun v hv => ?_
        have hv' := hv
        rw [T_iff ha] at hv
        rw [T_iff hb]
        refine ⟨hv.1, hv.2.1, fun hm => by rw [h3 v hm] at hv'; simp at hv', le_trans h1 hv.2.2.2.1, .inr ?_⟩
        rcases hv.2.2.2.2 with e | e
        · rw [hao] at e; simp at e
        · exact lt_of_lt_of_le e hlt
end Spans
namespace Go.Proofs.Ytcgmbgfbhdimeaa
open Go.RowKit Go.Sort Spans Op
/-- What witness tells. -/
def Wits (w : World) (a b : Sp) (e : Ending) (w' : World) : Prop := ∃ k i x, e = .returned (.tuple #[.agg #[.int .i64 k, .int .i64 i, .string ⟨x.toArray⟩], .bool true]) ∧ x.length ≤ 100 ∧ -9223372036854775808 ≤ i ∧ i ≤ 9223372036854775807 ∧ has a ⟨k, i, x⟩ = true ∧ has b ⟨k, i, x⟩ = false ∧ Below w.heap.size w w'
theorem gr5 (w : World) (a b c d e : Obj) : Grown w (((((w.alloc a).alloc b).alloc c).alloc d).alloc e) := (((gr3 w a b c).alloc d).alloc e)
set_option maxRecDepth 100000 in
set_option maxHeartbeats 4000000 in
theorem wit_any (lo hi : Int) (f t : List UInt8) (o : Bool) (A : Option Addr) (n c : Nat) (K' lo' hi' : Int) (f' t' : List UInt8) (o' : Bool) (A' : Option Addr) (n' c' : Nat) (w : World) (r : Int) (hr : (if K' = 1 then 3 else 1) = r) : Calls Try.prog 25 #[.agg #[.int .i64 4, .int .i64 lo, .int .i64 hi, .string ⟨f.toArray⟩, .string ⟨t.toArray⟩, .bool o, .slice A n c], .agg #[.int .i64 K', .int .i64 lo', .int .i64 hi', .string ⟨f'.toArray⟩, .string ⟨t'.toArray⟩, .bool o', .slice A' n' c']] w fun e w' => e = .returned (.tuple #[.agg #[.int .i64 r, .int .i64 0, .string ⟨#[]⟩], .bool true]) ∧ Below w.heap.size w w' := by
  go_enter Try.func25, Try.ntmps25
  by_cases h1 : K' = 1
  · rw [if_pos h1] at hr
    subst hr; subst h1
    go_wp2_with fail
    refine bodyPost_ret (v := .tuple #[.agg #[.int .i64 3, .int .i64 0, .string ⟨#[]⟩], .bool true]) (by simp [results, Try.results25, go_sem]) rfl ?_
    exact ⟨rfl, (gr3 _ _ _ _).below⟩
  · rw [if_neg h1] at hr
    subst hr
    have v1 : (K' == 1) = false := beq_eq_false_iff_ne.2 h1
    go_wp2_with fail
    refine bodyPost_ret (v := .tuple #[.agg #[.int .i64 1, .int .i64 0, .string ⟨#[]⟩], .bool true]) (by simp [results, Try.results25, go_sem]) rfl ?_
    exact ⟨rfl, (gr3 _ _ _ _).below⟩
set_option maxRecDepth 100000 in
set_option maxHeartbeats 4000000 in
theorem wit_kinds (K lo hi : Int) (f t : List UInt8) (o : Bool) (A : Option Addr) (n c : Nat) (K' lo' hi' : Int) (f' t' : List UInt8) (o' : Bool) (A' : Option Addr) (n' c' : Nat) (w : World) (h4 : K ≠ 4) (hk : K ≠ K') : Calls Try.prog 25 #[.agg #[.int .i64 K, .int .i64 lo, .int .i64 hi, .string ⟨f.toArray⟩, .string ⟨t.toArray⟩, .bool o, .slice A n c], .agg #[.int .i64 K', .int .i64 lo', .int .i64 hi', .string ⟨f'.toArray⟩, .string ⟨t'.toArray⟩, .bool o', .slice A' n' c']] w fun e w' => e = .returned (.tuple #[.agg #[.int .i64 K, .int .i64 lo, .string ⟨f.toArray⟩], .bool true]) ∧ Below w.heap.size w w' := by
  have v4 : (K == 4) = false := beq_eq_false_iff_ne.2 h4
  have vk : (K == K') = false := beq_eq_false_iff_ne.2 hk
  go_enter Try.func25, Try.ntmps25
  go_wp2_with fail
  refine bodyPost_ret (v := .tuple #[.agg #[.int .i64 K, .int .i64 lo, .string ⟨f.toArray⟩], .bool true]) (by simp [results, Try.results25, go_sem]) rfl ?_
  exact ⟨rfl, (gr5 _ _ _ _ _ _).below⟩
set_option maxRecDepth 100000 in
set_option maxHeartbeats 4000000 in
theorem wit_first (K lo hi : Int) (A : Option Addr) (n c : Nat) (lo' hi' : Int) (A' : Option Addr) (n' c' : Nat) (w : World) (hk : K = 1 ∨ K = 3) (h : lo < lo') : Calls Try.prog 25 #[.agg #[.int .i64 K, .int .i64 lo, .int .i64 hi, .string ⟨#[]⟩, .string ⟨#[]⟩, .bool false, .slice A n c], .agg #[.int .i64 K, .int .i64 lo', .int .i64 hi', .string ⟨#[]⟩, .string ⟨#[]⟩, .bool false, .slice A' n' c']] w fun e w' => e = .returned (.tuple #[.agg #[.int .i64 K, .int .i64 lo, .string ⟨#[]⟩], .bool true]) ∧ Below w.heap.size w w' := by
  have v4 : (K == 4) = false := beq_eq_false_iff_ne.2 (by omega)
  have v2 : (K == 2) = false := beq_eq_false_iff_ne.2 (by omega)
  go_enter Try.func25, Try.ntmps25
  go_wp2_with fail
  refine bodyPost_ret (v := .tuple #[.agg #[.int .i64 K, .int .i64 lo, .string ⟨#[]⟩], .bool true]) (by simp [results, Try.results25, go_sem]) rfl ?_
  exact ⟨rfl, (gr5 _ _ _ _ _ _).below⟩
set_option maxRecDepth 100000 in
set_option maxHeartbeats 4000000 in
theorem wit_last (K lo hi : Int) (A : Option Addr) (n c : Nat) (lo' hi' : Int) (A' : Option Addr) (n' c' : Nat) (w : World) (hk : K = 1 ∨ K = 3) (h0 : ¬ lo < lo') (h : hi' < hi) : Calls Try.prog 25 #[.agg #[.int .i64 K, .int .i64 lo, .int .i64 hi, .string ⟨#[]⟩, .string ⟨#[]⟩, .bool false, .slice A n c], .agg #[.int .i64 K, .int .i64 lo', .int .i64 hi', .string ⟨#[]⟩, .string ⟨#[]⟩, .bool false, .slice A' n' c']] w fun e w' => e = .returned (.tuple #[.agg #[.int .i64 K, .int .i64 hi, .string ⟨#[]⟩], .bool true]) ∧ Below w.heap.size w w' := by
  have v4 : (K == 4) = false := beq_eq_false_iff_ne.2 (by omega)
  have v2 : (K == 2) = false := beq_eq_false_iff_ne.2 (by omega)
  go_enter Try.func25, Try.ntmps25
  go_wp2_with fail
  refine bodyPost_ret (v := .tuple #[.agg #[.int .i64 K, .int .i64 hi, .string ⟨#[]⟩], .bool true]) (by simp [results, Try.results25, go_sem]) rfl ?_
  exact ⟨rfl, (gr5 _ _ _ _ _ _).below⟩
set_option maxRecDepth 100000 in
set_option maxHeartbeats 4000000 in
theorem wit_front (f t : List UInt8) (o : Bool) (A : Option Addr) (n c : Nat) (f' t' : List UInt8) (o' : Bool) (A' : Option Addr) (n' c' : Nat) (w : World) (h : bytesLess f f' = true) : Calls Try.prog 25 #[.agg #[.int .i64 2, .int .i64 0, .int .i64 0, .string ⟨f.toArray⟩, .string ⟨t.toArray⟩, .bool o, .slice A n c], .agg #[.int .i64 2, .int .i64 0, .int .i64 0, .string ⟨f'.toArray⟩, .string ⟨t'.toArray⟩, .bool o', .slice A' n' c']] w fun e w' => e = .returned (.tuple #[.agg #[.int .i64 2, .int .i64 0, .string ⟨f.toArray⟩], .bool true]) ∧ Below w.heap.size w w' := by
  skip
  go_enter Try.func25, Try.ntmps25
  go_wp2_with fail
  refine bodyPost_ret (v := .tuple #[.agg #[.int .i64 2, .int .i64 0, .string ⟨f.toArray⟩], .bool true]) (by simp [results, Try.results25, go_sem]) rfl ?_
  exact ⟨rfl, (gr5 _ _ _ _ _ _).below⟩
set_option maxRecDepth 100000 in
set_option maxHeartbeats 8000000 in
theorem wit_N (K lo hi : Int) (A : Option Addr) (n c : Nat) (lo' hi' : Int) (A' : Option Addr) (n' c' : Nat) (w : World) (es fs : List Val) (hk : K = 1 ∨ K = 3) (h1 : ¬ lo < lo') (h2 : ¬ hi' < hi) (hca : CanonN ⟨K, lo, hi, [], [], false, es⟩) (hcb : CanonN ⟨K, lo', hi', [], [], false, fs⟩) (hin : inn ⟨K, lo, hi, [], [], false, es⟩ ⟨K, lo', hi', [], [], false, fs⟩ = false) (hn : es.length = n) (hm : n ≤ 1000) (hn' : fs.length = n') (hm' : n' ≤ 1000) (hr : RdW w A es) (hr' : RdW w A' fs) :
    Calls Try.prog 25 #[.agg #[.int .i64 K, .int .i64 lo, .int .i64 hi, .string ⟨#[]⟩, .string ⟨#[]⟩, .bool false, .slice A n c], .agg #[.int .i64 K, .int .i64 lo', .int .i64 hi', .string ⟨#[]⟩, .string ⟨#[]⟩, .bool false, .slice A' n' c']] w (Wits w ⟨K, lo, hi, [], [], false, es⟩ ⟨K, lo', hi', [], [], false, fs⟩) := by
  have v4 : (K == 4) = false := beq_eq_false_iff_ne.2 (by omega)
  have v2 : (K == 2) = false := beq_eq_false_iff_ne.2 (by omega)
  have HIN := Lib.hid hin
  have HCA := Lib.hid hca
  have HCB := Lib.hid hcb
  have HN := Lib.hid hn
  have HN' := Lib.hid hn'
  have hg5 := gr5 w (.cells #[.int .i64 K, .int .i64 lo, .int .i64 hi, .string ⟨#[]⟩, .string ⟨#[]⟩, .bool false, .slice A n c] 29) (.cells #[.int .i64 K, .int .i64 lo', .int .i64 hi', .string ⟨#[]⟩, .string ⟨#[]⟩, .bool false, .slice A' n' c'] 29) (.cells #[.int .i64 0, .int .i64 0, .string ⟨#[]⟩] 24) (.cells #[.int .i64 K, .int .i64 lo, .string ⟨#[]⟩] 24) (.cells #[.int .i64 K, .int .i64 hi, .string ⟨#[]⟩] 24)
  have HW0 := Lib.hid hg5.below
  have HR := Lib.hid (hr.below hg5.below)
  have HR' := Lib.hid (hr'.below hg5.below)
  have hXa := ((((Blk.new w 29 #[.int .i64 K, .int .i64 lo, .int .i64 hi, .string ⟨#[]⟩, .string ⟨#[]⟩, .bool false, .slice A n c]).alloc (.cells #[.int .i64 K, .int .i64 lo', .int .i64 hi', .string ⟨#[]⟩, .string ⟨#[]⟩, .bool false, .slice A' n' c'] 29)).alloc (.cells #[.int .i64 0, .int .i64 0, .string ⟨#[]⟩] 24)).alloc (.cells #[.int .i64 K, .int .i64 lo, .string ⟨#[]⟩] 24)).alloc (.cells #[.int .i64 K, .int .i64 hi, .string ⟨#[]⟩] 24)
  have hXb := (((Blk.new (w.alloc (.cells #[.int .i64 K, .int .i64 lo, .int .i64 hi, .string ⟨#[]⟩, .string ⟨#[]⟩, .bool false, .slice A n c] 29)) 29 #[.int .i64 K, .int .i64 lo', .int .i64 hi', .string ⟨#[]⟩, .string ⟨#[]⟩, .bool false, .slice A' n' c']).alloc (.cells #[.int .i64 0, .int .i64 0, .string ⟨#[]⟩] 24)).alloc (.cells #[.int .i64 K, .int .i64 lo, .string ⟨#[]⟩] 24)).alloc (.cells #[.int .i64 K, .int .i64 hi, .string ⟨#[]⟩] 24)
  have hY := ((Blk.new ((w.alloc (.cells #[.int .i64 K, .int .i64 lo, .int .i64 hi, .string ⟨#[]⟩, .string ⟨#[]⟩, .bool false, .slice A n c] 29)).alloc (.cells #[.int .i64 K, .int .i64 lo', .int .i64 hi', .string ⟨#[]⟩, .string ⟨#[]⟩, .bool false, .slice A' n' c'] 29)) 24 #[.int .i64 0, .int .i64 0, .string ⟨#[]⟩]).alloc (.cells #[.int .i64 K, .int .i64 lo, .string ⟨#[]⟩] 24)).alloc (.cells #[.int .i64 K, .int .i64 hi, .string ⟨#[]⟩] 24)
  rw [show (w.alloc (.cells #[.int .i64 K, .int .i64 lo, .int .i64 hi, .string ⟨#[]⟩, .string ⟨#[]⟩, .bool false, .slice A n c] 29)).heap.size = w.heap.size + 1 by simp] at hXb
  rw [show ((w.alloc (.cells #[.int .i64 K, .int .i64 lo, .int .i64 hi, .string ⟨#[]⟩, .string ⟨#[]⟩, .bool false, .slice A n c] 29)).alloc (.cells #[.int .i64 K, .int .i64 lo', .int .i64 hi', .string ⟨#[]⟩, .string ⟨#[]⟩, .bool false, .slice A' n' c'] 29)).heap.size = w.heap.size + 2 by simp] at hY
  have hsz : w.heap.size + 5 = (((((w.alloc (.cells #[.int .i64 K, .int .i64 lo, .int .i64 hi, .string ⟨#[]⟩, .string ⟨#[]⟩, .bool false, .slice A n c] 29)).alloc (.cells #[.int .i64 K, .int .i64 lo', .int .i64 hi', .string ⟨#[]⟩, .string ⟨#[]⟩, .bool false, .slice A' n' c'] 29)).alloc (.cells #[.int .i64 0, .int .i64 0, .string ⟨#[]⟩] 24)).alloc (.cells #[.int .i64 K, .int .i64 lo, .string ⟨#[]⟩] 24)).alloc (.cells #[.int .i64 K, .int .i64 hi, .string ⟨#[]⟩] 24)).heap.size := by simp
  clear hin hca hcb hn hn' hr hr' hg5
  go_enter Try.func25, Try.ntmps25
  go_wp2_with fail
  generalize (((((w.alloc (.cells #[.int .i64 K, .int .i64 lo, .int .i64 hi, .string ⟨#[]⟩, .string ⟨#[]⟩, .bool false, .slice A n c] 29)).alloc (.cells #[.int .i64 K, .int .i64 lo', .int .i64 hi', .string ⟨#[]⟩, .string ⟨#[]⟩, .bool false, .slice A' n' c'] 29)).alloc (.cells #[.int .i64 0, .int .i64 0, .string ⟨#[]⟩] 24)).alloc (.cells #[.int .i64 K, .int .i64 lo, .string ⟨#[]⟩] 24)).alloc (.cells #[.int .i64 K, .int .i64 hi, .string ⟨#[]⟩] 24)) = w0 at *
  go_loopg [8] n' (fun gg s8 wr => ∃ q : Nat, q ≤ n' ∧ n' - q ≤ gg ∧ s8 = .int .i64 (q : Int) ∧ Hid (∀ v ∈ fs.take q, has ⟨K, lo, hi, [], [], false, es⟩ v = false) ∧ Hid (Grown w0 wr))
  case atStart => exact ⟨0, Nat.zero_le _, by omega, rfl, by show ∀ _, _; simp, Grown.refl w0⟩
  case round =>
    obtain ⟨q, hq, hgg, rfl, HNO, HG⟩ := hrel
    have hXb1 := Blk.below hXb HG.out.below hXb.lt
    obtain ⟨t0, t1, t2, t3, t4, t5, t6, _⟩ := blk7 hXb1
    have hlb := hXb1.lt
    by_cases hlt : q < n'
    · have hq' : q < fs.length := by rw [HN'.out]; exact hlt
      have hvr : rightV fs[q] = true ∧ fs[q].t.length ≤ 32 := no_right (.inr (.inr (.inl HCB.out))) _ (List.getElem_mem hq')
      obtain ⟨g, off, rfl, hg, c0, c1, c2⟩ := RdW.at3 HR'.out hq'
      obtain ⟨x, hx⟩ : ∃ x, fs[q] = x := ⟨_, rfl⟩
      have HXX := Lib.hid hx
      rw [hx] at c0 c1 c2 hvr
      clear hx
      obtain ⟨xk, xi, xt⟩ := x
      obtain ⟨hv1, hv2⟩ := hvr
      have hvb := (rightV_iff _).1 hv1
      dsimp only at hv2 hvb
      have hb1 := hvb.2.1
      have hb2 := hvb.2.2
      clear hv1 hvb
      have w5 : (q : Int) < (n' : Int) := by omega
      go_wp2_with fail
      clear t0 t1 t2 t3 t4 t5 t6 hlb
      have hS0 : Below w0.heap.size w0 wr.drew := HG.out.below.drew
      refine wp_region_held_drew (S := fun w' => Below w0.heap.size w0 w') (by kernel_rfl) hS0 (fun _ => ?_)
      refine wpAnyH_yes (i := 0) (d := 79) (v := ?_) rfl rfl (by kernel_rfl) (by kernel_rfl) (by kernel_rfl) (fun _ _ _ h => h) (by rfl) ?_ hS0 ?_
      rotate_left
      · intro w' hSw; obtain ⟨s0, s1, s2, s3, s4, s5, s6, _⟩ := blk7 (Blk.below hXa hSw hXa.lt); obtain ⟨t0, t1, t2, t3, t4, t5, t6, _⟩ := blk7 (Blk.below hXb hSw hXb.lt); have r0 := (hSw.cell (p := ⟨g, off + q * 3, none⟩) hg).trans c0; have r1 := (hSw.cell (p := ⟨g, off + q * 3 + 1, none⟩) hg).trans c1; have r2 := (hSw.cell (p := ⟨g, off + q * 3 + 2, none⟩) hg).trans c2; go_simp <;> with_reducible rfl
      simp only [Act.put, List.setIfInBounds_toArray, List.set_cons_zero, List.set_cons_succ]
      refine wpAnyH_yes (i := 1) (d := 80) (v := ?_) rfl rfl (by kernel_rfl) (by kernel_rfl) (by kernel_rfl) (fun _ _ _ h => h) (by rfl) ?_ hS0 ?_
      rotate_left
      · intro w' hSw; obtain ⟨s0, s1, s2, s3, s4, s5, s6, _⟩ := blk7 (Blk.below hXa hSw hXa.lt); obtain ⟨t0, t1, t2, t3, t4, t5, t6, _⟩ := blk7 (Blk.below hXb hSw hXb.lt); have r0 := (hSw.cell (p := ⟨g, off + q * 3, none⟩) hg).trans c0; have r1 := (hSw.cell (p := ⟨g, off + q * 3 + 1, none⟩) hg).trans c1; have r2 := (hSw.cell (p := ⟨g, off + q * 3 + 2, none⟩) hg).trans c2; go_simp <;> with_reducible rfl
      simp only [Act.put, List.setIfInBounds_toArray, List.set_cons_zero, List.set_cons_succ]
      refine wpAnyH_yes (i := 2) (d := 81) (v := ?_) rfl rfl (by kernel_rfl) (by kernel_rfl) (by kernel_rfl) (fun _ _ _ h => h) (by rfl) ?_ hS0 ?_
      rotate_left
      · intro w' hSw; obtain ⟨s0, s1, s2, s3, s4, s5, s6, _⟩ := blk7 (Blk.below hXa hSw hXa.lt); obtain ⟨t0, t1, t2, t3, t4, t5, t6, _⟩ := blk7 (Blk.below hXb hSw hXb.lt); have r0 := (hSw.cell (p := ⟨g, off + q * 3, none⟩) hg).trans c0; have r1 := (hSw.cell (p := ⟨g, off + q * 3 + 1, none⟩) hg).trans c1; have r2 := (hSw.cell (p := ⟨g, off + q * 3 + 2, none⟩) hg).trans c2; go_simp <;> with_reducible rfl
      simp only [Act.put, List.setIfInBounds_toArray, List.set_cons_zero, List.set_cons_succ]
      refine wpAnyH_yes (i := 3) (d := 82) (v := ?_) rfl rfl (by kernel_rfl) (by kernel_rfl) (by kernel_rfl) (fun _ _ _ h => h) (by rfl) ?_ hS0 ?_
      rotate_left
      · intro w' hSw; obtain ⟨s0, s1, s2, s3, s4, s5, s6, _⟩ := blk7 (Blk.below hXa hSw hXa.lt); obtain ⟨t0, t1, t2, t3, t4, t5, t6, _⟩ := blk7 (Blk.below hXb hSw hXb.lt); have r0 := (hSw.cell (p := ⟨g, off + q * 3, none⟩) hg).trans c0; have r1 := (hSw.cell (p := ⟨g, off + q * 3 + 1, none⟩) hg).trans c1; have r2 := (hSw.cell (p := ⟨g, off + q * 3 + 2, none⟩) hg).trans c2; go_simp <;> with_reducible rfl
      simp only [Act.put, List.setIfInBounds_toArray, List.set_cons_zero, List.set_cons_succ]
      refine wpAnyH_yes (i := 4) (d := 83) (v := ?_) rfl rfl (by kernel_rfl) (by kernel_rfl) (by kernel_rfl) (fun _ _ _ h => h) (by rfl) ?_ hS0 ?_
      rotate_left
      · intro w' hSw; obtain ⟨s0, s1, s2, s3, s4, s5, s6, _⟩ := blk7 (Blk.below hXa hSw hXa.lt); obtain ⟨t0, t1, t2, t3, t4, t5, t6, _⟩ := blk7 (Blk.below hXb hSw hXb.lt); have r0 := (hSw.cell (p := ⟨g, off + q * 3, none⟩) hg).trans c0; have r1 := (hSw.cell (p := ⟨g, off + q * 3 + 1, none⟩) hg).trans c1; have r2 := (hSw.cell (p := ⟨g, off + q * 3 + 2, none⟩) hg).trans c2; go_simp <;> with_reducible rfl
      simp only [Act.put, List.setIfInBounds_toArray, List.set_cons_zero, List.set_cons_succ]
      refine wpAnyH_yes (i := 5) (d := 84) (v := ?_) rfl rfl (by kernel_rfl) (by kernel_rfl) (by kernel_rfl) (fun _ _ _ h => h) (by rfl) ?_ hS0 ?_
      rotate_left
      · intro w' hSw; obtain ⟨s0, s1, s2, s3, s4, s5, s6, _⟩ := blk7 (Blk.below hXa hSw hXa.lt); obtain ⟨t0, t1, t2, t3, t4, t5, t6, _⟩ := blk7 (Blk.below hXb hSw hXb.lt); have r0 := (hSw.cell (p := ⟨g, off + q * 3, none⟩) hg).trans c0; have r1 := (hSw.cell (p := ⟨g, off + q * 3 + 1, none⟩) hg).trans c1; have r2 := (hSw.cell (p := ⟨g, off + q * 3 + 2, none⟩) hg).trans c2; go_simp <;> with_reducible rfl
      simp only [Act.put, List.setIfInBounds_toArray, List.set_cons_zero, List.set_cons_succ]
      have hcan : Canon ⟨K, lo, hi, [], [], false, es⟩ := (.inr (.inr (.inl HCA.out)))
      have hrA := HR.out.below hS0
      have hnA : (⟨K, lo, hi, [], [], false, es⟩ : Sp).no.length = n := HN.out
      have haA : (⟨K, lo, hi, [], [], false, es⟩ : Sp) = ⟨K, lo, hi, [], [], false, (⟨K, lo, hi, [], [], false, es⟩ : Sp).no⟩ := rfl
      have hx9 : xt.length ≤ 9223372036854775807 := by omega
      have hn9 : n ≤ 100000 := by omega
      have HGd : Hid (Grown w0 wr.drew) := HG.out.drew
      generalize wr.drew = wx at *
      cases hh : has ⟨K, lo, hi, [], [], false, es⟩ ⟨xk, xi, xt⟩ with
      | true =>
        refine wpAnyH_one (i := 6) (by kernel_rfl) rfl (by rfl) (fun Ka hKa => ?_)
        go_simp
        with_reducible refine (has_is K lo hi [] [] false A n c ⟨K, lo, hi, [], [], false, es⟩ haA hcan xk xi xt wx hnA hn9 hx9 hb1 hb2 hrA true hh).mono ?_
        rintro e wy ⟨rfl, hgy⟩
        have hS1 := below_next hS0 (Nat.le_refl _) hgy.below
        have HH := Lib.hid hh
        clear hh haA hnA hcan hrA
        go_wp2_with fail
        refine hKa.out _ _ hS1 ?_
        clear hKa Ka
        refine wpAnyH_done (by kernel_rfl) ?_ _
        have hXb2 := Blk.below hXb hS1 hXb.lt
        have hY2 := Blk.below hY hS1 hY.lt
        obtain ⟨t0, t1, t2, t3, t4, t5, t6, _⟩ := blk7 hXb2
        obtain ⟨y0, y1, y2, z0, z1, z2⟩ := blk3 hY2
        have hlb := hXb2.lt
        have hly := hY2.lt
        have r0 := (hS1.cell (p := ⟨g, off + q * 3, none⟩) hg).trans c0
        have r1 := (hS1.cell (p := ⟨g, off + q * 3 + 1, none⟩) hg).trans c1
        have r2 := (hS1.cell (p := ⟨g, off + q * 3 + 2, none⟩) hg).trans c2
        have hgy2 : g < wy.heap.size := Nat.lt_of_lt_of_le hg hS1.size
        have hB2 := HW0.out.trans (hS1.mono (by omega))
        clear c0 c1 c2
        go_wp2_with fail
        refine bodyPost_ret (v := .tuple #[.agg #[.int .i64 xk, .int .i64 xi, .string ⟨xt.toArray⟩], .bool true]) (by simp [results, Try.results25, go_sem, y0, y1, y2]) rfl ?_
        refine ⟨xk, xi, xt, rfl, by omega, hb1, hb2, HH.out, ?_, below_set (below_set (below_set hB2 (by omega)) (by omega)) (by omega)⟩
        cases hb : has ⟨K, lo', hi', [], [], false, fs⟩ ⟨xk, xi, xt⟩ with
        | false => rfl
        | true =>
          exfalso
          rw [N_iff HCB.out] at hb
          exact hb.2.2.1 (by show _ ∈ fs; rw [← HXX.out]; exact List.getElem_mem hq')
      | false =>
        refine wpAnyH_one (i := 6) (by kernel_rfl) rfl (by rfl) (fun Ka hKa => ?_)
        go_simp
        with_reducible refine (has_is K lo hi [] [] false A n c ⟨K, lo, hi, [], [], false, es⟩ haA hcan xk xi xt wx hnA hn9 hx9 hb1 hb2 hrA false hh).mono ?_
        rintro e wy ⟨rfl, hgy⟩
        have hS1 := below_next hS0 (Nat.le_refl _) hgy.below
        have HNO2 : Hid (∀ v ∈ fs.take (q + 1), has ⟨K, lo, hi, [], [], false, es⟩ v = false) := by
          show ∀ v ∈ fs.take (q + 1), _
          rw [List.take_succ_eq_append_getElem hq', HXX.out]
          intro v hv
          rcases List.mem_append.1 hv with hv | hv
          · exact HNO.out v hv
          · rw [List.mem_singleton.1 hv]; exact hh
        clear hh haA hnA hcan hrA c0 c1 c2
        go_wp2_with fail
        refine hKa.out _ _ hS1 ?_
        clear hKa Ka
        refine wpAnyH_done (by kernel_rfl) ?_ _
        go_wp2_with fail
        go_roundg (n' - (q + 1))
        case measure => omega
        case rel => exact ⟨q + 1, by omega, Nat.le_refl _, by go_num, HNO2, HGd.out.trans hgy⟩
    · have hqn : Hid (q = n') := by show q = n'; omega
      have HALL : Hid (∀ v ∈ fs, has ⟨K, lo, hi, [], [], false, es⟩ v = false) := by
        have h := HNO.out
        rw [hqn.out, List.take_of_length_le (by rw [HN'.out]; exact Nat.le_refl _)] at h
        exact h
      clear t0 t1 t2 t3 t4 t5 t6 hlb
      exfalso
      exact Spans.wit_N HCA.out HCB.out rfl HIN.out (by show lo' ≤ lo; omega) (by show hi ≤ hi'; omega) HALL.out
set_option maxRecDepth 100000 in
set_option maxHeartbeats 8000000 in
theorem wit_T (f t : List UInt8) (o : Bool) (A : Option Addr) (n c : Nat) (f' t' : List UInt8) (o' : Bool) (A' : Option Addr) (n' c' : Nat) (w : World) (es fs : List Val) (h1 : bytesLess f f' = false) (hca : CanonT ⟨2, 0, 0, f, t, o, es⟩) (hcb : CanonT ⟨2, 0, 0, f', t', o', fs⟩) (hin : inn ⟨2, 0, 0, f, t, o, es⟩ ⟨2, 0, 0, f', t', o', fs⟩ = false) (hn : es.length = n) (hm : n ≤ 1000) (hn' : fs.length = n') (hm' : n' ≤ 1000) (hr : RdW w A es) (hr' : RdW w A' fs) :
    Calls Try.prog 25 #[.agg #[.int .i64 2, .int .i64 0, .int .i64 0, .string ⟨f.toArray⟩, .string ⟨t.toArray⟩, .bool o, .slice A n c], .agg #[.int .i64 2, .int .i64 0, .int .i64 0, .string ⟨f'.toArray⟩, .string ⟨t'.toArray⟩, .bool o', .slice A' n' c']] w (Wits w ⟨2, 0, 0, f, t, o, es⟩ ⟨2, 0, 0, f', t', o', fs⟩) := by
  have hmax := run_maxT (P := Try.prog) f t'
  have HIN := Lib.hid hin
  have HCA := Lib.hid hca
  have HCB := Lib.hid hcb
  have HN := Lib.hid hn
  have HN' := Lib.hid hn'
  have hg5 := gr5 w (.cells #[.int .i64 2, .int .i64 0, .int .i64 0, .string ⟨f.toArray⟩, .string ⟨t.toArray⟩, .bool o, .slice A n c] 29) (.cells #[.int .i64 2, .int .i64 0, .int .i64 0, .string ⟨f'.toArray⟩, .string ⟨t'.toArray⟩, .bool o', .slice A' n' c'] 29) (.cells #[.int .i64 0, .int .i64 0, .string ⟨#[]⟩] 24) (.cells #[.int .i64 2, .int .i64 0, .string ⟨f.toArray⟩] 24) (.cells #[.int .i64 2, .int .i64 0, .string ⟨#[]⟩] 24)
  have HW0 := Lib.hid hg5.below
  have HR := Lib.hid (hr.below hg5.below)
  have HR' := Lib.hid (hr'.below hg5.below)
  have hXa := ((((Blk.new w 29 #[.int .i64 2, .int .i64 0, .int .i64 0, .string ⟨f.toArray⟩, .string ⟨t.toArray⟩, .bool o, .slice A n c]).alloc (.cells #[.int .i64 2, .int .i64 0, .int .i64 0, .string ⟨f'.toArray⟩, .string ⟨t'.toArray⟩, .bool o', .slice A' n' c'] 29)).alloc (.cells #[.int .i64 0, .int .i64 0, .string ⟨#[]⟩] 24)).alloc (.cells #[.int .i64 2, .int .i64 0, .string ⟨f.toArray⟩] 24)).alloc (.cells #[.int .i64 2, .int .i64 0, .string ⟨#[]⟩] 24)
  have hXb := (((Blk.new (w.alloc (.cells #[.int .i64 2, .int .i64 0, .int .i64 0, .string ⟨f.toArray⟩, .string ⟨t.toArray⟩, .bool o, .slice A n c] 29)) 29 #[.int .i64 2, .int .i64 0, .int .i64 0, .string ⟨f'.toArray⟩, .string ⟨t'.toArray⟩, .bool o', .slice A' n' c']).alloc (.cells #[.int .i64 0, .int .i64 0, .string ⟨#[]⟩] 24)).alloc (.cells #[.int .i64 2, .int .i64 0, .string ⟨f.toArray⟩] 24)).alloc (.cells #[.int .i64 2, .int .i64 0, .string ⟨#[]⟩] 24)
  have hY := ((Blk.new ((w.alloc (.cells #[.int .i64 2, .int .i64 0, .int .i64 0, .string ⟨f.toArray⟩, .string ⟨t.toArray⟩, .bool o, .slice A n c] 29)).alloc (.cells #[.int .i64 2, .int .i64 0, .int .i64 0, .string ⟨f'.toArray⟩, .string ⟨t'.toArray⟩, .bool o', .slice A' n' c'] 29)) 24 #[.int .i64 0, .int .i64 0, .string ⟨#[]⟩]).alloc (.cells #[.int .i64 2, .int .i64 0, .string ⟨f.toArray⟩] 24)).alloc (.cells #[.int .i64 2, .int .i64 0, .string ⟨#[]⟩] 24)
  rw [show (w.alloc (.cells #[.int .i64 2, .int .i64 0, .int .i64 0, .string ⟨f.toArray⟩, .string ⟨t.toArray⟩, .bool o, .slice A n c] 29)).heap.size = w.heap.size + 1 by simp] at hXb
  rw [show ((w.alloc (.cells #[.int .i64 2, .int .i64 0, .int .i64 0, .string ⟨f.toArray⟩, .string ⟨t.toArray⟩, .bool o, .slice A n c] 29)).alloc (.cells #[.int .i64 2, .int .i64 0, .int .i64 0, .string ⟨f'.toArray⟩, .string ⟨t'.toArray⟩, .bool o', .slice A' n' c'] 29)).heap.size = w.heap.size + 2 by simp] at hY
  have hsz : w.heap.size + 5 = (((((w.alloc (.cells #[.int .i64 2, .int .i64 0, .int .i64 0, .string ⟨f.toArray⟩, .string ⟨t.toArray⟩, .bool o, .slice A n c] 29)).alloc (.cells #[.int .i64 2, .int .i64 0, .int .i64 0, .string ⟨f'.toArray⟩, .string ⟨t'.toArray⟩, .bool o', .slice A' n' c'] 29)).alloc (.cells #[.int .i64 0, .int .i64 0, .string ⟨#[]⟩] 24)).alloc (.cells #[.int .i64 2, .int .i64 0, .string ⟨f.toArray⟩] 24)).alloc (.cells #[.int .i64 2, .int .i64 0, .string ⟨#[]⟩] 24)).heap.size := by simp
  clear hin hca hcb hn hn' hr hr' hg5
  go_enter Try.func25, Try.ntmps25
  go_wp2_with fail
  generalize (((((w.alloc (.cells #[.int .i64 2, .int .i64 0, .int .i64 0, .string ⟨f.toArray⟩, .string ⟨t.toArray⟩, .bool o, .slice A n c] 29)).alloc (.cells #[.int .i64 2, .int .i64 0, .int .i64 0, .string ⟨f'.toArray⟩, .string ⟨t'.toArray⟩, .bool o', .slice A' n' c'] 29)).alloc (.cells #[.int .i64 0, .int .i64 0, .string ⟨#[]⟩] 24)).alloc (.cells #[.int .i64 2, .int .i64 0, .string ⟨f.toArray⟩] 24)).alloc (.cells #[.int .i64 2, .int .i64 0, .string ⟨#[]⟩] 24)) = w0 at *
  go_loopg [8] n' (fun gg s8 wr => ∃ q : Nat, q ≤ n' ∧ n' - q ≤ gg ∧ s8 = .int .i64 (q : Int) ∧ Hid (∀ v ∈ fs.take q, has ⟨2, 0, 0, f, t, o, es⟩ v = false) ∧ Hid (Grown w0 wr))
  case atStart => exact ⟨0, Nat.zero_le _, by omega, rfl, by show ∀ _, _; simp, Grown.refl w0⟩
  case round =>
    obtain ⟨q, hq, hgg, rfl, HNO, HG⟩ := hrel
    have hXb1 := Blk.below hXb HG.out.below hXb.lt
    obtain ⟨t0, t1, t2, t3, t4, t5, t6, _⟩ := blk7 hXb1
    have hlb := hXb1.lt
    by_cases hlt : q < n'
    · have hq' : q < fs.length := by rw [HN'.out]; exact hlt
      have hvr : rightV fs[q] = true ∧ fs[q].t.length ≤ 32 := no_right (.inr (.inr (.inr HCB.out))) _ (List.getElem_mem hq')
      obtain ⟨g, off, rfl, hg, c0, c1, c2⟩ := RdW.at3 HR'.out hq'
      obtain ⟨x, hx⟩ : ∃ x, fs[q] = x := ⟨_, rfl⟩
      have HXX := Lib.hid hx
      rw [hx] at c0 c1 c2 hvr
      clear hx
      obtain ⟨xk, xi, xt⟩ := x
      obtain ⟨hv1, hv2⟩ := hvr
      have hvb := (rightV_iff _).1 hv1
      dsimp only at hv2 hvb
      have hb1 := hvb.2.1
      have hb2 := hvb.2.2
      clear hv1 hvb
      have w5 : (q : Int) < (n' : Int) := by omega
      go_wp2_with fail
      clear t0 t1 t2 t3 t4 t5 t6 hlb
      have hS0 : Below w0.heap.size w0 wr.drew := HG.out.below.drew
      refine wp_region_held_drew (S := fun w' => Below w0.heap.size w0 w') (by kernel_rfl) hS0 (fun _ => ?_)
      refine wpAnyH_yes (i := 0) (d := 79) (v := ?_) rfl rfl (by kernel_rfl) (by kernel_rfl) (by kernel_rfl) (fun _ _ _ h => h) (by rfl) ?_ hS0 ?_
      rotate_left
      · intro w' hSw; obtain ⟨s0, s1, s2, s3, s4, s5, s6, _⟩ := blk7 (Blk.below hXa hSw hXa.lt); obtain ⟨t0, t1, t2, t3, t4, t5, t6, _⟩ := blk7 (Blk.below hXb hSw hXb.lt); have r0 := (hSw.cell (p := ⟨g, off + q * 3, none⟩) hg).trans c0; have r1 := (hSw.cell (p := ⟨g, off + q * 3 + 1, none⟩) hg).trans c1; have r2 := (hSw.cell (p := ⟨g, off + q * 3 + 2, none⟩) hg).trans c2; go_simp <;> with_reducible rfl
      simp only [Act.put, List.setIfInBounds_toArray, List.set_cons_zero, List.set_cons_succ]
      refine wpAnyH_yes (i := 1) (d := 80) (v := ?_) rfl rfl (by kernel_rfl) (by kernel_rfl) (by kernel_rfl) (fun _ _ _ h => h) (by rfl) ?_ hS0 ?_
      rotate_left
      · intro w' hSw; obtain ⟨s0, s1, s2, s3, s4, s5, s6, _⟩ := blk7 (Blk.below hXa hSw hXa.lt); obtain ⟨t0, t1, t2, t3, t4, t5, t6, _⟩ := blk7 (Blk.below hXb hSw hXb.lt); have r0 := (hSw.cell (p := ⟨g, off + q * 3, none⟩) hg).trans c0; have r1 := (hSw.cell (p := ⟨g, off + q * 3 + 1, none⟩) hg).trans c1; have r2 := (hSw.cell (p := ⟨g, off + q * 3 + 2, none⟩) hg).trans c2; go_simp <;> with_reducible rfl
      simp only [Act.put, List.setIfInBounds_toArray, List.set_cons_zero, List.set_cons_succ]
      refine wpAnyH_yes (i := 2) (d := 81) (v := ?_) rfl rfl (by kernel_rfl) (by kernel_rfl) (by kernel_rfl) (fun _ _ _ h => h) (by rfl) ?_ hS0 ?_
      rotate_left
      · intro w' hSw; obtain ⟨s0, s1, s2, s3, s4, s5, s6, _⟩ := blk7 (Blk.below hXa hSw hXa.lt); obtain ⟨t0, t1, t2, t3, t4, t5, t6, _⟩ := blk7 (Blk.below hXb hSw hXb.lt); have r0 := (hSw.cell (p := ⟨g, off + q * 3, none⟩) hg).trans c0; have r1 := (hSw.cell (p := ⟨g, off + q * 3 + 1, none⟩) hg).trans c1; have r2 := (hSw.cell (p := ⟨g, off + q * 3 + 2, none⟩) hg).trans c2; go_simp <;> with_reducible rfl
      simp only [Act.put, List.setIfInBounds_toArray, List.set_cons_zero, List.set_cons_succ]
      refine wpAnyH_yes (i := 3) (d := 82) (v := ?_) rfl rfl (by kernel_rfl) (by kernel_rfl) (by kernel_rfl) (fun _ _ _ h => h) (by rfl) ?_ hS0 ?_
      rotate_left
      · intro w' hSw; obtain ⟨s0, s1, s2, s3, s4, s5, s6, _⟩ := blk7 (Blk.below hXa hSw hXa.lt); obtain ⟨t0, t1, t2, t3, t4, t5, t6, _⟩ := blk7 (Blk.below hXb hSw hXb.lt); have r0 := (hSw.cell (p := ⟨g, off + q * 3, none⟩) hg).trans c0; have r1 := (hSw.cell (p := ⟨g, off + q * 3 + 1, none⟩) hg).trans c1; have r2 := (hSw.cell (p := ⟨g, off + q * 3 + 2, none⟩) hg).trans c2; go_simp <;> with_reducible rfl
      simp only [Act.put, List.setIfInBounds_toArray, List.set_cons_zero, List.set_cons_succ]
      refine wpAnyH_yes (i := 4) (d := 83) (v := ?_) rfl rfl (by kernel_rfl) (by kernel_rfl) (by kernel_rfl) (fun _ _ _ h => h) (by rfl) ?_ hS0 ?_
      rotate_left
      · intro w' hSw; obtain ⟨s0, s1, s2, s3, s4, s5, s6, _⟩ := blk7 (Blk.below hXa hSw hXa.lt); obtain ⟨t0, t1, t2, t3, t4, t5, t6, _⟩ := blk7 (Blk.below hXb hSw hXb.lt); have r0 := (hSw.cell (p := ⟨g, off + q * 3, none⟩) hg).trans c0; have r1 := (hSw.cell (p := ⟨g, off + q * 3 + 1, none⟩) hg).trans c1; have r2 := (hSw.cell (p := ⟨g, off + q * 3 + 2, none⟩) hg).trans c2; go_simp <;> with_reducible rfl
      simp only [Act.put, List.setIfInBounds_toArray, List.set_cons_zero, List.set_cons_succ]
      refine wpAnyH_yes (i := 5) (d := 84) (v := ?_) rfl rfl (by kernel_rfl) (by kernel_rfl) (by kernel_rfl) (fun _ _ _ h => h) (by rfl) ?_ hS0 ?_
      rotate_left
      · intro w' hSw; obtain ⟨s0, s1, s2, s3, s4, s5, s6, _⟩ := blk7 (Blk.below hXa hSw hXa.lt); obtain ⟨t0, t1, t2, t3, t4, t5, t6, _⟩ := blk7 (Blk.below hXb hSw hXb.lt); have r0 := (hSw.cell (p := ⟨g, off + q * 3, none⟩) hg).trans c0; have r1 := (hSw.cell (p := ⟨g, off + q * 3 + 1, none⟩) hg).trans c1; have r2 := (hSw.cell (p := ⟨g, off + q * 3 + 2, none⟩) hg).trans c2; go_simp <;> with_reducible rfl
      simp only [Act.put, List.setIfInBounds_toArray, List.set_cons_zero, List.set_cons_succ]
      have hcan : Canon ⟨2, 0, 0, f, t, o, es⟩ := (.inr (.inr (.inr HCA.out)))
      have hrA := HR.out.below hS0
      have hnA : (⟨2, 0, 0, f, t, o, es⟩ : Sp).no.length = n := HN.out
      have haA : (⟨2, 0, 0, f, t, o, es⟩ : Sp) = ⟨2, 0, 0, f, t, o, (⟨2, 0, 0, f, t, o, es⟩ : Sp).no⟩ := rfl
      have hx9 : xt.length ≤ 9223372036854775807 := by omega
      have hn9 : n ≤ 100000 := by omega
      have HGd : Hid (Grown w0 wr.drew) := HG.out.drew
      generalize wr.drew = wx at *
      cases hh : has ⟨2, 0, 0, f, t, o, es⟩ ⟨xk, xi, xt⟩ with
      | true =>
        refine wpAnyH_one (i := 6) (by kernel_rfl) rfl (by rfl) (fun Ka hKa => ?_)
        go_simp
        with_reducible refine (has_is 2 0 0 f t o A n c ⟨2, 0, 0, f, t, o, es⟩ haA hcan xk xi xt wx hnA hn9 hx9 hb1 hb2 hrA true hh).mono ?_
        rintro e wy ⟨rfl, hgy⟩
        have hS1 := below_next hS0 (Nat.le_refl _) hgy.below
        have HH := Lib.hid hh
        clear hh haA hnA hcan hrA
        go_wp2_with fail
        refine hKa.out _ _ hS1 ?_
        clear hKa Ka
        refine wpAnyH_done (by kernel_rfl) ?_ _
        have hXb2 := Blk.below hXb hS1 hXb.lt
        have hY2 := Blk.below hY hS1 hY.lt
        obtain ⟨t0, t1, t2, t3, t4, t5, t6, _⟩ := blk7 hXb2
        obtain ⟨y0, y1, y2, z0, z1, z2⟩ := blk3 hY2
        have hlb := hXb2.lt
        have hly := hY2.lt
        have r0 := (hS1.cell (p := ⟨g, off + q * 3, none⟩) hg).trans c0
        have r1 := (hS1.cell (p := ⟨g, off + q * 3 + 1, none⟩) hg).trans c1
        have r2 := (hS1.cell (p := ⟨g, off + q * 3 + 2, none⟩) hg).trans c2
        have hgy2 : g < wy.heap.size := Nat.lt_of_lt_of_le hg hS1.size
        have hB2 := HW0.out.trans (hS1.mono (by omega))
        clear c0 c1 c2
        go_wp2_with fail
        refine bodyPost_ret (v := .tuple #[.agg #[.int .i64 xk, .int .i64 xi, .string ⟨xt.toArray⟩], .bool true]) (by simp [results, Try.results25, go_sem, y0, y1, y2]) rfl ?_
        refine ⟨xk, xi, xt, rfl, by omega, hb1, hb2, HH.out, ?_, below_set (below_set (below_set hB2 (by omega)) (by omega)) (by omega)⟩
        cases hb : has ⟨2, 0, 0, f', t', o', fs⟩ ⟨xk, xi, xt⟩ with
        | false => rfl
        | true =>
          exfalso
          rw [T_iff HCB.out] at hb
          exact hb.2.2.1 (by show _ ∈ fs; rw [← HXX.out]; exact List.getElem_mem hq')
      | false =>
        refine wpAnyH_one (i := 6) (by kernel_rfl) rfl (by rfl) (fun Ka hKa => ?_)
        go_simp
        with_reducible refine (has_is 2 0 0 f t o A n c ⟨2, 0, 0, f, t, o, es⟩ haA hcan xk xi xt wx hnA hn9 hx9 hb1 hb2 hrA false hh).mono ?_
        rintro e wy ⟨rfl, hgy⟩
        have hS1 := below_next hS0 (Nat.le_refl _) hgy.below
        have HNO2 : Hid (∀ v ∈ fs.take (q + 1), has ⟨2, 0, 0, f, t, o, es⟩ v = false) := by
          show ∀ v ∈ fs.take (q + 1), _
          rw [List.take_succ_eq_append_getElem hq', HXX.out]
          intro v hv
          rcases List.mem_append.1 hv with hv | hv
          · exact HNO.out v hv
          · rw [List.mem_singleton.1 hv]; exact hh
        clear hh haA hnA hcan hrA c0 c1 c2
        go_wp2_with fail
        refine hKa.out _ _ hS1 ?_
        clear hKa Ka
        refine wpAnyH_done (by kernel_rfl) ?_ _
        go_wp2_with fail
        go_roundg (n' - (q + 1))
        case measure => omega
        case rel => exact ⟨q + 1, by omega, Nat.le_refl _, by go_num, HNO2, HGd.out.trans hgy⟩
    · have hqn : Hid (q = n') := by show q = n'; omega
      have HALL : Hid (∀ v ∈ fs, has ⟨2, 0, 0, f, t, o, es⟩ v = false) := by
        have h := HNO.out
        rw [hqn.out, List.take_of_length_le (by rw [HN'.out]; exact Nat.le_refl _)] at h
        exact h
      clear t0 t1 t2 t3 t4 t5 t6 hlb
      obtain ⟨e1, e2⟩ := Spans.wit_T HCA.out HCB.out HIN.out h1 HALL.out
      dsimp only at e1 e2
      subst e1
      have hsf : Short f := HCA.out.flen
      have hst : Short t' := (HCB.out.shut rfl).1
      have hsl : (maxT f t').length ≤ 33 := Short.len (maxT_short hsf hst)
      have hge := (maxT_le f t' (maxT f t')).1 (Vals.less_irr _)
      have hlt : o = true ∨ bytesLess (maxT f t') t = true := by
        cases o with
        | true => exact .inl rfl
        | false =>
          right
          have q1 : bytesLess t' t = true := e2.elim (fun h => by simp at h) id
          have q2 : bytesLess f t = true := (HCA.out.shut rfl).2.1
          unfold maxT
          split
          · exact q1
          · exact q2
      obtain ⟨J, hJ, hJh⟩ := has_far HCA.out (maxT f t') hsl hge.1 hlt
      obtain ⟨s, hs⟩ : ∃ s, maxT f t' = s := ⟨_, rfl⟩
      rw [hs] at hsl hge hJh hmax
      have HGE : Hid (bytesLess s t' = false) := hge.2
      have HJ := Lib.hid hJh
      clear e2 hsf hst hge hlt hJh hs
      have hXa1 := Blk.below hXa HG.out.below hXa.lt
      have hXb1 := Blk.below hXb HG.out.below hXb.lt
      obtain ⟨s0, s1, s2, s3, s4, s5, s6, _⟩ := blk7 hXa1
      obtain ⟨t0, t1, t2, t3, t4, t5, t6, _⟩ := blk7 hXb1
      have hla := hXa1.lt
      have hlb := hXb1.lt
      go_wp2_with fail
      clear s0 s1 s2 s3 s4 s5 s6 t0 t1 t2 t3 t4 t5 t6 hla hlb hmax
      have HG1 := HG
      clear HG
      go_loopg [9, 10] 40 (fun gg s9 s10 wr => ∃ (j : Nat) (x : List UInt8), j ≤ J ∧ 40 - j ≤ gg ∧ x.length ≤ 33 + j ∧ s9 = .string ⟨x.toArray⟩ ∧ s10 = .int .i64 (j : Int) ∧ Hid (zs s j = x) ∧ Hid (Grown w0 wr))
      case atStart => exact ⟨0, s, Nat.zero_le _, by omega, by omega, rfl, rfl, zs_zero s, HG1⟩
      case round =>
        obtain ⟨j, x, hj, hgj, hxl, rfl, rfl, HZ, HG⟩ := hrel
        clear HG1
        have hXa1 := Blk.below hXa HG.out.below hXa.lt
        have hY1 := Blk.below hY HG.out.below hY.lt
        obtain ⟨s0, s1, s2, s3, s4, s5, s6, _⟩ := blk7 hXa1
        obtain ⟨y0, y1, y2, z0, z1, z2⟩ := blk3 hY1
        have hla := hXa1.lt
        have hly := hY1.lt
        have w40 : (j : Int) < 40 := by omega
        have HRA := Lib.hid (HR.out.below HG.out.below)
        cases hh : has ⟨2, 0, 0, f, t, o, es⟩ ⟨2, 0, x⟩ with
        | true =>
          have HH := Lib.hid hh
          clear hh
          go_wp2_with fail
          refine (has_is 2 0 0 f t o A n c ⟨2, 0, 0, f, t, o, es⟩ rfl (.inr (.inr (.inr HCA.out))) 2 0 x wr HN.out (by omega) (by omega) (by decide) (by decide) HRA.out true HH.out).mono ?_
          rintro e wy ⟨rfl, hgy⟩
          have hY2 := Blk.below hY1 hgy.below hY1.lt
          have hB2 := HW0.out.trans ((HG.out.trans hgy).below.mono (by omega))
          clear y0 y1 y2 z0 z1 z2 hly
          obtain ⟨y0, y1, y2, z0, z1, z2⟩ := blk3 hY2
          have hly := hY2.lt
          go_wp2_with fail
          refine bodyPost_ret (v := .tuple #[.agg #[.int .i64 2, .int .i64 0, .string ⟨x.toArray⟩], .bool true]) (by simp [results, Try.results25, go_sem, y0, y1, y2]) rfl ?_
          refine ⟨2, 0, x, rfl, by omega, by decide, by decide, HH.out, ?_, below_set (below_set (below_set hB2 (by omega)) (by omega)) (by omega)⟩
          cases hb : has ⟨2, 0, 0, f', t', false, fs⟩ ⟨2, 0, x⟩ with
          | false => rfl
          | true =>
            exfalso
            rw [T_iff HCB.out] at hb
            have q1 := hb.2.2.2.2
            rcases q1 with q | q
            · simp at q
            · have q2 : bytesLess x t' = true := q
              have q3 : bytesLess x s = false := by rw [← HZ.out]; exact zs_le s j
              rw [le_trans HGE.out q3] at q2
              simp at q2
        | false =>
          have HH := Lib.hid hh
          have hjJ : j < J := by
            rcases Nat.lt_or_ge j J with h | h
            · exact h
            · have e : j = J := by omega
              rw [e] at HZ
              rw [← HZ.out] at hh
              rw [HJ.out] at hh
              simp at hh
          clear hh
          have hadd := ba_app0 x
          have wa : ¬ 9223372036854775807 < x.length + 1 := by omega
          have HZ2 : Hid (zs s (j + 1) = x ++ [0]) := by show _ = _; rw [zs_succ, HZ.out]
          go_wp2_with fail
          refine (has_is 2 0 0 f t o A n c ⟨2, 0, 0, f, t, o, es⟩ rfl (.inr (.inr (.inr HCA.out))) 2 0 x wr HN.out (by omega) (by omega) (by decide) (by decide) HRA.out false HH.out).mono ?_
          rintro e wy ⟨rfl, hgy⟩
          go_wp2_with fail
          go_roundg (40 - (j + 1))
          case measure => omega
          case rel => exact ⟨j + 1, x ++ [0], by omega, Nat.le_refl _, by simp; omega, rfl, by go_num, HZ2, HG.out.trans hgy⟩
end Go.Proofs.Ytcgmbgfbhdimeaa
