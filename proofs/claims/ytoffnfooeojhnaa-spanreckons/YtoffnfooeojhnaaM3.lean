/- Contracts of the program and of the document (SEnd, SHas, SSame, SSrt, SSort, SLie, SComp, SDel, SCop, SOwn, STrimN, STrimT, STrim, SMeet), each used further on. -/
import Derived.Lib.MinMax
import Derived.BigQuiet
import Derived.Lib.Hide
import Derived.Deep.LoopGhost
import Derived.Shelf.SlSortCmp.NoneTotal
import Derived.Shelf.SlGeneric
import Derived.Test.YtoffnfooeojhnaaProg
import Derived.Lib.SliceRun
import Derived.Shelf.Abstract
import Derived.Laws.Append
import Derived.Test.YtoffnfooeojhnaaM1
namespace Go.Proofs.Ytoffnfooeojhnaa
open Go.RowKit Spans Op
/-- A span by value, field by field. -/
abbrev spF (K lo hi : Int) (f t : List UInt8) (o : Bool) (A : Option Addr) (n c : Nat) : Value := .agg #[.int .i64 K, .int .i64 lo, .int .i64 hi, .string ⟨f.toArray⟩, .string ⟨t.toArray⟩, .bool o, .slice A n c]
theorem ba_app (a b : List UInt8) : (⟨a.toArray⟩ : ByteArray) ++ ⟨b.toArray⟩ = ⟨(a ++ b).toArray⟩ := by apply ByteArray.ext; simp [ByteArray.data_append]
theorem ba_app0 (a : List UInt8) : (⟨a.toArray⟩ : ByteArray) ++ ⟨#[0]⟩ = ⟨(a ++ [0]).toArray⟩ := ba_app a [0]
def minT (a b : List UInt8) : List UInt8 := if bytesLess b a = true then b else a
def maxT (a b : List UInt8) : List UInt8 := if bytesLess a b = true then b else a
theorem leq_less (a b : List UInt8) : (bytesLess a b || a == b) = !bytesLess b a := by
 rcases less_or a b with h | h | h
 ·rw [h, le_of_lt h]; rfl
 ·subst h; rw [Vals.less_irr]; simp
 ·rw [h, le_of_lt h]
  have : a ≠ b := fun e => by subst e; rw [Vals.less_irr] at h; simp at h
  simp [this]
theorem Grown.drewN {a b : World} (h : Grown a b) (n : Nat) : Grown a (b.drewN n) := h.trans ⟨n, #[], by rw [Go.Sort.grow_empty]⟩
theorem run_minT {P : Program} (a b : List UInt8) (W : World) (ts : Array TypeId) (ty : TypeId) : (Builtin.min_ ts ty #[.string ⟨a.toArray⟩, .string ⟨b.toArray⟩]).run P W = .ok (.string ⟨(minT a b).toArray⟩) W := by
 have e2 := leq_less a b
 cases hc : bytesLess b a <;> simp [Builtin.min_, Builtin.min2, Op.stringOp, asBool, minT, hc, e2]
theorem run_maxT {P : Program} (a b : List UInt8) (W : World) (ts : Array TypeId) (ty : TypeId) : (Builtin.max_ ts ty #[.string ⟨a.toArray⟩, .string ⟨b.toArray⟩]).run P W = .ok (.string ⟨(maxT a b).toArray⟩) W := by
 cases hc : bytesLess a b <;> simp [Builtin.max_, Builtin.max2, Op.stringOp, asBool, maxT, hc]
theorem gr1 (w : World) (a : Obj) : Grown w (w.alloc a) := (Grown.refl w).alloc a
theorem gr2 (w : World) (a b : Obj) : Grown w ((w.alloc a).alloc b) := (gr1 w a).alloc b
theorem gr3 (w : World) (a b c : Obj) : Grown w (((w.alloc a).alloc b).alloc c) := (gr2 w a b).alloc c
set_option maxRecDepth 100000 in
theorem all_at (w : World) : Calls Try.prog 18 #[] w fun e w' => e = .returned (spF 4 0 0 [] [] false none 0 0) /\ Grown w w' := by
 go_enter Try.func18, Try.ntmps18
 go_wp2_with fail
 refine bodyPost_ret (v := spF 4 0 0 [] [] false none 0 0) (by simp [results, Try.results18, go_sem]) rfl ?_
 exact ⟨rfl, gr1 _ _⟩
set_option maxRecDepth 100000 in
theorem whole_at (K : Int) (w : World) (hK : K = 1 ∨ K = 2 ∨ K = 3) : Calls Try.prog 38 #[.int .i64 K] w fun e w' => e = .returned (spF K (if K = 1 then -9223372036854775808 else 0) (if K = 1 then 9223372036854775807 else if K = 3 then 1 else 0) [] [] (K == 2) none 0 0) /\ Grown w w' := by
 go_enter Try.func38, Try.ntmps38
 rcases hK with rfl | rfl | rfl
 ·go_wp2_with fail
  refine bodyPost_ret (v := spF 1 (-9223372036854775808) 9223372036854775807 [] [] false none 0 0) (by simp [results, Try.results38, go_sem]) rfl ?_
  exact ⟨rfl, gr2 _ _ _⟩
 ·go_wp2_with fail
  refine bodyPost_ret (v := spF 2 0 0 [] [] true none 0 0) (by simp [results, Try.results38, go_sem]) rfl ?_
  exact ⟨rfl, gr2 _ _ _⟩
 ·go_wp2_with fail
  refine bodyPost_ret (v := spF 3 0 1 [] [] false none 0 0) (by simp [results, Try.results38, go_sem]) rfl ?_
  exact ⟨rfl, gr2 _ _ _⟩
set_option maxRecDepth 100000 in
theorem begin_num (K lo hi : Int) (f t : List UInt8) (o : Bool) (A : Option Addr) (n c : Nat) (k i : Int) (x : List UInt8) (w : World) (hK : K ≠ 2) : Calls Try.prog 41 #[spF K lo hi f t o A n c, .agg #[.int .i64 k, .int .i64 i, .string ⟨x.toArray⟩]] w fun e w' => e = .returned (spF K i hi f t o A n c) /\ Grown w w' := by
 go_enter Try.func41, Try.ntmps41
 have h2 : (K == 2) = false := beq_eq_false_iff_ne.2 hK
 go_wp2_with fail
 refine bodyPost_ret (v := spF K i hi f t o A n c) (by simp [results, Try.results41, go_sem]) rfl ?_
 exact ⟨rfl, gr3 _ _ _ _⟩
set_option maxRecDepth 100000 in
theorem begin_text (lo hi : Int) (f t : List UInt8) (o : Bool) (A : Option Addr) (n c : Nat) (k i : Int) (x : List UInt8) (w : World) : Calls Try.prog 41 #[spF 2 lo hi f t o A n c, .agg #[.int .i64 k, .int .i64 i, .string ⟨x.toArray⟩]] w fun e w' => e = .returned (spF 2 lo hi x t o A n c) /\ Grown w w' := by
 go_enter Try.func41, Try.ntmps41
 go_wp2_with fail
 refine bodyPost_ret (v := spF 2 lo hi x t o A n c) (by simp [results, Try.results41, go_sem]) rfl ?_
 exact ⟨rfl, gr3 _ _ _ _⟩
set_option maxRecDepth 100000 in
theorem end_num (K lo hi : Int) (f t : List UInt8) (o : Bool) (A : Option Addr) (n c : Nat) (k i : Int) (x : List UInt8) (w : World) (hK : K ≠ 2) : Calls Try.prog 40 #[spF K lo hi f t o A n c, .agg #[.int .i64 k, .int .i64 i, .string ⟨x.toArray⟩]] w fun e w' => e = .returned (spF K lo i f t o A n c) /\ Grown w w' := by
 go_enter Try.func40, Try.ntmps40
 have h2 : (K == 2) = false := beq_eq_false_iff_ne.2 hK
 go_wp2_with fail
 refine bodyPost_ret (v := spF K lo i f t o A n c) (by simp [results, Try.results40, go_sem]) rfl ?_
 exact ⟨rfl, gr3 _ _ _ _⟩
set_option maxRecDepth 100000 in
theorem end_text (lo hi : Int) (f t : List UInt8) (o : Bool) (A : Option Addr) (n c : Nat) (k i : Int) (x : List UInt8) (w : World) (hx : x.length <= 100000) : Calls Try.prog 40 #[spF 2 lo hi f t o A n c, .agg #[.int .i64 k, .int .i64 i, .string ⟨x.toArray⟩]] w fun e w' => e = .returned (spF 2 lo hi f (x ++ [0]) false A n c) /\ Grown w w' := by
 go_enter Try.func40, Try.ntmps40
 go_wp2_with fail
 refine bodyPost_ret (v := spF 2 lo hi f (x ++ [0]) false A n c) (by simp [results, Try.results40, go_sem, ba_app0]) rfl ?_
 exact ⟨rfl, gr3 _ _ _ _⟩
set_option maxRecDepth 100000 in
theorem shutsOut_at (o : Int) (w : World) (b : Bool) (hb : (o == 2 || o == 3 || o == 5) = b) : Calls Try.prog 43 #[.int .i64 o] w fun e w' => e = .returned (.bool b) /\ w' = w := by
 go_enter Try.func43, Try.ntmps43
 go_wp2_with fail
 all_goals (go_ret; refine ⟨ret_b ?_, rfl⟩; simp_all)
set_option maxRecDepth 100000 in
theorem lesser_at (K lo hi : Int) (f t : List UInt8) (o : Bool) (A : Option Addr) (n c : Nat) (K' lo' hi' : Int) (f' t' : List UInt8) (o' : Bool) (A' : Option Addr) (n' c' : Nat) (w : World) :
  Calls Try.prog 23 #[spF K lo hi f t o A n c, spF K' lo' hi' f' t' o' A' n' c'] w fun e w' => e = .returned (.tuple #[.string ⟨(if o then t' else if o' then t else minT t t').toArray⟩, .bool (o && o')]) /\ Grown w w' := by
 have hmin := run_minT (P := Try.prog) t t'
 go_enter Try.func23, Try.ntmps23
 cases o
 ·cases o'
  ·go_wp2_with fail
   go_ret2
   exact ⟨rfl, gr2 _ _ _⟩
  ·go_wp2_with fail
   go_ret2
   exact ⟨rfl, gr2 _ _ _⟩
 ·go_wp2_with fail
  go_quiet (fail)
  go_wp2_with fail
  go_ret2
  exact ⟨rfl, (gr2 _ _ _).drewN _⟩
set_option maxRecDepth 100000 in
theorem between_num (K lo hi : Int) (f t : List UInt8) (o : Bool) (A : Option Addr) (n c : Nat) (k i : Int) (x : List UInt8) (w : World) (hK : K ≠ 2) : Calls Try.prog 31 #[spF K lo hi f t o A n c, .agg #[.int .i64 k, .int .i64 i, .string ⟨x.toArray⟩]] w fun e w' => e = .returned (.bool (inN lo hi i)) /\ Grown w w' := by
 go_enter Try.func31, Try.ntmps31
 have h2 : (K == 2) = false := beq_eq_false_iff_ne.2 hK
 go_wp2_with fail
 all_goals (go_ret; refine ⟨ret_b ?_, gr2 _ _ _⟩; simp_all [inN])
 all_goals omega
set_option maxRecDepth 100000 in
theorem between_text (lo hi : Int) (f t : List UInt8) (o : Bool) (A : Option Addr) (n c : Nat) (k i : Int) (x : List UInt8) (w : World) : Calls Try.prog 31 #[spF 2 lo hi f t o A n c, .agg #[.int .i64 k, .int .i64 i, .string ⟨x.toArray⟩]] w fun e w' => e = .returned (.bool (inT f t o x)) /\ Grown w w' := by
 go_enter Try.func31, Try.ntmps31
 go_wp2_with fail
 all_goals (go_ret; refine ⟨ret_b ?_, gr2 _ _ _⟩; have key := leq_less f x; cases hx : bytesLess x f <;> rw [hx] at key <;> simp_all [inT])
end Go.Proofs.Ytoffnfooeojhnaa
namespace Go.Proofs.Ytoffnfooeojhnaa
open Go.RowKit Spans Op
theorem takeS {es : List Val} {p : Nat} (h : p < es.length) : es.take (p + 1) = es.take p ++ [es[p]] := List.take_succ_eq_append_getElem h
set_option maxRecDepth 100000 in
set_option maxHeartbeats 1000000 in
theorem indexV_at (A : Option Addr) (es : List Val) (n cap : Nat) (hn : es.length = n) (hm : n <= 100000) (yk yi : Int) (yt : List UInt8) (w : World) (hr : RdW w A es) :
  Calls Try.prog 56 #[.slice A n cap, .agg #[.int .i64 yk, .int .i64 yi, .string ⟨yt.toArray⟩]] w fun e w' => ∃ r, e = .returned (.int .i64 r) /\ (0 <= r ↔ (⟨yk, yi, yt⟩ : Val) ∈ es) /\ Grown w w' := by
 have HN := Lib.hid hn
 have hB := Blk.new w 24 #[.int .i64 yk, .int .i64 yi, .string ⟨yt.toArray⟩]
 have HG0 := Lib.hid (gr1 w (.cells #[.int .i64 yk, .int .i64 yi, .string ⟨yt.toArray⟩] 24))
 have hr1 := hr.below HG0.out.below
 clear hn hr
 go_enter Try.func56, Try.ntmps56
 go_wp2_with fail
 generalize w.heap.size = g0 at *
 generalize w.alloc (.cells #[.int .i64 yk, .int .i64 yi, .string ⟨yt.toArray⟩] 24) = w1 at *
 go_loopg [8] n (fun gg s8 wr => ∃ k : Nat, k <= n /\ n - k <= gg /\ s8 = .int .i64 (k : Int) /\ Hid (Grown w1 wr) /\ Hid ((⟨yk, yi, yt⟩ : Val) ∉ es.take k))
 case atStart => exact ⟨0, Nat.zero_le _, by omega, rfl, Grown.refl w1, by show _ ∉ _; simp⟩
 case round =>
  obtain ⟨k, hk, hgg, rfl, HG, HA⟩ := hrel
  by_cases hlt : k < n
  ·have hk' : k < es.length := by rw [HN.out]; exact hlt
   obtain ⟨g, off, rfl, hg, c0, c1, c2⟩ := RdW.at3 (hr1.below HG.out.below) hk'
   obtain ⟨b0, b1, b2, _⟩ := blk3 (Blk.below hB HG.out.below hB.lt)
   obtain ⟨x, hx⟩ : ∃ x, es[k] = x := ⟨_, rfl⟩
   have HX := Lib.hid hx
   rw [hx] at c0 c1 c2
   clear hx hr1 hB
   obtain ⟨xk, xi, xt⟩ := x
   have w5 : (k : Int) < (n : Int) := by omega
   go_wp2_with fail
   refine wp_region_held_drew (S := fun w' => w' = wr.drew) (by kernel_rfl) rfl (fun _ => ?_)
   refine wpAnyH_yes (i := 0) (d := 11) (v := ?_) rfl rfl (by kernel_rfl) (by kernel_rfl) (by kernel_rfl) (fun _ _ _ h => h) (by rfl) ?_ rfl ?_
   rotate_left
   ·intro w' hSw; subst hSw; go_simp <;> with_reducible rfl
   simp only [Act.put, List.setIfInBounds_toArray, List.set_cons_zero, List.set_cons_succ]
   refine wpAnyH_yes (i := 1) (d := 12) (v := ?_) rfl rfl (by kernel_rfl) (by kernel_rfl) (by kernel_rfl) (fun _ _ _ h => h) (by rfl) ?_ rfl ?_
   rotate_left
   ·intro w' hSw; subst hSw; go_simp <;> with_reducible rfl
   simp only [Act.put, List.setIfInBounds_toArray, List.set_cons_zero, List.set_cons_succ]
   refine wpAnyH_yes (i := 2) (d := 13) (v := ?_) rfl rfl (by kernel_rfl) (by kernel_rfl) (by kernel_rfl) (fun _ _ _ h => h) (by rfl) ?_ rfl ?_
   rotate_left
   ·intro w' hSw; subst hSw; go_simp <;> with_reducible rfl
   simp only [Act.put, List.setIfInBounds_toArray, List.set_cons_zero, List.set_cons_succ]
   refine wpAnyH_yes (i := 3) (d := 14) (v := ?_) rfl rfl (by kernel_rfl) (by kernel_rfl) (by kernel_rfl) (fun _ _ _ h => h) (by rfl) ?_ rfl ?_
   rotate_left
   ·intro w' hSw; subst hSw; go_simp <;> with_reducible rfl
   simp only [Act.put, List.setIfInBounds_toArray, List.set_cons_zero, List.set_cons_succ]
   refine wpAnyH_yes (i := 4) (d := 15) (v := ?_) rfl rfl (by kernel_rfl) (by kernel_rfl) (by kernel_rfl) (fun _ _ _ h => h) (by rfl) ?_ rfl ?_
   rotate_left
   ·intro w' hSw; subst hSw; go_simp <;> with_reducible rfl
   simp only [Act.put, List.setIfInBounds_toArray, List.set_cons_zero, List.set_cons_succ]
   refine wpAnyH_yes (i := 5) (d := 16) (v := .bool (decide ((⟨yk, yi, yt⟩ : Val) = (⟨xk, xi, xt⟩ : Val)))) rfl rfl (by kernel_rfl) (by kernel_rfl) (by kernel_rfl) (fun _ _ _ h => h) (by rfl) ?_ rfl ?_
   ·intro w' hSw; subst hSw; go_simp
    by_cases a1 : yk = xk <;> by_cases a2 : yi = xi <;> by_cases a3 : yt = xt <;> simp [a1, a2, a3]
   simp only [Act.put, List.setIfInBounds_toArray, List.set_cons_zero, List.set_cons_succ]
   refine wpAnyH_done (by kernel_rfl) ?_ _
   clear c0 c1 c2 b0 b1 b2 w5
   by_cases hxy : (⟨yk, yi, yt⟩ : Val) = (⟨xk, xi, xt⟩ : Val)
   ·have hd : decide ((⟨yk, yi, yt⟩ : Val) = (⟨xk, xi, xt⟩ : Val)) = true := decide_eq_true hxy
    rw [hd]
    have HM : Hid ((⟨yk, yi, yt⟩ : Val) ∈ es) := by show _ ∈ es; rw [hxy, <- HX.out]; exact List.getElem_mem hk'
    clear hd hxy HX
    go_wp2_with fail
    go_ret
    exact ⟨_, rfl, ⟨fun _ => HM.out, fun _ => by omega⟩, HG0.out.trans HG.out.drew⟩
   ·have hd : decide ((⟨yk, yi, yt⟩ : Val) = (⟨xk, xi, xt⟩ : Val)) = false := decide_eq_false hxy
    rw [hd]
    have HQ : Hid ((⟨yk, yi, yt⟩ : Val) ∉ es.take (k + 1)) := by
     show _ ∉ _
     rw [takeS hk', HX.out]
     intro hv
     rcases List.mem_append.1 hv with hv | hv
     ·exact HA.out hv
     ·simp only [List.mem_singleton] at hv; exact hxy hv
    clear hd hxy HX
    go_wp2_with fail
    go_roundg (n - (k + 1))
    case measure => omega
    case rel => exact ⟨k + 1, by omega, Nat.le_refl _, by go_num, HG.out.drew, HQ⟩
  ·have hkn : Hid (k = n) := by show k = n; omega
   go_wp2_with fail
   go_ret
   exact ⟨_, rfl, ⟨fun h => by omega, fun h => by have := HA.out; rw [hkn.out, List.take_of_length_le (by rw [HN.out]; exact Nat.le_refl _)] at this; exact absurd h this⟩, HG0.out.trans HG.out⟩
set_option maxRecDepth 100000 in
theorem containsV_at (A : Option Addr) (es : List Val) (n cap : Nat) (hn : es.length = n) (hm : n <= 100000) (yk yi : Int) (yt : List UInt8) (w : World) (hr : RdW w A es) (b : Bool) (hb : decide ((⟨yk, yi, yt⟩ : Val) ∈ es) = b) :
  Calls Try.prog 32 #[.slice A n cap, .agg #[.int .i64 yk, .int .i64 yi, .string ⟨yt.toArray⟩]] w fun e w' => e = .returned (.bool b) /\ Grown w w' := by
 have HB := Lib.hid hb
 have HN := Lib.hid hn
 have HG0 := Lib.hid (gr1 w (.cells #[.int .i64 yk, .int .i64 yi, .string ⟨yt.toArray⟩] 24))
 have HR := Lib.hid (hr.below HG0.out.below)
 clear hb hn hr
 go_enter Try.func32, Try.ntmps32
 go_wp2_with fail
 refine (indexV_at A es n cap HN.out hm yk yi yt _ HR.out).mono ?_
 rintro e w2 ⟨r, rfl, hri, hg⟩
 have HI := Lib.hid hri
 clear hri
 go_wp2_with fail
 all_goals (go_ret; refine ⟨ret_b ?_, HG0.out.trans hg⟩; rw [<- HB.out]; have := HI.out; by_cases hm : (⟨yk, yi, yt⟩ : Val) ∈ es <;> simp_all)
set_option maxRecDepth 100000 in
set_option maxHeartbeats 1000000 in
theorem equalV_at (A : Option Addr) (es : List Val) (n cap : Nat) (hn : es.length = n) (hm : n <= 100000) (A' : Option Addr) (fs : List Val) (n' cap' : Nat) (hn' : fs.length = n') (hm' : n' <= 100000) (w : World) (hr : RdW w A es) (hr' : RdW w A' fs) (b : Bool) (hb : decide (es = fs) = b) :
  Calls Try.prog 55 #[.slice A n cap, .slice A' n' cap'] w fun e w' => e = .returned (.bool b) /\ Grown w w' := by
 subst hb
 have HN := Lib.hid hn
 have HN' := Lib.hid hn'
 have HR := Lib.hid hr
 have HR' := Lib.hid hr'
 clear hn hn' hr hr'
 by_cases hne : n = n'
 ·subst hne
  go_enter Try.func55, Try.ntmps55
  go_wp2_with fail
  go_loopg [13] n (fun gg s8 wr => ∃ k : Nat, k <= n /\ n - k <= gg /\ s8 = .int .i64 (k : Int) /\ Hid (Grown w wr) /\ Hid (es.take k = fs.take k))
  case atStart => exact ⟨0, Nat.zero_le _, by omega, rfl, Grown.refl w, by show _ = _; simp⟩
  case round =>
   obtain ⟨k, hk, hgg, rfl, HG, HA⟩ := hrel
   by_cases hlt : k < n
   ·have hk' : k < es.length := by rw [HN.out]; exact hlt
    have hk2 : k < fs.length := by rw [HN'.out]; exact hlt
    obtain ⟨g, off, rfl, hg, c0, c1, c2⟩ := RdW.at3 (HR.out.below HG.out.below) hk'
    obtain ⟨g', off', rfl, hg', b0, b1, b2⟩ := RdW.at3 (HR'.out.below HG.out.below) hk2
    obtain ⟨x, hx⟩ : ∃ x, es[k] = x := ⟨_, rfl⟩
    obtain ⟨y, hy⟩ : ∃ y, fs[k] = y := ⟨_, rfl⟩
    have HX := Lib.hid hx
    have HY := Lib.hid hy
    rw [hx] at c0 c1 c2
    rw [hy] at b0 b1 b2
    clear hx hy
    obtain ⟨xk, xi, xt⟩ := x
    obtain ⟨yk, yi, yt⟩ := y
    have w5 : (k : Int) < (n : Int) := by omega
    go_wp2_with fail
    refine wp_region_held_drew (S := fun w' => w' = wr.drew) (by kernel_rfl) rfl (fun _ => ?_)
    refine wpAnyH_yes (i := 0) (d := 16) (v := ?_) rfl rfl (by kernel_rfl) (by kernel_rfl) (by kernel_rfl) (fun _ _ _ h => h) (by rfl) ?_ rfl ?_
    rotate_left
    ·intro w' hSw; subst hSw; go_simp <;> with_reducible rfl
    simp only [Act.put, List.setIfInBounds_toArray, List.set_cons_zero, List.set_cons_succ]
    refine wpAnyH_yes (i := 1) (d := 17) (v := ?_) rfl rfl (by kernel_rfl) (by kernel_rfl) (by kernel_rfl) (fun _ _ _ h => h) (by rfl) ?_ rfl ?_
    rotate_left
    ·intro w' hSw; subst hSw; go_simp <;> with_reducible rfl
    simp only [Act.put, List.setIfInBounds_toArray, List.set_cons_zero, List.set_cons_succ]
    refine wpAnyH_yes (i := 2) (d := 18) (v := ?_) rfl rfl (by kernel_rfl) (by kernel_rfl) (by kernel_rfl) (fun _ _ _ h => h) (by rfl) ?_ rfl ?_
    rotate_left
    ·intro w' hSw; subst hSw; go_simp <;> with_reducible rfl
    simp only [Act.put, List.setIfInBounds_toArray, List.set_cons_zero, List.set_cons_succ]
    refine wpAnyH_yes (i := 3) (d := 19) (v := ?_) rfl rfl (by kernel_rfl) (by kernel_rfl) (by kernel_rfl) (fun _ _ _ h => h) (by rfl) ?_ rfl ?_
    rotate_left
    ·intro w' hSw; subst hSw; go_simp <;> with_reducible rfl
    simp only [Act.put, List.setIfInBounds_toArray, List.set_cons_zero, List.set_cons_succ]
    refine wpAnyH_yes (i := 4) (d := 20) (v := ?_) rfl rfl (by kernel_rfl) (by kernel_rfl) (by kernel_rfl) (fun _ _ _ h => h) (by rfl) ?_ rfl ?_
    rotate_left
    ·intro w' hSw; subst hSw; go_simp <;> with_reducible rfl
    simp only [Act.put, List.setIfInBounds_toArray, List.set_cons_zero, List.set_cons_succ]
    refine wpAnyH_yes (i := 5) (d := 21) (v := ?_) rfl rfl (by kernel_rfl) (by kernel_rfl) (by kernel_rfl) (fun _ _ _ h => h) (by rfl) ?_ rfl ?_
    rotate_left
    ·intro w' hSw; subst hSw; go_simp <;> with_reducible rfl
    simp only [Act.put, List.setIfInBounds_toArray, List.set_cons_zero, List.set_cons_succ]
    refine wpAnyH_yes (i := 6) (d := 22) (v := ?_) rfl rfl (by kernel_rfl) (by kernel_rfl) (by kernel_rfl) (fun _ _ _ h => h) (by rfl) ?_ rfl ?_
    rotate_left
    ·intro w' hSw; subst hSw; go_simp <;> with_reducible rfl
    simp only [Act.put, List.setIfInBounds_toArray, List.set_cons_zero, List.set_cons_succ]
    refine wpAnyH_yes (i := 7) (d := 23) (v := ?_) rfl rfl (by kernel_rfl) (by kernel_rfl) (by kernel_rfl) (fun _ _ _ h => h) (by rfl) ?_ rfl ?_
    rotate_left
    ·intro w' hSw; subst hSw; go_simp <;> with_reducible rfl
    simp only [Act.put, List.setIfInBounds_toArray, List.set_cons_zero, List.set_cons_succ]
    refine wpAnyH_yes (i := 8) (d := 24) (v := .bool (!decide ((⟨xk, xi, xt⟩ : Val) = (⟨yk, yi, yt⟩ : Val)))) rfl rfl (by kernel_rfl) (by kernel_rfl) (by kernel_rfl) (fun _ _ _ h => h) (by rfl) ?_ rfl ?_
    ·intro w' hSw; subst hSw; go_simp
     by_cases a1 : xk = yk <;> by_cases a2 : xi = yi <;> by_cases a3 : xt = yt <;> simp [a1, a2, a3]
    simp only [Act.put, List.setIfInBounds_toArray, List.set_cons_zero, List.set_cons_succ]
    refine wpAnyH_done (by kernel_rfl) ?_ _
    clear c0 c1 c2 b0 b1 b2 w5
    by_cases hxy : (⟨xk, xi, xt⟩ : Val) = (⟨yk, yi, yt⟩ : Val)
    ·have hd : (!decide ((⟨xk, xi, xt⟩ : Val) = (⟨yk, yi, yt⟩ : Val))) = false := by rw [decide_eq_true hxy]; rfl
     rw [hd]
     have HQ : Hid (es.take (k + 1) = fs.take (k + 1)) := by
      show _ = _
      rw [takeS hk', takeS hk2, HX.out, HY.out, HA.out, hxy]
     clear hd hxy HX HY
     go_wp2_with fail
     go_roundg (n - (k + 1))
     case measure => omega
     case rel => exact ⟨k + 1, by omega, Nat.le_refl _, by go_num, HG.out.drew, HQ⟩
    ·have hd : (!decide ((⟨xk, xi, xt⟩ : Val) = (⟨yk, yi, yt⟩ : Val))) = true := by rw [decide_eq_false hxy]; rfl
     rw [hd]
     have HQ : Hid (es ≠ fs) := by
      show _ ≠ _
      intro e
      subst e
      exact hxy (HX.out.symm.trans HY.out)
     clear hd hxy HX HY
     go_wp2_with fail
     go_ret
     exact ⟨ret_b (decide_eq_false HQ.out).symm, HG.out.drew⟩
   ·have hkn : Hid (k = n) := by show k = n; omega
    go_wp2_with fail
    go_ret
    refine ⟨ret_b (decide_eq_true ?_).symm, HG.out⟩
    have := HA.out
    rwa [hkn.out, List.take_of_length_le (by rw [HN.out]; exact Nat.le_refl _), List.take_of_length_le (by rw [HN'.out]; exact Nat.le_refl _)] at this
 ·have v1 : ((n : Int) == (n' : Int)) = false := beq_eq_false_iff_ne.2 (by omega)
  go_enter Try.func55, Try.ntmps55
  go_wp2_with fail
  go_ret
  exact ⟨ret_b (decide_eq_false fun e => hne (by rw [<- HN.out, <- HN'.out, e])).symm, Grown.refl _⟩
end Go.Proofs.Ytoffnfooeojhnaa
namespace Go.Proofs.Ytoffnfooeojhnaa
open Go.RowKit Spans Op
instance : DecidableEq Sp := fun a b => decidable_of_iff (a.kind = b.kind /\ a.lo = b.lo /\ a.hi = b.hi /\ a.frm = b.frm /\ a.to_ = b.to_ /\ a.opn = b.opn /\ a.no = b.no) (by cases a; cases b; simp)
theorem eqGuardQ : Try.prog.eqGuardType Try.prog.depth 38 = false := by kernel_rfl
set_option maxRecDepth 100000 in
set_option maxHeartbeats 1000000 in
theorem valuesV_at (A : Option Addr) (es : List Val) (n cap : Nat) (hn : es.length = n) (hm : n <= 100000) (A' : Option Addr) (fs : List Val) (n' cap' : Nat) (hn' : fs.length = n') (hm' : n' <= 100000) (w : World) (hr : RdW w A es) (hr' : RdW w A' fs) (b : Bool) (hb : decide (es = fs) = b) :
  Calls Try.prog 25 #[.slice A n cap, .slice A' n' cap'] w fun e w' => e = .returned (.bool b) /\ Grown w w' := by
 subst hb
 have hG := eqGuardV
 have HN := Lib.hid hn
 have HN' := Lib.hid hn'
 have HR := Lib.hid hr
 have HR' := Lib.hid hr'
 clear hn hn' hr hr'
 by_cases hne : n = n'
 ·subst hne
  go_enter Try.func25, Try.ntmps25
  go_wp2_with fail
  go_loopg [5] n (fun gg s8 wr => ∃ k : Nat, k <= n /\ n - k <= gg /\ s8 = .int .i64 (k : Int) /\ Hid (Grown w wr) /\ Hid (es.take k = fs.take k))
  case atStart => exact ⟨0, Nat.zero_le _, by omega, rfl, Grown.refl w, by show _ = _; simp⟩
  case round =>
   obtain ⟨k, hk, hgg, rfl, HG, HA⟩ := hrel
   by_cases hlt : k < n
   ·have hk' : k < es.length := by rw [HN.out]; exact hlt
    have hk2 : k < fs.length := by rw [HN'.out]; exact hlt
    obtain ⟨g, off, rfl, hg, c0, c1, c2⟩ := RdW.at3 (HR.out.below HG.out.below) hk'
    obtain ⟨g', off', rfl, hg', b0, b1, b2⟩ := RdW.at3 (HR'.out.below HG.out.below) hk2
    obtain ⟨x, hx⟩ : ∃ x, es[k] = x := ⟨_, rfl⟩
    obtain ⟨y, hy⟩ : ∃ y, fs[k] = y := ⟨_, rfl⟩
    have HX := Lib.hid hx
    have HY := Lib.hid hy
    rw [hx] at c0 c1 c2
    rw [hy] at b0 b1 b2
    clear hx hy
    obtain ⟨xk, xi, xt⟩ := x
    obtain ⟨yk, yi, yt⟩ := y
    have w5 : (k : Int) < (n : Int) := by omega
    go_wp2_with fail
    refine wp_region_held_drew (S := fun w' => w' = wr.drew) (by kernel_rfl) rfl (fun _ => ?_)
    refine wpAnyH_yes (i := 0) (d := 17) (v := ?_) rfl rfl (by kernel_rfl) (by kernel_rfl) (by kernel_rfl) (fun _ _ _ h => h) (by rfl) ?_ rfl ?_
    rotate_left
    ·intro w' hSw; subst hSw; go_simp <;> with_reducible rfl
    simp only [Act.put, List.setIfInBounds_toArray, List.set_cons_zero, List.set_cons_succ]
    refine wpAnyH_yes (i := 1) (d := 18) (v := ?_) rfl rfl (by kernel_rfl) (by kernel_rfl) (by kernel_rfl) (fun _ _ _ h => h) (by rfl) ?_ rfl ?_
    rotate_left
    ·intro w' hSw; subst hSw; go_simp <;> with_reducible rfl
    simp only [Act.put, List.setIfInBounds_toArray, List.set_cons_zero, List.set_cons_succ]
    refine wpAnyH_yes (i := 2) (d := 19) (v := ?_) rfl rfl (by kernel_rfl) (by kernel_rfl) (by kernel_rfl) (fun _ _ _ h => h) (by rfl) ?_ rfl ?_
    rotate_left
    ·intro w' hSw; subst hSw; go_simp <;> with_reducible rfl
    simp only [Act.put, List.setIfInBounds_toArray, List.set_cons_zero, List.set_cons_succ]
    refine wpAnyH_yes (i := 3) (d := 20) (v := ?_) rfl rfl (by kernel_rfl) (by kernel_rfl) (by kernel_rfl) (fun _ _ _ h => h) (by rfl) ?_ rfl ?_
    rotate_left
    ·intro w' hSw; subst hSw; go_simp <;> with_reducible rfl
    simp only [Act.put, List.setIfInBounds_toArray, List.set_cons_zero, List.set_cons_succ]
    refine wpAnyH_yes (i := 4) (d := 21) (v := ?_) rfl rfl (by kernel_rfl) (by kernel_rfl) (by kernel_rfl) (fun _ _ _ h => h) (by rfl) ?_ rfl ?_
    rotate_left
    ·intro w' hSw; subst hSw; go_simp <;> with_reducible rfl
    simp only [Act.put, List.setIfInBounds_toArray, List.set_cons_zero, List.set_cons_succ]
    refine wpAnyH_yes (i := 5) (d := 22) (v := ?_) rfl rfl (by kernel_rfl) (by kernel_rfl) (by kernel_rfl) (fun _ _ _ h => h) (by rfl) ?_ rfl ?_
    rotate_left
    ·intro w' hSw; subst hSw; go_simp <;> with_reducible rfl
    simp only [Act.put, List.setIfInBounds_toArray, List.set_cons_zero, List.set_cons_succ]
    refine wpAnyH_yes (i := 6) (d := 23) (v := ?_) rfl rfl (by kernel_rfl) (by kernel_rfl) (by kernel_rfl) (fun _ _ _ h => h) (by rfl) ?_ rfl ?_
    rotate_left
    ·intro w' hSw; subst hSw; go_simp <;> with_reducible rfl
    simp only [Act.put, List.setIfInBounds_toArray, List.set_cons_zero, List.set_cons_succ]
    refine wpAnyH_yes (i := 7) (d := 24) (v := ?_) rfl rfl (by kernel_rfl) (by kernel_rfl) (by kernel_rfl) (fun _ _ _ h => h) (by rfl) ?_ rfl ?_
    rotate_left
    ·intro w' hSw; subst hSw; go_simp <;> with_reducible rfl
    simp only [Act.put, List.setIfInBounds_toArray, List.set_cons_zero, List.set_cons_succ]
    refine wpAnyH_yes (i := 8) (d := 25) (v := .bool (!decide ((⟨xk, xi, xt⟩ : Val) = (⟨yk, yi, yt⟩ : Val)))) rfl rfl (by kernel_rfl) (by kernel_rfl) (by kernel_rfl) (fun _ _ _ h => h) (by rfl) ?_ rfl ?_
    ·intro w' hSw; subst hSw; go_simp
     by_cases a1 : xk = yk <;> by_cases a2 : xi = yi <;> by_cases a3 : xt = yt <;> simp [a1, a2, a3]
    simp only [Act.put, List.setIfInBounds_toArray, List.set_cons_zero, List.set_cons_succ]
    refine wpAnyH_done (by kernel_rfl) ?_ _
    clear c0 c1 c2 b0 b1 b2 w5
    by_cases hxy : (⟨xk, xi, xt⟩ : Val) = (⟨yk, yi, yt⟩ : Val)
    ·have hd : (!decide ((⟨xk, xi, xt⟩ : Val) = (⟨yk, yi, yt⟩ : Val))) = false := by rw [decide_eq_true hxy]; rfl
     rw [hd]
     have HQ : Hid (es.take (k + 1) = fs.take (k + 1)) := by
      show _ = _
      rw [List.take_succ_eq_append_getElem hk', List.take_succ_eq_append_getElem hk2, HX.out, HY.out, HA.out, hxy]
     clear hd hxy HX HY
     go_wp2_with fail
     go_roundg (n - (k + 1))
     case measure => omega
     case rel => exact ⟨k + 1, by omega, Nat.le_refl _, by go_num, HG.out.drew, HQ⟩
    ·have hd : (!decide ((⟨xk, xi, xt⟩ : Val) = (⟨yk, yi, yt⟩ : Val))) = true := by rw [decide_eq_false hxy]; rfl
     rw [hd]
     have HQ : Hid (es ≠ fs) := by
      show _ ≠ _
      intro e
      subst e
      exact hxy (HX.out.symm.trans HY.out)
     clear hd hxy HX HY
     go_wp2_with fail
     go_ret
     exact ⟨ret_b (decide_eq_false HQ.out).symm, HG.out.drew⟩
   ·have hkn : Hid (k = n) := by show k = n; omega
    go_wp2_with fail
    go_ret
    refine ⟨ret_b (decide_eq_true ?_).symm, HG.out⟩
    have := HA.out
    rwa [hkn.out, List.take_of_length_le (by rw [HN.out]; exact Nat.le_refl _), List.take_of_length_le (by rw [HN'.out]; exact Nat.le_refl _)] at this
 ·have v1 : ((n : Int) == (n' : Int)) = false := beq_eq_false_iff_ne.2 (by omega)
  go_enter Try.func25, Try.ntmps25
  go_wp2_with fail
  go_ret
  exact ⟨ret_b (decide_eq_false fun e => hne (by rw [<- HN.out, <- HN'.out, e])).symm, Grown.refl _⟩
set_option maxRecDepth 100000 in
set_option maxHeartbeats 1000000 in
theorem samePs_at (A : Option Addr) (es : List Pr) (n cap : Nat) (hn : es.length = n) (hm : n <= 100000) (A' : Option Addr) (fs : List Pr) (n' cap' : Nat) (hn' : fs.length = n') (hm' : n' <= 100000) (w : World) (hr : RdQ w A es) (hr' : RdQ w A' fs) (b : Bool) (hb : decide (es = fs) = b) :
  Calls Try.prog 15 #[.slice A n cap, .slice A' n' cap'] w fun e w' => e = .returned (.bool b) /\ Grown w w' := by
 subst hb
 have hG := eqGuardQ
 have HN := Lib.hid hn
 have HN' := Lib.hid hn'
 have HR := Lib.hid hr
 have HR' := Lib.hid hr'
 clear hn hn' hr hr'
 by_cases hne : n = n'
 ·subst hne
  go_enter Try.func15, Try.ntmps15
  go_wp2_with fail
  go_loopg [5] n (fun gg s8 wr => ∃ k : Nat, k <= n /\ n - k <= gg /\ s8 = .int .i64 (k : Int) /\ Hid (Grown w wr) /\ Hid (es.take k = fs.take k))
  case atStart => exact ⟨0, Nat.zero_le _, by omega, rfl, Grown.refl w, by show _ = _; simp⟩
  case round =>
   obtain ⟨k, hk, hgg, rfl, HG, HA⟩ := hrel
   by_cases hlt : k < n
   ·have hk' : k < es.length := by rw [HN.out]; exact hlt
    have hk2 : k < fs.length := by rw [HN'.out]; exact hlt
    obtain ⟨g, off, rfl, hg, c0, c1, c2, c3, c4⟩ := RdQ.at5 (HR.out.below HG.out.below) hk'
    obtain ⟨g', off', rfl, hg', b0, b1, b2, b3, b4⟩ := RdQ.at5 (HR'.out.below HG.out.below) hk2
    obtain ⟨x, hx⟩ : ∃ x, es[k] = x := ⟨_, rfl⟩
    obtain ⟨y, hy⟩ : ∃ y, fs[k] = y := ⟨_, rfl⟩
    have HX := Lib.hid hx
    have HY := Lib.hid hy
    rw [hx] at c0 c1 c2 c3 c4
    rw [hy] at b0 b1 b2 b3 b4
    clear hx hy
    obtain ⟨xn, xo, xk, xi, xt⟩ := x
    obtain ⟨yn, yo, yk, yi, yt⟩ := y
    have w5 : (k : Int) < (n : Int) := by omega
    go_wp2_with fail
    refine wp_region_held_drew (S := fun w' => w' = wr.drew) (by kernel_rfl) rfl (fun _ => ?_)
    refine wpAnyH_yes (i := 0) (d := 17) (v := ?_) rfl rfl (by kernel_rfl) (by kernel_rfl) (by kernel_rfl) (fun _ _ _ h => h) (by rfl) ?_ rfl ?_
    rotate_left
    ·intro w' hSw; subst hSw; go_simp <;> with_reducible rfl
    simp only [Act.put, List.setIfInBounds_toArray, List.set_cons_zero, List.set_cons_succ]
    refine wpAnyH_yes (i := 1) (d := 18) (v := ?_) rfl rfl (by kernel_rfl) (by kernel_rfl) (by kernel_rfl) (fun _ _ _ h => h) (by rfl) ?_ rfl ?_
    rotate_left
    ·intro w' hSw; subst hSw; go_simp <;> with_reducible rfl
    simp only [Act.put, List.setIfInBounds_toArray, List.set_cons_zero, List.set_cons_succ]
    refine wpAnyH_yes (i := 2) (d := 19) (v := ?_) rfl rfl (by kernel_rfl) (by kernel_rfl) (by kernel_rfl) (fun _ _ _ h => h) (by rfl) ?_ rfl ?_
    rotate_left
    ·intro w' hSw; subst hSw; go_simp <;> with_reducible rfl
    simp only [Act.put, List.setIfInBounds_toArray, List.set_cons_zero, List.set_cons_succ]
    refine wpAnyH_yes (i := 3) (d := 20) (v := ?_) rfl rfl (by kernel_rfl) (by kernel_rfl) (by kernel_rfl) (fun _ _ _ h => h) (by rfl) ?_ rfl ?_
    rotate_left
    ·intro w' hSw; subst hSw; go_simp <;> with_reducible rfl
    simp only [Act.put, List.setIfInBounds_toArray, List.set_cons_zero, List.set_cons_succ]
    refine wpAnyH_yes (i := 4) (d := 21) (v := ?_) rfl rfl (by kernel_rfl) (by kernel_rfl) (by kernel_rfl) (fun _ _ _ h => h) (by rfl) ?_ rfl ?_
    rotate_left
    ·intro w' hSw; subst hSw; go_simp <;> with_reducible rfl
    simp only [Act.put, List.setIfInBounds_toArray, List.set_cons_zero, List.set_cons_succ]
    refine wpAnyH_yes (i := 5) (d := 22) (v := ?_) rfl rfl (by kernel_rfl) (by kernel_rfl) (by kernel_rfl) (fun _ _ _ h => h) (by rfl) ?_ rfl ?_
    rotate_left
    ·intro w' hSw; subst hSw; go_simp <;> with_reducible rfl
    simp only [Act.put, List.setIfInBounds_toArray, List.set_cons_zero, List.set_cons_succ]
    refine wpAnyH_yes (i := 6) (d := 23) (v := ?_) rfl rfl (by kernel_rfl) (by kernel_rfl) (by kernel_rfl) (fun _ _ _ h => h) (by rfl) ?_ rfl ?_
    rotate_left
    ·intro w' hSw; subst hSw; go_simp <;> with_reducible rfl
    simp only [Act.put, List.setIfInBounds_toArray, List.set_cons_zero, List.set_cons_succ]
    refine wpAnyH_yes (i := 7) (d := 24) (v := ?_) rfl rfl (by kernel_rfl) (by kernel_rfl) (by kernel_rfl) (fun _ _ _ h => h) (by rfl) ?_ rfl ?_
    rotate_left
    ·intro w' hSw; subst hSw; go_simp <;> with_reducible rfl
    simp only [Act.put, List.setIfInBounds_toArray, List.set_cons_zero, List.set_cons_succ]
    refine wpAnyH_yes (i := 8) (d := 25) (v := .bool (!decide ((⟨xn, xo, xk, xi, xt⟩ : Pr) = (⟨yn, yo, yk, yi, yt⟩ : Pr)))) rfl rfl (by kernel_rfl) (by kernel_rfl) (by kernel_rfl) (fun _ _ _ h => h) (by rfl) ?_ rfl ?_
    ·intro w' hSw; subst hSw; go_simp
     by_cases a0 : xn = yn <;> by_cases a4 : xo = yo <;> by_cases a1 : xk = yk <;> by_cases a2 : xi = yi <;> by_cases a3 : xt = yt <;> simp [a0, a1, a2, a3, a4]
    simp only [Act.put, List.setIfInBounds_toArray, List.set_cons_zero, List.set_cons_succ]
    refine wpAnyH_done (by kernel_rfl) ?_ _
    clear c0 c1 c2 c3 c4 b0 b1 b2 b3 b4 w5
    by_cases hxy : (⟨xn, xo, xk, xi, xt⟩ : Pr) = (⟨yn, yo, yk, yi, yt⟩ : Pr)
    ·have hd : (!decide ((⟨xn, xo, xk, xi, xt⟩ : Pr) = (⟨yn, yo, yk, yi, yt⟩ : Pr))) = false := by rw [decide_eq_true hxy]; rfl
     rw [hd]
     have HQ : Hid (es.take (k + 1) = fs.take (k + 1)) := by
      show _ = _
      rw [List.take_succ_eq_append_getElem hk', List.take_succ_eq_append_getElem hk2, HX.out, HY.out, HA.out, hxy]
     clear hd hxy HX HY
     go_wp2_with fail
     go_roundg (n - (k + 1))
     case measure => omega
     case rel => exact ⟨k + 1, by omega, Nat.le_refl _, by go_num, HG.out.drew, HQ⟩
    ·have hd : (!decide ((⟨xn, xo, xk, xi, xt⟩ : Pr) = (⟨yn, yo, yk, yi, yt⟩ : Pr))) = true := by rw [decide_eq_false hxy]; rfl
     rw [hd]
     have HQ : Hid (es ≠ fs) := by
      show _ ≠ _
      intro e
      subst e
      exact hxy (HX.out.symm.trans HY.out)
     clear hd hxy HX HY
     go_wp2_with fail
     go_ret
     exact ⟨ret_b (decide_eq_false HQ.out).symm, HG.out.drew⟩
   ·have hkn : Hid (k = n) := by show k = n; omega
    go_wp2_with fail
    go_ret
    refine ⟨ret_b (decide_eq_true ?_).symm, HG.out⟩
    have := HA.out
    rwa [hkn.out, List.take_of_length_le (by rw [HN.out]; exact Nat.le_refl _), List.take_of_length_le (by rw [HN'.out]; exact Nat.le_refl _)] at this
 ·have v1 : ((n : Int) == (n' : Int)) = false := beq_eq_false_iff_ne.2 (by omega)
  go_enter Try.func15, Try.ntmps15
  go_wp2_with fail
  go_ret
  exact ⟨ret_b (decide_eq_false fun e => hne (by rw [<- HN.out, <- HN'.out, e])).symm, Grown.refl _⟩
set_option maxRecDepth 100000 in
set_option maxHeartbeats 2000000 in
theorem refSame_at (K lo hi : Int) (f t : List UInt8) (o : Bool) (A : Option Addr) (n c : Nat) (K' lo' hi' : Int) (f' t' : List UInt8) (o' : Bool) (A' : Option Addr) (n' c' : Nat) (w : World) (es fs : List Val) (hn : es.length = n) (hm : n <= 100000) (hn' : fs.length = n') (hm' : n' <= 100000) (hr : RdW w A es) (hr' : RdW w A' fs) :
  Calls Try.prog 9 #[spF K lo hi f t o A n c, spF K' lo' hi' f' t' o' A' n' c'] w fun e w' => e = .returned (.bool (decide ((⟨K, lo, hi, f, t, o, es⟩ : Sp) = ⟨K', lo', hi', f', t', o', fs⟩))) /\ Grown w w' := by
 have HN := Lib.hid hn
 have HN' := Lib.hid hn'
 have hG0 := gr2 w (.cells #[.int .i64 K, .int .i64 lo, .int .i64 hi, .string ⟨f.toArray⟩, .string ⟨t.toArray⟩, .bool o, .slice A n c] 29) (.cells #[.int .i64 K', .int .i64 lo', .int .i64 hi', .string ⟨f'.toArray⟩, .string ⟨t'.toArray⟩, .bool o', .slice A' n' c'] 29)
 have HR := Lib.hid (hr.below hG0.below)
 have HR' := Lib.hid (hr'.below hG0.below)
 clear hn hn' hr hr' hG0
 go_enter Try.func9, Try.ntmps9
 by_cases hK : K = K'
 rotate_left
 ·have v : (K == K') = false := beq_eq_false_iff_ne.2 hK
  go_wp2_with fail
  go_ret
  exact ⟨ret_b (decide_eq_false fun e => hK (congrArg Sp.kind e)).symm, gr2 _ _ _⟩
 subst hK
 by_cases hlo : lo = lo'
 rotate_left
 ·have v : (lo == lo') = false := beq_eq_false_iff_ne.2 hlo
  go_wp2_with fail
  go_ret
  exact ⟨ret_b (decide_eq_false fun e => hlo (congrArg Sp.lo e)).symm, gr2 _ _ _⟩
 subst hlo
 by_cases hhi : hi = hi'
 rotate_left
 ·have v : (hi == hi') = false := beq_eq_false_iff_ne.2 hhi
  go_wp2_with fail
  go_ret
  exact ⟨ret_b (decide_eq_false fun e => hhi (congrArg Sp.hi e)).symm, gr2 _ _ _⟩
 subst hhi
 by_cases hf : f = f'
 rotate_left
 ·have v : (f == f') = false := beq_eq_false_iff_ne.2 hf
  go_wp2_with fail
  go_ret
  exact ⟨ret_b (decide_eq_false fun e => hf (congrArg Sp.frm e)).symm, gr2 _ _ _⟩
 subst hf
 by_cases ht : t = t'
 rotate_left
 ·have v : (t == t') = false := beq_eq_false_iff_ne.2 ht
  go_wp2_with fail
  go_ret
  exact ⟨ret_b (decide_eq_false fun e => ht (congrArg Sp.to_ e)).symm, gr2 _ _ _⟩
 subst ht
 by_cases ho : o = o'
 rotate_left
 ·have v : (o == o') = false := beq_eq_false_iff_ne.2 ho
  go_wp2_with fail
  go_ret
  exact ⟨ret_b (decide_eq_false fun e => ho (congrArg Sp.opn e)).symm, gr2 _ _ _⟩
 subst ho
 go_wp2_with fail
 refine (valuesV_at A es n c HN.out hm A' fs n' c' HN'.out hm' _ HR.out HR'.out _ rfl).mono ?_
 rintro e w2 ⟨rfl, hg⟩
 go_wp2_with fail
 go_ret
 refine ⟨ret_b ?_, (gr2 _ _ _).trans hg⟩
 by_cases h : es = fs <;> simp [h]
set_option maxRecDepth 100000 in
set_option maxHeartbeats 2000000 in
theorem spSame_at (K lo hi : Int) (f t : List UInt8) (o : Bool) (A : Option Addr) (n c : Nat) (K' lo' hi' : Int) (f' t' : List UInt8) (o' : Bool) (A' : Option Addr) (n' c' : Nat) (w : World) (es fs : List Val) (hn : es.length = n) (hm : n <= 100000) (hn' : fs.length = n') (hm' : n' <= 100000) (hr : RdW w A es) (hr' : RdW w A' fs) :
  Calls Try.prog 29 #[spF K lo hi f t o A n c, spF K' lo' hi' f' t' o' A' n' c'] w fun e w' => e = .returned (.bool (decide ((⟨K, lo, hi, f, t, o, es⟩ : Sp) = ⟨K', lo', hi', f', t', o', fs⟩))) /\ Grown w w' := by
 have HN := Lib.hid hn
 have HN' := Lib.hid hn'
 have hG0 := gr2 w (.cells #[.int .i64 K, .int .i64 lo, .int .i64 hi, .string ⟨f.toArray⟩, .string ⟨t.toArray⟩, .bool o, .slice A n c] 29) (.cells #[.int .i64 K', .int .i64 lo', .int .i64 hi', .string ⟨f'.toArray⟩, .string ⟨t'.toArray⟩, .bool o', .slice A' n' c'] 29)
 have HR := Lib.hid (hr.below hG0.below)
 have HR' := Lib.hid (hr'.below hG0.below)
 clear hn hn' hr hr' hG0
 go_enter Try.func29, Try.ntmps29
 by_cases hK : K = K'
 rotate_left
 ·have v : (K == K') = false := beq_eq_false_iff_ne.2 hK
  go_wp2_with fail
  go_ret
  exact ⟨ret_b (decide_eq_false fun e => hK (congrArg Sp.kind e)).symm, gr2 _ _ _⟩
 subst hK
 by_cases hlo : lo = lo'
 rotate_left
 ·have v : (lo == lo') = false := beq_eq_false_iff_ne.2 hlo
  go_wp2_with fail
  go_ret
  exact ⟨ret_b (decide_eq_false fun e => hlo (congrArg Sp.lo e)).symm, gr2 _ _ _⟩
 subst hlo
 by_cases hhi : hi = hi'
 rotate_left
 ·have v : (hi == hi') = false := beq_eq_false_iff_ne.2 hhi
  go_wp2_with fail
  go_ret
  exact ⟨ret_b (decide_eq_false fun e => hhi (congrArg Sp.hi e)).symm, gr2 _ _ _⟩
 subst hhi
 by_cases hf : f = f'
 rotate_left
 ·have v : (f == f') = false := beq_eq_false_iff_ne.2 hf
  go_wp2_with fail
  go_ret
  exact ⟨ret_b (decide_eq_false fun e => hf (congrArg Sp.frm e)).symm, gr2 _ _ _⟩
 subst hf
 by_cases ht : t = t'
 rotate_left
 ·have v : (t == t') = false := beq_eq_false_iff_ne.2 ht
  go_wp2_with fail
  go_ret
  exact ⟨ret_b (decide_eq_false fun e => ht (congrArg Sp.to_ e)).symm, gr2 _ _ _⟩
 subst ht
 by_cases ho : o = o'
 rotate_left
 ·have v : (o == o') = false := beq_eq_false_iff_ne.2 ho
  go_wp2_with fail
  go_ret
  exact ⟨ret_b (decide_eq_false fun e => ho (congrArg Sp.opn e)).symm, gr2 _ _ _⟩
 subst ho
 go_wp2_with fail
 refine (equalV_at A es n c HN.out hm A' fs n' c' HN'.out hm' _ HR.out HR'.out _ rfl).mono ?_
 rintro e w2 ⟨rfl, hg⟩
 go_wp2_with fail
 go_ret
 refine ⟨ret_b ?_, (gr2 _ _ _).trans hg⟩
 by_cases h : es = fs <;> simp [h]
end Go.Proofs.Ytoffnfooeojhnaa
namespace Go.Proofs
open Go.Shelf
def Try.sortV_ren : Go.Shelf.Ren := ⟨fun | 6 => 48 | 15 => 62 | 14 => 61 | 28 => 79 | 29 => 80 | 20 => 71 | 21 => 72 | 22 => 73 | 23 => 74 | 24 => 75 | 25 => 76 | 26 => 77 | 27 => 78 | 46 => 85 | 47 => 86 | 48 => 87 | 49 => 88 | 50 => 89 | 57 => 91 | n => n, fun | 22 => 27 | 24 => 24 | 25 => 62 | 3 => 3 | 39 => 70 | 0 => 0 | 53 => 84 | 55 => 86 | 4 => 4 | 46 => 77 | 45 => 76 | 50 => 81 | 5 => 5 | 9 => 9 | 66 => 90 | 70 => 94 | 76 => 96 | 77 => 97 | n => n, fun | n => n⟩
theorem Try.sortV : Go.Proofs.SlLaysF0.n6 Try.prog Try.sortV_ren := {
 mixed := by kernel_rfl
 f6 := ⟨Try.f48.name, by decide, Try.func48.trans (congrArg some (by kernel_rfl))⟩
 f14 := ⟨Try.f61.name, by decide, Try.func61.trans (congrArg some (by kernel_rfl))⟩
 f15 := Try.func62.trans (congrArg some (by kernel_rfl))
 f20 := ⟨Try.f71.name, by decide, Try.func71.trans (congrArg some (by kernel_rfl))⟩
 f21 := ⟨Try.f72.name, by decide, Try.func72.trans (congrArg some (by kernel_rfl))⟩
 f22 := ⟨Try.f73.name, by decide, Try.func73.trans (congrArg some (by kernel_rfl))⟩
 f23 := ⟨Try.f74.name, by decide, Try.func74.trans (congrArg some (by kernel_rfl))⟩
 f24 := ⟨Try.f75.name, by decide, Try.func75.trans (congrArg some (by kernel_rfl))⟩
 f25 := ⟨Try.f76.name, by decide, Try.func76.trans (congrArg some (by kernel_rfl))⟩
 f26 := ⟨Try.f77.name, by decide, Try.func77.trans (congrArg some (by kernel_rfl))⟩
 f27 := ⟨Try.f78.name, by decide, Try.func78.trans (congrArg some (by kernel_rfl))⟩
 f28 := Try.func79.trans (congrArg some (by kernel_rfl))
 f29 := Try.func80.trans (congrArg some (by kernel_rfl))
 f46 := ⟨Try.f85.name, by decide, Try.func85.trans (congrArg some (by kernel_rfl))⟩
 f47 := Try.func86.trans (congrArg some (by kernel_rfl))
 f48 := Try.func87.trans (congrArg some (by kernel_rfl))
 f49 := ⟨Try.f88.name, by decide, Try.func88.trans (congrArg some (by kernel_rfl))⟩
 f50 := ⟨Try.f89.name, by decide, Try.func89.trans (congrArg some (by kernel_rfl))⟩
 f57 := ⟨Try.f91.name, by decide, Try.func91.trans (congrArg some (by kernel_rfl))⟩
 t0 := Try.underlying0
 a0 := Try.isAgg0
 z0 := Try.sizeOf0
 v0 := Try.zeroValue0
 t3 := Try.underlying3
 a3 := Try.isAgg3
 z3 := Try.sizeOf3
 v3 := Try.zeroValue3
 t4 := Try.underlying4
 a4 := Try.isAgg4
 z4 := Try.sizeOf4
 v4 := Try.zeroValue4
 t5 := Try.underlying5
 a5 := Try.isAgg5
 z5 := Try.sizeOf5
 v5 := Try.zeroValue5
 t9 := Try.underlying9
 a9 := Try.isAgg9
 z9 := Try.sizeOf9
 v9 := Try.zeroValue9
 t22 := Try.underlying27
 a22 := Try.isAgg27
 z22 := Try.sizeOf27
 v22 := Try.zeroValue27
 t25 := Try.underlying62
 a25 := Try.isAgg62
 z25 := Try.sizeOf62
 v25 := Try.zeroValue62
 t39 := Try.underlying70
 a39 := Try.isAgg70
 z39 := Try.sizeOf70
 v39 := Try.zeroValue70
 t45 := Try.underlying76
 a45 := Try.isAgg76
 z45 := Try.sizeOf76
 v45 := Try.zeroValue76
 t46 := Try.underlying77
 a46 := Try.isAgg77
 z46 := Try.sizeOf77
 v46 := Try.zeroValue77
 t50 := Try.underlying81
 a50 := Try.isAgg81
 z50 := Try.sizeOf81
 v50 := Try.zeroValue81
 t53 := Try.underlying84
 a53 := Try.isAgg84
 z53 := Try.sizeOf84
 v53 := Try.zeroValue84
 t55 := Try.underlying86
 a55 := Try.isAgg86
 z55 := Try.sizeOf86
 v55 := Try.zeroValue86
 t66 := Try.underlying90
 a66 := Try.isAgg90
 z66 := Try.sizeOf90
 v66 := Try.zeroValue90
 t70 := Try.underlying94
 a70 := Try.isAgg94
 z70 := Try.sizeOf94
 v70 := Try.zeroValue94
 t76 := Try.underlying96
 a76 := Try.isAgg96
 z76 := Try.sizeOf96
 v76 := Try.zeroValue96
 t77 := Try.underlying97
 a77 := Try.isAgg97
 z77 := Try.sizeOf97
 v77 := Try.zeroValue97 }
end Go.Proofs
namespace Go.Proofs.Ytoffnfooeojhnaa
open Go.RowKit Go.Sort Go.Shelf Go.Lib Spans
/-- Values that lie at a block's begin, and what lies behind them. -/
def Lies (w : World) (g : Nat) (es : List Val) (sp : List Value) : Prop := Blk w g 24 (es.flatMap cellsV ++ sp).toArray
theorem Lies.rd {w : World} {g : Nat} {es : List Val} {sp : List Value} (h : Lies w g es sp) : RdW w (some ⟨g, 0, none⟩) es :=
 rdk_of_flat (L := layV) h (by
  rw [show (es.flatMap cellsV ++ sp).toArray.toList = es.flatMap cellsV ++ sp from rfl]
  exact List.take_left' (flatL_length (L := layV) es))
theorem lies_of_own {w : World} {base : Nat} {v : Value} {es : List Val} (h : OwnW w base v es) : (v = .slice none 0 0 /\ es = []) ∨ ∃ g cap sp, v = .slice (some ⟨g, 0, none⟩) es.length cap /\ base <= g /\ es.length <= cap /\ cap <= maxLen /\ Lies w g es sp /\ es.length * 3 + sp.length = cap * 3 := by
 rcases h.2 with ⟨rfl, hn⟩ | ⟨g, cap, cur, rfl, hb, hg, hc, hm, hs, ht⟩
 ·exact .inl ⟨rfl, List.eq_nil_of_length_eq_zero hn⟩
 ·refine .inr ⟨g, cap, cur.toList.drop (es.length * 3), rfl, hb, hc, hm, ?_, ?_⟩
  ·unfold Lies Blk
   have e : es.flatMap cellsV = cur.toList.take (es.length * 3) := ht.symm
   rw [e, List.take_append_drop]
   exact hg
  ·have hs' : cur.size = cap * 3 := hs
   simp; omega
theorem own_of_lies {w : World} {base g cap : Nat} {es : List Val} {sp : List Value} (h : Lies w g es sp) (hb : base <= g) (hc : es.length <= cap) (hm : cap <= maxLen) (hs : es.length * 3 + sp.length = cap * 3) : OwnW w base (.slice (some ⟨g, 0, none⟩) es.length cap) es := by
 have hl : (es.flatMap cellsV).length = es.length * 3 := flatL_length (L := layV) es
 refine ⟨flatL_length es, .inr ⟨g, cap, _, rfl, hb, h, hc, hm, ?_, ?_⟩⟩
 ·show (es.flatMap cellsV ++ sp).toArray.size = cap * 3
  simp only [List.size_toArray, List.length_append, hl]; exact hs
 ·exact List.take_left' hl
def cfV (x y : Val) : Int := Vals.cmp x.k x.i x.t y.k y.i y.t
theorem ltOf_cfV (x y : Val) : ltOf cfV x y = true ↔ Vals.cmp x.k x.i x.t y.k y.i y.t < 0 := by
 unfold ltOf cfV; simp
theorem ltOf_cfV' (x y : Val) : ltOf cfV x y = false ↔ ¬ Vals.cmp x.k x.i x.t y.k y.i y.t < 0 := by
 rw [<- ltOf_cfV]; simp
theorem val_eq_iff (x y : Val) : Vals.cmp x.k x.i x.t y.k y.i y.t = 0 ↔ x = y := by
 rw [Vals.cmp_zero]
 exact ⟨fun ⟨a, b, c⟩ => Val.ext_ a b c, fun h => by subst h; exact ⟨rfl, rfl, rfl⟩⟩
theorem swo_cfV : SWO (ltOf cfV) where
 irrefl x := by rw [ltOf_cfV', (val_eq_iff x x).2 rfl]; omega
 trans x y z h1 h2 := by
  rw [ltOf_cfV] at *
  have h3 := Vals.cmp_trans _ _ _ _ _ _ _ _ _ (Int.le_of_lt h1) (Int.le_of_lt h2)
  have h4 : Vals.cmp x.k x.i x.t z.k z.i z.t ≠ 0 := fun h => by
   have e := (val_eq_iff x z).1 h
   subst e
   have := Vals.cmp_neg y.k y.i y.t x.k x.i x.t
   omega
  omega
 ntrans x y z h1 h2 := by
  rw [ltOf_cfV'] at *
  have a1 := Vals.cmp_neg x.k x.i x.t y.k y.i y.t
  have a2 := Vals.cmp_neg y.k y.i y.t z.k z.i z.t
  have a3 := Vals.cmp_neg x.k x.i x.t z.k z.i z.t
  have h3 := Vals.cmp_trans z.k z.i z.t y.k y.i y.t x.k x.i x.t (by omega) (by omega)
  omega
theorem cmpLaysV (blk off size : Nat) (w : World) : CmpLays Try.prog 49 #[] cellsV 3 cfV blk off size w :=
 fun _ _ _ _ x y => compare_gr x.k x.i x.t y.k y.i y.t _
theorem lies_holds {w : World} {g : Nat} {es : List Val} {sp : List Value} (hB : Lies w g es sp) : HoldsK cellsV 3 w g 0 es.toArray := by
 unfold HoldsK Holds
 have e := flatL_flatK (L := layV) es
 rw [show flatK cellsV 3 es.toArray = (es.flatMap cellsV).toArray from e]
 intro j hj
 rw [Nat.zero_add]
 refine ⟨?_, hB.frozen j⟩
 have hj' : j < (es.flatMap cellsV).length := by simpa using hj
 rw [hB.cell j, getElem!_pos _ j hj]
 simp [List.getElem?_append_left hj']
theorem touch_sortWorld (g n : Nat) (w : World) (d : Array Val) (os : Array Obj) : Touch g w (sortWorldK cellsV 3 w g 0 n d os) := by
 refine ⟨rfl, rfl, rfl, by simp [sortWorldK, putRowK, putRow, mapBlock], fun k hk hne => ?_⟩
 have hne' : g ≠ k := fun h => hne (by rw [h])
 show ((w.heap.modify g _) ++ os)[k]? = _
 rw [Array.getElem?_append_left (by simp; omega), Array.getElem?_modify, if_neg hne']
theorem lies_sortWorld {g n : Nat} {w : World} {es out : List Val} {sp : List Value} {os : Array Obj} (hB : Lies w g es sp) (hl : out.length = es.length) :
  Lies (sortWorldK cellsV 3 w g 0 n out.toArray os) g out sp := by
 unfold Lies Blk
 have e := flatL_flatK (L := layV) out
 show ((w.heap.modify g (onCells (putCells id 0 (flatK cellsV 3 out.toArray)))) ++ os)[g]? = _
 rw [Array.getElem?_append_left (by simp; exact hB.lt), Array.getElem?_modify, if_pos rfl, hB, show flatK cellsV 3 out.toArray = (out.flatMap cellsV).toArray from e]
 simp only [Option.map_some, onCells, Option.some.injEq, Obj.cells.injEq, and_true]
 have l1 : (out.flatMap cellsV).length = out.length * 3 := flatL_length (L := layV) out
 have l2 : (es.flatMap cellsV).length = es.length * 3 := flatL_length (L := layV) es
 refine Array.ext ?_ fun k h1 h2 => ?_
 ·rw [putCells, Array.size_mapIdx, List.size_toArray, List.size_toArray, List.length_append, List.length_append, l1, l2, hl]
 ·simp only [putCells, Array.getElem_mapIdx, Nat.zero_le, true_and, Nat.zero_add, Nat.sub_zero]
  by_cases hk : k < (out.flatMap cellsV).length
  ·have hk2 : k < (out.flatMap cellsV).toArray.size := by simpa using hk
   rw [if_pos hk2, getElem!_pos _ k hk2]
   simp [List.getElem_append_left hk]
  ·have hk2 : ¬ k < (out.flatMap cellsV).toArray.size := by simpa using hk
   rw [if_neg hk2]
   simp only [List.getElem_toArray]
   rw [List.getElem_append_right (by omega), List.getElem_append_right (by omega)]
   congr 1
   omega
/-- Values that stand in order, some of which may be the same. -/
def SortedV (l : List Val) : Prop := l.Pairwise fun a b => Vals.cmp a.k a.i a.t b.k b.i b.t <= 0
theorem sortV_at (g : Nat) (es : List Val) (n cap : Nat) (sp : List Value) (hn : es.length = n) (hm : n <= 100000) (w : World) (hB : Lies w g es sp) :
  Calls Try.prog 48 #[.slice (some ⟨g, 0, none⟩) n cap, .func (.func 49) #[] #[]] w fun e w' =>
   e = .returned (.tuple #[]) /\ ∃ out, out.Perm es /\ SortedV out /\ Lies w' g out sp /\ Touch g w w' := by
 have eg : ∀ args w, (callFunc 49 args).run Try.prog w = .ok (.enter 49 args) w := enters_of Try.func49 (by kernel_rfl) rfl
 have hcon := AnyQ.slices_SortFunc Try.sortV 3 Try.isAgg24 Try.sizeOf24 cellsV (fun _ => rfl) (fun x v hv => layV.one x v hv) cfV swo_cfV 49 #[] g 0 cap es.toArray w eg (cmpLaysV g 0 _ w) (lies_holds hB) hB.lt (by simp; omega)
 subst hn
 refine Calls.mono hcon ?_
 rintro e w' ⟨rfl, d', q, os, hp, hs, rfl⟩
 obtain ⟨hsz, _, hperm⟩ := hp
 have hsz' : d'.toList.length = es.length := by simpa using hsz
 have hperm' : d'.toList.Perm es := by
  have e1 : d'.extract 0 es.toArray.size = d' := by rw [<- hsz]; simp
  have e2 : es.toArray.extract 0 es.toArray.size = es.toArray := by simp
  rw [e1, e2] at hperm
  simpa using hperm
 refine ⟨rfl, d'.toList, hperm', ?_, ?_, touch_sortWorld _ _ _ _ _⟩
 ·unfold SortedV
  rw [List.pairwise_iff_getElem]
  intro i j hi hj hij
  have := hs i j (Nat.zero_le _) hij (by simpa [<- hsz'] using hj)
  have hi' : i < d'.size := by simpa using hi
  have hj' : j < d'.size := by simpa using hj
  rw [getElem!_pos d' j hj', getElem!_pos d' i hi', ltOf_cfV'] at this
  simp only [Array.getElem_toList]
  have a1 := Vals.cmp_neg d'[i].k d'[i].i d'[i].t d'[j].k d'[j].i d'[j].t
  omega
 ·have := lies_sortWorld (n := q) (os := os) hB hsz'
  simpa using this
theorem sortV_none (cap : Nat) (A : Option Addr) (w : World) : Calls Try.prog 48 #[.slice A 0 cap, .func (.func 49) #[] #[]] w fun e w' => e = .returned (.tuple #[]) /\ w' = w :=
 AnyF.slices_SortFunc_none { Try.sortV with } A cap _ w
end Go.Proofs.Ytoffnfooeojhnaa
namespace Go.Proofs.Ytoffnfooeojhnaa
open Go.RowKit Go.Sort Spans
theorem Lies.at3 {w : World} {g : Nat} {es : List Val} {sp : List Value} (h : Lies w g es sp) {k : Nat} (hk : k < es.length) :
  w.cell? ⟨g, k * 3, none⟩ = some (.int .i64 es[k].k) /\ w.cell? ⟨g, k * 3 + 1, none⟩ = some (.int .i64 es[k].i) /\ w.cell? ⟨g, k * 3 + 2, none⟩ = some (.string ⟨es[k].t.toArray⟩) := by
 obtain ⟨g', off, e, _, c0, c1, c2⟩ := RdW.at3 h.rd hk
 injection e with e
 injection e with e1 e2
 subst e1; subst e2
 rw [Nat.zero_add] at c0 c1 c2
 exact ⟨c0, c1, c2⟩
theorem flat_set (x : Val) (sp : List Value) : ∀ (cs : List Val) (i : Nat), i < cs.length ->
  (((cs.flatMap cellsV ++ sp).set (i * 3) (.int .i64 x.k)).set (i * 3 + 1) (.int .i64 x.i)).set (i * 3 + 2) (.string ⟨x.t.toArray⟩) = (cs.set i x).flatMap cellsV ++ sp
 | [], _, h => by simp at h
 | y :: r, 0, _ => by simp [cellsV]
 | y :: r, i + 1, h => by
  have ih := flat_set x sp r i (by simpa using h)
  rw [show (i + 1) * 3 = i * 3 + 1 + 1 + 1 by omega]
  simp only [List.flatMap_cons, cellsV, List.cons_append, List.nil_append, List.set_cons_succ]
  rw [ih]
theorem Lies.set {w : World} {g : Nat} {cs : List Val} {sp : List Value} (h : Lies w g cs sp) (i : Nat) (hi : i < cs.length) (x : Val) :
  Lies (((w.setCell ⟨g, i * 3, none⟩ (.int .i64 x.k)).setCell ⟨g, i * 3 + 1, none⟩ (.int .i64 x.i)).setCell ⟨g, i * 3 + 2, none⟩ (.string ⟨x.t.toArray⟩)) g (cs.set i x) sp := by
 have h3 := ((Blk.put h (i * 3) (.int .i64 x.k)).put (i * 3 + 1) (.int .i64 x.i)).put (i * 3 + 2) (.string ⟨x.t.toArray⟩)
 unfold Lies
 rw [<- flat_set x sp cs i hi]
 simpa using h3
theorem touch_set3 (w : World) (g i j k : Nat) (a b c : Value) : Touch g w (((w.setCell ⟨g, i, none⟩ a).setCell ⟨g, j, none⟩ b).setCell ⟨g, k, none⟩ c) := (((Touch.refl g w).set_ i a).set_ j b).set_ k c
theorem touch_setRow (w : World) (g : Nat) (cs : Array Value) : Touch g w (w.setRow g cs) :=
 ⟨rfl, rfl, rfl, by simp [World.setRow], fun k _ hne => setRow_other w g k cs (fun h => hne (by rw [h]))⟩
theorem Touch.drewN {g : Nat} {a w : World} (h : Touch g a w) (n : Nat) : Touch g a (w.drewN n) := ⟨h.os, h.tape, h.output, h.size, h.block⟩
theorem Touch.drew {g : Nat} {a w : World} (h : Touch g a w) : Touch g a w.drew := ⟨h.os, h.tape, h.output, h.size, h.block⟩
theorem Lies.drew {w : World} {g : Nat} {cs : List Val} {sp : List Value} (h : Lies w g cs sp) : Lies w.drew g cs sp := h
theorem Lies.clear {w : World} {g : Nat} {cs : List Val} {sp : List Value} (h : Lies w g cs sp) (i n : Nat) (hn : cs.length = n) (hi : i < n) (c : Nat) :
  ∃ w' sp', (∀ ty, (Builtin.clear_ #[27] ty #[.slice (some ⟨g, i * 3, none⟩) (n - i) c]).run Try.prog w = .ok (.tuple #[]) w') /\ Lies w' g (cs.take i) sp' /\ Touch g w w' /\ i * 3 + sp'.length = n * 3 + sp.length := by
 subst hn
 have hl : (cs.flatMap cellsV).length = cs.length * 3 := flatL_length (L := layV) cs
 obtain ⟨Z, hZ⟩ : ∃ Z, (Builtin.zeroCells (Value.agg #[.int .i64 0, .int .i64 0, .string ⟨#[]⟩]).cells (cs.length - i)).toList = Z := ⟨_, rfl⟩
 have hZl : Z.length = (cs.length - i) * 3 := by rw [<- hZ]; simp [size_zeroCells, Value.cells]
 have hZ1 : ∀ v ∈ Z, v.oneCell' = true := by
  intro v hv
  rw [<- hZ] at hv
  simp only [Builtin.zeroCells, Value.cells, Array.toList_map, List.mem_map] at hv
  obtain ⟨j, _, rfl⟩ := hv
  have : j % 3 = 0 ∨ j % 3 = 1 ∨ j % 3 = 2 := by omega
  rcases this with e | e | e
  ·show (#[Value.int .i64 0, .int .i64 0, .string ⟨#[]⟩][j % 3]!).oneCell' = true; rw [e]; rfl
  ·show (#[Value.int .i64 0, .int .i64 0, .string ⟨#[]⟩][j % 3]!).oneCell' = true; rw [e]; rfl
  ·show (#[Value.int .i64 0, .int .i64 0, .string ⟨#[]⟩][j % 3]!).oneCell' = true; rw [e]; rfl
 have hst := run_storeCells_at Try.prog g (i * 3) 24 Z 0 _ w h (by simp only [List.size_toArray, List.length_append, hl, hZl]; omega) hZ1
 have e1 : (cs.flatMap cellsV ++ sp).take (i * 3) = (cs.take i).flatMap cellsV := by
  have : (cs.take i).flatMap cellsV ++ (cs.drop i).flatMap cellsV = cs.flatMap cellsV := by rw [<- List.flatMap_append, List.take_append_drop]
  rw [<- this, List.append_assoc]
  exact List.take_left' (by rw [show ((cs.take i).flatMap cellsV).length = (cs.take i).length * 3 from flatL_length (L := layV) _]; simp; omega)
 have e2 : i * 3 + Z.length = cs.length * 3 := by omega
 obtain ⟨sp', hsp⟩ : ∃ sp', Z ++ (cs.flatMap cellsV ++ sp).drop (cs.length * 3) = sp' := ⟨_, rfl⟩
 have hst' : (storeCells ⟨g, i * 3, none⟩ Z).run Try.prog w = .ok () (w.setRow g ((cs.take i).flatMap cellsV ++ sp').toArray) := by
  rw [hst, Nat.add_zero, show ((cs.flatMap cellsV ++ sp).toArray.toList) = cs.flatMap cellsV ++ sp from rfl, e1, e2, List.append_assoc, hsp]
 have hlen : i * 3 + sp'.length = cs.length * 3 + sp.length := by
  rw [<- hsp]
  simp only [List.length_append, List.length_drop, hZl, hl]; omega
 refine ⟨w.setRow g ((cs.take i).flatMap cellsV ++ sp').toArray, sp', fun ty => ?_, setRow_heap w g _ _ _ _ h, touch_setRow w g _, hlen⟩
 obtain ⟨m, hm⟩ : ∃ m, cs.length - i = m + 1 := ⟨cs.length - i - 1, by omega⟩
 rw [hm] at hZ ⊢
 simp [Builtin.clear_, run_underlying Try.underlying27, hZ, hst']
end Go.Proofs.Ytoffnfooeojhnaa
namespace Go.Proofs.Ytoffnfooeojhnaa
open Go.RowKit Go.Sort Spans
/-- Values that rise. -/
def StrictV (l : List Val) : Prop := l.Pairwise fun a b => Vals.cmp a.k a.i a.t b.k b.i b.t < 0
theorem lt_new {es : List Val} (hS : SortedV es) {p : Nat} (hlt : p < es.length) (hne : es[p] ≠ es[p - 1]) : ∀ v ∈ es.take p, Vals.cmp v.k v.i v.t es[p].k es[p].i es[p].t < 0 := by
 intro v hv
 obtain ⟨j, hj, rfl⟩ := List.mem_iff_getElem.1 hv
 have hj' : j < p := by simp at hj; omega
 rw [List.getElem_take]
 have hP := List.pairwise_iff_getElem.1 hS
 have h1 := hP (p - 1) p (by omega) hlt (by omega)
 have h2 : Vals.cmp es[p - 1].k es[p - 1].i es[p - 1].t es[p].k es[p].i es[p].t ≠ 0 := fun h => hne ((val_eq_iff _ _).1 h).symm
 have h3 := hP j p (by omega) hlt hj'
 have h4 : Vals.cmp es[j].k es[j].i es[j].t es[p].k es[p].i es[p].t ≠ 0 := fun h => by
  have e := (val_eq_iff _ _).1 h
  by_cases hjp : j = p - 1
  ·exact hne (by rw [<- e]; congr 1)
  ·have h5 := hP j (p - 1) (by omega) (by omega) (by omega)
   rw [e] at h5
   have := Vals.cmp_neg es[p - 1].k es[p - 1].i es[p - 1].t es[p].k es[p].i es[p].t
   omega
 omega
theorem strict_snoc {l : List Val} {x : Val} (h : StrictV l) (hx : ∀ v ∈ l, Vals.cmp v.k v.i v.t x.k x.i x.t < 0) : StrictV (l ++ [x]) := by
 unfold StrictV
 rw [List.pairwise_append]
 exact ⟨h, by simp, fun a ha b hb => by simp at hb; subst hb; exact hx a ha⟩
theorem take_snoc {es : List Val} {p : Nat} (h : p < es.length) : es.take (p + 1) = es.take p ++ [es[p]] := List.take_succ_eq_append_getElem h
theorem mem_prev {es : List Val} {p : Nat} (h1 : 1 <= p) (h : p < es.length) : es[p - 1] ∈ es.take p := by
 rw [List.mem_iff_getElem]
 exact ⟨p - 1, by simp; omega, by rw [List.getElem_take]⟩
/-- What has been done when the values ahead of p have been gone over. -/
structure CompInv (es : List Val) (p i : Nat) (cs : List Val) : Prop where
 len : cs.length = es.length
 pos : 1 <= i
 lt : i < p
 le : p <= es.length
 high : ∀ j, p - 1 <= j -> cs[j]? = es[j]?
 strict : StrictV (cs.take i)
 mem : ∀ v, v ∈ cs.take i ↔ v ∈ es.take p
theorem CompInv.start {es : List Val} {k : Nat} (h1 : 1 <= k) (hlt : k < es.length) (hs : StrictV (es.take k)) (e : es[k] = es[k - 1]) : CompInv es (k + 1) k es :=
 ⟨rfl, h1, by omega, by omega, fun _ _ => rfl, hs, fun v => by
  rw [take_snoc hlt, e]
  have := mem_prev h1 hlt
  simp only [List.mem_append, List.mem_singleton]
  exact ⟨.inl, fun h => h.elim id (fun h => h ▸ this)⟩⟩
theorem CompInv.skip {es cs : List Val} {p i : Nat} (h : CompInv es p i cs) (hlt : p < es.length) (e : es[p] = es[p - 1]) : CompInv es (p + 1) i cs :=
 ⟨h.len, h.pos, by have := h.lt; omega, by omega, fun j hj => h.high j (by omega), h.strict, fun v => by
  rw [h.mem, take_snoc hlt, e]
  have := mem_prev (by have := h.lt; omega) hlt
  simp only [List.mem_append, List.mem_singleton]
  exact ⟨.inl, fun h => h.elim id (fun h => h ▸ this)⟩⟩
theorem CompInv.keep {es cs : List Val} {p i : Nat} (hS : SortedV es) (h : CompInv es p i cs) (hlt : p < es.length) (e : es[p] ≠ es[p - 1]) : CompInv es (p + 1) (i + 1) (cs.set i es[p]) := by
 have hi : i < cs.length := by have := h.lt; have := h.len; omega
 have ht : (cs.set i es[p]).take (i + 1) = cs.take i ++ [es[p]] := by
  rw [List.take_succ_eq_append_getElem (by simpa using hi), List.take_set, List.set_eq_of_length_le (by simp; omega)]
  simp
 refine ⟨by simp [h.len], by omega, by have := h.lt; omega, by omega, fun j hj => ?_, ?_, fun v => ?_⟩
 ·rw [List.getElem?_set_ne (by have := h.lt; omega)]
  exact h.high j (by omega)
 ·rw [ht]
  exact strict_snoc h.strict fun v hv => lt_new hS hlt e v ((h.mem v).1 hv)
 ·rw [ht, take_snoc hlt]
  simp only [List.mem_append, List.mem_singleton, h.mem]
/-- What Compact tells. -/
def Compacts (w : World) (g : Nat) (es : List Val) (n cap : Nat) (sp : List Value) (e : Ending) (w' : World) : Prop :=
 ∃ out m sp', e = .returned (.slice (some ⟨g, 0, none⟩) m cap) /\ out.length = m /\ m <= n /\ StrictV out /\ (∀ v, v ∈ out ↔ v ∈ es) /\ Lies w' g out sp' /\ m * 3 + sp'.length = n * 3 + sp.length /\ Touch g w w'
set_option maxRecDepth 100000 in
set_option maxHeartbeats 2000000 in
theorem compactV_at (g : Nat) (es : List Val) (n cap : Nat) (sp : List Value) (hn : es.length = n) (hm : n <= 100000) (hc : n <= cap) (hcm : cap <= maxLen) (hS : SortedV es) (w : World) (hB : Lies w g es sp) :
  Calls Try.prog 50 #[.slice (some ⟨g, 0, none⟩) n cap] w (Compacts w g es n cap sp) := by
 have HN := Lib.hid hn
 have HS := Lib.hid hS
 have HB0 := Lib.hid hB
 rw [maxLen_num] at hcm
 clear hn hS
 have hG := eqGuardV
 by_cases h2 : n < 2
 ·have hst : Hid (StrictV es) := by
   show StrictV es
   have := HN.out
   match es, this with
   | [], _ => exact List.Pairwise.nil
   | [x], _ => exact List.pairwise_singleton _ _
   | _ :: _ :: _, h => simp at h; omega
  go_enter Try.func50, Try.ntmps50
  go_wp2_with fail
  go_ret
  exact ⟨es, n, sp, rfl, HN.out, Nat.le_refl _, hst.out, fun _ => Iff.rfl, HB0.out, rfl, Touch.refl _ _⟩
 ·clear hB
  go_enter Try.func50, Try.ntmps50
  go_wp2_with fail
  go_loopg [3] n (fun gg s3 wr => ∃ k : Nat, 1 <= k /\ k <= n /\ n - k <= gg /\ s3 = .int .i64 (k : Int) /\ Hid (Lies wr g es sp) /\ Hid (Touch g w wr) /\ Hid (StrictV (es.take k)))
  case atStart =>
   refine ⟨1, Nat.le_refl _, by omega, by omega, rfl, HB0, Touch.refl _ _, ?_⟩
   show StrictV _
   match es with
   | [] => exact List.Pairwise.nil
   | x :: r => exact List.pairwise_singleton _ _
  case round =>
   obtain ⟨k, hk1, hk, hgg, rfl, HL, HT, HP⟩ := hrel
   clear HB0
   by_cases hlt : k < n
   ·have hk' : k < es.length := by rw [HN.out]; exact hlt
    obtain ⟨c0, c1, c2⟩ := HL.out.at3 hk'
    obtain ⟨d0, d1, d2⟩ := HL.out.at3 (k := k - 1) (by omega)
    obtain ⟨x, hx⟩ : ∃ x, es[k] = x := ⟨_, rfl⟩
    obtain ⟨y, hy⟩ : ∃ y, es[k - 1] = y := ⟨_, rfl⟩
    have HX := Lib.hid hx
    have HY := Lib.hid hy
    rw [hx] at c0 c1 c2
    rw [hy] at d0 d1 d2
    clear hx hy
    obtain ⟨xk, xi, xt⟩ := x
    obtain ⟨yk, yi, yt⟩ := y
    have w1 : IntKind.i64.wrap ((k : Int) - 1) = (k : Int) - 1 := by rw [IntKind.wrap_i64]; omega
    have w2 : (0 : Int) <= (k : Int) - 1 := by omega
    have w3 : (k : Int) - 1 < (n : Int) := by omega
    have w4 : ((k : Int) - 1).toNat = k - 1 := by omega
    have w5 : (k : Int) < (n : Int) := by omega
    have w6 : (1 : Int) <= (k : Int) := by omega
    go_wp2_with fail
    refine wp_region_held_drew (S := fun w' => w' = wr.drew) (by kernel_rfl) rfl (fun _ => ?_)
    refine wpAnyH_yes (i := 0) (d := 16) (v := ?_) rfl rfl (by kernel_rfl) (by kernel_rfl) (by kernel_rfl) (fun _ _ _ h => h) (by rfl) ?_ rfl ?_
    rotate_left
    ·intro w' hSw; subst hSw; go_simp <;> with_reducible rfl
    simp only [Act.put, List.setIfInBounds_toArray, List.set_cons_zero, List.set_cons_succ]
    refine wpAnyH_yes (i := 1) (d := 17) (v := ?_) rfl rfl (by kernel_rfl) (by kernel_rfl) (by kernel_rfl) (fun _ _ _ h => h) (by rfl) ?_ rfl ?_
    rotate_left
    ·intro w' hSw; subst hSw; go_simp <;> with_reducible rfl
    simp only [Act.put, List.setIfInBounds_toArray, List.set_cons_zero, List.set_cons_succ]
    refine wpAnyH_yes (i := 2) (d := 18) (v := ?_) rfl rfl (by kernel_rfl) (by kernel_rfl) (by kernel_rfl) (fun _ _ _ h => h) (by rfl) ?_ rfl ?_
    rotate_left
    ·intro w' hSw; subst hSw; go_simp <;> with_reducible rfl
    simp only [Act.put, List.setIfInBounds_toArray, List.set_cons_zero, List.set_cons_succ]
    refine wpAnyH_yes (i := 3) (d := 19) (v := ?_) rfl rfl (by kernel_rfl) (by kernel_rfl) (by kernel_rfl) (fun _ _ _ h => h) (by rfl) ?_ rfl ?_
    rotate_left
    ·intro w' hSw; subst hSw; go_simp <;> with_reducible rfl
    simp only [Act.put, List.setIfInBounds_toArray, List.set_cons_zero, List.set_cons_succ]
    refine wpAnyH_yes (i := 4) (d := 20) (v := ?_) rfl rfl (by kernel_rfl) (by kernel_rfl) (by kernel_rfl) (fun _ _ _ h => h) (by rfl) ?_ rfl ?_
    rotate_left
    ·intro w' hSw; subst hSw; go_simp <;> with_reducible rfl
    simp only [Act.put, List.setIfInBounds_toArray, List.set_cons_zero, List.set_cons_succ]
    refine wpAnyH_yes (i := 5) (d := 21) (v := ?_) rfl rfl (by kernel_rfl) (by kernel_rfl) (by kernel_rfl) (fun _ _ _ h => h) (by rfl) ?_ rfl ?_
    rotate_left
    ·intro w' hSw; subst hSw; go_simp <;> with_reducible rfl
    simp only [Act.put, List.setIfInBounds_toArray, List.set_cons_zero, List.set_cons_succ]
    refine wpAnyH_yes (i := 6) (d := 22) (v := ?_) rfl rfl (by kernel_rfl) (by kernel_rfl) (by kernel_rfl) (fun _ _ _ h => h) (by rfl) ?_ rfl ?_
    rotate_left
    ·intro w' hSw; subst hSw; go_simp <;> with_reducible rfl
    simp only [Act.put, List.setIfInBounds_toArray, List.set_cons_zero, List.set_cons_succ]
    refine wpAnyH_yes (i := 7) (d := 23) (v := ?_) rfl rfl (by kernel_rfl) (by kernel_rfl) (by kernel_rfl) (fun _ _ _ h => h) (by rfl) ?_ rfl ?_
    rotate_left
    ·intro w' hSw; subst hSw; go_simp <;> with_reducible rfl
    simp only [Act.put, List.setIfInBounds_toArray, List.set_cons_zero, List.set_cons_succ]
    refine wpAnyH_yes (i := 8) (d := 24) (v := ?_) rfl rfl (by kernel_rfl) (by kernel_rfl) (by kernel_rfl) (fun _ _ _ h => h) (by rfl) ?_ rfl ?_
    rotate_left
    ·intro w' hSw; subst hSw; go_simp <;> with_reducible rfl
    simp only [Act.put, List.setIfInBounds_toArray, List.set_cons_zero, List.set_cons_succ]
    refine wpAnyH_yes (i := 9) (d := 25) (v := .bool (decide ((⟨xk, xi, xt⟩ : Val) = ⟨yk, yi, yt⟩))) rfl rfl (by kernel_rfl) (by kernel_rfl) (by kernel_rfl) (fun _ _ _ h => h) (by rfl) ?_ rfl ?_
    ·intro w' hSw; subst hSw; go_simp
     by_cases a1 : xk = yk <;> by_cases a2 : xi = yi <;> by_cases a3 : xt = yt <;> simp [a1, a2, a3]
    simp only [Act.put, List.setIfInBounds_toArray, List.set_cons_zero, List.set_cons_succ]
    refine wpAnyH_done (by kernel_rfl) ?_ _
    clear w1 w2 w3 w4 w5 w6 c0 c1 c2 d0 d1 d2
    by_cases hxy : (⟨xk, xi, xt⟩ : Val) = ⟨yk, yi, yt⟩
    ·have HI : Hid (CompInv es (k + 1) k es) := CompInv.start hk1 hk' HP.out (by rw [HX.out, HY.out]; exact hxy)
     have hd : decide ((⟨xk, xi, xt⟩ : Val) = ⟨yk, yi, yt⟩) = true := decide_eq_true hxy
     rw [hd]
     clear hd hxy HX HY HP
     have hcut : ∀ W, (Instr.slice 27 (.slice (some ⟨g, 0, none⟩) n cap) (some (.int .i64 (k : Int))) none none).run Try.prog W = .ok (.slice (some ⟨g, k * 3, none⟩) (n - k) (cap - k)) W := fun W => by
      have h1 : (0 : Int) <= (k : Int) := by omega
      have h2 : (k : Int) <= (n : Int) := by omega
      have h3 : ¬ cap = k := by omega
      go_simp
     go_wp2_with fail
     clear hcut
     have HL1 : Hid (Lies wr.drew g es sp) := HL.out.drew
     have HT1 : Hid (Touch g w wr.drew) := HT.out.drew
     clear HL HT
     go_loopg [3, 5] n (fun gg s3 s5 wr => ∃ (i m : Nat) (cs : List Val), s3 = .int .i64 (i : Int) /\ s5 = .int .i64 (m : Int) /\ 1 <= m /\ k + m <= n /\ n - (k + m) <= gg /\ i < k + m /\ Hid (CompInv es (k + m) i cs) /\ Hid (Lies wr g cs sp) /\ Hid (Touch g w wr))
     case atStart => exact ⟨k, 1, es, rfl, rfl, Nat.le_refl _, by omega, by omega, by omega, HI, HL1, HT1⟩
     case round =>
      obtain ⟨i, m, cs, rfl, rfl, hm1, hkm, hg2, hik, HI2, HL, HT⟩ := hrel
      clear HI HL1 HT1
      have hcl : Hid (cs.length = n) := HI2.out.len.trans HN.out
      by_cases hlt2 : k + m < n
      ·have hkm' : k + m < cs.length := by rw [hcl.out]; exact hlt2
       have hkm2 : k + m < es.length := by rw [HN.out]; exact hlt2
       obtain ⟨c0, c1, c2⟩ := HL.out.at3 hkm'
       obtain ⟨d0, d1, d2⟩ := HL.out.at3 (k := k + m - 1) (by omega)
       obtain ⟨x, hx⟩ : ∃ x, es[k + m] = x := ⟨_, rfl⟩
       obtain ⟨y, hy⟩ : ∃ y, es[k + m - 1] = y := ⟨_, rfl⟩
       have HX := Lib.hid hx
       have HY := Lib.hid hy
       have gx : cs[k + m] = x := by
        have := HI2.out.high (k + m) (by omega)
        rw [List.getElem?_eq_getElem hkm', List.getElem?_eq_getElem hkm2, hx] at this
        exact Option.some.inj this
       have gy : cs[k + m - 1] = y := by
        have := HI2.out.high (k + m - 1) (by omega)
        rw [List.getElem?_eq_getElem (by omega), List.getElem?_eq_getElem (by omega), hy] at this
        exact Option.some.inj this
       rw [gx, show (k + m) * 3 = k * 3 + m * 3 by omega] at c0 c1 c2
       rw [gy, show (k + m - 1) * 3 = k * 3 + (m - 1) * 3 by omega] at d0 d1 d2
       clear hx hy gx gy
       obtain ⟨xk, xi, xt⟩ := x
       obtain ⟨yk, yi, yt⟩ := y
       have w1 : IntKind.i64.wrap ((m : Int) - 1) = (m : Int) - 1 := by rw [IntKind.wrap_i64]; omega
       have w2 : (0 : Int) <= (m : Int) - 1 := by omega
       have w3 : (m : Int) - 1 < ((n - k : Nat) : Int) := by omega
       have w4 : ((m : Int) - 1).toNat = m - 1 := by omega
       have w5 : (m : Int) < ((n - k : Nat) : Int) := by omega
       have w6 : (1 : Int) <= (m : Int) := by omega
       go_wp2_with fail
       refine wp_region_held_drew (S := fun w' => w' = wr.drew) (by kernel_rfl) rfl (fun _ => ?_)
       refine wpAnyH_yes (i := 0) (d := 35) (v := ?_) rfl rfl (by kernel_rfl) (by kernel_rfl) (by kernel_rfl) (fun _ _ _ h => h) (by rfl) ?_ rfl ?_
       rotate_left
       ·intro w' hSw; subst hSw; go_simp <;> with_reducible rfl
       simp only [Act.put, List.setIfInBounds_toArray, List.set_cons_zero, List.set_cons_succ]
       refine wpAnyH_yes (i := 1) (d := 36) (v := ?_) rfl rfl (by kernel_rfl) (by kernel_rfl) (by kernel_rfl) (fun _ _ _ h => h) (by rfl) ?_ rfl ?_
       rotate_left
       ·intro w' hSw; subst hSw; go_simp <;> with_reducible rfl
       simp only [Act.put, List.setIfInBounds_toArray, List.set_cons_zero, List.set_cons_succ]
       refine wpAnyH_yes (i := 2) (d := 37) (v := ?_) rfl rfl (by kernel_rfl) (by kernel_rfl) (by kernel_rfl) (fun _ _ _ h => h) (by rfl) ?_ rfl ?_
       rotate_left
       ·intro w' hSw; subst hSw; go_simp <;> with_reducible rfl
       simp only [Act.put, List.setIfInBounds_toArray, List.set_cons_zero, List.set_cons_succ]
       refine wpAnyH_yes (i := 3) (d := 38) (v := ?_) rfl rfl (by kernel_rfl) (by kernel_rfl) (by kernel_rfl) (fun _ _ _ h => h) (by rfl) ?_ rfl ?_
       rotate_left
       ·intro w' hSw; subst hSw; go_simp <;> with_reducible rfl
       simp only [Act.put, List.setIfInBounds_toArray, List.set_cons_zero, List.set_cons_succ]
       refine wpAnyH_yes (i := 4) (d := 39) (v := ?_) rfl rfl (by kernel_rfl) (by kernel_rfl) (by kernel_rfl) (fun _ _ _ h => h) (by rfl) ?_ rfl ?_
       rotate_left
       ·intro w' hSw; subst hSw; go_simp <;> with_reducible rfl
       simp only [Act.put, List.setIfInBounds_toArray, List.set_cons_zero, List.set_cons_succ]
       refine wpAnyH_yes (i := 5) (d := 40) (v := ?_) rfl rfl (by kernel_rfl) (by kernel_rfl) (by kernel_rfl) (fun _ _ _ h => h) (by rfl) ?_ rfl ?_
       rotate_left
       ·intro w' hSw; subst hSw; go_simp <;> with_reducible rfl
       simp only [Act.put, List.setIfInBounds_toArray, List.set_cons_zero, List.set_cons_succ]
       refine wpAnyH_yes (i := 6) (d := 41) (v := ?_) rfl rfl (by kernel_rfl) (by kernel_rfl) (by kernel_rfl) (fun _ _ _ h => h) (by rfl) ?_ rfl ?_
       rotate_left
       ·intro w' hSw; subst hSw; go_simp <;> with_reducible rfl
       simp only [Act.put, List.setIfInBounds_toArray, List.set_cons_zero, List.set_cons_succ]
       refine wpAnyH_yes (i := 7) (d := 42) (v := ?_) rfl rfl (by kernel_rfl) (by kernel_rfl) (by kernel_rfl) (fun _ _ _ h => h) (by rfl) ?_ rfl ?_
       rotate_left
       ·intro w' hSw; subst hSw; go_simp <;> with_reducible rfl
       simp only [Act.put, List.setIfInBounds_toArray, List.set_cons_zero, List.set_cons_succ]
       refine wpAnyH_yes (i := 8) (d := 43) (v := ?_) rfl rfl (by kernel_rfl) (by kernel_rfl) (by kernel_rfl) (fun _ _ _ h => h) (by rfl) ?_ rfl ?_
       rotate_left
       ·intro w' hSw; subst hSw; go_simp <;> with_reducible rfl
       simp only [Act.put, List.setIfInBounds_toArray, List.set_cons_zero, List.set_cons_succ]
       refine wpAnyH_yes (i := 9) (d := 44) (v := .bool (!decide ((⟨xk, xi, xt⟩ : Val) = ⟨yk, yi, yt⟩))) rfl rfl (by kernel_rfl) (by kernel_rfl) (by kernel_rfl) (fun _ _ _ h => h) (by rfl) ?_ rfl ?_
       ·intro w' hSw; subst hSw; go_simp
        by_cases a1 : xk = yk <;> by_cases a2 : xi = yi <;> by_cases a3 : xt = yt <;> simp [a1, a2, a3]
       simp only [Act.put, List.setIfInBounds_toArray, List.set_cons_zero, List.set_cons_succ]
       refine wpAnyH_done (by kernel_rfl) ?_ _
       clear w1 w2 w3 w4 w5 w6
       by_cases hxy : (⟨xk, xi, xt⟩ : Val) = ⟨yk, yi, yt⟩
       ·have HI3 : Hid (CompInv es (k + m + 1) i cs) := HI2.out.skip hkm2 (by rw [HX.out, HY.out]; exact hxy)
        have hd : (!decide ((⟨xk, xi, xt⟩ : Val) = ⟨yk, yi, yt⟩)) = false := by rw [decide_eq_true hxy]; rfl
        rw [hd]
        clear hd hxy HX HY c0 c1 c2 d0 d1 d2
        go_wp2_with fail
        go_roundg (n - (k + (m + 1)))
        case measure => omega
        case rel => exact ⟨i, m + 1, cs, rfl, by go_num, by omega, by omega, Nat.le_refl _, by omega, HI3, HL.out.drew, HT.out.drew⟩
       ·have HI3 : Hid (CompInv es (k + m + 1) (i + 1) (cs.set i ⟨xk, xi, xt⟩)) := by
         have := HI2.out.keep HS.out hkm2 (by rw [HX.out, HY.out]; exact hxy)
         rw [HX.out] at this
         exact this
        have hd : (!decide ((⟨xk, xi, xt⟩ : Val) = ⟨yk, yi, yt⟩)) = true := by rw [decide_eq_false hxy]; rfl
        rw [hd]
        obtain ⟨e0, e1, e2⟩ := HL.out.at3 (k := i) (by omega)
        have f0 := Blk.frozen HL.out (i * 3)
        have f1 := Blk.frozen HL.out (i * 3 + 1)
        have f2 := Blk.frozen HL.out (i * 3 + 2)
        have HL2 : Hid _ := HL.out.drew.set i (by rw [hcl.out]; omega) ⟨xk, xi, xt⟩
        have HT2 : Hid _ := HT.out.drew.trans (touch_set3 wr.drew g (i * 3) (i * 3 + 1) (i * 3 + 2) (.int .i64 xk) (.int .i64 xi) (.string ⟨xt.toArray⟩))
        have v1 : (i : Int) < (n : Int) := by omega
        clear hd hxy HX HY d0 d1 d2 HL HT HI2
        go_wp2_with fail
        go_roundg (n - (k + (m + 1)))
        case measure => omega
        case rel => exact ⟨i + 1, m + 1, _, by go_num, by go_num, by omega, by omega, Nat.le_refl _, by omega, HI3, HL2, HT2⟩
      ·have hend : Hid (k + m = n) := by show _ = _; omega
       have v5 : ¬ (m : Int) < ((n - k : Nat) : Int) := by omega
       have hin : i < n := by omega
       obtain ⟨w3, sp', hcr, hl3, ht3, hs3⟩ := HL.out.clear i n hcl.out hin (cap - i)
       have HL3 := Lib.hid hl3
       have HT3 := Lib.hid (HT.out.trans ht3)
       have HS3 := Lib.hid hs3
       have hcut : ∀ W, (Instr.slice 27 (.slice (some ⟨g, 0, none⟩) n cap) (some (.int .i64 (i : Int))) none none).run Try.prog W = .ok (.slice (some ⟨g, i * 3, none⟩) (n - i) (cap - i)) W := fun W => by
        have h1 : (0 : Int) <= (i : Int) := by omega
        have h2 : (i : Int) <= (n : Int) := by omega
        have h3 : ¬ cap = i := by omega
        go_simp
       have hhd := run_headW (some ⟨g, 0, none⟩) n cap i (by omega) hc
       clear hl3 ht3 hs3 HL HT
       go_wp2_with fail
       go_ret
       refine ⟨cs.take i, i, sp', rfl, by simp [hcl.out]; omega, by omega, HI2.out.strict, fun v => ?_, HL3.out, HS3.out, HT3.out⟩
       rw [HI2.out.mem, hend.out, List.take_of_length_le (by rw [HN.out]; exact Nat.le_refl _)]
    ·have HP2 : Hid (StrictV (es.take (k + 1))) := by
      show StrictV _
      rw [take_snoc hk']
      exact strict_snoc HP.out fun v hv => lt_new HS.out hk' (by rw [HX.out, HY.out]; exact hxy) v hv
     have hd : decide ((⟨xk, xi, xt⟩ : Val) = ⟨yk, yi, yt⟩) = false := decide_eq_false hxy
     rw [hd]
     clear hd hxy HX HY HP
     go_wp2_with fail
     go_roundg (n - (k + 1))
     case measure => omega
     case rel => exact ⟨k + 1, by omega, by omega, Nat.le_refl _, by go_num, HL.out.drew, HT.out.drew, HP2⟩
   ·have hkn : Hid (k = n) := by show k = n; omega
    go_wp2_with fail
    go_ret
    exact ⟨es, n, sp, rfl, HN.out, Nat.le_refl _, (by have := HP.out; rwa [hkn.out, List.take_of_length_le (by rw [HN.out]; exact Nat.le_refl _)] at this), fun _ => Iff.rfl, HL.out, rfl, HT.out⟩
end Go.Proofs.Ytoffnfooeojhnaa
namespace Go.Proofs.Ytoffnfooeojhnaa
open Go.RowKit Go.Sort Spans
/-- What is asked of a function that tells of a value if it is to go: in whatever world K holds of. -/
def PredK (K : World -> Prop) (gf : Nat) (lb : Array Value) (p : Val -> Bool) : Prop :=
 ∀ (W : World) (x : Val), K W -> Calls Try.prog gf (#[.agg #[.int .i64 x.k, .int .i64 x.i, .string ⟨x.t.toArray⟩]] ++ lb) W fun e w' => e = .returned (.bool (p x)) /\ Grown W w'
/-- The first of some values of which p holds. -/
def First (p : Val -> Bool) (es : List Val) (r : Int) : Prop := (r = -1 /\ ∀ v ∈ es, p v = false) ∨ ∃ k : Nat, ∃ h : k < es.length, r = (k : Int) /\ p es[k] = true /\ ∀ v ∈ es.take k, p v = false
set_option maxRecDepth 100000 in
set_option maxHeartbeats 1000000 in
theorem indexFuncV_at (K : World -> Prop) (gf : Nat) (lb : Array Value) (p : Val -> Bool) (hp : PredK K gf lb p) (hK : ∀ W W', K W -> Grown W W' -> K W') (eg : ∀ args w, (callFunc gf args).run Try.prog w = .ok (.enter gf args) w)
  (A : Option Addr) (es : List Val) (n cap : Nat) (hn : es.length = n) (hm : n <= 100000) (w : World) (hr : RdW w A es) (hk : K w) :
  Calls Try.prog 83 #[.slice A n cap, .func (.func gf) #[] lb] w fun e w' => ∃ r, e = .returned (.int .i64 r) /\ First p es r /\ Grown w w' := by
 have HN := Lib.hid hn
 have HP := Lib.hid hp
 have HK := Lib.hid hK
 have HK0 := Lib.hid hk
 clear hn hp hK hk
 go_enter Try.func83, Try.ntmps83
 go_wp2_with fail
 go_loopg [8] n (fun gg s8 wr => ∃ k : Nat, k <= n /\ n - k <= gg /\ s8 = .int .i64 (k : Int) /\ Hid (Grown w wr) /\ Hid (∀ v ∈ es.take k, p v = false))
 case atStart => exact ⟨0, Nat.zero_le _, by omega, rfl, Grown.refl w, by show ∀ _, _; simp⟩
 case round =>
  obtain ⟨k, hk, hgg, rfl, HG, HA⟩ := hrel
  by_cases hlt : k < n
  ·have hk' : k < es.length := by rw [HN.out]; exact hlt
   obtain ⟨g, off, rfl, hg, c0, c1, c2⟩ := RdW.at3 (hr.below HG.out.below) hk'
   have hcall := HP.out wr es[k] (HK.out w wr HK0.out HG.out)
   obtain ⟨x, hx⟩ : ∃ x, es[k] = x := ⟨_, rfl⟩
   have HX := Lib.hid hx
   rw [hx] at c0 c1 c2 hcall
   clear hx hr
   obtain ⟨xk, xi, xt⟩ := x
   have w5 : (k : Int) < (n : Int) := by omega
   cases hq : p ⟨xk, xi, xt⟩ with
   | true =>
    rw [hq] at hcall
    have HQ := Lib.hid hq
    clear hq
    go_wp2_with (go_at_fn gf; refine hcall.mono ?_; rintro e w' ⟨rfl, hgr⟩)
    go_ret
    exact ⟨_, rfl, .inr ⟨k, hk', rfl, by rw [HX.out]; exact HQ.out, HA.out⟩, HG.out.trans hgr⟩
   | false =>
    rw [hq] at hcall
    have HQ : Hid (∀ v ∈ es.take (k + 1), p v = false) := by
     show ∀ v ∈ es.take (k + 1), p v = false
     rw [take_snoc hk', HX.out]
     intro v hv
     rcases List.mem_append.1 hv with hv | hv
     ·exact HA.out v hv
     ·simp at hv; subst hv; exact hq
    clear hq
    go_wp2_with (go_at_fn gf; refine hcall.mono ?_; rintro e w' ⟨rfl, hgr⟩)
    go_roundg (n - (k + 1))
    case measure => omega
    case rel => exact ⟨k + 1, by omega, Nat.le_refl _, by go_num, HG.out.trans hgr, HQ⟩
  ·have hkn : Hid (k = n) := by show k = n; omega
   go_wp2_with fail
   go_ret
   exact ⟨_, rfl, .inl ⟨rfl, by have := HA.out; rwa [hkn.out, List.take_of_length_le (by rw [HN.out]; exact Nat.le_refl _)] at this⟩, HG.out⟩
/-- What has been done when the values ahead of p have been gone over. -/
structure DelInv (q : Val -> Bool) (es : List Val) (p i : Nat) (cs : List Val) : Prop where
 len : cs.length = es.length
 lt : i < p
 le : p <= es.length
 high : ∀ j, p <= j -> cs[j]? = es[j]?
 kept : cs.take i = (es.take p).filter fun v => !q v
theorem filter_none {q : Val -> Bool} {l : List Val} (h : ∀ v ∈ l, q v = false) : (l.filter fun v => !q v) = l := List.filter_eq_self.2 fun v hv => by rw [h v hv]; rfl
theorem DelInv.start {q : Val -> Bool} {es : List Val} {k : Nat} (hk : k < es.length) (h1 : q es[k] = true) (h2 : ∀ v ∈ es.take k, q v = false) : DelInv q es (k + 1) k es :=
 ⟨rfl, by omega, by omega, fun _ _ => rfl, by rw [take_snoc hk, List.filter_append, filter_none h2]; simp [h1]⟩
theorem DelInv.skip {q : Val -> Bool} {es cs : List Val} {p i : Nat} (h : DelInv q es p i cs) (hlt : p < es.length) (e : q es[p] = true) : DelInv q es (p + 1) i cs :=
 ⟨h.len, by have := h.lt; omega, by omega, fun j hj => h.high j (by omega), by rw [take_snoc hlt, List.filter_append, <- h.kept]; simp [e]⟩
theorem DelInv.keep {q : Val -> Bool} {es cs : List Val} {p i : Nat} (h : DelInv q es p i cs) (hlt : p < es.length) (e : q es[p] = false) : DelInv q es (p + 1) (i + 1) (cs.set i es[p]) := by
 have hi : i < cs.length := by have := h.lt; have := h.len; omega
 have ht : (cs.set i es[p]).take (i + 1) = cs.take i ++ [es[p]] := by
  rw [List.take_succ_eq_append_getElem (by simpa using hi), List.take_set, List.set_eq_of_length_le (by simp; omega)]
  simp
 refine ⟨by simp [h.len], by have := h.lt; omega, by omega, fun j hj => ?_, ?_⟩
 ·rw [List.getElem?_set_ne (by have := h.lt; omega)]
  exact h.high j (by omega)
 ·rw [ht, take_snoc hlt, List.filter_append, <- h.kept]; simp [e]
/-- What DeleteFunc tells. -/
def Deletes (q : Val -> Bool) (w : World) (g : Nat) (es : List Val) (n cap : Nat) (sp : List Value) (e : Ending) (w' : World) : Prop :=
 ∃ m sp', e = .returned (.slice (some ⟨g, 0, none⟩) m cap) /\ (es.filter fun v => !q v).length = m /\ m <= n /\ Lies w' g (es.filter fun v => !q v) sp' /\ m * 3 + sp'.length = n * 3 + sp.length /\ Touch g w w'
theorem Touch.grown {g : Nat} {a b c : World} (h : Touch g a b) (k : Grown b c) : Touch g a c := h.trans (Touch.of_below k.below)
theorem Lies.grown {w w' : World} {g : Nat} {es : List Val} {sp : List Value} (h : Lies w g es sp) (k : Grown w w') : Lies w' g es sp := Blk.below h k.below h.lt
set_option maxRecDepth 100000 in
set_option maxHeartbeats 2000000 in
theorem deleteFuncV_at (K : World -> Prop) (gf : Nat) (lb : Array Value) (q : Val -> Bool) (hp : PredK K gf lb q) (eg : ∀ args w, (callFunc gf args).run Try.prog w = .ok (.enter gf args) w)
  (g : Nat) (es : List Val) (n cap : Nat) (sp : List Value) (hn : es.length = n) (hm : n <= 100000) (hc : n <= cap) (w : World) (hB : Lies w g es sp) (hk : K w) (hK : ∀ W W', K W -> Touch g W W' -> K W') :
  Calls Try.prog 66 #[.slice (some ⟨g, 0, none⟩) n cap, .func (.func gf) #[] lb] w (Deletes q w g es n cap sp) := by
 have HN := Lib.hid hn
 have HP := Lib.hid hp
 have HK := Lib.hid hK
 have HK0 := Lib.hid hk
 have HB0 := Lib.hid hB
 clear hn
 have hix := indexFuncV_at K gf lb q hp (fun W W' h hg => hK W W' h (Touch.of_below hg.below)) eg (some ⟨g, 0, none⟩) es n cap HN.out hm w hB.rd hk
 clear hp hK hk hB
 go_enter Try.func66, Try.ntmps66
 go_wp2_with fail
 refine hix.mono ?_
 rintro e w1 ⟨r, rfl, hF, hg1⟩
 clear hix
 have HL1 := Lib.hid (HB0.out.grown hg1)
 have HT1 := Lib.hid (Touch.of_below (g := g) hg1.below)
 clear hg1 HB0
 rcases hF with ⟨rfl, hall⟩ | ⟨k, hk', rfl, hqk, hall⟩
 ·have HF : Hid (es.filter (fun v => !q v) = es) := filter_none hall
  clear hall
  go_wp2_with fail
  go_ret
  exact ⟨n, sp, rfl, by rw [HF.out]; exact HN.out, Nat.le_refl _, by rw [HF.out]; exact HL1.out, rfl, HT1.out⟩
 ·have HI : Hid (DelInv q es (k + 1) k es) := DelInv.start hk' hqk hall
  have hkn : k < n := by rw [<- HN.out]; exact hk'
  have v1 : ((k : Int) == -1) = false := beq_eq_false_iff_ne.2 (by omega)
  clear hqk hall
  go_wp2_with fail
  clear v1
  go_loopg [5, 6, 7] n (fun gg s5 s6 _ wr => ∃ (i j : Nat) (cs : List Val), s5 = .int .i64 (i : Int) /\ s6 = .int .i64 (j : Int) /\ j <= n /\ n - j <= gg /\ i < j /\ Hid (DelInv q es j i cs) /\ Hid (Lies wr g cs sp) /\ Hid (Touch g w wr))
  case atStart => exact ⟨k, k + 1, es, rfl, by go_num, by omega, by omega, by omega, HI, HL1, HT1⟩
  case round =>
   obtain ⟨i, j, cs, rfl, rfl, hjn, hgg, hij, HI2, HL, HT⟩ := hrel
   clear HI HL1 HT1
   have hcl : Hid (cs.length = n) := HI2.out.len.trans HN.out
   by_cases hlt : j < n
   ·have hj' : j < cs.length := by rw [hcl.out]; exact hlt
    have hj2 : j < es.length := by rw [HN.out]; exact hlt
    obtain ⟨c0, c1, c2⟩ := HL.out.at3 hj'
    obtain ⟨x, hx⟩ : ∃ x, es[j] = x := ⟨_, rfl⟩
    have HX := Lib.hid hx
    have gx : cs[j] = x := by
     have := HI2.out.high j (by omega)
     rw [List.getElem?_eq_getElem hj', List.getElem?_eq_getElem hj2, hx] at this
     exact Option.some.inj this
    rw [gx] at c0 c1 c2
    clear hx gx
    obtain ⟨xk, xi, xt⟩ := x
    have hlw : g < wr.heap.size := Blk.lt HL.out
    have hcall := HP.out (wr.alloc (.cells #[.int .i64 xk, .int .i64 xi, .string ⟨xt.toArray⟩] 24)) ⟨xk, xi, xt⟩ (HK.out w _ HK0.out (HT.out.grown ((Grown.refl _).alloc _)))
    have hbx := Blk.new wr 24 #[.int .i64 xk, .int .i64 xi, .string ⟨xt.toArray⟩]
    have HG1 := Lib.hid ((Grown.refl wr).alloc (.cells #[.int .i64 xk, .int .i64 xi, .string ⟨xt.toArray⟩] 24))
    have w5 : (j : Int) < (n : Int) := by omega
    cases hq : q ⟨xk, xi, xt⟩ with
    | true =>
     rw [hq] at hcall
     have HI3 : Hid (DelInv q es (j + 1) i cs) := HI2.out.skip hj2 (by rw [HX.out]; exact hq)
     clear hq HX
     go_wp2_with (go_at_fn gf; refine hcall.mono ?_; rintro e w' ⟨rfl, hgr⟩)
     go_roundg (n - (j + 1))
     case measure => omega
     case rel => exact ⟨i, j + 1, cs, rfl, by go_num, by omega, Nat.le_refl _, by omega, HI3, HL.out.grown (HG1.out.trans hgr), HT.out.grown (HG1.out.trans hgr)⟩
    | false =>
     rw [hq] at hcall
     have HI3 : Hid (DelInv q es (j + 1) (i + 1) (cs.set i ⟨xk, xi, xt⟩)) := by
      have := HI2.out.keep hj2 (by rw [HX.out]; exact hq)
      rw [HX.out] at this
      exact this
     clear hq HX
     have v1 : (i : Int) < (n : Int) := by omega
     go_wp2_with (go_at_fn gf; refine hcall.mono ?_; rintro e w2 ⟨rfl, hgr⟩; have hG2 := HG1.out.trans hgr; have hl2 := HL.out.grown hG2; have hb2 := Blk.below hbx hgr.below hbx.lt; obtain ⟨b0, b1, b2, _⟩ := blk3 hb2; have h3 := hl2.at3 (k := i) (by rw [hcl.out]; omega); obtain ⟨e0, e1, e2⟩ := h3; have f0 := Blk.frozen hl2 (i * 3); have f1 := Blk.frozen hl2 (i * 3 + 1); have f2 := Blk.frozen hl2 (i * 3 + 2); have HL2 := Lib.hid (hl2.set i (by rw [hcl.out]; omega) ⟨xk, xi, xt⟩); have HT2 := Lib.hid ((HT.out.grown hG2).trans (touch_set3 w2 g (i * 3) (i * 3 + 1) (i * 3 + 2) (.int .i64 xk) (.int .i64 xi) (.string ⟨xt.toArray⟩))); clear hG2 hl2 hb2 hgr hcall hbx c0 c1 c2)
     go_roundg (n - (j + 1))
     case measure => omega
     case rel => exact ⟨i + 1, j + 1, _, by go_num, by go_num, by omega, Nat.le_refl _, by omega, HI3, HL2, HT2⟩
   ·have hend : Hid (j = n) := by show _ = _; omega
    have v5 : ¬ (j : Int) < (n : Int) := by omega
    have hin : i < n := by omega
    obtain ⟨w3, sp', hcr, hl3, ht3, hs3⟩ := HL.out.clear i n hcl.out hin (cap - i)
    have HL3 := Lib.hid hl3
    have HT3 := Lib.hid (HT.out.trans ht3)
    have HS3 := Lib.hid hs3
    have hcut : ∀ W, (Instr.slice 27 (.slice (some ⟨g, 0, none⟩) n cap) (some (.int .i64 (i : Int))) none none).run Try.prog W = .ok (.slice (some ⟨g, i * 3, none⟩) (n - i) (cap - i)) W := fun W => by
     have h1 : (0 : Int) <= (i : Int) := by omega
     have h2 : (i : Int) <= (n : Int) := by omega
     have h3 : ¬ cap = i := by omega
     go_simp
    have hhd := run_headW (some ⟨g, 0, none⟩) n cap i (by omega) hc
    clear hl3 ht3 hs3 HL HT
    go_wp2_with fail
    go_ret
    have hk2 := HI2.out.kept
    rw [hend.out, List.take_of_length_le (l := es) (by rw [HN.out]; exact Nat.le_refl _)] at hk2
    exact ⟨i, sp', rfl, by rw [<- hk2]; simp [hcl.out]; omega, by omega, by rw [<- hk2]; exact HL3.out, HS3.out, HT3.out⟩
end Go.Proofs.Ytoffnfooeojhnaa
namespace Go.Proofs.Ytoffnfooeojhnaa
open Go.RowKit Spans Op
theorem OwnK.set_ {α : Type} {L : Lay α} {w : World} {base : Nat} {v : Value} {es : List α} (h : OwnK L w base v es) {b : Nat} (hb : b < base) (i : Nat) (u : Value) : OwnK L (w.setCell ⟨b, i, none⟩ u) base v es := by
 refine ⟨h.1, ?_⟩
 rcases h.2 with h2 | ⟨g, cap, cur, hv, hbg, hg, r⟩
 ·exact .inl h2
 ·exact .inr ⟨g, cap, cur, hv, hbg, Blk.far hg (by show g ≠ b; omega) u, r⟩
theorem OwnK.form {α : Type} {L : Lay α} {w : World} {base : Nat} {v : Value} {es : List α} (h : OwnK L w base v es) {n : Nat} (hn : es.length = n) : ∃ A c, v = .slice A n c /\ n <= c /\ RdK L w A es := by
 subst hn; exact h.rd
theorem below_set {B b i : Nat} {w w' : World} {u : Value} (h : Below B w w') (hb : B <= b) : Below B w (w'.setCell ⟨b, i, none⟩ u) :=
 ⟨h.os, h.tape, h.output, by simpa using h.size, fun k hk => (heap_setCell_other w' ⟨b, i, none⟩ k u (by show k ≠ b; omega)).trans (h.block k hk)⟩
theorem OwnK.put7 {α : Type} {L : Lay α} {w : World} {base : Nat} {v : Value} {es : List α} (h : OwnK L w base v es) {b : Nat} (hb : b < base) (u0 u1 u2 u3 u4 u5 u6 : Value) :
  OwnK L (((((((w.setCell ⟨b, 0, none⟩ u0).setCell ⟨b, 1, none⟩ u1).setCell ⟨b, 2, none⟩ u2).setCell ⟨b, 3, none⟩ u3).setCell ⟨b, 4, none⟩ u4).setCell ⟨b, 5, none⟩ u5).setCell ⟨b, 6, none⟩ u6) base v es :=
 ((((((h.set_ hb 0 u0).set_ hb 1 u1).set_ hb 2 u2).set_ hb 3 u3).set_ hb 4 u4).set_ hb 5 u5).set_ hb 6 u6
theorem below_put7 {B b : Nat} {w0 w : World} (h : Below B w0 w) (hb : B <= b) (u0 u1 u2 u3 u4 u5 u6 : Value) :
  Below B w0 (((((((w.setCell ⟨b, 0, none⟩ u0).setCell ⟨b, 1, none⟩ u1).setCell ⟨b, 2, none⟩ u2).setCell ⟨b, 3, none⟩ u3).setCell ⟨b, 4, none⟩ u4).setCell ⟨b, 5, none⟩ u5).setCell ⟨b, 6, none⟩ u6) :=
 below_set (below_set (below_set (below_set (below_set (below_set (below_set h hb) hb) hb) hb) hb) hb) hb
/-- A span handed back, its row in new memory. -/
def Gives (w : World) (a : Sp) (e : Ending) (w' : World) : Prop := ∃ A n c, e = .returned (spF a.kind a.lo a.hi a.frm a.to_ a.opn A n c) /\ a.no.length = n /\ n <= c /\ OwnW w' w.heap.size (.slice A n c) a.no /\ Below w.heap.size w w'
theorem Gives.rd {w' : World} {A : Option Addr} {n c : Nat} {b : Nat} {es : List Val} (h : OwnW w' b (.slice A n c) es) : RdW w' A es := by
 obtain ⟨A', c', e, _, hr⟩ := OwnK.rd h
 injection e with e1 e2 e3
 subst e1
 exact hr
set_option maxRecDepth 100000 in
set_option maxHeartbeats 1000000 in
theorem copied_at (K lo hi : Int) (f t : List UInt8) (o : Bool) (A : Option Addr) (n c : Nat) (w : World) (es : List Val) (hn : es.length = n) (hm : n <= 100000) (hr : RdW w A es) :
  Calls Try.prog 21 #[spF K lo hi f t o A n c] w (Gives w ⟨K, lo, hi, f, t, o, es⟩) := by
 have HN := Lib.hid hn
 have hgr := gr2 w (.cells #[.int .i64 K, .int .i64 lo, .int .i64 hi, .string ⟨f.toArray⟩, .string ⟨t.toArray⟩, .bool o, .slice A n c] 29) (.cells #[.int .i64 0, .int .i64 0, .int .i64 0, .string ⟨#[]⟩, .string ⟨#[]⟩, .bool false, .slice none 0 0] 29)
 have hr2 := hr.below hgr.below
 have hbx := (Blk.new w 29 #[.int .i64 K, .int .i64 lo, .int .i64 hi, .string ⟨f.toArray⟩, .string ⟨t.toArray⟩, .bool o, .slice A n c]).alloc (.cells #[.int .i64 0, .int .i64 0, .int .i64 0, .string ⟨#[]⟩, .string ⟨#[]⟩, .bool false, .slice none 0 0] 29)
 have hrs := Blk.new (w.alloc (.cells #[.int .i64 K, .int .i64 lo, .int .i64 hi, .string ⟨f.toArray⟩, .string ⟨t.toArray⟩, .bool o, .slice A n c] 29)) 29 #[.int .i64 0, .int .i64 0, .int .i64 0, .string ⟨#[]⟩, .string ⟨#[]⟩, .bool false, .slice none 0 0]
 have hsz : ((w.alloc (.cells #[.int .i64 K, .int .i64 lo, .int .i64 hi, .string ⟨f.toArray⟩, .string ⟨t.toArray⟩, .bool o, .slice A n c] 29)).alloc (.cells #[.int .i64 0, .int .i64 0, .int .i64 0, .string ⟨#[]⟩, .string ⟨#[]⟩, .bool false, .slice none 0 0] 29)).heap.size = w.heap.size + 2 := by simp
 rw [show (w.alloc (.cells #[.int .i64 K, .int .i64 lo, .int .i64 hi, .string ⟨f.toArray⟩, .string ⟨t.toArray⟩, .bool o, .slice A n c] 29)).heap.size = w.heap.size + 1 by simp] at hrs
 clear hn hr
 go_enter Try.func21, Try.ntmps21
 go_wp2_with (at_builtin; refine wpList_append_k layV (by rfl) (.const (.slice none 0 0)) (.tmp 4) 27 underV rfl (w.heap.size + 2) _ [] (by rfl) (OwnK.none_ _ _) A es n c (by rfl) hr2 HN.out (by rw [maxLen_num]; simp; omega) (by show (0 + n) * 32 <= _; omega) (by simp) ?_; intro v1 w3 o1 b1 _ _; rw [List.nil_append] at o1; have hb3 := b1 _ (Below.refl _ _); obtain ⟨B, cc, rfl, hcc, hrB⟩ := o1.form HN.out; have hX := Blk.below hbx hb3 (by omega); have hY := Blk.below hrs hb3 (by omega); obtain ⟨x0, x1, x2, x3, x4, x5, x6, k0, k1, k2, k3, k4, k5, k6⟩ := blk7 hX; obtain ⟨y0, y1, y2, y3, y4, y5, y6, l0, l1, l2, l3, l4, l5, l6⟩ := blk7 hY; have hs3 : w.heap.size + 2 <= w3.heap.size := hsz ▸ hb3.size; clear b1 hbx hrs hr2)
 refine bodyPost_ret (v := spF K lo hi f t o B n cc) (by simp [results, Try.results21, go_sem, y0, y1, y2, y3, y4, y5, y6]) rfl ?_
 refine ⟨B, n, cc, rfl, HN.out, hcc, ?_, ?_⟩
 ·exact ((OwnK.set_ o1 (by omega) 6 _).put7 (by omega) _ _ _ _ _ _ _).less (by omega)
 ·exact below_put7 (below_set (hgr.below.trans (hb3.mono (by omega))) (Nat.le_refl _)) (by omega) _ _ _ _ _ _ _
set_option maxRecDepth 100000 in
set_option maxHeartbeats 1000000 in
theorem grow_pos (n : Nat) (hn : 0 < n) (hm : n <= 100000) (w : World) : Calls Try.prog 47 #[.slice none 0 0, .int .i64 (n : Int)] w fun e w' => ∃ v, e = .returned v /\ OwnW w' w.heap.size v [] /\ Below w.heap.size w w' := by
 have hf := growslice_fits (need := n) (old := 0) (bytes := 32) hn (by omega)
 have hby : Try.t24.bytes = 32 := rfl
 go_enter Try.func47, Try.ntmps47
 go_wp2_with fail
 all_goals try (exfalso; omega)
 go_ret
 have hge := grownCap_ge w n 0 24
 have hcm : grownCap w n 0 24 <= maxLen := grownCap_le_maxLen w n 0 _ (by rw [maxLen_num]; omega)
 refine ⟨_, rfl, ⟨rfl, .inr ⟨w.heap.size, grownCap w n 0 24, _, rfl, Nat.le_refl _, heap_alloc_new w _, Nat.zero_le _, hcm, ?_, rfl⟩⟩, ?_⟩
 ·simp only [Array.size_append, size_zeroCells]
  show n * 3 + (grownCap w n 0 24 - n) * 3 = grownCap w n 0 24 * 3
  omega
 ·exact (gr1 w _).drew.below
set_option maxRecDepth 100000 in
theorem grow_at (n : Nat) (hm : n <= 100000) (w : World) : Calls Try.prog 47 #[.slice none 0 0, .int .i64 (n : Int)] w fun e w' => ∃ v, e = .returned v /\ OwnW w' w.heap.size v [] /\ Below w.heap.size w w' := by
 by_cases hn : 0 < n
 ·exact grow_pos n hn hm w
 ·have e : n = 0 := by omega
  subst e
  go_enter Try.func47, Try.ntmps47
  go_wp2_with fail
  go_ret
  exact ⟨_, rfl, OwnK.none_ _ _, Below.refl _ _⟩
set_option maxRecDepth 100000 in
set_option maxHeartbeats 1000000 in
theorem concatV_at (g0 : Nat) (A : Option Addr) (n c : Nat) (A' : Option Addr) (n' c' : Nat) (w : World) (es fs : List Val) (hn : es.length = n) (hm : n <= 10000) (hn' : fs.length = n') (hm' : n' <= 10000) (hr : RdW w A es) (hr' : RdW w A' fs) (hg : g0 < w.heap.size)
  (h0 : w.cell? ⟨g0, 0, none⟩ = some (.slice A n c)) (h1 : w.cell? ⟨g0, 1, none⟩ = some (.slice A' n' c')) :
  Calls Try.prog 22 #[.slice (some ⟨g0, 0, none⟩) 2 2] w fun e w' => ∃ v, e = .returned v /\ OwnW w' w.heap.size v (es ++ fs) /\ Below w.heap.size w w' := by
 have HN := Lib.hid hn
 have HN' := Lib.hid hn'
 have HR := Lib.hid hr
 have HR' := Lib.hid hr'
 clear hn hn' hr hr'
 go_enter Try.func22, Try.ntmps22
 go_wp2_with fail
 go_loopg [3, 11] 2 (fun gg s3 s11 wr => w = wr /\ ((s11 = .int .i64 0 /\ s3 = .int .i64 0 /\ 2 <= gg) ∨ (s11 = .int .i64 1 /\ s3 = .int .i64 (n : Int) /\ 1 <= gg) ∨ (s11 = .int .i64 2 /\ s3 = .int .i64 ((n + n' : Nat) : Int))))
 case atStart => exact ⟨rfl, .inl ⟨rfl, rfl, Nat.le_refl _⟩⟩
 case round =>
  obtain ⟨rfl, ⟨rfl, rfl, hgg⟩ | ⟨rfl, rfl, hgg⟩ | ⟨rfl, rfl⟩⟩ := hrel
  ·go_wp2_with fail
   go_roundg 1
   case measure => omega
   case rel => exact ⟨rfl, .inr (.inl ⟨rfl, rfl, Nat.le_refl _⟩)⟩
  ·go_wp2_with fail
   go_roundg 0
   case measure => omega
   case rel => exact ⟨rfl, .inr (.inr ⟨rfl, by go_num⟩)⟩
  ·go_wp2_with fail
   refine (grow_at (n + n') (by omega) _).mono ?_
   rintro e w1 ⟨v, rfl, ho, hb⟩
   have HO := Lib.hid ho
   have HB := Lib.hid hb
   have HH0 := Lib.hid h0
   have HH1 := Lib.hid h1
   clear h0 h1 ho hb
   go_wp2_with fail
   go_loopg [6, 27] 2 (fun gg s6 s27 wr => Hid (Below w.heap.size w wr) /\ ((s27 = .int .i64 0 /\ Hid (OwnW wr w.heap.size s6 []) /\ 2 <= gg) ∨ (s27 = .int .i64 1 /\ Hid (OwnW wr w.heap.size s6 es) /\ 1 <= gg) ∨ (s27 = .int .i64 2 /\ Hid (OwnW wr w.heap.size s6 (es ++ fs)))))
   case atStart => exact ⟨HB, .inl ⟨rfl, HO, Nat.le_refl _⟩⟩
   case round =>
    obtain ⟨HB2, ⟨rfl, HO2, hgg⟩ | ⟨rfl, HO2, hgg⟩ | ⟨rfl, HO2⟩⟩ := hrel
    ·have d0 := (HB2.out.cell (p := ⟨g0, 0, none⟩) hg).trans HH0.out
     have hlb : w.heap.size <= wr.heap.size := HB2.out.size
     have hr2 := HR.out.below HB2.out
     clear HO HB
     go_wp2_with (at_builtin; refine wpList_append_k layV (by rfl) (.tmp 31) (.tmp 32) 27 underV rfl w.heap.size _ [] (by rfl) HO2.out A es n c (by rfl) hr2 HN.out (by rw [maxLen_num]; simp; omega) (by show (0 + n) * 32 <= _; omega) hlb ?_; intro v1 w3 o1 b1 _ _; rw [List.nil_append] at o1; have HO3 := Lib.hid o1; have HB3 := Lib.hid (b1 _ HB2.out); clear b1 o1 d0)
     go_roundg 1
     case measure => omega
     case rel => exact ⟨HB3, .inr (.inl ⟨rfl, HO3, Nat.le_refl _⟩)⟩
    ·have d0 := (HB2.out.cell (p := ⟨g0, 1, none⟩) hg).trans HH1.out
     have hlb : w.heap.size <= wr.heap.size := HB2.out.size
     have hr2 := HR'.out.below HB2.out
     clear HO HB
     go_wp2_with (at_builtin; refine wpList_append_k layV (by rfl) (.tmp 31) (.tmp 32) 27 underV rfl w.heap.size _ es (by rfl) HO2.out A' fs n' c' (by rfl) hr2 HN'.out (by rw [maxLen_num, HN.out]; omega) (by show (es.length + n') * 32 <= _; rw [HN.out]; omega) hlb ?_; intro v1 w3 o1 b1 _ _; have HO3 := Lib.hid o1; have HB3 := Lib.hid (b1 _ HB2.out); clear b1 o1 d0)
     go_roundg 0
     case measure => omega
     case rel => exact ⟨HB3, .inr (.inr ⟨rfl, HO3⟩)⟩
    ·go_wp2_with fail
     go_ret
     exact ⟨_, rfl, HO2.out, HB2.out⟩
end Go.Proofs.Ytoffnfooeojhnaa
namespace Go.Proofs.Ytoffnfooeojhnaa
open Go.RowKit Go.Sort Spans Op
/-- Only the block that a slice's address leads to has turned. -/
def Tch (A : Option Addr) (w w' : World) : Prop := w.grownBy w' (A.map (·.block))
theorem Tch.refl (A : Option Addr) (w : World) : Tch A w w := World.grownBy.refl w _
theorem Tch.trans {A : Option Addr} {a b c : World} (h : Tch A a b) (k : Tch A b c) : Tch A a c := World.grownBy.trans h k
theorem Tch.of_below {A : Option Addr} {w w' : World} (h : Below w.heap.size w w') : Tch A w w' := ⟨h.os, h.tape, h.output, h.size, fun k hk _ => h.block k hk⟩
theorem Tch.size {A : Option Addr} {w w' : World} (h : Tch A w w') : w.heap.size <= w'.heap.size := World.grownBy.size h
theorem Tch.blk {A : Option Addr} {w w' : World} {g : Nat} {t : TypeId} {cs : Array Value} (h : Tch A w w') (hB : Blk w g t cs) (hne : ∀ a, A = some a -> a.block < g) : Blk w' g t cs :=
 (World.grownBy.block h g hB.lt (by
  cases A with
  | none => simp
  | some a => have := hne a rfl; simp; omega)).trans hB
theorem Tch.below {A : Option Addr} {B : Nat} {w0 w w' : World} (h : Tch A w w') (hb : Below B w0 w) (hB : B <= w.heap.size) (hA : ∀ a, A = some a -> B <= a.block) : Below B w0 w' :=
 hb.grown h hB (by
  intro k hk
  cases A with
  | none => simp at hk
  | some a => simp at hk; subst hk; exact hA a rfl)
theorem own_addr {w : World} {base : Nat} {A : Option Addr} {n c : Nat} {l : List Val} (h : OwnW w base (.slice A n c) l) : ∀ a, A = some a -> base <= a.block /\ a.block < w.heap.size := by
 intro a ha
 subst ha
 rcases lies_of_own h with ⟨e, _⟩ | ⟨g, cap, sp, e, hb, _, _, hl, _⟩
 ·cases e
 ·injection e with e1 e2 e3
  injection e1 with e1
  subst e1
  exact ⟨hb, Blk.lt hl⟩
section
variable {w : World} {base : Nat} {A : Option Addr} {n c : Nat} {l : List Val}
set_option maxRecDepth 100000 in
theorem compact_none (w : World) : Calls Try.prog 50 #[.slice none 0 0] w fun e w' => e = .returned (.slice none 0 0) /\ w' = w := by
 go_enter Try.func50, Try.ntmps50
 go_wp2_with fail
 go_ret
 exact ⟨rfl, rfl⟩
theorem sortV_own (hn : l.length = n) (hm : n <= 100000) (ho : OwnW w base (.slice A n c) l) :
  Calls Try.prog 48 #[.slice A n c, .func (.func 49) #[] #[]] w fun e w' =>
   e = .returned (.tuple #[]) /\ ∃ out, out.Perm l /\ SortedV out /\ OwnW w' base (.slice A n c) out /\ Tch A w w' := by
 rcases lies_of_own ho with ⟨e, hl⟩ | ⟨g, cap, sp, e, hb, hc, hcm, hl, hs⟩
 ·injection e with e1 e2 e3
  subst e1; subst e2; subst e3; subst hl
  refine (sortV_none 0 none w).mono ?_
  rintro e w' ⟨rfl, rfl⟩
  exact ⟨rfl, [], List.Perm.refl _, List.Pairwise.nil, OwnK.none_ _ _, Tch.refl _ _⟩
 ·injection e with e1 e2 e3
  subst e1; subst e3
  refine (sortV_at g l n c sp hn hm w hl).mono ?_
  rintro e w' ⟨rfl, out, hp, hS, hL, hT⟩
  have hlen : out.length = l.length := hp.length_eq
  refine ⟨rfl, out, hp, hS, ?_, hT⟩
  have := own_of_lies hL hb (by omega) hcm (by omega)
  rwa [hlen, hn] at this
theorem compactV_own (hn : l.length = n) (hm : n <= 100000) (hS : SortedV l) (ho : OwnW w base (.slice A n c) l) :
  Calls Try.prog 50 #[.slice A n c] w fun e w' =>
   ∃ out n', e = .returned (.slice A n' c) /\ out.length = n' /\ n' <= n /\ RiseV out /\ (∀ v, v ∈ out ↔ v ∈ l) /\ OwnW w' base (.slice A n' c) out /\ Tch A w w' := by
 rcases lies_of_own ho with ⟨e, hl⟩ | ⟨g, cap, sp, e, hb, hc, hcm, hl, hs⟩
 ·injection e with e1 e2 e3
  subst e1; subst e2; subst e3; subst hl
  refine (compact_none w).mono ?_
  rintro e w' ⟨rfl, rfl⟩
  exact ⟨[], 0, rfl, rfl, Nat.le_refl _, List.Pairwise.nil, fun _ => Iff.rfl, OwnK.none_ _ _, Tch.refl _ _⟩
 ·injection e with e1 e2 e3
  subst e1; subst e3
  refine (compactV_at g l n c sp hn hm (by omega) hcm hS w hl).mono ?_
  rintro e w' ⟨out, m, sp', rfl, hlen, hmn, hst, hmem, hL, hsz, hT⟩
  refine ⟨out, m, rfl, hlen, hmn, hst, hmem, ?_, hT⟩
  have := own_of_lies hL hb (by omega) hcm (by omega)
  rwa [hlen] at this
set_option maxRecDepth 100000 in
theorem delete_none (K : World -> Prop) (gf : Nat) (lb : Array Value) (q : Val -> Bool) (hp : PredK K gf lb q) (eg : ∀ args w, (callFunc gf args).run Try.prog w = .ok (.enter gf args) w) (w : World) (hk : K w) (hK : ∀ W W', K W -> Grown W W' -> K W') :
  Calls Try.prog 66 #[.slice none 0 0, .func (.func gf) #[] lb] w fun e w' => e = .returned (.slice none 0 0) /\ Below w.heap.size w w' := by
 have hix := indexFuncV_at K gf lb q hp hK eg none [] 0 0 rfl (by omega) w (.inl rfl) hk
 clear hp hK hk
 go_enter Try.func66, Try.ntmps66
 go_wp2_with fail
 refine hix.mono ?_
 rintro e w1 ⟨r, rfl, hF, hg1⟩
 clear hix
 have hr : r = -1 := by
  rcases hF with ⟨h, _⟩ | ⟨k, hk, _⟩
  ·exact h
  ·simp at hk
 subst hr
 clear hF
 go_wp2_with fail
 go_ret
 exact ⟨rfl, hg1.below⟩
theorem deleteV_own (K : World -> Prop) (gf : Nat) (lb : Array Value) (q : Val -> Bool) (hp : PredK K gf lb q) (eg : ∀ args w, (callFunc gf args).run Try.prog w = .ok (.enter gf args) w) (hn : l.length = n) (hm : n <= 100000) (ho : OwnW w base (.slice A n c) l) (hk : K w) (hK : ∀ W W', K W -> Tch A W W' -> K W') :
  Calls Try.prog 66 #[.slice A n c, .func (.func gf) #[] lb] w fun e w' =>
   ∃ n', e = .returned (.slice A n' c) /\ (l.filter fun v => !q v).length = n' /\ n' <= n /\ OwnW w' base (.slice A n' c) (l.filter fun v => !q v) /\ Tch A w w' := by
 rcases lies_of_own ho with ⟨e, hl⟩ | ⟨g, cap, sp, e, hb, hc, hcm, hl, hs⟩
 ·injection e with e1 e2 e3
  subst e1; subst e2; subst e3; subst hl
  refine (delete_none K gf lb q hp eg w hk (fun W W' h hg => hK W W' h (Tch.of_below hg.below))).mono ?_
  rintro e w' ⟨rfl, hb⟩
  exact ⟨0, rfl, rfl, Nat.le_refl _, OwnK.none_ _ _, Tch.of_below hb⟩
 ·injection e with e1 e2 e3
  subst e1; subst e3
  refine (deleteFuncV_at K gf lb q hp eg g l n c sp hn hm (by omega) w hl hk hK).mono ?_
  rintro e w' ⟨m, sp', rfl, hlen, hmn, hL, hsz, hT⟩
  refine ⟨m, rfl, hlen, hmn, ?_, hT⟩
  have := own_of_lies hL hb (by omega) hcm (by omega)
  rwa [hlen] at this
end
/-- The box of a span that a function looks at: its ints. -/
def BoxN (G : Nat) (lo hi : Int) (W : World) : Prop := G < W.heap.size /\ W.cell? ⟨G, 1, none⟩ = some (.int .i64 lo) /\ W.cell? ⟨G, 2, none⟩ = some (.int .i64 hi)
def outN (lo hi : Int) (v : Val) : Bool := decide (v.i < lo) || decide (hi < v.i)
set_option maxRecDepth 100000 in
theorem predN_at (G : Nat) (lo hi : Int) : PredK (BoxN G lo hi) 67 #[.pointer (some ⟨G, 0, none⟩)] (outN lo hi) := by
 intro W x hK
 obtain ⟨hG, h1, h2⟩ := hK
 obtain ⟨xk, xi, xt⟩ := x
 show Calls Try.prog _ #[.agg #[.int .i64 xk, .int .i64 xi, .string ⟨xt.toArray⟩], .pointer (some ⟨G, 0, none⟩)] W _
 have hne : ¬ W.heap.size = G := by omega
 go_enter Try.func67, Try.ntmps67
 go_wp2_with fail
 all_goals (go_ret; refine ⟨ret_b ?_, gr1 _ _⟩; simp_all [outN])
 all_goals omega
def BoxT (G : Nat) (f t : List UInt8) (o : Bool) (W : World) : Prop := G < W.heap.size /\ W.cell? ⟨G, 3, none⟩ = some (.string ⟨f.toArray⟩) /\ W.cell? ⟨G, 4, none⟩ = some (.string ⟨t.toArray⟩) /\ W.cell? ⟨G, 5, none⟩ = some (.bool o)
def outT (f t : List UInt8) (o : Bool) (v : Val) : Bool := bytesLess v.t f || (!o && !bytesLess v.t t)
set_option maxRecDepth 100000 in
theorem predT_at (G : Nat) (f t : List UInt8) (o : Bool) : PredK (BoxT G f t o) 68 #[.pointer (some ⟨G, 0, none⟩)] (outT f t o) := by
 intro W x hK
 obtain ⟨hG, h1, h2, h3⟩ := hK
 obtain ⟨xk, xi, xt⟩ := x
 show Calls Try.prog _ #[.agg #[.int .i64 xk, .int .i64 xi, .string ⟨xt.toArray⟩], .pointer (some ⟨G, 0, none⟩)] W _
 have hne : ¬ W.heap.size = G := by omega
 go_enter Try.func68, Try.ntmps68
 go_wp2_with fail
 all_goals (go_ret; refine ⟨ret_b ?_, gr1 _ _⟩; simp_all [outT])
end Go.Proofs.Ytoffnfooeojhnaa
namespace Go.Proofs.Ytoffnfooeojhnaa
open Go.RowKit Go.Sort Spans Op
theorem cell_of_block {w w' : World} {p : Addr} (h : w'.heap[p.block]? = w.heap[p.block]?) : w'.cell? p = w.cell? p := by unfold World.cell?; rw [h]
theorem RdK.of_block {α : Type} {L : Lay α} {w w' : World} {A : Option Addr} {es : List α} (h : RdK L w A es) (hs : w.heap.size <= w'.heap.size) (hb : ∀ a, A = some a -> w'.heap[a.block]? = w.heap[a.block]?) : RdK L w' A es := by
 rcases h with rfl | ⟨g, off, rfl, hg, hc⟩
 ·exact .inl rfl
 ·exact .inr ⟨g, off, rfl, Nat.lt_of_lt_of_le hg hs, fun i hi j v hv => (cell_of_block (p := ⟨g, off + i * L.k + j, none⟩) (hb ⟨g, off, none⟩ rfl)).trans (hc i hi j v hv)⟩
theorem RdK.set_ {α : Type} {L : Lay α} {w : World} {A : Option Addr} {es : List α} (h : RdK L w A es) {b : Nat} (hA : ∀ a, A = some a -> a.block < b) (i : Nat) (u : Value) : RdK L (w.setCell ⟨b, i, none⟩ u) A es :=
 h.of_block (by simp) fun a ha => heap_setCell_other w ⟨b, i, none⟩ a.block u (by have := hA a ha; show a.block ≠ b; omega)
theorem RdK.put7 {α : Type} {L : Lay α} {w : World} {A : Option Addr} {es : List α} (h : RdK L w A es) {b : Nat} (hA : ∀ a, A = some a -> a.block < b) (u0 u1 u2 u3 u4 u5 u6 : Value) :
  RdK L (((((((w.setCell ⟨b, 0, none⟩ u0).setCell ⟨b, 1, none⟩ u1).setCell ⟨b, 2, none⟩ u2).setCell ⟨b, 3, none⟩ u3).setCell ⟨b, 4, none⟩ u4).setCell ⟨b, 5, none⟩ u5).setCell ⟨b, 6, none⟩ u6) A es :=
 ((((((h.set_ hA 0 u0).set_ hA 1 u1).set_ hA 2 u2).set_ hA 3 u3).set_ hA 4 u4).set_ hA 5 u5).set_ hA 6 u6
/-- A cut off the front, and where it leads. -/
theorem run_cutB {w : World} {A : Option Addr} {es : List Val} {n cap : Nat} {B : Nat} (hr : RdW w A es) (hA : ∀ a, A = some a -> a.block < B) (hn : es.length = n) (hk : 1 <= n) (hc : n <= cap) :
  ∃ A', (∀ W, (Instr.slice 27 (.slice A n cap) (some (.int .i64 1)) none none).run Try.prog W = .ok (.slice A' (n - 1) (cap - 1)) W) /\ RdW w A' (es.drop 1) /\ ∀ a, A' = some a -> a.block < B := by
 rcases hr with rfl | ⟨g, off, rfl, hg, hcell⟩
 ·simp at hn; omega
 ·by_cases hck : cap = 1
  ·refine ⟨some ⟨g, off, none⟩, fun W => ?_, .inl (List.drop_eq_nil_of_le (by omega)), hA⟩
   have h1 : (0 : Int) <= (1 : Int) := by omega
   have h2 : (1 : Int) <= (n : Int) := by omega
   subst hck
   go_simp
  ·refine ⟨some ⟨g, off + 3, none⟩, fun W => ?_, .inr ⟨g, off + 3, rfl, hg, fun i hi j v hv => ?_⟩, fun a ha => ?_⟩
   ·have h1 : (0 : Int) <= (1 : Int) := by omega
    have h2 : (1 : Int) <= (n : Int) := by omega
    go_simp
   ·have hi' : 1 + i < es.length := by simp at hi; omega
    rw [List.getElem_drop] at hv
    have := hcell (1 + i) hi' j v hv
    rw [show off + (1 + i) * layV.k + j = off + 3 + i * layV.k + j by show off + (1 + i) * 3 + j = off + 3 + i * 3 + j; omega] at this
    exact this
   ·injection ha with ha
    subst ha
    exact hA ⟨g, off, none⟩ rfl
theorem Tch.cell {A : Option Addr} {w w' : World} {p : Addr} (h : Tch A w w') (hg : p.block < w.heap.size) (hne : ∀ a, A = some a -> a.block < p.block) : w'.cell? p = w.cell? p :=
 cell_of_block (World.grownBy.block h p.block hg (by
  cases A with
  | none => simp
  | some a => have := hne a rfl; simp; omega))
theorem boxN_tch {A : Option Addr} {G : Nat} {lo hi : Int} (hA : ∀ a, A = some a -> a.block < G) : ∀ W W', BoxN G lo hi W -> Tch A W W' -> BoxN G lo hi W' :=
 fun _ _ ⟨h0, h1, h2⟩ hT => ⟨Nat.lt_of_lt_of_le h0 hT.size, (hT.cell (p := ⟨G, 1, none⟩) h0 hA).trans h1, (hT.cell (p := ⟨G, 2, none⟩) h0 hA).trans h2⟩
theorem tch_set {A : Option Addr} {w w' : World} {b i : Nat} {u : Value} (h : Tch A w w') (hb : w.heap.size <= b) : Tch A w (w'.setCell ⟨b, i, none⟩ u) :=
 ⟨h.os, h.tape, h.output, by simpa using h.size, fun k hk hne => (heap_setCell_other w' ⟨b, i, none⟩ k u (by show k ≠ b; omega)).trans (World.grownBy.block h k hk hne)⟩
theorem tch_put7 {A : Option Addr} {w0 w : World} {b : Nat} (h : Tch A w0 w) (hb : w0.heap.size <= b) (u0 u1 u2 u3 u4 u5 u6 : Value) :
  Tch A w0 (((((((w.setCell ⟨b, 0, none⟩ u0).setCell ⟨b, 1, none⟩ u1).setCell ⟨b, 2, none⟩ u2).setCell ⟨b, 3, none⟩ u3).setCell ⟨b, 4, none⟩ u4).setCell ⟨b, 5, none⟩ u5).setCell ⟨b, 6, none⟩ u6) :=
 tch_set (tch_set (tch_set (tch_set (tch_set (tch_set (tch_set h hb) hb) hb) hb) hb) hb) hb
/-- What trimming tells: a span whose row lies somewhere. -/
def Trims (P : Sp -> Prop) (A : Option Addr) (n : Nat) (w : World) (e : Ending) (w' : World) : Prop :=
 ∃ r A' n' c', e = .returned (spF r.kind r.lo r.hi r.frm r.to_ r.opn A' n' c') /\ r.no.length = n' /\ n' <= n /\ RdW w' A' r.no /\ Tch A w w' /\ P r
set_option maxRecDepth 100000 in
set_option maxHeartbeats 4000000 in
theorem trimNum_at (K lo hi : Int) (A : Option Addr) (n c : Nat) (w : World) (base : Nat) (l : List Val) (hk : K = 1 ∨ K = 3) (hlow : lowest K <= lo) (hhigh : hi <= highest K) (hn : l.length = n) (hm : n <= 100000)
  (hl : ∀ v ∈ l, v.k = K /\ v.t = []) (hr : RiseV l) (ho : OwnW w base (.slice A n c) l) :
  Calls Try.prog 51 #[spF K lo hi [] [] false A n c] w (Trims (IsInts K lo hi l) A n w) := by
 have hlo64 : -9223372036854775808 <= lo := by
  have h : -9223372036854775808 <= lowest K := by unfold lowest; split <;> omega
  omega
 have hhi64 : hi <= 9223372036854775807 := by
  have h : highest K <= 9223372036854775807 := by unfold highest; split <;> omega
  omega
 have HN := Lib.hid hn
 have HK := Lib.hid hk
 have HLo := Lib.hid hlow
 have HHi := Lib.hid hhigh
 clear hn hk hlow hhigh
 by_cases hlh : hi < lo
 ·go_enter Try.func51, Try.ntmps51
  go_wp2_with fail
  refine bodyPost_ret (v := spF 0 0 0 [] [] false none 0 0) (by simp [results, Try.results51, go_sem]) rfl ?_
  exact ⟨none_, none, 0, 0, rfl, rfl, Nat.zero_le _, .inl rfl, Tch.of_below (gr2 _ _ _).below, ints_none HK.out fun x h1 h2 => by omega⟩
 have hlh' : lo <= hi := by omega
 have hgr := gr2 w (.cells #[.int .i64 K, .int .i64 lo, .int .i64 hi, .string ⟨#[]⟩, .string ⟨#[]⟩, .bool false, .slice A n c] 29) (.cells #[.int .i64 0, .int .i64 0, .int .i64 0, .string ⟨#[]⟩, .string ⟨#[]⟩, .bool false, .slice none 0 0] 29)
 have hbx := (Blk.new w 29 #[.int .i64 K, .int .i64 lo, .int .i64 hi, .string ⟨#[]⟩, .string ⟨#[]⟩, .bool false, .slice A n c]).alloc (.cells #[.int .i64 0, .int .i64 0, .int .i64 0, .string ⟨#[]⟩, .string ⟨#[]⟩, .bool false, .slice none 0 0] 29)
 have hrs := Blk.new (w.alloc (.cells #[.int .i64 K, .int .i64 lo, .int .i64 hi, .string ⟨#[]⟩, .string ⟨#[]⟩, .bool false, .slice A n c] 29)) 29 #[.int .i64 0, .int .i64 0, .int .i64 0, .string ⟨#[]⟩, .string ⟨#[]⟩, .bool false, .slice none 0 0]
 rw [show (w.alloc (.cells #[.int .i64 K, .int .i64 lo, .int .i64 hi, .string ⟨#[]⟩, .string ⟨#[]⟩, .bool false, .slice A n c] 29)).heap.size = w.heap.size + 1 by simp] at hrs
 have hA0 := fun a ha => (own_addr ho a ha).2
 have ho2 := OwnK.below ho hgr.below
 have eg : ∀ args w, (callFunc 67 args).run Try.prog w = .ok (.enter 67 args) w := enters_of Try.func67 (by kernel_rfl) rfl
 have hbN : BoxN w.heap.size lo hi ((w.alloc (.cells #[.int .i64 K, .int .i64 lo, .int .i64 hi, .string ⟨#[]⟩, .string ⟨#[]⟩, .bool false, .slice A n c] 29)).alloc (.cells #[.int .i64 0, .int .i64 0, .int .i64 0, .string ⟨#[]⟩, .string ⟨#[]⟩, .bool false, .slice none 0 0] 29)) := ⟨hbx.lt, hbx.cell 1, hbx.cell 2⟩
 have hsz : ((w.alloc (.cells #[.int .i64 K, .int .i64 lo, .int .i64 hi, .string ⟨#[]⟩, .string ⟨#[]⟩, .bool false, .slice A n c] 29)).alloc (.cells #[.int .i64 0, .int .i64 0, .int .i64 0, .string ⟨#[]⟩, .string ⟨#[]⟩, .bool false, .slice none 0 0] 29)).heap.size = w.heap.size + 2 := by simp
 have hB2 : Tch A w ((w.alloc (.cells #[.int .i64 K, .int .i64 lo, .int .i64 hi, .string ⟨#[]⟩, .string ⟨#[]⟩, .bool false, .slice A n c] 29)).alloc (.cells #[.int .i64 0, .int .i64 0, .int .i64 0, .string ⟨#[]⟩, .string ⟨#[]⟩, .bool false, .slice none 0 0] 29)) := Tch.of_below hgr.below
 have hdel := deleteV_own (BoxN w.heap.size lo hi) 67 #[.pointer (some ⟨w.heap.size, 0, none⟩)] (outN lo hi) (predN_at w.heap.size lo hi) eg HN.out hm ho2 hbN (boxN_tch hA0)
 clear ho ho2 hbN eg
 go_enter Try.func51, Try.ntmps51
 go_wp2_with fail
 generalize hw2 : (w.alloc (.cells #[.int .i64 K, .int .i64 lo, .int .i64 hi, .string ⟨#[]⟩, .string ⟨#[]⟩, .bool false, .slice A n c] 29)).alloc (.cells #[.int .i64 0, .int .i64 0, .int .i64 0, .string ⟨#[]⟩, .string ⟨#[]⟩, .bool false, .slice none 0 0] 29) = w2 at *
 clear hw2
 refine hdel.mono ?_
 rintro e w3 ⟨n3, rfl, hl3, hn3, ho3, ht3⟩
 clear hdel
 have HTN := Lib.hid (TN.start hl hr hlh' (outN lo hi) (fun _ => rfl))
 have HB3 := Lib.hid (hB2.trans ht3)
 have HX3 := Lib.hid (ht3.blk hbx hA0)
 have HY3 := Lib.hid (ht3.blk hrs fun a ha => Nat.lt_succ_of_lt (hA0 a ha))
 have HR3 := Lib.hid (Gives.rd ho3)
 have HL3 := Lib.hid hl3
 have HA0 := Lib.hid hA0
 have hc3 : n3 <= c := by
  obtain ⟨_, _, e, h, _⟩ := OwnK.rd ho3
  injection e with e1 e2 e3
  omega
 clear hl hr hgr hbx hrs hA0 hB2 ho3 ht3 hl3
 generalize (l.filter fun v => !outN lo hi v) = m3 at *
 generalize hG : w.heap.size = G at *
 have HG := Lib.hid hG
 clear hG hsz
 go_wp2_with fail
 go_loopg [3] n3 (fun gg s3 wr => ∃ (m : List Val) (lo' : Int) (A' : Option Addr) (k c' : Nat), s3 = .slice A' k c' /\ k <= c' /\ k <= n3 /\ k <= gg /\ lo <= lo' /\ lo' <= hi /\ Hid (m.length = k) /\ Hid (TN K lo hi l lo' hi m) /\ Hid (RdW wr A' m) /\ Hid (∀ a, A' = some a -> a.block < G) /\ Hid (Blk wr G 29 #[.int .i64 K, .int .i64 lo', .int .i64 hi, .string ⟨#[]⟩, .string ⟨#[]⟩, .bool false, .slice A n c]) /\ Hid (Blk wr (G + 1) 29 #[.int .i64 0, .int .i64 0, .int .i64 0, .string ⟨#[]⟩, .string ⟨#[]⟩, .bool false, .slice none 0 0]) /\ Hid (Tch A w wr))
 case atStart => exact ⟨m3, lo, A, n3, c, rfl, hc3, Nat.le_refl _, Nat.le_refl _, Int.le_refl _, hlh', HL3, HTN, HR3, HA0, HX3, HY3, HB3⟩
 case round =>
  obtain ⟨m, lo', A', k, c', rfl, hkc, hkn, hkg, hll, hlr, HML, HT, HR, HA, HX, HY, HB⟩ := hrel
  clear HTN HB3 HX3 HY3 HR3 HL3 HA0
  have hltX := HX.out.lt
  have hltY := HY.out.lt
  have hne1 : ¬ G = G + 1 := by omega
  have hne2 : ¬ G + 1 = G := by omega
  have X1 := fun n os => cell_grown (w := wr) (a := ⟨G, 1, none⟩) hltX (HX.out.cell 1) n os
  have X2 := fun n os => cell_grown (w := wr) (a := ⟨G, 2, none⟩) hltX (HX.out.cell 2) n os
  simp at X1 X2
  by_cases hk0 : k = 0
  ·have HLO : Hid ((⟨K, lo', []⟩ : Val) ∉ l) := HT.out.low_out fun h0 => by have := HML.out; omega
   have w5 : decide (0 < k) = false := decide_eq_false (by omega)
   clear hk0
   go_wp2_with fail
   (refine hq_region mixedT (by kernel_rfl) ?_; (repeat (refine hq_step (fun K hK => ?_); go_simp; first | (refine hK _ ?_; clear hK K) | (apply Exists.intro; refine ⟨fun _ => ?_, hK _ ?_⟩; (fail); clear hK K))); refine hq_nil ?_; intro _ hw'; obtain ⟨⟨nq, osq⟩, hw''⟩ := hw'; subst hw'')
   have hgq : Grown wr (grow (wr.drewN nq) osq) := ⟨nq, osq, rfl⟩
   generalize grow (wr.drewN nq) osq = wq at *
   have HR1 := Lib.hid (HR.out.below hgq.below)
   have HX1 := Lib.hid (Blk.below HX.out hgq.below HX.out.lt)
   have HY1 := Lib.hid (Blk.below HY.out hgq.below HY.out.lt)
   have HB1 := Lib.hid (HB.out.trans (Tch.of_below hgq.below))
   clear HR HX HY HB hgq X1 X2 hltX hltY w5
   go_wp2_with fail
   go_loopg [3] k (fun gg s3 wr => ∃ (m : List Val) (hi' : Int) (A' : Option Addr) (k' : Nat), s3 = .slice A' k' c' /\ k' <= c' /\ k' <= n3 /\ k' <= gg /\ lo' <= hi' /\ hi' <= hi /\ Hid (m.length = k') /\ Hid (TN K lo hi l lo' hi' m) /\ Hid (RdW wr A' m) /\ Hid (∀ a, A' = some a -> a.block < G) /\ Hid (Blk wr G 29 #[.int .i64 K, .int .i64 lo', .int .i64 hi', .string ⟨#[]⟩, .string ⟨#[]⟩, .bool false, .slice A n c]) /\ Hid (Blk wr (G + 1) 29 #[.int .i64 0, .int .i64 0, .int .i64 0, .string ⟨#[]⟩, .string ⟨#[]⟩, .bool false, .slice none 0 0]) /\ Hid (Tch A w wr))
   case atStart => exact ⟨m, hi, A', k, rfl, hkc, hkn, Nat.le_refl _, hlr, Int.le_refl _, HML, HT, HR1, HA, HX1, HY1, HB1⟩
   case round =>
    obtain ⟨m, hi', A', k, rfl, hkc, hkn, hkg, hll2, hlr2, HML, HT, HR, HA, HX, HY, HB⟩ := hrel
    clear HR1 HX1 HY1 HB1
    have hltX := HX.out.lt
    have hltY := HY.out.lt
    have X1 := fun n os => cell_grown (w := wr) (a := ⟨G, 1, none⟩) hltX (HX.out.cell 1) n os
    have X2 := fun n os => cell_grown (w := wr) (a := ⟨G, 2, none⟩) hltX (HX.out.cell 2) n os
    simp at X1 X2
    by_cases hk0 : k = 0
    ·have HHO : Hid ((⟨K, hi', []⟩ : Val) ∉ l) := HT.out.high_out fun h0 => by have := HML.out; omega
     have w5 : decide (0 < k) = false := decide_eq_false (by omega)
     clear hk0
     go_wp2_with fail
     (refine hq_region mixedT (by kernel_rfl) ?_; (repeat (refine hq_step (fun K hK => ?_); go_simp; first | (refine hK _ ?_; clear hK K) | (apply Exists.intro; refine ⟨fun _ => ?_, hK _ ?_⟩; (fail); clear hK K))); refine hq_nil ?_; intro _ hw'; obtain ⟨⟨nq, osq⟩, hw''⟩ := hw'; subst hw'')
     have hgq : Grown wr (grow (wr.drewN nq) osq) := ⟨nq, osq, rfl⟩
     generalize grow (wr.drewN nq) osq = wq at *
     have HR1 := Lib.hid (HR.out.below hgq.below)
     have HX1 := Lib.hid (Blk.below HX.out hgq.below HX.out.lt)
     have HY1 := Lib.hid (Blk.below HY.out hgq.below HY.out.lt)
     have HB1 := Lib.hid (HB.out.trans (Tch.of_below hgq.below))
     clear HR HX HY HB hgq X1 X2 hltX hltY w5
     have hltX := HX1.out.lt
     have hltY := HY1.out.lt
     obtain ⟨x0, x1, x2, x3, x4, x5, x6, p0, p1, p2, p3, p4, p5, p6⟩ := blk7 HX1.out
     obtain ⟨y0, y1, y2, y3, y4, y5, y6, q0, q1, q2, q3, q4, q5, q6⟩ := blk7 HY1.out
     go_wp2_with fail
     refine bodyPost_ret (v := spF K lo' hi' [] [] false (A') k c') (by simp [results, Try.results51, go_sem, y0, y1, y2, y3, y4, y5, y6]) rfl ?_
     exact ⟨⟨K, lo', hi', [], [], false, m⟩, A', k, c', rfl, HML.out, by omega, RdK.put7 (RdK.set_ HR1.out HA.out 6 _) (fun a ha => Nat.lt_succ_of_lt (HA.out a ha)) _ _ _ _ _ _ _, tch_put7 (tch_set HB1.out (Nat.le_of_eq HG.out)) (by have := HG.out; omega) _ _ _ _ _ _ _, HT.out.done HK.out HLo.out HHi.out HLO.out HHO.out⟩
    ·have hk1 : k - 1 < m.length := by rw [HML.out]; omega
     obtain ⟨g, off, rfl, hg, c0, c1, c2⟩ := RdW.at3 HR.out hk1
     have hgG : g < G := HA.out _ rfl
     have hne3 : ¬ g = G := by omega
     obtain ⟨x, hx⟩ : ∃ x, m[k - 1] = x := ⟨_, rfl⟩
     have HXX := Lib.hid hx
     rw [hx] at c0 c1 c2
     clear hx
     obtain ⟨xk, xi, xt⟩ := x
     have C1 := fun n os => cell_grown (w := wr) (a := ⟨g, off + (k - 1) * 3 + 1, none⟩) hg c1 n os
     clear c0 c1 c2
     have w1 : IntKind.i64.wrap ((k : Int) - 1) = (k : Int) - 1 := by rw [IntKind.wrap_i64]; omega
     have w2' : (0 : Int) <= (k : Int) - 1 := by omega
     have w3' : (k : Int) - 1 < (k : Int) := by omega
     have w4 : ((k : Int) - 1).toNat = k - 1 := by omega
     have w7 : (1 : Int) <= (k : Int) := by omega
     have w8 : 0 < k := by omega
     have w5 : decide (0 < k) = true := decide_eq_true (by omega)
     have hlast : ∀ h0 : 0 < m.length, m[m.length - 1] = ⟨xk, xi, xt⟩ := fun h0 => by
      have e : m.length - 1 = k - 1 := by rw [HML.out]
      simp only [e]
      exact HXX.out
     have HLA := Lib.hid hlast
     clear hlast
     by_cases hxi : xi = hi'
     ·subst hxi
      have HT2 : Hid (TN K lo hi l lo' (xi - 1) (m.take (k - 1))) := by
       have h0 : 0 < m.length := by omega
       have := HT.out.down HLO.out h0 (by rw [HLA.out h0])
       rw [HML.out] at this
       exact this
      have hlt3 : lo' <= xi - 1 := HT2.out.ord
      go_wp2_with fail
      (refine hq_region mixedT (by kernel_rfl) ?_; (repeat (refine hq_step (fun K hK => ?_); go_simp; first | (refine hK _ ?_; clear hK K) | (apply Exists.intro; refine ⟨fun _ => ?_, hK _ ?_⟩; (fail); clear hK K))); refine hq_nil ?_; intro _ hw'; obtain ⟨⟨nq, osq⟩, hw''⟩ := hw'; subst hw'')
      have hgq : Grown wr (grow (wr.drewN nq) osq) := ⟨nq, osq, rfl⟩
      generalize grow (wr.drewN nq) osq = wq at *
      have HR1 := Lib.hid (HR.out.below hgq.below)
      have HX1 := Lib.hid (Blk.below HX.out hgq.below HX.out.lt)
      have HY1 := Lib.hid (Blk.below HY.out hgq.below HY.out.lt)
      have HB1 := Lib.hid (HB.out.trans (Tch.of_below hgq.below))
      clear HR HX HY HB hgq X1 X2 hltX hltY C1 w2' w3' w4 w5 w7 w8
      have hltX := HX1.out.lt
      have hltY := HY1.out.lt
      obtain ⟨x0, x1, x2, x3, x4, x5, x6, p0, p1, p2, p3, p4, p5, p6⟩ := blk7 HX1.out
      obtain ⟨y0, y1, y2, y3, y4, y5, y6, q0, q1, q2, q3, q4, q5, q6⟩ := blk7 HY1.out
      have w6 : IntKind.i64.wrap (xi - 1) = xi - 1 := by rw [IntKind.wrap_i64]; omega
      have hhd : ∀ W, (Instr.slice 27 (.slice (some ⟨g, off, none⟩) k c') none (some (.int .i64 ((k : Int) - 1))) none).run Try.prog W = .ok (.slice (some ⟨g, off, none⟩) (k - 1) c') W := by
       intro W
       have := run_headW (some ⟨g, off, none⟩) k c' (k - 1) (by omega) hkc W
       rw [show ((k - 1 : Nat) : Int) = (k : Int) - 1 by omega] at this
       exact this
      go_wp2_with fail
      go_roundg (k - 1)
      case measure => omega
      case rel => exact ⟨m.take (k - 1), xi - 1, some ⟨g, off, none⟩, k - 1, rfl, by omega, by omega, Nat.le_refl _, hlt3, by omega, by show _ = _; simp [HML.out], HT2, RdK.set_ (RdK.take HR1.out _) HA.out _ _, HA, by show Blk _ _ _ _; simpa using Blk.put HX1.out 2 (.int .i64 (xi - 1)), Blk.far HY1.out (by show G + 1 ≠ G; omega) _, tch_set HB1.out (Nat.le_of_eq HG.out)⟩
     ·have HHO : Hid ((⟨K, hi', []⟩ : Val) ∉ l) := HT.out.high_out fun h0 => by rw [HLA.out h0]; exact hxi
      have w6 : (xi == hi') = false := beq_eq_false_iff_ne.2 hxi
      go_wp2_with fail
      (refine hq_region mixedT (by kernel_rfl) ?_; (repeat (refine hq_step (fun K hK => ?_); go_simp; first | (refine hK _ ?_; clear hK K) | (apply Exists.intro; refine ⟨fun _ => ?_, hK _ ?_⟩; (fail); clear hK K))); refine hq_nil ?_; intro _ hw'; obtain ⟨⟨nq, osq⟩, hw''⟩ := hw'; subst hw'')
      have hgq : Grown wr (grow (wr.drewN nq) osq) := ⟨nq, osq, rfl⟩
      generalize grow (wr.drewN nq) osq = wq at *
      have HR1 := Lib.hid (HR.out.below hgq.below)
      have HX1 := Lib.hid (Blk.below HX.out hgq.below HX.out.lt)
      have HY1 := Lib.hid (Blk.below HY.out hgq.below HY.out.lt)
      have HB1 := Lib.hid (HB.out.trans (Tch.of_below hgq.below))
      clear HR HX HY HB hgq X1 X2 hltX hltY C1 w1 w2' w3' w4 w5 w6 w7 w8 hxi
      have hltX := HX1.out.lt
      have hltY := HY1.out.lt
      obtain ⟨x0, x1, x2, x3, x4, x5, x6, p0, p1, p2, p3, p4, p5, p6⟩ := blk7 HX1.out
      obtain ⟨y0, y1, y2, y3, y4, y5, y6, q0, q1, q2, q3, q4, q5, q6⟩ := blk7 HY1.out
      go_wp2_with fail
      refine bodyPost_ret (v := spF K lo' hi' [] [] false (some ⟨g, off, none⟩) k c') (by simp [results, Try.results51, go_sem, y0, y1, y2, y3, y4, y5, y6]) rfl ?_
      exact ⟨⟨K, lo', hi', [], [], false, m⟩, some ⟨g, off, none⟩, k, c', rfl, HML.out, by omega, RdK.put7 (RdK.set_ HR1.out HA.out 6 _) (fun a ha => Nat.lt_succ_of_lt (HA.out a ha)) _ _ _ _ _ _ _, tch_put7 (tch_set HB1.out (Nat.le_of_eq HG.out)) (by have := HG.out; omega) _ _ _ _ _ _ _, HT.out.done HK.out HLo.out HHi.out HLO.out HHO.out⟩
  ·have h0 : 0 < m.length := by rw [HML.out]; omega
   obtain ⟨g, off, rfl, hg, c0, c1, c2⟩ := RdW.at3 HR.out h0
   have hgG : g < G := HA.out _ rfl
   have hne3 : ¬ g = G := by omega
   obtain ⟨x, hx⟩ : ∃ x, m[0] = x := ⟨_, rfl⟩
   have HXX := Lib.hid hx
   rw [hx] at c0 c1 c2
   clear hx
   obtain ⟨xk, xi, xt⟩ := x
   rw [Nat.zero_mul, Nat.add_zero] at c1
   have C1 := fun n os => cell_grown (w := wr) (a := ⟨g, off + 1, none⟩) hg c1 n os
   clear c0 c1 c2
   have w5 : decide (0 < k) = true := decide_eq_true (by omega)
   have w6 : (0 : Int) < (k : Int) := by omega
   have w9 : 0 < k := by omega
   by_cases hxi : xi = lo'
   ·subst hxi
    by_cases hxh : xi = hi
    ·have HF : Hid (IsInts K lo hi l none_) := HT.out.full HK.out h0 (by rw [HXX.out]) hxh rfl
     subst hxh
     go_wp2_with fail
     (refine hq_region mixedT (by kernel_rfl) ?_; (repeat (refine hq_step (fun K hK => ?_); go_simp; first | (refine hK _ ?_; clear hK K) | (apply Exists.intro; refine ⟨fun _ => ?_, hK _ ?_⟩; (fail); clear hK K))); refine hq_nil ?_; intro _ hw'; obtain ⟨⟨nq, osq⟩, hw''⟩ := hw'; subst hw'')
     have hgq : Grown wr (grow (wr.drewN nq) osq) := ⟨nq, osq, rfl⟩
     generalize grow (wr.drewN nq) osq = wq at *
     have HR1 := Lib.hid (HR.out.below hgq.below)
     have HX1 := Lib.hid (Blk.below HX.out hgq.below HX.out.lt)
     have HY1 := Lib.hid (Blk.below HY.out hgq.below HY.out.lt)
     have HB1 := Lib.hid (HB.out.trans (Tch.of_below hgq.below))
     clear HR HX HY HB hgq X1 X2 hltX hltY C1 w5 w6 w9
     have hltX := HX1.out.lt
     have hltY := HY1.out.lt
     obtain ⟨x0, x1, x2, x3, x4, x5, x6, p0, p1, p2, p3, p4, p5, p6⟩ := blk7 HX1.out
     obtain ⟨y0, y1, y2, y3, y4, y5, y6, q0, q1, q2, q3, q4, q5, q6⟩ := blk7 HY1.out
     go_wp2_with fail
     refine bodyPost_ret (v := spF 0 0 0 [] [] false none 0 0) (by simp [results, Try.results51, go_sem, y0, y1, y2, y3, y4, y5, y6]) rfl ?_
     exact ⟨none_, none, 0, 0, rfl, rfl, Nat.zero_le _, .inl rfl, tch_put7 HB1.out (by have := HG.out; omega) _ _ _ _ _ _ _, HF.out⟩
    ·have HT2 : Hid (TN K lo hi l (xi + 1) hi (m.drop 1)) := HT.out.up h0 (by rw [HXX.out]) hxh
     have w7 : (xi == hi) = false := beq_eq_false_iff_ne.2 hxh
     have w8 : IntKind.i64.wrap (xi + 1) = xi + 1 := by rw [IntKind.wrap_i64]; omega
     go_wp2_with fail
     (refine hq_region mixedT (by kernel_rfl) ?_; (repeat (refine hq_step (fun K hK => ?_); go_simp; first | (refine hK _ ?_; clear hK K) | (apply Exists.intro; refine ⟨fun _ => ?_, hK _ ?_⟩; (fail); clear hK K))); refine hq_nil ?_; intro _ hw'; obtain ⟨⟨nq, osq⟩, hw''⟩ := hw'; subst hw'')
     have hgq : Grown wr (grow (wr.drewN nq) osq) := ⟨nq, osq, rfl⟩
     generalize grow (wr.drewN nq) osq = wq at *
     have HR1 := Lib.hid (HR.out.below hgq.below)
     have HX1 := Lib.hid (Blk.below HX.out hgq.below HX.out.lt)
     have HY1 := Lib.hid (Blk.below HY.out hgq.below HY.out.lt)
     have HB1 := Lib.hid (HB.out.trans (Tch.of_below hgq.below))
     clear HR HX HY HB hgq X1 X2 hltX hltY C1 w5 w6 w9
     have hltX := HX1.out.lt
     have hltY := HY1.out.lt
     obtain ⟨x0, x1, x2, x3, x4, x5, x6, p0, p1, p2, p3, p4, p5, p6⟩ := blk7 HX1.out
     obtain ⟨y0, y1, y2, y3, y4, y5, y6, q0, q1, q2, q3, q4, q5, q6⟩ := blk7 HY1.out
     obtain ⟨B', hcut, hrc, hBB⟩ := run_cutB HR1.out HA.out HML.out (by omega) hkc
     have HRC := Lib.hid hrc
     have HBB := Lib.hid hBB
     clear hrc hBB
     go_wp2_with fail
     go_roundg (k - 1)
     case measure => omega
     case rel => exact ⟨m.drop 1, xi + 1, B', k - 1, c' - 1, rfl, by omega, by omega, Nat.le_refl _, by omega, by omega, by show _ = _; simp [HML.out], HT2, RdK.set_ HRC.out HBB.out _ _, HBB, by show Blk _ _ _ _; simpa using Blk.put HX1.out 1 (.int .i64 (xi + 1)), Blk.far HY1.out (by show G + 1 ≠ G; omega) _, tch_set HB1.out (Nat.le_of_eq HG.out)⟩
   ·have HLO : Hid ((⟨K, lo', []⟩ : Val) ∉ l) := HT.out.low_out fun h0 => by rw [HXX.out]; exact hxi
    have w7 : (xi == lo') = false := beq_eq_false_iff_ne.2 hxi
    go_wp2_with fail
    (refine hq_region mixedT (by kernel_rfl) ?_; (repeat (refine hq_step (fun K hK => ?_); go_simp; first | (refine hK _ ?_; clear hK K) | (apply Exists.intro; refine ⟨fun _ => ?_, hK _ ?_⟩; (fail); clear hK K))); refine hq_nil ?_; intro _ hw'; obtain ⟨⟨nq, osq⟩, hw''⟩ := hw'; subst hw'')
    have hgq : Grown wr (grow (wr.drewN nq) osq) := ⟨nq, osq, rfl⟩
    generalize grow (wr.drewN nq) osq = wq at *
    have HR1 := Lib.hid (HR.out.below hgq.below)
    have HX1 := Lib.hid (Blk.below HX.out hgq.below HX.out.lt)
    have HY1 := Lib.hid (Blk.below HY.out hgq.below HY.out.lt)
    have HB1 := Lib.hid (HB.out.trans (Tch.of_below hgq.below))
    clear HR HX HY HB hgq X1 X2 hltX hltY C1 w5 w6 w7 w9 hgG hg hne3 hxi HXX
    go_wp2_with fail
    go_loopg [3] k (fun gg s3 wr => ∃ (m : List Val) (hi' : Int) (A' : Option Addr) (k' : Nat), s3 = .slice A' k' c' /\ k' <= c' /\ k' <= n3 /\ k' <= gg /\ lo' <= hi' /\ hi' <= hi /\ Hid (m.length = k') /\ Hid (TN K lo hi l lo' hi' m) /\ Hid (RdW wr A' m) /\ Hid (∀ a, A' = some a -> a.block < G) /\ Hid (Blk wr G 29 #[.int .i64 K, .int .i64 lo', .int .i64 hi', .string ⟨#[]⟩, .string ⟨#[]⟩, .bool false, .slice A n c]) /\ Hid (Blk wr (G + 1) 29 #[.int .i64 0, .int .i64 0, .int .i64 0, .string ⟨#[]⟩, .string ⟨#[]⟩, .bool false, .slice none 0 0]) /\ Hid (Tch A w wr))
    case atStart => exact ⟨m, hi, some ⟨g, off, none⟩, k, rfl, hkc, hkn, Nat.le_refl _, hlr, Int.le_refl _, HML, HT, HR1, HA, HX1, HY1, HB1⟩
    case round =>
     obtain ⟨m, hi', A', k, rfl, hkc, hkn, hkg, hll2, hlr2, HML, HT, HR, HA, HX, HY, HB⟩ := hrel
     clear HR1 HX1 HY1 HB1
     have hltX := HX.out.lt
     have hltY := HY.out.lt
     have X1 := fun n os => cell_grown (w := wr) (a := ⟨G, 1, none⟩) hltX (HX.out.cell 1) n os
     have X2 := fun n os => cell_grown (w := wr) (a := ⟨G, 2, none⟩) hltX (HX.out.cell 2) n os
     simp at X1 X2
     by_cases hk0 : k = 0
     ·have HHO : Hid ((⟨K, hi', []⟩ : Val) ∉ l) := HT.out.high_out fun h0 => by have := HML.out; omega
      have w5 : decide (0 < k) = false := decide_eq_false (by omega)
      clear hk0
      go_wp2_with fail
      (refine hq_region mixedT (by kernel_rfl) ?_; (repeat (refine hq_step (fun K hK => ?_); go_simp; first | (refine hK _ ?_; clear hK K) | (apply Exists.intro; refine ⟨fun _ => ?_, hK _ ?_⟩; (fail); clear hK K))); refine hq_nil ?_; intro _ hw'; obtain ⟨⟨nq, osq⟩, hw''⟩ := hw'; subst hw'')
      have hgq : Grown wr (grow (wr.drewN nq) osq) := ⟨nq, osq, rfl⟩
      generalize grow (wr.drewN nq) osq = wq at *
      have HR1 := Lib.hid (HR.out.below hgq.below)
      have HX1 := Lib.hid (Blk.below HX.out hgq.below HX.out.lt)
      have HY1 := Lib.hid (Blk.below HY.out hgq.below HY.out.lt)
      have HB1 := Lib.hid (HB.out.trans (Tch.of_below hgq.below))
      clear HR HX HY HB hgq X1 X2 hltX hltY w5
      have hltX := HX1.out.lt
      have hltY := HY1.out.lt
      obtain ⟨x0, x1, x2, x3, x4, x5, x6, p0, p1, p2, p3, p4, p5, p6⟩ := blk7 HX1.out
      obtain ⟨y0, y1, y2, y3, y4, y5, y6, q0, q1, q2, q3, q4, q5, q6⟩ := blk7 HY1.out
      go_wp2_with fail
      refine bodyPost_ret (v := spF K lo' hi' [] [] false (A') k c') (by simp [results, Try.results51, go_sem, y0, y1, y2, y3, y4, y5, y6]) rfl ?_
      exact ⟨⟨K, lo', hi', [], [], false, m⟩, A', k, c', rfl, HML.out, by omega, RdK.put7 (RdK.set_ HR1.out HA.out 6 _) (fun a ha => Nat.lt_succ_of_lt (HA.out a ha)) _ _ _ _ _ _ _, tch_put7 (tch_set HB1.out (Nat.le_of_eq HG.out)) (by have := HG.out; omega) _ _ _ _ _ _ _, HT.out.done HK.out HLo.out HHi.out HLO.out HHO.out⟩
     ·have hk1 : k - 1 < m.length := by rw [HML.out]; omega
      obtain ⟨g, off, rfl, hg, c0, c1, c2⟩ := RdW.at3 HR.out hk1
      have hgG : g < G := HA.out _ rfl
      have hne3 : ¬ g = G := by omega
      obtain ⟨x, hx⟩ : ∃ x, m[k - 1] = x := ⟨_, rfl⟩
      have HXX := Lib.hid hx
      rw [hx] at c0 c1 c2
      clear hx
      obtain ⟨xk, xi, xt⟩ := x
      have C1 := fun n os => cell_grown (w := wr) (a := ⟨g, off + (k - 1) * 3 + 1, none⟩) hg c1 n os
      clear c0 c1 c2
      have w1 : IntKind.i64.wrap ((k : Int) - 1) = (k : Int) - 1 := by rw [IntKind.wrap_i64]; omega
      have w2' : (0 : Int) <= (k : Int) - 1 := by omega
      have w3' : (k : Int) - 1 < (k : Int) := by omega
      have w4 : ((k : Int) - 1).toNat = k - 1 := by omega
      have w7 : (1 : Int) <= (k : Int) := by omega
      have w8 : 0 < k := by omega
      have w5 : decide (0 < k) = true := decide_eq_true (by omega)
      have hlast : ∀ h0 : 0 < m.length, m[m.length - 1] = ⟨xk, xi, xt⟩ := fun h0 => by
       have e : m.length - 1 = k - 1 := by rw [HML.out]
       simp only [e]
       exact HXX.out
      have HLA := Lib.hid hlast
      clear hlast
      by_cases hxi : xi = hi'
      ·subst hxi
       have HT2 : Hid (TN K lo hi l lo' (xi - 1) (m.take (k - 1))) := by
        have h0 : 0 < m.length := by omega
        have := HT.out.down HLO.out h0 (by rw [HLA.out h0])
        rw [HML.out] at this
        exact this
       have hlt3 : lo' <= xi - 1 := HT2.out.ord
       go_wp2_with fail
       (refine hq_region mixedT (by kernel_rfl) ?_; (repeat (refine hq_step (fun K hK => ?_); go_simp; first | (refine hK _ ?_; clear hK K) | (apply Exists.intro; refine ⟨fun _ => ?_, hK _ ?_⟩; (fail); clear hK K))); refine hq_nil ?_; intro _ hw'; obtain ⟨⟨nq, osq⟩, hw''⟩ := hw'; subst hw'')
       have hgq : Grown wr (grow (wr.drewN nq) osq) := ⟨nq, osq, rfl⟩
       generalize grow (wr.drewN nq) osq = wq at *
       have HR1 := Lib.hid (HR.out.below hgq.below)
       have HX1 := Lib.hid (Blk.below HX.out hgq.below HX.out.lt)
       have HY1 := Lib.hid (Blk.below HY.out hgq.below HY.out.lt)
       have HB1 := Lib.hid (HB.out.trans (Tch.of_below hgq.below))
       clear HR HX HY HB hgq X1 X2 hltX hltY C1 w2' w3' w4 w5 w7 w8
       have hltX := HX1.out.lt
       have hltY := HY1.out.lt
       obtain ⟨x0, x1, x2, x3, x4, x5, x6, p0, p1, p2, p3, p4, p5, p6⟩ := blk7 HX1.out
       obtain ⟨y0, y1, y2, y3, y4, y5, y6, q0, q1, q2, q3, q4, q5, q6⟩ := blk7 HY1.out
       have w6 : IntKind.i64.wrap (xi - 1) = xi - 1 := by rw [IntKind.wrap_i64]; omega
       have hhd : ∀ W, (Instr.slice 27 (.slice (some ⟨g, off, none⟩) k c') none (some (.int .i64 ((k : Int) - 1))) none).run Try.prog W = .ok (.slice (some ⟨g, off, none⟩) (k - 1) c') W := by
        intro W
        have := run_headW (some ⟨g, off, none⟩) k c' (k - 1) (by omega) hkc W
        rw [show ((k - 1 : Nat) : Int) = (k : Int) - 1 by omega] at this
        exact this
       go_wp2_with fail
       go_roundg (k - 1)
       case measure => omega
       case rel => exact ⟨m.take (k - 1), xi - 1, some ⟨g, off, none⟩, k - 1, rfl, by omega, by omega, Nat.le_refl _, hlt3, by omega, by show _ = _; simp [HML.out], HT2, RdK.set_ (RdK.take HR1.out _) HA.out _ _, HA, by show Blk _ _ _ _; simpa using Blk.put HX1.out 2 (.int .i64 (xi - 1)), Blk.far HY1.out (by show G + 1 ≠ G; omega) _, tch_set HB1.out (Nat.le_of_eq HG.out)⟩
      ·have HHO : Hid ((⟨K, hi', []⟩ : Val) ∉ l) := HT.out.high_out fun h0 => by rw [HLA.out h0]; exact hxi
       have w6 : (xi == hi') = false := beq_eq_false_iff_ne.2 hxi
       go_wp2_with fail
       (refine hq_region mixedT (by kernel_rfl) ?_; (repeat (refine hq_step (fun K hK => ?_); go_simp; first | (refine hK _ ?_; clear hK K) | (apply Exists.intro; refine ⟨fun _ => ?_, hK _ ?_⟩; (fail); clear hK K))); refine hq_nil ?_; intro _ hw'; obtain ⟨⟨nq, osq⟩, hw''⟩ := hw'; subst hw'')
       have hgq : Grown wr (grow (wr.drewN nq) osq) := ⟨nq, osq, rfl⟩
       generalize grow (wr.drewN nq) osq = wq at *
       have HR1 := Lib.hid (HR.out.below hgq.below)
       have HX1 := Lib.hid (Blk.below HX.out hgq.below HX.out.lt)
       have HY1 := Lib.hid (Blk.below HY.out hgq.below HY.out.lt)
       have HB1 := Lib.hid (HB.out.trans (Tch.of_below hgq.below))
       clear HR HX HY HB hgq X1 X2 hltX hltY C1 w1 w2' w3' w4 w5 w6 w7 w8 hxi
       have hltX := HX1.out.lt
       have hltY := HY1.out.lt
       obtain ⟨x0, x1, x2, x3, x4, x5, x6, p0, p1, p2, p3, p4, p5, p6⟩ := blk7 HX1.out
       obtain ⟨y0, y1, y2, y3, y4, y5, y6, q0, q1, q2, q3, q4, q5, q6⟩ := blk7 HY1.out
       go_wp2_with fail
       refine bodyPost_ret (v := spF K lo' hi' [] [] false (some ⟨g, off, none⟩) k c') (by simp [results, Try.results51, go_sem, y0, y1, y2, y3, y4, y5, y6]) rfl ?_
       exact ⟨⟨K, lo', hi', [], [], false, m⟩, some ⟨g, off, none⟩, k, c', rfl, HML.out, by omega, RdK.put7 (RdK.set_ HR1.out HA.out 6 _) (fun a ha => Nat.lt_succ_of_lt (HA.out a ha)) _ _ _ _ _ _ _, tch_put7 (tch_set HB1.out (Nat.le_of_eq HG.out)) (by have := HG.out; omega) _ _ _ _ _ _ _, HT.out.done HK.out HLo.out HHi.out HLO.out HHO.out⟩
end Go.Proofs.Ytoffnfooeojhnaa
namespace Go.Proofs.Ytoffnfooeojhnaa
open Go.RowKit Go.Sort Spans Op
theorem boxT_tch {A : Option Addr} {G : Nat} {f t : List UInt8} {o : Bool} (hA : ∀ a, A = some a -> a.block < G) : ∀ W W', BoxT G f t o W -> Tch A W W' -> BoxT G f t o W' :=
 fun _ _ ⟨h0, h1, h2, h3⟩ hT => ⟨Nat.lt_of_lt_of_le h0 hT.size, (hT.cell (p := ⟨G, 3, none⟩) h0 hA).trans h1, (hT.cell (p := ⟨G, 4, none⟩) h0 hA).trans h2, (hT.cell (p := ⟨G, 5, none⟩) h0 hA).trans h3⟩
set_option maxRecDepth 100000 in
set_option maxHeartbeats 4000000 in
theorem trimText_at (frm to : List UInt8) (o : Bool) (A : Option Addr) (n c : Nat) (w : World) (base : Nat) (l : List Val) (hfs : Short frm) (hot : o = true -> to = []) (hts : o = false -> Short to) (hn : l.length = n) (hm : n <= 100000)
  (hl : ∀ v ∈ l, v.k = 2 /\ v.i = 0 /\ v.t.length <= 32) (hr : RiseV l) (ho : OwnW w base (.slice A n c) l) :
  Calls Try.prog 52 #[spF 2 0 0 frm to o A n c] w (Trims (IsTexts frm to o l) A n w) := by
 have HN := Lib.hid hn
 have HFS := Lib.hid hfs
 have HOT := Lib.hid hot
 have HTS := Lib.hid hts
 have HLL := Lib.hid hl
 clear hn hfs hot hts
 have hgr := gr2 w (.cells #[.int .i64 2, .int .i64 0, .int .i64 0, .string ⟨frm.toArray⟩, .string ⟨to.toArray⟩, .bool o, .slice A n c] 29) (.cells #[.int .i64 0, .int .i64 0, .int .i64 0, .string ⟨#[]⟩, .string ⟨#[]⟩, .bool false, .slice none 0 0] 29)
 have hbx := (Blk.new w 29 #[.int .i64 2, .int .i64 0, .int .i64 0, .string ⟨frm.toArray⟩, .string ⟨to.toArray⟩, .bool o, .slice A n c]).alloc (.cells #[.int .i64 0, .int .i64 0, .int .i64 0, .string ⟨#[]⟩, .string ⟨#[]⟩, .bool false, .slice none 0 0] 29)
 have hrs := Blk.new (w.alloc (.cells #[.int .i64 2, .int .i64 0, .int .i64 0, .string ⟨frm.toArray⟩, .string ⟨to.toArray⟩, .bool o, .slice A n c] 29)) 29 #[.int .i64 0, .int .i64 0, .int .i64 0, .string ⟨#[]⟩, .string ⟨#[]⟩, .bool false, .slice none 0 0]
 rw [show (w.alloc (.cells #[.int .i64 2, .int .i64 0, .int .i64 0, .string ⟨frm.toArray⟩, .string ⟨to.toArray⟩, .bool o, .slice A n c] 29)).heap.size = w.heap.size + 1 by simp] at hrs
 have hA0 := fun a ha => (own_addr ho a ha).2
 have ho2 := OwnK.below ho hgr.below
 have eg : ∀ args w, (callFunc 68 args).run Try.prog w = .ok (.enter 68 args) w := enters_of Try.func68 (by kernel_rfl) rfl
 have hbN : BoxT w.heap.size frm to o ((w.alloc (.cells #[.int .i64 2, .int .i64 0, .int .i64 0, .string ⟨frm.toArray⟩, .string ⟨to.toArray⟩, .bool o, .slice A n c] 29)).alloc (.cells #[.int .i64 0, .int .i64 0, .int .i64 0, .string ⟨#[]⟩, .string ⟨#[]⟩, .bool false, .slice none 0 0] 29)) := ⟨hbx.lt, hbx.cell 3, hbx.cell 4, hbx.cell 5⟩
 have hsz : ((w.alloc (.cells #[.int .i64 2, .int .i64 0, .int .i64 0, .string ⟨frm.toArray⟩, .string ⟨to.toArray⟩, .bool o, .slice A n c] 29)).alloc (.cells #[.int .i64 0, .int .i64 0, .int .i64 0, .string ⟨#[]⟩, .string ⟨#[]⟩, .bool false, .slice none 0 0] 29)).heap.size = w.heap.size + 2 := by simp
 have hB2 : Tch A w ((w.alloc (.cells #[.int .i64 2, .int .i64 0, .int .i64 0, .string ⟨frm.toArray⟩, .string ⟨to.toArray⟩, .bool o, .slice A n c] 29)).alloc (.cells #[.int .i64 0, .int .i64 0, .int .i64 0, .string ⟨#[]⟩, .string ⟨#[]⟩, .bool false, .slice none 0 0] 29)) := Tch.of_below hgr.below
 have hdel := deleteV_own (BoxT w.heap.size frm to o) 68 #[.pointer (some ⟨w.heap.size, 0, none⟩)] (outT frm to o) (predT_at w.heap.size frm to o) eg HN.out hm ho2 hbN (boxT_tch hA0)
 clear ho ho2 hbN eg
 go_enter Try.func52, Try.ntmps52
 go_wp2_with fail
 generalize hw2 : ((w.alloc (.cells #[.int .i64 2, .int .i64 0, .int .i64 0, .string ⟨frm.toArray⟩, .string ⟨to.toArray⟩, .bool o, .slice A n c] 29)).alloc (.cells #[.int .i64 0, .int .i64 0, .int .i64 0, .string ⟨#[]⟩, .string ⟨#[]⟩, .bool false, .slice none 0 0] 29)) = w2 at *
 clear hw2
 refine hdel.mono ?_
 rintro e w3 ⟨n3, rfl, hl3, hn3, ho3, ht3⟩
 clear hdel
 have HTN := Lib.hid (TT.start hl hr (outT frm to o) (fun _ => rfl))
 have HB3 := Lib.hid (hB2.trans ht3)
 have HX3 := Lib.hid (ht3.blk hbx hA0)
 have HY3 := Lib.hid (ht3.blk hrs fun a ha => Nat.lt_succ_of_lt (hA0 a ha))
 have HR3 := Lib.hid (Gives.rd ho3)
 have HL3 := Lib.hid hl3
 have HA0 := Lib.hid hA0
 have hc3 : n3 <= c := by
  obtain ⟨_, _, e, h, _⟩ := OwnK.rd ho3
  injection e with e1 e2 e3
  omega
 clear hl hr hgr hbx hrs hA0 hB2 ho3 ht3 hl3
 generalize (l.filter fun v => !outT frm to o v) = m3 at *
 generalize hG : w.heap.size = G at *
 have HG := Lib.hid hG
 clear hG hsz
 go_wp2_with fail
 go_loopg [3] n3 (fun gg s3 wr => ∃ (m : List Val) (a : Nat) (f : List UInt8) (A' : Option Addr) (k c' : Nat), s3 = .slice A' k c' /\ k <= c' /\ k <= n3 /\ k <= gg /\ Hid (zs frm a = f) /\ Hid (m.length = k) /\ Hid (TT frm to o l a 0 to m) /\ Hid (RdW wr A' m) /\ Hid (∀ a, A' = some a -> a.block < G) /\ Hid (Blk wr G 29 #[.int .i64 2, .int .i64 0, .int .i64 0, .string ⟨f.toArray⟩, .string ⟨to.toArray⟩, .bool o, .slice A n c]) /\ Hid (Blk wr (G + 1) 29 #[.int .i64 0, .int .i64 0, .int .i64 0, .string ⟨#[]⟩, .string ⟨#[]⟩, .bool false, .slice none 0 0]) /\ Hid (Tch A w wr))
 case atStart => exact ⟨m3, 0, frm, A, n3, c, rfl, hc3, Nat.le_refl _, Nat.le_refl _, zs_zero frm, HL3, HTN, HR3, HA0, HX3, HY3, HB3⟩
 case round =>
  obtain ⟨m, a, f, A', k, c', rfl, hkc, hkn, hkg, HF, HML, HT, HR, HA, HX, HY, HB⟩ := hrel
  clear HTN HB3 HX3 HY3 HR3 HL3 HA0
  have hltX := HX.out.lt
  have hltY := HY.out.lt
  have hne1 : ¬ G = G + 1 := by omega
  have hne2 : ¬ G + 1 = G := by omega
  have hfl : f.length <= 33 := by
   have := (moved_short (fun v hv => (HLL.out v hv).2.2) HFS.out HT.out.ga).len
   rw [HF.out] at this
   exact this
  have X3 := fun n os => cell_grown (w := wr) (a := ⟨G, 3, none⟩) hltX (HX.out.cell 3) n os
  have X4 := fun n os => cell_grown (w := wr) (a := ⟨G, 4, none⟩) hltX (HX.out.cell 4) n os
  have X5 := fun n os => cell_grown (w := wr) (a := ⟨G, 5, none⟩) hltX (HX.out.cell 5) n os
  simp at X3 X4 X5
  by_cases hk0 : k = 0
  ·have HXO : Hid (∀ h0 : 0 < m.length, m[0].t ≠ zs frm a) := fun h0 => by have := HML.out; omega
   have w5 : decide (0 < k) = false := decide_eq_false (by omega)
   clear hk0
   go_wp2_with fail
   (refine hq_region mixedT (by kernel_rfl) ?_; (repeat (refine hq_step (fun K hK => ?_); go_simp; first | (refine hK _ ?_; clear hK K) | (apply Exists.intro; refine ⟨fun _ => ?_, hK _ ?_⟩; (fail); clear hK K))); refine hq_nil ?_; intro _ hw'; obtain ⟨⟨nq, osq⟩, hw''⟩ := hw'; subst hw'')
   have hgq : Grown wr (grow (wr.drewN nq) osq) := ⟨nq, osq, rfl⟩
   generalize grow (wr.drewN nq) osq = wq at *
   have HR1 := Lib.hid (HR.out.below hgq.below)
   have HX1 := Lib.hid (Blk.below HX.out hgq.below HX.out.lt)
   have HY1 := Lib.hid (Blk.below HY.out hgq.below HY.out.lt)
   have HB1 := Lib.hid (HB.out.trans (Tch.of_below hgq.below))
   clear HR HX HY HB hgq X3 X4 X5 hltX hltY w5
   have hltX := HX1.out.lt
   have hltY := HY1.out.lt
   obtain ⟨x0, x1, x2, x3, x4, x5, x6, p0, p1, p2, p3, p4, p5, p6⟩ := blk7 HX1.out
   obtain ⟨y0, y1, y2, y3, y4, y5, y6, q0, q1, q2, q3, q4, q5, q6⟩ := blk7 HY1.out
   cases o with
   | true =>
    have HLO : Hid ((⟨2, 0, zs frm a⟩ : Val) ∉ l) := HT.out.low_out (.inl rfl) HXO.out
    have hto := HOT.out rfl
    subst hto
    go_wp2_with fail
    clear x0 x1 x2 x3 x4 x5 x6 p0 p1 p2 p3 p4 p5 p6 y0 y1 y2 y3 y4 y5 y6 q0 q1 q2 q3 q4 q5 q6
    go_loopg [3] 0 (fun gg s3 wr => s3 = .slice (A') k c' /\ Hid (RdW wr (A') m) /\ Hid (Blk wr G 29 #[.int .i64 2, .int .i64 0, .int .i64 0, .string ⟨f.toArray⟩, .string ⟨([] : List UInt8).toArray⟩, .bool true, .slice A n c]) /\ Hid (Blk wr (G + 1) 29 #[.int .i64 0, .int .i64 0, .int .i64 0, .string ⟨#[]⟩, .string ⟨#[]⟩, .bool false, .slice none 0 0]) /\ Hid (Tch A w wr))
    case atStart => exact ⟨rfl, HR1, HX1, HY1, HB1⟩
    case round =>
     obtain ⟨rfl, HR, HX, HY, HB⟩ := hrel
     clear HR1 HX1 HY1 HB1
     have hltX := HX.out.lt
     have hltY := HY.out.lt
     have X3 := fun n os => cell_grown (w := wr) (a := ⟨G, 3, none⟩) hltX (HX.out.cell 3) n os
     have X4 := fun n os => cell_grown (w := wr) (a := ⟨G, 4, none⟩) hltX (HX.out.cell 4) n os
     have X5 := fun n os => cell_grown (w := wr) (a := ⟨G, 5, none⟩) hltX (HX.out.cell 5) n os
     simp at X3 X4 X5
     go_wp2_with fail
     (refine hq_region mixedT (by kernel_rfl) ?_; (repeat (refine hq_step (fun K hK => ?_); go_simp; first | (refine hK _ ?_; clear hK K) | (apply Exists.intro; refine ⟨fun _ => ?_, hK _ ?_⟩; (fail); clear hK K))); refine hq_nil ?_; intro _ hw'; obtain ⟨⟨nq, osq⟩, hw''⟩ := hw'; subst hw'')
     have hgq : Grown wr (grow (wr.drewN nq) osq) := ⟨nq, osq, rfl⟩
     generalize grow (wr.drewN nq) osq = wq at *
     have HR1 := Lib.hid (HR.out.below hgq.below)
     have HX1 := Lib.hid (Blk.below HX.out hgq.below HX.out.lt)
     have HY1 := Lib.hid (Blk.below HY.out hgq.below HY.out.lt)
     have HB1 := Lib.hid (HB.out.trans (Tch.of_below hgq.below))
     clear HR HX HY HB hgq X3 X4 X5 hltX hltY
     have hltX := HX1.out.lt
     have hltY := HY1.out.lt
     obtain ⟨x0, x1, x2, x3, x4, x5, x6, p0, p1, p2, p3, p4, p5, p6⟩ := blk7 HX1.out
     obtain ⟨y0, y1, y2, y3, y4, y5, y6, q0, q1, q2, q3, q4, q5, q6⟩ := blk7 HY1.out
     go_wp2_with fail
     refine bodyPost_ret (v := spF 2 0 0 f [] true (A') k c') (by simp [results, Try.results52, go_sem, y0, y1, y2, y3, y4, y5, y6]) rfl ?_
     refine ⟨⟨2, 0, 0, f, [], true, m⟩, A', k, c', rfl, HML.out, by omega, RdK.put7 (RdK.set_ HR1.out HA.out 6 _) (fun a ha => Nat.lt_succ_of_lt (HA.out a ha)) _ _ _ _ _ _ _, tch_put7 (tch_set HB1.out (Nat.le_of_eq HG.out)) (by have := HG.out; omega) _ _ _ _ _ _ _, ?_⟩
     rw [<- HF.out]
     exact HT.out.done HFS.out (fun _ => rfl) (fun h => by simp at h) HLO.out
   | false =>
    have HTS2 : Hid (Short to) := HTS.out rfl
    clear HTS HOT
    cases hlt : bytesLess f to with
    | false =>
     have HNO : Hid (IsTexts frm to false l none_) := HT.out.none_ (by rw [HF.out]; exact hlt)
     go_wp2_with fail
     refine bodyPost_ret (v := spF 0 0 0 [] [] false none 0 0) (by simp [results, Try.results52, go_sem, y0, y1, y2, y3, y4, y5, y6]) rfl ?_
     exact ⟨none_, none, 0, 0, rfl, rfl, Nat.zero_le _, .inl rfl, tch_put7 HB1.out (by have := HG.out; omega) _ _ _ _ _ _ _, HNO.out⟩
    | true =>
     have HLO : Hid ((⟨2, 0, zs frm a⟩ : Val) ∉ l) := HT.out.low_out (.inr (by rw [HF.out]; exact hlt)) HXO.out
     have HLT : Hid (bytesLess (zs frm a) to = true) := by show _ = _; rw [HF.out]; exact hlt
     go_wp2_with fail
     clear hlt x0 x1 x2 x3 x4 x5 x6 p0 p1 p2 p3 p4 p5 p6 y0 y1 y2 y3 y4 y5 y6 q0 q1 q2 q3 q4 q5 q6
     go_loopg [3] k (fun gg s3 wr => ∃ (m : List Val) (b : Nat) (e : List UInt8) (A' : Option Addr) (k' : Nat), s3 = .slice A' k' c' /\ k' <= c' /\ k' <= n3 /\ k' <= gg /\ Hid (m.length = k') /\ Hid (TT frm to false l a b e m) /\ Hid (bytesLess (zs frm a) e = true) /\ Hid (RdW wr A' m) /\ Hid (∀ a, A' = some a -> a.block < G) /\ Hid (Blk wr G 29 #[.int .i64 2, .int .i64 0, .int .i64 0, .string ⟨f.toArray⟩, .string ⟨e.toArray⟩, .bool false, .slice A n c]) /\ Hid (Blk wr (G + 1) 29 #[.int .i64 0, .int .i64 0, .int .i64 0, .string ⟨#[]⟩, .string ⟨#[]⟩, .bool false, .slice none 0 0]) /\ Hid (Tch A w wr))
     case atStart => exact ⟨m, 0, to, A', k, rfl, hkc, hkn, Nat.le_refl _, HML, HT, HLT, HR1, HA, HX1, HY1, HB1⟩
     case round =>
      obtain ⟨m, b, e, A', k, rfl, hkc, hkn, hkg, HML, HT, HLT2, HR, HA, HX, HY, HB⟩ := hrel
      clear HR1 HX1 HY1 HB1
      have hltX := HX.out.lt
      have hltY := HY.out.lt
      have X3 := fun n os => cell_grown (w := wr) (a := ⟨G, 3, none⟩) hltX (HX.out.cell 3) n os
      have X4 := fun n os => cell_grown (w := wr) (a := ⟨G, 4, none⟩) hltX (HX.out.cell 4) n os
      have X5 := fun n os => cell_grown (w := wr) (a := ⟨G, 5, none⟩) hltX (HX.out.cell 5) n os
      simp at X3 X4 X5
      by_cases hk0 : k = 0
      ·have HEO : Hid (∀ u, e = u ++ [0] -> (⟨2, 0, u⟩ : Val) ∉ l) := HT.out.end_out HLT2.out fun h0 => by have := HML.out; omega
       have w5 : decide (0 < k) = false := decide_eq_false (by omega)
       clear hk0
       go_wp2_with fail
       (refine hq_region mixedT (by kernel_rfl) ?_; (repeat (refine hq_step (fun K hK => ?_); go_simp; first | (refine hK _ ?_; clear hK K) | (apply Exists.intro; refine ⟨fun _ => ?_, hK _ ?_⟩; (fail); clear hK K))); refine hq_nil ?_; intro _ hw'; obtain ⟨⟨nq, osq⟩, hw''⟩ := hw'; subst hw'')
       have hgq : Grown wr (grow (wr.drewN nq) osq) := ⟨nq, osq, rfl⟩
       generalize grow (wr.drewN nq) osq = wq at *
       have HR1 := Lib.hid (HR.out.below hgq.below)
       have HX1 := Lib.hid (Blk.below HX.out hgq.below HX.out.lt)
       have HY1 := Lib.hid (Blk.below HY.out hgq.below HY.out.lt)
       have HB1 := Lib.hid (HB.out.trans (Tch.of_below hgq.below))
       clear HR HX HY HB hgq X3 X4 X5 hltX hltY w5
       have hltX := HX1.out.lt
       have hltY := HY1.out.lt
       obtain ⟨x0, x1, x2, x3, x4, x5, x6, p0, p1, p2, p3, p4, p5, p6⟩ := blk7 HX1.out
       obtain ⟨y0, y1, y2, y3, y4, y5, y6, q0, q1, q2, q3, q4, q5, q6⟩ := blk7 HY1.out
       go_wp2_with fail
       refine bodyPost_ret (v := spF 2 0 0 f e false (A') k c') (by simp [results, Try.results52, go_sem, y0, y1, y2, y3, y4, y5, y6]) rfl ?_
       refine ⟨⟨2, 0, 0, f, e, false, m⟩, A', k, c', rfl, HML.out, by omega, RdK.put7 (RdK.set_ HR1.out HA.out 6 _) (fun a ha => Nat.lt_succ_of_lt (HA.out a ha)) _ _ _ _ _ _ _, tch_put7 (tch_set HB1.out (Nat.le_of_eq HG.out)) (by have := HG.out; omega) _ _ _ _ _ _ _, ?_⟩
       rw [<- HF.out]
       exact HT.out.done HFS.out (fun h => by simp at h) (fun _ => ⟨HTS2.out, HLT2.out, HEO.out⟩) HLO.out
      ·have hk1 : k - 1 < m.length := by rw [HML.out]; omega
       obtain ⟨g, off, rfl, hg, c0, c1, c2⟩ := RdW.at3 HR.out hk1
       have hgG : g < G := HA.out _ rfl
       have hne3 : ¬ g = G := by omega
       have hxm : m[k - 1] ∈ l := ((HT.out.mem _).1 (List.getElem_mem hk1)).1
       have hxl := (HLL.out _ hxm).2.2
       obtain ⟨x, hx⟩ : ∃ x, m[k - 1] = x := ⟨_, rfl⟩
       have HXX := Lib.hid hx
       rw [hx] at c0 c1 c2 hxl
       clear hx hxm
       obtain ⟨xk, xi, xt⟩ := x
       have hxl2 : xt.length <= 32 := hxl
       clear hxl
       have hadd := ba_app0 xt
       have wa : ¬ 9223372036854775807 < xt.length + 1 := by omega
       have wb : xt.length + 1 <= 9223372036854775807 := by omega
       have C2 := fun n os => cell_grown (w := wr) (a := ⟨g, off + (k - 1) * 3 + 2, none⟩) hg c2 n os
       clear c0 c1 c2
       have w1 : IntKind.i64.wrap ((k : Int) - 1) = (k : Int) - 1 := by rw [IntKind.wrap_i64]; omega
       have w2' : (0 : Int) <= (k : Int) - 1 := by omega
       have w3' : (k : Int) - 1 < (k : Int) := by omega
       have w4 : ((k : Int) - 1).toNat = k - 1 := by omega
       have w7 : (1 : Int) <= (k : Int) := by omega
       have w8 : 0 < k := by omega
       have w5 : decide (0 < k) = true := decide_eq_true (by omega)
       have hlast : ∀ h0 : 0 < m.length, m[m.length - 1] = ⟨xk, xi, xt⟩ := fun h0 => by
        have e : m.length - 1 = k - 1 := by rw [HML.out]
        simp only [e]
        exact HXX.out
       have HLA := Lib.hid hlast
       clear hlast
       by_cases hxe : xt ++ [0] = e
       ·have HT2 : Hid (TT frm to false l a (b + 1) xt (m.take (k - 1))) := by
         have h0 : 0 < m.length := by omega
         have := HT.out.down h0 (by rw [HLA.out h0]; exact hxe)
         rw [HLA.out h0, HML.out] at this
         exact this
        have HLT3 : Hid (bytesLess (zs frm a) xt = true) := by
         have h0 : 0 < m.length := by omega
         have := HT.out.lt_down HLO.out h0
         rw [HLA.out h0] at this
         exact this
        subst hxe
        go_wp2_with fail
        (refine hq_region mixedT (by kernel_rfl) ?_; (repeat (refine hq_step (fun K hK => ?_); go_simp; first | (refine hK _ ?_; clear hK K) | (apply Exists.intro; refine ⟨fun _ => ?_, hK _ ?_⟩; (fail); clear hK K))); refine hq_nil ?_; intro _ hw'; obtain ⟨⟨nq, osq⟩, hw''⟩ := hw'; subst hw'')
        have hgq : Grown wr (grow (wr.drewN nq) osq) := ⟨nq, osq, rfl⟩
        generalize grow (wr.drewN nq) osq = wq at *
        have HR1 := Lib.hid (HR.out.below hgq.below)
        have HX1 := Lib.hid (Blk.below HX.out hgq.below HX.out.lt)
        have HY1 := Lib.hid (Blk.below HY.out hgq.below HY.out.lt)
        have HB1 := Lib.hid (HB.out.trans (Tch.of_below hgq.below))
        clear HR HX HY HB hgq X3 X4 X5 hltX hltY C2 w2' w3' w4 w5 w7 hadd wa wb
        have hltX := HX1.out.lt
        have hltY := HY1.out.lt
        obtain ⟨x0, x1, x2, x3, x4, x5, x6, p0, p1, p2, p3, p4, p5, p6⟩ := blk7 HX1.out
        obtain ⟨y0, y1, y2, y3, y4, y5, y6, q0, q1, q2, q3, q4, q5, q6⟩ := blk7 HY1.out
        have hc2 := (RdW.at3 HR1.out hk1)
        obtain ⟨g', off', e', hg', d0, d1, d2⟩ := hc2
        injection e' with e'
        injection e' with e1 e2
        subst e1; subst e2
        rw [HXX.out] at d0 d1 d2
        have w2' : (0 : Int) <= (k : Int) - 1 := by omega
        have w3' : (k : Int) - 1 < (k : Int) := by omega
        have w4 : ((k : Int) - 1).toNat = k - 1 := by omega
        have w7 : (1 : Int) <= (k : Int) := by omega
        have hhd : ∀ W, (Instr.slice 27 (.slice (some ⟨g, off, none⟩) k c') none (some (.int .i64 ((k : Int) - 1))) none).run Try.prog W = .ok (.slice (some ⟨g, off, none⟩) (k - 1) c') W := by
         intro W
         have := run_headW (some ⟨g, off, none⟩) k c' (k - 1) (by omega) hkc W
         rw [show ((k - 1 : Nat) : Int) = (k : Int) - 1 by omega] at this
         exact this
        go_wp2_with fail
        go_roundg (k - 1)
        case measure => omega
        case rel => exact ⟨m.take (k - 1), b + 1, xt, some ⟨g, off, none⟩, k - 1, rfl, by omega, by omega, Nat.le_refl _, by show _ = _; simp [HML.out], HT2, HLT3, RdK.set_ (RdK.take HR1.out _) HA.out _ _, HA, by show Blk _ _ _ _; simpa using Blk.put HX1.out 4 (.string ⟨xt.toArray⟩), Blk.far HY1.out (by show G + 1 ≠ G; omega) _, tch_set HB1.out (Nat.le_of_eq HG.out)⟩
       ·have HEO : Hid (∀ u, e = u ++ [0] -> (⟨2, 0, u⟩ : Val) ∉ l) := HT.out.end_out HLT2.out fun h0 => by rw [HLA.out h0]; exact hxe
        have w6 : (xt ++ [0] == e) = false := beq_eq_false_iff_ne.2 hxe
        go_wp2_with fail
        (refine hq_region mixedT (by kernel_rfl) ?_; (repeat (refine hq_step (fun K hK => ?_); go_simp; first | (refine hK _ ?_; clear hK K) | (apply Exists.intro; refine ⟨fun _ => ?_, hK _ ?_⟩; (fail); clear hK K))); refine hq_nil ?_; intro _ hw'; obtain ⟨⟨nq, osq⟩, hw''⟩ := hw'; subst hw'')
        have hgq : Grown wr (grow (wr.drewN nq) osq) := ⟨nq, osq, rfl⟩
        generalize grow (wr.drewN nq) osq = wq at *
        have HR1 := Lib.hid (HR.out.below hgq.below)
        have HX1 := Lib.hid (Blk.below HX.out hgq.below HX.out.lt)
        have HY1 := Lib.hid (Blk.below HY.out hgq.below HY.out.lt)
        have HB1 := Lib.hid (HB.out.trans (Tch.of_below hgq.below))
        clear HR HX HY HB hgq X3 X4 X5 hltX hltY C2 w1 w2' w3' w4 w5 w6 w7 w8 hadd wa wb
        have hltX := HX1.out.lt
        have hltY := HY1.out.lt
        obtain ⟨x0, x1, x2, x3, x4, x5, x6, p0, p1, p2, p3, p4, p5, p6⟩ := blk7 HX1.out
        obtain ⟨y0, y1, y2, y3, y4, y5, y6, q0, q1, q2, q3, q4, q5, q6⟩ := blk7 HY1.out
        go_wp2_with fail
        refine bodyPost_ret (v := spF 2 0 0 f e false (some ⟨g, off, none⟩) k c') (by simp [results, Try.results52, go_sem, y0, y1, y2, y3, y4, y5, y6]) rfl ?_
        refine ⟨⟨2, 0, 0, f, e, false, m⟩, some ⟨g, off, none⟩, k, c', rfl, HML.out, by omega, RdK.put7 (RdK.set_ HR1.out HA.out 6 _) (fun a ha => Nat.lt_succ_of_lt (HA.out a ha)) _ _ _ _ _ _ _, tch_put7 (tch_set HB1.out (Nat.le_of_eq HG.out)) (by have := HG.out; omega) _ _ _ _ _ _ _, ?_⟩
        rw [<- HF.out]
        exact HT.out.done HFS.out (fun h => by simp at h) (fun _ => ⟨HTS2.out, HLT2.out, HEO.out⟩) HLO.out
  ·have h0 : 0 < m.length := by rw [HML.out]; omega
   obtain ⟨g, off, rfl, hg, c0, c1, c2⟩ := RdW.at3 HR.out h0
   have hgG : g < G := HA.out _ rfl
   have hne3 : ¬ g = G := by omega
   obtain ⟨x, hx⟩ : ∃ x, m[0] = x := ⟨_, rfl⟩
   have HXX := Lib.hid hx
   rw [hx] at c0 c1 c2
   clear hx
   obtain ⟨xk, xi, xt⟩ := x
   rw [Nat.zero_mul, Nat.add_zero] at c2
   have C2 := fun n os => cell_grown (w := wr) (a := ⟨g, off + 2, none⟩) hg c2 n os
   clear c0 c1 c2
   have w5 : decide (0 < k) = true := decide_eq_true (by omega)
   have w6 : (0 : Int) < (k : Int) := by omega
   have w9 : 0 < k := by omega
   by_cases hxi : xt = f
   ·subst hxi
    have HT2 : Hid (TT frm to o l (a + 1) 0 to (m.drop 1)) := HT.out.up h0 (by rw [HXX.out, HF.out])
    have HF2 : Hid (zs frm (a + 1) = xt ++ [0]) := by show _ = _; rw [zs_succ, HF.out]
    have hadd := ba_app0 xt
    go_wp2_with fail
    (refine hq_region mixedT (by kernel_rfl) ?_; (repeat (refine hq_step (fun K hK => ?_); go_simp; first | (refine hK _ ?_; clear hK K) | (apply Exists.intro; refine ⟨fun _ => ?_, hK _ ?_⟩; (fail); clear hK K))); refine hq_nil ?_; intro _ hw'; obtain ⟨⟨nq, osq⟩, hw''⟩ := hw'; subst hw'')
    have hgq : Grown wr (grow (wr.drewN nq) osq) := ⟨nq, osq, rfl⟩
    generalize grow (wr.drewN nq) osq = wq at *
    have HR1 := Lib.hid (HR.out.below hgq.below)
    have HX1 := Lib.hid (Blk.below HX.out hgq.below HX.out.lt)
    have HY1 := Lib.hid (Blk.below HY.out hgq.below HY.out.lt)
    have HB1 := Lib.hid (HB.out.trans (Tch.of_below hgq.below))
    clear HR HX HY HB hgq X3 X4 X5 hltX hltY C2 w5 w6 w9
    have hltX := HX1.out.lt
    have hltY := HY1.out.lt
    obtain ⟨x0, x1, x2, x3, x4, x5, x6, p0, p1, p2, p3, p4, p5, p6⟩ := blk7 HX1.out
    obtain ⟨y0, y1, y2, y3, y4, y5, y6, q0, q1, q2, q3, q4, q5, q6⟩ := blk7 HY1.out
    obtain ⟨B', hcut, hrc, hBB⟩ := run_cutB HR1.out HA.out HML.out (by omega) hkc
    have HRC := Lib.hid hrc
    have HBB := Lib.hid hBB
    clear hrc hBB
    go_wp2_with fail
    go_roundg (k - 1)
    case measure => omega
    case rel => exact ⟨m.drop 1, a + 1, xt ++ [0], B', k - 1, c' - 1, rfl, by omega, by omega, Nat.le_refl _, HF2, by show _ = _; simp [HML.out], HT2, RdK.set_ HRC.out HBB.out _ _, HBB, by show Blk _ _ _ _; simpa using Blk.put HX1.out 3 (.string ⟨(xt ++ [0]).toArray⟩), Blk.far HY1.out (by show G + 1 ≠ G; omega) _, tch_set HB1.out (Nat.le_of_eq HG.out)⟩
   ·have HXO : Hid (∀ h0 : 0 < m.length, m[0].t ≠ zs frm a) := fun h0 => by rw [HXX.out, HF.out]; exact hxi
    have w7 : (xt == f) = false := beq_eq_false_iff_ne.2 hxi
    go_wp2_with fail
    (refine hq_region mixedT (by kernel_rfl) ?_; (repeat (refine hq_step (fun K hK => ?_); go_simp; first | (refine hK _ ?_; clear hK K) | (apply Exists.intro; refine ⟨fun _ => ?_, hK _ ?_⟩; (fail); clear hK K))); refine hq_nil ?_; intro _ hw'; obtain ⟨⟨nq, osq⟩, hw''⟩ := hw'; subst hw'')
    have hgq : Grown wr (grow (wr.drewN nq) osq) := ⟨nq, osq, rfl⟩
    generalize grow (wr.drewN nq) osq = wq at *
    have HR1 := Lib.hid (HR.out.below hgq.below)
    have HX1 := Lib.hid (Blk.below HX.out hgq.below HX.out.lt)
    have HY1 := Lib.hid (Blk.below HY.out hgq.below HY.out.lt)
    have HB1 := Lib.hid (HB.out.trans (Tch.of_below hgq.below))
    clear HR HX HY HB hgq X3 X4 X5 hltX hltY C2 w5 w6 w7 w9 hgG hg hne3 hxi HXX
    have hltX := HX1.out.lt
    have hltY := HY1.out.lt
    obtain ⟨x0, x1, x2, x3, x4, x5, x6, p0, p1, p2, p3, p4, p5, p6⟩ := blk7 HX1.out
    obtain ⟨y0, y1, y2, y3, y4, y5, y6, q0, q1, q2, q3, q4, q5, q6⟩ := blk7 HY1.out
    cases o with
    | true =>
     have HLO : Hid ((⟨2, 0, zs frm a⟩ : Val) ∉ l) := HT.out.low_out (.inl rfl) HXO.out
     have hto := HOT.out rfl
     subst hto
     go_wp2_with fail
     clear x0 x1 x2 x3 x4 x5 x6 p0 p1 p2 p3 p4 p5 p6 y0 y1 y2 y3 y4 y5 y6 q0 q1 q2 q3 q4 q5 q6
     go_loopg [3] 0 (fun gg s3 wr => s3 = .slice (some ⟨g, off, none⟩) k c' /\ Hid (RdW wr (some ⟨g, off, none⟩) m) /\ Hid (Blk wr G 29 #[.int .i64 2, .int .i64 0, .int .i64 0, .string ⟨f.toArray⟩, .string ⟨([] : List UInt8).toArray⟩, .bool true, .slice A n c]) /\ Hid (Blk wr (G + 1) 29 #[.int .i64 0, .int .i64 0, .int .i64 0, .string ⟨#[]⟩, .string ⟨#[]⟩, .bool false, .slice none 0 0]) /\ Hid (Tch A w wr))
     case atStart => exact ⟨rfl, HR1, HX1, HY1, HB1⟩
     case round =>
      obtain ⟨rfl, HR, HX, HY, HB⟩ := hrel
      clear HR1 HX1 HY1 HB1
      have hltX := HX.out.lt
      have hltY := HY.out.lt
      have X3 := fun n os => cell_grown (w := wr) (a := ⟨G, 3, none⟩) hltX (HX.out.cell 3) n os
      have X4 := fun n os => cell_grown (w := wr) (a := ⟨G, 4, none⟩) hltX (HX.out.cell 4) n os
      have X5 := fun n os => cell_grown (w := wr) (a := ⟨G, 5, none⟩) hltX (HX.out.cell 5) n os
      simp at X3 X4 X5
      go_wp2_with fail
      (refine hq_region mixedT (by kernel_rfl) ?_; (repeat (refine hq_step (fun K hK => ?_); go_simp; first | (refine hK _ ?_; clear hK K) | (apply Exists.intro; refine ⟨fun _ => ?_, hK _ ?_⟩; (fail); clear hK K))); refine hq_nil ?_; intro _ hw'; obtain ⟨⟨nq, osq⟩, hw''⟩ := hw'; subst hw'')
      have hgq : Grown wr (grow (wr.drewN nq) osq) := ⟨nq, osq, rfl⟩
      generalize grow (wr.drewN nq) osq = wq at *
      have HR1 := Lib.hid (HR.out.below hgq.below)
      have HX1 := Lib.hid (Blk.below HX.out hgq.below HX.out.lt)
      have HY1 := Lib.hid (Blk.below HY.out hgq.below HY.out.lt)
      have HB1 := Lib.hid (HB.out.trans (Tch.of_below hgq.below))
      clear HR HX HY HB hgq X3 X4 X5 hltX hltY
      have hltX := HX1.out.lt
      have hltY := HY1.out.lt
      obtain ⟨x0, x1, x2, x3, x4, x5, x6, p0, p1, p2, p3, p4, p5, p6⟩ := blk7 HX1.out
      obtain ⟨y0, y1, y2, y3, y4, y5, y6, q0, q1, q2, q3, q4, q5, q6⟩ := blk7 HY1.out
      go_wp2_with fail
      refine bodyPost_ret (v := spF 2 0 0 f [] true (some ⟨g, off, none⟩) k c') (by simp [results, Try.results52, go_sem, y0, y1, y2, y3, y4, y5, y6]) rfl ?_
      refine ⟨⟨2, 0, 0, f, [], true, m⟩, some ⟨g, off, none⟩, k, c', rfl, HML.out, by omega, RdK.put7 (RdK.set_ HR1.out HA.out 6 _) (fun a ha => Nat.lt_succ_of_lt (HA.out a ha)) _ _ _ _ _ _ _, tch_put7 (tch_set HB1.out (Nat.le_of_eq HG.out)) (by have := HG.out; omega) _ _ _ _ _ _ _, ?_⟩
      rw [<- HF.out]
      exact HT.out.done HFS.out (fun _ => rfl) (fun h => by simp at h) HLO.out
    | false =>
     have HTS2 : Hid (Short to) := HTS.out rfl
     clear HTS HOT
     cases hlt : bytesLess f to with
     | false =>
      have HNO : Hid (IsTexts frm to false l none_) := HT.out.none_ (by rw [HF.out]; exact hlt)
      go_wp2_with fail
      refine bodyPost_ret (v := spF 0 0 0 [] [] false none 0 0) (by simp [results, Try.results52, go_sem, y0, y1, y2, y3, y4, y5, y6]) rfl ?_
      exact ⟨none_, none, 0, 0, rfl, rfl, Nat.zero_le _, .inl rfl, tch_put7 HB1.out (by have := HG.out; omega) _ _ _ _ _ _ _, HNO.out⟩
     | true =>
      have HLO : Hid ((⟨2, 0, zs frm a⟩ : Val) ∉ l) := HT.out.low_out (.inr (by rw [HF.out]; exact hlt)) HXO.out
      have HLT : Hid (bytesLess (zs frm a) to = true) := by show _ = _; rw [HF.out]; exact hlt
      go_wp2_with fail
      clear hlt x0 x1 x2 x3 x4 x5 x6 p0 p1 p2 p3 p4 p5 p6 y0 y1 y2 y3 y4 y5 y6 q0 q1 q2 q3 q4 q5 q6
      go_loopg [3] k (fun gg s3 wr => ∃ (m : List Val) (b : Nat) (e : List UInt8) (A' : Option Addr) (k' : Nat), s3 = .slice A' k' c' /\ k' <= c' /\ k' <= n3 /\ k' <= gg /\ Hid (m.length = k') /\ Hid (TT frm to false l a b e m) /\ Hid (bytesLess (zs frm a) e = true) /\ Hid (RdW wr A' m) /\ Hid (∀ a, A' = some a -> a.block < G) /\ Hid (Blk wr G 29 #[.int .i64 2, .int .i64 0, .int .i64 0, .string ⟨f.toArray⟩, .string ⟨e.toArray⟩, .bool false, .slice A n c]) /\ Hid (Blk wr (G + 1) 29 #[.int .i64 0, .int .i64 0, .int .i64 0, .string ⟨#[]⟩, .string ⟨#[]⟩, .bool false, .slice none 0 0]) /\ Hid (Tch A w wr))
      case atStart => exact ⟨m, 0, to, some ⟨g, off, none⟩, k, rfl, hkc, hkn, Nat.le_refl _, HML, HT, HLT, HR1, HA, HX1, HY1, HB1⟩
      case round =>
       obtain ⟨m, b, e, A', k, rfl, hkc, hkn, hkg, HML, HT, HLT2, HR, HA, HX, HY, HB⟩ := hrel
       clear HR1 HX1 HY1 HB1
       have hltX := HX.out.lt
       have hltY := HY.out.lt
       have X3 := fun n os => cell_grown (w := wr) (a := ⟨G, 3, none⟩) hltX (HX.out.cell 3) n os
       have X4 := fun n os => cell_grown (w := wr) (a := ⟨G, 4, none⟩) hltX (HX.out.cell 4) n os
       have X5 := fun n os => cell_grown (w := wr) (a := ⟨G, 5, none⟩) hltX (HX.out.cell 5) n os
       simp at X3 X4 X5
       by_cases hk0 : k = 0
       ·have HEO : Hid (∀ u, e = u ++ [0] -> (⟨2, 0, u⟩ : Val) ∉ l) := HT.out.end_out HLT2.out fun h0 => by have := HML.out; omega
        have w5 : decide (0 < k) = false := decide_eq_false (by omega)
        clear hk0
        go_wp2_with fail
        (refine hq_region mixedT (by kernel_rfl) ?_; (repeat (refine hq_step (fun K hK => ?_); go_simp; first | (refine hK _ ?_; clear hK K) | (apply Exists.intro; refine ⟨fun _ => ?_, hK _ ?_⟩; (fail); clear hK K))); refine hq_nil ?_; intro _ hw'; obtain ⟨⟨nq, osq⟩, hw''⟩ := hw'; subst hw'')
        have hgq : Grown wr (grow (wr.drewN nq) osq) := ⟨nq, osq, rfl⟩
        generalize grow (wr.drewN nq) osq = wq at *
        have HR1 := Lib.hid (HR.out.below hgq.below)
        have HX1 := Lib.hid (Blk.below HX.out hgq.below HX.out.lt)
        have HY1 := Lib.hid (Blk.below HY.out hgq.below HY.out.lt)
        have HB1 := Lib.hid (HB.out.trans (Tch.of_below hgq.below))
        clear HR HX HY HB hgq X3 X4 X5 hltX hltY w5
        have hltX := HX1.out.lt
        have hltY := HY1.out.lt
        obtain ⟨x0, x1, x2, x3, x4, x5, x6, p0, p1, p2, p3, p4, p5, p6⟩ := blk7 HX1.out
        obtain ⟨y0, y1, y2, y3, y4, y5, y6, q0, q1, q2, q3, q4, q5, q6⟩ := blk7 HY1.out
        go_wp2_with fail
        refine bodyPost_ret (v := spF 2 0 0 f e false (A') k c') (by simp [results, Try.results52, go_sem, y0, y1, y2, y3, y4, y5, y6]) rfl ?_
        refine ⟨⟨2, 0, 0, f, e, false, m⟩, A', k, c', rfl, HML.out, by omega, RdK.put7 (RdK.set_ HR1.out HA.out 6 _) (fun a ha => Nat.lt_succ_of_lt (HA.out a ha)) _ _ _ _ _ _ _, tch_put7 (tch_set HB1.out (Nat.le_of_eq HG.out)) (by have := HG.out; omega) _ _ _ _ _ _ _, ?_⟩
        rw [<- HF.out]
        exact HT.out.done HFS.out (fun h => by simp at h) (fun _ => ⟨HTS2.out, HLT2.out, HEO.out⟩) HLO.out
       ·have hk1 : k - 1 < m.length := by rw [HML.out]; omega
        obtain ⟨g, off, rfl, hg, c0, c1, c2⟩ := RdW.at3 HR.out hk1
        have hgG : g < G := HA.out _ rfl
        have hne3 : ¬ g = G := by omega
        have hxm : m[k - 1] ∈ l := ((HT.out.mem _).1 (List.getElem_mem hk1)).1
        have hxl := (HLL.out _ hxm).2.2
        obtain ⟨x, hx⟩ : ∃ x, m[k - 1] = x := ⟨_, rfl⟩
        have HXX := Lib.hid hx
        rw [hx] at c0 c1 c2 hxl
        clear hx hxm
        obtain ⟨xk, xi, xt⟩ := x
        have hxl2 : xt.length <= 32 := hxl
        clear hxl
        have hadd := ba_app0 xt
        have wa : ¬ 9223372036854775807 < xt.length + 1 := by omega
        have wb : xt.length + 1 <= 9223372036854775807 := by omega
        have C2 := fun n os => cell_grown (w := wr) (a := ⟨g, off + (k - 1) * 3 + 2, none⟩) hg c2 n os
        clear c0 c1 c2
        have w1 : IntKind.i64.wrap ((k : Int) - 1) = (k : Int) - 1 := by rw [IntKind.wrap_i64]; omega
        have w2' : (0 : Int) <= (k : Int) - 1 := by omega
        have w3' : (k : Int) - 1 < (k : Int) := by omega
        have w4 : ((k : Int) - 1).toNat = k - 1 := by omega
        have w7 : (1 : Int) <= (k : Int) := by omega
        have w8 : 0 < k := by omega
        have w5 : decide (0 < k) = true := decide_eq_true (by omega)
        have hlast : ∀ h0 : 0 < m.length, m[m.length - 1] = ⟨xk, xi, xt⟩ := fun h0 => by
         have e : m.length - 1 = k - 1 := by rw [HML.out]
         simp only [e]
         exact HXX.out
        have HLA := Lib.hid hlast
        clear hlast
        by_cases hxe : xt ++ [0] = e
        ·have HT2 : Hid (TT frm to false l a (b + 1) xt (m.take (k - 1))) := by
          have h0 : 0 < m.length := by omega
          have := HT.out.down h0 (by rw [HLA.out h0]; exact hxe)
          rw [HLA.out h0, HML.out] at this
          exact this
         have HLT3 : Hid (bytesLess (zs frm a) xt = true) := by
          have h0 : 0 < m.length := by omega
          have := HT.out.lt_down HLO.out h0
          rw [HLA.out h0] at this
          exact this
         subst hxe
         go_wp2_with fail
         (refine hq_region mixedT (by kernel_rfl) ?_; (repeat (refine hq_step (fun K hK => ?_); go_simp; first | (refine hK _ ?_; clear hK K) | (apply Exists.intro; refine ⟨fun _ => ?_, hK _ ?_⟩; (fail); clear hK K))); refine hq_nil ?_; intro _ hw'; obtain ⟨⟨nq, osq⟩, hw''⟩ := hw'; subst hw'')
         have hgq : Grown wr (grow (wr.drewN nq) osq) := ⟨nq, osq, rfl⟩
         generalize grow (wr.drewN nq) osq = wq at *
         have HR1 := Lib.hid (HR.out.below hgq.below)
         have HX1 := Lib.hid (Blk.below HX.out hgq.below HX.out.lt)
         have HY1 := Lib.hid (Blk.below HY.out hgq.below HY.out.lt)
         have HB1 := Lib.hid (HB.out.trans (Tch.of_below hgq.below))
         clear HR HX HY HB hgq X3 X4 X5 hltX hltY C2 w2' w3' w4 w5 w7 hadd wa wb
         have hltX := HX1.out.lt
         have hltY := HY1.out.lt
         obtain ⟨x0, x1, x2, x3, x4, x5, x6, p0, p1, p2, p3, p4, p5, p6⟩ := blk7 HX1.out
         obtain ⟨y0, y1, y2, y3, y4, y5, y6, q0, q1, q2, q3, q4, q5, q6⟩ := blk7 HY1.out
         have hc2 := (RdW.at3 HR1.out hk1)
         obtain ⟨g', off', e', hg', d0, d1, d2⟩ := hc2
         injection e' with e'
         injection e' with e1 e2
         subst e1; subst e2
         rw [HXX.out] at d0 d1 d2
         have w2' : (0 : Int) <= (k : Int) - 1 := by omega
         have w3' : (k : Int) - 1 < (k : Int) := by omega
         have w4 : ((k : Int) - 1).toNat = k - 1 := by omega
         have w7 : (1 : Int) <= (k : Int) := by omega
         have hhd : ∀ W, (Instr.slice 27 (.slice (some ⟨g, off, none⟩) k c') none (some (.int .i64 ((k : Int) - 1))) none).run Try.prog W = .ok (.slice (some ⟨g, off, none⟩) (k - 1) c') W := by
          intro W
          have := run_headW (some ⟨g, off, none⟩) k c' (k - 1) (by omega) hkc W
          rw [show ((k - 1 : Nat) : Int) = (k : Int) - 1 by omega] at this
          exact this
         go_wp2_with fail
         go_roundg (k - 1)
         case measure => omega
         case rel => exact ⟨m.take (k - 1), b + 1, xt, some ⟨g, off, none⟩, k - 1, rfl, by omega, by omega, Nat.le_refl _, by show _ = _; simp [HML.out], HT2, HLT3, RdK.set_ (RdK.take HR1.out _) HA.out _ _, HA, by show Blk _ _ _ _; simpa using Blk.put HX1.out 4 (.string ⟨xt.toArray⟩), Blk.far HY1.out (by show G + 1 ≠ G; omega) _, tch_set HB1.out (Nat.le_of_eq HG.out)⟩
        ·have HEO : Hid (∀ u, e = u ++ [0] -> (⟨2, 0, u⟩ : Val) ∉ l) := HT.out.end_out HLT2.out fun h0 => by rw [HLA.out h0]; exact hxe
         have w6 : (xt ++ [0] == e) = false := beq_eq_false_iff_ne.2 hxe
         go_wp2_with fail
         (refine hq_region mixedT (by kernel_rfl) ?_; (repeat (refine hq_step (fun K hK => ?_); go_simp; first | (refine hK _ ?_; clear hK K) | (apply Exists.intro; refine ⟨fun _ => ?_, hK _ ?_⟩; (fail); clear hK K))); refine hq_nil ?_; intro _ hw'; obtain ⟨⟨nq, osq⟩, hw''⟩ := hw'; subst hw'')
         have hgq : Grown wr (grow (wr.drewN nq) osq) := ⟨nq, osq, rfl⟩
         generalize grow (wr.drewN nq) osq = wq at *
         have HR1 := Lib.hid (HR.out.below hgq.below)
         have HX1 := Lib.hid (Blk.below HX.out hgq.below HX.out.lt)
         have HY1 := Lib.hid (Blk.below HY.out hgq.below HY.out.lt)
         have HB1 := Lib.hid (HB.out.trans (Tch.of_below hgq.below))
         clear HR HX HY HB hgq X3 X4 X5 hltX hltY C2 w1 w2' w3' w4 w5 w6 w7 w8 hadd wa wb
         have hltX := HX1.out.lt
         have hltY := HY1.out.lt
         obtain ⟨x0, x1, x2, x3, x4, x5, x6, p0, p1, p2, p3, p4, p5, p6⟩ := blk7 HX1.out
         obtain ⟨y0, y1, y2, y3, y4, y5, y6, q0, q1, q2, q3, q4, q5, q6⟩ := blk7 HY1.out
         go_wp2_with fail
         refine bodyPost_ret (v := spF 2 0 0 f e false (some ⟨g, off, none⟩) k c') (by simp [results, Try.results52, go_sem, y0, y1, y2, y3, y4, y5, y6]) rfl ?_
         refine ⟨⟨2, 0, 0, f, e, false, m⟩, some ⟨g, off, none⟩, k, c', rfl, HML.out, by omega, RdK.put7 (RdK.set_ HR1.out HA.out 6 _) (fun a ha => Nat.lt_succ_of_lt (HA.out a ha)) _ _ _ _ _ _ _, tch_put7 (tch_set HB1.out (Nat.le_of_eq HG.out)) (by have := HG.out; omega) _ _ _ _ _ _ _, ?_⟩
         rw [<- HF.out]
         exact HT.out.done HFS.out (fun h => by simp at h) (fun _ => ⟨HTS2.out, HLT2.out, HEO.out⟩) HLO.out
end Go.Proofs.Ytoffnfooeojhnaa
namespace Go.Proofs.Ytoffnfooeojhnaa
open Go.RowKit Go.Sort Spans Op
/-- What trim tells: a span whose row is the call's own. -/
def TrimsO (P : Sp -> Prop) (base n : Nat) (w : World) (e : Ending) (w' : World) : Prop :=
 ∃ r A' n' c', e = .returned (spF r.kind r.lo r.hi r.frm r.to_ r.opn A' n' c') /\ r.no.length = n' /\ n' <= n /\ OwnW w' base (.slice A' n' c') r.no /\ Below base w w' /\ P r
theorem ints_congr {K lo hi : Int} {l l' : List Val} {r : Sp} (h : ∀ v, v ∈ l ↔ v ∈ l') (hh : IsInts K lo hi l r) : IsInts K lo hi l' r := ⟨hh.1, fun v hv => by rw [hh.2 v hv, h]⟩
theorem texts_congr {f t : List UInt8} {o : Bool} {l l' : List Val} {r : Sp} (h : ∀ v, v ∈ l ↔ v ∈ l') (hi : IsTexts f t o l r) : IsTexts f t o l' r := ⟨hi.1, fun v hv => by rw [hi.2 v hv, h]⟩
set_option maxRecDepth 100000 in
set_option maxHeartbeats 4000000 in
theorem trim1 (lo hi : Int) (A : Option Addr) (n c : Nat) (w : World) (base : Nat) (l : List Val) (hlow : lowest 1 <= lo) (hhigh : hi <= highest 1) (hl : ∀ v ∈ l, v.k = 1 /\ v.t = []) (hn : l.length = n) (hm : n <= 100000) (ho : OwnW w base (.slice A n c) l) (hbase : base <= w.heap.size) :
  Calls Try.prog 24 #[spF 1 lo hi [] [] false A n c] w (TrimsO (IsInts 1 lo hi l) base n w) := by
 have HN := Lib.hid hn
 have HLL := Lib.hid hl
 clear hn hl
 have hgr := gr2 w (.cells #[.int .i64 1, .int .i64 lo, .int .i64 hi, .string ⟨#[]⟩, .string ⟨#[]⟩, .bool false, .slice A n c] 29) (.cells #[.int .i64 0, .int .i64 0, .int .i64 0, .string ⟨#[]⟩, .string ⟨#[]⟩, .bool false, .slice none 0 0] 29)
 have hbx := (Blk.new w 29 #[.int .i64 1, .int .i64 lo, .int .i64 hi, .string ⟨#[]⟩, .string ⟨#[]⟩, .bool false, .slice A n c]).alloc (.cells #[.int .i64 0, .int .i64 0, .int .i64 0, .string ⟨#[]⟩, .string ⟨#[]⟩, .bool false, .slice none 0 0] 29)
 have hrs := Blk.new (w.alloc (.cells #[.int .i64 1, .int .i64 lo, .int .i64 hi, .string ⟨#[]⟩, .string ⟨#[]⟩, .bool false, .slice A n c] 29)) 29 #[.int .i64 0, .int .i64 0, .int .i64 0, .string ⟨#[]⟩, .string ⟨#[]⟩, .bool false, .slice none 0 0]
 rw [show (w.alloc (.cells #[.int .i64 1, .int .i64 lo, .int .i64 hi, .string ⟨#[]⟩, .string ⟨#[]⟩, .bool false, .slice A n c] 29)).heap.size = w.heap.size + 1 by simp] at hrs
 have hA0 := fun a ha => (own_addr ho a ha).2
 have hA1 := fun a ha => (own_addr ho a ha).1
 have ho2 := OwnK.below ho hgr.below
 have hsz : ((w.alloc (.cells #[.int .i64 1, .int .i64 lo, .int .i64 hi, .string ⟨#[]⟩, .string ⟨#[]⟩, .bool false, .slice A n c] 29)).alloc (.cells #[.int .i64 0, .int .i64 0, .int .i64 0, .string ⟨#[]⟩, .string ⟨#[]⟩, .bool false, .slice none 0 0] 29)).heap.size = w.heap.size + 2 := by simp
 have hB2 : Below base w ((w.alloc (.cells #[.int .i64 1, .int .i64 lo, .int .i64 hi, .string ⟨#[]⟩, .string ⟨#[]⟩, .bool false, .slice A n c] 29)).alloc (.cells #[.int .i64 0, .int .i64 0, .int .i64 0, .string ⟨#[]⟩, .string ⟨#[]⟩, .bool false, .slice none 0 0] 29)) := hgr.below.mono hbase
 clear ho hgr
 go_enter Try.func24, Try.ntmps24
 go_wp2_with fail
 generalize hw2 : ((w.alloc (.cells #[.int .i64 1, .int .i64 lo, .int .i64 hi, .string ⟨#[]⟩, .string ⟨#[]⟩, .bool false, .slice A n c] 29)).alloc (.cells #[.int .i64 0, .int .i64 0, .int .i64 0, .string ⟨#[]⟩, .string ⟨#[]⟩, .bool false, .slice none 0 0] 29)) = w2 at *
 clear hw2
 refine (sortV_own HN.out hm ho2).mono ?_
 rintro e w3 ⟨rfl, out, hp, hS, ho3, ht3⟩
 have hX3 := ht3.blk hbx hA0
 have hY3 := ht3.blk hrs fun a ha => Nat.lt_succ_of_lt (hA0 a ha)
 have hB3 := ht3.below hB2 (by omega) hA1
 have hs3 := ht3.size
 have HMEM : Hid (∀ v, v ∈ out ↔ v ∈ l) := fun v => hp.mem_iff
 have HN3 : Hid (out.length = n) := hp.length_eq.trans HN.out
 clear ho2 hbx hrs hB2 ht3 hp
 obtain ⟨x0, x1, x2, x3, x4, x5, x6, p0, p1, p2, p3, p4, p5, p6⟩ := blk7 hX3
 have hg3 : w.heap.size < w3.heap.size := by omega
 have hg4 : w.heap.size + 1 < w3.heap.size := by omega
 have HX3 := Lib.hid hX3
 have HY3 := Lib.hid hY3
 have HB3 := Lib.hid hB3
 clear hX3 hY3 hB3
 go_wp2_with fail
 refine (compactV_own HN3.out hm hS ho3).mono ?_
 rintro e w4 ⟨out2, n2, rfl, hl4, hn4, hR4, hm4, ho4, ht4⟩
 have hX4 := ht4.blk HX3.out hA0
 have hY4 := ht4.blk HY3.out fun a ha => Nat.lt_succ_of_lt (hA0 a ha)
 have hB4 := ht4.below HB3.out (by omega) hA1
 have hs4 := ht4.size
 have HMEM2 : Hid (∀ v, v ∈ out2 ↔ v ∈ l) := fun v => (hm4 v).trans (HMEM.out v)
 have HL4 := Lib.hid hl4
 clear x0 x1 x2 x3 x4 x5 x6 p0 p1 p2 p3 p4 p5 p6 HX3 HY3 HB3 ho3 ht4 hm4 hl4 hS HN3 HMEM hg3 hg4
 obtain ⟨x0, x1, x2, x3, x4, x5, x6, p0, p1, p2, p3, p4, p5, p6⟩ := blk7 hX4
 have hg3 : w.heap.size < w4.heap.size := by omega
 have hg4 : w.heap.size + 1 < w4.heap.size := by omega
 have hX5 : Blk (w4.setCell ⟨w.heap.size, 6, none⟩ (.slice A n2 c)) w.heap.size 29 #[.int .i64 1, .int .i64 lo, .int .i64 hi, .string ⟨#[]⟩, .string ⟨#[]⟩, .bool false, .slice A n2 c] := by simpa using Blk.put hX4 6 (.slice A n2 c)
 have hY5 : Blk (w4.setCell ⟨w.heap.size, 6, none⟩ (.slice A n2 c)) (w.heap.size + 1) 29 #[.int .i64 0, .int .i64 0, .int .i64 0, .string ⟨#[]⟩, .string ⟨#[]⟩, .bool false, .slice none 0 0] := Blk.far hY4 (by show w.heap.size + 1 ≠ w.heap.size; omega) _
 have hB5 : Below base w (w4.setCell ⟨w.heap.size, 6, none⟩ (.slice A n2 c)) := below_set hB4 hbase
 have ho5 : OwnW (w4.setCell ⟨w.heap.size, 6, none⟩ (.slice A n2 c)) base (.slice A n2 c) out2 := by
  rcases lies_of_own ho4 with ⟨e, hl⟩ | ⟨g, cap, sp, e, hb, hc, hcm, hl, hs⟩
  ·injection e with e1 e2 e3
   subst e1; subst e2; subst e3; subst hl
   exact OwnK.none_ _ _
  ·injection e with e1 e2 e3
   have hgA := hA0 _ e1
   rw [e1, e2, e3]
   exact own_of_lies (Blk.far hl (by show g ≠ w.heap.size; simp only at hgA; omega) _) hb hc hcm hs
 have HX5 := Lib.hid hX5
 have HY5 := Lib.hid hY5
 have HB5 := Lib.hid hB5
 have HO5 := Lib.hid ho5
 have hs5 : w.heap.size + 2 <= (w4.setCell ⟨w.heap.size, 6, none⟩ (.slice A n2 c)).heap.size := by simp; omega
 clear hX4 hY4 hB4 hX5 hY5 hB5 ho5 ho4
 go_wp2_with fail
 generalize w4.setCell ⟨w.heap.size, 6, none⟩ (.slice A n2 c) = w5 at *
 clear x0 x1 x2 x3 x4 x5 x6 p0 p1 p2 p3 p4 p5 p6 hg3 hg4 hs4
 refine (trimNum_at 1 lo hi A n2 c _ base out2 (by decide) hlow hhigh HL4.out (by omega) (fun v hv => HLL.out v ((HMEM2.out v).1 hv)) hR4 HO5.out).mono ?_
 rintro e w6 ⟨⟨rK, rlo, rhi, rf, rt, ro, rno⟩, A6, n6, c6, rfl, hl6, hn6, hr6, ht6, hP6⟩
 dsimp only at hl6 hr6
 have hX6 := ht6.blk HX5.out hA0
 have hY6 := ht6.blk HY5.out fun a ha => Nat.lt_succ_of_lt (hA0 a ha)
 have hB6 := ht6.below HB5.out (by omega) hA1
 have hs6 : w.heap.size + 2 <= w6.heap.size := Nat.le_trans hs5 ht6.size
 have HP6 := Lib.hid (ints_congr HMEM2.out hP6)
 have hcp : Calls Try.prog 21 #[spF rK rlo rhi rf rt ro A6 n6 c6] w6 (Gives w6 ⟨rK, rlo, rhi, rf, rt, ro, rno⟩) := copied_at rK rlo rhi rf rt ro A6 n6 c6 w6 rno hl6 (by omega) hr6
 clear HX5 HY5 HB5 HO5 ht6 hP6 hr6 HMEM2 HL4 hR4
 go_wp2_with fail
 refine hcp.mono ?_
 rintro e w7 ⟨A7, n7, c7, rfl, hl7, hc7, ho7, hb7⟩
 have HL7 := Lib.hid (hl7.symm.trans hl6)
 have HL8 := Lib.hid hl7
 have hY7 := Blk.below hY6 hb7 (by omega)
 have hB7 := below_next hB6 hbase hb7
 have hs7 := hb7.size
 obtain ⟨y0, y1, y2, y3, y4, y5, y6, q0, q1, q2, q3, q4, q5, q6⟩ := blk7 hY7
 have hg7 : w.heap.size + 1 < w7.heap.size := by omega
 clear hcp hX6 hY6 hB6 hb7 hY7 hl7 hl6
 dsimp only at ho7 HL7 HL8
 go_wp2_with fail
 refine bodyPost_ret (v := spF rK rlo rhi rf rt ro A7 n7 c7) (by simp [results, Try.results24, go_sem, y0, y1, y2, y3, y4, y5, y6]) rfl ?_
 refine ⟨⟨rK, rlo, rhi, rf, rt, ro, rno⟩, A7, n7, c7, rfl, HL8.out, ?_, (OwnK.put7 ho7 (by omega) _ _ _ _ _ _ _).less (by omega), below_put7 hB7 (by omega) _ _ _ _ _ _ _, HP6.out⟩
 have := HL7.out
 omega
set_option maxRecDepth 100000 in
set_option maxHeartbeats 4000000 in
theorem trim3 (lo hi : Int) (A : Option Addr) (n c : Nat) (w : World) (base : Nat) (l : List Val) (hlow : lowest 3 <= lo) (hhigh : hi <= highest 3) (hl : ∀ v ∈ l, v.k = 3 /\ v.t = []) (hn : l.length = n) (hm : n <= 100000) (ho : OwnW w base (.slice A n c) l) (hbase : base <= w.heap.size) :
  Calls Try.prog 24 #[spF 3 lo hi [] [] false A n c] w (TrimsO (IsInts 3 lo hi l) base n w) := by
 have HN := Lib.hid hn
 have HLL := Lib.hid hl
 clear hn hl
 have hgr := gr2 w (.cells #[.int .i64 3, .int .i64 lo, .int .i64 hi, .string ⟨#[]⟩, .string ⟨#[]⟩, .bool false, .slice A n c] 29) (.cells #[.int .i64 0, .int .i64 0, .int .i64 0, .string ⟨#[]⟩, .string ⟨#[]⟩, .bool false, .slice none 0 0] 29)
 have hbx := (Blk.new w 29 #[.int .i64 3, .int .i64 lo, .int .i64 hi, .string ⟨#[]⟩, .string ⟨#[]⟩, .bool false, .slice A n c]).alloc (.cells #[.int .i64 0, .int .i64 0, .int .i64 0, .string ⟨#[]⟩, .string ⟨#[]⟩, .bool false, .slice none 0 0] 29)
 have hrs := Blk.new (w.alloc (.cells #[.int .i64 3, .int .i64 lo, .int .i64 hi, .string ⟨#[]⟩, .string ⟨#[]⟩, .bool false, .slice A n c] 29)) 29 #[.int .i64 0, .int .i64 0, .int .i64 0, .string ⟨#[]⟩, .string ⟨#[]⟩, .bool false, .slice none 0 0]
 rw [show (w.alloc (.cells #[.int .i64 3, .int .i64 lo, .int .i64 hi, .string ⟨#[]⟩, .string ⟨#[]⟩, .bool false, .slice A n c] 29)).heap.size = w.heap.size + 1 by simp] at hrs
 have hA0 := fun a ha => (own_addr ho a ha).2
 have hA1 := fun a ha => (own_addr ho a ha).1
 have ho2 := OwnK.below ho hgr.below
 have hsz : ((w.alloc (.cells #[.int .i64 3, .int .i64 lo, .int .i64 hi, .string ⟨#[]⟩, .string ⟨#[]⟩, .bool false, .slice A n c] 29)).alloc (.cells #[.int .i64 0, .int .i64 0, .int .i64 0, .string ⟨#[]⟩, .string ⟨#[]⟩, .bool false, .slice none 0 0] 29)).heap.size = w.heap.size + 2 := by simp
 have hB2 : Below base w ((w.alloc (.cells #[.int .i64 3, .int .i64 lo, .int .i64 hi, .string ⟨#[]⟩, .string ⟨#[]⟩, .bool false, .slice A n c] 29)).alloc (.cells #[.int .i64 0, .int .i64 0, .int .i64 0, .string ⟨#[]⟩, .string ⟨#[]⟩, .bool false, .slice none 0 0] 29)) := hgr.below.mono hbase
 clear ho hgr
 go_enter Try.func24, Try.ntmps24
 go_wp2_with fail
 generalize hw2 : ((w.alloc (.cells #[.int .i64 3, .int .i64 lo, .int .i64 hi, .string ⟨#[]⟩, .string ⟨#[]⟩, .bool false, .slice A n c] 29)).alloc (.cells #[.int .i64 0, .int .i64 0, .int .i64 0, .string ⟨#[]⟩, .string ⟨#[]⟩, .bool false, .slice none 0 0] 29)) = w2 at *
 clear hw2
 refine (sortV_own HN.out hm ho2).mono ?_
 rintro e w3 ⟨rfl, out, hp, hS, ho3, ht3⟩
 have hX3 := ht3.blk hbx hA0
 have hY3 := ht3.blk hrs fun a ha => Nat.lt_succ_of_lt (hA0 a ha)
 have hB3 := ht3.below hB2 (by omega) hA1
 have hs3 := ht3.size
 have HMEM : Hid (∀ v, v ∈ out ↔ v ∈ l) := fun v => hp.mem_iff
 have HN3 : Hid (out.length = n) := hp.length_eq.trans HN.out
 clear ho2 hbx hrs hB2 ht3 hp
 obtain ⟨x0, x1, x2, x3, x4, x5, x6, p0, p1, p2, p3, p4, p5, p6⟩ := blk7 hX3
 have hg3 : w.heap.size < w3.heap.size := by omega
 have hg4 : w.heap.size + 1 < w3.heap.size := by omega
 have HX3 := Lib.hid hX3
 have HY3 := Lib.hid hY3
 have HB3 := Lib.hid hB3
 clear hX3 hY3 hB3
 go_wp2_with fail
 refine (compactV_own HN3.out hm hS ho3).mono ?_
 rintro e w4 ⟨out2, n2, rfl, hl4, hn4, hR4, hm4, ho4, ht4⟩
 have hX4 := ht4.blk HX3.out hA0
 have hY4 := ht4.blk HY3.out fun a ha => Nat.lt_succ_of_lt (hA0 a ha)
 have hB4 := ht4.below HB3.out (by omega) hA1
 have hs4 := ht4.size
 have HMEM2 : Hid (∀ v, v ∈ out2 ↔ v ∈ l) := fun v => (hm4 v).trans (HMEM.out v)
 have HL4 := Lib.hid hl4
 clear x0 x1 x2 x3 x4 x5 x6 p0 p1 p2 p3 p4 p5 p6 HX3 HY3 HB3 ho3 ht4 hm4 hl4 hS HN3 HMEM hg3 hg4
 obtain ⟨x0, x1, x2, x3, x4, x5, x6, p0, p1, p2, p3, p4, p5, p6⟩ := blk7 hX4
 have hg3 : w.heap.size < w4.heap.size := by omega
 have hg4 : w.heap.size + 1 < w4.heap.size := by omega
 have hX5 : Blk (w4.setCell ⟨w.heap.size, 6, none⟩ (.slice A n2 c)) w.heap.size 29 #[.int .i64 3, .int .i64 lo, .int .i64 hi, .string ⟨#[]⟩, .string ⟨#[]⟩, .bool false, .slice A n2 c] := by simpa using Blk.put hX4 6 (.slice A n2 c)
 have hY5 : Blk (w4.setCell ⟨w.heap.size, 6, none⟩ (.slice A n2 c)) (w.heap.size + 1) 29 #[.int .i64 0, .int .i64 0, .int .i64 0, .string ⟨#[]⟩, .string ⟨#[]⟩, .bool false, .slice none 0 0] := Blk.far hY4 (by show w.heap.size + 1 ≠ w.heap.size; omega) _
 have hB5 : Below base w (w4.setCell ⟨w.heap.size, 6, none⟩ (.slice A n2 c)) := below_set hB4 hbase
 have ho5 : OwnW (w4.setCell ⟨w.heap.size, 6, none⟩ (.slice A n2 c)) base (.slice A n2 c) out2 := by
  rcases lies_of_own ho4 with ⟨e, hl⟩ | ⟨g, cap, sp, e, hb, hc, hcm, hl, hs⟩
  ·injection e with e1 e2 e3
   subst e1; subst e2; subst e3; subst hl
   exact OwnK.none_ _ _
  ·injection e with e1 e2 e3
   have hgA := hA0 _ e1
   rw [e1, e2, e3]
   exact own_of_lies (Blk.far hl (by show g ≠ w.heap.size; simp only at hgA; omega) _) hb hc hcm hs
 have HX5 := Lib.hid hX5
 have HY5 := Lib.hid hY5
 have HB5 := Lib.hid hB5
 have HO5 := Lib.hid ho5
 have hs5 : w.heap.size + 2 <= (w4.setCell ⟨w.heap.size, 6, none⟩ (.slice A n2 c)).heap.size := by simp; omega
 clear hX4 hY4 hB4 hX5 hY5 hB5 ho5 ho4
 go_wp2_with fail
 generalize w4.setCell ⟨w.heap.size, 6, none⟩ (.slice A n2 c) = w5 at *
 clear x0 x1 x2 x3 x4 x5 x6 p0 p1 p2 p3 p4 p5 p6 hg3 hg4 hs4
 refine (trimNum_at 3 lo hi A n2 c _ base out2 (by decide) hlow hhigh HL4.out (by omega) (fun v hv => HLL.out v ((HMEM2.out v).1 hv)) hR4 HO5.out).mono ?_
 rintro e w6 ⟨⟨rK, rlo, rhi, rf, rt, ro, rno⟩, A6, n6, c6, rfl, hl6, hn6, hr6, ht6, hP6⟩
 dsimp only at hl6 hr6
 have hX6 := ht6.blk HX5.out hA0
 have hY6 := ht6.blk HY5.out fun a ha => Nat.lt_succ_of_lt (hA0 a ha)
 have hB6 := ht6.below HB5.out (by omega) hA1
 have hs6 : w.heap.size + 2 <= w6.heap.size := Nat.le_trans hs5 ht6.size
 have HP6 := Lib.hid (ints_congr HMEM2.out hP6)
 have hcp : Calls Try.prog 21 #[spF rK rlo rhi rf rt ro A6 n6 c6] w6 (Gives w6 ⟨rK, rlo, rhi, rf, rt, ro, rno⟩) := copied_at rK rlo rhi rf rt ro A6 n6 c6 w6 rno hl6 (by omega) hr6
 clear HX5 HY5 HB5 HO5 ht6 hP6 hr6 HMEM2 HL4 hR4
 go_wp2_with fail
 refine hcp.mono ?_
 rintro e w7 ⟨A7, n7, c7, rfl, hl7, hc7, ho7, hb7⟩
 have HL7 := Lib.hid (hl7.symm.trans hl6)
 have HL8 := Lib.hid hl7
 have hY7 := Blk.below hY6 hb7 (by omega)
 have hB7 := below_next hB6 hbase hb7
 have hs7 := hb7.size
 obtain ⟨y0, y1, y2, y3, y4, y5, y6, q0, q1, q2, q3, q4, q5, q6⟩ := blk7 hY7
 have hg7 : w.heap.size + 1 < w7.heap.size := by omega
 clear hcp hX6 hY6 hB6 hb7 hY7 hl7 hl6
 dsimp only at ho7 HL7 HL8
 go_wp2_with fail
 refine bodyPost_ret (v := spF rK rlo rhi rf rt ro A7 n7 c7) (by simp [results, Try.results24, go_sem, y0, y1, y2, y3, y4, y5, y6]) rfl ?_
 refine ⟨⟨rK, rlo, rhi, rf, rt, ro, rno⟩, A7, n7, c7, rfl, HL8.out, ?_, (OwnK.put7 ho7 (by omega) _ _ _ _ _ _ _).less (by omega), below_put7 hB7 (by omega) _ _ _ _ _ _ _, HP6.out⟩
 have := HL7.out
 omega
set_option maxRecDepth 100000 in
set_option maxHeartbeats 4000000 in
theorem trim2 (f t : List UInt8) (o : Bool) (A : Option Addr) (n c : Nat) (w : World) (base : Nat) (l : List Val) (hfs : Short f) (hot : o = true -> t = []) (hts : o = false -> Short t) (hl : ∀ v ∈ l, v.k = 2 /\ v.i = 0 /\ v.t.length <= 32) (hn : l.length = n) (hm : n <= 100000) (ho : OwnW w base (.slice A n c) l) (hbase : base <= w.heap.size) :
  Calls Try.prog 24 #[spF 2 0 0 f t o A n c] w (TrimsO (IsTexts f t o l) base n w) := by
 have HN := Lib.hid hn
 have HLL := Lib.hid hl
 clear hn hl
 have hgr := gr2 w (.cells #[.int .i64 2, .int .i64 0, .int .i64 0, .string ⟨f.toArray⟩, .string ⟨t.toArray⟩, .bool o, .slice A n c] 29) (.cells #[.int .i64 0, .int .i64 0, .int .i64 0, .string ⟨#[]⟩, .string ⟨#[]⟩, .bool false, .slice none 0 0] 29)
 have hbx := (Blk.new w 29 #[.int .i64 2, .int .i64 0, .int .i64 0, .string ⟨f.toArray⟩, .string ⟨t.toArray⟩, .bool o, .slice A n c]).alloc (.cells #[.int .i64 0, .int .i64 0, .int .i64 0, .string ⟨#[]⟩, .string ⟨#[]⟩, .bool false, .slice none 0 0] 29)
 have hrs := Blk.new (w.alloc (.cells #[.int .i64 2, .int .i64 0, .int .i64 0, .string ⟨f.toArray⟩, .string ⟨t.toArray⟩, .bool o, .slice A n c] 29)) 29 #[.int .i64 0, .int .i64 0, .int .i64 0, .string ⟨#[]⟩, .string ⟨#[]⟩, .bool false, .slice none 0 0]
 rw [show (w.alloc (.cells #[.int .i64 2, .int .i64 0, .int .i64 0, .string ⟨f.toArray⟩, .string ⟨t.toArray⟩, .bool o, .slice A n c] 29)).heap.size = w.heap.size + 1 by simp] at hrs
 have hA0 := fun a ha => (own_addr ho a ha).2
 have hA1 := fun a ha => (own_addr ho a ha).1
 have ho2 := OwnK.below ho hgr.below
 have hsz : ((w.alloc (.cells #[.int .i64 2, .int .i64 0, .int .i64 0, .string ⟨f.toArray⟩, .string ⟨t.toArray⟩, .bool o, .slice A n c] 29)).alloc (.cells #[.int .i64 0, .int .i64 0, .int .i64 0, .string ⟨#[]⟩, .string ⟨#[]⟩, .bool false, .slice none 0 0] 29)).heap.size = w.heap.size + 2 := by simp
 have hB2 : Below base w ((w.alloc (.cells #[.int .i64 2, .int .i64 0, .int .i64 0, .string ⟨f.toArray⟩, .string ⟨t.toArray⟩, .bool o, .slice A n c] 29)).alloc (.cells #[.int .i64 0, .int .i64 0, .int .i64 0, .string ⟨#[]⟩, .string ⟨#[]⟩, .bool false, .slice none 0 0] 29)) := hgr.below.mono hbase
 clear ho hgr
 go_enter Try.func24, Try.ntmps24
 go_wp2_with fail
 generalize hw2 : ((w.alloc (.cells #[.int .i64 2, .int .i64 0, .int .i64 0, .string ⟨f.toArray⟩, .string ⟨t.toArray⟩, .bool o, .slice A n c] 29)).alloc (.cells #[.int .i64 0, .int .i64 0, .int .i64 0, .string ⟨#[]⟩, .string ⟨#[]⟩, .bool false, .slice none 0 0] 29)) = w2 at *
 clear hw2
 refine (sortV_own HN.out hm ho2).mono ?_
 rintro e w3 ⟨rfl, out, hp, hS, ho3, ht3⟩
 have hX3 := ht3.blk hbx hA0
 have hY3 := ht3.blk hrs fun a ha => Nat.lt_succ_of_lt (hA0 a ha)
 have hB3 := ht3.below hB2 (by omega) hA1
 have hs3 := ht3.size
 have HMEM : Hid (∀ v, v ∈ out ↔ v ∈ l) := fun v => hp.mem_iff
 have HN3 : Hid (out.length = n) := hp.length_eq.trans HN.out
 clear ho2 hbx hrs hB2 ht3 hp
 obtain ⟨x0, x1, x2, x3, x4, x5, x6, p0, p1, p2, p3, p4, p5, p6⟩ := blk7 hX3
 have hg3 : w.heap.size < w3.heap.size := by omega
 have hg4 : w.heap.size + 1 < w3.heap.size := by omega
 have HX3 := Lib.hid hX3
 have HY3 := Lib.hid hY3
 have HB3 := Lib.hid hB3
 clear hX3 hY3 hB3
 go_wp2_with fail
 refine (compactV_own HN3.out hm hS ho3).mono ?_
 rintro e w4 ⟨out2, n2, rfl, hl4, hn4, hR4, hm4, ho4, ht4⟩
 have hX4 := ht4.blk HX3.out hA0
 have hY4 := ht4.blk HY3.out fun a ha => Nat.lt_succ_of_lt (hA0 a ha)
 have hB4 := ht4.below HB3.out (by omega) hA1
 have hs4 := ht4.size
 have HMEM2 : Hid (∀ v, v ∈ out2 ↔ v ∈ l) := fun v => (hm4 v).trans (HMEM.out v)
 have HL4 := Lib.hid hl4
 clear x0 x1 x2 x3 x4 x5 x6 p0 p1 p2 p3 p4 p5 p6 HX3 HY3 HB3 ho3 ht4 hm4 hl4 hS HN3 HMEM hg3 hg4
 obtain ⟨x0, x1, x2, x3, x4, x5, x6, p0, p1, p2, p3, p4, p5, p6⟩ := blk7 hX4
 have hg3 : w.heap.size < w4.heap.size := by omega
 have hg4 : w.heap.size + 1 < w4.heap.size := by omega
 have hX5 : Blk (w4.setCell ⟨w.heap.size, 6, none⟩ (.slice A n2 c)) w.heap.size 29 #[.int .i64 2, .int .i64 0, .int .i64 0, .string ⟨f.toArray⟩, .string ⟨t.toArray⟩, .bool o, .slice A n2 c] := by simpa using Blk.put hX4 6 (.slice A n2 c)
 have hY5 : Blk (w4.setCell ⟨w.heap.size, 6, none⟩ (.slice A n2 c)) (w.heap.size + 1) 29 #[.int .i64 0, .int .i64 0, .int .i64 0, .string ⟨#[]⟩, .string ⟨#[]⟩, .bool false, .slice none 0 0] := Blk.far hY4 (by show w.heap.size + 1 ≠ w.heap.size; omega) _
 have hB5 : Below base w (w4.setCell ⟨w.heap.size, 6, none⟩ (.slice A n2 c)) := below_set hB4 hbase
 have ho5 : OwnW (w4.setCell ⟨w.heap.size, 6, none⟩ (.slice A n2 c)) base (.slice A n2 c) out2 := by
  rcases lies_of_own ho4 with ⟨e, hl⟩ | ⟨g, cap, sp, e, hb, hc, hcm, hl, hs⟩
  ·injection e with e1 e2 e3
   subst e1; subst e2; subst e3; subst hl
   exact OwnK.none_ _ _
  ·injection e with e1 e2 e3
   have hgA := hA0 _ e1
   rw [e1, e2, e3]
   exact own_of_lies (Blk.far hl (by show g ≠ w.heap.size; simp only at hgA; omega) _) hb hc hcm hs
 have HX5 := Lib.hid hX5
 have HY5 := Lib.hid hY5
 have HB5 := Lib.hid hB5
 have HO5 := Lib.hid ho5
 have hs5 : w.heap.size + 2 <= (w4.setCell ⟨w.heap.size, 6, none⟩ (.slice A n2 c)).heap.size := by simp; omega
 clear hX4 hY4 hB4 hX5 hY5 hB5 ho5 ho4
 go_wp2_with fail
 generalize w4.setCell ⟨w.heap.size, 6, none⟩ (.slice A n2 c) = w5 at *
 clear x0 x1 x2 x3 x4 x5 x6 p0 p1 p2 p3 p4 p5 p6 hg3 hg4 hs4
 refine (trimText_at f t o A n2 c _ base out2 hfs hot hts HL4.out (by omega) (fun v hv => HLL.out v ((HMEM2.out v).1 hv)) hR4 HO5.out).mono ?_
 rintro e w6 ⟨⟨rK, rlo, rhi, rf, rt, ro, rno⟩, A6, n6, c6, rfl, hl6, hn6, hr6, ht6, hP6⟩
 dsimp only at hl6 hr6
 have hX6 := ht6.blk HX5.out hA0
 have hY6 := ht6.blk HY5.out fun a ha => Nat.lt_succ_of_lt (hA0 a ha)
 have hB6 := ht6.below HB5.out (by omega) hA1
 have hs6 : w.heap.size + 2 <= w6.heap.size := Nat.le_trans hs5 ht6.size
 have HP6 := Lib.hid (texts_congr HMEM2.out hP6)
 have hcp : Calls Try.prog 21 #[spF rK rlo rhi rf rt ro A6 n6 c6] w6 (Gives w6 ⟨rK, rlo, rhi, rf, rt, ro, rno⟩) := copied_at rK rlo rhi rf rt ro A6 n6 c6 w6 rno hl6 (by omega) hr6
 clear HX5 HY5 HB5 HO5 ht6 hP6 hr6 HMEM2 HL4 hR4
 go_wp2_with fail
 refine hcp.mono ?_
 rintro e w7 ⟨A7, n7, c7, rfl, hl7, hc7, ho7, hb7⟩
 have HL7 := Lib.hid (hl7.symm.trans hl6)
 have HL8 := Lib.hid hl7
 have hY7 := Blk.below hY6 hb7 (by omega)
 have hB7 := below_next hB6 hbase hb7
 have hs7 := hb7.size
 obtain ⟨y0, y1, y2, y3, y4, y5, y6, q0, q1, q2, q3, q4, q5, q6⟩ := blk7 hY7
 have hg7 : w.heap.size + 1 < w7.heap.size := by omega
 clear hcp hX6 hY6 hB6 hb7 hY7 hl7 hl6
 dsimp only at ho7 HL7 HL8
 go_wp2_with fail
 refine bodyPost_ret (v := spF rK rlo rhi rf rt ro A7 n7 c7) (by simp [results, Try.results24, go_sem, y0, y1, y2, y3, y4, y5, y6]) rfl ?_
 refine ⟨⟨rK, rlo, rhi, rf, rt, ro, rno⟩, A7, n7, c7, rfl, HL8.out, ?_, (OwnK.put7 ho7 (by omega) _ _ _ _ _ _ _).less (by omega), below_put7 hB7 (by omega) _ _ _ _ _ _ _, HP6.out⟩
 have := HL7.out
 omega
set_option maxRecDepth 100000 in
set_option maxHeartbeats 4000000 in
theorem trim0 (lo hi : Int) (A : Option Addr) (n c : Nat) (w : World) (base : Nat) (l : List Val)  (hn : l.length = n) (hm : n <= 100000) (ho : OwnW w base (.slice A n c) l) (hbase : base <= w.heap.size) :
  Calls Try.prog 24 #[spF 0 lo hi [] [] false A n c] w (TrimsO ((fun (_ : List Val) r => r = none_) l) base n w) := by
 have HN := Lib.hid hn
 clear hn
 have hgr := gr2 w (.cells #[.int .i64 0, .int .i64 lo, .int .i64 hi, .string ⟨#[]⟩, .string ⟨#[]⟩, .bool false, .slice A n c] 29) (.cells #[.int .i64 0, .int .i64 0, .int .i64 0, .string ⟨#[]⟩, .string ⟨#[]⟩, .bool false, .slice none 0 0] 29)
 have hbx := (Blk.new w 29 #[.int .i64 0, .int .i64 lo, .int .i64 hi, .string ⟨#[]⟩, .string ⟨#[]⟩, .bool false, .slice A n c]).alloc (.cells #[.int .i64 0, .int .i64 0, .int .i64 0, .string ⟨#[]⟩, .string ⟨#[]⟩, .bool false, .slice none 0 0] 29)
 have hrs := Blk.new (w.alloc (.cells #[.int .i64 0, .int .i64 lo, .int .i64 hi, .string ⟨#[]⟩, .string ⟨#[]⟩, .bool false, .slice A n c] 29)) 29 #[.int .i64 0, .int .i64 0, .int .i64 0, .string ⟨#[]⟩, .string ⟨#[]⟩, .bool false, .slice none 0 0]
 rw [show (w.alloc (.cells #[.int .i64 0, .int .i64 lo, .int .i64 hi, .string ⟨#[]⟩, .string ⟨#[]⟩, .bool false, .slice A n c] 29)).heap.size = w.heap.size + 1 by simp] at hrs
 have hA0 := fun a ha => (own_addr ho a ha).2
 have hA1 := fun a ha => (own_addr ho a ha).1
 have ho2 := OwnK.below ho hgr.below
 have hsz : ((w.alloc (.cells #[.int .i64 0, .int .i64 lo, .int .i64 hi, .string ⟨#[]⟩, .string ⟨#[]⟩, .bool false, .slice A n c] 29)).alloc (.cells #[.int .i64 0, .int .i64 0, .int .i64 0, .string ⟨#[]⟩, .string ⟨#[]⟩, .bool false, .slice none 0 0] 29)).heap.size = w.heap.size + 2 := by simp
 have hB2 : Below base w ((w.alloc (.cells #[.int .i64 0, .int .i64 lo, .int .i64 hi, .string ⟨#[]⟩, .string ⟨#[]⟩, .bool false, .slice A n c] 29)).alloc (.cells #[.int .i64 0, .int .i64 0, .int .i64 0, .string ⟨#[]⟩, .string ⟨#[]⟩, .bool false, .slice none 0 0] 29)) := hgr.below.mono hbase
 clear ho hgr
 go_enter Try.func24, Try.ntmps24
 go_wp2_with fail
 generalize hw2 : ((w.alloc (.cells #[.int .i64 0, .int .i64 lo, .int .i64 hi, .string ⟨#[]⟩, .string ⟨#[]⟩, .bool false, .slice A n c] 29)).alloc (.cells #[.int .i64 0, .int .i64 0, .int .i64 0, .string ⟨#[]⟩, .string ⟨#[]⟩, .bool false, .slice none 0 0] 29)) = w2 at *
 clear hw2
 refine (sortV_own HN.out hm ho2).mono ?_
 rintro e w3 ⟨rfl, out, hp, hS, ho3, ht3⟩
 have hX3 := ht3.blk hbx hA0
 have hY3 := ht3.blk hrs fun a ha => Nat.lt_succ_of_lt (hA0 a ha)
 have hB3 := ht3.below hB2 (by omega) hA1
 have hs3 := ht3.size
 have HMEM : Hid (∀ v, v ∈ out ↔ v ∈ l) := fun v => hp.mem_iff
 have HN3 : Hid (out.length = n) := hp.length_eq.trans HN.out
 clear ho2 hbx hrs hB2 ht3 hp
 obtain ⟨x0, x1, x2, x3, x4, x5, x6, p0, p1, p2, p3, p4, p5, p6⟩ := blk7 hX3
 have hg3 : w.heap.size < w3.heap.size := by omega
 have hg4 : w.heap.size + 1 < w3.heap.size := by omega
 have HX3 := Lib.hid hX3
 have HY3 := Lib.hid hY3
 have HB3 := Lib.hid hB3
 clear hX3 hY3 hB3
 go_wp2_with fail
 refine (compactV_own HN3.out hm hS ho3).mono ?_
 rintro e w4 ⟨out2, n2, rfl, hl4, hn4, hR4, hm4, ho4, ht4⟩
 have hX4 := ht4.blk HX3.out hA0
 have hY4 := ht4.blk HY3.out fun a ha => Nat.lt_succ_of_lt (hA0 a ha)
 have hB4 := ht4.below HB3.out (by omega) hA1
 have hs4 := ht4.size
 have HMEM2 : Hid (∀ v, v ∈ out2 ↔ v ∈ l) := fun v => (hm4 v).trans (HMEM.out v)
 have HL4 := Lib.hid hl4
 clear x0 x1 x2 x3 x4 x5 x6 p0 p1 p2 p3 p4 p5 p6 HX3 HY3 HB3 ho3 ht4 hm4 hl4 hS HN3 HMEM hg3 hg4
 obtain ⟨x0, x1, x2, x3, x4, x5, x6, p0, p1, p2, p3, p4, p5, p6⟩ := blk7 hX4
 have hg3 : w.heap.size < w4.heap.size := by omega
 have hg4 : w.heap.size + 1 < w4.heap.size := by omega
 have hX5 : Blk (w4.setCell ⟨w.heap.size, 6, none⟩ (.slice A n2 c)) w.heap.size 29 #[.int .i64 0, .int .i64 lo, .int .i64 hi, .string ⟨#[]⟩, .string ⟨#[]⟩, .bool false, .slice A n2 c] := by simpa using Blk.put hX4 6 (.slice A n2 c)
 have HY4 := Lib.hid hY4
 have hY5 : Blk (w4.setCell ⟨w.heap.size, 6, none⟩ (.slice A n2 c)) (w.heap.size + 1) 29 #[.int .i64 0, .int .i64 0, .int .i64 0, .string ⟨#[]⟩, .string ⟨#[]⟩, .bool false, .slice none 0 0] := Blk.far hY4 (by show w.heap.size + 1 ≠ w.heap.size; omega) _
 have hB5 : Below base w (w4.setCell ⟨w.heap.size, 6, none⟩ (.slice A n2 c)) := below_set hB4 hbase
 have ho5 : OwnW (w4.setCell ⟨w.heap.size, 6, none⟩ (.slice A n2 c)) base (.slice A n2 c) out2 := by
  rcases lies_of_own ho4 with ⟨e, hl⟩ | ⟨g, cap, sp, e, hb, hc, hcm, hl, hs⟩
  ·injection e with e1 e2 e3
   subst e1; subst e2; subst e3; subst hl
   exact OwnK.none_ _ _
  ·injection e with e1 e2 e3
   have hgA := hA0 _ e1
   rw [e1, e2, e3]
   exact own_of_lies (Blk.far hl (by show g ≠ w.heap.size; simp only at hgA; omega) _) hb hc hcm hs
 have HX5 := Lib.hid hX5
 have HY5 := Lib.hid hY5
 have HB5 := Lib.hid hB5
 have HO5 := Lib.hid ho5
 have hs5 : w.heap.size + 2 <= (w4.setCell ⟨w.heap.size, 6, none⟩ (.slice A n2 c)).heap.size := by simp; omega
 clear hX4 hY4 hB4 hX5 hY5 hB5 ho5 ho4
 obtain ⟨r0, r1, r2, r3, r4, r5, r6, s0, s1, s2, s3, s4, s5, s6⟩ := blk7 HY4.out
 go_wp2_with fail
 generalize w4.setCell ⟨w.heap.size, 6, none⟩ (.slice A n2 c) = w5 at *
 clear x0 x1 x2 x3 x4 x5 x6 p0 p1 p2 p3 p4 p5 p6 hg3 hg4 hs4
 obtain ⟨y0, y1, y2, y3, y4, y5, y6, q0, q1, q2, q3, q4, q5, q6⟩ := blk7 HY5.out
 refine bodyPost_ret (v := spF 0 0 0 [] [] false none 0 0) (by simp [results, Try.results24, go_sem, y0, y1, y2, y3, y4, y5, y6]) rfl ?_
 exact ⟨none_, none, 0, 0, rfl, rfl, Nat.zero_le _, OwnK.none_ _ _, below_put7 HB5.out (by omega) _ _ _ _ _ _ _, rfl⟩
end Go.Proofs.Ytoffnfooeojhnaa
namespace Go.Proofs.Ytoffnfooeojhnaa
open Go.RowKit Go.Sort Spans Op
set_option maxRecDepth 100000 in
set_option maxHeartbeats 2000000 in
theorem meet_left (lo hi : Int) (f t : List UInt8) (o : Bool) (A : Option Addr) (n c : Nat) (K' lo' hi' : Int) (f' t' : List UInt8) (o' : Bool) (A' : Option Addr) (n' c' : Nat) (w : World) (fs : List Val) (hn' : fs.length = n') (hm' : n' <= 100000) (hr' : RdW w A' fs) :
  Calls Try.prog 8 #[spF 4 lo hi f t o A n c, spF K' lo' hi' f' t' o' A' n' c'] w (Gives w ⟨K', lo', hi', f', t', o', fs⟩) := by
 have HN' := Lib.hid hn'
 clear hn'
 have hgr := gr3 w (.cells #[.int .i64 4, .int .i64 lo, .int .i64 hi, .string ⟨f.toArray⟩, .string ⟨t.toArray⟩, .bool o, .slice A n c] 29) (.cells #[.int .i64 K', .int .i64 lo', .int .i64 hi', .string ⟨f'.toArray⟩, .string ⟨t'.toArray⟩, .bool o', .slice A' n' c'] 29) (.cells #[.int .i64 0, .int .i64 0, .int .i64 0, .string ⟨#[]⟩, .string ⟨#[]⟩, .bool false, .slice none 0 0] 29)
 have hbx := ((Blk.new w 29 #[.int .i64 4, .int .i64 lo, .int .i64 hi, .string ⟨f.toArray⟩, .string ⟨t.toArray⟩, .bool o, .slice A n c]).alloc (.cells #[.int .i64 K', .int .i64 lo', .int .i64 hi', .string ⟨f'.toArray⟩, .string ⟨t'.toArray⟩, .bool o', .slice A' n' c'] 29)).alloc (.cells #[.int .i64 0, .int .i64 0, .int .i64 0, .string ⟨#[]⟩, .string ⟨#[]⟩, .bool false, .slice none 0 0] 29)
 have hbx2 := (Blk.new (w.alloc (.cells #[.int .i64 4, .int .i64 lo, .int .i64 hi, .string ⟨f.toArray⟩, .string ⟨t.toArray⟩, .bool o, .slice A n c] 29)) 29 #[.int .i64 K', .int .i64 lo', .int .i64 hi', .string ⟨f'.toArray⟩, .string ⟨t'.toArray⟩, .bool o', .slice A' n' c']).alloc (.cells #[.int .i64 0, .int .i64 0, .int .i64 0, .string ⟨#[]⟩, .string ⟨#[]⟩, .bool false, .slice none 0 0] 29)
 have hrs := Blk.new ((w.alloc (.cells #[.int .i64 4, .int .i64 lo, .int .i64 hi, .string ⟨f.toArray⟩, .string ⟨t.toArray⟩, .bool o, .slice A n c] 29)).alloc (.cells #[.int .i64 K', .int .i64 lo', .int .i64 hi', .string ⟨f'.toArray⟩, .string ⟨t'.toArray⟩, .bool o', .slice A' n' c'] 29)) 29 #[.int .i64 0, .int .i64 0, .int .i64 0, .string ⟨#[]⟩, .string ⟨#[]⟩, .bool false, .slice none 0 0]
 rw [show (w.alloc (.cells #[.int .i64 4, .int .i64 lo, .int .i64 hi, .string ⟨f.toArray⟩, .string ⟨t.toArray⟩, .bool o, .slice A n c] 29)).heap.size = w.heap.size + 1 by simp] at hbx2
 rw [show ((w.alloc (.cells #[.int .i64 4, .int .i64 lo, .int .i64 hi, .string ⟨f.toArray⟩, .string ⟨t.toArray⟩, .bool o, .slice A n c] 29)).alloc (.cells #[.int .i64 K', .int .i64 lo', .int .i64 hi', .string ⟨f'.toArray⟩, .string ⟨t'.toArray⟩, .bool o', .slice A' n' c'] 29)).heap.size = w.heap.size + 2 by simp] at hrs
 have hsz : (((w.alloc (.cells #[.int .i64 4, .int .i64 lo, .int .i64 hi, .string ⟨f.toArray⟩, .string ⟨t.toArray⟩, .bool o, .slice A n c] 29)).alloc (.cells #[.int .i64 K', .int .i64 lo', .int .i64 hi', .string ⟨f'.toArray⟩, .string ⟨t'.toArray⟩, .bool o', .slice A' n' c'] 29)).alloc (.cells #[.int .i64 0, .int .i64 0, .int .i64 0, .string ⟨#[]⟩, .string ⟨#[]⟩, .bool false, .slice none 0 0] 29)).heap.size = w.heap.size + 3 := by simp
 have hr2 := RdK.below hr' hgr.below
 clear hr'
 go_enter Try.func8, Try.ntmps8
 go_wp2_with fail
 generalize hw2 : (((w.alloc (.cells #[.int .i64 4, .int .i64 lo, .int .i64 hi, .string ⟨f.toArray⟩, .string ⟨t.toArray⟩, .bool o, .slice A n c] 29)).alloc (.cells #[.int .i64 K', .int .i64 lo', .int .i64 hi', .string ⟨f'.toArray⟩, .string ⟨t'.toArray⟩, .bool o', .slice A' n' c'] 29)).alloc (.cells #[.int .i64 0, .int .i64 0, .int .i64 0, .string ⟨#[]⟩, .string ⟨#[]⟩, .bool false, .slice none 0 0] 29)) = w2 at *
 clear hw2
 refine (copied_at K' lo' hi' f' t' o' A' n' c' w2 fs HN'.out hm' hr2).mono ?_
 rintro e w7 ⟨A7, n7, c7, rfl, hl7, hc7, ho7, hb7⟩
 dsimp only at hl7 ho7
 have HL7 := Lib.hid hl7
 have hY7 := Blk.below hrs hb7 (by omega)
 have hB7 := below_next hgr.below (Nat.le_refl _) hb7
 have hs7 := hb7.size
 obtain ⟨y0, y1, y2, y3, y4, y5, y6, q0, q1, q2, q3, q4, q5, q6⟩ := blk7 hY7
 have hg7 : w.heap.size + 2 < w7.heap.size := by omega
 clear hb7 hY7 hl7
 go_wp2_with fail
 refine bodyPost_ret (v := spF K' lo' hi' f' t' o' A7 n7 c7) (by simp [results, Try.results8, go_sem, y0, y1, y2, y3, y4, y5, y6]) rfl ?_
 exact ⟨A7, n7, c7, rfl, HL7.out, hc7, (OwnK.put7 ho7 (by omega) _ _ _ _ _ _ _).less (by omega), below_put7 hB7 (by omega) _ _ _ _ _ _ _⟩
set_option maxRecDepth 100000 in
set_option maxHeartbeats 2000000 in
theorem meet_right (K lo hi : Int) (f t : List UInt8) (o : Bool) (A : Option Addr) (n c : Nat) (lo' hi' : Int) (f' t' : List UInt8) (o' : Bool) (A' : Option Addr) (n' c' : Nat) (w : World) (es : List Val) (hn : es.length = n) (hm : n <= 100000) (hr : RdW w A es) (hK : K ≠ 4) :
  Calls Try.prog 8 #[spF K lo hi f t o A n c, spF 4 lo' hi' f' t' o' A' n' c'] w (Gives w ⟨K, lo, hi, f, t, o, es⟩) := by
 have HN := Lib.hid hn
 have v1 : (K == 4) = false := beq_eq_false_iff_ne.2 hK
 clear hn
 have hgr := gr3 w (.cells #[.int .i64 K, .int .i64 lo, .int .i64 hi, .string ⟨f.toArray⟩, .string ⟨t.toArray⟩, .bool o, .slice A n c] 29) (.cells #[.int .i64 4, .int .i64 lo', .int .i64 hi', .string ⟨f'.toArray⟩, .string ⟨t'.toArray⟩, .bool o', .slice A' n' c'] 29) (.cells #[.int .i64 0, .int .i64 0, .int .i64 0, .string ⟨#[]⟩, .string ⟨#[]⟩, .bool false, .slice none 0 0] 29)
 have hbx := ((Blk.new w 29 #[.int .i64 K, .int .i64 lo, .int .i64 hi, .string ⟨f.toArray⟩, .string ⟨t.toArray⟩, .bool o, .slice A n c]).alloc (.cells #[.int .i64 4, .int .i64 lo', .int .i64 hi', .string ⟨f'.toArray⟩, .string ⟨t'.toArray⟩, .bool o', .slice A' n' c'] 29)).alloc (.cells #[.int .i64 0, .int .i64 0, .int .i64 0, .string ⟨#[]⟩, .string ⟨#[]⟩, .bool false, .slice none 0 0] 29)
 have hbx2 := (Blk.new (w.alloc (.cells #[.int .i64 K, .int .i64 lo, .int .i64 hi, .string ⟨f.toArray⟩, .string ⟨t.toArray⟩, .bool o, .slice A n c] 29)) 29 #[.int .i64 4, .int .i64 lo', .int .i64 hi', .string ⟨f'.toArray⟩, .string ⟨t'.toArray⟩, .bool o', .slice A' n' c']).alloc (.cells #[.int .i64 0, .int .i64 0, .int .i64 0, .string ⟨#[]⟩, .string ⟨#[]⟩, .bool false, .slice none 0 0] 29)
 have hrs := Blk.new ((w.alloc (.cells #[.int .i64 K, .int .i64 lo, .int .i64 hi, .string ⟨f.toArray⟩, .string ⟨t.toArray⟩, .bool o, .slice A n c] 29)).alloc (.cells #[.int .i64 4, .int .i64 lo', .int .i64 hi', .string ⟨f'.toArray⟩, .string ⟨t'.toArray⟩, .bool o', .slice A' n' c'] 29)) 29 #[.int .i64 0, .int .i64 0, .int .i64 0, .string ⟨#[]⟩, .string ⟨#[]⟩, .bool false, .slice none 0 0]
 rw [show (w.alloc (.cells #[.int .i64 K, .int .i64 lo, .int .i64 hi, .string ⟨f.toArray⟩, .string ⟨t.toArray⟩, .bool o, .slice A n c] 29)).heap.size = w.heap.size + 1 by simp] at hbx2
 rw [show ((w.alloc (.cells #[.int .i64 K, .int .i64 lo, .int .i64 hi, .string ⟨f.toArray⟩, .string ⟨t.toArray⟩, .bool o, .slice A n c] 29)).alloc (.cells #[.int .i64 4, .int .i64 lo', .int .i64 hi', .string ⟨f'.toArray⟩, .string ⟨t'.toArray⟩, .bool o', .slice A' n' c'] 29)).heap.size = w.heap.size + 2 by simp] at hrs
 have hsz : (((w.alloc (.cells #[.int .i64 K, .int .i64 lo, .int .i64 hi, .string ⟨f.toArray⟩, .string ⟨t.toArray⟩, .bool o, .slice A n c] 29)).alloc (.cells #[.int .i64 4, .int .i64 lo', .int .i64 hi', .string ⟨f'.toArray⟩, .string ⟨t'.toArray⟩, .bool o', .slice A' n' c'] 29)).alloc (.cells #[.int .i64 0, .int .i64 0, .int .i64 0, .string ⟨#[]⟩, .string ⟨#[]⟩, .bool false, .slice none 0 0] 29)).heap.size = w.heap.size + 3 := by simp
 have hr2 := RdK.below hr hgr.below
 clear hr
 go_enter Try.func8, Try.ntmps8
 go_wp2_with fail
 generalize hw2 : (((w.alloc (.cells #[.int .i64 K, .int .i64 lo, .int .i64 hi, .string ⟨f.toArray⟩, .string ⟨t.toArray⟩, .bool o, .slice A n c] 29)).alloc (.cells #[.int .i64 4, .int .i64 lo', .int .i64 hi', .string ⟨f'.toArray⟩, .string ⟨t'.toArray⟩, .bool o', .slice A' n' c'] 29)).alloc (.cells #[.int .i64 0, .int .i64 0, .int .i64 0, .string ⟨#[]⟩, .string ⟨#[]⟩, .bool false, .slice none 0 0] 29)) = w2 at *
 clear hw2
 refine (copied_at K lo hi f t o A n c w2 es HN.out hm hr2).mono ?_
 rintro e w7 ⟨A7, n7, c7, rfl, hl7, hc7, ho7, hb7⟩
 dsimp only at hl7 ho7
 have HL7 := Lib.hid hl7
 have hY7 := Blk.below hrs hb7 (by omega)
 have hB7 := below_next hgr.below (Nat.le_refl _) hb7
 have hs7 := hb7.size
 obtain ⟨y0, y1, y2, y3, y4, y5, y6, q0, q1, q2, q3, q4, q5, q6⟩ := blk7 hY7
 have hg7 : w.heap.size + 2 < w7.heap.size := by omega
 clear hb7 hY7 hl7
 go_wp2_with fail
 refine bodyPost_ret (v := spF K lo hi f t o A7 n7 c7) (by simp [results, Try.results8, go_sem, y0, y1, y2, y3, y4, y5, y6]) rfl ?_
 exact ⟨A7, n7, c7, rfl, HL7.out, hc7, (OwnK.put7 ho7 (by omega) _ _ _ _ _ _ _).less (by omega), below_put7 hB7 (by omega) _ _ _ _ _ _ _⟩
set_option maxRecDepth 100000 in
set_option maxHeartbeats 2000000 in
theorem meet_unlike (K lo hi : Int) (f t : List UInt8) (o : Bool) (A : Option Addr) (n c : Nat) (K' lo' hi' : Int) (f' t' : List UInt8) (o' : Bool) (A' : Option Addr) (n' c' : Nat) (w : World) (hK : K ≠ 4) (hK' : K' ≠ 4) (hne : K ≠ K') :
  Calls Try.prog 8 #[spF K lo hi f t o A n c, spF K' lo' hi' f' t' o' A' n' c'] w (Gives w none_) := by
 have v1 : (K == 4) = false := beq_eq_false_iff_ne.2 hK
 have v2 : (K' == 4) = false := beq_eq_false_iff_ne.2 hK'
 have v3 : (K == K') = false := beq_eq_false_iff_ne.2 hne
 go_enter Try.func8, Try.ntmps8
 go_wp2_with fail
 refine bodyPost_ret (v := spF 0 0 0 [] [] false none 0 0) (by simp [results, Try.results8, go_sem]) rfl ?_
 exact ⟨none, 0, 0, rfl, rfl, Nat.le_refl _, OwnK.none_ _ _, (gr3 _ _ _ _).below⟩
theorem lesser_is (K lo hi : Int) (f t : List UInt8) (o : Bool) (A : Option Addr) (n c : Nat) (K' lo' hi' : Int) (f' t' : List UInt8) (o' : Bool) (A' : Option Addr) (n' c' : Nat) (w : World) (tt : List UInt8) (htt : (if o then t' else if o' then t else minT t t') = tt) (oo : Bool) (hoo : (o && o') = oo) :
  Calls Try.prog 23 #[spF K lo hi f t o A n c, spF K' lo' hi' f' t' o' A' n' c'] w fun e w' => e = .returned (.tuple #[.string ⟨tt.toArray⟩, .bool oo]) /\ Grown w w' := by
 subst htt; subst hoo
 exact lesser_at K lo hi f t o A n c K' lo' hi' f' t' o' A' n' c' w
theorem own_far {w : World} {base : Nat} {A : Option Addr} {n c : Nat} {l : List Val} {b i : Nat} {u : Value} (h : OwnW w base (.slice A n c) l) (hb : ∀ a, A = some a -> a.block ≠ b) : OwnW (w.setCell ⟨b, i, none⟩ u) base (.slice A n c) l := by
 rcases lies_of_own h with ⟨e, hl⟩ | ⟨g, cap, sp, e, hbg, hc, hcm, hl, hs⟩
 ·injection e with e1 e2 e3
  subst e1; subst e2; subst e3; subst hl
  exact OwnK.none_ _ _
 ·injection e with e1 e2 e3
  have hgA := hb _ e1
  rw [e1, e2, e3]
  exact own_of_lies (Blk.far hl (by show g ≠ b; exact hgA) _) hbg hc hcm hs
section
variable {P : Program} {md : Region.Mode} {ops : Array Oper} {Q : Exit -> Act -> World -> Prop} {S : World -> Prop}
/-- Two operations that may come up, both orders. -/
theorem wpAnyH_pair {i j : Nat} {oi oj : Oper} {fuel : Nat} {listed : Array Bool} {a : Act} {w : World} (hr : Region.ready md ops listed = [i, j]) (hi : ops.toList[i]? = some oi) (hj : ops.toList[j]? = some oj)
  (hw : Region.wanted oi (yielded ops a.tmps) = true) (hw' : Region.wanted oj (yielded ops a.tmps) = true)
  (h : ∀ K : Act -> World -> Prop, Hid (∀ a w, S w -> wpAnyH P md ops Q S fuel (listed.setIfInBounds i true) a w -> K a w) -> Oper.wp P oi a w K Q)
  (h' : ∀ K : Act -> World -> Prop, Hid (∀ a w, S w -> wpAnyH P md ops Q S fuel (listed.setIfInBounds j true) a w -> K a w) -> Oper.wp P oj a w K Q) : wpAnyH P md ops Q S (fuel + 1) listed a w := by
 refine wpAnyH_ready hr (by simp) (AllReadyH.cons (by simpa using hi) (fun K hK => ?_) (AllReadyH.cons (by simpa using hj) (fun K hK => ?_) AllReadyH.nil))
 ·rw [if_pos hw]
  exact h K (fun a w hS hW => hK.out a w hS (fun _ => hW))
 ·rw [if_pos hw']
  exact h' K (fun a w hS hW => hK.out a w hS (fun _ => hW))
end
end Go.Proofs.Ytoffnfooeojhnaa
