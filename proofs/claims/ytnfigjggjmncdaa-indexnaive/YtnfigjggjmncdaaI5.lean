/- Contracts of the program and of the document (IxSml), each used further on. -/
import Derived.Test.YtnfigjggjmncdaaP4
import Derived.Test.YtnfigjggjmncdaaI2
import Derived.Test.YtnfigjggjmncdaaI3
namespace Go.Proofs.Ytnfigjggjmncdaa
open Go.RowKit Go.Maps Go.WideMaps Go.Sort Spans Tb Op
def ipP : Pr := ⟨[97], 6, 1, 5, []⟩
def ipQ : Pr := ⟨[98], 8, 0, 0, []⟩
def smE (a b : Nat) : List Ex := [⟨9, 0, some ⟨a, 0, none⟩, 2, 2, [ipP, ipQ]⟩, ⟨4, 0, none, 0, 0, []⟩, ⟨7, 0, some ⟨b, 0, none⟩, 2, 2, [ipP, ipP]⟩]
def ev1 : List Ev.At := [⟨[97], 1, 5, []⟩]
def ev2 : List Ev.At := [⟨[97], 1, 5, []⟩, ⟨[98], 1, 5, []⟩]
theorem met1 (a b : Nat) : metIds (smE a b) ev1 = [4, 7] := by kernel_rfl
theorem met2 (a b : Nat) : metIds (smE a b) ev2 = [9, 4, 7] := by kernel_rfl
theorem met0 (a b : Nat) : metIds (smE a b) [] = [4] := by kernel_rfl
theorem met3 (a b : Nat) : (Ix.uq (fls (smE a b)).flatten).length = 2 := by kernel_rfl
theorem met4 (a b : Nat) : (fls (smE a b)).flatten.length ≤ 1000000 := by
  have : (fls (smE a b)).flatten.length = 4 := by kernel_rfl
  omega
theorem smE_len (a b : Nat) : ∀ x ∈ smE a b, x.f.length = x.n := fun x hx => by
  simp only [smE, List.mem_cons, List.not_mem_nil, or_false] at hx
  rcases hx with rfl | rfl | rfl <;> rfl
theorem ip_ok : KOk ipP ∧ KOk ipQ := by unfold KOk ipP ipQ; simp
theorem smE_few (a b : Nat) : XFew (smE a b) := fun x hx => by
  simp only [smE, List.mem_cons, List.not_mem_nil, or_false] at hx
  rcases hx with rfl | rfl | rfl
  · exact ⟨by simp, fun p hp => by simp at hp; rcases hp with rfl | rfl; exact ip_ok.1; exact ip_ok.2⟩
  · exact ⟨by simp, fun p hp => by simp at hp⟩
  · exact ⟨by simp, fun p hp => by simp at hp; subst hp; exact ip_ok.1⟩
theorem ev1_bd : ∀ a ∈ ev1, a.n.length ≤ maxLen ∧ a.t.length ≤ maxLen := by rw [maxLen_num]; unfold ev1; simp
theorem ev2_bd : ∀ a ∈ ev2, a.n.length ≤ maxLen ∧ a.t.length ≤ maxLen := by rw [maxLen_num]; unfold ev2; simp
theorem sm_ents (w : World) : RdEn (((((w.alloc (.cells #[.string ⟨#[97]⟩, .int .i64 6, .int .i64 1, .int .i64 5, .string ⟨#[]⟩] 47)).alloc (.cells #[.string ⟨#[98]⟩, .int .i64 8, .int .i64 0, .int .i64 0, .string ⟨#[]⟩] 47)).alloc (.cells #[.string ⟨#[97]⟩, .int .i64 6, .int .i64 1, .int .i64 5, .string ⟨#[]⟩, .string ⟨#[98]⟩, .int .i64 8, .int .i64 0, .int .i64 0, .string ⟨#[]⟩] 47)).alloc (.cells #[.string ⟨#[97]⟩, .int .i64 6, .int .i64 1, .int .i64 5, .string ⟨#[]⟩, .string ⟨#[97]⟩, .int .i64 6, .int .i64 1, .int .i64 5, .string ⟨#[]⟩] 47)).alloc (.cells #[.int .i64 9, .int .i64 0, .slice (some ⟨w.heap.size + 1 + 1, 0, none⟩) 2 2, .int .i64 4, .int .i64 0, .slice none 0 0, .int .i64 7, .int .i64 0, .slice (some ⟨w.heap.size + 1 + 1 + 1, 0, none⟩) 2 2] 40)) (some ⟨w.heap.size + 1 + 1 + 1 + 1, 0, none⟩) (smE (w.heap.size + 1 + 1) (w.heap.size + 1 + 1 + 1)) ∧ Below w.heap.size w (((((w.alloc (.cells #[.string ⟨#[97]⟩, .int .i64 6, .int .i64 1, .int .i64 5, .string ⟨#[]⟩] 47)).alloc (.cells #[.string ⟨#[98]⟩, .int .i64 8, .int .i64 0, .int .i64 0, .string ⟨#[]⟩] 47)).alloc (.cells #[.string ⟨#[97]⟩, .int .i64 6, .int .i64 1, .int .i64 5, .string ⟨#[]⟩, .string ⟨#[98]⟩, .int .i64 8, .int .i64 0, .int .i64 0, .string ⟨#[]⟩] 47)).alloc (.cells #[.string ⟨#[97]⟩, .int .i64 6, .int .i64 1, .int .i64 5, .string ⟨#[]⟩, .string ⟨#[97]⟩, .int .i64 6, .int .i64 1, .int .i64 5, .string ⟨#[]⟩] 47)).alloc (.cells #[.int .i64 9, .int .i64 0, .slice (some ⟨w.heap.size + 1 + 1, 0, none⟩) 2 2, .int .i64 4, .int .i64 0, .slice none 0 0, .int .i64 7, .int .i64 0, .slice (some ⟨w.heap.size + 1 + 1 + 1, 0, none⟩) 2 2] 40)) := by
  have z2 : ((w.alloc (.cells #[.string ⟨#[97]⟩, .int .i64 6, .int .i64 1, .int .i64 5, .string ⟨#[]⟩] 47)).alloc (.cells #[.string ⟨#[98]⟩, .int .i64 8, .int .i64 0, .int .i64 0, .string ⟨#[]⟩] 47)).heap.size = w.heap.size + 1 + 1 := by simp
  have z3 : (((w.alloc (.cells #[.string ⟨#[97]⟩, .int .i64 6, .int .i64 1, .int .i64 5, .string ⟨#[]⟩] 47)).alloc (.cells #[.string ⟨#[98]⟩, .int .i64 8, .int .i64 0, .int .i64 0, .string ⟨#[]⟩] 47)).alloc (.cells #[.string ⟨#[97]⟩, .int .i64 6, .int .i64 1, .int .i64 5, .string ⟨#[]⟩, .string ⟨#[98]⟩, .int .i64 8, .int .i64 0, .int .i64 0, .string ⟨#[]⟩] 47)).heap.size = w.heap.size + 1 + 1 + 1 := by simp
  have z4 : ((((w.alloc (.cells #[.string ⟨#[97]⟩, .int .i64 6, .int .i64 1, .int .i64 5, .string ⟨#[]⟩] 47)).alloc (.cells #[.string ⟨#[98]⟩, .int .i64 8, .int .i64 0, .int .i64 0, .string ⟨#[]⟩] 47)).alloc (.cells #[.string ⟨#[97]⟩, .int .i64 6, .int .i64 1, .int .i64 5, .string ⟨#[]⟩, .string ⟨#[98]⟩, .int .i64 8, .int .i64 0, .int .i64 0, .string ⟨#[]⟩] 47)).alloc (.cells #[.string ⟨#[97]⟩, .int .i64 6, .int .i64 1, .int .i64 5, .string ⟨#[]⟩, .string ⟨#[97]⟩, .int .i64 6, .int .i64 1, .int .i64 5, .string ⟨#[]⟩] 47)).heap.size = w.heap.size + 1 + 1 + 1 + 1 := by simp
  have h3 := rdk_lit layP ((w.alloc (.cells #[.string ⟨#[97]⟩, .int .i64 6, .int .i64 1, .int .i64 5, .string ⟨#[]⟩] 47)).alloc (.cells #[.string ⟨#[98]⟩, .int .i64 8, .int .i64 0, .int .i64 0, .string ⟨#[]⟩] 47)) [ipP, ipQ] 47 #[.string ⟨#[97]⟩, .int .i64 6, .int .i64 1, .int .i64 5, .string ⟨#[]⟩, .string ⟨#[98]⟩, .int .i64 8, .int .i64 0, .int .i64 0, .string ⟨#[]⟩] rfl
  have h4 := rdk_lit layP (((w.alloc (.cells #[.string ⟨#[97]⟩, .int .i64 6, .int .i64 1, .int .i64 5, .string ⟨#[]⟩] 47)).alloc (.cells #[.string ⟨#[98]⟩, .int .i64 8, .int .i64 0, .int .i64 0, .string ⟨#[]⟩] 47)).alloc (.cells #[.string ⟨#[97]⟩, .int .i64 6, .int .i64 1, .int .i64 5, .string ⟨#[]⟩, .string ⟨#[98]⟩, .int .i64 8, .int .i64 0, .int .i64 0, .string ⟨#[]⟩] 47)) [ipP, ipP] 47 #[.string ⟨#[97]⟩, .int .i64 6, .int .i64 1, .int .i64 5, .string ⟨#[]⟩, .string ⟨#[97]⟩, .int .i64 6, .int .i64 1, .int .i64 5, .string ⟨#[]⟩] rfl
  have h5 := rdk_lit layE ((((w.alloc (.cells #[.string ⟨#[97]⟩, .int .i64 6, .int .i64 1, .int .i64 5, .string ⟨#[]⟩] 47)).alloc (.cells #[.string ⟨#[98]⟩, .int .i64 8, .int .i64 0, .int .i64 0, .string ⟨#[]⟩] 47)).alloc (.cells #[.string ⟨#[97]⟩, .int .i64 6, .int .i64 1, .int .i64 5, .string ⟨#[]⟩, .string ⟨#[98]⟩, .int .i64 8, .int .i64 0, .int .i64 0, .string ⟨#[]⟩] 47)).alloc (.cells #[.string ⟨#[97]⟩, .int .i64 6, .int .i64 1, .int .i64 5, .string ⟨#[]⟩, .string ⟨#[97]⟩, .int .i64 6, .int .i64 1, .int .i64 5, .string ⟨#[]⟩] 47)) (smE (w.heap.size + 1 + 1) (w.heap.size + 1 + 1 + 1)) 40 #[.int .i64 9, .int .i64 0, .slice (some ⟨w.heap.size + 1 + 1, 0, none⟩) 2 2, .int .i64 4, .int .i64 0, .slice none 0 0, .int .i64 7, .int .i64 0, .slice (some ⟨w.heap.size + 1 + 1 + 1, 0, none⟩) 2 2] rfl
  rw [z2] at h3
  rw [z3] at h4
  rw [z4] at h5
  have b4 : Below (((w.alloc (.cells #[.string ⟨#[97]⟩, .int .i64 6, .int .i64 1, .int .i64 5, .string ⟨#[]⟩] 47)).alloc (.cells #[.string ⟨#[98]⟩, .int .i64 8, .int .i64 0, .int .i64 0, .string ⟨#[]⟩] 47)).alloc (.cells #[.string ⟨#[97]⟩, .int .i64 6, .int .i64 1, .int .i64 5, .string ⟨#[]⟩, .string ⟨#[98]⟩, .int .i64 8, .int .i64 0, .int .i64 0, .string ⟨#[]⟩] 47)).heap.size (((w.alloc (.cells #[.string ⟨#[97]⟩, .int .i64 6, .int .i64 1, .int .i64 5, .string ⟨#[]⟩] 47)).alloc (.cells #[.string ⟨#[98]⟩, .int .i64 8, .int .i64 0, .int .i64 0, .string ⟨#[]⟩] 47)).alloc (.cells #[.string ⟨#[97]⟩, .int .i64 6, .int .i64 1, .int .i64 5, .string ⟨#[]⟩, .string ⟨#[98]⟩, .int .i64 8, .int .i64 0, .int .i64 0, .string ⟨#[]⟩] 47)) ((((w.alloc (.cells #[.string ⟨#[97]⟩, .int .i64 6, .int .i64 1, .int .i64 5, .string ⟨#[]⟩] 47)).alloc (.cells #[.string ⟨#[98]⟩, .int .i64 8, .int .i64 0, .int .i64 0, .string ⟨#[]⟩] 47)).alloc (.cells #[.string ⟨#[97]⟩, .int .i64 6, .int .i64 1, .int .i64 5, .string ⟨#[]⟩, .string ⟨#[98]⟩, .int .i64 8, .int .i64 0, .int .i64 0, .string ⟨#[]⟩] 47)).alloc (.cells #[.string ⟨#[97]⟩, .int .i64 6, .int .i64 1, .int .i64 5, .string ⟨#[]⟩, .string ⟨#[97]⟩, .int .i64 6, .int .i64 1, .int .i64 5, .string ⟨#[]⟩] 47)) := (gr1 _ _).below
  have b5 : Below ((((w.alloc (.cells #[.string ⟨#[97]⟩, .int .i64 6, .int .i64 1, .int .i64 5, .string ⟨#[]⟩] 47)).alloc (.cells #[.string ⟨#[98]⟩, .int .i64 8, .int .i64 0, .int .i64 0, .string ⟨#[]⟩] 47)).alloc (.cells #[.string ⟨#[97]⟩, .int .i64 6, .int .i64 1, .int .i64 5, .string ⟨#[]⟩, .string ⟨#[98]⟩, .int .i64 8, .int .i64 0, .int .i64 0, .string ⟨#[]⟩] 47)).alloc (.cells #[.string ⟨#[97]⟩, .int .i64 6, .int .i64 1, .int .i64 5, .string ⟨#[]⟩, .string ⟨#[97]⟩, .int .i64 6, .int .i64 1, .int .i64 5, .string ⟨#[]⟩] 47)).heap.size ((((w.alloc (.cells #[.string ⟨#[97]⟩, .int .i64 6, .int .i64 1, .int .i64 5, .string ⟨#[]⟩] 47)).alloc (.cells #[.string ⟨#[98]⟩, .int .i64 8, .int .i64 0, .int .i64 0, .string ⟨#[]⟩] 47)).alloc (.cells #[.string ⟨#[97]⟩, .int .i64 6, .int .i64 1, .int .i64 5, .string ⟨#[]⟩, .string ⟨#[98]⟩, .int .i64 8, .int .i64 0, .int .i64 0, .string ⟨#[]⟩] 47)).alloc (.cells #[.string ⟨#[97]⟩, .int .i64 6, .int .i64 1, .int .i64 5, .string ⟨#[]⟩, .string ⟨#[97]⟩, .int .i64 6, .int .i64 1, .int .i64 5, .string ⟨#[]⟩] 47)) (((((w.alloc (.cells #[.string ⟨#[97]⟩, .int .i64 6, .int .i64 1, .int .i64 5, .string ⟨#[]⟩] 47)).alloc (.cells #[.string ⟨#[98]⟩, .int .i64 8, .int .i64 0, .int .i64 0, .string ⟨#[]⟩] 47)).alloc (.cells #[.string ⟨#[97]⟩, .int .i64 6, .int .i64 1, .int .i64 5, .string ⟨#[]⟩, .string ⟨#[98]⟩, .int .i64 8, .int .i64 0, .int .i64 0, .string ⟨#[]⟩] 47)).alloc (.cells #[.string ⟨#[97]⟩, .int .i64 6, .int .i64 1, .int .i64 5, .string ⟨#[]⟩, .string ⟨#[97]⟩, .int .i64 6, .int .i64 1, .int .i64 5, .string ⟨#[]⟩] 47)).alloc (.cells #[.int .i64 9, .int .i64 0, .slice (some ⟨w.heap.size + 1 + 1, 0, none⟩) 2 2, .int .i64 4, .int .i64 0, .slice none 0 0, .int .i64 7, .int .i64 0, .slice (some ⟨w.heap.size + 1 + 1 + 1, 0, none⟩) 2 2] 40)) := (gr1 _ _).below
  refine ⟨⟨h5, fun x hx => ?_⟩, ((gr3 w _ _ _).alloc _ |>.alloc _).below⟩
  simp only [smE, List.mem_cons, List.not_mem_nil, or_false] at hx
  rcases hx with rfl | rfl | rfl
  · exact ⟨rfl, Nat.le_refl _, RdK.below (RdK.below h3 b4) b5⟩
  · exact ⟨rfl, Nat.le_refl _, .inl rfl⟩
  · exact ⟨rfl, Nat.le_refl _, RdK.below h4 b5⟩
set_option maxRecDepth 100000 in
set_option maxHeartbeats 8000000 in
theorem ixsmall_at (w : World) : Calls Try.prog 8 #[] w fun e w' => e = .returned (.bool true) ∧ Below w.heap.size w w' := by
  obtain ⟨hr, hb⟩ := sm_ents w
  have HR := Lib.hid hr
  have HB := Lib.hid hb
  clear hr hb
  go_enter Try.func8, Try.ntmps8
  go_wp2_with fail
  generalize (((((w.alloc (.cells #[.string ⟨#[97]⟩, .int .i64 6, .int .i64 1, .int .i64 5, .string ⟨#[]⟩] 47)).alloc (.cells #[.string ⟨#[98]⟩, .int .i64 8, .int .i64 0, .int .i64 0, .string ⟨#[]⟩] 47)).alloc (.cells #[.string ⟨#[97]⟩, .int .i64 6, .int .i64 1, .int .i64 5, .string ⟨#[]⟩, .string ⟨#[98]⟩, .int .i64 8, .int .i64 0, .int .i64 0, .string ⟨#[]⟩] 47)).alloc (.cells #[.string ⟨#[97]⟩, .int .i64 6, .int .i64 1, .int .i64 5, .string ⟨#[]⟩, .string ⟨#[97]⟩, .int .i64 6, .int .i64 1, .int .i64 5, .string ⟨#[]⟩] 47)).alloc (.cells #[.int .i64 9, .int .i64 0, .slice (some ⟨w.heap.size + 1 + 1, 0, none⟩) 2 2, .int .i64 4, .int .i64 0, .slice none 0 0, .int .i64 7, .int .i64 0, .slice (some ⟨w.heap.size + 1 + 1 + 1, 0, none⟩) 2 2] 40)) = wo at *
  generalize w.heap.size + 1 + 1 = pa at *
  obtain ⟨es, hes⟩ : ∃ es, smE pa (pa + 1) = es := ⟨_, rfl⟩
  have HE := Lib.hid hes
  rw [hes] at HR
  have hl : es.length = 3 := by rw [← hes]; rfl
  refine (build_at _ es 3 3 hl (by omega) (by rw [← hes]; exact smE_few _ _) _ HR.out).mono ?_
  rintro e w2 ⟨g, rfl, hix, hb⟩
  have HIX := Lib.hid hix
  replace HB := Lib.hid (below_next HB.out (by have := HB.out.size; omega) hb)
  have HL := Lib.hid hl
  clear hes hl hix hb HR
  go_wp2_with fail
  have hb := (gr1 w2 (.cells #[.int .i64 1, .int .i64 5, .string ⟨#[]⟩] 45)).below
  have HV := Lib.hid (Blk.new w2 45 #[.int .i64 1, .int .i64 5, .string ⟨#[]⟩])
  replace HIX := Lib.hid (HIX.out.below hb)
  replace HB := Lib.hid (below_next HB.out (by have := HB.out.size; omega) hb)
  clear hb
  have hz : (w2.alloc (.cells #[.int .i64 1, .int .i64 5, .string ⟨#[]⟩] 45)).heap.size = w2.heap.size + 1 := by simp
  generalize w2.heap.size = pv at *
  generalize w2.alloc (.cells #[.int .i64 1, .int .i64 5, .string ⟨#[]⟩] 45) = wv at *
  have hre : RdA (wv.alloc (.cells #[.string ⟨#[97]⟩, .int .i64 1, .int .i64 5, .string ⟨#[]⟩] 49)) (some ⟨wv.heap.size, 0, none⟩) ev1 := rda_one wv ⟨[97], 1, 5, []⟩ 49
  have hb : Below wv.heap.size wv (wv.alloc (.cells #[.string ⟨#[97]⟩, .int .i64 1, .int .i64 5, .string ⟨#[]⟩] 49)) := (gr1 wv _).below
  rw [hz] at hre
  replace HIX := Lib.hid (HIX.out.below hb)
  replace HV := Lib.hid (HV.out.below hb HV.out.lt)
  replace HB := Lib.hid (below_next HB.out (by have := HB.out.size; omega) hb)
  clear hb hz
  generalize wv.alloc (.cells #[.string ⟨#[97]⟩, .int .i64 1, .int .i64 5, .string ⟨#[]⟩] 49) = wx at *
  refine (imeet_at g es 3 HL.out (by omega) (by rw [← HE.out]; exact met4 _ _) (by rw [← HE.out]; exact smE_len _ _) _ ev1 1 1 rfl (by rw [maxLen_num]; omega) ev1_bd wx HIX.out hre).mono ?_
  rintro e wy ⟨B, m, d, rfl, hl, hc, ho, hb⟩
  have hb := hb
  clear hre
  replace HIX := Lib.hid (HIX.out.below hb)
  replace HV := Lib.hid (HV.out.below hb HV.out.lt)
  replace HB := Lib.hid (below_next HB.out (by have := HB.out.size; omega) hb)
  clear hb
  have ho := ho.rd
  obtain ⟨_, _, e5, _, hrd⟩ := ho
  injection e5 with e5 e6 e7
  rw [← e5] at hrd
  clear e5 e6 e7
  have HRD := Lib.hid hrd
  have HLL := Lib.hid hl
  clear hrd hl
  clear hc
  obtain ⟨v0, v1, v2⟩ := cells3 HV.out
  have hlv := HV.out.lt
  go_wp2_with fail
  clear v0 v1 v2 hlv
  have hbl : Below wy.heap.size wy (wy.alloc (.cells #[.int .i64 4, .int .i64 7] 3)) := (gr1 wy _).below
  have hrl := rdz_lit layI wy ([4, 7] : List Int) 3 #[.int .i64 4, .int .i64 7] rfl
  have hmb : m ≤ 100000000 := (by rw [← HLL.out]; have := met_len es ev1; rw [HL.out] at this; omega)
  have hrd := HRD.out.below hbl
  replace HIX := Lib.hid (HIX.out.below hbl)
  replace HV := Lib.hid (HV.out.below hbl HV.out.lt)
  replace HB := Lib.hid (below_next HB.out (by have := HB.out.size; omega) hbl)
  refine (ints_at B (metIds es ev1) m d HLL.out _ ([4, 7] : List Int) 2 2 rfl ⟨hmb, by omega⟩ _ hrd hrl true ⟨fun _ => (by rw [← HE.out]; exact met1 _ _), fun _ => rfl⟩).mono ?_
  rintro e wz ⟨rfl, hb⟩
  clear hrd hrl hbl hmb HRD HLL
  replace HIX := Lib.hid (HIX.out.below hb)
  replace HV := Lib.hid (HV.out.below hb HV.out.lt)
  replace HB := Lib.hid (below_next HB.out (by have := HB.out.size; omega) hb)
  clear hb
  obtain ⟨v0, v1, v2⟩ := cells3 HV.out
  have hlv := HV.out.lt
  go_wp2_with fail
  clear v0 v1 v2 hlv
  have hre : RdA (wz.alloc (.cells #[.string ⟨#[97]⟩, .int .i64 1, .int .i64 5, .string ⟨#[]⟩, .string ⟨#[98]⟩, .int .i64 1, .int .i64 5, .string ⟨#[]⟩] 49)) (some ⟨wz.heap.size, 0, none⟩) ev2 := rda_two wz ⟨[97], 1, 5, []⟩ ⟨[98], 1, 5, []⟩ 49
  have hb : Below wz.heap.size wz (wz.alloc (.cells #[.string ⟨#[97]⟩, .int .i64 1, .int .i64 5, .string ⟨#[]⟩, .string ⟨#[98]⟩, .int .i64 1, .int .i64 5, .string ⟨#[]⟩] 49)) := (gr1 wz _).below
  replace HIX := Lib.hid (HIX.out.below hb)
  replace HV := Lib.hid (HV.out.below hb HV.out.lt)
  replace HB := Lib.hid (below_next HB.out (by have := HB.out.size; omega) hb)
  clear hb
  refine (imeet_at g es 3 HL.out (by omega) (by rw [← HE.out]; exact met4 _ _) (by rw [← HE.out]; exact smE_len _ _) _ ev2 2 2 rfl (by rw [maxLen_num]; omega) ev2_bd _ HIX.out hre).mono ?_
  rintro e wy ⟨B, m, d, rfl, hl, hc, ho, hb⟩
  have hb := hb
  clear hre
  replace HIX := Lib.hid (HIX.out.below hb)
  replace HV := Lib.hid (HV.out.below hb HV.out.lt)
  replace HB := Lib.hid (below_next HB.out (by have := HB.out.size; omega) hb)
  clear hb
  have ho := ho.rd
  obtain ⟨_, _, e5, _, hrd⟩ := ho
  injection e5 with e5 e6 e7
  rw [← e5] at hrd
  clear e5 e6 e7
  have HRD := Lib.hid hrd
  have HLL := Lib.hid hl
  clear hrd hl hc
  go_wp2_with fail
  have hbl : Below wy.heap.size wy (wy.alloc (.cells #[.int .i64 9, .int .i64 4, .int .i64 7] 3)) := (gr1 wy _).below
  have hrl := rdz_lit layI wy ([9, 4, 7] : List Int) 3 #[.int .i64 9, .int .i64 4, .int .i64 7] rfl
  have hmb : m ≤ 100000000 := (by rw [← HLL.out]; have := met_len es ev2; rw [HL.out] at this; omega)
  have hrd := HRD.out.below hbl
  replace HIX := Lib.hid (HIX.out.below hbl)
  replace HV := Lib.hid (HV.out.below hbl HV.out.lt)
  replace HB := Lib.hid (below_next HB.out (by have := HB.out.size; omega) hbl)
  refine (ints_at B (metIds es ev2) m d HLL.out _ ([9, 4, 7] : List Int) 3 3 rfl ⟨hmb, by omega⟩ _ hrd hrl true ⟨fun _ => (by rw [← HE.out]; exact met2 _ _), fun _ => rfl⟩).mono ?_
  rintro e wz ⟨rfl, hb⟩
  clear hrd hrl hbl hmb HRD HLL
  replace HIX := Lib.hid (HIX.out.below hb)
  replace HV := Lib.hid (HV.out.below hb HV.out.lt)
  replace HB := Lib.hid (below_next HB.out (by have := HB.out.size; omega) hb)
  clear hb
  go_wp2_with fail
  have hre : RdA wz none [] := .inl rfl
  refine (imeet_at g es 3 HL.out (by omega) (by rw [← HE.out]; exact met4 _ _) (by rw [← HE.out]; exact smE_len _ _) _ [] 0 0 rfl (by rw [maxLen_num]; omega) (fun a ha => by cases ha) _ HIX.out hre).mono ?_
  rintro e wy ⟨B, m, d, rfl, hl, hc, ho, hb⟩
  have hb := hb
  clear hre
  replace HIX := Lib.hid (HIX.out.below hb)
  replace HV := Lib.hid (HV.out.below hb HV.out.lt)
  replace HB := Lib.hid (below_next HB.out (by have := HB.out.size; omega) hb)
  clear hb
  have ho := ho.rd
  obtain ⟨_, _, e5, _, hrd⟩ := ho
  injection e5 with e5 e6 e7
  rw [← e5] at hrd
  clear e5 e6 e7
  have HRD := Lib.hid hrd
  have HLL := Lib.hid hl
  clear hrd hl hc
  go_wp2_with fail
  have hbl : Below wy.heap.size wy (wy.alloc (.cells #[.int .i64 4] 3)) := (gr1 wy _).below
  have hrl := rdz_lit layI wy ([4] : List Int) 3 #[.int .i64 4] rfl
  have hmb : m ≤ 100000000 := (by rw [← HLL.out]; have := met_len es []; rw [HL.out] at this; omega)
  have hrd := HRD.out.below hbl
  replace HIX := Lib.hid (HIX.out.below hbl)
  replace HV := Lib.hid (HV.out.below hbl HV.out.lt)
  replace HB := Lib.hid (below_next HB.out (by have := HB.out.size; omega) hbl)
  refine (ints_at B (metIds es []) m d HLL.out _ ([4] : List Int) 1 1 rfl ⟨hmb, by omega⟩ _ hrd hrl true ⟨fun _ => (by rw [← HE.out]; exact met0 _ _), fun _ => rfl⟩).mono ?_
  rintro e wz ⟨rfl, hb⟩
  clear hrd hrl hbl hmb HRD HLL
  replace HIX := Lib.hid (HIX.out.below hb)
  replace HV := Lib.hid (HV.out.below hb HV.out.lt)
  replace HB := Lib.hid (below_next HB.out (by have := HB.out.size; omega) hb)
  clear hb
  go_wp2_with fail
  refine (size_at g es _ HIX.out 2 (by rw [← HE.out]; exact met3 _ _)).mono ?_
  rintro e wq ⟨rfl, rfl⟩
  go_wp2_with fail
  go_ret
  exact ⟨rfl, HB.out⟩
end Go.Proofs.Ytnfigjggjmncdaa
