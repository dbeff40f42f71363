/- The small case that each statement of layer 5 begins with. -/
import Derived.Test.YtmecacgiakbclaaEMake
import Derived.Test.YtmecacgiakbclaaERight
import Derived.Test.YtmecacgiakbclaaEGet
namespace Go.Proofs.Ytmecacgiakbclaa
open Go.RowKit Go.Sort Ev
def aA : At := ⟨[97], 1, 5, []⟩
def aB : At := ⟨[98], 3, 1, []⟩
theorem sml_good : Made [aB, aA] 0 [aA, aB] :=
  made_good (by decide) (by decide) ⟨.swap _ _ _, by decide⟩
theorem sml_twice : Made [aA, ⟨[97], 3, 1, []⟩] 8 [] := made_twice (by decide) (by decide) (by decide)
theorem sml_bad : Made [⟨[97], 0, 0, []⟩] 1 [] := made_bad (by decide) ⟨_, List.mem_singleton.2 rfl, by decide⟩
theorem sml_right : decide (Right [aA, aB]) = true := decide_eq_true sml_good.right
theorem sml_wrong : decide (Right [aB, aA]) = false := by decide
theorem sml_b : find [aA, aB] [98] = some aB := by decide
theorem sml_c : find [aA, aB] [99] = none := by decide
theorem sml_len (es : List At) (h : ∀ a ∈ es, a.n.length ≤ 1 ∧ a.t.length = 0) : ∀ a ∈ es, a.n.length ≤ maxLen ∧ a.t.length ≤ maxLen := fun a ha => by
  obtain ⟨h1, h2⟩ := h a ha
  rw [maxLen_num]; omega
theorem makes_is {w : World} {es out : List At} {cd : Int} {e : Ending} {w' : World} (h : Makes w es e w') (hM : Made es cd out) {n : Nat} (hn : out.length = n) :
    ∃ A c, e = .returned (.tuple #[.slice A n c, .int .i64 cd]) ∧ n ≤ c ∧ RdA w' A out ∧ OwnA w' w.heap.size (.slice A n c) out ∧ Below w.heap.size w w' := by
  subst hn
  obtain ⟨v, cd', out', rfl, hM', ho, hb⟩ := h
  obtain ⟨rfl, rfl⟩ := hM.one hM'
  obtain ⟨A, c, rfl, hc, hr⟩ := ho.rd
  exact ⟨A, c, rfl, hc, hr, ho, hb⟩
theorem get_some (A : Option Addr) (es : List At) (n c : Nat) (hn : es.length = n) (hm : n ≤ maxLen) (s : List UInt8) (an : List UInt8) (ak ai : Int) (at_ : List UInt8) (hf : find es s = some ⟨an, ak, ai, at_⟩) (w : World) (hr : RdA w A es) :
    Calls Try.prog 15 #[.slice A n c, .string ⟨s.toArray⟩] w fun e w' => e = .returned (.tuple #[.agg #[.int .i64 ak, .int .i64 ai, .string ⟨at_.toArray⟩], .bool true]) ∧ Below w.heap.size w w' := by
  have h := get_at A es n c hn hm s w hr
  rw [hf] at h
  exact h
theorem get_none (A : Option Addr) (es : List At) (n c : Nat) (hn : es.length = n) (hm : n ≤ maxLen) (s : List UInt8) (hf : find es s = none) (w : World) (hr : RdA w A es) :
    Calls Try.prog 15 #[.slice A n c, .string ⟨s.toArray⟩] w fun e w' => e = .returned (.tuple #[.agg #[.int .i64 0, .int .i64 0, .string ⟨#[]⟩], .bool false]) ∧ Below w.heap.size w w' := by
  have h := get_at A es n c hn hm s w hr
  rw [hf] at h
  exact h
theorem right_is (A : Option Addr) (es : List At) (n c : Nat) (hn : es.length = n) (hm : n ≤ maxLen) (hb : ∀ a ∈ es, a.n.length ≤ maxLen ∧ a.t.length ≤ maxLen) (b : Bool) (hR : decide (Right es) = b) (w : World) (hr : RdA w A es) :
    Calls Try.prog 13 #[.slice A n c] w fun e w' => e = .returned (.bool b) ∧ Below w.heap.size w w' :=
  (eright_at A es n c hn hm hb w hr).mono fun _ _ ⟨h, k⟩ => ⟨by rw [h, hR], k.below⟩
/-- What the small case keeps in mind. -/
structure Kept (w : World) (p q : Nat) : Prop where
  v : Blk w p 30 #[.int .i64 1, .int .i64 5, .string ⟨#[]⟩]
  u : Blk w q 30 #[.int .i64 3, .int .i64 1, .string ⟨#[]⟩]
theorem Kept.below {w w' : World} {p q : Nat} (h : Kept w p q) (hb : Below w.heap.size w w') : Kept w' p q := ⟨h.v.below hb h.v.lt, h.u.below hb h.u.lt⟩
theorem below_cells (w : World) (cs : Array Value) (t : TypeId) : Below w.heap.size w (w.alloc (.cells cs t)) := (Below.refl _ _).alloc (Nat.le_refl _) _
set_option maxRecDepth 100000 in
set_option maxHeartbeats 1600000 in
theorem small_any (w : World) :
    Calls Try.prog 8 #[] w fun e w' => e = .returned (.bool true) ∧ Below w.heap.size w w' := by
  have hK : Kept ((w.alloc (.cells #[.int .i64 1, .int .i64 5, .string ⟨#[]⟩] 30)).alloc (.cells #[.int .i64 3, .int .i64 1, .string ⟨#[]⟩] 30)) w.heap.size (w.heap.size + 1) :=
    ⟨(Blk.new w _ _).alloc _, by simpa using Blk.new (w.alloc (.cells #[.int .i64 1, .int .i64 5, .string ⟨#[]⟩] 30)) 30 #[.int .i64 3, .int .i64 1, .string ⟨#[]⟩]⟩
  have hb0 : Below w.heap.size w ((w.alloc (.cells #[.int .i64 1, .int .i64 5, .string ⟨#[]⟩] 30)).alloc (.cells #[.int .i64 3, .int .i64 1, .string ⟨#[]⟩] 30)) := ((Below.refl _ _).alloc (Nat.le_refl _) _).alloc (by simp) _
  have hsz : ((w.alloc (.cells #[.int .i64 1, .int .i64 5, .string ⟨#[]⟩] 30)).alloc (.cells #[.int .i64 3, .int .i64 1, .string ⟨#[]⟩] 30)).heap.size = w.heap.size + 1 + 1 := by simp
  go_enter Try.func8, Try.ntmps8
  go_wp2_with fail
  generalize (w.alloc (.cells #[.int .i64 1, .int .i64 5, .string ⟨#[]⟩] 30)).alloc (.cells #[.int .i64 3, .int .i64 1, .string ⟨#[]⟩] 30) = w1 at *
  have hr := rda_two w1 aB aA 32
  rw [hsz] at hr
  have hb1 := below_cells w1 #[.string ⟨#[98]⟩, .int .i64 3, .int .i64 1, .string ⟨#[]⟩, .string ⟨#[97]⟩, .int .i64 1, .int .i64 5, .string ⟨#[]⟩] 32
  refine (make_at _ [aB, aA] 2 2 rfl (by decide) (sml_len _ (by decide)) _ hr).mono ?_
  intro e w2 hm
  obtain ⟨Ae, ce, rfl, hce, hre, _, hb2⟩ := makes_is hm sml_good (n := 2) rfl
  have hb12 := below_next hb1 (Nat.le_refl _) hb2
  have hK2 := hK.below hb12
  have hbw := below_next hb0 (Nat.le_refl _) hb12
  clear hm hr hb1 hb2 hb12 hK hb0 hsz
  obtain ⟨v0, v1, v2, _, _, _⟩ := blk3 hK2.v
  obtain ⟨u0, u1, u2, _, _, _⟩ := blk3 hK2.u
  go_wp2_with fail
  clear v0 v1 v2 u0 u1 u2
  have hr := rda_two w2 aA ⟨[97], 3, 1, []⟩ 32
  have hb1 := below_cells w2 #[.string ⟨#[97]⟩, .int .i64 1, .int .i64 5, .string ⟨#[]⟩, .string ⟨#[97]⟩, .int .i64 3, .int .i64 1, .string ⟨#[]⟩] 32
  refine (make_at _ [aA, ⟨[97], 3, 1, []⟩] 2 2 rfl (by decide) (sml_len _ (by decide)) _ hr).mono ?_
  intro e w3 hm
  obtain ⟨A3, c3, rfl, _, _, _, hb2⟩ := makes_is hm sml_twice (n := 0) rfl
  have hb12 := below_next hb1 (Nat.le_refl _) hb2
  replace hK2 := hK2.below hb12
  replace hre := hre.below hb12
  replace hbw := below_next hbw (Nat.le_refl _) hb12
  clear hm hr hb1 hb2 hb12
  go_wp2_with fail
  have hr := rda_one w3 ⟨[97], 0, 0, []⟩ 32
  have hb1 := below_cells w3 #[.string ⟨#[97]⟩, .int .i64 0, .int .i64 0, .string ⟨#[]⟩] 32
  refine (make_at _ [⟨[97], 0, 0, []⟩] 1 1 rfl (by decide) (sml_len _ (by decide)) _ hr).mono ?_
  intro e w4 hm
  obtain ⟨A4, c4, rfl, _, _, _, hb2⟩ := makes_is hm sml_bad (n := 0) rfl
  have hb12 := below_next hb1 (Nat.le_refl _) hb2
  replace hK2 := hK2.below hb12
  replace hre := hre.below hb12
  replace hbw := below_next hbw (Nat.le_refl _) hb12
  clear hm hr hb1 hb2 hb12
  go_wp2_with fail
  refine (get_some Ae [aA, aB] 2 ce rfl (by decide) [98] [98] 3 1 [] sml_b w4 hre).mono ?_
  rintro e w5 ⟨rfl, hb1⟩
  replace hK2 := hK2.below hb1
  replace hre := hre.below hb1
  replace hbw := below_next hbw (Nat.le_refl _) hb1
  clear hb1
  go_wp2_with fail
  have hX := Blk.new w5 30 #[.int .i64 3, .int .i64 1, .string ⟨#[]⟩]
  have hb1 := below_cells w5 #[.int .i64 3, .int .i64 1, .string ⟨#[]⟩] 30
  replace hK2 := hK2.below hb1
  replace hre := hre.below hb1
  replace hbw := below_next hbw (Nat.le_refl _) hb1
  generalize w5.alloc (.cells #[.int .i64 3, .int .i64 1, .string ⟨#[]⟩] 30) = w6 at *
  generalize w5.heap.size = x5 at *
  clear hb1
  refine (get_none Ae [aA, aB] 2 ce rfl (by decide) [99] sml_c w6 hre).mono ?_
  rintro e w7 ⟨rfl, hb1⟩
  replace hK2 := hK2.below hb1
  replace hre := hre.below hb1
  replace hX := hX.below hb1 hX.lt
  replace hbw := below_next hbw (Nat.le_refl _) hb1
  clear hb1
  have hb1 := below_cells w7 #[.int .i64 0, .int .i64 0, .string ⟨#[]⟩] 30
  have hsz : (w7.alloc (.cells #[.int .i64 0, .int .i64 0, .string ⟨#[]⟩] 30)).heap.size = w7.heap.size + 1 := by simp
  obtain ⟨v0, v1, v2, _, _, _⟩ := blk3 hK2.v
  obtain ⟨u0, u1, u2, _, _, _⟩ := blk3 hK2.u
  have l1 := hK2.v.lt
  have l2 := hK2.u.lt
  go_wp2_with fail
  clear v0 v1 v2 u0 u1 u2 l1 l2
  replace hK2 := hK2.below hb1
  replace hre := hre.below hb1
  replace hX := hX.below hb1 hX.lt
  replace hbw := below_next hbw (Nat.le_refl _) hb1
  generalize w7.alloc (.cells #[.int .i64 0, .int .i64 0, .string ⟨#[]⟩] 30) = w8 at *
  have hr := rda_two w8 aA aB 32
  rw [hsz] at hr
  clear hb1 hsz
  have hb1 := below_cells w8 #[.string ⟨#[97]⟩, .int .i64 1, .int .i64 5, .string ⟨#[]⟩, .string ⟨#[98]⟩, .int .i64 3, .int .i64 1, .string ⟨#[]⟩] 32
  replace hK2 := hK2.below hb1
  replace hre := hre.below hb1
  replace hX := hX.below hb1 hX.lt
  replace hbw := below_next hbw (Nat.le_refl _) hb1
  refine (same_at Ae _ [aA, aB] 2 ce 2 rfl (by decide) _ hre hr).mono ?_
  rintro e w9 ⟨rfl, hb2⟩
  replace hK2 := hK2.below hb2
  replace hre := hre.below hb2
  replace hX := hX.below hb2 hX.lt
  replace hbw := below_next hbw (Nat.le_refl _) hb2
  clear hb1 hb2 hr
  have hG := eqGuardV
  obtain ⟨u0, u1, u2, _, _, _⟩ := blk3 hK2.u
  obtain ⟨x0, x1, x2, _, _, _⟩ := blk3 hX
  go_wp2_with fail
  clear u0 u1 u2 x0 x1 x2 hX
  refine (right_is Ae [aA, aB] 2 ce rfl (by decide) (sml_len _ (by decide)) true sml_right w9 hre).mono ?_
  rintro e w10 ⟨rfl, hb2⟩
  replace hK2 := hK2.below hb2
  replace hbw := below_next hbw (Nat.le_refl _) hb2
  clear hb2 hre
  obtain ⟨v0, v1, v2, _, _, _⟩ := blk3 hK2.v
  obtain ⟨u0, u1, u2, _, _, _⟩ := blk3 hK2.u
  go_wp2_with fail
  clear v0 v1 v2 u0 u1 u2
  have hr := rda_two w10 aB aA 32
  have hb1 := below_cells w10 #[.string ⟨#[98]⟩, .int .i64 3, .int .i64 1, .string ⟨#[]⟩, .string ⟨#[97]⟩, .int .i64 1, .int .i64 5, .string ⟨#[]⟩] 32
  refine (right_is _ [aB, aA] 2 2 rfl (by decide) (sml_len _ (by decide)) false sml_wrong _ hr).mono ?_
  rintro e w11 ⟨rfl, hb2⟩
  go_wp2_with fail
  go_ret
  exact ⟨rfl, below_next (below_next hbw (Nat.le_refl _) hb1) (Nat.le_refl _) hb2⟩
end Go.Proofs.Ytmecacgiakbclaa
