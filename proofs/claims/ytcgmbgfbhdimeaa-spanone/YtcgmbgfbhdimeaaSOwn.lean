/- Rows that the call itself made: sorted, made compact, some of them taken away; the functions that tell which. -/
import Derived.Test.YtcgmbgfbhdimeaaSDel
import Derived.Test.YtcgmbgfbhdimeaaSCop
import Derived.Test.YtcgmbgfbhdimeaaSTrimM
namespace Go.Proofs.Ytcgmbgfbhdimeaa
open Go.RowKit Go.Sort Spans Op
/-- Only the block that a slice's address leads to has turned. -/
def Tch (A : Option Addr) (w w' : World) : Prop := w.grownBy w' (A.map (·.block))
theorem Tch.refl (A : Option Addr) (w : World) : Tch A w w := World.grownBy.refl w _
theorem Tch.trans {A : Option Addr} {a b c : World} (h : Tch A a b) (k : Tch A b c) : Tch A a c := World.grownBy.trans h k
theorem Tch.of_below {A : Option Addr} {w w' : World} (h : Below w.heap.size w w') : Tch A w w' := ⟨h.os, h.tape, h.output, h.size, fun k hk _ => h.block k hk⟩
theorem Tch.size {A : Option Addr} {w w' : World} (h : Tch A w w') : w.heap.size ≤ w'.heap.size := World.grownBy.size h
theorem Tch.blk {A : Option Addr} {w w' : World} {g : Nat} {t : TypeId} {cs : Array Value} (h : Tch A w w') (hB : Blk w g t cs) (hne : ∀ a, A = some a → a.block < g) : Blk w' g t cs :=
  (World.grownBy.block h g hB.lt (by
    cases A with
    | none => simp
    | some a => have := hne a rfl; simp; omega)).trans hB
theorem Tch.below {A : Option Addr} {B : Nat} {w0 w w' : World} (h : Tch A w w') (hb : Below B w0 w) (hB : B ≤ w.heap.size) (hA : ∀ a, A = some a → B ≤ a.block) : Below B w0 w' :=
  hb.grown h hB (by
    intro k hk
    cases A with
    | none => simp at hk
    | some a => simp at hk; subst hk; exact hA a rfl)
theorem own_addr {w : World} {base : Nat} {A : Option Addr} {n c : Nat} {l : List Val} (h : OwnW w base (.slice A n c) l) : ∀ a, A = some a → base ≤ a.block ∧ a.block < w.heap.size := by
  intro a ha
  subst ha
  rcases lies_of_own h with ⟨e, _⟩ | ⟨g, cap, sp, e, hb, _, _, hl, _⟩
  · cases e
  · injection e with e1 e2 e3
    injection e1 with e1
    subst e1
    exact ⟨hb, Blk.lt hl⟩
section
variable {w : World} {base : Nat} {A : Option Addr} {n c : Nat} {l : List Val}
set_option maxRecDepth 100000 in
theorem compact_none (w : World) : Calls Try.prog 60 #[.slice none 0 0] w fun e w' => e = .returned (.slice none 0 0) ∧ w' = w := by
  go_enter Try.func60, Try.ntmps60
  go_wp2_with fail
  go_ret
  exact ⟨rfl, rfl⟩
theorem sortV_own (hn : l.length = n) (hm : n ≤ 100000) (ho : OwnW w base (.slice A n c) l) :
    Calls Try.prog 59 #[.slice A n c, .func (.func 49) #[] #[]] w fun e w' =>
      e = .returned (.tuple #[]) ∧ ∃ out, out.Perm l ∧ SortedV out ∧ OwnW w' base (.slice A n c) out ∧ Tch A w w' := by
  rcases lies_of_own ho with ⟨e, hl⟩ | ⟨g, cap, sp, e, hb, hc, hcm, hl, hs⟩
  · injection e with e1 e2 e3
    subst e1; subst e2; subst e3; subst hl
    refine (sortV_none 0 none w).mono ?_
    rintro e w' ⟨rfl, rfl⟩
    exact ⟨rfl, [], List.Perm.refl _, List.Pairwise.nil, OwnK.none_ _ _, Tch.refl _ _⟩
  · injection e with e1 e2 e3
    subst e1; subst e3
    refine (sortV_at g l n c sp hn hm w hl).mono ?_
    rintro e w' ⟨rfl, out, hp, hS, hL, hT⟩
    have hlen : out.length = l.length := hp.length_eq
    refine ⟨rfl, out, hp, hS, ?_, hT⟩
    have := own_of_lies hL hb (by omega) hcm (by omega)
    rwa [hlen, hn] at this
theorem compactV_own (hn : l.length = n) (hm : n ≤ 100000) (hS : SortedV l) (ho : OwnW w base (.slice A n c) l) :
    Calls Try.prog 60 #[.slice A n c] w fun e w' =>
      ∃ out n', e = .returned (.slice A n' c) ∧ out.length = n' ∧ n' ≤ n ∧ RiseV out ∧ (∀ v, v ∈ out ↔ v ∈ l) ∧ OwnW w' base (.slice A n' c) out ∧ Tch A w w' := by
  rcases lies_of_own ho with ⟨e, hl⟩ | ⟨g, cap, sp, e, hb, hc, hcm, hl, hs⟩
  · injection e with e1 e2 e3
    subst e1; subst e2; subst e3; subst hl
    refine (compact_none w).mono ?_
    rintro e w' ⟨rfl, rfl⟩
    exact ⟨[], 0, rfl, rfl, Nat.le_refl _, List.Pairwise.nil, fun _ => Iff.rfl, OwnK.none_ _ _, Tch.refl _ _⟩
  · injection e with e1 e2 e3
    subst e1; subst e3
    refine (compactV_at g l n c sp hn hm (by omega) hcm hS w hl).mono ?_
    rintro e w' ⟨out, m, sp', rfl, hlen, hmn, hst, hmem, hL, hsz, hT⟩
    refine ⟨out, m, rfl, hlen, hmn, hst, hmem, ?_, hT⟩
    have := own_of_lies hL hb (by omega) hcm (by omega)
    rwa [hlen] at this
set_option maxRecDepth 100000 in
theorem delete_none (K : World → Prop) (gf : Nat) (lb : Array Value) (q : Val → Bool) (hp : PredK K gf lb q) (eg : ∀ args w, (callFunc gf args).run Try.prog w = .ok (.enter gf args) w) (w : World) (hk : K w) (hK : ∀ W W', K W → Grown W W' → K W') :
    Calls Try.prog 76 #[.slice none 0 0, .func (.func gf) #[] lb] w fun e w' => e = .returned (.slice none 0 0) ∧ Below w.heap.size w w' := by
  have hix := indexFuncV_at K gf lb q hp hK eg none [] 0 0 rfl (by omega) w (.inl rfl) hk
  clear hp hK hk
  go_enter Try.func76, Try.ntmps76
  go_wp2_with fail
  refine hix.mono ?_
  rintro e w1 ⟨r, rfl, hF, hg1⟩
  clear hix
  have hr : r = -1 := by
    rcases hF with ⟨h, _⟩ | ⟨k, hk, _⟩
    · exact h
    · simp at hk
  subst hr
  clear hF
  go_wp2_with fail
  go_ret
  exact ⟨rfl, hg1.below⟩
theorem deleteV_own (K : World → Prop) (gf : Nat) (lb : Array Value) (q : Val → Bool) (hp : PredK K gf lb q) (eg : ∀ args w, (callFunc gf args).run Try.prog w = .ok (.enter gf args) w) (hn : l.length = n) (hm : n ≤ 100000) (ho : OwnW w base (.slice A n c) l) (hk : K w) (hK : ∀ W W', K W → Tch A W W' → K W') :
    Calls Try.prog 76 #[.slice A n c, .func (.func gf) #[] lb] w fun e w' =>
      ∃ n', e = .returned (.slice A n' c) ∧ (l.filter fun v => !q v).length = n' ∧ n' ≤ n ∧ OwnW w' base (.slice A n' c) (l.filter fun v => !q v) ∧ Tch A w w' := by
  rcases lies_of_own ho with ⟨e, hl⟩ | ⟨g, cap, sp, e, hb, hc, hcm, hl, hs⟩
  · injection e with e1 e2 e3
    subst e1; subst e2; subst e3; subst hl
    refine (delete_none K gf lb q hp eg w hk (fun W W' h hg => hK W W' h (Tch.of_below hg.below))).mono ?_
    rintro e w' ⟨rfl, hb⟩
    exact ⟨0, rfl, rfl, Nat.le_refl _, OwnK.none_ _ _, Tch.of_below hb⟩
  · injection e with e1 e2 e3
    subst e1; subst e3
    refine (deleteFuncV_at K gf lb q hp eg g l n c sp hn hm (by omega) w hl hk hK).mono ?_
    rintro e w' ⟨m, sp', rfl, hlen, hmn, hL, hsz, hT⟩
    refine ⟨m, rfl, hlen, hmn, ?_, hT⟩
    have := own_of_lies hL hb (by omega) hcm (by omega)
    rwa [hlen] at this
end
/-- The box of a span that a function looks at: its ints. -/
def BoxN (G : Nat) (lo hi : Int) (W : World) : Prop := G < W.heap.size ∧ W.cell? ⟨G, 1, none⟩ = some (.int .i64 lo) ∧ W.cell? ⟨G, 2, none⟩ = some (.int .i64 hi)
def outN (lo hi : Int) (v : Val) : Bool := decide (v.i < lo) || decide (hi < v.i)
set_option maxRecDepth 100000 in
theorem predN_at (G : Nat) (lo hi : Int) : PredK (BoxN G lo hi) 77 #[.pointer (some ⟨G, 0, none⟩)] (outN lo hi) := by
  intro W x hK
  obtain ⟨hG, h1, h2⟩ := hK
  obtain ⟨xk, xi, xt⟩ := x
  show Calls Try.prog _ #[.agg #[.int .i64 xk, .int .i64 xi, .string ⟨xt.toArray⟩], .pointer (some ⟨G, 0, none⟩)] W _
  have hne : ¬ W.heap.size = G := by omega
  go_enter Try.func77, Try.ntmps77
  go_wp2_with fail
  all_goals (go_ret; refine ⟨ret_b ?_, gr1 _ _⟩; simp_all [outN])
  all_goals omega
def BoxT (G : Nat) (f t : List UInt8) (o : Bool) (W : World) : Prop := G < W.heap.size ∧ W.cell? ⟨G, 3, none⟩ = some (.string ⟨f.toArray⟩) ∧ W.cell? ⟨G, 4, none⟩ = some (.string ⟨t.toArray⟩) ∧ W.cell? ⟨G, 5, none⟩ = some (.bool o)
def outT (f t : List UInt8) (o : Bool) (v : Val) : Bool := bytesLess v.t f || (!o && !bytesLess v.t t)
set_option maxRecDepth 100000 in
theorem predT_at (G : Nat) (f t : List UInt8) (o : Bool) : PredK (BoxT G f t o) 78 #[.pointer (some ⟨G, 0, none⟩)] (outT f t o) := by
  intro W x hK
  obtain ⟨hG, h1, h2, h3⟩ := hK
  obtain ⟨xk, xi, xt⟩ := x
  show Calls Try.prog _ #[.agg #[.int .i64 xk, .int .i64 xi, .string ⟨xt.toArray⟩], .pointer (some ⟨G, 0, none⟩)] W _
  have hne : ¬ W.heap.size = G := by omega
  go_enter Try.func78, Try.ntmps78
  go_wp2_with fail
  all_goals (go_ret; refine ⟨ret_b ?_, gr1 _ _⟩; simp_all [outT])
end Go.Proofs.Ytcgmbgfbhdimeaa
