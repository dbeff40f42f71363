/- Package span: Meet of two spans of whatever kind. -/
import Derived.Test.YtcgmbgfbhdimeaaSMeet0
import Derived.Test.YtcgmbgfbhdimeaaSMeet1
import Derived.Test.YtcgmbgfbhdimeaaSMeet2
import Derived.Test.YtcgmbgfbhdimeaaSMeet3
namespace Spans
open Go.Op (bytesLess)
open Go.Proofs.Ytcgmbgfbhdimeaa (maxT minT)
theorem kind_any {a : Sp} (h : Canon a) (h4 : a.kind = 4) : a = any_ := by
  rcases h with rfl | rfl | h | h
  · simp [none_] at h4
  · rfl
  · exact absurd h4 (N_not4 h).1
  · exact absurd h4 (T_not4 h).1
theorem maxT_le (a b t : List UInt8) : bytesLess t (maxT a b) = false ↔ bytesLess t a = false ∧ bytesLess t b = false := by
  unfold maxT
  by_cases h : bytesLess a b = true
  · rw [if_pos h]
    exact ⟨fun g => ⟨le_trans (le_of_lt h) g, g⟩, fun g => g.2⟩
  · rw [if_neg h]
    have h' : bytesLess a b = false := by simpa using h
    exact ⟨fun g => ⟨g, le_trans h' g⟩, fun g => g.1⟩
theorem minT_lt (a b t : List UInt8) : bytesLess t (minT a b) = true ↔ bytesLess t a = true ∧ bytesLess t b = true := by
  unfold minT
  by_cases h : bytesLess b a = true
  · rw [if_pos h]
    exact ⟨fun g => ⟨Vals.less_trans _ _ _ g h, g⟩, fun g => g.2⟩
  · rw [if_neg h]
    have h' : bytesLess b a = false := by simpa using h
    exact ⟨fun g => ⟨g, lt_of_lt_of_le g h'⟩, fun g => g.1⟩
theorem maxT_short {a b : List UInt8} (ha : Short a) (hb : Short b) : Short (maxT a b) := by unfold maxT; split <;> assumption
theorem minT_short {a b : List UInt8} (ha : Short a) (hb : Short b) : Short (minT a b) := by unfold minT; split <;> assumption
end Spans
namespace Go.Proofs.Ytcgmbgfbhdimeaa
open Go.RowKit Go.Sort Spans Op
/-- What Meet tells. -/
def Meets (w : World) (a b : Sp) (e : Ending) (w' : World) : Prop := ∃ r, IsMeet a b r ∧ r.no.length ≤ a.no.length + b.no.length ∧ Gives w r e w'
theorem meet_at (a b : Sp) (ha : Canon a) (hb : Canon b) (A : Option Addr) (n c : Nat) (A' : Option Addr) (n' c' : Nat) (w : World) (hn : a.no.length = n) (hm : n ≤ 1000) (hn' : b.no.length = n') (hm' : n' ≤ 1000) (hr : RdW w A a.no) (hr' : RdW w A' b.no) :
    Calls Try.prog 13 #[spF a.kind a.lo a.hi a.frm a.to_ a.opn A n c, spF b.kind b.lo b.hi b.frm b.to_ b.opn A' n' c'] w (Meets w a b) := by
  by_cases h4 : a.kind = 4
  · have e := kind_any ha h4
    subst e
    refine (meet_left 0 0 [] [] false A n c b.kind b.lo b.hi b.frm b.to_ b.opn A' n' c' w b.no hn' (by omega) hr').mono ?_
    intro e w' h
    exact ⟨b, (meet_any hb).2, by omega, h⟩
  by_cases h4' : b.kind = 4
  · have e := kind_any hb h4'
    subst e
    refine (meet_right a.kind a.lo a.hi a.frm a.to_ a.opn A n c 0 0 [] [] false A' n' c' w a.no hn (by omega) hr h4).mono ?_
    intro e w' h
    exact ⟨a, (meet_any ha).1, by omega, h⟩
  by_cases hk : a.kind = b.kind
  · rcases ha with rfl | rfl | ha | ha
    · have e : b = none_ := kind_none hb hk.symm
      subst e
      refine (meet_0 0 0 A n c 0 0 A' n' c' w [] [] hn hm hn' hm' hr hr').mono ?_
      rintro e w' ⟨r, rfl, hl, h⟩
      exact ⟨none_, meet_none _ _ (.inl rfl), by simp [none_], h⟩
    · exact absurd rfl h4
    · have hb' : CanonN b := by
        rcases hb with rfl | rfl | hb | hb
        · exact absurd hk (N_not4 ha).2.2
        · exact absurd hk h4
        · exact hb
        · exact absurd (hk.trans hb.kind) (N_not4 ha).2.1
      obtain ⟨K, lo, hi, f, t, o, no⟩ := a
      obtain ⟨K', lo', hi', f', t', o', no'⟩ := b
      have e1 : f = [] := ha.frm
      have e2 : t = [] := ha.to_
      have e3 : o = false := ha.opn
      have e4 : f' = [] := hb'.frm
      have e5 : t' = [] := hb'.to_
      have e6 : o' = false := hb'.opn
      have e7 : K = K' := hk
      subst e1; subst e2; subst e3; subst e4; subst e5; subst e6; subst e7
      have hlow : lowest K ≤ max lo lo' := Int.le_trans ha.low (Int.le_max_left _ _)
      have hhigh : min hi hi' ≤ highest K := Int.le_trans (Int.min_le_left _ _) ha.high
      have hl : ∀ v ∈ no ++ no', v.k = K ∧ v.t = [] := fun v hv => by
        rcases List.mem_append.1 hv with h | h
        · exact ⟨(ha.no v h).1, (ha.no v h).2.1⟩
        · exact ⟨(hb'.no v h).1, (hb'.no v h).2.1⟩
      have hfin : ∀ r, IsInts K (max lo lo') (min hi hi') (no ++ no') r → IsMeet ⟨K, lo, hi, [], [], false, no⟩ ⟨K, lo', hi', [], [], false, no'⟩ r := fun r h =>
        meet_N ha hb' rfl (fun x => by show max lo lo' ≤ x ↔ lo ≤ x ∧ lo' ≤ x; omega) (fun x => by show x ≤ min hi hi' ↔ x ≤ hi ∧ x ≤ hi'; omega) (fun v => List.mem_append) h
      have hkk : K = 1 ∨ K = 3 := ha.kind
      rcases hkk with rfl | rfl
      · refine (meet_1 lo hi A n c lo' hi' A' n' c' w no no' hlow hhigh hl hn hm hn' hm' hr hr').mono ?_
        rintro e w' ⟨r, hi, hl, h⟩
        exact ⟨r, hfin r hi, by show r.no.length ≤ no.length + no'.length; dsimp only at hn hn'; omega, h⟩
      · refine (meet_3 lo hi A n c lo' hi' A' n' c' w no no' hlow hhigh hl hn hm hn' hm' hr hr').mono ?_
        rintro e w' ⟨r, hi, hl, h⟩
        exact ⟨r, hfin r hi, by show r.no.length ≤ no.length + no'.length; dsimp only at hn hn'; omega, h⟩
    · have hb' : CanonT b := by
        rcases hb with rfl | rfl | hb | hb
        · exact absurd hk (T_not4 ha).2
        · exact absurd hk h4
        · exact absurd (hk.symm.trans ha.kind) (N_not4 hb).2.1
        · exact hb
      obtain ⟨K, lo, hi, f, t, o, no⟩ := a
      obtain ⟨K', lo', hi', f', t', o', no'⟩ := b
      have e1 : lo = 0 := ha.lo
      have e2 : hi = 0 := ha.hi
      have e3 : lo' = 0 := hb'.lo
      have e4 : hi' = 0 := hb'.hi
      have e5 : K = 2 := ha.kind
      have e6 : K' = 2 := hb'.kind
      subst e1; subst e2; subst e3; subst e4; subst e5; subst e6
      have hl : ∀ v ∈ no ++ no', v.k = 2 ∧ v.i = 0 ∧ v.t.length ≤ 32 := fun v hv => by
        rcases List.mem_append.1 hv with h | h
        · exact ⟨(ha.no v h).1, (ha.no v h).2.1, (ha.no v h).2.2.1⟩
        · exact ⟨(hb'.no v h).1, (hb'.no v h).2.1, (hb'.no v h).2.2.1⟩
      have i1 : o = true → t = [] := ha.isOpn
      have i2 : o' = true → t' = [] := hb'.isOpn
      have s1 : o = false → Short t := fun h => (ha.shut h).1
      have s2 : o' = false → Short t' := fun h => (hb'.shut h).1
      refine (meet_2 f t o A n c f' t' o' A' n' c' w no no' _ rfl _ rfl (maxT_short ha.flen hb'.flen) ?_ ?_ hl hn hm hn' hm' hr hr').mono ?_
      · intro h
        cases o <;> cases o' <;> simp at h
        exact i2 rfl
      · intro h
        cases o <;> cases o' <;> simp at h
        · exact minT_short (s1 rfl) (s2 rfl)
        · exact s1 rfl
        · exact s2 rfl
      · rintro e w' ⟨r, hi, hl, h⟩
        refine ⟨r, meet_T ha hb' (fun x => maxT_le f f' x) (fun x => ?_) (fun v => List.mem_append) hi, by show r.no.length ≤ no.length + no'.length; dsimp only at hn hn'; omega, h⟩
        show _ ↔ (o = true ∨ bytesLess x t = true) ∧ (o' = true ∨ bytesLess x t' = true)
        cases o <;> cases o' <;> simp
        exact minT_lt t t' x
  · refine (meet_unlike a.kind a.lo a.hi a.frm a.to_ a.opn A n c b.kind b.lo b.hi b.frm b.to_ b.opn A' n' c' w h4 h4' hk).mono ?_
    intro e w' h
    exact ⟨none_, meet_kinds h4 h4' hk, by simp [none_], h⟩
end Go.Proofs.Ytcgmbgfbhdimeaa
