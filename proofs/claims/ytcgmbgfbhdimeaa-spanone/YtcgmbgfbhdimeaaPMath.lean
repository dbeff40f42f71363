/- Package pred as plain mathematics: which predicates are right, of what they hold, their bytes, and what is read. No program. -/
import Derived.Test.YtcgmbgfbhdimeaaVMath
namespace Preds
open Wire
def side (k i : Int) (t : List UInt8) : Bool := Vals.right k i t && decide (t.length ≤ 32)
/-- What an Op asks of a value against which attributes are held. -/
def asks (o k i : Int) (t : List UInt8) : Bool :=
  if o = 8 then decide (k = 0 ∧ i = 0 ∧ t = []) else if o = 7 then side k i t && decide (k = 2) else decide (1 ≤ o) && decide (o ≤ 6) && side k i t
def right (n : List UInt8) (o k i : Int) (t : List UInt8) : Bool := decide (1 ≤ n.length) && decide (n.length ≤ 16) && asks o k i t
def allows (o c : Int) : Bool :=
  if o = 1 then c == 0 else if o = 2 then c != 0 else if o = 3 then decide (c < 0) else if o = 4 then decide (c ≤ 0) else if o = 5 then decide (0 < c) else if o = 6 then decide (0 ≤ c) else false
def begins (t p : List UInt8) : Bool := decide (p.length ≤ t.length) && decide (t.take p.length = p)
/-- Of a right predicate and a right value. -/
def met (o k i : Int) (t : List UInt8) (k' i' : Int) (t' : List UInt8) : Bool :=
  if o = 8 then true else decide (k' = k) && (if o = 7 then begins t' t else allows o (Vals.cmp k' i' t' k i t))
def holds (n : List UInt8) (o k i : Int) (t : List UInt8) (k' i' : Int) (t' : List UInt8) : Bool := right n o k i t && Vals.right k' i' t' && met o k i t k' i' t'
def bytes (n : List UInt8) (o k i : Int) (t : List UInt8) : List UInt8 := text n ++ (put o.toNat ++ (if o = 8 then [] else Vals.lay k i t))
def lay (n : List UInt8) (o k i : Int) (t : List UInt8) : List UInt8 := if right n o k i t then bytes n o k i t else []

def nameS (s : St) : St := if s.textV 16 = [] then (s.textS 16).fail 3 else s.textS 16
def opS (s : St) : St := if s.uptoV 8 = 0 then (s.uptoS 8).fail 3 else s.uptoS 8
def wrong (o k : Int) (t : List UInt8) : Bool := (decide (o = 7) && decide (k ≠ 2)) || decide (32 < t.length)
def sideS (s : St) (o : Int) : St := if wrong o (Vals.getK s) (Vals.getT s) then (Vals.getS s).fail 3 else Vals.getS s
def rawO (s : St) : Nat := (nameS s).uptoV 8
def behind (s : St) : St := opS (nameS s)
def getS (s : St) : St := if rawO s = 8 then behind s else sideS (behind s) (rawO s : Int)
def rawK (s : St) : Int := if rawO s = 8 then 0 else Vals.getK (behind s)
def rawI (s : St) : Int := if rawO s = 8 then 0 else Vals.getI (behind s)
def rawT (s : St) : List UInt8 := if rawO s = 8 then [] else Vals.getT (behind s)
def getN (s : St) : List UInt8 := if (getS s).err = 0 then s.textV 16 else []
def getO (s : St) : Int := if (getS s).err = 0 then (rawO s : Int) else 0
def getK (s : St) : Int := if (getS s).err = 0 then rawK s else 0
def getI (s : St) : Int := if (getS s).err = 0 then rawI s else 0
def getT (s : St) : List UInt8 := if (getS s).err = 0 then rawT s else []

theorem get_bad (s : St) (h : (getS s).err ≠ 0) : getN s = [] ∧ getO s = 0 ∧ getK s = 0 ∧ getI s = 0 ∧ getT s = [] := by
  unfold getN getO getK getI getT
  rw [if_neg h, if_neg h, if_neg h, if_neg h, if_neg h]
  exact ⟨rfl, rfl, rfl, rfl, rfl⟩
theorem get_good (s : St) (h : (getS s).err = 0) : getN s = s.textV 16 ∧ getO s = (rawO s : Int) ∧ getK s = rawK s ∧ getI s = rawI s ∧ getT s = rawT s := by
  unfold getN getO getK getI getT
  rw [if_pos h, if_pos h, if_pos h, if_pos h, if_pos h]
  exact ⟨rfl, rfl, rfl, rfl, rfl⟩
theorem fail_err (s : St) (e : Int) (he : e ≠ 0) : (s.fail e).err ≠ 0 := by
  unfold St.fail
  split
  · exact he
  · rename_i h
    intro h0
    exact h ⟨h0, he⟩
theorem fail_stuck (s : St) (e : Int) (h : s.err ≠ 0) : s.fail e = s := by
  unfold St.fail
  rw [if_neg (fun k => h k.1)]
theorem nameS_fine {s : St} (h : s.fine) : (nameS s).fine := by
  unfold nameS
  split
  · exact St.fail_fine (St.textS_fine h 16) 3
  · exact St.textS_fine h 16
theorem opS_fine {s : St} (h : s.fine) : (opS s).fine := by
  unfold opS
  split
  · exact St.fail_fine (St.uptoS_fine h 8) 3
  · exact St.uptoS_fine h 8
theorem sideS_fine {s : St} (h : s.fine) (o : Int) : (sideS s o).fine := by
  unfold sideS
  split
  · exact St.fail_fine (Vals.getS_fine h) 3
  · exact Vals.getS_fine h
theorem getS_fine {s : St} (h : s.fine) : (getS s).fine := by
  unfold getS behind
  split
  · exact opS_fine (nameS_fine h)
  · exact sideS_fine (opS_fine (nameS_fine h)) _
theorem upto_le (s : St) (m : Nat) : s.uptoV (m : Int) ≤ m := by
  unfold St.uptoV St.over
  split
  · omega
  · rename_i h
    simp at h; omega
theorem rawO_le (s : St) : rawO s ≤ 8 := upto_le (nameS s) 8
/-! Errors stay. -/
theorem numS_err {s : St} (h : s.err ≠ 0) : s.numS.err = s.err := by
  unfold St.numS
  split
  · rfl
  · rw [fail_stuck s _ h]
theorem uptoS_err {s : St} (h : s.err ≠ 0) (m : Int) : (s.uptoS m).err = s.err := by
  unfold St.uptoS
  split
  · rw [fail_stuck _ _ (by rw [numS_err h]; exact h), numS_err h]
  · exact numS_err h
theorem textS_err {s : St} (h : s.err ≠ 0) (m : Int) : (s.textS m).err = s.err := by
  unfold St.textS
  split
  · rw [fail_stuck _ _ (by rw [uptoS_err h]; exact h), uptoS_err h]
  · exact uptoS_err h m
theorem vgetS_err {s : St} (h : s.err ≠ 0) : (Vals.getS s).err = s.err := by
  have hu := uptoS_err h 3
  have h' : (s.uptoS 3).err ≠ 0 := by rw [hu]; exact h
  unfold Vals.getS
  split
  · rw [numS_err h', hu]
  · split
    · rw [textS_err h', hu]
    · split
      · rw [uptoS_err h', hu]
      · rw [fail_stuck _ _ h', hu]
theorem opS_err {s : St} (h : s.err ≠ 0) : (opS s).err = s.err := by
  unfold opS
  split
  · rw [fail_stuck _ _ (by rw [uptoS_err h]; exact h), uptoS_err h]
  · exact uptoS_err h 8
theorem sideS_err {s : St} (h : s.err ≠ 0) (o : Int) : (sideS s o).err = s.err := by
  unfold sideS
  split
  · rw [fail_stuck _ _ (by rw [vgetS_err h]; exact h), vgetS_err h]
  · exact vgetS_err h
theorem getS_behind (s : St) (h : (getS s).err = 0) : (behind s).err = 0 := by
  by_cases hb : (behind s).err = 0
  · exact hb
  · exfalso
    unfold getS at h
    split at h
    · exact hb h
    · rw [sideS_err hb] at h; exact hb h
theorem behind_name (s : St) (h : (behind s).err = 0) : (nameS s).err = 0 := by
  by_cases hb : (nameS s).err = 0
  · exact hb
  · exfalso
    unfold behind at h
    rw [opS_err hb] at h; exact hb h
/-! What was laid is read as it was. -/
theorem text_put16 (t : List UInt8) (r : List UInt8) (h : t.length ≤ 16) : (St.mk (text t ++ r) 0).textV 16 = t ∧ (St.mk (text t ++ r) 0).textS 16 = ⟨r, 0⟩ := by
  have e : text t ++ r = put t.length ++ (t ++ r) := by unfold text; simp
  rw [e]
  obtain ⟨h1, h2⟩ := Vals.upto_put 16 t.length (t ++ r) h (by omega)
  rw [show ((16 : Nat) : Int) = 16 from rfl] at h1 h2
  refine ⟨?_, ?_⟩
  · unfold St.textV
    rw [h1, h2, if_neg (by simp)]
    simp
  · unfold St.textS
    rw [h1, h2, if_neg (by simp)]
    simp
theorem right_parts {n : List UInt8} {o k i : Int} {t : List UInt8} (h : right n o k i t = true) : 1 ≤ n.length ∧ n.length ≤ 16 ∧ asks o k i t = true := by
  unfold right at h
  simp only [Bool.and_eq_true, decide_eq_true_eq] at h
  exact ⟨h.1.1, h.1.2, h.2⟩
/-- OpExists, or a value of at most thirty-two bytes. -/
theorem asks_cases {o k i : Int} {t : List UInt8} (h : asks o k i t = true) : (o = 8 ∧ k = 0 ∧ i = 0 ∧ t = []) ∨ (o ≠ 8 ∧ 1 ≤ o ∧ o ≤ 7 ∧ Vals.right k i t = true ∧ t.length ≤ 32 ∧ (o = 7 → k = 2)) := by
  unfold asks at h
  by_cases h8 : o = 8
  · rw [if_pos h8] at h
    simp only [decide_eq_true_eq] at h
    exact .inl ⟨h8, h⟩
  · rw [if_neg h8] at h
    right
    by_cases h7 : o = 7
    · rw [if_pos h7] at h
      simp only [side, Bool.and_eq_true, decide_eq_true_eq] at h
      exact ⟨h8, by omega, by omega, h.1.1, h.1.2, fun _ => h.2⟩
    · rw [if_neg h7] at h
      simp only [side, Bool.and_eq_true, decide_eq_true_eq] at h
      exact ⟨h8, h.1.1, by omega, h.2.1, h.2.2, fun e => absurd e h7⟩
theorem asks_of {o k i : Int} {t : List UInt8} (h8 : o ≠ 8) (h1 : 1 ≤ o) (h2 : o ≤ 7) (hr : Vals.right k i t = true) (ht : t.length ≤ 32) (h7 : o = 7 → k = 2) : asks o k i t = true := by
  unfold asks side
  rw [if_neg h8, hr]
  by_cases e : o = 7
  · rw [if_pos e, h7 e]; simpa using ht
  · rw [if_neg e]
    simp only [Bool.true_and, Bool.and_eq_true, decide_eq_true_eq]
    exact ⟨⟨h1, by omega⟩, ht⟩
theorem get_lay (n : List UInt8) (o k i : Int) (t r : List UInt8) (h : right n o k i t = true) (h1 : -9223372036854775808 ≤ i) (h2 : i ≤ 9223372036854775807) :
    getS ⟨lay n o k i t ++ r, 0⟩ = ⟨r, 0⟩ ∧ getN ⟨lay n o k i t ++ r, 0⟩ = n ∧ getO ⟨lay n o k i t ++ r, 0⟩ = o ∧ getK ⟨lay n o k i t ++ r, 0⟩ = k ∧ getI ⟨lay n o k i t ++ r, 0⟩ = i ∧ getT ⟨lay n o k i t ++ r, 0⟩ = t := by
  obtain ⟨a1, a2, ha⟩ := right_parts h
  unfold lay
  rw [if_pos h]
  unfold bytes
  rw [List.append_assoc, List.append_assoc]
  generalize hrest : (if o = 8 then [] else Vals.lay k i t) ++ r = q
  obtain ⟨e1, e2⟩ := text_put16 n (put o.toNat ++ q) a2
  have hN : nameS ⟨text n ++ (put o.toNat ++ q), 0⟩ = ⟨put o.toNat ++ q, 0⟩ := by
    unfold nameS
    rw [e1, e2, if_neg (by intro hn; rw [hn] at a1; simp at a1)]
  have ho : 1 ≤ o ∧ o ≤ 8 := by rcases asks_cases ha with ⟨rfl, _⟩ | ⟨_, b1, b2, _⟩ <;> omega
  obtain ⟨e3, e4⟩ := Vals.upto_put 8 o.toNat q (by omega) (by omega)
  rw [show ((8 : Nat) : Int) = 8 from rfl] at e3 e4
  have hO : rawO ⟨text n ++ (put o.toNat ++ q), 0⟩ = o.toNat := by unfold rawO; rw [hN, e3]
  have hB : behind ⟨text n ++ (put o.toNat ++ q), 0⟩ = ⟨q, 0⟩ := by
    unfold behind opS
    rw [hN, e3, e4, if_neg (by omega)]
  generalize (St.mk (text n ++ (put o.toNat ++ q)) 0) = s at *
  rcases asks_cases ha with ⟨rfl, rfl, rfl, rfl⟩ | ⟨h8, b1, b2, b3, b4, b5⟩
  · rw [if_pos rfl, List.nil_append] at hrest
    subst hrest
    replace hO : rawO s = 8 := hO
    have hS : getS s = ⟨r, 0⟩ := by unfold getS; rw [hO, if_pos rfl, hB]
    obtain ⟨g1, g2, g3, g4, g5⟩ := get_good s (by rw [hS])
    refine ⟨hS, g1.trans e1, ?_, ?_, ?_, ?_⟩
    · rw [g2, hO]; rfl
    · rw [g3]; unfold rawK; rw [hO]; rfl
    · rw [g4]; unfold rawI; rw [hO]; rfl
    · rw [g5]; unfold rawT; rw [hO]; rfl
  · rw [if_neg h8] at hrest
    have ne : ¬ o.toNat = 8 := by omega
    obtain ⟨v1, v2, v3, v4⟩ := Vals.get_lay k i t r b3 h1 h2
    rw [hrest] at v1 v2 v3 v4
    have hS : getS s = ⟨r, 0⟩ := by
      unfold getS
      rw [hO, if_neg ne, hB]
      unfold sideS
      rw [v1, v2, v4, if_neg]
      unfold wrong
      simp only [Bool.or_eq_true, Bool.and_eq_true, decide_eq_true_eq]
      rintro (⟨c1, c2⟩ | c)
      · exact c2 (b5 (by omega))
      · omega
    obtain ⟨g1, g2, g3, g4, g5⟩ := get_good s (by rw [hS])
    refine ⟨hS, g1.trans e1, ?_, ?_, ?_, ?_⟩
    · rw [g2, hO]; omega
    · rw [g3]; unfold rawK; rw [hO, if_neg ne, hB]; exact v2
    · rw [g4]; unfold rawI; rw [hO, if_neg ne, hB]; exact v3
    · rw [g5]; unfold rawT; rw [hO, if_neg ne, hB]; exact v4
/-! What is read was laid just so, and is right. -/
theorem get_ok (b : List UInt8) (h : (getS ⟨b, 0⟩).err = 0) :
    ∃ j, j ≤ b.length ∧ getS ⟨b, 0⟩ = ⟨b.drop j, 0⟩ ∧ right (getN ⟨b, 0⟩) (getO ⟨b, 0⟩) (getK ⟨b, 0⟩) (getI ⟨b, 0⟩) (getT ⟨b, 0⟩) = true ∧ lay (getN ⟨b, 0⟩) (getO ⟨b, 0⟩) (getK ⟨b, 0⟩) (getI ⟨b, 0⟩) (getT ⟨b, 0⟩) = b.take j := by
  obtain ⟨g1, g2, g3, g4, g5⟩ := get_good _ h
  have hb := getS_behind _ h
  have hn := behind_name _ hb
  have hne : (St.mk b 0).textV 16 ≠ [] := by
    intro e
    unfold nameS at hn
    rw [if_pos e] at hn
    exact fail_err _ 3 (by decide) hn
  have hN : nameS ⟨b, 0⟩ = (St.mk b 0).textS 16 := by unfold nameS; rw [if_neg hne]
  rw [hN] at hn
  rcases St.text_or b 16 with ⟨c1, _⟩ | ⟨j, d1, d2, d3, _⟩
  · exact absurd hn c1
  · have hno : rawO ⟨b, 0⟩ ≠ 0 := by
      intro e
      unfold behind opS at hb
      unfold rawO at e
      rw [if_pos e] at hb
      exact fail_err _ 3 (by decide) hb
    have hO : rawO ⟨b, 0⟩ = (St.mk (b.drop j) 0).uptoV 8 := by unfold rawO; rw [hN, d2]
    have hB : behind ⟨b, 0⟩ = (St.mk (b.drop j) 0).uptoS 8 := by
      unfold behind opS
      rw [hN, d2, if_neg (by rw [← hO]; exact hno)]
    rw [hB] at hb
    rcases Vals.upto_or (b.drop j) 8 (by decide) with ⟨c1, _⟩ | ⟨m, f1, f2, f3, f4⟩
    · exact absurd hb c1
    · rw [← hO] at f3 f4
      rw [f2] at hB
      rw [List.length_drop] at f1
      have hlN := Vals.textV_le (St.mk b 0) 16
      have hpN : 1 ≤ ((St.mk b 0).textV 16).length := by
        rcases hq : (St.mk b 0).textV 16 with _ | ⟨x, l⟩
        · exact absurd hq hne
        · simp
      have hlN' : ((St.mk b 0).textV 16).length ≤ 16 := hlN
      by_cases h8 : rawO ⟨b, 0⟩ = 8
      · have hS : getS ⟨b, 0⟩ = ⟨b.drop (j + m), 0⟩ := by unfold getS; rw [if_pos h8, hB, List.drop_drop]
        have k1 : getK ⟨b, 0⟩ = 0 := by rw [g3]; unfold rawK; rw [if_pos h8]
        have k2 : getI ⟨b, 0⟩ = 0 := by rw [g4]; unfold rawI; rw [if_pos h8]
        have k3 : getT ⟨b, 0⟩ = [] := by rw [g5]; unfold rawT; rw [if_pos h8]
        have k4 : getO ⟨b, 0⟩ = 8 := by rw [g2, h8]; rfl
        have hr : right (getN ⟨b, 0⟩) (getO ⟨b, 0⟩) (getK ⟨b, 0⟩) (getI ⟨b, 0⟩) (getT ⟨b, 0⟩) = true := by
          rw [k1, k2, k3, k4, g1]
          unfold right asks
          simp [hpN, hlN']
        refine ⟨j + m, by omega, hS, hr, ?_⟩
        unfold lay
        rw [if_pos hr]
        unfold bytes
        rw [k4, g1, if_pos rfl, d3, List.append_nil, List.take_add]
        rw [h8] at f3
        congr 1
      · have hS' : getS ⟨b, 0⟩ = sideS ⟨(b.drop j).drop m, 0⟩ (rawO ⟨b, 0⟩ : Int) := by unfold getS; rw [if_neg h8, hB]
        have hw : wrong (rawO ⟨b, 0⟩ : Int) (Vals.getK ⟨(b.drop j).drop m, 0⟩) (Vals.getT ⟨(b.drop j).drop m, 0⟩) = false := by
          cases hq : wrong (rawO ⟨b, 0⟩ : Int) (Vals.getK ⟨(b.drop j).drop m, 0⟩) (Vals.getT ⟨(b.drop j).drop m, 0⟩) with
          | false => rfl
          | true =>
            rw [hS'] at h
            unfold sideS at h
            rw [if_pos hq] at h
            exact absurd h (fail_err _ 3 (by decide))
        have hS2 : getS ⟨b, 0⟩ = Vals.getS ⟨(b.drop j).drop m, 0⟩ := by rw [hS']; unfold sideS; rw [if_neg (by rw [hw]; simp)]
        rw [hS2] at h
        obtain ⟨p, q1, q2, q3, q4⟩ := Vals.get_ok ((b.drop j).drop m) h
        have k1 : getK ⟨b, 0⟩ = Vals.getK ⟨(b.drop j).drop m, 0⟩ := by rw [g3]; unfold rawK; rw [if_neg h8, hB]
        have k2 : getI ⟨b, 0⟩ = Vals.getI ⟨(b.drop j).drop m, 0⟩ := by rw [g4]; unfold rawI; rw [if_neg h8, hB]
        have k3 : getT ⟨b, 0⟩ = Vals.getT ⟨(b.drop j).drop m, 0⟩ := by rw [g5]; unfold rawT; rw [if_neg h8, hB]
        unfold wrong at hw
        simp only [Bool.or_eq_false_iff, Bool.and_eq_false_iff, decide_eq_false_iff_not] at hw
        have hr : right (getN ⟨b, 0⟩) (getO ⟨b, 0⟩) (getK ⟨b, 0⟩) (getI ⟨b, 0⟩) (getT ⟨b, 0⟩) = true := by
          rw [k1, k2, k3, g2, g1]
          unfold right
          have := rawO_le ⟨b, 0⟩
          rw [asks_of (by omega) (by omega) (by omega) q3 (by omega) (fun e => by
            rcases hw.1 with c | c
            · exact absurd e c
            · exact Decidable.not_not.1 c)]
          simp [hpN, hlN']
        rw [List.length_drop, List.length_drop] at q1
        refine ⟨j + m + p, by omega, by rw [hS2, q2, List.drop_drop, List.drop_drop, Nat.add_assoc], hr, ?_⟩
        unfold lay
        rw [if_pos hr]
        unfold bytes
        rw [if_neg (by rw [g2]; omega), k1, k2, k3, q4, g2, g1, Int.toNat_natCast, f3, d3]
        rw [show j + m + p = j + (m + p) by omega, List.take_add, List.take_add]
theorem lay_len (n : List UInt8) (o k i : Int) (t : List UInt8) (h1 : -9223372036854775808 ≤ i) (h2 : i ≤ 9223372036854775807) : (lay n o k i t).length ≤ 300 := by
  unfold lay
  split
  · rename_i h
    obtain ⟨a1, a2, ha⟩ := right_parts h
    have b1 := put_len_le n.length (by omega)
    have b2 : (put o.toNat).length ≤ 10 := by
      refine put_len_le _ ?_
      rcases asks_cases ha with ⟨rfl, _⟩ | ⟨_, _, _, _⟩ <;> omega
    have b3 := Vals.lay_len k i t h1 h2
    unfold bytes text
    split <;> simp <;> omega
  · simp
theorem lay_pos (n : List UInt8) (o k i : Int) (t : List UInt8) : right n o k i t = decide (0 < (lay n o k i t).length) := by
  unfold lay
  cases h : right n o k i t with
  | false => simp
  | true =>
    have := put_pos o.toNat
    unfold bytes
    simp; omega
theorem right_bd {n : List UInt8} {o k i : Int} {t : List UInt8} (h : right n o k i t = true) : n.length ≤ 16 ∧ t.length ≤ 32 := by
  obtain ⟨a1, a2, ha⟩ := right_parts h
  rcases asks_cases ha with ⟨_, _, _, rfl⟩ | ⟨_, _, _, _, h, _⟩
  · exact ⟨a2, by simp⟩
  · exact ⟨a2, h⟩
theorem getI_bd (b : List UInt8) : -9223372036854775808 ≤ getI ⟨b, 0⟩ ∧ getI ⟨b, 0⟩ ≤ 9223372036854775807 := by
  by_cases h : (getS ⟨b, 0⟩).err = 0
  · obtain ⟨g1, g2, g3, g4, g5⟩ := get_good _ h
    rw [g4]
    unfold rawI
    split
    · omega
    · have hb := getS_behind _ h
      generalize hq : behind ⟨b, 0⟩ = s at *
      obtain ⟨q, e⟩ := s
      simp only at hb
      subst hb
      by_cases hv : (Vals.getS ⟨q, 0⟩).err = 0
      · obtain ⟨_, _, _, hr, _⟩ := Vals.get_ok q hv
        have := Vals.get_bd q hr
        exact ⟨this.1, this.2.1⟩
      · rw [(Vals.get_bad _ hv).2.1]; omega
  · rw [(get_bad _ h).2.2.2.1]; omega
end Preds
