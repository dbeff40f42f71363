/- Contracts of the program and of the document (IxMeet), each used further on. -/
import Derived.Deep.LoopGhost
import Derived.WalkMore
import Derived.Test.YtnfigjggjmncdaaP2
import Derived.Test.YtnfigjggjmncdaaP3
import Derived.Test.YtnfigjggjmncdaaI1
namespace Go.Proofs.Ytnfigjggjmncdaa
open Go.RowKit Go.Maps Go.WideMaps Go.Sort Spans Tb Op
theorem Maps.len_own {w : World} {b m : Nat} {D : DataW Sl} (h : OwnX w b m D) (ty : TypeId) : (Builtin.len_ #[51] ty #[.map (some b)]).run Try.prog w = .ok (.int .i64 (Maps.size D)) w := World.ownsMap.len h Try.underlying51 ty
set_option maxRecDepth 100000 in
set_option maxHeartbeats 1000000 in
theorem size_at (g : Nat) (es : List Ex) (w : World) (h : IsIx w g es) (q : Nat) (hq : (Ix.uq (fls es).flatten).length = q) :
    Calls Try.prog 11 #[.pointer (some ⟨g, 0, none⟩)] w fun e w' => e = .returned (.int .i64 (q : Int)) ∧ w' = w := by
  obtain ⟨a, b, m, base, D, S, h⟩ := h
  have hl := h.map
  have hz := h.gx.size
  rw [Ix.prs_fst, hq] at hz
  have HZ := Lib.hid hz
  obtain ⟨x0, x1, _⟩ := blk2 h.box
  have hlx := h.box.lt
  have hlen := fun ty => Maps.len_own hl ty
  rw [hz] at hlen
  clear h hl hz hq
  go_enter Try.func11, Try.ntmps11
  go_wp2_with fail
  go_ret
  exact ⟨rfl, rfl⟩
theorem made_1 (z : Value) (n : Nat) : madeCells #[z] (n * 1) = Array.replicate n z := by
  unfold madeCells
  refine Array.ext ?_ ?_
  · simp
  · intro i h1 h2
    simp [Nat.mod_one]
theorem make_in (n : Nat) (hn : n ≤ 100000) (W : World) : (Instr.makeSlice 32 (.int .i64 (n : Int)) (.int .i64 (n : Int))).run Try.prog W = .ok (.slice (some ⟨W.heap.size, 0, none⟩) n n) (W.alloc (.cells (Array.replicate n (Value.int .i64 0)) 3)) := by
  have hinfo : (Try.prog.info? 3).map (fun i => (i.zero, i.size, i.bytes)) = some (some (.int .i64 0), 1, 8) := by kernel_rfl
  obtain ⟨i, hi, hz, hs, hby⟩ := info_parts hinfo
  have h := run_make (P := Try.prog) W 32 3 i _ Try.underlying32 hi hz .i64 .i64 n n (by omega) (by omega) (by rw [hby]; show (8 : Int) * n ≤ _; omega) (by omega)
  rw [hs, show (Value.int .i64 0).cells = #[Value.int .i64 0] from rfl] at h
  rw [h]
  simp only [Int.toNat_natCast, made_1]
/-- A row of counts, as cells. -/
def rowC (n : Nat) (c : Nat → Nat) : Array Value := ((Ix.row n c).map (Value.int .i64)).toArray
theorem rowC_zero (n : Nat) : rowC n (fun _ => 0) = Array.replicate n (Value.int .i64 0) := by
  unfold rowC; rw [Ix.row_zero]; simp
theorem rowC_at (n : Nat) (c : Nat → Nat) {k : Nat} (h : k < n) : (rowC n c)[k]? = some (.int .i64 (c k : Int)) := by
  simp [rowC, Ix.row, h]
theorem rowC_set (n : Nat) (c : Nat → Nat) (k : Nat) : (rowC n c).setIfInBounds k (.int .i64 ((c k + 1 : Nat) : Int)) = rowC n fun i => if i = k then c i + 1 else c i := by
  unfold rowC
  rw [← Ix.row_set, List.setIfInBounds_toArray, List.map_set]
theorem rowC_congr {n : Nat} {c d : Nat → Nat} (h : ∀ k, k < n → c k = d k) : rowC n c = rowC n d := by unfold rowC; rw [Ix.row_congr h]
theorem ranges_same {w w' : World} {b r n : Nat} {D : DataW Sl} {left : Lit → Bool} {cnt : Nat} (h : w.ranges Try.prog 47 elemS b r n D left cnt) (h1 : w'.heap[b]? = w.heap[b]?) (h2 : w'.heap[r]? = w.heap[r]?) : w'.ranges Try.prog 47 elemS b r n D left cnt := by
  obtain ⟨es, clock, since, seen, c0, hb, F, hs, hD, hr, rest⟩ := h
  exact ⟨es, clock, since, seen, c0, h1.trans hb, F, hs, hD, h2.trans hr, rest⟩
theorem ranges_below {w w' : World} {b r n : Nat} {D : DataW Sl} {left : Lit → Bool} {cnt : Nat} (h : w.ranges Try.prog 47 elemS b r n D left cnt) (hb : Below w.heap.size w w') : w'.ranges Try.prog 47 elemS b r n D left cnt :=
  ranges_same h (hb.block b h.owns.lt) (hb.block r h.lt)
/-- THE STEP of a range over a map of places. -/
theorem wpList_next_x {w : World} {ops : Array Oper} {rest : List Oper} {oo : Oper} {a : Act} {Q : Exit → Act → World → Prop} (hg : oo.guard = none) (it : Operand) (hop : oo.op = Op.next it false) (b r n : Nat) (D : DataW Sl) (left : Lit → Bool) (cnt : Nat)
    (hit : a.eval it = .pointer (some ⟨r, 0, none⟩)) (h : w.ranges Try.prog 47 elemS b r n D left cnt)
    (hDone : cnt = 0 → (∀ kl, left kl = false) → wpList Try.prog ops Q rest (a.put oo.dst (.tuple #[.bool false])) w)
    (hMore : ∀ (p : Pr) (s : Sl) (w' : World) (cnt' : Nat), KOk p → left (KL p) = true → (∀ zd, D.atKey (KL p) zd = .held s) → w'.ranges Try.prog 47 elemS b r n D (fun z => left z && !z.sameKey (KL p)) cnt' → cnt' < cnt →
      w.grownBy w' (some r) → w'.heap.size = w.heap.size → (Instr.entry (.pointer (some ⟨r, 0, none⟩))).run Try.prog w' = .ok (.tuple #[.agg #[.string ⟨p.n.toArray⟩, .int .i64 p.o, .int .i64 p.k, .int .i64 p.i, .string ⟨p.t.toArray⟩], .slice s.A s.n s.c]) w' → wpList Try.prog ops Q rest (a.put oo.dst (.tuple #[.bool true, .agg #[.string ⟨p.n.toArray⟩, .int .i64 p.o, .int .i64 p.k, .int .i64 p.i, .string ⟨p.t.toArray⟩], .slice s.A s.n s.c])) w') :
    wpList Try.prog ops Q (oo :: rest) a w :=
  wpList_next_ranges w hg it hop 47 keyedP elemS prV slV (fun key kl hk => by obtain ⟨p, e, _⟩ := key_inv hk; exact ⟨p, e⟩) (fun v y hv => by obtain ⟨s, e, _⟩ := elemS_inv hv; exact ⟨s, e⟩) b r n D left cnt hit h hDone
    (fun p s kl y w' cnt' hkey hlk hv hat hrg hlt hgr hsz hen => by
      obtain ⟨p', e, hok⟩ := key_inv hkey
      obtain rfl : p = p' := by cases p; cases p'; simpa [prV] using e
      have e2 := keyP hok
      rw [hkey] at e2
      injection e2 with e2
      subst e2
      obtain ⟨s', e1, rfl⟩ := elemS_inv hv
      obtain rfl := slV_inj e1
      exact hMore p s w' cnt' hok hlk hat hrg hlt hgr hsz hen)
/-- Does an event meet a predicate? -/
def mtx (ev : List Ev.At) (p : Pr) : Bool := meetsV ev p.n p.o p.k p.i p.t
/-- What is done, told by what is left. -/
def dnx (left : Lit → Bool) (p : Pr) : Bool := !left (KL p)
theorem dnx_other {left : Lit → Bool} {p q : Pr} (hp : KOk p) (hq : KOk q) (h : q ≠ p) : dnx (fun z => left z && !z.sameKey (KL p)) q = dnx left q := by
  show (!(left (KL q) && !(KL q).sameKey (KL p))) = !left (KL q)
  rw [sameKey_ne (fun e => h (kl_inj hq hp e))]
  simp
theorem dnx_same {left : Lit → Bool} {p : Pr} : dnx (fun z => left z && !z.sameKey (KL p)) p = true := by
  show (!(left (KL p) && !(KL p).sameKey (KL p))) = true
  rw [WideAt.sameKey_self (isKeyKL p)]
  simp
set_option maxRecDepth 100000 in
set_option maxHeartbeats 4000000 in
theorem count_at (g : Nat) (es : List Ex) (n : Nat) (hn : es.length = n) (hm : n ≤ 1000) (hps : (fls es).flatten.length ≤ 1000000) (B : Option Addr) (ev : List Ev.At) (m d : Nat) (hes : ev.length = m) (hml : m ≤ maxLen) (hbd : ∀ a ∈ ev, a.n.length ≤ maxLen ∧ a.t.length ≤ maxLen) (w : World) (h : IsIx w g es) (hre : RdA w B ev) :
    Calls Try.prog 20 #[.pointer (some ⟨g, 0, none⟩), .slice B m d] w fun e w' => ∃ q, e = .returned (.slice (some ⟨q, 0, none⟩) n n) ∧ Blk w' q 3 (rowC n fun k => ((fls es)[k]?.getD []).countP (mtx ev)) ∧ Below w.heap.size w w' := by
  obtain ⟨a, b, M, base, D, S, h⟩ := h
  have HI := Lib.hid h
  have HE := Lib.hid hes
  have HM := Lib.hid hml
  have HBD := Lib.hid hbd
  have HRE := Lib.hid hre
  have HN := Lib.hid hn
  have HPL : Hid ((Ix.prs (fls es)).length ≤ 1000000) := (by show _ ≤ _; rw [Ix.prs_len]; exact hps)
  have hmk := make_in n (by omega)
  have hb0 : Below w.heap.size w (w.alloc (.cells (Array.replicate n (Value.int .i64 0)) 3)) := (gr1 w _).below
  have HH0 := Lib.hid (Blk.new w 3 (Array.replicate n (Value.int .i64 0)))
  have HB0 := Lib.hid hb0
  have hown := OwnX.below h.map hb0
  have hbl : b < w.heap.size := World.ownsMap.lt h.map
  have hx1 := h.box.below hb0 h.box.lt
  rw [hn] at hx1
  obtain ⟨x0, x1, _⟩ := blk2 hx1
  have hlx := hx1.lt
  have hx2 := h.box
  rw [hn] at hx2
  obtain ⟨y0, y1, _⟩ := blk2 hx2
  have hly := hx2.lt
  have h00 : (0 : Int) ≤ (n : Int) := by omega
  clear h hes hml hbd hre hn hps hb0 hx1 hx2
  go_enter Try.func20, Try.ntmps20
  go_wp2_with (first | (at_range; refine wpList_range_own _ rfl _ 51 rfl 47 32 keyedP Try.underlying51 _ b M _ rfl hown ?_; intro w0 hrg0 hg0 hs0) | go_in)
  rw [show (w.alloc (.cells (Array.replicate n (Value.int .i64 0)) 3)).heap.size = w.heap.size + 1 by simp] at hrg0
  have HB := Lib.hid (HB0.out.grown hg0 (by simp) (fun q hq => (by cases hq)))
  have HH := Lib.hid (Blk.kept HH0.out hg0 (by simp))
  clear hmk HH0 HB0 hown x0 x1 hlx y0 y1 hly hg0 hs0
  go_frame
  rw [show (w.alloc (.cells (Array.replicate n (Value.int .i64 0)) 3)).heap.size = w.heap.size + 1 by simp]
  go_loopw [22] (fun _ wr => ∃ (left : Lit → Bool) (cnt : Nat), wr.ranges Try.prog 47 elemS b (w.heap.size + 1) M D left cnt ∧ Hid (Blk wr w.heap.size 3 (rowC n (Ix.cnt (mtx ev) (dnx left) (Ix.prs (fls es))))) ∧ Hid (Below w.heap.size w wr)) (fun _ wr => wr.rangeLeft b (w.heap.size + 1))
  case atStart =>
    refine ⟨_, _, hrg0, ?_, HB⟩
    show Blk _ _ _ _
    rw [rowC_congr (d := fun _ => 0) (fun k _ => Ix.cnt_none (fun x hx => (by unfold dnx; rw [(HI.out.gx.has x.1 (HI.out.gx.ok x hx)).2 (List.mem_map.2 ⟨x, hx, rfl⟩)]; rfl)) k), rowC_zero]
    exact HH.out
  case round =>
    clear hrg0 HH HB
    obtain ⟨left, cnt, hrg, HH, HB⟩ := hrel
    go_wp2_with (first | (at_next; refine wpList_next_x rfl _ rfl b (w.heap.size + 1) M D left cnt rfl hrg ?_ ?_) | go_in)
    · intro _ hl0
      clear hrg
      have HR : Hid (Blk wr w.heap.size 3 (rowC n fun k => ((fls es)[k]?.getD []).countP (mtx ev))) := by
        show Blk _ _ _ _
        have h := HH.out
        rwa [rowC_congr (d := fun k => ((fls es)[k]?.getD []).countP (mtx ev)) (fun k hk => (by
          have hk2 : k < (fls es).length := by rw [fls_len, HN.out]; exact hk
          rw [Ix.cnt_all (fun x _ => (by unfold dnx; rw [hl0]; rfl)) (List.getElem?_eq_getElem hk2), List.getElem?_eq_getElem hk2]; rfl))] at h
      clear hl0 HH
      go_wp2_with fail
      go_ret
      exact ⟨_, rfl, HR.out, HB.out⟩
    · intro p s w1 cnt1 hpk hlx hat hrg1 hlt hg1 hs1 hen
      have hpm : p ∈ (Ix.prs (fls es)).map (·.1) := (HI.out.gx.has p hpk).1 (has_true_of_atKey hat)
      have hsp : S p = s := (by have e := (hat .nil).symm.trans ((HI.out.gx.at_ p hpm).1 .nil); injection e with e; exact e.symm)
      have hro := (HI.out.gx.at_ p hpm).2
      rw [hsp] at hro
      obtain ⟨sA, sn, sc⟩ := s
      obtain ⟨A5, c5, e5, hc5, hrd⟩ := OwnZ.rd hro
      dsimp only [slV] at e5
      injection e5 with e6 e7 e8
      subst e6; subst e8
      have HLN : Hid ((Ix.plc (Ix.prs (fls es)) p).length = sn) := e7.symm
      have HRD := Lib.hid hrd
      have HPK := Lib.hid hpk
      have HLX := Lib.hid hlx
      have hB1 : Below w.heap.size w w1 := HB.out.grown hg1 HB.out.size (fun q hq => (by injection hq with hq; omega))
      have hH1 := Blk.kept HH.out hg1 (by simp)
      have hbp : Below w1.heap.size w1 (w1.alloc (.cells #[.string ⟨p.n.toArray⟩, .int .i64 p.o, .int .i64 p.k, .int .i64 p.i, .string ⟨p.t.toArray⟩] 47)) := (gr1 w1 _).below
      have HP := Lib.hid (Blk.new w1 47 #[.string ⟨p.n.toArray⟩, .int .i64 p.o, .int .i64 p.k, .int .i64 p.i, .string ⟨p.t.toArray⟩])
      have HR2 := Lib.hid (ranges_below hrg1 hbp)
      have HLT := Lib.hid hlt
      have HLE := Lib.hid hrg.left_eq
      have HH2 := Lib.hid (hH1.below hbp hH1.lt)
      have HB2 := Lib.hid (below_next hB1 (Nat.le_refl _) hbp)
      clear hpm hsp hro e7 hc5 hrd hpk hlx hat hrg1 hlt hg1 hs1 hB1 hH1 hbp hrg HH HB
      dsimp only at hen
      go_wp2_with fail
      clear hen
      generalize w1.alloc (.cells #[.string ⟨p.n.toArray⟩, .int .i64 p.o, .int .i64 p.k, .int .i64 p.i, .string ⟨p.t.toArray⟩] 47) = w2 at *
      generalize w1.heap.size = pp at *
      obtain ⟨y, hy⟩ : ∃ y, mtx ev p = y := ⟨_, rfl⟩
      have HY := Lib.hid hy
      clear hy
      refine (meets_is p.n p.o p.k p.i p.t B ev m d _ HE.out HM.out HBD.out HPK.out.1.1 HPK.out.1.2 (HRE.out.below HB2.out) y HY.out).mono ?_
      rintro e w3 ⟨rfl, hb3⟩
      replace HR2 := Lib.hid (ranges_below HR2.out hb3)
      replace HH2 := Lib.hid (HH2.out.below hb3 HH2.out.lt)
      replace HB2 := Lib.hid (below_next HB2.out (by have := HB2.out.size; omega) hb3)
      clear hb3 HP
      cases y with
      | false =>
        have HH3 : Hid (Blk w3 w.heap.size 3 (rowC n (Ix.cnt (mtx ev) (dnx (fun z => left z && !z.sameKey (KL p))) (Ix.prs (fls es))))) := by
          show Blk _ _ _ _
          have h := HH2.out
          rwa [rowC_congr (d := (Ix.cnt (mtx ev) (dnx (fun z => left z && !z.sameKey (KL p))) (Ix.prs (fls es)))) (fun k _ => (Ix.cnt_same (fun x hx => (by
            by_cases e : x.1 = p
            · rw [e, HY.out]; rfl
            · rw [dnx_other HPK.out (HI.out.gx.ok x hx) e])) k).symm)] at h
        clear HH2
        go_wp2_with fail
        go_roundw
        case rel => exact ⟨_, cnt1, HR2.out, HH3, HB2⟩
        case measure => rw [HR2.out.left_eq, HLE.out]; exact HLT.out
      | true =>
        have hsn : sn ≤ 1000000 := (by have h3 := Ix.plc_len (Ix.prs (fls es)) p; have := HPL.out; rw [HLN.out] at h3; omega)
        go_wp2_with fail
        go_loopg [32] sn (fun g2 s32 wr => ∃ j : Nat, j ≤ sn ∧ sn - j ≤ g2 ∧ s32 = .int .i64 (j : Int) ∧ Hid (Blk wr w.heap.size 3 (rowC n fun k => (Ix.cnt (mtx ev) (dnx left) (Ix.prs (fls es))) k + ((Ix.plc (Ix.prs (fls es)) p).take j).count (k : Int))) ∧ Hid (wr.ranges Try.prog 47 elemS b (w.heap.size + 1) M D (fun z => left z && !z.sameKey (KL p)) cnt1) ∧ Hid (Below w.heap.size w wr))
        case atStart => exact ⟨0, Nat.zero_le _, by omega, rfl, by show Blk _ _ _ _; simpa using HH2.out, HR2, HB2⟩
        case round =>
          clear HR2 HH2 HB2
          obtain ⟨j, hj, hgj, rfl, HH, HR, HB⟩ := hrel
          by_cases hlj : j < sn
          · have hj' : j < (Ix.plc (Ix.prs (fls es)) p).length := by rw [HLN.out]; exact hlj
            obtain ⟨g1, off1, rfl, hg1, c0⟩ := RdI.at1 (HRD.out.below HB.out) hj'
            obtain ⟨q, hq, hqn⟩ := Ix.plc_lt (p := p) (fun x hx => Ix.prs_lt (fls es) x hx) _ (List.getElem_mem hj')
            rw [fls_len, HN.out] at hqn
            rw [hq] at c0
            have HQ := Lib.hid hq
            clear hq
            obtain ⟨cq, hcq⟩ : ∃ cq, (Ix.cnt (mtx ev) (dnx left) (Ix.prs (fls es))) q + ((Ix.plc (Ix.prs (fls es)) p).take j).count (q : Int) = cq := ⟨_, rfl⟩
            have hcb : cq ≤ 2000000 := (by have h1 : (Ix.cnt (mtx ev) (dnx left) (Ix.prs (fls es))) q ≤ _ := List.countP_le_length; have h2 : ((Ix.plc (Ix.prs (fls es)) p).take j).count (q : Int) ≤ _ := List.count_le_length; have h3 := Ix.plc_len (Ix.prs (fls es)) p; have := HPL.out; rw [List.length_take] at h2; omega)
            have e0 : wr.cell? ⟨w.heap.size, q, none⟩ = some (.int .i64 (cq : Int)) := (by rw [HH.out.cell, rowC_at n _ hqn, hcq])
            have f0 := HH.out.frozen q
            have hlh := HH.out.lt
            have hP := Blk.put HH.out q (.int .i64 ((cq + 1 : Nat) : Int))
            have hset := rowC_set n (fun k => (Ix.cnt (mtx ev) (dnx left) (Ix.prs (fls es))) k + ((Ix.plc (Ix.prs (fls es)) p).take j).count (k : Int)) q
            rw [hcq] at hset
            rw [hset] at hP
            clear hset
            have HP : Hid (Blk (wr.setCell ⟨w.heap.size, q, none⟩ (.int .i64 ((cq : Int) + 1))) w.heap.size 3 (rowC n fun k => (Ix.cnt (mtx ev) (dnx left) (Ix.prs (fls es))) k + ((Ix.plc (Ix.prs (fls es)) p).take (j + 1)).count (k : Int))) := by
              show Blk _ _ _ _
              rw [show ((cq : Int) + 1) = ((cq + 1 : Nat) : Int) by omega]
              rwa [rowC_congr (d := fun k => (Ix.cnt (mtx ev) (dnx left) (Ix.prs (fls es))) k + ((Ix.plc (Ix.prs (fls es)) p).take (j + 1)).count (k : Int)) (fun k _ => (by
                rw [List.take_succ_eq_append_getElem hj', HQ.out, List.count_append]
                by_cases e : k = q
                · subst e; simp; omega
                · rw [if_neg e, List.count_eq_zero_of_not_mem (l := [(q : Int)]) (by simp; omega)]; omega))] at hP
            have TT : Touch w.heap.size wr (wr.setCell ⟨w.heap.size, q, none⟩ (.int .i64 ((cq : Int) + 1))) := (Touch.refl _ _).set_ _ _
            have HRn := Lib.hid (World.ranges.kept HR.out TT (by simp; omega) (by simp))
            have HBn := Lib.hid (TT.below HB.out (by have := HB.out.size; omega) (Nat.le_refl _))
            have w1 : IntKind.i64.wrap ((cq : Int) + 1) = (cq : Int) + 1 := (by rw [IntKind.wrap_i64]; omega)
            have w5 : (j : Int) < (sn : Int) := by omega
            have w6 : (q : Int) < (n : Int) := by omega
            clear hP TT hcq HH HR HB
            go_wp2_with fail
            clear c0 e0 f0 hg1
            go_roundg (sn - (j + 1))
            case measure => omega
            case rel => exact ⟨j + 1, by omega, Nat.le_refl _, by go_num, HP, HRn, HBn⟩
          · obtain rfl : j = sn := by omega
            have HH3 : Hid (Blk wr w.heap.size 3 (rowC n (Ix.cnt (mtx ev) (dnx (fun z => left z && !z.sameKey (KL p))) (Ix.prs (fls es))))) := by
              show Blk _ _ _ _
              have h := HH.out
              rwa [rowC_congr (d := (Ix.cnt (mtx ev) (dnx (fun z => left z && !z.sameKey (KL p))) (Ix.prs (fls es)))) (fun k _ => (by
                rw [List.take_of_length_le (by rw [HLN.out]; exact Nat.le_refl _)]
                exact (Ix.cnt_step HY.out (by unfold dnx; rw [HLX.out]; rfl) dnx_same k (fun x hx e => dnx_other HPK.out (HI.out.gx.ok x hx) e)).symm))] at h
            clear HH
            go_wp2_with fail
            go_roundw
            case rel => exact ⟨_, cnt1, HR.out, HH3, HB⟩
            case measure => rw [HR.out.left_eq, HLE.out]; exact HLT.out
/-- The Ids of the entries that an event meets. -/
def metIds (es : List Ex) (ev : List Ev.At) : List Int := (es.filter fun x => Fil.meets x.f ev).map Ex.id
theorem met_yes {es : List Ex} {ev : List Ev.At} {k : Nat} {x : Ex} (h : k < es.length) (hx : es[k] = x) (hm : Fil.meets x.f ev = true) : metIds (es.take (k + 1)) ev = metIds (es.take k) ev ++ [x.id] := by
  unfold metIds
  rw [List.take_succ_eq_append_getElem h, hx, List.filter_append, List.map_append]
  simp [hm]
theorem met_no {es : List Ex} {ev : List Ev.At} {k : Nat} {x : Ex} (h : k < es.length) (hx : es[k] = x) (hm : Fil.meets x.f ev = false) : metIds (es.take (k + 1)) ev = metIds (es.take k) ev := by
  unfold metIds
  rw [List.take_succ_eq_append_getElem h, hx, List.filter_append, List.map_append]
  simp [hm]
theorem met_len (es : List Ex) (ev : List Ev.At) : (metIds es ev).length ≤ es.length := by
  unfold metIds; rw [List.length_map]; exact List.length_filter_le _ _
theorem cnt_meets (ev : List Ev.At) (f : List Pr) : ((f.countP (mtx ev) : Nat) : Int) = (f.length : Int) ↔ Fil.meets f ev = true := by
  rw [Int.natCast_inj, Ix.all_cnt]; rfl
/-- Ints in a row that the call made. -/
def GivesX (w : World) (l : List Int) (e : Ending) (w' : World) : Prop := ∃ (B : Option Addr) (m d : Nat), e = .returned (.slice B m d) ∧ l.length = m ∧ m ≤ d ∧ OwnZ layI w' w.heap.size (.slice B m d) l ∧ Below w.heap.size w w'
set_option maxRecDepth 100000 in
set_option maxHeartbeats 4000000 in
theorem imeet_at (g : Nat) (es : List Ex) (n : Nat) (hn : es.length = n) (hm : n ≤ 1000) (hps : (fls es).flatten.length ≤ 1000000) (hxl : ∀ x ∈ es, x.f.length = x.n) (B : Option Addr) (ev : List Ev.At) (m d : Nat) (hes : ev.length = m) (hml : m ≤ maxLen) (hbd : ∀ a ∈ ev, a.n.length ≤ maxLen ∧ a.t.length ≤ maxLen) (w : World) (h : IsIx w g es) (hre : RdA w B ev) :
    Calls Try.prog 15 #[.pointer (some ⟨g, 0, none⟩), .slice B m d] w (GivesX w (metIds es ev)) := by
  have HI := Lib.hid h
  have HN := Lib.hid hn
  have HXL := Lib.hid hxl
  have hc := count_at g es n hn hm hps B ev m d hes hml hbd w h hre
  clear h hn hps hxl hes hml hbd hre
  go_enter Try.func15, Try.ntmps15
  go_wp2_with fail
  refine hc.mono ?_
  rintro e w1 ⟨q, rfl, hq, hb1⟩
  clear hc
  have HI1 := Lib.hid (HI.out.below hb1)
  have HQ := Lib.hid hq
  have HB1 := Lib.hid hb1
  have hb2 : Below w1.heap.size w1 (w1.alloc (.cells #[] 3)) := (gr1 w1 _).below
  have HB2 := Lib.hid hb2
  have HO0 := Lib.hid (OwnZ.empty (L := layI) w1 w1.heap.size (Nat.le_refl _))
  obtain ⟨a, b, M, base, D, S, hi⟩ := HI1.out
  have hx := hi.box
  rw [HN.out] at hx
  have HX := Lib.hid hx
  have HR := Lib.hid hi.row
  have hx2 := hx.below hb2 hx.lt
  obtain ⟨x0, x1, _⟩ := blk2 hx2
  have hlx := hx2.lt
  clear hq hb1 hb2 hi hx hx2 HI HI1
  go_wp2_with fail
  clear x0 x1 hlx
  go_loopg [6, 18] n (fun gg s6 s18 wr => ∃ (k m6 d6 : Nat) (B6 : Option Addr), k ≤ n ∧ n - k ≤ gg ∧ s18 = .int .i64 (k : Int) ∧ s6 = .slice B6 m6 d6 ∧ m6 ≤ d6 ∧ m6 ≤ k ∧ Hid ((metIds (es.take k) ev).length = m6) ∧ Hid (OwnZ layI wr w1.heap.size (.slice B6 m6 d6) (metIds (es.take k) ev)) ∧ Hid (Below w1.heap.size w1 wr))
  case atStart => exact ⟨0, 0, 0, _, Nat.zero_le _, by omega, rfl, rfl, Nat.le_refl _, Nat.le_refl _, rfl, HO0, HB2⟩
  case round =>
    clear HO0 HB2
    obtain ⟨k, m6, d6, B6, hk, hgg, rfl, rfl, hmd, hmk, HL, HO, HB⟩ := hrel
    by_cases hlt : k < n
    · have hk' : k < es.length := by rw [HN.out]; exact hlt
      have hnd := nd_at es k hk'
      have hrw := HR.out.below HB.out HR.out.lt
      have hcq := HQ.out.below HB.out HQ.out.lt
      have hxl := HXL.out _ (List.getElem_mem hk')
      have hfk := fls_at hk'
      obtain ⟨x, hx⟩ : ∃ x, es[k] = x := ⟨_, rfl⟩
      have HE := Lib.hid hx
      rw [hx] at hnd hxl hfk
      clear hx
      obtain ⟨xi, xr, xA, xn, xc, xf⟩ := x
      dsimp only at hnd hxl hfk
      have c0 : wr.cell? ⟨a, k * 2, none⟩ = some (.int .i64 xi) := (hrw.cell (k * 2)).trans (by simpa using hnd.1)
      have c1 : wr.cell? ⟨a, k * 2 + 1, none⟩ = some (.int .i64 (xn : Int)) := (hrw.cell (k * 2 + 1)).trans (by simpa using hnd.2)
      have hla := hrw.lt
      obtain ⟨cq, hcv⟩ : ∃ cq, xf.countP (mtx ev) = cq := ⟨_, rfl⟩
      have c2 : wr.cell? ⟨q, k, none⟩ = some (.int .i64 (cq : Int)) := (by rw [hcq.cell, rowC_at n _ hlt, hfk, Option.getD_some, hcv])
      have HC2 := Lib.hid c2
      have hlq := hcq.lt
      have HCV : Hid ((cq : Int) = (xn : Int) ↔ Fil.meets xf ev = true) := (by have := cnt_meets ev xf; rw [hcv, hxl] at this; exact this)
      have hbA : Below wr.heap.size wr (wr.alloc (.cells #[.int .i64 xi, .int .i64 (xn : Int)] 55)) := (gr1 wr (.cells #[.int .i64 xi, .int .i64 (xn : Int)] 55)).below
      have BE := Lib.hid (Blk.new wr 55 #[.int .i64 xi, .int .i64 (xn : Int)])
      have HB3 := Lib.hid (below_next HB.out (by have := HB.out.size; omega) hbA)
      have HO3 := Lib.hid (OwnZ.below HO.out hbA)
      have HQ3 := Lib.hid (hcq.below hbA hcq.lt)
      have HC3 : Hid ((wr.alloc (.cells #[.int .i64 xi, .int .i64 (xn : Int)] 55)).cell? ⟨q, k, none⟩ = some (.int .i64 (cq : Int))) := (hbA.cell (p := ⟨q, k, none⟩) hlq).trans c2
      have w5 : (k : Int) < (n : Int) := by omega
      clear hnd hrw hcq hxl hfk hcv hbA HB HO c2 HC2
      go_wp2_with fail
      clear c0 c1
      generalize wr.alloc (.cells #[.int .i64 xi, .int .i64 (xn : Int)] 55) = wo at *
      generalize wr.heap.size = pe at *
      have hS0 : wo.drew.cell? ⟨q, k, none⟩ = some (.int .i64 (cq : Int)) ∧ Blk wo.drew pe 55 #[.int .i64 xi, .int .i64 (xn : Int)] := ⟨HC3.out, BE.out⟩
      refine wp_region_held_drew (S := fun w' => w'.cell? ⟨q, k, none⟩ = some (.int .i64 (cq : Int)) ∧ Blk w' pe 55 #[.int .i64 xi, .int .i64 (xn : Int)]) (by kernel_rfl) hS0 (fun _ => ?_)
      refine Jz 0 hS0 ?_ (hv := by intro w' hSw; obtain ⟨q0, q1, _⟩ := blk2 hSw.2; have r0 := hSw.1; go_simp <;> with_reducible rfl)
      refine Jz 1 hS0 ?_ (hv := by intro w' hSw; obtain ⟨q0, q1, _⟩ := blk2 hSw.2; have r0 := hSw.1; go_simp <;> with_reducible rfl)
      refine Jz 2 hS0 ?_ (hv := by intro w' hSw; obtain ⟨q0, q1, _⟩ := blk2 hSw.2; have r0 := hSw.1; go_simp <;> with_reducible rfl)
      refine Jz 3 hS0 ?_ (hv := by intro w' hSw; obtain ⟨q0, q1, _⟩ := blk2 hSw.2; have r0 := hSw.1; go_simp <;> with_reducible rfl)
      refine Jz 4 hS0 ?_ (hv := by intro w' hSw; obtain ⟨q0, q1, _⟩ := blk2 hSw.2; have r0 := hSw.1; go_simp <;> with_reducible rfl)
      refine Jz 5 hS0 ?_ (hv := by intro w' hSw; obtain ⟨q0, q1, _⟩ := blk2 hSw.2; have r0 := hSw.1; go_simp <;> with_reducible rfl)
      refine Jz 6 hS0 ?_ (hv := by intro w' hSw; obtain ⟨q0, q1, _⟩ := blk2 hSw.2; have r0 := hSw.1; go_simp <;> with_reducible rfl)
      refine Jd ?_
      have HBd : Hid (Below w1.heap.size w1 wo.drew) := HB3.out.drew
      have HOd : Hid (OwnZ layI wo.drew w1.heap.size (.slice B6 m6 d6) (metIds (es.take k) ev)) := HO3.out
      have BEd : Hid (Blk wo.drew pe 55 #[.int .i64 xi, .int .i64 (xn : Int)]) := BE.out
      clear HB3 HO3 HQ3 HC3 BE hS0
      generalize wo.drew = wA at *
      by_cases he : (cq : Int) = (xn : Int)
      · have v1 : ((cq : Int) == (xn : Int)) = true := beq_iff_eq.2 he
        have HT : Hid (metIds (es.take (k + 1)) ev = metIds (es.take k) ev ++ [xi]) := met_yes hk' HE.out (HCV.out.1 he)
        obtain ⟨q0, q1, _⟩ := blk2 BEd.out
        have hle := BEd.out.lt
        have hbx : Below wA.heap.size wA (wA.alloc (.cells #[.int .i64 xi] 3)) := (gr1 wA _).below
        have hrx := rdz_one layI wA xi 3 #[.int .i64 xi] rfl
        have ho3 := OwnZ.below HOd.out hbx
        have hb3 := below_next HBd.out (Nat.le_refl _) hbx
        have hs3 := hb3.size
        have hlm := HL.out
        clear he
        go_wp2_with (at_builtin; refine wpList_append_z layI (by rfl) (.tmp 30) (.tmp 33) 32 underI rfl w1.heap.size _ (metIds (es.take k) ev) (by rfl) ho3 _ [xi] 1 1 (by rfl) hrx rfl (by rw [maxLen_num, hlm]; omega) (by simp only [layI]; rw [hlm]; omega) hs3 ?_; intro v2 y2 o2 b2 _ _; rw [← HT.out] at o2; have hl2 : (metIds (es.take (k + 1)) ev).length = m6 + 1 := (by rw [HT.out, List.length_append, hlm]; rfl); obtain ⟨B2, d2, hv2, hd2, _⟩ := OwnZ.form o2 hl2; subst hv2; have HB4 := Lib.hid (b2 w1 hb3); have HO4 := Lib.hid o2; have HM4 := Lib.hid hl2; clear b2 o2 hl2 hb3 ho3 hrx hbx hs3 hlm q0 q1 hle)
        go_roundg (n - (k + 1))
        case measure => omega
        case rel => exact ⟨k + 1, m6 + 1, d2, B2, by omega, Nat.le_refl _, by go_num, rfl, hd2, by omega, HM4, HO4, HB4⟩
      · have v1 : ((cq : Int) == (xn : Int)) = false := beq_eq_false_iff_ne.2 he
        have hmf : Fil.meets xf ev = false := (by cases h : Fil.meets xf ev with | false => rfl | true => exact absurd (HCV.out.2 h) he)
        have HT : Hid (metIds (es.take (k + 1)) ev = metIds (es.take k) ev) := met_no hk' HE.out hmf
        have HM4 : Hid ((metIds (es.take (k + 1)) ev).length = m6) := (by show _ = _; rw [HT.out]; exact HL.out)
        have HO4 : Hid (OwnZ layI wA w1.heap.size (.slice B6 m6 d6) (metIds (es.take (k + 1)) ev)) := (by show OwnZ _ _ _ _ _; rw [HT.out]; exact HOd.out)
        clear he hmf
        go_wp2_with fail
        go_roundg (n - (k + 1))
        case measure => omega
        case rel => exact ⟨k + 1, m6, d6, B6, by omega, Nat.le_refl _, by go_num, rfl, hmd, by omega, HM4, HO4, HBd⟩
    · obtain rfl : k = n := by omega
      go_wp2_with fail
      go_ret
      have hl := HL.out
      have ho := HO.out
      rw [List.take_of_length_le (by rw [HN.out]; exact Nat.le_refl _)] at hl ho
      exact ⟨B6, m6, d6, rfl, hl, hmd, OwnZ.less ho HB1.out.size, below_next HB1.out (Nat.le_refl _) HB.out⟩
end Go.Proofs.Ytnfigjggjmncdaa
