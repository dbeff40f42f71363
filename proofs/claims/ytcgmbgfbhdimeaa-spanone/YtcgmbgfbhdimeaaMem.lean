/- What the walks share, of no package: bytes that a slice leads to, blocks known whole, rows that a call makes, regions that draw. -/
import Derived.Test.YtcgmbgfbhdimeaaRows
import Derived.WalkKit
import Derived.WalkSpells
import Derived.WalkLawsBesides
import Derived.Lib.Hide
import Derived.Laws.CopyOwn
import Derived.Laws.BytesArg
import Derived.Maps.AppendAt
import Derived.Deep.RegionHeld3
import Derived.OpenShut
import Derived.ProofKit
import Derived.SizedLaws
import Derived.Laws.IdiomStrings
import Derived.Deep.QuietTactic
import Derived.BigQuiet
namespace Go.Proofs.Ytcgmbgfbhdimeaa
open Go.RowKit

/-- A byte as a value. -/
def Bv (x : UInt8) : Value := .int .u8 (x.toNat : Int)
/-- Bytes that a slice's address leads to. -/
def Rd (w : World) (A : Option Addr) (bs : List UInt8) : Prop :=
  bs = [] ∨ ∃ g off, A = some ⟨g, off, none⟩ ∧ g < w.heap.size ∧ ∀ i (h : i < bs.length), w.cell? ⟨g, off + i, none⟩ = some (.int .u8 (bs[i].toNat : Int))

theorem Rd.at_ {w : World} {A : Option Addr} {bs : List UInt8} (h : Rd w A bs) {k : Nat} (hk : k < bs.length) :
    ∃ g off, A = some ⟨g, off, none⟩ ∧ g < w.heap.size ∧ w.cell? ⟨g, off + k, none⟩ = some (.int .u8 (bs[k].toNat : Int)) := by
  rcases h with rfl | ⟨g, off, rfl, hg, hc⟩
  · simp at hk
  · exact ⟨g, off, rfl, hg, hc k hk⟩
theorem Rd.below {w w' : World} {A : Option Addr} {bs : List UInt8} (h : Rd w A bs) (hb : Below w.heap.size w w') : Rd w' A bs := by
  rcases h with rfl | ⟨g, off, rfl, hg, hc⟩
  · exact .inl rfl
  · exact .inr ⟨g, off, rfl, Nat.lt_of_lt_of_le hg hb.size, fun i hi => (hb.cell (p := ⟨g, off + i, none⟩) hg).trans (hc i hi)⟩
theorem Rd.take {w : World} {A : Option Addr} {bs : List UInt8} (h : Rd w A bs) (k : Nat) : Rd w A (bs.take k) := by
  rcases h with rfl | ⟨g, off, rfl, hg, hc⟩
  · exact .inl (by simp)
  · exact .inr ⟨g, off, rfl, hg, fun i hi => by
      have hi' : i < bs.length := by simp at hi; omega
      rw [List.getElem_take]; exact hc i hi'⟩

/-- One block of cells, known whole. -/
def Blk (w : World) (g : Nat) (t : TypeId) (cs : Array Value) : Prop := w.heap[g]? = some (.cells cs t (0, 0))
theorem Blk.cell {w : World} {g : Nat} {t : TypeId} {cs : Array Value} (h : Blk w g t cs) (i : Nat) : w.cell? ⟨g, i, none⟩ = cs[i]? := cell_of_row w g i cs t (0, 0) h
theorem Blk.frozen {w : World} {g : Nat} {t : TypeId} {cs : Array Value} (h : Blk w g t cs) (i : Nat) : w.frozen? ⟨g, i, none⟩ = false := frozen_of_row w g i cs t h
theorem Blk.put {w : World} {g : Nat} {t : TypeId} {cs : Array Value} (h : Blk w g t cs) (i : Nat) (u : Value) : Blk (w.setCell ⟨g, i, none⟩ u) g t (cs.setIfInBounds i u) := heap_setCell_same w g i cs t u h
theorem Blk.far {w : World} {g : Nat} {t : TypeId} {cs : Array Value} (h : Blk w g t cs) {p : Addr} (hp : g ≠ p.block) (u : Value) : Blk (w.setCell p u) g t cs := (heap_setCell_other w p g u hp).trans h
theorem Blk.below {w w' : World} {B g : Nat} {t : TypeId} {cs : Array Value} (h : Blk w g t cs) (hb : Below B w w') (hg : g < B) : Blk w' g t cs := (hb.block g hg).trans h

theorem xor8 (R : Nat) (x : UInt8) : bits .xor .u8 ((R : Int) % 256) (x.toNat : Int) = ((R % 256 ^^^ x.toNat : Nat) : Int) := u8_xor_nat (R % 256) x.toNat (by omega) x.toNat_lt
theorem Blk.lt {w : World} {g : Nat} {t : TypeId} {cs : Array Value} (h : Blk w g t cs) : g < w.heap.size := (Array.getElem?_eq_some_iff.1 h).1
theorem Blk.new (w : World) (t : TypeId) (cs : Array Value) : Blk (w.alloc (.cells cs t)) w.heap.size t cs := heap_alloc_new w _
theorem Blk.alloc {w : World} {g : Nat} {t : TypeId} {cs : Array Value} (h : Blk w g t cs) (o : Obj) : Blk (w.alloc o) g t cs := (Below.heap_alloc w o g h.lt).trans h
theorem add_lit (g off j : Nat) : (⟨g, off, none⟩ : Addr).add j = ⟨g, off + j, none⟩ := by unfold Addr.add; split <;> simp_all
theorem Blk.src {w : World} {g : Nat} {t : TypeId} {cs : List Value} (h : Blk w g t cs.toArray) : ∀ j u, cs[j]? = some u → w.cell? ((⟨g, 0, none⟩ : Addr).add j) = some u := by
  intro j u hu
  rw [add_lit, Nat.zero_add, h.cell j]; simpa using hu
theorem Blk.rd {w : World} {g : Nat} {t : TypeId} {bs : List UInt8} (h : Blk w g t (bs.map Bv).toArray) : Rd w (some ⟨g, 0, none⟩) bs := by
  refine .inr ⟨g, 0, rfl, h.lt, fun i hi => ?_⟩
  rw [Nat.zero_add, h.cell i]; simp [hi, Bv]
/-- The bytes of a text that the program's own text holds. -/
theorem rd_const (w : World) (t : TypeId) (m : Nat × Nat) (cs : Array Value) (bs : List UInt8) (h : cs = (bs.map Bv).toArray) : Rd (w.alloc (.cells cs t m)) (some ⟨w.heap.size, 0, none⟩) bs := by
  refine .inr ⟨w.heap.size, 0, rfl, by simp, fun i hi => ?_⟩
  have e := cell_of_row (w.alloc (.cells cs t m)) w.heap.size i cs t m (heap_alloc_new _ _)
  rw [Nat.zero_add, e, h]; simp [hi, Bv]
/-- string(b) of the bytes that b leads to. -/
theorem run_str {P : Program} (w : World) (A : Option Addr) (bs : List UInt8) (n cap : Nat) (hr : Rd w A bs) (hn : bs.length = n) (src e dst : TypeId)
    (hs : P.underlying src = some (.slice e)) (he : P.underlying e = some (.int .u8)) (hd : P.underlying dst = some .string) :
    (convert src dst (.slice A n cap)).run P w = .ok (.string ⟨bs.toArray⟩) w := by
  subst hn
  rcases A with _ | ad
  · rcases hr with rfl | ⟨g, off, e, _, _⟩
    · exact run_convert_bytes_nil w src e hs he 0 cap dst hd
    · cases e
  · refine run_convert_bytes_back w src dst e ad cap bs hs he hd fun j hj => ?_
    obtain ⟨g, off, e, _, hc⟩ := hr.at_ hj
    injection e with e
    rw [e, add_lit]; exact hc
/-- A row of bytes that came in. -/
theorem rd_of_ints {w : World} {x : Addr} {len cap : Nat} {zs : List Int} (hl : len ≤ cap) (hz : zs.length = cap)
    (hcell : ∀ i, i < zs.length → w.cell? (x.add i) = some (.int .u8 (zs.getD i 0))) (hwz : ∀ n ∈ zs, (Lit.int .u8 n).wf = true) :
    ∃ bs : List UInt8, bs.length = len ∧ Rd w (some x) bs := by
  refine ⟨(zs.take len).map fun n => UInt8.ofNat n.toNat, by simp; omega, ?_⟩
  by_cases h0 : len = 0
  · exact .inl (by simp [h0])
  · obtain ⟨b, off, rfl, hc⟩ := ints_at hcell (by omega)
    refine .inr ⟨b, off, rfl, block_lt_of_cell (hc 0 (by omega)), fun i hi => ?_⟩
    have hi' : i < zs.length := by simp at hi; omega
    rw [hc i hi']
    have hw := hwz zs[i] (List.getElem_mem hi')
    have hb : 0 ≤ zs[i] ∧ zs[i] ≤ 255 := by simpa using bounds_u8 hw
    have e : zs.getD i 0 = zs[i] := by simp [List.getD, hi']
    rw [e]
    simp only [List.getElem_map, List.getElem_take, UInt8.toNat_ofNat']
    congr 2; omega
theorem below_next {B : Nat} {w a b : World} (h : Below B w a) (hB : B ≤ w.heap.size) (k : Below a.heap.size a b) : Below B w b := h.trans (k.mono (Nat.le_trans hB h.size))
section
variable {P : Program} {md : Region.Mode} {ops : Array Oper} {Q : Exit → Act → World → Prop} {S : World → Prop}
/-- One operation of a region that draws its order, taken first; its place in the list and its slot written out. -/
theorem wpAnyH_yes {i d : Nat} {oi : Oper} {v : Value} {fuel : Nat} {listed : Array Bool} {a : Act} {w : World} (hi : ops.toList[i]? = some oi) (hd : oi.dst = some d)
    (hs : Region.noSelect ops = true) (hf : Region.free md ops listed i = true) (hr : (Region.ready md ops listed).contains i = true)
    (hQ : ∀ c a w, Q (.panic c) (a.put (some d) v) w → Q (.panic c) a w) (hw : Region.wanted oi (yielded ops a.tmps) = true)
    (hv : ∀ w, S w → (execOp a.eval oi).run P w = .ok (.value v) w) (hS : S w)
    (h : wpAnyH P md ops Q S fuel (listed.setIfInBounds i true) (a.put (some d) v) w) : wpAnyH P md ops Q S (fuel + 1) listed a w := by
  rw [← hd] at hQ h
  exact wpAnyH_take (by simpa using hi) hs hf hr hQ (Or.inl ⟨hw, hv⟩) hS h
/-- One operation that its guard passes over. -/
theorem wpAnyH_no {i d : Nat} {oi : Oper} {fuel : Nat} {listed : Array Bool} {a : Act} {w : World} (hi : ops.toList[i]? = some oi) (hd : oi.dst = some d)
    (hs : Region.noSelect ops = true) (hf : Region.free md ops listed i = true) (hr : (Region.ready md ops listed).contains i = true)
    (hQ : ∀ c a w, Q (.panic c) (a.put (some d) undef) w → Q (.panic c) a w) (hw : Region.wanted oi (yielded ops a.tmps) = false) (hS : S w)
    (h : wpAnyH P md ops Q S fuel (listed.setIfInBounds i true) (a.put (some d) undef) w) : wpAnyH P md ops Q S (fuel + 1) listed a w := by
  rw [← hd] at hQ h
  exact wpAnyH_take (by simpa using hi) hs hf hr hQ (Or.inr ⟨hw, rfl⟩) hS h
/-- The only operation that may come up, carried out: S is shown anew behind it. -/
theorem wpAnyH_one {i : Nat} {oi : Oper} {fuel : Nat} {listed : Array Bool} {a : Act} {w : World} (hr : Region.ready md ops listed = [i]) (hi : ops.toList[i]? = some oi)
    (hw : Region.wanted oi (yielded ops a.tmps) = true)
    (h : ∀ K : Act → World → Prop, Hid (∀ a w, S w → wpAnyH P md ops Q S fuel (listed.setIfInBounds i true) a w → K a w) → Oper.wp P oi a w K Q) : wpAnyH P md ops Q S (fuel + 1) listed a w := by
  refine wpAnyH_ready hr (by simp) (AllReadyH.cons (by simpa using hi) (fun K hK => ?_) AllReadyH.nil)
  rw [if_pos hw]
  exact h K (fun a w hS hW => hK.out a w hS (fun _ => hW))
end
/-- A region that draws may go on under a stronger condition. -/
theorem wpAnyH_more {P : Program} {md : Region.Mode} {ops : Array Oper} {Q : Exit → Act → World → Prop} {S S' : World → Prop} (h : ∀ w, S' w → S w) :
    ∀ (fuel : Nat) (listed : Array Bool) (a : Act) (w : World), wpAnyH P md ops Q S' fuel listed a w → wpAnyH P md ops Q S fuel listed a w
  | 0, _, _, _, k => k
  | fuel + 1, _, _, _, k => ⟨k.1, fun i hi => wpOp_mono (fun a' w' h' => ⟨h w' h'.1, wpAnyH_more h fuel _ a' w' h'.2⟩) (k.2 i hi)⟩
theorem Rd.at_below {w w' : World} {A : Option Addr} {bs : List UInt8} (h : Rd w A bs) (hb : Below w.heap.size w w') {k : Nat} (hk : k < bs.length) :
    ∃ g off, A = some ⟨g, off, none⟩ ∧ g < w.heap.size ∧ w'.cell? ⟨g, off + k, none⟩ = some (.int .u8 (bs[k].toNat : Int)) := by
  obtain ⟨g, off, e, hg, hc⟩ := h.at_ hk
  exact ⟨g, off, e, hg, (hb.cell (p := ⟨g, off + k, none⟩) hg).trans hc⟩
/-- A row that is filled place by place. -/
theorem fill_step (L Z : List Value) (k : Nat) (v : Value) (hk : k < L.length) (hl : L.length = Z.length) (hv : L[k]? = some v) :
    ((L.take k ++ Z.drop k).toArray).setIfInBounds k v = (L.take (k + 1) ++ Z.drop (k + 1)).toArray := by
  have hk2 : k < Z.length := by omega
  rw [List.setIfInBounds_toArray]
  congr 1
  rw [List.set_append, if_neg (by simp; omega), List.length_take, Nat.min_eq_left (by omega), Nat.sub_self]
  rw [List.drop_eq_getElem_cons hk2, List.set_cons_zero, List.take_succ_eq_append_getElem hk]
  have : L[k] = v := by rw [List.getElem?_eq_getElem hk] at hv; exact Option.some.inj hv
  simp [this]
theorem run_storeVar_int {P : Program} (w : World) (g i : Nat) (t ty : TypeId) (cs : Array Value) (k : IntKind) (n : Int) (hg : Blk w g t cs) (hin : i < cs.size) (hi : (P.info? ty).map (·.size) = some 1) :
    (storeVar ty ⟨g, i, none⟩ (.int k n)).run P w = .ok () (w.setCell ⟨g, i, none⟩ (.int k n)) := by
  have hc := (hg.cell i).trans (Array.getElem?_eq_getElem hin)
  have hf := hg.frozen i
  cases hq : P.info? ty with
  | none => simp [hq] at hi
  | some j =>
    have hs : j.size = 1 := by simpa [hq] using hi
    simp [storeVar, sizeOf, typeInfo, hq, hs, Value.cells, storeCells, go_sem, stored, hc, hf]
theorem wpList_store_int {P : Program} {w : World} {ops : Array Oper} {rest : List Oper} {o : Oper} {a : Act} {Q : Exit → Act → World → Prop} (hgd : o.guard = none) (ty : TypeId) (x y : Operand) (ho : o.op = .store ty x y)
    (g i : Nat) (k : IntKind) (n : Int) (hx : a.eval x = .pointer (some ⟨g, i, none⟩)) (hy : a.eval y = .int k n)
    (t : TypeId) (cs : Array Value) (hg : Blk w g t cs) (hin : i < cs.size) (hi : (P.info? ty).map (·.size) = some 1)
    (h : ∀ w', Blk w' g t (cs.setIfInBounds i (.int k n)) → (∀ B w0, Below B w0 w → B ≤ g → Below B w0 w') → wpList P ops Q rest (a.put o.dst undef) w') : wpList P ops Q (o :: rest) a w := by
  refine wpList_plain hgd fun K hK => ?_
  unfold Oper.wp execOp
  simp only [ho, hx, hy, Instr.storeAt, Instr.sureAddr, Sem.run_bind, Sem.run_pure, Result.andThen_ok, run_storeVar_int w g i t ty cs k n hg hin hi]
  exact hK _ _ (h _ (hg.put i _) fun _ _ hb hB => hb.setCell hB _)
theorem blk_byte {w : World} {g : Nat} {t : TypeId} {bs : List UInt8} {i : Nat} {x : UInt8} (h : Blk w g t (bs.map Bv).toArray) (hx : bs[i]? = some x) : w.cell? ⟨g, i, none⟩ = some (.int .u8 (x.toNat : Int)) :=
  (h.cell i).trans (by simp [hx, Bv])
theorem Rd.src {w : World} {A : Option Addr} {bs : List UInt8} (h : Rd w A bs) (h0 : 0 < bs.length) :
    ∃ ad, A = some ad ∧ ad.block < w.heap.size ∧ ∀ j v, (bs.map Bv)[j]? = some v → w.cell? (ad.add j) = some v := by
  rcases h with rfl | ⟨g, off, rfl, hg, hc⟩
  · simp at h0
  · refine ⟨_, rfl, hg, fun j v hv => ?_⟩
    have hj : j < bs.length := by
      have := (List.getElem?_eq_some_iff.1 hv).1; simpa using this
    have e : (⟨g, off, none⟩ : Addr).add j = ⟨g, off + j, none⟩ := by unfold Addr.add; split <;> simp_all
    rw [e, hc j hj]
    simp [hj, Bv] at hv
    rw [← hv]
theorem vals_one (bs : List UInt8) : ∀ v ∈ bs.map Bv, v.oneCell' = true := by
  intro v hv
  simp only [List.mem_map] at hv
  obtain ⟨x, _, rfl⟩ := hv
  rfl
theorem wpList_copy_rd {P : Program} {w : World} {ops : Array Oper} {rest : List Oper} {o : Oper} {a : Act} {Q : Exit → Act → World → Prop} (hgd : o.guard = none) (d s : Operand) (dT sT : TypeId)
    (ho : o.op = .call { callee := .builtin .copy, args := #[d, s], argTypes := #[dT, sT] }) (elem : TypeId) (hu : P.underlying dT = some (.slice elem)) (hsz : (P.info? elem).map (·.size) = some 1)
    (g dLen dCap : Nat) (A : Option Addr) (sLen sCap : Nat) (hd : a.eval d = .slice (some ⟨g, 0, none⟩) dLen dCap) (hs : a.eval s = .slice A sLen sCap)
    (bs : List UInt8) (hr : Rd w A bs) (hn : bs.length = Nat.min sLen dLen) (cur : List Value) (t : TypeId) (hg : w.heap[g]? = some (.cells cur.toArray t (0, 0))) (hfit : bs.length ≤ cur.length)
    (h : ∀ w', Blk w' g t (bs.map Bv ++ cur.drop bs.length).toArray → (∀ B w0, Below B w0 w → B ≤ g → Below B w0 w') → wpList P ops Q rest (a.put o.dst (goInt bs.length)) w') :
    wpList P ops Q (o :: rest) a w := by
  have hlt : g < w.heap.size := (Array.getElem?_eq_some_iff.1 hg).1
  refine wpList_copy_splice hgd d s dT sT ho elem hu hsz (some ⟨g, 0, none⟩) A dLen dCap sLen sCap hd hs g 0 cur t hg (bs.map Bv) (by simpa using hn) ?_ (by simpa using hfit) (vals_one bs) g w (Below.refl _ _) (Nat.le_refl _) ?_
  · intro h0
    obtain ⟨ad, e, _, hc⟩ := hr.src (by simpa using h0)
    exact ⟨rfl, ad, e, hc⟩
  · intro w' hg' hb'
    have e : splice cur 0 (bs.map Bv) = bs.map Bv ++ cur.drop bs.length := by simp [splice]
    have hg2 : Blk w' g t (bs.map Bv ++ cur.drop bs.length).toArray := by rw [← e]; exact hg'.out
    have := h w' hg2 (fun B w0 hb hB => hb.trans (hb'.mono hB))
    simpa using this
theorem wpList_store_new {P : Program} {w : World} {ops : Array Oper} {rest : List Oper} {o : Oper} {a : Act} {Q : Exit → Act → World → Prop} (hgd : o.guard = none) (ty : TypeId) (x y : Operand) (ho : o.op = .store ty x y)
    (g : Nat) (cells : Array Value) (hx : a.eval x = .pointer (some ⟨g, 0, none⟩)) (hy : a.eval y = .agg cells)
    (t : TypeId) (old : Array Value) (hg : Blk w g t old) (hi : (P.info? ty).map (·.size) = some cells.size)
    (hold : old.size = cells.size) (h1 : cells.all (·.oneCell') = true)
    (h : ∀ w', Blk w' g t cells → (∀ B w0, Below B w0 w → B ≤ g → Below B w0 w') → wpList P ops Q rest (a.put o.dst undef) w') : wpList P ops Q (o :: rest) a w :=
  wpList_store_row hgd ty x y ho g cells hx hy t old hg hi hold h1 (h _ (setRow_heap w g old cells t _ hg) fun _ _ hb hB => below_setRow hb hB _)
theorem wpList_append_fit {P : Program} {w : World} {ops : Array Oper} {rest : List Oper} {o : Oper} {a : Act} {Q : Exit → Act → World → Prop} (hgd : o.guard = none) (s x : Operand) (t : TypeId)
    (ho : o.op = .call { callee := .builtin .append, args := #[s, x], argTypes := #[t, t] }) (e : TypeId) (i : TypeInfo) (ht : P.underlying t = some (.slice e)) (hi : P.info? e = some i) (hsize : i.size = 1)
    (g n cap : Nat) (cur : List Value) (hs : a.eval s = .slice (some ⟨g, 0, none⟩) n cap) (hg : Blk w g e cur.toArray)
    (ad : Addr) (m c : Nat) (news : List Value) (hx : a.eval x = .slice (some ad) m c) (hl : news.length = m) (hnews : ∀ j u, news[j]? = some u → w.cell? (ad.add j) = some u) (h1 : ∀ u ∈ news, u.oneCell' = true)
    (hroom : n + m ≤ cap) (hfit : n + m ≤ cur.length)
    (h : ∀ w', Blk w' g e (cur.take n ++ news ++ cur.drop (n + m)).toArray → (∀ B w0, Below B w0 w → B ≤ g → Below B w0 w') → wpList P ops Q rest (a.put o.dst (.slice (some ⟨g, 0, none⟩) (n + m) cap)) w') : wpList P ops Q (o :: rest) a w := by
  refine wpList_plain hgd fun K hK => ?_
  have hr := run_append_room (P := P) w t o.type e i ht hi g n cap cur.toArray hg ad m c news (by rw [hsize, hl, Nat.mul_one]) hnews h1 hroom (by rw [hsize, hl, Nat.mul_one]; simpa using hfit)
  unfold Oper.wp execOp
  simp only [ho, resolve, invoke, builtin, Sem.run_bind, Sem.run_pure, Result.andThen_ok, List.map_toArray, List.map_cons, List.map_nil, hs, hx, hr]
  refine hK _ _ (h _ ?_ fun B w0 hb hB => below_setRow hb hB _)
  have := setRow_heap w g cur.toArray (cur.take n ++ news ++ cur.drop (n + m)).toArray e _ hg
  simpa [hsize, hl, Blk] using this

/-- A slice of bytes that the call itself made. -/
def Own (w : World) (base : Nat) (e : TypeId) (v : Value) (bs : List UInt8) : Prop := w.ownsRow base e 1 v bs.length (bs.map Bv)
theorem Own.rd {w : World} {base : Nat} {e : TypeId} {v : Value} {bs : List UInt8} (h : Own w base e v bs) : ∃ A c, v = .slice A bs.length c ∧ bs.length ≤ c ∧ Rd w A bs := by
  rcases h.2 with ⟨rfl, hn⟩ | ⟨g, cap, cur, rfl, _, hg, hc, _, _, ht⟩
  · have : bs = [] := List.eq_nil_of_length_eq_zero hn
    subst this
    exact ⟨none, 0, rfl, by simp, .inl rfl⟩
  · refine ⟨_, cap, rfl, hc, .inr ⟨g, 0, rfl, (Array.getElem?_eq_some_iff.1 hg).1, fun i hi => ?_⟩⟩
    rw [Nat.zero_add, cell_of_row w g i cur e (0, 0) hg]
    have h1 : (cur.toList.take (bs.length * 1))[i]? = (bs.map Bv)[i]? := by rw [ht]
    rw [List.getElem?_take_of_lt (by omega)] at h1
    simpa [hi, Bv] using h1
theorem Own.base_le {w : World} {base : Nat} {e : TypeId} {v : Value} {bs : List UInt8} (h : Own w base e v bs) : ∀ k, v.ownBlock = some k → base ≤ k := fun k hk => (h.lt k hk).1
theorem Own.none_ (w : World) (base : Nat) (e : TypeId) : Own w base e (.slice none 0 0) [] := World.ownsRow_nil w base e 1
/-- '[]byte{}' -/
theorem Own.empty (w : World) (base : Nat) (e : TypeId) (hb : base ≤ w.heap.size) : Own (w.alloc (.cells #[] e)) base e (.slice (some ⟨w.heap.size, 0, none⟩) 0 0) [] :=
  ⟨by simp, .inr ⟨w.heap.size, 0, #[], rfl, hb, heap_alloc_new _ _, by simp, by simp, by simp, by simp⟩⟩
theorem Own.below {w w' : World} {base : Nat} {e : TypeId} {v : Value} {bs : List UInt8} (h : Own w base e v bs) (hb : Below w.heap.size w w') : Own w' base e v bs := by
  refine ⟨h.1, ?_⟩
  rcases h.2 with h2 | ⟨g, cap, cur, hv, hbg, hg, r⟩
  · exact .inl h2
  · exact .inr ⟨g, cap, cur, hv, hbg, (hb.block g (Array.getElem?_eq_some_iff.1 hg).1).trans hg, r⟩
theorem run_append_rd {P : Program} (w : World) (base : Nat) (t ty e : TypeId) (i : TypeInfo) (ht : P.underlying t = some (.slice e)) (hi : P.info? e = some i) (hz : i.zero = some (.int .u8 0)) (hsize : i.size = 1) (hby : i.bytes = 1)
    (v : Value) (bs : List UInt8) (hown : Own w base e v bs) (A : Option Addr) (cs : List UInt8) (m c : Nat) (hr : Rd w A cs) (hm : cs.length = m) (hl : bs.length + m ≤ 140737488355328) (hbase : base ≤ w.heap.size) :
    ∃ v' w', (Builtin.append_ #[t, t] ty #[v, .slice A m c]).run P w = .ok v' w' ∧ Own w' base e v' (bs ++ cs) ∧ w.grownBy w' v.ownBlock ∧ (v'.ownBlock = v.ownBlock ∨ v'.ownBlock = some w.heap.size) := by
  subst hm
  rcases A with _ | ad
  · have hcs : cs = [] := by
      rcases hr with h | ⟨_, _, h, _⟩
      · exact h
      · cases h
    subst hcs
    refine ⟨v, w, ?_, by simpa using hown, World.grownBy.refl w _, .inl rfl⟩
    rcases hown.2 with ⟨rfl, _⟩ | ⟨g, cap, cur, rfl, _, _, hnc, _⟩
    · simp [Builtin.append_, run_underlying ht, sizeOf, typeInfo, hi, Builtin.lenOf, Builtin.firstCells]
    · simp [Builtin.append_, run_underlying ht, sizeOf, typeInfo, hi, Builtin.lenOf, Builtin.firstCells, hnc, storeCells]
  · have hnews : ∀ j u, (cs.map Bv)[j]? = some u → w.cell? (ad.add j) = some u := by
      intro j u hu
      have hj : j < cs.length := by have := (List.getElem?_eq_some_iff.1 hu).1; simpa using this
      obtain ⟨ad', e', _, hc⟩ := hr.src (by omega)
      injection e' with e'
      subst e'
      exact hc j u hu
    obtain ⟨v', w', hrun, h2, h3, _, h5⟩ := run_append_own_at (P := P) w base t ty e i (.int .u8 0) 1 1 ht hi hz hsize hby rfl (by omega) v bs.length (bs.map Bv) hown ad cs.length c (cs.map Bv) (by simp) hnews (vals_one cs) (by unfold maxLen; omega) (by omega) hbase
    exact ⟨v', w', hrun, by simpa [Own] using h2, h3, h5⟩
theorem wpList_append_rd {P : Program} {w : World} {ops : Array Oper} {rest : List Oper} {o : Oper} {a : Act} {Q : Exit → Act → World → Prop} (hgd : o.guard = none) (s x : Operand) (t : TypeId)
    (ho : o.op = .call { callee := .builtin .append, args := #[s, x], argTypes := #[t, t] }) (base : Nat) (e : TypeId) (i : TypeInfo) (ht : P.underlying t = some (.slice e)) (hi : P.info? e = some i) (hz : i.zero = some (.int .u8 0)) (hsize : i.size = 1) (hby : i.bytes = 1)
    (v : Value) (bs : List UInt8) (hs : a.eval s = v) (hown : Own w base e v bs) (A : Option Addr) (cs : List UInt8) (m c : Nat) (hx : a.eval x = .slice A m c) (hr : Rd w A cs) (hm : cs.length = m) (hl : bs.length + m ≤ 140737488355328) (hbase : base ≤ w.heap.size)
    (h : ∀ v' w', Own w' base e v' (bs ++ cs) → (∀ w0, Below base w0 w → Below base w0 w') → (v'.ownBlock = v.ownBlock ∨ v'.ownBlock = some w.heap.size) → w.grownBy w' v.ownBlock → wpList P ops Q rest (a.put o.dst v') w') : wpList P ops Q (o :: rest) a w := by
  refine wpList_plain hgd fun K hK => ?_
  obtain ⟨v', w', hrun, h2, h3, h4⟩ := run_append_rd (P := P) w base t o.type e i ht hi hz hsize hby v bs hown A cs m c hr hm hl hbase
  unfold Oper.wp execOp
  simp only [ho, resolve, invoke, builtin, Sem.run_bind, Sem.run_pure, Result.andThen_ok, List.map_toArray, List.map_cons, List.map_nil, hs, hx, hrun]
  exact hK _ _ (h v' w' h2 (fun w0 hb => hb.grown h3 hbase hown.base_le) h4 h3)
/-- The same as one operation of a region that draws. -/
theorem op_append_rd {P : Program} {w : World} {o : Oper} {a : Act} {K : Act → World → Prop} {Q : Exit → Act → World → Prop} (s x : Operand) (t : TypeId)
    (ho : o.op = .call { callee := .builtin .append, args := #[s, x], argTypes := #[t, t] }) (base : Nat) (e : TypeId) (i : TypeInfo) (ht : P.underlying t = some (.slice e)) (hi : P.info? e = some i) (hz : i.zero = some (.int .u8 0)) (hsize : i.size = 1) (hby : i.bytes = 1)
    (v : Value) (bs : List UInt8) (hs : a.eval s = v) (hown : Own w base e v bs) (A : Option Addr) (cs : List UInt8) (m c : Nat) (hx : a.eval x = .slice A m c) (hr : Rd w A cs) (hm : cs.length = m) (hl : bs.length + m ≤ 140737488355328) (hbase : base ≤ w.heap.size)
    (h : ∀ v' w', Own w' base e v' (bs ++ cs) → (∀ w0, Below base w0 w → Below base w0 w') → K (a.put o.dst v') w') : Oper.wp P o a w K Q := by
  obtain ⟨v', w', hrun, h2, h3, h4⟩ := run_append_rd (P := P) w base t o.type e i ht hi hz hsize hby v bs hown A cs m c hr hm hl hbase
  unfold Oper.wp execOp
  simp only [ho, resolve, invoke, builtin, Sem.run_bind, Sem.run_pure, Result.andThen_ok, List.map_toArray, List.map_cons, List.map_nil, hs, hx, hrun]
  exact h v' w' h2 (fun w0 hb => hb.grown h3 hbase hown.base_le)
theorem byte_info : (Try.prog.info? 5).map (fun i => (i.zero, i.size, i.bytes)) = some (some (.int .u8 0), 1, 1) := by kernel_rfl
theorem ret_int {k : IntKind} {a b : Int} (h : a = b) : Ending.returned (.int k a) = .returned (.int k b) := by rw [h]
theorem below_alloc {w w' : World} {o : Obj} (h : Below (w.alloc o).heap.size (w.alloc o) w') : Below w.heap.size w w' :=
  ((Below.refl _ _).alloc (Nat.le_refl _) _).trans (h.mono (by simp))
/-- Only block g may have turned, and new blocks may be there. -/
def Touch (g : Nat) (w w' : World) : Prop := w.grownBy w' (some g)
theorem Touch.refl (g : Nat) (w : World) : Touch g w w := World.grownBy.refl w _
theorem Touch.trans {g : Nat} {a b c : World} (h : Touch g a b) (k : Touch g b c) : Touch g a c := World.grownBy.trans h k
theorem Touch.set_ {g : Nat} {a w : World} (h : Touch g a w) (i : Nat) (v : Value) : Touch g a (w.setCell ⟨g, i, none⟩ v) :=
  h.trans ⟨rfl, rfl, rfl, by simp [World.setCell], fun k _ hk => Below.heap_setCell w ⟨g, i, none⟩ v k (fun e => hk (by rw [e]))⟩
theorem Touch.of_below {g : Nat} {w w' : World} (h : Below w.heap.size w w') : Touch g w w' := ⟨h.os, h.tape, h.output, h.size, fun k hk _ => h.block k hk⟩
theorem Touch.below {g B : Nat} {w0 w w' : World} (h : Touch g w w') (hb : Below B w0 w) (hB : B ≤ w.heap.size) (hg : B ≤ g) : Below B w0 w' :=
  hb.grown h hB (fun k hk => by cases hk; exact hg)
theorem Touch.size {g : Nat} {w w' : World} (h : Touch g w w') : w.heap.size ≤ w'.heap.size := World.grownBy.size h
theorem Touch.blk {g g' : Nat} {w w' : World} {t : TypeId} {cs : Array Value} (h : Touch g w w') (hB : Blk w g' t cs) (hne : g' ≠ g) : Blk w' g' t cs :=
  (World.grownBy.block h g' hB.lt (fun e => hne (by cases e; rfl))).trans hB
/-- Bytes that do not lie in block g are read as before. -/
theorem Touch.rd {g : Nat} {w w' : World} {A : Option Addr} {bs : List UInt8} (h : Touch g w w') (hr : Rd w A bs) (hne : ∀ off, A ≠ some ⟨g, off, none⟩ ∨ bs = []) : Rd w' A bs := by
  rcases hr with rfl | ⟨g', off, rfl, hg, hc⟩
  · exact .inl rfl
  · rcases hne off with hn | rfl
    · refine .inr ⟨g', off, rfl, Nat.lt_of_lt_of_le hg h.size, fun i hi => ?_⟩
      have e := World.grownBy.block h g' hg (fun e => hn (by cases e; rfl))
      exact (World.cell?_of_block (a := ⟨g', off + i, none⟩) e).trans (hc i hi)
    · exact .inl rfl
/-- What the walk asks of a scan's block. -/
theorem blk2 {w : World} {g : Nat} {t : TypeId} {a b : Value} (hB : Blk w g t #[a, b]) :
    w.cell? ⟨g, 0, none⟩ = some a ∧ w.cell? ⟨g, 1, none⟩ = some b ∧ w.frozen? ⟨g, 0, none⟩ = false ∧ w.frozen? ⟨g, 1, none⟩ = false :=
  ⟨hB.cell 0, hB.cell 1, hB.frozen 0, hB.frozen 1⟩
/-- A cut off the front, as the model spells it. -/
theorem run_cut {w : World} {A : Option Addr} {bs : List UInt8} {n cap k : Nat} (hr : Rd w A bs) (hn : bs.length = n) (hk : k ≤ n) (hc : n ≤ cap) :
    ∃ A', (∀ W, (Instr.slice 76 (.slice A n cap) (some (.int .i64 (k : Int))) none none).run Try.prog W = .ok (.slice A' (n - k) (cap - k)) W) ∧ Rd w A' (bs.drop k) := by
  by_cases hck : cap = k
  · refine ⟨A, fun W => ?_, .inl (List.drop_eq_nil_of_le (by omega))⟩
    have h1 : (0 : Int) ≤ (k : Int) := by omega
    have h2 : (k : Int) ≤ (n : Int) := by omega
    subst hck
    go_simp
  · refine ⟨A.map fun x => x.add k, fun W => ?_, ?_⟩
    · have h1 : (0 : Int) ≤ (k : Int) := by omega
      have h2 : (k : Int) ≤ (n : Int) := by omega
      go_simp
    · rcases hr with rfl | ⟨g, off, rfl, hg, hcell⟩
      · exact .inl (by simp)
      · refine .inr ⟨g, off + k, by simp [add_lit], hg, fun i hi => ?_⟩
        have hi' : k + i < bs.length := by simp at hi; omega
        rw [List.getElem_drop, Nat.add_assoc]; exact hcell (k + i) hi'
/-- A cut off the end, as the model spells it. -/
theorem run_head (A : Option Addr) (n cap k : Nat) (hk : k ≤ n) (hc : n ≤ cap) (W : World) :
    (Instr.slice 76 (.slice A n cap) none (some (.int .i64 (k : Int))) none).run Try.prog W = .ok (.slice A k cap) W := by
  have h1 : (0 : Int) ≤ (k : Int) := by omega
  have h2 : (k : Int) ≤ (cap : Int) := by omega
  go_simp
theorem quiet_same {P : Program} {f : FuncId} {args : Array Value} {w : World} {n : Nat} {v : Value} (h : Calls P f args (w.drewN n) fun e w' => e = .returned v ∧ w.drewN n = w') :
    Calls P f args (w.drewN n) fun e w'' => e = .returned v ∧ ∃ m, w'' = w.drewN m := h.mono fun _ _ ⟨he, hm⟩ => ⟨he, n, hm.symm⟩
theorem Rd.drewN {w : World} {A : Option Addr} {bs : List UInt8} (h : Rd w A bs) (n : Nat) : Rd (w.drewN n) A bs := h
/-- string(b) in a world that was drawn from. -/
theorem run_strN {P : Program} (w : World) (A : Option Addr) (bs : List UInt8) (n cap : Nat) (hr : Rd w A bs) (hn : bs.length = n) (src e dst : TypeId)
    (hs : P.underlying src = some (.slice e)) (he : P.underlying e = some (.int .u8)) (hd : P.underlying dst = some .string) (m : Nat) :
    (convert src dst (.slice A n cap)).run P (w.drewN m) = .ok (.string ⟨bs.toArray⟩) (w.drewN m) := run_str (w.drewN m) A bs n cap (hr.drewN m) hn src e dst hs he hd
/-- string(b) of bytes that lie below what was made since. -/
theorem str_below {w w' : World} {A : Option Addr} {bs : List UInt8} {n : Nat} (c : Nat) (hr : Rd w A bs) (hn : bs.length = n) (hb : Below w.heap.size w w') :
    Sem.run Try.prog (convert 76 9 (.slice A n c)) w' = .ok (.string ⟨bs.toArray⟩) w' :=
  run_str (P := Try.prog) w' A bs n c (hr.below hb) hn 76 5 9 Try.underlying76 Try.underlying5 Try.underlying9
/-- A row that the call made, as its loop writes it. -/
theorem own_form {w : World} {base : Nat} {e : TypeId} {v : Value} {bs : List UInt8} (h : Own w base e v bs) :
    ∃ D c gi, v = .slice D bs.length c ∧ base ≤ gi ∧ Rd w D bs ∧ (0 < bs.length → D = some ⟨gi, 0, none⟩ ∧ ∃ cur, Blk w gi e cur ∧ bs.length ≤ cur.size) := by
  have hr := h.rd
  rcases h.2 with ⟨rfl, hn⟩ | ⟨g, cap, cur, rfl, hb, hg, hc, _, hs, ht⟩
  · have : bs = [] := List.eq_nil_of_length_eq_zero hn
    subst this
    exact ⟨none, 0, base, rfl, Nat.le_refl _, .inl rfl, fun h => by simp at h⟩
  · obtain ⟨A, c, e1, _, hrd⟩ := hr
    cases e1
    exact ⟨_, _, g, rfl, hb, hrd, fun _ => ⟨rfl, cur, hg, by omega⟩⟩
end Go.Proofs.Ytcgmbgfbhdimeaa
