/- Contracts. -/
import Derived.Test.YtnfigjggjmncdaaGreatM1
set_option maxRecDepth 100000
set_option maxHeartbeats 4000000
namespace Go.Proofs.YtnfigjggjmncdaaGreat
section
open Go.RowKit
def Lays (w:World) (bs:LU) (L:Nat) (e:Ending) (w':World):Prop:=∃D c,e=.returned (.slice D L c)/\L<=c/\Below w.heap.size w w'/\Rd w' D bs
theorem vput_wrong (A:OA) (bs:LU) (n cap:Nat) (k i:Int) (t:LU) (hn:bs.length=n) (hl:n<=140737488355328) (ht:t.length<=9223372036854775807) (w:World) (hr:Rd w A bs) (hw:Vals.right k i t=false):
  Calls Tryz.prog 152 #[.slice A n cap,.agg (vC k i t.toArray)] w (Lays w bs n):=by
 obtain⟨i0,hi0,hz0,hz1,hz2⟩:=info_parts byte_info
 have HW:=Jh hw
 have HN:=Jh hn
 clear hw hn
 go_enter Tryz.func152,Tryz.ntmps152
 go_wp2_with fail
 obtain⟨hB,hb0⟩:=box3 w 52 (.int .i64 k) (.int .i64 i) (.string ⟨t.toArray⟩)
 generalize w.alloc (.cells (vC k i t.toArray) 52)=w0 at *
 refine (right_is k i t w0 ht false HW.o).mono ?_
 rintro e w1 ⟨rfl,hb1⟩
 have hb1w:=hb0.trans (hb1.mono hb0.size)
 have hr1:=(hr.below hb1w).below ((Below.refl _ _).alloc (Jn) (.cells #[] 5))
 clear hB hb0 hb1
 go_wp2_with (at_builtin;refine wpList_append_rd rfl (.tmp 9) (.tmp 10) 29 rfl w1.heap.size 5 i0 Tryz.underlying29 hi0 hz0 hz1 hz2 _ [] (by rfl) (Own.empty w1 w1.heap.size 5 (Jn)) A bs n cap (by rfl) hr1 HN.o (by simp;omega) (by simp) ?_;intro v2 w2 hO2 hb2' _ _)
 rw[List.nil_append] at hO2
 have hb2:=hb2' w1 ((Below.refl _ _).alloc (Jn) _)
 obtain⟨D,c,rfl,hc,hr2⟩:=hO2.rd
 rw[HN.o] at hc
 go_ret
 rw[HN.o]
 exact⟨D,c,rfl,hc,hb1w.trans (hb2.mono hb1w.size),hr2⟩
theorem vput_int (A:OA) (bs:LU) (n cap L:Nat) (i:Int) (hn:bs.length=n) (hL:n+(Wire.put 1++Wire.put (Wire.zig i)).length=L) (hl:L<=140737488355328) (h1:-9223372036854775808<=i) (h2:i<=9223372036854775807) (w:World) (hr:Rd w A bs):
  Calls Tryz.prog 152 #[.slice A n cap,.agg (vC 1 i #[])] w (Lays w (bs++(Wire.put 1++Wire.put (Wire.zig i))) L):=by
 have HN:=Jh hn
 have HL:=Jh hL
 have HP:=Jh (Wire.put_lo 1 (by decide))
 have HL1:Hid (n+(Wire.put 1).length=n+1):=by show _=_;rw[HP.o];rfl
 have hL':n+1+(Wire.put (Wire.zig i)).length=L:=by rw[HP.o] at hL;simp at hL ⊢;omega
 have HL':=Jh hL'
 have hl1:n+1<=140737488355328:=by omega
 clear hL hL' hn
 go_enter Tryz.func152,Tryz.ntmps152
 go_wp2_with fail
 obtain⟨hB,hb0⟩:=box3 w 52 (.int .i64 1) (.int .i64 i) (.string ⟨#[]⟩)
 generalize w.alloc (.cells (vC 1 i #[]) 52)=w0 at *
 refine (right_is 1 (i) [] w0 (by simp) true rfl).mono ?_
 rintro e w1 ⟨rfl,hb1⟩
 have hb1w:=hb0.trans (hb1.mono hb0.size)
 obtain⟨c0,c1,c2,f0,f1,f2⟩:=blk3 (hB.below hb1 hB.lt)
 have hB1:=hB.below hb1 hB.lt
 have hr1:=hr.below hb1w
 clear hB hb0 hb1
 go_wp2_with fail
 refine (put_at A bs n cap 1 (n+1) HN.o HL1.o (by decide) hl1 w1 hr1).mono ?_
 rintro e w2 ⟨g2,rfl,hg2,hb2,hB2⟩
 have hb2w:=hb1w.trans (hb2.mono hb1w.size)
 clear c0 c1 c2 f0 f1 f2
 obtain⟨c0,c1,c2,f0,f1,f2⟩:=blk3 (hB1.below hb2 hB1.lt)
 have HN2:Hid ((bs++Wire.put 1).length=n+1):=by show _=_;rw[List.length_append,HN.o,HP.o];rfl
 clear hb1w hr1 hB1
 go_wp2_with fail
 refine (putInt_at (some ⟨g2,0,none⟩) (bs++Wire.put 1) (n+1) (n+1) L i HN2.o HL'.o h1 h2 hl w2 hB2.rd).mono ?_
 rintro e w3 ⟨g3,rfl,hg3,hb3,hB3⟩
 go_wp2_with fail
 go_ret
 exact⟨_,_,rfl,Jn,hb2w.trans (hb3.mono hb2w.size),by rw[<-List.append_assoc];exact hB3.rd⟩
theorem vput_text (A:OA) (bs:LU) (n cap L:Nat) (t:LU) (hn:bs.length=n) (hL:n+(Wire.put 2++Wire.text t).length=L) (hl:L<=140737488355328) (ht:t.length<=64) (w:World) (hr:Rd w A bs):
  Calls Tryz.prog 152 #[.slice A n cap,.agg (vC 2 0 t.toArray)] w (Lays w (bs++(Wire.put 2++Wire.text t)) L):=by
 have HN:=Jh hn
 have HL:=Jh hL
 have HP:=Jh (Wire.put_lo 2 (by decide))
 have HL1:Hid (n+(Wire.put 2).length=n+1):=by show _=_;rw[HP.o];rfl
 have hL':n+1+(Wire.text t).length=L:=by rw[HP.o] at hL;simp at hL ⊢;omega
 have HL':=Jh hL'
 have hl1:n+1<=140737488355328:=by omega
 clear hL hL' hn
 go_enter Tryz.func152,Tryz.ntmps152
 go_wp2_with fail
 obtain⟨hB,hb0⟩:=box3 w 52 (.int .i64 2) (.int .i64 0) (.string ⟨t.toArray⟩)
 generalize w.alloc (.cells (vC 2 0 t.toArray) 52)=w0 at *
 refine (right_is 2 (0) t w0 (by omega) true (by simp[Vals.right,ht])).mono ?_
 rintro e w1 ⟨rfl,hb1⟩
 have hb1w:=hb0.trans (hb1.mono hb0.size)
 obtain⟨c0,c1,c2,f0,f1,f2⟩:=blk3 (hB.below hb1 hB.lt)
 have hB1:=hB.below hb1 hB.lt
 have hr1:=hr.below hb1w
 clear hB hb0 hb1
 go_wp2_with fail
 refine (put_at A bs n cap 2 (n+1) HN.o HL1.o (by decide) hl1 w1 hr1).mono ?_
 rintro e w2 ⟨g2,rfl,hg2,hb2,hB2⟩
 have hb2w:=hb1w.trans (hb2.mono hb1w.size)
 clear c0 c1 c2 f0 f1 f2
 obtain⟨c0,c1,c2,f0,f1,f2⟩:=blk3 (hB1.below hb2 hB1.lt)
 have HN2:Hid ((bs++Wire.put 2).length=n+1):=by show _=_;rw[List.length_append,HN.o,HP.o];rfl
 clear hb1w hr1 hB1
 go_wp2_with fail
 refine (putText_at (some ⟨g2,0,none⟩) (bs++Wire.put 2) t (n+1) (n+1) t.length L HN2.o rfl HL'.o hl w2 hB2.rd).mono ?_
 rintro e w3 ⟨g3,rfl,hg3,hb3,hB3⟩
 go_wp2_with fail
 go_ret
 exact⟨_,_,rfl,Jn,hb2w.trans (hb3.mono hb2w.size),by rw[<-List.append_assoc];exact hB3.rd⟩
theorem vput_off (A:OA) (bs:LU) (n cap L:Nat)  (hn:bs.length=n) (hL:n+(Wire.put 3++Wire.put 0).length=L) (hl:L<=140737488355328)  (w:World) (hr:Rd w A bs):
  Calls Tryz.prog 152 #[.slice A n cap,.agg (vC 3 0 #[])] w (Lays w (bs++(Wire.put 3++Wire.put 0)) L):=by
 have HN:=Jh hn
 have HL:=Jh hL
 have HP:=Jh (Wire.put_lo 3 (by decide))
 have HL1:Hid (n+(Wire.put 3).length=n+1):=by show _=_;rw[HP.o];rfl
 have hL':n+1+(Wire.put 0).length=L:=by rw[HP.o] at hL;simp at hL ⊢;omega
 have HL':=Jh hL'
 have hl1:n+1<=140737488355328:=by omega
 clear hL hL' hn
 go_enter Tryz.func152,Tryz.ntmps152
 go_wp2_with fail
 obtain⟨hB,hb0⟩:=box3 w 52 (.int .i64 3) (.int .i64 0) (.string ⟨#[]⟩)
 generalize w.alloc (.cells (vC 3 0 #[]) 52)=w0 at *
 refine (right_is 3 (0) [] w0 (by simp) true rfl).mono ?_
 rintro e w1 ⟨rfl,hb1⟩
 have hb1w:=hb0.trans (hb1.mono hb0.size)
 obtain⟨c0,c1,c2,f0,f1,f2⟩:=blk3 (hB.below hb1 hB.lt)
 have hB1:=hB.below hb1 hB.lt
 have hr1:=hr.below hb1w
 clear hB hb0 hb1
 go_wp2_with fail
 refine (put_at A bs n cap 3 (n+1) HN.o HL1.o (by decide) hl1 w1 hr1).mono ?_
 rintro e w2 ⟨g2,rfl,hg2,hb2,hB2⟩
 have hb2w:=hb1w.trans (hb2.mono hb1w.size)
 clear c0 c1 c2 f0 f1 f2
 obtain⟨c0,c1,c2,f0,f1,f2⟩:=blk3 (hB1.below hb2 hB1.lt)
 have HN2:Hid ((bs++Wire.put 3).length=n+1):=by show _=_;rw[List.length_append,HN.o,HP.o];rfl
 clear hb1w hr1 hB1
 go_wp2_with fail
 refine (put_at (some ⟨g2,0,none⟩) (bs++Wire.put 3) (n+1) (n+1) 0 L HN2.o HL'.o (by decide) hl w2 hB2.rd).mono ?_
 rintro e w3 ⟨g3,rfl,hg3,hb3,hB3⟩
 go_wp2_with fail
 go_ret
 exact⟨_,_,rfl,Jn,hb2w.trans (hb3.mono hb2w.size),by rw[<-List.append_assoc];exact hB3.rd⟩
theorem vput_on (A:OA) (bs:LU) (n cap L:Nat)  (hn:bs.length=n) (hL:n+(Wire.put 3++Wire.put 1).length=L) (hl:L<=140737488355328)  (w:World) (hr:Rd w A bs):
  Calls Tryz.prog 152 #[.slice A n cap,.agg (vC 3 1 #[])] w (Lays w (bs++(Wire.put 3++Wire.put 1)) L):=by
 have HN:=Jh hn
 have HL:=Jh hL
 have HP:=Jh (Wire.put_lo 3 (by decide))
 have HL1:Hid (n+(Wire.put 3).length=n+1):=by show _=_;rw[HP.o];rfl
 have hL':n+1+(Wire.put 1).length=L:=by rw[HP.o] at hL;simp at hL ⊢;omega
 have HL':=Jh hL'
 have hl1:n+1<=140737488355328:=by omega
 clear hL hL' hn
 go_enter Tryz.func152,Tryz.ntmps152
 go_wp2_with fail
 obtain⟨hB,hb0⟩:=box3 w 52 (.int .i64 3) (.int .i64 1) (.string ⟨#[]⟩)
 generalize w.alloc (.cells (vC 3 1 #[]) 52)=w0 at *
 refine (right_is 3 (1) [] w0 (by simp) true rfl).mono ?_
 rintro e w1 ⟨rfl,hb1⟩
 have hb1w:=hb0.trans (hb1.mono hb0.size)
 obtain⟨c0,c1,c2,f0,f1,f2⟩:=blk3 (hB.below hb1 hB.lt)
 have hB1:=hB.below hb1 hB.lt
 have hr1:=hr.below hb1w
 clear hB hb0 hb1
 go_wp2_with fail
 refine (put_at A bs n cap 3 (n+1) HN.o HL1.o (by decide) hl1 w1 hr1).mono ?_
 rintro e w2 ⟨g2,rfl,hg2,hb2,hB2⟩
 have hb2w:=hb1w.trans (hb2.mono hb1w.size)
 clear c0 c1 c2 f0 f1 f2
 obtain⟨c0,c1,c2,f0,f1,f2⟩:=blk3 (hB1.below hb2 hB1.lt)
 have HN2:Hid ((bs++Wire.put 3).length=n+1):=by show _=_;rw[List.length_append,HN.o,HP.o];rfl
 clear hb1w hr1 hB1
 go_wp2_with fail
 refine (put_at (some ⟨g2,0,none⟩) (bs++Wire.put 3) (n+1) (n+1) 1 L HN2.o HL'.o (by decide) hl w2 hB2.rd).mono ?_
 rintro e w3 ⟨g3,rfl,hg3,hb3,hB3⟩
 go_wp2_with fail
 go_ret
 exact⟨_,_,rfl,Jn,hb2w.trans (hb3.mono hb2w.size),by rw[<-List.append_assoc];exact hB3.rd⟩
theorem vput_at (A:OA) (bs:LU) (n cap L:Nat) (k i:Int) (t:LU) (hn:bs.length=n) (hL:n+(Vals.lay k i t).length=L) (hl:L<=140737488355328) (h1:-9223372036854775808<=i) (h2:i<=9223372036854775807) (ht:t.length<=9223372036854775807) (w:World) (hr:Rd w A bs):
  Calls Tryz.prog 152 #[.slice A n cap,.agg (vC k i t.toArray)] w (Lays w (bs++Vals.lay k i t) L):=by
 cases h:Vals.right k i t with
 | false=>
  have e:Vals.lay k i t=[]:=by unfold Vals.lay;rw[h];rfl
  rw[e] at hL ⊢
  rw[List.append_nil]
  simp only[List.length_nil,Nat.add_zero] at hL
  subst hL
  exact vput_wrong A bs n cap k i t hn hl ht w hr h
 | true=>
  have e:Vals.lay k i t=Vals.bytes k i t:=by unfold Vals.lay;rw[if_pos h]
  rw[e] at hL ⊢
  unfold Vals.bytes at hL ⊢
  rcases Vals.right_cases h with ⟨rfl,rfl⟩|⟨rfl,rfl,ht'⟩|⟨rfl,rfl,rfl|rfl⟩
  ·rw[if_pos rfl] at hL ⊢
   exact vput_int A bs n cap L i hn hL hl h1 h2 w hr
  ·rw[if_neg (by decide),if_pos rfl] at hL ⊢
   exact vput_text A bs n cap L t hn hL hl ht' w hr
  ·rw[if_neg (by decide),if_neg (by decide)] at hL ⊢
   exact vput_off A bs n cap L hn hL hl w hr
  ·rw[if_neg (by decide),if_neg (by decide)] at hL ⊢
   exact vput_on A bs n cap L hn hL hl w hr
theorem Touch.new_ {g:Nat} {a w:World} (h:Touch g a w) {b j:Nat} {v:Value} (hb:a.heap.size<=b):Touch g a (w.setCell ⟨b,j,none⟩ v):=
 ⟨h.os,h.tape,h.output,by simpa using h.size,fun k hk hne=>(heap_setCell_other w ⟨b,j,none⟩ k v (by show k≠b;omega)).trans (h.block k hk hne)⟩
theorem rd_apart3 {w:World} {g:Nat} {t:TypeId} {x y:Int} {z:ByteArray} {A:OA} {bs:LU} (hB:Blk w g t #[.int .i64 x,.int .i64 y,.string z]) (hr:Rd w A bs) (off:Nat):A≠some ⟨g,off,none⟩∨bs=[]:=by
 rcases hr with rfl|⟨g',off',rfl,hg,hc⟩
 ·exact .inr rfl
 ·by_cases h0:bs=[]
  ·exact .inr h0
  ·refine .inl fun e=>?_
   cases e
   have hl:0<bs.length:=List.length_pos_iff.2 h0
   have h:=hc 0 hl
   rw[hB.cell] at h
   rcases off with _|_|_|off
   ·simp at h
   ·simp at h
   ·simp at h
   ·simp at h
theorem Sc.far3 {w:World} {g b:Nat} {t t':TypeId} {s:Wire.St} {x y:Int} {z:ByteArray} (h:Sc w g t s) (hB:Blk w b t' #[.int .i64 x,.int .i64 y,.string z]) (hne:g≠b) (j:Nat) (u:Value):Sc (w.setCell ⟨b,j,none⟩ u) g t s:=by
 obtain⟨A,n,cap,hG,h1,h2,h3,hr,ha⟩:=h
 exact⟨A,n,cap,hG.far (p:=⟨b,j,none⟩) hne u,h1,h2,h3,((Touch.refl b w).set_ j u).rd hr (rd_apart3 hB hr),ha⟩
theorem put_eight (A:OA) (bs:LU) (n cap L:Nat) (hn:bs.length=n) (hL:n+(Wire.put 8).length=L) (hl:L<=140737488355328) (w:World) (hr:Rd w A bs):
  Calls Tryz.prog 61 #[.slice A n cap,.int .u64 8] w fun e w'=>∃g,e=.returned (.slice (some ⟨g,0,none⟩) L L)/\w.heap.size<=g/\Below w.heap.size w w'/\Blk w' g 5 ((bs++Wire.put 8).map Bv).toArray:=
 put_at A bs n cap 8 L hn hL (by decide) hl w hr
theorem pput_wrong (A:OA) (bs:LU) (n cap:Nat) (nm:LU) (o k i:Int) (t:LU) (hn:bs.length=n) (hl:n<=140737488355328) (hnm:nm.length<=9223372036854775807) (ht:t.length<=9223372036854775807) (w:World) (hr:Rd w A bs) (hw:Preds.right nm o k i t=false):
  Calls Tryz.prog 126 #[.slice A n cap,.agg (pC nm.toArray o k i t.toArray)] w (Lays w bs n):=by
 obtain⟨i0,hi0,hz0,hz1,hz2⟩:=info_parts byte_info
 have HW:=Jh hw
 have HN:=Jh hn
 clear hw hn
 obtain⟨hP,hb0⟩:=box5 w 54 (.string ⟨nm.toArray⟩) (.int .i64 o) (.int .i64 k) (.int .i64 i) (.string ⟨t.toArray⟩)
 go_enter Tryz.func126,Tryz.ntmps126
 go_wp2_with fail
 generalize w.alloc (.cells (pC nm.toArray o k i t.toArray) 54)=w0 at *
 refine (pright_is nm o k i t w0 hnm ht false HW.o).mono ?_
 rintro e w1 ⟨rfl,hb1⟩
 have hb1w:=below_next hb0 (Jn) hb1
 have hr1:=(hr.below hb1w).below ((Below.refl _ _).alloc (Jn) (.cells #[] 5))
 clear hP hb0 hb1
 go_wp2_with (at_builtin;refine wpList_append_rd rfl (.tmp 9) (.tmp 10) 29 rfl w1.heap.size 5 i0 Tryz.underlying29 hi0 hz0 hz1 hz2 _ [] (by rfl) (Own.empty w1 w1.heap.size 5 (Jn)) A bs n cap (by rfl) hr1 HN.o (by simp;omega) (by simp) ?_;intro v2 w2 hO2 hb2' _ _)
 rw[List.nil_append] at hO2
 have hb2:=hb2' w1 ((Below.refl _ _).alloc (Jn) _)
 obtain⟨D,c,rfl,hc,hr2⟩:=hO2.rd
 rw[HN.o] at hc
 go_ret
 rw[HN.o]
 exact⟨D,c,rfl,hc,hb1w.trans (hb2.mono hb1w.size),hr2⟩
theorem pput_ex (A:OA) (bs:LU) (n cap L1 L2:Nat) (nm:LU) (k i:Int) (t:LU) (hn:bs.length=n) (hL1:n+(Wire.text nm).length=L1) (hL2:L1+(Wire.put 8).length=L2) (hl:L2<=140737488355328) (hnm:nm.length<=9223372036854775807) (ht:t.length<=9223372036854775807) (w:World) (hr:Rd w A bs) (hw:Preds.right nm 8 k i t=true):
  Calls Tryz.prog 126 #[.slice A n cap,.agg (pC nm.toArray 8 k i t.toArray)] w (Lays w (bs++(Wire.text nm++(Wire.put 8++[]))) L2):=by
 have HW:=Jh hw
 have HN:=Jh hn
 have HL1:=Jh hL1
 have HL2:=Jh hL2
 have hl1:L1<=140737488355328:=by omega
 have hl2:L2<=140737488355328:=by omega
 clear hw hn hL1 hL2
 have HX1:Hid ((bs++Wire.text nm).length=L1):=by show _=_;rw[List.length_append,HN.o,HL1.o]
 have HX2:Hid (((bs++Wire.text nm)++Wire.put 8).length=L2):=by show _=_;rw[List.length_append,HX1.o,HL2.o]
 obtain⟨hP,hb0⟩:=box5 w 54 (.string ⟨nm.toArray⟩) (.int .i64 8) (.int .i64 k) (.int .i64 i) (.string ⟨t.toArray⟩)
 go_enter Tryz.func126,Tryz.ntmps126
 go_wp2_with fail
 generalize w.alloc (.cells (pC nm.toArray 8 k i t.toArray) 54)=w0 at *
 refine (pright_is nm 8 k i t w0 hnm ht true HW.o).mono ?_
 rintro e w1 ⟨rfl,hb1⟩
 have hb1w:=below_next hb0 (Jn) hb1
 have hP1:=hP.below hb1 hP.lt
 have hra:=hr.below hb1w
 clear hP hb0 hb1 hr
 go_wp2_with fail
 have hkeep:Hid (∀w',Below w1.heap.size w1 w'->Below w1.heap.size w1 w'/\w'.cell? ⟨w.heap.size,0,none⟩=some (.string ⟨nm.toArray⟩)/\w'.cell? ⟨w.heap.size,1,none⟩=some (.int .i64 8)/\w'.cell? ⟨w.heap.size,2,none⟩=some (.int .i64 k)/\w'.cell? ⟨w.heap.size,3,none⟩=some (.int .i64 i)/\w'.cell? ⟨w.heap.size,4,none⟩=some (.string ⟨t.toArray⟩)):=fun w' h=>⟨h,(hP1.below h hP1.lt).cell 0,(hP1.below h hP1.lt).cell 1,(hP1.below h hP1.lt).cell 2,(hP1.below h hP1.lt).cell 3,(hP1.below h hP1.lt).cell 4⟩
 have hS0:=hkeep.o w1.drew (Below.refl _ _).drew
 refine wp_region_held_drew (S:=fun w'=>Below w1.heap.size w1 w'/\w'.cell? ⟨w.heap.size,0,none⟩=some (.string ⟨nm.toArray⟩)/\w'.cell? ⟨w.heap.size,1,none⟩=some (.int .i64 8)/\w'.cell? ⟨w.heap.size,2,none⟩=some (.int .i64 k)/\w'.cell? ⟨w.heap.size,3,none⟩=some (.int .i64 i)/\w'.cell? ⟨w.heap.size,4,none⟩=some (.string ⟨t.toArray⟩)) (by kernel_rfl) hS0 (fun _=>?_)
 refine Jz 0 hS0 ?_
 refine Jz 1 hS0 ?_
 refine Jz 2 hS0 ?_
 refine Jz 4 hS0 ?_
 refine Jz 5 hS0 ?_
 refine wpAnyH_yes (i:=6) (d:=18) (v:=.int .u64 8) rfl rfl (by kernel_rfl) (by kernel_rfl) (by kernel_rfl) (fun _ _ _ h=>h) (by rfl) ?_ hS0 ?_
 ·intro w' hSw
  go_simp
  all_goals first | rfl | (rw[IntKind.wrap_u64];omega)
 simp only[Act.put,zu0,zu1,zu2]
 refine Je 3 (fun Kx hK1=>?_)
 go_simp
 with_reducible refine (putText_at A bs nm n cap nm.length L1 HN.o rfl HL1.o hl1 _ (hra.below hS0.1)).mono ?_
 rintro e w2 ⟨g2,rfl,hg2,hb2,hB2⟩
 have hS1:=hkeep.o _ (below_next hS0.1 (Jn) hb2)
 go_wp2_with fail
 refine hK1.o _ _ hS1 ?_
 refine Je 7 (fun Kx hK2=>?_)
 go_simp
 with_reducible refine (put_eight (some ⟨g2,0,none⟩) (bs++Wire.text nm) L1 L1 L2 HX1.o HL2.o hl2 _ hB2.rd).mono ?_
 rintro e w3 ⟨g3,rfl,hg3,hb3,hB3⟩
 have hS2:=hkeep.o _ (below_next hS1.1 (Jn) hb3)
 go_wp2_with fail
 refine hK2.o _ _ hS2 ?_
 refine Jz 8 hS2 ?_
 refine Jd ?_
 have hbl:=below_next hb1w (Jn) hS2.1
 obtain⟨_,c0,c1,c2,c3,c4⟩:=hS2
 clear hS0 hS1 hkeep hP1 hra hb1w
 have hr3:=hB3.rd
 rw[List.append_assoc] at hr3
 go_wp2_with fail
 go_ret
 exact⟨_,_,rfl,Jn,hbl,by rw[List.append_nil];exact hr3⟩
theorem pput_so (A:OA) (bs:LU) (n cap L1 L2 L:Nat) (nm:LU) (q:Nat) (k i:Int) (t:LU) (hn:bs.length=n) (hL1:n+(Wire.text nm).length=L1) (hL2:L1+(Wire.put q).length=L2) (hq:q<=8) (hq8:q≠8) (hL:L2+(Vals.lay k i t).length=L) (hl:L<=140737488355328) (h1:-9223372036854775808<=i) (h2:i<=9223372036854775807) (hnm:nm.length<=9223372036854775807) (ht:t.length<=9223372036854775807) (w:World) (hr:Rd w A bs) (hw:Preds.right nm (q:Int) k i t=true):
  Calls Tryz.prog 126 #[.slice A n cap,.agg (pC nm.toArray (q:Int) k i t.toArray)] w (Lays w (bs++(Wire.text nm++(Wire.put q++Vals.lay k i t))) L):=by
 have HW:=Jh hw
 have HN:=Jh hn
 have HL1:=Jh hL1
 have HL2:=Jh hL2
 have hl1:L1<=140737488355328:=by omega
 have hl2:L2<=140737488355328:=by omega
 have HL:=Jh hL
 have hqi:(q:Int)<=18446744073709551615:=by omega
 have hq0:(0:Int)<=(q:Int):=by omega
 have e8:((q:Int) == 8)=false:=by simp;omega
 have HQ:Hid (q<2 ^ 64):=by show q<_;omega
 clear hw hn hL1 hL2 hL hq hq8
 have HX1:Hid ((bs++Wire.text nm).length=L1):=by show _=_;rw[List.length_append,HN.o,HL1.o]
 have HX2:Hid (((bs++Wire.text nm)++Wire.put q).length=L2):=by show _=_;rw[List.length_append,HX1.o,HL2.o]
 obtain⟨hP,hb0⟩:=box5 w 54 (.string ⟨nm.toArray⟩) (.int .i64 (q:Int)) (.int .i64 k) (.int .i64 i) (.string ⟨t.toArray⟩)
 go_enter Tryz.func126,Tryz.ntmps126
 go_wp2_with fail
 generalize w.alloc (.cells (pC nm.toArray (q:Int) k i t.toArray) 54)=w0 at *
 refine (pright_is nm (q:Int) k i t w0 hnm ht true HW.o).mono ?_
 rintro e w1 ⟨rfl,hb1⟩
 have hb1w:=below_next hb0 (Jn) hb1
 have hP1:=hP.below hb1 hP.lt
 have hra:=hr.below hb1w
 clear hP hb0 hb1 hr
 go_wp2_with fail
 have hkeep:Hid (∀w',Below w1.heap.size w1 w'->Below w1.heap.size w1 w'/\w'.cell? ⟨w.heap.size,0,none⟩=some (.string ⟨nm.toArray⟩)/\w'.cell? ⟨w.heap.size,1,none⟩=some (.int .i64 (q:Int))/\w'.cell? ⟨w.heap.size,2,none⟩=some (.int .i64 k)/\w'.cell? ⟨w.heap.size,3,none⟩=some (.int .i64 i)/\w'.cell? ⟨w.heap.size,4,none⟩=some (.string ⟨t.toArray⟩)):=fun w' h=>⟨h,(hP1.below h hP1.lt).cell 0,(hP1.below h hP1.lt).cell 1,(hP1.below h hP1.lt).cell 2,(hP1.below h hP1.lt).cell 3,(hP1.below h hP1.lt).cell 4⟩
 have hS0:=hkeep.o w1.drew (Below.refl _ _).drew
 refine wp_region_held_drew (S:=fun w'=>Below w1.heap.size w1 w'/\w'.cell? ⟨w.heap.size,0,none⟩=some (.string ⟨nm.toArray⟩)/\w'.cell? ⟨w.heap.size,1,none⟩=some (.int .i64 (q:Int))/\w'.cell? ⟨w.heap.size,2,none⟩=some (.int .i64 k)/\w'.cell? ⟨w.heap.size,3,none⟩=some (.int .i64 i)/\w'.cell? ⟨w.heap.size,4,none⟩=some (.string ⟨t.toArray⟩)) (by kernel_rfl) hS0 (fun _=>?_)
 refine Jz 0 hS0 ?_
 refine Jz 1 hS0 ?_
 refine Jz 2 hS0 ?_
 refine Jz 4 hS0 ?_
 refine Jz 5 hS0 ?_
 refine wpAnyH_yes (i:=6) (d:=18) (v:=.int .u64 (q:Int)) rfl rfl (by kernel_rfl) (by kernel_rfl) (by kernel_rfl) (fun _ _ _ h=>h) (by rfl) ?_ hS0 ?_
 ·intro w' hSw
  go_simp
  all_goals first | rfl | (rw[IntKind.wrap_u64];omega)
 simp only[Act.put,zu0,zu1,zu2]
 refine Je 3 (fun Kx hK3=>?_)
 go_simp
 with_reducible refine (putText_at A bs nm n cap nm.length L1 HN.o rfl HL1.o hl1 _ (hra.below hS0.1)).mono ?_
 rintro e w2 ⟨g2,rfl,hg2,hb2,hB2⟩
 have hS1:=hkeep.o _ (below_next hS0.1 (Jn) hb2)
 go_wp2_with fail
 refine hK3.o _ _ hS1 ?_
 refine Je 7 (fun Kx hK4=>?_)
 go_simp
 with_reducible refine (put_at (some ⟨g2,0,none⟩) (bs++Wire.text nm) L1 L1 q L2 HX1.o HL2.o HQ.o hl2 _ hB2.rd).mono ?_
 rintro e w3 ⟨g3,rfl,hg3,hb3,hB3⟩
 have hS2:=hkeep.o _ (below_next hS1.1 (Jn) hb3)
 go_wp2_with fail
 refine hK4.o _ _ hS2 ?_
 refine Jz 8 hS2 ?_
 refine Jd ?_
 have hbl:=below_next hb1w (Jn) hS2.1
 obtain⟨_,c0,c1,c2,c3,c4⟩:=hS2
 clear hS0 hS1 hkeep hP1 hra hb1w
 go_wp2_with fail
 refine (vput_at (some ⟨g3,0,none⟩) ((bs++Wire.text nm)++Wire.put q) L2 L2 L k i t HX2.o HL.o hl h1 h2 ht w3 hB3.rd).mono ?_
 rintro e w4 ⟨D,c,rfl,hc,hb4,hr4⟩
 rw[List.append_assoc,List.append_assoc] at hr4
 clear c0 c1 c2 c3 c4
 go_wp2_with fail
 go_ret
 exact⟨D,c,rfl,hc,below_next hbl (Jn) hb4,hr4⟩
theorem pput_at (A:OA) (bs:LU) (n cap L:Nat) (nm:LU) (o k i:Int) (t:LU) (hn:bs.length=n) (hL:n+(Preds.lay nm o k i t).length=L) (hl:L<=140737488355328) (h1:-9223372036854775808<=i) (h2:i<=9223372036854775807) (hnm:nm.length<=9223372036854775807) (ht:t.length<=9223372036854775807) (w:World) (hr:Rd w A bs):
  Calls Tryz.prog 126 #[.slice A n cap,.agg (pC nm.toArray o k i t.toArray)] w (Lays w (bs++Preds.lay nm o k i t) L):=by
 cases h:Preds.right nm o k i t with
 | false=>
  have e:Preds.lay nm o k i t=[]:=by unfold Preds.lay;rw[h];rfl
  rw[e] at hL ⊢
  rw[List.append_nil]
  simp only[List.length_nil,Nat.add_zero] at hL
  subst hL
  exact pput_wrong A bs n cap nm o k i t hn hl hnm ht w hr h
 | true=>
  have e:Preds.lay nm o k i t=Preds.bytes nm o k i t:=by unfold Preds.lay;rw[if_pos h]
  rw[e] at hL ⊢
  unfold Preds.bytes at hL ⊢
  have ho:0<=o/\o<=8:=by rcases Preds.asks_cases (Preds.right_parts h).2.2 with ⟨rfl,_⟩ | ⟨_,b1,b2,_⟩<;>omega
  obtain⟨q,rfl⟩:=Int.eq_ofNat_of_zero_le ho.1
  rw[Int.toNat_natCast] at hL ⊢
  by_cases h8:q=8
  ·subst h8
   rw[if_pos (show ((8:Nat):Int)=8 from rfl)] at hL ⊢
   refine pput_ex A bs n cap (n+(Wire.text nm).length) L nm k i t hn rfl ?_ hl hnm ht w hr h
   rw[<-hL];simp only[List.length_append,List.length_nil];omega
  ·rw[if_neg (by omega)] at hL ⊢
   refine pput_so A bs n cap (n+(Wire.text nm).length) (n+(Wire.text nm).length+(Wire.put q).length) L nm q k i t hn rfl rfl (by omega) h8 ?_ hl h1 h2 hnm ht w hr h
   rw[<-hL];simp only[List.length_append];omega
def NoByte (cs:Array Value):Prop:=∀(off:Nat) (x:Int),cs[off]?≠some (.int .u8 x)
theorem noByte5 (a b:ByteArray) (x y z:Int):NoByte #[.string a,.int .i64 x,.int .i64 y,.int .i64 z,.string b]:=by
 intro off v
 rcases off with _|_|_|_|_|off<;>simp
theorem NoByte.put {cs:Array Value} (h:NoByte cs) (j:Nat) {u:Value} (hu:∀x,u≠.int .u8 x):NoByte (cs.setIfInBounds j u):=by
 intro off x e
 rw[Array.getElem?_setIfInBounds] at e
 split at e
 ·split at e
  ·injection e with e;exact hu x e
  ·cases e
 ·exact h off x e
theorem rd_apartN {w:World} {g:Nat} {t:TypeId} {cs:Array Value} {A:OA} {bs:LU} (hB:Blk w g t cs) (hn:NoByte cs) (hr:Rd w A bs) (off:Nat):A≠some ⟨g,off,none⟩∨bs=[]:=by
 rcases hr with rfl|⟨g',off',rfl,hg,hc⟩
 ·exact .inr rfl
 ·by_cases h0:bs=[]
  ·exact .inr h0
  ·refine .inl fun e=>?_
   cases e
   have h:=hc 0 (List.length_pos_iff.2 h0)
   rw[hB.cell] at h
   exact hn _ _ h
theorem Sc.farN {w:World} {g b:Nat} {t t':TypeId} {s:Wire.St} {cs:Array Value} (h:Sc w g t s) (hB:Blk w b t' cs) (hn:NoByte cs) (hne:g≠b) (j:Nat) (u:Value):Sc (w.setCell ⟨b,j,none⟩ u) g t s:=by
 obtain⟨A,n,cap,hG,h1,h2,h3,hr,ha⟩:=h
 exact⟨A,n,cap,hG.far (p:=⟨b,j,none⟩) hne u,h1,h2,h3,((Touch.refl b w).set_ j u).rd hr (rd_apartN hB hn hr),ha⟩
theorem Sc.behind {w w':World} {g b:Nat} {t:TypeId} {s:Wire.St} {row:Option Nat} (h:Sc w g t s) (hg:w.grownBy w' row) (hr:∀j,row=some j->b<=j) (hb:g<b):Sc w' g t s:=by
 obtain⟨A,n,cap,hG,h1,h2,h3,hrd,ha⟩:=h
 refine ⟨A,n,cap,(hg.block g hG.lt (fun e=>by have:=hr g e.symm;omega)).trans hG,h1,h2,h3,?_,ha⟩
 rcases hrd with h|⟨q,off,rfl,hq,hc⟩
 ·exact .inl h
 ·have hqg:q<g:=ha _ rfl
  exact .inr ⟨q,off,rfl,Nat.lt_of_lt_of_le hq hg.size,fun i hi=>hg.cell (hc i hi) (fun e=>by have:=hr q e.symm;omega)⟩
def setV (w:World) (b:Nat) (k i:Int) (t:ByteArray):World:=((w.setCell ⟨b,2,none⟩ (.int .i64 k)).setCell ⟨b,3,none⟩ (.int .i64 i)).setCell ⟨b,4,none⟩ (.string t)
def setP (w:World) (b:Nat) (n:ByteArray) (o k i:Int) (t:ByteArray):World:=((((w.setCell ⟨b,0,none⟩ (.string n)).setCell ⟨b,1,none⟩ (.int .i64 o)).setCell ⟨b,2,none⟩ (.int .i64 k)).setCell ⟨b,3,none⟩ (.int .i64 i)).setCell ⟨b,4,none⟩ (.string t)
theorem Sc.setV_ {w:World} {g b:Nat} {t t':TypeId} {s:Wire.St} {cs:Array Value} (h:Sc w g t s) (hB:Blk w b t' cs) (hn:NoByte cs) (hne:g≠b) (k i:Int) (z:ByteArray):Sc (setV w b k i z) g t s:=
 ((h.farN hB hn hne 2 _).farN (hB.put 2 (.int .i64 k)) (hn.put 2 (by simp)) hne 3 _).farN ((hB.put 2 (.int .i64 k)).put 3 (.int .i64 i)) ((hn.put 2 (by simp)).put 3 (by simp)) hne 4 _
theorem Sc.setP_ {w:World} {g b:Nat} {t t':TypeId} {s:Wire.St} {cs:Array Value} (h:Sc w g t s) (hB:Blk w b t' cs) (hn:NoByte cs) (hne:g≠b) (m:ByteArray) (o k i:Int) (z:ByteArray):Sc (setP w b m o k i z) g t s:=
 Sc.setV_ ((h.farN hB hn hne 0 _).farN (hB.put 0 (.string m)) (hn.put 0 (by simp)) hne 1 _) ((hB.put 0 (.string m)).put 1 (.int .i64 o)) ((hn.put 0 (by simp)).put 1 (by simp)) hne k i z
theorem Touch.setV_ {g b:Nat} {a w:World} (h:Touch g a w) (hb:a.heap.size<=b) (k i:Int) (z:ByteArray):Touch g a (setV w b k i z):=((h.new_ hb).new_ hb).new_ hb
theorem Touch.setP_ {g b:Nat} {a w:World} (h:Touch g a w) (hb:a.heap.size<=b) (m:ByteArray) (o k i:Int) (z:ByteArray):Touch g a (setP w b m o k i z):=Touch.setV_ ((h.new_ hb).new_ hb) hb k i z
theorem Blk.setV_ {w:World} {b:Nat} {t:TypeId} {v0 v1 v2 v3 v4:Value} (hB:Blk w b t #[v0,v1,v2,v3,v4]) (k i:Int) (z:ByteArray):Blk (setV w b k i z) b t #[v0,v1,.int .i64 k,.int .i64 i,.string z]:=by
 have:=((hB.put 2 (.int .i64 k)).put 3 (.int .i64 i)).put 4 (.string z)
 unfold setV
 simpa using this
theorem getName_at (w:World) (g:Nat) (s:Wire.St) (h:Sc w g 82 s):
  Calls Tryz.prog 100 #[.pointer (some ⟨g,0,none⟩)] w (Reads w g 82 (.string ⟨(s.textV 16).toArray⟩) (Preds.nameS s)):=by
 have ht:=text_at w g s h 16 (by decide) (by decide)
 unfold Preds.nameS
 generalize s.textS 16=s1 at *
 by_cases hv:s.textV 16=[]
 ·rw[if_pos hv]
  rw[hv] at ht ⊢
  clear hv h
  go_enter Tryz.func100,Tryz.ntmps100
  go_wp2_with fail
  refine ht.mono ?_
  rintro e w1 ⟨rfl,h1,hT1⟩
  go_wp2_with fail
  refine (fail_at w1 g s1 h1 3).mono ?_
  rintro e w2 ⟨rfl,h2,hT2⟩
  go_wp2_with fail
  go_ret
  exact⟨rfl,h2,hT1.trans hT2⟩
 ·rw[if_neg hv]
  have hd:(s.textV 16 == [])=false:=by simpa using hv
  generalize s.textV 16=v at *
  clear hv h
  go_enter Tryz.func100,Tryz.ntmps100
  go_wp2_with fail
  refine ht.mono ?_
  rintro e w1 ⟨rfl,h1,hT1⟩
  go_wp2_with fail
  go_ret
  exact⟨rfl,h1,hT1⟩
theorem getOp_at (w:World) (g:Nat) (s:Wire.St) (h:Sc w g 82 s):
  Calls Tryz.prog 101 #[.pointer (some ⟨g,0,none⟩)] w (Reads w g 82 (.int .i64 (s.uptoV 8:Int)) (Preds.opS s)):=by
 have ht:=upto_at w g s h 8 (by decide) (by decide)
 unfold Preds.opS
 generalize s.uptoS 8=s1 at *
 generalize s.uptoV 8=v at *
 by_cases hv:v=0
 ·rw[if_pos hv]
  subst hv
  clear h
  go_enter Tryz.func101,Tryz.ntmps101
  go_wp2_with fail
  refine ht.mono ?_
  rintro e w1 ⟨rfl,h1,hT1⟩
  go_wp2_with fail
  refine (fail_at w1 g s1 h1 3).mono ?_
  rintro e w2 ⟨rfl,h2,hT2⟩
  go_wp2_with fail
  go_ret
  exact⟨rfl,h2,hT1.trans hT2⟩
 ·rw[if_neg hv]
  have hd:((v:Int) == 0)=false:=by simp;omega
  clear hv h
  go_enter Tryz.func101,Tryz.ntmps101
  go_wp2_with fail
  refine ht.mono ?_
  rintro e w1 ⟨rfl,h1,hT1⟩
  go_wp2_with fail
  go_ret
  exact⟨rfl,h1,hT1⟩
theorem getOp_is (w:World) (g:Nat) (s:Wire.St) (h:Sc w g 82 s) (v:Nat) (s':Wire.St) (hv:s.uptoV 8=v) (hs:Preds.opS s=s'):
  Calls Tryz.prog 101 #[.pointer (some ⟨g,0,none⟩)] w (Reads w g 82 (.int .i64 (v:Int)) s'):=by
 subst hv;subst hs;exact getOp_at w g s h
theorem pget_ex (w:World) (g:Nat) (s:Wire.St) (h:Sc w g 82 s) (N:LU) (O K I:Int) (Tx:LU) (s':Wire.St) (hN:Preds.getN s=N) (hO:Preds.getO s=O) (hK:Preds.getK s=K) (hI:Preds.getI s=I) (hTx:Preds.getT s=Tx) (hs':Preds.getS s=s') (hv:Preds.rawO s=8):
  Calls Tryz.prog 78 #[.pointer (some ⟨g,0,none⟩)] w (Reads w g 82 (.agg (pC N.toArray O K I Tx.toArray)) s'):=by
 have HV:=Jh hv
 have HV8:Hid ((Preds.nameS s).uptoV 8=8):=hv
 have HN:=Jh hN
 have HO:=Jh hO
 have HK:=Jh hK
 have HI:=Jh hI
 have HT:=Jh hTx
 have eS:Hid (Preds.getS s=Preds.behind s):=by show _=_;unfold Preds.getS;rw[hv];rfl
 have HG:Hid ((Preds.behind s).err=0->s.textV 16=N/\8=O/\0=K/\0=I/\[]=Tx):=fun hz=>by
  have hz':(Preds.getS s).err=0:=by rw[eS.o];exact hz
  obtain⟨g1,g2,g3,g4,g5⟩:=Preds.get_good s hz'
  refine ⟨g1.symm.trans hN,?_,?_,?_,?_⟩
  ·rw[<-hO,g2,hv];rfl
  ·rw[<-hK,g3];unfold Preds.rawK;rw[hv];rfl
  ·rw[<-hI,g4];unfold Preds.rawI;rw[hv];rfl
  ·rw[<-hTx,g5];unfold Preds.rawT;rw[hv];rfl
 have HBD:Hid ((Preds.behind s).err≠0->[]=N/\0=O/\0=K/\0=I/\[]=Tx):=fun hz=>by
  have hz':(Preds.getS s).err≠0:=by rw[eS.o];exact hz
  obtain⟨g1,g2,g3,g4,g5⟩:=Preds.get_bad s hz'
  exact⟨g1.symm.trans hN,g2.symm.trans hO,g3.symm.trans hK,g4.symm.trans hI,g5.symm.trans hTx⟩
 obtain rfl:=eS.o.symm.trans hs'
 clear hv hN hO hK hI hTx hs' HN HO HK HI HT eS
 have hg:=h.lt
 obtain⟨hB,hb0⟩:=box5 w 54 (.string ⟨#[]⟩) (.int .i64 0) (.int .i64 0) (.int .i64 0) (.string ⟨#[]⟩)
 have h0:=h.below hb0
 go_enter Tryz.func78,Tryz.ntmps78
 go_wp2_with fail
 generalize w.alloc (.cells (pC #[] 0 0 0 #[]) 54)=w0 at *
 refine (getName_at w0 g s h0).mono ?_
 rintro e w1 ⟨rfl,h1,hT1⟩
 have hR1:=hT1.blk hB (by omega)
 have hT1w:=(Touch.of_below (g:=g) hb0).trans hT1
 clear h h0 hB hb0 hT1
 generalize s.textV 16=nm at *
 go_wp2_with fail
 obtain⟨hC2,hb2⟩:=box5 w1 54 (.string ⟨nm.toArray⟩) (.int .i64 0) (.int .i64 0) (.int .i64 0) (.string ⟨#[]⟩)
 have hgw1:w.heap.size<=w1.heap.size:=hT1w.size
 have hne:w.heap.size≠w1.heap.size:=by have:=hR1.lt;omega
 have hgv:g≠w1.heap.size:=by omega
 have h2:=h1.below hb2
 have hR2:=hR1.below hb2 hR1.lt
 have hT2w:=hT1w.trans (Touch.of_below (g:=g) hb2)
 clear h1 hR1 hT1w hb2
 generalize w1.heap.size=gc at *
 generalize w1.alloc (.cells (pC nm.toArray 0 0 0 #[]) 54)=w2 at *
 refine (getOp_is w2 g _ h2 8 (Preds.behind s) HV8.o rfl).mono ?_
 rintro e w3 ⟨rfl,h3,hT3⟩
 have hC3:=hT3.blk hC2 (by omega)
 have hR3:=hT3.blk hR2 (by omega)
 have hT3w:=hT2w.trans hT3
 clear hC2 hR2 hT2w hT3 h2
 obtain⟨d0,d1,d2,d3,d4,e0,e1,e2,e3,e4⟩:=blk5 hC3
 have hC4:=hC3.put 1 (.int .i64 8)
 simp only[List.setIfInBounds_toArray,List.set_cons_zero,List.set_cons_succ] at hC4
 have h4:=h3.farN hC3 (noByte5 _ _ _ _ _) hgv 1 (.int .i64 8)
 have hT4w:=hT3w.new_ (j:=1) (v:=.int .i64 8) hgw1
 have hR4:=hR3.far (p:=⟨gc,1,none⟩) hne (.int .i64 8)
 clear hC3 hT3w hR3 h3
 go_wp2_with fail
 clear d0 d1 d2 d3 d4 e0 e1 e2 e3 e4
 generalize w3.setCell ⟨gc,1,none⟩ (.int .i64 8)=w4 at *
 by_cases hz:(Preds.behind s).err=0
 ·have HZ:Hid ((Preds.behind s).err=0):=hz
  obtain⟨rfl,rfl,rfl,rfl,rfl⟩:=HG.o hz
  clear hz HG HBD
  refine (err_at w4 g _ h4 _ HZ.o).mono ?_
  rintro e w9 ⟨rfl,rfl⟩
  obtain⟨c0,c1,c2,c3,c4,f0,f1,f2,f3,f4⟩:=blk5 hC4
  obtain⟨r0,r1,r2,r3,r4,k0,k1,k2,k3,k4⟩:=blk5 hR4
  clear hC4
  go_wp2_with fail
  refine bodyPost_ret (v:=.agg (pC nm.toArray 8 0 0 #[])) (by simp[results,Tryz.results78,go_sem,r0,r1,r2,r3,r4]) rfl ?_
  exact⟨rfl,h4.setP_ hR4 (noByte5 _ _ _ _ _) (by omega) _ _ _ _ _,hT4w.setP_ (Jn) _ _ _ _ _⟩
 ·have HZ:Hid ((Preds.behind s).err≠0):=hz
  have hd:(((Preds.behind s).err) != 0)=true:=by simpa using hz
  obtain⟨rfl,rfl,rfl,rfl,rfl⟩:=HBD.o hz
  clear hz HG HBD
  refine (err_at w4 g _ h4 _ rfl).mono ?_
  rintro e w9 ⟨rfl,rfl⟩
  obtain⟨r0,r1,r2,r3,r4,k0,k1,k2,k3,k4⟩:=blk5 hR4
  clear hC4
  go_wp2_with fail
  refine bodyPost_ret (v:=.agg (pC #[] 0 0 0 #[])) (by simp[results,Tryz.results78,go_sem,r0,r1,r2,r3,r4]) rfl ?_
  exact⟨rfl,h4.setP_ hR4 (noByte5 _ _ _ _ _) (by omega) _ _ _ _ _,hT4w.setP_ (Jn) _ _ _ _ _⟩
end
end Go.Proofs.YtnfigjggjmncdaaGreat
