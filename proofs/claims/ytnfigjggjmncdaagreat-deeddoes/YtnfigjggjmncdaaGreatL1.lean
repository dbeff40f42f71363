/- Contracts. -/
import Derived.Test.YtnfigjggjmncdaaGreatM1
import Derived.Test.YtnfigjggjmncdaaGreatA3
set_option maxRecDepth 100000
set_option maxHeartbeats 4000000
namespace Go.Proofs.YtnfigjggjmncdaaGreat
section
open Go.RowKit
theorem ref_hi (q:Nat) (h:128<=q):∃x:UInt8,(q:Int) % 128+128=(x.toNat:Int)/\Wire.put q=x::Wire.put (q / 128):=
 ⟨UInt8.ofNat (q % 128+128),by
  have:(UInt8.ofNat (q % 128+128)).toNat=q % 128+128:=by simp;omega
  rw[this];omega,Wire.put_hi q h⟩
theorem refPut_own (A:OA) (bs:LU) (n cap m:Nat) (hn:bs.length=n) (hm:m<2 ^ 64) (hl:n+20<=140737488355328) (w:World) (hr:Rd w A bs):
  Calls Tryz.prog 32 #[.slice A n cap,.int .u64 (m:Int)] w fun e w'=>∃v,e=.returned v/\Own w' w.heap.size 5 v (bs++Wire.put m)/\Below w.heap.size w w':=by
 obtain⟨i0,hi0,hz0,hz1,hz2⟩:=info_parts byte_info
 have HN:=Jh hn
 have HM:=Jh hm
 clear hn hm
 have hr1:Rd (w.alloc (.cells #[] 5)) A bs:=hr.below ((Below.refl _ _).alloc (Jn) _)
 go_enter Tryz.func32,Tryz.ntmps32
 go_wp2_with (at_builtin;refine wpList_append_rd rfl (.tmp 6) (.tmp 7) 29 rfl w.heap.size 5 i0 Tryz.underlying29 hi0 hz0 hz1 hz2 _ [] (by rfl) (Own.empty w w.heap.size 5 (Jn)) A bs n cap (by rfl) hr1 HN.o (by simp;omega) (by simp) ?_;intro v1 w1 hown1 hb1 _ _)
 rw[List.nil_append] at hown1
 have hb1':=hb1 w ((Below.refl _ _).alloc (Jn) _)
 clear hb1
 go_loopw [1,5] (fun x v wr=>∃(pre:LU) (q:Nat),Wire.put m=pre++Wire.put q/\Hid (q<2 ^ 64)/\x=.int .u64 (q:Int)/\Own wr w.heap.size 5 v (bs++pre)/\Below w.heap.size w wr) (fun x _ _=>(intOf x).toNat)
 case atStart=>exact⟨[],m,rfl,HM,rfl,by simpa using hown1,hb1'⟩
 case round=>
  clear hown1 hb1' hr1
  obtain⟨pre,q,hpq,hq,rfl,hown,hbr⟩:=hrel
  have hple:pre.length<=10:=by
   have:=Wire.put_len_le m HM.o
   rw[hpq,List.length_append] at this;omega
  have HPQ:=Jh hpq
  clear hpq
  have hnew:=fun (vs:Array Value) (bs:LU) (h:vs=(bs.map Bv).toArray)=>rd_const wr 5 (0,0) vs bs h
  have hHL:Hid ((bs++pre).length+1<=140737488355328):=by
   show _<=_
   rw[List.length_append,HN.o];omega
  have hq2:(q:Int)<=18446744073709551615:=by have:=hq.o;omega
  by_cases hlt:127<q
  ·obtain⟨x,hx,hxp⟩:=ref_hi q (by omega)
   have HX:=Jh hx
   have HXP:=Jh hxp
   clear hx hxp
   have hrx:=hnew #[.int .u8 ((q:Int) % 128+128)] [x] (by rw[HX.o];rfl)
   have hown':∀o,Own (wr.alloc o) w.heap.size 5 u5 (bs++pre):=fun o=>hown.below ((Below.refl _ _).alloc (Jn) o)
   go_wp2_with (at_builtin;refine wpList_append_rd rfl (.tmp 11) (.tmp 16) 29 rfl w.heap.size 5 i0 Tryz.underlying29 hi0 hz0 hz1 hz2 _ (bs++pre) (by rfl) (hown' _) (some ⟨wr.heap.size,0,none⟩) [x] 1 1 (by rfl) hrx rfl hHL.o (by have:=hbr.size;simp;omega) ?_;intro v1 w1 hown1 hb1 _ _)
   have hb1':=hb1 w (hbr.alloc hbr.size _)
   go_roundw
   case rel=>
    refine ⟨pre++[x],q / 128,?_,?_,?_,?_,hb1'⟩
    ·rw[HPQ.o,HXP.o];simp
    ·have:=hq.o;exact (by omega:q / 128<2 ^ 64)
    ·go_num
    ·rw[List.append_assoc] at hown1;exact hown1
   case measure=>simp[intOf];omega
  ·have hq128:q<128:=by omega
   have hbx:=byte_of q hq128
   have HBX:=Jh hbx
   clear hbx
   have hrx:=hnew #[.int .u8 (q:Int)] [UInt8.ofNat q] (by rw[HBX.o];rfl)
   have hown':∀o,Own (wr.alloc o) w.heap.size 5 u5 (bs++pre):=fun o=>hown.below ((Below.refl _ _).alloc (Jn) o)
   go_wp2_with (at_builtin;refine wpList_append_rd rfl (.tmp 20) (.tmp 23) 29 rfl w.heap.size 5 i0 Tryz.underlying29 hi0 hz0 hz1 hz2 _ (bs++pre) (by rfl) (hown' _) (some ⟨wr.heap.size,0,none⟩) [UInt8.ofNat q] 1 1 (by rfl) hrx rfl hHL.o (by have:=hbr.size;simp;omega) ?_;intro v1 w1 hown1 hb1 _ _)
   have hb1':=hb1 w (hbr.alloc hbr.size _)
   go_ret
   refine ⟨_,rfl,?_,hb1'⟩
   rw[HPQ.o,Wire.put_lo q hq128,<-List.append_assoc]
   exact hown1
theorem refPut_at (A:OA) (bs:LU) (n cap m L:Nat) (hn:bs.length=n) (hL:n+(Wire.put m).length=L) (hm:m<2 ^ 64) (hl:n+20<=140737488355328) (w:World) (hr:Rd w A bs):
  Calls Tryz.prog 32 #[.slice A n cap,.int .u64 (m:Int)] w fun e w'=>∃D c,e=.returned (.slice D L c)/\Below w.heap.size w w'/\Rd w' D (bs++Wire.put m):=by
 refine (refPut_own A bs n cap m hn hm hl w hr).mono ?_
 rintro e w' ⟨v,rfl,ho,hb⟩
 obtain⟨D,c,rfl,_,hr'⟩:=ho.rd
 refine ⟨D,c,?_,hb,hr'⟩
 rw[List.length_append,hn,hL]
theorem ref_neg (n:Int) (h1:-9223372036854775808<=n) (h:n<0):((Wire.zig n:Nat):Int)=2*(-1-n)+1:=by
 unfold Wire.zig
 rw[if_pos h];omega
theorem ref_pos (n:Int) (h:¬n<0):((Wire.zig n:Nat):Int)=2*n:=by
 unfold Wire.zig
 rw[if_neg h];omega
theorem refPutInt_at (A:OA) (bs:LU) (n cap L:Nat) (m:Int) (hn:bs.length=n) (hL:n+(Wire.put (Wire.zig m)).length=L) (h1:-9223372036854775808<=m) (h2:m<=9223372036854775807) (hl:n+20<=140737488355328) (w:World) (hr:Rd w A bs):
  Calls Tryz.prog 127 #[.slice A n cap,.int .i64 m] w fun e w'=>∃D c,e=.returned (.slice D L c)/\Below w.heap.size w w'/\Rd w' D (bs++Wire.put (Wire.zig m)):=by
 have hc:=refPut_at A bs n cap (Wire.zig m) L hn hL (Wire.zig_lt m h1 h2) hl w hr
 clear hn hL
 by_cases h:m<0
 ·have hd:decide (m<0)=true:=by simpa using h
  rw[ref_neg m h1 h] at hc
  go_enter Tryz.func127,Tryz.ntmps127
  go_wp2_with fail
  refine hc.mono ?_
  rintro e w1 ⟨D,c,rfl,hb,hr'⟩
  go_wp2_with fail
  go_ret
  exact⟨D,c,rfl,hb,hr'⟩
 ·have hd:decide (m<0)=false:=by simpa using h
  rw[ref_pos m h] at hc
  go_enter Tryz.func127,Tryz.ntmps127
  go_wp2_with fail
  refine hc.mono ?_
  rintro e w1 ⟨D,c,rfl,hb,hr'⟩
  go_wp2_with fail
  go_ret
  exact⟨D,c,rfl,hb,hr'⟩
theorem own_text {w:World} {base:Nat} {e:TypeId} {v:Value} {bs ss:LU} (h:w.ownsRow base e 1 v (bs.length+(⟨ss.toArray⟩:ByteArray).size) (bs.map Bv++Lib.strCells ⟨ss.toArray⟩)):Own w base e v (bs++ss):=by
 have e1:Lib.strCells ⟨ss.toArray⟩=ss.map Bv:=by simp[Lib.strCells,Bv]
 rw[e1] at h
 unfold Own
 rw[List.length_append,List.map_append];exact h
theorem refPutText_own (A:OA) (bs ss:LU) (n cap k:Nat) (hn:bs.length=n) (hk:ss.length=k) (hl:n+k+40<=140737488355328) (w:World) (hr:Rd w A bs):
  Calls Tryz.prog 33 #[.slice A n cap,.string ⟨ss.toArray⟩] w fun e w'=>∃v,e=.returned v/\Own w' w.heap.size 5 v (bs++Wire.text ss)/\Below w.heap.size w w':=by
 obtain⟨i0,hi0,hz0,hz1,hz2⟩:=info_parts byte_info
 have HKK:Hid (k<2 ^ 64):=by show _<_;omega
 have hsz:(⟨ss.toArray⟩:ByteArray).size=k:=hk
 have HS:=Jh hsz
 have hpl:=Wire.put_len_le k HKK.o
 have hc:=refPut_own A bs n cap k hn HKK.o (by omega) w hr
 have HT:Hid (Wire.text ss=Wire.put k++ss):=by
  show _=_
  rw[<-hk];rfl
 have HN:=Jh hn
 clear hn hk
 have hkl:k<=140737488355328:=by omega
 go_enter Tryz.func33,Tryz.ntmps33
 go_wp2_with fail
 refine hc.mono ?_
 rintro e w1 ⟨v,rfl,ho,hb⟩
 have HB1:Hid ((bs++Wire.put k).length+(⟨ss.toArray⟩:ByteArray).size<=maxLen):=by
  show _<=_
  rw[List.length_append,HN.o,HS.o];unfold maxLen;omega
 have HB2:Hid ((bs++Wire.put k).length+(⟨ss.toArray⟩:ByteArray).size<=140737488355328):=by
  show _<=_
  rw[List.length_append,HN.o,HS.o];omega
 go_wp2_with (at_builtin;refine Lib.wpList_append_own_string w1 rfl (.tmp 9) (.tmp 10) 29 9 rfl w.heap.size 5 i0 Tryz.underlying29 Tryz.underlying9 hi0 hz0 hz1 hz2 v (bs++Wire.put k).length ((bs++Wire.put k).map Bv) (by rfl) ho ⟨ss.toArray⟩ (by rfl) HB1.o HB2.o hb.size ?_;intro v2 w2 ho2 hg2 _)
 go_ret
 have ho3:=own_text ho2
 rw[List.append_assoc,<-HT.o] at ho3
 exact⟨_,rfl,ho3,hb.grown hg2 hb.size ho.base_le⟩
theorem refPutText_at (A:OA) (bs ss:LU) (n cap k L:Nat) (hn:bs.length=n) (hk:ss.length=k) (hL:n+(Wire.text ss).length=L) (hl:n+k+40<=140737488355328) (w:World) (hr:Rd w A bs):
  Calls Tryz.prog 33 #[.slice A n cap,.string ⟨ss.toArray⟩] w fun e w'=>∃D c,e=.returned (.slice D L c)/\Below w.heap.size w w'/\Rd w' D (bs++Wire.text ss):=by
 refine (refPutText_own A bs ss n cap k hn hk hl w hr).mono ?_
 rintro e w' ⟨v,rfl,ho,hb⟩
 obtain⟨D,c,rfl,_,hr'⟩:=ho.rd
 refine ⟨D,c,?_,hb,hr'⟩
 rw[List.length_append,hn,hL]
def LaysR (w:World) (bs:LU) (L:Nat) (e:Ending) (w':World):Prop:=∃D c,e=.returned (.slice D L c)/\Below w.heap.size w w'/\Rd w' D bs
theorem rvput_wrong (A:OA) (bs:LU) (n cap:Nat) (k i:Int) (t:LU) (hn:bs.length=n) (hl:n+200<=140737488355328) (ht:t.length<=9223372036854775807) (w:World) (hr:Rd w A bs) (hw:Vals.right k i t=false):
  Calls Tryz.prog 94 #[.slice A n cap,.agg (vC k i t.toArray)] w (LaysR w bs n):=by
 have HW:=Jh hw
 clear hw
 obtain⟨i0,hi0,hz0,hz1,hz2⟩:=info_parts byte_info
 have HN:=Jh hn
 clear hn
 obtain⟨hB,hb0⟩:=box3 w 52 (.int .i64 k) (.int .i64 i) (.string ⟨t.toArray⟩)
 have hsz:(w.alloc (.cells (vC k i t.toArray) 52)).heap.size=w.heap.size+1:=by simp
 have hr2:=(hr.below hb0).below ((Below.refl _ _).alloc (Jn) (.cells #[] 5))
 have hO0:=Own.empty (w.alloc (.cells (vC k i t.toArray) 52)) (w.heap.size+1) 5 (Nat.le_of_eq hsz.symm)
 rw[hsz] at hO0
 have hbe:Below (w.heap.size+1) (w.alloc (.cells (vC k i t.toArray) 52)) ((w.alloc (.cells (vC k i t.toArray) 52)).alloc (.cells #[] 5)):=(Below.refl _ _).alloc (Nat.le_of_eq hsz.symm) _
 go_enter Tryz.func94,Tryz.ntmps94
 go_wp2_with (at_builtin;refine wpList_append_rd rfl (.tmp 6) (.tmp 7) 29 rfl (w.heap.size+1) 5 i0 Tryz.underlying29 hi0 hz0 hz1 hz2 _ [] (by rfl) hO0 A bs n cap (by rfl) hr2 HN.o (by simp;omega) (by simp) ?_;intro v1 w1 hO1 hb1' _ _;have hb1:=hb1' _ hbe;clear hb1';have hB1:=hB.below hb1 (Nat.lt_succ_self _);obtain⟨c0,c1,c2,_,_,_⟩:=blk3 hB1)
 rw[List.nil_append] at hO1
 have hbw:Below w.heap.size w w1:=hb0.trans (hb1.mono (Nat.le_succ _))
 have hs1:w.heap.size+1<=w1.heap.size:=by have:=hb1.size;omega
 clear hO0 hr2 hbe hB hb0 hb1
 refine (refRight_is k i t w1 ht false HW.o).mono ?_
 rintro e w2 ⟨rfl,hb2⟩
 replace hO1:=hO1.below hb2
 obtain⟨D,c,hv,hc,hr2⟩:=hO1.rd
 rw[HN.o] at hv
 subst hv
 clear c0 c1 c2
 go_wp2_with fail
 go_ret
 exact⟨D,c,rfl,below_next hbw (Jn) hb2,hr2⟩
theorem rvput_int (A:OA) (bs:LU) (n cap L:Nat) (i:Int) (hn:bs.length=n) (hL:n+(Wire.put 1++Wire.put (Wire.zig i)).length=L) (hl:n+200<=140737488355328) (h1:-9223372036854775808<=i) (h2:i<=9223372036854775807) (w:World) (hr:Rd w A bs):
  Calls Tryz.prog 94 #[.slice A n cap,.agg (vC 1 i #[])] w (LaysR w (bs++(Wire.put 1++Wire.put (Wire.zig i))) L):=by
 have HP:=Jh (Wire.put_lo 1 (by decide))
 have hL':n+1+(Wire.put (Wire.zig i)).length=L:=by rw[HP.o] at hL;simp at hL ⊢;omega
 have HL:=Jh hL'
 clear hL hL'
 obtain⟨i0,hi0,hz0,hz1,hz2⟩:=info_parts byte_info
 have HN:=Jh hn
 clear hn
 obtain⟨hB,hb0⟩:=box3 w 52 (.int .i64 1) (.int .i64 i) (.string ⟨#[]⟩)
 have hsz:(w.alloc (.cells (vC 1 i #[]) 52)).heap.size=w.heap.size+1:=by simp
 have hr2:=(hr.below hb0).below ((Below.refl _ _).alloc (Jn) (.cells #[] 5))
 have hO0:=Own.empty (w.alloc (.cells (vC 1 i #[]) 52)) (w.heap.size+1) 5 (Nat.le_of_eq hsz.symm)
 rw[hsz] at hO0
 have hbe:Below (w.heap.size+1) (w.alloc (.cells (vC 1 i #[]) 52)) ((w.alloc (.cells (vC 1 i #[]) 52)).alloc (.cells #[] 5)):=(Below.refl _ _).alloc (Nat.le_of_eq hsz.symm) _
 go_enter Tryz.func94,Tryz.ntmps94
 go_wp2_with (at_builtin;refine wpList_append_rd rfl (.tmp 6) (.tmp 7) 29 rfl (w.heap.size+1) 5 i0 Tryz.underlying29 hi0 hz0 hz1 hz2 _ [] (by rfl) hO0 A bs n cap (by rfl) hr2 HN.o (by simp;omega) (by simp) ?_;intro v1 w1 hO1 hb1' _ _;have hb1:=hb1' _ hbe;clear hb1';have hB1:=hB.below hb1 (Nat.lt_succ_self _);obtain⟨c0,c1,c2,_,_,_⟩:=blk3 hB1)
 rw[List.nil_append] at hO1
 have hbw:Below w.heap.size w w1:=hb0.trans (hb1.mono (Nat.le_succ _))
 have hs1:w.heap.size+1<=w1.heap.size:=by have:=hb1.size;omega
 clear hO0 hr2 hbe hB hb0 hb1
 refine (refRight_is 1 (i) [] w1 (by simp) true rfl).mono ?_
 rintro e w2 ⟨rfl,hb2⟩
 replace hO1:=hO1.below hb2
 have hB2:=hB1.below hb2 hB1.lt
 replace hbw:=below_next hbw (Jn) hb2
 have hs2:w.heap.size+1<=w2.heap.size:=Nat.le_trans hs1 hb2.size
 clear c0 c1 c2 hB1 hb2 hs1
 obtain⟨c0,c1,c2,_,_,_⟩:=blk3 hB2
 have hO1':∀o,Own (w2.alloc o) (w.heap.size+1) 5 v1 bs:=fun o=>hO1.below ((Below.refl _ _).alloc (Jn) o)
 have hrx:=rd_const w2 5 (0,0) #[.int .u8 1] [1] rfl
 have hbe:Below (w.heap.size+1) w2 (w2.alloc (.cells #[.int .u8 1] 5)):=(Below.refl _ _).alloc hs2 _
 have hHL:Hid (bs.length+1<=140737488355328):=by show _<=_;rw[HN.o];omega
 go_wp2_with (at_builtin;refine wpList_append_rd rfl (.tmp 13) (.tmp 17) 29 rfl (w.heap.size+1) 5 i0 Tryz.underlying29 hi0 hz0 hz1 hz2 _ bs (by rfl) (hO1' _) (some ⟨w2.heap.size,0,none⟩) [1] 1 1 (by rfl) hrx rfl hHL.o (by simp;omega) ?_;intro v3 w3 hO3 hb3' _ _;have hb3:=hb3' _ hbe;clear hb3';have hB3:=hB2.below hb3 (Nat.lt_succ_self _);clear c0 c1 c2;obtain⟨c0,c1,c2,_,_,_⟩:=blk3 hB3)
 obtain⟨D,c,hv,hc,hr3⟩:=hO3.rd
 have HLN:Hid ((bs++[1]).length=n+1):=by show _=_;rw[List.length_append,HN.o];rfl
 rw[HLN.o] at hv
 subst hv
 have hbw3:Below w.heap.size w w3:=hbw.trans (hb3.mono (Nat.le_succ _))
 clear hO1 hO1' hO3 hb3 hbe hrx hB2 hB3 hbw hc
 refine (refPutInt_at D (bs++[1]) (n+1) c L i HLN.o HL.o h1 h2 (by omega) w3 hr3).mono ?_
 rintro e w4 ⟨D4,c4,rfl,hb4,hr4⟩
 go_wp2_with fail
 go_ret
 exact⟨D4,c4,rfl,below_next hbw3 (Jn) hb4,by rw[HP.o];simpa using hr4⟩
theorem rvput_text (A:OA) (bs:LU) (n cap L:Nat) (t:LU) (hn:bs.length=n) (hL:n+(Wire.put 2++Wire.text t).length=L) (hl:n+200<=140737488355328) (ht:t.length<=64) (w:World) (hr:Rd w A bs):
  Calls Tryz.prog 94 #[.slice A n cap,.agg (vC 2 0 t.toArray)] w (LaysR w (bs++(Wire.put 2++Wire.text t)) L):=by
 have HP:=Jh (Wire.put_lo 2 (by decide))
 have hL':n+1+(Wire.text t).length=L:=by rw[HP.o] at hL;simp at hL ⊢;omega
 have HL:=Jh hL'
 clear hL hL'
 obtain⟨i0,hi0,hz0,hz1,hz2⟩:=info_parts byte_info
 have HN:=Jh hn
 clear hn
 obtain⟨hB,hb0⟩:=box3 w 52 (.int .i64 2) (.int .i64 0) (.string ⟨t.toArray⟩)
 have hsz:(w.alloc (.cells (vC 2 0 t.toArray) 52)).heap.size=w.heap.size+1:=by simp
 have hr2:=(hr.below hb0).below ((Below.refl _ _).alloc (Jn) (.cells #[] 5))
 have hO0:=Own.empty (w.alloc (.cells (vC 2 0 t.toArray) 52)) (w.heap.size+1) 5 (Nat.le_of_eq hsz.symm)
 rw[hsz] at hO0
 have hbe:Below (w.heap.size+1) (w.alloc (.cells (vC 2 0 t.toArray) 52)) ((w.alloc (.cells (vC 2 0 t.toArray) 52)).alloc (.cells #[] 5)):=(Below.refl _ _).alloc (Nat.le_of_eq hsz.symm) _
 go_enter Tryz.func94,Tryz.ntmps94
 go_wp2_with (at_builtin;refine wpList_append_rd rfl (.tmp 6) (.tmp 7) 29 rfl (w.heap.size+1) 5 i0 Tryz.underlying29 hi0 hz0 hz1 hz2 _ [] (by rfl) hO0 A bs n cap (by rfl) hr2 HN.o (by simp;omega) (by simp) ?_;intro v1 w1 hO1 hb1' _ _;have hb1:=hb1' _ hbe;clear hb1';have hB1:=hB.below hb1 (Nat.lt_succ_self _);obtain⟨c0,c1,c2,_,_,_⟩:=blk3 hB1)
 rw[List.nil_append] at hO1
 have hbw:Below w.heap.size w w1:=hb0.trans (hb1.mono (Nat.le_succ _))
 have hs1:w.heap.size+1<=w1.heap.size:=by have:=hb1.size;omega
 clear hO0 hr2 hbe hB hb0 hb1
 refine (refRight_is 2 (0) t w1 (by omega) true (by simp[Vals.right,ht])).mono ?_
 rintro e w2 ⟨rfl,hb2⟩
 replace hO1:=hO1.below hb2
 have hB2:=hB1.below hb2 hB1.lt
 replace hbw:=below_next hbw (Jn) hb2
 have hs2:w.heap.size+1<=w2.heap.size:=Nat.le_trans hs1 hb2.size
 clear c0 c1 c2 hB1 hb2 hs1
 obtain⟨c0,c1,c2,_,_,_⟩:=blk3 hB2
 have hO1':∀o,Own (w2.alloc o) (w.heap.size+1) 5 v1 bs:=fun o=>hO1.below ((Below.refl _ _).alloc (Jn) o)
 have hrx:=rd_const w2 5 (0,0) #[.int .u8 2] [2] rfl
 have hbe:Below (w.heap.size+1) w2 (w2.alloc (.cells #[.int .u8 2] 5)):=(Below.refl _ _).alloc hs2 _
 have hHL:Hid (bs.length+1<=140737488355328):=by show _<=_;rw[HN.o];omega
 go_wp2_with (at_builtin;refine wpList_append_rd rfl (.tmp 13) (.tmp 17) 29 rfl (w.heap.size+1) 5 i0 Tryz.underlying29 hi0 hz0 hz1 hz2 _ bs (by rfl) (hO1' _) (some ⟨w2.heap.size,0,none⟩) [2] 1 1 (by rfl) hrx rfl hHL.o (by simp;omega) ?_;intro v3 w3 hO3 hb3' _ _;have hb3:=hb3' _ hbe;clear hb3';have hB3:=hB2.below hb3 (Nat.lt_succ_self _);clear c0 c1 c2;obtain⟨c0,c1,c2,_,_,_⟩:=blk3 hB3)
 obtain⟨D,c,hv,hc,hr3⟩:=hO3.rd
 have HLN:Hid ((bs++[2]).length=n+1):=by show _=_;rw[List.length_append,HN.o];rfl
 rw[HLN.o] at hv
 subst hv
 have hbw3:Below w.heap.size w w3:=hbw.trans (hb3.mono (Nat.le_succ _))
 clear hO1 hO1' hO3 hb3 hbe hrx hB2 hB3 hbw hc
 refine (refPutText_at D (bs++[2]) t (n+1) c t.length L HLN.o rfl HL.o (by omega) w3 hr3).mono ?_
 rintro e w4 ⟨D4,c4,rfl,hb4,hr4⟩
 go_wp2_with fail
 go_ret
 exact⟨D4,c4,rfl,below_next hbw3 (Jn) hb4,by rw[HP.o];simpa using hr4⟩
theorem rvput_off (A:OA) (bs:LU) (n cap L:Nat)  (hn:bs.length=n) (hL:n+(Wire.put 3++Wire.put 0).length=L) (hl:n+200<=140737488355328)  (w:World) (hr:Rd w A bs):
  Calls Tryz.prog 94 #[.slice A n cap,.agg (vC 3 0 #[])] w (LaysR w (bs++(Wire.put 3++Wire.put 0)) L):=by
 have HP:=Jh (Wire.put_lo 3 (by decide))
 have hL':n+1+(Wire.put 0).length=L:=by rw[HP.o] at hL;simp at hL ⊢;omega
 have HL:=Jh hL'
 clear hL hL'
 obtain⟨i0,hi0,hz0,hz1,hz2⟩:=info_parts byte_info
 have HN:=Jh hn
 clear hn
 obtain⟨hB,hb0⟩:=box3 w 52 (.int .i64 3) (.int .i64 0) (.string ⟨#[]⟩)
 have hsz:(w.alloc (.cells (vC 3 0 #[]) 52)).heap.size=w.heap.size+1:=by simp
 have hr2:=(hr.below hb0).below ((Below.refl _ _).alloc (Jn) (.cells #[] 5))
 have hO0:=Own.empty (w.alloc (.cells (vC 3 0 #[]) 52)) (w.heap.size+1) 5 (Nat.le_of_eq hsz.symm)
 rw[hsz] at hO0
 have hbe:Below (w.heap.size+1) (w.alloc (.cells (vC 3 0 #[]) 52)) ((w.alloc (.cells (vC 3 0 #[]) 52)).alloc (.cells #[] 5)):=(Below.refl _ _).alloc (Nat.le_of_eq hsz.symm) _
 go_enter Tryz.func94,Tryz.ntmps94
 go_wp2_with (at_builtin;refine wpList_append_rd rfl (.tmp 6) (.tmp 7) 29 rfl (w.heap.size+1) 5 i0 Tryz.underlying29 hi0 hz0 hz1 hz2 _ [] (by rfl) hO0 A bs n cap (by rfl) hr2 HN.o (by simp;omega) (by simp) ?_;intro v1 w1 hO1 hb1' _ _;have hb1:=hb1' _ hbe;clear hb1';have hB1:=hB.below hb1 (Nat.lt_succ_self _);obtain⟨c0,c1,c2,_,_,_⟩:=blk3 hB1)
 rw[List.nil_append] at hO1
 have hbw:Below w.heap.size w w1:=hb0.trans (hb1.mono (Nat.le_succ _))
 have hs1:w.heap.size+1<=w1.heap.size:=by have:=hb1.size;omega
 clear hO0 hr2 hbe hB hb0 hb1
 refine (refRight_is 3 (0) [] w1 (by simp) true rfl).mono ?_
 rintro e w2 ⟨rfl,hb2⟩
 replace hO1:=hO1.below hb2
 have hB2:=hB1.below hb2 hB1.lt
 replace hbw:=below_next hbw (Jn) hb2
 have hs2:w.heap.size+1<=w2.heap.size:=Nat.le_trans hs1 hb2.size
 clear c0 c1 c2 hB1 hb2 hs1
 obtain⟨c0,c1,c2,_,_,_⟩:=blk3 hB2
 have hO1':∀o,Own (w2.alloc o) (w.heap.size+1) 5 v1 bs:=fun o=>hO1.below ((Below.refl _ _).alloc (Jn) o)
 have hrx:=rd_const w2 5 (0,0) #[.int .u8 3] [3] rfl
 have hbe:Below (w.heap.size+1) w2 (w2.alloc (.cells #[.int .u8 3] 5)):=(Below.refl _ _).alloc hs2 _
 have hHL:Hid (bs.length+1<=140737488355328):=by show _<=_;rw[HN.o];omega
 go_wp2_with (first | (at_builtin;refine wpList_append_rd rfl (.tmp 13) (.tmp 17) 29 rfl (w.heap.size+1) 5 i0 Tryz.underlying29 hi0 hz0 hz1 hz2 _ bs (by rfl) (hO1' _) (some ⟨w2.heap.size,0,none⟩) [3] 1 1 (by rfl) hrx rfl hHL.o (by simp;omega) ?_;intro v3 w3 hO3 hb3' _ _;have hb3:=hb3' _ hbe;clear hb3';have hB3:=hB2.below hb3 (Nat.lt_succ_self _);clear c0 c1 c2;obtain⟨c0,c1,c2,_,_,_⟩:=blk3 hB3;have hO3':∀o,Own (w3.alloc o) (w.heap.size+1) 5 v3 (bs++[3]):=fun o=>hO3.below ((Below.refl _ _).alloc (Jn) o);have hs3:w.heap.size+1<=w3.heap.size:=Nat.le_trans hs2 hb3.size;have hrx3:=rd_const w3 5 (0,0) #[.int .u8 0] [0] rfl;have hHL3:Hid ((bs++[3]).length+1<=140737488355328):=(by show _<=_;rw[List.length_append,HN.o];simp;omega);have hbe3:Below (w.heap.size+1) w3 (w3.alloc (.cells #[.int .u8 0] 5)):=(Below.refl _ _).alloc hs3 _;have hbw3:Below w.heap.size w w3:=hbw.trans (hb3.mono (Nat.le_succ _));clear hO1 hO1' hbe hrx hB2 hbw) | (at_builtin;refine wpList_append_rd rfl (.tmp 33) (.tmp 37) 29 rfl (w.heap.size+1) 5 i0 Tryz.underlying29 hi0 hz0 hz1 hz2 _ (bs++[3]) (by rfl) (hO3' _) (some ⟨w3.heap.size,0,none⟩) [0] 1 1 (by rfl) hrx3 rfl hHL3.o (by simp;omega) ?_;intro v4 w4 hO4 hb4' _ _;have hb4:=hb4' _ hbe3;clear hb4'))
 obtain⟨D,c,hv,hc,hr4⟩:=hO4.rd
 have HLL:Hid ((bs++[3]++[0]).length=L):=by
  show _=_
  rw[<-HL.o,Wire.put_lo 0 (by decide),List.length_append,List.length_append,HN.o];rfl
 rw[HLL.o] at hv
 subst hv
 go_ret
 exact⟨D,c,rfl,hbw3.trans (hb4.mono (Nat.le_succ _)),by rw[HP.o,Wire.put_lo 0 (by decide)];simpa using hr4⟩
theorem rvput_on (A:OA) (bs:LU) (n cap L:Nat)  (hn:bs.length=n) (hL:n+(Wire.put 3++Wire.put 1).length=L) (hl:n+200<=140737488355328)  (w:World) (hr:Rd w A bs):
  Calls Tryz.prog 94 #[.slice A n cap,.agg (vC 3 1 #[])] w (LaysR w (bs++(Wire.put 3++Wire.put 1)) L):=by
 have HP:=Jh (Wire.put_lo 3 (by decide))
 have hL':n+1+(Wire.put 1).length=L:=by rw[HP.o] at hL;simp at hL ⊢;omega
 have HL:=Jh hL'
 clear hL hL'
 obtain⟨i0,hi0,hz0,hz1,hz2⟩:=info_parts byte_info
 have HN:=Jh hn
 clear hn
 obtain⟨hB,hb0⟩:=box3 w 52 (.int .i64 3) (.int .i64 1) (.string ⟨#[]⟩)
 have hsz:(w.alloc (.cells (vC 3 1 #[]) 52)).heap.size=w.heap.size+1:=by simp
 have hr2:=(hr.below hb0).below ((Below.refl _ _).alloc (Jn) (.cells #[] 5))
 have hO0:=Own.empty (w.alloc (.cells (vC 3 1 #[]) 52)) (w.heap.size+1) 5 (Nat.le_of_eq hsz.symm)
 rw[hsz] at hO0
 have hbe:Below (w.heap.size+1) (w.alloc (.cells (vC 3 1 #[]) 52)) ((w.alloc (.cells (vC 3 1 #[]) 52)).alloc (.cells #[] 5)):=(Below.refl _ _).alloc (Nat.le_of_eq hsz.symm) _
 go_enter Tryz.func94,Tryz.ntmps94
 go_wp2_with (at_builtin;refine wpList_append_rd rfl (.tmp 6) (.tmp 7) 29 rfl (w.heap.size+1) 5 i0 Tryz.underlying29 hi0 hz0 hz1 hz2 _ [] (by rfl) hO0 A bs n cap (by rfl) hr2 HN.o (by simp;omega) (by simp) ?_;intro v1 w1 hO1 hb1' _ _;have hb1:=hb1' _ hbe;clear hb1';have hB1:=hB.below hb1 (Nat.lt_succ_self _);obtain⟨c0,c1,c2,_,_,_⟩:=blk3 hB1)
 rw[List.nil_append] at hO1
 have hbw:Below w.heap.size w w1:=hb0.trans (hb1.mono (Nat.le_succ _))
 have hs1:w.heap.size+1<=w1.heap.size:=by have:=hb1.size;omega
 clear hO0 hr2 hbe hB hb0 hb1
 refine (refRight_is 3 (1) [] w1 (by simp) true rfl).mono ?_
 rintro e w2 ⟨rfl,hb2⟩
 replace hO1:=hO1.below hb2
 have hB2:=hB1.below hb2 hB1.lt
 replace hbw:=below_next hbw (Jn) hb2
 have hs2:w.heap.size+1<=w2.heap.size:=Nat.le_trans hs1 hb2.size
 clear c0 c1 c2 hB1 hb2 hs1
 obtain⟨c0,c1,c2,_,_,_⟩:=blk3 hB2
 have hO1':∀o,Own (w2.alloc o) (w.heap.size+1) 5 v1 bs:=fun o=>hO1.below ((Below.refl _ _).alloc (Jn) o)
 have hrx:=rd_const w2 5 (0,0) #[.int .u8 3] [3] rfl
 have hbe:Below (w.heap.size+1) w2 (w2.alloc (.cells #[.int .u8 3] 5)):=(Below.refl _ _).alloc hs2 _
 have hHL:Hid (bs.length+1<=140737488355328):=by show _<=_;rw[HN.o];omega
 go_wp2_with (first | (at_builtin;refine wpList_append_rd rfl (.tmp 13) (.tmp 17) 29 rfl (w.heap.size+1) 5 i0 Tryz.underlying29 hi0 hz0 hz1 hz2 _ bs (by rfl) (hO1' _) (some ⟨w2.heap.size,0,none⟩) [3] 1 1 (by rfl) hrx rfl hHL.o (by simp;omega) ?_;intro v3 w3 hO3 hb3' _ _;have hb3:=hb3' _ hbe;clear hb3';have hB3:=hB2.below hb3 (Nat.lt_succ_self _);clear c0 c1 c2;obtain⟨c0,c1,c2,_,_,_⟩:=blk3 hB3;have hO3':∀o,Own (w3.alloc o) (w.heap.size+1) 5 v3 (bs++[3]):=fun o=>hO3.below ((Below.refl _ _).alloc (Jn) o);have hs3:w.heap.size+1<=w3.heap.size:=Nat.le_trans hs2 hb3.size;have hrx3:=rd_const w3 5 (0,0) #[.int .u8 1] [1] rfl;have hHL3:Hid ((bs++[3]).length+1<=140737488355328):=(by show _<=_;rw[List.length_append,HN.o];simp;omega);have hbe3:Below (w.heap.size+1) w3 (w3.alloc (.cells #[.int .u8 1] 5)):=(Below.refl _ _).alloc hs3 _;have hbw3:Below w.heap.size w w3:=hbw.trans (hb3.mono (Nat.le_succ _));clear hO1 hO1' hbe hrx hB2 hbw) | (at_builtin;refine wpList_append_rd rfl (.tmp 33) (.tmp 37) 29 rfl (w.heap.size+1) 5 i0 Tryz.underlying29 hi0 hz0 hz1 hz2 _ (bs++[3]) (by rfl) (hO3' _) (some ⟨w3.heap.size,0,none⟩) [1] 1 1 (by rfl) hrx3 rfl hHL3.o (by simp;omega) ?_;intro v4 w4 hO4 hb4' _ _;have hb4:=hb4' _ hbe3;clear hb4'))
 obtain⟨D,c,hv,hc,hr4⟩:=hO4.rd
 have HLL:Hid ((bs++[3]++[1]).length=L):=by
  show _=_
  rw[<-HL.o,Wire.put_lo 1 (by decide),List.length_append,List.length_append,HN.o];rfl
 rw[HLL.o] at hv
 subst hv
 go_ret
 exact⟨D,c,rfl,hbw3.trans (hb4.mono (Nat.le_succ _)),by rw[HP.o,Wire.put_lo 1 (by decide)];simpa using hr4⟩
theorem rvput_at (A:OA) (bs:LU) (n cap L:Nat) (k i:Int) (t:LU) (hn:bs.length=n) (hL:n+(Vals.lay k i t).length=L) (hl:n+200<=140737488355328) (h1:-9223372036854775808<=i) (h2:i<=9223372036854775807) (ht:t.length<=9223372036854775807) (w:World) (hr:Rd w A bs):
  Calls Tryz.prog 94 #[.slice A n cap,.agg (vC k i t.toArray)] w (LaysR w (bs++Vals.lay k i t) L):=by
 cases h:Vals.right k i t with
 | false=>
  have e:Vals.lay k i t=[]:=by unfold Vals.lay;rw[h];rfl
  rw[e] at hL ⊢
  rw[List.append_nil]
  simp only[List.length_nil,Nat.add_zero] at hL
  subst hL
  exact rvput_wrong A bs n cap k i t hn hl ht w hr h
 | true=>
  have e:Vals.lay k i t=Vals.bytes k i t:=by unfold Vals.lay;rw[if_pos h]
  rw[e] at hL ⊢
  unfold Vals.bytes at hL ⊢
  rcases Vals.right_cases h with ⟨rfl,rfl⟩|⟨rfl,rfl,ht'⟩|⟨rfl,rfl,rfl|rfl⟩
  ·rw[if_pos rfl] at hL ⊢
   exact rvput_int A bs n cap L i hn hL hl h1 h2 w hr
  ·rw[if_neg (by decide),if_pos rfl] at hL ⊢
   exact rvput_text A bs n cap L t hn hL hl ht' w hr
  ·rw[if_neg (by decide),if_neg (by decide)] at hL ⊢
   exact rvput_off A bs n cap L hn hL hl w hr
  ·rw[if_neg (by decide),if_neg (by decide)] at hL ⊢
   exact rvput_on A bs n cap L hn hL hl w hr
end
end Go.Proofs.YtnfigjggjmncdaaGreat
