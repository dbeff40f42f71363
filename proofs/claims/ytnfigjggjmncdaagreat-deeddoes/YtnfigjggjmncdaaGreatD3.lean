/- Contracts. -/
import Derived.Test.YtnfigjggjmncdaaGreatA3
import Derived.Test.YtnfigjggjmncdaaGreatA4
import Derived.Test.YtnfigjggjmncdaaGreatD1
import Derived.Test.YtnfigjggjmncdaaGreatD2
set_option maxRecDepth 100000
set_option maxHeartbeats 4000000
namespace Go.Proofs.YtnfigjggjmncdaaGreat
section
open Go.RowKit Go.Maps Spans Op
def layOf (p:Pr):LU:=Preds.lay p.n p.o p.k p.i p.t
def fbytes (f:List Pr):LU:=Wire.put f.length++f.flatMap layOf
def FLaid (f:List Pr) (bs:LU):Prop:=(Fil.NormIs f f 0/\bs=fbytes f)∨(¬Fil.NormIs f f 0/\bs=[])
theorem FLaid.one {f:List Pr} {bs bs':LU} (h:FLaid f bs) (k:FLaid f bs'):bs=bs':=by
 rcases h with ⟨h1,rfl⟩|⟨h1,rfl⟩<;>rcases k with ⟨k1,rfl⟩|⟨k1,rfl⟩
 ·rfl
 ·exact absurd h1 k1
 ·exact absurd k1 h1
 ·rfl
theorem lays_len {f:List Pr} (h:PBd f):∀k,((f.take k).flatMap layOf).length<=300*k:=by
 intro k
 have:∀l:List Pr,(∀p∈l,p∈f)->(l.flatMap layOf).length<=300*l.length:=by
  intro l
  induction l with
  | nil=>intro _;simp
  | cons p l ih=>
   intro hp
   have h1:=ih fun q hq=>hp q (List.mem_cons_of_mem _ hq)
   have h2:=Preds.lay_len p.n p.o p.k p.i p.t (h p (hp p (by simp))).2.2.1 (h p (hp p (by simp))).2.2.2
   rw[List.flatMap_cons,List.length_append,List.length_cons]
   unfold layOf at *
   omega
 have h1:=this (f.take k) fun p hp=>List.mem_of_mem_take hp
 have h2:(f.take k).length<=k:=by rw[List.length_take];omega
 have h3:300*(f.take k).length<=300*k:=Nat.mul_le_mul_left _ h2
 omega
theorem fbytes_len {f:List Pr} (h:PBd f) (hn:f.length<=24):(fbytes f).length<=8000:=by
 have h1:=lays_len h f.length
 rw[List.take_length] at h1
 have h2:=Wire.put_len_le f.length (by omega)
 unfold fbytes
 rw[List.length_append]
 omega
theorem bytesOf_at (A:OA) (f:List Pr) (n c:Nat) (hn:f.length=n) (hm:n<=100) (hl:PBd f) (w:World) (hr:RdQ w A f):
  Calls Tryz.prog 93 #[.slice A n c] w fun e w'=>∃bs,FLaid f bs/\bs.length<=8000/\Lays w bs bs.length e w':=by
 have HN:=Jh hn
 have HLL:=Jh hl
 have HR:=Jh hr
 clear hn hl hr
 go_enter Tryz.func93,Tryz.ntmps93
 go_wp2_with fail
 refine (fright_at A f n c HN.o hm HLL.o w HR.o).mono ?_
 rintro e w1 ⟨q,rfl,hq,hb1⟩
 have HB1:=Jh hb1
 clear hb1
 cases q with
 | false=>
  have HQ:Hid (¬Fil.NormIs f f 0):=fun h=>by have:=hq.2 h;cases this
  clear hq
  go_wp2_with fail
  go_ret
  exact⟨[],.inr ⟨HQ.o,rfl⟩,by simp,none,0,rfl,Jn,HB1.o,.inl rfl⟩
 | true=>
  have HQ:Hid (Fil.NormIs f f 0):=hq.1 rfl
  have h24:n<=24:=by
   obtain⟨S,L,hg⟩:=HQ.o.good
   have:=hg.sound.1
   rw[HN.o] at this
   exact this
  clear hq
  have hu:(n:Int)<=18446744073709551615:=by omega
  have hpl:=Wire.put_len_le n (by omega)
  obtain⟨L0,hL0⟩:∃z,(Wire.put n).length=z:=⟨_,rfl⟩
  rw[hL0] at hpl
  have HL0:=Jh hL0
  clear hL0
  go_wp2_with fail
  refine (put_at none [] 0 0 n L0 rfl (by rw[HL0.o];omega) (by omega) (by omega) w1 (.inl rfl)).mono ?_
  rintro e w2 ⟨g2,rfl,hg2,hb2,hB2⟩
  rw[List.nil_append] at hB2
  have HB2:=Jh (below_next HB1.o (Jn) hb2)
  have HR2:=Jh hB2.rd
  clear hb2 hB2 hg2 hu
  go_wp2_with fail
  go_loopg [3,15] n (fun gg s3 s15 wr=>∃(k:Nat) (D:OA) (L cc:Nat),k<=n/\n-k<=gg/\s15=.int .i64 (k:Int)/\s3=.slice D L cc/\L<=cc/\L<=10+300*k/\Hid ((Wire.put n++(f.take k).flatMap layOf).length=L)/\Hid (Rd wr D (Wire.put n++(f.take k).flatMap layOf))/\Hid (Below w.heap.size w wr))
  case atStart=>exact⟨0,_,L0,L0,Nat.zero_le _,by omega,rfl,rfl,Jn,by omega,by show _=_;simp[HL0.o],by show Rd _ _ _;simpa using HR2.o,HB2⟩
  case round=>
   obtain⟨k,D,L,cc,hk,hgg,rfl,rfl,hLc,hLk,HL,HRD,HB⟩:=hrel
   clear HR2 HB2 HB1
   by_cases hlt:k<n
   ·have hk':k<f.length:=by rw[HN.o];exact hlt
    have hpl:=HLL.o _ (List.getElem_mem hk')
    obtain⟨g,off,rfl,hg,c0,c1,c2,c3,c4⟩:=RdQ.at5 (RdK.below HR.o HB.o) hk'
    obtain⟨x,hx⟩:∃x,f[k]=x:=⟨_,rfl⟩
    have HX:=Jh hx
    rw[hx] at c0 c1 c2 c3 c4 hpl
    clear hx
    obtain⟨xn,xo,xk,xi,xt⟩:=x
    obtain⟨hp1,hp2,hp3,hp4⟩:=hpl
    dsimp only at hp1 hp2 hp3 hp4 c0 c1 c2 c3 c4
    have w5:(k:Int)<(n:Int):=by omega
    have hb1:=HB.o.alloc (by have:=HB.o.size;omega) (.cells (pC xn.toArray xo xk xi xt.toArray) 54)
    have HB1:=Jh hb1
    have HRE:=Jh (HRD.o.below ((Below.refl _ _).alloc (Jn) (.cells (pC xn.toArray xo xk xi xt.toArray) 54)))
    have hll:=Preds.lay_len xn xo xk xi xt hp3 hp4
    obtain⟨L2,hL2⟩:∃z,L+(Preds.lay xn xo xk xi xt).length=z:=⟨_,rfl⟩
    have HL2:=Jh hL2
    have hL2b:L2<=10+300*(k+1):=by omega
    clear hb1 hL2 hll
    go_wp2_with fail
    refine (pput_at D _ L cc L2 xn xo xk xi xt HL.o HL2.o (by omega) hp3 hp4 (by omega) (by omega) _ HRE.o).mono ?_
    rintro e w2 ⟨D2,cc2,rfl,hLc2,hb2,hrd2⟩
    have HB2:=Jh (below_next HB1.o (by have:=HB1.o.size;omega) hb2)
    have hE:Wire.put n++(f.take (k+1)).flatMap layOf=(Wire.put n++(f.take k).flatMap layOf)++Preds.lay xn xo xk xi xt:=by
     rw[List.take_succ_eq_append_getElem hk',HX.o,List.flatMap_append,List.append_assoc]
     simp[layOf]
    have HRD2:Hid (Rd w2 D2 (Wire.put n++(f.take (k+1)).flatMap layOf)):=by
     show Rd _ _ _
     rw[hE]
     exact hrd2
    have HL3:Hid ((Wire.put n++(f.take (k+1)).flatMap layOf).length=L2):=by
     show _=_
     rw[hE,List.length_append,HL.o]
     exact HL2.o
    clear hb2 hrd2 hE c0 c1 c2 c3 c4 HRE HB1 HL2 HRD HL
    go_wp2_with fail
    go_roundg (n-(k+1))
    case measure=>omega
    case rel=>exact⟨k+1,D2,L2,cc2,by omega,Jn,by go_num,rfl,hLc2,hL2b,HL3,HRD2,HB2⟩
   ·have hkn:Hid (k=n):=by show k=n;omega
    go_wp2_with fail
    go_ret
    have h1:=HRD.o
    have h2:=HL.o
    rw[hkn.o,List.take_of_length_le (by rw[HN.o];exact Jn)] at h1 h2
    have hE:fbytes f=Wire.put n++f.flatMap layOf:=by unfold fbytes;rw[HN.o]
    rw[<-hE] at h1 h2
    exact⟨fbytes f,.inl ⟨HQ.o,rfl⟩,fbytes_len HLL.o (by rw[HN.o];exact h24),D,cc,by rw[h2];rfl,by rw[h2];exact hLc,HB.o,h1⟩
theorem fput_at (B:OA) (bs:LU) (m d:Nat) (hbs:bs.length=m) (hmb:m<=1000) (A:OA) (f:List Pr) (n c:Nat) (hn:f.length=n) (hm:n<=100) (hl:PBd f) (w:World) (hrb:Rd w B bs) (hr:RdQ w A f):
  Calls Tryz.prog 63 #[.slice B m d,.slice A n c] w fun e w'=>∃fs,FLaid f fs/\fs.length<=8000/\Lays w (bs++fs) (m+fs.length) e w':=by
 have HN:=Jh hn
 have HLL:=Jh hl
 have HR:=Jh hr
 have HM:=Jh hbs
 have HRB:=Jh hrb
 clear hn hl hr hbs hrb
 go_enter Tryz.func63,Tryz.ntmps63
 go_wp2_with fail
 refine (bytesOf_at A f n c HN.o hm HLL.o w HR.o).mono ?_
 rintro e w1 ⟨fs,hfl,hfl8,D,cc,rfl,hcc,hb1,hrd⟩
 have HFL:=Jh hfl
 have HB1:=Jh hb1
 have HRD:=Jh hrd
 obtain⟨k,hk⟩:∃z,fs.length=z:=⟨_,rfl⟩
 have HK:=Jh hk
 rw[hk] at hfl8 hcc
 simp only[hk]
 have hBK:=Blk.new w1 29 #[.slice B m d,.slice D k cc]
 have HBK:=Jh hBK
 have hbb:Below w1.heap.size w1 (w1.alloc (.cells #[.slice B m d,.slice D k cc] 29)):=(Below.refl _ _).alloc (Jn) _
 have HB2:=Jh (below_next HB1.o (Jn) hbb)
 have HRD2:=Jh (HRD.o.below hbb)
 clear hfl hb1 hrd hk hBK hbb
 go_wp2_with fail
 refine (concatB_at w1.heap.size B m d D k cc _ bs fs HM.o (by omega) HK.o (by omega) (HRB.o.below HB2.o) HRD2.o HBK.o.lt (HBK.o.cell 0) (HBK.o.cell 1)).mono ?_
 generalize w1.alloc (.cells #[.slice B m d,.slice D k cc] 29)=w3 at *
 rintro e w4 ⟨v,rfl,ho4,hb4⟩
 obtain⟨D4,c4,rfl,hc4,hr4⟩:=Own.rd ho4
 have HB4:=Jh (below_next HB2.o (Jn) hb4)
 have HR4:=Jh hr4
 have HC4:=Jh hc4
 have hlen:(bs++fs).length=m+k:=by rw[List.length_append,HM.o,HK.o]
 have HLN:=Jh hlen
 rw[hlen] at hc4
 simp only[hlen]
 clear ho4 hb4 hr4 hlen
 go_wp2_with fail
 go_ret
 exact⟨fs,HFL.o,by rw[HK.o];exact hfl8,D4,c4,by rw[HK.o];rfl,by rw[HK.o];exact hc4,HB4.o,HR4.o⟩
def rdP (s:Wire.St):Pr:=⟨Preds.getN s,Preds.getO s,Preds.getK s,Preds.getI s,Preds.getT s⟩
def rdsS:Nat->Wire.St->Wire.St
 | 0,s=>s
 | k+1,s=>Preds.getS (rdsS k s)
def rdsP:Nat->Wire.St->List Pr
 | 0,_=>[]
 | k+1,s=>rdsP k s++[rdP (rdsS k s)]
theorem rdsP_len (s:Wire.St):∀k,(rdsP k s).length=k
 | 0=>rfl
 | k+1=>by rw[rdsP,List.length_append,rdsP_len s k];rfl
theorem rd_err (s:Wire.St) (h:(Preds.getS s).err=0):s.err=0:=by
 have h1:=Preds.behind_name s (Preds.getS_behind s h)
 unfold Preds.nameS at h1
 split at h1
 ·exact absurd h1 (Preds.fail_err _ 3 (by decide))
 ·cases Classical.em (s.err=0) with
  | inl h=>exact h
  | inr h=>rw[Preds.textS_err h] at h1;exact absurd h1 h
theorem rd_bd (s:Wire.St):(rdP s).n.length<=100/\(rdP s).t.length<=100 /\ -9223372036854775808<=(rdP s).i/\(rdP s).i<=9223372036854775807:=by
 unfold rdP
 dsimp only
 by_cases h:(Preds.getS s).err=0
 ·have h0:=rd_err s h
  obtain⟨b,e⟩:=s
  dsimp only at h0
  subst h0
  obtain⟨j,_,_,hr,_⟩:=Preds.get_ok b h
  obtain⟨h1,h2⟩:=Preds.right_bd hr
  obtain⟨h3,h4⟩:=Preds.getI_bd b
  exact⟨by omega,by omega,h3,h4⟩
 ·obtain⟨h1,_,_,h4,h5⟩:=Preds.get_bad s h
  rw[h1,h4,h5]
  exact⟨by simp,by simp,by decide,by decide⟩
theorem rdsP_bd (s:Wire.St):∀k,PBd (rdsP k s)
 | 0=>fun p hp=>by cases hp
 | k+1=>fun p hp=>by
  rw[rdsP] at hp
  rcases List.mem_append.1 hp with hp|hp
  ·exact rdsP_bd s k p hp
  ·simp at hp
   subst hp
   exact rd_bd _
def GetF (s:Wire.St):List Pr:=rdsP (s.uptoV 24) (s.uptoS 24)
def GetR (s:Wire.St):Wire.St:=rdsS (s.uptoV 24) (s.uptoS 24)
def GetIs (s:Wire.St) (f:List Pr) (s':Wire.St):Prop:=
 ((Fil.NormIs (GetF s) (GetF s) 0/\s'=GetR s)∨(¬Fil.NormIs (GetF s) (GetF s) 0/\s'=(GetR s).fail 3))/\f=if s'.err=0 then GetF s else []
theorem GetIs.one {s s' t':Wire.St} {f g:List Pr} (h:GetIs s f s') (k:GetIs s g t'):f=g/\s'=t':=by
 obtain⟨h1,rfl⟩:=h
 obtain⟨k1,rfl⟩:=k
 rcases h1 with ⟨a,rfl⟩|⟨a,rfl⟩<;>rcases k1 with ⟨b,rfl⟩|⟨b,rfl⟩
 ·exact⟨rfl,rfl⟩
 ·exact absurd a b
 ·exact absurd b a
 ·exact⟨rfl,rfl⟩
theorem OwnK.touch {α:Type} {L:Lay α} {w w':World} {base g:Nat} {v:Value} {es:List α} (h:OwnK L w base v es) (hg:w.grownBy w' (some g)) (hb:g<base):OwnK L w' base v es:=by
 refine ⟨h.1,?_⟩
 rcases h.2 with h2|⟨j,cap,cur,hv,hbj,hj,r⟩
 ·exact .inl h2
 ·exact .inr ⟨j,cap,cur,hv,hbj,(hg.block j (Array.getElem?_eq_some_iff.1 hj).1 (fun e=>by have:=Option.some.inj e;omega)).trans hj,r⟩
end
section
open Go.RowKit Spans Op
def ip (o k:Int):Pr:=⟨[97],o,1,k,[]⟩
def spn (lo hi:Int):Sp:=⟨1,lo,hi,[],[],false,[]⟩
theorem can_spn {lo hi:Int} (h1:-9223372036854775808<=lo) (h2:lo<=hi) (h3:hi<=9223372036854775807):CanonN (spn lo hi):=
 ⟨.inl rfl,rfl,rfl,rfl,h1,h2,h3,fun v hv=>by simp[spn] at hv,List.Pairwise.nil⟩
theorem holds_ints {l:List Pr} (hr:∀p∈l,rightP p=true/\p.k=1/\ofNo p=[]) (hne:l≠[]) {v:Val} (hv:rightV v=true):(∀p∈l,holdsP p v=true)↔v.k=1/\∀p∈l,ofLo p<=v.i/\v.i<=ofHi p:=by
 constructor
 ·intro h
  obtain⟨p,hp⟩:=List.exists_mem_of_ne_nil _ hne
  refine ⟨?_,fun q hq=>?_⟩
  ·obtain⟨h1,h2,_⟩:=hr p hp
   have:=(holds_N h1 (.inl h2) hv).1 (h p hp)
   rw[this.1,h2]
  ·obtain⟨h1,h2,_⟩:=hr q hq
   have:=(holds_N h1 (.inl h2) hv).1 (h q hq)
   exact⟨this.2.1,this.2.2.1⟩
 ·rintro ⟨h0,h⟩ q hq
  obtain⟨h1,h2,h3⟩:=hr q hq
  rw[holds_N h1 (.inl h2) hv,h2,h3]
  exact⟨h0,(h q hq).1,(h q hq).2,by simp⟩
theorem all_ints {l:List Pr} {lo hi:Int} (hr:∀p∈l,rightP p=true/\p.k=1/\ofNo p=[]) (hne:l≠[]) (h:∀x:Int,-9223372036854775808<=x->x<=9223372036854775807->((∀p∈l,ofLo p<=x/\x<=ofHi p)↔lo<=x/\x<=hi))
  (h1:-9223372036854775808<=lo) (h2:lo<=hi) (h3:hi<=9223372036854775807):IsAll l (spn lo hi):=by
 refine ⟨.inr (.inr (.inl (can_spn h1 h2 h3))),fun v hv=>?_⟩
 have hb:=(rightV_iff v).1 hv
 rw[N_iff (can_spn h1 h2 h3),holds_ints hr hne hv,h v.i hb.2.1 hb.2.2]
 simp[spn,hv]
theorem all_none {l:List Pr} (hr:∀p∈l,rightP p=true/\p.k=1/\ofNo p=[]) (hne:l≠[]) (h:∀x:Int,¬ ∀p∈l,ofLo p<=x/\x<=ofHi p):IsAll l none_:=by
 refine ⟨.inl rfl,fun v hv=>?_⟩
 rw[has_none,holds_ints hr hne hv]
 constructor
 ·intro h;cases h
 ·rintro ⟨_,h1⟩;exact absurd h1 (h _)
def all97 (f:List Pr):Prop:=f≠[]/\∀p∈f,p.n=[97]
theorem of97 {f:List Pr} (h:all97 f):Fil.of f [97]=f:=List.filter_eq_self.2 fun p hp=>by simp[h.2 p hp]
theorem names97 {f:List Pr} (h:all97 f):Fil.IsNames f [[97]]:=by
 refine ⟨by simp,fun n=>?_⟩
 rw[List.mem_singleton]
 constructor
 ·rintro rfl
  obtain⟨p,hp⟩:=List.exists_mem_of_ne_nil _ h.1
  exact⟨p,hp,h.2 p hp⟩
 ·rintro ⟨p,hp,rfl⟩
  exact h.2 p hp
theorem spans97 {f:List Pr} {a:Sp} (h:all97 f) (ha:IsAll f a):Fil.IsSpans f (fun _=>a):=fun n hn=>by
 have:n=[97]:=by obtain⟨p,hp,rfl⟩:=hn;exact h.2 p hp
 subst this
 rw[of97 h]
 exact ha
theorem good97 {f out:List Pr} {a:Sp} (h:all97 f) (hs:Fil.Sound f) (ha:IsAll f a) (h0:a.kind≠0) (ho:predsOf [97] a=out) (hl:out.length<=24):Fil.Good f out (fun _=>a) [[97]] where
 sound:=hs
 spans:=spans97 h ha
 names:=names97 h
 full:=fun ⟨_,_,e⟩=>h0 e
 len:=hl
 is:=by unfold Fil.outOf;simp[ho]
theorem void97 {f:List Pr} (h:all97 f) (hs:Fil.Sound f) (ha:IsAll f none_):Fil.NormIs f [] 9:=by
 refine .inr (.inr ⟨hs,_,_,spans97 h ha,names97 h,.inl ⟨?_,rfl,rfl⟩⟩)
 obtain⟨p,hp⟩:=List.exists_mem_of_ne_nil _ h.1
 exact⟨p,hp,rfl⟩
def f1:List Pr:=[ip 3 6,ip 5 3]
def o1:List Pr:=[ip 6 4,ip 4 5]
def f2:List Pr:=[ip 3 3,ip 5 3]
def f3:List Pr:=[⟨[97],0,0,0,[]⟩]
def f4:List Pr:=[ip 3 1]
def f5:List Pr:=[ip 5 0]
theorem g1:Fil.Good f1 o1 (fun _=>spn 4 5) [[97]]:=by
 refine good97 ⟨by decide,by decide⟩ (by decide) (all_ints (by decide) (by decide) (fun x _ _=>?_) (by decide) (by decide) (by decide)) (by decide) (by decide) (by decide)
 simp only[f1,List.forall_mem_cons,List.not_mem_nil,false_implies,implies_true,and_true]
 simp[ip,ofLo,ofHi,lowest,highest]
 omega
theorem n1:Fil.NormIs f1 o1 0:=g1.norm
theorem n2:Fil.NormIs f2 [] 9:=by
 refine void97 ⟨by decide,by decide⟩ (by decide) (all_none (by decide) (by decide) fun x=>?_)
 simp only[f2,List.forall_mem_cons,List.not_mem_nil,false_implies,implies_true,and_true]
 simp[ip,ofLo,ofHi,lowest,highest]
 omega
theorem n3:Fil.NormIs f3 [] 1:=.inr (.inl ⟨by decide,by decide,rfl,rfl⟩)
theorem g4:Fil.Good f4 [ip 4 0] (fun _=>spn (-9223372036854775808) 0) [[97]]:=by
 refine good97 ⟨by decide,by decide⟩ (by decide) (all_ints (by decide) (by decide) (fun x _ _=>?_) (by decide) (by decide) (by decide)) (by decide) (by decide) (by decide)
 simp only[f4,List.forall_mem_cons,List.not_mem_nil,false_implies,implies_true,and_true]
 simp[ip,ofLo,ofHi,lowest]
theorem n4:¬Fil.NormIs f4 f4 0:=fun h=>by
 have:=(h.one g4.norm).1
 exact absurd this (by decide)
theorem n0:Fil.NormIs [] [] 0:=by
 have h0:∀n,¬Fil.Asked [] n:=fun n ⟨p,hp,_⟩=>by cases hp
 exact .inr (.inr ⟨⟨by simp,fun p hp=>(by cases hp)⟩,fun _=>none_,[],fun n hn=>absurd hn (h0 n),Fil.IsNames.nil,.inr (.inr ⟨fun ⟨p,hp,_⟩=>(by cases hp),by simp[Fil.outOf],rfl,rfl⟩)⟩)
theorem g5:Fil.Good f5 [ip 6 1] (fun _=>spn 1 9223372036854775807) [[97]]:=by
 refine good97 ⟨by decide,by decide⟩ (by decide) (all_ints (by decide) (by decide) (fun x _ _=>?_) (by decide) (by decide) (by decide)) (by decide) (by decide) (by decide)
 simp only[f5,List.forall_mem_cons,List.not_mem_nil,false_implies,implies_true,and_true]
 simp[ip,ofLo,ofHi,highest]
theorem m1:Fil.meets o1 [⟨[97],1,5,[]⟩]=true:=by decide
theorem m2:Fil.meets [ip 2 5] [⟨[97],1,5,[]⟩]=false:=by decide
theorem upto_put (m:Nat) (hm:m<=24) (r:LU):(Wire.St.mk (Wire.put m++r) 0).uptoV 24=m/\(Wire.St.mk (Wire.put m++r) 0).uptoS 24=⟨r,0⟩:=by
 have h:=Wire.num_put m (by omega) r
 have h1:((Wire.St.mk (Wire.put m++r) 0).over 24)=false:=by
  unfold Wire.St.over Wire.St.numV
  rw[h]
  simp
  omega
 unfold Wire.St.uptoV Wire.St.uptoS
 rw[h1]
 simp only[Bool.false_eq_true,if_false]
 unfold Wire.St.numV Wire.St.numS
 dsimp only
 rw[h]
 simp
theorem zig1:Wire.zig 1=2:=by decide
theorem b4:fbytes f4=[1,1,97,3,1,2]:=by
 have e1:Wire.put 1=[1]:=Wire.put_lo 1 (by decide)
 have e2:Wire.put 2=[2]:=Wire.put_lo 2 (by decide)
 have e3:Wire.put 3=[3]:=Wire.put_lo 3 (by decide)
 have hr:Preds.right [97] 3 1 1 []=true:=by decide
 simp only[fbytes,f4,layOf,ip,List.flatMap_cons,List.flatMap_nil,List.length_cons,List.length_nil,Nat.zero_add,List.append_nil]
 unfold Preds.lay
 rw[if_pos hr]
 unfold Preds.bytes
 rw[if_neg (show ¬(3:Int)=8 by decide)]
 unfold Vals.lay
 rw[if_pos (show Vals.right 1 1 []=true by decide)]
 unfold Vals.bytes Wire.text
 simp[e1,e2,e3,zig1]
theorem b0:fbytes []=[0]:=by
 have e1:Wire.put 0=[0]:=Wire.put_lo 0 (by decide)
 simp[fbytes,e1]
end
section
open Go.RowKit Go.Maps Spans Op
theorem fgetX_at (w:World) (g:Nat) (s:Wire.St) (h:Sc w g 82 s) (h8:∀k,k<s.uptoV 24->Preds.rawO (rdsS k (s.uptoS 24))=8):
  Calls Tryz.prog 46 #[.pointer (some ⟨g,0,none⟩)] w fun e w'=>∃f s' A n c,GetIs s f s'/\e=.returned (.slice A n c)/\f.length=n/\n<=24/\n<=c/\OwnQ w' w.heap.size (.slice A n c) f/\Sc w' g 82 s'/\Touch g w w':=by
 have hgl:=h.lt
 have hb0:Below w.heap.size w (w.alloc (.cells #[] 54)):=(Below.refl _ _).alloc (Jn) _
 have HS0:=Jh (h.below hb0)
 have HT0:Hid (Touch g w (w.alloc (.cells #[] 54))):=Touch.of_below hb0
 have HW0:Hid (OwnQ (w.alloc (.cells #[] 54)) w.heap.size (.slice (some ⟨w.heap.size,0,none⟩) 0 0) []):=OwnK.empty (L:=layP) w w.heap.size (Jn)
 obtain⟨n,hn⟩:∃n,s.uptoV 24=n:=⟨_,rfl⟩
 obtain⟨t,ht⟩:∃t,s.uptoS 24=t:=⟨_,rfl⟩
 have HN:=Jh hn
 have HT:=Jh ht
 have H8:Hid (∀k,k<n->Preds.rawO (rdsS k t)=8):=by
  subst hn ht
  exact h8
 clear h8
 have hn24:n<=24:=by rw[<-hn];exact Preds.upto_le s 24
 clear h hb0 hn ht
 go_enter Tryz.func46,Tryz.ntmps46
 go_wp2_with fail
 generalize w.alloc (.cells #[] 54)=w0 at *
 refine (upto_is w0 g s t n HS0.o 24 (by decide) (by decide) HN.o HT.o).mono ?_
 rintro e w1 ⟨rfl,hs1,ht1⟩
 have HS1:=Jh hs1
 have HT1:=Jh (HT0.o.trans ht1)
 have HW1:=Jh (OwnK.touch HW0.o ht1 hgl)
 clear hs1 ht1 HS0 HT0 HW0
 go_wp2_with fail
 go_loopg [3,7] n (fun gg s3 s7 wr=>∃(k:Nat),k<=n/\n-k<=gg/\s7=.int .i64 (k:Int)/\Hid (OwnQ wr w.heap.size s3 (rdsP k t))/\Hid (Sc wr g 82 (rdsS k t))/\Hid (Touch g w wr))
 case atStart=>exact⟨0,Nat.zero_le _,by omega,rfl,HW1,HS1,HT1⟩
 case round=>
  obtain⟨k,hk,hgg,rfl,HW,HS,HTr⟩:=hrel
  clear HW1 HS1 HT1
  by_cases hlt:k<n
  ·have w5:(k:Int)<(n:Int):=by omega
   obtain⟨x,hx⟩:∃x,rdP (rdsS k t)=x:=⟨_,rfl⟩
   have HX:=Jh hx
   obtain⟨xn,xo,xk,xi,xt⟩:=x
   have h1:Preds.getN (rdsS k t)=xn:=congrArg Pr.n hx
   have h2:Preds.getO (rdsS k t)=xo:=congrArg Pr.o hx
   have h3:Preds.getK (rdsS k t)=xk:=congrArg Pr.k hx
   have h4:Preds.getI (rdsS k t)=xi:=congrArg Pr.i hx
   have h5:Preds.getT (rdsS k t)=xt:=congrArg Pr.t hx
   have HC:=Jh (fun W hW=>pget_ex W g (rdsS k t) hW xn xo xk xi xt (rdsS (k+1) t) h1 h2 h3 h4 h5 rfl (H8.o k hlt))
   clear h1 h2 h3 h4 h5 hx
   go_wp2_with fail
   refine (HC.o wr HS.o).mono ?_
   rintro e w2 ⟨rfl,hs2,ht2⟩
   have hW2:=OwnK.touch HW.o ht2 hgl
   have hT2:=HTr.o.trans ht2
   have hsz:w.heap.size<=w2.heap.size:=hT2.size
   have hrx:=rdk_one layP w2 ⟨xn,xo,xk,xi,xt⟩ 54 (pC xn.toArray xo xk xi xt.toArray) rfl
   have hbb:Below w2.heap.size w2 (w2.alloc (.cells (pC xn.toArray xo xk xi xt.toArray) 54)):=(Below.refl _ _).alloc (Jn) _
   have hW3:=OwnK.below hW2 hbb
   have hS3:=hs2.below hbb
   have hT3:Touch g w (w2.alloc (.cells (pC xn.toArray xo xk xi xt.toArray) 54)):=hT2.trans (Touch.of_below hbb)
   have hle:=OwnK.base_le hW3
   have hlen:=rdsP_len t k
   have HS3:=Jh hS3
   have HT3:=Jh hT3
   have HLE:=Jh hle
   clear hs2 ht2 hW2 hT2 hbb hS3 hT3 hle HW HS HTr HC
   obtain⟨lk,hlk⟩:∃l,rdsP k t=l:=⟨_,rfl⟩
   have HLK:=Jh hlk
   rw[hlk] at hW3 hlen
   clear hlk
   go_wp2_with (at_builtin;refine wpList_append_k layP (by rfl) (.tmp 9) (.tmp 12) 26 underQ rfl w.heap.size _ lk (by rfl) hW3 _ [⟨xn,xo,xk,xi,xt⟩] 1 1 (by rfl) hrx rfl (by rw[maxLen_num];omega) (by show (lk.length+1)*56<=_;omega) (by simp;omega) ?_;intro v6 w6 ho6 hB6 hg6 hl6)
   have HS6:Hid (Sc w6 g 82 (rdsS (k+1) t)):=HS3.o.behind (b:=w.heap.size) hg6 HLE.o hgl
   have HT6:Hid (Touch g w w6):=⟨hg6.os.trans HT3.o.os,hg6.tape.trans HT3.o.tape,hg6.output.trans HT3.o.output,Nat.le_trans HT3.o.size hg6.size,fun i hi hne=>(hg6.block i (Nat.lt_of_lt_of_le hi HT3.o.size) (fun e=>by have:=HLE.o i e.symm;omega)).trans (HT3.o.block i hi hne)⟩
   have HW6:Hid (OwnQ w6 w.heap.size v6 (rdsP (k+1) t)):=by
    show OwnK _ _ _ _ _
    rw[rdsP,HLK.o,HX.o]
    exact ho6
   clear hB6 hg6 hl6 ho6 hrx hW3 HS3 HT3 HLE
   go_wp2_with fail
   go_roundg (n-(k+1))
   case measure=>omega
   case rel=>exact⟨k+1,by omega,Jn,by go_num,HW6,HS6,HT6⟩
  ·have hkn:k=n:=by omega
   subst hkn
   have HF:Hid (GetF s=rdsP k t):=by show _=_;unfold GetF;rw[HN.o,HT.o]
   have HR:Hid (GetR s=rdsS k t):=by show _=_;unfold GetR;rw[HN.o,HT.o]
   have hlen:=rdsP_len t k
   obtain⟨A3,c3,hv3,hc3,hr3⟩:=OwnK.form HW.o hlen
   subst hv3
   have HLN:=Jh hlen
   have hr3':=hr3
   clear hlen
   go_wp2_with fail
   refine (fright_at A3 (rdsP k t) k c3 HLN.o (by omega) (rdsP_bd t k) wr hr3').mono ?_
   rintro e w2 ⟨q,rfl,hq,hb2⟩
   have HW2:=Jh (OwnK.below HW.o hb2)
   have HS2:=Jh (HS.o.below hb2)
   have HT2:=Jh (HTr.o.trans (Touch.of_below hb2))
   clear hb2 hr3 hr3' HW HS HTr
   cases q with
   | true=>
    have HG:Hid (GetIs s (if (GetR s).err=0 then GetF s else []) (GetR s)):=⟨.inl ⟨by rw[HF.o];exact hq.1 rfl,rfl⟩,rfl⟩
    clear hq
    go_wp2_with fail
    obtain⟨z,hz⟩:∃z,(rdsS k t).err=z:=⟨_,rfl⟩
    refine (err_at w2 g _ HS2.o z hz).mono ?_
    rintro e w3 ⟨rfl,rfl⟩
    by_cases hz0:z=0
    ·subst hz0
     have HZ:=Jh hz
     clear hz
     go_wp2_with fail
     go_ret
     have hG:=HG.o
     rw[HR.o,if_pos HZ.o,HF.o] at hG
     exact⟨_,_,A3,k,c3,hG,rfl,HLN.o,hn24,hc3,HW2.o,HS2.o,HT2.o⟩
    ·have v1:(z != 0)=true:=by simpa using hz0
     have HZ:Hid (¬(rdsS k t).err=0):=by rw[hz];exact hz0
     clear hz hz0
     go_wp2_with fail
     go_ret
     have hG:=HG.o
     rw[HR.o,if_neg HZ.o] at hG
     exact⟨_,_,none,0,0,hG,rfl,rfl,by omega,Jn,OwnK.none_ _ _,HS2.o,HT2.o⟩
   | false=>
    have HG:Hid (GetIs s (if ((GetR s).fail 3).err=0 then GetF s else []) ((GetR s).fail 3)):=⟨.inr ⟨by rw[HF.o];exact fun h=>(by have:=hq.2 h;cases this),rfl⟩,rfl⟩
    clear hq
    go_wp2_with fail
    refine (fail_at w2 g _ HS2.o 3).mono ?_
    rintro e w3 ⟨rfl,hs3,ht3⟩
    have HS3:=Jh hs3
    have HT3:=Jh (HT2.o.trans ht3)
    clear hs3 ht3
    go_wp2_with fail
    obtain⟨z,hz⟩:∃z,((rdsS k t).fail 3).err=z:=⟨_,rfl⟩
    have hzn:z≠0:=by rw[<-hz];exact Preds.fail_err _ 3 (by decide)
    refine (err_at w3 g _ HS3.o z hz).mono ?_
    rintro e w4 ⟨rfl,rfl⟩
    have v1:(z != 0)=true:=by simpa using hzn
    have HZ:Hid (¬((rdsS k t).fail 3).err=0):=by rw[hz];exact hzn
    clear hz hzn
    go_wp2_with fail
    go_ret
    have hG:=HG.o
    rw[HR.o,if_neg HZ.o] at hG
    exact⟨_,_,none,0,0,hG,rfl,rfl,by omega,Jn,OwnK.none_ _ _,HS3.o,HT3.o⟩
end
end Go.Proofs.YtnfigjggjmncdaaGreat
