/-
  A part of a proof. No conditions.
-/
import Derived.Test.YtllhobicfclheaaGreatDoorY17
import Derived.Test.YtllhobicfclheaaGreatDoorY18
namespace Go.Proofs.YtllhobicfclheaaGreatDoor
open Go.ChangeShapes Go.WideShapes Go.ChangeAt Go.RowKit
set_option linter.unusedVariables false
set_option maxRecDepth 100000
set_option maxHeartbeats 51200000
namespace Z4
open Ms Box Xv
open Xc (idx sl_m sl_l)
open Am Z1 Z3 Hs
open Hx (i0e)
open Nu
open Cur (numL)
open Bk (d0a b0a)
theorem e0e {B:Nat}{w:World}{v:Value}{l:List El}(h:Sx.Lst B w v l){p:Addr}(hp:p.block<B)(x:Value):Sx.Lst B (w.setCell p x) v l:=by
 refine⟨h.1,?_⟩
 rcases h.2 with h|⟨g,cap,cur,a,b,c,d⟩
 · exact .inl h
 · exact .inr ⟨g,cap,cur,a,b,(heap_setCell_other w p g x (by omega)).trans c,d⟩
theorem i0q (s:ByteArray)(n:Nat)(hs:s.size≤200000){l:List El}{i e:Int}(h:outX (s.extract n s.size)=(l,i,e)):0≤i∧i≤200000:=by
 refine' qzdl
theorem o0h (s:ByteArray)(w:World)(h0:bt s 0=2∨bt s 0=4)(hs:s.size≤200000):Calls Tryz.prog 174 #[.string s] w (AnsM (outP s) w):=by
 have HC:=Lib.hid (fun V=>q0c s V h0 (by omega))
 clear h0
 rcases head_cases s with⟨i,x,h,he,hi0,hi⟩|⟨r,n,h,hn,hns,hr1,hr2,hr3,-⟩
 · have HY:=Lib.hid (w0d h he);rw[h]at HC;clear h hi0 hi hs;refine' qzb9;refine' qzay;intro e w1 hr;obtain⟨rfl,hb⟩:=hr.at;refine' qz37;clear hr hb R0 bel HC hz
   go_upto_region 2 with(refine e0a (b:=w1.heap.size) (m:=M.zero) (m':=M.zero) rfl _ _ rfl rfl rfl (Bx.new w1 M.zero) ?_)
   change Code.wp _ _ _ _ ((w1.alloc (.cells M.zero.cells 29)).setRow w1.heap.size (M.cells M.zero));refine' qz33;have R2:=Lib.hid (R1.out.old (.cells (M.cells M.zero) 29));have bel2:=Lib.hid (balloc bel1.out (.cells (M.cells M.zero) 29));have X2:=Lib.hid (Bx.new w1 M.zero);have hlt:w.heap.size<w1.heap.size:=R1.out.lt;clear R1 bel1;generalize w1.alloc (.cells (M.cells M.zero) 29)=V at *;refine' qzcr
   go_wp2_with (first|(refine d0a rfl 29 _ rfl (M.cells M.zero) (by kernel_rfl) ?_)|(refine e0a (b:=w.heap.size) (m:=M.zero) (m':=M.zero) rfl _ _ rfl rfl rfl R2.out ?_))
   exact bodyPost_ret (v := .tuple #[.agg M.zero.cells,.int .i64 i,.int .i64 x]) (ret3 rfl _ _ w.heap.size M.zero rfl (R2.out.put (m':=M.zero)) (.int .i64 i) rfl (.int .i64 x) rfl) rfl (AnsM.no HY.out (below_setRow bel2.out (Nat.le_refl _) _))
 have HR:=Lib.hid (show r.la=none∧r.lc=0∧r.ll = []from⟨hr1,hr2,hr3⟩)
 clear hr1 hr2 hr3;rw[h]at HC
 have PG:=Lib.hid (fun V=>Xc.c0e (s.extract n s.size) V (by simp;omega))
 have sl:=sl_l s (n:Int) n s.size rfl hns rfl;refine' qzd7;obtain⟨hi0,hi⟩:=i0q s n hs hX;rw[hX]at PG
 have hn:(n:Int)≤20:=by omega
 have hn0:0≤(n:Int):=by omega
 by_cases hx:x=0;rotate_left
 · have HY:=Lib.hid (r0f h hX hx);clear h hX hs hns;generalize s.extract n s.size=t at *;generalize (n:Int)=ni at *;refine' qzb9;refine' qzay;intro e w1 hr;obtain⟨rfl,hb⟩:=hr.at;refine' qz37;clear hr hb R0 bel HC hz;refine' qzb3;refine' qz33;have R2:=Lib.hid (R1.out.old (.cells (M.cells r) 29));have bel2:=Lib.hid (balloc bel1.out (.cells (M.cells r) 29));have X2:=Lib.hid (Bx.new w1 r);have hlt:w.heap.size<w1.heap.size:=R1.out.lt;clear R1 bel1;generalize w1.alloc (.cells (M.cells r) 29)=V at *;refine' qzcr;refine' qz7a;rintro e w2 ⟨a,c,rfl,hr,hb⟩;have R3:=Lib.hid (R2.out.below hb);have bel3:=Lib.hid (bcall bel2.out hb);have X3:=Lib.hid (X2.out.below hb);have hgV:g<V.heap.size:=X2.out.lt;clear hb R2 bel2 X2 PG sl;clear hr
   go_wp2_with (first|(refine d0a rfl 29 _ rfl (M.cells M.zero) (by kernel_rfl) ?_)|(refine e0a (b:=w.heap.size) (m:=M.zero) (m':=M.zero) rfl _ _ rfl rfl rfl R3.out ?_))
   exact bodyPost_ret (v := .tuple #[.agg M.zero.cells,.int .i64 (ni+i),.int .i64 x]) (ret3 rfl _ _ w.heap.size M.zero rfl (R3.out.put (m':=M.zero)) (.int .i64 (ni+i)) rfl (.int .i64 x) rfl) rfl (AnsM.no HY.out (below_setRow bel3.out (Nat.le_refl _) _))
 subst hx;have HY:=Lib.hid (u0a h hX);clear h hX hs hns;generalize s.extract n s.size=t at *;generalize (n:Int)=ni at *;refine' qzb9;refine' qzay;intro e w1 hr;obtain⟨rfl,hb⟩:=hr.at;refine' qz37;clear hr hb R0 bel HC hz;refine' qzb3;refine' qz33;have R2:=Lib.hid (R1.out.old (.cells (M.cells r) 29));have bel2:=Lib.hid (balloc bel1.out (.cells (M.cells r) 29));have X2:=Lib.hid (Bx.new w1 r);have hlt:w.heap.size<w1.heap.size:=R1.out.lt;clear R1 bel1;generalize w1.alloc (.cells (M.cells r) 29)=V at *;refine' qzcr;refine' qz7a;rintro e w2 ⟨a,c,rfl,hr,hb⟩;have R3:=Lib.hid (R2.out.below hb);have bel3:=Lib.hid (bcall bel2.out hb);have X3:=Lib.hid (X2.out.below hb);have hgV:g<V.heap.size:=X2.out.lt;clear hb R2 bel2 X2 PG sl;have HL:=Lib.hid hr;clear hr
 go_upto_region 7 with fail
 have d:=X3.out.cs.c24;have fd:=X3.out.frozen 24;refine' qzcq
 have X4:=Lib.hid (X3.out.set (i:=24) (v := .slice a l.length c) (m':={ r with sa:=a,sl:=l,sc:=c}) rfl)
 refine' qzaf;have HL:=Lib.hid (e0e HL.out (p:=⟨g,24,none⟩) hgV (.slice a l.length c));clear d fd X3 R3 bel3;generalize w2.setCell ⟨g,24,none⟩ (.slice a l.length c)=V2 at *;refine' qz35
end Z4
namespace Z2
open Ms Box Xv Z1 Am
open Oct (fitsB)
open Hs (a0b)
open Go.Proofs.YtllhobicfclheaaGreatDoor.Or (p0a)
theorem l0g (m:M):Bare.bareN m=bare m:=rfl
theorem k1j (m:M):reply m=((decide (0≤m.flags∧m.flags≤3)&&(decide (0≤m.plen∧m.plen≤31)&&(fitsB m.hops 1&&(fitsB m.seq 4&&fitsB m.interval 4))))&&(decide (m.addr.size=4)&&decide (m.orig.size=4))):=rfl
theorem r1j {m:M}(h:m.kind=4):okP m=(bare m&&(reply m&&okX m.sl)):=by
 unfold okP
 rw[decide_eq_true h,decide_eq_false (show ¬m.kind=6 by omega)]
 cases bare m<;>cases okX m.sl<;>cases reply m<;>rfl
theorem y1k {m:M}(h:m.kind=6):okP m=(bare m&&okX m.sl):=by
 unfold okP;rw[decide_eq_true h]
 cases bare m<;>cases okX m.sl<;>rfl
theorem q0l {m:M}(h:¬m.kind=4)(k:¬m.kind=6):okP m=false:=by
 unfold okP;rw[decide_eq_false h,decide_eq_false k]
 cases bare m<;>cases okX m.sl<;>rfl
theorem y1d (m:M)(w:World):Calls Tryz.prog 171 #[.agg m.cells] w fun e w'=>e = .returned (.bool (reply m))∧Below w.heap.size w w':=by
 have bel:=balloc (Below.refl _ w) (.cells m.cells 29);have b0:=Bx.new w m;have HK:=Lib.hid (k1j m)
 have P1:=Lib.hid (fun V=>Oct.k0b m.hops 1 V)
 have P2:=Lib.hid (fun V=>Oct.k0b m.seq 4 V)
 have P3:=Lib.hid (fun V=>Oct.k0b m.interval 4 V)
 generalize reply m=y at *;generalize fitsB m.hops 1=x1 at *;generalize fitsB m.seq 4=x2 at *;generalize fitsB m.interval 4=x3 at *;refine' qz2f;have c7:=b0.cs.c7;have c12:=b0.cs.c12;have c14:=b0.cs.c14;have c15:=b0.cs.c15;have c16:=b0.cs.c16;have c19:=b0.cs.c19;have c20:=b0.cs.c20;clear b0;by_cases f0:0≤m.flags;rotate_left
 · rw[decide_eq_false (p:=0≤m.flags∧m.flags≤3) (fun h=>f0 h.1)]at HK
   refine' qz5i
 by_cases f1:m.flags≤3;rotate_left
 · rw[decide_eq_false (p:=0≤m.flags∧m.flags≤3) (fun h=>f1 h.2)]at HK
   refine' qz5i
 rw[decide_eq_true (p:=0≤m.flags∧m.flags≤3) ⟨f0,f1⟩]at HK;by_cases p0:0≤m.plen;rotate_left
 · rw[decide_eq_false (p:=0≤m.plen∧m.plen≤31) (fun h=>p0 h.1)]at HK
   refine' qz5i
 by_cases p1:m.plen≤31;rotate_left
 · rw[decide_eq_false (p:=0≤m.plen∧m.plen≤31) (fun h=>p1 h.2)]at HK
   refine' qz5i
 rw[decide_eq_true (p:=0≤m.plen∧m.plen≤31) ⟨p0,p1⟩]at HK;cases x1
 · refine' qz2h;refine' qz5i
 cases x2
 · refine' qz2h;refine' qz54;refine' qz5i
 cases x3
 · refine' qz2h;refine' qz54;refine' qz7u;refine' qz5i
 by_cases q1:m.addr.size=4;rotate_left
 · rw[decide_eq_false q1]at HK;refine' qz2h;refine' qz54;refine' qz7u;refine' qz5i
 by_cases q2:m.orig.size=4;rotate_left
 · rw[decide_eq_true q1,decide_eq_false q2]at HK
   have q3:((m.orig.size:Int)==4)=false:=by rw[beq_eq_false_iff_ne];omega
   refine' qz2h;refine' qz54;refine' qz7u;refine' qz5i
 rw[decide_eq_true q1,decide_eq_true q2]at HK;refine' qz2h;refine' qz54;refine' qz7u;refine' qz5i
theorem l0a (m:M)(w:World)(hm:m.In w)(lb:∀ x∈m.sl,x.1.size≤1099511627776):Calls Tryz.prog 100 #[.agg m.cells] w fun e w'=>e = .returned (.bool (okP m))∧Below w.heap.size w w':=by
 refine' qz40
 have P1:=Lib.hid (fun V (h:m.In V)=>Bare.z0c m V h)
 rw[l0g]at P1
 have P2:=Lib.hid (fun V=>y1d m V)
 have P3:=Lib.hid (fun V (h:m.In V)=>Xp.l0a m.sa m.sc m.sl V h.s h.sl lb)
 clear lb hm;by_cases h4:m.kind=4
 · have HY:=Lib.hid (r1j h4);generalize okP m=y at *;generalize bare m=x1 at *;generalize reply m=x2 at *;generalize okX m.sl=x3 at *;refine' qz2m;rw[h4]at c0;refine' qz2;cases x1
   · refine' qzf;refine' qzr;refine' qz92;refine' qz3j
   cases x2
   · refine' qzf;refine' qzr;refine' qz92;refine' qzs;refine' qzr;refine' qz92;refine' qz3j
   refine' qzf;refine' qzr;refine' qz92;refine' qzs;refine' qzr;refine' qz92;refine' qzcu;refine' qzr;refine' qz92;refine' qz3j
 by_cases h6:m.kind=6
 · have HY:=Lib.hid (y1k h6);generalize okP m=y at *;generalize bare m=x1 at *;generalize okX m.sl=x3 at *;clear P2 h4;refine' qz2m;rw[h6]at c0;refine' qz2;cases x1
   · refine' qzf;refine' qzr;refine' qz92;refine' qz3j
   refine' qzf;refine' qzr;refine' qz92;refine' qzcu;refine' qzr;refine' qz92;refine' qz3j
 have HY:=Lib.hid (q0l h4 h6);clear P1 P2 P3;refine' qz2m;refine' qzj;exact⟨g0a HY.out.symm,HF.out.bel⟩
end Z2
namespace Z5
open Ms Box Xv
open Xp (to8 putS t0b)
open Z1 Z2 Am Hs Hy Nu
open Oct (fitsB)
open Go.Proofs.YtllhobicfclheaaGreatDoor.Or (p0a)
theorem n0d {a b:ByteArray}(h:a=b):Ending.returned (.string a) = .returned (.string b):=by rw[h]
theorem g0f (c d e:UInt8)(w:World):(convert 96 9 (.slice (some ⟨w.heap.size,0,none⟩) 4 4)).run Tryz.prog (w.alloc (.cells #[.int .u8 2,.int .u8 (c.toNat:Int),.int .u8 (d.toNat:Int),.int .u8 (e.toNat:Int)] 5)) = .ok (.string ⟨#[2,c,d,e]⟩) (w.alloc (.cells #[.int .u8 2,.int .u8 (c.toNat:Int),.int .u8 (d.toNat:Int),.int .u8 (e.toNat:Int)] 5)):=by
 refine run_convert_bytes_back _ 96 9 5 ⟨w.heap.size,0,none⟩ 4 [2,c,d,e] Tryz.underlying96 Tryz.underlying5 Tryz.underlying9 fun j hj=>?_
 have hB:=Bk.Bk.new 5 w #[.int .u8 2,.int .u8 (c.toNat:Int),.int .u8 (d.toNat:Int),.int .u8 (e.toNat:Int)];refine' qz6p
theorem b0s (w:World):(convert 96 9 (.slice (some ⟨w.heap.size,0,none⟩) 2 2)).run Tryz.prog (w.alloc (.cells #[.int .u8 4,.int .u8 0] 5)) = .ok (.string ⟨#[4,0]⟩) (w.alloc (.cells #[.int .u8 4,.int .u8 0] 5)):=by
 refine run_convert_bytes_back _ 96 9 5 ⟨w.heap.size,0,none⟩ 2 [4,0] Tryz.underlying96 Tryz.underlying5 Tryz.underlying9 fun j hj=>?_
 have hB:=Bk.Bk.new 5 w #[.int .u8 4,.int .u8 0];rw[Sx.p0b,Nat.zero_add]
 match j,hj with
 | 0,_=>exact hB.cell 0 _ rfl
 | 1,_=>exact hB.cell 1 _ rfl
theorem t0p (m:M):(⟨#[2,UInt8.ofNat (64*m.flags.toNat),UInt8.ofNat m.plen.toNat,UInt8.ofNat m.hops.toNat]⟩:ByteArray)++m.addr++⟨(layN m.seq 4).toArray⟩++m.orig++⟨(layN m.interval 4).toArray⟩=⟨(hdR m).toArray⟩:=by
 refine k0a ?_;simp[hdR,ByteArray.data_append]
theorem z0i {n:Int}(h:0≤n):UInt8.ofNat (n*64).toNat=UInt8.ofNat (64*n.toNat):=by
 have:(n*64).toNat=64*n.toNat:=by omega
 rw[this]
theorem p0e (v:Int)(k:Nat):(⟨(layN v k).toArray⟩:ByteArray).size≤k:=by show(layN v k).toArray.size≤k;simpa using i0a v k
theorem g1a (m:M)(w:World)(hm:m.In w)(hr:reply m=true) :
    Calls Tryz.prog 285 #[.agg m.cells] w fun e w'=>e = .returned (.string ⟨(hdR m).toArray⟩)∧Below w.heap.size w w':=by
 obtain⟨hn,ha,ho⟩:=(m0l m).1 hr;obtain⟨f0,f1,p0,p1,n1,-,-⟩:=(a0d m).1 hn;obtain⟨h0,h1⟩:=s0j n1
 have v1:=to8 (m.flags*64) (by omega) (by omega)
 have v2:=to8 m.plen p0 (by omega)
 have v3:=to8 m.hops h0 (by omega)
 rw[z0i f0]at v1;refine' qz40;have HY:=Lib.hid (t0p m)
 have P1:=Lib.hid (fun V=>s0c m.seq 4 4 rfl (by omega) (by omega) V)
 have P2:=Lib.hid (fun V=>s0c m.interval 4 4 rfl (by omega) (by omega) V)
 have z1:=p0e m.seq 4;have z2:=p0e m.interval 4;generalize (⟨(layN m.seq 4).toArray⟩:ByteArray)=t1 at *;generalize (⟨(layN m.interval 4).toArray⟩:ByteArray)=t2 at *;generalize fitsB m.seq 4=x1 at *;generalize fitsB m.interval 4=x2 at *;generalize UInt8.ofNat (64*m.flags.toNat)=cf at *;generalize UInt8.ofNat m.plen.toNat=cp at *;generalize UInt8.ofNat m.hops.toNat=ch at *;generalize (⟨(hdR m).toArray⟩:ByteArray)=R at *;clear hn n1 hm hr;refine' qz2f;have c15:=HF.out.m.cs.c15;have c7:=HF.out.m.cs.c7;have c16:=HF.out.m.cs.c16;have cv:=g0f cf cp ch V;refine' qzb7;have HF:=Lib.hid (HF.out.call (balloc (Below.refl _ V) (.cells #[.int .u8 2,.int .u8 (cf.toNat:Int),.int .u8 (cp.toNat:Int),.int .u8 (ch.toNat:Int)] 5)));clear cv c15 c7 c16 v1 v2 v3 h0 h1 f0 f1 p0 p1;change Code.wp _ _ _ _ (V.alloc (.cells #[.int .u8 2,.int .u8 (cf.toNat:Int),.int .u8 (cp.toNat:Int),.int .u8 (ch.toNat:Int)] 5));generalize V.alloc (.cells #[.int .u8 2,.int .u8 (cf.toNat:Int),.int .u8 (cp.toNat:Int),.int .u8 (ch.toNat:Int)] 5)=V1 at *;have z0:(⟨#[2,cf,cp,ch]⟩:ByteArray).size=4:=rfl;generalize (⟨#[2,cf,cp,ch]⟩:ByteArray)=t0 at *;have c:=HF.out.m.cs.c12;refine' qzh;rintro e W1 ⟨rfl,hb⟩;refine' qzq;clear hb c P1;have c:=HF.out.m.cs.c14;refine' qzt;rintro e W2 ⟨rfl,hb⟩;refine' qzq;clear hb c P2;refine' qz3h;refine' qzj;exact⟨n0d HY.out,HF.out.bel⟩
theorem t1e (m:M)(w:World)(hm:m.In w)(hok:okP m=true) :
    Calls Tryz.prog 239 #[.agg m.cells] w fun e w'=>e = .returned (.string ⟨(hd m).toArray⟩)∧Below w.heap.size w w':=by
 obtain⟨-,-,hk⟩:=(x0a m).1 hok;refine' qz40;clear hm hok
 rcases hk with h6|⟨h4,hr⟩
 · have HY:=Lib.hid (show(⟨#[4,0]⟩:ByteArray)=⟨(hd m).toArray⟩ by rw[s0q h6])
   generalize (⟨(hd m).toArray⟩:ByteArray)=R at *;refine' qz2m;rw[h6]at c0;have cv:=b0s V;refine' qzj;exact⟨n0d HY.out,HF.out.bel.trans ((balloc (Below.refl _ V) (.cells #[.int .u8 4,.int .u8 0] 5)).mono HF.out.bel.size)⟩
 have P:=Lib.hid (fun V (h:m.In V)=>g1a m V h hr)
 rw[←o0r h4]at P;generalize (⟨(hd m).toArray⟩:ByteArray)=R at *;clear hr;refine' qz2m;rw[h4]at c0;refine' qz1p;refine(P.out _ HF.out.i).mono ?_;refine' qz77;clear hb P c0;refine' qzj;exact⟨rfl,HF.out.bel⟩
theorem c0b (m:M)(w:World)(hm:m.In w)(ln:m.sl.length≤2000)(lb:∀ x∈m.sl,x.1.size≤1099511627776) :
    Calls Tryz.prog 177 #[.agg m.cells] w fun e w'=>e = .returned (.tuple #[.string (putP m),.bool (okP m)])∧Below w.heap.size w w':=by
 refine' qz40;refine' qz8h;by_cases hok:okP m=true;rotate_left
 · have hok:okP m=false:=by simpa using hok
   have HP:=Lib.hid (j1n hok);have HK:=Lib.hid hok;rw[hok]at P1;clear hok lb P2 hm;refine' qz2f;refine' qz39;refine' qz77;clear hb;refine' qz2w;exact⟨t0b HP.out.symm HK.out.symm,HF.out.bel⟩
 have hx:=((x0a m).1 hok).subs
 have P3:=Lib.hid (fun V (h:m.In V)=>t1e m V h hok)
 have HP:=Lib.hid (y0i hok);have HK:=Lib.hid hok
 have HE:Hid ((⟨(hd m).toArray⟩:ByteArray)++putS m.sl=⟨(encP m).toArray⟩):=Lib.hid (by
  rw[Xp.q0d hx];refine k0a ?_
  simp[encP,ByteArray.data_append])
 have z1:(⟨(hd m).toArray⟩:ByteArray).size≤1000:=Nat.le_trans (o0k hok) (by decide)
 have z2:(putS m.sl).size≤514000:=by
  rw[Xp.q0d hx]
  show(encX m.sl).length≤_
  rw[b0g];have:=z0g hx;omega
 rw[hok]at P1;rw[hx]at P2;generalize (⟨(hd m).toArray⟩:ByteArray)=t1 at *;generalize putS m.sl=t2 at *;clear hok lb hx hm;refine' qz2f;refine' qz39;refine' qz77;clear hb P1;refine' qz2;refine' qzg;refine' qzcz;rintro e V2 ⟨rfl,hb⟩;refine' qzq;clear hb P2 c24;refine' qz1p;refine' qzcu;rintro e V3 ⟨rfl,hb⟩;refine' qzq;clear hb P3;refine' qz2w;exact⟨t0b (HE.out.trans HP.out.symm) HK.out.symm,HF.out.bel⟩
end Z5
namespace Z6
open Ms Box Xv Z1 Am Hs
open Go.Proofs.YtllhobicfclheaaGreatDoor.Or (p0a)
open Hx (r0c)
open Own (k4 k6 ownM)
theorem u1b {m:M}(h:m.kind=4):okP m=(M.same m { k4 m with kind:=4}&&(reply m&&okX m.sl)):=by
 rw[Z2.r1j h];unfold bare;rw[(l0l h).1,(l0l h).2];rfl
theorem x1a {m:M}(h:m.kind=6):okP m=(M.same m { k6 m with kind:=6}&&okX m.sl):=by
 rw[Z2.y1k h];unfold bare;rw[(j0l h).1,(j0l h).2];rfl
theorem k0k {n m:M}(h:Pl n m):okP n=okP m:=by
 have hk:n.kind=m.kind:=by rw[show n=_ from h]
 by_cases h4:m.kind=4
 · rw[u1b h4,u1b (hk.trans h4),show n=_ from h]
   rfl
 by_cases h6:m.kind=6
 · rw[x1a h6,x1a (hk.trans h6),show n=_ from h]
   rfl
 rw[Z2.q0l h4 h6,Z2.q0l (by omega) (by omega)]
theorem r0q {n m:M}(h:Pl n m):encP n=encP m:=by
 rw[show n=_ from h]
 rfl
theorem q0p {n m:M}(h:Pl n m):putP n=putP m:=by
 unfold putP;rw[k0k h,r0q h]
theorem s0r {s:ByteArray}(n:Nat):(outX (s.extract n s.size)).1.length≤s.size:=by
 have:=k0g (s.extract n s.size)
 have h2:(s.extract n s.size).size≤s.size:=by simp
 omega
theorem p0i (s:ByteArray):(outP s).1.ll = []∧(outP s).1.sl.length≤s.size:=by
 rcases head_cases s with⟨i,e,h,he,_,_⟩|⟨r,n,h,_,_,_,_,hr,_⟩
 · rw[w0d h he];exact⟨rfl,Nat.zero_le _⟩
 have hl:=s0r (s:=s) n;refine' qzd7;rw[hX]at hl;by_cases hx:x=0
 · subst hx;rw[Z1.u0a h hX];exact⟨hr,hl⟩
 · rw[r0f h hX hx];exact⟨rfl,Nat.zero_le _⟩
theorem d0o {m:M}(h:okP m=true):({ ownM m with sa:=none,sc:=0}:M).ll = []∧({ ownM m with sa:=none,sc:=0}:M).sl=m.sl∧M.same m { ownM m with sa:=none,sc:=0}=true:=by
 obtain⟨hb,_,hk⟩:=(x0a m).1 h
 have hs:M.same m (ownM m)=true:=by
  unfold bare at hb;rw[Bool.and_eq_true]at hb;exact hb.2
 rcases hk with hk|⟨hk,_⟩
 · rw[(j0l hk).2]at hs⊢;exact⟨rfl,rfl,hs⟩
 · rw[(l0l hk).2]at hs⊢;exact⟨rfl,rfl,hs⟩
theorem first_of {m:M}(h:okP m=true):bt (putP m) 0=2∨bt (putP m) 0=4:=by
 obtain⟨_,_,hk⟩:=(x0a m).1 h;rw[y0i h];unfold bt
 show(((encP m).getD 0 0).toNat:Int)=2∨(((encP m).getD 0 0).toNat:Int)=4
 unfold encP
 rcases hk with hk|⟨hk,_⟩
 · right;rw[s0q hk];rfl
 · left;rw[o0r hk];rfl
theorem q0f {m:M}(h:okP m=true):outP (putP m)=({ ownM m with sa:=none,sc:=0},0,0):=by
 rw[y0i h];exact k0c m h
theorem i0l {s:ByteArray}(h:(outP s).2.2=0)(h0:bt s 0=2∨bt s 0=4):okP (outP s).1=true∧putP (outP s).1=s∧(outP s).2.1=0:=by
 rcases Z1.out_cases s with⟨h1,_⟩|⟨h1,_,h2⟩
 · exact absurd h h1
 · obtain⟨h3,h4⟩:=h2 h0;refine⟨h3,?_,h1⟩;rw[y0i h3]
   exact Nu.k0a (by rw[←h4])
end Z6
namespace Y1
open Ms Cnt Xv
open Cur (numL)
open Oct (fitsB)
open Nu
open Own (k5 isKind ownM fieldsOf)
def ok1D (x:El):Bool:=decide (x.1.size=4)&&fitsB x.2 4
def okD (l:List El):Bool:=l.all ok1D
def j0k (x:El):List UInt8:=x.1.data.toList++layN x.2 4
def encD (l:List El):List UInt8:=l.flatMap j0k
theorem q0r (x:El)(l:List El):okD (x::l)=true↔ok1D x=true∧okD l=true:=by simp[okD]
theorem w0t {l:List El}(h:okD l=true):∀ x∈l,ok1D x=true:=by
 unfold okD at h;rw[List.all_eq_true]at h;exact h
theorem k1k (l:List El)(k:Nat)(h:k<l.length):okD (l.take (k+1))=(okD (l.take k)&&ok1D l[k]):=by
 unfold okD;rw[List.take_succ_eq_append_getElem h,List.all_append];simp
theorem g1l (l:List El)(k:Nat)(h:k<l.length)(hn:ok1D l[k]=false):okD l=false:=by
 rw[Bool.eq_false_iff];intro hc;rw[w0t hc _ (List.getElem_mem h)]at hn;cases hn
theorem e0o (x:El)(l:List El):encD (x::l)=j0k x++encD l:=by simp[encD]
theorem x0x (a b:List El):encD (a++b)=encD a++encD b:=by simp[encD]
theorem m1d (l:List El)(k:Nat)(h:k<l.length):encD (l.take (k+1))=encD (l.take k)++j0k l[k]:=by
 rw[List.take_succ_eq_append_getElem h,x0x];simp[encD]
theorem c0a (a:ByteArray):a.data.toList.length=a.size:=by simp
theorem a0o {x:El}(h:ok1D x=true):x.1.size=4∧fitsB x.2 4=true:=by
 unfold ok1D at h;simpa using h
theorem s0s {x:El}(h:ok1D x=true):(j0k x).length=8:=by
 obtain⟨h1,h2⟩:=a0o h;unfold j0k;rw[List.length_append,c0a,h1,s0a h2]
theorem t0j {l:List El}(h:okD l=true):(encD l).length=8*l.length:=by
 induction l with
 | nil=>rfl
 | cons x l ih=>
  rw[q0r]at h;rw[e0o,List.length_append,s0s h.1,ih h.2,List.length_cons];omega
def one (l:List UInt8):El:=(⟨(l.take 4).toArray⟩,((numL ((l.drop 4).take 4):Nat):Int))
def dests:Nat→List UInt8→List El
  | 0,_=>[]
  | n+1,l=>one l::dests n (l.drop 8)
theorem z0e:∀ (n:Nat) (l:List UInt8),(dests n l).length=n
  | 0,_=>rfl
  | n+1,l=>by unfold dests;rw[List.length_cons,z0e n]
theorem c0s:∀ (n:Nat) (l:List UInt8),dests (n+1) l=dests n l ++ [one (l.drop (8*n))]
  | 0,l=>by unfold dests;rfl
  | n+1,l=>by
    show one l::dests (n+1) (l.drop 8)=one l::dests n (l.drop 8) ++ [one (l.drop (8*(n+1)))]
    rw[c0s n,List.drop_drop,show 8+8*n=8*(n+1) by omega]
    rfl
theorem d1n {x:El}(h:ok1D x=true)(r:List UInt8):one (j0k x++r)=x:=by
 obtain⟨⟨d⟩,n⟩:=x;obtain⟨h1,h2⟩:=a0o h
 have hd:d.toList.length=4:=by
  have:(⟨d⟩:ByteArray).data.toList.length=4:=by rw[c0a];exact h1
  exact this
 have hn:=s0a h2;unfold one j0k;simp only[];rw[List.append_assoc,List.take_left' hd,List.drop_left' hd,List.take_left' hn,c0f h2]
theorem h1j {x:El}(h:ok1D x=true)(r:List UInt8):(j0k x++r).drop 8=r:=List.drop_left' (s0s h)
theorem c0t:∀ (l:List El) (r:List UInt8),okD l=true→dests l.length (encD l++r)=l
  | [],_,_=>rfl
  | x::l,r,h=>by
    rw[q0r]at h
    rw[e0o,List.append_assoc,List.length_cons]
    unfold dests
    rw[d1n h.1,h1j h.1,c0t l r h.2]
theorem k1p (l:List UInt8)(h:8≤l.length):ok1D (one l)=true∧j0k (one l)=l.take 8:=by
 have h4:((l.drop 4).take 4).length=4:=by simp;omega
 refine⟨?_,?_⟩
 · unfold ok1D one
   have hn:fitsB ((numL ((l.drop 4).take 4):Nat):Int) 4=true:=v0f _ 4 h4 (by omega) (by omega)
   have hs:(⟨(l.take 4).toArray⟩:ByteArray).size=4:=by
    show(l.take 4).toArray.size=4
    simp;omega
   simp only[hs,hn];rfl
 · unfold j0k one;simp only[]
   rw[x0k _ 4 h4 (by omega) (by omega)]
   show l.take 4++(l.drop 4).take 4=l.take 8
   rw[←List.take_add]
theorem p0x:∀ (n:Nat) (l:List UInt8),8*n≤l.length→okD (dests n l)=true∧encD (dests n l)=l.take (8*n)
  | 0,l,_=>⟨rfl,rfl⟩
  | n+1,l,h=>by
    obtain⟨h1,h2⟩:=k1p l (by omega)
    obtain⟨h3,h4⟩:=p0x n (l.drop 8) (by simp;omega)
    unfold dests
    refine⟨(q0r _ _).2 ⟨h1,h3⟩,?_⟩
    rw[e0o,h2,h4,show 8*(n+1)=8+8*n by omega,List.take_add]
theorem q0z (n:Nat)(l r:List UInt8)(h:8*n≤l.length):dests n (l++r)=dests n l:=by
 induction n generalizing l with
 | zero=>rfl
 | succ n ih=>
  unfold dests
  rw[List.drop_append_of_le_length (by omega),ih _ (by simp;omega)]
  unfold one
  rw[List.take_append_of_le_length (by omega),List.drop_append_of_le_length (by omega),List.take_append_of_le_length (by simp;omega)]
def bare (m:M):Bool:=isKind m&&M.same m (ownM m)
def nums (m:M):Bool:=decide (0≤m.flags∧m.flags≤1)&&decide (1≤m.ll.length∧m.ll.length≤255)
def okE (m:M):Bool:=decide (m.kind=5)&&(bare m&&(nums m&&(okD m.ll&&okX m.sl)))
def hd (m:M):List UInt8:=3::UInt8.ofNat (128*m.flags.toNat)::0::UInt8.ofNat m.ll.length::encD m.ll
def encE (m:M):List UInt8:=hd m++encX m.sl
def putE (m:M):ByteArray:=if okE m then⟨(encE m).toArray⟩else⟨#[]⟩
theorem x0i {m:M}(h:okE m=true):putE m=⟨(encE m).toArray⟩:=by unfold putE;rw[if_pos h]
theorem w1a {m:M}(h:okE m=false):putE m=⟨#[]⟩:=by unfold putE;rw[if_neg (by rw[h];exact Bool.false_ne_true)]
def cnt (s:ByteArray):Nat:=(s.data.toList.getD 3 0).toNat
theorem a1l (s:ByteArray):bt s 3=(cnt s:Int):=rfl
theorem x0u (s:ByteArray):cnt s<256:=UInt8.toNat_lt _
def hdM (s:ByteArray):M:={ M.zero with kind:=5,flags:=bt s 1 / 128,ll:=dests (cnt s) (s.data.toList.drop 4)}
def bad (s:ByteArray):Prop:=bt s 1%128≠0∨bt s 2≠0
instance (s:ByteArray):Decidable (bad s):=by unfold bad;exact inferInstance
def headE (s:ByteArray):M×Int×Int:=
  if s.size<4 then(M.zero,(s.size:Int),2)else if bad s then(M.zero,1,5)else if cnt s=0 then(M.zero,3,8)
  else if s.size<4+8*cnt s then(M.zero,(s.size:Int),2)else(hdM s,((4+8*cnt s:Nat):Int),0)
theorem m0j {s:ByteArray}(h:s.size<4):headE s=(M.zero,(s.size:Int),2):=by unfold headE;rw[if_pos h]
theorem z0n {s:ByteArray}(h:¬s.size<4)(k:bad s):headE s=(M.zero,1,5):=by unfold headE;rw[if_neg h,if_pos k]
theorem l0t {s:ByteArray}(h:¬s.size<4)(k:¬bad s)(c:cnt s=0):headE s=(M.zero,3,8):=by unfold headE;rw[if_neg h,if_neg k,if_pos c]
theorem l0m {s:ByteArray}(h:¬s.size<4)(k:¬bad s)(c:¬cnt s=0)(d:s.size<4+8*cnt s):headE s=(M.zero,(s.size:Int),2):=by unfold headE;rw[if_neg h,if_neg k,if_neg c,if_pos d]
theorem v0i {s:ByteArray}(h:¬s.size<4)(k:¬bad s)(c:¬cnt s=0)(d:¬s.size<4+8*cnt s):headE s=(hdM s,((4+8*cnt s:Nat):Int),0):=by unfold headE;rw[if_neg h,if_neg k,if_neg c,if_neg d]
def outE (s:ByteArray):M×Int×Int:=
  if(headE s).2.2≠0 then(M.zero,(headE s).2.1,(headE s).2.2)
  else if(outX (s.extract (headE s).2.1.toNat s.size)).2.2=0 then({ (headE s).1 with sl:=(outX (s.extract (headE s).2.1.toNat s.size)).1},0,0)
  else(M.zero,(headE s).2.1+(outX (s.extract (headE s).2.1.toNat s.size)).2.1,(outX (s.extract (headE s).2.1.toNat s.size)).2.2)
theorem w0d {s:ByteArray}{m:M}{i e:Int}(h:headE s=(m,i,e))(he:e≠0):outE s=(M.zero,i,e):=by unfold outE;rw[h,if_pos he]
theorem r0f {s:ByteArray}{r:M}{n:Nat}{l:List El}{i e:Int}(h:headE s=(r,(n:Int),0))(o:outX (s.extract n s.size)=(l,i,e))(he:e≠0):outE s=(M.zero,n+i,e):=by
 unfold outE;rw[h];simp only[Int.toNat_natCast];rw[o,if_neg (by decide),if_neg he]
theorem u0a {s:ByteArray}{r:M}{n:Nat}{l:List El}{i:Int}(h:headE s=(r,(n:Int),0))(o:outX (s.extract n s.size)=(l,i,0)):outE s=({ r with sl:=l},0,0):=by
 unfold outE;rw[h];simp only[Int.toNat_natCast];rw[o,if_neg (by decide),if_pos rfl]
theorem z1q (l:List UInt8)(h:4≤l.length):l=l.getD 0 0::l.getD 1 0::l.getD 2 0::l.getD 3 0::l.drop 4:=by
 refine' qzde
structure Nums (m:M):Prop where
  f0:0≤m.flags
  f1:m.flags≤1
  n0:1≤m.ll.length
  n1:m.ll.length≤255
structure Ok (m:M):Prop where
  kind:m.kind=5
  bare:bare m=true
  nums:nums m=true
  dests:okD m.ll=true
  subs:okX m.sl=true
theorem x0a (m:M):okE m=true↔Ok m:=by
 unfold okE;refine' qzd3
 exact⟨fun⟨a,b,c,d,e⟩=>⟨a,b,c,d,e⟩,fun⟨a,b,c,d,e⟩=>⟨a,b,c,d,e⟩⟩
theorem a0d (m:M):nums m=true↔Nums m:=by
 unfold nums;refine' qzd3
 exact⟨fun⟨⟨a,b⟩,⟨c,d⟩⟩=>⟨a,b,c,d⟩,fun⟨a,b,c,d⟩=>⟨⟨a,b⟩,⟨c,d⟩⟩⟩
theorem v0m {n:Nat}(h:n<256):(UInt8.ofNat n).toNat=n:=by rw[UInt8.toNat_ofNat'];omega
theorem e0l {m:M}(h:m.kind=5):isKind m=true∧ownM m={ k5 m with kind:=5}:=by
 refine' qzp
theorem k0c (m:M)(h:okE m=true):outE ⟨(encE m).toArray⟩=({ ownM m with la:=none,lc:=0,sa:=none,sc:=0},0,0):=by
 obtain⟨hk,_,hn,hd',hx⟩:=(x0a m).1 h;obtain⟨f0,f1,n0,n1⟩:=(a0d m).1 hn
 have hl:(⟨(encE m).toArray⟩:ByteArray).data.toList=3::UInt8.ofNat (128*m.flags.toNat)::0::UInt8.ofNat m.ll.length::(encD m.ll++encX m.sl):=by
  simp[encE,hd]
 have hz:(⟨(encE m).toArray⟩:ByteArray).size=4+8*m.ll.length+(encX m.sl).length:=by
  rw[←c0a,hl];simp only[List.length_cons,List.length_append,t0j hd'];omega
 generalize (⟨(encE m).toArray⟩:ByteArray)=s at *
 have b1:bt s 1=128*m.flags:=by
  unfold bt;rw[hl]
  show((UInt8.ofNat (128*m.flags.toNat)).toNat:Int)=_
  refine' qz9s
 have b2:bt s 2=0:=by unfold bt;rw[hl];rfl
 have b3:cnt s=m.ll.length:=by
  unfold cnt;rw[hl]
  show(UInt8.ofNat m.ll.length).toNat=_
  exact v0m (by omega)
 have e4:s.data.toList.drop 4=encD m.ll++encX m.sl:=by rw[hl];rfl
 have t:(s.extract (4+8*cnt s) s.size).data.toList=encX m.sl:=by
  rw[n0a,b3,←List.drop_drop,e4,List.drop_left' (t0j hd'),List.take_of_length_le];omega
 rw[u0a (v0i (by omega) (by unfold bad;omega) (by omega) (by omega)) (Xv.u0a hx t),(e0l hk).2]
 have e:hdM s={ k5 m with kind:=5,la:=none,lc:=0,sa:=none,sl:=[],sc:=0}:=by
  unfold hdM k5
  rw[b1,b3,e4,c0t _ _ hd',show 128*m.flags / 128=m.flags by omega]
  rfl
 rw[e];rfl
theorem l1j (s:ByteArray)(l:List El)(h0:bt s 0=3)(h:¬s.size<4)(k:¬bad s)(c:¬cnt s=0)(d:¬s.size<4+8*cnt s)(hx:okX l=true)(o:(s.extract (4+8*cnt s) s.size).data.toList=encX l) :
    okE { hdM s with sl:=l}=true∧encE { hdM s with sl:=l}=s.data.toList:=by
 have hz:4≤s.data.toList.length:=by rw[c0a];omega
 have hl:=z1q _ hz
 have hd4:8*cnt s≤(s.data.toList.drop 4).length:=by rw[List.length_drop,c0a];omega
 obtain⟨o1,o2⟩:=p0x (cnt s) _ hd4
 have e4:s.data.toList.drop 4=encD (dests (cnt s) (s.data.toList.drop 4))++encX l:=by
  rw[o2,←o,n0a,List.take_of_length_le (i:=s.size - (4+8*cnt s)) (by rw[List.length_drop,c0a];omega),←List.drop_drop,List.take_append_drop]
 unfold bad at k
 have k1:bt s 1%128=0:=by omega
 have k2:bt s 2=0:=by omega
 have p1:=d0b s 1;have p2:=o0b s 1;have p3:=x0u s;refine⟨(x0a _).2 ⟨rfl,?_,(a0d _).2 ⟨?_,?_,?_,?_⟩,o1,hx⟩,?_⟩
 · unfold bare;rw[(e0l rfl).1,(e0l rfl).2];unfold M.same M.flatE k5 hdM M.zero;simp
 · show 0≤bt s 1 / 128;omega
 · show bt s 1 / 128≤1;omega
 · show 1≤(dests (cnt s) (s.data.toList.drop 4)).length;rw[z0e];omega
 · show(dests (cnt s) (s.data.toList.drop 4)).length≤255;rw[z0e];omega
 · unfold encE hd
   show(3::UInt8.ofNat (128*(bt s 1 / 128).toNat)::0::UInt8.ofNat (dests (cnt s) (s.data.toList.drop 4)).length::encD (dests (cnt s) (s.data.toList.drop 4)))++encX l=_
   rw[z0e]
   have c0:(3:UInt8)=s.data.toList.getD 0 0:=by
    refine' qz9t;have:((s.data.toList.getD 0 0).toNat:Int)=3:=h0
    show 3=_
    omega
   have c1:UInt8.ofNat (128*(bt s 1 / 128).toNat)=s.data.toList.getD 1 0:=by
    refine' qz9t;have:((s.data.toList.getD 1 0).toNat:Int)=bt s 1:=rfl;refine' qz9s
   have c2:(0:UInt8)=s.data.toList.getD 2 0:=by
    refine' qz9t;have:((s.data.toList.getD 2 0).toNat:Int)=0:=k2
    show 0=_
    omega
   have c3:UInt8.ofNat (cnt s)=s.data.toList.getD 3 0:=by
    refine' qz9t
    rw[v0m (by omega)]
    rfl
   conv=>rhs;rw[hl,←c0,←c1,←c2,←c3,e4]
   simp only[List.cons_append]
theorem head_cases (s:ByteArray):(∃ i e,headE s=(M.zero,i,e)∧e≠0∧0≤i∧i≤s.size)∨
    ∃ r,∃ n:Nat,headE s=(r,(n:Int),0)∧n≤2044∧n≤s.size∧r=hdM s∧n=4+8*cnt s∧¬s.size<4∧¬bad s∧¬cnt s=0∧
      (bt s 0=3→∀ l,okX l=true→(s.extract n s.size).data.toList=encX l→okE { r with sl:=l}=true∧encE { r with sl:=l}=s.data.toList):=by
 by_cases h:s.size<4
 · exact .inl ⟨_,_,m0j h,by decide,by omega,by omega⟩
 by_cases k:bad s
 · exact .inl ⟨_,_,z0n h k,by decide,by decide,by omega⟩
 by_cases c:cnt s=0
 · exact .inl ⟨_,_,l0t h k c,by decide,by decide,by omega⟩
 by_cases d:s.size<4+8*cnt s
 · exact .inl ⟨_,_,l0m h k c d,by decide,by omega,by omega⟩
 have:=x0u s
 exact .inr ⟨hdM s,4+8*cnt s,v0i h k c d,by omega,by omega,rfl,rfl,h,k,c,fun h0 l hx o=>l1j s l h0 h k c d hx o⟩
theorem out_cases (s:ByteArray):(outE s).2.2≠0∧(outE s).1=M.zero∧0≤(outE s).2.1∧(outE s).2.1≤s.size∨
    ((outE s).2.1=0∧(outE s).2.2=0∧(bt s 0=3→okE (outE s).1=true∧encE (outE s).1=s.data.toList)):=by
 rcases head_cases s with⟨i,e,h,he,h0,h1⟩|⟨r,n,h,_,hn,_,_,_,_,_,hb⟩
 · left;rw[w0d h he];exact⟨he,rfl,h0,h1⟩
 refine' qzdk
theorem o0k {m:M}(h:okE m=true):(hd m).length=4+8*m.ll.length:=by
 obtain⟨_,_,_,h4,_⟩:=(x0a m).1 h;unfold hd;simp only[List.length_cons,t0j h4];omega
theorem f1k {m:M}(h:okE m=true):(putE m).size=4+8*m.ll.length+bytesN m.sl:=by
 rw[x0i h]
 show(encE m).length=_
 unfold encE;rw[List.length_append,b0g,o0k h]
end Y1
end Go.Proofs.YtllhobicfclheaaGreatDoor
