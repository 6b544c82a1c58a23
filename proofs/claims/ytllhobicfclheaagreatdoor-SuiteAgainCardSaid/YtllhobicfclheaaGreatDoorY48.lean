/-
  A part of a proof. No conditions.
-/
import Derived.Test.YtllhobicfclheaaGreatDoorY45
import Derived.Test.YtllhobicfclheaaGreatDoorY47
namespace Go.Proofs.YtllhobicfclheaaGreatDoor
open Go.ChangeShapes Go.WideShapes Go.ChangeAt Go.RowKit
set_option linter.unusedVariables false
set_option maxRecDepth 100000
set_option maxHeartbeats 51200000
namespace I8
open Ms Box An K1 Kb I1 Lm Fq Tc
open G1 (outF)
open J1 (outJ)
open Tl (cellsT TRow indexT)
open Own (loadVarM)
open Hs
open Hy (H.one d1d)
open Hx (r0c)
open Bk (Bk d0a o0a loadVarK b0a q0a)
open F1 (outT outB trail head)
open F2 (x0d BodyIs l0k r0o)
open F4 (AnsT r0i)
open K6 (infoX)
theorem AnsB.parts {p:M×Bool×Int}{w:World}{e:Ending}{w':World}(h:AnsB p w e w'):∃ n:M,e = .returned (.tuple #[.agg n.cells,.bool p.2.1,.int .i64 p.2.2])∧Pl n p.1∧Sx.Lst w.heap.size w' (.slice n.sa n.sl.length n.sc) n.sl∧Below w.heap.size w w':=by
 obtain⟨sa,sc,h1,h3,h4⟩:=h;exact⟨_,h1,rfl,h3,h4⟩
structure St (w:World)(c:Kx)(x:F1.T)(W:World):Prop where
  s0:Bk 74 W w.heap.size c.cells
  t0:Bk 110 W (w.heap.size+1) (cellsT x)
  r0:Bk 74 W (w.heap.size+1+1) Kx.zero.cells
  bel:Below w.heap.size w W
theorem St.call {w V W:World}{c:Kx}{x:F1.T}(h:St w c x V)(hb:Below V.heap.size V W):St w c x W:=⟨h.s0.below hb,h.t0.below hb,h.r0.below hb,bcall h.bel hb⟩
theorem St.start (w:World)(c:Kx)(x:F1.T):St w c x (((w.alloc (.cells c.cells 74)).alloc (.cells (cellsT x) 110)).alloc (.cells Kx.zero.cells 74)):=by
 refine⟨((Bk.Bk.new 74 w c.cells).old _).old _,?_,?_,balloc (balloc (balloc (Below.refl _ w) _) _) _⟩
 · have:=Bk.Bk.new 110 (w.alloc (.cells c.cells 74)) (cellsT x);rw[b0a]at this;exact this.old _
 · have:=Bk.Bk.new 74 ((w.alloc (.cells c.cells 74)).alloc (.cells (cellsT x) 110)) Kx.zero.cells;rw[b0a,b0a]at this;exact this
theorem AnsC.on {p:Kx×List M×Int}{w W w1:World}{a:Option Addr}{k:Nat}{l:List M}{g:Nat}(hp:PlL l p.2.1)(hm:MOwn W.heap.size w1 a l)(hb:Below w.heap.size w w1)(hg:w.heap.size≤g)(hz:g<W.heap.size):AnsC p w (.returned (.tuple #[.agg p.1.cells,.slice a l.length k,.int .i64 p.2.2])) (w1.setRow g p.1.cells):=
  ⟨a,k,l,rfl,hp,(hm.under hz _).mono (by omega),Box.below_setRow hb hg _⟩
theorem AnsC.told {c:Kx}{p:M×Bool×Int}{n:M}{w w':World}{a:Option Addr}{k B:Nat}{l:List M}(hn:Pl n p.1)(hc:p.2.1=true→p.2.2=0)(hl:l=if p.2.1=true then [n]else [])(hm:MOwn B w' a l)(hB:w.heap.size≤B)(hb:Below w.heap.size w w') :
    AnsC (tell c p) w (.returned (.tuple #[.agg c.cells,.slice a l.length k,.int .i64 p.2.2])) w':=by
 refine⟨a,k,l,rfl,?_,hm.mono hB,hb⟩;subst hl;unfold tell;by_cases h:p.2.1=true
 · rw[if_pos h,if_pos ⟨hc h,h⟩];exact PlL.one hn
 · rw[if_neg h,if_neg (fun k=>h k.2)];exact PlL.nil
theorem t0w {B:Nat}(n:M)(b:Bool)(w:World)(hll:n.ll = [])(hl:Sx.Lst B w (.slice n.sa n.sl.length n.sc) n.sl)(hB:B≤w.heap.size) :
    Calls Tryz.prog 251 #[.agg n.cells,.bool b] w fun e w'=>∃ a k l,e = .returned (.slice a l.length k)∧l=(if b=true then [n]else [])∧MOwn B w' a l∧Below w.heap.size w w':=by
 have X0:=Lib.hid (Bx.new w n);have bel:=balloc (Below.refl _ w) (.cells n.cells 29);have HL:=Lib.hid (hl.below bel);have HB:=Lib.hid bel
 have hB2:B≤(w.alloc (.cells n.cells 29)).heap.size:=by rw[b0a];omega
 clear hl bel
 cases b with
 | false=>
  refine' qzi;change Code.wp _ _ _ _ (w.alloc (.cells n.cells 29));generalize w.alloc (.cells n.cells 29)=V at *;refine' qzj;exact⟨none,0,[],rfl,rfl,MOwn.nil _ _ _,HB.out⟩
 | true=>
  refine' qzi;change Code.wp _ _ _ _ (w.alloc (.cells n.cells 29));have HM:=Lib.hid (a0p hll HL.out hB2);have HB2:=Lib.hid (bcall HB.out (balloc (Below.refl _ _) (.cells n.cells 29)));generalize w.alloc (.cells n.cells 29)=V at *
  go_wp2_with (first|(refine j0a (b:=w.heap.size) (m:=n) rfl _ rfl rfl X0.out ?_)|(refine Ap.j0c (m:=n) rfl _ rfl rfl ?_))
  go_ret;exact⟨some ⟨V.heap.size,0,none⟩,1,[n],rfl,rfl,HM.out,HB2.out⟩
theorem c1a (a t:Int)(d:ByteArray)(w:World):Calls Tryz.prog 254 #[.agg (cellsT (a,(d,t)))] w fun e w'=>e = .returned (.agg (M.cells (opM t d)))∧Below w.heap.size w w':=by
 have T0:=Lib.hid ((Bk.Bk.new 110 w (cellsT (a,(d,t)))).old (.cells M.zero.cells 29));have X0:=Bx.new (w.alloc (.cells (cellsT (a,(d,t))) 110)) M.zero;rw[b0a]at X0;have X0:=Lib.hid X0;have HB:=Lib.hid (balloc (balloc (Below.refl _ w) (.cells (cellsT (a,(d,t))) 110)) (.cells M.zero.cells 29));refine' qzi;change Code.wp _ _ _ _ ((w.alloc (.cells (cellsT (a,(d,t))) 110)).alloc (.cells M.zero.cells 29));generalize (w.alloc (.cells (cellsT (a,(d,t))) 110)).alloc (.cells M.zero.cells 29)=V at *;have ct:=T0.out.cell 0 (.int .i64 t) rfl;have cd:=T0.out.cell 2 (.string d) rfl
 go_wp2_with (first|(refine d0a rfl 29 _ rfl (M.cells (opM t d)) (by kernel_rfl) ?_)|(refine e0a (b:=w.heap.size+1) (m:=M.zero) (m':=opM t d) rfl _ _ rfl rfl rfl X0.out ?_))
 exact bodyPost_ret (v := .agg (M.cells (opM t d))) (q0a rfl _ _ (w.heap.size+1) _ rfl J4.shM X0.out.put rfl) rfl ⟨rfl,Box.below_setRow HB.out (by omega) _⟩
theorem h1h (c:Kx)(a t:Int)(d:ByteArray)(w:World)(h:t=0∨t=1)(ht:Tab w):Calls Tryz.prog 189 #[.agg c.cells,.agg (cellsT (a,(d,t)))] w (AnsC (one c t d) w):=by
 have HY:=Lib.hid (v0t h c d)
 rcases h with rfl|rfl
 · refine' qz6v;refine' qzi;change Code.wp _ _ _ _ (((w.alloc (.cells c.cells 74)).alloc (.cells (cellsT (a,(d,0))) 110)).alloc (.cells Kx.zero.cells 74));have D:=Lib.hid (St.start w c (a,(d,0)));generalize ((w.alloc (.cells c.cells 74)).alloc (.cells (cellsT (a,(d,0))) 110)).alloc (.cells Kx.zero.cells 74)=V at *;have ct:=D.out.t0.cell 0 (.int .i64 0) rfl;have hlt:=D.out.r0.lt;refine' qz4g
 · refine' qz6v;refine' qzi;change Code.wp _ _ _ _ (((w.alloc (.cells c.cells 74)).alloc (.cells (cellsT (a,(d,1))) 110)).alloc (.cells Kx.zero.cells 74));have D:=Lib.hid (St.start w c (a,(d,1)));generalize ((w.alloc (.cells c.cells 74)).alloc (.cells (cellsT (a,(d,1))) 110)).alloc (.cells Kx.zero.cells 74)=V at *;have ct:=D.out.t0.cell 0 (.int .i64 1) rfl;have hlt:=D.out.r0.lt;refine' qz4g
theorem i1a (c:Kx)(a t:Int)(d:ByteArray)(w:World)(hc:okC c=true)(hs:d.size≤100000)(h:t=6∨t=7∨t=8)(ht:Tab w):Calls Tryz.prog 189 #[.agg c.cells,.agg (cellsT (a,(d,t)))] w (AnsC (one c t d) w):=by
 have P1:=Lib.hid (fun V (y:Tab V)=>K6.n1k c a t d V h hc hs y)
 have HY:=Lib.hid (h0t (t:=t) (by omega) (by omega) c d)
 generalize outC c t d=q at *;rw[HY.out];clear HY hc hs
 rcases h with rfl|rfl|rfl
 · refine' qz6v;refine' qzi;change Code.wp _ _ _ _ (((w.alloc (.cells c.cells 74)).alloc (.cells (cellsT (a,(d,6))) 110)).alloc (.cells Kx.zero.cells 74));have D:=Lib.hid (St.start w c (a,(d,6)));generalize ((w.alloc (.cells c.cells 74)).alloc (.cells (cellsT (a,(d,6))) 110)).alloc (.cells Kx.zero.cells 74)=V at *;have ct:=D.out.t0.cell 0 (.int .i64 6) rfl;have hlt:=D.out.r0.lt;refine' qz4y;rintro e w1 ⟨qa,qk,l,rfl,hp,hm,hb⟩;have D:=Lib.hid (D.out.call hb);clear hb P1 ct;refine' qz2j
 · refine' qz6v;refine' qzi;change Code.wp _ _ _ _ (((w.alloc (.cells c.cells 74)).alloc (.cells (cellsT (a,(d,7))) 110)).alloc (.cells Kx.zero.cells 74));have D:=Lib.hid (St.start w c (a,(d,7)));generalize ((w.alloc (.cells c.cells 74)).alloc (.cells (cellsT (a,(d,7))) 110)).alloc (.cells Kx.zero.cells 74)=V at *;have ct:=D.out.t0.cell 0 (.int .i64 7) rfl;have hlt:=D.out.r0.lt;refine' qz4y;rintro e w1 ⟨qa,qk,l,rfl,hp,hm,hb⟩;have D:=Lib.hid (D.out.call hb);clear hb P1 ct;refine' qz2j
 · refine' qz6v;refine' qzi;change Code.wp _ _ _ _ (((w.alloc (.cells c.cells 74)).alloc (.cells (cellsT (a,(d,8))) 110)).alloc (.cells Kx.zero.cells 74));have D:=Lib.hid (St.start w c (a,(d,8)));generalize ((w.alloc (.cells c.cells 74)).alloc (.cells (cellsT (a,(d,8))) 110)).alloc (.cells Kx.zero.cells 74)=V at *;have ct:=D.out.t0.cell 0 (.int .i64 8) rfl;have hlt:=D.out.r0.lt;refine' qz4y;rintro e w1 ⟨qa,qk,l,rfl,hp,hm,hb⟩;have D:=Lib.hid (D.out.call hb);clear hb P1 ct;refine' qz2j
theorem u1p (c:Kx)(a t:Int)(d:ByteArray)(w:World)(hs:d.size≤100000)(h:t=2∨t=3∨t=4∨t=5)(ht:Tab w):Calls Tryz.prog 189 #[.agg c.cells,.agg (cellsT (a,(d,t)))] w (AnsC (one c t d) w):=by
 have P1:=Lib.hid (fun V (y:Tab V)=>G6.c0e t a d V (by omega) (by omega) hs y)
 have HY:=Lib.hid (s1c (t:=t) (by omega) (by omega) c d)
 have HC:=Lib.hid (show(outF t d).2.1=true→(outF t d).2.2=0 by rcases G1.out_cases (t:=t) (d:=d) (by omega) (by omega)with⟨e,h⟩|⟨r,h,_⟩<;>rw[h]<;>simp)
 have HLL:=Lib.hid ((G1.k0g t d (by omega) (by omega)).2.1)
 generalize outF t d=p at *;clear hs
 rcases h with rfl|rfl|rfl|rfl
 · refine' qz6v;refine' qzi;change Code.wp _ _ _ _ (((w.alloc (.cells c.cells 74)).alloc (.cells (cellsT (a,(d,2))) 110)).alloc (.cells Kx.zero.cells 74));have D:=Lib.hid (St.start w c (a,(d,2)));generalize ((w.alloc (.cells c.cells 74)).alloc (.cells (cellsT (a,(d,2))) 110)).alloc (.cells Kx.zero.cells 74)=V at *;have ct:=D.out.t0.cell 0 (.int .i64 2) rfl;have hlt:=D.out.r0.lt;refine' qz2t;intro e w1 ha;refine' qz6e;have hz1:=hb.size;refine' qz5j;refine' qz5h;refine' qz34;refine' qz4j;refine' qz7s;have hz2:=bel.size;refine' qz86;refine' qz1u;refine' qz5l;refine' qz2y;clear D X0 hz2;generalize V6.drew=Z0 at *;refine' qz6c;refine' qz28;refine' qz26;refine' qz5;go_simp;refine' qz8g;refine' qz5z;refine' qz1m;refine' qza6;clear hb hm hl2;refine' qzl;refine' qz29;clear hK K;refine' qz2r;refine' qz3x;refine' qz1;refine' qzv
 · refine' qz6v;refine' qzi;change Code.wp _ _ _ _ (((w.alloc (.cells c.cells 74)).alloc (.cells (cellsT (a,(d,3))) 110)).alloc (.cells Kx.zero.cells 74));have D:=Lib.hid (St.start w c (a,(d,3)));generalize ((w.alloc (.cells c.cells 74)).alloc (.cells (cellsT (a,(d,3))) 110)).alloc (.cells Kx.zero.cells 74)=V at *;have ct:=D.out.t0.cell 0 (.int .i64 3) rfl;have hlt:=D.out.r0.lt;refine' qz2t;intro e w1 ha;refine' qz6e;have hz1:=hb.size;refine' qz5j;refine' qz5h;refine' qz34;refine' qz4j;refine' qz7s;have hz2:=bel.size;refine' qz86;refine' qz1u;refine' qz5l;refine' qz2y;clear D X0 hz2;generalize V6.drew=Z0 at *;refine' qz6c;refine' qz28;refine' qz26;refine' qz5;go_simp;refine' qz8g;refine' qz5z;refine' qz1m;refine' qza6;clear hb hm hl2;refine' qzl;refine' qz29;clear hK K;refine' qz2r;refine' qz3x;refine' qz1;refine' qzv
 · refine' qz6v;refine' qzi;change Code.wp _ _ _ _ (((w.alloc (.cells c.cells 74)).alloc (.cells (cellsT (a,(d,4))) 110)).alloc (.cells Kx.zero.cells 74));have D:=Lib.hid (St.start w c (a,(d,4)));generalize ((w.alloc (.cells c.cells 74)).alloc (.cells (cellsT (a,(d,4))) 110)).alloc (.cells Kx.zero.cells 74)=V at *;have ct:=D.out.t0.cell 0 (.int .i64 4) rfl;have hlt:=D.out.r0.lt;refine' qz2t;intro e w1 ha;refine' qz6e;have hz1:=hb.size;refine' qz5j;refine' qz5h;refine' qz34;refine' qz4j;refine' qz7s;have hz2:=bel.size;refine' qz86;refine' qz1u;refine' qz5l;refine' qz2y;clear D X0 hz2;generalize V6.drew=Z0 at *;refine' qz6c;refine' qz28;refine' qz26;refine' qz5;go_simp;refine' qz8g;refine' qz5z;refine' qz1m;refine' qza6;clear hb hm hl2;refine' qzl;refine' qz29;clear hK K;refine' qz2r;refine' qz3x;refine' qz1;refine' qzv
 · refine' qz6v;refine' qzi;change Code.wp _ _ _ _ (((w.alloc (.cells c.cells 74)).alloc (.cells (cellsT (a,(d,5))) 110)).alloc (.cells Kx.zero.cells 74));have D:=Lib.hid (St.start w c (a,(d,5)));generalize ((w.alloc (.cells c.cells 74)).alloc (.cells (cellsT (a,(d,5))) 110)).alloc (.cells Kx.zero.cells 74)=V at *;have ct:=D.out.t0.cell 0 (.int .i64 5) rfl;have hlt:=D.out.r0.lt;refine' qz2t;intro e w1 ha;refine' qz6e;have hz1:=hb.size;refine' qz5j;refine' qz5h;refine' qz34;refine' qz4j;refine' qz7s;have hz2:=bel.size;refine' qz86;refine' qz1u;refine' qz5l;refine' qz2y;clear D X0 hz2;generalize V6.drew=Z0 at *;refine' qz6c;refine' qz28;refine' qz26;refine' qz5;go_simp;refine' qz8g;refine' qz5z;refine' qz1m;refine' qza6;clear hb hm hl2;refine' qzl;refine' qz29;clear hK K;refine' qz2r;refine' qz3x;refine' qz1;refine' qzv
theorem r1p (c:Kx)(a t:Int)(d:ByteArray)(w:World)(hs:d.size≤100000)(h:t=9∨t=10)(ht:Tab w):Calls Tryz.prog 189 #[.agg c.cells,.agg (cellsT (a,(d,t)))] w (AnsC (one c t d) w):=by
 have P1:=Lib.hid (fun V (y:Tab V)=>J6.c0e t a d V h hs y)
 have HY:=Lib.hid (i1b (t:=t) h c d)
 have HC:=Lib.hid (show(outJ t d).2.1=true→(outJ t d).2.2=0 by rcases J1.out_cases (t:=t) (d:=d) h with⟨e,h⟩|⟨x,_,_,_,h,_⟩<;>rw[h]<;>simp)
 have HLL:=Lib.hid ((J1.k0g t d h).2.1);generalize outJ t d=p at *;clear hs
 rcases h with rfl|rfl
 · refine' qz6v;refine' qzi;change Code.wp _ _ _ _ (((w.alloc (.cells c.cells 74)).alloc (.cells (cellsT (a,(d,9))) 110)).alloc (.cells Kx.zero.cells 74));have D:=Lib.hid (St.start w c (a,(d,9)));generalize ((w.alloc (.cells c.cells 74)).alloc (.cells (cellsT (a,(d,9))) 110)).alloc (.cells Kx.zero.cells 74)=V at *;have ct:=D.out.t0.cell 0 (.int .i64 9) rfl;have hlt:=D.out.r0.lt;refine' qz2t;intro e w1 ha;refine' qz6e;have hz1:=hb.size;refine' qz5j;clear hb ha ct P1 hn
   go_upto_region 18 with(refine e0a (b:=w1.heap.size) (m:=M.zero) (m':=n) rfl _ _ rfl rfl rfl (Bx.new w1 M.zero) ?_)
   refine' qz34;refine' qz4j;refine' qz7s;have hz2:=bel.size;refine' qz86;refine' qz1u;refine' qz5l;refine' qz2y;clear D X0 hz2;generalize V6.drew=Z0 at *;refine' qz1l;refine H.tk (i:=1) (v := .agg n.cells) ?h1x2 hS ?_
   case h1x2=>exact(fun w hw=>a0b (x := .tmp 10) rfl rfl hw.2)
   refine' qz28;refine' qz26;refine' qz5;go_simp;refine' qz8g;refine' qz5z;refine' qz1m;refine' qza6;clear hb hm hl2;refine' qzl;refine' qz29;clear hK K;refine' qz2r;refine' qz3x;refine' qz1;refine' qzv
 · refine' qz6v;refine' qzi;change Code.wp _ _ _ _ (((w.alloc (.cells c.cells 74)).alloc (.cells (cellsT (a,(d,10))) 110)).alloc (.cells Kx.zero.cells 74));have D:=Lib.hid (St.start w c (a,(d,10)));generalize ((w.alloc (.cells c.cells 74)).alloc (.cells (cellsT (a,(d,10))) 110)).alloc (.cells Kx.zero.cells 74)=V at *;have ct:=D.out.t0.cell 0 (.int .i64 10) rfl;have hlt:=D.out.r0.lt;refine' qz2t;intro e w1 ha;refine' qz6e;have hz1:=hb.size;refine' qz5j;clear hb ha ct P1 hn
   go_upto_region 18 with(refine e0a (b:=w1.heap.size) (m:=M.zero) (m':=n) rfl _ _ rfl rfl rfl (Bx.new w1 M.zero) ?_)
   refine' qz34;refine' qz4j;refine' qz7s;have hz2:=bel.size;refine' qz86;refine' qz1u;refine' qz5l;refine' qz2y;clear D X0 hz2;generalize V6.drew=Z0 at *;refine' qz1l;refine H.tk (i:=1) (v := .agg n.cells) ?h1x2 hS ?_
   case h1x2=>exact(fun w hw=>a0b (x := .tmp 10) rfl rfl hw.2)
   refine' qz28;refine' qz26;refine' qz5;go_simp;refine' qz8g;refine' qz5z;refine' qz1m;refine' qza6;clear hb hm hl2;refine' qzl;refine' qz29;clear hK K;refine' qz2r;refine' qz3x;refine' qz1;refine' qzv
theorem m1q (c:Kx)(a t:Int)(d:ByteArray)(w:World)(h:10<t)(ht:Tab w):Calls Tryz.prog 189 #[.agg c.cells,.agg (cellsT (a,(d,t)))] w (AnsC (one c t d) w):=by
 have HY:=Lib.hid (d1c (t:=t) (.inr h) c d)
 have n0:(t==0)=false:=by simp;omega
 have n1:(t==1)=false:=by simp;omega
 have n2:(t==2)=false:=by simp;omega
 have n3:(t==3)=false:=by simp;omega
 have n4:(t==4)=false:=by simp;omega
 have n5:(t==5)=false:=by simp;omega
 have n6:(t==6)=false:=by simp;omega
 have n7:(t==7)=false:=by simp;omega
 have n8:(t==8)=false:=by simp;omega
 have n9:(t==9)=false:=by simp;omega
 have n10:(t==10)=false:=by simp;omega
 clear h;refine' qz6v;refine' qzi;change Code.wp _ _ _ _ (((w.alloc (.cells c.cells 74)).alloc (.cells (cellsT (a,(d,t))) 110)).alloc (.cells Kx.zero.cells 74));have D:=Lib.hid (St.start w c (a,(d,t)));generalize ((w.alloc (.cells c.cells 74)).alloc (.cells (cellsT (a,(d,t))) 110)).alloc (.cells Kx.zero.cells 74)=V at *;have ct:=D.out.t0.cell 0 (.int .i64 t) rfl;have hlt:=D.out.r0.lt
 go_upto_region 19 with fail
 refine wp_region_held_drew (S:=fun X=>Bk 74 X w.heap.size c.cells∧Bk 110 X (w.heap.size+1) (cellsT (a,(d,t)))) (by kernel_rfl) ⟨D.out.s0,D.out.t0⟩ (fun hS=>?_)
 have R0:=Lib.hid (show Bk 74 V.drew (w.heap.size+1+1) Kx.zero.cells from D.out.r0)
 have HB:=Lib.hid D.out.bel.drew;have hzV:w.heap.size+1+1<V.drew.heap.size:=hlt;clear D hlt ct n0 n1 n2 n3 n4 n5 n6 n7 n8 n9 n10;generalize V.drew=Z0 at *;refine' qz1l;refine H.tk (i:=1) (v := .agg (cellsT (a,(d,t)))) ?h1x2 hS ?_
 case h1x2=>exact(fun w hw=>o0a Tl.shT (x := .tmp 3) rfl rfl hw.2 rfl)
 refine' qz1c;go_simp;refine(c1a a t d Z0).mono ?_;rintro e X0 ⟨rfl,hb⟩;refine hK.out _ _ ⟨hS.1.below hb,hS.2.below hb⟩ ?_;refine' qz5z;refine' qz1m;have hzX:=hb.size;clear hb;refine' qz5;go_simp;refine(t0w (B:=X0.heap.size) (opM t d) true X0 rfl (Sx.Lst.nil _ _) (Nat.le_refl _)).mono ?_;refine' qz3l;refine' qz5z;refine' qz1m;refine' qza6;clear hb hm hl2;refine' qz0;refine' qz48;refine wp_store_row 74 _ _ rfl (w.heap.size+1+1) c.cells rfl rfl 74 Kx.zero.cells R0.out infoX rfl (oneX c) ?_
 refine hK.out _ _ ⟨hS.1.row (by omega) _,Bk.Bk.row hS.2 (by omega) _⟩ ?_
 clear hK K
 have hS:=And.intro (hS.1.row (g:=w.heap.size+1+1) (by omega) c.cells) (Bk.Bk.row hS.2 (g:=w.heap.size+1+1) (by omega) c.cells)
 try simp only[Act.put]
 refine H.tk (i:=5) (v := .slice qa l2.length qk) ?h5x3 hS ?_
 case h5x3=>exact(fun w hw=>by go_simp)
 refine' qz0
 refine H.tk (i:=6) (v:=(Value.int IntKind.i64 0)) (fun w _=>rfl) hS ?_
 refine' qz8v
 exact bodyPost_ret (v := .tuple #[.agg (Kx.cells c),.slice qa l2.length qk,.int .i64 0]) (t0a rfl _ _ (w.heap.size+1+1) _ rfl (loadVarK shX (R0.out.put (Kx.cells c)) rfl) (.slice qa l2.length qk) rfl (.int .i64 0) rfl) rfl (by rw[HY.out];exact AnsC.told (p:=(opM t d,true,0)) (Pl.refl _) (fun _=>rfl) HQ.out (HM.out.under (by omega) _) (by omega) (Box.below_setRow HB.out (by omega) _))
theorem take_any (c:Kx)(a t:Int)(d:ByteArray)(w:World)(hc:okC c=true)(hs:d.size≤100000)(h0:0≤t)(ht:Tab w):Calls Tryz.prog 189 #[.agg c.cells,.agg (cellsT (a,(d,t)))] w (AnsC (one c t d) w):=by
 by_cases h1:t=0∨t=1
 · exact h1h c a t d w h1 ht
 by_cases h2:t=2∨t=3∨t=4∨t=5
 · exact u1p c a t d w hs h2 ht
 by_cases h6:t=6∨t=7∨t=8
 · exact i1a c a t d w hc hs h6 ht
 by_cases h9:t=9∨t=10
 · exact r1p c a t d w hs h9 ht
 exact m1q c a t d w (by omega) ht
theorem i0v {ops:Array Oper}{rest:List Oper}{o:Oper}{a:Act}{w:World}{Q:Exit→Act→World→Prop}(hgd:o.guard=none)(x:Operand)(ho:o.op = .load 110 x){q:Addr}{u:F1.T}(hx:a.eval x = .pointer (some q))
    (hc:w.cell? q=some (.int .i64 u.2.2)∧w.cell? (q.add 1)=some (.int .i64 u.1)∧w.cell? (q.add 2)=some (.string u.2.1)) (h:wpList Tryz.prog ops Q rest (a.put o.dst (.agg (cellsT u))) w):wpList Tryz.prog ops Q (o::rest) a w:=
  wpList_plain hgd fun K hK=>by
    unfold Oper.wp
    rw[e1i ho hx hc]
    exact hK _ _ h
theorem m1k (a:Option Addr)(l:List F1.T)(kc:Nat)(w:World)(hl:TRow w a l)(hn:l.length≤70000)(hd:okL l)(ht:Tab w):Calls Tryz.prog 111 #[.slice a l.length kc] w (AnsF (outI l) w):=by
 refine' qz7k;have HD:=Lib.hid hd;have HT:=Lib.hid ht;have D:=Lib.hid (Fo.start w);clear hl hd ht;go_in;refine' qzcn;change Code.wp _ _ _ _ ((w.alloc (.cells Kx.zero.cells 74)).alloc (.cells Kx.zero.cells 74));generalize (w.alloc (.cells Kx.zero.cells 74)).alloc (.cells Kx.zero.cells 74)=V at *;go_wp2
 go_loopw [6,15] (fun v i wr=>∃ (k:Nat) (c:Kx) (o ls:List M),k≤l.length∧i = .int .i64 k∧Hid (okC c=true)∧Hid (outI l=foldI (l.drop k) c o)∧Hid (PlL ls o)∧Hid (ls.length≤k)∧Hid (LM (w.heap.size+1+1) (w.heap.size+1+1) wr v ls)∧Hid (Fo w c wr)) (fun _ i _=>l.length - (intOf i).toNat)
 case atStart=>exact⟨0,Kx.zero,[],[],Nat.zero_le _,rfl,Lib.hid (by decide),Lib.hid rfl,Lib.hid PlL.nil,Lib.hid (Nat.le_refl _),Lib.hid (LM.nil _ _ _),D⟩
 case round=>
  clear D;obtain⟨k,c,o,ls,hk,rfl,HC,HF,HP0,HK0,HM0,D⟩:=hrel;by_cases hlt:k<l.length;rotate_left
  · refine' qz12;have HY:=Lib.hid (r1e HF.out);obtain⟨va,vc,rfl⟩:=HM0.out.slice;clear HF HL HD hlt hk
    go_upto_region 12 with fail
    have HLM:=Lib.hid HM0.out
    have R0:=Lib.hid (show Bk 74 wr.drew w.heap.size Kx.zero.cells from D.out.r0)
    have HB:=Lib.hid D.out.bel.drew
    refine wp_region_held_drew (S:=fun X=>Bk 74 X (w.heap.size+1) c.cells) (by kernel_rfl) (D.out.c0) (fun hS=>?_)
    have HLM:=Lib.hid (show LM (w.heap.size+1+1) (w.heap.size+1+1) wr.drew _ ls from HLM.out.below (Below.refl _ wr).drew)
    generalize wr.drew=Z0 at *;refine H.tk (i:=0) (v := .slice va ls.length vc) ?h0x1t hS ?_
    case h0x1t=>exact(fun w hw=>by go_simp)
    refine' qz0;refine H.tk (i:=1) (v := .agg c.cells) ?h1x2t hS ?_
    case h1x2t=>exact(fun w hw=>o0a shX (x := .tmp 7) rfl rfl hw rfl)
    refine' qz0;refine H.tk (i:=2) (v := .slice va ls.length vc) ?h2x3t hS ?_
    case h2x3t=>exact(fun w hw=>by go_simp)
    refine' qz5;refine wp_store_row 74 _ _ rfl w.heap.size c.cells rfl rfl 74 Kx.zero.cells R0.out infoX rfl (oneX _) ?_;refine' qz79
    have hS:=(show Bk 74 (Z0.setRow w.heap.size c.cells) (w.heap.size+1) c.cells from hS.row (by omega) _)
    refine' qz2s;refine' qz0
    refine H.tk (i:=5) (v:=(Value.int IntKind.i64 0)) (fun w _=>rfl) hS ?_
    refine' qz8v
    exact bodyPost_ret (v := .tuple #[.slice va ls.length vc,.agg (Kx.cells c),.int .i64 0,.int .i64 0]) (x0d (ty:=74) rfl _ _ w.heap.size (.agg (Kx.cells c)) (.slice va ls.length vc) rfl rfl (loadVarK shX (R0.out.put (Kx.cells c)) rfl) (.int .i64 0) rfl (.int .i64 0) rfl) rfl (by rw[HY.out];exact⟨va,vc,ls,rfl,HP0.out,((HLM.out.under (by omega) (by omega) _).own (Nat.le_refl _)).mono (by omega),Box.below_setRow HB.out (Nat.le_refl _) _,HLM.out.room⟩)
  obtain⟨p,rfl,hat⟩:=j1s HL.out k hlt;have HA:=Lib.hid hat
  have ix:=fun W=>indexT p l.length kc k hlt W
  have HFS:=Lib.hid (n1d hlt HF.out);obtain⟨hd0,hd2,hdk⟩:=HD.out _ (List.getElem_mem hlt);clear hat HF;refine' qz11;obtain⟨at0,d,n⟩:=u;simp only[]at HA HFS hd0 hd2 hdk
  have P1:=Lib.hid (fun V (y:Tab V)=>take_any c at0 n d V HC.out (by omega) hd0 y)
  have hfew:=s1o HC.out n d;have HG:=Lib.hid (e0k HC.out n d).ok;clear hd0 hd2 hdk;generalize one c n d=q at *;have hzr:w.heap.size+1+1≤wr.heap.size:=D.out.c0.lt
  go_upto_region 6 with(first|(refine i0v (u:=(at0,(d,n))) rfl _ rfl rfl (HA.out _ D.out.bel) ?_)|(refine Bk.a0a (b:=wr.heap.size) Tl.shT rfl _ _ rfl rfl rfl (Bk.Bk.new 110 wr (cellsT F3.zT)) rfl rfl (Tl.oneT (at0,(d,n))) ?_))
  change Code.wp _ _ _ _ ((wr.alloc (.cells (cellsT F3.zT) 110)).setRow wr.heap.size (cellsT (at0,(d,n))));refine' qz33;have bel:=balloc (Below.refl wr.heap.size wr) (.cells (cellsT (at0,(d,n))) 110);refine' qz4i;have HM0:=Lib.hid (HM0.out.below bel);have T0:=Lib.hid (Bk.Bk.new 110 wr (cellsT (at0,(d,n))));have hz1:=bel.size;clear bel;generalize wr.alloc (.cells (cellsT (at0,(d,n))) 110)=W0 at *
  go_wp2_with (first|(refine t0c (b:=w.heap.size+1) (m:=c) rfl _ rfl rfl D.out.c0 ?_)|(refine Bk.f0a (b:=wr.heap.size) Tl.shT rfl _ rfl rfl T0.out rfl ?_))
  refine(P1.out _ (HT.out.below D.out.bel)).mono ?_;rintro e w1 ⟨qa,qk,ls2,rfl,hp,hm,hb⟩;have D:=Lib.hid (D.out.call hb);have HM0:=Lib.hid (HM0.out.below hb);have T0:=Lib.hid (T0.out.below hb);have HP2:=Lib.hid hp;have HM2:=Lib.hid hm
  have hl2:ls2.length≤1:=by rw[hp.1];exact hfew
  have hz2:=hb.size;clear hb hp hm P1 HA ix
  go_upto_region 7 with(refine s0b (b:=w1.heap.size) (m:=Kx.zero) (m':=q.1) rfl _ _ rfl rfl rfl (Bk.Bk.new 74 w1 Kx.zero.cells) ?_)
  change Code.wp _ _ _ _ ((w1.alloc (.cells Kx.zero.cells 74)).setRow w1.heap.size q.1.cells);refine' qz33;have bel:=balloc (Below.refl w1.heap.size w1) (.cells q.1.cells 74);refine' qz4i;have HM0:=Lib.hid (HM0.out.below bel);have T0:=Lib.hid (T0.out.below bel);have HM2:=Lib.hid (HM2.out.below bel);have HG2:=Lib.hid (Bk.Bk.new 74 w1 q.1.cells);have hz3:=bel.size;clear bel;generalize w1.alloc (.cells q.1.cells 74)=W at *;by_cases he:q.2.2=0;rotate_left
  · have HY:=Lib.hid (HFS.out.2 he)
    have e1:(q.2.2==0)=false:=by simpa using he
    have e2:(q.2.2 != 0)=true:=by rw[bne,e1];rfl
    clear he HFS HG2 HM2 HM0;generalize q.2.2=er at *;refine' qzcq
    have R0:=Lib.hid (show Bk 74 W.drew w.heap.size Kx.zero.cells from D.out.r0)
    have HB:=Lib.hid D.out.bel.drew
    refine wp_region_held_drew (S:=fun X=>Bk 110 X wr.heap.size (cellsT (at0,(d,n)))) (by kernel_rfl) (T0.out) (fun hS=>?_)
    generalize W.drew=Z0 at *;refine H.tk (i:=0) (v := .agg Kx.zero.cells) ?h0x1e hS ?_
    case h0x1e=>exact(fun w hw=>r0c rfl (by kernel_rfl))
    refine' qz0;refine H.tk (i:=1) (v:=?v1x2e) ?h1x2e hS ?_
    case h1x2e=>(intro w hw;go_simp;first|done|(with_reducible rfl))
    refine' qz0;refine H.tk (i:=2) (v := .int .i64 at0) ?h2x3e hS ?_
    case h2x3e=>exact(fun w hw=>by have c:=hw.cell 1 (.int .i64 at0) rfl;go_simp)
    refine' qz0;refine H.tk (i:=3) (v := .int .i64 er) ?h3x4e hS ?_
    case h3x4e=>exact(fun w hw=>by go_simp)
    refine' qz0
    refine H.tk (i:=4) (v:=(Value.slice none 0 0)) (fun w _=>rfl) hS ?_
    refine' qzl;refine wp_store_row 74 _ _ rfl w.heap.size Kx.zero.cells rfl rfl 74 Kx.zero.cells R0.out infoX rfl (oneX _) ?_;refine' qz79
    have hS:=(show Bk 110 (Z0.setRow w.heap.size Kx.zero.cells) wr.heap.size (cellsT (at0,(d,n)))from hS.row (by omega) _)
    try simp only[Act.put]
    refine H.tk (i:=6) (v := .int .i64 at0) ?h6x6e hS ?_
    case h6x6e=>exact(fun w hw=>by go_simp)
    refine' qz0;refine H.tk (i:=7) (v := .int .i64 er) ?h7x7e hS ?_
    case h7x7e=>exact(fun w hw=>by go_simp)
    refine' qz8v;exact bodyPost_ret (v := .tuple #[.slice none 0 0,.agg (Kx.cells Kx.zero),.int .i64 at0,.int .i64 er]) (x0d (ty:=74) rfl _ _ w.heap.size (.agg (Kx.cells Kx.zero)) (.slice none 0 0) rfl rfl (loadVarK shX (R0.out.put (Kx.cells Kx.zero)) rfl) (.int .i64 at0) rfl (.int .i64 er) rfl) rfl (AnsF.no HY.out (Box.below_setRow HB.out (Nat.le_refl _) _))
  have HE:=Lib.hid (HFS.out.1 he)
  have e1:(q.2.2==0)=true:=by simpa using he
  have e2:(q.2.2 != 0)=false:=by rw[bne,e1];rfl
  clear he HFS T0;generalize q.2.2=er at *
  go_upto_region 10 with(first|(refine t0c (b:=w1.heap.size) (m:=q.1) rfl _ rfl rfl HG2.out ?_)|(refine s0b (b:=w.heap.size+1) (m:=c) (m':=q.1) rfl _ _ rfl rfl rfl D.out.c0 ?_))
  have D:=Lib.hid (D.out.put q.1)
  have HM0:=Lib.hid (HM0.out.under (g:=w.heap.size+1) (by omega) (by omega) q.1.cells)
  have HM2:=Lib.hid (HM2.out.under (g:=w.heap.size+1) (by omega) q.1.cells)
  have hws:w.heap.size+1+1≤(W.setRow (w.heap.size+1) q.1.cells).heap.size:=by simp;omega
  clear HG2;generalize W.setRow (w.heap.size+1) q.1.cells=W2 at *
  have HM2:=Lib.hid (HM2.out.mono (show w.heap.size+1+1≤W0.heap.size by omega))
  have hln:ls.length+ls2.length≤100000:=by have:=HK0.out;omega
  have HPP:=Lib.hid (PlL.app HP0.out HP2.out)
  have HKK:=Lib.hid (show(ls++ls2).length≤k+1 by rw[List.length_append];have:=HK0.out;omega)
  have HLN:=Lib.hid hln;have HWS:=Lib.hid hws;clear hln hws HP0 HP2 hl2 hfew hz1 hz2 hz3 hzr
  go_upto_region 11 with(at_builtin;refine i1i rfl _ _ rfl (w.heap.size+1+1) (w.heap.size+1+1) _ ls ls2 qa qk rfl HM0.out rfl HM2.out HLN.out HWS.out ?_)
  intro v' w' hl hb hgr
  have D':=Lib.hid (show Fo w q.1 w' from⟨D.out.r0.under hb (by omega),D.out.c0.under hb (by omega),D.out.bel.trans (hb.mono (by omega))⟩)
  have HM:=Lib.hid hl;clear hl hb hgr HM0 HM2 D;go_wp2;go_roundw
  case rel=>exact⟨k+1,q.1,o++q.2.1,ls++ls2,hlt,by go_num,HG,HE,HPP,HKK,HM,D'⟩
  case measure=>simp[intOf];omega
noncomputable def outV (b:ByteArray):List F1.T×Int×Int:=
  if ¬(outB b).2.2=0 then([],(outB b).2.1,(outB b).2.2)
  else if ¬(outT 4 (outB b).1).2.2=0 then([],(outT 4 (outB b).1).2.1,(outT 4 (outB b).1).2.2)
  else if ¬(outT (4+((outB b).1.size:Int)) (trail b)).2.2=0 then([],(outT (4+((outB b).1.size:Int)) (trail b)).2.1,(outT (4+((outB b).1.size:Int)) (trail b)).2.2)
  else((outT 4 (outB b).1).1,0,0)
theorem w1g {b:ByteArray}(h:¬(outB b).2.2=0):outV b=([],(outB b).2.1,(outB b).2.2):=by unfold outV;rw[if_pos h]
theorem t1f {b s:ByteArray}(h:outB b=(s,0,0))(h2:¬(outT 4 s).2.2=0):outV b=([],(outT 4 s).2.1,(outT 4 s).2.2):=by unfold outV;rw[h,if_neg (by simp),if_pos h2]
theorem r1k {b s:ByteArray}(h:outB b=(s,0,0))(h2:(outT 4 s).2.2=0)(h3:¬(outT (4+(s.size:Int)) (trail b)).2.2=0):outV b=([],(outT (4+(s.size:Int)) (trail b)).2.1,(outT (4+(s.size:Int)) (trail b)).2.2):=by
 unfold outV;rw[h,if_neg (by simp),if_neg (by simpa using h2),if_pos h3]
theorem z1g {b s:ByteArray}(h:outB b=(s,0,0))(h2:(outT 4 s).2.2=0)(h3:(outT (4+(s.size:Int)) (trail b)).2.2=0):outV b=((outT 4 s).1,0,0):=by
 unfold outV;rw[h,if_neg (by simp),if_neg (by simpa using h2),if_neg (by simpa using h3)]
theorem i0z (b:ByteArray)(hs:b.size≤70000):(¬(outV b).2.2=0∧outP b=([],(outV b).2.1,(outV b).2.2))∨((outV b).2.2=0∧outP b=((outI (outV b).1).1,(outI (outV b).1).2.2.1,(outI (outV b).1).2.2.2)∧(outV b).1.length≤70000∧okL (outV b).1):=by
 rcases I2.outB_two b with⟨i,e,he,h1⟩|⟨s,hh,h1,hsz⟩
 · have h:=show ¬(outB b).2.2=0 by rw[h1];exact he
   rw[w1g h,r0r h];exact .inl ⟨h,rfl⟩
 by_cases h2:(outT 4 s).2.2=0;rotate_left
 · rw[t1f h1 h2,j0q h1 h2];exact .inl ⟨h2,rfl⟩
 by_cases h3:(outT (4+(s.size:Int)) (trail b)).2.2=0;rotate_left
 · rw[r1k h1 h2 h3,h0r h1 h2 h3];exact .inl ⟨h3,rfl⟩
 have hf:=I2.p0s 4 s;rw[z1g h1 h2 h3,n0n h1 h2 h3];refine .inr ⟨rfl,rfl,?_,hf.2⟩;have:=hf.1
 show(outT 4 s).1.length≤70000
 omega
theorem y0u {B B':Nat}{w:World}{v:Value}{l:List F1.T}(h:Tl.Lst B w v l)(hB:B'≤B):Tl.Lst B' w v l:=by
 refine' qz3f
theorem a0q (b:ByteArray)(w:World)(hs:b.size≤70000):Calls Tryz.prog 110 #[.string b] w (AnsT (outV b) w):=by
 have PB:=Lib.hid (fun V=>l0k b V (by unfold maxLen;omega))
 unfold BodyIs at PB
 rcases I2.outB_two b with⟨i,e,he,h1⟩|⟨s,hh,h1,hsz⟩
 · have HY:=Lib.hid (w1g (by rw[h1];exact he))
   rw[h1]at HY PB;dsimp only at PB
   have e1:(e==0)=false:=by simpa using he
   have e2:(e != 0)=true:=by rw[bne,e1];rfl
   clear he hs h1;refine' qz16;refine(PB.out _).mono ?_;refine' qzbk;clear hb PB;refine' qz5w;exact AnsT.no HY.out HB.out
 rw[h1]at PB;dsimp only at PB
 have PS:=Lib.hid (fun V=>r0i s 4 V (by omega) (by omega) (by omega))
 have PT:=Lib.hid (fun V=>r0o b V (by unfold maxLen;omega) hh)
 have hts:(trail b).size≤b.size:=by unfold trail;simp
 have PR:=Lib.hid (fun V=>r0i (trail b) (4+(s.size:Int)) V (by omega) (by omega) (by omega))
 have hsn:(s.size:Int)≤70000:=by omega
 have H2:=Lib.hid (t1f h1);have H3:=Lib.hid (r1k h1);have H4:=Lib.hid (z1g h1);clear hs h1 hh hts hsz;generalize outT 4 s=p at *;generalize outT (4+(s.size:Int)) (trail b)=q at *;generalize trail b=tb at *;obtain⟨l,i1,e1⟩:=p;obtain⟨l',i2,e2⟩:=q;simp only[]at H2 H3 H4
 have hq1:IntKind.i64.wrap (4+(s.size:Int))=4+(s.size:Int):=IntWalk.i64_in _ (by omega)
 have hq2:wrap64 (4+(s.size:Int))=4+(s.size:Int):=IntWalk.wrap64_in _ (by omega)
 by_cases h2:e1=0;rotate_left
 · have HY:=Lib.hid (H2.out h2)
   have f1:(e1==0)=false:=by simpa using h2
   have f2:(e1 != 0)=true:=by rw[bne,f1];rfl
   clear h2 H2 H3 H4;refine' qz16;refine(PB.out _).mono ?_;refine' qzbk;clear hb PB;have hz1:=HB.out.size;refine' qz5y;rintro e w2 ⟨sa,sc,rfl,hl,hb⟩;refine' qz6;have HL:=Lib.hid (y0u hl hz1);clear hb hl PS hz1;clear HL;refine' qz5w;exact AnsT.no HY.out HB.out
 subst h2;by_cases h3:e2=0;rotate_left
 · have HY:=Lib.hid (H3.out rfl h3)
   have f1:(e2==0)=false:=by simpa using h3
   have f2:(e2 != 0)=true:=by rw[bne,f1];rfl
   clear h3 H2 H3 H4;refine' qz16;refine(PB.out _).mono ?_;refine' qzbk;clear hb PB;have hz1:=HB.out.size;refine' qz5y;rintro e w2 ⟨sa,sc,rfl,hl,hb⟩;refine' qz6;have HL:=Lib.hid (y0u hl hz1);clear hb hl PS hz1;refine' qzg;refine(PT.out _).mono ?_;rintro r w3 ⟨rfl,hb⟩;refine' qzc6;clear hb PT;refine' qzg;refine(PR.out _).mono ?_;rintro e w4 ⟨sb,sd,rfl,hl,hb⟩;refine' qzc6;clear hb hl PR;clear HL;refine' qz5w;exact AnsT.no HY.out HB.out
 subst h3;have HY:=Lib.hid (H4.out rfl rfl);clear H2 H3 H4;refine' qz16;refine(PB.out _).mono ?_;refine' qzbk;clear hb PB;have hz1:=HB.out.size;refine' qz5y;rintro e w2 ⟨sa,sc,rfl,hl,hb⟩;refine' qz6;have HL:=Lib.hid (y0u hl hz1);clear hb hl PS hz1;refine' qzg;refine(PT.out _).mono ?_;rintro r w3 ⟨rfl,hb⟩;refine' qzc6;clear hb PT;refine' qzg;refine(PR.out _).mono ?_;rintro e w4 ⟨sb,sd,rfl,hl,hb⟩;refine' qzc6;clear hb hl PR;refine' qz5w;exact F4.AnsT.yes HY.out rfl HL.out HB.out
theorem n0c (b:ByteArray)(w:World)(hs:b.size≤70000)(ht:Tab w):Calls Tryz.prog 41 #[.string b] w (AnsP (outP b) w):=by
 have HT:=Lib.hid ht
 have PB:=Lib.hid (fun V=>a0q b V hs)
 have HV:=Lib.hid (i0z b hs);clear ht hs;generalize outV b=p at *;obtain⟨l,i,e⟩:=p
 rcases HV.out with⟨he,h1⟩|⟨he,h1,h50,hok⟩
 · have HY:=Lib.hid h1
   have e1:(e==0)=false:=by simpa using he
   have e2:(e != 0)=true:=by rw[bne,e1];rfl
   clear he h1 HV;refine' qz16;refine(PB.out _).mono ?_;rintro r w1 ⟨sa,sc,rfl,hl,hb⟩;refine' qz4n;clear hb PB hl;refine' qz5w;exact AnsP.no HY.out HB.out
 have he:e=0:=he;subst he;have HY:=Lib.hid h1
 have PF:=Lib.hid (fun V a k (h:TRow V a l) (y:Tab V)=>m1k a l k V h h50 hok y)
 clear h1 HV h50 hok;refine' qz16;refine(PB.out _).mono ?_;rintro r w1 ⟨sa,sc,rfl,hl,hb⟩;refine' qz7k;refine' qz4n;clear hb hl PB;refine' qzg;refine(PF.out _ _ _ HL.out.row (HT.out.below HB.out)).mono ?_;rintro e w5 ⟨qa,qk,l2,rfl,hp,hm,hb,-⟩;have hw4:=HB.out.size;refine' qz6;have HP:=Lib.hid hp;have HM:=Lib.hid (hm.mono hw4);clear hb hp hm PF HL
 go_upto_region 5 with(refine s0b (b:=w5.heap.size) (m:=Kx.zero) (m':=(outI l).2.1) rfl _ _ rfl rfl rfl (Bk.Bk.new 74 w5 Kx.zero.cells) ?_)
 change Code.wp _ _ _ _ ((w5.alloc (.cells Kx.zero.cells 74)).setRow w5.heap.size (outI l).2.1.cells);refine' qz33;have bel:=balloc (Below.refl w5.heap.size w5) (.cells (outI l).2.1.cells 74);refine' qzc;have HM:=Lib.hid (HM.out.below bel);clear bel;generalize w5.alloc (.cells (outI l).2.1.cells 74)=w6 at *;refine' qz5w
 exact⟨qa,qk,l2,by rw[HY.out];rfl,by rw[HY.out];exact HP.out,HM.out,HB.out⟩
end I8
end Go.Proofs.YtllhobicfclheaaGreatDoor
