/-
  A part of a proof. No conditions.
-/
import Derived.Test.YtllhobicfclheaaGreatDoorY12
namespace Go.Proofs.YtllhobicfclheaaGreatDoor
open Go.ChangeShapes Go.WideShapes Go.ChangeAt Go.RowKit
set_option linter.unusedVariables false
set_option maxRecDepth 100000
set_option maxHeartbeats 51200000
namespace NRt
open Ms Box NRp Hs
open Go.Proofs.YtllhobicfclheaaGreatDoor.Or (p0a)
def lkH:ByteArray:=⟨#[254,128,0,0,0,0,0,0]⟩
theorem b0i (s:ByteArray)(h:s.size=16)(w:World) :
    Calls Tryz.prog 276 #[.string s,.string ⟨#[254,128,0,0,0,0,0,0]⟩] w fun e w'=>e = .returned (.bool (lkB s))∧w'=w:=by
 unfold lkB;refine' qz93
theorem l0p (s:ByteArray)(h:s.size=16)(w:World) :
    Calls Tryz.prog 226 #[.string s,.string ⟨#[254,128,0,0,0,0,0,0]⟩] w fun e w'=>e = .returned (.bool (lkB s))∧w'=w:=by
 have P1:=Lib.hid (fun w=>b0i s h w)
 go_in;refine' qz7b;refine' qz2x
theorem z0r (s:ByteArray)(h:s.size=16)(w:World) :
    Calls Tryz.prog 225 #[.string s] w fun e w'=>e = .returned (.int .i64 1)∧w'=w:=by
 refine' qz68;refine' qzd5;clear h;refine' qz93
theorem r0t (s:ByteArray)(h:s.size≠16)(w:World) :
    Calls Tryz.prog 225 #[.string s] w fun e w'=>(e = .returned (.int .i64 0)∨e = .returned (.int .i64 (-1)))∧w'=w:=by
 refine' qz6a
theorem z0f (s:ByteArray)(w:World) :
    Calls Tryz.prog 164 #[.string s] w fun e w'=>e = .returned (.bool (link s))∧w'=w:=by
 refine' qzdh
theorem u1h (w:World):Calls Tryz.prog 116 #[] w fun e w'=>e = .returned (.string lkH)∧w'=w:=by
 refine' qz93
theorem v1q (s:ByteArray):((s.extract 0 8).toList==lkH.toList)=lkB s:=by
 unfold lkB
 rw[show lkH.toList = [254,128,0,0,0,0,0,0] by rw[ByteArray.toList_eq];rfl]
theorem t1r (s:ByteArray)(w:World) :
    Calls Tryz.prog 47 #[.string s] w fun e w'=>e = .returned (.bool (link s))∧∃ n,w'=w.drewN n:=by
 by_cases h6:s.size=16
 · have hs:(8:Int)≤(s.size:Int):=by omega
   refine' qzd5;have HH:=Lib.hid (p0j h6);have HP:=Lib.hid (v1q s);clear h6;go_in;go_wp2;go_quiet ((go_at_call 116;exact Calls.quiet_of_same (u1h _)));refine' qzj;refine⟨g0a ?_,_,rfl⟩;rw[HP.out];exact HH.out.symm
 · have e:link s=false:=y0o h6;refine' qz69;rw[e];clear h6 e;go_in;go_wp2;go_quiet ((go_at_call 116;exact Calls.quiet_of_same (u1h _)));refine' qzj;exact⟨rfl,_,rfl⟩
theorem a0n (n:Int)(w:World):Calls Tryz.prog 88 #[.int .i64 n] w fun e w'=>e = .returned (.bool (isCmd n))∧w=w':=by
 refine' qzau
 have e1:(n==1)=false:=by simpa using h1
 refine' qzbp;rw[e];clear e;refine' qz93
theorem y0m (n:Int)(w:World):Calls Tryz.prog 90 #[.int .i64 n] w fun e w'=>e = .returned (.bool (isMet n))∧w=w':=by
 refine' qzdg
theorem z1a (s:ByteArray)(n:Int)(w:World):Calls Tryz.prog 91 #[.string s,.int .i64 n] w fun e w'=>e = .returned (.bool (pfxB s n))∧Below w.heap.size w w':=by
 by_cases h:s.size=16
 · have P1:=Lib.hid (fun W=>Pre.l0a s n W (by unfold maxLen;omega))
   rw[c1n h];refine' qzd5;clear h;generalize Pre.rightZ s n=x at *;go_in;refine' qzh;rintro e w' ⟨rfl,hb⟩;refine' qzj;exact⟨rfl,hb⟩
 · rw[e1r h];refine' qz69;clear h;refine' qz67;exact⟨rfl,Below.refl _ _⟩
theorem j1j (s:ByteArray)(w:World):Calls Tryz.prog 92 #[.string s] w fun e w'=>e = .returned (.bool (nextB s))∧w=w':=by
 have P1:=Lib.hid (fun W=>z0f s W)
 have HA:=Lib.hid (show nextB s=(isN s||link s)from rfl)
 have n1:(s.toList == [0,0,0,0,0,0,0,0,0,0,0,0,0,0,0,0])=isN s:=rfl;generalize link s=y at *;generalize isN s=x at *;cases x
 · have HZ:=Lib.hid (show nextB s=y by rw[HA.out];rfl)
   clear HA;go_in;refine' qz7b;refine' qzj;exact⟨g0a HZ.out.symm,rfl⟩
 · have HZ:=Lib.hid (show nextB s=true by rw[HA.out];rfl)
   clear HA;refine' qz67;exact⟨g0a HZ.out.symm,rfl⟩
theorem boxed (w:World)(m:M):Bx (w.alloc (.cells m.cells 29)) w.heap.size m∧Below w.heap.size w (w.alloc (.cells m.cells 29)):=⟨Bx.new w m,balloc (Below.refl _ w) _⟩
theorem l0a (m:M)(w:World)(hm:m.In w):Calls Tryz.prog 34 #[.agg m.cells] w fun e w'=>e = .returned (.bool (rightB m))∧Below w.heap.size w w':=by
 have hm1:=hm.below (boxed w m).2;refine' qz6l;have c0:=b0.cs.c0;refine' qz6h
 have HA:=Lib.hid (show rightB m=(m.kind==2&&(B2.r0j m&&(isCmd m.cmd&&(Oct.fitsB m.tag 2&&(isMet m.metric&&(pfxB m.pfx m.plen&&nextB m.next))))))from rfl)
 have P1:=Lib.hid (fun(h:m.kind=2)=>B2.z0c m V h hm1)
 have P2:=Lib.hid (fun W=>a0n m.cmd W)
 have P3:=Lib.hid (fun W=>Oct.k0b m.tag 2 W)
 have P4:=Lib.hid (fun W=>y0m m.metric W)
 have P5:=Lib.hid (fun W=>z1a m.pfx m.plen W)
 have P6:=Lib.hid (fun W=>j1j m.next W)
 clear hm hm1;generalize B2.r0j m=x1 at *;generalize isCmd m.cmd=x2 at *;generalize Oct.fitsB m.tag 2=x3 at *;generalize isMet m.metric=x4 at *;generalize pfxB m.pfx m.plen=x5 at *
 generalize nextB m.next=x6 at *
 by_cases h1:m.kind=2;rotate_left
 · have e1:(m.kind==2)=false:=by simpa using h1
   rw[e1]at HA
   have HZ:=Lib.hid (show rightB m=false by rw[HA.out];rfl)
   clear HA h1 P1;refine' qz1o
 have e1:(m.kind==2)=true:=by simpa using h1
 rw[e1]at HA;have P1:=Lib.hid (P1.out h1);clear h1;cases x1
 · refine' qz64;refine' qz1x;refine' qz8l;refine' qzc0;have c6:=b1.cs.c6;have c7:=b1.cs.c7;have c8:=b1.cs.c8;have c9:=b1.cs.c9;have c10:=b1.cs.c10;clear hb b1 c0;refine' qz1o
 cases x2
 · refine' qz64;refine' qz1x;refine' qz8l;refine' qzc0;have c6:=b1.cs.c6;have c7:=b1.cs.c7;have c8:=b1.cs.c8;have c9:=b1.cs.c9;have c10:=b1.cs.c10;clear hb b1 c0;refine' qzt;rintro e w2 ⟨rfl,rfl⟩;refine' qz1o
 cases x3
 · refine' qz64;refine' qz1x;refine' qz8l;refine' qzc0;have c6:=b1.cs.c6;have c7:=b1.cs.c7;have c8:=b1.cs.c8;have c9:=b1.cs.c9;have c10:=b1.cs.c10;clear hb b1 c0;refine' qzt;rintro e w2 ⟨rfl,rfl⟩;refine' qz25;rintro e w3 ⟨rfl,rfl⟩;refine' qz1o
 cases x4
 · refine' qz64;refine' qz1x;refine' qz8l;refine' qzc0;have c6:=b1.cs.c6;have c7:=b1.cs.c7;have c8:=b1.cs.c8;have c9:=b1.cs.c9;have c10:=b1.cs.c10;clear hb b1 c0;refine' qzt;rintro e w2 ⟨rfl,rfl⟩;refine' qz25;rintro e w3 ⟨rfl,rfl⟩;refine' qz8x;rintro e w4 ⟨rfl,rfl⟩;refine' qz1o
 cases x5
 · refine' qz64;refine' qz1x;refine' qz8l;refine' qzc0;have c6:=b1.cs.c6;have c7:=b1.cs.c7;have c8:=b1.cs.c8;have c9:=b1.cs.c9;have c10:=b1.cs.c10;have B1:=Lib.hid b1;clear hb b1 c0;refine' qzt;rintro e w2 ⟨rfl,rfl⟩;refine' qz25;rintro e w3 ⟨rfl,rfl⟩;refine' qz8x;rintro e w4 ⟨rfl,rfl⟩;refine' qzg;refine(P5.out _).mono ?_;rintro e w5 ⟨rfl,hb⟩;have bel:=bcall bel hb;have b5:=B1.out.below hb;have d9:=b5.cs.c9;clear hb b5 c1 c6 c7 c8 c9 c10;refine' qz1o
 have HZ:=Lib.hid (show rightB m=x6 by rw[HA.out];cases x6<;>rfl)
 clear HA;refine' qz1x;refine' qz8l;refine' qzc0;have c6:=b1.cs.c6;have c7:=b1.cs.c7;have c8:=b1.cs.c8;have c9:=b1.cs.c9;have c10:=b1.cs.c10;have B1:=Lib.hid b1;clear hb b1 c0;refine' qzt;rintro e w2 ⟨rfl,rfl⟩;refine' qz25;rintro e w3 ⟨rfl,rfl⟩;refine' qz8x;rintro e w4 ⟨rfl,rfl⟩;refine' qzg;refine(P5.out _).mono ?_;rintro e w5 ⟨rfl,hb⟩;have bel:=bcall bel hb;have b5:=B1.out.below hb;have d9:=b5.cs.c9;clear hb b5 c1 c6 c7 c8 c9 c10;refine' qzg;refine(P6.out _).mono ?_;rintro e w6 ⟨rfl,rfl⟩;refine' qz1o
theorem l0f (m:M)(w:World)(hm:m.In w):Calls Tryz.prog 96 #[.agg m.cells] w fun e w'=>e = .returned (.bool (!rightB m))∧Below w.heap.size w w':=by
 have hm1:=hm.below (boxed w m).2;refine' qz6l;refine' qz6h;have P1:=Lib.hid (l0a m V hm1);clear hm hm1;refine' qzav;refine' qz4c;clear hb;refine' qzj;exact⟨rfl,bel⟩
end NRt
namespace NSt
open Ms Box Ap
open Oct (cellsL l0w a0e)
open Bk (Bk)
theorem x0f {w:World}{B:Nat}{e T:TypeId}{size:Nat}{v:Value}{n:Nat}{xs:List Value}{b:Nat}{cs:Array Value}(hown:w.ownsRow B e size v n xs)(hb:Bk T w b cs)(hTe:T≠e):v.ownBlock≠some b:=by
 refine' qzdi
theorem o0e {w:World}{B b i:Nat}{e T:TypeId}{size:Nat}{v u:Value}{n:Nat}{xs:List Value}{cs:Array Value}(hown:w.ownsRow B e size v n xs)(hb:Bk T w b cs)(hTe:T≠e):(w.setCell ⟨b,i,none⟩ u).ownsRow B e size v n xs:=
  hown.kept (row:=some b) ⟨rfl,rfl,rfl,by simp[World.setCell],fun k _ hk=>Below.heap_setCell _ _ _ _ (fun e=>hk (by simp[e]))⟩ (Or.inr (x0f hown hb hTe))
theorem b0d {w:World}{B:Nat}{e:TypeId}{size:Nat}{v:Value}{n:Nat}{xs:List Value}(hown:w.ownsRow B e size v n xs):∃ a c,v = .slice a n c:=by
 rcases hown.2 with⟨hv,h0⟩|⟨g,cap,cur,hv,_⟩
 · exact⟨none,0,by rw[hv,h0]⟩
 · exact⟨_,_,hv⟩
theorem d1e (cs:Array Value)(t:TypeId)(w:World):∀ j u,(cs.toList)[j]?=some u→(w.alloc (.cells cs t)).cell? ((⟨w.heap.size,0,none⟩:Addr).add j)=some u:=by
 intro j u hu
 have:=(Bk.Bk.new t w cs).cell j u (by simpa using hu)
 rw[p0b,Nat.zero_add];exact this
theorem x0c (a b:List UInt8):cellsL (a++b)=cellsL a++cellsL b:=by simp[cellsL]
theorem n0i {B:Nat}(w:World)(l:List UInt8){ao:Option Addr}{cap:Nat}(h:w.ownsRow B 5 1 (.slice ao l.length cap) l.length (cellsL l)) :
    (convert 96 9 (.slice ao l.length cap)).run Tryz.prog w = .ok (.string ⟨l.toArray⟩) w:=by
 refine' qzda
def Own (B:Nat)(w:World)(v:Value)(bs:List UInt8):Prop:=w.ownsRow B 5 1 v bs.length (cellsL bs)
theorem Own.nil (B:Nat)(w:World):Own B w (.slice none 0 0) []:=World.ownsRow_nil w B _ 1
theorem Own.below {B:Nat}{w w':World}{v:Value}{bs:List UInt8}(h:Own B w v bs)(hb:Below w.heap.size w w'):Own B w' v bs:=by
 refine' qz1h
theorem Own.conv {B:Nat}{w:World}{v:Value}{bs:List UInt8}(h:Own B w v bs):(convert 96 9 v).run Tryz.prog w = .ok (.string ⟨bs.toArray⟩) w:=by
 obtain⟨ao,cap,rfl⟩:=b0d h;exact n0i w bs h
theorem n0h {ops:Array Oper}{rest:List Oper}{o:Oper}{a:Act}{w:World}{Q:Exit→Act→World→Prop}(hgd:o.guard=none)(s x:Operand)
    (ho:o.op = .call { callee := .builtin .append,args:=#[s,x],argTypes:=#[96,9]}) (B:Nat) (v:Value) (bs:List UInt8) (t:ByteArray)
    (hs:a.eval s=v) (hown:Own B w v bs) (hx:a.eval x = .string t) (hl:bs.length+t.size≤1000000) (hB:B≤w.heap.size)
    (h:∀ v' w',Own B w' v' (bs++t.data.toList)→w.grownBy w' v.ownBlock→Below B w w'→wpList Tryz.prog ops Q rest (a.put o.dst v') w'):wpList Tryz.prog ops Q (o::rest) a w:=by
 refine' qz4m;refine' qz5c;unfold Own;rw[x0c,List.length_append];exact h2
section
variable {P:Program} {ops:Array Oper} {Q:Exit→Act→World→Prop} {md:Region.Mode} {S:World→Prop}
theorem H.one {i:Nat}{o:Oper}{fuel:Nat}{listed:Array Bool}{a:Act}{w:World}
    (ho:ops[i]?=some o) (hw:Region.wanted o (yielded ops a.tmps)=true) (hr:Region.ready md ops listed = [i])
    (h:∀ K:Act→World→Prop,Hid (∀ a' w',S w'→wpAnyH P md ops Q S fuel (listed.setIfInBounds i true) a' w'→K a' w')→Oper.wp P o a w K Q):wpAnyH P md ops Q S (fuel+1) listed a w:=by
 refine wpAnyH_ready (rs:=[i]) hr (by simp) ?_
 refine AllReadyH.cons ho (fun K hK=>?_) AllReadyH.nil
 rw[if_pos hw]
 exact h K (Lib.hid (fun a' w' hS hW=>hK.out a' w' hS (fun _=>hW)))
theorem H.two {i j:Nat}{o o':Oper}{fuel:Nat}{listed:Array Bool}{a:Act}{w:World}
    (ho:ops[i]?=some o) (hw:Region.wanted o (yielded ops a.tmps)=true) (ho':ops[j]?=some o') (hw':Region.wanted o' (yielded ops a.tmps)=true) (hr:Region.ready md ops listed = [i,j])
    (h:∀ K:Act→World→Prop,Hid (∀ a' w',S w'→wpAnyH P md ops Q S fuel (listed.setIfInBounds i true) a' w'→K a' w')→Oper.wp P o a w K Q)
    (h':∀ K:Act→World→Prop,Hid (∀ a' w',S w'→wpAnyH P md ops Q S fuel (listed.setIfInBounds j true) a' w'→K a' w')→Oper.wp P o' a w K Q):wpAnyH P md ops Q S (fuel+1) listed a w:=by
 refine wpAnyH_ready (rs:=[i,j]) hr (by simp) ?_
 refine AllReadyH.cons ho (fun K hK=>?_) (AllReadyH.cons ho' (fun K hK=>?_) AllReadyH.nil)
 · rw[if_pos hw]
   exact h K (Lib.hid (fun a' w' hS hW=>hK.out a' w' hS (fun _=>hW)))
 · rw[if_pos hw']
   exact h' K (Lib.hid (fun a' w' hS hW=>hK.out a' w' hS (fun _=>hW)))
theorem i0k {o:Oper}{a:Act}{w:World}{K:Act→World→Prop}{d:Nat}{v:Value}(hd:o.dst=some d)(hy:(execOp a.eval o).run P w = .ok (.value v) w)(h:K (a.put (some d) v) w):Oper.wp P o a w K Q:=by
 unfold Oper.wp;rw[hy];simp only[Oper.upon,hd];exact h
end
theorem b1r {o:Oper}{a:Act}{w:World}{K:Act→World→Prop}{Q:Exit→Act→World→Prop}{d:Nat}(hd:o.dst=some d)(x:Operand)(hop:o.op = .buildSlice 22 1 #[(0,x)]){m:M}(hx:a.eval x = .agg m.cells)
    (h:K (a.put (some d) (.slice (some ⟨w.heap.size,0,none⟩) 1 1)) (w.alloc (.cells m.cells 29))):Oper.wp Tryz.prog o a w K Q:=by
 unfold Oper.wp;rw[c0h hop hx];simp only[Oper.upon,hd];exact h
section
variable {ops:Array Oper} {Q:Exit→Act→World→Prop} {md:Region.Mode} {S:World→Prop}
theorem H.bsM {i d:Nat}{o:Oper}{fuel:Nat}{listed:Array Bool}{a:Act}{w:World}
    (ho:ops[i]?=some o) (hw:Region.wanted o (yielded ops a.tmps)=true) (hr:Region.ready md ops listed = [i]) (hd:o.dst=some d)
    (x:Operand) (hop:o.op = .buildSlice 22 1 #[(0,x)]) {m:M} (hx:a.eval x = .agg m.cells) (hS:S (w.alloc (.cells m.cells 29)))
    (h:wpAnyH Tryz.prog md ops Q S fuel (listed.setIfInBounds i true) (a.put (some d) (.slice (some ⟨w.heap.size,0,none⟩) 1 1)) (w.alloc (.cells m.cells 29))):wpAnyH Tryz.prog md ops Q S (fuel+1) listed a w:=by
 refine H.one ho hw hr (fun K hK=>?_)
 unfold Oper.wp;rw[c0h hop hx];simp only[Oper.upon,hd];exact hK.out _ _ hS h
theorem H.appM {i d:Nat}{o:Oper}{fuel:Nat}{listed:Array Bool}{a:Act}{w:World}
    (ho:ops[i]?=some o) (hw:Region.wanted o (yielded ops a.tmps)=true) (hr:Region.ready md ops listed = [i]) (hd:o.dst=some d)
    (s x:Operand) (hop:o.op = .call { callee := .builtin .append,args:=#[s,x],argTypes:=#[22,22]}) (B:Nat) (v:Value) (l:List M) (m:M) (g c:Nat)
    (hs:a.eval s=v) (hown:Lst B w v l) (hx:a.eval x = .slice (some ⟨g,0,none⟩) 1 c) (hm:∀ j u,(m.cells.toList)[j]?=some u→w.cell? ((⟨g,0,none⟩:Addr).add j)=some u)
    (hl:l.length≤100000) (hB:B≤w.heap.size) (hS:∀ w',w.grownBy w' v.ownBlock→S w')
    (h:∀ v' w',Lst B w' v' (l ++ [m])→w.grownBy w' v.ownBlock→Below B w w'→wpAnyH Tryz.prog md ops Q S fuel (listed.setIfInBounds i true) (a.put (some d) v') w'):wpAnyH Tryz.prog md ops Q S (fuel+1) listed a w:=by
 obtain⟨i0,hi,hz,hsz,hby⟩:=infoA
 refine H.one ho hw hr (fun K hK=>?_)
 refine wp_append_own w s x 22 hop B 29 i0 (.agg M.zero.cells) 25 i0.bytes Tryz.underlying22 hi hz hsz rfl rfl (by decide) v l.length (rowC l) hs hown ⟨g,0,none⟩ 1 c m.cells.toList hx rfl hm ?_ (by unfold maxLen;omega) ?_ hB ?_
 · intro u hu;have:=oneM m;refine' qzb1
 · have:(l.length+1)*i0.bytes≤100001*4096:=Nat.mul_le_mul (by omega) hby
   omega
 · intro v' w' h2 h3 _;rw[hd];refine' qzdd;unfold Lst;rw[p0t,List.length_append];exact h2
theorem H.appB {i d:Nat}{o:Oper}{fuel:Nat}{listed:Array Bool}{a:Act}{w:World}
    (ho:ops[i]?=some o) (hw:Region.wanted o (yielded ops a.tmps)=true) (hr:Region.ready md ops listed = [i]) (hd:o.dst=some d)
    (s x:Operand) (hop:o.op = .call { callee := .builtin .append,args:=#[s,x],argTypes:=#[96,96]}) (B:Nat) (v:Value) (bs news:List UInt8) (g c:Nat)
    (hs:a.eval s=v) (hown:Own B w v bs) (hx:a.eval x = .slice (some ⟨g,0,none⟩) news.length c) (hm:∀ j u,(cellsL news)[j]?=some u→w.cell? ((⟨g,0,none⟩:Addr).add j)=some u)
    (hl:bs.length+news.length≤1000000) (hB:B≤w.heap.size) (hS:∀ w',w.grownBy w' v.ownBlock→S w')
    (h:∀ v' w',Own B w' v' (bs++news)→w.grownBy w' v.ownBlock→Below B w w'→wpAnyH Tryz.prog md ops Q S fuel (listed.setIfInBounds i true) (a.put (some d) v') w'):wpAnyH Tryz.prog md ops Q S (fuel+1) listed a w:=by
 refine' qz4l
 refine H.one ho hw hr (fun K hK=>?_)
 refine wp_append_own w s x 96 hop B 5 i0 (.int .u8 0) 1 1 Tryz.underlying96 hi hz0 hz1 hz2 rfl (by decide) v bs.length (cellsL bs) hs hown ⟨g,0,none⟩ news.length c (cellsL news) hx (by simp[cellsL]) hm ?_ (by unfold maxLen;omega) (by omega) hB ?_
 · intro u hu;simp only[cellsL,List.mem_map]at hu;obtain⟨x,_,rfl⟩:=hu;rfl
 · intro v' w' h2 h3 _;rw[hd];refine' qzdd;unfold Own;rw[x0c,List.length_append];exact h2
theorem H.appS {i d:Nat}{o:Oper}{fuel:Nat}{listed:Array Bool}{a:Act}{w:World}
    (ho:ops[i]?=some o) (hw:Region.wanted o (yielded ops a.tmps)=true) (hr:Region.ready md ops listed = [i]) (hd:o.dst=some d)
    (s x:Operand) (hop:o.op = .call { callee := .builtin .append,args:=#[s,x],argTypes:=#[96,9]}) (B:Nat) (v:Value) (bs:List UInt8) (t:ByteArray)
    (hs:a.eval s=v) (hown:Own B w v bs) (hx:a.eval x = .string t) (hl:bs.length+t.size≤1000000) (hB:B≤w.heap.size) (hS:∀ w',w.grownBy w' v.ownBlock→S w')
    (h:∀ v' w',Own B w' v' (bs++t.data.toList)→w.grownBy w' v.ownBlock→Below B w w'→wpAnyH Tryz.prog md ops Q S fuel (listed.setIfInBounds i true) (a.put (some d) v') w'):wpAnyH Tryz.prog md ops Q S (fuel+1) listed a w:=by
 refine' qz4l
 refine H.one ho hw hr (fun K hK=>?_)
 obtain⟨v',w',hr2,h2,h3,h4⟩:=Lib.run_append_own_string (P:=Tryz.prog) w B 96 9 o.type 5 i0 Tryz.underlying96 Tryz.underlying9 hi hz0 hz1 hz2 v bs.length (cellsL bs) hown t (by unfold maxLen;omega) (by omega) hB
 unfold Oper.wp execOp;simp only[hop,resolve,invoke,builtin,Sem.run_bind,Sem.run_pure,Result.andThen_ok,List.map_toArray,List.map_cons,List.map_nil,hs,hx,hr2,Oper.upon,hd];refine' qzdd;unfold Own;rw[x0c,List.length_append];exact h2
end
end NSt
namespace NTk
open Ms Box NRp NRt Hs Hx Ap NSt
open Bk (E Bk shE q0a loadVarK f0a a0a o0a)
open Go.Proofs.YtllhobicfclheaaGreatDoor.Or (p0a)
theorem t0b {a c:Int}{p:Int×Int}(h:p=(a,c)):Ending.returned (.tuple #[.int .i64 a,.int .i64 c]) = .returned (.tuple #[.int .i64 p.1,.int .i64 p.2]):=by rw[h]
theorem int_eq {k:IntKind}{a b:Int}(h:a=b):Ending.returned (.int k a) = .returned (.int k b):=by rw[h]
theorem idx (b:ByteArray)(k:Nat)(i:Int)(hi:i=k)(h:k<b.size)(W:World):(Instr.index 9 (.string b) (.int .i64 i)).run Tryz.prog W = .ok (.int .u8 (bt b k)) W:=by
 refine' qzak;rfl
theorem q0c (b:ByteArray)(w:World)(hs:b.size≤1048576):Calls Tryz.prog 93 #[.string b] w fun r w'=>r = .returned (.tuple #[.int .i64 (hdAt b).1,.int .i64 (hdAt b).2])∧w=w':=by
 have HA:=Lib.hid (show hdAt b=if 65535<b.size then(65535,10)else if b.size<4 then((b.size:Int),2)else if isCmd (bt b 0)=false then(0,4)else if(bt b 1==1)=false then(1,4)else if Oct.zeroB (b.extract 2 4).data.toList=false then(2,5)else if(b.size - 4)%20≠0 then((b.size:Int),2)else(0,0)from rfl)
 by_cases h0:65535<b.size
 · have HZ:=Lib.hid (show hdAt b=(65535,10) by rw[HA.out,if_pos h0])
   clear HA;go_in;refine' qz4e
 by_cases h1:b.size<4
 · have HZ:=Lib.hid (show hdAt b=((b.size:Int),2) by rw[HA.out,if_neg h0,if_pos h1])
   clear HA;go_in;refine' qz4e
 have P1:=Lib.hid (fun W=>a0n (bt b 0) W)
 have j0:=idx b 0 0 rfl (by omega)
 have j1:=idx b 1 1 rfl (by omega)
 have v0:=i0e (bt b 0) (d0b _ _) (o0b _ _)
 have sl:=Rte.sl_m b 2 4 2 4 rfl rfl (by omega) (by omega)
 have P2:=Lib.hid (fun W=>Oct.v0v (b.extract 2 4) W (by unfold maxLen;simp;omega))
 have HA:=Lib.hid (show hdAt b=if isCmd (bt b 0)=false then(0,4)else if(bt b 1==1)=false then(1,4)else if Oct.zeroB (b.extract 2 4).data.toList=false then(2,5)else if(b.size - 4)%20≠0 then((b.size:Int),2)else(0,0) by rw[HA.out,if_neg h0,if_neg h1])
 have k1:=d0b b 1;have k2:=o0b b 1;generalize bt b 0=c0 at *;generalize bt b 1=c1 at *;generalize Oct.zeroB (b.extract 2 4).data.toList=x3 at *;generalize b.extract 2 4=s2 at *;generalize isCmd c0=x1 at *;cases x1
 · have HZ:=Lib.hid (show hdAt b=(0,4) by rw[HA.out];rfl)
   clear HA;go_in;refine' qz2q;refine' qz4e
 by_cases q1:c1=1;rotate_left
 · have e1:(c1==1)=false:=by simpa using q1
   have e2:(c1 != 1)=true:=by rw[bne,e1];rfl
   have HZ:=Lib.hid (show hdAt b=(1,4) by rw[HA.out,e1];rfl)
   clear HA q1;go_in;refine' qz2q;refine' qz4e
 subst q1;cases x3
 · have HZ:=Lib.hid (show hdAt b=(2,5) by rw[HA.out];rfl)
   clear HA;go_in;refine' qz2q;refine' qz7c;refine' qz4e
 have HA:=Lib.hid (show hdAt b=if(b.size - 4)%20≠0 then((b.size:Int),2)else(0,0)from HA.out)
 by_cases h5:(b.size - 4)%20≠0
 · have HZ:=Lib.hid (show hdAt b=((b.size:Int),2) by rw[HA.out,if_pos h5])
   have e1:(((b.size:Int) - 4)%20==0)=false:=by rw[beq_eq_false_iff_ne];omega
   have e2:(((b.size:Int) - 4)%20 != 0)=true:=by rw[bne,e1];rfl
   clear HA h5;go_in;refine' qz2q;refine' qz7c;refine' qz4e
 have HZ:=Lib.hid (show hdAt b=(0,0) by rw[HA.out,if_neg h5])
 have e1:(((b.size:Int) - 4)%20==0)=true:=by rw[beq_iff_eq];omega
 have e2:(((b.size:Int) - 4)%20 != 0)=false:=by rw[bne,e1];rfl
 clear HA h5;go_in;refine' qz2q;refine' qz7c;refine' qz4e
def Rdr (B b:Nat)(c:Int)(nx:ByteArray)(l:List M)(w:World):Prop:=B≤b∧∃ v,Bk 94 w b #[.int .i64 c,.string nx,v]∧Lst B w v l
theorem neR:(94:TypeId)≠29:=by decide
theorem neE:(59:TypeId)≠29:=by decide
theorem Rdr.below {B b:Nat}{c:Int}{nx:ByteArray}{l:List M}{w w':World}(h:Rdr B b c nx l w)(hb:Below w.heap.size w w'):Rdr B b c nx l w':=by
 refine' qzbj
theorem Rdr.lt {B b:Nat}{c:Int}{nx:ByteArray}{l:List M}{w:World}(h:Rdr B b c nx l w):b<w.heap.size:=by
 obtain⟨h1,v,h2,h3⟩:=h;exact h2.lt
def hopN (nx:ByteArray)(e:E):ByteArray:=if ckHop e=0 then nx1 e else nx
theorem d0y (nx:ByteArray)(e:E)(h:ckHop e=0):hopN nx e=nx1 e:=if_pos h
theorem t1n (nx:ByteArray)(e:E)(h:ckHop e≠0):hopN nx e=nx:=if_neg h
def rteL (c:Int)(nx:ByteArray)(e:E)(l:List M):List M:=if ckRte e=0 then l ++ [routeM c nx e]else l
theorem p0w (c:Int)(nx:ByteArray)(e:E)(l:List M)(h:ckRte e=0):rteL c nx e l=l ++ [routeM c nx e]:=if_pos h
theorem a1n (c:Int)(nx:ByteArray)(e:E)(l:List M)(h:ckRte e≠0):rteL c nx e l=l:=if_neg h
structure Ec (w:World)(b:Nat)(e:E):Prop where
  c0:w.cell? ⟨b,0,none⟩=some (.int .i64 e.fam)
  c1:w.cell? ⟨b,1,none⟩=some (.int .i64 e.tag)
  c2:w.cell? ⟨b,2,none⟩=some (.string e.addr)
  c5:w.cell? ⟨b,5,none⟩=some (.int .i64 e.met)
theorem ec {w:World}{b:Nat}{e:E}(h:Bk 59 w b e.cells):Ec w b e:=by
 constructor<;>exact h.cell _ _ rfl
theorem boxE (w:World)(e:E):Bk 59 (w.alloc (.cells e.cells 59)) w.heap.size e.cells∧Below w.heap.size w (w.alloc (.cells e.cells 59)):=⟨Bk.Bk.new _ w _,balloc (Below.refl _ w) _⟩
theorem z0o (B b:Nat)(c:Int)(nx:ByteArray)(l:List M)(e:E)(w:World)(h:Rdr B b c nx l w)(hB:B≤w.heap.size) :
    Calls Tryz.prog 166 #[.pointer (some ⟨b,0,none⟩),.agg e.cells] w fun r w'=>r = .returned (.int .i64 (ckHop e))∧Rdr B b c (hopN nx e) l w'∧Below B w w':=by
 have P1:=Lib.hid (fun W=>z0f e.addr W)
 obtain⟨b0,bel⟩:=boxE w e;have hr:=h.below bel;have hlt:=h.lt;replace bel:=bel.mono hB
 have HT:=Lib.hid (fun h=>d0y nx e h)
 have HF:=Lib.hid (fun h=>t1n nx e h)
 have HA:=Lib.hid (show ckHop e=if e.tag==0&&e.fam==0 then 0 else 5 from rfl)
 have HN:=Lib.hid (show nx1 e=if link e.addr then e.addr else⟨#[0,0,0,0,0,0,0,0,0,0,0,0,0,0,0,0]⟩from rfl)
 clear h hB;refine' qzc2;generalize w.heap.size=g at *;have c0:=(ec b0).c0;have c1:=(ec b0).c1;have B0:=Lib.hid b0;have R0:=Lib.hid hr;clear b0 hr;generalize h1:(e.tag==0)=x1 at *;generalize h2:(e.fam==0)=x2 at *
 have n1:(e.tag != 0) = !x1:=by rw[bne,h1]
 have n2:(e.fam != 0) = !x2:=by rw[bne,h2]
 cases x1
 · have HZ:=Lib.hid (show ckHop e=5 by rw[HA.out];rfl)
   clear HA;refine' qzj
   exact⟨int_eq HZ.out.symm,by rw[HF.out (by rw[HZ.out];decide)];exact R0.out,bel⟩
 cases x2
 · have HZ:=Lib.hid (show ckHop e=5 by rw[HA.out];rfl)
   clear HA;refine' qzj
   exact⟨int_eq HZ.out.symm,by rw[HF.out (by rw[HZ.out];decide)];exact R0.out,bel⟩
 have HZ:=Lib.hid (show ckHop e=0 by rw[HA.out];rfl)
 clear HA;obtain⟨hBb,v,hb,hown⟩:=R0.out;have f1:=hb.frozen 1;have d1:=hb.cell 1 (.string nx) rfl;refine' qzcf;clear hb hown R0;refine' qzco;have hb2:=HB.out.set (i:=1) (v := .string ⟨#[0,0,0,0,0,0,0,0,0,0,0,0,0,0,0,0]⟩) (cs':=#[.int .i64 c,.string ⟨#[0,0,0,0,0,0,0,0,0,0,0,0,0,0,0,0]⟩,v]) rfl;have ho2:Lst B (V.setCell ⟨b,1,none⟩ (.string ⟨#[0,0,0,0,0,0,0,0,0,0,0,0,0,0,0,0]⟩)) v l:=o0e HO.out HB.out neR
 have b2:=B0.out.off (p:=⟨b,1,none⟩) (by show g≠b;omega) (.string ⟨#[0,0,0,0,0,0,0,0,0,0,0,0,0,0,0,0]⟩)
 replace bel:=bel.setCell (p:=⟨b,1,none⟩) hBb (.string ⟨#[0,0,0,0,0,0,0,0,0,0,0,0,0,0,0,0]⟩);clear c0 c1 f1 d1 HB HO B0 h1 h2 n1 n2;generalize World.setCell _ _ _=W at *;have c2:=(ec b2).c2;have f1:=hb2.frozen 1;have d1:=hb2.cell 1 (.string ⟨#[0,0,0,0,0,0,0,0,0,0,0,0,0,0,0,0]⟩) rfl;have HB:=Lib.hid hb2;have HO:=Lib.hid ho2;clear hb2 ho2 b2;generalize link e.addr=x at *;cases x
 · refine' qzh;rintro r w1 ⟨rfl,rfl⟩;refine' qzj
   exact⟨int_eq HZ.out.symm,by rw[HT.out HZ.out];exact⟨hBb,v,by rw[HN.out];exact HB.out,HO.out⟩,bel⟩
 · refine' qzh;rintro r w1 ⟨rfl,rfl⟩;refine' qzj
   refine⟨int_eq HZ.out.symm,by rw[HT.out HZ.out];exact⟨hBb,v,by rw[HN.out];exact HB.out.set (i:=1) rfl,o0e HO.out HB.out neR⟩,bel.setCell (p:=⟨b,1,none⟩) hBb _⟩
structure Sr (b g:Nat)(c:Int)(nx:ByteArray)(e:E)(W:World):Prop where
  r0:W.cell? ⟨b,0,none⟩=some (.int .i64 c)
  r1:W.cell? ⟨b,1,none⟩=some (.string nx)
  en:Bk 59 W g e.cells
theorem Sr.of {b g:Nat}{c:Int}{nx:ByteArray}{e:E}{v:Value}{W:World}(h:Bk 94 W b #[.int .i64 c,.string nx,v])(he:Bk 59 W g e.cells):Sr b g c nx e W:=⟨h.cell 0 _ rfl,h.cell 1 _ rfl,he⟩
theorem y0h (B b:Nat)(c:Int)(nx:ByteArray)(l:List M)(e:E)(w:World)(h:Rdr B b c nx l w)(hB:B≤w.heap.size)(hl:l.length≤100000) :
    Calls Tryz.prog 167 #[.pointer (some ⟨b,0,none⟩),.agg e.cells] w fun r w'=>r = .returned (.int .i64 (ckRte e))∧Rdr B b c nx (rteL c nx e l) w'∧Below B w w':=by
 have P1:=Lib.hid (fun W=>z1a e.addr e.fam W)
 have P2:=Lib.hid (fun W=>y0m e.met W)
 obtain⟨b0,bel⟩:=boxE w e;have hr:=h.below bel;have hlt:=h.lt;replace bel:=bel.mono hB
 have HT:=Lib.hid (fun h=>p0w c nx e l h)
 have HF:=Lib.hid (fun h=>a1n c nx e l h)
 have HA:=Lib.hid (show ckRte e=if pfxB e.addr e.fam then(if isMet e.met then 0 else 6)else 7 from rfl)
 clear h;generalize hx1:pfxB e.addr e.fam=x1 at *;generalize hx2:isMet e.met=x2 at *;clear hx1 hx2;refine' qzi;have hsz:=Bk.b0a w (.cells e.cells 59);generalize w.alloc (.cells e.cells 59)=V at *
 have hBV:B≤V.heap.size:=by omega
 generalize w.heap.size=g at *;have c0:=(ec b0).c0;have c2:=(ec b0).c2;have B0:=Lib.hid b0;have R0:=Lib.hid hr;clear b0 hr;cases x1
 · have HZ:=Lib.hid (show ckRte e=7 by rw[HA.out];rfl)
   clear HA;refine' qzh;rintro r w1 ⟨rfl,hb1⟩;replace bel:=bel.trans (hb1.mono hBV);have R0:=Lib.hid (R0.out.below hb1);clear hb1 c0 c2;refine' qzj
   exact⟨int_eq HZ.out.symm,by rw[HF.out (by rw[HZ.out];decide)];exact R0.out,bel⟩
 refine' qzh;rintro r w1 ⟨rfl,hb1⟩;replace bel:=bel.trans (hb1.mono hBV);have R0:=Lib.hid (R0.out.below hb1);have B0:=Lib.hid (B0.out.below hb1)
 have hBw:B≤w1.heap.size:=by have:=hb1.size;omega
 clear hb1 c0 c2;have c5:=(ec B0.out).c5;cases x2
 · have HZ:=Lib.hid (show ckRte e=6 by rw[HA.out];rfl)
   clear HA;refine' qzt;rintro r w1 ⟨rfl,rfl⟩;refine' qzj
   exact⟨int_eq HZ.out.symm,by rw[HF.out (by rw[HZ.out];decide)];exact R0.out,bel⟩
 have HZ:=Lib.hid (show ckRte e=0 by rw[HA.out];rfl)
 clear HA;refine' qzt;rintro r w1 ⟨rfl,rfl⟩;clear c5;obtain⟨hBb,v,hb,hown⟩:=R0.out;obtain⟨va,vc,rfl⟩:=b0d hown;have HR:=Lib.hid hb.drew;have HE:=Lib.hid B0.out.drew;refine' qz7k;have HO:Hid (Lst B w1.drew (.slice va l.length vc) l):=Lib.hid hown;replace bel:Below B w w1.drew:=bel.drew;replace hBw:B≤w1.drew.heap.size:=hBw;clear hb hown R0 B0 hl;refine' qzcv
 refine wp_region_held_drew (S:=Sr b g c nx e) (by kernel_rfl) (Sr.of HR.out HE.out) (fun hS=>?_)
 generalize w1.drew=w0 at *;refine' qz1g;refine' qz1z;refine' qza2;refine' qz21;refine' qz1y;refine' qz61;refine' qz0;refine H.tk (i:=8) (v:=?v8) ?h8 hS ?_
 case h8=>(intro w hw;have c:=hw.r0;go_simp;first|done|(with_reducible rfl))
 refine' qz0;refine' qzcd;refine H.tk (i:=10) (v:=?v10) ?h10 hS ?_
 case h10=>(intro w hw;have c:=(ec hw.en).c2;go_simp;first|done|(with_reducible rfl))
 refine' qz0;refine' qzc1;refine H.tk (i:=12) (v:=?v12) ?h12 hS ?_
 case h12=>(intro w hw;have c:=(ec hw.en).c0;go_simp;first|done|(with_reducible rfl))
 refine' qzbx;refine' qz0;refine H.tk (i:=14) (v:=?v14) ?h14 hS ?_
 case h14=>(intro w hw;have c:=(ec hw.en).c1;go_simp;first|done|(with_reducible rfl))
 refine' qzby;refine' qz0;refine H.tk (i:=16) (v:=?v16) ?h16 hS ?_
 case h16=>(intro w hw;go_simp;first|done|(with_reducible rfl))
 refine' qz0;refine H.tk (i:=17) (v:=?v17) ?h17 hS ?_
 case h17=>(intro w hw;go_simp;first|done|(with_reducible rfl))
 refine' qz0;refine H.tk (i:=18) (v:=?v18) ?h18 hS ?_
 case h18=>(intro w hw;have c:=hw.r1;go_simp;first|done|(with_reducible rfl))
 refine' qz0;refine H.tk (i:=19) (v:=?v19) ?h19 hS ?_
 case h19=>(intro w hw;go_simp;first|done|(with_reducible rfl))
 refine' qz0;refine H.tk (i:=20) (v:=?v20) ?h20 hS ?_
 case h20=>(intro w hw;have c:=(ec hw.en).c5;go_simp;first|done|(with_reducible rfl))
 refine' qz0;refine H.tk (i:=21) (v := .agg (M.cells (routeM c nx e))) ?h21 hS ?_
 case h21=>exact(fun w hw=>r0c rfl (by kernel_rfl))
 refine' qz0;have HS1:=Lib.hid (Sr.of (HR.out.old (.cells (routeM c nx e).cells 29)) (HE.out.old (.cells (routeM c nx e).cells 29)));have HR1:=Lib.hid (HR.out.old (.cells (routeM c nx e).cells 29));have HE1:=Lib.hid (HE.out.old (.cells (routeM c nx e).cells 29));have HO1:=Lib.hid (HO.out.below (balloc (Below.refl _ w0) (.cells (routeM c nx e).cells 29)));have HC1:=Lib.hid (z0a (routeM c nx e) w0);replace bel:=bel.alloc hBw (.cells (routeM c nx e).cells 29)
 replace hBw:B≤(w0.alloc (.cells (routeM c nx e).cells 29)).heap.size:=by rw[Bk.b0a];omega
 refine H.two (i:=4) (j:=22) (by simp only[List.getElem?_toArray,List.getElem?_cons_succ,List.getElem?_cons_zero];rfl) (by kernel_rfl) (by simp only[List.getElem?_toArray,List.getElem?_cons_succ,List.getElem?_cons_zero];rfl) (by kernel_rfl) (by kernel_rfl) (fun K hK=>?wa) (fun K hK=>?wb)
 case' wa=>
  refine i0k rfl (v := .slice va l.length vc) (by have c:=HR.out.cell 2 _ rfl;go_simp) ?_
  refine hK.out _ _ hS ?_;refine' qzy
  refine H.bsM (i:=22) (by simp only[List.getElem?_toArray,List.getElem?_cons_succ,List.getElem?_cons_zero];rfl) (by kernel_rfl) (by kernel_rfl) rfl _ rfl (m:=routeM c nx e) rfl HS1.out ?_
  refine' qz0
 case' wb=>
  refine b1r rfl _ rfl (m:=routeM c nx e) rfl ?_;refine hK.out _ _ HS1.out ?_;refine' qz49
  refine i0k rfl (v := .slice va l.length vc) (by have c:=HR1.out.cell 2 _ rfl;go_simp) ?_
  refine hK.out _ _ HS1.out ?_;refine' qzy
 all_goals
  clear hS HS1 HR HE HO;generalize w0.alloc (.cells (routeM c nx e).cells 29)=W1 at *;generalize w0.heap.size=g1 at *;have hne1:=Lib.hid (x0f HO1.out HR1.out neR);have hne2:=Lib.hid (x0f HO1.out HE1.out neE);have hlt1:=HR1.out.lt;have hlt2:=HE1.out.lt
  refine H.appM (i:=23) (by simp only[List.getElem?_toArray,List.getElem?_cons_succ,List.getElem?_cons_zero];rfl) (by kernel_rfl) (by kernel_rfl) rfl _ _ rfl B (.slice va l.length vc) l (routeM c nx e) g1 1 rfl HO1.out rfl HC1.out HL.out hBw (fun w' hg=>Sr.of ((hg.block b hlt1 (fun e=>hne1.out e.symm)).trans HR1.out) ((hg.block g hlt2 (fun e=>hne2.out e.symm)).trans HE1.out)) ?_
  intro v2 W2 hown2 hgrow hb2;refine' qzae
  have HR2:Hid (Bk 94 W2 b #[.int .i64 c,.string nx,.slice va l.length vc]):=Lib.hid ((hgrow.block b hlt1 (fun e=>hne1.out e.symm)).trans HR1.out)
  have HE2:Hid (Bk 59 W2 g e.cells):=Lib.hid ((hgrow.block g hlt2 (fun e=>hne2.out e.symm)).trans HE1.out)
  obtain⟨va2,vc2,rfl⟩:=b0d hown2;have HO2:=Lib.hid hown2;clear hown2 hgrow hb2 HR1 HE1 HO1 HC1 hne1 hne2 hlt1 hlt2;generalize (l ++ [routeM c nx e]).length=n2 at *;have hS2:=Sr.of HR2.out HE2.out
  refine H.take (i:=24) (v:=?v24) (by simp only[List.getElem?_toArray,List.getElem?_cons_succ,List.getElem?_cons_zero];rfl) (by kernel_rfl) rfl (by kernel_rfl) (by kernel_rfl) (by kernel_rfl) (fun _ _ _ h=>h) ?h24 hS2 ?_
  case h24=>(intro w hw;go_simp;first|done|(with_reducible rfl))
  refine' qz0
  refine H.take (i:=25) (v:=?v25) (by simp only[List.getElem?_toArray,List.getElem?_cons_succ,List.getElem?_cons_zero];rfl) (by kernel_rfl) rfl (by kernel_rfl) (by kernel_rfl) (by kernel_rfl) (fun _ _ _ h=>h) ?h25 hS2 ?_
  case h25=>(intro w hw;go_simp;first|done|(with_reducible rfl))
  refine' qza3;have fx:=HR2.out.frozen 2;have HR3:=Lib.hid (HR2.out.set (i:=2) (v := .slice va2 n2 vc2) (cs':=#[.int .i64 c,.string nx,.slice va2 n2 vc2]) rfl)
  have HE3:=Lib.hid (HE2.out.off (p:=⟨b,2,none⟩) (by show g≠b;omega) (.slice va2 n2 vc2))
  have HO3:Hid (Lst B (W2.setCell ⟨b,2,none⟩ (.slice va2 n2 vc2)) (.slice va2 n2 vc2) (l ++ [routeM c nx e])):=Lib.hid (o0e HO2.out HR2.out neR);replace bel:=bel.setCell (p:=⟨b,2,none⟩) hBb (.slice va2 n2 vc2)
  refine H.one (i:=26) (by simp only[List.getElem?_toArray,List.getElem?_cons_succ,List.getElem?_cons_zero];rfl) (by kernel_rfl) (by kernel_rfl) (fun K hK=>?_)
  go_simp;refine hK.out _ _ (Sr.of HR3.out HE3.out) ?_;clear hK K;refine' qz1;clear HR2 HE2 HO2 cx fx hS2;generalize World.setCell _ _ _=W3 at *;refine' qzj
  exact⟨int_eq HZ.out.symm,by rw[HT.out HZ.out];exact⟨hBb,_,HR3.out,HO3.out⟩,bel⟩
end NTk
end Go.Proofs.YtllhobicfclheaaGreatDoor
