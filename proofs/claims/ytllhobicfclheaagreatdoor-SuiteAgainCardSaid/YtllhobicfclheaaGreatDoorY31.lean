/-
  A part of a proof. No conditions.
-/
import Derived.Test.YtllhobicfclheaaGreatDoorY17
import Derived.Test.YtllhobicfclheaaGreatDoorY30
namespace Go.Proofs.YtllhobicfclheaaGreatDoor
open Go.ChangeShapes Go.WideShapes Go.ChangeAt Go.RowKit
set_option linter.unusedVariables false
set_option maxRecDepth 100000
set_option maxHeartbeats 51200000
namespace Js
open Bk (Bk)
open Sb (Bld)
def flat (l:List ByteArray):List UInt8:=l.flatMap fun x=>x.data.toList
def catJ (l:List ByteArray):ByteArray:=⟨(flat l).toArray⟩
theorem c1j:flat [] = []:=rfl
theorem m0y (a b:List ByteArray):flat (a++b)=flat a++flat b:=by simp[flat]
theorem c0y (x:ByteArray):flat [x]=x.data.toList:=by simp[flat]
theorem b0o (l:List ByteArray)(k:Nat)(h:k<l.length):flat (l.take (k+1))=flat (l.take k)++l[k].data.toList:=by
 rw[List.take_succ_eq_append_getElem h,m0y,c0y]
theorem i1m (l:List ByteArray)(k:Nat):(flat (l.take k)).length≤(flat l).length:=by
 have:=congrArg List.length (m0y (l.take k) (l.drop k));rw[List.take_append_drop,List.length_append]at this;omega
theorem p0b (g o j:Nat):(⟨g,o,none⟩:Addr).add j=⟨g,o+j,none⟩:=by
 refine' qz9j
theorem w0i (x:ByteArray)(w:World):(Instr.buildSlice 174 1 #[(0,.string x)]).run Tryz.prog w = .ok (.slice (some ⟨w.heap.size,0,none⟩) 1 1) (w.alloc (.cells #[.string x] 9)):=by
 kernel_rfl
theorem c0h {o:Oper}{ρ:Operand→Value}{x:Operand}{s:ByteArray}{w:World}(ho:o.op = .buildSlice 174 1 #[(0,x)])(hx:ρ x = .string s) :
    (execOp ρ o).run Tryz.prog w = .ok (.value (.slice (some ⟨w.heap.size,0,none⟩) 1 1)) (w.alloc (.cells #[.string s] 9)):=by
 have e:((#[(0,x)]:Array (Nat×Operand)).map fun(i,x)=>(i,ρ x)) = #[(0,.string s)]:=by simp[hx]
 refine' qz74
theorem j0c {ops:Array Oper}{rest:List Oper}{o:Oper}{a:Act}{w:World}{Q:Exit→Act→World→Prop}(hgd:o.guard=none)(x:Operand)(ho:o.op = .buildSlice 174 1 #[(0,x)])
    {s:ByteArray} (hx:a.eval x = .string s) (h:wpList Tryz.prog ops Q rest (a.put o.dst (.slice (some ⟨w.heap.size,0,none⟩) 1 1)) (w.alloc (.cells #[.string s] 9))):wpList Tryz.prog ops Q (o::rest) a w:=
  wpList_plain hgd fun K hK=>by
    unfold Oper.wp
    rw[c0h ho hx]
    exact hK _ _ h
theorem infoT:∃ i,Tryz.prog.info? 9=some i∧i.zero=some (.string ByteArray.empty)∧i.size=1∧i.bytes≤4096:=by
 have h:(Tryz.prog.info? 9).map (fun i=>(i.zero,i.size,decide (i.bytes≤4096)))=some (some (.string ByteArray.empty),1,true):=by kernel_rfl
 refine' qz65;exact⟨i,hi,hz⟩
def rowT (l:List ByteArray):List Value:=l.map .string
def Lst (B:Nat)(w:World)(v:Value)(l:List ByteArray):Prop:=w.ownsRow B 9 1 v l.length (rowT l)
theorem Lst.nil (B:Nat)(w:World):Lst B w (.slice none 0 0) []:=World.ownsRow_nil w B _ 1
theorem Lst.below {B:Nat}{w w':World}{v:Value}{l:List ByteArray}(h:Lst B w v l)(hb:Below w.heap.size w w'):Lst B w' v l:=by
 refine' qz1h
theorem Lst.mono {B B':Nat}{w:World}{v:Value}{l:List ByteArray}(h:Lst B w v l)(hB:B'≤B):Lst B' w v l:=by
 refine⟨h.1,?_⟩
 rcases h.2 with h|⟨g,cap,cur,a,b,c,d⟩
 · exact .inl h
 · exact .inr ⟨g,cap,cur,a,Nat.le_trans hB b,c,d⟩
theorem Lst.under {B g:Nat}{w:World}{v:Value}{l:List ByteArray}(h:Lst B w v l)(hg:g<B)(cs:Array Value):Lst B (w.setRow g cs) v l:=by
 refine' qz2z
theorem Lst.cellset {B:Nat}{w:World}{v:Value}{l:List ByteArray}(h:Lst B w v l){p:Addr}(hg:p.block<B)(u:Value):Lst B (w.setCell p u) v l:=by
 refine' qz6m
theorem Lst.slice {B:Nat}{w:World}{v:Value}{l:List ByteArray}(h:Lst B w v l):∃ a c,v = .slice a l.length c:=by
 refine' qzd4
theorem z0a (x:ByteArray)(w:World):∀ j u,([Value.string x])[j]?=some u→(w.alloc (.cells #[.string x] 9)).cell? ((⟨w.heap.size,0,none⟩:Addr).add j)=some u:=by
 intro j u hu
 have:=(Bk.Bk.new 9 w #[.string x]).cell j u (by simpa using hu)
 rw[p0b,Nat.zero_add];exact this
theorem a0m {o:Oper}{a:Act}{w:World}{Q:Exit→Act→World→Prop}{K:Act→World→Prop}(s x:Operand)
    (ho:o.op = .call { callee := .builtin .append,args:=#[s,x],argTypes:=#[174,174]}) (B:Nat) (v:Value) (l:List ByteArray) (m:ByteArray) (g c:Nat)
    (hs:a.eval s=v) (hown:Lst B w v l) (hx:a.eval x = .slice (some ⟨g,0,none⟩) 1 c) (hm:∀ j u,([Value.string m])[j]?=some u→w.cell? ((⟨g,0,none⟩:Addr).add j)=some u)
    (hl:l.length≤100000) (hB:B≤w.heap.size)
    (h:∀ v' w',Lst B w' v' (l ++ [m])→Below B w w'→w.heap.size≤w'.heap.size→K (a.put o.dst v') w'):Oper.wp Tryz.prog o a w K Q:=by
 obtain⟨i0,hi,hz,hsz,hby⟩:=infoT
 refine wp_append_own w s x 174 ho B 9 i0 (.string ByteArray.empty) 1 i0.bytes Tryz.underlying174 hi hz hsz rfl rfl (by decide) v l.length (rowT l) hs hown ⟨g,0,none⟩ 1 c [.string m] hx rfl hm ?_ (by unfold maxLen;omega) ?_ hB ?_
 · intro u hu;rw[List.mem_singleton]at hu;rw[hu];rfl
 · have:(l.length+1)*i0.bytes≤100001*4096:=Nat.mul_le_mul (by omega) hby
   omega
 · refine' qza7;unfold Lst
   have e:rowT (l ++ [m])=rowT l ++ [.string m]:=by simp[rowT]
   rw[e,List.length_append];exact h2
theorem f0d {ops:Array Oper}{rest:List Oper}{o:Oper}{a:Act}{w:World}{Q:Exit→Act→World→Prop}(hgd:o.guard=none)(s x:Operand)
    (ho:o.op = .call { callee := .builtin .append,args:=#[s,x],argTypes:=#[174,174]}) (B:Nat) (v:Value) (l:List ByteArray) (m:ByteArray) (g c:Nat)
    (hs:a.eval s=v) (hown:Lst B w v l) (hx:a.eval x = .slice (some ⟨g,0,none⟩) 1 c) (hm:∀ j u,([Value.string m])[j]?=some u→w.cell? ((⟨g,0,none⟩:Addr).add j)=some u)
    (hl:l.length≤100000) (hB:B≤w.heap.size)
    (h:∀ v' w',Lst B w' v' (l ++ [m])→Below B w w'→w.heap.size≤w'.heap.size→wpList Tryz.prog ops Q rest (a.put o.dst v') w'):wpList Tryz.prog ops Q (o::rest) a w:=
  wpList_plain hgd fun K hK=>a0m s x ho B v l m g c hs hown hx hm hl hB fun v' w' h1 h2 h3=>hK _ _ (h v' w' h1 h2 h3)
theorem a0p (x:ByteArray)(w:World):Lst w.heap.size (w.alloc (.cells #[.string x] 9)) (.slice (some ⟨w.heap.size,0,none⟩) 1 1) [x]:=by
 exact World.ownsRow_lit w #[.string x] 1 (Nat.le_refl _) (by decide) rfl
theorem join_none (a:Option Addr)(c:Nat)(w:World):Calls Tryz.prog 256 #[.slice a 0 c,.string ⟨#[]⟩] w fun e w'=>e = .returned (.string ⟨#[]⟩)∧w'=w:=by
 refine' qz93
theorem t1g (b o c:Nat)(x:ByteArray)(w:World)(hc:w.cell? ⟨b,o,none⟩=some (.string x)):Calls Tryz.prog 256 #[.slice (some ⟨b,o,none⟩) 1 c,.string ⟨#[]⟩] w fun e w'=>e = .returned (.string x)∧w'=w:=by
 refine' qz93
theorem q1f (b o c:Nat)(xs:List ByteArray)(w:World)(hcells:∀ j (h:j<xs.length),w.cell? ⟨b,o+j,none⟩=some (.string xs[j]))(hb:b<w.heap.size)(h2:2≤xs.length)(hN:xs.length≤1000)(hcap:xs.length≤c)(hlen:(flat xs).length≤1000000) :
    Calls Tryz.prog 256 #[.slice (some ⟨b,o,none⟩) xs.length c,.string ⟨#[]⟩] w fun e w'=>e = .returned (.string (catJ xs))∧Below w.heap.size w w':=by
 have HC:=Lib.hid hcells
 have HLe:=Lib.hid (fun k=>Nat.le_trans (i1m xs k) hlen)
 have hne0:((xs.length:Int)==0)=false:=beq_eq_false_iff_ne.2 (by omega)
 have hne1:((xs.length:Int)==1)=false:=beq_eq_false_iff_ne.2 (by omega)
 clear hcells hlen;refine' qz16
 go_loop [5,41] (fun n i=>∃ k:Nat,k≤xs.length∧i = .int .i64 k∧n = .int .i64 ((flat (xs.take k)).length:Nat)) (fun _ i=>xs.length - (intOf i).toNat)
 case atStart=>exact⟨0,Nat.zero_le _,rfl,rfl⟩
 case round=>
  obtain⟨k,hk,rfl,rfl⟩:=hrel;by_cases hkn:k<xs.length
  · have hc:=HC.out k hkn
    have hstep:(flat (xs.take (k+1))).length=(flat (xs.take k)).length+xs[k].size:=by rw[b0o xs k hkn,List.length_append];simp
    have hb1:=HLe.out (k+1);generalize hA1:(flat (xs.take (k+1))).length=A1 at hstep hb1;generalize (flat (xs.take k)).length=A0 at hstep;generalize xs[k]=x at *;have HA1:=Lib.hid hA1;clear hA1;go_wp2
    exact⟨⟨k+1,by omega,by go_num,by rw[HA1.out];refine congrArg _ ?_;omega⟩,by simp[intOf];omega⟩
  · have hke:k=xs.length:=by omega
    subst hke;have hT:=HLe.out xs.length;generalize (flat (xs.take xs.length)).length=T at hT;refine' qzg
    refine(Tryz.Builder_Grow_fresh w.heap.size w.heap.size T _ (Nat.le_refl _) (heap_alloc_new w _) (by simp) (by omega)).mono ?_
    rintro e w1 ⟨rfl,hg,hb1⟩;have hb1:Below w.heap.size w w1:=((Below.refl w.heap.size w).alloc (Nat.le_refl _) _).trans hb1;have HW:Hid (Bld w.heap.size w.heap.size (flat (xs.take 0)) w1):=Lib.hid (.inr hg);have HB:=Lib.hid hb1;have hz1:=hb1.size
    have h0:0<xs.length:=by omega
    have hc0:w1.cell? ⟨b,o,none⟩=some (.string xs[0]):=by
     rw[hb1.cell (p:=⟨b,o,none⟩) hb];exact HC.out 0 h0
    have hs0:flat (xs.take 1)=flat (xs.take 0)++xs[0].data.toList:=b0o xs 0 h0;have hl1:=HLe.out 1;have HS:=Lib.hid hs0
    have hx0:xs[0].size≤1000000:=by rw[hs0,List.length_append]at hl1;simpa[c1j]using hl1
    clear hg hb1 hT hs0 hl1;generalize xs[0]=x0 at *;refine' qzg
    refine(Sb.t0f w.heap.size w.heap.size (flat (xs.take 0)) x0 w1 HW.out (by show 0+x0.size≤_;omega) hz1).mono ?_
    rintro e w2 ⟨rfl,hd,hb2,ho⟩;rw[←HS.out]at hd;have HD:=Lib.hid hd;have HB:=Lib.hid (HB.out.trans hb2);clear hd hb2 ho HS HW hc0;refine' qzg
    go_loopw [65] (fun i wr=>∃ k:Nat,k+1≤xs.length∧i = .int .i64 k∧Hid (Bld w.heap.size w.heap.size (flat (xs.take (k+1))) wr)∧Hid (Below w.heap.size w wr)) (fun i _=>xs.length - (intOf i).toNat)
    case atStart=>exact⟨0,h0,rfl,HD,HB⟩
    case round=>
     clear HD HB;obtain⟨k,hk',rfl,HD,HW⟩:=hrel;by_cases hkr:k+1<xs.length
     · have hcy:wr.cell? ⟨b,o+1+k,none⟩=some (.string xs[k+1]):=by
        rw[HW.out.cell (p:=⟨b,o+1+k,none⟩) hb,show o+1+k=o+(k+1) by omega]
        exact HC.out (k+1) hkr
       have HS:=Lib.hid (b0o xs (k+1) hkr);have hl:=HLe.out (k+1+1);rw[HS.out,List.length_append]at hl;have hBw:w.heap.size≤wr.heap.size:=HW.out.size;generalize xs[k+1]=y at *;generalize flat (xs.take (k+1))=bs at *
       have hl:bs.length+y.size≤1000000:=by simpa using hl
       refine' qzg
       refine(Sb.t0f w.heap.size w.heap.size bs ⟨#[]⟩ wr HD.out (by show bs.length+0≤_;omega) hBw).mono ?_
       rintro e w3 ⟨rfl,hd,hb3,ho⟩
       have hd:Bld w.heap.size w.heap.size bs w3:=by simpa using hd
       have HD:=Lib.hid hd;have HW:=Lib.hid (HW.out.trans hb3);have hBw3:=HW.out.size;clear hd hb3 ho;refine' qzg
       refine(Sb.t0f w.heap.size w.heap.size bs y w3 HD.out (by omega) hBw3).mono ?_
       rintro e w4 ⟨rfl,hd,hb4,ho⟩;rw[←HS.out]at hd;have HD:=Lib.hid hd;have HW:=Lib.hid (HW.out.trans hb4);clear hd hb4 ho HS;go_wp2
       exact⟨⟨k+1,by omega,by go_num,HD,HW⟩,by simp[intOf];omega⟩
     · have hke:k+1=xs.length:=by omega
       rw[hke,List.take_length]at HD;have hBw:w.heap.size≤wr.heap.size:=HW.out.size;refine' qzg;refine(Sb.x0b w.heap.size w.heap.size _ wr HD.out hBw).mono ?_;rintro e w5 ⟨rfl,hb5⟩;have HB:=Lib.hid (HW.out.trans hb5);clear hb5;refine' qz7g
theorem h1k {B:Nat}(a:Option Addr)(c:Nat)(xs:List ByteArray)(w:World)(h:Lst B w (.slice a xs.length c) xs)(hN:xs.length≤1000)(hlen:(flat xs).length≤1000000) :
    Calls Tryz.prog 256 #[.slice a xs.length c,.string ⟨#[]⟩] w fun e w'=>e = .returned (.string (catJ xs))∧Below w.heap.size w w':=by
 match xs,h,hN,hlen with
 | [],_,_,_=>exact(join_none a c w).mono fun e w' ⟨he,hw⟩=>⟨he,hw▸Below.refl _ _⟩
 | x::l,h,hN,hlen=>
  have hh:=h
  rcases h.2 with⟨_,h0⟩|⟨g,cap,cur,hv,hB,hg,hrest⟩
  · simp at h0
  · simp at hv;obtain⟨rfl,rfl⟩:=hv
    have hcs:∀ j (hj:j<(x::l).length),w.cell? ⟨g,0+j,none⟩=some (.string (x::l)[j]):=fun j hj=>by
     have:=World.ownsRow.cells hh (g:=g) rfl j (.string (x::l)[j]) (by
      show((x::l).map Value.string)[j]?=_
      rw[List.getElem?_map,List.getElem?_eq_getElem hj];rfl)
     rw[p0b]at this;exact this
    have hlt:=(Array.getElem?_eq_some_iff.1 hg).1
    match l,hN,hlen,hcs,hh,hrest with
    | [],_,_,hcs,_,_=>
     refine(t1g g 0 _ x w (hcs 0 (by simp))).mono fun e w' ⟨he,hw⟩=>⟨?_,hw▸Below.refl _ _⟩
     rw[he]
     show Ending.returned (Value.string x)=Ending.returned (Value.string ⟨(flat [x]).toArray⟩)
     rw[c0y]
    | y::r,hN,hlen,hcs,hh,hrest=>
     exact q1f g 0 _ (x::y::r) w hcs hlt (by simp) hN hrest.1 hlen
end Js
namespace Cx
open Ms Box An K1 Kb
open Bk (Bk b0a)
theorem infoX:(Tryz.prog.info? 74).map (·.size)=some 7:=by kernel_rfl
theorem z1o {W:World}{b:Nat}{c:Kx}(h:Bk 74 W b c.cells){k:Nat}(hk:k<4):W.cell? ⟨b,k,none⟩=some (.string (c.pf k)):=by
 rcases(show k=0∨k=1∨k=2∨k=3 by omega)with rfl|rfl|rfl|rfl
 · exact h.cell 0 _ rfl
 · exact h.cell 1 _ rfl
 · exact h.cell 2 _ rfl
 · exact h.cell 3 _ rfl
theorem n0m {W:World}{b:Nat}{c:Kx}(h:Bk 74 W b c.cells){k:Nat}(hk:k<2):W.cell? ⟨b,4+k,none⟩=some (.string (c.nx k)):=by
 rcases(show k=0∨k=1 by omega)with rfl|rfl
 · exact h.cell 4 _ rfl
 · exact h.cell 5 _ rfl
theorem s1l (c:Kx)(a:ByteArray){k:Nat}(hk:k<4):c.cells.setIfInBounds k (.string a)=(c.setP k a).cells:=by
 rcases(show k=0∨k=1∨k=2∨k=3 by omega)with rfl|rfl|rfl|rfl<;>rfl
theorem g1c (c:Kx)(a:ByteArray){k:Nat}(hk:k<2):c.cells.setIfInBounds (4+k) (.string a)=(c.setN k a).cells:=by
 rcases(show k=0∨k=1 by omega)with rfl|rfl<;>rfl
theorem v1g (b k:Nat)(hk:k<4)(W:World):(Instr.indexAt 71 (.pointer (some ⟨b,0,none⟩)) (.int .i64 (k:Int))).run Tryz.prog W = .ok (.pointer (some ⟨b,k,none⟩)) W:=by
 rcases(show k=0∨k=1∨k=2∨k=3 by omega)with rfl|rfl|rfl|rfl<;>kernel_rfl
theorem c0j (b k:Nat)(hk:k<2)(W:World):(Instr.indexAt 72 (.pointer (some ⟨b,4,none⟩)) (.int .i64 (k:Int))).run Tryz.prog W = .ok (.pointer (some ⟨b,4+k,none⟩)) W:=by
 rcases(show k=0∨k=1 by omega)with rfl|rfl<;>kernel_rfl
theorem f0e {P:Program}{o:Oper}{ρ:Operand→Value}{T:TypeId}{x y:Operand}{vx vy r:Value}{w:World}(ho:o.op = .indexAddr T x y)(hx:ρ x=vx)(hy:ρ y=vy)(h:(Instr.indexAt T vx vy).run P w = .ok r w) :
    (execOp ρ o).run P w = .ok (.value r) w:=by
 unfold execOp;simp only[ho,hx,hy,Sem.run_bind,h,Result.andThen_ok,Sem.run_pure]
theorem l0c {P:Program}{fn:Func}{o p q:Nat}{ty:TypeId}(h:fn.results = #[.tmp o,.cell p ty,.tmp q])(tmps:Array Value)(w:World)(g:Nat)(u:Value)
    (y:Value) (hy:tmps.getD o undef=y) (hp:tmps.getD p undef = .pointer (some ⟨g,0,none⟩)) (hl:(loadVar ty ⟨g,0,none⟩).run P w = .ok u w) (v:Value) (hv:tmps.getD q undef=v) :
    (results fn tmps).run P w = .ok (.tuple #[y,u,v]) w:=by
 have hy':tmps[o]?.getD undef=y:=by simpa using hy
 refine' qz30;simp[results,h,hy',hp',hv',asAddr,hl]
theorem m1b (a b:ByteArray):(a.toList==b.toList)=decide (a=b):=by
 rw[Bool.eq_iff_iff,beq_iff_eq,decide_eq_true_eq,ByteArray.toList_eq,ByteArray.toList_eq]
 exact⟨fun h=>ByteArray.ext (Array.toList_inj.1 h),fun h=>by rw[h]⟩
structure Us (w:World)(c:Kx)(m:M)(W:World):Prop where
  s0:Bk 74 W w.heap.size c.cells
  m0:Bx W (w.heap.size+1) m
  i0:m.In w
  bel:Below w.heap.size w W
theorem Us.i {w W:World}{c:Kx}{m:M}(h:Us w c m W):m.In W:=h.i0.below h.bel
theorem Us.start (w:World)(c:Kx)(m:M)(hm:m.In w):Us w c m ((w.alloc (.cells c.cells 74)).alloc (.cells m.cells 29)):=by
 refine⟨(Bk.Bk.new 74 w c.cells).old _,?_,hm,balloc (balloc (Below.refl _ w) _) _⟩;have:=Bx.new (w.alloc (.cells c.cells 74)) m;rw[b0a]at this;exact this
theorem Us.call {w V W:World}{c:Kx}{m:M}(h:Us w c m V)(hb:Below V.heap.size V W):Us w c m W:=⟨h.s0.below hb,h.m0.below hb,h.i0,bcall h.bel hb⟩
theorem Us.drew {w V:World}{c:Kx}{m:M}(h:Us w c m V):Us w c m V.drew:=h.call (Below.refl _ V).drew
theorem Us.set {w V:World}{c c':Kx}{m:M}{k:Nat}{v:Value}(h:Us w c m V)(hc:c.cells.setIfInBounds k v=c'.cells):Us w c' m (V.setCell ⟨w.heap.size,k,none⟩ v):=
  ⟨h.s0.set hc,h.m0.off (by show w.heap.size+1≠w.heap.size;omega) v,h.i0,h.bel.setCell (p:=⟨w.heap.size,k,none⟩) (Nat.le_refl _) v⟩
theorem Us.row {w V:World}{c:Kx}{m:M}{g:Nat}(h:Us w c m V)(hg:w.heap.size+1<g)(cs:Array Value):Us w c m (V.setRow g cs):=
  ⟨h.s0.row (by omega) cs,h.m0.row (by omega) cs,h.i0,Box.below_setRow h.bel (by omega) cs⟩
theorem Us.under {w V W:World}{c:Kx}{m:M}{B:Nat}(h:Us w c m V)(hb:Below B V W)(hB:w.heap.size+1<B):Us w c m W:=
  ⟨h.s0.under hb (by omega),(hb.block _ hB).trans h.m0,h.i0,h.bel.trans (hb.mono (by omega))⟩
theorem l1o (w:World)(c:Kx)(m:M):Bk 74 (((w.alloc (.cells c.cells 74)).alloc (.cells m.cells 29)).alloc (.cells Kx.zero.cells 74)) (w.heap.size+1+1) Kx.zero.cells:=by
 have:=Bk.Bk.new 74 ((w.alloc (.cells c.cells 74)).alloc (.cells m.cells 29)) Kx.zero.cells;rw[b0a,b0a]at this;exact this
def elB (l:List F1.El):List ByteArray:=l.map fun x=>⟨(F1.enc1 x).toArray⟩
theorem f1o (a b:List F1.El):elB (a++b)=elB a++elB b:=by simp[elB]
theorem j0v (l:List F1.El):(elB l).length=l.length:=by simp[elB]
theorem k0y (l:List F1.El):Js.flat (elB l)=F1.encT l:=by
 unfold Js.flat elB F1.encT;rw[List.flatMap_map]
def AnsW (p:List ByteArray×Kx×Int)(w:World)(e:Ending)(w':World):Prop:=
  ∃ a k,e = .returned (.tuple #[.slice a p.1.length k,.agg p.2.1.cells,.int .i64 p.2.2])∧Js.Lst w.heap.size w' (.slice a p.1.length k) p.1∧Below w.heap.size w w'
theorem AnsW.no {c:Kx}{d:Int}{p:List ByteArray×Kx×Int}{w w':World}(h:p=([],c,d))(hb:Below w.heap.size w w'):AnsW p w (.returned (.tuple #[.slice none 0 0,.agg c.cells,.int .i64 d])) w':=by
 subst h;exact⟨none,0,rfl,Js.Lst.nil _ _,hb⟩
end Cx
namespace S2
open Ms Cnt S1
theorem l0a (a:Option Addr)(c:Nat)(l:List El)(w:World)(hl:SRow w a l)(ln:l.length≤1048576)(lb:∀ x∈l,x.1.size≤1099511627776) :
    Calls Tryz.prog 179 #[.slice a l.length c] w fun e w'=>e = .returned (.bool (okS l))∧Below w.heap.size w w':=by
 have P:=Lib.hid (e1d a c l 2 127 w hl ln lb);clear lb;cases hm:mayB l 2 127
 · have HK:Hid (okS l=false):=Lib.hid (by unfold okS;rw[hm];rfl)
   rw[hm]at P;clear hm hl ln;refine' qz16;refine P.out.mono ?_;refine' qz75;refine' qzj;exact⟨g0a HK.out.symm,hb⟩
 · have HB:=l0v hm
   have PB:=Lib.hid (fun W (hb:Below w.heap.size w W)=>w0k a c l W (hl.below hb) ln (by omega))
   have hb1:((bytesN l:Nat):Int)≤269484032:=by omega
   have hb0:0≤((bytesN l:Nat):Int):=Int.natCast_nonneg _
   have HK:Hid (okS l=decide (((bytesN l:Nat):Int)≤200)):=Lib.hid (by unfold okS;rw[hm,Bool.true_and];simp;omega)
   rw[hm]at P;clear hm hl ln HB;generalize ((bytesN l:Nat):Int)=n at *;refine' qz16;refine P.out.mono ?_;refine' qz76;clear hb P;refine' qzg;refine(PB.out _ HB.out).mono ?_;refine' qz50;clear hb PB;refine' qz1r
end S2
namespace K2
open Ms Box S1
open Lk (link z0f)
open J1
open J2 (int_eq n0d nil_eq k0f size_eq l0j u1o y1o z0y)
open An Tc K1 Kb
open Oct (fitsB)
open Bk (Bk b0a)
open Hs
open Go.Proofs.YtllhobicfclheaaGreatDoor.Or (p0a)
theorem x0v (s:ByteArray)(w:World):Calls Tryz.prog 225 #[.string s] w fun e w'=>e = .returned (.int .i64 (famA s))∧w=w':=l0j s w
theorem n0l (ae:Int)(w:World):Calls Tryz.prog 245 #[.int .i64 ae] w fun e w'=>e = .returned (.int .i64 (fam ae))∧w=w':=by
 by_cases h1:ae=1
 · subst h1
   have HK:=Lib.hid (show fam 1=0 from rfl)
   refine' qza5
 by_cases h2:ae=2
 · subst h2
   have HK:=Lib.hid (show fam 2=1 from rfl)
   refine' qza5
 by_cases h3:ae=3
 · subst h3
   have HK:=Lib.hid (show fam 3=1 from rfl)
   refine' qza5
 have HK:=Lib.hid (show fam ae = -1 by unfold fam;rw[if_neg h1,if_neg (fun h=>h.elim h2 h3)])
 have e1:(ae==1)=false:=by simpa using h1
 have e2:(ae==2)=false:=by simpa using h2
 have e3:(ae==3)=false:=by simpa using h3
 refine' qza5
theorem loadVarAt {P:Program}{w:World}{b off:Nat}{T tb:TypeId}{cs:Array Value}{l:List Value}(hb:Bk tb w b cs)(hl:∀ j v,l[j]?=some v→cs[off+j]?=some v)(hagg:(isAgg T).run P w = .ok true w)(hsz:(sizeOf T).run P w = .ok l.length w) :
    (loadVar T ⟨b,off,none⟩).run P w = .ok (.agg l.toArray) w:=by
 have h2:(loadCells ⟨b,off,none⟩ l.length).run P w = .ok l.toArray w:=run_loadCells_list (P:=P) w ⟨b,off,none⟩ l (fun j v hv=>by
  rw[Ap.p0b]
  exact hb.cell (off+j) v (hl j v hv))
 simp only[loadVar,Sem.run_bind,hagg,Result.andThen_ok,if_true,hsz,h2,Sem.run_pure]
theorem w0z {P:Program}{o:Oper}{ρ:Operand→Value}{x:Operand}{w:World}{b off:Nat}{T tb:TypeId}{cs:Array Value}{l:List Value}(ho:o.op = .load T x)(hx:ρ x = .pointer (some ⟨b,off,none⟩))(hb:Bk tb w b cs)(hl:∀ j v,l[j]?=some v→cs[off+j]?=some v)(hagg:(isAgg T).run P w = .ok true w)(hsz:(sizeOf T).run P w = .ok l.length w) :
    (execOp ρ o).run P w = .ok (.value (.agg l.toArray)) w:=by
 unfold execOp;simp only[ho,hx,Instr.loadAt,Instr.sureAddr,Sem.run_bind,Sem.run_pure,Result.andThen_ok,loadVarAt hb hl hagg hsz]
theorem aggX (w:World):(isAgg 74).run Tryz.prog w = .ok true w:=by go_simp
theorem sizeX (w:World):(sizeOf 74).run Tryz.prog w = .ok 7 w:=by go_simp
def numB (m:M):Bool:=fitsB m.interval 2&&(fitsB m.seq 2&&fitsB m.metric 2)
theorem z0j (m:M)(w:World):Calls Tryz.prog 183 #[.agg m.cells] w fun e w'=>e = .returned (.bool (numB m))∧Below w.heap.size w w':=by
 refine' qz7f
 have HK:=Lib.hid (show numB m=(fitsB m.interval 2&&(fitsB m.seq 2&&fitsB m.metric 2))from rfl)
 have P1:=Lib.hid (fun V=>Oct.k0b m.interval 2 V)
 have P2:=Lib.hid (fun V=>Oct.k0b m.seq 2 V)
 have P3:=Lib.hid (fun V=>Oct.k0b m.metric 2 V)
 generalize numB m=y at *;generalize fitsB m.interval 2=x1 at *;generalize fitsB m.seq 2=x2 at *;generalize fitsB m.metric 2=x3 at *;cases x1
 · refine' qz2f;have c10:=b0.cs.c10;have c12:=b0.cs.c12;have c14:=b0.cs.c14;clear b0;refine' qz2h;refine' qz1r
 cases x2
 · refine' qz2f;have c10:=b0.cs.c10;have c12:=b0.cs.c12;have c14:=b0.cs.c14;clear b0;refine' qz2h;refine' qz54;refine' qz1r
 refine' qz2f;have c10:=b0.cs.c10;have c12:=b0.cs.c12;have c14:=b0.cs.c14;clear b0;refine' qz2h;refine' qz54;refine' qz7u;refine' qz1r
theorem S2' {w W:World}{m:M}{x:Ending}(hS:Bx W w.heap.size m∧Below w.heap.size w W):∀ e w',e=x∧W=w'→e=x∧(Bx w' w.heap.size m∧Below w.heap.size w w'):=fun e w' h=>⟨h.1,h.2▸hS⟩
theorem p1q (m:M):wayB m=if m.metric=65535 then decide (m.id.size=0)&&decide (m.next.size=0)else !decide (m.ae=0)&&(decide (m.id.size=8)&&(decide (m.next.size=0)||decide (famA m.next=fam m.ae))):=rfl
theorem m0p (m:M)(w:World):Calls Tryz.prog 184 #[.agg m.cells] w fun e w'=>e = .returned (.bool (wayB m))∧Below w.heap.size w w':=by
 refine' qz7f;have n1:=nil_eq m.id;have n2:=k0f m.id
 have n3:=nil_eq m.next
 have n4:=k0f m.next
 have HK:=Lib.hid (p1q m);by_cases hm:m.metric=65535
 · rw[if_pos hm]at HK;generalize wayB m=y at *;generalize decide (m.id.size=0)=z1 at *
   generalize decide (m.next.size=0)=z2 at *
   cases z1
   · refine' qz2f;have c9:=b0.cs.c9;have c10:=b0.cs.c10;have c11:=b0.cs.c11;clear b0;rw[hm]at c10;clear hm;refine' qz1r
   refine' qz2f;have c9:=b0.cs.c9;have c10:=b0.cs.c10;have c11:=b0.cs.c11;clear b0;rw[hm]at c10;clear hm;refine' qz1r
 rw[if_neg hm]at HK
 have hm2:(m.metric==65535)=false:=by simpa using hm
 generalize wayB m=y at *;by_cases h0:m.ae=0
 · rw[decide_eq_true h0]at HK
   have h03:(m.ae != 0)=false:=by rw[h0];rfl
   clear h0;refine' qz2f;refine' qz6h;have c10:=B0.out.cs.c10;refine' qzcn;refine' qz4t;clear HB B0;generalize V.drew=X0 at *;refine H.tk (i:=0) (v:=?v0a) ?h0a hS ?_
   case h0a=>(intro w hw;go_simp;first|done|(with_reducible rfl))
   refine' qz0;refine H.tk (i:=1) (v := .int .i64 m.ae) ?h1a hS ?_
   case h1a=>exact(fun w hw=>by have c:=(hw.1).cs.c5;go_simp)
   refine' qz0;refine H.tk (i:=2) (v := .bool false) ?h2a hS ?_
   case h2a=>exact(fun w hw=>by go_simp)
   refine' qz0
   refine H.tk (i:=3) (v:=(.bool false)) (fun w _=>rfl) hS ?_
   refine' qz0;refine H.sk (i:=4) (d:=18) hS ?_;refine' qz0;refine H.sk (i:=5) (d:=19) hS ?_;refine' qz0;refine H.sk (i:=6) (d:=20) hS ?_;refine' qz0;refine H.sk (i:=7) (d:=21) hS ?_;refine' qz0;refine H.tk (i:=8) (v := .bool false) ?h8a hS ?_
   case h8a=>exact(fun w hw=>by go_simp)
   refine' qz0
   refine H.tk (i:=9) (v:=(.bool false)) (fun w _=>rfl) hS ?_
   refine' qz0;refine H.sk (i:=10) (d:=24) hS ?_;refine' qz0;refine H.sk (i:=11) (d:=25) hS ?_;refine' qz0;refine H.sk (i:=12) (d:=26) hS ?_;refine' qz0;refine H.sk (i:=13) (d:=27) hS ?_;refine' qz9k;refine' qz9l;refine' qz9m;refine' qz9n;refine' qz9o;refine' qz9p;refine' qz9q;refine' qz0;refine H.sk (i:=21) (d:=35) hS ?_;refine' qz0
   refine H.tk (i:=22) (v:=(Value.bool false)) (fun w _=>rfl) hS ?_
   refine' qz0
   refine H.tk (i:=23) (v:=(Value.bool false)) (fun w _=>rfl) hS ?_
   refine' qz1;refine' qzj;exact⟨g0a HK.out.symm,hS.2⟩
 have h02:(m.ae==0)=false:=by simpa using h0
 have h03:(m.ae != 0)=true:=by rw[bne,h02];rfl
 rw[decide_eq_false h0]at HK;have h8:((m.id.size:Int)==8)=decide (m.id.size=8):=size_eq m.id 8;clear h0;generalize decide (m.id.size=8)=z3 at *;cases z3
 · refine' qz2f;refine' qz6h;have c10:=B0.out.cs.c10;refine' qzcn;refine' qz4t;clear HB B0;generalize V.drew=X0 at *;refine H.tk (i:=0) (v:=?v0b) ?h0b hS ?_
   case h0b=>(intro w hw;go_simp;first|done|(with_reducible rfl))
   refine' qz0;refine H.tk (i:=1) (v := .int .i64 m.ae) ?h1b hS ?_
   case h1b=>exact(fun w hw=>by have c:=(hw.1).cs.c5;go_simp)
   refine' qz0;refine H.tk (i:=2) (v := .bool true) ?h2b hS ?_
   case h2b=>exact(fun w hw=>by go_simp)
   refine' qz7v;refine' qz0;refine H.tk (i:=4) (v:=?v4b) ?h4b hS ?_
   case h4b=>(intro w hw;go_simp;first|done|(with_reducible rfl))
   refine' qz0;refine H.tk (i:=5) (v := .string m.id) ?h5b hS ?_
   case h5b=>exact(fun w hw=>by have c:=(hw.1).cs.c11;go_simp)
   refine' qz0;refine H.tk (i:=6) (v := .int .i64 (m.id.size:Int)) ?h6b hS ?_
   case h6b=>exact(fun w hw=>by go_simp)
   refine' qz0;refine H.tk (i:=7) (v := .bool false) ?h7b hS ?_
   case h7b=>exact(fun w hw=>by go_simp)
   refine' qz0;refine H.tk (i:=8) (v := .bool false) ?h8b hS ?_
   case h8b=>exact(fun w hw=>by go_simp)
   refine' qz0
   refine H.tk (i:=9) (v:=(.bool false)) (fun w _=>rfl) hS ?_
   refine' qz0;refine H.sk (i:=10) (d:=24) hS ?_;refine' qz0;refine H.sk (i:=11) (d:=25) hS ?_;refine' qz0;refine H.sk (i:=12) (d:=26) hS ?_;refine' qz0;refine H.sk (i:=13) (d:=27) hS ?_;refine' qz9k;refine' qz9l;refine' qz9m;refine' qz9n;refine' qz9o;refine' qz9p;refine' qz9q;refine' qz0;refine H.sk (i:=21) (d:=35) hS ?_;refine' qz0
   refine H.tk (i:=22) (v:=(Value.bool false)) (fun w _=>rfl) hS ?_
   refine' qz0
   refine H.tk (i:=23) (v:=(Value.bool false)) (fun w _=>rfl) hS ?_
   refine' qz1;refine' qzj;exact⟨g0a HK.out.symm,hS.2⟩
 generalize decide (m.next.size=0)=z2 at *
 cases z2;rotate_left
 · refine' qz2f;refine' qz6h;have c10:=B0.out.cs.c10;refine' qzcn;refine' qz4t;clear HB B0;generalize V.drew=X0 at *;refine H.tk (i:=0) (v:=?v0c) ?h0c hS ?_
   case h0c=>(intro w hw;go_simp;first|done|(with_reducible rfl))
   refine' qz0;refine H.tk (i:=1) (v := .int .i64 m.ae) ?h1c hS ?_
   case h1c=>exact(fun w hw=>by have c:=(hw.1).cs.c5;go_simp)
   refine' qz0;refine H.tk (i:=2) (v := .bool true) ?h2c hS ?_
   case h2c=>exact(fun w hw=>by go_simp)
   refine' qz7v;refine' qz0;refine H.tk (i:=4) (v:=?v4c) ?h4c hS ?_
   case h4c=>(intro w hw;go_simp;first|done|(with_reducible rfl))
   refine' qz0;refine H.tk (i:=5) (v := .string m.id) ?h5c hS ?_
   case h5c=>exact(fun w hw=>by have c:=(hw.1).cs.c11;go_simp)
   refine' qz0;refine H.tk (i:=6) (v := .int .i64 (m.id.size:Int)) ?h6c hS ?_
   case h6c=>exact(fun w hw=>by go_simp)
   refine' qz0;refine H.tk (i:=7) (v := .bool true) ?h7c hS ?_
   case h7c=>exact(fun w hw=>by go_simp)
   refine' qz0;refine H.tk (i:=8) (v := .bool true) ?h8c hS ?_
   case h8c=>exact(fun w hw=>by go_simp)
   refine' qz0
   refine H.tk (i:=9) (v:=(.bool true)) (fun w _=>rfl) hS ?_
   refine' qz0;refine H.tk (i:=10) (v:=?v10c) ?h10c hS ?_
   case h10c=>(intro w hw;go_simp;first|done|(with_reducible rfl))
   refine' qz0
   refine H.tk (i:=11) (v := .string m.next) ?h11c hS ?_
   case h11c=>exact(fun w hw=>by have c:=(hw.1).cs.c9;go_simp)
   refine' qz0;refine H.tk (i:=12) (v := .bool true) ?h12c hS ?_
   case h12c=>exact(fun w hw=>by go_simp)
   refine' qz0
   refine H.tk (i:=13) (v:=(.bool true)) (fun w _=>rfl) hS ?_
   refine' qz9k;refine' qz9l;refine' qz9m;refine' qz9n;refine' qz9o;refine' qz9p;refine' qz9q;refine' qz0
   refine H.tk (i:=21) (v:=(Value.bool true)) (fun w _=>rfl) hS ?_
   refine' qz0
   refine H.tk (i:=22) (v:=(Value.bool true)) (fun w _=>rfl) hS ?_
   refine' qz0
   refine H.tk (i:=23) (v:=(Value.bool true)) (fun w _=>rfl) hS ?_
   refine' qz1;refine' qzj;exact⟨g0a HK.out.symm,hS.2⟩
 have PA:=Lib.hid (fun V=>x0v m.next V)
 have PF:=Lib.hid (fun V=>n0l m.ae V)
 have hq:(famA m.next==fam m.ae)=decide (famA m.next=fam m.ae):=rfl
 generalize famA m.next=f at *
 generalize fam m.ae=g at *;generalize decide (f=g)=z4 at *;refine' qz2f;refine' qz6h;have c10:=B0.out.cs.c10;refine' qzcn;refine' qz4t;clear HB B0;generalize V.drew=X0 at *;refine H.tk (i:=0) (v:=?v0d) ?h0d hS ?_
 case h0d=>(intro w hw;go_simp;first|done|(with_reducible rfl))
 refine' qz0;refine H.tk (i:=1) (v := .int .i64 m.ae) ?h1d hS ?_
 case h1d=>exact(fun w hw=>by have c:=(hw.1).cs.c5;go_simp)
 refine' qz0;refine H.tk (i:=2) (v := .bool true) ?h2d hS ?_
 case h2d=>exact(fun w hw=>by go_simp)
 refine' qz7v;refine' qz0;refine H.tk (i:=4) (v:=?v4d) ?h4d hS ?_
 case h4d=>(intro w hw;go_simp;first|done|(with_reducible rfl))
 refine' qz0;refine H.tk (i:=5) (v := .string m.id) ?h5d hS ?_
 case h5d=>exact(fun w hw=>by have c:=(hw.1).cs.c11;go_simp)
 refine' qz0;refine H.tk (i:=6) (v := .int .i64 (m.id.size:Int)) ?h6d hS ?_
 case h6d=>exact(fun w hw=>by go_simp)
 refine' qz0;refine H.tk (i:=7) (v := .bool true) ?h7d hS ?_
 case h7d=>exact(fun w hw=>by go_simp)
 refine' qz0;refine H.tk (i:=8) (v := .bool true) ?h8d hS ?_
 case h8d=>exact(fun w hw=>by go_simp)
 refine' qz0
 refine H.tk (i:=9) (v:=(.bool true)) (fun w _=>rfl) hS ?_
 refine' qz0;refine H.tk (i:=10) (v:=?v10d) ?h10d hS ?_
 case h10d=>(intro w hw;go_simp;first|done|(with_reducible rfl))
 refine' qz0
 refine H.tk (i:=11) (v := .string m.next) ?h11d hS ?_
 case h11d=>exact(fun w hw=>by have c:=(hw.1).cs.c9;go_simp)
 refine' qz0;refine H.tk (i:=12) (v := .bool false) ?h12d hS ?_
 case h12d=>exact(fun w hw=>by go_simp)
 refine' qz0
 refine H.tk (i:=13) (v:=(.bool false)) (fun w _=>rfl) hS ?_
 refine' qz0;refine H.tk (i:=14) (v:=?v14d) ?h14d hS ?_
 case h14d=>(intro w hw;go_simp;first|done|(with_reducible rfl))
 refine' qz0
 refine H.tk (i:=15) (v := .string m.next) ?h15d hS ?_
 case h15d=>exact(fun w hw=>by have c:=(hw.1).cs.c9;go_simp)
 refine' qz0;refine H.tk (i:=17) (v:=?v17d) ?h17d hS ?_
 case h17d=>(intro w hw;go_simp;first|done|(with_reducible rfl))
 refine' qz0;refine H.tk (i:=18) (v := .int .i64 m.ae) ?h18d hS ?_
 case h18d=>exact(fun w hw=>by have c:=(hw.1).cs.c5;go_simp)
 refine' qz0
 refine wpAnyH_ready (rs:=[16]) (by kernel_rfl) (by simp) ?_
 refine' qzk;refine((PA.out _).mono (S2' hS)).mono ?_;rintro e w16 ⟨rfl,hS16⟩
 refine hK.out _ _ hS16 (fun _=>?_)
 clear hK K hS;have hS:=hS16;clear hS16;refine' qz0
 refine wpAnyH_ready (rs:=[19]) (by kernel_rfl) (by simp) ?_
 refine' qzk;refine((PF.out _).mono (S2' hS)).mono ?_;rintro e w19 ⟨rfl,hS19⟩
 refine hK.out _ _ hS19 (fun _=>?_)
 clear hK K hS;have hS:=hS19;clear hS19;refine' qz0;refine H.tk (i:=20) (v := .bool z4) ?h20d hS ?_
 case h20d=>exact(fun w hw=>by go_simp)
 refine' qz0
 refine H.tk (i:=21) (v:=(.bool z4)) (fun w _=>rfl) hS ?_
 refine' qz0
 refine H.tk (i:=22) (v:=(.bool z4)) (fun w _=>rfl) hS ?_
 refine' qz0
 refine H.tk (i:=23) (v:=(.bool z4)) (fun w _=>rfl) hS ?_
 refine' qz1;refine' qzj;exact⟨g0a HK.out.symm,hS.2⟩
theorem i0f (m:M)(w:World)(hm:m.In w):Calls Tryz.prog 77 #[.agg m.cells] w fun e w'=>e = .returned (.bool (bare m))∧Below w.heap.size w w':=Bare.z0c m w hm
theorem l0a (m:M)(w:World)(hm:m.In w)(lb:∀ x∈m.sl,x.1.size≤1099511627776)(hp:m.pfx.size≤maxLen)(ht:Tab w):Calls Tryz.prog 108 #[.agg m.cells] w fun e w'=>e = .returned (.bool (okU m))∧Below w.heap.size w w':=by
 refine' qz41
 have HK:=Lib.hid (show okU m=(decide (m.kind=11)&&(bare m&&(okS m.sl&&(inB m.ae m.pfx m.plen&&(numB m&&wayB m)))))from by
  unfold okU numB
  simp only[Bool.and_assoc])
 have P1:=Lib.hid (fun V (h:m.In V)=>i0f m V h)
 have P2:=Lib.hid (fun V (h:Tab V)=>z0y m.ae m.pfx m.plen V hp h)
 have P3:=Lib.hid (fun V (h:m.In V)=>S2.l0a m.sa m.sc m.sl V h.s h.sl lb)
 have P4:=Lib.hid (fun V=>z0j m V)
 have P5:=Lib.hid (fun V=>m0p m V)
 clear lb hm ht hp;generalize okU m=y at *;generalize bare m=x1 at *;generalize inB m.ae m.pfx m.plen=x2 at *;generalize okS m.sl=x3 at *;generalize numB m=x4 at *;generalize wayB m=x5 at *;by_cases h11:m.kind=11;rotate_left
 · have e11:(m.kind==11)=false:=by simpa using h11
   rw[decide_eq_false h11]at HK;refine' qz2m;refine' qz95;clear h11;refine' qz3;refine' qz6q
 rw[decide_eq_true h11]at HK;cases x1
 · refine' qz2m;refine' qz95;rw[h11]at c0;refine' qzf;refine' qz22;refine' qz3a;refine' qz95;refine' qz15;refine' qz6q
 cases x3
 · refine' qz2m;refine' qz95;rw[h11]at c0;refine' qzf;refine' qz22;refine' qz3a;refine' qz95;refine' qz15;refine' qzcu;refine' qz22;refine' qz3a;refine' qz95;refine' qz15;refine' qz6q
 cases x2
 · refine' qz2m;refine' qz95;rw[h11]at c0;refine' qzf;refine' qz22;refine' qz3a;refine' qz95;refine' qz15;refine' qzcu;refine' qz22;refine' qz3a;refine' qz95;refine' qz15;refine(P2.out _ HM.out).mono ?_;refine' qz22;refine' qz3a;refine' qz95;refine' qz15;refine' qz6q
 cases x4
 · refine' qz2m;refine' qz95;rw[h11]at c0;refine' qzf;refine' qz22;refine' qz3a;refine' qz95;refine' qz15;refine' qzcu;refine' qz22;refine' qz3a;refine' qz95;refine' qz15;refine(P2.out _ HM.out).mono ?_;refine' qz22;refine' qz3a;refine' qz95;refine' qz15;refine(P4.out _).mono ?_;refine' qz22;refine' qz3a;refine' qz95;refine' qz15;refine' qz6q
 refine' qz2m;refine' qz95;rw[h11]at c0;refine' qzf;refine' qz22;refine' qz3a;refine' qz95;refine' qz15;refine' qzcu;refine' qz22;refine' qz3a;refine' qz95;refine' qz15;refine(P2.out _ HM.out).mono ?_;refine' qz22;refine' qz3a;refine' qz95;refine' qz15;refine(P4.out _).mono ?_;refine' qz22;refine' qz3a;refine' qz95;refine' qz15;refine(P5.out _).mono ?_;refine' qz22;refine' qz3a;refine' qz95;refine' qz15;refine' qz6q
end K2
end Go.Proofs.YtllhobicfclheaaGreatDoor
