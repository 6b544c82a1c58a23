/-
  A part of a proof. No conditions.
-/
import Derived.Test.YtllhobicfclheaaGreatDoorY14
namespace Go.Proofs.YtllhobicfclheaaGreatDoor
open Go.ChangeShapes Go.WideShapes Go.ChangeAt Go.RowKit
set_option linter.unusedVariables false
set_option maxRecDepth 100000
set_option maxHeartbeats 51200000
namespace Xv
open Ms Cnt
def bt (b:ByteArray)(i:Nat):Int:=((b.data.toList.getD i 0).toNat:Int)
theorem p0h (b:ByteArray)(i:Nat)(h:i<b.size):(b[i].toNat:Int)=bt b i:=by
 refine' qz9y;rfl
theorem d0b (b:ByteArray)(i:Nat):0≤bt b i:=Int.natCast_nonneg _
theorem o0b (b:ByteArray)(i:Nat):bt b i<256:=by
 unfold bt;have:=UInt8.toNat_lt (b.data.toList.getD i 0);omega
def enc1 (x:El):List UInt8:=UInt8.ofNat x.2.toNat::UInt8.ofNat x.1.size::x.1.data.toList
def encX (l:List El):List UInt8:=l.flatMap enc1
def okX (l:List El):Bool:=mayB l 0 255
def ok1 (x:El):Prop:=0≤x.2∧x.2≤255∧x.1.size≤255
theorem z0m (x:El)(l:List El):okX (x::l)=true↔ok1 x∧okX l=true:=by
 unfold okX mayB ok1;simp
theorem j1a (a b:List El):okX (a++b)=true↔okX a=true∧okX b=true:=by
 unfold okX mayB;rw[List.all_append,Bool.and_eq_true]
theorem r1a {l:List El}(h:okX l=true):∀ x∈l,ok1 x:=by
 unfold okX mayB at h;rw[List.all_eq_true]at h;intro x hx;have:=h x hx;simpa[ok1]using this
theorem e1k:encX [] = []:=rfl
theorem m0n (x:El)(l:List El):encX (x::l)=enc1 x++encX l:=by simp[encX]
theorem u0o (a b:List El):encX (a++b)=encX a++encX b:=by simp[encX]
theorem q0x (x:El):encX [x]=enc1 x:=by simp[encX]
theorem l0b (x:El):(enc1 x).length=2+x.1.size:=by simp[enc1];omega
theorem b0g (l:List El):(encX l).length=bytesN l:=by
 induction l with
 | nil=>rfl
 | cons x l ih=>rw[m0n,List.length_append,l0b,ih];simp[bytesN]
theorem g0e (x:El)(l:List El):bytesN (x::l)=2+x.1.size+bytesN l:=by simp[bytesN]
theorem j0j (l:List El):2*l.length≤(encX l).length:=by
 rw[b0g]
 induction l with
 | nil=>exact Nat.le_refl _
 | cons x l ih=>rw[g0e,List.length_cons];omega
theorem z0g {l:List El}(h:okX l=true):bytesN l≤257*l.length:=by
 induction l with
 | nil=>exact Nat.le_refl _
 | cons x l ih=>
  rw[z0m]at h;have:=ih h.2;have:=h.1.2.2;rw[g0e,List.length_cons];omega
def cut1:List UInt8→Option (El×List UInt8)
  | t::n::r=>if n.toNat≤r.length then some ((⟨(r.take n.toNat).toArray⟩,(t.toNat:Int)),r.drop n.toNat)else none
  | _=>none
theorem d0g (t n:UInt8)(r:List UInt8):cut1 (t::n::r)=if n.toNat≤r.length then some ((⟨(r.take n.toNat).toArray⟩,(t.toNat:Int)),r.drop n.toNat)else none:=rfl
theorem w0g {r r':List UInt8}{x:El}(h:cut1 r=some (x,r')):ok1 x∧r=enc1 x++r':=by
 match r,h with
 | t::n::r,h=>
  rw[d0g]at h;by_cases hn:n.toNat≤r.length
  · rw[if_pos hn]at h;simp only[Option.some.injEq,Prod.mk.injEq]at h;obtain⟨rfl,rfl⟩:=h
    have hs:(⟨(r.take n.toNat).toArray⟩:ByteArray).size=n.toNat:=by show(r.take n.toNat).toArray.size=_;rw[List.size_toArray,List.length_take];omega
    have ht:=UInt8.toNat_lt t;have hn':=UInt8.toNat_lt n
    refine⟨⟨by simp only[];omega,by simp only[];omega,by simp only[];rw[hs];omega⟩,?_⟩
    unfold enc1;simp only[hs];simp
  · rw[if_neg hn]at h;cases h
theorem i0i {x:El}(h:ok1 x)(r:List UInt8):cut1 (enc1 x++r)=some (x,r):=by
 obtain⟨⟨d⟩,t⟩:=x;obtain⟨h0,h1,h2⟩:=h;change d.size≤255 at h2;simp only[]at h0 h1;refine' qz7e
 show cut1 (UInt8.ofNat t.toNat::UInt8.ofNat d.size::(d.toList++r))=_
 rw[d0g,e2,if_pos (by simp),e1]
 have:((t.toNat:Nat):Int)=t:=by omega
 rw[this,List.take_left' (by simp),List.drop_left' (by simp)]
theorem n1j:cut1 []=none:=rfl
def run:Nat→List UInt8→List El×List UInt8
  | 0,r=>([],r)
  | n+1,r=>match cut1 r with
    | none=>([],r)
    | some (x,r')=>(x::(run n r').1,(run n r').2)
theorem i1c {r:List UInt8}(hr:cut1 r=none):∀ (l:List El) (n:Nat),okX l=true→l.length≤n→run n (encX l++r)=(l,r)
  | [],0,_,_=>rfl
  | [],n+1,_,_=>by rw[e1k,List.nil_append];unfold run;rw[hr]
  | x::l,0,_,h=>absurd h (by simp)
  | x::l,n+1,ho,h=>by
    rw[z0m]at ho
    rw[m0n,List.append_assoc]
    unfold run
    rw[i0i ho.1]
    simp only[]
    rw[i1c hr l n ho.2 (by simpa using h)]
theorem l0i:∀ (n:Nat) (s:List UInt8),s.length≤n→∃ l r,okX l=true∧s=encX l++r∧cut1 r=none
  | 0,s,h=>⟨[],s,rfl,rfl,by rw[List.length_eq_zero_iff.1 (Nat.le_zero.1 h)];rfl⟩
  | n+1,s,h=>by
    cases hc:cut1 s with
    | none=>exact⟨[],s,rfl,rfl,hc⟩
    | some p=>
      obtain⟨x,r'⟩:=p
      obtain⟨ho,he⟩:=w0g hc
      have hl:r'.length≤n:=by
        have:=congrArg List.length he
        rw[List.length_append,l0b]at this
        omega
      obtain⟨l,r,h1,h2,h3⟩:=l0i n r' hl
      exact⟨x::l,r,(z0m _ _).2 ⟨ho,h1⟩,by rw[he,m0n,h2,List.append_assoc],h3⟩
def outX (s:ByteArray):List El×Int×Int:=
  if(run s.size s.data.toList).2 = []then((run s.size s.data.toList).1,0,0)else([],((s.size - (run s.size s.data.toList).2.length:Nat):Int),2)
theorem size_of {s:ByteArray}{t:List UInt8}(h:s.data.toList=t):s.size=t.length:=by rw[←h];simp
theorem x1k {s:ByteArray}{l:List El}{r:List UInt8}(ho:okX l=true)(hs:s.data.toList=encX l++r)(hr:cut1 r=none):run s.size s.data.toList=(l,r):=by
 rw[size_of hs,hs];refine i1c hr l _ ho ?_;have:=j0j l;rw[List.length_append];omega
theorem u0a {s:ByteArray}{l:List El}(ho:okX l=true)(hs:s.data.toList=encX l):outX s=(l,0,0):=by
 unfold outX
 rw[x1k (r:=[]) ho (by rw[hs,List.append_nil]) n1j,if_pos rfl]
theorem u0e {s:ByteArray}{l:List El}{r:List UInt8}(ho:okX l=true)(hs:s.data.toList=encX l++r)(hr:cut1 r=none)(hn:r≠[]):outX s=([],((encX l).length:Int),2):=by
 unfold outX;rw[x1k ho hs hr,if_neg hn,size_of hs,List.length_append,Nat.add_sub_cancel]
theorem out_cases (s:ByteArray):(∃ l,okX l=true∧s.data.toList=encX l∧outX s=(l,0,0))∨∃ l r,okX l=true∧s.data.toList=encX l++r∧cut1 r=none∧r≠[]∧outX s=([],((encX l).length:Int),2):=by
 refine' qz9c
theorem k0g (s:ByteArray):(outX s).1.length≤s.size:=by
 rcases out_cases s with⟨l,_,h,e⟩|⟨l,r,_,_,_,_,e⟩
 · rw[e,size_of h];have:=j0j l;simp only[];omega
 · rw[e];exact Nat.zero_le _
theorem p0o {s:ByteArray}{a b:List UInt8}{t:UInt8}(h:s.data.toList=a++t::b):bt s a.length=(t.toNat:Int):=by
 unfold bt;rw[h,List.getD_eq_getElem?_getD,List.getElem?_append_right (Nat.le_refl _),Nat.sub_self];rfl
theorem cutout {s:ByteArray}{a b c:List UInt8}{i j:Nat}(h:s.data.toList=a++(b++c))(hi:a.length=i)(hj:i+b.length=j):s.extract i j=⟨b.toArray⟩:=by
 subst hi hj;apply ByteArray.ext;apply Array.ext';rw[ByteArray.data_extract,Array.toList_extract,h];simp
theorem j1l {s:ByteArray}{a r r':List UInt8}{x:El}{p:Nat}(h:s.data.toList=a++r)(hp:a.length=p)(hc:cut1 r=some (x,r')) :
    s.size=p+2+x.1.size+r'.length∧bt s p=x.2∧bt s (p+1)=(x.1.size:Int)∧s.extract (p+2) (p+2+x.1.size)=x.1∧s.extract (p+2+x.1.size) s.size=⟨r'.toArray⟩∧ok1 x:=by
 subst hp;obtain⟨ho,he⟩:=w0g hc;subst he
 have hz:s.size=a.length+2+x.1.size+r'.length:=by
  rw[size_of h,List.length_append,List.length_append,l0b];omega
 obtain⟨⟨d⟩,t⟩:=x;have hok:=ho;obtain⟨h0,h1,h2⟩:=ho;change d.size≤255 at h2;simp only[]at h0 h1;refine' qz7e;change s.data.toList=a++(UInt8.ofNat t.toNat::UInt8.ofNat d.size::(d.toList++r'))at h;refine⟨hz,?_,?_,?_,?_,hok⟩
 · rw[p0o h,e1];show((t.toNat:Nat):Int)=t;omega
 · have h':s.data.toList=(a ++ [UInt8.ofNat t.toNat])++UInt8.ofNat d.size::(d.toList++r'):=by rw[h];simp
   have:=p0o h';rw[List.length_append]at this
   rw[show a.length+1=a.length + [UInt8.ofNat t.toNat].length from rfl,this,e2]
   rfl
 · have h':s.data.toList=(a ++ [UInt8.ofNat t.toNat,UInt8.ofNat d.size])++(d.toList++r'):=by rw[h];simp
   exact cutout h' (by simp) (by simp;rfl)
 · have h':s.data.toList=(a ++ [UInt8.ofNat t.toNat,UInt8.ofNat d.size]++d.toList)++(r' ++ []):=by rw[h];simp
   change s.size=a.length+2+d.size+r'.length at hz
   show s.extract (a.length+2+d.size) s.size=_
   rw[cutout h' (by simp;omega) hz.symm]
theorem b1m {s:ByteArray}{a r:List UInt8}{p:Nat}(h:s.data.toList=a++r)(hp:a.length=p)(hc:cut1 r=none) :
    s.size=p+r.length∧(s.size<p+2∨p+2≤s.size∧(s.size:Int)<p+2+bt s (p+1)):=by
 subst hp
 have hz:s.size=a.length+r.length:=by rw[size_of h,List.length_append]
 refine⟨hz,?_⟩
 match r,hc,hz,h with
 | [],_,hz,_=>left;rw[hz];simp
 | [_],_,hz,_=>left;rw[hz];simp
 | t::n::r,hc,hz,h=>
  right;rw[d0g]at hc
  have hn:¬n.toNat≤r.length:=fun hn=>by rw[if_pos hn]at hc;cases hc
  have h':s.data.toList=(a ++ [t])++n::r:=by rw[h];simp
  have:=p0o h';rw[List.length_append]at this;change bt s (a.length+1)=_ at this;rw[this,hz];simp only[List.length_cons];omega
end Xv
namespace Q1
open Ms Cnt Xv
open Cur (numL)
open Oct (fitsB)
open Nu
open Own (k3)
def bare (m:M):Bool:=M.same m { k3 m with kind:=m.kind}
def nums (m:M):Bool:=decide (0≤m.flags∧m.flags≤31)&&(fitsB m.hops 1&&(fitsB m.nonce 4&&(fitsB m.seq 4&&fitsB m.seq2 4)))
def okQ (m:M):Bool:=decide (m.kind=3)&&(bare m&&(nums m&&(decide (m.addr.size=4)&&(decide (m.orig.size=4)&&okX m.sl))))
def hd (m:M):List UInt8:=1::UInt8.ofNat (8*m.flags.toNat)::0::UInt8.ofNat m.hops.toNat::(layN m.nonce 4++(m.addr.data.toList++(layN m.seq 4++(m.orig.data.toList++layN m.seq2 4))))
def encQ (m:M):List UInt8:=hd m++encX m.sl
def putQ (m:M):ByteArray:=if okQ m then⟨(encQ m).toArray⟩else⟨#[]⟩
theorem g0i {m:M}(h:okQ m=true):putQ m=⟨(encQ m).toArray⟩:=by unfold putQ;rw[if_pos h]
theorem y1n {m:M}(h:okQ m=false):putQ m=⟨#[]⟩:=by unfold putQ;rw[if_neg (by rw[h];exact Bool.false_ne_true)]
def num4 (s:ByteArray)(a:Nat):Int:=((numL ((s.data.toList.drop a).take 4):Nat):Int)
def hdM (s:ByteArray):M:={ M.zero with kind:=3,flags:=bt s 1 / 8,hops:=bt s 3,nonce:=num4 s 4,addr:=s.extract 8 12,seq:=num4 s 12,orig:=s.extract 16 20,seq2:=num4 s 20}
def outQ (s:ByteArray):M×Int×Int:=
  if s.size<24 then(M.zero,(s.size:Int),2)else if bt s 1%8≠0∨bt s 2≠0 then(M.zero,1,5)
  else if(outX (s.extract 24 s.size)).2.2=0 then({ hdM s with sl:=(outX (s.extract 24 s.size)).1},0,0)else(M.zero,24+(outX (s.extract 24 s.size)).2.1,(outX (s.extract 24 s.size)).2.2)
theorem x0e {s:ByteArray}(h:s.size<24):outQ s=(M.zero,(s.size:Int),2):=by unfold outQ;rw[if_pos h]
theorem t0r {s:ByteArray}(h:¬s.size<24)(k:bt s 1%8≠0∨bt s 2≠0):outQ s=(M.zero,1,5):=by unfold outQ;rw[if_neg h,if_pos k]
theorem r0f {s:ByteArray}{l:List El}{i e:Int}(h:¬s.size<24)(k:¬(bt s 1%8≠0∨bt s 2≠0))(o:outX (s.extract 24 s.size)=(l,i,e))(he:e≠0):outQ s=(M.zero,24+i,e):=by
 unfold outQ;rw[if_neg h,if_neg k,o,if_neg he]
theorem u0a {s:ByteArray}{l:List El}{i:Int}(h:¬s.size<24)(k:¬(bt s 1%8≠0∨bt s 2≠0))(o:outX (s.extract 24 s.size)=(l,i,0)):outQ s=({ hdM s with sl:=l},0,0):=by
 unfold outQ;rw[if_neg h,if_neg k,o,if_pos rfl]
theorem cuts (c0 c1 c2 c3:UInt8)(x1 x2 x3 x4 x5 r:List UInt8)(h1:x1.length=4)(h2:x2.length=4)(h3:x3.length=4)(h4:x4.length=4)(h5:x5.length=4) :
    ((c0::c1::c2::c3::(x1++(x2++(x3++(x4++(x5++r)))))).drop 4).take 4=x1∧((c0::c1::c2::c3::(x1++(x2++(x3++(x4++(x5++r)))))).drop 8).take 4=x2∧
    ((c0::c1::c2::c3::(x1++(x2++(x3++(x4++(x5++r)))))).drop 12).take 4=x3∧((c0::c1::c2::c3::(x1++(x2++(x3++(x4++(x5++r)))))).drop 16).take 4=x4∧
    ((c0::c1::c2::c3::(x1++(x2++(x3++(x4++(x5++r)))))).drop 20).take 4=x5∧(c0::c1::c2::c3::(x1++(x2++(x3++(x4++(x5++r)))))).drop 24=r∧
    (c0::c1::c2::c3::(x1++(x2++(x3++(x4++(x5++r)))))).length=24+r.length:=by
 match x1,h1,x2,h2,x3,h3,x4,h4,x5,h5 with
 | [_,_,_,_],_,[_,_,_,_],_,[_,_,_,_],_,[_,_,_,_],_,[_,_,_,_],_=>exact⟨rfl,rfl,rfl,rfl,rfl,rfl,by simp;omega⟩
theorem four (t:List UInt8)(k:Nat)(l:List UInt8)(h:l.drop k=t):t=(l.drop k).take 4++l.drop (k+4):=by
 rw[h,←List.drop_drop,h,List.take_append_drop]
theorem parts (l:List UInt8)(h:24≤l.length):l=l.getD 0 0::l.getD 1 0::l.getD 2 0::l.getD 3 0::((l.drop 4).take 4++((l.drop 8).take 4++((l.drop 12).take 4++((l.drop 16).take 4++((l.drop 20).take 4++l.drop 24))))):=by
 rw[←four (l.drop 20) 20 l rfl,←four (l.drop 16) 16 l rfl,←four (l.drop 12) 12 l rfl,←four (l.drop 8) 8 l rfl,←four (l.drop 4) 4 l rfl];refine' qzde
theorem len4 (s:ByteArray)(a:Nat)(h:a+4≤s.size):((s.data.toList.drop a).take 4).length=4:=by simp;omega
theorem ext4 (s:ByteArray)(a b:Nat)(h:b=a+4):(s.extract a b).data.toList=(s.data.toList.drop a).take 4:=by subst h;rw[n0a,Nat.add_sub_cancel_left]
theorem c0a (a:ByteArray):a.data.toList.length=a.size:=by simp
structure Ok (m:M):Prop where
  kind:m.kind=3
  bare:bare m=true
  nums:nums m=true
  addr:m.addr.size=4
  orig:m.orig.size=4
  subs:okX m.sl=true
structure Nums (m:M):Prop where
  f0:0≤m.flags
  f1:m.flags≤31
  hops:fitsB m.hops 1=true
  nonce:fitsB m.nonce 4=true
  seq:fitsB m.seq 4=true
  seq2:fitsB m.seq2 4=true
theorem x0a (m:M):okQ m=true↔Ok m:=by
 unfold okQ;refine' qzd3
 exact⟨fun⟨a,b,c,d,e,f⟩=>⟨a,b,c,d,e,f⟩,fun⟨a,b,c,d,e,f⟩=>⟨a,b,c,d,e,f⟩⟩
theorem a0d (m:M):nums m=true↔Nums m:=by
 unfold nums;refine' qzd3
 exact⟨fun⟨⟨a,b⟩,c,d,e,f⟩=>⟨a,b,c,d,e,f⟩,fun⟨a,b,c,d,e,f⟩=>⟨⟨a,b⟩,c,d,e,f⟩⟩
theorem s0j {n:Int}(h:fitsB n 1=true):0≤n∧n<256:=by
 obtain⟨_,_,h0,h1⟩:=(Oct.e0b n 1).1 h
 exact⟨h0,by simpa[Oct.pw]using h1⟩
theorem n0k {n:Int}(h0:0≤n)(h1:n<256):fitsB n 1=true:=(Oct.e0b n 1).2 ⟨by omega,by omega,h0,by simpa[Oct.pw]using h1⟩
theorem v0m {n:Nat}(h:n<256):(UInt8.ofNat n).toNat=n:=by rw[UInt8.toNat_ofNat'];omega
theorem k0c (m:M)(h:okQ m=true):outQ ⟨(encQ m).toArray⟩=({ k3 m with kind:=3,sa:=none,sc:=0},0,0):=by
 obtain⟨hk,_,hn,ha,ho,hx⟩:=(x0a m).1 h;obtain⟨f0,f1,n1,n2,n3,n4⟩:=(a0d m).1 hn
 have hl:(⟨(encQ m).toArray⟩:ByteArray).data.toList=UInt8.ofNat 1::UInt8.ofNat (8*m.flags.toNat)::UInt8.ofNat 0::UInt8.ofNat m.hops.toNat::(layN m.nonce 4++(m.addr.data.toList++(layN m.seq 4++(m.orig.data.toList++(layN m.seq2 4++encX m.sl))))):=by
  simp[encQ,hd,List.append_assoc]
 generalize (⟨(encQ m).toArray⟩:ByteArray)=s at *
 obtain⟨q1,q2,q3,q4,q5,q6,q7⟩:=cuts (UInt8.ofNat 1) (UInt8.ofNat (8*m.flags.toNat)) (UInt8.ofNat 0) (UInt8.ofNat m.hops.toNat) (layN m.nonce 4) m.addr.data.toList (layN m.seq 4) m.orig.data.toList (layN m.seq2 4) (encX m.sl) (s0a n2) (by rw[c0a];exact ha) (s0a n3) (by rw[c0a];exact ho) (s0a n4)
 have hz:¬s.size<24:=by rw[←c0a,hl,q7];omega
 have b1:bt s 1=8*m.flags:=by
  unfold bt;rw[hl]
  show((UInt8.ofNat (8*m.flags.toNat)).toNat:Int)=_
  refine' qz9s
 have b2:bt s 2=0:=by unfold bt;rw[hl];rfl
 obtain⟨h0,h1⟩:=s0j n1
 have b3:bt s 3=m.hops:=by
  unfold bt;rw[hl]
  show((UInt8.ofNat m.hops.toNat).toNat:Int)=_
  refine' qz9s
 have t:(s.extract 24 s.size).data.toList=encX m.sl:=by
  rw[n0a,hl,q6,List.take_of_length_le];rw[←c0a,hl,q7];omega
 rw[u0a hz (by omega) (Xv.u0a hx t)]
 have e:hdM s={ k3 m with kind:=3,sa:=none,sl:=[],sc:=0}:=by
  unfold hdM k3 num4
  rw[b1,b3,hl,q1,q3,q5,c0f n2,c0f n3,c0f n4,k0a (a:=s.extract 8 12) (b:=m.addr) (by rw[ext4 s 8 12 rfl,hl,q2]),k0a (a:=s.extract 16 20) (b:=m.orig) (by rw[ext4 s 16 20 rfl,hl,q4]),show 8*m.flags / 8=m.flags by omega]
  rfl
 rw[e];rfl
theorem d0s (s:ByteArray)(l:List El)(h:¬s.size<24)(k:¬(bt s 1%8≠0∨bt s 2≠0))(h0:bt s 0=1)(hx:okX l=true)(o:(s.extract 24 s.size).data.toList=encX l) :
    okQ { hdM s with sl:=l}=true∧encQ { hdM s with sl:=l}=s.data.toList:=by
 have hz:24≤s.data.toList.length:=by rw[c0a];omega
 have hl:=parts _ hz;have g1:(numL ((s.data.toList.drop 4).take 4):Int)=num4 s 4:=rfl
 have w1:=len4 s 4 (by omega)
 have w2:=len4 s 8 (by omega)
 have w3:=len4 s 12 (by omega)
 have w4:=len4 s 16 (by omega)
 have w5:=len4 s 20 (by omega)
 have e24:s.data.toList.drop 24=encX l:=by
  rw[←o,n0a,List.take_of_length_le];rw[List.length_drop,c0a];exact Nat.le_refl _
 have k1:bt s 1%8=0:=by omega
 have k2:bt s 2=0:=by omega
 have p1:=d0b s 1;have p2:=o0b s 1;have p3:=d0b s 3;have p4:=o0b s 3;refine⟨(x0a _).2 ⟨rfl,?_,(a0d _).2 ⟨?_,?_,?_,?_,?_,?_⟩,?_,?_,hx⟩,?_⟩
 · unfold bare M.same M.flatE k3 hdM M.zero;simp
 · show 0≤bt s 1 / 8;omega
 · show bt s 1 / 8≤31;omega
 · exact n0k p3 p4
 · exact v0f _ 4 w1 (by omega) (by omega)
 · exact v0f _ 4 w3 (by omega) (by omega)
 · exact v0f _ 4 w5 (by omega) (by omega)
 · show(s.extract 8 12).size=4;rw[←c0a,ext4 s 8 12 rfl];exact w2
 · show(s.extract 16 20).size=4;rw[←c0a,ext4 s 16 20 rfl];exact w4
 · unfold encQ hd
   show(1::UInt8.ofNat (8*(bt s 1 / 8).toNat)::0::UInt8.ofNat (bt s 3).toNat::(layN (num4 s 4) 4++((s.extract 8 12).data.toList++(layN (num4 s 12) 4++((s.extract 16 20).data.toList++layN (num4 s 20) 4)))))++encX l=_
   unfold num4
   rw[x0k _ 4 w1 (by omega) (by omega),x0k _ 4 w3 (by omega) (by omega),x0k _ 4 w5 (by omega) (by omega),ext4 s 8 12 rfl,ext4 s 16 20 rfl,←e24]
   have c0:(1:UInt8)=s.data.toList.getD 0 0:=by
    refine' qz9t;have:((s.data.toList.getD 0 0).toNat:Int)=1:=h0
    show 1=_
    omega
   have c1:UInt8.ofNat (8*(bt s 1 / 8).toNat)=s.data.toList.getD 1 0:=by
    refine' qz9t;have:((s.data.toList.getD 1 0).toNat:Int)=bt s 1:=rfl;refine' qz9s
   have c2:(0:UInt8)=s.data.toList.getD 2 0:=by
    refine' qz9t;have:((s.data.toList.getD 2 0).toNat:Int)=0:=k2
    show 0=_
    omega
   refine' qz9u;simp only[List.cons_append,List.append_assoc]
theorem out_cases (s:ByteArray):(outQ s).2.2≠0∧(outQ s).1=M.zero∧0≤(outQ s).2.1∧(outQ s).2.1≤s.size∨
    ((outQ s).2.1=0∧(outQ s).2.2=0∧(bt s 0=1→okQ (outQ s).1=true∧encQ (outQ s).1=s.data.toList)):=by
 by_cases h:s.size<24
 · left;rw[x0e h]
   exact⟨by show(2:Int)≠0;decide,rfl,by simp only[];omega,by simp only[];omega⟩
 by_cases k:bt s 1%8≠0∨bt s 2≠0
 · left;rw[t0r h k]
   exact⟨by decide,rfl,by decide,by simp only[];omega⟩
 rcases Xv.out_cases (s.extract 24 s.size)with⟨l,h1,h2,h3⟩|⟨l,r,h1,h2,h3,h4,h5⟩
 · right;rw[u0a h k h3]
   exact⟨rfl,rfl,fun h0=>d0s s l h k h0 h1 h2⟩
 · left
   rw[r0f h k h5 (by decide)]
   refine⟨by show(2:Int)≠0;decide,rfl,by simp only[];omega,?_⟩
   have:=congrArg List.length h2;rw[List.length_append,c0a]at this;simp at this;simp only[];omega
end Q1
namespace Sx
open Ms
open Bk (Bk Sh)
def cellsS (x:El):Array Value:=#[.int .i64 x.2,.string x.1]
theorem oneS (x:El):((cellsS x).all fun x=>x.oneCell')=true:=by simp[cellsS,Value.oneCell']
theorem shS:Sh Tryz.prog 50 2:=⟨_,Tryz.underlying50,by kernel_rfl⟩
theorem w0i (x:El)(w:World):(Instr.buildSlice 27 1 #[(0,.agg (cellsS x))]).run Tryz.prog w = .ok (.slice (some ⟨w.heap.size,0,none⟩) 1 1) (w.alloc (.cells (cellsS x) 50)):=by
 kernel_rfl
theorem c0h {o:Oper}{ρ:Operand→Value}{x:Operand}{m:El}{w:World}(ho:o.op = .buildSlice 27 1 #[(0,x)])(hx:ρ x = .agg (cellsS m)) :
    (execOp ρ o).run Tryz.prog w = .ok (.value (.slice (some ⟨w.heap.size,0,none⟩) 1 1)) (w.alloc (.cells (cellsS m) 50)):=by
 have e:((#[(0,x)]:Array (Nat×Operand)).map fun(i,x)=>(i,ρ x)) = #[(0,.agg (cellsS m))]:=by simp[hx]
 refine' qz74
theorem j0c {ops:Array Oper}{rest:List Oper}{o:Oper}{a:Act}{w:World}{Q:Exit→Act→World→Prop}(hgd:o.guard=none)(x:Operand)(ho:o.op = .buildSlice 27 1 #[(0,x)])
    {m:El} (hx:a.eval x = .agg (cellsS m)) (h:wpList Tryz.prog ops Q rest (a.put o.dst (.slice (some ⟨w.heap.size,0,none⟩) 1 1)) (w.alloc (.cells (cellsS m) 50))):wpList Tryz.prog ops Q (o::rest) a w:=
  wpList_plain hgd fun K hK=>by
    unfold Oper.wp
    rw[c0h ho hx]
    exact hK _ _ h
theorem p0b (g o j:Nat):(⟨g,o,none⟩:Addr).add j=⟨g,o+j,none⟩:=by
 refine' qz9j
def rowS (l:List El):List Value:=l.flatMap fun x=>(cellsS x).toList
theorem b1f (l:List El)(m:El):rowS (l ++ [m])=rowS l++(cellsS m).toList:=by simp[rowS]
theorem b1d:∀ (l:List El) (i j:Nat) (h:i<l.length),j<2→(rowS l)[i*2+j]?=((cellsS l[i]).toList)[j]?
  | [],i,j,h,_=>absurd h (by simp)
  | m::l,0,j,h,hj=>by
    have:rowS (m::l)=(cellsS m).toList++rowS l:=by simp[rowS]
    rw[this,Nat.zero_mul,Nat.zero_add,List.getElem?_append_left (by show j<(cellsS m).toList.length;exact hj)]
    rfl
  | m::l,i+1,j,h,hj=>by
    have e:rowS (m::l)=(cellsS m).toList++rowS l:=by simp[rowS]
    have hl:(cellsS m).toList.length=2:=rfl
    rw[e,List.getElem?_append_right (by rw[hl];omega),hl,show(i+1)*2+j - 2=i*2+j by omega,b1d l i j (by simpa using h) hj]
    rfl
theorem infoS:∃ i,Tryz.prog.info? 50=some i∧i.zero=some (.agg #[.int .i64 0,.string ByteArray.empty])∧i.size=2∧i.bytes≤4096:=by
 have h:(Tryz.prog.info? 50).map (fun i=>(i.zero,i.size,decide (i.bytes≤4096)))=some (some (.agg #[.int .i64 0,.string ByteArray.empty]),2,true):=by kernel_rfl
 refine' qz65;exact⟨i,hi,hz⟩
def Lst (B:Nat)(w:World)(v:Value)(l:List El):Prop:=w.ownsRow B 50 2 v l.length (rowS l)
theorem Lst.nil (B:Nat)(w:World):Lst B w (.slice none 0 0) []:=World.ownsRow_nil w B _ 2
theorem Lst.below {B:Nat}{w w':World}{v:Value}{l:List El}(h:Lst B w v l)(hb:Below w.heap.size w w'):Lst B w' v l:=by
 refine' qz1h
theorem Lst.slice {B:Nat}{w:World}{v:Value}{l:List El}(h:Lst B w v l):∃ a c,v = .slice a l.length c:=by
 refine' qzd4
theorem Lst.row {B:Nat}{w:World}{a:Option Addr}{c:Nat}{l:List El}(h:Lst B w (.slice a l.length c) l):SRow w a l:=by
 intro i hi
 rcases h.2 with⟨_,h0⟩|⟨g,cap,cur,hv,hb,hg,_⟩
 · omega
 · simp at hv;obtain⟨rfl,rfl⟩:=hv
   have hat:∀ j v,j<2→((cellsS l[i]).toList)[j]?=some v→w.cell? (((⟨g,0,none⟩:Addr).add (i*2)).add j)=some v:=fun j v hj hv=>by
    have:=World.ownsRow.cells h (g:=g) rfl (i*2+j) v (by rw[b1d l i j hi hj];exact hv)
    rw[p0b]at this;rw[p0b,p0b,Nat.add_assoc];exact this
   exact⟨⟨g,0,none⟩,rfl,(Array.getElem?_eq_some_iff.1 hg).1,hat 0 _ (by decide) rfl,hat 1 _ (by decide) rfl⟩
theorem z0a (m:El)(w:World):∀ j u,((cellsS m).toList)[j]?=some u→(w.alloc (.cells (cellsS m) 50)).cell? ((⟨w.heap.size,0,none⟩:Addr).add j)=some u:=by
 intro j u hu
 have:=(Bk.Bk.new 50 w (cellsS m)).cell j u (by simpa using hu)
 rw[p0b,Nat.zero_add];exact this
theorem a0m {o:Oper}{a:Act}{w:World}{Q:Exit→Act→World→Prop}{K:Act→World→Prop}(s x:Operand)
    (ho:o.op = .call { callee := .builtin .append,args:=#[s,x],argTypes:=#[27,27]}) (B:Nat) (v:Value) (l:List El) (m:El) (g c:Nat)
    (hs:a.eval s=v) (hown:Lst B w v l) (hx:a.eval x = .slice (some ⟨g,0,none⟩) 1 c) (hm:∀ j u,((cellsS m).toList)[j]?=some u→w.cell? ((⟨g,0,none⟩:Addr).add j)=some u)
    (hl:l.length≤100000) (hB:B≤w.heap.size)
    (h:∀ v' w',Lst B w' v' (l ++ [m])→w.grownBy w' v.ownBlock→Below B w w'→K (a.put o.dst v') w'):Oper.wp Tryz.prog o a w K Q:=by
 obtain⟨i0,hi,hz,hsz,hby⟩:=infoS
 refine wp_append_own w s x 27 ho B 50 i0 (.agg #[.int .i64 0,.string ByteArray.empty]) 2 i0.bytes Tryz.underlying27 hi hz hsz rfl rfl (by decide) v l.length (rowS l) hs hown ⟨g,0,none⟩ 1 c (cellsS m).toList hx rfl hm ?_ (by unfold maxLen;omega) ?_ hB ?_
 · intro u hu;have:=oneS m;refine' qzb1
 · have:(l.length+1)*i0.bytes≤100001*4096:=Nat.mul_le_mul (by omega) hby
   omega
 · refine' qz5c;unfold Lst;rw[b1f,List.length_append];exact h2
theorem f0d {ops:Array Oper}{rest:List Oper}{o:Oper}{a:Act}{w:World}{Q:Exit→Act→World→Prop}(hgd:o.guard=none)(s x:Operand)
    (ho:o.op = .call { callee := .builtin .append,args:=#[s,x],argTypes:=#[27,27]}) (B:Nat) (v:Value) (l:List El) (m:El) (g c:Nat)
    (hs:a.eval s=v) (hown:Lst B w v l) (hx:a.eval x = .slice (some ⟨g,0,none⟩) 1 c) (hm:∀ j u,((cellsS m).toList)[j]?=some u→w.cell? ((⟨g,0,none⟩:Addr).add j)=some u)
    (hl:l.length≤100000) (hB:B≤w.heap.size)
    (h:∀ v' w',Lst B w' v' (l ++ [m])→Below B w w'→w.heap.size≤w'.heap.size→wpList Tryz.prog ops Q rest (a.put o.dst v') w'):wpList Tryz.prog ops Q (o::rest) a w:=
  wpList_plain hgd fun K hK=>a0m s x ho B v l m g c hs hown hx hm hl hB fun v' w' h1 h2 h3=>hK _ _ (h v' w' h1 h3 h2.size)
section
variable {P:Program} {ops:Array Oper} {Q:Exit→Act→World→Prop} {md:Region.Mode} {S:World→Prop}
end
section
variable {ops:Array Oper} {Q:Exit→Act→World→Prop} {md:Region.Mode} {S:World→Prop}
end
end Sx
namespace Xc
open Ms Xv Sx Hs Hx Cnt
open Bk (Bk Sh loadVarK d0a f0a a0a o0a below_setRow)
theorem idx (b:ByteArray)(k:Nat)(i:Int)(hi:i=k)(h:k<b.size)(W:World):(Instr.index 9 (.string b) (.int .i64 i)).run Tryz.prog W = .ok (.int .u8 (bt b k)) W:=by
 refine' qzak;rfl
theorem sl_m (s:ByteArray)(i j:Int)(lo hi:Nat)(hi':i=lo)(hj:j=hi)(h1:lo≤hi)(h2:hi≤s.size)(W:World) :
    (Instr.slice 9 (.string s) (some (.int .i64 i)) (some (.int .i64 j)) none).run Tryz.prog W = .ok (.string (s.extract lo hi)) W:=by
 subst hi' hj;refine' qz5m
theorem sl_l (s:ByteArray)(i:Int)(lo hi:Nat)(hi':i=lo)(h1:lo≤s.size)(hs:s.size=hi)(W:World) :
    (Instr.slice 9 (.string s) (some (.int .i64 i)) none none).run Tryz.prog W = .ok (.string (s.extract lo hi)) W:=by
 subst hi' hs;refine' qz8u
theorem t0a {P:Program}{fn:Func}{p q r:Nat}{ty:TypeId}(h:fn.results = #[.cell p ty,.tmp q,.tmp r])(tmps:Array Value)(w:World)(g:Nat)(u:Value)
    (hp:tmps.getD p undef = .pointer (some ⟨g,0,none⟩)) (hl:(loadVar ty ⟨g,0,none⟩).run P w = .ok u w) (v:Value) (hv:tmps.getD q undef=v) (x:Value) (hx:tmps.getD r undef=x) :
    (results fn tmps).run P w = .ok (.tuple #[u,v,x]) w:=by
 refine' qz30
 have hx':tmps[r]?.getD undef=x:=by simpa using hx
 simp[results,h,hp',hv',hx',asAddr,hl]
def zeroS:El:=(⟨#[]⟩,0)
theorem z1p (b:ByteArray)(w:World)(hs:b.size≤1048576)(h:cut1 b.data.toList=none) :
    Calls Tryz.prog 279 #[.string b] w fun e w'=>e = .returned (.tuple #[.agg (cellsS zeroS),.string ⟨#[]⟩,.bool false])∧Below w.heap.size w w':=by
 have B0:=Lib.hid (Bk.Bk.new 50 w #[.int .i64 0,.string ⟨#[]⟩]);have hb:=Lib.hid (below_setRow ((Below.refl w.heap.size w).alloc (Nat.le_refl _) (.cells #[.int .i64 0,.string ⟨#[]⟩] 50)) (Nat.le_refl _) (cellsS zeroS))
 obtain⟨-,h2|⟨h2,h3⟩⟩:=b1m (s:=b) (a:=[]) (p:=0) rfl rfl h
 · have h2:b.size<2:=by omega
   clear h hs;go_in;refine' qz4z
 · have h2:2≤b.size:=by omega
   have hbs:(b.size:Int)≤1048576:=by omega
   clear h hs
   have h3:(b.size:Int)<2+bt b 1:=by simpa using h3
   have j1:=idx b 1 1 rfl (by omega)
   have v1:=i0e (bt b 1) (d0b _ _) (o0b _ _);have k1:=d0b b 1;have k2:=o0b b 1;generalize bt b 1=n at *;go_in;refine' qz4z
theorem p1m (b:ByteArray)(x:El)(r:List UInt8)(w:World)(hs:b.size≤1048576)(h:cut1 b.data.toList=some (x,r)) :
    Calls Tryz.prog 279 #[.string b] w fun e w'=>e = .returned (.tuple #[.agg (cellsS x),.string ⟨r.toArray⟩,.bool true])∧Below w.heap.size w w':=by
 have B0:=Lib.hid (Bk.Bk.new 50 w #[.int .i64 0,.string ⟨#[]⟩]);have hb:=Lib.hid (below_setRow ((Below.refl w.heap.size w).alloc (Nat.le_refl _) (.cells #[.int .i64 0,.string ⟨#[]⟩] 50)).drew (Nat.le_refl _) (cellsS x));obtain⟨hz,e0,e1,e2,e3,_⟩:=j1l (s:=b) (a:=[]) (p:=0) rfl rfl h;clear h;rw[Nat.zero_add]at hz e1 e2 e3
 have j0:=idx b 0 0 rfl (by omega)
 have j1:=idx b 1 1 rfl (by omega)
 have v0:=i0e (bt b 0) (d0b _ _) (o0b _ _);have v1:=i0e (bt b 1) (d0b _ _) (o0b _ _);have k0:=d0b b 0;have k1:=d0b b 1;have k2:=o0b b 1;rw[e1]at v1 j1 k1 k2;rw[e0]at v0 j0 k0
 have s2:=sl_m b 2 (2+(x.1.size:Int)) 2 (2+x.1.size) rfl (by push_cast;omega) (by omega) (by omega)
 have s3:=sl_l b (2+(x.1.size:Int)) (2+x.1.size) b.size (by push_cast;omega) (by omega) rfl
 rw[e2]at s2;rw[e3]at s3
 have HX:=Lib.hid (show cellsS x = #[.int .i64 x.2,.string x.1]from rfl)
 have hlt:¬(b.size:Int)<2+(x.1.size:Int):=by omega
 have h2:2≤b.size:=by omega
 have hbs:(b.size:Int)≤1048576:=by omega
 clear hz e0 e1 e2 e3 hs;go_in;refine' qzcp
 refine wp_region_held_drew (S:=fun _=>True) (by kernel_rfl) trivial (fun hS=>?_)
 refine' qz1g;refine' qz1z;refine' qza2;refine' qz20;refine' qz21;refine' qz0;refine H.tk (i:=6) (v := .agg (cellsS x)) ?h6 hS ?_
 case h6=>exact fun w _=>r0c rfl (by kernel_rfl)
 refine' qz61;refine' qz84;refine' qzcd
 refine H.storeRow (i:=10) (g:=w.heap.size) (cells:=cellsS x) (by simp only[List.getElem?_toArray,List.getElem?_cons_succ,List.getElem?_cons_zero];rfl) (by kernel_rfl) rfl rfl (by kernel_rfl) rfl rfl 50 #[.int .i64 0,.string ⟨#[]⟩] B0.out (by kernel_rfl) rfl (oneS x) trivial ?_
 refine' qzc1
 refine H.tk (i:=12) (v:=(Value.bool true)) (fun w _=>rfl) hS ?_
 refine' qz8v;exact bodyPost_ret (v := .tuple #[.agg (cellsS x),.string ⟨r.toArray⟩,.bool true]) (t0a (ty:=50) rfl _ _ w.heap.size (.agg (cellsS x)) rfl (loadVarK shS (B0.out.drew.put (cellsS x)) rfl) (.string ⟨r.toArray⟩) rfl (.bool true) rfl) rfl ⟨rfl,hb.out⟩
def AnsL (p:List El×Int×Int)(w:World)(e:Ending)(w':World):Prop:=
  ∃ a c,e = .returned (.tuple #[.slice a p.1.length c,.int .i64 p.2.1,.int .i64 p.2.2])∧Lst w.heap.size w' (.slice a p.1.length c) p.1∧Below w.heap.size w w'
theorem AnsL.no {p:List El×Int×Int}{w w':World}{c d:Int}(h:p=([],c,d))(hb:Below w.heap.size w w'):AnsL p w (.returned (.tuple #[.slice none 0 0,.int .i64 c,.int .i64 d])) w':=by
 subst h;exact⟨none,0,rfl,Lst.nil _ _,hb⟩
theorem AnsL.yes {p:List El×Int×Int}{w w':World}{a:Option Addr}{c n:Nat}{l:List El}(h:p=(l,0,0))(hn:l.length=n)(hl:Lst w.heap.size w' (.slice a n c) l)(hb:Below w.heap.size w w'):AnsL p w (.returned (.tuple #[.slice a n c,.int .i64 0,.int .i64 0])) w':=by
 subst h hn;exact⟨a,c,rfl,hl,hb⟩
def strLen (v:Value):Nat:=match v with | .string x=>x.size|_=>0
theorem c0e (b:ByteArray)(w:World)(hs:b.size≤200000):Calls Tryz.prog 231 #[.string b] w (AnsL (outX b) w):=by
 have HS:=Lib.hid hs;clear hs;go_in;go_wp2
 go_loopw [5,6] (fun v rv wr=>∃ (l:List El) (u:ByteArray),rv = .string u∧Hid (Lst w.heap.size wr v l)∧Hid (okX l=true)∧Hid (b.data.toList=encX l++u.data.toList)∧Hid (Below w.heap.size w wr)) (fun _ rv _=>strLen rv)
 case atStart=>exact⟨[],b,rfl,Lib.hid (Lst.nil _ _),Lib.hid rfl,Lib.hid rfl,Lib.hid (Below.refl _ _)⟩
 case round=>
  obtain⟨l,u,rfl,HL,HO,HE,HB⟩:=hrel
  have HZ:Hid (b.size=(encX l).length+u.size):=Lib.hid (by rw[size_of HE.out,List.length_append];rfl)
  by_cases hu:u.data.toList = []
  · have HY:=Lib.hid (u0a HO.out (by rw[HE.out,hu,List.append_nil]))
    have e1:u.toList = []:=by rw[ByteArray.toList_eq];exact hu
    obtain⟨a,c,rfl⟩:=HL.out.slice;have HW:=Lib.hid HL.out;clear hu HL;refine' qz5w;exact AnsL.yes HY.out rfl HW.out HB.out
  · have e1:¬u.toList = []:=by rw[ByteArray.toList_eq];exact hu
    have e2:(u.toList == [])=false:=by simpa using e1
    have e3:u.toList.isEmpty=false:=by simpa using e1
    have HU:Hid (u.size≤1048576):=Lib.hid (by have:=HS.out;have:=HZ.out;omega)
    cases hc:cut1 u.data.toList with
    | none=>
     have HY:=Lib.hid (u0e HO.out HE.out hc hu)
     have PC:=Lib.hid (fun W=>z1p u W HU.out hc)
     have HN:Hid (((encX l).length:Int)=wrap64 ((b.size:Int) - (u.size:Int))):=Lib.hid (by have h1:=HZ.out;have h2:=HS.out;clear hu hc;rw[show(b.size:Int) - (u.size:Int)=((encX l).length:Int) by omega];exact(IntWalk.wrap64_in ((encX l).length:Int) (by omega)).symm)
     clear hu hc HL HE;refine' qz5d;refine' qz75;refine' qz6;clear hb PC;have HB:=Lib.hid (below_setRow (balloc HB.out (.cells #[.int .i64 0,.string ⟨#[]⟩] 50)) HB.out.size (cellsS zeroS))
     go_wp2_with (first|(refine a0a (b:=w1.heap.size) shS rfl _ _ rfl rfl rfl (Bk.Bk.new 50 w1 #[.int .i64 0,.string ⟨#[]⟩]) rfl rfl (oneS zeroS) ?_))
     rw[HN.out]at HY;go_ret3;exact AnsL.no HY.out HB.out
    | some p=>
     obtain⟨x,r'⟩:=p
     have PC:=Lib.hid (fun W=>p1m u x r' W HU.out hc)
     obtain⟨ho,he⟩:=w0g hc
     have HO:=Lib.hid (show okX (l ++ [x])=true from(j1a _ _).2 ⟨HO.out,(z0m _ _).2 ⟨ho,rfl⟩⟩)
     have HM:Hid (u.size>(⟨r'.toArray⟩:ByteArray).size):=Lib.hid (by
      rw[size_of he,List.length_append,l0b]
      show _>r'.length
      omega)
     have HE:Hid (b.data.toList=encX (l ++ [x])++(⟨r'.toArray⟩:ByteArray).data.toList):=Lib.hid (by rw[HE.out,he,u0o,q0x,List.append_assoc])
     have HC:Hid (l.length≤100000):=Lib.hid (by have:=HS.out;have:=HZ.out;have:=j0j l;omega)
     clear hu hc ho he HZ HU;generalize (⟨r'.toArray⟩:ByteArray)=u' at *;refine' qz5d;refine' qz75;refine' qz8;clear hb PC
     go_upto_region 5 with(first|(refine a0a (b:=w1.heap.size) shS rfl _ _ rfl rfl rfl (Bk.Bk.new 50 w1 #[.int .i64 0,.string ⟨#[]⟩]) rfl rfl (oneS x) ?_))
     change Code.wp _ _ _ _ ((w1.alloc (.cells #[.int .i64 0,.string ⟨#[]⟩] 50)).setRow w1.heap.size (cellsS x));refine' qz33;have HL:=Lib.hid (HL.out.below (balloc (Below.refl _ w1) (.cells (cellsS x) 50)));have HB:=Lib.hid (balloc HB.out (.cells (cellsS x) 50));have HX:=Lib.hid (Bk.Bk.new 50 w1 (cellsS x));generalize w1.alloc (.cells (cellsS x) 50)=W2 at *;refine' qzcr
     go_upto_region 8 with(first|(refine f0a (b:=g) shS rfl _ rfl rfl HX.out rfl ?_)|(refine j0c rfl _ rfl (m:=x) rfl ?_)|(at_builtin;refine f0d rfl _ _ rfl w.heap.size _ l x W2.heap.size 1 rfl (HL.out.below (balloc (Below.refl _ W2) (.cells (cellsS x) 50))) rfl (z0a x W2) HC.out (balloc HB.out (.cells (cellsS x) 50)).size ?_))
     intro v' w' hl hb _;refine' qz7k;have HB:=Lib.hid ((balloc HB.out (.cells (cellsS x) 50)).trans hb);clear hl hb HX;go_wp2;go_roundw
     case rel=>exact⟨l ++ [x],u',rfl,HL,HO,HE,HB⟩
     case measure=>have:=HM.out;simp only[strLen];omega
end Xc
end Go.Proofs.YtllhobicfclheaaGreatDoor
