/- The document's Set, and the law's own 'in', walked. The document's sums and may, walked. The document's All, Minus and Check, walked. -/
import Derived.Test.YtheeajnkiniopaaGreatDoorZA
import Derived.Test.YtheeajnkiniopaaGreatDoorQTB
import Derived.Test.YtheeajnkiniopaaGreatDoorZU
import Derived.Test.YtheeajnkiniopaaGreatDoorX0A
import Derived.Test.YtheeajnkiniopaaGreatDoorX0B
set_option maxHeartbeats 8000000
set_option maxRecDepth 100000
open Go.Lib (hid)
open Nat (le_refl)
namespace Go.Proofs.YtheeajnkiniopaaGreatDoor.Wp
open Go.RowKit
theorem Zf8 (v:Value) (l:List Int) (n:Int) (w:World) (k:Row w w.heap.size v l):Calls Tryz.prog 44 #[v,.int .i64 n] w (Says w (okA n l)):=by
 have Hr:=hid k;obtain ⟨A,c,rfl,hcap,j⟩:=k;have r:(l.length:Int)≤9223372036854775807:=k6_;have hlm:l.length≤9223372036854775807:=k29_;have m:=hid j;clear hcap j;rcases hm:mayB l with _ | _
 ·rw [Yp3 hm]
  have Hm:=hid hm;clear hm;exact y28_
 ·have Hm:=hid hm
  clear hm;by_cases h0:l.length=0
  ·rw [Zd5 Hm.out h0]
   have o:((l.length:Int)==0)=true:=y37_;clear h0;exact y28_
  ·obtain ⟨x,h⟩:∃ x,l.getD (l.length - 1) 0=x:=⟨_,rfl⟩
   obtain ⟨al,q,halb,g⟩:=m.out (l.length - 1) k29_;rw [U8_ Hm.out k29_ h];rw [h] at g;subst q;obtain ⟨L,d⟩:∃ L,l.length=L:=⟨_,rfl⟩;have s:=hid d;rw [d] at g Hr r h0;rw [d];have o:((L:Int)==0)=false:=y37_;have y:(0:Int)<(L:Int):=k29_;have z:IntKind.i64.wrap ((L:Int) - 1)=(L:Int) - 1:=z30_;have B:(0:Int)≤(L:Int) - 1:=k29_;have C:(L:Int) - 1<(L:Int):=k29_;have D:((L:Int) - 1).toNat=L - 1:=k29_;clear h h0 d
   go_enter Tryz.func44,Tryz.ntmps44
   go_wp2_with fail
   refine (I5_ _ l w Hr.out hlm Hm.out).mono ?_;rintro e w1 ⟨rfl,hb1⟩;have Hb1:=hid hb1;have u:=(hb1.cell (p:=al.add (L - 1)) x34_).trans g;clear hb1 g;exact z1_
open Go
theorem Vj1 {n:Int} {l:List Int} (c:0≤n) (e:n≤64):okA n l=subB l (allL n):=by
 rw [Bool.eq_iff_iff];constructor
 ·intro h
  obtain ⟨h2,h3⟩:=Yu6 h;exact Zw7 c e h2 h3
 ·intro h
  obtain ⟨h2,_,h3⟩:=subB_iff.1 h;have d:mayB l=true:=mayB_iff.2 h2;by_cases hl:l.length=0
  ·exact Zd5 d hl
  ·rw [U8_ d k29_ rfl,decide_eq_true_iff]
   have f:=h3 (l.getD (l.length - 1) 0) (by rw [show l.getD (l.length - 1) 0=l[l.length - 1]'k29_ by simp [List.getD,show l.length - 1<l.length by omega]];exact List.getElem_mem _);exact ((A3_ c k29_ _).1 f).2
theorem ok_n {k:Nat} {m:Mat} (h:ok k m=true):0≤m.n∧m.n≤64:=by
 cases k with
 | zero=>cases h
 | succ k=>have:=(X3_ (Yu2 h)).2.1;omega
theorem Vh5 {k:Nat} {i:List Mat} (h:i.all (ok k)=true) (hl:i.length≤8):0≤tog i∧tog i≤512:=by
 have:=Xr8 (l:=i) (fun x c=>ok_n (List.all_eq_true.1 h x c)) k29_;omega
theorem Vh6 {x:Mat} (h:0≤x.n∧x.n≤64):tog [x]=x.n:=by
 show IntKind.i64.wrap (0+x.n)=x.n;rw [C5_ k29_ k29_];omega
def headB (m:Mat):Bool:=decide (m.b=0) && (decide (m.a=0) || decide (m.t=7)) && decide (1≤m.i.length) && decide (m.i.length≤8) && (decide (m.i.length≤1) || decide (m.t=9))
def tailB (S:Int) (m:Mat):Bool :=
 if 7≤m.t then decide (m.l.length=0) && decide (m.n=S)
 else decide (m.l.length=1) && okA S (row m 0) && (if m.t=5 then decide (m.n=(row m 0).length) else decide (m.n=IntKind.i64.wrap (S - (row m 0).length)))
theorem Vj2 {m:Mat} (h2:0≤m.n∧m.n≤64∧0≤m.a∧m.a≤64) (c:nest m.t):(bad m=0)↔Z6_ (form m.t) m=true∧fitsB m=true:=by
 unfold nest at c;exact ⟨fun h=>⟨(X3_ h).2.2.1,(X3_ h).2.2.2⟩,fun h=>Yu1 k29_ h2 h.1 h.2⟩
theorem Vj3 {k:Nat} {m:Mat} (h2:0≤m.n∧m.n≤64∧0≤m.a∧m.a≤64) (j:nest m.t):ok (k+1) m=(headB m && m.i.all (ok k) && tailB (tog m.i) m):=by
 rw [ok];rcases hall:m.i.all (ok k) with _ | _
 ·simp
 rw [Bool.and_true,Bool.and_true,Bool.eq_iff_iff,decide_eq_true_iff,Vj2 h2 j,takes_iff,Bool.and_eq_true];obtain ⟨t,n,a,b,l,i⟩:=m;unfold nest at j;unfold headB tailB;change 5≤t∧t≤9 at j;change 0≤n∧n≤64∧0≤a∧a≤64 at h2;change i.all (ok k)=true at hall;obtain ⟨S,e⟩:∃ S,tog (Mat.mk t n a b l i).i=S:=⟨_,rfl⟩;rw [e];change tog i=S at e;have r:row (.mk t n a b l i) 0=l.getD 0 []:=rfl;have q:t=5∨t=6→i.length=1→∃ x,i=[x]∧tog i=x.n∧partB (.mk t n a b l i)=okA x.n (l.getD 0 [])∧0≤x.n∧x.n≤64:=fun _ c=>by
  obtain ⟨x,rfl⟩:=List.length_eq_one_iff.1 c;have d:=ok_n (List.all_eq_true.1 hall x y30_);refine ⟨x,rfl,Vh6 d,?_,d⟩;rw [Vj1 d.1 d.2];rfl
 have f:7≤t→fitsB (.mk t n a b l i)=decide (n=S):=fun h=>by rw [← e];exact S4_ (by show t=7∨t=8∨t=9;omega)
 rcases (by omega:t=5∨t=6∨t=7∨t=8∨t=9) with rfl | rfl | rfl | rfl | rfl
 ·have g:fitsB (.mk 5 n a b l i)=(partB (.mk 5 n a b l i) && decide (n=(l.getD 0 []).length)):=rfl
  rw [g,r];by_cases c:i.length=1
  ·obtain ⟨x,d,p,o,_⟩:=q (.inl rfl) c
   rw [o,← e,p];simp [form,c,Mat.t,Mat.n,Mat.a,Mat.b,Mat.l,Mat.i]
   grind
  ·exact q9_
 ·have g:fitsB (.mk 6 n a b l i)=(partB (.mk 6 n a b l i) && decide (IntKind.i64.wrap (n+(l.getD 0 []).length)=(inn (.mk 6 n a b l i)).n)):=rfl
  rw [g,r];by_cases c:i.length=1
  ·obtain ⟨x,d,p,o,u,v⟩:=q (.inr rfl) c
   have s:(inn (.mk 6 n a b l i)).n=x.n:=by rw [d];rfl
   rw [o,s,← e,p];rcases ho:okA x.n (l.getD 0 []) with _ | _
   ·simp [Mat.t,Mat.n,Mat.a,Mat.b,Mat.l,Mat.i]
   ·obtain ⟨w,y⟩:=Yu6 ho
    have z:=Vy9 u v w y;rw [C5_ k29_ k29_,C5_ k29_ k29_];simp [form,c,Mat.t,Mat.n,Mat.a,Mat.b,Mat.l,Mat.i]
    grind
  ·exact q9_
 ·rw [f k29_]
  exact q9_
 ·rw [f k29_]
  exact q9_
 ·rw [f k29_]
  exact q9_
theorem Yb7 {p:Mat→Bool} {i:List Mat} {k:Nat} (c:k<i.length) (h:p (i.getD k default)=false):i.all p=false:=by
 rw [List.all_eq_false];refine ⟨i[k],List.getElem_mem c,?_⟩;rw [show i.getD k default=i[k] by simp [List.getD,c]] at h;simp [h]
theorem Yb8 {p:Mat→Bool} {i:List Mat} (h:∀ k,k<i.length→p (i.getD k default)=true):i.all p=true:=by
 rw [List.all_eq_true];intro x d;obtain ⟨k,c,rfl⟩:=List.mem_iff_getElem.1 d;have:=h k c
 rwa [show i.getD k default=i[k] by simp [List.getD,c]] at this
def sumsI (k:Nat) (m:Mat):Int:=if m.i.all (ok k)=true then tog m.i else -1
def MayAt (k:Nat):Prop:=∀ (m:Mat) (v:Value) (w:World),MatV w w.heap.size v m→Sml m→dp k m≤k→Calls Tryz.prog 78 #[v] w (Says w (ok k m))
theorem Xl8 (k:Nat) (ih:MayAt k) (m:Mat) (v:Value) (w:World) (V:MatV w w.heap.size v m) (hs:Sml m) (hd:∀ x∈m.i,dp k x≤k):Calls Tryz.prog 110 #[v] w (Tells w (sumsI k m)):=by
 obtain ⟨F,iv,rfl,_,⟨o,y,rfl,_,P⟩⟩:=V.open;have Hk:=hid P;have Hs:=hid hs;have Hd:=hid hd;have xc:=U5_ hs;have xd:(m.i.length:Int)≤1000:=k29_;have I:=hid (Z1_ w m F (.slice o m.i.length y));have J:=hid (Z3_ w m F (.slice o m.i.length y));obtain ⟨R,z⟩:∃ R,sumsI k m=R:=⟨_,rfl⟩;have H:=hid z;rw [z];unfold boxed at *
 clear V hs hd P z
 go_enter Tryz.func110,Tryz.ntmps110
 go_wp2
 go_loopw [3,4] (fun vn G wr=>∃ i:Nat,vn=.int .i64 (tog (m.i.take i))∧G=.int .i64 i∧i≤m.i.length∧(∀ j,j<i→ok k (m.i.getD j default)=true)∧Blk wr w.heap.size 37 #[.int .i64 m.t,.int .i64 m.n,.int .i64 m.a,.int .i64 m.b,F,.slice o m.i.length y]∧Below w.heap.size w wr) (fun _ G _=>m.i.length - (intOf G).toNat)
 case atStart=>exact ⟨0,rfl,rfl,Nat.zero_le _,fun j O=>absurd O (Nat.not_lt_zero _),J.out,I.out⟩
 case round =>
  obtain ⟨i,rfl,rfl,hi,S,B,M⟩:=hrel;have Hok:=hid S;have Hbr:=hid M;have L:=hid B;have g5:=B.cell 5;obtain ⟨r,d⟩:∃ r,tog (m.i.take i)=r:=⟨_,rfl⟩;have X:=hid d;rw [d];clear S B M J I;by_cases h:i<m.i.length
  ·have xe:(i:Int)<(m.i.length:Int):=by omega
   obtain ⟨s,u,hA,hab,T,Q⟩:=Hk.out i h;subst hA;have xa:=T.below Hbr.out x31_;have D:=(Q.bel Hbr.out).mono Hbr.out.size;have C:=Y6_ m.i i default h;have g:=hid (ih _ u wr D (sml_i Hs.out C) (Hd.out _ C));have E:=Yb4 (l:=m.i) h;rw [d] at E;have x9:=hid E;have x6:=hid (Yb7 (p:=ok k) h);have x7:Hid (ok k (m.i.getD i default)=true→∀ j,j<i+1→ok k (m.i.getD j default)=true):=hid fun hb j O=>j7_;obtain ⟨xg,xf,U,_,_⟩:=D.open;obtain ⟨x0,x1,x2,x3,x4,x5,c,s0,W,s2,s3,s4,s5⟩:=xa;rw [U] at c;injection c with c;injection c with c;injection c with h0 c;injection c with h1 c;injection c with h2 c;injection c with h3 c;injection c with h4 c;injection c with h5 _;subst h0 h1 h2 h3 h4 h5 U;have x8:=hid W;have Y:=hid (show ((s.add (i * 6)).block)<wr.heap.size from by rw [Z4_];exact Nat.lt_of_lt_of_le hab Hbr.out.size);clear d E C T Q D hab Hok;generalize m.i.getD i default=x at *
   rcases hb:ok k x with _ | _
   ·have q:Hid (R=-1):=hid (by rw [← H.out];unfold sumsI;rw [x6.out hb];rfl)
    rw [hb] at g;obtain rfl:=q.out;clear hb
    go_wp2_with fail
    refine (g.out).mono ?_;exact x28_
   ·have Z:=hid hb
    rw [hb] at g;clear hb
    go_wp2_with fail
    refine (g.out).mono ?_;rintro e w1 ⟨rfl,hb1⟩;have Hb1:=hid (Z0_ Hbr.out (le_refl _) hb1);have K:=hid (L.out.below hb1 L.out.lt);have xb:=K.out.cell 5;have xh:=(hb1.cell (p:=⟨(s.add (i * 6)).block,(s.add (i * 6)).off+1,none⟩) Y.out).trans x8.out;clear hb1 s0 W s2 s3 s4 s5 g5;go_wp2
    go_roundw
    case rel=>exact ⟨i+1,by rw [x9.out,Xz6],y31_,k29_,x7.out Z.out,K.out,Hb1.out⟩
    exact mz_
  ·have N:i=m.i.length:=by omega
   have Hie:=hid N;have q:Hid (R=r):=hid (by rw [← H.out,← X.out];unfold sumsI;rw [if_pos (Yb8 j36_),Hie.out,List.take_length]);obtain rfl:=q.out;obtain rfl:=N;clear d;exact q14_
theorem Xl9 (m:Mat) (v:Value) (w:World) (d:MatV w w.heap.size v m) (h:m.n<0∨64<m.n∨m.a<0∨64<m.a):Calls Tryz.prog 78 #[v] w (Says w false):=by
 obtain ⟨g,e,rfl,_,_⟩:=d.open;have Hb0:=hid (Z1_ w m g e);have c:=(Z3_ w m g e).cell;have q:=c 1;have r:=c 2;unfold boxed at *
 clear d c;by_cases j:m.n<0
 ·exact j24_
 by_cases k:64<m.n
 ·exact j24_
 by_cases o:m.a<0
 ·exact j24_
 have p:64<m.a:=k29_;clear h;exact j24_
theorem Yl7 (m:Mat) (v:Value) (w:World) (h:MatV w w.heap.size v m) (hs:Sml m) (h2:0≤m.n∧m.n≤64∧0≤m.a∧m.a≤64) (q:¬ nest m.t):Calls Tryz.prog 78 #[v] w (Says w (decide (bad m=0))):=by
 obtain ⟨r,Z,rfl,hl,⟨k,p,rfl,V,X⟩⟩:=h.open;have u:=hid (h.up (Z1_ w m r (.slice k m.i.length p)));have o:=hid (Z1_ w m r (.slice k m.i.length p));have j:=hid (Z3_ w m r (.slice k m.i.length p));have s:=hid (hl.up o.out);have c:=j.out.cell;have P:=c 0;have Q:=c 1;have R:=c 2;have S:=c 3;have T:=c 4;have U:=c 5;have F:¬ m.n<0:=k29_;have G:¬ 64<m.n:=k29_;have H:¬ m.a<0:=k29_;have I:¬ 64<m.a:=k29_;unfold boxed at *
 have B:=hid q;have C:=hid (fun (v:Value) (W:World) (h:MatV W W.heap.size v m)=>Yl6 m v W h hs h2 q);generalize decide (bad m=0)=D at *
 clear h q hl V X c hs h2
 go_enter Tryz.func78,Tryz.ntmps78
 go_wp2_with fail
 refine (Y3_ m.t _).mono ?_;rintro e w1 ⟨rfl,g⟩;rw [decide_eq_false B.out];have y:=hid (Z0_ o.out (le_refl _) g);have E:=hid (u.out.up g);have Y:=hid (s.out.up g);have z:=hid (j.out.below g j.out.lt);have d:=z.out.cell;have J:=d 0;have K:=d 1;have L:=d 2;have M:=d 3;have N:=d 4;have O:=d 5;clear d g P Q R S T U F G H I o u s j
 go_wp2_with fail
 refine (C.out _ _ E.out).mono ?_;rintro e w2 ⟨rfl,x⟩;have Hb2:=hid (Z0_ y.out (le_refl _) x);clear x J K L M N O;exact j2_
theorem Vj4 (m:Mat) (v:Value) (w:World) (h:MatV w w.heap.size v m) (_hs:Sml m) (h2:0≤m.n∧m.n≤64∧0≤m.a∧m.a≤64) (k:nest m.t) (q1:m.b≠0):Calls Tryz.prog 78 #[v] w (Says w false):=by
 obtain ⟨j,r,rfl,hl,⟨d,g,rfl,o,p⟩⟩:=h.open;have Hv:=hid (h.up (Z1_ w m j (.slice d m.i.length g)));have Hb0:=hid (Z1_ w m j (.slice d m.i.length g));have Hblk:=hid (Z3_ w m j (.slice d m.i.length g));have Hl:=hid (hl.up Hb0.out);have c:=Hblk.out.cell;have g0:=c 0;have g1:=c 1;have g2:=c 2;have g3:=c 3;have g4:=c 4;have g5:=c 5;have a3:¬ m.n<0:=k29_;have a4:¬ 64<m.n:=k29_;have a5:¬ m.a<0:=k29_;have a6:¬ 64<m.a:=k29_;unfold boxed at *
 have Hn:=hid k;clear h k hl o p c h2;have q:(m.b != 0)=true:=z32_;clear q1;exact y0_
theorem Vj5 (m:Mat) (v:Value) (w:World) (h:MatV w w.heap.size v m) (_hs:Sml m) (h2:0≤m.n∧m.n≤64∧0≤m.a∧m.a≤64) (k:nest m.t) (q1:m.b=0) (q2:m.a≠0) (q3:m.t≠7):Calls Tryz.prog 78 #[v] w (Says w false):=by
 obtain ⟨j,u,rfl,hl,⟨d,g,rfl,o,p⟩⟩:=h.open;have Hv:=hid (h.up (Z1_ w m j (.slice d m.i.length g)));have Hb0:=hid (Z1_ w m j (.slice d m.i.length g));have Hblk:=hid (Z3_ w m j (.slice d m.i.length g));have Hl:=hid (hl.up Hb0.out);have c:=Hblk.out.cell;have g0:=c 0;have g1:=c 1;have g2:=c 2;have g3:=c 3;have g4:=c 4;have g5:=c 5;have a3:¬ m.n<0:=k29_;have a4:¬ 64<m.n:=k29_;have a5:¬ m.a<0:=k29_;have a6:¬ 64<m.a:=k29_;unfold boxed at *
 have Hn:=hid k;clear h k hl o p c h2;have q:(m.b != 0)=false:=z32_;clear q1;have r:(m.a != 0)=true:=j32_;have s:(m.t != 7)=true:=z37_;clear q2 q3;exact y0_
theorem Xm0 (m:Mat) (v:Value) (w:World) (h:MatV w w.heap.size v m) (_hs:Sml m) (h2:0≤m.n∧m.n≤64∧0≤m.a∧m.a≤64) (k:nest m.t) (q1:m.b=0) (q2:m.a=0) (q4:m.i.length<1):Calls Tryz.prog 78 #[v] w (Says w false):=by
 obtain ⟨j,u,rfl,hl,⟨d,g,rfl,o,p⟩⟩:=h.open;have Hv:=hid (h.up (Z1_ w m j (.slice d m.i.length g)));have Hb0:=hid (Z1_ w m j (.slice d m.i.length g));have Hblk:=hid (Z3_ w m j (.slice d m.i.length g));have Hl:=hid (hl.up Hb0.out);have c:=Hblk.out.cell;have g0:=c 0;have g1:=c 1;have g2:=c 2;have g3:=c 3;have g4:=c 4;have g5:=c 5;have a3:¬ m.n<0:=k29_;have a4:¬ 64<m.n:=k29_;have a5:¬ m.a<0:=k29_;have a6:¬ 64<m.a:=k29_;unfold boxed at *
 have Hn:=hid k;clear h k hl o p c h2;have q:(m.b != 0)=false:=z32_;clear q1;have r:(m.a != 0)=false:=j32_;clear q2;have s:(m.i.length:Int)<1:=k29_;clear q4;exact y0_
theorem Xm1 (m:Mat) (v:Value) (w:World) (h:MatV w w.heap.size v m) (_hs:Sml m) (h2:0≤m.n∧m.n≤64∧0≤m.a∧m.a≤64) (k:nest m.t) (q1:m.b=0) (q2:m.a≠0) (q3:m.t=7) (q4:m.i.length<1):Calls Tryz.prog 78 #[v] w (Says w false):=by
 obtain ⟨j,x,rfl,hl,⟨d,g,rfl,o,p⟩⟩:=h.open;have Hv:=hid (h.up (Z1_ w m j (.slice d m.i.length g)));have Hb0:=hid (Z1_ w m j (.slice d m.i.length g));have Hblk:=hid (Z3_ w m j (.slice d m.i.length g));have Hl:=hid (hl.up Hb0.out);have c:=Hblk.out.cell;have g0:=c 0;have g1:=c 1;have g2:=c 2;have g3:=c 3;have g4:=c 4;have g5:=c 5;have a3:¬ m.n<0:=k29_;have a4:¬ 64<m.n:=k29_;have a5:¬ m.a<0:=k29_;have a6:¬ 64<m.a:=k29_;unfold boxed at *
 have Hn:=hid k;clear h k hl o p c h2;have q:(m.b != 0)=false:=z32_;clear q1;have r:(m.a != 0)=true:=j32_;have s:(m.t != 7)=false:=z37_;clear q2 q3;have u:(m.i.length:Int)<1:=k29_;clear q4;exact y0_
theorem Xm2 (m:Mat) (v:Value) (w:World) (h:MatV w w.heap.size v m) (_hs:Sml m) (h2:0≤m.n∧m.n≤64∧0≤m.a∧m.a≤64) (k:nest m.t) (q1:m.b=0) (q2:m.a=0) (q4:8<m.i.length):Calls Tryz.prog 78 #[v] w (Says w false):=by
 obtain ⟨j,s,rfl,hl,⟨d,g,rfl,o,p⟩⟩:=h.open;have Hv:=hid (h.up (Z1_ w m j (.slice d m.i.length g)));have Hb0:=hid (Z1_ w m j (.slice d m.i.length g));have Hblk:=hid (Z3_ w m j (.slice d m.i.length g));have Hl:=hid (hl.up Hb0.out);have c:=Hblk.out.cell;have g0:=c 0;have g1:=c 1;have g2:=c 2;have g3:=c 3;have g4:=c 4;have g5:=c 5;have a3:¬ m.n<0:=k29_;have a4:¬ 64<m.n:=k29_;have a5:¬ m.a<0:=k29_;have a6:¬ 64<m.a:=k29_;unfold boxed at *
 have Hn:=hid k;clear h k hl o p c h2;have q:(m.b != 0)=false:=z32_;clear q1;have r:(m.a != 0)=false:=j32_;clear q2;exact k26_
theorem Xm3 (m:Mat) (v:Value) (w:World) (h:MatV w w.heap.size v m) (_hs:Sml m) (h2:0≤m.n∧m.n≤64∧0≤m.a∧m.a≤64) (k:nest m.t) (q1:m.b=0) (q2:m.a≠0) (q3:m.t=7) (q4:8<m.i.length):Calls Tryz.prog 78 #[v] w (Says w false):=by
 obtain ⟨j,u,rfl,hl,⟨d,g,rfl,o,p⟩⟩:=h.open;have Hv:=hid (h.up (Z1_ w m j (.slice d m.i.length g)));have Hb0:=hid (Z1_ w m j (.slice d m.i.length g));have Hblk:=hid (Z3_ w m j (.slice d m.i.length g));have Hl:=hid (hl.up Hb0.out);have c:=Hblk.out.cell;have g0:=c 0;have g1:=c 1;have g2:=c 2;have g3:=c 3;have g4:=c 4;have g5:=c 5;have a3:¬ m.n<0:=k29_;have a4:¬ 64<m.n:=k29_;have a5:¬ m.a<0:=k29_;have a6:¬ 64<m.a:=k29_;unfold boxed at *
 have Hn:=hid k;clear h k hl o p c h2;have q:(m.b != 0)=false:=z32_;clear q1;have r:(m.a != 0)=true:=j32_;have s:(m.t != 7)=false:=z37_;clear q2 q3;exact k26_
theorem Xm4 (m:Mat) (v:Value) (w:World) (h:MatV w w.heap.size v m) (_hs:Sml m) (h2:0≤m.n∧m.n≤64∧0≤m.a∧m.a≤64) (k:nest m.t) (q1:m.b=0) (q2:m.a=0) (q4:1<m.i.length) (q5:m.i.length≤8) (q6:m.t≠9):Calls Tryz.prog 78 #[v] w (Says w false):=by
 obtain ⟨j,s,rfl,hl,⟨d,g,rfl,o,p⟩⟩:=h.open;have Hv:=hid (h.up (Z1_ w m j (.slice d m.i.length g)));have Hb0:=hid (Z1_ w m j (.slice d m.i.length g));have Hblk:=hid (Z3_ w m j (.slice d m.i.length g));have Hl:=hid (hl.up Hb0.out);have c:=Hblk.out.cell;have g0:=c 0;have g1:=c 1;have g2:=c 2;have g3:=c 3;have g4:=c 4;have g5:=c 5;have a3:¬ m.n<0:=k29_;have a4:¬ 64<m.n:=k29_;have a5:¬ m.a<0:=k29_;have a6:¬ 64<m.a:=k29_;unfold boxed at *
 have Hn:=hid k;clear h k hl o p c h2;have q:(m.b != 0)=false:=z32_;clear q1;have r:(m.a != 0)=false:=j32_;clear q2;exact q25_
theorem Xm5 (m:Mat) (v:Value) (w:World) (h:MatV w w.heap.size v m) (_hs:Sml m) (h2:0≤m.n∧m.n≤64∧0≤m.a∧m.a≤64) (k:nest m.t) (q1:m.b=0) (q2:m.a≠0) (q3:m.t=7) (q4:1<m.i.length) (q5:m.i.length≤8) (q6:m.t≠9):Calls Tryz.prog 78 #[v] w (Says w false):=by
 obtain ⟨j,u,rfl,hl,⟨d,g,rfl,o,p⟩⟩:=h.open;have Hv:=hid (h.up (Z1_ w m j (.slice d m.i.length g)));have Hb0:=hid (Z1_ w m j (.slice d m.i.length g));have Hblk:=hid (Z3_ w m j (.slice d m.i.length g));have Hl:=hid (hl.up Hb0.out);have c:=Hblk.out.cell;have g0:=c 0;have g1:=c 1;have g2:=c 2;have g3:=c 3;have g4:=c 4;have g5:=c 5;have a3:¬ m.n<0:=k29_;have a4:¬ 64<m.n:=k29_;have a5:¬ m.a<0:=k29_;have a6:¬ 64<m.a:=k29_;unfold boxed at *
 have Hn:=hid k;clear h k hl o p c h2;have q:(m.b != 0)=false:=z32_;clear q1;have r:(m.a != 0)=true:=j32_;have s:(m.t != 7)=false:=z37_;clear q2 q3;exact q25_
theorem Xx9 (m:Mat) (v:Value) (w:World) (d:MatV w w.heap.size v m) (hs:Sml m) (h2:0≤m.n∧m.n≤64∧0≤m.a∧m.a≤64) (c:nest m.t) (h:headB m=false):Calls Tryz.prog 78 #[v] w (Says w false):=by
 unfold headB at h;by_cases q1:m.b=0
 ·by_cases q2:m.a=0
  ·by_cases q4:m.i.length<1
   ·exact Xm0 m v w d hs h2 c q1 q2 q4
   by_cases q5:8<m.i.length
   ·exact Xm2 m v w d hs h2 c q1 q2 q5
   exact Xm4 m v w d hs h2 c q1 q2 (by simp [q1,q2] at h;omega) k29_ (by simp [q1,q2] at h;omega)
  ·by_cases q3:m.t=7
   ·by_cases q4:m.i.length<1
    ·exact Xm1 m v w d hs h2 c q1 q2 q3 q4
    by_cases q5:8<m.i.length
    ·exact Xm3 m v w d hs h2 c q1 q2 q3 q5
    exact Xm5 m v w d hs h2 c q1 q2 q3 (by simp [q1,q3] at h;omega) k29_ k29_
   ·exact Vj5 m v w d hs h2 c q1 q2 q3
 ·exact Vj4 m v w d hs h2 c q1
theorem Xv0 (m:Mat) (v:Value) (w:World) (hv:MatV w w.heap.size v m) (_hs:Sml m) (h2:0≤m.n∧m.n≤64∧0≤m.a∧m.a≤64) (hn:nest m.t) (S:Int) (Hsum:∀ (v:Value) (W:World),MatV W W.heap.size v m→Calls Tryz.prog 110 #[v] W (Tells W S)) (q1:m.b=0) (q2:m.a=0) (q4:m.i.length=1) (q7:S<0):Calls Tryz.prog 78 #[v] w (Says w false):=by
 have Hsum:=hid Hsum;obtain ⟨p,o,rfl,hl,⟨c,g,rfl,hci,hki⟩⟩:=hv.open;obtain ⟨d,h,rfl,j,k⟩:=id hl;have Hv:=hid (hv.up (Z1_ w m (.slice d m.l.length h) (.slice c m.i.length g)));have Hb0:=hid (Z1_ w m (.slice d m.l.length h) (.slice c m.i.length g));have Hblk:=hid (Z3_ w m (.slice d m.l.length h) (.slice c m.i.length g));have Hl:=hid (hl.up Hb0.out);have gb:=Hblk.out.cell;have g0:=gb 0;have g1:=gb 1;have g2:=gb 2;have g3:=gb 3;have g4:=gb 4;have g5:=gb 5;have a3:¬ m.n<0:=k29_;have a4:¬ 64<m.n:=k29_;have a5:¬ m.a<0:=k29_;have a6:¬ 64<m.a:=k29_;unfold boxed at *
 have Hn:=hid hn;exact z24_
theorem Xv1 (m:Mat) (v:Value) (w:World) (o:MatV w w.heap.size v m) (_hs:Sml m) (h2:0≤m.n∧m.n≤64∧0≤m.a∧m.a≤64) (p:nest m.t) (S:Int) (Hsum:∀ (v:Value) (W:World),MatV W W.heap.size v m→Calls Tryz.prog 110 #[v] W (Tells W S)) (q1:m.b=0) (q2:m.a=0) (q4:m.i.length=1) (q7:¬ S<0) (q8:7≤m.t):Calls Tryz.prog 78 #[v] w (Says w (decide (m.l.length=0) && decide (m.n=S))):=by
 have Hsum:=hid Hsum;obtain ⟨z,y,rfl,hl,⟨d,j,rfl,q,r⟩⟩:=o.open;obtain ⟨g,k,rfl,u,x⟩:=id hl;have Hv:=hid (o.up (Z1_ w m (.slice g m.l.length k) (.slice d m.i.length j)));have Hb0:=hid (Z1_ w m (.slice g m.l.length k) (.slice d m.i.length j));have Hblk:=hid (Z3_ w m (.slice g m.l.length k) (.slice d m.i.length j));have Hl:=hid (hl.up Hb0.out);have c:=Hblk.out.cell;have g0:=c 0;have g1:=c 1;have g2:=c 2;have g3:=c 3;have g4:=c 4;have g5:=c 5;have a3:¬ m.n<0:=k29_;have a4:¬ 64<m.n:=k29_;have a5:¬ m.a<0:=k29_;have a6:¬ 64<m.a:=k29_;unfold boxed at *
 have Hn:=hid p;obtain ⟨L0,hL0⟩:∃ L0,decide (m.l.length=0)=L0:=⟨_,rfl⟩;obtain ⟨h,hN0⟩:∃ h,decide (m.n=S)=h:=⟨_,rfl⟩;rw [hL0,hN0];have s:((m.l.length:Int)==0)=L0:=j34_;have f1:(m.n==S)=h:=q35_;clear hL0 hN0;clear o p q r c h2;have e1:(m.b != 0)=false:=z32_;clear q1;have e2:(m.a != 0)=false:=j32_;have e4:¬ (m.i.length:Int)<1:=k29_;have e5:¬ (8:Int)<(m.i.length:Int):=k29_;have e6:¬ (1:Int)<(m.i.length:Int):=k29_;clear q2 q4;exact x1_
theorem Xv2 (m:Mat) (v:Value) (w:World) (k:MatV w w.heap.size v m) (_hs:Sml m) (h2:0≤m.n∧m.n≤64∧0≤m.a∧m.a≤64) (o:nest m.t) (S:Int) (Hsum:∀ (v:Value) (W:World),MatV W W.heap.size v m→Calls Tryz.prog 110 #[v] W (Tells W S)) (q1:m.b=0) (q2:m.a≠0) (q3:m.t=7) (q4:m.i.length=1) (q7:S<0):Calls Tryz.prog 78 #[v] w (Says w false):=by
 have Hsum:=hid Hsum;obtain ⟨y,x,rfl,hl,⟨d,h,rfl,p,q⟩⟩:=k.open;obtain ⟨g,j,rfl,s,u⟩:=id hl;have Hv:=hid (k.up (Z1_ w m (.slice g m.l.length j) (.slice d m.i.length h)));have Hb0:=hid (Z1_ w m (.slice g m.l.length j) (.slice d m.i.length h));have Hblk:=hid (Z3_ w m (.slice g m.l.length j) (.slice d m.i.length h));have Hl:=hid (hl.up Hb0.out);have c:=Hblk.out.cell;have g0:=c 0;have g1:=c 1;have g2:=c 2;have g3:=c 3;have g4:=c 4;have g5:=c 5;have a3:¬ m.n<0:=k29_;have a4:¬ 64<m.n:=k29_;have a5:¬ m.a<0:=k29_;have a6:¬ 64<m.a:=k29_;unfold boxed at *
 have Hn:=hid o;clear k o p q c h2;have e1:(m.b != 0)=false:=z32_;clear q1;have e2:(m.a != 0)=true:=j32_;have r:(m.t != 7)=false:=z37_;have e4:¬ (m.i.length:Int)<1:=k29_;have e5:¬ (8:Int)<(m.i.length:Int):=k29_;have e6:¬ (1:Int)<(m.i.length:Int):=k29_;clear q2 q3 q4;exact k0_
theorem Xv3 (m:Mat) (v:Value) (w:World) (o:MatV w w.heap.size v m) (_hs:Sml m) (h2:0≤m.n∧m.n≤64∧0≤m.a∧m.a≤64) (p:nest m.t) (S:Int) (Hsum:∀ (v:Value) (W:World),MatV W W.heap.size v m→Calls Tryz.prog 110 #[v] W (Tells W S)) (q1:m.b=0) (q2:m.a≠0) (q3:m.t=7) (q4:m.i.length=1) (q7:¬ S<0) (q8:7≤m.t):Calls Tryz.prog 78 #[v] w (Says w (decide (m.l.length=0) && decide (m.n=S))):=by
 have Hsum:=hid Hsum;obtain ⟨B,z,rfl,hl,⟨d,j,rfl,q,r⟩⟩:=o.open;obtain ⟨g,k,rfl,x,y⟩:=id hl;have Hv:=hid (o.up (Z1_ w m (.slice g m.l.length k) (.slice d m.i.length j)));have Hb0:=hid (Z1_ w m (.slice g m.l.length k) (.slice d m.i.length j));have Hblk:=hid (Z3_ w m (.slice g m.l.length k) (.slice d m.i.length j));have Hl:=hid (hl.up Hb0.out);have c:=Hblk.out.cell;have g0:=c 0;have g1:=c 1;have g2:=c 2;have g3:=c 3;have g4:=c 4;have g5:=c 5;have a3:¬ m.n<0:=k29_;have a4:¬ 64<m.n:=k29_;have a5:¬ m.a<0:=k29_;have a6:¬ 64<m.a:=k29_;unfold boxed at *
 have Hn:=hid p;obtain ⟨L0,hL0⟩:∃ L0,decide (m.l.length=0)=L0:=⟨_,rfl⟩;obtain ⟨h,hN0⟩:∃ h,decide (m.n=S)=h:=⟨_,rfl⟩;rw [hL0,hN0];have u:((m.l.length:Int)==0)=L0:=j34_;have f1:(m.n==S)=h:=q35_;clear hL0 hN0;clear o p q r c h2;have e1:(m.b != 0)=false:=z32_;clear q1;have e2:(m.a != 0)=true:=j32_;have s:(m.t != 7)=false:=z37_;have e4:¬ (m.i.length:Int)<1:=k29_;have e5:¬ (8:Int)<(m.i.length:Int):=k29_;have e6:¬ (1:Int)<(m.i.length:Int):=k29_;clear q2 q3 q4;exact x1_
theorem Xv4 (m:Mat) (v:Value) (w:World) (k:MatV w w.heap.size v m) (_hs:Sml m) (h2:0≤m.n∧m.n≤64∧0≤m.a∧m.a≤64) (o:nest m.t) (S:Int) (Hsum:∀ (v:Value) (W:World),MatV W W.heap.size v m→Calls Tryz.prog 110 #[v] W (Tells W S)) (q1:m.b=0) (q2:m.a=0) (q4:1<m.i.length) (q5:m.i.length≤8) (q6:m.t=9) (q7:S<0):Calls Tryz.prog 78 #[v] w (Says w false):=by
 have Hsum:=hid Hsum;obtain ⟨y,x,rfl,hl,⟨d,h,rfl,p,q⟩⟩:=k.open;obtain ⟨g,j,rfl,s,u⟩:=id hl;have Hv:=hid (k.up (Z1_ w m (.slice g m.l.length j) (.slice d m.i.length h)));have Hb0:=hid (Z1_ w m (.slice g m.l.length j) (.slice d m.i.length h));have Hblk:=hid (Z3_ w m (.slice g m.l.length j) (.slice d m.i.length h));have Hl:=hid (hl.up Hb0.out);have c:=Hblk.out.cell;have g0:=c 0;have g1:=c 1;have g2:=c 2;have g3:=c 3;have g4:=c 4;have g5:=c 5;have a3:¬ m.n<0:=k29_;have a4:¬ 64<m.n:=k29_;have a5:¬ m.a<0:=k29_;have a6:¬ 64<m.a:=k29_;unfold boxed at *
 have Hn:=hid o;clear k o p q c h2;have e1:(m.b != 0)=false:=z32_;clear q1;have e2:(m.a != 0)=false:=j32_;have e4:¬ (m.i.length:Int)<1:=k29_;have e5:¬ (8:Int)<(m.i.length:Int):=k29_;have e6:(1:Int)<(m.i.length:Int):=k29_;have r:(m.t != 9)=false:=by simpa using q6
 clear q2 q4 q5 q6;exact k0_
theorem Xv5 (m:Mat) (v:Value) (w:World) (o:MatV w w.heap.size v m) (_hs:Sml m) (h2:0≤m.n∧m.n≤64∧0≤m.a∧m.a≤64) (p:nest m.t) (S:Int) (Hsum:∀ (v:Value) (W:World),MatV W W.heap.size v m→Calls Tryz.prog 110 #[v] W (Tells W S)) (q1:m.b=0) (q2:m.a=0) (q4:1<m.i.length) (q5:m.i.length≤8) (q6:m.t=9) (q7:¬ S<0) (q8:7≤m.t):Calls Tryz.prog 78 #[v] w (Says w (decide (m.l.length=0) && decide (m.n=S))):=by
 have Hsum:=hid Hsum;obtain ⟨B,z,rfl,hl,⟨d,j,rfl,q,r⟩⟩:=o.open;obtain ⟨g,k,rfl,x,y⟩:=id hl;have Hv:=hid (o.up (Z1_ w m (.slice g m.l.length k) (.slice d m.i.length j)));have Hb0:=hid (Z1_ w m (.slice g m.l.length k) (.slice d m.i.length j));have Hblk:=hid (Z3_ w m (.slice g m.l.length k) (.slice d m.i.length j));have Hl:=hid (hl.up Hb0.out);have c:=Hblk.out.cell;have g0:=c 0;have g1:=c 1;have g2:=c 2;have g3:=c 3;have g4:=c 4;have g5:=c 5;have a3:¬ m.n<0:=k29_;have a4:¬ 64<m.n:=k29_;have a5:¬ m.a<0:=k29_;have a6:¬ 64<m.a:=k29_;unfold boxed at *
 have Hn:=hid p;obtain ⟨L0,hL0⟩:∃ L0,decide (m.l.length=0)=L0:=⟨_,rfl⟩;obtain ⟨h,hN0⟩:∃ h,decide (m.n=S)=h:=⟨_,rfl⟩;rw [hL0,hN0];have u:((m.l.length:Int)==0)=L0:=j34_;have f1:(m.n==S)=h:=q35_;clear hL0 hN0;clear o p q r c h2;have e1:(m.b != 0)=false:=z32_;clear q1;have e2:(m.a != 0)=false:=j32_;have e4:¬ (m.i.length:Int)<1:=k29_;have e5:¬ (8:Int)<(m.i.length:Int):=k29_;have e6:(1:Int)<(m.i.length:Int):=k29_;have s:(m.t != 9)=false:=by simpa using q6
 clear q2 q4 q5 q6;exact x1_
theorem Xv6 (m:Mat) (v:Value) (w:World) (hv:MatV w w.heap.size v m) (_hs:Sml m) (h2:0≤m.n∧m.n≤64∧0≤m.a∧m.a≤64) (hn:nest m.t) (S:Int) (Hsum:∀ (v:Value) (W:World),MatV W W.heap.size v m→Calls Tryz.prog 110 #[v] W (Tells W S)) (q1:m.b=0) (q2:m.a=0) (q4:m.i.length=1) (q7:¬ S<0) (q8:¬ 7≤m.t) (q9:m.l.length≠1):Calls Tryz.prog 78 #[v] w (Says w false):=by
 have Hsum:=hid Hsum;obtain ⟨q,p,rfl,hl,⟨c,g,rfl,hci,hki⟩⟩:=hv.open;obtain ⟨d,h,rfl,k,o⟩:=id hl;have Hv:=hid (hv.up (Z1_ w m (.slice d m.l.length h) (.slice c m.i.length g)));have Hb0:=hid (Z1_ w m (.slice d m.l.length h) (.slice c m.i.length g));have Hblk:=hid (Z3_ w m (.slice d m.l.length h) (.slice c m.i.length g));have Hl:=hid (hl.up Hb0.out);have gb:=Hblk.out.cell;have g0:=gb 0;have g1:=gb 1;have g2:=gb 2;have g3:=gb 3;have g4:=gb 4;have g5:=gb 5;have a3:¬ m.n<0:=k29_;have a4:¬ 64<m.n:=k29_;have a5:¬ m.a<0:=k29_;have a6:¬ 64<m.a:=k29_;unfold boxed at *
 have Hn:=hid hn;have j:((m.l.length:Int) != 1)=true:=k30_;clear q9;exact z24_
theorem Xv7 (m:Mat) (v:Value) (w:World) (I:MatV w w.heap.size v m) (_hs:Sml m) (h2:0≤m.n∧m.n≤64∧0≤m.a∧m.a≤64) (N:nest m.t) (S:Int) (z:∀ (v:Value) (W:World),MatV W W.heap.size v m→Calls Tryz.prog 110 #[v] W (Tells W S)) (q1:m.b=0) (q2:m.a=0) (q4:m.i.length=1) (q7:¬ S<0) (q8:¬ 7≤m.t) (q9:m.l.length=1) (q0:okA S (row m 0)=false):Calls Tryz.prog 78 #[v] w (Says w false):=by
 have z:=hid z;obtain ⟨lv,iv,rfl,hl,⟨q,B,rfl,x1,x3⟩⟩:=I.open;obtain ⟨s,C,rfl,x2,M⟩:=id hl;have K:=hid (I.up (Z1_ w m (.slice s m.l.length C) (.slice q m.i.length B)));have u:=hid (Z1_ w m (.slice s m.l.length C) (.slice q m.i.length B));have j:=hid (Z3_ w m (.slice s m.l.length C) (.slice q m.i.length B));have J:=hid (hl.up u.out);have c:=j.out.cell;have g0:=c 0;have g1:=c 1;have g2:=c 2;have g3:=c 3;have g4:=c 4;have g5:=c 5;have a3:¬ m.n<0:=k29_;have a4:¬ 64<m.n:=k29_;have a5:¬ m.a<0:=k29_;have a6:¬ 64<m.a:=k29_;unfold boxed at *
 have X:=hid N;obtain ⟨ad,u0,hA,L,H,O⟩:=M 0 k29_;subst hA;rw [add_zero] at H;have P:row m 0=m.l.getD 0 []:=rfl;rw [P] at q0;have f0:((m.l.length:Int) != 1)=false:=k30_;have f1:(0:Int)<(m.l.length:Int):=k29_;have f2:0<m.l.length:=k29_;generalize m.l.getD 0 []=r at *
 have U:=hid H;have Q:=hid L;have Y:=hid O;have Q0:=hid q0;clear q9 H O q0 x2 M hl L P;clear I N x1 x3 c h2;have e1:(m.b != 0)=false:=z32_;clear q1;have e2:(m.a != 0)=false:=j32_;have e4:¬ (m.i.length:Int)<1:=k29_;have e5:¬ (8:Int)<(m.i.length:Int):=k29_;have e6:¬ (1:Int)<(m.i.length:Int):=k29_;clear q2 q4
 go_enter Tryz.func78,Tryz.ntmps78
 go_wp2_with fail
 refine (Y3_ m.t _).mono ?_;rintro e w1 ⟨rfl,g⟩;rw [decide_eq_true X.out];have R:=hid (Z0_ u.out (le_refl _) g);have x0:=hid (K.out.up g);have V:=hid (J.out.up g);have x:=hid (j.out.below g j.out.lt);have d:=x.out.cell;have D:=d 0;have E:=d 1;have d2:=d 2;have d3:=d 3;have F:=d 4;have d5:=d 5;clear d g g0 g1 g2 g3 g4 g5 a3 a4 a5 a6 u K J j
 go_wp2_with fail
 refine (z.out _ _ x0.out).mono ?_;rintro e w2 ⟨rfl,k⟩;have h:=hid (Z0_ R.out (le_refl _) k);have x5:=hid (V.out.up k);have y:=hid (x.out.below k x.out.lt);clear k D E d2 d3 F d5 e1 e2 e4 e5 e6;have o:=y.out.cell;have D:=o 0;have E:=o 1;have F:=o 4;clear o;have c0:=(h.out.cell (p:=ad) Q.out).trans U.out;have Z:=hid ((Y.out.below h.out).mono h.out.size)
 go_wp2_with fail
 refine (Zf8 u0 r S _ Z.out).mono ?_;rintro e w3 ⟨rfl,G⟩;rw [Q0.out];have T:=hid (Z0_ h.out (le_refl _) G);have x4:=hid (y.out.below G y.out.lt);clear G D E F c0;go_wp2;go_ret;exact ⟨rfl,T.out⟩
theorem Yl8 (m:Mat) (v:Value) (w:World) (P:MatV w w.heap.size v m) (_hs:Sml m) (h2:0≤m.n∧m.n≤64∧0≤m.a∧m.a≤64) (X:nest m.t) (S:Int) (J:∀ (v:Value) (W:World),MatV W W.heap.size v m→Calls Tryz.prog 110 #[v] W (Tells W S)) (q1:m.b=0) (q2:m.a=0) (q4:m.i.length=1) (q7:¬ S<0) (q8:¬ 7≤m.t) (q9:m.l.length=1) (q0:okA S (row m 0)=true) (q5:m.t=5):Calls Tryz.prog 78 #[v] w (Says w (decide (m.n=(row m 0).length))):=by
 have J:=hid J;obtain ⟨lv,iv,rfl,hl,⟨j,s,rfl,x6,x8⟩⟩:=P.open;obtain ⟨C,u,rfl,x7,V⟩:=id hl;have T:=hid (P.up (Z1_ w m (.slice C m.l.length u) (.slice j m.i.length s)));have E:=hid (Z1_ w m (.slice C m.l.length u) (.slice j m.i.length s));have o:=hid (Z3_ w m (.slice C m.l.length u) (.slice j m.i.length s));have R:=hid (hl.up E.out);have c:=o.out.cell;have g0:=c 0;have g1:=c 1;have g2:=c 2;have g3:=c 3;have g4:=c 4;have g5:=c 5;have a3:¬ m.n<0:=k29_;have a4:¬ 64<m.n:=k29_;have a5:¬ m.a<0:=k29_;have a6:¬ 64<m.a:=k29_;unfold boxed at *
 have Hn:=hid X;obtain ⟨K,u0,hA,U,O,Y⟩:=V 0 k29_;subst hA;rw [add_zero] at O;have Z:row m 0=m.l.getD 0 []:=rfl;rw [Z] at q0 ⊢;have f0:((m.l.length:Int) != 1)=false:=k30_;have f1:(0:Int)<(m.l.length:Int):=k29_;have f2:0<m.l.length:=k29_;generalize m.l.getD 0 []=r at *
 have Q:=hid O;have D:=hid U;have x3:=hid Y;have Q0:=hid q0;clear q9 O Y q0 x7 V hl U Z;have f5:(m.t==5)=true:=by simpa using q5
 clear q5;clear P X x6 x8 c h2;have e1:(m.b != 0)=false:=z32_;clear q1;have e2:(m.a != 0)=false:=j32_;have e4:¬ (m.i.length:Int)<1:=k29_;have e5:¬ (8:Int)<(m.i.length:Int):=k29_;have e6:¬ (1:Int)<(m.i.length:Int):=k29_;clear q2 q4
 go_enter Tryz.func78,Tryz.ntmps78
 go_wp2_with fail
 refine (Y3_ m.t _).mono ?_;rintro e w1 ⟨rfl,h⟩;rw [decide_eq_true Hn.out];have x0:=hid (Z0_ E.out (le_refl _) h);have x5:=hid (T.out.up h);have x2:=hid (R.out.up h);have F:=hid (o.out.below h o.out.lt);have d:=F.out.cell;have g:=d 0;have L:=d 1;have d2:=d 2;have d3:=d 3;have M:=d 4;have d5:=d 5;clear d h g0 g1 g2 g3 g4 g5 a3 a4 a5 a6 E T R o
 go_wp2_with fail
 refine (J.out _ _ x5.out).mono ?_;rintro e w2 ⟨rfl,y⟩;have k:=hid (Z0_ x0.out (le_refl _) y);have xa:=hid (x2.out.up y);have G:=hid (F.out.below y F.out.lt);clear y g L d2 d3 M d5 e1 e2 e4 e5 e6;have z:=G.out.cell;have g:=z 0;have L:=z 1;have M:=z 4;clear z;have c0:=(k.out.cell (p:=K) D.out).trans Q.out;have I:=hid ((x3.out.below k.out).mono k.out.size)
 go_wp2_with fail
 refine (Zf8 u0 r S _ I.out).mono ?_;rintro e B ⟨rfl,N⟩;rw [Q0.out];have Hb3:=hid (Z0_ k.out (le_refl _) N);have H:=hid (G.out.below N G.out.lt);clear N g L M c0;have x1:Hid (∀ W,Below B.heap.size B W→∀ i,W.cell? ⟨w.heap.size,i,none⟩=#[.int .i64 m.t,.int .i64 m.n,.int .i64 m.a,.int .i64 m.b,.slice (some K) m.l.length u,.slice j m.i.length s][i]?):=fun W x i=>(H.out.below x H.out.lt).cell i;have x4:=hid (X6_ ((Hb3.out.cell (p:=K) D.out).trans Q.out) (Nat.lt_of_lt_of_le D.out Hb3.out.size));obtain ⟨Ar,cr,x9,_⟩:=id I.out;subst x9;have g:=H.out.cell 0;clear I;go_wp2;clear g;refine Z5_ B.heap.size B q30_ q30_ (Below.refl _ _) ?_
 iterate 9 (go_big_quiet_want;apply Exists.intro;refine ⟨fun W x=>?_,?_⟩;(· have q:=x1.out W x;have q1:=q 1;have q4:=q 4;clear q;have r0:=x4.out W x;go_simp;first | exact rfl | exact ⟨rfl,rfl⟩);go_simp;go_big_quiet_on)
 exact k15_
theorem Xv8 (m:Mat) (v:Value) (w:World) (P:MatV w w.heap.size v m) (_hs:Sml m) (h2:0≤m.n∧m.n≤64∧0≤m.a∧m.a≤64) (X:nest m.t) (S:Int) (J:∀ (v:Value) (W:World),MatV W W.heap.size v m→Calls Tryz.prog 110 #[v] W (Tells W S)) (q1:m.b=0) (q2:m.a=0) (q4:m.i.length=1) (q7:¬ S<0) (q8:¬ 7≤m.t) (q9:m.l.length=1) (q0:okA S (row m 0)=true) (q5:m.t≠5):Calls Tryz.prog 78 #[v] w (Says w (decide (m.n=IntKind.i64.wrap (S - (row m 0).length)))):=by
 have J:=hid J;obtain ⟨lv,iv,rfl,hl,⟨j,s,rfl,x6,x8⟩⟩:=P.open;obtain ⟨C,u,rfl,x7,V⟩:=id hl;have T:=hid (P.up (Z1_ w m (.slice C m.l.length u) (.slice j m.i.length s)));have E:=hid (Z1_ w m (.slice C m.l.length u) (.slice j m.i.length s));have o:=hid (Z3_ w m (.slice C m.l.length u) (.slice j m.i.length s));have R:=hid (hl.up E.out);have c:=o.out.cell;have g0:=c 0;have g1:=c 1;have g2:=c 2;have g3:=c 3;have g4:=c 4;have g5:=c 5;have a3:¬ m.n<0:=k29_;have a4:¬ 64<m.n:=k29_;have a5:¬ m.a<0:=k29_;have a6:¬ 64<m.a:=k29_;unfold boxed at *
 have Hn:=hid X;obtain ⟨K,u0,hA,U,O,Y⟩:=V 0 k29_;subst hA;rw [add_zero] at O;have Z:row m 0=m.l.getD 0 []:=rfl;rw [Z] at q0 ⊢;have f0:((m.l.length:Int) != 1)=false:=k30_;have f1:(0:Int)<(m.l.length:Int):=k29_;have f2:0<m.l.length:=k29_;generalize m.l.getD 0 []=r at *
 have Q:=hid O;have D:=hid U;have x3:=hid Y;have Q0:=hid q0;clear q9 O Y q0 x7 V hl U Z;have f5:(m.t==5)=false:=by simpa using q5
 clear q5;clear P X x6 x8 c h2;have e1:(m.b != 0)=false:=z32_;clear q1;have e2:(m.a != 0)=false:=j32_;have e4:¬ (m.i.length:Int)<1:=k29_;have e5:¬ (8:Int)<(m.i.length:Int):=k29_;have e6:¬ (1:Int)<(m.i.length:Int):=k29_;clear q2 q4
 go_enter Tryz.func78,Tryz.ntmps78
 go_wp2_with fail
 refine (Y3_ m.t _).mono ?_;rintro e w1 ⟨rfl,h⟩;rw [decide_eq_true Hn.out];have x0:=hid (Z0_ E.out (le_refl _) h);have x5:=hid (T.out.up h);have x2:=hid (R.out.up h);have F:=hid (o.out.below h o.out.lt);have d:=F.out.cell;have g:=d 0;have L:=d 1;have d2:=d 2;have d3:=d 3;have M:=d 4;have d5:=d 5;clear d h g0 g1 g2 g3 g4 g5 a3 a4 a5 a6 E T R o
 go_wp2_with fail
 refine (J.out _ _ x5.out).mono ?_;rintro e w2 ⟨rfl,y⟩;have k:=hid (Z0_ x0.out (le_refl _) y);have xa:=hid (x2.out.up y);have G:=hid (F.out.below y F.out.lt);clear y g L d2 d3 M d5 e1 e2 e4 e5 e6;have z:=G.out.cell;have g:=z 0;have L:=z 1;have M:=z 4;clear z;have c0:=(k.out.cell (p:=K) D.out).trans Q.out;have I:=hid ((x3.out.below k.out).mono k.out.size)
 go_wp2_with fail
 refine (Zf8 u0 r S _ I.out).mono ?_;rintro e B ⟨rfl,N⟩;rw [Q0.out];have Hb3:=hid (Z0_ k.out (le_refl _) N);have H:=hid (G.out.below N G.out.lt);clear N g L M c0;have x1:Hid (∀ W,Below B.heap.size B W→∀ i,W.cell? ⟨w.heap.size,i,none⟩=#[.int .i64 m.t,.int .i64 m.n,.int .i64 m.a,.int .i64 m.b,.slice (some K) m.l.length u,.slice j m.i.length s][i]?):=fun W x i=>(H.out.below x H.out.lt).cell i;have x4:=hid (X6_ ((Hb3.out.cell (p:=K) D.out).trans Q.out) (Nat.lt_of_lt_of_le D.out Hb3.out.size));obtain ⟨Ar,cr,x9,_⟩:=id I.out;subst x9;have g:=H.out.cell 0;clear I;go_wp2;clear g;refine Z5_ B.heap.size B q30_ q30_ (Below.refl _ _) ?_
 iterate 11 (go_big_quiet_want;apply Exists.intro;refine ⟨fun W x=>?_,?_⟩;(· have q:=x1.out W x;have q1:=q 1;have q4:=q 4;clear q;have r0:=x4.out W x;go_simp;first | exact rfl | exact ⟨rfl,rfl⟩);go_simp;go_big_quiet_on)
 exact k15_
theorem Xm6:∀ (k:Nat),MayAt k:=by
 intro k
 induction k with
 | zero=>intro m v w _ _ hd;have:=Za3 0 m;omega
 | succ k ih =>
  intro m v w g hs hd;by_cases h2:0≤m.n∧m.n≤64∧0≤m.a∧m.a≤64
  ·by_cases e:nest m.t
   ·have s:∀ x∈m.i,dp k x≤k:=fun x u=>by have:=W2_ (k:=k) e u;omega
    have h:∀ (v:Value) (W:World),MatV W W.heap.size v m→Calls Tryz.prog 110 #[v] W (Tells W (sumsI k m)):=fun v W g=>Xl8 k ih m v W g hs s;rw [Vj3 h2 e];rcases hh:headB m with _ | _
    ·simpa using Xx9 m v w g hs h2 e hh
    rw [Bool.true_and];have q:=hh;unfold headB at q;simp only [Bool.and_eq_true,Bool.or_eq_true,decide_eq_true_iff] at q;obtain ⟨⟨⟨⟨q1,q2⟩,q4⟩,q5⟩,q6⟩:=q;have r:(m.a=0∧m.i.length=1)∨(m.a≠0∧m.t=7∧m.i.length=1)∨(m.a=0∧1<m.i.length∧m.i.length≤8∧m.t=9):=k29_;unfold sumsI at h;rcases hall:m.i.all (ok k) with _ | _
    ·rw [hall,if_neg x30_] at h
     rw [Bool.false_and];rcases r with ⟨a,b⟩ | ⟨a,b,c⟩ | ⟨a,b,c,d⟩
     ·exact Xv0 m v w g hs h2 e (-1) h q1 a b x30_
     ·exact Xv2 m v w g hs h2 e (-1) h q1 a b c x30_
     ·exact Xv4 m v w g hs h2 e (-1) h q1 a b c d x30_
    ·rw [hall,if_pos rfl] at h
     rw [Bool.true_and];have y:=Vh5 hall q5;unfold tailB;by_cases j:7≤m.t
     ·rw [if_pos j]
      rcases r with ⟨a,b⟩ | ⟨a,b,c⟩ | ⟨a,b,c,d⟩
      ·exact Xv1 m v w g hs h2 e _ h q1 a b k29_ j
      ·exact Xv3 m v w g hs h2 e _ h q1 a b c k29_ j
      ·exact Xv5 m v w g hs h2 e _ h q1 a b c d k29_ j
     ·rw [if_neg j]
      have ha:m.a=0:=k29_;have p:m.i.length=1:=k29_;by_cases hl:m.l.length=1
      ·rw [decide_eq_true hl,Bool.true_and]
       rcases hk:okA (tog m.i) (row m 0) with _ | _
       ·exact Xv7 m v w g hs h2 e _ h q1 ha p k29_ j hl hk
       ·rw [Bool.true_and]
        by_cases o:m.t=5
        ·rw [if_pos o]
         exact Yl8 m v w g hs h2 e _ h q1 ha p k29_ j hl hk o
        ·rw [if_neg o]
         exact Xv8 m v w g hs h2 e _ h q1 ha p k29_ j hl hk o
      ·rw [decide_eq_false hl,Bool.false_and,Bool.false_and]
       exact Xv6 m v w g hs h2 e _ h q1 ha p k29_ j hl
   ·rw [show ok (k+1) m=decide (bad m=0) from by
     rw [ok];by_cases hb:bad m=0
     ·rw [O9_ hb e];simp
     ·rw [decide_eq_false hb];rfl]
    exact Yl7 m v w g hs h2 e
  ·rw [show ok (k+1) m=false from by
    rw [ok,decide_eq_false (fun hb=>h2 (X3_ hb).2.1)];rfl]
   exact Xl9 m v w g k29_
open Go.RowKit
open Go.RowKit
theorem Zb6 (m:Mat) (v:Value) (w:World) (j:MatV w w.heap.size v m) (hs:Sml m):Calls Tryz.prog 45 #[v] w (Tells w (chk m)):=by
 have p:=hid hs;obtain ⟨E,C,J,_,_⟩:=j.open;have Hb0:=hid (Z1_ w m E C);have q:=hid (j.up Hb0.out);have c:=hid (Z3_ w m E C);have g0:=c.out.cell 0;have g1:=c.out.cell 1;have g2:=c.out.cell 2;have g3:=c.out.cell 3;have g4:=c.out.cell 4;have g5:=c.out.cell 5;subst J;unfold boxed at *
 have r:=dp_le 4 m;obtain ⟨D,k⟩:∃ D:Nat,dp 4 m=D:=⟨_,rfl⟩;have x:Hid (deepI m=(D:Int)):=hid (by unfold deepI;rw [k]);have o:=hid k;rw [k] at r;clear j hs k;by_cases h:D=5
 ·have e:chk m=91:=if_pos (o.out.trans h)
  rw [e];have I:((D:Int)==5)=true:=k30_;clear e h r
  go_enter Tryz.func45,Tryz.ntmps45
  go_wp2_with fail
  refine (Zo1 m _ _ q.out p.out).mono ?_;rintro e K ⟨rfl,hb1⟩;rw [x.out];exact x25_
 ·have I:((D:Int)==5)=false:=by simp;omega
  obtain ⟨g,u⟩:∃ g,ok 4 m=g:=⟨_,rfl⟩;have e:chk m=if g=true then 0 else 90:=by rw [← u];exact if_neg (by rw [o.out];exact h)
  obtain ⟨R,s⟩:∃ R:Int,R=if g=true then 0 else 90:=⟨_,rfl⟩
  rw [e,← s];have y:=hid s;have z:=hid (fun (v:Value) (W:World) (j:MatV W W.heap.size v m)=>Xm6 4 m v W j p.out (by rw [o.out];omega));rw [u] at z;clear e h r u s
  go_enter Tryz.func45,Tryz.ntmps45
  go_wp2_with fail
  refine (Zo1 m _ _ q.out p.out).mono ?_;rintro e K ⟨rfl,hb1⟩;rw [x.out];have Hb1:=hid (Z0_ Hb0.out (le_refl _) hb1);have F:=hid (q.out.up hb1);have d:=hid (c.out.below hb1 c.out.lt);clear hb1 g0 g1 g2 g3 g4 g5;have g0:=d.out.cell 0;have g1:=d.out.cell 1;have g2:=d.out.cell 2;have g3:=d.out.cell 3;have g4:=d.out.cell 4;have g5:=d.out.cell 5
  go_wp2_with fail
  refine (z.out _ _ F.out).mono ?_;rintro e L ⟨rfl,B⟩;have Hb2:=hid (Z0_ Hb1.out (le_refl _) B);clear B g0 g1 g2 g3 g4 g5;cases g
  ·have H:R=90:=y.out
   subst H;exact j2_
  ·have G:R=0:=y.out
   subst G;exact j2_
end Go.Proofs.YtheeajnkiniopaaGreatDoor.Wp
