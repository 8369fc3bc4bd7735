/- The document's Set, and the law's own 'in', walked. The document's sums and may, walked. The document's All, Minus and Check, walked. -/
import Derived.Test.YtigobiacbficaaaGreatDoorZA
import Derived.Test.YtigobiacbficaaaGreatDoorQTB
import Derived.Test.YtigobiacbficaaaGreatDoorZU
import Derived.Test.YtigobiacbficaaaGreatDoorX0A
import Derived.Test.YtigobiacbficaaaGreatDoorX0B
set_option maxHeartbeats 8000000
set_option maxRecDepth 100000
open Go.Lib (hid)
open Nat (le_refl)
namespace Go.Proofs.YtigobiacbficaaaGreatDoor.Wp
open Go.RowKit
theorem H7_ (v:Value) (l:List Int) (n:Int) (w:World) (k:Row w w.heap.size v l):Calls Tryz.prog 60 #[v,.int .i64 n] w (Says w (okA n l)):=by
 have Hr:=hid k;obtain ⟨A,c,rfl,hcap,j⟩:=k;have r:(l.length:Int)≤9223372036854775807:=x6_;have hlm:l.length≤9223372036854775807:=y40_;have m:=hid j;clear hcap j;rcases hm:mayB l with _ | _
 ·rw [Xe1 hm]
  have Hm:=hid hm;clear hm;exact q40_
 ·have Hm:=hid hm
  clear hm;by_cases h0:l.length=0
  ·rw [Zp2 Hm.out h0]
   have o:((l.length:Int)==0)=true:=y50_;clear h0;exact q40_
  ·obtain ⟨x,h⟩:∃ x,l.getD (l.length - 1) 0=x:=⟨_,rfl⟩
   obtain ⟨al,q,halb,g⟩:=m.out (l.length - 1) y40_;rw [Zq6 Hm.out y40_ h];rw [h] at g;subst q;obtain ⟨L,d⟩:∃ L,l.length=L:=⟨_,rfl⟩;have s:=hid d;rw [d] at g Hr r h0;rw [d];have o:((L:Int)==0)=false:=y50_;have y:(0:Int)<(L:Int):=y40_;have z:IntKind.i64.wrap ((L:Int) - 1)=(L:Int) - 1:=y41_;have B:(0:Int)≤(L:Int) - 1:=y40_;have C:(L:Int) - 1<(L:Int):=y40_;have D:((L:Int) - 1).toNat=L - 1:=y40_;clear h h0 d
   go_enter Tryz.func60,Tryz.ntmps60
   go_wp2_with fail
   refine (Y6_ _ l w Hr.out hlm Hm.out).mono ?_;rintro e w1 ⟨rfl,hb1⟩;have Hb1:=hid hb1;have u:=(hb1.cell (p:=al.add (L - 1)) q47_).trans g;clear hb1 g;exact k1_
open Go
theorem Zx2 {n:Int} {l:List Int} (c:0≤n) (e:n≤64):okA n l=subB l (allL n):=by
 rw [Bool.eq_iff_iff];constructor
 ·intro h
  obtain ⟨h2,h3⟩:=Zr7 h;exact Yh7 c e h2 h3
 ·intro h
  obtain ⟨h2,_,h3⟩:=subB_iff.1 h;have d:mayB l=true:=mayB_iff.2 h2;by_cases hl:l.length=0
  ·exact Zp2 d hl
  ·rw [Zq6 d y40_ rfl,decide_eq_true_iff]
   have f:=h3 (l.getD (l.length - 1) 0) (by rw [show l.getD (l.length - 1) 0=l[l.length - 1]'y40_ by simp [List.getD,show l.length - 1<l.length by omega]];exact List.getElem_mem _);exact ((F3_ c y40_ _).1 f).2
theorem ok_n {k:Nat} {m:Mat} (h:ok k m=true):0≤m.n∧m.n≤64:=by
 cases k with
 | zero=>cases h
 | succ k=>have:=(V1_ (Xh8 h)).2.1;omega
theorem Jj5 {k:Nat} {i:List Mat} (h:i.all (ok k)=true) (hl:i.length≤8):0≤tog i∧tog i≤512:=by
 have:=Vh6 (l:=i) (fun x c=>ok_n (List.all_eq_true.1 h x c)) y40_;omega
theorem Jj6 {x:Mat} (h:0≤x.n∧x.n≤64):tog [x]=x.n:=by
 show IntKind.i64.wrap (0+x.n)=x.n;rw [G3_ y40_ y40_];omega
def headB (m:Mat):Bool:=decide (m.b=0) && (decide (m.a=0) || decide (m.t=7)) && decide (1≤m.i.length) && decide (m.i.length≤8) && (decide (m.i.length≤1) || decide (m.t=9))
def tailB (S:Int) (m:Mat):Bool :=
 if 7≤m.t then decide (m.l.length=0) && decide (m.n=S)
 else decide (m.l.length=1) && okA S (row m 0) && (if m.t=5 then decide (m.n=(row m 0).length) else decide (m.n=IntKind.i64.wrap (S - (row m 0).length)))
theorem Vr9 {m:Mat} (h2:0≤m.n∧m.n≤64∧0≤m.a∧m.a≤64) (c:nest m.t):(bad m=0)↔Z9_ (form m.t) m=true∧fitsB m=true:=by
 unfold nest at c;exact ⟨fun h=>⟨(V1_ h).2.2.1,(V1_ h).2.2.2⟩,fun h=>Xh7 y40_ h2 h.1 h.2⟩
theorem Vs0 {k:Nat} {m:Mat} (h2:0≤m.n∧m.n≤64∧0≤m.a∧m.a≤64) (j:nest m.t):ok (k+1) m=(headB m && m.i.all (ok k) && tailB (tog m.i) m):=by
 rw [ok];rcases hall:m.i.all (ok k) with _ | _
 ·simp
 rw [Bool.and_true,Bool.and_true,Bool.eq_iff_iff,decide_eq_true_iff,Vr9 h2 j,takes_iff,Bool.and_eq_true];obtain ⟨t,n,a,b,l,i⟩:=m;unfold nest at j;unfold headB tailB;change 5≤t∧t≤9 at j;change 0≤n∧n≤64∧0≤a∧a≤64 at h2;change i.all (ok k)=true at hall;obtain ⟨S,e⟩:∃ S,tog (Mat.mk t n a b l i).i=S:=⟨_,rfl⟩;rw [e];change tog i=S at e;have r:row (.mk t n a b l i) 0=l.getD 0 []:=rfl;have q:t=5∨t=6→i.length=1→∃ x,i=[x]∧tog i=x.n∧partB (.mk t n a b l i)=okA x.n (l.getD 0 [])∧0≤x.n∧x.n≤64:=fun _ c=>by
  obtain ⟨x,rfl⟩:=List.length_eq_one_iff.1 c;have d:=ok_n (List.all_eq_true.1 hall x k40_);refine ⟨x,rfl,Jj6 d,?_,d⟩;rw [Zx2 d.1 d.2];rfl
 have f:7≤t→fitsB (.mk t n a b l i)=decide (n=S):=fun h=>by rw [← e];exact Zy8 (by show t=7∨t=8∨t=9;omega)
 rcases (by omega:t=5∨t=6∨t=7∨t=8∨t=9) with rfl | rfl | rfl | rfl | rfl
 ·have g:fitsB (.mk 5 n a b l i)=(partB (.mk 5 n a b l i) && decide (n=(l.getD 0 []).length)):=rfl
  rw [g,r];by_cases c:i.length=1
  ·obtain ⟨x,d,p,o,_⟩:=q (.inl rfl) c
   rw [o,← e,p];simp [form,c,Mat.t,Mat.n,Mat.a,Mat.b,Mat.l,Mat.i]
   grind
  ·exact k12_
 ·have g:fitsB (.mk 6 n a b l i)=(partB (.mk 6 n a b l i) && decide (IntKind.i64.wrap (n+(l.getD 0 []).length)=(inn (.mk 6 n a b l i)).n)):=rfl
  rw [g,r];by_cases c:i.length=1
  ·obtain ⟨x,d,p,o,u,v⟩:=q (.inr rfl) c
   have s:(inn (.mk 6 n a b l i)).n=x.n:=by rw [d];rfl
   rw [o,s,← e,p];rcases ho:okA x.n (l.getD 0 []) with _ | _
   ·simp [Mat.t,Mat.n,Mat.a,Mat.b,Mat.l,Mat.i]
   ·obtain ⟨w,y⟩:=Zr7 ho
    have z:=Vp0 u v w y;rw [G3_ y40_ y40_,G3_ y40_ y40_];simp [form,c,Mat.t,Mat.n,Mat.a,Mat.b,Mat.l,Mat.i]
    grind
  ·exact k12_
 ·rw [f y40_]
  exact k12_
 ·rw [f y40_]
  exact k12_
 ·rw [f y40_]
  exact k12_
theorem Ys5 {p:Mat→Bool} {i:List Mat} {k:Nat} (c:k<i.length) (h:p (i.getD k default)=false):i.all p=false:=by
 rw [List.all_eq_false];refine ⟨i[k],List.getElem_mem c,?_⟩;rw [show i.getD k default=i[k] by simp [List.getD,c]] at h;simp [h]
theorem Ys6 {p:Mat→Bool} {i:List Mat} (h:∀ k,k<i.length→p (i.getD k default)=true):i.all p=true:=by
 rw [List.all_eq_true];intro x d;obtain ⟨k,c,rfl⟩:=List.mem_iff_getElem.1 d;have:=h k c
 rwa [show i.getD k default=i[k] by simp [List.getD,c]] at this
def sumsI (k:Nat) (m:Mat):Int:=if m.i.all (ok k)=true then tog m.i else -1
def MayAt (k:Nat):Prop:=∀ (m:Mat) (v:Value) (w:World),MatV w w.heap.size v m→Sml m→dp k m≤k→Calls Tryz.prog 50 #[v] w (Says w (ok k m))
theorem Vb1 (k:Nat) (ih:MayAt k) (m:Mat) (v:Value) (w:World) (V:MatV w w.heap.size v m) (hs:Sml m) (hd:∀ x∈m.i,dp k x≤k):Calls Tryz.prog 82 #[v] w (Tells w (sumsI k m)):=by
 obtain ⟨F,iv,rfl,_,⟨o,y,rfl,_,P⟩⟩:=V.open;have Hk:=hid P;have Hs:=hid hs;have Hd:=hid hd;have xc:=Zj7 hs;have xd:(m.i.length:Int)≤1000:=y40_;have I:=hid (Z1_ w m F (.slice o m.i.length y));have J:=hid (Z4_ w m F (.slice o m.i.length y));obtain ⟨R,z⟩:∃ R,sumsI k m=R:=⟨_,rfl⟩;have H:=hid z;rw [z];unfold boxed at *
 clear V hs hd P z
 go_enter Tryz.func82,Tryz.ntmps82
 go_wp2
 go_loopw [3,4] (fun vn G wr=>∃ i:Nat,vn=.int .i64 (tog (m.i.take i))∧G=.int .i64 i∧i≤m.i.length∧(∀ j,j<i→ok k (m.i.getD j default)=true)∧Blk wr w.heap.size 25 #[.int .i64 m.t,.int .i64 m.n,.int .i64 m.a,.int .i64 m.b,F,.slice o m.i.length y]∧Below w.heap.size w wr) (fun _ G _=>m.i.length - (intOf G).toNat)
 case atStart=>exact ⟨0,rfl,rfl,Nat.zero_le _,fun j O=>absurd O (Nat.not_lt_zero _),J.out,I.out⟩
 case round =>
  obtain ⟨i,rfl,rfl,hi,S,B,M⟩:=hrel;have Hok:=hid S;have Hbr:=hid M;have L:=hid B;have g5:=B.cell 5;obtain ⟨r,d⟩:∃ r,tog (m.i.take i)=r:=⟨_,rfl⟩;have X:=hid d;rw [d];clear S B M J I;by_cases h:i<m.i.length
  ·have xe:(i:Int)<(m.i.length:Int):=by omega
   obtain ⟨s,u,hA,hab,T,Q⟩:=Hk.out i h;subst hA;have xa:=T.below Hbr.out x42_;have D:=(Q.bel Hbr.out).mono Hbr.out.size;have C:=Y4_ m.i i default h;have g:=hid (ih _ u wr D (sml_i Hs.out C) (Hd.out _ C));have E:=Ys2 (l:=m.i) h;rw [d] at E;have x9:=hid E;have x6:=hid (Ys5 (p:=ok k) h);have x7:Hid (ok k (m.i.getD i default)=true→∀ j,j<i+1→ok k (m.i.getD j default)=true):=hid fun hb j O=>q11_;obtain ⟨xg,xf,U,_,_⟩:=D.open;obtain ⟨x0,x1,x2,x3,x4,x5,c,s0,W,s2,s3,s4,s5⟩:=xa;rw [U] at c;injection c with c;injection c with c;injection c with h0 c;injection c with h1 c;injection c with h2 c;injection c with h3 c;injection c with h4 c;injection c with h5 _;subst h0 h1 h2 h3 h4 h5 U;have x8:=hid W;have Y:=hid (show ((s.add (i * 6)).block)<wr.heap.size from by rw [Z2_];exact Nat.lt_of_lt_of_le hab Hbr.out.size);clear d E C T Q D hab Hok;generalize m.i.getD i default=x at *
   rcases hb:ok k x with _ | _
   ·have q:Hid (R=-1):=hid (by rw [← H.out];unfold sumsI;rw [x6.out hb];rfl)
    rw [hb] at g;obtain rfl:=q.out;clear hb
    go_wp2_with fail
    refine (g.out).mono ?_;exact q38_
   ·have Z:=hid hb
    rw [hb] at g;clear hb
    go_wp2_with fail
    refine (g.out).mono ?_;rintro e w1 ⟨rfl,hb1⟩;have Hb1:=hid (Z0_ Hbr.out (le_refl _) hb1);have K:=hid (L.out.below hb1 L.out.lt);have xb:=K.out.cell 5;have xh:=(hb1.cell (p:=⟨(s.add (i * 6)).block,(s.add (i * 6)).off+1,none⟩) Y.out).trans x8.out;clear hb1 s0 W s2 s3 s4 s5 g5;go_wp2
    go_roundw
    case rel=>exact ⟨i+1,by rw [x9.out,Xk5],j41_,y40_,x7.out Z.out,K.out,Hb1.out⟩
    exact mz_
  ·have N:i=m.i.length:=by omega
   have Hie:=hid N;have q:Hid (R=r):=hid (by rw [← H.out,← X.out];unfold sumsI;rw [if_pos (Ys6 y49_),Hie.out,List.take_length]);obtain rfl:=q.out;obtain rfl:=N;clear d;exact y15_
theorem Vb2 (m:Mat) (v:Value) (w:World) (d:MatV w w.heap.size v m) (h:m.n<0∨64<m.n∨m.a<0∨64<m.a):Calls Tryz.prog 50 #[v] w (Says w false):=by
 obtain ⟨g,e,rfl,_,_⟩:=d.open;have Hb0:=hid (Z1_ w m g e);have c:=(Z4_ w m g e).cell;have q:=c 1;have r:=c 2;unfold boxed at *
 clear d c;by_cases j:m.n<0
 ·exact q33_
 by_cases k:64<m.n
 ·exact q33_
 by_cases o:m.a<0
 ·exact q33_
 have p:64<m.a:=y40_;clear h;exact q33_
theorem Xq1 (m:Mat) (v:Value) (w:World) (h:MatV w w.heap.size v m) (hs:Sml m) (h2:0≤m.n∧m.n≤64∧0≤m.a∧m.a≤64) (q:¬ nest m.t):Calls Tryz.prog 50 #[v] w (Says w (decide (bad m=0))):=by
 obtain ⟨r,Z,rfl,hl,⟨k,p,rfl,V,X⟩⟩:=h.open;have u:=hid (h.up (Z1_ w m r (.slice k m.i.length p)));have o:=hid (Z1_ w m r (.slice k m.i.length p));have j:=hid (Z4_ w m r (.slice k m.i.length p));have s:=hid (hl.up o.out);have c:=j.out.cell;have P:=c 0;have Q:=c 1;have R:=c 2;have S:=c 3;have T:=c 4;have U:=c 5;have F:¬ m.n<0:=y40_;have G:¬ 64<m.n:=y40_;have H:¬ m.a<0:=y40_;have I:¬ 64<m.a:=y40_;unfold boxed at *
 have B:=hid q;have C:=hid (fun (v:Value) (W:World) (h:MatV W W.heap.size v m)=>Xq0 m v W h hs h2 q);generalize decide (bad m=0)=D at *
 clear h q hl V X c hs h2
 go_enter Tryz.func50,Tryz.ntmps50
 go_wp2_with fail
 refine (X2_ m.t _).mono ?_;rintro e w1 ⟨rfl,g⟩;rw [decide_eq_false B.out];have y:=hid (Z0_ o.out (le_refl _) g);have E:=hid (u.out.up g);have Y:=hid (s.out.up g);have z:=hid (j.out.below g j.out.lt);have d:=z.out.cell;have J:=d 0;have K:=d 1;have L:=d 2;have M:=d 3;have N:=d 4;have O:=d 5;clear d g P Q R S T U F G H I o u s j
 go_wp2_with fail
 refine (C.out _ _ E.out).mono ?_;rintro e w2 ⟨rfl,x⟩;have Hb2:=hid (Z0_ y.out (le_refl _) x);clear x J K L M N O;exact j2_
theorem Vs1 (m:Mat) (v:Value) (w:World) (h:MatV w w.heap.size v m) (_hs:Sml m) (h2:0≤m.n∧m.n≤64∧0≤m.a∧m.a≤64) (k:nest m.t) (q1:m.b≠0):Calls Tryz.prog 50 #[v] w (Says w false):=by
 obtain ⟨j,r,rfl,hl,⟨d,g,rfl,o,p⟩⟩:=h.open;have Hv:=hid (h.up (Z1_ w m j (.slice d m.i.length g)));have Hb0:=hid (Z1_ w m j (.slice d m.i.length g));have Hblk:=hid (Z4_ w m j (.slice d m.i.length g));have Hl:=hid (hl.up Hb0.out);have c:=Hblk.out.cell;have g0:=c 0;have g1:=c 1;have g2:=c 2;have g3:=c 3;have g4:=c 4;have g5:=c 5;have a3:¬ m.n<0:=y40_;have a4:¬ 64<m.n:=y40_;have a5:¬ m.a<0:=y40_;have a6:¬ 64<m.a:=y40_;unfold boxed at *
 have Hn:=hid k;clear h k hl o p c h2;have q:(m.b != 0)=true:=y43_;clear q1;exact j0_
theorem Vs2 (m:Mat) (v:Value) (w:World) (h:MatV w w.heap.size v m) (_hs:Sml m) (h2:0≤m.n∧m.n≤64∧0≤m.a∧m.a≤64) (k:nest m.t) (q1:m.b=0) (q2:m.a≠0) (q3:m.t≠7):Calls Tryz.prog 50 #[v] w (Says w false):=by
 obtain ⟨j,u,rfl,hl,⟨d,g,rfl,o,p⟩⟩:=h.open;have Hv:=hid (h.up (Z1_ w m j (.slice d m.i.length g)));have Hb0:=hid (Z1_ w m j (.slice d m.i.length g));have Hblk:=hid (Z4_ w m j (.slice d m.i.length g));have Hl:=hid (hl.up Hb0.out);have c:=Hblk.out.cell;have g0:=c 0;have g1:=c 1;have g2:=c 2;have g3:=c 3;have g4:=c 4;have g5:=c 5;have a3:¬ m.n<0:=y40_;have a4:¬ 64<m.n:=y40_;have a5:¬ m.a<0:=y40_;have a6:¬ 64<m.a:=y40_;unfold boxed at *
 have Hn:=hid k;clear h k hl o p c h2;have q:(m.b != 0)=false:=y43_;clear q1;have r:(m.a != 0)=true:=z43_;have s:(m.t != 7)=true:=k50_;clear q2 q3;exact j0_
theorem Vb3 (m:Mat) (v:Value) (w:World) (h:MatV w w.heap.size v m) (_hs:Sml m) (h2:0≤m.n∧m.n≤64∧0≤m.a∧m.a≤64) (k:nest m.t) (q1:m.b=0) (q2:m.a=0) (q4:m.i.length<1):Calls Tryz.prog 50 #[v] w (Says w false):=by
 obtain ⟨j,u,rfl,hl,⟨d,g,rfl,o,p⟩⟩:=h.open;have Hv:=hid (h.up (Z1_ w m j (.slice d m.i.length g)));have Hb0:=hid (Z1_ w m j (.slice d m.i.length g));have Hblk:=hid (Z4_ w m j (.slice d m.i.length g));have Hl:=hid (hl.up Hb0.out);have c:=Hblk.out.cell;have g0:=c 0;have g1:=c 1;have g2:=c 2;have g3:=c 3;have g4:=c 4;have g5:=c 5;have a3:¬ m.n<0:=y40_;have a4:¬ 64<m.n:=y40_;have a5:¬ m.a<0:=y40_;have a6:¬ 64<m.a:=y40_;unfold boxed at *
 have Hn:=hid k;clear h k hl o p c h2;have q:(m.b != 0)=false:=y43_;clear q1;have r:(m.a != 0)=false:=z43_;clear q2;have s:(m.i.length:Int)<1:=y40_;clear q4;exact j0_
theorem Vb4 (m:Mat) (v:Value) (w:World) (h:MatV w w.heap.size v m) (_hs:Sml m) (h2:0≤m.n∧m.n≤64∧0≤m.a∧m.a≤64) (k:nest m.t) (q1:m.b=0) (q2:m.a≠0) (q3:m.t=7) (q4:m.i.length<1):Calls Tryz.prog 50 #[v] w (Says w false):=by
 obtain ⟨j,x,rfl,hl,⟨d,g,rfl,o,p⟩⟩:=h.open;have Hv:=hid (h.up (Z1_ w m j (.slice d m.i.length g)));have Hb0:=hid (Z1_ w m j (.slice d m.i.length g));have Hblk:=hid (Z4_ w m j (.slice d m.i.length g));have Hl:=hid (hl.up Hb0.out);have c:=Hblk.out.cell;have g0:=c 0;have g1:=c 1;have g2:=c 2;have g3:=c 3;have g4:=c 4;have g5:=c 5;have a3:¬ m.n<0:=y40_;have a4:¬ 64<m.n:=y40_;have a5:¬ m.a<0:=y40_;have a6:¬ 64<m.a:=y40_;unfold boxed at *
 have Hn:=hid k;clear h k hl o p c h2;have q:(m.b != 0)=false:=y43_;clear q1;have r:(m.a != 0)=true:=z43_;have s:(m.t != 7)=false:=k50_;clear q2 q3;have u:(m.i.length:Int)<1:=y40_;clear q4;exact j0_
theorem Vb5 (m:Mat) (v:Value) (w:World) (h:MatV w w.heap.size v m) (_hs:Sml m) (h2:0≤m.n∧m.n≤64∧0≤m.a∧m.a≤64) (k:nest m.t) (q1:m.b=0) (q2:m.a=0) (q4:8<m.i.length):Calls Tryz.prog 50 #[v] w (Says w false):=by
 obtain ⟨j,s,rfl,hl,⟨d,g,rfl,o,p⟩⟩:=h.open;have Hv:=hid (h.up (Z1_ w m j (.slice d m.i.length g)));have Hb0:=hid (Z1_ w m j (.slice d m.i.length g));have Hblk:=hid (Z4_ w m j (.slice d m.i.length g));have Hl:=hid (hl.up Hb0.out);have c:=Hblk.out.cell;have g0:=c 0;have g1:=c 1;have g2:=c 2;have g3:=c 3;have g4:=c 4;have g5:=c 5;have a3:¬ m.n<0:=y40_;have a4:¬ 64<m.n:=y40_;have a5:¬ m.a<0:=y40_;have a6:¬ 64<m.a:=y40_;unfold boxed at *
 have Hn:=hid k;clear h k hl o p c h2;have q:(m.b != 0)=false:=y43_;clear q1;have r:(m.a != 0)=false:=z43_;clear q2;exact q36_
theorem Vb6 (m:Mat) (v:Value) (w:World) (h:MatV w w.heap.size v m) (_hs:Sml m) (h2:0≤m.n∧m.n≤64∧0≤m.a∧m.a≤64) (k:nest m.t) (q1:m.b=0) (q2:m.a≠0) (q3:m.t=7) (q4:8<m.i.length):Calls Tryz.prog 50 #[v] w (Says w false):=by
 obtain ⟨j,u,rfl,hl,⟨d,g,rfl,o,p⟩⟩:=h.open;have Hv:=hid (h.up (Z1_ w m j (.slice d m.i.length g)));have Hb0:=hid (Z1_ w m j (.slice d m.i.length g));have Hblk:=hid (Z4_ w m j (.slice d m.i.length g));have Hl:=hid (hl.up Hb0.out);have c:=Hblk.out.cell;have g0:=c 0;have g1:=c 1;have g2:=c 2;have g3:=c 3;have g4:=c 4;have g5:=c 5;have a3:¬ m.n<0:=y40_;have a4:¬ 64<m.n:=y40_;have a5:¬ m.a<0:=y40_;have a6:¬ 64<m.a:=y40_;unfold boxed at *
 have Hn:=hid k;clear h k hl o p c h2;have q:(m.b != 0)=false:=y43_;clear q1;have r:(m.a != 0)=true:=z43_;have s:(m.t != 7)=false:=k50_;clear q2 q3;exact q36_
theorem Vb7 (m:Mat) (v:Value) (w:World) (h:MatV w w.heap.size v m) (_hs:Sml m) (h2:0≤m.n∧m.n≤64∧0≤m.a∧m.a≤64) (k:nest m.t) (q1:m.b=0) (q2:m.a=0) (q4:1<m.i.length) (q5:m.i.length≤8) (q6:m.t≠9):Calls Tryz.prog 50 #[v] w (Says w false):=by
 obtain ⟨j,s,rfl,hl,⟨d,g,rfl,o,p⟩⟩:=h.open;have Hv:=hid (h.up (Z1_ w m j (.slice d m.i.length g)));have Hb0:=hid (Z1_ w m j (.slice d m.i.length g));have Hblk:=hid (Z4_ w m j (.slice d m.i.length g));have Hl:=hid (hl.up Hb0.out);have c:=Hblk.out.cell;have g0:=c 0;have g1:=c 1;have g2:=c 2;have g3:=c 3;have g4:=c 4;have g5:=c 5;have a3:¬ m.n<0:=y40_;have a4:¬ 64<m.n:=y40_;have a5:¬ m.a<0:=y40_;have a6:¬ 64<m.a:=y40_;unfold boxed at *
 have Hn:=hid k;clear h k hl o p c h2;have q:(m.b != 0)=false:=y43_;clear q1;have r:(m.a != 0)=false:=z43_;clear q2;exact z33_
theorem Vb8 (m:Mat) (v:Value) (w:World) (h:MatV w w.heap.size v m) (_hs:Sml m) (h2:0≤m.n∧m.n≤64∧0≤m.a∧m.a≤64) (k:nest m.t) (q1:m.b=0) (q2:m.a≠0) (q3:m.t=7) (q4:1<m.i.length) (q5:m.i.length≤8) (q6:m.t≠9):Calls Tryz.prog 50 #[v] w (Says w false):=by
 obtain ⟨j,u,rfl,hl,⟨d,g,rfl,o,p⟩⟩:=h.open;have Hv:=hid (h.up (Z1_ w m j (.slice d m.i.length g)));have Hb0:=hid (Z1_ w m j (.slice d m.i.length g));have Hblk:=hid (Z4_ w m j (.slice d m.i.length g));have Hl:=hid (hl.up Hb0.out);have c:=Hblk.out.cell;have g0:=c 0;have g1:=c 1;have g2:=c 2;have g3:=c 3;have g4:=c 4;have g5:=c 5;have a3:¬ m.n<0:=y40_;have a4:¬ 64<m.n:=y40_;have a5:¬ m.a<0:=y40_;have a6:¬ 64<m.a:=y40_;unfold boxed at *
 have Hn:=hid k;clear h k hl o p c h2;have q:(m.b != 0)=false:=y43_;clear q1;have r:(m.a != 0)=true:=z43_;have s:(m.t != 7)=false:=k50_;clear q2 q3;exact z33_
theorem Xm5 (m:Mat) (v:Value) (w:World) (d:MatV w w.heap.size v m) (hs:Sml m) (h2:0≤m.n∧m.n≤64∧0≤m.a∧m.a≤64) (c:nest m.t) (h:headB m=false):Calls Tryz.prog 50 #[v] w (Says w false):=by
 unfold headB at h;by_cases q1:m.b=0
 ·by_cases q2:m.a=0
  ·by_cases q4:m.i.length<1
   ·exact Vb3 m v w d hs h2 c q1 q2 q4
   by_cases q5:8<m.i.length
   ·exact Vb5 m v w d hs h2 c q1 q2 q5
   exact Vb7 m v w d hs h2 c q1 q2 (by simp [q1,q2] at h;omega) y40_ (by simp [q1,q2] at h;omega)
  ·by_cases q3:m.t=7
   ·by_cases q4:m.i.length<1
    ·exact Vb4 m v w d hs h2 c q1 q2 q3 q4
    by_cases q5:8<m.i.length
    ·exact Vb6 m v w d hs h2 c q1 q2 q3 q5
    exact Vb8 m v w d hs h2 c q1 q2 q3 (by simp [q1,q3] at h;omega) y40_ y40_
   ·exact Vs2 m v w d hs h2 c q1 q2 q3
 ·exact Vs1 m v w d hs h2 c q1
theorem Xm6 (m:Mat) (v:Value) (w:World) (hv:MatV w w.heap.size v m) (_hs:Sml m) (h2:0≤m.n∧m.n≤64∧0≤m.a∧m.a≤64) (hn:nest m.t) (S:Int) (Hsum:∀ (v:Value) (W:World),MatV W W.heap.size v m→Calls Tryz.prog 82 #[v] W (Tells W S)) (q1:m.b=0) (q2:m.a=0) (q4:m.i.length=1) (q7:S<0):Calls Tryz.prog 50 #[v] w (Says w false):=by
 have Hsum:=hid Hsum;obtain ⟨o,k,rfl,hl,⟨c,g,rfl,hci,hki⟩⟩:=hv.open;obtain ⟨d,cl,rfl,h,j⟩:=id hl;have Hv:=hid (hv.up (Z1_ w m (.slice d m.l.length cl) (.slice c m.i.length g)));have Hb0:=hid (Z1_ w m (.slice d m.l.length cl) (.slice c m.i.length g));have Hblk:=hid (Z4_ w m (.slice d m.l.length cl) (.slice c m.i.length g));have Hl:=hid (hl.up Hb0.out);have gb:=Hblk.out.cell;have g0:=gb 0;have g1:=gb 1;have g2:=gb 2;have g3:=gb 3;have g4:=gb 4;have g5:=gb 5;have a3:¬ m.n<0:=y40_;have a4:¬ 64<m.n:=y40_;have a5:¬ m.a<0:=y40_;have a6:¬ 64<m.a:=y40_;unfold boxed at *
 have Hn:=hid hn;exact k32_
theorem Xm7 (m:Mat) (v:Value) (w:World) (k:MatV w w.heap.size v m) (_hs:Sml m) (h2:0≤m.n∧m.n≤64∧0≤m.a∧m.a≤64) (o:nest m.t) (S:Int) (Hsum:∀ (v:Value) (W:World),MatV W W.heap.size v m→Calls Tryz.prog 82 #[v] W (Tells W S)) (q1:m.b=0) (q2:m.a=0) (q4:m.i.length=1) (q7:¬ S<0) (q8:7≤m.t):Calls Tryz.prog 50 #[v] w (Says w (decide (m.l.length=0) && decide (m.n=S))):=by
 have Hsum:=hid Hsum;obtain ⟨y,x,rfl,hl,⟨d,j,rfl,p,q⟩⟩:=k.open;obtain ⟨g,cl,rfl,s,u⟩:=id hl;have Hv:=hid (k.up (Z1_ w m (.slice g m.l.length cl) (.slice d m.i.length j)));have Hb0:=hid (Z1_ w m (.slice g m.l.length cl) (.slice d m.i.length j));have Hblk:=hid (Z4_ w m (.slice g m.l.length cl) (.slice d m.i.length j));have Hl:=hid (hl.up Hb0.out);have c:=Hblk.out.cell;have g0:=c 0;have g1:=c 1;have g2:=c 2;have g3:=c 3;have g4:=c 4;have g5:=c 5;have a3:¬ m.n<0:=y40_;have a4:¬ 64<m.n:=y40_;have a5:¬ m.a<0:=y40_;have a6:¬ 64<m.a:=y40_;unfold boxed at *
 have Hn:=hid o;obtain ⟨L0,hL0⟩:∃ L0,decide (m.l.length=0)=L0:=⟨_,rfl⟩;obtain ⟨h,hN0⟩:∃ h,decide (m.n=S)=h:=⟨_,rfl⟩;rw [hL0,hN0];have r:((m.l.length:Int)==0)=L0:=k46_;have f1:(m.n==S)=h:=j47_;clear hL0 hN0;clear k o p q c h2;have e1:(m.b != 0)=false:=y43_;clear q1;have e2:(m.a != 0)=false:=z43_;have e4:¬ (m.i.length:Int)<1:=y40_;have e5:¬ (8:Int)<(m.i.length:Int):=y40_;have e6:¬ (1:Int)<(m.i.length:Int):=y40_;clear q2 q4;exact z1_
theorem Xm8 (m:Mat) (v:Value) (w:World) (j:MatV w w.heap.size v m) (_hs:Sml m) (h2:0≤m.n∧m.n≤64∧0≤m.a∧m.a≤64) (k:nest m.t) (S:Int) (Hsum:∀ (v:Value) (W:World),MatV W W.heap.size v m→Calls Tryz.prog 82 #[v] W (Tells W S)) (q1:m.b=0) (q2:m.a≠0) (q3:m.t=7) (q4:m.i.length=1) (q7:S<0):Calls Tryz.prog 50 #[v] w (Says w false):=by
 have Hsum:=hid Hsum;obtain ⟨x,u,rfl,hl,⟨d,h,rfl,o,p⟩⟩:=j.open;obtain ⟨g,cl,rfl,r,s⟩:=id hl;have Hv:=hid (j.up (Z1_ w m (.slice g m.l.length cl) (.slice d m.i.length h)));have Hb0:=hid (Z1_ w m (.slice g m.l.length cl) (.slice d m.i.length h));have Hblk:=hid (Z4_ w m (.slice g m.l.length cl) (.slice d m.i.length h));have Hl:=hid (hl.up Hb0.out);have c:=Hblk.out.cell;have g0:=c 0;have g1:=c 1;have g2:=c 2;have g3:=c 3;have g4:=c 4;have g5:=c 5;have a3:¬ m.n<0:=y40_;have a4:¬ 64<m.n:=y40_;have a5:¬ m.a<0:=y40_;have a6:¬ 64<m.a:=y40_;unfold boxed at *
 have Hn:=hid k;clear j k o p c h2;have e1:(m.b != 0)=false:=y43_;clear q1;have e2:(m.a != 0)=true:=z43_;have q:(m.t != 7)=false:=k50_;have e4:¬ (m.i.length:Int)<1:=y40_;have e5:¬ (8:Int)<(m.i.length:Int):=y40_;have e6:¬ (1:Int)<(m.i.length:Int):=y40_;clear q2 q3 q4;exact q1_
theorem Xm9 (m:Mat) (v:Value) (w:World) (k:MatV w w.heap.size v m) (_hs:Sml m) (h2:0≤m.n∧m.n≤64∧0≤m.a∧m.a≤64) (o:nest m.t) (S:Int) (Hsum:∀ (v:Value) (W:World),MatV W W.heap.size v m→Calls Tryz.prog 82 #[v] W (Tells W S)) (q1:m.b=0) (q2:m.a≠0) (q3:m.t=7) (q4:m.i.length=1) (q7:¬ S<0) (q8:7≤m.t):Calls Tryz.prog 50 #[v] w (Says w (decide (m.l.length=0) && decide (m.n=S))):=by
 have Hsum:=hid Hsum;obtain ⟨z,y,rfl,hl,⟨d,j,rfl,p,q⟩⟩:=k.open;obtain ⟨g,cl,rfl,u,x⟩:=id hl;have Hv:=hid (k.up (Z1_ w m (.slice g m.l.length cl) (.slice d m.i.length j)));have Hb0:=hid (Z1_ w m (.slice g m.l.length cl) (.slice d m.i.length j));have Hblk:=hid (Z4_ w m (.slice g m.l.length cl) (.slice d m.i.length j));have Hl:=hid (hl.up Hb0.out);have c:=Hblk.out.cell;have g0:=c 0;have g1:=c 1;have g2:=c 2;have g3:=c 3;have g4:=c 4;have g5:=c 5;have a3:¬ m.n<0:=y40_;have a4:¬ 64<m.n:=y40_;have a5:¬ m.a<0:=y40_;have a6:¬ 64<m.a:=y40_;unfold boxed at *
 have Hn:=hid o;obtain ⟨L0,hL0⟩:∃ L0,decide (m.l.length=0)=L0:=⟨_,rfl⟩;obtain ⟨h,hN0⟩:∃ h,decide (m.n=S)=h:=⟨_,rfl⟩;rw [hL0,hN0];have s:((m.l.length:Int)==0)=L0:=k46_;have f1:(m.n==S)=h:=j47_;clear hL0 hN0;clear k o p q c h2;have e1:(m.b != 0)=false:=y43_;clear q1;have e2:(m.a != 0)=true:=z43_;have r:(m.t != 7)=false:=k50_;have e4:¬ (m.i.length:Int)<1:=y40_;have e5:¬ (8:Int)<(m.i.length:Int):=y40_;have e6:¬ (1:Int)<(m.i.length:Int):=y40_;clear q2 q3 q4;exact z1_
theorem Xn0 (m:Mat) (v:Value) (w:World) (j:MatV w w.heap.size v m) (_hs:Sml m) (h2:0≤m.n∧m.n≤64∧0≤m.a∧m.a≤64) (k:nest m.t) (S:Int) (Hsum:∀ (v:Value) (W:World),MatV W W.heap.size v m→Calls Tryz.prog 82 #[v] W (Tells W S)) (q1:m.b=0) (q2:m.a=0) (q4:1<m.i.length) (q5:m.i.length≤8) (q6:m.t=9) (q7:S<0):Calls Tryz.prog 50 #[v] w (Says w false):=by
 have Hsum:=hid Hsum;obtain ⟨x,u,rfl,hl,⟨d,h,rfl,o,p⟩⟩:=j.open;obtain ⟨g,cl,rfl,r,s⟩:=id hl;have Hv:=hid (j.up (Z1_ w m (.slice g m.l.length cl) (.slice d m.i.length h)));have Hb0:=hid (Z1_ w m (.slice g m.l.length cl) (.slice d m.i.length h));have Hblk:=hid (Z4_ w m (.slice g m.l.length cl) (.slice d m.i.length h));have Hl:=hid (hl.up Hb0.out);have c:=Hblk.out.cell;have g0:=c 0;have g1:=c 1;have g2:=c 2;have g3:=c 3;have g4:=c 4;have g5:=c 5;have a3:¬ m.n<0:=y40_;have a4:¬ 64<m.n:=y40_;have a5:¬ m.a<0:=y40_;have a6:¬ 64<m.a:=y40_;unfold boxed at *
 have Hn:=hid k;clear j k o p c h2;have e1:(m.b != 0)=false:=y43_;clear q1;have e2:(m.a != 0)=false:=z43_;have e4:¬ (m.i.length:Int)<1:=y40_;have e5:¬ (8:Int)<(m.i.length:Int):=y40_;have e6:(1:Int)<(m.i.length:Int):=y40_;have q:(m.t != 9)=false:=by simpa using q6
 clear q2 q4 q5 q6;exact q1_
theorem Xn1 (m:Mat) (v:Value) (w:World) (k:MatV w w.heap.size v m) (_hs:Sml m) (h2:0≤m.n∧m.n≤64∧0≤m.a∧m.a≤64) (o:nest m.t) (S:Int) (Hsum:∀ (v:Value) (W:World),MatV W W.heap.size v m→Calls Tryz.prog 82 #[v] W (Tells W S)) (q1:m.b=0) (q2:m.a=0) (q4:1<m.i.length) (q5:m.i.length≤8) (q6:m.t=9) (q7:¬ S<0) (q8:7≤m.t):Calls Tryz.prog 50 #[v] w (Says w (decide (m.l.length=0) && decide (m.n=S))):=by
 have Hsum:=hid Hsum;obtain ⟨z,y,rfl,hl,⟨d,j,rfl,p,q⟩⟩:=k.open;obtain ⟨g,cl,rfl,u,x⟩:=id hl;have Hv:=hid (k.up (Z1_ w m (.slice g m.l.length cl) (.slice d m.i.length j)));have Hb0:=hid (Z1_ w m (.slice g m.l.length cl) (.slice d m.i.length j));have Hblk:=hid (Z4_ w m (.slice g m.l.length cl) (.slice d m.i.length j));have Hl:=hid (hl.up Hb0.out);have c:=Hblk.out.cell;have g0:=c 0;have g1:=c 1;have g2:=c 2;have g3:=c 3;have g4:=c 4;have g5:=c 5;have a3:¬ m.n<0:=y40_;have a4:¬ 64<m.n:=y40_;have a5:¬ m.a<0:=y40_;have a6:¬ 64<m.a:=y40_;unfold boxed at *
 have Hn:=hid o;obtain ⟨L0,hL0⟩:∃ L0,decide (m.l.length=0)=L0:=⟨_,rfl⟩;obtain ⟨h,hN0⟩:∃ h,decide (m.n=S)=h:=⟨_,rfl⟩;rw [hL0,hN0];have s:((m.l.length:Int)==0)=L0:=k46_;have f1:(m.n==S)=h:=j47_;clear hL0 hN0;clear k o p q c h2;have e1:(m.b != 0)=false:=y43_;clear q1;have e2:(m.a != 0)=false:=z43_;have e4:¬ (m.i.length:Int)<1:=y40_;have e5:¬ (8:Int)<(m.i.length:Int):=y40_;have e6:(1:Int)<(m.i.length:Int):=y40_;have r:(m.t != 9)=false:=by simpa using q6
 clear q2 q4 q5 q6;exact z1_
theorem Xn2 (m:Mat) (v:Value) (w:World) (hv:MatV w w.heap.size v m) (_hs:Sml m) (h2:0≤m.n∧m.n≤64∧0≤m.a∧m.a≤64) (hn:nest m.t) (S:Int) (Hsum:∀ (v:Value) (W:World),MatV W W.heap.size v m→Calls Tryz.prog 82 #[v] W (Tells W S)) (q1:m.b=0) (q2:m.a=0) (q4:m.i.length=1) (q7:¬ S<0) (q8:¬ 7≤m.t) (q9:m.l.length≠1):Calls Tryz.prog 50 #[v] w (Says w false):=by
 have Hsum:=hid Hsum;obtain ⟨p,o,rfl,hl,⟨c,g,rfl,hci,hki⟩⟩:=hv.open;obtain ⟨d,cl,rfl,j,k⟩:=id hl;have Hv:=hid (hv.up (Z1_ w m (.slice d m.l.length cl) (.slice c m.i.length g)));have Hb0:=hid (Z1_ w m (.slice d m.l.length cl) (.slice c m.i.length g));have Hblk:=hid (Z4_ w m (.slice d m.l.length cl) (.slice c m.i.length g));have Hl:=hid (hl.up Hb0.out);have gb:=Hblk.out.cell;have g0:=gb 0;have g1:=gb 1;have g2:=gb 2;have g3:=gb 3;have g4:=gb 4;have g5:=gb 5;have a3:¬ m.n<0:=y40_;have a4:¬ 64<m.n:=y40_;have a5:¬ m.a<0:=y40_;have a6:¬ 64<m.a:=y40_;unfold boxed at *
 have Hn:=hid hn;have h:((m.l.length:Int) != 1)=true:=x41_;clear q9;exact k32_
theorem Xn3 (m:Mat) (v:Value) (w:World) (H:MatV w w.heap.size v m) (_hs:Sml m) (h2:0≤m.n∧m.n≤64∧0≤m.a∧m.a≤64) (M:nest m.t) (S:Int) (z:∀ (v:Value) (W:World),MatV W W.heap.size v m→Calls Tryz.prog 82 #[v] W (Tells W S)) (q1:m.b=0) (q2:m.a=0) (q4:m.i.length=1) (q7:¬ S<0) (q8:¬ 7≤m.t) (q9:m.l.length=1) (q0:okA S (row m 0)=false):Calls Tryz.prog 50 #[v] w (Says w false):=by
 have z:=hid z;obtain ⟨lv,iv,rfl,hl,⟨q,B,rfl,x0,x2⟩⟩:=H.open;obtain ⟨s,cl,rfl,x1,L⟩:=id hl;have J:=hid (H.up (Z1_ w m (.slice s m.l.length cl) (.slice q m.i.length B)));have u:=hid (Z1_ w m (.slice s m.l.length cl) (.slice q m.i.length B));have j:=hid (Z4_ w m (.slice s m.l.length cl) (.slice q m.i.length B));have I:=hid (hl.up u.out);have c:=j.out.cell;have g0:=c 0;have g1:=c 1;have g2:=c 2;have g3:=c 3;have g4:=c 4;have g5:=c 5;have a3:¬ m.n<0:=y40_;have a4:¬ 64<m.n:=y40_;have a5:¬ m.a<0:=y40_;have a6:¬ 64<m.a:=y40_;unfold boxed at *
 have U:=hid M;obtain ⟨ad,u0,hA,K,G,N⟩:=L 0 y40_;subst hA;rw [add_zero] at G;have O:row m 0=m.l.getD 0 []:=rfl;rw [O] at q0;have f0:((m.l.length:Int) != 1)=false:=x41_;have f1:(0:Int)<(m.l.length:Int):=y40_;have f2:0<m.l.length:=y40_;generalize m.l.getD 0 []=r at *
 have R:=hid G;have P:=hid K;have V:=hid N;have Z:=hid q0;clear q9 G N q0 x1 L hl K O;clear H M x0 x2 c h2;have e1:(m.b != 0)=false:=y43_;clear q1;have e2:(m.a != 0)=false:=z43_;have e4:¬ (m.i.length:Int)<1:=y40_;have e5:¬ (8:Int)<(m.i.length:Int):=y40_;have e6:¬ (1:Int)<(m.i.length:Int):=y40_;clear q2 q4
 go_enter Tryz.func50,Tryz.ntmps50
 go_wp2_with fail
 refine (X2_ m.t _).mono ?_;rintro e w1 ⟨rfl,g⟩;rw [decide_eq_true U.out];have Q:=hid (Z0_ u.out (le_refl _) g);have Y:=hid (J.out.up g);have T:=hid (I.out.up g);have x:=hid (j.out.below g j.out.lt);have d:=x.out.cell;have C:=d 0;have D:=d 1;have d2:=d 2;have d3:=d 3;have E:=d 4;have d5:=d 5;clear d g g0 g1 g2 g3 g4 g5 a3 a4 a5 a6 u J I j
 go_wp2_with fail
 refine (z.out _ _ Y.out).mono ?_;rintro e w2 ⟨rfl,k⟩;have h:=hid (Z0_ Q.out (le_refl _) k);have x4:=hid (T.out.up k);have y:=hid (x.out.below k x.out.lt);clear k C D d2 d3 E d5 e1 e2 e4 e5 e6;have o:=y.out.cell;have C:=o 0;have D:=o 1;have E:=o 4;clear o;have c0:=(h.out.cell (p:=ad) P.out).trans R.out;have X:=hid ((V.out.below h.out).mono h.out.size)
 go_wp2_with fail
 refine (H7_ u0 r S _ X.out).mono ?_;rintro e w3 ⟨rfl,F⟩;rw [Z.out];have Hb3:=hid (Z0_ h.out (le_refl _) F);have x3:=hid (y.out.below F y.out.lt);clear F C D E c0;exact q8_
theorem Xq2 (m:Mat) (v:Value) (w:World) (O:MatV w w.heap.size v m) (_hs:Sml m) (h2:0≤m.n∧m.n≤64∧0≤m.a∧m.a≤64) (V:nest m.t) (S:Int) (I:∀ (v:Value) (W:World),MatV W W.heap.size v m→Calls Tryz.prog 82 #[v] W (Tells W S)) (q1:m.b=0) (q2:m.a=0) (q4:m.i.length=1) (q7:¬ S<0) (q8:¬ 7≤m.t) (q9:m.l.length=1) (q0:okA S (row m 0)=true) (q5:m.t=5):Calls Tryz.prog 50 #[v] w (Says w (decide (m.n=(row m 0).length))):=by
 have I:=hid I;obtain ⟨lv,iv,rfl,hl,⟨j,s,rfl,x5,x7⟩⟩:=O.open;obtain ⟨B,cl,rfl,x6,U⟩:=id hl;have R:=hid (O.up (Z1_ w m (.slice B m.l.length cl) (.slice j m.i.length s)));have D:=hid (Z1_ w m (.slice B m.l.length cl) (.slice j m.i.length s));have o:=hid (Z4_ w m (.slice B m.l.length cl) (.slice j m.i.length s));have Q:=hid (hl.up D.out);have c:=o.out.cell;have g0:=c 0;have g1:=c 1;have g2:=c 2;have g3:=c 3;have g4:=c 4;have g5:=c 5;have a3:¬ m.n<0:=y40_;have a4:¬ 64<m.n:=y40_;have a5:¬ m.a<0:=y40_;have a6:¬ 64<m.a:=y40_;unfold boxed at *
 have Hn:=hid V;obtain ⟨J,u0,hA,T,N,X⟩:=U 0 y40_;subst hA;rw [add_zero] at N;have Y:row m 0=m.l.getD 0 []:=rfl;rw [Y] at q0 ⊢;have f0:((m.l.length:Int) != 1)=false:=x41_;have f1:(0:Int)<(m.l.length:Int):=y40_;have f2:0<m.l.length:=y40_;generalize m.l.getD 0 []=r at *
 have P:=hid N;have C:=hid T;have x2:=hid X;have Q0:=hid q0;clear q9 N X q0 x6 U hl T Y;have f5:(m.t==5)=true:=by simpa using q5
 clear q5;clear O V x5 x7 c h2;have e1:(m.b != 0)=false:=y43_;clear q1;have e2:(m.a != 0)=false:=z43_;have e4:¬ (m.i.length:Int)<1:=y40_;have e5:¬ (8:Int)<(m.i.length:Int):=y40_;have e6:¬ (1:Int)<(m.i.length:Int):=y40_;clear q2 q4
 go_enter Tryz.func50,Tryz.ntmps50
 go_wp2_with fail
 refine (X2_ m.t _).mono ?_;rintro e w1 ⟨rfl,h⟩;rw [decide_eq_true Hn.out];have Z:=hid (Z0_ D.out (le_refl _) h);have x4:=hid (R.out.up h);have x1:=hid (Q.out.up h);have E:=hid (o.out.below h o.out.lt);have d:=E.out.cell;have g:=d 0;have K:=d 1;have d2:=d 2;have d3:=d 3;have L:=d 4;have d5:=d 5;clear d h g0 g1 g2 g3 g4 g5 a3 a4 a5 a6 D R Q o
 go_wp2_with fail
 refine (I.out _ _ x4.out).mono ?_;rintro e w2 ⟨rfl,x⟩;have k:=hid (Z0_ Z.out (le_refl _) x);have x9:=hid (x1.out.up x);have F:=hid (E.out.below x E.out.lt);clear x g K d2 d3 L d5 e1 e2 e4 e5 e6;have y:=F.out.cell;have g:=y 0;have K:=y 1;have L:=y 4;clear y;have c0:=(k.out.cell (p:=J) C.out).trans P.out;have H:=hid ((x2.out.below k.out).mono k.out.size)
 go_wp2_with fail
 refine (H7_ u0 r S _ H.out).mono ?_;rintro e z ⟨rfl,M⟩;rw [Q0.out];have Hb3:=hid (Z0_ k.out (le_refl _) M);have G:=hid (F.out.below M F.out.lt);clear M g K L c0;have x0:Hid (∀ W,Below z.heap.size z W→∀ i,W.cell? ⟨w.heap.size,i,none⟩=#[.int .i64 m.t,.int .i64 m.n,.int .i64 m.a,.int .i64 m.b,.slice (some J) m.l.length cl,.slice j m.i.length s][i]?):=fun W u i=>(G.out.below u G.out.lt).cell i;have x3:=hid (V7_ ((Hb3.out.cell (p:=J) C.out).trans P.out) (Nat.lt_of_lt_of_le C.out Hb3.out.size));obtain ⟨Ar,cr,x8,_⟩:=id H.out;subst x8;have g:=G.out.cell 0;clear H;go_wp2;clear g;refine Z6_ z.heap.size z z40_ z40_ (Below.refl _ _) ?_
 iterate 9 (go_big_quiet_want;apply Exists.intro;refine ⟨fun W u=>?_,?_⟩;(· have q:=x0.out W u;have q1:=q 1;have q4:=q 4;clear q;have r0:=x3.out W u;go_simp;first | exact rfl | exact ⟨rfl,rfl⟩);go_simp;go_big_quiet_on)
 exact x21_
theorem Xn4 (m:Mat) (v:Value) (w:World) (O:MatV w w.heap.size v m) (_hs:Sml m) (h2:0≤m.n∧m.n≤64∧0≤m.a∧m.a≤64) (V:nest m.t) (S:Int) (I:∀ (v:Value) (W:World),MatV W W.heap.size v m→Calls Tryz.prog 82 #[v] W (Tells W S)) (q1:m.b=0) (q2:m.a=0) (q4:m.i.length=1) (q7:¬ S<0) (q8:¬ 7≤m.t) (q9:m.l.length=1) (q0:okA S (row m 0)=true) (q5:m.t≠5):Calls Tryz.prog 50 #[v] w (Says w (decide (m.n=IntKind.i64.wrap (S - (row m 0).length)))):=by
 have I:=hid I;obtain ⟨lv,iv,rfl,hl,⟨j,s,rfl,x5,x7⟩⟩:=O.open;obtain ⟨B,cl,rfl,x6,U⟩:=id hl;have R:=hid (O.up (Z1_ w m (.slice B m.l.length cl) (.slice j m.i.length s)));have D:=hid (Z1_ w m (.slice B m.l.length cl) (.slice j m.i.length s));have o:=hid (Z4_ w m (.slice B m.l.length cl) (.slice j m.i.length s));have Q:=hid (hl.up D.out);have c:=o.out.cell;have g0:=c 0;have g1:=c 1;have g2:=c 2;have g3:=c 3;have g4:=c 4;have g5:=c 5;have a3:¬ m.n<0:=y40_;have a4:¬ 64<m.n:=y40_;have a5:¬ m.a<0:=y40_;have a6:¬ 64<m.a:=y40_;unfold boxed at *
 have Hn:=hid V;obtain ⟨J,u0,hA,T,N,X⟩:=U 0 y40_;subst hA;rw [add_zero] at N;have Y:row m 0=m.l.getD 0 []:=rfl;rw [Y] at q0 ⊢;have f0:((m.l.length:Int) != 1)=false:=x41_;have f1:(0:Int)<(m.l.length:Int):=y40_;have f2:0<m.l.length:=y40_;generalize m.l.getD 0 []=r at *
 have P:=hid N;have C:=hid T;have x2:=hid X;have Q0:=hid q0;clear q9 N X q0 x6 U hl T Y;have f5:(m.t==5)=false:=by simpa using q5
 clear q5;clear O V x5 x7 c h2;have e1:(m.b != 0)=false:=y43_;clear q1;have e2:(m.a != 0)=false:=z43_;have e4:¬ (m.i.length:Int)<1:=y40_;have e5:¬ (8:Int)<(m.i.length:Int):=y40_;have e6:¬ (1:Int)<(m.i.length:Int):=y40_;clear q2 q4
 go_enter Tryz.func50,Tryz.ntmps50
 go_wp2_with fail
 refine (X2_ m.t _).mono ?_;rintro e w1 ⟨rfl,h⟩;rw [decide_eq_true Hn.out];have Z:=hid (Z0_ D.out (le_refl _) h);have x4:=hid (R.out.up h);have x1:=hid (Q.out.up h);have E:=hid (o.out.below h o.out.lt);have d:=E.out.cell;have g:=d 0;have K:=d 1;have d2:=d 2;have d3:=d 3;have L:=d 4;have d5:=d 5;clear d h g0 g1 g2 g3 g4 g5 a3 a4 a5 a6 D R Q o
 go_wp2_with fail
 refine (I.out _ _ x4.out).mono ?_;rintro e w2 ⟨rfl,x⟩;have k:=hid (Z0_ Z.out (le_refl _) x);have x9:=hid (x1.out.up x);have F:=hid (E.out.below x E.out.lt);clear x g K d2 d3 L d5 e1 e2 e4 e5 e6;have y:=F.out.cell;have g:=y 0;have K:=y 1;have L:=y 4;clear y;have c0:=(k.out.cell (p:=J) C.out).trans P.out;have H:=hid ((x2.out.below k.out).mono k.out.size)
 go_wp2_with fail
 refine (H7_ u0 r S _ H.out).mono ?_;rintro e z ⟨rfl,M⟩;rw [Q0.out];have Hb3:=hid (Z0_ k.out (le_refl _) M);have G:=hid (F.out.below M F.out.lt);clear M g K L c0;have x0:Hid (∀ W,Below z.heap.size z W→∀ i,W.cell? ⟨w.heap.size,i,none⟩=#[.int .i64 m.t,.int .i64 m.n,.int .i64 m.a,.int .i64 m.b,.slice (some J) m.l.length cl,.slice j m.i.length s][i]?):=fun W u i=>(G.out.below u G.out.lt).cell i;have x3:=hid (V7_ ((Hb3.out.cell (p:=J) C.out).trans P.out) (Nat.lt_of_lt_of_le C.out Hb3.out.size));obtain ⟨Ar,cr,x8,_⟩:=id H.out;subst x8;have g:=G.out.cell 0;clear H;go_wp2;clear g;refine Z6_ z.heap.size z z40_ z40_ (Below.refl _ _) ?_
 iterate 11 (go_big_quiet_want;apply Exists.intro;refine ⟨fun W u=>?_,?_⟩;(· have q:=x0.out W u;have q1:=q 1;have q4:=q 4;clear q;have r0:=x3.out W u;go_simp;first | exact rfl | exact ⟨rfl,rfl⟩);go_simp;go_big_quiet_on)
 exact x21_
theorem Vb9:∀ (k:Nat),MayAt k:=by
 intro k
 induction k with
 | zero=>intro m v w _ _ hd;have:=Zd7 0 m;omega
 | succ k ih =>
  intro m v w g hs hd;by_cases h2:0≤m.n∧m.n≤64∧0≤m.a∧m.a≤64
  ·by_cases e:nest m.t
   ·have s:∀ x∈m.i,dp k x≤k:=fun x u=>by have:=Zq9 (k:=k) e u;omega
    have h:∀ (v:Value) (W:World),MatV W W.heap.size v m→Calls Tryz.prog 82 #[v] W (Tells W (sumsI k m)):=fun v W g=>Vb1 k ih m v W g hs s;rw [Vs0 h2 e];rcases hh:headB m with _ | _
    ·simpa using Xm5 m v w g hs h2 e hh
    rw [Bool.true_and];have q:=hh;unfold headB at q;simp only [Bool.and_eq_true,Bool.or_eq_true,decide_eq_true_iff] at q;obtain ⟨⟨⟨⟨q1,q2⟩,q4⟩,q5⟩,q6⟩:=q;have r:(m.a=0∧m.i.length=1)∨(m.a≠0∧m.t=7∧m.i.length=1)∨(m.a=0∧1<m.i.length∧m.i.length≤8∧m.t=9):=y40_;unfold sumsI at h;rcases hall:m.i.all (ok k) with _ | _
    ·rw [hall,if_neg q41_] at h
     rw [Bool.false_and];rcases r with ⟨a,b⟩ | ⟨a,b,c⟩ | ⟨a,b,c,d⟩
     ·exact Xm6 m v w g hs h2 e (-1) h q1 a b q41_
     ·exact Xm8 m v w g hs h2 e (-1) h q1 a b c q41_
     ·exact Xn0 m v w g hs h2 e (-1) h q1 a b c d q41_
    ·rw [hall,if_pos rfl] at h
     rw [Bool.true_and];have y:=Jj5 hall q5;unfold tailB;by_cases j:7≤m.t
     ·rw [if_pos j]
      rcases r with ⟨a,b⟩ | ⟨a,b,c⟩ | ⟨a,b,c,d⟩
      ·exact Xm7 m v w g hs h2 e _ h q1 a b y40_ j
      ·exact Xm9 m v w g hs h2 e _ h q1 a b c y40_ j
      ·exact Xn1 m v w g hs h2 e _ h q1 a b c d y40_ j
     ·rw [if_neg j]
      have ha:m.a=0:=y40_;have p:m.i.length=1:=y40_;by_cases hl:m.l.length=1
      ·rw [decide_eq_true hl,Bool.true_and]
       rcases hk:okA (tog m.i) (row m 0) with _ | _
       ·exact Xn3 m v w g hs h2 e _ h q1 ha p y40_ j hl hk
       ·rw [Bool.true_and]
        by_cases o:m.t=5
        ·rw [if_pos o]
         exact Xq2 m v w g hs h2 e _ h q1 ha p y40_ j hl hk o
        ·rw [if_neg o]
         exact Xn4 m v w g hs h2 e _ h q1 ha p y40_ j hl hk o
      ·rw [decide_eq_false hl,Bool.false_and,Bool.false_and]
       exact Xn2 m v w g hs h2 e _ h q1 ha p y40_ j hl
   ·rw [show ok (k+1) m=decide (bad m=0) from by
     rw [ok];by_cases hb:bad m=0
     ·rw [W0_ hb e];simp
     ·rw [decide_eq_false hb];rfl]
    exact Xq1 m v w g hs h2 e
  ·rw [show ok (k+1) m=false from by
    rw [ok,decide_eq_false (fun hb=>h2 (V1_ hb).2.1)];rfl]
   exact Vb2 m v w g y40_
open Go.RowKit
theorem Xn5 (n:Nat) (w:World) (h:1≤n) (h2:n≤100000) :
  Calls Tryz.prog 24 #[.int .i64 n] w (Gives w (allL n)):=by
 have e:=hid (Xe4 h h2);have x:(n:Int)≤100000:=y40_
 go_enter Tryz.func24,Tryz.ntmps24
 have s:(w.alloc (.cells #[] 3)).ownsRow w.heap.size 3 1 (.slice (some ⟨w.heap.size,0,none⟩) 0 0) 0 [] :=
  World.ownsRow_made w #[] 0 (le_refl _) z41_ rfl
 have j:Below w.heap.size w (w.alloc (.cells #[] 3)):=(Below.refl _ w).alloc (le_refl _) _;go_wp2
 go_loopw [3,4] (fun u d wr=>∃ k:Nat,d=.int .i64 k∧k≤n∧wr.ownsRow w.heap.size 3 1 u (upTo k).length (ints (upTo k))∧Below w.heap.size w wr) (fun _ d _=>n - (intOf d).toNat)
 case atStart=>exact ⟨0,rfl,Nat.zero_le _,s,j⟩
 case round =>
  obtain ⟨k,rfl,y,c,hbr⟩:=hrel;by_cases z:k<n
  ·have B:=Y8_ k
   have g:=hid (I7_ k)
   go_wp2_with (at_builtin;refine Z5_ rfl _ _ rfl w.heap.size _ _ _ (upTo k) [(k:Int)] rfl rfl (c.alloc _) (Row.lit1 _ (k:Int)) y40_ k40_ x43_ ?_)
   intro C v r o;have m:Below w.heap.size wr v:=((Below.refl _ wr).alloc hbr.size _).grown o x43_ (fun i p=>(c.lt i p).1);go_wp2
   go_roundw
   case rel=>exact ⟨k+1,j41_,y40_,by rw [g.out,List.length_append,Y8_];exact r,hbr.trans m⟩
   exact mz_
  ·have q:k=n:=by omega
   subst q;go_wp2;go_ret;exact ⟨_,rfl,by rw [e.out];exact Row.of_own c rfl,hbr⟩
theorem D5_ (n:Int) (w:World):Calls Tryz.prog 24 #[.int .i64 n] w (Gives w (allL n)):=by
 by_cases h:n<1∨100000<n
 ·have d:=hid (Xe3 h)
  have c:∀ w':World,Below w.heap.size w w'→Gives w (allL n) (.returned (.slice (some ⟨w.heap.size,0,none⟩) 0 0)) w':=fun w' hb=>⟨_,rfl,by rw [d.out];exact ⟨_,0,rfl,⟨le_refl _,q41_,fun e=>by cases e⟩,fun k g=>absurd g k40_⟩,hb⟩;have Hout:=hid c;clear c;have hB0:Below w.heap.size w (w.alloc (.cells #[] 3)):=(Below.refl _ w).alloc (le_refl _) _;by_cases h1:n<1
  ·have o:¬ (0<n):=by omega
   exact k35_
  ·have h2:¬ (n≤100000):=by omega
   have j:0<n:=y40_;exact k35_
 ·obtain ⟨m,rfl⟩:∃ m:Nat,n=(m:Int):=⟨n.toNat,y40_⟩
  exact Xn5 m w y40_ y40_
theorem Yi9 (q r:Value) (a b:List Int) (w:World) (ha:Row w w.heap.size q a) (hb:Row w w.heap.size r b) (D:a.length≤1048576) (E:b.length≤1048576) (g:mayB a=true) (h:mayB b=true) :
  Calls Tryz.prog 36 #[q,r] w (Gives w (Z8_ a b)):=by
 have Ha:=hid ha;have Hb:=hid hb;obtain ⟨y,c1,rfl,_,o⟩:=ha;obtain ⟨z,c2,rfl,_⟩:=hb;have s:=hid o;clear o;have Hall:=hid (Zz8 a b false g h);change Hid (_=Z8_ a b) at Hall;have Hma:=hid g;have Hmb:=hid h;clear g h;have p:(w.alloc (.cells #[] 3)).ownsRow w.heap.size 3 1 (.slice (some ⟨w.heap.size,0,none⟩) 0 0) 0 [] :=
  World.ownsRow_made w #[] 0 (le_refl _) z41_ rfl
 have m:Below w.heap.size w (w.alloc (.cells #[] 3)):=(Below.refl _ w).alloc (le_refl _) _
 go_enter Tryz.func36,Tryz.ntmps36
 go_wp2
 go_loopw [5,6] (fun v j wr=>∃ k:Nat,j=.int .i64 k∧k≤a.length∧wr.ownsRow w.heap.size 3 1 v (A7_ a b false k).length (ints (A7_ a b false k))∧Below w.heap.size w wr) (fun _ j _=>a.length - (intOf j).toNat)
 case atStart=>exact ⟨0,rfl,Nat.zero_le _,p,m⟩
 case round =>
  obtain ⟨k,rfl,B,hown,hbr⟩:=hrel;by_cases d:k<a.length
  ·obtain ⟨ad,u,hab,c⟩:=s.out k d
   subst u;have C:(k:Int)<(a.length:Int):=y40_;have F:=L0_ a b false k;have Hyes:=hid (Zz7 a b false k d);have Hno:=hid (Zb8 a b false k d);clear p m;generalize a.getD k 0=x at c Hyes Hno;have Hg:=hid c;clear c;rcases hc:b.contains x with _ | _
   ·have Hc:=hid hc
    clear hc
    go_wp2_with fail
    refine (Y6_ _ a wr (Ha.out.below hbr |>.mono hbr.size) y40_ Hma.out).mono ?_;rintro e w2 ⟨rfl,hb2⟩;have hB2:=hbr.trans (hb2.mono hbr.size);have hown2:=hown.kept (row:=none) (Z7_ hb2 _) q48_;clear hb2
    go_wp2_with fail
    refine (Y6_ _ b w2 (Hb.out.below hB2 |>.mono hB2.size) y40_ Hmb.out).mono ?_;rintro e w3 ⟨rfl,hb3⟩;have hB3:=hB2.trans (hb3.mono hB2.size);have hown3:=hown2.kept (row:=none) (Z7_ hb3 _) q48_;clear hb3 hB2 hown2 hown hbr;have g1:w3.cell? (ad.add k)=some (.int .i64 x):=(hB3.cell x42_).trans Hg.out
    go_wp2_with fail
    refine (L1_ _ b x _ w3 (Hb.out.below hB3) y40_ Hc.out).mono ?_;rintro e w5 ⟨rfl,rfl⟩;have Hx:=hid (Hyes.out (by rw [Hc.out]));clear Hyes Hno
    go_wp2_with (at_builtin;refine Z5_ rfl _ _ rfl w.heap.size _ _ _ (A7_ a b false k) [x] rfl rfl (hown3.alloc _) (Row.lit1 _ x) y40_ k40_ (by have:=hB3.size;simp;omega) ?_)
    exact q7_
   ·exact y2_
  ·exact y18_
theorem Zj9 (p q:Value) (a b:List Int) (w:World) (ha:Row w w.heap.size p a) (hb:Row w w.heap.size q b) (y:a.length≤1048576) (z:b.length≤1048576) (h:mayB a=false∨(mayB a=true∧mayB b=false)) :
  Calls Tryz.prog 36 #[p,q] w (Gives w (Z8_ a b)):=by
 have Ha:=hid ha;have Hb:=hid hb;obtain ⟨u,c1,rfl,_,g⟩:=ha;obtain ⟨v,c2,rfl,_⟩:=hb;have x:=hid g;clear g;have o:Z8_ a b=[]:=by
  rcases h with h | h
  ·exact Zp0 h
  ·exact Zp1 h.2
 have m:∀ w':World,Below w.heap.size w w'→Gives w (Z8_ a b) (.returned (.slice (some ⟨w.heap.size,0,none⟩) 0 0)) w':=fun w' hb=>⟨_,rfl,by rw [o];exact ⟨_,0,rfl,⟨le_refl _,q41_,fun e=>by cases e⟩,fun k s=>absurd s k40_⟩,hb⟩;have Hout:=hid m;clear m o;have hB0:Below w.heap.size w (w.alloc (.cells #[] 3)):=(Below.refl _ w).alloc (le_refl _) _;by_cases d:0<a.length
 ·have r:(0:Int)<(a.length:Int):=by omega
  rcases h with c | ⟨c,j⟩
  ·have Hma:=hid c
   clear c d
   go_enter Tryz.func36,Tryz.ntmps36
   exact z9_
  ·have Hma:=hid c
   have Hmb:=hid j;clear c j d
   go_enter Tryz.func36,Tryz.ntmps36
   exact y5_
 ·have r:(a.length:Int)=0:=by omega
  clear h d
  go_enter Tryz.func36,Tryz.ntmps36
  exact k10_
theorem E6_ (c d:Value) (a b:List Int) (w:World) (ha:Row w w.heap.size c a) (hb:Row w w.heap.size d b) (e:a.length≤1048576) (g:b.length≤1048576) :
  Calls Tryz.prog 36 #[c,d] w (Gives w (Z8_ a b)):=by
 rcases hma:mayB a with _ | _
 ·exact Zj9 c d a b w ha hb e g (.inl hma)
 ·rcases hmb:mayB b with _ | _
  ·exact Zj9 c d a b w ha hb e g (.inr ⟨hma,hmb⟩)
  ·exact Yi9 c d a b w ha hb e g hma hmb
open Go.RowKit
theorem Yq8 {w:World} {base B:Nat} {e:TypeId} {size k:Nat} {v:Value} {vs:List Value} (h:w.ownsRow base e size v k vs) (d:B≤base):∀ (A:Addr) (n c:Nat),v=.slice (some A) n c→B≤A.block:=fun A n c f=>by
 subst f;exact Nat.le_trans d (World.ownsRow.lt h A.block rfl).1
theorem Q1_ (m:Mat) (v:Value) (w:World) (j:MatV w w.heap.size v m) (hs:Sml m):Calls Tryz.prog 33 #[v] w (Tells w (chk m)):=by
 have p:=hid hs;obtain ⟨C,B,I,_,_⟩:=j.open;have Hb0:=hid (Z1_ w m C B);have q:=hid (j.up Hb0.out);have c:=hid (Z4_ w m C B);have g0:=c.out.cell 0;have g1:=c.out.cell 1;have g2:=c.out.cell 2;have g3:=c.out.cell 3;have g4:=c.out.cell 4;have g5:=c.out.cell 5;subst I;unfold boxed at *
 have r:=dp_le 4 m;obtain ⟨D,k⟩:∃ D:Nat,dp 4 m=D:=⟨_,rfl⟩;have HD:Hid (deepI m=(D:Int)):=hid (by unfold deepI;rw [k]);have o:=hid k;rw [k] at r;clear j hs k;by_cases h:D=5
 ·have e:chk m=91:=if_pos (o.out.trans h)
  rw [e];have H:((D:Int)==5)=true:=x41_;clear e h r
  go_enter Tryz.func33,Tryz.ntmps33
  go_wp2_with fail
  refine (Yq5 m _ _ q.out p.out).mono ?_;exact k39_
 ·have H:((D:Int)==5)=false:=by simp;omega
  obtain ⟨g,u⟩:∃ g,ok 4 m=g:=⟨_,rfl⟩;have e:chk m=if g=true then 0 else 90:=by rw [← u];exact if_neg (by rw [o.out];exact h)
  obtain ⟨R,s⟩:∃ R:Int,R=if g=true then 0 else 90:=⟨_,rfl⟩
  rw [e,← s];have x:=hid s;have y:=hid (fun (v:Value) (W:World) (j:MatV W W.heap.size v m)=>Vb9 4 m v W j p.out (by rw [o.out];omega));rw [u] at y;clear e h r u s
  go_enter Tryz.func33,Tryz.ntmps33
  go_wp2_with fail
  refine (Yq5 m _ _ q.out p.out).mono ?_;rintro e w1 ⟨rfl,hb1⟩;rw [HD.out];have Hb1:=hid (Z0_ Hb0.out (le_refl _) hb1);have E:=hid (q.out.up hb1);have d:=hid (c.out.below hb1 c.out.lt);clear hb1 g0 g1 g2 g3 g4 g5;have g0:=d.out.cell 0;have g1:=d.out.cell 1;have g2:=d.out.cell 2;have g3:=d.out.cell 3;have g4:=d.out.cell 4;have g5:=d.out.cell 5
  go_wp2_with fail
  refine (y.out _ _ E.out).mono ?_;rintro e J ⟨rfl,z⟩;have Hb2:=hid (Z0_ Hb1.out (le_refl _) z);clear z g0 g1 g2 g3 g4 g5;cases g
  ·have G:R=90:=x.out
   subst G;exact j2_
  ·have F:R=0:=x.out
   subst F;exact j2_
end Go.Proofs.YtigobiacbficaaaGreatDoor.Wp
