/- The document's answers on graphs (is that one, its components, its parts, its rank, is it a forest), walked. -/
import Derived.Test.YteiejkhdonmcdaaGreatDoorZJ
import Derived.Test.YteiejkhdonmcdaaGreatDoorX0A
import Derived.Test.YteiejkhdonmcdaaGreatDoorX0B
set_option maxHeartbeats 8000000
set_option maxRecDepth 100000
open Go.Lib (hid)
namespace Go.Proofs.YteiejkhdonmcdaaGreatDoor.Wp
private theorem k17_ {P:Prop} (h:P:=by
 have Hr2:=hid (Hfam.out.rows Hown.out)
 subst hke
 go_wp2
 go_ret2
 refine ⟨_,rfl,Hr2.out,Hb1.out.trans (Hbr.out.mono Hmbw.out)⟩):P:=h
private theorem y29_ {P:Prop} (h:P:=by
 go_wp2
 go_ret2
 exact ⟨g,rfl,Hfin.out,Hgs.out,Hbr.out⟩):P:=h
end Go.Proofs.YteiejkhdonmcdaaGreatDoor.Wp
namespace Go.Proofs.YteiejkhdonmcdaaGreatDoor
open Go.RowKit
namespace Wp
theorem Xw2 {n:Int} {es:List (Int × Int)} {k:Nat} (c:k=es.length) (h:Zi7 n es k):isG n es=sizeB n es:=by
 unfold isG;have:es.all (okE n)=true:=by
  rw [List.all_eq_true];exact y23_
 rw [this,Bool.and_true]
theorem Yx6 (n:Int) (v:Value) (es:List (Int × Int)) (w:World) (G:Edges w w.heap.size v es) (hl:es.length≤1048576) :
  Calls Tryz.prog 201 #[.int .i64 n,v] w (Says w (isG n es)):=by
 obtain ⟨A,c,rfl,_,r⟩:=G;have q:=hid r;clear r;have g:=hid (fun k=>@isG_bad n es k);have O:(es.length:Int)≤1048576:=q39_
 go_enter Tryz.func201,Tryz.ntmps201
 go_wp2
 go_loopw [5] (fun p wr=>∃ k:Nat,p=.int .i64 k∧k≤es.length∧Below w.heap.size w wr∧Zi7 n es k) (fun p _=>es.length - (intOf p).toNat)
 case atStart=>exact ⟨0,rfl,Nat.zero_le _,Below.refl _ _,fun j F=>absurd F q39_⟩
 case round =>
  obtain ⟨k,rfl,N,B,z⟩:=hrel;have Hwr:=hid B;clear B;have m:=hid z;clear z;by_cases u:k<es.length
  ·obtain ⟨ad,hA,hab,d,e⟩:=q.out k u
   subst hA;have H:wr.cell? (ad.add (k * 2))=some (.int .i64 (es.getD k (0,0)).1):=((Hwr.out).cell x41_).trans d;have I:wr.cell? ⟨(ad.add (k * 2)).block,(ad.add (k * 2)).off+1,none⟩=some (.int .i64 (es.getD k (0,0)).2):=((Hwr.out).cell q47_).trans e;have C:=hid (g.out k u);have D:=hid (Zc5 (n:=n) (es:=es) (k:=k) m.out);clear d e g q;have P:(k:Int)<(es.length:Int):=q39_;have He:Hid (okE n (es.getD k (0,0))=decide (0≤(es.getD k (0,0)).1∧(es.getD k (0,0)).1<n∧0≤(es.getD k (0,0)).2∧(es.getD k (0,0)).2<n)):=rfl;generalize (es.getD k (0,0)).1=x at *
   generalize (es.getD k (0,0)).2=y at *
   by_cases hb:0≤x∧x<n∧0≤y∧y<n
   ·obtain ⟨hx1,hx2,hy1,hy2⟩:=hb
    have o:Hid (okE n (es.getD k (0,0))=true):=k27_;go_wp2
    go_quiet (fail)
    go_wp2
    go_roundw
    case rel=>exact ⟨k+1,j40_,q39_,Y2_ (Hwr.out) _,D.out o.out⟩
    case measure=>simp [intOf];omega
   ·have o:Hid (okE n (es.getD k (0,0))=false):=by
     show okE n (es.getD k (0,0))=false;rw [He.out,decide_eq_false_iff_not];exact hb
    have E:x<0∨(0≤x∧y<0)∨(0≤x∧0≤y∧n≤x)∨(0≤x∧0≤y∧x<n∧n≤y):=q39_;clear hb;rcases E with d | ⟨d,e⟩ | ⟨d,e,h3⟩ | ⟨d,e,h3,M⟩
    all_goals
     go_wp2
     go_quiet (fail)
     go_wp2;go_ret;exact Y7_ (C.out o.out) rfl (Y2_ (Hwr.out) _)
  ·have s:k=es.length:=by omega
   have Hsz:=hid (Xw2 s m.out);subst s;clear g m;by_cases d:1≤n
   ·by_cases e:n≤64
    ·by_cases h3:(es.length:Int)≤4096
     ·have Hb:Hid (sizeB n es=true):=by
       show sizeB n es=true;unfold sizeB;exact decide_eq_true ⟨d,e,q39_⟩
      exact k14_
     ·have Hb:Hid (sizeB n es=false):=by
       show sizeB n es=false;unfold sizeB;exact decide_eq_false (fun h=>h3 q39_)
      have L:4096<(es.length:Int):=q39_;exact k14_
    ·have Hb:Hid (sizeB n es=false):=by
      show sizeB n es=false;unfold sizeB;exact decide_eq_false (fun h=>e q39_)
     have K:64<n:=q39_;exact k14_
   ·have Hb:Hid (sizeB n es=false):=by
     show sizeB n es=false;unfold sizeB;exact decide_eq_false (fun h=>d q39_)
    have J:n<1:=q39_;exact k14_
theorem Yd5 (n:Int) (v:Value) (es:List (Int × Int)) (w:World) (c:Edges w w.heap.size v es) (hl:es.length≤1048576) {b:Bool} (hb:isG n es=b) :
  Calls Tryz.prog 201 #[.int .i64 n,v] w (Says w b):=by
 subst hb;exact Yx6 n v es w c hl
open Go.RowKit
def Q4_ (ns:List (Nat × Nat)) (f:Nat→Nat) (i:Nat):Nat→Nat:=(ns.take i).foldl stepF f
theorem Zh6 {c:List (Nat × Nat)} {f:Nat→Nat} {i:Nat} (d:i<c.length):Q4_ c f (i+1)=stepF (Q4_ c f i) (c.getD i (0,0)):=by
 unfold Q4_;rw [List.take_succ_eq_append_getElem d,List.foldl_append];simp [List.getD,d]
theorem Zr1 (m:Nat) (v:Value) (d:List (Nat × Nat)) (w:World) (hr:Edges w w.heap.size v (castE d)) (h1:1≤m) (h2:m≤64) (h3:d.length≤4096) (F:Lies m d) :
  Calls Tryz.prog 183 #[.int .i64 m,v] w (Zc6 w m (compF d)):=by
 have Hr:=hid hr;have Hg:=hid (Vv3 h1 h2 h3 F);have Q:=hid F;have hl:(castE d).length≤1048576:=by rw [X4_];omega
 obtain ⟨A,c,hv,_,H⟩:=hr;rw [X4_] at hv H;subst hv;have O:=hid H;clear H F;have xa:(m:Int)≤64:=q39_;have x9:1≤(m:Int):=q39_;have xb:(d.length:Int)≤4096:=q39_;have x7:=fun W=>run_make_row' 26 3 (.int .i64 0) 8 Tryz.underlying26 info3 rfl .i64 .i64 m q39_ q39_ W
 go_enter Tryz.func183,Tryz.ntmps183
 go_wp2_with fail
 refine (Yd5 m _ (castE d) w Hr.out hl Hg.out).mono ?_;rintro e w1 ⟨rfl,C⟩;obtain ⟨g,hg⟩:∃ g,g=w1.heap.size:=⟨_,rfl⟩;have Hgs:Hid (w.heap.size≤g):=by
  show _≤_;rw [hg];exact C.size
 have x2:Hid (Labels (w1.alloc (.cells (madeCells #[.int .i64 0] m) 3)) g m (fun j=>if j<0 then j else 0)):=q22_;have x0:Hid (Below w.heap.size w (w1.alloc (.cells (madeCells #[.int .i64 0] m) 3))):=C.alloc C.size _;clear C;go_wp2;rw [← hg];clear hg x7
 go_loopw [7] (fun s wr=>∃ k:Nat,s=.int .i64 k∧k≤m∧Labels wr g m (fun j=>if j<k then j else 0)∧Below w.heap.size w wr) (fun s _=>m - (intOf s).toNat)
 case atStart=>exact ⟨0,rfl,Nat.zero_le _,x2.out,x0.out⟩
 case round =>
  obtain ⟨k,rfl,V,r,q⟩:=hrel;have Hlab:=hid r;have Hbr:=hid q;clear r q;by_cases hlt:k<m
  ·exact j5_
  ·have J:k=m:=by omega
   have P:=hid (Hlab.out.congr (f':=J8_ d 0) (fun i hi=>by simp [J8_,show i<k by omega]));clear Hlab;go_wp2
   go_loopw [8] (fun s wr=>∃ k:Nat,s=.int .i64 k∧k≤m∧Labels wr g m (J8_ d k)∧Below w.heap.size w wr) (fun s _=>m - (intOf s).toNat)
   case atStart=>exact ⟨0,rfl,Nat.zero_le _,P.out,Hbr.out⟩
   case round =>
    clear P Hbr J hlt V;obtain ⟨k,rfl,V,r,q⟩:=hrel;have Hlab:=hid r;have Hbr:=hid q;clear r q;by_cases hlt:k<m
    ·go_wp2
     go_loopw [9] (fun N wr=>∃ i:Nat,N=.int .i64 i∧i≤d.length∧Labels wr g m (Q4_ d (J8_ d k) i)∧Below w.heap.size w wr) (fun N _=>d.length - (intOf N).toNat)
     case atStart=>exact ⟨0,rfl,Nat.zero_le _,Hlab.out,Hbr.out⟩
     case round =>
      clear Hlab Hbr;obtain ⟨i,rfl,hi,r,q⟩:=hrel;have Hlab:=hid r;have Hbr:=hid q;clear r q;by_cases I:i<d.length
      ·obtain ⟨B,hA,hab,q1,q2⟩:=O.out i I
       subst hA;rw [G8_] at q1 q2;simp only at q1 q2;have S:=(Hbr.out.cell (p:=B.add (i * 2)) x41_).trans q1;have T:=(Hbr.out.cell (p:=⟨(B.add (i * 2)).block,(B.add (i * 2)).off+1,none⟩) (by show (B.add (i * 2)).block<_;rw [Z2_];exact hab)).trans q2;clear q1 q2 O;have K:=Zw8 Q.out I;have R:=hid (Zh6 (f:=J8_ d k) I);obtain ⟨⟨x,y⟩,z⟩:∃ e,e=d.getD i (0,0):=⟨_,rfl⟩;rw [← z] at S T K R;clear z;simp only at S T K;obtain ⟨hx,hy⟩:=K;have c1:=Hlab.out.cell hx;have c2:=Hlab.out.cell hy;have f1:=Hlab.out.frozen x;have f2:=Hlab.out.frozen y;have xd:(x:Int)<m:=q39_;have xe:(y:Int)<m:=q39_;have xc:(i:Int)<(d.length:Int):=q39_;obtain ⟨D,L⟩:∃ p,p=Q4_ d (J8_ d k) i x:=⟨_,rfl⟩;obtain ⟨E,M⟩:∃ p,p=Q4_ d (J8_ d k) i y:=⟨_,rfl⟩;rw [← L] at c1;rw [← M] at c2;obtain ⟨o,Z⟩:∃ o,o=min D E:=⟨_,rfl⟩;have x3:Hid (Q4_ d (J8_ d k) (i+1)=fun j=>if j=y then o else if j=x then o else Q4_ d (J8_ d k) i j):=by
        show _=_;rw [R.out,Z,L,M];rfl
       clear L M;have x4:(o=D∧D≤E)∨(o=E∧E<D):=q39_;clear Z;have x8:=hid (fun W (h:Labels W g m (Q4_ d (J8_ d k) i))=>(h.set x o).set y o);go_wp2
       go_quiet (fail)
       go_wp2;rcases x4 with ⟨rfl,x6⟩ | ⟨rfl,x6⟩
       all_goals
        go_quiet (fail)
        generalize G:wr.drewN _=W;have u:Labels W g m (Q4_ d (J8_ d k) i):=by rw [← G];exact Hlab.out
        have U:Below w.heap.size w W:=by rw [← G];exact Y2_ Hbr.out _
        clear G;have d1:=u.cell hx;have e1:=u.frozen x;have X:=u.set x o;have d2:=u.cell hy;have e2:=u.frozen y;have Y:=X.set y o;have Hl3:=hid (Y.congr (f':=Q4_ d (J8_ d k) (i+1)) (fun j _=>by rw [x3.out]));have Hbw:=hid U;clear u X Y U;by_cases z:x=y
        ·subst z
         exact x14_
        ·have xf:¬ y=x:=fun h=>z h.symm
         exact x14_
      ·have x5:i=d.length:=by omega
       have x1:=hid (Hlab.out.congr (f':=J8_ d (k+1)) (fun j _=>by unfold Q4_;rw [x5,List.take_length];rfl));go_wp2
       go_roundw
       case rel=>exact ⟨k+1,j40_,q39_,x1.out,Hbr.out⟩
       case measure=>simp [intOf];omega
    ·have J:k=m:=by omega
     have Hfin:=hid (Hlab.out.congr (f':=compF d) (fun j hj=>by rw [J];exact Ya7 Q.out j hj));exact y29_
open Go.RowKit
theorem Fam.push {w:World} {B:Nat} {vs:List Value} {pp:List (List Int)} (h:Fam w B vs pp) {u:Value} {q:List Int} (o:w.ownsRow B 3 1 u q.length (ints q)) (hd:∀ v∈vs,v.ownBlock=none∨v.ownBlock≠u.ownBlock):Fam w B (vs ++ [u]) (pp ++ [q]):=by
 have f:∀ (i:Nat) (v:Value),¬ i<vs.length→(vs ++ [u])[i]?=some v→i=vs.length∧v=u:=y13_;refine ⟨by simp [h.1],fun i v p hv hp=>?_,fun i j v z hv c m=>?_⟩
 ·by_cases hi:i<vs.length
  ·exact y19_
  ·obtain ⟨rfl,rfl⟩:=f i v hi hv
   rw [h.1,List.getElem?_append_right (Nat.le_refl _)] at hp;simp at hp;subst hp;exact o
 ·by_cases hi:i<vs.length
  ·rw [List.getElem?_append_left hi] at hv
   by_cases d:j<vs.length
   ·rw [List.getElem?_append_left d] at c
    exact h.2.2 i j v z hv c m
   ·obtain ⟨rfl,rfl⟩:=f j z d c
    exact hd v (List.mem_of_getElem? hv)
  ·obtain ⟨rfl,rfl⟩:=f i v hi hv
   by_cases d:j<vs.length
   ·rw [List.getElem?_append_left d] at c
    rcases hd z (List.mem_of_getElem? c) with g | g
    ·rcases hb:v.ownBlock with _ | k
     ·exact .inl rfl
     ·right
      rw [g];simp
    ·exact .inr fun e=>g e.symm
   ·have:=f j z d c
    omega
theorem Fam.lt {w:World} {B:Nat} {c:List Value} {pp:List (List Int)} (h:Fam w B c pp) {v:Value} (f:v∈c) {k:Nat} (e:v.ownBlock=some k):k<w.heap.size:=by
 obtain ⟨i,hi,rfl⟩:=List.mem_iff_getElem.1 f;have d:i<pp.length:=j47_;exact ((h.2.1 i _ _ (List.getElem?_eq_getElem hi) (List.getElem?_eq_getElem d)).lt k e).2
theorem Fam.outer {w w':World} {B:Nat} {d:List Value} {pp:List (List Int)} (h:Fam w B d pp) {c:Value} {b n:Nat} {k:List Value} (g:w.ownsRow b 26 1 c n k) (e:w.grownBy w' c.ownBlock):Fam w' B d pp:=by
 refine h.kept e ?_;intro v j;obtain ⟨i,hi,rfl⟩:=List.mem_iff_getElem.1 j;have f:i<pp.length:=j47_;exact Zx1 (h.2.1 i _ _ (List.getElem?_eq_getElem hi) (List.getElem?_eq_getElem f)) g x40_
def E5_ (m r:Nat) (f:Nat→Nat):List (List Nat):=(D7_ r f).map (X1_ m f)
theorem Yd6 {m r:Nat} {f:Nat→Nat} (h:f r=r):E5_ m (r+1) f=E5_ m r f ++ [X1_ m f r]:=by
 unfold E5_;rw [L9_,if_pos h,List.map_append];rfl
theorem Yu9 {m r:Nat} {f:Nat→Nat} (h:f r≠r):E5_ m (r+1) f=E5_ m r f:=by
 unfold E5_;rw [L9_,if_neg h,List.append_nil]
theorem Zh7 (m r:Nat) (f:Nat→Nat):(E5_ m r f).length≤r:=by
 have c:(E5_ m r f).length=cnt (rootB f) r:=by simp [E5_,D7_,cnt]
 rw [c];exact B8_ _ _
theorem Zr2 (m:Nat) (v:Value) (D:List (Nat × Nat)) (w:World) (M:Edges w w.heap.size v (castE D)) (K:1≤m) (L:m≤64) (h3:D.length≤4096) (h4:Lies m D) :
  Calls Tryz.prog 157 #[.int .i64 m,v] w (Yz0 w (castP (C9_ m (compF D)))):=by
 have Hr:=hid M;have Hc:=hid (Zr1 m v D w M K L h3 h4);have y2:(m:Int)≤64:=q39_;have y1:1≤(m:Int):=q39_;obtain ⟨A,c,rfl,_⟩:=M;clear h4 h3
 go_enter Tryz.func157,Tryz.ntmps157
 go_wp2_with fail
 refine Hc.out.mono ?_;rintro e w1 ⟨g,rfl,xg,hg,W⟩;generalize compF D=f at *
 have S:=hid xg;clear Hc xg Hr;have xd:g<w1.heap.size:=World.rowIs.lt S.out;obtain ⟨d,hmb⟩:∃ d,d=w1.heap.size:=⟨_,rfl⟩;have x4:Hid ((w1.alloc (.cells #[] 26)).ownsRow d 26 1 (.slice (some ⟨d,0,none⟩) 0 0) 0 []):=by
  show World.ownsRow _ _ _ _ _ _ _;rw [hmb];exact World.ownsRow_made w1 #[] 0 (Nat.le_refl _) z40_ rfl
 have x3:Hid (Below d w1 (w1.alloc (.cells #[] 26))):=z29_;have x8:Hid (d≤(w1.alloc (.cells #[] 26)).heap.size):=by
  show _≤_;rw [hmb];simp
 have Hmbw:Hid (w.heap.size≤d):=by
  show _≤_;rw [hmb];exact W.size
 have xe:g<d:=by rw [hmb];exact xd
 have Hb1:=hid W;clear W xd;go_wp2;rw [← hmb];clear hmb
 go_loopw [8,9] (fun vo vr wr=>∃ (r:Nat) (j:List Value),vr=.int .i64 r∧r≤m∧wr.ownsRow d 26 1 vo j.length j∧Fam wr d j (castP (E5_ m r f))∧Below d w1 wr∧d≤wr.heap.size) (fun _ vr _=>m - (intOf vr).toNat)
 case atStart=>exact ⟨0,[],rfl,Nat.zero_le _,x4.out,Yq3 _ _,x3.out,x8.out⟩
 case round =>
  obtain ⟨r,j,rfl,M,Y,xc,xa,N⟩:=hrel;clear x4 x3 x8;obtain ⟨vA,vc,rfl⟩:=Q1_ Y;have Hown:=hid Y;have Hfam:=hid xc;have Hbr:=hid xa;clear Y xc xa;have y5:j.length≤64:=by
   rw [Hfam.out.1,C0_];have:=Zh7 m r f;omega
  by_cases xx:r<m
  ·have hc:wr.cell? ⟨g,r,none⟩=some (.int .i64 (f r:Int)):=(Hbr.out.cell (p:=⟨g,r,none⟩) xe).trans (S.out.cell xx)
   obtain ⟨x,x1⟩:∃ x,x=f r:=⟨_,rfl⟩;rw [← x1] at hc;have Hxe:=hid x1;clear x1;have y4:(r:Int)<m:=q39_;by_cases H:x=r
   ·have Hroot:=hid H
    have xv:((x:Int) != (r:Int))=false:=by simp [H]
    clear H;obtain ⟨w0,rfl⟩:∃ w0,w0=wr:=⟨_,rfl⟩;have x5:Hid ((w0.alloc (.cells #[] 3)).ownsRow w0.heap.size 3 1 (.slice (some ⟨w0.heap.size,0,none⟩) 0 0) 0 []):=World.ownsRow_made w0 #[] 0 (Nat.le_refl _) z40_ rfl;have x2:Hid (Below w0.heap.size w0 (w0.alloc (.cells #[] 3))):=(Below.refl _ w0).alloc (Nat.le_refl _) _;have x7:Hid (w0.heap.size≤(w0.alloc (.cells #[] 3)).heap.size):=by
     show _≤_;simp
    go_wp2
    go_loopw [10,11] (fun vp vv wr=>∃ (k:Nat),vv=.int .i64 k∧k≤m∧wr.ownsRow w0.heap.size 3 1 vp (castL (X1_ k f r)).length (ints (castL (X1_ k f r)))∧Below w0.heap.size w0 wr∧w0.heap.size≤wr.heap.size) (fun _ vv _=>m - (intOf vv).toNat)
    case atStart=>exact ⟨0,rfl,Nat.zero_le _,x5.out,x2.out,x7.out⟩
    case round =>
     obtain ⟨k,rfl,hk,Z,x9,x0⟩:=hrel;clear x5 x2 x7;obtain ⟨o,s,rfl⟩:=Q1_ Z;have F:=hid Z;have C:=hid x9;clear Z x9;have xy:(castL (X1_ k f r)).length≤64:=by
      rw [Zx6];have:=T5_ k f r;omega
     by_cases xw:k<m
     ·have y3:(k:Int)<m:=by omega
      have xt:wr.cell? ⟨g,k,none⟩=some (.int .i64 (f k:Int)):=(C.out.cell (p:=⟨g,k,none⟩) (by show g<_;omega)).trans ((Hbr.out.cell (p:=⟨g,k,none⟩) xe).trans (S.out.cell xw));have G:=hid (R7_ k f r);generalize f k=y at xt G;by_cases J:y=r
      ·have xz:((y:Int)==(r:Int))=true:=by simp [J]
       have T:Hid (castL (X1_ (k+1) f r)=castL (X1_ k f r) ++ [(k:Int)]):=by
        show _=_;rw [G.out,if_pos J,Zi8]
       clear J G;generalize castL (X1_ k f r)=ps at *
       obtain ⟨B,P⟩:∃ B,B=ints ps:=⟨_,rfl⟩;have O:B.length=ps.length:=by rw [P,Q8_]
       have xp:=hid P;have x6:Hid (wr.ownsRow w0.heap.size 3 1 (.slice o ps.length s) B.length B):=by
        show World.ownsRow _ _ _ _ _ _ _;rw [O,P];exact F.out
       have xo:=hid O;have y6:B.length≤64:=by rw [O];exact xy
       clear P O;have z:=(Blk.new wr 3 #[.int .i64 (k:Int)]).cell 0;simp only [List.getElem?_toArray,List.getElem?_cons_zero] at z;have R:=hid z;clear z;have I:(wr.alloc (.cells #[.int .i64 (k:Int)] 3)).heap.size=wr.heap.size+1:=j39_;have Hsz3:=hid I;clear I
       go_wp2_with (at_builtin;refine J2_ rfl _ _ 26 3 (.int .i64 0) 8 rfl Tryz.underlying26 info3 rfl w0.heap.size _ (.int .i64 (k:Int)) B rfl (x6.out.alloc _) wr.heap.size rfl R.out rfl q39_ q39_ x45_ ?_)
       intro u5 E xf u _;have xm:Hid (E.ownsRow w0.heap.size 3 1 u5 (castL (X1_ (k+1) f r)).length (ints (castL (X1_ (k+1) f r)))):=by
        show World.ownsRow _ _ _ _ _ _ _;rw [T.out,J4_,← xp.out,List.length_append,← xo.out];exact xf
       have Q:=hid ((C.out.alloc x0 (.cells #[.int .i64 (k:Int)] 3)).grown u x45_ (fun i X=>(x6.out.lt i X).1));have V:Hid (w0.heap.size≤E.heap.size):=Nat.le_trans x45_ u.size;clear xf u;go_wp2
       go_roundw
       case rel=>exact ⟨k+1,j40_,q39_,xm.out,Q.out,V.out⟩
       case measure=>simp [intOf];omega
      ·have xz:((y:Int)==(r:Int))=false:=by rw [beq_eq_false_iff_ne];omega
       have T:Hid (X1_ (k+1) f r=X1_ k f r):=by
        show _=_;rw [G.out,if_neg J,List.append_nil]
       clear J G;go_wp2
       go_roundw
       case rel=>exact ⟨k+1,j40_,q39_,by rw [T.out];exact F.out,C.out,x0⟩
       case measure=>simp [intOf];omega
     ·obtain rfl:m=k:=by omega
      have U:=hid (Hown.out.kept (Z6_ C.out none) (by
       rcases (Value.slice vA j.length vc).ownBlock with _ | q
       ·exact .inl rfl
       ·exact .inr j39_))
      have xk:=hid (Hfam.out.new (Z6_ C.out none));have z:=(Blk.new wr 26 #[.slice o (castL (X1_ m f r)).length s]).cell 0;simp only [List.getElem?_toArray,List.getElem?_cons_zero] at z;have R:=hid z;clear z;have I:(wr.alloc (.cells #[.slice o (castL (X1_ m f r)).length s] 26)).heap.size=wr.heap.size+1:=j39_;have Hsz3:=hid I;clear I
      go_wp2_with (at_builtin;refine J2_ rfl _ _ 22 26 (.slice none 0 0) 24 rfl Tryz.underlying22 Zw9 rfl d _ (.slice o (castL (X1_ m f r)).length s) j rfl (U.out.alloc _) wr.heap.size rfl R.out rfl q39_ q39_ x45_ ?_)
      intro y0 E xh u _;have xb:Below d w1 wr:=Hbr.out.trans (C.out.mono N);have xj:d≤wr.heap.size:=Nat.le_trans N x0;have xn:Hid (E.ownsRow d 26 1 y0 (j ++ [Value.slice o (castL (X1_ m f r)).length s]).length (j ++ [Value.slice o (castL (X1_ m f r)).length s])):=by
       show World.ownsRow _ _ _ _ _ _ _;rw [List.length_append];exact xh
      have xi:wr.ownsRow d 3 1 (.slice o (castL (X1_ m f r)).length s) (castL (X1_ m f r)).length (ints (castL (X1_ m f r))):=⟨F.out.1,by
       rcases F.out.2 with h | ⟨g',xq,xr,K,L,h3⟩
       ·exact .inl h
       ·exact .inr ⟨g',xq,xr,K,Nat.le_trans N L,h3⟩⟩
      have xl:Hid (Fam E d (j ++ [Value.slice o (castL (X1_ m f r)).length s]) (castP (E5_ m (r+1) f))):=by
       show Fam _ _ _ _;rw [Yd6 j49_];have xu:castP (E5_ m r f ++ [X1_ m f r])=castP (E5_ m r f) ++ [castL (X1_ m f r)]:=by simp [castP]
       rw [xu];refine Fam.outer (w:=wr.alloc (.cells #[.slice o (castL (X1_ m f r)).length s] 26)) ?_ (U.out.alloc _) u;refine Fam.new (w:=wr) ?_ (World.grownBy_alloc _ _ none);refine xk.out.push xi ?_;intro v hv;rcases hb:v.ownBlock with _ | q
       ·exact .inl rfl
       ·right
        have K:=Hfam.out.lt hv hb;intro he;have L:=(F.out.lt q he.symm).1;omega
      have Q:=hid ((xb.alloc xj (.cells #[.slice o (castL (X1_ m f r)).length s] 26)).grown u x45_ (fun i X=>(U.out.lt i X).1));have V:Hid (d≤E.heap.size):=Nat.le_trans x45_ u.size;clear xh u xb xj xi;go_wp2
      go_roundw
      case rel=>exact ⟨r+1,_,j40_,q39_,xn.out,xl.out,Q.out,V.out⟩
      case measure=>simp [intOf];omega
   ·have Hroot:=hid H
    have xv:((x:Int) != (r:Int))=true:=by rw [bne_iff_ne];omega
    clear H;go_wp2
    go_roundw
    case rel=>exact ⟨r+1,j,j40_,q39_,Hown.out,by rw [Yu9 j49_];exact Hfam.out,Hbr.out,N⟩
    case measure=>simp [intOf];omega
  ·have hke:r=m:=by omega
   exact k17_
open Go.RowKit
theorem Yx7 (m:Nat) (v:Value) (d:List (Nat × Nat)) (w:World) (h:Edges w w.heap.size v (castE d)) (p:1≤m) (q:m≤64) (h3:d.length≤4096) (g:Lies m d) :
  Calls Tryz.prog 136 #[.int .i64 m,v] w (Vv4 w (rankN m d)):=by
 have o:=hid (Zr2 m v d w h p q h3 g);have y:(m:Int)≤64:=q39_;have x:1≤(m:Int):=q39_;obtain ⟨A,c,rfl,_⟩:=h;clear g h3
 go_enter Tryz.func136,Tryz.ntmps136
 go_wp2_with fail
 refine o.out.mono ?_;rintro e D ⟨C,rfl,s,r⟩;obtain ⟨u,c1,rfl,_⟩:=s;rw [C0_,A2_];have z:=B8_ (rootB (compF d)) m;have j:Hid ((m:Int) - (cnt (rootB (compF d)) m:Int)=rankN m d):=rfl;generalize cnt (rootB (compF d)) m=k at *
 have B:(k:Int)≤m:=q39_;go_wp2;go_ret;exact ⟨by rw [← j.out];rfl,r⟩
theorem Zh8 (m:Nat) (v:Value) (d:List (Nat × Nat)) (w:World) (h:Edges w w.heap.size v (castE d)) (p:1≤m) (q:m≤64) (h3:d.length≤4096) (g:Lies m d) (b:Bool) (hb:(rankN m d==(d.length:Int))=b) :
  Calls Tryz.prog 102 #[.int .i64 m,v] w (Says w b):=by
 have o:=hid (Yx7 m v d w h p q h3 g);have k:=hid hb;obtain ⟨A,c,j,_⟩:=h;rw [X4_] at j;subst j;have u:(d.length:Int)≤4096:=q39_;clear g h3 hb
 go_enter Tryz.func102,Tryz.ntmps102
 go_wp2_with fail
 refine o.out.mono ?_;rintro e x ⟨rfl,s⟩;generalize rankN m d=r at *
 go_wp2;go_ret;exact ⟨by rw [← k.out];rfl,s⟩
end Wp
end Go.Proofs.YteiejkhdonmcdaaGreatDoor
