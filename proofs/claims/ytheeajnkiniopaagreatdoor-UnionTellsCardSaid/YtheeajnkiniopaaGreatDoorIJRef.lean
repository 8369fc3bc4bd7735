/- The document's answers on graphs (is that one, its components, its parts, its rank, is it a forest), walked. -/
import Derived.Test.YtheeajnkiniopaaGreatDoorZJ
import Derived.Test.YtheeajnkiniopaaGreatDoorX0A
import Derived.Test.YtheeajnkiniopaaGreatDoorX0B
set_option maxHeartbeats 8000000
set_option maxRecDepth 100000
open Go.Lib (hid)
namespace Go.Proofs.YtheeajnkiniopaaGreatDoor.Wp
private theorem z18_ {P:Prop} (h:P:=by
 have Hr2:=hid (Hfam.out.rows Hown.out)
 subst hke
 go_wp2
 go_ret2
 refine ⟨_,rfl,Hr2.out,Hb1.out.trans (Hbr.out.mono Hmbw.out)⟩):P:=h
private theorem x29_ {P:Prop} (h:P:=by
 go_wp2
 go_ret2
 exact ⟨g,rfl,Hfin.out,Hgs.out,Hbr.out⟩):P:=h
open Go.RowKit
theorem Vq2 {n:Int} {es:List (Int × Int)} {k:Nat} (c:k=es.length) (h:Zh4 n es k):isG n es=sizeB n es:=by
 unfold isG;have:es.all (okE n)=true:=by
  rw [List.all_eq_true];exact x24_
 rw [this,Bool.and_true]
theorem Yj9 (n:Int) (v:Value) (es:List (Int × Int)) (w:World) (H:Edges w w.heap.size v es) (hl:es.length≤1048576) :
  Calls Tryz.prog 211 #[.int .i64 n,v] w (Says w (isG n es)):=by
 obtain ⟨A,c,rfl,_,r⟩:=H;have q:=hid r;clear r;have g:=hid (fun k=>@isG_bad n es k);have P:(es.length:Int)≤1048576:=q40_
 go_enter Tryz.func211,Tryz.ntmps211
 go_wp2
 go_loopw [5] (fun p wr=>∃ k:Nat,p=.int .i64 k∧k≤es.length∧Below w.heap.size w wr∧Zh4 n es k) (fun p _=>es.length - (intOf p).toNat)
 case atStart=>exact ⟨0,rfl,Nat.zero_le _,Below.refl _ _,fun j G=>absurd G q40_⟩
 case round =>
  obtain ⟨k,rfl,O,B,z⟩:=hrel;have Hwr:=hid B;clear B;have m:=hid z;clear z;by_cases u:k<es.length
  ·obtain ⟨ad,E,hab,d,e⟩:=q.out k u
   subst E;have I:wr.cell? (ad.add (k * 2))=some (.int .i64 (es.getD k (0,0)).1):=((Hwr.out).cell k41_).trans d;have J:wr.cell? ⟨(ad.add (k * 2)).block,(ad.add (k * 2)).off+1,none⟩=some (.int .i64 (es.getD k (0,0)).2):=((Hwr.out).cell z47_).trans e;have C:=hid (g.out k u);have D:=hid (Zb6 (n:=n) (es:=es) (k:=k) m.out);clear d e g q;have Q:(k:Int)<(es.length:Int):=q40_;have He:Hid (okE n (es.getD k (0,0))=decide (0≤(es.getD k (0,0)).1∧(es.getD k (0,0)).1<n∧0≤(es.getD k (0,0)).2∧(es.getD k (0,0)).2<n)):=rfl;generalize (es.getD k (0,0)).1=x at *
   generalize (es.getD k (0,0)).2=y at *
   by_cases hb:0≤x∧x<n∧0≤y∧y<n
   ·obtain ⟨hx1,hx2,hy1,hy2⟩:=hb
    have o:Hid (okE n (es.getD k (0,0))=true):=q28_;go_wp2
    go_quiet (fail)
    go_wp2
    go_roundw
    case rel=>exact ⟨k+1,x41_,q40_,Y2_ (Hwr.out) _,D.out o.out⟩
    exact mz_
   ·have o:Hid (okE n (es.getD k (0,0))=false):=by
     show okE n (es.getD k (0,0))=false;rw [He.out,decide_eq_false_iff_not];exact hb
    have F:x<0∨(0≤x∧y<0)∨(0≤x∧0≤y∧n≤x)∨(0≤x∧0≤y∧x<n∧n≤y):=q40_;clear hb;rcases F with d | ⟨d,e⟩ | ⟨d,e,h3⟩ | ⟨d,e,h3,N⟩
    all_goals
     go_wp2
     go_quiet (fail)
     go_wp2;go_ret;exact X7_ (C.out o.out) rfl (Y2_ (Hwr.out) _)
  ·have s:k=es.length:=by omega
   have Hsz:=hid (Vq2 s m.out);subst s;clear g m;by_cases d:1≤n
   ·by_cases e:n≤64
    ·by_cases h3:(es.length:Int)≤4096
     ·have Hb:Hid (sizeB n es=true):=by
       show sizeB n es=true;unfold sizeB;exact decide_eq_true ⟨d,e,q40_⟩
      exact y14_
     ·have Hb:Hid (sizeB n es=false):=by
       show sizeB n es=false;unfold sizeB;exact decide_eq_false (fun h=>h3 q40_)
      have M:4096<(es.length:Int):=q40_;exact y14_
    ·have Hb:Hid (sizeB n es=false):=by
      show sizeB n es=false;unfold sizeB;exact decide_eq_false (fun h=>e q40_)
     have L:64<n:=q40_;exact y14_
   ·have Hb:Hid (sizeB n es=false):=by
     show sizeB n es=false;unfold sizeB;exact decide_eq_false (fun h=>d q40_)
    have K:n<1:=q40_;exact y14_
theorem Yg7 (n:Int) (v:Value) (es:List (Int × Int)) (w:World) (c:Edges w w.heap.size v es) (hl:es.length≤1048576) {b:Bool} (hb:isG n es=b) :
  Calls Tryz.prog 211 #[.int .i64 n,v] w (Says w b):=by
 subst hb;exact Yj9 n v es w c hl
open Go.RowKit
def J8_ (ns:List (Nat × Nat)) (f:Nat→Nat) (i:Nat):Nat→Nat:=(ns.take i).foldl stepF f
theorem Zg7 {c:List (Nat × Nat)} {f:Nat→Nat} {i:Nat} (d:i<c.length):J8_ c f (i+1)=stepF (J8_ c f i) (c.getD i (0,0)):=by
 unfold J8_;rw [List.take_succ_eq_append_getElem d,List.foldl_append];simp [List.getD,d]
theorem Zs2 (m:Nat) (v:Value) (d:List (Nat × Nat)) (w:World) (hr:Edges w w.heap.size v (castE d)) (h1:1≤m) (h2:m≤64) (h3:d.length≤4096) (F:Lies m d) :
  Calls Tryz.prog 206 #[.int .i64 m,v] w (Zb7 w m (compF d)):=by
 have Hr:=hid hr;have Hg:=hid (Vb2 h1 h2 h3 F);have Q:=hid F;have hl:(castE d).length≤1048576:=by rw [V2_];omega
 obtain ⟨A,c,hv,_,H⟩:=hr;rw [V2_] at hv H;subst hv;have O:=hid H;clear H F;have xa:(m:Int)≤64:=q40_;have x9:1≤(m:Int):=q40_;have xb:(d.length:Int)≤4096:=q40_;have x7:=fun W=>run_make_row' 23 3 (.int .i64 0) 8 Tryz.underlying23 info3 rfl .i64 .i64 m q40_ q40_ W
 go_enter Tryz.func206,Tryz.ntmps206
 go_wp2_with fail
 refine (Yg7 m _ (castE d) w Hr.out hl Hg.out).mono ?_;rintro e w1 ⟨rfl,C⟩;obtain ⟨g,hg⟩:∃ g,g=w1.heap.size:=⟨_,rfl⟩;have Hgs:Hid (w.heap.size≤g):=by
  show _≤_;rw [hg];exact C.size
 have x2:Hid (Labels (w1.alloc (.cells (madeCells #[.int .i64 0] m) 3)) g m (fun j=>if j<0 then j else 0)):=k22_;have x0:Hid (Below w.heap.size w (w1.alloc (.cells (madeCells #[.int .i64 0] m) 3))):=C.alloc C.size _;clear C;go_wp2;rw [← hg];clear hg x7
 go_loopw [7] (fun s wr=>∃ k:Nat,s=.int .i64 k∧k≤m∧Labels wr g m (fun j=>if j<k then j else 0)∧Below w.heap.size w wr) (fun s _=>m - (intOf s).toNat)
 case atStart=>exact ⟨0,rfl,Nat.zero_le _,x2.out,x0.out⟩
 case round =>
  obtain ⟨k,rfl,V,r,q⟩:=hrel;have Hlab:=hid r;have Hbr:=hid q;clear r q;by_cases hlt:k<m
  ·exact k4_
  ·have J:k=m:=by omega
   have P:=hid (Hlab.out.congr (f':=J3_ d 0) (fun i hi=>by simp [J3_,show i<k by omega]));clear Hlab;go_wp2
   go_loopw [8] (fun s wr=>∃ k:Nat,s=.int .i64 k∧k≤m∧Labels wr g m (J3_ d k)∧Below w.heap.size w wr) (fun s _=>m - (intOf s).toNat)
   case atStart=>exact ⟨0,rfl,Nat.zero_le _,P.out,Hbr.out⟩
   case round =>
    clear P Hbr J hlt V;obtain ⟨k,rfl,V,r,q⟩:=hrel;have Hlab:=hid r;have Hbr:=hid q;clear r q;by_cases hlt:k<m
    ·go_wp2
     go_loopw [9] (fun N wr=>∃ i:Nat,N=.int .i64 i∧i≤d.length∧Labels wr g m (J8_ d (J3_ d k) i)∧Below w.heap.size w wr) (fun N _=>d.length - (intOf N).toNat)
     case atStart=>exact ⟨0,rfl,Nat.zero_le _,Hlab.out,Hbr.out⟩
     case round =>
      clear Hlab Hbr;obtain ⟨i,rfl,hi,r,q⟩:=hrel;have Hlab:=hid r;have Hbr:=hid q;clear r q;by_cases I:i<d.length
      ·obtain ⟨B,hA,hab,q1,q2⟩:=O.out i I
       subst hA;rw [I2_] at q1 q2;simp only at q1 q2;have S:=(Hbr.out.cell (p:=B.add (i * 2)) k41_).trans q1;have T:=(Hbr.out.cell (p:=⟨(B.add (i * 2)).block,(B.add (i * 2)).off+1,none⟩) (by show (B.add (i * 2)).block<_;rw [Z2_];exact hab)).trans q2;clear q1 q2 O;have K:=Zw2 Q.out I;have R:=hid (Zg7 (f:=J3_ d k) I);obtain ⟨⟨x,y⟩,z⟩:∃ e,e=d.getD i (0,0):=⟨_,rfl⟩;rw [← z] at S T K R;clear z;simp only at S T K;obtain ⟨hx,hy⟩:=K;have c1:=Hlab.out.cell hx;have c2:=Hlab.out.cell hy;have f1:=Hlab.out.frozen x;have f2:=Hlab.out.frozen y;have xd:(x:Int)<m:=q40_;have xe:(y:Int)<m:=q40_;have xc:(i:Int)<(d.length:Int):=q40_;obtain ⟨D,L⟩:∃ p,p=J8_ d (J3_ d k) i x:=⟨_,rfl⟩;obtain ⟨E,M⟩:∃ p,p=J8_ d (J3_ d k) i y:=⟨_,rfl⟩;rw [← L] at c1;rw [← M] at c2;obtain ⟨o,Z⟩:∃ o,o=min D E:=⟨_,rfl⟩;have x3:Hid (J8_ d (J3_ d k) (i+1)=fun j=>if j=y then o else if j=x then o else J8_ d (J3_ d k) i j):=by
        show _=_;rw [R.out,Z,L,M];rfl
       clear L M;have x4:(o=D∧D≤E)∨(o=E∧E<D):=q40_;clear Z;have x8:=hid (fun W (h:Labels W g m (J8_ d (J3_ d k) i))=>(h.set x o).set y o);go_wp2
       go_quiet (fail)
       go_wp2;rcases x4 with ⟨rfl,x6⟩ | ⟨rfl,x6⟩
       all_goals
        go_quiet (fail)
        generalize G:wr.drewN _=W;have u:Labels W g m (J8_ d (J3_ d k) i):=by rw [← G];exact Hlab.out
        have U:Below w.heap.size w W:=by rw [← G];exact Y2_ Hbr.out _
        clear G;have d1:=u.cell hx;have e1:=u.frozen x;have X:=u.set x o;have d2:=u.cell hy;have e2:=u.frozen y;have Y:=X.set y o;have Hl3:=hid (Y.congr (f':=J8_ d (J3_ d k) (i+1)) (fun j _=>by rw [x3.out]));have Hbw:=hid U;clear u X Y U;by_cases z:x=y
        ·subst z
         exact x13_
        ·have xf:¬ y=x:=fun h=>z h.symm
         exact x13_
      ·have x5:i=d.length:=by omega
       have x1:=hid (Hlab.out.congr (f':=J3_ d (k+1)) (fun j _=>by unfold J8_;rw [x5,List.take_length];rfl));go_wp2
       go_roundw
       case rel=>exact ⟨k+1,x41_,q40_,x1.out,Hbr.out⟩
       exact mz_
    ·have J:k=m:=by omega
     have Hfin:=hid (Hlab.out.congr (f':=compF d) (fun j hj=>by rw [J];exact Yb9 Q.out j hj));exact x29_
open Go.RowKit
theorem Fam.push {w:World} {B:Nat} {vs:List Value} {pp:List (List Int)} (h:Fam w B vs pp) {u:Value} {q:List Int} (r:w.ownsRow B 3 1 u q.length (ints q)) (hd:∀ v∈vs,v.ownBlock=none∨v.ownBlock≠u.ownBlock):Fam w B (vs ++ [u]) (pp ++ [q]):=by
 have f:∀ (i:Nat) (v:Value),¬ i<vs.length→(vs ++ [u])[i]?=some v→i=vs.length∧v=u:=by
  intro i v hi hv;have m:i=vs.length:=x21_;subst m;rw [List.getElem?_append_right (Nat.le_refl _)] at hv;simp at hv;exact ⟨rfl,hv.symm⟩
 refine ⟨by simp [h.1],fun i v p hv hp=>?_,fun i j v z hv c o=>?_⟩
 ·by_cases hi:i<vs.length
  ·exact y20_
  ·obtain ⟨rfl,rfl⟩:=f i v hi hv
   rw [h.1,List.getElem?_append_right (Nat.le_refl _)] at hp;simp at hp;subst hp;exact r
 ·by_cases hi:i<vs.length
  ·rw [List.getElem?_append_left hi] at hv
   by_cases d:j<vs.length
   ·rw [List.getElem?_append_left d] at c
    exact h.2.2 i j v z hv c o
   ·obtain ⟨rfl,rfl⟩:=f j z d c
    exact hd v (List.mem_of_getElem? hv)
  ·obtain ⟨rfl,rfl⟩:=f i v hi hv
   by_cases d:j<vs.length
   ·rw [List.getElem?_append_left d] at c
    rcases hd z (List.mem_of_getElem? c) with g | g
    ·rcases hb:v.ownBlock with _ | k
     ·exact .inl rfl
     ·right
      rw [g];simp
    ·exact .inr fun e=>g e.symm
   ·have:=f j z d c
    omega
theorem Fam.lt {w:World} {B:Nat} {vs:List Value} {pp:List (List Int)} (h:Fam w B vs pp) {v:Value} (f:v∈vs) {k:Nat} (e:v.ownBlock=some k):k<w.heap.size:=by
 obtain ⟨i,c,rfl⟩:=List.mem_iff_getElem.1 f;have d:i<pp.length:=by rw [← h.1];exact c
 exact ((h.2.1 i _ _ (List.getElem?_eq_getElem c) (List.getElem?_eq_getElem d)).lt k e).2
theorem Fam.outer {w w':World} {B:Nat} {vs:List Value} {pp:List (List Int)} (h:Fam w B vs pp) {d:Value} {b n:Nat} {k:List Value} (g:w.ownsRow b 23 1 d n k) (e:w.grownBy w' d.ownBlock):Fam w' B vs pp:=by
 refine h.kept e ?_;intro v j;obtain ⟨i,c,rfl⟩:=List.mem_iff_getElem.1 j;have f:i<pp.length:=by rw [← h.1];exact c
 exact Zx4 (h.2.1 i _ _ (List.getElem?_eq_getElem c) (List.getElem?_eq_getElem f)) g q41_
def D4_ (m r:Nat) (f:Nat→Nat):List (List Nat):=(C8_ r f).map (X2_ m f)
theorem Yg8 {m r:Nat} {f:Nat→Nat} (h:f r=r):D4_ m (r+1) f=D4_ m r f ++ [X2_ m f r]:=by
 unfold D4_;rw [L1_,if_pos h,List.map_append];rfl
theorem Xx1 {m r:Nat} {f:Nat→Nat} (h:f r≠r):D4_ m (r+1) f=D4_ m r f:=by
 unfold D4_;rw [L1_,if_neg h,List.append_nil]
theorem Zg8 (m r:Nat) (f:Nat→Nat):(D4_ m r f).length≤r:=by
 have c:(D4_ m r f).length=cnt (rootB f) r:=by simp [D4_,C8_,cnt]
 rw [c];exact A3_ _ _
theorem Zs3 (m:Nat) (v:Value) (C:List (Nat × Nat)) (w:World) (L:Edges w w.heap.size v (castE C)) (J:1≤m) (K:m≤64) (h3:C.length≤4096) (h4:Lies m C) :
  Calls Tryz.prog 196 #[.int .i64 m,v] w (Zw4 w (castP (C0_ m (compF C)))):=by
 have Hr:=hid L;have Hc:=hid (Zs2 m v C w L J K h3 h4);have y1:(m:Int)≤64:=q40_;have y0:1≤(m:Int):=q40_;obtain ⟨A,c,rfl,_⟩:=L;clear h4 h3
 go_enter Tryz.func196,Tryz.ntmps196
 go_wp2_with fail
 refine Hc.out.mono ?_;rintro e w1 ⟨g,rfl,xf,hg,V⟩;generalize compF C=f at *
 have R:=hid xf;clear Hc xf Hr;have xc:g<w1.heap.size:=World.rowIs.lt R.out;obtain ⟨d,hmb⟩:∃ d,d=w1.heap.size:=⟨_,rfl⟩;have x3:Hid ((w1.alloc (.cells #[] 23)).ownsRow d 23 1 (.slice (some ⟨d,0,none⟩) 0 0) 0 []):=by
  show World.ownsRow _ _ _ _ _ _ _;rw [hmb];exact World.ownsRow_made w1 #[] 0 (Nat.le_refl _) y41_ rfl
 have x2:Hid (Below d w1 (w1.alloc (.cells #[] 23))):=y29_;have x7:Hid (d≤(w1.alloc (.cells #[] 23)).heap.size):=by
  show _≤_;rw [hmb];simp
 have Hmbw:Hid (w.heap.size≤d):=by
  show _≤_;rw [hmb];exact V.size
 have xd:g<d:=by rw [hmb];exact xc
 have Hb1:=hid V;clear V xc;go_wp2;rw [← hmb];clear hmb
 go_loopw [8,9] (fun vo vr wr=>∃ (r:Nat) (vs:List Value),vr=.int .i64 r∧r≤m∧wr.ownsRow d 23 1 vo vs.length vs∧Fam wr d vs (castP (D4_ m r f))∧Below d w1 wr∧d≤wr.heap.size) (fun _ vr _=>m - (intOf vr).toNat)
 case atStart=>exact ⟨0,[],rfl,Nat.zero_le _,x3.out,Ya5 _ _,x2.out,x7.out⟩
 case round =>
  obtain ⟨r,vs,rfl,L,X,xb,x9,M⟩:=hrel;clear x3 x2 x7;obtain ⟨vA,vc,rfl⟩:=A7_ X;have Hown:=hid X;have Hfam:=hid xb;have Hbr:=hid x9;clear X xb x9;have y4:vs.length≤64:=by
   rw [Hfam.out.1,B5_];have:=Zg8 m r f;omega
  by_cases xw:r<m
  ·have hc:wr.cell? ⟨g,r,none⟩=some (.int .i64 (f r:Int)):=(Hbr.out.cell (p:=⟨g,r,none⟩) xd).trans (R.out.cell xw)
   obtain ⟨x,x0⟩:∃ x,x=f r:=⟨_,rfl⟩;rw [← x0] at hc;have Hxe:=hid x0;clear x0;have y3:(r:Int)<m:=q40_;by_cases G:x=r
   ·have Hroot:=hid G
    have xu:((x:Int) != (r:Int))=false:=by simp [G]
    clear G;obtain ⟨w0,rfl⟩:∃ w0,w0=wr:=⟨_,rfl⟩;have x4:Hid ((w0.alloc (.cells #[] 3)).ownsRow w0.heap.size 3 1 (.slice (some ⟨w0.heap.size,0,none⟩) 0 0) 0 []):=World.ownsRow_made w0 #[] 0 (Nat.le_refl _) y41_ rfl;have x1:Hid (Below w0.heap.size w0 (w0.alloc (.cells #[] 3))):=(Below.refl _ w0).alloc (Nat.le_refl _) _;have x6:Hid (w0.heap.size≤(w0.alloc (.cells #[] 3)).heap.size):=by
     show _≤_;simp
    go_wp2
    go_loopw [10,11] (fun vp vv wr=>∃ (k:Nat),vv=.int .i64 k∧k≤m∧wr.ownsRow w0.heap.size 3 1 vp (castL (X2_ k f r)).length (ints (castL (X2_ k f r)))∧Below w0.heap.size w0 wr∧w0.heap.size≤wr.heap.size) (fun _ vv _=>m - (intOf vv).toNat)
    case atStart=>exact ⟨0,rfl,Nat.zero_le _,x4.out,x1.out,x6.out⟩
    case round =>
     obtain ⟨k,rfl,hk,Y,x8,Z⟩:=hrel;clear x4 x1 x6;obtain ⟨j,o,rfl⟩:=A7_ Y;have E:=hid Y;have B:=hid x8;clear Y x8;have xx:(castL (X2_ k f r)).length≤64:=by
      rw [Zx9];have:=T7_ k f r;omega
     by_cases xv:k<m
     ·have y2:(k:Int)<m:=by omega
      have xr:wr.cell? ⟨g,k,none⟩=some (.int .i64 (f k:Int)):=(B.out.cell (p:=⟨g,k,none⟩) (by show g<_;omega)).trans ((Hbr.out.cell (p:=⟨g,k,none⟩) xd).trans (R.out.cell xv));have F:=hid (R6_ k f r);generalize f k=y at xr F;by_cases I:y=r
      ·have xy:((y:Int)==(r:Int))=true:=by simp [I]
       have S:Hid (castL (X2_ (k+1) f r)=castL (X2_ k f r) ++ [(k:Int)]):=by
        show _=_;rw [F.out,if_pos I,Zh5]
       clear I F;generalize castL (X2_ k f r)=ps at *
       obtain ⟨z,O⟩:∃ z,z=ints ps:=⟨_,rfl⟩;have N:z.length=ps.length:=by rw [O,Y6_]
       have xo:=hid O;have x5:Hid (wr.ownsRow w0.heap.size 3 1 (.slice j ps.length o) z.length z):=by
        show World.ownsRow _ _ _ _ _ _ _;rw [N,O];exact E.out
       have xn:=hid N;have y5:z.length≤64:=by rw [N];exact xx
       clear O N;have u:=(Blk.new wr 3 #[.int .i64 (k:Int)]).cell 0;simp only [List.getElem?_toArray,List.getElem?_cons_zero] at u;have Q:=hid u;clear u;have H:(wr.alloc (.cells #[.int .i64 (k:Int)] 3)).heap.size=wr.heap.size+1:=z40_;have Hsz3:=hid H;clear H
       go_wp2_with (at_builtin;refine X6_ rfl _ _ 23 3 (.int .i64 0) 8 rfl Tryz.underlying23 info3 rfl w0.heap.size _ (.int .i64 (k:Int)) z rfl (x5.out.alloc _) wr.heap.size rfl Q.out rfl q40_ q40_ x46_ ?_)
       intro u5 D xe s _;have xl:Hid (D.ownsRow w0.heap.size 3 1 u5 (castL (X2_ (k+1) f r)).length (ints (castL (X2_ (k+1) f r)))):=by
        show World.ownsRow _ _ _ _ _ _ _;rw [S.out,V6_,← xo.out,List.length_append,← xn.out];exact xe
       have P:=hid ((B.out.alloc Z (.cells #[.int .i64 (k:Int)] 3)).grown s x46_ (fun i W=>(x5.out.lt i W).1));have U:Hid (w0.heap.size≤D.heap.size):=Nat.le_trans x46_ s.size;clear xe s;go_wp2
       go_roundw
       case rel=>exact ⟨k+1,x41_,q40_,xl.out,P.out,U.out⟩
       exact mz_
      ·have xy:((y:Int)==(r:Int))=false:=by rw [beq_eq_false_iff_ne];omega
       have S:Hid (X2_ (k+1) f r=X2_ k f r):=by
        show _=_;rw [F.out,if_neg I,List.append_nil]
       clear I F;go_wp2
       go_roundw
       case rel=>exact ⟨k+1,x41_,q40_,by rw [S.out];exact E.out,B.out,Z⟩
       exact mz_
     ·obtain rfl:m=k:=by omega
      have T:=hid (Hown.out.kept (Z7_ B.out none) (by
       rcases (Value.slice vA vs.length vc).ownBlock with _ | q
       ·exact .inl rfl
       ·exact .inr z40_))
      have xj:=hid (Hfam.out.new (Z7_ B.out none));have u:=(Blk.new wr 23 #[.slice j (castL (X2_ m f r)).length o]).cell 0;simp only [List.getElem?_toArray,List.getElem?_cons_zero] at u;have Q:=hid u;clear u;have H:(wr.alloc (.cells #[.slice j (castL (X2_ m f r)).length o] 23)).heap.size=wr.heap.size+1:=z40_;have Hsz3:=hid H;clear H
      go_wp2_with (at_builtin;refine X6_ rfl _ _ 35 23 (.slice none 0 0) 24 rfl Tryz.underlying35 Zw3 rfl d _ (.slice j (castL (X2_ m f r)).length o) vs rfl (T.out.alloc _) wr.heap.size rfl Q.out rfl q40_ q40_ x46_ ?_)
      intro xz D xg s _;have xa:Below d w1 wr:=Hbr.out.trans (B.out.mono M);have xi:d≤wr.heap.size:=Nat.le_trans M Z;have xm:Hid (D.ownsRow d 23 1 xz (vs ++ [Value.slice j (castL (X2_ m f r)).length o]).length (vs ++ [Value.slice j (castL (X2_ m f r)).length o])):=by
       show World.ownsRow _ _ _ _ _ _ _;rw [List.length_append];exact xg
      have xh:wr.ownsRow d 3 1 (.slice j (castL (X2_ m f r)).length o) (castL (X2_ m f r)).length (ints (castL (X2_ m f r))):=⟨E.out.1,by
       rcases E.out.2 with h | ⟨g',xp,xq,J,K,h3⟩
       ·exact .inl h
       ·exact .inr ⟨g',xp,xq,J,Nat.le_trans M K,h3⟩⟩
      have xk:Hid (Fam D d (vs ++ [Value.slice j (castL (X2_ m f r)).length o]) (castP (D4_ m (r+1) f))):=by
       show Fam _ _ _ _;rw [Yg8 j50_];have xt:castP (D4_ m r f ++ [X2_ m f r])=castP (D4_ m r f) ++ [castL (X2_ m f r)]:=by simp [castP]
       rw [xt];refine Fam.outer (w:=wr.alloc (.cells #[.slice j (castL (X2_ m f r)).length o] 23)) ?_ (T.out.alloc _) s;refine Fam.new (w:=wr) ?_ (World.grownBy_alloc _ _ none);refine xj.out.push xh ?_;intro v hv;rcases hb:v.ownBlock with _ | q
       ·exact .inl rfl
       ·right
        have J:=Hfam.out.lt hv hb;intro he;have K:=(E.out.lt q he.symm).1;omega
      have P:=hid ((xa.alloc xi (.cells #[.slice j (castL (X2_ m f r)).length o] 23)).grown s x46_ (fun i W=>(T.out.lt i W).1));have U:Hid (d≤D.heap.size):=Nat.le_trans x46_ s.size;clear xg s xa xi xh;go_wp2
      go_roundw
      case rel=>exact ⟨r+1,_,x41_,q40_,xm.out,xk.out,P.out,U.out⟩
      exact mz_
   ·have Hroot:=hid G
    have xu:((x:Int) != (r:Int))=true:=by rw [bne_iff_ne];omega
    clear G;go_wp2
    go_roundw
    case rel=>exact ⟨r+1,vs,x41_,q40_,Hown.out,by rw [Xx1 j50_];exact Hfam.out,Hbr.out,M⟩
    exact mz_
  ·have hke:r=m:=by omega
   exact z18_
open Go.RowKit
theorem Yq0 (m:Nat) (v:Value) (d:List (Nat × Nat)) (w:World) (h:Edges w w.heap.size v (castE d)) (p:1≤m) (q:m≤64) (h3:d.length≤4096) (g:Lies m d) :
  Calls Tryz.prog 167 #[.int .i64 m,v] w (Vb3 w (rankN m d)):=by
 have o:=hid (Zs3 m v d w h p q h3 g);have y:(m:Int)≤64:=q40_;have x:1≤(m:Int):=q40_;obtain ⟨A,c,rfl,_⟩:=h;clear g h3
 go_enter Tryz.func167,Tryz.ntmps167
 go_wp2_with fail
 refine o.out.mono ?_;rintro e D ⟨C,rfl,s,r⟩;obtain ⟨u,c1,rfl,_⟩:=s;rw [B5_,Q3_];have z:=A3_ (rootB (compF d)) m;have j:Hid ((m:Int) - (cnt (rootB (compF d)) m:Int)=rankN m d):=rfl;generalize cnt (rootB (compF d)) m=k at *
 have B:(k:Int)≤m:=q40_;go_wp2;go_ret;exact ⟨by rw [← j.out];rfl,r⟩
theorem Zg9 (m:Nat) (v:Value) (d:List (Nat × Nat)) (w:World) (h:Edges w w.heap.size v (castE d)) (p:1≤m) (q:m≤64) (h3:d.length≤4096) (g:Lies m d) (b:Bool) (hb:(rankN m d==(d.length:Int))=b) :
  Calls Tryz.prog 138 #[.int .i64 m,v] w (Says w b):=by
 have o:=hid (Yq0 m v d w h p q h3 g);have k:=hid hb;obtain ⟨A,c,j,_⟩:=h;rw [V2_] at j;subst j;have u:(d.length:Int)≤4096:=q40_;clear g h3 hb
 go_enter Tryz.func138,Tryz.ntmps138
 go_wp2_with fail
 refine o.out.mono ?_;rintro e x ⟨rfl,s⟩;generalize rankN m d=r at *
 go_wp2;go_ret;exact ⟨by rw [← k.out];rfl,s⟩
end Go.Proofs.YtheeajnkiniopaaGreatDoor.Wp
