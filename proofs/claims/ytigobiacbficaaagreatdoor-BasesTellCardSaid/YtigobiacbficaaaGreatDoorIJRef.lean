/- The document's answers on graphs (is that one, its components, its parts, its rank, is it a forest), walked. -/
import Derived.Test.YtigobiacbficaaaGreatDoorZJ
import Derived.Test.YtigobiacbficaaaGreatDoorX0A
import Derived.Test.YtigobiacbficaaaGreatDoorX0B
set_option maxHeartbeats 8000000
set_option maxRecDepth 100000
open Go.Lib (hid)
namespace Go.Proofs.YtigobiacbficaaaGreatDoor.Wp
private theorem k18_ {P:Prop} (h:P:=by
 have Hr2:=hid (Hfam.out.rows Hown.out)
 subst hke
 go_wp2
 go_ret2
 refine ⟨_,rfl,Hr2.out,Hb1.out.trans (Hbr.out.mono Hmbw.out)⟩):P:=h
private theorem z29_ {P:Prop} (h:P:=by
 go_wp2
 go_ret2
 exact ⟨g,rfl,Hfin.out,Hgs.out,Hbr.out⟩):P:=h
open Go.RowKit
theorem Ve6 {n:Int} {es:List (Int × Int)} {k:Nat} (c:k=es.length) (h:Zk7 n es k):isG n es=sizeB n es:=by
 unfold isG;have:es.all (okE n)=true:=by
  rw [List.all_eq_true];exact j24_
 rw [this,Bool.and_true]
theorem Yc4 (n:Int) (v:Value) (es:List (Int × Int)) (w:World) (G:Edges w w.heap.size v es) (hl:es.length≤1048576) :
  Calls Tryz.prog 197 #[.int .i64 n,v] w (Says w (isG n es)):=by
 obtain ⟨A,c,rfl,_,q⟩:=G;have p:=hid q;clear q;have e:=hid (fun k=>@isG_bad n es k);have O:(es.length:Int)≤1048576:=y40_
 go_enter Tryz.func197,Tryz.ntmps197
 go_wp2
 go_loopw [5] (fun o wr=>∃ k:Nat,o=.int .i64 k∧k≤es.length∧Below w.heap.size w wr∧Zk7 n es k) (fun o _=>es.length - (intOf o).toNat)
 case atStart=>exact ⟨0,rfl,Nat.zero_le _,Below.refl _ _,fun j F=>absurd F y40_⟩
 case round =>
  obtain ⟨k,rfl,N,z,u⟩:=hrel;have Hwr:=hid z;clear z;have g:=hid u;clear u;by_cases s:k<es.length
  ·obtain ⟨ad,D,hab,d,h2⟩:=p.out k s
   subst D;have H:wr.cell? (ad.add (k * 2))=some (.int .i64 (es.getD k (0,0)).1):=((Hwr.out).cell x42_).trans d;have I:wr.cell? ⟨(ad.add (k * 2)).block,(ad.add (k * 2)).off+1,none⟩=some (.int .i64 (es.getD k (0,0)).2):=((Hwr.out).cell j48_).trans h2;have B:=hid (e.out k s);have C:=hid (Zd1 (n:=n) (es:=es) (k:=k) g.out);clear d h2 e p;have P:(k:Int)<(es.length:Int):=y40_;have He:Hid (okE n (es.getD k (0,0))=decide (0≤(es.getD k (0,0)).1∧(es.getD k (0,0)).1<n∧0≤(es.getD k (0,0)).2∧(es.getD k (0,0)).2<n)):=rfl;generalize (es.getD k (0,0)).1=x at *
   generalize (es.getD k (0,0)).2=y at *
   by_cases hb:0≤x∧x<n∧0≤y∧y<n
   ·obtain ⟨hx1,hx2,hy1,hy2⟩:=hb
    have m:Hid (okE n (es.getD k (0,0))=true):=y28_;go_wp2
    go_quiet (fail)
    go_wp2
    go_roundw
    case rel=>exact ⟨k+1,j41_,y40_,Y2_ (Hwr.out) _,C.out m.out⟩
    exact mz_
   ·have m:Hid (okE n (es.getD k (0,0))=false):=by
     show okE n (es.getD k (0,0))=false;rw [He.out,decide_eq_false_iff_not];exact hb
    have E:x<0∨(0≤x∧y<0)∨(0≤x∧0≤y∧n≤x)∨(0≤x∧0≤y∧x<n∧n≤y):=y40_;clear hb;rcases E with d | ⟨d,h2⟩ | ⟨d,h2,h3⟩ | ⟨d,h2,h3,M⟩
    all_goals
     go_wp2
     go_quiet (fail)
     go_wp2;go_ret;exact X7_ (B.out m.out) rfl (Y2_ (Hwr.out) _)
  ·have r:k=es.length:=by omega
   have Hsz:=hid (Ve6 r g.out);subst r;clear e g;by_cases d:1≤n
   ·by_cases h2:n≤64
    ·by_cases h3:(es.length:Int)≤4096
     ·have Hb:Hid (sizeB n es=true):=by
       show sizeB n es=true;unfold sizeB;exact decide_eq_true ⟨d,h2,y40_⟩
      exact z14_
     ·have Hb:Hid (sizeB n es=false):=by
       show sizeB n es=false;unfold sizeB;exact decide_eq_false (fun h=>h3 y40_)
      have L:4096<(es.length:Int):=y40_;exact z14_
    ·have Hb:Hid (sizeB n es=false):=by
      show sizeB n es=false;unfold sizeB;exact decide_eq_false (fun h=>h2 y40_)
     have K:64<n:=y40_;exact z14_
   ·have Hb:Hid (sizeB n es=false):=by
     show sizeB n es=false;unfold sizeB;exact decide_eq_false (fun h=>d y40_)
    have J:n<1:=y40_;exact z14_
theorem Yl9 (n:Int) (v:Value) (es:List (Int × Int)) (w:World) (c:Edges w w.heap.size v es) (hl:es.length≤1048576) {b:Bool} (hb:isG n es=b) :
  Calls Tryz.prog 197 #[.int .i64 n,v] w (Says w b):=by
 subst hb;exact Yc4 n v es w c hl
open Go.RowKit
def Q0_ (ns:List (Nat × Nat)) (f:Nat→Nat) (i:Nat):Nat→Nat:=(ns.take i).foldl stepF f
theorem Zi9 {c:List (Nat × Nat)} {f:Nat→Nat} {i:Nat} (d:i<c.length):Q0_ c f (i+1)=stepF (Q0_ c f i) (c.getD i (0,0)):=by
 unfold Q0_;rw [List.take_succ_eq_append_getElem d,List.foldl_append];simp [List.getD,d]
theorem Zu7 (m:Nat) (v:Value) (d:List (Nat × Nat)) (w:World) (hr:Edges w w.heap.size v (castE d)) (h1:1≤m) (h2:m≤64) (h3:d.length≤4096) (F:Lies m d) :
  Calls Tryz.prog 187 #[.int .i64 m,v] w (Zd2 w m (compF d)):=by
 have Hr:=hid hr;have Hg:=hid (Vh1 h1 h2 h3 F);have Q:=hid F;have hl:(castE d).length≤1048576:=by rw [V2_];omega
 obtain ⟨A,c,hv,_,H⟩:=hr;rw [V2_] at hv H;subst hv;have O:=hid H;clear H F;have xa:(m:Int)≤64:=y40_;have x9:1≤(m:Int):=y40_;have xb:(d.length:Int)≤4096:=y40_;have x7:=fun W=>run_make_row' 28 3 (.int .i64 0) 8 Tryz.underlying28 info3 rfl .i64 .i64 m y40_ y40_ W
 go_enter Tryz.func187,Tryz.ntmps187
 go_wp2_with fail
 refine (Yl9 m _ (castE d) w Hr.out hl Hg.out).mono ?_;rintro e w1 ⟨rfl,C⟩;obtain ⟨g,hg⟩:∃ g,g=w1.heap.size:=⟨_,rfl⟩;have Hgs:Hid (w.heap.size≤g):=by
  show _≤_;rw [hg];exact C.size
 have x2:Hid (Labels (w1.alloc (.cells (madeCells #[.int .i64 0] m) 3)) g m (fun j=>if j<0 then j else 0)):=j23_;have x0:Hid (Below w.heap.size w (w1.alloc (.cells (madeCells #[.int .i64 0] m) 3))):=C.alloc C.size _;clear C;go_wp2;rw [← hg];clear hg x7
 go_loopw [7] (fun s wr=>∃ k:Nat,s=.int .i64 k∧k≤m∧Labels wr g m (fun j=>if j<k then j else 0)∧Below w.heap.size w wr) (fun s _=>m - (intOf s).toNat)
 case atStart=>exact ⟨0,rfl,Nat.zero_le _,x2.out,x0.out⟩
 case round =>
  obtain ⟨k,rfl,V,r,q⟩:=hrel;have Hlab:=hid r;have Hbr:=hid q;clear r q;by_cases hlt:k<m
  ·exact k4_
  ·have J:k=m:=by omega
   have P:=hid (Hlab.out.congr (f':=J5_ d 0) (fun i hi=>by simp [J5_,show i<k by omega]));clear Hlab;go_wp2
   go_loopw [8] (fun s wr=>∃ k:Nat,s=.int .i64 k∧k≤m∧Labels wr g m (J5_ d k)∧Below w.heap.size w wr) (fun s _=>m - (intOf s).toNat)
   case atStart=>exact ⟨0,rfl,Nat.zero_le _,P.out,Hbr.out⟩
   case round =>
    clear P Hbr J hlt V;obtain ⟨k,rfl,V,r,q⟩:=hrel;have Hlab:=hid r;have Hbr:=hid q;clear r q;by_cases hlt:k<m
    ·go_wp2
     go_loopw [9] (fun N wr=>∃ i:Nat,N=.int .i64 i∧i≤d.length∧Labels wr g m (Q0_ d (J5_ d k) i)∧Below w.heap.size w wr) (fun N _=>d.length - (intOf N).toNat)
     case atStart=>exact ⟨0,rfl,Nat.zero_le _,Hlab.out,Hbr.out⟩
     case round =>
      clear Hlab Hbr;obtain ⟨i,rfl,hi,r,q⟩:=hrel;have Hlab:=hid r;have Hbr:=hid q;clear r q;by_cases I:i<d.length
      ·obtain ⟨B,hA,hab,q1,q2⟩:=O.out i I
       subst hA;rw [I8_] at q1 q2;simp only at q1 q2;have S:=(Hbr.out.cell (p:=B.add (i * 2)) x42_).trans q1;have T:=(Hbr.out.cell (p:=⟨(B.add (i * 2)).block,(B.add (i * 2)).off+1,none⟩) (by show (B.add (i * 2)).block<_;rw [Z2_];exact hab)).trans q2;clear q1 q2 O;have K:=Yx9 Q.out I;have R:=hid (Zi9 (f:=J5_ d k) I);obtain ⟨⟨x,y⟩,z⟩:∃ e,e=d.getD i (0,0):=⟨_,rfl⟩;rw [← z] at S T K R;clear z;simp only at S T K;obtain ⟨hx,hy⟩:=K;have c1:=Hlab.out.cell hx;have c2:=Hlab.out.cell hy;have f1:=Hlab.out.frozen x;have f2:=Hlab.out.frozen y;have xd:(x:Int)<m:=y40_;have xe:(y:Int)<m:=y40_;have xc:(i:Int)<(d.length:Int):=y40_;obtain ⟨D,L⟩:∃ p,p=Q0_ d (J5_ d k) i x:=⟨_,rfl⟩;obtain ⟨E,M⟩:∃ p,p=Q0_ d (J5_ d k) i y:=⟨_,rfl⟩;rw [← L] at c1;rw [← M] at c2;obtain ⟨o,Z⟩:∃ o,o=min D E:=⟨_,rfl⟩;have x3:Hid (Q0_ d (J5_ d k) (i+1)=fun j=>if j=y then o else if j=x then o else Q0_ d (J5_ d k) i j):=by
        show _=_;rw [R.out,Z,L,M];rfl
       clear L M;have x4:(o=D∧D≤E)∨(o=E∧E<D):=y40_;clear Z;have x8:=hid (fun W (h:Labels W g m (Q0_ d (J5_ d k) i))=>(h.set x o).set y o);go_wp2
       go_quiet (fail)
       go_wp2;rcases x4 with ⟨rfl,x6⟩ | ⟨rfl,x6⟩
       all_goals
        go_quiet (fail)
        generalize G:wr.drewN _=W;have u:Labels W g m (Q0_ d (J5_ d k) i):=by rw [← G];exact Hlab.out
        have U:Below w.heap.size w W:=by rw [← G];exact Y2_ Hbr.out _
        clear G;have d1:=u.cell hx;have e1:=u.frozen x;have X:=u.set x o;have d2:=u.cell hy;have e2:=u.frozen y;have Y:=X.set y o;have Hl3:=hid (Y.congr (f':=Q0_ d (J5_ d k) (i+1)) (fun j _=>by rw [x3.out]));have Hbw:=hid U;clear u X Y U;by_cases z:x=y
        ·subst z
         exact y13_
        ·have xf:¬ y=x:=fun h=>z h.symm
         exact y13_
      ·have x5:i=d.length:=by omega
       have x1:=hid (Hlab.out.congr (f':=J5_ d (k+1)) (fun j _=>by unfold Q0_;rw [x5,List.take_length];rfl));go_wp2
       go_roundw
       case rel=>exact ⟨k+1,j41_,y40_,x1.out,Hbr.out⟩
       exact mz_
    ·have J:k=m:=by omega
     have Hfin:=hid (Hlab.out.congr (f':=compF d) (fun j hj=>by rw [J];exact Yf7 Q.out j hj));exact z29_
open Go.RowKit
theorem Fam.push {w:World} {B:Nat} {vs:List Value} {pp:List (List Int)} (h:Fam w B vs pp) {u:Value} {q:List Int} (r:w.ownsRow B 3 1 u q.length (ints q)) (hd:∀ v∈vs,v.ownBlock=none∨v.ownBlock≠u.ownBlock):Fam w B (vs ++ [u]) (pp ++ [q]):=by
 have f:∀ (i:Nat) (v:Value),¬ i<vs.length→(vs ++ [u])[i]?=some v→i=vs.length∧v=u:=by
  intro i v hi hv;have m:i=vs.length:=j21_;subst m;rw [List.getElem?_append_right (Nat.le_refl _)] at hv;simp at hv;exact ⟨rfl,hv.symm⟩
 refine ⟨by simp [h.1],fun i v p hv hp=>?_,fun i j v z hv c o=>?_⟩
 ·by_cases hi:i<vs.length
  ·exact j20_
  ·obtain ⟨rfl,rfl⟩:=f i v hi hv
   rw [h.1,List.getElem?_append_right (Nat.le_refl _)] at hp;simp at hp;subst hp;exact r
 ·by_cases hi:i<vs.length
  ·rw [List.getElem?_append_left hi] at hv
   by_cases d:j<vs.length
   ·rw [List.getElem?_append_left d] at c
    exact h.2.2 i j v z hv c o
   ·obtain ⟨rfl,rfl⟩:=f j z d c
    exact hd v (List.mem_of_getElem? hv)
  ·obtain ⟨rfl,rfl⟩:=f i v hi hv
   by_cases d:j<vs.length
   ·rw [List.getElem?_append_left d] at c
    rcases hd z (List.mem_of_getElem? c) with g | g
    ·rcases hb:v.ownBlock with _ | k
     ·exact .inl rfl
     ·right
      rw [g];simp
    ·exact .inr fun e=>g e.symm
   ·have:=f j z d c
    omega
theorem Fam.lt {w:World} {B:Nat} {vs:List Value} {pp:List (List Int)} (h:Fam w B vs pp) {v:Value} (f:v∈vs) {k:Nat} (e:v.ownBlock=some k):k<w.heap.size:=by
 obtain ⟨i,c,rfl⟩:=List.mem_iff_getElem.1 f;have d:i<pp.length:=by rw [← h.1];exact c
 exact ((h.2.1 i _ _ (List.getElem?_eq_getElem c) (List.getElem?_eq_getElem d)).lt k e).2
theorem Fam.outer {w w':World} {B:Nat} {vs:List Value} {pp:List (List Int)} (h:Fam w B vs pp) {d:Value} {b n:Nat} {k:List Value} (g:w.ownsRow b 28 1 d n k) (e:w.grownBy w' d.ownBlock):Fam w' B vs pp:=by
 refine h.kept e ?_;intro v j;obtain ⟨i,c,rfl⟩:=List.mem_iff_getElem.1 j;have f:i<pp.length:=by rw [← h.1];exact c
 exact Zv8 (h.2.1 i _ _ (List.getElem?_eq_getElem c) (List.getElem?_eq_getElem f)) g q41_
def D8_ (m r:Nat) (f:Nat→Nat):List (List Nat):=(C7_ r f).map (X3_ m f)
theorem Ym0 {m r:Nat} {f:Nat→Nat} (h:f r=r):D8_ m (r+1) f=D8_ m r f ++ [X3_ m f r]:=by
 unfold D8_;rw [L3_,if_pos h,List.map_append];rfl
theorem Xa5 {m r:Nat} {f:Nat→Nat} (h:f r≠r):D8_ m (r+1) f=D8_ m r f:=by
 unfold D8_;rw [L3_,if_neg h,List.append_nil]
theorem Zk0 (m r:Nat) (f:Nat→Nat):(D8_ m r f).length≤r:=by
 have c:(D8_ m r f).length=cnt (rootB f) r:=by simp [D8_,C7_,cnt]
 rw [c];exact A8_ _ _
theorem Zu8 (m:Nat) (v:Value) (C:List (Nat × Nat)) (w:World) (K:Edges w w.heap.size v (castE C)) (J:1≤m) (h2:m≤64) (h3:C.length≤4096) (h4:Lies m C) :
  Calls Tryz.prog 167 #[.int .i64 m,v] w (Yv1 w (castP (B8_ m (compF C)))):=by
 have Hr:=hid K;have Hc:=hid (Zu7 m v C w K J h2 h3 h4);have y0:(m:Int)≤64:=y40_;have xz:1≤(m:Int):=y40_;obtain ⟨A,c,rfl,_⟩:=K;clear h4 h3
 go_enter Tryz.func167,Tryz.ntmps167
 go_wp2_with fail
 refine Hc.out.mono ?_;rintro e w1 ⟨g,rfl,xe,hg,U⟩;generalize compF C=f at *
 have Q:=hid xe;clear Hc xe Hr;have xb:g<w1.heap.size:=World.rowIs.lt Q.out;obtain ⟨d,hmb⟩:∃ d,d=w1.heap.size:=⟨_,rfl⟩;have x2:Hid ((w1.alloc (.cells #[] 28)).ownsRow d 28 1 (.slice (some ⟨d,0,none⟩) 0 0) 0 []):=by
  show World.ownsRow _ _ _ _ _ _ _;rw [hmb];exact World.ownsRow_made w1 #[] 0 (Nat.le_refl _) z41_ rfl
 have x1:Hid (Below d w1 (w1.alloc (.cells #[] 28))):=j29_;have x6:Hid (d≤(w1.alloc (.cells #[] 28)).heap.size):=by
  show _≤_;rw [hmb];simp
 have Hmbw:Hid (w.heap.size≤d):=by
  show _≤_;rw [hmb];exact U.size
 have xc:g<d:=by rw [hmb];exact xb
 have Hb1:=hid U;clear U xb;go_wp2;rw [← hmb];clear hmb
 go_loopw [8,9] (fun vo vr wr=>∃ (r:Nat) (vs:List Value),vr=.int .i64 r∧r≤m∧wr.ownsRow d 28 1 vo vs.length vs∧Fam wr d vs (castP (D8_ m r f))∧Below d w1 wr∧d≤wr.heap.size) (fun _ vr _=>m - (intOf vr).toNat)
 case atStart=>exact ⟨0,[],rfl,Nat.zero_le _,x2.out,Ye4 _ _,x1.out,x6.out⟩
 case round =>
  obtain ⟨r,vs,rfl,K,W,xa,x8,L⟩:=hrel;clear x2 x1 x6;obtain ⟨vA,vc,rfl⟩:=A6_ W;have Hown:=hid W;have Hfam:=hid xa;have Hbr:=hid x8;clear W xa x8;have y3:vs.length≤64:=by
   rw [Hfam.out.1,B4_];have:=Zk0 m r f;omega
  by_cases xv:r<m
  ·have hc:wr.cell? ⟨g,r,none⟩=some (.int .i64 (f r:Int)):=(Hbr.out.cell (p:=⟨g,r,none⟩) xc).trans (Q.out.cell xv)
   obtain ⟨x,Z⟩:∃ x,x=f r:=⟨_,rfl⟩;rw [← Z] at hc;have Hxe:=hid Z;clear Z;have y2:(r:Int)<m:=y40_;by_cases G:x=r
   ·have Hroot:=hid G
    have xt:((x:Int) != (r:Int))=false:=by simp [G]
    clear G;obtain ⟨w0,rfl⟩:∃ w0,w0=wr:=⟨_,rfl⟩;have x3:Hid ((w0.alloc (.cells #[] 3)).ownsRow w0.heap.size 3 1 (.slice (some ⟨w0.heap.size,0,none⟩) 0 0) 0 []):=World.ownsRow_made w0 #[] 0 (Nat.le_refl _) z41_ rfl;have x0:Hid (Below w0.heap.size w0 (w0.alloc (.cells #[] 3))):=(Below.refl _ w0).alloc (Nat.le_refl _) _;have x5:Hid (w0.heap.size≤(w0.alloc (.cells #[] 3)).heap.size):=by
     show _≤_;simp
    go_wp2
    go_loopw [10,11] (fun vp vv wr=>∃ (k:Nat),vv=.int .i64 k∧k≤m∧wr.ownsRow w0.heap.size 3 1 vp (castL (X3_ k f r)).length (ints (castL (X3_ k f r)))∧Below w0.heap.size w0 wr∧w0.heap.size≤wr.heap.size) (fun _ vv _=>m - (intOf vv).toNat)
    case atStart=>exact ⟨0,rfl,Nat.zero_le _,x3.out,x0.out,x5.out⟩
    case round =>
     obtain ⟨k,rfl,hk,X,x7,Y⟩:=hrel;clear x3 x0 x5;obtain ⟨j,o,rfl⟩:=A6_ X;have E:=hid X;have B:=hid x7;clear X x7;have xw:(castL (X3_ k f r)).length≤64:=by
      rw [Zj3];have:=U2_ k f r;omega
     by_cases xu:k<m
     ·have y1:(k:Int)<m:=by omega
      have xq:wr.cell? ⟨g,k,none⟩=some (.int .i64 (f k:Int)):=(B.out.cell (p:=⟨g,k,none⟩) (by show g<_;omega)).trans ((Hbr.out.cell (p:=⟨g,k,none⟩) xc).trans (Q.out.cell xu));have F:=hid (S3_ k f r);generalize f k=y at xq F;by_cases I:y=r
      ·have xx:((y:Int)==(r:Int))=true:=by simp [I]
       have R:Hid (castL (X3_ (k+1) f r)=castL (X3_ k f r) ++ [(k:Int)]):=by
        show _=_;rw [F.out,if_pos I,Zk8]
       clear I F;generalize castL (X3_ k f r)=ps at *
       obtain ⟨z,N⟩:∃ z,z=ints ps:=⟨_,rfl⟩;have M:z.length=ps.length:=by rw [N,Y7_]
       have xn:=hid N;have x4:Hid (wr.ownsRow w0.heap.size 3 1 (.slice j ps.length o) z.length z):=by
        show World.ownsRow _ _ _ _ _ _ _;rw [M,N];exact E.out
       have xm:=hid M;have y4:z.length≤64:=by rw [M];exact xw
       clear N M;have u:=(Blk.new wr 3 #[.int .i64 (k:Int)]).cell 0;simp only [List.getElem?_toArray,List.getElem?_cons_zero] at u;have P:=hid u;clear u;have H:(wr.alloc (.cells #[.int .i64 (k:Int)] 3)).heap.size=wr.heap.size+1:=k40_;have Hsz3:=hid H;clear H
       go_wp2_with (at_builtin;refine X6_ rfl _ _ 28 3 (.int .i64 0) 8 rfl Tryz.underlying28 info3 rfl w0.heap.size _ (.int .i64 (k:Int)) z rfl (x4.out.alloc _) wr.heap.size rfl P.out rfl y40_ y40_ x47_ ?_)
       intro u5 D xd s _;have xk:Hid (D.ownsRow w0.heap.size 3 1 u5 (castL (X3_ (k+1) f r)).length (ints (castL (X3_ (k+1) f r)))):=by
        show World.ownsRow _ _ _ _ _ _ _;rw [R.out,V6_,← xn.out,List.length_append,← xm.out];exact xd
       have O:=hid ((B.out.alloc Y (.cells #[.int .i64 (k:Int)] 3)).grown s x47_ (fun i V=>(x4.out.lt i V).1));have T:Hid (w0.heap.size≤D.heap.size):=Nat.le_trans x47_ s.size;clear xd s;go_wp2
       go_roundw
       case rel=>exact ⟨k+1,j41_,y40_,xk.out,O.out,T.out⟩
       exact mz_
      ·have xx:((y:Int)==(r:Int))=false:=by rw [beq_eq_false_iff_ne];omega
       have R:Hid (X3_ (k+1) f r=X3_ k f r):=by
        show _=_;rw [F.out,if_neg I,List.append_nil]
       clear I F;go_wp2
       go_roundw
       case rel=>exact ⟨k+1,j41_,y40_,by rw [R.out];exact E.out,B.out,Y⟩
       exact mz_
     ·obtain rfl:m=k:=by omega
      have S:=hid (Hown.out.kept (Z7_ B.out none) (by
       rcases (Value.slice vA vs.length vc).ownBlock with _ | q
       ·exact .inl rfl
       ·exact .inr k40_))
      have xi:=hid (Hfam.out.new (Z7_ B.out none));have u:=(Blk.new wr 28 #[.slice j (castL (X3_ m f r)).length o]).cell 0;simp only [List.getElem?_toArray,List.getElem?_cons_zero] at u;have P:=hid u;clear u;have H:(wr.alloc (.cells #[.slice j (castL (X3_ m f r)).length o] 28)).heap.size=wr.heap.size+1:=k40_;have Hsz3:=hid H;clear H
      go_wp2_with (at_builtin;refine X6_ rfl _ _ 22 28 (.slice none 0 0) 24 rfl Tryz.underlying22 Yv0 rfl d _ (.slice j (castL (X3_ m f r)).length o) vs rfl (S.out.alloc _) wr.heap.size rfl P.out rfl y40_ y40_ x47_ ?_)
      intro xy D xf s _;have x9:Below d w1 wr:=Hbr.out.trans (B.out.mono L);have xh:d≤wr.heap.size:=Nat.le_trans L Y;have xl:Hid (D.ownsRow d 28 1 xy (vs ++ [Value.slice j (castL (X3_ m f r)).length o]).length (vs ++ [Value.slice j (castL (X3_ m f r)).length o])):=by
       show World.ownsRow _ _ _ _ _ _ _;rw [List.length_append];exact xf
      have xg:wr.ownsRow d 3 1 (.slice j (castL (X3_ m f r)).length o) (castL (X3_ m f r)).length (ints (castL (X3_ m f r))):=⟨E.out.1,by
       rcases E.out.2 with h | ⟨g',xo,xp,J,h2,h3⟩
       ·exact .inl h
       ·exact .inr ⟨g',xo,xp,J,Nat.le_trans L h2,h3⟩⟩
      have xj:Hid (Fam D d (vs ++ [Value.slice j (castL (X3_ m f r)).length o]) (castP (D8_ m (r+1) f))):=by
       show Fam _ _ _ _;rw [Ym0 z51_];have xr:castP (D8_ m r f ++ [X3_ m f r])=castP (D8_ m r f) ++ [castL (X3_ m f r)]:=by simp [castP]
       rw [xr];refine Fam.outer (w:=wr.alloc (.cells #[.slice j (castL (X3_ m f r)).length o] 28)) ?_ (S.out.alloc _) s;refine Fam.new (w:=wr) ?_ (World.grownBy_alloc _ _ none);refine xi.out.push xg ?_;intro v hv;rcases hb:v.ownBlock with _ | q
       ·exact .inl rfl
       ·right
        have J:=Hfam.out.lt hv hb;intro he;have h2:=(E.out.lt q he.symm).1;omega
      have O:=hid ((x9.alloc xh (.cells #[.slice j (castL (X3_ m f r)).length o] 28)).grown s x47_ (fun i V=>(S.out.lt i V).1));have T:Hid (d≤D.heap.size):=Nat.le_trans x47_ s.size;clear xf s x9 xh xg;go_wp2
      go_roundw
      case rel=>exact ⟨r+1,_,j41_,y40_,xl.out,xj.out,O.out,T.out⟩
      exact mz_
   ·have Hroot:=hid G
    have xt:((x:Int) != (r:Int))=true:=by rw [bne_iff_ne];omega
    clear G;go_wp2
    go_roundw
    case rel=>exact ⟨r+1,vs,j41_,y40_,Hown.out,by rw [Xa5 z51_];exact Hfam.out,Hbr.out,L⟩
    exact mz_
  ·have hke:r=m:=by omega
   exact k18_
open Go.RowKit
theorem Yc5 (m:Nat) (v:Value) (d:List (Nat × Nat)) (w:World) (h:Edges w w.heap.size v (castE d)) (p:1≤m) (h2:m≤64) (h3:d.length≤4096) (g:Lies m d) :
  Calls Tryz.prog 143 #[.int .i64 m,v] w (Vh2 w (rankN m d)):=by
 have o:=hid (Zu8 m v d w h p h2 h3 g);have x:(m:Int)≤64:=y40_;have u:1≤(m:Int):=y40_;obtain ⟨A,c,rfl,_⟩:=h;clear g h3
 go_enter Tryz.func143,Tryz.ntmps143
 go_wp2_with fail
 refine o.out.mono ?_;rintro e C ⟨B,rfl,r,q⟩;obtain ⟨s,c1,rfl,_⟩:=r;rw [B4_,Q5_];have y:=A8_ (rootB (compF d)) m;have j:Hid ((m:Int) - (cnt (rootB (compF d)) m:Int)=rankN m d):=rfl;generalize cnt (rootB (compF d)) m=k at *
 have z:(k:Int)≤m:=y40_;go_wp2;go_ret;exact ⟨by rw [← j.out];rfl,q⟩
theorem Zk1 (m:Nat) (v:Value) (d:List (Nat × Nat)) (w:World) (h:Edges w w.heap.size v (castE d)) (p:1≤m) (h2:m≤64) (h3:d.length≤4096) (g:Lies m d) (b:Bool) (hb:(rankN m d==(d.length:Int))=b) :
  Calls Tryz.prog 114 #[.int .i64 m,v] w (Says w b):=by
 have o:=hid (Yc5 m v d w h p h2 h3 g);have k:=hid hb;obtain ⟨A,c,j,_⟩:=h;rw [V2_] at j;subst j;have s:(d.length:Int)≤4096:=y40_;clear g h3 hb
 go_enter Tryz.func114,Tryz.ntmps114
 go_wp2_with fail
 refine o.out.mono ?_;rintro e u ⟨rfl,q⟩;generalize rankN m d=r at *
 go_wp2;go_ret;exact ⟨by rw [← k.out];rfl,q⟩
end Go.Proofs.YtigobiacbficaaaGreatDoor.Wp
