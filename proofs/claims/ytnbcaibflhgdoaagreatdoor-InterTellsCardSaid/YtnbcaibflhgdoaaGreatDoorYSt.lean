/- The document's Stands and adds of layer 13, walked (written by gen_yst.py). -/
import Derived.Test.YtnbcaibflhgdoaaGreatDoorYStR
import Derived.Test.YtnbcaibflhgdoaaGreatDoorVIndep
import Derived.Test.YtnbcaibflhgdoaaGreatDoorZH
import Derived.Test.YtnbcaibflhgdoaaGreatDoorZI
import Derived.Test.YtnbcaibflhgdoaaGreatDoorQTD
import Derived.Test.YtnbcaibflhgdoaaGreatDoorVR13A
import Derived.Test.YtnbcaibflhgdoaaGreatDoorZX
import Derived.Test.YtnbcaibflhgdoaaGreatDoorX0A
import Derived.Test.YtnbcaibflhgdoaaGreatDoorX0B
set_option maxHeartbeats 16000000
set_option maxRecDepth 100000
open Go.Lib (hid)
namespace Go.Proofs.YtnbcaibflhgdoaaGreatDoor
open Go Go.RowKit
namespace Wp
theorem Zg7 (k:Nat):upTo (k+1)=upTo k ++ [(k:Int)]:=by
 unfold upTo;rw [List.range_succ,List.map_append];rfl
theorem Zz0 (m:Mat) (v P:Value) (s:List Int) (x y:Int) (w:World) (r:MatV w w.heap.size v m) (M:Sml m) (E:Row w w.heap.size P s) (y4:s.length≤1000):Calls Tryz.prog 56 #[v,P,.int .i64 x,.int .i64 y] w (Says w (C0_ m s x y)):=by
 have y3:=H6_ s [y];have V:=hid M;obtain ⟨lv,iv,xj,xh,xg⟩:=r.open;obtain ⟨k,cl,rfl,_⟩:=xh;obtain ⟨j,o,rfl,_⟩:=xg;obtain ⟨C,cs,xi,_⟩:=id E;subst xj xi;obtain ⟨e,hW0⟩:∃ e,e=w.alloc (.cells #[.int .i64 m.t,.int .i64 m.n,.int .i64 m.a,.int .i64 m.b,.slice k m.l.length cl,.slice j m.i.length o] 25):=⟨_,rfl⟩;have S:=hid hW0;have B:Below w.heap.size w e:=by rw [hW0];exact (Below.refl _ w).alloc (Nat.le_refl _) _
 have F:Hid (Blk e w.heap.size 25 #[.int .i64 m.t,.int .i64 m.n,.int .i64 m.a,.int .i64 m.b,.slice k m.l.length cl,.slice j m.i.length o]):=hid k47_;have T:=hid B;have R:=hid (r.up B);have D:=hid (E.up B);clear hW0 B r E M;have g:Hid (∀ W,Below e.drew.heap.size e.drew W→Below e.heap.size e W):=hid fun W d=>Z0_ (Below.refl _ e).drew (Nat.le_refl _) d;have L:((hasB s y && !hasB s x) && indT m (Z9_ (Z5_ s [y]) [x]))=C0_ m s x y:=by unfold C0_;rw [Bool.and_assoc]
 have Q:=hid L;clear L
 go_enter Tryz.func56,Tryz.ntmps56
 go_wp2;rw [← S.out];refine V9_ (ops:=ysO) (ysK ⟨w.heap.size,.int .i64 m.t,.int .i64 m.n,.int .i64 m.a,.int .i64 m.b,.slice k m.l.length cl,.slice j m.i.length o,.slice C s.length cs,s,x,y,hasB s y,hasB s x,indT m (Z9_ (Z5_ s [y]) [x])⟩) x41_ x41_ (Vu3 (x:=⟨w.heap.size,.int .i64 m.t,.int .i64 m.n,.int .i64 m.a,.int .i64 m.b,.slice k m.l.length cl,.slice j m.i.length o,.slice C s.length cs,s,x,y,hasB s y,hasB s x,indT m (Z9_ (Z5_ s [y]) [x])⟩) ⟨rfl,rfl,rfl,rfl,?hK1,?hP,?hQ,?hMi,?hU,?hI⟩) ?_
 case hK1=>exact fun W d=>by have h:=F.out.below (g.out W d) F.out.lt;exact ⟨h.cell 0,h.cell 1,h.cell 2,h.cell 3,h.cell 4,h.cell 5⟩
 case hP=>exact fun W d=>Zy6 _ s y W (D.out.up (g.out W d)) q41_
 case hQ=>exact fun W d=>Zy6 _ s x W (D.out.up (g.out W d)) q41_
 case hMi=>exact fun W d u q=>Q0_ _ u s [y] W (D.out.up (g.out W d)) q q41_ j41_
 case hU=>exact fun W d u q v r=>A4_ u v (Z5_ s [y]) [x] W q r q41_ j41_
 case hI=>exact fun W d u q=>R3_ m _ u _ W (R.out.up (g.out W d)) V.out q
 intro c W d O H J G;have U:=hid (Z0_ T.out (Nat.le_refl _) (g.out W d));obtain ⟨v9,h9⟩:∃ v,c.tmps.getD 9 undef=v:=⟨_,rfl⟩;obtain ⟨xk,X⟩:∃ v,c.tmps.getD 10 undef=v:=⟨_,rfl⟩;obtain ⟨xl,Y⟩:∃ v,c.tmps.getD 11 undef=v:=⟨_,rfl⟩;obtain ⟨xm,Z⟩:∃ v,c.tmps.getD 12 undef=v:=⟨_,rfl⟩;obtain ⟨xn,x0⟩:∃ v,c.tmps.getD 13 undef=v:=⟨_,rfl⟩;obtain ⟨xo,x1⟩:∃ v,c.tmps.getD 14 undef=v:=⟨_,rfl⟩;obtain ⟨xp,x2⟩:∃ v,c.tmps.getD 15 undef=v:=⟨_,rfl⟩;obtain ⟨xq,x3⟩:∃ v,c.tmps.getD 16 undef=v:=⟨_,rfl⟩;obtain ⟨xr,x4⟩:∃ v,c.tmps.getD 17 undef=v:=⟨_,rfl⟩;obtain ⟨xs,x5⟩:∃ v,c.tmps.getD 18 undef=v:=⟨_,rfl⟩;obtain ⟨xt,x6⟩:∃ v,c.tmps.getD 19 undef=v:=⟨_,rfl⟩;obtain ⟨xu,x7⟩:∃ v,c.tmps.getD 20 undef=v:=⟨_,rfl⟩;obtain ⟨xv,x8⟩:∃ v,c.tmps.getD 21 undef=v:=⟨_,rfl⟩;obtain ⟨xw,x9⟩:∃ v,c.tmps.getD 22 undef=v:=⟨_,rfl⟩;obtain ⟨xx,xa⟩:∃ v,c.tmps.getD 23 undef=v:=⟨_,rfl⟩;obtain ⟨xy,xb⟩:∃ v,c.tmps.getD 24 undef=v:=⟨_,rfl⟩;obtain ⟨xz,xc⟩:∃ v,c.tmps.getD 25 undef=v:=⟨_,rfl⟩;obtain ⟨y0,xd⟩:∃ v,c.tmps.getD 26 undef=v:=⟨_,rfl⟩;obtain ⟨y1,xe⟩:∃ v,c.tmps.getD 27 undef=v:=⟨_,rfl⟩;obtain ⟨y2,xf⟩:∃ v,c.tmps.getD 28 undef=v:=⟨_,rfl⟩;have z:=G 20 8 (by rw [show ysO.size=21 by kernel_rfl];decide) x41_;rw [show ek ysO (ysK ⟨w.heap.size,.int .i64 m.t,.int .i64 m.n,.int .i64 m.a,.int .i64 m.b,.slice k m.l.length cl,.slice j m.i.length o,.slice C s.length cs,s,x,y,hasB s y,hasB s x,indT m (Z9_ (Z5_ s [y]) [x])⟩) 20=.eq (.bool ((hasB s y && (!hasB s x)) && indT m (Z9_ (Z5_ s [y]) [x]))) from by kernel_rfl] at z;have z:c.tmps.getD 8 undef=.bool ((hasB s y && (!hasB s x)) && indT m (Z9_ (Z5_ s [y]) [x])):=z;have I:=G6_ (ops:=ysO) (n:=21) (N:=29) [(9,v9),(10,xk),(11,xl),(12,xm),(13,xn),(14,xo),(15,xp),(16,xq),(17,xr),(18,xs),(19,xt),(20,xu),(21,xv),(22,xw),(23,xx),(24,xy),(25,xz),(26,y0),(27,y1),(28,y2),(8,.bool ((hasB s y && (!hasB s x)) && indT m (Z9_ (Z5_ s [y]) [x])))] rfl O H (fun t ht=>J t (by unfold M8_;rw [show ysO.size=21 by kernel_rfl];exact ht)) x41_ (by
  intro p K;simp only [List.mem_cons,List.not_mem_nil,or_false] at K;rcases K with rfl | rfl | rfl | rfl | rfl | rfl | rfl | rfl | rfl | rfl | rfl | rfl | rfl | rfl | rfl | rfl | rfl | rfl | rfl | rfl | rfl<;>assumption)
 clear J G O H h9 X Y Z x0 x1 x2 x3 x4 x5 x6 x7 x8 x9 xa xb xc xd xe xf z;rw [I];clear I;simp only [show List.range 29=[0,1,2,3,4,5,6,7,8,9,10,11,12,13,14,15,16,17,18,19,20,21,22,23,24,25,26,27,28] from by decide,List.map_cons,List.map_nil,List.lookup_cons,List.lookup_nil];go_simp;go_wp2;go_ret;exact ⟨by rw [← Q.out];rfl,U.out⟩
theorem Zg8 (m:Mat) (v sv:Value) (s:List Int) (w:World) (I:MatV w w.heap.size v m) (x4:Sml m) (G:Row w w.heap.size sv s) (yd:s.length≤1000) (hc:chk m=0):Calls Tryz.prog 57 #[v,sv] w (Gives w (addG m s)):=by
 obtain ⟨n,hN⟩:∃ n:Nat,nN m=n:=⟨_,rfl⟩;have x0:(n:Int)=m.n:=by rw [← hN];exact (Z8_ hc).1
 have yc:n≤64:=by rw [← hN];exact (Z8_ hc).2
 have L:Hid (addG m s=(upTo n).filter fun x=>!hasB s x && indT m (Z9_ s [x])):=hid (by unfold addG;rw [hN]);have HnI:=hid x0;clear hN x0 hc;obtain ⟨f,F⟩:∃ f:Int→Bool,(fun x=>!hasB s x && indT m (Z9_ s [x]))=f:=⟨_,rfl⟩;rw [F] at L;have Hf:=hid F;clear F;have xf:=hid x4;obtain ⟨lv,iv,xx,xu,xs⟩:=I.open;obtain ⟨j,cl,rfl,_⟩:=xu;obtain ⟨g,r,rfl,_⟩:=xs;obtain ⟨B,cs,xw,_⟩:=id G;subst xx xw;obtain ⟨c,hW0⟩:∃ c,c=w.alloc (.cells #[.int .i64 m.t,.int .i64 m.n,.int .i64 m.a,.int .i64 m.b,.slice j m.l.length cl,.slice g m.i.length r] 25):=⟨_,rfl⟩;have P:=hid hW0;have z:Below w.heap.size w c:=by rw [hW0];exact (Below.refl _ w).alloc (Nat.le_refl _) _
 have Q:Hid (Blk c w.heap.size 25 #[.int .i64 m.t,.int .i64 m.n,.int .i64 m.a,.int .i64 m.b,.slice j m.l.length cl,.slice g m.i.length r]):=hid k47_;have xb:=hid z;have HV:=hid (I.up z);have HR:=hid (G.up z);clear hW0 z I G x4;have x3:(c.alloc (.cells #[] 3)).ownsRow c.heap.size 3 1 (.slice (some ⟨c.heap.size,0,none⟩) 0 0) 0 [] :=
  World.ownsRow_made c #[] 0 (Nat.le_refl _) y42_ rfl
 have S:Below c.heap.size c (c.alloc (.cells #[] 3)):=(Below.refl _ c).alloc (Nat.le_refl _) _;have x6:c.heap.size=w.heap.size+1:=by rw [P.out];simp
 have xg:=hid x6;have xd:=hid x3;have x7:=hid S;clear x3 S x6
 go_enter Tryz.func57,Tryz.ntmps57
 go_wp2;rw [← P.out,← xg.out]
 go_loopw [5,6] (fun vl J wr=>∃ k:Nat,J=.int .i64 (k:Int)∧k≤n∧Hid (wr.ownsRow c.heap.size 3 1 vl ((upTo k).filter f).length (ints ((upTo k).filter f)))∧Hid (Below c.heap.size c wr)) (fun _ J _=>n - (intOf J).toNat)
 case atStart=>exact ⟨0,rfl,Nat.zero_le _,xd,x7⟩
 case round =>
  obtain ⟨k,rfl,ya,R,o⟩:=hrel;have y9:((upTo k).filter f).length≤64:=Nat.le_trans (List.length_filter_le _ _) (by rw [J2_];omega);have D:=hid (Q.out.below o.out Q.out.lt);have q1:=D.out.cell 1;by_cases yb:k<n
  ·have xv:(k:Int)<m.n:=by rw [← HnI.out];omega
   have ye:IntKind.i64.wrap ((k:Int)+1)=(k:Int)+1:=q42_;have X:f (k:Int)=(!hasB s (k:Int) && indT m (Z9_ s [(k:Int)])):=by rw [← Hf.out]
   have x9:=hid X;have K:Hid ((upTo (k+1)).filter f=(upTo k).filter f ++ (if f (k:Int) then [(k:Int)] else [])):=hid (by
    rw [Zg7,List.filter_append];cases h:f (k:Int)<;>simp [h])
   have xa:=hid (HV.out.up o.out);have M:=hid (HR.out.up o.out);have q:Hid (∀ W,Below wr.drew.heap.size wr.drew W→Below wr.heap.size wr W):=hid fun W e=>Z0_ (Below.refl _ wr).drew (Nat.le_refl _) e;clear X;go_wp2;clear q1;refine V9_ (ops:=yaO) (yaK ⟨w.heap.size,.int .i64 m.t,.int .i64 m.n,.int .i64 m.a,.int .i64 m.b,.slice j m.l.length cl,.slice g m.i.length r,.slice B s.length cs,s,(k:Int),hasB s (k:Int),indT m (Z9_ s [(k:Int)])⟩) x41_ x41_ (Vu4 (x:=⟨w.heap.size,.int .i64 m.t,.int .i64 m.n,.int .i64 m.a,.int .i64 m.b,.slice j m.l.length cl,.slice g m.i.length r,.slice B s.length cs,s,(k:Int),hasB s (k:Int),indT m (Z9_ s [(k:Int)])⟩) ⟨rfl,rfl,rfl,?hK1,?hP,?hU,?hI⟩) ?_
   case hK1=>exact fun W e=>by have h:=D.out.below (q.out W e) D.out.lt;exact ⟨h.cell 0,h.cell 1,h.cell 2,h.cell 3,h.cell 4,h.cell 5⟩
   case hP=>exact fun W e=>Zy6 _ s _ W (M.out.up (q.out W e)) q41_
   case hU=>exact fun W e u H=>A4_ _ u s [(k:Int)] W (M.out.up (q.out W e)) H q41_ j41_
   case hI=>exact fun W e u H=>R3_ m _ u _ W (xa.out.up (q.out W e)) xf.out H
   intro d W e x5 V x1 T;have O:=hid (q.out W e);obtain ⟨xy,xh⟩:∃ v,d.tmps.getD 14 undef=v:=⟨_,rfl⟩;obtain ⟨xz,xi⟩:∃ v,d.tmps.getD 15 undef=v:=⟨_,rfl⟩;obtain ⟨y0,xj⟩:∃ v,d.tmps.getD 16 undef=v:=⟨_,rfl⟩;obtain ⟨y1,xk⟩:∃ v,d.tmps.getD 17 undef=v:=⟨_,rfl⟩;obtain ⟨y2,xl⟩:∃ v,d.tmps.getD 18 undef=v:=⟨_,rfl⟩;obtain ⟨y3,xm⟩:∃ v,d.tmps.getD 19 undef=v:=⟨_,rfl⟩;obtain ⟨y4,xn⟩:∃ v,d.tmps.getD 20 undef=v:=⟨_,rfl⟩;obtain ⟨y5,xo⟩:∃ v,d.tmps.getD 21 undef=v:=⟨_,rfl⟩;obtain ⟨y6,xp⟩:∃ v,d.tmps.getD 22 undef=v:=⟨_,rfl⟩;obtain ⟨y7,xq⟩:∃ v,d.tmps.getD 23 undef=v:=⟨_,rfl⟩;obtain ⟨y8,xr⟩:∃ v,d.tmps.getD 24 undef=v:=⟨_,rfl⟩;have y:=T 11 25 (by rw [show yaO.size=12 by kernel_rfl];decide) x41_;rw [show ek yaO (yaK ⟨w.heap.size,.int .i64 m.t,.int .i64 m.n,.int .i64 m.a,.int .i64 m.b,.slice j m.l.length cl,.slice g m.i.length r,.slice B s.length cs,s,(k:Int),hasB s (k:Int),indT m (Z9_ s [(k:Int)])⟩) 11=.eq (.bool ((!hasB s (k:Int)) && indT m (Z9_ s [(k:Int)]))) from by kernel_rfl] at y;have y:d.tmps.getD 25 undef=.bool ((!hasB s (k:Int)) && indT m (Z9_ s [(k:Int)])):=y;rw [← x9.out] at y;have Y:=G6_ (ops:=yaO) (n:=12) (N:=31) [(14,xy),(15,xz),(16,y0),(17,y1),(18,y2),(19,y3),(20,y4),(21,y5),(22,y6),(23,y7),(24,y8),(25,.bool (f (k:Int)))] rfl x5 V (fun t ht=>x1 t (by unfold M8_;rw [show yaO.size=12 by kernel_rfl];exact ht)) x41_ (by
    intro p hp;simp only [List.mem_cons,List.not_mem_nil,or_false] at hp;rcases hp with rfl | rfl | rfl | rfl | rfl | rfl | rfl | rfl | rfl | rfl | rfl | rfl<;>assumption)
   clear x1 T x5 V xh xi xj xk xl xm xn xo xp xq xr y;rw [Y];clear Y;simp only [show List.range 31=[0,1,2,3,4,5,6,7,8,9,10,11,12,13,14,15,16,17,18,19,20,21,22,23,24,25,26,27,28,29,30] from by decide,List.map_cons,List.map_nil,List.lookup_cons,List.lookup_nil];go_simp;have E:=hid (B1_ R.out O.out);have HB1:=hid (Z0_ o.out (Nat.le_refl _) O.out);cases hfv:f (k:Int)
   ·have C:Hid ((upTo (k+1)).filter f=(upTo k).filter f):=hid (by rw [K.out,hfv];simp)
    go_wp2
    go_roundw
    case rel=>exact ⟨k+1,z42_,q41_,by rw [C.out];exact E,HB1⟩
    case measure=>simp [intOf];omega
   ·have C:Hid ((upTo (k+1)).filter f=(upTo k).filter f ++ [(k:Int)]):=hid (by rw [K.out,hfv];simp)
    go_wp2_with (at_builtin;refine Z6_ rfl _ _ rfl c.heap.size _ _ _ ((upTo k).filter f) [(k:Int)] rfl rfl (E.out.alloc _) (Row.lit1 _ (k:Int)) q41_ j41_ y45_ ?_)
    intro v' w4 x2 Z;have U:Below c.heap.size W w4:=((Below.refl _ W).alloc HB1.out.size _).grown Z y45_ (fun i hi=>(E.out.lt i hi).1);have xe:=hid x2;have x8:=hid (HB1.out.trans U);clear x2 Z U;go_wp2
    go_roundw
    case rel=>exact ⟨k+1,z42_,q41_,hid (by rw [C.out,List.length_append];exact xe.out),x8⟩
    case measure=>simp [intOf];omega
  ·have xt:k=n:=by omega
   have xv:¬ (k:Int)<m.n:=y51_;subst xt;have Hr:=hid (Row.of_own R.out rfl);have xc:=hid (Z0_ xb.out (Nat.le_refl _) o.out);go_wp2;go_ret;exact ⟨_,rfl,by rw [L.out];exact Hr.out,xc.out⟩
end Wp
end Go.Proofs.YtnbcaibflhgdoaaGreatDoor
