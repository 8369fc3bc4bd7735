/- The document's Stands, adds, Graph of layer 13, and SwapTells, walked: it answers true. -/
import Derived.Test.YteiejkhdonmcdaaGreatDoorYC1
import Derived.Test.YteiejkhdonmcdaaGreatDoorVIndep
import Derived.Test.YteiejkhdonmcdaaGreatDoorZH
import Derived.Test.YteiejkhdonmcdaaGreatDoorZN
import Derived.Test.YteiejkhdonmcdaaGreatDoorZT
import Derived.Test.YteiejkhdonmcdaaGreatDoorZI
import Derived.Test.YteiejkhdonmcdaaGreatDoorZX
import Derived.Test.YteiejkhdonmcdaaGreatDoorVTurn
import Derived.Test.YteiejkhdonmcdaaGreatDoorVGraph
import Derived.Test.YteiejkhdonmcdaaGreatDoorVFix
import Derived.Test.YteiejkhdonmcdaaGreatDoorZS
import Derived.Test.YteiejkhdonmcdaaGreatDoorVLaw
import Derived.Test.YteiejkhdonmcdaaGreatDoorVR13A
import Derived.Test.YteiejkhdonmcdaaGreatDoorX1A
import Derived.Test.YteiejkhdonmcdaaGreatDoorX1B
set_option maxHeartbeats 16000000
set_option maxRecDepth 100000
open Go.Lib (hid)
namespace Go.Proofs.YteiejkhdonmcdaaGreatDoor
open Go Go.RowKit
namespace Wp
theorem upTo_next (k:Nat):upTo (k+1)=upTo k ++ [(k:Int)]:=by
 unfold upTo;rw [List.range_succ,List.map_append];rfl
theorem r13stands_any (m:Mat) (v Q:Value) (s:List Int) (x y:Int) (w:World) (r:MatV w w.heap.size v m) (O:Sml m) (F:Row w w.heap.size Q s) (y5:s.length≤1000):Calls Tryz.prog 51 #[v,Q,.int .i64 x,.int .i64 y] w (Says w (M9_ m s x y)):=by
 have y4:=O9_ s [y];have X:=hid O;obtain ⟨lv,iv,xk,xi,xh⟩:=r.open;obtain ⟨k,cl,rfl,_⟩:=xi;obtain ⟨j,o,rfl,_⟩:=xh;obtain ⟨D,cs,xj,_⟩:=id F;subst xk xj;obtain ⟨e,B⟩:∃ e,e=w.alloc (.cells #[.int .i64 m.t,.int .i64 m.n,.int .i64 m.a,.int .i64 m.b,.slice k m.l.length cl,.slice j m.i.length o] 25):=⟨_,rfl⟩;have T:=hid B;have C:Below w.heap.size w e:=by rw [B];exact (Below.refl _ w).alloc (Nat.le_refl _) _
 have G:Hid (Blk e w.heap.size 25 #[.int .i64 m.t,.int .i64 m.n,.int .i64 m.a,.int .i64 m.b,.slice k m.l.length cl,.slice j m.i.length o]):=hid (by rw [B];exact Blk.new w _ _);have U:=hid C;have S:=hid (r.up C);have E:=hid (F.up C);clear B C r F O;have g:Hid (∀ W,Below e.drew.heap.size e.drew W→Below e.heap.size e W):=hid fun W d=>Z0_ (Below.refl _ e).drew (Nat.le_refl _) d;have M:((hasB s y && !hasB s x) && indT m (Y1_ (Z5_ s [y]) [x]))=M9_ m s x y:=by unfold M9_;rw [Bool.and_assoc]
 have R:=hid M;clear M
 go_enter Tryz.func51,Tryz.ntmps51
 go_wp2;rw [← T.out];refine wp_region_ways (ops:=ysO) (ysK ⟨w.heap.size,.int .i64 m.t,.int .i64 m.n,.int .i64 m.a,.int .i64 m.b,.slice k m.l.length cl,.slice j m.i.length o,.slice D s.length cs,s,x,y,hasB s y,hasB s x,indT m (Y1_ (Z5_ s [y]) [x])⟩) z52_ z52_ (ys_all (x:=⟨w.heap.size,.int .i64 m.t,.int .i64 m.n,.int .i64 m.a,.int .i64 m.b,.slice k m.l.length cl,.slice j m.i.length o,.slice D s.length cs,s,x,y,hasB s y,hasB s x,indT m (Y1_ (Z5_ s [y]) [x])⟩) ⟨rfl,rfl,rfl,rfl,?hK1,?hP,?hQ,?hMi,?hU,?hI⟩) ?_
 case hK1=>exact fun W d=>by have h:=G.out.below (g.out W d) G.out.lt;exact ⟨h.cell 0,h.cell 1,h.cell 2,h.cell 3,h.cell 4,h.cell 5⟩
 case hP=>exact fun W d=>refhas_any _ s y W (E.out.up (g.out W d)) k52_
 case hQ=>exact fun W d=>refhas_any _ s x W (E.out.up (g.out W d)) k52_
 case hMi=>exact fun W d u q=>C2_ _ u s [y] W (E.out.up (g.out W d)) q k52_ x53_
 case hU=>exact fun W d u q v r=>F0_ u v (Z5_ s [y]) [x] W q r k52_ x53_
 case hI=>exact fun W d u q=>C4_ m _ u _ W (S.out.up (g.out W d)) X.out q
 intro c W d P I K H;have V:=hid (Z0_ U.out (Nat.le_refl _) (g.out W d));obtain ⟨v9,h9⟩:∃ v,c.tmps.getD 9 undef=v:=⟨_,rfl⟩;obtain ⟨xl,Y⟩:∃ v,c.tmps.getD 10 undef=v:=⟨_,rfl⟩;obtain ⟨xm,Z⟩:∃ v,c.tmps.getD 11 undef=v:=⟨_,rfl⟩;obtain ⟨xn,x0⟩:∃ v,c.tmps.getD 12 undef=v:=⟨_,rfl⟩;obtain ⟨xo,x1⟩:∃ v,c.tmps.getD 13 undef=v:=⟨_,rfl⟩;obtain ⟨xp,x2⟩:∃ v,c.tmps.getD 14 undef=v:=⟨_,rfl⟩;obtain ⟨xq,x3⟩:∃ v,c.tmps.getD 15 undef=v:=⟨_,rfl⟩;obtain ⟨xr,x4⟩:∃ v,c.tmps.getD 16 undef=v:=⟨_,rfl⟩;obtain ⟨xs,x5⟩:∃ v,c.tmps.getD 17 undef=v:=⟨_,rfl⟩;obtain ⟨xt,x6⟩:∃ v,c.tmps.getD 18 undef=v:=⟨_,rfl⟩;obtain ⟨xu,x7⟩:∃ v,c.tmps.getD 19 undef=v:=⟨_,rfl⟩;obtain ⟨xv,x8⟩:∃ v,c.tmps.getD 20 undef=v:=⟨_,rfl⟩;obtain ⟨xw,x9⟩:∃ v,c.tmps.getD 21 undef=v:=⟨_,rfl⟩;obtain ⟨xx,xa⟩:∃ v,c.tmps.getD 22 undef=v:=⟨_,rfl⟩;obtain ⟨xy,xb⟩:∃ v,c.tmps.getD 23 undef=v:=⟨_,rfl⟩;obtain ⟨xz,xc⟩:∃ v,c.tmps.getD 24 undef=v:=⟨_,rfl⟩;obtain ⟨y0,xd⟩:∃ v,c.tmps.getD 25 undef=v:=⟨_,rfl⟩;obtain ⟨y1,xe⟩:∃ v,c.tmps.getD 26 undef=v:=⟨_,rfl⟩;obtain ⟨y2,xf⟩:∃ v,c.tmps.getD 27 undef=v:=⟨_,rfl⟩;obtain ⟨y3,xg⟩:∃ v,c.tmps.getD 28 undef=v:=⟨_,rfl⟩;have z:=H 20 8 (by rw [show ysO.size=21 by kernel_rfl];decide) z52_;rw [show ek ysO (ysK ⟨w.heap.size,.int .i64 m.t,.int .i64 m.n,.int .i64 m.a,.int .i64 m.b,.slice k m.l.length cl,.slice j m.i.length o,.slice D s.length cs,s,x,y,hasB s y,hasB s x,indT m (Y1_ (Z5_ s [y]) [x])⟩) 20=.eq (.bool ((hasB s y && (!hasB s x)) && indT m (Y1_ (Z5_ s [y]) [x]))) from by kernel_rfl] at z;have z:c.tmps.getD 8 undef=.bool ((hasB s y && (!hasB s x)) && indT m (Y1_ (Z5_ s [y]) [x])):=z;have J:=Ym4 (ops:=ysO) (n:=21) (N:=29) [(9,v9),(10,xl),(11,xm),(12,xn),(13,xo),(14,xp),(15,xq),(16,xr),(17,xs),(18,xt),(19,xu),(20,xv),(21,xw),(22,xx),(23,xy),(24,xz),(25,y0),(26,y1),(27,y2),(28,y3),(8,.bool ((hasB s y && (!hasB s x)) && indT m (Y1_ (Z5_ s [y]) [x])))] rfl P I (fun t ht=>K t (by unfold Ym1;rw [show ysO.size=21 by kernel_rfl];exact ht)) z52_ (by
  intro p L;simp only [List.mem_cons,List.not_mem_nil,or_false] at L;rcases L with rfl | rfl | rfl | rfl | rfl | rfl | rfl | rfl | rfl | rfl | rfl | rfl | rfl | rfl | rfl | rfl | rfl | rfl | rfl | rfl | rfl<;>assumption)
 clear K H P I h9 Y Z x0 x1 x2 x3 x4 x5 x6 x7 x8 x9 xa xb xc xd xe xf xg z;rw [J];clear J;simp only [show List.range 29=[0,1,2,3,4,5,6,7,8,9,10,11,12,13,14,15,16,17,18,19,20,21,22,23,24,25,26,27,28] from by decide,List.map_cons,List.map_nil,List.lookup_cons,List.lookup_nil];go_simp;go_wp2;go_ret;exact ⟨by rw [← R.out];rfl,V.out⟩
theorem r13adds_any (m:Mat) (v sv:Value) (s:List Int) (w:World) (K:MatV w w.heap.size v m) (x7:Sml m) (I:Row w w.heap.size sv s) (yg:s.length≤1000) (hc:chk m=0):Calls Tryz.prog 52 #[v,sv] w (Gives w (addG m s)):=by
 obtain ⟨n,z⟩:∃ n:Nat,nN m=n:=⟨_,rfl⟩;have x3:(n:Int)=m.n:=by rw [← z];exact (Z7_ hc).1
 have yf:n≤64:=by rw [← z];exact (Z7_ hc).2
 have O:Hid (addG m s=(upTo n).filter fun x=>!hasB s x && indT m (Y1_ s [x])):=hid (by unfold addG;rw [z]);have T:=hid x3;clear z x3 hc;obtain ⟨f,H⟩:∃ f:Int→Bool,(fun x=>!hasB s x && indT m (Y1_ s [x]))=f:=⟨_,rfl⟩;rw [H] at O;have Hf:=hid H;clear H;have xi:=hid x7;obtain ⟨lv,iv,y0,xx,xv⟩:=K.open;obtain ⟨j,cl,rfl,_⟩:=xx;obtain ⟨g,r,rfl,_⟩:=xv;obtain ⟨D,cs,xz,_⟩:=id I;subst y0 xz;obtain ⟨c,B⟩:∃ c,c=w.alloc (.cells #[.int .i64 m.t,.int .i64 m.n,.int .i64 m.a,.int .i64 m.b,.slice j m.l.length cl,.slice g m.i.length r] 25):=⟨_,rfl⟩;have R:=hid B;have C:Below w.heap.size w c:=by rw [B];exact (Below.refl _ w).alloc (Nat.le_refl _) _
 have S:Hid (Blk c w.heap.size 25 #[.int .i64 m.t,.int .i64 m.n,.int .i64 m.a,.int .i64 m.b,.slice j m.l.length cl,.slice g m.i.length r]):=hid (by rw [B];exact Blk.new w _ _);have xe:=hid C;have HV:=hid (K.up C);have HR:=hid (I.up C);clear B C K I x7;have x6:(c.alloc (.cells #[] 3)).ownsRow c.heap.size 3 1 (.slice (some ⟨c.heap.size,0,none⟩) 0 0) 0 [] :=
  World.ownsRow_made c #[] 0 (Nat.le_refl _) (by unfold maxLen;omega) rfl
 have V:Below c.heap.size c (c.alloc (.cells #[] 3)):=(Below.refl _ c).alloc (Nat.le_refl _) _;have x9:c.heap.size=w.heap.size+1:=by rw [R.out];simp
 have xj:=hid x9;have xg:=hid x6;have xa:=hid V;clear x6 V x9
 go_enter Tryz.func52,Tryz.ntmps52
 go_wp2;rw [← R.out,← xj.out]
 go_loopw [5,6] (fun vl L wr=>∃ k:Nat,L=.int .i64 (k:Int)∧k≤n∧Hid (wr.ownsRow c.heap.size 3 1 vl ((upTo k).filter f).length (ints ((upTo k).filter f)))∧Hid (Below c.heap.size c wr)) (fun _ L _=>n - (intOf L).toNat)
 case atStart=>exact ⟨0,rfl,Nat.zero_le _,xg,xa⟩
 case round =>
  obtain ⟨k,rfl,yd,U,o⟩:=hrel;have yc:((upTo k).filter f).length≤64:=Nat.le_trans (List.length_filter_le _ _) (by rw [Q9_];omega);have F:=hid (S.out.below o.out S.out.lt);have q1:=F.out.cell 1;by_cases ye:k<n
  ·have xy:(k:Int)<m.n:=by rw [← T.out];omega
   have yh:IntKind.i64.wrap ((k:Int)+1)=(k:Int)+1:=by rw [IntKind.wrap_i64];omega
   have x0:f (k:Int)=(!hasB s (k:Int) && indT m (Y1_ s [(k:Int)])):=by rw [← Hf.out]
   have xc:=hid x0;have M:Hid ((upTo (k+1)).filter f=(upTo k).filter f ++ (if f (k:Int) then [(k:Int)] else [])):=hid (by
    rw [upTo_next,List.filter_append];cases h:f (k:Int)<;>simp [h])
   have xd:=hid (HV.out.up o.out);have P:=hid (HR.out.up o.out);have q:Hid (∀ W,Below wr.drew.heap.size wr.drew W→Below wr.heap.size wr W):=hid fun W e=>Z0_ (Below.refl _ wr).drew (Nat.le_refl _) e;clear x0;go_wp2;clear q1;refine wp_region_ways (ops:=yaO) (yaK ⟨w.heap.size,.int .i64 m.t,.int .i64 m.n,.int .i64 m.a,.int .i64 m.b,.slice j m.l.length cl,.slice g m.i.length r,.slice D s.length cs,s,(k:Int),hasB s (k:Int),indT m (Y1_ s [(k:Int)])⟩) z52_ z52_ (ya_all (x:=⟨w.heap.size,.int .i64 m.t,.int .i64 m.n,.int .i64 m.a,.int .i64 m.b,.slice j m.l.length cl,.slice g m.i.length r,.slice D s.length cs,s,(k:Int),hasB s (k:Int),indT m (Y1_ s [(k:Int)])⟩) ⟨rfl,rfl,rfl,?hK1,?hP,?hU,?hI⟩) ?_
   case hK1=>exact fun W e=>by have h:=F.out.below (q.out W e) F.out.lt;exact ⟨h.cell 0,h.cell 1,h.cell 2,h.cell 3,h.cell 4,h.cell 5⟩
   case hP=>exact fun W e=>refhas_any _ s _ W (P.out.up (q.out W e)) k52_
   case hU=>exact fun W e u J=>F0_ _ u s [(k:Int)] W (P.out.up (q.out W e)) J k52_ x53_
   case hI=>exact fun W e u J=>C4_ m _ u _ W (xd.out.up (q.out W e)) xi.out J
   intro d W e x8 Z x4 X;have Q:=hid (q.out W e);obtain ⟨y1,xk⟩:∃ v,d.tmps.getD 14 undef=v:=⟨_,rfl⟩;obtain ⟨y2,xl⟩:∃ v,d.tmps.getD 15 undef=v:=⟨_,rfl⟩;obtain ⟨y3,xm⟩:∃ v,d.tmps.getD 16 undef=v:=⟨_,rfl⟩;obtain ⟨y4,xn⟩:∃ v,d.tmps.getD 17 undef=v:=⟨_,rfl⟩;obtain ⟨y5,xo⟩:∃ v,d.tmps.getD 18 undef=v:=⟨_,rfl⟩;obtain ⟨y6,xp⟩:∃ v,d.tmps.getD 19 undef=v:=⟨_,rfl⟩;obtain ⟨y7,xq⟩:∃ v,d.tmps.getD 20 undef=v:=⟨_,rfl⟩;obtain ⟨y8,xr⟩:∃ v,d.tmps.getD 21 undef=v:=⟨_,rfl⟩;obtain ⟨y9,xs⟩:∃ v,d.tmps.getD 22 undef=v:=⟨_,rfl⟩;obtain ⟨ya,xt⟩:∃ v,d.tmps.getD 23 undef=v:=⟨_,rfl⟩;obtain ⟨yb,xu⟩:∃ v,d.tmps.getD 24 undef=v:=⟨_,rfl⟩;have y:=X 11 25 (by rw [show yaO.size=12 by kernel_rfl];decide) z52_;rw [show ek yaO (yaK ⟨w.heap.size,.int .i64 m.t,.int .i64 m.n,.int .i64 m.a,.int .i64 m.b,.slice j m.l.length cl,.slice g m.i.length r,.slice D s.length cs,s,(k:Int),hasB s (k:Int),indT m (Y1_ s [(k:Int)])⟩) 11=.eq (.bool ((!hasB s (k:Int)) && indT m (Y1_ s [(k:Int)]))) from by kernel_rfl] at y;have y:d.tmps.getD 25 undef=.bool ((!hasB s (k:Int)) && indT m (Y1_ s [(k:Int)])):=y;rw [← xc.out] at y;have x1:=Ym4 (ops:=yaO) (n:=12) (N:=31) [(14,y1),(15,y2),(16,y3),(17,y4),(18,y5),(19,y6),(20,y7),(21,y8),(22,y9),(23,ya),(24,yb),(25,.bool (f (k:Int)))] rfl x8 Z (fun t ht=>x4 t (by unfold Ym1;rw [show yaO.size=12 by kernel_rfl];exact ht)) z52_ (by
    intro p hp;simp only [List.mem_cons,List.not_mem_nil,or_false] at hp;rcases hp with rfl | rfl | rfl | rfl | rfl | rfl | rfl | rfl | rfl | rfl | rfl | rfl<;>assumption)
   clear x4 X x8 Z xk xl xm xn xo xp xq xr xs xt xu y;rw [x1];clear x1;simp only [show List.range 31=[0,1,2,3,4,5,6,7,8,9,10,11,12,13,14,15,16,17,18,19,20,21,22,23,24,25,26,27,28,29,30] from by decide,List.map_cons,List.map_nil,List.lookup_cons,List.lookup_nil];go_simp;have G:=hid (M7_ U.out Q.out);have HB1:=hid (Z0_ o.out (Nat.le_refl _) Q.out);cases hfv:f (k:Int)
   ·have E:Hid ((upTo (k+1)).filter f=(upTo k).filter f):=hid (by rw [M.out,hfv];simp)
    go_wp2
    go_roundw
    case rel=>exact ⟨k+1,by go_num,k52_,by rw [E.out];exact G,HB1⟩
    case measure=>simp [intOf];omega
   ·have E:Hid ((upTo (k+1)).filter f=(upTo k).filter f ++ [(k:Int)]):=hid (by rw [M.out,hfv];simp)
    go_wp2_with (at_builtin;refine Z4_ rfl _ _ rfl c.heap.size _ _ _ ((upTo k).filter f) [(k:Int)] rfl rfl (G.out.alloc _) (Row.lit1 _ (k:Int)) k52_ x53_ j52_ ?_)
    intro v' w4 x5 x2;have Y:Below c.heap.size W w4:=((Below.refl _ W).alloc HB1.out.size _).grown x2 j52_ (fun i hi=>(G.out.lt i hi).1);have xh:=hid x5;have xb:=hid (HB1.out.trans Y);clear x5 x2 Y;go_wp2
    go_roundw
    case rel=>exact ⟨k+1,by go_num,k52_,hid (by rw [E.out,List.length_append];exact xh.out),xb⟩
    case measure=>simp [intOf];omega
  ·have xw:k=n:=by omega
   have xy:¬ (k:Int)<m.n:=by rw [← T.out];omega
   subst xw;have Hr:=hid (Row.of_own U.out rfl);have xf:=hid (Z0_ xe.out (Nat.le_refl _) o.out);go_wp2;go_ret;exact ⟨_,rfl,by rw [O.out];exact Hr.out,xf.out⟩
open Go Go.RowKit
theorem RowO.of_own {w:World} {base:Nat} {o:Option Nat} {v:Value} {zs:List Int} (h:w.ownsRow base 3 1 v zs.length (ints zs)) (r:∀ g,o=some g→g<base):RowO w o v zs:=by
 obtain ⟨A,c,rfl,q,m⟩:=Row.of_own h rfl;refine ⟨A,c,rfl,q,fun k p=>?_⟩;obtain ⟨d,rfl,f,j⟩:=m k p;refine ⟨d,rfl,f,fun e=>?_,j⟩;have s:=(h.lt d.block rfl).1;have:=r _ e.symm;omega
theorem OwnR.lt2 {w:World} {base:Nat} {v:Value} {pp:List (List Int)} (h:OwnR w base v pp):∀ g,v.ownBlock=some g→g<w.heap.size:=by
 obtain ⟨e,d,_⟩:=h;exact fun g c=>(d.lt g c).2
theorem OwnR.name {w:World} {base:Nat} {v:Value} {pp:List (List Int)} (_h:OwnR w base v pp):∃ u,u=v:=⟨v,rfl⟩
theorem rows2_nil (w:World) (B:Nat):Rows2 w B (.slice none 0 0) []:=⟨none,0,rfl,⟨Nat.le_refl _,by decide,fun _=>rfl⟩,fun k c=>absurd c x53_⟩
theorem r13graph_off (a b:Mat) (K L J:Value) (s:List Int) (w:World) (ha:MatV w w.heap.size K a) (hb:MatV w w.heap.size L b) (H:Sml a) (I:Sml b) (D:Row w w.heap.size J s) (G:mayS a b s=false):Calls Tryz.prog 17 #[K,L,J] w (D5_ w [] [] [] 1):=by
 have E:=hid G;clear G;have M:=hid H;have N:=hid I;obtain ⟨Z,X,T,Q,O⟩:=ha.open;obtain ⟨lb,Y,U,R,P⟩:=hb.open;obtain ⟨k,cl,rfl,_⟩:=Q;obtain ⟨j,z,rfl,_⟩:=O;obtain ⟨o,C,rfl,_⟩:=R;obtain ⟨m,B,rfl,_⟩:=P;obtain ⟨V,W,S,_⟩:=id D;subst T U S;obtain ⟨d,g⟩:∃ d,d=(w.alloc (.cells #[.int .i64 a.t,.int .i64 a.n,.int .i64 a.a,.int .i64 a.b,.slice k a.l.length cl,.slice j a.i.length z] 25)).alloc (.cells #[.int .i64 b.t,.int .i64 b.n,.int .i64 b.a,.int .i64 b.b,.slice o b.l.length C,.slice m b.i.length B] 25):=⟨_,rfl⟩;have F:=hid g;have h:Below w.heap.size w d:=by rw [g];exact ((Below.refl _ w).alloc (Nat.le_refl _) _).alloc x53_ _
 have x:Hid (Blk d w.heap.size 25 #[.int .i64 a.t,.int .i64 a.n,.int .i64 a.a,.int .i64 a.b,.slice k a.l.length cl,.slice j a.i.length z]):=hid (by rw [g];exact (Blk.new w _ _).alloc _);have y:Hid (Blk d (w.heap.size+1) 25 #[.int .i64 b.t,.int .i64 b.n,.int .i64 b.a,.int .i64 b.b,.slice o b.l.length C,.slice m b.i.length B]):=hid (by
  rw [g];have:=Blk.new (w.alloc (.cells #[.int .i64 a.t,.int .i64 a.n,.int .i64 a.a,.int .i64 a.b,.slice k a.l.length cl,.slice j a.i.length z] 25)) 25 #[.int .i64 b.t,.int .i64 b.n,.int .i64 b.a,.int .i64 b.b,.slice o b.l.length C,.slice m b.i.length B];simpa using this)
 have u:=hid h;have p:=hid (ha.up h);have q:=hid (hb.up h);have r:=hid (D.up h);clear g h ha hb H I D
 go_enter Tryz.func17,Tryz.ntmps17
 go_wp2_with fail
 rw [← F.out];refine (C5_ a b _ _ _ s _ p.out q.out M.out N.out r.out).mono ?_;rintro e w3 ⟨rfl,c⟩;rw [E.out];clear E F;replace p:=hid (p.out.up c);replace q:=hid (q.out.up c);replace r:=hid (r.out.up c);replace x:=hid (x.out.below c x.out.lt);replace y:=hid (y.out.below c y.out.lt);replace u:=hid (Z0_ u.out (Nat.le_refl _) c);clear c;go_wp2;refine bodyPost_ret (v:=.tuple #[.slice none 0 0,.slice none 0 0,.slice none 0 0,.int .i64 1]) (by simp [results,Tryz.results17,go_sem]) rfl ?_;exact ⟨_,_,_,rfl,rows2_nil _ _,Row.nil_ _ _,Row.nil_ _ _,u.out⟩
theorem r13graph_on (a b:Mat) (va vb sw:Value) (s:List Int) (w:World) (ha:MatV w w.heap.size va a) (hb:MatV w w.heap.size vb b) (y3:Sml a) (y4:Sml b) (hr:Row w w.heap.size sw s) (M:Common a b s):Calls Tryz.prog 17 #[va,vb,sw] w (D5_ w (adjG a b s) (addG a s) (addG b s) 0):=by
 have HM:Hid (mayS a b s=true):=hid (mayS_iff.2 M);have x9:=(mayI_iff.1 (J5_ M.ia)).1;have xw:=(mayI_iff.1 (J5_ M.ib)).1;have zk:s.length≤64:=Nat.le_trans (Y4_ M.set) M.n64;obtain ⟨n,X⟩:∃ n:Nat,nN a=n:=⟨_,rfl⟩;have x6:Hid ((n:Int)=a.n):=hid (by rw [← X];exact (Z7_ x9).1);have zg:n≤64:=by rw [← X];exact (Z7_ x9).2
 have xp:=hid (And.intro x9 xw);have y8:Hid (adjG a b s=(upTo n).map (arcsG a b s)):=hid (by unfold adjG;rw [X]);have ya:Hid (∀ p:Int,arcsG a b s p=(upTo n).filter fun q=>M9_ a s q p || M9_ b s p q):=hid fun p=>by unfold arcsG;rw [X]
 clear M x9 xw X;have xi:=hid y3;have xj:=hid y4;obtain ⟨la,ia,xl,yy,yw⟩:=ha.open;obtain ⟨lb,ib,z5,yz,yx⟩:=hb.open;obtain ⟨m,cl,rfl,_⟩:=yy;obtain ⟨k,z,rfl,_⟩:=yw;obtain ⟨r,C,rfl,_⟩:=yz;obtain ⟨o,B,rfl,_⟩:=yx;obtain ⟨J,L,z4,_⟩:=id hr;subst xl z5 z4;obtain ⟨V,Y⟩:∃ V,V=(w.alloc (.cells #[.int .i64 a.t,.int .i64 a.n,.int .i64 a.a,.int .i64 a.b,.slice m a.l.length cl,.slice k a.i.length z] 25)).alloc (.cells #[.int .i64 b.t,.int .i64 b.n,.int .i64 b.a,.int .i64 b.b,.slice r b.l.length C,.slice o b.i.length B] 25):=⟨_,rfl⟩;have xv:=hid Y;have x0:Below w.heap.size w V:=by rw [Y];exact ((Below.refl _ w).alloc (Nat.le_refl _) _).alloc x53_ _
 have S:Hid (Blk V w.heap.size 25 #[.int .i64 a.t,.int .i64 a.n,.int .i64 a.a,.int .i64 a.b,.slice m a.l.length cl,.slice k a.i.length z]):=hid (by rw [Y];exact (Blk.new w _ _).alloc _);have U:Hid (Blk V (w.heap.size+1) 25 #[.int .i64 b.t,.int .i64 b.n,.int .i64 b.a,.int .i64 b.b,.slice r b.l.length C,.slice o b.i.length B]):=hid (by
  rw [Y];have:=Blk.new (w.alloc (.cells #[.int .i64 a.t,.int .i64 a.n,.int .i64 a.a,.int .i64 a.b,.slice m a.l.length cl,.slice k a.i.length z] 25)) 25 #[.int .i64 b.t,.int .i64 b.n,.int .i64 b.a,.int .i64 b.b,.slice r b.l.length C,.slice o b.i.length B];simpa using this)
 have xg:=hid x0;have x3:=hid (ha.up x0);have x4:=hid (hb.up x0);have HW:=hid (hr.up x0);clear Y x0 ha hb y3 y4 hr
 go_enter Tryz.func17,Tryz.ntmps17
 go_wp2_with fail
 rw [← xv.out];refine (C5_ a b _ _ _ s _ x3.out x4.out xi.out xj.out HW.out).mono ?_;rintro e G ⟨rfl,I⟩;rw [HM.out];clear HM xv;replace x3:=hid (x3.out.up I);replace x4:=hid (x4.out.up I);replace HW:=hid (HW.out.up I);replace S:=hid (S.out.below I S.out.lt);replace U:=hid (U.out.below I U.out.lt);replace xg:=hid (Z0_ xg.out (Nat.le_refl _) I);clear I;have y6:=hid (OwnR.new G G.heap.size G.heap.size (Nat.le_refl _) rfl);have yb:=hid ((Below.refl G.heap.size G).alloc (Nat.le_refl _) (.cells #[] 26));go_wp2
 go_loopw [10,11,12,13] (fun va vp _ _ wr=>∃ p:Nat,vp=.int .i64 (p:Int)∧p≤n∧Hid (OwnR wr G.heap.size va ((upTo p).map (arcsG a b s)))∧Hid (Below G.heap.size G wr)) (fun _ vp _ _ _=>n - (intOf vp).toNat)
 case atStart=>exact ⟨0,rfl,Nat.zero_le _,y6,yb⟩
 case round =>
  obtain ⟨p,rfl,zh,R,H⟩:=hrel;obtain ⟨j,xl⟩:=OwnR.name R.out;subst xl;obtain ⟨c,yv⟩:∃ W:World,W=wr:=⟨_,rfl⟩;subst yv;have xr:=hid (x3.out.up H.out);have xt:=hid (x4.out.up H.out);have xe:=hid (HW.out.up H.out);have T:=hid (S.out.below H.out S.out.lt);have x5:=hid (U.out.below H.out U.out.lt);have q1:=T.out.cell 1;by_cases zf:p<n
  ·have z0:(p:Int)<a.n:=by rw [← x6.out];omega
   have zl:IntKind.i64.wrap ((p:Int)+1)=(p:Int)+1:=by rw [IntKind.wrap_i64];omega
   obtain ⟨f,hf⟩:∃ f:Int→Bool,(fun q=>M9_ a s q (p:Int) || M9_ b s (p:Int) q)=f:=⟨_,rfl⟩;have HF:=hid hf;have y9:Hid (arcsG a b s (p:Int)=(upTo n).filter f):=hid (by rw [ya.out,hf]);have x8:Hid ((c.alloc (.cells #[] 3)).ownsRow c.heap.size 3 1 (.slice (some ⟨c.heap.size,0,none⟩) 0 0) 0 []) :=
    hid (World.ownsRow_made c #[] 0 (Nat.le_refl _) (by unfold maxLen;omega) rfl)
   have x2:Hid (Below c.heap.size c (c.alloc (.cells #[] 3))):=hid ((Below.refl _ c).alloc (Nat.le_refl _) _);clear hf;go_wp2;clear q1
   go_loopw [12,13] (fun vl vq wq=>∃ q:Nat,vq=.int .i64 (q:Int)∧q≤n∧Hid (wq.ownsRow c.heap.size 3 1 vl ((upTo q).filter f).length (ints ((upTo q).filter f)))∧Hid (Below c.heap.size c wq)) (fun _ vq _=>n - (intOf vq).toNat)
   case atStart=>exact ⟨0,rfl,Nat.zero_le _,x8,x2⟩
   case round =>
    obtain ⟨q,rfl,zi,x7,u⟩:=hrel;have ze:((upTo q).filter f).length≤64:=Nat.le_trans (List.length_filter_le _ _) (by rw [Q9_];omega);have E:=hid (T.out.below u.out T.out.lt);have q1:=E.out.cell 1;by_cases zj:q<n
    ·have z2:(q:Int)<a.n:=by rw [← x6.out];omega
     have zm:IntKind.i64.wrap ((q:Int)+1)=(q:Int)+1:=by rw [IntKind.wrap_i64];omega
     have xy:f (q:Int)=(M9_ a s (q:Int) (p:Int) || M9_ b s (p:Int) (q:Int)):=by rw [← HF.out]
     have xc:=hid xy;have xd:Hid ((upTo (q+1)).filter f=(upTo q).filter f ++ (if f (q:Int) then [(q:Int)] else [])):=hid (by
      rw [upTo_next,List.filter_append];cases h:f (q:Int)<;>simp [h])
     have xs:=hid (xr.out.up u.out);have xu:=hid (xt.out.up u.out);have xf:=hid (xe.out.up u.out);have xh:=hid (x5.out.below u.out x5.out.lt);obtain ⟨x,hx⟩:∃ x,M9_ a s (q:Int) (p:Int)=x:=⟨_,rfl⟩;obtain ⟨y,hy⟩:∃ y,M9_ b s (p:Int) (q:Int)=y:=⟨_,rfl⟩;have HX:=hid hx;have HY:=hid hy;clear xy hx hy q1;have k0:=E.out.cell 0;have k1:=E.out.cell 1;have k2:=E.out.cell 2;have k3:=E.out.cell 3;have k4:=E.out.cell 4;have k5:=E.out.cell 5
     go_wp2_with fail
     refine (r13stands_any a _ _ s (q:Int) (p:Int) wr xs.out xi.out xf.out k52_).mono ?_;rintro e WX ⟨rfl,O⟩;rw [HX.out];have F:=hid (M7_ x7.out O);have HB1:=hid (Z0_ u.out (Nat.le_refl _) O);have yk:=hid (xu.out.up O);have yl:=hid (xf.out.up O);have K:=hid (xh.out.below O xh.out.lt);clear O k0 k1 k2 k3 k4 k5 x7 u xs xu xf xh E;cases x
     ·have x8:=F
      have x2:=HB1;clear F HB1;have n0:=K.out.cell 0;have n1:=K.out.cell 1;have n2:=K.out.cell 2;have n3:=K.out.cell 3;have n4:=K.out.cell 4;have n5:=K.out.cell 5
      go_wp2_with fail
      refine (r13stands_any b _ _ s (p:Int) (q:Int) WX yk.out xj.out yl.out k52_).mono ?_;rintro e WY ⟨rfl,xk⟩;rw [HY.out];have F:=hid (M7_ x8.out xk);have HB1:=hid (Z0_ x2.out (Nat.le_refl _) xk);clear xk n0 n1 n2 n3 n4 n5 x8 x2;cases y
      ·have x1:f (q:Int)=false:=by rw [xc.out,HX.out,HY.out];rfl
       have HN2:Hid ((upTo (q+1)).filter f=(upTo q).filter f):=hid (by rw [xd.out,x1];simp);go_wp2
       go_roundw
       case rel=>exact ⟨q+1,by go_num,k52_,by rw [HN2.out];exact F,HB1⟩
       case measure=>simp [intOf];omega
      ·have x1:f (q:Int)=true:=by rw [xc.out,HX.out,HY.out];rfl
       have HN2:Hid ((upTo (q+1)).filter f=(upTo q).filter f ++ [(q:Int)]):=hid (by rw [xd.out,x1];simp)
       go_wp2_with (at_builtin;refine Z4_ rfl _ _ rfl c.heap.size _ _ _ ((upTo q).filter f) [(q:Int)] rfl rfl (F.out.alloc _) (Row.lit1 _ (q:Int)) k52_ x53_ j52_ ?_)
       intro v' xm hown' hgrow;have hb14:Below c.heap.size WY xm:=((Below.refl _ WY).alloc HB1.out.size _).grown hgrow j52_ (fun i hi=>(F.out.lt i hi).1);exact j6_
     ·have x1:f (q:Int)=true:=by rw [xc.out,HX.out];rfl
      have HN2:Hid ((upTo (q+1)).filter f=(upTo q).filter f ++ [(q:Int)]):=hid (by rw [xd.out,x1];simp)
      go_wp2_with (at_builtin;refine Z4_ rfl _ _ rfl c.heap.size _ _ _ ((upTo q).filter f) [(q:Int)] rfl rfl (F.out.alloc _) (Row.lit1 _ (q:Int)) k52_ x53_ j52_ ?_)
      intro v' xm hown' hgrow;have hb14:Below c.heap.size WX xm:=((Below.refl _ WX).alloc HB1.out.size _).grown hgrow j52_ (fun i hi=>(F.out.lt i hi).1);exact j6_
    ·have y2:q=n:=by omega
     have z2:¬ (q:Int)<a.n:=by rw [← x6.out];omega
     have HL:Hid ((upTo q).filter f=arcsG a b s (p:Int)):=hid (by rw [y9.out,y2]);have z3:=Row.of_own x7.out rfl;have xq:=hid (RowO.of_own x7.out (OwnR.lt2 R.out));obtain ⟨Aq,cq,rfl,_⟩:=z3;have xo:=hid (R.out.below u.out);have xb:=hid (Z0_ H.out (Nat.le_refl _) u.out);have yf:=hid (ListO.one (W:=wr) wr.heap.size rfl xq.out);have xn:=hid (xo.out.upA (.cells #[.slice Aq ((upTo q).filter f).length cq] 26));have xa:=hid (xb.out.alloc xb.out.size (.cells #[.slice Aq ((upTo q).filter f).length cq] 26));have z1:((upTo p).map (arcsG a b s)).length=p:=by rw [List.length_map,Q9_]
     have ye:Hid ((upTo (p+1)).map (arcsG a b s)=(upTo p).map (arcsG a b s) ++ [(upTo q).filter f]):=hid (by
      rw [upTo_next,List.map_append,HL.out];rfl)
     clear xo xb xq R y2
     go_wp2_with (at_builtin;go_loud (refine U9_ (by first | rfl | (simp [Region.wanted,yielded,go_sem];omega)) _ _ rfl _ _ _ ((upTo p).map (arcsG a b s)) [(upTo q).filter f] rfl rfl xn.out yf.out xa.out.size (by rw [z1];simp;omega) ?_))
     intro v3 zd ho hg;have y7:=hid ho;have yc:=hid (xa.out.grown hg xa.out.size xn.out.lt);clear ho hg;go_wp2
     go_roundw
     case rel=>exact ⟨p+1,by go_num,k52_,by rw [ye.out];exact y7,yc⟩
     case measure=>simp [intOf];omega
  ·have y1:p=n:=by omega
   have z0:¬ (p:Int)<a.n:=by rw [← x6.out];omega
   have yj:=hid (OwnR.rows R.out);have yg:Hid ((upTo p).map (arcsG a b s)=adjG a b s):=hid (by rw [y8.out,y1]);have D:Hid (∀ W,Below c.drew.heap.size c.drew W→Below c.heap.size c W):=hid fun W d=>Z0_ (Below.refl _ c).drew (Nat.le_refl _) d;have ym:=hid (Z0_ xg.out (Nat.le_refl _) H.out);clear y1;go_wp2;refine wp_region_ways (ops:=ygO) (ygK ⟨w.heap.size,w.heap.size+1,.int .i64 a.t,.int .i64 a.n,.int .i64 a.a,.int .i64 a.b,.slice m a.l.length cl,.slice k a.i.length z,.int .i64 b.t,.int .i64 b.n,.int .i64 b.a,.int .i64 b.b,.slice r b.l.length C,.slice o b.i.length B,.slice J s.length L,j,addG a s,addG b s⟩) z52_ z52_ (yg_all (x:=⟨w.heap.size,w.heap.size+1,.int .i64 a.t,.int .i64 a.n,.int .i64 a.a,.int .i64 a.b,.slice m a.l.length cl,.slice k a.i.length z,.int .i64 b.t,.int .i64 b.n,.int .i64 b.a,.int .i64 b.b,.slice r b.l.length C,.slice o b.i.length B,.slice J s.length L,j,addG a s,addG b s⟩) ⟨rfl,rfl,rfl,rfl,?hK1,?hK2,?hL,?hR⟩) ?_
   case hK1=>exact fun W d=>by have h:=T.out.below (D.out W d) T.out.lt;exact ⟨h.cell 0,h.cell 1,h.cell 2,h.cell 3,h.cell 4,h.cell 5⟩
   case hK2=>exact fun W d=>by have h:=x5.out.below (D.out W d) x5.out.lt;exact ⟨h.cell 0,h.cell 1,h.cell 2,h.cell 3,h.cell 4,h.cell 5⟩
   case hL=>exact fun W d=>r13adds_any a _ _ s W (xr.out.up (D.out W d)) xi.out (xe.out.up (D.out W d)) k52_ xp.out.1
   case hR=>exact fun W d=>r13adds_any b _ _ s W (xt.out.up (D.out W d)) xj.out (xe.out.up (D.out W d)) k52_ xp.out.2
   intro g W d y5 xx y0 Z;have yn:=hid (Z0_ ym.out (Nat.le_refl _) (D.out W d));have yd:=hid (yj.out.up (D.out W d));obtain ⟨z6,yo⟩:∃ v,g.tmps.getD 53 undef=v:=⟨_,rfl⟩;obtain ⟨z7,yp⟩:∃ v,g.tmps.getD 54 undef=v:=⟨_,rfl⟩;obtain ⟨z8,yq⟩:∃ v,g.tmps.getD 55 undef=v:=⟨_,rfl⟩;obtain ⟨z9,yr⟩:∃ v,g.tmps.getD 56 undef=v:=⟨_,rfl⟩;obtain ⟨za,ys⟩:∃ v,g.tmps.getD 57 undef=v:=⟨_,rfl⟩;obtain ⟨zb,yt⟩:∃ v,g.tmps.getD 58 undef=v:=⟨_,rfl⟩;obtain ⟨zc,yu⟩:∃ v,g.tmps.getD 59 undef=v:=⟨_,rfl⟩;have h6:=Z 7 6 q53_ z52_;rw [show ek ygO (ygK ⟨w.heap.size,w.heap.size+1,.int .i64 a.t,.int .i64 a.n,.int .i64 a.a,.int .i64 a.b,.slice m a.l.length cl,.slice k a.i.length z,.int .i64 b.t,.int .i64 b.n,.int .i64 b.a,.int .i64 b.b,.slice r b.l.length C,.slice o b.i.length B,.slice J s.length L,j,addG a s,addG b s⟩) 7=.eq (j) from by kernel_rfl] at h6;have h6:g.tmps.getD 6 undef=j:=h6;have P:=Z 8 7 q53_ z52_;rw [show ek ygO (ygK ⟨w.heap.size,w.heap.size+1,.int .i64 a.t,.int .i64 a.n,.int .i64 a.a,.int .i64 a.b,.slice m a.l.length cl,.slice k a.i.length z,.int .i64 b.t,.int .i64 b.n,.int .i64 b.a,.int .i64 b.b,.slice r b.l.length C,.slice o b.i.length B,.slice J s.length L,j,addG a s,addG b s⟩) 8=.row (addG a s) from by kernel_rfl] at P;have P:Row W W.heap.size (g.tmps.getD 7 undef) (addG a s):=P;obtain ⟨v7,h7⟩:∃ v,g.tmps.getD 7 undef=v:=⟨_,rfl⟩;rw [h7] at P;have Q:=Z 9 8 q53_ z52_;rw [show ek ygO (ygK ⟨w.heap.size,w.heap.size+1,.int .i64 a.t,.int .i64 a.n,.int .i64 a.a,.int .i64 a.b,.slice m a.l.length cl,.slice k a.i.length z,.int .i64 b.t,.int .i64 b.n,.int .i64 b.a,.int .i64 b.b,.slice r b.l.length C,.slice o b.i.length B,.slice J s.length L,j,addG a s,addG b s⟩) 9=.row (addG b s) from by kernel_rfl] at Q;have Q:Row W W.heap.size (g.tmps.getD 8 undef) (addG b s):=Q;obtain ⟨v8,h8⟩:∃ v,g.tmps.getD 8 undef=v:=⟨_,rfl⟩;rw [h8] at Q;have h9:=Z 10 9 q53_ z52_;rw [show ek ygO (ygK ⟨w.heap.size,w.heap.size+1,.int .i64 a.t,.int .i64 a.n,.int .i64 a.a,.int .i64 a.b,.slice m a.l.length cl,.slice k a.i.length z,.int .i64 b.t,.int .i64 b.n,.int .i64 b.a,.int .i64 b.b,.slice r b.l.length C,.slice o b.i.length B,.slice J s.length L,j,addG a s,addG b s⟩) 10=.eq (.int .i64 0) from by kernel_rfl] at h9;have h9:g.tmps.getD 9 undef=.int .i64 0:=h9;have xz:=Ym4 (ops:=ygO) (n:=11) (N:=60) [(53,z6),(54,z7),(55,z8),(56,z9),(57,za),(58,zb),(59,zc),(6,j),(7,v7),(8,v8),(9,.int .i64 0)] rfl y5 xx (fun t ht=>y0 t (by unfold Ym1;rw [show ygO.size=11 by kernel_rfl];exact ht)) z52_ (by
    intro p hp;simp only [List.mem_cons,List.not_mem_nil,or_false] at hp;rcases hp with rfl | rfl | rfl | rfl | rfl | rfl | rfl | rfl | rfl | rfl | rfl<;>assumption)
   have yh:=hid P;have yi:=hid Q;clear P Q;clear y0 Z y5 xx yo yp yq yr ys yt yu h6 h7 h8 h9;rw [xz];clear xz;simp only [show List.range 60=[0,1,2,3,4,5,6,7,8,9,10,11,12,13,14,15,16,17,18,19,20,21,22,23,24,25,26,27,28,29,30,31,32,33,34,35,36,37,38,39,40,41,42,43,44,45,46,47,48,49,50,51,52,53,54,55,56,57,58,59] from by decide,List.map_cons,List.map_nil,List.lookup_cons,List.lookup_nil];go_simp;go_wp2;refine bodyPost_ret (v:=.tuple #[j,v7,v8,.int .i64 0]) (by simp [results,Tryz.results17,go_sem]) rfl ?_;exact ⟨_,_,_,rfl,by rw [← yg.out];exact yd.out,yh.out,yi.out,yn.out⟩
open Go Go.RowKit
theorem adjt_row {a b:Mat} {s:List Int} (i:Nat):∃ p:Int,(adjG a b s).getD i []=arcsG a b s p∨(adjG a b s).getD i []=[]:=by
 rcases Nat.lt_or_ge i (nN a) with h | h
 ·exact ⟨(i:Int),.inl (by simp [adjG,upTo,List.getD,h])⟩
 ·exact ⟨0,.inr (by simp [adjG,upTo,List.getD,h])⟩
theorem adjt_row_len {a b:Mat} {s:List Int} (c:nN a≤64) (i:Nat):((adjG a b s).getD i []).length≤64:=by
 obtain ⟨p,h | h⟩:=adjt_row (a:=a) (b:=b) (s:=s) i
 ·rw [h]
  refine Nat.le_trans (List.length_filter_le _ _) ?_;simp [upTo];omega
 ·rw [h];simp
theorem graphs_told (E:Nat→Addr) (a b:Mat) (s:List Int) (k:Sml a) (m:Sml b) (w:s.length≤1000):∃ (L:List (List Int)) (o p:List Int) (u:Int),(∀ (d e c:Value) (W:World),MatV W W.heap.size d a→MatV W W.heap.size e b→Row W W.heap.size c s→Env E W→Calls Tryz.prog 16 #[d,e,c] W (D5_ W L o p u)) ∧
  (∀ (d e c:Value) (W:World),MatV W W.heap.size d a→MatV W W.heap.size e b→Row W W.heap.size c s→Env E W→Calls Tryz.prog 17 #[d,e,c] W (D5_ W L o p u))∧L.length≤1000∧(∀ i,i<L.length→(L.getD i []).length≤1000)∧o.length≤1000∧p.length≤1000:=by
 cases hm:mayS a b s with
 | false=>exact ⟨[],[],[],1,fun d e c W g h h3 q=>Ye1 E a b d e c s W g h k m h3 k52_ q hm,fun d e c W g h h3 _=>r13graph_off a b d e c s W g h k m h3 hm,x53_,fun i v=>by simp at v,x53_,x53_⟩
 | true =>
  have j:=mayS_iff.1 hm;have r:=j.n64;refine ⟨adjG a b s,addG a s,addG b s,0,fun d e c W g h h3 q=>H2_ E a b d e c s W g h k m h3 q j,fun d e c W g h h3 _=>r13graph_on a b d e c s W g h k m h3 j,?_,fun i _=>Nat.le_trans (adjt_row_len r i) k52_,?_,?_⟩
  ·rw [A6_];omega
  ·exact Nat.le_trans (Y4_ (A9_ r)) k52_
  ·exact Nat.le_trans (Y4_ (A9_ (by rw [j.nn];exact r))) (by rw [j.nn];omega)
theorem turnt_len (s P:List Int) (hs:s.length≤20) (e:P.length≤20):(turnL s P).length≤1000:=by
 by_cases h:mayB s=true∧(sortL P).length=P.length
 ·rw [Vg9 (mayB_iff.1 h.1) h.2]
  have c:=Zx0 (Z5_ s (sortL P)) (Z5_ (sortL P) s);have d:=O9_ s (sortL P);have h3:=O9_ (sortL P) s;omega
 ·rw [Vz0 h];simp
theorem SwapTells_any (E:Nat→Addr) (a:Mat) (va:Value) (b:Mat) (vb:Value) (sw pw:Value) (s P:List Int) (w:World) (x5:MatV w w.heap.size va a) (xm:Lim a) (x6:MatV w w.heap.size vb b) (xn:Lim b) (x3:Row w w.heap.size sw s) (x2:Row w w.heap.size pw P) (hE:Env E w):Calls Tryz.prog 3 #[va,vb,.agg #[sw,pw]] w (Truly w):=by
 obtain ⟨A,hA⟩:∃ A,fewB 9 a 8=A:=⟨_,rfl⟩;obtain ⟨B,hB⟩:∃ B,fewB 9 b 8=B:=⟨_,rfl⟩;have HA:=hid hA;have HB:=hid hB;clear hA hB;have xy:=hid xm;have xz:=hid xn;obtain ⟨l1,i1,zm,zi,zg⟩:=x5.open;obtain ⟨l2,i2,zn,zj,zh⟩:=x6.open;obtain ⟨G,cl,rfl,_⟩:=zi;obtain ⟨F,M,rfl,_⟩:=zg;obtain ⟨K,S,rfl,_⟩:=zj;obtain ⟨J,R,rfl,_⟩:=zh;obtain ⟨I,Q,zl,zf,_⟩:=id x3;obtain ⟨H,O,zk,ze,_⟩:=id x2;subst zm zn zl zk;obtain ⟨T,U⟩:∃ T,T=((w.alloc (.cells #[.int .i64 a.t,.int .i64 a.n,.int .i64 a.a,.int .i64 a.b,.slice G a.l.length cl,.slice F a.i.length M] 25)).alloc (.cells #[.int .i64 b.t,.int .i64 b.n,.int .i64 b.a,.int .i64 b.b,.slice K b.l.length S,.slice J b.i.length R] 25)).alloc (.cells #[.slice I s.length Q,.slice H P.length O] 28):=⟨_,rfl⟩;have xc:=hid U;have hb3:Below w.heap.size w T:=by rw [U];exact (((Below.refl _ w).alloc (Nat.le_refl _) _).alloc x53_ _).alloc (by simp;omega) _
 have j:Hid (Blk T w.heap.size 25 #[.int .i64 a.t,.int .i64 a.n,.int .i64 a.a,.int .i64 a.b,.slice G a.l.length cl,.slice F a.i.length M]):=hid (by rw [U];exact ((Blk.new w _ _).alloc _).alloc _);have g:Hid (Blk T (w.heap.size+1) 25 #[.int .i64 b.t,.int .i64 b.n,.int .i64 b.a,.int .i64 b.b,.slice K b.l.length S,.slice J b.i.length R]):=hid (by
  rw [U];have:=(Blk.new (w.alloc (.cells #[.int .i64 a.t,.int .i64 a.n,.int .i64 a.a,.int .i64 a.b,.slice G a.l.length cl,.slice F a.i.length M] 25)) 25 #[.int .i64 b.t,.int .i64 b.n,.int .i64 b.a,.int .i64 b.b,.slice K b.l.length S,.slice J b.i.length R]).alloc (.cells #[.slice I s.length Q,.slice H P.length O] 28);simpa using this)
 have m:Hid (Blk T (w.heap.size+2) 28 #[.slice I s.length Q,.slice H P.length O]):=hid (by
  rw [U];have:=Blk.new ((w.alloc (.cells #[.int .i64 a.t,.int .i64 a.n,.int .i64 a.a,.int .i64 a.b,.slice G a.l.length cl,.slice F a.i.length M] 25)).alloc (.cells #[.int .i64 b.t,.int .i64 b.n,.int .i64 b.a,.int .i64 b.b,.slice K b.l.length S,.slice J b.i.length R] 25)) 28 #[.slice I s.length Q,.slice H P.length O];simpa using this)
 have Hb0:=hid hb3;have q:=hid (x5.up hb3);have r:=hid (x6.up hb3);have o:=hid (x3.up hb3);have z:=hid (x2.up hb3);have HE:=hid (hE.up hb3);clear x5 x6 xm xn hE x3 x2 zf ze U hb3
 go_enter Tryz.func3,Tryz.ntmps3
 go_wp2_with fail
 rw [← xc.out];refine (X6_ a _ 8 _ q.out xy.out).mono ?_;rintro e w1 ⟨rfl,C⟩;rw [HA.out];clear xc;replace HE:=hid (HE.out.up C);replace q:=hid (q.out.up C);replace r:=hid (r.out.up C);replace o:=hid (o.out.up C);replace z:=hid (z.out.up C);replace j:=hid (j.out.below C j.out.lt);replace g:=hid (g.out.below C g.out.lt);replace m:=hid (m.out.below C m.out.lt);replace Hb0:=hid (Z0_ Hb0.out (Nat.le_refl _) C);clear C;cases A
 ·exact y50_
 ·have V:=g.out.cell 0
  have X:=g.out.cell 1;have Y:=g.out.cell 2;have Z:=g.out.cell 3;have n4:=g.out.cell 4;have n5:=g.out.cell 5
  go_wp2_with fail
  refine (X6_ b _ 8 _ r.out xz.out).mono ?_;rintro e w2 ⟨rfl,D⟩;rw [HB.out];clear V X Y Z n4 n5;replace HE:=hid (HE.out.up D);replace q:=hid (q.out.up D);replace r:=hid (r.out.up D);replace o:=hid (o.out.up D);replace z:=hid (z.out.up D);replace j:=hid (j.out.below D j.out.lt);replace g:=hid (g.out.below D g.out.lt);replace m:=hid (m.out.below D m.out.lt);replace Hb0:=hid (Z0_ Hb0.out (Nat.le_refl _) D);clear D;cases B
  ·exact y50_
  ·have r0:=m.out.cell 0
   have r1:=m.out.cell 1;by_cases hl:(20:Int)<(s.length:Int)
   ·exact x23_
   ·by_cases hq:(20:Int)<(P.length:Int)
    ·exact x23_
    ·have x4:s.length≤1000:=by omega
     have xp:P.length≤1000:=k52_;have x0:=hid (V0_ HA.out);have x1:=hid (V0_ HB.out);obtain ⟨L,FA,FB,er,xd,xe,zd,xf,zb,zc⟩:=graphs_told E a b s x0.out x1.out x4;have xa:=hid xd;have xb:=hid xe;have xu:=hid xf;have xw:Hid ((turnL s P).length≤1000):=hid (turnt_len s P k52_ k52_);clear xd xe xf;have k0:=j.out.cell 0;have k1:=j.out.cell 1;have k2:=j.out.cell 2;have k3:=j.out.cell 3;have k4:=j.out.cell 4;have k5:=j.out.cell 5;have V:=g.out.cell 0;have X:=g.out.cell 1;have Y:=g.out.cell 2;have Z:=g.out.cell 3;have n4:=g.out.cell 4;have n5:=g.out.cell 5
     go_wp2_with fail
     refine (xa.out _ _ _ _ q.out r.out o.out HE.out).mono ?_;rintro e w3 ⟨vj,vf,vt,rfl,xg,hf,ht,hb3⟩;clear k0 k1 k2 k3 k4 k5 V X Y Z n4 n5 r0 r1 xa;replace HE:=hid (HE.out.up hb3);replace q:=hid (q.out.up hb3);replace r:=hid (r.out.up hb3);replace o:=hid (o.out.up hb3);replace z:=hid (z.out.up hb3);replace j:=hid (j.out.below hb3 j.out.lt);replace g:=hid (g.out.below hb3 g.out.lt);replace m:=hid (m.out.below hb3 m.out.lt);replace Hb0:=hid (Z0_ Hb0.out (Nat.le_refl _) hb3);clear hb3;have HJ:=hid xg;have HF:=hid hf;have HT:=hid ht;clear xg hf ht;have k0:=j.out.cell 0;have k1:=j.out.cell 1;have k2:=j.out.cell 2;have k3:=j.out.cell 3;have k4:=j.out.cell 4;have k5:=j.out.cell 5;have V:=g.out.cell 0;have X:=g.out.cell 1;have Y:=g.out.cell 2;have Z:=g.out.cell 3;have n4:=g.out.cell 4;have n5:=g.out.cell 5;have r0:=m.out.cell 0
     go_wp2_with fail
     refine (xb.out _ _ _ _ q.out r.out o.out HE.out).mono ?_;rintro e w4 ⟨x8,x7,x9,rfl,xh,xk,xr,y⟩;clear k0 k1 k2 k3 k4 k5 V X Y Z n4 n5 r0 xb;replace HE:=hid (HE.out.up y);replace q:=hid (q.out.up y);replace r:=hid (r.out.up y);replace o:=hid (o.out.up y);replace z:=hid (z.out.up y);replace HJ:=hid (HJ.out.up y);replace HF:=hid (HF.out.up y);replace HT:=hid (HT.out.up y);replace j:=hid (j.out.below y j.out.lt);replace g:=hid (g.out.below y g.out.lt);replace m:=hid (m.out.below y m.out.lt);replace Hb0:=hid (Z0_ Hb0.out (Nat.le_refl _) y);clear y;have xt:=hid xh;have xs:=hid xk;have xv:=hid xr;clear xh xk xr;have k:Hid (∀ W,Below w4.drew.heap.size w4.drew W→Below w4.heap.size w4 W):=hid fun W d=>Z0_ (Below.refl _ w4).drew (Nat.le_refl _) d;go_wp2;refine wp_region_ways (ops:=vlO) (vlK ⟨w.heap.size,w.heap.size+1,w.heap.size+2,.int .i64 a.t,.int .i64 a.n,.int .i64 a.a,.int .i64 a.b,.slice G a.l.length cl,.slice F a.i.length M,.int .i64 b.t,.int .i64 b.n,.int .i64 b.a,.int .i64 b.b,.slice K b.l.length S,.slice J b.i.length R,.slice I s.length Q,.slice H P.length O,vj,vf,vt,x8,x7,x9,er,turnL s P,mayS a b s⟩) z52_ z52_ (vl_all (x:=⟨w.heap.size,w.heap.size+1,w.heap.size+2,.int .i64 a.t,.int .i64 a.n,.int .i64 a.a,.int .i64 a.b,.slice G a.l.length cl,.slice F a.i.length M,.int .i64 b.t,.int .i64 b.n,.int .i64 b.a,.int .i64 b.b,.slice K b.l.length S,.slice J b.i.length R,.slice I s.length Q,.slice H P.length O,vj,vf,vt,x8,x7,x9,er,turnL s P,mayS a b s⟩) ⟨rfl,rfl,rfl,rfl,rfl,rfl,rfl,rfl,rfl,rfl,rfl,?hK1,?hK2,?hK30,?hK31,?hF,?hM1,?hM2,?hL,?hS1,?hS2,?hT1,?hT2,?hS3⟩) ?_
     case hK1=>exact fun W d=>by have h:=j.out.below (k.out W d) j.out.lt;exact ⟨h.cell 0,h.cell 1,h.cell 2,h.cell 3,h.cell 4,h.cell 5⟩
     case hK2=>exact fun W d=>by have h:=g.out.below (k.out W d) g.out.lt;exact ⟨h.cell 0,h.cell 1,h.cell 2,h.cell 3,h.cell 4,h.cell 5⟩
     case hK30=>exact fun W d=>(m.out.below (k.out W d) m.out.lt).cell 0
     case hK31=>exact fun W d=>(m.out.below (k.out W d) m.out.lt).cell 1
     case hF=>exact fun W d=>Y0_ E W (HE.out.up (k.out W d))
     case hM1=>exact fun W d=>W4_ E a b _ _ _ s W (q.out.up (k.out W d)) (r.out.up (k.out W d)) x0.out x1.out (o.out.up (k.out W d)) k52_ (HE.out.up (k.out W d))
     case hM2=>exact fun W d=>C5_ a b _ _ _ s W (q.out.up (k.out W d)) (r.out.up (k.out W d)) x0.out x1.out (o.out.up (k.out W d))
     case hL=>exact fun W d=>Xy3 _ _ L W (HJ.out.up (k.out W d)) (xt.out.up (k.out W d)) zd xu.out
     case hS1=>exact fun W d=>cS _ _ FA W (HF.out.up (k.out W d)) (xs.out.up (k.out W d)) zb
     case hS2=>exact fun W d=>cS _ _ FB W (HT.out.up (k.out W d)) (xv.out.up (k.out W d)) zc
     case hT1=>exact fun W d=>K9_ _ _ s P W (o.out.up (k.out W d)) (z.out.up (k.out W d)) x4 xp
     case hT2=>exact fun W d=>Ye4 _ _ s P W (o.out.up (k.out W d)) (z.out.up (k.out W d)) x4 xp
     case hS3=>exact fun W d u hu v hv=>cS u v (turnL s P) W hu hv xw.out
     intro c W d xq xj xo xi;have xx:=hid (Z0_ Hb0.out (Nat.le_refl _) (k.out W d));obtain ⟨zr,y3⟩:∃ v,c.tmps.getD 56 undef=v:=⟨_,rfl⟩;obtain ⟨zs,y4⟩:∃ v,c.tmps.getD 57 undef=v:=⟨_,rfl⟩;obtain ⟨zt,y5⟩:∃ v,c.tmps.getD 58 undef=v:=⟨_,rfl⟩;obtain ⟨zu,y6⟩:∃ v,c.tmps.getD 59 undef=v:=⟨_,rfl⟩;obtain ⟨zv,y7⟩:∃ v,c.tmps.getD 60 undef=v:=⟨_,rfl⟩;obtain ⟨zw,y8⟩:∃ v,c.tmps.getD 61 undef=v:=⟨_,rfl⟩;obtain ⟨zx,y9⟩:∃ v,c.tmps.getD 62 undef=v:=⟨_,rfl⟩;obtain ⟨zy,ya⟩:∃ v,c.tmps.getD 63 undef=v:=⟨_,rfl⟩;obtain ⟨zz,yb⟩:∃ v,c.tmps.getD 64 undef=v:=⟨_,rfl⟩;obtain ⟨u0,yc⟩:∃ v,c.tmps.getD 65 undef=v:=⟨_,rfl⟩;obtain ⟨u1,yd⟩:∃ v,c.tmps.getD 66 undef=v:=⟨_,rfl⟩;obtain ⟨u2,ye⟩:∃ v,c.tmps.getD 67 undef=v:=⟨_,rfl⟩;obtain ⟨u3,yf⟩:∃ v,c.tmps.getD 68 undef=v:=⟨_,rfl⟩;obtain ⟨u4,yg⟩:∃ v,c.tmps.getD 69 undef=v:=⟨_,rfl⟩;obtain ⟨u5,yh⟩:∃ v,c.tmps.getD 70 undef=v:=⟨_,rfl⟩;obtain ⟨u6,yi⟩:∃ v,c.tmps.getD 71 undef=v:=⟨_,rfl⟩;obtain ⟨u7,yj⟩:∃ v,c.tmps.getD 72 undef=v:=⟨_,rfl⟩;obtain ⟨u8,yk⟩:∃ v,c.tmps.getD 73 undef=v:=⟨_,rfl⟩;obtain ⟨u9,yl⟩:∃ v,c.tmps.getD 74 undef=v:=⟨_,rfl⟩;obtain ⟨ua,ym⟩:∃ v,c.tmps.getD 75 undef=v:=⟨_,rfl⟩;obtain ⟨ub,yn⟩:∃ v,c.tmps.getD 76 undef=v:=⟨_,rfl⟩;obtain ⟨uc,yo⟩:∃ v,c.tmps.getD 77 undef=v:=⟨_,rfl⟩;obtain ⟨ud,yp⟩:∃ v,c.tmps.getD 78 undef=v:=⟨_,rfl⟩;obtain ⟨ue,yq⟩:∃ v,c.tmps.getD 79 undef=v:=⟨_,rfl⟩;obtain ⟨uf,yr⟩:∃ v,c.tmps.getD 80 undef=v:=⟨_,rfl⟩;obtain ⟨ug,ys⟩:∃ v,c.tmps.getD 81 undef=v:=⟨_,rfl⟩;obtain ⟨uh,yt⟩:∃ v,c.tmps.getD 82 undef=v:=⟨_,rfl⟩;obtain ⟨ui,yu⟩:∃ v,c.tmps.getD 83 undef=v:=⟨_,rfl⟩;obtain ⟨uj,yv⟩:∃ v,c.tmps.getD 84 undef=v:=⟨_,rfl⟩;obtain ⟨uk,yw⟩:∃ v,c.tmps.getD 85 undef=v:=⟨_,rfl⟩;obtain ⟨ul,yx⟩:∃ v,c.tmps.getD 86 undef=v:=⟨_,rfl⟩;obtain ⟨um,yy⟩:∃ v,c.tmps.getD 87 undef=v:=⟨_,rfl⟩;obtain ⟨un,yz⟩:∃ v,c.tmps.getD 88 undef=v:=⟨_,rfl⟩;obtain ⟨uo,z0⟩:∃ v,c.tmps.getD 89 undef=v:=⟨_,rfl⟩;obtain ⟨uq,z1⟩:∃ v,c.tmps.getD 90 undef=v:=⟨_,rfl⟩;obtain ⟨ur,z2⟩:∃ v,c.tmps.getD 91 undef=v:=⟨_,rfl⟩;obtain ⟨us,z3⟩:∃ v,c.tmps.getD 92 undef=v:=⟨_,rfl⟩;obtain ⟨ut,z4⟩:∃ v,c.tmps.getD 93 undef=v:=⟨_,rfl⟩;obtain ⟨uu,z5⟩:∃ v,c.tmps.getD 94 undef=v:=⟨_,rfl⟩;obtain ⟨uv,z6⟩:∃ v,c.tmps.getD 95 undef=v:=⟨_,rfl⟩;obtain ⟨uw,z7⟩:∃ v,c.tmps.getD 96 undef=v:=⟨_,rfl⟩;obtain ⟨ux,z8⟩:∃ v,c.tmps.getD 97 undef=v:=⟨_,rfl⟩;obtain ⟨uy,z9⟩:∃ v,c.tmps.getD 98 undef=v:=⟨_,rfl⟩;obtain ⟨uz,za⟩:∃ v,c.tmps.getD 99 undef=v:=⟨_,rfl⟩;obtain ⟨zo,y0⟩:∃ v,c.tmps.getD 100 undef=v:=⟨_,rfl⟩;obtain ⟨zp,y1⟩:∃ v,c.tmps.getD 101 undef=v:=⟨_,rfl⟩;obtain ⟨zq,y2⟩:∃ v,c.tmps.getD 102 undef=v:=⟨_,rfl⟩;have h6:=xi 47 6 (by rw [show vlO.size=48 by kernel_rfl];decide) z52_;rw [show ek vlO (vlK ⟨w.heap.size,w.heap.size+1,w.heap.size+2,.int .i64 a.t,.int .i64 a.n,.int .i64 a.a,.int .i64 a.b,.slice G a.l.length cl,.slice F a.i.length M,.int .i64 b.t,.int .i64 b.n,.int .i64 b.a,.int .i64 b.b,.slice K b.l.length S,.slice J b.i.length R,.slice I s.length Q,.slice H P.length O,vj,vf,vt,x8,x7,x9,er,turnL s P,mayS a b s⟩) 47=.eq (.bool true) from by kernel_rfl] at h6;have h6:c.tmps.getD 6 undef=.bool true:=h6;have xl:=Ym4 (ops:=vlO) (n:=48) (N:=103) [(56,zr),(57,zs),(58,zt),(59,zu),(60,zv),(61,zw),(62,zx),(63,zy),(64,zz),(65,u0),(66,u1),(67,u2),(68,u3),(69,u4),(70,u5),(71,u6),(72,u7),(73,u8),(74,u9),(75,ua),(76,ub),(77,uc),(78,ud),(79,ue),(80,uf),(81,ug),(82,uh),(83,ui),(84,uj),(85,uk),(86,ul),(87,um),(88,un),(89,uo),(90,uq),(91,ur),(92,us),(93,ut),(94,uu),(95,uv),(96,uw),(97,ux),(98,uy),(99,uz),(100,zo),(101,zp),(102,zq),(6,.bool true)] rfl xq xj (fun t ht=>xo t (by unfold Ym1;rw [show vlO.size=48 by kernel_rfl];exact ht)) z52_ (by
      intro p hp;simp only [List.mem_cons,List.not_mem_nil,or_false] at hp;rcases hp with rfl | rfl | rfl | rfl | rfl | rfl | rfl | rfl | rfl | rfl | rfl | rfl | rfl | rfl | rfl | rfl | rfl | rfl | rfl | rfl | rfl | rfl | rfl | rfl | rfl | rfl | rfl | rfl | rfl | rfl | rfl | rfl | rfl | rfl | rfl | rfl | rfl | rfl | rfl | rfl | rfl | rfl | rfl | rfl | rfl | rfl | rfl | rfl<;>assumption)
     clear xo xi xq xj y3 y4 y5 y6 y7 y8 y9 ya yb yc yd ye yf yg yh yi yj yk yl ym yn yo yp yq yr ys yt yu yv yw yx yy yz z0 z1 z2 z3 z4 z5 z6 z7 z8 z9 za y0 y1 y2 h6;rw [xl];clear xl;simp only [show List.range 103=[0,1,2,3,4,5,6,7,8,9,10,11,12,13,14,15,16,17,18,19,20,21,22,23,24,25,26,27,28,29,30,31,32,33,34,35,36,37,38,39,40,41,42,43,44,45,46,47,48,49,50,51,52,53,54,55,56,57,58,59,60,61,62,63,64,65,66,67,68,69,70,71,72,73,74,75,76,77,78,79,80,81,82,83,84,85,86,87,88,89,90,91,92,93,94,95,96,97,98,99,100,101,102] from by decide,List.map_cons,List.map_nil,List.lookup_cons,List.lookup_nil];go_simp;go_wp2;go_ret;exact ⟨rfl,xx.out⟩
end Wp
end Go.Proofs.YteiejkhdonmcdaaGreatDoor
