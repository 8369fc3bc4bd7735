/- union's Class, takes and room, and the document's Class of layer 16, walked (written by gen_ucls.py). -/
import Derived.Test.YtheeajnkiniopaaGreatDoorUWay
import Derived.Test.YtheeajnkiniopaaGreatDoorUAdj
import Derived.Test.YtheeajnkiniopaaGreatDoorUTurnP
import Derived.Test.YtheeajnkiniopaaGreatDoorIUnion
import Derived.Test.YtheeajnkiniopaaGreatDoorQWalkA
import Derived.Deep.RegionHeld3
import Derived.Test.YtheeajnkiniopaaGreatDoorX0A
import Derived.Test.YtheeajnkiniopaaGreatDoorX0B
set_option maxHeartbeats 8000000
set_option maxRecDepth 100000
open Go.Lib (hid)
open Nat (le_refl)
namespace Go.Proofs.YtheeajnkiniopaaGreatDoor.Wp
open Go Go.RowKit
def clsTo (c:List Int) (k:Int) (j:Nat):List Int:=(upTo j).filter fun x=>c.getD x.toNat 0==k
theorem Zb9 (c:List Int) (k:Int) (j:Nat):clsTo c k (j+1)=clsTo c k j ++ if (c.getD j 0==k)=true then [(j:Int)] else []:=by
 unfold clsTo;rw [Zy0,List.filter_append];congr 1;by_cases h:(c.getD j 0==k)=true
 ·rw [if_pos h]
  simp only [List.filter,Int.toNat_natCast,h]
 ·rw [if_neg h]
  rw [Bool.not_eq_true] at h;simp only [List.filter,Int.toNat_natCast,h]
theorem Zp9 (c:List Int) (k:Int) (j:Nat):(clsTo c k j).length≤j:=by
 have:=List.length_filter_le (fun x:Int=>c.getD x.toNat 0==k) (upTo j)
 rwa [X5_] at this
theorem Zr0 (c:List Int) (k:Int):clsTo c k c.length=Z2_ c k:=rfl
def R0_ (f:Int→Bool) (n:Int) (j:Nat):List Int:=((upTo j).filter f).map fun k=>n+k
theorem Yy5 (f:Int→Bool) (n:Int) (j:Nat):R0_ f n (j+1)=R0_ f n j ++ if f (j:Int)=true then [n+(j:Int)] else []:=by
 unfold R0_;rw [Zy0,List.filter_append,List.map_append];congr 1;by_cases h:f (j:Int)=true
 ·rw [if_pos h]
  simp [List.filter,h]
 ·rw [if_neg h]
  rw [Bool.not_eq_true] at h;simp [List.filter,h]
theorem Ym4 (f:Int→Bool) (n:Int) (j:Nat):(R0_ f n j).length≤j:=by
 unfold R0_;rw [List.length_map];have:=List.length_filter_le f (upTo j)
 rwa [X5_] at this
theorem MatL.one {w:World} {v:Value} {ms:List Mat} (h:MatL w w.heap.size v ms) {k:Nat} (s:k<ms.length):∃ (c:Addr) (d:Nat) (f e:Value),v=.slice (some c) ms.length d ∧
  MatV w w.heap.size (.agg #[.int .i64 (ms.getD k default).t,.int .i64 (ms.getD k default).n,.int .i64 (ms.getD k default).a,.int .i64 (ms.getD k default).b,f,e]) (ms.getD k default) ∧
  ∀ W,Below w.heap.size w W→W.cell? (c.add (k * 6))=some (.int .i64 (ms.getD k default).t)∧W.cell? ⟨(c.add (k * 6)).block,(c.add (k * 6)).off+1,none⟩=some (.int .i64 (ms.getD k default).n)∧W.cell? ⟨(c.add (k * 6)).block,(c.add (k * 6)).off+2,none⟩=some (.int .i64 (ms.getD k default).a) ∧
   W.cell? ⟨(c.add (k * 6)).block,(c.add (k * 6)).off+3,none⟩=some (.int .i64 (ms.getD k default).b)∧W.cell? ⟨(c.add (k * 6)).block,(c.add (k * 6)).off+4,none⟩=some f∧W.cell? ⟨(c.add (k * 6)).block,(c.add (k * 6)).off+5,none⟩=some e:=by
 obtain ⟨A,d,rfl,_,x⟩:=h;obtain ⟨c,u,rfl,hB,hs,g⟩:=x k s;obtain ⟨f,e,y,_,_⟩:=g.open;subst y;refine ⟨c,d,f,e,rfl,g,fun W r=>?_⟩;obtain ⟨z,B,C,D,E,F,j,m,o,h2,h3,p,q⟩:=hs.below r x37_;simp only [Value.agg.injEq,Array.mk.injEq,List.cons.injEq,and_true] at j;obtain ⟨rfl,rfl,rfl,rfl,rfl,rfl⟩:=j;exact ⟨m,o,h2,h3,p,q⟩
theorem H2_ {w w':World} {base:Nat} {e:TypeId} {k n:Nat} {v:Value} {c:List Value} (h:w.ownsRow base e k v n c) (hb:Below w.heap.size w w'):w'.ownsRow base e k v n c :=
 h.kept (row:=none) (Y8_ hb _) (by cases d:Value.ownBlock v<;>simp)
theorem Q1_ (v:Value) (c:List Int) (q:Int) (w:World) (e:Row w w.heap.size v c) (hl:c.length≤1048576):Calls Tryz.prog 18 #[v,.int .i64 q] w (GivesF w (Z2_ c q)):=by
 have HR:=hid e;obtain ⟨A,d,rfl,_⟩:=id e;have s:(c.length:Int)≤1048576:=k29_;clear e
 go_enter Tryz.func18,Tryz.ntmps18
 go_wp2
 go_loopw [5,6,7,10] (fun p _ _ h wr=>∃ j:Nat,h=.int .i64 j∧j≤c.length∧wr.ownsRow w.heap.size 3 1 p (clsTo c q j).length (ints (clsTo c q j))∧Below w.heap.size w wr) (fun _ _ _ h _=>c.length - (intOf h).toNat)
 case atStart=>exact ⟨0,rfl,Nat.zero_le _,World.ownsRow_nil _ _ _ _,Below.refl _ _⟩
 case round =>
  obtain ⟨j,rfl,r,k,hb⟩:=hrel;have Hown:=hid k;have Hb:=hid hb;clear k;by_cases hlt:j<c.length
  ·exact q2_
  ·have o:j=c.length:=by omega
   subst o;rw [Zr0] at Hown;go_wp2;go_ret;exact ⟨_,rfl,Row.of_own Hown.out rfl,Hb.out,fun g m=>(Hown.out.lt g m).1⟩
theorem S9_ (v:Value) (c:List Int) (q:Int) (w:World) (e:Row w w.heap.size v c) (hl:c.length≤1048576):Calls Tryz.prog 19 #[v,.int .i64 q] w (Gives w (Z2_ c q)):=by
 have HR:=hid e;obtain ⟨A,d,rfl,_⟩:=id e;have p:(c.length:Int)≤1048576:=k29_;clear e
 go_enter Tryz.func19,Tryz.ntmps19
 go_wp2
 go_loopw [5,6] (fun m g wr=>∃ j:Nat,g=.int .i64 j∧j≤c.length∧wr.ownsRow w.heap.size 3 1 m (clsTo c q j).length (ints (clsTo c q j))∧Below w.heap.size w wr) (fun _ g _=>c.length - (intOf g).toNat)
 case atStart=>exact ⟨0,rfl,Nat.zero_le _,World.ownsRow_made w #[] 0 (le_refl _) k31_ rfl,(Below.refl _ w).alloc (le_refl _) _⟩
 case round =>
  obtain ⟨j,rfl,o,h,hb⟩:=hrel;have Hown:=hid h;have Hb:=hid hb;clear h;by_cases hlt:j<c.length
  ·exact q2_
  ·have k:j=c.length:=by omega
   subst k;rw [Zr0] at Hown;go_wp2;go_ret;exact ⟨_,rfl,Row.of_own Hown.out rfl,Hb.out⟩
theorem Zc0 (E:Nat→Addr) (ms:List Mat) (r C P:Value) (s:List Int) (k:Nat) (x:Int) (w:World) (hl:MatL w w.heap.size r ms) (q:k<ms.length) (hs:∀ m∈ms,Sml m) (y:Row w w.heap.size P s) (x1:s.length≤1000) (G:Env E w) :
  Calls Tryz.prog 91 #[.agg #[r,C],.int .i64 (k:Int),P,.int .i64 x] w (Says w (indT (ms.getD k default) (X2_ s [x]))):=by
 obtain ⟨g,hW0⟩:∃ g,g=w.alloc (.cells #[r,C] 47):=⟨_,rfl⟩;have S:=hid hW0;have j:Below w.heap.size w g:=q32_;have J:Blk g w.heap.size 47 #[r,C]:=z33_;have X:=hid (hs (ms.getD k default) (by rw [List.getD_eq_getElem?_getD,List.getElem?_eq_getElem q];exact List.getElem_mem q));obtain ⟨c,d,O,N,rfl,L,K⟩:=hl.one q;have x0:(k:Int)<(ms.length:Int):=k29_;generalize ms.getD k default=m at *
 have U:=hid j;have D:=hid J;have p:=(Below.refl g.heap.size g).drew;have Q:=hid ((y.up j).up p);have v:=hid ((L.up j).up p);have u:=hid ((G.up j).up p);have F:Hid (∀ W,Below g.drew.heap.size g.drew W→W.cell? ⟨w.heap.size,0,none⟩=some (.slice (some c) ms.length d)∧W.cell? (c.add (k * 6))=some (.int .i64 m.t)∧W.cell? ⟨(c.add (k * 6)).block,(c.add (k * 6)).off+1,none⟩=some (.int .i64 m.n)∧W.cell? ⟨(c.add (k * 6)).block,(c.add (k * 6)).off+2,none⟩=some (.int .i64 m.a)∧W.cell? ⟨(c.add (k * 6)).block,(c.add (k * 6)).off+3,none⟩=some (.int .i64 m.b)∧W.cell? ⟨(c.add (k * 6)).block,(c.add (k * 6)).off+4,none⟩=some (O)∧W.cell? ⟨(c.add (k * 6)).block,(c.add (k * 6)).off+5,none⟩=some (N)):=hid fun W H=>⟨(D.out.drew.below H D.out.lt).cell 0,K W (Z0_ j (le_refl _) (Z0_ p (le_refl _) H))⟩;have h:Hid (Below g.drew.heap.size g.drew g.drew):=hid (Below.refl _ _);have Z:Hid ((X2_ s [x]).length≤1048576):=hid (by have:=Zk5 s [x];simp only [List.length_cons,List.length_nil] at this;omega);have Y:s.length≤1048576:=k29_;obtain ⟨z,B⟩:∃ z,indT m (X2_ s [x])=z:=⟨_,rfl⟩;have T:=hid B;rw [B];obtain ⟨As,cs,rfl,_⟩:=id y;clear hW0 j J y L K hl G hs p B q
 go_enter Tryz.func91,Tryz.ntmps91
 go_wp2;rw [← S.out]
 go_region_held3 (fun W=>W.cell? ⟨w.heap.size,0,none⟩=some (.slice (some c) ms.length d)∧W.cell? (c.add (k * 6))=some (.int .i64 m.t)∧W.cell? ⟨(c.add (k * 6)).block,(c.add (k * 6)).off+1,none⟩=some (.int .i64 m.n)∧W.cell? ⟨(c.add (k * 6)).block,(c.add (k * 6)).off+2,none⟩=some (.int .i64 m.a)∧W.cell? ⟨(c.add (k * 6)).block,(c.add (k * 6)).off+3,none⟩=some (.int .i64 m.b)∧W.cell? ⟨(c.add (k * 6)).block,(c.add (k * 6)).off+4,none⟩=some (O)∧W.cell? ⟨(c.add (k * 6)).block,(c.add (k * 6)).off+5,none⟩=some (N))
  (first | exact F.out _ h.out | exact F.out _ (h.out.alloc (le_refl _) _))
  (first
  | (go_at_call 119;refine (Zn5 _ _ s [x] _ (Q.out.upA _) (Row.here (Row.lit1 _ x)) Y y30_).mono ?_;rintro e w1 ⟨v1,rfl,M,o⟩;replace o:=Z0_ ((Below.refl _ g.drew).alloc (le_refl _) _) (le_refl _) o;replace h:=hid o;replace v:=hid (v.out.up o);replace u:=hid (u.out.up o);have R:=hid M;clear M o)
  | (go_at_call 118;refine (Xq2 E m _ _ _ _ v.out X.out R.out Z.out u.out).mono ?_;rintro e w2 ⟨rfl,I⟩;rw [T.out];replace h:=hid (Z0_ h.out (le_refl _) I);clear I))
 all_goals
  have V:=hid (Z0_ U.out.drew (le_refl _) h.out);go_simp;go_wp2;go_ret;exact ⟨rfl,V.out⟩
theorem Xq1 (E:Nat→Addr) (ms:List Mat) (j s:Option Addr) (p q:Nat) (c:List Int) (x:Nat) (w:World) (hl:MatL w w.heap.size (.slice j ms.length p) ms) (hs:∀ m∈ms,Sml m) (S:Row w w.heap.size (.slice s c.length q) c) (x9:c.length≤64) (xj:ms.length≤8) (hx:x<c.length) (L:Env E w) :
  Calls Tryz.prog 65 #[.agg #[.slice j ms.length p,.slice s c.length q],.int .i64 (x:Int)] w (GivesF w (J3_ ms c (x:Int))):=by
 have xl:(x:Int)<(c.length:Int):=k29_;have xh:(c.length:Int)≤64:=k29_;have xk:(ms.length:Int)≤8:=k29_;obtain ⟨n,R⟩:∃ n:Int,(c.length:Int)=n:=⟨_,rfl⟩;have xe:=hid R;clear R;obtain ⟨o,hW0⟩:∃ o,o=w.alloc (.cells #[.slice j ms.length p,.slice s c.length q] 47):=⟨_,rfl⟩;have x4:=hid hW0;have u:Below w.heap.size w o:=q32_;have O:Blk o w.heap.size 47 #[.slice j ms.length p,.slice s c.length q]:=z33_;have Hb0:=hid u;have C:=hid O;have HL:=hid (hl.up u);have J:=hid (S.up u);have HE:=hid (L.up u);have Hs:=hid hs;clear hW0 u O hl S L hs
 go_enter Tryz.func65,Tryz.ntmps65
 have b0:(w.alloc (.cells #[.slice j ms.length p,.slice s c.length q] 47)).cell? ⟨w.heap.size,0,none⟩=some (.slice j ms.length p):=(Blk.new w _ _).cell 0;go_wp2;rw [← x4.out]
 go_loopw [5,6,10] (fun v5 _ I wr=>∃ k:Nat,I=.int .i64 k∧k≤ms.length∧wr.ownsRow o.heap.size 3 1 v5 (R0_ (fun k=>roomB ms c (x:Int) k) (c.length:Int) k).length (ints (R0_ (fun k=>roomB ms c (x:Int) k) (c.length:Int) k))∧Below o.heap.size o wr) (fun _ _ I _=>ms.length - (intOf I).toNat)
 case atStart=>exact ⟨0,rfl,Nat.zero_le _,World.ownsRow_nil _ _ _ _,Below.refl _ _⟩
 case round =>
  obtain ⟨k,rfl,hk,T,hb⟩:=hrel;have Hown:=hid T;have Hb:=hid hb;clear T;have V:w.heap.size<wr.heap.size:=Nat.lt_of_lt_of_le C.out.lt hb.size;have xf:=hid V;by_cases xb:k<ms.length
  ·have xi:(k:Int)<(ms.length:Int):=by omega
   have Hkr:=hid (C.out.below hb C.out.lt);obtain ⟨v,hA,Q⟩:=Row.nth J.out hx;have x2:=hid (HL.out.up hb);have x3:=hid (J.out.up hb);have x1:=hid (HE.out.up hb);have Hn:=hid (Yy5 (fun k=>roomB ms c (x:Int) k) (c.length:Int) k);have x6:Hid ((R0_ (fun k=>roomB ms c (x:Int) k) (c.length:Int) k).length≤1048576):=hid (Nat.le_trans (Ym4 _ _ _) k29_);have D:Hid (roomB ms c (x:Int) (k:Int)=(!(c.getD x 0==(k:Int)) && indT (ms.getD k default) (X2_ (Z2_ c (k:Int)) [(x:Int)]))):=hid (by unfold roomB;rw [Int.toNat_natCast,Zj1]);have P:(Z2_ c (k:Int)).length≤1000:=by have:=V6_ (V3_ x9 (k:Int));omega
   have x5:=hid P;have HOc:=hid Q;obtain ⟨z,X⟩:∃ z,c.getD x 0=z:=⟨_,rfl⟩;rw [X] at D HOc;subst hA;have HK:Hid (∀ W,Below wr.drew.heap.size wr.drew W→W.cell? ⟨w.heap.size,0,none⟩=some (.slice j ms.length p)∧W.cell? ⟨w.heap.size,1,none⟩=some (.slice (some v) c.length q)∧W.cell? (v.add x)=some (.int .i64 z)):=hid fun W hW=>q12_;generalize R0_ (fun k=>roomB ms c (x:Int) k) (c.length:Int) k=Z at *
   have d:Hid (Below wr.drew.heap.size wr.drew wr.drew):=hid (Below.refl _ _);clear hb Q X P V;by_cases r:(k:Int)=z
   ·have xc:((k:Int) != z)=false:=by rw [r];simp
    have xd:((k:Int)==z)=true:=by rw [r];simp
    have G:(z==(k:Int))=true:=by rw [r];simp
    have hrf:Hid (roomB ms c (x:Int) (k:Int)=false):=hid (by rw [D.out,G];rfl);go_wp2;refine Z5_ wr.heap.size wr q30_ q30_ (Below.refl _ _) ?_
    iterate 17 (first
     | go_big_quiet_skip
     | (go_big_quiet_want;apply Exists.intro;refine ⟨fun W hW=>?_,?_⟩;(· have h:=Hkr.out.below hW Hkr.out.lt;have q0:=h.cell 0;have q1:=h.cell 1;have q2:=HOc.out W (Z0_ Hb.out (le_refl _) hW);go_simp;first | exact rfl | exact ⟨rfl,rfl⟩);go_simp;go_big_quiet_on))
    refine wpQuiet_nil ?_;intro w5 F;have Hb5:=hid (Z0_ Hb.out (le_refl _) F);have Ho5:=hid (H2_ Hown.out F);clear F;exact z9_
   ·have xc:((k:Int) != z)=true:=by simpa using r
    have xd:((k:Int)==z)=false:=by simpa using r
    have G:(z==(k:Int))=false:=by simpa using fun e=>r e.symm
    obtain ⟨y,H⟩:∃ y,indT (ms.getD k default) (X2_ (Z2_ c (k:Int)) [(x:Int)])=y:=⟨_,rfl⟩;have HY:=hid H;have hrf:Hid (roomB ms c (x:Int) (k:Int)=y):=hid (by rw [D.out,G,H];rfl);have x8:c.length≤1048576:=k29_;clear H;go_wp2
    go_region_held3 (fun W=>W.cell? ⟨w.heap.size,0,none⟩=some (.slice j ms.length p)∧W.cell? ⟨w.heap.size,1,none⟩=some (.slice (some v) c.length q)∧W.cell? (v.add x)=some (.int .i64 z))
     (exact HK.out _ d.out)
     (first
     | (go_at_call 18;refine (Q1_ _ c (k:Int) _ (x3.out.up (Z0_ (Below.refl _ wr).drew (le_refl _) d.out)) x8).mono ?_;rintro e w3 ⟨v3,rfl,U,M,_⟩;replace d:=hid (Z0_ d.out (le_refl _) M);have x0:=hid U;clear U M)
     | (go_at_call 91;refine (Zc0 E ms _ _ _ (Z2_ c (k:Int)) k (x:Int) _ (x2.out.up (Z0_ (Below.refl _ wr).drew (le_refl _) d.out)) xb Hs.out x0.out x5.out (x1.out.up (Z0_ (Below.refl _ wr).drew (le_refl _) d.out))).mono ?_;rintro e w4 ⟨rfl,N⟩;rw [HY.out];replace d:=hid (Z0_ d.out (le_refl _) N);clear N))
    all_goals
     have B:=hid (Z0_ (Below.refl _ wr).drew (le_refl _) d.out);have Hb5:=hid (Z0_ Hb.out (le_refl _) B.out);have Ho5:=hid (H2_ Hown.out B.out);have b1:=(Hkr.out.below B.out Hkr.out.lt).cell 1;cases y
     ·exact z9_
     ·have xg:IntKind.i64.wrap ((c.length:Int)+(k:Int))=(c.length:Int)+(k:Int):=by rw [IntKind.wrap_i64];omega
      go_wp2_with (at_builtin;refine Z8_ rfl _ _ rfl o.heap.size _ _ _ Z [(c.length:Int)+(k:Int)] rfl rfl (Ho5.out.alloc _) (Row.lit1 _ _) (by have:=x6.out;omega) y30_ y36_ ?_)
      intro v' xm K h2;have Y:=hid ((Hb5.out.alloc Hb5.out.size _).grown h2 y36_ (fun i hi=>(Ho5.out.lt i hi).1));have x7:=hid K;clear K h2 b1;go_wp2
      go_roundw
      case rel=>exact ⟨k+1,y31_,k29_,by rw [Hn.out,if_pos hrf.out,List.length_append];exact x7.out,Y.out⟩
      exact mz_
  ·have xa:k=ms.length:=by omega
   subst xa;exact z10_
end Go.Proofs.YtheeajnkiniopaaGreatDoor.Wp
