/- union's Class, takes and room, and the document's Class of layer 16, walked (written by gen_ucls.py). -/
import Derived.Test.YtheeajnkiniopaaGreatDoorUWay
import Derived.Test.YtheeajnkiniopaaGreatDoorUAdj
import Derived.Test.YtheeajnkiniopaaGreatDoorZR
import Derived.Test.YtheeajnkiniopaaGreatDoorIUnion
import Derived.Test.YtheeajnkiniopaaGreatDoorQWalkA
import Derived.Deep.RegionHeld3
import Derived.Test.YtheeajnkiniopaaGreatDoorX0A
import Derived.Test.YtheeajnkiniopaaGreatDoorX0B
set_option maxHeartbeats 8000000
set_option maxRecDepth 100000
open Go.Lib (hid)
open Nat (le_refl)
namespace Go.Proofs.YtheeajnkiniopaaGreatDoor.Wp
private theorem y7_ {P:Prop} (h:P:=by
 clear qY qYd at_ eX sl hx hy h1 h2 h3 h4
 go_wp2
 go_region
 all_goals
  go_wp2
  go_roundw
  case rel =>
   have h:=HPut.out _ Hz.out
   exact ⟨k+1,by go_num,by omega,h.1,h.2.1,h.2.2.1,h.2.2.2.1,h.2.2.2.2⟩
  case measure=>simp [intOf];omega):P:=h
open Go Go.RowKit
def clsTo (c:List Int) (k:Int) (j:Nat):List Int:=(upTo j).filter fun x=>c.getD x.toNat 0==k
theorem Zx0 (c:List Int) (k:Int) (j:Nat):clsTo c k (j+1)=clsTo c k j ++ if (c.getD j 0==k)=true then [(j:Int)] else []:=by
 unfold clsTo;rw [N4_,List.filter_append];congr 1;by_cases h:(c.getD j 0==k)=true
 ·rw [if_pos h]
  simp only [List.filter,Int.toNat_natCast,h]
 ·rw [if_neg h]
  rw [Bool.not_eq_true] at h;simp only [List.filter,Int.toNat_natCast,h]
theorem Yx8 (c:List Int) (k:Int) (j:Nat):(clsTo c k j).length≤j:=by
 have:=List.length_filter_le (fun x:Int=>c.getD x.toNat 0==k) (upTo j)
 rwa [X5_] at this
theorem Zf6 (c:List Int) (k:Int):clsTo c k c.length=Z3_ c k:=rfl
def Zz4 (f:Int→Bool) (n:Int) (j:Nat):List Int:=((upTo j).filter f).map fun k=>n+k
theorem Yf1 (f:Int→Bool) (n:Int) (j:Nat):Zz4 f n (j+1)=Zz4 f n j ++ if f (j:Int)=true then [n+(j:Int)] else []:=by
 unfold Zz4;rw [N4_,List.filter_append,List.map_append];congr 1;by_cases h:f (j:Int)=true
 ·rw [if_pos h]
  simp [List.filter,h]
 ·rw [if_neg h]
  rw [Bool.not_eq_true] at h;simp [List.filter,h]
theorem Xy6 (f:Int→Bool) (n:Int) (j:Nat):(Zz4 f n j).length≤j:=by
 unfold Zz4;rw [List.length_map];have:=List.length_filter_le f (upTo j)
 rwa [X5_] at this
theorem MatL.one {w:World} {v:Value} {ms:List Mat} (h:MatL w w.heap.size v ms) {k:Nat} (x:k<ms.length):∃ (c:Addr) (d:Nat) (f e:Value),v=.slice (some c) ms.length d ∧
  MatV w w.heap.size (.agg #[.int .i64 (ms.getD k default).t,.int .i64 (ms.getD k default).n,.int .i64 (ms.getD k default).a,.int .i64 (ms.getD k default).b,f,e]) (ms.getD k default) ∧
  ∀ W,Below w.heap.size w W→W.cell? (c.add (k * 6))=some (.int .i64 (ms.getD k default).t)∧W.cell? ⟨(c.add (k * 6)).block,(c.add (k * 6)).off+1,none⟩=some (.int .i64 (ms.getD k default).n)∧W.cell? ⟨(c.add (k * 6)).block,(c.add (k * 6)).off+2,none⟩=some (.int .i64 (ms.getD k default).a) ∧
   W.cell? ⟨(c.add (k * 6)).block,(c.add (k * 6)).off+3,none⟩=some (.int .i64 (ms.getD k default).b)∧W.cell? ⟨(c.add (k * 6)).block,(c.add (k * 6)).off+4,none⟩=some f∧W.cell? ⟨(c.add (k * 6)).block,(c.add (k * 6)).off+5,none⟩=some e:=by
 obtain ⟨A,d,rfl,_,y⟩:=h;obtain ⟨c,u,rfl,hB,hs,g⟩:=y k x;obtain ⟨f,e,z,_,_⟩:=g.open;subst z;refine ⟨c,d,f,e,rfl,g,fun W s=>?_⟩;obtain ⟨B,C,D,E,F,G,j,m,o,p,h3,q,r⟩:=hs.below s z46_;simp only [Value.agg.injEq,Array.mk.injEq,List.cons.injEq,and_true] at j;obtain ⟨rfl,rfl,rfl,rfl,rfl,rfl⟩:=j;exact ⟨m,o,p,h3,q,r⟩
theorem I6_ {w w':World} {base:Nat} {e:TypeId} {k n:Nat} {v:Value} {c:List Value} (h:w.ownsRow base e k v n c) (hb:Below w.heap.size w w'):w'.ownsRow base e k v n c :=
 h.kept (row:=none) (Y0_ hb _) (by cases d:Value.ownBlock v<;>simp)
theorem G0_ (v:Value) (c:List Int) (q:Int) (w:World) (e:Row w w.heap.size v c) (hl:c.length≤1048576):Calls Tryz.prog 18 #[v,.int .i64 q] w (GivesF w (Z3_ c q)):=by
 have HR:=hid e;obtain ⟨A,d,rfl,_⟩:=id e;have s:(c.length:Int)≤1048576:=x37_;clear e
 go_enter Tryz.func18,Tryz.ntmps18
 go_wp2
 go_loopw [5,6,7,10] (fun p _ _ h wr=>∃ j:Nat,h=.int .i64 j∧j≤c.length∧wr.ownsRow w.heap.size 3 1 p (clsTo c q j).length (ints (clsTo c q j))∧Below w.heap.size w wr) (fun _ _ _ h _=>c.length - (intOf h).toNat)
 case atStart=>exact ⟨0,rfl,Nat.zero_le _,World.ownsRow_nil _ _ _ _,Below.refl _ _⟩
 case round =>
  obtain ⟨j,rfl,r,k,hb⟩:=hrel;have Hown:=hid k;have Hb:=hid hb;clear k;by_cases hlt:j<c.length
  ·exact q2_
  ·have o:j=c.length:=by omega
   subst o;rw [Zf6] at Hown;go_wp2;go_ret;exact ⟨_,rfl,Row.of_own Hown.out rfl,Hb.out,fun g m=>(Hown.out.lt g m).1⟩
theorem B3_ (v:Value) (c:List Int) (q:Int) (w:World) (e:Row w w.heap.size v c) (hl:c.length≤1048576):Calls Tryz.prog 19 #[v,.int .i64 q] w (Gives w (Z3_ c q)):=by
 have HR:=hid e;obtain ⟨A,d,rfl,_⟩:=id e;have p:(c.length:Int)≤1048576:=x37_;clear e
 go_enter Tryz.func19,Tryz.ntmps19
 go_wp2
 go_loopw [5,6] (fun m g wr=>∃ j:Nat,g=.int .i64 j∧j≤c.length∧wr.ownsRow w.heap.size 3 1 m (clsTo c q j).length (ints (clsTo c q j))∧Below w.heap.size w wr) (fun _ g _=>c.length - (intOf g).toNat)
 case atStart=>exact ⟨0,rfl,Nat.zero_le _,World.ownsRow_made w #[] 0 (le_refl _) z38_ rfl,(Below.refl _ w).alloc (le_refl _) _⟩
 case round =>
  obtain ⟨j,rfl,o,h,hb⟩:=hrel;have Hown:=hid h;have Hb:=hid hb;clear h;by_cases hlt:j<c.length
  ·exact q2_
  ·have k:j=c.length:=by omega
   subst k;rw [Zf6] at Hown;go_wp2;go_ret;exact ⟨_,rfl,Row.of_own Hown.out rfl,Hb.out⟩
theorem Zk5 (E:Nat→Addr) (ms:List Mat) (r C P:Value) (s:List Int) (k:Nat) (x:Int) (w:World) (hl:MatL w w.heap.size r ms) (q:k<ms.length) (hs:∀ m∈ms,Sml m) (y:Row w w.heap.size P s) (x1:s.length≤1000) (G:Env E w) :
  Calls Tryz.prog 91 #[.agg #[r,C],.int .i64 (k:Int),P,.int .i64 x] w (Says w (indT (ms.getD k default) (Y2_ s [x]))):=by
 obtain ⟨g,hW0⟩:∃ g,g=w.alloc (.cells #[r,C] 47):=⟨_,rfl⟩;have S:=hid hW0;have j:Below w.heap.size w g:=q39_;have J:Blk g w.heap.size 47 #[r,C]:=y41_;have X:=hid (hs (ms.getD k default) (by rw [List.getD_eq_getElem?_getD,List.getElem?_eq_getElem q];exact List.getElem_mem q));obtain ⟨c,d,O,N,rfl,L,K⟩:=hl.one q;have x0:(k:Int)<(ms.length:Int):=x37_;generalize ms.getD k default=m at *
 have U:=hid j;have D:=hid J;have p:=(Below.refl g.heap.size g).drew;have Q:=hid ((y.up j).up p);have v:=hid ((L.up j).up p);have u:=hid ((G.up j).up p);have F:Hid (∀ W,Below g.drew.heap.size g.drew W→W.cell? ⟨w.heap.size,0,none⟩=some (.slice (some c) ms.length d)∧W.cell? (c.add (k * 6))=some (.int .i64 m.t)∧W.cell? ⟨(c.add (k * 6)).block,(c.add (k * 6)).off+1,none⟩=some (.int .i64 m.n)∧W.cell? ⟨(c.add (k * 6)).block,(c.add (k * 6)).off+2,none⟩=some (.int .i64 m.a)∧W.cell? ⟨(c.add (k * 6)).block,(c.add (k * 6)).off+3,none⟩=some (.int .i64 m.b)∧W.cell? ⟨(c.add (k * 6)).block,(c.add (k * 6)).off+4,none⟩=some (O)∧W.cell? ⟨(c.add (k * 6)).block,(c.add (k * 6)).off+5,none⟩=some (N)):=hid fun W H=>⟨(D.out.drew.below H D.out.lt).cell 0,K W (Z0_ j (le_refl _) (Z0_ p (le_refl _) H))⟩;have h:Hid (Below g.drew.heap.size g.drew g.drew):=hid (Below.refl _ _);have Z:Hid ((Y2_ s [x]).length≤1048576):=hid (by have:=Zv0 s [x];simp only [List.length_cons,List.length_nil] at this;omega);have Y:s.length≤1048576:=x37_;obtain ⟨z,B⟩:∃ z,indT m (Y2_ s [x])=z:=⟨_,rfl⟩;have T:=hid B;rw [B];obtain ⟨As,cs,rfl,_⟩:=id y;clear hW0 j J y L K hl G hs p B q
 go_enter Tryz.func91,Tryz.ntmps91
 go_wp2;rw [← S.out]
 go_region_held3 (fun W=>W.cell? ⟨w.heap.size,0,none⟩=some (.slice (some c) ms.length d)∧W.cell? (c.add (k * 6))=some (.int .i64 m.t)∧W.cell? ⟨(c.add (k * 6)).block,(c.add (k * 6)).off+1,none⟩=some (.int .i64 m.n)∧W.cell? ⟨(c.add (k * 6)).block,(c.add (k * 6)).off+2,none⟩=some (.int .i64 m.a)∧W.cell? ⟨(c.add (k * 6)).block,(c.add (k * 6)).off+3,none⟩=some (.int .i64 m.b)∧W.cell? ⟨(c.add (k * 6)).block,(c.add (k * 6)).off+4,none⟩=some (O)∧W.cell? ⟨(c.add (k * 6)).block,(c.add (k * 6)).off+5,none⟩=some (N))
  (first | exact F.out _ h.out | exact F.out _ (h.out.alloc (le_refl _) _))
  (first
  | (go_at_call 119;refine (Yz9 _ _ s [x] _ (Q.out.upA _) (Row.here (Row.lit1 _ x)) Y j37_).mono ?_;rintro e w1 ⟨v1,rfl,M,o⟩;replace o:=Z0_ ((Below.refl _ g.drew).alloc (le_refl _) _) (le_refl _) o;replace h:=hid o;replace v:=hid (v.out.up o);replace u:=hid (u.out.up o);have R:=hid M;clear M o)
  | (go_at_call 118;refine (Xi0 E m _ _ _ _ v.out X.out R.out Z.out u.out).mono ?_;rintro e w2 ⟨rfl,I⟩;rw [T.out];replace h:=hid (Z0_ h.out (le_refl _) I);clear I))
 all_goals
  have V:=hid (Z0_ U.out.drew (le_refl _) h.out);go_simp;go_wp2;go_ret;exact ⟨rfl,V.out⟩
theorem Xi8 (E:Nat→Addr) (ms:List Mat) (j s:Option Addr) (p q:Nat) (c:List Int) (x:Nat) (w:World) (hl:MatL w w.heap.size (.slice j ms.length p) ms) (hs:∀ m∈ms,Sml m) (T:Row w w.heap.size (.slice s c.length q) c) (xa:c.length≤64) (xk:ms.length≤8) (hx:x<c.length) (M:Env E w) :
  Calls Tryz.prog 65 #[.agg #[.slice j ms.length p,.slice s c.length q],.int .i64 (x:Int)] w (GivesF w (A1_ ms c (x:Int))):=by
 have xm:(x:Int)<(c.length:Int):=x37_;have xi:(c.length:Int)≤64:=x37_;have xl:(ms.length:Int)≤8:=x37_;obtain ⟨n,S⟩:∃ n:Int,(c.length:Int)=n:=⟨_,rfl⟩;have xf:=hid S;clear S;obtain ⟨o,hW0⟩:∃ o,o=w.alloc (.cells #[.slice j ms.length p,.slice s c.length q] 47):=⟨_,rfl⟩;have x5:=hid hW0;have u:Below w.heap.size w o:=q39_;have P:Blk o w.heap.size 47 #[.slice j ms.length p,.slice s c.length q]:=y41_;have Hb0:=hid u;have C:=hid P;have HL:=hid (hl.up u);have J:=hid (T.up u);have HE:=hid (M.up u);have Hs:=hid hs;clear hW0 u P hl T M hs
 go_enter Tryz.func65,Tryz.ntmps65
 have b0:(w.alloc (.cells #[.slice j ms.length p,.slice s c.length q] 47)).cell? ⟨w.heap.size,0,none⟩=some (.slice j ms.length p):=(Blk.new w _ _).cell 0;go_wp2;rw [← x5.out]
 go_loopw [5,6,10] (fun v5 _ I wr=>∃ k:Nat,I=.int .i64 k∧k≤ms.length∧wr.ownsRow o.heap.size 3 1 v5 (Zz4 (fun k=>roomB ms c (x:Int) k) (c.length:Int) k).length (ints (Zz4 (fun k=>roomB ms c (x:Int) k) (c.length:Int) k))∧Below o.heap.size o wr) (fun _ _ I _=>ms.length - (intOf I).toNat)
 case atStart=>exact ⟨0,rfl,Nat.zero_le _,World.ownsRow_nil _ _ _ _,Below.refl _ _⟩
 case round =>
  obtain ⟨k,rfl,hk,U,hb⟩:=hrel;have Hown:=hid U;have Hb:=hid hb;clear U;have X:w.heap.size<wr.heap.size:=Nat.lt_of_lt_of_le C.out.lt hb.size;have xg:=hid X;by_cases xc:k<ms.length
  ·have xj:(k:Int)<(ms.length:Int):=by omega
   have Hkr:=hid (C.out.below hb C.out.lt);obtain ⟨v,hA,R⟩:=Row.nth J.out hx;have x3:=hid (HL.out.up hb);have x4:=hid (J.out.up hb);have x2:=hid (HE.out.up hb);have Hn:=hid (Yf1 (fun k=>roomB ms c (x:Int) k) (c.length:Int) k);have x7:Hid ((Zz4 (fun k=>roomB ms c (x:Int) k) (c.length:Int) k).length≤1048576):=hid (Nat.le_trans (Xy6 _ _ _) x37_);have D:Hid (roomB ms c (x:Int) (k:Int)=(!(c.getD x 0==(k:Int)) && indT (ms.getD k default) (Y2_ (Z3_ c (k:Int)) [(x:Int)]))):=hid (by unfold roomB;rw [Int.toNat_natCast,Ze6]);have Q:(Z3_ c (k:Int)).length≤1000:=by have:=Y4_ (J2_ xa (k:Int));omega
   have x6:=hid Q;have HOc:=hid R;obtain ⟨z,Y⟩:∃ z,c.getD x 0=z:=⟨_,rfl⟩;rw [Y] at D HOc;subst hA;have HK:Hid (∀ W,Below wr.drew.heap.size wr.drew W→W.cell? ⟨w.heap.size,0,none⟩=some (.slice j ms.length p)∧W.cell? ⟨w.heap.size,1,none⟩=some (.slice (some v) c.length q)∧W.cell? (v.add x)=some (.int .i64 z)):=hid fun W hW=>y14_;generalize Zz4 (fun k=>roomB ms c (x:Int) k) (c.length:Int) k=Z at *
   have d:Hid (Below wr.drew.heap.size wr.drew wr.drew):=hid (Below.refl _ _);clear hb R Y Q X;by_cases r:(k:Int)=z
   ·have xd:((k:Int) != z)=false:=by rw [r];simp
    have xe:((k:Int)==z)=true:=by rw [r];simp
    have G:(z==(k:Int))=true:=by rw [r];simp
    have hrf:Hid (roomB ms c (x:Int) (k:Int)=false):=hid (by rw [D.out,G];rfl);go_wp2;refine Z6_ wr.heap.size wr y37_ y37_ (Below.refl _ _) ?_
    iterate 17 (first
     | go_big_quiet_skip
     | (go_big_quiet_want;apply Exists.intro;refine ⟨fun W hW=>?_,?_⟩;(· have h:=Hkr.out.below hW Hkr.out.lt;have q0:=h.cell 0;have q1:=h.cell 1;have q2:=HOc.out W (Z0_ Hb.out (le_refl _) hW);go_simp;first | exact rfl | exact ⟨rfl,rfl⟩);go_simp;go_big_quiet_on))
    refine wpQuiet_nil ?_;intro w5 F;have Hb5:=hid (Z0_ Hb.out (le_refl _) F);have Ho5:=hid (I6_ Hown.out F);clear F;exact z11_
   ·have xd:((k:Int) != z)=true:=by simpa using r
    have xe:((k:Int)==z)=false:=by simpa using r
    have G:(z==(k:Int))=false:=by simpa using fun e=>r e.symm
    obtain ⟨y,H⟩:∃ y,indT (ms.getD k default) (Y2_ (Z3_ c (k:Int)) [(x:Int)])=y:=⟨_,rfl⟩;have HY:=hid H;have hrf:Hid (roomB ms c (x:Int) (k:Int)=y):=hid (by rw [D.out,G,H];rfl);have x9:c.length≤1048576:=x37_;clear H;go_wp2
    go_region_held3 (fun W=>W.cell? ⟨w.heap.size,0,none⟩=some (.slice j ms.length p)∧W.cell? ⟨w.heap.size,1,none⟩=some (.slice (some v) c.length q)∧W.cell? (v.add x)=some (.int .i64 z))
     (exact HK.out _ d.out)
     (first
     | (go_at_call 18;refine (G0_ _ c (k:Int) _ (x4.out.up (Z0_ (Below.refl _ wr).drew (le_refl _) d.out)) x9).mono ?_;rintro e w3 ⟨v3,rfl,V,N,_⟩;replace d:=hid (Z0_ d.out (le_refl _) N);have x1:=hid V;clear V N)
     | (go_at_call 91;refine (Zk5 E ms _ _ _ (Z3_ c (k:Int)) k (x:Int) _ (x3.out.up (Z0_ (Below.refl _ wr).drew (le_refl _) d.out)) xc Hs.out x1.out x6.out (x2.out.up (Z0_ (Below.refl _ wr).drew (le_refl _) d.out))).mono ?_;rintro e w4 ⟨rfl,O⟩;rw [HY.out];replace d:=hid (Z0_ d.out (le_refl _) O);clear O))
    all_goals
     have B:=hid (Z0_ (Below.refl _ wr).drew (le_refl _) d.out);have Hb5:=hid (Z0_ Hb.out (le_refl _) B.out);have Ho5:=hid (I6_ Hown.out B.out);have b1:=(Hkr.out.below B.out Hkr.out.lt).cell 1;cases y
     ·exact z11_
     ·have xh:IntKind.i64.wrap ((c.length:Int)+(k:Int))=(c.length:Int)+(k:Int):=by rw [IntKind.wrap_i64];omega
      go_wp2_with (at_builtin;refine Z5_ rfl _ _ rfl o.heap.size _ _ _ Z [(c.length:Int)+(k:Int)] rfl rfl (Ho5.out.alloc _) (Row.lit1 _ _) (by have:=x7.out;omega) j37_ k44_ ?_)
      intro v' xn K L;have x0:=hid ((Hb5.out.alloc Hb5.out.size _).grown L k44_ (fun i hi=>(Ho5.out.lt i hi).1));have x8:=hid K;clear K L b1;go_wp2
      go_roundw
      case rel=>exact ⟨k+1,y38_,x37_,by rw [Hn.out,if_pos hrf.out,List.length_append];exact x8.out,x0.out⟩
      exact mz_
  ·have xb:k=ms.length:=by omega
   subst xb;exact q13_
def putsU (f:Int→List Int) (l:List Int) (pp:List (List Int)):List (List Int):=l.foldl (fun q x=>q.set x.toNat (f x)) pp
section
variable {f:Int→List Int} {l:List Int} {pp:List (List Int)}
theorem Yx9 {k:Nat} (h:k<l.length):putsU f (l.take (k+1)) pp=(putsU f (l.take k) pp).set (l.getD k 0).toNat (f (l.getD k 0)):=by
 unfold putsU;rw [List.take_succ_eq_append_getElem h,List.foldl_append,show l.getD k 0=l[k] by simp [List.getD,h]];rfl
theorem M6_:∀ (l:List Int) (pp:List (List Int)),(putsU f l pp).length=pp.length
 | [],_=>rfl
 | x :: l,pp=>by
  show (putsU f l (pp.set x.toNat (f x))).length=_;rw [M6_ l,List.length_set]
theorem R2_ {x:Nat}:∀ {l:List Int} {pp:List (List Int)},(∀ y∈l,y.toNat≠x)→(putsU f l pp).getD x []=pp.getD x []
 | [],_,_=>rfl
 | z :: l,pp,h=>by
  show (putsU f l (pp.set z.toNat (f z))).getD x []=_;rw [R2_ (l:=l) fun y c=>h y (List.mem_cons_of_mem _ c),List.getD_eq_getElem?_getD,List.getElem?_set_ne (h z j37_),← List.getD_eq_getElem?_getD]
theorem Zp7 {x:Nat}:∀ {l:List Int} {pp:List (List Int)},(∀ y∈l,0≤y)→(x:Int)∈l→x<pp.length→(putsU f l pp).getD x []=f (x:Int)
 | [],_,_,h,_=>by cases h
 | z :: l,pp,h0,h,hx=>by
  show (putsU f l (pp.set z.toNat (f z))).getD x []=_;by_cases d:(x:Int)∈l
  ·exact Zp7 (fun y c=>h0 y (List.mem_cons_of_mem _ c)) d (by rw [List.length_set];exact hx)
  ·have e:z=(x:Int):=by
    rcases List.mem_cons.1 h with e | e
    ·exact e.symm
    ·exact absurd e d
   rw [R2_ fun y c g=>d (by have:=h0 y (List.mem_cons_of_mem _ c);rw [← g,Int.toNat_of_nonneg this];exact c),e,Int.toNat_natCast,List.getD_eq_getElem?_getD,List.getElem?_set_self hx];rfl
end
section
variable {ms:List Mat} {c:List Int}
noncomputable def nearU (ms:List Mat) (c:List Int):Nat→List Int
 | 0=>[]
 | r+1=>lev ms c r
theorem Zq8:IsSet []:=⟨List.Pairwise.nil,fun _ h=>by cases h⟩
theorem Xi9 (h:Cls ms c) (r:Nat):IsSet (nearU ms c r):=by
 cases r with
 | zero=>exact Zq8
 | succ r=>exact (H9_ h r).1
theorem Zx1 (h:Cls ms c) (r:Nat) (x:Int):x∈Z9_ (lev ms c r) (nearU ms c r)↔Lev ms c r x:=by
 rw [X3_ (H9_ h r).1 (Xi9 h r)];cases r with
 | zero=>exact ⟨fun d=>⟨d.1,fun j f=>absurd f (Nat.not_lt_zero _)⟩,fun d=>⟨d.1,fun e=>by cases e⟩⟩
 | succ r=>exact ⟨fun d=>⟨d.1,fun j f e=>d.2 (Zz0 h (Nat.le_of_lt_succ f) e)⟩,fun d=>⟨d.1,d.2 r (Nat.lt_succ_self r)⟩⟩
theorem Vn9 (h:Cls ms c) (r:Nat):IsSet (Z9_ (lev ms c r) (nearU ms c r)):=by
 unfold Z9_ partL;split
 ·exact (H9_ h r).1.filter _
 ·exact Zq8
theorem lev_src {x:Nat}:(x:Int)∈lev ms c 0↔x<c.length∧c.getD x 0=-1:=by
 show (x:Int)∈Z3_ c (-1)↔_;unfold Z3_;rw [List.mem_filter,mem_upTo,Int.toNat_natCast];simp
variable {r:Nat} {pp:List (List Int)}
theorem Yo2 (h:Cls ms c) (d:∀ k,k<r→D9_ ms c k):∀ y∈Z9_ (lev ms c r) (nearU ms c r),0≤y∧y<(c.length:Int):=fun y e=>Zz2 h d y ((Zx1 h r y).1 e).1
theorem Xy7 (h:Cls ms c) (j:∀ k,k<r→D9_ ms c k) (m:Part ms c r pp):Roomed ms c r pp (putsU (A1_ ms c) (Z9_ (lev ms c r) (nearU ms c r)) pp):=by
 have g:=Yo2 h j;refine ⟨M6_ _ _,fun x d=>.inl (Zp7 (fun y f=>(g y f).1) ((Zx1 h r _).2 d) ?_),fun x d=>R2_ fun y f e=>d ?_⟩
 ·have:=g _ ((Zx1 h r _).2 d)
  rw [m.len];omega
 ·rw [← e,Int.toNat_of_nonneg (g y f).1]
  exact (Zx1 h r y).1 f
theorem Xy8 (h:Cls ms c) (H:∀ k,k<r→D9_ ms c k) (v:Part ms c r pp) {k:Nat} (q:k<(Z9_ (lev ms c r) (nearU ms c r)).length) {x:Nat} (w:(Z9_ (lev ms c r) (nearU ms c r)).getD k 0=(x:Int)) (hc:c.getD x 0=-1) (I:A1_ ms c (x:Int)≠[]) :
  Roomed ms c r pp (putsU (A1_ ms c) ((Z9_ (lev ms c r) (nearU ms c r)).take (k+1)) pp):=by
 have f:=Yo2 h H;have D:=Vn9 h r;have p:=Zx1 h r;generalize Z9_ (lev ms c r) (nearU ms c r)=l at *
 have A:(x:Int)∈l:=by rw [← w];exact Q5_ 0 q
 have K:=f _ A;have C:=(p _).1 A;have u:(x:Int)∈lev ms c 0:=lev_src.2 ⟨x37_,hc⟩;have J:r=0:=Classical.byContradiction fun G=>C.2 0 x37_ u;have o:∀ y∈l.take (k+1),y∈l:=fun y g=>List.mem_of_mem_take g;refine ⟨M6_ _ _,fun y g=>?_,fun y g=>R2_ fun z d e=>g ?_⟩
 ·have B:=(p _).2 g
  have L:=f _ B;by_cases s:(y:Int)∈l.take (k+1)
  ·exact .inl (Zp7 (fun z d=>(f z (o z d)).1) s (by rw [v.len];omega))
  ·refine .inr ⟨?_,J,x,?_,⟨u,fun j m=>absurd m (Nat.not_lt_zero _)⟩,I⟩
   ·rw [R2_ fun z d e=>s (by rw [← e,Int.toNat_of_nonneg (f z (o z d)).1];exact d)]
    exact v.off y fun j m=>by omega
   ·obtain ⟨j,m,e⟩:=List.mem_iff_getElem.1 B
    have E:k<j:=Classical.byContradiction fun G=>s (by rw [← e];exact List.mem_take_iff_getElem.2 ⟨j,x37_,rfl⟩);have F:=List.pairwise_iff_getElem.1 D.1 k j q m E;rw [e,show l[k]=(x:Int) by rw [← w];simp [List.getD,q]] at F;omega
 ·rw [← e,Int.toNat_of_nonneg (f z (o z d)).1]
  exact (p z).1 (o z d)
theorem Xk0 (h:Cls ms c) (v:∀ k,k<r→D9_ ms c k) (f:Part ms c r pp) {o:List (List Int)} (m:Roomed ms c r pp o):Part ms c (r+1) (putsU (rowU ms c r) (Z9_ (lev ms c r) (nearU ms c r)) o):=by
 have j:=Yo2 h v;have p:=Zx1 h r;generalize Z9_ (lev ms c r) (nearU ms c r)=l at *
 have q:∀ x:Nat,¬ Lev ms c r (x:Int)→(putsU (rowU ms c r) l o).getD x []=pp.getD x []:=fun x d=>by
  rw [R2_ fun z g e=>d (by rw [← e,Int.toNat_of_nonneg (j z g).1];exact (p z).1 g),m.off x d]
 refine ⟨by rw [M6_,m.len,f.len],fun x k u d=>?_,fun x d=>?_⟩
 ·by_cases e:k=r
  ·subst e
   have s:=(p _).2 d;have:=j _ s;exact Zp7 (fun z g=>(j z g).1) s (by rw [m.len,f.len];omega)
  ·rw [q x fun w=>e (Xh9 d w)]
   exact f.on x k x37_ d
 ·rw [q x (d r (Nat.lt_succ_self r))]
  exact f.off x fun k u=>d k x37_
theorem Yv0 (h:Cls ms c) (s:∀ k,k<r→D9_ ms c k) (m:(lev ms c r).length≤(nearU ms c r).length):comeU ms c=nearU ms c r∧StopU ms c:=by
 cases r with
 | zero =>
  have d:lev ms c 0=[]:=List.length_eq_zero_iff.1 (Nat.le_zero.1 m);have o:lev ms c 1=[]:=List.eq_nil_iff_forall_not_mem.2 fun y u=>by
   have p:Lev ms c 1 y:=⟨u,fun j z e=>by
    have:j=0:=x37_;rw [this,d] at e;cases e⟩
   obtain ⟨x,f,_⟩:=Yn4 h p;have:=f.1;rw [d] at this;cases this
  have:=Yn6 h (r:=0) (by rw [d,o]) fun k A x f=>by
   have:k=0:=x37_;rw [this,d] at f;cases f
  rw [d] at this;exact this
 | succ r =>
  have v:=H9_ h r;have w:=H9_ h (r+1);have q:(lev ms c r).length≤(lev ms c (r+1)).length:=by
   rw [Y8_ v,Y8_ w];exact U4_ fun i _ g=>by
    rw [memP_iff] at g ⊢;exact Zz0 h (Nat.le_succ r) g
  exact Yn6 h (Nat.le_antisymm m q) s
theorem Yo3 (h:Cls ms c) (hc:c.length≤64):InN (c.length+ms.length) (endsU ms c.length):=by
 have f:=h.many.2;refine ⟨⟨?_,fun x d=>?_⟩,fun x d=>?_⟩
 ·unfold endsU
  exact ((H1_ (k:=ms.length) x37_).1).map _ fun a b g=>by omega
 ·obtain ⟨k,e,rfl⟩:=mem_ends.1 d
  unfold Fit;omega
 ·obtain ⟨k,e,rfl⟩:=mem_ends.1 d
  omega
theorem Xy9 (h:Cls ms c) (hc:c.length≤64):Z9_ (allL ((c.length+ms.length:Nat):Int)) (allL (c.length:Int))=endsU ms c.length:=by
 have g:=h.many.2;have d:=(Yo3 h hc).1;have hs:IsSet (Z9_ (allL ((c.length+ms.length:Nat):Int)) (allL (c.length:Int))):=by
  unfold Z9_ partL;split
  ·exact (E4_ _).filter _
  ·exact Zq8
 refine hs.ext d fun y=>?_;rw [X3_ (E4_ _) (E4_ _),C8_ x37_ x37_,C8_ x37_ x37_,mem_ends];constructor
 ·rintro ⟨e,f⟩
  exact ⟨(y - c.length).toNat,x37_,x37_⟩
 ·rintro ⟨k,j,rfl⟩
  omega
theorem Xk1 (h:Cls ms c) (hc:c.length≤64) (x:Int):(Z9_ (allL (c.length:Int)) (lev ms c r)).filter (fun y=>A6_ ms c x y)=rowU ms c r x:=by
 have hs:IsSet (Z9_ (allL (c.length:Int)) (lev ms c r)):=by
  unfold Z9_ partL;split
  ·exact (E4_ _).filter _
  ·exact Zq8
 unfold rowU;refine (hs.filter _).ext ((H1_ hc).filter _) fun y=>?_;rw [List.mem_filter,List.mem_filter,X3_ (E4_ _) (H9_ h r).1,C8_ x37_ x37_,mem_upTo,Bool.and_eq_true,Bool.not_eq_true',← Bool.not_eq_true,memP_iff];constructor
 ·rintro ⟨⟨d,e⟩,h3⟩
  exact ⟨d,by rw [Int.toNat_of_nonneg d.1];exact e,h3⟩
 ·rintro ⟨d,e,h3⟩
  rw [Int.toNat_of_nonneg d.1] at e;exact ⟨⟨d,e⟩,h3⟩
theorem Vo0 (h:Cls ms c) (hc:c.length≤64):∀ y∈Z9_ (allL (c.length:Int)) (lev ms c r),(0≤y∧y<(c.length:Int))∧0≤c.getD y.toNat 0∧c.getD y.toNat 0<(ms.length:Int):=by
 intro y d;rw [X3_ (E4_ _) (H9_ h r).1,C8_ x37_ x37_] at d;obtain ⟨g,k⟩:=d;obtain ⟨j,rfl⟩:∃ j:Nat,y=(j:Int):=⟨y.toNat,x37_⟩;have f:=h.rng j x37_;rw [Int.toNat_natCast];refine ⟨g,?_,f.2⟩;have:c.getD j 0≠-1:=fun e=>k (Zz0 h (Nat.zero_le r) (lev_src.2 ⟨x37_,e⟩));omega
end
theorem Vj8 {w:World} {base g c n:Nat} {zs:List Int} (h:w.ownsRow base 3 1 (.slice (some ⟨g,0,none⟩) n c) n (ints zs)) (i:Nat) (z:Int):(w.setCell ⟨g,i,none⟩ (.int .i64 z)).ownsRow base 3 1 (.slice (some ⟨g,0,none⟩) n c) n (ints (zs.set i z)):=by
 have:=(h.stored i (.int .i64 z)).1
 rwa [show (ints zs).set i (.int .i64 z)=ints (zs.set i z) by unfold ints;rw [List.map_set]] at this
theorem Zp8 {l:List Int} {i:Nat} (h:i<l.length):(ints l)[i]?=some (.int .i64 (l.getD i 0)):=by
 unfold ints;simp [List.getD,h]
theorem Xk2 (u:Option Addr) (D m g d B:Nat) (c l:List Int) (V:Value) (w:World) (xi:B≤g) (Q:w.ownsRow B 3 1 (.slice (some ⟨g,0,none⟩) c.length d) c.length (ints c)) (hr:Row w w.heap.size V l) (hf:∀ k,V.ownBlock=some k→k≠g) (xn:2≤l.length) (hl:l.length≤100) (xq:c.length≤64)
  (hd:∀ i k,i<k→k<l.length→(l.getD i 0).toNat≠(l.getD k 0).toNat) (x5:∀ i,i+1<l.length→0≤l.getD i 0∧l.getD i 0<(c.length:Int)) (x8:∀ i,i<l.length→0≤l.getD i 0∧l.getD i 0≤100) :
  Calls Tryz.prog 36 #[.agg #[.slice u m D,.slice (some ⟨g,0,none⟩) c.length d],V] w fun e w'=>e=.returned (.tuple #[])∧w'.ownsRow B 3 1 (.slice (some ⟨g,0,none⟩) c.length d) c.length (ints (J4_ c l c))∧Below B w w'∧∀ k,k<w.heap.size→k≠g→w'.heap[k]?=w.heap[k]?:=by
 obtain ⟨r,hW0⟩:∃ r,r=w.alloc (.cells #[.slice u m D,.slice (some ⟨g,0,none⟩) c.length d] 47):=⟨_,rfl⟩;have xc:=hid hW0;have xu:g<w.heap.size:=(Q.lt g rfl).2;have xj:B≤w.heap.size:=x37_;have G:Below w.heap.size w r:=q39_;have xd:Hid (Below B w r):=hid (by rw [hW0];exact (Below.refl B w).alloc xj _);have xf:Hid (Blk r w.heap.size 47 #[.slice u m D,.slice (some ⟨g,0,none⟩) c.length d]):=hid y41_;have HO:=hid (I6_ Q G);obtain ⟨A,cw,rfl,x3,J⟩:=hr;obtain ⟨C,hA,_,_⟩:=J 0 x37_;subst hA;obtain ⟨n,P⟩:∃ n,l.length=n+1:=⟨l.length - 1,x37_⟩;have HN:=hid P;have S:C.block≠g:=hf C.block rfl;have H:Hid (∀ j,j<n+1→C.block<w.heap.size∧w.cell? (C.add j)=some (.int .i64 (l.getD j 0))):=hid fun j s=>by
  obtain ⟨ad,h1,h2,h3⟩:=J j x37_;cases h1;exact ⟨h2,h3⟩
 have xs:¬ cw=1:=x37_;have xt:(1:Int)≤(cw:Int):=x37_;have xx:1≤n:=x37_;have Hd:=hid hd;have x0:=hid x5;have xg:=hid x8;have xp:=hid x3;obtain ⟨b,o,xo⟩:=C;obtain rfl:xo=none:=by simpa [Addr.add] using World.cell?_spot (H.out 0 x37_).2
 have x2:b<w.heap.size:=(H.out 0 x37_).1;have S:b≠g:=S;have HW:Hid (∀ j:Nat,j<n+1→r.cell? ⟨b,o+j,none⟩=some (.int .i64 (l.getD j 0))):=hid fun j s=>by
  have h:=(H.out j s).2;rw [show (⟨b,o,none⟩:Addr).add j=⟨b,o+j,none⟩ by simp [Addr.add]] at h;exact (G.cell (p:=⟨b,o+j,none⟩) x2).trans h
 have xl:w.heap.size≠g:=x37_;have xy:(n:Int)≤100:=x37_;rw [P];have xb:Hid (∀ q,q<w.heap.size→q≠g→r.heap[q]?=w.heap[q]?):=hid fun q R _=>G.block q R;clear hW0 G Q hf hd x5 x8 J x3 P H;have xr:(c.length:Int)≤64:=x37_
 go_enter Tryz.func36,Tryz.ntmps36
 go_wp2;rw [← xc.out]
 go_loopw [4,5,9] (fun _ _ W wr=>∃ k:Nat,W=.int .i64 k∧k≤n∧wr.ownsRow B 3 1 (.slice (some ⟨g,0,none⟩) c.length d) c.length (ints (stepU c l k))∧Blk wr w.heap.size 47 #[.slice u m D,.slice (some ⟨g,0,none⟩) c.length d]∧(∀ j:Nat,j<n+1→wr.cell? ⟨b,o+j,none⟩=some (.int .i64 (l.getD j 0)))∧Below B w wr∧∀ q,q<w.heap.size→q≠g→wr.heap[q]?=w.heap[q]?) (fun _ _ W _=>n - (intOf W).toNat)
 case atStart =>
  refine ⟨0,rfl,Nat.zero_le _,?_,xf.out,HW.out,xd.out,xb.out⟩;obtain ⟨x,L,rfl⟩:∃ x L,l=x :: L:=by
   cases l with
   | nil=>simp at xn
   | cons x L=>exact ⟨x,L,rfl⟩
  rw [Xx6];exact HO.out
 case round =>
  obtain ⟨k,rfl,J,x9,x1,x4,hb,x6⟩:=hrel;have X:=hid x6;clear x6;have E:=hid x9;have N:=hid x1;have O:=hid x4;have M:=hid hb;clear x9 x1 x4 hb;by_cases xv:k<n
  ·have xw:(k:Int)<(n:Int):=by omega
   have g1:=O.out (k+1) x37_;have g0:=O.out k x37_;rw [show o+(k+1)=o+1+k by omega] at g1;have kA:=N.out.cell 1;obtain ⟨h1,h2⟩:=x0.out k k46_;obtain ⟨h3,h4⟩:=xg.out (k+1) k46_;obtain ⟨x,hx⟩:∃ x:Nat,l.getD k 0=(x:Int):=⟨(l.getD k 0).toNat,x37_⟩;obtain ⟨y,hy⟩:∃ y:Nat,l.getD (k+1) 0=(y:Int):=⟨(l.getD (k+1) 0).toNat,x37_⟩;have y0:x<c.length:=x37_;have xz:(x:Int)<(c.length:Int):=x37_;have nx:Hid (stepU c l (k+1)=(stepU c l k).set x (nextU c (y:Int))):=hid (by
    rw [Xx7 c l k46_,hx,hy];rfl)
   have sl:=Xm8 c l k;have at_:y<c.length→(stepU c l k).getD y 0=c.getD y 0:=fun _=>by
    have:=Va0 (c:=c) (l:=l) (j:=k) k46_ Hd.out (fun i hi=>by have:=x0.out i hi;omega);rw [hy] at this;exact this
   rw [hx] at g0;rw [hy] at g1;have y1:(y:Int)≤100:=x37_;have I:Below wr.heap.size wr wr.drew:=(Below.refl _ wr).drew;have F:=hid (I6_ E.out I);have Y:=hid (N.out.below I N.out.lt);have Z:Hid (∀ j:Nat,j<n+1→wr.drew.cell? ⟨b,o+j,none⟩=some (.int .i64 (l.getD j 0))):=hid fun j s=>(I.cell (p:=⟨b,o+j,none⟩) (Nat.lt_of_lt_of_le x2 M.out.size)).trans (O.out j s);have xe:=hid M.out.drew;have xh:=Z.out k x37_;rw [hx] at xh;have y2:=Y.out.cell 1;have fG:=F.out.frozenAt x;clear I;have HPut:Hid (∀ z:Int,nextU c (y:Int)=z→(wr.drew.setCell ⟨g,x,none⟩ (.int .i64 z)).ownsRow B 3 1 (.slice (some ⟨g,0,none⟩) c.length d) c.length (ints (stepU c l (k+1)))∧Blk (wr.drew.setCell ⟨g,x,none⟩ (.int .i64 z)) w.heap.size 47 #[.slice u m D,.slice (some ⟨g,0,none⟩) c.length d]∧(∀ j:Nat,j<n+1→(wr.drew.setCell ⟨g,x,none⟩ (.int .i64 z)).cell? ⟨b,o+j,none⟩=some (.int .i64 (l.getD j 0)))∧Below B w (wr.drew.setCell ⟨g,x,none⟩ (.int .i64 z))∧∀ q,q<w.heap.size→q≠g→(wr.drew.setCell ⟨g,x,none⟩ (.int .i64 z)).heap[q]?=w.heap[q]?):=hid fun z K=>by
    refine ⟨?_,Y.out.far (p:=⟨g,x,none⟩) xl _,fun j s=>?_,?_,fun q R x7=>?_⟩
    ·rw [nx.out,K]
     exact Vj8 F.out x z
    ·rw [World.cell?_of_block (w:=wr.drew) (Below.heap_setCell _ _ _ _ S)]
     exact Z.out j s
    ·exact xe.out.setCell (p:=⟨g,x,none⟩) xi _
    ·rw [Below.heap_setCell _ _ _ _ x7]
     exact X.out q R x7
   have eX:=Zp8 (l:=stepU c l k) (i:=x) x37_;have qx:=(F.out.cellAt x x37_).trans eX;have qY:=fun T:y<c.length=>((E.out.cellAt y x37_).trans (Zp8 (l:=stepU c l k) (i:=y) x37_)).trans (by rw [at_ T]);have qYd:=fun T:y<c.length=>((F.out.cellAt y x37_).trans (Zp8 (l:=stepU c l k) (i:=y) x37_)).trans (by rw [at_ T]);by_cases xa:y<c.length
   ·have U:(y:Int)<(c.length:Int):=by omega
    have qy:=qY xa;have y3:=qYd xa;have K:nextU c (y:Int)=c.getD y 0:=by unfold nextU;rw [if_pos U];rfl
    generalize c.getD y 0=z at *
    have Hz:=hid K;clear K;exact y7_
   ·have U:¬ (y:Int)<(c.length:Int):=by omega
    have Hz:Hid (nextU c (y:Int)=(y:Int) - (c.length:Int)):=hid (by unfold nextU;rw [if_neg U]);have w1:IntKind.i64.wrap ((y:Int) - (c.length:Int))=(y:Int) - (c.length:Int):=q38_;exact y7_
  ·have xm:k=n:=by omega
   subst xm;have xk:Hid (stepU c l k=J4_ c l c):=hid (by
    have:=Xm7 c l k46_
    rwa [HN.out,Nat.add_sub_cancel] at this)
   rw [xk.out] at E;go_wp2;refine bodyPost_end (v:=.tuple #[]) (by simp [results,Tryz.results36,go_sem]) rfl ?_;exact ⟨rfl,E.out,M.out,X.out⟩
end Go.Proofs.YtheeajnkiniopaaGreatDoor.Wp
