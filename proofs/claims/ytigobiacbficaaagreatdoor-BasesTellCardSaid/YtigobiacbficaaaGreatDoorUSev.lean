/- union's Class, takes and room, and the document's Class of layer 16, walked (written by gen_ucls.py). -/
import Derived.Test.YtigobiacbficaaaGreatDoorUWay
import Derived.Test.YtigobiacbficaaaGreatDoorZI
import Derived.Test.YtigobiacbficaaaGreatDoorIUnion
import Derived.Test.YtigobiacbficaaaGreatDoorQWalkA
import Derived.Deep.RegionHeld3
import Derived.Test.YtigobiacbficaaaGreatDoorZE
import Derived.Test.YtigobiacbficaaaGreatDoorQWalkC
import Derived.Test.YtigobiacbficaaaGreatDoorX0A
import Derived.Test.YtigobiacbficaaaGreatDoorX0B
set_option maxHeartbeats 8000000
set_option maxRecDepth 100000
open Go.Lib (hid)
open Nat (le_refl)
namespace Go.Proofs.YtigobiacbficaaaGreatDoor.Wp
open Go Go.RowKit
def clsTo (c:List Int) (k:Int) (j:Nat):List Int:=(upTo j).filter fun x=>c.getD x.toNat 0==k
theorem Zx5 (c:List Int) (k:Int) (j:Nat):clsTo c k (j+1)=clsTo c k j ++ if (c.getD j 0==k)=true then [(j:Int)] else []:=by
 unfold clsTo;rw [I7_,List.filter_append];congr 1;by_cases h:(c.getD j 0==k)=true
 ·rw [if_pos h]
  simp only [List.filter,Int.toNat_natCast,h]
 ·rw [if_neg h]
  rw [Bool.not_eq_true] at h;simp only [List.filter,Int.toNat_natCast,h]
theorem Zh0 (c:List Int) (k:Int) (j:Nat):(clsTo c k j).length≤j:=by
 have:=List.length_filter_le (fun x:Int=>c.getD x.toNat 0==k) (upTo j)
 rwa [Y8_] at this
theorem Zh1 (c:List Int) (k:Int):clsTo c k c.length=Z3_ c k:=rfl
def Q8_ (f:Int→Bool) (n:Int) (j:Nat):List Int:=((upTo j).filter f).map fun k=>n+k
theorem Zh2 (f:Int→Bool) (n:Int) (j:Nat):Q8_ f n (j+1)=Q8_ f n j ++ if f (j:Int)=true then [n+(j:Int)] else []:=by
 unfold Q8_;rw [I7_,List.filter_append,List.map_append];congr 1;by_cases h:f (j:Int)=true
 ·rw [if_pos h]
  simp [List.filter,h]
 ·rw [if_neg h]
  rw [Bool.not_eq_true] at h;simp [List.filter,h]
theorem Zm8 (f:Int→Bool) (n:Int) (j:Nat):(Q8_ f n j).length≤j:=by
 unfold Q8_;rw [List.length_map];have:=List.length_filter_le f (upTo j)
 rwa [Y8_] at this
theorem MatL.one {w:World} {v:Value} {ms:List Mat} (h:MatL w w.heap.size v ms) {k:Nat} (s:k<ms.length):∃ (c:Addr) (d:Nat) (f e:Value),v=.slice (some c) ms.length d ∧
  MatV w w.heap.size (.agg #[.int .i64 (ms.getD k default).t,.int .i64 (ms.getD k default).n,.int .i64 (ms.getD k default).a,.int .i64 (ms.getD k default).b,f,e]) (ms.getD k default) ∧
  ∀ W,Below w.heap.size w W→W.cell? (c.add (k * 6))=some (.int .i64 (ms.getD k default).t)∧W.cell? ⟨(c.add (k * 6)).block,(c.add (k * 6)).off+1,none⟩=some (.int .i64 (ms.getD k default).n)∧W.cell? ⟨(c.add (k * 6)).block,(c.add (k * 6)).off+2,none⟩=some (.int .i64 (ms.getD k default).a) ∧
   W.cell? ⟨(c.add (k * 6)).block,(c.add (k * 6)).off+3,none⟩=some (.int .i64 (ms.getD k default).b)∧W.cell? ⟨(c.add (k * 6)).block,(c.add (k * 6)).off+4,none⟩=some f∧W.cell? ⟨(c.add (k * 6)).block,(c.add (k * 6)).off+5,none⟩=some e:=by
 obtain ⟨A,d,rfl,_,x⟩:=h;obtain ⟨c,u,rfl,hB,hs,g⟩:=x k s;obtain ⟨f,e,y,_,_⟩:=g.open;subst y;refine ⟨c,d,f,e,rfl,g,fun W r=>?_⟩;obtain ⟨z,B,C,D,E,F,j,m,o,h2,h3,p,q⟩:=hs.below r x50_;simp only [Value.agg.injEq,Array.mk.injEq,List.cons.injEq,and_true] at j;obtain ⟨rfl,rfl,rfl,rfl,rfl,rfl⟩:=j;exact ⟨m,o,h2,h3,p,q⟩
theorem I6_ {w w':World} {base:Nat} {e:TypeId} {k n:Nat} {v:Value} {c:List Value} (h:w.ownsRow base e k v n c) (hb:Below w.heap.size w w'):w'.ownsRow base e k v n c :=
 h.kept (row:=none) (Z7_ hb _) (by cases d:Value.ownBlock v<;>simp)
theorem D6_ (v:Value) (c:List Int) (q:Int) (w:World) (e:Row w w.heap.size v c) (hl:c.length≤1048576):Calls Tryz.prog 30 #[v,.int .i64 q] w (GivesF w (Z3_ c q)):=by
 have HR:=hid e;obtain ⟨A,d,rfl,_⟩:=id e;have m:(c.length:Int)≤1048576:=y40_;clear e
 go_enter Tryz.func30,Tryz.ntmps30
 go_wp2
 go_loopw [5,6,7,10] (fun k _ _ h wr=>∃ j:Nat,h=.int .i64 j∧j≤c.length∧wr.ownsRow w.heap.size 3 1 k (clsTo c q j).length (ints (clsTo c q j))∧Below w.heap.size w wr) (fun _ _ _ h _=>c.length - (intOf h).toNat)
 case atStart=>exact ⟨0,rfl,Nat.zero_le _,World.ownsRow_nil _ _ _ _,Below.refl _ _⟩
 case round =>
  exact j34_
theorem D7_ (v:Value) (c:List Int) (q:Int) (w:World) (e:Row w w.heap.size v c) (hl:c.length≤1048576):Calls Tryz.prog 22 #[v,.int .i64 q] w (Gives w (Z3_ c q)):=by
 have HR:=hid e;obtain ⟨A,d,rfl,_⟩:=id e;have p:(c.length:Int)≤1048576:=y40_;clear e
 go_enter Tryz.func22,Tryz.ntmps22
 go_wp2
 go_loopw [5,6] (fun m g wr=>∃ j:Nat,g=.int .i64 j∧j≤c.length∧wr.ownsRow w.heap.size 3 1 m (clsTo c q j).length (ints (clsTo c q j))∧Below w.heap.size w wr) (fun _ g _=>c.length - (intOf g).toNat)
 case atStart=>exact ⟨0,rfl,Nat.zero_le _,World.ownsRow_made w #[] 0 (le_refl _) z41_ rfl,(Below.refl _ w).alloc (le_refl _) _⟩
 case round =>
  obtain ⟨j,rfl,o,h,hb⟩:=hrel;have Hown:=hid h;have Hb:=hid hb;clear h;by_cases hlt:j<c.length
  ·exact y1_
  ·have k:j=c.length:=by omega
   subst k;rw [Zh1] at Hown;go_wp2;go_ret;exact ⟨_,rfl,Row.of_own Hown.out rfl,Hb.out⟩
theorem Zm9 (E:Nat→Addr) (ms:List Mat) (r C P:Value) (s:List Int) (k:Nat) (x:Int) (w:World) (hl:MatL w w.heap.size r ms) (q:k<ms.length) (hs:∀ m∈ms,Sml m) (y:Row w w.heap.size P s) (x1:s.length≤1000) (G:Env E w) :
  Calls Tryz.prog 93 #[.agg #[r,C],.int .i64 (k:Int),P,.int .i64 x] w (Says w (indT (ms.getD k default) (Y1_ s [x]))):=by
 obtain ⟨g,hW0⟩:∃ g,g=w.alloc (.cells #[r,C] 59):=⟨_,rfl⟩;have S:=hid hW0;have j:Below w.heap.size w g:=y42_;have J:Blk g w.heap.size 59 #[r,C]:=y44_;have X:=hid (hs (ms.getD k default) (by rw [List.getD_eq_getElem?_getD,List.getElem?_eq_getElem q];exact List.getElem_mem q));obtain ⟨c,d,O,N,rfl,L,K⟩:=hl.one q;have x0:(k:Int)<(ms.length:Int):=y40_;generalize ms.getD k default=m at *
 have U:=hid j;have D:=hid J;have p:=(Below.refl g.heap.size g).drew;have Q:=hid ((y.up j).up p);have v:=hid ((L.up j).up p);have u:=hid ((G.up j).up p);have F:Hid (∀ W,Below g.drew.heap.size g.drew W→W.cell? ⟨w.heap.size,0,none⟩=some (.slice (some c) ms.length d)∧W.cell? (c.add (k * 6))=some (.int .i64 m.t)∧W.cell? ⟨(c.add (k * 6)).block,(c.add (k * 6)).off+1,none⟩=some (.int .i64 m.n)∧W.cell? ⟨(c.add (k * 6)).block,(c.add (k * 6)).off+2,none⟩=some (.int .i64 m.a)∧W.cell? ⟨(c.add (k * 6)).block,(c.add (k * 6)).off+3,none⟩=some (.int .i64 m.b)∧W.cell? ⟨(c.add (k * 6)).block,(c.add (k * 6)).off+4,none⟩=some (O)∧W.cell? ⟨(c.add (k * 6)).block,(c.add (k * 6)).off+5,none⟩=some (N)):=hid fun W H=>⟨(D.out.drew.below H D.out.lt).cell 0,K W (Z0_ j (le_refl _) (Z0_ p (le_refl _) H))⟩;have h:Hid (Below g.drew.heap.size g.drew g.drew):=hid (Below.refl _ _);have Z:Hid ((Y1_ s [x]).length≤1048576):=hid (by have:=Zv7 s [x];simp only [List.length_cons,List.length_nil] at this;omega);have Y:s.length≤1048576:=y40_;obtain ⟨z,B⟩:∃ z,indT m (Y1_ s [x])=z:=⟨_,rfl⟩;have T:=hid B;rw [B];obtain ⟨As,cs,rfl,_⟩:=id y;clear hW0 j J y L K hl G hs p B q
 go_enter Tryz.func93,Tryz.ntmps93
 go_wp2;rw [← S.out]
 go_region_held3 (fun W=>W.cell? ⟨w.heap.size,0,none⟩=some (.slice (some c) ms.length d)∧W.cell? (c.add (k * 6))=some (.int .i64 m.t)∧W.cell? ⟨(c.add (k * 6)).block,(c.add (k * 6)).off+1,none⟩=some (.int .i64 m.n)∧W.cell? ⟨(c.add (k * 6)).block,(c.add (k * 6)).off+2,none⟩=some (.int .i64 m.a)∧W.cell? ⟨(c.add (k * 6)).block,(c.add (k * 6)).off+3,none⟩=some (.int .i64 m.b)∧W.cell? ⟨(c.add (k * 6)).block,(c.add (k * 6)).off+4,none⟩=some (O)∧W.cell? ⟨(c.add (k * 6)).block,(c.add (k * 6)).off+5,none⟩=some (N))
  (first | exact F.out _ h.out | exact F.out _ (h.out.alloc (le_refl _) _))
  (first
  | (go_at_call 109;refine (Yj8 _ _ s [x] _ (Q.out.upA _) (Row.here (Row.lit1 _ x)) Y k40_).mono ?_;rintro e w1 ⟨v1,rfl,M,o⟩;replace o:=Z0_ ((Below.refl _ g.drew).alloc (le_refl _) _) (le_refl _) o;replace h:=hid o;replace v:=hid (v.out.up o);replace u:=hid (u.out.up o);have R:=hid M;clear M o)
  | (go_at_call 122;refine (Xp2 E m _ _ _ _ v.out X.out R.out Z.out u.out).mono ?_;rintro e w2 ⟨rfl,I⟩;rw [T.out];replace h:=hid (Z0_ h.out (le_refl _) I);clear I))
 all_goals
  have V:=hid (Z0_ U.out.drew (le_refl _) h.out);go_simp;go_wp2;go_ret;exact ⟨rfl,V.out⟩
theorem Xo9 (E:Nat→Addr) (ms:List Mat) (j s:Option Addr) (p q:Nat) (c:List Int) (x:Nat) (w:World) (hl:MatL w w.heap.size (.slice j ms.length p) ms) (hs:∀ m∈ms,Sml m) (S:Row w w.heap.size (.slice s c.length q) c) (x9:c.length≤64) (xj:ms.length≤8) (hx:x<c.length) (L:Env E w) :
  Calls Tryz.prog 66 #[.agg #[.slice j ms.length p,.slice s c.length q],.int .i64 (x:Int)] w (GivesF w (A3_ ms c (x:Int))):=by
 have xl:(x:Int)<(c.length:Int):=y40_;have xh:(c.length:Int)≤64:=y40_;have xk:(ms.length:Int)≤8:=y40_;obtain ⟨n,R⟩:∃ n:Int,(c.length:Int)=n:=⟨_,rfl⟩;have xe:=hid R;clear R;obtain ⟨o,hW0⟩:∃ o,o=w.alloc (.cells #[.slice j ms.length p,.slice s c.length q] 59):=⟨_,rfl⟩;have x4:=hid hW0;have u:Below w.heap.size w o:=y42_;have O:Blk o w.heap.size 59 #[.slice j ms.length p,.slice s c.length q]:=y44_;have Hb0:=hid u;have C:=hid O;have HL:=hid (hl.up u);have J:=hid (S.up u);have HE:=hid (L.up u);have Hs:=hid hs;clear hW0 u O hl S L hs
 go_enter Tryz.func66,Tryz.ntmps66
 have b0:(w.alloc (.cells #[.slice j ms.length p,.slice s c.length q] 59)).cell? ⟨w.heap.size,0,none⟩=some (.slice j ms.length p):=(Blk.new w _ _).cell 0;go_wp2;rw [← x4.out]
 go_loopw [5,6,10] (fun v5 _ I wr=>∃ k:Nat,I=.int .i64 k∧k≤ms.length∧wr.ownsRow o.heap.size 3 1 v5 (Q8_ (fun k=>roomB ms c (x:Int) k) (c.length:Int) k).length (ints (Q8_ (fun k=>roomB ms c (x:Int) k) (c.length:Int) k))∧Below o.heap.size o wr) (fun _ _ I _=>ms.length - (intOf I).toNat)
 case atStart=>exact ⟨0,rfl,Nat.zero_le _,World.ownsRow_nil _ _ _ _,Below.refl _ _⟩
 case round =>
  obtain ⟨k,rfl,hk,T,hb⟩:=hrel;have Hown:=hid T;have Hb:=hid hb;clear T;have V:w.heap.size<wr.heap.size:=Nat.lt_of_lt_of_le C.out.lt hb.size;have xf:=hid V;by_cases xb:k<ms.length
  ·have xi:(k:Int)<(ms.length:Int):=by omega
   have Hkr:=hid (C.out.below hb C.out.lt);obtain ⟨v,hA,Q⟩:=Row.nth J.out hx;have x2:=hid (HL.out.up hb);have x3:=hid (J.out.up hb);have x1:=hid (HE.out.up hb);have Hn:=hid (Zh2 (fun k=>roomB ms c (x:Int) k) (c.length:Int) k);have x6:Hid ((Q8_ (fun k=>roomB ms c (x:Int) k) (c.length:Int) k).length≤1048576):=hid (Nat.le_trans (Zm8 _ _ _) y40_);have D:Hid (roomB ms c (x:Int) (k:Int)=(!(c.getD x 0==(k:Int)) && indT (ms.getD k default) (Y1_ (Z3_ c (k:Int)) [(x:Int)]))):=hid (by unfold roomB;rw [Int.toNat_natCast,T5_]);have P:(Z3_ c (k:Int)).length≤1000:=by have:=X0_ (J4_ x9 (k:Int));omega
   have x5:=hid P;have HOc:=hid Q;obtain ⟨z,X⟩:∃ z,c.getD x 0=z:=⟨_,rfl⟩;rw [X] at D HOc;subst hA;have HK:Hid (∀ W,Below wr.drew.heap.size wr.drew W→W.cell? ⟨w.heap.size,0,none⟩=some (.slice j ms.length p)∧W.cell? ⟨w.heap.size,1,none⟩=some (.slice (some v) c.length q)∧W.cell? (v.add x)=some (.int .i64 z)):=hid fun W hW=>x16_;generalize Q8_ (fun k=>roomB ms c (x:Int) k) (c.length:Int) k=Z at *
   have d:Hid (Below wr.drew.heap.size wr.drew wr.drew):=hid (Below.refl _ _);clear hb Q X P V;by_cases r:(k:Int)=z
   ·have xc:((k:Int) != z)=false:=by rw [r];simp
    have xd:((k:Int)==z)=true:=by rw [r];simp
    have G:(z==(k:Int))=true:=by rw [r];simp
    have hrf:Hid (roomB ms c (x:Int) (k:Int)=false):=hid (by rw [D.out,G];rfl);go_wp2;refine Z6_ wr.heap.size wr z40_ z40_ (Below.refl _ _) ?_
    iterate 17 (first
     | go_big_quiet_skip
     | (go_big_quiet_want;apply Exists.intro;refine ⟨fun W hW=>?_,?_⟩;(· have h:=Hkr.out.below hW Hkr.out.lt;have q0:=h.cell 0;have q1:=h.cell 1;have q2:=HOc.out W (Z0_ Hb.out (le_refl _) hW);go_simp;first | exact rfl | exact ⟨rfl,rfl⟩);go_simp;go_big_quiet_on))
    refine wpQuiet_nil ?_;intro w5 F;have Hb5:=hid (Z0_ Hb.out (le_refl _) F);have Ho5:=hid (I6_ Hown.out F);clear F;exact z13_
   ·have xc:((k:Int) != z)=true:=by simpa using r
    have xd:((k:Int)==z)=false:=by simpa using r
    have G:(z==(k:Int))=false:=by simpa using fun e=>r e.symm
    obtain ⟨y,H⟩:∃ y,indT (ms.getD k default) (Y1_ (Z3_ c (k:Int)) [(x:Int)])=y:=⟨_,rfl⟩;have HY:=hid H;have hrf:Hid (roomB ms c (x:Int) (k:Int)=y):=hid (by rw [D.out,G,H];rfl);have x8:c.length≤1048576:=y40_;clear H;go_wp2
    go_region_held3 (fun W=>W.cell? ⟨w.heap.size,0,none⟩=some (.slice j ms.length p)∧W.cell? ⟨w.heap.size,1,none⟩=some (.slice (some v) c.length q)∧W.cell? (v.add x)=some (.int .i64 z))
     (exact HK.out _ d.out)
     (first
     | (go_at_call 30;refine (D6_ _ c (k:Int) _ (x3.out.up (Z0_ (Below.refl _ wr).drew (le_refl _) d.out)) x8).mono ?_;rintro e w3 ⟨v3,rfl,U,M,_⟩;replace d:=hid (Z0_ d.out (le_refl _) M);have x0:=hid U;clear U M)
     | (go_at_call 93;refine (Zm9 E ms _ _ _ (Z3_ c (k:Int)) k (x:Int) _ (x2.out.up (Z0_ (Below.refl _ wr).drew (le_refl _) d.out)) xb Hs.out x0.out x5.out (x1.out.up (Z0_ (Below.refl _ wr).drew (le_refl _) d.out))).mono ?_;rintro e w4 ⟨rfl,N⟩;rw [HY.out];replace d:=hid (Z0_ d.out (le_refl _) N);clear N))
    all_goals
     have B:=hid (Z0_ (Below.refl _ wr).drew (le_refl _) d.out);have Hb5:=hid (Z0_ Hb.out (le_refl _) B.out);have Ho5:=hid (I6_ Hown.out B.out);have b1:=(Hkr.out.below B.out Hkr.out.lt).cell 1;cases y
     ·exact z13_
     ·have xg:IntKind.i64.wrap ((c.length:Int)+(k:Int))=(c.length:Int)+(k:Int):=by rw [IntKind.wrap_i64];omega
      go_wp2_with (at_builtin;refine Z5_ rfl _ _ rfl o.heap.size _ _ _ Z [(c.length:Int)+(k:Int)] rfl rfl (Ho5.out.alloc _) (Row.lit1 _ _) (by have:=x6.out;omega) k40_ k48_ ?_)
      intro v' xm K h2;have Y:=hid ((Hb5.out.alloc Hb5.out.size _).grown h2 k48_ (fun i hi=>(Ho5.out.lt i hi).1));have x7:=hid K;clear K h2 b1;go_wp2
      go_roundw
      case rel=>exact ⟨k+1,j41_,y40_,by rw [Hn.out,if_pos hrf.out,List.length_append];exact x7.out,Y.out⟩
      exact mz_
  ·have xa:k=ms.length:=by omega
   subst xa;exact k14_
open Go Go.RowKit
theorem Yb2 {l:List Int} {P:Int→Bool} {k:Nat} (h:k<l.length):(l.take (k+1)).filter P=(l.take k).filter P ++ if P (l.getD k 0)=true then [l.getD k 0] else []:=by
 rw [List.take_succ_eq_append_getElem h,List.filter_append];congr 1;rw [show l.getD k 0=l[k] by simp [List.getD,h]];cases hp:P l[k]<;>simp [List.filter,hp]
theorem Zx6 (a b:List Int):(Z8_ a b).length≤a.length:=x19_
theorem Yk6 (E:Nat→Addr) (ms:List Mat) (p H:Option Addr) (r q:Nat) (c:List Int) (x:Nat) (sv:Value) (s:List Int) (w:World) (hl:MatL w w.heap.size (.slice p ms.length r) ms) (hs:∀ m∈ms,Sml m) (ho:Row w w.heap.size (.slice H c.length q) c) (X:Row w w.heap.size sv s) (x9:c.length≤64) (hx:x<c.length) (xw:s.length≤64) (xe:∀ y∈s,(0≤y∧y<(c.length:Int))∧0≤c.getD y.toNat 0∧c.getD y.toNat 0<(ms.length:Int)) (hE:Env E w) :
  Calls Tryz.prog 68 #[.agg #[.slice p ms.length r,.slice H c.length q],.int .i64 (x:Int),sv] w (GivesF w (s.filter fun y=>J3_ ms c (x:Int) y)):=by
 have xy:(x:Int)<(c.length:Int):=y40_;have xu:(c.length:Int)≤64:=y40_;have xx:(s.length:Int)≤64:=y40_;obtain ⟨As,cs,rfl,_⟩:=id X;obtain ⟨o,hW0⟩:∃ o,o=w.alloc (.cells #[.slice p ms.length r,.slice H c.length q] 59):=⟨_,rfl⟩;have xk:=hid hW0;have v:Below w.heap.size w o:=y42_;have x7:Blk o w.heap.size 59 #[.slice p ms.length r,.slice H c.length q]:=y44_;have Hb0:=hid v;have x3:=hid x7;have HL:=hid (hl.up v);have N:=hid (ho.up v);have HE:=hid (hE.up v);have Hs:=hid hs;have HS:=hid (X.up v);have xn:=hid xe;clear hW0 v x7 hl ho hE hs X xe
 go_enter Tryz.func68,Tryz.ntmps68
 go_wp2;rw [← xk.out]
 go_loopw [7,9,10,13] (fun v7 _ _ vk wr=>∃ j:Nat,vk=.int .i64 j∧j≤s.length∧wr.ownsRow o.heap.size 3 1 v7 ((s.take j).filter fun y=>J3_ ms c (x:Int) y).length (ints ((s.take j).filter fun y=>J3_ ms c (x:Int) y))∧Below o.heap.size o wr) (fun _ _ _ vk _=>s.length - (intOf vk).toNat)
 case atStart=>exact ⟨0,rfl,Nat.zero_le _,World.ownsRow_nil _ _ _ _,Below.refl _ _⟩
 case round =>
  obtain ⟨j,rfl,hj,xf,hb⟩:=hrel;have Hown:=hid xf;have Hb:=hid hb;clear xf;by_cases U:j<s.length
  ·have xv:(j:Int)<(s.length:Int):=by omega
   have Hkr:=hid (x3.out.below hb x3.out.lt);obtain ⟨ax,u,xd⟩:=Row.nth HS.out U;subst u;obtain ⟨I,u,xc⟩:=Row.nth N.out hx;subst u;have L:=xn.out _ (Q7_ 0 U);have Hn:=hid (Yb2 (P:=fun y=>J3_ ms c (x:Int) y) U);have xm:Hid (((s.take j).filter fun y=>J3_ ms c (x:Int) y).length≤1048576):=hid (Nat.le_trans (List.length_filter_le _ _) k42_);have O:=xd wr hb;obtain ⟨y,hy⟩:∃ y:Nat,s.getD j 0=(y:Int):=⟨(s.getD j 0).toNat,y40_⟩;rw [hy] at L Hn O;rw [Int.toNat_natCast] at L;have xt:y<c.length:=y40_;have xz:(y:Int)<(c.length:Int):=y40_;obtain ⟨ay,u,S⟩:=Row.nth N.out xt;obtain rfl:=Option.some.inj u;obtain ⟨k,T⟩:∃ k:Nat,c.getD y 0=(k:Int):=⟨(c.getD y 0).toNat,y40_⟩;rw [T] at L S;have xr:k<ms.length:=y40_;have g1:=S wr hb;have g2:=Hkr.out.cell 1;have xi:=hid (HL.out.up hb);have x2:=hid (N.out.up hb);have xh:=hid (HE.out.up hb);have HOc:=hid xc;obtain ⟨z,Y⟩:∃ z,c.getD x 0=z:=⟨_,rfl⟩;have x5:Hid (J3_ ms c (x:Int) (y:Int)=(!((k:Int)==z) && indT (ms.getD k default) (Y1_ (Z8_ (Z3_ c (k:Int)) [(y:Int)]) [(x:Int)]))):=hid (by
    unfold J3_;rw [Int.toNat_natCast,Int.toNat_natCast,T,Y,T5_,decide_eq_true (show (0:Int)≤(k:Int) by omega),Bool.true_and])
   have xb:(Z8_ (Z3_ c (k:Int)) [(y:Int)]).length≤1000:=by have J:=X0_ (J4_ x9 (k:Int));have h2:=Zx6 (Z3_ c (k:Int)) [(y:Int)];omega
   have xa:(Z3_ c (k:Int)).length≤1048576:=by have J:=X0_ (J4_ x9 (k:Int));omega
   have xl:=hid xb;have x4:=hid xa;rw [Y] at HOc;have HK:Hid (∀ W,Below wr.drew.heap.size wr.drew W→W.cell? ⟨w.heap.size,0,none⟩=some (.slice p ms.length r)∧W.cell? ⟨w.heap.size,1,none⟩=some (.slice (some I) c.length q)∧W.cell? (I.add x)=some (.int .i64 z)):=hid fun W hW=>x16_;generalize (s.take j).filter (fun y=>J3_ ms c (x:Int) y)=Z at *
   have d:Hid (Below wr.drew.heap.size wr.drew wr.drew):=hid (Below.refl _ _);have xo:=hid xr;clear hb xc xd S Y xb xa hy T L u;by_cases K:(k:Int)=z
   ·have xs:((k:Int) != z)=false:=by rw [K];simp
    have V:((k:Int)==z)=true:=by rw [K];simp
    have hrf:Hid (J3_ ms c (x:Int) (y:Int)=false):=hid (by rw [x5.out,V];rfl);go_wp2;refine Z6_ wr.heap.size wr z40_ z40_ (Below.refl _ _) ?_
    iterate 20 (first
     | go_big_quiet_skip
     | (go_big_quiet_want;apply Exists.intro;refine ⟨fun W hW=>?_,?_⟩;(· have h:=Hkr.out.below hW Hkr.out.lt;have q0:=h.cell 0;have q1:=h.cell 1;have q2:=HOc.out W (Z0_ Hb.out (le_refl _) hW);go_simp;first | exact rfl | exact ⟨rfl,rfl⟩);go_simp;go_big_quiet_on))
    refine wpQuiet_nil ?_;intro w5 Q;have Hb5:=hid (Z0_ Hb.out (le_refl _) Q);have Ho5:=hid (I6_ Hown.out Q);clear Q O g1 g2;exact j13_
   ·have xs:((k:Int) != z)=true:=by simpa using K
    have V:((k:Int)==z)=false:=by simpa using K
    obtain ⟨b,R⟩:∃ b,indT (ms.getD k default) (Y1_ (Z8_ (Z3_ c (k:Int)) [(y:Int)]) [(x:Int)])=b:=⟨_,rfl⟩;have HY:=hid R;have hrf:Hid (J3_ ms c (x:Int) (y:Int)=b):=hid (by rw [x5.out,V,R];rfl);have x8:c.length≤1048576:=y40_;have C:Hid (∀ W,Below wr.drew.heap.size wr.drew W→Below wr.heap.size wr W):=hid fun W hW=>Z0_ (Below.refl _ wr).drew (le_refl _) hW;clear R;go_wp2
    go_region_held3 (fun W=>W.cell? ⟨w.heap.size,0,none⟩=some (.slice p ms.length r)∧W.cell? ⟨w.heap.size,1,none⟩=some (.slice (some I) c.length q)∧W.cell? (I.add x)=some (.int .i64 z))
     (first | exact HK.out _ d.out | exact HK.out _ (d.out.alloc d.out.size _))
     (first
     | (go_at_call 30;refine (D6_ _ c (k:Int) wr.drew (x2.out.up (C.out _ d.out)) x8).mono ?_;rintro e w3 ⟨v3,rfl,F,B,_⟩;replace d:=hid (Z0_ d.out (le_refl _) B);have M:=hid F;clear F B)
     | (go_at_call 30;refine (D6_ _ c (k:Int) (wr.drew.alloc (.cells #[.int .i64 (y:Int)] 3)) (x2.out.up (C.out _ (d.out.alloc (le_refl _) _))) x8).mono ?_;rintro e w3 ⟨v3,rfl,F,B,_⟩;have xj:=hid ((Row.here (Row.lit1 wr.drew (y:Int))).up B);replace d:=hid (Z0_ (d.out.alloc (le_refl _) _) (le_refl _) B);have M:=hid F;clear F B)
     | (go_at_call 65;refine (N6_ _ _ (Z3_ c (k:Int)) [(y:Int)] _ M.out xj.out x4.out k40_).mono ?_;rintro e w4 ⟨v4,rfl,G,D⟩;replace d:=hid (Z0_ d.out (le_refl _) D);have x1:=hid G;clear G D)
     | (go_at_call 65;refine (N6_ _ _ (Z3_ c (k:Int)) [(y:Int)] _ (M.out.upA _) (Row.here (Row.lit1 _ (y:Int))) x4.out k40_).mono ?_;rintro e w4 ⟨v4,rfl,G,D⟩;replace d:=hid (Z0_ (d.out.alloc d.out.size _) (le_refl _) D);have x1:=hid G;clear G D)
     | (go_at_call 93;refine (Zm9 E ms _ _ _ (Z8_ (Z3_ c (k:Int)) [(y:Int)]) k (x:Int) _ (xi.out.up (C.out _ d.out)) xo.out Hs.out x1.out xl.out (xh.out.up (C.out _ d.out))).mono ?_;rintro e w5 ⟨rfl,x6⟩;rw [HY.out];replace d:=hid (Z0_ d.out (le_refl _) x6);clear x6))
    all_goals
     have x0:=hid (C.out _ d.out);have Hb5:=hid (Z0_ Hb.out (le_refl _) x0.out);have Ho5:=hid (I6_ Hown.out x0.out);clear O g1 g2;cases b
     ·exact j13_
     ·go_wp2_with (at_builtin;refine Z5_ rfl _ _ rfl o.heap.size _ _ _ Z [(y:Int)] rfl rfl (Ho5.out.alloc _) (Row.lit1 _ _) (by have:=xm.out;omega) k40_ k48_ ?_)
      intro v' y0 J h2;have xg:=hid ((Hb5.out.alloc Hb5.out.size _).grown h2 k48_ (fun i hi=>(Ho5.out.lt i hi).1));have xp:=hid J;clear J h2;go_wp2
      go_roundw
      case rel=>exact ⟨j+1,j41_,y40_,by rw [Hn.out,if_pos hrf.out,List.length_append];exact xp.out,xg.out⟩
      exact mz_
  ·have xq:j=s.length:=by omega
   subst xq;rw [List.take_length] at Hown;exact k14_
open Go Go.RowKit
def oddM (ms:List Mat) (m:Mat):Bool:=!(m.n==(ms.getD 0 default).n) || !(chk m==0)
def sevB (ms:List Mat):Bool:=decide (1≤ms.length) && (decide (ms.length≤8) && !(ms.any (oddM ms)))
theorem sev_iff {ms:List Mat}:sevB ms=true↔Several ms (nN (ms.getD 0 default))∧∀ k,k<ms.length→(ms.getD k default).n=(ms.getD 0 default).n:=by
 unfold sevB;rw [Bool.and_eq_true,Bool.and_eq_true,decide_eq_true_iff,decide_eq_true_iff,Bool.not_eq_true',List.any_eq_false];have f:(∀ x∈ms,¬ oddM ms x=true)↔∀ k,k<ms.length→chk (ms.getD k default)=0∧(ms.getD k default).n=(ms.getD 0 default).n:=by
  constructor
  ·intro h k c
   have:=h _ (show ms.getD k default∈ms by rw [List.getD_eq_getElem?_getD,List.getElem?_eq_getElem c];exact List.getElem_mem c);unfold oddM at this;simp only [Bool.or_eq_true,Bool.not_eq_true',not_or,beq_eq_false_iff_ne,ne_eq,Decidable.not_not] at this;exact ⟨this.2,this.1⟩
  ·intro h x e
   obtain ⟨k,c,rfl⟩:=List.mem_iff_getElem.1 e;have:=h k c;rw [show ms.getD k default=ms[k] by simp [List.getD,c]] at this;unfold oddM;simp only [Bool.or_eq_true,Bool.not_eq_true',not_or,beq_eq_false_iff_ne,ne_eq,Decidable.not_not];exact ⟨this.2,this.1⟩
 rw [f];constructor
 ·rintro ⟨d,h2,h3⟩
  exact ⟨⟨⟨y40_,h2⟩,fun k c=>⟨(h3 k c).1,by unfold nN;rw [(h3 k c).2]⟩⟩,fun k c=>(h3 k c).2⟩
 ·rintro ⟨⟨d,h2⟩,h3⟩
  exact ⟨d.1,d.2,fun k c=>⟨(h2 k c).1,h3 k c⟩⟩
def Yt8 (w:World) (g:Nat) (lb:Array Value) (P:Mat→Bool) (ms:List Mat):Prop :=
 ∀ (u:Value) (m:Mat) (W:World),m∈ms→Below w.heap.size w W→MatV W W.heap.size u m→Calls Tryz.prog g (#[u] ++ lb) W fun e W'=>e=.returned (.bool (P m))∧Below W.heap.size W W'
theorem Xq7 (g:Nat) (J:Array Value) (P:Mat→Bool) (v:Value) (ms:List Mat) (w:World) (M:∀ args w,(callFunc g args).run Tryz.prog w=.ok (.enter g args) w) (s:MatL w w.heap.size v ms) (hl:ms.length≤1048576) (H:Yt8 w g J P ms) :
  Calls Tryz.prog 88 #[v,.func (.func g) #[] J] w fun e w'=>∃ r,e=.returned (.int .i64 r)∧Found P default ms r∧Below w.heap.size w w':=by
 have K:=hid s;obtain ⟨A,c,rfl,_⟩:=id s;have z:=hid H;have O:(ms.length:Int)≤1048576:=y40_;clear s H
 go_enter Tryz.func88,Tryz.ntmps88
 go_wp2
 go_loopw [8] (fun y wr=>∃ k:Nat,y=.int .i64 k∧k≤ms.length∧Below w.heap.size w wr∧∀ j,j<k→P (ms.getD j default)=false) (fun y _=>ms.length - (intOf y).toNat)
 case atStart=>exact ⟨0,rfl,Nat.zero_le _,Below.refl _ _,fun j E=>absurd E (Nat.not_lt_zero _)⟩
 case round =>
  obtain ⟨k,rfl,N,hb,I⟩:=hrel;have Hb:=hid hb;have Hz:=hid I;clear I;by_cases o:k<ms.length
  ·obtain ⟨L,d,S,R,C,G,D⟩:=K.out.one o
   obtain rfl:A=some L:=(Value.slice.inj C).1;obtain ⟨q0,q1,q2,q3,q4,q5⟩:=D wr hb;have F:ms.getD k default∈ms:=by rw [List.getD_eq_getElem?_getD,List.getElem?_eq_getElem o];exact List.getElem_mem o
   have h:=hid (z.out _ (ms.getD k default) _ F Hb.out (G.up hb));have Q:(k:Int)<(ms.length:Int):=y40_;obtain ⟨x,u⟩:∃ x,x=ms.getD k default:=⟨_,rfl⟩;rw [← u] at h q0 q1 q2 q3;have B:=hid u;clear u hb G D F C z;rcases hq:P x with _ | _
   ·rw [hq] at h
    have q:=hid hq;clear hq
    go_wp2_with fail
    refine (h.out).mono ?_;rintro e w' ⟨rfl,m⟩;have p:=hid (Hb.out.trans (m.mono Hb.out.size));clear m q0 q1 q2 q3 q4 q5;go_wp2
    go_roundw
    case rel =>
     refine ⟨k+1,j41_,y40_,p.out,fun j E=>?_⟩;by_cases e:j=k
     ·rw [e,← B.out]
      exact q.out
     ·exact Hz.out j y40_
    case measure=>simp [intOf];omega
   ·rw [hq] at h
    have q:=hid hq;clear hq
    go_wp2_with fail
    refine (h.out).mono ?_;rintro e w' ⟨rfl,m⟩;have p:=hid (Hb.out.trans (m.mono Hb.out.size));clear m q0 q1 q2 q3 q4 q5;go_wp2;go_ret;exact ⟨_,rfl,.inr ⟨k,o,rfl,by rw [← B.out];exact q.out,Hz.out⟩,p.out⟩
  ·have hke:k=ms.length:=by omega
   exact z17_
theorem Zu0 (g:Nat) (d:Array Value) (P:Mat→Bool) (v:Value) (ms:List Mat) (w:World) (j:∀ args w,(callFunc g args).run Tryz.prog w=.ok (.enter g args) w) (m:MatL w w.heap.size v ms) (hl:ms.length≤1048576) (o:Yt8 w g d P ms) :
  Calls Tryz.prog 62 #[v,.func (.func g) #[] d] w (Says w (ms.any P)):=by
 have q:=hid (Xq7 g d P v ms w j m hl o);obtain ⟨A,c,rfl,_⟩:=m;clear hl o j
 go_enter Tryz.func62,Tryz.ntmps62
 go_wp2_with fail
 refine q.out.mono ?_;rintro e s ⟨r,rfl,k,hb⟩;have h:=hid (Zd3 k);have p:=hid hb;clear k hb;go_wp2;go_ret;exact ⟨by first | rfl | (rw [h.out];rfl) | (rw [← h.out];rfl),p.out⟩
theorem Vt1 (E:Nat→Addr) (ms:List Mat) (j d:Nat) (g:Addr) (w:World) (K:Env E w) (h0:0<ms.length) (hs:∀ m∈ms,Sml m) (M:j<w.heap.size) (L:g.block<w.heap.size) (hc:w.cell? ⟨j,0,none⟩=some (.slice (some g) ms.length d)) (N:w.cell? ⟨g.block,g.off+1,none⟩=some (.int .i64 (ms.getD 0 default).n)) :
  Yt8 w 63 #[.pointer (some ⟨j,0,none⟩)] (oddM ms) ms:=by
 intro u m W T k B;obtain ⟨r,q,rfl,_,_⟩:=B.open;have I:=(k.cell (p:=⟨j,0,none⟩) M).trans hc;have J:=(k.cell (p:=⟨g.block,g.off+1,none⟩) L).trans N;have x0:(0:Int)<(ms.length:Int):=y40_;have D:=K.up k;have R:j<W.heap.size:=Nat.lt_of_lt_of_le M k.size;have Q:g.block<W.heap.size:=Nat.lt_of_lt_of_le L k.size;obtain ⟨c,s⟩:∃ c,c=W.alloc (.cells #[.int .i64 m.t,.int .i64 m.n,.int .i64 m.a,.int .i64 m.b,r,q] 25):=⟨_,rfl⟩;have F:=hid s;have v:Below W.heap.size W c:=by rw [s];exact (Below.refl _ W).alloc (le_refl _) _
 have G:Hid (Blk c W.heap.size 25 #[.int .i64 m.t,.int .i64 m.n,.int .i64 m.a,.int .i64 m.b,r,q]):=hid (by rw [s];exact Blk.new W _ _);have Hb0:=hid v;have O:Hid (∀ V,Below c.heap.size c V→Calls Tryz.prog 64 #[.agg #[.int .i64 m.t,.int .i64 m.n,.int .i64 m.a,.int .i64 m.b,r,q]] V fun e H=>e=.returned (.int .i64 (chk m))∧Below c.heap.size c H):=hid fun V hV=>by
  have o:=Z0_ v (le_refl _) hV;refine (C2_ E m _ V (B.up o) (hs m T) (D.up o)).mono ?_;rintro e H ⟨rfl,hb⟩;exact ⟨rfl,Z0_ hV (le_refl _) hb⟩
 have x:Hid (∀ V,Below c.heap.size c V→V.cell? ⟨W.heap.size,0,none⟩=some (.int .i64 m.t)∧V.cell? ⟨W.heap.size,1,none⟩=some (.int .i64 m.n)∧V.cell? ⟨W.heap.size,2,none⟩=some (.int .i64 m.a)∧V.cell? ⟨W.heap.size,3,none⟩=some (.int .i64 m.b)∧V.cell? ⟨W.heap.size,4,none⟩=some r∧V.cell? ⟨W.heap.size,5,none⟩=some q∧V.cell? ⟨j,0,none⟩=some (.slice (some g) ms.length d)∧V.cell? ⟨g.block,g.off+1,none⟩=some (.int .i64 (ms.getD 0 default).n)):=hid fun V hV=>by
  have h:=G.out.below hV G.out.lt;have o:=Z0_ v (le_refl _) hV;exact ⟨h.cell 0,h.cell 1,h.cell 2,h.cell 3,h.cell 4,h.cell 5,(o.cell (p:=⟨j,0,none⟩) R).trans I,(o.cell (p:=⟨g.block,g.off+1,none⟩) Q).trans J⟩
 obtain ⟨z,C⟩:∃ z,(ms.getD 0 default).n=z:=⟨_,rfl⟩;have P:=hid C;rw [C] at x;clear C I J s v hc N K D B k;show Calls Tryz.prog 63 #[.agg #[.int .i64 m.t,.int .i64 m.n,.int .i64 m.a,.int .i64 m.b,r,q],.pointer (some ⟨j,0,none⟩)] W _;unfold oddM;rw [P.out];by_cases y:m.n=z
 ·subst y
  rw [show (m.n==m.n)=true by simp]
  go_enter Tryz.func63,Tryz.ntmps63
  go_wp2;rw [← F.out];refine Z6_ c.heap.size c z40_ z40_ (Below.refl _ _) ?_
  iterate 13 (first
   | go_big_quiet_step (with_reducible exact O.out _)
   | (go_big_quiet_want;apply Exists.intro;refine ⟨fun V hV=>?_,?_⟩;(· obtain ⟨U,X,Y,Z,k4,k5,k6,k7⟩:=x.out V hV;go_simp;first | exact rfl | exact ⟨rfl,rfl⟩);go_simp;go_big_quiet_on))
  exact y17_
 ·have S:(m.n==z)=false:=by simpa using y
  have x1:(m.n != z)=true:=by simpa using y
  rw [S]
  go_enter Tryz.func63,Tryz.ntmps63
  go_wp2;rw [← F.out];refine Z6_ c.heap.size c z40_ z40_ (Below.refl _ _) ?_
  iterate 13 (first
   | go_big_quiet_skip
   | (go_big_quiet_want;apply Exists.intro;refine ⟨fun V hV=>?_,?_⟩;(· obtain ⟨U,X,Y,Z,k4,k5,k6,k7⟩:=x.out V hV;go_simp;first | exact rfl | exact ⟨rfl,rfl⟩);go_simp;go_big_quiet_on))
  exact y17_
theorem Zh3 (E:Nat→Addr) (ms:List Mat) (v:Value) (w:World) (hl:MatL w w.heap.size v ms) (hs:∀ m∈ms,Sml m) (B:Env E w):Calls Tryz.prog 43 #[v] w (Says w (sevB ms)):=by
 have j:=hid hl;have L:=hid hs;have I:=hid B;obtain ⟨A,d,rfl,u,_⟩:=id hl;have S:(ms.length:Int)≤9223372036854775807:=by have h:=u.1;have h2:=u.2.1;unfold maxLen at h2;omega
 obtain ⟨c,hW0⟩:∃ c,c=w.alloc (.cells #[.slice A ms.length d] 23):=⟨_,rfl⟩;have HW0:=hid hW0;have C:Below w.heap.size w c:=y42_;have o:Hid (Blk c w.heap.size 23 #[.slice A ms.length d]):=hid y44_;have Hb0:=hid C;unfold sevB;clear hl hs B u hW0 C;by_cases h:1≤ms.length
 ·by_cases h2:ms.length≤8
  ·rw [decide_eq_true h,decide_eq_true h2,Bool.true_and,Bool.true_and]
   have q:¬ (ms.length:Int)<1:=y40_;have x:¬ (8:Int)<(ms.length:Int):=y40_;have Q:decide ((ms.length:Int)<1)=false:=decide_eq_false q;have R:decide ((8:Int)<(ms.length:Int))=false:=decide_eq_false x;obtain ⟨g,O,U,T,y,_,D⟩:=j.out.one (k:=0) y40_;obtain rfl:A=some g:=(Value.slice.inj y).1;obtain ⟨H,P,G,_,F⟩:=id j.out;obtain ⟨M,_,z,r,_,_⟩:=F 0 y40_;obtain rfl:H=some g:=(Value.slice.inj G).1.symm;obtain rfl:g=M:=Option.some.inj z;have s:=(D w (Below.refl _ _)).2.1;rw [Nat.zero_mul,add_zero] at s;have K:Hid (Yt8 c 63 #[.pointer (some ⟨w.heap.size,0,none⟩)] (oddM ms) ms):=hid (Vt1 E ms w.heap.size d g c (I.out.up Hb0.out) y40_ L.out o.out.lt (Nat.lt_of_lt_of_le r Hb0.out.size) (o.out.cell 0) ((Hb0.out.cell (p:=⟨g.block,g.off+1,none⟩) r).trans s));have J:=hid (j.out.up Hb0.out);have N:ms.length≤1048576:=y40_;have k0:=o.out.cell 0;clear D F G y z s r
   go_enter Tryz.func43,Tryz.ntmps43
   go_wp2_with fail
   rw [← HW0.out];refine (Zu0 63 _ (oddM ms) _ ms _ (enters_of Tryz.func63 z40_ rfl) J.out N K.out).mono ?_;exact q39_
  ·rw [decide_eq_true h,decide_eq_false h2]
   have q:¬ (ms.length:Int)<1:=y40_;have x:(8:Int)<(ms.length:Int):=y40_;exact j7_
 ·rw [decide_eq_false h]
  have q:(ms.length:Int)<1:=y40_;exact j7_
end Go.Proofs.YtigobiacbficaaaGreatDoor.Wp
