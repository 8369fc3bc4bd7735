/- The program's Turn of layer 13; the document's May and Lists; walked (written by gen_vturn.py). -/
import Derived.Test.YteiejkhdonmcdaaGreatDoorVGraph
import Derived.Test.YteiejkhdonmcdaaGreatDoorVR13A
import Derived.Test.YteiejkhdonmcdaaGreatDoorVIndep
import Derived.Test.YteiejkhdonmcdaaGreatDoorIUnion
import Derived.Test.YteiejkhdonmcdaaGreatDoorX0A
import Derived.Test.YteiejkhdonmcdaaGreatDoorX0B
set_option maxHeartbeats 8000000
set_option maxRecDepth 100000
open Go.Lib (hid)
namespace Go.Proofs.YteiejkhdonmcdaaGreatDoor
open Go Go.RowKit
namespace Wp
theorem Zg7 (v:Value) (l:List Int) (b:Bool) (h:mayB l=b) (w:World) (c:Row w w.heap.size v l):Calls Tryz.prog 55 #[v] w (Says w b):=by
 obtain ⟨_,_,_,⟨e,d,_⟩,_⟩:=id c;have:=may_any v l w c (by unfold maxLen at d;omega)
 rwa [h] at this
theorem Xi9 (H G:Value) (s l:List Int) (w:World) (z:mayB s=true) (y:(sortL l).length=l.length) (hs:Row w w.heap.size H s) (B:Row w w.heap.size G l) (x3:s.length≤1000) (x2:l.length≤1000) :
  Calls Tryz.prog 22 #[H,G] w (Gives w (Y1_ (Z5_ s (sortL l)) (Z5_ (sortL l) s))):=by
 have r:=hid hs;have M:=hid B;have L:=hid z;obtain ⟨As,cs,rfl,_⟩:=hs;obtain ⟨Y,cp,rfl,_⟩:=B;clear z
 go_enter Tryz.func22,Tryz.ntmps22
 go_wp2_with fail
 refine (Zq1 _ l _ M.out q39_).mono ?_;rintro e w1 ⟨v1,rfl,C,v⟩;have d:=hid C;have o:=hid v;obtain ⟨P,g⟩:∃ P,sortL l=P:=⟨_,rfl⟩;have N:=hid g;rw [g] at d y;have h:P.length≤1048576:=q39_;have m:s.length≤1048576:=q39_;obtain ⟨Z,cq,rfl,_⟩:=id d.out;have x0:¬ (P.length:Int)<(l.length:Int):=q39_;have x1:P.length≤1048576:=q39_;clear C v g y
 go_wp2_with fail
 refine (Zg7 _ s true L.out _ (r.out.up o.out)).mono ?_;rintro e w2 ⟨rfl,j⟩;have p:=hid (Z0_ o.out (Nat.le_refl _) j);have q:=hid (d.out.up j);have u:=hid (r.out.up p.out);clear j
 go_wp2_with fail
 refine (H5_ _ _ s P _ u.out q.out m h).mono ?_;rintro e w3 ⟨v3,rfl,D,c⟩;have Q:=hid D;have I:=hid (Z0_ p.out (Nat.le_refl _) c);have O:=hid (q.out.up c);have U:=hid (u.out.up c);clear c D
 go_wp2_with fail
 refine (H5_ _ _ P s _ O.out U.out h m).mono ?_;rintro e w4 ⟨v4,rfl,E,k⟩;have S:=hid E;have J:=hid (Z0_ I.out (Nat.le_refl _) k);have R:=hid (Q.out.up k);clear k E;have V:(Z5_ s P).length≤1048576:=Nat.le_trans (O9_ s P) m;have W:(Z5_ P s).length≤1048576:=Nat.le_trans (O9_ P s) h
 go_wp2_with fail
 refine (Ze1 _ _ (Z5_ s P) (Z5_ P s) _ R.out S.out V W).mono ?_;rintro e w5 ⟨X,rfl,F,x⟩;have T:=hid F;have K:=hid (Z0_ J.out (Nat.le_refl _) x);clear x F;go_wp2;go_ret;exact ⟨X,rfl,by rw [N.out];exact T.out,K.out⟩
theorem Xy2 (u r:Value) (s l:List Int) (w:World) (c:mayB s=false∨(mayB s=true∧(sortL l).length≠l.length)) (hs:Row w w.heap.size u s) (q:Row w w.heap.size r l) (_hsl:s.length≤1000) (G:l.length≤1000) :
  Calls Tryz.prog 22 #[u,r] w (Gives w []):=by
 have p:=hid hs;have o:=hid q;obtain ⟨C,cs,rfl,_⟩:=hs;obtain ⟨B,D,rfl,_⟩:=q;obtain ⟨P,m⟩:∃ P,sortL l=P:=⟨_,rfl⟩;have k:=hid m;rw [m] at c;clear m;rcases c with c | ⟨c,E⟩
 ·have j:=hid c
  clear c
  go_enter Tryz.func22,Tryz.ntmps22
  go_wp2_with fail
  refine (Zq1 _ l _ o.out q39_).mono ?_;rintro e z ⟨y,rfl,g,d⟩;rw [k.out] at g;have HB1:=hid d;obtain ⟨v,x,rfl,_⟩:=g;clear d
  go_wp2_with fail
  refine (Zg7 _ s false j.out _ (p.out.up HB1.out)).mono ?_;exact x7_
 ·have j:=hid c
  have F:(P.length:Int)<(l.length:Int):=by have h:=E8_ l;rw [k.out] at h;omega
  clear c
  go_enter Tryz.func22,Tryz.ntmps22
  go_wp2_with fail
  refine (Zq1 _ l _ o.out q39_).mono ?_;rintro e z ⟨y,rfl,g,d⟩;rw [k.out] at g;have HB1:=hid d;obtain ⟨v,x,rfl,_⟩:=g;clear d
  go_wp2_with fail
  refine (Zg7 _ s true j.out _ (p.out.up HB1.out)).mono ?_;exact x7_
theorem K9_ (d c:Value) (s l:List Int) (w:World) (hs:Row w w.heap.size d s) (g:Row w w.heap.size c l) (k:s.length≤1000) (j:l.length≤1000) :
  Calls Tryz.prog 22 #[d,c] w (Gives w (turnL s l)):=by
 unfold turnL;by_cases h:mayB s=true∧(sortL l).length=l.length
 ·rw [if_pos h];exact Xi9 d c s l w h.1 h.2 hs g k j
 ·rw [if_neg h]
  refine Xy2 d c s l w ?_ hs g k j;exact y27_
theorem C5_ (a b:Mat) (F G E:Value) (s:List Int) (w:World) (ha:MatV w w.heap.size F a) (hb:MatV w w.heap.size G b) (C:Sml a) (D:Sml b) (k:Row w w.heap.size E s) :
  Calls Tryz.prog 19 #[F,G,E] w (Says w (mayS a b s)):=by
 have Y:=hid ha;have Z:=hid hb;have N:=hid C;have O:=hid D;have x1:=hid k;obtain ⟨la,ia,V,R,P⟩:=ha.open;obtain ⟨lb,ib,W,S,Q⟩:=hb.open;obtain ⟨Al,cl,rfl,_⟩:=R;obtain ⟨Ai,ci,rfl,_⟩:=P;obtain ⟨Bl,dl,rfl,_⟩:=S;obtain ⟨Bi,di,rfl,_⟩:=Q;obtain ⟨X,cs,U,_⟩:=id k;subst V W U;obtain ⟨g,hW2⟩:∃ g,g=(w.alloc (.cells #[.int .i64 a.t,.int .i64 a.n,.int .i64 a.a,.int .i64 a.b,.slice Al a.l.length cl,.slice Ai a.i.length ci] 25)).alloc (.cells #[.int .i64 b.t,.int .i64 b.n,.int .i64 b.a,.int .i64 b.b,.slice Bl b.l.length dl,.slice Bi b.i.length di] 25):=⟨_,rfl⟩;have q:=hid hW2;have h:Below w.heap.size w g:=by rw [hW2];exact ((Below.refl _ w).alloc (Nat.le_refl _) _).alloc j39_ _
 have v:Blk g w.heap.size 25 #[.int .i64 a.t,.int .i64 a.n,.int .i64 a.a,.int .i64 a.b,.slice Al a.l.length cl,.slice Ai a.i.length ci]:=y41_;have z:Blk g (w.heap.size+1) 25 #[.int .i64 b.t,.int .i64 b.n,.int .i64 b.a,.int .i64 b.b,.slice Bl b.l.length dl,.slice Bi b.i.length di]:=q5_;have r:=hid h;have x0:=hid v;have u:=hid z;have H:=hid (ha.up h);have I:=hid (hb.up h);have p:=hid (k.up h);obtain ⟨x,m⟩:∃ x,indT a s=x:=⟨_,rfl⟩;obtain ⟨y,o⟩:∃ y,indT b s=y:=⟨_,rfl⟩;have L:=hid m;have M:=hid o;have B:mayS a b s=(decide (a.n=b.n) && (x && y)):=by unfold mayS;rw [m,o]
 rw [B];clear hW2 h v z ha hb C D k m o B;by_cases d:a.n=b.n
 ·have T:(a.n==b.n)=true:=by simpa using d
  rw [decide_eq_true d,Bool.true_and];clear d
  go_enter Tryz.func19,Tryz.ntmps19
  go_wp2_with fail
  rw [← q.out];refine (C4_ a _ _ s _ H.out N.out p.out).mono ?_;rintro e w3 ⟨rfl,j⟩;rw [L.out];have Hb3:=hid (Z0_ r.out (Nat.le_refl _) j);have c:=hid (u.out.below j u.out.lt);have J:=hid (I.out.up j);have K:=hid (p.out.up j);clear j;cases x
  ·exact y7_
  ·have n0:=c.out.cell 0
   have n1:=c.out.cell 1;have n2:=c.out.cell 2;have n3:=c.out.cell 3;have n4:=c.out.cell 4;have n5:=c.out.cell 5
   go_wp2_with fail
   refine (C4_ b _ _ s _ J.out O.out K.out).mono ?_;rintro e w4 ⟨rfl,hb4⟩;rw [M.out];have Hb4:=hid (Z0_ Hb3.out (Nat.le_refl _) hb4);exact k28_
 ·have T:(a.n==b.n)=false:=by simpa using d
  rw [decide_eq_false d,Bool.false_and];clear d
  go_enter Tryz.func19,Tryz.ntmps19
  go_wp2;rw [← q.out];go_ret;exact ⟨rfl,r.out⟩
theorem Xy3 (J K:Value) (pp:List (List Int)) (w:World) (ha:Rows2 w w.heap.size J pp) (hb:Rows2 w w.heap.size K pp) (hl:pp.length≤1000) (G:∀ i,i<pp.length→(pp.getD i []).length≤1000) :
  Calls Tryz.prog 20 #[J,K] w (Says w true):=by
 obtain ⟨Aa,ca,rfl,_,D⟩:=ha;obtain ⟨Ab,cb,rfl,_,E⟩:=hb;have R:=hid D;have S:=hid E;have T:=hid G;have x2:(pp.length:Int)≤1000:=q39_;have x3:((pp.length:Int) != (pp.length:Int))=false:=j39_;clear D E G
 go_enter Tryz.func20,Tryz.ntmps20
 go_wp2
 go_loopw [5,6] (fun j _ wr=>∃ i:Nat,j=.int .i64 (i:Int)∧i≤pp.length∧Hid (Below w.heap.size w wr)) (fun j _ _=>pp.length - (intOf j).toNat)
 case atStart=>exact ⟨0,rfl,Nat.zero_le _,hid (Below.refl _ _)⟩
 case round =>
  obtain ⟨i,rfl,x0,c⟩:=hrel;by_cases h:i<pp.length
  ·have Z:(i:Int)<(pp.length:Int):=by omega
   obtain ⟨al,u,hA,halb,B,H⟩:=R.out i h;subst hA;obtain ⟨o,u2,hA,X,C,I⟩:=S.out i h;subst hA;have hq:=T.out i h;generalize pp.getD i []=q at *
   have P:=hid H;have Q:=hid I;obtain ⟨L,U,rfl,_⟩:=H;obtain ⟨M,V,rfl,_⟩:=I;have d:Hid (∀ W,Below w.heap.size w W→W.cell? (al.add i)=some (.slice L q.length U)∧W.cell? (o.add i)=some (.slice M q.length V)):=hid fun W y=>⟨(y.cell (p:=al.add i) j42_).trans B,(y.cell (p:=o.add i) (by rw [Z2_];exact X)).trans C⟩;have x4:((q.length:Int) != (q.length:Int))=false:=j39_;have x5:(q.length:Int)≤1000:=q39_;have x6:IntKind.i64.wrap ((i:Int)+1)=(i:Int)+1:=q40_;obtain ⟨r,s⟩:=d.out wr c.out;obtain ⟨v,x⟩:=d.out wr.drew c.out.drew;clear B C;go_wp2
   go_region
   all_goals
    have N:=hid c.out.drew;clear r s v x;go_wp2
    go_loopw [6] (fun m wr=>∃ k:Nat,m=.int .i64 (k:Int)∧k≤q.length∧Hid (Below w.heap.size w wr)) (fun m _=>q.length - (intOf m).toNat)
    case atStart=>exact ⟨0,rfl,Nat.zero_le _,N⟩
    case round =>
     obtain ⟨k,rfl,x1,HBk⟩:=hrel;obtain ⟨r,s⟩:=d.out wr HBk.out;obtain ⟨v,x⟩:=d.out wr.drew HBk.out.drew;by_cases F:k<q.length
     ·have Y:(k:Int)<(q.length:Int):=by omega
      obtain ⟨ar,hA,e⟩:=Row.nthV P.out F;subst hA;obtain ⟨br,hA,g⟩:=Row.nthV Q.out F;subst hA;have e1:=e wr HBk.out;have e2:=e wr.drew HBk.out.drew;have e3:=g wr HBk.out;have e4:=g wr.drew HBk.out.drew;generalize q.getD k 0=z at *
      have hz:(z != z)=false:=j39_;have x7:IntKind.i64.wrap ((k:Int)+1)=(k:Int)+1:=q40_;clear e g;go_wp2
      go_region
      all_goals
       have O:=hid HBk.out.drew;go_wp2
       go_roundw
       case rel=>exact ⟨k+1,j40_,q39_,O⟩
       case measure=>simp [intOf];omega
     ·have Y:¬ (k:Int)<(q.length:Int):=by omega
      exact j19_
  ·have Z:¬ (i:Int)<(pp.length:Int):=by omega
   go_wp2;go_ret;exact ⟨rfl,c.out⟩
end Wp
end Go.Proofs.YteiejkhdonmcdaaGreatDoor
