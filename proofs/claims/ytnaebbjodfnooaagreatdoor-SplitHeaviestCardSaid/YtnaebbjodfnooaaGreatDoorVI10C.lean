/- The program's split.left, most, heaviest, May, clone, walked. -/
import Derived.Test.YtnaebbjodfnooaaGreatDoorYSplit
import Derived.Test.YtnaebbjodfnooaaGreatDoorZE
import Derived.Test.YtnaebbjodfnooaaGreatDoorZR
import Derived.Test.YtnaebbjodfnooaaGreatDoorGGreat
import Derived.Deep.RegionHeld3
import Derived.Test.YtnaebbjodfnooaaGreatDoorZX
import Derived.Test.YtnaebbjodfnooaaGreatDoorQTB
import Derived.Test.YtnaebbjodfnooaaGreatDoorQTD
import Derived.Test.YtnaebbjodfnooaaGreatDoorZW
import Derived.Deep.Slices
import Derived.Test.YtnaebbjodfnooaaGreatDoorX0A
import Derived.Test.YtnaebbjodfnooaaGreatDoorX0C
set_option maxHeartbeats 16000000
set_option maxRecDepth 100000
open Go.Lib (hid)
open Nat (le_refl)
namespace Go.Proofs.YtnaebbjodfnooaaGreatDoor.Wp
open Go Go.RowKit
def Yh0 (w:World) (g:Nat) (lb:Array Value) (P:Int→Bool) (l:List Int):Prop :=
 ∀ x∈l,∀ (W:World),Below w.heap.size w W→Calls Tryz.prog g (#[.int .i64 x] ++ lb) W fun e W'=>e=.returned (.bool (P x))∧Below W.heap.size W W'
theorem D1_ {w w':World} {base:Nat} {e:TypeId} {k n:Nat} {v:Value} {c:List Value} (h:w.ownsRow base e k v n c) (hb:Below w.heap.size w w'):w'.ownsRow base e k v n c :=
 h.kept (row:=none) (Z8_ hb _) (by cases d:Value.ownBlock v<;>simp)
theorem Yh1 {l:List Int} {P:Int→Bool} {k:Nat} (h:k<l.length):(l.take (k+1)).filter P=(l.take k).filter P ++ if P (l.getD k 0)=true then [l.getD k 0] else []:=by
 rw [List.take_succ_eq_append_getElem h,List.filter_append,show l.getD k 0=l[k] by simp [List.getD,h]];cases hp:P l[k]<;>simp [hp]
theorem Zs6 (g:Nat) (M:Array Value) (P:Int→Bool) (v:Value) (l:List Int) (w:World) (T:∀ args w,(callFunc g args).run Tryz.prog w=.ok (.enter g args) w) (R:Row w w.heap.size v l) (hl:l.length≤1048576) (L:Yh0 w g M P l) :
  Calls Tryz.prog 53 #[v,.func (.func g) #[] M] w (Gives w (l.filter P)):=by
 obtain ⟨A,c,rfl,_,y⟩:=R;have C:=hid y;have G:=hid L;have V:(l.length:Int)≤1048576:=x37_;clear y L
 go_enter Tryz.func53,Tryz.ntmps53
 go_wp2
 go_loopw [5,10] (fun S B wr=>∃ k:Nat,B=.int .i64 k∧k≤l.length∧wr.ownsRow w.heap.size 3 1 S ((l.take k).filter P).length (ints ((l.take k).filter P))∧Below w.heap.size w wr) (fun _ B _=>l.length - (intOf B).toNat)
 case atStart=>exact ⟨0,rfl,Nat.zero_le _,World.ownsRow_nil _ _ _ _,Below.refl _ _⟩
 case round =>
  obtain ⟨k,rfl,y,m,hb⟩:=hrel;have d:=hid hb;have j:=hid m;clear hb m;by_cases z:k<l.length
  ·obtain ⟨O,hA,hab,hc⟩:=C.out k z
   subst hA;have U:=(d.out.cell (p:=O.add k) j38_).trans hc;have q:=hid (G.out (l.getD k 0) (Y9_ 0 z) _ d.out);have D:=hid (Yh1 (P:=P) z);have W:(k:Int)<(l.length:Int):=x37_;have K:((l.take k).filter P).length≤1048576:=Nat.le_trans (List.length_filter_le _ _) (Nat.le_trans (List.length_take_le _ _) x37_);have N:=hid K;clear K;generalize l.getD k 0=x at *
   clear hc C G;rcases hq:P x with _ | _
   ·rw [hq] at q
    have u:=hid hq;clear hq
    go_wp2_with fail
    refine (q.out).mono ?_;rintro e w' ⟨rfl,h⟩;have s:=hid (D1_ j.out h);have r:=hid (d.out.trans (h.mono d.out.size));clear h;go_wp2
    go_roundw
    case rel=>exact ⟨k+1,y38_,x37_,by rw [D.out,u.out,if_neg q38_,List.append_nil];exact s.out,r.out⟩
    exact mz_
   ·rw [hq] at q
    have u:=hid hq;clear hq
    go_wp2_with fail
    refine (q.out).mono ?_;rintro e w' ⟨rfl,h⟩;have m:=D1_ j.out h;have J:=d.out.trans (h.mono d.out.size);have o:=hid J;have E:=hid m;generalize (l.take k).filter P=F at *
    clear h j
    go_wp2_with (at_builtin;refine Z4_ rfl _ _ rfl w.heap.size _ _ _ F [x] rfl rfl (E.out.alloc _) (Row.lit1 _ x) (by have:=N.out;omega) j37_ (by have:=o.out.size;simp;omega) ?_)
    intro X Y H I;have r:=hid ((o.out.alloc o.out.size _).grown I (by have:=o.out.size;simp;omega) (fun i hi=>(E.out.lt i hi).1));have s:=hid H;clear H I m J;go_wp2
    go_roundw
    case rel=>exact ⟨k+1,y38_,x37_,by rw [D.out,u.out,if_pos rfl,List.length_append];exact s.out,r.out⟩
    exact mz_
  ·have Q:k=l.length:=by omega
   subst Q;rw [List.take_length] at j;go_wp2;go_ret;exact ⟨_,rfl,Row.of_own j.out rfl,d.out⟩
def WIn (ws l:List Int):Prop:=(∀ x∈l,0≤x∧x<(ws.length:Int))∧∀ x∈ws,-9223372036854775808≤x∧x≤9223372036854775807
theorem Xn0 {ws l:List Int} {k:Nat} (h:k<l.length):mostL ws (l.take (k+1))=max (mostL ws (l.take k)) (wt ws (l.getD k 0)):=by
 unfold mostL;rw [List.take_succ_eq_append_getElem h,List.foldl_append,show l.getD k 0=l[k] by simp [List.getD,h]];rfl
theorem wt_in {ws l:List Int} (h:WIn ws l) {x:Int} (c:x∈l):-9223372036854775808≤wt ws x∧wt ws x≤9223372036854775807:=by
 have:=h.1 x c;exact h.2 _ (Y9_ 0 x37_)
theorem Xv6 {ws l:List Int} (h:WIn ws l):l.filter (fun x=>wt ws x==mostL ws l)=topL ws l:=by
 unfold topL;refine List.filter_congr fun x d=>?_;rw [Bool.eq_iff_iff,beq_iff_eq,List.all_eq_true];constructor
 ·intro e y c
  have:=H6_ (w:=ws) c;exact decide_eq_true x37_
 ·intro f
  obtain ⟨z,g,j⟩:=U8_ (w:=ws) (l:=l) (List.ne_nil_of_mem d) fun y c=>(wt_in h c).1;have k:=of_decide_eq_true (f z g);have m:=H6_ (w:=ws) d;omega
theorem Zs7 (q v:Value) (ws l:List Int) (w:World) (h:Row w w.heap.size q ws) (g:Row w w.heap.size v l) (hl:l.length≤1048576) (hi:WIn ws l) :
  Calls Tryz.prog 55 #[q,v] w (Tells w (mostL ws l)):=by
 have s:=hid h;have r:=hid g;have u:=hid hi;obtain ⟨D,G,rfl,_⟩:=id h;obtain ⟨A,c,rfl,_⟩:=id g;have L:(l.length:Int)≤1048576:=x37_;clear h g hi
 go_enter Tryz.func55,Tryz.ntmps55
 go_wp2
 go_loopw [5,10] (fun C j wr=>∃ k:Nat,j=.int .i64 k∧k≤l.length∧C=.int .i64 (mostL ws (l.take k))∧Below w.heap.size w wr) (fun _ j _=>l.length - (intOf j).toNat)
 case atStart=>exact ⟨0,rfl,Nat.zero_le _,rfl,Below.refl _ _⟩
 case round =>
  obtain ⟨k,rfl,K,rfl,hb⟩:=hrel;have Hb:=hid hb;by_cases e:k<l.length
  ·have M:(k:Int)<(l.length:Int):=by omega
   obtain ⟨E,hA,m⟩:=Row.nth r.out e;subst hA;have H:=m wr hb;have p:=u.out.1 _ (Y9_ 0 e);have d:=hid (Xn0 (ws:=ws) e);generalize l.getD k 0=x at *
   obtain ⟨i,rfl⟩:∃ i:Nat,x=(i:Int):=⟨x.toNat,x37_⟩;have J:(i:Int)<(ws.length:Int):=p.2;obtain ⟨F,y,o⟩:=Row.nth s.out (k:=i) x37_;subst y;have I:=o wr hb;unfold wt at d;rw [Int.toNat_natCast] at d;generalize ws.getD i 0=z at *
   generalize mostL ws (l.take k)=t at *
   clear m o hb p;go_wp2
   go_roundw
   case rel=>exact ⟨k+1,y38_,x37_,by rw [d.out],Hb.out⟩
   exact mz_
  ·have B:k=l.length:=by omega
   subst B;rw [List.take_length];exact q27_
theorem Yh2 (ws l:List Int) (r:Value) (B C:Nat) (w:World) (hB:B<w.heap.size) (D:C<w.heap.size) (hc:w.cell? ⟨B,0,none⟩=some r) (hd:w.cell? ⟨C,0,none⟩=some (.int .i64 (mostL ws l))) (g:Row w w.heap.size r ws) (hi:WIn ws l) :
  Yh0 w 56 #[.pointer (some ⟨B,0,none⟩),.pointer (some ⟨C,0,none⟩)] (fun x=>wt ws x==mostL ws l) l:=by
 intro x o W d;have q:=hi.1 x o;obtain ⟨i,rfl⟩:∃ i:Nat,x=(i:Int):=⟨x.toNat,x37_⟩;obtain ⟨A,c,rfl,_⟩:=id g;have j:=(d.cell (p:=⟨B,0,none⟩) hB).trans hc;have v:=(d.cell (p:=⟨C,0,none⟩) D).trans hd;have E:(i:Int)<(ws.length:Int):=q.2;obtain ⟨h,hA,m⟩:=Row.nth g (k:=i) x37_;subst hA;have u:=m W d;show Calls Tryz.prog 56 #[.int .i64 (i:Int),.pointer (some ⟨B,0,none⟩),.pointer (some ⟨C,0,none⟩)] W fun e s=>e=.returned (.bool (ws.getD i 0==mostL ws l))∧Below W.heap.size W s;clear m g hi o q hc hd;generalize ws.getD i 0=y at *
 generalize mostL ws l=z at *
 have F:=j
 go_enter Tryz.func56,Tryz.ntmps56
 go_wp2
 go_region_held3 (fun W=>W.cell? ⟨B,0,none⟩=some (.slice (some h) ws.length c)∧W.cell? ⟨C,0,none⟩=some (.int .i64 z)∧W.cell? (h.add i)=some (.int .i64 y)) (exact ⟨j,v,u⟩) (fail)
 all_goals
  go_wp2;go_ret;exact ⟨rfl,(Below.refl _ _).drew⟩
theorem Zv8 (G v:Value) (ws l:List Int) (w:World) (r:Row w w.heap.size G ws) (q:Row w w.heap.size v l) (hl:l.length≤1048576) (hi:WIn ws l) :
  Calls Tryz.prog 31 #[G,v] w (Gives w (topL ws l)):=by
 obtain ⟨k,o,rfl,_⟩:=id r;obtain ⟨N,cl,rfl,_⟩:=id q;obtain ⟨X,g⟩:∃ X,w.alloc (.cells #[.slice k ws.length o] 26)=X:=⟨_,rfl⟩;have z:=hid g;have j:Below w.heap.size w X:=by rw [← g];exact (Below.refl _ w).alloc (le_refl _) _
 have hK:Blk X w.heap.size 26 #[.slice k ws.length o]:=by rw [← g];exact Blk.new w _ _
 have m:=hid hK;have L:=hid j;have y:=hid (r.up j);have u:=hid (q.up j);have B:=hid hi;have M:=hid (Xv6 hi);clear r q g hK j hi
 go_enter Tryz.func31,Tryz.ntmps31
 have O:=(by simpa [z.out] using m.out.cell 0:X.cell? ⟨w.heap.size,0,none⟩=some (.slice k ws.length o))
 go_wp2_with fail
 rw [z.out];refine (Zs7 _ _ ws l X y.out u.out hl B.out).mono ?_;rintro e c ⟨rfl,C⟩;have K:=hid C;clear C
 go_wp2_with fail
 obtain ⟨Y,h⟩:∃ Y,c.alloc (.cells #[.int .i64 (mostL ws l)] 3)=Y:=⟨_,rfl⟩;rw [h];have E:Below c.heap.size c Y:=by rw [← h];exact (Below.refl _ c).alloc (le_refl _) _
 have p:Blk Y c.heap.size 3 #[.int .i64 (mostL ws l)]:=by rw [← h];exact Blk.new c _ _
 have d:=hid (Z0_ K.out (le_refl _) E);have I:=hid (Z0_ L.out (le_refl _) d.out);have s:=hid (m.out.below d.out m.out.lt);refine (Zs6 56 _ (fun x=>wt ws x==mostL ws l) _ l Y (enters_of Tryz.func56 y37_ rfl) (u.out.up d.out) hl (Yh2 ws l _ w.heap.size c.heap.size Y s.out.lt p.lt (s.out.cell 0) (p.cell 0) (y.out.up d.out) B.out)).mono ?_;rw [M.out];rintro e Q ⟨P,rfl,F,D⟩;have H:=hid (Z0_ I.out (le_refl _) D);have J:=hid F;clear D F h E p;go_wp2;go_ret;exact ⟨_,rfl,J.out,H.out⟩
open Go Go.RowKit
def SplL (w:World) (B:Nat) (v:Value) (L:List (List Int × List Int × List Int)):Prop :=
 ∃ A c,v=.slice A L.length c∧(L.length≤c∧c≤maxLen∧(A=none→c=0)) ∧
  ∀ k,k<L.length→∃ (ad:Addr) (sv va vb:Value),A=some ad∧ad.block<B∧w.cell? (ad.add (k * 3))=some sv∧w.cell? ⟨(ad.add (k * 3)).block,(ad.add (k * 3)).off+1,none⟩=some va∧w.cell? ⟨(ad.add (k * 3)).block,(ad.add (k * 3)).off+2,none⟩=some vb ∧
   Row w B sv (L.getD k default).1∧Row w B va (L.getD k default).2.1∧Row w B vb (L.getD k default).2.2
theorem SplL.below {w w':World} {B:Nat} {v:Value} {L:List (List Int × List Int × List Int)} (h:SplL w B v L) (hb:Below B w w'):SplL w' B v L:=by
 obtain ⟨A,c,q,p,m⟩:=h;refine ⟨A,c,q,p,fun k o=>?_⟩;obtain ⟨e,x,y,z,hA,hab,f,g,j,r,s,u⟩:=m k o;have d:(e.add (k * 3)).block<B:=j38_;exact ⟨e,x,y,z,hA,hab,(hb.cell d).trans f,(hb.cell (by exact d)).trans g,(hb.cell (by exact d)).trans j,r.below hb,s.below hb,u.below hb⟩
theorem SplL.mono {w:World} {B C:Nat} {v:Value} {L:List (List Int × List Int × List Int)} (h:SplL w B v L) (hl:B≤C):SplL w C v L:=by
 obtain ⟨A,c,q,p,m⟩:=h;refine ⟨A,c,q,p,fun k o=>?_⟩;obtain ⟨d,x,y,z,hA,j,e,f,g,r,s,u⟩:=m k o;exact ⟨d,x,y,z,hA,Nat.lt_of_lt_of_le j hl,e,f,g,r.mono hl,s.mono hl,u.mono hl⟩
theorem SplL.up {w w':World} {v:Value} {L:List (List Int × List Int × List Int)} (h:SplL w w.heap.size v L) (hb:Below w.heap.size w w'):SplL w' w'.heap.size v L:=(h.below hb).mono hb.size
def V4_ (ws:List Int) (L:List (List Int × List Int × List Int)):Nat→Int × Int
 | 0=>(-1,0)
 | k+1=>if (V4_ ws L k).1<0∨(V4_ ws L k).2<J3_ ws (L.getD k default).1 then ((k:Int),J3_ ws (L.getD k default).1) else V4_ ws L k
theorem Yh3 (ws:List Int) (L:List (List Int × List Int × List Int)):∀ k,-1≤(V4_ ws L k).1∧(V4_ ws L k).1<(k:Int)∧(0<k→0≤(V4_ ws L k).1)
 | 0=>⟨by show (-1:Int)≤-1;omega,by show (-1:Int)<((0:Nat):Int);omega,fun h=>absurd h (Nat.lt_irrefl 0)⟩
 | k+1=>by
  obtain ⟨c,d,h3⟩:=Yh3 ws L k;unfold V4_;split
  ·exact ⟨by show (-1:Int)≤(k:Int);omega,by show (k:Int)<((k+1:Nat):Int);omega,fun _=>by show (0:Int)≤(k:Int);omega⟩
  ·rename_i hn
   rw [not_or] at hn;exact ⟨c,x37_,fun _=>by omega⟩
theorem W5_ (v Q:Value) (L:List (List Int × List Int × List Int)) (ws:List Int) (w:World) (hl:SplL w w.heap.size v L) (u:Row w w.heap.size Q ws) :
  Calls Tryz.prog 8 #[v,Q] w (Tells w (V4_ ws L L.length).1):=by
 have R:=hid hl;have T:=hid u;obtain ⟨A,c,rfl,hc,_⟩:=id hl;obtain ⟨Aw,cw,rfl,_⟩:=id u;have x3:(L.length:Int)≤9223372036854775807:=by have h:=hc.1;have g:=hc.2.1;unfold maxLen at g;omega
 clear hl u hc
 go_enter Tryz.func8,Tryz.ntmps8
 go_wp2
 go_loopw [5,6,12] (fun v5 v6 z wr=>∃ k:Nat,z=.int .i64 k∧k≤L.length∧v5=.int .i64 (V4_ ws L k).1∧v6=.int .i64 (V4_ ws L k).2∧Below w.heap.size w wr) (fun _ _ z _=>L.length - (intOf z).toNat)
 case atStart=>exact ⟨0,rfl,Nat.zero_le _,rfl,rfl,Below.refl _ _⟩
 case round =>
  obtain ⟨k,rfl,hk,rfl,rfl,hb⟩:=hrel;have Hb:=hid hb;by_cases x2:k<L.length
  ·have x4:(k:Int)<(L.length:Int):=by omega
   obtain ⟨A',c',hv,_,J⟩:=R.out;obtain ⟨j,N,O,P,hA,hab,H,h,g,y,K,M⟩:=J k x2;cases hv;subst hA;have q:(j.add (k * 3)).block<w.heap.size:=j38_;have X:=(hb.cell q).trans H;have Y:=(hb.cell (p:=⟨(j.add (k * 3)).block,(j.add (k * 3)).off+1,none⟩) q).trans h;have Z:=(hb.cell (p:=⟨(j.add (k * 3)).block,(j.add (k * 3)).off+2,none⟩) q).trans g;have S:=hid ((y.up hb).upA (.cells #[N,O,P] 36));have U:=hid ((T.out.up hb).upA (.cells #[N,O,P] 36));obtain ⟨E,cs,rfl,_⟩:=id y;obtain ⟨C,F,rfl,_⟩:=id K;obtain ⟨D,G,rfl,_⟩:=id M;have V:=hid (Blk.new wr 36 #[.slice E (L.getD k default).1.length cs,.slice C (L.getD k default).2.1.length F,.slice D (L.getD k default).2.2.length G]);have x0:=V.out.cell 0;have d:Hid (V4_ ws L (k+1)=if (V4_ ws L k).1<0∨(V4_ ws L k).2<J3_ ws (L.getD k default).1 then ((k:Int),J3_ ws (L.getD k default).1) else V4_ ws L k):=hid rfl;obtain ⟨o,r⟩:∃ o,V4_ ws L k=o:=⟨_,rfl⟩;obtain ⟨W,mm⟩:=o;rw [r] at d;rw [r];clear hb H h g y K M J r;generalize (L.getD k default).1=s at *
   generalize (L.getD k default).2.1=sa at *
   generalize (L.getD k default).2.2=sb at *
   go_wp2_with fail
   refine (Xv5 _ _ ws s _ U.out S.out).mono ?_;rintro e w2 ⟨rfl,I⟩;have m:=hid (Z0_ (Hb.out.alloc Hb.out.size (.cells #[.slice E s.length cs,.slice C sa.length F,.slice D sb.length G] 36)) (le_refl _) I);obtain ⟨B,x⟩:∃ B,J3_ ws s=B:=⟨_,rfl⟩;rw [x] at d;rw [x];clear I X Y Z x0 x;by_cases h:W<0
   ·go_wp2
    go_roundw
    case rel=>exact ⟨k+1,y38_,x37_,by rw [d.out,if_pos (.inl h)],by rw [d.out,if_pos (.inl h)],m.out⟩
    exact mz_
   ·by_cases g:mm<B
    ·go_wp2
     go_roundw
     case rel=>exact ⟨k+1,y38_,x37_,by rw [d.out,if_pos (.inr g)],by rw [d.out,if_pos (.inr g)],m.out⟩
     exact mz_
    ·replace d:=hid (d.out.trans (if_neg (not_or.2 ⟨h,g⟩)))
     go_wp2
     go_roundw
     case rel=>exact ⟨k+1,y38_,x37_,by rw [d.out],by rw [d.out],m.out⟩
     exact mz_
  ·have x1:k=L.length:=by omega
   subst x1;clear hb;exact q27_
open Go Go.RowKit
theorem Zv9 (n:Int) (k c2 c3 c4 c5 g q:Value) (s:List Int) (w:World) (p:Row w w.heap.size g s) (I:s.length≤1048576) :
  Calls Tryz.prog 50 #[.agg #[k,.int .i64 n,c2,c3,c4,c5,g,q]] w (Gives w (Z5_ (allL n) s)):=by
 obtain ⟨c,hW0⟩:∃ c,c=w.alloc (.cells #[k,.int .i64 n,c2,c3,c4,c5,g,q] 74):=⟨_,rfl⟩;have D:=hid hW0;have m:Below w.heap.size w c:=y39_;have v:Blk c w.heap.size 74 #[k,.int .i64 n,c2,c3,c4,c5,g,q]:=by rw [hW0];exact Blk.new w _ _
 have E:=hid m;have h:=hid v;have j:=hid ((p.up m).up (Below.refl _ c).drew);have H:=F5_ n;have G:Hid (∀ W,Below c.drew.heap.size c.drew W→W.cell? ⟨w.heap.size,1,none⟩=some (.int .i64 n)∧W.cell? ⟨w.heap.size,6,none⟩=some g):=hid fun W r=>⟨(h.out.drew.below r h.out.lt).cell 1,(h.out.drew.below r h.out.lt).cell 6⟩;have d:Hid (Below c.drew.heap.size c.drew c.drew):=hid (Below.refl _ _);obtain ⟨z,cs,rfl,_⟩:=id p;clear hW0 m v p
 go_enter Tryz.func50,Tryz.ntmps50
 go_wp2;rw [← D.out]
 go_region_held3 (fun W=>W.cell? ⟨w.heap.size,1,none⟩=some (.int .i64 n)∧W.cell? ⟨w.heap.size,6,none⟩=some (.slice z s.length cs))
  (exact G.out _ d.out)
  (first
  | (go_at_call 82;refine (M2_ n _).mono ?_;rintro e L ⟨K,rfl,x,o⟩;replace d:=hid (Z0_ d.out (le_refl _) o);replace j:=hid (j.out.up o);have B:=hid x;clear x o)
  | (go_at_call 64;refine (H5_ _ _ (allL n) s _ B.out j.out H I).mono ?_;rintro e M ⟨J,rfl,y,u⟩;replace d:=hid (Z0_ d.out (le_refl _) u);have C:=hid y;clear y u))
 all_goals
  have F:=hid (Z0_ E.out.drew (le_refl _) d.out);go_simp;go_wp2;go_ret;exact ⟨J,rfl,C.out,F.out⟩
theorem Zf2 (E:Nat→Addr) (m:Mat) (h c1 c2 c3 c4 c5 B y J:Value) (s:List Int) (x:Int) (w:World) (I:MatV w w.heap.size (.agg #[h,c1,c2,c3,c4,c5]) m) (hs:Sml m) (u:Row w w.heap.size J s) (U:s.length≤1000) (D:Env E w) :
  Calls Tryz.prog 81 #[.agg #[h,c1,c2,c3,c4,c5,B,y],J,.int .i64 x] w (Says w (indT m (Y3_ s [x]))):=by
 obtain ⟨d,hW0⟩:∃ d,d=w.alloc (.cells #[h,c1,c2,c3,c4,c5,B,y] 74):=⟨_,rfl⟩;have M:=hid hW0;have o:Below w.heap.size w d:=y39_;have G:Blk d w.heap.size 74 #[h,c1,c2,c3,c4,c5,B,y]:=by rw [hW0];exact Blk.new w _ _
 have O:=hid o;have c:=hid G;have p:=(Below.refl d.heap.size d).drew;have K:=hid ((u.up o).up p);have r:=hid ((I.up o).up p);have q:=hid ((D.up o).up p);have Q:=hid hs;have C:Hid (∀ W,Below d.drew.heap.size d.drew W→W.cell? ⟨w.heap.size,0,none⟩=some h∧W.cell? ⟨w.heap.size,1,none⟩=some c1∧W.cell? ⟨w.heap.size,2,none⟩=some c2∧W.cell? ⟨w.heap.size,3,none⟩=some c3∧W.cell? ⟨w.heap.size,4,none⟩=some c4∧W.cell? ⟨w.heap.size,5,none⟩=some c5):=hid fun W j=>⟨(c.out.drew.below j c.out.lt).cell 0,(c.out.drew.below j c.out.lt).cell 1,(c.out.drew.below j c.out.lt).cell 2,(c.out.drew.below j c.out.lt).cell 3,(c.out.drew.below j c.out.lt).cell 4,(c.out.drew.below j c.out.lt).cell 5⟩;have g:Hid (Below d.drew.heap.size d.drew d.drew):=hid (Below.refl _ _);have S:Hid ((Y3_ s [x]).length≤1048576):=hid (by have:=Zv2 s [x];simp only [List.length_cons,List.length_nil] at this;omega);have R:s.length≤1048576:=x37_;obtain ⟨z,v⟩:∃ z,indT m (Y3_ s [x])=z:=⟨_,rfl⟩;have N:=hid v;rw [v];obtain ⟨T,cs,rfl,_⟩:=id u;clear hW0 o G u I D hs p v
 go_enter Tryz.func81,Tryz.ntmps81
 go_wp2;rw [← M.out]
 go_region_held3 (fun W=>W.cell? ⟨w.heap.size,0,none⟩=some h∧W.cell? ⟨w.heap.size,1,none⟩=some c1∧W.cell? ⟨w.heap.size,2,none⟩=some c2∧W.cell? ⟨w.heap.size,3,none⟩=some c3∧W.cell? ⟨w.heap.size,4,none⟩=some c4∧W.cell? ⟨w.heap.size,5,none⟩=some c5)
  (first | exact C.out _ g.out | exact C.out _ (g.out.alloc (le_refl _) _))
  (first
  | (go_at_call 63;refine (Yz5 _ _ s [x] _ (K.out.upA _) (Row.here (Row.lit1 _ x)) R j37_).mono ?_;rintro e X ⟨V,rfl,H,k⟩;replace k:=Z0_ ((Below.refl _ d.drew).alloc (le_refl _) _) (le_refl _) k;replace g:=hid k;replace r:=hid (r.out.up k);replace q:=hid (q.out.up k);have L:=hid H;clear H k)
  | (go_at_call 80;refine (Ze9 E m _ _ _ _ r.out Q.out L.out S.out q.out).mono ?_;rintro e Y ⟨rfl,F⟩;rw [N.out];replace g:=hid (Z0_ g.out (le_refl _) F);clear F))
 all_goals
  have P:=hid (Z0_ O.out.drew (le_refl _) g.out);go_simp;go_wp2;go_ret;exact ⟨rfl,P.out⟩
theorem M9_ (a b:List Int):(Z5_ a b).length≤a.length:=by
 unfold Z5_ partL;exact x14_
theorem Zj0 (E:Nat→Addr) (m:Mat) (o c1 c2 c3 c4 c5 I H:Value) (s M:List Int) (x y:Int) (w:World) (Y:MatV w w.heap.size (.agg #[o,c1,c2,c3,c4,c5]) m) (hs:Sml m) (N:Row w w.heap.size I s) (K:Row w w.heap.size H M) (x5:s.length≤64) (x4:M.length≤64) (S:Env E w) :
  Calls Tryz.prog 51 #[.agg #[o,c1,c2,c3,c4,c5,I,H],.int .i64 x,.int .i64 y] w (Says w (hasB M x || indT m (Y3_ (Z5_ s [y]) [x]))):=by
 obtain ⟨g,hW0⟩:∃ g,g=w.alloc (.cells #[o,c1,c2,c3,c4,c5,I,H] 74):=⟨_,rfl⟩;have Q:=hid hW0;have p:Below w.heap.size w g:=y39_;have U:Blk g w.heap.size 74 #[o,c1,c2,c3,c4,c5,I,H]:=by rw [hW0];exact Blk.new w _ _
 have R:=hid p;have c:=hid U;have u:=(Below.refl g.heap.size g).drew;have v:=hid (N.up p);have D:=hid (K.up p);have k:=hid (Y.up p);have j:=hid (S.up p);have Hs:=hid hs;have V:M.length≤1048576:=x37_;have x3:s.length≤1048576:=x37_;have x2:(Z5_ s [y]).length≤1000:=Nat.le_trans (M9_ _ _) x37_;obtain ⟨J,cs,rfl,_⟩:=id N;obtain ⟨C,G,rfl,_⟩:=id K;obtain ⟨q,L⟩:∃ q,hasB M x=q:=⟨_,rfl⟩;have P:=hid L;obtain ⟨z,O⟩:∃ z,indT m (Y3_ (Z5_ s [y]) [x])=z:=⟨_,rfl⟩;have HZ:=hid O;rw [L,O];clear hW0 p U N K Y S hs O L;cases q
 ·have F:Hid (∀ W,Below g.drew.heap.size g.drew W→W.cell? ⟨w.heap.size,0,none⟩=some o∧W.cell? ⟨w.heap.size,1,none⟩=some c1∧W.cell? ⟨w.heap.size,2,none⟩=some c2∧W.cell? ⟨w.heap.size,3,none⟩=some c3∧W.cell? ⟨w.heap.size,4,none⟩=some c4∧W.cell? ⟨w.heap.size,5,none⟩=some c5∧W.cell? ⟨w.heap.size,6,none⟩=some (.slice J s.length cs)∧W.cell? ⟨w.heap.size,7,none⟩=some (.slice C M.length G)):=hid fun W d=>⟨(c.out.drew.below d c.out.lt).cell 0,(c.out.drew.below d c.out.lt).cell 1,(c.out.drew.below d c.out.lt).cell 2,(c.out.drew.below d c.out.lt).cell 3,(c.out.drew.below d c.out.lt).cell 4,(c.out.drew.below d c.out.lt).cell 5,(c.out.drew.below d c.out.lt).cell 6,(c.out.drew.below d c.out.lt).cell 7⟩
  have h:Hid (Below g.drew.heap.size g.drew g.drew):=hid (Below.refl _ _);replace v:=hid (v.out.up u);replace D:=hid (D.out.up u);replace k:=hid (k.out.up u);replace j:=hid (j.out.up u);clear u;rw [Bool.false_or]
  go_enter Tryz.func51,Tryz.ntmps51
  go_wp2;rw [← Q.out]
  go_region_held3 (fun W=>W.cell? ⟨w.heap.size,0,none⟩=some o∧W.cell? ⟨w.heap.size,1,none⟩=some c1∧W.cell? ⟨w.heap.size,2,none⟩=some c2∧W.cell? ⟨w.heap.size,3,none⟩=some c3∧W.cell? ⟨w.heap.size,4,none⟩=some c4∧W.cell? ⟨w.heap.size,5,none⟩=some c5∧W.cell? ⟨w.heap.size,6,none⟩=some (.slice J s.length cs)∧W.cell? ⟨w.heap.size,7,none⟩=some (.slice C M.length G))
   (first | exact F.out _ h.out | exact F.out _ (h.out.alloc h.out.size _))
   (first
   | (go_at_call 52;refine (Zs4 _ M x _ D.out V).mono ?_;rintro e w1 ⟨rfl,B⟩;rw [P.out];replace h:=hid (Z0_ h.out (le_refl _) B);replace v:=hid (v.out.up B);replace k:=hid (k.out.up B);replace j:=hid (j.out.up B);clear B)
   | (go_at_call 64;refine (H5_ _ _ s [y] _ (v.out.upA _) (Row.here (Row.lit1 _ y)) x3 j37_).mono ?_;rintro e w2 ⟨v2,rfl,X,r⟩;replace r:=Z0_ ((Below.refl _ _).alloc (le_refl _) _) (le_refl _) r;replace k:=hid (k.out.up r);replace j:=hid (j.out.up r);replace h:=hid (Z0_ h.out (le_refl _) r);have Z:=hid X;clear X r)
   | (go_at_call 81;refine (Zf2 E m _ _ _ _ _ _ _ _ _ _ x _ k.out Hs.out Z.out x2 j.out).mono ?_;rintro e w3 ⟨rfl,T⟩;rw [HZ.out];replace h:=hid (Z0_ h.out (le_refl _) T);clear T))
  all_goals
   have x0:=hid (Z0_ R.out.drew (le_refl _) h.out);go_simp;go_wp2;go_ret;exact ⟨rfl,x0.out⟩
 ·have F:Hid (∀ W,Below g.heap.size g W→W.cell? ⟨w.heap.size,0,none⟩=some o∧W.cell? ⟨w.heap.size,1,none⟩=some c1∧W.cell? ⟨w.heap.size,2,none⟩=some c2∧W.cell? ⟨w.heap.size,3,none⟩=some c3∧W.cell? ⟨w.heap.size,4,none⟩=some c4∧W.cell? ⟨w.heap.size,5,none⟩=some c5∧W.cell? ⟨w.heap.size,6,none⟩=some (.slice J s.length cs)∧W.cell? ⟨w.heap.size,7,none⟩=some (.slice C M.length G)):=hid fun W d=>⟨(c.out.below d c.out.lt).cell 0,(c.out.below d c.out.lt).cell 1,(c.out.below d c.out.lt).cell 2,(c.out.below d c.out.lt).cell 3,(c.out.below d c.out.lt).cell 4,(c.out.below d c.out.lt).cell 5,(c.out.below d c.out.lt).cell 6,(c.out.below d c.out.lt).cell 7⟩
  have Hh:Hid (∀ W,Below g.heap.size g W→Calls Tryz.prog 52 #[.slice C M.length G,.int .i64 x] W fun e w'=>e=.returned (.bool true)∧Below g.heap.size g w'):=hid fun W d=>(Zs4 _ M x W (D.out.up d) V).mono fun _ _ ⟨h2,h3⟩=>⟨by rw [h2,P.out],Z0_ d (le_refl _) h3⟩;rw [Bool.true_or];clear u
  go_enter Tryz.func51,Tryz.ntmps51
  go_wp2;rw [← Q.out];refine Z6_ g.heap.size g y37_ y37_ (Below.refl _ _) ?_
  iterate 15 (first
   | go_big_quiet_skip
   | go_big_quiet_step (with_reducible exact Hh.out _)
   | (go_big_quiet_want;apply Exists.intro;refine ⟨fun W d=>?_,?_⟩;(· obtain ⟨k0,k1,k2,k3,k4,k5,k6,k7⟩:=F.out W d;go_simp;first | exact rfl | exact ⟨rfl,rfl⟩);go_simp;go_big_quiet_on))
  refine wpQuiet_nil ?_;intro w7 x1;go_wp2;go_ret;exact ⟨rfl,Z0_ R.out (le_refl _) x1⟩
def W6_ (w:World) (c0 c1 c2 c3 c4 c5 sv:Value) (M:List Int) (e:Ending) (w':World):Prop:=∃ (A:Option Addr) (n c:Nat),e=.returned (.agg #[c0,c1,c2,c3,c4,c5,sv,.slice A n c])∧w'.ownsRow w.heap.size 3 1 (.slice A n c) M.length (ints M)∧Below w.heap.size w w'
theorem Row.storeS {w:World} {B:Nat} {v:Value} {l:List Int} (h:Row w B v l) {p:Addr} {A:Option Addr} {n c:Nat} (d:w.cell? p=some (.slice A n c)) (u:Value):Row (w.setCell p u) B v l:=by
 obtain ⟨A',g,q,o,j⟩:=h;refine ⟨A',g,q,o,fun k m=>?_⟩;obtain ⟨f,hA,hB,hc⟩:=j k m;refine ⟨f,hA,hB,?_⟩;rw [World.cell?_setCell_other _ _ _ _ (fun e=>by rw [e,hc] at d;cases d)];exact hc
theorem X2_ (w:World) (g i:Nat) (u:Value):w.grownBy (w.setCell ⟨g,i,none⟩ u) (some g):=O3_ (World.grownBy.refl w (some g)) (.inl rfl) u
theorem sw_no {a b:Nat} (c:a≤b+1) (d:b+3≤a):False:=x37_
theorem Xn1 {p:Int→Bool} {o:List Int} {k:Nat} (c:k<o.length):(o.take (k+1)).filter p=(o.take k).filter p ++ if p (o.getD k 0)=true then [o.getD k 0] else []:=by
 rw [List.take_succ_eq_append_getElem c,List.filter_append,show o[k]=o.getD k 0 by simp [List.getD,c],List.filter_cons];split<;>rfl
theorem Zl9 (E:Nat→Addr) (m:Mat) (d c:Option Addr) (q cl j g:Nat) (sv:Value) (s:List Int) (w:World) (hv:MatV w w.heap.size (.agg #[.int .i64 m.t,.int .i64 m.n,.int .i64 m.a,.int .i64 m.b,.slice d q cl,.slice c j g]) m) (hs:Sml m) (hr:Row w w.heap.size sv s) (yh:s.length≤64) (xx:(Z5_ (allL m.n) s).length≤64) (hE:Env E w) :
  Calls Tryz.prog 49 #[.agg #[.int .i64 m.t,.int .i64 m.n,.int .i64 m.a,.int .i64 m.b,.slice d q cl,.slice c j g],sv] w (W6_ w (.int .i64 m.t) (.int .i64 m.n) (.int .i64 m.a) (.int .i64 m.b) (.slice d q cl) (.slice c j g) sv ((Z5_ (allL m.n) s).filter fun x=>indT m (Y3_ s [x]))):=by
 have xl:=hv;obtain ⟨y,cs,yc,_⟩:=id hr;subst yc;obtain ⟨o,V⟩:∃ o,Z5_ (allL m.n) s=o:=⟨_,rfl⟩;obtain ⟨p,hp⟩:∃ p:Int→Bool,p=fun x=>indT m (Y3_ s [x]):=⟨_,rfl⟩;rw [← hp,V];rw [V] at xx;have HO:=hid V;have HP:=hid hp;obtain ⟨J,K⟩:∃ J,J=((w.alloc (.cells #[.int .i64 m.t,.int .i64 m.n,.int .i64 m.a,.int .i64 m.b,.slice d q cl,.slice c j g] 25)).alloc (.cells #[.int .i64 0,.int .i64 0,.int .i64 0,.int .i64 0,.slice none 0 0,.slice none 0 0,.slice none 0 0,.slice none 0 0] 74)).alloc (.cells #[.int .i64 m.t,.int .i64 m.n,.int .i64 m.a,.int .i64 m.b,.slice d q cl,.slice c j g,.slice y s.length cs,.slice none 0 0] 74):=⟨_,rfl⟩;have x8:=hid K;have xh:Below w.heap.size w J:=by rw [K];exact (((Below.refl _ w).alloc (le_refl _) _).alloc j37_ _).alloc k37_ _
 have xo:Blk J (w.heap.size+1) 74 #[.int .i64 0,.int .i64 0,.int .i64 0,.int .i64 0,.slice none 0 0,.slice none 0 0,.slice none 0 0,.slice none 0 0]:=by
  rw [K];have:=(Blk.new (w.alloc (.cells #[.int .i64 m.t,.int .i64 m.n,.int .i64 m.a,.int .i64 m.b,.slice d q cl,.slice c j g] 25)) 74 #[.int .i64 0,.int .i64 0,.int .i64 0,.int .i64 0,.slice none 0 0,.slice none 0 0,.slice none 0 0,.slice none 0 0]).alloc (.cells #[.int .i64 m.t,.int .i64 m.n,.int .i64 m.a,.int .i64 m.b,.slice d q cl,.slice c j g,.slice y s.length cs,.slice none 0 0] 74);simpa using this
 have xj:Blk J (w.heap.size+1+1) 74 #[.int .i64 m.t,.int .i64 m.n,.int .i64 m.a,.int .i64 m.b,.slice d q cl,.slice c j g,.slice y s.length cs,.slice none 0 0]:=by
  rw [K];have:=Blk.new ((w.alloc (.cells #[.int .i64 m.t,.int .i64 m.n,.int .i64 m.a,.int .i64 m.b,.slice d q cl,.slice c j g] 25)).alloc (.cells #[.int .i64 0,.int .i64 0,.int .i64 0,.int .i64 0,.slice none 0 0,.slice none 0 0,.slice none 0 0,.slice none 0 0] 74)) 74 #[.int .i64 m.t,.int .i64 m.n,.int .i64 m.a,.int .i64 m.b,.slice d q cl,.slice c j g,.slice y s.length cs,.slice none 0 0];simpa using this
 have xn:J.heap.size=w.heap.size+3:=by rw [K];simp
 have Z:=hid xh;have x4:=hid xo;have x2:=hid xj;have xc:=hid xn;have Hr:=hid hr;have HV:=hid xl;have HE:=hid hE;have Hs:=hid hs;have ya:s.length≤1048576:=x37_;have yb:s.length≤1000:=x37_;have yg:(o.length:Int)≤64:=x37_;clear K xh xo xj xn hr xl hE hs V hp
 go_enter Tryz.func49,Tryz.ntmps49
 go_wp2_with fail
 rw [← x8.out];refine (Zv9 m.n _ _ _ _ _ _ _ s _ (Hr.out.up Z.out) ya).mono ?_;rintro e F ⟨vo,rfl,x6,O⟩;rw [HO.out] at x6;have M:=hid x6;obtain ⟨Ao,co,rfl,_⟩:=x6;have x9:=hid (Z0_ Z.out (le_refl _) O);have xf:=hid (x4.out.below O x4.out.lt);have xb:=hid (x2.out.below O x2.out.lt);have N:Hid (w.heap.size+3≤F.heap.size):=hid (by rw [← xc.out];exact O.size);clear O x4 x2 Z x8 xc;go_wp2
 go_loopw [14] (fun vk wr=>∃ (k:Nat) (z:Option Addr) (nm B:Nat),vk=.int .i64 (k:Int)∧k≤o.length∧Hid (Blk wr (w.heap.size+1) 74 #[.int .i64 0,.int .i64 0,.int .i64 0,.int .i64 0,.slice none 0 0,.slice none 0 0,.slice none 0 0,.slice none 0 0]∧Blk wr (w.heap.size+1+1) 74 #[.int .i64 m.t,.int .i64 m.n,.int .i64 m.a,.int .i64 m.b,.slice d q cl,.slice c j g,.slice y s.length cs,.slice z nm B]∧wr.ownsRow F.heap.size 3 1 (.slice z nm B) ((o.take k).filter p).length (ints ((o.take k).filter p))∧Row wr F.heap.size (.slice Ao o.length co) o∧Below w.heap.size w wr∧F.heap.size≤wr.heap.size)) (fun vk _=>o.length - (intOf vk).toNat)
 case atStart=>exact ⟨0,none,0,0,rfl,Nat.zero_le _,xf.out,xb.out,World.ownsRow_nil _ _ _ _,M.out,x9.out,le_refl _⟩
 case round =>
  obtain ⟨k,z,nm,B,rfl,hk,H⟩:=hrel;clear xf xb M x9;have r:=hid H.out.1;have u:=hid H.out.2.1;have x3:=hid H.out.2.2.1;have M:=hid H.out.2.2.2.1;have x0:=hid H.out.2.2.2.2.1;have xe:=hid H.out.2.2.2.2.2;clear H;by_cases xk:k<o.length
  ·have y8:(k:Int)<(o.length:Int):=by omega
   obtain ⟨ao,hA,xi⟩:=Row.nthV M.out xk;subst hA;have gx:=xi wr (Below.refl _ _);have xd:=hid (Xn1 (p:=p) xk);have yf:((o.take k).filter p).length≤64:=Nat.le_trans (List.length_filter_le _ _) k39_;generalize o.getD k 0=x at *
   generalize (o.take k).filter p=L at *
   have HC:Hid (∀ W,Below w.heap.size w W→Calls Tryz.prog 81 #[.agg #[.int .i64 m.t,.int .i64 m.n,.int .i64 m.a,.int .i64 m.b,.slice d q cl,.slice c j g,.slice y s.length cs,.slice z nm B],.slice y s.length cs,.int .i64 x] W (Says W (p x))):=hid fun W hW=>by rw [HP.out];exact Zf2 E m _ _ _ _ _ _ _ _ _ s x W (HV.out.up hW) Hs.out (Hr.out.up hW) yb (HE.out.up hW)
   have xq:=hid (HC.out wr x0.out);have d0:=u.out.cell 0;have d1:=u.out.cell 1;have d2:=u.out.cell 2;have d3:=u.out.cell 3;have d4:=u.out.cell 4;have d5:=u.out.cell 5;have d6:=u.out.cell 6;have R:=u.out.cell 7;have yi:IntKind.i64.wrap ((k:Int)+1)=(k:Int)+1:=x38_;clear xi HC
   go_wp2_with fail
   refine xq.out.mono ?_;rintro e w2 ⟨rfl,I⟩;have xg:=hid (r.out.below I r.out.lt);have x1:=hid (u.out.below I u.out.lt);have P:=hid (W0_ x3.out I);have x7:=hid (M.out.below (I.mono xe.out));have xa:=hid (Z0_ x0.out (le_refl _) I);have Q:=hid (Nat.le_trans xe.out I.size);clear I d0 d1 d2 d3 d4 d5 d6 R gx;rcases hpx:p x with _ | _
   ·have Hn:Hid ((o.take (k+1)).filter p=L):=hid (by rw [xd.out,if_neg (by rw [hpx];decide),List.append_nil])
    clear hpx;go_wp2
    go_roundw
    case rel=>exact ⟨k+1,z,nm,B,y38_,x37_,xg.out,x1.out,by rw [Hn.out];exact P.out,x7.out,xa.out,Q.out⟩
    exact mz_
   ·have Hn:Hid ((o.take (k+1)).filter p=L ++ [x]):=hid (by rw [xd.out,if_pos hpx])
    have R:=x1.out.cell 7;clear hpx;have yd:F.heap.size≤w2.heap.size+1:=Nat.le_trans Q.out (Nat.le_succ _)
    go_wp2_with (at_builtin;refine Z4_ rfl _ _ rfl F.heap.size _ _ _ L [x] rfl rfl (World.ownsRow.alloc P.out _) (Row.lit1 _ x) x37_ j37_ (by simp;exact yd) ?_)
    intro v8 Y X U;have x5:∀ i,(Value.slice z nm B).ownBlock=some i→w.heap.size+3≤i:=fun i hi=>Nat.le_trans N.out (World.ownsRow.lt P.out i hi).1;have xp:=(xg.out.alloc (.cells #[.int .i64 x] 3)).grown U (fun e=>by have:=x5 _ e.symm;omega);have T:=(x1.out.alloc (.cells #[.int .i64 x] 3)).grown U (fun e=>by have:=x5 _ e.symm;omega);have S:Below F.heap.size w2 Y:=((Below.refl _ w2).alloc Q.out (.cells #[.int .i64 x] 3)).grown U k37_ (fun i hi=>(World.ownsRow.lt P.out i hi).1);obtain ⟨C,D,ye⟩:=Q6_ X;subst ye;have e7:=T.cell 7;have f7:=T.frozen 7;have xw:=hid (xp.far (p:=⟨w.heap.size+1+1,7,none⟩) (by show w.heap.size+1≠w.heap.size+1+1;omega) (.slice C (L.length+1) D));have xt:=hid (T.set_ 7 (.slice C (L.length+1) D));have xu:Hid ((Y.setCell ⟨w.heap.size+1+1,7,none⟩ (.slice C (L.length+1) D)).ownsRow F.heap.size 3 1 (.slice C (L.length+1) D) (L.length+1) (ints (L ++ [x]))):=hid (World.ownsRow.kept X (O3_ (World.grownBy.refl Y (some (w.heap.size+1+1))) (.inl rfl) _) (by
     rcases hb:(Value.slice C (L.length+1) D).ownBlock with _ | i
     ·exact .inl rfl
     ·right
      intro e;injection e with e;have h1:=(World.ownsRow.lt X i hb).1;have h2:=N.out;omega))
    have xr:=hid ((x7.out.below S).storeS e7 (.slice C (L.length+1) D));have xs:=hid ((xa.out.trans (S.mono (by have:=N.out;omega))).setCell (p:=⟨w.heap.size+1+1,7,none⟩) (by show w.heap.size≤w.heap.size+1+1;omega) (.slice C (L.length+1) D));have xv:Hid (F.heap.size≤(Y.setCell ⟨w.heap.size+1+1,7,none⟩ (.slice C (L.length+1) D)).heap.size):=hid (by simp [World.setCell];exact Nat.le_trans Q.out S.size);clear X U xp T S x5 R;go_wp2
    go_roundw
    case rel=>exact ⟨k+1,C,L.length+1,D,y38_,x37_,xw.out,xt.out,by rw [Hn.out,List.length_append];exact xu.out,xr.out,xs.out,xv.out⟩
    exact mz_
  ·have xz:k=o.length:=by omega
   have HL:Hid ((o.take k).filter p=o.filter p):=hid (by rw [xz,List.take_length]);have y8:¬ (k:Int)<(o.length:Int):=x37_;have d0:=u.out.cell 0;have d1:=u.out.cell 1;have d2:=u.out.cell 2;have d3:=u.out.cell 3;have d4:=u.out.cell 4;have d5:=u.out.cell 5;have d6:=u.out.cell 6;have R:=u.out.cell 7;have z0:=r.out.cell 0;have z1:=r.out.cell 1;have z2:=r.out.cell 2;have z3:=r.out.cell 3;have z4:=r.out.cell 4;have z5:=r.out.cell 5;have z6:=r.out.cell 6;have z7:=r.out.cell 7;have y0:=r.out.frozen 0;have y1:=r.out.frozen 1;have y2:=r.out.frozen 2;have y3:=r.out.frozen 3;have y4:=r.out.frozen 4;have y5:=r.out.frozen 5;have y6:=r.out.frozen 6;have y7:=r.out.frozen 7;go_wp2;have G:Blk ((((((((wr.setCell ⟨w.heap.size+1,0,none⟩ (.int .i64 m.t)).setCell ⟨w.heap.size+1,1,none⟩ (.int .i64 m.n)).setCell ⟨w.heap.size+1,2,none⟩ (.int .i64 m.a)).setCell ⟨w.heap.size+1,3,none⟩ (.int .i64 m.b)).setCell ⟨w.heap.size+1,4,none⟩ (.slice d q cl)).setCell ⟨w.heap.size+1,5,none⟩ (.slice c j g)).setCell ⟨w.heap.size+1,6,none⟩ (.slice y s.length cs)).setCell ⟨w.heap.size+1,7,none⟩ (.slice z nm B)) (w.heap.size+1) 74 #[.int .i64 m.t,.int .i64 m.n,.int .i64 m.a,.int .i64 m.b,.slice d q cl,.slice c j g,.slice y s.length cs,.slice z nm B]:=by
    have h:=((((((((r.out.set_ 0 (.int .i64 m.t)).set_ 1 (.int .i64 m.n)).set_ 2 (.int .i64 m.a)).set_ 3 (.int .i64 m.b)).set_ 4 (.slice d q cl)).set_ 5 (.slice c j g)).set_ 6 (.slice y s.length cs)).set_ 7 (.slice z nm B));exact j25_
   have xy:Below w.heap.size w ((((((((wr.setCell ⟨w.heap.size+1,0,none⟩ (.int .i64 m.t)).setCell ⟨w.heap.size+1,1,none⟩ (.int .i64 m.n)).setCell ⟨w.heap.size+1,2,none⟩ (.int .i64 m.a)).setCell ⟨w.heap.size+1,3,none⟩ (.int .i64 m.b)).setCell ⟨w.heap.size+1,4,none⟩ (.slice d q cl)).setCell ⟨w.heap.size+1,5,none⟩ (.slice c j g)).setCell ⟨w.heap.size+1,6,none⟩ (.slice y s.length cs)).setCell ⟨w.heap.size+1,7,none⟩ (.slice z nm B)):=((((((((x0.out.setCell (p:=⟨w.heap.size+1,0,none⟩) (Nat.le_succ _) _).setCell (p:=⟨w.heap.size+1,1,none⟩) (Nat.le_succ _) _).setCell (p:=⟨w.heap.size+1,2,none⟩) (Nat.le_succ _) _).setCell (p:=⟨w.heap.size+1,3,none⟩) (Nat.le_succ _) _).setCell (p:=⟨w.heap.size+1,4,none⟩) (Nat.le_succ _) _).setCell (p:=⟨w.heap.size+1,5,none⟩) (Nat.le_succ _) _).setCell (p:=⟨w.heap.size+1,6,none⟩) (Nat.le_succ _) _).setCell (p:=⟨w.heap.size+1,7,none⟩) (Nat.le_succ _) _);have y9:=V0_ (V0_ (V0_ (V0_ (V0_ (V0_ (V0_ (X2_ wr (w.heap.size+1) 0 (.int .i64 m.t)) (X2_ _ (w.heap.size+1) 1 (.int .i64 m.n))) (X2_ _ (w.heap.size+1) 2 (.int .i64 m.a))) (X2_ _ (w.heap.size+1) 3 (.int .i64 m.b))) (X2_ _ (w.heap.size+1) 4 (.slice d q cl))) (X2_ _ (w.heap.size+1) 5 (.slice c j g))) (X2_ _ (w.heap.size+1) 6 (.slice y s.length cs))) (X2_ _ (w.heap.size+1) 7 (.slice z nm B));generalize ((((((((wr.setCell ⟨w.heap.size+1,0,none⟩ (.int .i64 m.t)).setCell ⟨w.heap.size+1,1,none⟩ (.int .i64 m.n)).setCell ⟨w.heap.size+1,2,none⟩ (.int .i64 m.a)).setCell ⟨w.heap.size+1,3,none⟩ (.int .i64 m.b)).setCell ⟨w.heap.size+1,4,none⟩ (.slice d q cl)).setCell ⟨w.heap.size+1,5,none⟩ (.slice c j g)).setCell ⟨w.heap.size+1,6,none⟩ (.slice y s.length cs)).setCell ⟨w.heap.size+1,7,none⟩ (.slice z nm B))=w9 at *
   have xm:=World.ownsRow.kept x3.out y9 (.inr fun e=>sw_no (World.ownsRow.lt x3.out _ e).1 N.out);have k0:w9.cell? ⟨w.heap.size+1,0,none⟩=some (.int .i64 m.t):=G.cell 0;have k1:w9.cell? ⟨w.heap.size+1,1,none⟩=some (.int .i64 m.n):=G.cell 1;have k2:w9.cell? ⟨w.heap.size+1,2,none⟩=some (.int .i64 m.a):=G.cell 2;have k3:w9.cell? ⟨w.heap.size+1,3,none⟩=some (.int .i64 m.b):=G.cell 3;have k4:w9.cell? ⟨w.heap.size+1,4,none⟩=some (.slice d q cl):=G.cell 4;have k5:w9.cell? ⟨w.heap.size+1,5,none⟩=some (.slice c j g):=G.cell 5;have k6:w9.cell? ⟨w.heap.size+1,6,none⟩=some (.slice y s.length cs):=G.cell 6;have k7:w9.cell? ⟨w.heap.size+1,7,none⟩=some (.slice z nm B):=G.cell 7;refine bodyPost_ret (v:=.agg #[.int .i64 m.t,.int .i64 m.n,.int .i64 m.a,.int .i64 m.b,.slice d q cl,.slice c j g,.slice y s.length cs,.slice z nm B]) ?_ rfl ?_
   ·simp [results,Tryz.results49,go_sem,k0,k1,k2,k3,k4,k5,k6,k7]
   ·rw [HL.out] at xm
    exact ⟨_,_,_,rfl,L.own_le xm (by have:=N.out;omega),xy⟩
inductive Shifts (a b:Mat) (s A B:List Int):Nat→List Int→List Int→Prop
 | zero:Shifts a b s A B 0 A B
 | succ {k:Nat} {A' B':List Int} {d:Int}:Shifts a b s A B k A' B'→NoWay a b s A' B'→MinIs d (gapsS a b s A' B')→Shifts a b s A B (k+1) (V1_ A' (comeS a b s A' B') (-d)) (V1_ B' (comeS a b s A' B') d)
def Xn2 (a b:Mat) (s A B s' A' B':List Int):Prop:=∃ k n x l,Shifts a b s A B k A' B'∧Greedy (A9_ a b s A' B') (topL B' (addG b s)) (topL A' (addG a s)) n (x :: l)∧s'=turnL s (x :: l)
def Ends (a b:Mat) (s A B:List Int):Prop:=∃ k A' B',Shifts a b s A B k A' B'∧NoWay a b s A' B'∧gapsS a b s A' B'=[]
section
variable {a b:Mat} {w s A B A' B':List Int} {d D:Int} {k:Nat}
structure At (a b:Mat) (w s A B:List Int) (D:Int) (k:Nat) (A' B':List Int):Prop where
 sh:Shifts a b s A B k A' B'
 sp:Sp a b w s A' B'
 low:∀ i,i<nN a→-(D+1099511627776 * (k:Int))≤A'.getD i 0∧A'.getD i 0≤2147483648
 cnt:k≤(comeS a b s A' B').length∨¬ NoWay a b s A' B'
theorem At.start (h:Sp a b w s A B) (hA:∀ i,i<nN a→-D≤A.getD i 0∧A.getD i 0≤2147483648):At a b w s A B D 0 A B :=
 ⟨.zero,h,fun i hi=>by have:=hA i hi;omega,.inl (Nat.zero_le _)⟩
theorem At.few (h:At a b w s A B D k A' B') (d:NoWay a b s A' B'):k≤nN a:=by
 have e:=h.cnt.resolve_right fun c=>c d;have:=Y1_ (G5_ (A:=A') (B:=B') h.sp.com);omega
theorem At.next (v:∀ i,i<nN a→-2147483648≤w.getD i 0∧w.getD i 0≤2147483648) (h:At a b w s A B D k A' B') (C:0≤D∧D≤1152921504606846976) (c:NoWay a b s A' B') (hd:MinIs d (gapsS a b s A' B')) :
  At a b w s A B D (k+1) (V1_ A' (comeS a b s A' B') (-d)) (V1_ B' (comeS a b s A' B') d):=by
 have E:=h.few c;have F:=h.sp.com.n64;obtain ⟨o,f,p,h3⟩:=h.sp.shift c hd (fun i hi=>by have:=(h.low i hi).1;omega);refine ⟨h.sh.succ c hd,f,fun i hi=>?_,?_⟩
 ·have:=h.sp.low hd o v (D:=D+1099511627776 * (k:Int)) x37_ h.low i hi
  omega
 ·rcases h3 with ⟨x,g,y⟩ | h3
  ·left
   have r:=h.cnt.resolve_right fun u=>u c;have z:=G5_ (A:=A') (B:=B') h.sp.com;have m:=G5_ (A:=V1_ A' (comeS a b s A' B') (-d)) (B:=V1_ B' (comeS a b s A' B') d) f.com;have G:=m.2 x g;obtain ⟨j,rfl⟩:∃ j:Nat,x=(j:Int):=⟨x.toNat,x37_⟩;have q:j<nN a:=x37_;have c1:=J6_ (P:=memP (comeS a b s A' B')) q (by rw [← Bool.not_eq_true,memP_iff];exact y);have c2:=(H3_ (nN a)).mono (P:=insP (memP (comeS a b s A' B')) j) (Q:=memP (comeS a b s (V1_ A' (comeS a b s A' B') (-d)) (V1_ B' (comeS a b s A' B') d))) fun i _ hi=>by
    by_cases e:i=j
    ·rw [e];exact memP_iff.2 g
    ·rw [Y5_ e] at hi
     exact memP_iff.2 (p _ (memP_iff.1 hi))
   rw [X3_ z] at r;rw [X3_ m];omega
  ·exact .inr h3
theorem At.small (h:At a b w s A B D k A' B') (f:∀ i,i<nN a→-2147483648≤w.getD i 0∧w.getD i 0≤2147483648) (j:0≤D∧D≤576460752303423488) (m:k≤66) :
  (∀ x∈A',-1152921504606846976≤x∧x≤1152921504606846976)∧∀ x∈B',-1152921504606846976≤x∧x≤1152921504606846976:=by
 constructor
 ·intro x d
  obtain ⟨i,hi,rfl⟩:=List.mem_iff_getElem.1 d;have:=h.low i (by rw [← h.sp.la];exact hi);rw [show A'.getD i 0=A'[i] by simp [List.getD,hi]] at this;omega
 ·intro x d
  obtain ⟨i,hi,rfl⟩:=List.mem_iff_getElem.1 d;have c:i<nN a:=by rw [← h.sp.lb];exact hi
  have g:=h.low i c;have e:=h.sp.sum i c;have h3:=f i c;rw [show B'.getD i 0=B'[i] by simp [List.getD,hi]] at e;omega
theorem At.turn (h:At a b w s A B D k A' B') {n:Nat} {x:Int} {l:List Int} (c:Greedy (A9_ a b s A' B') (topL B' (addG b s)) (topL A' (addG a s)) n (x :: l)) :
  Xn2 a b s A B (turnL s (x :: l)) A' B'∧Sp a b w (turnL s (x :: l)) A' B'∧(turnL s (x :: l)).length=s.length+1:=by
 obtain ⟨d,e,h3,f⟩:=Xz7 h.sp.com h.sp.ea h.sp.eb c;exact ⟨⟨k,n,x,l,h.sh,c,rfl⟩,⟨e,h.sp.la,h.sp.lb,h.sp.sum,h3,f⟩,d⟩
end
def outS (x:Int):Bool:=decide (x < -2147483648) || decide (2147483648<x)
def may15 (a b:Mat) (s:List Int):Bool:=decide (a.n=b.n) && (decide ((s.length:Int)=a.n) && (!(s.any outS) && ((chk a==0) && (chk b==0))))
theorem Va2 (x:Int) (W:World):Calls Tryz.prog 23 #[.int .i64 x] W fun e d=>e=.returned (.bool (outS x))∧Below W.heap.size W d:=by
 unfold outS;by_cases c:x < -2147483648
 ·rw [decide_eq_true c,Bool.true_or]
  go_enter Tryz.func23,Tryz.ntmps23
  exact y3_
 ·have g:-2147483648≤x:=by omega
  rw [decide_eq_false c,Bool.false_or];clear c
  go_enter Tryz.func23,Tryz.ntmps23
  go_wp2;go_ret;refine ⟨?_,Below.refl _ _⟩;show Ending.returned (.bool (decide (x < -2147483648) || decide (2147483648<x)))=_;rw [decide_eq_false (show ¬ x < -2147483648 by omega),Bool.false_or]
theorem Va3 (w:World):Tests w 23 #[] outS:=fun x W _=>Va2 x W
theorem Zs8 (E:Nat→Addr) (a b:Mat) (va vb sv:Value) (s:List Int) (w:World) (ha:MatV w w.heap.size va a) (hb:MatV w w.heap.size vb b) (x2:Sml a) (x3:Sml b) (M:Row w w.heap.size sv s) (xj:s.length≤1048576) (Z:Env E w) :
  Calls Tryz.prog 13 #[va,vb,sv] w (Says w (may15 a b s)):=by
 obtain ⟨y,N⟩:∃ y,decide (a.n=b.n)=y:=⟨_,rfl⟩;obtain ⟨z,O⟩:∃ z,decide ((s.length:Int)=a.n)=z:=⟨_,rfl⟩;obtain ⟨o,L⟩:∃ o,s.any outS=o:=⟨_,rfl⟩;obtain ⟨Y,J⟩:∃ c,chk a=c:=⟨_,rfl⟩;obtain ⟨cb,K⟩:∃ c,chk b=c:=⟨_,rfl⟩;have xm:(a.n==b.n)=y:=by rw [← N];rfl
 have xn:((s.length:Int)==a.n)=z:=by rw [← O];rfl
 have x1:may15 a b s=(y && (z && (!o && ((Y==0) && (cb==0))))):=by unfold may15;rw [N,O,L,J,K]
 rw [x1];have HC:Hid (∀ W u,Row W W.heap.size u s→Calls Tryz.prog 24 #[u,.func (.func 23) #[] #[]] W (Says W o)) :=
  hid fun W u hu=>by rw [← L];exact I1_ 23 #[] outS u s W (enters_of Tryz.func23 y37_ rfl) hu xj (Va3 W)
 have x5:=hid J;have x6:=hid K;have xd:=hid x2;have xe:=hid x3;obtain ⟨la,ia,xk,xh,xf⟩:=ha.open;obtain ⟨lb,ib,xl,xi,xg⟩:=hb.open;obtain ⟨x,cl,rfl,_⟩:=xh;obtain ⟨v,G,rfl,_⟩:=xf;obtain ⟨C,I,rfl,_⟩:=xi;obtain ⟨B,H,rfl,_⟩:=xg;obtain ⟨As,cs,rfl,_⟩:=id M;subst xk xl;obtain ⟨k,m⟩:∃ k,(w.alloc (.cells #[.int .i64 a.t,.int .i64 a.n,.int .i64 a.a,.int .i64 a.b,.slice x a.l.length cl,.slice v a.i.length G] 25)).alloc (.cells #[.int .i64 b.t,.int .i64 b.n,.int .i64 b.a,.int .i64 b.b,.slice C b.l.length I,.slice B b.i.length H] 25)=k:=⟨_,rfl⟩;have HW2:=hid m;have j:Below w.heap.size w k:=by rw [← m];exact ((Below.refl _ w).alloc (le_refl _) _).alloc j37_ _
 have D:Hid (Blk k w.heap.size 25 #[.int .i64 a.t,.int .i64 a.n,.int .i64 a.a,.int .i64 a.b,.slice x a.l.length cl,.slice v a.i.length G]):=hid (by rw [← m];exact (Blk.new w _ _).alloc _);have F:Hid (Blk k (w.heap.size+1) 25 #[.int .i64 b.t,.int .i64 b.n,.int .i64 b.a,.int .i64 b.b,.slice C b.l.length I,.slice B b.i.length H]):=hid (by
  rw [← m];have:=Blk.new (w.alloc (.cells #[.int .i64 a.t,.int .i64 a.n,.int .i64 a.a,.int .i64 a.b,.slice x a.l.length cl,.slice v a.i.length G] 25)) 25 #[.int .i64 b.t,.int .i64 b.n,.int .i64 b.a,.int .i64 b.b,.slice C b.l.length I,.slice B b.i.length H];simpa using this)
 have Hb0:=hid j;have x8:=hid (ha.up j);have xa:=hid (hb.up j);have HR:=hid (M.up j);have HE:=hid (Z.up j);have q:=D.out.cell 1;have r:=F.out.cell 1;clear x1 ha hb x2 x3 M Z m j N O L J K;cases y
 ·exact x33_
 cases z
 ·exact x33_
 go_enter Tryz.func13,Tryz.ntmps13
 go_wp2_with fail
 rw [HW2.out]
 go_wp2_with fail
 refine (HC.out _ _ HR.out).mono ?_;rintro e w3 ⟨rfl,d⟩;have T:=hid (Z0_ Hb0.out (le_refl _) d);have x9:=hid (x8.out.up d);have xb:=hid (xa.out.up d);have V:=hid (HE.out.up d);have g:=hid (D.out.below d D.out.lt);have X:=hid (F.out.below d F.out.lt);clear d q r xm xn;cases o;rotate_left
 ·go_wp2
  go_ret;exact ⟨rfl,T.out⟩
 have q:=g.out.cell 0;have r:=g.out.cell 1;have P:=g.out.cell 2;have Q:=g.out.cell 3;have R:=g.out.cell 4;have S:=g.out.cell 5
 go_wp2_with fail
 refine (B3_ E a _ _ x9.out xd.out V.out).mono ?_;rintro e w4 ⟨rfl,p⟩;rw [x5.out];have U:=hid (Z0_ T.out (le_refl _) p);have xc:=hid (xb.out.up p);have x7:=hid (V.out.up p);have h:=hid (X.out.below p X.out.lt);clear p q r P Q R S;cases hx:(Y==0)
 ·go_wp2
  go_ret;exact ⟨by first | rfl | (rw [hx];rfl),U.out⟩
 have q:=h.out.cell 0;have r:=h.out.cell 1;have P:=h.out.cell 2;have Q:=h.out.cell 3;have R:=h.out.cell 4;have S:=h.out.cell 5
 go_wp2_with fail
 refine (B3_ E b _ _ xc.out xe.out x7.out).mono ?_;rintro e w5 ⟨rfl,x0⟩;rw [x6.out];have x4:=hid (Z0_ U.out (le_refl _) x0);clear x0 q r P Q R S;go_wp2;go_ret;exact ⟨by first | rfl | (rw [hx];rfl) | simp,x4.out⟩
open Go Go.RowKit
def rwT (ws s:List Int):Int:=if okA (ws.length:Int) s=true then addW ws s else 0
theorem Zf3 (G F:Value) (ws s:List Int) (w:World) (r:Row w w.heap.size G ws) (q:Row w w.heap.size F s) (x0:s.length≤1048576) (p:okA (ws.length:Int) s=true→∀ x∈s,0≤x∧x<(ws.length:Int)):Calls Tryz.prog 10 #[G,F] w (Tells w (rwT ws s)):=by
 have I:=hid r;have j:=hid q;obtain ⟨U,V,rfl,c,_⟩:=id r;obtain ⟨T,cs,rfl,_⟩:=id q;have x1:(s.length:Int)≤1048576:=x37_;have x2:(ws.length:Int)≤9223372036854775807:=by have Z:=c.1;have O:=c.2.1;unfold maxLen at O;omega
 clear r q c;unfold rwT;obtain ⟨o,h⟩:∃ o,okA (ws.length:Int) s=o:=⟨_,rfl⟩;have B:=hid h;rw [h] at p;have J:=hid p;rw [h];clear h p;cases o
 ·go_enter Tryz.func10,Tryz.ntmps10
  go_wp2
  go_loopw [5,6] (fun v d wr=>v=.int .i64 0∧d=.int .i64 0∧wr=w) (fun _ _ _=>0)
  case atStart=>exact ⟨rfl,rfl,rfl⟩
  case round =>
   obtain ⟨rfl,rfl,rfl⟩:=hrel;by_cases g:0<s.length
   ·have E:(0:Int)<(s.length:Int):=by omega
    go_wp2_with fail
    refine (E5_ _ s _ _ j.out).mono ?_;rintro e S ⟨rfl,hb1⟩;rw [B.out];exact y22_
   ·have E:¬ (0:Int)<(s.length:Int):=by omega
    exact y3_
 ·go_enter Tryz.func10,Tryz.ntmps10
  go_wp2
  go_loopw [5,6] (fun v d wr=>∃ k:Nat,d=.int .i64 k∧k≤s.length∧v=.int .i64 (addW ws (s.take k))∧Below w.heap.size w wr) (fun _ d _=>s.length - (intOf d).toNat)
  case atStart=>exact ⟨0,rfl,Nat.zero_le _,rfl,Below.refl _ _⟩
  case round =>
   obtain ⟨k,rfl,hk,rfl,hb⟩:=hrel;have Hb:=hid hb;by_cases g:k<s.length
   ·have E:(k:Int)<(s.length:Int):=by omega
    obtain ⟨M,hA,D⟩:=Row.nth j.out g;subst hA;have Q:=J.out (by trivial) _ (Y9_ 0 g);have m:=hid (Yj9 (w:=ws) g);obtain ⟨x,u⟩:∃ x:Nat,s.getD k 0=(x:Int):=⟨(s.getD k 0).toNat,x37_⟩;rw [u] at Q m;have R:x<ws.length:=x37_;have x3:(x:Int)<(ws.length:Int):=x37_;obtain ⟨N,hA,c⟩:=Row.nth I.out R;subst hA;have H:=hid (j.out.up hb);have K:Hid (∀ W,Below wr.heap.size wr W→W.cell? (M.add k)=some (.int .i64 (x:Int))∧W.cell? (N.add x)=some (.int .i64 (ws.getD x 0))):=hid fun W C=>⟨by rw [D W (Z0_ Hb.out (le_refl _) C),u],c W (Z0_ Hb.out (le_refl _) C)⟩;clear hb D c u
    go_wp2_with fail
    refine (E5_ _ s _ _ H.out).mono ?_;rintro e S ⟨rfl,hb1⟩;rw [B.out];obtain ⟨X,Y⟩:=K.out _ hb1;have HB1:=hid (Z0_ Hb.out (le_refl _) hb1);have L:Hid (wt ws (x:Int)=ws.getD x 0):=hid rfl;rw [L.out] at m;generalize ws.getD x 0=z at *
    generalize addW ws (s.take k)=y at *
    clear hb1;go_wp2
    go_roundw
    case rel=>exact ⟨k+1,y38_,x37_,by rw [m.out];first | rfl | (congr 1;done) | (congr 1;rw [IntKind.wrap_i64];done) | (rw [IntKind.wrap_i64];rfl) | (simp [IntKind.wrap_i64];unfold wrap64;rfl) | (simp [IntKind.wrap_i64];unfold wrap64;omega),HB1.out⟩
    exact mz_
   ·have P:k=s.length:=by omega
    subst P;rw [List.take_length];clear hb;exact q27_
open Go Go.RowKit
def mayP (a b:Mat):Bool:=decide (a.n=b.n) && ((chk a==0) && (chk b==0))
theorem Xn3 (a b:Mat) (M N:Value) (w:World) (ha:MatV w w.heap.size M a) (hb:MatV w w.heap.size N b) (J:Sml a) (K:Sml b):Calls Tryz.prog 16 #[M,N] w (Says w (mayP a b)):=by
 obtain ⟨G,C⟩:∃ c,chk a=c:=⟨_,rfl⟩;obtain ⟨H,D⟩:∃ c,chk b=c:=⟨_,rfl⟩;obtain ⟨y,E⟩:∃ y,decide (a.n=b.n)=y:=⟨_,rfl⟩;have F:(a.n==b.n)=y:=by rw [← E];rfl
 have R:=hid F;have I:mayP a b=((G==0) && ((H==0) && y)):=by unfold mayP;rw [C,D,E];cases y<;>simp
 rw [I];have O:=hid C;have P:=hid D;clear C D I E F;have S:=hid J;have T:=hid K;obtain ⟨la,ia,Y,W,U⟩:=ha.open;obtain ⟨lb,ib,Z,X,V⟩:=hb.open;obtain ⟨s,cl,rfl,_⟩:=W;obtain ⟨r,x,rfl,_⟩:=U;obtain ⟨v,B,rfl,_⟩:=X;obtain ⟨u,z,rfl,_⟩:=V;subst Y Z;obtain ⟨p,hW2⟩:∃ p,p=(w.alloc (.cells #[.int .i64 a.t,.int .i64 a.n,.int .i64 a.a,.int .i64 a.b,.slice s a.l.length cl,.slice r a.i.length x] 25)).alloc (.cells #[.int .i64 b.t,.int .i64 b.n,.int .i64 b.a,.int .i64 b.b,.slice v b.l.length B,.slice u b.i.length z] 25):=⟨_,rfl⟩;have Q:=hid hW2;have q:Below w.heap.size w p:=by rw [hW2];exact ((Below.refl _ w).alloc (le_refl _) _).alloc j37_ _
 have h:Hid (Blk p w.heap.size 25 #[.int .i64 a.t,.int .i64 a.n,.int .i64 a.a,.int .i64 a.b,.slice s a.l.length cl,.slice r a.i.length x]):=hid j40_;have d:Hid (Blk p (w.heap.size+1) 25 #[.int .i64 b.t,.int .i64 b.n,.int .i64 b.a,.int .i64 b.b,.slice v b.l.length B,.slice u b.i.length z]):=hid (by
  rw [hW2];have:=Blk.new (w.alloc (.cells #[.int .i64 a.t,.int .i64 a.n,.int .i64 a.a,.int .i64 a.b,.slice s a.l.length cl,.slice r a.i.length x] 25)) 25 #[.int .i64 b.t,.int .i64 b.n,.int .i64 b.a,.int .i64 b.b,.slice v b.l.length B,.slice u b.i.length z];simpa using this)
 have g:=hid q;have m:=hid (ha.up q);have o:=hid (hb.up q);clear hW2 q ha hb J K
 go_enter Tryz.func16,Tryz.ntmps16
 go_wp2_with fail
 rw [← Q.out];refine (Q8_ a _ _ m.out S.out).mono ?_;rintro e w3 ⟨rfl,j⟩;rw [O.out];replace m:=hid (m.out.up j);replace o:=hid (o.out.up j);replace h:=hid (h.out.below j h.out.lt);replace d:=hid (d.out.below j d.out.lt);replace g:=hid (Z0_ g.out (le_refl _) j);clear j;cases hx:(G==0)
 ·go_wp2
  go_ret;exact ⟨by rw [hx];rfl,g.out⟩
 ·have n0:=d.out.cell 0
  have L:=d.out.cell 1;have n2:=d.out.cell 2;have n3:=d.out.cell 3;have n4:=d.out.cell 4;have n5:=d.out.cell 5
  go_wp2_with fail
  refine (Q8_ b _ _ o.out T.out).mono ?_;rintro e w4 ⟨rfl,k⟩;rw [P.out];clear n0 L n2 n3 n4 n5;replace m:=hid (m.out.up k);replace o:=hid (o.out.up k);replace h:=hid (h.out.below k h.out.lt);replace d:=hid (d.out.below k d.out.lt);replace g:=hid (Z0_ g.out (le_refl _) k);clear k;cases hz:(H==0)
  ·go_wp2
   go_ret;exact ⟨by rw [hx,hz];rfl,g.out⟩
  ·have k1:=h.out.cell 1
   have L:=d.out.cell 1;have F:=R.out;cases y
   all_goals
    go_wp2;go_ret;exact ⟨by rw [hx,hz];rfl,g.out⟩
open Go Go.RowKit
theorem Yq0 {a b:Mat} {s:List Int} {k:Nat} (c:k<s.length) (h:outS (s.getD k 0)=true):may15 a b s=false:=by
 have:s.any outS=true:=List.any_eq_true.2 ⟨_,Y9_ 0 c,h⟩;unfold may15;rw [this];simp
theorem Va4 {a b:Mat} {s:List Int} (h:∀ k,k<s.length→outS (s.getD k 0)=false):may15 a b s=(mayP a b && decide ((s.length:Int)=a.n)):=by
 have:s.any outS=false:=List.any_eq_false.2 fun x c=>by
  obtain ⟨i,hi,rfl⟩:=List.mem_iff_getElem.1 c;have:=h i hi;rw [show s.getD i 0=s[i] by simp [List.getD,hi]] at this;rw [this];decide
 unfold may15 mayP;rw [this];cases decide (a.n=b.n)<;>cases decide ((s.length:Int)=a.n)<;>cases (chk a==0)<;>cases (chk b==0)<;>rfl
theorem Xv7 (a b:Mat) (O P N:Value) (s:List Int) (w:World) (ha:MatV w w.heap.size O a) (hb:MatV w w.heap.size P b) (L:Sml a) (M:Sml b) (B:Row w w.heap.size N s) :
  Calls Tryz.prog 6 #[O,P,N] w (Says w (may15 a b s)):=by
 obtain ⟨la,ia,x6,x4,x1⟩:=ha.open;obtain ⟨lb,ib,x7,x5,x2⟩:=hb.open;obtain ⟨Al,cl,rfl,_⟩:=x4;obtain ⟨Ai,ci,rfl,_⟩:=x1;obtain ⟨Bl,dl,rfl,_⟩:=x5;obtain ⟨Bi,di,rfl,_⟩:=x2;obtain ⟨As,cs,rfl,v,_⟩:=id B;subst x6 x7;have xa:(s.length:Int)≤9223372036854775807:=by have d:=v.1;have c:=v.2.1;unfold maxLen at c;omega
 clear v;obtain ⟨X,hX⟩:∃ X,(w.alloc (.cells #[.int .i64 a.t,.int .i64 a.n,.int .i64 a.a,.int .i64 a.b,.slice Al a.l.length cl,.slice Ai a.i.length ci] 25)).alloc (.cells #[.int .i64 b.t,.int .i64 b.n,.int .i64 b.a,.int .i64 b.b,.slice Bl b.l.length dl,.slice Bi b.i.length di] 25)=X:=⟨_,rfl⟩;have T:=hid hX;have h:Below w.heap.size w X:=by rw [← hX];exact ((Below.refl _ w).alloc (le_refl _) _).alloc j37_ _
 have H:Blk X w.heap.size 25 #[.int .i64 a.t,.int .i64 a.n,.int .i64 a.a,.int .i64 a.b,.slice Al a.l.length cl,.slice Ai a.i.length ci]:=z40_;have I:Blk X (w.heap.size+1) 25 #[.int .i64 b.t,.int .i64 b.n,.int .i64 b.a,.int .i64 b.b,.slice Bl b.l.length dl,.slice Bi b.i.length di]:=by
  rw [← hX];exact q4_
 have S:=hid (B.up h);have p:=hid H;have R:=hid I;have q:=hid h;have Q:=hid (Xn3 a b _ _ X (ha.up h) (hb.up h) L M);clear ha hb L M B hX h H I
 go_enter Tryz.func6,Tryz.ntmps6
 go_wp2_with fail
 rw [T.out]
 go_loopw [6,7] (fun v6 D wr=>v6=.bool false∧∃ k:Nat,D=.int .i64 k∧k≤s.length∧(∀ i,i<k→outS (s.getD i 0)=false)∧wr=X) (fun _ D _=>s.length - (intOf D).toNat)
 case atStart=>exact ⟨rfl,0,rfl,Nat.zero_le _,fun i hi=>absurd hi (Nat.not_lt_zero i),rfl⟩
 case round =>
  obtain ⟨rfl,k,rfl,hk,K,rfl⟩:=hrel;have G:=hid K;clear K;by_cases z:k<s.length
  ·have x9:(k:Int)<(s.length:Int):=by omega
   obtain ⟨ad,hA,J⟩:=Row.nth S.out z;subst hA;have g0:=J wr (Below.refl _ _);obtain ⟨x,C⟩:∃ x,s.getD k 0=x:=⟨_,rfl⟩;have r:=hid C;rw [C] at g0;clear J C;by_cases d:x < -2147483648
   ·go_wp2
    go_ret;refine ⟨?_,q.out⟩;rw [Yq0 z (by rw [r.out];unfold outS;rw [decide_eq_true d];rfl)]
    try rfl
   ·by_cases c:2147483648<x
    ·have x0:-2147483648≤x:=by omega
     go_wp2;go_ret;refine ⟨?_,q.out⟩;rw [Yq0 z (by rw [r.out];unfold outS;rw [decide_eq_true c,Bool.or_true])]
     try rfl
    ·have x0:-2147483648≤x:=by omega
     have x8:x≤2147483648:=x37_;have F:Hid (∀ i,i<k+1→outS (s.getD i 0)=false):=hid fun i hi=>by
      by_cases e:i=k
      ·rw [e,r.out]
       unfold outS;rw [decide_eq_false d,decide_eq_false c];rfl
      ·exact G.out i x37_
     go_wp2
     go_roundw
     case rel=>first | exact ⟨rfl,k+1,y38_,x37_,F.out,rfl⟩ | exact ⟨rfl,k+1,y38_,x37_,F.out,trivial⟩
     exact mz_
  ·have x3:k=s.length:=by omega
   subst x3;have g:=hid (Va4 (a:=a) (b:=b) G.out);rw [g.out];obtain ⟨y,o⟩:∃ y,decide ((s.length:Int)=a.n)=y:=⟨_,rfl⟩
   try rw [o]
   have j:=hid o;have xb:((s.length:Int)==a.n)=y:=by rw [← o];rfl
   have d:=p.out;have c:=R.out;have U:=d.cell 0;have c1:=d.cell 1;have c2:=d.cell 2;have c3:=d.cell 3;have c4:=d.cell 4;have c5:=d.cell 5;have V:=c.cell 0;have W:=c.cell 1;have Y:=c.cell 2;have Z:=c.cell 3;have d4:=c.cell 4;have d5:=c.cell 5;clear d c o
   go_wp2_with fail
   refine Q.out.mono ?_;rintro e w1 ⟨rfl,u⟩;have E:=hid (Z0_ q.out (le_refl _) u);have e1:=(p.out.below u p.out.lt).cell 1;clear u U c1 c2 c3 c4 c5 V W Y Z d4 d5;generalize mayP a b=m at *
   cases m
   ·go_wp2
    go_ret;refine ⟨?_,E.out⟩
    first | rfl | (simp;done) | ((try simp);rw [g.out,j.out];done) | ((try simp);rw [g.out,j.out];rfl)
   ·cases y
    all_goals
     go_wp2;go_ret;refine ⟨?_,E.out⟩
     first | rfl | (simp;done) | ((try simp);rw [g.out,j.out];done) | ((try simp);rw [g.out,j.out];rfl)
section
variable {n:Nat} {f:(Nat→Bool)→Nat} {I:List Int→Bool}
theorem Xn4 (e:n≤64) {x:Int} (d:0≤x∧x<(n:Int)):InN n [x]:=⟨⟨j37_,fun z c=>by rw [List.mem_singleton.1 c];exact ⟨x37_,x37_⟩⟩,fun z c=>by rw [List.mem_singleton.1 c];exact d⟩
theorem Xn5 (c:n≤64) {out:List Int} {x:Int} (ho:InN n out) (d:0≤x∧x<(n:Int)) (hlt:∀ y∈out,y<x):Y3_ out [x]=out ++ [x]:=by
 have h1:=Xn4 c d;refine IsSet.ext (E8_ _ _) ⟨?_,fun y hy=>?_⟩ fun y=>?_
 ·exact z19_
 ·exact z23_
 ·rw [Q2_ ho.1 h1.1,List.mem_append]
theorem Zf4 (h:Rk n f) (g:n≤64) (s:∀ t,InN n t→(I t=true↔f (memP t)=t.length)):∀ (r out:List Int),InN n out→InN n r→(∀ y∈out,∀ z∈r,y<z)→f (memP out)=out.length →
  InN n (baseL I out r)∧(∀ y∈out,y∈baseL I out r)∧(∀ y∈baseL I out r,y∈out∨y∈r)∧f (memP (baseL I out r))=(baseL I out r).length∧∀ y∈r,f (insP (memP (baseL I out r)) y.toNat)=f (memP (baseL I out r))
 | [],out,ho,_,_,hf=>⟨ho,fun _ h=>h,fun _ h=>.inl h,hf,fun _ h=>absurd h j37_⟩
 | x :: r,out,ho,hr,hlt,hf=>by
  have v:=hr.2 x j37_;have C:InN n r:=⟨⟨(List.pairwise_cons.1 hr.1.1).2,fun y hy=>hr.1.2 y q41_⟩,fun y hy=>hr.2 y q41_⟩;have G:∀ z∈r,x<z:=(List.pairwise_cons.1 hr.1.1).1;have u:=Xn5 g ho v fun y hy=>hlt y hy x j37_;have w:=Xn4 g v;have B:InN n (out ++ [x]):=by rw [← u];exact A8_ ho w
  have E:memP (out ++ [x])=insP (memP out) x.toNat:=by rw [← u,L1_ ho.1 w.1,Zr6 v.1]
  have A:=s _ B;rw [baseL,u];by_cases hb:I (out ++ [x])=true
  ·rw [if_pos hb]
   obtain ⟨m,d,o,p,q⟩:=Zf4 h g s r (out ++ [x]) B C (fun y hy z k=>by
    rcases List.mem_append.1 hy with hy | hy
    ·exact hlt y hy z (by simp [k])
    ·rw [List.mem_singleton.1 hy];exact G z k) (A.1 hb)
   refine ⟨m,fun y hy=>d y q41_,fun y hy=>?_,p,fun y hy=>?_⟩
   ·rcases o y hy with c | c
    ·rcases List.mem_append.1 c with c | c
     ·exact .inl c
     ·exact .inr (by rw [List.mem_singleton.1 c];simp)
    ·exact .inr (by simp [c])
   ·rcases List.mem_cons.1 hy with rfl | hy
    ·rw [H1_ (memP_iff.2 (by rw [show ((y.toNat:Nat):Int)=y by omega];exact d y j37_))]
    ·exact q y hy
  ·rw [if_neg hb]
   obtain ⟨m,d,o,p,q⟩:=Zf4 h g s r out ho C (fun y hy z k=>hlt y hy z (by simp [k])) hf;refine ⟨m,d,fun y hy=>?_,p,fun y hy=>?_⟩
   ·rcases o y hy with c | c
    ·exact .inl c
    ·exact .inr (by simp [c])
   ·rcases List.mem_cons.1 hy with rfl | hy
    ·have j:y.toNat<n:=by omega
     have D:¬ f (memP (out ++ [y]))=(out ++ [y]).length:=fun e=>hb (A.2 e);rw [E,List.length_append,List.length_singleton] at D;have H:=h.up' (memP out) j;have J:=h.one' (memP out) j;have K:=h.dim_set (P:=memP out) (Q:=memP (baseL I out r)) (fun i _ F=>memP_iff.2 (d _ (memP_iff.1 F))) j;have L:=h.up' (memP (baseL I out r)) j;omega
    ·exact q y hy
theorem W7_ (h:Rk n f) (u:n≤64) (r:∀ t,InN n t→(I t=true↔f (memP t)=t.length)) {s:List Int} (hs:InN n s) :
  InN n (baseL I [] s)∧(∀ y∈baseL I [] s,y∈s)∧(baseL I [] s).length=f (memP s)∧f (memP (baseL I [] s))=(baseL I [] s).length∧∀ Q,f (orP Q (memP (baseL I [] s)))=f (orP Q (memP s)):=by
 obtain ⟨m,_,o,p,q⟩:=Zf4 h u r s [] (Xr1 n) hs (fun y c=>absurd c j37_) (by rw [Zq8,h.zero];rfl);have j:∀ y∈baseL I [] s,y∈s:=fun y c=>(o y c).resolve_left j37_;have d:∀ Q,f (orP Q (memP (baseL I [] s)))=f (orP Q (memP s)):=fun Q=>by
  have g:=h.closed (orP Q (memP (baseL I [] s))) (memP s) (fun x k w=>by
   have e:=q x (memP_iff.1 w);rw [Int.toNat_natCast] at e;have z:=h.dim_set (P:=memP (baseL I [] s)) (Q:=orP Q (memP (baseL I [] s))) (fun i _ v=>by unfold orP;rw [v];simp) k;have A:=h.up' (orP Q (memP (baseL I [] s))) k;omega) n (le_refl _)
  rw [C5_ h] at g;rw [← g];refine h.ext fun i _=>?_;unfold orP;cases hq:Q i
  ·cases hb:memP (baseL I [] s) i
   ·rfl
   ·have:=memP_iff.2 (j _ (memP_iff.1 hb))
    rw [this];rfl
  ·rfl
 refine ⟨m,j,?_,p,d⟩;have:=d noneP;rw [show orP noneP (memP (baseL I [] s))=memP (baseL I [] s) from rfl,show orP noneP (memP s)=memP s from rfl] at this;omega
end
theorem Xn6 {g h:Nat→Nat}:∀ {k:Nat},(∀ c,c<k→g c≤h c)→sumN g k≤sumN h k
 | 0,_=>le_refl _
 | k+1,e=>by
  rw [sumN,sumN];have:=Xn6 (g:=g) (h:=h) (k:=k) fun c hc=>e c x37_;have:=e k x37_;omega
theorem Xn7 {g h:Nat→Nat}:∀ {k:Nat},(∀ c,c<k→g c≤h c)→sumN g k=sumN h k→∀ c,c<k→g c=h c
 | 0,_,_,c,hc=>by omega
 | k+1,e,he,c,hc=>by
  rw [sumN,sumN] at he;have f:=Xn6 (g:=g) (h:=h) (k:=k) fun c hc=>e c x37_;have j:=e k x37_;by_cases d:c=k
  ·rw [d];omega
  ·exact Xn7 (k:=k) (fun c hc=>e c x37_) x37_ c x37_
theorem Vr1 {A n:Nat} {cls:Nat→Nat} (hc:∀ i,i<n→cls i<A) (P:Nat→Bool):sumN (clsN n cls P) A=cnt P n:=by
 have h:=(Yc4 (A:=A) (n:=n) (cls:=cls) (most:=fun _=>n) hc);have e:partR A n cls (fun _=>n) P=sumN (clsN n cls P) A:=T8_ fun c _=>Nat.min_eq_right (by unfold clsN;exact B7_ _ _);rw [← e];have j:∀ k,k≤n→partR A n cls (fun _=>n) (addK noneP P k)=cnt (addK noneP P k) n:=fun k=>by
  induction k with
  | zero=>intro _;rw [H2_,h.zero,B5_]
  | succ k d =>
   intro m;have d:=d x37_;cases hp:P k
   ·rw [S0_ hp];exact d
   ·have g:addK noneP P k k=false:=by simp [addK,noneP]
    have c1:=J6_ (n:=n) (by omega:k<n) g;have c2:=B7_ (insP (addK noneP P k) k) n;have c3:clsN n cls (addK noneP P k) (cls k)≤cnt (addK noneP P k) n:=(H3_ n).mono (P:=fun i=>addK noneP P k i && cls i==cls k) fun i _ hi=>by
     rw [Bool.and_eq_true] at hi;exact hi.1
    rw [L5_ hp,Yz7 (hc k x37_) x37_ g,if_pos x37_,c1,d]
 have f:=j n (le_refl _);rw [C5_ h,C5_ (H3_ n)] at f;exact f
theorem Va5 {A n:Nat} {cls most:Nat→Nat} (hc:∀ i,i<n→cls i<A) (P:Nat→Bool):partR A n cls most P=cnt P n↔∀ c,c<A→clsN n cls P c≤most c:=by
 rw [← Vr1 hc P];constructor
 ·intro h c d
  have:=Xn7 (g:=fun c=>min (most c) (clsN n cls P c)) (h:=clsN n cls P) (fun c _=>Nat.min_le_right _ _) h c d;have this:min (most c) (clsN n cls P c)=clsN n cls P c:=this;omega
 ·intro h
  exact T8_ fun c d=>Nat.min_eq_right (h c d)
theorem Va6 {n:Nat} {cl s:List Int} (hs:InN n s) (e:∀ i,i<n→0≤cl.getD i 0) (c:Nat):cntC cl s (c:Int)=clsN n (fun i=>(cl.getD i 0).toNat) (memP s) c:=by
 have f:InN n (s.filter fun x=>cl.getD x.toNat 0==(c:Int)):=⟨⟨hs.1.1.filter _,fun x d=>hs.1.2 x (List.mem_filter.1 d).1⟩,fun x d=>hs.2 x (List.mem_filter.1 d).1⟩;unfold cntC;rw [X3_ f];unfold clsN;refine V9_ fun i hi=>?_;have g:=e i hi;rw [Bool.eq_iff_iff,memP_iff,List.mem_filter,Bool.and_eq_true,memP_iff,beq_iff_eq,beq_iff_eq,Int.toNat_natCast];constructor
 ·rintro ⟨a,b⟩
  refine ⟨a,?_⟩;show (cl.getD i 0).toNat=c;omega
 ·rintro ⟨a,b⟩
  have b:(cl.getD i 0).toNat=c:=b;exact ⟨a,x37_⟩
inductive SDR (l:List (List Int)):List Int→List Int→Prop
 | nil:SDR l [] []
 | cons {x r:Int} {s rs:List Int}:r∈l.getD x.toNat []→r∉rs→SDR l s rs→SDR l (x :: s) (r :: rs)
theorem Zx1 {l:List (List Int)} (hl:∀ i,IsSet (l.getD i [])):∀ {s d:List Int},IsSet d→(G2_ l s d=true↔∃ rs,SDR l s rs∧∀ r∈rs,r∉d)
 | [],d,_=>⟨fun _=>⟨[],.nil,fun r f=>absurd f j37_⟩,fun _=>rfl⟩
 | x :: s,d,hu=>by
  rw [G2_,List.any_eq_true];have j:∀ r∈l.getD x.toNat [],IsSet [r]:=fun r f=>⟨j37_,fun z o=>by rw [List.mem_singleton.1 o];exact (hl _).2 r f⟩;constructor
  ·rintro ⟨r,f,m⟩
   obtain ⟨a,b⟩:=(Y4_ (hl _) hu r).1 f;obtain ⟨rs,g,e⟩:=(Zx1 hl (E8_ _ _)).1 m;have k:∀ q∈rs,q∉d∧q≠r:=fun q c=>⟨fun h=>e q c ((Q2_ hu (j r a) q).2 (.inl h)),fun h=>e q c ((Q2_ hu (j r a) q).2 (.inr (by simp [h])))⟩;refine ⟨r :: rs,.cons a (fun h=>(k r h).2 rfl) g,fun q c=>?_⟩;rcases List.mem_cons.1 c with rfl | c
   ·exact b
   ·exact (k q c).1
  ·rintro ⟨rs,g,e⟩
   cases g with
   | cons a b g =>
    rename_i r rs
    refine ⟨r,(Y4_ (hl _) hu r).2 ⟨a,e r j37_⟩,(Zx1 hl (E8_ _ _)).2 ⟨rs,g,fun q c h=>?_⟩⟩;rcases (Q2_ hu (j r a) q).1 h with h | h
    ·exact e q (by simp [c]) h
    ·rw [List.mem_singleton.1 h] at c
     exact b c
theorem Xn8 {n R:Nat} {g:Nat→Nat→Prop} {P:Nat→Bool} {x:Nat} (w:x<n) (u:∀ r,g x r→r<R) (E:covR n R g P≤cnt P n) (h:covR n R g (insP P x)=cnt P n+1):∃ r,g x r∧covR n R (fun i q=>g i q∧q≠r) P=cnt P n:=by
 refine Classical.byContradiction fun m=>?_;have m:∀ r,g x r→covR n R (fun i q=>g i q∧q≠r) P≠cnt P n:=fun r j e=>m ⟨r,j,e⟩;have v:∀ A B,CovP n g P A B→cnt P n≤cnt A n+cnt B R:=fun A B hc=>by
  have z:=L6_ (R:=R) ⟨A,B,hc,le_refl _⟩;have C:=(Zw2 n R g).one' P w;omega
 have y:∀ k,k≤R→∃ A B,CovP n g P A B∧cnt A n+cnt B R≤cnt P n∧∀ r,r<k→g x r→B r=true:=fun k=>by
  induction k with
  | zero=>exact fun _=>⟨P,noneP,fun i r _ d _=>.inl d,by rw [B5_];exact le_refl _,fun r j=>by omega⟩
  | succ k ih =>
   intro F;obtain ⟨A,B,hc,hs,hB⟩:=ih x37_;by_cases p:g x k
   ·obtain ⟨A',B',s,hs'⟩:=I0_ n R (fun i q=>g i q∧q≠k) P
    have G:covR n R (fun i q=>g i q∧q≠k) P≤cnt P n:=(Zw2 n R _).le_cnt P;have H:=m k p;have o:CovP n g P A' (insP B' k):=fun i r hi d c=>by
     by_cases e:r=k
     ·rw [e,Y7_];exact .inr rfl
     ·rw [Y5_ e];exact s i r hi d ⟨c,e⟩
    have D:=(H3_ R).one' B' (show k<R by omega);have c2:=v (orP A A') (andP B (insP B' k)) fun i r hi d c=>by
     unfold orP andP;rcases hc i r hi d c with e | e
     ·exact .inl (by rw [e];rfl)
     ·rcases o i r hi d c with f | f
      ·exact .inl (by rw [f,Bool.or_true])
      ·exact .inr (by rw [e,f];rfl)
    have I:=(H3_ n).submod A A';have J:=(H3_ R).submod B (insP B' k);refine ⟨andP A A',orP B (insP B' k),fun i r hi d c=>?_,?_,fun r j c=>?_⟩
    ·unfold orP andP
     rcases hc i r hi d c with e | e
     ·rcases o i r hi d c with f | f
      ·exact .inl (by rw [e,f];rfl)
      ·exact .inr (by rw [f,Bool.or_true])
     ·exact .inr (by rw [e];rfl)
    ·omega
    ·unfold orP
     by_cases e:r=k
     ·rw [e,Y7_,Bool.or_true]
     ·rw [hB r x37_ c];rfl
   ·exact ⟨A,B,hc,hs,fun r j c=>hB r (by
     rcases Nat.lt_or_ge r k with h | h
     ·exact h
     ·exact absurd (show g x k by rw [show k=r by omega];exact c) p) c⟩
 obtain ⟨A,B,hc,hs,hB⟩:=y R (le_refl _);have:=L6_ (n:=n) (R:=R) (g:=g) (P:=insP P x) (k:=cnt P n) ⟨A,B,fun i r hi d c=>by
  by_cases e:i=x
  ·rw [e] at c;exact .inr (hB r (u r c) c)
  ·rw [Y5_ e] at d;exact hc i r hi d c,hs⟩
 omega
theorem Va7 {n:Nat} {x:Int} {s:List Int} (h:InN n (x :: s)):InN n s∧0≤x∧x<(n:Int)∧memP s x.toNat=false∧memP (x :: s)=insP (memP s) x.toNat:=by
 have d:=h.2 x j37_;have c:=List.pairwise_cons.1 h.1.1;refine ⟨⟨⟨c.2,fun y hy=>h.1.2 y q41_⟩,fun y hy=>h.2 y q41_⟩,d.1,d.2,?_,?_⟩
 ·rw [← Bool.not_eq_true,memP_iff,show ((x.toNat:Nat):Int)=x by omega]
  exact fun f=>by have:=c.1 x f;omega
 ·funext i
  rw [Bool.eq_iff_iff,memP_iff];unfold insP;rw [Bool.or_eq_true,beq_iff_eq,memP_iff,List.mem_cons];constructor
  ·rintro (e | e)
   ·exact .inl x37_
   ·exact .inr e
  ·rintro (e | e)
   ·exact .inl x37_
   ·exact .inr e
theorem Vg1 {l:List (List Int)} {n R:Nat} (j:∀ (i r:Nat),(r:Int)∈l.getD i []→r<R):∀ {s U:List Int},InN n s→covR n R (fun i r=>(r:Int)∈l.getD i []∧(r:Int)∉U) (memP s)=s.length→∃ rs,SDR l s rs∧∀ r∈rs,r∉U
 | [],U,_,_=>⟨[],.nil,fun r f=>absurd f j37_⟩
 | x :: s,U,hs,h=>by
  obtain ⟨g,w,h3,y,m⟩:=Va7 hs;have v:x.toNat<n:=x37_;rw [m,List.length_cons,X3_ g] at h;obtain ⟨r,⟨o,p⟩,f⟩:=Xn8 v (fun r f=>j _ r f.1) ((Zw2 n R _).le_cnt _) h;have e:(fun (i q:Nat)=>((q:Int)∈l.getD i []∧(q:Int)∉U)∧q≠r)=fun (i q:Nat)=>(q:Int)∈l.getD i []∧(q:Int)∉(r:Int) :: U:=by
   funext i q
   refine propext ⟨fun ⟨⟨a,b⟩,c⟩=>⟨a,fun d=>?_⟩,fun ⟨a,b⟩=>⟨⟨a,fun d=>b (by simp [d])⟩,fun e=>b (by simp [e])⟩⟩;rcases List.mem_cons.1 d with e | e
   ·exact c x37_
   ·exact b e
  rw [e,← X3_ g] at f;obtain ⟨rs,u,k⟩:=Vg1 j g f;refine ⟨(r:Int) :: rs,.cons o (fun hm=>k _ hm j37_) u,fun q d=>?_⟩;rcases List.mem_cons.1 d with rfl | d
  ·exact p
  ·exact fun hm=>k q d q47_
theorem Yq1 {l:List (List Int)} {A B:Nat→Bool}:∀ {s rs:List Int},SDR l s rs→(∀ x∈s,∀ r∈l.getD x.toNat [],A x.toNat=true∨B r.toNat=true)→s.length≤(s.filter fun x=>A x.toNat).length+(rs.filter fun r=>B r.toNat).length
 | _,_,.nil,_=>le_refl _
 | _,_,.cons (x:=x) (r:=r) (s:=s) (rs:=rs) a b hrs,h=>by
  have c:=Yq1 hrs fun y hy=>h y q41_;rw [List.filter_cons,List.filter_cons,List.length_cons];rcases h x j37_ r a with e | e
  ·exact j22_
  ·exact j22_
theorem Yq2 {l:List (List Int)} {R:Nat} (d:∀ (i:Nat) (r:Int),r∈l.getD i []→0≤r∧r<(R:Int)):∀ {s rs:List Int},SDR l s rs→rs.Nodup∧∀ r∈rs,0≤r∧r<(R:Int)
 | _,_,.nil=>⟨List.nodup_nil,fun r g=>absurd g j37_⟩
 | _,_,.cons a b hrs=>by
  obtain ⟨e,f⟩:=Yq2 d hrs;refine ⟨List.nodup_cons.2 ⟨b,e⟩,fun q c=>?_⟩;rcases List.mem_cons.1 c with rfl | c
  ·exact d _ _ a
  ·exact f q c
theorem Xn9 {l:List (List Int)} {n R:Nat} {s:List Int} (hl:∀ i,IsSet (l.getD i [])) (f:∀ (i:Nat) (r:Int),r∈l.getD i []→0≤r∧r<(R:Int)) (hs:InN n s):G2_ l s []=true↔covR n R (fun i r=>(r:Int)∈l.getD i []) (memP s)=s.length:=by
 rw [Zx1 hl J1_];constructor
 ·rintro ⟨rs,e,-⟩
  have g:=(Zw2 n R (fun i r=>(r:Int)∈l.getD i [])).le_cnt (memP s);rw [← X3_ hs] at g;refine Nat.le_antisymm g ?_;obtain ⟨A,B,hc,u⟩:=I0_ n R (fun i r=>(r:Int)∈l.getD i []) (memP s);have o:=Yq1 (A:=A) (B:=B) e fun x d r c=>by
   have w:=hs.2 x d;have v:=f _ r c;exact hc x.toNat r.toNat x37_ (memP_iff.2 (by rw [show ((x.toNat:Nat):Int)=x by omega];exact d)) (show ((r.toNat:Nat):Int)∈l.getD x.toNat [] by rw [show ((r.toNat:Nat):Int)=r by omega];exact c)
  obtain ⟨k,m⟩:=Yq2 f e;have p:(s.filter fun x=>A x.toNat).length≤cnt A n:=by
   have j:InN n (s.filter fun x=>A x.toNat):=⟨⟨hs.1.1.filter _,fun x d=>hs.1.2 x (List.mem_filter.1 d).1⟩,fun x d=>hs.2 x (List.mem_filter.1 d).1⟩;rw [X3_ j];exact (H3_ n).mono fun i _ hi=>by
    have:=(List.mem_filter.1 (memP_iff.1 hi)).2
    rwa [Int.toNat_natCast] at this
  have h3:(rs.filter fun r=>B r.toNat).length≤cnt B R:=by
   have:=K.nodup_le (a:=rs.filter fun r=>B r.toNat) (b:=((List.range R).filter B).map fun (q:Nat)=>(q:Int)) (k.filter _) fun r c=>by
    obtain ⟨a,b⟩:=List.mem_filter.1 c;have:=m r a;exact List.mem_map.2 ⟨r.toNat,List.mem_filter.2 ⟨List.mem_range.2 x37_,b⟩,x37_⟩
   rw [List.length_map] at this;exact this
  omega
 ·intro h
  obtain ⟨rs,e,_⟩:=Vg1 (l:=l) (n:=n) (R:=R) (U:=[]) (fun i r c=>by have:=f i _ c;omega) hs (by
   rw [show (fun (i r:Nat)=>(r:Int)∈l.getD i []∧(r:Int)∉[])=fun (i r:Nat)=>(r:Int)∈l.getD i [] by funext i r;simp];exact h)
  exact ⟨rs,e,fun r _=>by simp⟩
noncomputable def indB (k:Nat) (m:Mat) (s:List Int):Bool:=decide (rkP k m (memP s)=s.length)
theorem J0_ {k:Nat} {m:Mat} {s:List Int}:indB k m s=true↔rkP k m (memP s)=s.length:=by unfold indB;rw [decide_eq_true_iff]
theorem Jv2 {m:Mat} {s:List Int} (h:mayI m s=true):indT m s=indB 4 m s:=by rw [Bool.eq_iff_iff,J0_];exact E4_ h
theorem Yh4 (P:Nat→Bool) (a:Nat):∀ b,cnt P (a+b)=cnt P a+cnt (fun i=>P (a+i)) b
 | 0=>by simp [cnt]
 | b+1=>by rw [← Nat.add_assoc,X6_,X6_,Yh4 P a b];omega
theorem Xo0 {f:Mat→(Nat→Bool)→Nat}:∀ {l:List Mat} {P:Nat→Bool},(∀ x∈l,∀ Q,f x Q≤cnt Q (nN x))→sumR f l P≤cnt P (l.map nN).sum
 | [],P,_=>by simp [sumR]
 | x :: r,P,h=>by
  rw [sumR,List.map_cons,List.sum_cons,Yh4];have:=h x j37_ P;have:=Xo0 (f:=f) (l:=r) (P:=fun i=>P (nN x+i)) fun y hy=>h y q41_;omega
theorem Yr0 {f:Mat→(Nat→Bool)→Nat}:∀ {l:List Mat} {P:Nat→Bool},(∀ x∈l,∀ Q,f x Q≤cnt Q (nN x))→(sumR f l P=cnt P (l.map nN).sum↔∀ j,j<l.length→f (l.getD j default) (fun i=>P (offN l j+i))=cnt (fun i=>P (offN l j+i)) (nN (l.getD j default)))
 | [],P,_=>⟨fun _ j c=>absurd c j37_,fun _=>by simp [sumR,cnt]⟩
 | x :: r,P,h=>by
  have k:=h x j37_ P;have m:=Xo0 (f:=f) (l:=r) (P:=fun i=>P (nN x+i)) fun y hy=>h y q41_;have g:=Yr0 (f:=f) (l:=r) (P:=fun i=>P (nN x+i)) fun y hy=>h y q41_;have e:∀ j,offN (x :: r) (j+1)=nN x+offN r j:=fun j=>by unfold offN;simp
  rw [sumR,List.map_cons,List.sum_cons,Yh4];constructor
  ·intro hs j c
   match j with
   | 0 =>
    have d:(fun i=>P (offN (x :: r) 0+i))=P:=by funext i;simp [offN]
    rw [d];show f x P=cnt P (nN x);omega
   | j+1 =>
    have:=g.1 x37_ j (by simp at c;omega);rw [e j];simp only [Nat.add_assoc];exact this
  ·intro c
   have a:=c 0 j37_;have d:(fun i=>P (offN (x :: r) 0+i))=P:=by funext i;simp [offN]
   rw [d] at a;have a:f x P=cnt P (nN x):=a;have b:=g.2 fun j o=>by
    have:=c (j+1) k37_;rw [e j] at this;simp only [Nat.add_assoc] at this;exact this
   omega
section
variable {k:Nat} {m:Mat} {s:List Int} (hc:chk m=0) (hd:dp 4 m≤k+1) (hs:InN (nN m) s)
include hc hs
theorem ind_0 (c:m.t=0):indB (k+1) m s=decide ((s.length:Int)≤m.a):=by
 have:=X3_ hs;have ha:=chk_a hc;rw [Bool.eq_iff_iff,J0_,decide_eq_true_iff,rkP_0 c];omega
theorem ind_2 (f:m.t=2):indB (k+1) m s=(List.range m.a.toNat).all fun c=>decide ((cntC (row m 0) s (c:Int):Int)≤(row m 1).getD c 0):=by
 obtain ⟨_,r,u,j,p⟩:=Zq9 hc f;have q:=Y0_ hc;have ha:=chk_a hc;have o:∀ i,i<nN m→clsOf m i<m.a.toNat:=fun i hi=>by have:=j i x37_;unfold clsOf;omega
 rw [Bool.eq_iff_iff,J0_,rkP_2 f,X3_ hs,Va5 o,List.all_eq_true];have g:∀ c,c<m.a.toNat→(clsN (nN m) (clsOf m) (memP s) c≤Ya0 m c↔decide ((cntC (row m 0) s (c:Int):Int)≤(row m 1).getD c 0)=true):=fun c d=>by
  rw [decide_eq_true_iff,Va6 hs (fun i hi=>(j i x37_).1)];have:=p c x37_;show clsN (nN m) (clsOf m) (memP s) c≤((row m 1).getD c 0).toNat↔((clsN (nN m) (clsOf m) (memP s) c:Nat):Int)≤_;omega
 exact ⟨fun h c e=>(g c (List.mem_range.1 e)).1 (h c (List.mem_range.1 e)),fun h c d=>(g c d).2 (h c (List.mem_range.2 d))⟩
theorem ind_3 (g:m.t=3):indB (k+1) m s=G2_ m.l s []:=by
 obtain ⟨h,d⟩:=Zg2 hc g;have ha:=chk_a hc;have f:∀ i,IsSet (m.l.getD i [])∧∀ r∈m.l.getD i [],0≤r∧r<(m.a.toNat:Int):=fun i=>by
  rcases Nat.lt_or_ge i m.l.length with hi | hi
  ·unfold mayM at d
   rw [Bool.and_eq_true,List.all_eq_true] at d;have e:=Zn6 (d.2 _ (Y9_ [] hi));exact ⟨e.1,fun r c=>by have:=e.2 r c;omega⟩
  ·rw [List.getD_eq_getElem?_getD,List.getElem?_eq_none hi]
   exact ⟨J1_,fun r c=>absurd c j37_⟩
 rw [Bool.eq_iff_iff,J0_,rkP_3 g,Xn9 (R:=m.a.toNat) (fun i=>(f i).1) (fun i=>(f i).2) hs];exact Iff.rfl
theorem ind_5 (c:m.t=5):indB (k+1) m s=indB k (inn m) (imgM m s):=by
 rw [Bool.eq_iff_iff,J0_,J0_,rkP_5 c,Zz0 hc (.inl c) hs,show (imgM m s).length=s.length by unfold imgM;rw [List.length_map]]
include hd
theorem ind_7 (c:m.t=7):indB (k+1) m s=(decide ((s.length:Int)≤m.a) && indB k (inn m) s):=by
 obtain ⟨j,d,h3⟩:=Q4_ hc x37_;have ha:=chk_a hc;have h:=I6_ hc (.inl c);have g:=rk_ok k (inn m) d x37_;have f:=g.le_cnt (memP s);have hl:=X3_ hs;have e:nN (inn m)=nN m:=by unfold nN;rw [h]
 rw [e] at f;rw [Bool.eq_iff_iff,J0_,rkP_7 c,Bool.and_eq_true,decide_eq_true_iff,J0_];omega
theorem ind_6 (c:m.t=6):indB (k+1) m s=indB k (inn m) (Y3_ (imgM m s) (baseL (indB k (inn m)) [] (row m 0))):=by
 obtain ⟨j,g,h3⟩:=Q4_ hc x37_;have v:=Y0_ g;have o:=rk_ok k (inn m) g x37_;have z:=Zg3 hc (.inr c);have f:=Zg4 hc (.inr c) hs;obtain ⟨h,q,C,D,r⟩:=W7_ o v.2 (I:=indB k (inn m)) (fun t _=>J0_) z;have u:∀ y∈imgM m s,y∉baseL (indB k (inn m)) [] (row m 0):=fun y d hb=>by
  have B:=q y hb;have p:memP (imgM m s) y.toNat=true:=memP_iff.2 (by rw [show ((y.toNat:Nat):Int)=y by have:=f.2 y d;omega];exact d);rw [Zz0 hc (.inr c) hs,imgP_iff] at p;obtain ⟨i,hi,_,e⟩:=p;have:=Ya2 hc c hi;rw [e,← Bool.not_eq_true,memP_iff] at this;exact this (by rw [show ((y.toNat:Nat):Int)=y by have:=f.2 y d;omega];exact B)
 have A:(Y3_ (imgM m s) (baseL (indB k (inn m)) [] (row m 0))).length=s.length+rkP k (inn m) (memP (row m 0)):=by
  have j:=Vm4 f.1 h.1;have g:meetL (imgM m s) (baseL (indB k (inn m)) [] (row m 0))=[]:=by
   cases hm:meetL (imgM m s) (baseL (indB k (inn m)) [] (row m 0)) with
   | nil=>rfl
   | cons y l =>
    have d:=(G4_ f.1 h.1 y).1 (by rw [hm];simp);exact absurd d.2 (u y d.1)
  rw [g] at j;have h3:(imgM m s).length=s.length:=by unfold imgM;rw [List.length_map]
  simp only [List.length_nil] at j;omega
 have w:rkP k (inn m) (memP (Y3_ (imgM m s) (baseL (indB k (inn m)) [] (row m 0))))=rkP k (inn m) (orP (memP (row m 0)) (imgP (nN m) (stayN m) (memP s))):=by
  rw [L1_ f.1 h.1,r,Zz0 hc (.inr c) hs];exact o.ext fun i _=>by unfold orP;rw [Bool.or_comm]
 have E:=o.mono (P:=memP (row m 0)) (Q:=orP (memP (row m 0)) (imgP (nN m) (stayN m) (memP s))) fun i _ x=>by unfold orP;rw [x];rfl
 rw [Bool.eq_iff_iff,J0_,J0_,rkP_6 c,A,w];omega
theorem ind_8 (j:m.t=8):indB (k+1) m s=decide ((baseL (indB k (inn m)) [] (Z5_ (allL m.n) s)).length=(baseL (indB k (inn m)) [] (allL m.n)).length):=by
 obtain ⟨x,g,h3⟩:=Q4_ hc x37_;have h:=Y0_ g;have c:=chk_n hc;have d:=rk_ok k (inn m) g x37_;have w:=I6_ hc (.inr j);have e:nN (inn m)=nN m:=by unfold nN;rw [w]
 have r:InN (nN (inn m)) (allL m.n):=by rw [e];exact Zt3 c.1 c.2
 have u:InN (nN (inn m)) (Z5_ (allL m.n) s):=by rw [e];exact D3_ c.1 c.2 hs.1
 obtain ⟨_,_,o,_⟩:=W7_ d h.2 (I:=indB k (inn m)) (fun t _=>J0_) r;obtain ⟨_,_,c3,_⟩:=W7_ d h.2 (I:=indB k (inn m)) (fun t _=>J0_) u;have p:rkP k (inn m) (memP (allL m.n))=rkP k (inn m) allP:=d.ext fun i hi=>by rw [e] at hi;exact Yr7 c.1 c.2 hi
 have q:rkP k (inn m) (memP (Z5_ (allL m.n) s))=rkP k (inn m) (notP (memP s)):=d.ext fun i hi=>by rw [e] at hi;exact P4_ c.1 c.2 hs.1 hi
 have hl:=X3_ hs;have y:=d.mono (P:=notP (memP s)) (Q:=allP) fun _ _ _=>rfl;rw [o,c3,p,q,Bool.eq_iff_iff,J0_,rkP_8 j,decide_eq_true_iff];rcases Nat.eq_zero_or_pos s.length with f | f
 ·have v:s=[]:=List.eq_nil_of_length_eq_zero f
  subst v;have:notP (memP [])=allP:=by funext i;rfl
  rw [this];simp only [List.length_nil] at hl;rw [← hl];simp
 ·omega
theorem ind_9 (r:m.t=9):indB (k+1) m s=(List.range m.i.length).all fun j=>indB k (m.i.getD j default) (betL s (offN m.i j:Nat) (nN (m.i.getD j default):Nat)):=by
 obtain ⟨q,u⟩:=Zt5 hc r;have o:∀ x∈m.i,∀ Q,rkP k x Q≤cnt Q (nN x):=fun x d Q=>(rk_ok k x (within hc d).1 (by have:=(within hc d).2;omega)).le_cnt Q;have hi:=Yr0 (f:=rkP k) (l:=m.i) (P:=memP s) o;rw [q] at hi;rw [Bool.eq_iff_iff,J0_,rkP_9 x37_,X3_ hs,hi,List.all_eq_true];have g:∀ j,j<m.i.length→((rkP k (m.i.getD j default) fun i=>memP s (offN m.i j+i))=cnt (fun i=>memP s (offN m.i j+i)) (nN (m.i.getD j default))↔indB k (m.i.getD j default) (betL s (offN m.i j:Nat) (nN (m.i.getD j default):Nat))=true):=fun j c=>by
  have d:=Y9_ default c;have e:=(within hc d).1;have hb:=Yd9 (N:=nN m) (f:=offN m.i j) hs (Y0_ e).2;have p:=rk_ok k _ e (by have:=(within hc d).2;omega);rw [J0_,X3_ hb,p.ext fun i hi=>Zo2 (s:=s) (f:=offN m.i j) hi,V9_ fun i hi=>Zo2 (s:=s) (f:=offN m.i j) hi]
 exact ⟨fun h j c=>(g j (List.mem_range.1 c)).1 (h j (List.mem_range.1 c)),fun h j c=>(g j c).2 (h j (List.mem_range.2 c))⟩
end
theorem Row.behindV {w:World} {B:Nat} {d:Addr} {n c:Nat} {x:Int} {l:List Int} (h:Row w B (.slice (some d) n c) (x :: l)):Row w B (.slice (some (d.add 1)) l.length (c - 1)) l∧n=l.length+1∧1≤c:=by
 obtain ⟨A,o,e,⟨g,p,_⟩,k⟩:=h;injection e with e1 e2 e3;subst e1 e2 e3;simp only [List.length_cons] at g;refine ⟨⟨some (d.add 1),c - 1,rfl,⟨x37_,x37_,fun e=>by cases e⟩,fun i hi=>?_⟩,rfl,x37_⟩;obtain ⟨m,f,hb,j⟩:=k (i+1) (by simp only [List.length_cons];omega);injection f with f;subst f;refine ⟨d.add 1,rfl,by rw [Z2_];exact hb,?_⟩;rw [Go.Deep.add_add,Nat.add_comm 1 i,j];rfl
theorem minus_len (a b:List Int):(Z5_ a b).length≤a.length:=by
 unfold Z5_ partL;exact x14_
theorem Va8 {l:List Int} {p:Int→Bool} {k:Nat} (c:k<l.length) (h:(l.take k).any p=false):(l.take (k+1)).any p=p (l.getD k 0):=by
 rw [List.take_succ_eq_append_getElem c,List.any_append,h,show l[k]=l.getD k 0 by simp [List.getD,c]];simp
theorem Zf5 (l:List (List Int)) (hl:∀ i,IsSet (l.getD i [])) (S:∀ i,(l.getD i []).length≤64) (hL:l.length≤64):∀ (s d:List Int) (j m o:Value) (w:World),(∀ x∈s,0≤x∧x<(l.length:Int))→IsSet d→d.length+s.length≤1000→Rows2 w w.heap.size j l→Row w w.heap.size m s→Row w w.heap.size o d →
  Calls Tryz.prog 94 #[j,m,o] w (Says w (G2_ l s d))
 | [],d,j,m,o,w,_,_,_,hv,hs,hu=>by
  obtain ⟨As,cs,rfl,_⟩:=hs
  go_enter Tryz.func94,Tryz.ntmps94
  exact y3_
 | x :: s,d,j,m,o,w,hin,hus,hsz,hv,hs,hu=>by
  have ih:Hid (∀ (d:List Int) (j m o:Value) (w:World),IsSet d→d.length+s.length≤1000→Rows2 w w.heap.size j l→Row w w.heap.size m s→Row w w.heap.size o d →
   Calls Tryz.prog 94 #[j,m,o] w (Says w (G2_ l s d))):=hid fun d j m o w g p h3 h4 h5=>Zf5 l hl S hL s d j m o w (fun y hy=>hin y q41_) g p h3 h4 h5
  have HV:=hid hv;have HS:=hid hs;have HU:=hid hu;have xv:=hid hus;obtain ⟨X,Q⟩:∃ X:Nat,x=(X:Int):=⟨x.toNat,by have:=hin x j37_;omega⟩;have xn:X<l.length:=by have:=hin x j37_;omega
  have y0:(X:Int)<(l.length:Int):=x37_;have xu:=hid (hl X);have xg:=hid (S X);obtain ⟨Al,cl,rfl,_⟩:=id hv;obtain ⟨As,cs,rfl,_⟩:=id hs;obtain ⟨Au,cu,rfl,_⟩:=id hu;obtain ⟨E,hA,x5⟩:=Row.nthV hs (k:=0) j37_;subst hA;have P:=x5 w (Below.refl _ _);rw [show (x :: s).getD 0 0=(X:Int) from Q,add_zero] at P;obtain ⟨xw,ul,xm,gl,x9⟩:=Rows2.read hv X xn;subst xm;have xh:=hid x9;obtain ⟨C,_,y1⟩:=Row.behindV hs;have xc:=hid C;have y2:(1:Int)≤(cs:Int):=x37_;have y3:(s.length:Int)+1≤(cs:Int):=by obtain ⟨_,_,e,⟨g,_⟩,_⟩:=id hs;injection e with e1 I e3;subst e3;simp only [List.length_cons] at g;omega
  have xa:d.length≤1048576:=x37_;have xq:(Z5_ (l.getD X []) d).length≤64:=Nat.le_trans (minus_len _ _) (S X);have xr:((Z5_ (l.getD X []) d).length:Int)≤64:=x37_;have K:Hid (G2_ l (x :: s) d=(Z5_ (l.getD X []) d).any fun r=>G2_ l s (Y3_ d [r])):=hid (by rw [G2_,Q,Int.toNat_natCast]);have xf:=hid (Q1_ (l.getD X []) d);clear hv hs hu hin hus C x9 x5 Q
  go_enter Tryz.func94,Tryz.ntmps94
  go_wp2_with fail
  refine (P1_ _ _ (l.getD X []) d _ xh.out HU.out (by have:=xg.out;omega) xa).mono ?_;rintro e w1 ⟨v1,rfl,x7,x3⟩;have N:=hid x7;have Z:=hid x3;obtain ⟨M,hM⟩:∃ M,Z5_ (l.getD X []) d=M:=⟨_,rfl⟩;rw [hM] at N xq xr K xf;obtain ⟨Am,H,rfl,_⟩:=id N.out;have xd:=hid P;have xo:E.block<w.heap.size:=by obtain ⟨_,_,e,_,hk⟩:=HS.out;injection e with e1;subst e1;obtain ⟨a,I,hb,_⟩:=hk 0 j37_;injection I with I;rw [I];exact hb
  clear x7 x3 hM P gl;go_wp2
  go_loopw [6,8] (fun _ Y wr=>∃ k:Nat,Y=.int .i64 (k:Int)∧k≤M.length∧Hid ((M.take k).any (fun r=>G2_ l s (Y3_ d [r]))=false∧Below w1.heap.size w1 wr)) (fun _ Y _=>M.length - (intOf Y).toNat)
  case atStart=>exact ⟨0,rfl,Nat.zero_le _,j37_,Below.refl _ _⟩
  case round =>
   obtain ⟨k,rfl,hk,B⟩:=hrel;by_cases x6:k<M.length
   ·have y7:(k:Int)<(M.length:Int):=by omega
    have y9:IntKind.i64.wrap ((k:Int)+1)=(k:Int)+1:=x38_;obtain ⟨ad,hA,_,y4,T⟩:=Row.oneV (N.out.up B.out.2) x6;subst hA;have y5:(k:Int)+1≤(H:Int):=x37_;have y6:(k:Int)≤(k:Int)+1:=x37_;have v:=hid (Z0_ Z.out (le_refl _) B.out.2);obtain ⟨r,U⟩:∃ r,M.getD k 0=r:=⟨_,rfl⟩;rw [U] at T;have x1:Hid (∀ (A:Option Addr) (n c:Nat),A=some (ad.add k)→n=1→c=H - k→Row wr wr.heap.size (.slice A n c) [r]):=hid fun A n c g p h3=>by subst g p h3;exact T
    have D:=hid (Va8 x6 B.out.1);rw [U] at D;have xe:Hid ((Y3_ d [r]).length+s.length≤1000):=hid (by have:=Zv2 d [r];simp only [List.length_cons,List.length_nil] at this hsz;omega);clear T U;obtain ⟨z,V⟩:∃ z,G2_ l s (Y3_ d [r])=z:=⟨_,rfl⟩;have F:=(Below.refl wr.heap.size wr).drew;have xk:=hid ((HU.out.up v.out).up F);have O:=hid ((HV.out.up v.out).up F);have C:=(xc.out.up v.out).up F;have x2:Hid (cs=1→s=[]):=hid fun h=>List.eq_nil_of_length_eq_zero x37_;have xi:Hid (∀ (A:Option Addr) (n c:Nat),(A=some (E.add 1)∨(s=[]∧A=some E))→n=s.length→c=cs - 1→∀ W,Below wr.drew.heap.size wr.drew W→Row W W.heap.size (.slice A n c) s):=hid fun A n c g p h3 W J=>by
     subst p h3;rcases g with rfl | ⟨g,rfl⟩
     ·exact C.up J
     ·have hc:=C.up J
      obtain ⟨_,_,e,⟨q1,q2,_⟩,_⟩:=hc;injection e with _ _ e3;subst e3;subst g;exact ⟨_,_,rfl,⟨q1,q2,fun e=>by cases e⟩,fun i hi=>absurd hi j37_⟩
    have xx:(1:Int)≤(s.length:Int)+1:=x37_;have xy:(0:Int)≤1:=x37_;have xz:((s.length:Int)+1 - 1).toNat=s.length:=x37_;have xl:Hid (∀ (A:Option Addr) (n c:Nat),A=some (ad.add k)→n=1→c=H - k→Row wr.drew wr.drew.heap.size (.slice A n c) [r]):=hid fun A n c g p h3=>(x1.out A n c g p h3).up F;have u:Hid (Below wr.drew.heap.size wr.drew wr.drew):=hid (Below.refl _ _);have K5:Hid (∀ W,Below wr.drew.heap.size wr.drew W→W.cell? E=some (.int .i64 (X:Int))):=hid fun W J=>((Z0_ v.out.drew (le_refl _) J).cell xo).trans xd.out;have HM:Hid (∀ (j m o:Value) (W:World),Rows2 W W.heap.size j l→Row W W.heap.size m s→Row W W.heap.size o (Y3_ d [r])→Calls Tryz.prog 94 #[j,m,o] W (Says W z)):=hid fun j m o W g p h3=>by rw [← V];exact ih.out _ j m o W (E8_ _ _) xe.out g p h3
    rw [V] at D;clear V F x1 ih C;have y8:¬ H=k:=x37_;by_cases G:cs=1
    all_goals
     go_wp2
     go_region_held3 (fun W=>W.cell? E=some (.int .i64 (X:Int)))
      (exact K5.out _ u.out)
      (first
      | (go_at_call 69;refine (O4_ _ _ d [r] _ xk.out (xl.out _ _ _ (by first | rfl | (simp [Addr.add];done) | (simp [Addr.add];omega) | (simp;intro h;omega)) (by first | rfl | omega | (simp;try omega)) (by first | rfl | omega | (simp;try omega))) xa j37_).mono ?_;rintro e ya ⟨xt,rfl,x8,R⟩;replace u:=hid (Z0_ u.out (le_refl _) R);replace O:=hid (O.out.up R);have xj:=hid x8;clear x8 R)
      | (go_at_call_of 94 xt;refine (HM.out _ _ _ _ O.out (xi.out _ _ _ (by first | exact .inl rfl | exact .inr ⟨x2.out G,rfl⟩ | exact .inl (by simp [G]) | exact .inr ⟨x2.out G,by simp [G]⟩) (by first | rfl | omega | (simp;done) | (simp;omega)) (by first | rfl | omega | (simp;done) | (simp;omega)) _ u.out) xj.out).mono ?_;rintro e yb ⟨rfl,x4⟩;replace u:=hid (Z0_ u.out (le_refl _) x4);clear x4))
     go_simp;have xb:=hid (Z0_ v.out.drew (le_refl _) u.out);have x0:=hid (Z0_ B.out.2.drew (le_refl _) u.out);cases z
     ·go_wp2
      go_roundw
      case rel=>first | exact ⟨k+1,y38_,x37_,D.out,x0.out⟩ | exact ⟨_,.int .i64 ((k:Int)+1),_,_,_,_,_,_,_,_,_,_,_,_,_,_,_,_,_,⟨k+1,y38_,x37_,D.out,x0.out⟩,by rw [G]⟩
      exact mz_
     ·have L:Hid (G2_ l (x :: s) d=true):=hid (by
       rw [K.out];have g:=D.out;rw [List.any_eq_true] at g ⊢;obtain ⟨q,hq,xs⟩:=g;exact ⟨q,List.mem_of_mem_take hq,xs⟩)
      go_wp2;go_ret;exact ⟨by rw [L.out];rfl,xb.out⟩
   ·have xp:k=M.length:=by omega
    subst xp;have L:Hid (G2_ l (x :: s) d=false):=hid (by rw [K.out,← B.out.1,List.take_length]);have v:=hid (Z0_ Z.out (le_refl _) B.out.2);go_wp2;go_ret;exact ⟨by rw [L.out];rfl,v.out⟩
end Go.Proofs.YtnaebbjodfnooaaGreatDoor.Wp
