/- The program's clone of a split, walked. -/
import Derived.Test.YtnaebbjodfnooaaGreatDoorTTurn
import Derived.Test.YtnaebbjodfnooaaGreatDoorYB
import Derived.Test.YtnaebbjodfnooaaGreatDoorVI10C
import Derived.Test.YtnaebbjodfnooaaGreatDoorX0A
set_option maxHeartbeats 8000000
set_option maxRecDepth 100000
open Go.Lib (hid)
namespace Go.Proofs.YtnaebbjodfnooaaGreatDoor.Wp
open Go Go.RowKit
theorem V8_ {w:World} {base n:Nat} {v:Value} {d:List Value} (h:w.ownsRow base 3 1 v n d):∃ A c,v=.slice A n c:=by
 rcases h.2 with ⟨rfl,rfl⟩ | ⟨g,c,_,rfl,_⟩
 ·exact ⟨_,_,rfl⟩
 ·exact ⟨_,_,rfl⟩
theorem Zp9 {w:World} {base n k:Nat} {v:Value} {m:List Value} {t:TypeId} {cs:Array Value} (h:w.ownsRow base 3 1 v n m) (hb:Blk w k t cs) (j : 3 ≠ t):∀ g,v.ownBlock=some g→g≠k:=by
 rcases h.2 with ⟨rfl,_⟩ | ⟨g,c,o,rfl,_,d,_⟩
 ·intro g f;cases f
 ·intro p f e
  cases f;subst e;unfold Blk at hb;rw [hb] at d;injection d with d;injection d with _ h2 _;exact j h2.symm
theorem F9_ {w:World} {base lo n:Nat} {v:Value} {zs:List Int} (h:w.ownsRow base 3 1 v n (ints zs)) (hb:lo≤base):w.ownsRow lo 3 1 v n (ints zs):=L.own_le h hb
theorem Zl1 (sv va vb:Value) (s A B:List Int) (w:World) (hs:Row w w.heap.size sv s) (ha:Row w w.heap.size va A) (hb:Row w w.heap.size vb B) (x3:s.length≤4096) (x1:A.length≤4096) (x2:B.length≤4096) :
  Calls Tryz.prog 18 #[.agg #[sv,va,vb]] w fun e w'=>∃ s' S T,e=.returned (.agg #[s',S,T])∧w'.ownsRow w.heap.size 3 1 s' s.length (ints s)∧w'.ownsRow w.heap.size 3 1 S A.length (ints A)∧w'.ownsRow w.heap.size 3 1 T B.length (ints B)∧Below w.heap.size w w':=by
 obtain ⟨o,cs,rfl,_⟩:=id hs;obtain ⟨k,q,rfl,_⟩:=id ha;obtain ⟨m,r,rfl,_⟩:=id hb;obtain ⟨X,hX⟩:∃ X,(w.alloc (.cells #[.slice o s.length cs,.slice k A.length q,.slice m B.length r] 36)).alloc (.cells #[.slice none 0 0,.slice none 0 0,.slice none 0 0] 36)=X:=⟨_,rfl⟩;have HX:=hid hX;have x:Below w.heap.size w X:=by rw [← hX];exact ((Below.refl _ w).alloc (Nat.le_refl _) _).alloc j37_ _
 have U:Blk X w.heap.size 36 #[.slice o s.length cs,.slice k A.length q,.slice m B.length r]:=z40_;have V:Blk X (w.heap.size+1) 36 #[.slice none 0 0,.slice none 0 0,.slice none 0 0]:=by
  rw [← hX];have:=Blk.new (w.alloc (.cells #[.slice o s.length cs,.slice k A.length q,.slice m B.length r] 36)) 36 #[.slice none 0 0,.slice none 0 0,.slice none 0 0]
  rwa [show (w.alloc (.cells #[.slice o s.length cs,.slice k A.length q,.slice m B.length r] 36)).heap.size=w.heap.size+1 by simp] at this
 have HS:=hid (hs.up x);have HA:=hid (ha.up x);have HB:=hid (hb.up x);have z:=hid U;have O:=hid V;have HbX:=hid x;have K0:Hid (∀ W,Below X.heap.size X W→W.cell? ⟨w.heap.size,0,none⟩=some (.slice o s.length cs)∧W.cell? ⟨w.heap.size,1,none⟩=some (.slice k A.length q)∧W.cell? ⟨w.heap.size,2,none⟩=some (.slice m B.length r)):=hid fun W hW=>by
  have h:=z.out.below hW z.out.lt;exact ⟨h.cell 0,h.cell 1,h.cell 2⟩
 have HBd:=hid (Below.refl X.heap.size X).drew;clear hs ha hb hX x U V
 go_enter Tryz.func18,Tryz.ntmps18
 go_wp2;rw [HX.out]
 go_region_held3 (fun W=>W.cell? ⟨w.heap.size,0,none⟩=some (.slice o s.length cs)∧W.cell? ⟨w.heap.size,1,none⟩=some (.slice k A.length q)∧W.cell? ⟨w.heap.size,2,none⟩=some (.slice m B.length r))
  (first | exact K0.out _ HBd.out | exact (have h:=((((z.out.below HBd.out z.out.lt).far (p:=⟨w.heap.size+1,0,none⟩) j37_ _).far (p:=⟨w.heap.size+1,1,none⟩) j37_ _).far (p:=⟨w.heap.size+1,2,none⟩) j37_ _);⟨h.cell 0,h.cell 1,h.cell 2⟩))
  (first
  | (go_at_call_of 17 (Value.slice o s.length cs);refine (R.clone_any _ s _ _ (HS.out.up HBd.out) x3).mono ?_;rintro e w1 ⟨v1,rfl,F,Y⟩;rw [Z9_] at F;obtain ⟨d,c1,rfl⟩:=V8_ F;have u:=hid (F9_ F (lo:=w.heap.size) z44_);replace HBd:=hid (Z0_ HBd.out (Nat.le_refl _) Y);clear F Y)
  | (go_at_call_of 17 (Value.slice k A.length q);refine (R.clone_any _ A _ _ (HA.out.up HBd.out) x1).mono ?_;rintro e w2 ⟨v2,rfl,G,J⟩;rw [Z9_] at G;obtain ⟨g,c2,rfl⟩:=V8_ G;have C:=hid (F9_ G (lo:=w.heap.size) z44_);replace u:=hid (D1_ u.out J);replace HBd:=hid (Z0_ HBd.out (Nat.le_refl _) J);clear G J)
  | (go_at_call_of 17 (Value.slice m B.length r);refine (R.clone_any _ B _ _ (HB.out.up HBd.out) x2).mono ?_;rintro e y ⟨v3,rfl,H,D⟩;rw [Z9_] at H;obtain ⟨j,c3,rfl⟩:=V8_ H;have Q:=hid (F9_ H (lo:=w.heap.size) z44_);replace u:=hid (D1_ u.out D);replace C:=hid (D1_ C.out D);replace HBd:=hid (Z0_ HBd.out (Nat.le_refl _) D);have c:=hid (O.out.below HBd.out O.out.lt);have L:=c.out.cell 0;have M:=c.out.cell 1;have N:=c.out.cell 2;have f0:=c.out.frozen 0;have f1:=c.out.frozen 1;have f2:=c.out.frozen 2;clear H D))
 all_goals
  have P:=((c.out.set_ 0 (.slice d s.length c1)).set_ 1 (.slice g A.length c2)).set_ 2 (.slice j B.length c3);have Z:Blk (((y.setCell ⟨w.heap.size+1,0,none⟩ (.slice d s.length c1)).setCell ⟨w.heap.size+1,1,none⟩ (.slice g A.length c2)).setCell ⟨w.heap.size+1,2,none⟩ (.slice j B.length c3)) (w.heap.size+1) 36 #[.slice d s.length c1,.slice g A.length c2,.slice j B.length c3]:=by simpa using P
  have E:∀ {n:Nat} {v:Value} {xs:List Value},y.ownsRow w.heap.size 3 1 v n xs→(((y.setCell ⟨w.heap.size+1,0,none⟩ (.slice d s.length c1)).setCell ⟨w.heap.size+1,1,none⟩ (.slice g A.length c2)).setCell ⟨w.heap.size+1,2,none⟩ (.slice j B.length c3)).ownsRow w.heap.size 3 1 v n xs:=fun h=>by
   have K:=Zp9 h c.out q38_;exact K2_ (K2_ (K2_ h (p:=⟨w.heap.size+1,0,none⟩) K _) (p:=⟨w.heap.size+1,1,none⟩) K _) (p:=⟨w.heap.size+1,2,none⟩) K _
  have H1:=hid (E u.out);have H2:=hid (E C.out);have H3:=hid (E Q.out);have x0:Hid (Below w.heap.size w (((y.setCell ⟨w.heap.size+1,0,none⟩ (.slice d s.length c1)).setCell ⟨w.heap.size+1,1,none⟩ (.slice g A.length c2)).setCell ⟨w.heap.size+1,2,none⟩ (.slice j B.length c3))):=hid ((((Z0_ HbX.out (Nat.le_refl _) HBd.out).setCell (p:=⟨w.heap.size+1,0,none⟩) (Nat.le_succ _) _).setCell (p:=⟨w.heap.size+1,1,none⟩) (Nat.le_succ _) _).setCell (p:=⟨w.heap.size+1,2,none⟩) (Nat.le_succ _) _);have I:=hid Z;clear P Z E L M N f0 f1 f2 u C Q HBd c;generalize (((y.setCell ⟨w.heap.size+1,0,none⟩ (.slice d s.length c1)).setCell ⟨w.heap.size+1,1,none⟩ (.slice g A.length c2)).setCell ⟨w.heap.size+1,2,none⟩ (.slice j B.length c3))=W9 at *
  have L:=I.out.cell 0;have M:=I.out.cell 1;have N:=I.out.cell 2;go_wp2;refine bodyPost_ret (v:=.agg #[.slice d s.length c1,.slice g A.length c2,.slice j B.length c3]) (by simp [results,Tryz.results18,go_sem,L,M,N]) rfl ?_;exact ⟨_,_,_,rfl,H1.out,H2.out,H3.out,x0.out⟩
open Go Go.RowKit
theorem Vj6 {zs:List Int} {m:Int} {k:Nat} (h:MinIs m (zs.take k)) (d:k<zs.length):MinIs (min m (zs.getD k 0)) (zs.take (k+1)):=by
 have e:zs.getD k 0=zs[k]:=by simp [List.getD,d]
 rw [List.take_succ_eq_append_getElem d,e];constructor
 ·by_cases hc:m≤zs[k]
  ·rw [Int.min_eq_left hc];exact List.mem_append.2 (.inl h.1)
  ·rw [Int.min_eq_right x37_];exact List.mem_append.2 (.inr (List.mem_singleton.2 rfl))
 ·intro x c
  rcases List.mem_append.1 c with c | c
  ·have:=h.2 x c;omega
  ·rw [List.mem_singleton.1 c];omega
theorem Vf5 {zs:List Int}:∀ k,0<k→k≤zs.length→MinIs (Lib.minOf (zs.take k)) (zs.take k)
 | 0,h,_=>absurd h (Nat.lt_irrefl 0)
 | 1,_,h=>by
  cases zs with
  | nil=>simp at h
  | cons x l=>rw [Lib.minOf_one];exact ⟨j37_,fun y c=>by simp at c;simp [c]⟩
 | k+2,_,h=>by
  have:=Vj6 (Vf5 (k+1) x37_ x37_) (show k+1<zs.length by omega);rw [Lib.minOf_step zs (k+1) x37_ x37_];exact this
theorem Vj7 (v:Value) (zs:List Int) (w:World) (s:Row w w.heap.size v zs) (r:zs≠[]) :
  Calls Tryz.prog 37 #[v] w fun e w'=>(∃ d,e=.returned (.int .i64 d)∧MinIs d zs)∧w'=w:=by
 have g:0<zs.length:=List.length_pos_iff.2 r;obtain ⟨A,c,rfl,m,o⟩:=id s;obtain ⟨k,rfl,_,hc⟩:=o 0 g;obtain ⟨b,x,y⟩:=k;have u:y=none:=x46_;subst u;refine (Tryz.slices_Min_int b x zs.length c zs w g (Nat.le_refl _) (by have:=m.1;have:=m.2.1;unfold maxLen at *;omega) fun j q=>?_).mono fun e w' h=>?_
 ·obtain ⟨k,e,_,p⟩:=o j q
  injection e with e;subst e;rw [← p];congr 1;unfold Addr.add;split
  ·simp
  ·rfl
 ·have:=Vf5 (zs:=zs) zs.length g (Nat.le_refl _)
  exact ⟨⟨_,h.1,by rwa [List.take_length] at this ⊢⟩,h.2⟩
theorem Xx6 {a b:Mat} {s A B:List Int} (h:Common a b s) (p:A.length=nN a) (q:B.length=nN a) (hA:∀ x∈A,-1152921504606846976≤x∧x≤1152921504606846976) (hB:∀ x∈B,-1152921504606846976≤x∧x≤1152921504606846976) {g:Int} (o:g∈gapsS a b s A B):-2305843009213693952≤g∧g≤2305843009213693952:=by
 have d:∀ i,i<nN a→-1152921504606846976≤A.getD i 0∧A.getD i 0≤1152921504606846976:=fun i hi=>hA _ (Y9_ 0 x37_);have e:∀ i,i<nN a→-1152921504606846976≤B.getD i 0∧B.getD i 0≤1152921504606846976:=fun i hi=>hB _ (Y9_ 0 x37_);rcases (U9_ h).1 o with ⟨x,y,c,j,_,_,_,rfl⟩ | ⟨x,c,f,_,rfl⟩ | ⟨x,c,f,_,rfl⟩
 ·have k:=d x c
  have m:=d y j;have r:=e x c;have u:=e y j;unfold gapG wt;simp only [Int.toNat_natCast];split<;>omega
 ·have k:=d x c
  have m:=Zp8 A (addG a s) hA (List.ne_nil_of_mem f);omega
 ·have k:=e x c
  have m:=Zp8 B (addG b s) hB (List.ne_nil_of_mem f);omega
theorem SpM.anew {w:World} {lo hi p:Nat} {o f j u:Value} {s e A B:List Int} (h:SpM w lo hi p o f j s A B) (k:Row w w.heap.size u e) (d:∀ g,u.ownBlock=some g→hi≤g) :
  SpM (w.setCell ⟨p,0,none⟩ u) lo hi p u f j e A B∧Mdw lo hi w (w.setCell ⟨p,0,none⟩ u):=by
 have m:Mdw lo hi w (w.setCell ⟨p,0,none⟩ u):=(Mdw.refl lo hi w).setCell (p:=⟨p,0,none⟩) h.pl h.ph _;exact ⟨⟨h.box.set_ 0 u,h.pl,h.ph,Nat.le_trans h.hs m.size,m.row k d,d,K2_ h.aown (p:=⟨p,0,none⟩) (fun g c=>(h.ahi g c).2) _,K2_ h.bown (p:=⟨p,0,none⟩) (fun g c=>(h.bhi g c).2) _,h.ahi,h.bhi,h.ne⟩,m⟩
end Go.Proofs.YtnaebbjodfnooaaGreatDoor.Wp
