/- The program's sort and union of sets, walked. -/
import Derived.Test.YtnaebbjodfnooaaGreatDoorGPlaces
import Derived.Test.YtnaebbjodfnooaaGreatDoorMShelf
import Derived.Test.YtnaebbjodfnooaaGreatDoorIGrow
import Derived.Sort.OwnSortedInts
import Derived.Lib.OwnBridge
import Derived.LoopN
import Derived.Test.YtnaebbjodfnooaaGreatDoorX0A
import Derived.Test.YtnaebbjodfnooaaGreatDoorX0C
set_option maxHeartbeats 4000000
set_option maxRecDepth 100000
open Go.Lib (hid)
namespace Go.Proofs.YtnaebbjodfnooaaGreatDoor.Wp
open Go.RowKit Go.Sort Go.Lib
theorem Xw6 (base:Nat) (v:Value) (zs:List Int) (w:World) (c:w.ownsRow base 3 1 v zs.length (ints zs)) (u:zs.length≤2097152) :
  Calls Tryz.prog 88 #[v] w fun e w'=>e=.returned (.tuple #[])∧w'.ownsRow base 3 1 v zs.length (ints (zs.mergeSort fun x y=>decide (x≤y)))∧w.grownBy w' v.ownBlock:=by
 rcases c.2 with ⟨rfl,j⟩ | ⟨g,d,s,rfl,q,hb,k,m,h3,o⟩
 ·have r:zs=[]:=List.eq_nil_of_length_eq_zero j
  subst r;refine (Tryz.slices_Sort_int_none none 0 w).mono ?_;rintro e w' ⟨rfl,rfl⟩;refine ⟨rfl,?_,⟨rfl,rfl,rfl,Nat.le_refl _,fun _ _ _=>rfl⟩⟩;have e:([]:List Int).mergeSort (fun x y=>decide (x≤y))=[]:=j37_;rw [e];exact c
 ·have p:=holds_of_blockI (ss:=zs) hb (by simpa [ints] using o)
  refine (Tryz.slices_Sort_int g 0 d zs w p (Array.getElem?_eq_some_iff.1 hb).1 x37_).mono ?_;rintro e w' ⟨rfl,nn,os,rfl⟩;refine ⟨rfl,?_,grownBy_sortedI _⟩;have h:=ownsRow_sortedI (n:=nn) (os:=os) (ss:=zs) (ts:=zs.mergeSort fun x y=>decide (x≤y)) j37_ q hb k m h3;simpa [ints] using h
theorem Yd6 (base:Nat) (v:Value) (zs:List Int) (w:World) (c:w.ownsRow base 3 1 v zs.length (ints zs)) (z:zs.length≤2097152) :
  Calls Tryz.prog 89 #[v] w fun e w'=>∃ d,e=.returned d∧w'.ownsRow base 3 1 d (Lib.compact zs).length (ints (Lib.compact zs))∧w.grownBy w' v.ownBlock:=by
 rcases c.2 with ⟨rfl,m⟩ | ⟨g,j,u,rfl,y,hb,o,x,h3,p⟩
 ·have s:zs=[]:=List.eq_nil_of_length_eq_zero m
  subst s;refine (Tryz.slices_Compact_int_empty none 0 w).mono ?_;rintro e w' ⟨rfl,rfl⟩;refine ⟨_,rfl,?_,⟨rfl,rfl,rfl,Nat.le_refl _,fun _ _ _=>rfl⟩⟩;have e:Lib.compact ([]:List Int)=[]:=by simp [Lib.compact,Lib.compactUpTo]
  rw [e];exact c
 ·have r:=holds_of_blockI (ss:=zs) hb (by simpa [ints] using p)
  refine (Tryz.slices_Compact_int g 0 j zs w r x37_ o).mono ?_;rintro e w' ⟨rfl,q,rfl⟩;have hc:(Lib.compact zs).length≤zs.length:=Lib.compact_length_le zs;refine ⟨_,rfl,?_,?_⟩
  ·have h:=Lib.ownsRow_putRow (q:=q) (k:=(Lib.compact zs).length) (ys:=Lib.compact zs ++ List.replicate (zs.length - (Lib.compact zs).length) 0) (enc:=Value.int .i64) (zs:=zs) c k37_ hc
   simpa [ints] using h
  ·exact y11_
def K5_ (l:List Int) (k:Nat):List Int:=(l.take k).filter fun x=>decide (Fit x)
theorem Yu0 (l:List Int) (k:Nat) (h:k<l.length) (c:Fit (l.getD k 0)):K5_ l (k+1)=K5_ l k ++ [l.getD k 0]:=by
 unfold K5_;rw [List.take_succ_eq_append_getElem h,List.filter_append];have e:l[k]=l.getD k 0:=y46_;rw [e];congr 1;rw [List.filter_cons,if_pos (by simpa using c)];rfl
theorem Xd8 (l:List Int) (k:Nat) (h:k<l.length) (c:¬ Fit (l.getD k 0)):K5_ l (k+1)=K5_ l k:=by
 unfold K5_;rw [List.take_succ_eq_append_getElem h,List.filter_append];have e:l[k]=l.getD k 0:=y46_;rw [e,List.filter_cons,if_neg (by simpa using c)];simp
theorem U2_ (l:List Int) (k:Nat):(K5_ l k).length≤l.length:=by
 unfold K5_;refine Nat.le_trans (List.length_filter_le _ _) ?_;simp;omega
theorem Yu1 (l:List Int):Lib.compact ((K5_ l l.length).mergeSort fun x y=>decide (x≤y))=sortL l:=by
 unfold K5_;rw [List.take_length];exact Zo5 l
theorem Zn9 (v:Value) (l:List Int) (w:World) (P:Row w w.heap.size v l) (hl:l.length≤2097152):Calls Tryz.prog 62 #[v] w (GivesF w (sortL l)):=by
 obtain ⟨A,c,rfl,_,B⟩:=P;have E:=hid B;clear B;have Z:(l.length:Int)≤2097152:=x37_;obtain ⟨T,hi,Q,R,S⟩:=info_parts info3;have o:=hid (Yu1 l)
 go_enter Tryz.func62,Tryz.ntmps62
 go_wp2
 go_loopw [3,8] (fun U u wr=>∃ k:Nat,u=.int .i64 k∧k≤l.length∧wr.ownsRow w.heap.size 3 1 U (K5_ l k).length (ints (K5_ l k))∧Below w.heap.size w wr) (fun _ u _=>l.length - (intOf u).toNat)
 case atStart=>exact ⟨0,rfl,Nat.zero_le _,World.ownsRow_nil _ _ _ _,Below.refl _ _⟩
 case round =>
  obtain ⟨k,rfl,Y,d,hbr⟩:=hrel;by_cases r:k<l.length
  ·obtain ⟨F,hA,hab,hc⟩:=E.out k r
   subst hA;have G:wr.cell? (F.add k)=some (.int .i64 (l.getD k 0)):=(hbr.cell j38_).trans hc;clear hc;have C:=U2_ l k;have j:=hid (Yu0 l k r);have h:=hid (Xd8 l k r);generalize l.getD k 0=x at G j h;by_cases hx:Fit x
   ·have q:=Zz9 x true x41_
    have p:=hid (j.out hx);clear j h
    go_wp2_with (first
     | (go_at_call 66;refine (q _).mono ?_;rintro e w' ⟨rfl,rfl⟩)
     | (at_builtin;refine wpList_append_own _ rfl _ _ 26 rfl w.heap.size 3 T (.int .i64 0) 1 8 y37_ hi Q R S rfl q38_ _ _ _ rfl (d.alloc _) ⟨w'.heap.size,0,none⟩ 1 1 [Value.int .i64 x] rfl rfl ?c1 ?c2 ?c3 ?c4 ?c5 ?_))
    case c1=>exact P7_ _ _ _
    case c2=>exact Zd3 x
    case c3=>unfold maxLen;omega
    case c4=>omega
    case c5=>have:=hbr.size;simp;omega
    intro v' X O M _;have H:Below w.heap.size w X:=(hbr.alloc hbr.size _).grown M z39_ (fun i hi=>(d.lt i hi).1);go_wp2
    go_roundw
    case rel=>exact ⟨k+1,y38_,x37_,by rw [p.out,X5_,List.length_append];exact O,H⟩
    exact mz_
   ·have q:=Zz9 x false x41_
    have p:=hid (h.out hx);clear j h
    go_wp2_with (go_at_call 66;refine (q _).mono ?_;rintro e w' ⟨rfl,rfl⟩)
    go_roundw
    case rel=>exact ⟨k+1,y38_,x37_,by rw [p.out];exact d,hbr⟩
    exact mz_
  ·have N:k=l.length:=by omega
   subst N;have C:=U2_ l l.length;generalize K5_ l l.length=zs at d o C
   go_wp2_with fail
   refine (Xw6 w.heap.size _ zs _ d x37_).mono ?_;rintro e V ⟨rfl,m,K⟩;have z:Below w.heap.size w V:=hbr.grown K hbr.size (fun i hi=>(d.lt i hi).1);have D:(zs.mergeSort fun x y=>decide (x≤y)).length=zs.length:=j37_;rw [← D] at m;generalize (zs.mergeSort fun x y=>decide (x≤y))=ss at m o D
   go_wp2_with fail
   refine (Yd6 w.heap.size _ ss _ m x37_).mono ?_;rintro e W ⟨v3,rfl,s,L⟩;have I:Below w.heap.size w W:=z.grown L z.size (fun i hi=>(m.lt i hi).1);rw [o.out] at s;go_wp2;go_ret;exact ⟨_,rfl,Row.of_own s rfl,I,fun g J=>(s.lt g J).1⟩
theorem Zo0 (v:Value) (l:List Int) (w:World) (c:Row w w.heap.size v l) (hl:l.length≤2097152):Calls Tryz.prog 62 #[v] w (Gives w (sortL l)):=(Zn9 v l w c hl).mono fun _ _ h=>h.gives
theorem Xw7 (n:Nat) (w:World) (o:n≤4194304) :
  Calls Tryz.prog 115 #[.slice none 0 0,.int .i64 n] w fun e w'=>∃ v,e=.returned v∧w'.ownsRow w.heap.size 3 1 v 0 []∧Below w.heap.size w w':=by
 by_cases c:n=0
 ·subst c
  refine (Any8.slices_Grow_room Tryz.growI none 0 0 0 w x37_ x37_ x37_ x37_).mono ?_;rintro e w' ⟨rfl,rfl⟩;exact ⟨_,rfl,World.ownsRow_nil _ _ _ _,Below.refl _ _⟩
 ·obtain ⟨k,hi,j,p,hz2⟩:=info_parts info3
  refine (Any8.slices_Grow_grow Tryz.growI k (.int .i64 0) hi j x37_ none 0 0 n [] w x37_ x37_ y45_ x37_ j37_ (fun _=>rfl) (fun a h=>by cases h)).mono ?_;rintro e w' ⟨rfl,rfl⟩;refine ⟨_,rfl,?_,((Below.refl _ w).drew).alloc (Nat.le_refl _) _⟩;have m:0+n≤grownCap w (0+n) 0 3 := grownCap_ge w _ _ _;have d:grownCap w (0+n) 0 3 ≤ maxLen:=grownCap_le_maxLen w _ _ _ z38_;refine World.ownsRow_made w.drew _ _ (Nat.le_refl _) d ?_;show (Array.size (_ ++ _ ++ _))=_;have g:(Value.int IntKind.i64 0).cells.size=1:=rfl;rw [Array.size_append,Array.size_append,size_zeroCells,size_zeroCells,g];show 0+_+_=_;change 0+(0+n - 0) * 1+(grownCap w (0+n) 0 3 - (0+n)) * 1=grownCap w (0+n) 0 3 * 1;omega
theorem Yu2 (g:Nat) (q r:Value) (a b:List Int) (w:World) (h:Blk w g 26 #[q,r]) (ha:Row w w.heap.size q a) (hb:Row w w.heap.size r b) (L:a.length≤1048576) (N:b.length≤1048576) :
  Calls Tryz.prog 90 #[.slice (some ⟨g,0,none⟩) 2 2] w (Gives w (a ++ b)):=by
 have x:=hid ha;have j:=hid hb;obtain ⟨u,c1,rfl,_⟩:=ha;obtain ⟨v,c2,rfl,_⟩:=hb;have k:=h.lt;have q0:=h.cell 0;have q1:=h.cell 1;simp only [List.getElem?_toArray,List.getElem?_cons_zero,List.getElem?_cons_succ] at q0 q1;have M:(a.length:Int)≤1048576:=x37_;have O:(b.length:Int)≤1048576:=x37_;obtain ⟨n,m⟩:∃ n:Nat,n=a.length+b.length:=⟨_,rfl⟩;have hs:(a.length:Int)+(b.length:Int)=(n:Int):=x37_;have P:(n:Int)≤2097152:=x37_;have K:=hid m;clear m;have J:=hid h;clear h
 go_enter Tryz.func90,Tryz.ntmps90
 go_wp2;refine wp_loop_rounds 3 ?_;rw [rounds_succ];go_wp2;rw [rounds_succ];go_wp2;rw [rounds_succ]
 go_wp2_with fail
 refine (Xw7 n w x37_).mono ?_;rintro e G ⟨R,rfl,o,c⟩;have y:=hid (x.out.below c);have I:=hid (j.out.below c);have F:G.cell? ⟨g,0,none⟩=some (.slice u a.length c1):=(c.cell k).trans q0;clear q0;go_wp2;refine wp_loop_rounds 3 ?_;rw [rounds_succ]
 go_wp2_with (at_builtin;refine Z4_ rfl _ _ rfl w.heap.size w.heap.size _ _ [] a rfl rfl o y.out j37_ x37_ c.size ?_)
 intro S s p C;have d:Below w.heap.size w s:=c.grown C c.size (fun i hi=>(o.lt i hi).1);have z:=hid (j.out.below d);have Q:s.cell? ⟨g,1,none⟩=some (.slice v b.length c2):=(d.cell k).trans q1;clear q1 F;go_wp2;rw [rounds_succ]
 go_wp2_with (at_builtin;refine Z4_ rfl _ _ rfl w.heap.size w.heap.size _ _ a b rfl rfl p z.out x37_ x37_ d.size ?_)
 intro T H E D;have B:Below w.heap.size w H:=d.grown D d.size (fun i hi=>(p.lt i hi).1);go_wp2;rw [rounds_succ];go_wp2;go_ret;exact ⟨_,rfl,Row.of_own E j37_,B⟩
theorem Yz4 (r s:Value) (a b:List Int) (w:World) (ha:Row w w.heap.size r a) (hb:Row w w.heap.size s b) (y:a.length≤1048576) (z:b.length≤1048576) :
  Calls Tryz.prog 63 #[r,s] w (GivesF w (Y3_ a b)):=by
 have d:=hid ha;have j:=hid hb;obtain ⟨m,c1,rfl,_⟩:=ha;obtain ⟨o,c2,rfl,_⟩:=hb;rcases hma:mayB a with _ | _
 ·have Hr:=hid (Yy7 (b:=b) hma)
  go_enter Tryz.func63,Tryz.ntmps63
  go_wp2_with fail
  refine (may_any _ a w d.out x37_).mono ?_;exact x16_
 ·rcases hmb:mayB b with _ | _
  ·have Hr:=hid (Yy8 (a:=a) hmb)
   go_enter Tryz.func63,Tryz.ntmps63
   go_wp2_with fail
   refine (may_any _ a w d.out x37_).mono ?_;rintro e w1 ⟨rfl,hb1⟩;rw [hma]
   go_wp2_with fail
   refine (may_any _ b w1 ((j.out.below hb1).mono hb1.size) x37_).mono ?_;exact y13_
  ·have Hr:=hid (Yy6 hma hmb)
   go_enter Tryz.func63,Tryz.ntmps63
   go_wp2_with fail
   refine (may_any _ a w d.out x37_).mono ?_;rintro e w1 ⟨rfl,hb1⟩;rw [hma]
   go_wp2_with fail
   refine (may_any _ b w1 ((j.out.below hb1).mono hb1.size) x37_).mono ?_;rintro e w2 ⟨rfl,hb2⟩;rw [hmb];have p:Below w.heap.size w w2:=hb1.trans (hb2.mono hb1.size);clear hb1 hb2;have c:=p.alloc p.size (.cells #[.slice m a.length c1,.slice o b.length c2] 26)
   go_wp2_with fail
   have h:w.heap.size≤(w2.alloc (.cells #[.slice m a.length c1,.slice o b.length c2] 26)).heap.size:=c.size;refine (Yu2 _ _ _ a b _ (Blk.new w2 _ _) ((d.out.below c).mono h) ((j.out.below c).mono h) y z).mono ?_;rintro e u ⟨D,rfl,B,q⟩;have k:Below w.heap.size w u:=c.trans (q.mono h);clear q c h
   go_wp2_with fail
   refine (Zn9 D (a ++ b) u B (by rw [List.length_append];omega)).mono ?_;rintro e F ⟨E,rfl,C,v,x⟩;go_wp2;go_ret;exact ⟨_,rfl,by rw [Hr.out];exact C,k.trans (v.mono k.size),fun g hg=>Nat.le_trans k.size (x g hg)⟩
theorem Yz5 (c d:Value) (a b:List Int) (w:World) (ha:Row w w.heap.size c a) (hb:Row w w.heap.size d b) (e:a.length≤1048576) (g:b.length≤1048576) :
  Calls Tryz.prog 63 #[c,d] w (Gives w (Y3_ a b)):=(Yz4 c d a b w ha hb e g).mono fun _ _ h=>h.gives
end Go.Proofs.YtnaebbjodfnooaaGreatDoor.Wp
