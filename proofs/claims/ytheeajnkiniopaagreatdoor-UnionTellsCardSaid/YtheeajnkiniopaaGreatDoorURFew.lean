/- The document's Few of layer 16, walked (written by gen_urfew.py). -/
import Derived.Test.YtheeajnkiniopaaGreatDoorVI10C
import Derived.Test.YtheeajnkiniopaaGreatDoorZS
import Derived.Test.YtheeajnkiniopaaGreatDoorX0A
import Derived.Test.YtheeajnkiniopaaGreatDoorX0B
set_option maxHeartbeats 16000000
set_option maxRecDepth 100000
open Go.Lib (hid)
namespace Go.Proofs.YtheeajnkiniopaaGreatDoor.Wp
open Go Go.RowKit
def few16 (ms:List Mat) (many most:Int):Bool:=decide ((ms.length:Int)≤many) && ms.all fun m=>fewB 9 m most
theorem P6_ (ms:List Mat) (v:Value) (d most:Int) (w:World) (hl:MatL w w.heap.size v ms) (hs:∀ m∈ms,Lim m) (Y:ms.length≤140737488355328) :
  Calls Tryz.prog 11 #[v,.int .i64 d,.int .i64 most] w (Says w (few16 ms d most)):=by
 have J:=hid hl;have L:=hid hs;obtain ⟨I,T,rfl,_⟩:=id hl;have X:(ms.length:Int)≤140737488355328:=q40_;clear hl hs
 go_enter Tryz.func11,Tryz.ntmps11
 go_wp2_with fail
 go_loopw [7] (fun z wr=>∃ k:Nat,z=.int .i64 k∧k≤ms.length∧Below w.heap.size w wr∧∀ j,j<k→fewB 9 (ms.getD j default) most=true) (fun z _=>ms.length - (intOf z).toNat)
 case atStart=>exact ⟨0,rfl,Nat.zero_le _,Below.refl _ _,fun j h=>absurd h (Nat.not_lt_zero _)⟩
 case round =>
  obtain ⟨k,rfl,U,g,G⟩:=hrel;have HBr:=hid g;have p:=hid G;clear G;by_cases hlt:k<ms.length
  ·have V:(k:Int)<(ms.length:Int):=by omega
   obtain ⟨c,S,Q,P,D,F,E⟩:=MatL.one J.out hlt;obtain rfl:I=some c:=(Value.slice.inj D).1;have y:ms.getD k default∈ms:=q43_;have H:∀ W,Below w.heap.size w W→W.cell? (c.add (k * 6))=some (.int .i64 (ms.getD k default).t)∧W.cell? ⟨(c.add (k * 6)).block,(c.add (k * 6)).off+1,none⟩=some (.int .i64 (ms.getD k default).n)∧W.cell? ⟨(c.add (k * 6)).block,(c.add (k * 6)).off+2,none⟩=some (.int .i64 (ms.getD k default).a)∧W.cell? ⟨(c.add (k * 6)).block,(c.add (k * 6)).off+3,none⟩=some (.int .i64 (ms.getD k default).b)∧W.cell? ⟨(c.add (k * 6)).block,(c.add (k * 6)).off+4,none⟩=some Q∧W.cell? ⟨(c.add (k * 6)).block,(c.add (k * 6)).off+5,none⟩=some P:=E;have u:=Vm3 (ms.getD k default) _ most _ (F.up g) (L.out _ y);have B:=hid (show ∀ b,fewB 9 (ms.getD k default) most=b→(b=false→few16 ms d most=false)∧(b=true→∀ j,j<k+1→fewB 9 (ms.getD j default) most=true) from fun b hb=>⟨fun e=>by
     subst e;unfold few16;rw [show (ms.all fun m=>fewB 9 m most)=false from List.all_eq_false.2 ⟨_,y,by rw [hb];decide⟩];simp,fun e j h=>by
     subst e;by_cases M:j=k
     ·rw [M];exact hb
     ·exact p.out j q40_⟩)
   obtain ⟨q,s⟩:∃ q,fewB 9 (ms.getD k default) most=q:=⟨_,rfl⟩;have o:=hid (B.out q s);rw [s] at u;obtain ⟨q0,q1,q2,q3,q4,q5⟩:=H _ g;have C:=hid u;clear u H B s D F E y g;generalize (ms.getD k default).n=n1 at *
   generalize (ms.getD k default).t=t1 at *
   generalize (ms.getD k default).a=a1 at *
   generalize (ms.getD k default).b=b1 at *
   cases q with
   | false =>
    have Hr:=hid (o.out.1 rfl);clear o p
    go_wp2_with fail
    refine C.out.mono ?_;rintro e R ⟨rfl,hb⟩;have r:=hid (Z0_ HBr.out (Nat.le_refl _) hb);clear hb q0 q1 q2 q3 q4 q5;go_wp2;go_ret;exact ⟨by rw [Hr.out];rfl,r.out⟩
   | true =>
    have K:=hid (o.out.2 rfl);clear o p
    go_wp2_with fail
    refine C.out.mono ?_;rintro e R ⟨rfl,hb⟩;have r:=hid (Z0_ HBr.out (Nat.le_refl _) hb);clear hb q0 q1 q2 q3 q4 q5;go_wp2
    go_roundw
    case rel=>exact ⟨k+1,x41_,q40_,r.out,K.out⟩
    exact mz_
  ·have N:k=ms.length:=by omega
   subst N;have hall:(ms.all fun m=>fewB 9 m most)=true:=List.all_eq_true.2 fun x O=>by
    obtain ⟨j,h,rfl⟩:=List.mem_iff_getElem.1 O;have:=p.out j h
    rwa [show ms.getD j default=ms[j] by simp [List.getD,h]] at this
   clear g;by_cases h1:(ms.length:Int)≤d
   ·have Hr:=hid (show few16 ms d most=true by unfold few16;rw [hall,decide_eq_true h1];rfl)
    exact y24_
   ·have Hr:=hid (show few16 ms d most=false by unfold few16;rw [decide_eq_false h1];rfl)
    exact y24_
end Go.Proofs.YtheeajnkiniopaaGreatDoor.Wp
