/- UnionMore answers true whatever comes in (one list of matroids), and leaves all as it was: the row and its tied card. The row lists nine package-level variables (math/bits' two tables, errors.errorType, this package's table of forms and its five errors) with what the program's text lays in them. -/
import Derived.Test.YtheeajnkiniopaaGreatDoorQGateE
import Derived.ChangeMaps5
import Derived.Test.YtheeajnkiniopaaGreatDoorUGreat
import Derived.Test.YtheeajnkiniopaaGreatDoorUUni
import Derived.Test.YtheeajnkiniopaaGreatDoorX0A
import Derived.Test.YtheeajnkiniopaaGreatDoorX0B
set_option maxHeartbeats 1000000
set_option maxRecDepth 100000
namespace Go.Proofs.YtheeajnkiniopaaGreatDoor.Wp
open Go.ChangeShapes Go.WideShapes Go.ChangeAt Go.RowKit
theorem UnionMore_lifted (os:Os) (Q:os.Started) (H:Type) (enc:TypeId × Value→H) :
  ReturnsInHanded {} Tryz.checked os 5 .any (fun w args=>(Rows.unionMoreSpec.pre enc Tryz.prog Tryz.f5 [] false w args∧laidMetH Tryz.prog laidQ w)∧sizedMet enc Tryz.prog Tryz.f5 (OpenSpec.ofChange Rows.unionMoreSpec) false w args)
   (Rows.unionMoreSpec.post enc Tryz.prog Tryz.f5 false true false false):=by
 refine returnsInHanded_of_change_and (C:=Tryz.checked) (X:=fun w _=>laidMetH Tryz.prog laidQ w) (fun _ _ _ J h=>h.of_heap J) own Q y37_ Tryz.func5
  (ChangeSpec.witness_shaped (enc:=enc) (C:=Tryz.checked) (os:=os) (X:=fun w _=>laidMetH Tryz.prog laidQ w) false (World.doorLaid Tryz.prog 400 os) #[.slice none 0 0] 8 rfl (World.shaped_of_RefB y37_ y37_) y37_ y37_ y37_ (Zn0 os _)) ?_
 intro W base args B gs S s m _ N F _;have r:∀ (j:Nat) t v,Tryz.f5.params[j]?=some t→args[j]?=some v→Value.okWide Tryz.prog W .any base t v:=s;have hW':=m;obtain ⟨p,q,k,G,rfl,Y,Z⟩:=m;have g:DataW.TrodAll enc Tryz.prog W 0 (fun _=>true) true Tryz.f5.params.toList args.toList B p:=k;rw [Tryz.params5] at g r;obtain ⟨c,x0,T,U,u,q0,V,rfl,rfl,d,O⟩:=trodAll_cons g;obtain ⟨rfl,rfl,rfl⟩:=trodAll_nil O;obtain rfl:args=#[c]:=by cases args;simp_all
 obtain ⟨rfl,rfl⟩:=trodVars_none G;simp only [List.append_nil] at hW';have L:∀ x∈u,x.block<W.heap.size:=fun x hx=>j23_;have o:∀ x∈u,x.block<W.heap.size:=fun x hx=>L x x41_;have K:=d;obtain ⟨m0,z,y⟩:=Zb0 (r 0 22 c rfl rfl) d o N (j:=0) (by rw [Tryz.params5];rfl) rfl;obtain ⟨E,D⟩:=S2_ F;clear k s;refine (UnionMore_any E m0 c W z y D).mono fun e R ⟨I,hb⟩=>?_;subst I;refine ⟨_,rfl,?_⟩;exact L3_ (pv:=[]) hW' (fun _ _ _=>trodAll_mk1 (shut_bool Tryz.underlying4 _)) (fun P M=>trodAll_mk1 (U2_ y37_ (of_decide_eq_true y37_) K hb o P (fun x hx=>M x (by first | exact absurd hx j37_ | simp [hx])))) (fun _ _=>rfl) j37_ hb (ok_one y37_ rfl (okWide_bool_mk Tryz.underlying4 _))
theorem UnionMore_said:Rows.UnionMoreSaid :=
 OpenClaim.holds_of_wide 5 Tryz.f5 rfl rfl rfl rfl rfl rfl rfl ⟨rfl,rfl,rfl,rfl,rfl⟩ rfl rfl rfl rfl rfl y37_ Tryz.func5 y37_
  (of_decide_eq_true y37_) (by unfold Func.isWrapper;first | (rw [if_pos j38_];kernel_rfl) | (rw [if_neg j38_];exact ⟨rfl,rfl⟩))
  (fun os c H enc _=>UnionMore_lifted os c H enc)
theorem UnionMore_plain (f:FuncId) (c:Func) (d:Tryz.pinned.checked.prog.funcNamed "greenwood/greenwoodlaw16.UnionMore" = some f) (e:Tryz.pinned.checked.prog.funcs[f]?=some c) :
  true=Tryz.pinned.checked.prog.looks []∧∀ (j:Nat) t,c.params[j]?=some t→Tryz.pinned.checked.prog.wantsStandIn t=false:=by
 obtain rfl:f = 5 := Option.some.inj ((show Tryz.prog.funcNamed "greenwood/greenwoodlaw16.UnionMore" = some 5 by kernel_rfl).symm.trans d) |>.symm;obtain rfl:c=Tryz.f5 := (Option.some.inj (Tryz.func5.symm.trans e)).symm;refine ⟨y37_,fun j t ht=>?_⟩;rw [Tryz.params5] at ht;obtain rfl:t = 22 := x47_;exact (show Tryz.prog.wantsStandIn 22 = false by kernel_rfl)
theorem UnionMore_card:Rows.UnionMoreCardSaid :=
 Claim7.holds_tied_plain_at .later [] _ _ _ _ UnionMore_said (fun _ h=>by cases h) y37_ (fun _ h=>by cases h) unionMore_row_tie rfl ⟨rfl,rfl⟩ y37_ rfl UnionMore_plain y37_
open Go.ChangeShapes Go.WideShapes Go.ChangeAt Go.RowKit
theorem UnionUniform_lifted (os:Os) (V:os.Started) (H:Type) (enc:TypeId × Value→H) :
  ReturnsInHanded {} Tryz.checked os 6 .any (fun w args=>(Rows.unionUniformSpec.pre enc Tryz.prog Tryz.f6 [] false w args∧laidMetH Tryz.prog laidQ w)∧sizedMet enc Tryz.prog Tryz.f6 (OpenSpec.ofChange Rows.unionUniformSpec) false w args)
   (Rows.unionUniformSpec.post enc Tryz.prog Tryz.f6 false true false false):=by
 refine returnsInHanded_of_change_and (C:=Tryz.checked) (X:=fun w _=>laidMetH Tryz.prog laidQ w) (fun _ _ _ O h=>h.of_heap O) own V y37_ Tryz.func6
  (ChangeSpec.witness_shaped (enc:=enc) (C:=Tryz.checked) (os:=os) (X:=fun w _=>laidMetH Tryz.prog laidQ w) false (World.doorLaid Tryz.prog 400 os) #[.int .i64 0,.slice none 0 0] 8 rfl (World.shaped_of_RefB y37_ y37_) y37_ y37_ y37_ (Zn0 os _)) ?_
 intro W base args J gs x0 z r _ x6 L _;have c:∀ (j:Nat) t v,Tryz.f6.params[j]?=some t→args[j]?=some v→Value.okWide Tryz.prog W .any base t v:=z;have hW':=r;obtain ⟨p,q,o,M,rfl,x4,x5⟩:=r;have m:DataW.TrodAll enc Tryz.prog W 0 (fun _=>true) true Tryz.f6.params.toList args.toList J p:=o;rw [Tryz.params6] at m c;obtain ⟨G,x8,d0,x1,B,q0,x3,rfl,rfl,g,T⟩:=trodAll_cons m;obtain ⟨d,x9,d1,x2,D,q1,rfl,rfl,rfl,k,U⟩:=trodAll_cons T;obtain ⟨rfl,rfl,rfl⟩:=trodAll_nil U;obtain rfl:args=#[G,d]:=by cases args;simp_all
 obtain ⟨rfl,rfl⟩:=trodVars_none M;simp only [List.append_nil] at hW';have s:∀ x∈B ++ D,x.block<W.heap.size:=fun x hx=>j23_;have R:∀ x∈B,x.block<W.heap.size:=fun x hx=>s x x41_;have P:=g;have u:∀ x∈D,x.block<W.heap.size:=fun x hx=>s x x41_;have Q:=k;obtain ⟨S,rfl,rfl,rfl,x7⟩:=open_int Tryz.underlying3 (c 0 3 G rfl rfl) g;obtain ⟨Y,I⟩:=Ys0 (c 1 23 d rfl rfl) k u;obtain ⟨E,K⟩:=S2_ L;clear o z;refine (UnionUniform_any E S d Y W I K).mono fun e Z ⟨N,hb⟩=>?_;subst N;refine ⟨_,rfl,?_⟩;exact L3_ (pv:=[]) hW' (fun _ _ _=>trodAll_mk1 (shut_bool Tryz.underlying4 _)) (fun F y=>trodAll_cons_mk (U2_ y37_ (of_decide_eq_true y37_) P hb R F (fun x hx=>y x (by first | exact absurd hx j37_ | simp [hx]))) (trodAll_mk1 (U2_ y37_ (of_decide_eq_true y37_) Q hb u F (fun x hx=>y x (by first | exact absurd hx j37_ | simp [hx]))))) (fun _ _=>rfl) j37_ hb (ok_one y37_ rfl (okWide_bool_mk Tryz.underlying4 _))
theorem UnionUniform_said:Rows.UnionUniformSaid :=
 OpenClaim.holds_of_wide 6 Tryz.f6 rfl rfl rfl rfl rfl rfl rfl ⟨rfl,rfl,rfl,rfl,rfl⟩ rfl rfl rfl rfl rfl y37_ Tryz.func6 y37_
  (of_decide_eq_true y37_) (by unfold Func.isWrapper;first | (rw [if_pos j38_];kernel_rfl) | (rw [if_neg j38_];exact ⟨rfl,rfl⟩))
  (fun os c H enc _=>UnionUniform_lifted os c H enc)
theorem UnionUniform_plain (f:FuncId) (c:Func) (d:Tryz.pinned.checked.prog.funcNamed "greenwood/greenwoodlaw16.UnionUniform" = some f) (e:Tryz.pinned.checked.prog.funcs[f]?=some c) :
  true=Tryz.pinned.checked.prog.looks []∧∀ (j:Nat) t,c.params[j]?=some t→Tryz.pinned.checked.prog.wantsStandIn t=false:=by
 obtain rfl:f = 6 := Option.some.inj ((show Tryz.prog.funcNamed "greenwood/greenwoodlaw16.UnionUniform" = some 6 by kernel_rfl).symm.trans d) |>.symm;obtain rfl:c=Tryz.f6 := (Option.some.inj (Tryz.func6.symm.trans e)).symm;refine ⟨y37_,fun j t ht=>?_⟩;rw [Tryz.params6] at ht;have h:t = 3 ∨ t = 23 := x47_;rcases h with rfl | rfl
 ·exact (show Tryz.prog.wantsStandIn 3 = false by kernel_rfl)
 ·exact (show Tryz.prog.wantsStandIn 23 = false by kernel_rfl)
theorem UnionUniform_card:Rows.UnionUniformCardSaid :=
 Claim7.holds_tied_plain_at .later [] _ _ _ _ UnionUniform_said (fun _ h=>by cases h) y37_ (fun _ h=>by cases h) unionUniform_row_tie rfl ⟨rfl,rfl⟩ y37_ rfl UnionUniform_plain y37_
open Go.ChangeShapes Go.WideShapes Go.ChangeAt Go.RowKit
theorem UnionGreatest_lifted (os:Os) (Q:os.Started) (H:Type) (enc:TypeId × Value→H) :
  ReturnsInHanded {} Tryz.checked os 4 .any (fun w args=>(Rows.unionGreatestSpec.pre enc Tryz.prog Tryz.f4 [] false w args∧laidMetH Tryz.prog laidQ w)∧sizedMet enc Tryz.prog Tryz.f4 (OpenSpec.ofChange Rows.unionGreatestSpec) false w args)
   (Rows.unionGreatestSpec.post enc Tryz.prog Tryz.f4 false true false false):=by
 refine returnsInHanded_of_change_and (C:=Tryz.checked) (X:=fun w _=>laidMetH Tryz.prog laidQ w) (fun _ _ _ J h=>h.of_heap J) own Q y37_ Tryz.func4
  (ChangeSpec.witness_shaped (enc:=enc) (C:=Tryz.checked) (os:=os) (X:=fun w _=>laidMetH Tryz.prog laidQ w) false (World.doorLaid Tryz.prog 400 os) #[.slice none 0 0] 8 rfl (World.shaped_of_RefB y37_ y37_) y37_ y37_ y37_ (Zn0 os _)) ?_
 intro W base args B gs S s m _ N F _;have r:∀ (j:Nat) t v,Tryz.f4.params[j]?=some t→args[j]?=some v→Value.okWide Tryz.prog W .any base t v:=s;have hW':=m;obtain ⟨p,q,k,G,rfl,Y,Z⟩:=m;have g:DataW.TrodAll enc Tryz.prog W 0 (fun _=>true) true Tryz.f4.params.toList args.toList B p:=k;rw [Tryz.params4] at g r;obtain ⟨c,x0,T,U,u,q0,V,rfl,rfl,d,O⟩:=trodAll_cons g;obtain ⟨rfl,rfl,rfl⟩:=trodAll_nil O;obtain rfl:args=#[c]:=by cases args;simp_all
 obtain ⟨rfl,rfl⟩:=trodVars_none G;simp only [List.append_nil] at hW';have L:∀ x∈u,x.block<W.heap.size:=fun x hx=>j23_;have o:∀ x∈u,x.block<W.heap.size:=fun x hx=>L x x41_;have K:=d;obtain ⟨m0,z,y⟩:=Zb0 (r 0 22 c rfl rfl) d o N (j:=0) (by rw [Tryz.params4];rfl) rfl;obtain ⟨E,D⟩:=S2_ F;clear k s;refine (UnionGreatest_any E m0 c W z y D).mono fun e R ⟨I,hb⟩=>?_;subst I;refine ⟨_,rfl,?_⟩;exact L3_ (pv:=[]) hW' (fun _ _ _=>trodAll_mk1 (shut_bool Tryz.underlying4 _)) (fun P M=>trodAll_mk1 (U2_ y37_ (of_decide_eq_true y37_) K hb o P (fun x hx=>M x (by first | exact absurd hx j37_ | simp [hx])))) (fun _ _=>rfl) j37_ hb (ok_one y37_ rfl (okWide_bool_mk Tryz.underlying4 _))
theorem UnionGreatest_said:Rows.UnionGreatestSaid :=
 OpenClaim.holds_of_wide 4 Tryz.f4 rfl rfl rfl rfl rfl rfl rfl ⟨rfl,rfl,rfl,rfl,rfl⟩ rfl rfl rfl rfl rfl y37_ Tryz.func4 y37_
  (of_decide_eq_true y37_) (by unfold Func.isWrapper;first | (rw [if_pos j38_];kernel_rfl) | (rw [if_neg j38_];exact ⟨rfl,rfl⟩))
  (fun os c H enc _=>UnionGreatest_lifted os c H enc)
theorem UnionGreatest_plain (f:FuncId) (c:Func) (d:Tryz.pinned.checked.prog.funcNamed "greenwood/greenwoodlaw16.UnionGreatest" = some f) (e:Tryz.pinned.checked.prog.funcs[f]?=some c) :
  true=Tryz.pinned.checked.prog.looks []∧∀ (j:Nat) t,c.params[j]?=some t→Tryz.pinned.checked.prog.wantsStandIn t=false:=by
 obtain rfl:f = 4 := Option.some.inj ((show Tryz.prog.funcNamed "greenwood/greenwoodlaw16.UnionGreatest" = some 4 by kernel_rfl).symm.trans d) |>.symm;obtain rfl:c=Tryz.f4 := (Option.some.inj (Tryz.func4.symm.trans e)).symm;refine ⟨y37_,fun j t ht=>?_⟩;rw [Tryz.params4] at ht;obtain rfl:t = 22 := x47_;exact (show Tryz.prog.wantsStandIn 22 = false by kernel_rfl)
theorem UnionGreatest_card:Rows.UnionGreatestCardSaid :=
 Claim7.holds_tied_plain_at .later [] _ _ _ _ UnionGreatest_said (fun _ h=>by cases h) y37_ (fun _ h=>by cases h) unionGreatest_row_tie rfl ⟨rfl,rfl⟩ y37_ rfl UnionGreatest_plain y37_
end Go.Proofs.YtheeajnkiniopaaGreatDoor.Wp
