/- Texts laid together: TyThree2, TyMap, TyAdd, TyThree, TyBox, TyToken, PairMake, CpImpl, FxS, BpRow, OrdWalks, BgBits, BgImpl, BpWrite, MkForm, GtMath, GtMem, GtPlant, GtTree, BgMath2, GtBits, ToMath, NfMath, Fault, OwnText, OffB, OtWalks, GtFind, NfMem, NfFind, NfMove, NfPut, NfMath2, BpBack, GtHit, TyBack2, RowCode. -/
import Derived.Below
import Derived.BigQuiet
import Derived.Deep.QuietTactic
import Derived.Deep.RegionLaw
import Derived.Lib.LazyBuf
import Derived.Maps.OwnOps
import Derived.OwnWalk
import Derived.Deep.AppendLies
import Derived.Laws.Tables
import Derived.Laws.MakeOwn
import Derived.Laws.OwnMore
import Derived.Deep.RegionHeld3
import Derived.Test.YtejebodgfoihkaaGreatProg
import Derived.StillTailTactics
import Derived.Defers
import Derived.Recover
import Derived.RangeFuncBox
import Derived.Lib.AppendStr
import Derived.Deep.RegionHeld
import Derived.Test.YtejebodgfoihkaaGreatKFInflateTwox0a
/- The three bytes at a place. -/
namespace Go.Proofs.YtejebodgfoihkaaGreat
open Go.RowKit Go.Lib

def tri (x y z:Nat):Value:=.agg #[.int .u8 (x:Int),.int .u8 (y:Int),.int .u8 (z:Int)]
theorem first3 (s:ByteArray) (A:Nat) (h:A+3≤s.size):((s.extract A s.size).data.toList.map fun x=>Value.int .u8 (x.toNat:Int)).take 3=[.int .u8 (Ty.b s A:Int),.int .u8 (Ty.b s (A+1):Int),.int .u8 (Ty.b s (A+2):Int)]:=by
 rw[Ty.b_at (by omega),Ty.b_at (by omega),Ty.b_at (by omega)]
 apply List.ext_getElem
 · simp;omega
 intro i h1 h2
 have hi:i=0∨i=1∨i=2:=by simp at h2;omega
 rcases hi with rfl|rfl|rfl<;>simp[ByteArray.getElem_eq_getElem_data]
theorem run_copy3 (w:World) (ty:TypeId) (b:Nat) (t:ByteArray) (x y z:Value) (h3:3≤t.size) (ht:(t.data.toList.map fun x=>Value.int .u8 (x.toNat:Int)).take 3=[x,y,z])
 (hc:∀j,j<3→(w.cell? ⟨b,0+j,none⟩).isSome=true) (hf:∀j,j<3→w.frozen? ⟨b,0+j,none⟩=false):
 (Builtin.copy_ #[22,9] ty #[.slice (some ⟨b,0,none⟩) 3 3,.string t]).run Tryz.prog w=.ok (goInt 3) (((w.setCell ⟨b,0,none⟩ x).setCell ⟨b,1,none⟩ y).setCell ⟨b,2,none⟩ z):=by
 have hmin:Nat.min t.size 3=3:=Nat.min_eq_right h3
 have hall:∀v∈[x,y,z],v.oneCell'=true:=by
  intro v hv
  rw[←ht] at hv
  obtain⟨u,_,rfl⟩:=List.mem_map.1 (List.mem_of_mem_take hv)
  rfl
 have hst:=run_storeCells_cells (P:=Tryz.prog) b 0 [x,y,z] 0 w (by simpa using hc) (by simpa using hf) hall
 simp[Builtin.copy_,run_underlying Tryz.underlying22,Builtin.lenOf,Builtin.firstCells,hmin]
 rw[ht,hst]
 rfl
theorem step_copy3 {ops:Array Oper} {o:Oper} {a:Act} {w:World} {K:Act→World→Prop} {Q:Exit→Act→World→Prop} {E:Prop}
 (hg:o.guard=none) (d x:Operand) (hop:o.op=Op.call { callee:=Callee.builtin Builtin.copy,args:=#[d,x],argTypes:=#[22,9] })
 (b:Nat) (hd:a.eval d=.slice (some ⟨b,0,none⟩) 3 3) (t:ByteArray) (hx:a.eval x=.string t) (X Y Z:Value) (h3:3≤t.size) (ht:(t.data.toList.map fun x=>Value.int .u8 (x.toNat:Int)).take 3=[X,Y,Z])
 (hc:∀j,j<3→(w.cell? ⟨b,0+j,none⟩).isSome=true) (hf:∀j,j<3→w.frozen? ⟨b,0+j,none⟩=false)
 (hK:K (a.put o.dst (goInt 3)) (((w.setCell ⟨b,0,none⟩ X).setCell ⟨b,1,none⟩ Y).setCell ⟨b,2,none⟩ Z)):
 if Region.wanted o (yielded ops a.tmps)=true then Oper.wp Tryz.prog o a w K Q else E:=by
 have hw:Region.wanted o (yielded ops a.tmps)=true:=by simp[Region.wanted,hg]
 rw[if_pos hw]
 have hrun:=run_copy3 w o.type b t X Y Z h3 ht hc hf
 unfold Oper.wp
 simp[execOp,hop,resolve,invoke,builtin,hd,hx,hrun,Result.andThen]
 exact hK

theorem tri_some (W:World) (B:Nat) (hB:B=W.heap.size) (x y z:Value) (T:TypeId):∀j,j<3→((W.alloc (.cells #[x,y,z] T)).drew.cell? ⟨B,0+j,none⟩).isSome=true:=fun j hj=>by
 subst hB
 show ((W.alloc (.cells #[x,y,z] T)).cell? ⟨W.heap.size,0+j,none⟩).isSome=true
 have hj':j=0∨j=1∨j=2:=by omega
 rcases hj' with rfl|rfl|rfl
 all_goals rw[World.cell?_alloc_at _ _ _ _ rfl];rfl
theorem tri_free (W:World) (B:Nat) (hB:B=W.heap.size) (x y z:Value) (T:TypeId):∀j,j<3→(W.alloc (.cells #[x,y,z] T)).drew.frozen? ⟨B,0+j,none⟩=false:=fun j _=>by
 subst hB
 show (W.alloc (.cells #[x,y,z] T)).frozen? ⟨W.heap.size,0+j,none⟩=false
 unfold World.frozen?
 rw[show (W.alloc (.cells #[x,y,z] T)).heap[W.heap.size]?=some (.cells #[x,y,z] T (0,0)) from heap_alloc_new _ _]
 simp
def ThreeEnd (v:Value) (ok:Bool) (w:World) (e:Ending) (w':World):Prop:=e=.returned (.tuple #[v,.bool ok])∧Below w.heap.size w w'
set_option maxHeartbeats 2000000 in
set_option maxRecDepth 20000 in
theorem threeAt_no (s:ByteArray) (A:Nat) (w:World) (hs:s.size≤9001) (hA:A≤s.size) (h:¬A+3≤s.size):
 Calls Tryz.prog 56 #[.string s,.int .i64 (A:Int)] w (ThreeEnd (tri 0 0 0) false w):=by
 obtain⟨B,hB⟩:∃B,B=A+3:=⟨_,rfl⟩
 have eB:(A:Int)+3=(B:Int):=by omega
 have fB:=wrap_i64_nat B (by omega)
 have d:decide ((B:Int)>(s.size:Int))=true:=decide_eq_true (by omega)
 have dn:s.size<B:=by omega
 clear hB
 go_enter Tryz.func56,Tryz.ntmps56
 go_wp2_with fail
 refine bodyPost_ret (v:=.tuple #[tri 0 0 0,.bool false]) ?_ rfl ⟨rfl,((Below.refl _ _).alloc (Nat.le_refl _) _).alloc (by simp) _⟩
 simp[results,Tryz.results56,go_sem,tri]
set_option maxHeartbeats 2000000 in
set_option maxRecDepth 20000 in
theorem threeAt_yes (s:ByteArray) (A:Nat) (w:World) (hs:s.size≤9001) (h:A+3≤s.size):
 Calls Tryz.prog 56 #[.string s,.int .i64 (A:Int)] w (ThreeEnd (tri (Ty.b s A) (Ty.b s (A+1)) (Ty.b s (A+2))) true w):=by
 obtain⟨B,hB⟩:∃B,B=A+3:=⟨_,rfl⟩
 have eB:(A:Int)+3=(B:Int):=by omega
 have fB:=wrap_i64_nat B (by omega)
 have d:decide ((B:Int)>(s.size:Int))=false:=decide_eq_false (by omega)
 have hAi:(A:Int)≤(s.size:Int):=by omega
 have HT:=first3 s A h
 have HS:3≤(s.extract A s.size).size:=by rw[ByteArray.size_extract];omega
 generalize Ty.b s A=x at*
 generalize Ty.b s (A+1)=y at*
 generalize Ty.b s (A+2)=z at*
 have HTH:Hid (((s.extract A s.size).data.toList.map fun x=>Value.int .u8 (x.toNat:Int)).take 3=[.int .u8 (x:Int),.int .u8 (y:Int),.int .u8 (z:Int)]):=HT
 clear hB HT
 go_enter Tryz.func56,Tryz.ntmps56
 go_wp2_with fail
 go_region_law (refine step_copy3 rfl (.tmp 13) (.tmp 16) rfl (w.heap.size+1) (by simp[Act.eval,Act.put]) (s.extract A s.size) (by simp[Act.eval,Act.put]) (.int .u8 (x:Int)) (.int .u8 (y:Int)) (.int .u8 (z:Int)) HS HTH.out (tri_some _ _ (by simp) _ _ _ _) (tri_free _ _ (by simp) _ _ _ _) ?_)
 all_goals (
  go_wp2_with fail
  refine bodyPost_ret (v:=.tuple #[tri x y z,.bool true]) ?_ rfl ⟨rfl,?_⟩
  · simp[results,Tryz.results56,go_sem,tri]
  exact (((Below.refl _ _).alloc (Nat.le_refl _) _).alloc (by simp) _).drew)
end Go.Proofs.YtejebodgfoihkaaGreat
namespace Go.Proofs.YtejebodgfoihkaaGreat
open Go.RowKit Go.Maps
open Go.ChangeShapes (lits)

theorem laidOut_y:laidOutB Tryz.prog=true:=by kernel_rfl
theorem row_tri:(104:TypeId)<Tryz.prog.types.size:=of_decide_eq_true (by kernel_rfl)
set_option maxRecDepth 100000 in
theorem ktype_tri:Tryz.prog.keyTypeAt 2 104=true:=by kernel_rfl
theorem law_tri:WideMaps.KeyLaw Tryz.prog 104:=deep_law_laid laidOut_y (m:=2) (Nat.le_of_ble_eq_true rfl) row_tri ktype_tri (by rw[Tryz.underlying104])
theorem key_tri:Keyed Tryz.prog 104:=Keyed.of_law law_tri
theorem cells_tri:Tryz.prog.cellsOf 104=3:=by kernel_rfl
theorem cells_byte_y:Tryz.prog.cellsOf 5=1:=by kernel_rfl
set_option maxRecDepth 100000 in
theorem kt_tri:Tryz.prog.keyType 104=true:=by kernel_rfl
theorem size_pos_y {n k:Nat} (h:k<n):∃d,n=d+1:=⟨n-1,by omega⟩
def triKey (x y z:Nat):Lit:=.string (keyBytes [.int .u8 (x:Int),.int .u8 (y:Int),.int .u8 (z:Int)])
theorem triKey_of (x y z:Nat) (hx:x<256) (hy:y<256) (hz:z<256):keyOf Tryz.prog 104 (tri x y z)=some (triKey x y z):=by
 have wf:∀c:Nat,c<256→(Lit.int .u8 (c:Int)).wf=true:=fun c hc=>WalkArith.wf_u8 (by omega)
 have hl:Tryz.prog.keyLits (Tryz.prog.types.size+1) 104 (tri x y z).cells.toList=some [.int .u8 (x:Int),.int .u8 (y:Int),.int .u8 (z:Int)]:=by
  show Tryz.prog.keyLits (Tryz.prog.types.size+1) 104 [.int .u8 (x:Int),.int .u8 (y:Int),.int .u8 (z:Int)]=_
  obtain⟨d,hd⟩:=size_pos_y row_tri
  rw[hd]
  unfold Program.keyLits
  simp only[Tryz.underlying104]
  have k2:∀c:Nat,c<256→Tryz.prog.keyLits (d+1) 5 [.int .u8 (c:Int)]=some [.int .u8 (c:Int)]:=fun c hc=>by
   unfold Program.keyLits
   simp only[Tryz.underlying5]
   rw[if_pos ⟨trivial,wf c hc⟩]
  rw[if_pos (by rw[cells_tri];rfl)]
  simp[cells_byte_y,k2 x hx,k2 y hy,k2 z hz,show List.range 3=[0,1,2] from rfl]
 have hf:(tri x y z).formed Tryz.prog 104=true:=by simp[tri,Value.formed,Tryz.underlying104,cells_tri]
 unfold keyOf
 simp only[Tryz.underlying104,kt_tri,hf,hl,Bool.and_self,if_true,Option.map_some]
 rfl
theorem triKey_inj {x y z x' y' z':Nat} (hx:x<256) (hy:y<256) (hz:z<256) (hx':x'<256) (hy':y'<256) (hz':z'<256) (e:triKey x y z=triKey x' y' z'):x=x'∧y=y'∧z=z':=by
 have h1:=triKey_of x y z hx hy hz
 have h2:=triKey_of x' y' z' hx' hy' hz'
 rw[←e] at h2
 have h3:=key_tri.inj h1 h2
 unfold tri at h3
 injection h3 with h4
 simp at h4
 omega
theorem triKey_lit (x y z:Nat):WideAt.IsKeyLit (triKey x y z):=trivial
theorem zero_ints (u:World):(zeroValue 30).run Tryz.prog u=.ok (.slice none 0 0) u:=by
 have h:(Tryz.prog.info? 30).map (fun i=>(i.zero,i.size,i.bytes))=some (some (.slice none 0 0),1,24):=by kernel_rfl
 obtain⟨i0,hi,hz0,_,_⟩:=info_parts h
 simp[zeroValue,typeInfo,hi,hz0]

def plsI (s:ByteArray) (x y z A:Nat):List Int:=(Ty.pls s x y z A).map (fun (p:Nat)=>(p:Int))
theorem plsI_len (s:ByteArray) (x y z A:Nat):(plsI s x y z A).length≤A:=by unfold plsI;rw[List.length_map];exact Ty.pls_len s x y z A
structure TriTab (D:DataW Unit) (s:ByteArray) (A:Nat):Prop where
 isMap:IsMap D
 at_:∀x y z:Nat,x<256→y<256→z<256→(D.atKey (triKey x y z) .nil=.nil∧plsI s x y z A=[])∨D.atKey (triKey x y z) .nil=.slice (lits .i64 (plsI s x y z A)) []
theorem tri_start (s:ByteArray):TriTab (.map []) s 0:=⟨isMap_empty,fun _ _ _ _ _ _=>.inl ⟨rfl,rfl⟩⟩
theorem lits_inj {a b:List Int} (h:(lits .i64 a:List (DataW Unit))=lits .i64 b):a=b:=by
 unfold lits at h
 refine (List.map_inj_right (fun x y hxy=>?_)).1 h
 injection hxy with h1
 injection h1
theorem TriTab.is {D:DataW Unit} {s:ByteArray} {A x y z:Nat} (t:TriTab D s A) (hx:x<256) (hy:y<256) (hz:z<256) {w:World} {base:Nat} {v:Value} {zs:List Int} (hat:D.atKey (triKey x y z) .nil=rowDatum .i64 v zs) (ho:w.ownsInts base 3 .i64 v zs):zs=plsI s x y z A:=by
 rcases ho.datum (H:=Unit) with⟨h1,h2⟩|h1<;>rcases t.at_ x y z hx hy hz with⟨h3,h4⟩|h3
 · rw[h2,h4]
 · rw[hat,h1] at h3;cases h3
 · rw[hat,h1] at h3;cases h3
 rw[hat,h1] at h3
 injection h3 with h5
 exact lits_inj h5
theorem TriTab.more {D:DataW Unit} {s:ByteArray} {A:Nat} (t:TriTab D s A) (h:A+3≤s.size):
 TriTab (D.put (triKey (Ty.b s A) (Ty.b s (A+1)) (Ty.b s (A+2))) (.slice (lits .i64 (plsI s (Ty.b s A) (Ty.b s (A+1)) (Ty.b s (A+2)) A++[(A:Int)])) [])) s (A+1):=by
 refine⟨t.isMap.put _ _,fun x y z hx hy hz=>?_⟩
 by_cases e:x=Ty.b s A∧y=Ty.b s (A+1)∧z=Ty.b s (A+2)
 · obtain⟨rfl,rfl,rfl⟩:=e
   right
   rw[atKey_put_same t.isMap (triKey_lit _ _ _)]
   unfold plsI
   rw[Ty.pls_yes ⟨h,rfl,rfl,rfl⟩,List.map_append]
   rfl
 have hne:triKey x y z≠triKey (Ty.b s A) (Ty.b s (A+1)) (Ty.b s (A+2)):=fun q=>e (triKey_inj hx hy hz (Ty.b_lt _ _) (Ty.b_lt _ _) (Ty.b_lt _ _) q)
 have hp:plsI s x y z (A+1)=plsI s x y z A:=by
  unfold plsI
  rw[Ty.pls_no (fun q=>e ⟨q.2.1.symm,q.2.2.1.symm,q.2.2.2.symm⟩)]
 rw[atKey_put_other hne,hp]
 exact t.at_ x y z hx hy hz
theorem TriTab.none {D:DataW Unit} {s:ByteArray} {A:Nat} (t:TriTab D s A) (h:¬A+3≤s.size):TriTab D s (A+1):=by
 refine⟨t.isMap,fun x y z hx hy hz=>?_⟩
 have hp:plsI s x y z (A+1)=plsI s x y z A:=by
  unfold plsI
  rw[Ty.pls_no (fun q=>h q.1)]
 rw[hp]
 exact t.at_ x y z hx hy hz
def Seen (s:ByteArray) (B A:Nat) (W:World):Prop:=∃(D:DataW Unit) (n:Nat),n≤A∧W.ownsGroups Tryz.prog 104 (B+1) 3 .i64 B n D∧TriTab D s A
theorem seen_start (s:ByteArray) (w:World):Seen s w.heap.size 0 (w.alloc (.map #[] 0)):=⟨_,0,Nat.le_refl _,World.ownsGroups_made _ _ _ _ _,tri_start s⟩
end Go.Proofs.YtejebodgfoihkaaGreat
namespace Go.Proofs.YtejebodgfoihkaaGreat
open Go.RowKit Go.Maps
open Go.ChangeShapes (lits)

theorem wpList_entry {P:Program} (w:World) {ops:Array Oper} {rest:List Oper} {o:Oper} {a:Act} {Q:Exit→Act→World→Prop}
 (hg:o.guard=none) (m x:Operand) (t:TypeId) (hop:o.op=Op.mapEntry t m x) (vm vx:Value) (hm:a.eval m=vm) (hx:a.eval x=vx) (r:Value) (wA:World) (hrun:(Instr.mapEntry t vm vx).run P w=.ok r wA)
 (hK:wpList P ops Q rest (a.put o.dst r) wA):wpList P ops Q (o::rest) a w:=by
 refine wpList_plain hg fun K' hK'=>?_
 unfold Oper.wp
 simp[execOp,hop,hm,hx,hrun,Result.andThen]
 exact hK' _ _ hK
def Stays:Obj→Prop
 | .map ..=>False
 | .cells _ t _=>t≠3
 | _=>True
structure Tn (B:Nat) (W W':World):Prop where
 low:Below B W W'
 same:∀(k:Nat) (o:Obj),W.heap[k]?=some o→Stays o→W'.heap[k]?=some o
theorem Tn.size {B:Nat} {X Y:World} (h:Tn B X Y):X.heap.size≤Y.heap.size:=h.low.size
theorem Tn.trans {B:Nat} {X Y Z:World} (h:Tn B X Y) (k:Tn B Y Z):Tn B X Z:=⟨h.low.trans k.low,fun i o hi ho=>k.same i o (h.same i o hi ho) ho⟩
theorem Tn.below {B m:Nat} {X Y:World} (h:Below m X Y) (hB:B≤m) (hm:X.heap.size≤m):Tn B X Y:=⟨h.mono hB,fun i o hi _=>(h.block i (by have:=(Array.getElem?_eq_some_iff.1 hi).1;omega)).trans hi⟩
theorem Tn.grown {B:Nat} {X Y:World} {row:Option Nat} (h:X.grownBy Y row) (hB:B≤X.heap.size) (hr:∀j,row=some j→B≤j∧∀o,X.heap[j]?=some o→¬Stays o):Tn B X Y:=
 ⟨(Below.refl B X).grown h hB (fun j e=>(hr j e).1),fun i o hi ho=>(h.block i (Array.getElem?_eq_some_iff.1 hi).1 (fun e=>(hr i e.symm).2 o hi ho)).trans hi⟩

theorem Seen.map {s:ByteArray} {B A:Nat} {W:World} (h:Seen s B A W):∃es clock,W.heap[B]?=some (.map es clock):=by
 obtain⟨D,n,_,h1,_⟩:=h
 obtain⟨es,clock,hb,_⟩:=h1
 exact⟨es,clock,hb⟩
theorem Seen.lt {s:ByteArray} {B A:Nat} {W:World} (h:Seen s B A W):B<W.heap.size:=by
 obtain⟨_,_,hb⟩:=h.map
 exact (Array.getElem?_eq_some_iff.1 hb).1
theorem Seen.kept {s:ByteArray} {B A:Nat} {W W':World} (h:Seen s B A W) (hb:W'.heap[B]?=W.heap[B]?) (hk:∀(j:Nat) (cs:Array Value) (fr:Nat×Nat),W.heap[j]?=some (Obj.cells cs 3 fr)→W'.heap[j]?=some (Obj.cells cs 3 fr)):Seen s B A W':=by
 obtain⟨D,n,hn,h1,h2⟩:=h
 exact⟨D,n,hn,ownsGroups_same h1 hb hk,h2⟩
theorem Seen.below {s:ByteArray} {B A m:Nat} {W W':World} (h:Seen s B A W) (hb:Below m W W') (hm:W.heap.size≤m):Seen s B A W':=
 h.kept (hb.block B (by have:=h.lt;omega)) (fun j _ _ hj=>(hb.block j (by have:=(Array.getElem?_eq_some_iff.1 hj).1;omega)).trans hj)

theorem own_stays {W:World} {base j:Nat} {v:Value} {zs:List Int} {o:Obj} (h:W.ownsInts base 3 .i64 v zs) (e:v.ownBlock=some j) (ho:W.heap[j]?=some o):¬Stays o:=by
 intro hs
 rcases h.1.2 with⟨rfl,_⟩|⟨g,cap,cur,rfl,_,hgb,_⟩
 · simp[Value.ownBlock] at e
 obtain rfl:g=j:=by simpa [Value.ownBlock] using e
 rw[hgb] at ho;cases ho;exact hs rfl
def AddEnd (s:ByteArray) (B A:Nat) (w:World) (e:Ending) (w':World):Prop:=(∃v,e=.returned v)∧Seen s B (A+1) w'∧Tn B w w'
set_option maxHeartbeats 2000000 in
set_option maxRecDepth 20000 in
theorem add_any (s:ByteArray) (B A:Nat) (w:World) (hs:s.size≤9001) (hA:A<s.size) (h:Seen s B A w):
 Calls Tryz.prog 32 #[.map (some B),.string s,.int .i64 (A:Int)] w (AddEnd s B A w):=by
 have hBlt:=h.lt
 by_cases h3:A+3≤s.size
 · have HT:Hid (Calls Tryz.prog 56 #[.string s,.int .i64 (A:Int)] w (ThreeEnd (.agg #[.int .u8 (Ty.b s A:Int),.int .u8 (Ty.b s (A+1):Int),.int .u8 (Ty.b s (A+2):Int)]) true w)):=threeAt_yes s A w hs h3
   have hkey:=triKey_of (Ty.b s A) (Ty.b s (A+1)) (Ty.b s (A+2)) (Ty.b_lt _ _) (Ty.b_lt _ _) (Ty.b_lt _ _)
   obtain⟨i0,hi,hz0,hz1,hz2⟩:=info_parts (show (Tryz.prog.info? 3).map (fun i=>(i.zero,i.size,i.bytes))=some (some (.int .i64 0),1,8) by kernel_rfl)
   have HS:Hid (Seen s B A w):=h
   have HM:Hid (∀D,TriTab D s A→TriTab (D.put (triKey (Ty.b s A) (Ty.b s (A+1)) (Ty.b s (A+2))) (.slice (lits .i64 (plsI s (Ty.b s A) (Ty.b s (A+1)) (Ty.b s (A+2)) A++[(A:Int)])) [])) s (A+1)):=fun D t=>t.more h3
   have HI:Hid (∀(D:DataW Unit) (w:World) (base:Nat) (v:Value) (zs:List Int),TriTab D s A→D.atKey (triKey (Ty.b s A) (Ty.b s (A+1)) (Ty.b s (A+2))) .nil=rowDatum .i64 v zs→w.ownsInts base 3 .i64 v zs→zs=plsI s (Ty.b s A) (Ty.b s (A+1)) (Ty.b s (A+2)) A):=fun D w base v zs t h1 h2=>t.is (Ty.b_lt _ _) (Ty.b_lt _ _) (Ty.b_lt _ _) h1 h2
   have hpl:(plsI s (Ty.b s A) (Ty.b s (A+1)) (Ty.b s (A+2)) A).length≤A:=plsI_len _ _ _ _ _
   generalize plsI s (Ty.b s A) (Ty.b s (A+1)) (Ty.b s (A+2)) A=pl at*
   generalize Ty.b s A=x at*
   generalize Ty.b s (A+1)=y at*
   generalize Ty.b s (A+2)=z at*
   clear h
   go_enter Tryz.func32,Tryz.ntmps32
   go_wp2_with fail
   refine HT.out.mono ?_
   rintro e w1 ⟨rfl,bel1⟩
   have hw1:=bel1.size
   have hS1:Seen s B A w1:=HS.out.below bel1 (Nat.le_refl _)
   obtain⟨W0,hW0⟩:∃W0,W0=(w1.alloc (.cells #[.int .u8 (x:Int),.int .u8 (y:Int),.int .u8 (z:Int)] 104)).alloc (.cells #[.int .i64 (A:Int)] 3):=⟨_,rfl⟩
   have bW:Below w1.heap.size w1 W0:=by rw[hW0];exact ((Below.refl _ _).alloc (Nat.le_refl _) _).alloc (by simp) _
   have hS0:Seen s B A W0:=hS1.below bW (Nat.le_refl _)
   have hT0:Tn B w W0:=(Tn.below bel1 (by omega) (Nat.le_refl _)).trans (Tn.below bW (by omega) (Nat.le_refl _))
   have hnew:W0.heap[w1.heap.size+1]?=some (.cells #[.int .i64 (A:Int)] 3 (0,0)):=by
    rw[hW0];have:=heap_alloc_new (w1.alloc (.cells #[.int .u8 (x:Int),.int .u8 (y:Int),.int .u8 (z:Int)] 104)) (.cells #[.int .i64 (A:Int)] 3);rwa [World.size_alloc] at this
   have hsz0:W0.heap.size=w1.heap.size+2:=by rw[hW0];simp
   obtain⟨D,n,hn,hown,htab⟩:=hS0
   obtain⟨v0,st,zs,wA,hrun,hat,hoi,hzl,hgA,hvb,hmA,hback⟩:=groups_entry hown law_tri Tryz.underlying78 zero_ints (by unfold maxLen;omega) hkey
   have hzs:zs=pl:=HI.out D wA (B+1) v0 zs htab hat hoi
   have hnewA:wA.heap[w1.heap.size+1]?=some (.cells #[.int .i64 (A:Int)] 3 (0,0)):=(hgA.block _ (by omega) (by intro e;cases e;omega)).trans hnew
   have hAs:=hgA.size
   clear hkey HI HS bel1 hS1 bW
   have HBK:Hid (∀(wB:World) (v':Value) (zs':List Int),wA.grownBy wB v0.ownBlock→wB.ownsInts (B+1) 3 .i64 v' zs'→zs'.length≤n+1→(v'.ownBlock=v0.ownBlock∨∃g,v'.ownBlock=some g∧W0.heap.size≤g)→
    ∃wC,(Instr.entryStore 78 (.map (some B)) (goInt st) v').run Tryz.prog wB=.ok () wC∧wC.ownsGroups Tryz.prog 104 (B+1) 3 .i64 B (n+1) (D.put (triKey x y z) (rowDatum .i64 v' zs'))∧wB.grownBy wC (some B)):=hback
   have HTN:Hid (Tn B w W0):=hT0
   have HTM:Hid (∃es clock,W0.heap[B]?=some (.map es clock)):=by
    obtain⟨es,clock,hb,_⟩:=hown
    exact⟨es,clock,hb⟩
   have HPL:Hid (zs=pl):=hzs
   have hzb:zs.length≤A:=Nat.le_trans hzl hn
   clear hback hzs hat hpl hown hT0 hnew
   go_wp2_with (first
    | (refine wpList_entry _ rfl _ _ 78 rfl _ _ rfl rfl (.tuple #[v0,goInt st]) wA (by rw[←hW0];exact hrun) ?_)
    | (at_builtin;refine wpList_append_own_at _ rfl _ _ 30 rfl (B+1) 3 i0 (.int .i64 0) 1 8 Tryz.underlying30 hi hz0 hz1 hz2 rfl (by decide) _ _ _ rfl hoi.1 ⟨w1.heap.size+1,0,none⟩ 1 1 [.int .i64 (A:Int)] rfl rfl (World.news_of_block hnewA) (ints_oneCell .i64 [(A:Int)]) (by unfold maxLen;omega) (by omega) (by omega) ?_;intro v' wB hown' hgB hnil hloc;obtain⟨wC,hrunC,hownC,hgC⟩:=HBK.out wB v' (zs++[(A:Int)]) hgB (hoi.appended hown' (WalkArith.wf_i64 (by omega))) (by simp;omega) (hloc.imp id (fun h=>⟨_,h,by omega⟩));have hrunD:(Instr.entryStore 78 (.map (some B)) (.int .i64 (st:Int)) v').run Tryz.prog wB=.ok () wC:=hrunC)
    | fail)
   have hoiB:=hoi.appended hown' (WalkArith.wf_i64 (n:=(A:Int)) (by omega))
   have hT:Tn B w wC:=by
    obtain⟨es,clock,hm⟩:=HTM.out
    have t1:Tn B W0 wA:=Tn.grown hgA (by omega) (fun j e=>by cases e;exact⟨Nat.le_refl _,fun o ho hs=>by rw[hm] at ho;cases ho;exact hs⟩)
    have t2:Tn B wA wB:=Tn.grown hgB (by omega) (fun j e=>⟨by have:=(hoi.1.lt j e).1;omega,fun o ho=>own_stays hoi e ho⟩)
    have t3:Tn B wB wC:=Tn.grown hgC (by have:=hgB.size;omega) (fun j e=>by
     cases e
     refine⟨Nat.le_refl _,fun o ho hs=>?_⟩
     obtain⟨es2,clock2,hm2⟩:∃es2 clock2,wB.heap[B]?=some (.map es2 clock2):=by
      have hbA:wA.heap[B]?=wB.heap[B]?:=(hgB.block B (by omega) (fun e=>hvb e.symm)).symm
      rw[←hbA]
      exact hmA
     rw[hm2] at ho;cases ho;exact hs)
    exact HTN.out.trans (t1.trans (t2.trans t3))
   have hF:∀v,AddEnd s B A w (.returned v) wC:=fun v=>by
    refine⟨⟨_,rfl⟩,⟨_,n+1,by omega,hownC,?_⟩,hT⟩
    rw[hoiB.datum_pos (by simp),HPL.out]
    exact HM.out D htab
   go_end0
   exact hF _
 have HT:Hid (Calls Tryz.prog 56 #[.string s,.int .i64 (A:Int)] w (ThreeEnd (.agg #[.int .u8 0,.int .u8 0,.int .u8 0]) false w)):=threeAt_no s A w hs (by omega) h3
 have HF:Hid (∀w',Below w.heap.size w w'→∀v,AddEnd s B A w (.returned v) w'):=fun w' hb v=>by
  obtain⟨D,n,hn,h1,h2⟩:=h.below hb (Nat.le_refl _)
  exact⟨⟨_,rfl⟩,⟨D,n,by omega,h1,h2.none h3⟩,Tn.below hb (by omega) (Nat.le_refl _)⟩
 clear h
 go_enter Tryz.func32,Tryz.ntmps32
 go_wp2_with fail
 refine HT.out.mono ?_
 rintro e w1 ⟨rfl,bel1⟩
 go_wp2_with fail
 go_end0
 exact HF.out _ (bel1.trans (((Below.refl _ _).alloc (Nat.le_refl _) _).mono bel1.size)) _
end Go.Proofs.YtejebodgfoihkaaGreat
namespace Go.Proofs.YtejebodgfoihkaaGreat
open Go.RowKit

set_option maxHeartbeats 2000000 in
set_option maxRecDepth 20000 in
theorem alike_is (s:ByteArray) (a c:Nat) (w:World) (hs:s.size≤9001) (hab:a≤c) (hb:c≤s.size):
 Calls Tryz.prog 58 #[.string s,.int .i64 (a:Int),.int .i64 (c:Int)] w fun e w'=>e=.returned (.int .i64 ((Ty.mat s a c 258:Nat):Int))∧∃q,w'=w.drewN q:=by
 go_enter Tryz.func58,Tryz.ntmps58
 go_wp2_with fail
 go_loopw [7] (fun i wr=>∃n q:Nat,n≤258∧c+n≤s.size∧i=.int .i64 (n:Int)∧Hid (Ty.mat s a c 258=n+Ty.mat s (a+n) (c+n) (258-n))∧Hid (wr=w.drewN q)) (fun i _=>258-(intOf i).toNat)
 case atStart=>exact⟨0,0,by omega,by omega,rfl,by show _=_;simp,rfl⟩
 case round=>
  obtain⟨n,q,hn,hbn,rfl,HM,HW⟩:=hrel
  by_cases h1:n<258
  · have d1:decide ((n:Int)<258)=true:=decide_eq_true (by omega)
    obtain⟨B,hB⟩:∃B,B=c+n:=⟨_,rfl⟩
    have eB:(c:Int)+(n:Int)=(B:Int):=by omega
    have fB:=wrap_i64_nat B (by omega)
    obtain⟨A,hA⟩:∃A,A=a+n:=⟨_,rfl⟩
    have eA:(a:Int)+(n:Int)=(A:Int):=by omega
    have fA:=wrap_i64_nat A (by omega)
    by_cases h2:B<s.size
    · have d2:decide ((B:Int)<(s.size:Int))=true:=decide_eq_true (by omega)
      have hA2:A<s.size:=by omega
      have hAi:(A:Int)<(s.size:Int):=by omega
      have hBi:(B:Int)<(s.size:Int):=by omega
      have hBn:c+(n+1)≤s.size:=by omega
      by_cases h3:(s[A]).toNat=(s[B]).toNat
      · have HM2:Hid (Ty.mat s a c 258=(n+1)+Ty.mat s (a+(n+1)) (c+(n+1)) (258-(n+1))):=by
         show _=_
         rw[HM.out,show 258-n=(258-(n+1))+1 by omega,Ty.mat_yes (by omega) (by rw[←hA,←hB,Ty.b_at hA2,Ty.b_at h2,h3]),show a+n+1=a+(n+1) by omega,show c+n+1=c+(n+1) by omega]
         omega
        have d3:(((s[A]).toNat:Int)==((s[B]).toNat:Int))=true:=by rw[beq_iff_eq];omega
        clear h3 hB hA HM
        go_wp2_with fail
        go_quiet (fail)
        go_wp2_with fail
        go_roundw
        case rel=>exact⟨n+1,q+nq,by omega,hBn,by go_num,HM2,by show _=_;rw[HW.out,World.drewN_drewN]⟩
        case measure=>simp[intOf];omega
      have HM2:Hid (Ty.mat s a c 258=n):=by
       show _=_
       rw[HM.out,Ty.mat_no (by rw[←hA,←hB,Ty.b_at hA2,Ty.b_at h2];exact fun h=>h3 h.2)];rfl
      have d3:(((s[A]).toNat:Int)==((s[B]).toNat:Int))=false:=by rw[beq_eq_false_iff_ne];omega
      clear h3 hB hA HM
      go_wp2_with fail
      go_quiet (fail)
      go_wp2_with fail
      go_ret
      exact⟨by rw[HM2.out];rfl,q+nq,by rw[HW.out,World.drewN_drewN]⟩
    have d2:decide ((B:Int)<(s.size:Int))=false:=decide_eq_false (by omega)
    have HM2:Hid (Ty.mat s a c 258=n):=by
     show _=_
     rw[HM.out,Ty.mat_no (by rw[←hB];exact fun h=>h2 h.1)];rfl
    clear hB hA HM
    go_wp2_with fail
    go_quiet (fail)
    go_wp2_with fail
    go_ret
    exact⟨by rw[HM2.out];rfl,q+nq,by rw[HW.out,World.drewN_drewN]⟩
  have d1:decide ((n:Int)<258)=false:=decide_eq_false (by omega)
  have HM2:Hid (Ty.mat s a c 258=n):=by
   show _=_
   rw[HM.out,show 258-n=0 by omega];rfl
  clear HM
  go_wp2_with fail
  go_quiet (fail)
  go_wp2_with fail
  go_ret
  exact⟨by rw[HM2.out];rfl,q+nq,by rw[HW.out,World.drewN_drewN]⟩

theorem ty_setRow_setRow (w:World) (g:Nat) (a b:Array Value):(w.setRow g a).setRow g b=w.setRow g b:=by
 unfold World.setRow
 simp only
 congr 1
 apply Array.ext_getElem?
 intro i
 rw[Array.getElem?_modify,Array.getElem?_modify,Array.getElem?_modify]
 by_cases e:g=i
 · subst e
   simp only[if_true]
   cases w.heap[g]? with
   | none=>rfl
   | some o=>cases o<;>rfl
 simp[e]
theorem ty_setRow_setCell {w:World} {g:Nat} {cur:Array Value} {t:TypeId} (h:w.heap[g]?=some (.cells cur t (0,0))) (a:Array Value) (i:Nat) (v:Value):(w.setRow g a).setCell ⟨g,i,none⟩ v=w.setRow g (a.setIfInBounds i v):=by
 rw[setCell_eq_setRow (w.setRow g a) g i a t (0,0) v (setRow_heap w g cur a t (0,0) h),ty_setRow_setRow]
theorem three_row {w:World} {g:Nat} {t:TypeId} {a0 a1 a2:Value} (h:w.heap[g]?=some (.cells #[a0,a1,a2] t (0,0))) (v0 v1 v2:Value):
 ((w.setCell ⟨g,0,none⟩ v0).setCell ⟨g,1,none⟩ v1).setCell ⟨g,2,none⟩ v2=w.setRow g #[v0,v1,v2]:=by
 rw[setCell_eq_setRow w g 0 _ t (0,0) v0 h,ty_setRow_setCell h,ty_setRow_setCell h]
 rfl
theorem box3 {w:World} {B:Nat} {v0 v1 v2:Value} {T:TypeId} (h:w.heap[B]?=some (.cells #[v0,v1,v2] T (0,0))):
 (w.cell? ⟨B,0,none⟩=some v0∧w.cell? ⟨B,1,none⟩=some v1∧w.cell? ⟨B,2,none⟩=some v2)∧(w.frozen? ⟨B,0,none⟩=false∧w.frozen? ⟨B,1,none⟩=false∧w.frozen? ⟨B,2,none⟩=false):=by
 refine⟨⟨?_,?_,?_⟩,?_,?_,?_⟩<;>simp[World.cell?,World.frozen?,h]
theorem ty_below_setRow {B g:Nat} {w0 w:World} (hb:Below B w0 w) (hBg:B≤g) {cur:Array Value} {t:TypeId} (h:w.heap[g]?=some (.cells cur t (0,0))) (cs:Array Value):Below B w0 (w.setRow g cs):=by
 refine hb.grown (row:=some g) ⟨rfl,rfl,rfl,by simp[World.setRow],fun k _ hk=>setRow_other _ _ _ _ (fun e=>hk (by rw[e]))⟩ ?_ (fun k e=>by cases e;exact hBg)
 have:=(Array.getElem?_eq_some_iff.1 h).1
 omega
end Go.Proofs.YtejebodgfoihkaaGreat
namespace Go.Proofs.YtejebodgfoihkaaGreat
open Go.RowKit Go.Shelf Go.Maps

attribute [local go_sem] Oper.semAt_some

def tkV (p:Tk):Value:=.agg #[.int .i64 p.1,.int .i64 p.2.1,.int .i64 p.2.2]
def bestOf (s:ByteArray) (A:Nat) (pre:List (BkS A)):Nat×Nat:=(pre.map (fun x=>x.1.2)).foldl (Ty.upd s A) (0,0)
theorem bestOf_snoc (s:ByteArray) (A:Nat) (pre:List (BkS A)) (x:BkS A):bestOf s A (pre++[x])=Ty.upd s A (bestOf s A pre) x.1.2:=by unfold bestOf;rw[List.map_append,List.foldl_append];rfl
def TokEnd (s:ByteArray) (A:Nat) (w:World) (e:Ending) (w':World):Prop:=e=.returned (tkV (Ty.tok s A))∧Below w.heap.size w w'

set_option maxRecDepth 100000 in
set_option maxHeartbeats 4000000 in
theorem token_no (s:ByteArray) (B A:Nat) (w:World) (hs:s.size≤9001) (hA:A<s.size) (h3:¬A+3≤s.size):
 Calls Tryz.prog 31 #[.map (some B),.string s,.int .i64 (A:Int)] w (TokEnd s A w):=by
 have hro:Fence.wide.round=none:=rfl
 have HT:Hid (∀w,Calls Tryz.prog 56 #[.string s,.int .i64 (A:Int)] w (ThreeEnd (.agg #[.int .u8 0,.int .u8 0,.int .u8 0]) false w)):=fun w=>threeAt_no s A w hs (by omega) h3
 have hAi:(A:Int)<(s.size:Int):=by omega
 have hT:Ty.tok s A=((s[A].toNat:Int),0,0):=by
  unfold Ty.tok
  rw[if_neg (Ty.bst_short h3 A (Nat.le_refl _) (by omega)),Ty.b_at hA]
 obtain⟨c,hc⟩:∃c:Nat,s[A].toNat=c:=⟨_,rfl⟩
 have hcb:c<256:=by rw[←hc];exact UInt8.toNat_lt _
 have HF:Hid (∀w',Below w.heap.size w w'→TokEnd s A w (.returned (.agg #[.int .i64 (c:Int),.int .i64 0,.int .i64 0])) w'):=fun w' hb=>by
  rw[hc] at hT
  exact⟨by rw[hT];rfl,hb⟩
 clear hT
 refine (callsIn_wide (n:=3)).1 (callsIn_of_wp_marks Tryz.func31 rfl trivial ?_ hro)
 simp only[Tryz.ntmps31,List.size_toArray,List.length_cons,List.length_nil,Nat.reduceAdd,Nat.reduceSub,Array.replicate_succ,Array.replicate_zero,List.push_toArray,List.append_toArray,List.nil_append,List.cons_append]
 gi_wp2
 refine⟨trivial,?_⟩
 gi_wp2
 refine (callsIn_wide.2 (HT.out _)).mono ?_
 rintro e w1 ⟨rfl,b1⟩
 have hs1:w.heap.size+3≤w1.heap.size:=Nat.le_trans (by simp) b1.size
 obtain⟨w2,hw2⟩:∃w2,w2=w1.alloc (.cells #[.int .u8 0,.int .u8 0,.int .u8 0] 104):=⟨_,rfl⟩
 have b2:Below (w.heap.size+3) (((w.alloc (.cells #[.string s] 9)).alloc (.cells #[.int .i64 (A:Int)] 3)).alloc (.cells #[.int .i64 0,.int .i64 0,.int .i64 0] 53)) w2:=by rw[hw2];exact (b1.mono (by simp)).alloc hs1 _
 have ct:w2.cell? ⟨w.heap.size,0,none⟩=some (.string s):=(b2.cell (p:=⟨w.heap.size,0,none⟩) (by show w.heap.size<_;omega)).trans (by simp[go_sem])
 have ca:w2.cell? ⟨w.heap.size+1,0,none⟩=some (.int .i64 (A:Int)):=(b2.cell (p:=⟨w.heap.size+1,0,none⟩) (by show w.heap.size+1<_;omega)).trans (by simp[go_sem])
 have hr:w2.heap[w.heap.size+2]?=some (.cells #[.int .i64 0,.int .i64 0,.int .i64 0] 53 (0,0)):=(b2.block _ (by omega)).trans (by
  have:=heap_alloc_new ((w.alloc (.cells #[.string s] 9)).alloc (.cells #[.int .i64 (A:Int)] 3)) (.cells #[.int .i64 0,.int .i64 0,.int .i64 0] 53);simpa [World.size_alloc] using this)
 have bb2:Below w.heap.size w w2:=((((Below.refl _ w).alloc (Nat.le_refl _) _).alloc (by simp) _).alloc (by simp;omega) _).trans (b2.mono (by omega))
 have hr3:w2.heap[w.heap.size+1+1]?=some (.cells #[.int .i64 0,.int .i64 0,.int .i64 0] 53 (0,0)):=hr
 obtain⟨⟨r0,r1,r2⟩,f0,f1,f2⟩:=box3 hr3
 have hR:=three_row hr3 (.int .i64 (c:Int)) (.int .i64 0) (.int .i64 0)
 have HB:Hid (Below w.heap.size w (w2.setRow (w.heap.size+1+1) #[.int .i64 (c:Int),.int .i64 0,.int .i64 0])):=ty_below_setRow bb2 (by omega) hr3 _
 have hq:=setRow_heap _ _ _ #[.int .i64 (c:Int),.int .i64 0,.int .i64 0] _ _ hr3
 rw[hw2] at ct ca r0 r1 r2 f0 f1 f2
 clear hr3 hr b2 b1 bb2
 gi_wp2
 rw[←hw2,hR]
 exact⟨_,by simp[results,Tryz.results31,go_sem,World.cell?,hq],HF.out _ HB.out⟩
end Go.Proofs.YtejebodgfoihkaaGreat
namespace Go.Proofs.YtejebodgfoihkaaGreat
open Go.RowKit

theorem cellsOf_set:∀(l:List (Int×Int)) (k:Nat) (v s:Int),k<l.length→((cellsOf l).set (k*2) (.int .i64 v)).set (k*2+1) (.int .i64 s)=cellsOf (l.set k (v,s))
 | [],k,v,s,h=>by simp at h
 | p::l,0,v,s,h=>by simp[cellsOf]
 | p::l,k+1,v,s,h=>by
  have:=cellsOf_set l k v s (by simpa using h)
  rw[show (k+1)*2=k*2+1+1 by omega]
  simp only[cellsOf,List.set_cons_succ]
  rw[this]

theorem OwnP.put {w:World} {B n g cap k:Nat} {l:List (Int×Int)} (h:OwnP w B (.slice (some ⟨g,0,none⟩) n cap) n l) (hk:k<n) (v s:Int):
 OwnP ((w.setCell ⟨g,k*2,none⟩ (.int .i64 v)).setCell ⟨g,k*2+1,none⟩ (.int .i64 s)) B (.slice (some ⟨g,0,none⟩) n cap) n (l.set k (v,s)):=by
 have h1:=(World.ownsRow.stored h (k*2) (.int .i64 v)).1
 have h2:=(World.ownsRow.stored h1 (k*2+1) (.int .i64 s)).1
 rw[cellsOf_set l k v s (by rw[h.len];exact hk)] at h2
 exact h2

def half (l:List (Int×Int)) (k:Nat):List (Int×Int):=l.take k++List.replicate (l.length-k) (0,0)
theorem half_zero (l:List (Int×Int)):half l 0=List.replicate l.length (0,0):=by simp[half]
theorem half_all (l:List (Int×Int)):half l l.length=l:=by simp[half]
theorem half_set (l:List (Int×Int)) (k:Nat) (h:k<l.length):(half l k).set k ((l[k]).1,(l[k]).2)=half l (k+1):=by
 unfold half
 rw[List.take_succ_eq_append_getElem h,show l.length-k=(l.length-(k+1))+1 by omega,List.replicate_succ,List.append_assoc]
 have e:(l.take k).length=k:=by rw[List.length_take];omega
 rw[List.set_append_right _ _ (by omega),e,Nat.sub_self]
 rfl
theorem half_get (l:List (Int×Int)) (k:Nat) (h:k<l.length):k<(half l k).length:=by
 unfold half;simp;omega

theorem cells_zero:∀n,cellsOf (List.replicate n (0,0))=List.replicate (n*2) (.int .i64 0)
 | 0=>rfl
 | n+1=>by rw[List.replicate_succ,cellsOf,cells_zero n,show (n+1)*2=n*2+1+1 by omega,List.replicate_succ,List.replicate_succ]

theorem made_zero (n:Nat):(madeCells #[Value.int .i64 0,.int .i64 0] (n*2)).toList=List.replicate (n*2) (.int .i64 0):=by
 apply List.ext_getElem?
 intro j
 by_cases hj:j<n*2
 · simp only[madeCells,List.getElem?_replicate,if_pos hj]
   have:j%2=0∨j%2=1:=by omega
   rcases this with h|h<;>simp[hj,h]
 rw[List.getElem?_eq_none (by simp[size_madeCells];omega),List.getElem?_eq_none (by simp;omega)]

theorem make_pairs (n:Nat) (hl:n≤2000000) (w:World):
 (Instr.makeSlice 39 (.int .i64 (n:Int)) (.int .i64 (n:Int))).run Tryz.prog w=.ok (.slice (some ⟨w.heap.size,0,none⟩) n n) (w.alloc (.cells (madeCells #[.int .i64 0,.int .i64 0] (n*2)) 38)):=by
 obtain⟨i0,hi,hz0,hz1,hz2⟩:=info_parts info_bit
 have h:=run_make (P:=Tryz.prog) w 39 38 i0 (.agg #[.int .i64 0,.int .i64 0]) Tryz.underlying39 hi hz0 .i64 .i64 (n:Int) (n:Int) (by omega) (by omega) (by rw[hz2];omega) (by omega)
 rw[h,Int.toNat_natCast,hz1]
 rfl

theorem own_made (w:World) (l:List (Int×Int)) (hl:l.length≤2000000):OwnP (w.alloc (.cells (madeCells #[.int .i64 0,.int .i64 0] (l.length*2)) 38)) w.heap.size (.slice (some ⟨w.heap.size,0,none⟩) l.length l.length) l.length (half l 0):=by
 unfold OwnP
 rw[half_zero,cells_zero,←made_zero]
 exact World.ownsRow_lit w _ l.length (Nat.le_refl _) (by unfold maxLen;omega) (by rw[size_madeCells])


theorem Turned.cell {b c:Nat} {w w':World} (h:Turned b w w') (hne:c≠b) (o:Nat):w'.cell? ⟨c,o,none⟩=w.cell? ⟨c,o,none⟩:=World.cell?_of_block (w:=w) (a:=⟨c,o,none⟩) (h.rest c hne)
theorem OwnP.kept {w w':World} {B n:Nat} {v:Value} {l:List (Int×Int)} (h:OwnP w B v n l) (hb:Below w.heap.size w w'):OwnP w' B v n l:=h.same (fun k hk _=>hb.block k hk)

set_option maxHeartbeats 2000000 in
set_option maxRecDepth 20000 in
theorem codeBits_any (a:Option Addr) (n cap:Nat) (ls:List Int) (w:World) (h:Ints w a ls) (hn:ls.length=n) (hl:n≤300) (hok:Cd.okB ls=true):
 Calls Tryz.prog 28 #[.slice a n cap] w fun e w'=>e=.returned (.slice (some ⟨w.heap.size,0,none⟩) n n)∧OwnP w' w.heap.size (.slice (some ⟨w.heap.size,0,none⟩) n n) n (Cp.all ls)∧Below w.heap.size w w':=by
 have hmk:=fun w=>make_pairs n (by omega) w
 obtain⟨W1,hW1⟩:∃W1,W1=w.alloc (.cells (madeCells #[.int .i64 0,.int .i64 0] (n*2)) 38):=⟨_,rfl⟩
 have hown:=own_made w (Cp.all ls) (by rw[Cp.all_len];omega)
 rw[Cp.all_len,hn,←hW1] at hown
 have b1:Below w.heap.size w W1:=by rw[hW1];exact (Below.refl _ _).alloc (Nat.le_refl _) _
 have hs1:W1.heap.size=w.heap.size+1:=by rw[hW1];simp
 have hI1:=h.kept b1
 have HCM:=impl_codeMake a cap n ls W1 hI1 hn (by omega)
 rw[mkB_yes hok,Mk.mk_len,hn] at HCM
 have HC:Hid (Calls Tryz.prog 51 #[.slice a n cap] W1 fun e w'=>(∃x c,e=.returned (.slice x n c)∧Owns w' W1.heap.size x (Mk.mk ls))∧Below W1.heap.size W1 w'):=HCM
 rw[hW1] at HC
 have HW1:Hid (W1=w.alloc (.cells (madeCells #[.int .i64 0,.int .i64 0] (n*2)) 38)):=hW1
 have HF:Hid (OwnP W1 w.heap.size (.slice (some ⟨w.heap.size,0,none⟩) n n) n (half (Cp.all ls) 0)∧Below w.heap.size w W1∧W1.heap.size=w.heap.size+1):=⟨hown,b1,hs1⟩
 have HL:Hid (Ints w a ls∧ls.length=n∧Cd.okB ls=true):=⟨h,hn,hok⟩
 clear HCM hown b1 hs1 hI1 h hn hok hW1
 go_enter Tryz.func28,Tryz.ntmps28
 go_wp2_with fail
 refine HC.out.mono ?_
 rintro e w2 ⟨⟨x,c,rfl,hO2⟩,b2⟩
 rw[←HW1.out] at hO2 b2
 obtain⟨f1,f2,f3⟩:=HF.out
 have hI2:Hid (Ints w2 a ls):=(HL.out.1.kept f2).kept b2
 have hX2:Hid (Owns w2 (w.heap.size+1) x (Mk.mk ls)):=by show Owns _ _ _ _;rw[←f3];exact hO2
 have hP2:Hid (OwnP w2 w.heap.size (.slice (some ⟨w.heap.size,0,none⟩) n n) n (half (Cp.all ls) 0)):=f1.kept b2
 have hB2:Hid (Below w.heap.size w w2):=f2.trans (b2.mono f2.size)
 have ha0:Hid (∀y,a=some y→ls≠[]→y.block<w.heap.size):=by
  intro y hy hne
  rcases HL.out.1 with g|⟨b,off,e,hb,_⟩
  · exact absurd g hne
  rw[e] at hy;cases hy;exact hb
 clear f1 f2 f3 hO2 b2 HC HF HW1 hmk
 go_wp2_with fail
 go_loopw [13] (fun i wr=>∃k:Nat,k≤n∧i=.int .i64 k∧OwnP wr w.heap.size (.slice (some ⟨w.heap.size,0,none⟩) n n) n (half (Cp.all ls) k)∧Turned w.heap.size w2 wr) (fun i _=>n-(intOf i).toNat)
 case atStart=>exact⟨0,Nat.zero_le _,rfl,hP2.out,Turned.refl _ _⟩
 case round=>
  obtain⟨k,hk,rfl,hP,hT⟩:=hrel
  by_cases hlt:k<n
  · have hkl:k<ls.length:=by have:=HL.out.2.1;omega
    obtain⟨V,S,hV,hS,hVb,hSb⟩:=Cp.parts HL.out.2.2 k hkl
    have hbit:=Cp.bit_of hV hS
    have hka:k<(Cp.all ls).length:=by rw[Cp.all_len];exact hkl
    have hkm:k<(Mk.mk ls).length:=by rw[Mk.mk_len];exact hkl
    have hne:ls≠[]:=by intro g;rw[g] at hkl;simp at hkl
    obtain⟨b1,o1,e1,hb1,c1⟩:=(hI2.out).at hkl
    have hlt1:=ha0.out _ e1 hne
    rcases hX2.out with g|⟨b2,e2,hlo2,hb2,hc2⟩
    · rw[g] at hkm;simp at hkm
    subst e1
    subst e2
    have c2:=(hc2 k hkm).1
    have d1:wr.cell? ⟨b1,o1+k,none⟩=some (.int .i64 (S:Int)):=by
     rw[hT.cell (by show b1≠w.heap.size;have:b1<w.heap.size:=hlt1;omega) (o1+k),c1,←hS,List.getD_eq_getElem?_getD,List.getElem?_eq_getElem hkl];rfl
    have d2:wr.cell? ⟨b2,k,none⟩=some (.int .i64 (V:Int)):=by
     rw[hT.cell (by omega) k,c2,←hV,List.getD_eq_getElem?_getD,List.getElem?_eq_getElem hkm];rfl
    have hput:=hP.put (k:=k) hlt ((turned V S:Nat):Int) (S:Int)
    have hset:=half_set (Cp.all ls) k hka
    rw[Cp.all_get,hbit] at hset
    rw[hset] at hput
    have hTT:=(hT.set (k*2) (.int .i64 ((turned V S:Nat):Int))).set (k*2+1) (.int .i64 (S:Int))
    have g0:(wr.cell? ⟨w.heap.size,k*2,none⟩).isSome=true:=by
     rw[World.ownsRow.cellAt hP (k*2) (by omega)]
     have:=(cellsOf_get (half (Cp.all ls) k) k (half_get _ _ hka)).1
     rw[this];rfl
    have g1:(wr.cell? ⟨w.heap.size,k*2+1,none⟩).isSome=true:=by
     rw[World.ownsRow.cellAt hP (k*2+1) (by omega)]
     have:=(cellsOf_get (half (Cp.all ls) k) k (half_get _ _ hka)).2
     rw[this];rfl
    obtain⟨u0,hu0⟩:=Option.isSome_iff_exists.1 g0
    obtain⟨u1,hu1⟩:=Option.isSome_iff_exists.1 g1
    have z0:=World.ownsRow.frozenAt hP (k*2)
    have z1:=World.ownsRow.frozenAt hP (k*2+1)
    have HT:Hid (∀w:World,Calls Tryz.prog 52 #[.int .i64 (V:Int),.int .i64 (S:Int)] w fun e w'=>e=.returned (.int .i64 (turned V S:Nat))∧w'=w):=fun w=>turnRound_any V S w (by omega) hSb
    have HN:Hid (OwnP _ w.heap.size (.slice (some ⟨w.heap.size,0,none⟩) n n) n (half (Cp.all ls) (k+1))∧Turned w.heap.size w2 _):=⟨hput,hTT⟩
    have hki:(k:Int)<(n:Int):=by omega
    generalize turned V S=T at*
    clear hP hT hput hTT hset hbit hV hS c1 c2 hc2 g0 g1 hb1 hb2 hka hkm
    go_wp2_with fail
    refine (HT.out _).mono ?_
    rintro e w4 ⟨rfl,hw4⟩
    have hv4:=hw4.symm
    subst hv4
    go_wp2_with fail
    go_roundw
    case rel=>exact⟨k+1,by omega,by go_num,HN.out.1,HN.out.2⟩
    case measure=>simp[intOf];omega
  have hk':k=n:=by omega
  subst hk'
  have hall:half (Cp.all ls) k=Cp.all ls:=by
   have:=half_all (Cp.all ls)
   rw[Cp.all_len,HL.out.2.1] at this;exact this
  rw[hall] at hP
  have HE:Hid (OwnP _ _ _ _ _∧Below w.heap.size w _):=⟨hP,hB2.out.trans (hT.below (Nat.le_refl _))⟩
  clear hP hT hall
  go_wp2_with fail
  go_ret
  exact⟨rfl,HE.out.1,HE.out.2⟩

set_option maxHeartbeats 2000000 in
set_option maxRecDepth 20000 in
theorem l4Same_any (n:Int) (N:Nat) (hN:N≤300) (w:World):
 Calls Tryz.prog 46 #[.int .i64 n,.int .i64 (N:Int)] w fun e w'=>(∃a c,e=.returned (.slice a N c)∧OwnI w' w.heap.size (.slice a N c) N (List.replicate N n))∧Below w.heap.size w w':=by
 obtain⟨base,hbase⟩:∃base,base=w.heap.size:=⟨_,rfl⟩
 have HO0:Hid (OwnI (w.alloc (.cells #[] 3)) base (.slice (some ⟨base,0,none⟩) 0 0) 0 (List.replicate 0 n)∧Below base w (w.alloc (.cells #[] 3))):=by
  rw[hbase];exact⟨ownI_none w,(Below.refl _ _).alloc (Nat.le_refl _) _⟩
 have HB:Hid (base=w.heap.size):=hbase
 go_enter Tryz.func46,Tryz.ntmps46
 go_wp2_with fail
 rw[←hbase]
 clear hbase
 go_loopw [5,6] (fun o i wr=>∃(k:Nat) (ao:Option Addr) (cap:Nat),k≤N∧i=.int .i64 (k:Int)∧o=.slice ao k cap∧Hid (OwnI wr base (.slice ao k cap) k (List.replicate k n)∧Below base w wr)) (fun _ i _=>N-(intOf i).toNat)
 case atStart=>exact⟨0,_,_,Nat.zero_le _,rfl,rfl,HO0⟩
 case round=>
  obtain⟨k,ao,cap,hk,rfl,rfl,HR⟩:=hrel
  clear HO0
  by_cases hlt:k<N
  · have hki:(k:Int)<(N:Int):=by omega
    have hbw:base≤wr.heap.size:=by rw[HB.out];exact HR.out.2.size
    go_wp2_with (at_builtin;refine wpList_app1 wr (by rfl) _ _ (by rfl) base _ k (List.replicate k n) n (by rfl) HR.out.1 (by rfl) (by omega) hbw ?_)
    intro g7 cap7 w7 hown7 hg7
    have HF:Hid (OwnI w7 base (.slice (some ⟨g7,0,none⟩) (k+1) cap7) (k+1) (List.replicate (k+1) n)∧Below base w w7):=⟨by rw[List.replicate_succ'];exact hown7,hg7.below HR.out.2 (Nat.le_refl _) hbw⟩
    clear hown7 hg7 HR
    go_wp2_with fail
    go_roundw
    case rel=>exact⟨k+1,_,_,by omega,by go_num,rfl,HF⟩
    case measure=>simp[intOf];omega
  have hki:¬(k:Int)<(N:Int):=by omega
  have hkN:k=N:=by omega
  subst hkN
  have HE:Hid (OwnI wr w.heap.size (.slice ao k cap) k (List.replicate k n)∧Below w.heap.size w wr):=by have h:=HR.out;rw[HB.out] at h;exact h
  clear HR
  go_wp2_with fail
  go_ret
  exact⟨⟨_,_,rfl,HE.out.1⟩,HE.out.2⟩
theorem fixS_take {k:Nat} (hk:k<288):Df.fixS.take (k+1)=Df.fixS.take k++[if k<144 then 8 else if k<256 then 9 else if k<280 then 7 else 8]:=by
 rw[List.take_succ_eq_append_getElem (by rw[Df.fixS_len];exact hk)]
 congr 2
 unfold Df.fixS
 rw[List.getElem_map,List.getElem_range]
set_option maxHeartbeats 4000000 in
set_option maxRecDepth 20000 in
theorem l4Fixed_any (w:World):
 Calls Tryz.prog 45 #[] w fun e w'=>(∃a c,e=.returned (.slice a 288 c)∧OwnI w' w.heap.size (.slice a 288 c) 288 Df.fixS)∧Below w.heap.size w w':=by
 obtain⟨base,hbase⟩:∃base,base=w.heap.size:=⟨_,rfl⟩
 have HO0:Hid (OwnI (w.alloc (.cells #[] 3)) base (.slice (some ⟨base,0,none⟩) 0 0) 0 (Df.fixS.take 0)∧Below base w (w.alloc (.cells #[] 3))):=by
  rw[hbase];exact⟨ownI_none w,(Below.refl _ _).alloc (Nat.le_refl _) _⟩
 have HB:Hid (base=w.heap.size):=hbase
 go_enter Tryz.func45,Tryz.ntmps45
 go_wp2_with fail
 rw[←hbase]
 clear hbase
 go_loopw [1,2] (fun o i wr=>∃(k:Nat) (ao:Option Addr) (cap:Nat),k≤288∧i=.int .i64 (k:Int)∧o=.slice ao k cap∧Hid (OwnI wr base (.slice ao k cap) k (Df.fixS.take k)∧Below base w wr)) (fun _ i _=>288-(intOf i).toNat)
 case atStart=>exact⟨0,_,_,Nat.zero_le _,rfl,rfl,HO0⟩
 case round=>
  obtain⟨k,ao,cap,hk,rfl,rfl,HR⟩:=hrel
  clear HO0
  by_cases hlt:k<288
  · have hki:(k:Int)<288:=by omega
    have hbw:base≤wr.heap.size:=by rw[HB.out];exact HR.out.2.size
    have HT:=fixS_take hlt
    by_cases h1:k<144
    · have h1i:(k:Int)<144:=by omega
      rw[if_pos h1] at HT
      have HTH:Hid (Df.fixS.take (k+1)=Df.fixS.take k++[8]):=HT
      clear HT
      go_wp2_with (at_builtin;refine wpList_app1 wr (by rfl) _ _ (by rfl) base _ k (Df.fixS.take k) 8 (by rfl) HR.out.1 (by rfl) (by omega) hbw ?_)
      intro g7 cap7 w7 hown7 hg7
      have HF:Hid (OwnI w7 base (.slice (some ⟨g7,0,none⟩) (k+1) cap7) (k+1) (Df.fixS.take (k+1))∧Below base w w7):=⟨by rw[HTH.out];exact hown7,hg7.below HR.out.2 (Nat.le_refl _) hbw⟩
      clear hown7 hg7 HR HTH
      go_wp2_with fail
      go_roundw
      case rel=>exact⟨k+1,_,_,by omega,by go_num,rfl,HF⟩
      case measure=>simp[intOf];omega
    have h1i:¬(k:Int)<144:=by omega
    rw[if_neg h1] at HT
    by_cases h2:k<256
    · have h2i:(k:Int)<256:=by omega
      rw[if_pos h2] at HT
      have HTH:Hid (Df.fixS.take (k+1)=Df.fixS.take k++[9]):=HT
      clear HT
      go_wp2_with (at_builtin;refine wpList_app1 wr (by rfl) _ _ (by rfl) base _ k (Df.fixS.take k) 9 (by rfl) HR.out.1 (by rfl) (by omega) hbw ?_)
      intro g7 cap7 w7 hown7 hg7
      have HF:Hid (OwnI w7 base (.slice (some ⟨g7,0,none⟩) (k+1) cap7) (k+1) (Df.fixS.take (k+1))∧Below base w w7):=⟨by rw[HTH.out];exact hown7,hg7.below HR.out.2 (Nat.le_refl _) hbw⟩
      clear hown7 hg7 HR HTH
      go_wp2_with fail
      go_roundw
      case rel=>exact⟨k+1,_,_,by omega,by go_num,rfl,HF⟩
      case measure=>simp[intOf];omega
    have h2i:¬(k:Int)<256:=by omega
    rw[if_neg h2] at HT
    by_cases h3:k<280
    · have h3i:(k:Int)<280:=by omega
      rw[if_pos h3] at HT
      have HTH:Hid (Df.fixS.take (k+1)=Df.fixS.take k++[7]):=HT
      clear HT
      go_wp2_with (at_builtin;refine wpList_app1 wr (by rfl) _ _ (by rfl) base _ k (Df.fixS.take k) 7 (by rfl) HR.out.1 (by rfl) (by omega) hbw ?_)
      intro g7 cap7 w7 hown7 hg7
      have HF:Hid (OwnI w7 base (.slice (some ⟨g7,0,none⟩) (k+1) cap7) (k+1) (Df.fixS.take (k+1))∧Below base w w7):=⟨by rw[HTH.out];exact hown7,hg7.below HR.out.2 (Nat.le_refl _) hbw⟩
      clear hown7 hg7 HR HTH
      go_wp2_with fail
      go_roundw
      case rel=>exact⟨k+1,_,_,by omega,by go_num,rfl,HF⟩
      case measure=>simp[intOf];omega
    have h3i:¬(k:Int)<280:=by omega
    rw[if_neg h3] at HT
    have HTH:Hid (Df.fixS.take (k+1)=Df.fixS.take k++[8]):=HT
    clear HT
    go_wp2_with (at_builtin;refine wpList_app1 wr (by rfl) _ _ (by rfl) base _ k (Df.fixS.take k) 8 (by rfl) HR.out.1 (by rfl) (by omega) hbw ?_)
    intro g7 cap7 w7 hown7 hg7
    have HF:Hid (OwnI w7 base (.slice (some ⟨g7,0,none⟩) (k+1) cap7) (k+1) (Df.fixS.take (k+1))∧Below base w w7):=⟨by rw[HTH.out];exact hown7,hg7.below HR.out.2 (Nat.le_refl _) hbw⟩
    clear hown7 hg7 HR HTH
    go_wp2_with fail
    go_roundw
    case rel=>exact⟨k+1,_,_,by omega,by go_num,rfl,HF⟩
    case measure=>simp[intOf];omega
  have hki:¬(k:Int)<288:=by omega
  have hkN:k=288:=by omega
  subst hkN
  have HE:Hid (OwnI wr w.heap.size (.slice ao 288 cap) 288 Df.fixS∧Below w.heap.size w wr):=by
   have h:=HR.out
   rw[HB.out,List.take_of_length_le (by rw[Df.fixS_len];exact Nat.le_refl _)] at h
   exact h
  clear HR
  go_wp2_with fail
  go_ret
  exact⟨⟨_,_,rfl,HE.out.1⟩,HE.out.2⟩

theorem info_u8:(Tryz.prog.info? 5).map (fun i=>(i.zero,i.size,i.bytes))=some (some (.int .u8 0),1,1):=by kernel_rfl

def bytesV (o:List Nat):List Value:=o.map fun x:Nat=>Value.int .u8 (x:Int)
theorem bytesV_len (o:List Nat):(bytesV o).length=o.length:=by simp[bytesV]
theorem bytesV_get (o:List Nat) (j:Nat) (h:j<o.length):(bytesV o)[j]?=some (.int .u8 ((o.getD j 0:Nat):Int)):=by
 simp[bytesV,h]
theorem bytesV_set (o:List Nat) (j x:Nat):(bytesV o).set j (.int .u8 (x:Int))=bytesV (o.set j x):=by simp[bytesV,List.map_set]
theorem bytesV_snoc (o:List Nat):bytesV o++[.int .u8 0]=bytesV (o++[0]):=by simp[bytesV]

def OwnB (w:World) (B:Nat) (v:Value) (L:Nat) (o:List Nat):Prop:=w.ownsRow B 5 1 v L (bytesV o)

theorem OwnB.len {w:World} {B L:Nat} {v:Value} {o:List Nat} (h:OwnB w B v L o):o.length=L:=by
 have:=h.1
 rw[bytesV_len] at this;omega

theorem own_room {w:World} {B L g cap:Nat} {o:List Nat} {N:Nat} (h8:N%8=0) (h:w.ownsRow B 5 1 (.slice (some ⟨g,0,none⟩) (L+1) cap) (L+1) (bytesV o++[.int .u8 0])):OwnB w B (.slice (some ⟨g,0,none⟩) (L+1) cap) (L+1) (Bp.room N o):=by
 unfold OwnB Bp.room
 rw[if_pos h8,←bytesV_snoc]
 exact h

theorem OwnB.cell {w:World} {B g j L cap:Nat} {o:List Nat} (h:OwnB w B (.slice (some ⟨g,0,none⟩) L cap) L o) (hj:j<L):w.cell? ⟨g,j,none⟩=some (.int .u8 ((o.getD j 0:Nat):Int)):=by
 have:=World.ownsRow.cellAt h j (by omega)
 rw[this,bytesV_get _ _ (by rw[h.len];omega)]

theorem OwnB.free {w:World} {B g L cap:Nat} {o:List Nat} (h:OwnB w B (.slice (some ⟨g,0,none⟩) L cap) L o) (j:Nat):w.frozen? ⟨g,j,none⟩=false:=World.ownsRow.frozenAt h j

theorem OwnB.put {w:World} {B g L cap:Nat} {o:List Nat} (h:OwnB w B (.slice (some ⟨g,0,none⟩) L cap) L o) (j y:Nat):OwnB (w.setCell ⟨g,j,none⟩ (.int .u8 (y:Int))) B (.slice (some ⟨g,0,none⟩) L cap) L (o.set j y):=by
 have:=(World.ownsRow.stored h j (.int .u8 (y:Int))).1
 rw[bytesV_set] at this
 exact this

theorem OwnB.drew {w:World} {B L:Nat} {v:Value} {o:List Nat} (h:OwnB w B v L o):OwnB w.drew B v L o:=h

theorem OwnB.step {w:World} {B g j L cap N:Nat} {hi:Bool} {f:Nat→Nat} (h:OwnB w B (.slice (some ⟨g,0,none⟩) L cap) L (Bp.room N (Bp.pack hi f N))) (hj:j=N / 8) {y:Nat} (hy:y=(Bp.room N (Bp.pack hi f N)).getD j 0+f N*2^Bg.spot hi N):
 OwnB (w.setCell ⟨g,j,none⟩ (.int .u8 (y:Int))) B (.slice (some ⟨g,0,none⟩) L cap) L (Bp.pack hi f (N+1)):=by
 have:=h.put j y
 rw[hy,hj] at this
 rw[hy,hj]
 exact this

theorem text_nil (w:World):Sem.run Tryz.prog (convert 22 9 (.slice none 0 0)) w=.ok (.string ⟨#[]⟩) w:=by kernel_rfl

theorem OwnB.text {w:World} {B L:Nat} {v:Value} {o:List Nat} (h:OwnB w B v L o):∃cap,∃ao,v=.slice ao L cap∧
 Sem.run Tryz.prog (convert 22 9 (.slice ao L cap)) w=.ok (.string ⟨(o.map UInt8.ofNat).toArray⟩) w:=by
 have hl:=h.len
 rcases h.2 with⟨rfl,h0⟩|⟨g,cap,cur,rfl,_,hg,_,_,_,ht⟩
 · subst h0
   refine⟨0,none,rfl,?_⟩
   have:o=[]:=List.eq_nil_of_length_eq_zero hl
   subst this
   exact text_nil w
 refine⟨cap,some ⟨g,0,none⟩,rfl,?_⟩
 subst hl
 refine run_text w ⟨g,0,none⟩ cap o ?_
 intro j v hj
 have:=(World.ownsRow.cells h rfl) j v hj
 exact this

theorem own_empty (w:World):OwnB (w.alloc (.cells #[] 5)) w.heap.size (.slice (some ⟨w.heap.size,0,none⟩) 0 0) 0 []:=
 World.ownsRow_lit w #[] 0 (Nat.le_refl _) (by decide) rfl

set_option maxHeartbeats 400000 in
theorem order_low (i size:Int) (w:World):
 Calls Tryz.prog 69 #[.int .i64 i,.int .i64 size] w fun e w'=>e=.returned (.int .i64 i)∧w'=w:=by
 go_enter Tryz.func69,Tryz.ntmps69
 go_wp2
 go_ret
 exact⟨rfl,rfl⟩

set_option maxHeartbeats 400000 in
theorem orderOf_high (w:World):
 Calls Tryz.prog 38 #[.bool true] w fun e w'=>e=.returned (.func (.func 68) #[] #[])∧w'=w:=by
 go_enter Tryz.func38,Tryz.ntmps38
 go_wp2
 go_ret
 exact⟨rfl,rfl⟩

set_option maxHeartbeats 400000 in
theorem orderOf_low (w:World):
 Calls Tryz.prog 38 #[.bool false] w fun e w'=>e=.returned (.func (.func 69) #[] #[])∧w'=w:=by
 go_enter Tryz.func38,Tryz.ntmps38
 go_wp2
 go_ret
 exact⟨rfl,rfl⟩


def bitAt (s:ByteArray) (hi:Bool) (i:Nat):Nat:=byteAt s (i / 8) / 2^Bg.spot hi i%2
theorem bitAt_lt (s:ByteArray) (hi:Bool) (i:Nat):bitAt s hi i<2:=Nat.mod_lt _ (by omega)


def ordV (hi:Bool):Value:=.func (.func (if hi then 68 else 69)) #[] #[]

structure Reads (w:World) (B:Nat) (hi:Bool) (s:ByteArray) (p:Nat):Prop where
 c0:w.cell? ⟨B,0,none⟩=some (ordV hi)
 c1:w.cell? ⟨B,1,none⟩=some (.string s)
 c2:w.cell? ⟨B,2,none⟩=some (.int .i64 (p:Int))
 f2:w.frozen? ⟨B,2,none⟩=false

set_option maxHeartbeats 400000 in
theorem room_any (B p:Nat) (hi:Bool) (s:ByteArray) (w:World) (h:Reads w B hi s p) (hs:s.size≤9000) (hp:p≤9223372036854775807):
 Calls Tryz.prog 127 #[.pointer (some ⟨B,0,none⟩)] w fun e w'=>e=.returned (.int .i64 (8*(s.size:Int)-(p:Int)))∧∃m,w'=w.drewN m:=by
 obtain⟨h0,h1,h2,_⟩:=h
 go_enter Tryz.func127,Tryz.ntmps127
 go_wp2_with fail
 go_region
 all_goals go_wp2_with fail
 all_goals go_ret
 all_goals exact⟨rfl,1,rfl⟩

theorem and_bit (x q:Nat) (h:x<256):bits .and .i64 ((x:Int) / 2^q) 1=((x / 2^q%2:Nat):Int):=by
 have e:(x:Int) / 2^q=((x / 2^q:Nat):Int):=by simp
 have hl:x / 2^q≤x:=Nat.div_le_self _ _
 have:=i64_and_nat (x / 2^q) 1 (by omega) (by omega)
 rw[show ((1:Nat):Int)=1 from rfl] at this
 rw[e,this,nat_mask1]

set_option maxHeartbeats 1000000 in
theorem next_low (B p:Nat) (s:ByteArray) (n:Int) (w:World) (h:Reads w B false s p) (hs:s.size≤9000) (hp:p / 8<s.size):
 Calls Tryz.prog 145 #[.pointer (some ⟨B,0,none⟩),.int .i64 n] w fun e w'=>e=.returned (.int .i64 (bitAt s false p:Nat))∧∃m,w'=(w.setCell ⟨B,2,none⟩ (.int .i64 ((p:Int)+1))).drewN m:=by
 obtain⟨h0,h1,h2,hf⟩:=h
 have h0':w.cell? ⟨B,0,none⟩=some (.func (.func 69) #[] #[]):=h0
 clear h0
 obtain⟨j,hj⟩:∃j,j=p / 8:=⟨_,rfl⟩
 obtain⟨q,hq⟩:∃q,q=p%8:=⟨_,rfl⟩
 have hjs:j<s.size:=by omega
 have hbe:=byteAt_eq s j hjs
 have hbl:=byteAt_lt s j
 have e1:(p:Int) / 8=(j:Int):=by omega
 have e2:(p:Int)%8=(q:Int):=by omega
 have e3:(p:Int).tdiv 8=(j:Int):=by rw[Int.tdiv_eq_ediv_of_nonneg (by omega)];exact e1
 have e4:(p:Int).tmod 8=(q:Int):=by rw[Int.tmod_eq_emod_of_nonneg (by omega)];exact e2
 have hji:(j:Int)<(s.size:Int):=by omega
 have e5:=wrap_i64_nat j (by omega)
 have e6:=wrap_i64_nat (byteAt s j) (by omega)
 obtain⟨v,hv⟩:∃v,v=bitAt s false p:=⟨_,rfl⟩
 have hbit:bits .and .i64 (((byteAt s j:Nat):Int) / 2^q) 1=(v:Int):=by
  rw[and_bit _ _ hbl,hv];unfold bitAt Bg.spot;rw[hq,hj];rfl
 rw[←hv]
 have hpb:p≤80000:=by omega
 have hq8:q≤7:=by omega
 clear hj hq hp hv
 go_enter Tryz.func145,Tryz.ntmps145
 go_wp2_with fail
 go_quiet (exact Calls.quiet_of_same (order_low _ _ _))
 go_wp2_with fail
 go_ret
 exact⟨rfl,nq,rfl⟩

theorem method_room (a : Addr) (w : World) : (method 296 157 (.pointer (some a)) "loop.example/intarsia/impl.room").run Tryz.prog w = .ok (127, .pointer (some a)) w := by kernel_rfl
theorem method_next (a : Addr) (w : World) : (method 296 157 (.pointer (some a)) "loop.example/intarsia/impl.next").run Tryz.prog w = .ok (145, .pointer (some a)) w := by kernel_rfl
theorem ahead_next (a : Addr) (w : World) : (nilAhead 296 157 (.pointer (some a)) "loop.example/intarsia/impl.next").run Tryz.prog w = .ok (some false) w := by kernel_rfl

theorem or_lowbit (x b k y:Nat) (hx:x<2^k) (hb:b<2) (hk:k<32) (hy:y=x+b*2^k):
 bits .or .i64 (x:Int) (IntKind.i64.wrap ((b:Int)*2^k))=(y:Int):=by
 have h3:2^k≤2^32:=Nat.pow_le_pow_right (by omega) (by omega)
 have h1:b*2^k≤1*2^32:=Nat.mul_le_mul (by omega) h3
 have e:(b:Int)*2^k=((b*2^k:Nat):Int):=by simp
 rw[e,wrap_i64_nat _ (by omega),i64_or_nat _ _ (by omega) (by omega),Nat.or_comm,nat_join k (b*2^k) x (Nat.mul_mod_left _ _) hx,hy]
 omega


structure Writes (w:World) (B:Nat) (hi:Bool) (f:Nat→Nat) (N:Nat):Prop where
 c0:w.cell? ⟨B,0,none⟩=some (ordV hi)
 c1:∃v L,w.cell? ⟨B,1,none⟩=some v∧OwnB w (B+1) v L (Bp.pack hi f N)∧L=(N+7) / 8
 c2:w.cell? ⟨B,2,none⟩=some (.int .i64 (N:Int))
 f1:w.frozen? ⟨B,1,none⟩=false
 f2:w.frozen? ⟨B,2,none⟩=false
 lt:B<w.heap.size

theorem u8_or_nat (a b:Nat) (ha:a<256) (hb:b<256):bits .or .u8 (a:Int) (b:Int)=((a ||| b:Nat):Int):=by
 have hx:a ||| b<2^8:=Nat.or_lt_two_pow (by omega) (by omega)
 show IntKind.u8.wrap ((BitVec.ofInt 8 (a:Int) ||| BitVec.ofInt 8 (b:Int)).toNat:Int)=_
 have e:∀c:Nat,c<256→(BitVec.ofInt 8 (c:Int)).toNat=c:=by
  intro c hc
  rw[BitVec.ofInt_natCast,BitVec.toNat_ofNat];exact Nat.mod_eq_of_lt (by omega)
 rw[BitVec.toNat_or,e a ha,e b hb]
 simp[IntKind.wrap,IntKind.bits,IntKind.signed];omega

theorem wrap_u8_nat' (a:Nat) (ha:a<256):IntKind.u8.wrap (a:Int)=(a:Int):=by
 simp[IntKind.wrap,IntKind.bits,IntKind.signed];omega

set_option maxHeartbeats 400000 in
theorem wroom_any (B N:Nat) (hi:Bool) (f:Nat→Nat) (w:World) (h:Writes w B hi f N) (hN:N≤72000):
 Calls Tryz.prog 147 #[.pointer (some ⟨B,0,none⟩)] w fun e w'=>e=.returned (.int .i64 (72000-(N:Int)))∧w'=w:=by
 have h2:=h.c2
 clear h
 go_enter Tryz.func147,Tryz.ntmps147
 go_wp2_with fail
 go_ret
 exact⟨rfl,rfl⟩

theorem Writes.next {w:World} {B g j L cap N y:Nat} {hi:Bool} {f:Nat→Nat} {o:List Nat} (h0:w.cell? ⟨B,0,none⟩=some (ordV hi)) (h1:w.cell? ⟨B,1,none⟩=some (.slice (some ⟨g,0,none⟩) L cap)) (h2:w.cell? ⟨B,2,none⟩=some (.int .i64 (N:Int))) (hf1:w.frozen? ⟨B,1,none⟩=false) (hf2:w.frozen? ⟨B,2,none⟩=false) (hlt:B<w.heap.size) (hg:B<g)
 (hown:OwnB w (B+1) (.slice (some ⟨g,0,none⟩) L cap) L o) (ho:o=Bp.room N (Bp.pack hi f N)) (hj:j=N / 8) (hL:L=(N+1+7) / 8) (hy:y=o.getD j 0+f N*2^Bg.spot hi N):
 Writes ((w.setCell ⟨g,j,none⟩ (.int .u8 (y:Int))).setCell ⟨B,2,none⟩ (.int .i64 ((N:Int)+1))) B hi f (N+1):=by
 subst ho
 have hs:=hown.step hj hy
 have hne:∀o',¬((⟨g,j,none⟩:Addr)=⟨B,o',none⟩):=fun o' e=>absurd (congrArg Addr.block e) (show ¬g=B by omega)
 refine⟨?_,⟨.slice (some ⟨g,0,none⟩) L cap,L,?_,?_,hL⟩,?_,?_,?_,?_⟩
 · rw[World.cell?_setCell_other _ _ _ _ (fun e=>absurd (congrArg Addr.off e) (show ¬(2:Nat)=0 by omega)),World.cell?_setCell_other _ _ _ _ (hne 0)];exact h0
 · rw[World.cell?_setCell_other _ _ _ _ (fun e=>absurd (congrArg Addr.off e) (show ¬(2:Nat)=1 by omega)),World.cell?_setCell_other _ _ _ _ (hne 1)];exact h1
 · exact ownsRow_setCell_below hs (by show B<B+1;omega) _
 · have:(w.setCell ⟨g,j,none⟩ (.int .u8 (y:Int))).cell? ⟨B,2,none⟩=some (.int .i64 (N:Int)):=by
    rw[World.cell?_setCell_other _ _ _ _ (hne 2)];exact h2
   rw[World.cell?_setCell_same _ _ _ this];rfl
 · rw[World.frozen?_setCell,World.frozen?_setCell];exact hf1
 · rw[World.frozen?_setCell,World.frozen?_setCell];exact hf2
 simp;exact hlt
end Go.Proofs.YtejebodgfoihkaaGreat
namespace Go.Proofs.YtejebodgfoihkaaGreat
namespace Mk

def cnt (zs:List Int) (n:Int):Nat→Nat
 | 0=>0
 | k+1=>cnt zs n k+if zs.getD k 0=n then 1 else 0
theorem cnt_mono (zs:List Int) (n:Int):∀(k d:Nat),cnt zs n k≤cnt zs n (k+d)
 | k,0=>Nat.le_refl _
 | k,d+1=>by
  have:=cnt_mono zs n k d
  show _≤cnt zs n (k+d)+_
  omega
theorem cnt_lt {zs:List Int} {n:Int} {i k:Nat} (h:i<k) (hi:zs.getD i 0=n):cnt zs n i<cnt zs n k:=by
 have h1:cnt zs n (i+1)=cnt zs n i+1:=by show _+_=_;rw[if_pos hi]
 have h2:=cnt_mono zs n (i+1) (k-(i+1))
 rw[show i+1+(k-(i+1))=k by omega] at h2
 omega
theorem inner_fst (zs:List Int) (n:Int) (s:Nat×List Int):∀k,(inner zs n k s).1=s.1+cnt zs n k
 | 0=>rfl
 | k+1=>by
  by_cases h:zs.getD k 0=n
  · rw[inner_hit zs n k s h]
    show (inner zs n k s).1+1=s.1+(cnt zs n k+_)
    rw[inner_fst zs n s k,if_pos h];omega
  rw[inner_miss zs n k s h,inner_fst zs n s k]
  show _=s.1+(cnt zs n k+_)
  rw[if_neg h];omega
theorem inner_snd (zs:List Int) (n:Int) (s:Nat×List Int) (j:Nat) (hj:j<s.2.length):∀k,(inner zs n k s).2.getD j 0=if j<k∧zs.getD j 0=n then ((s.1+cnt zs n j:Nat):Int) else s.2.getD j 0
 | 0=>by rw[if_neg (by omega)];rfl
 | k+1=>by
  have ih:=inner_snd zs n s j hj k
  by_cases h:zs.getD k 0=n
  · rw[inner_hit zs n k s h]
    show ((inner zs n k s).2.set k _).getD j 0=_
    by_cases e:j=k
    · subst e
      rw[List.getD_eq_getElem?_getD,List.getElem?_set_self (by rw[inner_len];exact hj),if_pos ⟨by omega,h⟩,inner_fst]
      rfl
    rw[List.getD_eq_getElem?_getD,List.getElem?_set_ne (by omega),←List.getD_eq_getElem?_getD,ih]
    by_cases g:j<k∧zs.getD j 0=n
    · rw[if_pos g,if_pos ⟨by omega,g.2⟩]
    rw[if_neg g,if_neg (fun q=>g ⟨by omega,q.2⟩)]
  rw[inner_miss zs n k s h,ih]
  by_cases g:j<k∧zs.getD j 0=n
  · rw[if_pos g,if_pos ⟨by omega,g.2⟩]
  rw[if_neg g,if_neg (fun q=>g ⟨by
   by_cases e:j=k
   · exact absurd (e ▸ q.2) h
   omega,q.2⟩)]

def E (zs:List Int) (m:Nat):Nat:=(outer zs m).1
theorem E_succ (zs:List Int) (m:Nat):E zs (m+1)=2*E zs m+cnt zs ((m+1:Nat):Int) zs.length:=by
 show (inner zs _ zs.length _).1=_
 rw[inner_fst];rfl
theorem outer_get (zs:List Int) (j:Nat) (hj:j<zs.length):∀m n:Nat,zs.getD j 0=(n:Int)→(outer zs m).2.getD j 0=if 1≤n∧n≤m then ((2*E zs (n-1)+cnt zs (n:Int) j:Nat):Int) else 0
 | 0,n,_=>by
  rw[if_neg (by omega)]
  show (List.replicate zs.length (0:Int)).getD j 0=0
  rw[List.getD_eq_getElem?_getD,List.getElem?_replicate]
  split<;>rfl
 | m+1,n,hn=>by
  show (inner zs ((m+1:Nat):Int) zs.length (2*(outer zs m).1,(outer zs m).2)).2.getD j 0=_
  rw[inner_snd zs _ _ j (by show j<(outer zs m).2.length;rw[outer_len];exact hj)]
  show (if _ then ((2*E zs m+cnt zs ((m+1:Nat):Int) j:Nat):Int) else (outer zs m).2.getD j 0)=_
  rw[outer_get zs j hj m n hn,hn]
  by_cases e:n=m+1
  · subst e
    rw[if_pos ⟨hj,rfl⟩,if_pos (by omega),show m+1-1=m by omega]
  rw[if_neg (fun q=>e (by have:=q.2;omega))]
  by_cases g:1≤n∧n≤m
  · rw[if_pos g,if_pos (by omega)]
  rw[if_neg g,if_neg (by omega)]
theorem mk_get {zs:List Int} {j n:Nat} (hj:j<zs.length) (hn:zs.getD j 0=(n:Int)) (h1:1≤n) (h15:n≤15):(mk zs).getD j 0=((2*E zs (n-1)+cnt zs (n:Int) j:Nat):Int):=by
 unfold mk
 rw[outer_get zs j hj 15 n hn,if_pos ⟨h1,h15⟩]

def Ks (zs:List Int) (k:Nat):Nat→Nat
 | 0=>0
 | m+1=>Ks zs k m+cnt zs ((m+1:Nat):Int) k*2^(15-(m+1))
theorem Ks_zero (zs:List Int):∀m,Ks zs 0 m=0
 | 0=>rfl
 | m+1=>by show Ks zs 0 m+cnt zs _ 0*_=0;rw[Ks_zero zs m];simp[cnt]
theorem Ks_succ (zs:List Int) (k:Nat):∀m,Ks zs (k+1) m=Ks zs k m+if 1≤zs.getD k 0∧zs.getD k 0≤(m:Int) then 2^(15-(zs.getD k 0).toNat) else 0
 | 0=>by rw[if_neg (by omega)];rfl
 | m+1=>by
  show Ks zs (k+1) m+(cnt zs ((m+1:Nat):Int) k+_)*2^(15-(m+1))=Ks zs k m+cnt zs ((m+1:Nat):Int) k*2^(15-(m+1))+_
  rw[Ks_succ zs k m,Nat.add_mul]
  by_cases e:zs.getD k 0=((m+1:Nat):Int)
  · rw[if_pos e,if_neg (by omega),if_pos (by omega),e,Int.toNat_natCast]
    omega
  rw[if_neg e]
  by_cases g:1≤zs.getD k 0∧zs.getD k 0≤(m:Int)
  · rw[if_pos g,if_pos (by omega)];omega
  rw[if_neg g,if_neg (by omega)];omega
theorem Ks_taken (zs:List Int):∀k,k≤zs.length→Ks zs k 15≤Cd.taken (zs.take k)
 | 0,_=>by rw[Ks_zero];exact Nat.zero_le _
 | k+1,h=>by
  have ih:=Ks_taken zs k (by omega)
  have e:zs.getD k 0=zs[k]:=by rw[List.getD_eq_getElem?_getD,List.getElem?_eq_getElem (by omega)];rfl
  rw[Ks_succ,Cd.taken_snoc zs k (by omega),e]
  unfold Cd.part
  by_cases g:1≤zs[k]∧zs[k]≤((15:Nat):Int)
  · rw[if_pos g,if_pos (by omega)];omega
  rw[if_neg g];omega
theorem E_Ks (zs:List Int):∀m,m≤15→E zs m*2^(15-m)=Ks zs zs.length m
 | 0,_=>by show (outer zs 0).1*_=0;simp[outer]
 | m+1,h=>by
  have ih:=E_Ks zs m (by omega)
  rw[E_succ,Nat.add_mul]
  show _=Ks zs zs.length m+_
  rw[←ih]
  congr 1
  rw[show 15-m=15-(m+1)+1 by omega,Nat.pow_succ]
  generalize 2^(15-(m+1))=p
  rw[Nat.mul_assoc,Nat.mul_left_comm,Nat.mul_comm 2 p]
theorem Ks_mono (zs:List Int) (k:Nat):∀m d,Ks zs k m≤Ks zs k (m+d)
 | _,0=>Nat.le_refl _
 | m,d+1=>Nat.le_trans (Ks_mono zs k m d) (Nat.le_add_right (Ks zs k (m+d)) _)
theorem E_le {zs:List Int} (h:Cd.taken zs≤32768) {m:Nat} (hm:m≤15):E zs m≤2^m:=by
 have h1:=E_Ks zs m hm
 have h2:=Ks_mono zs zs.length m (15-m)
 rw[show m+(15-m)=15 by omega] at h2
 have h3:=Ks_taken zs zs.length (Nat.le_refl _)
 rw[List.take_of_length_le (Nat.le_refl _)] at h3
 have h4:E zs m*2^(15-m)≤2^m*2^(15-m):=by
  rw[←Nat.pow_add,show m+(15-m)=15 by omega]
  show _≤32768
  omega
 exact Nat.le_of_mul_le_mul_right h4 (Nat.pow_pos (by omega))
theorem E_up (zs:List Int) (m:Nat):∀d,E zs m*2^d≤E zs (m+d)
 | 0=>by simp
 | d+1=>by
  have ih:=E_up zs m d
  rw[show m+(d+1)=m+d+1 by omega,E_succ,Nat.pow_succ,←Nat.mul_assoc]
  omega

structure Sym (zs:List Int) (i n v:Nat):Prop where
 lt:i<zs.length
 len:zs.getD i 0=(n:Int)
 pos:1≤n
 le:n≤15
 num:(mk zs).getD i 0=(v:Int)
theorem Sym.eq {zs:List Int} {i n v:Nat} (h:Sym zs i n v):v=2*E zs (n-1)+cnt zs (n:Int) i:=by
 have:=mk_get h.lt h.len h.pos h.le
 rw[h.num] at this
 omega
theorem Sym.below {zs:List Int} {i n v:Nat} (h:Sym zs i n v):v<E zs n:=by
 have h1:=cnt_lt h.lt h.len
 have h2:=E_succ zs (n-1)
 rw[show n-1+1=n by have:=h.pos;omega] at h2
 have h3:=h.eq
 omega
theorem Sym.bits {zs:List Int} {i n v:Nat} (h:Sym zs i n v) (ht:Cd.taken zs≤32768):v<2^n:=Nat.lt_of_lt_of_le h.below (E_le ht h.le)
theorem Sym.one {zs:List Int} {i k n v:Nat} (h:Sym zs i n v) (g:Sym zs k n v):i=k:=by
 have h1:=h.eq
 have h2:=g.eq
 rcases Nat.lt_trichotomy i k with e|e|e
 · have:=cnt_lt e h.len;omega
 · exact e
 have:=cnt_lt e g.len;omega
theorem Sym.apart {zs:List Int} {i k n m v u:Nat} (h:Sym zs i n v) (g:Sym zs k m u) (hne:k≠i) (hnm:n≤m):u / 2^(m-n)≠v:=by
 by_cases e:m=n
 · subst e
   rw[Nat.sub_self,Nat.pow_zero,Nat.div_one]
   intro e2
   subst e2
   exact hne (g.one h)
 have h1:=E_up zs n (m-1-n)
 have h2:=h.below
 have h3:=g.eq
 rw[show n+(m-1-n)=m-1 by omega] at h1
 have h4:E zs n*2^(m-n)≤u:=by
  rw[show m-n=(m-1-n)+1 by omega,Nat.pow_succ,←Nat.mul_assoc]
  omega
 have h5:E zs n≤u / 2^(m-n):=(Nat.le_div_iff_mul_le (Nat.pow_pos (by omega))).2 h4
 omega
end Mk
namespace Gt

def go (s:Nat→Nat→Int) (bit:Nat→Nat):Nat→Nat→Nat→Nat→Option (Nat×Nat)
 | 0,_,_,_=>none
 | m+1,d,v,p=>if 0≤s (d+1) (2*v+bit p) then some ((s (d+1) (2*v+bit p)).toNat,p+1) else go s bit m (d+1) (2*v+bit p) (p+1)
theorem go_hit {s:Nat→Nat→Int} {bit:Nat→Nat} {m d v p i:Nat} (h:s (d+1) (2*v+bit p)=(i:Int)):go s bit (m+1) d v p=some (i,p+1):=by
 rw[go,h,if_pos (by omega),Int.toNat_natCast]
theorem go_miss {s:Nat→Nat→Int} {bit:Nat→Nat} {m d v p:Nat} (h:s (d+1) (2*v+bit p)=-1):go s bit (m+1) d v p=go s bit m (d+1) (2*v+bit p) (p+1):=by
 rw[go,h,if_neg (by omega)]
theorem go_none {s:Nat→Nat→Int} {bit:Nat→Nat} (D:Nat→Nat→Prop) (hD:∀d v p,D d v→s (d+1) (2*v+bit p)=-1∧D (d+1) (2*v+bit p)):∀m d v p,D d v→go s bit m d v p=none
 | 0,_,_,_,_=>rfl
 | m+1,d,v,p,h=>by
  obtain⟨h1,h2⟩:=hD d v p h
  rw[go_miss h1];exact go_none D hD m _ _ _ h2

def upd (s:Nat→Nat→Int) (n u:Nat) (x:Int):Nat→Nat→Int:=fun d v=>if d=n∧v=u then x else s d v
def S (zs:List Int):Nat→Nat→Nat→Int
 | 0=>fun _ _=>-1
 | k+1=>if 0<zs.getD k 0 then upd (S zs k) (zs.getD k 0).toNat ((Mk.mk zs).getD k 0).toNat (k:Int) else S zs k
theorem S_miss {zs:List Int}:∀{k d v:Nat},k≤zs.length→(∀i,i<zs.length→zs.getD i 0≤15)→(∀i,i<zs.length→0≤(Mk.mk zs).getD i 0)→(∀i,i<k→¬Mk.Sym zs i d v)→S zs k d v=-1
 | 0,_,_,_,_,_,_=>rfl
 | k+1,d,v,hk,h15,h0,h=>by
  have ih:=S_miss (d:=d) (v:=v) (k:=k) (by omega) h15 h0 (fun i hi=>h i (by omega))
  unfold S
  by_cases hz:0<zs.getD k 0
  · rw[if_pos hz]
    unfold upd
    rw[if_neg,ih]
    rintro ⟨e1,e2⟩
    have:=h15 k (by omega)
    have:=h0 k (by omega)
    exact h k (by omega) ⟨by omega,by omega,by omega,by omega,by omega⟩
  rw[if_neg hz];exact ih
theorem S_hit {zs:List Int}:∀{k d v i:Nat},k≤zs.length→(∀i,i<zs.length→zs.getD i 0≤15)→(∀i,i<zs.length→0≤(Mk.mk zs).getD i 0)→i<k→Mk.Sym zs i d v→S zs k d v=(i:Int)
 | 0,_,_,_,_,_,_,hi,_=>by omega
 | k+1,d,v,i,hk,h15,h0,hi,h=>by
  unfold S
  by_cases e:i=k
  · subst e
    have h1:=h.len
    have h2:=h.num
    have h3:=h.pos
    rw[if_pos (by omega)]
    unfold upd
    rw[if_pos ⟨by omega,by omega⟩]
  have ih:=S_hit (k:=k) (by omega) h15 h0 (by omega) h
  by_cases hz:0<zs.getD k 0
  · rw[if_pos hz]
    unfold upd
    rw[if_neg,ih]
    rintro ⟨e1,e2⟩
    have:=h15 k (by omega)
    have:=h0 k (by omega)
    exact e (h.one ⟨by omega,by omega,by omega,by omega,by omega⟩)
  rw[if_neg hz];exact ih

def get (zs:List Int) (bit:Nat→Nat) (M p:Nat):Option (Nat×Nat):=go (S zs zs.length) bit (M-p) 0 0 p
theorem go_lt {s:Nat→Nat→Int} {bit:Nat→Nat}:∀{m d v p i q:Nat},go s bit m d v p=some (i,q)→p<q∧q≤p+m
 | 0,_,_,_,_,_,h=>by cases h
 | m+1,d,v,p,i,q,h=>by
  unfold go at h
  split at h
  · cases h;omega
  have:=go_lt h;omega
end Gt
open Go.RowKit

def ptr:Option Nat→Value
 | none=>.pointer none
 | some b=>.pointer (some ⟨b,0,none⟩)
def nodeV (s:Int) (l r:Option Nat):Obj:=.cells #[.int .i64 s,ptr l,ptr r,.int .i64 0,.int .i64 0] 141 (0,0)

structure Tri (w:World) (lo:Nat) (N:Nat→Nat→Option Nat) (S:Nat→Nat→Int):Prop where
 node:∀d v b,N d v=some b→lo≤b∧w.heap[b]?=some (nodeV (S d v) (N (d+1) (2*v)) (N (d+1) (2*v+1)))
 inj:∀d v d' v' b,N d v=some b→N d' v'=some b→d=d'∧v=v'
 closed:∀d v b,N (d+1) v=some b→∃b',N d (v / 2)=some b'
 dead:∀d v,N d v=none→S d v=-1

theorem Tri.lt {w:World} {lo:Nat} {N:Nat→Nat→Option Nat} {S:Nat→Nat→Int} (h:Tri w lo N S) {d v b:Nat} (hb:N d v=some b):b<w.heap.size:=(Array.getElem?_eq_some_iff.1 (h.node d v b hb).2).1
theorem Tri.same {w w':World} {lo:Nat} {N:Nat→Nat→Option Nat} {S:Nat→Nat→Int} (h:Tri w lo N S) (hk:∀k,k<w.heap.size→lo≤k→w'.heap[k]?=w.heap[k]?):Tri w' lo N S:=
 ⟨fun d v b hb=>⟨(h.node d v b hb).1,(hk b (h.lt hb) (h.node d v b hb).1).trans (h.node d v b hb).2⟩,h.inj,h.closed,h.dead⟩
theorem Tri.cells {w:World} {lo:Nat} {N:Nat→Nat→Option Nat} {S:Nat→Nat→Int} (h:Tri w lo N S) {d v b:Nat} (hb:N d v=some b):
 w.cell? ⟨b,0,none⟩=some (.int .i64 (S d v))∧w.cell? ⟨b,1,none⟩=some (ptr (N (d+1) (2*v)))∧w.cell? ⟨b,2,none⟩=some (ptr (N (d+1) (2*v+1)))∧w.frozen? ⟨b,0,none⟩=false∧w.frozen? ⟨b,1,none⟩=false∧w.frozen? ⟨b,2,none⟩=false:=by
 have:=(h.node d v b hb).2
 unfold nodeV at this
 simp[World.cell?,World.frozen?,this]
theorem tri_new (w:World):Tri (w.alloc (nodeV (-1) none none)) w.heap.size (fun d v=>if d=0∧v=0 then some w.heap.size else none) (fun _ _=>-1):=by
 refine⟨fun d v b hb=>?_,fun d v d' v' b h1 h2=>?_,fun d v b h=>?_,fun _ _ _=>rfl⟩
 · split at hb
   · rename_i hc
     obtain⟨rfl,rfl⟩:=hc
     cases hb
     exact⟨Nat.le_refl _,by rw[heap_alloc_new];simp⟩
   cases hb
 · split at h1
   · split at h2
     · omega
     cases h2
   cases h1
 split at h
 · omega
 cases h
theorem Tri.setSym {w:World} {lo:Nat} {N:Nat→Nat→Option Nat} {S:Nat→Nat→Int} (h:Tri w lo N S) {n u b:Nat} (hb:N n u=some b) (x:Int):Tri (w.setCell ⟨b,0,none⟩ (.int .i64 x)) lo N (Gt.upd S n u x):=by
 have hn:=(h.node n u b hb).2
 refine⟨fun d v b' hb'=>⟨(h.node d v b' hb').1,?_⟩,h.inj,h.closed,fun d v hd=>?_⟩
 · by_cases e:b'=b
   · subst e
     obtain⟨rfl,rfl⟩:=h.inj d v n u b' hb' hb
     unfold nodeV at hn ⊢
     rw[setCell_eq_setRow w b' 0 _ _ (0,0) _ hn,setRow_heap w b' _ _ _ _ hn]
     unfold Gt.upd
     rw[if_pos ⟨rfl,rfl⟩]
     simp
   rw[Below.heap_setCell w ⟨b,0,none⟩ _ b' e,(h.node d v b' hb').2]
   unfold Gt.upd
   rw[if_neg]
   rintro ⟨rfl,rfl⟩
   rw[hb] at hb'
   cases hb'
   exact e rfl
 unfold Gt.upd
 rw[if_neg,h.dead d v hd]
 rintro ⟨rfl,rfl⟩
 rw[hb] at hd
 cases hd
def addN (N:Nat→Nat→Option Nat) (d v b:Nat):Nat→Nat→Option Nat:=fun d' v'=>if d'=d∧v'=v then some b else N d' v'
theorem Tri.grow {w:World} {lo:Nat} {N:Nat→Nat→Option Nat} {S:Nat→Nat→Int} (h:Tri w lo N S) {d v b t:Nat} (hb:N d v=some b) (ht:t<2) (hno:N (d+1) (2*v+t)=none) (hlo:lo≤w.heap.size):
 Tri ((w.alloc (nodeV (-1) none none)).setCell ⟨b,1+t,none⟩ (.pointer (some ⟨w.heap.size,0,none⟩))) lo (addN N (d+1) (2*v+t) w.heap.size) S:=by
 have hn:=(h.node d v b hb).2
 have hblt:=h.lt hb
 have hkids:∀x,N (d+1+1) x=none∨x / 2≠2*v+t:=fun x=>by
  rcases hx:N (d+1+1) x with _|y
  · exact .inl rfl
  right
  intro e
  obtain⟨b',hb'⟩:=h.closed (d+1) x y hx
  rw[e,hno] at hb'
  cases hb'
 have hadd:∀d' v',(d'=d+1∧v'=2*v+t)∨addN N (d+1) (2*v+t) w.heap.size d' v'=N d' v':=fun d' v'=>by
  by_cases e:d'=d+1∧v'=2*v+t
  · exact .inl e
  right;unfold addN;rw[if_neg e]
 have hself:addN N (d+1) (2*v+t) w.heap.size (d+1) (2*v+t)=some w.heap.size:=by unfold addN;rw[if_pos ⟨rfl,rfl⟩]
 refine⟨fun d' v' b' hb'=>?_,fun d1 v1 d2 v2 b' h1 h2=>?_,fun d' v' b' hb'=>?_,fun d' v' hd=>?_⟩
 · rcases hadd d' v' with⟨rfl,rfl⟩|e
   · rw[hself] at hb'
     cases hb'
     refine⟨hlo,?_⟩
     rw[Below.heap_setCell _ ⟨b,1+t,none⟩ _ _ (by show w.heap.size≠b;omega),heap_alloc_new]
     have e1:∀c,c<2→addN N (d+1) (2*v+t) w.heap.size (d+1+1) (2*(2*v+t)+c)=none:=fun c hc=>by
      unfold addN
      rw[if_neg (by omega)]
      rcases hkids (2*(2*v+t)+c) with hk|hk
      · exact hk
      omega
     have e2:addN N (d+1) (2*v+t) w.heap.size (d+1+1) (2*(2*v+t))=none:=e1 0 (by omega)
     rw[e2,e1 1 (by omega),h.dead _ _ hno]
   rw[e] at hb'
   have hlt:=h.lt hb'
   refine⟨(h.node d' v' b' hb').1,?_⟩
   by_cases eb:b'=b
   · subst eb
     obtain⟨rfl,rfl⟩:=h.inj d' v' d v b' hb' hb
     have hn2:(w.alloc (nodeV (-1) none none)).heap[b']?=some (nodeV (S d' v') (N (d'+1) (2*v')) (N (d'+1) (2*v'+1))):=(Below.heap_alloc _ _ _ hlt).trans hn
     unfold nodeV at hn2 ⊢
     rw[setCell_eq_setRow _ b' (1+t) _ _ (0,0) _ hn2,setRow_heap _ b' _ _ _ _ hn2]
     have:t=0∨t=1:=by omega
     rcases this with rfl|rfl
     · have e1:addN N (d'+1) (2*v'+0) w.heap.size (d'+1) (2*v'+1)=N (d'+1) (2*v'+1):=by unfold addN;rw[if_neg (by omega)]
       have e0:addN N (d'+1) (2*v'+0) w.heap.size (d'+1) (2*v')=some w.heap.size:=hself
       rw[e0,e1]
       simp[ptr]
     have e0:addN N (d'+1) (2*v'+1) w.heap.size (d'+1) (2*v')=N (d'+1) (2*v'):=by unfold addN;rw[if_neg (by omega)]
     rw[hself,e0]
     simp[ptr]
   rw[Below.heap_setCell _ ⟨b,1+t,none⟩ _ _ eb,Below.heap_alloc _ _ _ hlt,(h.node d' v' b' hb').2]
   have e1:∀c,c<2→addN N (d+1) (2*v+t) w.heap.size (d'+1) (2*v'+c)=N (d'+1) (2*v'+c):=fun c hc=>by
    unfold addN
    rw[if_neg]
    rintro ⟨q1,q2⟩
    have q3:d'=d:=by omega
    have q4:v'=v:=by omega
    subst q3;subst q4
    rw[hb] at hb'
    cases hb'
    exact eb rfl
   have e0:addN N (d+1) (2*v+t) w.heap.size (d'+1) (2*v')=N (d'+1) (2*v'):=e1 0 (by omega)
   rw[e0,e1 1 (by omega)]
 · rcases hadd d1 v1 with⟨rfl,rfl⟩|e1
   · rw[hself] at h1
     cases h1
     rcases hadd d2 v2 with⟨rfl,rfl⟩|e2
     · exact⟨rfl,rfl⟩
     rw[e2] at h2
     have:=h.lt h2
     omega
   rw[e1] at h1
   rcases hadd d2 v2 with⟨rfl,rfl⟩|e2
   · rw[hself] at h2
     cases h2
     have:=h.lt h1
     omega
   rw[e2] at h2
   exact h.inj d1 v1 d2 v2 b' h1 h2
 · rcases hadd (d'+1) v' with⟨q1,q2⟩|e
   · have q3:d'=d:=by omega
     subst q3
     refine⟨b,?_⟩
     rw[q2,show (2*v+t) / 2=v by omega]
     unfold addN
     rw[if_neg (by omega)]
     exact hb
   rw[e] at hb'
   obtain⟨b2,hb2⟩:=h.closed d' v' b' hb'
   rcases hadd d' (v' / 2) with⟨q1,q2⟩|e2
   · exact⟨_,by rw[q1,q2];exact hself⟩
   exact⟨b2,by rw[e2];exact hb2⟩
 rcases hadd d' v' with⟨rfl,rfl⟩|e
 · rw[hself] at hd;cases hd
 rw[e] at hd;exact h.dead d' v' hd

def Planted (w:World) (lo B:Nat) (N:Nat→Nat→Option Nat) (S:Nat→Nat→Int) (n V:Nat) (x:Int) (e:Ending) (w':World):Prop:=
 e=.returned (.tuple #[])∧(∃N',Tri w' lo N' (Gt.upd S n V x)∧N' 0 0=some B∧∀d v b,N' d v=some b→N d v=some b∨w.heap.size≤b)∧Below lo w w'∧∀k,k<w.heap.size→(∀d v,N d v≠some k)→w'.heap[k]?=w.heap[k]?

def PlI (w:World) (lo B:Nat) (N:Nat→Nat→Option Nat) (S:Nat→Nat→Int) (d v b:Nat) (wr:World):Prop:=
 (∃N1,Tri wr lo N1 S∧N1 0 0=some B∧N1 d v=some b∧∀d v b,N1 d v=some b→N d v=some b∨w.heap.size≤b)∧Below lo w wr∧∀k,k<w.heap.size→(∀d v,N d v≠some k)→wr.heap[k]?=w.heap[k]?

theorem and_one (x q:Nat) (h:x<65536):bits .and .i64 ((x:Int) / 2^q) 1=((x / 2^q%2:Nat):Int):=by
 have e:(x:Int) / 2^q=((x / 2^q:Nat):Int):=by simp
 have hl:x / 2^q≤x:=Nat.div_le_self _ _
 have:=i64_and_nat (x / 2^q) 1 (by omega) (by omega)
 rw[show ((1:Nat):Int)=1 from rfl] at this
 rw[e,this,nat_mask1]

theorem PlI.down {w wr:World} {lo B:Nat} {N:Nat→Nat→Option Nat} {S:Nat→Nat→Int} {d v b t:Nat} (h:PlI w lo B N S d v b wr) (ht:t<2):
 (∃b2,wr.cell? ⟨b,1+t,none⟩=some (.pointer (some ⟨b2,0,none⟩))∧PlI w lo B N S (d+1) (2*v+t) b2 wr)∨
 (wr.cell? ⟨b,1+t,none⟩=some (.pointer none)∧wr.frozen? ⟨b,1+t,none⟩=false∧b<wr.heap.size∧PlI w lo B N S (d+1) (2*v+t) wr.heap.size ((wr.alloc (.cells #[.int .i64 (-1),.pointer none,.pointer none,.int .i64 0,.int .i64 0] 141)).setCell ⟨b,1+t,none⟩ (.pointer (some ⟨wr.heap.size,0,none⟩)))):=by
 obtain⟨⟨N1,hT,h0,hb,hN⟩,hbel,hfr⟩:=h
 obtain⟨_,c1,c2,_,f1,f2⟩:=hT.cells hb
 have hc:wr.cell? ⟨b,1+t,none⟩=some (ptr (N1 (d+1) (2*v+t))):=by
  have:t=0∨t=1:=by omega
  rcases this with rfl|rfl
  · exact c1
  exact c2
 have hf:wr.frozen? ⟨b,1+t,none⟩=false:=by
  have:t=0∨t=1:=by omega
  rcases this with rfl|rfl
  · exact f1
  exact f2
 rcases hx:N1 (d+1) (2*v+t) with _|b2
 · right
   rw[hx] at hc
   have hlo:=(hT.node d v b hb).1
   have hblt:=hT.lt hb
   refine⟨hc,hf,hblt,⟨addN N1 (d+1) (2*v+t) wr.heap.size,hT.grow hb ht hx (by omega),?_,?_,?_⟩,?_,?_⟩
   · unfold addN;rw[if_neg (by omega)];exact h0
   · unfold addN;rw[if_pos ⟨rfl,rfl⟩]
   · intro d' v' b' hb'
     unfold addN at hb'
     split at hb'
     · cases hb';exact .inr hbel.size
     exact hN d' v' b' hb'
   · exact (hbel.alloc (by omega) _).setCell (p:=⟨b,1+t,none⟩) hlo _
   intro k hk hno
   have hkb:k≠b:=fun e=>by
    subst e
    rcases hN d v k hb with h1|h1
    · exact hno d v h1
    omega
   rw[Below.heap_setCell _ ⟨b,1+t,none⟩ _ _ hkb,Below.heap_alloc _ _ _ (by have:=hbel.size;omega)]
   exact hfr k hk hno
 left
 rw[hx] at hc
 exact⟨b2,hc,⟨N1,hT,h0,hx,hN⟩,hbel,hfr⟩
theorem PlI.done {w wr:World} {lo B:Nat} {N:Nat→Nat→Option Nat} {S:Nat→Nat→Int} {n V b:Nat} (h:PlI w lo B N S n V b wr) (x:Int):
 (∃y,wr.cell? ⟨b,0,none⟩=some (.int .i64 y))∧wr.frozen? ⟨b,0,none⟩=false∧Planted w lo B N S n V x (.returned (.tuple #[])) (wr.setCell ⟨b,0,none⟩ (.int .i64 x)):=by
 obtain⟨⟨N1,hT,h0,hb,hN⟩,hbel,hfr⟩:=h
 obtain⟨c0,_,_,f0,_,_⟩:=hT.cells hb
 have hlo:=(hT.node n V b hb).1
 refine⟨⟨_,c0⟩,f0,rfl,⟨N1,hT.setSym hb x,h0,hN⟩,hbel.setCell (p:=⟨b,0,none⟩) hlo _,fun k hk hno=>?_⟩
 have hkb:k≠b:=fun e=>by
  subst e
  rcases hN n V k hb with h1|h1
  · exact hno n V h1
  omega
 rw[Below.heap_setCell _ ⟨b,0,none⟩ _ _ hkb]
 exact hfr k hk hno

set_option maxHeartbeats 2000000 in
set_option maxRecDepth 20000 in
theorem plant_any (lo B V n:Nat) (x:Int) (N:Nat→Nat→Option Nat) (S:Nat→Nat→Int) (w:World) (h:Tri w lo N S) (h0:N 0 0=some B) (hn:n≤15) (hV:V<2^n):
 Calls Tryz.prog 119 #[.pointer (some ⟨B,0,none⟩),.int .i64 x,.int .i64 (V:Int),.int .i64 (n:Int)] w (Planted w lo B N S n V x):=by
 have hV2:V<65536:=Nat.lt_of_lt_of_le hV (Nat.le_trans (Nat.pow_le_pow_right (by omega) hn) (by decide))
 have HV:Hid (V<2^n):=hV
 have HS:Hid (PlI w lo B N S 0 (V / 2^n) B w):=by
  rw[Nat.div_eq_of_lt hV]
  exact⟨⟨N,h,h0,h0,fun d v b hb=>.inl hb⟩,Below.refl _ _,fun _ _ _=>rfl⟩
 clear h h0 hV
 go_enter Tryz.func119,Tryz.ntmps119
 go_wp2_with fail
 go_loopw [0,8] (fun p pl wr=>∃d b:Nat,d≤n∧pl=.int .i64 ((n:Int)-1-(d:Int))∧p=.pointer (some ⟨b,0,none⟩)∧Hid (PlI w lo B N S d (V / 2^(n-d)) b wr)) (fun _ pl _=>(intOf pl+1).toNat)
 case atStart=>exact⟨0,B,Nat.zero_le _,by simp,rfl,HS⟩
 case round=>
  obtain⟨d,b,hd,rfl,rfl,HP⟩:=hrel
  clear HS
  by_cases hlt:d<n
  · obtain⟨K,hK⟩:∃K:Nat,K=n-1-d:=⟨_,rfl⟩
    have eK:(n:Int)-1-(d:Int)=(K:Int):=by omega
    obtain⟨t,ht⟩:∃t:Nat,t=V / 2^K%2:=⟨_,rfl⟩
    have hbit:bits .and .i64 ((V:Int) / 2^K) 1=(t:Int):=by rw[ht];exact and_one V K hV2
    have ht2:t<2:=by omega
    have hv2:2*(V / 2^(n-d))+t=V / 2^(n-(d+1)):=by
     rw[show n-d=K+1 by omega,show n-(d+1)=K by omega,Nat.pow_succ,←Nat.div_div_eq_div_mul,ht]
     omega
    have hdn:=HP.out.down ht2
    rw[hv2] at hdn
    have eK1:(K:Int)-1=(n:Int)-1-((d+1:Nat):Int):=by omega
    have HE1:Hid ((K:Int)-1=(n:Int)-1-((d+1:Nat):Int)):=eK1
    have hK15:K≤14:=by omega
    rw[eK]
    clear hv2 HP ht hK eK eK1
    have ht01:t=0∨t=1:=by omega
    rcases hdn with⟨b2,hc,hp⟩|⟨hc,hf,hblt,hp⟩
    · have HP2:Hid (PlI w lo B N S (d+1) (V / 2^(n-(d+1))) b2 wr):=hp
      clear hp
      rcases ht01 with rfl|rfl
      all_goals
       go_wp2_with fail
       go_roundw
       case rel=>exact⟨d+1,b2,by omega,by rw[←HE1.out],rfl,HP2⟩
       case measure=>simp[intOf]
    have HP2:Hid (PlI w lo B N S (d+1) (V / 2^(n-(d+1))) wr.heap.size ((wr.alloc (.cells #[.int .i64 (-1),.pointer none,.pointer none,.int .i64 0,.int .i64 0] 141)).setCell ⟨b,1+t,none⟩ (.pointer (some ⟨wr.heap.size,0,none⟩)))):=hp
    rw[World.setCell_alloc_past _ b (1+t) _ hblt] at HP2
    have hc2:(wr.alloc (.cells #[.int .i64 (-1),.pointer none,.pointer none,.int .i64 0,.int .i64 0] 141)).cell? ⟨b,1+t,none⟩=some (.pointer none):=(World.cell?_alloc_past _ b (1+t) hblt).trans hc
    have hf2:(wr.alloc (.cells #[.int .i64 (-1),.pointer none,.pointer none,.int .i64 0,.int .i64 0] 141)).frozen? ⟨b,1+t,none⟩=false:=(World.frozen?_alloc_past _ b (1+t) hblt).trans hf
    clear hp
    rcases ht01 with rfl|rfl
    all_goals
     go_wp2_with fail
     go_roundw
     case rel=>exact⟨d+1,wr.heap.size,by omega,by rw[←HE1.out],rfl,HP2⟩
     case measure=>simp[intOf]
  obtain rfl:d=n:=by omega
  have hneg:¬(0:Int)≤(d:Int)-1-(d:Int):=by omega
  have e1:(d:Int)-1-(d:Int)=-1:=by omega
  rw[e1]
  have hp:=HP.out
  rw[Nat.sub_self,Nat.pow_zero,Nat.div_one] at hp
  obtain⟨⟨y,hc⟩,hf,hpl⟩:=hp.done x
  have HPL:Hid (Planted w lo B N S d V x (.returned (.tuple #[])) (wr.setCell ⟨b,0,none⟩ (.int .i64 x))):=hpl
  clear hp HP hpl e1 hneg
  go_wp2_with fail
  go_end0
  exact HPL.out

structure GoodC (zs:List Int):Prop where
 ok:Cd.okB zs=true
 len:zs.length≤300
 le:∀i,i<zs.length→0≤zs.getD i 0∧zs.getD i 0≤15
 num:∀i,i<zs.length→0≤(Mk.mk zs).getD i 0
 taken:Cd.taken zs≤32768
theorem goodC {zs:List Int} (h:Cd.okB zs=true):GoodC zs:=by
 have h':=h
 unfold Cd.okB at h'
 simp only[Bool.and_eq_true,decide_eq_true_eq] at h'
 have hl:=h'.1
 refine⟨h,hl,fun i hi=>?_,fun i hi=>?_,h'.2.2⟩
 · obtain⟨_,S,_,h2,_,h4⟩:=Cp.parts h i hi
   rw[h2];omega
 obtain⟨V,_,h1,_,_,_⟩:=Cp.parts h i hi
 rw[h1];omega

def Treed (w:World) (zs:List Int) (e:Ending) (w':World):Prop:=
 e=.returned (.pointer (some ⟨w.heap.size,0,none⟩))∧(∃N,Tri w' w.heap.size N (Gt.S zs zs.length)∧N 0 0=some w.heap.size)∧Below w.heap.size w w'

set_option maxHeartbeats 2000000 in
set_option maxRecDepth 20000 in
theorem numberTree_any (a:Option Addr) (cap n:Nat) (zs:List Int) (w:World) (h:Ints w a zs) (hn:zs.length=n) (hg:GoodC zs):
 Calls Tryz.prog 109 #[.slice a n cap] w (Treed w zs):=by
 have hl:=hg.len
 have HG:Hid (GoodC zs):=hg
 have HN:Hid (zs.length=n):=hn
 have HI:Hid (Ints w a zs):=h
 obtain⟨W1,hW1⟩:∃W1,W1=w.alloc (.cells #[.int .i64 (-1),.pointer none,.pointer none,.int .i64 0,.int .i64 0] 141):=⟨_,rfl⟩
 have hW1':w.alloc (.cells #[.int .i64 (-1),.pointer none,.pointer none,.int .i64 0,.int .i64 0] 141)=W1:=hW1.symm
 have HT1:Hid (Tri W1 w.heap.size (fun d v=>if d=0∧v=0 then some w.heap.size else none) (fun _ _=>-1)):=by rw[hW1];exact tri_new w
 have HB1:Hid (Below w.heap.size w W1):=by rw[hW1];exact (Below.refl _ _).alloc (Nat.le_refl _) _
 have hz1:w.heap.size<W1.heap.size:=by rw[hW1];simp
 have HC:Hid (Calls Tryz.prog 51 #[.slice a n cap] W1 fun e w'=>(∃x c,e=.returned (.slice x n c)∧Owns w' W1.heap.size x (Mk.mk zs))∧Below W1.heap.size W1 w'):=by
  have:=impl_codeMake a cap n zs W1 (h.kept HB1.out) hn (by omega)
  rw[mkB_yes hg.ok,Mk.mk_len,hn] at this
  exact this
 clear h hn hg hW1
 go_enter Tryz.func109,Tryz.ntmps109
 go_wp2_with fail
 refine HC.out.mono ?_
 rintro e w2 ⟨⟨x,c,rfl,hO⟩,b2⟩
 have HO:Hid (Owns w2 W1.heap.size x (Mk.mk zs)):=hO
 have HT2:Hid (Tri w2 w.heap.size (fun d v=>if d=0∧v=0 then some w.heap.size else none) (fun _ _=>-1)):=HT1.out.same (fun k hk _=>b2.block k hk)
 have HB2:Hid (Below w.heap.size w w2):=HB1.out.trans (b2.mono (Nat.le_of_lt hz1))
 have hz2:w.heap.size<w2.heap.size:=Nat.lt_of_lt_of_le hz1 b2.size
 obtain⟨cb,hcb,hx,hcells⟩:∃cb,(w.heap.size<cb∧cb<w2.heap.size∨n=0∧cb=w2.heap.size)∧(0<n→x=some ⟨cb,0,none⟩)∧∀i (hi:i<(Mk.mk zs).length),w2.cell? ⟨cb,i,none⟩=some (.int .i64 (Mk.mk zs)[i]):=by
  rcases hO with e|⟨b,e1,e2,e3,e4⟩
  · have h0:n=0:=by rw[←HN.out,←Mk.mk_len zs,e];rfl
    exact⟨w2.heap.size,.inr ⟨h0,rfl⟩,fun q=>by omega,fun i hi=>by rw[e] at hi;simp at hi⟩
  exact⟨b,.inl ⟨by omega,e3⟩,fun _=>e1,fun i hi=>(e4 i hi).1⟩
 have HCL:Hid (∀i (hi:i<(Mk.mk zs).length),w2.cell? ⟨cb,i,none⟩=some (.int .i64 (Mk.mk zs)[i])):=hcells
 clear hO b2 HT1 HB1 HC hW1' hcells hz1 HO
 go_wp2_with fail
 go_loopw [11] (fun i wr=>∃k:Nat,k≤n∧i=.int .i64 (k:Int)∧Hid ((∃N,Tri wr w.heap.size N (Gt.S zs k)∧N 0 0=some w.heap.size∧∀d v,N d v≠some cb)∧Below w.heap.size w wr∧wr.heap[cb]?=w2.heap[cb]?∧w2.heap.size≤wr.heap.size)) (fun i _=>n-(intOf i).toNat)
 case atStart=>
  refine⟨0,Nat.zero_le _,rfl,⟨_,HT2.out,by simp,fun d v=>?_⟩,HB2.out,rfl,Nat.le_refl _⟩
  split
  · intro e;cases e;omega
  intro e;cases e
 case round=>
  obtain⟨k,hk,rfl,HP⟩:=hrel
  clear HT2 HB2
  by_cases hlt:k<n
  · have hki:(k:Int)<(n:Int):=by omega
    have hkl:k<zs.length:=by rw[HN.out];exact hlt
    obtain rfl:=hx (by omega)
    have hcb2:cb<w2.heap.size:=by omega
    have hkm:k<(Mk.mk zs).length:=by rw[Mk.mk_len];exact hkl
    obtain⟨V,L,hV,hL,_,hL15⟩:=Cp.parts HG.out.ok k hkl
    have hcc:wr.cell? ⟨cb,k,none⟩=some (.int .i64 (V:Int)):=by
     rw[World.cell?_of_block (w:=w2) (a:=⟨cb,k,none⟩) HP.out.2.2.1,HCL.out k hkm]
     rw[List.getD_eq_getElem?_getD,List.getElem?_eq_getElem hkm] at hV
     rw[←hV];rfl
    obtain⟨ab,ao,rfl,hab,hac⟩:∃ab ao,a=some ⟨ab,ao,none⟩∧ab<w.heap.size∧w.cell? ⟨ab,ao+k,none⟩=some (.int .i64 (L:Int)):=by
     rcases HI.out with e|⟨b,off,e1,e2,e3⟩
     · rw[e] at hkl;simp at hkl
     refine⟨b,off,e1,e2,?_⟩
     rw[e3 k hkl]
     rw[List.getD_eq_getElem?_getD,List.getElem?_eq_getElem hkl] at hL
     rw[←hL];rfl
    have hac2:wr.cell? ⟨ab,ao+k,none⟩=some (.int .i64 (L:Int)):=(HP.out.2.1.cell (p:=⟨ab,ao+k,none⟩) hab).trans hac
    obtain⟨⟨N,hT,hN0,hNc⟩,hbel,hsame,hsz⟩:=HP.out
    by_cases hpos:0<L
    · have hpi:(0:Int)<(L:Int):=by omega
      have hS:Mk.Sym zs k L V:=⟨hkl,hL,hpos,hL15,hV⟩
      have HPL:Hid (Calls Tryz.prog 119 #[.pointer (some ⟨w.heap.size,0,none⟩),.int .i64 (k:Int),.int .i64 (V:Int),.int .i64 (L:Int)] wr (Planted wr w.heap.size w.heap.size N (Gt.S zs k) L V (k:Int))):=plant_any w.heap.size w.heap.size V L (k:Int) N (Gt.S zs k) wr hT hN0 hL15 (hS.bits HG.out.taken)
      have HSS:Hid (Gt.upd (Gt.S zs k) L V (k:Int)=Gt.S zs (k+1)):=by
       show _=_
       conv=>rhs;unfold Gt.S
       rw[hL,if_pos (by omega),hV,Int.toNat_natCast,Int.toNat_natCast]
      have HNC:Hid (∀d v,N d v≠some cb):=hNc
      have HBL:Hid (Below w.heap.size w wr):=hbel
      have HSM:Hid (wr.heap[cb]?=w2.heap[cb]?):=hsame
      clear hT hN0 hNc hbel hsame HP hac hS hV hL
      go_wp2_with fail
      refine HPL.out.mono ?_
      rintro e w3 ⟨rfl,⟨N',hT',hN0',hN'⟩,hb3,hfr⟩
      have H3:Hid ((∃N,Tri w3 w.heap.size N (Gt.S zs (k+1))∧N 0 0=some w.heap.size∧∀d v,N d v≠some cb)∧Below w.heap.size w w3∧w3.heap[cb]?=w2.heap[cb]?∧w2.heap.size≤w3.heap.size):=by
       refine⟨⟨N',by rw[←HSS.out];exact hT',hN0',fun d v e=>?_⟩,HBL.out.trans hb3,(hfr cb (by omega) HNC.out).trans HSM.out,Nat.le_trans hsz hb3.size⟩
       rcases hN' d v cb e with h1|h1
       · exact HNC.out d v h1
       omega
      clear hT' hN0' hN' hb3 hfr HPL HBL HSM HNC HSS hcc hac2
      go_wp2_with fail
      go_roundw
      case rel=>exact⟨k+1,by omega,by go_num,H3⟩
      case measure=>simp[intOf];omega
    have hpi:¬(0:Int)<(L:Int):=by omega
    have HSS:Hid (Gt.S zs k=Gt.S zs (k+1)):=by
     show _=_
     conv=>rhs;unfold Gt.S
     rw[hL,if_neg (by omega)]
    have H3:Hid ((∃N,Tri wr w.heap.size N (Gt.S zs (k+1))∧N 0 0=some w.heap.size∧∀d v,N d v≠some cb)∧Below w.heap.size w wr∧wr.heap[cb]?=w2.heap[cb]?∧w2.heap.size≤wr.heap.size):=by
     refine⟨⟨N,by rw[←HSS.out];exact hT,hN0,hNc⟩,hbel,hsame,hsz⟩
    clear hT hN0 hNc hbel hsame HP hac hV hL
    go_wp2_with fail
    go_roundw
    case rel=>exact⟨k+1,by omega,by go_num,H3⟩
    case measure=>simp[intOf];omega
  have hki:¬(k:Int)<(n:Int):=by omega
  obtain rfl:k=n:=by omega
  have HF:Hid (Treed w zs (.returned (.pointer (some ⟨w.heap.size,0,none⟩))) wr):=by
   obtain⟨⟨N,hT,hN0,_⟩,hbel,_,_⟩:=HP.out
   exact⟨rfl,⟨N,by rw[HN.out];exact hT,hN0⟩,hbel⟩
  clear HP
  go_wp2_with fail
  go_ret
  exact HF.out
end Go.Proofs.YtejebodgfoihkaaGreat
namespace Go.Proofs.YtejebodgfoihkaaGreat
namespace Bg

theorem big_add (b:Nat→Nat) (k:Nat):∀m,big b (k+m)=big b k*2^m+big (fun i=>b (k+i)) m:=by
 intro m
 induction m with
 | zero=>simp[big]
 | succ m ih=>
  show 2*big b (k+m)+b (k+m)=_
  rw[ih,Nat.pow_succ,←Nat.mul_assoc]
  show _=_+(2*big (fun i=>b (k+i)) m+b (k+m))
  omega

end Bg
namespace Gt

theorem S_some {zs:List Int} (hg:GoodC zs) {d v:Nat} (h:0≤S zs zs.length d v):Mk.Sym zs (S zs zs.length d v).toNat d v:=by
 by_cases he:∃i,i<zs.length∧Mk.Sym zs i d v
 · obtain⟨i,hi,hs⟩:=he
   rw[S_hit (Nat.le_refl _) (fun i hi=>(hg.le i hi).2) hg.num hi hs,Int.toNat_natCast]
   exact hs
 rw[S_miss (Nat.le_refl _) (fun i hi=>(hg.le i hi).2) hg.num (fun i hi hs=>he ⟨i,hi,hs⟩)] at h
 omega

theorem go_some {zs:List Int} (hg:GoodC zs) (bit:Nat→Nat):∀{m d v p i q:Nat},go (S zs zs.length) bit m d v p=some (i,q)→∃k,q=p+k∧1≤k∧k≤m∧Mk.Sym zs i (d+k) (v*2^k+Bg.big (fun j=>bit (p+j)) k)
 | 0,_,_,_,_,_,h=>by cases h
 | m+1,d,v,p,i,q,h=>by
  unfold go at h
  split at h
  · next hs=>
    have h1:=S_some hg hs
    injection h with h
    injection h with h2 h3
    rw[h2] at h1
    refine⟨1,h3.symm,by omega,by omega,?_⟩
    have e:v*2^1+Bg.big (fun j=>bit (p+j)) 1=2*v+bit p:=by simp[Bg.big];omega
    rw[e];exact h1
  obtain⟨k,h1,h2,h3,h4⟩:=go_some hg bit h
  refine⟨1+k,by omega,by omega,by omega,?_⟩
  have e:v*2^(1+k)+Bg.big (fun j=>bit (p+j)) (1+k)=(2*v+bit p)*2^k+Bg.big (fun j=>bit (p+1+j)) k:=by
   rw[Bg.big_add,Nat.pow_add,Nat.add_mul]
   have e1:Bg.big (fun j=>bit (p+j)) 1=bit p:=by simp[Bg.big]
   have e2:(fun i=>bit (p+(1+i)))=fun j=>bit (p+1+j):=by funext j;rw[Nat.add_assoc]
   rw[e1,e2,Nat.pow_one,←Nat.mul_assoc,Nat.mul_comm v 2]
   omega
  rw[e,show d+(1+k)=d+1+k by omega];exact h4

theorem turned_big (b:Nat→Nat) (hb:∀i,b i<2):∀k,turned (Bg.big b k) k=Bg.low b k
 | 0=>rfl
 | k+1=>by
  have ih:=turned_big b hb k
  unfold turned at ih ⊢
  rw[show k+1=1+k by omega,Bg.big_add]
  have hk:=hb k
  have e1:Bg.big (fun i=>Bg.big b (1+k) / 2^i%2) 1=b k:=by
   rw[show 1+k=k+1 by omega];simp[Bg.big];omega
  have e2:(fun i=>Bg.big b (1+k) / 2^(1+i)%2)=fun i=>Bg.big b k / 2^i%2:=by
   funext i
   rw[Nat.pow_add,←Nat.div_div_eq_div_mul,show 1+k=k+1 by omega]
   congr 2
   simp only[Bg.big,Nat.pow_one];omega
  rw[e1,e2,ih,show 1+k=k+1 by omega]
  simp only[Bg.low];omega

theorem get_some {zs:List Int} (hg:GoodC zs) {bit:Nat→Nat} (hb:∀i,bit i<2) {M A i q:Nat} (h:get zs bit M A=some (i,q)):∃L V,Mk.Sym zs i L V∧q=A+L∧A+L≤M∧turned V L=Bg.low (fun j=>bit (A+j)) L:=by
 unfold get at h
 obtain⟨k,h1,h2,h3,h4⟩:=go_some hg bit h
 refine⟨k,_,by rw[Nat.zero_add] at h4;exact h4,h1,by omega,?_⟩
 rw[Nat.zero_mul,Nat.zero_add]
 exact turned_big _ (fun j=>hb _) k
end Gt
namespace To

def okTok (p:Tk) (n:Nat):Bool:=
 if p.2.1=0 then decide (0≤p.1)&&(decide (p.1≤255)&&decide (p.2.2=0))
 else decide (p.1=0)&&(decide (3≤p.2.1)&&(decide (p.2.1≤258)&&(decide (1≤p.2.2)&&decide (p.2.2≤(n:Int)))))
def again (l:List UInt8) (d:Nat):Nat→List UInt8
 | 0=>l
 | k+1=>again l d k++[(again l d k).getD ((again l d k).length-d) 0]
theorem again_len (l:List UInt8) (d:Nat):∀k,(again l d k).length=l.length+k
 | 0=>rfl
 | k+1=>by rw[again,List.length_append,again_len l d k];rfl
def step (p:Tk) (l:List UInt8):Option (List UInt8):=
 if okTok p l.length=true then
  (if p.2.1=0 then (if l.length<5000 then some (l++[UInt8.ofNat p.1.toNat]) else none)
   else if l.length+p.2.1.toNat≤5000 then some (again l p.2.2.toNat p.2.1.toNat) else none)
 else none
def get:List Tk→List UInt8→Option (List UInt8)
 | [],l=>some l
 | p::ts,l=>(step p l).bind (get ts)
theorem ok_zero {v d:Int} {n:Nat} (h1:0≤v) (h2:v≤255) (h3:d=0):okTok (v,0,d) n=true:=by
 simp[okTok,h1,h2,h3]
theorem ok_more {v s d:Int} {n:Nat} (h0:s≠0) (h1:v=0) (h2:3≤s) (h3:s≤258) (h4:1≤d) (h5:d≤(n:Int)):okTok (v,s,d) n=true:=by
 unfold okTok
 rw[if_neg h0]
 simp[h1,h2,h3,h4,h5]
theorem step_byte {v d:Int} {l:List UInt8} (h:okTok (v,0,d) l.length=true) (h2:l.length<5000):step (v,0,d) l=some (l++[UInt8.ofNat v.toNat]):=by
 unfold step;rw[if_pos h];simp[h2]
theorem step_again {v s d:Int} {l:List UInt8} (h0:s≠0) (h:okTok (v,s,d) l.length=true) (h2:l.length+s.toNat≤5000):step (v,s,d) l=some (again l d.toNat s.toNat):=by
 unfold step;rw[if_pos h,if_neg h0,if_pos h2]
end To
namespace Nf

def num (s:ByteArray) (n p:Nat):Nat:=Bg.low (fun i=>bitAt s false (p+i)) n
theorem num_lt (s:ByteArray) (n p:Nat):num s n p<2^n:=Bg.low_lt _ (fun _=>bitAt_lt _ _ _) n
def nxt (s:ByteArray) (n p:Nat):Except Nat Nat:=if p+n≤8*s.size then .ok (num s n p) else .error 2
def sym (s:ByteArray) (zs:List Int) (p:Nat):Except Nat (Nat×Nat):=
 match Gt.get zs (bitAt s false) (8*s.size) p with
 | some r=>.ok r
 | none=>.error (if 8*s.size-p<15 then 2 else 1)
def size (s:ByteArray) (k p:Nat):Except Nat (Nat×Nat):=
 match nxt s (Df.szN k).2 p with
 | .error c=>.error c
 | .ok v=>.ok ((Df.szN k).1+v,p+(Df.szN k).2)
def dist (s:ByteArray) (B:List Int) (p:Nat):Except Nat (Nat×Nat):=
 match sym s B p with
 | .error c=>.error c
 | .ok (d,q)=>if d<30 then
  (match nxt s (Df.dsN d).2 q with
  | .error c=>.error c
  | .ok v=>.ok ((Df.dsN d).1+v,q+(Df.dsN d).2)) else .error 1
def rep (lim:Nat) (out:List UInt8) (n d:Nat):Except Nat (List UInt8):=
 if d≤out.length then (if out.length+n≤lim then .ok (To.again out d n) else .error 3) else .error 1
def isByte (y:Nat):Bool:=decide (y<256)
def isEnd (y:Nat):Bool:=decide (y=256)
def isNone (y:Nat):Bool:=decide (286≤y)
def szI (y:Nat):Nat:=y-257
def copy (s:ByteArray) (lim:Nat) (B:List Int) (k q:Nat) (out:List UInt8):Except Nat (List UInt8×Nat):=
 match size s k q with
 | .error c=>.error c
 | .ok (n,q1)=>match dist s B q1 with
  | .error c=>.error c
  | .ok (d,q2)=>match rep lim out n d with
   | .error c=>.error c
   | .ok out2=>.ok (out2,q2)
def bodyG (sy:Nat→Except Nat (Nat×Nat)) (cp:Nat→Nat→List UInt8→Except Nat (List UInt8×Nat)) (lim:Nat):Nat→Nat→List UInt8→Except Nat (List UInt8×Nat)
 | 0,_,_=>.error 2
 | f+1,p,out=>
  match sy p with
  | .error c=>.error c
  | .ok (y,q)=>
   if isByte y=true then (if out.length<lim then bodyG sy cp lim f q (out++[UInt8.ofNat y]) else .error 3)
   else if isEnd y=true then .ok (out,q)
   else if isNone y=true then .error 1
   else match cp (szI y) q out with
    | .error c=>.error c
    | .ok (out2,q2)=>bodyG sy cp lim f q2 out2
def body (s:ByteArray) (lim:Nat) (A B:List Int):Nat→Nat→List UInt8→Except Nat (List UInt8×Nat):=bodyG (sym s A) (copy s lim B) lim
def take (s:ByteArray) (lim:Nat):Nat→Nat→List UInt8→Except Nat (List UInt8×Nat)
 | 0,p,out=>.ok (out,p)
 | n+1,p,out=>
  match nxt s 8 p with
  | .error c=>.error c
  | .ok v=>if out.length<lim then take s lim n (p+8) (out++[UInt8.ofNat v]) else .error 3
def plain (s:ByteArray) (lim p:Nat) (out:List UInt8):Except Nat (List UInt8×Nat):=
 match nxt s 16 (8*((p+7) / 8)) with
 | .error c=>.error c
 | .ok n=>match nxt s 16 (8*((p+7) / 8)+16) with
  | .error c=>.error c
  | .ok m=>if n+m=65535 then take s lim n (8*((p+7) / 8)+32) out else .error 1
def lol (s:ByteArray):Nat→Nat→Nat→List Int→Except Nat (List Int×Nat)
 | 0,_,p,row=>.ok (row,p)
 | m+1,i,p,row=>
  match nxt s 3 p with
  | .error c=>.error c
  | .ok v=>lol s m (i+1) (p+3) (row.set (Df.lord.getD i 0) (v:Int))
def run (s:ByteArray) (zs:List Int) (p:Nat) (l:List Int):Except Nat ((Int×Nat)×Nat):=
 match sym s zs p with
 | .error c=>.error c
 | .ok (y,q)=>
  if y=16 then (if l.length=0 then .error 1 else match nxt s 2 q with
   | .error c=>.error c
   | .ok v=>.ok ((l.getD (l.length-1) 0,3+v),q+2))
  else if y=17 then (match nxt s 3 q with
   | .error c=>.error c
   | .ok v=>.ok ((0,3+v),q+3))
  else if y=18 then (match nxt s 7 q with
   | .error c=>.error c
   | .ok v=>.ok ((0,11+v),q+7))
  else .ok (((y:Int),1),q)
def lens (s:ByteArray) (zs:List Int) (count:Nat):Nat→Nat→List Int→Except Nat (List Int×Nat)
 | 0,_,_=>.error 2
 | f+1,p,l=>
  if l.length<count then
   (match run s zs p l with
   | .error c=>.error c
   | .ok ((v,t),q)=>if l.length+t≤count then lens s zs count f q (l++List.replicate t v) else .error 1)
  else .ok (l,p)
def come (zs:List Int):Nat:=zs.countP (fun z=>z != 0)
def may (zs:List Int) (none:Bool):Bool:=
 if come zs=0 then none else if come zs=1 then decide (Cd.taken zs=16384) else decide (Cd.taken zs=32768)
def fuel:Nat:=72001
def own (s:ByteArray) (lim p:Nat) (out:List UInt8):Except Nat (List UInt8×Nat):=
 match nxt s 5 p with
 | .error c=>.error c
 | .ok a=>match nxt s 5 (p+5) with
  | .error c=>.error c
  | .ok b=>match nxt s 4 (p+10) with
   | .error c=>.error c
   | .ok c=>match lol s (c+4) 0 (p+14) (List.replicate 19 0) with
    | .error c=>.error c
    | .ok (by_,q)=>
     if a+257≤286∧b+1≤30∧may by_ false=true then
      (match lens s by_ (a+257+(b+1)) 400 q [] with
      | .error c=>.error c
      | .ok (l,q2)=>
       if may (l.take (a+257)) true=true∧may (l.drop (a+257)) true=true∧l.getD 256 0≠0 then body s lim (l.take (a+257)) (l.drop (a+257)) fuel q2 out
       else .error 1)
     else .error 1
def block (s:ByteArray) (lim k p:Nat) (out:List UInt8):Except Nat (List UInt8×Nat):=
 if k=0 then plain s lim p out else if k=1 then body s lim Df.fixS Df.fixD fuel p out else if k=2 then own s lim p out else .error 1
def all (s:ByteArray) (lim:Nat):Nat→Nat→List UInt8→List Int→Except Nat ((List UInt8×Nat)×List Int)
 | 0,_,_,_=>.error 2
 | f+1,p,out,ks=>
  match nxt s 1 p with
  | .error c=>.error c
  | .ok last=>match nxt s 2 (p+1) with
   | .error c=>.error c
   | .ok k=>match block s lim k (p+3) out with
    | .error c=>.error c
    | .ok (out2,q)=>if last=0 then all s lim f q out2 (ks++[(k:Int)]) else .ok ((out2,q),ks++[(k:Int)])
def inflate (s:ByteArray) (lim:Nat):Except Nat ((List UInt8×Nat)×List Int):=all s lim fuel 0 [] []

-- what is known of what is read
theorem nxt_ok {s:ByteArray} {n p v:Nat} (h:nxt s n p=.ok v):p+n≤8*s.size∧v=num s n p∧v<2^n:=by
 unfold nxt at h
 split at h
 · cases h;exact⟨by assumption,rfl,num_lt _ _ _⟩
 cases h
theorem nxt_yes {s:ByteArray} {n p:Nat} (h:p+n≤8*s.size):nxt s n p=.ok (num s n p):=if_pos h
theorem nxt_no {s:ByteArray} {n p:Nat} (h:¬p+n≤8*s.size):nxt s n p=.error 2:=if_neg h
theorem sym_some {s:ByteArray} {zs:List Int} {p:Nat} {r:Nat×Nat} (h:Gt.get zs (bitAt s false) (8*s.size) p=some r):sym s zs p=.ok r:=by unfold sym;rw[h]
theorem sym_short {s:ByteArray} {zs:List Int} {p:Nat} (h:Gt.get zs (bitAt s false) (8*s.size) p=none) (hp:8*s.size-p<15):sym s zs p=.error 2:=by unfold sym;rw[h];simp only[if_pos hp]
theorem sym_bad {s:ByteArray} {zs:List Int} {p:Nat} (h:Gt.get zs (bitAt s false) (8*s.size) p=none) (hp:¬8*s.size-p<15):sym s zs p=.error 1:=by unfold sym;rw[h];simp only[if_neg hp]
theorem sym_ok {s:ByteArray} {zs:List Int} {p y q:Nat} (hg:GoodC zs) (h:sym s zs p=.ok (y,q)):p<q∧q≤8*s.size∧y<zs.length:=by
 unfold sym at h
 split at h
 · rename_i r hr
   cases h
   obtain⟨L,V,h1,h2,h3,_⟩:=Gt.get_some hg (fun i=>bitAt_lt s false i) hr
   have:=Gt.go_lt hr
   exact⟨this.1,by omega,h1.lt⟩
 cases h

theorem size_ok {s:ByteArray} {k p v:Nat} (h:nxt s (Df.szN k).2 p=.ok v):size s k p=.ok ((Df.szN k).1+v,p+(Df.szN k).2):=by unfold size;rw[h]
theorem size_no {s:ByteArray} {k p c:Nat} (h:nxt s (Df.szN k).2 p=.error c):size s k p=.error c:=by unfold size;rw[h]
theorem dist_no {s:ByteArray} {B:List Int} {p c:Nat} (h:sym s B p=.error c):dist s B p=.error c:=by unfold dist;rw[h]
theorem dist_bad {s:ByteArray} {B:List Int} {p d q:Nat} (h:sym s B p=.ok (d,q)) (hd:¬d<30):dist s B p=.error 1:=by unfold dist;rw[h];simp only[if_neg hd]
theorem dist_short {s:ByteArray} {B:List Int} {p d q c:Nat} (h:sym s B p=.ok (d,q)) (hd:d<30) (hn:nxt s (Df.dsN d).2 q=.error c):dist s B p=.error c:=by unfold dist;rw[h];simp only[if_pos hd,hn]
theorem dist_ok {s:ByteArray} {B:List Int} {p d q v:Nat} (h:sym s B p=.ok (d,q)) (hd:d<30) (hn:nxt s (Df.dsN d).2 q=.ok v):dist s B p=.ok ((Df.dsN d).1+v,q+(Df.dsN d).2):=by unfold dist;rw[h];simp only[if_pos hd,hn]
theorem rep_ok {lim n d:Nat} {out:List UInt8} (h1:d≤out.length) (h2:out.length+n≤lim):rep lim out n d=.ok (To.again out d n):=by unfold rep;rw[if_pos h1,if_pos h2]
theorem rep_long {lim n d:Nat} {out:List UInt8} (h1:d≤out.length) (h2:¬out.length+n≤lim):rep lim out n d=.error 3:=by unfold rep;rw[if_pos h1,if_neg h2]
theorem rep_bad {lim n d:Nat} {out:List UInt8} (h1:¬d≤out.length):rep lim out n d=.error 1:=by unfold rep;rw[if_neg h1]
section
variable {s:ByteArray} {lim:Nat} {A B:List Int} {f p:Nat} {out:List UInt8}
theorem body_no {c:Nat} (h:sym s A p=.error c):body s lim A B (f+1) p out=.error c:=by unfold body;rw[bodyG,h]
theorem body_byte {y q:Nat} (h:sym s A p=.ok (y,q)) (hy:y<256) (hl:out.length<lim):body s lim A B (f+1) p out=body s lim A B f q (out++[UInt8.ofNat y]):=by
 unfold body;rw[bodyG,h];simp only[if_pos (show isByte y=true from decide_eq_true hy),if_pos hl]
theorem body_full {y q:Nat} (h:sym s A p=.ok (y,q)) (hy:y<256) (hl:¬out.length<lim):body s lim A B (f+1) p out=.error 3:=by
 unfold body;rw[bodyG,h];simp only[if_pos (show isByte y=true from decide_eq_true hy),if_neg hl]
theorem no_byte {y:Nat} (h:¬y<256):¬isByte y=true:=fun e=>h (of_decide_eq_true e)
theorem no_end {y:Nat} (h:¬y=256):¬isEnd y=true:=fun e=>h (of_decide_eq_true e)
theorem no_none {y:Nat} (h:¬286≤y):¬isNone y=true:=fun e=>h (of_decide_eq_true e)
theorem body_end {y q:Nat} (h:sym s A p=.ok (y,q)) (hy:y=256):body s lim A B (f+1) p out=.ok (out,q):=by
 unfold body;rw[bodyG,h];simp only[if_neg (no_byte (show ¬y<256 by omega)),if_pos (show isEnd y=true from decide_eq_true hy)]
theorem body_bad {y q:Nat} (h:sym s A p=.ok (y,q)) (hy:286≤y):body s lim A B (f+1) p out=.error 1:=by
 unfold body;rw[bodyG,h];simp only[if_neg (no_byte (show ¬y<256 by omega)),if_neg (no_end (show ¬y=256 by omega)),if_pos (show isNone y=true from decide_eq_true hy)]
theorem body_stop {y q c:Nat} (h:sym s A p=.ok (y,q)) (hy:256<y) (hy2:y<286) (h1:copy s lim B (y-257) q out=.error c):body s lim A B (f+1) p out=.error c:=by
 unfold body;rw[bodyG,h];simp only[if_neg (no_byte (show ¬y<256 by omega)),if_neg (no_end (show ¬y=256 by omega)),if_neg (no_none (show ¬286≤y by omega)),show copy s lim B (szI y) q out=.error c from h1]
theorem body_copy {y q q2:Nat} {out2:List UInt8} (h:sym s A p=.ok (y,q)) (hy:256<y) (hy2:y<286) (h1:copy s lim B (y-257) q out=.ok (out2,q2)):body s lim A B (f+1) p out=body s lim A B f q2 out2:=by
 unfold body;rw[bodyG,h];simp only[if_neg (no_byte (show ¬y<256 by omega)),if_neg (no_end (show ¬y=256 by omega)),if_neg (no_none (show ¬286≤y by omega)),show copy s lim B (szI y) q out=.ok (out2,q2) from h1]
theorem copy_size {k q c:Nat} (h1:size s k q=.error c):copy s lim B k q out=.error c:=by unfold copy;rw[h1]
theorem copy_dist {k q n q1 c:Nat} (h1:size s k q=.ok (n,q1)) (h2:dist s B q1=.error c):copy s lim B k q out=.error c:=by unfold copy;rw[h1];simp only[h2]
theorem copy_rep {k q n q1 d q2 c:Nat} (h1:size s k q=.ok (n,q1)) (h2:dist s B q1=.ok (d,q2)) (h3:rep lim out n d=.error c):copy s lim B k q out=.error c:=by unfold copy;rw[h1];simp only[h2,h3]
theorem copy_ok {k q n q1 d q2:Nat} {out2:List UInt8} (h1:size s k q=.ok (n,q1)) (h2:dist s B q1=.ok (d,q2)) (h3:rep lim out n d=.ok out2):copy s lim B k q out=.ok (out2,q2):=by unfold copy;rw[h1];simp only[h2,h3]
theorem take_no {n c:Nat} (h:nxt s 8 p=.error c):take s lim (n+1) p out=.error c:=by rw[take,h]
theorem take_ok {n v:Nat} (h:nxt s 8 p=.ok v) (hl:out.length<lim):take s lim (n+1) p out=take s lim n (p+8) (out++[UInt8.ofNat v]):=by rw[take,h];simp only[if_pos hl]
theorem take_full {n v:Nat} (h:nxt s 8 p=.ok v) (hl:¬out.length<lim):take s lim (n+1) p out=.error 3:=by rw[take,h];simp only[if_neg hl]
theorem plain_no1 {c:Nat} (h:nxt s 16 (8*((p+7) / 8))=.error c):plain s lim p out=.error c:=by unfold plain;rw[h]
theorem plain_no2 {n c:Nat} (h:nxt s 16 (8*((p+7) / 8))=.ok n) (h2:nxt s 16 (8*((p+7) / 8)+16)=.error c):plain s lim p out=.error c:=by unfold plain;rw[h];simp only[h2]
theorem plain_bad {n m:Nat} (h:nxt s 16 (8*((p+7) / 8))=.ok n) (h2:nxt s 16 (8*((p+7) / 8)+16)=.ok m) (hn:¬n+m=65535):plain s lim p out=.error 1:=by unfold plain;rw[h];simp only[h2,if_neg hn]
theorem plain_ok {n m:Nat} (h:nxt s 16 (8*((p+7) / 8))=.ok n) (h2:nxt s 16 (8*((p+7) / 8)+16)=.ok m) (hn:n+m=65535):plain s lim p out=take s lim n (8*((p+7) / 8)+32) out:=by unfold plain;rw[h];simp only[h2,if_pos hn]
theorem lol_no {m i c:Nat} {row:List Int} (h:nxt s 3 p=.error c):lol s (m+1) i p row=.error c:=by rw[lol,h]
theorem lol_ok {m i v:Nat} {row:List Int} (h:nxt s 3 p=.ok v):lol s (m+1) i p row=lol s m (i+1) (p+3) (row.set (Df.lord.getD i 0) (v:Int)):=by rw[lol,h]
theorem all_no1 {c:Nat} {ks:List Int} (h:nxt s 1 p=.error c):all s lim (f+1) p out ks=.error c:=by rw[all,h]
theorem all_no2 {a c:Nat} {ks:List Int} (h:nxt s 1 p=.ok a) (h2:nxt s 2 (p+1)=.error c):all s lim (f+1) p out ks=.error c:=by rw[all,h];simp only[h2]
theorem all_no3 {a k c:Nat} {ks:List Int} (h:nxt s 1 p=.ok a) (h2:nxt s 2 (p+1)=.ok k) (h3:block s lim k (p+3) out=.error c):all s lim (f+1) p out ks=.error c:=by rw[all,h];simp only[h2,h3]
theorem all_more {k q:Nat} {out2:List UInt8} {ks:List Int} (h:nxt s 1 p=.ok 0) (h2:nxt s 2 (p+1)=.ok k) (h3:block s lim k (p+3) out=.ok (out2,q)):all s lim (f+1) p out ks=all s lim f q out2 (ks++[(k:Int)]):=by rw[all,h];simp only[h2,h3,if_pos]
theorem all_end {a k q:Nat} {out2:List UInt8} {ks:List Int} (h:nxt s 1 p=.ok a) (ha:a≠0) (h2:nxt s 2 (p+1)=.ok k) (h3:block s lim k (p+3) out=.ok (out2,q)):all s lim (f+1) p out ks=.ok ((out2,q),ks++[(k:Int)]):=by rw[all,h];simp only[h2,h3,if_neg ha]
end
section
variable {s:ByteArray} {zs l:List Int} {p:Nat}
theorem run_no {c:Nat} (h:sym s zs p=.error c):run s zs p l=.error c:=by unfold run;rw[h]
theorem run_16 {q v:Nat} (h:sym s zs p=.ok (16,q)) (hl:l.length≠0) (h2:nxt s 2 q=.ok v):run s zs p l=.ok ((l.getD (l.length-1) 0,3+v),q+2):=by unfold run;rw[h];simp only[if_true,if_neg hl,h2]
theorem run_16s {q c:Nat} (h:sym s zs p=.ok (16,q)) (hl:l.length≠0) (h2:nxt s 2 q=.error c):run s zs p l=.error c:=by unfold run;rw[h];simp only[if_true,if_neg hl,h2]
theorem run_16n {q:Nat} (h:sym s zs p=.ok (16,q)) (hl:l.length=0):run s zs p l=.error 1:=by unfold run;rw[h];simp only[if_true,if_pos hl]
theorem run_17 {q v:Nat} (h:sym s zs p=.ok (17,q)) (h2:nxt s 3 q=.ok v):run s zs p l=.ok ((0,3+v),q+3):=by unfold run;rw[h];simp only[if_neg (show ¬(17:Nat)=16 by decide),if_true,h2]
theorem run_17s {q c:Nat} (h:sym s zs p=.ok (17,q)) (h2:nxt s 3 q=.error c):run s zs p l=.error c:=by unfold run;rw[h];simp only[if_neg (show ¬(17:Nat)=16 by decide),if_true,h2]
theorem run_18 {q v:Nat} (h:sym s zs p=.ok (18,q)) (h2:nxt s 7 q=.ok v):run s zs p l=.ok ((0,11+v),q+7):=by unfold run;rw[h];simp only[if_neg (show ¬(18:Nat)=16 by decide),if_neg (show ¬(18:Nat)=17 by decide),if_true,h2]
theorem run_18s {q c:Nat} (h:sym s zs p=.ok (18,q)) (h2:nxt s 7 q=.error c):run s zs p l=.error c:=by unfold run;rw[h];simp only[if_neg (show ¬(18:Nat)=16 by decide),if_neg (show ¬(18:Nat)=17 by decide),if_true,h2]
theorem run_one {y q:Nat} (h:sym s zs p=.ok (y,q)) (hy:y<16∨18<y):run s zs p l=.ok (((y:Int),1),q):=by unfold run;rw[h];simp only[if_neg (show ¬y=16 by omega),if_neg (show ¬y=17 by omega),if_neg (show ¬y=18 by omega)]
theorem lens_done {count f:Nat} (h:¬l.length<count):lens s zs count (f+1) p l=.ok (l,p):=by rw[lens,if_neg h]
theorem lens_no {count f c:Nat} (h:l.length<count) (h2:run s zs p l=.error c):lens s zs count (f+1) p l=.error c:=by rw[lens,if_pos h,h2]
theorem lens_over {count f t q:Nat} {v:Int} (h:l.length<count) (h2:run s zs p l=.ok ((v,t),q)) (h3:¬l.length+t≤count):lens s zs count (f+1) p l=.error 1:=by rw[lens,if_pos h,h2];simp only[if_neg h3]
theorem lens_more {count f t q:Nat} {v:Int} (h:l.length<count) (h2:run s zs p l=.ok ((v,t),q)) (h3:l.length+t≤count):lens s zs count (f+1) p l=lens s zs count f q (l++List.replicate t v):=by rw[lens,if_pos h,h2];simp only[if_pos h3]
end
-- codes that a block may have
theorem come_cons (z:Int) (zs:List Int):come (z::zs)=come zs+(if z != 0 then 1 else 0):=by unfold come;rw[List.countP_cons]
theorem come_append (a b:List Int):come (a++b)=come a+come b:=by unfold come;exact List.countP_append ..
theorem may_taken {zs:List Int} {b:Bool} (h:may zs b=true):Cd.taken zs≤32768:=by
 unfold may at h
 split at h
 · rename_i h0
   have:∀l:List Int,come l=0→Cd.taken l=0:=by
    intro l
    induction l with
    | nil=>intro _;rfl
    | cons z l ih=>
     intro h
     rw[come_cons] at h
     have hz:z=0:=by
      by_cases e:z=0
      · exact e
      rw[if_pos (by simp[e])] at h;omega
     subst hz
     show Cd.part 0+Cd.taken l=0
     rw[ih (by omega)];rfl
   rw[this zs h0];omega
 split at h
 · have:=of_decide_eq_true h;omega
 have:=of_decide_eq_true h;omega
theorem may_ok {zs:List Int} {b:Bool} (hl:zs.length≤300) (hv:Cd.valid zs=true) (h:may zs b=true):Cd.okB zs=true:=by
 unfold Cd.okB
 rw[hv,decide_eq_true hl,decide_eq_true (may_taken h)];rfl
end Nf
open Go.RowKit

def fault (c:Int):Ending:=.panicked [{ v:=.iface 130 (.int .i64 c),recovered:=false }]

set_option maxHeartbeats 400000 in
theorem insist_yes (c:Int) (w:World):Calls Tryz.prog 107 #[.bool true,.int .i64 c] w fun e w'=>e=.returned (.tuple #[])∧w'=w:=by
 go_enter Tryz.func107,Tryz.ntmps107
 go_wp2_with fail
 go_end0
 exact⟨rfl,rfl⟩

set_option maxHeartbeats 400000 in
theorem insist_no (c:Int) (w:World):Calls Tryz.prog 107 #[.bool false,.int .i64 c] w fun e w'=>e=fault c∧w'=w:=by
 go_enter Tryz.func107,Tryz.ntmps107
 go_wp2_with fail
 exact⟨rfl,rfl,rfl⟩

theorem insist_of (b:Bool) (c:Int) (w:World) (h:b=true):Calls Tryz.prog 107 #[.bool b,.int .i64 c] w fun e w'=>e=.returned (.tuple #[])∧w'=w:=by subst h;exact insist_yes c w
theorem insist_not (b:Bool) (c:Int) (w:World) (h:b=false):Calls Tryz.prog 107 #[.bool b,.int .i64 c] w fun e w'=>e=fault c∧w'=w:=by subst h;exact insist_no c w

theorem catch_met (p:Addr) (c:Int) (x:Value) (older:List PanicEntry) (w:World) (hc:w.cell? p=some x) (hz:w.frozen? p=false):
 CallsD Tryz.prog 82 #[.pointer (some p)] (.panicking ({ v:=.iface 130 (.int .i64 c),recovered:=false }::older)) w fun e u' w'=>
  e=.returned (.tuple #[])∧u'=.panicking ({ v:=.iface 130 (.int .i64 c),recovered:=true }::older)∧w'=w.setCell p (.int .i64 c):=by
 have hta:∀w:World,(Instr.typeAssert (.iface 130 (.int .i64 c)) 20 130 false).run Tryz.prog w=.ok (.int .i64 c) w:=fun _=>by kernel_rfl
 have hne:∀w:World,(binOp BinOp.neq 20 (.iface 130 (.int .i64 c)) .nilIface).run Tryz.prog w=.ok (.bool true) w:=fun _=>by kernel_rfl
 refine callsD_of_wpS Tryz.func82 rfl fun c₀ cs hu=>?_
 apply wpS_seq
 apply wpS_region
 simp[wpOpsS,go_sem,recoverD,hu,Tryz.ntmps82,Exit.thenS]
 refine wpS_of_wp ?_
 simp only[Array.replicate_succ,Array.replicate_zero,List.push_toArray,List.append_toArray,List.nil_append,List.cons_append,List.setIfInBounds_toArray,List.set_cons_zero,List.set_cons_succ]
 go_wp2_with fail
 simp[bodyPostS,results,Tryz.results82]

theorem catch_idle (p:Addr) (w:World):
 CallsD Tryz.prog 82 #[.pointer (some p)] .returning w fun e u' w'=>e=.returned (.tuple #[])∧u'=.returning∧w'=w:=by
 refine callsD_of_wpS Tryz.func82 rfl fun c₀ cs hu=>?_
 apply wpS_seq
 apply wpS_region
 simp[wpOpsS,go_sem,recoverD,hu,Tryz.ntmps82,Exit.thenS]
 refine wpS_of_wp ?_
 simp only[Array.replicate_succ,Array.replicate_zero,List.push_toArray,List.append_toArray,List.nil_append,List.cons_append,List.setIfInBounds_toArray,List.set_cons_zero,List.set_cons_succ]
 go_wp2_with fail
 cases c₀
 simp_all [bodyPostS,results,Tryz.results82]

def Told (w w' w'':World) (c:Int):Prop:=w''=w'.setCell ⟨w.heap.size,0,none⟩ (.int .i64 c)

def FaultOut (w:World) (R:World→Prop) (Rc:Int→World→Prop) (e:Ending) (w'':World):Prop:=
 ∃w',Boxed w' w.heap.size 3 (.int .i64 0)∧((e=.returned (.int .i64 0)∧R w'∧Told w w' w'' 0)∨∃c,e=.returned (.int .i64 c)∧Rc c w'∧Told w w' w'' c)


theorem info_u8t:(Tryz.prog.info? 5).map (fun i=>(i.zero,i.size,i.bytes))=some (some (.int .u8 0),1,1):=by kernel_rfl

def u8V (l:List UInt8):List Value:=l.map fun c=>Value.int .u8 ((c.toNat:Nat):Int)
theorem u8V_len (l:List UInt8):(u8V l).length=l.length:=by simp[u8V]
theorem u8V_append (l k:List UInt8):u8V l++u8V k=u8V (l++k):=by simp[u8V]
def OwnT (w:World) (B:Nat) (v:Value) (n:Nat) (l:List UInt8):Prop:=w.ownsRow B 5 1 v n (u8V l)
theorem OwnT.len {w:World} {B n:Nat} {v:Value} {l:List UInt8} (h:OwnT w B v n l):l.length=n:=by
 have:=h.1
 rw[u8V_len] at this;omega
theorem OwnT.drewN {w:World} {B n:Nat} {v:Value} {l:List UInt8} (h:OwnT w B v n l) (m:Nat):OwnT (w.drewN m) B v n l:=h

theorem text_nilT (w:World):Sem.run Tryz.prog (convert 22 9 (.slice none 0 0)) w=.ok (.string ⟨#[]⟩) w:=by kernel_rfl

theorem map_toNat (l:List UInt8):(l.map UInt8.toNat).map UInt8.ofNat=l:=by
 rw[List.map_map]
 conv=>rhs;rw[←List.map_id l]
 apply List.map_congr_left
 intro c _
 simp

theorem OwnT.text {w:World} {B n:Nat} {v:Value} {l:List UInt8} (h:OwnT w B v n l):Sem.run Tryz.prog (convert 22 9 v) w=.ok (.string ⟨l.toArray⟩) w:=by
 have hl:=h.len
 rcases h.2 with⟨rfl,h0⟩|⟨g,cap,cur,rfl,_,hg,_,_,_,ht⟩
 · subst h0
   have:l=[]:=List.eq_nil_of_length_eq_zero hl
   subst this
   exact text_nilT w
 subst hl
 have:=run_text w ⟨g,0,none⟩ cap (l.map UInt8.toNat) (by
  intro j v hj
  have e:(l.map UInt8.toNat).map (fun n:Nat=>Value.int .u8 (n:Int))=u8V l:=by simp[u8V]
  rw[e] at hj
  exact (World.ownsRow.cells h rfl) j v hj)
 rw[map_toNat,List.length_map] at this
 exact this

theorem wpList_appT1 {ops:Array Oper} {rest:List Oper} {o:Oper} {a:Act} {Q:Exit→Act→World→Prop} (w0:World) (hgd:o.guard=none) (s x:Operand)
 (ho:o.op=.call { callee:=.builtin .append,args:=#[s,x],argTypes:=#[22,22] })
 (base:Nat) (v:Value) (n:Nat) (l:List UInt8) (z:Int) (c:UInt8) (hz:z=((c.toNat:Nat):Int)) (hs:a.eval s=v) (hown:OwnT w0 base v n l) (hx:a.eval x=.slice (some ⟨w0.heap.size,0,none⟩) 1 1) (hn:n≤2000000) (hb:base≤w0.heap.size)
 (h:∀g cap w',OwnT w' base (.slice (some ⟨g,0,none⟩) (n+1) cap) (n+1) (l++[c])→Grew base w0 w' v g→wpList Tryz.prog ops Q rest (a.put o.dst (.slice (some ⟨g,0,none⟩) (n+1) cap)) w'):
 wpList Tryz.prog ops Q (o::rest) a (w0.alloc (.cells #[.int .u8 z] 5)):=by
 subst hz
 obtain⟨i0,hi0,hz0,hz1,hz2⟩:=info_parts info_u8t
 refine wpList_append_lies _ hgd s x _ ho base 5 i0 (.int .u8 0) 1 1 Tryz.underlying22 hi0 hz0 hz1 hz2 rfl (by decide) v n (u8V l) hs (World.ownsRow.alloc (show World.ownsRow _ _ _ _ _ _ _ from hown) _) ⟨w0.heap.size,0,none⟩ 1 1 [.int .u8 ((c.toNat:Nat):Int)] hx rfl (World.news_of_block (heap_alloc_new _ _)) (fun u hu=>by simp at hu;subst hu;rfl) (by decide) (by unfold maxLen;omega) (by omega) (by rw[World.size_alloc];omega) _ rfl ?_
 intro g cap w' hown' hg hat hlt
 exact h g cap w' (by rw[show [Value.int .u8 ((c.toNat:Nat):Int)]=u8V [c] from rfl,u8V_append] at hown';exact hown') (Grew.of hown hg hat hlt)


structure Off (B O base:Nat) (w w':World):Prop where
 os:w'.os=w.os
 tape:w'.tape=w.tape
 output:w'.output=w.output
 size:w.heap.size≤w'.heap.size
 rest:∀k,k<base→k≠B→k≠O→w'.heap[k]?=w.heap[k]?
theorem Off.trans {B O base:Nat} {a b c:World} (h:Off B O base a b) (g:Off B O base b c):Off B O base a c:=
 ⟨g.os.trans h.os,g.tape.trans h.tape,g.output.trans h.output,Nat.le_trans h.size g.size,fun k hk h1 h2=>(g.rest k hk h1 h2).trans (h.rest k hk h1 h2)⟩
theorem Off.below {B O base n:Nat} {w w':World} (h:Off B O base w w') (h1:n≤B) (h2:n≤O) (h3:n≤base):Below n w w':=⟨h.os,h.tape,h.output,h.size,fun k hk=>h.rest k (by omega) (by omega) (by omega)⟩

theorem OwnT.shape {w:World} {B n:Nat} {v:Value} {l:List UInt8} (h:OwnT w B v n l):∃ao cap,v=.slice ao n cap:=by
 rcases h.2 with⟨rfl,h0⟩|⟨g,cap,cur,rfl,_⟩
 · exact⟨none,0,by rw[h0]⟩
 exact⟨_,_,rfl⟩


theorem Gt.go_no {s:Nat→Nat→Int} {bit:Nat→Nat} {m d v p t:Nat} (hb:bit p=t) (h:¬0≤s (d+1) (2*v+t)):Gt.go s bit (m+1) d v p=Gt.go s bit m (d+1) (2*v+t) (p+1):=by
 subst hb
 rw[Gt.go,if_neg h]
theorem Gt.go_yes {s:Nat→Nat→Int} {bit:Nat→Nat} {m d v p t:Nat} (hb:bit p=t) (h:0≤s (d+1) (2*v+t)):Gt.go s bit (m+1) d v p=some ((s (d+1) (2*v+t)).toNat,p+1):=by
 subst hb
 rw[Gt.go,if_pos h]
def atOf (R:Nat) (w:World):Nat:=match w.cell? ⟨R,2,none⟩ with|some (.int _ z)=>z.toNat|_=>0
theorem atOf_reads {w:World} {R q:Nat} {hi:Bool} {s:ByteArray} (h:Reads w R hi s q):atOf R w=q:=by
 unfold atOf
 rw[h.c2]
 simp


def isRow (T:TypeId):Option Obj→Prop
 | some (.cells _ T' _)=>T'=T
 | _=>False

structure InF (R base:Nat) (w w':World):Prop where
 os:w'.os=w.os
 tape:w'.tape=w.tape
 output:w'.output=w.output
 size:w.heap.size≤w'.heap.size
 rest:∀k,k<w.heap.size→k≠R→(k<base∨¬isRow 5 (w.heap[k]?))→w'.heap[k]?=w.heap[k]?
theorem InF.refl (R base:Nat) (w:World):InF R base w w:=⟨rfl,rfl,rfl,Nat.le_refl _,fun _ _ _ _=>rfl⟩
theorem InF.trans {R base:Nat} {a b c:World} (h:InF R base a b) (g:InF R base b c):InF R base a c:=
 ⟨g.os.trans h.os,g.tape.trans h.tape,g.output.trans h.output,Nat.le_trans h.size g.size,fun k hk h1 h2=>by
  have e:=h.rest k hk h1 h2
  exact (g.rest k (Nat.lt_of_lt_of_le hk h.size) h1 (by rw[e];exact h2)).trans e⟩
theorem InF.drewN {R base:Nat} {a b:World} (h:InF R base a b) (n:Nat):InF R base a (b.drewN n):=⟨h.os,h.tape,h.output,h.size,h.rest⟩
theorem InF.of_only {R base:Nat} {a b:World} (h:Only R a b):InF R base a b:=⟨h.below.os,h.below.tape,h.below.output,h.below.size,fun k hk h1 _=>h.rest k hk h1⟩
theorem InF.of_below {R base:Nat} {a b:World} (h:Below a.heap.size a b):InF R base a b:=⟨h.os,h.tape,h.output,h.size,fun k hk _ _=>h.block k hk⟩
theorem InF.block {R base k:Nat} {a b:World} {c:Array Value} {T:TypeId} {z:Nat×Nat} (h:InF R base a b) (hk:a.heap[k]?=some (.cells c T z)) (hR:k≠R) (hT:T≠5):b.heap[k]?=some (.cells c T z):=by
 rw[h.rest k (Array.getElem?_eq_some_iff.1 hk).1 hR (.inr (by rw[hk];exact hT)),hk]
theorem InF.tri {R base lo:Nat} {N:Nat→Nat→Option Nat} {S:Nat→Nat→Int} {a b:World} (h:InF R base a b) (t:Tri a lo N S) (hR:R<lo):Tri b lo N S:=
 ⟨fun d v b' hb=>⟨(t.node d v b' hb).1,h.block (t.node d v b' hb).2 (by have:=(t.node d v b' hb).1;omega) (by decide)⟩,t.inj,t.closed,t.dead⟩
theorem InF.ownI {R base B n:Nat} {v:Value} {l:List Int} {a b:World} (h:InF R base a b) (o:OwnI a B v n l) (hR:R<B):OwnI b B v n l:=by
 refine⟨o.1,?_⟩
 rcases o.2 with h0|⟨g,cap,cur,rfl,hgB,hg,r⟩
 · exact .inl h0
 exact .inr ⟨g,cap,cur,rfl,hgB,h.block hg (by omega) (by decide),r⟩

def In (w:World) (R base:Nat) (s:ByteArray) (p:Nat) (l:List UInt8) (lim:Nat) (vk fx:Value):Prop:=
 ∃vo,w.heap[R]?=some (.cells #[ordV false,.string s,.int .i64 (p:Int),vo,.int .i64 (lim:Int),vk,fx] 68 (0,0))∧OwnT w base vo l.length l
section
variable {w w':World} {R base p lim:Nat} {s:ByteArray} {l:List UInt8} {vk fx:Value}
theorem In.lt (h:In w R base s p l lim vk fx):R<w.heap.size:=by
 obtain⟨vo,h,_⟩:=h
 exact (Array.getElem?_eq_some_iff.1 h).1
theorem In.cells (h:In w R base s p l lim vk fx):w.cell? ⟨R,0,none⟩=some (ordV false)∧w.cell? ⟨R,1,none⟩=some (.string s)∧w.cell? ⟨R,2,none⟩=some (.int .i64 (p:Int))∧w.cell? ⟨R,4,none⟩=some (.int .i64 (lim:Int))∧w.cell? ⟨R,5,none⟩=some vk∧w.cell? ⟨R,6,none⟩=some fx:=by
 obtain⟨vo,h,_⟩:=h
 refine⟨?_,?_,?_,?_,?_,?_⟩<;>simp[World.cell?,h]
theorem In.froz (h:In w R base s p l lim vk fx) (j:Nat):w.frozen? ⟨R,j,none⟩=false:=by
 obtain⟨vo,h,_⟩:=h
 simp[World.frozen?,h]
theorem In.reads (h:In w R base s p l lim vk fx):Reads w R false s p:=by
 obtain⟨h0,h1,h2,_⟩:=h.cells
 exact⟨h0,h1,h2,h.froz 2⟩
theorem In.drewN (h:In w R base s p l lim vk fx) (m:Nat):In (w.drewN m) R base s p l lim vk fx:=h
theorem In.drew (h:In w R base s p l lim vk fx):In w.drew R base s p l lim vk fx:=h
theorem OwnT.away {B n k:Nat} {v:Value} {l:List UInt8} {c:Array Value} {T:TypeId} {z:Nat×Nat} (h:OwnT w B v n l) (hk:w.heap[k]?=some (.cells c T z)) (hT:T≠5):v.ownBlock≠some k:=by
 intro e
 rcases h.2 with⟨rfl,_⟩|⟨g,cap,cur,rfl,_,hg,_⟩
 · cases e
 cases e
 rw[hk] at hg
 cases hg
 exact hT rfl
theorem OwnT.besides {B n:Nat} {v:Value} {l:List UInt8} (h:OwnT w B v n l) (hb:∀k,v.ownBlock=some k→w'.heap[k]?=w.heap[k]?):OwnT w' B v n l:=by
 refine⟨h.1,?_⟩
 rcases h.2 with h0|⟨g,cap,cur,rfl,hgB,hg,r⟩
 · exact .inl h0
 exact .inr ⟨g,cap,cur,rfl,hgB,(hb g rfl).trans hg,r⟩
theorem In.move (h:In w R base s p l lim vk fx) (q:Nat):In (w.setCell ⟨R,2,none⟩ (.int .i64 (q:Int))) R base s q l lim vk fx∧Only R w (w.setCell ⟨R,2,none⟩ (.int .i64 (q:Int))):=by
 obtain⟨vo,h1,h2⟩:=h
 refine⟨⟨vo,?_,?_⟩,Only.own w R 2 _⟩
 · rw[setCell_eq_setRow w R 2 _ _ (0,0) _ h1,setRow_heap w R _ _ _ _ h1];simp
 exact h2.besides (fun k hk=>Below.heap_setCell w ⟨R,2,none⟩ _ k (fun e=>h2.away h1 (by decide) (by rw[hk,e])))
theorem In.setKinds (h:In w R base s p l lim vk fx) (v:Value):In (w.setCell ⟨R,5,none⟩ v) R base s p l lim v fx∧Only R w (w.setCell ⟨R,5,none⟩ v):=by
 obtain⟨vo,h1,h2⟩:=h
 refine⟨⟨vo,?_,?_⟩,Only.own w R 5 _⟩
 · rw[setCell_eq_setRow w R 5 _ _ (0,0) _ h1,setRow_heap w R _ _ _ _ h1];simp
 exact h2.besides (fun k hk=>Below.heap_setCell w ⟨R,5,none⟩ _ k (fun e=>h2.away h1 (by decide) (by rw[hk,e])))
theorem In.setFixed (h:In w R base s p l lim vk fx) (v:Value):In (w.setCell ⟨R,6,none⟩ v) R base s p l lim vk v∧Only R w (w.setCell ⟨R,6,none⟩ v):=by
 obtain⟨vo,h1,h2⟩:=h
 refine⟨⟨vo,?_,?_⟩,Only.own w R 6 _⟩
 · rw[setCell_eq_setRow w R 6 _ _ (0,0) _ h1,setRow_heap w R _ _ _ _ h1];simp
 exact h2.besides (fun k hk=>Below.heap_setCell w ⟨R,6,none⟩ _ k (fun e=>h2.away h1 (by decide) (by rw[hk,e])))
theorem In.kept (h:In w R base s p l lim vk fx) (b:Below w.heap.size w w'):In w' R base s p l lim vk fx:=by
 have hl:=h.lt
 obtain⟨vo,h1,h2⟩:=h
 exact⟨vo,(b.block R hl).trans h1,h2.besides (fun k hk=>b.block k (World.ownsRow.lt (show World.ownsRow _ _ _ _ _ _ _ from h2) k hk).2)⟩
theorem In.open (h:In w R base s p l lim vk fx):∃ao cap,w.cell? ⟨R,3,none⟩=some (.slice ao l.length cap)∧OwnT w base (.slice ao l.length cap) l.length l∧w.heap[R]?=some (.cells #[ordV false,.string s,.int .i64 (p:Int),.slice ao l.length cap,.int .i64 (lim:Int),vk,fx] 68 (0,0)):=by
 obtain⟨vo,h1,h2⟩:=h
 obtain⟨ao,cap,rfl⟩:=h2.shape
 exact⟨ao,cap,by simp[World.cell?,h1],h2,h1⟩
end
def Fails {α:Type} (r:Except Nat α) (R base:Nat) (w:World) (e:Ending) (w':World):Prop:=
 ∃c,r=.error c∧c≠0∧e=fault (c:Int)∧InF R base w w'
theorem Fails.mk {α:Type} {r:Except Nat α} {R base c:Nat} {w w':World} (h:r=.error c) (hc:c≠0) (hf:InF R base w w'):Fails r R base w (fault (c:Int)) w':=⟨c,h,hc,rfl,hf⟩

theorem nf_room (a : Addr) (w : World) : (method 296 57 (.pointer (some a)) "loop.example/intarsia/impl.room").run Tryz.prog w = .ok (127, .pointer (some a)) w := by kernel_rfl
theorem nf_next (a : Addr) (w : World) : (method 296 57 (.pointer (some a)) "loop.example/intarsia/impl.next").run Tryz.prog w = .ok (145, .pointer (some a)) w := by kernel_rfl
theorem nf_ahead (a : Addr) (w : World) : (nilAhead 296 57 (.pointer (some a)) "loop.example/intarsia/impl.next").run Tryz.prog w = .ok (some false) w := by kernel_rfl
def NFound (w:World) (R base:Nat) (s:ByteArray) (l:List UInt8) (lim:Nat) (vk fx:Value) (ans:Option (Nat×Nat)) (e:Ending) (w':World):Prop:=
 Only R w w'∧((ans=none∧e=.returned (.int .i64 (-1)))∨∃i q:Nat,ans=some (i,q)∧e=.returned (.int .i64 (i:Int))∧In w' R base s q l lim vk fx)
theorem atOf_in {w:World} {R base q lim:Nat} {s:ByteArray} {l:List UInt8} {vk fx:Value} (h:In w R base s q l lim vk fx):atOf R w=q:=atOf_reads h.reads

set_option maxHeartbeats 4000000 in
set_option maxRecDepth 20000 in
theorem nfFind_any (R B lo base p lim:Nat) (l:List UInt8) (vk fx:Value) (s:ByteArray) (N:Nat→Nat→Option Nat) (S:Nat→Nat→Int) (w:World) (hT:Tri w lo N S) (h0:N 0 0=some B) (h00:S 0 0=-1) (hR:In w R base s p l lim vk fx) (hRlo:R<lo) (hs:s.size≤9000) (hp:p≤8*s.size):
 Calls Tryz.prog 128 #[.pointer (some ⟨B,0,none⟩),.iface 57 (.pointer (some ⟨R,0,none⟩))] w (NFound w R base s l lim vk fx (Gt.go S (bitAt s false) (8*s.size-p) 0 0 p)):=by
 have m1:=fun w=>nf_room ⟨R,0,none⟩ w
 have m2:=fun w=>nf_next ⟨R,0,none⟩ w
 have m3:=fun w=>nf_ahead ⟨R,0,none⟩ w
 have HT:Hid (Tri w lo N S):=hT
 have HR0:Hid (In w R base s p l lim vk fx):=hR
 obtain⟨ans,hans⟩:∃ans,ans=Gt.go S (bitAt s false) (8*s.size-p) 0 0 p:=⟨_,rfl⟩
 have HA0:Hid (ans=if 0≤S 0 0 then some ((S 0 0).toNat,p+0) else Gt.go S (bitAt s false) (8*s.size-(p+0)) 0 0 (p+0)):=by
  show _=_
  rw[h00,if_neg (by omega)];exact hans
 rw[←hans]
 have HN0:Hid (N 0 0=some B):=h0
 clear hT hR h0 h00 hans
 go_enter Tryz.func128,Tryz.ntmps128
 go_wp2_with fail
 go_loopw [0] (fun x wr=>∃d v b:Nat,p+d≤8*s.size∧x=.pointer (some ⟨b,0,none⟩)∧Hid (N d v=some b)∧Hid (Only R w wr)∧Hid (In wr R base s (p+d) l lim vk fx)∧Hid (ans=if 0≤S d v then some ((S d v).toNat,p+d) else Gt.go S (bitAt s false) (8*s.size-(p+d)) d v (p+d))) (fun _ wr=>8*s.size-atOf R wr)
 case atStart=>exact⟨0,0,B,hp,rfl,HN0,Only.refl _ _,HR0,HA0⟩
 case round=>
  obtain⟨d,v,b,hd,rfl,HB,HO,HRD,HA⟩:=hrel
  clear HR0 HA0 HN0
  have hTw:Tri wr lo N S:=HT.out.same (fun k hk hl=>HO.out.rest k hk (by omega))
  obtain⟨c0,c1,c2,-⟩:=hTw.cells HB.out
  have hlo:=(hTw.node d v b HB.out).1
  have hbR:b≠R:=by omega
  have hblt:=hTw.lt HB.out
  by_cases hpos:0≤S d v
  · obtain⟨i,hi⟩:∃i:Nat,S d v=(i:Int):=⟨(S d v).toNat,by omega⟩
    have HF:Hid (NFound w R base s l lim vk fx ans (.returned (.int .i64 (i:Int))) wr):=by
     refine⟨HO.out,.inr ⟨i,p+d,?_,rfl,HRD.out⟩⟩
     rw[HA.out,if_pos hpos,hi,Int.toNat_natCast]
    rw[hi] at c0
    clear hi hpos HA HB hTw HRD
    go_wp2_with fail
    go_ret
    exact HF.out
  have hneg:S d v<0:=by omega
  obtain⟨y,hy⟩:∃y,y=S d v:=⟨_,rfl⟩
  rw[←hy] at c0 hneg
  have HA2:Hid (ans=Gt.go S (bitAt s false) (8*s.size-(p+d)) d v (p+d)):=by
   show _=_
   rw[HA.out,if_neg hpos]
  clear HA hpos hy
  by_cases hroom:p+d<8*s.size
  · obtain⟨t,ht⟩:∃t,t=bitAt s false (p+d):=⟨_,rfl⟩
    have ht2:t<2:=by rw[ht];exact bitAt_lt _ _ _
    have hbit:Hid (bitAt s false (p+d)=t):=ht.symm
    have HNX:Hid (∀(z:Int) (X:World),In X R base s (p+d) l lim vk fx→Calls Tryz.prog 145 #[.pointer (some ⟨R,0,none⟩),.int .i64 z] X fun e w'=>e=.returned (.int .i64 (t:Int))∧In w' R base s (p+(d+1)) l lim vk fx∧Only R X w'):=fun z X hX=>by
     refine (next_low R (p+d) s z X hX.reads hs (by omega)).mono ?_
     rintro e w' ⟨rfl,m,rfl⟩
     have hh:((p+d:Nat):Int)+1=((p+(d+1):Nat):Int):=by omega
     rw[hh]
     exact⟨by rw[ht],(hX.move (p+(d+1))).1.drewN m,(hX.move (p+(d+1))).2.drewN m⟩
    have hkid:wr.cell? ⟨b,1+t,none⟩=some (ptr (N (d+1) (2*v+t))):=by
     have:t=0∨t=1:=by omega
     rcases this with e|e
     · rw[e];exact c1
     rw[e];exact c2
    have HK:Hid (∀(X:World) (q:Nat),Only R (wr.drewN q) X→X.cell? ⟨b,1+t,none⟩=some (ptr (N (d+1) (2*v+t)))):=fun X q hX=>(hX.cell b (1+t) hblt hbR).trans hkid
    have HRM:Hid (Calls Tryz.prog 127 #[.pointer (some ⟨R,0,none⟩)] wr fun e w'=>e=.returned (.int .i64 (8*(s.size:Int)-((p+d:Nat):Int)))∧∃m,w'=wr.drewN m):=room_any R (p+d) false s wr HRD.out.reads hs (by omega)
    obtain⟨M,hM⟩:∃M:Int,M=8*(s.size:Int)-((p+d:Nat):Int):=⟨_,rfl⟩
    have hM1:¬M<1:=by omega
    rw[←hM] at HRM
    have HSZ:Hid (8*s.size-(p+d)=8*s.size-(p+(d+1))+1):=by show _=_;omega
    have HAT:Hid (atOf R wr=p+d):=atOf_in HRD.out
    have ht01:t=0∨t=1:=by omega
    have hd1:p+(d+1)≤8*s.size:=by omega
    clear hkid c1 c2 hTw ht hM hlo
    go_wp2_with fail
    refine HRM.out.mono ?_
    rintro e w3 ⟨rfl,m,hw3⟩
    have HW3:Hid (w3=wr.drewN m):=hw3
    have HR3:Hid (In w3 R base s (p+d) l lim vk fx):=by rw[hw3];exact HRD.out.drewN m
    clear hw3 HRM c0
    have HK3:Hid (∀(X:World) (q:Nat),Only R (w3.drewN q) X→X.cell? ⟨b,1+t,none⟩=some (ptr (N (d+1) (2*v+t)))):=fun X q hX=>HK.out X (m+q) (by rw[HW3.out,World.drewN_drewN] at hX;exact hX)
    have HO3:Hid (Only R w w3):=by rw[HW3.out];exact HO.out.drewN m
    clear HK HRD HO HW3
    have hfin:∀w4:World,In w4 R base s (p+(d+1)) l lim vk fx→Only R w3 w4→(N (d+1) (2*v+t)=none→NFound w R base s l lim vk fx ans (.returned (.int .i64 (-1))) w4):=fun w4 _ hO4 hno=>by
     refine⟨HO3.out.trans hO4,.inl ⟨?_,rfl⟩⟩
     rw[HA2.out,HSZ.out,Gt.go_no hbit.out (by rw[HT.out.dead _ _ hno];omega)]
     refine Gt.go_none (fun d v=>N d v=none) (fun d v q hq=>?_) _ _ _ _ hno
     have h1:N (d+1) (2*v+bitAt s false q)=none:=by
      rcases hx:N (d+1) (2*v+bitAt s false q) with _|y
      · rfl
      obtain⟨b',hb'⟩:=HT.out.closed d _ y hx
      have:=bitAt_lt s false q
      rw[show (2*v+bitAt s false q) / 2=v by omega,hq] at hb'
      cases hb'
     exact⟨HT.out.dead _ _ h1,h1⟩
    have HFIN:Hid (∀w4:World,In w4 R base s (p+(d+1)) l lim vk fx→Only R w3 w4→(N (d+1) (2*v+t)=none→NFound w R base s l lim vk fx ans (.returned (.int .i64 (-1))) w4)):=hfin
    have HGO:Hid (ans=if 0≤S (d+1) (2*v+t) then some ((S (d+1) (2*v+t)).toNat,p+(d+1)) else Gt.go S (bitAt s false) (8*s.size-(p+(d+1))) (d+1) (2*v+t) (p+(d+1))):=by
     show _=_
     rw[HA2.out,HSZ.out]
     by_cases hq:0≤S (d+1) (2*v+t)
     · rw[Gt.go_yes hbit.out hq,if_pos hq];rfl
     rw[Gt.go_no hbit.out hq,if_neg hq];rfl
    clear hfin HA2 HSZ hbit
    go_wp2_with fail
    rcases hx:N (d+1) (2*v+t) with _|b2
    · have HX:Hid (N (d+1) (2*v+t)=none):=hx
      rw[hx] at HK3
      have HK4:Hid (∀(X:World) (q:Nat),Only R (w3.drewN q) X→X.cell? ⟨b,1+t,none⟩=some (.pointer none)):=HK3.out
      clear hx HK3
      rcases ht01 with rfl|rfl
      all_goals
       go_region_with (go_at_call 145;refine (HNX.out _ _ ?_).mono ?_;(repeat (first|exact HR3.out|refine In.drew ?_));rintro e w4 ⟨rfl,hR4,hO4⟩;have k4:=HK4.out w4 1 hO4;have hO4':Only R w3 w4:=⟨⟨hO4.below.os,hO4.below.tape,hO4.below.output,hO4.below.size,hO4.below.block⟩,hO4.rest⟩;have HF4:Hid (NFound w R base s l lim vk fx ans (.returned (.int .i64 (-1))) w4):=HFIN.out w4 hR4 hO4' HX.out)
       all_goals go_wp2_with fail
       all_goals go_ret
       all_goals exact HF4.out
    have HX:Hid (N (d+1) (2*v+t)=some b2):=hx
    rw[hx] at HK3
    have HK4:Hid (∀(X:World) (q:Nat),Only R (w3.drewN q) X→X.cell? ⟨b,1+t,none⟩=some (.pointer (some ⟨b2,0,none⟩))):=HK3.out
    clear hx HFIN HK3
    rcases ht01 with rfl|rfl
    all_goals
     go_region_with (go_at_call 145;refine (HNX.out _ _ ?_).mono ?_;(repeat (first|exact HR3.out|refine In.drew ?_));rintro e w4 ⟨rfl,hR4,hO4⟩;have k4:=HK4.out w4 1 hO4;have hO4':Only R w3 w4:=⟨⟨hO4.below.os,hO4.below.tape,hO4.below.output,hO4.below.size,hO4.below.block⟩,hO4.rest⟩;have H4:Hid (Only R w w4∧In w4 R base s (p+(d+1)) l lim vk fx):=⟨HO3.out.trans hO4',hR4⟩;clear hR4 hO4 hO4')
     all_goals go_wp2_with fail
     all_goals
      go_roundw
      case rel=>exact⟨d+1,_,b2,hd1,rfl,HX,H4.out.1,H4.out.2,HGO⟩
      case measure=>rw[HAT.out,atOf_in H4.out.2];omega
  have hM1:(8*(s.size:Int)-((p+d:Nat):Int))<1:=by omega
  have HRM:Hid (Calls Tryz.prog 127 #[.pointer (some ⟨R,0,none⟩)] wr fun e w'=>e=.returned (.int .i64 (8*(s.size:Int)-((p+d:Nat):Int)))∧∃m,w'=wr.drewN m):=room_any R (p+d) false s wr HRD.out.reads hs (by omega)
  obtain⟨M,hM⟩:∃M:Int,M=8*(s.size:Int)-((p+d:Nat):Int):=⟨_,rfl⟩
  rw[←hM] at HRM hM1
  have HNO:Hid (ans=none):=by
   show _=_
   rw[HA2.out,show 8*s.size-(p+d)=0 by omega];rfl
  clear hM HA2 hTw c1 c2 HB
  go_wp2_with fail
  refine HRM.out.mono ?_
  rintro e w3 ⟨rfl,m,hw3⟩
  have HF:Hid (NFound w R base s l lim vk fx ans (.returned (.int .i64 (-1))) w3):=⟨by rw[hw3];exact HO.out.drewN m,.inl ⟨HNO.out,rfl⟩⟩
  clear hw3 HRM c0
  go_wp2_with fail
  go_ret
  exact HF.out

theorem nfNext_any (B p base lim:Nat) (l:List UInt8) (vk fx:Value) (s:ByteArray) (n:Int) (w:World) (h:In w B base s p l lim vk fx) (hs:s.size≤9000) (hp:p / 8<s.size):
 Calls Tryz.prog 145 #[.pointer (some ⟨B,0,none⟩),.int .i64 n] w fun e w'=>e=.returned (.int .i64 (bitAt s false p:Nat))∧In w' B base s (p+1) l lim vk fx∧Only B w w':=by
 refine (next_low B p s n w h.reads hs hp).mono ?_
 rintro e w' ⟨rfl,m,rfl⟩
 rw[show (p:Int)+1=((p+1:Nat):Int) by omega]
 exact⟨rfl,(h.move (p+1)).1.drewN m,(h.move (p+1)).2.drewN m⟩

set_option maxHeartbeats 1000000 in
theorem nfMove_low (B A S base lim:Nat) (l:List UInt8) (vk fx:Value) (s:ByteArray) (w:World) (h:In w B base s A l lim vk fx) (hs:s.size≤9000) (hAS:A+S≤8*s.size) (h24:S≤32):
 Calls Tryz.prog 40 #[.iface 157 (.pointer (some ⟨B,0,none⟩)),.func (.func 69) #[] #[],.int .i64 0,.int .i64 S] w fun e w'=>e=.returned (.tuple #[.int .i64 (Bg.low (fun i=>bitAt s false (A+i)) S:Nat),.bool true])∧In w' B base s (A+S) l lim vk fx∧Only B w w':=by
 have m1:=fun w=>method_room ⟨B,0,none⟩ w
 have m2:=fun w=>method_next ⟨B,0,none⟩ w
 have m3:=fun w=>ahead_next ⟨B,0,none⟩ w
 have HR:Hid (In w B base s A l lim vk fx):=h
 clear h
 go_enter Tryz.func40,Tryz.ntmps40
 go_wp2_with fail
 refine (room_any B A false s w HR.out.reads hs (by omega)).mono ?_
 rintro e w1 ⟨rfl,m,rfl⟩
 have hd:decide (8*(s.size:Int)-(A:Int)<(S:Int))=false:=by simp;omega
 go_wp2_with fail
 go_loopw [10,18] (fun n i wr=>∃k x:Nat,k≤S∧i=.int .i64 k∧x=Bg.low (fun i=>bitAt s false (A+i)) k∧n=.int .i64 x∧In wr B base s (A+k) l lim vk fx∧Only B w wr) (fun _ i _=>S-(intOf i).toNat)
 case atStart=>exact⟨0,0,Nat.zero_le _,rfl,rfl,rfl,HR.out.drewN m,(Only.refl _ _).drewN _⟩
 case round=>
  obtain⟨k,x,hk,rfl,hx,rfl,hRd,hbel⟩:=hrel
  clear HR
  have hb:=Bg.low_lt (fun i=>bitAt s false (A+i)) (fun i=>bitAt_lt _ _ _) k
  rw[←hx] at hb
  by_cases hlt:k<S
  · have hbl:=bitAt_lt s false (A+k)
    have HN:Hid (x+bitAt s false (A+k)*2^k=Bg.low (fun i=>bitAt s false (A+i)) (k+1)):=by rw[hx];rfl
    have HXX:Hid (∀(n:Int) (w:World),In w B base s (A+k) l lim vk fx→Calls Tryz.prog 145 #[.pointer (some ⟨B,0,none⟩),.int .i64 n] w fun e w'=>e=.returned (.int .i64 (bitAt s false (A+k):Nat))∧In w' B base s (A+k+1) l lim vk fx∧Only B w w'):=fun n w hr=>nfNext_any B (A+k) base lim l vk fx s n w hr hs (by omega)
    have HRD:Hid (In _ B base s (A+k) l lim vk fx):=hRd
    clear hx hRd
    generalize bitAt s false (A+k)=b at*
    obtain⟨y,hy⟩:∃y,y=x+b*2^k:=⟨_,rfl⟩
    have hor:=or_lowbit x b k y hb hbl (by omega) hy
    rw[←hy] at HN
    clear hy hb
    go_wp2_with fail
    refine (order_low _ _ _).mono ?_
    rintro e w3 ⟨rfl,hw3⟩
    subst hw3
    go_wp2_with fail
    go_region_with (go_at_call 145;refine (HXX.out _ _ ?_).mono ?_;(repeat (first|exact HRD.out|refine In.drew ?_));rintro e w4 ⟨rfl,hR4,b4⟩)
    all_goals have hb4:=hbel.trans (((Only.refl B w3).drewN 1).trans b4)
    all_goals clear b4 hbel HRD HXX
    all_goals go_wp2_with fail
    all_goals
     go_roundw
     case rel=>exact⟨k+1,y,by omega,by go_num,HN.out,rfl,hR4,hb4⟩
     case measure=>simp[intOf];omega
  have hk':k=S:=by omega
  subst hk'
  have HX:Hid (x=_):=hx
  have HRD:Hid (In _ B base s (A+k) l lim vk fx):=hRd
  clear hx hb hRd
  go_wp2_with fail
  go_ret2
  exact⟨ret_pair (by rw[HX.out]) rfl,HRD.out,hbel⟩


set_option maxHeartbeats 1000000 in
theorem nfMove_no (B A S base lim:Nat) (l:List UInt8) (vk fx:Value) (s:ByteArray) (w:World) (h:In w B base s A l lim vk fx) (hs:s.size≤9000) (hA:A≤8*s.size) (hAS:¬A+S≤8*s.size):
 Calls Tryz.prog 40 #[.iface 157 (.pointer (some ⟨B,0,none⟩)),.func (.func 69) #[] #[],.int .i64 0,.int .i64 S] w fun e w'=>e=.returned (.tuple #[.int .i64 0,.bool false])∧∃m,w'=w.drewN m:=by
 have m1:=fun w=>method_room ⟨B,0,none⟩ w
 have HR:Hid (In w B base s A l lim vk fx):=h
 clear h
 go_enter Tryz.func40,Tryz.ntmps40
 go_wp2_with fail
 refine (room_any B A false s w HR.out.reads hs (by omega)).mono ?_
 rintro e w1 ⟨rfl,m,rfl⟩
 have hd:decide (8*(s.size:Int)-(A:Int)<(S:Int))=true:=by simp;omega
 go_wp2_with fail
 go_ret2
 exact⟨rfl,m,rfl⟩

def NumEnd (w:World) (R base:Nat) (s:ByteArray) (p S:Nat) (l:List UInt8) (lim:Nat) (vk fx:Value) (e:Ending) (w':World):Prop:=
 (∃v,Nf.nxt s S p=.ok v∧e=.returned (.int .i64 (v:Int))∧In w' R base s (p+S) l lim vk fx∧Only R w w')∨(Nf.nxt s S p=.error 2∧e=fault 2∧InF R base w w')

set_option maxHeartbeats 1000000 in
theorem nfNumber_any (R p S base lim:Nat) (l:List UInt8) (vk fx:Value) (s:ByteArray) (w:World) (h:In w R base s p l lim vk fx) (hs:s.size≤9000) (hp:p≤8*s.size) (hS:S≤16):
 Calls Tryz.prog 87 #[.pointer (some ⟨R,0,none⟩),.int .i64 (S:Int)] w (NumEnd w R base s p S l lim vk fx):=by
 obtain⟨c0,c1,c2,_⟩:=h.cells
 have c0':w.cell? ⟨R,0,none⟩=some (.func (.func 69) #[] #[]):=c0
 by_cases hf:p+S≤8*s.size
 · have HM:Hid (Calls Tryz.prog 40 #[.iface 157 (.pointer (some ⟨R,0,none⟩)),.func (.func 69) #[] #[],.int .i64 0,.int .i64 S] w fun e w'=>e=.returned (.tuple #[.int .i64 ((Nf.num s S p:Nat):Int),.bool true])∧In w' R base s (p+S) l lim vk fx∧Only R w w'):=nfMove_low R p S base lim l vk fx s w h hs hf (by omega)
   have HN:Hid (Nf.nxt s S p=.ok (Nf.num s S p)):=Nf.nxt_yes hf
   generalize Nf.num s S p=v at*
   clear h c0 c1 c2 hf
   go_enter Tryz.func87,Tryz.ntmps87
   go_wp2_with fail
   refine HM.out.mono ?_
   rintro e w1 ⟨rfl,h1,h2⟩
   have HF:Hid (NumEnd w R base s p S l lim vk fx (.returned (.int .i64 (v:Int))) w1):=.inl ⟨v,HN.out,rfl,h1,h2⟩
   clear h1 h2 HM
   go_wp2_with fail
   refine (insist_of _ 2 _ rfl).mono ?_
   rintro e w2 ⟨rfl,hw2⟩
   subst hw2
   go_wp2_with fail
   go_ret
   exact HF.out
 have HM:Hid (Calls Tryz.prog 40 #[.iface 157 (.pointer (some ⟨R,0,none⟩)),.func (.func 69) #[] #[],.int .i64 0,.int .i64 S] w fun e w'=>e=.returned (.tuple #[.int .i64 0,.bool false])∧∃m,w'=w.drewN m):=nfMove_no R p S base lim l vk fx s w h hs hp hf
 have HN:Hid (Nf.nxt s S p=.error 2):=Nf.nxt_no hf
 clear h c0 c1 c2 hf
 go_enter Tryz.func87,Tryz.ntmps87
 go_wp2_with fail
 refine HM.out.mono ?_
 rintro e w1 ⟨rfl,m,hw1⟩
 have HF:Hid (NumEnd w R base s p S l lim vk fx (fault 2) w1):=.inr ⟨HN.out,rfl,by rw[hw1];exact (InF.refl _ _ _).drewN m⟩
 clear hw1 HM
 go_wp2_with fail
 refine (insist_not _ 2 _ rfl).mono ?_
 rintro e w2 ⟨rfl,hw2⟩
 subst hw2
 unfold fault
 go_wp2_with fail
 exact⟨rfl,HF.out⟩

theorem OwnT.isRow {w:World} {B n k:Nat} {v:Value} {l:List UInt8} (h:OwnT w B v n l) (hk:v.ownBlock=some k):isRow 5 (w.heap[k]?)∧B≤k:=by
 rcases h.2 with⟨rfl,_⟩|⟨g,cap,cur,rfl,hB,hg,_⟩
 · cases hk
 cases hk
 rw[hg]
 exact⟨rfl,hB⟩
theorem In.setBytes {w:World} {R base p lim:Nat} {s:ByteArray} {l:List UInt8} {vo vk fx v':Value} (h1:w.heap[R]?=some (.cells #[ordV false,.string s,.int .i64 (p:Int),vo,.int .i64 (lim:Int),vk,fx] 68 (0,0))) (h2:OwnT w base v' l.length l):
 In (w.setCell ⟨R,3,none⟩ v') R base s p l lim vk fx:=by
 refine⟨v',?_,h2.besides (fun k hk=>Below.heap_setCell w ⟨R,3,none⟩ _ k (fun e=>h2.away h1 (by decide) (by rw[hk,e])))⟩
 rw[setCell_eq_setRow w R 3 _ _ (0,0) _ h1,setRow_heap w R _ _ _ _ h1];simp

def PutEnd (w:World) (R base:Nat) (s:ByteArray) (p:Nat) (l:List UInt8) (lim:Nat) (vk fx:Value) (c:UInt8) (e:Ending) (w':World):Prop:=
 (l.length<lim∧e=.returned (.tuple #[])∧In w' R base s p (l++[c]) lim vk fx∧InF R base w w')∨(¬l.length<lim∧e=fault 3∧InF R base w w')

set_option maxHeartbeats 2000000 in
theorem nfPut_yes (R base p lim:Nat) (l:List UInt8) (vk fx:Value) (s:ByteArray) (c:UInt8) (w:World) (h:In w R base s p l lim vk fx) (hb:base≤w.heap.size) (hn:l.length<lim) (hl:lim≤5000):
 Calls Tryz.prog 108 #[.pointer (some ⟨R,3,none⟩),.int .u8 ((c.toNat:Nat):Int)] w fun e w'=>e=.returned (.tuple #[])∧In w' R base s p (l++[c]) lim vk fx∧InF R base w w':=by
 obtain⟨ao,cap,c0,hv,hc⟩:=h.open
 have c1:=h.cells.2.2.2.1
 obtain⟨n,hn0⟩:∃n,n=l.length:=⟨_,rfl⟩
 rw[←hn0] at c0 hv hc hn
 have HN:Hid (n=l.length):=hn0
 have HO:Hid (OwnT w base (.slice ao n cap) n l∧w.heap[R]?=some (.cells #[ordV false,.string s,.int .i64 (p:Int),.slice ao n cap,.int .i64 (lim:Int),vk,fx] 68 (0,0))):=⟨hv,hc⟩
 have hni:(n:Int)<(lim:Int):=by omega
 have hcl:=UInt8.toNat_lt c
 obtain⟨z,hz⟩:∃z:Int,z=((c.toNat:Nat):Int):=⟨_,rfl⟩
 have HZ:Hid (z=((c.toNat:Nat):Int)):=hz
 rw[←hz]
 clear h hv hc hz hcl hn0
 go_enter Tryz.func108,Tryz.ntmps108
 go_wp2_with fail
 go_quiet ((go_at_call 107;exact Calls.quiet_of_same (insist_of _ 3 _ (by first|rfl|simp<;>omega))))
 have c0':(w.drewN nq).cell? ⟨R,3,none⟩=some (.slice ao n cap):=c0
 have HO':Hid (OwnT (w.drewN nq) base (.slice ao n cap) n l∧(w.drewN nq).heap[R]?=some (.cells #[ordV false,.string s,.int .i64 (p:Int),.slice ao n cap,.int .i64 (lim:Int),vk,fx] 68 (0,0))∧InF R base w (w.drewN nq)∧base≤(w.drewN nq).heap.size):=⟨HO.out.1,HO.out.2,(InF.refl _ _ _).drewN nq,hb⟩
 clear c0 c1 HO hb hni
 generalize w.drewN nq=w1 at*
 go_wp2_with (at_builtin;refine wpList_appT1 w1 (by rfl) _ _ (by rfl) base _ n l _ c HZ.out (by rfl) HO'.out.1 (by rfl) (by omega) HO'.out.2.2.2 ?_)
 intro g cap4 w4 hown4 hgrow
 have hR1:R<w1.heap.size:=(Array.getElem?_eq_some_iff.1 HO'.out.2.1).1
 have hc4:w4.heap[R]?=some (.cells #[ordV false,.string s,.int .i64 (p:Int),.slice ao n cap,.int .i64 (lim:Int),vk,fx] 68 (0,0)):=(hgrow.block R hR1 (fun e=>HO'.out.1.away HO'.out.2.1 (by decide) e.symm)).trans HO'.out.2.1
 have k0:w4.cell? ⟨R,3,none⟩=some (.slice ao n cap):=by simp[World.cell?,hc4]
 have k1:w4.frozen? ⟨R,3,none⟩=false:=by simp[World.frozen?,hc4]
 have HF:Hid (In (w4.setCell ⟨R,3,none⟩ (.slice (some ⟨g,0,none⟩) (n+1) cap4)) R base s p (l++[c]) lim vk fx∧InF R base w (w4.setCell ⟨R,3,none⟩ (.slice (some ⟨g,0,none⟩) (n+1) cap4))):=by
  refine⟨In.setBytes hc4 (by rw[List.length_append,←HN.out];exact hown4),HO'.out.2.2.1.trans ⟨hgrow.os,hgrow.tape,hgrow.output,by rw[World.size_setCell];exact hgrow.size,fun k hk h1 h2=>?_⟩⟩
  refine (Below.heap_setCell w4 ⟨R,3,none⟩ _ k h1).trans (hgrow.block k hk (fun e=>?_))
  have:=HO'.out.1.isRow e.symm
  rcases h2 with h2|h2
  · omega
  exact h2 this.1
 clear hc4 hown4 hgrow HO'
 go_wp2_with fail
 go_end0
 exact⟨rfl,HF.out⟩

set_option linter.unusedSimpArgs false in
set_option maxHeartbeats 2000000 in
theorem nfPut_no (O lim n:Nat) (ao:Option Addr) (cap:Nat) (z:Int) (w:World) (c0:w.cell? ⟨O,3,none⟩=some (.slice ao n cap)) (c1:w.cell? ⟨O,4,none⟩=some (.int .i64 (lim:Int))) (hn:lim≤n):
 Calls Tryz.prog 108 #[.pointer (some ⟨O,3,none⟩),.int .u8 z] w fun e w'=>e=fault 3∧∃q,w'=w.drewN q:=by
 have hni:¬(n:Int)<(lim:Int):=by omega
 go_enter Tryz.func108,Tryz.ntmps108
 go_wp2_with fail
 refine wp_region_held_drew (S:=fun w'=>w'.cell? ⟨O,3,none⟩=some (.slice ao n cap)∧w'.cell? ⟨O,4,none⟩=some (.int .i64 (lim:Int))) (by kernel_rfl) ⟨c0,c1⟩ (fun _=>?_)
 refine tkI (i:=0) (v:=.pointer (some ⟨O,3,none⟩)) rfl (Or.inl ⟨by rfl,?_⟩) ⟨c0,c1⟩ ?_
 · rintro w' ⟨s1,s2⟩
   go_simp
   try omega
 try simp only[Act.put,List.setIfInBounds_toArray,List.set_cons_zero,List.set_cons_succ]
 refine tkI (i:=1) (v:=.pointer (some ⟨O,3,none⟩)) rfl (Or.inl ⟨by rfl,?_⟩) ⟨c0,c1⟩ ?_
 · rintro w' ⟨s1,s2⟩
   go_simp
   try omega
 try simp only[Act.put,List.setIfInBounds_toArray,List.set_cons_zero,List.set_cons_succ]
 refine tkI (i:=2) (v:=.pointer (some ⟨O,3,none⟩)) rfl (Or.inl ⟨by rfl,?_⟩) ⟨c0,c1⟩ ?_
 · rintro w' ⟨s1,s2⟩
   go_simp
   try omega
 try simp only[Act.put,List.setIfInBounds_toArray,List.set_cons_zero,List.set_cons_succ]
 refine tkI (i:=3) (v:=.slice ao n cap) rfl (Or.inl ⟨by rfl,?_⟩) ⟨c0,c1⟩ ?_
 · rintro w' ⟨s1,s2⟩
   go_simp
   try omega
 try simp only[Act.put,List.setIfInBounds_toArray,List.set_cons_zero,List.set_cons_succ]
 refine tkI (i:=4) (v:=.int .i64 (n:Int)) rfl (Or.inl ⟨by rfl,?_⟩) ⟨c0,c1⟩ ?_
 · rintro w' ⟨s1,s2⟩
   go_simp
   try omega
 try simp only[Act.put,List.setIfInBounds_toArray,List.set_cons_zero,List.set_cons_succ]
 refine tkI (i:=5) (v:=.pointer (some ⟨O,3,none⟩)) rfl (Or.inl ⟨by rfl,?_⟩) ⟨c0,c1⟩ ?_
 · rintro w' ⟨s1,s2⟩
   go_simp
   try omega
 try simp only[Act.put,List.setIfInBounds_toArray,List.set_cons_zero,List.set_cons_succ]
 refine tkI (i:=6) (v:=.pointer (some ⟨O,3,none⟩)) rfl (Or.inl ⟨by rfl,?_⟩) ⟨c0,c1⟩ ?_
 · rintro w' ⟨s1,s2⟩
   go_simp
   try omega
 try simp only[Act.put,List.setIfInBounds_toArray,List.set_cons_zero,List.set_cons_succ]
 refine tkI (i:=7) (v:=.pointer (some ⟨O,4,none⟩)) rfl (Or.inl ⟨by rfl,?_⟩) ⟨c0,c1⟩ ?_
 · rintro w' ⟨s1,s2⟩
   go_simp
   try omega
 try simp only[Act.put,List.setIfInBounds_toArray,List.set_cons_zero,List.set_cons_succ]
 refine tkI (i:=8) (v:=.int .i64 (lim:Int)) rfl (Or.inl ⟨by rfl,?_⟩) ⟨c0,c1⟩ ?_
 · rintro w' ⟨s1,s2⟩
   go_simp
   try omega
 try simp only[Act.put,List.setIfInBounds_toArray,List.set_cons_zero,List.set_cons_succ]
 refine tkI (i:=9) (v:=.bool false) rfl (Or.inl ⟨by rfl,?_⟩) ⟨c0,c1⟩ ?_
 · rintro w' ⟨s1,s2⟩
   go_simp
   try omega
 try simp only[Act.put,List.setIfInBounds_toArray,List.set_cons_zero,List.set_cons_succ]
 refine wpAnyH_ready (rs:=[10]) (by kernel_rfl) (by simp) ?_
 refine AllReadyH.cons rfl (fun K hK=>?_) AllReadyH.nil
 go_simp
 refine (insist_no 3 _).mono ?_
 rintro e w2 ⟨rfl,rfl⟩
 unfold fault
 go_wp2_with fail
 exact⟨rfl,rfl,1,rfl⟩

theorem nfPut_any (R base p lim:Nat) (l:List UInt8) (vk fx:Value) (s:ByteArray) (c:UInt8) (w:World) (h:In w R base s p l lim vk fx) (hb:base≤w.heap.size) (hl:lim≤5000):
 Calls Tryz.prog 108 #[.pointer (some ⟨R,3,none⟩),.int .u8 ((c.toNat:Nat):Int)] w (PutEnd w R base s p l lim vk fx c):=by
 by_cases hn:l.length<lim
 · refine (nfPut_yes R base p lim l vk fx s c w h hb hn hl).mono ?_
   rintro e w' ⟨h1,h2,h3⟩
   exact .inl ⟨hn,h1,h2,h3⟩
 obtain⟨ao,cap,c0,_,_⟩:=h.open
 refine (nfPut_no R lim l.length ao cap _ w c0 h.cells.2.2.2.1 (by omega)).mono ?_
 rintro e w' ⟨h1,q,rfl⟩
 exact .inr ⟨hn,h1,(InF.refl _ _ _).drewN q⟩

def AgnEnd (w:World) (R base:Nat) (s:ByteArray) (p:Nat) (l:List UInt8) (lim:Nat) (vk fx:Value) (S D:Nat) (e:Ending) (w':World):Prop:=
 (∃l2,Nf.rep lim l S D=.ok l2∧e=.returned (.tuple #[])∧In w' R base s p l2 lim vk fx∧InF R base w w'∧l2.length≤lim)∨Fails (Nf.rep lim l S D) R base w e w'

theorem row_at {w:World} {base n J cap:Nat} {ao:Option Addr} {l:List UInt8} (h:OwnT w base (.slice ao n cap) n l) (hJ:J<n):∃g,ao=some ⟨g,0,none⟩∧w.cell? ⟨g,J,none⟩=some (.int .u8 (((l.getD J 0).toNat:Nat):Int)):=by
 have hl:=h.len
 have hh:=h
 rcases h.2 with⟨e,h0⟩|⟨g,cp,cur,e,_⟩
 · omega
 cases e
 refine⟨g,rfl,?_⟩
 have:=World.ownsRow.cellAt (show World.ownsRow _ _ _ _ _ _ _ from hh) J (by omega)
 rw[this]
 unfold u8V
 rw[List.getElem?_map,List.getD_eq_getElem?_getD,List.getElem?_eq_getElem (by omega)]
 rfl

set_option maxHeartbeats 4000000 in
set_option maxRecDepth 100000 in
theorem nfAgain_any (R base p lim S D:Nat) (l:List UInt8) (vk fx:Value) (s:ByteArray) (w:World) (h:In w R base s p l lim vk fx) (hb:base≤w.heap.size) (hl:lim≤5000) (hq:l.length≤lim) (hD1:1≤D) (hD2:D≤100000) (hS:S≤1000):
 Calls Tryz.prog 123 #[.pointer (some ⟨R,3,none⟩),.int .i64 (S:Int),.int .i64 (D:Int)] w (AgnEnd w R base s p l lim vk fx S D):=by
 obtain⟨ao0,cp0,c0,_,_⟩:=h.open
 have HK:Hid (In w R base s p l lim vk fx∧InF R base w w):=⟨h,InF.refl _ _ _⟩
 obtain⟨m,hm⟩:∃m,m=l.length:=⟨_,rfl⟩
 have HM:Hid (m=l.length):=hm
 rw[←hm] at c0 hq
 clear h hm
 by_cases hD:D≤m
 · have hdi:(D:Int)≤(m:Int):=by omega
   go_enter Tryz.func123,Tryz.ntmps123
   go_wp2_with fail
   refine (insist_of _ 1 _ (by first|rfl|simp<;>omega)).mono ?_
   rintro e w1 ⟨rfl,hw1⟩
   replace hw1:=hw1.symm
   subst hw1
   clear c0
   go_wp2_with fail
   go_loopw [15] (fun i wr=>∃(c:Nat) (r:List UInt8) (N:Nat),c≤S∧i=.int .i64 (c:Int)∧Hid (r=To.again l D c∧N=r.length)∧N≤m+c∧m+c≤N∧N≤lim∧Hid (In wr R base s p r lim vk fx∧InF R base w wr)) (fun i _=>S-(intOf i).toNat)
   case atStart=>exact⟨0,l,m,Nat.zero_le _,rfl,⟨rfl,HM.out⟩,Nat.le_refl _,Nat.le_refl _,hq,HK⟩
   case round=>
    obtain⟨c,r,N,hc,rfl,HR,hN1,hN2,hN5,HX⟩:=hrel
    clear HK
    by_cases hcS:c<S
    · have hci:(c:Int)<(S:Int):=by omega
      obtain⟨ao,cp,k0,a2,_⟩:=HX.out.1.open
      rw[←HR.out.2] at a2 k0
      obtain⟨J,hJ⟩:∃J,J+D=N:=⟨N-D,by omega⟩
      have eJ:(N:Int)-(D:Int)=(J:Int):=by omega
      have hJw:IntKind.i64.wrap ((N:Int)-(D:Int))=(J:Int):=by rw[eJ];exact wrap_i64_nat J (by omega)
      have hJw2:IntKind.i64.wrap (J:Int)=(J:Int):=wrap_i64_nat J (by omega)
      have hJN:J<N:=by omega
      have hJi:(J:Int)<(N:Int):=by omega
      obtain⟨g2,rfl,hcell⟩:=row_at a2 hJN
      obtain⟨x,hx⟩:∃x,x=r.getD J 0:=⟨_,rfl⟩
      rw[←hx] at hcell
      have HR2:Hid (r++[x]=To.again l D (c+1)∧N+1=(r++[x]).length):=by
       have hJ':J=r.length-D:=by have:=HR.out.2;omega
       refine⟨?_,by rw[List.length_append,←HR.out.2];rfl⟩
       show r++[x]=To.again l D c++[(To.again l D c).getD ((To.again l D c).length-D) 0]
       rw[←HR.out.1,←hJ',hx]
      have HPE:Hid (Calls Tryz.prog 108 #[.pointer (some ⟨R,3,none⟩),.int .u8 ((x.toNat:Nat):Int)] wr.drew (PutEnd wr.drew R base s p r lim vk fx x)):=nfPut_any R base p lim r vk fx s x wr.drew HX.out.1.drew (Nat.le_trans hb HX.out.2.size) hl
      obtain⟨z,hz⟩:∃z:Int,z=((x.toNat:Nat):Int):=⟨_,rfl⟩
      rw[←hz] at hcell HPE
      have HXX:Hid (InF R base w wr):=HX.out.2
      clear a2 hx hz hJ HX
      go_wp2_with fail
      go_still_tail 14,(by kernel_rfl)
      repeat still_step
      go_wp2_with fail
      refine HPE.out.mono ?_
      rintro e w4 (⟨p1,rfl,p2,p3⟩|⟨p1,rfl,p3⟩)
      · rw[←HR.out.2] at p1
        have HK4:Hid (In w4 R base s p (r++[x]) lim vk fx∧InF R base w w4):=⟨p2,(HXX.out.drewN 1).trans p3⟩
        clear p2 p3 HPE k0 hcell
        go_wp2_with fail
        go_roundw
        case rel=>exact⟨c+1,r++[x],N+1,by omega,by go_num,HR2,by omega,by omega,by omega,HK4⟩
        case measure=>simp[intOf];omega
      rw[←HR.out.2] at p1
      have HF:Hid (AgnEnd w R base s p l lim vk fx S D (fault 3) w4):=.inr (Fails.mk (c:=3) (Nf.rep_long (by rw[←HM.out];exact hD) (by rw[←HM.out];omega)) (by decide) ((HXX.out.drewN 1).trans p3))
      clear p3 HPE k0 hcell
      unfold fault
      go_wp2_with fail
      exact⟨rfl,HF.out⟩
    have hci:¬(c:Int)<(S:Int):=by omega
    have hcS2:c=S:=by omega
    have HF:Hid (AgnEnd w R base s p l lim vk fx S D (.returned (.tuple #[])) wr):=.inl ⟨To.again l D S,Nf.rep_ok (by rw[←HM.out];exact hD) (by rw[←HM.out];omega),rfl,by rw[←hcS2,←HR.out.1];exact HX.out.1,HX.out.2,by rw[←hcS2,←HR.out.1,←HR.out.2];exact hN5⟩
    clear hcS2 HX
    go_wp2_with fail
    go_end0
    exact HF.out
 have hdi:¬(D:Int)≤(m:Int):=by omega
 have HF:Hid (AgnEnd w R base s p l lim vk fx S D (fault 1) w):=.inr (Fails.mk (c:=1) (Nf.rep_bad (by rw[←HM.out];exact hD)) (by decide) (InF.refl _ _ _))
 clear HK HM
 go_enter Tryz.func123,Tryz.ntmps123
 go_wp2_with fail
 refine (insist_not _ 1 _ (by first|rfl|simp<;>omega)).mono ?_
 rintro e w1 ⟨rfl,hw1⟩
 replace hw1:=hw1.symm
 subst hw1
 unfold fault
 go_wp2_with fail
 exact⟨rfl,HF.out⟩
end Go.Proofs.YtejebodgfoihkaaGreat
namespace Go.Proofs.YtejebodgfoihkaaGreat
namespace Nf

theorem valid_app {a b:List Int} (ha:Cd.valid a=true) (hb:Cd.valid b=true):Cd.valid (a++b)=true:=by rw[Cd.valid_append,ha,hb];rfl
theorem valid_rep {v:Int} (h0:0≤v) (h1:v≤15) (t:Nat):Cd.valid (List.replicate t v)=true:=by
 unfold Cd.valid
 rw[List.all_eq_true]
 intro x hx
 rw[List.eq_of_mem_replicate hx]
 unfold Cd.okLen
 simp[h0,h1]
theorem valid_get {l:List Int} (h:Cd.valid l=true) (i:Nat):0≤l.getD i 0∧l.getD i 0≤15:=by
 rw[List.getD_eq_getElem?_getD]
 by_cases hi:i<l.length
 · rw[List.getElem?_eq_getElem hi]
   unfold Cd.valid at h
   rw[List.all_eq_true] at h
   have:=h l[i] (List.getElem_mem hi)
   unfold Cd.okLen at this
   simp only[Bool.and_eq_true,decide_eq_true_eq] at this
   exact this
 rw[List.getElem?_eq_none (by omega)]
 exact⟨Int.le_refl _,by decide⟩
theorem valid_mem {l:List Int} (h:Cd.valid l=true):∀z∈l,0≤z∧z≤15:=by
 intro z hz
 unfold Cd.valid at h
 rw[List.all_eq_true] at h
 have:=h z hz
 unfold Cd.okLen at this
 simp only[Bool.and_eq_true,decide_eq_true_eq] at this
 exact this
theorem valid_of {l:List Int} (h:∀z∈l,0≤z∧z≤15):Cd.valid l=true:=by
 unfold Cd.valid
 rw[List.all_eq_true]
 intro z hz
 have:=h z hz
 unfold Cd.okLen
 simp[this.1,this.2]
theorem valid_sub {l m:List Int} (h:Cd.valid l=true) (hs:∀z∈m,z∈l):Cd.valid m=true:=valid_of (fun z hz=>valid_mem h z (hs z hz))
theorem run_ok {s:ByteArray} {zs l:List Int} {p t q:Nat} {v:Int} (hg:GoodC zs) (h:run s zs p l=.ok ((v,t),q)):1≤t∧t≤138∧p<q∧q≤8*s.size∧(zs.length≤19→Cd.valid l=true→0≤v∧v≤15):=by
 cases hy:sym s zs p with
 | error c=>rw[run_no hy] at h;cases h
 | ok r=>
  obtain⟨y,q1⟩:=r
  obtain⟨b1,b2,b3⟩:=sym_ok hg hy
  by_cases h16:y=16
  · subst h16
    by_cases hl:l.length=0
    · rw[run_16n hy hl] at h;cases h
    cases hn:nxt s 2 q1 with
    | error c=>rw[run_16s hy hl hn] at h;cases h
    | ok u=>
     rw[run_16 hy hl hn] at h
     have:=nxt_ok hn
     cases h
     exact⟨by omega,by omega,by omega,by omega,fun _ hv=>valid_get hv _⟩
  by_cases h17:y=17
  · subst h17
    cases hn:nxt s 3 q1 with
    | error c=>rw[run_17s hy hn] at h;cases h
    | ok u=>
     rw[run_17 hy hn] at h
     have:=nxt_ok hn
     cases h
     exact⟨by omega,by omega,by omega,by omega,fun _ _=>⟨by decide,by decide⟩⟩
  by_cases h18:y=18
  · subst h18
    cases hn:nxt s 7 q1 with
    | error c=>rw[run_18s hy hn] at h;cases h
    | ok u=>
     rw[run_18 hy hn] at h
     have:=nxt_ok hn
     cases h
     exact⟨by omega,by omega,by omega,by omega,fun _ _=>⟨by decide,by decide⟩⟩
  rw[run_one hy (by omega)] at h
  cases h
  exact⟨by omega,by omega,by omega,by omega,fun hz _=>⟨by omega,by omega⟩⟩
theorem lens_ok {s:ByteArray} {zs:List Int} {count:Nat} (hg:GoodC zs) (hz:zs.length≤19):∀{f p q:Nat} {l L:List Int},lens s zs count f p l=.ok (L,q)→p≤8*s.size→Cd.valid l=true→l.length≤count→Cd.valid L=true∧L.length=count∧q≤8*s.size
 | 0,_,_,_,_,h,_,_,_=>by cases h
 | f+1,p,q,l,L,h,hp,hv,hl=>by
  by_cases hlt:l.length<count
  · cases hr:run s zs p l with
    | error c=>rw[lens_no hlt hr] at h;cases h
    | ok r=>
     obtain⟨⟨v,t⟩,q1⟩:=r
     obtain⟨b1,b2,b3,b4,b5⟩:=run_ok hg hr
     by_cases ho:l.length+t≤count
     · rw[lens_more hlt hr ho] at h
       exact lens_ok hg hz h b4 (valid_app hv (valid_rep (b5 hz hv).1 (b5 hz hv).2 t)) (by rw[List.length_append,List.length_replicate];exact ho)
     rw[lens_over hlt hr ho] at h;cases h
  rw[lens_done hlt] at h
  cases h
  exact⟨hv,by omega,hp⟩
theorem lol_ok' {s:ByteArray}:∀{m i p q:Nat} {row L:List Int},lol s m i p row=.ok (L,q)→p≤8*s.size→Cd.valid row=true→Cd.valid L=true∧L.length=row.length∧q≤8*s.size
 | 0,_,p,q,row,L,h,hp,hv=>by
  unfold lol at h
  cases h
  exact⟨hv,rfl,hp⟩
 | m+1,i,p,q,row,L,h,hp,hv=>by
  cases hn:nxt s 3 p with
  | error c=>rw[lol_no hn] at h;cases h
  | ok v=>
   rw[lol_ok hn] at h
   have hb:=nxt_ok hn
   obtain⟨h1,h2,h3⟩:=lol_ok' h hb.1 (valid_of (fun z hz=>by
    rcases List.mem_or_eq_of_mem_set hz with h|h
    · exact valid_mem hv z h
    subst h;have:=hb.2.2;omega))
   exact⟨h1,by rw[h2,List.length_set],h3⟩
theorem body_ok {s:ByteArray} {lim:Nat} {A B:List Int} (hA:GoodC A) (hB:GoodC B):∀{f p q:Nat} {l L:List UInt8},body s lim A B f p l=.ok (L,q)→l.length≤lim→p<q∧q≤8*s.size∧L.length≤lim
 | 0,_,_,_,_,h,_=>by cases h
 | f+1,p,q,l,L,h,hl=>by
  cases hy:sym s A p with
  | error c=>rw[body_no hy] at h;cases h
  | ok r=>
   obtain⟨y,q1⟩:=r
   obtain⟨b1,b2,b3⟩:=sym_ok hA hy
   by_cases h1:y<256
   · by_cases h2:l.length<lim
     · rw[body_byte hy h1 h2] at h
       have:=body_ok hA hB h (by rw[List.length_append];exact h2)
       exact⟨by omega,this.2⟩
     rw[body_full hy h1 h2] at h;cases h
   by_cases h2:y=256
   · rw[body_end hy h2] at h
     cases h
     exact⟨b1,b2,hl⟩
   by_cases h3:286≤y
   · rw[body_bad hy h3] at h;cases h
   cases hc:copy s lim B (y-257) q1 l with
   | error c=>rw[body_stop hy (by omega) (by omega) hc] at h;cases h
   | ok r=>
    obtain⟨l2,q2⟩:=r
    rw[body_copy hy (by omega) (by omega) hc] at h
    have hcc:q1≤q2∧l2.length≤lim:=by
     cases h5:size s (y-257) q1 with
     | error c=>rw[copy_size h5] at hc;cases hc
     | ok r=>
      obtain⟨n,q3⟩:=r
      cases h6:dist s B q3 with
      | error c=>rw[copy_dist h5 h6] at hc;cases hc
      | ok r=>
       obtain⟨d,q4⟩:=r
       cases h7:rep lim l n d with
       | error c=>rw[copy_rep h5 h6 h7] at hc;cases hc
       | ok l3=>
        rw[copy_ok h5 h6 h7] at hc
        cases hc
        have e1:q1≤q3:=by
         unfold size at h5
         split at h5
         · cases h5
         cases h5;omega
        have e2:q3≤q2:=by
         unfold dist at h6
         split at h6
         · cases h6
         rename_i d0 q0 hd0
         have:=(sym_ok hB hd0).1
         split at h6
         · split at h6
           · cases h6
           cases h6;omega
         cases h6
        have e3:l2.length≤lim:=by
         unfold rep at h7
         split at h7
         · split at h7
           · cases h7;rw[To.again_len];assumption
           cases h7
         cases h7
        exact⟨by omega,e3⟩
    have:=body_ok hA hB h hcc.2
    exact⟨by omega,this.2⟩
theorem take_ok' {s:ByteArray} {lim:Nat}:∀{n p q:Nat} {l L:List UInt8},take s lim n p l=.ok (L,q)→p≤8*s.size→l.length≤lim→p≤q∧q≤8*s.size∧L.length≤lim
 | 0,p,q,l,L,h,hp,hl=>by
  unfold take at h
  cases h
  exact⟨Nat.le_refl _,hp,hl⟩
 | n+1,p,q,l,L,h,hp,hl=>by
  cases hn:nxt s 8 p with
  | error c=>rw[take_no hn] at h;cases h
  | ok v=>
   by_cases h2:l.length<lim
   · rw[take_ok hn h2] at h
     have:=take_ok' h (nxt_ok hn).1 (by rw[List.length_append];exact h2)
     exact⟨by omega,this.2⟩
   rw[take_full hn h2] at h;cases h
end Nf
open Go.RowKit

def textOf (hi:Bool) (l:List (Int×Int)):ByteArray:=⟨((Bp.answer hi l).map UInt8.ofNat).toArray⟩

theorem textOf_size {hi:Bool} {l:List (Int×Int)} (h:Bp.Fits l l.length):(textOf hi l).size=(Bp.tot l l.length+7) / 8:=by
 have:(textOf hi l).size=(Bp.answer hi l).length:=by simp[textOf,ByteArray.size]
 rw[this,Bp.answer_yes h]
 exact Bp.pack_len hi _ _

theorem byteAt_text {hi:Bool} {l:List (Int×Int)} (h:Bp.Fits l l.length) (j:Nat):byteAt (textOf hi l) j=(Bp.text hi l).getD j 0:=by
 have hb:(Bp.text hi l).getD j 0<256:=(Bp.inv hi (Bp.fOf hi l) (Bp.fOf_lt hi l) _).byte j
 unfold byteAt textOf
 rw[Bp.answer_yes h]
 show (((Bp.text hi l).map UInt8.ofNat).getD j 0).toNat=_
 rw[List.getD_eq_getElem?_getD,List.getD_eq_getElem?_getD,List.getElem?_map] at*
 cases e:(Bp.text hi l)[j]? with
 | none=>rfl
 | some x=>
  rw[e] at hb
  have hx:x<256:=hb
  show (UInt8.ofNat x).toNat=x
  simp[UInt8.toNat_ofNat']
  omega

theorem tot_mono (l:List (Int×Int)):∀j,j≤l.length→∀i,i≤j→Bp.tot l i≤Bp.tot l j:=by
 intro j
 induction j with
 | zero=>
  intro _ i hi
  have:i=0:=by omega
  subst this;exact Nat.le_refl _
 | succ j ih=>
  intro hj i hi
  by_cases e:i=j+1
  · subst e;exact Nat.le_refl _
  have:=ih (by omega) i (by omega)
  rw[Bp.tot_succ l j (by omega)];omega

theorem bitAt_text {hi:Bool} {l:List (Int×Int)} (h:Bp.Fits l l.length) (i:Nat) (hi':i<Bp.tot l l.length):bitAt (textOf hi l) hi i=Bp.fOf hi l i:=by
 have hv:=(Bp.inv hi (Bp.fOf hi l) (Bp.fOf_lt hi l) (Bp.tot l l.length)).bit i (by rw[Bp.pack_len];omega)
 unfold bitAt
 rw[byteAt_text h]
 exact hv.trans (if_pos hi')

theorem low_bits (V:Nat):∀S,Bg.low (fun q=>V / 2^q%2) S=V%2^S:=by
 intro S
 induction S with
 | zero=>simp[Bg.low,Nat.mod_one]
 | succ S ih=>rw[Bg.low,ih,Nat.mod_pow_succ,Nat.mul_comm]

theorem big_bits (V:Nat):∀S k,k≤S→Bg.big (fun q=>V / 2^(S-1-q)%2) k=V%2^S / 2^(S-k):=by
 intro S k
 induction k with
 | zero=>intro _;rw[Nat.sub_zero,Nat.div_eq_of_lt (Nat.mod_lt _ (Nat.pow_pos (by omega)))];rfl
 | succ k ih=>
  intro hk
  rw[Bg.big,ih (by omega)]
  have e1:S-k=(S-(k+1))+1:=by omega
  have e2:S-1-k=S-(k+1):=by omega
  rw[e2,e1,Nat.pow_succ,←Nat.div_div_eq_div_mul]
  have h3:V / 2^(S-(k+1))%2=V%2^S / 2^(S-(k+1))%2:=by
   have e3:2^S=2^(S-(k+1))*2^(k+1):=by rw[←Nat.pow_add];congr 1;omega
   rw[e3,Nat.mod_mul_right_div_self,Nat.pow_succ,Nat.mul_comm,Nat.mod_mul_right_mod]
  rw[h3]
  have:=Nat.div_add_mod (V%2^S / 2^(S-(k+1))) 2
  omega

theorem num_bits (hi:Bool) (V S:Nat) (h:V<2^S) (b:Nat→Nat) (hb:∀q,q<S→b q=Bp.bitIn hi V S q):Bg.num b S hi=V:=by
 have clow:∀k,k≤S→∀b c:Nat→Nat,(∀q,q<S→b q=c q)→Bg.low b k=Bg.low c k:=by
  intro k
  induction k with
  | zero=>intro _ b c _;rfl
  | succ k ih=>intro hk b c hbc;rw[Bg.low,Bg.low,ih (by omega) b c hbc,hbc k (by omega)]
 have cbig:∀k,k≤S→∀b c:Nat→Nat,(∀q,q<S→b q=c q)→Bg.big b k=Bg.big c k:=by
  intro k
  induction k with
  | zero=>intro _ b c _;rfl
  | succ k ih=>intro hk b c hbc;rw[Bg.big,Bg.big,ih (by omega) b c hbc,hbc k (by omega)]
 cases hi
 · show Bg.low b S=V
   rw[clow S (Nat.le_refl _) b (fun q=>V / 2^q%2) hb,low_bits,Nat.mod_eq_of_lt h]
 show Bg.big b S=V
 rw[cbig S (Nat.le_refl _) b (fun q=>V / 2^(S-1-q)%2) hb,big_bits V S S (Nat.le_refl _),Nat.sub_self,Nat.pow_zero,Nat.div_one,Nat.mod_eq_of_lt h]

theorem back {hi:Bool} {l:List (Int×Int)} (h:Bp.Fits l l.length) (k:Nat) (hk:k<l.length) (V S:Nat) (hV:(l[k]).1=(V:Int)) (hS:(l[k]).2=(S:Int)):
 Bg.num (fun q=>bitAt (textOf hi l) hi (Bp.tot l k+q)) S hi=V:=by
 have ho:=(h k hk hk).1
 have h4:(l[k]).1.toNat<2^(l[k]).2.toNat:=ho.2.2.2
 rw[hV,hS,Int.toNat_natCast,Int.toNat_natCast] at h4
 refine num_bits hi V S h4 _ (fun q hq=>?_)
 have ht:=Bp.tot_succ l k hk
 rw[hS,Int.toNat_natCast] at ht
 have hm:=tot_mono l l.length (Nat.le_refl _) (k+1) (by omega)
 rw[bitAt_text h _ (by omega)]
 have:=Bp.fOf_at hi l k q hk (by rw[hS,Int.toNat_natCast];exact hq)
 rw[hV,hS,Int.toNat_natCast,Int.toNat_natCast] at this
 exact this
end Go.Proofs.YtejebodgfoihkaaGreat
namespace Go.Proofs.YtejebodgfoihkaaGreat
namespace Gt

theorem big_same {b c:Nat→Nat}:∀k,(∀q,q<k→b q=c q)→Bg.big b k=Bg.big c k
 | 0,_=>rfl
 | k+1,h=>by rw[Bg.big,Bg.big,big_same k (fun q hq=>h q (by omega)),h k (by omega)]
theorem low_bit (b:Nat→Nat) (hb:∀i,b i<2):∀k i,i<k→Bg.low b k / 2^i%2=b i
 | 0,_,h=>by omega
 | k+1,i,h=>by
  have hl:=Bg.low_lt b hb k
  by_cases e:i=k
  · subst e
    simp only[Bg.low]
    rw[Nat.add_mul_div_right _ _ (Nat.pow_pos (by omega)),Nat.div_eq_of_lt hl,Nat.zero_add,Nat.mod_eq_of_lt (hb _)]
  have ih:=low_bit b hb k i (by omega)
  simp only[Bg.low]
  have e2:b k*2^k=(b k*2^(k-i-1)*2)*2^i:=by
   rw[Nat.mul_assoc,Nat.mul_assoc,←Nat.pow_succ',←Nat.pow_add]
   congr 2;omega
  rw[e2,Nat.add_mul_div_right _ _ (Nat.pow_pos (by omega))]
  omega
theorem turned_back {V L:Nat} (h:V<2^L):turned (turned V L) L=V:=by
 have e:Bg.big (fun q=>V / 2^(L-1-q)%2) L=V:=by rw[big_bits V L L (Nat.le_refl _),Nat.sub_self,Nat.pow_zero,Nat.div_one,Nat.mod_eq_of_lt h]
 have h1:=turned_big (fun q=>V / 2^(L-1-q)%2) (fun _=>Nat.mod_lt _ (by omega)) L
 rw[e] at h1
 rw[h1]
 unfold turned
 rw[big_same L (fun q hq=>low_bit (fun q=>V / 2^(L-1-q)%2) (fun _=>Nat.mod_lt _ (by omega)) L q hq)]
 exact e

theorem go_hits {zs:List Int} (hg:GoodC zs) {i L V:Nat} (hS:Mk.Sym zs i L V) (bit:Nat→Nat) (hb:∀j,bit j<2):∀r d p m,d+r=L→1≤r→r≤m→V=V / 2^r*2^r+Bg.big (fun j=>bit (p+j)) r→go (S zs zs.length) bit m d (V / 2^r) p=some (i,p+r)
 | 0,_,_,_,_,h,_,_=>by omega
 | r+1,d,p,0,_,_,h,_=>by omega
 | r+1,d,p,m+1,hd,_,hm,hV=>by
  have hp:0<2^r:=Nat.pow_pos (by omega)
  have hbl:=Bg.big_lt (fun j=>bit (p+1+j)) (fun j=>hb _) r
  have e1:Bg.big (fun j=>bit (p+j)) (r+1)=bit p*2^r+Bg.big (fun j=>bit (p+1+j)) r:=by
   rw[show r+1=1+r by omega,Bg.big_add]
   have e1:Bg.big (fun j=>bit (p+j)) 1=bit p:=by simp[Bg.big]
   have e2:(fun i=>bit (p+(1+i)))=fun j=>bit (p+1+j):=by funext j;rw[Nat.add_assoc]
   rw[e1,e2]
  have e3:V=(2*(V / 2^(r+1))+bit p)*2^r+Bg.big (fun j=>bit (p+1+j)) r:=by
   rw[e1] at hV
   have:V / 2^(r+1)*2^(r+1)=2*(V / 2^(r+1))*2^r:=by rw[Nat.pow_succ,Nat.mul_comm (2^r) 2,←Nat.mul_assoc,Nat.mul_comm _ 2]
   rw[this] at hV
   rw[Nat.add_mul];omega
  have e4:V / 2^r=2*(V / 2^(r+1))+bit p:=by
   generalize 2*(V / 2^(r+1))+bit p=x at e3
   rw[e3,Nat.mul_comm,Nat.mul_add_div hp,Nat.div_eq_of_lt hbl,Nat.add_zero]
  by_cases hr:r=0
  · subst hr
    rw[Nat.pow_zero,Nat.div_one] at e4
    refine go_hit ?_
    rw[←e4,show d+1=L by omega]
    exact S_hit (Nat.le_refl _) (fun i hi=>(hg.le i hi).2) hg.num hS.lt hS
  rw[go_miss]
  · rw[←e4] at e3 ⊢
    have:=go_hits hg hS bit hb r (d+1) (p+1) m (by omega) (by omega) (by omega) e3
    rw[this,show p+1+r=p+(r+1) by omega]
  rw[←e4]
  refine S_miss (Nat.le_refl _) (fun i hi=>(hg.le i hi).2) hg.num (fun j hj g=>?_)
  by_cases hji:i=j
  · subst hji
    have h1:=g.len
    have h2:=hS.len
    omega
  have:=g.apart hS hji (by omega)
  rw[show L-(d+1)=r by omega] at this
  exact this rfl

theorem get_hit {zs:List Int} (hg:GoodC zs) {i L V:Nat} (hS:Mk.Sym zs i L V) {bit:Nat→Nat} (hb:∀j,bit j<2) {M A:Nat} (hM:A+L≤M) (hV:Bg.big (fun j=>bit (A+j)) L=V):get zs bit M A=some (i,A+L):=by
 have hlt:=hS.bits hg.taken
 have h0:V / 2^L=0:=Nat.div_eq_of_lt hlt
 have:=go_hits hg hS bit hb L 0 A (M-A) (by omega) hS.pos (by omega) (by rw[h0];omega)
 rw[h0] at this
 exact this
end Gt
namespace Ty

def bl (s:ByteArray):List UInt8:=s.data.toList
theorem bl_len (s:ByteArray):(bl s).length=s.size:=by unfold bl;rw[Array.length_toList];rfl
theorem bl_get (s:ByteArray) {i:Nat} (h:i<s.size):(bl s)[i]'(by rw[bl_len];exact h)=UInt8.ofNat (b s i):=by
 rw[b_at h]
 unfold bl
 rw[UInt8.ofNat_toNat]
 simp[ByteArray.getElem_eq_getElem_data]
theorem take_more (s:ByteArray) {i:Nat} (h:i<s.size):(bl s).take (i+1)=(bl s).take i++[UInt8.ofNat (b s i)]:=by
 rw[List.take_succ_eq_append_getElem (by rw[bl_len];exact h),bl_get s h]
theorem again_take (s:ByteArray) {A d n:Nat} (hd:1≤d) (hdA:d≤A) (hn:A+n≤s.size) (hm:∀i,i<n→b s (A-d+i)=b s (A+i)):∀k,k≤n→To.again ((bl s).take A) d k=(bl s).take (A+k)
 | 0,_=>rfl
 | k+1,hk=>by
  have ih:=again_take s hd hdA hn hm k (by omega)
  rw[To.again,ih,show A+(k+1)=A+k+1 by omega,take_more s (by omega)]
  congr 1
  have hl:((bl s).take (A+k)).length=A+k:=by rw[List.length_take,bl_len];omega
  rw[hl,List.getD_eq_getElem?_getD,List.getElem?_eq_getElem (by rw[hl];omega),List.getElem_take]
  have e:=bl_get s (i:=A+k-d) (by omega)
  have hlt:A+k-d<(bl s).length:=by rw[bl_len];omega
  show [(bl s)[A+k-d]'hlt]=_
  rw[e,show A+k-d=A-d+k by omega,hm k (by omega)]
theorem tok_step {s:ByteArray} {A:Nat} (hs:s.size≤5000) (hA:A<s.size):To.step (tok s A) ((bl s).take A)=some ((bl s).take (A+adv s A)):=by
 have hl:((bl s).take A).length=A:=by rw[List.length_take,bl_len];omega
 unfold tok adv
 by_cases h:3≤(bst s A A).1
 · rw[if_pos h,if_pos h]
   rcases bst_is s A A (Nat.le_refl _) with h0|⟨h1,h2,h3⟩
   · omega
   have hin:=mat_in s 258 (A-(bst s A A).2) A (by omega)
   have hle:=bst_le s A A
   have hsame:∀i,i<(bst s A A).1→b s (A-(bst s A A).2+i)=b s (A+i):=fun i hi=>mat_same s 258 _ _ i (by omega)
   generalize bst s A A=g at*
   obtain⟨n,d⟩:=g
   dsimp only at*
   rw[To.step_again (by omega) (To.ok_more (by omega) rfl (by omega) (by omega) (by omega) (by rw[hl];omega)) (by rw[hl];simp;omega)]
   simp only[Int.toNat_natCast]
   rw[again_take s h1 h2 (by omega) hsame n (Nat.le_refl _)]
 rw[if_neg h,if_neg h]
 have hb:=b_lt s A
 rw[To.step_byte (To.ok_zero (by omega) (by omega) rfl) (by rw[hl];omega),Int.toNat_natCast,take_more s hA]
theorem all_get {s:ByteArray} (hs:s.size≤5000):∀(f A:Nat),s.size-A≤f→A≤s.size→To.get (all s f A) ((bl s).take A)=some (bl s)
 | 0,A,h,hA=>by
  rw[all,To.get,List.take_of_length_le (by rw[bl_len];omega)]
 | f+1,A,h,hA=>by
  rw[all]
  by_cases hlt:A<s.size
  · rw[if_pos hlt,To.get,tok_step hs hlt]
    exact all_get hs f (A+adv s A) (by have:=adv_pos s A;omega) (adv_in hlt)
  rw[if_neg hlt,To.get,List.take_of_length_le (by rw[bl_len];omega)]
theorem from_get {s:ByteArray} (hs:s.size≤5000):To.get (from_ s 0) []=some (bl s):=by
 have h:=all_get hs (s.size-0) 0 (by omega) (Nat.zero_le _)
 rw[List.take_zero] at h
 exact h
end Ty
open Go.RowKit

theorem addr_add (b off i:Nat):(⟨b,off,none⟩:Addr).add i=⟨b,off+i,none⟩:=by
 simp[Addr.add];try omega

theorem code8_of {w:World} {a:Option Addr} {len cap:Nat} {zs:List Int}
 (h:(a=none∧len=0∧cap=0∧zs=[])∨∃x,a=some x∧len≤cap∧cap≤maxLen∧zs.length=cap∧(∀i,i<zs.length→w.cell? (x.add i)=some (.int .u8 (zs.getD i 0)))∧∀n∈zs,(Lit.int .u8 n).wf=true):
 Code8 w a len cap:=by
 rcases h with⟨rfl,rfl,rfl,rfl⟩|⟨x,rfl,hl,hm,hz,hcell,hwz⟩
 · exact⟨Nat.le_refl _,Nat.zero_le _,.inl rfl⟩
 refine⟨hl,hm,?_⟩
 by_cases h0:len=0
 · exact .inl h0
 obtain⟨b,off,spot⟩:=x
 have hc:=hcell 0 (by omega)
 have hspot:spot=none:=by simpa [Addr.add] using World.cell?_spot hc
 subst hspot
 rw[addr_add] at hc
 refine .inr ⟨b,off,rfl,World.block_lt_of_cell? _ _ hc,fun i hi=>?_⟩
 have h1:=hcell i (by omega)
 rw[addr_add] at h1
 have hmem:zs.getD i 0∈zs:=by
  rw[List.getD_eq_getElem?_getD,List.getElem?_eq_getElem (by omega)]
  exact List.getElem_mem _
 have hw:=bounds_u8 (hwz _ hmem)
 exact⟨(zs.getD i 0).toNat,by omega,by rw[h1,Int.toNat_of_nonneg hw.1]⟩
end Go.Proofs.YtejebodgfoihkaaGreat
