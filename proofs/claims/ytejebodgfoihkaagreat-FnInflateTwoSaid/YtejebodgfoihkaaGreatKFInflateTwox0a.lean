/- Texts laid together: Base, RdWalks, StrWalks, OnlyB, TextWalks, DrawWalks, DrawDef, InWalks, DrawSums, IntsWalks, OwnRow, IntOwn, MarkWalks, AppInts, DfRow, AppOne, DfConcI, CodeMath, FxMath, FxI, TkRow, TkOwn, TyMath, DfRunM, BgMath, TurnWalks, SymWalks, BitRow, BitOwn, DfMath, MakeMath, MakeBound, CpMath, PowWalks, CodeWalks, MakeWalks, DfApp, DfOftM, CfMath, HpMath, CtMath, HpMem, CfInv, DrawRow, CfMem, ExCodeCost, ExCodeFull, BpMath, BpAnswer, PutMath, DfRunS, TyBack, TyEntry. -/
import Derived.OrdersHeld
import Derived.KernelRfl
import Derived.WalkKit
import Derived.WalkSpells
import Derived.WalkLawsBesides
import Derived.Laws.CopyOwn
import Derived.Deep.QuietTactic
import Derived.BigQuiet
import Derived.BigRegion
import Derived.Deep.RegionWith
import Derived.OpenShut
import Derived.Test.YtejebodgfoihkaaGreatProg
import Derived.Laws.BytesString
import Derived.Below
import Init
import Derived.Laws.MakeOwn
import Derived.Deep.AppendLies
import Derived.Laws.OwnMore
import Derived.Laws.Tables
import Derived.Lib.AppendZeros
import Derived.StillTailTactics
import Derived.RangeFuncBox
import Derived.RangeFuncLeaves
import Derived.RangeFuncWrites
import Derived.Shelf.Abstract
import Derived.OwnWalkIn
import Derived.TacticsInMore
import Derived.LoopNIn
import Derived.LoopIn
import Derived.Maps.OwnRows
import Derived.Maps.OwnSet
import Derived.Maps.Views
import Derived.WideKeyEntry
import Derived.DeepKeys4
/- Small facts that the walks share: endings, bytes of a text, bits of a 64-bit number. -/
namespace Go.Proofs.YtejebodgfoihkaaGreat
theorem litE : (∀ {α : Type} (l : List α) (i : Nat) (h : i < l.toArray.size), l.toArray[i] = l[i]'(by simpa using h)) ∧ (∀ {α : Type} (a : α) (l : List α) (i : Nat) (h : i + 1 < (a :: l).length), (a :: l)[i + 1] = l[i]'(by simpa using h)) ∧ (∀ {α : Type} (a : α) (l : List α) (h : 0 < (a :: l).length), (a :: l)[0] = a) ∧ (∀ {α : Type} (l : List α) (i : Nat) (a : α), l.toArray.setIfInBounds i a = (l.set i a).toArray) ∧ (∀ {α : Type} (a b : α) (l : List α), (a :: l).set 0 b = b :: l) ∧ (∀ {α : Type} (a b : α) (l : List α) (i : Nat), (a :: l).set (i + 1) b = a :: l.set i b) := ⟨fun _ _ _ => by simp, fun _ _ _ _ => rfl, fun _ _ _ => rfl, fun _ _ _ => by simp, fun _ _ _ => rfl, fun _ _ _ _ => rfl⟩
theorem tkH {P : Program} {ops : Array Oper} {Q : Exit → Act → World → Prop} {md : Region.Mode} {S : World → Prop} {i : Nat} {oi : Oper} {v : Value} {fuel : Nat} {listed : Array Bool} {a : Act} {w : World} (hi : ops[i]? = some oi) (hc : (Region.noSelect ops && (Region.free md ops listed i && (Region.ready md ops listed).contains i)) = true) (hQ : ∀ c a w, Q (.panic c) (a.put oi.dst v) w → Q (.panic c) a w) (hy : YieldsIf P ops S oi v a) (hS : S w) (h : wpAnyH P md ops Q S fuel (listed.setIfInBounds i true) (a.put oi.dst v) w) : wpAnyH P md ops Q S (fuel + 1) listed a w := by
  simp only [Bool.and_eq_true] at hc
  exact wpAnyH_take hi hc.1 hc.2.1 hc.2.2 hQ hy hS h
theorem tkI {P : Program} {ops : Array Oper} {Q : Exit → Act → World → Prop} {md : Region.Mode} {S : World → Prop} {i : Nat} {oi : Oper} {v : Value} {fuel : Nat} {listed : Array Bool} {a : Act} {w : World} (hi : ops[i]? = some oi) (hy : YieldsIf P ops S oi v a) (hS : S w) (h : wpAnyH P md ops Q S fuel (listed.setIfInBounds i true) (a.put oi.dst v) w) (hc : (Region.noSelect ops && (Region.free md ops listed i && (Region.ready md ops listed).contains i)) = true := by kernel_rfl) (hQ : ∀ c a w, Q (.panic c) (a.put oi.dst v) w → Q (.panic c) a w := by exact fun _ _ _ h => h) : wpAnyH P md ops Q S (fuel + 1) listed a w := tkH hi hc hQ hy hS h
open Go.RowKit

theorem ret_int {k:IntKind} {a b:Int} (h:a=b):Ending.returned (.int k a)=.returned (.int k b):=by rw[h]

theorem take_snoc (s:ByteArray) (k:Nat) (h:k<s.size):s.data.toList.take (k+1)=s.data.toList.take k++[s[k]]:=by
 rw[List.take_succ_eq_append_getElem (by simpa using h)];rfl

theorem ofInt_i64 (a:Nat) (ha:a<9223372036854775808):(BitVec.ofInt 64 (a:Int)).toNat=a:=by
 rw[BitVec.ofInt_natCast,BitVec.toNat_ofNat];exact Nat.mod_eq_of_lt (by omega)

theorem wrap_i64_nat (a:Nat) (ha:a<9223372036854775808):IntKind.i64.wrap (a:Int)=(a:Int):=by
 simp[IntKind.wrap,IntKind.bits,IntKind.signed];omega

theorem i64_or_nat (a b:Nat) (ha:a<9223372036854775808) (hb:b<9223372036854775808):bits .or .i64 (a:Int) (b:Int)=((a ||| b:Nat):Int):=by
 have hx:a ||| b<2^63:=Nat.or_lt_two_pow (by omega) (by omega)
 show IntKind.i64.wrap ((BitVec.ofInt 64 (a:Int) ||| BitVec.ofInt 64 (b:Int)).toNat:Int)=_
 rw[BitVec.toNat_or,ofInt_i64 a ha,ofInt_i64 b hb,wrap_i64_nat _ (by omega)]

theorem i64_and_nat (a b:Nat) (ha:a<9223372036854775808) (hb:b<9223372036854775808):bits .and .i64 (a:Int) (b:Int)=((a &&& b:Nat):Int):=by
 have hx:a &&& b<2^63:=Nat.and_lt_two_pow _ (by omega)
 show IntKind.i64.wrap ((BitVec.ofInt 64 (a:Int) &&& BitVec.ofInt 64 (b:Int)).toNat:Int)=_
 rw[BitVec.toNat_and,ofInt_i64 a ha,ofInt_i64 b hb,wrap_i64_nat _ (by omega)]

theorem i64_xor_nat (a b:Nat) (ha:a<9223372036854775808) (hb:b<9223372036854775808):bits .xor .i64 (a:Int) (b:Int)=((a ^^^ b:Nat):Int):=by
 have hx:a ^^^ b<2^63:=Nat.xor_lt_two_pow (by omega) (by omega)
 show IntKind.i64.wrap ((BitVec.ofInt 64 (a:Int) ^^^ BitVec.ofInt 64 (b:Int)).toNat:Int)=_
 rw[BitVec.toNat_xor,ofInt_i64 a ha,ofInt_i64 b hb,wrap_i64_nat _ (by omega)]

def byteAt (s:ByteArray) (i:Nat):Nat:=(s.data.toList.getD i 0).toNat
theorem byteAt_lt (s:ByteArray) (i:Nat):byteAt s i<256:=UInt8.toNat_lt _
theorem byteAt_eq (s:ByteArray) (i:Nat) (h:i<s.size):(s[i]).toNat=byteAt s i:=by
 unfold byteAt
 rw[List.getD_eq_getElem?_getD,List.getElem?_eq_getElem (by simpa using h)]
 rfl

theorem ret_pair {a b:Int} {x y:Bool} (h:a=b) (g:x=y):Ending.returned (.tuple #[.int .i64 a,.bool x])=.returned (.tuple #[.int .i64 b,.bool y]):=by rw[h,g]


def Row8 (w:World) (B:Nat) (a:Option Addr) (len:Nat):Prop:=
 len=0∨∃b off,a=some ⟨b,off,none⟩∧b<B∧∀i,i<len→∃c:Nat,c<256∧w.cell? ⟨b,off+i,none⟩=some (.int .u8 (c:Int))

def RdAt (w:World) (B p:Nat):Prop:=
 ∃a len cap,w.cell? ⟨B,0,none⟩=some (.slice a len cap)∧w.cell? ⟨B,1,none⟩=some (.int .i64 (p:Int))∧w.frozen? ⟨B,1,none⟩=false∧len≤2000∧Row8 w B a len

theorem RdAt.step {w:World} {B p:Nat} (h:RdAt w B p) (n:Nat):RdAt ((w.setCell ⟨B,1,none⟩ (.int .i64 ((p+1:Nat):Int))).drewN n) B (p+1):=by
 obtain⟨a,len,cap,h0,h1,hf,hl,hr⟩:=h
 refine⟨a,len,cap,?_,?_,?_,hl,?_⟩
 · rw[World.cell?_drewN,World.cell?_setCell_other _ _ _ _ (by simp)];exact h0
 · rw[World.cell?_drewN];exact World.cell?_setCell_same _ _ _ h1
 · rw[World.frozen?_drewN,World.frozen?_setCell];exact hf
 rcases hr with h|⟨b,off,rfl,hb,hc⟩
 · exact .inl h
 refine .inr ⟨b,off,rfl,hb,fun i hi=>?_⟩
 obtain⟨c,hc1,hc2⟩:=hc i hi
 refine⟨c,hc1,?_⟩
 rw[World.cell?_drewN,World.cell?_setCell_other _ _ _ _ (fun e=>absurd (congrArg Addr.block e) (by show ¬B=b;omega))];exact hc2

theorem mix_mod (X n:Int) (h0:0≤X) (h1:X≤1000000000000) (hn:1≤n):∃v:Nat,(bits .xor .i64 X (X / 64)).tmod n=(v:Int)∧(v:Int)<n:=by
 obtain⟨A,rfl⟩:=Int.eq_ofNat_of_zero_le h0
 obtain⟨N,rfl⟩:=Int.eq_ofNat_of_zero_le (show 0≤n by omega)
 have e:=i64_xor_nat A (A / 64) (by omega) (by omega)
 rw[show ((A / 64:Nat):Int)=(A:Int) / 64 from by omega] at e
 rw[e]
 refine⟨(A ^^^ A / 64)%N,?_,?_⟩
 · rw[Int.tmod_eq_emod_of_nonneg (by omega)];rfl
 have:=Nat.mod_lt (A ^^^ A / 64) (show 0<N by omega);omega

set_option maxHeartbeats 400000 in
theorem pick_far (B p len cap b off:Nat) (n:Int) (w:World) (hn:1≤n) (hn':n≤1000000000) (hp:p≤1000000000)
 (h0:w.cell? ⟨B,0,none⟩=some (.slice (some ⟨b,off,none⟩) len cap)) (h1:w.cell? ⟨B,1,none⟩=some (.int .i64 (p:Int))) (hf:w.frozen? ⟨B,1,none⟩=false) (hl:len≤2000)
 (hz:¬len=0) (hb:b<B) (hc:∀i,i<len→∃c:Nat,c<256∧w.cell? ⟨b,off+i,none⟩=some (.int .u8 (c:Int))) (hlt:¬p<len):
 Calls Tryz.prog 12 #[.pointer (some ⟨B,0,none⟩),.int .i64 n] w fun e w'=>∃v m:Nat,e=.returned (.int .i64 (v:Int))∧(v:Int)<n∧w'=(w.setCell ⟨B,1,none⟩ (.int .i64 ((p:Int)+1))).drewN m:=by
 have hd:decide (n<1)=false:=by simp;omega
 have hne:((len:Int)==0)=false:=by simp;omega
 have hlt':decide ((p:Int)<(len:Int))=false:=by simp;omega
 obtain⟨c,hc1,hc2⟩:=hc (p%len) (Nat.mod_lt _ (by omega))
 obtain⟨d,hd1,hd2⟩:=hc ((p*7+3)%len) (Nat.mod_lt _ (by omega))
 have hw1:(w.setCell ⟨B,1,none⟩ (.int .i64 ((p:Int)+1))).cell? ⟨b,off+p%len,none⟩=some (.int .u8 (c:Int)):=by
  rw[World.cell?_setCell_other _ _ _ _ (fun e=>absurd (congrArg Addr.block e) (by show ¬B=b;omega))];exact hc2
 have hw2:(w.setCell ⟨B,1,none⟩ (.int .i64 ((p:Int)+1))).cell? ⟨b,off+(p*7+3)%len,none⟩=some (.int .u8 (d:Int)):=by
  rw[World.cell?_setCell_other _ _ _ _ (fun e=>absurd (congrArg Addr.block e) (by show ¬B=b;omega))];exact hd2
 have m1:(p:Int)%(len:Int)<(len:Int):=Int.emod_lt_of_pos _ (by omega)
 have m2:0≤(p:Int)%(len:Int):=Int.emod_nonneg _ (by omega)
 have m3:((p:Int)*7+3)%(len:Int)<(len:Int):=Int.emod_lt_of_pos _ (by omega)
 have m4:0≤((p:Int)*7+3)%(len:Int):=Int.emod_nonneg _ (by omega)
 have m5:(p:Int) / (len:Int)≤(p:Int):=Int.ediv_le_self _ (by omega)
 have m6:0≤(p:Int) / (len:Int):=Int.ediv_nonneg (by omega) (by omega)
 clear hc hc2 hd2
 go_enter Tryz.func12,Tryz.ntmps12
 go_wp2
 go_region
 clear hw1 hw2 h0 h1 hf
 go_wp2
 go_ret
 obtain⟨v,e,hv⟩:=mix_mod ((c:Int)*131+(d:Int)*1117+(p:Int)*29+(p:Int) / (len:Int)*53) n (by omega) (by omega) hn
 exact⟨v,1,ret_int e,hv,rfl⟩

set_option maxHeartbeats 400000 in
theorem pick_any (B p:Nat) (n:Int) (w:World) (hr:RdAt w B p) (hn:1≤n) (hn':n≤1000000000) (hp:p≤1000000000):
 Calls Tryz.prog 12 #[.pointer (some ⟨B,0,none⟩),.int .i64 n] w fun e w'=>∃v m:Nat,e=.returned (.int .i64 (v:Int))∧(v:Int)<n∧w'=(w.setCell ⟨B,1,none⟩ (.int .i64 ((p+1:Nat):Int))).drewN m:=by
 obtain⟨a,len,cap,h0,h1,hf,hl,hrow⟩:=hr
 have hd:decide (n<1)=false:=by simp;omega
 have hcast:((p+1:Nat):Int)=(p:Int)+1:=by omega
 rw[hcast];clear hcast
 by_cases hz:len=0
 · subst hz
   go_enter Tryz.func12,Tryz.ntmps12
   go_wp2
   go_ret
   exact⟨0,0,rfl,by omega,rfl⟩
 rcases hrow with h|⟨b,off,rfl,hb,hc⟩
 · exact absurd h hz
 have hne:((len:Int)==0)=false:=by simp;omega
 by_cases hlt:p<len
 · obtain⟨c,hc1,hc2⟩:=hc p hlt
   have hc3:(w.setCell ⟨B,1,none⟩ (.int .i64 ((p:Int)+1))).cell? ⟨b,off+p,none⟩=some (.int .u8 (c:Int)):=by
    rw[World.cell?_setCell_other _ _ _ _ (fun e=>absurd (congrArg Addr.block e) (by show ¬B=b;omega))];exact hc2
   have hlt':(p:Int)<(len:Int):=by omega
   clear hc hc2
   go_enter Tryz.func12,Tryz.ntmps12
   go_wp2
   go_ret
   obtain⟨N,rfl⟩:=Int.eq_ofNat_of_zero_le (show 0≤n by omega)
   exact⟨c%N,0,rfl,by have:=Nat.mod_lt c (show 0<N by omega);omega,rfl⟩
 exact pick_far B p len cap b off n w hn hn' hp h0 h1 hf hl hz hb hc hlt

theorem push_all (ns:List Nat):∀a:Array UInt8,(ns.map (fun n:Nat=>(n:Int))).foldl (fun (r:ByteArray) (n:Int)=>r.push (UInt8.ofNat n.toNat)) ⟨a⟩=⟨a++(ns.map UInt8.ofNat).toArray⟩:=by
 induction ns with
 | nil=>intro a;simp
 | cons n ns ih=>
  intro a
  simp only[List.map_cons,List.foldl_cons]
  have e:(ByteArray.mk a).push (UInt8.ofNat (n:Int).toNat)=⟨a.push (UInt8.ofNat n)⟩:=by rw[Int.toNat_natCast];rfl
  rw[e,ih]
  simp

theorem run_text (w:World) (a:Addr) (cap:Nat) (ns:List Nat) (h:∀j v,(ns.map (fun n:Nat=>Value.int .u8 (n:Int)))[j]?=some v→w.cell? (a.add j)=some v):
 Sem.run Tryz.prog (convert 22 9 (.slice (some a) ns.length cap)) w=.ok (.string ⟨(ns.map UInt8.ofNat).toArray⟩) w:=by
 rw[run_convert_bytes_string w 22 9 5 _ _ _ Tryz.underlying22 Tryz.underlying5 Tryz.underlying9]
 have hl:=run_loadCells_list (P:=Tryz.prog) w a (ns.map (fun n:Nat=>Value.int .u8 (n:Int))) h
 rw[List.length_map] at hl
 rw[run_bytesToString w a ns.length cap (ns.map (fun n:Nat=>(n:Int))) (by rw[hl];congr 2;simp)]
 congr 2
 have h2:=push_all ns #[]
 rw[Array.empty_append] at h2
 exact h2

theorem run_text1 (w:World) (c:Nat) (b:Nat) (hb:b=w.heap.size):
 Sem.run Tryz.prog (convert 22 9 (.slice (some ⟨b,0,none⟩) 1 1)) (w.alloc (.cells #[.int .u8 (c:Int)] 5))=.ok (.string ⟨#[UInt8.ofNat c]⟩) (w.alloc (.cells #[.int .u8 (c:Int)] 5)):=by
 subst hb
 refine run_text _ ⟨w.heap.size,0,none⟩ 1 [c] ?_
 intro j v hj
 match j,hj with
 | 0,hj=>simp at hj;subst hj;simp[Addr.add]


structure Only (B:Nat) (w w':World):Prop where
 below:Below B w w'
 rest:∀k,k<w.heap.size→k≠B→w'.heap[k]?=w.heap[k]?

theorem Only.refl (B:Nat) (w:World):Only B w w:=⟨Below.refl _ _,fun _ _ _=>rfl⟩
theorem Only.trans {B:Nat} {a b c:World} (h:Only B a b) (g:Only B b c):Only B a c:=
 ⟨h.below.trans g.below,fun k hk hB=>(g.rest k (Nat.lt_of_lt_of_le hk h.below.size) hB).trans (h.rest k hk hB)⟩
theorem Only.alloc {B:Nat} {a b:World} (h:Only B a b) (hB:B<b.heap.size) (o:Obj):Only B a (b.alloc o):=
 ⟨h.below.alloc (Nat.le_of_lt hB) o,fun k hk hkB=>(Below.heap_alloc b o k (Nat.lt_of_lt_of_le hk h.below.size)).trans (h.rest k hk hkB)⟩
theorem Only.cell {B:Nat} {w w':World} (h:Only B w w'):∀k o,k<w.heap.size→k≠B→w'.cell? ⟨k,o,none⟩=w.cell? ⟨k,o,none⟩:=
 fun k o hk hB=>World.cell?_of_block (w:=w) (a:=⟨k,o,none⟩) (h.rest k hk hB)
theorem Only.own (w:World) (B i:Nat) (v:Value):Only B w (w.setCell ⟨B,i,none⟩ v):=
 ⟨(Below.refl B w).setCell (p:=⟨B,i,none⟩) (Nat.le_refl _) _,fun k _ hk=>Below.heap_setCell w ⟨B,i,none⟩ v k hk⟩
theorem Only.drewN {B:Nat} {w w':World} (h:Only B w w') (n:Nat):Only B w (w'.drewN n):=⟨⟨h.below.os,h.below.tape,h.below.output,h.below.size,h.below.block⟩,h.rest⟩

theorem RdAt.lt {w:World} {B p:Nat} (h:RdAt w B p):B<w.heap.size:=by
 obtain⟨a,len,cap,h0,_⟩:=h
 exact World.block_lt_of_cell? _ _ h0

theorem RdAt.kept {w w':World} {B p:Nat} (h:RdAt w B p) (hb:Below (B+1) w w'):RdAt w' B p:=by
 obtain⟨a,len,cap,h0,h1,hf,hl,hr⟩:=h
 refine⟨a,len,cap,(hb.cell (p:=⟨B,0,none⟩) (by show B<B+1;omega)).trans h0,(hb.cell (p:=⟨B,1,none⟩) (by show B<B+1;omega)).trans h1,(hb.frozen (p:=⟨B,1,none⟩) (by show B<B+1;omega)).trans hf,hl,?_⟩
 rcases hr with h|⟨b,off,rfl,hbB,hc⟩
 · exact .inl h
 refine .inr ⟨b,off,rfl,hbB,fun i hi=>?_⟩
 obtain⟨c,hc1,hc2⟩:=hc i hi
 exact⟨c,hc1,(hb.cell (p:=⟨b,off+i,none⟩) (by show b<B+1;omega)).trans hc2⟩

theorem RdAt.alloc {w:World} {B p:Nat} (h:RdAt w B p) (o:Obj):RdAt (w.alloc o) B p:=
 h.kept ((Below.refl _ _).alloc h.lt o)

theorem RdAt.drew {w:World} {B p:Nat} (h:RdAt w B p):RdAt w.drew B p:=h.kept (Below.refl _ _).drew

theorem step_only (w:World) (B:Nat) (v:Value) (m:Nat):Only B w ((w.setCell ⟨B,1,none⟩ v).drewN m):=
 ⟨below_drewN ((Below.refl B w).setCell (p:=⟨B,1,none⟩) (Nat.le_refl _) _) _,fun k _ hk=>Below.heap_setCell w ⟨B,1,none⟩ v k hk⟩

set_option maxHeartbeats 400000 in
theorem l1Many_any (s:ByteArray) (n:Nat) (w:World) (hs:s.size≤100) (hn:n≤10000):
 Calls Tryz.prog 13 #[.string s,.int .i64 n] w fun e w'=>(∃t:ByteArray,e=.returned (.string t)∧t.size=n*s.size)∧w'=w:=by
 go_enter Tryz.func13,Tryz.ntmps13
 go_wp2_with fail
 go_loop [5,6] (fun o i=>∃(k z:Nat) (t:ByteArray),k≤n∧i=.int .i64 k∧o=.string t∧z=k*s.size∧t.size=z) (fun _ i=>n-(intOf i).toNat)
 case atStart=>exact⟨0,0,⟨#[]⟩,Nat.zero_le _,rfl,rfl,by omega,rfl⟩
 case round=>
  obtain⟨k,z,t,hk,rfl,rfl,hz,ht⟩:=hrel
  have hz':z≤n*100:=by rw[hz];exact Nat.mul_le_mul hk hs
  have HZ:Hid (z=k*s.size):=hz
  have HT:Hid (t.size=z):=ht
  have htb:t.size≤1000000:=by omega
  clear hz ht hz'
  by_cases hlt:k<n
  · go_wp2_with fail
    go_round
    case rel=>exact⟨k+1,z+s.size,_,by omega,by go_num,rfl,by rw[HZ.out,Nat.succ_mul],by rw[ByteArray.size_append,HT.out]⟩
    case measure=>simp[intOf];omega
  have hk':k=n:=by omega
  subst hk'
  go_wp2_with fail
  go_ret
  exact⟨⟨t,rfl,by rw[HT.out,HZ.out]⟩,rfl⟩

set_option maxHeartbeats 400000 in
theorem of_any (B p L:Nat) (s0 s1 s2 s3:ByteArray) (w:World) (hr:RdAt w B p) (hp:p≤1000000) (hL:B<L)
 (c0:w.cell? ⟨L,0,none⟩=some (.string s0)) (c1:w.cell? ⟨L,1,none⟩=some (.string s1)) (c2:w.cell? ⟨L,2,none⟩=some (.string s2)) (c3:w.cell? ⟨L,3,none⟩=some (.string s3))
 (h0:s0.size≤10) (h1:s1.size≤10) (h2:s2.size≤10) (h3:s3.size≤10):
 Calls Tryz.prog 27 #[.pointer (some ⟨B,0,none⟩),.slice (some ⟨L,0,none⟩) 4 4] w fun e w'=>(∃t:ByteArray,e=.returned (.string t)∧t.size≤10)∧RdAt w' B (p+1)∧Only B w w':=by
 go_enter Tryz.func27,Tryz.ntmps27
 go_wp2_with fail
 refine (pick_any B p 4 w hr (by omega) (by omega) (by omega)).mono ?_
 rintro e w1 ⟨v,m,rfl,hv,rfl⟩
 have hR:=hr.step m
 have hbel:=step_only w B (.int .i64 ((p+1:Nat):Int)) m
 have hne:∀i,(⟨B,1,none⟩:Addr)≠⟨L,i,none⟩:=fun i e=>absurd (congrArg Addr.block e) (by show ¬B=L;omega)
 have d0:((w.setCell ⟨B,1,none⟩ (.int .i64 ((p+1:Nat):Int))).drewN m).cell? ⟨L,0,none⟩=some (.string s0):=(World.cell?_setCell_other _ _ _ _ (hne 0)).trans c0
 have d1:((w.setCell ⟨B,1,none⟩ (.int .i64 ((p+1:Nat):Int))).drewN m).cell? ⟨L,1,none⟩=some (.string s1):=(World.cell?_setCell_other _ _ _ _ (hne 1)).trans c1
 have d2:((w.setCell ⟨B,1,none⟩ (.int .i64 ((p+1:Nat):Int))).drewN m).cell? ⟨L,2,none⟩=some (.string s2):=(World.cell?_setCell_other _ _ _ _ (hne 2)).trans c2
 have d3:((w.setCell ⟨B,1,none⟩ (.int .i64 ((p+1:Nat):Int))).drewN m).cell? ⟨L,3,none⟩=some (.string s3):=(World.cell?_setCell_other _ _ _ _ (hne 3)).trans c3
 generalize (w.setCell ⟨B,1,none⟩ (.int .i64 ((p+1:Nat):Int))).drewN m=w1 at*
 clear c0 c1 c2 c3 hne hr
 have h4:v=0∨v=1∨v=2∨v=3:=by omega
 rcases h4 with rfl|rfl|rfl|rfl
 · go_wp2_with fail
   go_ret
   exact⟨⟨s0,rfl,h0⟩,hR,hbel⟩
 · go_wp2_with fail
   go_ret
   exact⟨⟨s1,rfl,h1⟩,hR,hbel⟩
 · go_wp2_with fail
   go_ret
   exact⟨⟨s2,rfl,h2⟩,hR,hbel⟩
 go_wp2_with fail
 go_ret
 exact⟨⟨s3,rfl,h3⟩,hR,hbel⟩


theorem of_new (B p:Nat) (s0 s1 s2 s3:ByteArray) (w:World) (hr:RdAt w B p) (hp:p≤1000000)
 (h0:s0.size≤10) (h1:s1.size≤10) (h2:s2.size≤10) (h3:s3.size≤10):
 Calls Tryz.prog 27 #[.pointer (some ⟨B,0,none⟩),.slice (some ⟨w.heap.size,0,none⟩) 4 4] (w.alloc (.cells #[.string s0,.string s1,.string s2,.string s3] 9)) fun e w'=>(∃t:ByteArray,e=.returned (.string t)∧t.size≤10)∧RdAt w' B (p+1)∧Only B w w':=by
 refine (of_any B p w.heap.size s0 s1 s2 s3 _ (hr.alloc _) hp hr.lt ?_ ?_ ?_ ?_ h0 h1 h2 h3).mono ?_
 · rw[World.cell?_alloc_at _ _ _ _ rfl];rfl
 · rw[World.cell?_alloc_at _ _ _ _ rfl];rfl
 · rw[World.cell?_alloc_at _ _ _ _ rfl];rfl
 · rw[World.cell?_alloc_at _ _ _ _ rfl];rfl
 rintro e w' ⟨h,hR,hb⟩
 exact⟨h,hR,((Only.refl B w).alloc hr.lt _).trans hb⟩

set_option maxHeartbeats 1000000 in
theorem text_two (B p:Nat) (w:World) (hr:RdAt w B p) (hp:p≤100000):
 Calls Tryz.prog 14 #[.pointer (some ⟨B,0,none⟩)] w fun e w'=>(∃t:ByteArray,e=.returned (.string t)∧t.size≤9001∧(t.size≤2400∨9000≤t.size))∧(∃q,q≤p+100∧RdAt w' B q)∧Only B w w':=by
 go_enter Tryz.func14,Tryz.ntmps14
 go_wp2_with fail
 refine (pick_any B p 150 w hr (by omega) (by omega) (by omega)).mono ?_
 rintro e w1 ⟨v,m,rfl,hv,rfl⟩
 have hR1:=hr.step m
 have bel1:=step_only w B (.int .i64 ((p+1:Nat):Int)) m
 generalize (w.setCell ⟨B,1,none⟩ (.int .i64 ((p+1:Nat):Int))).drewN m=w1 at*
 clear hr
 by_cases hv0:v=0
 · subst hv0
   go_wp2_with fail
   refine (pick_any B (p+1) 2 w1 hR1 (by omega) (by omega) (by omega)).mono ?_
   rintro e w2 ⟨u,m2,rfl,hu,rfl⟩
   have hR2:=hR1.step m2
   have bel2:=step_only w1 B (.int .i64 ((p+1+1:Nat):Int)) m2
   generalize (w1.setCell ⟨B,1,none⟩ (.int .i64 ((p+1+1:Nat):Int))).drewN m2=w2 at*
   go_wp2_with fail
   rw[show (9000:Int)+(u:Int)=((9000+u:Nat):Int) from by omega]
   refine (l1Many_any _ (9000+u) w2 (by decide) (by omega)).mono ?_
   rintro e w3 ⟨⟨t,rfl,ht⟩,rfl⟩
   have HT:Hid (t.size=_):=ht
   clear ht
   go_wp2_with fail
   go_ret
   exact⟨⟨t,rfl,by rw[HT.out];show (9000+u)*1≤9001;omega,.inr (by rw[HT.out];show 9000≤(9000+u)*1;omega)⟩,⟨p+2,by omega,hR2⟩,bel1.trans bel2⟩
 have hvb:((v:Int)==0)=false:=by simp;omega
 go_wp2_with fail
 refine (pick_any B (p+1) 7 w1 hR1 (by omega) (by omega) (by omega)).mono ?_
 rintro e w2 ⟨n,m2,rfl,hn,rfl⟩
 have hR2:=hR1.step m2
 have bel2:=bel1.trans (step_only w1 B (.int .i64 ((p+1+1:Nat):Int)) m2)
 generalize (w1.setCell ⟨B,1,none⟩ (.int .i64 ((p+1+1:Nat):Int))).drewN m2=w2 at*
 clear hR1 bel1
 go_wp2_with fail
 go_loopw [3,4] (fun o i wr=>∃(k q:Nat) (t:ByteArray),k≤6∧i=.int .i64 k∧o=.string t∧t.size+400*k≤2400∧q+14*k≤p+100∧RdAt wr B q∧Only B w wr) (fun _ i _=>(intOf i).toNat)
 case atStart=>exact⟨n,p+2,⟨#[]⟩,by omega,rfl,rfl,by show 0+400*n≤2400;omega,by omega,hR2,bel2⟩
 case round=>
  obtain⟨k,q,t,hk,rfl,rfl,ht,hq,hR,bel⟩:=hrel
  clear hR2 bel2
  by_cases hk0:0<k
  · go_wp2_with fail
    refine (pick_any B q 5 wr hR (by omega) (by omega) (by omega)).mono ?_
    rintro e w3 ⟨c,m3,rfl,hc,rfl⟩
    have hR3:=hR.step m3
    have bel3:=bel.trans (step_only wr B (.int .i64 ((q+1:Nat):Int)) m3)
    generalize (wr.setCell ⟨B,1,none⟩ (.int .i64 ((q+1:Nat):Int))).drewN m3=w3 at*
    clear hR bel
    by_cases c0:c=0
    · subst c0
      go_wp2_with fail
      refine (of_new B (q+1) ⟨#[97]⟩ ⟨#[98]⟩ ⟨#[0]⟩ ⟨#[255]⟩ w3 hR3 (by omega) (by decide) (by decide) (by decide) (by decide)).mono ?_
      rintro e w4 ⟨⟨t2,rfl,ht2⟩,hR4,bel4⟩
      have bel4':=bel3.trans bel4
      clear hR3 bel3 bel4
      go_wp2_with fail
      refine (pick_any B (q+1+1) 40 w4 hR4 (by omega) (by omega) (by omega)).mono ?_
      rintro e w5 ⟨u,m5,rfl,hu,rfl⟩
      have hR5:=hR4.step m5
      have bel5:=bel4'.trans (step_only w4 B (.int .i64 ((q+1+1+1:Nat):Int)) m5)
      generalize (w4.setCell ⟨B,1,none⟩ (.int .i64 ((q+1+1+1:Nat):Int))).drewN m5=w5 at*
      clear hR4 bel4'
      go_wp2_with fail
      refine (l1Many_any t2 u w5 (by omega) (by omega)).mono ?_
      rintro e w6 ⟨⟨t3,rfl,ht3⟩,rfl⟩
      have ht3':t3.size≤400:=by rw[ht3];exact Nat.le_trans (Nat.mul_le_mul (show u≤40 by omega) ht2) (by decide)
      clear ht3
      go_wp2_with fail
      go_roundw
      case rel=>exact⟨k-1,q+3,_,by omega,by go_num,rfl,by rw[ByteArray.size_append];omega,by omega,hR5,bel5⟩
      case measure=>simp[intOf];omega
    have hc0:((c:Int)==0)=false:=by simp;omega
    by_cases c1:c=1
    · subst c1
      go_wp2_with fail
      go_roundw
      case rel=>exact⟨k-1,q+1,_,by omega,by go_num,rfl,by rw[ByteArray.size_append];show t.size+25+_≤_;omega,by omega,hR3,bel3⟩
      case measure=>simp[intOf];omega
    have hc1:((c:Int)==1)=false:=by simp;omega
    by_cases c2:c=2
    · subst c2
      go_wp2_with fail
      refine (pick_any B (q+1) 12 w3 hR3 (by omega) (by omega) (by omega)).mono ?_
      rintro e w4 ⟨n2,m4,rfl,hn2,rfl⟩
      have hR4:=hR3.step m4
      have bel4:=bel3.trans (step_only w3 B (.int .i64 ((q+1+1:Nat):Int)) m4)
      generalize (w3.setCell ⟨B,1,none⟩ (.int .i64 ((q+1+1:Nat):Int))).drewN m4=w4 at*
      clear hR3 bel3
      go_wp2_with fail
      go_loopw [3,5] (fun o i wr=>∃(j q2:Nat) (t2:ByteArray),j≤11∧i=.int .i64 j∧o=.string t2∧t2.size+j≤t.size+11∧q2+j≤q+13∧RdAt wr B q2∧Only B w wr) (fun _ i _=>(intOf i).toNat)
      case atStart=>exact⟨n2,q+2,t,by omega,rfl,rfl,by omega,by omega,hR4,bel4⟩
      case round=>
       obtain⟨j,q2,t2,hj,rfl,rfl,ht2,hq2,hR5,bel5⟩:=hrel
       clear hR4 bel4
       by_cases hj0:0<j
       · go_wp2_with fail
         refine (pick_any B q2 256 _ hR5 (by omega) (by omega) (by omega)).mono ?_
         rintro e w6 ⟨u,m6,rfl,hu,hw6⟩
         have hR6:=hR5.step m6
         rw[←hw6] at hR6
         have bel6:=bel5.trans (step_only _ B (.int .i64 ((q2+1:Nat):Int)) m6)
         rw[←hw6] at bel6
         clear hw6 hR5 bel5
         have htx:=run_text1 w6 u w6.heap.size rfl
         go_wp2_with fail
         go_roundw
         case rel=>exact⟨j-1,q2+1,_,by omega,by go_num,rfl,by rw[ByteArray.size_append];show t2.size+1+_≤_;omega,by omega,hR6.alloc _,bel6.alloc hR6.lt _⟩
         case measure=>simp[intOf];omega
       have hj':j=0:=by omega
       subst hj'
       go_wp2_with fail
       go_roundw
       case rel=>exact⟨k-1,q2,t2,by omega,by go_num,rfl,by omega,by omega,hR5,bel5⟩
       case measure=>simp[intOf];omega
    have hc2:((c:Int)==2)=false:=by simp;omega
    go_wp2_with fail
    refine (of_new B (q+1) ⟨#[120]⟩ ⟨#[97,98,99]⟩ ⟨#[97,98,99,97,98,99,97,98,99,100]⟩ ⟨#[32]⟩ w3 hR3 (by omega) (by decide) (by decide) (by decide) (by decide)).mono ?_
    rintro e w4 ⟨⟨t2,rfl,ht2⟩,hR4,bel4⟩
    have bel4':=bel3.trans bel4
    clear hR3 bel3 bel4
    go_wp2_with fail
    go_roundw
    case rel=>exact⟨k-1,q+2,_,by omega,by go_num,rfl,by rw[ByteArray.size_append];omega,by omega,hR4,bel4'⟩
    case measure=>simp[intOf];omega
  have hk':k=0:=by omega
  subst hk'
  go_wp2_with fail
  go_ret
  exact⟨⟨t,rfl,by omega,.inl (by omega)⟩,⟨q,by omega,hR⟩,bel⟩
theorem text_any (B p:Nat) (w:World) (hr:RdAt w B p) (hp:p≤100000):
 Calls Tryz.prog 14 #[.pointer (some ⟨B,0,none⟩)] w fun e w'=>(∃t:ByteArray,e=.returned (.string t)∧t.size≤9001)∧(∃q,q≤p+100∧RdAt w' B q)∧Only B w w':=by
 refine (text_two B p w hr hp).mono ?_
 rintro e w' ⟨⟨t,h1,h2,_⟩,h3⟩
 exact⟨⟨t,h1,h2⟩,h3⟩

theorem below_alloc0 {a w:World} (h:Below a.heap.size a w) (o:Obj):Below a.heap.size a (w.alloc o):=h.alloc h.size o

def Code8 (w:World) (a:Option Addr) (len cap:Nat):Prop:=len≤cap∧cap≤maxLen∧Row8 w w.heap.size a len

theorem Code8.kept {w w':World} {a:Option Addr} {len cap:Nat} (h:Code8 w a len cap) (hb:Below w.heap.size w w'):Code8 w' a len cap:=by
 obtain⟨h1,h2,hr⟩:=h
 refine⟨h1,h2,?_⟩
 rcases hr with h|⟨b,off,rfl,hbB,hc⟩
 · exact .inl h
 refine .inr ⟨b,off,rfl,Nat.lt_of_lt_of_le hbB hb.size,fun i hi=>?_⟩
 obtain⟨c,hc1,hc2⟩:=hc i hi
 exact⟨c,hc1,(hb.cell (p:=⟨b,off+i,none⟩) hbB).trans hc2⟩

theorem Row8.less {w:World} {B:Nat} {a:Option Addr} {len k:Nat} (h:Row8 w B a len) (hk:k≤len):Row8 w B a k:=by
 rcases h with h|⟨b,off,rfl,hb,hc⟩
 · exact .inl (by omega)
 exact .inr ⟨b,off,rfl,hb,fun i hi=>hc i (by omega)⟩

theorem rd_new {w:World} {a:Option Addr} {len cap:Nat} (hr:Row8 w w.heap.size a len) (hl:len≤2000):
 RdAt (w.alloc (.cells #[.slice a len cap,.int .i64 0] 71)) w.heap.size 0:=by
 refine⟨a,len,cap,?_,?_,?_,hl,?_⟩
 · rw[World.cell?_alloc_at _ _ _ _ rfl];rfl
 · rw[World.cell?_alloc_at _ _ _ _ rfl];rfl
 · rw[World.frozen?_alloc_at _ _ _ _ rfl]
 rcases hr with h|⟨b,off,rfl,hb,hc⟩
 · exact .inl h
 refine .inr ⟨b,off,rfl,hb,fun i hi=>?_⟩
 obtain⟨c,hc1,hc2⟩:=hc i hi
 exact⟨c,hc1,(World.cell?_alloc_past _ _ _ hb).trans hc2⟩

set_option maxHeartbeats 400000 in
theorem open_any (a:Option Addr) (len cap:Nat) (w:World) (h:Code8 w a len cap):
 Calls Tryz.prog 11 #[.slice a len cap] w fun e w'=>e=.returned (.pointer (some ⟨w.heap.size,0,none⟩))∧RdAt w' w.heap.size 0∧Below w.heap.size w w':=by
 obtain⟨h1,h2,hr⟩:=h
 unfold maxLen at h2
 by_cases hb:2000<len
 · have hR:=rd_new (cap:=cap) (hr.less (show 2000≤len by omega)) (by omega)
   have hcap:(2000:Int)≤(cap:Int):=by omega
   rcases hr with h|⟨b,off,rfl,hbB,hc⟩
   · omega
   clear hc
   go_enter Tryz.func11,Tryz.ntmps11
   go_wp2
   go_ret
   exact⟨rfl,hR,(Below.refl _ _).alloc (Nat.le_refl _) _⟩
 have hR:=rd_new (cap:=cap) hr (by omega)
 clear hr
 go_enter Tryz.func11,Tryz.ntmps11
 go_wp2
 go_ret
 exact⟨rfl,hR,(Below.refl _ _).alloc (Nat.le_refl _) _⟩

theorem pick_named (B p:Nat) (n:Int) (w:World) (hr:RdAt w B p) (hn:1≤n) (hn':n≤1000000000) (hp:p≤1000000000):
 Calls Tryz.prog 12 #[.pointer (some ⟨B,0,none⟩),.int .i64 n] w fun e w'=>∃v:Nat,e=.returned (.int .i64 (v:Int))∧(v:Int)<n∧RdAt w' B (p+1)∧Only B w w'∧w'.heap.size=w.heap.size:=by
 refine (pick_any B p n w hr hn hn' hp).mono ?_
 rintro e w' ⟨v,m,rfl,hv,rfl⟩
 exact⟨v,rfl,hv,hr.step m,step_only w B _ m,by simp⟩

def DefDrawn (w:World) (e:Ending) (w':World):Prop:=(∃(t:ByteArray) (k:Int),e=.returned (.tuple #[.string t,.int .i64 k])∧t.size≤9001∧-1≤k∧k≤3)∧Below w.heap.size w w'
theorem kinds_get (v:Nat) (hv:v<6):
 ∃s:Int,(-1≤s∧s≤3)∧(#[Value.int .i64 0,Value.int .i64 1,Value.int .i64 2,Value.int .i64 2,Value.int .i64 3,Value.int .i64 (-1)])[v]?=some (Value.int .i64 s):=by
 have h:v=0∨v=1∨v=2∨v=3∨v=4∨v=5:=by omega
 rcases h with rfl|rfl|rfl|rfl|rfl|rfl
 · exact⟨0,by omega,rfl⟩
 · exact⟨1,by omega,rfl⟩
 · exact⟨2,by omega,rfl⟩
 · exact⟨2,by omega,rfl⟩
 · exact⟨3,by omega,rfl⟩
 exact⟨-1,by omega,rfl⟩

set_option maxHeartbeats 4000000 in
set_option maxRecDepth 20000 in
theorem drawDeflate_any (a:Option Addr) (len cap:Nat) (w:World) (h:Code8 w a len cap):
 Calls Tryz.prog 5 #[.slice a len cap] w (DefDrawn w):=by
 go_enter Tryz.func5,Tryz.ntmps5
 go_wp2_with fail
 refine (open_any a len cap w h).mono ?_
 rintro e w1 ⟨rfl,hR,bel⟩
 go_wp2_with fail
 refine (pick_named w.heap.size 0 30 w1 hR (by omega) (by omega) (by omega)).mono ?_
 rintro e w2 ⟨v,rfl,hv,hR2,hO2,-⟩
 have H2:Hid (RdAt w2 w.heap.size 1∧Below w.heap.size w w2):=⟨hR2,bel.trans hO2.below⟩
 clear hR hR2 hO2 bel h
 by_cases hv0:v=0
 · subst hv0
   go_wp2_with fail
   refine (pick_named w.heap.size 1 2 _ H2.out.1 (by omega) (by omega) (by omega)).mono ?_
   rintro e w3 ⟨x,rfl,hx,hR3,hO3,-⟩
   have H3:Hid (RdAt w3 w.heap.size 2∧Below w.heap.size w w3):=⟨hR3,H2.out.2.trans hO3.below⟩
   clear hR3 hO3 H2
   obtain⟨y,hy⟩:∃y:Nat,y=5000+x:=⟨_,rfl⟩
   have ey:(5000:Int)+(x:Int)=(y:Int):=by omega
   have hyb:y≤5001:=by omega
   clear hy
   have HM:Hid (∀w:World,Calls Tryz.prog 13 #[.string ⟨#[116]⟩,.int .i64 (y:Int)] w fun e w'=>(∃t:ByteArray,e=.returned (.string t)∧t.size≤9001)∧w'=w):=fun w=>by
    refine (l1Many_any ⟨#[116]⟩ y w (by decide) (by omega)).mono ?_
    rintro e w' ⟨⟨t,rfl,ht⟩,rfl⟩
    refine⟨⟨t,rfl,?_⟩,rfl⟩
    have:(ByteArray.mk #[116]).size=1:=rfl
    rw[ht,this]
    omega
   go_wp2_with fail
   refine (HM.out _).mono ?_
   rintro e w4 ⟨⟨t,rfl,ht⟩,rfl⟩
   go_wp2_with fail
   refine (pick_named w.heap.size 2 3 _ H3.out.1 (by omega) (by omega) (by omega)).mono ?_
   rintro e w5 ⟨k,rfl,hk,-,hO5,-⟩
   have HF:Hid (DefDrawn w (.returned (.tuple #[.string t,.int .i64 (k:Int)])) w5):=⟨⟨t,k,rfl,ht,by omega,by omega⟩,H3.out.2.trans hO5.below⟩
   clear hO5 H3
   go_wp2_with fail
   go_ret2
   exact HF.out
 have hvi:(v:Int)≠0:=by omega
 have hR2:=H2.out.1
 have bel:=H2.out.2
 have hlt:=hR2.lt
 have hne:¬w2.heap.size=w.heap.size:=by omega
 clear H2
 go_wp2_with fail
 go_region_with (first|(go_at_call 14;refine (text_any w.heap.size 1 _ ?_ (by omega)).mono ?_;(repeat (first|exact hR2|refine RdAt.drew ?_|refine RdAt.alloc ?_ _));rintro e w3 ⟨⟨t,rfl,ht⟩,⟨q,hq,hR3⟩,hO3⟩;have hc3:=hO3.cell;(try (have hs3:w2.heap.size<w3.heap.size:=(by have h3:(w2.alloc _).heap.size≤w3.heap.size:=hO3.below.size;rw[World.size_alloc] at h3;exact h3)));have hlt3:=hR3.lt;have hne3:¬w3.heap.size=w.heap.size:=(by omega))|(go_at_call 12;refine (pick_named w.heap.size q 14 _ ?_ (by omega) (by omega) (by omega)).mono ?_;(repeat (first|exact hR3|refine RdAt.drew ?_|refine RdAt.alloc ?_ _));rintro e w4 ⟨y,rfl,hy,hR4,hO4,hs4⟩;obtain⟨Y,hY⟩:∃Y:Nat,Y=y*6:=⟨_,rfl⟩;obtain⟨j,hj⟩:∃j:Nat,j=Y / 14:=⟨_,rfl⟩;have e1:(y:Int)*6=(Y:Int):=(by omega);have e2:(Y:Int) / 14=(j:Int):=(by omega);have e3:(Y:Int).tdiv 14=(j:Int):=(by rw[Int.tdiv_eq_ediv_of_nonneg (by omega)];exact e2);have hYb:Y≤78:=(by omega);have hjb:j<6:=(by omega);have hji:(j:Int)<6:=(by omega);have wY:=wrap_i64_nat Y (by omega);have wj:=wrap_i64_nat j (by omega);obtain⟨sv,hsv,hget⟩:=kinds_get j hjb;have hc4:=hO4.cell;clear hY hj hjb))
 all_goals go_wp2_with fail
 all_goals go_ret2
 all_goals refine⟨⟨t,sv,rfl,ht,hsv.1,hsv.2⟩,?_⟩
 all_goals (repeat (first|exact bel|refine Below.drew ?_|refine below_alloc0 ?_ _|refine Below.trans ?_ hO3.below|refine Below.trans ?_ hO4.below))

set_option maxHeartbeats 400000 in
theorem l1In_yes (n lo hi:Int) (w:World) (h1:lo≤n) (h2:n≤hi):
 Calls Tryz.prog 23 #[.int .i64 n,.int .i64 lo,.int .i64 hi] w fun e w'=>e=.returned (.bool true)∧w'=w:=by
 have hd:decide (n≤hi)=true:=by simp;omega
 go_enter Tryz.func23,Tryz.ntmps23
 go_wp2
 go_ret
 exact⟨rfl,rfl⟩

set_option maxHeartbeats 400000 in
theorem l1In_no (n lo hi:Int) (w:World) (h:¬(lo≤n∧n≤hi)):
 Calls Tryz.prog 23 #[.int .i64 n,.int .i64 lo,.int .i64 hi] w fun e w'=>e=.returned (.bool false)∧w'=w:=by
 by_cases h1:lo≤n
 · have hd:decide (n≤hi)=false:=by simp;omega
   clear h
   go_enter Tryz.func23,Tryz.ntmps23
   go_wp2
   go_ret
   exact⟨rfl,rfl⟩
 have hd:decide (lo≤n)=false:=by simp;omega
 clear h
 go_enter Tryz.func23,Tryz.ntmps23
 go_wp2
 go_ret
 exact⟨rfl,rfl⟩


set_option maxHeartbeats 400000 in
theorem drawCrc32_any (a:Option Addr) (len cap:Nat) (w:World) (h:Code8 w a len cap):
 Calls Tryz.prog 9 #[.slice a len cap] w fun e w'=>(∃t:ByteArray,e=.returned (.string t)∧t.size≤9001)∧Below w.heap.size w w':=by
 go_enter Tryz.func9,Tryz.ntmps9
 go_wp2_with fail
 refine (open_any a len cap w h).mono ?_
 rintro e w1 ⟨rfl,hR,bel⟩
 go_wp2_with fail
 refine (text_any w.heap.size 0 w1 hR (by omega)).mono ?_
 rintro e w2 ⟨⟨t,rfl,ht⟩,_,bel2⟩
 go_wp2_with fail
 go_ret
 exact⟨⟨t,rfl,ht⟩,bel.trans bel2.below⟩


def Ints (w:World) (a:Option Addr) (zs:List Int):Prop:=
 zs=[]∨∃b off,a=some ⟨b,off,none⟩∧b<w.heap.size∧∀i (h:i<zs.length),w.cell? ⟨b,off+i,none⟩=some (.int .i64 zs[i])

theorem Ints.kept {w w':World} {a:Option Addr} {zs:List Int} (h:Ints w a zs) (hb:Below w.heap.size w w'):Ints w' a zs:=by
 rcases h with h|⟨b,off,rfl,hbB,hc⟩
 · exact .inl h
 exact .inr ⟨b,off,rfl,Nat.lt_of_lt_of_le hbB hb.size,fun i hi=>(hb.cell (p:=⟨b,off+i,none⟩) hbB).trans (hc i hi)⟩

def cp (zs:List Int) (k:Nat):Array Value:=((List.range zs.length).map fun j=>Value.int .i64 (if j<k then zs.getD j 0 else 0)).toArray

theorem cp_size (zs:List Int) (k:Nat):(cp zs k).size=zs.length:=by simp[cp]
theorem cp_get (zs:List Int) (k j:Nat) (h:j<zs.length):(cp zs k)[j]?=some (Value.int .i64 (if j<k then zs.getD j 0 else 0)):=by
 simp[cp,h]
theorem made_cp (zs:List Int):madeCells #[Value.int .i64 0] (zs.length*1)=cp zs 0:=by
 apply Array.ext_getElem?
 intro j
 by_cases hj:j<zs.length
 · rw[cp_get _ _ _ hj,Nat.mul_one]
   unfold madeCells
   simp[hj,Nat.mod_one]
 rw[Array.getElem?_eq_none (by rw[size_madeCells];omega),Array.getElem?_eq_none (by rw[cp_size];omega)]

theorem info_int:(Tryz.prog.info? 3).map (fun i=>(i.zero,i.size,i.bytes))=some (some (.int .i64 0),1,8):=by kernel_rfl

theorem make_ints (zs:List Int) (n:Nat) (hn:zs.length=n) (hl:n≤2000000) (w:World):
 (Instr.makeSlice 30 (.int .i64 (n:Int)) (.int .i64 (n:Int))).run Tryz.prog w=.ok (.slice (some ⟨w.heap.size,0,none⟩) n n) (w.alloc (.cells (cp zs 0) 3)):=by
 obtain⟨i0,hi,hz0,hz1,hz2⟩:=info_parts info_int
 have h:=run_make (P:=Tryz.prog) w 30 3 i0 (.int .i64 0) Tryz.underlying30 hi hz0 .i64 .i64 (n:Int) (n:Int) (by omega) (by omega) (by rw[hz2];omega) (by omega)
 rw[h,Int.toNat_natCast,hz1,←made_cp,hn]
 rfl


def arr (l:List Int):Array Value:=(l.map (fun z=>Value.int .i64 z)).toArray

theorem arr_set (l:List Int) (k:Nat) (v:Int):(arr l).setIfInBounds k (.int .i64 v)=arr (l.set k v):=by
 unfold arr
 simp[List.map_set]
theorem arr_get (l:List Int) (k:Nat) (h:k<l.length):(arr l)[k]?=some (.int .i64 l[k]):=by
 simp[arr,h]
theorem cp_arr (zs:List Int):cp zs 0=arr (List.replicate zs.length 0):=by
 apply Array.ext_getElem?
 intro j
 by_cases hj:j<zs.length
 · rw[cp_get _ _ _ hj,arr_get _ _ (by simpa using hj)];simp
 rw[Array.getElem?_eq_none (by rw[cp_size];omega),Array.getElem?_eq_none (by simp[arr];omega)]

def Owns (w:World) (lo:Nat) (a:Option Addr) (l:List Int):Prop:=
 l=[]∨∃b,a=some ⟨b,0,none⟩∧lo≤b∧b<w.heap.size∧∀i (h:i<l.length),w.cell? ⟨b,i,none⟩=some (.int .i64 l[i])∧w.frozen? ⟨b,i,none⟩=false

theorem Owns.ints {w:World} {lo:Nat} {a:Option Addr} {l:List Int} (h:Owns w lo a l):Ints w a l:=by
 rcases h with h|⟨b,rfl,_,hb,hc⟩
 · exact .inl h
 exact .inr ⟨b,0,rfl,hb,fun i hi=>by rw[Nat.zero_add];exact (hc i hi).1⟩

theorem owns_arr (w:World) (l:List Int):Owns (w.alloc (.cells (arr l) 3)) w.heap.size (some ⟨w.heap.size,0,none⟩) l:=by
 refine .inr ⟨w.heap.size,rfl,Nat.le_refl _,by simp,fun i hi=>⟨?_,?_⟩⟩
 · rw[World.cell?_alloc_at _ _ _ _ rfl,arr_get _ _ hi]
 rw[World.frozen?_alloc_at _ _ _ _ rfl]

def intsV (l:List Int):List Value:=l.map fun x:Int=>Value.int .i64 x
theorem intsV_len (l:List Int):(intsV l).length=l.length:=by simp[intsV]
theorem intsV_get (l:List Int) (j:Nat) (h:j<l.length):(intsV l)[j]?=some (.int .i64 l[j]):=by simp[intsV,h]
theorem intsV_snoc (l:List Int) (x:Int):intsV l++[.int .i64 x]=intsV (l++[x]):=by simp[intsV]

def OwnI (w:World) (B:Nat) (v:Value) (n:Nat) (l:List Int):Prop:=w.ownsRow B 3 1 v n (intsV l)

theorem OwnI.len {w:World} {B n:Nat} {v:Value} {l:List Int} (h:OwnI w B v n l):l.length=n:=by
 have:=h.1
 rw[intsV_len] at this;omega

theorem OwnI.owns {w:World} {B n:Nat} {v:Value} {l:List Int} (h:OwnI w B v n l):∃ao cap,v=.slice ao n cap∧Owns w B ao l:=by
 have hl:=h.len
 rcases h.2 with⟨rfl,h0⟩|⟨g,cap,cur,rfl,hgB,hg,_,_,_,ht⟩
 · subst h0
   exact⟨none,0,rfl,.inl (List.eq_nil_of_length_eq_zero hl)⟩
 refine⟨some ⟨g,0,none⟩,cap,rfl,.inr ⟨g,rfl,hgB,?_,fun i hi=>⟨?_,?_⟩⟩⟩
 · rcases Nat.lt_or_ge g w.heap.size with hlt|hge
   · exact hlt
   rw[Array.getElem?_eq_none hge] at hg;cases hg
 · exact (World.ownsRow.cellAt h i (by omega)).trans (intsV_get l i hi)
 exact World.ownsRow.frozenAt h i

theorem OwnI.more {w:World} {B n g cap:Nat} {l:List Int} {x:Int} (h:w.ownsRow B 3 1 (.slice (some ⟨g,0,none⟩) (n+1) cap) (n+1) (intsV l++[.int .i64 x])):
 OwnI w B (.slice (some ⟨g,0,none⟩) (n+1) cap) (n+1) (l++[x]):=by
 rw[intsV_snoc] at h;exact h

theorem ownI_none (w:World):OwnI (w.alloc (.cells #[] 3)) w.heap.size (.slice (some ⟨w.heap.size,0,none⟩) 0 0) 0 []:=
 World.ownsRow_lit w #[] 0 (Nat.le_refl _) (by decide) rfl

def Own (w:World) (b n:Nat) (f:Nat→Int):Prop:=b<w.heap.size∧∀i,i<n→w.cell? ⟨b,i,none⟩=some (.int .i64 (f i))∧w.frozen? ⟨b,i,none⟩=false

structure Turned (b:Nat) (w w':World):Prop where
 os:w'.os=w.os
 tape:w'.tape=w.tape
 output:w'.output=w.output
 size:w'.heap.size=w.heap.size
 rest:∀k,k≠b→w'.heap[k]?=w.heap[k]?

theorem Turned.refl (b:Nat) (w:World):Turned b w w:=⟨rfl,rfl,rfl,rfl,fun _ _=>rfl⟩
theorem Turned.set {b:Nat} {w w':World} (h:Turned b w w') (i:Nat) (v:Value):Turned b w (w'.setCell ⟨b,i,none⟩ v):=
 ⟨h.os,h.tape,h.output,by rw[World.size_setCell];exact h.size,fun k hk=>(Below.heap_setCell w' ⟨b,i,none⟩ v k hk).trans (h.rest k hk)⟩
theorem Turned.below {b lo:Nat} {w w':World} (h:Turned b w w') (hb:lo≤b):Below lo w w':=
 ⟨h.os,h.tape,h.output,Nat.le_of_eq h.size.symm,fun k hk=>h.rest k (by omega)⟩

theorem append_nothing (a:Option Addr) (n cap:Nat) (h:n≤cap) (b:Option Addr) (c:Nat) (ty:TypeId) (w:World):
 (Builtin.append_ #[30,30] ty #[.slice a n cap,.slice b 0 c]).run Tryz.prog w=.ok (.slice a n cap) w:=by
 obtain⟨i0,hi0,hz0,hz1,hz2⟩:=info_parts info_int
 cases a<;>cases b<;>simp[Builtin.append_,run_underlying Tryz.underlying30,sizeOf,typeInfo,hi0,Builtin.lenOf,Builtin.firstCells,h,storeCells,loadCells,loadCellsFrom]

theorem run_append_ints (ty:TypeId) (base:Nat) (v:Value) (n:Nat) (l:List Int) (w:World) (hown:OwnI w base v n l) (ca:Option Addr) (m c:Nat) (cs:List Int) (hc:Ints w ca cs) (hm:cs.length=m) (h63:n+m≤9000000) (hbase:base≤w.heap.size):
 ∃a cap w',(Builtin.append_ #[30,30] ty #[v,.slice ca m c]).run Tryz.prog w=.ok (.slice a (n+m) cap) w'∧OwnI w' base (.slice a (n+m) cap) (n+m) (l++cs)∧w.grownBy w' v.ownBlock:=by
 obtain⟨i0,hi0,hz0,hz1,hz2⟩:=info_parts info_int
 rcases Nat.eq_zero_or_pos m with h0|hp
 · subst h0
   have hcs:cs=[]:=List.eq_nil_of_length_eq_zero hm
   subst hcs
   obtain⟨ao,cap,rfl,_⟩:=hown.owns
   have hle:n≤cap:=by
    rcases hown.2 with⟨e,h0⟩|⟨g,cap',cur,e,_,_,h1,_⟩
    · cases e;omega
    cases e;exact h1
   refine⟨ao,cap,w,append_nothing ao n cap hle ca c ty w,by simpa using hown,⟨rfl,rfl,rfl,Nat.le_refl _,fun _ _ _=>rfl⟩⟩
 rcases hc with e|⟨b,off,rfl,hb,hcell⟩
 · rw[e] at hm;simp at hm;omega
 obtain⟨g,cap,w',hr,h2,h3,_,_⟩:=run_append_lies (P:=Tryz.prog) w 30 ty base 3 i0 (.int .i64 0) 1 8 Tryz.underlying30 hi0 hz0 hz1 hz2 rfl (by decide) v n (intsV l) hown ⟨b,off,none⟩ m c (intsV cs) (by rw[intsV_len];omega)
  (fun j u hu=>by
   have hj:j<cs.length:=by
    rcases Nat.lt_or_ge j cs.length with h|h
    · exact h
    rw[List.getElem?_eq_none (by rw[intsV_len];exact h)] at hu;cases hu
   rw[intsV_get cs j hj] at hu
   cases hu
   have hadd:(⟨b,off,none⟩:Addr).add j=⟨b,off+j,none⟩:=by unfold Addr.add;split<;>simp_all
   rw[hadd];exact hcell j hj)
  (fun u hu=>by simp[intsV] at hu;obtain⟨x,_,rfl⟩:=hu;rfl) hp (by unfold maxLen;omega) (by omega) hbase w.heap.size rfl
 exact⟨some ⟨g,0,none⟩,cap,w',hr,by show World.ownsRow _ _ _ _ _ _ _;rw[show intsV (l++cs)=intsV l++intsV cs by simp[intsV]];exact h2,h3⟩

theorem wp_append_ints {w:World} {o:Oper} {a:Act} {K:Act→World→Prop} {Q:Exit→Act→World→Prop} (s x:Operand)
 (ho:o.op=.call { callee:=.builtin .append,args:=#[s,x],argTypes:=#[30,30] })
 (base:Nat) (v:Value) (n:Nat) (l:List Int) (hs:a.eval s=v) (hown:OwnI w base v n l) (ca:Option Addr) (m c:Nat) (cs:List Int) (hx:a.eval x=.slice ca m c) (hc:Ints w ca cs) (hm:cs.length=m) (h63:n+m≤9000000) (hbase:base≤w.heap.size)
 (h:∀a' cap w',OwnI w' base (.slice a' (n+m) cap) (n+m) (l++cs)→w.grownBy w' v.ownBlock→K (a.put o.dst (.slice a' (n+m) cap)) w'):o.wp Tryz.prog a w K Q:=by
 obtain⟨a',cap,w',hr,h2,h3⟩:=run_append_ints o.type base v n l w hown ca m c cs hc hm h63 hbase
 unfold Oper.wp execOp
 simp only[ho,resolve,invoke,builtin,Sem.run_bind,Sem.run_pure,Result.andThen_ok,List.map_toArray,List.map_cons,List.map_nil,hs,hx,hr]
 exact h a' cap w' h2 h3

theorem wpList_append_ints {w:World} {ops:Array Oper} {rest:List Oper} {o:Oper} {a:Act} {Q:Exit→Act→World→Prop} (hgd:o.guard=none) (s x:Operand)
 (ho:o.op=.call { callee:=.builtin .append,args:=#[s,x],argTypes:=#[30,30] })
 (base:Nat) (v:Value) (n:Nat) (l:List Int) (hs:a.eval s=v) (hown:OwnI w base v n l) (ca:Option Addr) (m c:Nat) (cs:List Int) (hx:a.eval x=.slice ca m c) (hc:Ints w ca cs) (hm:cs.length=m) (h63:n+m≤9000000) (hbase:base≤w.heap.size)
 (h:∀a' cap w',OwnI w' base (.slice a' (n+m) cap) (n+m) (l++cs)→w.grownBy w' v.ownBlock→wpList Tryz.prog ops Q rest (a.put o.dst (.slice a' (n+m) cap)) w'):wpList Tryz.prog ops Q (o::rest) a w:=
 wpList_plain hgd fun _ hK=>wp_append_ints s x ho base v n l hs hown ca m c cs hx hc hm h63 hbase fun a' cap w' h2 h3=>hK _ _ (h a' cap w' h2 h3)

theorem step_append_ints {w:World} {ops:Array Oper} {o:Oper} {a:Act} {K:Act→World→Prop} {Q:Exit→Act→World→Prop} {E:Prop} (hgd:o.guard=none) (s x:Operand)
 (ho:o.op=.call { callee:=.builtin .append,args:=#[s,x],argTypes:=#[30,30] })
 (base:Nat) (v:Value) (n:Nat) (l:List Int) (hs:a.eval s=v) (hown:OwnI w base v n l) (ca:Option Addr) (m c:Nat) (cs:List Int) (hx:a.eval x=.slice ca m c) (hc:Ints w ca cs) (hm:cs.length=m) (h63:n+m≤9000000) (hbase:base≤w.heap.size)
 (h:∀a' cap w',OwnI w' base (.slice a' (n+m) cap) (n+m) (l++cs)→w.grownBy w' v.ownBlock→K (a.put o.dst (.slice a' (n+m) cap)) w'):
 if Region.wanted o (yielded ops a.tmps)=true then Oper.wp Tryz.prog o a w K Q else E:=by
 have hw:Region.wanted o (yielded ops a.tmps)=true:=by simp[Region.wanted,hgd]
 rw[if_pos hw]
 exact wp_append_ints s x ho base v n l hs hown ca m c cs hx hc hm h63 hbase h

def DRow (W:World) (b:Nat) (l:List Int):Prop:=W.heap[b]?=some (.cells (l.map (Value.int .i64)).toArray 3 (0,0))
theorem DRow.kept {W W':World} {b:Nat} {l:List Int} (h:DRow W b l) (hb:W'.heap[b]?=W.heap[b]?):DRow W' b l:=hb.trans h
theorem DRow.lt {W:World} {b:Nat} {l:List Int} (h:DRow W b l):b<W.heap.size:=(Array.getElem?_eq_some_iff.1 h).1
theorem DRow.cell {W:World} {b:Nat} {l:List Int} (h:DRow W b l) (i:Nat) (hi:i<l.length):W.cell? ⟨b,i,none⟩=some (.int .i64 l[i]):=by
 unfold World.cell?
 rw[show W.heap[b]?=_ from h]
 simp[hi]
theorem DRow.set {W:World} {b:Nat} {l:List Int} (h:DRow W b l) (k:Nat) (v:Int):DRow (W.setCell ⟨b,k,none⟩ (.int .i64 v)) b (l.set k v):=by
 unfold DRow at*
 rw[setCell_eq_setRow W b k _ _ _ _ h,setRow_heap W b _ _ _ _ h]
 simp[List.map_set]
theorem cp_zeroD (n:Nat):cp (List.replicate n (0:Int)) 0=((List.replicate n (0:Int)).map (Value.int .i64)).toArray:=by
 unfold cp
 congr 1
 refine List.ext_getElem (by simp) (fun i h1 h2=>by simp)
theorem DRow.free {W:World} {b:Nat} {l:List Int} (h:DRow W b l) (i:Nat):W.frozen? ⟨b,i,none⟩=false:=by
 unfold World.frozen?
 rw[show W.heap[b]?=_ from h]
 simp

structure Grew (base:Nat) (w0 w':World) (v:Value) (g:Nat):Prop where
 os:w'.os=w0.os
 tape:w'.tape=w0.tape
 output:w'.output=w0.output
 size:w0.heap.size≤w'.heap.size
 own:∀k,v.ownBlock=some k→base≤k∧k<w0.heap.size
 block:∀k,k<w0.heap.size→some k≠v.ownBlock→w'.heap[k]?=w0.heap[k]?
 at_:v.ownBlock=some g∨w0.heap.size≤g
 lt:g<w'.heap.size

theorem Grew.below {base g B:Nat} {w0 w' W:World} {v:Value} (h:Grew base w0 w' v g) (hb:Below B W w0) (hB:B≤base) (hs:B≤w0.heap.size):Below B W w':=
 hb.trans ⟨h.os,h.tape,h.output,h.size,fun k hk=>h.block k (by omega) (fun e=>by have:=(h.own k e.symm).1;omega)⟩
theorem Grew.of {base g e size n:Nat} {w0 w':World} {v:Value} {xs:List Value} {o:Obj} (hown:w0.ownsRow base e size v n xs) (hg:(w0.alloc o).grownBy w' v.ownBlock) (hat:v.ownBlock=some g∨g=(w0.alloc o).heap.size) (hlt:g<w'.heap.size):Grew base w0 w' v g:=by
 have hs:=hg.size
 rw[World.size_alloc] at hs
 refine⟨hg.os,hg.tape,hg.output,by omega,fun k hk=>World.ownsRow.lt hown k hk,fun k hk hne=>?_,?_,hlt⟩
 · rw[hg.block k (by rw[World.size_alloc];omega) hne];exact Below.heap_alloc _ _ _ hk
 rcases hat with e|e
 · exact .inl e
 rw[World.size_alloc] at e;exact .inr (by omega)

theorem wpList_app1 {ops:Array Oper} {rest:List Oper} {o:Oper} {a:Act} {Q:Exit→Act→World→Prop} (w0:World) (hgd:o.guard=none) (s x:Operand)
 (ho:o.op=.call { callee:=.builtin .append,args:=#[s,x],argTypes:=#[30,30] })
 (base:Nat) (v:Value) (n:Nat) (l:List Int) (z:Int) (hs:a.eval s=v) (hown:OwnI w0 base v n l) (hx:a.eval x=.slice (some ⟨w0.heap.size,0,none⟩) 1 1) (hn:n≤2000000) (hb:base≤w0.heap.size)
 (h:∀g cap w',OwnI w' base (.slice (some ⟨g,0,none⟩) (n+1) cap) (n+1) (l++[z])→Grew base w0 w' v g→wpList Tryz.prog ops Q rest (a.put o.dst (.slice (some ⟨g,0,none⟩) (n+1) cap)) w'):
 wpList Tryz.prog ops Q (o::rest) a (w0.alloc (.cells #[.int .i64 z] 3)):=by
 obtain⟨i0,hi0,hz0,hz1,hz2⟩:=info_parts info_int
 refine wpList_append_lies _ hgd s x _ ho base 3 i0 (.int .i64 0) 1 8 Tryz.underlying30 hi0 hz0 hz1 hz2 rfl (by decide) v n (intsV l) hs (World.ownsRow.alloc (show World.ownsRow _ _ _ _ _ _ _ from hown) _) ⟨w0.heap.size,0,none⟩ 1 1 [.int .i64 z] hx rfl (World.news_of_block (heap_alloc_new _ _)) (fun u hu=>by simp at hu;subst hu;rfl) (by decide) (by unfold maxLen;omega) (by omega) (by rw[World.size_alloc];omega) _ rfl ?_
 intro g cap w' hown' hg hat hlt
 exact h g cap w' (OwnI.more hown') (Grew.of hown hg hat hlt)


theorem size_zerosI (z:Value) (h:z.cells.size=1) (k:Nat):(Builtin.zeroCells z.cells k).size=k:=by
 unfold Builtin.zeroCells
 simp[h]
set_option maxHeartbeats 4000000 in
set_option maxRecDepth 100000 in
theorem grow_nil (n:Nat) (w:World) (h0:0<n) (hn:n≤1000):Calls Tryz.prog 97 #[.slice none 0 0,.int .i64 (n:Int)] w fun e w'=>(∃v,e=.returned v∧OwnI w' w.heap.size v 0 [])∧Below w.heap.size w w':=by
 obtain⟨i0,hi0,hz0,hz1,hz2⟩:=info_parts info_int
 have h1:¬((n:Int)<0):=by omega
 have h4:(n:Int)>0:=by omega
 have hrz:∀ty,(Builtin.append_ #[30,3] ty #[.slice none 0 0,.int .i64 (n:Int)]).run Tryz.prog w=
  .ok (.slice (some ⟨w.heap.size,0,none⟩) n (grownCap w n 0 3)) (w.drew.alloc (.cells (Builtin.zeroCells (Value.int .i64 0).cells n++Builtin.zeroCells (Value.int .i64 0).cells (grownCap w n 0 3-n)) 3)):=fun ty=>
  Lib.run_append_nil_zeros w 30 3 ty 3 i0 (.int .i64 0) .i64 .i64 Tryz.underlying30 Tryz.underlying3 hi0 hz0 n h0 (by omega) (by omega) (by rw[hz2];omega)
 have hGn:n≤grownCap w n 0 3:=grownCap_ge w _ _ _
 have hG63:grownCap w n 0 3≤maxLen:=grownCap_le_maxLen w n 0 3 (by unfold maxLen;omega)
 obtain⟨G,hG⟩:∃G,G=grownCap w n 0 3:=⟨_,rfl⟩
 rw[←hG] at hrz hGn hG63
 have hsz:(Builtin.zeroCells (Value.int .i64 0).cells n++Builtin.zeroCells (Value.int .i64 0).cells (G-n)).size=G*1:=by
  rw[Array.size_append,size_zerosI _ rfl,size_zerosI _ rfl];omega
 generalize Builtin.zeroCells (Value.int .i64 0).cells n++Builtin.zeroCells (Value.int .i64 0).cells (G-n)=cur at*
 have HE:Hid ((∃v,Ending.returned (.slice (some ⟨w.heap.size,0,none⟩) 0 G)=.returned v∧OwnI (w.drew.alloc (.cells cur 3)) w.heap.size v 0 [])∧Below w.heap.size w (w.drew.alloc (.cells cur 3))):=
  ⟨⟨_,rfl,rfl,.inr ⟨w.heap.size,G,cur,rfl,Nat.le_refl _,heap_alloc_new w.drew _,Nat.zero_le _,hG63,hsz,by simp[intsV]⟩⟩,(Below.refl _ _).drew.alloc (Nat.le_refl _) _⟩
 have hG':(G:Int)≤9223372036854775807:=by unfold maxLen at hG63;omega
 clear hsz hG
 unfold maxLen at hG63
 go_enter Tryz.func97,Tryz.ntmps97
 go_wp2_with (at_builtin;refine Lib.wpList_append_run _ rfl _ _ _ _ rfl _ _ rfl rfl _ _ (hrz _) ?_)
 all_goals (go_ret;exact HE.out)
def ccSize (n1 n2 k:Nat):Nat:=if k=0 then 0 else if k=1 then n1 else n1+n2
def ccRow (l1 l2:List Int) (k:Nat):List Int:=if k=0 then [] else if k=1 then l1 else l1++l2
theorem cc_at {A:Nat} {a1 a2:Option Addr} {n1 c1 n2 c2:Nat} {l1 l2:List Int} {w:World} (hA:w.heap[A]?=some (.cells #[.slice a1 n1 c1,.slice a2 n2 c2] 30 (0,0))) (h1:Ints w a1 l1) (h2:Ints w a2 l2) (e1:l1.length=n1) (e2:l2.length=n2) (k:Nat) (hk:k<2):
 ∃a n c l,w.cell? ⟨A,k,none⟩=some (.slice a n c)∧Ints w a l∧l.length=n∧ccSize n1 n2 (k+1)=ccSize n1 n2 k+n∧ccRow l1 l2 (k+1)=ccRow l1 l2 k++l:=by
 rcases (by omega:k=0∨k=1) with rfl|rfl
 · exact⟨a1,n1,c1,l1,by simp[World.cell?,hA],h1,e1,by simp[ccSize],by simp[ccRow]⟩
 exact⟨a2,n2,c2,l2,by simp[World.cell?,hA],h2,e2,by simp[ccSize],by simp[ccRow]⟩
theorem ccSize_le (n1 n2 k:Nat):ccSize n1 n2 k≤n1+n2:=by unfold ccSize;split;omega;split<;>omega
set_option maxHeartbeats 4000000 in
set_option maxRecDepth 100000 in
theorem concat_two (A:Nat) (a1 a2:Option Addr) (n1 c1 n2 c2:Nat) (l1 l2:List Int) (w:World) (hA:w.heap[A]?=some (.cells #[.slice a1 n1 c1,.slice a2 n2 c2] 30 (0,0))) (h1:Ints w a1 l1) (h2:Ints w a2 l2) (e1:l1.length=n1) (e2:l2.length=n2) (h0:0<n1+n2) (hn:n1+n2≤1000):
 Calls Tryz.prog 65 #[.slice (some ⟨A,0,none⟩) 2 2] w fun e w'=>(∃a c,e=.returned (.slice a (n1+n2) c)∧OwnI w' w.heap.size (.slice a (n1+n2) c) (n1+n2) (l1++l2))∧Below w.heap.size w w':=by
 have hAl:A<w.heap.size:=(Array.getElem?_eq_some_iff.1 hA).1
 have HAT:Hid (∀k,k<2→∃a n c l,w.cell? ⟨A,k,none⟩=some (.slice a n c)∧Ints w a l∧l.length=n∧ccSize n1 n2 (k+1)=ccSize n1 n2 k+n∧ccRow l1 l2 (k+1)=ccRow l1 l2 k++l):=cc_at hA h1 h2 e1 e2
 clear hA h1 h2 e1 e2
 go_enter Tryz.func65,Tryz.ntmps65
 go_wp2_with fail
 go_loop [3,11] (fun s i=>∃k z:Nat,k≤2∧i=.int .i64 (k:Int)∧s=.int .i64 (z:Int)∧Hid (z=ccSize n1 n2 k)) (fun _ i=>2-(intOf i).toNat)
 case atStart=>exact⟨0,0,by omega,rfl,rfl,rfl⟩
 case round=>
  obtain⟨k,z,hk,rfl,rfl,HZ⟩:=hrel
  by_cases hlt:k<2
  · obtain⟨a,n,c,l,q,_,_,hs,_⟩:=HAT.out k hlt
    have hb:=ccSize_le n1 n2 (k+1)
    have HS:Hid (z+n=ccSize n1 n2 (k+1)):=by rw[hs,←HZ.out];exact rfl
    have hzn:z+n≤1000:=by rw[HS.out];omega
    have hki:(k:Int)<2:=by omega
    clear hs hb HZ
    go_wp2_with fail
    go_round
    case rel=>exact⟨k+1,z+n,by omega,by go_num,by go_num,HS⟩
    case measure=>simp[intOf];omega
  have hki:¬(k:Int)<2:=by omega
  have hk2:k=2:=by omega
  have HN:Hid (z=n1+n2):=by have h:=HZ.out;rw[hk2] at h;exact h
  have hz0:0<z:=by rw[HN.out];exact h0
  have hz1:z≤1000:=by rw[HN.out];exact hn
  clear HZ hk2
  go_wp2_with fail
  refine (grow_nil z w hz0 hz1).mono ?_
  rintro e W1 ⟨⟨v,rfl,hO⟩,hb⟩
  have HO1:Hid (OwnI W1 w.heap.size v 0 []∧Below w.heap.size w W1):=⟨hO,hb⟩
  clear hO hb
  go_wp2_with fail
  go_loopw [6,27] (fun o i wr=>∃k m:Nat,k≤2∧i=.int .i64 (k:Int)∧Hid (OwnI wr w.heap.size o m (ccRow l1 l2 k)∧Below w.heap.size w wr∧m=ccSize n1 n2 k)) (fun _ i _=>2-(intOf i).toNat)
  case atStart=>exact⟨0,0,by omega,rfl,HO1.out.1,HO1.out.2,rfl⟩
  case round=>
   obtain⟨k,m,hk,rfl,HR⟩:=hrel
   clear HO1
   by_cases hlt:k<2
   · obtain⟨a,n,c,l,q,hi,hl,hs,hr⟩:=HAT.out k hlt
     have bR:=HR.out.2.1
     have r0:=(bR.cell (p:=⟨A,k,none⟩) hAl).trans q
     have hbs:=bR.size
     have HI:Hid (Ints wr a l):=hi.kept bR
     have HL:Hid (l.length=n):=hl
     have hb:=ccSize_le n1 n2 (k+1)
     have HS:Hid (m+n=ccSize n1 n2 (k+1)∧ccRow l1 l2 (k+1)=ccRow l1 l2 k++l):=by rw[hs,←HR.out.2.2];exact⟨rfl,hr⟩
     have hzn:m+n≤1000:=by rw[HS.out.1];omega
     have hki:(k:Int)<2:=by omega
     clear hs hb bR q hi hl hr
     go_wp2_with (at_builtin;refine wpList_append_ints (by rfl) _ _ (by rfl) w.heap.size _ m (ccRow l1 l2 k) (by rfl) HR.out.1 a n c l (by rfl) HI.out HL.out (by omega) hbs ?_;intro x cx w2 hO2 hG2)
     have HF:Hid (OwnI w2 w.heap.size (.slice x (m+n) cx) (m+n) (ccRow l1 l2 (k+1))∧Below w.heap.size w w2∧m+n=ccSize n1 n2 (k+1)):=⟨by rw[HS.out.2];exact hO2,HR.out.2.1.grown hG2 hbs (fun k hk=>(World.ownsRow.lt (show World.ownsRow _ _ _ _ _ _ _ from HR.out.1) k hk).1),HS.out.1⟩
     clear hO2 hG2 HR HS
     go_wp2_with fail
     go_roundw
     case rel=>exact⟨k+1,m+n,by omega,by go_num,HF⟩
     case measure=>simp[intOf];omega
   have hki:¬(k:Int)<2:=by omega
   have hk2:k=2:=by omega
   subst hk2
   have hmN:m=n1+n2:=HR.out.2.2
   obtain⟨ao,cap,rfl,_⟩:=HR.out.1.owns
   have HE:Hid ((∃a c,Ending.returned (.slice ao m cap)=.returned (.slice a (n1+n2) c)∧OwnI wr w.heap.size (.slice a (n1+n2) c) (n1+n2) (l1++l2))∧Below w.heap.size w wr):=by
    have h:=HR.out.1
    rw[hmN] at h ⊢
    exact⟨⟨_,_,rfl,h⟩,HR.out.2.1⟩
   clear hmN HR
   go_wp2_with fail
   go_ret
   exact HE.out
end Go.Proofs.YtejebodgfoihkaaGreat
namespace Go.Proofs.YtejebodgfoihkaaGreat
namespace Cd

def okLen (z:Int):Bool:=decide (0≤z)&&decide (z≤15)
def part (z:Int):Nat:=if 0<z then 2^(15-z.toNat) else 0
def taken:List Int→Nat
 | []=>0
 | z::l=>part z+taken l
def valid (l:List Int):Bool:=l.all okLen

theorem taken_append (l m:List Int):taken (l++m)=taken l+taken m:=by
 induction l with
 | nil=>simp[taken]
 | cons z l ih=>simp only[List.cons_append,taken,ih];omega

theorem valid_append (l m:List Int):valid (l++m)=(valid l&&valid m):=by
 unfold valid;rw[List.all_append]

theorem take_valid (l:List Int) (k:Nat) (h:valid l=true):valid (l.take k)=true:=by
 have e:=valid_append (l.take k) (l.drop k)
 rw[List.take_append_drop,h] at e
 exact (Bool.and_eq_true _ _ ▸ e.symm).1

theorem take_snoc (l:List Int) (k:Nat) (h:k<l.length):l.take (k+1)=l.take k++[l[k]]:=by
 rw[List.take_succ_eq_append_getElem h]

theorem taken_snoc (l:List Int) (k:Nat) (h:k<l.length):taken (l.take (k+1))=taken (l.take k)+part l[k]:=by
 rw[take_snoc l k h,taken_append];simp[taken]

theorem valid_snoc (l:List Int) (k:Nat) (h:k<l.length):valid (l.take (k+1))=(valid (l.take k)&&okLen l[k]):=by
 rw[take_snoc l k h,valid_append];simp[valid]

theorem not_valid (l:List Int) (k:Nat) (h:k<l.length) (hz:okLen l[k]=false):valid l=false:=by
 cases e:valid l
 · rfl
 have:=take_valid l (k+1) e
 rw[valid_snoc l k h,hz,Bool.and_false] at this
 cases this

def left (l:List Int):Int:=if valid l=true∧taken l≤32768 then 32768-(taken l:Int) else -1

def okB (l:List Int):Bool:=decide (l.length≤300)&&(valid l&&decide (taken l≤32768))

end Cd
namespace Df
def lord:List Nat:=[16,17,18,0,8,7,9,6,10,5,11,4,12,3,13,2,14,1,15]
def fixS:List Int:=(List.range 288).map (fun i=>if i<144 then 8 else if i<256 then 9 else if i<280 then 7 else 8)
def fixD:List Int:=List.replicate 32 5
theorem fixS_len:fixS.length=288:=by unfold fixS;rw[List.length_map,List.length_range]
theorem fixD_len:fixD.length=32:=List.length_replicate ..
theorem fixS_ok:Cd.okB fixS=true:=by decide +kernel
theorem fixD_ok:Cd.okB fixD=true:=by decide +kernel
theorem fixS_le (i:Nat):fixS.getD i 0≤9:=by
 by_cases h:i<288
 · unfold fixS
   rw[List.getD_eq_getElem?_getD,List.getElem?_map,List.getElem?_range h]
   show (if i<144 then (8:Int) else _)≤9
   split
   · decide
   split
   · decide
   split<;>decide
 rw[List.getD_eq_getElem?_getD,List.getElem?_eq_none (by rw[fixS_len];omega)]
 decide
theorem fixD_le (i:Nat):fixD.getD i 0≤5:=by
 unfold fixD
 rw[List.getD_eq_getElem?_getD,List.getElem?_replicate]
 split<;>decide
end Df
open Go.RowKit

theorem make_rowN (n:Nat) (hn:n≤1000000) (w:World):(Instr.makeSlice 30 (.int .i64 (n:Int)) (.int .i64 (n:Int))).run Tryz.prog w=.ok (.slice (some ⟨w.heap.size,0,none⟩) n n) (w.alloc (.cells ((List.replicate n (0:Int)).map (Value.int .i64)).toArray 3)):=by
 have h:=make_ints (List.replicate n 0) n (by simp) (by omega) w
 rw[cp_zeroD] at h
 exact h
def lord0:Array Value:=Array.replicate 19 (.int .i64 0)
def lordV:Array Value:=(Df.lord.map (fun n:Nat=>Value.int .i64 (n:Int))).toArray
set_option maxRecDepth 100000 in
theorem zeroLord (w:World):(zeroValue 146).run Tryz.prog w=.ok (.agg lord0) w:=by kernel_rfl
theorem lordV_size:lordV.size=19:=rfl
theorem lord0_size:lord0.size=19:=rfl
set_option maxRecDepth 100000 in
set_option maxHeartbeats 1000000 in
theorem lengthOrder_any (w:World):Calls Tryz.prog 98 #[] w fun e w'=>e=.returned (.agg lordV)∧Below w.heap.size w w':=by
 have hz:=fun w=>zeroLord w
 have hg:(w.alloc (.cells lord0 146)).heap[w.heap.size]?=some (.cells lord0 146 (0,0)):=heap_alloc_new _ _
 go_enter Tryz.func98,Tryz.ntmps98
 have hsz0:lord0.size=19:=rfl
 have hne:¬lord0=#[]:=by decide
 go_wp2_with (refine wpList_store_row rfl 146 (.tmp 0) (.tmp 1) rfl w.heap.size lordV rfl rfl 146 lord0 hg (by kernel_rfl) (by rw[lordV_size,lord0_size]) (by kernel_rfl) ?_)
 have hs2:=setRow_heap _ _ _ lordV _ _ hg
 refine bodyPost_ret_by (results_cell_row (p:=0) (ty:=146) (by kernel_rfl) _ _ w.heap.size 146 lordV (0,0) _ rfl hs2 Tryz.underlying146 rfl (by kernel_rfl)) rfl ⟨rfl,?_⟩
 exact ((Below.refl _ _).alloc (Nat.le_refl _) _).trans ⟨rfl,rfl,rfl,by simp,fun k hk=>setRow_other _ _ k _ (by omega)⟩
theorem lord_i0 (w:World):Sem.run Tryz.prog (Instr.index 146 (.agg lordV) (.int .i64 0)) w=.ok (.int .i64 16) w:=by kernel_rfl
theorem lord_i1 (w:World):Sem.run Tryz.prog (Instr.index 146 (.agg lordV) (.int .i64 1)) w=.ok (.int .i64 17) w:=by kernel_rfl
theorem lord_i2 (w:World):Sem.run Tryz.prog (Instr.index 146 (.agg lordV) (.int .i64 2)) w=.ok (.int .i64 18) w:=by kernel_rfl
theorem lord_i3 (w:World):Sem.run Tryz.prog (Instr.index 146 (.agg lordV) (.int .i64 3)) w=.ok (.int .i64 0) w:=by kernel_rfl
theorem lord_i4 (w:World):Sem.run Tryz.prog (Instr.index 146 (.agg lordV) (.int .i64 4)) w=.ok (.int .i64 8) w:=by kernel_rfl
theorem lord_i5 (w:World):Sem.run Tryz.prog (Instr.index 146 (.agg lordV) (.int .i64 5)) w=.ok (.int .i64 7) w:=by kernel_rfl
theorem lord_i6 (w:World):Sem.run Tryz.prog (Instr.index 146 (.agg lordV) (.int .i64 6)) w=.ok (.int .i64 9) w:=by kernel_rfl
theorem lord_i7 (w:World):Sem.run Tryz.prog (Instr.index 146 (.agg lordV) (.int .i64 7)) w=.ok (.int .i64 6) w:=by kernel_rfl
theorem lord_i8 (w:World):Sem.run Tryz.prog (Instr.index 146 (.agg lordV) (.int .i64 8)) w=.ok (.int .i64 10) w:=by kernel_rfl
theorem lord_i9 (w:World):Sem.run Tryz.prog (Instr.index 146 (.agg lordV) (.int .i64 9)) w=.ok (.int .i64 5) w:=by kernel_rfl
theorem lord_i10 (w:World):Sem.run Tryz.prog (Instr.index 146 (.agg lordV) (.int .i64 10)) w=.ok (.int .i64 11) w:=by kernel_rfl
theorem lord_i11 (w:World):Sem.run Tryz.prog (Instr.index 146 (.agg lordV) (.int .i64 11)) w=.ok (.int .i64 4) w:=by kernel_rfl
theorem lord_i12 (w:World):Sem.run Tryz.prog (Instr.index 146 (.agg lordV) (.int .i64 12)) w=.ok (.int .i64 12) w:=by kernel_rfl
theorem lord_i13 (w:World):Sem.run Tryz.prog (Instr.index 146 (.agg lordV) (.int .i64 13)) w=.ok (.int .i64 3) w:=by kernel_rfl
theorem lord_i14 (w:World):Sem.run Tryz.prog (Instr.index 146 (.agg lordV) (.int .i64 14)) w=.ok (.int .i64 13) w:=by kernel_rfl
theorem lord_i15 (w:World):Sem.run Tryz.prog (Instr.index 146 (.agg lordV) (.int .i64 15)) w=.ok (.int .i64 2) w:=by kernel_rfl
theorem lord_i16 (w:World):Sem.run Tryz.prog (Instr.index 146 (.agg lordV) (.int .i64 16)) w=.ok (.int .i64 14) w:=by kernel_rfl
theorem lord_i17 (w:World):Sem.run Tryz.prog (Instr.index 146 (.agg lordV) (.int .i64 17)) w=.ok (.int .i64 1) w:=by kernel_rfl
theorem lord_i18 (w:World):Sem.run Tryz.prog (Instr.index 146 (.agg lordV) (.int .i64 18)) w=.ok (.int .i64 15) w:=by kernel_rfl
set_option maxRecDepth 20000 in
theorem lord_index (k:Nat) (hk:k<19) (w:World):Sem.run Tryz.prog (Instr.index 146 (.agg lordV) (.int .i64 (k:Int))) w=.ok (.int .i64 ((Df.lord.getD k 0:Nat):Int)) w:=by
 have h:k=0∨k=1∨k=2∨k=3∨k=4∨k=5∨k=6∨k=7∨k=8∨k=9∨k=10∨k=11∨k=12∨k=13∨k=14∨k=15∨k=16∨k=17∨k=18:=by omega
 rcases h with rfl|rfl|rfl|rfl|rfl|rfl|rfl|rfl|rfl|rfl|rfl|rfl|rfl|rfl|rfl|rfl|rfl|rfl|rfl
 · exact lord_i0 w
 · exact lord_i1 w
 · exact lord_i2 w
 · exact lord_i3 w
 · exact lord_i4 w
 · exact lord_i5 w
 · exact lord_i6 w
 · exact lord_i7 w
 · exact lord_i8 w
 · exact lord_i9 w
 · exact lord_i10 w
 · exact lord_i11 w
 · exact lord_i12 w
 · exact lord_i13 w
 · exact lord_i14 w
 · exact lord_i15 w
 · exact lord_i16 w
 · exact lord_i17 w
 exact lord_i18 w
theorem getD_cellI {w:World} {b:Nat} {l:List Int} (h:Ints w (some ⟨b,0,none⟩) l) {i:Nat} (hi:i<l.length):w.cell? ⟨b,i,none⟩=some (.int .i64 (l.getD i 0)):=by
 rcases h with e|⟨b',off',e',_,hc⟩
 · rw[e] at hi;simp at hi
 cases e'
 have:=hc i hi
 rw[Nat.zero_add] at this
 rw[this,List.getD_eq_getElem?_getD,List.getElem?_eq_getElem hi]
 rfl
theorem row_step (f:List Int) (n k:Nat) (hf:f.length=n) (hk:k<n):(f.take k++List.replicate (n-k) 0).set k (f.getD k 0)=f.take (k+1)++List.replicate (n-(k+1)) 0:=by
 have hl:(f.take k).length=k:=by rw[List.length_take];omega
 rw[List.set_append_right _ _ (by omega),hl,Nat.sub_self,List.take_succ_eq_append_getElem (by omega),List.append_assoc]
 congr 1
 obtain⟨m,hm⟩:∃m,n-k=m+1:=⟨n-k-1,by omega⟩
 rw[hm,show n-(k+1)=m by omega,List.replicate_succ,List.set_cons_zero,List.getD_eq_getElem?_getD,List.getElem?_eq_getElem (by omega)]
 rfl
theorem row_len (f:List Int) (n k:Nat) (hf:f.length=n) (hk:k≤n):(f.take k++List.replicate (n-k) 0).length=n:=by
 rw[List.length_append,List.length_take,List.length_replicate];omega
set_option maxHeartbeats 4000000 in
set_option maxRecDepth 20000 in
theorem fixedLengths_any (w:World):
 Calls Tryz.prog 16 #[] w fun e w'=>(∃b1 b2,e=.returned (.tuple #[.slice (some ⟨b1,0,none⟩) 288 288,.slice (some ⟨b2,0,none⟩) 32 32])∧w.heap.size≤b1∧w.heap.size≤b2∧DRow w' b1 Df.fixS∧DRow w' b2 Df.fixD)∧Below w.heap.size w w':=by
 have hmk:(Instr.makeSlice 30 (.int .i64 288) (.int .i64 288)).run Tryz.prog w=.ok (.slice (some ⟨w.heap.size,0,none⟩) 288 288) (w.alloc (.cells ((List.replicate 288 (0:Int)).map (Value.int .i64)).toArray 3)):=make_rowN 288 (by omega) w
 obtain⟨W0,hW0⟩:∃W0,W0=w.alloc (.cells ((List.replicate 288 (0:Int)).map (Value.int .i64)).toArray 3):=⟨_,rfl⟩
 obtain⟨B1,hB1⟩:∃B1,B1=w.heap.size:=⟨_,rfl⟩
 rw[←hW0,←hB1] at hmk
 have hr0:DRow W0 B1 (List.replicate 288 0):=by rw[hW0,hB1];exact heap_alloc_new _ _
 have HR0:Hid (DRow W0 B1 (Df.fixS.take 0++List.replicate (288-0) 0)∧Below w.heap.size w W0):=⟨hr0,by rw[hW0];exact (Below.refl _ _).alloc (Nat.le_refl _) _⟩
 have HB:Hid (B1=w.heap.size):=hB1
 clear hW0 hB1 hr0
 go_enter Tryz.func16,Tryz.ntmps16
 go_wp2_with fail
 go_loopw [9] (fun i wr=>∃k:Nat,k≤288∧i=.int .i64 (k:Int)∧Hid (DRow wr B1 (Df.fixS.take k++List.replicate (288-k) 0)∧Below w.heap.size w wr)) (fun i _=>288-(intOf i).toNat)
 case atStart=>exact⟨0,Nat.zero_le _,rfl,HR0⟩
 case round=>
  obtain⟨k,hk,rfl,HR⟩:=hrel
  clear HR0 hmk
  by_cases hlt:k<288
  · have hki:(k:Int)<288:=by omega
    have hrl:=row_len Df.fixS 288 k Df.fixS_len hk
    have cK:=HR.out.1.cell k (by rw[hrl];exact hlt)
    have fK:=HR.out.1.free k
    have hfx:Df.fixS.getD k 0=if k<144 then 8 else if k<256 then 9 else if k<280 then 7 else 8:=by
     unfold Df.fixS
     rw[List.getD_eq_getElem?_getD,List.getElem?_map,List.getElem?_range hlt]
     rfl
    have HSET:Hid (DRow (wr.setCell ⟨B1,k,none⟩ (.int .i64 (if k<144 then 8 else if k<256 then 9 else if k<280 then 7 else 8))) B1 (Df.fixS.take (k+1)++List.replicate (288-(k+1)) 0)):=by
     have h:=HR.out.1.set k (Df.fixS.getD k 0)
     rw[row_step Df.fixS 288 k Df.fixS_len hlt,hfx] at h
     exact h
    obtain⟨u,hu⟩:∃u,u=(Df.fixS.take k++List.replicate (288-k) 0)[k]:=⟨_,rfl⟩
    rw[←hu] at cK
    clear hrl hfx hu
    by_cases h1:k<144
    · have h1i:(k:Int)<144:=by omega
      have HF:Hid (DRow (wr.setCell ⟨B1,k,none⟩ (.int .i64 8)) B1 (Df.fixS.take (k+1)++List.replicate (288-(k+1)) 0)∧Below w.heap.size w (wr.setCell ⟨B1,k,none⟩ (.int .i64 8))):=by
       have h:=HSET.out
       rw[if_pos h1] at h
       exact⟨h,HR.out.2.setCell (p:=⟨B1,k,none⟩) (by show w.heap.size≤B1;rw[HB.out];exact Nat.le_refl _) _⟩
      clear HSET HR
      go_wp2_with fail
      go_roundw
      case rel=>exact⟨k+1,by omega,by go_num,HF⟩
      case measure=>simp[intOf];omega
    have h1i:¬(k:Int)<144:=by omega
    by_cases h2:k<256
    · have h2i:(k:Int)<256:=by omega
      have HF:Hid (DRow (wr.setCell ⟨B1,k,none⟩ (.int .i64 9)) B1 (Df.fixS.take (k+1)++List.replicate (288-(k+1)) 0)∧Below w.heap.size w (wr.setCell ⟨B1,k,none⟩ (.int .i64 9))):=by
       have h:=HSET.out
       rw[if_neg h1,if_pos h2] at h
       exact⟨h,HR.out.2.setCell (p:=⟨B1,k,none⟩) (by show w.heap.size≤B1;rw[HB.out];exact Nat.le_refl _) _⟩
      clear HSET HR
      go_wp2_with fail
      go_roundw
      case rel=>exact⟨k+1,by omega,by go_num,HF⟩
      case measure=>simp[intOf];omega
    have h2i:¬(k:Int)<256:=by omega
    by_cases h3:k<280
    · have h3i:(k:Int)<280:=by omega
      have HF:Hid (DRow (wr.setCell ⟨B1,k,none⟩ (.int .i64 7)) B1 (Df.fixS.take (k+1)++List.replicate (288-(k+1)) 0)∧Below w.heap.size w (wr.setCell ⟨B1,k,none⟩ (.int .i64 7))):=by
       have h:=HSET.out
       rw[if_neg h1,if_neg h2,if_pos h3] at h
       exact⟨h,HR.out.2.setCell (p:=⟨B1,k,none⟩) (by show w.heap.size≤B1;rw[HB.out];exact Nat.le_refl _) _⟩
      clear HSET HR
      go_wp2_with fail
      go_roundw
      case rel=>exact⟨k+1,by omega,by go_num,HF⟩
      case measure=>simp[intOf];omega
    have h3i:¬(k:Int)<280:=by omega
    have HF:Hid (DRow (wr.setCell ⟨B1,k,none⟩ (.int .i64 8)) B1 (Df.fixS.take (k+1)++List.replicate (288-(k+1)) 0)∧Below w.heap.size w (wr.setCell ⟨B1,k,none⟩ (.int .i64 8))):=by
     have h:=HSET.out
     rw[if_neg h1,if_neg h2,if_neg h3] at h
     exact⟨h,HR.out.2.setCell (p:=⟨B1,k,none⟩) (by show w.heap.size≤B1;rw[HB.out];exact Nat.le_refl _) _⟩
    clear HSET HR
    go_wp2_with fail
    go_roundw
    case rel=>exact⟨k+1,by omega,by go_num,HF⟩
    case measure=>simp[intOf];omega
  have hki:¬(k:Int)<288:=by omega
  have hkN:k=288:=by omega
  subst hkN
  have HE:Hid (DRow wr B1 Df.fixS∧Below w.heap.size w wr):=by
   have h:=HR.out
   rw[List.take_of_length_le (by rw[Df.fixS_len];exact Nat.le_refl _),Nat.sub_self,List.replicate_zero,List.append_nil] at h
   exact h
  clear HR
  have hmk2:(Instr.makeSlice 30 (.int .i64 32) (.int .i64 32)).run Tryz.prog wr=.ok (.slice (some ⟨wr.heap.size,0,none⟩) 32 32) (wr.alloc (.cells ((List.replicate 32 (0:Int)).map (Value.int .i64)).toArray 3)):=make_rowN 32 (by omega) wr
  obtain⟨W2,hW2⟩:∃W2,W2=wr.alloc (.cells ((List.replicate 32 (0:Int)).map (Value.int .i64)).toArray 3):=⟨_,rfl⟩
  obtain⟨B2,hB2⟩:∃B2,B2=wr.heap.size:=⟨_,rfl⟩
  rw[←hW2,←hB2] at hmk2
  have b2:Below wr.heap.size wr W2:=by rw[hW2];exact (Below.refl _ _).alloc (Nat.le_refl _) _
  have HR2:Hid (DRow W2 B2 (Df.fixD.take 0++List.replicate (32-0) 0)∧DRow W2 B1 Df.fixS∧Below w.heap.size w W2):=⟨by rw[hW2,hB2];exact heap_alloc_new _ _,HE.out.1.kept (b2.block B1 HE.out.1.lt),HE.out.2.trans (b2.mono HE.out.2.size)⟩
  have HB2:Hid (w.heap.size≤B2∧B1≠B2):=⟨by rw[hB2];exact HE.out.2.size,by have:=HE.out.1.lt;omega⟩
  clear hW2 hB2 b2 HE
  go_wp2_with fail
  go_loopw [37] (fun i wq=>∃k:Nat,k≤32∧i=.int .i64 (k:Int)∧Hid (DRow wq B2 (Df.fixD.take k++List.replicate (32-k) 0)∧DRow wq B1 Df.fixS∧Below w.heap.size w wq)) (fun i _=>32-(intOf i).toNat)
  case atStart=>exact⟨0,Nat.zero_le _,rfl,HR2⟩
  case round=>
   obtain⟨k,hk,rfl,HR⟩:=hrel
   clear HR2 hmk2
   by_cases hlt:k<32
   · have hki:(k:Int)<32:=by omega
     have hrl:=row_len Df.fixD 32 k Df.fixD_len hk
     have cK:=HR.out.1.cell k (by rw[hrl];exact hlt)
     have fK:=HR.out.1.free k
     have hfx:Df.fixD.getD k 0=5:=by
      unfold Df.fixD
      rw[List.getD_eq_getElem?_getD,List.getElem?_replicate,if_pos hlt]
      rfl
     have hset:=HR.out.1.set k (Df.fixD.getD k 0)
     rw[row_step Df.fixD 32 k Df.fixD_len hlt,hfx] at hset
     have hoth:=HR.out.2.1.kept (Below.heap_setCell _ ⟨B2,k,none⟩ (.int .i64 5) B1 HB2.out.2)
     have hbl:=HR.out.2.2.setCell (p:=⟨B2,k,none⟩) HB2.out.1 (.int .i64 5)
     have HF:Hid (_∧_∧_):=⟨hset,hoth,hbl⟩
     obtain⟨u,hu⟩:∃u,u=(Df.fixD.take k++List.replicate (32-k) 0)[k]:=⟨_,rfl⟩
     rw[←hu] at cK
     clear hrl hfx hu hset hoth hbl HR
     go_wp2_with fail
     go_roundw
     case rel=>exact⟨k+1,by omega,by go_num,HF⟩
     case measure=>simp[intOf];omega
   have hki:¬(k:Int)<32:=by omega
   have hkN:k=32:=by omega
   subst hkN
   have h:=HR.out
   rw[List.take_of_length_le (by rw[Df.fixD_len];exact Nat.le_refl _),Nat.sub_self,List.replicate_zero,List.append_nil] at h
   have HE2:Hid (DRow _ B2 Df.fixD∧DRow _ B1 Df.fixS∧Below w.heap.size w _):=h
   clear HR h
   go_wp2_with fail
   refine bodyPost_ret (v:=.tuple #[.slice (some ⟨B1,0,none⟩) 288 288,.slice (some ⟨B2,0,none⟩) 32 32]) (by simp[results,Tryz.results16,go_sem]) rfl ⟨⟨B1,B2,rfl,by rw[HB.out];exact Nat.le_refl _,HB2.out.1,HE2.out.2.1,HE2.out.1⟩,HE2.out.2.2⟩

abbrev Tk:=Int×Int×Int
def Toks (w:World) (a:Option Addr) (l:List Tk):Prop:=
 l=[]∨∃b off,a=some ⟨b,off,none⟩∧b<w.heap.size∧∀i (h:i<l.length),w.cell? ⟨b,off+i*3,none⟩=some (.int .i64 (l[i]).1)∧w.cell? ⟨b,off+i*3+1,none⟩=some (.int .i64 (l[i]).2.1)∧w.cell? ⟨b,off+i*3+2,none⟩=some (.int .i64 (l[i]).2.2)

theorem Toks.kept {w w':World} {a:Option Addr} {l:List Tk} (h:Toks w a l) (hb:Below w.heap.size w w'):Toks w' a l:=by
 rcases h with h|⟨b,off,rfl,hbB,hc⟩
 · exact .inl h
 exact .inr ⟨b,off,rfl,Nat.lt_of_lt_of_le hbB hb.size,fun i hi=>⟨(hb.cell (p:=⟨b,off+i*3,none⟩) hbB).trans (hc i hi).1,(hb.cell (p:=⟨b,off+i*3+1,none⟩) hbB).trans (hc i hi).2.1,(hb.cell (p:=⟨b,off+i*3+2,none⟩) hbB).trans (hc i hi).2.2⟩⟩

theorem Toks.at {w:World} {a:Option Addr} {l:List Tk} (h:Toks w a l) {i:Nat} (hi:i<l.length):
 ∃b off,a=some ⟨b,off,none⟩∧b<w.heap.size∧w.cell? ⟨b,off+i*3,none⟩=some (.int .i64 (l[i]).1)∧w.cell? ⟨b,off+i*3+1,none⟩=some (.int .i64 (l[i]).2.1)∧w.cell? ⟨b,off+i*3+2,none⟩=some (.int .i64 (l[i]).2.2):=by
 rcases h with h|⟨b,off,rfl,hbB,hc⟩
 · rw[h] at hi;simp at hi
 exact⟨b,off,rfl,hbB,hc i hi⟩

theorem info_tok:(Tryz.prog.info? 53).map (fun i=>(i.zero,i.size,i.bytes))=some (some (.agg #[.int .i64 0,.int .i64 0,.int .i64 0]),3,24):=by kernel_rfl

def tkCells:List Tk→List Value
 | []=>[]
 | p::l=>.int .i64 p.1::.int .i64 p.2.1::.int .i64 p.2.2::tkCells l
theorem tkCells_len:∀l:List Tk,(tkCells l).length=l.length*3
 | []=>rfl
 | p::l=>by simp only[tkCells,List.length_cons,tkCells_len l];omega
theorem tkCells_get:∀(l:List Tk) (i:Nat) (h:i<l.length),(tkCells l)[i*3]?=some (.int .i64 (l[i]).1)∧(tkCells l)[i*3+1]?=some (.int .i64 (l[i]).2.1)∧(tkCells l)[i*3+2]?=some (.int .i64 (l[i]).2.2)
 | [],i,h=>by simp at h
 | p::l,0,h=>by simp[tkCells]
 | p::l,i+1,h=>by
  have:=tkCells_get l i (by simpa using h)
  rw[show (i+1)*3=i*3+1+1+1 by omega,show i*3+1+1+1+2=i*3+2+1+1+1 by omega]
  simp only[tkCells,List.getElem?_cons_succ,List.getElem_cons_succ]
  exact this
def OwnK (w:World) (B:Nat) (v:Value) (n:Nat) (l:List Tk):Prop:=w.ownsRow B 53 3 v n (tkCells l)
theorem OwnK.len {w:World} {B n:Nat} {v:Value} {l:List Tk} (h:OwnK w B v n l):l.length=n:=by
 have:=h.1
 rw[tkCells_len] at this;omega
theorem OwnK.toks {w:World} {B n:Nat} {v:Value} {l:List Tk} (h:OwnK w B v n l):∃ao cap,v=.slice ao n cap∧Toks w ao l:=by
 have hl:=h.len
 rcases h.2 with⟨rfl,h0⟩|⟨g,cap,cur,rfl,_,hg,_,_,_,ht⟩
 · subst h0
   exact⟨none,0,rfl,.inl (List.eq_nil_of_length_eq_zero hl)⟩
 refine⟨some ⟨g,0,none⟩,cap,rfl,.inr ⟨g,0,rfl,(Array.getElem?_eq_some_iff.1 hg).1,fun i hi=>?_⟩⟩
 obtain⟨c1,c2,c3⟩:=tkCells_get l i hi
 rw[Nat.zero_add]
 exact⟨(World.ownsRow.cellAt h (i*3) (by omega)).trans c1,(World.ownsRow.cellAt h (i*3+1) (by omega)).trans c2,(World.ownsRow.cellAt h (i*3+2) (by omega)).trans c3⟩
end Go.Proofs.YtejebodgfoihkaaGreat
namespace Go.Proofs.YtejebodgfoihkaaGreat
namespace Ty

def b (s:ByteArray) (i:Nat):Nat:=if h:i<s.size then (s[i]).toNat else 0
theorem b_at {s:ByteArray} {i:Nat} (h:i<s.size):b s i=(s[i]).toNat:=dif_pos h
theorem b_lt (s:ByteArray) (i:Nat):b s i<256:=by
 unfold b
 split
 · exact UInt8.toNat_lt _
 omega
def mat (s:ByteArray):Nat→Nat→Nat→Nat
 | _,_,0=>0
 | a,c,f+1=>if c<s.size∧b s a=b s c then mat s (a+1) (c+1) f+1 else 0
theorem mat_yes {s:ByteArray} {a c f:Nat} (h1:c<s.size) (h2:b s a=b s c):mat s a c (f+1)=mat s (a+1) (c+1) f+1:=by rw[mat,if_pos ⟨h1,h2⟩]
theorem mat_no {s:ByteArray} {a c f:Nat} (h:¬(c<s.size∧b s a=b s c)):mat s a c f=0:=by
 cases f with
 | zero=>rfl
 | succ f=>rw[mat,if_neg h]
theorem mat_le (s:ByteArray):∀(f a c:Nat),mat s a c f≤f
 | 0,_,_=>Nat.le_refl _
 | f+1,a,c=>by
  rw[mat]
  split
  · have:=mat_le s f (a+1) (c+1);omega
  omega
theorem mat_in (s:ByteArray):∀(f a c:Nat),c≤s.size→c+mat s a c f≤s.size
 | 0,_,_,h=>h
 | f+1,a,c,h=>by
  rw[mat]
  split
  · rename_i h1
    have:=mat_in s f (a+1) (c+1) (by omega);omega
  exact h
theorem mat_same (s:ByteArray):∀(f a c i:Nat),i<mat s a c f→b s (a+i)=b s (c+i)
 | 0,_,_,_,h=>by simp[mat] at h
 | f+1,a,c,i,h=>by
  rw[mat] at h
  split at h
  · rename_i h1
    cases i with
    | zero=>exact h1.2
    | succ i=>
     have:=mat_same s f (a+1) (c+1) i (by omega)
     rw[show a+(i+1)=a+1+i by omega,show c+(i+1)=c+1+i by omega]
     exact this
  omega
def three (s:ByteArray) (p c:Nat):Prop:=c+3≤s.size∧b s p=b s c∧b s (p+1)=b s (c+1)∧b s (p+2)=b s (c+2)
theorem mat_three (s:ByteArray) (p c f:Nat):3≤mat s p c (f+3)↔three s p c:=by
 unfold three
 constructor
 · intro h
   have h0:=mat_same s (f+3) p c 0 (by omega)
   have h1:=mat_same s (f+3) p c 1 (by omega)
   have h2:=mat_same s (f+3) p c 2 (by omega)
   by_cases hc:c≤s.size
   · have:=mat_in s (f+3) p c hc
     exact⟨by omega,h0,h1,h2⟩
   rw[mat_no (by omega)] at h;omega
 rintro ⟨h0,h1,h2,h3⟩
 rw[mat_yes (by omega) h1,mat_yes (by omega) h2,mat_yes (by omega) h3]
 omega

def upd (s:ByteArray) (A:Nat) (g:Nat×Nat) (p:Nat):Nat×Nat:=if g.1<mat s p A 258 then (mat s p A 258,A-p) else g
def bst (s:ByteArray) (A:Nat):Nat→Nat×Nat
 | 0=>(0,0)
 | k+1=>upd s A (bst s A k) (A-(k+1))
theorem upd_le {s:ByteArray} {A:Nat} {g:Nat×Nat} (p:Nat) (h:g.1≤258):(upd s A g p).1≤258:=by
 unfold upd
 split
 · exact mat_le _ _ _ _
 exact h
theorem bst_le (s:ByteArray) (A:Nat):∀k,(bst s A k).1≤258
 | 0=>by simp[bst]
 | k+1=>upd_le _ (bst_le s A k)
theorem bst_is (s:ByteArray) (A:Nat):∀k,k≤A→(bst s A k).1=0∨(1≤(bst s A k).2∧(bst s A k).2≤k∧(bst s A k).1=mat s (A-(bst s A k).2) A 258)
 | 0,_=>.inl rfl
 | k+1,h=>by
  have ih:=bst_is s A k (by omega)
  rw[bst,upd]
  split
  · right
    refine⟨by show 1≤A-(A-(k+1));omega,by show A-(A-(k+1))≤k+1;omega,?_⟩
    show _=mat s (A-(A-(A-(k+1)))) A 258
    rw[show A-(A-(A-(k+1)))=A-(k+1) by omega]
  rcases ih with h1|⟨h1,h2,h3⟩
  · exact .inl h1
  exact .inr ⟨h1,by omega,h3⟩
instance (s:ByteArray) (p c:Nat):Decidable (three s p c):=by unfold three;infer_instance
def pls (s:ByteArray) (x y z:Nat) (A:Nat):List Nat:=(List.range A).filter (fun p=>decide (p+3≤s.size∧b s p=x∧b s (p+1)=y∧b s (p+2)=z))
theorem pls_yes {s:ByteArray} {x y z A:Nat} (h:A+3≤s.size∧b s A=x∧b s (A+1)=y∧b s (A+2)=z):pls s x y z (A+1)=pls s x y z A++[A]:=by
 unfold pls
 rw[List.range_succ,List.filter_append,List.filter_cons,if_pos (decide_eq_true h)]
 rfl
theorem pls_no {s:ByteArray} {x y z A:Nat} (h:¬(A+3≤s.size∧b s A=x∧b s (A+1)=y∧b s (A+2)=z)):pls s x y z (A+1)=pls s x y z A:=by
 unfold pls
 rw[List.range_succ,List.filter_append,List.filter_cons,if_neg (by simpa using h)]
 simp
theorem pls_lt {s:ByteArray} {x y z A p:Nat} (h:p∈pls s x y z A):p<A:=by
 unfold pls at h
 rw[List.mem_filter] at h
 exact List.mem_range.1 h.1
theorem pls_len (s:ByteArray) (x y z A:Nat):(pls s x y z A).length≤A:=by
 have:=List.length_filter_le (fun p=>decide (p+3≤s.size∧b s p=x∧b s (p+1)=y∧b s (p+2)=z)) (List.range A)
 rw[List.length_range] at this
 exact this
theorem range_back (A:Nat):(List.range A).reverse=(List.range A).map (fun i=>A-(i+1)):=by
 apply List.ext_getElem
 · simp
 intro i h1 h2
 simp
 omega
def gst (s:ByteArray) (A k:Nat):Nat×Nat:=(((List.range k).map (fun i=>A-(i+1))).filter (fun p=>decide (three s p A))).foldl (upd s A) (0,0)
theorem gst_is (s:ByteArray) (A:Nat):∀k,gst s A k=if 3≤(bst s A k).1 then bst s A k else (0,0)
 | 0=>by simp[gst,bst]
 | k+1=>by
  have ih:=gst_is s A k
  have e:gst s A (k+1)=if three s (A-(k+1)) A then upd s A (gst s A k) (A-(k+1)) else gst s A k:=by
   unfold gst
   rw[List.range_succ,List.map_append,List.filter_append,List.foldl_append]
   by_cases h:three s (A-(k+1)) A
   · simp[h]
   simp[h]
  rw[e,ih]
  have hm:=mat_three s (A-(k+1)) A 255
  rw[bst]
  by_cases h:three s (A-(k+1)) A
  · have hm3:3≤mat s (A-(k+1)) A 258:=hm.2 h
    rw[if_pos h]
    by_cases h3:3≤(bst s A k).1
    · rw[if_pos h3]
      unfold upd
      by_cases h4:(bst s A k).1<mat s (A-(k+1)) A 258
      · rw[if_pos h4,if_pos (show 3≤(mat s (A-(k+1)) A 258,A-(A-(k+1))).1 from hm3)]
      rw[if_neg h4,if_pos h3]
    rw[if_neg h3]
    unfold upd
    rw[if_pos (show ((0,0):Nat×Nat).1<mat s (A-(k+1)) A 258 by show 0<_;omega),if_pos (show (bst s A k).1<mat s (A-(k+1)) A 258 by omega),if_pos (show 3≤(mat s (A-(k+1)) A 258,A-(A-(k+1))).1 from hm3)]
  have hm3:¬3≤mat s (A-(k+1)) A 258:=fun q=>h (hm.1 q)
  rw[if_neg h]
  unfold upd
  by_cases h3:3≤(bst s A k).1
  · rw[if_neg (show ¬(bst s A k).1<mat s (A-(k+1)) A 258 by omega)]
  rw[if_neg h3]
  by_cases h4:(bst s A k).1<mat s (A-(k+1)) A 258
  · rw[if_pos h4,if_neg (show ¬3≤(mat s (A-(k+1)) A 258,A-(A-(k+1))).1 from hm3)]
  rw[if_neg h4,if_neg h3]
def lok (s:ByteArray) (A:Nat):List Nat→Nat×Nat→Nat×Nat
 | [],g=>g
 | p::l,g=>if (upd s A g p).1=258 then upd s A g p else lok s A l (upd s A g p)
theorem fold_full (s:ByteArray) (A:Nat):∀(l:List Nat) (g:Nat×Nat),g.1=258→l.foldl (upd s A) g=g
 | [],_,_=>rfl
 | p::l,g,h=>by
  have e:upd s A g p=g:=by
   unfold upd
   rw[if_neg (by have:=mat_le s 258 p A;omega)]
  rw[List.foldl_cons,e]
  exact fold_full s A l g h
theorem lok_is (s:ByteArray) (A:Nat):∀(l:List Nat) (g:Nat×Nat),lok s A l g=l.foldl (upd s A) g
 | [],_=>rfl
 | p::l,g=>by
  rw[lok,List.foldl_cons]
  split
  · rename_i h
    rw[fold_full s A l _ h]
  exact lok_is s A l _
theorem lok_best (s:ByteArray) (A:Nat) (hA:A+3≤s.size):lok s A (pls s (b s A) (b s (A+1)) (b s (A+2)) A).reverse (0,0)=if 3≤(bst s A A).1 then bst s A A else (0,0):=by
 rw[lok_is,←gst_is]
 unfold gst pls
 rw[←range_back,←List.filter_reverse]
 congr 1
 apply List.filter_congr
 intro p hp
 have hp':p<A:=by simpa using hp
 unfold three
 have e:(p+3≤s.size∧b s p=b s A∧b s (p+1)=b s (A+1)∧b s (p+2)=b s (A+2))↔(A+3≤s.size∧b s p=b s A∧b s (p+1)=b s (A+1)∧b s (p+2)=b s (A+2)):=
  ⟨fun h=>⟨hA,h.2⟩,fun h=>⟨by omega,h.2⟩⟩
 exact decide_eq_decide.2 e
theorem bst_short {s:ByteArray} {A:Nat} (hA:¬A+3≤s.size) (k:Nat) (hk:k≤A) (h1:A≤s.size):¬3≤(bst s A k).1:=by
 intro h
 rcases bst_is s A k hk with h0|⟨_,_,h3⟩
 · omega
 have:=mat_in s 258 (A-(bst s A k).2) A h1
 omega

def tok (s:ByteArray) (A:Nat):Tk:=if 3≤(bst s A A).1 then (0,((bst s A A).1:Int),((bst s A A).2:Int)) else ((b s A:Int),0,0)
def adv (s:ByteArray) (A:Nat):Nat:=if 3≤(bst s A A).1 then (bst s A A).1 else 1
theorem adv_pos (s:ByteArray) (A:Nat):1≤adv s A:=by unfold adv;split<;>omega
theorem adv_in {s:ByteArray} {A:Nat} (h:A<s.size):A+adv s A≤s.size:=by
 unfold adv
 split
 · rename_i h3
   rcases bst_is s A A (Nat.le_refl _) with h0|⟨_,_,h4⟩
   · omega
   rw[h4]
   exact mat_in s 258 _ A (by omega)
 omega
def all (s:ByteArray):Nat→Nat→List Tk
 | 0,_=>[]
 | f+1,A=>if A<s.size then tok s A::all s f (A+adv s A) else []
theorem all_fuel (s:ByteArray):∀(f f' A:Nat),s.size-A≤f→s.size-A≤f'→all s f A=all s f' A
 | 0,0,_,_,_=>rfl
 | 0,f'+1,A,h,_=>by rw[all,all,if_neg (by omega)]
 | f+1,0,A,_,h=>by rw[all,all,if_neg (by omega)]
 | f+1,f'+1,A,h,h'=>by
  rw[all,all]
  by_cases hA:A<s.size
  · rw[if_pos hA,if_pos hA,all_fuel s f f' _ (by have:=adv_pos s A;omega) (by have:=adv_pos s A;omega)]
  rw[if_neg hA,if_neg hA]
def from_ (s:ByteArray) (A:Nat):List Tk:=all s (s.size-A) A
theorem from_step {s:ByteArray} {A:Nat} (h:A<s.size):from_ s A=tok s A::from_ s (A+adv s A):=by
 unfold from_
 obtain⟨f,hf⟩:∃f,s.size-A=f+1:=⟨s.size-A-1,by omega⟩
 rw[hf,all,if_pos h,all_fuel s f (s.size-(A+adv s A)) _ (by have:=adv_pos s A;omega) (Nat.le_refl _)]
theorem from_end {s:ByteArray} {A:Nat} (h:¬A<s.size):from_ s A=[]:=by
 unfold from_
 rw[show s.size-A=0 by omega];rfl
theorem all_len (s:ByteArray):∀f A,(all s f A).length≤f
 | 0,_=>Nat.le_refl _
 | f+1,A=>by
  rw[all]
  split
  · rw[List.length_cons];have:=all_len s f (A+adv s A);omega
  simp
theorem from_len (s:ByteArray) (A:Nat):(from_ s A).length≤s.size-A:=all_len s _ _
end Ty
open Go.RowKit
namespace Df
def alike (l:List Int) (p:Nat):Nat:=1+((l.drop (p+1)).takeWhile (fun z=>z==l.getD p 0)).length
theorem alike_step {l:List Int} {p n:Nat} (h:p+n<l.length) (he:l[p+n]=l.getD p 0):((l.drop (p+n)).takeWhile (fun z=>z==l.getD p 0)).length=1+((l.drop (p+(n+1))).takeWhile (fun z=>z==l.getD p 0)).length:=by
 rw[List.drop_eq_getElem_cons h,List.takeWhile_cons,he,beq_self_eq_true,if_pos rfl,List.length_cons,Nat.add_comm,Nat.add_assoc]
theorem alike_stop {l:List Int} {p n:Nat} (h:∀h:p+n<l.length,l[p+n]≠l.getD p 0):((l.drop (p+n)).takeWhile (fun z=>z==l.getD p 0)).length=0:=by
 by_cases h1:p+n<l.length
 · rw[List.drop_eq_getElem_cons h1,List.takeWhile_cons]
   have h2:(l[p+n]==l.getD p 0)=false:=beq_eq_false_iff_ne.2 (h h1)
   rw[h2]
   rfl
 rw[List.drop_eq_nil_of_le (by omega)]
 rfl
theorem alike_le {l:List Int} {p:Nat} (h:p<l.length):p+alike l p≤l.length:=by
 unfold alike
 have h1:=(List.takeWhile_sublist (fun z=>z==l.getD p 0) (l:=l.drop (p+1))).length_le
 rw[List.length_drop] at h1
 omega
theorem alike_pos (l:List Int) (p:Nat):1≤alike l p:=by unfold alike;omega
def usedF (l:List Int) (least:Nat):Nat→Nat
 | 0=>0
 | n+1=>if least<n+1∧l.getD n 0=0 then usedF l least n else n+1
def used (l:List Int) (least:Nat):Nat:=usedF l least l.length
theorem usedF_le (l:List Int) (least:Nat):∀n,usedF l least n≤n
 | 0=>Nat.le_refl _
 | n+1=>by
  unfold usedF
  split
  · exact Nat.le_succ_of_le (usedF_le l least n)
  exact Nat.le_refl _
theorem usedF_ge (l:List Int) (least:Nat):∀n,least≤n→least≤usedF l least n
 | 0,h=>h
 | n+1,h=>by
  unfold usedF
  split
  · next h1=>exact usedF_ge l least n (by omega)
  exact h
theorem used_le (l:List Int) (least:Nat):used l least≤l.length:=usedF_le l least _
theorem used_ge {l:List Int} {least:Nat} (h:least≤l.length):least≤used l least:=usedF_ge l least _ h
def run (l:List Int) (p:Nat):Tk×Nat:=
 if l.getD p 0=0∧11≤alike l p then ((18,((min (alike l p) 138-11:Nat):Int),7),min (alike l p) 138)
 else if l.getD p 0=0∧3≤alike l p then ((17,((alike l p-3:Nat):Int),3),alike l p)
 else if 0<p∧l.getD p 0=l.getD (p-1) 0∧3≤alike l p then ((16,((min (alike l p) 6-3:Nat):Int),2),min (alike l p) 6)
 else ((l.getD p 0,0,0),1)
theorem run_pos (l:List Int) (p:Nat):1≤(run l p).2:=by
 unfold run
 split
 · show 1≤min _ _;omega
 split
 · show 1≤alike l p;omega
 split
 · show 1≤min _ _;omega
 exact Nat.le_refl _
theorem run_in {l:List Int} {p:Nat} (h:p<l.length):p+(run l p).2≤l.length:=by
 have h1:=alike_le h
 unfold run
 split
 · show p+min _ _≤_;omega
 split
 · exact h1
 split
 · show p+min _ _≤_;omega
 show p+1≤_;omega
def runsF (l:List Int):Nat→Nat→List Tk
 | 0,_=>[]
 | f+1,p=>if p<l.length then (run l p).1::runsF l f (p+(run l p).2) else []
theorem runs_fuel (l:List Int):∀(f f' p:Nat),l.length-p≤f→l.length-p≤f'→runsF l f p=runsF l f' p
 | 0,0,_,_,_=>rfl
 | 0,f'+1,p,h,_=>by unfold runsF;rw[if_neg (by omega)]
 | f+1,0,p,_,h=>by unfold runsF;rw[if_neg (by omega)]
 | f+1,f'+1,p,h,h'=>by
  unfold runsF
  have:=run_pos l p
  by_cases hp:p<l.length
  · rw[if_pos hp,if_pos hp,runs_fuel l f f' _ (by omega) (by omega)]
  rw[if_neg hp,if_neg hp]
def runsFrom (l:List Int) (p:Nat):List Tk:=runsF l (l.length-p) p
def runs (l:List Int):List Tk:=runsFrom l 0
theorem runs_step {l:List Int} {p:Nat} (h:p<l.length):runsFrom l p=(run l p).1::runsFrom l (p+(run l p).2):=by
 unfold runsFrom
 obtain⟨f,hf⟩:∃f,l.length-p=f+1:=⟨l.length-p-1,by omega⟩
 rw[hf]
 show (if p<l.length then _ else _)=_
 rw[if_pos h,runs_fuel l f (l.length-(p+(run l p).2)) _ (by have:=run_pos l p;omega) (Nat.le_refl _)]
theorem runs_end {l:List Int} {p:Nat} (h:¬p<l.length):runsFrom l p=[]:=by
 unfold runsFrom
 rw[show l.length-p=0 by omega]
 rfl
theorem runsF_len (l:List Int):∀f p,(runsF l f p).length≤f
 | 0,_=>Nat.le_refl _
 | f+1,p=>by
  unfold runsF
  split
  · rw[List.length_cons];exact Nat.succ_le_succ (runsF_len l f _)
  exact Nat.zero_le _
theorem runs_len (l:List Int):(runs l).length≤l.length:=runsF_len l _ _
end Df
theorem tkCells_snocR:∀(l:List Tk) (v s d:Int),tkCells l++[.int .i64 v,.int .i64 s,.int .i64 d]=tkCells (l++[(v,s,d)])
 | [],_,_,_=>rfl
 | p::l,v,s,d=>by
  have:=tkCells_snocR l v s d
  simp only[tkCells,List.cons_append] at this ⊢
  rw[←this]
def Own3 (T:TypeId) (w:World) (B:Nat) (v:Value) (n:Nat) (l:List Tk):Prop:=w.ownsRow B T 3 v n (tkCells l)
theorem Own3.below {T:TypeId} {w w':World} {B n:Nat} {v:Value} {l:List Tk} (h:Own3 T w B v n l) (b:Below w.heap.size w w'):Own3 T w' B v n l:=by
 have hg:w.grownBy w' none:=⟨b.os,b.tape,b.output,b.size,fun k hk _=>b.block k hk⟩
 refine World.ownsRow.kept (show World.ownsRow _ _ _ _ _ _ _ from h) hg ?_
 cases v.ownBlock with
 | none=>exact .inl rfl
 | some k=>exact .inr (by simp)
theorem Own3.len {T:TypeId} {w:World} {B n:Nat} {v:Value} {l:List Tk} (h:Own3 T w B v n l):l.length=n:=by
 have:=h.1
 rw[tkCells_len] at this
 omega
theorem wpList_app3 {T TS:TypeId} (hT:(Tryz.prog.info? T).map (fun i=>(i.zero,i.size,i.bytes))=some (some (.agg #[.int .i64 0,.int .i64 0,.int .i64 0]),3,24)) (hU:Tryz.prog.underlying TS=some (.slice T))
 {ops:Array Oper} {rest:List Oper} {o:Oper} {a:Act} {Q:Exit→Act→World→Prop} (w0:World) (hgd:o.guard=none) (s x:Operand)
 (ho:o.op=.call { callee:=.builtin .append,args:=#[s,x],argTypes:=#[TS,TS] })
 (base:Nat) (v:Value) (n:Nat) (l:List Tk) (t1 t2 t3:Int) (hs:a.eval s=v) (hown:Own3 T w0 base v n l) (hx:a.eval x=.slice (some ⟨w0.heap.size,0,none⟩) 1 1) (hn:n≤1000000) (hb:base≤w0.heap.size)
 (h:∀g cap w',Own3 T w' base (.slice (some ⟨g,0,none⟩) (n+1) cap) (n+1) (l++[(t1,t2,t3)])→Below base w0 w'→wpList Tryz.prog ops Q rest (a.put o.dst (.slice (some ⟨g,0,none⟩) (n+1) cap)) w'):
 wpList Tryz.prog ops Q (o::rest) a (w0.alloc (.cells #[.int .i64 t1,.int .i64 t2,.int .i64 t3] T)):=by
 obtain⟨i0,hi0,hz0,hz1,hz2⟩:=info_parts hT
 refine wpList_append_lies _ hgd s x _ ho base T i0 (.agg #[.int .i64 0,.int .i64 0,.int .i64 0]) 3 24 hU hi0 hz0 hz1 hz2 rfl (by decide) v n (tkCells l) hs (World.ownsRow.alloc (show World.ownsRow _ _ _ _ _ _ _ from hown) _) ⟨w0.heap.size,0,none⟩ 1 1 [.int .i64 t1,.int .i64 t2,.int .i64 t3] hx rfl (World.news_of_block (heap_alloc_new _ _)) (fun u hu=>by simp at hu;rcases hu with rfl|rfl|rfl<;>rfl) (by decide) (by unfold maxLen;omega) (by omega) (by rw[World.size_alloc];omega) _ rfl ?_
 intro g cap w' hown' hg _ _
 rw[tkCells_snocR] at hown'
 exact h g cap w' hown' (((Below.refl base w0).alloc hb _).grown hg (by rw[World.size_alloc];omega) (fun k hk=>(World.ownsRow.lt (show World.ownsRow _ _ _ _ _ _ _ from hown) k hk).1))
end Go.Proofs.YtejebodgfoihkaaGreat
namespace Go.Proofs.YtejebodgfoihkaaGreat
namespace Bg

def big (b:Nat→Nat):Nat→Nat
 | 0=>0
 | k+1=>2*big b k+b k

def low (b:Nat→Nat):Nat→Nat
 | 0=>0
 | k+1=>low b k+b k*2^k

theorem big_lt (b:Nat→Nat) (hb:∀i,b i<2):∀k,big b k<2^k:=by
 intro k
 induction k with
 | zero=>simp[big]
 | succ k ih=>have:=hb k;simp only[big,Nat.pow_succ];omega

theorem low_lt (b:Nat→Nat) (hb:∀i,b i<2):∀k,low b k<2^k:=by
 intro k
 induction k with
 | zero=>simp[low]
 | succ k ih=>
  have h:=hb k
  have h2:b k*2^k≤1*2^k:=Nat.mul_le_mul_right _ (by omega)
  simp only[low,Nat.pow_succ];omega

def num (b:Nat→Nat) (size:Nat) (hi:Bool):Nat:=if hi then big b size else low b size

def spot (hi:Bool) (i:Nat):Nat:=if hi then 7-i%8 else i%8
theorem spot_le (hi:Bool) (i:Nat):spot hi i≤7:=by unfold spot;split<;>omega
end Bg
open Go.RowKit

def turned (n size:Nat):Nat:=Bg.big (fun i=>n / 2^i%2) size
theorem turned_lt (n size:Nat):turned n size<2^size:=Bg.big_lt _ (fun _=>Nat.mod_lt _ (by omega)) size

set_option maxHeartbeats 400000 in
theorem l3Turn_any (n size:Nat) (w:World) (hn:n≤16777216) (hs:size≤15):
 Calls Tryz.prog 99 #[.int .i64 n,.int .i64 size] w fun e w'=>e=.returned (.int .i64 (turned n size:Nat))∧w'=w:=by
 go_enter Tryz.func99,Tryz.ntmps99
 go_wp2_with fail
 go_loop [0,5,6] (fun m x i=>∃k y z:Nat,k≤size∧i=.int .i64 k∧y=turned n k∧x=.int .i64 y∧z=n / 2^k∧m=.int .i64 z) (fun _ _ i=>size-(intOf i).toNat)
 case atStart=>exact⟨0,0,n,Nat.zero_le _,rfl,rfl,rfl,by simp,rfl⟩
 case round=>
  obtain⟨k,y,z,hk,rfl,hy,rfl,hz,rfl⟩:=hrel
  have hyl:=turned_lt n k
  have hp:2^k≤2^15:=Nat.pow_le_pow_right (by omega) (by omega)
  have hzl:z≤n:=by rw[hz];exact Nat.div_le_self _ _
  rw[←hy] at hyl
  have hyb:y≤32768:=by omega
  have HY:Hid (2*y+z%2=turned n (k+1)):=by show _=_;rw[hy,hz];rfl
  have HZ:Hid (z / 2=n / 2^(k+1)):=by show _=_;rw[hz,Nat.div_div_eq_div_mul,Nat.pow_succ]
  have HX:Hid (y=turned n k):=hy
  clear hy hz hyl hp
  by_cases hlt:k<size
  · go_wp2_with fail
    go_round
    case rel=>exact⟨k+1,2*y+z%2,z / 2,by omega,by go_num,HY.out,by go_num,HZ.out,by go_num⟩
    case measure=>simp[intOf];omega
  have hk':k=size:=by omega
  subst hk'
  go_wp2_with fail
  go_ret
  exact⟨ret_int (by rw[HX.out]),rfl⟩

theorem or_turn (y z v:Nat) (hy:y≤32768) (hz:z≤16777216) (hv:v=2*y+z%2):bits .or .i64 ((y:Int)*2) (bits .and .i64 (z:Int) 1)=(v:Int):=by
 have h1:=i64_and_nat z 1 (by omega) (by omega)
 rw[show ((1:Nat):Int)=1 from rfl,Nat.and_one_is_mod] at h1
 rw[h1,show (y:Int)*2=((2*y:Nat):Int) by omega,i64_or_nat _ _ (by omega) (by omega),hv]
 congr 1
 have h2:z%2<2^1:=by omega
 have:=Nat.two_pow_add_eq_or_of_lt h2 y
 rw[Nat.pow_one] at this
 omega

set_option maxHeartbeats 400000 in
theorem turnRound_any (n size:Nat) (w:World) (hn:n≤16777216) (hs:size≤15):
 Calls Tryz.prog 52 #[.int .i64 n,.int .i64 size] w fun e w'=>e=.returned (.int .i64 (turned n size:Nat))∧w'=w:=by
 go_enter Tryz.func52,Tryz.ntmps52
 go_wp2_with fail
 go_loop [0,5,7] (fun m x i=>∃k y z:Nat,k≤size∧i=.int .i64 k∧y=turned n k∧x=.int .i64 y∧z=n / 2^k∧m=.int .i64 z) (fun _ _ i=>size-(intOf i).toNat)
 case atStart=>exact⟨0,0,n,Nat.zero_le _,rfl,rfl,rfl,by simp,rfl⟩
 case round=>
  obtain⟨k,y,z,hk,rfl,hy,rfl,hz,rfl⟩:=hrel
  have hyl:=turned_lt n k
  have hp:2^k≤2^15:=Nat.pow_le_pow_right (by omega) (by omega)
  have hzl:z≤n:=by rw[hz];exact Nat.div_le_self _ _
  rw[←hy] at hyl
  have hyb:y≤32768:=by omega
  have hzb:z≤16777216:=by omega
  obtain⟨v,hv⟩:∃v,v=2*y+z%2:=⟨_,rfl⟩
  have hor:=or_turn y z v hyb hzb hv
  have HY:Hid (v=turned n (k+1)):=by show _=_;rw[hv,hy,hz];rfl
  have HZ:Hid (z / 2=n / 2^(k+1)):=by show _=_;rw[hz,Nat.div_div_eq_div_mul,Nat.pow_succ]
  have HX:Hid (y=turned n k):=hy
  clear hy hz hyl hp hv
  by_cases hlt:k<size
  · go_wp2_with fail
    go_round
    case rel=>exact⟨k+1,v,z / 2,by omega,by go_num,HY.out,by first|rfl|go_num,HZ.out,by go_num⟩
    case measure=>simp[intOf];omega
  have hk':k=size:=by omega
  subst hk'
  go_wp2_with fail
  go_ret
  exact⟨ret_int (by rw[HX.out]),rfl⟩

theorem Ints.at {w:World} {a:Option Addr} {zs:List Int} (h:Ints w a zs) {i:Nat} (hi:i<zs.length):
 ∃b off,a=some ⟨b,off,none⟩∧b<w.heap.size∧w.cell? ⟨b,off+i,none⟩=some (.int .i64 zs[i]):=by
 rcases h with h|⟨b,off,rfl,hbB,hc⟩
 · rw[h] at hi;simp at hi
 exact⟨b,off,rfl,hbB,hc i hi⟩

set_option maxHeartbeats 1000000 in
set_option maxRecDepth 20000 in
theorem l3Sym_any (a1 a2:Option Addr) (n c1 c2 k V S:Nat) (cs ls:List Int) (w:World) (h1:Ints w a1 cs) (h2:Ints w a2 ls) (hn1:cs.length=n) (hn2:ls.length=n) (hk:k<n)
 (hV:cs[k]'(by omega)=(V:Int)) (hS:ls[k]'(by omega)=(S:Int)) (hVb:V≤16777216) (hSb:S≤15):
 Calls Tryz.prog 73 #[.slice a1 n c1,.slice a2 n c2,.int .i64 k] w fun e w'=>e=.returned (.agg #[.int .i64 (turned V S:Nat),.int .i64 S])∧Below w.heap.size w w':=by
 obtain⟨b1,o1,rfl,hb1,e1⟩:=h1.at (show k<cs.length by omega)
 obtain⟨b2,o2,rfl,hb2,e2⟩:=h2.at (show k<ls.length by omega)
 rw[hV] at e1
 rw[hS] at e2
 have hki:(k:Int)<(n:Int):=by omega
 have hk0:(0:Int)≤(k:Int):=by omega
 have HT:Hid (∀w,Calls Tryz.prog 99 #[.int .i64 V,.int .i64 S] w fun e w'=>e=.returned (.int .i64 (turned V S:Nat))∧w'=w):=fun w=>l3Turn_any V S w hVb hSb
 generalize turned V S=T at*
 clear h1 h2 hn1 hn2 hV hS
 have f1:(w.alloc (.cells #[.int .i64 0,.int .i64 0] 38)).cell? ⟨b1,o1+k,none⟩=some (.int .i64 (V:Int)):=(World.cell?_alloc_past _ _ _ hb1).trans e1
 have f2:(w.alloc (.cells #[.int .i64 0,.int .i64 0] 38)).cell? ⟨b2,o2+k,none⟩=some (.int .i64 (S:Int)):=(World.cell?_alloc_past _ _ _ hb2).trans e2
 have f3:(w.alloc (.cells #[.int .i64 0,.int .i64 0] 38)).cell? ⟨w.heap.size,0,none⟩=some (.int .i64 0):=by rw[World.cell?_alloc_at _ _ _ _ rfl];rfl
 have f4:(w.alloc (.cells #[.int .i64 0,.int .i64 0] 38)).cell? ⟨w.heap.size,1,none⟩=some (.int .i64 0):=by rw[World.cell?_alloc_at _ _ _ _ rfl];rfl
 have f5:(w.alloc (.cells #[.int .i64 0,.int .i64 0] 38)).frozen? ⟨w.heap.size,0,none⟩=false:=by rw[World.frozen?_alloc_at _ _ _ _ rfl]
 have f6:(w.alloc (.cells #[.int .i64 0,.int .i64 0] 38)).frozen? ⟨w.heap.size,1,none⟩=false:=by rw[World.frozen?_alloc_at _ _ _ _ rfl]
 have hbel:Below w.heap.size w (w.alloc (.cells #[.int .i64 0,.int .i64 0] 38)):=(Below.refl _ _).alloc (Nat.le_refl _) _
 have HF:Hid (_∧_∧_∧_∧_∧_∧_):=⟨f1,f2,f3,f4,f5,f6,hbel⟩
 clear f1 f2 f3 f4 f5 f6 hbel
 go_enter Tryz.func73,Tryz.ntmps73
 go_wp2_with fail
 obtain⟨f1,f2,f3,f4,f5,f6,hbel⟩:=HF.out
 clear HF e1 e2 hb1 hb2
 generalize w.alloc (.cells #[.int .i64 0,.int .i64 0] 38)=W at*
 go_still_tail 14,(by kernel_rfl)
 still_call (HT.out _)
 repeat still_step
 refine wpStill_nil ?_
 go_wp2_with fail
 refine bodyPost_ret (v:=.agg #[.int .i64 (T:Int),.int .i64 (S:Int)]) (by simp[results,Tryz.results73,go_sem, *]) rfl ⟨rfl,(hbel.drew.setCell (p:=⟨w.heap.size,0,none⟩) (Nat.le_refl _) _).setCell (p:=⟨w.heap.size,1,none⟩) (Nat.le_refl _) _⟩

def Bits2 (w:World) (a:Option Addr) (l:List (Int×Int)):Prop:=
 l=[]∨∃b off,a=some ⟨b,off,none⟩∧b<w.heap.size∧∀i (h:i<l.length),w.cell? ⟨b,off+i*2,none⟩=some (.int .i64 (l[i]).1)∧w.cell? ⟨b,off+i*2+1,none⟩=some (.int .i64 (l[i]).2)

theorem Bits2.at {w:World} {a:Option Addr} {l:List (Int×Int)} (h:Bits2 w a l) {i:Nat} (hi:i<l.length):
 ∃b off,a=some ⟨b,off,none⟩∧b<w.heap.size∧w.cell? ⟨b,off+i*2,none⟩=some (.int .i64 (l[i]).1)∧w.cell? ⟨b,off+i*2+1,none⟩=some (.int .i64 (l[i]).2):=by
 rcases h with h|⟨b,off,rfl,hbB,hc⟩
 · rw[h] at hi;simp at hi
 exact⟨b,off,rfl,hbB,hc i hi⟩

theorem info_bit:(Tryz.prog.info? 38).map (fun i=>(i.zero,i.size,i.bytes))=some (some (.agg #[.int .i64 0,.int .i64 0]),2,16):=by kernel_rfl

def cellsOf:List (Int×Int)→List Value
 | []=>[]
 | p::l=>.int .i64 p.1::.int .i64 p.2::cellsOf l

theorem cellsOf_len:∀l:List (Int×Int),(cellsOf l).length=l.length*2
 | []=>rfl
 | p::l=>by simp only[cellsOf,List.length_cons,cellsOf_len l];omega
theorem cellsOf_get:∀(l:List (Int×Int)) (i:Nat) (h:i<l.length),(cellsOf l)[i*2]?=some (.int .i64 (l[i]).1)∧(cellsOf l)[i*2+1]?=some (.int .i64 (l[i]).2)
 | [],i,h=>by simp at h
 | p::l,0,h=>by simp[cellsOf]
 | p::l,i+1,h=>by
  have:=cellsOf_get l i (by simpa using h)
  rw[show (i+1)*2=i*2+1+1 by omega,show i*2+1+1+1=i*2+1+1+1 from rfl]
  simp only[cellsOf,List.getElem?_cons_succ,List.getElem_cons_succ]
  exact this
def OwnP (w:World) (B:Nat) (v:Value) (n:Nat) (l:List (Int×Int)):Prop:=w.ownsRow B 38 2 v n (cellsOf l)

theorem OwnP.len {w:World} {B n:Nat} {v:Value} {l:List (Int×Int)} (h:OwnP w B v n l):l.length=n:=by
 have:=h.1
 rw[cellsOf_len] at this;omega

theorem OwnP.bits {w:World} {B n:Nat} {v:Value} {l:List (Int×Int)} (h:OwnP w B v n l):∃ao cap,v=.slice ao n cap∧Bits2 w ao l:=by
 have hl:=h.len
 rcases h.2 with⟨rfl,h0⟩|⟨g,cap,cur,rfl,_,hg,_,_,_,ht⟩
 · subst h0
   exact⟨none,0,rfl,.inl (List.eq_nil_of_length_eq_zero hl)⟩
 refine⟨some ⟨g,0,none⟩,cap,rfl,.inr ⟨g,0,rfl,?_,fun i hi=>?_⟩⟩
 · rcases Nat.lt_or_ge g w.heap.size with hlt|hge
   · exact hlt
   rw[Array.getElem?_eq_none hge] at hg;cases hg
 obtain⟨c1,c2⟩:=cellsOf_get l i hi
 rw[Nat.zero_add]
 exact⟨(World.ownsRow.cellAt h (i*2) (by omega)).trans c1,(World.ownsRow.cellAt h (i*2+1) (by omega)).trans c2⟩

theorem OwnP.same {w w':World} {B n:Nat} {v:Value} {l:List (Int×Int)} (h:OwnP w B v n l) (hk:∀k,k<w.heap.size→B≤k→w'.heap[k]?=w.heap[k]?):OwnP w' B v n l:=by
 refine⟨h.1,?_⟩
 rcases h.2 with h2|⟨g,cap,cur,hv,hg,hh,r⟩
 · exact .inl h2
 have hlt:g<w.heap.size:=by
  rcases Nat.lt_or_ge g w.heap.size with hlt|hge
  · exact hlt
  rw[Array.getElem?_eq_none hge] at hh;cases hh
 exact .inr ⟨g,cap,cur,hv,hg,by rw[hk g hlt hg];exact hh,r⟩

theorem own_none (w:World):OwnP (w.alloc (.cells #[] 38)) w.heap.size (.slice (some ⟨w.heap.size,0,none⟩) 0 0) 0 []:=
 World.ownsRow_lit w #[] 0 (Nat.le_refl _) (by decide) rfl
end Go.Proofs.YtejebodgfoihkaaGreat
namespace Go.Proofs.YtejebodgfoihkaaGreat
namespace Df
def szN (n:Nat):Nat×Nat:=if n=28 then (258,0) else if n<8 then (3+n,0) else (3+(4+n%4)*2^(n / 4-1),n / 4-1)
def dsN (s:Nat):Nat×Nat:=if s<4 then (1+s,0) else (1+(2+s%2)*2^(s / 2-1),s / 2-1)
def down (f:Nat→Nat) (x:Nat):Nat→Nat
 | 0=>0
 | k+1=>if f (k+1)≤x then k+1 else down f x k
theorem down_le (f:Nat→Nat) (x:Nat):∀k,down f x k≤k
 | 0=>Nat.le_refl _
 | k+1=>by
  unfold down
  split
  · exact Nat.le_refl _
  exact Nat.le_succ_of_le (down_le f x k)
theorem down_is {f:Nat→Nat} {x:Nat} (h0:f 0≤x):∀k,f (down f x k)≤x
 | 0=>h0
 | k+1=>by
  unfold down
  split
  · assumption
  exact down_is h0 k
theorem down_yes {f:Nat→Nat} {x k:Nat} (h0:f k≤x):down f x k=k:=by
 cases k with
 | zero=>rfl
 | succ k=>unfold down;rw[if_pos h0]
theorem down_no {f:Nat→Nat} {x k:Nat} (h:¬f (k+1)≤x):down f x (k+1)=down f x k:=by
 show (if f (k+1)≤x then k+1 else down f x k)=_
 rw[if_neg h]
def szSym (x:Nat):Nat:=down (fun k=>(szN k).1) x 28
def dsSym (x:Nat):Nat:=down (fun k=>(dsN k).1) x 29
theorem szN_all:∀k,k<29→3≤(szN k).1∧(szN k).1≤258∧(szN k).2≤5:=by decide +kernel
theorem dsN_all:∀k,k<30→1≤(dsN k).1∧(dsN k).1≤24577∧(dsN k).2≤13:=by decide +kernel
theorem szSym_lt (x:Nat):szSym x<29:=Nat.lt_succ_of_le (down_le _ _ _)
theorem dsSym_lt (x:Nat):dsSym x<30:=Nat.lt_succ_of_le (down_le _ _ _)
def szBit (x:Nat):Int×Int:=(((x-(szN (szSym x)).1:Nat):Int),(((szN (szSym x)).2:Nat):Int))
def dsBit (x:Nat):Int×Int:=(((x-(dsN (dsSym x)).1:Nat):Int),(((dsN (dsSym x)).2:Nat):Int))
theorem szBit_all:∀x,x<259→3≤x→(szN (szSym x)).1≤x∧x-(szN (szSym x)).1<2^(szN (szSym x)).2:=by decide +kernel
end Df
namespace Mk

def inner (zs:List Int) (n:Int):Nat→Nat×List Int→Nat×List Int
 | 0,s=>s
 | k+1,s=>if zs.getD k 0=n then ((inner zs n k s).1+1,(inner zs n k s).2.set k ((inner zs n k s).1:Int)) else inner zs n k s

def outer (zs:List Int):Nat→Nat×List Int
 | 0=>(0,List.replicate zs.length 0)
 | m+1=>inner zs ((m+1:Nat):Int) zs.length (2*(outer zs m).1,(outer zs m).2)

def mk (zs:List Int):List Int:=(outer zs 15).2

theorem inner_hit (zs:List Int) (n:Int) (k:Nat) (s:Nat×List Int) (h:zs.getD k 0=n):
 inner zs n (k+1) s=((inner zs n k s).1+1,(inner zs n k s).2.set k ((inner zs n k s).1:Int)):=if_pos h
theorem inner_miss (zs:List Int) (n:Int) (k:Nat) (s:Nat×List Int) (h:¬zs.getD k 0=n):inner zs n (k+1) s=inner zs n k s:=if_neg h

theorem inner_le (zs:List Int) (n:Int) (s:Nat×List Int):∀k,(inner zs n k s).1≤s.1+k:=by
 intro k
 induction k with
 | zero=>exact Nat.le_refl _
 | succ k ih=>
  by_cases h:zs.getD k 0=n
  · rw[inner_hit zs n k s h];simp only;omega
  rw[inner_miss zs n k s h];omega

theorem inner_len (zs:List Int) (n:Int) (s:Nat×List Int):∀k,(inner zs n k s).2.length=s.2.length:=by
 intro k
 induction k with
 | zero=>rfl
 | succ k ih=>
  by_cases h:zs.getD k 0=n
  · rw[inner_hit zs n k s h];simp only[List.length_set];exact ih
  rw[inner_miss zs n k s h];exact ih

theorem outer_len (zs:List Int):∀m,(outer zs m).2.length=zs.length:=by
 intro m
 induction m with
 | zero=>simp[outer]
 | succ m ih=>show (inner zs _ zs.length _).2.length=_;rw[inner_len];exact ih

theorem outer_le (zs:List Int) (hz:zs.length≤300):∀m,(outer zs m).1+300≤300*2^m:=by
 intro m
 induction m with
 | zero=>simp[outer]
 | succ m ih=>
  have:=inner_le zs ((m+1:Nat):Int) (2*(outer zs m).1,(outer zs m).2) zs.length
  show (inner zs _ zs.length _).1+300≤_
  rw[Nat.pow_succ]
  simp only at this
  omega

theorem outer_bound (zs:List Int) (hz:zs.length≤300) (m:Nat) (hm:m≤15):(outer zs m).1≤9830400:=by
 have h:=outer_le zs hz m
 have h2:2^m≤2^15:=Nat.pow_le_pow_right (by omega) hm
 omega

theorem mk_len (zs:List Int):(mk zs).length=zs.length:=outer_len zs 15
end Mk
namespace Mk

def Small (l:List Int):Prop:=∀z∈l,0≤z∧z≤9830400

theorem small_set {l:List Int} (h:Small l) (k:Nat) (v:Int) (hv:0≤v∧v≤9830400):Small (l.set k v):=by
 intro z hz
 rcases List.mem_or_eq_of_mem_set hz with hz|rfl
 · exact h z hz
 exact hv

theorem small_replicate (n:Nat):Small (List.replicate n 0):=by
 intro z hz
 rw[List.mem_replicate] at hz
 obtain⟨_,rfl⟩:=hz
 omega

theorem inner_small (zs:List Int) (n:Int) (s:Nat×List Int) (hs:s.1+300≤9830400) (h:Small s.2):∀k,k≤300→Small (inner zs n k s).2:=by
 intro k
 induction k with
 | zero=>intro _;exact h
 | succ k ih=>
  intro hk
  have hi:=ih (by omega)
  have hl:=inner_le zs n s k
  by_cases g:zs.getD k 0=n
  · rw[inner_hit zs n k s g];exact small_set hi k _ (by omega)
  rw[inner_miss zs n k s g];exact hi

theorem outer_small (zs:List Int) (hz:zs.length≤300):∀m,m≤15→Small (outer zs m).2:=by
 intro m
 induction m with
 | zero=>intro _;exact small_replicate _
 | succ m ih=>
  intro hm
  have hb:=outer_le zs hz m
  have hp:2^m≤2^14:=Nat.pow_le_pow_right (by omega) (by omega)
  have h1:2*(outer zs m).1+300≤9830400:=by omega
  exact inner_small zs ((m+1:Nat):Int) (2*(outer zs m).1,(outer zs m).2) h1 (ih (by omega)) zs.length hz

theorem mk_small (zs:List Int) (hz:zs.length≤300):Small (mk zs):=outer_small zs hz 15 (Nat.le_refl _)
end Mk
namespace Cp

def bit (ls:List Int) (s:Nat):Int×Int:=(((turned ((Mk.mk ls).getD s 0).toNat (ls.getD s 0).toNat:Nat):Int),ls.getD s 0)
def all (ls:List Int):List (Int×Int):=(List.range ls.length).map (bit ls)
theorem all_len (ls:List Int):(all ls).length=ls.length:=by simp[all]
theorem all_get (ls:List Int) (s:Nat) (h:s<(all ls).length):(all ls)[s]=bit ls s:=by simp[all]

theorem parts {ls:List Int} (h:Cd.okB ls=true) (s:Nat) (hs:s<ls.length):∃V S:Nat,(Mk.mk ls).getD s 0=(V:Int)∧ls.getD s 0=(S:Int)∧V≤9830400∧S≤15:=by
 have hl:ls.length≤300:=by
  unfold Cd.okB at h;simp only[Bool.and_eq_true,decide_eq_true_eq] at h;exact h.1
 have hv:Cd.valid ls=true:=by
  unfold Cd.okB at h;simp only[Bool.and_eq_true,decide_eq_true_eq] at h;exact h.2.1
 have hm:s<(Mk.mk ls).length:=by rw[Mk.mk_len];exact hs
 have e1:(Mk.mk ls).getD s 0=(Mk.mk ls)[s]:=by rw[List.getD_eq_getElem?_getD,List.getElem?_eq_getElem hm];rfl
 have e2:ls.getD s 0=ls[s]:=by rw[List.getD_eq_getElem?_getD,List.getElem?_eq_getElem hs];rfl
 have h1:=Mk.mk_small ls hl _ (List.getElem_mem hm)
 have h2:Cd.okLen ls[s]=true:=by
  unfold Cd.valid at hv;exact List.all_eq_true.1 hv _ (List.getElem_mem hs)
 unfold Cd.okLen at h2
 simp only[Bool.and_eq_true,decide_eq_true_eq] at h2
 obtain⟨V,hV⟩:=Int.eq_ofNat_of_zero_le h1.1
 obtain⟨S,hS⟩:=Int.eq_ofNat_of_zero_le h2.1
 exact⟨V,S,by rw[e1,hV],by rw[e2,hS],by omega,by omega⟩
theorem bit_of {ls:List Int} {s V S:Nat} (hV:(Mk.mk ls).getD s 0=(V:Int)) (hS:ls.getD s 0=(S:Int)):bit ls s=(((turned V S:Nat):Int),(S:Int)):=by
 unfold bit;rw[hV,hS,Int.toNat_natCast,Int.toNat_natCast]
end Cp
open Go.RowKit

set_option maxHeartbeats 400000 in
theorem l1Pow_any (n:Nat) (w:World) (hn:n≤60):
 Calls Tryz.prog 71 #[.int .i64 n] w fun e w'=>e=.returned (.int .i64 ((2^n:Nat):Int))∧w'=w:=by
 go_enter Tryz.func71,Tryz.ntmps71
 go_wp2_with fail
 go_loop [3,4] (fun x i=>∃k y:Nat,k≤n∧i=.int .i64 k∧y=2^k∧x=.int .i64 y) (fun _ i=>n-(intOf i).toNat)
 case atStart=>exact⟨0,1,Nat.zero_le _,rfl,rfl,rfl⟩
 case round=>
  obtain⟨k,y,hk,rfl,hy,rfl⟩:=hrel
  have hp:2^k≤2^60:=Nat.pow_le_pow_right (by omega) (by omega)
  have hyb:y≤1152921504606846976:=by omega
  have HY:Hid (y=2^k):=hy
  clear hy hp
  by_cases hlt:k<n
  · go_wp2_with fail
    go_round
    case rel=>exact⟨k+1,y*2,by omega,by go_num,by rw[HY.out,Nat.pow_succ],by go_num⟩
    case measure=>simp[intOf];omega
  have hk':k=n:=by omega
  subst hk'
  go_wp2_with fail
  go_ret
  exact⟨ret_int (by rw[HY.out];simp),rfl⟩


theorem ret_bool {a b:Bool} (h:a=b):Ending.returned (.bool a)=.returned (.bool b):=by rw[h]

def tkB (n:Nat) (zs:List Int):Bool:=decide (n≤300)&&Cd.valid zs
def tkN (n:Nat) (zs:List Int):Int:=if tkB n zs=true then (Cd.taken zs:Int) else 0
theorem tkN_no {n:Nat} {zs:List Int} (h:tkB n zs=false):tkN n zs=0:=by unfold tkN;rw[h];rfl
theorem tkN_yes {n:Nat} {zs:List Int} (h:tkB n zs=true):tkN n zs=(Cd.taken zs:Int):=by unfold tkN;rw[if_pos h]

theorem part_pos (Z:Nat) (h:0<Z):Cd.part (Z:Int)=2^(15-Z):=by
 unfold Cd.part;rw[if_pos (by omega),Int.toNat_natCast]
theorem shr_part (Z:Nat) (h:Z≤15):(32768:Int) / 2^Z=((2^(15-Z):Nat):Int):=by
 have e:(32768:Int) / 2^Z=((32768 / 2^Z:Nat):Int):=by simp
 rw[e,show (32768:Nat)=2^15 from rfl,Nat.pow_div h (by omega)]

set_option maxHeartbeats 1000000 in
theorem codeTaken_any (a:Option Addr) (cap n:Nat) (zs:List Int) (w:World) (h:Ints w a zs) (hn:zs.length=n) (hl:n≤1048576):
 Calls Tryz.prog 114 #[.slice a n cap] w fun e w'=>e=.returned (.tuple #[.int .i64 (tkN n zs),.bool (tkB n zs)])∧w'=w:=by
 by_cases h3:n≤300
 · have HI:Hid (Ints w a zs):=h
   have HN:Hid (zs.length=n):=hn
   have hzg:n≤zs.length:=by omega
   have hd:decide ((300:Int)<(n:Int))=false:=by simp;omega
   clear h hn
   go_enter Tryz.func114,Tryz.ntmps114
   go_wp2_with fail
   go_loop [4,12] (fun x i=>∃k T:Nat,k≤n∧i=.int .i64 k∧T=Cd.taken (zs.take k)∧Cd.valid (zs.take k)=true∧T≤32768*k∧x=.int .i64 (T:Int)) (fun _ i=>n-(intOf i).toNat)
   case atStart=>exact⟨0,0,Nat.zero_le _,rfl,rfl,rfl,by omega,rfl⟩
   case round=>
    obtain⟨k,T,hk,rfl,hT,hV,hT2,rfl⟩:=hrel
    by_cases hlt:k<n
    · have hkz:k<zs.length:=by omega
      rcases HI.out with h|⟨b,off,rfl,hb,hc⟩
      · rw[h] at hkz;simp at hkz
      have hck:=hc k hkz
      have hki:(k:Int)<(n:Int):=by omega
      have hbad:=Cd.not_valid zs k hkz
      have hts:=Cd.taken_snoc zs k hkz
      have hvs:=Cd.valid_snoc zs k hkz
      rw[hV,Bool.true_and] at hvs
      rw[←hT] at hts
      clear hc hT hV
      generalize zs[k]=z at*
      by_cases hz:0≤z∧z≤15
      · obtain⟨Z,rfl⟩:=Int.eq_ofNat_of_zero_le hz.1
        have hok:Cd.okLen (Z:Int)=true:=by simp[Cd.okLen];omega
        have HV:Hid (Cd.valid (zs.take (k+1))=true):=by show _=_;rw[hvs,hok]
        have hd1:decide ((Z:Int)<0)=false:=by simp
        have hd2:decide ((15:Int)<(Z:Int))=false:=by simp;omega
        by_cases hz0:0<Z
        · rw[part_pos Z hz0] at hts
          have hsh:=shr_part Z (by omega)
          obtain⟨q,hq⟩:∃q,q=2^(15-Z):=⟨_,rfl⟩
          have hqb:q≤32768:=by
           rw[hq];exact Nat.le_trans (Nat.pow_le_pow_right (by omega) (show 15-Z≤15 by omega)) (by decide)
          rw[←hq] at hts hsh
          have HTS:Hid (T+q=Cd.taken (zs.take (k+1))):=hts.symm
          have hz15:Z≤15:=by omega
          clear hbad hts hvs hq hok hz
          go_wp2_with fail
          go_round
          case rel=>exact⟨k+1,T+q,by omega,by go_num,HTS.out,HV.out,by omega,by go_num⟩
          case measure=>simp[intOf];omega
        have hZ:Z=0:=by omega
        subst hZ
        have HTS:Hid (T=Cd.taken (zs.take (k+1))):=by show _=_;rw[hts];rfl
        clear hbad hts hvs hok hz
        go_wp2_with fail
        go_round
        case rel=>exact⟨k+1,T,by omega,by go_num,HTS.out,HV.out,by omega,rfl⟩
        case measure=>simp[intOf];omega
      have HL:Hid (tkB n zs=false):=by
       show _=_;unfold tkB;rw[hbad (by simp only[Cd.okLen,Bool.and_eq_false_iff,decide_eq_false_iff_not];omega),Bool.and_false]
      clear hbad hts hvs
      by_cases hneg:z<0
      · go_wp2_with fail
        go_ret2
        exact⟨ret_pair (tkN_no HL.out).symm HL.out.symm,rfl⟩
      have hd1:decide (z<0)=false:=by simpa using hneg
      have hbig:15<z:=by omega
      clear hz hneg
      go_wp2_with fail
      go_ret2
      exact⟨ret_pair (tkN_no HL.out).symm HL.out.symm,rfl⟩
    have hk':zs.take k=zs:=List.take_of_length_le (by have:=HN.out;omega)
    rw[hk'] at hT hV
    have HL:Hid (tkB n zs=true):=by show _=_;unfold tkB;rw[hV];simp[h3]
    have HT:Hid (T=Cd.taken zs):=hT
    clear hk' hT hV
    go_wp2_with fail
    go_ret2
    exact⟨ret_pair (by rw[tkN_yes HL.out,←HT.out]) HL.out.symm,rfl⟩
 have hd:(300:Int)<(n:Int):=by omega
 have HL:Hid (tkB n zs=false):=by show _=_;unfold tkB;simp[h3]
 clear h hn
 go_enter Tryz.func114,Tryz.ntmps114
 go_wp2_with fail
 go_ret2
 exact⟨ret_pair (tkN_no HL.out).symm HL.out.symm,rfl⟩

set_option maxHeartbeats 400000 in
theorem impl_codeOk (a:Option Addr) (cap n:Nat) (zs:List Int) (w:World) (h:Ints w a zs) (hn:zs.length=n) (hl:n≤1048576):
 Calls Tryz.prog 88 #[.slice a n cap] w fun e w'=>e=.returned (.bool (Cd.okB zs))∧w'=w:=by
 have hc:=codeTaken_any a cap n zs w h hn hl
 have HC:Hid (Calls Tryz.prog 114 #[.slice a n cap] w fun e w'=>e=.returned (.tuple #[.int .i64 (tkN n zs),.bool (tkB n zs)])∧w'=w):=hc
 cases hy:tkB n zs
 · have HE:Hid (Cd.okB zs=false):=by
    show _=_;unfold Cd.okB;rw[hn,←Bool.and_assoc]
    have:(decide (n≤300)&&Cd.valid zs)=false:=hy
    rw[this];rfl
   rw[hy] at HC
   clear hc h hn hy
   generalize tkN n zs=T at*
   go_enter Tryz.func88,Tryz.ntmps88
   go_wp2_with fail
   refine HC.out.mono ?_
   rintro e w1 ⟨rfl,hw1⟩
   subst hw1
   go_wp2_with fail
   go_ret
   exact⟨ret_bool HE.out.symm,rfl⟩
 have HE:Hid (Cd.okB zs=decide ((Cd.taken zs:Int)≤32768)):=by
  show _=_;unfold Cd.okB;rw[hn,←Bool.and_assoc]
  have:(decide (n≤300)&&Cd.valid zs)=true:=hy
  rw[this,Bool.true_and]
  congr 1
  exact propext ⟨fun h=>by omega,fun h=>by omega⟩
 rw[tkN_yes hy,hy] at HC
 clear hc h hn hy
 generalize Cd.taken zs=T at*
 go_enter Tryz.func88,Tryz.ntmps88
 go_wp2_with fail
 refine HC.out.mono ?_
 rintro e w1 ⟨rfl,hw1⟩
 subst hw1
 go_wp2_with fail
 go_ret
 exact⟨ret_bool HE.out.symm,rfl⟩

theorem make_arr (zs:List Int) (n:Nat) (hn:zs.length=n) (hl:n≤2000000) (w:World):
 (Instr.makeSlice 30 (.int .i64 (n:Int)) (.int .i64 (n:Int))).run Tryz.prog w=.ok (.slice (some ⟨w.heap.size,0,none⟩) n n) (w.alloc (.cells (arr (Mk.outer zs 0).2) 3)):=by
 rw[make_ints zs n hn hl w,cp_arr];rfl

set_option maxHeartbeats 1000000 in
theorem l3Make_any (a:Option Addr) (cap n:Nat) (zs:List Int) (w:World) (h:Ints w a zs) (hn:zs.length=n) (hl:n≤300):
 Calls Tryz.prog 72 #[.slice a n cap] w fun e w'=>e=.returned (.slice (some ⟨w.heap.size,0,none⟩) n n)∧w'=w.alloc (.cells (arr (Mk.mk zs)) 3):=by
 have hmk:=fun w=>make_arr zs n hn (by omega) w
 have HI:Hid (Ints w a zs):=h
 have HN:Hid (zs.length=n):=hn
 have HB:Hid (∀m,m≤15→(Mk.outer zs m).1≤9830400):=Mk.outer_bound zs (by omega)
 have hzg:n≤zs.length:=by omega
 clear h hn
 go_enter Tryz.func72,Tryz.ntmps72
 go_wp2_with fail
 go_loopw [4,5] (fun x i wr=>∃m y:Nat,m≤15∧i=.int .i64 ((m:Int)+1)∧y=(Mk.outer zs m).1∧x=.int .i64 (y:Int)∧wr=w.alloc (.cells (arr (Mk.outer zs m).2) 3)) (fun _ i _=>16-(intOf i).toNat)
 case atStart=>exact⟨0,0,by omega,rfl,rfl,rfl,rfl⟩
 case round=>
  obtain⟨m,y,hm,rfl,hy,rfl,rfl⟩:=hrel
  clear hmk
  by_cases hlt:m<15
  · have hyb:y≤9830400:=by rw[hy];exact HB.out m hm
    have HO:Hid (Mk.outer zs (m+1)=Mk.inner zs ((m+1:Nat):Int) zs.length (2*(Mk.outer zs m).1,(Mk.outer zs m).2)):=rfl
    rw[←hy] at HO
    have hol:=Mk.outer_len zs m
    clear hy
    generalize (Mk.outer zs m).2=l0 at*
    go_wp2_with fail
    go_loopw [4,6] (fun x i wr=>∃(k z:Nat) (l:List Int),k≤n∧i=.int .i64 k∧(z,l)=Mk.inner zs ((m+1:Nat):Int) k (2*y,l0)∧x=.int .i64 (z:Int)∧wr=w.alloc (.cells (arr l) 3)) (fun _ i _=>n-(intOf i).toNat)
    case atStart=>exact⟨0,2*y,l0,Nat.zero_le _,rfl,rfl,by go_num,rfl⟩
    case round=>
     obtain⟨k,z,l,hk,rfl,hzl,rfl,rfl⟩:=hrel
     have hin:=Mk.inner_le zs ((m+1:Nat):Int) (2*y,l0) k
     have hil:=Mk.inner_len zs ((m+1:Nat):Int) (2*y,l0) k
     rw[←hzl] at hin hil
     simp only at hin hil
     by_cases hltk:k<n
     · have hkz:k<zs.length:=by omega
       have hkl:k<l.length:=by omega
       rcases HI.out with h|⟨b,off,rfl,hbB,hc⟩
       · rw[h] at hkz;simp at hkz
       have hck:=(World.cell?_alloc_past (.cells (arr l) 3) b (off+k) hbB).trans (hc k hkz)
       have hki:(k:Int)<(n:Int):=by omega
       have hgd:zs.getD k 0=zs[k]:=by rw[List.getD_eq_getElem?_getD,List.getElem?_eq_getElem hkz];rfl
       have hhit:=Mk.inner_hit zs ((m+1:Nat):Int) k (2*y,l0)
       have hmiss:=Mk.inner_miss zs ((m+1:Nat):Int) k (2*y,l0)
       rw[hgd,←hzl] at hhit hmiss
       have hset:=arr_set l k (z:Int)
       have hgl:=arr_get l k hkl
       clear hc hgd hol hil
       generalize zs[k]=q at*
       by_cases e:q=((m+1:Nat):Int)
       · have HT:Hid (Mk.inner zs ((m+1:Nat):Int) (k+1) (2*y,l0)=(z+1,l.set k (z:Int))):=hhit e
         have eb:(q==(m:Int)+1)=true:=by rw[beq_iff_eq,e];omega
         have HS:Hid ((arr l).setIfInBounds k (.int .i64 (z:Int))=arr (l.set k (z:Int))):=hset
         clear hhit hmiss e hzl hset
         generalize l[k]=lk at*
         generalize arr l=A at*
         go_wp2_with fail
         go_roundw
         case rel=>exact⟨k+1,z+1,l.set k (z:Int),by omega,by go_num,HT.out.symm,by go_num,by rw[HS.out]⟩
         case measure=>simp[intOf];omega
       have HT:Hid (Mk.inner zs ((m+1:Nat):Int) (k+1) (2*y,l0)=(z,l)):=hmiss e
       have eb:(q==(m:Int)+1)=false:=by rw[beq_eq_false_iff_ne];intro g;apply e;rw[g];omega
       clear hhit hmiss e hzl hset
       go_wp2_with fail
       go_roundw
       case rel=>exact⟨k+1,z,l,by omega,by go_num,HT.out.symm,rfl,rfl⟩
       case measure=>simp[intOf];omega
     have hk':k=zs.length:=by have:=HN.out;omega
     rw[hk'] at hzl
     have HZ:Hid ((z,l)=Mk.outer zs (m+1)):=by show _=_;rw[HO.out,←hzl]
     clear hzl hk' hol hil
     go_wp2_with fail
     go_roundw
     case rel=>exact⟨m+1,z,by omega,by go_num,by rw[←HZ.out],rfl,by rw[←HZ.out]⟩
     case measure=>simp[intOf];omega
  have hm':m=15:=by omega
  subst hm'
  clear hy
  go_wp2_with fail
  go_ret
  exact⟨rfl,rfl⟩
set_option maxHeartbeats 1000000 in
theorem implMake_yes (a:Option Addr) (cap n:Nat) (zs:List Int) (w:World) (h:Ints w a zs) (hn:zs.length=n) (hl:n≤300) (hok:Cd.okB zs=true):
 Calls Tryz.prog 51 #[.slice a n cap] w fun e w'=>e=.returned (.slice (some ⟨w.heap.size,0,none⟩) n n)∧w'=w.alloc (.cells (arr (Mk.mk zs)) 3):=by
 have hmk:=fun w=>make_arr zs n hn (by omega) w
 have HI:Hid (Ints w a zs):=h
 have HN:Hid (zs.length=n):=hn
 have HB:Hid (∀m,m≤15→(Mk.outer zs m).1≤9830400):=Mk.outer_bound zs (by omega)
 have hzg:n≤zs.length:=by omega
 have HC:Hid (Calls Tryz.prog 88 #[.slice a n cap] w fun e w'=>e=.returned (.bool true)∧w'=w):=by
  have:=impl_codeOk a cap n zs w h hn (by omega);rw[hok] at this;exact this
 clear h hn hok
 go_enter Tryz.func51,Tryz.ntmps51
 go_wp2_with fail
 refine HC.out.mono ?_
 rintro e w0 ⟨rfl,hw0⟩
 subst hw0
 clear HC
 go_wp2_with fail
 go_loopw [4,5] (fun x i wr=>∃m y:Nat,m≤15∧i=.int .i64 ((m:Int)+1)∧y=(Mk.outer zs m).1∧x=.int .i64 (y:Int)∧wr=w0.alloc (.cells (arr (Mk.outer zs m).2) 3)) (fun _ i _=>16-(intOf i).toNat)
 case atStart=>exact⟨0,0,by omega,rfl,rfl,rfl,rfl⟩
 case round=>
  obtain⟨m,y,hm,rfl,hy,rfl,rfl⟩:=hrel
  clear hmk
  by_cases hlt:m<15
  · have hyb:y≤9830400:=by rw[hy];exact HB.out m hm
    have HO:Hid (Mk.outer zs (m+1)=Mk.inner zs ((m+1:Nat):Int) zs.length (2*(Mk.outer zs m).1,(Mk.outer zs m).2)):=rfl
    rw[←hy] at HO
    have hol:=Mk.outer_len zs m
    clear hy
    generalize (Mk.outer zs m).2=l0 at*
    go_wp2_with fail
    go_loopw [4,21] (fun x i wr=>∃(k z:Nat) (l:List Int),k≤n∧i=.int .i64 k∧(z,l)=Mk.inner zs ((m+1:Nat):Int) k (2*y,l0)∧x=.int .i64 (z:Int)∧wr=w0.alloc (.cells (arr l) 3)) (fun _ i _=>n-(intOf i).toNat)
    case atStart=>exact⟨0,2*y,l0,Nat.zero_le _,rfl,rfl,by go_num,rfl⟩
    case round=>
     obtain⟨k,z,l,hk,rfl,hzl,rfl,rfl⟩:=hrel
     have hin:=Mk.inner_le zs ((m+1:Nat):Int) (2*y,l0) k
     have hil:=Mk.inner_len zs ((m+1:Nat):Int) (2*y,l0) k
     rw[←hzl] at hin hil
     simp only at hin hil
     by_cases hltk:k<n
     · have hkz:k<zs.length:=by omega
       have hkl:k<l.length:=by omega
       rcases HI.out with h|⟨b,off,rfl,hbB,hc⟩
       · rw[h] at hkz;simp at hkz
       have hck:=(World.cell?_alloc_past (.cells (arr l) 3) b (off+k) hbB).trans (hc k hkz)
       have hki:(k:Int)<(n:Int):=by omega
       have hgd:zs.getD k 0=zs[k]:=by rw[List.getD_eq_getElem?_getD,List.getElem?_eq_getElem hkz];rfl
       have hhit:=Mk.inner_hit zs ((m+1:Nat):Int) k (2*y,l0)
       have hmiss:=Mk.inner_miss zs ((m+1:Nat):Int) k (2*y,l0)
       rw[hgd,←hzl] at hhit hmiss
       have hset:=arr_set l k (z:Int)
       have hgl:=arr_get l k hkl
       clear hc hgd hol hil
       generalize zs[k]=q at*
       by_cases e:q=((m+1:Nat):Int)
       · have HT:Hid (Mk.inner zs ((m+1:Nat):Int) (k+1) (2*y,l0)=(z+1,l.set k (z:Int))):=hhit e
         have eb:(q==(m:Int)+1)=true:=by rw[beq_iff_eq,e];omega
         have HS:Hid ((arr l).setIfInBounds k (.int .i64 (z:Int))=arr (l.set k (z:Int))):=hset
         clear hhit hmiss e hzl hset
         generalize l[k]=lk at*
         generalize arr l=A at*
         go_wp2_with fail
         go_roundw
         case rel=>exact⟨k+1,z+1,l.set k (z:Int),by omega,by go_num,HT.out.symm,by go_num,by rw[HS.out]⟩
         case measure=>simp[intOf];omega
       have HT:Hid (Mk.inner zs ((m+1:Nat):Int) (k+1) (2*y,l0)=(z,l)):=hmiss e
       have eb:(q==(m:Int)+1)=false:=by rw[beq_eq_false_iff_ne];intro g;apply e;rw[g];omega
       clear hhit hmiss e hzl hset
       go_wp2_with fail
       go_roundw
       case rel=>exact⟨k+1,z,l,by omega,by go_num,HT.out.symm,rfl,rfl⟩
       case measure=>simp[intOf];omega
     have hk':k=zs.length:=by have:=HN.out;omega
     rw[hk'] at hzl
     have HZ:Hid ((z,l)=Mk.outer zs (m+1)):=by show _=_;rw[HO.out,←hzl]
     clear hzl hk' hol hil
     go_wp2_with fail
     go_roundw
     case rel=>exact⟨m+1,z,by omega,by go_num,by rw[←HZ.out],rfl,by rw[←HZ.out]⟩
     case measure=>simp[intOf];omega
  have hm':m=15:=by omega
  subst hm'
  clear hy
  go_wp2_with fail
  go_ret
  exact⟨rfl,rfl⟩

def mkB (zs:List Int):List Int:=if Cd.okB zs=true then Mk.mk zs else []
theorem mkB_yes {zs:List Int} (h:Cd.okB zs=true):mkB zs=Mk.mk zs:=by unfold mkB;rw[if_pos h]
theorem mkB_no {zs:List Int} (h:Cd.okB zs=false):mkB zs=[]:=by unfold mkB;rw[h];rfl

theorem okB_len' {zs:List Int} (h:Cd.okB zs=true):zs.length≤300:=by
 unfold Cd.okB at h
 simp only[Bool.and_eq_true,decide_eq_true_eq] at h
 exact h.1

set_option maxHeartbeats 400000 in
theorem impl_codeMake (a:Option Addr) (cap n:Nat) (zs:List Int) (w:World) (h:Ints w a zs) (hn:zs.length=n) (hl:n≤1048576):
 Calls Tryz.prog 51 #[.slice a n cap] w fun e w'=>(∃x c,e=.returned (.slice x (mkB zs).length c)∧Owns w' w.heap.size x (mkB zs))∧Below w.heap.size w w':=by
 cases hy:Cd.okB zs
 · have HC:Hid (Calls Tryz.prog 88 #[.slice a n cap] w fun e w'=>e=.returned (.bool false)∧w'=w):=by
    have:=impl_codeOk a cap n zs w h hn hl;rw[hy] at this;exact this
   rw[mkB_no hy]
   clear h hn hy
   go_enter Tryz.func51,Tryz.ntmps51
   go_wp2_with fail
   refine HC.out.mono ?_
   rintro e w0 ⟨rfl,hw0⟩
   subst hw0
   go_wp2_with fail
   go_ret
   exact⟨⟨none,0,rfl,.inl rfl⟩,Below.refl _ _⟩
 have h3:=okB_len' hy
 rw[mkB_yes hy]
 refine (implMake_yes a cap n zs w h hn (by omega) hy).mono ?_
 rintro e w' ⟨rfl,rfl⟩
 exact⟨⟨_,n,by rw[Mk.mk_len,hn],owns_arr w _⟩,(Below.refl _ _).alloc (Nat.le_refl _) _⟩

theorem cellsOf_app:∀(l m:List (Int×Int)),cellsOf l++cellsOf m=cellsOf (l++m)
 | [],m=>rfl
 | p::l,m=>by
  have:=cellsOf_app l m
  simp only[cellsOf,List.cons_append] at this ⊢
  rw[←this]
theorem cellsOf_one:∀(l:List (Int×Int)),∀u∈cellsOf l,u.oneCell'=true
 | [],u,h=>by simp[cellsOf] at h
 | p::l,u,h=>by
  simp only[cellsOf,List.mem_cons] at h
  rcases h with rfl|rfl|h
  · rfl
  · rfl
  exact cellsOf_one l u h
theorem wpList_appP {ops:Array Oper} {rest:List Oper} {o:Oper} {a:Act} {Q:Exit→Act→World→Prop} (w0:World) (hgd:o.guard=none) (s x:Operand)
 (ho:o.op=.call { callee:=.builtin .append,args:=#[s,x],argTypes:=#[39,39] })
 (base:Nat) (v:Value) (n:Nat) (l ps:List (Int×Int)) (m:Nat) (hm:ps.length=m) (h0:0<m) (cs:Array Value) (hcs:cs=(cellsOf ps).toArray) (hs:a.eval s=v) (hown:OwnP w0 base v n l) (hx:a.eval x=.slice (some ⟨w0.heap.size,0,none⟩) m m) (hn:n+m≤2000000) (hb:base≤w0.heap.size)
 (h:∀g cap w',OwnP w' base (.slice (some ⟨g,0,none⟩) (n+m) cap) (n+m) (l++ps)→(w0.alloc (.cells cs 38)).grownBy w' v.ownBlock→Below base w0 w'→wpList Tryz.prog ops Q rest (a.put o.dst (.slice (some ⟨g,0,none⟩) (n+m) cap)) w'):
 wpList Tryz.prog ops Q (o::rest) a (w0.alloc (.cells cs 38)):=by
 obtain⟨i0,hi0,hz0,hz1,hz2⟩:=info_parts info_bit
 subst hcs
 refine wpList_append_lies _ hgd s x _ ho base 38 i0 (.agg #[.int .i64 0,.int .i64 0]) 2 16 Tryz.underlying39 hi0 hz0 hz1 hz2 rfl (by decide) v n (cellsOf l) hs (World.ownsRow.alloc (show World.ownsRow _ _ _ _ _ _ _ from hown) _) ⟨w0.heap.size,0,none⟩ m m (cellsOf ps) hx (by rw[cellsOf_len,hm]) (World.news_of_block (heap_alloc_new _ _)) (cellsOf_one ps) h0 (by unfold maxLen;omega) (by omega) (by rw[World.size_alloc];omega) _ rfl ?_
 intro g cap w' hown' hg _ _
 rw[cellsOf_app] at hown'
 exact h g cap w' hown' hg (((Below.refl base w0).alloc hb _).grown hg (by rw[World.size_alloc];omega) (fun k hk=>(World.ownsRow.lt (show World.ownsRow _ _ _ _ _ _ _ from hown) k hk).1))
theorem step_appP {ops:Array Oper} {o:Oper} {a:Act} {K:Act→World→Prop} {Q:Exit→Act→World→Prop} {E:Prop} (w0:World) (hgd:o.guard=none) (s x:Operand)
 (ho:o.op=.call { callee:=.builtin .append,args:=#[s,x],argTypes:=#[39,39] })
 (base:Nat) (v:Value) (n:Nat) (l ps:List (Int×Int)) (m:Nat) (hm:ps.length=m) (h0:0<m) (cs:Array Value) (hcs:cs=(cellsOf ps).toArray) (hs:a.eval s=v) (hown:OwnP w0 base v n l) (hx:a.eval x=.slice (some ⟨w0.heap.size,0,none⟩) m m) (hn:n+m≤2000000) (hb:base≤w0.heap.size)
 (h:∀g cap w',OwnP w' base (.slice (some ⟨g,0,none⟩) (n+m) cap) (n+m) (l++ps)→(w0.alloc (.cells cs 38)).grownBy w' v.ownBlock→Below base w0 w'→K (a.put o.dst (.slice (some ⟨g,0,none⟩) (n+m) cap)) w'):
 if Region.wanted o (yielded ops a.tmps)=true then Oper.wp Tryz.prog o a (w0.alloc (.cells cs 38)) K Q else E:=by
 obtain⟨i0,hi0,hz0,hz1,hz2⟩:=info_parts info_bit
 subst hcs
 refine step_append_lies _ hgd s x _ ho base 38 i0 (.agg #[.int .i64 0,.int .i64 0]) 2 16 Tryz.underlying39 hi0 hz0 hz1 hz2 rfl (by decide) v n (cellsOf l) hs (World.ownsRow.alloc (show World.ownsRow _ _ _ _ _ _ _ from hown) _) ⟨w0.heap.size,0,none⟩ m m (cellsOf ps) hx (by rw[cellsOf_len,hm]) (World.news_of_block (heap_alloc_new _ _)) (cellsOf_one ps) h0 (by unfold maxLen;omega) (by omega) (by rw[World.size_alloc];omega) _ rfl ?_
 intro g cap w' hown' hg _ _
 rw[cellsOf_app] at hown'
 exact h g cap w' hown' hg (((Below.refl base w0).alloc hb _).grown hg (by rw[World.size_alloc];omega) (fun k hk=>(World.ownsRow.lt (show World.ownsRow _ _ _ _ _ _ _ from hown) k hk).1))

namespace Df
def TkOk (t:Tk):Prop:=(t.2.1=0∧0≤t.1∧t.1≤255)∨(3≤t.2.1∧t.2.1≤258∧1≤t.2.2∧t.2.2≤5000)
def tok (ls ds:List Int) (t:Tk):List (Int×Int):=
 if t.2.1=0 then [Cp.bit ls t.1.toNat] else [Cp.bit ls (257+szSym t.2.1.toNat),szBit t.2.1.toNat,Cp.bit ds (dsSym t.2.2.toNat),dsBit t.2.2.toNat]
def toks (ls ds:List Int) (l:List Tk):List (Int×Int):=l.flatMap (tok ls ds)
theorem toks_snoc (ls ds:List Int) (l:List Tk) (t:Tk):toks ls ds (l++[t])=toks ls ds l++tok ls ds t:=by simp[toks]
theorem tok_len (ls ds:List Int) (t:Tk):(tok ls ds t).length≤4:=by unfold tok;split<;>simp
theorem toks_len (ls ds:List Int):∀l:List Tk,(toks ls ds l).length≤4*l.length
 | []=>by simp[toks]
 | t::l=>by
  have h1:=toks_len ls ds l
  have h2:=tok_len ls ds t
  have e:toks ls ds (t::l)=tok ls ds t++toks ls ds l:=by simp[toks]
  rw[e,List.length_append,List.length_cons]
  omega
def body (ls ds:List Int) (l:List Tk):List (Int×Int):=toks ls ds l++[Cp.bit ls 256]
end Df
theorem l3Sym_bit (a1 a2:Option Addr) (n c1 c2 k:Nat) (ls:List Int) (w:World) (h1:Ints w a1 (Mk.mk ls)) (h2:Ints w a2 ls) (hn:ls.length=n) (hk:k<n) (hok:Cd.okB ls=true):
 Calls Tryz.prog 73 #[.slice a1 n c1,.slice a2 n c2,.int .i64 (k:Int)] w fun e w'=>e=.returned (.agg #[.int .i64 (Cp.bit ls k).1,.int .i64 (Cp.bit ls k).2])∧Below w.heap.size w w':=by
 obtain⟨V,S,hV,hS,hVb,hSb⟩:=Cp.parts hok k (by omega)
 have hml:(Mk.mk ls).length=n:=by rw[Mk.mk_len,hn]
 rw[Cp.bit_of hV hS]
 refine l3Sym_any a1 a2 n c1 c2 k V S (Mk.mk ls) ls w h1 h2 hml hn hk ?_ ?_ (by omega) hSb
 · rw[←hV,List.getD_eq_getElem?_getD,List.getElem?_eq_getElem (by omega)];rfl
 rw[←hS,List.getD_eq_getElem?_getD,List.getElem?_eq_getElem (by omega)];rfl
namespace Df
def inc (l:List Int) (i:Nat):List Int:=l.set i (l.getD i 0+1)
theorem inc_len (l:List Int) (i:Nat):(inc l i).length=l.length:=by simp[inc]
theorem inc_set {l:List Int} {i j:Nat} (v:Int) (h:i≠j):(inc l i).set j v=inc (l.set j v) i:=by
 unfold inc
 rw[List.set_comm _ _ h]
 congr 1
 rw[List.getD_eq_getElem?_getD,List.getD_eq_getElem?_getD,List.getElem?_set_ne (Ne.symm h)]
def sym (t:Tk):Nat:=if t.2.1=0 then t.1.toNat else 257+szSym t.2.1.toNat
def incS (a:List Int) (t:Tk):List Int:=inc a (sym t)
def incD (a:List Int) (t:Tk):List Int:=if t.2.1=0 then a else inc a (dsSym t.2.2.toNat)
def cntS (l:List Tk):List Int:=l.foldl incS (List.replicate 286 0)
def cntD (l:List Tk):List Int:=l.foldl incD (List.replicate 30 0)
theorem cntS_snoc (l:List Tk) (t:Tk):cntS (l++[t])=inc (cntS l) (sym t):=by unfold cntS;rw[List.foldl_append];rfl
theorem cntD_snoc (l:List Tk) (t:Tk):cntD (l++[t])=incD (cntD l) t:=by unfold cntD;rw[List.foldl_append];rfl
theorem fold_len {f:List Int→Tk→List Int} (h:∀a t,(f a t).length=a.length):∀(l:List Tk) (a:List Int),(l.foldl f a).length=a.length
 | [],_=>rfl
 | t::l,a=>by rw[List.foldl_cons,fold_len h l,h]
theorem cntS_len (l:List Tk):(cntS l).length=286:=by
 unfold cntS
 rw[fold_len (f:=incS) (fun a t=>inc_len a _),List.length_replicate]
theorem incD_len (a:List Int) (t:Tk):(incD a t).length=a.length:=by unfold incD;split;rfl;exact inc_len _ _
theorem cntD_len (l:List Tk):(cntD l).length=30:=by
 unfold cntD
 rw[fold_len incD_len,List.length_replicate]
def oftS (l:List Tk):List Int:=(cntS l).set 256 1
theorem oftS_len (l:List Tk):(oftS l).length=286:=by unfold oftS;rw[List.length_set,cntS_len]
theorem sym_ok {t:Tk} (h:TkOk t):sym t<286∧sym t≠256:=by
 unfold sym
 rcases h with⟨h1,h2,h3⟩|⟨h1,h2,_,_⟩
 · rw[if_pos h1];omega
 rw[if_neg (by omega)]
 have:=szSym_lt t.2.1.toNat
 omega
theorem oftS_snoc (l:List Tk) {t:Tk} (h:TkOk t):oftS (l++[t])=inc (oftS l) (sym t):=by
 unfold oftS
 rw[cntS_snoc,inc_set _ (sym_ok h).2]
def Cnt (m:Nat) (a:List Int):Prop:=∀i,0≤a.getD i 0∧a.getD i 0≤(m:Int)
theorem getD_set (l:List Int) (i j:Nat) (v:Int):(l.set i v).getD j 0=if i=j∧i<l.length then v else l.getD j 0:=by
 simp only[List.getD_eq_getElem?_getD,List.getElem?_set]
 by_cases h:i=j
 · subst h
   by_cases h2:i<l.length
   · simp[h2]
   simp[h2]
 simp[h]
theorem Cnt.inc {m:Nat} {a:List Int} (h:Cnt m a) (i:Nat):Cnt (m+1) (Df.inc a i):=fun j=>by
 unfold Df.inc
 rw[getD_set]
 have h1:=h i
 have h2:=h j
 split<;>omega
theorem Cnt.more {m n:Nat} {a:List Int} (h:Cnt m a) (hn:m≤n):Cnt n a:=fun j=>by have:=h j;omega
theorem cnt_zero (n:Nat):Cnt 0 (List.replicate n 0):=fun j=>by
 rw[List.getD_eq_getElem?_getD,List.getElem?_replicate]
 split<;>simp
theorem cntS_cnt (l:List Tk):∀k,k≤l.length→Cnt k (cntS (l.take k))
 | 0,_=>by rw[List.take_zero];exact cnt_zero 286
 | k+1,h=>by
  rw[List.take_succ_eq_append_getElem (by omega),cntS_snoc]
  exact (cntS_cnt l k (by omega)).inc _
theorem cntD_cnt (l:List Tk):∀k,k≤l.length→Cnt k (cntD (l.take k))
 | 0,_=>by rw[List.take_zero];exact cnt_zero 30
 | k+1,h=>by
  rw[List.take_succ_eq_append_getElem (by omega),cntD_snoc]
  unfold incD
  split
  · exact (cntD_cnt l k (by omega)).more (by omega)
  exact (cntD_cnt l k (by omega)).inc _
theorem oftS_cnt (l:List Tk) (k:Nat) (h:k≤l.length):Cnt (k+1) (oftS (l.take k)):=fun j=>by
 unfold oftS
 rw[getD_set]
 have:=cntS_cnt l k h j
 split<;>omega
end Df
theorem DRow.cellD {W:World} {b:Nat} {l:List Int} (h:DRow W b l) (i:Nat) (hi:i<l.length):W.cell? ⟨b,i,none⟩=some (.int .i64 (l.getD i 0)):=by
 rw[h.cell i hi,List.getD_eq_getElem?_getD,List.getElem?_eq_getElem hi]
 rfl
theorem DRow.other {W:World} {b c:Nat} {l:List Int} (h:DRow W b l) (hne:b≠c) (k:Nat) (v:Value):DRow (W.setCell ⟨c,k,none⟩ v) b l:=h.kept (Below.heap_setCell _ _ _ b hne)
theorem DRow.below {W W':World} {b:Nat} {l:List Int} (h:DRow W b l) (hb:Below W.heap.size W W'):DRow W' b l:=h.kept (hb.block b h.lt)
theorem DRow.ints {W:World} {b:Nat} {l:List Int} (h:DRow W b l):Ints W (some ⟨b,0,none⟩) l:=.inr ⟨b,0,rfl,h.lt,fun i hi=>by rw[Nat.zero_add];exact h.cell i hi⟩
end Go.Proofs.YtejebodgfoihkaaGreat
namespace Go.Proofs.YtejebodgfoihkaaGreat
namespace Cf

abbrev Wt:=Nat×Nat
def less (b:Option (Nat×Nat)) (w:Nat):Bool:=
 match b with
 | none=>true
 | some p=>Nat.blt w p.2
def lst (but:Int):List Wt→Nat→Option (Nat×Nat)→Option (Nat×Nat)
 | [],_,b=>b
 | x::xs,i,b=>lst but xs (i+1) (if (decide ((i:Int)≠but)&&less b x.1)=true then some (i,x.1) else b)
def wo {α:Type} (a b:Nat):List α→Nat→List α
 | [],_=>[]
 | x::xs,i=>if (Nat.beq i a||Nat.beq i b)=true then wo a b xs (i+1) else x::wo a b xs (i+1)
theorem wo_cons {α:Type} (a b:Nat) (x:α) (xs:List α) (i:Nat):wo a b (x::xs) i=if (Nat.beq i a||Nat.beq i b)=true then wo a b xs (i+1) else x::wo a b xs (i+1):=rfl
def hgt (ns:List Wt) (a:Nat):Nat:=(ns.getD a (0,0)).2
def step (ns:List Wt):List Wt:=
 match lst (-1) ns 0 none with
 | none=>ns
 | some (a,wa)=>
  match lst (a:Int) ns 0 none with
  | none=>ns
  | some (b,wb)=>wo a b ns 0++[(wa+wb,1+Nat.max (hgt ns a) (hgt ns b))]
def maxh:List Wt→Nat
 | []=>0
 | x::xs=>Nat.max x.2 (maxh xs)
def top:Nat→List Wt→Nat
 | 0,ns=>maxh ns
 | f+1,ns=>if Nat.ble ns.length 1=true then maxh ns else top f (step ns)
def fin (ns:List Wt):Nat:=top ns.length ns

theorem lst_some (but:Int) (ns:List Wt):∀(xs:List Wt) (i:Nat) (b:Option (Nat×Nat)),(∀k x,xs[k]?=some x→ns[i+k]?=some x)→(∀p,b=some p→(p.1:Int)≠but∧∃x,ns[p.1]?=some x∧x.1=p.2)→∀p,lst but xs i b=some p→(p.1:Int)≠but∧∃x,ns[p.1]?=some x∧x.1=p.2
 | [],_,b,_,hb,p,h=>hb p h
 | x::xs,i,b,hx,hb,p,h=>by
  unfold lst at h
  refine lst_some but ns xs (i+1) _ (fun k y hy=>by rw[show i+1+k=i+(k+1) by omega];exact hx (k+1) y (by simpa using hy)) (fun q hq=>?_) p h
  by_cases hc:(decide ((i:Int)≠but)&&less b x.1)=true
  · rw[if_pos hc] at hq
    simp only[Bool.and_eq_true,decide_eq_true_eq] at hc
    cases hq
    exact⟨hc.1,x,by have:=hx 0 x rfl;rwa [Nat.add_zero] at this,rfl⟩
  rw[if_neg hc] at hq;exact hb q hq
theorem lst_ne (but:Int):∀(xs:List Wt) (i:Nat) (b:Option (Nat×Nat)),(b≠none∨∃k,k<xs.length∧((i+k:Nat):Int)≠but)→lst but xs i b≠none
 | [],i,b,h=>by
  rcases h with h|⟨k,hk,_⟩
  · exact h
  · simp at hk
 | x::xs,i,b,h=>by
  unfold lst
  refine lst_ne but xs (i+1) _ ?_
  by_cases hb:b=none
  · subst hb
    by_cases hi:(i:Int)=but
    · right
      rcases h with h|⟨k,hk,hk2⟩
      · exact absurd rfl h
      have hk0:k≠0:=fun e=>by subst e;exact hk2 (by rw[Nat.add_zero];exact hi)
      exact⟨k-1,by simp at hk;omega,by rw[show i+1+(k-1)=i+k by omega];exact hk2⟩
    left
    rw[if_pos (by simp[hi,less])]
    simp
  left
  split
  · simp
  exact hb
theorem lst_at {but:Int} {ns:List Wt} {p:Nat×Nat} (h:lst but ns 0 none=some p):(p.1:Int)≠but∧p.1<ns.length∧∃x,ns[p.1]?=some x∧x.1=p.2:=by
 obtain⟨h1,x,h2,h3⟩:=lst_some but ns ns 0 none (fun k x hk=>by rw[Nat.zero_add];exact hk) (fun p hp=>by cases hp) p h
 exact⟨h1,(List.getElem?_eq_some_iff.1 h2).1,x,h2,h3⟩
theorem two {ns:List Wt} (h:1<ns.length):∃a wa b wb,lst (-1) ns 0 none=some (a,wa)∧lst (a:Int) ns 0 none=some (b,wb)∧a≠b∧a<ns.length∧b<ns.length:=by
 rcases h1:lst (-1) ns 0 none with _|⟨a,wa⟩
 · exact absurd h1 (lst_ne (-1) ns 0 none (.inr ⟨0,by omega,by omega⟩))
 rcases h2:lst (a:Int) ns 0 none with _|⟨b,wb⟩
 · refine absurd h2 (lst_ne (a:Int) ns 0 none (.inr ?_))
   by_cases e:a=0
   · exact⟨1,h,by omega⟩
   exact⟨0,by omega,by omega⟩
 obtain⟨_,g2,_⟩:=lst_at h1
 obtain⟨g3,g4,_⟩:=lst_at h2
 exact⟨a,wa,b,wb,rfl,h2,fun e=>g3 (by simp only at *;omega),g2,g4⟩
theorem step_two {ns:List Wt} {a wa b wb:Nat} (h1:lst (-1) ns 0 none=some (a,wa)) (h2:lst (a:Int) ns 0 none=some (b,wb)):step ns=wo a b ns 0++[(wa+wb,1+Nat.max (hgt ns a) (hgt ns b))]:=by
 unfold step
 rw[h1]
 simp only
 rw[h2]
theorem wo_len {α:Type} {a b:Nat} (hab:a≠b):∀(xs:List α) (i:Nat),(wo a b xs i).length+(if i≤a∧a<i+xs.length then 1 else 0)+(if i≤b∧b<i+xs.length then 1 else 0)=xs.length
 | [],i=>by simp[wo]
 | x::xs,i=>by
  have ih:=wo_len hab xs (i+1)
  unfold wo
  simp only[List.length_cons]
  by_cases ha:i=a
  · rw[if_pos (by simp[ha])]
    rw[if_neg (show ¬(i+1≤a∧a<i+1+xs.length) by omega)] at ih
    rw[if_pos (show i≤a∧a<i+(xs.length+1) by omega)]
    by_cases hb:i+1≤b∧b<i+1+xs.length
    · rw[if_pos hb] at ih;rw[if_pos (by omega)];omega
    rw[if_neg hb] at ih;rw[if_neg (by omega)];omega
  by_cases hb:i=b
  · rw[if_pos (by simp[hb])]
    rw[if_neg (show ¬(i+1≤b∧b<i+1+xs.length) by omega)] at ih
    rw[if_pos (show i≤b∧b<i+(xs.length+1) by omega)]
    by_cases hb:i+1≤a∧a<i+1+xs.length
    · rw[if_pos hb] at ih;rw[if_pos (show i≤a∧a<i+(xs.length+1) by omega)];omega
    rw[if_neg hb] at ih;rw[if_neg (show ¬(i≤a∧a<i+(xs.length+1)) by omega)];omega
  rw[if_neg (by simp[ha,hb])]
  simp only[List.length_cons]
  have e1:(if i≤a∧a<i+(xs.length+1) then 1 else 0)=if i+1≤a∧a<i+1+xs.length then 1 else 0:=by
   by_cases h:i+1≤a∧a<i+1+xs.length
   · rw[if_pos h,if_pos (by omega)]
   rw[if_neg h,if_neg (by omega)]
  have e2:(if i≤b∧b<i+(xs.length+1) then 1 else 0)=if i+1≤b∧b<i+1+xs.length then 1 else 0:=by
   by_cases h:i+1≤b∧b<i+1+xs.length
   · rw[if_pos h,if_pos (by omega)]
   rw[if_neg h,if_neg (by omega)]
  rw[e1,e2];omega
theorem wo_mem {α:Type} {a b:Nat}:∀(xs:List α) (i:Nat) (x:α),x∈wo a b xs i→x∈xs
 | [],_,x,h=>by simp[wo] at h
 | y::xs,i,x,h=>by
  unfold wo at h
  split at h
  · exact List.mem_cons_of_mem _ (wo_mem xs (i+1) x h)
  rcases List.mem_cons.1 h with rfl|h
  · simp
  exact List.mem_cons_of_mem _ (wo_mem xs (i+1) x h)
theorem wo_map {α β:Type} (f:α→β) {a b:Nat}:∀(xs:List α) (i:Nat),(wo a b xs i).map f=wo a b (xs.map f) i
 | [],_=>rfl
 | y::xs,i=>by
  rw[List.map_cons,wo_cons,wo_cons]
  by_cases h:(Nat.beq i a||Nat.beq i b)=true
  · rw[if_pos h,if_pos h];exact wo_map f xs (i+1)
  rw[if_neg h,if_neg h,List.map_cons,wo_map f xs (i+1)]
def sum {α:Type} (f:α→Nat):List α→Nat
 | []=>0
 | x::xs=>f x+sum f xs
theorem sum_append {α:Type} (f:α→Nat):∀(l m:List α),sum f (l++m)=sum f l+sum f m
 | [],m=>by simp[sum]
 | x::l,m=>by simp only[List.cons_append,sum,sum_append f l m];omega
theorem wo_sum {α:Type} (f:α→Nat) {a b:Nat} (hab:a≠b):∀(xs:List α) (i:Nat),sum f (wo a b xs i)+(if h:i≤a∧a-i<xs.length then f xs[a-i] else 0)+(if h:i≤b∧b-i<xs.length then f xs[b-i] else 0)=sum f xs
 | [],i=>by simp[wo,sum]
 | x::xs,i=>by
  have ih:=wo_sum f hab xs (i+1)
  have ea:∀c,c≠i→(if h:i≤c∧c-i<(x::xs).length then f (x::xs)[c-i] else 0)=if h:i+1≤c∧c-(i+1)<xs.length then f xs[c-(i+1)] else 0:=fun c hc=>by
   by_cases h:i+1≤c∧c-(i+1)<xs.length
   · rw[dif_pos h,dif_pos (by simp only[List.length_cons];omega)]
     congr 1
     have:c-i=(c-(i+1))+1:=by omega
     simp only[this,List.getElem_cons_succ]
   rw[dif_neg h,dif_neg (by simp only[List.length_cons];omega)]
  have ei:∀c,c=i→(if h:i≤c∧c-i<(x::xs).length then f (x::xs)[c-i] else 0)=f x∧(if h:i+1≤c∧c-(i+1)<xs.length then f xs[c-(i+1)] else 0)=0:=fun c hc=>by
   subst hc
   refine⟨?_,by rw[dif_neg (by omega)]⟩
   rw[dif_pos (by simp)]
   congr 1
   simp
  unfold wo
  simp only[sum]
  by_cases ha:i=a
  · obtain⟨q1,q2⟩:=ei a ha.symm
    rw[if_pos (by simp[ha]),q1,ea b (fun e=>hab (ha.symm.trans e.symm))]
    rw[q2] at ih
    omega
  by_cases hb:i=b
  · obtain⟨q1,q2⟩:=ei b hb.symm
    rw[if_pos (by simp[hb]),q1,ea a (fun e=>ha e.symm)]
    rw[q2] at ih
    omega
  rw[if_neg (by simp[ha,hb]),ea a (fun e=>ha e.symm),ea b (fun e=>hb e.symm)]
  simp only[sum]
  omega
theorem wo_sum0 {α:Type} (f:α→Nat) {a b:Nat} (hab:a≠b) (xs:List α) (ha:a<xs.length) (hb:b<xs.length):sum f (wo a b xs 0)+f xs[a]+f xs[b]=sum f xs:=by
 have:=wo_sum f hab xs 0
 rw[dif_pos (by omega),dif_pos (by omega)] at this
 exact this
theorem wo_len0 {α:Type} {a b:Nat} (hab:a≠b) (xs:List α) (ha:a<xs.length) (hb:b<xs.length):(wo a b xs 0).length+2=xs.length:=by
 have:=wo_len hab xs 0
 rw[if_pos (by omega),if_pos (by omega)] at this
 omega
theorem maxh_mem:∀(ns:List Wt) (x:Wt),x∈ns→x.2≤maxh ns
 | y::ns,x,h=>by
  unfold maxh
  rcases List.mem_cons.1 h with rfl|h
  · exact Nat.le_max_left _ _
  exact Nat.le_trans (maxh_mem ns x h) (Nat.le_max_right _ _)
theorem maxh_le {m:Nat}:∀(ns:List Wt),(∀x∈ns,x.2≤m)→maxh ns≤m
 | [],_=>Nat.zero_le _
 | y::ns,h=>Nat.max_le.2 ⟨h y (by simp),maxh_le ns (fun x hx=>h x (by simp[hx]))⟩
theorem hgt_le (ns:List Wt) (a:Nat):hgt ns a≤maxh ns:=by
 unfold hgt
 rw[List.getD_eq_getElem?_getD]
 rcases h:ns[a]? with _|x
 · exact Nat.zero_le _
 exact maxh_mem ns x (List.mem_of_getElem? h)
theorem step_len {ns:List Wt} (h:1<ns.length):(step ns).length+1=ns.length:=by
 obtain⟨a,wa,b,wb,h1,h2,h3,h4,h5⟩:=two h
 rw[step_two h1 h2,List.length_append,List.length_singleton]
 have:=wo_len0 h3 ns h4 h5
 omega
theorem step_maxh {ns:List Wt} (h:1<ns.length):maxh (step ns)≤maxh ns+1:=by
 obtain⟨a,wa,b,wb,h1,h2,h3,h4,h5⟩:=two h
 rw[step_two h1 h2]
 refine maxh_le _ (fun x hx=>?_)
 rcases List.mem_append.1 hx with hx|hx
 · have:=maxh_mem ns x (wo_mem ns 0 x hx);omega
 rw[List.mem_singleton] at hx
 subst hx
 have hm:Nat.max (hgt ns a) (hgt ns b)≤maxh ns:=Nat.max_le.2 ⟨hgt_le ns a,hgt_le ns b⟩
 show 1+Nat.max (hgt ns a) (hgt ns b)≤_
 omega
theorem fin_step {ns:List Wt} (h:1<ns.length):fin ns=fin (step ns):=by
 have hl:=step_len h
 unfold fin
 rw[←hl]
 conv=>lhs;unfold top
 rw[if_neg]
 simp
 omega
theorem fin_one {ns:List Wt} (h:ns.length≤1):fin ns=maxh ns:=by
 unfold fin
 rcases hl:ns.length with _|k
 · rfl
 unfold top
 rw[if_pos (by rw[hl];simp;omega)]
theorem fin_le:∀(k:Nat) (ns:List Wt),ns.length≤k+1→fin ns≤maxh ns+k
 | 0,ns,h=>by rw[fin_one h];exact Nat.le_refl _
 | k+1,ns,h=>by
  by_cases h1:1<ns.length
  · have:=step_len h1
    have:=step_maxh h1
    have:=fin_le k (step ns) (by omega)
    rw[fin_step h1];omega
  rw[fin_one (by omega)];omega
end Cf
namespace Hp

abbrev Key:=Nat×Nat
def klt (a b:Key):Prop:=a.1<b.1∨(a.1=b.1∧a.2<b.2)
instance (a b:Key):Decidable (klt a b):=by unfold klt;infer_instance
theorem klt_self (a:Key):¬klt a a:=by unfold klt;omega
theorem nlt_trans {a b c:Key} (h1:¬klt b a) (h2:¬klt c b):¬klt c a:=by unfold klt at *;omega
theorem klt_nlt {a b:Key} (h:klt a b):¬klt b a:=by unfold klt at *;omega
theorem klt_nlt_trans {a b c:Key} (h1:klt a b) (h2:¬klt c b):¬klt c a:=nlt_trans (klt_nlt h1) h2
def sw (l:List Nat) (i j:Nat):List Nat:=(l.set i (l.getD j 0)).set j (l.getD i 0)
theorem sw_len (l:List Nat) (i j:Nat):(sw l i j).length=l.length:=by unfold sw;simp
theorem sw_get {l:List Nat} {i j:Nat} (hi:i<l.length) (hj:j<l.length) (x:Nat):(sw l i j).getD x 0=if x=j then l.getD i 0 else if x=i then l.getD j 0 else l.getD x 0:=by
 unfold sw
 simp only[List.getD_eq_getElem?_getD]
 by_cases h1:x=j
 · subst h1
   rw[if_pos rfl,List.getElem?_set_self (by simp;exact hj)]
   rfl
 rw[if_neg h1,List.getElem?_set_ne (by omega)]
 by_cases h2:x=i
 · subst h2
   rw[if_pos rfl,List.getElem?_set_self hi]
   rfl
 rw[if_neg h2,List.getElem?_set_ne (by omega)]
theorem sw_perm {l:List Nat} {i j:Nat} (hi:i<l.length) (hj:j<l.length):(sw l i j).Perm l:=by
 unfold sw
 rw[List.getD_eq_getElem?_getD,List.getD_eq_getElem?_getD,List.getElem?_eq_getElem hi,List.getElem?_eq_getElem hj]
 exact List.set_set_perm hi hj

def Heap (K:Nat→Key) (l:List Nat) (n:Nat):Prop:=∀i,0<i→i<n→¬klt (K (l.getD i 0)) (K (l.getD ((i-1) / 2) 0))
theorem heap_first {K:Nat→Key} {l:List Nat} {n:Nat} (h:Heap K l n):∀i,i<n→¬klt (K (l.getD i 0)) (K (l.getD 0 0)):=by
 intro i
 induction i using Nat.strongRecOn with
 | ind i ih=>
  intro hi
  by_cases h0:i=0
  · subst h0;exact klt_self _
  exact nlt_trans (ih ((i-1) / 2) (by omega) (by omega)) (h i (by omega) hi)
def Up (K:Nat→Key) (l:List Nat) (n j:Nat):Prop:=
 (∀i,0<i→i<n→i≠j→¬klt (K (l.getD i 0)) (K (l.getD ((i-1) / 2) 0)))∧(∀i,0<i→i<n→(i-1) / 2=j→0<j→¬klt (K (l.getD i 0)) (K (l.getD ((j-1) / 2) 0)))
theorem up_done {K:Nat→Key} {l:List Nat} {n j:Nat} (h:Up K l n j) (hj:j=0∨¬klt (K (l.getD j 0)) (K (l.getD ((j-1) / 2) 0))):Heap K l n:=by
 intro i h0 hi
 by_cases e:i=j
 · subst e
   rcases hj with hj|hj
   · omega
   exact hj
 exact h.1 i h0 hi e
theorem up_step {K:Nat→Key} {l:List Nat} {n j:Nat} (h:Up K l n j) (hn:n≤l.length) (hj:j<n) (h0:0<j) (hlt:klt (K (l.getD j 0)) (K (l.getD ((j-1) / 2) 0))):Up K (sw l ((j-1) / 2) j) n ((j-1) / 2):=by
 have hp:(j-1) / 2<l.length:=by omega
 have hjl:j<l.length:=by omega
 have hpj:(j-1) / 2<j:=by omega
 refine⟨fun i hi0 hin hne=>?_,fun i hi0 hin hpar hp0=>?_⟩
 · rw[sw_get hp hjl,sw_get hp hjl]
   by_cases e1:i=j
   · subst e1
     rw[if_pos rfl,if_neg (by omega),if_pos rfl]
     exact klt_nlt hlt
   rw[if_neg e1,if_neg hne]
   by_cases e2:(i-1) / 2=j
   · rw[if_pos e2]
     exact h.2 i hi0 hin e2 h0
   rw[if_neg e2]
   by_cases e3:(i-1) / 2=(j-1) / 2
   · rw[if_pos e3]
     have:=h.1 i hi0 hin e1
     rw[e3] at this
     exact klt_nlt_trans hlt this
   rw[if_neg e3]
   exact h.1 i hi0 hin e1
 rw[sw_get hp hjl,sw_get hp hjl]
 have hq:((j-1) / 2-1) / 2<(j-1) / 2:=by omega
 rw[if_neg (show ((j-1) / 2-1) / 2≠j by omega),if_neg (show ((j-1) / 2-1) / 2≠(j-1) / 2 by omega)]
 have hpp:=h.1 ((j-1) / 2) hp0 (by omega) (by omega)
 by_cases e1:i=j
 · subst e1
   rw[if_pos rfl]
   exact hpp
 rw[if_neg e1,if_neg (by omega)]
 have:=h.1 i hi0 hin e1
 rw[hpar] at this
 exact nlt_trans hpp this
theorem up_start {K:Nat→Key} {l:List Nat} {n:Nat} (h:Heap K l n):Up K l (n+1) n:=
 ⟨fun i h0 hi hne=>h i h0 (by omega),fun i h0 hi hp hj=>by omega⟩
def Down (K:Nat→Key) (l:List Nat) (n j:Nat):Prop:=
 (∀i,0<i→i<n→(i-1) / 2≠j→¬klt (K (l.getD i 0)) (K (l.getD ((i-1) / 2) 0)))∧(∀i,0<i→i<n→(i-1) / 2=j→0<j→¬klt (K (l.getD i 0)) (K (l.getD ((j-1) / 2) 0)))
theorem down_done {K:Nat→Key} {l:List Nat} {n j:Nat} (h:Down K l n j) (hc:∀i,0<i→i<n→(i-1) / 2=j→¬klt (K (l.getD i 0)) (K (l.getD j 0))):Heap K l n:=by
 intro i h0 hi
 by_cases e:(i-1) / 2=j
 · rw[e];exact hc i h0 hi e
 exact h.1 i h0 hi e
theorem down_step {K:Nat→Key} {l:List Nat} {n j c:Nat} (h:Down K l n j) (hn:n≤l.length) (hc:c<n) (hcj:(c-1) / 2=j) (hc0:0<c) (hlt:klt (K (l.getD c 0)) (K (l.getD j 0))) (hb:∀i,0<i→i<n→(i-1) / 2=j→¬klt (K (l.getD i 0)) (K (l.getD c 0))):Down K (sw l j c) n c:=by
 have hjl:j<l.length:=by omega
 have hcl:c<l.length:=by omega
 have hjc:j<c:=by omega
 refine⟨fun i hi0 hin hne=>?_,fun i hi0 hin hpar _=>?_⟩
 · rw[sw_get hjl hcl,sw_get hjl hcl]
   rw[if_neg hne]
   by_cases e1:i=c
   · subst e1
     rw[if_pos rfl,if_pos hcj]
     exact klt_nlt hlt
   rw[if_neg e1]
   by_cases e2:i=j
   · subst e2
     rw[if_pos rfl,if_neg (by omega)]
     exact h.2 c hc0 hc hcj hi0
   rw[if_neg e2]
   by_cases e3:(i-1) / 2=j
   · rw[if_pos e3]
     exact hb i hi0 hin e3
   rw[if_neg e3]
   exact h.1 i hi0 hin e3
 rw[sw_get hjl hcl,sw_get hjl hcl,if_neg (show i≠c by omega),if_neg (show i≠j by omega),hcj,if_neg (show j≠c by omega),if_pos rfl]
 have:=h.1 i hi0 hin (by omega)
 rw[hpar] at this
 exact this
theorem down_swap {K:Nat→Key} {l:List Nat} {n:Nat} (h:Heap K l (n+1)) (hl:n+1≤l.length):Down K (sw l 0 n) n 0:=by
 refine⟨fun i h0 hi hne=>?_,fun i h0 hi hp hj=>by omega⟩
 rw[sw_get (by omega) (by omega),sw_get (by omega) (by omega),if_neg (by omega),if_neg (by omega),if_neg (by omega),if_neg (by omega)]
 exact h i h0 (by omega)
end Hp
namespace Ct
open Cf (lst wo)

inductive Tr where
 | leaf (s:Nat)
 | node (l r:Tr)
def syms:Tr→List Nat
 | .leaf s=>[s]
 | .node l r=>syms l++syms r
def hgt:Tr→Nat
 | .leaf _=>0
 | .node l r=>1+Nat.max (hgt l) (hgt r)
def dep:Tr→Nat→Nat
 | .leaf _,_=>0
 | .node l r,s=>(syms l++syms r).count s+dep l s+dep r s
abbrev Nt:=Nat×Tr
def wt (p:Nt):Cf.Wt:=(p.1,hgt p.2)
def step (ts:List Nt):List Nt:=
 match lst (-1) (ts.map wt) 0 none with
 | some (a,_)=>
  match lst (a:Int) (ts.map wt) 0 none with
  | some (b,_)=>wo a b ts 0++[((ts.getD a (0,.leaf 0)).1+(ts.getD b (0,.leaf 0)).1,.node (ts.getD a (0,.leaf 0)).2 (ts.getD b (0,.leaf 0)).2)]
  | none=>ts
 | none=>ts
theorem step_two {ts:List Nt} {a wa b wb:Nat} (h1:lst (-1) (ts.map wt) 0 none=some (a,wa)) (h2:lst (a:Int) (ts.map wt) 0 none=some (b,wb)):step ts=wo a b ts 0++[((ts.getD a (0,.leaf 0)).1+(ts.getD b (0,.leaf 0)).1,.node (ts.getD a (0,.leaf 0)).2 (ts.getD b (0,.leaf 0)).2)]:=by
 unfold step
 rw[h1]
 simp only
 rw[h2]
theorem lst_least (but:Int) (ns:List Cf.Wt):∀(xs:List Cf.Wt) (i:Nat) (b:Option (Nat×Nat)),(∀k x,xs[k]?=some x→ns[i+k]?=some x)→(∀k,k<xs.length→ns[i+k]?=xs[k]?)→
 (∀p,b=some p→p.1<i∧∀k x,k<i→(k:Int)≠but→ns[k]?=some x→p.2≤x.1∧(k<p.1→p.2<x.1))→(b=none→∀k,k<i→(k:Int)=but)→
 ∀p,lst but xs i b=some p→∀k x,k<i+xs.length→(k:Int)≠but→ns[k]?=some x→p.2≤x.1∧(k<p.1→p.2<x.1)
 | [],i,b,_,_,hb,_,p,h,k,x,hk,hne,hx=>(hb p h).2 k x (by simpa using hk) hne hx
 | y::xs,i,b,h1,h1',hb,hn,p,h,k,x,hk,hne,hx=>by
  have hy:ns[i]?=some y:=by simpa using h1 0 y rfl
  refine lst_least but ns xs (i+1) _ (fun k x hx=>by have:=h1 (k+1) x hx;rwa [show i+(k+1)=i+1+k by omega] at this) (fun k hk=>by have:=h1' (k+1) (by simp;omega);rw[show i+(k+1)=i+1+k by omega] at this;simpa using this) ?_ ?_ p h k x (by simp at hk;omega) hne hx
  · intro q hq
    split at hq
    · rename_i ht
      cases hq
      refine⟨by show i<i+1;omega,fun k x hk hne hx=>?_⟩
      show y.1≤x.1∧(k<i→y.1<x.1)
      by_cases e:k=i
      · subst e
        rw[hy] at hx;cases hx
        exact⟨Nat.le_refl _,fun h=>by omega⟩
      cases b with
      | none=>exact absurd (hn rfl k (by omega)) hne
      | some q=>
       have h5:=(hb q rfl).2 k x (by omega) hne hx
       simp[Cf.less] at ht
       have:=ht.2
       exact⟨by omega,fun _=>by omega⟩
    rename_i ht
    have h5:=hb q hq
    refine⟨by omega,fun k x hk hne hx=>?_⟩
    by_cases e:k=i
    · subst e
      rw[hy] at hx;cases hx
      rw[hq] at ht
      simp[Cf.less] at ht
      have:=ht hne
      exact⟨by omega,fun h=>by have:=h5.1;omega⟩
    exact h5.2 k x (by omega) hne hx
  intro hq k hk
  split at hq
  · cases hq
  rename_i ht
  by_cases e:k=i
  · subst e
    rw[hq] at ht
    simpa [Cf.less] using ht
  exact hn hq k (by omega)
theorem lst_min {but:Int} {ns:List Cf.Wt} {p:Nat×Nat} (h:lst but ns 0 none=some p) {k:Nat} {x:Cf.Wt} (hne:(k:Int)≠but) (hx:ns[k]?=some x):p.2≤x.1∧(k<p.1→p.2<x.1):=by
 have hk:k<ns.length:=(List.getElem?_eq_some_iff.1 hx).1
 exact lst_least but ns ns 0 none (fun k x h=>by rw[Nat.zero_add];exact h) (fun k _=>by rw[Nat.zero_add]) (fun p h=>by cases h) (fun _ k hk=>by omega) p h k x (by omega) hne hx
theorem wo_sub {α:Type} (a b:Nat):∀(xs:List α) (i:Nat),(wo a b xs i).Sublist xs
 | [],_=>List.Sublist.refl _
 | x::xs,i=>by
  rw[Cf.wo_cons]
  split
  · exact (wo_sub a b xs (i+1)).cons x
  exact (wo_sub a b xs (i+1)).cons_cons x
theorem count_sum (x:Nat):∀l:List Nat,l.count x=Cf.sum (fun y=>if y=x then 1 else 0) l
 | []=>rfl
 | y::l=>by
  rw[List.count_cons,count_sum x l]
  show _=(if y=x then 1 else 0)+Cf.sum _ l
  by_cases e:y=x
  · subst e;simp;omega
  simp[e]
theorem wo_perm {a b:Nat} {ks:List Nat} (hab:a≠b) (ha:a<ks.length) (hb:b<ks.length):ks.Perm (ks[a]::ks[b]::wo a b ks 0):=by
 rw[List.perm_iff_count]
 intro x
 have h:=Cf.wo_sum0 (fun y=>if y=x then 1 else 0) hab ks ha hb
 rw[List.count_cons,List.count_cons,count_sum,count_sum,←h]
 simp only[beq_iff_eq]
 exact Nat.add_right_comm _ _ _
theorem pop_is {K:Nat→Hp.Key} {ks:List Nat} {ns:List Cf.Wt} {but:Int} {a wa m:Nat} (hw:∀i,i<ks.length→∃x,ns[i]?=some x∧x.1=(K (ks.getD i 0)).1) (hinc:ks.Pairwise (fun x y=>(K x).2<(K y).2)) (h1:lst but ns 0 none=some (a,wa)) (hns:ns.length=ks.length)
 (hm:∃j,j<ks.length∧(j:Int)≠but∧m=ks.getD j 0) (hmin:∀j,j<ks.length→(j:Int)≠but→¬Hp.klt (K (ks.getD j 0)) (K m)):m=ks.getD a 0:=by
 obtain⟨j,hj,hjb,rfl⟩:=hm
 obtain⟨hab,ha,xa,hxa,hwa⟩:=Cf.lst_at h1
 dsimp only at hab ha hxa hwa
 rw[hns] at ha
 by_cases e:j=a
 · rw[e]
 exfalso
 have hpl:∀{i j},i<j→j<ks.length→(K (ks.getD i 0)).2<(K (ks.getD j 0)).2:=fun {i j} hij hj=>by
  have:=List.pairwise_iff_getElem.1 hinc i j (by omega) hj hij
  rw[List.getD_eq_getElem?_getD,List.getD_eq_getElem?_getD,List.getElem?_eq_getElem (by omega),List.getElem?_eq_getElem hj]
  exact this
 have hy:=hmin a ha hab
 obtain⟨x,hx,hxj⟩:=hw j hj
 obtain⟨x',hx',hxa'⟩:=hw a ha
 rw[hxa] at hx';cases hx'
 have h5:=lst_min h1 hjb hx
 dsimp only at h5
 refine hy ?_
 unfold Hp.klt
 rcases Nat.lt_or_ge j a with hlt|hge
 · have:=h5.2 hlt;omega
 have:=hpl (i:=a) (j:=j) (by omega) hj;omega
end Ct
end Go.Proofs.YtejebodgfoihkaaGreat
namespace Go.Proofs.YtejebodgfoihkaaGreat
open Go.RowKit

theorem hp_info (name:String) (f:FuncId) (b:Bool) (hm:(Tryz.prog.info? 159).map (fun i=>(i.methods.find? (·.name==name)).map (fun m=>(m.path.toList,m.func)))=some (some ([],some (f,b)))):∃i m,Tryz.prog.info? 159=some i∧i.methods.find? (·.name==name)=some m∧m.path=#[]∧m.func=some (f,b):=by
 cases h:Tryz.prog.info? 159 with
 | none=>rw[h] at hm;cases hm
 | some i=>
  rw[h] at hm
  cases hf:i.methods.find? (·.name==name) with
  | none=>rw[Option.map_some,hf] at hm;cases hm
  | some m=>
   rw[Option.map_some,hf] at hm
   simp at hm
   exact⟨i,m,rfl,hf,hm.1,hm.2⟩
theorem wrap_chk (xt : TypeId) (a : Addr) (name : String) (w : World) : (Builtin.ssaWrapNilChk_ #[xt] xt #[.pointer (some a), strVal "", strVal name]).run Tryz.prog w = .ok (.pointer (some a)) w := rfl
theorem method_val (name:String) (f:FuncId) (hm:(Tryz.prog.info? 159).map (fun i=>(i.methods.find? (·.name==name)).map (fun m=>(m.path.toList,m.func)))=some (some ([],some (f,false)))) (F:Nat) (hF:0<F) (Hb:Nat) (a:Option Addr) (n c:Nat) (w:World) (h:w.cell? ⟨Hb,0,none⟩=some (.slice a n c)):
 (method F 159 (.pointer (some ⟨Hb,0,none⟩)) name).run Tryz.prog w=.ok (f,.slice a n c) w:=by
 obtain⟨k,rfl⟩:∃k,F=k+1:=⟨F-1,by omega⟩
 obtain⟨i,m,hi,hfind,hp,hf⟩:=hp_info name f false hm
 unfold method
 simp[typeInfo,hi,hfind,hp,hf,follow,receiverAt,run_underlying Tryz.underlying159,Place.get,Result.andThen,wrap_chk,asAddr,go_sem,h]
theorem m_len (Hb : Nat) (a : Option Addr) (n c : Nat) (w : World) (h : w.cell? ⟨Hb, 0, none⟩ = some (.slice a n c)) : (method 296 159 (.pointer (some ⟨Hb, 0, none⟩)) "Len").run Tryz.prog w = .ok (116, .slice a n c) w := method_val "Len" _ (by kernel_rfl) _ (by decide) Hb a n c w h
theorem m_less (Hb : Nat) (a : Option Addr) (n c : Nat) (w : World) (h : w.cell? ⟨Hb, 0, none⟩ = some (.slice a n c)) : (method 296 159 (.pointer (some ⟨Hb, 0, none⟩)) "Less").run Tryz.prog w = .ok (148, .slice a n c) w := method_val "Less" _ (by kernel_rfl) _ (by decide) Hb a n c w h
theorem m_swap (Hb : Nat) (a : Option Addr) (n c : Nat) (w : World) (h : w.cell? ⟨Hb, 0, none⟩ = some (.slice a n c)) : (method 296 159 (.pointer (some ⟨Hb, 0, none⟩)) "Swap").run Tryz.prog w = .ok (151, .slice a n c) w := method_val "Swap" _ (by kernel_rfl) _ (by decide) Hb a n c w h
theorem m_push (a : Addr) (w : World) : (method 296 159 (.pointer (some a)) "Push").run Tryz.prog w = .ok (150, .pointer (some a)) w := by kernel_rfl
theorem m_pop (a : Addr) (w : World) : (method 296 159 (.pointer (some a)) "Pop").run Tryz.prog w = .ok (149, .pointer (some a)) w := by kernel_rfl

def ptN (k:Nat):Value:=.pointer (some ⟨k,0,none⟩)
def KeysAt (W:World) (K:Nat→Hp.Key) (l:List Nat):Prop:=∀k∈l,∃s x y:Value,W.heap[k]?=some (.cells #[s,x,y,.int .i64 ((K k).1:Int),.int .i64 ((K k).2:Int)] 141 (0,0))
def RowN (W:World) (g n:Nat) (l:List Nat):Prop:=∃cs:Array Value,W.heap[g]?=some (.cells cs 137 (0,0))∧l.length=n∧∀i,i<n→cs[i]?=some (ptN (l.getD i 0))

set_option maxHeartbeats 400000 in
theorem hpLen (a:Option Addr) (n c:Nat) (w:World):Calls Tryz.prog 116 #[.slice a n c] w fun e w'=>e=.returned (.int .i64 (n:Int))∧w'=w:=by
 go_enter Tryz.func116,Tryz.ntmps116
 go_wp2_with fail
 go_ret
 exact⟨rfl,rfl⟩
theorem RowN.cell {W:World} {g n:Nat} {l:List Nat} (h:RowN W g n l) {i:Nat} (hi:i<n):W.cell? ⟨g,i,none⟩=some (ptN (l.getD i 0))∧W.frozen? ⟨g,i,none⟩=false:=by
 obtain⟨cs,h1,h2,h3⟩:=h
 simp[World.cell?,World.frozen?,h1,h3 i hi]
theorem getD_mem {l:List Nat} {i:Nat} (h:i<l.length):l.getD i 0∈l:=by
 rw[List.getD_eq_getElem?_getD,List.getElem?_eq_getElem h];exact List.getElem_mem h
set_option maxHeartbeats 2000000 in
set_option maxRecDepth 20000 in
theorem hpLess (g n c:Nat) (l:List Nat) (K:Nat→Hp.Key) (i j:Nat) (w:World) (hi:i<n) (hj:j<n) (hR:RowN w g n l) (hK:KeysAt w K l) (hKb:∀k∈l,(K k).1≤100000000∧(K k).2≤100000000):
 Calls Tryz.prog 148 #[.slice (some ⟨g,0,none⟩) n c,.int .i64 (i:Int),.int .i64 (j:Int)] w fun e w'=>e=.returned (.bool (decide (Hp.klt (K (l.getD i 0)) (K (l.getD j 0)))))∧∃q,w'=w.drewN q:=by
 have hl:l.length=n:=by obtain⟨cs,h1,h2,h3⟩:=hR;exact h2
 have ci:=(hR.cell hi).1
 have cj:=(hR.cell hj).1
 have mi:=getD_mem (l:=l) (i:=i) (by omega)
 have mj:=getD_mem (l:=l) (i:=j) (by omega)
 obtain⟨s1,x1,y1,hk1⟩:=hK _ mi
 obtain⟨s2,x2,y2,hk2⟩:=hK _ mj
 have hb1:=hKb _ mi
 have hb2:=hKb _ mj
 unfold ptN at ci cj
 generalize l.getD i 0=a at*
 generalize l.getD j 0=b at*
 have o1:w.cell? ⟨a,3,none⟩=some (.int .i64 ((K a).1:Int)):=by simp[World.cell?,hk1]
 have o2:w.cell? ⟨b,3,none⟩=some (.int .i64 ((K b).1:Int)):=by simp[World.cell?,hk2]
 have p1:w.cell? ⟨a,4,none⟩=some (.int .i64 ((K a).2:Int)):=by simp[World.cell?,hk1]
 have p2:w.cell? ⟨b,4,none⟩=some (.int .i64 ((K b).2:Int)):=by simp[World.cell?,hk2]
 have hkl:Hp.klt (K a) (K b)↔(K a).1<(K b).1∨((K a).1=(K b).1∧(K a).2<(K b).2):=Iff.rfl
 obtain⟨D,hD⟩:∃D,D=decide (Hp.klt (K a) (K b)):=⟨_,rfl⟩
 rw[←hD]
 generalize K a=ka at*
 generalize K b=kb at*
 obtain⟨u1,v1⟩:=ka
 obtain⟨u2,v2⟩:=kb
 dsimp only at*
 have hii:(i:Int)<(n:Int):=by omega
 have hji:(j:Int)<(n:Int):=by omega
 clear hR hK hKb hk1 hk2 mi mj hl
 by_cases hne:u1=u2
 · have d1:(((u1:Nat):Int) != ((u2:Nat):Int))=false:=by rw[hne];simp
   have HD:Hid (decide (v1<v2)=D):=by
    show _=_
    rw[hD]
    exact decide_eq_decide.2 (by rw[hkl];omega)
   clear hD hkl hne
   go_enter Tryz.func148,Tryz.ntmps148
   go_wp2_with fail
   go_quiet (fail)
   go_wp2_with fail
   go_quiet (fail)
   go_wp2_with fail
   go_ret
   exact⟨by show Ending.returned (Value.bool (decide (v1<v2)))=_;rw[HD.out],_,by rw[World.drewN_drewN]⟩
 have d1:(((u1:Nat):Int) != ((u2:Nat):Int))=true:=by rw[bne_iff_ne];omega
 have HD:Hid (decide (u1<u2)=D):=by
  show _=_
  rw[hD]
  exact decide_eq_decide.2 (by rw[hkl];omega)
 clear hD hkl hne
 go_enter Tryz.func148,Tryz.ntmps148
 go_wp2_with fail
 go_quiet (fail)
 go_wp2_with fail
 go_quiet (fail)
 go_wp2_with fail
 go_ret
 exact⟨by show Ending.returned (Value.bool (decide (u1<u2)))=_;rw[HD.out],_,by rw[World.drewN_drewN]⟩

def SwapEnd (g:Nat) (l:List Nat) (i j:Nat) (w:World) (e:Ending) (w':World):Prop:=(∃v,e=.returned v)∧∃q,w'=((w.setCell ⟨g,i,none⟩ (ptN (l.getD j 0))).setCell ⟨g,j,none⟩ (ptN (l.getD i 0))).drewN q
set_option maxHeartbeats 4000000 in
set_option maxRecDepth 20000 in
theorem hpSwap (g n c:Nat) (l:List Nat) (i j:Nat) (w:World) (hi:i<n) (hj:j<n) (hR:RowN w g n l):
 Calls Tryz.prog 151 #[.slice (some ⟨g,0,none⟩) n c,.int .i64 (i:Int),.int .i64 (j:Int)] w (SwapEnd g l i j w):=by
 obtain⟨ci,fi⟩:=hR.cell hi
 obtain⟨cj,fj⟩:=hR.cell hj
 have hii:(i:Int)<(n:Int):=by omega
 have hji:(j:Int)<(n:Int):=by omega
 unfold ptN at ci cj
 have HF:Hid (∀(e:Ending) (W':World),(∃v,e=.returned v)→(∃q,W'=(((w.setCell ⟨g,i,none⟩ (ptN (l.getD j 0))).setCell ⟨g,j,none⟩ (ptN (l.getD i 0))).drewN q))→SwapEnd g l i j w e W'):=fun e W' hv hq=>⟨hv,hq⟩
 obtain⟨x2,c2⟩:∃x2,(w.setCell ⟨g,i,none⟩ (ptN (l.getD j 0))).cell? ⟨g,j,none⟩=some x2:=by
  by_cases e:i=j
  · subst e
    exact⟨_,World.cell?_setCell_same _ _ _ ci⟩
  exact⟨_,(World.cell?_setCell_other _ _ _ _ (fun q=>e (congrArg Addr.off q))).trans cj⟩
 unfold ptN at HF c2
 generalize l.getD i 0=a at*
 generalize l.getD j 0=b at*
 clear hR
 go_enter Tryz.func151,Tryz.ntmps151
 go_wp2_with fail
 go_region
 all_goals (
  go_wp2_with fail
  go_end0
  exact HF.out _ _ ⟨_,rfl⟩ ⟨1,rfl⟩)
end Go.Proofs.YtejebodgfoihkaaGreat
namespace Go.Proofs.YtejebodgfoihkaaGreat
namespace Cf

abbrev Nd:=Wt×List Nat
theorem wo_keep {α:Type} {a b:Nat}:∀(xs:List α) (i k:Nat) (x:α),xs[k]?=some x→i+k≠a→i+k≠b→x∈wo a b xs i
 | [],_,_,_,h,_,_=>by simp at h
 | y::xs,i,0,x,h,ha,hb=>by
  have e:y=x:=by simpa using h
  subst e
  rw[wo_cons,if_neg (by simp;omega)]
  simp
 | y::xs,i,k+1,x,h,ha,hb=>by
  have ih:=wo_keep (a:=a) (b:=b) xs (i+1) k x (by simpa using h) (by omega) (by omega)
  rw[wo_cons]
  split
  · exact ih
  exact List.mem_cons_of_mem _ ih
theorem sum_ge {α:Type} (f:α→Nat) {i j:Nat} (hij:i≠j) (xs:List α) (hi:i<xs.length) (hj:j<xs.length):f xs[i]+f xs[j]≤sum f xs:=by
 have:=wo_sum0 f hij xs hi hj
 omega
theorem sum_one {α:Type} (f:α→Nat):∀(xs:List α) (x:α),x∈xs→f x≤sum f xs
 | y::xs,x,h=>by
  unfold sum
  rcases List.mem_cons.1 h with rfl|h
  · omega
  have:=sum_one f xs x h;omega
structure Inv (n:Nat) (ps:List Nd) (f:Nat→Nat):Prop where
 dup:∀s,sum (fun p:Nd=>p.2.count s) ps≤1
 rng:∀p∈ps,∀s∈p.2,s<n
 hgt:∀s,s<n→f s=0∨(∃p∈ps,s∈p.2∧f s≤p.1.2)∨(ps.length=1∧f s≤1)
 wgt:sum (fun p:Nd=>p.1.1) ps≤3000000
 len:ps.length≤300
 tot:sum (fun p:Nd=>p.2.length) ps≤300
 fin_bound:∀p∈ps,p.1.2≤400-ps.length

def next (ps:List Nd) (a b:Nat) (x y:Nd):List Nd:=wo a b ps 0++[((x.1.1+y.1.1,1+Nat.max x.1.2 y.1.2),x.2++y.2)]
theorem next_ns {ps:List Nd} {a b wa wb:Nat} {x y:Nd} (h1:lst (-1) (ps.map (fun p=>p.1)) 0 none=some (a,wa)) (h2:lst (a:Int) (ps.map (fun p=>p.1)) 0 none=some (b,wb)) (hx:ps[a]?=some x) (hy:ps[b]?=some y):(next ps a b x y).map (fun p=>p.1)=step (ps.map (fun p=>p.1)):=by
 have hgx:∀(i:Nat) (z:Nd),ps[i]?=some z→Cf.hgt (ps.map (fun p=>p.1)) i=z.1.2:=fun i z hz=>by
  unfold Cf.hgt
  rw[List.getD_eq_getElem?_getD,List.getElem?_map,hz];rfl
 obtain⟨_,_,x',e1,e2⟩:=lst_at h1
 obtain⟨_,_,y',e3,e4⟩:=lst_at h2
 simp only at e1 e2 e3 e4
 rw[List.getElem?_map,hx] at e1
 rw[List.getElem?_map,hy] at e3
 have e1':x.1=x':=by simpa using e1
 have e3':y.1=y':=by simpa using e3
 rw[step_two h1 h2]
 unfold next
 rw[List.map_append,wo_map,hgx a x hx,hgx b y hy,←e2,←e4,←e1',←e3']
 rfl
theorem Inv.next {n:Nat} {ps:List Nd} {f:Nat→Nat} (h:Inv n ps f) {a b:Nat} {x y:Nd} (hx:ps[a]?=some x) (hy:ps[b]?=some y) (hab:a≠b):Inv n (Cf.next ps a b x y) (fun s=>f s+(x.2++y.2).count s):=by
 obtain⟨ha,rfl⟩:=List.getElem?_eq_some_iff.1 hx
 obtain⟨hb,rfl⟩:=List.getElem?_eq_some_iff.1 hy
 have hlen:=wo_len0 hab ps ha hb
 refine⟨fun s=>?_,fun p hp s hs=>?_,fun s hs=>?_,?_,?_,?_,fun p hp=>?_⟩
 · unfold Cf.next
   rw[sum_append]
   have:=wo_sum0 (fun p:Nd=>p.2.count s) hab ps ha hb
   have h2:=h.dup s
   simp only[sum,List.count_append]
   omega
 · unfold Cf.next at hp
   rcases List.mem_append.1 hp with hp|hp
   · exact h.rng p (wo_mem ps 0 p hp) s hs
   rw[List.mem_singleton] at hp
   subst hp
   rcases List.mem_append.1 hs with hs|hs
   · exact h.rng _ (List.getElem_mem ha) s hs
   exact h.rng _ (List.getElem_mem hb) s hs
 · have hd:=h.dup s
   have hge:=sum_ge (fun p:Nd=>p.2.count s) hab ps ha hb
   simp only[List.count_append]
   by_cases hin:s∈ps[a].2∨s∈ps[b].2
   · right;left
     refine⟨_,List.mem_append.2 (.inr (List.mem_singleton.2 rfl)),List.mem_append.2 hin,?_⟩
     have hf:f s≤Nat.max ps[a].1.2 ps[b].1.2:=by
      rcases h.hgt s hs with h0|⟨p,hp,hsp,hle⟩|⟨h1,_⟩
      · omega
      · obtain⟨i,hi,rfl⟩:=List.getElem_of_mem hp
        by_cases ea:i=a
        · subst ea;exact Nat.le_trans hle (Nat.le_max_left _ _)
        by_cases eb:i=b
        · subst eb;exact Nat.le_trans hle (Nat.le_max_right _ _)
        exfalso
        have c1:0<ps[i].2.count s:=List.count_pos_iff.2 hsp
        rcases hin with hin|hin
        · have:=sum_ge (fun p:Nd=>p.2.count s) ea ps hi ha
          have c2:0<ps[a].2.count s:=List.count_pos_iff.2 hin
          omega
        have:=sum_ge (fun p:Nd=>p.2.count s) eb ps hi hb
        have c2:0<ps[b].2.count s:=List.count_pos_iff.2 hin
        omega
      omega
     show f s+(ps[a].2.count s+ps[b].2.count s)≤1+Nat.max ps[a].1.2 ps[b].1.2
     omega
   have c1:ps[a].2.count s=0:=List.count_eq_zero.2 (fun e=>hin (.inl e))
   have c2:ps[b].2.count s=0:=List.count_eq_zero.2 (fun e=>hin (.inr e))
   rw[c1,c2,Nat.add_zero]
   rcases h.hgt s hs with h0|⟨p,hp,hsp,hle⟩|⟨h1,_⟩
   · exact .inl h0
   · right;left
     obtain⟨i,hi,rfl⟩:=List.getElem_of_mem hp
     refine⟨ps[i],List.mem_append.2 (.inl (wo_keep ps 0 i _ (List.getElem?_eq_getElem hi) (fun e=>?_) (fun e=>?_))),hsp,hle⟩
     · rw[Nat.zero_add] at e;subst e;exact hin (.inl hsp)
     rw[Nat.zero_add] at e;subst e;exact hin (.inr hsp)
   omega
 · unfold Cf.next
   rw[sum_append]
   have:=wo_sum0 (fun p:Nd=>p.1.1) hab ps ha hb
   have h2:=h.wgt
   simp only[sum]
   omega
 · unfold Cf.next
   rw[List.length_append,List.length_singleton]
   have:=h.len
   omega
 · unfold Cf.next
   rw[sum_append]
   have:=wo_sum0 (fun p:Nd=>p.2.length) hab ps ha hb
   have h2:=h.tot
   simp only[sum,List.length_append]
   omega
 have hl:=h.len
 unfold Cf.next at hp ⊢
 rw[List.length_append,List.length_singleton]
 rcases List.mem_append.1 hp with hp|hp
 · have:=h.fin_bound p (wo_mem ps 0 p hp)
   omega
 rw[List.mem_singleton] at hp
 subst hp
 have h1:=h.fin_bound _ (List.getElem_mem ha)
 have h2:=h.fin_bound _ (List.getElem_mem hb)
 have h3:Nat.max ps[a].1.2 ps[b].1.2≤400-ps.length:=Nat.max_le.2 ⟨h1,h2⟩
 show 1+Nat.max ps[a].1.2 ps[b].1.2≤_
 omega
theorem Inv.end {n:Nat} {ps:List Nd} {f:Nat→Nat} (h:Inv n ps f) (hl:ps.length≤1):∀s,s<n→f s≤Nat.max 1 (fin (ps.map (fun p=>p.1))):=by
 intro s hs
 rw[fin_one (by rw[List.length_map];exact hl)]
 rcases h.hgt s hs with h0|⟨p,hp,_,hle⟩|⟨_,h1⟩
 · rw[h0];exact Nat.zero_le _
 · exact Nat.le_trans (Nat.le_trans hle (maxh_mem _ _ (List.mem_map.2 ⟨p,hp,rfl⟩))) (Nat.le_max_right _ _)
 exact Nat.le_trans h1 (Nat.le_max_left _ _)
def init (zs:List Int):Nat→List Nd
 | 0=>[]
 | k+1=>if 0<zs.getD k 0 then init zs k++[(((zs.getD k 0).toNat,0),[k])] else init zs k
theorem init_len (zs:List Int):∀k,(init zs k).length≤k
 | 0=>Nat.le_refl _
 | k+1=>by
  have:=init_len zs k
  unfold init
  split
  · rw[List.length_append,List.length_singleton];omega
  omega
theorem init_mem (zs:List Int):∀k p,p∈init zs k→p.1.2=0∧∃s,s<k∧p.2=[s]∧p.1.1=(zs.getD s 0).toNat
 | 0,p,h=>by simp[init] at h
 | k+1,p,h=>by
  unfold init at h
  split at h
  · rcases List.mem_append.1 h with h|h
    · obtain⟨h1,s,h2,h3,h4⟩:=init_mem zs k p h
      exact⟨h1,s,by omega,h3,h4⟩
    rw[List.mem_singleton] at h
    subst h
    exact⟨rfl,k,by omega,rfl,rfl⟩
  obtain⟨h1,s,h2,h3,h4⟩:=init_mem zs k p h
  exact⟨h1,s,by omega,h3,h4⟩
theorem init_dup (zs:List Int) (s:Nat):∀k,sum (fun p:Nd=>p.2.count s) (init zs k)≤1∧(k≤s→sum (fun p:Nd=>p.2.count s) (init zs k)=0)
 | 0=>⟨by simp[init,sum],fun _=>rfl⟩
 | k+1=>by
  obtain⟨h1,h2⟩:=init_dup zs s k
  unfold init
  split
  · rw[sum_append]
    simp only[sum]
    by_cases e:k=s
    · subst e
      rw[h2 (Nat.le_refl _)]
      refine⟨by simp,fun h=>by omega⟩
    have:List.count s [k]=0:=by rw[List.count_eq_zero];simp;omega
    rw[this]
    exact⟨by omega,fun h=>by rw[h2 (by omega)]⟩
  exact⟨h1,fun h=>h2 (by omega)⟩
theorem init_wgt {zs:List Int} (hz:∀i,i<zs.length→0≤zs.getD i 0∧zs.getD i 0≤9000):∀k,k≤zs.length→sum (fun p:Nd=>p.1.1) (init zs k)≤9000*k
 | 0,_=>by simp[init,sum]
 | k+1,h=>by
  have ih:=init_wgt hz k (by omega)
  have:=hz k (by omega)
  unfold init
  split
  · rw[sum_append]
    simp only[sum]
    omega
  omega
theorem init_tot (zs:List Int):∀k,sum (fun p:Nd=>p.2.length) (init zs k)≤k
 | 0=>by simp[init,sum]
 | k+1=>by
  have ih:=init_tot zs k
  unfold init
  split
  · rw[sum_append]
    simp only[sum,List.length_singleton]
    omega
  omega
theorem init_inv {zs:List Int} (hz:∀i,i<zs.length→0≤zs.getD i 0∧zs.getD i 0≤9000) (hl:zs.length≤300):Inv zs.length (init zs zs.length) (fun _=>0):=by
 refine⟨fun s=>(init_dup zs s _).1,fun p hp s hs=>?_,fun s _=>.inl rfl,?_,?_,Nat.le_trans (init_tot zs _) hl,fun p hp=>by rw[(init_mem zs _ p hp).1];exact Nat.zero_le _⟩
 · obtain⟨_,t,h2,h3,_⟩:=init_mem zs _ p hp
   rw[h3,List.mem_singleton] at hs
   omega
 · have:=init_wgt hz zs.length (Nat.le_refl _)
   omega
 have:=init_len zs zs.length
 omega
def deep (zs:List Int):Nat:=Nat.max 1 (fin ((init zs zs.length).map (fun p=>p.1)))
end Cf
open Go.RowKit

theorem OwnI.lower {w:World} {B C n:Nat} {v:Value} {l:List Int} (h:OwnI w B v n l) (hC:C≤B):OwnI w C v n l:=by
 refine⟨h.1,?_⟩
 rcases h.2 with h2|⟨g,cap,cur,hv,hg,r⟩
 · exact .inl h2
 exact .inr ⟨g,cap,cur,hv,by omega,r⟩


theorem info_node:(Tryz.prog.info? 166).map (fun i=>(i.zero,i.size,i.bytes))=some (some (.agg #[.int .i64 0,.slice none 0 0]),2,32):=by kernel_rfl

abbrev Sy:=Option Addr×Nat×List Nat
def syV (s:Sy):Value:=.slice s.1 s.2.2.length s.2.1
def ndCells:List Nat→List Sy→List Value
 | w::ws,s::ss=>.int .i64 (w:Int)::syV s::ndCells ws ss
 | _,_=>[]
theorem ndCells_snoc:∀(ws:List Nat) (ss:List Sy) (w:Nat) (s:Sy),ws.length=ss.length→ndCells ws ss++[.int .i64 (w:Int),syV s]=ndCells (ws++[w]) (ss++[s])
 | [],[],w,s,_=>rfl
 | [],_::_,_,_,h=>by simp at h
 | _::_,[],_,_,h=>by simp at h
 | x::ws,y::ss,w,s,h=>by simp only[ndCells,List.cons_append,ndCells_snoc ws ss w s (by simpa using h)]
theorem ndCells_get:∀(ws:List Nat) (ss:List Sy) (h:ws.length=ss.length) (i:Nat) (hi:i<ws.length),(ndCells ws ss)[i*2]?=some (.int .i64 (ws[i]:Int))∧(ndCells ws ss)[i*2+1]?=some (syV (ss[i]'(by omega)))
 | w::ws,s::ss,h,0,hi=>by simp[ndCells]
 | w::ws,s::ss,h,i+1,hi=>by
  have:=ndCells_get ws ss (by simpa using h) i (by simpa using hi)
  rw[show (i+1)*2=i*2+1+1 by omega,show i*2+1+1+1=i*2+1+1+1 from rfl]
  simp only[ndCells,List.getElem?_cons_succ,List.getElem_cons_succ]
  exact this

def SymRow (Q:Nat) (W:World) (s:Sy):Prop:=s.2.2.length≤s.2.1∧(s.2.2=[]∨∃b cs fr,s.1=some ⟨b,0,none⟩∧Q<b∧W.heap[b]?=some (.cells cs 3 fr)∧∀i (h:i<s.2.2.length),cs[i]?=some (.int .i64 (s.2.2[i]:Int)))
def IntK (Q:Nat) (W W':World):Prop:=W.heap.size≤W'.heap.size∧∀b cs fr,Q<b→W.heap[b]?=some (.cells cs 3 fr)→W'.heap[b]?=some (.cells cs 3 fr)
theorem IntK.refl (Q:Nat) (W:World):IntK Q W W:=⟨Nat.le_refl _,fun _ _ _ _ h=>h⟩
theorem IntK.trans {Q:Nat} {A B C:World} (h:IntK Q A B) (k:IntK Q B C):IntK Q A C:=⟨Nat.le_trans h.1 k.1,fun b cs fr hb hc=>k.2 b cs fr hb (h.2 b cs fr hb hc)⟩
theorem IntK.alloc {Q:Nat} {A B:World} (h:IntK Q A B) (o:Obj):IntK Q A (B.alloc o):=h.trans ⟨by simp,fun b _ _ _ hc=>(Below.heap_alloc B o b (Array.getElem?_eq_some_iff.1 hc).1).trans hc⟩
theorem IntK.grown {Q:Nat} {A B C:World} {v:Value} {lo n size:Nat} {e:TypeId} {xs:List Value} (h:IntK Q A B) (hr:B.ownsRow lo e size v n xs) (he:e≠3) (hg:B.grownBy C v.ownBlock):IntK Q A C:=
 h.trans ⟨hg.size,fun b _ _ _ hc=>(hg.block b (Array.getElem?_eq_some_iff.1 hc).1 (fun eb=>by
  rcases hr.2 with⟨rfl,_⟩|⟨g,cap,cur,rfl,_,hgg,_⟩
  · cases eb
  simp[Value.ownBlock] at eb
  subst eb
  rw[hgg] at hc
  cases hc
  exact he rfl)).trans hc⟩
theorem SymRow.kept {Q:Nat} {W W':World} {s:Sy} (h:SymRow Q W s) (k:IntK Q W W'):SymRow Q W' s:=by
 refine⟨h.1,?_⟩
 rcases h.2 with e|⟨b,cs,fr,h1,h2,h3,h4⟩
 · exact .inl e
 exact .inr ⟨b,cs,fr,h1,h2,k.2 b cs fr h2 h3,h4⟩
theorem SymRow.ints {Q:Nat} {W:World} {s:Sy} (h:SymRow Q W s):Ints W s.1 (s.2.2.map (fun x:Nat=>(x:Int))):=by
 rcases h.2 with e|⟨b,cs,fr,h1,h2,h3,h4⟩
 · left;rw[e];rfl
 refine .inr ⟨b,0,h1,(Array.getElem?_eq_some_iff.1 h3).1,fun i hi=>?_⟩
 rw[List.length_map] at hi
 rw[Nat.zero_add,List.getElem_map]
 simp[World.cell?,h3,h4 i hi]
theorem SymRow.low {Q:Nat} {W W':World} {s:Sy} (h:SymRow Q W s) (hk:∀k,k<W.heap.size→Q<k→W'.heap[k]?=W.heap[k]?):SymRow Q W' s:=by
 refine⟨h.1,?_⟩
 rcases h.2 with e|⟨b,cs,fr,h1,h2,h3,h4⟩
 · exact .inl e
 exact .inr ⟨b,cs,fr,h1,h2,(hk b (Array.getElem?_eq_some_iff.1 h3).1 h2).trans h3,h4⟩
theorem symRow_own {Q lo n c:Nat} {W:World} {a:Option Addr} {l:List Nat} (h:OwnI W lo (.slice a n c) n (l.map (fun x:Nat=>(x:Int)))) (hQ:Q<lo):SymRow Q W (a,c,l):=by
 have hl:=h.len
 rw[List.length_map] at hl
 rcases h.2 with⟨e,h0⟩|⟨g,cap,cur,e,h1,h2,h3,_,_,h6⟩
 · cases e
   have:l=[]:=List.eq_nil_of_length_eq_zero (by omega)
   subst this
   exact⟨Nat.le_refl _,.inl rfl⟩
 cases e
 refine⟨by show l.length≤c;omega,.inr ⟨g,cur,(0,0),rfl,by omega,h2,fun i hi=>?_⟩⟩
 have hi':i<l.length:=hi
 have:(cur.toList.take (n*1))[i]?=some (.int .i64 ((l[i]:Nat):Int)):=by
  rw[h6,intsV_get _ i (by rw[List.length_map];exact hi'),List.getElem_map]
 rw[List.getElem?_take_of_lt (by omega)] at this
 simpa using this

def Nodes (Q lo:Nat) (W:World) (v:Value) (ws:List Nat) (ss:List Sy):Prop:=
 Q<lo∧ws.length=ss.length∧W.ownsRow lo 166 2 v ws.length (ndCells ws ss)∧∀s∈ss,SymRow Q W s
theorem Nodes.at {Q lo:Nat} {W:World} {a:Option Addr} {n c:Nat} {ws:List Nat} {ss:List Sy} (h:Nodes Q lo W (.slice a n c) ws ss) {i:Nat} (hi:i<ws.length):
 ∃g,a=some ⟨g,0,none⟩∧W.cell? ⟨g,i*2,none⟩=some (.int .i64 (ws[i]:Int))∧W.cell? ⟨g,i*2+1,none⟩=some (syV (ss[i]'(by rw[←h.2.1];exact hi)))∧SymRow Q W (ss[i]'(by rw[←h.2.1];exact hi)):=by
 obtain⟨_,h1,h2,h3⟩:=h
 rcases h2.2 with⟨e,h0⟩|⟨g,cap,cur,e,_,hg,_⟩
 · omega
 cases e
 obtain⟨c1,c2⟩:=ndCells_get ws ss h1 i hi
 refine⟨g,rfl,?_,?_,h3 _ (List.getElem_mem _)⟩
 · have:=World.ownsRow.cells h2 (g:=g) rfl (i*2) _ c1
   rw[show (⟨g,0,none⟩:Addr).add (i*2)=⟨g,i*2,none⟩ by simp[Addr.add];try omega] at this
   exact this
 have:=World.ownsRow.cells h2 (g:=g) rfl (i*2+1) _ c2
 rw[show (⟨g,0,none⟩:Addr).add (i*2+1)=⟨g,i*2+1,none⟩ by simp[Addr.add];try omega] at this
 exact this
theorem Nodes.same {Q lo:Nat} {W W':World} {v:Value} {ws:List Nat} {ss:List Sy} (h:Nodes Q lo W v ws ss) (hk:∀k,k<W.heap.size→Q<k→W'.heap[k]?=W.heap[k]?):Nodes Q lo W' v ws ss:=by
 refine⟨h.1,h.2.1,⟨h.2.2.1.1,?_⟩,fun s hs=>?_⟩
 · rcases h.2.2.1.2 with h2|⟨g,cap,cur,hv,hg,hh,r⟩
   · exact .inl h2
   exact .inr ⟨g,cap,cur,hv,hg,(hk g (Array.getElem?_eq_some_iff.1 hh).1 (by have:=h.1;omega)).trans hh,r⟩
 exact (h.2.2.2 s hs).low hk
theorem Nodes.lower {Q lo lo':Nat} {W:World} {v:Value} {ws:List Nat} {ss:List Sy} (h:Nodes Q lo W v ws ss) (hl:lo'≤lo) (hQ:Q<lo'):Nodes Q lo' W v ws ss:=by
 refine⟨hQ,h.2.1,⟨h.2.2.1.1,?_⟩,h.2.2.2⟩
 rcases h.2.2.1.2 with h2|⟨g,cap,cur,hv,hg,r⟩
 · exact .inl h2
 exact .inr ⟨g,cap,cur,hv,by omega,r⟩
theorem nodes_none (Q:Nat) (W:World) (hQ:Q<W.heap.size):Nodes Q W.heap.size (W.alloc (.cells #[] 166)) (.slice (some ⟨W.heap.size,0,none⟩) 0 0) [] []:=
 ⟨hQ,rfl,⟨rfl,.inr ⟨W.heap.size,0,#[],rfl,Nat.le_refl _,heap_alloc_new W _,Nat.le_refl _,Nat.zero_le _,rfl,rfl⟩⟩,fun _ h=>by simp at h⟩

theorem wpList_appN {ops:Array Oper} {rest:List Oper} {o:Oper} {ac:Act} {K:Exit→Act→World→Prop} (w0:World) (hgd:o.guard=none) (x y:Operand)
 (ho:o.op=.call { callee:=.builtin .append,args:=#[x,y],argTypes:=#[164,164] })
 (Q lo:Nat) (v:Value) (ws:List Nat) (ss:List Sy) (wt n:Nat) (s:Sy) (hs:ac.eval x=v) (hown:Nodes Q lo w0 v ws ss) (hwn:ws.length=n) (hsy:SymRow Q w0 s) (H:Nat) (hH:w0.heap.size=H) (hx:ac.eval y=.slice (some ⟨H,0,none⟩) 1 1) (hn:n≤2000000) (hb:lo≤w0.heap.size)
 (h:∀g cap w',Nodes Q lo w' (.slice (some ⟨g,0,none⟩) (n+1) cap) (ws++[wt]) (ss++[s])→IntK Q w0 w'→Below lo w0 w'→wpList Tryz.prog ops K rest (ac.put o.dst (.slice (some ⟨g,0,none⟩) (n+1) cap)) w'):
 wpList Tryz.prog ops K (o::rest) ac (w0.alloc (.cells #[.int .i64 (wt:Int),syV s] 166)):=by
 subst hwn
 subst hH
 obtain⟨i0,hi0,hz0,hz1,hz2⟩:=info_parts info_node
 have hA:(w0.alloc (.cells #[.int .i64 (wt:Int),syV s] 166)).ownsRow lo 166 2 v ws.length (ndCells ws ss):=World.ownsRow.alloc hown.2.2.1 _
 refine wpList_append_lies _ hgd x y _ ho lo 166 i0 (.agg #[.int .i64 0,.slice none 0 0]) 2 32 Tryz.underlying164 hi0 hz0 hz1 hz2 rfl (by decide) v ws.length (ndCells ws ss) hs hA ⟨w0.heap.size,0,none⟩ 1 1 [.int .i64 (wt:Int),syV s] hx rfl (World.news_of_block (heap_alloc_new _ _)) (fun u hu=>by simp at hu;rcases hu with rfl|rfl<;>rfl) (by decide) (by unfold maxLen;omega) (by omega) (Nat.le_trans hb (by simp)) _ rfl ?_
 intro g cap w' hown' hg hat hlt
 have hk:IntK Q w0 w':=((IntK.refl Q w0).alloc _).grown hA (by decide) hg
 refine h g cap w' ⟨hown.1,by simp[hown.2.1],?_,fun t ht=>?_⟩ hk ?_
 · rw[List.length_append,List.length_singleton,←ndCells_snoc _ _ _ _ hown.2.1];exact hown'
 · rcases List.mem_append.1 ht with ht|ht
   · exact (hown.2.2.2 t ht).kept hk
   rw[List.mem_singleton] at ht;subst ht;exact hsy.kept hk
 exact ((Below.refl _ _).alloc hb _).trans ((Below.refl _ _).grown hg (Nat.le_trans hb (by simp)) (fun j hj=>(World.ownsRow.lt hown.2.2.1 j hj).1))

def oneB (z:Int):Bool:=decide (0≤z)&&decide (z≤9000)
def oftenB (os:List Int):Bool:=os.all oneB
theorem oftenB_get {os:List Int} (h:oftenB os=true) (k:Nat) (hk:k<os.length):0≤os[k]∧os[k]≤9000:=by
 have:=List.all_eq_true.1 h os[k] (List.getElem_mem hk)
 simp only[oneB,Bool.and_eq_true,decide_eq_true_eq] at this
 exact this
theorem oftenB_no {os:List Int} (k:Nat) (hk:k<os.length) (h:¬(0≤os[k]∧os[k]≤9000)):oftenB os=false:=by
 cases e:oftenB os
 · rfl
 exact absurd (oftenB_get e k hk) h
theorem oftenB_all {os:List Int} (h:∀k (hk:k<os.length),0≤os[k]∧os[k]≤9000):oftenB os=true:=by
 unfold oftenB
 rw[List.all_eq_true]
 intro x hx
 obtain⟨k,hk,rfl⟩:=List.getElem_of_mem hx
 have:=h k hk
 simp only[oneB,Bool.and_eq_true,decide_eq_true_eq];exact this

set_option maxHeartbeats 1000000 in
theorem oftenOk_any (a:Option Addr) (cap n:Nat) (os:List Int) (w:World) (h:Ints w a os) (hn:os.length=n) (hl:n≤1048576):
 Calls Tryz.prog 93 #[.slice a n cap] w fun e w'=>e=.returned (.bool (oftenB os))∧w'=w:=by
 have HI:Hid (Ints w a os):=h
 have HO:Hid (os.length=n):=hn
 have hog:n≤os.length:=by omega
 clear h hn
 go_enter Tryz.func93,Tryz.ntmps93
 go_wp2_with fail
 go_loop [7] (fun i=>∃k:Nat,k≤n∧i=.int .i64 k∧(∀j (hj:j<os.length),j<k→0≤os[j]∧os[j]≤9000)) (fun i=>n-(intOf i).toNat)
 case atStart=>exact⟨0,Nat.zero_le _,rfl,fun j _ h=>by omega⟩
 case round=>
  obtain⟨k,hk,rfl,hall⟩:=hrel
  by_cases hlt:k<n
  · have hko:k<os.length:=by omega
    rcases HI.out with h|⟨b1,off1,rfl,hb1,hc1⟩
    · rw[h] at hko;simp at hko
    have e1:=hc1 k hko
    have hki:(k:Int)<(n:Int):=by omega
    have hno:=oftenB_no k hko
    have hall':Hid ((0≤os[k]∧os[k]≤9000)→∀j (hj:j<os.length),j<k+1→0≤os[j]∧os[j]≤9000):=by
     intro hz j hj hjk
     by_cases e:j=k
     · subst e;exact hz
     exact hall j hj (by omega)
    clear hc1 hall
    generalize os[k]=o at*
    by_cases hz:0≤o∧o≤9000
    · have HAA:Hid (∀j (hj:j<os.length),j<k+1→0≤os[j]∧os[j]≤9000):=hall'.out hz
      have hd1:decide (o<0)=false:=by simp;omega
      have hd2:decide (9000<o)=false:=by simp;omega
      clear hno hall'
      go_wp2_with fail
      go_round
      case rel=>exact⟨k+1,by omega,by go_num,HAA.out⟩
      case measure=>simp[intOf];omega
    have HE:Hid (oftenB os=false):=hno hz
    clear hno hall'
    by_cases hneg:o<0
    · clear hz
      go_wp2_with fail
      go_ret
      exact⟨ret_bool HE.out.symm,rfl⟩
    have hd1:decide (o<0)=false:=by simpa using hneg
    have hbig:9000<o:=by omega
    clear hz hneg
    go_wp2_with fail
    go_ret
    exact⟨ret_bool HE.out.symm,rfl⟩
  have ho:oftenB os=true:=oftenB_all (fun j hj=>hall j hj (by have:=HO.out;omega))
  have HE:Hid (oftenB os=true):=ho
  clear ho hall
  go_wp2_with fail
  go_ret
  exact⟨ret_bool HE.out.symm,rfl⟩


def fullB (zs:List Int):Bool:=Cd.okB zs&&decide (Cd.left zs=0)

theorem left_of_ok {zs:List Int} (h:Cd.okB zs=true):Cd.left zs=32768-(Cd.taken zs:Int):=by
 unfold Cd.okB at h
 simp only[Bool.and_eq_true,decide_eq_true_eq] at h
 unfold Cd.left;rw[if_pos h.2]

end Go.Proofs.YtejebodgfoihkaaGreat
namespace Go.Proofs.YtejebodgfoihkaaGreat
namespace Bp

theorem byte_bit:∀x,x<256→∀p,p<8→x / 2^p%2=0→x ||| 2^p=x+2^p∧x+2^p<256∧∀q,q<8→(x+2^p) / 2^q%2=if q=p then 1 else x / 2^q%2:=by
 decide +kernel

theorem byte_step (x p b:Nat) (hx:x<256) (hp:p<8) (hb:b<2) (h0:x / 2^p%2=0):
 x ||| b*2^p=x+b*2^p∧x+b*2^p<256∧∀q,q<8→(x+b*2^p) / 2^q%2=if q=p then b else x / 2^q%2:=by
 rcases (by omega:b=0∨b=1) with rfl|rfl
 · rw[Nat.zero_mul,Nat.add_zero,Nat.or_zero]
   refine⟨rfl,hx,fun q hq=>?_⟩
   split
   · next e=>rw[e];exact h0
   rfl
 rw[Nat.one_mul];exact byte_bit x hx p hp h0

def room (n:Nat) (out:List Nat):List Nat:=if n%8=0 then out++[0] else out

def pack (hi:Bool) (f:Nat→Nat):Nat→List Nat
 | 0=>[]
 | n+1=>(room n (pack hi f n)).set (n / 8) ((room n (pack hi f n)).getD (n / 8) 0+f n*2^Bg.spot hi n)

theorem pack_len (hi:Bool) (f:Nat→Nat):∀n,(pack hi f n).length=(n+7) / 8:=by
 intro n
 induction n with
 | zero=>rfl
 | succ n ih=>
  simp only[pack,List.length_set,room]
  split
  · rw[List.length_append,ih];simp;omega
  rw[ih];omega

theorem room_len (hi:Bool) (f:Nat→Nat) (n:Nat):(room n (pack hi f n)).length=n / 8+1:=by
 unfold room
 split
 · rw[List.length_append,pack_len];simp;omega
 rw[pack_len];omega

theorem spot_inj (hi:Bool) (i n:Nat) (h:i / 8=n / 8) (g:Bg.spot hi i=Bg.spot hi n):i=n:=by
 unfold Bg.spot at g
 split at g<;>omega

structure Inv (hi:Bool) (f:Nat→Nat) (n:Nat) (o:List Nat):Prop where
 byte:∀j,o.getD j 0<256
 bit:∀i,i / 8<o.length→o.getD (i / 8) 0 / 2^Bg.spot hi i%2=if i<n then f i else 0

theorem getD_snoc (o:List Nat) (j:Nat):(o++[0]).getD j 0=o.getD j 0:=by
 rw[List.getD_eq_getElem?_getD,List.getD_eq_getElem?_getD]
 by_cases h:j<o.length
 · rw[List.getElem?_append_left h]
 rw[List.getElem?_append_right (by omega),List.getElem?_eq_none (l:=o) (by omega)]
 rcases (by omega:j-o.length=0∨0<j-o.length) with e|e
 · rw[e];rfl
 rw[List.getElem?_eq_none (by simp;omega)]

theorem inv_room (hi:Bool) (f:Nat→Nat) (n:Nat) (o:List Nat) (hl:o.length=(n+7) / 8) (h:Inv hi f n o):Inv hi f n (room n o):=by
 unfold room
 split
 · next e=>
   refine⟨fun j=>by rw[getD_snoc];exact h.byte j,fun i hi'=>?_⟩
   rw[getD_snoc]
   by_cases g:i / 8<o.length
   · exact h.bit i g
   rw[List.getD_eq_getElem?_getD,List.getElem?_eq_none (by omega)]
   rw[List.length_append] at hi'
   simp at hi'
   rw[if_neg (by omega)]
   simp
 exact h

theorem getD_set (o:List Nat) (j k x:Nat) (hj:j<o.length):(o.set j x).getD k 0=if j=k then x else o.getD k 0:=by
 rw[List.getD_eq_getElem?_getD,List.getElem?_set]
 split
 · first|rfl|(rw[if_pos (by omega)];rfl)
 rw[List.getD_eq_getElem?_getD]

theorem inv (hi:Bool) (f:Nat→Nat) (hf:∀i,f i<2):∀n,Inv hi f n (pack hi f n):=by
 intro n
 induction n with
 | zero=>exact⟨fun j=>by simp[pack],fun i h=>by simp[pack] at h⟩
 | succ n ih=>
  have hr:=inv_room hi f n _ (pack_len hi f n) ih
  have hl:=room_len hi f n
  simp only[pack]
  generalize room n (pack hi f n)=o at*
  have h0:=hr.bit n (by omega)
  rw[if_neg (by omega)] at h0
  have hs:=Bg.spot_le hi n
  obtain⟨_,s2,s3⟩:=byte_step (o.getD (n / 8) 0) (Bg.spot hi n) (f n) (hr.byte _) (by omega) (hf n) h0
  refine⟨fun j=>?_,fun i hi'=>?_⟩
  · rw[getD_set _ _ _ _ (by omega)]
    split
    · exact s2
    exact hr.byte j
  rw[List.length_set] at hi'
  rw[getD_set _ _ _ _ (by omega)]
  have hq:=Bg.spot_le hi i
  split
  · next e=>
    rw[s3 _ (by omega)]
    by_cases g:i=n
    · subst g;rw[if_pos rfl,if_pos (by omega)]
    rw[if_neg (fun k=>g (spot_inj hi i n e.symm k)),e,hr.bit i hi']
    by_cases l:i<n
    · rw[if_pos l,if_pos (by omega)]
    rw[if_neg l,if_neg (by omega)]
  next e=>
  rw[hr.bit i hi']
  by_cases l:i<n
  · rw[if_pos l,if_pos (by omega)]
  have:¬i=n:=fun k=>e (by rw[k])
  rw[if_neg l,if_neg (by omega)]

theorem step_facts (hi:Bool) (f:Nat→Nat) (hf:∀i,f i<2) (n:Nat):
 let x:=(room n (pack hi f n)).getD (n / 8) 0
 x<256∧x+f n*2^Bg.spot hi n<256∧x ||| f n*2^Bg.spot hi n=x+f n*2^Bg.spot hi n:=by
 have hr:=inv_room hi f n _ (pack_len hi f n) (inv hi f hf n)
 have hl:=room_len hi f n
 have h0:=hr.bit n (by omega)
 rw[if_neg (by omega)] at h0
 have hs:=Bg.spot_le hi n
 obtain⟨s1,s2,_⟩:=byte_step _ (Bg.spot hi n) (f n) (hr.byte (n / 8)) (by omega) (hf n) h0
 exact⟨hr.byte _,s2,s1⟩

def bitIn (hi:Bool) (v s k:Nat):Nat:=v / 2^(if hi then s-1-k else k)%2
theorem bitIn_lt (hi:Bool) (v s k:Nat):bitIn hi v s k<2:=Nat.mod_lt _ (by omega)

def Ok (p:Int×Int):Prop:=0≤p.2∧p.2≤24∧0≤p.1∧p.1.toNat<2^p.2.toNat
def okB (p:Int×Int):Bool:=decide (0≤p.2∧p.2≤24∧0≤p.1∧p.1.toNat<2^p.2.toNat)
theorem okB_true {p:Int×Int} (h:Ok p):okB p=true:=by unfold okB;unfold Ok at h;exact decide_eq_true h
theorem okB_false {p:Int×Int} (h:¬Ok p):okB p=false:=by unfold okB;unfold Ok at h;exact decide_eq_false h
theorem okB_ok {p:Int×Int} (h:okB p=true):Ok p:=by unfold okB at h;unfold Ok;exact of_decide_eq_true h

def bitsOf (hi:Bool) (l:List (Int×Int)):List Nat:=l.flatMap fun p=>(List.range p.2.toNat).map fun k=>bitIn hi p.1.toNat p.2.toNat k
def fOf (hi:Bool) (l:List (Int×Int)) (i:Nat):Nat:=(bitsOf hi l).getD i 0
def tot (l:List (Int×Int)) (i:Nat):Nat:=((l.take i).map fun p=>p.2.toNat).sum

theorem bitsOf_lt (hi:Bool) (l:List (Int×Int)):∀x∈bitsOf hi l,x<2:=by
 intro x hx
 unfold bitsOf at hx
 rw[List.mem_flatMap] at hx
 obtain⟨p,_,hp⟩:=hx
 rw[List.mem_map] at hp
 obtain⟨k,_,rfl⟩:=hp
 exact bitIn_lt _ _ _ _

theorem fOf_lt (hi:Bool) (l:List (Int×Int)) (i:Nat):fOf hi l i<2:=by
 unfold fOf
 rw[List.getD_eq_getElem?_getD]
 by_cases h:i<(bitsOf hi l).length
 · rw[List.getElem?_eq_getElem h];exact bitsOf_lt hi l _ (List.getElem_mem h)
 rw[List.getElem?_eq_none (by omega)];simp

theorem tot_succ (l:List (Int×Int)) (i:Nat) (h:i<l.length):tot l (i+1)=tot l i+(l[i]).2.toNat:=by
 unfold tot
 rw[List.take_succ_eq_append_getElem h,List.map_append,List.sum_append]
 simp

theorem fOf_at (hi:Bool):∀(l:List (Int×Int)) (i k:Nat) (h:i<l.length),k<(l[i]).2.toNat→fOf hi l (tot l i+k)=bitIn hi (l[i]).1.toNat (l[i]).2.toNat k:=by
 intro l
 induction l with
 | nil=>intro i k h;simp at h
 | cons p l ih=>
  intro i k h hk
  have hb:bitsOf hi (p::l)=((List.range p.2.toNat).map fun k=>bitIn hi p.1.toNat p.2.toNat k)++bitsOf hi l:=by simp[bitsOf]
  cases i with
  | zero=>
   simp only[List.getElem_cons_zero] at hk ⊢
   unfold fOf
   rw[hb,List.getD_eq_getElem?_getD]
   have:tot (p::l) 0+k=k:=by simp[tot]
   rw[this,List.getElem?_append_left (by simpa using hk)]
   simp[hk]
  | succ i=>
   simp only[List.getElem_cons_succ] at hk ⊢
   rw[←ih i k (by simpa using h) hk]
   unfold fOf
   rw[hb,List.getD_eq_getElem?_getD,List.getD_eq_getElem?_getD]
   have e:tot (p::l) (i+1)=p.2.toNat+tot l i:=by simp[tot]
   rw[List.getElem?_append_right (by simp[e];omega)]
   congr 2
   simp[e]
   omega

def Fits (l:List (Int×Int)) (i:Nat):Prop:=∀j (h:j<l.length),j<i→Ok l[j]∧tot l (j+1)≤72000

theorem fits_zero (l:List (Int×Int)):Fits l 0:=fun _ _ h=>by omega
theorem fits_succ {l:List (Int×Int)} {i:Nat} (hl:i<l.length) (h:Fits l i) (ho:Ok l[i]) (ht:tot l (i+1)≤72000):Fits l (i+1):=by
 intro j hj hji
 by_cases e:j<i
 · exact h j hj e
 have:j=i:=by omega
 subst this;exact⟨ho,ht⟩
theorem fits_not {l:List (Int×Int)} {i n:Nat} (hn:i<n) (hl:i<l.length) (h:¬(Ok l[i]∧tot l (i+1)≤72000)):¬Fits l n:=fun g=>h (g i hl hn)
def text (hi:Bool) (l:List (Int×Int)):List Nat:=pack hi (fOf hi l) (tot l l.length)
end Bp

def Bp.answer (hi:Bool) (l:List (Int×Int)):List Nat:=if (∀j (h:j<l.length),Bp.okB l[j]=true∧Bp.tot l (j+1)≤72000) then Bp.text hi l else []

theorem Bp.answer_yes {hi:Bool} {l:List (Int×Int)} (h:Bp.Fits l l.length):Bp.answer hi l=Bp.text hi l:=by
 unfold Bp.answer
 rw[if_pos (fun j hj=>⟨Bp.okB_true (h j hj hj).1,(h j hj hj).2⟩)]
theorem Bp.answer_no {hi:Bool} {l:List (Int×Int)} (h:¬Bp.Fits l l.length):Bp.answer hi l=[]:=by
 unfold Bp.answer
 rw[if_neg (fun g=>h (fun j hj _=>⟨Bp.okB_ok (g j hj).1,(g j hj).2⟩))]

namespace Pt

def low:Nat→Nat→List UInt8
 | _,0=>[]
 | n,k+1=>UInt8.ofNat (n%256)::low (n / 256) k

theorem low_len:∀(k n:Nat),(low n k).length=k:=by
 intro k
 induction k with
 | zero=>intro n;rfl
 | succ k ih=>intro n;simp[low,ih]

theorem low_snoc:∀(k n:Nat),low n (k+1)=low n k++[UInt8.ofNat (n / 256^k%256)]:=by
 intro k
 induction k with
 | zero=>intro n;simp[low]
 | succ k ih=>
  intro n
  show UInt8.ofNat (n%256)::low (n / 256) (k+1)=_
  rw[ih (n / 256),Nat.div_div_eq_div_mul]
  simp only[low,List.cons_append]
  rw[Nat.pow_succ,Nat.mul_comm 256]

end Pt
open Go.RowKit

set_option maxHeartbeats 400000 in
theorem l5Least_any (a b:Nat) (w:World):
 Calls Tryz.prog 106 #[.int .i64 (a:Int),.int .i64 (b:Int)] w fun e w'=>e=.returned (.int .i64 ((min a b:Nat):Int))∧w'=w:=by
 by_cases h:a<b
 · have hi:(a:Int)<(b:Int):=by omega
   have HE:Hid (min a b=a):=by show _=_;omega
   go_enter Tryz.func106,Tryz.ntmps106
   go_wp2_with fail
   go_ret
   exact⟨by rw[HE.out];rfl,rfl⟩
 have hi:¬(a:Int)<(b:Int):=by omega
 have HE:Hid (min a b=b):=by show _=_;omega
 go_enter Tryz.func106,Tryz.ntmps106
 go_wp2_with fail
 go_ret
 exact⟨by rw[HE.out];rfl,rfl⟩

set_option maxHeartbeats 2000000 in
set_option maxRecDepth 20000 in
theorem l5Alike_any (a:Option Addr) (L cap p:Nat) (l:List Int) (w:World) (h:Ints w a l) (hL:l.length=L) (hLb:L≤1000) (hp:p<L):
 Calls Tryz.prog 105 #[.slice a L cap,.int .i64 (p:Int)] w fun e w'=>e=.returned (.int .i64 ((Df.alike l p:Nat):Int))∧∃q,w'=w.drewN q:=by
 obtain⟨b,off,rfl,hb,hcp⟩:=h.at (show p<l.length by omega)
 have HC:Hid (∀i (hi:i<l.length),w.cell? ⟨b,off+i,none⟩=some (.int .i64 l[i])):=by
  rcases h with e|⟨b',off',e',_,h3⟩
  · rw[e] at hL;simp at hL;omega
  cases e';exact h3
 have HL:Hid (l.length=L):=hL
 have hpi:(p:Int)<(L:Int):=by omega
 have hv:l[p]=l.getD p 0:=by rw[List.getD_eq_getElem?_getD,List.getElem?_eq_getElem (by omega)];rfl
 rw[hv] at hcp
 obtain⟨v,hve⟩:∃v,v=l.getD p 0:=⟨_,rfl⟩
 rw[←hve] at hcp
 have HV:Hid (v=l.getD p 0):=hve
 clear h hL hv hve
 go_enter Tryz.func105,Tryz.ntmps105
 go_wp2_with fail
 go_loopw [5] (fun i wr=>∃n q:Nat,1≤n∧p+n≤L∧i=.int .i64 (n:Int)∧Hid (Df.alike l p=n+((l.drop (p+n)).takeWhile (fun z=>z==l.getD p 0)).length)∧Hid (wr=w.drewN q)) (fun i _=>L-(intOf i).toNat)
 case atStart=>exact⟨1,0,by omega,by omega,rfl,rfl,rfl⟩
 case round=>
  obtain⟨n,q,hn1,hpn,rfl,HM,HW⟩:=hrel
  obtain⟨P,hP⟩:∃P,P=p+n:=⟨_,rfl⟩
  have eP:(p:Int)+(n:Int)=(P:Int):=by omega
  have fP:=wrap_i64_nat P (by omega)
  have cp:wr.cell? ⟨b,off+p,none⟩=some (.int .i64 v):=by rw[HW.out];exact hcp
  by_cases h2:P<L
  · have d2:decide ((P:Int)<(L:Int))=true:=decide_eq_true (by omega)
    have hPi:(P:Int)<(L:Int):=by omega
    have hPl:P<l.length:=by rw[HL.out];exact h2
    have cP:wr.cell? ⟨b,off+P,none⟩=some (.int .i64 l[P]):=by rw[HW.out];exact HC.out P hPl
    have hPn:p+(n+1)≤L:=by omega
    by_cases h3:l[P]=v
    · have HM2:Hid (Df.alike l p=(n+1)+((l.drop (p+(n+1))).takeWhile (fun z=>z==l.getD p 0)).length):=by
       show _=_
       subst hP
       rw[HM.out,Df.alike_step hPl (by rw[h3,HV.out])]
       omega
      rw[h3] at cP
      have d3:(v==v)=true:=beq_self_eq_true v
      clear h3 hP HM
      go_wp2_with fail
      go_quiet (fail)
      go_wp2_with fail
      go_roundw
      case rel=>exact⟨n+1,q+nq,by omega,by omega,by go_num,HM2,by show _=_;rw[HW.out,World.drewN_drewN]⟩
      case measure=>simp[intOf];omega
    have HM2:Hid (Df.alike l p=n):=by
     show _=_
     subst hP
     rw[HM.out,Df.alike_stop (fun _=>by rw[←HV.out];exact h3)]
     rfl
    obtain⟨u,hu⟩:∃u,u=l[P]:=⟨_,rfl⟩
    rw[←hu] at cP h3
    have d3:(u==v)=false:=beq_eq_false_iff_ne.2 h3
    clear h3 hP HM hu
    go_wp2_with fail
    go_quiet (fail)
    go_wp2_with fail
    go_ret
    exact⟨by rw[HM2.out];rfl,q+nq,by rw[HW.out,World.drewN_drewN]⟩
  have d2:decide ((P:Int)<(L:Int))=false:=decide_eq_false (by omega)
  have HM2:Hid (Df.alike l p=n):=by
   show _=_
   subst hP
   rw[HM.out,Df.alike_stop (fun h=>by rw[HL.out] at h;omega)]
   rfl
  clear hP HM
  go_wp2_with fail
  go_quiet (fail)
  go_wp2_with fail
  go_ret
  exact⟨by rw[HM2.out];rfl,q+nq,by rw[HW.out,World.drewN_drewN]⟩

set_option maxHeartbeats 2000000 in
set_option maxRecDepth 20000 in
theorem l5Used_any (b off L cap least:Nat) (l:List Int) (w:World) (h:∀i (hi:i<l.length),w.cell? ⟨b,off+i,none⟩=some (.int .i64 l[i])) (hL:l.length=L) (hLb:L≤1000) (hle:least≤1000) (hl0:1≤least):
 Calls Tryz.prog 79 #[.slice (some ⟨b,off,none⟩) L cap,.int .i64 (least:Int)] w fun e w'=>e=.returned (.int .i64 ((Df.used l least:Nat):Int))∧∃q,w'=w.drewN q:=by
 have HC:Hid (∀i (hi:i<l.length),w.cell? ⟨b,off+i,none⟩=some (.int .i64 l[i])):=h
 have HL:Hid (l.length=L):=hL
 clear h hL
 go_enter Tryz.func79,Tryz.ntmps79
 go_wp2_with fail
 go_loopw [5] (fun i wr=>∃n q:Nat,n≤L∧i=.int .i64 (n:Int)∧Hid (Df.used l least=Df.usedF l least n)∧Hid (wr=w.drewN q)) (fun i _=>(intOf i).toNat)
 case atStart=>exact⟨L,0,Nat.le_refl _,rfl,by show _=_;unfold Df.used;rw[HL.out],rfl⟩
 case round=>
  obtain⟨n,q,hn,rfl,HM,HW⟩:=hrel
  by_cases h2:least<n
  · obtain⟨n',rfl⟩:∃n',n=n'+1:=⟨n-1,by omega⟩
    obtain⟨n1,hn1⟩:∃n1,n1=n'+1:=⟨_,rfl⟩
    rw[←hn1] at h2 hn HM
    have d2:decide ((n1:Int)>(least:Int))=true:=decide_eq_true (by omega)
    have h2i:(least:Int)<(n1:Int):=by omega
    have em:(n1:Int)-1=(n':Int):=by omega
    have em2:((n'+1:Nat):Int)=(n1:Int):=by omega
    rw[em2]
    have hnl:n'<l.length:=by rw[HL.out];omega
    have hni:(n':Int)<(L:Int):=by omega
    have cP:wr.cell? ⟨b,off+n',none⟩=some (.int .i64 l[n']):=by rw[HW.out];exact HC.out n' hnl
    have hg:l.getD n' 0=l[n']:=by rw[List.getD_eq_getElem?_getD,List.getElem?_eq_getElem hnl];rfl
    by_cases h3:l[n']=0
    · have HM2:Hid (Df.used l least=Df.usedF l least n'):=by
       show _=_
       rw[HM.out,hn1]
       show (if least<n'+1∧l.getD n' 0=0 then _ else _)=_
       rw[if_pos ⟨by omega,by rw[hg];exact h3⟩]
      rw[h3] at cP
      clear h3 HM hg hn1
      go_wp2_with fail
      first|(go_quiet (fail);go_wp2_with fail)|skip
      go_roundw
      case rel=>exact⟨n',_,by omega,by go_num,HM2,by show _=_;rw[HW.out]⟩
      case measure=>simp[intOf];omega
    have HM2:Hid (Df.used l least=n1):=by
     show _=_
     rw[HM.out,hn1]
     show (if least<n'+1∧l.getD n' 0=0 then _ else _)=_
     rw[if_neg (fun h=>h3 (by rw[←hg];exact h.2))]
    obtain⟨u,hu⟩:∃u,u=l[n']:=⟨_,rfl⟩
    rw[←hu] at cP h3
    have d3:(u==0)=false:=beq_eq_false_iff_ne.2 h3
    clear HM hg hn1 hu
    go_wp2_with fail
    go_ret
    exact⟨by rw[HM2.out];rfl,q,by rw[HW.out]⟩
  have d2:decide ((n:Int)>(least:Int))=false:=decide_eq_false (by omega)
  have h2i:¬(least:Int)<(n:Int):=by omega
  have HM2:Hid (Df.used l least=n):=by
   show _=_
   rw[HM.out]
   cases n with
   | zero=>rfl
   | succ n'=>
    show (if least<n'+1∧l.getD n' 0=0 then _ else _)=_
    rw[if_neg (fun h=>h2 h.1)]
  clear HM
  go_wp2_with fail
  go_ret
  exact⟨by rw[HM2.out];rfl,q,by rw[HW.out]⟩
end Go.Proofs.YtejebodgfoihkaaGreat
namespace Go.Proofs.YtejebodgfoihkaaGreat
open Go.RowKit Go.Shelf

attribute [local go_sem] Oper.semAt_some

def BsY (P:Nat→Prop) (n₀:Nat) (W W':World):Prop:=W.heap.size≤W'.heap.size∧∀k,k<n₀→¬P k→W'.heap[k]?=W.heap[k]?
theorem BsY.trans {P:Nat→Prop} {n₀:Nat} {A B C:World} (h:BsY P n₀ A B) (k:BsY P n₀ B C):BsY P n₀ A C:=⟨Nat.le_trans h.1 k.1,fun i hi ho=>(k.2 i hi ho).trans (h.2 i hi ho)⟩
theorem BsY.of {P:Nat→Prop} {n₀:Nat} {A B:World} (h:Below n₀ A B):BsY P n₀ A B:=⟨h.size,fun i hi _=>h.block i hi⟩
theorem BsY.book {P:Nat→Prop} {n₀:Nat} {w:World} (hn:n₀≤w.heap.size) (W:World) (l:Nat) (x x':Obj) (hl:w.heap.size≤l) (h:W.heap[l]?=some x) (h1:x.isCells=false) (h2:x.isWalk=false):BsY P n₀ W (W.putObj l x'):=.of (belowK_b hn W l x x' hl h h1 h2)

def bkTo (ps:List Nat):Nat→List (Nat×Nat)
 | 0=>[]
 | k+1=>(k,ps.getD k 0)::bkTo ps k
theorem bkTo_snd:∀(ps:List Nat) (k:Nat),k≤ps.length→(bkTo ps k).map Prod.snd=(ps.take k).reverse
 | ps,0,_=>by simp[bkTo]
 | ps,k+1,h=>by
  rw[bkTo,List.map_cons,bkTo_snd ps k (by omega),List.take_succ_eq_append_getElem (by omega),List.reverse_append,List.getD_eq_getElem?_getD,List.getElem?_eq_getElem (by omega)]
  rfl
theorem bkTo_len (ps:List Nat):∀k,(bkTo ps k).length=k
 | 0=>rfl
 | k+1=>by rw[bkTo,List.length_cons,bkTo_len ps k]

structure HeldY (W:World) (a:Option Addr) (Bs g cap N:Nat) (ps:List Nat):Prop where
 box:W.cell? ⟨Bs,0,none⟩=some (.slice a N cap)
 lies:∀i,i<N→W.cell? ⟨g,i,none⟩=some (.int .i64 (ps.getD i 0:Int))
theorem HeldY.kept {W W':World} {a:Option Addr} {Bs g cap N n₀:Nat} {ps:List Nat} {P:Nat→Prop} (h:HeldY W a Bs g cap N ps) (hb:BsY P n₀ W W') (h1:Bs<n₀) (h2:N=0∨g<n₀) (o1:¬P Bs) (o2:N=0∨¬P g):HeldY W' a Bs g cap N ps:=
 ⟨(World.cell?_of_block (w:=W) (a:=⟨Bs,0,none⟩) (hb.2 _ h1 o1)).trans h.box,
  fun i hi=>(World.cell?_of_block (w:=W) (a:=⟨g,i,none⟩) (hb.2 _ (show g<n₀ by omega) (by rcases o2 with o2|o2;(exfalso;omega);exact o2))).trans (h.lies i hi)⟩

set_option maxRecDepth 100000 in
set_option maxHeartbeats 4000000 in
theorem backward1_in (n:Nat) (hn:1≤n) (a:Option Addr) (l Bs g cap N n₀:Nat) (P:Nat→Prop) (ps:List Nat) (A:Nat) (hps:∀i,i<N→ps.getD i 0<A) (h1:Bs<n₀) (h2:N=0∨g<n₀) (o1:¬P Bs) (o2:N=0∨¬P g)
 (hNb:N≤100000) (ha:N=0∨a=some ⟨g,0,none⟩) (J Jx:List (Nat×Nat)→World→Prop)
 (W:World)
 (hY:∀pre x W,x.2<A→J pre W→pre.length<N→YieldAt Fence.wide (n-1) Tryz.prog l #[.int .i64 (x.1:Int),.int .i64 (x.2:Int)] W fun e W'=>
  (e=.returned (.bool true)∧J (pre++[x]) W'∧BsY P n₀ W W')∨(e=.returned (.bool false)∧Jx (pre++[x]) W'))
 (hH:HeldY W a Bs g cap N ps) (h0:J [] W):
 CallsIn Fence.wide n Tryz.prog 92 #[.func (.yield l) #[] #[],.pointer (some ⟨Bs,0,none⟩)] W fun e W'=>(∃v,e=.returned v)∧
  ((∃ys,ys=bkTo ps N∧J ys W')∨(∃pre,pre <+: bkTo ps N∧Jx pre W')):=by
 have hro:Fence.wide.round=none:=rfl
 have HY:Hid (∀(pre:List (Nat×Nat)) (x:Nat×Nat) (W:World),x.2<A→J pre W→pre.length<N→YieldAt Fence.wide (n-1) Tryz.prog l #[.int .i64 (x.1:Int),.int .i64 (x.2:Int)] W fun e W'=>
  (e=.returned (.bool true)∧J (pre++[x]) W'∧BsY P n₀ W W')∨(e=.returned (.bool false)∧Jx (pre++[x]) W')):=hY
 have HPS:Hid (∀i,i<N→ps.getD i 0<A):=hps
 clear hY hps
 refine callsIn_of_wp Tryz.func92 rfl trivial ?_ hro
 simp only[Tryz.ntmps92,List.size_toArray,List.length_cons,List.length_nil,Nat.reduceAdd,Nat.reduceSub,Array.replicate_succ,Array.replicate_zero,List.push_toArray,List.append_toArray,List.nil_append,List.cons_append]
 have hbx:=hH.box
 gi_wp2
 gi_loopw [3] (fun i wr=>∃(k:Nat) (pre:List (Nat×Nat)),k≤N∧i=.int .i64 ((k:Int)-1)∧Hid (bkTo ps N=pre++bkTo ps k)∧J pre wr∧HeldY wr a Bs g cap N ps)
  (fun i _=>(intOf i+1).toNat)
 case atStart=>exact⟨N,[],Nat.le_refl _,by go_num,rfl,h0,hH⟩
 case round=>
  obtain⟨k,pre,hk,rfl,HX,hJk,hHk⟩:=hrel
  obtain⟨c1,hL⟩:=id hHk
  by_cases hlt:0<k
  · obtain⟨j,rfl⟩:∃j,k=j+1:=⟨k-1,by omega⟩
    have ej:((j+1:Nat):Int)-1=(j:Int):=by omega
    rw[ej]
    obtain rfl:a=some ⟨g,0,none⟩:=by
     rcases ha with h|h
     · omega
     exact h
    have hjN:j<N:=by omega
    have hjNi:(j:Int)<(N:Int):=by omega
    have cj:=hL j hjN
    have hpj:=HPS.out j hjN
    have hlen:pre.length<N:=by
     have e:=congrArg List.length HX.out
     rw[List.length_append,bkTo_len,bkTo_len] at e
     omega
    have HX2:Hid (bkTo ps N=(pre++[(j,ps.getD j 0)])++bkTo ps j):=by
     show _=_
     rw[HX.out,bkTo];simp
    generalize ps.getD j 0=p at*
    clear HX hL HPS
    obtain⟨fn,tmps,assign,body,hy,hR⟩:=HY.out pre (j,p) _ hpj hJk hlen
    dsimp only at hy
    gi_wp2
    refine hR.mono ?_
    rintro e W3 (⟨rfl,hJ3,hk3⟩|⟨rfl,hJx3⟩)
    · have hH3:=hHk.kept hk3 h1 h2 o1 o2
      gi_wp2
      go_roundw
      case rel=>exact⟨j,_,by omega,by go_num,HX2,hJ3,hH3⟩
      case measure=>simp[intOf]
    gi_wp2
    refine bodyPost_ret (results_none rfl _ _ _) rfl ?_
    exact⟨⟨_,rfl⟩,.inr ⟨_,⟨_,HX2.out.symm⟩,hJx3⟩⟩
  obtain rfl:k=0:=by omega
  gi_wp2
  go_end0
  exact⟨⟨_,rfl⟩,.inl ⟨_,by rw[HX.out];simp[bkTo],hJk⟩⟩

abbrev BkS (A:Nat):={x:Nat×Nat // x.2<A}
theorem backward_stops (n:Nat) (hn:1≤n) (a:Option Addr) (Bs g cap N n₀:Nat) (P:Nat→Prop) (ps:List Nat) (A:Nat) (w:World) (hps:∀i,i<N→ps.getD i 0<A) (h1:Bs<n₀) (h2:N=0∨g<n₀) (o1:¬P Bs) (o2:N=0∨¬P g) (hn₀:n₀≤w.heap.size)
 (hNb:N≤100000) (ha:N=0∨a=some ⟨g,0,none⟩) (hH:HeldY w a Bs g cap N ps):
 SeqStopsK Fence.wide n Tryz.prog 92 #[.pointer (some ⟨Bs,0,none⟩)] (fun x:BkS A=>#[Value.int .i64 (x.1.1:Int),Value.int .i64 (x.1.2:Int)]) (BsY P n₀)
  (fun ys=>ys.map Subtype.val=bkTo ps N) (fun pre=>pre.map Subtype.val <+: bkTo ps N) N w:=by
 intro l J Jx W hW hJ _ hY h0
 refine (backward1_in n hn a l Bs g cap N n₀ P ps A hps h1 h2 o1 o2 hNb ha
  (fun pre W=>∃p:List (BkS A),p.map Subtype.val=pre∧J p W) (fun pre W=>∃p:List (BkS A),p.map Subtype.val=pre∧Jx p W) W ?_ ?_ ⟨[],rfl,h0⟩).mono ?_
 · rintro pre x W1 hx ⟨p,rfl,hj⟩ hlen
   obtain⟨fn,tmps,assign,body,hy,hR⟩:=hY p ⟨x,hx⟩ W1 hj (by simpa using hlen)
   refine⟨fn,tmps,assign,body,hy,hR.mono ?_⟩
   rintro e W' (⟨rfl,h2,h3⟩|⟨rfl,h2⟩)
   · exact .inl ⟨rfl,⟨p++[⟨x,hx⟩],by simp,h2⟩,h3⟩
   exact .inr ⟨rfl,⟨p++[⟨x,hx⟩],by simp,h2⟩⟩
 · exact hH.kept (BsY.of (P:=P) (hW.mono hn₀)) h1 h2 o1 o2
 rintro e W' ⟨hv,h⟩
 refine⟨hv,?_⟩
 rcases h with⟨ys,hy,p,hp,hj⟩|⟨pre,hpre,p,hp,hj⟩
 · exact .inl ⟨p,hp.trans hy,hj⟩
 exact .inr ⟨p,by show p.map Subtype.val <+: _;rw[hp];exact hpre,hj⟩
end Go.Proofs.YtejebodgfoihkaaGreat
namespace Go.Proofs.YtejebodgfoihkaaGreat
open Go.ChangeMaps Go.MapKept Go.ChangeShapes Go.RowKit
open Go.WideElems (Fit rd rg pl rd_val rd_key rg_of elemAt entry_then_store)
open Go.Maps (Keyed fit_rising)
open Go.WideShapes (atKey_sorted)
open Go.WideMaps (KeyLaw)

section
variable {H:Type} {P:Program} {k:TypeId} {w w':World} {base:Nat} {e:TypeId} {q:IntKind} {b n:Nat} {D:DataW H}

theorem ownsInts_same {v:Value} {zs:List Int} (h:w.ownsInts base e q v zs) (hk:∀(j:Nat) (cs:Array Value) (fr:Nat×Nat),w.heap[j]?=some (Obj.cells cs e fr)→w'.heap[j]?=some (Obj.cells cs e fr)):w'.ownsInts base e q v zs:=by
 refine⟨⟨h.1.1,?_⟩,h.2⟩
 rcases h.1.2 with h2|⟨g,cap,cur,hv,hg,hh,r⟩
 · exact .inl h2
 exact .inr ⟨g,cap,cur,hv,hg,hk g _ _ hh,r⟩
theorem ownsGroups_same (h:w.ownsGroups P k base e q b n D) (hb':w'.heap[b]?=w.heap[b]?) (hk:∀(j:Nat) (cs:Array Value) (fr:Nat×Nat),w.heap[j]?=some (Obj.cells cs e fr)→w'.heap[j]?=some (Obj.cells cs e fr)):w'.ownsGroups P k base e q b n D:=by
 obtain⟨es,clock,hb,F,hs,rfl,hbb,hlen,hap⟩:=h
 have hst:∀x∈es.toList,∀z,rowElem (H:=H) w base e q x.val=some z→rowElem w' base e q x.val=some z:=fun x hx z hz=>by
  obtain⟨zs,ho,rfl⟩:=rowElem_inv hz
  exact rowElem_mk (ownsInts_same ho hk)
 obtain⟨F1,hmap,_⟩:=F.stay hst
 refine⟨es,clock,hb'.trans hb,F1,hs,by rw[hmap],hbb,fun x hx zs ho=>?_,hap⟩
 obtain⟨y,hy⟩:=F.reads x hx
 obtain⟨z,hz,_⟩:=rd_val hy
 obtain⟨zs0,ho0,_⟩:=rowElem_inv hz
 rw[ho.unique (ownsInts_same ho0 hk)]
 exact hlen x hx zs0 ho0

set_option maxHeartbeats 1000000 in
theorem groups_entry {t E:TypeId} {key:Value} {kl:Lit} (h:w.ownsGroups P k base e q b n D) (KL:KeyLaw P k) (ht:P.underlying t=some (.map k E)) (hz:∀u:World,(zeroValue E).run P u=.ok (.slice none 0 0) u) (hn:n<maxLen) (hkey:keyOf P k key=some kl):
 ∃v0 st zs wA,(Instr.mapEntry t (.map (some b)) key).run P w=.ok (.tuple #[v0,goInt (st:Nat)]) wA∧D.atKey kl .nil=rowDatum q v0 zs∧wA.ownsInts base e q v0 zs∧zs.length≤n∧w.grownBy wA (some b)∧v0.ownBlock≠some b∧(∃(es1:Array MapEntry) (clock1:Nat),wA.heap[b]?=some (.map es1 clock1))∧
  ∀(wB:World) (v':Value) (zs':List Int),wA.grownBy wB v0.ownBlock→wB.ownsInts base e q v' zs'→zs'.length≤n+1→(v'.ownBlock=v0.ownBlock∨∃g,v'.ownBlock=some g∧w.heap.size≤g)→
   ∃wC,(Instr.entryStore t (.map (some b)) (goInt st) v').run P wB=.ok () wC∧wC.ownsGroups P k base e q b (n+1) (D.put kl (rowDatum q v' zs'))∧wB.grownBy wC (some b):=by
 have K:Keyed P k:=Keyed.of_law KL
 obtain⟨es,clock,hb,F,hs,rfl,hbb,hlen,hap⟩:=h
 have hblt:b<w.heap.size:=(Array.getElem?_eq_some_iff.1 hb).1
 have owned:∀x∈es.toList,∃zs,w.ownsInts base e q x.val zs:=fun x hx=>by
  obtain⟨y,hy⟩:=F.reads x hx
  obtain⟨z,hz,_⟩:=rd_val hy
  obtain⟨zs,ho,_⟩:=rowElem_inv hz
  exact⟨zs,ho⟩
 obtain⟨v0,st,es1,clock1,hrun,hcase,hstore⟩:=entry_then_store KL ht hz hb F hkey
 have hA:w.grownBy (setBlock w b (.map es1 clock1)) (some b):=⟨rfl,rfl,rfl,by simp[setBlock],fun i _ hi=>heap_setBlock_other hb _ (fun e1=>hi (by rw[e1]))⟩
 have hb1:(setBlock w b (.map es1 clock1)).heap[b]?=some (.map es1 clock1):=heap_setBlock_same hb _
 have hlook:=Maps.fit_look false K ht (hz w) hb F hkey
 -- what the entry holds
 have hv:∃zs,DataW.atKey (.map ((es.toList.map (rg P k (rowElem (H:=H) w base e q))).foldr DataW.insert [])) kl .nil=rowDatum q v0 zs∧w.ownsInts base e q v0 zs∧zs.length≤n∧(∀x∈es.toList,x.key≠key→x.val.ownBlock=none∨x.val.ownBlock≠v0.ownBlock)∧v0.ownBlock≠some b:=by
  rcases hcase with⟨e1,he1,hk1,rfl⟩|⟨hno,rfl⟩
  · obtain⟨y0,hy0⟩:=F.reads e1 he1
    obtain⟨zv,hzv,hd⟩:=rd_val hy0
    have m0:=rd_key hy0
    rw[hk1,hkey] at m0
    have hat:=(atKey_sorted (es.toList.map (rg P k (rowElem (H:=H) w base e q))) (fit_rising K F) kl (K.key hkey)).2 (rg P k (rowElem (H:=H) w base e q) e1) (List.mem_map.2 ⟨e1,he1,rfl⟩) (by rw[rg_of hy0];exact (Option.some.inj m0).symm)
    obtain⟨zs,ho,rfl⟩:=rowElem_inv hzv
    refine⟨zs,by rw[hat,rg_of hy0,hd],ho,hlen e1 he1 zs ho,fun x hx hne=>hap x hx e1 he1 (by rw[hk1];exact hne),fun e2=>?_⟩
    have:=(ho.1.lt b e2).1
    omega
  rcases hlook with⟨_,_,hat⟩|⟨e0,y,hm0,h3,_⟩
  · refine⟨[],hat _,World.ownsInts_nil _ _ _ _,Nat.zero_le _,fun x _ _=>?_,by simp[Value.ownBlock]⟩
    cases x.val.ownBlock<;>simp[Value.ownBlock]
  exact absurd h3 (hno e0 hm0)
 obtain⟨zs,hat,ho,hzl,hvap,hvb⟩:=hv
 refine⟨v0,st,zs,_,hrun,hat,ho.kept hA (Or.inr hvb),hzl,hA,hvb,⟨es1,clock1,hb1⟩,?_⟩
 intro wB v' zs' hg hown' hl' hloc
 have hbB:wB.heap[b]?=some (.map es1 clock1):=(hg.block b (by have:=hA.size;omega) (fun e1=>hvb e1.symm)).trans hb1
 have hgw:∀i,i<w.heap.size→some i≠some b→some i≠v0.ownBlock→wB.heap[i]?=w.heap[i]?:=fun i hi h1 h2=>(hg.block i (by have:=hA.size;omega) h2).trans (hA.block i hi h1)
 obtain⟨es',clock',hst',hup⟩:=hstore wB v' hbB
 have hs1:∀x∈es.toList,x.key≠key→∀z,rowElem (H:=H) w base e q x.val=some z→rowElem wB base e q x.val=some z:=by
  intro x hx hne z hz
  obtain⟨zs,ho,rfl⟩:=rowElem_inv hz
  have hxb:x.val.ownBlock≠some b:=fun e1=>by have:=(ho.1.lt b e1).1;omega
  exact rowElem_mk ((ho.kept hA (Or.inr hxb)).kept hg (hvap x hx hne))
 obtain⟨es2,clock2,hrun2,F',hput,_,_,hwho⟩:=Maps.fit_store (R':=rowElem wB base e q) K ht hb F (Nat.lt_of_le_of_lt hs hn) hs1 hkey (rowElem_mk hown')
 have heq:es2=es'∧clock2=clock':=by
  rw[hup] at hrun2
  have e1:setBlock w b (.map es' clock')=setBlock w b (.map es2 clock2):=by simpa using hrun2
  have e2:=heap_setBlock_same hb (.map es' clock')
  rw[e1,heap_setBlock_same hb] at e2
  simpa using e2
 obtain⟨rfl,rfl⟩:=heq
 have hg2:wB.grownBy (setBlock wB b (.map es2 clock2)) (some b):=⟨rfl,rfl,rfl,by simp[setBlock],fun i _ hi=>heap_setBlock_other hbB _ (fun e1=>hi (by rw[e1]))⟩
 have own_ne:∀{u:Value} {ys:List Int},wB.ownsInts base e q u ys→u.ownBlock=none∨u.ownBlock≠some b:=fun {u ys} ho=>by
  cases hu:u.ownBlock with
  | none=>exact Or.inl rfl
  | some g=>
   refine Or.inr (fun e1=>?_)
   have:=(ho.1.lt g hu).1
   cases e1
   omega
 have hs2:∀x∈es2.toList,∀z,rowElem (H:=H) wB base e q x.val=some z→rowElem (setBlock wB b (.map es2 clock2)) base e q x.val=some z:=by
  intro x _ z hz
  obtain⟨ys,ho,rfl⟩:=rowElem_inv hz
  exact rowElem_mk (ho.kept hg2 (own_ne ho))
 obtain⟨F2,hmap2,_⟩:=F'.stay hs2
 have old_new:∀x∈es.toList,x.key≠key→x.val.ownBlock=none∨x.val.ownBlock≠v'.ownBlock:=by
  intro x hx hne
  rcases hloc with h1|⟨g,h1,h2⟩
  · rw[h1]
    exact hvap x hx hne
  cases hx':x.val.ownBlock with
  | none=>exact Or.inl rfl
  | some gx=>
   obtain⟨ys,ho⟩:=owned x hx
   have:=(ho.1.lt gx hx').2
   refine Or.inr (fun e1=>?_)
   rw[h1] at e1
   cases e1
   omega
 have kept:∀x∈es.toList,x.key≠key→∀ys,w.ownsInts base e q x.val ys→wB.ownsInts base e q x.val ys:=fun x hx hne ys ho=>by
  have hxb:x.val.ownBlock≠some b:=fun e1=>by have:=(ho.1.lt b e1).1;omega
  exact (ho.kept hA (Or.inr hxb)).kept hg (hvap x hx hne)
 refine⟨_,hst',⟨es2,clock2,heap_setBlock_same hbB _,F2,?_,?_,hbb,?_,?_⟩,hg2⟩
 · have e1:es2.size=((es2.toList.map (rg P k (rowElem (H:=H) wB base e q))).foldr DataW.insert []).length:=by rw[length_sorted];simp
   rw[e1,hput]
   unfold putKey
   rw[length_insert]
   have e2:=List.length_filter_le (notKey kl) ((es.toList.map (rg P k (rowElem (H:=H) w base e q))).foldr DataW.insert [])
   rw[length_sorted] at e2
   simp at e2
   omega
 · rw[hmap2,DataW.put_eq,hput]
 · intro x hx ys ho
   have back:wB.ownsInts base e q x.val ys:=by
    obtain⟨y,hy⟩:=F'.reads x hx
    obtain⟨z,hz,_⟩:=rd_val hy
    obtain⟨ys',ho',_⟩:=rowElem_inv hz
    rw[ho.unique (ho'.kept hg2 (own_ne ho'))]
    exact ho'
   rcases hwho x hx with⟨hx0,hne⟩|⟨_,hval⟩
   · obtain⟨ys0,ho0⟩:=owned x hx0
     have:=hlen x hx0 ys0 ho0
     rw[back.unique (kept x hx0 hne ys0 ho0)]
     omega
   rw[hval] at back
   rw[back.unique hown']
   exact hl'
 intro x hx y hy hne
 rcases hwho x hx with⟨hx0,hxk⟩|⟨hxk,hxv⟩<;>rcases hwho y hy with⟨hy0,hyk⟩|⟨hyk,hyv⟩
 · exact hap x hx0 y hy0 hne
 · rw[hyv]
   exact old_new x hx0 hxk
 · rw[hxv]
   cases hv':v'.ownBlock with
   | none=>exact Or.inl rfl
   | some g=>
    refine Or.inr (fun e1=>?_)
    rcases old_new y hy0 hyk with h|h
    · rw[h] at e1
      cases e1
    exact h (by rw[hv',e1])
 exact absurd (hxk.trans hyk.symm) hne
end
end Go.Proofs.YtejebodgfoihkaaGreat
