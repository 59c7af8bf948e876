/- All lengths as symbols, as the program has them; the lengths of lengths in their order; the fixed codes. -/
import Derived.Test.YtejebodgfoihkaaGreatKFInflateTwox0
import Derived.Test.YtejebodgfoihkaaGreatVFInflateTwoDfLenI
import Derived.Test.YtejebodgfoihkaaGreatKFInflateTwox6
namespace Go.Proofs.YtejebodgfoihkaaGreat
open Go.RowKit

theorem info_sign3:(Tryz.prog.info? 102).map (fun i=>(i.zero,i.size,i.bytes))=some (some (.agg #[.int .i64 0,.int .i64 0,.int .i64 0]),3,24):=by kernel_rfl
theorem make_none (w:World):(Instr.makeSlice 30 (.int .i64 0) (.int .i64 19)).run Tryz.prog w=.ok (.slice (some ⟨w.heap.size,0,none⟩) 0 19) (w.alloc (.cells (madeCells #[.int .i64 0] 19) 3)):=by
 obtain⟨i0,hi,hz0,hz1,hz2⟩:=info_parts info_int
 have h:=run_make (P:=Tryz.prog) w 30 3 i0 (.int .i64 0) Tryz.underlying30 hi hz0 .i64 .i64 0 19 (by omega) (by omega) (by rw[hz2];omega) (by omega)
 rw[h,hz1]
 rfl
theorem own_none19 (w:World):OwnI (w.alloc (.cells (madeCells #[.int .i64 0] 19) 3)) w.heap.size (.slice (some ⟨w.heap.size,0,none⟩) 0 19) 0 []:=
 ⟨rfl,.inr ⟨w.heap.size,19,madeCells #[.int .i64 0] 19,rfl,Nat.le_refl _,heap_alloc_new w _,by decide,by decide,by simp[madeCells],by simp[intsV]⟩⟩
theorem wpList_app3' {T TS:TypeId} (hT:(Tryz.prog.info? T).map (fun i=>(i.zero,i.size,i.bytes))=some (some (.agg #[.int .i64 0,.int .i64 0,.int .i64 0]),3,24)) (hU:Tryz.prog.underlying TS=some (.slice T))
 {ops:Array Oper} {rest:List Oper} {o:Oper} {a:Act} {Q:Exit→Act→World→Prop} (w0:World) (c0:Nat) (hc0:c0=w0.heap.size) (hgd:o.guard=none) (s x:Operand)
 (ho:o.op=.call { callee:=.builtin .append,args:=#[s,x],argTypes:=#[TS,TS] })
 (base:Nat) (v:Value) (n:Nat) (l:List Tk) (t1 t2 t3:Int) (hs:a.eval s=v) (hown:Own3 T w0 base v n l) (hx:a.eval x=.slice (some ⟨c0,0,none⟩) 1 1) (hn:n≤1000000) (hb:base≤w0.heap.size)
 (h:∀g cap w',Own3 T w' base (.slice (some ⟨g,0,none⟩) (n+1) cap) (n+1) (l++[(t1,t2,t3)])→Below base w0 w'→wpList Tryz.prog ops Q rest (a.put o.dst (.slice (some ⟨g,0,none⟩) (n+1) cap)) w'):
 wpList Tryz.prog ops Q (o::rest) a (w0.alloc (.cells #[.int .i64 t1,.int .i64 t2,.int .i64 t3] T)):=by
 subst hc0
 exact wpList_app3 hT hU w0 hgd s x ho base v n l t1 t2 t3 hs hown hx hn hb h
def SignsEnd (w:World) (l:List Tk) (e:Ending) (w':World):Prop:=(∃a n cap,e=.returned (.slice a n cap)∧Own3 102 w' w.heap.size (.slice a n cap) n l)∧Below w.heap.size w w'
set_option maxHeartbeats 4000000 in
set_option maxRecDepth 20000 in
theorem lengthSigns_any (a:Option Addr) (L cap:Nat) (l:List Int) (w:World) (h:Ints w a l) (hL:l.length=L) (hLb:L≤1000):
 Calls Tryz.prog 64 #[.slice a L cap] w (SignsEnd w (Df.runs l)):=by
 have HI:Hid (Ints w a l):=h
 have HL:Hid (l.length=L):=hL
 have HLS:Hid (∀(w':World) (p:Nat),Below w.heap.size w w'→p<L→Calls Tryz.prog 96 #[.slice a L cap,.int .i64 (p:Int)] w' (RunIs l p w')):=fun w' p b hp=>lengthSign_any a L cap p l w' (h.kept b) hL hLb hp
 clear h hL
 obtain⟨base,hbase⟩:∃base,base=w.heap.size:=⟨_,rfl⟩
 have HO0:Hid (Own3 102 w base (.slice none 0 0) 0 []∧Below base w w):=⟨World.ownsRow_nil _ _ _ _,Below.refl _ _⟩
 have HBB:Hid (base=w.heap.size):=hbase
 clear hbase
 go_enter Tryz.func64,Tryz.ntmps64
 go_wp2_with fail
 go_loopw [3,4] (fun o i wr=>∃(p m:Nat) (xs:List Tk) (ao:Option Addr) (c:Nat),p≤L∧m≤p∧i=.int .i64 (p:Int)∧o=.slice ao m c∧Hid (Df.runs l=xs++Df.runsFrom l p)∧Hid (Own3 102 wr base (.slice ao m c) m xs∧Below base w wr)) (fun _ i _=>L-(intOf i).toNat)
 case atStart=>exact⟨0,0,[],_,_,Nat.zero_le _,Nat.le_refl _,rfl,rfl,rfl,HO0⟩
 case round=>
  obtain⟨p,m,xs,ao,c,hp,hmp,rfl,rfl,HR,HO⟩:=hrel
  clear HO0
  by_cases hlt:p<L
  · have hpi:(p:Int)<(L:Int):=by omega
    have hpl:p<l.length:=by rw[HL.out];exact hlt
    have HBW:Hid (Below w.heap.size w wr):=by have h:=HO.out.2;rw[HBB.out] at h;exact h
    have HA:=HLS.out wr p HBW.out hlt
    have hst:=Df.runs_step hpl
    have hin:=Df.run_in hpl
    have hpo:=Df.run_pos l p
    rw[HL.out] at hin
    unfold RunIs at HA
    obtain⟨t,k,hr⟩:∃t k,Df.run l p=(t,k):=⟨_,_,rfl⟩
    rw[hr] at HA hst hin hpo
    obtain⟨t1,t2,t3⟩:=t
    dsimp only at HA hst hin hpo
    have HST:Hid (Df.runsFrom l p=(t1,t2,t3)::Df.runsFrom l (p+k)):=hst
    have HAH:Hid (Calls Tryz.prog 96 #[.slice a L cap,.int .i64 (p:Int)] wr fun e w'=>e=.returned (.tuple #[.agg #[.int .i64 t1,.int .i64 t2,.int .i64 t3],.int .i64 (k:Int)])∧Below wr.heap.size wr w'):=HA
    obtain⟨P2,hP2⟩:∃P2,P2=p+k:=⟨_,rfl⟩
    have eP2:(p:Int)+(k:Int)=(P2:Int):=by omega
    have wP2:=wrap_i64_nat P2 (by omega)
    have hP2L:P2≤L:=by omega
    have hP2p:p<P2:=by omega
    rw[←hP2] at HST
    clear HA hst hr hin hpo hP2
    go_wp2_with fail
    refine HAH.out.mono ?_
    rintro e w1 ⟨rfl,b1⟩
    have HO1:Hid (Own3 102 w1 base (.slice ao m c) m xs∧Below base w w1∧base≤w1.heap.size):=by
     have h3:base≤wr.heap.size:=by rw[HBB.out];exact HBW.out.size
     exact⟨Own3.below HO.out.1 b1,HO.out.2.trans (b1.mono h3),Nat.le_trans h3 b1.size⟩
    clear b1 HO HAH
    obtain⟨W,hW⟩:∃W,W=w1.alloc (.cells #[.int .i64 t1,.int .i64 t2,.int .i64 t3] 102):=⟨_,rfl⟩
    have HOW:Hid (Own3 102 W base (.slice ao m c) m xs∧Below base w W∧base≤W.heap.size):=by
     have b:Below w1.heap.size w1 W:=by rw[hW];exact (Below.refl _ _).alloc (Nat.le_refl _) _
     exact⟨Own3.below HO1.out.1 b,HO1.out.2.1.trans (b.mono HO1.out.2.2),Nat.le_trans HO1.out.2.2 b.size⟩
    rw[hW] at HOW
    clear HO1 hW
    go_wp2_with (at_builtin;refine wpList_app3' info_sign3 Tryz.underlying112 (w1.alloc (.cells #[.int .i64 t1,.int .i64 t2,.int .i64 t3] 102)) (w1.heap.size+1) (by simp) (by rfl) _ _ (by rfl) base _ m xs t1 t2 t3 (by rfl) HOW.out.1 (by rfl) (by omega) HOW.out.2.2 ?_)
    intro g7 cap7 w7 hown7 hb7
    have HF:Hid (Own3 102 w7 base (.slice (some ⟨g7,0,none⟩) (m+1) cap7) (m+1) (xs++[(t1,t2,t3)])∧Below base w w7):=⟨hown7,HOW.out.2.1.trans hb7⟩
    have HR2:Hid (Df.runs l=xs++[(t1,t2,t3)]++Df.runsFrom l P2):=by
     show _=_
     rw[HR.out,HST.out,List.append_assoc]
     rfl
    clear hown7 hb7 HOW HR HST
    go_wp2_with fail
    go_roundw
    case rel=>exact⟨P2,m+1,_,_,_,by omega,by omega,by go_num,rfl,HR2,HF⟩
    case measure=>simp[intOf];omega
  have hpi:¬(p:Int)<(L:Int):=by omega
  have hpl:¬p<l.length:=by rw[HL.out];exact hlt
  have HE:Hid (SignsEnd w (Df.runs l) (.returned (.slice ao m c)) wr):=by
   show SignsEnd _ _ _ _
   have h1:=HR.out
   rw[Df.runs_end hpl,List.append_nil] at h1
   have h2:=HO.out
   rw[HBB.out] at h2
   exact⟨⟨_,_,_,rfl,by rw[h1];exact h2.1⟩,h2.2⟩
  clear HO HR
  go_wp2_with fail
  go_ret
  exact HE.out
theorem lord_ltI:∀k,k<19→Df.lord.getD k 0<19:=by decide
theorem ordered_takeI (BY:List Int) {k:Nat} (hk:k<19):(Df.ordered BY).take (k+1)=(Df.ordered BY).take k++[BY.getD (Df.lord.getD k 0) 0]:=by
 rw[List.take_succ_eq_append_getElem (by rw[Df.ordered_len];exact hk)]
 congr 2
 unfold Df.ordered
 rw[List.getElem_map,List.getD_eq_getElem?_getD (l:=Df.lord),List.getElem?_eq_getElem (show k<Df.lord.length from hk)]
 rfl
set_option maxHeartbeats 4000000 in
set_option maxRecDepth 20000 in
theorem inLengthOrder_any (b:Nat) (BY:List Int) (w:World) (h:Ints w (some ⟨b,0,none⟩) BY) (hl:BY.length=19):
 Calls Tryz.prog 66 #[.slice (some ⟨b,0,none⟩) 19 19] w fun e w'=>(∃a c,e=.returned (.slice a 19 c)∧OwnI w' w.heap.size (.slice a 19 c) 19 (Df.ordered BY))∧Below w.heap.size w w':=by
 have HI:Hid (Ints w (some ⟨b,0,none⟩) BY):=h
 have HL:Hid (BY.length=19):=hl
 clear h hl
 have hmk:=make_none w
 obtain⟨W0,hW0⟩:∃W0,W0=w.alloc (.cells (madeCells #[.int .i64 0] 19) 3):=⟨_,rfl⟩
 obtain⟨base,hbase⟩:∃base,base=w.heap.size:=⟨_,rfl⟩
 rw[←hW0,←hbase] at hmk
 have HO0:Hid (OwnI W0 base (.slice (some ⟨base,0,none⟩) 0 19) 0 ((Df.ordered BY).take 0)∧Below base w W0):=by
  rw[hW0,hbase];exact⟨own_none19 w,(Below.refl _ _).alloc (Nat.le_refl _) _⟩
 have HBB:Hid (base=w.heap.size):=hbase
 clear hW0 hbase
 go_enter Tryz.func66,Tryz.ntmps66
 go_wp2_with fail
 refine (lengthOrder_any W0).mono ?_
 rintro e W1 ⟨rfl,b1⟩
 have HO1:Hid (OwnI W1 base (.slice (some ⟨base,0,none⟩) 0 19) 0 ((Df.ordered BY).take 0)∧Below base w W1):=by
  obtain⟨h1,h2⟩:=HO0.out
  have h3:base≤W0.heap.size:=by rw[HBB.out];exact h2.size
  have hg:W0.grownBy W1 none:=⟨b1.os,b1.tape,b1.output,b1.size,fun k hk _=>b1.block k hk⟩
  exact⟨World.ownsRow.kept (show World.ownsRow _ _ _ _ _ _ _ from h1) hg (.inr (by simp[Value.ownBlock])),h2.trans (b1.mono h3)⟩
 clear HO0 hmk b1
 go_wp2_with fail
 go_loopw [3,8] (fun o i wr=>∃(k:Nat) (ao:Option Addr) (cap:Nat),k≤19∧i=.int .i64 (k:Int)∧o=.slice ao k cap∧Hid (OwnI wr base (.slice ao k cap) k ((Df.ordered BY).take k)∧Below base w wr)) (fun _ i _=>19-(intOf i).toNat)
 case atStart=>exact⟨0,_,_,Nat.zero_le _,rfl,rfl,HO1⟩
 case round=>
  obtain⟨k,ao,cap,hk,rfl,rfl,HR⟩:=hrel
  clear HO1
  by_cases hlt:k<19
  · have hki:(k:Int)<19:=by omega
    have hq:=lord_ltI k hlt
    have hidx:=lord_index k hlt wr
    have HTA:Hid ((Df.ordered BY).take (k+1)=(Df.ordered BY).take k++[BY.getD (Df.lord.getD k 0) 0]):=ordered_takeI BY hlt
    obtain⟨q,hqe⟩:∃q,q=Df.lord.getD k 0:=⟨_,rfl⟩
    rw[←hqe] at hq hidx HTA
    have hbw:base≤wr.heap.size:=by rw[HBB.out];exact HR.out.2.size
    have bW:Below w.heap.size w wr:=by have h:=HR.out.2;rw[HBB.out] at h;exact h
    have hcB:=getD_cellI (HI.out.kept bW) (i:=q) (by rw[HL.out];exact hq)
    obtain⟨z,hz⟩:∃z,z=BY.getD q 0:=⟨_,rfl⟩
    rw[←hz] at hcB HTA
    have hqi:(q:Int)<19:=by omega
    clear bW hz hqe
    go_wp2_with (at_builtin;refine wpList_app1 wr (by rfl) _ _ (by rfl) base _ k ((Df.ordered BY).take k) z (by rfl) HR.out.1 (by rfl) (by omega) hbw ?_)
    intro g7 cap7 w7 hown7 hg7
    have HF:Hid (OwnI w7 base (.slice (some ⟨g7,0,none⟩) (k+1) cap7) (k+1) ((Df.ordered BY).take (k+1))∧Below base w w7):=⟨by rw[HTA.out];exact hown7,hg7.below HR.out.2 (Nat.le_refl _) hbw⟩
    clear hown7 hg7 HR HTA
    go_wp2_with fail
    go_roundw
    case rel=>exact⟨k+1,_,_,by omega,by go_num,rfl,HF⟩
    case measure=>simp[intOf];omega
  have hki:¬(k:Int)<19:=by omega
  have hkN:k=19:=by omega
  subst hkN
  have HE:Hid (OwnI wr w.heap.size (.slice ao 19 cap) 19 (Df.ordered BY)∧Below w.heap.size w wr):=by
   have h:=HR.out
   rw[HBB.out,List.take_of_length_le (by rw[Df.ordered_len];exact Nat.le_refl _)] at h
   exact h
  clear HR
  go_wp2_with fail
  go_ret
  exact⟨⟨_,_,rfl,HE.out.1⟩,HE.out.2⟩
end Go.Proofs.YtejebodgfoihkaaGreat
