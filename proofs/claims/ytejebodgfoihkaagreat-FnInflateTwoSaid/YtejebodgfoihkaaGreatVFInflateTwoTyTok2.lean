/- What stands at a place of a text, where three bytes stand. -/
import Derived.RangeFuncCalls
import Derived.Test.YtejebodgfoihkaaGreatKFInflateTwox0
namespace Go.Proofs.YtejebodgfoihkaaGreat
open Go.RowKit Go.Shelf Go.Maps

attribute [local go_sem] Oper.semAt_some

set_option maxHeartbeats 1000000 in
theorem backward_any (a:Option Addr) (n cp:Nat) (w:World):
 Calls Tryz.prog 57 #[.slice a n cp] w fun e w'=>e=.returned (.func (.func 92) #[] #[.pointer (some ⟨w.heap.size,0,none⟩)])∧w'=w.alloc (.cells #[.slice a n cp] 30):=by
 go_enter Tryz.func57,Tryz.ntmps57
 go_wp2_with fail
 go_ret
 exact⟨rfl,rfl⟩

def TkI (s:ByteArray) (A bb:Nat) (w3:World) (pre:List (BkS A)) (W:World):Prop:=
 W.heap[bb]?=some (.cells #[.int .i64 0,.int .i64 ((bestOf s A pre).1:Int),.int .i64 ((bestOf s A pre).2:Int)] 53 (0,0))∧(bestOf s A pre).1≠258∧BsY (fun k=>k=bb) w3.heap.size w3 W∧Below bb w3 W
def TkX (s:ByteArray) (A bb:Nat) (w3:World) (c:Code) (pre:List (BkS A)) (W:World):Prop:=
 c=.exit 0∧W.heap[bb]?=some (.cells #[.int .i64 0,.int .i64 ((bestOf s A pre).1:Int),.int .i64 ((bestOf s A pre).2:Int)] 53 (0,0))∧(bestOf s A pre).1=258∧BsY (fun k=>k=bb) w3.heap.size w3 W∧Below bb w3 W

theorem bsY_grown {P:Nat→Prop} {n₀:Nat} {w3 W W':World} {row:Option Nat} (h:BsY P n₀ w3 W) (hg:W.grownBy W' row) (hn:n₀≤W.heap.size) (hr:∀r,row=some r→n₀≤r):BsY P n₀ w3 W':=
 h.trans ⟨hg.size,fun k hk _=>hg.block k (by omega) (fun e=>by have:=hr k e.symm;omega)⟩
theorem tkI_own (s:ByteArray) (A bb:Nat) (w3:World) (hbb:bb<w3.heap.size):OwnFrom w3.heap.size (TkI s A bb w3):=by
 rintro pre W W' row ⟨h1,h2,h3,h4⟩ hg hr
 exact⟨(hg.block bb (by have:=h3.1;omega) (fun e=>by have:=(hr bb e.symm).1;omega)).trans h1,h2,bsY_grown h3 hg h3.1 (fun r e=>(hr r e).1),h4.grown hg (by have:=h3.1;omega) (fun r e=>by have:=(hr r e).1;omega)⟩
theorem tkX_own (s:ByteArray) (A bb:Nat) (w3:World) (hbb:bb<w3.heap.size) (c:Code):OwnFrom w3.heap.size (TkX s A bb w3 c):=by
 rintro pre W W' row ⟨h0,h1,h2,h3,h4⟩ hg hr
 exact⟨h0,(hg.block bb (by have:=h3.1;omega) (fun e=>by have:=(hr bb e.symm).1;omega)).trans h1,h2,bsY_grown h3 hg h3.1 (fun r e=>(hr r e).1),h4.grown hg (by have:=h3.1;omega) (fun r e=>by have:=(hr r e).1;omega)⟩
set_option maxRecDepth 100000 in
set_option maxHeartbeats 4000000 in
theorem token_yes (s:ByteArray) (B A:Nat) (w:World) (hs:s.size≤9001) (h3:A+3≤s.size) (hS:Seen s B A w):
 Calls Tryz.prog 31 #[.map (some B),.string s,.int .i64 (A:Int)] w (TokEnd s A w):=by
 have hro:Fence.wide.round=none:=rfl
 have hBlt:=hS.lt
 have HT:Hid (∀w,Calls Tryz.prog 56 #[.string s,.int .i64 (A:Int)] w (ThreeEnd (.agg #[.int .u8 (Ty.b s A:Int),.int .u8 (Ty.b s (A+1):Int),.int .u8 (Ty.b s (A+2):Int)]) true w)):=fun w=>threeAt_yes s A w hs h3
 have hkey:=triKey_of (Ty.b s A) (Ty.b s (A+1)) (Ty.b s (A+2)) (Ty.b_lt _ _) (Ty.b_lt _ _) (Ty.b_lt _ _)
 have HI:Hid (∀(D:DataW Unit) (w:World) (base:Nat) (v:Value) (zs:List Int),TriTab D s A→D.atKey (triKey (Ty.b s A) (Ty.b s (A+1)) (Ty.b s (A+2))) .nil=rowDatum .i64 v zs→w.ownsInts base 3 .i64 v zs→zs=plsI s (Ty.b s A) (Ty.b s (A+1)) (Ty.b s (A+2)) A):=fun D w base v zs t h1 h2=>t.is (Ty.b_lt _ _) (Ty.b_lt _ _) (Ty.b_lt _ _) h1 h2
 have HBST:=Ty.lok_best s A h3
 rw[Ty.lok_is] at HBST
 have hpl:∀p∈Ty.pls s (Ty.b s A) (Ty.b s (A+1)) (Ty.b s (A+2)) A,p<A:=fun p hp=>Ty.pls_lt hp
 have hpn:(Ty.pls s (Ty.b s A) (Ty.b s (A+1)) (Ty.b s (A+2)) A).length≤A:=Ty.pls_len _ _ _ _ _
 unfold plsI at HI
 have hAs:A<s.size:=by omega
 have hAi:(A:Int)<(s.size:Int):=by omega
 have hbA:Ty.b s A=s[A].toNat:=Ty.b_at hAs
 have hcb:s[A].toNat<256:=UInt8.toNat_lt _
 have hTk:Ty.tok s A=if 3≤(Ty.bst s A A).1 then (0,((Ty.bst s A A).1:Int),((Ty.bst s A A).2:Int)) else ((s[A].toNat:Int),0,0):=by rw[←hbA];rfl
 generalize Ty.pls s (Ty.b s A) (Ty.b s (A+1)) (Ty.b s (A+2)) A=ps at*
 generalize Ty.b s A=x at*
 generalize Ty.b s (A+1)=y at*
 generalize Ty.b s (A+2)=z at*
 -- the answer by what is found
 have HF:Hid (∀(g:Nat×Nat) (w':World),g=ps.reverse.foldl (Ty.upd s A) (0,0)→Below w.heap.size w w'→(g.1=0→TokEnd s A w (.returned (.agg #[.int .i64 (s[A].toNat:Int),.int .i64 0,.int .i64 0])) w')∧(g.1≠0→TokEnd s A w (.returned (.agg #[.int .i64 0,.int .i64 (g.1:Int),.int .i64 (g.2:Int)])) w')):=fun g w' hg hb=>by
  rw[HBST] at hg
  unfold TokEnd
  rw[hTk]
  by_cases h:3≤(Ty.bst s A A).1
  · rw[if_pos h] at hg
    rw[if_pos h,hg]
    exact⟨fun h0=>by omega,fun _=>⟨rfl,hb⟩⟩
  rw[if_neg h] at hg
  rw[if_neg h,hg]
  exact⟨fun _=>⟨rfl,hb⟩,fun h0=>by simp at h0⟩
 have HFull:Hid (∀(l:List Nat) (g:Nat×Nat),g.1=258→l.foldl (Ty.upd s A) g=g):=Ty.fold_full s A
 have HAL:Hid (∀(p:Nat) (w:World),p<A→Calls Tryz.prog 58 #[.string s,.int .i64 (p:Int),.int .i64 (A:Int)] w fun e w'=>e=.returned (.int .i64 ((Ty.mat s p A 258:Nat):Int))∧∃q,w'=w.drewN q):=fun p w hp=>alike_is s p A w hs (by omega) (by omega)
 clear hTk HBST hbA
 refine (callsIn_wide (n:=3)).1 (callsIn_of_wp_marks Tryz.func31 rfl trivial ?_ hro)
 simp only[Tryz.ntmps31,List.size_toArray,List.length_cons,List.length_nil,Nat.reduceAdd,Nat.reduceSub,Array.replicate_succ,Array.replicate_zero,List.push_toArray,List.append_toArray,List.nil_append,List.cons_append]
 gi_wp2
 refine⟨trivial,?_⟩
 gi_wp2
 refine (callsIn_wide.2 (HT.out _)).mono ?_
 rintro e w1 ⟨rfl,b1⟩
 have hs1:w.heap.size+3≤w1.heap.size:=Nat.le_trans (by simp) b1.size
 obtain⟨w2,hw2⟩:∃w2,w2=(w1.alloc (.cells #[.int .u8 (x:Int),.int .u8 (y:Int),.int .u8 (z:Int)] 104)).alloc (.cells #[.int .i64 0,.int .i64 0,.int .i64 0] 53):=⟨_,rfl⟩
 have hs2:w2.heap.size=w1.heap.size+2:=by rw[hw2];simp
 have b12:Below w1.heap.size w1 w2:=by rw[hw2];exact ((Below.refl _ _).alloc (Nat.le_refl _) _).alloc (by simp) _
 have b2:Below (w.heap.size+3) (((w.alloc (.cells #[.string s] 9)).alloc (.cells #[.int .i64 (A:Int)] 3)).alloc (.cells #[.int .i64 0,.int .i64 0,.int .i64 0] 53)) w2:=(b1.mono (by simp)).trans (b12.mono hs1)
 have HTX:Hid (w2.heap[w.heap.size]?=some (.cells #[.string s] 9 (0,0))):=(b2.block _ (by omega)).trans (by
  rw[Below.heap_alloc _ _ _ (by simp;omega),Below.heap_alloc _ _ _ (by simp)];exact heap_alloc_new _ _)
 have HTA:Hid (w2.heap[w.heap.size+1]?=some (.cells #[.int .i64 (A:Int)] 3 (0,0))):=(b2.block _ (by omega)).trans (by
  rw[Below.heap_alloc _ _ _ (by simp)];have:=heap_alloc_new (w.alloc (.cells #[.string s] 9)) (.cells #[.int .i64 (A:Int)] 3);simpa [World.size_alloc] using this)
 have HTR:Hid (w2.heap[w.heap.size+2]?=some (.cells #[.int .i64 0,.int .i64 0,.int .i64 0] 53 (0,0))):=(b2.block _ (by omega)).trans (by
  have:=heap_alloc_new ((w.alloc (.cells #[.string s] 9)).alloc (.cells #[.int .i64 (A:Int)] 3)) (.cells #[.int .i64 0,.int .i64 0,.int .i64 0] 53);simpa [World.size_alloc] using this)
 have HTB:Hid (w2.heap[w1.heap.size+1]?=some (.cells #[.int .i64 0,.int .i64 0,.int .i64 0] 53 (0,0))):=by
  show _=_
  rw[hw2];have:=heap_alloc_new (w1.alloc (.cells #[.int .u8 (x:Int),.int .u8 (y:Int),.int .u8 (z:Int)] 104)) (.cells #[.int .i64 0,.int .i64 0,.int .i64 0] 53);simpa [World.size_alloc] using this
 have bb2:Below w.heap.size w w2:=((((Below.refl _ w).alloc (Nat.le_refl _) _).alloc (by simp) _).alloc (by simp;omega) _).trans (b2.mono (by omega))
 obtain⟨D,nD,hnD,hown,htab⟩:=hS.below bb2 (Nat.le_refl _)
 obtain⟨v0,zs,hrun,hat,hoi,hzl,_⟩:=hown.at key_tri Tryz.underlying78 (zero_ints _) (by unfold maxLen;omega) hkey
 have hzs:=HI.out D w2 (B+1) v0 zs htab hat hoi
 -- the row of places
 obtain⟨a,gg,cp,hv0,ha,hgg,hcells⟩:∃(a:Option Addr) (gg cp:Nat),v0=.slice a ps.length cp∧(ps.length=0∨a=some ⟨gg,0,none⟩)∧(ps.length=0∨(gg<w2.heap.size∧∃cs,w2.heap[gg]?=some (.cells cs 3 (0,0))))∧∀i,i<ps.length→w2.cell? ⟨gg,i,none⟩=some (.int .i64 (ps.getD i 0:Int)):=by
  have hzn:zs.length=ps.length:=by rw[hzs,List.length_map]
  have hrow:=hoi.1
  rcases hoi.1.2 with⟨hv,h0⟩|⟨g,cap,cur,hv,hg,hgb,_⟩
  · exact⟨none,0,0,by rw[hv,←hzn,h0],.inl (by omega),.inl (by omega),fun i hi=>by omega⟩
  refine⟨_,g,cap,by rw[hv,hzn],.inr rfl,.inr ⟨(Array.getElem?_eq_some_iff.1 hgb).1,cur,hgb⟩,fun i hi=>?_⟩
  rw[hv] at hrow
  rw[hrow.cellAt i (by omega),hzs]
  simp[List.getD,List.getElem?_eq_getElem hi]
 rw[hv0] at hrun
 have hrun2:(Instr.lookup 78 (.map (some B)) (.agg #[.int .u8 (x:Int),.int .u8 (y:Int),.int .u8 (z:Int)]) false).run Tryz.prog w2=.ok (.slice a ps.length cp) w2:=hrun
 clear hrun hoi hat hzl htab hown HI hkey hzs hv0 b1 b12 b2 hnD
 rw[hw2] at hrun2
 gi_wp2
 refine⟨trivial,?_⟩
 rw[←hw2]
 refine (callsIn_wide.2 (backward_any _ _ _ _)).mono ?_
 rintro e w3 ⟨rfl,hw3⟩
 have hs3:w3.heap.size=w1.heap.size+3:=by rw[hw3,World.size_alloc,hs2]
 have b23:Below w2.heap.size w2 w3:=by rw[hw3];exact (Below.refl _ _).alloc (Nat.le_refl _) _
 have hbx3:w3.heap[w1.heap.size+2]?=some (.cells #[.slice a ps.length cp] 30 (0,0)):=by rw[hw3,←hs2];exact heap_alloc_new _ _
 have HTX3:Hid (w3.heap[w.heap.size]?=some (.cells #[.string s] 9 (0,0))):=(b23.block _ (by omega)).trans HTX.out
 have HTA3:Hid (w3.heap[w.heap.size+1]?=some (.cells #[.int .i64 (A:Int)] 3 (0,0))):=(b23.block _ (by omega)).trans HTA.out
 have HTR3:Hid (w3.heap[w.heap.size+2]?=some (.cells #[.int .i64 0,.int .i64 0,.int .i64 0] 53 (0,0))):=(b23.block _ (by omega)).trans HTR.out
 have hTB3:w3.heap[w1.heap.size+1]?=some (.cells #[.int .i64 0,.int .i64 0,.int .i64 0] 53 (0,0)):=(b23.block _ (by omega)).trans HTB.out
 have bb3:Below w.heap.size w w3:=bb2.trans (b23.mono bb2.size)
 have hgne:ps.length=0∨gg≠w1.heap.size+1:=by
  rcases hgg with h|⟨_,cs,h⟩
  · exact .inl h
  refine .inr (fun e=>?_)
  rw[e,HTB.out] at h
  cases h
 have hHY:HeldY w3 a (w1.heap.size+2) gg cp ps.length ps:=⟨by simp[World.cell?,hbx3],fun i hi=>by
  have hg2:gg<w2.heap.size:=by rcases hgg with h|⟨h,_⟩;(exfalso;omega);exact h
  exact (b23.cell (p:=⟨gg,i,none⟩) hg2).trans (hcells i hi)⟩
 have HSQ:=backward_stops 2 (by omega) a (w1.heap.size+2) gg cp ps.length w3.heap.size (fun k=>k=w1.heap.size+1) ps A w3 (fun i hi=>hpl _ (by rw[List.getD_eq_getElem?_getD,List.getElem?_eq_getElem hi];exact List.getElem_mem hi)) (by omega) (by rcases hgg with h|⟨h,_⟩;(exact .inl h);exact .inr (by omega)) (by omega) hgne (Nat.le_refl _) (by omega) ha hHY
 have HSQH:Hid (SeqStopsK Fence.wide 2 Tryz.prog 92 #[.pointer (some ⟨w1.heap.size+2,0,none⟩)] (fun x:BkS A=>#[Value.int .i64 (x.1.1:Int),Value.int .i64 (x.1.2:Int)]) (BsY (fun k=>k=w1.heap.size+1) w3.heap.size)
  (fun ys=>ys.map Subtype.val=bkTo ps ps.length) (fun pre=>pre.map Subtype.val <+: bkTo ps ps.length) ps.length w3):=HSQ
 have hE:w2.heap.size=w1.heap.size+2:=hs2
 rw[hE]
 clear hw3 b23 HTX HTA HTR HTB bb2 hHY hgne hgg hcells HSQ hbx3 hE hs2 ha HT
 gi_wp2
 have hbb:w1.heap.size+1<w3.heap.size:=by omega
 refine wpIn_rangeFunc_ownG hro (by omega) (gf:=92) (lb:=#[.pointer (some ⟨w1.heap.size+2,0,none⟩)]) rfl trivial (enters_of Tryz.func92 (by kernel_rfl) rfl) HSQH.out BsY.trans (BsY.book (Nat.le_refl _)) (Below.refl _ _) (fun _=>rfl)
  (TkI s A (w1.heap.size+1) w3) (TkX s A (w1.heap.size+1) w3) (tkI_own s A _ w3 hbb) (fun c=>tkX_own s A _ w3 hbb c) ⟨hTB3,by simp[bestOf],BsY.of (Below.refl _ _),Below.refl _ _⟩
  (fun x1=>{ tmps:=#[.map (some B),.string s,.int .i64 (A:Int),undef,.pointer (some ⟨w.heap.size,0,none⟩),.pointer (some ⟨w.heap.size+1,0,none⟩),.pointer (some ⟨w.heap.size+1+1,0,none⟩),.pointer (some ⟨w1.heap.size,0,none⟩),.bool true,.pointer (some ⟨w1.heap.size+1,0,none⟩),undef,.int .i64 (x1.1.2:Int),undef,.tuple #[.agg #[.int .u8 (x:Int),.int .u8 (y:Int),.int .u8 (z:Int)],.bool true],.string s,.int .i64 (A:Int),.tuple #[.agg #[.int .u8 (x:Int),.int .u8 (y:Int),.int .u8 (z:Int)],.bool true],.agg #[.int .u8 (x:Int),.int .u8 (y:Int),.int .u8 (z:Int)],.bool true,.bool true,.bool false,undef,undef,undef,undef,undef,.agg #[.int .i64 0,.int .i64 0,.int .i64 0],.map (some B),.agg #[.int .u8 (x:Int),.int .u8 (y:Int),.int .u8 (z:Int)],.slice a ps.length cp,.func (.func 92) #[] #[.pointer (some ⟨w1.heap.size+2,0,none⟩)],.int .i64 (x1.1.1:Int),.int .i64 (x1.1.2:Int),undef,undef,undef,undef,undef,undef,undef,undef,undef,undef,undef,undef,undef,undef,undef,undef,undef,undef,undef,undef,undef,undef,undef,undef,undef],defers:=[] }) ?assign ?body ?done ?stop
 case assign=>
  intro l x1 W K hK
  gi_wp2
  exact hK
 case body=>
  rintro l pre ⟨⟨i,p⟩,hp⟩ W ⟨hb,hne,hbs,hbl⟩ hlt
  dsimp only at hp
  have hx1:W.heap[w.heap.size]?=some (.cells #[.string s] 9 (0,0)):=(hbs.2 _ (by omega) (by omega)).trans HTX3.out
  have hx2:W.heap[w.heap.size+1]?=some (.cells #[.int .i64 (A:Int)] 3 (0,0)):=(hbs.2 _ (by omega) (by omega)).trans HTA3.out
  have c1:W.cell? ⟨w.heap.size,0,none⟩=some (.string s):=by simp[World.cell?,hx1]
  have c2:W.cell? ⟨w.heap.size+1,0,none⟩=some (.int .i64 (A:Int)):=by simp[World.cell?,hx2]
  have hsn:=bestOf_snoc s A pre ⟨(i,p),hp⟩
  have hup:Ty.upd s A (bestOf s A pre) p=if (bestOf s A pre).1<Ty.mat s p A 258 then (Ty.mat s p A 258,A-p) else bestOf s A pre:=rfl
  have hmle:=Ty.mat_le s 258 p A
  have HALp:=HAL.out p W hp
  generalize Ty.mat s p A 258=n at*
  rw[hup] at hsn
  generalize bestOf s A pre=gp at*
  obtain⟨N,Dd⟩:=gp
  dsimp only at hb hne hsn hup
  obtain⟨bs1,bs2⟩:=id hbs
  have HALH:Hid (Calls Tryz.prog 58 #[.string s,.int .i64 (p:Int),.int .i64 (A:Int)] W fun e w'=>e=.returned (.int .i64 (n:Int))∧∃q,w'=W.drewN q):=HALp
  have HK:Hid (BsY (fun k=>k=w1.heap.size+1) w3.heap.size w3 W∧Below (w1.heap.size+1) w3 W):=⟨hbs,hbl⟩
  have HSN:=hsn
  have hbd:∀q,(W.drewN q).heap[w1.heap.size+1]?=some (.cells #[.int .i64 0,.int .i64 (N:Int),.int .i64 (Dd:Int)] 53 (0,0)):=fun q=>hb
  have c1d:∀q,(W.drewN q).cell? ⟨w.heap.size+1,0,none⟩=some (.int .i64 (A:Int)):=fun q=>c2
  clear hbs hbl hup hx1 hx2 HALp hsn
  by_cases hu:N<n
  · rw[if_pos hu] at HSN
    obtain⟨d,hd⟩:∃d,d=A-p:=⟨_,rfl⟩
    have ed:(A:Int)-(p:Int)=(d:Int):=by omega
    have hdb:d≤9001:=by omega
    rw[←hd] at HSN
    have dgt:decide ((n:Int)>(N:Int))=true:=decide_eq_true (by omega)
    clear hd
    gi_wp2
    refine⟨trivial,?_⟩
    refine (CallsIn.inRound l (callsIn_wide.2 HALH.out)).mono ?_
    rintro e W2 ⟨rfl,q,hW2⟩
    have hb2:W2.heap[w1.heap.size+1]?=some (.cells #[.int .i64 0,.int .i64 (N:Int),.int .i64 (Dd:Int)] 53 (0,0)):=by rw[hW2];exact hbd q
    have ca2:W2.cell? ⟨w.heap.size+1,0,none⟩=some (.int .i64 (A:Int)):=by rw[hW2];exact c1d q
    have hR:=three_row hb2 (.int .i64 0) (.int .i64 (n:Int)) (.int .i64 (d:Int))
    have hQ:=setRow_heap _ _ _ #[.int .i64 0,.int .i64 (n:Int),.int .i64 (d:Int)] _ _ hb2
    have hgr:W.grownBy (W2.setRow (w1.heap.size+1) #[.int .i64 0,.int .i64 (n:Int),.int .i64 (d:Int)]) (some (w1.heap.size+1)):=by
     rw[hW2]
     exact⟨rfl,rfl,rfl,by simp[World.setRow],fun k _ hk=>setRow_other _ _ _ _ (fun e=>hk (by rw[e]))⟩
    have hKF:KeepsFrom w3.heap.size W (W2.setRow (w1.heap.size+1) #[.int .i64 0,.int .i64 (n:Int),.int .i64 (d:Int)]):=KeepsFrom.of_grownBy hgr (fun j e=>by cases e;exact hbb)
    have hKP:BsY (fun k=>k=w1.heap.size+1) w3.heap.size W (W2.setRow (w1.heap.size+1) #[.int .i64 0,.int .i64 (n:Int),.int .i64 (d:Int)]):=⟨hgr.size,fun k hk hn=>hgr.block k (by omega) (fun e=>hn (by cases e;rfl))⟩
    have hKB:Below (w1.heap.size+1) w3 (W2.setRow (w1.heap.size+1) #[.int .i64 0,.int .i64 (n:Int),.int .i64 (d:Int)]):=HK.out.2.grown hgr (by omega) (fun k e=>by cases e;exact Nat.le_refl _)
    have HEND:Hid (KeepsFrom w3.heap.size W (W2.setRow (w1.heap.size+1) #[.int .i64 0,.int .i64 (n:Int),.int .i64 (d:Int)])∧BsY (fun k=>k=w1.heap.size+1) w3.heap.size W (W2.setRow (w1.heap.size+1) #[.int .i64 0,.int .i64 (n:Int),.int .i64 (d:Int)])∧BsY (fun k=>k=w1.heap.size+1) w3.heap.size w3 (W2.setRow (w1.heap.size+1) #[.int .i64 0,.int .i64 (n:Int),.int .i64 (d:Int)])∧Below (w1.heap.size+1) w3 (W2.setRow (w1.heap.size+1) #[.int .i64 0,.int .i64 (n:Int),.int .i64 (d:Int)])∧(W2.setRow (w1.heap.size+1) #[.int .i64 0,.int .i64 (n:Int),.int .i64 (d:Int)]).heap[w1.heap.size+1]?=some (.cells #[.int .i64 0,.int .i64 (n:Int),.int .i64 (d:Int)] 53 (0,0))):=⟨hKF,hKP,HK.out.1.trans hKP,hKB,hQ⟩
    have HRH:Hid (((W2.setCell ⟨w1.heap.size+1,0,none⟩ (.int .i64 0)).setCell ⟨w1.heap.size+1,1,none⟩ (.int .i64 (n:Int))).setCell ⟨w1.heap.size+1,2,none⟩ (.int .i64 (d:Int))=W2.setRow (w1.heap.size+1) #[.int .i64 0,.int .i64 (n:Int),.int .i64 (d:Int)]):=hR
    have HSNH:Hid (bestOf s A (pre++[⟨(i,p),hp⟩])=(n,d)):=HSN
    obtain⟨⟨e0,e1,e2⟩,f0,f1,f2⟩:=box3 hb2
    clear hb2 hKF hKP hKB hQ hgr hR hbd c1d hW2 hb HALH HK HSN
    by_cases hf:n=258
    · have d258:((n:Int)==258)=true:=by rw[beq_iff_eq];omega
      have HN:Hid (n=258):=hf
      clear hf
      gi_wp2
      rw[HRH.out]
      refine⟨HEND.out.1,⟨rfl,?_,?_,HEND.out.2.2.1,HEND.out.2.2.2.1⟩⟩
      · rw[HSNH.out];exact HEND.out.2.2.2.2
      rw[HSNH.out];exact HN.out
    have d258:((n:Int)==258)=false:=by rw[beq_eq_false_iff_ne];omega
    have HN:Hid (n≠258):=hf
    clear hf
    gi_wp2
    rw[HRH.out]
    refine⟨HEND.out.1,HEND.out.2.1,?_,?_,HEND.out.2.2.1,HEND.out.2.2.2.1⟩
    · rw[HSNH.out];exact HEND.out.2.2.2.2
    rw[HSNH.out];exact HN.out
  rw[if_neg hu] at HSN
  have dgt:decide ((n:Int)>(N:Int))=false:=decide_eq_false (by omega)
  have d258:((N:Int)==258)=false:=by rw[beq_eq_false_iff_ne];omega
  have HSNH:Hid (bestOf s A (pre++[⟨(i,p),hp⟩])=(N,Dd)):=HSN
  have HN:Hid (N≠258):=hne
  clear HSN hne hb
  gi_wp2
  refine⟨trivial,?_⟩
  refine (CallsIn.inRound l (callsIn_wide.2 HALH.out)).mono ?_
  rintro e W2 ⟨rfl,q,hW2⟩
  have hb2:W2.heap[w1.heap.size+1]?=some (.cells #[.int .i64 0,.int .i64 (N:Int),.int .i64 (Dd:Int)] 53 (0,0)):=by rw[hW2];exact hbd q
  have hgr:W.grownBy W2 none:=by rw[hW2];exact⟨rfl,rfl,rfl,Nat.le_refl _,fun _ _ _=>rfl⟩
  have HEND:Hid (KeepsFrom w3.heap.size W W2∧BsY (fun k=>k=w1.heap.size+1) w3.heap.size W W2∧BsY (fun k=>k=w1.heap.size+1) w3.heap.size w3 W2∧Below (w1.heap.size+1) w3 W2∧W2.heap[w1.heap.size+1]?=some (.cells #[.int .i64 0,.int .i64 (N:Int),.int .i64 (Dd:Int)] 53 (0,0))):=
   ⟨KeepsFrom.of_grownBy hgr (fun j e=>by cases e),⟨hgr.size,fun k hk _=>hgr.block k (by omega) (by simp)⟩,HK.out.1.trans ⟨hgr.size,fun k hk _=>hgr.block k (by omega) (by simp)⟩,HK.out.2.grown hgr (by omega) (fun k e=>by cases e),hb2⟩
  obtain⟨⟨e0,e1,e2⟩,f0,f1,f2⟩:=box3 hb2
  clear hb2 hgr hbd c1d hW2 HALH HK
  gi_wp2
  refine⟨HEND.out.1,HEND.out.2.1,?_,?_,HEND.out.2.2.1,HEND.out.2.2.2.1⟩
  · rw[HSNH.out];exact HEND.out.2.2.2.2
  rw[HSNH.out];exact HN.out
 case done=>
  rintro DD ys W hD hys ⟨hb,hne,hbs,hbl⟩ hK
  have hgp:bestOf s A ys=ps.reverse.foldl (Ty.upd s A) (0,0):=by
   unfold bestOf
   have e:ys.map (fun x=>x.1.2)=(ys.map Subtype.val).map Prod.snd:=by rw[List.map_map];rfl
   rw[e,hys,bkTo_snd ps _ (Nat.le_refl _),List.take_length]
  generalize bestOf s A ys=gp at*
  clear hys
  have HG:Hid (gp=ps.reverse.foldl (Ty.upd s A) (0,0)):=hgp
  obtain⟨N,Dd⟩:=gp
  dsimp only at hb
  have hx1:W.heap[w.heap.size]?=some (.cells #[.string s] 9 (0,0)):=(hbs.2 _ (by omega) (by omega)).trans HTX3.out
  have hx2:W.heap[w.heap.size+1]?=some (.cells #[.int .i64 (A:Int)] 3 (0,0)):=(hbs.2 _ (by omega) (by omega)).trans HTA3.out
  have hx3:W.heap[w.heap.size+1+1]?=some (.cells #[.int .i64 0,.int .i64 0,.int .i64 0] 53 (0,0)):=(hbs.2 _ (by omega) (by omega)).trans HTR3.out
  have c1:W.cell? ⟨w.heap.size,0,none⟩=some (.string s):=by simp[World.cell?,hx1]
  have c2:W.cell? ⟨w.heap.size+1,0,none⟩=some (.int .i64 (A:Int)):=by simp[World.cell?,hx2]
  have belW:Below w.heap.size w W:=bb3.trans (hbl.mono (by omega))
  have hWs:=hbs.1
  have HKD:Hid (W.heap[DD]?=some (.deferred (some []))):=hK
  have hDr:DD≠w.heap.size+1+1:=by omega
  obtain⟨⟨e0,e1,e2⟩,f0,f1,f2⟩:=box3 hb
  obtain⟨⟨r0,r1,r2⟩,g0,g1,g2⟩:=box3 hx3
  have HL:Hid (∀u0 u1 u2:Value,∃W5,W5=(W.setRow (w.heap.size+1+1) #[u0,u1,u2]).putObj DD (.deferred none)∧((W.setCell ⟨w.heap.size+1+1,0,none⟩ u0).setCell ⟨w.heap.size+1+1,1,none⟩ u1).setCell ⟨w.heap.size+1+1,2,none⟩ u2=W.setRow (w.heap.size+1+1) #[u0,u1,u2]∧(W.setRow (w.heap.size+1+1) #[u0,u1,u2]).heap[DD]?=some (.deferred (some []))∧W5.heap[w.heap.size+1+1]?=some (.cells #[u0,u1,u2] 53 (0,0))∧Below w.heap.size w W5):=fun u0 u1 u2=>by
   have k1:(W.setRow (w.heap.size+1+1) #[u0,u1,u2]).heap[DD]?=some (.deferred (some [])):=(setRow_other _ _ _ _ hDr).trans hK
   refine⟨_,rfl,three_row hx3 u0 u1 u2,k1,(World.putObj_heap_other (fun e=>hDr e.symm)).trans (setRow_heap _ _ _ _ _ _ hx3),?_⟩
   exact (ty_below_setRow belW (by omega) hx3 _).grown (grownBy_putObj' _ DD (.deferred none)) (by have:=(Array.getElem?_eq_some_iff.1 k1).1;omega) (fun k e=>by cases e;omega)
  clear hb hx1 hx2 hx3 hbs hbl belW hK hgp
  by_cases hn0:N=0
  · skip
    obtain⟨c,hc⟩:∃c:Nat,s[A].toNat=c:=⟨_,rfl⟩
    have hcb2:c<256:=by rw[←hc];exact hcb
    have dn0:((N:Int)==0)=true:=by rw[beq_iff_eq];omega
    obtain⟨W5,hW5,hrw,hdd,hrr,hbel5⟩:=HL.out (.int .i64 (c:Int)) (.int .i64 0) (.int .i64 0)
    have HR5:Hid (W5.heap[w.heap.size+1+1]?=some (.cells #[.int .i64 (c:Int),.int .i64 0,.int .i64 0] 53 (0,0))):=hrr
    have HRW:Hid (((W.setCell ⟨w.heap.size+1+1,0,none⟩ (.int .i64 (c:Int))).setCell ⟨w.heap.size+1+1,1,none⟩ (.int .i64 0)).setCell ⟨w.heap.size+1+1,2,none⟩ (.int .i64 0)=W.setRow (w.heap.size+1+1) #[.int .i64 (c:Int),.int .i64 0,.int .i64 0]):=hrw
    have HDD:Hid ((W.setRow (w.heap.size+1+1) #[.int .i64 (c:Int),.int .i64 0,.int .i64 0]).heap[DD]?=some (.deferred (some []))):=hdd
    have HEN:Hid (TokEnd s A w (.returned (.agg #[.int .i64 (c:Int),.int .i64 0,.int .i64 0])) W5):=by
     show TokEnd _ _ _ _ _
     rw[←hc];exact (HF.out (N,Dd) W5 HG.out hbel5).1 hn0
    have HW5:Hid (W5=(W.setRow (w.heap.size+1+1) #[.int .i64 (c:Int),.int .i64 0,.int .i64 0]).putObj DD (.deferred none)):=hW5
    clear hW5 hrw hdd hrr hbel5 HL HF HG HFull
    gi_wp2
    rw[HRW.out]
    refine⟨by simp,.inl ⟨_,_,rfl,run_takeDeferred HDD.out,?_⟩⟩
    rw[←HW5.out]
    have hq5:=HR5.out
    exact⟨_,by simp[results,Tryz.results31,go_sem,World.cell?,hq5],HEN.out⟩
  skip
  have dn0:((N:Int)==0)=false:=by rw[beq_eq_false_iff_ne];omega
  obtain⟨W5,hW5,hrw,hdd,hrr,hbel5⟩:=HL.out (.int .i64 0) (.int .i64 (N:Int)) (.int .i64 (Dd:Int))
  have HR5:Hid (W5.heap[w.heap.size+1+1]?=some (.cells #[.int .i64 0,.int .i64 (N:Int),.int .i64 (Dd:Int)] 53 (0,0))):=hrr
  have HRW:Hid (((W.setCell ⟨w.heap.size+1+1,0,none⟩ (.int .i64 0)).setCell ⟨w.heap.size+1+1,1,none⟩ (.int .i64 (N:Int))).setCell ⟨w.heap.size+1+1,2,none⟩ (.int .i64 (Dd:Int))=W.setRow (w.heap.size+1+1) #[.int .i64 0,.int .i64 (N:Int),.int .i64 (Dd:Int)]):=hrw
  have HDD:Hid ((W.setRow (w.heap.size+1+1) #[.int .i64 0,.int .i64 (N:Int),.int .i64 (Dd:Int)]).heap[DD]?=some (.deferred (some []))):=hdd
  have HEN:Hid (TokEnd s A w (.returned (.agg #[.int .i64 0,.int .i64 (N:Int),.int .i64 (Dd:Int)])) W5):=(HF.out (N,Dd) W5 HG.out hbel5).2 hn0
  have HW5:Hid (W5=(W.setRow (w.heap.size+1+1) #[.int .i64 0,.int .i64 (N:Int),.int .i64 (Dd:Int)]).putObj DD (.deferred none)):=hW5
  clear hW5 hrw hdd hrr hbel5 HL HF HG HFull
  gi_wp2
  rw[HRW.out]
  refine⟨by simp,.inl ⟨_,_,rfl,run_takeDeferred HDD.out,?_⟩⟩
  rw[←HW5.out]
  have hq5:=HR5.out
  exact⟨_,by simp[results,Tryz.results31,go_sem,World.cell?,hq5],HEN.out⟩
 case stop=>
  rintro DD c pre W hD hpre ⟨rfl,hb,h258,hbs,hbl⟩ hK
  have hgp:bestOf s A pre=ps.reverse.foldl (Ty.upd s A) (0,0):=by
   obtain⟨tl,htl⟩:=hpre
   have e1:ps.reverse=(bkTo ps ps.length).map Prod.snd:=by rw[bkTo_snd ps _ (Nat.le_refl _),List.take_length]
   rw[e1,←htl,List.map_append,List.foldl_append]
   have e:(pre.map Subtype.val).map Prod.snd=pre.map (fun x=>x.1.2):=by rw[List.map_map];rfl
   rw[e]
   show _=List.foldl _ (bestOf s A pre) _
   rw[HFull.out _ _ h258]
  generalize bestOf s A pre=gp at*
  have hn00:gp.1≠0:=by omega
  clear hpre
  have HG:Hid (gp=ps.reverse.foldl (Ty.upd s A) (0,0)):=hgp
  obtain⟨N,Dd⟩:=gp
  dsimp only at hb hn00
  have hn0:N≠0:=hn00
  clear hn00 h258
  have hx1:W.heap[w.heap.size]?=some (.cells #[.string s] 9 (0,0)):=(hbs.2 _ (by omega) (by omega)).trans HTX3.out
  have hx2:W.heap[w.heap.size+1]?=some (.cells #[.int .i64 (A:Int)] 3 (0,0)):=(hbs.2 _ (by omega) (by omega)).trans HTA3.out
  have hx3:W.heap[w.heap.size+1+1]?=some (.cells #[.int .i64 0,.int .i64 0,.int .i64 0] 53 (0,0)):=(hbs.2 _ (by omega) (by omega)).trans HTR3.out
  have c1:W.cell? ⟨w.heap.size,0,none⟩=some (.string s):=by simp[World.cell?,hx1]
  have c2:W.cell? ⟨w.heap.size+1,0,none⟩=some (.int .i64 (A:Int)):=by simp[World.cell?,hx2]
  have belW:Below w.heap.size w W:=bb3.trans (hbl.mono (by omega))
  have hWs:=hbs.1
  have HKD:Hid (W.heap[DD]?=some (.deferred (some []))):=hK
  have hDr:DD≠w.heap.size+1+1:=by omega
  obtain⟨⟨e0,e1,e2⟩,f0,f1,f2⟩:=box3 hb
  obtain⟨⟨r0,r1,r2⟩,g0,g1,g2⟩:=box3 hx3
  have HL:Hid (∀u0 u1 u2:Value,∃W5,W5=(W.setRow (w.heap.size+1+1) #[u0,u1,u2]).putObj DD (.deferred none)∧((W.setCell ⟨w.heap.size+1+1,0,none⟩ u0).setCell ⟨w.heap.size+1+1,1,none⟩ u1).setCell ⟨w.heap.size+1+1,2,none⟩ u2=W.setRow (w.heap.size+1+1) #[u0,u1,u2]∧(W.setRow (w.heap.size+1+1) #[u0,u1,u2]).heap[DD]?=some (.deferred (some []))∧W5.heap[w.heap.size+1+1]?=some (.cells #[u0,u1,u2] 53 (0,0))∧Below w.heap.size w W5):=fun u0 u1 u2=>by
   have k1:(W.setRow (w.heap.size+1+1) #[u0,u1,u2]).heap[DD]?=some (.deferred (some [])):=(setRow_other _ _ _ _ hDr).trans hK
   refine⟨_,rfl,three_row hx3 u0 u1 u2,k1,(World.putObj_heap_other (fun e=>hDr e.symm)).trans (setRow_heap _ _ _ _ _ _ hx3),?_⟩
   exact (ty_below_setRow belW (by omega) hx3 _).grown (grownBy_putObj' _ DD (.deferred none)) (by have:=(Array.getElem?_eq_some_iff.1 k1).1;omega) (fun k e=>by cases e;omega)
  clear hb hx1 hx2 hx3 hbs hbl belW hK hgp
  have dn0:((N:Int)==0)=false:=by rw[beq_eq_false_iff_ne];omega
  obtain⟨W5,hW5,hrw,hdd,hrr,hbel5⟩:=HL.out (.int .i64 0) (.int .i64 (N:Int)) (.int .i64 (Dd:Int))
  have HR5:Hid (W5.heap[w.heap.size+1+1]?=some (.cells #[.int .i64 0,.int .i64 (N:Int),.int .i64 (Dd:Int)] 53 (0,0))):=hrr
  have HRW:Hid (((W.setCell ⟨w.heap.size+1+1,0,none⟩ (.int .i64 0)).setCell ⟨w.heap.size+1+1,1,none⟩ (.int .i64 (N:Int))).setCell ⟨w.heap.size+1+1,2,none⟩ (.int .i64 (Dd:Int))=W.setRow (w.heap.size+1+1) #[.int .i64 0,.int .i64 (N:Int),.int .i64 (Dd:Int)]):=hrw
  have HDD:Hid ((W.setRow (w.heap.size+1+1) #[.int .i64 0,.int .i64 (N:Int),.int .i64 (Dd:Int)]).heap[DD]?=some (.deferred (some []))):=hdd
  have HEN:Hid (TokEnd s A w (.returned (.agg #[.int .i64 0,.int .i64 (N:Int),.int .i64 (Dd:Int)])) W5):=(HF.out (N,Dd) W5 HG.out hbel5).2 hn0
  have HW5:Hid (W5=(W.setRow (w.heap.size+1+1) #[.int .i64 0,.int .i64 (N:Int),.int .i64 (Dd:Int)]).putObj DD (.deferred none)):=hW5
  clear hW5 hrw hdd hrr hbel5 HL HF HG HFull
  gi_wp2
  rw[HRW.out]
  refine⟨by simp,.inl ⟨_,_,rfl,run_takeDeferred HDD.out,?_⟩⟩
  rw[←HW5.out]
  have hq5:=HR5.out
  exact⟨_,by simp[results,Tryz.results31,go_sem,World.cell?,hq5],HEN.out⟩
end Go.Proofs.YtejebodgfoihkaaGreat
