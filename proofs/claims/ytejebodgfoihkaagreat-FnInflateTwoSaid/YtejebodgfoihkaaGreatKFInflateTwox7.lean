/- Texts laid together: DfPlainI, DfVal, DfRange. -/
import Derived.Test.YtejebodgfoihkaaGreatKFInflateTwox0a
import Derived.Test.YtejebodgfoihkaaGreatVFInflateTwoDfTkI
import Derived.Test.YtejebodgfoihkaaGreatKFInflateTwox6
import Derived.Test.YtejebodgfoihkaaGreatVFInflateTwoTyIter2
import Derived.Maps.AppendAt
/- The packer of the program: a text as it is. -/
namespace Go.Proofs.YtejebodgfoihkaaGreat
open Go.RowKit

theorem wpList_appK {ops:Array Oper} {rest:List Oper} {o:Oper} {a:Act} {Q:Exit→Act→World→Prop} (w0:World) (hgd:o.guard=none) (s x:Operand)
 (ho:o.op=.call { callee:=.builtin .append,args:=#[s,x],argTypes:=#[39,39] })
 (base:Nat) (v:Value) (n:Nat) (l ps:List (Int×Int)) (m:Nat) (hm:ps.length=m) (h0:0<m) (cs:Array Value) (hcs:cs=(cellsOf ps).toArray) (hs:a.eval s=v) (hown:OwnP w0 base v n l) (hx:a.eval x=.slice (some ⟨w0.heap.size,0,none⟩) m m) (hn:n+m≤2000000) (hb:base≤w0.heap.size)
 (h:∀g cap w',OwnP w' base (.slice (some ⟨g,0,none⟩) (n+m) cap) (n+m) (l++ps)→(w0.alloc (.cells cs 38)).grownBy w' v.ownBlock→(v.ownBlock=some g∨g=(w0.alloc (.cells cs 38)).heap.size)→g<w'.heap.size→wpList Tryz.prog ops Q rest (a.put o.dst (.slice (some ⟨g,0,none⟩) (n+m) cap)) w'):
 wpList Tryz.prog ops Q (o::rest) a (w0.alloc (.cells cs 38)):=by
 obtain⟨i0,hi0,hz0,hz1,hz2⟩:=info_parts info_bit
 subst hcs
 refine wpList_append_lies _ hgd s x _ ho base 38 i0 (.agg #[.int .i64 0,.int .i64 0]) 2 16 Tryz.underlying39 hi0 hz0 hz1 hz2 rfl (by decide) v n (cellsOf l) hs (World.ownsRow.alloc (show World.ownsRow _ _ _ _ _ _ _ from hown) _) ⟨w0.heap.size,0,none⟩ m m (cellsOf ps) hx (by rw[cellsOf_len,hm]) (World.news_of_block (heap_alloc_new _ _)) (cellsOf_one ps) h0 (by unfold maxLen;omega) (by omega) (by rw[World.size_alloc];omega) _ rfl ?_
 intro g cap w' hown' hg hat hlt
 rw[cellsOf_app] at hown'
 exact h g cap w' hown' hg hat hlt
def pbits (s:ByteArray) (k:Nat):List (Int×Int):=[(0,5),((s.size:Int),16),(((65535-s.size:Nat):Int),16)]++((Df.nums s).take k).map (fun (b:Nat)=>((b:Int),(8:Int)))
theorem pbits_step (s:ByteArray) (k:Nat) (hk:k<s.size):pbits s (k+1)=pbits s k++[(((s[k].toNat:Nat):Int),8)]:=by
 unfold pbits
 have h:k<(Df.nums s).length:=by rw[Df.nums_len];exact hk
 have e:(Df.nums s)[k]=(s[k]).toNat:=by
  simp[Df.nums]
  rfl
 rw[List.take_succ_eq_append_getElem h,List.map_append,List.append_assoc,List.map_cons,List.map_nil,e]
theorem pbits_len (s:ByteArray) (k:Nat) (hk:k≤s.size):(pbits s k).length=3+k:=by
 unfold pbits
 rw[List.length_append,List.length_map,List.length_take,Df.nums_len]
 show 3+min k s.size=_
 omega
theorem pbits_all (s:ByteArray):[((1:Int),(1:Int)),(0,2)]++pbits s s.size=Df.plainBits (Df.nums s):=by
 unfold pbits Df.plainBits
 rw[List.take_of_length_le (by rw[Df.nums_len];exact Nat.le_refl _),Df.nums_len]
 rfl
set_option linter.unusedSimpArgs false in
set_option linter.unusedVariables false in
set_option maxHeartbeats 4000000 in
set_option maxRecDepth 20000 in
theorem plain_pk (B N:Nat) (s:ByteArray) (v x1 x2:Value) (l:List (Int×Int)) (w:World) (hs:s.size≤5000) (hB:w.heap[B]?=some (.cells #[v,x1,x2] 41 (0,0))) (hO:OwnX w B v N l) (hN:N≤100000):
 Calls Tryz.prog 15 #[.pointer (some ⟨B,0,none⟩),.string s] w (PkEnd B x1 x2 v (N+(pbits s s.size).length) (l++pbits s s.size) w):=by
 have HPK:Hid (w.heap[B]?=some (.cells #[v,x1,x2] 41 (0,0))∧OwnX w B v N l):=⟨hB,hO⟩
 obtain⟨n,hn⟩:∃n,n=s.size:=⟨_,rfl⟩
 have hsz:s.size=n:=hn.symm
 have hBl:B<w.heap.size:=(Array.getElem?_eq_some_iff.1 hB).1
 obtain⟨m,hm⟩:∃m,m=65535-n:=⟨_,rfl⟩
 have em:(65535:Int)-(n:Int)=(m:Int):=by omega
 have wm:=wrap_i64_nat m (by omega)
 have hP0:pbits s 0=[(0,5),((n:Int),16),((m:Int),16)]:=by
  unfold pbits
  rw[hsz,←hm]
  rfl
 have HP0:Hid (pbits s 0=[(0,5),((n:Int),16),((m:Int),16)]):=hP0
 have hnb:n≤5000:=by omega
 have pc:=(pk_cell hB).1
 clear hB hO hn hm hP0 hs
 go_enter Tryz.func15,Tryz.ntmps15
 go_wp2_with (at_builtin;refine wpList_appK w (by rfl) _ _ (by rfl) 0 v N l [(0,5),((n:Int),16),((m:Int),16)] 3 rfl (by omega) _ rfl (by rfl) HPK.out.2.1 (by rfl) (by omega) (Nat.zero_le _) ?_;intro g2 cap2 w2 ho2 hg2 hat2 hlt2;have HD:Hid (PkDone B x1 x2 v (N+3) (l++[(0,5),((n:Int),16),((m:Int),16)]) w (.slice (some ⟨g2,0,none⟩) (N+3) cap2) (w2.setCell ⟨B,0,none⟩ (.slice (some ⟨g2,0,none⟩) (N+3) cap2))):=pk_done HPK.out.1 HPK.out.2 ((Below.refl _ _).alloc (Nat.le_refl _) _) hg2 hat2 hlt2 ho2;obtain⟨pc2,pf2⟩:=pk_at2 HPK.out.1 HPK.out.2 ((Below.refl _ _).alloc (Nat.le_refl _) _) hg2;clear ho2 hg2 hat2 hlt2)
 have HW0:Hid (∃v',PkDone B x1 x2 v (N+3+0) (l++pbits s 0) w v' (w2.setCell ⟨B,0,none⟩ (.slice (some ⟨g2,0,none⟩) (N+3) cap2))):=⟨_,by rw[HP0.out];exact HD.out⟩
 clear HD pc2 pf2 pc
 generalize w2.setCell ⟨B,0,none⟩ (.slice (some ⟨g2,0,none⟩) (N+3) cap2)=W0 at*
 go_loopw [24] (fun i wr=>∃k:Nat,k≤n∧i=.int .i64 (k:Int)∧Hid (∃v',PkDone B x1 x2 v (N+3+k) (l++pbits s k) w v' wr)) (fun i _=>n-(intOf i).toNat)
 case atStart=>exact⟨0,Nat.zero_le _,rfl,HW0⟩
 case round=>
  obtain⟨k,hk,rfl,HR⟩:=hrel
  clear HW0
  obtain⟨v1,hPD⟩:=HR.out
  have HPK1:Hid (wr.heap[B]?=some (.cells #[v1,x1,x2] 41 (0,0))∧OwnX wr B v1 (N+3+k) (l++pbits s k)∧Gr B v v1 w wr):=⟨hPD.1,hPD.2.1,hPD.2.2⟩
  clear HR
  by_cases hlt:k<n
  · have hki:(k:Int)<(n:Int):=by omega
    have hks:k<s.size:=by omega
    have pc:=(pk_cell hPD.1).1
    have hBr:B<wr.heap.size:=(Array.getElem?_eq_some_iff.1 hPD.1).1
    have HST:Hid (pbits s (k+1)=pbits s k++[(((s[k].toNat:Nat):Int),8)]):=pbits_step s k hks
    clear hPD
    have HGR:Hid (Gr B v v1 w wr):=HPK1.out.2.2
    have HPKr:Hid (wr.heap[B]?=some (.cells #[v1,x1,x2] 41 (0,0))∧OwnX wr B v1 (N+3+k) (l++pbits s k)):=⟨HPK1.out.1,HPK1.out.2.1⟩
    clear HPK HPK1
    have HPK:=HPKr
    clear HPKr
    have wc:IntKind.i64.wrap (((s[k]).toNat:Nat):Int)=(((s[k]).toNat:Nat):Int):=wrap_i64_nat _ (by have:=UInt8.toNat_lt s[k];omega)
    go_wp2_with fail
    refine wp_region_any (by kernel_rfl) ?_
    refine wpAny_take (i:=0) (v:=(.pointer (some ⟨B,0,none⟩))) rfl (by kernel_rfl) (by kernel_rfl) (by kernel_rfl) (fun _ _ _ h=>h) (Or.inl ⟨by rfl,?_⟩) ?_
    · intro wy
      go_simp
    try simp only[Act.put,litE]
    refine wpAny_told (S:=(fun wz=>Below wr.heap.size wr wz)) [0] 11 42 [.is (.pointer (some ⟨B,0,none⟩)),.is (.pointer (some ⟨B,0,none⟩)),.is (.pointer (some ⟨B,0,none⟩)),.is (.pointer (some ⟨B,0,none⟩)),.is (v1),.is (.string s),.is (.int .i64 (k:Int)),.is (.int .u8 (((s[k]).toNat:Nat):Int)),.is (.int .i64 (((s[k]).toNat:Nat):Int)),.is (.agg #[.int .i64 (((s[k]).toNat:Nat):Int),.int .i64 8]),.own (fun v w=>LayPs v w [((((s[k]).toNat:Nat):Int),8)]) (fun _ _ _ b h=>h.kept b)] (fun j=>if j=0 then (.pointer (some ⟨B,0,none⟩)) else undef) (by kernel_rfl) (by kernel_rfl) (by kernel_rfl) (by kernel_rfl) (by kernel_rfl) (by rfl) (fun _ _ _ _ hd h=>⟨hd.trans h.1,h.2⟩) (by kernel_rfl) (fun j hj=>by simp only[List.mem_cons,List.not_mem_nil,or_false] at hj;rcases hj with rfl<;>rfl) (fun vs=>by simp only[puts,List.getElem?_toArray,List.getElem?_cons_succ,List.getElem?_cons_zero,Option.bind_some,Act.put,List.setIfInBounds_toArray,List.set_cons_zero,List.set_cons_succ];exact rfl) ((Below.refl _ _).drew) ?_ ?_
    · refine TellsFrom.cons rfl (fun vs wz hS hd K hK=>?_) ?_
      · try dsimp only at hK ⊢
        try simp only[Act.put,litE]
        go_simp
        exact hK.out _ _ hS (Below.refl _ _) rfl
      refine TellsFrom.cons rfl (fun vs wz hS hd K hK=>?_) ?_
      · try dsimp only at hK ⊢
        try simp only[Act.put,litE]
        go_simp
        exact hK.out _ _ hS (Below.refl _ _) rfl
      refine TellsFrom.cons rfl (fun vs wz hS hd K hK=>?_) ?_
      · try dsimp only at hK ⊢
        have h1:vs 1=(.pointer (some ⟨B,0,none⟩)):=hd 1 (by kernel_rfl)
        generalize vs 1=x1 at*
        subst h1
        try simp only[Act.put,litE]
        go_simp
        exact hK.out _ _ hS (Below.refl _ _) rfl
      refine TellsFrom.cons rfl (fun vs wz hS hd K hK=>?_) ?_
      · try dsimp only at hK ⊢
        have h2:vs 2=(.pointer (some ⟨B,0,none⟩)):=hd 2 (by kernel_rfl)
        generalize vs 2=x2 at*
        subst h2
        try simp only[Act.put,litE]
        go_simp
        exact hK.out _ _ hS (Below.refl _ _) rfl
      refine TellsFrom.cons rfl (fun vs wz hS hd K hK=>?_) ?_
      · try dsimp only at hK ⊢
        have h3:vs 3=(.pointer (some ⟨B,0,none⟩)):=hd 3 (by kernel_rfl)
        generalize vs 3=x3 at*
        subst h3
        try simp only[Act.put,litE]
        have q0:=(hS.cell (p:=⟨B,0,none⟩) hBr).trans pc
        go_simp
        exact hK.out _ _ hS (Below.refl _ _) rfl
      refine TellsFrom.cons rfl (fun vs wz hS hd K hK=>?_) ?_
      · try dsimp only at hK ⊢
        try simp only[Act.put,litE]
        go_simp
        exact hK.out _ _ hS (Below.refl _ _) rfl
      refine TellsFrom.cons rfl (fun vs wz hS hd K hK=>?_) ?_
      · try dsimp only at hK ⊢
        try simp only[Act.put,litE]
        go_simp
        exact hK.out _ _ hS (Below.refl _ _) rfl
      refine TellsFrom.cons rfl (fun vs wz hS hd K hK=>?_) ?_
      · try dsimp only at hK ⊢
        have h5:vs 5=(.string s):=hd 5 (by kernel_rfl)
        generalize vs 5=x5 at*
        subst h5
        have h6:vs 6=(.int .i64 (k:Int)):=hd 6 (by kernel_rfl)
        generalize vs 6=x6 at*
        subst h6
        try simp only[Act.put,litE]
        go_simp
        exact hK.out _ _ hS (Below.refl _ _) rfl
      refine TellsFrom.cons rfl (fun vs wz hS hd K hK=>?_) ?_
      · try dsimp only at hK ⊢
        have h7:vs 7=(.int .u8 (((s[k]).toNat:Nat):Int)):=hd 7 (by kernel_rfl)
        generalize vs 7=x7 at*
        subst h7
        try simp only[Act.put,litE]
        go_simp
        exact hK.out _ _ hS (Below.refl _ _) rfl
      refine TellsFrom.cons rfl (fun vs wz hS hd K hK=>?_) ?_
      · try dsimp only at hK ⊢
        have h8:vs 8=(.int .i64 (((s[k]).toNat:Nat):Int)):=hd 8 (by kernel_rfl)
        generalize vs 8=x8 at*
        subst h8
        try simp only[Act.put,litE]
        go_simp
        exact hK.out _ _ hS (Below.refl _ _) rfl
      refine TellsFrom.cons rfl (fun vs wz hS hd K hK=>?_) ?_
      · try dsimp only at hK ⊢
        have h9:vs 9=(.agg #[.int .i64 (((s[k]).toNat:Nat):Int),.int .i64 8]):=hd 9 (by kernel_rfl)
        generalize vs 9=x9 at*
        subst h9
        try simp only[Act.put,litE]
        go_simp
        exact hK.out _ _ (hS.trans (((Below.refl _ _).alloc (Nat.le_refl _) _).mono hS.size)) ((Below.refl _ _).alloc (Nat.le_refl _) _) (layPs_new wz [((((s[k]).toNat:Nat):Int),8)])
      exact TellsFrom.nil
    intro vs wz hS hd
    try dsimp only
    have h12:LayPs (vs 10) wz [((((s[k]).toNat:Nat):Int),8)]:=hd 10 (by omega)
    have h0:vs 0=.pointer (some ⟨B,0,none⟩):=hd 0 (by omega)
    have h4:vs 4=v1:=hd 4 (by omega)
    clear hd
    generalize vs 0=y0 at*
    generalize vs 1=y1 at*
    generalize vs 2=y2 at*
    generalize vs 3=y3 at*
    generalize vs 4=y4 at*
    generalize vs 5=y5 at*
    generalize vs 6=y6 at*
    generalize vs 7=y7 at*
    generalize vs 8=y8 at*
    generalize vs 9=y9 at*
    generalize vs 10=y10 at*
    subst h0
    replace h4:=h4.symm
    subst h4
    obtain⟨Bn,rfl,hCl,hCn⟩:=h12
    have HS1:Hid (Below wr.heap.size wr wz):=hS
    clear hS
    refine wpAnyH_ready (rs:=[11]) (by kernel_rfl) (by simp) ?_
    refine AllReadyH.cons rfl (fun K hK=>?_) AllReadyH.nil
    refine step_appL wz rfl _ _ rfl 0 v1 (N+3+k) (l++pbits s k) [((((s[k]).toNat:Nat):Int),8)] Bn 1 rfl (by omega) rfl (OwnP.below HPK.out.2.1 HS1.out) rfl hCn (by omega) (Nat.zero_le _) ?_
    intro g2 cap2 w2 ho2 hg2 hat2 hlt2
    have HD:Hid (PkDone B x1 x2 v1 ((N+3+k)+1) ((l++pbits s k)++[((((s[k]).toNat:Nat):Int),8)]) wr (.slice (some ⟨g2,0,none⟩) ((N+3+k)+1) cap2) (w2.setCell ⟨B,0,none⟩ (.slice (some ⟨g2,0,none⟩) ((N+3+k)+1) cap2))):=pk_done HPK.out.1 HPK.out.2 HS1.out hg2 hat2 hlt2 ho2
    obtain⟨pc2,pf2⟩:=pk_at2 HPK.out.1 HPK.out.2 HS1.out hg2
    clear ho2 hg2 hat2 hlt2
    refine hK.out _ _ trivial (fun _=>?_)
    clear hK K
    try simp only[Act.put,litE]
    refine tkI (i:=12) (v:=.pointer (some ⟨B,0,none⟩)) rfl (Or.inl ⟨by rfl,?_⟩) trivial ?_
    · intro wy _
      go_simp
    try simp only[Act.put,litE]
    refine tkI (i:=13) (v:=.pointer (some ⟨B,0,none⟩)) rfl (Or.inl ⟨by rfl,?_⟩) trivial ?_
    · intro wy _
      go_simp
    try simp only[Act.put,litE]
    refine wpAnyH_ready (rs:=[14]) (by kernel_rfl) (by simp) ?_
    refine AllReadyH.cons rfl (fun K hK=>?_) AllReadyH.nil
    go_simp
    refine hK.out _ _ trivial (fun _=>?_)
    clear hK K
    refine wpAnyH_done (by kernel_rfl) ?_ _
    try simp only[Act.put,litE]
    have HF:Hid (∃v',PkDone B x1 x2 v (N+3+(k+1)) (l++pbits s (k+1)) w v' (w2.setCell ⟨B,0,none⟩ (.slice (some ⟨g2,0,none⟩) (N+3+k+1) cap2))):=by
     refine⟨_,HD.out.1,?_,HGR.out.trans HD.out.2.2⟩
     have h:=HD.out.2.1
     rw[List.append_assoc,←HST.out] at h
     exact h
    clear HD pc2 pf2 HPK HGR HST
    go_wp2_with fail
    go_roundw
    case rel=>exact⟨k+1,by omega,by go_num,HF⟩
    case measure=>simp[intOf];omega
  have hki:¬(k:Int)<(n:Int):=by omega
  have hkn:k=s.size:=by omega
  have HE:Hid (PkEnd B x1 x2 v (N+(pbits s s.size).length) (l++pbits s s.size) w (.returned (.tuple #[])) wr):=by
   refine⟨⟨_,rfl⟩,v1,?_⟩
   rw[pbits_len s s.size (Nat.le_refl _),←Nat.add_assoc,←hkn]
   exact hPD
  clear hPD HPK1 hkn
  go_wp2_with fail
  go_end0
  have h:=HE.out
  rw[hsz] at h
  exact h
end Go.Proofs.YtejebodgfoihkaaGreat
namespace Go.Proofs.YtejebodgfoihkaaGreat
open Go.RowKit Go.Shelf Go.Maps

attribute [local go_sem] Oper.semAt_some

def IterOk (fn:FuncId) (Bt:Nat) (l:List Tk) (Kp:Nat→World→World→Prop) (H:World→Prop):Prop:=
 ∀(n:Nat),1≤n→∀(lid:Nat) (J:List Tk→Nat→World→Prop) (W:World),
  (∀pre m X Y,J pre m X→Tn W.heap.size X Y→J pre m Y)→(∀pre m X,J pre m X→H X)→
  (∀pre x m W1,Df.TkOk x→J pre m W1→m≤W1.heap.size→pre.length<5000→YieldAt Fence.wide (n-1) Tryz.prog lid #[tkV x] W1 fun e W'=>e=.returned (.bool true)∧J (pre++[x]) W'.heap.size W'∧Kp m W1 W')→
  Bt<W.heap.size→J [] W.heap.size W→CallsIn Fence.wide n Tryz.prog fn #[.func (.yield lid) #[] #[],.pointer (some ⟨Bt,0,none⟩)] W fun e W'=>(∃v,e=.returned v)∧∃m,J l m W'

theorem iterTok (s:ByteArray) (hs:s.size≤5000) (Bt:Nat):IterOk 30 Bt (Ty.from_ s 0) (KpT Bt) (fun W=>W.cell? ⟨Bt,0,none⟩=some (.string s)):=by
 intro n hn lid J W hT hH hY hb h0
 exact tokensIn1_ok n hn lid Bt s hs J W hT hY hb (hH _ _ _ h0) h0

structure HeldK (W:World) (Bt:Nat) (a:Option Addr) (n c:Nat) (l:List Tk):Prop where
 len:l.length=n
 few:n≤5000
 box:W.cell? ⟨Bt,0,none⟩=some (.slice a n c)
 toks:Toks W a l
 ok:∀t∈l,Df.TkOk t

set_option maxRecDepth 100000 in
set_option maxHeartbeats 4000000 in
theorem iterVal (Bt:Nat) (a:Option Addr) (N c:Nat) (l:List Tk) (Kp:Nat→World→World→Prop) (hKp:∀m X Y,Kp m X Y→X.heap.size≤Y.heap.size):IterOk 36 Bt l Kp (fun W=>HeldK W Bt a N c l):=by
 intro n hn lid J W hT hH hY hb h0
 have hro:Fence.wide.round=none:=rfl
 have HY:Hid (∀(pre:List Tk) (x:Tk) (m:Nat) (W1:World),Df.TkOk x→J pre m W1→m≤W1.heap.size→pre.length<5000→YieldAt Fence.wide (n-1) Tryz.prog lid #[tkV x] W1 fun e W'=>e=.returned (.bool true)∧J (pre++[x]) W'.heap.size W'∧Kp m W1 W'):=hY
 have HJ:Hid (∀(pre:List Tk) (m:Nat) (X Y:World),J pre m X→Tn W.heap.size X Y→J pre m Y):=hT
 have HH:Hid (∀pre m X,J pre m X→HeldK X Bt a N c l):=hH
 have HJ0:Hid (J [] W.heap.size W):=h0
 obtain⟨hlN,hN5,hbx,_,_⟩:=hH _ _ _ h0
 have HL:Hid (l.length=N):=hlN
 clear hT hH hY h0 hlN
 refine callsIn_of_wp Tryz.func36 rfl trivial ?_ hro
 simp only[Tryz.ntmps36,List.size_toArray,List.length_cons,List.length_nil,Nat.reduceAdd,Nat.reduceSub,Array.replicate_succ,Array.replicate_zero,List.push_toArray,List.append_toArray,List.nil_append,List.cons_append]
 gi_wp2
 gi_loopw [7] (fun i wr=>∃(k:Nat) (m:Nat),k≤N∧i=.int .i64 (k:Int)∧Hid (J (l.take k) m wr)∧m≤wr.heap.size∧W.heap.size≤wr.heap.size) (fun i _=>N-(intOf i).toNat)
 case atStart=>exact⟨0,W.heap.size,Nat.zero_le _,rfl,HJ0,Nat.le_refl _,Nat.le_refl _⟩
 case round=>
  obtain⟨k,m,hk,rfl,HJk,hmw,hsw⟩:=hrel
  clear HJ0
  by_cases hlt:k<N
  · have hki:(k:Int)<(N:Int):=by omega
    have hkl:k<l.length:=by rw[HL.out];exact hlt
    have hheld:=HH.out _ _ _ HJk.out
    obtain⟨tb,toff,rfl,htb,d1,d2,d3⟩:=hheld.toks.at hkl
    have hok:=hheld.ok _ (List.getElem_mem hkl)
    have HT:Hid (l.take (k+1)=l.take k++[l[k]]):=List.take_succ_eq_append_getElem hkl
    obtain⟨t0,t1,t2,ht⟩:∃t0 t1 t2,l[k]=(t0,t1,t2):=⟨_,_,_,rfl⟩
    rw[ht] at d1 d2 d3 hok HT
    dsimp only at d1 d2 d3
    have HOK:Hid (Df.TkOk (t0,t1,t2)):=hok
    obtain⟨w2,hw2⟩:∃w2,w2=wr.alloc (.cells #[.int .i64 t0,.int .i64 t1,.int .i64 t2] 53):=⟨_,rfl⟩
    have b2:Below wr.heap.size wr w2:=by rw[hw2];exact (Below.refl _ _).alloc (Nat.le_refl _) _
    have HJ2:J (l.take k) m w2:=HJ.out _ _ _ _ HJk.out (Tn.below b2 hsw (Nat.le_refl _))
    have hs2:w2.heap.size=wr.heap.size+1:=by rw[hw2];simp
    have hpl:(l.take k).length<5000:=by rw[List.length_take];omega
    obtain⟨fn,tmps,assign,body,hy,hR⟩:=HY.out (l.take k) (t0,t1,t2) m w2 HOK.out HJ2 (by omega) hpl
    dsimp only[tkV] at hy
    rw[hw2] at hy
    clear hheld hok ht HJ2 HOK
    gi_wp2
    rw[←hw2]
    refine hR.mono ?_
    rintro e W3 ⟨rfl,hJ3,hk3⟩
    have HJ3:Hid (J (l.take (k+1)) W3.heap.size W3):=by rw[HT.out];exact hJ3
    have hs3:W.heap.size≤W3.heap.size:=by have:=hKp _ _ _ hk3;omega
    clear hy hR hJ3 hk3 HT d1 d2 d3 hw2 b2
    gi_wp2
    go_roundw
    case rel=>exact⟨k+1,_,by omega,by go_num,HJ3,Nat.le_refl _,hs3⟩
    case measure=>simp[intOf];omega
  have hki:¬(k:Int)<(N:Int):=by omega
  have hkN:k=N:=by omega
  have HJE:Hid (J l m wr):=by
   have h:=HJk.out
   rw[List.take_of_length_le (by rw[HL.out];omega)] at h
   exact h
  clear HJk
  gi_wp2
  go_end0
  exact⟨⟨_,rfl⟩,m,HJE.out⟩
structure KpOk (Bt:Nat) (Kp:Nat→World→World→Prop):Prop where
 trans:∀{m:Nat} {X Y Z:World},Kp m X Y→Kp m Y Z→Kp m X Z
 below:∀{m:Nat} {X Y:World},Bt<X.heap.size→Below X.heap.size X Y→Kp m X Y
 book:∀{m l:Nat} {X:World} {L:Loop} (o':Obj),X.heap[l]?=some (.loop L)→l<m→Bt≠l→Kp m X (X.putObj l o')
theorem kpT_ok (Bt:Nat):KpOk Bt (KpT Bt):=
 ⟨fun h k=>⟨Nat.le_trans h.size k.size,fun i h1 h2=>(k.late i h1 (by have:=h.size;omega)).trans (h.late i h1 h2),fun i o h1 h2=>k.mine i o (h.mine i o h1 h2) h2,k.text.trans h.text⟩,
  fun hb b=>⟨b.size,fun k _ h=>b.block k h,fun k o h _=>(b.block k (Array.getElem?_eq_some_iff.1 h).1).trans h,b.block _ hb⟩,
  fun o' h hm hb=>⟨by simp,fun k h1 _=>World.putObj_heap_other (by omega),fun k o h1 h2=>by
   rename_i l X L
   by_cases e:k=l
   · subst e;rw[h] at h1;cases h1;exact absurd trivial h2
   exact (World.putObj_heap_other (by omega)).trans h1,World.putObj_heap_other (by omega)⟩⟩
def KpS (_:Nat) (X Y:World):Prop:=X.heap.size≤Y.heap.size
theorem kpS_ok (Bt:Nat):KpOk Bt KpS:=⟨fun h k=>Nat.le_trans h k,fun _ b=>b.size,fun o' _ _ _=>by unfold KpS;simp⟩
end Go.Proofs.YtejebodgfoihkaaGreat
namespace Go.Proofs.YtejebodgfoihkaaGreat
open Go.RowKit Go.Shelf Go.Maps

attribute [local go_sem] Oper.semAt_some

def itPost (Kp:Nat→World→World→Prop) (J:List Tk→Nat→World→Prop) (B m:Nat) (xs:List Tk) (W:World):Exit→Act→World→Prop
 | .normal,_,W'=>KeepsFrom B W W'∧Kp m W W'∧J xs W'.heap.size W'
 | _,_,_=>False

set_option maxHeartbeats 1000000 in
theorem rangeIt {fn:FuncId} {Kp:Nat→World→World→Prop} {H:World→Prop} {J:List Tk→Nat→World→Prop} {l₀:List Tk} {g:Operand} {ps:Array Tmp} {assign body:Code} {Q:Exit→Act→World→Prop} {a:Act} {w:World} {Bt base:Nat} (hit:IterOk fn Bt l₀ Kp H) (hkp:KpOk Bt Kp) (eg:Enters Tryz.prog fn) (hfw:∀f',Fence.wide.fn f')
 (hgr:∀pre m X Y row,J pre m X→X.grownBy Y row→(∀r,row=some r→base≤r∧∃o:Obj,X.heap[r]?=some o∧o.isCells=false)→J pre m Y)
 (htn:∀pre m B X Y,J pre m X→base≤B→Tn B X Y→J pre m Y) (hJH:∀pre m X,J pre m X→H X) (hbw:base≤w.heap.size)
 (hJm:∀m m' X,J [] m X→m≤m'→J [] m' X)
 (hg:a.eval g=.func (.func fn) #[] #[.pointer (some ⟨Bt,0,none⟩)]) (hps:ps.size=1) (h0:J [] w.heap.size w) (hbt:Bt<w.heap.size)
 (a₁:Tk→World→Act)
 (hassign:∀(l:Nat) (x:Tk) (W:World) (K:Act→World→Prop),K (a₁ x W) (W.alloc (.cells #[.int .i64 x.1,.int .i64 x.2.1,.int .i64 x.2.2] 53))→
  assign.wpIn (Fence.wide.inRound l) 0 Tryz.prog (Exit.then K (fun _ _ _=>False)) { tmps:=(ps.zip #[tkV x]).foldl (fun t (p,v)=>t.setIfInBounds p v) a.tmps,defers:=[] } W)
 (hbody:∀(l:Nat) (pre:List Tk) (x:Tk) (m:Nat) (W Wb:World),Df.TkOk x→J pre m Wb→w.heap.size+2≤m→m≤W.heap.size→Wb.heap.size=W.heap.size+1→Wb.heap[W.heap.size]?=some (.cells #[.int .i64 x.1,.int .i64 x.2.1,.int .i64 x.2.2] 53 (0,0))→pre.length<5000→
  body.wpIn (Fence.wide.inRound l) 0 Tryz.prog (itPost Kp J w.heap.size m (pre++[x]) Wb) (a₁ x W) Wb)
 (hdone:∀(D:Nat) (W:World) (m:Nat),w.heap.size≤D→J l₀ m W→W.heap[D]?=some (.deferred (some []))→Q .normal { a with defers:={ target:=.collected D,args:=#[] }::a.defers } W):
 (Code.rangeFunc g ps assign body).wpIn Fence.wide 2 Tryz.prog Q a w:=by
 have hro:Fence.wide.round=none:=rfl
 refine wpIn_rangeFunc ?_
 intro fnm hfn
 rw[hro]
 obtain⟨rec,hrec⟩:∃rec:LoopState→Option Code→Loop,rec=fun st pe=>{ state:=st,pending:=pe,fn:=fnm,tmps:=a.tmps,params:=ps,assign,body,defers:=w.heap.size }:=⟨_,rfl⟩
 obtain⟨W1,hW1⟩:∃W1,(w.alloc (.deferred (some []))).alloc (.loop (rec .ready none))=W1:=⟨_,rfl⟩
 have hL1:W1.heap[w.heap.size+1]?=some (.loop (rec .ready none)):=by
  rw[←hW1];have:=heap_alloc_new (w.alloc (.deferred (some []))) (.loop (rec .ready none));rwa [World.size_alloc] at this
 have hK1:W1.heap[w.heap.size]?=some (.deferred (some [])):=by
  rw[←hW1];exact (Below.heap_alloc _ _ _ (by simp)).trans (heap_alloc_new w _)
 have hs1:W1.heap.size=w.heap.size+2:=by rw[←hW1,World.size_alloc,World.size_alloc]
 have hI1:J [] W1.heap.size W1:=by
  refine hJm _ _ _ ?_ (show w.heap.size≤W1.heap.size by omega)
  rw[←hW1]
  exact hgr _ _ _ _ none (hgr _ _ _ _ none h0 (World.grownBy_alloc w _ none) (fun r e=>by cases e)) (World.grownBy_alloc _ _ none) (fun r e=>by cases e)
 refine⟨w.heap.size+1,[{ target:=.collected w.heap.size,args:=#[] }],W1,{ target:=.fn (.func fn) #[.pointer (some ⟨Bt,0,none⟩)],args:=#[.func (.yield (w.heap.size+1)) #[] #[]] },W1,fn,
  #[.func (.yield (w.heap.size+1)) #[] #[],.pointer (some ⟨Bt,0,none⟩)],W1,?_,?_,?_,?_,fun _=>by omega,?_⟩
 · rw[←hW1,hrec];exact run_enterLoop_outer _ _ _ _ _
 · simp only[resolve,hg]
   simp[go_sem]
 · intro f' hf';exact hfw f'
 · simp[invoke,go_sem]
   exact eg _ _
 refine (hit 1 (Nat.le_refl _) (w.heap.size+1)
  (fun pre m W=>J pre m W∧w.heap.size+2≤m∧W.heap[w.heap.size+1]?=some (.loop (rec .ready none))∧W.heap[w.heap.size]?=some (.deferred (some [])))
  W1 ?_ (fun pre m X h=>hJH _ _ _ h.1) ?_ (by omega) ⟨hI1,by omega,hL1,hK1⟩).mono ?_
 · rintro pre m X Y ⟨k1,k2,k3,k4⟩ ht
   exact⟨htn _ _ _ _ _ k1 (by omega) ht,k2,ht.same _ _ k3 trivial,ht.same _ _ k4 trivial⟩
 · rintro pre x m W hok ⟨hi,hm3,hl,hk⟩ hm hlen
   have hlt:w.heap.size+1<W.heap.size:=(Array.getElem?_eq_some_iff.1 hl).1
   have hy:=run_yield (P:=Tryz.prog) (args:=#[tkV x]) hl (by rw[hrec];simp[hps])
   rw[hrec] at hy
   obtain⟨Wa,hWa⟩:∃Wa,Wa=W.alloc (.cells #[.int .i64 x.1,.int .i64 x.2.1,.int .i64 x.2.2] 53):=⟨_,rfl⟩
   have hla:Wa.heap[w.heap.size+1]?=some (.loop (rec .ready none)):=by rw[hWa];exact (Below.heap_alloc _ _ _ hlt).trans hl
   have hka:Wa.heap[w.heap.size]?=some (.deferred (some [])):=by rw[hWa];exact (Below.heap_alloc _ _ _ (by omega)).trans hk
   have hia:J pre m Wa:=by rw[hWa];exact hgr _ _ _ _ none hi (World.grownBy_alloc _ _ none) (fun r e=>by cases e)
   have hsa:Wa.heap.size=W.heap.size+1:=by rw[hWa];simp
   have hna:Wa.heap[W.heap.size]?=some (.cells #[.int .i64 x.1,.int .i64 x.2.1,.int .i64 x.2.2] 53 (0,0)):=by rw[hWa];exact heap_alloc_new _ _
   have hkpa:Kp m W Wa:=by rw[hWa];exact hkp.below (by omega) ((Below.refl _ _).alloc (Nat.le_refl _) _)
   refine⟨fnm,_,assign,body,hy,roundIn_of_wpIn hfn (hassign _ x W _ ?_)⟩
   rw[←hWa]
   refine⟨_,run_beginRound hla (by rw[hrec]),?_⟩
   have hl2:(Wa.putObj (w.heap.size+1) (.loop { rec .ready none with state:=.busy })).heap[w.heap.size+1]?=some (.loop { rec .ready none with state:=.busy }):=World.putObj_heap_same (by omega)
   have hk2:(Wa.putObj (w.heap.size+1) (.loop { rec .ready none with state:=.busy })).heap[w.heap.size]?=some (.deferred (some [])):=(World.putObj_heap_other (by omega)).trans hka
   have hkp2:Kp m Wa _:=hkp.book (.loop { rec .ready none with state:=.busy }) hla (by omega) (by omega)
   have hi2:J pre m (Wa.putObj (w.heap.size+1) (.loop { rec .ready none with state:=.busy })):=hgr _ _ _ _ _ hia (grownBy_putObj' _ _ _) (fun r e=>by cases e;exact⟨by omega,_,hla,rfl⟩)
   refine wpIn_mono (hbody _ pre x m W _ hok hi2 hm3 hm (by simp[hsa]) ((World.putObj_heap_other (by omega)).trans hna) hlen) ?_
   rintro e a3 W3 hp
   cases e with
   | normal=>
    obtain⟨hk3,hkp3,hi3⟩:=hp
    have hl3:=hk3.same _ _ (by omega) hl2 rfl
    have hr:=run_endRound (P:=Tryz.prog) none hl3
    have hl4:(W3.putObj (w.heap.size+1) (.loop (rec .ready none))).heap[w.heap.size+1]?=some (.loop (rec .ready none)):=World.putObj_heap_same (Array.getElem?_eq_some_iff.1 hl3).1
    have hk4:(W3.putObj (w.heap.size+1) (.loop (rec .ready none))).heap[w.heap.size]?=some (.deferred (some [])):=(World.putObj_heap_other (by omega)).trans (hk3.same _ _ (Nat.le_refl _) hk2 rfl)
    have hs3:=hk3.size
    have hr':(Instr.endRound (w.heap.size+1) none).run Tryz.prog W3=.ok (.bool true) (W3.putObj (w.heap.size+1) (.loop (rec .ready none))):=by rw[hrec] at hr ⊢;exact hr
    have hsz:(W3.putObj (w.heap.size+1) (.loop (rec .ready none))).heap.size=W3.heap.size:=by simp
    have hsb:Wa.heap.size≤(Wa.putObj (w.heap.size+1) (.loop { rec .ready none with state:=.busy })).heap.size:=by simp
    refine⟨_,_,hr',rfl,⟨?_,?_,hl4,hk4⟩,?_⟩
    · rw[hsz]
      exact hgr _ _ _ _ _ hi3 (grownBy_putObj' W3 (w.heap.size+1) (.loop (rec .ready none))) (fun r e=>by cases e;exact⟨by omega,_,hl3,rfl⟩)
    · have h9:=Nat.le_trans hsb hs3
      have e9:(W3.putObj (w.heap.size+1) (.loop (rec .ready none))).heap.size=W3.heap.size:=hsz
      show w.heap.size+2≤(W3.putObj (w.heap.size+1) (.loop (rec .ready none))).heap.size
      omega
    · exact hkp.trans (hkp.trans hkpa hkp2) (hkp.trans hkp3 (hkp.book (.loop (rec .ready none)) hl3 (by omega) (by omega)))
   | ret=>exact hp.elim
   | exit id=>exact hp.elim
   | goto t=>exact hp.elim
   | panic ch=>exact hp.elim
   | outgrown=>exact hp.elim
 rintro e W2 ⟨⟨v,rfl⟩,m,hi,_,hl,hk⟩
 refine⟨none,_,by have:=run_endLoop (P:=Tryz.prog) hl (by rw[hrec];simp);rw[hrec] at this;exact this,hdone _ _ m (Nat.le_refl _) ?_ ?_⟩
 · exact hgr _ _ _ _ _ hi (grownBy_putObj' _ _ _) (fun r e=>by cases e;exact⟨by omega,_,hl,rfl⟩)
 exact (World.putObj_heap_other (by omega)).trans hk
end Go.Proofs.YtejebodgfoihkaaGreat
