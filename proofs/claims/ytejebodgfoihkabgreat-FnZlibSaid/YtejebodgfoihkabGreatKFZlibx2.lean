/- Texts laid together: NfAll, NfBlocks, NfTop, NfBnd, NfPre, NfInf, NfZhead, NfZlib. -/
import Derived.Test.YtejebodgfoihkabGreatVFZlibCfTree
import Derived.Test.YtejebodgfoihkabGreatKFZlibx0
import Derived.Test.YtejebodgfoihkabGreatKFZlibx1
import Derived.Test.YtejebodgfoihkabGreatVFZlibNfOwn
import Derived.Deep.QuietTactic
import Derived.RangeFuncBox
import Derived.Shelf.Abstract
/- All blocks of a text, as the inflater reads them. -/
namespace Go.Proofs.YtejebodgfoihkabGreat
open Go.RowKit

theorem lol_go {s:ByteArray}:∀{m i p q:Nat} {row L:List Int},Nf.lol s m i p row=.ok (L,q)→p≤q
 | 0,_,_,_,_,_,h=>by unfold Nf.lol at h;cases h;exact Nat.le_refl _
 | m+1,i,p,q,row,L,h=>by
  cases hn:Nf.nxt s 3 p with
  | error c=>rw[Nf.lol_no hn] at h;cases h
  | ok v=>rw[Nf.lol_ok hn] at h;have:=lol_go h;omega
theorem lens_go {s:ByteArray} {zs:List Int} {count:Nat} (hg:GoodC zs):∀{f p q:Nat} {l L:List Int},Nf.lens s zs count f p l=.ok (L,q)→p≤q
 | 0,_,_,_,_,h=>by cases h
 | f+1,p,q,l,L,h=>by
  by_cases hlt:l.length<count
  · cases hr:Nf.run s zs p l with
    | error c=>rw[Nf.lens_no hlt hr] at h;cases h
    | ok r=>
     obtain⟨⟨v,t⟩,q1⟩:=r
     have hb:=Nf.run_ok hg hr
     by_cases ho:l.length+t≤count
     · rw[Nf.lens_more hlt hr ho] at h
       have:=lens_go hg h
       omega
     rw[Nf.lens_over hlt hr ho] at h;cases h
  rw[Nf.lens_done hlt] at h;cases h;exact Nat.le_refl _
theorem block_go {s:ByteArray} {lim k p q:Nat} {l L:List UInt8} (h:Nf.block s lim k p l=.ok (L,q)) (hl:l.length≤lim):p≤q:=by
 unfold Nf.block at h
 split at h
 · unfold Nf.plain at h
   split at h
   · cases h
   split at h
   · cases h
   rename_i m hm
   split at h
   · have h2:=(Nf.nxt_ok hm).1
     have:=(Nf.take_ok' h (by omega) hl).1
     omega
   cases h
 split at h
 · have:=(Nf.body_ok fixS_good fixD_good h hl).1;omega
 split at h
 · unfold Nf.own at h
   split at h
   · cases h
   split at h
   · cases h
   split at h
   · cases h
   rename_i c hc
   have hc1:=(Nf.nxt_ok hc).1
   split at h
   · cases h
   rename_i by_ q1 hlol
   have hlk:=Nf.lol_ok' hlol hc1 (by decide)
   have hlq:=lol_go hlol
   split at h
   · rename_i hck
     have hby:GoodC by_:=goodC (Nf.may_ok (by rw[hlk.2.1];decide) hlk.1 hck.2.2)
     split at h
     · cases h
     rename_i L2 q2 hlens
     have hln:=Nf.lens_ok hby (by rw[hlk.2.1];decide) hlens hlk.2.2 rfl (Nat.zero_le _)
     have hlnq:=lens_go hby hlens
     split at h
     · rename_i hm
       have g1:GoodC (L2.take _):=goodC (Nf.may_ok (by rw[List.length_take];omega) (Nf.valid_sub hln.1 (fun z hz=>List.mem_of_mem_take hz)) hm.1)
       have g2:GoodC (L2.drop _):=goodC (Nf.may_ok (by rw[List.length_drop];omega) (Nf.valid_sub hln.1 (fun z hz=>List.mem_of_mem_drop hz)) hm.2.1)
       have:=(Nf.body_ok g1 g2 h hl).1
       omega
     cases h
   cases h
 cases h

theorem InF.off {R base:Nat} {a b:World} (h:InF R base a b) (hb:base≤a.heap.size):Off R R base a b:=⟨h.os,h.tape,h.output,h.size,fun k hk h1 _=>h.rest k (by omega) h1 (.inl hk)⟩
def BlocksEnd (w:World) (R base:Nat) (s:ByteArray) (lim:Nat) (ANS:Except Nat ((List UInt8×Nat)×List Int)) (e:Ending) (w':World):Prop:=
 (∃L q ks vk fx,ANS=.ok ((L,q),ks)∧(∃r,e=.returned r)∧In w' R base s q L lim vk fx∧OwnI w' base vk ks.length ks∧Off R R base w w'∧q≤8*s.size∧L.length≤lim)∨(∃c,ANS=.error c∧c≠0∧e=fault (c:Int)∧Off R R base w w')

set_option maxHeartbeats 8000000 in
set_option maxRecDepth 20000 in
theorem nfBlocks_any (R base lim:Nat) (s:ByteArray) (w:World) (h:In w R base s 0 [] lim (.slice none 0 0) (.pointer none)) (hR:R<base) (hb:base≤w.heap.size) (hs:s.size≤9000) (hlim:lim≤5000):
 Calls Tryz.prog 53 #[.pointer (some ⟨R,0,none⟩)] w (BlocksEnd w R base s lim (Nf.inflate s lim)):=by
 obtain⟨ANS,hANS⟩:∃r,r=Nf.inflate s lim:=⟨_,rfl⟩
 have hres:(w.alloc (.cells #[.nilFunc,.nilFunc,.nilFunc,.nilFunc] 119)).heap[w.heap.size]?=some (.cells #[.nilFunc,.nilFunc,.nilFunc,.nilFunc] 119 (0,0)):=heap_alloc_new _ _
 have hinf:(Tryz.prog.info? 119).map (·.size)=some (#[.func (.func 83) #[.pointer (some ⟨R,0,none⟩)] #[],.func (.func 84) #[.pointer (some ⟨R,0,none⟩)] #[],.func (.func 85) #[.pointer (some ⟨R,0,none⟩)] #[],.func (.func 86) #[.pointer (some ⟨R,0,none⟩)] #[]]:Array Value).size:=by show _=some 4;kernel_rfl
 have hone:(#[.func (.func 83) #[.pointer (some ⟨R,0,none⟩)] #[],.func (.func 84) #[.pointer (some ⟨R,0,none⟩)] #[],.func (.func 85) #[.pointer (some ⟨R,0,none⟩)] #[],.func (.func 86) #[.pointer (some ⟨R,0,none⟩)] #[]]:Array Value).all (·.oneCell')=true:=by kernel_rfl
 obtain⟨W0,hW0⟩:∃W0,W0=(w.alloc (.cells #[.nilFunc,.nilFunc,.nilFunc,.nilFunc] 119)).setRow w.heap.size #[.func (.func 83) #[.pointer (some ⟨R,0,none⟩)] #[],.func (.func 84) #[.pointer (some ⟨R,0,none⟩)] #[],.func (.func 85) #[.pointer (some ⟨R,0,none⟩)] #[],.func (.func 86) #[.pointer (some ⟨R,0,none⟩)] #[]]:=⟨_,rfl⟩
 obtain⟨AB,hAB⟩:∃AB,AB=w.heap.size:=⟨_,rfl⟩
 have b0:Below w.heap.size w W0:=by rw[hW0];exact ((Below.refl _ _).alloc (Nat.le_refl _) _).trans ⟨rfl,rfl,rfl,by simp,fun k hk=>setRow_other _ _ k _ (by omega)⟩
 have HX0:Hid (In W0 R base s 0 [] lim (.slice none 0 0) (.pointer none)∧Fixd W0 R (.pointer none)∧OwnI W0 base (.slice none 0 0) 0 []∧Off R R base w W0∧W0.heap[AB]?=some (.cells #[.func (.func 83) #[.pointer (some ⟨R,0,none⟩)] #[],.func (.func 84) #[.pointer (some ⟨R,0,none⟩)] #[],.func (.func 85) #[.pointer (some ⟨R,0,none⟩)] #[],.func (.func 86) #[.pointer (some ⟨R,0,none⟩)] #[]] 119 (0,0))∧base≤W0.heap.size∧ANS=(if (0:Nat)=0 then Nf.all s lim Nf.fuel 0 [] [] else .ok (([],0),[]))):=
  ⟨h.kept b0,.inl rfl,World.ownsRow_nil _ _ _ _,(InF.of_below b0).off hb,by rw[hW0,hAB];exact setRow_heap _ _ _ _ _ _ hres,Nat.le_trans hb b0.size,by rw[if_pos rfl];exact hANS⟩
 have HR:Hid (R<base∧AB≠R):=⟨hR,by omega⟩
 have hf0:8*s.size-0<Nf.fuel:=by unfold Nf.fuel;omega
 have hmf:∀(fn:Fn) (first cap:Array Value) (w:World),(Instr.makeFunc fn first cap).run Tryz.prog w=.ok (.func fn first cap) w:=fun _ _ _ _=>rfl
 rw[←hANS]
 clear hANS h hb b0 hR
 go_enter Tryz.func53,Tryz.ntmps53
 go_wp2_with (refine wpList_store_row rfl 119 (.tmp 2) (.tmp 13) rfl w.heap.size #[.func (.func 83) #[.pointer (some ⟨R,0,none⟩)] #[],.func (.func 84) #[.pointer (some ⟨R,0,none⟩)] #[],.func (.func 85) #[.pointer (some ⟨R,0,none⟩)] #[],.func (.func 86) #[.pointer (some ⟨R,0,none⟩)] #[]] rfl rfl 119 #[.nilFunc,.nilFunc,.nilFunc,.nilFunc] hres hinf rfl hone ?_)
 clear hres hinf hone
 go_upto_region 1 with fail
 rw[←hW0,←hAB]
 clear hW0 hAB hmf
 go_loopw [3] (fun v wr=>∃(f q:Nat) (L:List UInt8) (n:Nat) (ks:List Int) (vk fx:Value) (last:Nat),v=.int .i64 (last:Int)∧q≤8*s.size∧L.length≤lim∧(last=0→8*s.size-q<f)∧n+f≤80000∧Hid (In wr R base s q L lim vk fx∧Fixd wr R fx∧OwnI wr base vk n ks∧Off R R base w wr∧wr.heap[AB]?=some (.cells #[.func (.func 83) #[.pointer (some ⟨R,0,none⟩)] #[],.func (.func 84) #[.pointer (some ⟨R,0,none⟩)] #[],.func (.func 85) #[.pointer (some ⟨R,0,none⟩)] #[],.func (.func 86) #[.pointer (some ⟨R,0,none⟩)] #[]] 119 (0,0))∧base≤wr.heap.size∧ANS=(if last=0 then Nf.all s lim f q L ks else .ok ((L,q),ks)))) (fun _ wr=>8*s.size-atOf R wr)
 case atStart=>exact⟨_,0,[],0,[],_,_,0,rfl,Nat.zero_le _,Nat.zero_le _,fun _=>hf0,by unfold Nf.fuel;omega,HX0⟩
 case round=>
  obtain⟨f,q,L,n,ks,vk,fx,last,rfl,hq,hL,hf,hn,HX⟩:=hrel
  clear HX0 hf0
  by_cases hl0:last=0
  · have hf':=hf hl0
    obtain⟨f,rfl⟩:∃f2,f=f2+1:=⟨f-1,by omega⟩
    have HANS:Hid (ANS=Nf.all s lim (f+1) q L ks):=by
     have h:=HX.out.2.2.2.2.2.2
     rw[if_pos hl0] at h
     exact h
    have hnb:n≤100000:=by omega
    have HFU:Hid (8*s.size-q<f+1):=hf'
    subst hl0
    have HN1:Hid (Calls Tryz.prog 87 #[.pointer (some ⟨R,0,none⟩),.int .i64 1] wr (NumEnd wr R base s q 1 L lim vk fx)):=nfNumber_any R q 1 base lim L vk fx s wr HX.out.1 hs hq (by omega)
    have HAT:Hid (atOf R wr=q):=atOf_in HX.out.1
    clear hf hf'
    go_wp2_with fail
    refine HN1.out.mono ?_
    rintro e w1 (⟨last,hv,rfl,h2,h3⟩|⟨hv,rfl,h3⟩)
    · have HN2:Hid (Calls Tryz.prog 87 #[.pointer (some ⟨R,0,none⟩),.int .i64 2] w1 (NumEnd w1 R base s (q+1) 2 L lim vk fx)):=nfNumber_any R (q+1) 2 base lim L vk fx s w1 h2 hs (Nf.nxt_ok hv).1 (by omega)
      have HV:Hid (Nf.nxt s 1 q=.ok last∧InF R base wr w1):=⟨hv,InF.of_only h3⟩
      clear hv h2 h3 HN1
      go_wp2_with fail
      refine HN2.out.mono ?_
      rintro e w2 (⟨k,hv,rfl,h2,h3⟩|⟨hv,rfl,h3⟩)
      · have hk4:k<4:=(Nf.nxt_ok hv).2.2
        have hq3:q+3≤8*s.size:=(Nf.nxt_ok hv).1
        have HF2:Hid (InF R base wr w2):=HV.out.2.trans (InF.of_only h3)
        have HA:Hid (ANS=Nf.all s lim (f+1) q L ks∧Nf.nxt s 1 q=.ok last∧Nf.nxt s 2 (q+1)=.ok k):=⟨HANS.out,HV.out.1,hv⟩
        have hO2:=HF2.out.ownI HX.out.2.2.1 HR.out.1
        obtain⟨ao,cap,rfl,_⟩:=hO2.owns
        have HI2:Hid (In w2 R base s (q+3) L lim (.slice ao n cap) fx∧Fixd w2 R fx∧OwnI w2 base (.slice ao n cap) n ks∧base≤w2.heap.size∧w2.heap[AB]?=some (.cells #[.func (.func 83) #[.pointer (some ⟨R,0,none⟩)] #[],.func (.func 84) #[.pointer (some ⟨R,0,none⟩)] #[],.func (.func 85) #[.pointer (some ⟨R,0,none⟩)] #[],.func (.func 86) #[.pointer (some ⟨R,0,none⟩)] #[]] 119 (0,0))∧Off R R base w w2):=
         ⟨h2,HX.out.2.1.inF HF2.out,hO2,Nat.le_trans HX.out.2.2.2.2.2.1 HF2.out.size,HF2.out.block HX.out.2.2.2.2.1 HR.out.2 (by decide),HX.out.2.2.2.1.trans (HF2.out.off HX.out.2.2.2.2.2.1)⟩
        have c5:=h2.cells.2.2.2.2.1
        have hb2:=HI2.out.2.2.2.1
        have HL:Hid (L.length≤lim):=hL
        have HQ:Hid (q+3≤8*s.size):=hq3
        clear hv h2 h3 HN2 hO2 HF2 HX HANS HV
        go_wp2_with (at_builtin;refine wpList_app1 w2 (by rfl) _ _ (by rfl) base _ n ks (k:Int) (by rfl) HI2.out.2.2.1 (by rfl) (by omega) hb2 ?_)
        intro g4 cap4 w4 hown4 hg4
        have hI4:=HI2.out.1.beside HI2.out.2.2.1 hg4.block
        have hAB4:w4.heap[AB]?=some (.cells #[.func (.func 83) #[.pointer (some ⟨R,0,none⟩)] #[],.func (.func 84) #[.pointer (some ⟨R,0,none⟩)] #[],.func (.func 85) #[.pointer (some ⟨R,0,none⟩)] #[],.func (.func 86) #[.pointer (some ⟨R,0,none⟩)] #[]] 119 (0,0)):=(hg4.block AB (Array.getElem?_eq_some_iff.1 HI2.out.2.2.2.2.1).1 (fun e=>HI2.out.2.2.1.away HI2.out.2.2.2.2.1 (by decide) e.symm)).trans HI2.out.2.2.2.2.1
        have k5:=hI4.cells.2.2.2.2.1
        have f5:=hI4.froz 5
        obtain⟨w5,hw5⟩:∃w5,w5=w4.setCell ⟨R,5,none⟩ (.slice (some ⟨g4,0,none⟩) (n+1) cap4):=⟨_,rfl⟩
        have HI5:Hid (In w5 R base s (q+3) L lim (.slice (some ⟨g4,0,none⟩) (n+1) cap4) fx∧Fixd w5 R fx∧OwnI w5 base (.slice (some ⟨g4,0,none⟩) (n+1) cap4) (n+1) (ks++[(k:Int)])∧base≤w5.heap.size∧w5.heap[AB]?=some (.cells #[.func (.func 83) #[.pointer (some ⟨R,0,none⟩)] #[],.func (.func 84) #[.pointer (some ⟨R,0,none⟩)] #[],.func (.func 85) #[.pointer (some ⟨R,0,none⟩)] #[],.func (.func 86) #[.pointer (some ⟨R,0,none⟩)] #[]] 119 (0,0))∧Off R R base w w5∧R<base):=by
         have hs5:=hI4.setKinds (.slice (some ⟨g4,0,none⟩) (n+1) cap4)
         rw[←hw5] at hs5
         have hF5:InF R base w4 w5:=InF.of_only hs5.2
         have hbs:base≤w4.heap.size:=Nat.le_trans hb2 hg4.size
         have hfx4:Fixd w4 R fx:=by
          rcases HI2.out.2.1 with h|⟨F,BA,BB,e1,e2,e3,e4,e5⟩
          · exact .inl h
          have hblk:∀(kk:Nat) (c:Array Value) (T:TypeId) (z:Nat×Nat),w2.heap[kk]?=some (Obj.cells c T z)→T≠3→w4.heap[kk]?=some (Obj.cells c T z):=fun kk c T z hh hT=>(hg4.block kk (Array.getElem?_eq_some_iff.1 hh).1 (fun e=>HI2.out.2.2.1.away hh hT e.symm)).trans hh
          have htr:∀B zs,Tree w2 R B zs→Tree w4 R B zs:=fun B zs t=>by
           obtain⟨lo,N,t1,t2,t3⟩:=t
           exact⟨lo,N,t1,⟨fun d v b' hb=>⟨(t2.node d v b' hb).1,hblk b' _ _ _ (t2.node d v b' hb).2 (by decide)⟩,t2.inj,t2.closed,t2.dead⟩,t3⟩
          exact .inr ⟨F,BA,BB,e1,hblk F _ _ _ e2 (by decide),e3,htr _ _ e4,htr _ _ e5⟩
         have hoff4:Off R R base w2 w4:=⟨hg4.os,hg4.tape,hg4.output,hg4.size,fun kk hk _ _=>hg4.block kk (by omega) (fun e=>by have:=(hg4.own kk e.symm).1;omega)⟩
         exact⟨hs5.1,hfx4.inF hF5,hF5.ownI hown4 HR.out.1,Nat.le_trans hbs hF5.size,hF5.block hAB4 HR.out.2 (by decide),(HI2.out.2.2.2.2.2.trans hoff4).trans (hF5.off hbs),HR.out.1⟩
        clear hI4 hown4 hg4 hAB4 HI2 hb2
        go_upto_region 6 with fail
        rw[←hw5]
        clear hw5 k5 f5 c5
        have hcell:∀j,j<4→w5.cell? ⟨AB,j,none⟩=(#[.func (.func 83) #[.pointer (some ⟨R,0,none⟩)] #[],.func (.func 84) #[.pointer (some ⟨R,0,none⟩)] #[],.func (.func 85) #[.pointer (some ⟨R,0,none⟩)] #[],.func (.func 86) #[.pointer (some ⟨R,0,none⟩)] #[]]:Array Value)[j]?:=fun j _=>by simp[World.cell?,HI5.out.2.2.2.2.1]
        have hk4':k=0∨k=1∨k=2∨k=3:=by omega
        rcases hk4' with rfl|rfl|rfl|rfl
        · have hfn:w5.cell? ⟨AB,0,none⟩=some (.func (.func 83) #[.pointer (some ⟨R,0,none⟩)] #[]):=hcell 0 (by omega)
          clear hcell
          have HBK:Hid (Calls Tryz.prog 83 #[.pointer (some ⟨R,0,none⟩)] w5 (BlkX w5 R base s lim (.slice (some ⟨g4,0,none⟩) (n+1) cap4) (Nf.block s lim 0 (q+3) L))):=by
           refine (nfPlain_any R base (q+3) lim L _ fx s w5 HI5.out.1 HI5.out.2.2.2.1 hs hq3 hL hlim).mono ?_
           intro e w' g
           have:=g.x HI5.out.2.1
           rw[show Nf.plain s lim (q+3) L=Nf.block s lim 0 (q+3) L from rfl] at this
           exact this
          clear hq3 hL
          go_wp2_with fail
          refine HBK.out.mono ?_
          rintro e w6 (⟨L2,q2,fx2,hbk,⟨r,rfl⟩,h3,h4,h5,h6,h7⟩|⟨c,hc,hc0,rfl,h5⟩)
          · have hgo:=block_go hbk HL.out
            have HF:Hid (In w6 R base s q2 L2 lim (.slice (some ⟨g4,0,none⟩) (n+1) cap4) fx2∧Fixd w6 R fx2∧OwnI w6 base (.slice (some ⟨g4,0,none⟩) (n+1) cap4) (n+1) (ks++[((0:Nat):Int)])∧Off R R base w w6∧w6.heap[AB]?=some (.cells #[.func (.func 83) #[.pointer (some ⟨R,0,none⟩)] #[],.func (.func 84) #[.pointer (some ⟨R,0,none⟩)] #[],.func (.func 85) #[.pointer (some ⟨R,0,none⟩)] #[],.func (.func 86) #[.pointer (some ⟨R,0,none⟩)] #[]] 119 (0,0))∧base≤w6.heap.size∧ANS=(if last=0 then Nf.all s lim f q2 L2 (ks++[((0:Nat):Int)]) else .ok ((L2,q2),ks++[((0:Nat):Int)]))):=by
             refine⟨h3,h4,h5.ownI HI5.out.2.2.1 HR.out.1,HI5.out.2.2.2.2.2.1.trans (h5.off HI5.out.2.2.2.1),h5.block HI5.out.2.2.2.2.1 HR.out.2 (by decide),Nat.le_trans HI5.out.2.2.2.1 h5.size,?_⟩
             by_cases h0:last=0
             · rw[if_pos h0,HA.out.1]
               exact Nf.all_more (by rw[←h0];exact HA.out.2.1) HA.out.2.2 hbk
             rw[if_neg h0,HA.out.1]
             exact Nf.all_end HA.out.2.1 h0 HA.out.2.2 hbk
            have hm:8*s.size-q2<8*s.size-q:=by have:=HQ.out;omega
            have hm2:8*s.size-q2<f:=by have:=HFU.out;omega
            clear hbk h3 h4 h5 HBK HI5 hgo
            go_wp2_with fail
            go_roundw
            case rel=>exact⟨f,q2,L2,n+1,ks++[((0:Nat):Int)],_,fx2,last,rfl,h6,h7,fun _=>by omega,by omega,HF⟩
            case measure=>rw[HAT.out,atOf_in HF.out.1];exact hm
          have HF:Hid (BlocksEnd w R base s lim ANS (fault (c:Int)) w6):=.inr ⟨c,by rw[HA.out.1];exact Nf.all_no3 HA.out.2.1 HA.out.2.2 hc,hc0,rfl,HI5.out.2.2.2.2.2.1.trans (h5.off HI5.out.2.2.2.1)⟩
          clear hc h5 HBK HI5
          unfold fault
          go_wp2_with fail
          exact⟨rfl,HF.out⟩
        · have hfn:w5.cell? ⟨AB,1,none⟩=some (.func (.func 84) #[.pointer (some ⟨R,0,none⟩)] #[]):=hcell 1 (by omega)
          clear hcell
          have HBK:Hid (Calls Tryz.prog 84 #[.pointer (some ⟨R,0,none⟩)] w5 (BlkX w5 R base s lim (.slice (some ⟨g4,0,none⟩) (n+1) cap4) (Nf.block s lim 1 (q+3) L))):=by
           exact nfFixed_any R base (q+3) lim L _ fx s w5 HI5.out.1 HI5.out.2.1 HI5.out.2.2.2.1 hs hq3 hL hlim
          clear hq3 hL
          go_wp2_with fail
          refine HBK.out.mono ?_
          rintro e w6 (⟨L2,q2,fx2,hbk,⟨r,rfl⟩,h3,h4,h5,h6,h7⟩|⟨c,hc,hc0,rfl,h5⟩)
          · have hgo:=block_go hbk HL.out
            have HF:Hid (In w6 R base s q2 L2 lim (.slice (some ⟨g4,0,none⟩) (n+1) cap4) fx2∧Fixd w6 R fx2∧OwnI w6 base (.slice (some ⟨g4,0,none⟩) (n+1) cap4) (n+1) (ks++[((1:Nat):Int)])∧Off R R base w w6∧w6.heap[AB]?=some (.cells #[.func (.func 83) #[.pointer (some ⟨R,0,none⟩)] #[],.func (.func 84) #[.pointer (some ⟨R,0,none⟩)] #[],.func (.func 85) #[.pointer (some ⟨R,0,none⟩)] #[],.func (.func 86) #[.pointer (some ⟨R,0,none⟩)] #[]] 119 (0,0))∧base≤w6.heap.size∧ANS=(if last=0 then Nf.all s lim f q2 L2 (ks++[((1:Nat):Int)]) else .ok ((L2,q2),ks++[((1:Nat):Int)]))):=by
             refine⟨h3,h4,h5.ownI HI5.out.2.2.1 HR.out.1,HI5.out.2.2.2.2.2.1.trans (h5.off HI5.out.2.2.2.1),h5.block HI5.out.2.2.2.2.1 HR.out.2 (by decide),Nat.le_trans HI5.out.2.2.2.1 h5.size,?_⟩
             by_cases h0:last=0
             · rw[if_pos h0,HA.out.1]
               exact Nf.all_more (by rw[←h0];exact HA.out.2.1) HA.out.2.2 hbk
             rw[if_neg h0,HA.out.1]
             exact Nf.all_end HA.out.2.1 h0 HA.out.2.2 hbk
            have hm:8*s.size-q2<8*s.size-q:=by have:=HQ.out;omega
            have hm2:8*s.size-q2<f:=by have:=HFU.out;omega
            clear hbk h3 h4 h5 HBK HI5 hgo
            go_wp2_with fail
            go_roundw
            case rel=>exact⟨f,q2,L2,n+1,ks++[((1:Nat):Int)],_,fx2,last,rfl,h6,h7,fun _=>by omega,by omega,HF⟩
            case measure=>rw[HAT.out,atOf_in HF.out.1];exact hm
          have HF:Hid (BlocksEnd w R base s lim ANS (fault (c:Int)) w6):=.inr ⟨c,by rw[HA.out.1];exact Nf.all_no3 HA.out.2.1 HA.out.2.2 hc,hc0,rfl,HI5.out.2.2.2.2.2.1.trans (h5.off HI5.out.2.2.2.1)⟩
          clear hc h5 HBK HI5
          unfold fault
          go_wp2_with fail
          exact⟨rfl,HF.out⟩
        · have hfn:w5.cell? ⟨AB,2,none⟩=some (.func (.func 85) #[.pointer (some ⟨R,0,none⟩)] #[]):=hcell 2 (by omega)
          clear hcell
          have HBK:Hid (Calls Tryz.prog 85 #[.pointer (some ⟨R,0,none⟩)] w5 (BlkX w5 R base s lim (.slice (some ⟨g4,0,none⟩) (n+1) cap4) (Nf.block s lim 2 (q+3) L))):=by
           refine (nfOwn_any R base (q+3) lim L _ fx s w5 HI5.out.1 HI5.out.2.2.2.1 hs hq3 hL hlim).mono ?_
           intro e w' g
           have:=g.x HI5.out.2.1
           rw[show Nf.own s lim (q+3) L=Nf.block s lim 2 (q+3) L from rfl] at this
           exact this
          clear hq3 hL
          go_wp2_with fail
          refine HBK.out.mono ?_
          rintro e w6 (⟨L2,q2,fx2,hbk,⟨r,rfl⟩,h3,h4,h5,h6,h7⟩|⟨c,hc,hc0,rfl,h5⟩)
          · have hgo:=block_go hbk HL.out
            have HF:Hid (In w6 R base s q2 L2 lim (.slice (some ⟨g4,0,none⟩) (n+1) cap4) fx2∧Fixd w6 R fx2∧OwnI w6 base (.slice (some ⟨g4,0,none⟩) (n+1) cap4) (n+1) (ks++[((2:Nat):Int)])∧Off R R base w w6∧w6.heap[AB]?=some (.cells #[.func (.func 83) #[.pointer (some ⟨R,0,none⟩)] #[],.func (.func 84) #[.pointer (some ⟨R,0,none⟩)] #[],.func (.func 85) #[.pointer (some ⟨R,0,none⟩)] #[],.func (.func 86) #[.pointer (some ⟨R,0,none⟩)] #[]] 119 (0,0))∧base≤w6.heap.size∧ANS=(if last=0 then Nf.all s lim f q2 L2 (ks++[((2:Nat):Int)]) else .ok ((L2,q2),ks++[((2:Nat):Int)]))):=by
             refine⟨h3,h4,h5.ownI HI5.out.2.2.1 HR.out.1,HI5.out.2.2.2.2.2.1.trans (h5.off HI5.out.2.2.2.1),h5.block HI5.out.2.2.2.2.1 HR.out.2 (by decide),Nat.le_trans HI5.out.2.2.2.1 h5.size,?_⟩
             by_cases h0:last=0
             · rw[if_pos h0,HA.out.1]
               exact Nf.all_more (by rw[←h0];exact HA.out.2.1) HA.out.2.2 hbk
             rw[if_neg h0,HA.out.1]
             exact Nf.all_end HA.out.2.1 h0 HA.out.2.2 hbk
            have hm:8*s.size-q2<8*s.size-q:=by have:=HQ.out;omega
            have hm2:8*s.size-q2<f:=by have:=HFU.out;omega
            clear hbk h3 h4 h5 HBK HI5 hgo
            go_wp2_with fail
            go_roundw
            case rel=>exact⟨f,q2,L2,n+1,ks++[((2:Nat):Int)],_,fx2,last,rfl,h6,h7,fun _=>by omega,by omega,HF⟩
            case measure=>rw[HAT.out,atOf_in HF.out.1];exact hm
          have HF:Hid (BlocksEnd w R base s lim ANS (fault (c:Int)) w6):=.inr ⟨c,by rw[HA.out.1];exact Nf.all_no3 HA.out.2.1 HA.out.2.2 hc,hc0,rfl,HI5.out.2.2.2.2.2.1.trans (h5.off HI5.out.2.2.2.1)⟩
          clear hc h5 HBK HI5
          unfold fault
          go_wp2_with fail
          exact⟨rfl,HF.out⟩
        have hfn:w5.cell? ⟨AB,3,none⟩=some (.func (.func 86) #[.pointer (some ⟨R,0,none⟩)] #[]):=hcell 3 (by omega)
        clear hcell
        have HBK:Hid (Calls Tryz.prog 86 #[.pointer (some ⟨R,0,none⟩)] w5 (BlkX w5 R base s lim (.slice (some ⟨g4,0,none⟩) (n+1) cap4) (Nf.block s lim 3 (q+3) L))):=by
         refine (nfNo_any R w5).mono ?_
         rintro e w' ⟨rfl,rfl⟩
         exact .inr ⟨1,rfl,by decide,rfl,InF.refl _ _ _⟩
        clear hq3 hL
        go_wp2_with fail
        refine HBK.out.mono ?_
        rintro e w6 (⟨L2,q2,fx2,hbk,⟨r,rfl⟩,h3,h4,h5,h6,h7⟩|⟨c,hc,hc0,rfl,h5⟩)
        · have hgo:=block_go hbk HL.out
          have HF:Hid (In w6 R base s q2 L2 lim (.slice (some ⟨g4,0,none⟩) (n+1) cap4) fx2∧Fixd w6 R fx2∧OwnI w6 base (.slice (some ⟨g4,0,none⟩) (n+1) cap4) (n+1) (ks++[((3:Nat):Int)])∧Off R R base w w6∧w6.heap[AB]?=some (.cells #[.func (.func 83) #[.pointer (some ⟨R,0,none⟩)] #[],.func (.func 84) #[.pointer (some ⟨R,0,none⟩)] #[],.func (.func 85) #[.pointer (some ⟨R,0,none⟩)] #[],.func (.func 86) #[.pointer (some ⟨R,0,none⟩)] #[]] 119 (0,0))∧base≤w6.heap.size∧ANS=(if last=0 then Nf.all s lim f q2 L2 (ks++[((3:Nat):Int)]) else .ok ((L2,q2),ks++[((3:Nat):Int)]))):=by
           refine⟨h3,h4,h5.ownI HI5.out.2.2.1 HR.out.1,HI5.out.2.2.2.2.2.1.trans (h5.off HI5.out.2.2.2.1),h5.block HI5.out.2.2.2.2.1 HR.out.2 (by decide),Nat.le_trans HI5.out.2.2.2.1 h5.size,?_⟩
           by_cases h0:last=0
           · rw[if_pos h0,HA.out.1]
             exact Nf.all_more (by rw[←h0];exact HA.out.2.1) HA.out.2.2 hbk
           rw[if_neg h0,HA.out.1]
           exact Nf.all_end HA.out.2.1 h0 HA.out.2.2 hbk
          have hm:8*s.size-q2<8*s.size-q:=by have:=HQ.out;omega
          have hm2:8*s.size-q2<f:=by have:=HFU.out;omega
          clear hbk h3 h4 h5 HBK HI5 hgo
          go_wp2_with fail
          go_roundw
          case rel=>exact⟨f,q2,L2,n+1,ks++[((3:Nat):Int)],_,fx2,last,rfl,h6,h7,fun _=>by omega,by omega,HF⟩
          case measure=>rw[HAT.out,atOf_in HF.out.1];exact hm
        have HF:Hid (BlocksEnd w R base s lim ANS (fault (c:Int)) w6):=.inr ⟨c,by rw[HA.out.1];exact Nf.all_no3 HA.out.2.1 HA.out.2.2 hc,hc0,rfl,HI5.out.2.2.2.2.2.1.trans (h5.off HI5.out.2.2.2.1)⟩
        clear hc h5 HBK HI5
        unfold fault
        go_wp2_with fail
        exact⟨rfl,HF.out⟩
      have HF:Hid (BlocksEnd w R base s lim ANS (fault 2) w2):=.inr ⟨2,by rw[HANS.out];exact Nf.all_no2 HV.out.1 hv,by decide,rfl,HX.out.2.2.2.1.trans ((HV.out.2.trans h3).off HX.out.2.2.2.2.2.1)⟩
      clear hv h3 HN2 HX HV
      unfold fault
      go_wp2_with fail
      exact⟨rfl,HF.out⟩
    have HF:Hid (BlocksEnd w R base s lim ANS (fault 2) w1):=.inr ⟨2,by rw[HANS.out];exact Nf.all_no1 hv,by decide,rfl,HX.out.2.2.2.1.trans (h3.off HX.out.2.2.2.2.2.1)⟩
    clear hv h3 HN1 HX
    unfold fault
    go_wp2_with fail
    exact⟨rfl,HF.out⟩
  have hli:¬(last:Int)=0:=by omega
  have HF:Hid (BlocksEnd w R base s lim ANS (.returned (.tuple #[])) wr):=by
   obtain⟨a1,a2,a3,a4,a5,a6,a7⟩:=HX.out
   rw[if_neg hl0] at a7
   have hkl:=a3.len
   subst hkl
   exact .inl ⟨L,q,ks,vk,fx,a7,⟨_,rfl⟩,a1,a3,a4,hq,hL⟩
  clear HX hf
  go_wp2_with fail
  go_end0
  exact HF.out

namespace Nf
def res (s:ByteArray) (lim:Int):Except Nat ((List UInt8×Nat)×List Int):=if s.size≤9000∧0≤lim∧lim≤5000 then inflate s lim.toNat else .error 1
theorem res_ok {s:ByteArray} {lim:Nat} (h:s.size≤9000) (hl:lim≤5000):res s (lim:Int)=inflate s lim:=by unfold res;rw[if_pos ⟨h,by omega,by omega⟩,Int.toNat_natCast]
theorem res_no {s:ByteArray} {lim:Int} (h:¬(s.size≤9000∧0≤lim∧lim≤5000)):res s lim=.error 1:=if_neg h
def out (r:Except Nat ((List UInt8×Nat)×List Int)):List UInt8:=match r with|.ok ((L,_),_)=>L|.error _=>[]
def used (r:Except Nat ((List UInt8×Nat)×List Int)):Nat:=match r with|.ok ((_,q),_)=>(q+7) / 8|.error _=>0
def code (r:Except Nat ((List UInt8×Nat)×List Int)):Nat:=match r with|.ok _=>0|.error c=>c
def kinds (r:Except Nat ((List UInt8×Nat)×List Int)):List Int:=match r with|.ok (_,ks)=>ks|.error _=>[]
end Nf

set_option maxHeartbeats 1000000 in
theorem newInflater_any (s:ByteArray) (lim:Int) (w:World):
 Calls Tryz.prog 51 #[.string s,.int .i64 lim] w fun e w'=>e=.returned (.pointer (some ⟨w.heap.size,0,none⟩))∧w'=w.alloc (.cells #[ordV false,.string s,.int .i64 0,.slice none 0 0,.int .i64 lim,.slice none 0 0,.pointer none] 62):=by
 have HO:Hid (Calls Tryz.prog 31 #[.bool false] w fun e w'=>e=.returned (ordV false)∧w'=w):=orderOf_low w
 go_enter Tryz.func51,Tryz.ntmps51
 go_wp2_with fail
 refine HO.out.mono ?_
 rintro e w1 ⟨rfl,hw1⟩
 replace hw1:=hw1.symm
 subst hw1
 unfold ordV
 go_wp2_with fail
 go_ret
 exact⟨rfl,rfl⟩

set_option maxHeartbeats 1000000 in
theorem faultIn_meth (fw:Nat) (p:Value) (eg:∀args w,(callFunc fw args).run Tryz.prog w=.ok (.enter fw args) w) (R:World→Prop) (Rc:Int→World→Prop) (w:World)
 (h:Calls Tryz.prog fw #[p] (w.alloc (.cells #[.int .i64 0] 3)) fun e w'=>Boxed w' w.heap.size 3 (.int .i64 0)∧((∃v,e=.returned v)∧R w'∨∃c,e=fault c∧Rc c w')):
 Calls Tryz.prog 52 #[.func (.func fw) #[p] #[]] w (FaultOut w R Rc):=by
 have hmf:∀(fn:Fn) (first cap:Array Value) (w:World),(Instr.makeFunc fn first cap).run Tryz.prog w=.ok (.func fn first cap) w:=fun _ _ _ _=>rfl
 have H:Hid (Calls Tryz.prog fw #[p] (w.alloc (.cells #[.int .i64 0] 3)) fun e w'=>Boxed w' w.heap.size 3 (.int .i64 0)∧((∃v,e=.returned v)∧R w'∨∃c,e=fault c∧Rc c w')):=h
 clear h
 go_enter_defers Tryz.func52,Tryz.ntmps52
 go_wp2_with fail
 refine H.out.mono ?_
 rintro e w1 ⟨hb,(⟨⟨v,rfl⟩,hR⟩|⟨c,rfl,hR⟩)⟩
 · have hc:=hb.cell
   have hf:=hb.frozen
   have hb2:Boxed (w1.setCell ⟨w.heap.size,0,none⟩ (.int .i64 0)) w.heap.size 3 (.int .i64 0):=hb.set _
   have hc2:=hb2.cell
   have hfin:FaultOut w R Rc (.returned (.int .i64 0)) (w1.setCell ⟨w.heap.size,0,none⟩ (.int .i64 0)):=⟨w1,hb,.inl ⟨rfl,hR,rfl⟩⟩
   go_wp2_with fail
   refine leaves_cons (f:=82) (args:=#[.pointer (some ⟨w.heap.size,0,none⟩)]) (by simp) (by simp[go_sem]) ?_
   refine (catch_idle ⟨w.heap.size,0,none⟩ _).mono ?_
   rintro e u' w'' ⟨rfl,rfl,rfl⟩
   simp[Leaves,settle,results,Tryz.results52,go_sem,hc2,hfin]
 have hc:=hb.cell
 have hf:=hb.frozen
 have hb2:Boxed (w1.setCell ⟨w.heap.size,0,none⟩ (.int .i64 c)) w.heap.size 3 (.int .i64 c):=hb.set _
 have hc2:=hb2.cell
 have hfin:FaultOut w R Rc (.returned (.int .i64 c)) (w1.setCell ⟨w.heap.size,0,none⟩ (.int .i64 c)):=⟨w1,hb,.inr ⟨c,rfl,hR,rfl⟩⟩
 unfold fault
 go_wp2_with fail
 refine leaves_cons (f:=82) (args:=#[.pointer (some ⟨w.heap.size,0,none⟩)]) (by simp) (by simp[go_sem]) ?_
 refine (catch_met ⟨w.heap.size,0,none⟩ c _ [] _ hc hf).mono ?_
 rintro e u' w'' ⟨rfl,rfl,rfl⟩
 simp[Leaves,settle,results,Tryz.results52,go_sem,hc2,hfin]

def InfEnd (w:World) (s:ByteArray) (lim:Int) (e:Ending) (w':World):Prop:=
 Below w.heap.size w w'∧((∃L q ks vk fx,Nf.res s lim=.ok ((L,q),ks)∧e=.returned (.tuple #[.pointer (some ⟨w.heap.size,0,none⟩),.int .i64 0])∧In w' w.heap.size (w.heap.size+2) s q L lim.toNat vk fx∧OwnI w' (w.heap.size+2) vk ks.length ks∧q≤8*s.size∧L.length≤lim.toNat)∨∃c v,Nf.res s lim=.error c∧c≠0∧e=.returned (.tuple #[v,.int .i64 (c:Int)]))
def BlYes (R base:Nat) (s:ByteArray) (lim:Nat) (w1:World) (w':World):Prop:=
 ∃L q ks vk fx,Nf.inflate s lim=.ok ((L,q),ks)∧In w' R base s q L lim vk fx∧OwnI w' base vk ks.length ks∧Off R R base w1 w'∧q≤8*s.size∧L.length≤lim
def BlNo (R base:Nat) (s:ByteArray) (lim:Nat) (w1:World) (c:Int) (w':World):Prop:=∃d:Nat,c=(d:Int)∧d≠0∧Nf.inflate s lim=.error d∧Off R R base w1 w'

set_option maxHeartbeats 4000000 in
set_option maxRecDepth 20000 in
theorem inflated_yes (s:ByteArray) (lim:Nat) (w:World) (hs:s.size≤9000) (hlim:lim≤5000):
 Calls Tryz.prog 32 #[.string s,.int .i64 (lim:Int)] w (InfEnd w s (lim:Int)):=by
 obtain⟨W1,hW1⟩:∃W1,W1=w.alloc (.cells #[ordV false,.string s,.int .i64 0,.slice none 0 0,.int .i64 (lim:Int),.slice none 0 0,.pointer none] 62):=⟨_,rfl⟩
 have HNI:Hid (Calls Tryz.prog 51 #[.string s,.int .i64 (lim:Int)] w fun e w'=>e=.returned (.pointer (some ⟨w.heap.size,0,none⟩))∧w'=W1):=by rw[hW1];exact newInflater_any s (lim:Int) w
 obtain⟨R,hR⟩:∃R,R=w.heap.size:=⟨_,rfl⟩
 have hz1:W1.heap.size=R+1:=by rw[hW1,World.size_alloc,hR]
 have hI1:In W1 R (R+2) s 0 [] lim (.slice none 0 0) (.pointer none):=⟨.slice none 0 0,by rw[hW1,hR];exact heap_alloc_new _ _,World.ownsRow_nil _ _ _ _⟩
 have b1:Below R w W1:=by rw[hW1,hR];exact (Below.refl _ _).alloc (Nat.le_refl _) _
 obtain⟨W2,hW2⟩:∃W2,W2=W1.alloc (.cells #[.int .i64 0] 3):=⟨_,rfl⟩
 have hz2:W2.heap.size=R+2:=by rw[hW2,World.size_alloc,hz1]
 have b2:Below W1.heap.size W1 W2:=by rw[hW2];exact (Below.refl _ _).alloc (Nat.le_refl _) _
 have hbox:Boxed W2 W1.heap.size 3 (.int .i64 0):=by rw[hW2];exact Boxed.new W1 3 (.int .i64 0)
 have HBL:Hid (Calls Tryz.prog 53 #[.pointer (some ⟨R,0,none⟩)] (W1.alloc (.cells #[.int .i64 0] 3)) fun e w'=>Boxed w' W1.heap.size 3 (.int .i64 0)∧((∃v,e=.returned v)∧BlYes R (R+2) s lim W2 w'∨∃c,e=fault c∧BlNo R (R+2) s lim W2 c w')):=by
  rw[←hW2]
  refine (nfBlocks_any R (R+2) lim s W2 (hI1.kept b2) (by omega) (by omega) hs hlim).mono ?_
  rintro e w' (⟨L,q,ks,vk,fx,h1,h2,h3,h4,h5,h6,h7⟩|⟨c,h1,h2,h3,h4⟩)
  · exact⟨(h5.rest _ (by omega) (by omega) (by omega)).trans hbox,.inl ⟨h2,L,q,ks,vk,fx,h1,h3,h4,h5,h6,h7⟩⟩
  exact⟨(h4.rest _ (by omega) (by omega) (by omega)).trans hbox,.inr ⟨(c:Int),h3,c,rfl,h2,h1,h4⟩⟩
 have HFI:Hid (Calls Tryz.prog 52 #[.func (.func 53) #[.pointer (some ⟨R,0,none⟩)] #[]] W1 (FaultOut W1 (BlYes R (R+2) s lim W2) (BlNo R (R+2) s lim W2))):=
  faultIn_meth 53 (.pointer (some ⟨R,0,none⟩)) (enters_of Tryz.func53 (by kernel_rfl) rfl) _ _ W1 HBL.out
 have HB:Hid (Below R w W1∧Below (R+1) W1 W2∧W1.heap.size=R+1∧R=w.heap.size):=⟨b1,b2.mono (by omega),hz1,hR⟩
 have d1:decide ((s.size:Int)>9000)=false:=decide_eq_false (by omega)
 have d2:decide ((9000:Int)<(s.size:Int))=false:=decide_eq_false (by omega)
 have d3:decide ((lim:Int)<0)=false:=decide_eq_false (by omega)
 have d4:decide ((lim:Int)>5000)=false:=decide_eq_false (by omega)
 have d5:decide ((5000:Int)<(lim:Int))=false:=decide_eq_false (by omega)
 have hmf:∀(fn:Fn) (first cap:Array Value) (w:World),(Instr.makeFunc fn first cap).run Tryz.prog w=.ok (.func fn first cap) w:=fun _ _ _ _=>rfl
 rw[←hR] at HNI
 clear hW1 hI1 b1 hW2 hz1 hz2 b2 hbox HBL hR
 go_enter Tryz.func32,Tryz.ntmps32
 go_wp2_with fail
 refine HNI.out.mono ?_
 rintro e w1 ⟨rfl,hw1⟩
 replace hw1:=hw1.symm
 subst hw1
 clear HNI
 go_wp2_with fail
 refine HFI.out.mono ?_
 rintro e w7 ⟨w6,hb6,(⟨rfl,⟨L,q,ks,vk,fx,g1,g2,g3,g4,g5,g6⟩,ht⟩|⟨c,rfl,⟨d,rfl,hd0,hno,g4⟩,ht⟩)⟩
 · have HF:Hid (InfEnd w s (lim:Int) (.returned (.tuple #[.pointer (some ⟨R,0,none⟩),.int .i64 0])) w7):=by
    obtain⟨k1,k2,k3,k4⟩:=HB.out
    rw[k3] at hb6
    have ht:w7=w6.setCell ⟨R+1,0,none⟩ (.int .i64 0):=by rw[←k3];exact ht
    have hcb:w6.heap[R+1]?=some (.cells #[.int .i64 0] 3 (0,0)):=hb6
    have g2':In w7 R (R+2) s q L lim vk fx:=by
     rw[ht]
     obtain⟨vo,e1,e2⟩:=g2
     exact⟨vo,(Below.heap_setCell w6 ⟨R+1,0,none⟩ _ R (by show R≠R+1;omega)).trans e1,e2.besides (fun k hk=>Below.heap_setCell w6 ⟨R+1,0,none⟩ _ k (fun e=>e2.away hcb (by decide) (by rw[hk,e])))⟩
    have g3':OwnI w7 (R+2) vk ks.length ks:=by
     rw[ht]
     refine⟨g3.1,?_⟩
     rcases g3.2 with g|⟨g,c1,cur,e1,e2,e3,e4⟩
     · exact .inl g
     exact .inr ⟨g,c1,cur,e1,e2,(Below.heap_setCell w6 ⟨R+1,0,none⟩ _ g (by show g≠R+1;omega)).trans e3,e4⟩
    refine⟨?_,.inl ⟨L,q,ks,vk,fx,by rw[Nf.res_ok hs hlim];exact g1,by rw[k4],by rw[←k4,Int.toNat_natCast];exact g2',by rw[←k4];exact g3',g5,by rw[Int.toNat_natCast];exact g6⟩⟩
    rw[←k4,ht]
    exact ((k1.trans (k2.mono (by omega))).trans (g4.below (Nat.le_refl _) (Nat.le_refl _) (by omega))).setCell (p:=⟨R+1,0,none⟩) (show R≤R+1 by omega) _
   clear g1 g2 g3 g4 hb6 ht HFI HB
   go_wp2_with fail
   go_ret2
   exact HF.out
 have HF:Hid (InfEnd w s (lim:Int) (.returned (.tuple #[.pointer (some ⟨R,0,none⟩),.int .i64 (d:Int)])) w7):=by
  obtain⟨k1,k2,k3,k4⟩:=HB.out
  have ht:w7=w6.setCell ⟨R+1,0,none⟩ (.int .i64 (d:Int)):=by rw[←k3];exact ht
  refine⟨?_,.inr ⟨d,_,by rw[Nf.res_ok hs hlim];exact hno,hd0,rfl⟩⟩
  rw[←k4,ht]
  exact ((k1.trans (k2.mono (by omega))).trans (g4.below (Nat.le_refl _) (Nat.le_refl _) (by omega))).setCell (p:=⟨R+1,0,none⟩) (show R≤R+1 by omega) _
 clear hno g4 hb6 ht HFI HB
 go_wp2_with fail
 go_ret2
 exact HF.out

set_option maxHeartbeats 2000000 in
theorem inflated_no (s:ByteArray) (lim:Int) (w:World) (hs:s.size≤3000000) (h:¬(s.size≤9000∧0≤lim∧lim≤5000)):
 Calls Tryz.prog 32 #[.string s,.int .i64 lim] w (InfEnd w s lim):=by
 have HR:Hid (Nf.res s lim=.error 1):=Nf.res_no h
 have HNI:=newInflater_any s lim w
 obtain⟨W1,hW1⟩:∃W1,W1=w.alloc (.cells #[ordV false,.string s,.int .i64 0,.slice none 0 0,.int .i64 lim,.slice none 0 0,.pointer none] 62):=⟨_,rfl⟩
 rw[←hW1] at HNI
 have HB:Hid (Below w.heap.size w W1):=by rw[hW1];exact (Below.refl _ _).alloc (Nat.le_refl _) _
 have HN:Hid (Calls Tryz.prog 51 #[.string s,.int .i64 lim] w fun e w'=>e=.returned (.pointer (some ⟨w.heap.size,0,none⟩))∧w'=W1):=HNI
 have HF:Hid (InfEnd w s lim (.returned (.tuple #[.pointer (some ⟨w.heap.size,0,none⟩),.int .i64 1])) W1):=⟨HB.out,.inr ⟨1,_,HR.out,by decide,rfl⟩⟩
 clear HNI hW1 HB HR
 by_cases h1:s.size≤9000
 · have d1:decide ((s.size:Int)>9000)=false:=decide_eq_false (by omega)
   have d2:decide ((9000:Int)<(s.size:Int))=false:=decide_eq_false (by omega)
   by_cases h2:lim<0
   · have d3:decide (lim<0)=true:=decide_eq_true h2
     clear h
     go_enter Tryz.func32,Tryz.ntmps32
     go_wp2_with fail
     refine HN.out.mono ?_
     rintro e w1 ⟨rfl,hw1⟩
     replace hw1:=hw1.symm
     subst hw1
     go_wp2_with fail
     go_ret2
     exact HF.out
   have d3:decide (lim<0)=false:=decide_eq_false h2
   have d4:decide (lim>5000)=true:=decide_eq_true (by omega)
   have d5:decide ((5000:Int)<lim)=true:=decide_eq_true (by omega)
   clear h
   go_enter Tryz.func32,Tryz.ntmps32
   go_wp2_with fail
   refine HN.out.mono ?_
   rintro e w1 ⟨rfl,hw1⟩
   replace hw1:=hw1.symm
   subst hw1
   go_wp2_with fail
   go_ret2
   exact HF.out
 have d1:decide ((s.size:Int)>9000)=true:=decide_eq_true (by omega)
 have d2:decide ((9000:Int)<(s.size:Int))=true:=decide_eq_true (by omega)
 clear h
 go_enter Tryz.func32,Tryz.ntmps32
 go_wp2_with fail
 refine HN.out.mono ?_
 rintro e w1 ⟨rfl,hw1⟩
 replace hw1:=hw1.symm
 subst hw1
 go_wp2_with fail
 go_ret2
 exact HF.out
theorem inflated_any (s:ByteArray) (lim:Int) (w:World) (hs:s.size≤3000000):
 Calls Tryz.prog 32 #[.string s,.int .i64 lim] w (InfEnd w s lim):=by
 by_cases h:s.size≤9000∧0≤lim∧lim≤5000
 · obtain⟨M,rfl⟩:=Int.eq_ofNat_of_zero_le h.2.1
   exact inflated_yes s M w h.1 (by have:=h.2.2;omega)
 exact inflated_no s lim w hs h

theorem below_d {n:Nat} {a b:World} (h:Below n a b) (m:Nat):Below n a (b.drewN m):=⟨h.os,h.tape,h.output,h.size,h.block⟩
namespace Nf
theorem nxt_c0 {s:ByteArray} {n p c:Nat} (h:nxt s n p=.error c):c≠0:=by rw[nxt_err h];decide
theorem sym_c0 {s:ByteArray} {zs:List Int} {p c:Nat} (h:sym s zs p=.error c):c≠0:=by
 unfold sym at h
 split at h
 · cases h
 cases h
 split<;>decide
theorem size_c0 {s:ByteArray} {k p c:Nat} (h:size s k p=.error c):c≠0:=by
 unfold size at h
 split at h
 · rename_i c' hc
   cases h
   exact nxt_c0 hc
 cases h
theorem dist_c0 {s:ByteArray} {B:List Int} {p c:Nat} (h:dist s B p=.error c):c≠0:=by
 unfold dist at h
 split at h
 · rename_i c' hc
   cases h
   exact sym_c0 hc
 split at h
 · split at h
   · rename_i c' hc
     cases h
     exact nxt_c0 hc
   cases h
 cases h;decide
theorem rep_c0 {lim n d c:Nat} {out:List UInt8} (h:rep lim out n d=.error c):c≠0:=by
 unfold rep at h
 split at h
 · split at h
   · cases h
   cases h;decide
 cases h;decide
theorem copy_c0 {s:ByteArray} {lim k q c:Nat} {B:List Int} {out:List UInt8} (h:copy s lim B k q out=.error c):c≠0:=by
 unfold copy at h
 split at h
 · rename_i c' hc
   cases h
   exact size_c0 hc
 split at h
 · rename_i c' hc
   cases h
   exact dist_c0 hc
 split at h
 · rename_i c' hc
   cases h
   exact rep_c0 hc
 cases h
theorem body_c0 {s:ByteArray} {lim:Nat} {A B:List Int}:∀{f p c:Nat} {l:List UInt8},body s lim A B f p l=.error c→c≠0
 | 0,_,_,_,h=>by cases h;decide
 | f+1,p,c,l,h=>by
  cases hy:sym s A p with
  | error c'=>rw[body_no hy] at h;cases h;exact sym_c0 hy
  | ok r=>
   obtain⟨y,q1⟩:=r
   by_cases h1:y<256
   · by_cases h2:l.length<lim
     · rw[body_byte hy h1 h2] at h
       exact body_c0 h
     rw[body_full hy h1 h2] at h;cases h;decide
   by_cases h2:y=256
   · rw[body_end hy h2] at h;cases h
   by_cases h3:286≤y
   · rw[body_bad hy h3] at h;cases h;decide
   cases hc:copy s lim B (y-257) q1 l with
   | error c'=>rw[body_stop hy (by omega) (by omega) hc] at h;cases h;exact copy_c0 hc
   | ok r=>
    obtain⟨l2,q2⟩:=r
    rw[body_copy hy (by omega) (by omega) hc] at h
    exact body_c0 h
theorem take_c0 {s:ByteArray} {lim:Nat}:∀{n p c:Nat} {l:List UInt8},take s lim n p l=.error c→c≠0
 | 0,_,_,_,h=>by cases h
 | n+1,p,c,l,h=>by
  cases hn:nxt s 8 p with
  | error c'=>rw[take_no hn] at h;cases h;exact nxt_c0 hn
  | ok v=>
   by_cases h2:l.length<lim
   · rw[take_ok hn h2] at h;exact take_c0 h
   rw[take_full hn h2] at h;cases h;decide
theorem lol_c0 {s:ByteArray}:∀{m i p c:Nat} {row:List Int},lol s m i p row=.error c→c≠0
 | 0,_,_,_,_,h=>by cases h
 | m+1,i,p,c,row,h=>by
  cases hn:nxt s 3 p with
  | error c'=>rw[lol_no hn] at h;cases h;exact nxt_c0 hn
  | ok v=>rw[lol_ok hn] at h;exact lol_c0 h
theorem run_c0 {s:ByteArray} {zs l:List Int} {p c:Nat} (h:run s zs p l=.error c):c≠0:=by
 unfold run at h
 split at h
 · rename_i c' hc
   cases h
   exact sym_c0 hc
 split at h
 · split at h
   · cases h;decide
   split at h
   · rename_i c' hc
     cases h
     exact nxt_c0 hc
   cases h
 split at h
 · split at h
   · rename_i c' hc
     cases h
     exact nxt_c0 hc
   cases h
 split at h
 · split at h
   · rename_i c' hc
     cases h
     exact nxt_c0 hc
   cases h
 cases h
theorem lens_c0 {s:ByteArray} {zs:List Int} {count:Nat}:∀{f p c:Nat} {l:List Int},lens s zs count f p l=.error c→c≠0
 | 0,_,_,_,h=>by cases h;decide
 | f+1,p,c,l,h=>by
  by_cases hlt:l.length<count
  · cases hr:run s zs p l with
    | error c'=>rw[lens_no hlt hr] at h;cases h;exact run_c0 hr
    | ok r=>
     obtain⟨⟨v,t⟩,q1⟩:=r
     by_cases ho:l.length+t≤count
     · rw[lens_more hlt hr ho] at h;exact lens_c0 h
     rw[lens_over hlt hr ho] at h;cases h;decide
  rw[lens_done hlt] at h;cases h
theorem plain_c0 {s:ByteArray} {lim p c:Nat} {out:List UInt8} (h:plain s lim p out=.error c):c≠0:=by
 unfold plain at h
 split at h
 · rename_i c' hc
   cases h
   exact nxt_c0 hc
 split at h
 · rename_i c' hc
   cases h
   exact nxt_c0 hc
 split at h
 · exact take_c0 h
 cases h;decide
theorem own_c0 {s:ByteArray} {lim p c:Nat} {out:List UInt8} (h:own s lim p out=.error c):c≠0:=by
 unfold own at h
 split at h
 · rename_i c' hc
   cases h
   exact nxt_c0 hc
 split at h
 · rename_i c' hc
   cases h
   exact nxt_c0 hc
 split at h
 · rename_i c' hc
   cases h
   exact nxt_c0 hc
 split at h
 · rename_i c' hc
   cases h
   exact lol_c0 hc
 split at h
 · split at h
   · rename_i c' hc
     cases h
     exact lens_c0 hc
   split at h
   · exact body_c0 h
   cases h;decide
 cases h;decide
theorem block_c0 {s:ByteArray} {lim k p c:Nat} {out:List UInt8} (h:block s lim k p out=.error c):c≠0:=by
 unfold block at h
 split at h
 · exact plain_c0 h
 split at h
 · exact body_c0 h
 split at h
 · exact own_c0 h
 cases h;decide
theorem all_c0 {s:ByteArray} {lim:Nat}:∀{f q c:Nat} {l:List UInt8} {ks:List Int},all s lim f q l ks=.error c→c≠0
 | 0,_,_,_,_,h=>by cases h;decide
 | f+1,q,c,l,ks,h=>by
  cases h1:nxt s 1 q with
  | error c'=>rw[all_no1 h1] at h;cases h;exact nxt_c0 h1
  | ok last=>
   cases h2:nxt s 2 (q+1) with
   | error c'=>rw[all_no2 h1 h2] at h;cases h;exact nxt_c0 h2
   | ok k=>
    cases h3:block s lim k (q+3) l with
    | error c'=>rw[all_no3 h1 h2 h3] at h;cases h;exact block_c0 h3
    | ok r=>
     obtain⟨l2,q2⟩:=r
     by_cases h0:last=0
     · subst h0
       rw[all_more h1 h2 h3] at h
       exact all_c0 h
     rw[all_end h1 h0 h2 h3] at h;cases h
theorem block_le {s:ByteArray} {lim k p q:Nat} {l L:List UInt8} (h:block s lim k p l=.ok (L,q)) (hl:l.length≤lim):q≤8*s.size∧L.length≤lim:=by
 unfold block at h
 split at h
 · unfold plain at h
   split at h
   · cases h
   split at h
   · cases h
   rename_i m hm
   split at h
   · have h2:=(nxt_ok hm).1
     have:=take_ok' h (by omega) hl
     omega
   cases h
 split at h
 · have:=body_ok fixS_good fixD_good h hl;omega
 split at h
 · unfold own at h
   split at h
   · cases h
   split at h
   · cases h
   split at h
   · cases h
   rename_i c hc
   have hc1:=(nxt_ok hc).1
   split at h
   · cases h
   rename_i by_ q1 hlol
   have hlk:=lol_ok' hlol hc1 (by decide)
   split at h
   · rename_i hck
     have hby:GoodC by_:=goodC (may_ok (by rw[hlk.2.1];decide) hlk.1 hck.2.2)
     split at h
     · cases h
     rename_i L2 q2 hlens
     have hln:=lens_ok hby (by rw[hlk.2.1];decide) hlens hlk.2.2 rfl (Nat.zero_le _)
     split at h
     · rename_i hm
       have g1:GoodC (L2.take _):=goodC (may_ok (by rw[List.length_take];omega) (valid_sub hln.1 (fun z hz=>List.mem_of_mem_take hz)) hm.1)
       have g2:GoodC (L2.drop _):=goodC (may_ok (by rw[List.length_drop];omega) (valid_sub hln.1 (fun z hz=>List.mem_of_mem_drop hz)) hm.2.1)
       have:=body_ok g1 g2 h hl
       omega
     cases h
   cases h
 cases h
theorem all_le {s:ByteArray} {lim:Nat}:∀{f q:Nat} {l:List UInt8} {ks:List Int} {R:(List UInt8×Nat)×List Int},all s lim f q l ks=.ok R→l.length≤lim→R.1.2≤8*s.size∧R.1.1.length≤lim
 | 0,_,_,_,_,h,_=>by cases h
 | f+1,q,l,ks,R,h,hl=>by
  cases h1:nxt s 1 q with
  | error c=>rw[all_no1 h1] at h;cases h
  | ok last=>
   cases h2:nxt s 2 (q+1) with
   | error c=>rw[all_no2 h1 h2] at h;cases h
   | ok k=>
    cases h3:block s lim k (q+3) l with
    | error c=>rw[all_no3 h1 h2 h3] at h;cases h
    | ok r=>
     obtain⟨l2,q2⟩:=r
     have hb:=block_le h3 hl
     by_cases h0:last=0
     · subst h0
       rw[all_more h1 h2 h3] at h
       exact all_le h hb.2
     rw[all_end h1 h0 h2 h3] at h
     cases h
     exact hb
end Nf
theorem inf_c0 {s:ByteArray} {M c:Nat} (h:Nf.inflate s M=.error c):c≠0:=Nf.all_c0 h
theorem inf_le {s:ByteArray} {M q:Nat} {L:List UInt8} {ks:List Int} (h:Nf.inflate s M=.ok ((L,q),ks)):q≤8*s.size∧L.length≤M:=Nf.all_le (R:=((L,q),ks)) h (Nat.zero_le _)
end Go.Proofs.YtejebodgfoihkabGreat
namespace Go.Proofs.YtejebodgfoihkabGreat
theorem Bg.low_same {f g:Nat→Nat}:∀{n:Nat},(∀i,i<n→f i=g i)→Bg.low f n=Bg.low g n
 | 0,_=>rfl
 | n+1,h=>by
  unfold Bg.low
  rw[Bg.low_same (fun i hi=>h i (by omega)),h n (by omega)]
theorem Gt.go_pre {s:Nat→Nat→Int} {bit bit':Nat→Nat}:∀{m m' d v p i q:Nat},Gt.go s bit m d v p=some (i,q)→(∀j,j<q→bit j=bit' j)→q-p≤m'→Gt.go s bit' m' d v p=some (i,q)
 | 0,_,_,_,_,_,_,h,_,_=>by cases h
 | m+1,m',d,v,p,i,q,h,hb,hm=>by
  have hlt:=Gt.go_lt h
  obtain⟨m2,rfl⟩:∃m2,m'=m2+1:=⟨m'-1,by omega⟩
  unfold Gt.go at h ⊢
  rw[←hb p (by omega)]
  split at h
  · rename_i h0
    rw[if_pos h0]
    exact h
  rename_i h0
  rw[if_neg h0]
  exact Gt.go_pre h hb (by omega)
namespace Nf
def Agr (s s':ByteArray) (Q:Nat):Prop:=(∀i,i<Q→bitAt s false i=bitAt s' false i)∧Q≤8*s'.size
section
variable {s s':ByteArray} {Q lim:Nat}
theorem nxt_pre {n p v:Nat} (g:Agr s s' Q) (h:nxt s n p=.ok v) (hq:p+n≤Q):nxt s' n p=.ok v:=by
 have h1:=nxt_ok h
 rw[nxt_yes (by have:=g.2;omega),h1.2.1]
 congr 1
 unfold num
 exact (Bg.low_same (fun i hi=>g.1 (p+i) (by omega))).symm
theorem sym_pre {zs:List Int} {p y q:Nat} (g:Agr s s' Q) (h:sym s zs p=.ok (y,q)) (hq:q≤Q):sym s' zs p=.ok (y,q):=by
 unfold sym at h
 split at h
 · rename_i r hr
   cases h
   refine sym_some ?_
   exact Gt.go_pre hr (fun j hj=>g.1 j (by omega)) (by have:=g.2;omega)
 cases h
theorem size_pre {k p n q:Nat} (g:Agr s s' Q) (h:size s k p=.ok (n,q)) (hq:q≤Q):size s' k p=.ok (n,q):=by
 unfold size at h
 split at h
 · cases h
 rename_i v hv
 cases h
 exact size_ok (nxt_pre g hv hq)
theorem dist_pre {B:List Int} {p d q:Nat} (g:Agr s s' Q) (h:dist s B p=.ok (d,q)) (hq:q≤Q):dist s' B p=.ok (d,q):=by
 unfold dist at h
 split at h
 · cases h
 rename_i y q1 hy
 split at h
 · rename_i h30
   split at h
   · cases h
   rename_i v hv
   cases h
   exact dist_ok (sym_pre g hy (by omega)) h30 (nxt_pre g hv hq)
 cases h
theorem size_go {k p n q:Nat} (h:size s k p=.ok (n,q)):p≤q:=by
 unfold size at h
 split at h
 · cases h
 cases h;omega
theorem dist_go {B:List Int} (hB:GoodC B) {p d q:Nat} (h:dist s B p=.ok (d,q)):p≤q:=by
 unfold dist at h
 split at h
 · cases h
 rename_i y q1 hy
 have:=(sym_ok hB hy).1
 split at h
 · split at h
   · cases h
   cases h;omega
 cases h
theorem copy_pre {B:List Int} (hB:GoodC B) {k p q:Nat} {l L:List UInt8} (g:Agr s s' Q) (h:copy s lim B k p l=.ok (L,q)) (hq:q≤Q):copy s' lim B k p l=.ok (L,q):=by
 unfold copy at h
 split at h
 · cases h
 rename_i n q1 h1
 split at h
 · cases h
 rename_i d q2 h2
 split at h
 · cases h
 rename_i L2 h3
 cases h
 have:=dist_go hB h2
 exact copy_ok (size_pre g h1 (by omega)) (dist_pre g h2 hq) h3
theorem copy_go {B:List Int} (hB:GoodC B) {k p q:Nat} {l L:List UInt8} (h:copy s lim B k p l=.ok (L,q)):p≤q∧(l.length≤lim→L.length≤lim):=by
 unfold copy at h
 split at h
 · cases h
 rename_i n q1 h1
 split at h
 · cases h
 rename_i d q2 h2
 split at h
 · cases h
 rename_i L2 h3
 cases h
 have e1:=dist_go hB h2
 have e2:=size_go h1
 refine⟨by omega,fun hl=>?_⟩
 unfold rep at h3
 split at h3
 · split at h3
   · cases h3;rw[To.again_len];assumption
   cases h3
 cases h3
theorem body_pre {A B:List Int} (hA:GoodC A) (hB:GoodC B) (g:Agr s s' Q):∀{f p q:Nat} {l L:List UInt8},body s lim A B f p l=.ok (L,q)→l.length≤lim→q≤Q→body s' lim A B f p l=.ok (L,q)
 | 0,_,_,_,_,h,_,_=>by cases h
 | f+1,p,q,l,L,h,hl,hq=>by
  cases hy:sym s A p with
  | error c=>rw[body_no hy] at h;cases h
  | ok r=>
   obtain⟨y,q1⟩:=r
   by_cases h1:y<256
   · by_cases h2:l.length<lim
     · rw[body_byte hy h1 h2] at h
       have hl2:(l++[UInt8.ofNat y]).length≤lim:=by rw[List.length_append];exact h2
       have hb:=(body_ok hA hB h hl2).1
       rw[body_byte (sym_pre g hy (by omega)) h1 h2]
       exact body_pre hA hB g h hl2 hq
     rw[body_full hy h1 h2] at h;cases h
   by_cases h2:y=256
   · rw[body_end hy h2] at h
     cases h
     exact body_end (sym_pre g hy hq) h2
   by_cases h3:286≤y
   · rw[body_bad hy h3] at h;cases h
   cases hc:copy s lim B (y-257) q1 l with
   | error c=>rw[body_stop hy (by omega) (by omega) hc] at h;cases h
   | ok r=>
    obtain⟨l2,q2⟩:=r
    rw[body_copy hy (by omega) (by omega) hc] at h
    have hcg:=copy_go hB hc
    have hb:=(body_ok hA hB h (hcg.2 hl)).1
    rw[body_copy (sym_pre g hy (by omega)) (by omega) (by omega) (copy_pre hB g hc (by omega))]
    exact body_pre hA hB g h (hcg.2 hl) hq
theorem take_pre (g:Agr s s' Q):∀{n p q:Nat} {l L:List UInt8},take s lim n p l=.ok (L,q)→l.length≤lim→p≤8*s.size→q≤Q→take s' lim n p l=.ok (L,q)
 | 0,p,q,l,L,h,_,_,_=>by
  unfold take at h
  cases h
  rfl
 | n+1,p,q,l,L,h,hl,hp,hq=>by
  cases hn:nxt s 8 p with
  | error c=>rw[take_no hn] at h;cases h
  | ok v=>
   by_cases h2:l.length<lim
   · rw[take_ok hn h2] at h
     have hl2:(l++[UInt8.ofNat v]).length≤lim:=by rw[List.length_append];exact h2
     have hb:=(take_ok' h (nxt_ok hn).1 hl2).1
     rw[take_ok (nxt_pre g hn (by omega)) h2]
     exact take_pre g h hl2 (nxt_ok hn).1 hq
   rw[take_full hn h2] at h;cases h
theorem lol_pre (g:Agr s s' Q):∀{m i p q:Nat} {row L:List Int},lol s m i p row=.ok (L,q)→q≤Q→lol s' m i p row=.ok (L,q)∧p≤q
 | 0,_,p,q,row,L,h,_=>by
  unfold lol at h
  cases h
  exact⟨rfl,Nat.le_refl _⟩
 | m+1,i,p,q,row,L,h,hq=>by
  cases hn:nxt s 3 p with
  | error c=>rw[lol_no hn] at h;cases h
  | ok v=>
   rw[lol_ok hn] at h
   have ih:=lol_pre g h hq
   rw[lol_ok (nxt_pre g hn (by omega))]
   exact⟨ih.1,by omega⟩
theorem run_pre {zs l:List Int} {p t q:Nat} {v:Int} (g:Agr s s' Q) (h:run s zs p l=.ok ((v,t),q)) (hq:q≤Q):run s' zs p l=.ok ((v,t),q):=by
 cases hy:sym s zs p with
 | error c=>rw[run_no hy] at h;cases h
 | ok r=>
  obtain⟨y,q1⟩:=r
  by_cases h16:y=16
  · subst h16
    by_cases hl:l.length=0
    · rw[run_16n hy hl] at h;cases h
    cases hn:nxt s 2 q1 with
    | error c=>rw[run_16s hy hl hn] at h;cases h
    | ok u=>
     rw[run_16 hy hl hn] at h
     cases h
     exact run_16 (sym_pre g hy (by omega)) hl (nxt_pre g hn hq)
  by_cases h17:y=17
  · subst h17
    cases hn:nxt s 3 q1 with
    | error c=>rw[run_17s hy hn] at h;cases h
    | ok u=>
     rw[run_17 hy hn] at h
     cases h
     exact run_17 (sym_pre g hy (by omega)) (nxt_pre g hn hq)
  by_cases h18:y=18
  · subst h18
    cases hn:nxt s 7 q1 with
    | error c=>rw[run_18s hy hn] at h;cases h
    | ok u=>
     rw[run_18 hy hn] at h
     cases h
     exact run_18 (sym_pre g hy (by omega)) (nxt_pre g hn hq)
  rw[run_one hy (by omega)] at h
  cases h
  exact run_one (sym_pre g hy hq) (by omega)
theorem lens_pre {zs:List Int} {count:Nat} (hg:GoodC zs) (g:Agr s s' Q):∀{f p q:Nat} {l L:List Int},lens s zs count f p l=.ok (L,q)→q≤Q→lens s' zs count f p l=.ok (L,q)∧p≤q
 | 0,_,_,_,_,h,_=>by cases h
 | f+1,p,q,l,L,h,hq=>by
  by_cases hlt:l.length<count
  · cases hr:run s zs p l with
    | error c=>rw[lens_no hlt hr] at h;cases h
    | ok r=>
     obtain⟨⟨v,t⟩,q1⟩:=r
     have hb:=run_ok hg hr
     by_cases ho:l.length+t≤count
     · rw[lens_more hlt hr ho] at h
       have ih:=lens_pre hg g h hq
       rw[lens_more hlt (run_pre g hr (by omega)) ho]
       exact⟨ih.1,by omega⟩
     rw[lens_over hlt hr ho] at h;cases h
  rw[lens_done hlt] at h
  cases h
  exact⟨lens_done hlt,Nat.le_refl _⟩
theorem block_pre {k p q:Nat} {l L:List UInt8} (g:Agr s s' Q) (h:block s lim k p l=.ok (L,q)) (hl:l.length≤lim) (hq:q≤Q):block s' lim k p l=.ok (L,q):=by
 unfold block at h ⊢
 split at h
 · rename_i h0
   rw[if_pos h0]
   unfold plain at h
   split at h
   · cases h
   rename_i n hn
   split at h
   · cases h
   rename_i m hm
   split at h
   · rename_i hs
     have hm2:=(nxt_ok hm).1
     have hb:=(take_ok' h (by omega) hl).1
     rw[plain_ok (nxt_pre g hn (by omega)) (nxt_pre g hm (by omega)) hs]
     exact take_pre g h hl (by omega) hq
   cases h
 rename_i h0
 rw[if_neg h0]
 split at h
 · rename_i h1
   rw[if_pos h1]
   exact body_pre fixS_good fixD_good g h hl hq
 rename_i h1
 rw[if_neg h1]
 split at h
 · rename_i h2
   rw[if_pos h2]
   unfold own at h
   split at h
   · cases h
   rename_i a ha
   split at h
   · cases h
   rename_i b hb
   split at h
   · cases h
   rename_i c hc
   have hc1:=(nxt_ok hc).1
   split at h
   · cases h
   rename_i by_ q1 hlol
   have hlk:=lol_ok' hlol hc1 (by decide)
   split at h
   · rename_i hck
     have hby:GoodC by_:=goodC (may_ok (by rw[hlk.2.1];decide) hlk.1 hck.2.2)
     split at h
     · cases h
     rename_i L2 q2 hlens
     have hln:=lens_ok hby (by rw[hlk.2.1];decide) hlens hlk.2.2 rfl (Nat.zero_le _)
     split at h
     · rename_i hm
       have g1:GoodC (L2.take (a+257)):=goodC (may_ok (by rw[List.length_take];omega) (valid_sub hln.1 (fun z hz=>List.mem_of_mem_take hz)) hm.1)
       have g2:GoodC (L2.drop (a+257)):=goodC (may_ok (by rw[List.length_drop];omega) (valid_sub hln.1 (fun z hz=>List.mem_of_mem_drop hz)) hm.2.1)
       have e1:=(body_ok g1 g2 h hl).1
       have e2:=lens_pre hby g hlens (by omega)
       have e3:=lol_pre g hlol (by omega)
       rw[own_body (Y:=a+257) (N:=a+257+(b+1)) ⟨nxt_pre g ha (by omega),nxt_pre g hb (by omega),nxt_pre g hc (by omega)⟩ e3.1 hck e2.1 hm ⟨rfl,rfl⟩]
       exact body_pre g1 g2 g h hl hq
     cases h
   cases h
 cases h
theorem all_pre (g:Agr s s' Q):∀{f q:Nat} {l:List UInt8} {ks:List Int} {R:(List UInt8×Nat)×List Int},all s lim f q l ks=.ok R→l.length≤lim→R.1.2≤Q→all s' lim f q l ks=.ok R∧q≤R.1.2
 | 0,_,_,_,_,h,_,_=>by cases h
 | f+1,q,l,ks,R,h,hl,hq=>by
  cases h1:nxt s 1 q with
  | error c=>rw[all_no1 h1] at h;cases h
  | ok last=>
   cases h2:nxt s 2 (q+1) with
   | error c=>rw[all_no2 h1 h2] at h;cases h
   | ok k=>
    cases h3:block s lim k (q+3) l with
    | error c=>rw[all_no3 h1 h2 h3] at h;cases h
    | ok r=>
     obtain⟨l2,q2⟩:=r
     have hgo:=block_go h3 hl
     by_cases h0:last=0
     · subst h0
       rw[all_more h1 h2 h3] at h
       have ih:=all_pre g h (block_le h3 hl).2 hq
       rw[all_more (nxt_pre g h1 (by omega)) (nxt_pre g h2 (by omega)) (block_pre g h3 hl (by omega))]
       exact⟨ih.1,by omega⟩
     rw[all_end h1 h0 h2 h3] at h
     cases h
     have hq':q2≤Q:=hq
     exact⟨all_end (nxt_pre g h1 (by omega)) h0 (nxt_pre g h2 (by omega)) (block_pre g h3 hl hq'),by show q≤q2;omega⟩
theorem inflate_pre {R:(List UInt8×Nat)×List Int} (g:Agr s s' Q) (h:inflate s lim=.ok R) (hq:R.1.2≤Q):inflate s' lim=.ok R:=(all_pre g h (Nat.zero_le _) hq).1
end
end Nf
open Go.RowKit

def infV (s:ByteArray) (lim:Int):Value:=.tuple #[.string ⟨(Nf.out (Nf.res s lim)).toArray⟩,.int .i64 ((Nf.used (Nf.res s lim):Nat):Int),.int .i64 ((Nf.code (Nf.res s lim):Nat):Int)]
theorem infV_ok {s:ByteArray} {lim:Int} {L:List UInt8} {q:Nat} {ks:List Int} (h:Nf.res s lim=.ok ((L,q),ks)):infV s lim=.tuple #[.string ⟨L.toArray⟩,.int .i64 (((q+7) / 8:Nat):Int),.int .i64 0]:=by unfold infV;rw[h];rfl
theorem infV_no {s:ByteArray} {lim:Int} {c:Nat} (h:Nf.res s lim=.error c):infV s lim=.tuple #[.string ⟨#[]⟩,.int .i64 0,.int .i64 (c:Int)]:=by unfold infV;rw[h];rfl

theorem drewN_below' {n:Nat} {a b:World} (h:Below n a b) (m:Nat):Below n a (b.drewN m):=⟨h.os,h.tape,h.output,h.size,h.block⟩
set_option linter.unusedSimpArgs false in
set_option maxHeartbeats 4000000 in
set_option maxRecDepth 20000 in
theorem impl_inflate (s:ByteArray) (lim:Int) (w:World) (hs:s.size≤3000000):
 Calls Tryz.prog 10 #[.string s,.int .i64 lim] w fun e w'=>e=.returned (infV s lim)∧Below w.heap.size w w':=by
 have HI:Hid (Calls Tryz.prog 32 #[.string s,.int .i64 lim] w (InfEnd w s lim)):=inflated_any s lim w hs
 go_enter Tryz.func10,Tryz.ntmps10
 go_wp2_with fail
 refine HI.out.mono ?_
 rintro e w1 ⟨b1,(⟨L,q,ks,vk,fx,g1,rfl,g2,g3,g4,g5⟩|⟨c,v,g1,g2,rfl⟩)⟩
 · have hq9:q≤100000:=by
    unfold Nf.res at g1
    split at g1
    · rename_i hh;have:=hh.1;omega
    cases g1
   have HF:Hid (infV s lim=.tuple #[.string ⟨L.toArray⟩,.int .i64 (((q+7) / 8:Nat):Int),.int .i64 0]∧Below w.heap.size w w1):=⟨infV_ok g1,b1⟩
   obtain⟨R,hR⟩:∃R,R=w.heap.size:=⟨_,rfl⟩
   rw[←hR] at g2
   have HUS:Hid (∀w2,(∃m,w2=w1.drewN m)→Calls Tryz.prog 33 #[.pointer (some ⟨R,0,none⟩)] w2 fun e w'=>e=.returned (.int .i64 (((q+7) / 8:Nat):Int))∧w'=w2):=fun w2 hw=>by
    obtain⟨m,rfl⟩:=hw
    exact nfUsed_any R (R+2) q lim.toNat L vk fx s _ (by rw[←hR] at *;exact g2.drewN m) hq9
   obtain⟨vo,hc,hv⟩:=g2
   have c3:w1.cell? ⟨R,3,none⟩=some vo:=by simp[World.cell?,hc]
   have HTX:Hid (∀w2,(∃m,w2=w1.drewN m)→Sem.run Tryz.prog (convert 22 9 vo) w2=.ok (.string ⟨L.toArray⟩) w2):=fun w2 hw=>by
    obtain⟨m,rfl⟩:=hw
    exact OwnT.text (hv.drewN m)
   obtain⟨u,hu⟩:∃u,u=(q+7) / 8:=⟨_,rfl⟩
   rw[←hu] at HUS HF
   rw[←hR]
   clear g1 g3 hc hv HI hR hu
   go_wp2_with fail
   have htx:=fun m=>HTX.out (w1.drewN m) ⟨m,rfl⟩
   go_quiet ((go_at_call 33;exact Calls.quiet_of_same (HUS.out _ ⟨_,rfl⟩)))
   go_wp2_with fail
   refine bodyPost_ret (v:=.tuple #[.string ⟨L.toArray⟩,.int .i64 (u:Int),.int .i64 0]) (by simp[results,Tryz.results10,go_sem]) rfl ?_
   exact⟨by rw[HF.out.1],drewN_below' HF.out.2 _⟩
 have HF:Hid (infV s lim=.tuple #[.string ⟨#[]⟩,.int .i64 0,.int .i64 (c:Int)]∧Below w.heap.size w w1):=⟨infV_no g1,b1⟩
 have hci:¬(c:Int)=0:=by omega
 have hcn:((c:Int) != 0)=true:=by simp;omega
 clear g1 g2 HI
 go_wp2_with fail
 refine bodyPost_ret (v:=.tuple #[.string ⟨#[]⟩,.int .i64 0,.int .i64 (c:Int)]) (by simp[results,Tryz.results10,go_sem]) rfl ?_
 exact⟨by rw[HF.out.1],HF.out.2⟩


namespace Nf
def hd (a b:Nat):Bool:=decide (a%16=8)&&(decide (a / 16≤7)&&(decide ((256*a+b)%31=0)&&decide (b / 32%2=0)))
theorem and32:∀b,b<256→((b &&& 32=0)↔(b / 32%2=0)):=by decide +kernel
end Nf
set_option maxHeartbeats 2000000 in
theorem zlibHead_any (a b:Nat) (w:World) (ha:a<256) (hb:b<256):
 Calls Tryz.prog 26 #[.int .i64 (a:Int),.int .i64 (b:Int)] w fun e w'=>e=.returned (.bool (Nf.hd a b))∧w'=w:=by
 have h32:=Nf.and32 b hb
 obtain⟨k,hk⟩:∃k,k=b &&& 32:=⟨_,rfl⟩
 have hand:bits .and .i64 (b:Int) 32=(k:Int):=by rw[hk];exact i64_and_nat b 32 (by omega) (by omega)
 obtain⟨m,hm⟩:∃m,m=a%16:=⟨_,rfl⟩
 obtain⟨d,hd⟩:∃d,d=a / 16:=⟨_,rfl⟩
 obtain⟨S,hS⟩:∃S,S=256*a+b:=⟨_,rfl⟩
 obtain⟨r,hr⟩:∃r,r=S%31:=⟨_,rfl⟩
 have eS:256*(a:Int)+(b:Int)=(S:Int):=by omega
 have eSw:IntKind.i64.wrap (256*(a:Int)+(b:Int))=(S:Int):=by rw[eS];exact wrap_i64_nat S (by omega)
 have em:(a:Int).tmod 16=(m:Int):=by rw[Int.tmod_eq_emod_of_nonneg (by omega)];omega
 have em2:(a:Int)%16=(m:Int):=by omega
 have ed:(a:Int).tdiv 16=(d:Int):=by rw[Int.tdiv_eq_ediv_of_nonneg (by omega)];omega
 have ed2:(a:Int) / 16=(d:Int):=by omega
 have er:(S:Int).tmod 31=(r:Int):=by rw[Int.tmod_eq_emod_of_nonneg (by omega)];omega
 have er2:(S:Int)%31=(r:Int):=by omega
 have w1:=wrap_i64_nat m (by omega)
 have w2:=wrap_i64_nat d (by omega)
 have w3:=wrap_i64_nat r (by omega)
 have HE:Hid (Nf.hd a b=(decide (m=8)&&(decide (d≤7)&&(decide (r=0)&&decide (k=0))))):=by
  show _=_
  unfold Nf.hd
  rw[←hm,←hd,←hS,←hr,hk]
  congr 3
  rw[decide_eq_decide];exact h32.symm
 have hSb:S≤66000:=by omega
 clear hk hm hd hS hr h32 eS
 by_cases c1:m=8
 · subst c1
   by_cases c2:d≤7
   · have c2i:(d:Int)≤7:=by omega
     by_cases c3:r=0
     · subst c3
       by_cases c4:k=0
       · subst c4
         have HF:Hid (Nf.hd a b=true):=by show _=_;rw[HE.out];simp[c2]
         clear HE
         go_enter Tryz.func26,Tryz.ntmps26
         go_wp2_with fail
         go_ret
         exact⟨ret_bool (by rw[HF.out]),rfl⟩
       have c4i:((k:Int)==0)=false:=by simp;omega
       have HF:Hid (Nf.hd a b=false):=by show _=_;rw[HE.out];simp[c4]
       clear HE
       go_enter Tryz.func26,Tryz.ntmps26
       go_wp2_with fail
       go_ret
       exact⟨ret_bool (by rw[HF.out]),rfl⟩
     have c3i:((r:Int)==0)=false:=by simp;omega
     have HF:Hid (Nf.hd a b=false):=by show _=_;rw[HE.out];simp[c3]
     clear HE
     go_enter Tryz.func26,Tryz.ntmps26
     go_wp2_with fail
     go_ret
     exact⟨ret_bool (by rw[HF.out]),rfl⟩
   have c2i:decide ((d:Int)≤7)=false:=decide_eq_false (by omega)
   have HF:Hid (Nf.hd a b=false):=by show _=_;rw[HE.out];simp[c2]
   clear HE
   go_enter Tryz.func26,Tryz.ntmps26
   go_wp2_with fail
   go_ret
   exact⟨ret_bool (by rw[HF.out]),rfl⟩
 have c1i:((m:Int)==8)=false:=by simp;omega
 have HF:Hid (Nf.hd a b=false):=by show _=_;rw[HE.out];simp[c1]
 clear HE
 go_enter Tryz.func26,Tryz.ntmps26
 go_wp2_with fail
 go_ret
 exact⟨ret_bool (by rw[HF.out]),rfl⟩

namespace Nf
def sumAt (s:ByteArray) (u:Nat):Nat:=Nm.big (fun i=>byteAt s (2+u+i)) 4
def ztail (s:ByteArray) (r:Except Nat ((List UInt8×Nat)×List Int)):Except Nat (List UInt8):=
 match r with
 | .error c=>.error c
 | .ok ((L,q),_)=>if 2+(q+7) / 8+4≤s.size then (if s.size=2+(q+7) / 8+4∧((sumAt s ((q+7) / 8):Nat):Int)=Ad.more 1 L then .ok L else .error 1) else .error 2
def zget (s:ByteArray) (lim:Int):Except Nat (List UInt8):=
 if s.size≤9000∧0≤lim∧lim≤5000 then (if s.size<2 then .error 2 else if hd (byteAt s 0) (byteAt s 1)=true then ztail s (inflate (s.extract 2 s.size) lim.toNat) else .error 1) else .error 1
def zV (r:Except Nat (List UInt8)):Value:=match r with|.ok L=>.tuple #[.string ⟨L.toArray⟩,.int .i64 0]|.error c=>.tuple #[.string ⟨#[]⟩,.int .i64 (c:Int)]
theorem zget_bad {s:ByteArray} {lim:Int} (h:¬(s.size≤9000∧0≤lim∧lim≤5000)):zget s lim=.error 1:=if_neg h
theorem zget_short {s:ByteArray} {lim:Int} (h:s.size≤9000∧0≤lim∧lim≤5000) (h2:s.size<2):zget s lim=.error 2:=by unfold zget;rw[if_pos h,if_pos h2]
theorem zget_head {s:ByteArray} {lim:Int} (h:s.size≤9000∧0≤lim∧lim≤5000) (h2:¬s.size<2) (h3:hd (byteAt s 0) (byteAt s 1)=false):zget s lim=.error 1:=by unfold zget;rw[if_pos h,if_neg h2,if_neg (by rw[h3];decide)]
theorem zget_go {s:ByteArray} {lim:Int} (h:s.size≤9000∧0≤lim∧lim≤5000) (h2:¬s.size<2) (h3:hd (byteAt s 0) (byteAt s 1)=true):zget s lim=ztail s (inflate (s.extract 2 s.size) lim.toNat):=by unfold zget;rw[if_pos h,if_neg h2,if_pos h3]
theorem ztail_short {s:ByteArray} {L:List UInt8} {q u:Nat} {ks:List Int} (hu:u=(q+7) / 8) (h:¬2+u+4≤s.size):ztail s (.ok ((L,q),ks))=.error 2:=by subst hu;unfold ztail;simp only[if_neg h]
theorem ztail_bad {s:ByteArray} {L:List UInt8} {q u:Nat} {ks:List Int} (hu:u=(q+7) / 8) (h:2+u+4≤s.size) (h2:¬(s.size=2+u+4∧((sumAt s u:Nat):Int)=Ad.more 1 L)):ztail s (.ok ((L,q),ks))=.error 1:=by subst hu;unfold ztail;simp only[if_pos h,if_neg h2]
theorem ztail_ok {s:ByteArray} {L:List UInt8} {q u:Nat} {ks:List Int} (hu:u=(q+7) / 8) (h:2+u+4≤s.size) (h2:s.size=2+u+4∧((sumAt s u:Nat):Int)=Ad.more 1 L):ztail s (.ok ((L,q),ks))=.ok L:=by subst hu;unfold ztail;simp only[if_pos h,if_pos h2]
theorem sumAt_lt (s:ByteArray) (u:Nat):sumAt s u<4294967296:=Nat.lt_of_lt_of_le (Nm.big_lt _ (fun _=>byteAt_lt _ _) 4) (by decide)
end Nf
theorem extract_from (s:ByteArray) (A i:Nat) (h:A+i<s.size):byteAt (s.extract A s.size) i=byteAt s (A+i):=by
 rw[←byteAt_eq _ i (by rw[ByteArray.size_extract];omega),←byteAt_eq _ (A+i) h,ByteArray.getElem_extract]
theorem big_congr {f g:Nat→Nat}:∀{n:Nat},(∀i,i<n→f i=g i)→Nm.big f n=Nm.big g n
 | 0,_=>rfl
 | n+1,h=>by
  unfold Nm.big
  rw[big_congr (fun i hi=>h i (by omega)),h n (by omega)]

set_option linter.unusedSimpArgs false in
set_option maxHeartbeats 4000000 in
set_option maxRecDepth 20000 in
theorem impl_zlibGet (s:ByteArray) (lim:Int) (w:World) (hs:s.size≤1048576):
 Calls Tryz.prog 7 #[.string s,.int .i64 lim] w fun e w'=>e=.returned (Nf.zV (Nf.zget s lim))∧Below w.heap.size w w':=by
 by_cases hv:s.size≤9000∧0≤lim∧lim≤5000
 · obtain⟨M,rfl⟩:=Int.eq_ofNat_of_zero_le hv.2.1
   have hM:M≤5000:=by omega
   have h9:=hv.1
   have d1:decide ((s.size:Int)>9000)=false:=decide_eq_false (by omega)
   have d2:decide ((9000:Int)<(s.size:Int))=false:=decide_eq_false (by omega)
   have d3:decide ((M:Int)<0)=false:=decide_eq_false (by omega)
   have d4:decide ((M:Int)>5000)=false:=decide_eq_false (by omega)
   have d5:decide ((5000:Int)<(M:Int))=false:=decide_eq_false (by omega)
   by_cases h2:s.size<2
   · have h2i:(s.size:Int)<2:=by omega
     have HF:Hid (Nf.zV (Nf.zget s (M:Int))=.tuple #[.string ⟨#[]⟩,.int .i64 2]):=by show _=_;rw[Nf.zget_short hv h2];rfl
     clear hv
     go_enter Tryz.func7,Tryz.ntmps7
     go_wp2_with fail
     refine bodyPost_ret (v:=.tuple #[.string ⟨#[]⟩,.int .i64 2]) (by simp[results,Tryz.results7,go_sem]) rfl ?_
     exact⟨by rw[HF.out],Below.refl _ _⟩
   have h2i:¬(s.size:Int)<2:=by omega
   have hz0:0<s.size:=by omega
   have hz1:1<s.size:=by omega
   have hz0i:(0:Int)<(s.size:Int):=by omega
   have hz1i:(1:Int)<(s.size:Int):=by omega
   have hb0:=byteAt_eq s 0 hz0
   have hb1:=byteAt_eq s 1 hz1
   have ha:=byteAt_lt s 0
   have hb:=byteAt_lt s 1
   obtain⟨a,hA⟩:∃a,a=byteAt s 0:=⟨_,rfl⟩
   obtain⟨b,hB⟩:∃b,b=byteAt s 1:=⟨_,rfl⟩
   rw[←hA] at hb0 ha
   rw[←hB] at hb1 hb
   have hwa:=wrap_i64_nat a (by omega)
   have hwb:=wrap_i64_nat b (by omega)
   cases hh:Nf.hd a b with
   | false=>
    have HZ:Hid (∀w:World,Calls Tryz.prog 26 #[.int .i64 (a:Int),.int .i64 (b:Int)] w fun e w'=>e=.returned (.bool false)∧w'=w):=fun w=>by have:=zlibHead_any a b w ha hb;rw[hh] at this;exact this
    have HF:Hid (Nf.zV (Nf.zget s (M:Int))=.tuple #[.string ⟨#[]⟩,.int .i64 1]):=by show _=_;rw[Nf.zget_head hv h2 (by rw[←hA,←hB];exact hh)];rfl
    clear hv hA hB hh
    go_enter Tryz.func7,Tryz.ntmps7
    go_wp2_with fail
    go_quiet ((go_at_call 26;exact Calls.quiet_of_same (HZ.out _)))
    go_wp2_with fail
    refine bodyPost_ret (v:=.tuple #[.string ⟨#[]⟩,.int .i64 1]) (by simp[results,Tryz.results7,go_sem]) rfl ?_
    exact⟨by rw[HF.out],below_d (Below.refl _ _) _⟩
   | true=>
    have HZ:Hid (∀w:World,Calls Tryz.prog 26 #[.int .i64 (a:Int),.int .i64 (b:Int)] w fun e w'=>e=.returned (.bool true)∧w'=w):=fun w=>by have:=zlibHead_any a b w ha hb;rw[hh] at this;exact this
    obtain⟨t,ht⟩:∃t,t=s.extract 2 s.size:=⟨_,rfl⟩
    have hts:t.size=s.size-2:=by rw[ht,ByteArray.size_extract];omega
    have hex:s.extract 2 s.size=t:=ht.symm
    have HG:Hid (Nf.zget s (M:Int)=Nf.ztail s (Nf.inflate t M)):=by show _=_;rw[Nf.zget_go hv h2 (by rw[←hA,←hB];exact hh),ht,Int.toNat_natCast]
    have HIN:Hid (∀w:World,Calls Tryz.prog 10 #[.string t,.int .i64 (M:Int)] w fun e w'=>e=.returned (infV t (M:Int))∧Below w.heap.size w w'):=fun w=>impl_inflate t (M:Int) w (by omega)
    have HRS:Hid (Nf.res t (M:Int)=Nf.inflate t M):=Nf.res_ok (by omega) hM
    have HTT:Hid (t=s.extract 2 s.size):=ht
    clear hv hA hB hh
    cases hin:Nf.inflate t M with
    | error c=>
     have HF:Hid (Nf.zV (Nf.zget s (M:Int))=.tuple #[.string ⟨#[]⟩,.int .i64 (c:Int)]):=by show _=_;rw[HG.out,hin];rfl
     have HIV:Hid (infV t (M:Int)=.tuple #[.string ⟨#[]⟩,.int .i64 0,.int .i64 (c:Int)]):=infV_no (HRS.out.trans hin)
     have hc0:c≠0:=inf_c0 hin
     have hci:¬(c:Int)=0:=by omega
     have hcn:((c:Int) != 0)=true:=by simp;omega
     have HI2:Hid (∀w:World,Calls Tryz.prog 10 #[.string t,.int .i64 (M:Int)] w fun e w'=>e=.returned (.tuple #[.string ⟨#[]⟩,.int .i64 0,.int .i64 (c:Int)])∧Below w.heap.size w w'):=fun w=>by rw[←HIV.out];exact HIN.out w
     clear ht hin HG HRS HIV HIN
     go_enter Tryz.func7,Tryz.ntmps7
     go_wp2_with fail
     go_quiet ((go_at_call 26;exact Calls.quiet_of_same (HZ.out _)))
     go_wp2_with fail
     refine (HI2.out _).mono ?_
     rintro e w2 ⟨rfl,b2⟩
     go_wp2_with fail
     refine bodyPost_ret (v:=.tuple #[.string ⟨#[]⟩,.int .i64 (c:Int)]) (by simp[results,Tryz.results7,go_sem]) rfl ?_
     exact⟨by rw[HF.out],(below_d (Below.refl _ _) _).trans b2⟩
    | ok r=>
     obtain⟨⟨L,q⟩,ks⟩:=r
     have hq:q≤8*t.size∧L.length≤M:=inf_le hin
     obtain⟨u,hu⟩:∃u,u=(q+7) / 8:=⟨_,rfl⟩
     have hut:u≤t.size:=by omega
     have HIV:Hid (infV t (M:Int)=.tuple #[.string ⟨L.toArray⟩,.int .i64 (u:Int),.int .i64 0]):=by show _=_;rw[hu];exact infV_ok (HRS.out.trans hin)
     have HI2:Hid (∀w:World,Calls Tryz.prog 10 #[.string t,.int .i64 (M:Int)] w fun e w'=>e=.returned (.tuple #[.string ⟨L.toArray⟩,.int .i64 (u:Int),.int .i64 0])∧Below w.heap.size w w'):=fun w=>by rw[←HIV.out];exact HIN.out w
     have HG2:Hid (Nf.zget s (M:Int)=Nf.ztail s (.ok ((L,q),ks))∧u=(q+7) / 8):=⟨by rw[HG.out,hin],hu⟩
     obtain⟨v,hvv⟩:∃v:Nat,v=2+u:=⟨_,rfl⟩
     have hvi:(2:Int)+(u:Int)=(v:Int):=by omega
     have hvw:IntKind.i64.wrap ((2:Int)+(u:Int))=(v:Int):=by rw[hvi];exact wrap_i64_nat v (by omega)
     have hvs:v≤s.size:=by omega
     have hvsi:(v:Int)≤(s.size:Int):=by omega
     obtain⟨y,hy⟩:∃y,y=s.extract v s.size:=⟨_,rfl⟩
     have hys:y.size=s.size-v:=by rw[hy,ByteArray.size_extract];omega
     have hey:s.extract v s.size=y:=hy.symm
     have HLS:Hid ((⟨L.toArray⟩:ByteArray).size=L.length∧(⟨L.toArray⟩:ByteArray).data.toList=L):=⟨by simp[ByteArray.size],by simp⟩
     have hLb:L.length≤5000:=by omega
     clear ht hin HG HRS HIV HIN hu hq
     by_cases h4:v+4≤s.size
     · have HNG:Hid (∀w:World,Calls Tryz.prog 9 #[.string y,.int .i64 0,.int .i64 4,.bool true] w fun e w'=>e=.returned (.tuple #[.int .i64 ((Nf.sumAt s u:Nat):Int),.bool true])∧Below w.heap.size w w'):=fun w=>by
        have h1:=impl_numGet_high y 0 4 w (by omega) (by omega) (by omega) (by omega)
        have e:Nm.big (fun i=>byteAt y (0+i)) 4=Nf.sumAt s u:=big_congr (fun i hi=>by rw[hy,Nat.zero_add,extract_from s v i (by omega),hvv])
        rw[e] at h1
        exact h1
       have hsl:=Nf.sumAt_lt s u
       by_cases h5:y.size>4
       · have h5i:(y.size:Int)>4:=by omega
         have h5b:decide ((4:Int)<(y.size:Int))=true:=decide_eq_true (by omega)
         have HF:Hid (Nf.zV (Nf.zget s (M:Int))=.tuple #[.string ⟨#[]⟩,.int .i64 1]):=by show _=_;rw[HG2.out.1,Nf.ztail_bad HG2.out.2 (by omega) (fun g=>by have:=g.1;omega)];rfl
         generalize Nf.sumAt s u=sm at*
         clear hy HTT hts hys hut hvv hvs h4 hLb HLS
         go_enter Tryz.func7,Tryz.ntmps7
         go_wp2_with fail
         go_quiet ((go_at_call 26;exact Calls.quiet_of_same (HZ.out _)))
         go_wp2_with fail
         refine (HI2.out _).mono ?_
         rintro e w2 ⟨rfl,b2⟩
         go_wp2_with fail
         refine (HNG.out _).mono ?_
         rintro e w3 ⟨rfl,b3⟩
         have HBB:Hid (Below w.heap.size w w3):=((below_d (Below.refl _ _) _).trans b2).trans (b3.mono b2.size)
         clear b2 b3
         go_wp2_with fail
         refine bodyPost_ret (v:=.tuple #[.string ⟨#[]⟩,.int .i64 1]) (by simp[results,Tryz.results7,go_sem]) rfl ?_
         exact⟨by rw[HF.out],HBB.out⟩
       have h5i:¬(y.size:Int)>4:=by omega
       have h5b:decide ((4:Int)<(y.size:Int))=false:=decide_eq_false (by omega)
       have HAD:Hid (∀w:World,Calls Tryz.prog 11 #[.string ⟨L.toArray⟩] w fun e w'=>e=.returned (.int .i64 (Ad.more 1 L))∧Below w.heap.size w w'):=fun w=>by
        have:=impl_adler32 ⟨L.toArray⟩ w (by rw[HLS.out.1];unfold maxLen;omega)
        rw[HLS.out.2] at this
        exact this
       have HSZ:Hid (s.size=2+u+4):=by show _=_;omega
       obtain⟨X,hX⟩:∃X,X=Ad.more 1 L:=⟨_,rfl⟩
       rw[←hX] at HAD
       by_cases h6:((Nf.sumAt s u:Nat):Int)=X
       · have HF:Hid (Nf.zV (Nf.zget s (M:Int))=.tuple #[.string ⟨L.toArray⟩,.int .i64 0]):=by show _=_;rw[HG2.out.1,Nf.ztail_ok HG2.out.2 (by omega) ⟨HSZ.out,by rw[h6,hX]⟩];rfl
         generalize Nf.sumAt s u=sm at*
         have h6n:((sm:Int) != X)=false:=by rw[h6];simp
         clear hy HTT hX hts hys hut hvv hvs h4 hLb HLS HSZ
         subst h6
         go_enter Tryz.func7,Tryz.ntmps7
         go_wp2_with fail
         go_quiet ((go_at_call 26;exact Calls.quiet_of_same (HZ.out _)))
         go_wp2_with fail
         refine (HI2.out _).mono ?_
         rintro e w2 ⟨rfl,b2⟩
         go_wp2_with fail
         refine (HNG.out _).mono ?_
         rintro e w3 ⟨rfl,b3⟩
         have HBB:Hid (Below w.heap.size w w3):=((below_d (Below.refl _ _) _).trans b2).trans (b3.mono b2.size)
         clear b2 b3
         go_wp2_with fail
         refine (HAD.out _).mono ?_
         rintro e w4 ⟨rfl,b4⟩
         have HB4:Hid (Below w.heap.size w w4):=HBB.out.trans (b4.mono HBB.out.size)
         clear b4
         go_wp2_with fail
         refine bodyPost_ret (v:=.tuple #[.string ⟨L.toArray⟩,.int .i64 0]) (by simp[results,Tryz.results7,go_sem]) rfl ?_
         exact⟨by rw[HF.out],HB4.out⟩
       have HF:Hid (Nf.zV (Nf.zget s (M:Int))=.tuple #[.string ⟨#[]⟩,.int .i64 1]):=by show _=_;rw[HG2.out.1,Nf.ztail_bad HG2.out.2 (by omega) (fun g=>h6 (by rw[hX];exact g.2))];rfl
       generalize Nf.sumAt s u=sm at*
       have h6n:((sm:Int) != X)=true:=by simp[h6]
       clear hy HTT hX hts hys hut hvv hvs h4 hLb HLS HSZ
       go_enter Tryz.func7,Tryz.ntmps7
       go_wp2_with fail
       go_quiet ((go_at_call 26;exact Calls.quiet_of_same (HZ.out _)))
       go_wp2_with fail
       refine (HI2.out _).mono ?_
       rintro e w2 ⟨rfl,b2⟩
       go_wp2_with fail
       refine (HNG.out _).mono ?_
       rintro e w3 ⟨rfl,b3⟩
       have HBB:Hid (Below w.heap.size w w3):=((below_d (Below.refl _ _) _).trans b2).trans (b3.mono b2.size)
       clear b2 b3
       go_wp2_with fail
       refine (HAD.out _).mono ?_
       rintro e w4 ⟨rfl,b4⟩
       have HB4:Hid (Below w.heap.size w w4):=HBB.out.trans (b4.mono HBB.out.size)
       clear b4
       go_wp2_with fail
       refine bodyPost_ret (v:=.tuple #[.string ⟨#[]⟩,.int .i64 1]) (by simp[results,Tryz.results7,go_sem]) rfl ?_
       exact⟨by rw[HF.out],HB4.out⟩
     have HNG:Hid (∀w:World,Calls Tryz.prog 9 #[.string y,.int .i64 0,.int .i64 4,.bool true] w fun e w'=>e=.returned (.tuple #[.int .i64 0,.bool false])∧w'=w):=fun w=>impl_numGet_no y 0 4 true w (by omega) (fun g=>by obtain⟨_,_,_,_,g5⟩:=g;omega)
     have HF:Hid (Nf.zV (Nf.zget s (M:Int))=.tuple #[.string ⟨#[]⟩,.int .i64 2]):=by show _=_;rw[HG2.out.1,Nf.ztail_short HG2.out.2 (by omega)];rfl
     clear hy HTT hts hys hut hvv hvs h4 hLb HLS
     go_enter Tryz.func7,Tryz.ntmps7
     go_wp2_with fail
     go_quiet ((go_at_call 26;exact Calls.quiet_of_same (HZ.out _)))
     go_wp2_with fail
     refine (HI2.out _).mono ?_
     rintro e w2 ⟨rfl,b2⟩
     go_wp2_with fail
     refine (HNG.out _).mono ?_
     rintro e w3 ⟨rfl,hw3⟩
     subst hw3
     have HBB:Hid (Below w.heap.size w w3):=(below_d (Below.refl _ _) _).trans b2
     clear b2
     go_wp2_with fail
     refine bodyPost_ret (v:=.tuple #[.string ⟨#[]⟩,.int .i64 2]) (by simp[results,Tryz.results7,go_sem]) rfl ?_
     exact⟨by rw[HF.out],HBB.out⟩
 have HF:Hid (Nf.zV (Nf.zget s lim)=.tuple #[.string ⟨#[]⟩,.int .i64 1]):=by show _=_;rw[Nf.zget_bad hv];rfl
 by_cases h9:s.size≤9000
 · have d1:decide ((s.size:Int)>9000)=false:=decide_eq_false (by omega)
   have d2:decide ((9000:Int)<(s.size:Int))=false:=decide_eq_false (by omega)
   by_cases hl:lim<0
   · have d3:decide (lim<0)=true:=decide_eq_true hl
     clear hv
     go_enter Tryz.func7,Tryz.ntmps7
     go_wp2_with fail
     refine bodyPost_ret (v:=.tuple #[.string ⟨#[]⟩,.int .i64 1]) (by simp[results,Tryz.results7,go_sem]) rfl ?_
     exact⟨by rw[HF.out],Below.refl _ _⟩
   have d3:decide (lim<0)=false:=decide_eq_false hl
   have d4:decide (lim>5000)=true:=decide_eq_true (by omega)
   have d5:decide ((5000:Int)<lim)=true:=decide_eq_true (by omega)
   clear hv
   go_enter Tryz.func7,Tryz.ntmps7
   go_wp2_with fail
   refine bodyPost_ret (v:=.tuple #[.string ⟨#[]⟩,.int .i64 1]) (by simp[results,Tryz.results7,go_sem]) rfl ?_
   exact⟨by rw[HF.out],Below.refl _ _⟩
 have d1:decide ((s.size:Int)>9000)=true:=decide_eq_true (by omega)
 have d2:decide ((9000:Int)<(s.size:Int))=true:=decide_eq_true (by omega)
 clear hv
 go_enter Tryz.func7,Tryz.ntmps7
 go_wp2_with fail
 refine bodyPost_ret (v:=.tuple #[.string ⟨#[]⟩,.int .i64 1]) (by simp[results,Tryz.results7,go_sem]) rfl ?_
 exact⟨by rw[HF.out],Below.refl _ _⟩
end Go.Proofs.YtejebodgfoihkabGreat
