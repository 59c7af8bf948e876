/- Texts laid together: DfOwnI, DfTopI, LawTwo. -/
import Derived.Test.YtejebodgfoihkaaGreatVFInflateTwoDfHeadI
import Derived.Test.YtejebodgfoihkaaGreatVFInflateTwoDfOftI
import Derived.Test.YtejebodgfoihkaaGreatVFInflateTwoDfTopS
import Derived.Test.YtejebodgfoihkaaGreatVFInflateTwoBpTop
import Derived.Test.YtejebodgfoihkaaGreatKFInflateTwox1
import Derived.Test.YtejebodgfoihkaaGreatKFInflateTwox0
import Derived.Test.YtejebodgfoihkaaGreatKFInflateTwox2
import Derived.Test.YtejebodgfoihkaaGreatKFInflateTwox6
/- The packer of the program: a text by codes that are made for it. -/
namespace Go.Proofs.YtejebodgfoihkaaGreat
open Go.RowKit

theorem HeldK.below {W X:World} {Bt n c:Nat} {a:Option Addr} {l:List Tk} (h:HeldK W Bt a n c l) (hbt:Bt<W.heap.size) (b:Below W.heap.size W X):HeldK X Bt a n c l:=
 ⟨h.len,h.few,(b.cell (p:=⟨Bt,0,none⟩) hbt).trans h.box,h.toks.kept b,h.ok⟩
theorem HeldK.gr {W X:World} {Bt n c B:Nat} {v v':Value} {a:Option Addr} {l:List Tk} (h:HeldK W Bt a n c l) (hbt:Bt<W.heap.size) (k:Gr B v v' W X) (q1:Bt≠B) (q2:v.ownBlock≠some Bt) (q3:∀b off,a=some ⟨b,off,none⟩→b≠B∧v.ownBlock≠some b):HeldK X Bt a n c l:=
 ⟨h.len,h.few,(k.cell (a:=⟨Bt,0,none⟩) hbt q1 q2).trans h.box,h.toks.gr k q3,h.ok⟩
theorem head_len {LS LD BY:List Int} (h1:LS.length=286) (h2:LD.length=30):(Df.head LS LD BY).length≤700:=by
 have h3:=Df.runs_len (Df.joined LS LD)
 have h4:=Df.joined_len (LS:=LS) (LD:=LD)
 unfold Df.head Df.threes Df.top
 simp only[List.length_append,List.length_map,List.length_take,Df.runBits_len,List.length_cons,List.length_nil,Df.ordered_len]
 omega
def OwnPEnd (B N:Nat) (v:Value) (l:List (Int×Int)) (ts:List Tk) (w:World) (e:Ending) (w':World):Prop:=(∃r,e=.returned r)∧∃LS LD BY v' y1 y2,Df.IsOwn ts LS LD BY∧PkDone B y1 y2 v (N+(Df.own LS LD BY ts).length) (l++Df.own LS LD BY ts) w v' w'
set_option linter.unusedSimpArgs false in
set_option linter.unusedVariables false in
set_option maxHeartbeats 8000000 in
set_option maxRecDepth 20000 in
theorem own_pk (B N Bt Nt c:Nat) (a:Option Addr) (v x1 x2:Value) (l:List (Int×Int)) (ts:List Tk) (w:World) (hB:w.heap[B]?=some (.cells #[v,x1,x2] 41 (0,0))) (hO:OwnX w B v N l) (hN:N≤100)
 (hbt:Bt<w.heap.size) (hK:HeldK w Bt a Nt c ts) (q1:Bt≠B) (q2:v.ownBlock≠some Bt) (q3:∀b off,a=some ⟨b,off,none⟩→b<w.heap.size∧b≠B∧v.ownBlock≠some b):
 Calls Tryz.prog 19 #[.pointer (some ⟨B,0,none⟩),.func (.func 36) #[] #[.pointer (some ⟨Bt,0,none⟩)]] w (OwnPEnd B N v l ts w):=by
 have hBl:B<w.heap.size:=(Array.getElem?_eq_some_iff.1 hB).1
 have hvl:∀k,v.ownBlock=some k→k<w.heap.size:=fun k e=>(World.ownsRow.lt (show World.ownsRow _ _ _ _ _ _ _ from hO.1) k e).2
 have hts:ts.length≤5000:=by have h1:=hK.len;have h2:=hK.few;omega
 have eg:Enters Tryz.prog 36:=enters_of Tryz.func36 (by kernel_rfl) rfl
 have hit:IterOk 36 Bt ts KpS (fun W=>HeldK W Bt a Nt c ts):=iterVal Bt a Nt c ts KpS (fun _ _ _ h=>h)
 have HOF:Hid (Calls Tryz.prog 33 #[.func (.func 36) #[] #[.pointer (some ⟨Bt,0,none⟩)]] w (OftIEnd w ts)):=howOften_any Bt _ eg ts _ w hbt hit (fun X b=>hK.below hbt b) hts
 have HPK:Hid (w.heap[B]?=some (.cells #[v,x1,x2] 41 (0,0))∧OwnX w B v N l∧∀k,v.ownBlock=some k→k<w.heap.size):=⟨hB,hO,hvl⟩
 have HIT:Hid (Enters Tryz.prog 36∧IterOk 36 Bt ts KpS (fun W=>HeldK W Bt a Nt c ts)):=⟨eg,hit⟩
 have HK:Hid (HeldK w Bt a Nt c ts∧Bt<w.heap.size∧Bt≠B∧v.ownBlock≠some Bt∧∀b off,a=some ⟨b,off,none⟩→b<w.heap.size∧b≠B∧v.ownBlock≠some b):=⟨hK,hbt,q1,q2,q3⟩
 clear hB hO hvl eg hit hK q1 q2 q3 hbt
 go_enter Tryz.func19,Tryz.ntmps19
 go_wp2_with fail
 refine HOF.out.mono ?_
 rintro e w1 ⟨⟨b1,b2,rfl,hb1,hb2,r1,r2⟩,bw1⟩
 clear HOF
 have HF1:Hid (Calls Tryz.prog 34 #[.slice (some ⟨b1,0,none⟩) 286 286,.int .i64 15] w1 (FitEndI (Df.oftS ts) 286 15 w1)):=fit_fitL _ 286 286 _ 15 w1 r1.ints (Df.oftS_len ts) (by omega) (oftS_fit hts)
 have HR2:Hid (DRow w1 b2 (Df.cntD ts)∧Below w.heap.size w w1):=⟨r2,bw1⟩
 clear r1 r2 bw1 hb1 hb2
 go_wp2_with fail
 refine HF1.out.mono ?_
 rintro e w2 ⟨⟨s,LS,rfl,hsb,iS,fS⟩,bw2⟩
 clear HF1
 have HF2:Hid (Calls Tryz.prog 34 #[.slice (some ⟨b2,0,none⟩) 30 30,.int .i64 15] w2 (FitEndI (Df.cntD ts) 30 15 w2)):=fit_fitL _ 30 30 _ 15 w2 (HR2.out.1.below bw2).ints (Df.cntD_len ts) (by omega) (cntD_fit hts)
 have HS2:Hid (Ints w2 (some ⟨s,0,none⟩) LS∧Df.FitL 15 (Df.oftS ts) LS∧w.heap.size≤s∧Below w.heap.size w w2):=⟨iS,fS,Nat.le_trans HR2.out.2.size hsb,HR2.out.2.trans (bw2.mono HR2.out.2.size)⟩
 clear HR2 iS fS hsb bw2
 go_wp2_with fail
 refine HF2.out.mono ?_
 rintro e w3 ⟨⟨d,LD,rfl,hdb,iD,fD⟩,bw3⟩
 clear HF2
 have HS3:Hid (Ints w3 (some ⟨s,0,none⟩) LS∧Df.FitL 15 (Df.oftS ts) LS∧w.heap.size≤s∧Ints w3 (some ⟨d,0,none⟩) LD∧Df.FitL 15 (Df.cntD ts) LD∧w.heap.size≤d∧Below w.heap.size w w3):=⟨HS2.out.1.kept bw3,HS2.out.2.1,HS2.out.2.2.1,iD,fD,Nat.le_trans HS2.out.2.2.2.size hdb,HS2.out.2.2.2.trans (bw3.mono HS2.out.2.2.2.size)⟩
 have HLn:Hid (LS.length=286∧LD.length=30):=⟨by rw[HS2.out.2.1.len,Df.oftS_len],by rw[fD.len,Df.cntD_len]⟩
 clear HS2 iD fD hdb bw3
 have HB3:Hid (w3.heap[B]?=some (.cells #[v,x1,x2] 41 (0,0))∧OwnX w3 B v N l):=⟨(HS3.out.2.2.2.2.2.2.block B hBl).trans HPK.out.1,⟨HPK.out.2.1.1.same (fun k hk _=>HS3.out.2.2.2.2.2.2.block k hk),HPK.out.2.1.2⟩⟩
 have HHD:Hid (Calls Tryz.prog 35 #[.pointer (some ⟨B,0,none⟩),.slice (some ⟨s,0,none⟩) 286 286,.slice (some ⟨d,0,none⟩) 30 30] w3 (HeadEnd B N v x1 x2 l LS LD w3)):=head_pk B N s d v x1 x2 l LS LD w3 HB3.out.1 HB3.out.2 (by omega) HS3.out.1 HS3.out.2.2.2.1 HLn.out.1 HLn.out.2 (HS3.out.2.1.all (by omega)) (HS3.out.2.2.2.2.1.all (by omega))
 go_wp2_with fail
 refine HHD.out.mono ?_
 rintro e w4 ⟨⟨r0,rfl⟩,BY,v',fB,hD⟩
 clear HHD
 have hhl:=head_len (BY:=BY) HLn.out.1 HLn.out.2
 have HD:Hid (PkDone B x1 x2 v (N+(Df.head LS LD BY).length) (l++Df.head LS LD BY) w3 v' w4∧Df.FitL 7 (Df.cnt3 (Df.runs (Df.joined LS LD))) BY):=⟨hD,fB⟩
 have hsw:s<w3.heap.size∧d<w3.heap.size:=by
  constructor
  · rcases HS3.out.1 with e|⟨b',off,e,hlt,_⟩
    · have:=HLn.out.1;rw[e] at this;simp at this
    cases e;exact hlt
  rcases HS3.out.2.2.2.1 with e|⟨b',off,e,hlt,_⟩
  · have:=HLn.out.2;rw[e] at this;simp at this
  cases e;exact hlt
 have hsB:s≠B∧v.ownBlock≠some s:=⟨by have:=HS3.out.2.2.1;omega,fun e=>by have:=HPK.out.2.2 s e;have:=HS3.out.2.2.1;omega⟩
 have hdB:d≠B∧v.ownBlock≠some d:=⟨by have:=HS3.out.2.2.2.2.2.1;omega,fun e=>by have:=HPK.out.2.2 d e;have:=HS3.out.2.2.2.2.2.1;omega⟩
 have hb3:=HS3.out.2.2.2.2.2.2
 have hK3:=HK.out.1.below HK.out.2.1 hb3
 have hbt3:Bt<w3.heap.size:=Nat.lt_of_lt_of_le HK.out.2.1 hb3.size
 have hK4:HeldK w4 Bt a Nt c ts:=hK3.gr hbt3 hD.2.2 HK.out.2.2.1 HK.out.2.2.2.1 (fun b off e=>(HK.out.2.2.2.2 b off e).2)
 have HBD:Hid (Calls Tryz.prog 17 #[.pointer (some ⟨B,0,none⟩),.func (.func 36) #[] #[.pointer (some ⟨Bt,0,none⟩)],.slice (some ⟨s,0,none⟩) 286 286,.slice (some ⟨d,0,none⟩) 30 30] w4 (BodyEnd B (N+(Df.head LS LD BY).length) v' (l++Df.head LS LD BY) (Df.body LS LD ts) w4)):=
  body_pk B (N+(Df.head LS LD BY).length) Bt s 286 286 d 30 30 _ _ _ HIT.out.1 v' x1 x2 (l++Df.head LS LD BY) LS LD ts KpS (fun W=>HeldK W Bt a Nt c ts) w4 hD.1 hD.2.1 (by omega) hts rfl rfl
   (HS3.out.1.gr hD.2.2 hsB.1 hsB.2) (HS3.out.2.2.2.1.gr hD.2.2 hdB.1 hdB.2) HLn.out.1 HLn.out.2 (by omega) (by omega) HS3.out.2.1.ok HS3.out.2.2.2.2.1.ok hsB.1 hdB.1
   (Nat.lt_of_lt_of_le hbt3 hD.2.2.size) HIT.out.2 (kpS_ok Bt)
   (fun X v'' g=>hK4.gr (Nat.lt_of_lt_of_le hbt3 hD.2.2.size) g HK.out.2.2.1 (hD.2.2.far hbt3 HK.out.2.2.2.1) (fun b off e=>⟨(HK.out.2.2.2.2 b off e).2.1,hD.2.2.far (Nat.lt_of_lt_of_le (HK.out.2.2.2.2 b off e).1 hb3.size) (HK.out.2.2.2.2 b off e).2.2⟩))
   (fun W _=>rounds_size B v' W)
 clear hD fB hhl hsw hsB hdB hb3 hK3 hbt3 hK4
 go_wp2_with fail
 refine HBD.out.mono ?_
 rintro e w5 ⟨⟨r1,rfl⟩,v'',y1,y2,hE⟩
 clear HBD
 have HE:Hid (∃LS LD BY v' y1 y2,Df.IsOwn ts LS LD BY∧PkDone B y1 y2 v (N+(Df.own LS LD BY ts).length) (l++Df.own LS LD BY ts) w v' w5):=by
  refine⟨LS,LD,BY,v'',y1,y2,⟨HS3.out.2.1,HS3.out.2.2.2.2.1,HD.out.2⟩,hE.1,?_,Gr.below' HS3.out.2.2.2.2.2.2 (HD.out.1.2.2.trans hE.2.2)⟩
  have h:=hE.2.1
  unfold Df.own
  rw[List.length_append,←Nat.add_assoc,←List.append_assoc]
  exact h
 clear hE
 go_wp2_with fail
 go_end0
 exact⟨⟨_,rfl⟩,HE.out⟩

def pk0 (w:World) (k:Int):World:=(w.alloc (.cells #[.int .i64 1,.int .i64 1,.int .i64 k,.int .i64 2] 38)).alloc (.cells #[.slice (some ⟨w.heap.size,0,none⟩) 2 2,.slice none 0 0,.slice none 0 0] 41)
structure Pk0 (w:World) (k:Int) (X:World):Prop where
 box:X.heap[w.heap.size+1]?=some (.cells #[.slice (some ⟨w.heap.size,0,none⟩) 2 2,.slice none 0 0,.slice none 0 0] 41 (0,0))
 own:OwnX X (w.heap.size+1) (.slice (some ⟨w.heap.size,0,none⟩) 2 2) 2 [(1,1),(k,2)]
 low:Below w.heap.size w X
 size:w.heap.size+2≤X.heap.size
theorem pk0_new (w:World) (k:Int):Pk0 w k (pk0 w k):=by
 have h1:(w.alloc (.cells #[.int .i64 1,.int .i64 1,.int .i64 k,.int .i64 2] 38)).heap.size=w.heap.size+1:=by simp
 refine⟨?_,⟨?_,?_⟩,((Below.refl _ _).alloc (Nat.le_refl _) _).alloc (by simp) _,by simp[pk0]⟩
 · have h:=heap_alloc_new (w.alloc (.cells #[.int .i64 1,.int .i64 1,.int .i64 k,.int .i64 2] 38)) (.cells #[.slice (some ⟨w.heap.size,0,none⟩) 2 2,.slice none 0 0,.slice none 0 0] 41)
   rw[h1] at h
   exact h
 · refine⟨rfl,.inr ⟨w.heap.size,2,#[.int .i64 1,.int .i64 1,.int .i64 k,.int .i64 2],rfl,Nat.zero_le _,?_,Nat.le_refl _,by decide,rfl,rfl⟩⟩
   exact (Below.heap_alloc _ _ _ (by simp)).trans (heap_alloc_new w _)
 intro e
 simp[Value.ownBlock] at e
theorem Pk0.below {w X Y:World} {k:Int} (h:Pk0 w k X) (b:Below X.heap.size X Y):Pk0 w k Y:=
 ⟨(b.block _ (by have:=h.size;omega)).trans h.box,h.own.below b,h.low.trans (b.mono h.low.size),Nat.le_trans h.size b.size⟩
theorem Pk0.far {w X:World} {k:Int} {v':Value} {Y:World} (h:Pk0 w k X) (g:Gr (w.heap.size+1) (.slice (some ⟨w.heap.size,0,none⟩) 2 2) v' X Y):Below w.heap.size w Y:=
 h.low.trans ⟨g.os,g.tape,g.output,g.size,fun j hj=>g.block j (by have:=h.size;omega) (by omega) (fun e=>by
  have:w.heap.size=j:=by simpa [Value.ownBlock] using e
  omega)⟩
theorem put_fits {v:Value} {M:Nat} {L:List (Int×Int)} {W:World} (ho:OwnP W 0 v M L) (hM:M≤2000000) (hf:Bp.Fits L L.length):
 ∃ao cap,v=.slice ao M cap∧Calls Tryz.prog 22 #[.slice ao M cap,.bool false] W fun e w'=>e=.returned (.string (Df.bytes (Bp.text false L)))∧Below W.heap.size W w':=by
 obtain⟨ao,cap,rfl,hb⟩:=ho.bits
 refine⟨ao,cap,rfl,?_⟩
 have h:=impl_bitsPut_low ao M cap L W hb ho.len hM (fun p hp=>by
  obtain⟨i,hi,rfl⟩:=List.mem_iff_getElem.1 hp
  obtain⟨⟨h1,h2,h3,h4⟩,_⟩:=hf i hi hi
  have h5:2^(L[i]).2.toNat≤2^24:=Nat.pow_le_pow_right (by decide) (by omega)
  have h6:(2:Nat)^24=16777216:=by decide
  omega)
 rw[Bp.answer_yes hf] at h
 exact h
def DefEndI (s:ByteArray) (k:Nat) (w:World) (e:Ending) (w':World):Prop:=(∃T,e=.returned (.string (Df.bytes T))∧Df.Packed s k T)∧Below w.heap.size w w'
set_option maxHeartbeats 4000000 in
set_option maxRecDepth 20000 in
theorem impl_def0 (s:ByteArray) (w:World) (hs:s.size≤5000):Calls Tryz.prog 6 #[.string s,.int .i64 0] w (DefEndI s 0 w):=by
 have hsi:¬(5000:Int)<(s.size:Int):=by omega
 have HP:Hid (Pk0 w 0 (pk0 w 0)):=pk0_new w 0
 have HFT:Hid (Bp.Fits (Df.plainBits (Df.nums s)) (Df.plainBits (Df.nums s)).length∧Df.Packed s 0 (Bp.text false (Df.plainBits (Df.nums s)))):=by
  refine⟨Df.plain_fits (Df.nums_lt s) (by rw[Df.nums_len];exact hs),?_⟩
  unfold Df.Packed
  rw[if_pos rfl]
  exact Df.plain_text _ (Df.nums_lt s)
 obtain⟨X,hX⟩:∃X,X=pk0 w 0:=⟨_,rfl⟩
 rw[←hX] at HP
 have HPL:Hid (Calls Tryz.prog 15 #[.pointer (some ⟨w.heap.size+1,0,none⟩),.string s] X (PkEnd (w.heap.size+1) _ _ _ (2+(pbits s s.size).length) ([(1,1),(0,2)]++pbits s s.size) X)):=plain_pk (w.heap.size+1) 2 s _ _ _ _ X hs HP.out.box HP.out.own (by omega)
 have hpl:=pbits_len s s.size (Nat.le_refl _)
 unfold pk0 at hX
 have hsz:s.size≤5000:=hs
 clear hs
 go_enter Tryz.func6,Tryz.ntmps6
 go_wp2_with fail
 rw[←hX]
 clear hX
 refine HPL.out.mono ?_
 rintro e W ⟨⟨r,rfl⟩,v',hD⟩
 clear HPL
 have hO:=hD.2.1.1
 rw[pbits_all] at hO
 obtain⟨ao,cap,rfl,hput⟩:=put_fits hO (by omega) HFT.out.1
 have HB:Hid (Below w.heap.size w W):=HP.out.far hD.2.2
 have HPUT:Hid (Calls Tryz.prog 22 #[.slice ao (2+(pbits s s.size).length) cap,.bool false] W fun e w'=>e=.returned (.string (Df.bytes (Bp.text false (Df.plainBits (Df.nums s)))))∧Below W.heap.size W w'):=hput
 have pc:=(pk_cell hD.1).1
 have HPD:Hid (Df.Packed s 0 (Bp.text false (Df.plainBits (Df.nums s)))):=HFT.out.2
 generalize Bp.text false (Df.plainBits (Df.nums s))=TX at*
 generalize 2+(pbits s s.size).length=M at*
 clear hD hO hput HFT HP hpl
 go_wp2_with fail
 refine HPUT.out.mono ?_
 rintro e W2 ⟨rfl,b2⟩
 have HE:Hid (DefEndI s 0 w (.returned (.string (Df.bytes TX))) W2):=⟨⟨TX,rfl,HPD.out⟩,HB.out.trans (b2.mono HB.out.size)⟩
 clear b2 HPUT
 unfold Df.bytes at HE
 go_wp2_with fail
 go_ret
 exact HE.out
set_option maxHeartbeats 1000000 in
theorem values_any (a:Option Addr) (n c:Nat) (w:World):Calls Tryz.prog 20 #[.slice a n c] w fun e w'=>e=.returned (.func (.func 36) #[] #[.pointer (some ⟨w.heap.size,0,none⟩)])∧w'=w.alloc (.cells #[.slice a n c] 51):=by
 go_enter Tryz.func20,Tryz.ntmps20
 go_wp2_with fail
 go_ret
 exact⟨rfl,rfl⟩
set_option maxHeartbeats 4000000 in
set_option maxRecDepth 20000 in
theorem impl_def1 (s:ByteArray) (w:World) (hs:s.size≤5000):Calls Tryz.prog 6 #[.string s,.int .i64 1] w (DefEndI s 1 w):=by
 have hsi:¬(5000:Int)<(s.size:Int):=by omega
 have HP:Hid (Pk0 w 1 (pk0 w 1)):=pk0_new w 1
 have hlen:=Ty.from_len s 0
 have HFT:Hid (Bp.Fits ([(1,1),(1,2)]++Df.body Df.fixS Df.fixD (Ty.from_ s 0)) ([(1,1),(1,2)]++Df.body Df.fixS Df.fixD (Ty.from_ s 0)).length∧Df.Packed s 1 (Bp.text false ([(1,1),(1,2)]++Df.body Df.fixS Df.fixD (Ty.from_ s 0)))):=by
  refine⟨Df.flat_fits (Ty.small hs) Df.fixS_ok Df.fixD_ok (by rw[Df.fixS_len];omega) (by rw[Df.fixD_len];omega) Df.fixS_le Df.fixD_le,?_⟩
  unfold Df.Packed
  rw[if_neg (by decide),if_pos rfl]
 have HIT:Hid (∀Bt,IterOk 30 Bt (Ty.from_ s 0) (KpT Bt) (fun W=>W.cell? ⟨Bt,0,none⟩=some (.string s))):=fun Bt=>iterTok s hs Bt
 have htk:=Df.toks_len Df.fixS Df.fixD (Ty.from_ s 0)
 have hN5:(Ty.from_ s 0).length≤5000:=by omega
 generalize Ty.from_ s 0=l at*
 have hLl:(Df.body Df.fixS Df.fixD l).length≤30000:=by
  unfold Df.body
  rw[List.length_append,List.length_singleton]
  omega
 obtain⟨X,hX⟩:∃X,X=pk0 w 1:=⟨_,rfl⟩
 rw[←hX] at HP
 unfold pk0 at hX
 have hsz:s.size≤5000:=hs
 clear hs hlen htk
 go_enter Tryz.func6,Tryz.ntmps6
 go_wp2_with fail
 rw[←hX]
 clear hX
 refine (fixedLengths_any X).mono ?_
 rintro e w1 ⟨⟨b1,b2,rfl,hb1,hb2,r1,r2⟩,bw1⟩
 have HF1:Hid (Pk0 w 1 w1∧X.heap.size≤b1∧X.heap.size≤b2∧DRow w1 b1 Df.fixS∧DRow w1 b2 Df.fixD):=⟨HP.out.below bw1,hb1,hb2,r1,r2⟩
 have hXs:=HP.out.size
 clear hb1 hb2 r1 r2 bw1
 go_wp2_with fail
 refine (tokensIn_any s w1).mono ?_
 rintro e w2 ⟨rfl,hw2⟩
 have bw2:Below w1.heap.size w1 w2:=by rw[hw2];exact (Below.refl _ _).alloc (Nat.le_refl _) _
 have hs2:w2.heap.size=w1.heap.size+1:=by rw[hw2];simp
 have hc2:w2.cell? ⟨w1.heap.size,0,none⟩=some (.string s):=by rw[hw2,World.cell?_alloc_at _ _ _ _ rfl];rfl
 obtain⟨Bt,hBt⟩:∃Bt,Bt=w1.heap.size:=⟨_,rfl⟩
 rw[←hBt] at hc2 ⊢
 have HP2:Hid (Pk0 w 1 w2):=HF1.out.1.below bw2
 have hw1s:=HF1.out.1.size
 have hq:(Value.slice (some ⟨w.heap.size,0,none⟩) 2 2).ownBlock≠some Bt:=fun e=>by
  have:w.heap.size=Bt:=by simpa [Value.ownBlock] using e
  omega
 have HBD:Hid (Calls Tryz.prog 17 #[.pointer (some ⟨w.heap.size+1,0,none⟩),.func (.func 30) #[] #[.pointer (some ⟨Bt,0,none⟩)],.slice (some ⟨b1,0,none⟩) 288 288,.slice (some ⟨b2,0,none⟩) 32 32] w2 (BodyEnd (w.heap.size+1) 2 (.slice (some ⟨w.heap.size,0,none⟩) 2 2) [(1,1),(1,2)] (Df.body Df.fixS Df.fixD l) w2)):=
  body_pk (w.heap.size+1) 2 Bt b1 288 288 b2 32 32 _ _ _ (enters_of Tryz.func30 (by kernel_rfl) rfl) _ _ _ [(1,1),(1,2)] Df.fixS Df.fixD l (KpT Bt) (fun W=>W.cell? ⟨Bt,0,none⟩=some (.string s)) w2 HP2.out.box HP2.out.own (by omega) hN5 rfl rfl
   (HF1.out.2.2.2.1.below bw2).ints (HF1.out.2.2.2.2.below bw2).ints Df.fixS_len Df.fixD_len (by omega) (by omega) Df.fixS_ok Df.fixD_ok (by have:=HF1.out.2.1;omega) (by have:=HF1.out.2.2.1;omega)
   (by omega) (HIT.out Bt) (kpT_ok Bt)
   (fun X v' g=>(g.cell (a:=⟨Bt,0,none⟩) (by show Bt<w2.heap.size;omega) (by show Bt≠w.heap.size+1;omega) hq).trans hc2)
   (fun W hW=>rounds_tok (w.heap.size+1) Bt _ W (by have:=hW.size;omega) (by omega) hq)
 clear hw2 bw2 hs2 hc2 hq HIT hBt
 go_wp2_with fail
 refine HBD.out.mono ?_
 rintro e W ⟨⟨r,rfl⟩,v',y1,y2,hD⟩
 clear HBD
 obtain⟨ao,cap,rfl,hput⟩:=put_fits hD.2.1.1 (by omega) HFT.out.1
 have HB:Hid (Below w.heap.size w W):=HP2.out.far hD.2.2
 have HPUT:Hid (Calls Tryz.prog 22 #[.slice ao (2+(Df.body Df.fixS Df.fixD l).length) cap,.bool false] W fun e w'=>e=.returned (.string (Df.bytes (Bp.text false ([(1,1),(1,2)]++Df.body Df.fixS Df.fixD l))))∧Below W.heap.size W w'):=hput
 have pc:=(pk_cell hD.1).1
 have HPD:Hid (Df.Packed s 1 (Bp.text false ([(1,1),(1,2)]++Df.body Df.fixS Df.fixD l))):=HFT.out.2
 generalize Bp.text false ([(1,1),(1,2)]++Df.body Df.fixS Df.fixD l)=TX at*
 generalize 2+(Df.body Df.fixS Df.fixD l).length=M at*
 clear hD hput HFT HP HP2 HF1
 go_wp2_with fail
 refine HPUT.out.mono ?_
 rintro e W2 ⟨rfl,b2⟩
 have HE:Hid (DefEndI s 1 w (.returned (.string (Df.bytes TX))) W2):=⟨⟨TX,rfl,HPD.out⟩,HB.out.trans (b2.mono HB.out.size)⟩
 clear b2 HPUT
 go_wp2_with fail
 go_ret
 exact HE.out
set_option maxHeartbeats 4000000 in
set_option maxRecDepth 20000 in
theorem impl_def2 (s:ByteArray) (w:World) (hs:s.size≤5000):Calls Tryz.prog 6 #[.string s,.int .i64 2] w (DefEndI s 2 w):=by
 have hsi:¬(5000:Int)<(s.size:Int):=by omega
 have HP:Hid (Pk0 w 2 (pk0 w 2)):=pk0_new w 2
 have hlen:=Ty.from_len s 0
 have hsm:=Ty.small hs
 have HFT:Hid (∀LS LD BY,Df.IsOwn (Ty.from_ s 0) LS LD BY→Bp.Fits ([(1,1),(2,2)]++Df.own LS LD BY (Ty.from_ s 0)) ([(1,1),(2,2)]++Df.own LS LD BY (Ty.from_ s 0)).length∧Df.Packed s 2 (Bp.text false ([(1,1),(2,2)]++Df.own LS LD BY (Ty.from_ s 0)))):=fun LS LD BY h=>by
  refine⟨Df.own_fits hsm h (.inr rfl),?_⟩
  unfold Df.Packed
  rw[if_neg (by decide),if_neg (by decide)]
  exact⟨LS,LD,BY,h,rfl⟩
 have HTO:Hid (∀w:World,Calls Tryz.prog 21 #[.string s] w (TkImp w (Ty.from_ s 0))):=fun w=>by
  have h:=impl_tokensOf s w (by omega)
  rw[if_neg (by omega)] at h
  exact h
 generalize Ty.from_ s 0=l at*
 have HSM:Hid (∀t∈l,Df.TkOk t):=hsm.ok
 have hN5:l.length≤5000:=by omega
 obtain⟨X,hX⟩:∃X,X=pk0 w 2:=⟨_,rfl⟩
 rw[←hX] at HP
 unfold pk0 at hX
 have hsz:s.size≤5000:=hs
 clear hs hlen hsm
 go_enter Tryz.func6,Tryz.ntmps6
 go_wp2_with fail
 rw[←hX]
 clear hX
 refine (HTO.out X).mono ?_
 rintro e w1 ⟨v,rfl,hO,_,bw1⟩
 obtain⟨ao,cap,rfl,hT⟩:=hO.toks
 have hfar:∀b off,ao=some ⟨b,off,none⟩→X.heap.size≤b∧b<w1.heap.size:=fun b off e=>World.ownsRow.lt (show World.ownsRow _ _ _ _ _ _ _ from hO) b (by rw[e];rfl)
 have HT1:Hid (Toks w1 ao l∧(∀b off,ao=some ⟨b,off,none⟩→X.heap.size≤b∧b<w1.heap.size)∧Pk0 w 2 w1):=⟨hT,hfar,HP.out.below bw1⟩
 have hXs:=HP.out.size
 clear hO hT hfar bw1
 obtain⟨n,hn⟩:∃n,n=l.length:=⟨_,rfl⟩
 rw[←hn]
 have HN:Hid (l.length=n):=hn.symm
 have hn5:n≤5000:=by omega
 clear hn
 go_wp2_with fail
 refine (values_any ao n cap w1).mono ?_
 rintro e w2 ⟨rfl,hw2⟩
 have bw2:Below w1.heap.size w1 w2:=by rw[hw2];exact (Below.refl _ _).alloc (Nat.le_refl _) _
 have hs2:w2.heap.size=w1.heap.size+1:=by rw[hw2];simp
 have hc2:w2.cell? ⟨w1.heap.size,0,none⟩=some (.slice ao n cap):=by rw[hw2,World.cell?_alloc_at _ _ _ _ rfl];rfl
 obtain⟨Bt,hBt⟩:∃Bt,Bt=w1.heap.size:=⟨_,rfl⟩
 rw[←hBt] at hc2 ⊢
 have HP2:Hid (Pk0 w 2 w2):=HT1.out.2.2.below bw2
 have hw1s:=HT1.out.2.2.size
 have hq:∀b,w.heap.size<b→(Value.slice (some ⟨w.heap.size,0,none⟩) 2 2).ownBlock≠some b:=fun b h e=>by
  have:w.heap.size=b:=by simpa [Value.ownBlock] using e
  omega
 have HOW:Hid (Calls Tryz.prog 19 #[.pointer (some ⟨w.heap.size+1,0,none⟩),.func (.func 36) #[] #[.pointer (some ⟨Bt,0,none⟩)]] w2 (OwnPEnd (w.heap.size+1) 2 (.slice (some ⟨w.heap.size,0,none⟩) 2 2) [(1,1),(2,2)] l w2)):=
  own_pk (w.heap.size+1) 2 Bt n cap ao _ _ _ [(1,1),(2,2)] l w2 HP2.out.box HP2.out.own (by omega) (by omega) ⟨HN.out,hn5,hc2,HT1.out.1.kept bw2,HSM.out⟩ (by omega) (hq Bt (by omega))
   (fun b off e=>by have h:=HT1.out.2.1 b off e;exact⟨by omega,by omega,hq b (by omega)⟩)
 clear hw2 bw2 hs2 hc2 hq HT1 HTO hBt
 go_wp2_with fail
 refine HOW.out.mono ?_
 rintro e W ⟨⟨r,rfl⟩,LS,LD,BY,v',y1,y2,hio,hD⟩
 clear HOW
 have hfl:=HFT.out LS LD BY hio
 have hLl:(Df.own LS LD BY l).length≤30000:=by
  have h1:=Df.toks_len LS LD l
  have h4:LS.length=286:=by rw[hio.1.len,Df.oftS_len]
  have h5:LD.length=30:=by rw[hio.2.1.len,Df.cntD_len]
  have h6:=head_len (BY:=BY) h4 h5
  unfold Df.own Df.body
  rw[List.length_append,List.length_append,List.length_singleton]
  omega
 obtain⟨ao2,cap2,rfl,hput⟩:=put_fits hD.2.1.1 (by omega) hfl.1
 have HB:Hid (Below w.heap.size w W):=HP2.out.far hD.2.2
 have HPUT:Hid (Calls Tryz.prog 22 #[.slice ao2 (2+(Df.own LS LD BY l).length) cap2,.bool false] W fun e w'=>e=.returned (.string (Df.bytes (Bp.text false ([(1,1),(2,2)]++Df.own LS LD BY l))))∧Below W.heap.size W w'):=hput
 have pc:=(pk_cell hD.1).1
 have HPD:Hid (Df.Packed s 2 (Bp.text false ([(1,1),(2,2)]++Df.own LS LD BY l))):=hfl.2
 clear hfl hput hio
 generalize Bp.text false ([(1,1),(2,2)]++Df.own LS LD BY l)=TX at*
 clear hD HFT HP HP2
 generalize 2+(Df.own LS LD BY l).length=M at*
 clear hLl
 go_wp2_with fail
 refine HPUT.out.mono ?_
 rintro e W2 ⟨rfl,b2⟩
 have HE:Hid (DefEndI s 2 w (.returned (.string (Df.bytes TX))) W2):=⟨⟨TX,rfl,HPD.out⟩,HB.out.trans (b2.mono HB.out.size)⟩
 clear b2 HPUT
 go_wp2_with fail
 go_ret
 exact HE.out
set_option maxHeartbeats 4000000 in
set_option maxRecDepth 20000 in
theorem impl_deflate (s:ByteArray) (k:Int) (w:World):Calls Tryz.prog 6 #[.string s,.int .i64 k] w (DefTop s k w):=by
 by_cases hs:s.size≤5000
 · by_cases hk:0≤k∧k≤2
   · rcases (by omega:k=0∨k=1∨k=2) with rfl|rfl|rfl
     · refine (impl_def0 s w hs).mono (fun e w' h=>⟨?_,h.2⟩);rw[if_pos ⟨hs,by decide⟩];exact h.1
     · refine (impl_def1 s w hs).mono (fun e w' h=>⟨?_,h.2⟩);rw[if_pos ⟨hs,by decide⟩];exact h.1
     refine (impl_def2 s w hs).mono (fun e w' h=>⟨?_,h.2⟩);rw[if_pos ⟨hs,by decide⟩];exact h.1
   have HE:Hid (∀e,e=.returned (.string ⟨#[]⟩)→DefTop s k w e w):=fun e he=>⟨by rw[if_neg (fun h=>hk h.2)];exact he,Below.refl _ _⟩
   have hsi:¬(5000:Int)<(s.size:Int):=by omega
   by_cases h0:k<0
   · clear hk hs
     go_enter Tryz.func6,Tryz.ntmps6
     go_wp2_with fail
     go_ret
     exact HE.out _ rfl
   have h2:2<k:=by omega
   clear hk hs
   go_enter Tryz.func6,Tryz.ntmps6
   go_wp2_with fail
   go_ret
   exact HE.out _ rfl
 have HE:Hid (∀e,e=.returned (.string ⟨#[]⟩)→DefTop s k w e w):=fun e he=>⟨by rw[if_neg (fun h=>hs h.1)];exact he,Below.refl _ _⟩
 have hsi:(5000:Int)<(s.size:Int):=by omega
 clear hs
 go_enter Tryz.func6,Tryz.ntmps6
 go_wp2_with fail
 go_ret
 exact HE.out _ rfl

def DefIs (t:ByteArray) (k:Int) (S:ByteArray):Prop:=if t.size≤5000∧0≤k∧k≤2 then ∃T,S=Df.bytes T∧Df.Packed t k.toNat T else S=⟨#[]⟩
theorem defl_i (t:ByteArray) (k:Int) (w:World):Calls Tryz.prog 6 #[.string t,.int .i64 k] w fun e w'=>(∃S,e=.returned (.string S)∧DefIs t k S)∧Below w.heap.size w w':=by
 refine (impl_deflate t k w).mono ?_
 rintro e w' ⟨h1,b⟩
 refine⟨?_,b⟩
 unfold DefIs
 split at h1
 · rename_i hv
   obtain⟨T,rfl,hT⟩:=h1
   exact⟨_,rfl,by rw[if_pos hv];exact⟨T,rfl,hT⟩⟩
 rename_i hv
 exact⟨_,h1,by rw[if_neg hv]⟩
theorem defl_s {t:ByteArray} {k:Int} {S:ByteArray} (h:DefIs t k S) (w:World):Calls Tryz.prog 7 #[.string t,.int .i64 k] w fun e w'=>e=.returned (.string S)∧Below w.heap.size w w':=by
 refine (spec_deflate t k w).mono ?_
 rintro e w' ⟨h1,b⟩
 refine⟨?_,b⟩
 unfold DefIs at h
 split at h1
 · rename_i hv
   rw[if_pos hv] at h
   obtain⟨T,rfl,hT⟩:=h1
   obtain⟨T',rfl,hT'⟩:=h
   rw[hT.same hT']
 rename_i hv
 rw[if_neg hv] at h
 rw[h]
 exact h1
theorem two_texts {a b S F:ByteArray} {k:Int} (hF:DefIs a 0 F) (hS:DefIs b k S) (he:S.toList.isEmpty=false) (hl:a.size+b.size≤5000):∃K:Nat,k=(K:Int)∧1≤F.size∧F.size≤5005∧S.size≤8000∧
 ∀y:ByteArray,y.data.toList=[0]++(F.data.toList.drop 1++S.data.toList)→y.size=F.size+S.size∧y.size≤9000∧infV y 5000=.tuple #[.string (a++b),.int .i64 (y.size:Int),.int .i64 0]∧[(0:Int),(K:Int)]=Nf.kinds (Nf.res y 5000):=by
 unfold DefIs at hF hS
 rw[if_pos ⟨by omega,by omega,by omega⟩] at hF
 obtain⟨T0,eF,hT0⟩:=hF
 have hT0:Df.Packed a 0 T0:=hT0
 split at hS
 · rename_i hv
   obtain⟨T,eS,hT⟩:=hS
   obtain⟨K,rfl⟩:=Int.eq_ofNat_of_zero_le hv.2.1
   rw[Int.toNat_natCast] at hT
   obtain⟨q,W⟩:=Rt.packed_whole hv.1 (by omega) hT
   rw[←eS] at W
   have hn:=packed_near hv.1 hT
   have hSs:S.size=T.length:=by rw[eS,pk_len]
   have hFs:F.size=a.size+5:=by rw[eF];exact (Rt.stored_at (by omega) hT0).2.2
   refine⟨K,rfl,by omega,by omega,by omega,fun y hy=>?_⟩
   obtain⟨y1,_,q',y2,y3⟩:=Rt.two_inflate hl hT0 eF W hy
   have h9:y.size≤9000:=by omega
   have hr:Nf.res y 5000=.ok ((a.data.toList++b.data.toList,q'),[0,(K:Int)]):=(Nf.res_ok (lim:=5000) h9 (by omega)).trans y2
   refine⟨y1,h9,?_,by rw[hr];rfl⟩
   rw[infV_ok hr,←y3]
   congr 3
 rw[hS] at he
 rw[empty_df] at he
 cases he

set_option linter.unusedSimpArgs false in
set_option maxHeartbeats 4000000 in
set_option maxRecDepth 20000 in
theorem lawInflateTwo (a:Option Addr) (len cap:Nat) (b:Option Addr) (len2 cap2:Nat) (w:World) (h:Code8 w a len cap) (h':Code8 w b len2 cap2):
 Calls Tryz.prog 4 #[.slice a len cap,.slice b len2 cap2] w fun e w'=>e=.returned (.bool true)∧Below w.heap.size w w':=by
 by_cases hbig:1048576<len
 · have d0:decide ((len:Int)>1048576)=true:=by simp;omega
   clear h h'
   go_enter Tryz.func4,Tryz.ntmps4
   go_wp2_with fail
   go_ret
   exact⟨rfl,Below.refl _ _⟩
 have d0:decide ((len:Int)>1048576)=false:=by simp;omega
 by_cases hbig2:1048576<len2
 · have d1:decide ((len2:Int)>1048576)=true:=by simp;omega
   clear h h'
   go_enter Tryz.func4,Tryz.ntmps4
   go_wp2_with fail
   go_ret
   exact⟨rfl,Below.refl _ _⟩
 have d1:decide ((len2:Int)>1048576)=false:=by simp;omega
 have HD1:Hid (Calls Tryz.prog 9 #[.slice a len cap] w fun e w'=>(∃t:ByteArray,e=.returned (.string t)∧t.size≤9001)∧Below w.heap.size w w'):=drawCrc32_any a len cap w h
 have HD2:Hid (∀w',Below w.heap.size w w'→Calls Tryz.prog 5 #[.slice b len2 cap2] w' (DefDrawn w')):=fun w' hb=>drawDeflate_any b len2 cap2 w' (h'.kept hb)
 clear h h'
 go_enter Tryz.func4,Tryz.ntmps4
 go_wp2_with fail
 refine HD1.out.mono ?_
 rintro e w1 ⟨⟨a0,rfl,ha⟩,b1⟩
 have B1:Hid (Below w.heap.size w w1):=b1
 clear b1 HD1
 go_wp2_with fail
 refine (HD2.out _ B1.out).mono ?_
 rintro e w2 ⟨⟨t,k,rfl,ht,hk1,hk2⟩,b2⟩
 have B2:Hid (Below w.heap.size w w2):=B1.out.trans (b2.mono B1.out.size)
 clear b2 HD2 B1
 have H1:Hid (∀w:World,Calls Tryz.prog 6 #[.string t,.int .i64 k] w fun e w'=>(∃S,e=.returned (.string S)∧DefIs t k S)∧Below w.heap.size w w'):=defl_i t k
 have H2:Hid (∀w:World,Calls Tryz.prog 6 #[.string a0,.int .i64 0] w fun e w'=>(∃S,e=.returned (.string S)∧DefIs a0 0 S)∧Below w.heap.size w w'):=defl_i a0 0
 have H3:Hid (∀S,DefIs t k S→∀w:World,Calls Tryz.prog 7 #[.string t,.int .i64 k] w fun e w'=>e=.returned (.string S)∧Below w.heap.size w w'):=fun S h=>defl_s h
 have H4:Hid (∀S,DefIs a0 0 S→∀w:World,Calls Tryz.prog 7 #[.string a0,.int .i64 0] w fun e w'=>e=.returned (.string S)∧Below w.heap.size w w'):=fun S h=>defl_s h
 go_wp2_with fail
 refine (H1.out _).mono ?_
 rintro e w3 ⟨⟨S,rfl,hS⟩,b3⟩
 have B3:Hid (Below w.heap.size w w3):=B2.out.trans (b3.mono B2.out.size)
 have DS:Hid (DefIs t k S):=hS
 clear b3 B2 H1 hS
 go_wp2_with fail
 refine (H2.out _).mono ?_
 rintro e w4 ⟨⟨F,rfl,hF⟩,b4⟩
 have B4:Hid (Below w.heap.size w w4):=B3.out.trans (b4.mono B3.out.size)
 have DF:Hid (DefIs a0 0 F):=hF
 clear b4 B3 H2 hF
 have hss:(S.toList==S.toList)=true:=by simp
 have hff:(F.toList==F.toList)=true:=by simp
 go_wp2_with fail
 refine (H3.out S DS.out _).mono ?_
 rintro e w5 ⟨rfl,b5⟩
 have B5:Hid (Below w.heap.size w w5):=B4.out.trans (b5.mono B4.out.size)
 clear b5 B4
 go_wp2_with fail
 refine (H4.out F DF.out _).mono ?_
 rintro e w6 ⟨rfl,b6⟩
 have B6:Hid (Below w.heap.size w w6):=B5.out.trans (b6.mono B5.out.size)
 clear b6 B5
 obtain⟨N0,hN0⟩:∃N0:Nat,N0=a0.size+t.size:=⟨_,rfl⟩
 have hN1:(a0.size:Int)+(t.size:Int)=(N0:Int):=by omega
 have hNw:=wrap_i64_nat N0 (by omega)
 clear hN0
 by_cases hse:S.toList.isEmpty=true
 · go_wp2_with fail
   refine (H3.out S DS.out _).mono ?_
   rintro e w7 ⟨rfl,b7⟩
   have B7:Hid (Below w.heap.size w w7):=B6.out.trans (b7.mono B6.out.size)
   clear b7 B6
   go_wp2_with fail
   refine (H4.out F DF.out _).mono ?_
   rintro e w8 ⟨rfl,b8⟩
   have B8:Hid (Below w.heap.size w w8):=B7.out.trans (b8.mono B7.out.size)
   clear b8 B7
   go_wp2_with fail
   go_ret
   exact⟨rfl,B8.out⟩
 have hse:S.toList.isEmpty=false:=by simpa using hse
 by_cases hl:a0.size+t.size≤5000
 · have d5:decide ((N0:Int)>5000)=false:=by simp;omega
   have d6:decide ((5000:Int)<(N0:Int))=false:=by simp;omega
   obtain⟨K,rfl,f1,f2,f3,hy⟩:=two_texts DF.out DS.out hse hl
   have hy0:=hy ((⟨#[0]⟩++F.extract 1 F.size)++S) (by
    rw[ByteArray.data_append,Array.toList_append,ByteArray.data_append,Array.toList_append,ByteArray.data_extract,Array.toList_extract,List.append_assoc]
    show [0]++(List.take (F.size-1) (List.drop 1 F.data.toList)++S.data.toList)=_
    rw[List.take_of_length_le (by rw[List.length_drop,←Rt.size_list];omega)])
   clear hy
   obtain⟨X,hX⟩:∃X,X=F.extract 1 F.size:=⟨_,rfl⟩
   have hXs:X.size=F.size-1:=by rw[hX,ByteArray.size_extract];omega
   rw[←hX] at hy0
   obtain⟨V,hV⟩:∃V,V=(⟨#[0]⟩:ByteArray)++X:=⟨_,rfl⟩
   have hVs:V.size=F.size:=by rw[hV,ByteArray.size_append];show 1+_=_;omega
   rw[←hV] at hy0
   obtain⟨Y,hY⟩:∃Y,Y=V++S:=⟨_,rfl⟩
   rw[←hY] at hy0
   obtain⟨y1,y2,y3,y4⟩:=hy0
   obtain⟨O,hO⟩:∃O,O=a0++t:=⟨_,rfl⟩
   rw[←hO] at y3
   have HI:Hid (∀w:World,Calls Tryz.prog 8 #[.string Y,.int .i64 5000] w fun e w'=>e=.returned (.tuple #[.string O,.int .i64 (Y.size:Int),.int .i64 0])∧Below w.heap.size w w'):=fun w=>by
    have h1:=impl_inflate Y 5000 w (by omega)
    rw[y3] at h1
    exact h1
   have HK:Hid (∀w:World,Calls Tryz.prog 10 #[.string Y] w (KdEnd w [(0:Int),(K:Int)] 2)):=fun w=>impl_inflateKinds Y [(0:Int),(K:Int)] 2 w (by omega) y4 rfl
   have HX:Hid (F.extract 1 F.size=X∧(⟨#[0]⟩:ByteArray)++X=V∧V++S=Y∧a0++t=O):=⟨hX.symm,hV.symm,hY.symm,hO.symm⟩
   have hoo:(O.toList==O.toList)=true:=by simp
   have hF1:(1:Int)≤(F.size:Int):=by omega
   have hlen1:¬9223372036854775807<1+X.size:=by omega
   have hlen2:¬9223372036854775807<V.size+S.size:=by omega
   have hlen3:¬9223372036854775807<a0.size+t.size:=by omega
   have hlen4:¬9223372036854775807<1+(F.size-1):=by omega
   clear y1 y3 y4 hX hV hY hO H3 H4 DF DS
   go_wp2_with fail
   obtain⟨x1,x2,x3,x4⟩:=HX.out
   rw[x1,x2,x3]
   clear x1 x2 x3 HX
   refine (HI.out _).mono ?_
   rintro e w7 ⟨rfl,b7⟩
   have B7:Hid (Below w.heap.size w w7):=B6.out.trans (b7.mono B6.out.size)
   clear b7 B6 HI
   go_wp2_with fail
   refine (HK.out _).mono ?_
   rintro e w8 ⟨⟨x,c,rfl,ho⟩,b8⟩
   have B8:Hid (Below w.heap.size w w8):=B7.out.trans (b8.mono B7.out.size)
   clear b8 B7 HK
   rcases ho with ho|⟨bk,rfl,_,hb,hcell⟩
   · exact absurd ho (by simp)
   have hc0:w8.cell? ⟨bk,0,none⟩=some (.int .i64 0):=(hcell 0 (by simp)).1
   have hc1:w8.cell? ⟨bk,1,none⟩=some (.int .i64 (K:Int)):=(hcell 1 (by simp)).1
   clear hcell hb
   go_wp2_with fail
   go_ret
   exact⟨rfl,B8.out⟩
 have d5:decide ((N0:Int)>5000)=true:=by simp;omega
 have d6:decide ((5000:Int)<(N0:Int))=true:=by simp;omega
 go_wp2_with fail
 refine (H3.out S DS.out _).mono ?_
 rintro e w7 ⟨rfl,b7⟩
 have B7:Hid (Below w.heap.size w w7):=B6.out.trans (b7.mono B6.out.size)
 clear b7 B6
 go_wp2_with fail
 refine (H4.out F DF.out _).mono ?_
 rintro e w8 ⟨rfl,b8⟩
 have B8:Hid (Below w.heap.size w w8):=B7.out.trans (b8.mono B7.out.size)
 clear b8 B7
 go_wp2_with fail
 go_ret
 exact⟨rfl,B8.out⟩
end Go.Proofs.YtejebodgfoihkaaGreat
