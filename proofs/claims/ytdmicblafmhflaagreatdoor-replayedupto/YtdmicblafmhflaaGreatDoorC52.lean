/- Replayed, walked. -/
import Derived.Test.YtdmicblafmhflaaGreatDoorC51
set_option linter.unusedSimpArgs false
set_option linter.unusedVariables false
set_option maxHeartbeats 2000000
set_option maxRecDepth 100000
namespace Go.Proofs.YtdmicblafmhflaaGreatDoor
section
open Go.RowKit Go.Maps
structure Mc(K:Nat→Int)(wr:World)(kl:List Ax.ay)(X:Nat→Bool)(hd:List UInt8)(tl:List (List Int×List Int))(k a b:Nat)(W:World):Prop where
 a:xQ K wr W a kl X hd (tl.take k)
 b:∃w0,xQ K w0 W b kl X hd (tl.take tl.length)
theorem Mc.below{K:Nat→Int}{wr:World}{kl:List Ax.ay}{X:Nat→Bool}{hd:List UInt8}{tl:List (List Int×List Int)}{k a b:Nat}{W w':World}(h:Mc K wr kl X hd tl k a b W)(hb:Below W.heap.size W w'):Mc K wr kl X hd tl k a b w':=by
 obtain⟨w0,h1⟩:=h.b
 exact⟨h.a.below hb,w0,h1.below hb⟩
theorem xQ.Iq{K:Nat→Int}{w wr:World}{eg:Nat}{kl:List Ax.ay}{X:Nat→Bool}{hd:List UInt8}{l:List (List Int×List Int)}(h:xQ K w wr eg kl X hd l)(hg:ji X):Calls Tryz.prog 23 #[.pointer (some ⟨eg,0,none⟩)] wr fun e w'=>e=.returned (.string (Rp.IM K kl X hd l))∧Below wr.heap.size wr w':=by
 obtain⟨lv,h1⟩:=h.hd
 exact s9 h.Kr (pj _ hg) h1 wr (Below.refl _ _)
theorem xQ.Yr{K:Nat→Int}{w wr:World}{eg:Nat}{kl:List Ax.ay}{X:Nat→Bool}{hd:List UInt8}{l:List (List Int×List Int)}(h:xQ K w wr eg kl X hd l):Calls Tryz.prog 29 #[.pointer (some ⟨eg,0,none⟩)] wr fun e w'=>e=.returned (.string ⟨(Rp.cD K hd l).toArray⟩)∧w'=wr:=by
 obtain⟨lv,h1⟩:=h.hd
 exact vH h1
theorem row_one{w:World}{B:Nat}(hB:B≤w.heap.size)(t:TypeId)(v:Value):(w.alloc (.cells #[v] t)).ownsRow B t 1 (.slice (some ⟨w.heap.size,0,none⟩) 1 1) 1 [v]:=⟨rfl,.inr ⟨_,1,#[v],rfl,hB,heap_alloc_new _ _,Nat.le_refl _,by decide,rfl,rfl⟩⟩
theorem qK.first{K:Nat→Int}{w w2:World}{rv:Value}{kl:List Ax.ay}{X:Nat→Bool}{n0:Nat}{hd F:List UInt8}(tl:List (List Int×List Int)){sx ex:Nat}{lv:Value}(h1:s8 w.heap.size w2 sx ex rv kl X X n0)(h2:eG w2 ex hd (Rc.bA F) lv)(hb:Below w.heap.size w w2):
 qK K w rv kl X n0 hd F tl sx ex 0 0 0 (.slice (some ⟨w2.heap.size,0,none⟩) 1 1) (.slice (some ⟨w2.heap.size+1,0,none⟩) 1 1) ((w2.alloc (.cells #[.int .i64 0] 3)).alloc (.cells #[.string (Rp.IM K kl X hd [])] 9)):=by
 have ba:Below w2.heap.size w2 (w2.alloc (.cells #[.int .i64 0] 3)):=(Below.refl _ _).alloc (Nat.le_refl _) _
 have bb:Below (w2.alloc (.cells #[.int .i64 0] 3)).heap.size (w2.alloc (.cells #[.int .i64 0] 3)) ((w2.alloc (.cells #[.int .i64 0] 3)).alloc (.cells #[.string (Rp.IM K kl X hd [])] 9)):=(Below.refl _ _).alloc (Nat.le_refl _) _
 have pD:=ba.trans (bb.mono ba.size)
 have hs:=hb.size
 refine⟨h1.below pD,⟨lv, ?_⟩,ae (row_one hs _ _) bb, ?_,hb.trans (pD.mono hs)⟩
 · have:=h2.below pD
   simpa [Rp.pX,Rp.cD]using this
 · have:=row_one (w:=w2.alloc (.cells #[.int .i64 0] 3)) (B:=w.heap.size) (by simp;omega) 9 (.string (Rp.IM K kl X hd []))
   rw[World.size_alloc]at this
   exact this
theorem yH(K:Nat→Int)(w:World)(ad:Option Addr)(m c:Nat)(kl:List Ax.ay)(hR:qY w ad m c kl)(sd:Option Addr)(sn sc:Nat)(sl:List (List Int×List Int))(hS:yo w sd sn sc sl)(td:Option Addr)(tn tc:Nat)(tl:List (List Int×List Int))(hT:yo w td tn tc tl)(cv:Int)(E9:cr cv)(hs:sl.length+tl.length≤1048576)(hK:Dg.uw w K)(hU:eW w):
 Calls Tryz.prog 10 #[.slice ad m c,.slice sd sn sc,.slice td tn tc,.int .i64 cv] w fun e w'=>e=.returned (.bool true)∧Below w.heap.size w w':=by
 obtain⟨i0,jy,ew,dZ,dX⟩:=info_parts Tryz.EB
 have HI:Hid (Tryz.prog.info? 3=some i0):=jy
 have H0:Hid (i0.zero=some (.int .i64 0)):=ew
 have HI1:Hid (i0.size=1):=dZ
 have HI2:Hid (i0.bytes=8):=dX
 obtain⟨i1,VV,TJ,YU,Xq⟩:=info_parts Tryz.o5
 have HJ:Hid (Tryz.prog.info? 9=some i1):=VV
 have HJ0:Hid (i1.zero=some (.string ByteArray.empty)):=TJ
 have HJ1:Hid (i1.size=1):=YU
 have HJ2:Hid (i1.bytes=16):=Xq
 clear jy ew dZ dX VV TJ YU Xq
 have yS:=hT.len
 subst yS
 have mG:=hT.cap
 have hmx:tc≤9223372036854775807:=hT.max
 have LK:sl.length≤1048576:=by omega
 have tH:tl.length≤1048576:=by omega
 obtain⟨X,hX⟩:∃X,X=jl sl:=⟨_,rfl⟩
 have S5:Hid (ji X):=by rw[hX];exact N2 sl
 have HRX:Hid (Calls Tryz.prog 22 #[.slice ad m c,.slice sd sn sc] w fun e w1=>∃sb eg,e=.returned (.pointer (some ⟨sb,0,none⟩))∧w1.cell? ⟨sb,0,none⟩=some (.pointer (some ⟨eg,0,none⟩))∧sb<w1.heap.size∧Hid (s8 w.heap.size w1 sb eg (.slice ad (min m 6) c) kl X X sl.length∧Below w.heap.size w w1∧∃hd F lv,eG w1 eg hd (Rc.bA F) lv)):=by
  rw[hX]
  refine(Q6 K w ad m c kl hR sd sn sc sl hS (by omega) hK hU).mono ?_
  rintro e w' ⟨a,b,rfl,q1,q2⟩
  exact⟨a,b,rfl,q1.lQ.cells.1,lt_of_heap q1.lQ,q1,q2⟩
 have Nn:Hid (∀W,Below w.heap.size w W→Dg.uw W K∧eW W):=fun W hW=>⟨hK.below hW,Utf8Tabs_below hU hW⟩
 have HTT:Hid (yo w td tl.length tc tl):=hT
 have HCV:Hid (cr cv):=E9
 clear hR hS hT hK hU hX E9
 go_enter Tryz.func10,Tryz.ntmps10
 go_upto_region 4 with(go_at_call 22;refine HRX.out.mono ?_;rintro e w1 ⟨sx,ex,rfl,s0,s1,H1⟩)
 obtain⟨hd,F,lvx,dx⟩:=H1.out.2.2
 have bS:=dx.Jw
 have hFl:F.length≤1048576000:=by
  have:=H1.out.1.Kr.Ve dx
  rw[Rc.bB]at this
  omega
 obtain⟨S,Yv⟩:∃S:ByteArray,S=Rp.IM K kl X hd []:=⟨_,rfl⟩
 obtain⟨FB,hFB⟩:∃FB:ByteArray,FB=⟨F.toArray⟩:=⟨_,rfl⟩
 have hFs:FB.size=F.length:=by rw[hFB];rfl
 have YW:Hid (Calls Tryz.prog 23 #[.pointer (some ⟨ex,0,none⟩)] w1 fun e w2=>e=.returned (.string S)∧w2.cell? ⟨sx,0,none⟩=some (.pointer (some ⟨ex,0,none⟩))∧sx<w2.heap.size∧Hid (s8 w.heap.size w2 sx ex (.slice ad (min m 6) c) kl X X sl.length∧eG w2 ex hd (Rc.bA F) lvx∧Below w.heap.size w w2)):=by
  rw[Yv]
  refine(s9 H1.out.1.Kr S5.out dx w1 (Below.refl _ _)).mono ?_
  rintro e w2 ⟨rfl,hb⟩
  have q:=H1.out.1.below hb
  exact⟨rfl,q.lQ.cells.1,lt_of_heap q.lQ,q,dx.below hb,H1.out.2.1.trans (hb.mono H1.out.2.1.size)⟩
 have HL1:Hid (∀W,eG W ex hd (Rc.bA F) lvx→Calls Tryz.prog 29 #[.pointer (some ⟨ex,0,none⟩)] W fun e w2=>e=.returned (.string FB)∧W=w2):=by
  intro W hW
  rw[hFB]
  exact(vH hW).mono (fun e w' ⟨a,b⟩=>⟨a,b.symm⟩)
 have LG:Hid (S=Rp.IM K kl X hd []):=Yv
 have RP:Hid (FB=⟨F.toArray⟩):=hFB
 clear dx Yv HRX hFB H1
 go_wp2_with (first | (go_at_call 23;refine YW.out.mono ?_;rintro e w2 ⟨rfl,s2,s3,H2⟩) | (go_at_call 29;refine(HL1.out w2 H2.out.2.1).mono ?_;rintro e w3 ⟨rfl,rfl⟩))
 have HRY:Hid (qK K w (.slice ad (min m 6) c) kl X sl.length hd F tl sx ex 0 0 0 (.slice (some ⟨w2.heap.size,0,none⟩) 1 1) (.slice (some ⟨w2.heap.size+1,0,none⟩) 1 1) ((w2.alloc (.cells #[.int .i64 0] 3)).alloc (.cells #[.string S] 9))):=by
  rw[LG.out]
  exact qK.first tl H2.out.1 H2.out.2.1 H2.out.2.2
 clear YW HL1 H2 s0 s1 s2 s3
 go_loopw [12,13,14] (fun v12 sI i wr=>∃(k:Nat),k≤tl.length∧i=.int .i64 k∧qK K w (.slice ad (min m 6) c) kl X sl.length hd F tl sx ex k k k v12 sI wr) (fun _ _ i _=>tl.length-(intOf i).toNat)
 case atStart=>exact⟨0,Nat.zero_le _,rfl,HRY.out⟩
 case round=>
  obtain⟨k,hk,rfl,Le⟩:=hrel
  clear HRY
  obtain⟨d12,EV,e12⟩:=ah Le.ends
  obtain⟨d13,vh,e13⟩:=ah Le.jY
  subst e12
  subst e13
  obtain⟨g12,e12,acg,ah2,VB⟩:=aD Le.ends (by omega)
  obtain⟨g13,e13,ad9,ajL,h13⟩:=aD Le.jY (by omega)
  subst e12
  subst e13
  have mF:=Le.aZ
  have t1:=Le.x.lQ.cells.1
  have t2:=lt_of_heap Le.x.lQ
  by_cases aE:k<tl.length
  · have vv:Hid (qK K w (.slice ad (min m 6) c) kl X sl.length hd F tl sx ex k k k (.slice (some ⟨g12,0,none⟩) (k+1) EV) (.slice (some ⟨g13,0,none⟩) (k+1) vh) wr):=Le
    have LI:decide ((k:Int)<(tl.length:Int))=true:=decide_eq_true (by omega)
    obtain⟨g,o,PD,a1,n1,c1,a2,n2,c2,q1,q2,i1,i2⟩:=HTT.out.at_ k aE
    subst PD
    have y1:=bz mF q1
    have y2:=bz mF q2
    have y3:g<wr.heap.size:=Nat.lt_of_lt_of_le (block_lt_of_cell q1) mF.size
    have IG:Hid (Calls Tryz.prog 15 #[.pointer (some ⟨sx,0,none⟩),.agg #[.slice a1 n1 c1,.slice a2 n2 c2]] wr fun e w7=>e=.returned (.bool true)∧w7.cell? ⟨sx,0,none⟩=some (.pointer (some ⟨ex,0,none⟩))∧sx<w7.heap.size∧Hid (qK K w (.slice ad (min m 6) c) kl X sl.length hd F tl sx ex (k+1) k k (.slice (some ⟨g12,0,none⟩) (k+1) EV) (.slice (some ⟨g13,0,none⟩) (k+1) vh) w7∧zK w kl X sl.length tl ex (k+1) (.slice (some ⟨g12,0,none⟩) (k+1) EV) w7∧zK w kl X sl.length tl ex (k+1) (.slice (some ⟨g13,0,none⟩) (k+1) vh) w7)):=by
     have hW:=vv.out.x
     have hb:=vv.out.aZ
     have vA:∀W',Below w.heap.size wr W'→Below w.heap.size w W':=fun W' h=>hb.trans h
     refine(zN K w.heap.size wr sx ex _ kl _ (sl.length+k) hW (by omega) (fun W' h=>Nn.out W' (vA W' h)) a1 n1 c1 _ (fun W' h _=>i1.below (vA W' h)) (fun g o e hl=>by have:=i1.lt g o e hl;have:=hW.le;omega) a2 n2 c2 _ (fun W' h _=>i2.below (vA W' h)) (fun g o e hl=>by have:=i2.lt g o e hl;have:=hW.le;omega)).mono ?_
     rintro e w' ⟨rfl,r1,r2,_,r4,r5⟩
     obtain⟨z1,z2,z3⟩:=vv.out.step aE r1 (vA w' r2) r4 r5
     exact⟨rfl,z1.x.lQ.cells.1,lt_of_heap z1.x.lQ,z1,z2,z3⟩
    obtain⟨q,hq⟩:∃q,q=Rp.en K hd tl (k+1):=⟨_,rfl⟩
    have P2:q≤671088640:=by
     have:=Rp.Sp K hd tl (k+1)
     omega
    obtain⟨LS,SU⟩:∃LS:ByteArray,LS=⟨(F++Rp.cD K hd (tl.take (k+1))).toArray⟩:=⟨_,rfl⟩
    have hLs:LS.size=F.length+q:=by
     rw[SU,hq]
     show(F++Rp.cD K hd (tl.take (k+1))).toArray.size=_
     simp[Rp.en]
    obtain⟨p,hp⟩:∃p,p=F.length+q:=⟨_,rfl⟩
    rw[←hp]at hLs
    have hlf:decide ((p:Int)<(F.length:Int))=false:=decide_eq_false (by omega)
    have hpf:F.length≤p:=by omega
    have Y5:IntKind.i64.wrap ((p:Int)-(F.length:Int))=(q:Int):=by
     rw[IntKind.wrap_i64]
     omega
    have Uf:Hid (∀W,qK K w (.slice ad (min m 6) c) kl X sl.length hd F tl sx ex (k+1) k k (.slice (some ⟨g12,0,none⟩) (k+1) EV) (.slice (some ⟨g13,0,none⟩) (k+1) vh) W→Calls Tryz.prog 29 #[.pointer (some ⟨ex,0,none⟩)] W fun e w'=>e=.returned (.string LS)∧W=w'):=by
     intro W hW
     obtain⟨lv,hv⟩:=hW.Wk
     rw[SU]
     exact(vH hv).mono (fun e w' ⟨a,b⟩=>⟨a,b.symm⟩)
    have Sf:Hid (∀W x5 FU w5 (ob:Obj),qK K w (.slice ad (min m 6) c) kl X sl.length hd F tl sx ex (k+1) k k (.slice (some ⟨g12,0,none⟩) (k+1) EV) (.slice (some ⟨g13,0,none⟩) (k+1) vh) W→zK w kl X sl.length tl ex (k+1) (.slice (some ⟨g12,0,none⟩) (k+1) EV) W→zK w kl X sl.length tl ex (k+1) (.slice (some ⟨g13,0,none⟩) (k+1) vh) W→w5.ownsRow w.heap.size 3 1 (.slice (some ⟨x5,0,none⟩) (k+1+1) FU) (k+1+1) (aA (Rp.ends K hd tl k)++[.int .i64 (q:Nat)])→(W.alloc ob).grownBy w5 (Value.slice (some ⟨g12,0,none⟩) (k+1) EV).ownBlock→w5.cell? ⟨sx,0,none⟩=some (.pointer (some ⟨ex,0,none⟩))∧sx<w5.heap.size∧Hid (qK K w (.slice ad (min m 6) c) kl X sl.length hd F tl sx ex (k+1) (k+1) k (.slice (some ⟨x5,0,none⟩) (k+1+1) FU) (.slice (some ⟨g13,0,none⟩) (k+1) vh) w5∧zK w kl X sl.length tl ex (k+1) (.slice (some ⟨g13,0,none⟩) (k+1) vh) w5)):=by
     intro W x5 FU w5 ob hW f1 f2 ho hg
     rw[hq]at ho
     have h9:=hW.end f1 f2 hg ho
     exact⟨h9.1.x.lQ.cells.1,lt_of_heap h9.1.x.lQ,h9⟩
    obtain⟨XB,hXB⟩:∃XB:ByteArray,XB=Rp.IM K kl X hd (tl.take (k+1)):=⟨_,rfl⟩
    have HEX:Hid (∀W v,qK K w (.slice ad (min m 6) c) kl X sl.length hd F tl sx ex (k+1) (k+1) k v (.slice (some ⟨g13,0,none⟩) (k+1) vh) W→zK w kl X sl.length tl ex (k+1) (.slice (some ⟨g13,0,none⟩) (k+1) vh) W→Calls Tryz.prog 23 #[.pointer (some ⟨ex,0,none⟩)] W fun e w'=>e=.returned (.string XB)∧w'.ownsRow w.heap.size 9 1 (.slice (some ⟨g13,0,none⟩) (k+1) vh) (k+1) (strCells (Rp.jY K kl X hd tl k))∧Hid (qK K w (.slice ad (min m 6) c) kl X sl.length hd F tl sx ex (k+1) (k+1) k v (.slice (some ⟨g13,0,none⟩) (k+1) vh) w'∧zK w kl X sl.length tl ex (k+1) (.slice (some ⟨g13,0,none⟩) (k+1) vh) w')):=by
     intro W v hW hF
     obtain⟨lv,hv⟩:=hW.Wk
     rw[hXB]
     refine(s9 hW.x.Kr (pj _ S5.out) hv W (Below.refl _ _)).mono ?_
     rintro e w' ⟨rfl,hb⟩
     have h9:=hW.below hb
     exact⟨rfl,h9.jY,h9,hF.below hb⟩
    have Tr:Hid (∀W v x5 FU w5 (ob:Obj),qK K w (.slice ad (min m 6) c) kl X sl.length hd F tl sx ex (k+1) (k+1) k v (.slice (some ⟨g13,0,none⟩) (k+1) vh) W→zK w kl X sl.length tl ex (k+1) (.slice (some ⟨g13,0,none⟩) (k+1) vh) W→w5.ownsRow w.heap.size 9 1 (.slice (some ⟨x5,0,none⟩) (k+1+1) FU) (k+1+1) (strCells (Rp.jY K kl X hd tl k)++[.string XB])→(W.alloc ob).grownBy w5 (Value.slice (some ⟨g13,0,none⟩) (k+1) vh).ownBlock→qK K w (.slice ad (min m 6) c) kl X sl.length hd F tl sx ex (k+1) (k+1) (k+1) v (.slice (some ⟨x5,0,none⟩) (k+1+1) FU) w5):=by
     intro W v x5 FU w5 ob hW hF ho hg
     rw[hXB]at ho
     exact hW.exp hF hg ho
    have nR:(aA (Rp.ends K hd tl k)).length=k+1:=by have:=Le.ends.1;omega
    have QY:(strCells (Rp.jY K kl X hd tl k)).length=k+1:=by have:=Le.jY.1;omega
    have HOE:Hid (∀W sI,qK K w (.slice ad (min m 6) c) kl X sl.length hd F tl sx ex (k+1) k k (.slice (some ⟨g12,0,none⟩) (k+1) EV) sI W→W.ownsRow w.heap.size 3 1 (.slice (some ⟨g12,0,none⟩) (k+1) EV) (k+1) (aA (Rp.ends K hd tl k))):=fun W v h=>h.ends
    generalize aA (Rp.ends K hd tl k)=xs at Sf HOE nR
    generalize strCells (Rp.jY K kl X hd tl k)=ys at HEX Tr QY
    clear Le vv q1 q2 i1 i2 VB h13 mF hq SU hXB Nn HTT LG RP hp
    go_wp2_with (first | (go_at_call 15;refine IG.out.mono ?_;rintro e w7 ⟨rfl,z1,z2,H7⟩;clear IG;have ho7:=HOE.out _ _ H7.out.1;have hs7:=H7.out.1.aZ.size) | (go_at_call 29;refine(Uf.out w7 H7.out.1).mono ?_;rintro e w9 ⟨rfl,rfl⟩;clear Uf) | (go_at_call 23;refine(HEX.out _ _ H8.out.1 H8.out.2).mono ?_;rintro e wx ⟨rfl,Z6,HX⟩;clear HEX H8;have SF:=HX.out.1.aZ.size) | (at_builtin;first | ((refine wpList_append_lies _ rfl (.tmp 75) (.tmp 81) 31 rfl w.heap.size 3 i0 _ 1 8 Tryz.underlying31 HI.out H0.out HI1.out HI2.out rfl (by decide) _ _ _ rfl (ho7.alloc _) ⟨w7.heap.size,0,none⟩ 1 1 [.int .i64 (q:Nat)] rfl rfl (World.news_of_block (heap_alloc_new _ _)) (by simp[Value.oneCell']) (by decide) (by unfold maxLen;omega) (by omega) (by simp;omega) (w7.heap.size+1) (by simp) ?_);intro x8 ab6 w8 Tk Mv adW _;obtain⟨z3,z4,H8⟩:=Sf.out w7 x8 ab6 w8 _ H7.out.1 H7.out.2.1 H7.out.2.2 Tk Mv;clear Sf H7 ho7 hs7 Tk Mv adW z1 z2) | ((refine wpList_append_lies _ rfl (.tmp 83) (.tmp 89) 46 rfl w.heap.size 9 i1 _ 1 16 Tryz.underlying46 HJ.out HJ0.out HJ1.out HJ2.out rfl (by decide) _ _ _ rfl (Z6.alloc _) ⟨wx.heap.size,0,none⟩ 1 1 [.string XB] rfl rfl (World.news_of_block (heap_alloc_new _ _)) (by simp[Value.oneCell']) (by decide) (by unfold maxLen;omega) (by omega) (by simp;omega) (wx.heap.size+1) (by simp) ?_);intro x9 abb wz Df BN acD _;have H9:=Tr.out wx _ x9 abb wz _ HX.out.1 HX.out.2 Df BN;clear Tr HX Z6 SF Df BN acD)))
    go_roundw
    case rel=>exact⟨k+1,aE,by go_num,H9⟩
    case measure=>simp[intOf];omega
  · have va:k=tl.length:=by omega
    subst va
    obtain⟨wA,rfl⟩:∃x,x=wr:=⟨_,rfl⟩
    have vv:Hid (qK K w (.slice ad (min m 6) c) kl X sl.length hd F tl sx ex tl.length tl.length tl.length (.slice (some ⟨g12,0,none⟩) (tl.length+1) EV) (.slice (some ⟨g13,0,none⟩) (tl.length+1) vh) wA):=Le
    have LI:decide ((tl.length:Int)<(tl.length:Int))=false:=decide_eq_false (by omega)
    obtain⟨q,hq⟩:∃q,q=(Rp.cD K hd tl).length:=⟨_,rfl⟩
    have P2:q≤671088640:=by
     have:=Rp.vE K tl hd
     omega
    obtain⟨GS,Yq⟩:∃GS:ByteArray,GS=⟨(F++Rp.cD K hd tl).toArray⟩:=⟨_,rfl⟩
    obtain⟨LS,SU⟩:∃LS:ByteArray,LS=⟨(Rp.cD K hd tl).toArray⟩:=⟨_,rfl⟩
    obtain⟨p,hp⟩:∃p,p=F.length+q:=⟨_,rfl⟩
    have hGs:GS.size=p:=by
     rw[Yq,hp,hq]
     show(F++Rp.cD K hd tl).toArray.size=_
     simp
    have hLs:LS.size=q:=by rw[SU,hq];rfl
    have p8:GS.extract 0 F.length=FB:=by
     rw[Yq,RP.out]
     exact Ft _ _
    have LP:GS.extract F.length p=LS:=by
     rw[Yq,SU,hp,hq]
     exact OR _ _
    have Uf:Hid (Calls Tryz.prog 29 #[.pointer (some ⟨ex,0,none⟩)] wA fun e w'=>e=.returned (.string GS)∧wA=w'):=by
     obtain⟨lv,hv⟩:=vv.out.Wk
     rw[Yq]
     rw[List.take_length]at hv
     exact(vH hv).mono (fun e w' ⟨a,b⟩=>⟨a,b.symm⟩)
    have hlf:decide ((p:Int)<(F.length:Int))=false:=decide_eq_false (by omega)
    have hpf:F.length≤p:=by omega
    have b1:(0:Int)≤(F.length:Int):=by omega
    have b2:(F.length:Int)≤(p:Int):=by omega
    obtain⟨n,hn⟩:∃n,n=Ax.bk cv (q+1):=⟨_,rfl⟩
    have hnq:n≤q:=by
     have:=Ax.eB cv (q+1) (by omega)
     omega
    have HPK:Hid (∀W,Calls Tryz.prog 27 #[.int .i64 cv,.int .i64 ((q:Int)+1)] W fun e w'=>e=.returned (.int .i64 (n:Nat))∧W=w'):=by
     intro W
     rw[hn]
     exact(OP cv (q+1) W HCV.out (by omega) (by omega)).mono (fun e w' ⟨a,b⟩=>⟨a,b.symm⟩)
    have Sf:Hid (∀j,j≤tl.length→wA.cell? ⟨g12,j,none⟩=some (.int .i64 (Rp.en K hd tl j:Nat))):=by
     intro j hj
     have:=VB j _ (Rp.N1 K hd tl hj)
     simpa [Addr.add]using this
    have Tr:Hid (∀j,j≤tl.length→wA.cell? ⟨g13,j,none⟩=some (.string (Rp.IM K kl X hd (tl.take j)))):=by
     intro j hj
     have:=h13 j _ (Rp.Mn K kl X hd tl hj)
     simpa [Addr.add]using this
    have Uj:Hid (LS=⟨(Rp.cD K hd tl).toArray⟩∧q=(Rp.cD K hd tl).length):=⟨SU,hq⟩
    have HNQ:Hid (n≤(Rp.cD K hd tl).length):=by
     have h9:n≤(Rp.cD K hd tl).length:=by omega
     exact h9
    have U9:∀j,Rp.en K hd tl j≤671088640:=fun j=>by
     have:=Rp.Sp K hd tl j
     omega
    have TI:Hid (∀j,Rp.en K hd tl j≤671088640):=U9
    clear Le VB h13 hq Yq SU hp hn HTT U9 RP
    go_upto_region 24 with(first | (go_at_call 29;refine Uf.out.mono ?_;rintro e w9 ⟨rfl,rfl⟩;clear Uf) | (go_at_call 27;refine(HPK.out _).mono ?_;rintro e w9 ⟨rfl,rfl⟩;clear HPK))
    go_cut [19]from 118 (fun v19 wx=>v19=.int .i64 0∧wx=wA)
    case first=>
     go_wp2_with fail
     go_meet
     exact⟨rfl,rfl⟩
    case rest=>
     obtain⟨Mu,cZ⟩:=hcut
     subst Mu
     subst cZ
     obtain⟨wA,rfl⟩:∃x,x=wc:=⟨_,rfl⟩
     rename_i hKK
     refine hKK _ _ ?_
     clear hKK
     refine wp_seq_k (fun K2 hK2=> ?_)
     go_cut [19]from 118 (fun v19 wx=>Hid (∃j:Nat,j≤tl.length∧v19=.int .i64 j∧Rp.en K hd tl j≤n∧(j=tl.length∨n<Rp.en K hd tl (j+1))∧wx=wA))
     case first=>
      try go_wp2_with fail
      go_loopw [19] (fun i W=>∃j:Nat,j≤tl.length∧i=.int .i64 j∧Rp.en K hd tl j≤n∧W=wA) (fun i _=>tl.length-(intOf i).toNat)
      case atStart=>exact⟨0,Nat.zero_le _,rfl,by simp[Rp.en,Rp.cD],rfl⟩
      case round=>
       obtain⟨j,hj,rfl,PF,rfl⟩:=hrel
       by_cases EZ:j<tl.length
       · have hd1:decide ((j:Int)+1<(tl.length:Int)+1)=true:=decide_eq_true (by omega)
         have Ko:=Sf.out (j+1) (by omega)
         obtain⟨e1,he1⟩:∃e1,e1=Rp.en K hd tl (j+1):=⟨_,rfl⟩
         rw[←he1]at Ko
         have YW:Hid (e1=Rp.en K hd tl (j+1)):=he1
         have HJN:Hid (Rp.en K hd tl j≤n):=PF
         clear he1 PF
         by_cases hle:e1≤n
         · have qM:decide ((e1:Int)≤(n:Int))=true:=decide_eq_true (by omega)
           go_wp2_with fail
           go_roundw
           case rel=>exact⟨j+1,EZ,by go_num,by rw[←YW.out];exact hle,by first | rfl | trivial⟩
           case measure=>simp[intOf];omega
         · have qM:decide ((e1:Int)≤(n:Int))=false:=decide_eq_false (by omega)
           go_wp2_with fail
           go_meet
           exact⟨j,hj,rfl,HJN.out,.inr (by rw[←YW.out];omega),by first | rfl | trivial⟩
       · have V4:j=tl.length:=by omega
         subst V4
         have hd1:decide ((tl.length:Int)+1<(tl.length:Int)+1)=false:=decide_eq_false (by omega)
         have HJN:Hid (Rp.en K hd tl tl.length≤n):=PF
         clear PF
         go_wp2_with fail
         go_meet
         exact⟨tl.length,Nat.le_refl _,rfl,HJN.out,.inl rfl,by first | rfl | trivial⟩
     case rest=>
      obtain⟨j,hj,hv,PF,Ch,hw⟩:=hcut.out
      subst hv
      subst hw
      clear hcut
      refine hK2 _ _ ?_
      clear hK2
      obtain⟨t,uv,qy,wT⟩:=Rp.RV K hd tl hj PF Ch HNQ.out
      obtain⟨ej,Qr⟩:∃ej,ej=Rp.en K hd tl j:=⟨_,rfl⟩
      have ajv:ej≤671088640:=by rw[Qr];exact TI.out j
      have aj3:ej≤n:=by rw[Qr];exact PF
      obtain⟨TS,Ys⟩:∃TS:ByteArray,TS=⟨(Rp.cD K hd (tl.take j)++t).toArray⟩:=⟨_,rfl⟩
      have Sx:LS.extract 0 n=TS:=by
       rw[Uj.out.1,Ys,←uv]
       exact wg _ _
      obtain⟨ES,Xv⟩:∃ES:ByteArray,ES=⟨(Rp.cD K hd (tl.take j)).toArray⟩:=⟨_,rfl⟩
      have Wj:LS.extract 0 ej=ES:=by
       rw[Uj.out.1,Xv,Qr,←Rp.RR K hd tl j]
       exact wg _ _
      obtain⟨zS,Xp⟩:∃zS,zS=S.size:=⟨_,rfl⟩
      have hSz:S.size=zS:=Xp.symm
      have dZ:1≤zS∧zS≤100000000:=by
       have h9:=vN kl X
       have h8:zS=(Ex.body kl X).length+32:=by
        rw[Xp,LG.out]
        show(Ex.body kl X++hd).toArray.size=_
        simp[bS]
       omega
      obtain⟨S1,hS1⟩:∃S1:ByteArray,S1=S.extract 1 zS:=⟨_,rfl⟩
      have hx4:S.extract 1 zS=S1:=hS1.symm
      have HP3:Hid (∀W,Calls Tryz.prog 30 #[.string S1,.string LS] W fun e w'=>e=.returned (.tuple #[.pointer none,.int .i64 0,.int .i64 8])∧Below W.heap.size W w'):=by
       intro W
       have e:S1=⟨((Ex.body kl X++hd).drop 1).toArray⟩:=by
        have h7:=sa (Ex.body kl X++hd) 1
        have h8:zS=(Ex.body kl X++hd).length:=by
         rw[Xp,LG.out]
         show(Ex.body kl X++hd).toArray.size=_
         simp
        rw[hS1,LG.out,h8]
        exact h7
       rw[e]
       exact FD W kl X hd bS LS
      have PN:Hid (Calls Tryz.prog 30 #[.string S,.string TS] wc fun e w'=>∃eg,e=.returned (.tuple #[.pointer (some ⟨eg,0,none⟩),.int .i64 (ej:Nat),.int .i64 (if t=[]then 0 else 9)])∧Hid (xQ K wc w' eg kl X hd (tl.take j))):=by
       rw[Ys,Qr,LG.out]
       have Lj:=Nn.out wc vv.out.aZ
       exact(xo K wc kl X S5.out hd bS Lj.1 Lj.2 tl j t tH qy).mono (fun e w' ⟨a,b,d⟩=>⟨a,b,d⟩)
      have Qg:Hid (∀W eg,xQ K wc W eg kl X hd (tl.take j)→Calls Tryz.prog 30 #[.string S,.string LS] W fun e w'=>∃eg2,e=.returned (.tuple #[.pointer (some ⟨eg2,0,none⟩),.int .i64 (q:Nat),.int .i64 0])∧w'.cell? ⟨g12,j,none⟩=some (.int .i64 (ej:Nat))∧g12<w'.heap.size∧Hid (Mc K wc kl X hd tl j eg eg2 w')):=by
       intro W eg hW
       have qL:=vv.out.aZ.trans (hW.aZ.mono vv.out.aZ.size)
       have Lj:=Nn.out W qL
       have h9:=xo K W kl X S5.out hd bS Lj.1 Lj.2 tl tl.length [] tH ⟨Nat.le_refl _,.inl rfl⟩
       rw[List.append_nil]at h9
       have e1:Rp.cD K hd (tl.take tl.length)=Rp.cD K hd tl:=by rw[List.take_length]
       rw[Uj.out.1,Uj.out.2,LG.out,Qr]
       have Wt:=h9
       rw[e1]at Wt
       refine Wt.mono ?_
       rintro e w' ⟨eg2,rfl,hR⟩
       have Px:=hW.below hR.aZ
       exact⟨eg2,rfl,bz Px.aZ (Sf.out j hj),Nat.lt_of_lt_of_le acg Px.aZ.size,⟨Px,W,hR⟩⟩
      obtain⟨XJ,ZH⟩:∃XJ:ByteArray,XJ=Rp.IM K kl X hd (tl.take j):=⟨_,rfl⟩
      obtain⟨XL,Z5⟩:∃XL:ByteArray,XL=Rp.IM K kl X hd (tl.take tl.length):=⟨_,rfl⟩
      have Yy:Hid (∀W a b,Mc K wc kl X hd tl j a b W→Calls Tryz.prog 23 #[.pointer (some ⟨a,0,none⟩)] W fun e w'=>e=.returned (.string XJ)∧Hid (Mc K wc kl X hd tl j a b w')):=by
       intro W a b hW
       rw[ZH]
       exact(hW.a.Iq S5.out).mono (fun e w' ⟨h1,h2⟩=>⟨h1,hW.below h2⟩)
      have HX2:Hid (∀W a b,Mc K wc kl X hd tl j a b W→Calls Tryz.prog 23 #[.pointer (some ⟨b,0,none⟩)] W fun e w'=>e=.returned (.string XL)∧Hid (Mc K wc kl X hd tl j a b w')):=by
       intro W a b hW
       rw[Z5]
       obtain⟨w0,h0⟩:=hW.b
       exact(h0.Iq S5.out).mono (fun e w' ⟨h1,h2⟩=>⟨h1,hW.below h2⟩)
      have ZF:Hid (∀W a b,Mc K wc kl X hd tl j a b W→Calls Tryz.prog 29 #[.pointer (some ⟨b,0,none⟩)] W fun e w'=>e=.returned (.string LS)∧W=w'):=by
       intro W a b hW
       obtain⟨w0,h0⟩:=hW.b
       have h1:=h0.Yr
       rw[List.take_length,←Uj.out.1]at h1
       exact h1.mono (fun e w' ⟨a,b⟩=>⟨a,b.symm⟩)
      have HG1:Hid (∀W a b,Mc K wc kl X hd tl j a b W→Calls Tryz.prog 29 #[.pointer (some ⟨a,0,none⟩)] W fun e w'=>e=.returned (.string ES)∧W=w'):=by
       intro W a b hW
       rw[Xv]
       exact hW.a.Yr.mono (fun e w' ⟨a,b⟩=>⟨a,b.symm⟩)
      have Z8:Hid (∀W a b,Mc K wc kl X hd tl j a b W→Calls Tryz.prog 30 #[.string S1,.string LS] W fun e w'=>e=.returned (.tuple #[.pointer none,.int .i64 0,.int .i64 8])∧w'.cell? ⟨g13,j,none⟩=some (.string XJ)∧w'.cell? ⟨g13,tl.length,none⟩=some (.string XL)∧g13<w'.heap.size∧Hid (Below w.heap.size w w')):=by
       intro W a b hW
       refine(HP3.out W).mono ?_
       rintro e w' ⟨rfl,hb⟩
       have Px:=(hW.below hb).a.aZ
       rw[ZH,Z5]
       exact⟨rfl,bz Px (Tr.out j hj),bz Px (Tr.out tl.length (Nat.le_refl _)),Nat.lt_of_lt_of_le ad9 Px.size,vv.out.aZ.trans (Px.mono vv.out.aZ.size)⟩
      have j1:(0:Int)≤(j:Int):=by omega
      have j2:(j:Int)<(tl.length:Int)+1:=by omega
      have n1:(0:Int)≤(n:Int):=by omega
      have n2:(n:Int)≤(q:Int):=by omega
      have m1:(0:Int)≤(ej:Int):=by omega
      have m2:(ej:Int)≤(q:Int):=by omega
      have z1:(1:Int)≤(zS:Int):=by omega
      have z0:(0:Int)≤1:=by omega
      by_cases wV:t=[]
      · have cA:n=ej:=by rw[Qr];exact wT.1 wV
        rw[if_pos wV]at PN
        have hTE:TS=ES:=by rw[Ys,Xv,wV,List.append_nil]
        clear wV uv qy wT PF Ch Qr Ys Xv Xp hS1 ZH Z5 HP3 LG Uj HNQ TI Nn S5 Sf Tr vv HCV dZ
        subst cA
        subst hTE
        clear Wj
        go_wp2_with (first | (go_at_call 30;first | (refine PN.out.mono ?_;rintro e w11 ⟨ea,rfl,YF⟩;clear PN) | (refine(Qg.out w11 ea YF.out).mono ?_;rintro e w12 ⟨eb,rfl,y1,y2,Zy⟩;clear Qg YF) | (refine(Z8.out _ _ _ Qu.out).mono ?_;rintro e w15 ⟨rfl,y3,y4,y5,H15⟩;clear Z8 Qu)) | (go_at_call 23;first | (refine(Yy.out w12 ea eb Zy.out).mono ?_;rintro e w13 ⟨rfl,Za⟩;clear Yy Zy y1 y2) | (refine(HX2.out w13 ea eb Za.out).mono ?_;rintro e w14 ⟨rfl,Qu⟩;clear HX2 Za)) | (go_at_call 29;first | (refine(ZF.out w14 ea eb Qu.out).mono ?_;rintro e w9 ⟨rfl,rfl⟩;clear ZF) | (refine(HG1.out _ ea eb Qu.out).mono ?_;rintro e w9 ⟨rfl,rfl⟩;clear HG1)))
        go_ret
        exact⟨rfl,H15.out⟩
      · have cA:¬n=ej:=by rw[Qr];exact fun h=>wV (wT.2 h)
        have Bw:((n:Int)==(ej:Int))=false:=by simp;omega
        rw[if_neg wV]at PN
        clear wV uv qy wT PF Ch Qr Ys Xv Xp hS1 ZH Z5 HP3 LG Uj HNQ TI Nn S5 Sf Tr vv HCV dZ
        go_wp2_with (first | (go_at_call 30;first | (refine PN.out.mono ?_;rintro e w11 ⟨ea,rfl,YF⟩;clear PN) | (refine(Qg.out w11 ea YF.out).mono ?_;rintro e w12 ⟨eb,rfl,y1,y2,Zy⟩;clear Qg YF) | (refine(Z8.out _ _ _ Qu.out).mono ?_;rintro e w15 ⟨rfl,y3,y4,y5,H15⟩;clear Z8 Qu)) | (go_at_call 23;first | (refine(Yy.out w12 ea eb Zy.out).mono ?_;rintro e w13 ⟨rfl,Za⟩;clear Yy Zy y1 y2) | (refine(HX2.out w13 ea eb Za.out).mono ?_;rintro e w14 ⟨rfl,Qu⟩;clear HX2 Za)) | (go_at_call 29;first | (refine(ZF.out w14 ea eb Qu.out).mono ?_;rintro e w9 ⟨rfl,rfl⟩;clear ZF) | (refine(HG1.out _ ea eb Qu.out).mono ?_;rintro e w9 ⟨rfl,rfl⟩;clear HG1)))
        go_ret
        exact⟨rfl,H15.out⟩
end
end Go.Proofs.YtdmicblafmhflaaGreatDoor
