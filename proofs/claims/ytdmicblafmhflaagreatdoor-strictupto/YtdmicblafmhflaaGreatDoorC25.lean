/- Package follow: hold, walked. -/
import Derived.Test.YtdmicblafmhflaaGreatDoorC24
set_option linter.unusedSimpArgs false
set_option linter.unusedVariables false
set_option maxHeartbeats 4000000
set_option maxRecDepth 100000
namespace Go.Proofs.YtdmicblafmhflaaGreatDoor
section
open Go.RowKit Go.Maps Go.WideMaps Go.WideElems
open Go.Sort (grow)
theorem Bg{α:Type}[DecidableEq α](P l:List α)(h:l.Nodup)(hm:∀x,x∈l→x∈P):l.length≤P.length:=Ax.yx P l h hm
theorem As{w:World}{sb mb:Nat}{rv:Value}{fd:Option Addr}{fc:Nat}{T:List HT}{s:En.cU En.bE}(h:mP w sb mb rv fd fc T s){t:HT}(ht:t∈T):t.L.length≤s.found.length:=by
 have vz:(t.L.map fun r=>((t.nm,r):En.bE)).Nodup:=by
  have:=(h.bX t ht).ot.ord.nodup
  exact List.Pairwise.map _ (fun x y cL e=>cL (by simpa using e)) this
 have:=Bg s.found _ vz (fun x hx=>by
  obtain⟨r,hr,rfl⟩:=List.mem_map.1 hx
  exact(h.rows t ht r).1 hr)
 simpa using this
theorem AR{w:World}{sb mb:Nat}{rv:Value}{fd:Option Addr}{fc:Nat}{T:List HT}{s:En.cU En.bE}(h:mP w sb mb rv fd fc T s){t:HT}(ht:t∈T)(r:List ByteArray):Tb.lO t.L r=true↔(t.nm,r)∈s.found:=by
 rw[Tb.dM]
 exact h.rows t ht r
theorem Ni{s:En.cU En.bE}{f:En.bE}{n:Nat}(h:f∈s.found):(En.hold s f n).found=s.found:=by
 unfold En.hold
 exact if_pos h
theorem Om{s:En.cU En.bE}{f:En.bE}{n:Nat}(h:¬f∈s.found):(En.hold s f n).found=s.found++[f]:=by
 unfold En.hold
 exact if_neg h
theorem Av(w:World)(sb mb:Nat)(rv:Value)(fd:Option Addr)(fc:Nat)(A B:List HT)(t:HT)(s:En.cU En.bE)(h:mP w sb mb rv fd fc (A++t::B) s)(a b c:ByteArray)(n:Nat)(hn:n≤1000)(hF:s.found.length≤999990)(hC:∀f,s.count f≤1000000000000):
 Calls Tryz.prog 187 #[.pointer (some ⟨sb,0,none⟩),.agg #[.string t.nm,.string a,.string b,.string c],.int .i64 n] w fun e w'=>e=.returned (.tuple #[])∧iH w w' sb mb rv fd fc (A++t::B) s (En.hold s (t.nm,[a,b,c]) n):=by
 have FB:t∈A++t::B:=by simp
 have hLs:=As h FB
 obtain⟨w0,di⟩:∃w0,w0=w.alloc (.cells #[.string t.nm,.string a,.string b,.string c] 325):=⟨_,rfl⟩
 have bK:Below w.heap.size w w0:=by rw[di];exact(Below.refl _ _).alloc (Nat.le_refl _) _
 have nG:w0.heap[w.heap.size]?=some (.cells #[.string t.nm,.string a,.string b,.string c] 325 (0,0)):=by rw[di];exact heap_alloc_new w _
 have JA:w0.heap.size=w.heap.size+1:=by rw[di];simp
 have h0:=h.below bK
 have x0:w0.cell? ⟨w.heap.size,0,none⟩=some (.string t.nm):=by rw[cell_of_row _ _ 0 _ _ _ nG];rfl
 have x1:w0.cell? ⟨w.heap.size,1,none⟩=some (.string a):=by rw[cell_of_row _ _ 1 _ _ _ nG];rfl
 have x2:w0.cell? ⟨w.heap.size,2,none⟩=some (.string b):=by rw[cell_of_row _ _ 2 _ _ _ nG];rfl
 have x3:w0.cell? ⟨w.heap.size,3,none⟩=some (.string c):=by rw[cell_of_row _ _ 3 _ _ _ nG];rfl
 have s1:w0.cell? ⟨sb,1,none⟩=some (.map (some mb)):=by rw[cell_of_row _ _ 1 _ _ _ h0.da];rfl
 have ab0:sb<w0.heap.size:=lt_of_heap h0.da
 have oe:∀W:World,W.heap=w0.heap→(Instr.lookup 103 (.map (some mb)) (.string t.nm) false).run Tryz.prog W=.ok (.pointer (some ⟨t.g,0,none⟩)) W:=by
  intro W hW
  have hm:kh W mb ((A++t::B).map HT.pk):=by
   obtain⟨q1,q2,⟨es,ck,q3,q4⟩,q5,q6⟩:=h0.map.has
   exact⟨q1,q2,⟨es,ck,by rw[hW];exact q3,q4⟩,q5,q6⟩
  exact hm.look (rQ h.names FB) (h.short t FB) Tryz.underlying103 (Tryz.Cz W)
 have FD:=oe w0.drew rfl
 have hH:∀W:World,W.heap=w0.heap→Below w0.heap.size w0 W→Calls Tryz.prog 230 #[.pointer (some ⟨t.g,0,none⟩),.agg #[.string a,.string b,.string c],.int .i64 n] W fun e w1=>e=.returned (.bool (!Tb.lO t.L [a,b,c]))∧∃t',Ou w1 sb mb rv fd fc (A++t'::B) s.found (En.hold s (t.nm,[a,b,c]) n)∧Kb t.bU w w1∧(∀q,q∈t'.bU→q∈t.bU∨w.heap.size≤q)∧t'.key=t.key∧w1.heap[w.heap.size]?=some (.cells #[.string t.nm,.string a,.string b,.string c] 325 (0,0)):=by
  intro W hW sK
  have hWb:Below w.heap.size w W:=bK.trans (sK.mono bK.size)
  have cB:=(h.bX t FB).below hWb
  refine(Pu W t.g t.nm t.pl t.rd t.rc t.cd t.cc t.L t.C a b c n cB (by omega) hn ?_).mono ?_
  · intro x hx
    rw[h.vq t FB]at hx
    obtain⟨r,_,rfl⟩:=List.mem_map.1 hx
    exact hC _
  · rintro e w1 ⟨rd',rc',cd',cc',rfl,q1,q2,q3,q4⟩
    obtain⟨m1,m2,m3⟩:=h.mid hWb (r:=[a,b,c]) (n:=n) rfl (rd':=rd') (rc':=rc') (cd':=cd') (cc':=cc') q1 q2 q3 q4
    refine⟨rfl,_,m1,m2,m3,rfl, ?_⟩
    refine q2.heap (by rw[hW];exact nG) ?_
    intro hc
    have:=HT.ok.lt (h.bX t FB) hc
    omega
 clear oe
 by_cases dQ:(t.nm,[a,b,c])∈s.found
 · have Mv:Tb.lO t.L [a,b,c]=true:=(AR h FB _).2 dQ
   have Wf:Hid ((En.hold s (t.nm,[a,b,c]) n).found=s.found):=Ni dQ
   rw[Mv]at hH
   have H:Hid (mP w sb mb rv fd fc (A++t::B) s):=h
   clear dQ Mv h h0 nG
   go_enter Tryz.func187,Tryz.ntmps187
   go_wp2_with fail
   rw[←di]
   clear di
   go_region_with (go_at_call 230;refine(hH _ (by rfl) (by exact(Below.refl _ _).drew)).mono ?_;rintro e w1 ⟨rfl,t',m1,m2,m3,m4,m5⟩)
   all_goals
    (have dU:=RC Wf.out H.out m1 m2 m3 m4
     clear m1 m2 m3 m4 m5 hH FD x0 x1 x2 x3 s1
     go_wp2_with fail
     go_end0
     exact⟨rfl,dU⟩)
 · have Mv:Tb.lO t.L [a,b,c]=false:=by
    rw[Bool.eq_false_iff]
    exact fun e=>dQ ((AR h FB _).1 e)
   have Wf:Hid ((En.hold s (t.nm,[a,b,c]) n).found=s.found++[(t.nm,[a,b,c])]):=Om dQ
   rw[Mv]at hH
   have H:Hid (mP w sb mb rv fd fc (A++t::B) s):=h
   obtain⟨i0,kP,eX,eP,eA⟩:=info_parts Tryz.NQ
   have HI:Hid (Tryz.prog.info? 325=some i0):=kP
   have H0:Hid (i0.zero=some (.agg #[.string ByteArray.empty,.string ByteArray.empty,.string ByteArray.empty,.string ByteArray.empty])):=eX
   have H1:Hid (i0.size=4):=eP
   have H2:Hid (i0.bytes=64):=eA
   clear dQ Mv h h0 nG kP eX eP eA
   go_enter Tryz.func187,Tryz.ntmps187
   go_wp2_with fail
   rw[←di]
   clear di
   go_upto_region 1 with fail
   go_cut [16]from 6 (fun bv wx=>bv=.bool true∧∃t',Ou wx sb mb rv fd fc (A++t'::B) s.found (En.hold s (t.nm,[a,b,c]) n)∧Kb t.bU w wx∧(∀q,q∈t'.bU→q∈t.bU∨w.heap.size≤q)∧t'.key=t.key∧wx.heap[w.heap.size]?=some (.cells #[.string t.nm,.string a,.string b,.string c] 325 (0,0)))
   case first=>
    go_region_with (go_at_call 230;refine(hH _ (by rfl) (by exact(Below.refl _ _).drew)).mono ?_;rintro e w1 ⟨rfl,EX⟩)
    all_goals (go_wp2_with fail;go_meet;exact⟨rfl,EX⟩)
   case rest=>
    obtain⟨rfl,t',m1,m2,m3,m4,m5⟩:=hcut
    have y0:wc.cell? ⟨w.heap.size,0,none⟩=some (.string t.nm):=by rw[cell_of_row _ _ 0 _ _ _ m5];rfl
    have y1:wc.cell? ⟨w.heap.size,1,none⟩=some (.string a):=by rw[cell_of_row _ _ 1 _ _ _ m5];rfl
    have y2:wc.cell? ⟨w.heap.size,2,none⟩=some (.string b):=by rw[cell_of_row _ _ 2 _ _ _ m5];rfl
    have y3:wc.cell? ⟨w.heap.size,3,none⟩=some (.string c):=by rw[cell_of_row _ _ 3 _ _ _ m5];rfl
    have z2:wc.cell? ⟨sb,2,none⟩=some (.slice fd s.found.length fc):=by rw[cell_of_row _ _ 2 _ _ _ m1.da];rfl
    have XN:sb<wc.heap.size:=lt_of_heap m1.da
    have ag6:w.heap.size<wc.heap.size:=lt_of_heap m5
    have Qv:=m1.CM
    have dU:∀W w2:World,Below wc.heap.size wc W→∀g cap,w2.ownsRow 0 325 4 (.slice (some ⟨g,0,none⟩) (s.found.length+1) cap) (s.found.length+1) (cm s.found++[.string t.nm,.string a,.string b,.string c])→W.grownBy w2 (Value.ownBlock (.slice fd s.found.length fc))→cn W (.slice fd s.found.length fc) (.slice (some ⟨g,0,none⟩) (s.found.length+1) cap)→
     (∀q:Nat,Value.ownBlock (.slice fd s.found.length fc)=some q→(∃cur,w2.heap[q]?=some (.cells cur 325 (0,0)))∧∀j,j<s.found.length*4→w2.cell? ⟨q,j,none⟩=W.cell? ⟨q,j,none⟩)→iH w (w2.setCell ⟨sb,2,none⟩ (.slice (some ⟨g,0,none⟩) (s.found.length+1) cap)) sb mb rv fd fc (A++t::B) s (En.hold s (t.nm,[a,b,c]) n)∧(∃v,w2.cell? ⟨sb,2,none⟩=some v)∧w2.frozen? ⟨sb,2,none⟩=false:=by
     intro W w2 hW g cap e1 e2 e3 e4
     refine⟨RX Wf.out H.out m1 m2 m3 m4 hW e1 e2 e3 e4, ?_⟩
     have cM:w2.heap[sb]?=some (.cells #[rv,.map (some mb),.slice fd s.found.length fc] 322 (0,0)):=by
      rw[e2.block sb (Nat.lt_of_lt_of_le XN hW.size) ?_,hW.block _ XN]
      · exact m1.da
      · intro hc
        obtain⟨cur,e⟩:=ay m1.CM hc.symm
        rw[m1.da]at e
        cases e
     exact⟨⟨_,by rw[cell_of_row _ _ 2 _ _ _ cM];rfl⟩,by simp[World.frozen?,cM]⟩
    clear m1 m2 m3 m4 m5 hH FD x0 x1 x2 x3 s1
    go_upto_region 2 with fail
    go_region_law (refine tL _ rfl (.tmp 21) (.tmp 23) 320 rfl 0 325 i0 _ 4 64 Tryz.underlying320 HI.out H0.out H1.out H2.out rfl (by decide) (.slice fd s.found.length fc) s.found.length (cm s.found) (by simp[Act.eval,Act.put]) (by exact Qv.alloc _) ⟨wc.heap.size,0,none⟩ 1 1 [.string t.nm,.string a,.string b,.string c] (by simp[Act.eval,Act.put]) rfl (by exact World.news_of_block (heap_alloc_new _ _)) (by simp[Value.oneCell']) (by decide) (by unfold maxLen;omega) (by omega) (by simp) ?_;intro g2 mD w2 e1 e2 e3 e4;obtain⟨od,⟨v2,vQ⟩,akg⟩:=dU _ w2 (((Below.refl _ _).alloc (Nat.le_refl _) _).drew) g2 mD e1 e2 e3 e4)
    all_goals (first | (go_end0;exact⟨rfl,od⟩) | (go_wp2_with fail;go_end0;exact⟨rfl,od⟩))
end
/- Package follow: conclude. -/
section
open Go.RowKit Go.Maps Go.WideMaps Go.WideElems
open Go.Sort (grow)
structure S0(a:Ax.Atom):Prop where
 three:a.ag.length≤3
 kinds:∀t,t∈a.ag→t.kind=0∨t.kind=1
theorem iH.pre{w w1 w':World}{sb mb:Nat}{rv:Value}{fd:Option Addr}{fc:Nat}{T:List HT}{s s':En.cU En.bE}(h:iH w1 w' sb mb rv fd fc T s s')(hb:Below w.heap.size w w1)(h0:mP w sb mb rv fd fc T s):iH w w' sb mb rv fd fc T s s' where
 on:=by
  obtain⟨O8,N5,T',a,b,c⟩:=h.on
  refine⟨O8,N5,T',a,b,fun x hx=> ?_⟩
  rcases c x hx with e | e
  · exact .inl e
  · exact .inr (Nat.le_trans hb.size e)
 kept:=(Kb.bG hb _).trans h.kept
 cells:=by
  intro b fE
  obtain⟨cur,e⟩:=ay h0.CM fE
  obtain⟨t1,c1⟩:=h.cells b fE
  exact⟨t1,fun j hj=>(c1 j hj).trans (hb.cell (lt_of_heap e))⟩
theorem Fk{b:En.Bind}{a:Ax.Atom}(h:a.ag.length≤3):∃x y z,En.dj (En.val b) a=(a.pred,[x,y,z])∧ll a.pred (fm (Kj a.ag (En.val b)) a.ag.length)=#[.string a.pred,.string x,.string y,.string z]:=by
 obtain⟨x,y,z,e⟩:=Jz (l:=a.ag.map (En.dD (En.val b))) (by simpa using h)
 refine⟨x,y,z,by unfold En.dj;rw[e], ?_⟩
 rw[Pt _ _ _ h,e]
 rfl
theorem sD(w:World)(sb mb:Nat)(rv:Value)(fd:Option Addr)(fc:Nat)(A B:List HT)(t:HT)(s:En.cU En.bE)(h:mP w sb mb rv fd fc (A++t::B) s)(hF:s.found.length≤999990)(hC:∀f,s.count f≤1000000000000)
 (a:Ax.Atom)(ad:Option Addr)(ac:Nat)(bv:Value)(ha:MA.ok w (a,.slice ad a.ag.length ac))(cB:S0 a)(hp:a.pred=t.nm)(b:En.Bind)(n:Nat)(X Y:Nat→ByteArray)(hb:BM b n X Y)(bd:Option Addr)(bm bc:Nat)(hbv:bv=.slice bd bm bc):
 Calls Tryz.prog 231 #[.pointer (some ⟨sb,0,none⟩),.agg #[.int .i64 a.at_,.string a.pred,.slice ad a.ag.length ac,bv],.agg (cG n X Y)] w fun e w'=>e=.returned (.tuple #[])∧iH w w' sb mb rv fd fc (A++t::B) s (En.hold s (En.dj (En.val b) a) 1):=by
 subst hbv
 obtain⟨x,y,z,e1,e2⟩:=Fk (b:=b) cB.three
 rw[e1,hp]
 have Uj:Hid (∀W:World,Below w.heap.size w W→∀g,W.heap[g]?=some (.cells (cG n X Y) 369 (0,0))→Calls Tryz.prog 265 #[.pointer (some ⟨g,0,none⟩),.agg #[.int .i64 a.at_,.string t.nm,.slice ad a.ag.length ac]] W fun e w'=>e=.returned (.agg #[.string t.nm,.string x,.string y,.string z])∧Below W.heap.size W w'):=by
  intro W hW g hg
  have S3:=M0 W g n X Y b hb hg a ad ac (af ha hW) cB.kinds cB.three
  rw[hp]at S3
  refine S3.mono ?_
  rintro e w' ⟨h1,rfl⟩
  rw[←hp,e2]
  exact⟨rfl,h1⟩
 have hho:Hid (∀W:World,Below w.heap.size w W→Calls Tryz.prog 187 #[.pointer (some ⟨sb,0,none⟩),.agg #[.string t.nm,.string x,.string y,.string z],.int .i64 1] W fun e w'=>e=.returned (.tuple #[])∧iH w w' sb mb rv fd fc (A++t::B) s (En.hold s (t.nm,[x,y,z]) 1)):=by
  intro W hW
  refine(Av W sb mb rv fd fc A B t s (h.below hW) x y z 1 (by decide) hF hC).mono ?_
  rintro e w' ⟨rfl,h1⟩
  exact⟨rfl,h1.pre hW h⟩
 clear e1 e2 ha cB hb h hp
 have OR:Hid (∀W:World,W.heap=((w.alloc (.cells #[.int .i64 a.at_,.string t.nm,.slice ad a.ag.length ac,.slice bd bm bc] 222)).alloc (.cells (cG n X Y) 369)).heap→W.heap[w.heap.size+1]?=some (.cells (cG n X Y) 369 (0,0))):=fun W hW=>by rw[hW];exact pN w _ _
 have aR:Hid (Below w.heap.size w ((w.alloc (.cells #[.int .i64 a.at_,.string t.nm,.slice ad a.ag.length ac,.slice bd bm bc] 222)).alloc (.cells (cG n X Y) 369))):=((Below.refl _ _).alloc (Nat.le_refl _) _).alloc (by simp) _
 go_enter Tryz.func231,Tryz.ntmps231
 go_wp2_with (first | (go_at_call 265;refine(Uj.out _ (by exact aR.out) _ (by exact OR.out _ rfl)).mono ?_;rintro e w1 ⟨rfl,bk⟩) | (go_at_call 187;refine(hho.out _ (by exact aR.out.trans (bk.mono aR.out.size))).mono ?_;rintro e w2 ⟨rfl,jK⟩))
 go_end0
 exact⟨rfl,jK⟩
end
/- Package follow: join. -/
section
open Go.RowKit Go.Maps Go.WideMaps Go.WideElems
open Go.Sort (grow)
theorem Vg(w:World)(b0:En.Bind)(n0:Nat)(X0 Y0:Nat→ByteArray)(bK:BM b0 n0 X0 Y0)(a:Ax.Atom)(ad:Option Addr)(ac:Nat)(pr x y z:ByteArray)
 (ha:MA.ok w (a,.slice ad a.ag.length ac))(cB:S0 a)(hn:n0+a.ag.length≤6):
 Calls Tryz.prog 266 #[.agg (cG n0 X0 Y0),.agg #[.int .i64 a.at_,.string a.pred,.slice ad a.ag.length ac],.agg #[.string pr,.string x,.string y,.string z]] w fun e w'=>∃n1 X1 Y1 ok,e=.returned (.tuple #[.agg (cG n1 X1 Y1),.bool ok])∧Below w.heap.size w w'∧
  Hid ((ok=false∧En.dd a (pr,[x,y,z]) b0=none)∨(ok=true∧∃b1,En.dd a (pr,[x,y,z]) b0=some b1∧BM b1 n1 X1 Y1∧n1≤n0+a.ag.length)):=by
 refine(Kn w b0 n0 X0 Y0 bK a ad ac pr x y z ha cB.kinds cB.three hn).mono ?_
 rintro e w' ⟨h1,⟨h2,rfl⟩ | ⟨b1,n1,X1,Y1,h2,h3,h4,rfl⟩⟩
 · exact⟨_,_,_,_,rfl,h1,.inl ⟨rfl,h2⟩⟩
 · exact⟨_,_,_,_,rfl,h1,.inr ⟨rfl,b1,h2,h3,h4⟩⟩
theorem J7{l:List En.bE}(h:Vd l){k:Nat}(hk:k<l.length){p a b c:ByteArray}(e:l[k]=(p,[a,b,c])):
 (cm l)[k*4]?=some (.string p)∧(cm l)[k*4+1]?=some (.string a)∧(cm l)[k*4+2]?=some (.string b)∧(cm l)[k*4+3]?=some (.string c):=by
 induction l generalizing k with
 | nil=>simp at hk
 | cons f l ih=>
  have hl:(qt f).length=4:=by simp[qt,h f (by simp)]
  have u7:∀j,(cm (f::l))[j+4]?=(cm l)[j]?:=by
   intro j
   have:cm (f::l)=qt f++cm l:=by simp[cm]
   rw[this,List.getElem?_append_right (by omega)]
   congr 1
   omega
  cases k with
  | zero=>
   simp only[List.getElem_cons_zero]at e
   subst e
   simp[cm,qt]
  | succ k=>
   have:=ih (fun x hx=>h x (by simp[hx])) (k:=k) (by simpa using hk) (by simpa using e)
   rw[show(k+1)*4=k*4+4 by omega,show k*4+4+1=k*4+1+4 by omega,show k*4+4+2=k*4+2+4 by omega,show k*4+4+3=k*4+3+4 by omega,u7,u7,u7,u7]
   exact this
structure tq(w:World)(a:Ax.Atom)(ad:Option Addr)(ac:Nat)(bd:Option Addr)(bc:Nat)(body:List MA):Prop where
 mr:MR.ok w ⟨(a,.slice ad a.ag.length ac),.slice bd body.length bc,body⟩
 head:S0 a
 atoms:∀x,x∈body→S0 x.1
 two:body.length≤2
theorem tq.below{w w':World}{a:Ax.Atom}{ad:Option Addr}{ac:Nat}{bd:Option Addr}{bc:Nat}{body:List MA}(h:tq w a ad ac bd bc body)(hb:Below w.heap.size w w'):tq w' a ad ac bd bc body:=⟨MR.below h.mr hb,h.head,h.atoms,h.two⟩
theorem MA.I5{w w':World}{S:List Nat}{x:MA}(h:MA.ok w x)(hk:Kb S w w')(hS:∀b cur,b∈S→w.heap[b]?=some (.cells cur 310 (0,0))→False):MA.ok w' x:=by
 refine hk.row h ?_
 intro b hb hm
 obtain⟨cur,e⟩:=ay h hb
 exact hS b cur hm e
theorem tq.search{w w':World}{sb mb:Nat}{rv:Value}{fd:Option Addr}{fc:Nat}{T:List HT}{s s':En.cU En.bE}{a:Ax.Atom}{ad:Option Addr}{ac:Nat}{bd:Option Addr}{bc:Nat}{body:List MA}(h:tq w a ad ac bd bc body)(h0:mP w sb mb rv fd fc T s)(hs:iH w w' sb mb rv fd fc T s s'):tq w' a ad ac bd bc body:=by
 have jO:∀b cur U,b∈dC sb fd fc s.found.length T→w.heap[b]?=some (.cells cur U (0,0))→U=322∨U=325∨U=117∨U=119∨U=3:=by
  intro b cur U hb e
  obtain⟨oJ,U',e',hU⟩:=lA h0 hb
  rw[e]at e'
  simp only[Option.some.injEq,Obj.cells.injEq]at e'
  rw[e'.2.1]
  exact hU
 have hT:∀b cur,b∈dC sb fd fc s.found.length T→w.heap[b]?=some (.cells cur 310 (0,0))→False:=by
  intro b cur hb e
  have:=jO b cur _ hb e
  rcases this with e | e | e | e | e<;>cases e
 refine⟨⟨MA.I5 h.mr.1 hs.kept hT,hs.kept.row h.mr.2.1 ?_,fun x hx=>MA.I5 (h.mr.2.2 x hx) hs.kept hT⟩,h.head,h.atoms,h.two⟩
 intro b hb hm
 obtain⟨cur,e⟩:=ay h.mr.2.1 hb
 have:=jO b cur _ hm e
 rcases this with e | e | e | e | e<;>cases e
theorem mY{T:List HT}{p:ByteArray}(h:p∈T.map HT.nm):∃A t B,T=A++t::B∧p=t.nm:=by
 obtain⟨t,ht,rfl⟩:=List.mem_map.1 h
 obtain⟨A,B,e⟩:=List.append_of_mem ht
 exact⟨A,t,B,e,rfl⟩
theorem kr{T T':List HT}(h:T'.map HT.key=T.map HT.key):T'.map HT.nm=T.map HT.nm:=by
 have e:∀l:List HT,l.map HT.nm=(l.map HT.key).map Prod.fst:=fun l=>by rw[List.map_map];rfl
 rw[e,e,h]
theorem IX(w:World)(o1 o2:Obj):Below w.heap.size w ((w.alloc o1).alloc o2)∧((w.alloc o1).alloc o2).heap.size=w.heap.size+2∧((w.alloc o1).alloc o2).heap[w.heap.size]?=some o1∧((w.alloc o1).alloc o2).heap[w.heap.size+1]?=some o2:=by
 refine⟨((Below.refl _ _).alloc (Nat.le_refl _) _).alloc (by simp) _,by simp, ?_,pN w _ _⟩
 rw[Below.heap_alloc _ _ _ (by simp)]
 exact heap_alloc_new w _
theorem Po(w:World)(sb mb:Nat)(rv:Value)(fd:Option Addr)(fc:Nat)(T:List HT)(s:En.cU En.bE)(h:mP w sb mb rv fd fc T s)(hF:s.found.length≤999990)(hC:∀f,s.count f≤1000000000000)
 (a:Ax.Atom)(ad:Option Addr)(ac:Nat)(bd:Option Addr)(bc:Nat)(body:List MA)(hr:tq w a ad ac bd bc body)(hp:a.pred∈T.map HT.nm)(b:En.Bind)(n:Nat)(X Y:Nat→ByteArray)(hb:BM b n X Y)(turn aW:Nat):
 Calls Tryz.prog 232 #[.pointer (some ⟨sb,0,none⟩),.agg #[.int .i64 a.at_,.string a.pred,.slice ad a.ag.length ac,.slice bd body.length bc],.int .i64 body.length,.int .i64 turn,.int .i64 aW,.agg (cG n X Y)] w fun e w'=>e=.returned (.tuple #[])∧iH w w' sb mb rv fd fc T s (En.hold s (En.dj (En.val b) a) 1):=by
 obtain⟨A,t,B,rfl,QA⟩:=mY hp
 have vE:Hid (∀W:World,Below w.heap.size w W→Calls Tryz.prog 231 #[.pointer (some ⟨sb,0,none⟩),.agg #[.int .i64 a.at_,.string a.pred,.slice ad a.ag.length ac,.slice bd body.length bc],.agg (cG n X Y)] W fun e w'=>e=.returned (.tuple #[])∧iH w w' sb mb rv fd fc (A++t::B) s (En.hold s (En.dj (En.val b) a) 1)):=by
  intro W hW
  refine(sD W sb mb rv fd fc A B t s (h.below hW) hF hC a ad ac _ (hr.below hW).mr.1 hr.head QA b n X Y hb bd body.length bc rfl).mono ?_
  rintro e w' ⟨rfl,h1⟩
  exact⟨rfl,h1.pre hW h⟩
 generalize En.hold s (En.dj (En.val b) a) 1=s' at vE ⊢
 clear h hr hp hb hF hC QA
 go_enter Tryz.func232,Tryz.ntmps232
 go_upto_region 1 with fail
 obtain⟨jb,js,jr,jx⟩:=IX w (.cells #[.int .i64 a.at_,.string a.pred,.slice ad a.ag.length ac,.slice bd body.length bc] 222) (.cells (cG n X Y) 369)
 generalize (w.alloc (.cells #[.int .i64 a.at_,.string a.pred,.slice ad a.ag.length ac,.slice bd body.length bc] 222)).alloc (.cells (cG n X Y) 369)=w0 at jb js jr jx ⊢
 have Xb:Hid (Below w.heap.size w w0):=jb
 have Ir:w.heap.size<w0.heap.size:=by omega
 have X2:w.heap.size+1<w0.heap.size:=by omega
 have r0:w0.cell? ⟨w.heap.size,0,none⟩=some (.int .i64 a.at_):=by rw[cell_of_row _ _ _ _ _ _ jr];rfl
 have r1:w0.cell? ⟨w.heap.size,1,none⟩=some (.string a.pred):=by rw[cell_of_row _ _ _ _ _ _ jr];rfl
 have r2:w0.cell? ⟨w.heap.size,2,none⟩=some (.slice ad a.ag.length ac):=by rw[cell_of_row _ _ _ _ _ _ jr];rfl
 have r3:w0.cell? ⟨w.heap.size,3,none⟩=some (.slice bd body.length bc):=by rw[cell_of_row _ _ _ _ _ _ jr];rfl
 have q0:w0.cell? ⟨w.heap.size+1,0,none⟩=some (.int .i64 n):=by rw[cell_of_row _ _ _ _ _ _ jx];rfl
 have q1:w0.cell? ⟨w.heap.size+1,1,none⟩=some (.string (X 0)):=by rw[cell_of_row _ _ _ _ _ _ jx];rfl
 have q2:w0.cell? ⟨w.heap.size+1,2,none⟩=some (.string (Y 0)):=by rw[cell_of_row _ _ _ _ _ _ jx];rfl
 have q3:w0.cell? ⟨w.heap.size+1,3,none⟩=some (.string (X 1)):=by rw[cell_of_row _ _ _ _ _ _ jx];rfl
 have q4:w0.cell? ⟨w.heap.size+1,4,none⟩=some (.string (Y 1)):=by rw[cell_of_row _ _ _ _ _ _ jx];rfl
 have q5:w0.cell? ⟨w.heap.size+1,5,none⟩=some (.string (X 2)):=by rw[cell_of_row _ _ _ _ _ _ jx];rfl
 have q6:w0.cell? ⟨w.heap.size+1,6,none⟩=some (.string (Y 2)):=by rw[cell_of_row _ _ _ _ _ _ jx];rfl
 have q7:w0.cell? ⟨w.heap.size+1,7,none⟩=some (.string (X 3)):=by rw[cell_of_row _ _ _ _ _ _ jx];rfl
 have q8:w0.cell? ⟨w.heap.size+1,8,none⟩=some (.string (Y 3)):=by rw[cell_of_row _ _ _ _ _ _ jx];rfl
 have q9:w0.cell? ⟨w.heap.size+1,9,none⟩=some (.string (X 4)):=by rw[cell_of_row _ _ _ _ _ _ jx];rfl
 have Wu:w0.cell? ⟨w.heap.size+1,10,none⟩=some (.string (Y 4)):=by rw[cell_of_row _ _ _ _ _ _ jx];rfl
 have WW:w0.cell? ⟨w.heap.size+1,11,none⟩=some (.string (X 5)):=by rw[cell_of_row _ _ _ _ _ _ jx];rfl
 have WE:w0.cell? ⟨w.heap.size+1,12,none⟩=some (.string (Y 5)):=by rw[cell_of_row _ _ _ _ _ _ jx];rfl
 clear jb jr jx
 have BP:cG n X Y=#[.int .i64 n,.string (X 0),.string (Y 0),.string (X 1),.string (Y 1),.string (X 2),.string (Y 2),.string (X 3),.string (Y 3),.string (X 4),.string (Y 4),.string (X 5),.string (Y 5)]:=rfl
 rw[BP]at vE
 clear BP
 go_wp2_with (first | (go_at_call 231;refine(vE.out _ (by exact Xb.out)).mono ?_;rintro e w2 ⟨rfl,jK⟩))
 exact bodyPost_ret (v:=.tuple #[]) (by simp[results,Tryz.results232,go_sem]) rfl ⟨rfl,jK⟩
end
end Go.Proofs.YtdmicblafmhflaaGreatDoor
