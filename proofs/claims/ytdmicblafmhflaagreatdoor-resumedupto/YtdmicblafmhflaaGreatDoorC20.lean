/- Package follow: match. -/
import Derived.Test.YtdmicblafmhflaaGreatDoorC19
set_option linter.unusedSimpArgs false
set_option linter.unusedVariables false
set_option maxHeartbeats 4000000
set_option maxRecDepth 100000
namespace Go.Proofs.YtdmicblafmhflaaGreatDoor
section
open Go.RowKit
open Go.Sort (grow)
theorem C4{t:Ax.Term}{ts:List Ax.Term}{n:ByteArray}{ns:List ByteArray}{b:En.Bind}:En.fU (t::ts) (n::ns) b=if En.dQ (En.val b) t=n then En.fU ts ns b else if En.dQ (En.val b) t=En.ee then En.fU ts ns (b++[(t.text,n)])else none:=rfl
theorem Hp:En.ee.toList=[]:=by rw[ByteArray.toList_eq];rfl
def Tv(a b c:ByteArray):Nat→ByteArray:=fun i=>if i=0 then a else if i=1 then b else c
theorem Yo{a b c:ByteArray}{i:Nat}(h:i<3):[a,b,c].drop i=Tv a b c i::[a,b,c].drop (i+1):=by
 have:i=0∨i=1∨i=2:=by omega
 rcases this with rfl | rfl | rfl<;>rfl
def Gq(w:World)(r n:Nat)(X Y:Nat→ByteArray):World:=(((((((((((((w.setCell ⟨r,0,none⟩ (.int .i64 n)).setCell ⟨r,1,none⟩ (.string (X 0))).setCell ⟨r,2,none⟩ (.string (Y 0))).setCell ⟨r,3,none⟩ (.string (X 1))).setCell ⟨r,4,none⟩ (.string (Y 1))).setCell ⟨r,5,none⟩ (.string (X 2))).setCell ⟨r,6,none⟩ (.string (Y 2))).setCell ⟨r,7,none⟩ (.string (X 3))).setCell ⟨r,8,none⟩ (.string (Y 3))).setCell ⟨r,9,none⟩ (.string (X 4))).setCell ⟨r,10,none⟩ (.string (Y 4))).setCell ⟨r,11,none⟩ (.string (X 5))).setCell ⟨r,12,none⟩ (.string (Y 5)))
theorem tp{w:World}{r m n:Nat}{A B X Y:Nat→ByteArray}{T:TypeId}(h:w.heap[r]?=some (.cells (cH m A B) T (0,0))):(Gq w r n X Y).heap[r]?=some (.cells (cH n X Y) T (0,0))∧Kb [r] w (Gq w r n X Y):=by
 have h0:=aw _ h 0 (.int .i64 n)
 have h1:=aw _ h0 1 (.string (X 0))
 have h2:=aw _ h1 2 (.string (Y 0))
 have h3:=aw _ h2 3 (.string (X 1))
 have h4:=aw _ h3 4 (.string (Y 1))
 have h5:=aw _ h4 5 (.string (X 2))
 have h6:=aw _ h5 6 (.string (Y 2))
 have h7:=aw _ h6 7 (.string (X 3))
 have h8:=aw _ h7 8 (.string (Y 3))
 have h9:=aw _ h8 9 (.string (X 4))
 have h10:=aw _ h9 10 (.string (Y 4))
 have h11:=aw _ h10 11 (.string (X 5))
 have h12:=aw _ h11 12 (.string (Y 5))
 refine⟨by simpa [Gq,cH]using h12, ?_⟩
 exact((((((((((((Kb.setCell w ⟨r,0,none⟩ (.int .i64 (n:Int))).trans (Kb.setCell _ ⟨r,1,none⟩ (.string (X 0)))).trans (Kb.setCell _ ⟨r,2,none⟩ (.string (Y 0)))).trans (Kb.setCell _ ⟨r,3,none⟩ (.string (X 1)))).trans (Kb.setCell _ ⟨r,4,none⟩ (.string (Y 1)))).trans (Kb.setCell _ ⟨r,5,none⟩ (.string (X 2)))).trans (Kb.setCell _ ⟨r,6,none⟩ (.string (Y 2)))).trans (Kb.setCell _ ⟨r,7,none⟩ (.string (X 3)))).trans (Kb.setCell _ ⟨r,8,none⟩ (.string (Y 3)))).trans (Kb.setCell _ ⟨r,9,none⟩ (.string (X 4)))).trans (Kb.setCell _ ⟨r,10,none⟩ (.string (Y 4)))).trans (Kb.setCell _ ⟨r,11,none⟩ (.string (X 5)))).trans (Kb.setCell _ ⟨r,12,none⟩ (.string (Y 5)))
def O2(w:World)(R:Option En.Bind)(m:Nat)(e:Ending)(w':World):Prop:=Below w.heap.size w w'∧
 ((R=none∧e=.returned (.tuple #[.agg (cH 0 (fun _=>⟨#[]⟩) (fun _=>⟨#[]⟩)),.bool false]))∨(∃b1 n1 X1 Y1,R=some b1∧B1 b1 n1 X1 Y1∧n1≤m∧e=.returned (.tuple #[.agg (cH n1 X1 Y1),.bool true])))
theorem L7(w:World)(b0:En.Bind)(n0:Nat)(X0 Y0:Nat→ByteArray)(a:Ax.Atom)(ad:Option Addr)(ac m:Nat)(pr x y z:ByteArray)(hp:¬a.pred=pr):
 Calls Tryz.prog 266 #[.agg (cH n0 X0 Y0),.agg #[.int .i64 a.at_,.string a.pred,.slice ad a.ak.length ac],.agg #[.string pr,.string x,.string y,.string z]] w (O2 w none m):=by
 have sM:(a.pred.toList==pr.toList)=false:=by rw[fi];simp[hp]
 have YZ:(a.pred.toList != pr.toList)=true:=by simp[bne,sM]
 clear hp
 unfold cH
 go_enter Tryz.func266,Tryz.ntmps266
 go_wp2_with fail
 exact bodyPost_ret (v:=.tuple #[.agg #[.int .i64 0,.string ⟨#[]⟩,.string ⟨#[]⟩,.string ⟨#[]⟩,.string ⟨#[]⟩,.string ⟨#[]⟩,.string ⟨#[]⟩,.string ⟨#[]⟩,.string ⟨#[]⟩,.string ⟨#[]⟩,.string ⟨#[]⟩,.string ⟨#[]⟩,.string ⟨#[]⟩],.bool false]) (by simp[results,Tryz.results266,go_sem]) rfl ⟨((((Below.refl _ _).alloc (Nat.le_refl _) _).alloc (by simp) _).alloc (by simp;omega) _).alloc (by simp;omega) _,.inl ⟨rfl,rfl⟩⟩
structure MW(w w0:World)(n:Nat)(X Y:Nat→ByteArray)(pr x y z:ByteArray):Prop where
 below:Below w.heap.size w w0
 size:w0.heap.size=w.heap.size+4
 bnd:w0.heap[w.heap.size]?=some (.cells (cH n X Y) 369 (0,0))
 fct:w0.heap[w.heap.size+2]?=some (.cells #[.string pr,.string x,.string y,.string z] 325 (0,0))
 res:w0.heap[w.heap.size+3]?=some (.cells (cH 0 (fun _=>⟨#[]⟩) (fun _=>⟨#[]⟩)) 369 (0,0))
theorem PH(w:World)(n:Nat)(X Y:Nat→ByteArray)(o:Obj)(pr x y z:ByteArray):MW w ((((w.alloc (.cells (cH n X Y) 369)).alloc o).alloc (.cells #[.string pr,.string x,.string y,.string z] 325)).alloc (.cells (cH 0 (fun _=>⟨#[]⟩) (fun _=>⟨#[]⟩)) 369)) n X Y pr x y z where
 below:=((((Below.refl _ _).alloc (Nat.le_refl _) _).alloc (by simp) _).alloc (by simp;omega) _).alloc (by simp;omega) _
 size:=by simp
 bnd:=by
  rw[Below.heap_alloc _ _ _ (by simp;omega),Below.heap_alloc _ _ _ (by simp;omega),Below.heap_alloc _ _ _ (by simp)]
  exact heap_alloc_new w _
 fct:=by
  rw[Below.heap_alloc _ _ _ (by simp)]
  have:=heap_alloc_new ((w.alloc (.cells (cH n X Y) 369)).alloc o) (.cells #[.string pr,.string x,.string y,.string z] 325)
  simpa using this
 res:=by
  have:=heap_alloc_new (((w.alloc (.cells (cH n X Y) 369)).alloc o).alloc (.cells #[.string pr,.string x,.string y,.string z] 325)) (.cells (cH 0 (fun _=>⟨#[]⟩) (fun _=>⟨#[]⟩)) 369)
  simpa using this
theorem Jl(w:World)(b0:En.Bind)(n0:Nat)(X0 Y0:Nat→ByteArray)(bU:B1 b0 n0 X0 Y0)(a:Ax.Atom)(ad:Option Addr)(ac:Nat)(pr x y z:ByteArray)(hp:a.pred=pr)
 (ha:MA.ok w (a,.slice ad a.ak.length ac))(hk:∀t,t∈a.ak→t.kind=0∨t.kind=1)(h3:a.ak.length≤3)(hn:n0+a.ak.length≤6):
 Calls Tryz.prog 266 #[.agg (cH n0 X0 Y0),.agg #[.int .i64 a.at_,.string a.pred,.slice ad a.ak.length ac],.agg #[.string pr,.string x,.string y,.string z]] w (O2 w (En.fU a.ak [x,y,z] b0) (n0+a.ak.length)):=by
 have sM:(a.pred.toList==pr.toList)=true:=by rw[fi];simp[hp]
 have YZ:(a.pred.toList != pr.toList)=false:=by simp[bne,sM]
 obtain⟨w0,db,hmw⟩:∃w0,w0=((((w.alloc (.cells (cH n0 X0 Y0) 369)).alloc (.cells #[.int .i64 a.at_,.string a.pred,.slice ad a.ak.length ac] 219)).alloc (.cells #[.string pr,.string x,.string y,.string z] 325)).alloc (.cells (cH 0 (fun _=>⟨#[]⟩) (fun _=>⟨#[]⟩)) 369))∧MW w w0 n0 X0 Y0 pr x y z:=⟨_,rfl,PH w n0 X0 Y0 _ pr x y z⟩
 generalize hR:En.fU a.ak [x,y,z] b0=R
 have HK:Hid (∀t,t∈a.ak→t.kind=0∨t.kind=1):=hk
 unfold MA.ok at ha
 simp only at ha
 have hle:=be ha
 clear hp hk
 go_enter Tryz.func266,Tryz.ntmps266
 have Ba:∀n X Y,cH n X Y=#[.int .i64 n,.string (X 0),.string (Y 0),.string (X 1),.string (Y 1),.string (X 2),.string (Y 2),.string (X 3),.string (Y 3),.string (X 4),.string (Y 4),.string (X 5),.string (Y 5)]:=fun _ _ _=>rfl
 rw[Ba n0 X0 Y0]
 go_wp2_with fail
 rw[←Ba n0 X0 Y0]
 change Code.wp Tryz.prog _ _ _ ((((w.alloc (.cells (cH n0 X0 Y0) 369)).alloc (.cells #[.int .i64 a.at_,.string a.pred,.slice ad a.ak.length ac] 219)).alloc (.cells #[.string pr,.string x,.string y,.string z] 325)).alloc (.cells (cH 0 (fun _=>⟨#[]⟩) (fun _=>⟨#[]⟩)) 369))
 rw[←db]
 clear db Ba sM YZ
 obtain⟨mb,ms,Uz,CO,C8⟩:=hmw
 go_loopw [19] (fun iv wr=>∃(k n:Nat) (b:En.Bind) (X Y:Nat→ByteArray),k≤a.ak.length∧n≤n0+k∧iv=.int .i64 k∧B1 b n X Y∧wr.heap[w.heap.size]?=some (.cells (cH n X Y) 369 (0,0))∧Kb [w.heap.size] w0 wr∧En.fU (a.ak.drop k) ([x,y,z].drop k) b=R) (fun iv _=>a.ak.length-(intOf iv).toNat)
 case atStart=>exact⟨0,n0,b0,X0,Y0,Nat.zero_le _,Nat.le_refl _,rfl,bU,Uz,Kb.refl _ _,by simpa using hR⟩
 case round=>
  obtain⟨k,n,b,X,Y,IA,ZI,rfl,hb,ff,fK,hr⟩:=hrel
  have sO:Hid (En.fU (a.ak.drop k) ([x,y,z].drop k) b=R):=hr
  clear hr hR
  have cR:=fK.size
  have bF:wr.ownsRow 0 310 2 (.slice ad a.ak.length ac) a.ak.length (cf a.ak):=fK.row (ah ha mb) (fun q hq hm=>by
   simp only[List.mem_singleton]at hm
   have:=(World.ownsRow.lt ha q hq).2
   omega)
  have UN:wr.heap[w.heap.size+1+1]?=some (.cells #[.string pr,.string x,.string y,.string z] 325 (0,0)):=fK.heap CO (by simp only[List.mem_singleton];omega)
  have fZ:wr.heap[w.heap.size+1+1+1]?=some (.cells (cH 0 (fun _=>⟨#[]⟩) (fun _=>⟨#[]⟩)) 369 (0,0)):=fK.heap C8 (by simp only[List.mem_singleton];omega)
  have kE:Below w.heap.size w wr:=fK.aU mb (by omega) (fun i hi=>by simp at hi;omega)
  by_cases aG:k<a.ak.length
  · obtain⟨tg,rfl,lX,htc,vf⟩:=aD bF (by omega)
    obtain⟨y0,y1⟩:=fh a.ak k aG
    have d0:=vf _ _ y0
    have d1:=vf _ _ y1
    have AU:=HK.out _ (List.getElem_mem aG)
    rw[List.drop_eq_getElem_cons aG,Yo (by omega),C4]at sO
    generalize a.ak[k]=t at d0 d1 AU sO
    obtain⟨tk,tt⟩:=t
    simp only at d0 d1
    have f0:wr.cell? ⟨w.heap.size+1+1,1+k,none⟩=some (.string (Tv x y z k)):=by
     rw[cell_of_row _ _ _ _ _ _ UN]
     have:k=0∨k=1∨k=2:=by omega
     rcases this with rfl | rfl | rfl<;>rfl
    have iJ:∀W,Below wr.heap.size wr W→Calls Tryz.prog 286 #[.pointer (some ⟨w.heap.size,0,none⟩),.agg #[.int .i64 tk,.string tt]] W fun e w'=>e=.returned (.string (En.dQ (En.val b) ⟨tk,tt⟩))∧Below W.heap.size W w':=fun W hW=>C5 W w.heap.size n X Y b hb ⟨tk,tt⟩ AU (by rw[hW.block _ (by omega)];exact ff)
    generalize hv:En.dQ (En.val b) ⟨tk,tt⟩=v at iJ sO
    generalize Z9:Tv x y z k=nn at f0 sO
    have Hh:w.heap.size<wr.heap.size:=by omega
    have OE:w.heap.size+1+1<wr.heap.size:=by omega
    clear vf bF CO C8 Uz UN y0 y1 AU hv Z9
    by_cases heq:v=nn
    · have Sw:(v.toList==nn.toList)=true:=by rw[fi];simp[heq]
      rw[if_pos heq]at sO
      clear heq
      go_wp2_with (go_at_call 286;refine(iJ _ (by exact(Below.refl _ _).alloc (Nat.le_refl _) _)).mono ?_;rintro e w1 ⟨rfl,bq⟩;have fl:Below wr.heap.size wr w1:=((Below.refl _ _).alloc (Nat.le_refl _) _).trans (bq.mono (by simp));have f1:w1.cell? ⟨w.heap.size+1+1,1+k,none⟩=some (.string nn):=(fl.cell OE).trans f0;have kV:=fl.size;have TF:w.heap.size+1+1<w1.heap.size:=(by omega);clear bq iJ)
      go_roundw
      case rel=>
       refine⟨k+1,n,b,X,Y,by omega,by omega,by go_num,hb, ?_,fK.below fl,sO.out⟩
       rw[fl.block _ Hh]
       exact ff
      case measure=>simp[intOf];omega
    · have Sw:(v.toList==nn.toList)=false:=by rw[fi];simp[heq]
      rw[if_neg heq]at sO
      clear heq
      by_cases Ts:v=En.ee
      · have wM:v.toList.isEmpty=true:=by rw[Ts,Hp];rfl
        rw[if_pos Ts]at sO
        have HEM:Hid (v=En.ee):=Ts
        clear Ts
        have UT:∀W:World,Below (wr.alloc (.cells #[.int .i64 tk,.string tt] 310)).heap.size (wr.alloc (.cells #[.int .i64 tk,.string tt] 310)) W→W.cell? ⟨wr.heap.size,1,none⟩=some (.string tt):=fun W hW=>by
         have e:W.heap[wr.heap.size]?=some (.cells #[.int .i64 tk,.string tt] 310 (0,0)):=by rw[hW.block _ (by simp)];exact heap_alloc_new wr _
         rw[cell_of_row _ _ 1 _ _ _ e];rfl
        go_upto_region 10 with(go_at_call 286;refine(iJ _ (by exact(Below.refl _ _).alloc (Nat.le_refl _) _)).mono ?_;rintro e w1 ⟨rfl,bq⟩;have fl:Below wr.heap.size wr w1:=((Below.refl _ _).alloc (Nat.le_refl _) _).trans (bq.mono (by simp));have f1:w1.cell? ⟨w.heap.size+1+1,1+k,none⟩=some (.string nn):=(fl.cell OE).trans f0;have kV:=fl.size;have TF:w.heap.size+1+1<w1.heap.size:=(by omega);have lh:Hid (Below (wr.alloc (.cells #[.int .i64 tk,.string tt] 310)).heap.size (wr.alloc (.cells #[.int .i64 tk,.string tt] 310)) w1):=bq;clear bq iJ)
        have u1:w1.cell? ⟨wr.heap.size,1,none⟩=some (.string tt):=UT w1 lh.out
        have acB:w1.heap[w.heap.size]?=some (.cells (cH n X Y) 369 (0,0)):=by rw[fl.block _ Hh];exact ff
        have qZ:=fun W (hW:W.heap=w1.heap)=>QM W w.heap.size n X Y tt nn (by omega) (by rw[hW];exact acB)
        have agU:wr.heap.size<w1.heap.size:=by have:=lh.out.size;simp at this;omega
        clear lh UT
        go_region_with (go_at_call 287;refine(qZ _ (by rfl)).mono ?_;rintro e w2 ⟨rfl,Xq,Ot⟩)
        all_goals
         (go_wp2_with fail
          go_roundw
          case rel=>
           refine⟨k+1,n+1,_,_,_,by omega,by omega,by go_num,hb.snoc (by omega) tt nn,Xq,(fK.below fl).trans (Kb.YS Ot),sO.out⟩
          case measure=>simp[intOf];omega)
      · have wM:v.toList.isEmpty=false:=by rw[Bool.eq_false_iff];intro hc;rw[List.isEmpty_iff]at hc;exact Ts (Tb.toList_inj (by rw[hc,Hp]))
        rw[if_neg Ts]at sO
        clear Ts
        go_upto_region 7 with(go_at_call 286;refine(iJ _ (by exact(Below.refl _ _).alloc (Nat.le_refl _) _)).mono ?_;rintro e w1 ⟨rfl,bq⟩;have fl:Below wr.heap.size wr w1:=((Below.refl _ _).alloc (Nat.le_refl _) _).trans (bq.mono (by simp));have f1:w1.cell? ⟨w.heap.size+1+1,1+k,none⟩=some (.string nn):=(fl.cell OE).trans f0;have kV:=fl.size;have TF:w.heap.size+1+1<w1.heap.size:=(by omega);clear bq iJ)
        have j4:w1.heap[w.heap.size+1+1+1]?=some (.cells (cH 0 (fun _=>⟨#[]⟩) (fun _=>⟨#[]⟩)) 369 (0,0)):=by rw[fl.block _ (by omega)];exact fZ
        have tM:Hid (w1.heap[w.heap.size+1+1+1]?=some (.cells (cH 0 (fun _=>⟨#[]⟩) (fun _=>⟨#[]⟩)) 369 (0,0))):=j4
        have r0:w1.cell? ⟨w.heap.size+1+1+1,0,none⟩=some (.int .i64 0):=by rw[cell_of_row _ _ _ _ _ _ j4];rfl
        have r1:w1.cell? ⟨w.heap.size+1+1+1,1,none⟩=some (.string ⟨#[]⟩):=by rw[cell_of_row _ _ _ _ _ _ j4];rfl
        have r2:w1.cell? ⟨w.heap.size+1+1+1,2,none⟩=some (.string ⟨#[]⟩):=by rw[cell_of_row _ _ _ _ _ _ j4];rfl
        have r3:w1.cell? ⟨w.heap.size+1+1+1,3,none⟩=some (.string ⟨#[]⟩):=by rw[cell_of_row _ _ _ _ _ _ j4];rfl
        have r4:w1.cell? ⟨w.heap.size+1+1+1,4,none⟩=some (.string ⟨#[]⟩):=by rw[cell_of_row _ _ _ _ _ _ j4];rfl
        have r5:w1.cell? ⟨w.heap.size+1+1+1,5,none⟩=some (.string ⟨#[]⟩):=by rw[cell_of_row _ _ _ _ _ _ j4];rfl
        have r6:w1.cell? ⟨w.heap.size+1+1+1,6,none⟩=some (.string ⟨#[]⟩):=by rw[cell_of_row _ _ _ _ _ _ j4];rfl
        have r7:w1.cell? ⟨w.heap.size+1+1+1,7,none⟩=some (.string ⟨#[]⟩):=by rw[cell_of_row _ _ _ _ _ _ j4];rfl
        have r8:w1.cell? ⟨w.heap.size+1+1+1,8,none⟩=some (.string ⟨#[]⟩):=by rw[cell_of_row _ _ _ _ _ _ j4];rfl
        have r9:w1.cell? ⟨w.heap.size+1+1+1,9,none⟩=some (.string ⟨#[]⟩):=by rw[cell_of_row _ _ _ _ _ _ j4];rfl
        have r10:w1.cell? ⟨w.heap.size+1+1+1,10,none⟩=some (.string ⟨#[]⟩):=by rw[cell_of_row _ _ _ _ _ _ j4];rfl
        have r11:w1.cell? ⟨w.heap.size+1+1+1,11,none⟩=some (.string ⟨#[]⟩):=by rw[cell_of_row _ _ _ _ _ _ j4];rfl
        have r12:w1.cell? ⟨w.heap.size+1+1+1,12,none⟩=some (.string ⟨#[]⟩):=by rw[cell_of_row _ _ _ _ _ _ j4];rfl
        have rf:∀o,w1.frozen? ⟨w.heap.size+1+1+1,o,none⟩=false:=fun o=>by simp[World.frozen?,j4]
        have adU:w.heap.size+1+1+1<w1.heap.size:=by omega
        have abr:Below w.heap.size w w1:=kE.trans (fl.mono (by omega))
        clear j4 fZ
        go_wp2_with fail
        change bodyPost Tryz.prog _ _ _ _ (Gq w1 (w.heap.size+1+1+1) 0 (fun _=>⟨#[]⟩) (fun _=>⟨#[]⟩))
        obtain⟨hu,Pc⟩:=tp (n:=0) (X:=fun _=>⟨#[]⟩) (Y:=fun _=>⟨#[]⟩) tM.out
        generalize Gq w1 (w.heap.size+1+1+1) 0 (fun _=>⟨#[]⟩) (fun _=>⟨#[]⟩)=wz at hu Pc ⊢
        have Qm:Below w.heap.size w wz:=Pc.aU abr (by omega) (fun i hi=>by simp at hi;omega)
        have zc:=ag hu
        have hwz:=lt_of_heap hu
        refine bodyPost_ret (v:=.tuple #[.agg (cH 0 (fun _=>⟨#[]⟩) (fun _=>⟨#[]⟩)),.bool false]) ?_ rfl ⟨Qm,.inl ⟨sO.out.symm,rfl⟩⟩
        unfold cH at zc ⊢
        simp[results,Tryz.results266,go_sem,zc]
  · have e1:a.ak.drop k=[]:=List.drop_of_length_le (by omega)
    have HF:Hid (R=some b):=by rw[←sO.out,e1];rfl
    have q0:wr.cell? ⟨w.heap.size,0,none⟩=some (.int .i64 n):=by rw[cell_of_row _ _ _ _ _ _ ff];rfl
    have q1:wr.cell? ⟨w.heap.size,1,none⟩=some (.string (X 0)):=by rw[cell_of_row _ _ _ _ _ _ ff];rfl
    have q2:wr.cell? ⟨w.heap.size,2,none⟩=some (.string (Y 0)):=by rw[cell_of_row _ _ _ _ _ _ ff];rfl
    have q3:wr.cell? ⟨w.heap.size,3,none⟩=some (.string (X 1)):=by rw[cell_of_row _ _ _ _ _ _ ff];rfl
    have q4:wr.cell? ⟨w.heap.size,4,none⟩=some (.string (Y 1)):=by rw[cell_of_row _ _ _ _ _ _ ff];rfl
    have q5:wr.cell? ⟨w.heap.size,5,none⟩=some (.string (X 2)):=by rw[cell_of_row _ _ _ _ _ _ ff];rfl
    have q6:wr.cell? ⟨w.heap.size,6,none⟩=some (.string (Y 2)):=by rw[cell_of_row _ _ _ _ _ _ ff];rfl
    have q7:wr.cell? ⟨w.heap.size,7,none⟩=some (.string (X 3)):=by rw[cell_of_row _ _ _ _ _ _ ff];rfl
    have q8:wr.cell? ⟨w.heap.size,8,none⟩=some (.string (Y 3)):=by rw[cell_of_row _ _ _ _ _ _ ff];rfl
    have q9:wr.cell? ⟨w.heap.size,9,none⟩=some (.string (X 4)):=by rw[cell_of_row _ _ _ _ _ _ ff];rfl
    have Wk:wr.cell? ⟨w.heap.size,10,none⟩=some (.string (Y 4)):=by rw[cell_of_row _ _ _ _ _ _ ff];rfl
    have V4:wr.cell? ⟨w.heap.size,11,none⟩=some (.string (X 5)):=by rw[cell_of_row _ _ _ _ _ _ ff];rfl
    have VF:wr.cell? ⟨w.heap.size,12,none⟩=some (.string (Y 5)):=by rw[cell_of_row _ _ _ _ _ _ ff];rfl
    have Hh:w.heap.size<wr.heap.size:=by omega
    have adU:w.heap.size+1+1+1<wr.heap.size:=by omega
    have r0:wr.cell? ⟨w.heap.size+1+1+1,0,none⟩=some (.int .i64 0):=by rw[cell_of_row _ _ _ _ _ _ fZ];rfl
    have r1:wr.cell? ⟨w.heap.size+1+1+1,1,none⟩=some (.string ⟨#[]⟩):=by rw[cell_of_row _ _ _ _ _ _ fZ];rfl
    have r2:wr.cell? ⟨w.heap.size+1+1+1,2,none⟩=some (.string ⟨#[]⟩):=by rw[cell_of_row _ _ _ _ _ _ fZ];rfl
    have r3:wr.cell? ⟨w.heap.size+1+1+1,3,none⟩=some (.string ⟨#[]⟩):=by rw[cell_of_row _ _ _ _ _ _ fZ];rfl
    have r4:wr.cell? ⟨w.heap.size+1+1+1,4,none⟩=some (.string ⟨#[]⟩):=by rw[cell_of_row _ _ _ _ _ _ fZ];rfl
    have r5:wr.cell? ⟨w.heap.size+1+1+1,5,none⟩=some (.string ⟨#[]⟩):=by rw[cell_of_row _ _ _ _ _ _ fZ];rfl
    have r6:wr.cell? ⟨w.heap.size+1+1+1,6,none⟩=some (.string ⟨#[]⟩):=by rw[cell_of_row _ _ _ _ _ _ fZ];rfl
    have r7:wr.cell? ⟨w.heap.size+1+1+1,7,none⟩=some (.string ⟨#[]⟩):=by rw[cell_of_row _ _ _ _ _ _ fZ];rfl
    have r8:wr.cell? ⟨w.heap.size+1+1+1,8,none⟩=some (.string ⟨#[]⟩):=by rw[cell_of_row _ _ _ _ _ _ fZ];rfl
    have r9:wr.cell? ⟨w.heap.size+1+1+1,9,none⟩=some (.string ⟨#[]⟩):=by rw[cell_of_row _ _ _ _ _ _ fZ];rfl
    have r10:wr.cell? ⟨w.heap.size+1+1+1,10,none⟩=some (.string ⟨#[]⟩):=by rw[cell_of_row _ _ _ _ _ _ fZ];rfl
    have r11:wr.cell? ⟨w.heap.size+1+1+1,11,none⟩=some (.string ⟨#[]⟩):=by rw[cell_of_row _ _ _ _ _ _ fZ];rfl
    have r12:wr.cell? ⟨w.heap.size+1+1+1,12,none⟩=some (.string ⟨#[]⟩):=by rw[cell_of_row _ _ _ _ _ _ fZ];rfl
    have rf:∀o,wr.frozen? ⟨w.heap.size+1+1+1,o,none⟩=false:=fun o=>by simp[World.frozen?,fZ]
    have tM:Hid (wr.heap[w.heap.size+1+1+1]?=some (.cells (cH 0 (fun _=>⟨#[]⟩) (fun _=>⟨#[]⟩)) 369 (0,0))):=fZ
    clear sO e1 UN bF ff Uz CO C8 fZ
    go_wp2_with fail
    change bodyPost Tryz.prog _ _ _ _ (Gq wr (w.heap.size+1+1+1) n X Y)
    obtain⟨hu,Pc⟩:=tp (n:=n) (X:=X) (Y:=Y) tM.out
    generalize Gq wr (w.heap.size+1+1+1) n X Y=wz at hu Pc ⊢
    have Qm:Below w.heap.size w wz:=Pc.aU kE (by omega) (fun i hi=>by simp at hi;omega)
    have z:=ag hu
    have hwz:=lt_of_heap hu
    refine bodyPost_ret (v:=.tuple #[.agg (cH n X Y),.bool true]) ?_ rfl ⟨Qm,.inr ⟨b,n,X,Y,HF.out,hb,by omega,rfl⟩⟩
    unfold cH at z ⊢
    simp[results,Tryz.results266,go_sem,z]
theorem KY(w:World)(b0:En.Bind)(n0:Nat)(X0 Y0:Nat→ByteArray)(bU:B1 b0 n0 X0 Y0)(a:Ax.Atom)(ad:Option Addr)(ac:Nat)(pr x y z:ByteArray)
 (ha:MA.ok w (a,.slice ad a.ak.length ac))(hk:∀t,t∈a.ak→t.kind=0∨t.kind=1)(h3:a.ak.length≤3)(hn:n0+a.ak.length≤6):
 Calls Tryz.prog 266 #[.agg (cH n0 X0 Y0),.agg #[.int .i64 a.at_,.string a.pred,.slice ad a.ak.length ac],.agg #[.string pr,.string x,.string y,.string z]] w (O2 w (En.dt a (pr,[x,y,z]) b0) (n0+a.ak.length)):=by
 unfold En.dt
 by_cases hp:a.pred=pr
 · rw[if_pos hp]
   exact Jl w b0 n0 X0 Y0 bU a ad ac pr x y z hp ha hk h3 hn
 · rw[if_neg hp]
   exact L7 w b0 n0 X0 Y0 a ad ac _ pr x y z hp
end
/- Package follow: fact. -/
section
open Go.RowKit
open Go.Sort (grow)
def fw(f:Nat→ByteArray)(k:Nat):Nat→ByteArray:=fun i=>if i<k then f i else ⟨#[]⟩
def kZ(pr:ByteArray)(F:Nat→ByteArray):Array Value:=#[.string pr,.string (F 0),.string (F 1),.string (F 2)]
theorem LO{pr:ByteArray}{f:Nat→ByteArray}{k:Nat}(hk:k<3){v:ByteArray}(hv:f k=v):(kZ pr (fw f k)).setIfInBounds (1+k) (.string v)=kZ pr (fw f (k+1)):=by
 subst hv
 have:k=0∨k=1∨k=2:=by omega
 rcases this with rfl | rfl | rfl<;>rfl
theorem Nj{pr:ByteArray}{F:Nat→ByteArray}{k:Nat}(hk:k<3):(kZ pr F)[1+k]?=some (.string (F k)):=by
 have:k=0∨k=1∨k=2:=by omega
 rcases this with rfl | rfl | rfl<;>rfl
def J6(ts:List Ax.Term)(s:ByteArray→ByteArray):Nat→ByteArray:=fun i=>((ts[i]?).map (En.dQ s)).getD ⟨#[]⟩
theorem LW(pr:ByteArray)(ts:List Ax.Term)(s:ByteArray→ByteArray)(h:ts.length≤3):kZ pr (fw (J6 ts s) ts.length)=#[.string pr,.string ((En.pad (ts.map (En.dQ s)))[0]?.getD ⟨#[]⟩),.string ((En.pad (ts.map (En.dQ s)))[1]?.getD ⟨#[]⟩),.string ((En.pad (ts.map (En.dQ s)))[2]?.getD ⟨#[]⟩)]:=by
 match ts,h with
 | [],_=>rfl
 | [_],_=>rfl
 | [_,_],_=>rfl
 | [_,_,_],_=>rfl
theorem KC{l:List ByteArray}(h:l.length≤3):∃a b c,En.pad l=[a,b,c]:=by
 match l,h with
 | [],_=>exact⟨_,_,_,rfl⟩
 | [_],_=>exact⟨_,_,_,rfl⟩
 | [_,_],_=>exact⟨_,_,_,rfl⟩
 | [_,_,_],_=>exact⟨_,_,_,rfl⟩
def NP(w:World)(r:Nat)(pr:ByteArray)(F:Nat→ByteArray):World:=(((w.setCell ⟨r,0,none⟩ (.string pr)).setCell ⟨r,1,none⟩ (.string (F 0))).setCell ⟨r,2,none⟩ (.string (F 1))).setCell ⟨r,3,none⟩ (.string (F 2))
theorem J4{w:World}{r:Nat}{q pr:ByteArray}{G F:Nat→ByteArray}{T:TypeId}(h:w.heap[r]?=some (.cells (kZ q G) T (0,0))):(NP w r pr F).heap[r]?=some (.cells (kZ pr F) T (0,0))∧Kb [r] w (NP w r pr F):=by
 have h0:=aw _ h 0 (.string pr)
 have h1:=aw _ h0 1 (.string (F 0))
 have h2:=aw _ h1 2 (.string (F 1))
 have h3:=aw _ h2 3 (.string (F 2))
 refine⟨by simpa [NP,kZ]using h3, ?_⟩
 exact(((Kb.setCell w ⟨r,0,none⟩ (.string pr)).trans (Kb.setCell _ ⟨r,1,none⟩ (.string (F 0)))).trans (Kb.setCell _ ⟨r,2,none⟩ (.string (F 1)))).trans (Kb.setCell _ ⟨r,3,none⟩ (.string (F 2)))
theorem QD(w:World)(o1 o2 o3:Obj):Below w.heap.size w (((w.alloc o1).alloc o2).alloc o3)∧(((w.alloc o1).alloc o2).alloc o3).heap.size=w.heap.size+3∧(((w.alloc o1).alloc o2).alloc o3).heap[w.heap.size+1]?=some o2∧(((w.alloc o1).alloc o2).alloc o3).heap[w.heap.size+1+1]?=some o3:=by
 refine⟨(((Below.refl _ _).alloc (Nat.le_refl _) _).alloc (by simp) _).alloc (by simp;omega) _,by simp, ?_, ?_⟩
 · rw[Below.heap_alloc _ _ _ (by simp)]
   have:=heap_alloc_new (w.alloc o1) o2
   simpa using this
 · have:=heap_alloc_new ((w.alloc o1).alloc o2) o3
   simpa using this
theorem M4(w:World)(g n:Nat)(X Y:Nat→ByteArray)(b:En.Bind)(hb:B1 b n X Y)(hg:w.heap[g]?=some (.cells (cH n X Y) 369 (0,0)))(a:Ax.Atom)(ad:Option Addr)(ac:Nat)
 (ha:MA.ok w (a,.slice ad a.ak.length ac))(hk:∀t,t∈a.ak→t.kind=0∨t.kind=1)(h3:a.ak.length≤3):
 Calls Tryz.prog 265 #[.pointer (some ⟨g,0,none⟩),.agg #[.int .i64 a.at_,.string a.pred,.slice ad a.ak.length ac]] w fun e w'=>Below w.heap.size w w'∧e=.returned (.agg (kZ a.pred (fw (J6 a.ak (En.val b)) a.ak.length))):=by
 have mO:=lt_of_heap hg
 unfold MA.ok at ha
 simp only at ha
 have hle:=be ha
 have HK:Hid (∀t,t∈a.ak→t.kind=0∨t.kind=1):=hk
 clear hk
 generalize hf:J6 a.ak (En.val b)=f
 have HF:Hid (J6 a.ak (En.val b)=f):=hf
 clear hf
 go_enter Tryz.func265,Tryz.ntmps265
 go_wp2_with fail
 change Code.wp Tryz.prog _ _ _ (((w.alloc (.cells #[.int .i64 a.at_,.string a.pred,.slice ad a.ak.length ac] 219)).alloc (.cells (kZ ⟨#[]⟩ (fw f 0)) 325)).alloc (.cells (kZ a.pred (fw f 0)) 325))
 obtain⟨mb,ms,C8,CO⟩:=QD w (.cells #[.int .i64 a.at_,.string a.pred,.slice ad a.ak.length ac] 219) (.cells (kZ ⟨#[]⟩ (fw f 0)) 325) (.cells (kZ a.pred (fw f 0)) 325)
 generalize (((w.alloc (.cells #[.int .i64 a.at_,.string a.pred,.slice ad a.ak.length ac] 219)).alloc (.cells (kZ ⟨#[]⟩ (fw f 0)) 325)).alloc (.cells (kZ a.pred (fw f 0)) 325))=w0 at mb ms C8 CO ⊢
 have mJ:w0.heap[g]?=some (.cells (cH n X Y) 369 (0,0)):=by rw[mb.block _ mO];exact hg
 go_loopw [14] (fun iv wr=>∃k:Nat,k≤a.ak.length∧iv=.int .i64 k∧wr.heap[w.heap.size+1+1]?=some (.cells (kZ a.pred (fw f k)) 325 (0,0))∧Kb [w.heap.size+1+1] w0 wr) (fun iv _=>a.ak.length-(intOf iv).toNat)
 case atStart=>exact⟨0,Nat.zero_le _,rfl,CO,Kb.refl _ _⟩
 case round=>
  obtain⟨k,IA,rfl,Pt,fK⟩:=hrel
  have cR:=fK.size
  have bF:wr.ownsRow 0 310 2 (.slice ad a.ak.length ac) a.ak.length (cf a.ak):=fK.row (ah ha mb) (fun q hq hm=>by
   simp only[List.mem_singleton]at hm
   have:=(World.ownsRow.lt ha q hq).2
   omega)
  have fZ:wr.heap[w.heap.size+1]?=some (.cells (kZ ⟨#[]⟩ (fw f 0)) 325 (0,0)):=fK.heap C8 (by simp only[List.mem_singleton];omega)
  have zZ:wr.heap[g]?=some (.cells (cH n X Y) 369 (0,0)):=fK.heap mJ (by simp only[List.mem_singleton];omega)
  have kE:Below w.heap.size w wr:=fK.aU mb (by omega) (fun i hi=>by simp at hi;omega)
  have OE:w.heap.size+1+1<wr.heap.size:=by omega
  by_cases aG:k<a.ak.length
  · obtain⟨tg,rfl,lX,htc,vf⟩:=aD bF (by omega)
    obtain⟨y0,y1⟩:=fh a.ak k aG
    have d0:=vf _ _ y0
    have d1:=vf _ _ y1
    have AU:=HK.out _ (List.getElem_mem aG)
    have hfk:f k=En.dQ (En.val b) a.ak[k]:=by rw[←HF.out];simp[J6,List.getElem?_eq_getElem aG]
    generalize a.ak[k]=t at d0 d1 AU hfk
    obtain⟨tk,tt⟩:=t
    simp only at d0 d1
    have iJ:∀W,Below wr.heap.size wr W→Calls Tryz.prog 286 #[.pointer (some ⟨g,0,none⟩),.agg #[.int .i64 tk,.string tt]] W fun e w'=>e=.returned (.string (En.dQ (En.val b) ⟨tk,tt⟩))∧Below W.heap.size W w':=fun W hW=>C5 W g n X Y b hb ⟨tk,tt⟩ AU (by rw[hW.block _ (by omega)];exact zZ)
    rw[←hfk]at iJ
    generalize hv:f k=v at iJ
    have HV:Hid (f k=v):=hv
    clear vf bF CO C8 y0 y1 AU hfk zZ hg mJ hv fZ
    go_wp2_with (go_at_call 286;refine(iJ _ (by exact(Below.refl _ _).alloc (Nat.le_refl _) _)).mono ?_;rintro e w1 ⟨rfl,bq⟩;have fl:Below wr.heap.size wr w1:=((Below.refl _ _).alloc (Nat.le_refl _) _).trans (bq.mono (by simp));have Ql:w1.heap[w.heap.size+1+1]?=some (.cells (kZ a.pred (fw f k)) 325 (0,0)):=(by rw[fl.block _ OE];exact Pt);have kV:=fl.size;have TF:w.heap.size+1+1<w1.heap.size:=(by omega);have fx:(w1.cell? ⟨w.heap.size+1+1,1+k,none⟩)=some (.string (fw f k k)):=(by rw[cell_of_row _ _ _ _ _ _ Ql];exact Nj (by omega));have fz:w1.frozen? ⟨w.heap.size+1+1,1+k,none⟩=false:=(by simp[World.frozen?,Ql]);have aa8:Hid (w1.heap[w.heap.size+1+1]?=some (.cells (kZ a.pred (fw f k)) 325 (0,0))):=Ql;clear bq iJ Ql)
    have qZ:=aw w1 aa8.out (1+k) (.string v)
    rw[LO (by omega) HV.out]at qZ
    go_roundw
    case rel=>exact⟨k+1,by omega,by go_num,qZ,(fK.below fl).trans (Kb.setCell w1 ⟨w.heap.size+1+1,1+k,none⟩ (.string v))⟩
    case measure=>simp[intOf];omega
  · have abk:k=a.ak.length:=by omega
    subst abk
    have q0:wr.cell? ⟨w.heap.size+1+1,0,none⟩=some (.string a.pred):=by rw[cell_of_row _ _ _ _ _ _ Pt];rfl
    have q1:wr.cell? ⟨w.heap.size+1+1,1,none⟩=some (.string (fw f a.ak.length 0)):=by rw[cell_of_row _ _ _ _ _ _ Pt];rfl
    have q2:wr.cell? ⟨w.heap.size+1+1,2,none⟩=some (.string (fw f a.ak.length 1)):=by rw[cell_of_row _ _ _ _ _ _ Pt];rfl
    have q3:wr.cell? ⟨w.heap.size+1+1,3,none⟩=some (.string (fw f a.ak.length 2)):=by rw[cell_of_row _ _ _ _ _ _ Pt];rfl
    have r0:wr.cell? ⟨w.heap.size+1,0,none⟩=some (.string ⟨#[]⟩):=by rw[cell_of_row _ _ _ _ _ _ fZ];rfl
    have r1:wr.cell? ⟨w.heap.size+1,1,none⟩=some (.string ⟨#[]⟩):=by rw[cell_of_row _ _ _ _ _ _ fZ];rfl
    have r2:wr.cell? ⟨w.heap.size+1,2,none⟩=some (.string ⟨#[]⟩):=by rw[cell_of_row _ _ _ _ _ _ fZ];rfl
    have r3:wr.cell? ⟨w.heap.size+1,3,none⟩=some (.string ⟨#[]⟩):=by rw[cell_of_row _ _ _ _ _ _ fZ];rfl
    have rf:∀o,wr.frozen? ⟨w.heap.size+1,o,none⟩=false:=fun o=>by simp[World.frozen?,fZ]
    have tM:Hid (wr.heap[w.heap.size+1]?=some (.cells (kZ ⟨#[]⟩ (fw f 0)) 325 (0,0))):=fZ
    have YH:w.heap.size+1<wr.heap.size:=by omega
    clear Pt bF CO C8 fZ zZ hg mJ
    go_wp2_with fail
    change bodyPost Tryz.prog _ _ _ _ (NP wr (w.heap.size+1) a.pred (fw f a.ak.length))
    obtain⟨hu,Pc⟩:=J4 (pr:=a.pred) (F:=fw f a.ak.length) tM.out
    generalize NP wr (w.heap.size+1) a.pred (fw f a.ak.length)=wz at hu Pc ⊢
    have Qm:Below w.heap.size w wz:=Pc.aU kE (by omega) (fun i hi=>by simp at hi;omega)
    have zc:=ag hu
    have hwz:=lt_of_heap hu
    refine bodyPost_ret (v:=.agg (kZ a.pred (fw f a.ak.length))) ?_ rfl ⟨Qm,rfl⟩
    unfold kZ at zc ⊢
    simp[results,Tryz.results265,go_sem,zc]
end
end Go.Proofs.YtdmicblafmhflaaGreatDoor
