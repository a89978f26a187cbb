import PyProof.Rows.All
import Wide.All
import OpenK.AllK
import Wide.FinOn
import Lean
import PyProof.EqAt
import PyProof.EqKinds
import PyProof.TupleCall
import PySem.Str
import PyProof.ZipIter
import PyProof.Draws
import PyProof.StrLawsChain
import PyProof.StrLawsTight
import KE.KIntText
import OpenK.KTop
import PyProof.StationsW
import PyProof.ExcClass2
import PyProof.ExcBaseAll.ValueError
import PyProof.Rows.Catch
import OpenK.KOwn
import KE.KTryMore
import KE.FramesApart
import PyProof.RulesAs
import PyProof.NsDelKeeps
import PyProof.ExcArgs
import PyProof.Rows.SortStr
import KE.KDictSum
import PyProof.DictWalks
import PyProof.IsiH_list
import KE.KDictOf
import PyProof.NeKinds
import PyProof.StrCalls6
import PyProof.FString
import KE.KUnpack
import KE.KItemsList
import KE.KRevIter
import KE.IntBitsLaws
import PyProof.FString5
import PyProof.TupleKey
import Wide.Seal
import PyProof.Rows.SortShellK
import PyProof.DictRoadsH
import PyProof.Rows.SortRev
import PyProof.Rows.SetFrom
import PyProof.FactsAll.set_2
import PyProof.FactsAll.set_1
import PyProof.Rows.SortShell
import PyProof.Tail
import KE.KMinKey
import PyProof.ExcArgsOwn
import PyProof.ExcAttrAll.ValueError
import KE.KRevSl
import PyProof.FactsAll.dict_itemiterator_1
import PyProof.TupleOfSeq
import PyProof.WalksMore
import KE.KDictLaws
import PyProof.Rows.Range3
import PyProof.DictValues
import KE.KDictList
import PySem.Challenge.RW_askwright_k43_whole_what_is_shown_is_so
local macro_rules|`(↑$x)=>`(($x).length)
local macro_rules|`(tactic|simp! [$x,*] $[$l:location]?)=>`(tactic|simp only [$x,*] $[$l]?)|`(tactic|dsimp! [$x,*] $[$l:location]?)=>`(tactic|dsimp only [$x,*] $[$l]?)
set_option hygiene false in
local macro_rules | `(command| #print $s:str) => do { let mut a := #[]; let mut n := 0; let mut k := 0; for c in s.getString.toList do { let v := c.toNat; n := n*64+(if v<58 then v-48 else if v<91 then v-55 else if v==95 then 62 else if v==126 then 63 else v-61); k := k+1; if k%11==0 then { a := a.push (Lean.mkIdent (Lean.Name.mkSimple ("tw"++toString n))); n := 0 } }; `(structure PySem.W.Fast:Prop where ($a*:True)) }
set_option maxRecDepth 100000 in
#print "7ryvBWyQHiWAIZcdOCc~G35hlKDyo3uhGDBPk_MbiRH3CPk2lrVW9q5AV4dT1IfWcF3XgYceO8qfJ5924LUTV0T_Dsw~nG7pQCWABhqRpQz7Iu0GWdl9dg5nV8D609MR_AFl9ilz5VdikEnEImKIcVn3Jq95Cr1hnCLfk3Fnbilk~0PK0OPoOG8Unz7B2R3xsOTsjM9lB35gZ5GJTFpWp2mD~HAT85DQmyuhhBODYgmvro_vnJDyxG~zblw0b82Yx6u_ag1LADmsgaNOsBe2VGxrDhNw3C30~jWR2W1JC5RVDn6DGFtM0Q_Ukc9XEXfBRkSLJImubh0HwUfpREN~R5m_VLx8vxj~FYULefhFi~NF1wGU1~Vo686CTcq6ytZMV66_775FfEoK7xolgPuVZ3I3VWcKvrwNe38k4dCwLtmQf7aVFikvExS06rLgzphUjDT5MLWlpBCyD0Ew0ETcAaTrL6hONCwMMcKKDQDbwrBPBXm6SJeXr_gPTkFpSumqnYtjV8rNtW23DtpL5f3LbaKCnl0CLe5DPP7QNd6oACINFudvZ3p5fRefWHTm01EJt_lavPDBjWlS2PHjeO4uL6NoeX2_LF2mYJuVSsVk6oZVuE6TWV57u45Sy78vK82ca8jNpYkhf7pKMQsxM_iRC8zNhGVQoNv6AiU~Zsng0XARxSZuaiTZA7duknUN5fDc0FHgrceia36DGe0mxGeX1fC3vpHeWemlR4ZR4D1AOitrEegGig7nvii3wqkxrXRL0K0J06OXPlAMOCnznn2Sqic62380H57mAYE2jjSYuhUym575mdibgc~fQ5bAKcWXNKT2DYS~KKV4hE953Cp0QHMD2yE0W3PevdjHI0k9hukZXIN9DZ1xS_L~p_t9s8_ObD9~2sE6FjrCoHPU13KctsVwnUSB884u14356weCn27X0ltyNoAqbPeu6uDrHAsdSyELV2026R1_S4UrdpoEkuVGauRWxFDEVjqa9QUQy6p13weXfA4~60oIay6hodq1YtMpif~UsFBrguoD_e1MU8ZnM8nQs6k0E3wehliGtL63lZe_rVi35pFHUlKIVlaeUC_Lwxoo96NsC392QT_dBIv7IMiH3EsfvS84JRK5HSc5A5hDzBxfsJQm5kaGvymme3aC1FHgxtlCpe8Xup4CjNuoHDhuC3D8WiRA0EfUgcKs5M9DreO~E_ZHWTCSkfTVZ421zFcrKvPC3vrA2AlRPpaOdY57P5R6rMRQUH63E9ZEBRua9CAcX~IpJoSfCjBISvPBlL6AkEjJFOxd7k26ksqQRuN~I69hqos0AcFZ4zdVTEqnypMFoN02I4mqQB8rj0chFmuhi2eLR445Vm3K0_7qdaT0Ii26AiDUNIQ6Do8GcNviTecYdFHfHMzZz0kb5qjQUtLm~gI8kU3K89NKK63SovlCfwU694OWSGdzzHaFB1kLwDkfJzd2bcSmk6ueHQ0fI4Vz4i_48DQ3cOTKavDL2pxMMXcRmyDBQa15d3hm2r6Bgrklc2iXkAXf~LONP~x63xDUGeUbUzL7_OtoZDofR52uwGwIwU_D_60B3mBrHznY02KqqBIVePm2FRW~b237N99b7vJLr6vYt4mIyMoSKNES9RltH2TcFsOEeEK9g9cCf9BJIqk43CJDkCu~Kq5pEzYv2C2h9dW~LzQB~QplnAlfJm4I3XVSA93daExyDzl7n7JG4Sjdl5oXdp9E9LLTFwKuYMD0_F0VUNF2Q5MUllN3nETe7xtCl5H_OyXAgStAvW2gq93ot8H4sZRuY9B7ZOJX4zG38WeLlEIX6xW7LyD07M~7hd8L_8fvNRKEf7XL~ocZm9Nn1mpenmJ80aa3ejbRZjllTn5GAku61w~iC1EDcI9oyQfWDjZ4hgmppSj00QogLuchto8aBlZXkXflV7Uv3s3SahJFDJKtsMXa1g01GFwBDY4GCIFjsSHpcKItVBY267RWGR~XFFsbipH1~mP07rNX7VAZUH3lJUnb~Fnm~1pqQGGqrDSuCJgjfXlLSJd7Io~D4jvXMDAjz4d5eainC2jaWsdZD3eT5AFfvSC04Fb9Mc~w9DL50ZCD77qeTqShpDzTps9mq6gJCjy902OONUK1E8Pv6xKuM1DBNB4CZMUgoAGVGe9~L_Kz7IEsGx0BGDrC6ychEaiqt_5cBsP1suFIf4Ro6q132SN1DTOpN8lMcXw0OWVEPSix0l25gWG1FuWyE2M7oxva2kpO30CHwDhYJAJ2WAYdgg3LhR5EMy9~AmdWS1EAt396XEoaC~V0OnjogrlABvX5Dh5vcMAZ7iRAQxcx824EOSF7PGJU4RHbbpWESJPCcw6425fFac2f9cUa8zLgr5FHF2FVba3CBtWWiCCbvQQAjPkUaVnD6S4yHwESlnEMABUkJgjCKIS4CL~5oNEYlhi6DsISKwzffu8ik8z831Nv6FSU4H9J3xWE577hxhcyqIJEIlIWhVMDK92lnslhPQomPFHG289ST2mJEXmVHzWcQaPDgPR~UoLGhF8ramBI_uY~65jMg7hdmRj0BZtAXB9vA1UBt5tE4xzA1N7HN1NNjp70yEx5~eLMXeIsFeel8tiHbln0ZXgNMAMrAV782pEVcS1~z4AFfPpcGKpk9h61Wxml1nk16PVo8Zdhc42OSjyH_lqFyF2p1kGo3ValF~QwBktbFs82LGQTdLctVM0Dt_N0iQiiE7BM2q89EHU~C2NqAaXgmhF0Fd7KcgLvyyCVDI9lgoS955gi4VuY42DhAHDK4lpGc8TCD65wTld41J4UloHoNCCpkD_HWxrSMF2V4n49eApigvr7tzBydiyHUF4l3KNBX~wCJ7BURoNvASlW46ZjPENIVuNEFv4ykY7KCWEm_03KaDaBN7rGP31niCiE5nD78_EdPJECKqg~4aViP2FyjXb2kcy157S6fl74kdRq7WGAsXoVKZW3BvvSoJi4io0U2EjBl5~Hb5dLSz8MbPT20Yx9ToBRb6o30_~K~fmq7E37~6ED3DQ4U4hVNsyi56D_FCkImzWs5ymFMq0NvDYXmN14jNUb5joeE5AZrN3JTqFA51_egGbqKrl9vtqsaSjTfI5fUZW_4ifQ3C3yhHOceSGp0~qkXjb~0xn53jW~xIyXh05hEWK0Hmykv7m_fIohnbAuBM3iz9bkdVlBOuh8uh7vTmDUYZjot93As0aePOlCO8iQE87iQOGUlIB0L2VY_4Hz1s3TIH5lfeMwv24RPig0GNV5B3cjY1rT2kxAHgfHm3~U3453I_Nn9iEE30SvPzkmnfUy8tI1Bv1hPkT9BsRKbK6jFmAQP~5uhlE5TCBag1EKt_ZQFlah_3l7zLk37XY4Wq5yBr8owmzfuODKkAx_QzvRWmYa8hulA~hblUN5m9vNwqTxAo8Lk2EDSeJFF6UbPV0s0nv40FayWuArKn40dYIcXqiPDXDLWRwPMoQeJ2IiybUfUbY41lT0v8GfweL43iljtj3MFr4aVWaxV6thAEjQOp2BslTpDpfPKwsKiak1eORA7BzLbr2lzr1LUJxPi1b8heMRrwkt87feu19i3mlA18oSuIfAzdB6xvp4EgPqm4EkIHt2~eSz59jbEkVzmrVEvFENBGYLvmDmwX28O9NILCQczTunmlM70tAhkO~ys5fD_z_JNMDqwfAxtj9d5vP6J0E7zkP2zjugC2bHkkr8_Cw9lkww~9LskE79sMIjNjC_XBOgL51UP~ra21FOqIlkTNZC1U1A5jbKTZ4zK8w5IjZQ3BEkIBlDokkBFi1uvVzk7tKAIyfx6BwnbiACyImAW3suz0vreYZRTPfL46jM__LXApH5qGIno_dcz423GgGmhf7Gz1PuDiafoxFZDbkf0UQHGg0Bdk9Wz4uNWb76TdKs4hsXa7aiSkFkXhDo4UXroAcPbPw5Za5toe7u_O9YMaF7ylfqxFxngAajoCbM6~MtZIBUAHWEl_joZfBhz30psp4BKkDhV76kibJ1S1x86opghM5atxw0fZZxyOu2V19mxweykAsjT2CeqRFG2xxW0eUVg8g5JJa4jFc8ffwKh90T1k9c23t7cD2HPiPgznjI7hngMOo0eH0DZNe5QICvFZ9ZWgmSj~fNUB6MwihMuA8e6MpDTvP3we65QricfsUNUn7USyWTCPJ98Eo~cWnZ7i_l4PTt7Q~CL9S246jGUR3Vmh9xZvMoXr_CCEmfDWHu41O~5gB2kWXpHR83q5eZgKV_o59xHjT91~AXn8w47VEXVPTDDc8xy0ZGjCS2NFfzFlidYY0C9CSsgo0E88gWYBnSzMQ25T1t2xWRoLd09JUE3y8NTdEHpCA3YFa9y98gbWCBP13x8ydtan1Jdgm3AqGKq54Jd91vsoG35l3eI2~~_EJNAepFC~h1g_3XInk7jKH_vj8JaxC6qLI68yJUXCrQ7guKHhKkBvPztvKlaUp0IhxbQ~ZRvyA5fbTIQcgSeEHvQXk9asIH4kHaCS6nk6w7gFdHN1Phs11as1x19LZAc2MjHb9uGeNlEmW47Td8OyCEYPlpGE~F8tB9tV791IFlc89dHITo5K0p7i8e0qXBe6J8BrJYheDy3yFPe_Q216f9CAcmsrl1WWpO6kjAp~PQYKj5SP~PhF8oaUBogquAhxyi6DftpsOqN0pVEUz8Ivc8eW4CEZ_AkNnP4tFcpxrYN3XqZ6ETzrloKsJQBZT1485JMV~0EgRSHc9Nm9FsyVnNxvxrO93CI1qVBYQ38~T__PlEfAYBRKeNiPG5p19s~hqlUYHxJF9wx2Lnr8Y2Fhj5Kgd5qfn39w6BR_LVH_0LbRB_yg3VP4Wb2ofJcg3O7befAF4QB0o6YWfqaTPlAR1umOYbN8WiB0Ag6US1ah0eBQFs40H8Rnm3Ic~Hs8~x7vCDE1i2pHTU0A7Js0__wleZ6HLBEsoKgHoDEtlUlJx5Sl8NgJTjGkTB2FPsjJNkVLWO8dkBH_iNz~63iUcWU0Qk2pDuAuF8pIDtQ8DiM_BPSDv8Cr05AbXXqhh8Bbl0oXEyi7DL~r1OC7iWj3YZD07AudIk9DNMcGwDeM6FkVIMV1h0N18Hy3GaijOLZDhtcScGNrCc8fAWnvqMrIZ1b8_sFXi_AAFUFDNIQeEX1CnZt7aG7dgwCKhtFkrSHxSFsEeNlx9KPQ9RILN4FTe4z7O5bsE5eCP40pvJMJJqu5O8nui05IKNIw6TbclLEJzB3AkGiZ74p1k9Bu0JKPDAl9B3bD_RFFeLHGFLeQgj0kbto1LygUt5NFQN8GnfpLIz7cz9uHevih~d6GCpzhrE2Wfx~ChTGF~CS_hYEDEXmgjRNWpBSMhVX_FobHEc6iqFMEFSN5DdP9vRcle31GGnZECeK7v3zwdfKJrVil3Gnz0mLMNzKD30M11m4TK23mPbCpU7oObDU2yojFop~j3krC0zmXmsd5GeInhjmb70333BHaRcEfE9a9_XqqlOGwFGhIJQI6_yw51S_W~61Ed62bPEymmNhrbErYMJSE~LZV5cX42E7_Y_uBLSfar3DD180gS8jHkilli4WHLpoVoy3aFsMQhlgKmkI90aLUGtxFGp7w6xr~OgUuXCOwzVk~7rXf3ZWBvUQbnnr0QDXdGfBRfhDEo4ZMSQGD~4KwSiyvJWEgAe70yTcggMs0k6hvqqyqwYE0ijefa6WWBD4O4czx41kn53ut7xFsUpR1LpARC8RiSb1KaopREXwHB1As7PYi34cDAt8hZ7eVrkU7f_FWC37NEl8kNZeyha5bFF2~Cf_8CTHH3fEz3z9olyX5tlXItDcKOGB5DMAkFDICK2lXzJkKwfFz9kXFogG2g4k2dqbDUPhMDL0RNoULXr3sj"
set_option bootstrap.genMatcherCode false
set_option genSizeOf false
set_option compiler.extract_closed false
local macro_rules | `(tactic| trivial) => `(tactic| first | rfl | exact .inl rfl | exact .inr rfl | exact .inr (.inl rfl) | decide +kernel | (intro _; rfl) | omega | exact ⟨rfl,rfl,rfl,by decide +kernel,rfl,by decide +kernel,by decide +kernel⟩ | (intro _ _ _ _ _ _ us hl; rcases us with _|⟨_,_|⟨_,_|⟨_,_|⟨_,_|⟨_,_|⟨_,_⟩⟩⟩⟩⟩⟩ <;> first | rfl | cases hl) | (intro _ _ _ _ h; cases h; subst_vars; rfl))
set_option hygiene false in
local macro_rules | `(tactic| ac_rfl) => `(tactic| ((try dsimp only);first|assumption|exact Inv.tk (by assumption)|exact Nat.succ_pos _|exact Nat.lt_of_lt_of_le (Inv.tk (by assumption)) (by assumption)|exact Nat.add_pos_left (Inv.tk (by assumption)) _|omega))
local macro_rules | `(()) => `(by trivial)
local macro_rules | `(#[$f:ident,$n:num,$xs,*]) => do let h ← `(_); let b ← `(by trivial); let mut a := Array.replicate n.getNat h; for x in xs.getElems do { match x.raw.isNatLit? with | some k => a := a ++ Array.replicate k h | none => a := a.push (if x.raw.isOfKind ``Lean.Parser.Term.hole then b else x) }; `(@$f $a*)
local macro_rules | `(⟨$xs,*⟩) => do let h ← `(_); let r ← `(rfl); let mut a := #[]; let mut c := false; for x in xs.getElems do { match x.raw.isNatLit? with | some 0 => { a := (a.push h).push r; c := true } | some _ => { a := a.push r; c := true } | none => a := a.push x }; if c then `(⟨$a,*⟩) else Lean.Macro.throwUnsupported
set_option hygiene false
local macro_rules | `(#v[$xs,*]) => do let mut r ← `(qd); for x in xs.getElems.reverse do { r ← `(#[qb,5,$x,$r,_]) }; return r
local macro_rules | `(%[$xs,*|$k]) => do let mut r ← `(#[qe,3,$k]); for x in xs.getElems.reverse do { r ← `(#[qc,5,$x,$r]) }; return r
local macro_rules|`(#[w])=>`((by with_unfolding_all rfl))|`(#[X,X])=>`((model X.prog X.w))|`(#[w,w])=>`((model prog w))|`(#[Y,$a,$b])=>`((⟨$a,$b⟩:Sy.Ss (SyP qs)))|`(#[K,$a,$b,$c,$d,$e])=>`(FnOk P w K mg base CX0 $a $b $c $d $e)|`(#[K,$s:str])=>`((PySem.W.nsIn K mainGlobals $s))|`(#[K,$x,$s:str])=>`((PySem.W.findIn K (.ref $x) $s=some none))|`(#[0,$s:ident])=>`($(Lean.mkIdent (s.getId++`heap.objs.size)))|`(#[I])=>`(Inv X oq σ H s)|`(#[$f:ident,T])=>`($f (P:=P) (w:=w) (base:=base) T)|`(#[$f:ident,T,C])=>`($f (P:=P) (w:=w) (base:=base) T C)
local macro_rules|`(#[$f:ident,$xs,*])=>do{let a:=xs.getElems;let k:=f.getId.toString++":"++toString a.size;match ("zA:27ab Qr:14a Qd:13a_ qx:49a_bcd____ yi:32a2_bcA__ Jm:14a qm:38abcB K0:14_a_ qo:14a y8:38CAabc_ qM:22a1bAD_ qE:32a4bADc__ QF:14a qD:15a qG:37abcE jT:27ab YJ:14a qW:14a_ YQ:693abcdef_____ XI:62aFb9cAdeGf_ Zi:14a qT:38abc qI:38abc qp:397aH_#b$b%bIJc___ Qh:38abcB ye:38abc pe_gR:14_a_ Qa:49a_bcd____ QZ:491abcd ya:13a Kb:14a QC:26KabE ze:27ab Xc:15a Qk:18LaA Jh:39KabcA Qn:5992ab&cdH%cIJe___ QI:498ab&cdH%cIJ_ Ka:16Aa__ wt:16a_ pc_din:35abc jW:14a Yv:16_Ma_ XN:698abH_c%dIef___".splitOn " ").find? (·.startsWith k) with|none=>Lean.Macro.throwUnsupported|some e=>let t:Array Lean.Term:=#[←`(rfl),←`(qu _),←`(uT),←`(Or.inl rfl),←`((λ_ _=>rfl)),←`((1)),←`((λ_ _ _ _ _ _=> @yd _)),←`(hr.mono ()),←`(.nil),←`(qz),←`(QO hr),←`(pv 0),←`(T.Jb)];let mut r:=#[];let mut q:=Lean.Name.anonymous;for c in (e.drop k.length).toString.toList do{let v:=c.toNat;if v<48 then q:=#[`m,`F.kp,`b,`h][v-35]! else if v<58 then r:=r.push ⟨Lean.Syntax.mkNumLit (toString (v-48))⟩ else if v<91 then r:=r.push t[v-65]! else if v==95 then r:=r.push ⟨Lean.mkNode ``Lean.Parser.Term.hole #[Lean.mkAtom "_"]⟩ else{let x:=a[v-97]!;r:=r.push (if q.isAnonymous then x else Lean.mkIdent (x.raw.getId++q));q:=Lean.Name.anonymous}};`(#[$f:ident,$r,*])}
local macro_rules|`(tactic|exists $es,*)=>do{let a:=es.getElems;match a[0]!.raw.isNatLit? with|some 2=>let b:=a.extract 1 a.size;`(tactic|intro oq s σ H $b*)|some 6=>let x:Lean.Ident:=⟨a[1]!.raw⟩;let y:Lean.Ident:=⟨a[2]!.raw⟩;`(tactic|obtain ⟨$x:ident,$y:ident⟩:=$(a[3]!) X G $(a[4]!) $(a[5]!) (by rfl'))|some 7=>`(tactic|try dsimp only [cxOf,Cx.nox])|some 3=>`(tactic|(refine ⟨_,$(a[1]!),?_⟩;exists 7;exists 4))|some 4=>`(tactic|try (apply cl_i (a:=K) (b:=a);intro _ _))|some 5=>`(tactic|repeat (first|(with_reducible refine gN_ ?_)|(with_reducible refine seq_0 ?_;intro _ _ _)|(with_reducible refine if_C ?_;intro _ _)|(with_reducible refine while_C ?_;intro _ _)|(with_reducible refine for_C ?_;intro _ _)))|some 8=>let x:Lean.Ident:=⟨a[1]!.raw⟩;let y:Lean.Ident:=⟨a[2]!.raw⟩;`(tactic|((first|refine seq_oC ?_|(exists 4;refine seq_oC ?_));intro _ _ $x $y _))|some 9=>let x:=Lean.mkIdent (a[1]!.raw.getId++`F.ok);let y:Lean.Ident:=⟨(a.getD 3 (Lean.mkIdent `hr)).raw⟩;`(tactic|refine $x $(a[2]!) (by trivial) (λ_ _ _ s H _ Q E $y h=>?_))|_=>let h←`(?_);let b:=if a.any fun x=>(x.raw.find? (·.isOfKind `Lean.Parser.Term.syntheticHole)).isSome then a else a.push h;`(tactic|(exists 5;refine ⟨$b,*⟩))}
set_option hygiene true
set_option hygiene false in
local macro_rules | `(tactic| rfl') => `(tactic| first | exact bo1 (fun _ _ _ _ _ _ _ => rfl) | exact bo2 (fun _ _ _ _ _ _ _ _ => rfl) | exact bo3 (fun _ _ _ _ _ _ _ _ _ => rfl) | exact bo4 (fun _ _ _ _ _ _ _ _ _ _ => rfl))
set_option hygiene false in
local macro_rules|`(tactic|rw [$rs,*])=>do{let a:Array Lean.Term:=rs.getElems.map (⟨·.raw[1]⟩);let y:=a[0]!;if (y.raw.isNatLit?).isSome then `(tactic|exists $a,*)else if y.raw.isOfKind `Lean.Parser.Term.hole then{let b:=a.extract 1 a.size;`(tactic|exists $b,*)}else if a.back!.raw.isNatLit? !=some 0 then Lean.Macro.throwUnsupported else `(tactic|first|(exfalso;injection $y;done)|((fail_if_success injection $y with Xx Yy Zz);injection $y with Xx Yy;subst Xx Yy)|((fail_if_success injection $y with Xx Yy);injection $y with Xx;subst Xx)|cases $y:term)}|`(tactic|rw [$rs,*] at $e:ident)=>do{let r:=rs.getElems;if r.back!.raw[1].isNatLit? !=some 0 then Lean.Macro.throwUnsupported else{let r:=r.pop;`(tactic|(rw [$r,*] at $e:ident;rw [$e:ident,0]))}}
local macro_rules|`(tactic|erw [$rs,*])=>do{let rec f (e:Lean.Syntax):Nat->Lean.MacroM (Lean.TSyntax `Lean.Parser.Tactic.rcasesPatLo)|0=>`(Lean.Parser.Tactic.rcasesPatLo|_)|n+1=>do{if e.isIdent then{let x:Lean.Ident:=⟨e⟩;`(Lean.Parser.Tactic.rcasesPatLo|$x:ident)}else{match e with|`([$xs,*])=>do{let mut p:=#[];for x in xs.getElems do{p:=p.push (← f x n)};let q:=p;let t←`(rcasesPat|⟨$q,*⟩);`(Lean.Parser.Tactic.rcasesPatLo|$t:rcasesPat)}|_=>`(Lean.Parser.Tactic.rcasesPatLo|_)}};let mut p:=#[];let mut h:Array Lean.Term:=#[];let mut z:Array Lean.Term:=#[];for r in rs.getElems do{match r with|`(Lean.Parser.Tactic.rwRule|$e:term)=>{if h.size==0 then h:=h.push e else p:=p.push (← f e 9)}|_=>z:=z.push ⟨r.raw[1]⟩};let q:=p;let g:=h[0]!;if z.isEmpty then `(tactic|obtain ⟨$q,*⟩:=$g)else `(tactic|(obtain ⟨$q,*⟩:=$g;exact $(z[0]!)))}
local macro_rules|`([$a:term : $b:term])=>`(⟨$a,$b⟩)|`([$a:term : $b:term : $c:term])=>`(⟨$a,$b,$c⟩)
set_option hygiene false in
local macro_rules(kind:=Lean.Parser.Command.declaration)|x=>do{let d:=x[1];let h:=x[0];let k:=d.getKind;let s:=d[2][1][0];let p:=fun (n:Lean.Name) (f:Lean.Name) (t:Array Lean.Name)=>Lean.mkNode `Lean.Parser.Term.explicitBinder #[Lean.mkAtom "(",Lean.mkNullNode #[Lean.mkIdent n],Lean.mkNullNode #[Lean.mkAtom ":",if t.isEmpty then Lean.mkIdent f else Lean.mkNode `Lean.Parser.Term.app #[Lean.mkIdent f,Lean.mkNullNode (t.map fun u=>(Lean.mkIdent u).raw)]],Lean.mkNullNode,Lean.mkAtom ")"];let b:=fun l=>Lean.mkNullNode (d[2][0].getArgs++l);if (k==`Lean.Parser.Command.inductive||k==`Lean.Parser.Command.structure)&&x.getPos?.isSome then return x.rewriteBottomUp (·.setInfo .none)else if k==`Lean.Parser.Command.inductive&&s[1].getId==`Sp then return x.setArg 1 (d.setArg 2 (Lean.mkNode d[2].getKind #[b #[p `vs `List #[`V],p `H `Hp #[],p `Q `VK #[],p `E_ `XK #[]],Lean.mkNullNode #[s.setArg 1 (Lean.mkNode `Lean.Parser.Term.prop #[Lean.mkAtom "Prop"])]]))else if k==`Lean.Parser.Command.abbrev then{let y:=x.setArg 0 ((h.setArg 6 Lean.mkNullNode).setArg 4 (Lean.mkNullNode #[Lean.mkNode `Lean.Parser.Command.noncomputable #[Lean.mkAtom "noncomputable"]]));if h[6].getNumArgs>0 then return y else if (h.find? (·.isAtom)).isSome||d[1][0].getId==`VE then Lean.Macro.throwUnsupported else return y.setArg 1 (Lean.mkNode `Lean.Parser.Command.definition #[Lean.mkAtom "def",d[1],d[2],d[3],Lean.mkNullNode])}else if k != `Lean.Parser.Command.definition then Lean.Macro.throwUnsupported else if (h.find? (·.isAtom)).isSome||d[2][1].getNumArgs==0 then Lean.Macro.throwUnsupported else{let t:=s[1];let n:=t[1][0].getId;let o:=t[0].getAtomVal=="#["&&(n==`C||n==`T);let l:=if o then #[p `T `Tx #[`K,`mg,`a]]++(if n==`C then #[p `C `Fx #[`K,`w,`mg,`g,`a]]else #[])else #[];return x.setArg 1 (Lean.mkNode `Lean.Parser.Command.theorem #[Lean.mkAtom "theorem",d[1],Lean.mkNode `Lean.Parser.Command.declSig #[b l,if o then s.setArg 1 (t.setArg 1 (t[1].setArg 0 (Lean.mkIdent `K)))else s],d[3]])}}
local macro_rules|`(-$x:ident)=>`(.ref $x)|`(-$x:str)=>`(.str $x)|`(-[$x,*])=>`(.tup [$x,*])
local macro_rules|`(!$x:ident)=>`(.str $x)
local macro_rules|`(¬$x:ident)=>`(.tup $x)
local macro_rules|`($x>$y)=>`($x∈$y)
local macro_rules|`(($a,$xs,*))=>if xs.getElems.size<3 then Lean.Macro.throwUnsupported else `(⟨$a,$xs,*⟩)
local macro_rules|`(tactic|let $d:letDecl)=>`(tactic|have $d:letDecl)
noncomputable section
set_option Elab.async false
set_option tactic.hygienic false
set_option linter.all false
set_option maxRecDepth 100000
set_option maxHeartbeats 4000000
open PySem.W renaming Frag->o0,mg_of->uW,kia_one->vI,callWith_K->Ux
open PySem renaming Addr->o3,Value->o6,Shared->o7,Heap->o8,Program->o9,World->og,Around->oh,wpAny_bind->A7,sizeLine_eq->uD,wpAny_pure->uE,boot_len->uJ,wpAny_with_toks->vf,wpAny_field->vm,wpAny_callSpecial?_slot->vv,wpAny_setField_rec->vx,wpAny_mono->vz,wpAny_truthy_bool->vE,wpAny_newObj_type->vF,call_meets->vP,wpAny_call_entry->vR,mem_of_lookup->vU,typeIs_str->vX,wpAny_pyIter_tuple->Uc,wpAny_passesOwn->Uk,wpAny_seqItems->Us,wpAny_Call_Name_kw->Uw,tupleKind_room_in1->Uy,wpAny_execs_nil->UD,codeAny_mono->UE,wpAny_isInstance->US,wpAny_rule->UU,wpAny_attempt->UZ,wpAny_pyIter_list->V5,wpAny->Ve,FuncData->Vg,sizeLine->Vh,starEach->Vi,compareOp->Vn,backTo->Vo,cLine->Vp,model->Vt,IsPair->Vu,Scope->Vw,sysModules->Vy,mainGlobals->Vz,IsZip->VD,rawInt->VG,pyNext->VH,field->VL,binaryOp->VM,codeAny->VN,bindL->VP,wpAny_holding->VQ,getItem->VR,bindC->VS,NameKind->VT,valueAt->VU,IsEnum->VV,Builtin->VW,unsetMember->VZ,assignEach->V_,holding->gV,IsPart->g_,sliceBounds->G7,attributeBase->Gb,assign->Ge,atKey->Gf,backToKw->Gh,keywordEach->Gi,bindArgs->Gk,Keyword->Gq,callerA->Gx,wpAny_typeOf->GC,stored->GF,bootBuiltins->GG,standAt->GJ,DictEntry->GK,Result->GM,cellsFrom->GO,Meets->GQ,BindsTo->GR,getMethod->GT,swapsWith->GV,tupleKind->GZ,Model->G_,CmpOp->hV,seqIndex?->hZ,callWith->Ha,behindInMarks->Hb,limitOf->Hd,wpAny_call->He,subscripted->Hf,InCallC->Hg,call_meetsIn->Hl,Operator->Hm,letOwnedTupleGo->Hr,pyIter->Hz,cellOf->HE,operate->HG,storeName->HH,wpAny_of_eq->HM,wpAny_load->HP,wpAny_standAt->HR,codeAny_builtin->HU,closureFor->HV,typeOf->HY,typeLookup->HZ,IsEnumOut->H_,newList->tj,Params->tm,concat_meets->tF,seq_tuple_add->tG,strKind_is->tL,newFunctionEnv->tP,GenState->tQ,plainId_quiet->tR,wpAny_letGo->tU,PlainAttrs->tW,wpAny_Call_method->tX,foldedSetIterable->t_,seqItems?->T0,slicePick->T4,evalPart_none->T6,wpAny_execs_cons->T7,firstArgMember->T8,seqIndex_of->Tf,compEnvC->Ti,setItem->Tj,leaving->Tl,builtinsNs->Tq,getAttr->Tu,checkBuiltinCall->Tz,wpAny_newList->TB,spliced->TF,newTuple->TH,seqIndex_neg->TK,wpAny_Name->TM,wpAny_onRaise->TR,noFill_tuple_add->TW,inplaceOp->T_,codeAny_call_builtin->Fa,wpAny_Slice->Fb,pushCells_keeps->Fc,wpAny_pyIter_zip->Fe,callType_codes->Ff,wpAny_comprehension_free->Fg,wpAny_in_of->Fk,checkTypeCall->Fm,interactive->Fn,wpAny_setField->Fq,wpAny_mkText->Fu,wpAny_storeName_local->FB,meets_str_split_sep->FE,wpAny_getItem_list_slice->FH,wpAny_loadName_cell->FI,meets_str_split_not_found->FJ,wpAny_getItem_of->FK,wpAny_Expr_any->FO,codeAny_of_tree->FY,attributeErrorLeaves->r6,wpAny_sequenceKey->rC,isSubtype_stop->rE,split_sep_max_tree->rG,joinFit_length->rH,wpAny_pyNext_list_end->rO,builtinLookup_eq_fast->rV,wpAny_pyIter_enum->rY,wpAny_newTuple->r_,wpAny_updateSeq_pair->Rb,wpAny_notIn_of->Rc,getAttrByItsOwn->Rl,getattributeRaised->Ro,wpAny_throw->Rp,wpAny_isTrue_Compare1->Rt,typeLookup_type->RA,evalPart_some->RE,call_list_seq->RG,listOfItself->RO,wpAny_loadName_local->RQ,wpAny_pyNext_list_item->RT,wpAny_Call_method0_late->RU,intBits_le_64->RV,meets_str_split_cannot_occur->RZ,wpAny_assign_Name->p6,raiseAttrError->p7,IsRangeIter->p8,boundAndCalled->p9
open List renaming mem_cons->Ab,mem_singleton->Ac,mem_append->Ae,mem_map->Af,getElem?_eq_some_iff->Ag,length_map->u9,getElem?_eq_getElem->ug,mem_cons_of_mem->uh,mem_cons_self->uj,length_cons->um,length_append->uw,map_append->uA,size_toArray->uB,map_cons->uC,getElem?_map->uK,not_mem_nil->uL,length_take->uM,map_map->uP,length_drop->uQ,mem_append_right->uR,getElem_mem->uU,mem_of_getElem?->uX,mem_nil_iff->uZ,find?_cons->vd,take_of_length_le->vh,take_add_one->vi,drop_eq_getElem_cons->vk,length_nil->vn,lookup_cons->vw,mem_of_mem_take->vG,append_nil->vJ,eq_nil_of_length_eq_zero->vK,all_cons->vN,mem_append_left->vO,mem_of_mem_drop->vQ,mem_of_find?_eq_some->vW,filter_cons->U0,take_length->U1,nodup_nil->U2,filterMap_cons->U3,nodup_cons->U7,all_eq_true->Ua,length_singleton->Ue,filterMap_cons_some->Ul,map_congr_left->Ur,drop_of_length_le->Ut,find?_eq_none->Uz,forIn_cons->UF,map_nil->UG,any_cons->UM,sum_cons->UN,find?_append->UO,getElem?_append_right->UP,getElem?_append_left->UQ,cons_append->UR,all_map->UV,all_append->UY,find?_some->V0,filter_append->V1,getLast?_cons_cons->V3,append_assoc->V6,reverse_cons->V8,range->Vq,Nodup->Vr,lookup->VB,length->VI,set->GB,getD->GN,range'->hW,map_take->Hv,any_map->Hx,drop_zero->HL,map_id->HQ,nil_append->tJ,zipWith_cons_cons->tN,any_eq_false->tY,take_succ_cons->T9,any_eq_true->Te,map->Tt,of_mem_zip->TQ,length_filter_le->TV,eraseIdxIfInBounds_toArray->Fj,length_set->Fv,zipIdx_nil->Fy,cons_lt_cons_iff->FA,any_toArray->FQ,getElem?_zip_eq_some->FT,take_sublist->FV,map_drop->FX,all_nil->rm,getElem?_set_ne->rp,length_replicate->rB,zipIdx_cons->rD,eq_nil_or_concat->rT,concat_eq_append->rW,length_eraseIdx_of_lt->rX,drop_length->rZ,forIn_nil->R7,find?->Ra,getElem?_set_self->Rg,getElem?_replicate->Rh,replicate->Rq,nodup_append->Rr,getElem?_eq_none->Rs,take_append_drop->Ru,range_succ_eq_map->Rv,mem_of_getLast?->RD,range_succ->RK,mem_cons->uG,mem_singleton->UA
open PySem.Heap renaming get?_push_of_some->ud,get?_push_size->uH,lt_size->uI,size_push->vq,SameBut->VO,get?_update_other->tV,get?_update_self->TX,ExtBut->rc,IsTuple->Ry,FlyingW->RX
open Bool renaming false_ne_true->uf,and_eq_true->uF,eq_iff_iff->U5,and_true->Uf,false_eq_true->UW,and_self->Vb,true->v_,false->Vd,or_eq_true->HK,true_and->HN,and_false->Tw,false_or->TU,true_or->Fp,false_and->rN
open Nat renaming le_refl->uq,zero_le->uS,ne_of_lt->uY,le_trans->vb,lt_irrefl->vM,lt_succ_self->U9,ne_of_gt->Ub,le_succ->Up,le_of_lt->UC,succ_le_succ->V9,lt_of_lt_of_le->Vs,lt_or_ge->Hc,lt_trans->HJ,not_lt_zero->HS,lt_of_le_of_lt->tD,le_add_right->tE,succ_pos->tT,min_eq_left->T2,le_total->T5,zero_add->Tc,log2_le_self->TN,add_mul->FW,eq_zero_or_pos->rh,add_zero->rJ,succ->rQ,le_of_eq->R8,sub_zero->Rj,one_mul->Rm
open Option.some renaming inj->uN,injEq->pL
open PySem.F renaming plainAttrs_list->uO,plainAttrs_str->vc,entry_str_split->vL,slot_str_split->vS,slot_list_append->vY,type_list_append->vZ,slot_tuple_iterator_next->U8,args_str_split_2->Ug,slot_str_join->Uh,type_str_join->Ui,slot_list_insert->Um,type_list_insert->Uo,plainAttrs_dict->Uq,type_str_split->Uv,slot_enumerate_next->UI,slot_list_pop->UJ,type_list_pop->UK,args_tuple_add_2->UT,entry_tuple_add->UX,slot_str_split->Uu
open PySem.PassesOwn renaming never->uT
open PyProof.Rows renaming boot_isinstance->vg,callWith_type1->vy,boot_tuple->vH,slot_tuple_getitem->vV,boot_str->V2,envOfC->Vk,AllBare->VX,IntsAre->GH,IsTup->GS,tail_any->Ht,Subscript_->Hu,Call_->HD,subscriptTail->HI,boot_all->HW,sortedS->tO,StrsAre->Tn,boot_sum->Tv,boot_dict->F0,tupleItemsOf_->Fo,slicePart_none->Fs,isTrue_plain->FL,subscriptTail_builtinR->FN,args_tuple_getitem->rK,entry_tuple_getitem->RS,iadd_int->pJ,callWith_builtin1->pQ
open PySem.Around renaming in1_units->vj,under_plainId->Tg,under->To
open Array renaming length_toList->vt,getElem?_toList->UH,toList_append->tK,size_append->Td,append_assoc->TJ,toList->Fw,size_push->Rk
open PySem.Calls renaming callWith_builtin->vT,spliced_cons->Ud,evalArgs_plain->Uj,spliced_nil->UL,Name_function_global->Ft,call_len_list->F_
open Ne renaming symm->U4
open List.cons renaming injEq->U6
open Sum.inr renaming inj->UB
open Int renaming emod_lt_of_pos->V4,emod_nonneg->Ho,toNat_natCast->Ts
open Option renaming some->u_,none->U_,isNone->Hk,map_some->HF,isSome_map->tu,isSome_none->tM,map_eq_none_iff->TY,getD_none->FD,map->rA
open Sum renaming inr->Vf,inl->Gj
open PySem.Value renaming ref->Vj,str->VC,none->G9,type->Gm,int->Gy,bool->GX,float->tS,isInt->R6,bytes->RL,isStrOf->RW
open PySem.Str renaming join->Vl,length->G6,ofString->Gz,empty->tZ
open ToString renaming toString->Vm
open PySem.NameKind renaming free->Vv,cell->Gg
open False renaming elim->Vx
open PySem.Builtin.Str renaming strKind->VA,occurrences->h_
open True renaming intro->VF
open PySem.SeqAt renaming EqAt->VJ,in_tupleAt->rF,RcAt->rR,RcNeAt->RF,in_listAt->RH
open ForIn renaming forIn->VY
open PySem.StrLaws renaming occBody->Gn,partsFrom->Hq,occ_eq->Fi,glued_eq_join->FC,joinTotal->rP,strSub_toList->RY
open Unit renaming unit->Gu
open PySem.Txt renaming startswith->GD,slice->Hy,slice_le->rM
open PySem.Builtin.SmallTypes renaming nextOf->GE,ownedTupleIsFree->GY,ownedTupleHandOut->HX
open Or renaming inl->GL,inr->GU
open ForInStep renaming yield->GP
open PySem.Builtin.Tuple renaming tupleExact->GW,tupleItemsOf->Re,tupleIsExact->Pd
open Iff renaming rfl->Hh,trans->Tp
open Nat.le renaming dest->Hi
open PySem.Obj renaming mapSeq->Hj,mapFields->Rz,data_mapFields->RB
open PyProof.Rows.IsTup renaming new->Hn
open PySem.Builtin.Slice renaming slicePlaces->Hw,sliceAdjust->tH,sliceApplied->rg,slicePartIndex->pS,sliceFields->pZ
open LawfulMonad renaming pure_bind->T1
open PySem.SeqAt.EqAt renaming str_int->Ta,int_str->TD,same->f_,str_str->Fz,str_none->FU,int_none->re,none_str->rq,int_int->rS,none_int->RC,tuple_none->pc,int_tuple->pd,str_bool->pf,bool_int->ph,int_bool->pB,none_tuple->pC,tuple_str->pD,bool_str->pE,bool_bool->pI,none_bool->pM,bool_none->pT,str_tuple->P0,of_refs->Pa,tuple_int->Pc
open PySem.Code renaming isFrame->Tb,frames->RI
open PySem.Shared renaming heap->TC
open PySem.Builtin.List renaming listTooLong->TL,listFitsIndex->Ri
open PySem.Walks renaming strWide->Fd,strAscii->FS
open PySem.Heap.DictOf renaming new->FG
open Classical renaming propDecidable->FR,choose_spec->rf,byContradiction->RN
open PySem.Heap.SameBut renaming update->rL
open PySem.SeqAt.RcAt renaming str_tuple->R1,str_str->R9,tuple_str->RM,tuples->R_,none_tuple->pw,str_none->pA,tuple_none->pW,none_str->Pb
open List.Pairwise renaming nil->Rf,map->pN
open PySem.Heap.IsSliceOf renaming new->Rx
open PySem.DictEntry renaming refKey->RJ
open PySem.Builtin.Dict renaming updateFrom->RP,selfAndRest->pO
open PySem.SeqAt.RcNeAt renaming str_str->pk,tuple_str->pF,tuples->pU,str_tuple->p_
open PySem.MeetsSeq renaming list_pop_at->pq,list_pop_last->pP
open PySem.Heap.Ns1 renaming of_empty->pG
open PySem.Heap.IsList renaming push->pH
open PySem.Builtin.Range renaming rangeSize->pK
open List.Sublist renaming refl->pR
open PySem.AutoSeq1 renaming list_extend_list_list_0->pV
open Int.ofNat renaming inj->pX
open List.Nodup renaming sublist->pY
nonrec abbrev oj:=List
nonrec abbrev om:=Option
abbrev A4:=@if_neg
abbrev A6:=@if_pos
abbrev A8:=@absurd
abbrev Aa:=@congrArg
abbrev uc:=@decide_eq_true
abbrev ui:=@decide_eq_false
abbrev ur:=@of_decide_eq_true
abbrev uV:=@or_false
abbrev ve:=@decide_eq_decide
abbrev vo:=@decide_eq_true_eq
abbrev V7:=@not_false_eq_true
abbrev Va:=@not_or
abbrev Vc:=@if_true
namespace L2
open PySem PySem.Spec PyProof.Rows
nonrec abbrev Key:=Sum Int Str
abbrev oX:Key->o6->Bool
 | .inl k,v=>R6 k v| .inr x,v=>RW x v
abbrev Aez (w:og):Key->Int
 | .inl k=>hashInt k| .inr x=>hashStr w x
def Qz:∀{k:Key}{v:o6},oX k v=v_->(∃i t,k=Gj i/\v=Gy i t)\/(∃x t,k=Vf x/\v=VC x t)
 | .inl i,v,h=>by
  erw[Value.isInt_shape (k:=i) (v:=v) h,t,e,<-.inl (i,t,1,e)]
 | .inr x,v,h=>by
  erw[Value.isStrOf_shape (x:=x) (v:=v) h,t,e,<-.inr (x,t,1,e)]
def EF (i:Int)(t:Tok):oX (.inl i) (.int i t)=true:=by simp[oX,R6]
def EE (x:Str)(t:Tok):oX (.inr x) (.str x t)=true:=by simp[oX,RW]
def AbL (a b:Int):decide ((Gj a:Key)=Gj b)=(a==b):=by
 by_cases e:a=b
 .subst e;simp
 .let h:¬(Gj a:Key)=Gj b:=λq=>e (Sum.inl.inj q);rw[ui h];exact(beq_eq_false_iff_ne.mpr e).symm
def AbI (a b:Str):decide ((Vf a:Key)=Vf b)=decide (a=b):=by
 by_cases e:a=b
 .subst e;simp
 .let h:¬(Vf a:Key)=Vf b:=λq=>e (UB q);rw[ui h,ui e]
def AbK (a:Int)(b:Str):decide ((Gj a:Key)=Vf b)=false:=ui (λq=>nomatch q)
def AbJ (a:Str)(b:Int):decide ((Vf a:Key)=Gj b)=false:=ui (λq=>nomatch q)
abbrev Qc (prog:o9)(w:og):PySem.KeyKind prog w Key where
 is:=oX
 hash:=Aez w
 inj:=λv a b ha hb=>by
  rcases Qz ha with⟨i,t,rfl,rfl⟩|⟨x,t,rfl,rfl⟩
  .rcases Qz hb with⟨j,u,rfl,e⟩|⟨y,u,rfl,e⟩
   .injection e with e1 _;rw[e1]
   .exact nomatch e
  .rcases Qz hb with⟨j,u,rfl,e⟩|⟨y,u,rfl,e⟩
   .exact nomatch e
   .injection e with e1 _;rw[e1]
 byValue:=λk v h=>by
  rcases Qz h with⟨i,t,rfl,rfl⟩|⟨x,t,rfl,rfl⟩<;>rfl
 pyHash:=λhv h=>by
  rcases Qz hv with⟨i,t,rfl,rfl⟩|⟨x,t,rfl,rfl⟩
  .exact wpAny_pyHash_int h
  .exact wpAny_pyHash_str h
 eqBool:=λhu hv h=>by
  rcases Qz hu with⟨i,t,rfl,rfl⟩|⟨x,t,rfl,rfl⟩
  .rcases Qz hv with⟨j,u,rfl,rfl⟩|⟨y,u,rfl,rfl⟩
   .rw[AbL] at h;exact wpAny_eqBool_int h
   .rw[AbK] at h;exact TD i t y u _ _ _ _ h
  .rcases Qz hv with⟨j,u,rfl,rfl⟩|⟨y,u,rfl,rfl⟩
   .rw[AbJ] at h;exact Ta x t j u _ _ _ _ h
   .rw[AbI] at h;exact wpAny_eqBool_str h
 «strs»:=λk x t v h=>by
  rcases Qz h with⟨i,u,rfl,e⟩|⟨y,u,rfl,e⟩
  .exact nomatch e
  .injection e with e1 _
   subst e1
   cases v<;>rfl
def AE (prog:o9)(w:og)(i:Int)(t:Tok):(Qc prog w).is (.inl i) (.int i t)=true:=EF i t
def Wb (prog:o9)(w:og)(x:Str)(t:Tok):(Qc prog w).is (.inr x) (.str x t)=true:=EE x t
inductive V where
 |non|bl (b:Bool)|int (i:Int)|str (x:Str)|byt (b:Array UInt8)|flt (b:UInt64)|ref (a:Addr)|ty (n:String)
 deriving DecidableEq
abbrev ik:V->o6->Prop
 | .non,u=>u=G9| .bl b,u=>u=GX b| .int i,u=>∃t,u=Gy i t| .str x,u=>∃t,u=VC x t| .byt b,u=>∃t,u=RL b t| .flt b,u=>∃t,u=tS b t| .ref a,u=>u=Vj a| .ty n,u=>u=Gm n
nonrec abbrev iw:oj V->oj o6->Prop:=Paired ik
variable {xs:oj V}{us:oj o6}
def iw.length (r:iw xs us):↑xs=↑us:=Paired.length r
def iw.get:∀{xs:oj V}{us:oj o6}{i:Nat}{x:V},iw xs us->xs[i]? =u_ x->∃u,us[i]? =u_ u/\ik x u
 |_,_,_,_,.nil,e=>by simp at e|_,_,0,_,.cons r _,e=>by simp at e;subst e;exact[0:r]|_,_,i+1,x,.cons _ t,e=>by
  obtain⟨u,h1,h2⟩:=iw.get (i:=i) (x:=x) t (by simpa using e)
  exact⟨u,by simpa using h1,h2⟩
def iw.set {x:V}{u:o6}(r:ik x u):∀{xs:oj V}{us:oj o6} (i:Nat),iw xs us->iw (xs.set i x) (us.set i u)
 |_,_,_,.nil=> .nil|_,_,0,.cons _ t=> .cons r t|_,_,i+1,.cons q t=> .cons q (iw.set r i t)
def iw.append:∀{xs ys:oj V}{us ws:oj o6},iw xs us->iw ys ws->iw (xs++ys) (us++ws)
 |_,_,_,_,.nil,s=>s|_,_,_,_,.cons r t,s=> .cons r (iw.append t s)
def iw.take:∀{xs:oj V}{us:oj o6} (n:Nat),iw xs us->iw (xs.take n) (us.take n)
 |_,_,0,_=> .nil|_,_,_+1,.nil=> .nil|_,_,n+1,.cons r t=> .cons r (iw.take n t)
def iw.drop:∀{xs:oj V}{us:oj o6} (n:Nat),iw xs us->iw (xs.drop n) (us.drop n)
 |_,_,0,r=>r|_,_,_+1,.nil=> .nil|_,_,n+1,.cons _ t=>iw.drop n t
abbrev nu:om V->om o6->Prop
 |some v,u_ u=>ik v u|none,U_=>True|_,_=>False
abbrev KV {κ:Type}:oj (κ×V)->oj (κ×o6)->Prop:=Paired λ(p:κ×V) (q:κ×o6)=>p.1=q.1/\ik p.2 q.2
abbrev kV:Key->V
 | .inl i=> .int i| .inr x=> !x
inductive HO where
 |lst (xs:List V)
 |tup (xs:List V)
 |dK (kvs:List (Key×V))|dT (kvs:List (List Key×V))
 |set (S:Int->Bool)(n:Nat)
 |ins (C dx:Addr)(fs:List (Str×V))
 |own (x:Addr)
 |xd (fs:List (Str×V))
 |met (f x:Addr)
 |rng (lo hi:Int)
 |frz (o:Obj)(u:HO)
 |tbl (ps:Array Value)
 |ext (φ:Heap->Prop)
nonrec abbrev Hp:=o3->om HO
abbrev upd (H:Hp)(a:o3)(o:HO):Hp:=λb=>if b=a then u_ o else H b
variable {H:Hp}{a:o3}
def qg {o:HO}:upd H a o a=u_ o:=by unfold upd;rw[A6 rfl]
variable {b:o3}
def qi {o:HO}(h:b≠a):upd H a o b=H b:=by unfold upd;rw[A4 h]
def Ac8 {o u:HO}(h:H a=u_ o)(h':H b=u_ u)(d:o≠u):a≠b:=by
 intro e;subst e;rw[h] at h';exact d (uN h')
def qk {o:HO}(h:H a=u_ o)(h':H b=U_):a≠b:=by
 intro e;subst e;rw[h] at h';rw[h',0]
section
variable (P:o9)(w:og)
abbrev yj (H:Hp)(h:o8)(a:o3):HO->Prop
 | .lst xs=>↑xs<=Vh/\∃(its:oj o6) (n:Nat),iw xs its/\h.get? a=u_ {cls:= .type "list",data:= .seq its.toArray n}| .tup xs=>↑xs<=Vh/\∃its:oj o6,iw xs its/\GS h a its.toArray| .dK kvs=>↑kvs<=Vh/\(a==Vy)=Vd/\∃vs,KV kvs vs/\h.DictOf (Qc P w) a vs| .dT kvs=>↑kvs<=Vh/\(a==Vy)=Vd/\∃xs:oj (oj Key×o3×o6),
   Paired (λ(p:oj Key×V) (q:oj Key×o3×o6)=>p.1=q.1/\H q.2.1=u_ (.tup (p.1.map kV))/\ik p.2 q.2.2) kvs xs/\
   ∃o es ep,h.get? a=u_ o/\o.ExactDict/\o.data= .dict es ep/\es.toList=xs.map (entryOfKey (GZ (Qc P w)))/\(xs.map (·.1)).Nodup
 | .set S n=>h.SetOf (intKind P w) a S n| .ins C dx fs=>H dx=u_ (.own a)/\↑fs<=1000/\dx≠a/\h.get? a=u_ (PySem.W.instObj C dx)/\
   ∃mA,h.Ns1 dx mA/\(∀f,nu (fs.lookup f) (mA f))/\PySem.Within mA (fs.map (·.1))
 | .own _=>∃o,h.get? a=u_ o| .xd fs=>∃mA,h.Ns1 a mA/\∀f,nu (fs.lookup f) (mA f)| .rng lo hi=>∃t u v,h.get? a=u_ {cls:= .type "range",data:= .fields #[.int lo t,.int hi u,.int 1 v]}| .frz o u=>h.get? a=u_ o/\yj H h a u| .tbl ps=>h.get? a=u_ {cls:= .none,data:= .fields ps}| .met f x=>h.get? a=u_ (PySem.W.methodObj (-f) (-x))| .ext φ=>φ h/\(∃o,h.get? a=u_ o)/\∀h1 h2:o8,φ h1->(∀o,h1.get? a=u_ o->h2.get? a=u_ o)->φ h2
abbrev HOk (H:Hp)(h:o8):Prop:=∀a o,H a=u_ o->yj P w H h a o
end
section
variable {P:o9}{w:og}{H H':Hp}{h h':o8}{a:o3}{o:HO}
def yj.lt (x:yj P w H h a o):a<h.objs.size:=by
 cases o with
 |lst xs=>erw[x,_,_,_,_,e,<-uI e]|tup xs=>erw[x,_,_,_,p,<-p.lt]|dK kvs=>erw[x,_,_,_,_,o,_,_,e,_,<-uI e]|dT kvs=>erw[x,_,_,_,_,o,_,_,e,_,<-uI e]|set S n=>erw[x,o,_,_,_,e,_,<-uI e]|ins C dx fs=>erw[x,_,_,_,e,_,<-uI e]|own y=>erw[x,_,e,<-uI e]|xd fs=>erw[x,_,[_,_,_,e,_],_,<-uI e]|rng lo hi=>erw[x,_,_,_,e,<-uI e]|frz ob u=>erw[x,e,_,<-uI e]|tbl ps=>exact uI (show h.get? a=u_ _ from x)|met f y=>exact uI (show h.get? a=u_ _ from x)|ext φ=>erw[x,_,[_,e],_,<-uI e]
def Paired.mapP {α β:Type}{F G:α->β->Prop}:∀{l₁:oj α}{l₂:oj β},Paired F l₁ l₂->(∀a b,F a b->G a b)->Paired G l₁ l₂
 |_,_,.nil,_=> .nil|_,_,.cons r t,f=> .cons (f _ _ r) (Paired.mapP t f)
def yj.stay (x:yj P w H h a o)(k:∀b u,(b=a\/H b=u_ (.own a))->h.get? b=u_ u->h'.get? b=u_ u)
  (U:∀b,H b=u_ (.own a)->H' b=u_ (.own a)) (Z:∀b xs,H b=u_ (¬xs)->H' b=u_ (¬xs)):yj P w H' h' a o:=by
 induction o with
 |lst xs=>erw[x,z,its,n,r,e,<-(z,its,n,r,k _ _ (.inl rfl) e)]|tup xs=>erw[x,z,its,r,ob,e,c,<-(z,its,r,ob,k _ _ (.inl rfl) e,c)]|dK kvs=>erw[x,z,y,vs,r,ob,es,ep,e,c,<-(z,y,vs,r,ob,es,ep,k _ _ (.inl rfl) e,c)]|dT kvs=>
  erw[x,z,y,xs,r,ob,es,ep,e,c,<-(z,y,xs,Paired.mapP r λp q z=>[z.1:Z _ _ z.2.1:z.2.2],ob,es,ep,k _ _ (.inl rfl) e,c)]
 |set S n=>erw[x,ob,es,ep,t,e,c,<-(ob,es,ep,t,k _ _ (.inl rfl) e,c)]|ins C dx fs=>
  erw[x,d,z,ne,e,mA,[od,es,ep,e2,c],r,<-(U _ d,z,ne,k _ _ (.inl rfl) e,mA,(od,es,ep,k _ _ (.inr d) e2,c),r)]
 |own y=>erw[x,ob,e,<-[ob:k _ _ (.inl rfl) e]]|xd fs=>erw[x,mA,[od,es,ep,e,c],r,<-[mA:(od,es,ep,k _ _ (.inl rfl) e,c):r]]|rng lo hi=>erw[x,t,u,v,e,<-(t,u,v,k _ _ (.inl rfl) e)]|frz ob u ih=>erw[x,e,q,<-[k _ _ (.inl rfl) e:ih q]]|tbl ps=>
  let e:h.get? a=u_ {cls:= .none,data:= .fields ps}:=x;show h'.get? a=u_ {cls:= .none,data:= .fields ps};exact k a _ (.inl rfl) e
 |met f y=>
  let e:h.get? a=u_ (PySem.W.methodObj (-f) (-y)):=x;show h'.get? a=u_ (PySem.W.methodObj (-f) (-y));exact k a _ (.inl rfl) e
 |ext φ=>erw[x,p,[o,e],st,<-[st _ _ p λo q=>k _ _ (.inl rfl) q:[o:k _ _ (.inl rfl) e]:st]]
def HOk.lt (x:HOk P w H h)(e:H a=u_ o):a<h.objs.size:=(x a o e).lt
def HOk.fresh (x:HOk P w H h)(e:h.objs.size<=a):H a=none:=by
 cases q:H a with
 |none=>rfl|some u=>exact A8 (Vs (x.lt q) e) (vM _)
def HOk.kept (x:HOk P w H h)(k:∀b u,h.get? b=u_ u->h'.get? b=u_ u):HOk P w H h':=λa o e=>
 (x a o e).stay (λb u _ q=>k b u q) (λ_ q=>q) λ_ _ q=>q
def HOk.laid (x:HOk P w H h)(k:∀b u,h.get? b=u_ u->h'.get? b=u_ u)(Z:h.objs.size<=a)(new:yj P w (upd H a o) h' a o):HOk P w (upd H a o) h':=λb u e=>by
 let hn:=x.fresh Z;by_cases U:b=a
 .subst U;rw[qg,0] at e;exact new
 .rw[qi U] at e;exact(x b u e).stay (λc v _ q=>k c v q) (λc q=>by rwa[qi (qk q hn)]) λc xs q=>by rw[qi (qk q hn)];exact q
end
abbrev Rd (H:Hp)(a:o3)(u:HO):Prop:=H a=u_ u\/∃o,H a=u_ (.frz o u)
def Rd.of {u:HO}(h:H a=u_ u):Rd H a u:= .inl h
variable {w:og}{h:o8}
def Rd.ok {P:o9}{u:HO}(r:Rd H a u)(x:HOk P w H h):yj P w H h a u:=by
 rcases r with r|⟨o,r⟩
 .exact x a u r
 .erw[x a _ r,_,q,<-q]
abbrev Mut:om HO->Prop
 |some (.lst _)=>True|some (.dK _)=>True|some (.dT _)=>True|some (.set _ _)=>True|some (.ins _ _ _)=>True|some (.ext _)=>True|_=>False
section
variable {P:o9}{w:og}{H:Hp}{h h':o8}{x e:o3}{o':HO}
def HOk.write (ok:HOk P w H h)(mu:Mut (H x))(he:e=x\/H e=u_ (.own x))(k:∀b u,b≠e->h.get? b=u_ u->h'.get? b=u_ u)(ac:∃u,h'.get? e=u_ u)
  (new:yj P w (upd H x o') h' x o'):HOk P w (upd H x o') h':=λb u q=>by
 let Z:∀c y,H c=u_ (.own y)->c≠x:=λc y r z=>by subst z;rwa[r] at mu
 let aa:∀c xs,H c=u_ (¬xs)->c≠x:=λc xs r z=>by subst z;rwa[r] at mu
 by_cases hb:b=x
 .subst hb;rw[qg,0] at q;exact new
 .rw[qi hb] at q;by_cases U:b=e
  .let q':H b=u_ (.own x):=by
    rcases he with z|z
    .exact A8 (U.trans z) hb
    .rwa[U]
   rw[q] at q';rw[q',0];erw[ac,v,hv,<-⟨v,by rwa[U]⟩]
  .refine(ok b u q).stay (λc v hc r=>k c v ?_ r) (λc r=>by rwa[qi (Z c b r)]) λc xs r=>by rwa[qi (aa c xs r)]
   rcases hc with rfl|hc
   .exact U
   .rintro rfl;rcases he with z|z
    .exact Z c b hc z
    .rw[hc,0] at z;exact hb rfl
end
structure Un (fs ex:oj o3)(H H':Hp)(h h':o8):Prop where
 keep:∀b o,h.get? b=u_ o->H b=U_->b∉fs->b∉ex->h'.get? b=u_ o
 slot:∀b o,h.get? b=u_ o->H b=U_->b>fs->b∉ex->∃sl,h'.get? b=u_ {o with slots:=sl}
 free:∀b o,h.get? b=u_ o->H b=U_->b∉ex->H' b=U_
 there:∀b o,h.get? b=u_ o->b∉ex->∃o',h'.get? b=u_ o'
 tups:∀b xs,H b=u_ (¬xs)->H' b=u_ (¬xs)
 frzs:∀b o u,H b=u_ (.frz o u)->H' b=u_ (.frz o u)
 tbls:∀b ps,H b=u_ (.tbl ps)->∃more,H' b=u_ (.tbl (ps++more))
section
variable {fs fs' ex ex':oj o3}{H H1 H2:Hp}{h h1 h2 h':o8}{a x e:o3}{o:HO}
def Un.any (u:Un fs ex H H1 h h1){ob:Obj}(q:h.get? b=u_ ob)(n:H b=U_)(U:b∉ex):∃sl,h1.get? b=u_ {ob with slots:=sl}:=by
 by_cases Z:b>fs
 .exact u.slot b ob q n Z U
 .exact[ob.slots:u.keep b ob q n Z U]
def Un.trans (a:Un fs ex H H1 h h1)(b:Un fs ex H1 H2 h1 h2):Un fs ex H H2 h h2 where
 keep:=λc ob q n hc U=>b.keep c ob (a.keep c ob q n hc U) (a.free c ob q n U) hc U
 slot:=λc ob q n hc U=>by
  erw[a.slot c ob q n hc U,sl,Z];erw[b.slot c _ Z (a.free c ob q n U) hc U,aa,e2,<-[aa:e2]]
 free:=λc ob q n U=>by
  erw[a.there c ob q U,o',Z,<-b.free c o' Z (a.free c ob q n U) U]
 there:=λc ob q U=>by
  erw[a.there c ob q U,o',Z,<-b.there c o' Z U]
 tups:=λc xs q=>b.tups c xs (a.tups c xs q)
 frzs:=λc ob xs q=>b.frzs c ob xs (a.frzs c ob xs q)
 tbls:=λc ps q=>by
  erw[a.tbls c ps q,m1,Z];erw[b.tbls c _ Z,m2,e2,<-⟨m1++m2,by rw[e2,TJ]⟩]
def Un.kept (k:∀b u,h.get? b=u_ u->h'.get? b=u_ u):Un fs ex H H h h':=
 (λb ob q _ _ _=>k b ob q,λb ob q _ _ _=>[ob.slots:k b ob q],λ_ _ _ n _=>n,λb ob q _=>[ob:k b ob q],λ_ _ q=>q,λ_ _ _ q=>q,λ_ ps q=>⟨#[],by rw[q];simp⟩)
def Un.refl:Un fs ex H H h h:=Un.kept λ_ _ q=>q
def Un.laid (k:∀b u,h.get? b=u_ u->h'.get? b=u_ u)(U:h.objs.size<=a)(hn:H a=U_):Un fs ex H (upd H a o) h h' where
 keep:=λb u q _ _ _=>k b u q
 slot:=λb u q _ _ _=>[u.slots:k b u q]
 free:=λb u q n _=>by rwa[qi (uY (Vs (uI q) U))]
 there:=λb u q _=>[u:k b u q]
 tups:=λb xs q=>by rwa[qi (qk q hn)]
 frzs:=λb u xs q=>by rwa[qi (qk q hn)]
 tbls:=λb ps q=>⟨#[],by rw[qi (qk q hn),q];simp⟩
def Un.write (mu:Mut (H x))(he:e=x\/H e=u_ (.own x))(k:∀b u,b≠e->h.get? b=u_ u->h'.get? b=u_ u)(Z:∃u,h'.get? e=u_ u):Un fs ex H (upd H x o) h h':=by
 let hx:∀b,H b=U_->b≠x:=λb n z=>by subst z;rwa[n] at mu
 let hb:∀b,H b=U_->b≠e:=λb n z=>by
  subst z;rcases he with r|r
  .exact hx b n r
  .rw[n,0] at r
 let hm:∀b u,H b=u_ u->¬Mut (u_ u)->b≠x:=λb u q nm z=>by subst z;rw[q] at mu;exact nm mu
 refine(λb u q n _ _=>k b u (hb b n) q,λb u q n _ _=>[u.slots:k b u (hb b n) q],λb u q n _=>by rwa[qi (hx b n)],λb u q _=>?_,
  λb xs q=>by rwa[qi (hm b _ q λz=>z)],λb u xs q=>by rwa[qi (hm b _ q λz=>z)],λb ps q=>⟨#[],by rw[qi (hm b _ q λz=>z),q];simp⟩)
 by_cases U:b=e
 .subst U;exact Z
 .exact[u:k b u U q]
end
abbrev trk (h:o8)(H:Hp):oj o3:=(Vq h.objs.size).filter λa=>(H a).isSome
abbrev Mt (h:o8)(H:Hp):o8:=PySem.W.hideAll h (trk h H)
def EU (h:o8)(H:Hp):(Mt h H).objs.size=h.objs.size:=PySem.W.hideAll_size _ _
variable {o:Obj}
def Ms (e:h.get? b=u_ o)(n:H b=U_):(Mt h H).get? b=u_ o:=
 PySem.W.hideAll_get _ e λhm=>by
  let q:(H b).isSome=true:=(List.mem_filter.mp hm).2;rw[n] at q;simp at q
def Sc (e:(Mt h H).get? b=u_ o):h.get? b=u_ o/\H b=none:=by
 let U:h.get? b=u_ o:=PySem.W.of_hideAll (trk h H) e;rw[_,U];cases q:H b with
 |none=>rfl|some x=>
  let hm:b>trk h H:=List.mem_filter.mpr ⟨List.mem_range.mpr (uI U),by simp[q]⟩
  let z:(Mt h H).get? b=none:=PySem.W.hideAll_none (trk h H) hm;rw[z,0] at e
structure Mod (K:o0)(mg:Str->om o6)(base:o8):Prop where
 kin:K.In base
 glob:base.Ns Vz mg
 blt:∃mb,base.Ns Tq mb/\∀x:Str,x≠"__name__"->mb x=GG x
 nolimit:base.NoLimit
structure Cx where
 prog:o9
 w:og
 K:o0
 mg:Str->om o6
 base:o8
 A:oh
 N:oj Str
 s₀:o7
 H₀:Hp
 env:Env
 outer:oj Env
 stack:oj Env
 ex:oj o3
 fn:Str->Bool
 calm:Bool
 pn:oj (o3×Obj)
 xe:o6->o7->Prop
abbrev frs (l:oj Env):oj o3:=l.filterMap (·.frame)
nonrec abbrev Cx.fs (X:Cx):oj o3:=frs X.outer
abbrev Vis (sc:Vw)(x:Str):Prop:=sc.names.lookup x=u_ .local\/sc.names.lookup x=u_ .cell\/sc.names.lookup x=u_ .free
abbrev Loc (sc:Vw)(x:Str):Prop:=sc.names.lookup x=u_ .local\/sc.names.lookup x=u_ .cell
abbrev AeI (env:Env)(h:o8)(m:Str->om o6)(x:Str)(u:o6):Prop:=
 (env.kindOf x=u_ .local/\m x=u_ u)\/((env.kindOf x=u_ .cell\/env.kindOf x=u_ .free)/\∃c,env.cells.lookup x=u_ c/\h.IsCell c (u_ u))
structure Cx.Ok (X:Cx):Prop where
 mod:Mod X.K X.mg X.base
 kind:X.env.scope.kind= .function
 glob:X.env.globals=Vz
 blt:X.env.builtins=Tq
 above:X.s₀.heap.objs.size<=X.env.locals
 inj:∀x y c,X.env.cells.lookup x=u_ c->X.env.cells.lookup y=u_ c->x=y
 has:∀x,(X.env.kindOf x=u_ .cell\/X.env.kindOf x=u_ .free)->∃c,X.env.cells.lookup x=u_ c
 cab:∀x c,X.fn x=v_->X.env.cells.lookup x=u_ c->X.s₀.heap.objs.size<=c
 hd:X.calm=v_->X.A.handled=U_
 frames:X.A.frames=u_ X.stack
 stk:X.stack=X.outer\/(X.stack=X.env::X.outer/\X.env.frame=u_ X.env.locals)
 exf:∀b>X.ex,b≠X.env.locals/\∀x c,X.env.cells.lookup x=u_ c->c≠b
 bs:∀b o,X.base.get? b=u_ o->X.s₀.heap.get? b=u_ o/\X.H₀ b=U_
 bsz:X.base.objs.size<=X.s₀.heap.objs.size
 noex:∀b o,X.base.get? b=u_ o->b∉X.ex
 exfs:∀b>X.ex,b∉X.fs
 funs:X.s₀.heap.FunFrames X.base X.outer
 frf:∀b>X.fs,X.H₀ b=U_
structure Inv (X:Cx)(oq:oj (o3×Obj))(σ:oj (om V))(H:Hp)(s:o7):Prop where
 ok:X.Ok
 os:s.os=X.s₀.os
 bare:VX s.gens
 base:Un X.fs X.ex X.H₀ H X.s₀.heap s.heap
 loc:∃m,s.heap.Ns X.env.locals m/\∀(i:Nat) (x:Str) (v:V),X.N[i]? =u_ x->σ[i]? =u_ (u_ v)->Vis X.env.scope x->∃u,ik v u/\AeI X.env s.heap m x u
 cell:∀x c,X.env.cells.lookup x=u_ c->∃v,s.heap.IsCell c v
 free:H X.env.locals=U_
 freeC:∀x c,X.env.cells.lookup x=u_ c->H c=U_
 pin:∀p>X.pn++oq,s.heap.get? p.1=u_ p.2/\H p.1=U_/\p.1≠X.env.locals/\p.1∉X.fs/\∀v,p.2.data≠ .cell v
 hok:HOk X.prog X.w H s.heap
 len:↑σ=↑X.N
 tk:0<s.toks
section
variable {X:Cx}{oq:oj (o3×Obj)}{σ:oj (om V)}{H H':Hp}{s:o7}{h':o8}
def Cx.Ok.nofr (ok:X.Ok)(e:X.base.get? b=u_ o):b∉X.fs:=λU=>by
 have:=(ok.funs.mem U).1;rw[e,0] at this
def Inv.bs (I:#[I]):∀b o,X.base.get? b=u_ o->s.heap.get? b=u_ o/\H b=none:=λb o e=>
 [I.base.keep b o (I.ok.bs b o e).1 (I.ok.bs b o e).2 (I.ok.nofr e) (I.ok.noex b o e):I.base.free b o (I.ok.bs b o e).1 (I.ok.bs b o e).2 (I.ok.noex b o e)]
def Inv.bk (I:#[I]):∀b o,X.base.get? b=u_ o->s.heap.get? b=u_ o:=λb o e=>(I.bs b o e).1
def Inv.mod (I:#[I]):Mod X.K X.mg X.base:=I.ok.mod
def Inv.kIn (I:#[I]):X.K.In s.heap:=I.ok.mod.kin.keeps I.bk
def Inv.lt (I:#[I]):X.env.locals<#[0,s]:=let⟨_,hn,_⟩:=I.loc;hn.lt
def Inv.sz (I:#[I]):X.s₀.heap.objs.size<=#[0,s]:=vb I.ok.above (UC I.lt)
def Inv.nofs (I:#[I])(h:#[0,s]<=a):a∉X.fs:=λU=>by
 erw[I.ok.funs.mem U,_,o,Z,_,<-A8 (Vs (uI Z) (vb I.sz h)) (vM _)]
def Inv.cne (I:#[I]):∀x c,X.env.cells.lookup x=u_ c->c≠X.env.locals:=λx c e z=>by
 erw[I.cell x c e,v,o,ho,hd];erw[I.loc,m,[o',es,ep,U,Z,_],_];rw[z,U,0] at ho;rw[Z,0] at hd
def Inv.funs (I:#[I]):s.heap.FunFrames X.base X.outer:=by
 let all:∀(l:oj Env),(∀b>frs l,b>X.fs)->X.s₀.heap.FunFrames X.base l->s.heap.FunFrames X.base l:=by
  intro l
  induction l with
  |nil=>intro _ _;trivial|cons env r ih=>
   intro hs hl;erw[hl,hk,[L,o,U,hn,ho,hd],hr];let Z:L>X.fs:=hs L (by unfold frs;rw[U3,U];exact uj)
   obtain⟨sl,e⟩:=I.base.slot L o ho (I.ok.frf L Z) Z λz=>I.ok.exfs L z Z;exact⟨hk,(L,_,U,hn,e,hd),ih (λb hb=>hs b (by unfold frs;rw[U3,U];exact uh _ hb)) hr⟩
 exact all X.outer (λ_ hb=>hb) I.ok.funs
def Inv.stack (I:#[I]):s.heap.FunFrames X.base X.stack:=by
 rcases I.ok.stk with e|⟨e,U⟩
 .rw[e];exact I.funs
 .rw[e];erw[I.loc,m,hn,_];refine .cons (by rw[I.ok.kind];decide) U hn ?_ I.funs
  exact Heap.get?_none_of_le (vb I.ok.bsz I.ok.above)
def Inv.stkSub (I:#[I]):∀b>frs X.stack,b>X.env.locals::X.fs:=λb U=>by
 rcases I.ok.stk with e|⟨e,Z⟩
 .rw[e] at U;exact uh _ U
 .rw[e] at U;unfold frs at U;rwa[U3,Z] at U
def Inv.stkFree (I:#[I]):∀b>frs X.stack,H b=none:=λb U=>by
 rcases Ab.mp (I.stkSub b U) with e|U
 .rw[e];exact I.free
 .erw[I.ok.funs.mem U,_,o,Z,_,<-I.base.free b o Z (I.ok.frf b U) λz=>I.ok.exfs b z U]
def Inv.step {g':Array tQ}{t':Nat}{d':Drawn}{ch:oj o3}(I:#[I])
  (Z:∀b>ch,(b>X.ex\/X.s₀.heap.objs.size<=b)/\b≠X.env.locals/\(∀x c,X.env.cells.lookup x=u_ c->c≠b)/\∀p>X.pn++oq,p.1≠b)
  (keep:∀b o,b≠X.env.locals->b∉X.fs->b∉ch->s.heap.get? b=u_ o->H b=U_->h'.get? b=u_ o)
  (slot:∀b o,b≠X.env.locals->b>X.fs->b∉ch->s.heap.get? b=u_ o->H b=U_->∃sl,h'.get? b=u_ {o with slots:=sl}) (free:∀b o,b∉ch->s.heap.get? b=u_ o->H b=U_->H' b=U_)
  (there:∀b o,b∉ch->s.heap.get? b=u_ o->∃o',h'.get? b=u_ o')
  (tups:∀b xs,H b=u_ (¬xs)->H' b=u_ (¬xs)) (frzs:∀b o u,H b=u_ (.frz o u)->H' b=u_ (.frz o u)) (tbls:∀b ps,H b=u_ (.tbl ps)->∃more,H' b=u_ (.tbl (ps++more)))
  (ns:∀m,s.heap.Ns X.env.locals m->h'.Ns X.env.locals m) (hok:HOk X.prog X.w H' h') (hg:VX g') (ht:0<t':=by ac_rfl):
  Inv X oq σ H' {s with heap:=h',gens:=g',drawn:=d',toks:=t'}:=by
 let ae:∀b o,X.s₀.heap.get? b=u_ o->b≠X.env.locals:=λb o e=>uY (Vs (uI e) I.ok.above);let ad:∀b o,X.s₀.heap.get? b=u_ o->b∉X.ex->b∉ch:=λb o e U hb=>by
  rcases(Z b hb).1 with z|z
  .exact U z
  .exact A8 (Vs (uI e) z) (vM _)
 let aa:∀x c,X.env.cells.lookup x=u_ c->∀v,s.heap.IsCell c v->h'.IsCell c v:=λx c e v ⟨o,ho,hd⟩=>by
  let ac:c∉ch:=λz=>(Z c z).2.2.1 x c e rfl;by_cases hc:c>X.fs
  .erw[slot c o (I.cne x c e) hc ac ho (I.freeC x c e),sl,q,<-[_:q:hd]]
  .exact[o:keep c o (I.cne x c e) hc ac ho (I.freeC x c e):hd]
 rw[_,I.ok,I.os,hg,(λb o e n hb U=>?_,λb o e n hb U=>?_,λb o e n U=>?_,λb o e U=>?_,λb xs e=>tups b xs (I.base.tups b xs e),λb o xs e=>frzs b o xs (I.base.frzs b o xs e),λb ps e=>?_),?_,λx c e=>?_,?_,λx c e=>?_,λp hp=>?_,hok,I.len,ht]
 .exact keep b o (ae b o e) hb (ad b o e U) (I.base.keep b o e n hb U) (I.base.free b o e n U)
 .erw[I.base.slot b o e n hb U,sl,e1];erw[slot b _ (ae b o e) hb (ad b o e U) e1 (I.base.free b o e n U),af,e2,<-[af:e2]]
 .erw[I.base.there b o e U,o',e1,<-free b o' (ad b o e U) e1 (I.base.free b o e n U)]
 .erw[I.base.there b o e U,o',e1,<-there b o' (ad b o e U) e1]
 .erw[I.base.tbls b ps e,m1,e1];erw[tbls b _ e1,m2,e2,<-⟨m1++m2,by rw[e2,TJ]⟩]
 .erw[I.loc,m,hn,hl];rw[_,m,ns m hn,λi x v e1 e2 e3=>?_];erw[hl i x v e1 e2 e3,u,r,l];rw[_,u,r];rcases l with l|⟨k,c,e,z⟩
  .exact .inl l
  .exact .inr (k,c,e,aa x c e _ z)
 .erw[I.cell x c e,v,z,<-[v:aa x c e v z]]
 .erw[I.loc,m,[o,_,_,ho,_],_,<-free _ o (λz=>(Z _ z).2.1 rfl) ho I.free]
 .erw[I.cell x c e,v,o,ho,hd,<-free c o (λz=>(Z c z).2.2.1 x c e rfl) ho (I.freeC x c e)]
 .erw[I.pin p hp,e,n,ne,nf,d];let ac:p.1∉ch:=λz=>(Z p.1 z).2.2.2 p hp rfl;exact(keep p.1 p.2 ne nf ac e n,free p.1 p.2 ac e n,ne,nf,d)
variable {t':Nat}
def Inv.un (I:#[I])(u:Un X.fs [] H H' s.heap h')(hok:HOk X.prog X.w H' h')(ht:0<t':=by ac_rfl):Inv X oq σ H' {s with heap:=h',toks:=t'}:=by
 erw[id I.loc,m,[o,es,ep,ho,r],_];obtain⟨sl,hL⟩:=u.any ho I.free (by simp)
 exact I.step (g':=s.gens) (d':=s.drawn) (ch:= []) (λ_ z=>nomatch z) (λb o _ Z _ e n=>u.keep b o e n Z (by simp)) (λb o _ Z _ e n=>u.slot b o e n Z (by simp)) (λb o _ e n=>u.free b o e n (by simp)) (λb o _ e=>u.there b o e (by simp)) u.tups u.frzs u.tbls (λm' hm=>by
  erw[hm,o',aa,ac,U,r'];rw[ho,0] at U;exact(_,aa,ac,hL,r')) hok I.bare
def Inv.call {g':Array tQ}{t':Nat}{d':Drawn}{ch:oj o3}(I:#[I])(u:Un (frs X.stack) ch H H' s.heap h')(hok:HOk X.prog X.w H' h')(hg:VX g')
  (Z:∀b>ch,(b>X.ex\/X.s₀.heap.objs.size<=b)/\b≠X.env.locals/\(∀x c,X.env.cells.lookup x=u_ c->c≠b)/\∀p>X.pn++oq,p.1≠b) (ht:0<t':=by ac_rfl):
  Inv X oq σ H' {s with heap:=h',gens:=g',drawn:=d',toks:=t'}:=by
 erw[id I.loc,m,[o,es,ep,ho,r],_];obtain⟨sl,hL⟩:=u.any ho I.free λz=>(Z _ z).2.1 rfl;exact I.step (ch:=ch) Z (λb o hL hb U e n=>u.keep b o e n (λz=>(Ab.mp (I.stkSub b z)).elim hL hb) U) (λb o _ _ U e n=>u.any e n U) (λb o U e n=>u.free b o e n U) (λb o U e=>u.there b o e U) u.tups u.frzs u.tbls (λm' hm=>by
  erw[hm,o',ac,ad,aa,r'];rw[ho,0] at aa;exact(_,ac,ad,hL,r')) hok hg
def Inv.turned {t':Nat}{it:o3}(I:#[I])(k:∀b o,b≠it->s.heap.get? b=u_ o->h'.get? b=u_ o)(hn:H it=U_)(hL:it≠X.env.locals)
  (h1:it>X.ex\/X.s₀.heap.objs.size<=it) (h2:∀x c,X.env.cells.lookup x=u_ c->c≠it) (h3:∀p>X.pn++oq,p.1≠it) (ht:0<t':=by ac_rfl):Inv X oq σ H {s with heap:=h',toks:=t'}:=by
 let Z:∀b u,H b=u_ u->b≠it:=λb u e z=>by rw[z,hn,0] at e
 refine I.step (g':=s.gens) (d':=s.drawn) (ch:= [it]) (λb hb=>?_) (λb o _ _ U e _=>k b o (λz=>U (by simp[z])) e) (λb o _ _ U e _=>⟨o.slots,k b o (λz=>U (by simp[z])) e⟩) (λ_ _ _ _ n=>n)
  (λb o U e=>⟨o,k b o (λz=>U (by simp[z])) e⟩) (λ_ _ e=>e) (λ_ _ _ e=>e) (λb ps e=>⟨#[],by rw[e];simp⟩) (λm hm=>?_) (λb u e=>?_) I.bare
 .let e:b=it:=by simpa using hb
  subst e;exact(h1,hL,h2,h3)
 .erw[hm,o,es,ep,ho,r,<-(o,es,ep,k _ o (U4 hL) ho,r)]
 .refine(I.hok b u e).stay (λc v U q=>k c v ?_ q) (λ_ q=>q) λ_ _ q=>q;rcases U with z|z
  .rw[z];exact Z b u e
  .exact Z c _ z
def Inv.tok (I:#[I])(t:Nat)(U:0<t:=by ac_rfl):Inv X oq σ H {s with toks:=t}:=I.un (h':=s.heap) (t':=t) Un.refl I.hok
def Inv.kept (I:#[I])(k:∀b u,s.heap.get? b=u_ u->h'.get? b=u_ u)(U:0<t':=by ac_rfl):Inv X oq σ H {s with heap:=h',toks:=t'}:=I.un (Un.kept k) (I.hok.kept k)
def Inv.laid {o:HO}(I:#[I])(k:∀b u,s.heap.get? b=u_ u->h'.get? b=u_ u)(U:#[0,s]<=a)(new:yj X.prog X.w (upd H a o) h' a o)(Z:0<t':=by ac_rfl):
  Inv X oq σ (upd H a o) {s with heap:=h',toks:=t'}:=I.un (Un.laid k U (I.hok.fresh U)) (I.hok.laid k U new)
def Inv.write {x e:o3}{o:HO}{t':Nat}(I:#[I])(mu:Mut (H x))(Z:e=x\/H e=u_ (.own x))(k:∀b u,b≠e->s.heap.get? b=u_ u->h'.get? b=u_ u)(U:∃u,h'.get? e=u_ u)
  (new:yj X.prog X.w (upd H x o) h' x o) (ht:0<t':=by ac_rfl):Inv X oq σ (upd H x o) {s with heap:=h',toks:=t'}:=I.un (Un.write mu Z k U) (I.hok.write mu Z k U new)
def Inv.pins_of {U:oj (o3×Obj)}(I:#[I])(h:∀p>U,s.heap.get? p.1=u_ p.2/\H p.1=U_/\p.1≠X.env.locals/\p.1∉X.fs/\∀v,p.2.data≠ .cell v):Inv X U σ H s:=
 (I.ok,I.os,I.bare,I.base,I.loc,I.cell,I.free,I.freeC,λp Z=>(Ae.mp Z).elim (λz=>I.pin p (vO _ z)) (h p),I.hok,I.len,I.tk)
variable {i j:Nat}{x:Str}
def BK {N:oj Str}(U:N.Nodup)(a:N[i]? =u_ x)(b:N[j]? =u_ x):i=j:=by
 erw[Ag.mp a,h1,Z];erw[Ag.mp b,h2,e2,<-(List.getElem_inj U).mp (Z.trans e2.symm)]
def nQ {M:G_}{A:oh}{E:o6->o7->Prop}{i:Nat}{x:Str}{v:V}{u:o6}{Q:Unit->o7->Prop}(I:#[I])(hN:X.N.Nodup)(hi:X.N[i]? =u_ x)(hx:Loc X.env.scope x)(r:ik v u)
  (h:∀s',Inv X oq (σ.set i (u_ v)) H s'->(∃a,VO a s.heap s'.heap/\(a=X.env.locals\/X.env.cells.lookup x=u_ a))->Q Gu s') (hf:X.fn x=v_\/X.env.scope.names.lookup x=u_ .local:=by first|exact .inl rfl|exact .inr rfl|assumption):Ve M A (HH X.env x u) Q E s:=by
 erw[id I.loc,m,hn,hl];let ad:(X.env.scope.kind== .class||(X.env.scope.kind== .module&&X.env.locals !=X.env.globals))=false:=by rw[I.ok.kind];rfl
 let ae:i<↑σ:=by rw[I.len];exact(Ag.mp hi).1
 let cne:=I.cne;let Z:∀{a:o3}{h':o8},(∃o,s.heap.get? a=u_ o/\H a=U_)->VO a s.heap h'->HOk X.prog X.w H h':=λ{a h'} ha U b ob e=>by
  erw[ha,_,_,aa];refine(I.hok b ob e).stay (λc w' hc q=>(U.2 c ?_).trans q) (λ_ q=>q) λ_ _ q=>q;rintro rfl;rcases hc with rfl|hc
  .rw[aa,0] at e
  .rw[aa,0] at hc
 rcases hx with hk|hk
 .refine FB hk hn (λh' al U=>?_) ad;erw[id hn,oL,_,_,am,_];refine h _ (I.ok,I.os,I.bare,(λb o e n hb hx=>?_,λb o e n hb hx=>?_,I.base.free,λb o e hx=>?_,I.base.tups,I.base.frzs,I.base.tbls),[_:al:λj y v' e1 e2 e3=>?_],λy c e=>?_,I.free,I.freeC,λp hp=>?_,Z [oL:am:I.free] U,by simpa using I.len,by first|exact I.tk|exact tT _) [_:U:.inl rfl]
  .exact(U.2 b (uY (Vs (uI e) I.ok.above))).trans (I.base.keep b o e n hb hx)
  .erw[I.base.slot b o e n hb hx,sl,e1,<-[sl:(U.2 b (uY (Vs (uI e) I.ok.above))).trans e1]]
  .erw[I.base.there b o e hx,o',e1,<-[o':(U.2 b (uY (Vs (uI e) I.ok.above))).trans e1]]
  .by_cases hj:j=i
   .subst hj;rw[hi,0] at e1;rw[Rg ae,0] at e2;exact⟨u,r,.inl ⟨hk,by simp⟩⟩
   .rw[rp (U4 hj)] at e2;erw[hl j y v' e1 e2 e3,u',r',q];rw[_,u',r'];rcases q with⟨k,e⟩|⟨k,c,e,z⟩
    .refine .inl [k:?_];have:y≠x:=λe=>hj (BK hN e1 (e▸hi));simp[this,e]
    .exact .inr (k,c,e,z.sameBut U (cne y c e))
  .erw[I.cell y c e,w',z,<-[w':z.sameBut U (cne y c e)]]
  .erw[I.pin p hp,e,n,ne,nf,d,<-((U.2 p.1 ne).trans e,n,ne,nf,d)]
 .let ac:X.fn x=true:=by
   rcases hf with z|z
   .exact z
   .rw[z,0] at hk
  erw[I.ok.has x (.inl hk),c,hc];erw[I.cell x c hc,w',z];refine wpAny_storeName_cell I.ok.kind hk hc z (λh' af U=>?_);erw[id z,oc,ag,ah];refine h {s with heap:=h'} (I.ok,I.os,I.bare,(λb o e n hb hx=>?_,λb o e n hb hx=>?_,I.base.free,λb o e hx=>?_,I.base.tups,I.base.frzs,I.base.tbls),[m:hn.sameBut U (U4 (cne x c hc)):λj y v' e1 e2 e3=>?_],λy c' e=>?_,I.free,I.freeC,λp hp=>?_,Z [oc:ag:I.freeC x c hc] U,by simpa using I.len,by first|exact I.tk|exact tT _) [c:U:.inr hc]
  .exact(U.2 b (uY (Vs (uI e) (I.ok.cab x c ac hc)))).trans (I.base.keep b o e n hb hx)
  .erw[I.base.slot b o e n hb hx,sl,e1,<-[sl:(U.2 b (uY (Vs (uI e) (I.ok.cab x c ac hc)))).trans e1]]
  .erw[I.base.there b o e hx,o',e1,<-[o':(U.2 b (uY (Vs (uI e) (I.ok.cab x c ac hc)))).trans e1]]
  .by_cases hj:j=i
   .subst hj;rw[hi,0] at e1;rw[Rg ae,0] at e2;exact[u:r:.inr (.inl hk,c,hc,af)]
   .rw[rp (U4 hj)] at e2;erw[hl j y v' e1 e2 e3,u',r',q];rw[_,u',r'];rcases q with q|⟨k,c',e,z'⟩
    .exact .inl q
    .refine .inr (k,c',e,z'.sameBut U ?_);rintro rfl;exact hj (BK hN e1 (I.ok.inj _ _ _ e hc▸hi))
  .by_cases ak:c'=c
   .subst ak;exact[_:af]
   .erw[I.cell y c' e,w2,z2,<-[w2:z2.sameBut U ak]]
  .erw[I.pin p hp,e,n,ne,nf,d];rw[_,(U.2 p.1 ?_).trans e,n,ne,nf,d];intro q;rw[q,ag] at e;let q':oc=p.2:=uN e;exact d w' (by rwa[<-q'])
def KP {M:G_}{A:oh}{E:o6->o7->Prop}{i:Nat}{x:Str}{v:V}{u:o6}{Q:Unit->o7->Prop}(I:#[I])(U:X.N.Nodup)(hi:X.N[i]? =u_ x)(Z:Loc X.env.scope x)(r:ik v u)
  (h:∀s',Inv X oq (σ.set i (u_ v)) H s'->Q Gu s') (hf:X.fn x=v_\/X.env.scope.names.lookup x=u_ .local:=by first|exact .inl rfl|exact .inr rfl|assumption):Ve M A (HH X.env x u) Q E s:=
 nQ I U hi Z r (λs' I' _=>h s' I') hf
def Inv.call' {s':o7}{ch:oj o3}(I:#[I])(Z:s'.os=s.os)(u:Un (frs X.stack) ch H H' s.heap s'.heap)(hok:HOk X.prog X.w H' s'.heap)(hg:VX s'.gens)
  (U:∀b>ch,(b>X.ex\/X.s₀.heap.objs.size<=b)/\b≠X.env.locals/\(∀x c,X.env.cells.lookup x=u_ c->c≠b)/\∀p>X.pn++oq,p.1≠b) (ht:0<s'.toks:=by ac_rfl):Inv X oq σ H' s':=by
 erw[s',h',g',d',t',o'];let e:o'=s.os:=Z;subst e;exact I.call (g':=g') (t':=t') (d':=d') u hok hg U
end
nonrec abbrev XK:=o6->om o3->Hp->Prop
nonrec abbrev St:=oj (om V)
nonrec abbrev VK:=V->Hp->Prop
nonrec abbrev TE:=St->Hp->VK->Prop
nonrec abbrev TT:=St->Hp->(Bool->Hp->Prop)->Prop
nonrec abbrev TA:=St->Hp->(oj V->Hp->Prop)->Prop
structure mY where
 nx:St->Hp->Prop
 rt:VK
 bk:St->Hp->Prop:=λ_ _=>False
 ct:St->Hp->Prop:=λ_ _=>False
nonrec abbrev TS:=mY->St->Hp->Prop
abbrev EP (X:Cx)(oq:oj (o3×Obj))(σ:St)(Q:VK)(u:o6)(s':o7):Prop:=∃v H',Inv X oq σ H' s'/\ik v u/\Q v H'
abbrev TP (X:Cx)(oq:oj (o3×Obj))(σ:St)(Q:Bool->Hp->Prop)(b:Bool)(s':o7):Prop:=∃H',Inv X oq σ H' s'/\Q b H'
abbrev AP (X:Cx)(oq:oj (o3×Obj))(σ:St)(Q:oj V->Hp->Prop)(us:oj o6)(s':o7):Prop:=∃vs H',Inv X oq σ H' s'/\iw vs us/\Q vs H'
abbrev SP (X:Cx)(oq:oj (o3×Obj))(D:mY)(f:Flow)(s':o7):Prop:=
 match f with
 | .next=>∃σ' H',Inv X oq σ' H' s'/\D.nx σ' H'| .brk=>∃σ' H',Inv X oq σ' H' s'/\D.bk σ' H'| .cont=>∃σ' H',Inv X oq σ' H' s'/\D.ct σ' H'| .ret u=>∃v σ' H',Inv X oq σ' H' s'/\ik v u/\D.rt v H'
abbrev PE (X:Cx)(e:Expr)(t:TE):Prop:=
 ∀(oq:oj (o3×Obj)) (s:o7) (σ:St) (H:Hp) (Q:VK),#[I]->t σ H Q->Ve #[X,X] X.A (eval e X.env) (EP X oq σ Q) X.xe s
abbrev PT (X:Cx)(e:Expr)(t:TT):Prop:=
 ∀(oq:oj (o3×Obj)) (s:o7) (σ:St) (H:Hp) (Q:Bool->Hp->Prop),#[I]->t σ H Q->Ve #[X,X] X.A (isTrue e X.env (eval e X.env)) (TP X oq σ Q) X.xe s
abbrev PW (X:Cx)(e:Expr)(t:TT):Prop:=
 ∀(whole:Sem o6) (oq:oj (o3×Obj)) (s:o7) (σ:St) (H:Hp) (Q:Bool->Hp->Prop),#[I]->t σ H Q->Ve #[X,X] X.A (isTrue e X.env whole) (TP X oq σ Q) X.xe s
variable {X:Cx}
def PW.pt {e:Expr}{t:TT}(h:PW X e t):PT X e t:=h _
abbrev PA (X:Cx)(es:oj Expr)(t:TA):Prop:=
 ∀(pos:Pos) (oq:oj (o3×Obj)) (s:o7) (σ:St) (H:Hp) (Q:oj V->Hp->Prop),#[I]->t σ H Q->Ve #[X,X] X.A (TF (Vo pos (Vi es X.env))) (AP X oq σ Q) X.xe s
abbrev PS (X:Cx)(st:Stmt)(t:TS):Prop:=
 ∀(oq:oj (o3×Obj)) (s:o7) (σ:St) (H:Hp) (D:mY),#[I]->t D σ H->Ve #[X,X] X.A (exec st X.env) (SP X oq D) X.xe s
abbrev PSs (X:Cx)(st:oj Stmt)(t:TS):Prop:=
 ∀(oq:oj (o3×Obj)) (s:o7) (σ:St) (H:Hp) (D:mY),#[I]->t D σ H->Ve #[X,X] X.A (execs st X.env) (SP X oq D) X.xe s
variable {A:oh}{s:o7}
def thn {α:Type}{t:Sem α}{Q U:α->o7->Prop}{M:G_}{E:o6->o7->Prop}(h:Ve M A t Q E s)(Z:∀a s,Q a s->U a s):Ve M A t U E s:=vz h Z λ_ _ x=>x
section
variable {X:Cx}
inductive AaA (i:Nat)(σ:St)(H:Hp)(Q:VK):Prop
 |mk (v:_)(_:σ[i]? =u_ (u_ v))(_:Q v H)
abbrev tC (v:V):TE:=λ_ H Q=>Q v H
variable {i:Nat}{x:Str}
def Abg {pos:Pos}(hN:X.N[i]? =u_ x)(hv:Vis X.env.scope x)(hd:(x==("__debug__":Str))=false:=by decide)(aa:(x==("__classdict__":Str))=false:=by decide):PE X (.Name x pos) (AaA i):=by
 rw[2,Q,I,h];erw[h,v,e,h];erw[I.loc,m,hn,hl];erw[hl i x v hN e hv,u,r,l];let fin:EP X oq σ Q u s:=(v,H,I,r,h);rcases l with⟨Z,hm⟩|⟨Z,c,hc,U⟩
 .exact TM (RQ I.ok.kind Z hn hm fin) hd
 .rcases Z with Z|Z
  .exact TM (FI I.ok.kind Z hc U fin) hd
  .exact TM (wpAny_loadName_free I.ok.kind Z hc U fin aa) hd
def qh {i j pos}:PE X (.Constant (.int i) j pos) (tC (.int i)):=λ_ _ _ H _ I h=>wpAny_Constant_int (.int i,H,I.tok _,⟨0⟩,h)
def jf {b j pos}:PE X (.Constant (.bool b) j pos) (tC (.bl b)):=λ_ _ _ H _ I h=>Constant_bool (.bl b,H,I,1,h)
def qR {j pos}:PE X (.Constant .none j pos) (tC .non):=λ_ _ _ H _ I h=>Constant_none (.non,H,I,1,h)
def ql {x j pos}:PE X (.Constant (!x) j pos) (tC (!x)):=λ_ _ _ H _ I h=>Calls.Constant_str (!x,H,I.tok _,⟨0⟩,h)
abbrev Gl (X:Cx)(x:Str):Prop:=X.env.kindOf x=u_ .globalImplicit
def wu {E:o6->o7->Prop}{oq:oj (o3×Obj)}{s:o7}{σ:St}{H:Hp}{x:Str}{u:o6}{pos:Pos}{Q:o6->o7->Prop}(I:#[I])(U:Gl X x)(hm:X.mg x=u_ u)(h:Q u s)
  (hd:(x==("__debug__":Str))=false:=by decide):Ve #[X,X] X.A (eval (.Name x pos) X.env) Q E s:=
 Ft I.ok.kind U (Calls.loadGlobal_global (by rw[I.ok.glob];exact I.mod.glob.keeps I.bk) hm h) hd
def Z6 {E:o6->o7->Prop}{oq:oj (o3×Obj)}{s:o7}{σ:St}{H:Hp}{x:Str}{u:o6}{pos:Pos}{Q:o6->o7->Prop}(I:#[I])(U:Gl X x)(hm:X.mg x=U_)(Z:GG x=u_ u)(h:Q u s)
  (hn:x≠"__name__":=by decide) (hd:(x==("__debug__":Str))=false:=by decide):Ve #[X,X] X.A (eval (.Name x pos) X.env) Q E s:=by
 erw[I.mod.blt,mb,h1,h2,<-Ft I.ok.kind U (Calls.loadGlobal_builtin (by rw[I.ok.glob];exact I.mod.glob.keeps I.bk) hm (by rw[I.ok.blt];exact h1.keeps I.bk) ((h2 x hn).trans Z) h) hd]
variable {v:V}{u:o6}
def Aw {pos:Pos}(U:Gl X x)(hm:X.mg x=u_ u)(r:ik v u)(hd:(x==("__debug__":Str))=false:=by decide):PE X (.Name x pos) (tC v):=
 λ_ _ _ H _ I h=>wu I U hm (v,H,I,r,h) hd
def yi {x:Str}{v:V}{u:o6}{pos:Pos}(U:Gl X x)(hm:X.mg x=U_)(Z:GG x=u_ u)(r:ik v u)(hn:x≠"__name__")(hd:(x==("__debug__":Str))=Vd):PE X (.Name x pos) (tC v):=
 λ_ _ _ H _ I h=>Z6 I U hm Z (v,H,I,r,h) hn hd
variable {a b:Expr}{ta tb:TE}{pos:Pos}
abbrev PC (X:Cx)(op:hV)(a b:Expr)(t:TE):Prop:=
 ∀(oq:oj (o3×Obj)) (s:o7) (σ:St) (H:Hp) (Q:VK),#[I]->t σ H Q->
  Ve #[X,X] X.A (eval a X.env) (λv s₁=>Ve #[X,X] X.A (eval b X.env) (λu s₂=>Ve #[X,X] X.A (Vn op v u) (EP X oq σ Q) X.xe s₂) X.xe s₁) X.xe s
inductive ItB (Q:(Bool->Hp->Prop))(x:V)(H1:Hp):Prop
 |mk (c:_)(_:x= .bl c)(_:Q c H1)
abbrev tB (t:TE):TT:=λσ H Q=>t σ H λx H1=>ItB Q x H1
def wt {U:hV}{t:TE}(h:PC X U a b t)(h1:Hb U b=Vd):PT X (.Compare a [U] [b] pos) (tB t):=by
 rw[2,Q,I,Z];refine Rt (thn (h oq s σ H _ I Z) λv s1 h1=>thn h1 λu s2 h2=>thn h2 λc s3 zq=>?_) h1;erw[zq,x,H1,I1,r1,q1];erw[q1,d,rfl,q];rw[r1,0];exact vE [H1:I1:q]
def Qd {e:Expr}{t:TE}(h:PE X e t)(Z:∀U,isTrue e X.env U=(do let v<-U;GJ e.pos;gV [v] (truthy v))):PT X e (tB t):=by
 rw[2,Q,I,hw];refine FL (thn (h oq s σ H _ I hw) λv s1 zq=>?_) (Z _);erw[zq,x,H1,I1,r1,q1];erw[q1,d,rfl,q];rw[r1,0];exact vE [H1:I1:q]
variable {tA tB':TT}{rest:oj Expr}
abbrev Aem (t u:TT):TT:=λσ H Q=>t σ H λc H1=>if c=v_ then u σ H1 Q else Q Vd H1
abbrev tOr (t u:TT):TT:=λσ H Q=>t σ H λc H1=>if c=v_ then Q v_ H1 else u σ H1 Q
abbrev Aeh (t:TT):TT:=λσ H Q=>t σ H λc H1=>Q (!(c)) H1
def YJ (ha:PT X a tA):PW X (.BoolOp .And [a] pos) tA:=by
 intro U oq s σ H Q I h;refine isTrue_and (thn (ha oq s σ H Q I h) λc s1 e=>?_);cases c with
 |true=>exact isTrue_and_nil e|false=>exact e
def Jm (ha:PT X a tA):PW X (.BoolOp .Or [a] pos) tA:=by
 intro U oq s σ H Q I h;refine isTrue_or (thn (ha oq s σ H Q I h) λc s1 e=>?_);cases c with
 |false=>exact isTrue_or_nil e|true=>exact e
def jT (ha:PT X a tA)(Z:PW X (.BoolOp .And (b::rest) pos) tB'):PW X (.BoolOp .And (a::b::rest) pos) (Aem tA tB'):=by
 intro wh oq s σ H Q I h;refine isTrue_and (thn (ha oq s σ H _ I h) λc s1 zq=>?_);erw[zq,H1,U,q1];cases c with
 |true=>exact Z wh oq s1 σ H1 Q U q1|false=>exact[H1:U:q1]
def zA (ha:PT X a tA)(Z:PW X (.BoolOp .Or (b::rest) pos) tB'):PW X (.BoolOp .Or (a::b::rest) pos) (tOr tA tB'):=by
 intro wh oq s σ H Q I h;refine isTrue_or (thn (ha oq s σ H _ I h) λc s1 zq=>?_);erw[zq,H1,U,q1];cases c with
 |true=>exact[H1:U:q1]|false=>exact Z wh oq s1 σ H1 Q U q1
def Qr (ha:PT X a tA):PT X (.UnaryOp .Not a pos) (Aeh tA):=by
 rw[2,Q,I,h];exact isTrue_not (ha oq s σ H (λc H1=>Q (!(c)) H1) I h)
inductive Aco (tb:TE)(σ:St)(Q:VK)(x:V)(H1:Hp):Prop
 |mk (c:_)(_:x= .bl c)(_:if c=v_ then tb σ H1 Q else Q (.bl Vd) H1)
abbrev AcV (ta tb:TE):TE:=λσ H Q=>ta σ H λx H1=>Aco tb σ Q x H1
inductive AdC (tb:TE)(σ:St)(Q:VK)(x:V)(H1:Hp):Prop
 |mk (c:_)(_:x= .bl c)(_:if c=v_ then Q (.bl v_) H1 else tb σ H1 Q)
abbrev Aeg (ta tb:TE):TE:=λσ H Q=>ta σ H λx H1=>AdC tb σ Q x H1
inductive Acm (Q:VK)(x:V)(H1:Hp):Prop
 |mk (c:_)(_:x= .bl c)(_:Q (.bl (!(c))) H1)
abbrev AcN (ta:TE):TE:=λσ H Q=>ta σ H λx H1=>Acm Q x H1
def Xc {op}{t:TE}(h:PE X a t):PE X (.BoolOp op [a] pos) t:=λoq s σ H Q I U=>BoolOp_one (h oq s σ H Q I U)
def ze (ha:PE X a ta)(Z:PE X (.BoolOp .And (b::rest) pos) tb):PE X (.BoolOp .And (a::b::rest) pos) (AcV ta tb):=by
 rw[2,Q,I,h];refine BoolOp_and (thn (ha oq s σ H _ I h) λv s1 zq=>?_);erw[zq,x,H1,U,r1,q1];erw[q1,c,rfl,q1];rw[r1,0];refine vE ?_;cases c with
 |true=>exact Z oq s1 σ H1 Q U q1|false=>exact(.bl Vd,H1,U,1,q1)
def Ac5 (ha:PE X a ta)(Z:PE X (.BoolOp .Or (b::rest) pos) tb):PE X (.BoolOp .Or (a::b::rest) pos) (Aeg ta tb):=by
 rw[2,Q,I,h];refine BoolOp_or (thn (ha oq s σ H _ I h) λv s1 zq=>?_);erw[zq,x,H1,U,r1,q1];erw[q1,c,rfl,q1];rw[r1,0];refine vE ?_;cases c with
 |false=>exact Z oq s1 σ H1 Q U q1|true=>exact(.bl v_,H1,U,1,q1)
def Abi (ha:PE X a ta):PE X (.UnaryOp .Not a pos) (AcN ta):=by
 rw[2,Q,I,h];refine UnaryOp_ (thn (ha oq s σ H _ I h) λv s1 zq=>?_);erw[zq,x,H1,U,Z,q1];erw[q1,c,rfl,q1];rw[Z,0];exact not_of (vE (.bl (!(c)),H1,U,1,q1))
abbrev tIf (t:TT)(ta tb:TE):TE:=λσ H Q=>t σ H λc H1=>if c=v_ then ta σ H1 Q else tb σ H1 Q
def ye {c:Expr}(Z:PT X c tA)(ha:PE X a ta)(hb:PE X b tb):PE X (.IfExp c a b pos) (tIf tA ta tb):=by
 rw[2,Q,I,h];refine wpAny_IfExp (thn (Z oq s σ H _ I h) λd s1 zq=>?_);erw[zq,H1,U,q1];cases d with
 |true=>exact ha oq s1 σ H1 Q U q1|false=>exact hb oq s1 σ H1 Q U q1
end
abbrev SqL (K:o0)(H:Hp)(a:o3)(xs:oj V):Prop:=
 Rd H a (.lst xs)\/
  ∃(o:Obj) (its:Array o6) (n:Nat),K.lookup a=u_ o/\o.cls= .type "list"/\o.dict=U_/\o.data= .seq its n/\its.size<=Vh/\iw xs its.toList
abbrev SqT (K:o0)(H:Hp)(a:o3)(xs:oj V):Prop:=
 Rd H a (¬xs)\/
  ∃(o:Obj) (its:Array o6) (n:Nat),K.lookup a=u_ o/\o.cls= .type "tuple"/\o.data= .seq its n/\its.size<=Vh/\iw xs its.toList
abbrev AeG:o6->om V
 | .none=>u_ .non| .bool b=>u_ (.bl b)| .int i _=>u_ (.int i)| .str x _=>u_ (!x)| .bytes b _=>u_ (.byt b)| .float b _=>u_ (.flt b)| .ref a=>u_ (-a)| .type n=>u_ (.ty n)|_=>U_
variable {u:o6}
def ik.abs {x:V}(r:ik x u):AeG u=u_ x:=by
 cases x with
 |non=>rw[r,0];rfl|bl _=>rw[r,0];rfl|int _=>erw[r,t,rfl];rfl|str _=>erw[r,t,rfl];rfl|byt _=>erw[r,t,rfl];rfl|flt _=>erw[r,t,rfl];rfl|ref _=>rw[r,0];rfl|ty _=>rw[r,0];rfl
variable {y:V}
def ik.inj {x:V}(r:ik x u)(q:ik y u):x=y:=uN (r.abs.symm.trans q.abs)
def iw.inj:∀{xs ys:oj V}{us:oj o6},iw xs us->iw ys us->xs=ys
 |_,_,_,.nil,.nil=>rfl|_,_,_,.cons r t,.cons r' t'=>by rw[r.inj r',iw.inj t t']
section
variable {X:Cx}{oq:oj (o3×Obj)}{σ:St}{H:Hp}{s:o7}{a:o3}{xs ys:oj V}
variable {K:o0}
def SqL.of (h:H a=u_ (.lst xs)):SqL K H a xs:= .inl (.inl h)
def SqT.of (h:H a=u_ (¬xs)):SqT K H a xs:= .inl (.inl h)
def Inv.list (I:#[I])(h:SqL X.K H a xs):∃its:oj o6,iw xs its/\PlainL s.heap a its.toArray/\↑xs<=sizeLine:=by
 rcases h with h|⟨o,its,n,U,Z,hd,hs,hz,r⟩
 .erw[h.ok I.hok,z,its,n,r,e,<-(its,r,(_,n,e,1,1,1),z)]
 .rw[_,its.toList,r,(o,n,I.kIn a o U,Z,hd,by simpa using hs)]
  let e:=↑r;simp![vt] at e;omega
def Inv.tuple (I:#[I])(h:SqT X.K H a xs):∃its:oj o6,iw xs its/\GS s.heap a its.toArray/\↑xs<=sizeLine:=by
 rcases h with h|⟨o,its,n,U,Z,hs,hz,r⟩
 .erw[h.ok I.hok,z,its,r,p,<-(its,r,p,z)]
 .rw[_,its.toList,r,(o,I.kIn a o U,Z,n,by simpa using hs)]
  let e:=↑r;simp![vt] at e;omega
def Inv.list_inj (I:#[I])(h:SqL X.K H a xs)(h':SqL X.K H a ys):xs=ys:=by
 erw[I.list h,its,r,[o,n,e,_,_,d],_];erw[I.list h',its',r',[o',n',U,_,_,d'],_];rw[e,0] at U;rw[d] at d';injection d' with Z _
 have:its=its':=by simpa using Aa Fw Z
 subst this;exact r.inj r'
def Inv.tuple_inj (I:#[I])(h:SqT X.K H a xs)(h':SqT X.K H a ys):xs=ys:=by
 erw[I.tuple h,its,r,[o,e,_,n,d],_];erw[I.tuple h',its',r',[o',U,_,n',d'],_];rw[e,0] at U;rw[d] at d';injection d' with Z _
 have:its=its':=by simpa using Aa Fw Z
 subst this;exact r.inj r'
end
nonrec abbrev Cx.wish (X:Cx)(E:o6->o7->Prop):Cx:={X with xe:=E}
nonrec abbrev Cx.nox (X:Cx):Cx:=X.wish λ_ _=>False
def Cx.Ok.wish (ok:X.Ok)(E:o6->o7->Prop):(X.wish E).Ok:=
 (ok.mod,ok.kind,ok.glob,ok.blt,ok.above,ok.inj,ok.has,ok.cab,ok.hd,ok.frames,ok.stk,ok.exf,ok.bs,ok.bsz,ok.noex,ok.exfs,ok.funs,ok.frf)
def Cx.Ok.unwish {E:o6->o7->Prop}(ok:(X.wish E).Ok):X.Ok:=
 (ok.mod,ok.kind,ok.glob,ok.blt,ok.above,ok.inj,ok.has,ok.cab,ok.hd,ok.frames,ok.stk,ok.exf,ok.bs,ok.bsz,ok.noex,ok.exfs,ok.funs,ok.frf)
section
variable {X:Cx}{oq:oj (o3×Obj)}{σ:St}{H:Hp}{s:o7}{E:o6->o7->Prop}
def Inv.wish (I:#[I])(E:o6->o7->Prop):Inv (X.wish E) oq σ H s:=(I.ok.wish E,I.os,I.bare,I.base,I.loc,I.cell,I.free,I.freeC,I.pin,I.hok,I.len,I.tk)
def Inv.unwish (I:Inv (X.wish E) oq σ H s):#[I]:=(I.ok.unwish,I.os,I.bare,I.base,I.loc,I.cell,I.free,I.freeC,I.pin,I.hok,I.len,I.tk)
def SP.unwish {D:mY}{f:Flow}{s':o7}(h:SP (X.wish E) oq D f s'):SP X oq D f s':=by
 cases f with
 |next=>erw[h,U,H',I,q,<-(U,H',I.unwish,q)]|brk=>erw[h,U,H',I,q,<-(U,H',I.unwish,q)]|cont=>erw[h,U,H',I,q,<-(U,H',I.unwish,q)]|ret u=>erw[h,v,U,H',I,r,q,<-(v,U,H',I.unwish,r,q)]
def PSs.nox {st:oj Stmt}{t:TS}(h:PSs X.nox st t):PSs X st t:=λoq s σ H D I hw=>
 vz (h oq s σ H D (I.wish _) hw) (λ_ _ q=>q.unwish) λ_ _ z=>Vx z
end
section
variable {X:Cx}{st:Stmt}{rest:oj Stmt}{t u:TS}{e:Expr}{te:TE}{pos:Pos}
abbrev AaE:TS:=λD σ H=>D.nx σ H
abbrev nz (t u:TS):TS:=λD σ H=>t {D with nx:=u D} σ H
def qr:PSs X [] AaE:=λ_ _ σ H _ I h=>UD (σ,H,I,h)
def qc (h1:PS X st t)(h2:PSs X rest u):PSs X (st::rest) (nz t u):=by
 rw[2,D,I,h];refine T7 (thn (h1 oq s σ H {D with nx:=u D} I h) λf s1 q=>?_)
 cases f with
 |next=>
  erw[q,U,H',Z,q,<-h2 oq s1 U H' D Z q]
 |ret v=>exact q|brk=>exact q|cont=>exact q
def qe (h1:PS X st t):PSs X [st] t:=by
 rw[2,D,I,h];refine T7 (thn (h1 oq s σ H D I h) λf s1 q=>?_);cases f with
 |next=>exact UD q|ret v=>exact q|brk=>exact q|cont=>exact q
abbrev AaO:TS:=λD σ H=>D.bk σ H
abbrev AcS:TS:=λD σ H=>D.ct σ H
def Pg:PS X (.Pass pos) AaE:=λ_ _ σ H _ I h=>wpAny_Pass (σ,H,I,h)
def LB:PS X (.Break pos) AaO:=λ_ _ σ H _ I h=>wpAny_Break (σ,H,I,h)
def Au:PS X (.Continue pos) AcS:=λ_ _ σ H _ I h=>wpAny_Continue (σ,H,I,h)
variable {oq:oj (o3×Obj)}{σ:St}
def Inv.quiet (I:#[I]):Fn X.env=false:=by simp[Fn,I.ok.kind]
abbrev AcQ (te:TE):TS:=λD σ H=>te σ H λ_ H1=>D.nx σ H1
def qW (U:PE X e te)(Z:GV e U_ pos.line X.env=pure Vd):PS X (.Expr e pos) (AcQ te):=by
 rw[2,D,I,h];exact FO (thn (U oq s σ H _ I h) λv s1 ⟨x,H1,I1,r1,q1⟩=>(σ,H1,I1,q1)) I.quiet Z
abbrev Aef (te:TE):TS:=λD σ H=>te σ H D.rt
def qo (U:PE X e te):PS X (.Return (u_ e) pos) (Aef te):=by
 rw[2,D,I,h];exact wpAny_Return_some (thn (U oq s σ H _ I h) λv s1 ⟨x,H1,Z,r1,q1⟩=>(x,σ,H1,Z,r1,q1))
abbrev AcL:TS:=λD _ H=>D.rt .non H
def Pf:PS X (.Return U_ pos) AcL:=λ_ _ σ H _ I h=>wpAny_Return_none (.non,σ,H,I,1,h)
abbrev AdO (c:TT)(t u:TS):TS:=λD σ H=>c σ H λb H1=>if b=v_ then t D σ H1 else u D σ H1
def qI {c:Expr}{a b:oj Stmt}{tc:TT}(Z:PT X c tc)(ha:PSs X a t)(hb:PSs X b u):PS X (.If c a b pos) (AdO tc t u):=by
 rw[2,D,I,h];refine wpAny_If (thn (Z oq s σ H _ I h) λd s1 zq=>?_);erw[zq,H1,U,q1];cases d with
 |true=>exact ha oq s1 σ H1 D U q1|false=>exact hb oq s1 σ H1 D U q1
abbrev AaF:TS:=λ_ _ _=>False
def j9:PS X st AaF:=λ_ _ _ _ _ _ h=>h.elim
end
nonrec abbrev TG:=V->St->Hp->(St->Hp->Prop)->Prop
nonrec abbrev TGs:=oj V->St->Hp->(St->Hp->Prop)->Prop
abbrev PG (X:Cx)(target:Expr)(t:TG):Prop:=
 ∀(oq:oj (o3×Obj)) (s:o7) (σ:St) (H:Hp) (v:V) (u:o6) (Q:St->Hp->Prop),#[I]->ik v u->t v σ H Q->
  Ve #[X,X] X.A (Ge target X.env u) (λ_ s'=>∃σ' H',Inv X oq σ' H' s'/\Q σ' H') X.xe s
abbrev PGs (X:Cx)(ts:oj Expr)(t:TGs):Prop:=
 ∀(oq:oj (o3×Obj)) (s:o7) (σ:St) (H:Hp) (vs:oj V) (us:oj o6) (Q:St->Hp->Prop),#[I]->iw vs us->t vs σ H Q->
  Ve #[X,X] X.A (assignInOrder ((V_ ts X.env).map (·.2)) us) (λ_ s'=>∃σ' H',Inv X oq σ' H' s'/\Q σ' H') X.xe s
nonrec abbrev Ady:=V->V->V->Hp->(Hp->Prop)->Prop
abbrev Ad8 (X:Cx)(t:Ady):Prop:=
 ∀(oq:oj (o3×Obj)) (s:o7) (σ:St) (H:Hp) (o i v:V) (ov iv u:o6) (Q:Hp->Prop),#[I]->ik o ov->ik i iv->ik v u->t o i v H Q->
  Ve #[X,X] X.A (Tj ov iv u) (λ_ s'=>∃H',Inv X oq σ H' s'/\Q H') X.xe s
nonrec abbrev TIp:=V->V->Hp->VK->Prop
abbrev PIp (X:Cx)(op:Hm)(t:TIp):Prop:=
 ∀(oq:oj (o3×Obj)) (s:o7) (σ:St) (H:Hp) (x y:V) (v u:o6) (Q:VK),#[I]->ik x v->ik y u->t x y H Q->
  Ve #[X,X] X.A (T_ op v u) (EP X oq σ Q) X.xe s
section
variable {X:Cx}{pos:Pos}
abbrev YD (i:Nat):TG:=λv σ H Q=>Q (σ.set i (u_ v)) H
def qM {i:Nat}{x:Str}(U:X.N.Nodup)(hi:X.N[i]? =u_ x)(Z:Loc X.env.scope x)(hf:X.fn x=v_\/X.env.scope.names.lookup x=u_ .local):PG X (.Name x pos) (YD i):=by
 rw[2,v,u,Q,I,r,h];exact p6 (KP I U hi Z r (λs' I'=>(_,H,I',h)) hf)
abbrev Ad2:TGs:=λvs σ H Q=>vs= []/\Q σ H
abbrev SL (t:TG)(u:TGs):TGs:=λvs σ H Q=>∃v r,vs=v::r/\t v σ H λσ' H'=>u r σ' H' Q
def xl:PGs X [] Ad2:=by
 rw[2,vs,us,Q,I,r,h];erw[h,e,h];subst e;rw[r,0];exact assignInOrder_nil (σ,H,I,h)
def Qt {e:Expr}{es:oj Expr}{t:TG}{u:TGs}(h1:PG X e t)(h2:PGs X es u)
  (U:(V_ (e::es) X.env).map (·.2)=Ge e X.env::(V_ es X.env).map (·.2):=by rfl):PGs X (e::es) (SL t u):=by
 rw[2,vs,us,Q,I,r,h];erw[h,v,vr,Z,h];subst Z;cases r with
 |cons r rr=>
  rw[U];refine assignInOrder_cons (thn (h1 oq s σ H _ _ _ I r h) λ_ s1 zq=>?_);erw[zq,σ1,H1,I1,q1,<-h2 oq s1 σ1 H1 _ _ Q I1 rr q1]
abbrev Adn (K:o0)(n:Nat)(t:TGs):TG:=λv σ H Q=>∃a xs,v= .ref a/\SqT K H a xs/\↑xs=n/\t xs σ H Q
def Ka {es:oj Expr}{k:Nat}{t:TGs}{n:Nat}(hc:X.calm=v_)(h:PGs X es t)
  (hn:↑(V_ es X.env)=n:=by rfl) (U:(V_ es X.env).findIdx? (·.1)=none:=by rfl):PG X (.Tuple es k pos) (Adn X.K n t):=by
 rw[2,v,u,Q,I,r,Z];erw[Z,a,xs,e1,hq,hl,Z];subst e1;rw[r,0];erw[I.tuple hq,its,rv,ht,hz];refine assign_Tuple_tuple (I.ok.hd hc) ht (by simp[hn,<-hl,rv.length]) U λh' hx=>?_
 let I1:Inv X oq σ H {s with heap:=h'}:=I.kept (t':=s.toks) λb o e=>hx b o (uY (uI e)) e
 exact h oq _ σ H xs _ Q I1 (by simpa using rv) Z
abbrev AeE (to ti:TE)(t:Ady):TG:=λv σ H Q=>to σ H λo H1=>ti σ H1 λi H2=>t o i v H2 λH3=>Q σ H3
def Ni {o i:Expr}{to ti:TE}{t:Ady}(Z:PE X o to)(hi:PE X i ti)(hs:Ad8 X t)
  (ha:∀v,Ge (.Subscript o i pos) X.env v=(do
   let ov<-gV [v] (eval o X.env)
   let U<-gV [v,ov] (eval i X.env)
   GJ pos
   gV [v,ov,U] (Tj ov U v)
   release [v,ov,U] [])):PG X (.Subscript o i pos) (AeE to ti t):=by
 rw[2,v,u,Q,I,r,h];rw[ha];refine A7 (VQ (thn (Z oq s σ H _ I h) λov s1 zq=>?_));erw[zq,x,H1,I1,r1,q1];refine A7 (VQ (thn (hi oq s1 σ H1 _ I1 q1) λU s2 zq=>?_));erw[zq,y,H2,I2,r2,q2];refine A7 (HR (A7 (VQ (thn (hs oq s2 σ H2 x y v ov U u _ I2 r1 r2 r q2) λ_ s3 zq=>?_))));erw[zq,H3,I3,q3,<-wpAny_release (σ,H3,I3,q3)]
abbrev AcU (te:TE)(g:TG):TS:=λD σ H=>te σ H λx H1=>g x σ H1 D.nx
def BD {tg e:Expr}{te:TE}{g:TG}(U:PE X e te)(Z:PG X tg g)(hs:swapsWithSole [tg] e pos.line X.env=pure Vd)(hw:swappedStores [tg] e X.env=pure U_)
  (h1:(V_ [tg] X.env).map (·.2)= [Ge tg X.env]):PS X (.Assign [tg] e pos) (AcU te g):=by
 rw[2,D,I,h];refine wpAny_Assign_stores (thn (U oq s σ H _ I h) λv s1 zq=>?_) hs hw;erw[zq,x,H1,I1,r1,q1];rw[h1];exact thn (Z oq s1 σ H1 x v _ I1 r1 q1) λ_ s2 q=>q
def qE {i:Nat}{x:Str}{e:Expr}{te:TE}{pos':Pos}(U:X.N.Nodup)(hi:X.N[i]? =u_ x)(Z:Loc X.env.scope x)(he:PE X e te)(hs:GV e (u_ (.Name x pos')) pos.line X.env=pure Vd)(hf:X.fn x=v_\/X.env.scope.names.lookup x=u_ .local):
  PS X (.Assign [.Name x pos'] e pos) (AcU te (YD i)):=by
 rw[2,D,I,h];refine wpAny_Assign_Name (thn (he oq s σ H _ I h) λv s1 zq=>?_) hs;erw[zq,y,H1,I1,r1,q1,<-KP I1 U hi Z r1 (λs2 I2=>(_,H1,I2,q1)) hf]
inductive Ael (i:Nat)(te:TE)(ti:TIp)(D:mY)(σ:St)(H:Hp):Prop
 |mk (x:_)(_:σ[i]? =u_ (u_ x))(_:te σ H λy H1=>ti x y H1 λz H2=>D.nx (σ.set i (u_ z)) H2)
def Nf {i:Nat}{x:Str}{e:Expr}{te:TE}{op:Hm}{ti:TIp}{pos':Pos}(hN:X.N.Nodup)(hi:X.N[i]? =u_ x)(hx:Loc X.env.scope x)(he:PE X e te)(ho:PIp X op ti)(hf:X.fn x=v_\/X.env.scope.names.lookup x=u_ .local):
  PS X (.AugAssign (.Name x pos') op e pos) (Ael i te ti):=by
 rw[2,D,I,h];erw[h,v,e1,h];erw[I.loc,m,hn,hl];let aa:Vis X.env.scope x:=by rcases hx with k|k;exact .inl k;exact .inr (.inl k)
 erw[hl i x v hi e1 aa,u,r,l];refine wpAny_AugAssign_Name ?_;let go:Ve #[X,X] X.A (eval e X.env) (λw s₂=>Ve #[X,X] X.A (T_ op u w) (λr s₃=>Ve #[X,X] X.A (HH X.env x r) (λ_=>SP X oq D .next) X.xe s₃) X.xe s₂) X.xe s:=by
  refine thn (he oq s σ H _ I h) λw s1 zq=>?_;erw[zq,y,H1,I1,r1,q1];refine thn (ho oq s1 σ H1 v y u w _ I1 r r1 q1) λz s2 zq=>?_;erw[zq,zv,H2,I2,r2,q2,<-KP I2 hN hi hx r2 (λs3 I3=>(_,H2,I3,q2)) hf]
 rcases l with⟨U,hm⟩|⟨U,c,hc,Z⟩
 .exact RQ I.ok.kind U hn hm go
 .rcases U with U|U
  .exact FI I.ok.kind U hc Z go
  .rcases hx with k|k
   .have:X.env.scope.names.lookup x=u_ .free:=U;rw[k,0] at this
   .have:X.env.scope.names.lookup x=u_ .free:=U;rw[k,0] at this
abbrev ipI (f:Int->Int->Int):TIp:=λx y H Q=>∃i j,x= .int i/\y= .int j/\Q (.int (f i j)) H
def NE:PIp X .Add (ipI λi j=>i+j):=by
 rw[2,x,y,v,u,Q,I,U,Z,h];erw[h,i,j,e1,e2,q];subst e1;subst e2;erw[U,t,rfl];erw[Z,t',rfl,<-iadd_int (.int _,H,I.tok _,⟨0⟩,q)]
abbrev MV (c:TT)(tb:TS):TS:=λD σ H=>∃W:Nat->St->Hp->Prop,(∃m,W m σ H)/\∀m σ H,W m σ H->
 c σ H λb H1=>if b=v_ then∃N:St->Hp->Prop,(∀σ' H',N σ' H'->∃m',m'<m/\W m' σ' H')/\tb {D with nx:=N,ct:=N,bk:=D.nx} σ H1 else D.nx σ H1
def wm {c:Expr}{U:oj Stmt}{tc:TT}{tb:TS}(hp:PassesOwn #[X,X] X.A X.env X.xe)(hc:PT X c tc)(hb:PSs X U tb):PS X (.While c U [] pos) (MV tc tb):=by
 rw[2,D,I,h];erw[h,W,[m0,w0],Z];refine wpAny_While (codeAny_whileLoop (λn s'=>∃σ' H',Inv X oq σ' H' s'/\W n σ' H') ?_ m0 (σ,H,I,w0));rintro n s1 ⟨σ1,H1,I1,w1⟩;refine Uk hp (thn (hc oq s1 σ1 H1 _ I1 (Z n σ1 H1 w1)) λb s2 zq=>?_);erw[zq,H2,I2,q2];cases b with
 |true=>
  erw[q2,N,hN,q2];rw[A6 rfl];refine Uk hp (thn (hb oq s2 σ1 H2 _ I2 q2) λf s3 q3=>?_);cases f with
  |next=>
   erw[q3,σ3,H3,I3,n3];erw[hN σ3 H3 n3,m',hm,w3,<-(m',hm,σ3,H3,I3,w3)]
  |cont=>
   erw[q3,σ3,H3,I3,n3];erw[hN σ3 H3 n3,m',hm,w3,<-(m',hm,σ3,H3,I3,w3)]
  |brk=>exact q3|ret v=>exact q3
 |false=>
  rw[A4 uf];exact UD (σ1,H2,I2,q2)
end
structure It where
 go:Nat->Hp->Prop
 yld:Nat->Hp->V->Hp->Prop
 stop:Nat->Hp->Prop
abbrev Bd (X:Cx)(oq:oj (o3×Obj))(H:Hp)(b:o3):Prop:=
 H b=U_/\b≠X.env.locals/\b∉X.fs/\(b>X.ex\/X.s₀.heap.objs.size<=b)/\(∀x c,X.env.cells.lookup x=u_ c->c≠b)/\∀p>X.pn++oq,p.1≠b
variable {oq:oj (o3×Obj)}{σ:St}{H':Hp}
def Inv.fpOk (I:#[I])(U:#[0,s]<=b)(hn:H' b=U_):Bd X oq H' b:=by
 rw[_,hn,Ub (Vs I.lt U),I.nofs U,.inr (vb I.sz U),λx c e z=>?_,λp Z z=>?_]
 .erw[I.cell x c e,v,q,<-A8 (Vs q.lt (by rwa[z])) (vM _)]
 .exact A8 (Vs (uI (I.pin p Z).1) (by rwa[z])) (vM _)
structure NW (P:o9)(w:og)(K:o0)(tg:Expr)(J:It)(fp:oj o3)(it:o3)(tn:Nat->o8->Prop):Prop where
 mem:it>fp
 obj:∀i h,tn i h->∀b>fp,∃o,h.get? b=u_ o/\∀v,o.data≠ .cell v
 keep:∀i h h',tn i h->(∀b>fp,∀o,h.get? b=u_ o->h'.get? b=u_ o)->tn i h'
 item:∀(X:Cx),X.prog=P->X.w=w->X.K=K->X.calm=v_->∀(i:Nat) (oq:oj (o3×Obj)) (s:o7) (σ:St) (H:Hp) (E:o6->o7->Prop),#[I]->(∀b>fp,Bd X oq H b)->tn i s.heap->J.go i H->
  Ve (Vt P w) X.A (VH (-it)) (λr s1=>∃u,r=u_ u/\
   Ve (Vt P w) X.A (Hr tg (-it) u) (λ_ s2=>∃x H',Inv X oq σ H' s2/\ik x u/\J.yld i H x H'/\tn (i+1) s2.heap/\∀b>fp,H' b=U_) E s1) E s
 done:∀(X:Cx),X.prog=P->X.w=w->X.K=K->X.calm=v_->∀(i:Nat) (oq:oj (o3×Obj)) (s:o7) (σ:St) (H:Hp) (E:o6->o7->Prop),#[I]->(∀b>fp,Bd X oq H b)->tn i s.heap->J.stop i H->
  Ve (Vt P w) X.A (VH (-it)) (λr s1=>r=U_/\Inv X oq σ H s1) E s
 self:∀(A:oh) (i:Nat) (s:o7) (Q:o6->o7->Prop) (E:o6->o7->Prop),tn i s.heap->Q (-it) s->Ve (Vt P w) A (Hz (-it)) Q E s
nonrec abbrev TI:=St->Hp->(It->Hp->Prop)->Prop
abbrev PIE (X:Cx)(oq:oj (o3×Obj))(σ:St)(tg:Expr)(R:It->Hp->Prop)(itv:o6)(s2:o7):Prop:=
 ∃(it:o3) (fp:oj o3) (tn:Nat->o8->Prop) (J:It) (H':Hp),itv= .ref it/\Inv X oq σ H' s2/\NW X.prog X.w X.K tg J fp it tn/\tn 0 s2.heap/\(∀b>fp,Bd X oq H' b)/\R J H'
abbrev PI (X:Cx)(tg iter:Expr)(wi:TI):Prop:=
 ∀(oq:oj (o3×Obj)) (s:o7) (σ:St) (H:Hp) (R:It->Hp->Prop),#[I]->wi σ H R->
  Ve #[X,X] X.A (eval iter X.env) (λv s1=>Ve #[X,X] X.A (Hz v) (PIE X oq σ tg R) X.xe s1) X.xe s
def EX {M:G_}{A:oh}{E:o6->o7->Prop}{s:o7}{tg:Expr}{it:o3}{u:o6}{o:Obj}{n:String}{vs:Array o6}{Q:Unit->o7->Prop}(Z:s.heap.get? it=u_ o)(hc:o.cls= .type n)(hd:o.data= .fields vs)
  (hn: ["enumerate","zip","dict_itemiterator","dict_reverseitemiterator","odict_iterator","itertools.zip_longest","itertools.pairwise"].contains n=Vd) (U:Q Gu s):Ve M A (Hr tg (-it) u) Q E s:=by
 unfold Hr;cases tg<;>first
  |exact uE U
  |(cases u<;>first
    |exact uE U
    |(refine A7 (HP Z ?_)
      rw[hc,hd];show Ve M A (if(["enumerate","zip","dict_itemiterator","dict_reverseitemiterator","odict_iterator","itertools.zip_longest","itertools.pairwise"].contains n&&vs[0]? ==u_ (VG _))=v_ then _ else _) Q E s
      rw[A4 (by intro h;rw[hn,rN,0] at h)]
      exact uE U))
abbrev Itl (K:o0)(a:o3):It:=
 ⟨λi H=>∃xs x,SqL K H a xs/\xs[i]? =u_ x,λi H x H'=>H'=H/\∀xs,SqL K H a xs->xs[i]? =u_ x,λi H=>∃xs,SqL K H a xs/\↑xs<=i⟩
abbrev Itt (K:o0)(a:o3):It:=
 ⟨λi H=>∃xs x,SqT K H a xs/\xs[i]? =u_ x,λi H x H'=>H'=H/\∀xs,SqT K H a xs->xs[i]? =u_ x,λi H=>∃xs,SqT K H a xs/\↑xs<=i⟩
abbrev Itr (lo:Int)(n:Nat):It:=[λi _=>i<n:λi H x H'=>H'=H/\x= .int (lo+i):λi _=>n<=i]
variable {K:o0}{tg:Expr}
def Da {P:o9}(a it:o3):NW P w K tg (Itl K a) [it] it (λi h=>h.IsListIter it a i) where
 mem:=by simp
 obj:=λi h st b U=>by
  let e:b=it:=by simpa using U
  subst e;erw[st,o,e,c,d,<-⟨o,e,λv z=>by rw[d,0] at z⟩]
 keep:=λi h h' st k=>st.at λo e=>k it (by simp) o e
 item:=by
  intro X hP hw hK hc i oq s σ H E I hf st hg;subst hP hw hK;erw[hg,xs,x,hq,hx];erw[I.list hq,its,rv,p,hz];erw[rv.get hx,u,hu,ru];obtain⟨f0,f1,f2,f3,f4,f5⟩:=hf it (by simp)
  refine RT st p.isList (x:=u) (by simpa using hu) λh' Z sb=>?_
  let I1:Inv X oq σ H {s with heap:=h'}:=I.turned (t':=s.toks) (λb o U e=>(sb.2 b U).trans e) f0 f1 f3 f4 f5
  erw[id Z,o,e,c,d,<-⟨u,1,EX (s:={s with heap:=h'}) e c d () (x,H,I1,ru,⟨1,λys hy=>by rwa[I.list_inj hy hq]⟩,Z,λb U=>(hf b U).1)⟩]
 done:=by
  intro X hP hw hK hc i oq s σ H E I hf st hg;subst hP hw hK;erw[hg,xs,hq,hx];erw[I.list hq,its,rv,p,hz];obtain⟨f0,f1,f2,f3,f4,f5⟩:=hf it (by simp)
  let hl:=↑rv;exact rO (I.ok.hd hc) st p.isList (by simp;omega) λh' eb=>[1:I.turned (t':=s.toks) (λb o U e=>eb b o U e) f0 f1 f3 f4 f5]
 self:=λ_ _ _ _ _ st h=>wpAny_pyIter_listiter st h
def Kk {P:o9}(a it:o3):NW P w K tg (Itt K a) [it] it (λi h=>h.IsTupleIter it a i) where
 mem:=by simp
 obj:=λi h st b U=>by
  let e:b=it:=by simpa using U
  subst e;erw[st,o,e,c,d,<-⟨o,e,λv z=>by rw[d,0] at z⟩]
 keep:=λi h h' st k=>st.at λo e=>k it (by simp) o e
 item:=by
  intro X hP hw hK hc i oq s σ H E I hf st hg;subst hP hw hK;erw[hg,xs,x,hq,hx];erw[I.tuple hq,its,rv,p,hz];erw[rv.get hx,u,hu,ru];obtain⟨f0,f1,f2,f3,f4,f5⟩:=hf it (by simp)
  refine wpAny_pyNext_tuple_item st (show s.heap.IsTuple a its.toArray from p) (x:=u) (by simpa using hu) λh' Z sb=>?_
  let I1:Inv X oq σ H {s with heap:=h'}:=I.turned (t':=s.toks) (λb o U e=>(sb.2 b U).trans e) f0 f1 f3 f4 f5
  erw[id Z,o,e,c,d,<-⟨u,1,EX (s:={s with heap:=h'}) e c d () (x,H,I1,ru,⟨1,λys hy=>by rwa[I.tuple_inj hy hq]⟩,Z,λb U=>(hf b U).1)⟩]
 done:=by
  intro X hP hw hK hc i oq s σ H E I hf st hg;subst hP hw hK;erw[hg,xs,hq,hx];erw[I.tuple hq,its,rv,p,hz];obtain⟨f0,f1,f2,f3,f4,f5⟩:=hf it (by simp)
  let hl:=↑rv;exact wpAny_pyNext_tuple_end (I.ok.hd hc) st (show s.heap.IsTuple a its.toArray from p) (by simp;omega) λh' eb=>[1:I.turned (t':=s.toks) (λb o U e=>eb b o U e) f0 f1 f3 f4 f5]
 self:=λ_ _ _ _ _ st h=>wpAny_pyIter_tupleiter st h
def Cn {P:o9}(it:o3)(lo:Int)(n:Nat):NW P w K tg (Itr lo n) [it] it (λi h=>p8 h it (lo+(i:Nat)*1) ((n:Int)-(i:Nat)) 1) where
 mem:=by simp
 obj:=λi h st b U=>by
  let e:b=it:=by simpa using U
  subst e;exact⟨_,st,λv z=>by
   let z':Data.fields _=Data.cell v:=z;rw[z',0]⟩
 keep:=λi h h' st k=>k it (by simp) _ st
 item:=by
  intro X hP hw hK hc i oq s σ H E I hf st hg;subst hP hw hK;obtain⟨f0,f1,f2,f3,f4,f5⟩:=hf it (by simp)
  let W:=Walks.range (prog:=X.prog) (w:=X.w) (I.ok.hd hc) it lo 1 n;refine vf (n:=1) I.tk (W.item i s _ _ hg st λv h' tk hv Z kk=>?_);intro htk;erw[hv,t,rfl];let I1:Inv X oq σ H {s with heap:=h',toks:=tk}:=I.turned (λb o U e=>kk b o (by simpa using U) e) f0 f1 f3 f4 f5
  rw[0,EX (s:={s with heap:=h',toks:=tk}) (n:="range_iterator") Z rfl rfl () (.int (lo+i),H,I1,[t:?_],[1:1],Z,λb U=>(hf b U).1)]
  rw[Int.mul_one]
 done:=by
  intro X hP hw hK hc i oq s σ H E I hf st hg;subst hP hw hK;obtain⟨f0,f1,f2,f3,f4,f5⟩:=hf it (by simp)
  exact wpAny_pyNext_range_end (I.ok.hd hc) st (by have:n<=i:=hg;omega) λh' eb=>[1:I.turned (t':=s.toks) (λb o U e=>eb b o U e) f0 f1 f3 f4 f5]
 self:=λ_ _ _ _ _ st h=>wpAny_pyIter_rangeiter st h
section
variable {X:Cx}{tg:Expr}
inductive Act (K:PySem.W.Frag)(R:(It->Hp->Prop))(x:V)(H1:Hp):Prop
 |mk (a:_)(_:x=-a)(_:(∃xs,SqL K H1 a xs))(_:R (Itl K a) H1)
abbrev Adi (K:o0)(tl:TE):TI:=λσ H R=>tl σ H λx H1=>Act K R x H1
inductive AdG (K:PySem.W.Frag)(R:(It->Hp->Prop))(x:V)(H1:Hp):Prop
 |mk (a:_)(_:x=-a)(_:(∃xs,SqT K H1 a xs))(_:R (Itt K a) H1)
abbrev AeB (K:o0)(tl:TE):TI:=λσ H R=>tl σ H λx H1=>AdG K R x H1
def jW {l:Expr}{tl:TE}(Z:PE X l tl):PI X tg l (Adi X.K tl):=by
 rw[2,R,I,h];refine thn (Z oq s σ H _ I h) λv s1 zq=>?_;erw[zq,x,H1,U,r1,q1];erw[q1,a,e,[xs,hq],q];subst e;rw[r1,0];erw[U.list hq,its,rv,p,hz];refine V5 p.isList ?_;rw[_,#[0,s1],[#[0,s1]],_,_,H1,1,U.kept (t':=s1.toks) λb o e=>ud _ e,Da a _,(_,uH _ rfl,1,1),λb hb=>?_,q];let e:b=#[0,s1]:=by simpa using hb
 subst e;exact U.fpOk (uq _) (U.hok.fresh (uq _))
def Kb {l:Expr}{tl:TE}(Z:PE X l tl):PI X tg l (AeB X.K tl):=by
 rw[2,R,I,h];refine thn (Z oq s σ H _ I h) λv s1 zq=>?_;erw[zq,x,H1,U,r1,q1];erw[q1,a,e,[xs,hq],q];subst e;rw[r1,0];erw[U.tuple hq,its,rv,p,hz];refine Uc (show s1.heap.IsTuple a its.toArray from p) ?_
 rw[_,#[0,s1],[#[0,s1]],_,_,H1,1,U.kept (t':=s1.toks) λb o e=>ud _ e,Kk a _,(_,uH _ rfl,1,1),λb hb=>?_,q];let e:b=#[0,s1]:=by simpa using hb
 subst e;exact U.fpOk (uq _) (U.hok.fresh (uq _))
def Bz {oq:oj (o3×Obj)}{σ:St}{H:Hp}{s:o7}{R:It->Hp->Prop}{E:o6->o7->Prop}{lo hi:Int}{t u v:Tok}{tk:Nat}(I:#[I])(h1: -(2^62)<=lo)(h2:lo<2^62)(h3: -(2^62)<=hi)(h4:hi<2^62)
  (q:R (Itr lo (hi-lo).toNat) H) (htk:0<tk:=by ac_rfl):Ve #[X,X] X.A (Hz (.ref #[0,s])) (PIE X oq σ tg R) E {s with heap:=s.heap.push {cls:= .type "range",data:= .fields #[.int lo t,.int hi u,.int 1 v]},toks:=tk}:=by
 refine wpAny_pyIter_range (IsRange.new ..) (small_one h1 h2 h3 h4) ?_;let U:Inv X oq σ H {s with heap:=s.heap.push {cls:= .type "range",data:= .fields #[.int lo t,.int hi u,.int 1 v]},toks:=tk}:=I.kept λb o e=>ud _ e
 refine((s.heap.push {cls:= .type "range",data:= .fields #[.int lo t,.int hi u,.int 1 v]}).objs.size,[(s.heap.push {cls:= .type "range",data:= .fields #[.int lo t,.int hi u,.int 1 v]}).objs.size],_,_,H,1,
  U.kept (t':=tk) λb o e=>ud _ e,Cn _ lo (hi-lo).toNat,?_,λb Z=>?_,q)
 .let e1:lo+((0:Nat):Int)*1=lo:=by simp
  let e2:(((hi-lo).toNat:Nat):Int)-((0:Nat):Int)=pK lo hi 1:=by rw[rangeSize_one];split<;>omega
  show p8 _ _ (lo+((0:Nat):Int)*1) ((((hi-lo).toNat:Nat):Int)-((0:Nat):Int)) 1;rw[e1,e2];exact uH _ rfl
 .let e:b=(s.heap.push {cls:= .type "range",data:= .fields #[.int lo t,.int hi u,.int 1 v]}).objs.size:=by simpa using Z
  subst e;exact U.fpOk (uq _) (U.hok.fresh (uq _))
inductive Acs (R:(It->Hp->Prop))(vs:List V)(H1:Hp):Prop
 |mk (j:Int)(_:vs= [.int j])(_: -(2^62)<=j)(_:j<2^62)(_:R (Itr 0 j.toNat) H1)
abbrev Adh (ta:TA):TI:=λσ H R=>ta σ H λvs H1=>Acs R vs H1
inductive Acr (R:(It->Hp->Prop))(vs:List V)(H1:Hp):Prop
 |mk (i j:Int)(_:vs= [.int i,.int j])(_:(-(2^62)<=i/\i<2^62/\ -(2^62)<=j/\j<2^62))(_:R (Itr i (j-i).toNat) H1)
abbrev Adg (ta:TA):TI:=λσ H R=>ta σ H λvs H1=>Acr R vs H1
def Yv {a:Expr}{ta:TA}{p pos:Pos}(U:Gl X "range")(hm:X.mg "range"=U_)(ha:PA X [a] ta)(Z:Vi [a] X.env= [(Vd,eval a X.env)]):PI X tg (.Call (.Name "range" p) [a] [] pos) (Adh ta):=by
 rw[2,R,I,h];refine HD (Z6 I U hm boot_range (vy (thn (ha pos oq s σ H _ I h) λus s1 zq=>?_) Z rfl));erw[zq,vs,H1,I1,r1,q1];erw[q1,j,e,q1,q2,q];subst e;cases r1 with
 |cons r rr=>
  rw[rr,0];erw[r,t,rfl,<-call_range_1 (Bz I1 () () q1 q2 (by simpa using q))]
def DP {a b:Expr}{ta:TA}{p pos:Pos}(hg:Gl X "range")(hm:X.mg "range"=U_)(ha:PA X [a,b] ta)(hs:Vi [a,b] X.env= [(Vd,eval a X.env),(Vd,eval b X.env)])(U:Vi [b] X.env= [(Vd,eval b X.env)]):
  PI X tg (.Call (.Name "range" p) [a,b] [] pos) (Adg ta):=by
 rw[2,R,I,h];refine HD (Z6 I hg hm boot_range (vy (thn (ha pos oq s σ H _ I h) λus s1 zq=>?_) (by rw[hs,U]) (by rw[U];rfl)));erw[zq,vs,H1,I1,r1,q1]
 erw[q1,i,j,e,[q1,q2,q3,q4],q];subst e;cases r1 with
 |cons r Z=>
  cases Z with
  |cons r' Z=>
   rw[Z,0];erw[r,t,rfl];erw[r',t',rfl,<-call_range_2 (Bz I1 q1 q2 q3 q4 q)]
abbrev AdP (wi:TI)(g:TG)(tb:TS):TS:=λD σ H=>wi σ H λJ H1=>∃W:Nat->Nat->St->Hp->Prop,(∃m,W 0 m σ H1)/\∀i m σ H,W i m σ H->
 (J.stop i H/\D.nx σ H)\/(J.go i H/\∃N:St->Hp->Prop,(∀σ' H',N σ' H'->∃m',m'<m/\W (i+1) m' σ' H')/\∀x H',J.yld i H x H'->g x σ H' λσ2 H2=>tb {D with nx:=N,ct:=N,bk:=D.nx} σ2 H2)
abbrev oA (fp:oj o3)(h:o8):oj (o3×Obj):=fp.filterMap λb=>(h.get? b).map λo=>(b,o)
variable {fp:oj o3}
def xt (U:b>fp)(e:h.get? b=u_ o):(b,o)>oA fp h:=List.mem_filterMap.mpr ⟨b,U,by rw[e];rfl⟩
def Ep {p:o3×Obj}(U:p>oA fp h):p.1>fp/\h.get? p.1=u_ p.2:=by
 erw[List.mem_filterMap.mp U,b,Z,e];cases q:h.get? b with
 |none=>rw[q,0] at e|some o=>
  rw[q] at e;let e':(b,o)=p:=uN e;subst e';exact[Z:q]
def Inv.pinned (I:#[I])(hf:∀b>fp,Bd X oq H b)(ho:∀b>fp,∃o,s.heap.get? b=u_ o/\∀v,o.data≠ .cell v):Inv X (oq++oA fp s.heap) σ H s:=
 I.pins_of λp hp=>(Ae.mp hp).elim (λz=>I.pin p (uR _ z)) λz=>by
  erw[Ep z,U,e];erw[hf p.1 U,f0,f1,f2,_];erw[ho p.1 U,o,Z,d];rw[e,0] at Z;exact(e,f0,f1,f2,d)
def Inv.unpinned {pl:oj (o3×Obj)}(I:Inv X (oq++pl) σ H s):#[I]:=I.pins_of λp U=>I.pin p (uR _ (vO _ U))
def y8 {U:Expr}{ad:oj Stmt}{wi:TI}{g:TG}{tb:TS}{pos:Pos}(hp:PassesOwn #[X,X] X.A X.env X.xe)(hc:X.calm=v_)(hi:PI X tg U wi)(hg:PG X tg g)(Z:PSs X ad tb)
  (hs:∀x,t_ U X.env x=pure x):PS X (.For tg U ad [] pos) (AdP wi g tb):=by
 rw[2,D,I,h];refine wpAny_For (thn (hi oq s σ H _ I h) λv s1 h1=>thn h1 λao s2 h2=>?_) hs;erw[h2,it,fp,tn,J,H2,e,I2,T,ak,f2,W,[m0,w0],af];subst e;let aa:∀{H':Hp},(∀b>fp,H' b=U_)->∀b>fp,Bd X oq H' b:=λhn b Z=>[hn b Z:(f2 b Z).2];refine codeAny_forLoop_any (λn s'=>∃i σ' H',Inv X oq σ' H' s'/\tn i s'.heap/\(∀b>fp,H' b=U_)/\W i n σ' H') ?_ m0 ((0),σ,H2,I2,ak,λb Z=>(f2 b Z).1,w0);rintro n s3 ⟨i,σ3,H3,I3,ag,ah,w3⟩;rcases af i n σ3 H3 w3 with⟨stop,qn⟩|⟨go,N,hN,step⟩
 .refine Uk hp (thn (T.done X rfl rfl rfl hc i oq s3 σ3 H3 X.xe I3 (aa ah) ag stop) λr s4 zq=>?_);erw[zq,hr,I4];subst hr;exact UD (σ3,H3,I4,qn)
 .refine Uk hp (thn (T.item X rfl rfl rfl hc i oq s3 σ3 H3 X.xe I3 (aa ah) ag go) λr s4 zq=>?_);erw[zq,u,hr,h4];subst hr;refine Uk hp (thn h4 λ_ s5 zq=>?_);erw[zq,x,H5,I5,r5,y5,ae,al];let am:=I5.pinned (aa al) (T.obj _ _ ae);refine Uk hp (thn (hg _ s5 σ3 H5 x u _ am r5 (step x H5 y5)) λ_ s6 zq=>?_);erw[zq,σ6,H6,I6,q6];refine Uk hp (thn (Z _ s6 σ6 H6 _ I6 q6) λf s7 q7=>?_);let ac:∀{σ7:St}{H7:Hp},Inv X (oq++oA fp s5.heap) σ7 H7 s7->N σ7 H7->∃m,m<n/\∃i σ' H',Inv X oq σ' H' s7/\tn i s7.heap/\(∀b>fp,H' b=U_)/\W i m σ' H':=λ{σ7 H7} I7 n7=>by
   erw[hN σ7 H7 n7,m',hm,w7];rw[_,m',hm,i+1,σ7,H7,I7.unpinned,T.keep _ _ _ ae λb Z o e=>(I7.pin (b,o) (uR _ (uR _ (xt Z e)))).1,λb Z=>?_,w7];erw[T.obj _ _ ae b Z,o,e,d,<-(I7.pin (b,o) (uR _ (uR _ (xt Z e)))).2.1]
  cases f with
  |next=>erw[q7,σ7,H7,I7,n7,<-ac I7 n7]|cont=>erw[q7,σ7,H7,I7,n7,<-ac I7 n7]|brk=>erw[q7,σ7,H7,I7,q7,<-(σ7,H7,I7.unpinned,q7)]|ret v=>erw[q7,x7,σ7,H7,I7,r7,q7,<-(x7,σ7,H7,I7.unpinned,r7,q7)]
end
def wp {K:o0}{a:o3}{xs:oj V}{g:TG}{tb:TS}{D:mY}{σ:St}{H:Hp}(U:Nat->St->Hp->Prop)(h0:U 0 σ H)(hl:∀i σ H,i<=↑xs->U i σ H->SqL K H a xs)
  (hs:∀i x σ H,xs[i]? =u_ x->U i σ H->g x σ H λσ2 H2=>tb {D with nx:=U (i+1),ct:=U (i+1),bk:=D.nx} σ2 H2) (hd:∀σ H,U ↑xs σ H->D.nx σ H):
  ∃W:Nat->Nat->St->Hp->Prop,(∃m,W 0 m σ H)/\∀i m σ H,W i m σ H->
   ((Itl K a).stop i H/\D.nx σ H)\/((Itl K a).go i H/\∃N:St->Hp->Prop,(∀σ' H',N σ' H'->∃m',m'<m/\W (i+1) m' σ' H')/\∀x H',(Itl K a).yld i H x H'->g x σ H' λσ2 H2=>tb {D with nx:=N,ct:=N,bk:=D.nx} σ2 H2):=by
 rw[_,λi m σ H=>m=↑xs-i/\i<=↑xs/\U i σ H,(↑xs,by simp,uS _,h0)]
 rintro i m σ H ⟨rfl,hi,p⟩;let q:=hl i σ H hi p;by_cases Z:i<↑xs
 .refine .inr ((xs,xs[i],q,by simp[Z]),U (i+1),λσ' H' p'=>(↑xs-(i+1),(),1,Z,p'),λx H' y=>?_)
  erw[y,e,y];subst e;exact hs i x σ _ (y xs q) p
 .let e:i=↑xs:=by omega
  subst e;exact .inl [[xs:q:uq _]:hd σ H p]
def Zs {K:o0}{a:o3}{xs:oj V}{g:TG}{tb:TS}{D:mY}{σ:St}{H:Hp}(U:Nat->St->Hp->Prop)(h0:U 0 σ H)(hl:∀i σ H,i<=↑xs->U i σ H->SqT K H a xs)
  (hs:∀i x σ H,xs[i]? =u_ x->U i σ H->g x σ H λσ2 H2=>tb {D with nx:=U (i+1),ct:=U (i+1),bk:=D.nx} σ2 H2) (hd:∀σ H,U ↑xs σ H->D.nx σ H):
  ∃W:Nat->Nat->St->Hp->Prop,(∃m,W 0 m σ H)/\∀i m σ H,W i m σ H->
   ((Itt K a).stop i H/\D.nx σ H)\/((Itt K a).go i H/\∃N:St->Hp->Prop,(∀σ' H',N σ' H'->∃m',m'<m/\W (i+1) m' σ' H')/\∀x H',(Itt K a).yld i H x H'->g x σ H' λσ2 H2=>tb {D with nx:=N,ct:=N,bk:=D.nx} σ2 H2):=by
 rw[_,λi m σ H=>m=↑xs-i/\i<=↑xs/\U i σ H,(↑xs,by simp,uS _,h0)]
 rintro i m σ H ⟨rfl,hi,p⟩;let q:=hl i σ H hi p;by_cases Z:i<↑xs
 .refine .inr ((xs,xs[i],q,by simp[Z]),U (i+1),λσ' H' p'=>(↑xs-(i+1),(),1,Z,p'),λx H' y=>?_)
  erw[y,e,y];subst e;exact hs i x σ _ (y xs q) p
 .let e:i=↑xs:=by omega
  subst e;exact .inl [[xs:q:uq _]:hd σ H p]
def xh {lo:Int}{n:Nat}{g:TG}{tb:TS}{D:mY}{σ:St}{H:Hp}(U:Nat->St->Hp->Prop)(h0:U 0 σ H)
  (hs:∀i σ H,i<n->U i σ H->g (.int (lo+i)) σ H λσ2 H2=>tb {D with nx:=U (i+1),ct:=U (i+1),bk:=D.nx} σ2 H2) (hd:∀σ H,U n σ H->D.nx σ H):
  ∃W:Nat->Nat->St->Hp->Prop,(∃m,W 0 m σ H)/\∀i m σ H,W i m σ H->
   ((Itr lo n).stop i H/\D.nx σ H)\/((Itr lo n).go i H/\∃N:St->Hp->Prop,(∀σ' H',N σ' H'->∃m',m'<m/\W (i+1) m' σ' H')/\∀x H',(Itr lo n).yld i H x H'->g x σ H' λσ2 H2=>tb {D with nx:=N,ct:=N,bk:=D.nx} σ2 H2):=by
 rw[_,λi m σ H=>m=n-i/\i<=n/\U i σ H,(n,by simp,uS _,h0)]
 rintro i m σ H ⟨rfl,hi,p⟩;by_cases Z:i<n
 .refine .inr (Z,U (i+1),λσ' H' p'=>(n-(i+1),(),1,Z,p'),λx H' y=>?_)
  erw[y,e,y];subst e y;exact hs i σ _ Z p
 .let e:i=n:=by omega
  subst e;exact .inl [uq _:hd σ H p]
nonrec abbrev R2:=V->V->Hp->VK->Prop
abbrev OpR (X:Cx)(f:o6->o6->Sem o6)(r:R2):Prop:=
 ∀(oq:oj (o3×Obj)) (s:o7) (σ:St) (H:Hp) (x y:V) (v u:o6) (Q:VK),#[I]->ik x v->ik y u->r x y H Q->
  Ve #[X,X] X.A (f v u) (EP X oq σ Q) X.xe s
abbrev UnR (X:Cx)(f:o6->Sem o6)(r:V->Hp->VK->Prop):Prop:=
 ∀(oq:oj (o3×Obj)) (s:o7) (σ:St) (H:Hp) (x:V) (v:o6) (Q:VK),#[I]->ik x v->r x H Q->
  Ve #[X,X] X.A (f v) (EP X oq σ Q) X.xe s
abbrev YM (X:Cx)(f:o6)(r:oj V->Hp->VK->Prop):Prop:=
 ∀(oq:oj (o3×Obj)) (s:o7) (σ:St) (H:Hp) (xs:oj V) (us:oj o6) (Q:VK),#[I]->iw xs us->r xs H Q->
  Ve #[X,X] X.A (call f us) (EP X oq σ Q) X.xe s
abbrev AeH (X:Cx)(r:V->Hp->(Bool->Hp->Prop)->Prop):Prop:=
 ∀(oq:oj (o3×Obj)) (s:o7) (σ:St) (H:Hp) (x:V) (v:o6) (Q:Bool->Hp->Prop),#[I]->ik x v->r x H Q->
  Ve #[X,X] X.A (truthy v) (TP X oq σ Q) X.xe s
abbrev tOp (r:R2)(ta tb:TE):TE:=λσ H Q=>ta σ H λx H1=>tb σ H1 λy H2=>r x y H2 Q
abbrev tUn (r:V->Hp->VK->Prop)(ta:TE):TE:=λσ H Q=>ta σ H λx H1=>r x H1 Q
inductive rI (C:Int->Int->Prop)(g:Int->Int->V)(x:V)(y:V)(H:Hp)(Q:VK):Prop
 |mk (i:_)(j:_)(_:x= .int i)(_:y= .int j)(_:C i j)(_:Q (g i j) H)
inductive rI0 (g:Int->Int->V)(x:V)(y:V)(H:Hp)(Q:VK):Prop
 |mk (i:_)(j:_)(_:x= .int i)(_:y= .int j)(_:Q (g i j) H)
inductive rU (g:Int->V)(x:V)(H:Hp)(Q:VK):Prop
 |mk (i:_)(_:x= .int i)(_:Q (g i) H)
section
variable {X:Cx}{a b c:Expr}{ta tb tc:TE}{pos:Pos}
def Adv (ha:PE X a ta)(U:PE X b tb){oq:oj (o3×Obj)}{s:o7}{σ:St}{H:Hp}{R:V->V->Hp->Prop}(I:#[I])
  (h:ta σ H λx H1=>tb σ H1 λy H2=>R x y H2) {Q:o6->o7->Prop}{f:o6->o6->Sem o6}
  (Z:∀v u s2 x y H2,Inv X oq σ H2 s2->ik x v->ik y u->R x y H2->Ve #[X,X] X.A (f v u) Q X.xe s2):
  Ve #[X,X] X.A (eval a X.env) (λv s₁=>Ve #[X,X] X.A (eval b X.env) (λu s₂=>Ve #[X,X] X.A (f v u) Q X.xe s₂) X.xe s₁) X.xe s:=by
 refine thn (ha oq s σ H _ I h) λv s1 zq=>?_;erw[zq,x,H1,I1,r1,q1];refine thn (U oq s1 σ H1 _ I1 q1) λu s2 zq=>?_;erw[zq,y,H2,I2,r2,q2,<-Z v u s2 x y H2 I2 r1 r2 q2]
def qT {U:Hm}{r:R2}(Z:OpR X (VM U) r)(ha:PE X a ta)(hb:PE X b tb):PE X (.BinOp a U b pos) (tOp r ta tb):=by
 rw[2,Q,I,h];exact wpAny_BinOp (Adv ha hb I h λv u s2 x y H2 I2 rx ry q=>Z oq s2 σ H2 x y v u Q I2 rx ry q)
def Abh {U:UnaryOp}{r:V->Hp->VK->Prop}(Z:UnR X (unaryOp U) r)(ha:PE X a ta):PE X (.UnaryOp U a pos) (tUn r ta):=by
 rw[2,Q,I,h];exact UnaryOp_ (thn (ha oq s σ H _ I h) λv s1 ⟨x,H1,I1,r1,q1⟩=>Z oq s1 σ H1 x v Q I1 r1 q1)
def opI {f:o6->o6->Sem o6}{C:Int->Int->Prop}{g:Int->Int->Int}
  (rule:∀(i j:Int) (t u:Tok) (s:o7) (Q:o6->o7->Prop) (E:o6->o7->Prop),C i j->Q (.int (g i j) s.toks) {s with toks:=s.toks+1}->Ve #[X,X] X.A (f (.int i t) (.int j u)) Q E s):
  OpR X f (rI C λi j=> .int (g i j)):=by
 rw[2,x,y,v,u,Q,I,U,Z,h];erw[h,i,j,rfl,rfl,hc,q];erw[U,t,rfl];erw[Z,t',rfl,<-rule i j t t' s _ _ hc (.int (g i j),H,I.tok _,⟨0⟩,q)]
def AdY {f:o6->o6->Sem o6}{g:Int->Int->Int}
  (rule:∀(i j:Int) (t u:Tok) (s:o7) (Q:o6->o7->Prop) (E:o6->o7->Prop),Q (.int (g i j) s.toks) {s with toks:=s.toks+1}->Ve #[X,X] X.A (f (.int i t) (.int j u)) Q E s):
  OpR X f (rI0 λi j=> .int (g i j)):=by
 rw[2,x,y,v,u,Q,I,U,Z,h];erw[h,i,j,rfl,rfl,q];erw[U,t,rfl];erw[Z,t',rfl,<-rule i j t t' s _ _ (.int (g i j),H,I.tok _,⟨0⟩,q)]
def AcA {f:o6->o6->Sem o6}{g:Int->Int->Bool}
  (rule:∀(i j:Int) (t u:Tok) (s:o7) (Q:o6->o7->Prop) (E:o6->o7->Prop),Q (.bool (g i j)) s->Ve #[X,X] X.A (f (.int i t) (.int j u)) Q E s):
  OpR X f (rI0 λi j=> .bl (g i j)):=by
 rw[2,x,y,v,u,Q,I,U,Z,h];erw[h,i,j,rfl,rfl,q];erw[U,t,rfl];erw[Z,t',rfl,<-rule i j t t' s _ _ (.bl (g i j),H,I,1,q)]
abbrev AeL (i j:Int):Prop:=0<j/\j<1073741824
abbrev AeK (i j:Int):Prop:=0<=j/\j<=1000000/\i.natAbs<2^64
abbrev AcD (i j:Int):Prop:=(-(2^64)<i/\i<2^64)\/(-(2^64)<j/\j<2^64)
def AcD.ok {i j:Int}(h:AcD i j):IntMulOk i j:=by
 rcases h with⟨h1,h2⟩|⟨h1,h2⟩
 .exact .of_left (RV h1 h2)
 .exact .of_right (RV h1 h2)
def QM:OpR X (VM .Add) (rI0 λi j=> .int (i+j)):=AdY λ_ _ _ _ _ _ _ q=>add_int q
def Nk:OpR X (VM .Sub) (rI0 λi j=> .int (i-j)):=AdY λ_ _ _ _ _ _ _ q=>sub_int q
def kJ:OpR X (VM .Mult) (rI AcD λi j=> .int (i*j)):=opI λ_ _ _ _ _ _ _ U q=>mul_int q U.ok
def Pn:OpR X (VM .FloorDiv) (rI AeL λi j=> .int (i/j)):=opI λi j _ _ _ _ _ U q=>by
 let h1:(0:Int)<j:=U.1;let h2:j<1073741824:=U.2;exact floordiv_int () (by rwa[Int.fdiv_eq_ediv_of_nonneg i ()]) (.inl (PyProof.noPylong_small ()))
def xT:OpR X (VM .Mod) (rI (λ_ j=>0<j) λi j=> .int (i%j)):=opI λi j _ _ _ _ _ U q=>by
 let h1:(0:Int)<j:=U;exact mod_int' () (by rwa[Int.fmod_eq_emod_of_nonneg i ()])
def Abm:OpR X (VM .Pow) (rI AeK λi j=> .int (i^j.toNat)):=opI λ_ _ _ _ _ _ _ U q=>pow_int_small U.1 U.2.1 U.2.2 q
def unI {f:o6->Sem o6}{g:Int->Int}
  (rule:∀(i:Int) (t:Tok) (s:o7) (Q:o6->o7->Prop) (E:o6->o7->Prop),Q (.int (g i) s.toks) {s with toks:=s.toks+1}->Ve #[X,X] X.A (f (.int i t)) Q E s):
  UnR X f (rU λi=> .int (g i)):=by
 rw[2,x,v,Q,I,U,h];erw[h,i,rfl,q];erw[U,t,rfl,<-rule i t s _ _ (.int (g i),H,I.tok _,⟨0⟩,q)]
def MS:UnR X (unaryOp .USub) (rU λi=> .int (-(i))):=unI λ_ _ _ _ _ q=>neg_int q
abbrev AdR:V->V->Bool
 | .non,.non=>v_| .non,.int _=>v_| .int _,.non=>v_| .non,.bl _=>v_| .bl _,.non=>v_| .non,.str _=>v_| .str _,.non=>v_
 | .int _,.int _=>v_| .bl _,.bl _=>v_| .str _,.str _=>v_| .byt _,.byt _=>v_
 | .int _,.str _=>v_| .str _,.int _=>v_| .bl _,.str _=>v_| .str _,.bl _=>v_
 |_,_=>Vd
abbrev rEq:R2:=λx y H Q=>AdR x y=v_/\Q (.bl (decide (x=y))) H
abbrev rNe:R2:=λx y H Q=>AdR x y=v_/\Q (.bl (!(decide) (x=y))) H
def Iv {i j:Int}:decide (V.int i=V.int j)=(i==j):=by
 rw[U5];simp
def NQ {i j:Bool}:decide (V.bl i=V.bl j)=(i==j):=by
 rw[U5];simp
def Iu {i j:Str}:decide (V.str i=V.str j)=(i==j):=by
 rw[U5];simp
def Iw {i j:Array UInt8}:decide (V.byt i=V.byt j)=(i.toList==j.toList):=by
 rw[U5];rw[i,0];rw[j,0];simp
variable {Q:VK}
def Qo {k U:Bool}(I:#[I])(q:Q (.bl k) H)(e:k=U):EP X oq σ Q (.bool U) s:=by
 subst e;exact(.bl k,H,I,1,q)
def Qg:OpR X (Vn .Eq) rEq:=by
 rw[2,x,y,v,u,Q,I,rx,U,h];erw[h,Z,q];cases x with
 |non=>
  rw[rx,0];cases y with
  |non=>rw[U,0];exact PySem.EqNone.eq_none_none (Qo I q (by simp))|bl j=>rw[U,0];exact PySem.EqNone.eq_none_bool (Qo I q (by simp))|int j=>erw[U,t',rfl,<-PySem.EqNone.eq_none_int (Qo I q (by simp))]|str j=>erw[U,t',rfl,<-PySem.EqNone.eq_none_str (Qo I q (by simp))]|_=>exact A8 (show Vd=v_ from Z) uf
 |bl i=>
  rw[rx,0];cases y with
  |non=>rw[U,0];exact PySem.EqNone.eq_bool_none (Qo I q (by simp))|bl j=>rw[U,0];exact eq_bool (Qo I q NQ)|str j=>erw[U,t',rfl,<-PySem.EqMixed.eq_bool_str (Qo I q (by simp))]|_=>exact A8 (show Vd=v_ from Z) uf
 |int i=>
  erw[rx,t,rfl];cases y with
  |non=>rw[U,0];exact PySem.EqNone.eq_int_none (Qo I q (by simp))|int j=>erw[U,t',rfl,<-eq_int (Qo I q Iv)]|str j=>erw[U,t',rfl,<-PySem.EqMixed.eq_int_str (Qo I q (by simp))]|_=>exact A8 (show Vd=v_ from Z) uf
 |str i=>
  erw[rx,t,rfl];cases y with
  |non=>rw[U,0];exact PySem.EqNone.eq_str_none (Qo I q (by simp))|bl j=>rw[U,0];exact PySem.EqMixed.eq_str_bool (Qo I q (by simp))|int j=>erw[U,t',rfl,<-PySem.EqMixed.eq_str_int (Qo I q (by simp))]|str j=>erw[U,t',rfl,<-eq_str (Qo I q Iu)]|_=>exact A8 (show Vd=v_ from Z) uf
 |byt i=>
  erw[rx,t,rfl];cases y with
  |byt j=>erw[U,t',rfl,<-PySem.W.eq_bytes (Qo I q Iw)]|_=>exact A8 (show Vd=v_ from Z) uf
 |_=>cases y<;>exact A8 (show Vd=v_ from Z) uf
def DW:OpR X (Vn .NotEq) rNe:=by
 rw[2,x,y,v,u,Q,I,rx,U,h];erw[h,Z,q];cases x with
 |non=>
  rw[rx,0];cases y with
  |non=>rw[U,0];exact PySem.EqNone.ne_none_none (Qo I q (by simp))|bl j=>rw[U,0];exact PySem.EqNone.ne_none_bool (Qo I q (by simp))|int j=>erw[U,t',rfl,<-PySem.EqNone.ne_none_int (Qo I q (by simp))]|str j=>erw[U,t',rfl,<-PySem.EqNone.ne_none_str (Qo I q (by simp))]|_=>exact A8 (show Vd=v_ from Z) uf
 |bl i=>
  rw[rx,0];cases y with
  |non=>rw[U,0];exact PySem.EqNone.ne_bool_none (Qo I q (by simp))|bl j=>rw[U,0];exact ne_bool (Qo I q (Aa not NQ))|str j=>erw[U,t',rfl,<-PySem.EqMixed.ne_bool_str (Qo I q (by simp))]|_=>exact A8 (show Vd=v_ from Z) uf
 |int i=>
  erw[rx,t,rfl];cases y with
  |non=>rw[U,0];exact PySem.EqNone.ne_int_none (Qo I q (by simp))|int j=>erw[U,t',rfl,<-ne_int (Qo I q (Aa not Iv))]|str j=>erw[U,t',rfl,<-PySem.EqMixed.ne_int_str (Qo I q (by simp))]|_=>exact A8 (show Vd=v_ from Z) uf
 |str i=>
  erw[rx,t,rfl];cases y with
  |non=>rw[U,0];exact PySem.EqNone.ne_str_none (Qo I q (by simp))|bl j=>rw[U,0];exact PySem.EqMixed.ne_str_bool (Qo I q (by simp))|int j=>erw[U,t',rfl,<-PySem.EqMixed.ne_str_int (Qo I q (by simp))]|str j=>erw[U,t',rfl,<-ne_str (Qo I q (Aa not Iu))]|_=>exact A8 (show Vd=v_ from Z) uf
 |byt i=>
  erw[rx,t,rfl];cases y with
  |byt j=>erw[U,t',rfl,<-PySem.W.ne_bytes (Qo I q (Aa not Iw))]|_=>exact A8 (show Vd=v_ from Z) uf
 |_=>cases y<;>exact A8 (show Vd=v_ from Z) uf
def qam:OpR X (Vn .Lt) (rI0 λi j=> .bl (decide (i<j))):=AcA λ_ _ _ _ _ _ _ q=>lt_int q
def DY:OpR X (Vn .LtE) (rI0 λi j=> .bl (decide (i<=j))):=AcA λ_ _ _ _ _ _ _ q=>le_int q
def qaJ:OpR X (Vn .Gt) (rI0 λi j=> .bl (decide (j<i))):=AcA λ_ _ _ _ _ _ _ q=>gt_int q
def Ac7:OpR X (Vn .GtE) (rI0 λi j=> .bl (decide (j<=i))):=AcA λ_ _ _ _ _ _ _ q=>ge_int q
def DX:OpR X (Vn .Lt) (λx y H Q=>∃i j,x= .str i/\y= .str j/\Q (.bl (decide (i.cps.toList<j.cps.toList))) H):=by
 rw[2,x,y,v,u,Q,I,U,Z,h];erw[h,i,j,rfl,rfl,q];erw[U,t,rfl];erw[Z,t',rfl,<-lt_str (Qo I q rfl)]
def DZ:OpR X (Vn .In) (λx y H Q=>∃i j,x= .str i/\y= .str j/\Q (.bl (!(h_ j i 0 ↑j 1).isEmpty)) H):=by
 rw[2,x,y,v,u,Q,I,U,Z,h];erw[h,i,j,rfl,rfl,q];erw[U,t,rfl];erw[Z,t',rfl,<-in_str (Qo I q rfl)]
def yD:OpR X (Vn .Is) (λx y H Q=>y= .non/\Q (.bl (decide (x= .non))) H):=by
 rw[2,x,y,v,u,Q,I,U,Z,h];erw[h,rfl,q];rw[Z,0];refine is_none_gen (Qo I q ?_);cases x<;>first
  |(rw[U,0];rfl)
  |(erw[U,t,rfl];rfl)
def jw:OpR X (Vn .IsNot) (λx y H Q=>y= .non/\Q (.bl (!(decide) (x= .non))) H):=by
 rw[2,x,y,v,u,Q,I,U,Z,h];erw[h,rfl,q];rw[Z,0];refine isnot_none_gen (Qo I q ?_);cases x<;>first
  |(rw[U,0];rfl)
  |(erw[U,t,rfl];rfl)
def qu (b:Expr){U:hV}(h:U≠ .In:=by decide)(h2:U≠ .NotIn:=by decide):Hb U b=false:=by
 let Z:(U==CmpOp.In)=false:=by cases U<;>first|rfl|exact A8 rfl h
 let e2:(U==CmpOp.NotIn)=false:=by cases U<;>first|rfl|exact A8 rfl h2
 cases b<;>simp[Hb,Z,e2]
def Qh {U:hV}{r:R2}(Z:OpR X (Vn U) r)(ha:PE X a ta)(hb:PE X b tb)(hm:Hb U b=Vd):PE X (.Compare a [U] [b] pos) (tOp r ta tb):=by
 rw[2,Q,I,h];exact wpAny_Compare1 (Adv ha hb I h λv u s2 x y H2 I2 rx ry q=>Z oq s2 σ H2 x y v u Q I2 rx ry q) hm
inductive Ack (Q:(Bool->Hp->Prop))(x:V)(H':Hp):Prop
 |mk (k:_)(_:x= .bl k)(_:Q k H')
abbrev AaB (t:TE):TT:=λσ H Q=>t σ H λx H'=>Ack Q x H'
def qm {U:hV}{r:R2}(Z:OpR X (Vn U) r)(ha:PE X a ta)(hb:PE X b tb)(hm:Hb U b=Vd):PT X (.Compare a [U] [b] pos) (AaB (tOp r ta tb)):=by
 rw[2,Q,I,h];refine Rt (thn (ha oq s σ H _ I h) λv s1 ⟨x,H1,I1,r1,q1⟩=>thn (hb oq s1 σ H1 _ I1 q1) λu s2 ⟨y,H2,I2,r2,q2⟩=>
  thn (Z oq s2 σ H2 x y v u _ I2 r1 r2 q2) λc s3 ⟨z,H3,I3,r3,k,e,q3⟩=>?_) hm
 subst e;rw[r3,0];exact vE [H3:I3:q3]
abbrev AaM (r r':R2)(ta tb tc:TE):TE:=λσ H Q=>ta σ H λx H1=>tb σ H1 λy H2=>r x y H2 λz H3=>∃k,z= .bl k/\
 (if k=v_ then tc σ H3 λw' H4=>r' y w' H4 Q else Q (.bl Vd) H3)
def BC {Z U:hV}{r r':R2}(ho:OpR X (Vn Z) r)(aa:OpR X (Vn U) r')(ha:PE X a ta)(hb:PE X b tb)(hc:PE X c tc)
  (hm:lastMarks [Z,U] [b,c]=Vd):PT X (.Compare a [Z,U] [b,c] pos) (AaB (AaM r r' ta tb tc)):=by
 rw[2,Q,I,h];refine isTrue_chain (thn (ha oq s σ H _ I h) λv s1 ⟨x,H1,I1,r1,q1⟩=>test_link (thn (hb oq s1 σ H1 _ I1 q1) λu s2 ⟨y,H2,I2,r2,q2⟩=>
  thn (ho oq s2 σ H2 x y v u _ I2 r1 r2 q2) λd s3 ⟨z,H3,I3,r3,k,e,q3⟩=>?_)) hm
 subst e;rw[r3,0];refine vE ?_;cases k with
 |false=>
  erw[q3,k',e',q'];rw[e',0];exact ite_ff [H3:I3:q']
 |true=>
  refine ite_tt (test_last (thn (hc oq s3 σ H3 _ I3 q3) λw' s4 ⟨z',H4,I4,r4,q4⟩=>thn (aa oq s4 σ H4 y z' u w' _ I4 r2 r4 q4) λd' s5 zq=>?_));erw[zq,z2,H5,I5,r5,k2,e2,q5];subst e2;rw[r5,0];exact vE [H5:I5:q5]
abbrev Ad6 (K:o0)(x:V)(H:Hp)(k:Bool):Prop:=
 match x with
 | .non=>k=Vd| .bl b=>k=b| .int i=>k=(i !=0)| .str y=>↑y<=Vh/\k=((↑y:Int) !=0)| .byt y=>y.size<=Vh/\k=((y.size:Int) !=0)| .ref p=>(∃xs,SqL K H p xs/\k= !(xs.isEmpty))\/(∃xs,SqT K H p xs/\k= !(xs.isEmpty))\/∃kvs,H p=u_ (.dK kvs)/\k= !(kvs.isEmpty)|_=>False
def CS {κ:Type}{kvs:oj (κ×V)}{vs:oj (κ×o6)}(r:KV kvs vs):(!(vs.isEmpty))= !(kvs.isEmpty):=by
 cases r<;>rfl
variable {its:oj o6}
def Kf (r:iw xs its):(!(its.toArray.isEmpty))= !(xs.isEmpty):=by
 cases r<;>simp
def ZY:(Vh:Nat)<2^63:=by rw[uD];decide
def Aau:AeH X (λx H Q=>∃k,Ad6 X.K x H k/\Q k H):=by
 rw[2,x,v,Q,I,rx,h];erw[h,k,e,q];let hl:=ZY;let hs:Vh=16777216:=uD;cases x with
 |non=>
  rw[rx,0];let U:k=false:=e;subst U;exact truthy_none [H:I:q]
 |bl b=>
  rw[rx,0];let U:k=b:=e;subst U;exact vE [H:I:q]
 |int i=>
  erw[rx,t,rfl];let U:k=(i !=0):=e;subst U;exact PySem.P.truthy_int [H:I:q]
 |str y=>
  erw[rx,t,rfl];obtain⟨hy,U⟩:↑y<=Vh/\k=((↑y:Int) !=0):=e;subst U;exact PySem.P.truthy_str () [H:I.tok _:q]
 |byt y=>
  erw[rx,t,rfl];obtain⟨hy,U⟩:y.size<=Vh/\k=((y.size:Int) !=0):=e;subst U;exact PySem.W.truthy_bytes () [H:I.tok _:q]
 |ref p=>
  rw[rx,0];let U:(∃xs,SqL X.K H p xs/\k= !(xs.isEmpty))\/(∃xs,SqT X.K H p xs/\k= !(xs.isEmpty))\/∃kvs,H p=u_ (.dK kvs)/\k= !(kvs.isEmpty):=e;rcases U with⟨xs,hx,U⟩|⟨xs,hx,U⟩|⟨kvs,hx,U⟩
  .subst U;erw[I.list hx,its,r,pl,hz];let Z:=↑r;exact wpAny_truthy_list pl.isList (by simp![uB];omega) ⟨H,I.tok _,by rwa[Kf r]⟩
  .subst U;erw[I.tuple hx,its,r,pl,hz];let Z:=↑r;exact truthy_tuple pl (by simp![uB];omega) ⟨H,I.tok _,by rwa[Kf r]⟩
  .subst U;obtain⟨hz,hS,vs,r,m⟩:↑kvs<=Vh/\(p==Vy)=Vd/\∃vs,KV kvs vs/\s.heap.DictOf (Qc X.prog X.w) p vs:=I.hok p _ hx;let Z:↑kvs=↑vs:=Paired.length r;exact wpAny_truthy_dict hS m () ⟨H,I.tok _,by rwa[CS r]⟩
 |_=>exact(show False from e).elim
def BA (ha:PE X a ta)(Z:∀U,isTrue a X.env U=(do let v<-U;GJ a.pos;gV [v] (truthy v))):
  PT X a (λσ H Q=>ta σ H λx H'=>∃k,Ad6 X.K x H' k/\Q k H'):=by
 rw[2,Q,I,h];exact FL (thn (ha oq s σ H _ I h) λv s1 ⟨x,H1,I1,r1,q1⟩=>Aau oq s1 σ H1 x v Q I1 r1 q1) (Z _)
def Qv:OpR X (VM .Add) (λx y H Q=>∃i j,x= .str i/\y= .str j/\↑i+↑j<=Vh/\Q (.str (i++j)) H):=by
 rw[2,x,y,v,u,Q,I,U,Z,h];erw[h,i,j,rfl,rfl,hz,q];erw[U,t,rfl];erw[Z,t',rfl,<-vf (n:=1) I.tk (add_str (λt' tk htk=>(.str (i++j),H,I.tok _,⟨0⟩,q)) hz)]
def Jc {x:V}(r:iw [x] us):∃u,us= [u]/\ik x u:=by
 cases r with
 |cons U Z=>rw[Z,0];exact[0:U]
def C9 {x:V}(r:iw [x,y] us):∃u U,us= [u,U]/\ik x u/\ik y U:=by
 cases r with
 |cons Z r2=>
  cases r2 with
  |cons r3 r4=>rw[r4,0];exact(_,0,Z,r3)
def Ci:YM X (.builtin "abs") (λxs H Q=>∃i,xs= [.int i]/\Q (.int (if i<0 then-(i) else i)) H):=by
 rw[2,xs,us,Q,I,r,h];erw[h,i,rfl,q];erw[Jc r,u,rfl,t,rfl,<-vf (n:=1) I.tk (call_abs_int λu tk htk=>(.int (if i<0 then-(i) else i),H,I.tok _,⟨0⟩,q))]
def sO (Z:X.calm=v_):YM X (.builtin "min") (λxs H Q=>∃i j,xs= [.int i,.int j]/\Q (.int (if j<i then j else i)) H):=by
 rw[2,xs,us,Q,I,r,h];erw[h,i,j,rfl,q];erw[C9 r,u,w',rfl,[t,rfl],[t',rfl]];refine vf (n:=1) I.tk (min_two_ints (I.ok.hd Z) λh' tk k htk=>(_,H,I.kept k,?_,q));by_cases U:j<i
 .rw[A6 U,A6 U];exact⟨0⟩
 .rw[A4 U,A4 U];exact⟨0⟩
def IF:YM X (.type "int") (λxs H Q=>(∃i,xs= [.int i]/\Q (.int i) H)\/∃k,xs= [.bl k]/\Q (.int (if k then 1 else 0)) H):=by
 rw[2,xs,us,Q,I,r,h];rcases h with⟨i,rfl,q⟩|⟨k,rfl,q⟩
 .erw[Jc r,u,rfl,t,rfl,<-call_int_int (.int i,H,I,⟨0⟩,q)]
 .erw[Jc r,u,rfl,U];rw[U,0];exact call_int_bool (.int (if k then 1 else 0),H,I.tok _,⟨0⟩,q)
def JF:YM X (.type "str") (λxs H Q=>∃i,xs= [.int i]/\i.natAbs.log2<1920/\Q (.str (Vm i)) H):=by
 rw[2,xs,us,Q,I,r,h];erw[h,i,rfl,hz,q];erw[Jc r,u,rfl,t,rfl,<-PySem.P.str_of_int hz (.str _,H,I.tok _,⟨0⟩,q)]
def MH:YM X (.builtin "ord") (λxs H Q=>∃x,xs= [!x]/\↑x=1/\Q (.int (x.cps.getD 0 0:Nat)) H):=by
 rw[2,xs,us,Q,I,r,h];erw[h,x,rfl,hz,q];erw[Jc r,u,rfl,t,rfl,<-ord_of_one hz (.int _,H,I.tok _,⟨0⟩,q)]
abbrev AeJ (K:o0)(x:V)(H:Hp)(n:Nat):Prop:=
 match x with
 | .str y=>↑y<=Vh/\n=↑y| .byt y=>y.size<=Vh/\n=y.size| .ref p=>(∃xs,SqL K H p xs/\n=↑xs)\/∃xs,SqT K H p xs/\n=↑xs|_=>False
def qan:YM X (.builtin "len") (λxs H Q=>∃x n,xs= [x]/\AeJ X.K x H n/\Q (.int n) H):=by
 rw[2,xs,us,Q,I,r,h];erw[h,x,n,rfl,e,q];erw[Jc r,u,rfl,rx];let hl:=ZY;let hs:Vh=16777216:=uD;cases x with
 |str y=>
  erw[rx,t,rfl];obtain⟨hy,Z⟩:↑y<=Vh/\n=↑y:=e;subst Z;exact len_str () (.int _,H,I.tok _,⟨0⟩,q)
 |byt y=>
  erw[rx,t,rfl];obtain⟨hy,Z⟩:y.size<=Vh/\n=y.size:=e;subst Z;exact PySem.W.len_bytes () (.int _,H,I.tok _,⟨0⟩,q)
 |ref p=>
  rw[rx,0];let Z:(∃xs,SqL X.K H p xs/\n=↑xs)\/∃xs,SqT X.K H p xs/\n=↑xs:=e;rcases Z with⟨xs,hx,Z⟩|⟨xs,hx,Z⟩
  .subst Z;erw[I.list hx,its,r',pl,hz];let U:=↑r';exact F_ pl.isList (by simp![uB];omega) (.int ↑xs,H,I.tok _,⟨_,by simp![uB];rw[U]⟩,q)
  .subst Z;erw[I.tuple hx,its,r',pl,hz];let U:=↑r';exact len_tuple pl (by simp![uB];omega) (.int ↑xs,H,I.tok _,⟨_,by simp![uB];rw[U]⟩,q)
 |_=>exact(show False from e).elim
end
structure Aaa (h:o8)(x dx C:o3)(mA:Str->om o6):Prop where
 obj:h.get? x=u_ (PySem.W.instObj C dx)
 ns:h.Ns1 dx mA
 ne:dx≠x
variable {dx:o3}
set_option tactic.hygienic true in
def Ez {mA:Str->om o6}(n:h.Ns1 dx mA):∃od,h.get? dx=u_ od/\∀name,PySem.W.lookIn name od=u_ (mA name):=by
 erw[n,o,es,ep,Z,hd,hk,_,hm];rw[_,o,Z,λname=>?_];let e:=hm name;unfold nsFind findBy at e;rw[<-Array.find?_toList] at e;unfold PySem.W.lookIn;rw[hd];dsimp only;split
 .rename_i y q
  rw[q] at e;exact Aa u_ e
 .rename_i q
  rw[q] at e;let a:es.toList.any (·.refKey)=false:=by
   rw[tY];intro y hy;erw[hk y (Array.mem_toList_iff.mp hy),z,t,U];simp[RJ,U]
  let a':¬es.toList.any (·.refKey)=true:=by rw[a];exact uf
  rw[A4 a'];exact Aa u_ e
variable {C:o3}
def Aaa.look {x:o3}{mA:Str->om o6}(I:Aaa h x dx C mA):∃od,PySem.W.InstAt h x (PySem.W.instObj C dx) C (u_ od)/\∀name,PySem.W.lookIn name od=u_ (mA name):=
 let⟨od,ho,hl⟩:=Ez I.ns
 [od:(I.obj,1,1,ho):hl]
section
variable {prog:o9}{w:og}{A:oh}{E:o6->o7->Prop}{s:o7}{K:o0}{x dx C f:o3}{mA:Str->om o6}{name:Str}{v:o6}
def SK {U:Bool}{Q:o6->o7->Prop}(X:K.In s.heap)(I:Aaa s.heap x dx C mA)(hg:PySem.W.plainGet K C name=v_)(hh:PySem.W.hasDictIn K C=v_)
  (ha:PySem.W.findIn K (-C) name=u_ U_) (hv:mA name=u_ v) (Z:PySem.W.handedIn v=v_) (h:Q v {s with toks:=s.toks+1}):
  Ve #[w,w] A (Tu (-x) name U) Q E s:=by
 erw[I.look,od,J,hl,<-PySem.W.get_value X J (PySem.W.plainGet_of hg).1 (PySem.W.findObj_own hh ha rfl (by rw[hl,hv])) Z h]
def Mw {pl:Sem Bool}{Q:o6×oj o6->o7->Prop}(X:K.In s.heap)(I:Aaa s.heap x dx C mA)(U:PySem.W.plainGet K C name=v_)
  (Z:PySem.W.findIn K (-C) name=u_ (u_ (-f))) (ht:PySem.W.isFn K (-f)=v_) (hv:mA name=U_) (h:Q (-f,[-x]) s):
  Ve #[w,w] A (GT (-x) name pl) Q E s:=by
 erw[I.look,od,J,hl,<-PySem.W.method_fn X J (PySem.W.plainGet_of U).1 (PySem.W.plainGet_of U).2 Z (beq_iff_eq.mp ht) (by show(PySem.W.lookIn name od).map (·.isSome)=u_ Vd;rw[hl,hv];rfl) h]
def OV {ns:oj Str}{Q:Unit->o7->Prop}(X:K.In s.heap)(I:Aaa s.heap x dx C mA)
  (hs:PySem.W.findIn K (-C) "__setattr__"=u_ (u_ (.builtin "object.__setattr__"))) (hp:PySem.W.plainOver K C=v_) (ht:PySem.W.takerIn K C name=u_ U_) (hh:PySem.W.hasDictIn K C=v_)
  (hw:PySem.Within mA ns) (hsz:↑ns<=Vh)
  (h:∀h',Aaa h' x dx C (λy=>if y=name then u_ v else mA y)->VO dx s.heap h'->Q Gu {s with heap:=h',toks:=s.toks+2}):
  Ve #[w,w] A (setAttr (-x) name v) Q E s:=by
 erw[I.look,od,J,hl];refine PySem.W.set_plain X J hs (PySem.W.osa_open (s:={s with toks:=s.toks+1}) (r:=U_) X J hp ht λb=>?_)
 erw[PySem.W.any_some hh,cd,hc,aa];let hx:s.heap.get? x=u_ (-C,u_ dx,.plain,#[]):=I.obj;refine A7 (uE (A7 (A7 (wpAny_loadPart hx (A7 (PySem.W.Looks.here (s:={s with toks:=s.toks+1}) (PySem.W.looks_clsIn X hc) ?_))))))
 rw[aa];refine uE (a:=u_ dx) (A7 (uE (A7 ?_)));refine wpAny_nsSet1 (s:={s with toks:=s.toks+1}) I.ns λh' U Z=>?_
 erw[U.count (PySem.Within.cons name v hw),oD,af,ag,ac,ad,ae];refine A7 (wpAny_lookBehind ac (by rw[ad];exact pastItsLine_dict (vb ae (by rw[um];omega))) ?_)
 exact uE (h _ [(Z.2 _ (U4 I.ne)).trans I.obj:U:I.ne] Z)
def Mh {R:GM->o7->Prop}{vs:oj o6}{kw:oj (Str×o6)}(X:K.In s.heap)(hm:PySem.W.makesIn K C=v_)
  (hi:PySem.W.findIn K (-C) "__init__"=u_ (u_ (-f))) (U:PySem.W.typeIn K (-f)=u_ (.type "function"))
  (h:VN #[w,w] (A.under (.builtin "type.__call__" [.ref C::vs:kw])) (.call (-f) [.ref (#[0,s]+1)::vs:kw]) (PySem.W.InitBack (#[0,s]+1) R)
   {s with heap:=(s.heap.push PySem.W.emptyDict).push (PySem.W.instObj C #[0,s])}):
  VN #[w,w] A (.call (-C) [vs:kw]) R s:=by
 erw[s,Z,g,d,t,os,<-PySem.W.make_core (PySem.W.makes_of X hm) (PySem.W.looks_findIn X hi) (λself=>PySem.W.bind_fn X self U) (.inl rfl) h]
end
abbrev iM (f:Str)(v:V):oj (Str×V)->oj (Str×V)
 | []=> [(f,v)]|(g,x)::r=>if g=f then(g,v)::r else(g,x)::iM f v r
def qL (f g:Str)(v:V):∀fs:oj (Str×V),(iM f v fs).lookup g=if g=f then u_ v else fs.lookup g
 | []=>by
  show VB g [(f,v)]=_;by_cases h:g=f
  .let U:(g==f)=true:=beq_iff_eq.mpr h;simp![VB,U,A6 h]
  .let U:(g==f)=false:=beq_eq_false_iff_ne.mpr h;simp![VB,U,A4 h]
 |(k,x)::r=>by
  let ih:=qL f g v r;rw[show iM f v ((k,x)::r)=(if k=f then(k,v)::r else(k,x)::iM f v r) from rfl]
  by_cases Z:k=f
  .rw[A6 Z];by_cases h:g=k
   .let U:(g==k)=true:=beq_iff_eq.mpr h;simp![VB,U,A6 (h.trans Z)]
   .let U:(g==k)=false:=beq_eq_false_iff_ne.mpr h;simp![VB,U,A4 (λe:g=f=>h (e.trans Z.symm))]
  .rw[A4 Z];by_cases h:g=k
   .let U:(g==k)=true:=beq_iff_eq.mpr h;simp![VB,U,A4 (λe:g=f=>Z (h.symm.trans e))]
   .let U:(g==k)=false:=beq_eq_false_iff_ne.mpr h;simp![VB,U];exact ih
def Wi (f:Str)(v:V):∀fs:oj (Str×V),f>(iM f v fs).map (·.1)/\∀g,g>fs.map (·.1)->g>(iM f v fs).map (·.1)
 | []=>⟨by simp[iM],λg h=>by simp at h⟩|(k,x)::r=>by
  erw[Wi f v r,Z,i2];rw[show iM f v ((k,x)::r)=(if k=f then(k,v)::r else(k,x)::iM f v r) from rfl]
  by_cases U:k=f
  .rw[A6 U];subst U;exact⟨by simp,λg h=>by simpa using h⟩
  .rw[A4 U];rw[_,?_,λg h=>?_]
   .rw[uC];exact uh _ Z
   .rw[uC] at h⊢;rcases Ab.mp h with e|e
    .exact Ab.mpr (.inl e)
    .exact uh _ (i2 g e)
def w8 (f:Str)(v:V):∀fs:oj (Str×V),↑(iM f v fs)<=↑fs+1
 | []=>by simp[iM]|(k,x)::r=>by
  let Z:=w8 f v r;rw[show iM f v ((k,x)::r)=(if k=f then(k,v)::r else(k,x)::iM f v r) from rfl]
  by_cases U:k=f
  .rw[A6 U,um,um];omega
  .rw[A4 U,um,um];omega
variable {v:V}
def nu.some_of {o:om o6}(r:nu (u_ v) o):∃u,o=u_ u/\ik v u:=by
 cases o with
 |none=>exact(show False from r).elim|some u=>exact[u:1:r]
def nu.Ku {o:om o6}(r:nu U_ o):o=none:=by
 cases o with
 |none=>rfl|some u=>exact(show False from r).elim
def EV (r:ik v u):PySem.W.handedIn u=true:=by
 cases v with
 |non=>rw[show u=G9 from r,0];rfl|bl b=>rw[show u=GX b from r,0];rfl|int i=>obtain⟨t,e⟩:=(show∃t,u=Gy i t from r);rw[e,0];rfl|str x=>obtain⟨t,e⟩:=(show∃t,u=VC x t from r);rw[e,0];rfl|byt b=>obtain⟨t,e⟩:=(show∃t,u=RL b t from r);rw[e,0];rfl|flt b=>obtain⟨t,e⟩:=(show∃t,u=tS b t from r);rw[e,0];rfl|ref a=>rw[show u=Vj a from r,0];rfl|ty n=>rw[show u=Gm n from r,0];rfl
section
variable {P:o9}{w:og}{H H':Hp}{h h':o8}{a C dx:o3}{fs fs':oj (Str×V)}
def qaE (hok:HOk P w H h)(e:H a=u_ (.ins C dx fs)):∃mA,Aaa h a dx C mA/\(∀f,nu (fs.lookup f) (mA f))/\PySem.Within mA (fs.map (·.1))/\↑fs<=1000/\H dx=u_ (.own a):=by
 obtain⟨d,z,ne,ob,mA,n,r,q⟩:=(show yj P w H h a (.ins C dx fs) from hok a _ e)
 exact(mA,[ob:n:ne],r,q,z,d)
end
structure Cls (K:o0)(C:o3):Prop where
 pg:PySem.W.plainGet K C tZ=v_
 hd:PySem.W.hasDictIn K C=v_
 po:PySem.W.plainOver K C=v_
 sa:PySem.W.findIn K (-C) "__setattr__"=u_ (u_ (.builtin "object.__setattr__"))
def Cls.get (c:Cls K C)(f:Str):PySem.W.plainGet K C f=true:=c.pg
abbrev QQ (K:o0)(C:o3)(f:Str):Prop:=PySem.W.findIn K (-C) f=u_ U_
def QQ.taker {f:Str}(n:QQ K C f):PySem.W.takerIn K C f=u_ none:=by
 unfold PySem.W.takerIn;rw[show PySem.W.findIn K (-C) f=u_ U_ from n]
 rfl
structure Aan (K:o0)(C:o3)(m:Str)(f:o3):Prop where
 at_:PySem.W.findIn K (-C) m=u_ (u_ (-f))
 fn:PySem.W.isFn K (-f)=v_
 kp:PySem.W.keepIn K (-f)=v_
section
variable {X:Cx}{oq:oj (o3×Obj)}{σ:St}{H:Hp}{s:o7}{a C dx:o3}{fs:oj (Str×V)}{f:Str}{v:V}{A:oh}{E:o6->o7->Prop}
def kX {b:Bool}{Q:o6->o7->Prop}(I:#[I])(e:H a=u_ (.ins C dx fs))(c:Cls X.K C)(n:QQ X.K C f)(l:fs.lookup f=u_ v)
  (h:∀u s',Inv X oq σ H s'->ik v u->Q u s'):Ve #[X,X] A (Tu (-a) f b) Q E s:=by
 erw[qaE I.hok e,mA,O,r,_,_,_];obtain⟨u,U,ru⟩:=nu.some_of (v:=v) (o:=mA f) (by rw[<-l];exact r f)
 exact SK I.kIn O (c.get f) c.hd n U (EV ru) (h u _ (I.tok _) ru)
def Zv {m:Str}{g:o3}{pl:Sem Bool}{Q:o6×oj o6->o7->Prop}(I:#[I])(e:H a=u_ (.ins C dx fs))(c:Cls X.K C)(k:Aan X.K C m g)(l:fs.lookup m=U_)
  (h:Q (-g,[-a]) s):Ve #[X,X] A (GT (-a) m pl) Q E s:=by
 erw[qaE I.hok e,mA,O,r,_,_,_];let hn:mA m=none:=nu.Ku (by rw[<-l];exact r m)
 exact Mw I.kIn O (c.get m) k.at_ k.fn hn h
def Kj {y:V}{u:o6}{Q:Unit->o7->Prop}(I:#[I])(e:H a=u_ (.ins C dx fs))(c:Cls X.K C)(n:QQ X.K C f)(hl:↑fs<1000)(ry:ik y u)
  (h:∀s',Inv X oq σ (upd H a (.ins C dx (iM f y fs))) s'->Q Gu s'):Ve #[X,X] A (setAttr (-a) f u) Q E s:=by
 erw[qaE I.hok e,mA,O,r,wi,_,Z];let hz:(fs.map (·.1)).length<=sizeLine:=by rw[u9,uD];omega
 refine OV I.kIn O c.sa c.po n.taker c.hd wi hz λh' U sb=>h _ ?_;let hd:∃o,h'.get? dx=u_ o:=let⟨o,_,_,e',_⟩:=U.ns;[o:e'];refine I.write (x:=a) (e:=dx) (by rw[e];exact VF) (.inr Z) (λb q hb z=>(sb.2 b hb).trans z) hd ?_
 refine(by rwa[qi O.ne],?_,O.ne,U.obj,_,U.ns,λg=>?_,λg hg=>?_)
 .have:=w8 f y fs;omega
 .show nu ((iM f y fs).lookup g) (if g=f then u_ u else mA g)
  rw[qL];by_cases q:g=f
  .rwa[A6 q,A6 q]
  .rw[A4 q,A4 q];exact r g
 .by_cases q:g=f
  .rw[q];exact(Wi f y fs).1
  .refine(Wi f y fs).2 g (wi g λz=>hg ?_);show(if g=f then u_ u else mA g)=U_
   rw[A4 q];exact z
def Inv.made (I:#[I]):Inv X oq σ (upd (upd H #[0,s] (.own (#[0,s]+1))) (#[0,s]+1) (.ins C #[0,s] []))
  {s with heap:=(s.heap.push PySem.W.emptyDict).push (PySem.W.instObj C #[0,s])}:=by
 let U:(s.heap.push PySem.W.emptyDict).get? #[0,s]=u_ PySem.W.emptyDict:=uH s.heap rfl;let e2:((s.heap.push PySem.W.emptyDict).push (PySem.W.instObj C #[0,s])).get? (#[0,s]+1)=u_ (PySem.W.instObj C #[0,s]):=by
  have:=uH (s.heap.push PySem.W.emptyDict) (o:=PySem.W.instObj C #[0,s]) rfl
  rwa[vq] at this
 let e3:(s.heap.push PySem.W.emptyDict).Ns #[0,s] (λ_=>U_):=(PySem.W.emptyDict,#[],_,U,1,(λe Z=>A8 Z (by simp)),λ_=>rfl)
 let I1:=I.laid (a:=#[0,s]) (o:= .own (#[0,s]+1)) (h':=s.heap.push PySem.W.emptyDict) (t':=s.toks) (λb u q=>ud _ q) (uq _) [_:U];refine I1.laid (a:=#[0,s]+1) (o:= .ins C #[0,s] []) (t':=s.toks) (λb u q=>ud _ q) (R8 (vq _ _)) ?_;let ne:#[0,s]≠#[0,s]+1:=uY (U9 _);refine(by rw[qi ne,qg],uS _,ne,e2,λ_=>U_,(pG e3).at λo q=>ud _ q,λ_=>VF,λy hy=>A8 rfl hy)
def S1 {prog:o9}{w:og}{env:Env}{e:Expr}{f:Str}{pos:Pos}{s:o7}{Q:o6->o7->Prop}(U:Gb e f env (eval e env)=eval e env)
  (h:Ve #[w,w] A (eval e env) (λo Z=>Ve #[w,w] A (Tu o f v_) Q E Z) E s):Ve #[w,w] A (eval (.Attribute e f pos) env) Q E s:=
 Attribute_any_ h (by rw[arm_eval_Attribute,U])
end
inductive AdD (K:PySem.W.Frag)(f:Str)(Q:VK)(x:V)(H1:Hp):Prop
 |mk (a:_)(C:_)(dx:_)(fs:_)(v:_)(_:x=-a)(_:H1 a=u_ (.ins C dx fs))(_:Cls K C)(_:QQ K C f)(_:fs.lookup f=u_ v)(_:Q v H1)
abbrev AcP (K:o0)(ta:TE)(f:Str):TE:=λσ H Q=>ta σ H λx H1=>AdD K f Q x H1
inductive AdF (K:PySem.W.Frag)(f:Str)(D:mY)(σ:St)(y:V)(x:V)(H2:Hp):Prop
 |mk (a:_)(C:_)(dx:_)(fs:_)(_:x=-a)(_:H2 a=u_ (.ins C dx fs))(_:Cls K C)(_:QQ K C f)(_:↑fs<1000)(_:D.nx σ (upd H2 a (.ins C dx (iM f y fs))))
abbrev Aen (K:o0)(ta tv:TE)(f:Str):TS:=λD σ H=>tv σ H λy H1=>ta σ H1 λx H2=>AdF K f D σ y x H2
abbrev Aea (X:Cx)(op:Hm)(rd:V->V->Hp->VK->Prop):Prop:=
 ∀(oq:oj (o3×Obj)) (s:o7) (σ:St) (H:Hp) (x y:V) (u v:o6) (Q:VK),#[I]->ik x u->ik y v->rd x y H Q->Ve #[X,X] X.A (T_ op u v) (EP X oq σ Q) X.xe s
inductive MO (K:PySem.W.Frag)(tv:TE)(rd:V->V->Hp->VK->Prop)(f:Str)(D:mY)(σ:St)(x:V)(H1:Hp):Prop
 |mk (a:_)(C:_)(dx:_)(fs:_)(v:_)(_:x=-a)(_:H1 a=u_ (.ins C dx fs))(_:Cls K C)(_:QQ K C f)(_:fs.lookup f=u_ v)(_:tv σ H1 λy H2=>rd v y H2 λz H3=>∃dx' fs',H3 a=u_ (.ins C dx' fs')/\↑fs'<1000/\D.nx σ (upd H3 a (.ins C dx' (iM f z fs'))))
abbrev OY (K:o0)(ta tv:TE)(rd:V->V->Hp->VK->Prop)(f:Str):TS:=λD σ H=>ta σ H λx H1=>MO K tv rd f D σ x H1
section
variable {X:Cx}{o e value:Expr}{f:Str}{pos pos' tpos:Pos}{ta tv:TE}
def qQ (U:PE X e ta)(Z:Gb e f X.env (eval e X.env)=eval e X.env):PE X (.Attribute e f pos) (AcP X.K ta f):=by
 rw[2,Q,I,h];refine S1 Z (thn (U oq s σ H _ I h) λu s1 zq=>?_);erw[zq,x,H1,I1,rx,a,C,dx,fs,v,ex,ea,c,n,l,q];subst ex;obtain rfl:u=Vj a:=rx;exact kX I1 ea c n l λu' s2 I2 ru=>(v,H1,I2,ru,q)
def Qk (ha:PE X o ta)(U:PE X value tv)(Z:GV value (u_ (.Attribute o f pos')) pos.line X.env=pure Vd):PS X (.Assign [.Attribute o f pos'] value pos) (Aen X.K ta tv f):=by
 rw[2,D,I,h];refine plainObj_wpAny_Assign_Attribute (thn (U oq s σ H _ I h) λu s1 ⟨y,H1,I1,ry,q⟩=>thn (ha oq s1 σ H1 _ I1 q) λov s2 zq=>?_) Z;erw[zq,x,H2,I2,rx,a,C,dx,fs,ex,ea,c,n,l,q2];subst ex;obtain rfl:ov=Vj a:=rx;exact Kj I2 ea c n l ry λs3 I3=>(σ,_,I3,q2)
def xg {op:Hm}{rd:V->V->Hp->VK->Prop}(ha:PE X o ta)(hv:PE X value tv)(U:Aea X op rd):PS X (.AugAssign (.Attribute o f tpos) op value pos) (OY X.K ta tv rd f):=by
 rw[2,D,I,h];refine wpAny_AugAssign_AttributeAny (thn (ha oq s σ H _ I h) λov s1 zq=>?_);erw[zq,x,H1,I1,rx,a,C,dx,fs,v,ex,ea,c,n,l,q];subst ex;obtain rfl:ov=Vj a:=rx;refine kX I1 ea c n l λu s2 I2 ru=>thn (hv oq s2 σ H1 _ I2 q) λw3 s3 ⟨y,H2,I3,ry,q3⟩=>thn (U oq s3 σ H2 v y u w3 _ I3 ru ry q3) λw4 s4 zq=>?_;erw[zq,z,H3,I4,rz,dx',fs',Z,l',q4,<-Kj I4 Z c n l' rz λs5 I5=>(σ,_,I5,q4)]
inductive Aex (x:V)(y:V)(H:Hp)(Q:VK):Prop
 |mk (i:_)(j:_)(_:x= .int i)(_:y= .int j)(_:Q (.int (i+j)) H)
def si:Aea X .Add Aex:=by
 rintro oq s σ H x y u v Q I U Z ⟨i,j,rfl,rfl,q⟩;obtain⟨t,rfl⟩:=(show∃t,u=Gy i t from U)
 obtain⟨t',rfl⟩:=(show∃t',v=Gy j t' from Z)
 exact pJ (.int (i+j),H,I.tok _,⟨0⟩,q)
end
section
variable {X:Cx}{oq:oj (o3×Obj)}{σ:St}{H:Hp}{s:o7}{A:oh}{E:o6->o7->Prop}{Q:o6->o7->Prop}{c:o6}{b:Bool}
inductive Cl (K:PySem.W.Frag)(H:Hp):V->Value->Prop where
 |non:Cl K H .non (.type "NoneType")
 |bl (x:Bool):Cl K H (.bl x) (.type "bool")
 |int (i:Int):Cl K H (.int i) (.type "int")
 |str (x:Str):Cl K H (!x) (.type "str")
 |flt (x:UInt64):Cl K H (.flt x) (.type "float")
 |lst {a:Addr}{xs:List V}(e:H a=u_ (.lst xs)):Cl K H (-a) (.type "list")
 |frz {a:Addr}{o:Obj}{xs:List V}(e:H a=u_ (.frz o (.lst xs))):Cl K H (-a) (.type "list")
 |tup {a:Addr}{xs:List V}(e:H a=u_ (¬xs)):Cl K H (-a) (.type "tuple")
 |dK {a:Addr}{kvs:List (Key×V)}(e:H a=u_ (.dK kvs)):Cl K H (-a) (.type "dict")
 |dT {a:Addr}{kvs:List (List Key×V)}(e:H a=u_ (.dT kvs)):Cl K H (-a) (.type "dict")
 |ins {a C dx:Addr}{fs:List (Str×V)}(e:H a=u_ (.ins C dx fs))(cl:Cls K C)(ha:PySem.W.findIn K (-C) "__class__"=u_ (u_ (.builtin "object.__class__")))
   (hn:PySem.W.specialIn K (.builtin "object.__class__") "__get__"=u_ (u_ (.builtin "getset_descriptor.__get__"))) (htk:PySem.W.takesIn K (.builtin "object.__class__")=u_ v_)
   (hm:PySem.W.mroIn K C (.type "object")=u_ v_):Cl K H (-a) (-C)
def EL {x:V}{t:o6}(I:#[I])(U:ik x u)(ty:Cl X.K H x t)(e:PySem.W.kitOne X.K t c=u_ b)(h:∀tk,Q (.bool b) {s with toks:=tk}):
  Ve #[X,X] A (call (.builtin "isinstance") [u,c]) Q E s:=by
 cases ty with
 |non=>rw[show u=G9 from U,0];exact vI PySem.W.kitx_none I.kIn VF e (λz=>nomatch z) h|bl y=>rw[show u=GX y from U,0];exact vI PySem.W.kitx_bool I.kIn VF e (λz=>nomatch z) h|int i=>obtain⟨t,q⟩:=(show∃t,u=Gy i t from U);rw[q,0];exact vI PySem.W.kitx_int I.kIn VF e (λz=>nomatch z) h|str y=>obtain⟨t,q⟩:=(show∃t,u=VC y t from U);rw[q,0];exact vI PySem.W.kitx_str I.kIn VF e (λz=>nomatch z) h|flt y=>obtain⟨t,q⟩:=(show∃t,u=tS y t from U);rw[q,0];exact vI PySem.W.kitx_float I.kIn VF e (λz=>nomatch z) h| @lst a xs ea=>
  rw[show u=Vj a from U,0]
  obtain⟨_,_,n,_,h1⟩:=(show yj X.prog X.w H s.heap a (.lst xs) from I.hok a _ ea)
  exact vI PySem.W.kitx_list I.kIn [_:h1:1] e (λz=>nomatch z) h
 | @frz a ob xs ea=>
  rw[show u=Vj a from U,0]
  obtain⟨_,_,_,n,_,h1⟩:=(show yj X.prog X.w H s.heap a (.frz ob (.lst xs)) from I.hok a _ ea)
  exact vI PySem.W.kitx_list I.kIn [_:h1:1] e (λz=>nomatch z) h
 | @tup a xs ea=>
  rw[show u=Vj a from U,0]
  obtain⟨_,_,_,p⟩:=(show yj X.prog X.w H s.heap a (¬xs) from I.hok a _ ea)
  erw[p,o,h1,h2,_,<-vI PySem.W.kitx_tuple I.kIn [o:h1:h2] e (λz=>nomatch z) h]
 | @dK a kvs ea=>
  rw[show u=Vj a from U,0]
  obtain⟨_,_,vs,_,p⟩:=(show yj X.prog X.w H s.heap a (.dK kvs) from I.hok a _ ea)
  erw[p,o,es,ep,h1,h2,_,<-vI PySem.W.kitx_dict I.kIn [o:h1:h2.1] e (λz=>nomatch z) h]
 | @dT a kvs ea=>
  rw[show u=Vj a from U,0]
  obtain⟨_,_,xs,_,o,es,ep,h1,h2,_⟩:=(show yj X.prog X.w H s.heap a (.dT kvs) from I.hok a _ ea)
  exact vI PySem.W.kitx_dict I.kIn [o:h1:h2.1] e (λz=>nomatch z) h
 | @ins a C dx fs ea cl ha hn htk hm=>
  rw[show u=Vj a from U,0]
  erw[qaE I.hok ea,mA,O,_];erw[O.look,od,J,_,<-vI (PySem.W.kitx_own (cl.get _) cl.hd ha hn htk hm) I.kIn J e (λz=>nomatch z) h]
end
structure mB (k:Nat)(A:oh):Prop where
 hd:A.handled=U_
 dp:A.depth+3*k+5<recursionLimit
 un:A.units+16*k+200<Vp
variable {j:Nat}
def mB.mono {k:Nat}(r:mB k A)(h:j<=k):mB j A:=⟨r.hd,by have:=r.dp;omega,by have:=r.un;omega⟩
def mB.deeper {k:Nat}(r:mB (k+1) A)(env:Env):mB k (A.deeper env):=
 ⟨r.hd,by have:=r.dp;show A.depth+1+3*k+5<_;omega,by have:=r.un;show A.units+3+16*k+200<_;omega⟩
def CK {kw:oj (Str×o6)}:(A.under (.builtin "type.__call__" [.ref C::us:kw])).depth=A.depth+1:=by
 first|rfl|simp[To,Code.weight,Code.isCreation,Code.isGuard,Code.isCaller,RI,Tb,guardIds]
def CJ {kw:oj (Str×o6)}:(A.under (.builtin "type.__call__" [.ref C::us:kw])).units=A.units+1:=by
 first|rfl|simp[To,Code.cUnits,RI,Tb]
def mB.make {k:Nat}(r:mB (k+1) A)(C:o3)(us:oj o6)(kw:oj (Str×o6)):mB k (A.under (.builtin "type.__call__" [.ref C::us:kw])):=
 ⟨r.hd,by have:=r.dp;rw[CK];omega,by have:=r.un;rw[CJ];omega⟩
def mB.depth {k:Nat}(r:mB k A):A.depth<recursionLimit:=by have:=r.dp;omega
def mB.units {k:Nat}(r:mB k A):A.units+64<cLine:=by have:=r.un;omega
def mB.units0 {k:Nat}(r:mB k A):A.units<cLine:=by have:=r.un;omega
abbrev AaD:TA:=λ_ H Q=>Q [] H
abbrev La (ta:TE)(tr:TA):TA:=λσ H Q=>ta σ H λx H1=>tr σ H1 λxs H2=>Q (x::xs) H2
section
variable {X:Cx}{e:Expr}{es:oj Expr}{te:TE}{t:TA}{pos:Pos}
def qd:PA X [] AaD:=λ_ _ _ _ H Q I h=>UL ([],H,I,.nil,h)
def qb (ha:PE X e te)(U:PA X es t)(Z:Vi (e::es) X.env=(Vd,eval e X.env)::Vi es X.env:=by rfl):PA X (e::es) (La te t):=by
 intro pos oq s σ H Q I h;rw[Z];show Ve _ _ (TF ((Vd,eval e X.env)::Vo pos (Vi es X.env))) _ _ s;refine Ud (thn (ha oq s σ H _ I h) λu s1 zq=>?_);erw[zq,x,H1,I1,r1,q1,<-thn (U pos oq s1 σ H1 _ I1 q1) λus s2 ⟨xs,H2,I2,r2,q2⟩=>(x::xs,H2,I2,.cons r1 r2,q2)]
abbrev Aed (t:TA):TE:=λσ H Q=>t σ H λxs H1=>↑xs<=Vh/\∀p,H1 p=U_->Q (-p) (upd H1 p (¬xs))
abbrev Aei (t:TA):TE:=λσ H Q=>t σ H λxs H1=>↑xs<=Vh/\∀p,H1 p=U_->Q (-p) (upd H1 p (.lst xs))
def qD {x1}(h:PA X es t):PE X (.Tuple es x1 pos) (Aed t):=by
 rw[2,Q,I,Z];refine wpAny_Tuple_spliced (thn (h pos oq s σ H _ I Z) λus s1 ⟨xs,H1,U,r,z,q⟩=>⟨by rwa[<-↑r],?_⟩)
 let hf:H1 #[0,s1]=none:=U.hok.fresh (uq _);rw[_,.ref #[0,s1],upd H1 #[0,s1] (¬xs),U.laid (t':=s1.toks) (λb u e=>ud _ e) (uq _) ?_,1,q _ hf];exact(z,us,r,(_,uH _ rfl,1,0))
def QF (h:PA X es t):PE X (.List es pos) (Aei t):=by
 rw[2,Q,I,Z];refine wpAny_List_spliced (thn (h pos oq s σ H _ I Z) λus s1 ⟨xs,H1,U,r,z,q⟩=>⟨by rwa[<-↑r],?_⟩)
 let hf:H1 #[0,s1]=none:=U.hok.fresh (uq _);rw[_,.ref #[0,s1],upd H1 #[0,s1] (.lst xs),U.laid (t':=s1.toks) (λb u e=>ud _ e) (uq _) ?_,1,q _ hf];exact(z,us,(0),r,uH _ rfl)
end
nonrec abbrev Sp:=oj V->Hp->VK->XK->Prop
nonrec abbrev CXT:=oj Env->Hp->o7->XK->o6->o7->Prop
structure Aai (P:o9)(w:og)(K:o0)(mg:Str->om o6)(base:o8)(A:oh)(outer:oj Env)(s:o7)(H:Hp):Prop where
 frames:A.frames=u_ outer
 mod:Mod K mg base
 bs:∀b o,base.get? b=u_ o->s.heap.get? b=u_ o/\H b=U_
 bsz:base.objs.size<=#[0,s]
 funs:s.heap.FunFrames base outer
 frf:∀b>frs outer,H b=U_
 hok:HOk P w H s.heap
 bare:VX s.gens
abbrev CE (outer:oj Env)(P:o9)(w:og)(H:Hp)(s:o7)(Q:VK)(u:o6)(s':o7):Prop:=
 ∃v H',s'.os=s.os/\VX s'.gens/\0<s'.toks/\Un (frs outer) [] H H' s.heap s'.heap/\HOk P w H' s'.heap/\ik v u/\Q v H'
abbrev CR (CX:CXT)(outer:oj Env)(P:o9)(w:og)(H:Hp)(s:o7)(Q:VK)(E:XK)(r:GM)(s':o7):Prop:=
 match r with
 | .ok (.ret u)=>CE outer P w H s Q u s'| .ok _=>False| .error e=>CX outer H s E e s'
structure FnOk (P:o9)(w:og)(K:o0)(mg:Str->om o6)(base:o8)(CX:CXT)(k:Nat)(f:o3)(fd:Vg)(ps:oj Str)(sp:Sp):Prop where
 len:∀vs H Q E,sp vs H Q E->↑vs=↑ps
 run:∀(A:oh) (outer:oj Env) (s:o7) (H:Hp) (args:Args) (us:oj o6) (vs:oj V) (Q:VK) (E:XK),mB k A->Aai P w K mg base A outer s H->GR s fd args (ps.zip us)->iw vs us->sp vs H Q E->(0<s.toks\/∃x r,ps=x::r/\fd.scope.names.lookup x=u_ .local)->
  VN (Vt P w) A (.call (-f) args) (CR CX outer P w H s Q E) s
variable {mg:Str->om o6}{base:o8}
def Aai.make {P:o9}{outer:oj Env}(e:Aai P w K mg base A outer s H)(C:o3)(us:oj o6)(kw:oj (Str×o6)):
  Aai P w K mg base (A.under (.builtin "type.__call__" [.ref C::us:kw])) outer s H:=(by first|exact e.frames|(simpa [To,Code.envs,Tb,pushEnvs] using e.frames),e.mod,e.bs,e.bsz,e.funs,e.frf,e.hok,e.bare)
section
variable {X:Cx}{oq:oj (o3×Obj)}{σ:St}{H:Hp}{s s':o7}
def Inv.env0 (I:#[I]):Aai X.prog X.w X.K X.mg X.base X.A X.stack s H:=
 (I.ok.frames,I.ok.mod,I.bs,vb I.ok.bsz I.sz,I.stack,I.stkFree,I.hok,I.bare)
variable {Q:VK}
def Inv.after (I:#[I])(h:CE X.stack X.prog X.w H s Q u s'):EP X oq σ Q u s':=by
 erw[h,v,H',os,bare,htk,un,hok,r,q];erw[s',Z,g,d,t,U];obtain rfl:U=s.os:=os;exact(v,H',I.call (h':=Z) (g':=g) (d':=d) (t':=t) (ch:= []) un hok bare (λb z=>A8 z (by simp)),r,q)
end
abbrev AcT (sp:Sp)(dvs:oj V)(E:XK)(t:TA):TE:=λσ H Q=>t σ H λvs H1=>sp (vs++dvs) H1 Q E
inductive Acn (C:Addr)(m:Str)(sp:Sp)(dvs:List V)(E:XK)(t:TA)(σ:St)(Q:VK)(x:V)(H1:Hp):Prop
 |mk (a:_)(dx:_)(fs:_)(_:x=-a)(_:H1 a=u_ (.ins C dx fs))(_:fs.lookup m=U_)(_:t σ H1 λvs H2=>sp (x::(vs++dvs)) H2 Q E)
abbrev AaG (C:o3)(m:Str)(sp:Sp)(dvs:oj V)(E:XK)(ta:TE)(t:TA):TE:=λσ H Q=>ta σ H λx H1=>Acn C m sp dvs E t σ Q x H1
abbrev AcO (C:o3)(sp:Sp)(dvs:oj V)(E:XK)(t:TA):TE:=λσ H Q=>t σ H λvs H1=>∀x dx,H1 x=U_->H1 dx=U_->dx≠x->
 sp (.ref x::(vs++dvs)) (upd (upd H1 dx (.own x)) x (.ins C dx [])) (λv H2=>v= .non/\Q (-x) H2) E
abbrev Xd (K:o0)(fd:Vg)(ps:oj Str)(ds:oj o6):Prop:=
 ∀(s:o7) (us:oj o6),K.In s.heap->↑(us++ds)=↑ps->GR s fd [us:[]] (ps.zip (us++ds))
variable {fd:Vg}
def Xd.all {ps:oj Str}(h:∀us:oj o6,↑us=↑ps->Gk fd [us:[]]=pure (ps.zip us)):Xd K fd ps []:=λs us _ U=>by
 rw[vJ] at U⊢;exact .of_eq (h us U)
abbrev X8 (CX:CXT)(X:Cx)(E:XK):Prop:=∀(oq:oj (o3×Obj)) (σ:St) (H:Hp) (s:o7) (e:o6) (s':o7),#[I]->CX X.stack H s E e s'->X.xe e s'
section
variable {X:Cx}{CX:CXT}{k:Nat}{f C:o3}{fd:Vg}{ps:oj Str}{sp:Sp}{dvs:oj V}{ds:oj o6}{E:XK}{x m:Str}{p pos apos:Pos}{e o:Expr}{es:oj Expr}{ta:TE}{t:TA}
def Bt {oq:oj (o3×Obj)}{σ:St}{H:Hp}{s:o7}{Q:VK}{us:oj o6}{vs:oj V}(F:FnOk X.prog X.w X.K X.mg X.base CX k f fd ps sp)(hr:mB k X.A)(hb:Xd X.K fd ps ds)(hd:iw dvs ds)(hx:X8 CX X E)
  (I:#[I]) (r:iw vs us) (h:sp (vs++dvs) H Q E):Ve #[X,X] X.A (call (-f) us) (EP X oq σ Q) X.xe s:=by
 let Z:iw (vs++dvs) (us++ds):=r.append hd;let hl:↑(us++ds)=↑ps:=by rw[<-↑Z];exact F.len _ _ _ _ h
 refine He (UE (F.run X.A X.stack s H [us:[]] (us++ds) (vs++dvs) Q E hr I.env0 (hb s us I.kIn hl) Z h (.inl I.tk)) λr s' U=>?_);cases r with
 |error e=>exact hx oq σ H s e s' I U|ok fl=>
  cases fl with
  |ret u=>exact I.after U|next=>exact Vx U|brk=>exact Vx U|cont=>exact Vx U
def qp (F:FnOk X.prog X.w X.K X.mg X.base CX k f fd ps sp)(hr:mB k X.A)(hg:Gl X x)(hm:X.mg x=u_ (-f))(hk:PySem.W.keepIn X.K (-f)=v_)(hb:Xd X.K fd ps ds)(hd:iw dvs ds)(hx:X8 CX X E)
  (ha:PA X (e::es) t) (U:(x==("__debug__":Str))=Vd) (he:Vi (e::es) X.env=(Vd,eval e X.env)::Vi es X.env) (Z:(Vo pos (Vi es X.env)).any (·.1)=Vd):
  PE X (.Call (.Name x p) (e::es) [] pos) (AcT sp dvs E t):=by
 rw[2,Q,I,h];refine Uw (wu I hg hm ?_ U);refine Ux (h₀:=X.base) I.ok.mod.kin hk (thn (ha pos oq s σ H _ I h) λus s1 ⟨vs,H1,I1,r,q⟩=>[I1.kIn:?_]) he Z;exact Bt F hr hb hd hx I1 r q
def Qn {pl:Sem Bool}(he:PE X o ta)(c:Cls X.K C)(hm:Aan X.K C m f)(F:FnOk X.prog X.w X.K X.mg X.base CX k f fd ps sp)(hr:mB k X.A)(hb:Xd X.K fd ps ds)(hd:iw dvs ds)(hx:X8 CX X E)(ha:PA X (e::es) t)
  (U:Vi (e::es) X.env=(Vd,eval e X.env)::Vi es X.env) (Z:(Vo pos (Vi es X.env)).any (·.1)=Vd)
  (ht:eval (.Call (.Attribute o m apos) (e::es) [] pos) X.env=(do
   let ov<-eval o X.env
   GJ apos.atName
   let(f,first)<-gV [ov] (GT ov m pl)
   Ha pos f first (Vo pos (Vi (e::es) X.env)) (Gh pos (Gi [] X.env)))):
  PE X (.Call (.Attribute o m apos) (e::es) [] pos) (AaG C m sp dvs E ta t):=by
 rw[2,Q,I,h];refine PySem.W.methodCall_KW (pl:=pl) (thn (he oq s σ H _ I h) λu s1 zq=>?_) ht;erw[zq,x,H1,I1,rx,a,dx,fs,ex,ea,l,q];subst ex;obtain rfl:u=Vj a:=rx;refine Zv I1 ea c hm l ?_;refine Ux (first:= [-a]) (h₀:=X.base) I.ok.mod.kin hm.kp (thn (ha pos oq s1 σ H1 _ I1 q) λus s2 ⟨vs,H2,I2,r,q2⟩=>[I2.kIn:?_]) U Z;exact Bt (us:= .ref a::us) (vs:= .ref a::vs) F hr hb hd hx I2 (.cons rfl r) q2
def QI {pl:Sem Bool}(Z:PE X o ta)(c:Cls X.K C)(hm:Aan X.K C m f)(F:FnOk X.prog X.w X.K X.mg X.base CX k f fd ps sp)(hr:mB k X.A)(hb:Xd X.K fd ps ds)(hd:iw dvs ds)(hx:X8 CX X E)
  (ht:eval (.Call (.Attribute o m apos) [] [] pos) X.env=(do
   let ov<-eval o X.env
   GJ apos.atName
   let(f,first)<-gV [ov] (GT ov m pl)
   Ha pos f first (Vo pos (Vi [] X.env)) (Gh pos (Gi [] X.env)))):
  PE X (.Call (.Attribute o m apos) [] [] pos) (AaG C m sp dvs E ta AaD):=by
 rw[2,Q,I,h];refine PySem.W.methodCall_KW (pl:=pl) (thn (Z oq s σ H _ I h) λu s1 zq=>?_) ht;erw[zq,x,H1,U,rx,a,dx,fs,ex,ea,l,q];subst ex;obtain rfl:u=Vj a:=rx;refine Zv U ea c hm l ?_;exact PySem.W.callWith_K0 (first:= [-a]) U.kIn hm.kp (Bt (us:= [-a]) (vs:= [-a]) F hr hb hd hx U (.cons rfl .nil) q)
structure Mk (K:o0)(C f:o3):Prop where
 makes:PySem.W.makesIn K C=v_
 init:PySem.W.findIn K (-C) "__init__"=u_ (u_ (-f))
 fn:PySem.W.isFn K (-f)=v_
 kp:PySem.W.keepIn K (-C)=v_
def Ly {oq:oj (o3×Obj)}{σ:St}{H:Hp}{s:o7}{Q:VK}{us:oj o6}{vs:oj V}(M:Mk X.K C f)(F:FnOk X.prog X.w X.K X.mg X.base CX k f fd ps sp)(hr:mB (k+1) X.A)(hb:Xd X.K fd ps ds)(hd:iw dvs ds)
  (hx:X8 CX X E) (I:#[I]) (r:iw vs us)
  (h:∀x dx,H x=U_->H dx=U_->dx≠x->sp (.ref x::(vs++dvs)) (upd (upd H dx (.own x)) x (.ins C dx [])) (λv H2=>v= .non/\Q (-x) H2) E):
  Ve #[X,X] X.A (call (-C) us) (EP X oq σ Q) X.xe s:=by
 let hq:=h (#[0,s]+1) #[0,s] (I.hok.fresh (Up _)) (I.hok.fresh (uq _)) (uY (U9 _));let Z:=Inv.made (C:=C) I;let r2:iw (V.ref (#[0,s]+1)::(vs++dvs)) (Vj (#[0,s]+1)::(us++ds)):= .cons rfl (r.append hd);let hl:↑(Vj (#[0,s]+1)::us++ds)=↑ps:=by
  let e:=↑r2;rw[F.len _ _ _ _ hq] at e;exact e.symm
 refine He (Mh (f:=f) I.kIn M.makes M.init (beq_iff_eq.mp M.fn) (UE (F.run _ X.stack _ _ [Vj (#[0,s]+1)::us:[]] (Vj (#[0,s]+1)::(us++ds)) _ _ E (hr.make C us [])
  (Z.env0.make C us []) (hb _ (Vj (#[0,s]+1)::us) Z.kIn hl) r2 hq (.inl Z.tk)) λr s' U=>?_))
 cases r with
 |error e=>exact hx oq σ _ _ e s' Z U|ok fl=>
  cases fl with
  |ret u=>
   erw[Z.after U,v,H',I3,rv,ev,q3];subst ev;exact[rv:(V.ref (#[0,s]+1),H',I3,1,q3)]
  |next=>exact Vx U|brk=>exact Vx U|cont=>exact Vx U
def XN (M:Mk X.K C f)(F:FnOk X.prog X.w X.K X.mg X.base CX k f fd ps sp)(hr:mB (k+1) X.A)(hg:Gl X x)(hm:X.mg x=u_ (-C))(hb:Xd X.K fd ps ds)(hd:iw dvs ds)(hx:X8 CX X E)
  (ha:PA X (e::es) t) (U:(x==("__debug__":Str))=Vd) (he:Vi (e::es) X.env=(Vd,eval e X.env)::Vi es X.env) (Z:(Vo pos (Vi es X.env)).any (·.1)=Vd):
  PE X (.Call (.Name x p) (e::es) [] pos) (AcO C sp dvs E t):=by
 rw[2,Q,I,h];refine Uw (wu I hg hm ?_ U);refine Ux (h₀:=X.base) I.ok.mod.kin M.kp (thn (ha pos oq s σ H _ I h) λus s1 ⟨vs,H1,I1,r,q⟩=>[I1.kIn:?_]) he Z;exact Ly M F hr hb hd hx I1 r q
end
structure qv (N P:oj Str)(sc:Vw):Prop where
 kind:sc.kind= .function
 co:sc.isCoroutine=Vd
 gen:sc.isGenerator=Vd
 nd:N.Nodup
 pre:N.take ↑P=P
 par:∀x>P,sc.names.lookup x=u_ .local\/sc.names.lookup x=u_ .cell
 nofree:∀y>sc.names,y.2≠ .free
def sQ {kindOf:Str->om VT}{x:Str}:∀{binds:oj (Str×o6)}{m:Str->om o6},(∀v,(x,v)∉binds)->VP kindOf binds m x=m x
 | [],_,_=>rfl|(n,v)::r,m,h=>by
  unfold VP;rw[sQ λw U=>h w (uh _ U)];split
  .have:x≠n:=by rintro rfl;exact h v uj
   simp[this]
  .rfl
def sS {kindOf:Str->om VT}{x:Str}:∀{binds:oj (Str×o6)}{m:Str->om o6},(∀v,(x,v)∉binds)->VS kindOf binds m x=m x
 | [],_,_=>rfl|(n,v)::r,m,h=>by
  unfold VS;rw[sS λw U=>h w (uh _ U)];split
  .rfl
  .have:x≠n:=by rintro rfl;exact h v uj
   simp[this]
def sR {kindOf:Str->om VT}{x:Str}{v:o6}:∀{P:oj Str}{vs:oj o6}{i:Nat}{m:Str->om o6},P.Nodup->P[i]? =u_ x->vs[i]? =u_ v->kindOf x=u_ .local->
  VP kindOf (P.zip vs) m x=u_ v
 | [],_,_,_,_,h,_,_=>by simp at h|_::_,[],_,_,_,_,h,_=>by simp at h|p::P,w::vs,0,m,nd,h1,h2,hk=>by
  simp at h1 h2;subst h1;subst h2;show VP kindOf ((p,w)::P.zip vs) m p=_;unfold VP;rw[sQ λv U=>(List.nodup_cons.mp nd).1 (TQ U).1,A6 hk];simp
 |p::P,w::vs,i+1,m,nd,h1,h2,hk=>by
  show VP kindOf ((p,w)::P.zip vs) m x=_;unfold VP;exact sR (i:=i) (List.nodup_cons.mp nd).2 (by simpa using h1) (by simpa using h2) hk
def sT {kindOf:Str->om VT}{x:Str}{v:o6}:∀{P:oj Str}{vs:oj o6}{i:Nat}{m:Str->om o6},P.Nodup->P[i]? =u_ x->vs[i]? =u_ v->kindOf x≠u_ .local->
  VS kindOf (P.zip vs) m x=u_ v
 | [],_,_,_,_,h,_,_=>by simp at h|_::_,[],_,_,_,_,h,_=>by simp at h|p::P,w::vs,0,m,nd,h1,h2,hk=>by
  simp at h1 h2;subst h1;subst h2;show VS kindOf ((p,w)::P.zip vs) m p=_;unfold VS;rw[sS λv U=>(List.nodup_cons.mp nd).1 (TQ U).1,A4 hk];simp
 |p::P,w::vs,i+1,m,nd,h1,h2,hk=>by
  show VS kindOf ((p,w)::P.zip vs) m x=_;unfold VS;exact sT (i:=i) (List.nodup_cons.mp nd).2 (by simpa using h1) (by simpa using h2) hk
abbrev KK (N:oj Str)(vs:oj V):St:=vs.map u_++Rq (↑N-↑vs) U_
abbrev cxOf (CX:CXT)(P:o9)(w:og)(K:o0)(mg:Str->om o6)(base:o8)(N:oj Str)(qual:Str)(scope:Vw)(f:o3)(cd:o6)(A:oh)(outer:oj Env)(s:o7)(H:Hp)(E:XK):Cx where
 prog:=P
 w:=w
 K:=K
 mg:=mg
 base:=base
 A:=A.deeper (Vk qual scope #[0,s] f cd)
 N:=N
 s₀:=s
 H₀:=H
 env:=Vk qual scope #[0,s] f cd
 outer:=outer
 stack:=Vk qual scope #[0,s] f cd::outer
 ex:= []
 calm:=v_
 fn:=λ_=>v_
 pn:= []
 xe:=λe s'=>Ve (Vt P w) (A.deeper (Vk qual scope #[0,s] f cd)) (Tl (Vk qual scope #[0,s] f cd) e) (λ_ s''=>CX outer H s E e s'') (λe' s''=>CX outer H s E e' s'') s'
variable {n:Nat}{x:Str}
def Ch {sc:Vw}(h:sc.names.lookup x=u_ .cell):∃c,(GO n sc.names []).lookup x=u_ c:=by
 let q:=PySem.W.cellsFrom_some sc.names n [] (.inl h);exact Option.isSome_iff_exists.mp q
def ER {CX:CXT}{P:o9}{w:og}{K:o0}{mg:Str->om o6}{base:o8}{N ps:oj Str}{qual:Str}{scope:Vw}{f:o3}{cd:o6}{A:oh}{outer:oj Env}{s s1:o7}{H:Hp}{E:XK}{us:oj o6}{vs:oj V}
  (S:qv N ps scope) (hd:A.handled=U_) (e0:Aai P w K mg base A outer s H) (hl:↑vs=↑ps) (r:iw vs us)
  (x:Hg s #[0,s] (VP (Vk qual scope #[0,s] f cd).kindOf (ps.zip us) λ_=>U_) (GO (#[0,s]+1) scope.names []) (VS (Vk qual scope #[0,s] f cd).kindOf (ps.zip us) λ_=>U_) s1) (ac:0<s1.toks):
  Inv (cxOf CX P w K mg base N qual scope f cd A outer s H E) [] (KK N vs) H s1:=by
 let ad:↑ps<=↑N:=by have:=Aa VI S.pre;rw[uM] at this;omega
 erw[x.done,h1,tk,rfl,hk];let U:∀b:o3,b∉(cxOf CX P w K mg base N qual scope f cd A outer s H E).ex:=λb z=>A8 (show b>([]:oj o3) from z) (by simp)
 rw[_,(e0.mod,S.kind,1,1,uq _,λy z c h1 h2=>?_,λy Z=>?_,λy c _ h=>?_,λ_=>hd,Around.frames_deeper e0.frames,.inr [1:1],λb z=>A8 z (U b),e0.bs,e0.bsz,λb _ _=>U b,λb z=>A8 z (U b),e0.funs,e0.frf),1,e0.bare,Un.kept hk,[_:x.toInCall.ns:λi y v h1 h2 h3=>?_],λy c h=>[_:x.cell y c h],e0.hok.fresh (uq _),λy c h=>?_,λp hp=>A8 (show p>([]:oj (o3×Obj)) from hp) (by simp),e0.hok.kept hk,?_,ac]
 .exact name_of_addr x.apart (vU h1) (vU h2)
 .let Z:scope.names.lookup y=u_ .cell\/scope.names.lookup y=u_ .free:=Z;rcases Z with Z|Z
  .exact Ch Z
  .exact A8 rfl (S.nofree _ (vU Z))
 .exact UC (x.above y c (vU h))
 .let hi:i<↑vs:=by
   unfold KK at h2;by_cases hi:i<↑vs
   .exact hi
   .rw[UP (by simpa using hi)] at h2
    rw[Rh] at h2;split at h2<;>cases h2
  let ha:vs[i]? =u_ v:=by
   unfold KK at h2;rw[UQ (by simpa using hi),uK] at h2
   cases e:vs[i]? with
   |none=>rw[e,0] at h2|some a=>rw[e,0] at h2;rfl
  erw[r.get ha,u,hu,rv];let hp:ps[i]? =u_ y:=by
   rwa[<-S.pre,List.getElem?_take_of_lt ()]
  let aa:ps.Nodup:=by rw[<-S.pre];exact S.nd.sublist (FV _ _)
  rw[_,u,rv];rcases S.par y (uX hp) with k|k
  .exact .inl [k:sR aa hp hu k]
  .erw[Ch (n:=#[0,s]+1) k,c,e];refine .inr (.inl k,c,e,?_);let q:=x.cell y c e;rw[sT aa hp hu (by show scope.names.lookup y≠_;rw[k];decide)] at q
   exact q
 .exact e0.hok.fresh (UC (x.above y c (vU h)))
 .unfold KK;show _=↑N;rw[uw,u9,rB];omega
def Ba {M:G_}{A:oh}{E:o6->o7->Prop}{s₀ s:o7}{m cm:Str->om o6}{env:Env}(f:Str×o6->PUnit->Sem (ForInStep PUnit))(hf:∀n v u,f (n,v) u=(do HH env n v;pure (.yield ⟨⟩)))(U:env.scope.kind= .function)
  (n:Str) (v:o6) (r:oj (Str×o6)) (Q:PUnit->o7->Prop) (x:Hg s₀ env.locals m env.cells cm s) (hl:env.kindOf n=u_ .local)
  (aa:∀x>r,env.kindOf x.1=u_ .local\/(env.kindOf x.1=u_ .cell/\(env.cells.lookup x.1).isSome=v_))
  (h:∀s',Hg s₀ env.locals (VP env.kindOf ((n,v)::r) m) env.cells (VS env.kindOf ((n,v)::r) cm) s'->0<s'.toks->Q ⟨⟩ s'):Ve M A (VY ((n,v)::r) ⟨⟩ f) Q E s:=by
 rw[UF,hf];refine A7 (A7 (FB hl x.toInCall.ns (λh' ac Z=>uE ?_) (by rw[U];rfl)))
 let x1:Hg s₀ env.locals (λy=>if y=n then u_ v else m y) env.cells cm {s with heap:=h',toks:=s.toks+1}:=by
  rw[_,(?_,ac,λb o e=>?_,x.toInCall.fresh),λk c hc=>?_,x.apart,x.above]
  .erw[x.toInCall.same,h₁,tk,rfl,<-[h':0]]
  .have:=x.toInCall.keep b o e;exact Z.extBut b o (uY (Vs (uI e) x.toInCall.fresh)) (x.toInCall.keep b o e)
  .exact(x.cell k c hc).sameBut Z (Ub (x.above k c (mem_of_lookup hc)))
 refine vf (n:=1) (V9 (uS _)) (wpAny_bindParams f hf U r _ _ _ _ x1 aa λs' y h1=>h s' ?_ h1);unfold VP VS;rw[A6 hl,A6 hl];exact y
def Et {M:G_}{A:oh}{E:o6->o7->Prop}{s:o7}{scope:Vw}{globals:o3}{binds:oj (Str×o6)}{qual:Str}{func:om o3}{U:o6}{builtins:o3}{Q:Env->o7->Prop}
  (aa:scope.kind= .function)
  (ac:∀x>binds,scope.names.lookup x.1=u_ .local\/(scope.names.lookup x.1=u_ .cell/\((GO (#[0,s]+1) scope.names []).lookup x.1).isSome=v_))
  (htk:0<s.toks\/∃n v r,binds=(n,v)::r/\scope.names.lookup n=u_ .local)
  (hq:∀en,en=newEnv scope #[0,s] globals (GO (#[0,s]+1) scope.names []) qual func U U_ builtins->
   ∀s',Hg s en.locals (VP en.kindOf binds λ_=>U_) en.cells (VS en.kindOf binds λ_=>U_) s'->0<s'.toks->Q en s'):
  Ve M A (tP scope globals [] binds qual func U U_ builtins) Q E s:=by
 rcases htk with htk|⟨n,v,r,rfl,hl⟩
 .exact vf (n:=1) htk (wpAny_newFunctionEnv_cells aa ac λenv he s' x h1=>hq env he s' x h1)
 .simp![tP,tM,UW,if_false];refine A7 (wpAny_alloc ?_);refine A7 (wpAny_layCells _ (λname kind cells=>by cases ad:kind==Gg<;>simp[ad]) _ _ _ _ ?_)
  let Z:=cellsFrom_ok scope.names (s.heap.push {cls:= .type "frame",data:= .dict #[]}) (#[0,s]+1) [] [λ_ _ hm=>(nomatch hm):Rf] (by rw[vq];exact uq _);rw[vq] at Z;rw[show({s with heap:=s.heap.push {cls:= .type "frame",data:= .dict #[]}}:o7).heap.objs.size=#[0,s]+1 from vq ..]
  exact A7 (Ba (s₀:=s) (env:=newEnv scope #[0,s] globals (GO (#[0,s]+1) scope.names []) qual func U U_ builtins)
   _ (λ_ _ _=>rfl) aa n v r _
   ((⟨_,_,by rfl⟩,(Heap.Ns.new s.heap (.type "frame")).keeps (Fc _ _),λb o e=>Fc _ _ b o (ud _ e),uq _),
    λm c hc=>(Z.empty m c (mem_of_lookup hc)).1,Z.apart,λn c hm=>(Z.empty n c hm).2)
   hl (λy hy=>ac y (uh _ hy)) λs' x h1=>uE (hq _ rfl s' x h1))
def AbT {CX:CXT}{P:o9}{w:og}{K:o0}{mg:Str->om o6}{base:o8}{k:Nat}{f:o3}{name qual:Str}{U:Arguments}{Z:oj Stmt}{scope:Vw}{dV kV doc pm cdv ct oc:o6}{an od:om o3}
  {osl:Array (om o6)}{N ps:oj Str}{sp:Sp} (lk:K.lookup f=u_ (oc,od,.func (PySem.W.fnOf name qual U Z scope dV kV doc pm an cdv ct),osl)) (af:PySem.W.codeIn K cdv qual=v_) (S:qv N ps scope)
  (len:∀vs H Q E,sp vs H Q E->↑vs=↑ps)
  (aa:∀(A:oh) (outer:oj Env) (s:o7) (H:Hp) (vs:oj V) (Q:VK) (E:XK),mB k (A.deeper (Vk qual scope #[0,s] f cdv))->sp vs H Q E->
   ∃t,PSs (cxOf CX P w K mg base N qual scope f cdv A outer s H E) Z t/\t {nx:=λ_ H'=>Q .non H',rt:=Q} (KK N vs) H):
  FnOk P w K mg base CX (k+1) f (PySem.W.fnOf name qual U Z scope dV kV doc pm an cdv ct) ps sp:=by
 rw[_,len,λA outer s H args us vs Q E hr e0 hb r ad htk=>?_];let hl:=len _ _ _ _ ad;let KX:K.In s.heap:=e0.mod.kin.keeps λb o e=>(e0.bs b o e).1;let ag:s.heap.NoLimit:=e0.mod.nolimit.keeps λb o e=>(e0.bs b o e).1;let ac:∀y>ps.zip us,scope.names.lookup y.1=u_ .local\/(scope.names.lookup y.1=u_ .cell/\((GO (#[0,s]+1) scope.names []).lookup y.1).isSome=v_):=λ⟨n,v⟩ hy=>by
  rcases S.par n (TQ hy).1 with q|q
  .exact .inl q
  .exact .inr [q:PySem.W.cellsFrom_some _ _ _ (.inl q)]
 let ae:0<s.toks\/∃n v r,ps.zip us=(n,v)::r/\scope.names.lookup n=u_ .local:=by
  rcases htk with h|⟨y,q,e,hy⟩
  .exact .inl h
  .have:↑us=↑ps:=by rwa[<-↑r]
   subst e
   match us,this with
   |u::us',_=>exact .inr (y,u,q.zip us',1,hy)
 refine codeAny_call_function hr.depth (KX _ _ lk) rfl S.co S.gen rfl (PySem.W.codeRec_of KX af) (hb _ _ _ _ ?_);refine Et S.kind ac ae λenv he s1 x ah=>?_;subst he;rw[_,ag.keeps x.toInCall.keep,codeAny_func ?_];erw[aa A outer s H vs Q E (hr.deeper _) ad,t,ht,hq];let I:Inv (cxOf CX P w K mg base N qual scope f cdv A outer s H E) [] (KK N vs) H s1:=ER S hr.hd e0 hl r x ah;refine vz (ht [] s1 (KK N vs) H _ I hq) (λfl s' hs=>?_) λe s' hs=>hs;let fin:∀{σ':St}{H':Hp}{v:V}{u:o6},Inv (cxOf CX P w K mg base N qual scope f cdv A outer s H E) [] σ' H' s'->ik v u->Q v H'->CE outer P w H s Q u s':=
  λ{σ' H' v u} J rv q=>(v,H',J.os,J.bare,J.tk,J.base,J.hok,rv,q)
 cases fl with
 |ret u=>
  erw[hs,v,σ',H',J,rv,q,<-fin J rv q]
 |next=>
  erw[hs,σ',H',J,q,<-fin (v:=V.non) (u:=G9) J rfl q]
 |brk=>
  erw[hs,_,_,_,q,<-Vx q]
 |cont=>
  erw[hs,_,_,_,q,<-Vx q]
section
variable {X:Cx}{x:Str}{p pos:Pos}{e:Expr}{es:oj Expr}{t:TA}{id T:String}{r:oj V->Hp->VK->Prop}
abbrev tCB (r:oj V->Hp->VK->Prop)(t:TA):TE:=λσ H Q=>t σ H λvs H1=>r vs H1 Q
def qx (hc:YM X (.builtin id) r)(hg:Gl X x)(hm:X.mg x=U_)(hv:GG x=u_ (.builtin id))(ha:PA X (e::es) t)(hn:x≠"__name__")(U:(x==("__debug__":Str))=Vd)
  (he:Vi (e::es) X.env=(Vd,eval e X.env)::Vi es X.env) (Z:(Vo pos (Vi es X.env)).any (·.1)=Vd):PE X (.Call (.Name x p) (e::es) [] pos) (tCB r t):=by
 rw[2,Q,I,h];refine Uw (Z6 I hg hm hv ?_ hn U);exact pQ (thn (ha pos oq s σ H _ I h) λus s1 ⟨vs,H1,I1,r1,q1⟩=>hc oq s1 σ H1 vs us Q I1 r1 q1) he Z
def Qa (hc:YM X (.type T) r)(hg:Gl X x)(hm:X.mg x=U_)(hv:GG x=u_ (.type T))(ha:PA X (e::es) t)(hn:x≠"__name__")(U:(x==("__debug__":Str))=Vd)
  (he:Vi (e::es) X.env=(Vd,eval e X.env)::Vi es X.env) (Z:(Vo pos (Vi es X.env)).any (·.1)=Vd):PE X (.Call (.Name x p) (e::es) [] pos) (tCB r t):=by
 rw[2,Q,I,h];refine Uw (Z6 I hg hm hv ?_ hn U);exact vy (thn (ha pos oq s σ H _ I h) λus s1 ⟨vs,H1,I1,r1,q1⟩=>hc oq s1 σ H1 vs us Q I1 r1 q1) he Z
end
end L2
namespace HT
open PySem PyProof.Rows
section
variable {prog:o9}{w:og}{A:oh}{E:o6->o7->Prop}{s:o7}
def cat_tup {t b:o3}{vs ws:oj o6}{Q:o6->o7->Prop}(ht:GS s.heap t vs.toArray)(hb:GS s.heap b ws.toArray)(hv:vs≠ [])
  (h1:ws= []->Q (-t) s) (h2:ws≠ []->Q (.ref #[0,s]) {s with heap:=s.heap.push {cls:= .type "tuple",data:= .seq (vs++ws).toArray}})
  (hsz:↑vs+↑ws<=Vh):Ve #[w,w] A (VM .Add (-t) (-b)) Q E s:=by
 erw[id ht,[cls,dd,data,sl],ho,hc,n,hd];erw[id hb,[af,Z,ae,aa],U,ac,n2,ad];simp only at hc hd ac ad;subst hc hd ac ad;let e:vs.toArray++ws.toArray=(vs++ws).toArray:=by simp
 by_cases hw:ws= []
 .exact tF [_:ho:1] [_:U:1] TW tG PySem.F.slot_tuple_add UX (UT _ _)
   (tuple_addW1 t b vs.toArray ws.toArray n n2 dd Z sl aa (by simpa using hv) (by simp[hw])) [ho:U:h1 hw]
 .refine tF [_:ho:1] [_:U:1] TW tG PySem.F.slot_tuple_add UX (UT _ _)
   (tuple_addW2 t b vs.toArray ws.toArray n n2 dd Z sl aa (by simpa using hv) (by simpa using hw) (by rwa[uB,uB])) [ho:U:?_]
  rw[e];exact h2 hw
abbrev sIx (n d:Nat):om Int->Nat
 |none=>d|some v=>if v<0 then(v+(n:Int)).toNat else min v.toNat n
def sIx_none (n d:Nat):sIx n d U_=d:=rfl
def sIx_nat (n d k:Nat):sIx n d (u_ (k:Int))=min k n:=by
 show(if(k:Int)<0 then((k:Int)+(n:Int)).toNat else min (k:Int).toNat n)=min k n
 rw[A4 (),Ts]
def Aa3 (n d:Nat)(hd:d<=n)(o:om Int):sIx n d o<=n:=by
 cases o with
 |none=>exact hd|some v=>
  show(if v<0 then(v+(n:Int)).toNat else min v.toNat n)<=n
  by_cases U:v<0
  .rw[A6 U];omega
  .rw[A4 U];exact Nat.min_le_right _ _
def IA (v:Int)(n d:Nat):(if v<0 then max (v+(n:Int)) 0 else min v (n:Int))=((sIx n d (u_ v):Nat):Int):=by
 show(if v<0 then max (v+(n:Int)) 0 else min v (n:Int))=(((if v<0 then(v+(n:Int)).toNat else min v.toNat n):Nat):Int)
 by_cases U:v<0
 .simp![A6 U];omega
 .simp![A4 U];omega
def CZ (lo hi:om Int)(n:Nat):tH lo hi 1 (n:Int)=(((sIx n 0 lo:Nat):Int),((sIx n n hi:Nat):Int)):=by
 let h1:¬((1:Int)<0):=by omega
 unfold tH;simp![h1,if_false];refine Prod.ext ?_ ?_
 .cases lo with|none=>rfl|some v=>exact IA v n 0
 .cases hi with|none=>rfl|some v=>exact IA v n n
def CB (i j:Nat):Hw (i:Int) (j:Int) 1=j-i:=by
 unfold Hw;let h1:GT.gt (1:Int) 0:=by omega
 simp![h1,Vc,Int.ediv_one];split<;>omega
def kr {v:o6}{o:om Int}{Q:om Int->o7->Prop}(p:g_ v o)(h:Q o s):Ve #[w,w] A (pS v) Q E s:=by
 cases p with
 |none=>exact Fs h|int i t=>exact slicePart_int h
def Jo {sl:o3}{vl vu:o6}{lo hi:om Int}{n:Nat}{Q:Int×Int×Nat->o7->Prop}(hs:s.heap.IsSliceOf sl vl vu .none)(pl:g_ vl lo)(pu:g_ vu hi)
  (h:Q (((sIx n 0 lo:Nat):Int),1,sIx n n hi-sIx n 0 lo) s):Ve #[w,w] A (rg (-sl) (pure (n:Int))) Q E s:=by
 erw[id hs,os,U,aa,Z];unfold rg pZ;refine A7 (A7 (vm U Z (x:=vl) rfl (A7 (vm U Z (x:=vu) rfl (A7 (vm U Z (x:= .none) rfl (uE ?_)))))));refine A7 (Fs ?_);show Ve _ _ (if((1:Int)==0)=v_ then _ else _) _ _ s
 rw[A4 ()]
 refine A7 (kr pl (A7 (kr pu (A7 (uE ?_)))));show Ve _ _ (match tH lo hi 1 (n:Int) with|(lo,hi)=>pure (lo,(1:Int),Hw lo hi 1)) _ _ s
 rw[CZ lo hi n];show Ve _ _ (pure (((sIx n 0 lo:Nat):Int),(1:Int),Hw ((sIx n 0 lo:Nat):Int) ((sIx n n hi:Nat):Int) 1)) _ _ s;rw[CB];exact uE h
def LC (xs:Array o6)(i k:Nat):((Vq k).filterMap λ(m:Nat)=>xs[((i:Int)+(m:Int)*1).toNat]?).toArray=((xs.toList.drop i).take k).toArray:=by
 let e:(λ(m:Nat)=>xs[((i:Int)+(m:Int)*1).toNat]?)=λm=>xs[i+m]? :=by
  funext m
  have:((i:Int)+(m:Int)*1).toNat=i+m:=by omega
  rw[this]
 rw[e];have:=pick_run xs i k;rw[List.filterMap_map] at this;let e2:((λx=>xs[x]?)∘λx=>i+x)=λm=>xs[i+m]? :=rfl;rw[e2] at this;rw[this]
def getItem_tuple_cut {t sl:o3}{items:Array o6}{vl vu:o6}{lo hi:om Int}{Q:o6->o7->Prop}(Z:GS s.heap t items)(hs:s.heap.IsSliceOf sl vl vu .none)(pl:g_ vl lo)(pu:g_ vu hi)
  (hw:¬(sIx items.size 0 lo=0/\sIx items.size items.size hi=items.size))
  (h:Q (.ref #[0,s]) {s with heap:=s.heap.push {cls:= .type "tuple",data:= .seq ((items.toList.drop (sIx items.size 0 lo)).take (sIx items.size items.size hi-sIx items.size 0 lo)).toArray}})
  (hsz:items.size<=Vh):Ve #[w,w] A (VR (-t) (-sl)) Q E s:=by
 let U:sizeOk (.seq ((items.toList.drop (sIx items.size 0 lo)).take (sIx items.size items.size hi-sIx items.size 0 lo)).toArray):=by
  show((items.toList.drop (sIx items.size 0 lo)).take (sIx items.size items.size hi-sIx items.size 0 lo)).toArray.size<=Vh;rw[uB,uM,uQ,vt];omega
 let hj:sIx items.size items.size hi<=items.size:=Aa3 _ _ (uq _) hi;erw[id hs,os,aa,ac,af];let ad:s.TypeIs (-sl) "slice":=[os:aa:ac];unfold VR
 try with_reducible refine VQ ?_
 first|refine A7 (uE ?_)|skip
 refine A7 (rC Z.typeIs () ?_)
 refine A7 (vv (name:=Gz "__getitem__") Z.typeIs vV
  (vR vV Z.typeIs RS ?_ (rK _ _)))
 show Ve _ _ (Re (-t)>>=_) _ _ s;refine A7 (Fo Z ?_);refine A7 (GC ad ?_);rw[A6 ()]
 refine A7 (Jo hs pl pu ?_);let ae:¬((((sIx items.size 0 lo:Nat):Int)==0&&(1:Int)==1&&(sIx items.size items.size hi-sIx items.size 0 lo)==items.size)=v_):=by
  intro q;rw[uF,uF] at q;let q1:((sIx items.size 0 lo:Nat):Int)=0:=eq_of_beq q.1.1;let q2:sIx items.size items.size hi-sIx items.size 0 lo=items.size:=eq_of_beq q.2;exact hw [():()]
 show Ve _ _ (if(((sIx items.size 0 lo:Nat):Int)==0&&(1:Int)==1&&(sIx items.size items.size hi-sIx items.size 0 lo)==items.size)=v_ then _ else _) _ _ s
 rw[A4 ae,LC]
 first
  |exact A7 (m:=GW _) (vF (uE ⟨0,uE h⟩) U)
  |exact A7 (m:=GW _) (vF (A7 (uE (uE ⟨0,uE h⟩))) U)
  |exact A7 (A7 (m:=GW _) (vF (uE (uE ⟨0,uE h⟩)) U))
  |exact A7 (A7 (m:=GW _) (vF (uE ⟨0,uE h⟩) U))
end
end HT
namespace L2
open PySem PySem.Spec PyProof.Rows
nonrec abbrev TO:=St->Hp->(om Int->Hp->Prop)->Prop
abbrev PO (X:Cx)(e:om Expr)(t:TO):Prop:=
 ∀(oq:oj (o3×Obj)) (s:o7) (σ:St) (H:Hp) (Q:om Int->Hp->Prop),#[I]->t σ H Q->
  Ve #[X,X] X.A (evalPart e X.env) (λu s'=>∃o H',Inv X oq σ H' s'/\g_ u o/\Q o H') X.xe s
abbrev Df:TO:=λ_ H Q=>Q U_ H
inductive Acl (Q:(Option Int->Hp->Prop))(x:V)(H1:Hp):Prop
 |mk (i:_)(_:x= .int i)(_:Q (u_ i) H1)
abbrev AcM (t:TE):TO:=λσ H Q=>t σ H λx H1=>Acl Q x H1
def CT {ns:oj Int}:∀{us:oj o6},iw (ns.map V.int) us->GH us ns:=by
 induction ns with
 |nil=>intro us r;rw[UG,0] at r;exact .nil|cons n ns U=>
  intro us r;rw[uC] at r;cases r with
  |cons Z r2=>
   erw[Z,t,e];subst e;exact .cons n t (U r2)
section
variable {X:Cx}{e:Expr}{te:TE}{lo hi:om Expr}{tl th:TO}{pos p2:Pos}
def yy:PO X U_ Df:=by
 rw[2,Q,I,h];rw[T6];exact uE (U_,H,I,.none,h)
def ya (h:PE X e te):PO X (u_ e) (AcM te):=by
 rw[2,Q,I,U];rw[RE];refine thn (h oq s σ H _ I U) λu s1 zq=>?_;erw[zq,x,H1,Z,r1,q1];erw[q1,i,rfl,q];erw[r1,t,rfl,<-(u_ i,H1,Z,.int i t,q)]
abbrev SlR (X:Cx)(r:V->om Int->om Int->Hp->VK->Prop):Prop:=
 ∀(oq:oj (o3×Obj)) (s:o7) (σ:St) (H:Hp) (x:V) (v vl vu:o6) (lo hi:om Int) (sl:o3) (Q:VK),#[I]->ik x v->s.heap.IsSliceOf sl vl vu .none->g_ vl lo->g_ vu hi->r x lo hi H Q->
  ∃T id,HZ (.type T) "__getitem__"=pure (u_ (.builtin id))/\s.TypeIs v T/\Ve #[X,X] X.A (VR v (-sl)) (EP X oq σ Q) X.xe s
def SlR.or {r r':V->om Int->om Int->Hp->VK->Prop}(h:SlR X r)(h':SlR X r'):SlR X (λx lo hi H Q=>r x lo hi H Q\/r' x lo hi H Q):=by
 rw[2,x,v,U,Z,lo,hi,sl,Q,I,rx,hs,pl,pu,q];rcases q with q|q
 .exact h oq s σ H x v U Z lo hi sl Q I rx hs pl pu q
 .exact h' oq s σ H x v U Z lo hi sl Q I rx hs pl pu q
abbrev tSl (r:V->om Int->om Int->Hp->VK->Prop)(te:TE)(tl th:TO):TE:=λσ H Q=>te σ H λx H1=>tl σ H1 λl H2=>th σ H2 λu H3=>r x l u H3 Q
def QZ {r:V->om Int->om Int->Hp->VK->Prop}(hr:SlR X r)(he:PE X e te)(hl:PO X lo tl)(hu:PO X hi th):PE X (.Subscript e (.Slice lo hi U_ p2) pos) (tSl r te tl th):=by
 rw[2,Q,I,h];refine Hu (thn (he oq s σ H _ I h) λv s1 zq=>?_);erw[zq,x,H1,I1,r1,q1];refine Fb (thn (hl oq s1 σ H1 _ I1 q1) λZ s2 ⟨l,H2,I2,pl,q2⟩=>thn (hu oq s2 σ H2 _ I2 q2) λvu U zq=>?_);erw[zq,u,H3,I3,pu,q3];rw[T6];refine uE ?_;let I4:Inv X oq σ H3 {U with heap:=U.heap.push {cls:= .type "slice",data:= .fields #[Z,vu,.none]}}:=I3.kept (t':=U.toks) λb ob q=>ud _ q
 erw[hr oq {U with heap:=U.heap.push {cls:= .type "slice",data:= .fields #[Z,vu,.none]}} σ H3 x v Z vu l u #[0,U] Q I4 r1 (Rx ..) pl pu q3,T,id,hT,ht,hg]
 show Ve #[X,X] X.A (HI e (.Slice lo hi U_ p2) v (.ref #[0,U])) (EP X oq σ Q) X.xe {U with heap:=U.heap.push {cls:= .type "slice",data:= .fields #[Z,vu,.none]}}
 exact Ht (ops:= [.ref #[0,U],v]) ht hT hg #[w]
abbrev wr (xs:oj V)(lo hi:om Int):oj V:=(xs.drop (HT.sIx ↑xs 0 lo)).take (HT.sIx ↑xs ↑xs hi-HT.sIx ↑xs 0 lo)
def Wy (xs:oj V)(lo hi:om Int):↑(wr xs lo hi)<=↑xs:=by
 unfold wr;rw[uM,uQ];omega
inductive Aep (K:PySem.W.Frag)(x:V)(lo:Option Int)(hi:Option Int)(H:Hp)(Q:VK):Prop
 |mk (a:_)(xs:_)(_:x=-a)(_:SqT K H a xs)(_:¬(HT.sIx ↑xs 0 lo=0/\HT.sIx ↑xs ↑xs hi=↑xs))(_:∀p,H p=U_->Q (-p) (upd H p (.tup (wr xs lo hi))))
def AaW:SlR X (Aep X.K):=by
 rw[2,x,v,vl,vu,lo,hi,sl,Q,I,rx,hs,pl,pu,h];erw[h,a,xs,rfl,hx,hw,q];rw[rx,0];erw[I.tuple hx,its,r,Z,hz];let U:its.toArray.size=↑xs:=by rw[uB];exact r.length.symm
 rw[_,"tuple",_,PyProof.Rows.slot_tuple_getitem.lookup,Z.typeIs];refine HT.getItem_tuple_cut Z hs pl pu (by rwa[U]) ?_ (by rwa[U])
 rw[U];rw[_,.ref #[0,s],_,I.laid (t':=s.toks) (o:= .tup (wr xs lo hi)) (λb ob q=>ud _ q) (uq _) ?_,1,q _ (I.hok.fresh (uq _))];exact(vb (Wy xs lo hi) hz,_,(r.drop (HT.sIx ↑xs 0 lo)).take (HT.sIx ↑xs ↑xs hi-HT.sIx ↑xs 0 lo),Hn _ _)
inductive Ac3 (K:PySem.W.Frag)(x:V)(y:V)(H:Hp)(Q:VK):Prop
 |mk (a:_)(b:_)(xs:_)(ys:_)(_:x=-a)(_:y=-b)(_:SqT K H a xs)(_:SqT K H b ys)(_:xs≠ [])(_:↑xs+↑ys<=Vh)(_:(ys= []->Q (-a) H))(_:(ys≠ []->∀p,H p=U_->Q (-p) (upd H p (.tup (xs++ys)))))
variable {xs:oj V}{us:oj o6}
def iw.nil_iff (r:iw xs us):us= []↔xs= []:=by
 cases r with
 |nil=>simp|cons _ _=>simp
def Po:OpR X (VM .Add) (Ac3 X.K):=by
 rw[2,x,y,v,u,Q,I,rx,ry,h];erw[h,a,b,xs,ys,rfl,rfl,ha,hb,hx,hz,q1,q2];rw[rx,0];rw[ry,0];erw[I.tuple ha,its,Z,p1,_];erw[I.tuple hb,aa,U,p2,_];refine HT.cat_tup p1 p2 (λz=>hx (Z.nil_iff.mp z)) (λz=>(-a,H,I,1,q1 (U.nil_iff.mp z))) (λz=>?_) (by rwa[<-↑Z,<-↑U])
 rw[_,.ref #[0,s],_,I.laid (t':=s.toks) (o:= .tup (xs++ys)) (λb ob q=>ud _ q) (uq _) ?_,1,q2 (λw=>z (U.nil_iff.mpr w)) _ (I.hok.fresh (uq _))];exact(by rwa[uw],_,Z.append U,Hn _ _)
end
abbrev ixN (n:Nat)(i:Int):om Nat:=if 0<=i then(if i<n then u_ i.toNat else U_) else if-(n:Int)<=i then u_ (i+n).toNat else U_
abbrev atI {α:Type}(xs:oj α)(i:Int):om α:=(ixN ↑xs i).bind λj=>xs[j]?
variable {n j:Nat}
def AL {i:Int}(h:ixN n i=u_ j):hZ i n=u_ j/\j<n/\ -(n:Int)<=i/\i<n:=by
 unfold ixN at h;by_cases h0:0<=i
 .rw[A6 h0] at h;by_cases h1:i<n
  .rw[A6 h1] at h;let e:i.toNat=j:=uN h;exact(by rw[Tf h0 h1,e],(),(),h1)
  .rw[A4 h1,0] at h
 .rw[A4 h0] at h;by_cases h1: -(n:Int)<=i
  .rw[A6 h1] at h;let e:(i+n).toNat=j:=uN h;exact(by rw[TK () h1,e],(),h1,())
  .rw[A4 h1,0] at h
def qau {α:Type}{xs:oj α}{i:Int}{v:α}(h:atI xs i=u_ v):∃j,hZ i ↑xs=u_ j/\xs[j]? =u_ v/\j<↑xs/\ -(↑xs:Int)<=i/\i<↑xs:=by
 unfold atI at h;cases e:ixN ↑xs i with
 |none=>rw[e,0] at h|some j=>
  rw[e] at h;erw[AL e,h1,h2,h3,h4,<-(j,h1,h,h2,h3,h4)]
def qF {α:Type}{xs:oj α}{v:α}(h:xs[j]? =u_ v):atI xs (j:Int)=u_ v:=by
 let U:j<↑xs:=(Ag.mp h).1;let e:ixN ↑xs (j:Int)=u_ j:=by
  unfold ixN;rw[A6 (),A6 ()];simp
 unfold atI;rw[e];exact h
def qar {α:Type}(xs:oj α)(v:α):atI (xs++ [v]) (-1)=u_ v:=by
 let U:↑(xs++ [v])=↑xs+1:=by simp
 let e:ixN ↑(xs++ [v]) (-1)=u_ ↑xs:=by
  unfold ixN;rw[U,A4 (),A6 ()]
  congr 1
  omega
 unfold atI;rw[e];show(xs++ [v])[↑xs]? =u_ v;simp
abbrev Tm (b:Expr):Prop:=∀o i,Hf b Vd o i=HG [o,i] (VR o i)
abbrev IxR (X:Cx)(r:R2):Prop:=
 ∀(value slice:Expr) (oq:oj (o3×Obj)) (s:o7) (σ:St) (H:Hp) (x y:V) (v u:o6) (Q:VK),#[I]->ik x v->ik y u->r x y H Q->
  Hf slice Vd v u=HG [v,u] (VR v u)->Ve #[X,X] X.A (HI value slice v u) (EP X oq σ Q) X.xe s
abbrev MtR (X:Cx)(id:String)(r:V->oj V->Hp->VK->Prop):Prop:=
 ∀(oq:oj (o3×Obj)) (s:o7) (σ:St) (H:Hp) (x:V) (xs:oj V) (v:o6) (us:oj o6) (Q:VK),#[I]->ik x v->iw xs us->r x xs H Q->
  Ve #[X,X] X.A (call (.builtin id) (v::us)) (EP X oq σ Q) X.xe s
section
variable {X:Cx}{a b:Expr}{ta tb:TE}{pos:Pos}
def IxR.or {r r':R2}(h:IxR X r)(h':IxR X r'):IxR X (λx y H Q=>r x y H Q\/r' x y H Q):=by
 intro value slice oq s σ H x y v u Q I U Z q hs;rcases q with q|q
 .exact h value slice oq s σ H x y v u Q I U Z q hs
 .exact h' value slice oq s σ H x y v u Q I U Z q hs
def qG {r:R2}(U:IxR X r)(ha:PE X a ta)(Z:PE X b tb)(hs:Tm b):PE X (.Subscript a b pos) (tOp r ta tb):=by
 rw[2,Q,I,h];exact Hu (Adv ha Z I h λv u s2 x y H2 I2 rx ry q=>U a b oq s2 σ H2 x y v u Q I2 rx ry q (hs _ _))
inductive AdU (K:PySem.W.Frag)(x:V)(y:V)(H:Hp)(Q:VK):Prop
 |mk (p:_)(xs:_)(i:_)(v:_)(_:x=-p)(_:y= .int i)(_:SqL K H p xs)(_:atI xs i=u_ v)(_:Q v H)
inductive O5 (K:PySem.W.Frag)(x:V)(y:V)(H:Hp)(Q:VK):Prop
 |mk (p:_)(xs:_)(i:_)(v:_)(_:x=-p)(_:y= .int i)(_:SqT K H p xs)(_:atI xs i=u_ v)(_:Q v H)
inductive AdT (x:V)(y:V)(H:Hp)(Q:VK):Prop
 |mk (z:_)(i:_)(c:_)(_:x= !z)(_:y= .int i)(_:↑z<=Vh)(_:atI z.cps.toList i=u_ c)(_:Q (.str ⟨#[c]⟩) H)
def QR:IxR X (AdU X.K):=by
 intro value slice oq s σ H x y v u Q I rx ry h hs;erw[h,p,xs,i,z,rfl,rfl,hq,he,q];rw[rx,0];erw[ry,t,rfl];erw[I.list hq,its,r,pl,hz];erw[qau he,j,h1,h2,h3,h4,h5];erw[r.get h2,w,ew,U];let hl:=↑r;let hn:=ZY;let fin:EP X oq σ Q w s:=(z,H,I,U,q);by_cases h0:0<=i
 .let Z:i.toNat=j:=by
   rw[Tf h0 h5] at h1;exact uN h1
  exact item_listR pl.isList h0 () (by rw[Z];simpa using ew) fin hs
 .let Z:(i+(its.toArray.size:Int)).toNat=j:=by
   rw[TK () h4] at h1
   rw[uB,<-hl];exact uN h1
  exact FN (x:=w) pl.isList.typeIs slot_list_getitem.lookup
   (wpAny_getItem_list_neg (Q:=λr s'=>r=w/\EP X oq σ Q r s') pl.isList () (by rw[uB]<;>omega) () (by rw[Z];simpa using ew) [1:fin]) hs
def qC:IxR X (O5 X.K):=by
 intro value slice oq s σ H x y v u Q I Z ry h hs;erw[h,p,xs,i,z,rfl,rfl,hq,he,q];rw[Z,0];erw[ry,t,rfl];erw[I.tuple hq,its,r,pl,hz];erw[qau he,j,h1,h2,h3,h4,h5];erw[r.get h2,w,ew,U];let hl:=↑r;let hn:=ZY;let fin:EP X oq σ Q w s:=(z,H,I,U,q);exact FN (x:=w) pl.typeIs slot_tuple_getitem.lookup
  (getItem_tuple (j:=j) (Q:=λr s'=>r=w/\EP X oq σ Q r s') pl () () (by rwa[uB,<-hl]) (by simpa using ew) [1:fin]) hs
def BY:IxR X AdT:=by
 intro value slice oq s σ H x y v u Q I U Z h hs;erw[h,z,i,c,rfl,rfl,hz,he,q];erw[U,t,rfl];erw[Z,t',rfl];erw[qau he,j,h1,h2,h3,h4,h5];let hl:↑z.cps.toList=↑z:=by simp[G6]
 rw[hl] at h1 h4 h5;let hn:=ZY;exact Ht (vX s z t) slot_str_getitem.lookup (getItem_str (c:=c) (by
  let e1:decide (i< -(2^63:Int))=false:=ui ()
  let e2:decide (i≥2^63)=false:=ui ()
  rw[e1,e2,Bool.or_false]) (by rw[h1];simpa using h2) (.str ⟨#[c]⟩,H,I.tok _,⟨0⟩,q)) hs
abbrev rIx (K:o0):R2:=λx y H Q=>AdU K x y H Q\/O5 K x y H Q\/AdT x y H Q
def zg:IxR X (rIx X.K):=QR.or (qC.or BY)
def CI (its:oj o6)(n j:Nat)(u:o6):Hj (·.setIfInBounds j u) {cls:= .type "list",data:= .seq its.toArray n}={cls:= .type "list",data:= .seq (its.set j u).toArray n}:=by
 simp[Hj]
def Inv.lst {oq:oj (o3×Obj)}{σ:St}{H:Hp}{s:o7}{p:o3}{xs:oj V}(I:#[I])(h:H p=u_ (.lst xs)):
  ∃(its:oj o6) (n:Nat),iw xs its/\s.heap.get? p=u_ {cls:= .type "list",data:= .seq its.toArray n}/\↑xs<=sizeLine:=by
 erw[I.hok p _ h,z,its,n,r,e,<-(its,n,r,e,z)]
def Inv.lstUpd {oq:oj (o3×Obj)}{σ:St}{H:Hp}{s:o7}{p:o3}{xs ys:oj V}{its its':oj o6}{n U:Nat}{f:Obj->Obj}(I:#[I])(h:H p=u_ (.lst xs))
  (ho:s.heap.get? p=u_ {cls:= .type "list",data:= .seq its.toArray n}) (Z:f {cls:= .type "list",data:= .seq its.toArray n}={cls:= .type "list",data:= .seq its'.toArray U}) (r:iw ys its') (hz:↑ys<=Vh) (t:Nat) (ht:0<t:=by ac_rfl):
  Inv X oq σ (upd H p (.lst ys)) {s with heap:=s.heap.update p f,toks:=t}:=by
 let e:(s.heap.update p f).get? p=u_ {cls:= .type "list",data:= .seq its'.toArray U}:=by
  rw[TX f ho (by rw[Z]<;>rfl),Z]
 refine I.write (x:=p) (e:=p) (by rw[h];trivial) (.inl rfl) (λb u hb q=>(tV _ _ (U4 hb)).trans q) [_:e] ?_
 exact(hz,its',U,r,e)
inductive AcZ (o:V)(i:V)(v:V)(H:Hp)(Q:(Hp->Prop)):Prop
 |mk (p:_)(xs:_)(k:_)(j:_)(_:o=-p)(_:i= .int k)(_:H p=u_ (.lst xs))(_:ixN ↑xs k=u_ j)(_:Q (upd H p (.lst (xs.set j v))))
def Bo:Ad8 X AcZ:=by
 rw[2,o,i,v,ov,iv,u,Q,I,ro,ri,rv,h];erw[h,p,xs,k,j,rfl,rfl,hp,hj,q];rw[ro,0];erw[ri,t,rfl];erw[I.lst hp,its,n,r,U,hz];erw[AL hj,h1,h2,h3,h4];let Z:=↑r;let hn:=ZY;let I':Inv X oq σ (upd H p (.lst (xs.set j v))) {s with heap:=s.heap.update p (Hj (·.setIfInBounds j u))}:=
  I.lstUpd hp U (CI its n j u) (r.set rv j) (by rwa[Fv]) s.toks
 by_cases h0:0<=k
 .let hk:k.toNat=j:=by
   rw[Tf h0 h4] at h1;exact uN h1
  exact PySem.W.ki_setAt U h0 () (by rwa[uB,<-Z]) (by rw[hk];exact[_:I':q])
 .let hk:(k+(its.toArray.size:Int)).toNat=j:=by
   rw[TK () h3] at h1
   rw[uB,<-Z];exact uN h1
  exact PySem.W.ki_setBack U () (by rwa[uB,<-Z]) () (by rw[hk];exact[_:I':q])
def nR (lo hi:om Int)(n:Nat):(G7 lo hi U_ n).1=((HT.sIx n 0 lo:Nat):Int)/\(G7 lo hi U_ n).2.1=((HT.sIx n n hi:Nat):Int)/\(G7 lo hi U_ n).2.2=1:=by
 rw[_,?_,?_,1]
 .cases lo with
  |none=>simp[G7,HT.sIx]|some i=>
   simp![G7,HT.sIx,FD,show GT.gt (1:Int) 0 by decide,Vc]
   by_cases h:i<0
   .simp![h,Vc]<;>omega
   .simp![h,if_false]<;>omega
 .cases hi with
  |none=>simp[G7,HT.sIx]|some i=>
   simp![G7,HT.sIx,FD,show GT.gt (1:Int) 0 by decide,Vc]
   by_cases h:i<0
   .simp![h,Vc]<;>omega
   .simp![h,if_false]<;>omega
def KJ (its:oj o6)(lo hi:om Int):T4 its.toArray lo hi U_=((its.drop (HT.sIx ↑its 0 lo)).take (HT.sIx ↑its ↑its hi-HT.sIx ↑its 0 lo)).toArray:=by
 erw[nR lo hi its.toArray.size,h1,h2,h3];unfold T4;rw[h1,h2,h3];simp![sliceRange_one,pick_run,uB]<;>rfl
inductive Aeq (K:PySem.W.Frag)(x:V)(lo:Option Int)(hi:Option Int)(H:Hp)(Q:VK):Prop
 |mk (a:_)(xs:_)(_:x=-a)(_:SqL K H a xs)(_:∀p,H p=U_->Q (-p) (upd H p (.lst (wr xs lo hi))))
def Al:SlR X (Aeq X.K):=by
 rw[2,x,v,vl,vu,lo,hi,sl,Q,I,rx,hs,pl,pu,h];erw[h,a,xs,rfl,hx,q];rw[rx,0];erw[I.list hx,its,r,Z,hz];let U:=↑r;rw[_,"list",_,slot_list_getitem.lookup,Z.isList.typeIs];refine FH Z.isList hs pl pu .none (by simp) ?_ (by rw[uB]<;>omega)
 rw[KJ,<-U];rw[_,.ref #[0,s],_,I.laid (t':=s.toks) (o:= .lst (wr xs lo hi)) (λb ob q=>ud _ q) (uq _) ?_,1,q _ (I.hok.fresh (uq _))];exact(vb (Wy xs lo hi) hz,_,(0),(r.drop (HT.sIx ↑xs 0 lo)).take (HT.sIx ↑xs ↑xs hi-HT.sIx ↑xs 0 lo),uH _ rfl)
abbrev zY:V->Bool
 | .non=>v_| .bl _=>v_| .int _=>v_| .str _=>v_|_=>Vd
abbrev eqV:V->V->Bool
 | .non,.non=>v_| .bl a,.bl b=>a==b| .bl a,.int b=>(if a then 1 else 0)==b| .int a,.bl b=>a==(if b then 1 else 0)| .int a,.int b=>a==b| .str a,.str b=>a==b|_,_=>Vd
variable {A:oh}{s:o7}{y:V}{u:o6}
def AbV {x:V}{v:o6}(Z:ik y u)(U:ik x v)(fy:zY y=v_)(fx:zY x=v_):VJ A s u v (eqV y x):=by
 cases y with
 |non=>
  rw[Z,0];cases x with
  |non=>rw[U,0];exact f_ _|bl b=>rw[U,0];exact pM b|int b=>erw[U,t,rfl,<-RC b t]|str b=>erw[U,t,rfl,<-rq b t]|_=>exact A8 (show Vd=v_ from fx) uf
 |bl a=>
  rw[Z,0];cases x with
  |non=>rw[U,0];exact pT a|bl b=>rw[U,0];exact pI a b|int b=>erw[U,t,rfl,<-ph a b t]|str b=>erw[U,t,rfl,<-pE a b t]|_=>exact A8 (show Vd=v_ from fx) uf
 |int a=>
  erw[Z,t',rfl];cases x with
  |non=>rw[U,0];exact re a t'|bl b=>rw[U,0];exact pB a t' b|int b=>erw[U,t,rfl,<-rS a t' b t]|str b=>erw[U,t,rfl,<-TD a t' b t]|_=>exact A8 (show Vd=v_ from fx) uf
 |str a=>
  erw[Z,t',rfl];cases x with
  |non=>rw[U,0];exact FU a t'|bl b=>rw[U,0];exact pf a t' b|int b=>erw[U,t,rfl,<-Ta a t' b t]|str b=>erw[U,t,rfl,<-Fz a t' b t]|_=>exact A8 (show Vd=v_ from fx) uf
 |_=>exact A8 (show Vd=v_ from fy) uf
abbrev eqU (x:V)(u:o6):Bool:=match u with
 | .none=>eqV .non x| .bool b=>eqV (.bl b) x| .int i _=>eqV (.int i) x| .str z _=>eqV (!z) x|_=>Vd
def NN {x:V}(r:ik y u)(f:zY y=v_):eqU x u=eqV y x:=by
 cases y with
 |non=>rw[r,0];rfl|bl b=>rw[r,0];rfl|int i=>erw[r,t,rfl];rfl|str z=>erw[r,t,rfl];rfl|_=>exact A8 (show Vd=v_ from f) uf
def Wf {x:V}:∀{xs:oj V}{us:oj o6},iw xs us->xs.all zY=v_->us.any (eqU x)=xs.any λy=>eqV y x
 |_,_,.nil,_=>rfl|y::xs,u::us,.cons r t,f=>by
  rw[vN,uF] at f;rw[UM,UM,NN r f.1,Wf t f.2]
def XY {A:oh}{s:o7}{x:V}{v:o6}(Z:ik x v)(fx:zY x=v_):∀{xs:oj V}{us:oj o6},iw xs us->xs.all zY=v_->∀u>us,VJ A s u v (eqU x u)
 |_,_,.nil,_=>λu U=>by rw[U,0]|y::xs,u::us,.cons r t,f=>λu' U=>by
  rw[vN,uF] at f;rcases Ab.mp U with rfl|U
  .rw[NN r f.1];exact AbV r Z f.1 fx
  .exact XY Z fx t f.2 u' U
abbrev inV (x:V)(xs:oj V):Bool:=xs.any λy=>eqV y x
inductive rIn (K:PySem.W.Frag)(neg:Bool)(x:V)(y:V)(H:Hp)(Q:VK):Prop
 |mk (p:_)(xs:_)(_:y=-p)(_:(SqL K H p xs\/SqT K H p xs))(_:zY x=v_)(_:xs.all zY=v_)(_:Q (.bl (if neg then !(inV) x xs else inV x xs)) H)
def QP:OpR X (Vn .In) (rIn X.K Vd):=by
 rw[2,x,y,v,u,Q,I,rx,ry,h];erw[h,p,xs,rfl,U,fx,fs,q];rw[ry,0];rcases U with U|U
 .erw[I.list U,its,r,pl,hz];refine RH (eqU x) pl.isList (λw Z=>XY rx fx r fs w (by simpa using Z)) (.bl _,H,I,1,?_)
  rw[show its.toArray.any (eqU x)=its.any (eqU x) by simp,Wf r fs]
  exact q
 .erw[I.tuple U,its,r,pl,hz];refine rF (eqU x) pl (λw Z=>XY rx fx r fs w (by simpa using Z)) (.bl _,H,I,1,?_)
  rw[show its.toArray.any (eqU x)=its.any (eqU x) by simp,Wf r fs]
  exact q
def J0:OpR X (Vn .NotIn) (rIn X.K v_):=by
 rw[2,x,y,v,u,Q,I,rx,ry,h];erw[h,p,xs,rfl,U,fx,fs,q];rw[ry,0];rcases U with U|U
 .erw[I.list U,its,r,pl,hz];refine SeqAt.notIn_listAt (eqU x) pl.isList (λw Z=>XY rx fx r fs w (by simpa using Z)) (.bl _,H,I,1,?_)
  rw[show its.toArray.any (eqU x)=its.any (eqU x) by simp,Wf r fs]
  exact q
 .erw[I.tuple U,its,r,pl,hz];refine SeqAt.notIn_tupleAt (eqU x) pl (λw Z=>XY rx fx r fs w (by simpa using Z)) (.bl _,H,I,1,?_)
  rw[show its.toArray.any (eqU x)=its.any (eqU x) by simp,Wf r fs]
  exact q
def oG:OpR X (Vn .NotIn) (λx y H Q=>∃i j,x= .str i/\y= .str j/\Q (.bl (!(!(h_ j i 0 ↑j 1).isEmpty))) H):=by
 rw[2,x,y,v,u,Q,I,U,Z,h];erw[h,i,j,rfl,rfl,q];erw[U,t,rfl];erw[Z,t',rfl,<-notIn_str (.bl _,H,I,1,q)]
def qB:YM X (.builtin "len") (λxs H Q=>∃p ys,xs= [-p]/\(SqL X.K H p ys\/SqT X.K H p ys)/\Q (.int ↑ys) H):=by
 rw[2,xs,us,Q,I,r,h];erw[h,p,ys,rfl,Z,q];erw[Jc r,u,rfl,rx];rw[rx,0];let hn:=ZY;rcases Z with Z|Z
 .erw[I.list Z,its,r',pl,hz];let U:=↑r';exact F_ pl.isList (by simp![uB]<;>omega) (.int ↑ys,H,I.tok _,⟨s.toks+1,by rw[uB,U]⟩,q)
 .erw[I.tuple Z,its,r',pl,hz];let U:=↑r';exact len_tuple pl (by simp![uB]<;>omega) (.int ↑ys,H,I.tok _,⟨s.toks+1,by rw[uB,U]⟩,q)
def Z2:YM X (.builtin "len") (λxs H Q=>∃z,xs= [!z]/\↑z<=Vh/\Q (.int ↑z) H):=by
 rw[2,xs,us,Q,I,r,h];erw[h,z,rfl,hz,q];erw[Jc r,u,rfl,t,rfl];let hn:=ZY;exact len_str () (.int ↑z,H,I.tok _,⟨0⟩,q)
def sP:YM X (.type "list") (λxs H Q=>∃p ys,xs= [-p]/\(SqL X.K H p ys\/SqT X.K H p ys)/\∀l,H l=U_->Q (-l) (upd H l (.lst ys))):=by
 rw[2,xs,us,Q,I,r,h];erw[h,p,ys,rfl,Z,q];erw[Jc r,u,rfl,rx];rw[rx,0];let fin:∀(its:oj o6),iw ys its->↑ys<=Vh->∀(h':o8) (U:Nat),(∀b o',s.heap.get? b=u_ o'->h'.get? b=u_ o')->
   h'.get? #[0,s]=u_ {cls:= .type "list",dict:=U_,data:= .seq its.toArray U,slots:= #[]}->EP X oq σ Q (.ref #[0,s]) {s with heap:=h'}:=λits r' hz h' U kp e=>
  (.ref #[0,s],_,I.laid (t':=s.toks) kp (uq _) (show yj X.prog X.w _ h' _ (.lst ys) from(hz,its,U,r',e)),1,q _ (I.hok.fresh (uq _)))
 rcases Z with Z|Z
 .erw[I.list Z,its,r',pl,hz];let aa:=↑r';erw[pl.isList,o,ho,hc,n,hd,<-RG p (.inl rfl) ho hc hd (λh' U kp e=>fin its r' hz h' U kp e) (by simp![uB]<;>omega)]
 .erw[I.tuple Z,its,r',pl,hz];let aa:=↑r';erw[pl,o,ho,hc,n,hd,<-RG p (.inr rfl) ho hc hd (λh' U kp e=>fin its r' hz h' U kp e) (by simp![uB]<;>omega)]
def Qe:YM X (.type "tuple") (λxs H Q=>∃p ys,xs= [-p]/\((SqL X.K H p ys/\∀l,H l=U_->Q (-l) (upd H l (¬ys)))\/(SqT X.K H p ys/\Q (-p) H))):=by
 rw[2,xs,us,Q,I,r,h];erw[h,p,ys,rfl,h];erw[Jc r,u,rfl,rx];rw[rx,0];rcases h with⟨U,q⟩|⟨U,q⟩
 .erw[I.list U,its,r',pl,hz];let Z:=↑r';refine call_tuple_list pl.isList (λh' kp=>?_) (by simp![uB]<;>omega)
  let I1:Inv X oq σ H {s with heap:=h'}:=I.kept (t':=s.toks) kp
  let I2:Inv X oq σ (upd H h'.objs.size (¬ys)) {s with heap:=h'.push {cls:= .type "tuple",data:= .seq its.toArray}}:=
   I1.laid (t':=s.toks) (λb o e=>ud _ e) (uq _) (show yj X.prog X.w _ _ _ (¬ys) from(hz,its,r',Hn _ _))
  exact(-h'.objs.size,_,I2,1,q _ (I1.hok.fresh (uq _)))
 .erw[I.tuple U,its,r',pl,hz,<-call_tuple_same pl (-p,H,I,1,q)]
abbrev tyV (K:o0)(T:String)(x:V)(H:Hp):Prop:=match x with
 | .str _=>T="str"| .int _=>T="int"| .ref p=>(T="list"/\∃xs,SqL K H p xs)\/(T="tuple"/\∃o,K.lookup p=u_ o/\o.cls= .type "tuple"/\o.dict=U_)\/
   (T="dict"/\((∃kvs,H p=u_ (.dK kvs))\/∃kvs,H p=u_ (.dT kvs)))\/(T="set"/\∃S n,H p=u_ (.set S n))
 |_=>False
variable {oq:oj (o3×Obj)}{σ:St}{H:Hp}
def MT {T:String}{x:V}{v:o6}(I:#[I])(r:ik x v)(ty:tyV X.K T x H):
  s.TypeIs v T/\∀a,v= .ref a->∃ob,s.heap.get? a=u_ ob/\ob.dict=none:=by
 cases x with
 |str z=>
  erw[r,t,rfl];rw[show T="str" from ty,0]
  exact[vX s z t:λ_ e=>nomatch e]
 |int i=>
  erw[r,t,rfl];rw[show T="int" from ty,0]
  exact[typeIs_int s i t:λ_ e=>nomatch e]
 |ref p=>
  rw[r,0];rcases ty with⟨rfl,xs,Z⟩|⟨rfl,o,U,hc,hd⟩|⟨rfl,U⟩|⟨rfl,S,n,U⟩
  .erw[I.list Z,its,_,pl,_];rw[_,pl.isList.typeIs,λa e=>?_];rw[e,0];erw[pl,o,n,e,c,hd,_,<-[o:e:hd]]
  .rw[_,[o:I.kIn p o U:hc],λa e=>?_];rw[e,0];exact[o:I.kIn _ o U:hd]
  .let z:∃o,s.heap.get? p=u_ o/\o.ExactDict:=by
    rcases U with⟨kvs,U⟩|⟨kvs,U⟩
    .erw[I.hok p _ U,_,_,_,_,o,_,_,e,ex,_,<-[o:e:ex]]
    .erw[I.hok p _ U,_,_,_,_,o,_,_,e,ex,_,<-[o:e:ex]]
   erw[z,o,e,ex];rw[_,[o:e:ex.1],λa e2=>?_];rw[e2,0];exact[o:e:ex.2.1]
  .erw[I.hok p _ U,o,_,_,_,e,ex,_];rw[_,[o:e:ex.1],λa e2=>?_];rw[e2,0];exact[o:e:ex.2.1]
 |_=>exact Vx ty
abbrev Aek (K:o0)(T:String)(r:V->oj V->Hp->VK->Prop)(to:TE):TE:=λσ H Q=>to σ H λx H1=>tyV K T x H1/\r x [] H1 Q
abbrev tBM (K:o0)(T:String)(r:V->oj V->Hp->VK->Prop)(to:TE)(t:TA):TE:=λσ H Q=>to σ H λx H1=>tyV K T x H1/\t σ H1 λxs H2=>r x xs H2 Q
variable {o e:Expr}{es:oj Expr}{to:TE}{t:TA}{name:Str}{apos cpos:Pos}{T id:String}{r:V->oj V->Hp->VK->Prop}
def Nj (pa:tW T)(slot:Slot T name id)(aa:HY (.builtin id)=pure (.type "method_descriptor"))(hm:MtR X id r)(ho:PE X o to)
  (U:Gb o name X.env (eval o X.env)=eval o X.env) (Z:(apos.endLine==cpos.line)=v_):PE X (.Call (.Attribute o name apos) [] [] cpos) (Aek X.K T r to):=by
 rw[2,Q,I,h];refine RU U Z (thn (ho oq s σ H _ I h) λv s1 zq=>?_);erw[zq,x,H1,I1,r1,ty,q1];erw[MT I1 r1 ty,h1,h2,<-(T,id,pa,slot,aa,h1,h2,vT rfl (PySem.evalArgs_none (hm oq s1 σ H1 x [] v [] Q I1 r1 .nil q1)))]
def YQ (pa:tW T)(slot:Slot T name id)(ad:HY (.builtin id)=pure (.type "method_descriptor"))(hm:MtR X id r)(ho:PE X o to)(ha:PA X (e::es) t)
  (Z:Gb o name X.env (eval o X.env)=eval o X.env:=by rfl)
  (ac:((Vo cpos (Vi (e::es) X.env)).all (λx=> !(x).1)&&(Gh cpos (Gi [] X.env)).all (λx=>x.1.isSome)
   &&decide (↑(e::es)+↑([]:oj Gq)+(if([]:oj Gq).isEmpty then 0 else 1)<30))=true:=by rfl)
  (aa:(apos.endLine==cpos.line)=true:=by rfl) (hs:Vi (e::es) X.env=(Vd,eval e X.env)::Vi es X.env:=by rfl) (U:(Vo cpos (Vi es X.env)).any (·.1)=false:=by rfl):
  PE X (.Call (.Attribute o name apos) (e::es) [] cpos) (tBM X.K T r to t):=by
 rw[2,Q,I,h];refine wpAny_Call_method_late Z ac aa rfl (thn (ho oq s σ H _ I h) λv s1 zq=>?_);erw[zq,x,H1,I1,r1,ty,q1];erw[MT I1 r1 ty,h1,h2];rw[_,T,id,pa,slot,ad,h1,h2];let hA:=ha cpos oq s1 σ H1 _ I1 q1;rw[hs] at hA⊢;refine vT (by show(Vd||(Vo cpos (Vi es X.env)).any (·.1))=Vd;rw[U]<;>rfl) (Uj ?_)
 exact thn hA λus s2 ⟨vs,H2,I2,r2,q2⟩=>hm oq s2 σ H2 x vs v us Q I2 r1 r2 q2
end
abbrev MtM (X:Cx)(id:String)(r:V->oj V->Hp->VK->Prop):Prop:=
 ∀(oq:oj (o3×Obj)) (s:o7) (σ:St) (H:Hp) (x:V) (xs:oj V) (v:o6) (us:oj o6) (Q:VK),#[I]->ik x v->iw xs us->r x xs H Q->
  Ve #[X,X] X.A (call (.builtin id) (v::us)) (EP X oq σ Q) X.xe s
def iw.one:∀{x:V}{us:oj o6},iw [x] us->∃u,us= [u]/\ik x u
 |_,_,.cons r .nil=>[0:r]
def iw.zero:∀{us:oj o6},iw [] us->us= []
 |_,.nil=>rfl
variable {xs:oj V}{us:oj o6}
def iw.dropLast (h:iw xs us):iw xs.dropLast us.dropLast:=by
 induction h with
 |nil=>exact .nil|cons r t U=>
  cases t with
  |nil=>exact .nil|cons q t'=>exact .cons r U
def iw.eraseIdx:∀{xs:oj V}{us:oj o6} (i:Nat),iw xs us->iw (xs.eraseIdx i) (us.eraseIdx i)
 |_,_,_,.nil=> .nil|_,_,0,.cons _ t=>t|_,_,i+1,.cons r t=> .cons r (iw.eraseIdx i t)
def CV {α:Type}(l:oj α):l.eraseIdx (↑l-1)=l.dropLast:=by
 induction l with
 |nil=>rfl|cons a r U=>
  cases r with
  |nil=>rfl|cons b r=>
   let e:↑(a::b::r)-1=(↑(b::r)-1)+1:=by
    let h1:↑(a::b::r)=↑r+2:=rfl;let h2:↑(b::r)=↑r+1:=rfl;omega
   rw[e,List.eraseIdx_cons_succ,U]
   all_goals rfl
def oW {α:Type}:∀(l:oj α) (i:Nat),↑(l.eraseIdx i)<=↑l
 | [],_=>uq _|_::_,0=>Up _|_::r,i+1=>V9 (oW r i)
section
variable {X:Cx}{oq:oj (o3×Obj)}{σ:St}{H:Hp}{s:o7}{l b:o3}{xs ys zs:oj V}
def Inv.lset {its its':oj o6}{n:Nat}{f:Array o6->Array o6}{t':Nat}(I:#[I])(U:H l=u_ (.lst xs))
  (e:s.heap.get? l=u_ {cls:= .type "list",data:= .seq its.toArray n}) (Z:f its.toArray=its'.toArray) (hv:iw ys its') (hz:↑ys<=Vh) (ht:0<t':=by ac_rfl):
  Inv X oq σ (upd H l (.lst ys)) {s with heap:=s.heap.update l (Hj f),toks:=t'}:=by
 let q:=PySem.IsL.update e f;rw[Z] at q;refine I.write (x:=l) (e:=l) (by rw[U];exact trivial) (.inl rfl) (λb' u hb hu=>(tV s.heap (Hj f) (U4 hb)).trans hu) [_:q] ?_
 exact(hz,its',_,hv,q)
variable {its:oj o6}{t':Nat}
def Inv.lnew (I:#[I])(U:iw ys its)(hz:↑ys<=Vh)(Z:0<t':=by ac_rfl):
  Inv X oq σ (upd H #[0,s] (.lst ys)) {s with heap:=s.heap.push {cls:= .type "list",data:= .seq its.toArray},toks:=t'}:=
 I.laid (λ_ _ q=>ud _ q) (uq _) (hz,its,(0),U,uH _ rfl)
def Inv.fresh (I:#[I]):H #[0,s]=none:=I.hok.fresh (uq _)
def Inv.lstM (I:#[I])(U:H l=u_ (.lst xs)):↑xs<=Vh/\∃(its:oj o6) (n:Nat),iw xs its/\↑xs=↑its/\s.heap.get? l=u_ {cls:= .type "list",data:= .seq its.toArray n}:=by
 erw[I.hok l _ U,z,its,n,r,e,<-(z,its,n,r,↑r,e)]
def Md (h:n<=Vh):TL n=false:=by
 unfold TL;exact ui ()
end
section
variable {X:Cx}
inductive O8 (x:V)(vs:List V)(H:Hp)(Q:VK):Prop
 |mk (l:_)(xs:_)(y:_)(_:x=-l)(_:vs= [y])(_:H l=u_ (.lst xs))(_:↑xs<Vh)(_:Q .non (upd H l (.lst (xs++ [y]))))
def jK:MtM X "list.append" O8:=by
 rw[2,x,vs,v,us,Q,I,Z,rv,h];erw[h,l,xs,y,rfl,rfl,U,hz,q];rw[Z,0];erw[rv.one,u,rfl,ru];erw[I.lstM U,z,its,n,r,hl,e];refine vP F.slot_list_append [_:e:1] F.entry_list_append (F.args_list_append_2 _ _) (PySem.list_append l its.toArray n u (by rw[uB];omega)) [e:?_]
 rw[_,.non,_,I.lset (its':=its++ [u]) U e (by simp) (r.append (.cons ru .nil)) ?_,1,q]
 rw[uw,Ue];omega
inductive O7 (x:V)(vs:List V)(H:Hp)(Q:VK):Prop
 |mk (l:_)(b:_)(xs:_)(zs:_)(_:x=-l)(_:vs= [-b])(_:H l=u_ (.lst xs))(_:H b=u_ (.lst zs))(_:↑xs+↑zs<=Vh)(_:Q .non (upd H l (.lst (xs++zs))))
def oT:MtM X "list.extend" O7:=by
 rw[2,x,vs,v,us,Q,I,rx,rv,h];erw[h,l,b,xs,zs,rfl,rfl,hH,hB,hz,q];rw[rx,0];erw[rv.one,u,rfl,ru];rw[ru,0];erw[I.lstM hH,z,its,n,r,hl,e];erw[I.lstM hB,z2,U,n2,r2,aa,e2];let hsz:its.toArray.size+U.toArray.size<=sizeLine:=by rw[uB,uB];omega
 let Z:¬(!(its.toArray.isEmpty)&&TL (its.toArray.size+U.toArray.size))=true:=by
  rw[Md hsz,Tw];exact uf
 refine vP F.slot_list_extend [_:e:1] F.entry_list_extend (F.args_list_extend_2 _ _)
  (pV l its.toArray n b U.toArray n2 Z (by rw[uB];omega) ()) [e:e2:?_]
 rw[_,.non,_,I.lset (its':=its++U) hH e (by simp) (r.append r2) ?_,1,q]
 rw[uw];omega
inductive Aer (x:V)(vs:List V)(H:Hp)(Q:VK):Prop
 |mk (l:_)(xs:_)(y:_)(_:x=-l)(_:vs= [])(_:H l=u_ (.lst xs))(_:xs[↑xs-1]? =u_ y)(_:Q y (upd H l (.lst xs.dropLast)))
def Nu:MtM X "list.pop" Aer:=by
 rw[2,x,vs,v,us,Q,I,rx,rv,h];erw[h,l,xs,y,rfl,rfl,hH,hy,q];rw[rx,0];let U:=rv.zero;subst U;erw[I.lstM hH,z,its,n,r,hl,e];erw[r.get hy,u,hu,ru];let Z:its.toArray[its.toArray.size-1]? =u_ u:=by
  show its.toArray[↑its-1]? =u_ u;rwa[<-UH,<-hl]
 refine vP F.slot_list_pop [_:e:1] F.entry_list_pop (F.args_list_pop_1 _) (pP l its.toArray n u Z (by rw[uB];omega)) [e:?_]
 rw[_,y,_,I.lset (its':=its.dropLast) hH e ?_ r.dropLast ?_,ru,q]
 .show its.toArray.eraseIdxIfInBounds (its.toArray.size-1)=its.dropLast.toArray;rw[uB,Fj,CV]
 .rw[List.length_dropLast];omega
inductive Aa8 (x:V)(vs:List V)(H:Hp)(Q:VK):Prop
 |mk (l:_)(xs:_)(i:_)(k:_)(y:_)(_:x=-l)(_:vs= [.int i])(_:H l=u_ (.lst xs))(_: -(2^63)<=i)(_:i<2^63)(_:hZ i ↑xs=u_ k)(_:xs[k]? =u_ y)(_:Q y (upd H l (.lst (xs.eraseIdx k))))
def BP:MtM X "list.pop" Aa8:=by
 rw[2,x,vs,v,us,Q,I,rx,rv,h];erw[h,l,xs,i,k,y,rfl,rfl,Z,h1,h2,hk,hy,q];rw[rx,0];erw[rv.one,u,rfl,ru];erw[ru,t,rfl];erw[I.lstM Z,z,its,n,r,hl,e];erw[r.get hy,w,hw,U];refine vP F.slot_list_pop [_:e:1] F.entry_list_pop (F.args_list_pop_2 _ _)
  (pq l its.toArray n i t k w (fitsIndex_both h1 h2) (by rwa[uB,<-hl]) (by rwa[<-UH]) (by rw[uB];omega)) [e:?_]
 rw[_,y,_,I.lset (its':=its.eraseIdx k) Z e ?_ (r.eraseIdx k) ?_,U,q]
 .show its.toArray.eraseIdxIfInBounds k=(its.eraseIdx k).toArray;rw[Fj]
 .have:=oW xs k;omega
inductive Aew (x:V)(y:V)(H:Hp)(Q:VK):Prop
 |mk (l:_)(b:_)(xs:_)(zs:_)(_:x=-l)(_:y=-b)(_:H l=u_ (.lst xs))(_:H b=u_ (.lst zs))(_:↑xs+↑zs<=Vh)(_:∀p,H p=U_->Q (-p) (upd H p (.lst (xs++zs))))
def Wu:OpR X (VM .Add) Aew:=by
 rw[2,x,y,v,u,Q,I,Z,ry,h];erw[h,l,b,xs,zs,rfl,rfl,hH,hB,hz,q];rw[Z,0];rw[ry,0];erw[I.lstM hH,z,its,n,r,hl,e];erw[I.lstM hB,z2,U,n2,r2,aa,e2];refine PySem.P.add_list e e2 ?_ (by rw[uB,uB];omega)
 let ea:its.toArray++U.toArray=(its++U).toArray:=by simp
 rw[ea];exact(.ref _,_,I.lnew (t':=s.toks) (r.append r2) (by rw[uw];omega),1,q _ I.fresh)
end
section
variable {prog:o9}{w:og}{A:oh}{E:o6->o7->Prop}{s:o7}
set_option maxRecDepth 100000 in
end
section
variable {κ:Type}[DecidableEq κ]
abbrev iT (kvs:oj (κ×V))(k:κ):om V:=(kvs.find? λkv=>decide (kv.1=k)).map (·.2)
abbrev lV (kvs:oj (κ×V))(k:κ)(v:V):oj (κ×V):=
 if(kvs.any λkv=>decide (kv.1=k))=v_ then kvs.map (λkv=>if kv.1=k then(kv.1,v) else kv) else kvs++ [(k,v)]
abbrev J2 (kvs:oj (κ×V))(k:κ):oj (κ×V):=kvs.filter λkv=>decide (kv.1≠k)
def qaf {k:κ}:iT ([]:oj (κ×V)) k=none:=rfl
def QV {p:κ×V}{r:oj (κ×V)}{k:κ}(e:p.1=k):iT (p::r) k=u_ p.2:=by simp[iT,vd,e]
def QJ {p:κ×V}{r:oj (κ×V)}{k:κ}(e:¬p.1=k):iT (p::r) k=iT r k:=by simp[iT,vd,e]
def xv (k:κ):∀kvs:oj (κ×V),(kvs.any λkv=>decide (kv.1=k))=(iT kvs k).isSome
 | []=>rfl|p::r=>by
  rw[UM];by_cases e:p.1=k
  .simp![QV e,uc e,Fp,Option.isSome_some]
  .rw[QJ e,ui e,TU];exact xv k r
def Bf (k j:κ)(y:V):∀kvs:oj (κ×V),iT (kvs.map λkv=>if kv.1=k then(kv.1,y) else kv) j=(iT kvs j).map λx=>if j=k then y else x
 | []=>rfl|p::r=>by
  let U:=Bf k j y r;rw[uC];by_cases h:p.1=k
  .rw[A6 h];by_cases e:p.1=j
   .rw[QV (p:=(p.1,y)) e,QV e,HF,A6 (e.symm.trans h)]
   .rw[QJ (p:=(p.1,y)) e,QJ e,U]
  .rw[A4 h];by_cases e:p.1=j
   .rw[QV (p:=p) e,QV e,HF,A4 (λz=>h (e.trans z))]
   .rw[QJ (p:=p) e,QJ e,U]
def nO (k j:κ)(y:V):∀kvs:oj (κ×V),iT kvs k=U_->iT (kvs++ [(k,y)]) j=if j=k then u_ y else iT kvs j
 | [],_=>by
  by_cases e:k=j
  .rw[A6 e.symm];exact QV (p:=(k,y)) e
  .rw[A4 (λz=>e z.symm)];exact QJ (p:=(k,y)) e
 |p::r,hn=>by
  rw[UR];let U:¬p.1=k:=λz=>by rw[QV z,0] at hn
  rw[QJ U] at hn;let Z:=nO k j y r hn;by_cases e:p.1=j
  .rw[QV e,QV e,A4 (λz=>U (e.trans z))]
  .rw[QJ e,QJ e,Z]
def zJ (kvs:oj (κ×V))(k j:κ)(y:V):iT (lV kvs k y) j=if j=k then u_ y else iT kvs j:=by
 unfold lV;by_cases a:(kvs.any λkv=>decide (kv.1=k))=v_
 .rw[A6 a,Bf];rw[xv] at a;by_cases e:j=k
  .erw[Option.isSome_iff_exists.mp a,x,U];rw[A6 e,e,U,HF,A6 rfl]
  .rw[A4 e];cases iT kvs j with|none=>rfl|some x=>rw[HF,A4 e]
 .rw[A4 a];refine nO k j y kvs ?_;rw[xv] at a;cases q:iT kvs k with|none=>rfl|some x=>rw[q] at a;exact(a rfl).elim
def yB (kvs:oj (κ×V))(k:κ)(v:V):↑(lV kvs k v)<=↑kvs+1:=by
 unfold lV;split
 .rw[u9];omega
 .rw[uw,um,vn];omega
variable {kvs:oj (κ×V)}
def KN {k:κ}(v:V)(h:iT kvs k=U_):lV kvs k v=kvs++ [(k,v)]:=by
 unfold lV;rw[xv,h];exact A4 ()
def nu.isSome_eq {o:om V}{u:om o6}(r:nu o u):o.isSome=u.isSome:=by
 cases o with
 |none=>cases u with
  |none=>rfl|some _=>exact(show False from r).elim
 |some _=>cases u with
  |none=>exact(show False from r).elim|some _=>rfl
def nu.getD {o:om V}{u:om o6}{d:V}{d':o6}(r:nu o u)(rd:ik d d'):ik (o.getD d) (u.getD d'):=by
 cases o with
 |none=>cases u with
  |none=>exact rd|some _=>exact(show False from r).elim
 |some _=>cases u with
  |none=>exact(show False from r).elim|some _=>exact r
variable {vs:oj (κ×o6)}
def KV.val (r:KV kvs vs)(k:κ):nu (iT kvs k) (VU vs k):=by
 unfold KV at r
 induction r with
 |nil=>exact VF| @cons p q ps qs h t ih=>
  erw[h,h1,h2];by_cases e:p.1=k
  .let U:q.1=k:=h1.symm.trans e;let b:VU (q::qs) k=u_ q.2:=by simp[VU,vd,U]
   rwa[QV e,b]
  .let U:¬q.1=k:=λz=>e (h1.trans z);let b:VU (q::qs) k=VU qs k:=by simp[VU,vd,U]
   rw[QJ e,b];exact ih
def KV.any (r:KV kvs vs)(k:κ):(kvs.any λkv=>decide (kv.1=k))=vs.any λkv=>decide (kv.1=k):=by
 unfold KV at r
 induction r with
 |nil=>rfl|cons h t U=>rw[UM,UM,U,h.1]
variable {y:V}{u:o6}
def KV.repl (r:KV kvs vs)(k:κ)(U:ik y u):
  KV (kvs.map λkv=>if kv.1=k then(kv.1,y) else kv) (vs.map λkv=>if kv.1=k then(kv.1,u) else kv):=by
 unfold KV at r⊢
 induction r with
 |nil=>exact .nil| @cons p q ps qs h t ih=>
  rw[uC,uC];refine .cons ?_ ih;erw[h,h1,h2];by_cases e:p.1=k
  .rw[A6 e,A6 (h1.symm.trans e)];exact[h1:U]
  .rw[A4 e,A4 (λz=>e (h1.trans z))];exact[h1:h2]
def KV.put (r:KV kvs vs)(k:κ)(U:ik y u):KV (lV kvs k y) (GF vs k u):=by
 unfold lV GF;rw[r.any k];by_cases e:(vs.any λkv=>decide (kv.1=k))=v_
 .rw[A6 e,A6 e];exact r.repl k U
 .rw[A4 e,A4 e];exact Paired.snoc r [1:U]
def KV.drop (r:KV kvs vs)(k:κ):KV (J2 kvs k) (without vs k):=by
 unfold KV at r⊢;unfold J2 without
 induction r with
 |nil=>exact .nil| @cons p q ps qs h t ih=>
  erw[h,h1,h2];rw[U0,U0];by_cases e:p.1=k
  .let a:¬decide (p.1≠k)=true:=by simp[e]
   let b:¬decide (q.1≠k)=true:=by simp[h1.symm.trans e]
   rw[A4 a,A4 b];exact ih
  .let U:¬q.1=k:=λz=>e (h1.trans z);let a:decide (p.1≠k)=true:=by simp[e]
   let b:decide (q.1≠k)=true:=by simp[U]
   rw[A6 a,A6 b];exact .cons [h1:h2] ih
def KV.keys (r:KV kvs vs):kvs.map (·.1)=vs.map (·.1):=by
 unfold KV at r
 induction r with
 |nil=>rfl|cons h t U=>rw[uC,uC,U,h.1]
def KV.length (r:KV kvs vs):↑kvs=↑vs:=Paired.length r
def Cb (kvs:oj (κ×V))(k:κ):↑(J2 kvs k)<=↑kvs:=TV _ _
end
variable {w:og}{u:o6}
def oY {P:o9}{k:Key}(r:ik (kV k) u):(Qc P w).is k u=true:=by
 cases k with
 |inl i=>obtain⟨t,e⟩:=(show∃t,u=Gy i t from r);subst e;exact AE P w i t|inr x=>obtain⟨t,e⟩:=(show∃t,u=VC x t from r);subst e;exact Wb P w x t
def oZ {P:o9}{w:og}:∀{ks:oj Key}{us:oj o6},iw (ks.map kV) us->ItemsAre (Qc P w) ks us
 | [],_,r=>by rw[UG,0] at r;exact .nil|k::ks,_,r=>by
  rw[uC] at r;cases r with
  |cons h t=>exact .cons (oY h) (oZ t)
nonrec abbrev KT (H:Hp):oj (oj Key×V)->oj (oj Key×o3×o6)->Prop:=Paired λp q=>p.1=q.1/\H q.2.1=u_ (.tup (p.1.map kV))/\ik p.2 q.2.2
variable {H:Hp}
def KT.val {kvs:oj (oj Key×V)}{xs:oj (oj Key×o3×o6)}(r:KT H kvs xs)(k:oj Key):nu (iT kvs k) ((Gf xs k).map (·.2)):=by
 induction r with
 |nil=>exact VF| @cons p q ps qs h t ih=>
  erw[h,h1,_,h2];by_cases e:p.1=k
  .let U:q.1=k:=h1.symm.trans e;let b:Gf (q::qs) k=u_ q.2:=by simp[Gf,vd,U]
   rwa[QV e,b]
  .let U:¬q.1=k:=λz=>e (h1.trans z);let b:Gf (q::qs) k=Gf qs k:=by simp[Gf,vd,U]
   rw[QJ e,b];exact ih
variable {y:V}
def KT.repl {kvs:oj (oj Key×V)}{xs:oj (oj Key×o3×o6)}(r:KT H kvs xs)(k:oj Key)(U:ik y u):
  KT H (kvs.map λkv=>if kv.1=k then(kv.1,y) else kv) (xs.map (putAt k u)):=by
 induction r with
 |nil=>exact .nil| @cons p q ps qs h t ih=>
  rw[uC,uC];refine .cons ?_ ih;erw[h,h1,h2,h3];unfold putAt;by_cases e:p.1=k
  .rw[A6 e,A6 (h1.symm.trans e)];exact[h1:h2:U]
  .rw[A4 e,A4 (λz=>e (h1.trans z))];exact[h1:h2:h3]
variable {b:o3}
def KT.put {kvs:oj (oj Key×V)}{xs:oj (oj Key×o3×o6)}(r:KT H kvs xs)(k:oj Key)(Z:H b=u_ (.tup (k.map kV)))(U:ik y u):
  KT H (lV kvs k y) (storedH xs k b u):=by
 let e:(kvs.any λkv=>decide (kv.1=k))=(Gf xs k).isSome:=by
  rw[xv,(r.val k).isSome_eq,tu]
 unfold lV storedH;rw[e];by_cases q:(Gf xs k).isSome=v_
 .rw[A6 q,A6 q];exact r.repl k U
 .rw[A4 q,A4 q];exact Paired.snoc r [1:Z:U]
variable {H':Hp}
def KT.keeps {kvs:oj (oj Key×V)}{xs:oj (oj Key×o3×o6)}(r:KT H kvs xs)(U:∀b ys,H b=u_ (¬ys)->H' b=u_ (¬ys)):KT H' kvs xs:=
 Paired.mapP r λ_ _ z=>[z.1:U _ _ z.2.1:z.2.2]
section
variable {P:o9}{w:og}{H:Hp}{h:o8}{a:o3}
def Aa6 {u:HO}(ok:HOk P w H h)(e:Rd H a u):yj P w H h a u:=e.ok ok
def Zm {kvs:oj (Key×V)}(ok:HOk P w H h)(e:Rd H a (.dK kvs)):↑kvs<=Vh/\(a==Vy)=Vd/\∃vs,KV kvs vs/\h.DictOf (Qc P w) a vs:=
 show yj P w H h a (.dK kvs) from Aa6 ok e
def SV {kvs:oj (Key×V)}(ok:HOk P w H h)(e:H a=u_ (.dK kvs)):↑kvs<=Vh/\(a==Vy)=Vd/\∃vs,KV kvs vs/\h.DictOf (Qc P w) a vs:=Zm ok (.inl e)
def Kc {ks:oj Key}(ok:HOk P w H h)(e:H a=u_ (.tup (ks.map kV))):(GZ (Qc P w)).is h ks a:=by
 obtain⟨_,its,r,o,h1,h2,n,h3⟩:=(show yj P w H h a (.tup (ks.map kV)) from ok a _ e)
 exact(o,its.toArray,n,h1,h2,h3,by simpa using oZ r)
def sI {kvs:oj (oj Key×V)}(ok:HOk P w H h)(e:Rd H a (.dT kvs)):↑kvs<=Vh/\(a==Vy)=Vd/\
  ∃xs,KT H kvs xs/\h.DictOfH (GZ (Qc P w)) a xs:=by
 obtain⟨z,y,xs,r,o,es,ep,h1,h2,h3,h4,h5⟩:=(show yj P w H h a (.dT kvs) from Aa6 ok e)
 rw[_,z,y,xs,r,o,es,ep,h1,h2,h3,h4,λx U=>?_,h5];let all:∀{l:oj (oj Key×V)}{m:oj (oj Key×o3×o6)},KT H l m->∀x>m,(GZ (Qc P w)).is h x.1 x.2.1:=by
  intro l m q
  induction q with
  |nil=>intro x U;exact nomatch U| @cons p q ps qs hq t ih=>
   intro x U;rcases Ab.mp U with e|U
   .subst e;exact Kc ok (by rw[<-hq.1];exact hq.2.1)
   .exact ih x U
 exact all r x U
def Ads {kvs:oj (oj Key×V)}(ok:HOk P w H h)(e:H a=u_ (.dT kvs)):↑kvs<=Vh/\(a==Vy)=Vd/\
  ∃xs,KT H kvs xs/\h.DictOfH (GZ (Qc P w)) a xs:=sI ok (.inl e)
end
abbrev mP (H:Hp)(a:o3)(y:V)(r:om V):Prop:=
 (∃kvs k,Rd H a (.dK kvs)/\y=kV k/\r=iT kvs k)\/∃kvs k b,Rd H a (.dT kvs)/\y= .ref b/\H b=u_ (.tup (k.map kV))/\r=iT kvs k
abbrev C6 (H:Hp)(a:o3)(y v:V)(H':Hp):Prop:=
 (∃kvs k,H a=u_ (.dK kvs)/\y=kV k/\↑kvs<Vh/\H'=upd H a (.dK (lV kvs k v)))\/
 ∃kvs k b,H a=u_ (.dT kvs)/\y= .ref b/\H b=u_ (.tup (k.map kV))/\↑kvs<Vh/\H'=upd H a (.dT (lV kvs k v))
def mP.k {H:Hp}{a:o3}{kvs:oj (Key×V)}{k:Key}(e:H a=u_ (.dK kvs)):mP H a (kV k) (iT kvs k):= .inl (kvs,k,.inl e,1,1)
def C6.k {H:Hp}{a:o3}{kvs:oj (Key×V)}{k:Key}{v:V}(e:H a=u_ (.dK kvs))(U:↑kvs<Vh):C6 H a (kV k) v (upd H a (.dK (lV kvs k v))):= .inl (kvs,k,e,1,U,1)
section
variable {X:Cx}{oq:oj (o3×Obj)}{σ:St}{H:Hp}{s:o7}{a:o3}{y v:V}{u r:o6}{o:om V}{A:oh}{E:o6->o7->Prop}
def Inv.big (I:#[I]):Vy<#[0,s]:=by
 let h:Vz<#[0,s]:=(I.mod.glob.keeps I.bk).lt;exact HJ () h
def Iy {Q:o6->o7->Prop}(hu:A.units+1<Vp)(I:#[I])(g:mP H a y (u_ v))(ry:ik y u)(h:∀Z s',Inv X oq σ H s'->ik v Z->Q Z s'):
  Ve #[X,X] A (VR (-a) u) Q E s:=by
 rcases g with⟨kvs,k,e,ey,l⟩|⟨kvs,k,b,e,ey,eb,l⟩
 .subst ey;erw[Zm I.hok e,z,hd,vs,rel,dd];obtain⟨Z,hw,U⟩:=nu.some_of (v:=v) (o:=VU vs k) (by rw[l];exact rel.val k)
  exact FK (oY ry) dd.mapOf hw (h Z _ (I.tok _) U)
 .subst ey;rw[show u=Vj b from ry,0]
  erw[sI I.hok e,z,hd,xs,rel,dd];obtain⟨Z,hw,U⟩:=nu.some_of (v:=v) (o:=(Gf xs k).map (·.2)) (by rw[l];exact rel.val k)
  erw[Option.map_eq_some_iff.mp hw,p,hp,aa];refine wpAny_getItem_heap (Uy hu) (Kc I.hok eb) dd hp ?_;rw[aa];exact h Z _ (I.tok _) U
def AeF {Q:o6->o7->Prop}(hu:A.units+1<Vp)(I:#[I])(g:mP H a y o)(Z:ik y u)(h:∀s',Inv X oq σ H s'->Q (.bool o.isSome) s'):
  Ve #[X,X] A (Vn .In u (-a)) Q E s:=by
 rcases g with⟨kvs,k,e,U,l⟩|⟨kvs,k,b,e,U,eb,l⟩
 .subst U;erw[Zm I.hok e,z,hd,vs,rel,dd];refine Fk (oY Z) hd dd.mapOf ?_;rw[<-(rel.val k).isSome_eq,<-l];exact h _ (I.tok _)
 .subst U;rw[show u=Vj b from Z,0]
  erw[sI I.hok e,z,hd,xs,rel,dd];refine wpAny_in_heap (Uy hu) (Kc I.hok eb) hd dd ?_;let q:=(rel.val k).isSome_eq;rw[tu] at q;rw[<-q,<-l];exact h _ (I.tok _)
def SX {Q:o6->o7->Prop}(hu:A.units+1<Vp)(I:#[I])(g:mP H a y o)(Z:ik y u)(h:∀s',Inv X oq σ H s'->Q (.bool (!(o.isSome))) s'):
  Ve #[X,X] A (Vn .NotIn u (-a)) Q E s:=by
 rcases g with⟨kvs,k,e,U,l⟩|⟨kvs,k,b,e,U,eb,l⟩
 .subst U;erw[Zm I.hok e,z,hd,vs,rel,dd];refine Rc (oY Z) hd dd.mapOf ?_;rw[<-(rel.val k).isSome_eq,<-l];exact h _ (I.tok _)
 .subst U;rw[show u=Vj b from Z,0]
  erw[sI I.hok e,z,hd,xs,rel,dd];refine wpAny_notIn_heap (Uy hu) (Kc I.hok eb) hd dd ?_;let q:=(rel.val k).isSome_eq;rw[tu] at q;rw[<-q,<-l];exact h _ (I.tok _)
variable {h':o8}{t':Nat}
def qak {ob:HO}(I:#[I])(mu:Mut (H a))(U:VO a s.heap h')(Z:∃q,h'.get? a=u_ q)(new:yj X.prog X.w (upd H a ob) h' a ob)(ht:0<t':=by ac_rfl):
  Inv X oq σ (upd H a ob) {s with heap:=h',toks:=t'}:=
 I.write (x:=a) (e:=a) mu (.inl rfl) (λb q hb z=>(U.2 b hb).trans z) Z new
def sL {P:o9}{kvs:oj (Key×V)}{vs:oj (Key×o6)}(z:↑kvs<=Vh)(hd:(a==Vy)=Vd)(rel:KV kvs vs)(dd:h'.DictOf (Qc P w) a vs):
  yj P w H' h' a (.dK kvs):=(z,hd,vs,rel,dd)
def Ix {Q:Unit->o7->Prop}(hu:A.units+1<Vp)(I:#[I])(g:C6 H a y v H')(ry:ik y u)(rv:ik v r)(h:∀s',Inv X oq σ H' s'->Q Gu s'):
  Ve #[X,X] A (Tj (-a) u r) Q E s:=by
 rcases g with⟨kvs,k,e,ey,l,eH⟩|⟨kvs,k,b,e,ey,eb,l,eH⟩
 .subst ey eH;erw[SV I.hok e,z,hd,vs,rel,dd];let hz:↑vs<=sizeLine:=by rwa[<-↑rel]
  let hl:↑(lV kvs k v)<=sizeLine:=by have:=yB kvs k v;omega
  refine wpAny_setItem_pairs (hsz:=hz) (oY ry) dd λh' U hs=>h _ ?_;let he:∃q,h'.get? a=u_ q:=let⟨q,_,_,Z,_⟩:=U;[q:Z];exact qak I (by rw[e];exact VF) hs he (sL hl hd (rel.put k rv) U)
 .subst ey eH;rw[show u=Vj b from ry,0]
  erw[Ads I.hok e,z,hd,xs,rel,dd];let hz:↑xs<=sizeLine:=by rwa[<-Paired.length rel]
  let hl:↑(lV kvs k v)<=sizeLine:=by have:=yB kvs k v;omega
  refine wpAny_setItem_heap (hsz:=hz) (Uy hu) (Kc I.hok eb) dd λh' U hs=>h _ ?_;erw[U,q,es,ep,Z,h2,h3,h4,_,h5];refine qak I (by rw[e];exact VF) hs [q:Z] (hl,hd,_,(rel.put k eb rv).keeps λc ys ec=>?_,q,es,ep,Z,h2,h3,h4,h5)
  rw[qi (Ac8 ec e (λz=>nomatch z))];exact ec
end
section
variable {X:Cx}{oq:oj (o3×Obj)}{σ:St}{H:Hp}{s:o7}{a:o3}{kvs:oj (Key×V)}{k:Key}{u:o6}{A:oh}{E:o6->o7->Prop}
def Adt {v:V}{more:oj o6}{Q:o6->o7->Prop}(I:#[I])(e:H a=u_ (.dK kvs))(ry:ik (kV k) u)(l:iT kvs k=u_ v)(hm:more= []\/∃x,more= [x])
  (h:∀U s',Inv X oq σ (upd H a (.dK (J2 kvs k))) s'->ik v U->Q U s'):Ve #[X,X] A (call (.builtin "dict.pop") (.ref a::u::more)) Q E s:=by
 erw[SV I.hok e,z,hd,vs,rel,dd];obtain⟨U,hw,aa⟩:=nu.some_of (v:=v) (o:=VU vs k) (by rw[<-l];exact rel.val k)
 let hp:(keyPart u).isSome=true:=by
  cases k with
  |inl i=>obtain⟨t,q⟩:=(show∃t,u=Gy i t from ry);subst q;rfl|inr x=>obtain⟨t,q⟩:=(show∃t,u=VC x t from ry);subst q;rfl
 let ha:argsOk "dict.pop" ⟨.ref a::u::more,[]⟩:=by
  rcases hm with q|⟨x,q⟩
  .subst q;exact PySem.F.args_dict_pop_2 _ _
  .subst q;exact PySem.F.args_dict_pop_3 _ _ _
 refine Hl PySem.F.slot_dict_pop dd.typeIs PySem.F.entry_dict_pop ha (meets_dict_pop_there (Qc X.prog X.w) a (oY ry) more hm hp)
  (vs,U,dd,by rwa[<-↑rel],hw,λh' Z hs=>h U _ ?_ aa)
 let he:∃q,h'.get? a=u_ q:=let⟨q,_,_,hq,_⟩:=Z;[q:hq];exact qak I (by rw[e];exact VF) hs he (sL (vb (Cb kvs k) z) hd (rel.drop k) Z)
def Adu {Q:o6->o7->Prop}(I:#[I])(e:Rd H a (.dK kvs))(h:∀t s',Inv X oq σ H s'->Q (.int ↑kvs t) s'):Ve #[X,X] A (call (.builtin "len") [-a]) Q E s:=by
 erw[Zm I.hok e,z,hd,vs,rel,dd];refine call_len_dict hd dd (by rw[<-↑rel];rw[uD] at z;omega) ?_
 rw[<-↑rel];exact h _ _ (I.tok _)
end
abbrev Ad9 (i:Expr):Prop:=∀ov iv,Hf i Vd ov iv=HG [ov,iv] (VR ov iv)
def Oi {prog:o9}{w:og}{A:oh}{E:o6->o7->Prop}{s:o7}{env:Env}{value slice:Expr}{pos:Pos}{T id:String}{Q:o6->o7->Prop}
  (hl:HZ (.type T) "__getitem__"=pure (u_ (.builtin id))) (hs:Ad9 slice)
  (h:Ve #[w,w] A (eval value env) (λo s₁=>Ve #[w,w] A (eval slice env) (λi U=>U.TypeIs o T/\Ve #[w,w] A (VR o i) Q E U) E s₁) E s):
  Ve #[w,w] A (eval (.Subscript value slice pos) env) Q E s:=by
 refine Hu (vz h (λo s₁ h₁=>vz h₁ (λi U Z=>?_) λ_ _ x=>x) λ_ _ x=>x);erw[Z,hT,Z];unfold HI;refine A7 ?_;rw[getitemInPython_of_ne hT.not_modules];refine A7 (wpAny_specialOf hT hl ?_);let fin:Ve #[w,w] A (Hf slice Vd o i) (λr s₃=>Ve #[w,w] A (letTemporaryGo value o r>>=λ_=>pure r) Q E s₃) E U:=by
  rw[hs o i];exact wpAny_operating (vz Z (λr s₃ h₃=>A7 (wpAny_letTemporaryGo (uE h₃))) λ_ _ x=>x)
 first
  |exact uE (A7 fin)
  |exact A7 (uE (A7 fin))
  |exact A7 fin
variable {X:Cx}{oq:oj (o3×Obj)}{σ:St}{s:o7}{a:o3}
def AV {o:om V}(I:#[I])(g:mP H a y o):s.TypeIs (-a) "dict":=by
 rcases g with⟨kvs,k,e,_,_⟩|⟨kvs,k,b,e,_,_,_⟩
 .erw[Zm I.hok e,_,_,vs,_,dd,<-dd.typeIs]
 .erw[sI I.hok e,_,_,xs,_,dd,<-dd.typeIs]
def AW {o:om V}(I:#[I])(g:mP H a y o):
  ∀b,Vj a= .ref b->∃ob,s.heap.get? b=u_ ob/\ob.dict=none:=λb q=>by
 rw[q,0];rcases g with⟨kvs,k,e,_,_⟩|⟨kvs,k,b,e,_,_,_⟩
 .erw[Zm I.hok e,_,_,vs,_,ob,_,_,h1,h2,_,<-[ob:h1:h2.2.1]]
 .erw[sI I.hok e,_,_,xs,_,ob,_,_,h1,h2,_,<-[ob:h1:h2.2.1]]
inductive NX (Q:VK)(x:V)(y:V)(H2:Hp):Prop
 |mk (a:_)(v:_)(_:x=-a)(_:mP H2 a y (u_ v))(_:Q v H2)
abbrev AcR (td ty:TE):TE:=λσ H Q=>td σ H λx H1=>ty σ H1 λy H2=>NX Q x y H2
inductive AdE (Q:VK)(y:V)(x:V)(H2:Hp):Prop
 |mk (a:_)(o:_)(_:x=-a)(_:mP H2 a y o)(_:Q (.bl o.isSome) H2)
abbrev Aej (ty td:TE):TE:=λσ H Q=>ty σ H λy H1=>td σ H1 λx H2=>AdE Q y x H2
inductive MN (Q:VK)(y:V)(x:V)(H2:Hp):Prop
 |mk (a:_)(o:_)(_:x=-a)(_:mP H2 a y o)(_:Q (.bl (!(o.isSome))) H2)
abbrev Oh (ty td:TE):TE:=λσ H Q=>ty σ H λy H1=>td σ H1 λx H2=>MN Q y x H2
inductive Acp (D:mY)(σ:St)(v:V)(x:V)(y:V)(H3:Hp):Prop
 |mk (a:_)(H4:_)(_:x=-a)(_:C6 H3 a y v H4)(_:D.nx σ H4)
abbrev AcY (td ty tv:TE):TS:=λD σ H=>tv σ H λv H1=>td σ H1 λx H2=>ty σ H2 λy H3=>Acp D σ v x y H3
section
variable {X:Cx}{o i e value:Expr}{pos pos' tpos:Pos}{td ty tv:TE}
def QC (hu:X.A.units+1<Vp)(ho:PE X o td)(hi:PE X i ty)(hs:Ad9 i):PE X (.Subscript o i pos) (AcR td ty):=by
 rw[2,Q,I,h];refine Oi PySem.F.slot_dict_getitem.lookup hs (thn (ho oq s σ H _ I h) λu s1 ⟨x,H1,I1,rx,q1⟩=>thn (hi oq s1 σ H1 _ I1 q1) λiv s2 zq=>?_);erw[zq,y,H2,Z,ry,a,v,ex,g,q2];subst ex;obtain rfl:u=Vj a:=rx;exact[AV Z g:Iy hu Z g ry λw' s3 I3 U=>(v,H2,I3,U,q2)]
def pc_din (U:X.A.units+1<Vp)(hi:PE X i ty)(Z:PE X o td):PC X .In i o (Aej ty td):=by
 rw[2,Q,I,h];refine thn (hi oq s σ H _ I h) λiv s1 ⟨y,H1,I1,ry,q1⟩=>thn (Z oq s1 σ H1 _ I1 q1) λu s2 zq=>?_;erw[zq,x,H2,I2,rx,a,ov,ex,g,q2];subst ex;obtain rfl:u=Vj a:=rx;exact AeF U I2 g ry λs3 I3=>(.bl ov.isSome,H2,I3,1,q2)
def oB (U:X.A.units+1<Vp)(hi:PE X i ty)(Z:PE X o td):PC X .NotIn i o (Oh ty td):=by
 rw[2,Q,I,h];refine thn (hi oq s σ H _ I h) λiv s1 ⟨y,H1,I1,ry,q1⟩=>thn (Z oq s1 σ H1 _ I1 q1) λu s2 zq=>?_;erw[zq,x,H2,I2,rx,a,ov,ex,g,q2];subst ex;obtain rfl:u=Vj a:=rx;exact SX U I2 g ry λs3 I3=>(.bl (!(ov.isSome)),H2,I3,1,q2)
def Jh (U:X.A.units+1<Vp)(Z:PE X o td)(hi:PE X i ty)(hv:PE X value tv)(hs:GV value (u_ (.Subscript o i pos')) pos.line X.env=pure Vd):
  PS X (.Assign [.Subscript o i pos'] value pos) (AcY td ty tv):=by
 rw[2,D,I,h];refine wpAny_Assign_Subscript (thn (hv oq s σ H _ I h) λr s1 ⟨v,H1,I1,rv,q1⟩=>thn (Z oq s1 σ H1 _ I1 q1) λu s2 ⟨x,H2,I2,rx,q2⟩=>thn (hi oq s2 σ H2 _ I2 q2) λiv s3 zq=>?_) hs;erw[zq,y,H3,I3,ry,a,H4,ex,g,q3];subst ex;obtain rfl:u=Vj a:=rx;exact Ix U I3 g ry rv λs4 I4=>(σ,H4,I4,q3)
end
def MC {P:o9}(h:o8)(U:Vy<h.objs.size):yj P w H (h.push {cls:= .type "dict",data:= .dict #[]}) h.objs.size (.dK []):=
 (uS _,beq_eq_false_iff_ne.mpr (U4 (uY U)),[],.nil,FG h)
abbrev AaK:TE:=λ_ H Q=>∀p,H p=U_->Q (-p) (upd H p (.dK []))
section
variable {X:Cx}{pos:Pos}
def xw:PE X (.Dict [] [] pos) AaK:=λoq s σ H Q I h=>
 wpAny_Dict_empty (.ref #[0,s],_,I.laid (a:=#[0,s]) (o:= .dK []) (t':=s.toks) (λ_ _ q=>ud _ q) (uq _) (MC s.heap I.big),1,h _ (I.hok.fresh (uq _)))
end
structure M1 (X:Cx)(o:Expr)(m:Str)(apos:Pos)(e:Expr)(cpos:Pos):Prop where
 base:Gb o m X.env (eval o X.env)=eval o X.env
 few:((Vo cpos (Vi [e] X.env)).all (λx=> !(x).1)&&(Gh cpos (Gi [] X.env)).all (λx=>x.1.isSome)
  &&decide (↑([e]:oj Expr)+↑([]:oj Gq)+(if([]:oj Gq).isEmpty then 0 else 1)<30))=v_
 line:(apos.endLine==cpos.line)=v_
 trees:Vo cpos (Vi [e] X.env)= [(Vd,eval e X.env)]
structure M2 (X:Cx)(o:Expr)(m:Str)(apos:Pos)(e f:Expr)(cpos:Pos):Prop where
 base:Gb o m X.env (eval o X.env)=eval o X.env
 few:((Vo cpos (Vi [e,f] X.env)).all (λx=> !(x).1)&&(Gh cpos (Gi [] X.env)).all (λx=>x.1.isSome)
  &&decide (↑([e,f]:oj Expr)+↑([]:oj Gq)+(if([]:oj Gq).isEmpty then 0 else 1)<30))=v_
 line:(apos.endLine==cpos.line)=v_
 trees:Vo cpos (Vi [e,f] X.env)= [(Vd,eval e X.env),(Vd,eval f X.env)]
abbrev IsD (H:Hp)(a:o3):Prop:=(∃kvs,Rd H a (.dK kvs))\/∃kvs,Rd H a (.dT kvs)
def EQ (I:#[I])(d:IsD H a):
  s.TypeIs (-a) "dict"/\(∀b,Vj a= .ref b->∃ob,s.heap.get? b=u_ ob/\ob.dict=U_)/\(a==Vy)=false:=by
 rcases d with⟨kvs,e⟩|⟨kvs,e⟩
 .erw[Zm I.hok e,_,hd,vs,_,dd];rw[_,dd.typeIs,λb q=>?_,hd];rw[q,0];erw[dd,ob,_,_,h1,h2,_,<-[ob:h1:h2.2.1]]
 .erw[sI I.hok e,_,hd,xs,_,dd];rw[_,dd.typeIs,λb q=>?_,hd];rw[q,0];erw[dd,ob,_,_,h1,h2,_,<-[ob:h1:h2.2.1]]
section
variable {X:Cx}{oq:oj (o3×Obj)}{σ:St}{H:Hp}{s:o7}{a:o3}{y d:V}{u r:o6}{o:om V}{A:oh}{E:o6->o7->Prop}
def Ab2 {Q:o6->o7->Prop}(hu:A.units+1<Vp)(I:#[I])(g:mP H a y o)(Z:ik y u)(h:∀w' s',Inv X oq σ H s'->ik (o.getD .non) w'->Q w' s'):
  Ve #[X,X] A (call (.builtin "dict.get") [-a,u]) Q E s:=by
 rcases g with⟨kvs,k,e,U,l⟩|⟨kvs,k,b,e,U,eb,l⟩
 .subst U;erw[Zm I.hok e,z,hd,vs,rel,dd];refine Hl PySem.F.slot_dict_get dd.typeIs PySem.F.entry_dict_get (PySem.F.args_dict_get_2 _ _) (meets_dict_get (Qc X.prog X.w) a (oY Z) hd) [_:dd.mapOf:h _ _ (I.tok _) ?_];rw[l];exact(rel.val k).getD rfl
 .subst U;rw[show u=Vj b from Z,0]
  erw[sI I.hok e,z,hd,xs,rel,dd];refine Hl PySem.F.slot_dict_get dd.typeIs PySem.F.entry_dict_get (PySem.F.args_dict_get_2 _ _) (meetsH_dict_get (GZ (Qc X.prog X.w)) a b hd) (Uy hu,k,xs,Kc I.hok eb,dd,h _ _ (I.tok _) ?_);rw[l];exact(rel.val k).getD rfl
end
inductive Aae (ty:TE)(σ:St)(Q:VK)(x:V)(H1:Hp):Prop
 |mk (a:_)(_:x=-a)(_:IsD H1 a)(_:ty σ H1 λy H2=>∃o,mP H2 a y o/\Q (o.getD .non) H2)
abbrev AaL (td ty:TE):TE:=λσ H Q=>td σ H λx H1=>Aae ty σ Q x H1
inductive Aad (ty:TE)(σ:St)(Q:VK)(x:V)(H1:Hp):Prop
 |mk (a:_)(_:x=-a)(_:IsD H1 a)(_:ty σ H1 λy H2=>∃kvs k v,H2 a=u_ (.dK kvs)/\y=kV k/\iT kvs k=u_ v/\Q v (upd H2 a (.dK (J2 kvs k))))
abbrev AaJ (td ty:TE):TE:=λσ H Q=>td σ H λx H1=>Aad ty σ Q x H1
section
variable {X:Cx}{o e f:Expr}{apos cpos:Pos}{td ty tx:TE}
def Ks (hu:X.A.units+1<Vp)(ho:PE X o td)(he:PE X e ty)(m:M1 X o "get" apos e cpos):PE X (.Call (.Attribute o "get" apos) [e] [] cpos) (AaL td ty):=by
 rw[2,Q,I,h];refine tX m.base m.few m.line Uq PySem.F.slot_dict_get PySem.F.type_dict_get (thn (ho oq s σ H _ I h) λu s1 zq=>?_);erw[zq,x,H1,Z,rx,a,ex,d,q1];subst ex;obtain rfl:u=Vj a:=rx;erw[EQ Z d,t1,t2,_];rw[_,t1,t2];rw[m.trees];refine vT rfl (Uj (Ud (thn (he oq s1 σ H1 _ Z q1) λiv s2 ⟨y,H2,I2,ry,ov,g,q2⟩=>UL ?_)));exact Ab2 hu I2 g ry λw' s3 I3 U=>(_,H2,I3,U,q2)
def LE (ho:PE X o td)(he:PE X e ty)(m:M1 X o "pop" apos e cpos):PE X (.Call (.Attribute o "pop" apos) [e] [] cpos) (AaJ td ty):=by
 rw[2,Q,I,h];refine tX m.base m.few m.line Uq PySem.F.slot_dict_pop PySem.F.type_dict_pop (thn (ho oq s σ H _ I h) λu s1 zq=>?_);erw[zq,x,H1,Z,rx,a,ex,d,q1];subst ex;obtain rfl:u=Vj a:=rx;erw[EQ Z d,t1,t2,_];rw[_,t1,t2];rw[m.trees];refine vT rfl (Uj (Ud (thn (he oq s1 σ H1 _ Z q1) λiv s2 ⟨y,H2,I2,ry,kvs,k,v,ea,ey,l,q2⟩=>UL ?_)));subst ey;exact Adt I2 ea ry l (.inl rfl) λw' s3 I3 U=>(v,_,I3,U,q2)
end
end L2
namespace Att
open PySem PySem.W PySem.Calls PyProof.Rows
variable {h:o8}
def WS {P:tm}:∀(ns:oj Int) (vs:oj o6),WellAll P h vs (ns.map WData.int)->GH vs ns:=by
 intro ns
 induction ns with
 |nil=>
  intro vs w;rw[UG,0] at w;exact .nil
 |cons n ns U=>
  intro vs w;rw[uC] at w;cases w with
  |cons a b=>
   rw[a,0];exact .cons _ _ (U _ b)
def DC {l:OpenLaw}{n:Nat}(hn:l.most=u_ n){P:tm}{h:o8}{args:oj WData}{U:oj o6}
  (Z:l.row.toRowW.claim.pre args=v_) (ad:WellAll P h U args):
  ∃a vs ns,U= [Vj a]/\args= [WData.list (ns.map WData.int)]/\h.get? a=u_ {cls:= .type "list",data:= .seq vs.toArray}/\GH vs ns/\↑ns<=n:=by
 let ae:WShape.hasAll [] args [.list .int]=true:=(pre_splitW Z).1;let hc:l.pre.holds [] {args:=args}=true:=(pre_splitW Z).2;erw[hasAllW_cons ae,d,r,rfl,h1,h2];obtain rfl:=hasAllW_nil h2;erw[hasW_list h1,xs,rfl,h3];erw[items_int h3,ns,rfl];let aa:↑ns<=n:=by
  unfold OpenLaw.pre at hc;let h4:(WTm.not (.lt (.lit (.int (n:Int))) (.len (.arg 0)))).holds [] {args:= [.list (ns.map .int)]}=true:=by
   let h4:=(holds_andW hc).1;rwa[hn] at h4
  let h5:=condW_of h4 (w_not (w_lt w_lit (w_len_list (w_arg rfl))));rw[u9] at h5;refine Nat.le_of_not_lt λq=>?_;let q':(n:Int)<((↑ns:Nat):Int):=by omega
  first
   |(rw[uc q'] at h5;exact A8 h5 ())
   |(simp at h5;omega)
 cases ad with
 |cons w1 w2=>
  rw[w2,0];cases w1 with
  |list ho ac=>exact(_,_,ns,1,1,ho,WS ns _ ac,aa)
def DO (l:OpenLaw)(args:oj WData):l.row.toRowW.claim.post args (.bool v_) args=true:=
 postW_of (r:=l.row.toRowW) (X:=(v_==v_))
  (show WShape.has [] (.bool v_) .bool=v_ by first|rfl|decide|simp[WShape.has,WShape.arms,WShape.armsAll])
  (show(WTm.eq .res (.lit (.bool v_))).value [] {args:=args,res:=u_ (.bool v_),after:=args}=u_ (.bool (v_==v_)) from w_eq_bool (w_res rfl) w_lit) rfl
def attach_call {l:OpenLaw}{n:Nat}{q:o9}{U:oj Str}{XP:(Str->om o6)->o8->Prop}{YP:og->o8->Prop}{d:DefRec}
  (hn:l.most=u_ n) (ae:d.params.defaults= [])
  (call:∀(w:og) (s₀ Z:o7) (mg mb:Str->om o6) (fa:o3) (o:Obj) (pm cd doc:o6) (a:o3) (vs:oj o6) (ns:oj Int),
   Ground q U [] XP w s₀ mg mb Z.heap->YP w Z.heap->
   Z.heap.get? fa=u_ o->o.data= .func (docDef d.name d.params d.body d.scope pm cd doc)->Z.heap.CodeRec cd d.name->mg d.name=u_ (-fa)->
   Z.heap.get? a=u_ {cls:= .type "list",data:= .seq vs.toArray}->GH vs ns->↑ns<=n->Z.gens= #[]->
   VN (Vt l.prog w) Gx (.call (-fa) [[-a]:[]]) (λr s'=>r= .ok (.ret (.bool v_))/\OldK Z.heap s'.heap/\s'.os=Z.os/\VX s'.gens) Z):
  WalkO q U XP YP l.row.toRowW d [] (λf vs=>PySem.call f vs):=by
 intro w s₀ Z mg mb G Y fa o pm cd doc dV kV ho hd af hD ag hg args ah as hpre hlay hrd hwl hlo;obtain rfl:dV= .none:=Dflts.none hD ae;obtain rfl:kV= .none:=Dflts.noKw hD;erw[DC hn hpre hwl,a,vs,ns,rfl,rfl,ac,aa,ad];refine enter_call (UE (call w s₀ Z mg mb fa o pm cd doc a vs ns G Y ho (fd_plain hd) af ag ac aa ad hg) λr s' hq=>?_);erw[hq,rfl,h2,h3,h4,<-(.inl (.bool v_,.bool v_,[],1,λ_=>rfl,.bool v_,DO l _,λ_=>[Rf:λ_ hm=>(nomatch hm)]),h2,h3,h4)]
end Att
namespace L2
open PySem PySem.Spec PyProof.Rows
def nN:∀{vs:oj o6}{ns:oj Int},GH vs ns->iw (ns.map V.int) vs
 |_,_,.nil=> .nil|_,_,.cons n t h=> .cons [t:1] (nN h)
abbrev AcC (H:Hp):Prop:=∀b,H b=U_\/∃o xs,H b=u_ (.frz o (.lst xs))
def Mj {P:o9}{w:og}{K:o0}{mg mb:Str->om o6}{CX:CXT}{k:Nat}{fa a:o3}{fd:Vg}{x:Str}{sp:Sp}{U:o7}{vs:oj o6}{ns:oj Int}
  (KX:K.In U.heap) (ae:U.heap.Ns Vz mg) (hb:U.heap.Ns Tq mb) (am:∀x:Str,x≠"__name__"->mb x=GG x) (af:U.heap.NoLimit) (hg:U.gens= #[])
  (ha:U.heap.get? a=u_ {cls:= .type "list",data:= .seq vs.toArray}) (hi:GH vs ns) (hl:↑ns<=Vh) (hr:mB k Gx)
  (F:∀base:o8,K.In base->base.Ns Vz mg->FnOk P w K mg base CX k fa fd [x] sp) (ad:∀(s:o7) (u:o6),GR s fd [[u]:[]] [(x,u)])
  (ag:fd.scope.names.lookup x=u_ .local) (ao:∀H:Hp,AcC H->SqL K H a (ns.map V.int)->sp [-a] H (λv _=>v= .bl v_) λ_ _ _=>False)
  (ap:∀H e s',CX [] H U (λ_ _ _=>False) e s'->False):
  VN (Vt P w) Gx (.call (-fa) [[-a]:[]]) (λr s'=>r= .ok (.ret (.bool v_))/\OldK U.heap s'.heap/\s'.os=U.os/\VX s'.gens) U:=by
 let rv:=nN hi;let ah:=↑hi;let ac:∀H:Hp,AcC H->SqL K H a (ns.map V.int)->HOk P w H U.heap->(∀b,H b≠U_->b=a)->(H a≠U_->K.lookup a=U_)->
   VN (Vt P w) Gx (.call (-fa) [[-a]:[]]) (λr s'=>r= .ok (.ret (.bool v_))/\OldK U.heap s'.heap/\s'.os=U.os/\VX s'.gens) U:=by
  intro H hO hS hok hA hK;let Z:∀{b:o3}{o:Obj},U.heap.get? b=u_ o->H b=U_->(Mt U.heap H).get? b=u_ o:=λe n=>Ms e n;let aq:∀{b:o3}{o:Obj}{es:Array GK}{ep:Nat},U.heap.get? b=u_ o->o.data= .dict es ep->H b=none:=λ{b o es ep} e d=>by
   cases q:H b with
   |none=>rfl|some u=>
    let e':b=a:=hA b (by rw[q];simp)
    subst e';rw[ha,0] at e;let d':Data.seq vs.toArray _=Data.dict es ep:=d;rw[d',0]
  let aa:∀{b:o3}{m:Str->om o6},U.heap.Ns b m->(Mt U.heap H).Ns b m:=λ{b m} ⟨o,es,ep,e,d,r⟩=>(o,es,ep,Z e (aq e d),d,r);let ak:K.In (Mt U.heap H):=λb o e=>Z (KX b o e) (by
   cases q:H b with
   |none=>rfl|some u=>
    let e':b=a:=hA b (by rw[q];simp)
    subst e';rw[hK (by rw[q];simp),0] at e)
  let hM:Mod K mg (Mt U.heap H):=(ak,aa ae,[mb:aa hb:am],let⟨mc,h1,h2⟩:=af;[mc:aa h1:h2]);let e0:Aai P w K mg (Mt U.heap H) Gx [] U H:=(1,hM,λb o e=>Sc e,R8 (EU _ _),trivial,λb hb=>A8 (show b>([]:oj o3) from hb) (by simp),hok,.of_eq hg)
  refine UE ((F _ ak (aa ae)).run Gx [] U H [[-a]:[]] [-a] [-a] _ _ hr e0 (ad U (-a)) (.cons rfl .nil) (ao H hO hS) (.inr [_:0:ag])) λr s' h=>?_;cases r with
  |error e=>exact(ap H e s' h).elim|ok fl=>
   cases fl with
   |next=>exact Vx h|brk=>exact Vx h|cont=>exact Vx h|ret u=>
    erw[h,v,H',os,bare,htk,un,al,r',q];let q':v= .bl true:=q;subst q';obtain rfl:u=GX true:=r';rw[1,OldK.of_keep λb o e=>?_,os,bare];cases q:H b with
    |none=>exact un.keep b o e q (by intro z;exact A8 (show b>([]:oj o3) from z) (by simp)) (by simp)|some u=>
     rcases hO b with z|⟨ob,xs,z⟩
     .rw[q,0] at z
     .have z2:=un.frzs b ob _ z;erw[hok b _ z,e1,_];erw[al b _ z2,e2,_];rw[e,0] at e1;exact e2
 cases hk:K.lookup a with
 |some o=>
  let e:=KX a o hk;rw[ha,0] at e;refine ac (λ_=>U_) (λ_=> .inl rfl) (.inr (_,vs.toArray,_,hk,1,1,1,by rwa[uB,ah],by simpa using rv)) (λb u z=>by have z':(U_:om HO)=u_ u:=z;rw[z',0]) (λb z=>A8 rfl z) λz=>A8 rfl z
 |none=>
  refine ac (λb=>if b=a then u_ (.frz {cls:= .type "list",data:= .seq vs.toArray} (.lst (ns.map V.int))) else U_) (λb=>?_) (.inl (.inr [{cls:= .type "list",data:= .seq vs.toArray}:A6 rfl])) (λb u z=>?_) (λb z=>?_) λ_=>hk
  .by_cases hb:b=a
   .exact .inr [_:_:A6 hb]
   .exact .inl (A4 hb)
  .by_cases hb:b=a
   .let z':=(A6 hb).symm.trans z;rw[z',0];subst hb;exact(ha,by rwa[u9],vs,_,rv,ha)
   .let z':=(A4 hb).symm.trans z;rw[z',0]
  .by_cases hb:b=a
   .exact hb
   .exact A8 (A4 hb) z
nonrec abbrev KOf {K:o0}{h:o8}(_:K.In h):o0:=K
def Ob {l:PySem.W.OpenLaw}{n k:Nat}{q:o9}{Z:oj Str}{XP:(Str->om o6)->o8->Prop}{YP:og->o8->Prop}{d:DefRec}{K:tm->o0}{CX:og->CXT}{sp:og->Sp}{x:Str}
  (hn:l.most=u_ n) (ae:n<=Vh) (af:d.params.defaults= []) (hr:mB k Gx)
  (hY:∀(w:og) (h:o8),YP w h->(K w.params).In h)
  (F:∀(w:og) (mg:Str->om o6) (fa:o3) (h:o8),(K w.params).In h->h.Ns Vz mg->mg d.name=u_ (-fa)->
   ∃fd:Vg,(∀(s:o7) (u:o6),GR s fd [[u]:[]] [(x,u)])/\fd.scope.names.lookup x=u_ .local/\
    ∀base:o8,(K w.params).In base->base.Ns Vz mg->FnOk l.prog w (K w.params) mg base (CX w) k fa fd [x] (sp w))
  (ag:∀(w:og) (H:Hp) (a:o3) (ns:oj Int),↑ns<=n->AcC H->SqL (K w.params) H a (ns.map V.int)->sp w [-a] H (λv _=>v= .bl v_) λ_ _ _=>False)
  (ah:∀(w:og) (H:Hp) (s:o7) (e:o6) (s':o7),CX w [] H s (λ_ _ _=>False) e s'->False):
  PySem.W.WalkO q Z XP YP l.row.toRowW d [] (λf vs=>PySem.call f vs):=by
 refine Att.attach_call hn af λw s₀ s₁ mg mb fa o pm cd doc a vs ns G Y ho hd al ak ac aa U hg=>?_;let KX:=hY w _ Y;erw[F w mg fa _ KX G.T.g ak,fd,hb,ad,hF,<-Mj KX G.T.g G.T.b G.T.builtins G.T.nolimit hg ac aa (vb U ae) hr hF hb ad (λH hO hS=>ag w H a ns U hO hS) λH e s'=>ah w H s₁ e s']
def IW {l:PySem.W.OpenLaw}{n k:Nat}{q:o9}{U:oj Str}{XP:(Str->om o6)->o8->Prop}{YP:og->o8->Prop}{d:DefRec}{K:tm->o0}{CX:CXT}{sp:o0->Sp}{x:Str}
  (hn:l.most=u_ n) (Z:n<=Vh) (aa:d.params.defaults= []) (hr:mB k Gx)
  (hY:∀(w:og) (h:o8),YP w h->(K w.params).In h)
  (F:∀(w:og) (mg:Str->om o6) (fa:o3) (h:o8),(K w.params).In h->h.Ns Vz mg->mg d.name=u_ (-fa)->
   ∃fd:Vg,(∀(s:o7) (u:o6),GR s fd [[u]:[]] [(x,u)])/\fd.scope.names.lookup x=u_ .local/\
    ∀base:o8,(K w.params).In base->base.Ns Vz mg->FnOk l.prog w (K w.params) mg base CX k fa fd [x] (sp (K w.params)))
  (ac:∀(K:o0) (H:Hp) (a:o3) (ns:oj Int),↑ns<=n->AcC H->SqL K H a (ns.map V.int)->sp K [-a] H (λv _=>v= .bl v_) λ_ _ _=>False)
  (ad:∀(H:Hp) (s:o7) (e:o6) (s':o7),CX [] H s (λ_ _ _=>False) e s'->False):
  PySem.W.WalkO q U XP YP l.row.toRowW d [] (λf vs=>PySem.call f vs):=
 Ob (K:=K) (CX:=λ_=>CX) (sp:=λw=>sp (K w.params)) hn Z aa hr hY F (λw H a ns h1 h2 h3=>ac (K w.params) H a ns h1 h2 h3) λ_ H s e s'=>ad H s e s'
abbrev Qm (s:Stmt)(j:Nat):Stmt:=match s with
 | .ClassDef _ _ _ body _ _ _ _ _ _ _=>body.getD j (.Pass ((0),(0),(0),(0)))|_=> .Pass ((0),(0),(0),(0))
abbrev Y9 (s:Stmt):Arguments:=match s with
 | .FunctionDef _ a _ _ _ _ _ _ _ _=>a|_=>{posonlyargs:= [],args:= [],vararg:=U_,kwonlyargs:= [],kw_defaults:= [],kwarg:=U_,defaults:= []}
abbrev y9 (s:Stmt):oj Stmt:=match s with
 | .FunctionDef _ _ b _ _ _ _ _ _ _=>b|_=> []
abbrev qj (s:Stmt):Scope:=match s with
 | .FunctionDef _ _ _ _ _ _ sc _ _ _=>sc|_=>{kind:= .function,names:= [],isGenerator:=Vd,isCoroutine:=Vd}
nonrec abbrev CX0:CXT:=λ_ _ _ _ _ _=>False
nonrec abbrev E0:XK:=λ_ _ _=>False
variable {X:Cx}
def qz:X8 CX0 X E0:=λ_ _ _ _ _ _ _ h=>h.elim
structure Fun (K:o0)(x qual:Str)(st:Stmt)(f:o3)(fd:Vg):Prop where
 ex:∃(oc:o6) (od:om o3) (kV doc pm:o6) (an:om o3) (cdv ct:o6) (osl:Array (om o6)),
  fd=PySem.W.fnOf x qual (Y9 st) (y9 st) (qj st) .none kV doc pm an cdv ct/\K.lookup f=u_ (oc,od,.func fd,osl)/\PySem.W.codeIn K cdv qual=v_
 kp:PySem.W.keepIn K (-f)=v_
section
variable {P:o9}{w:og}{K:o0}{mg:Str->om o6}{base:o8}
def Fun.ok {x qual:Str}{st:Stmt}{f:o3}{fd:Vg}{N ps:oj Str}{k:Nat}{sp:Sp}(F:Fun K x qual st f fd)(S:qv N ps (qj st))(len:∀vs H Q E,sp vs H Q E->↑vs=↑ps)
  (U:∀(cdv:o6) (A:oh) (outer:oj Env) (s:o7) (H:Hp) (vs:oj V) (Q:VK) (E:XK),mB k (A.deeper (Vk qual (qj st) #[0,s] f cdv))->sp vs H Q E->
   ∃t,PSs (cxOf CX0 P w K mg base N qual (qj st) f cdv A outer s H E).nox (y9 st) t/\t {nx:=λ_ H'=>Q .non H',rt:=Q} (KK N vs) H):FnOk P w K mg base CX0 (k+1) f fd ps sp:=by
 erw[F.ex,oc,od,kV,doc,pm,an,cdv,ct,osl,rfl,lk,Z];refine AbT lk Z S len λA outer s H vs Q E hr aa=>?_;erw[U cdv A outer s H vs Q E hr aa,t,h,q,<-[t:h.nox:q]]
def Fun.binds {x qual:Str}{st:Stmt}{f:o3}{fd:Vg}{ps:oj Str}(F:Fun K x qual st f fd)
  (h:∀(kV doc pm:o6) (an:om o3) (cdv ct:o6) (us:oj o6),↑us=↑ps->Gk (PySem.W.fnOf x qual (Y9 st) (y9 st) (qj st) .none kV doc pm an cdv ct) [us:[]]=pure (ps.zip us)):Xd K fd ps []:=by
 erw[F.ex,oc,od,kV,doc,pm,an,cdv,ct,osl,rfl,lk,U,<-.all (h kV doc pm an cdv ct)]
def NJ {x qual:Str}{st:Stmt}{f:o3}{oc:o6}{od an:om o3}{osl:Array (om o6)}{kV doc pm cdv ct:o6}(l:K.lookup f=u_ (oc,od,.func (PySem.W.fnOf x qual (Y9 st) (y9 st) (qj st) .none kV doc pm an cdv ct),osl))
  (c:PySem.W.codeIn K cdv qual=v_) (k:PySem.W.keepIn K (-f)=v_):Fun K x qual st f (PySem.W.fnOf x qual (Y9 st) (y9 st) (qj st) .none kV doc pm an cdv ct):=[(oc,od,kV,doc,pm,an,cdv,ct,osl,1,l,c):k]
end
variable {A:oh}
def QO {k:Nat}(U:mB k A):A.units+1<cLine:=tD (Nat.add_le_add_left (by decide:1<=64) _) U.units
variable {n:Nat}
def X2 (h:n<=1000):n<sizeLine:=tD h ()
section
variable {X:Cx}
def pv (i:Nat){x:Str}{pos:Pos}(Z:X.N[i]? =u_ x:=by rfl)(hv:Vis X.env.scope x:=by first|exact GL rfl|exact GU (GL rfl)|exact GU (GU rfl))(hd:(x==("__debug__":Str))=false:=by decide)
  (U:(x==("__classdict__":Str))=false:=by decide):PE X (.Name x pos) (AaA i):=Abg Z hv hd U
def IC:YM X (.builtin "len") (λxs H Q=>∃a kvs,xs= [V.ref a]/\H a=u_ (.dK kvs)/\Q (.int ↑kvs) H):=by
 rw[2,xs,us,Q,I,r,h];erw[h,a,kvs,rfl,ha,q];erw[Jc r,u,rfl,ru];rw[ru,0];exact Adu I (.inl ha) λt s' U=>(.int ↑kvs,H,U,[t:1],q)
end
def iX {A B:Prop}(h:B):if Vd=v_ then A else B:=by
 rw[A4 uf];exact h
def ky {A B:Prop}(h:A):if v_=v_ then A else B:=by
 rw[A6 rfl];exact h
def iY {c A B:Prop}[Decidable c](h1:c->A)(h2:¬(c)->B):if c then A else B:=by
 by_cases h:c
 .rw[A6 h];exact h1 h
 .rw[A4 h];exact h2 h
abbrev ic (H H':Hp):Prop:=∀b o,H b=u_ o->H' b=u_ o
def ic.refl (H:Hp):ic H H:=λ_ _ h=>h
variable {H H1 H2:Hp}
def ic.trans (a:ic H H1)(b:ic H1 H2):ic H H2:=λc o h=>b c o (a c o h)
variable {H':Hp}
def ic.free (e:ic H H'){l:o3}(h:H' l=Option.none):H l=Option.none:=by
 cases q:H l with
 |none=>rfl|some o=>
  rw[e l o q,0] at h
section
variable {κ:Type}[DecidableEq κ]
variable {kvs:oj (κ×V)}{v:V}
def Of {k:κ}(h:iT kvs k=u_ v):k>kvs.map (·.1):=by
 let q:(kvs.any λkv=>decide (kv.1=k))=true:=by
  rw[xv,h]
  all_goals rfl
 erw[List.any_eq_true.mp q,p,U,e,<-Af.mpr [p:U:ur e]]
def Ik {p:κ×V}{r:oj (κ×V)}{k:κ}(e:p.1=k):J2 (p::r) k=J2 r k:=by
 unfold J2;rw[U0,A4 (by simp[e])]
def Il {p:κ×V}{r:oj (κ×V)}{k:κ}(e:¬p.1=k):J2 (p::r) k=p::J2 r k:=by
 unfold J2;rw[U0,A6 (by simp[e])]
end
end L2
namespace L2
open PySem
inductive D where
 |non|bl (b:Bool)|int (i:Int)|str (z:Str)|lst|dct|tup (xs:List D)
abbrev QE (c:Nat):Bool:=decide (32<=c)&&decide (c<=126)&&decide (c≠37)
abbrev QB (z:Str):Bool:=decide (↑z<=300)&&z.cps.toList.all QE
mutual
noncomputable def iZ:D->Bool
 | .str z=>QB z| .tup xs=>decide (↑xs<=40)&&goodL xs|_=>Vd
noncomputable def goodL:oj D->Bool
 | []=>v_|x::r=>iZ x&&goodL r
end
mutual
noncomputable def sz:D->Nat
 | .str z=>↑z+1| .tup xs=>1+szL xs|_=>0
noncomputable def szL:oj D->Nat
 | []=>0|x::r=>sz x+szL r
end
mutual
noncomputable def dp:D->Nat
 | .str _=>1| .tup xs=>1+dpL xs|_=>0
noncomputable def dpL:oj D->Nat
 | []=>0|x::r=>max (dp x) (dpL r)
end
mutual
noncomputable def nd:D->Nat
 | .tup xs=>1+ndL xs|_=>1
noncomputable def ndL:oj D->Nat
 | []=>0|x::r=>nd x+ndL r
end
abbrev isT (d:D):Bool:=iZ d&&decide (sz d<=600)&&decide (dp d<=12)
def zU:∀(xs ys:oj D),szL (xs++ys)=szL xs+szL ys
 | [],ys=>by simp[szL]|x::r,ys=>by simp![UR,szL,zU r ys];omega
def Zg:∀(xs ys:oj D),ndL (xs++ys)=ndL xs+ndL ys
 | [],ys=>by simp[ndL]|x::r,ys=>by simp![UR,ndL,Zg r ys];omega
def sJ {k:Nat}:∀(xs:oj D),dpL xs<=k↔∀x>xs,dp x<=k
 | []=>by simp[dpL]|x::r=>by
  let Z:=sJ (k:=k) r;let e:dpL (x::r)=max (dp x) (dpL r):=by simp![dpL]
  rw[e];constructor
  .intro h y U;rcases Ab.mp U with rfl|U
   .omega
   .exact Z.mp () y U
  .intro h;let h1:=h x uj;let h2:=Z.mpr λy U=>h y (uh _ U);omega
def AbY {d:D}(h:iZ d=v_):1<=dp d:=by
 cases d<;>simp_all [iZ,dp]
abbrev wOk (w:oj (D×Nat)):Bool:=w.all λp=>iZ p.1&&decide (p.2+dp p.1<=13)
abbrev wSz (w:oj (D×Nat)):Nat:=szL (w.map (·.1))
abbrev G (w:oj (D×Nat))(n:Nat):Bool:=wOk w&&decide (n+wSz w<=600)
def Aaf (d:D):G [(d,1)] 0=isT d:=by
 simp![G,wOk,wSz,isT,vN,rm,uC,UG,szL,Uf,Tc,rJ];let e:decide (1+dp d<=13)=decide (dp d<=12):=by
  rw[ve];omega
 rw[e];cases iZ d<;>cases decide (sz d<=600)<;>cases decide (dp d<=12)<;>rfl
variable {n:Nat}
def AdK (h:n<=600):G [] n=true:=by simp[G,wOk,wSz,szL,h]
def sY (w:oj (D×Nat))(d:D)(k n:Nat):G (w++ [(d,k)]) n=(wOk w&&(iZ d&&decide (k+dp d<=13))&&decide (n+(wSz w+sz d)<=600)):=by
 simp![G,wOk,wSz,UY,vN,rm,Uf,uA,uC,UG,zU,szL,rJ]
 rfl
def Aag {w:oj (D×Nat)}{d:D}{k:Nat}(h:iZ d=Vd):G (w++ [(d,k)]) n=false:=by
 rw[sY,h];simp
def NY {w:oj (D×Nat)}{d:D}{k:Nat}(h:12<k):G (w++ [(d,k)]) n=false:=by
 rw[sY];cases U:iZ d with
 |false=>simp|true=>
  have:=AbY U;let e:decide (k+dp d<=13)=false:=ui ()
  rw[e];simp
def Acv {w:oj (D×Nat)}{d:D}{k:Nat}(h:600<n+sz d):G (w++ [(d,k)]) n=false:=by
 rw[sY];let e:decide (n+(wSz w+sz d)<=600)=false:=ui ()
 rw[e];simp
def Acu {w:oj (D×Nat)}{xs:oj D}{k:Nat}(h:600<n+1):G (w++ [(¬xs,k)]) n=false:=Acv (by simp![sz];omega)
def Oe (xs:oj D)(k:Nat):wOk (xs.map λx=>(x,k+1))=(goodL xs&&xs.all λx=>decide (k+1+dp x<=13)):=by
 induction xs with
 |nil=>rfl|cons x r U=>
  simp![uC,wOk,vN,goodL] at U⊢;rw[U];cases iZ x<;>cases decide (k+1+dp x<=13)<;>cases goodL r<;>simp
def Od (xs:oj D)(k:Nat):wSz (xs.map λx=>(x,k+1))=szL xs:=by
 unfold wSz;rw[uP]
 congr 1
 induction xs with
 |nil=>rfl|cons x r U=>simp![uC,U];rfl
def AdI {w:oj (D×Nat)}{xs:oj D}{k:Nat}(Z:↑xs<=40)(hk:k<=12):G (w++ [(¬xs,k)]) n=G (w++xs.map λx=>(x,k+1)) (n+1):=by
 rw[sY];unfold G;let e1:wOk (w++xs.map λx=>(x,k+1))=(wOk w&&wOk (xs.map λx=>(x,k+1))):=by unfold wOk;rw[UY]
 let e2:wSz (w++xs.map λx=>(x,k+1))=wSz w+szL xs:=by
  have:=Od xs k;unfold wSz at this⊢;rw[uA,zU,this]
 let e3:decide (k+dp (¬xs)<=13)=xs.all λx=>decide (k+1+dp x<=13):=by
  let q:=sJ (k:=12-k) xs;let e0:dp (¬xs)=1+dpL xs:=by simp![dp]
  rw[e0,U5];constructor
  .intro h;let h:=ur h;refine List.all_eq_true.mpr λx U=>uc ?_;let h2:=q.mp () x U
   omega
  .intro h;refine uc ?_;let h2:=q.mpr λx U=>by
    let h3:=ur (List.all_eq_true.mp h x U);omega
   omega
 rw[e1,e2,e3,Oe];let e4:iZ (¬xs)=goodL xs:=by simp![iZ,uc Z,HN]
 let e5:decide (n+(wSz w+sz (¬xs))<=600)=decide (n+1+(wSz w+szL xs)<=600):=by
  rw[ve];simp![sz];omega
 rw[e4,e5]
variable {z:Str}
def AdJ {w:oj (D×Nat)}{k:Nat}(U:QB z=v_)(hk:k<=12):G (w++ [(!z,k)]) n=G w (n+(1+↑z)):=by
 rw[sY];unfold G;let Z:iZ (!z)=true:=by simp![iZ,U]
 let e3:decide (k+dp (!z)<=13)=true:=uc (by simp![dp];omega)
 let e5:decide (n+(wSz w+sz (!z))<=600)=decide (n+(1+↑z)+wSz w<=600):=by
  rw[ve];simp![sz];omega
 rw[Z,e3,e5];simp
end L2
namespace AwZ
open PySem PyProof.Rows
open PySem.AutoSeq1 (wpAny_loadPart')
section
variable {prog:o9}{w:og}{A:oh}{E:o6->o7->Prop}{s:o7}
def Aaz {j t:o3}{i:Nat}{its:Array o6}{x:o6}{Q:o6->o7->Prop}(Z:s.heap.IsTupleIter j t i)(gt:s.heap.IsTuple t its)(gx:its[i]? =u_ x)
  (q:∀h2,h2.IsTupleIter j t (i+1)->VO j s.heap h2->Q x {s with heap:=h2}):Ve #[w,w] A (GE (-j)) Q E s:=by
 erw[id Z,u,U,cu,du];erw[gt,ut,aa,_,nt,ac];unfold GE;refine A7 (vv (name:=Gz "__next__") Z.typeIs U8
  (vR U8 Z.typeIs F.entry_tuple_iterator_next ?_ (F.args_tuple_iterator_next_1 _)))
 show Ve _ _ (VL (-j) 0>>=_) _ _ s;refine A7 (vm U du (x:=-t) rfl ?_);show Ve _ _ (if(Vj t==G9)=v_ then _ else _) _ _ s
 rw[A4 (show¬(Vj t==G9)=v_ from uf)]
 show Ve _ _ (VL (-j) 1>>=_) _ _ s;refine A7 (vm U du (x:= .int i 0) rfl ?_);show Ve _ _ (T0 (-t)>>=_) _ _ s;refine A7 (Us aa ac ?_);simp![Ts,gx];refine A7 (Fq U du (by simp) (uE [x:1:uE (q _ ?_ (rL ..))]))
 exact(_,TX _ U (Obj.isFreed_of_fields (RB du _)),(Obj.cls_mapFields ..).trans cu,by rw[RB du];simp[VG])
def nP {j t:o3}{i:Nat}{its:Array o6}{Q:o6->o7->Prop}(hh:A.handled=U_)(U:s.heap.IsTupleIter j t i)(gt:s.heap.IsTuple t its)(gx:its[i]? =U_)
  (q:∀h2 e,rc j s.heap h2->(∃u,h2.get? e=u_ u/\u.cls= .type "StopIteration")->E (-e) {s with heap:=h2}):Ve #[w,w] A (GE (-j)) Q E s:=by
 erw[id U,u,Z,cu,du];erw[gt,ut,aa,_,nt,ac];unfold GE;refine A7 (vv (name:=Gz "__next__") U.typeIs U8
  (vR U8 U.typeIs F.entry_tuple_iterator_next ?_ (F.args_tuple_iterator_next_1 _)))
 show Ve _ _ (VL (-j) 0>>=_) _ _ s;refine A7 (vm Z du (x:=-t) rfl ?_);show Ve _ _ (if(Vj t==G9)=v_ then _ else _) _ _ s
 rw[A4 (show¬(Vj t==G9)=v_ from uf)]
 show Ve _ _ (VL (-j) 1>>=_) _ _ s;refine A7 (vm Z du (x:= .int i 0) rfl ?_);show Ve _ _ (T0 (-t)>>=_) _ _ s;refine A7 (Us aa ac ?_);simp![Ts,gx];refine A7 (UU (A7 (Fq Z du (by simp) ?_)))
 show Ve _ _ (newExc (.type "StopIteration") []>>=_) _ _ _;refine A7 ?_;simp![newExc,TH];refine A7 (vF ?_ (by size_fits))
 refine A7 (m:=T8 _ _) (HM (a:=G9) (by first|rfl|(simp![T8];rfl)) ?_)
 refine vF ?_ (by size_fits)
 simp![raiseNew];refine A7 (wpAny_handled ?_)
 first|rw[show A.in1.handled=U_ from hh]|rw[hh]
 refine A7 (uE (Rp ?_));exact q _ _ (((rL ..).extBut.push _).push _) [_:uH _ rfl:1]
structure Apt (z p r i j a b:o3):Prop where
 pz:p≠z
 rz:r≠z
 iz:i≠z
 jz:j≠z
 pr:p≠r
 pi:p≠i
 pj:p≠j
 ri:r≠i
 rj:r≠j
 ij:i≠j
 az:a≠z
 ar:a≠r
 ai:a≠i
 aj:a≠j
 bz:b≠z
 br:b≠r
 bi:b≠i
 bj:b≠j
def AcF {z p r i j a b:o3}{k:Nat}{xs ys:Array o6}{x y u v:o6}{Q:o6->o7->Prop}(D:Apt z p r i j a b)
  (hz:VD s.heap z p r .none) (hp:Vu s.heap p (-i) (-j)) (hr:Vu s.heap r u v)
  (hi:s.heap.IsTupleIter i a k) (hj:s.heap.IsListIter j b k) (ha:s.heap.IsTuple a xs) (hb:s.heap.IsList b ys) (hx:xs[k]? =u_ x) (hy:ys[k]? =u_ y)
  (q:∀h2,VD h2 z p r (VG #[0,s])->Vu h2 r x y->h2.IsTupleIter i a (k+1)->h2.IsListIter j b (k+1)->Vu h2 #[0,s] x y->h2.objs.size=#[0,s]+1->
   (∀c o,c≠z->c≠r->c≠i->c≠j->s.heap.get? c=u_ o->h2.get? c=u_ o)->Q (.ref #[0,s]) {s with heap:=h2}):
  Ve #[w,w] A (VW.«zip.__next__» [[-z]:[]]) (λfin t=>∃v,fin= .done (.ret v)/\Q v t) E s:=by
 show Ve _ _ (VL (-z) 2>>=_) _ _ _;refine A7 (vm hz rfl (x:= .bool Vd) rfl ?_);show Ve _ _ (VL (-z) 3>>=_) _ _ _;refine A7 (vm hz rfl (x:=-p) rfl ?_);refine A7 (Us hp rfl ?_);show Ve _ _ (GY (-z)>>=_) _ _ s;refine A7 ?_;unfold GY;refine A7 (vm hz rfl (x:= .none) rfl (uE ?_));simp![Vc];refine A7 (UU ?_);refine A7 (vm hz rfl (x:=-r) rfl ?_);refine A7 (vx hz (by simp) λh1 z1 s1=>?_)
 replace z1:VD h1 z p r .ellipsis:=z1
 refine A7 ?_;simp![rD,Fy,UF,R7];refine A7 (A7 (TR ?_));show Ve _ _ (GE (-i)>>=_) _ _ _;refine A7 (Aaz (hi.extBut s1.extBut D.iz) (ha.extBut s1.extBut D.az) hx λh2 i2 s2=>uE ?_);let r2:Vu h2 r u v:=s2.extBut _ _ D.ri (s1.extBut _ _ D.rz hr);refine A7 (Us r2 rfl ?_);refine A7 (Rb r2 λh3 r3 Z=>?_)
 replace r3:Vu h3 r x v:=r3
 refine A7 (tU (uE ?_));refine A7 (A7 (TR ?_));show Ve _ _ (GE (-j)>>=_) _ _ _;refine A7 (wpAny_nextOf_list_item (((hj.extBut s1.extBut D.jz).extBut s2.extBut D.ij.symm).extBut Z.extBut D.rj.symm)
  (((hb.extBut s1.extBut D.bz).extBut s2.extBut D.bi).extBut Z.extBut D.br) hy λh4 j4 s4=>uE ?_)
 let r4:Vu h4 r x v:=s4.extBut _ _ D.rj r3;refine A7 (Us r4 rfl ?_);refine A7 (Rb r4 λh5 r5 s5=>?_)
 replace r5:Vu h5 r x y:=r5
 refine A7 (tU (uE (uE ?_)));refine A7 (Us r5 rfl ?_);refine A7 (r_ ?_);let sz:h5.objs.size=#[0,s]:=by rw[s5.1,s4.1,Z.1,s2.1,s1.1]
 let z5:VD h5 z p r .ellipsis:=s5.extBut _ _ D.rz.symm (s4.extBut _ _ D.jz.symm (Z.extBut _ _ D.rz.symm (s2.extBut _ _ D.iz.symm z1)));let k5:∀c o,c≠z->c≠r->c≠i->c≠j->s.heap.get? c=u_ o->h5.get? c=u_ o:=λc o U c2 c3 c4 e=>
  s5.extBut _ _ c2 (s4.extBut _ _ c4 (Z.extBut _ _ c2 (s2.extBut _ _ c3 (s1.extBut _ _ U e))))
 let i5:h5.IsTupleIter i a (k+1):=((i2.extBut Z.extBut D.ri.symm).extBut s4.extBut D.ij).extBut s5.extBut D.ri.symm;let j5:h5.IsListIter j b (k+1):=j4.extBut s5.extBut D.rj.symm;let aa:z<h5.objs.size:=uI z5;show Ve _ _ (HX (-z) (-h5.objs.size)>>=_) _ _ _;refine A7 ?_;unfold HX;let z6:VD (h5.push {cls:= .type "tuple",data:= .seq #[x,y]}) z p r .ellipsis:=ud _ z5;refine A7 (vx z6 (by simp) λh7 z7 s7=>?_)
 replace z7:VD h7 z p r (VG h5.objs.size):=z7
 refine vx z7 (by simp) λh8 z8 s8=>?_
 replace z8:VD h8 z p r (VG h5.objs.size):=z8
 let up:∀c o,c≠z->h5.get? c=u_ o->h8.get? c=u_ o:=λc o U e=>s8.extBut _ _ U (s7.extBut _ _ U (ud _ e));let t8:Vu h8 h5.objs.size x y:=s8.extBut _ _ (Ub aa) (s7.extBut _ _ (Ub aa) (uH _ rfl));let n8:h8.objs.size=h5.objs.size+1:=by rw[s8.1,s7.1,vq]
 rw[sz] at z8 t8 n8;refine uE [0:?_];show Q (-h5.objs.size) _;rw[sz];exact q h8 z8 (up _ _ D.rz r5) (by erw[i5,o,e,g,<-[o:up _ o D.iz e:g]]) (j5.at λo e=>up _ o D.jz e) t8 n8 λc o U c2 c3 c4 e=>up c o U (k5 c o U c2 c3 c4 e)
def zip_go {z p r i j a b:o3}{k:Nat}{xs ys:Array o6}{x y u v:o6}{Q:om o6->o7->Prop}(D:Apt z p r i j a b)
  (hz:VD s.heap z p r .none) (Z:Vu s.heap p (-i) (-j)) (hr:Vu s.heap r u v)
  (hi:s.heap.IsTupleIter i a k) (hj:s.heap.IsListIter j b k) (ha:s.heap.IsTuple a xs) (hb:s.heap.IsList b ys) (hx:xs[k]? =u_ x) (hy:ys[k]? =u_ y)
  (q:∀h2,VD h2 z p r (VG #[0,s])->Vu h2 r x y->h2.IsTupleIter i a (k+1)->h2.IsListIter j b (k+1)->Vu h2 #[0,s] x y->h2.objs.size=#[0,s]+1->
   (∀c o,c≠z->c≠r->c≠i->c≠j->s.heap.get? c=u_ o->h2.get? c=u_ o)->Q (u_ (.ref #[0,s])) {s with heap:=h2}):
  Ve #[w,w] A (VH (-z)) Q E s:=by
 let U:s.TypeIs (-z) "zip":=[_:hz:1];unfold VH;exact A7 (UZ (vv (name:=Gz "__next__") U F.slot_zip_next
  (vR F.slot_zip_next U F.entry_zip_next (AcF D hz Z hr hi hj ha hb hx hy λh2 b1 b2 b3 b4 b5 b6 b7=>uE (q h2 b1 b2 b3 b4 b5 b6 b7)) (F.args_zip_next_1 _))))
def zip_stop {z p r i j a b:o3}{k:Nat}{xs:Array o6}{Q:om o6->o7->Prop}(hh:A.handled=U_)(D:Apt z p r i j a b)
  (hz:VD s.heap z p r .none) (hp:Vu s.heap p (-i) (-j)) (hi:s.heap.IsTupleIter i a k) (ha:s.heap.IsTuple a xs) (hx:xs[k]? =U_)
  (q:∀h2,(∀c o,c≠z->c≠r->c≠i->c≠j->s.heap.get? c=u_ o->h2.get? c=u_ o)->Q U_ {s with heap:=h2}):Ve #[w,w] A (VH (-z)) Q E s:=by
 let tz:s.TypeIs (-z) "zip":=[_:hz:1];unfold VH;refine A7 (UZ (vv (name:=Gz "__next__") tz F.slot_zip_next
  (vR F.slot_zip_next tz F.entry_zip_next ?_ (F.args_zip_next_1 _))))
 show Ve _ _ (VL (-z) 2>>=_) _ _ _;refine A7 (vm hz rfl (x:= .bool Vd) rfl ?_);show Ve _ _ (VL (-z) 3>>=_) _ _ _;refine A7 (vm hz rfl (x:=-p) rfl ?_);refine A7 (Us hp rfl ?_);show Ve _ _ (GY (-z)>>=_) _ _ s;refine A7 ?_;unfold GY;refine A7 (vm hz rfl (x:= .none) rfl (uE ?_));simp![Vc];refine A7 (UU ?_);refine A7 (vm hz rfl (x:=-r) rfl ?_);refine A7 (vx hz (by simp) λh1 U s1=>?_)
 replace U:VD h1 z p r .ellipsis:=U
 refine A7 ?_;simp![rD,Fy,UF,R7];refine A7 (A7 (TR ?_));show Ve _ _ (GE (-i)>>=_) _ _ _;refine A7 (nP hh (hi.extBut s1.extBut D.iz) (ha.extBut s1.extBut D.az) hx λh2 e s2 he=>?_);erw[he,oe,Z,ce];let z2:VD h2 z p r .ellipsis:=s2 _ _ D.iz.symm U;let ez:e≠z:=λx=>by subst x;rw[z2,0] at Z;simp at ce
 refine vx z2 (by simp) λh3 _ s3=>?_
 refine A7 (US (T:="StopIteration") (b:=v_) [oe:s3.extBut _ _ ez Z:ce] rE ?_);exact uE (q _ λc o c1 _ c3 _ x=>s3.extBut _ _ c1 (s2 _ _ c3 (s1.extBut _ _ c1 x)))
nonrec abbrev q1 (h:o8)(a:o3):o8:=h.push {cls:= .type "tuple_iterator",data:= .fields #[-a,.int 0 0]}
nonrec abbrev q2 (h:o8)(a b:o3):o8:=(q1 h a).push {cls:= .type "list_iterator",data:= .fields #[-b,.int 0 0]}
nonrec abbrev q3 (h:o8)(a b:o3):o8:=(q2 h a b).push {cls:= .type "tuple",data:= .seq #[-h.objs.size,.ref (q1 h a).objs.size]}
nonrec abbrev q4 (h:o8)(a b:o3):o8:=(q3 h a b).push {cls:= .type "tuple",data:= .seq #[.none,.none]}
nonrec abbrev q5 (h:o8)(a b:o3):o8:=(q4 h a b).push {cls:= .type "zip",data:= .fields #[.none,.bool Vd,.bool Vd,.ref (q2 h a b).objs.size,.ref (q3 h a b).objs.size]}
def IS (a b:o3)(xs ys:Array o6):GQ (VW.«zip.__new__» [[.type "zip",-a,-b]:[]]) (λ_ R s=>s.heap.IsTuple a xs/\s.heap.IsList b ys/\R (.ok (.ret (.ref (q4 s.heap a b).objs.size))) {s with heap:=q5 s.heap a b}):=
 .of_wp λprog w A R s h=>by
  erw[s,U,g,d,tk,os];erw[h,ha,Z,h];let sub:=sub_zip;let h1:Ry (TC (U,g,d,tk,os)) a xs:=ha;let h2:Heap.IsList (TC (U.push {cls:= .type "tuple_iterator",data:= .fields #[-a,.int 0 0]},g,d,tk,os)) b ys:=pH Z _
  wp_walk using Uc h1,V5 h2
  exact[0:h]
def zip_call {a b:o3}{xs ys:Array o6}{Q:o6->o7->Prop}(ha:s.heap.IsTuple a xs)(hb:s.heap.IsList b ys)
  (h:∀h2,VD h2 (#[0,s]+4) (#[0,s]+2) (#[0,s]+3) .none->Vu h2 (#[0,s]+2) (.ref #[0,s]) (.ref (#[0,s]+1))->
   Vu h2 (#[0,s]+3) .none .none->h2.IsTupleIter #[0,s] a 0->h2.IsListIter (#[0,s]+1) b 0->h2.objs.size=#[0,s]+5->
   (∀c o,s.heap.get? c=u_ o->h2.get? c=u_ o)->Q (.ref (#[0,s]+4)) {s with heap:=h2}):Ve #[w,w] A (call (.type "zip") [-a,-b]) Q E s:=by
 refine callType_new F.called_zip () (F.typeCall_zip_2 _ _) (F.newCall_zip_2 _ _) (λobj=>F.args_object_init_3 obj _ _) F.entry_zip_new (IS a b xs ys) [ha:hb:?_]
 let U:(q1 s.heap a).objs.size=#[0,s]+1:=vq ..;let Z:(q2 s.heap a b).objs.size=#[0,s]+2:=by rw[vq,U]
 let z3:(q3 s.heap a b).objs.size=#[0,s]+3:=by rw[vq,Z]
 let z4:(q4 s.heap a b).objs.size=#[0,s]+4:=by rw[vq,z3]
 let z5:(q5 s.heap a b).objs.size=#[0,s]+5:=by rw[vq,z4]
 let g5:(q5 s.heap a b).get? (q4 s.heap a b).objs.size=u_ _:=uH _ rfl;let g4:(q5 s.heap a b).get? (q3 s.heap a b).objs.size=u_ _:=ud _ (uH _ rfl);let g3:(q5 s.heap a b).get? (q2 s.heap a b).objs.size=u_ _:=ud _ (ud _ (uH _ rfl));let g2:(q5 s.heap a b).get? (q1 s.heap a).objs.size=u_ _:=ud _ (ud _ (ud _ (uH _ rfl)));let g1:(q5 s.heap a b).get? #[0,s]=u_ _:=ud _ (ud _ (ud _ (ud _ (uH _ rfl))));show _/\_;rw[Z,z3,z4] at g5;rw[U,Z] at g3;rw[z3] at g4;rw[U] at g2;rw[z4];exact[[_:g5:1]:h _ g5 g3 g4 (_,g1,1,1) (_,g2,1,1) z5 λc o x=>ud _ (ud _ (ud _ (ud _ (ud _ x))))]
def Adr {e j t:o3}{i:Nat}{c:Int}{its:Array o6}{x U:o6}{Q:o6->o7->Prop}(he:VV s.heap e j c U)(gj:s.heap.IsTupleIter j t i)(gt:s.heap.IsTuple t its)(gx:its[i]? =u_ x)(ej:e≠j)
  (q:∀h2,H_ h2 e j (c+1) x #[0,s]->h2.IsTupleIter j t (i+1)->h2.get? #[0,s]=u_ {cls:= .type "tuple",data:= .seq #[.int c s.toks,x]}->h2.objs.size=#[0,s]+1->
   (∀b o,b≠e->b≠j->s.heap.get? b=u_ o->h2.get? b=u_ o)->Q (.ref #[0,s]) {s with heap:=h2,toks:=s.toks+1}):
  Ve #[w,w] A (VW.«enumerate.__next__» [[-e]:[]]) (λfin t=>∃v,fin= .done (.ret v)/\Q v t) E s:=by
 erw[s,Z,g,d,tk,os];show Ve _ _ (VL (-e) 2>>=_) _ _ _;refine A7 (vm he rfl (x:=-j) rfl ?_);refine A7 (Aaz gj gt gx λh1 j1 s1=>?_)
 replace s1:VO j Z h1:=s1
 let e1:VV h1 e j c U:=(s1.2 e ej).trans he;show Ve _ _ (VL (-e) 3>>=_) _ _ (h1,g,d,tk,os);refine A7 (vm e1 rfl (x:=VG c) rfl ?_);show Ve _ _ (VL (-e) 4>>=_) _ _ (h1,g,d,tk,os);refine A7 (vm e1 rfl (x:= .none) rfl ?_);show Ve _ _ (mkInt c>>=_) _ _ (h1,g,d,tk,os);refine A7 (wpAny_mkInt ?_);show Ve _ _ (setField (-e) 3 (VG (c+1))>>=_) _ _ (h1,g,d,tk+1,os);refine A7 (vx e1 (by simp) λh2 e2 s2=>?_)
 replace s2:VO e h1 h2:=s2
 replace e2:VV h2 e j (c+1) U:=e2
 show Ve _ _ (setField (-e) 4 .none>>=_) _ _ (h2,g,d,tk+1,os);refine A7 (vx e2 (by simp) λh3 e3 s3=>?_)
 replace s3:VO e h2 h3:=s3
 replace e3:VV h3 e j (c+1) U:=e3
 show Ve _ _ (TH [.int c tk,x]>>=_) _ _ (h3,g,d,tk+1,os);refine A7 (r_ ?_);let e4:VV (h3.push {cls:= .type "tuple",data:= .seq #[.int c tk,x]}) e j (c+1) U:=ud _ e3;generalize hg:h3.push {cls:= .type "tuple",data:= .seq #[.int c tk,x]}=h4 at e4;let sz:h3.objs.size=Z.objs.size:=by rw[s3.1,s2.1,s1.1]
 let el:e<Z.objs.size:=uI he;let t4:h4.get? Z.objs.size=u_ {cls:= .type "tuple",data:= .seq #[.int c tk,x]}:=by rw[<-hg,<-sz];exact uH _ rfl
 let n4:h4.objs.size=Z.objs.size+1:=by rw[<-hg,vq,sz]
 let k4:∀b o,b≠e->b≠j->Z.get? b=u_ o->h4.get? b=u_ o:=λb o be bj y=>by
  rw[<-hg];exact ud _ (s3.extBut b o be (s2.extBut b o be (s1.extBut b o bj y)))
 let j4:h4.IsTupleIter j t (i+1):=by
  erw[j1,o,y,r,<-⟨o,by rw[<-hg];exact ud _ (s3.extBut j o (U4 ej) (s2.extBut j o (U4 ej) y)),r⟩]
 show Ve _ _ (GY (-e)>>=_) _ _ (h4,g,d,tk+1,os);rw[sz];clear hg e3 s3 e2 s2 e1 s1 j1 sz h3 h2 h1;refine A7 ?_;unfold GY;refine A7 (vm e4 rfl (x:= .none) rfl (uE ?_));simp![Vc];refine A7 (UU ?_);refine A7 (vm e4 rfl (x:=U) rfl ?_);refine A7 (vx e4 (by simp) λh5 e5 s5=>?_)
 replace s5:VO e h4 h5:=s5
 replace e5:VV h5 e j (c+1) x:=e5
 show Ve _ _ (HX (-e) (-Z.objs.size)>>=_) _ _ (h5,g,d,tk+1,os);refine A7 ?_;unfold HX;refine A7 (vx e5 (by simp) λh6 e6 s6=>?_)
 replace s6:VO e h5 h6:=s6
 replace e6:H_ h6 e j (c+1) x Z.objs.size:=e6
 refine vx e6 (by simp) λh7 e7 s7=>?_
 replace s7:VO e h6 h7:=s7
 replace e7:H_ h7 e j (c+1) x Z.objs.size:=e7
 let up:∀b o,b≠e->h4.get? b=u_ o->h7.get? b=u_ o:=λb o be y=>s7.extBut b o be (s6.extBut b o be (s5.extBut b o be y));refine A7 (tU (uE [0:q h7 e7 ?_ (up _ _ (Ub el) t4) ?_ λb o be bj y=>up b o be (k4 b o be bj y)]))
 .erw[j4,o,y,r,<-[o:up j o (U4 ej) y:r]]
 .rw[s7.1,s6.1,s5.1,n4]
def enum_go {e j t:o3}{i:Nat}{c:Int}{its:Array o6}{x U:o6}{Q:om o6->o7->Prop}(Z:VV s.heap e j c U)(gj:s.heap.IsTupleIter j t i)(gt:s.heap.IsTuple t its)(gx:its[i]? =u_ x)(ej:e≠j)
  (q:∀h2,H_ h2 e j (c+1) x #[0,s]->h2.IsTupleIter j t (i+1)->h2.get? #[0,s]=u_ {cls:= .type "tuple",data:= .seq #[.int c s.toks,x]}->h2.objs.size=#[0,s]+1->
   (∀b o,b≠e->b≠j->s.heap.get? b=u_ o->h2.get? b=u_ o)->Q (u_ (.ref #[0,s])) {s with heap:=h2,toks:=s.toks+1}):Ve #[w,w] A (VH (-e)) Q E s:=by
 let te:s.TypeIs (-e) "enumerate":=[_:Z:1];unfold VH;exact A7 (UZ (vv (name:=Gz "__next__") te UI
  (vR UI te F.entry_enumerate_next (Adr Z gj gt gx ej λh2 b1 b2 b3 b4 b5=>uE (q h2 b1 b2 b3 b4 b5)) (F.args_enumerate_next_1 _))))
def enum_stop {e j t:o3}{i:Nat}{c:Int}{its:Array o6}{U:o6}{Q:om o6->o7->Prop}(hh:A.handled=U_)(Z:VV s.heap e j c U)(gj:s.heap.IsTupleIter j t i)(gt:s.heap.IsTuple t its)(gx:its[i]? =U_)
  (q:∀h2,rc j s.heap h2->Q U_ {s with heap:=h2}):Ve #[w,w] A (VH (-e)) Q E s:=by
 let te:s.TypeIs (-e) "enumerate":=[_:Z:1];unfold VH;refine A7 (UZ (vv (name:=Gz "__next__") te UI
  (vR UI te F.entry_enumerate_next ?_ (F.args_enumerate_next_1 _))))
 show Ve _ _ (VL (-e) 2>>=_) _ _ _;refine A7 (vm Z rfl (x:=-j) rfl ?_);refine A7 (nP hh gj gt gx λh2 y s2 hy=>?_);erw[hy,o,g,c];refine A7 (US (T:="StopIteration") (b:=v_) [o:g:c] rE ?_);exact uE (q _ s2)
def Aeb (T:String)(args:oj o6)(kw:oj (Str×o6)):(Code.builtin "type.__call__" [.type T::args:kw]).weight=0:=rfl
def new_kw {T Z:String}{Bn:VW}{args:oj o6}{kw:oj (Str×o6)}{S:PySem.Spec}{Q:o6->o7->Prop}(U:TypeCalled T Z "object.__init__")
  (ag:(u_ Z !=u_ "object.__new__")=v_) (ah:Fm T [args:kw]=pure Gu) (ac:Tz Z [.type T::args:kw]=pure Gu)
  (hok:∀obj,argsOk "object.__init__" [obj::args:kw]) (en:entryFor table Z=u_ Bn) (g:GQ (Bn [.type T::args:kw]) S)
  (h:S A.in1 (wants (λobj s1=>s1.TypeIs obj T/\Q obj s1) E) s):Ve #[w,w] A (call (.type T) args kw) Q E s:=by
 erw[U.mro,c,tl,hm];let ad:=U.made;let af:=U.sub;refine He (FY ?_);show Ve _ _ (callAny (.type T) _) _ _ _;refine uE [Code.quiet_builtin _ ():HU F.entry_type_call ?_]
 rw[Around.under_plain (Aeb T args kw) (units_type_call_type T args kw)];let g1:=U.notType;let g2:=U.canCreate
 repeat (any_goals (first|assumption|wp_step))
 refine UE (Fa U.plain en (HM ac (g prog w A.in1 _ s h))) λr s1 hr=>?_;cases r with
 |error e=>exact hr|ok fl=>
  cases fl with
  |ret obj=>
   erw[hr,hT,hq];let ak:=U.init.lookup;let al:=U.init.bind obj
   repeat (any_goals (first|assumption|wp_step))
   let gi:GQ (VW.«object.__init__» ⟨obj::args,kw⟩) (λ_ R s=>s.TypeIs obj T/\R (.ok (.ret .none)) s):=by
    refine Meets.of_wp λprog w A R s hs=>?_;erw[hs,hT,hq];cases hc:(!(args.isEmpty)|| !(kw.isEmpty)) with
    |false=>
     show Ve _ _ (if(!(args.isEmpty)|| !(kw.isEmpty))=v_ then _ else _) _ _ _
     rw[A4 (by rw[hc];exact uf)]
     exact uE [0:hq]
    |true=>
     repeat (any_goals (first|assumption|wp_step))
     exact[0:hq]
   refine UE (Fa U.init.plain F.entry_object_init (U.init.check _ _ _ _ _ _ _ _ hT (hok obj) (gi prog w A.in1 (wants (λr s2=>r= .none/\Q obj s2) E) s1 [hT:1:hq]))) λr2 s2 aa=>?_;cases r2 with
   |error e=>exact aa|ok ae=>
    cases ae with
    |ret r=>
     erw[aa,rfl,hq]
     repeat (any_goals (first|assumption|wp_step))
    |_=>exact aa.elim
  |_=>exact hr.elim
end
end AwZ
namespace L2
open PySem PySem.Spec PyProof.Rows
abbrev Its (x:Str):It:=⟨λi _=>i<x.cps.size,λi H v H'=>H'=H/\∃c,x.cps[i]? =u_ c/\v= .str ⟨#[c]⟩,λi _=>i=x.cps.size⟩
variable {w:og}{K:o0}{tg:Expr}{x:Str}
def Bg {P:o9}{t:Tok}{it:o3}(ty:String)(U:ty="str_ascii_iterator"\/ty="str_iterator"):
  NW P w K tg (Its x) [it] it (λi h=>h.IsStrIter it ty x t i) where
 mem:=by simp
 obj:=λi h st b Z=>by
  let e:b=it:=by simpa using Z
  subst e;erw[st,o,e,c,d,<-⟨o,e,λv z=>by rw[d,0] at z⟩]
 keep:=λi h h' st k=>by
  erw[st,o,e,r,<-⟨o,k it (by simp) o e,r⟩]
 item:=by
  intro X hP hw hK hc i oq s σ H E I hf st hg;subst hP hw hK;obtain⟨f0,f1,f2,f3,f4,f5⟩:=hf it (by simp)
  let W:Walks X.prog X.w X.A it [it] [it] x.cps.size (SignAt x) (λi h=>h.IsStrIter it ty x t i):=by
   rcases U with rfl|rfl
   .exact FS (I.ok.hd hc) it x t
   .exact Fd (I.ok.hd hc) it x t
  refine vf (n:=1) I.tk (W.item i s _ _ hg st λv h' tk hv aa kk=>?_);intro htk;erw[hv,c,u,hx,rfl];let I1:Inv X oq σ H {s with heap:=h',toks:=tk}:=I.turned (λb o Z e=>kk b o (by simpa using Z) e) f0 f1 f3 f4 f5
  erw[id aa,o,e,c',d];refine⟨0,EX (s:={s with heap:=h',toks:=tk}) e c' d (by rcases U with rfl|rfl<;>decide) ⟨.str ⟨#[c]⟩,H,I1,[u:1],⟨1,c,hx,1⟩,aa,λb Z=>(hf b Z).1⟩⟩
 done:=by
  intro X hP hw hK hc i oq s σ H E I hf st hg;subst hP hw hK;let ac:i=x.cps.size:=hg;subst ac;obtain⟨f0,f1,f2,f3,f4,f5⟩:=hf it (by simp)
  let W:Walks X.prog X.w X.A it [it] [it] x.cps.size (SignAt x) (λi h=>h.IsStrIter it ty x t i):=by
   rcases U with rfl|rfl
   .exact FS (I.ok.hd hc) it x t
   .exact Fd (I.ok.hd hc) it x t
  exact vf (n:=1) I.tk (W.done s _ _ st λh' tk kk htk=>⟨1,I.turned (λb o Z e=>kk b o (by simpa using Z) e) f0 f1 f3 f4 f5⟩)
 self:=λ_ _ _ _ _ st h=>by
  rcases U with rfl|rfl
  .exact wpAny_pyIter_striter_ascii st h
  .exact wpAny_pyIter_striter_wide st h
section
variable {X:Cx}{tg:Expr}
inductive AdH (R:(It->Hp->Prop))(x:V)(H1:Hp):Prop
 |mk (z:_)(_:x= !z)(_:R (Its z) H1)
abbrev AeC (tl:TE):TI:=λσ H R=>tl σ H λx H1=>AdH R x H1
def Nh {l:Expr}{tl:TE}(Z:PE X l tl):PI X tg l (AeC tl):=by
 rw[2,R,I,h];refine thn (Z oq s σ H _ I h) λv s1 zq=>?_;erw[zq,x,H1,U,r1,q1];erw[q1,z,e,q];subst e;erw[r1,t,rfl];let fp:∀(o:Obj),∀b> [#[0,s1]],Bd X oq H1 b:=λo b hb=>by
  let e:b=#[0,s1]:=by simpa using hb
  subst e;exact U.fpOk (uq _) (U.hok.fresh (uq _))
 cases ha:z.cps.all (·<128)
 .refine wpAny_pyIter_wide ha ?_;exact(#[0,s1],[#[0,s1]],_,_,H1,1,U.kept (t':=s1.toks) λb o e=>ud _ e,Bg "str_iterator" (.inr rfl),(_,uH _ rfl,1,1),fp default,q)
 .refine wpAny_pyIter_ascii ha ?_;exact(#[0,s1],[#[0,s1]],_,_,H1,1,U.kept (t':=s1.toks) λb o e=>ud _ e,Bg "str_ascii_iterator" (.inl rfl),(_,uH _ rfl,1,1),fp default,q)
inductive AdS (x:V)(lo:Option Int)(hi:Option Int)(H:Hp)(Q:VK):Prop
 |mk (z:_)(_:x= !z)(_:↑z<=Vh)(_:Q (.str (Hy z lo hi)) H)
abbrev Co:o6->om (Int×Tok)
 | .int i t=>u_ (i,t)|_=>U_
def AaX:SlR X AdS:=by
 rw[2,x,v,U,Z,lo,hi,sl,Q,I,rx,hs,pl,pu,h];erw[h,z,rfl,hz,q];erw[rx,t,rfl];rw[_,"str",_,F.slot_str_getitem.lookup,vX _ _ _];let hl:U=partValue (Co U)/\lo=(Co U).map (·.1):=by cases pl<;>exact[1:1]
 let hu:Z=partValue (Co Z)/\hi=(Co Z).map (·.1):=by cases pu<;>exact[1:1]
 erw[hs,o,e1,e2,e3];refine vf (n:=1) I.tk ?_;refine wpAny_getItem_str_slice (l:=Co U) (u:=Co Z) (st:=U_) (o,e1,e2,by rw[e3,<-hl.1,<-hu.1];rfl) rfl ?_
 refine post_val_or_str [?_:λt' k=>?_]
 .exact vb (rM z _ _) hz
 .intro htk;exact(.str (Hy z lo hi),H,I.tok k,⟨t',by rw[hl.2,hu.2];rfl⟩,q)
def qZ {K:o0}(Z:X.K=K):YM X (.builtin "isinstance") (λxs H Q=>∃x T t b,xs= [x,.ty T]/\Cl K H x t/\PySem.W.kitOne K t (.type T)=u_ b/\Q (.bl b) H):=by
 rw[2,xs,us,Q,I,r,h];erw[h,x,T,t,b,rfl,ty,e,q];erw[C9 r,u,u',rfl,ru,U];rw[U,0];subst Z;exact vf (n:=1) I.tk (EL I ru ty e λtk htk=>(.bl b,H,I.tok tk,1,q))
def sW:∀bs:oj Bool,(Vq ↑bs).all (λi=>bs.getD i v_)=bs.all id
 | []=>rfl|b::r=>by
  rw[um,Rv,vN,UV,vN];let e:(Vq ↑r).all ((λi=>(b::r).getD i v_)∘rQ)=(Vq ↑r).all λi=>r.getD i true:=by
   congr 1
  rw[e,sW r]
  rfl
def zi (hc:X.calm=v_):YM X (.builtin "all") (λxs H Q=>∃(p:o3) (bs:oj Bool),xs= [-p]/\SqL X.K H p (bs.map V.bl)/\Q (.bl (bs.all id)) H):=by
 rw[2,xs,us,Q,I,r,h];erw[h,p,bs,rfl,hp,q];erw[Jc r,u,rfl,ru];rw[ru,0];erw[I.list hp,its,rv,pl,hz];let ac:p<#[0,s]:=by erw[pl,o,n,e,_,<-uI e]
 refine vf (n:=1) I.tk ?_;refine call_all_walk (V5 pl.isList ?_);let up:∀b o,s.heap.get? b=u_ o->(s.heap.push {cls:= .type "list_iterator",data:= .fields #[-p,.int 0 0]}).get? b=u_ o:=λb o e=>ud _ e;let hl:↑its=↑bs:=by have:=↑rv;simpa using this.symm
 rw[_,#[0,s],_,_,_,_,_,λi=>bs.getD i v_,1,Walks.list (show X.A.in1.handled=U_ from I.ok.hd hc) #[0,s] p (uY ac) its.toArray,[(_,uH _ rfl,1,1):pl.isList.push _],?_,?_]
 .intro i v s' Q' E' hv hQ;let U:its[i]? =u_ v:=by simpa using hv
  let hi:i<↑its:=(Ag.mp U).1;obtain⟨u,e1,e2⟩:=rv.get (i:=i) (x:= .bl (bs[i]'())) (by simp[show i<bs.length by omega])
  rw[U,0] at e1;rw[e2,0];have:bs.getD i v_=bs[i]'():=by simp[GN,show i<bs.length by omega]
  let Z:Q' (bs.getD i v_) s':=hQ;rw[this] at Z;exact vE Z
 .intro h' tk kk htk;let aa:(Vq its.toArray.size).all (λi=>bs.getD i v_)=bs.all id:=by
   rw[uB,hl];exact sW bs
  rw[aa];let I1:=I.kept (t':=s.toks) (h':=s.heap.push {cls:= .type "list_iterator",data:= .fields #[-p,.int 0 0]}) up;let ad:=I.fpOk (uq _) (I.hok.fresh (uq #[0,s]));erw[ad,f0,f1,f2,f3,f4,f5,<-(.bl (bs.all id),H,I1.turned (it:=#[0,s]) (λb o hb e=>kk b o (by simpa using hb) e) f0 f1 f3 f4 f5,1,q)]
end
section
variable {X:Cx}
def K0 {x:Str}{i:Int}{pos:Pos}(U:Gl X x)(hm:∃t,X.mg x=u_ (.int i t))(hd:(x==("__debug__":Str))=Vd):PE X (.Name x pos) (tC (.int i)):=by
 erw[hm,t,hm,<-Aw U hm [t:1] hd]
def Abj {x z:Str}{pos:Pos}(U:Gl X x)(hm:∃t,X.mg x=u_ (.str z t))(hd:(x==("__debug__":Str))=Vd):PE X (.Name x pos) (tC (!z)):=by
 erw[hm,t,hm,<-Aw U hm [t:1] hd]
def pe_gR {x:Str}{a:o3}{pos:Pos}(U:Gl X x)(hm:X.mg x=u_ (-a))(hd:(x==("__debug__":Str))=Vd):PE X (.Name x pos) (tC (-a)):=Aw U hm rfl hd
end
variable {H:Hp}{p:o3}
def qf (h:H p=U_)(o:HO):ic H (upd H p o):=λb u q=>by rw[qi (qk q h)];exact q
abbrev iE (p:o3)(H H':Hp):Prop:=∀b o,H b=u_ o->b≠p->H' b=u_ o
variable {H1 H2:Hp}
def iE.trans (a:iE p H H1)(b:iE p H1 H2):iE p H H2:=λc o h n=>b c o (a c o h n) n
def iE.upd (p:o3)(H:Hp)(o:HO):iE p H (L2.upd H p o):=λb u h n=>by rw[qi n];exact h
variable {H':Hp}
def iE.same (k:iE p H1 H')(s:ic H H1)(n:H p=U_):ic H H':=λb o h=>k b o (s b o h) (qk h n)
def yT {α:Type}{xs:oj α}{i:Int}(h0:0<=i)(h1:i<↑xs):∃c,atI xs i=u_ c:=by
 obtain⟨n,rfl⟩:∃n:Nat,i=(n:Int):=[i.toNat:()]
 let hn:n<↑xs:=by omega
 exact[xs[n]:qF (ug hn)]
abbrev nB (cells:oj (Str×o3)):oj (Str×VT)->oj (Str×o3)->oj (Str×o3)
 | [],cs=>cs|(n,k)::r,cs=>nB cells r (if k== .free then(match cells.lookup n with|some a=>(n,a)::cs|none=>cs) else cs)
set_option tactic.hygienic true in
def qax {cells:oj (Str×o3)}:∀{names:oj (Str×VT)}{cs:oj (Str×o3)},(∀y c,cs.lookup y=u_ c->cells.lookup y=u_ c)->∀y c,(nB cells names cs).lookup y=u_ c->cells.lookup y=u_ c
 | [],_,h=>h|(n,k)::r,cs,h=>by
  unfold nB;refine qax λy c e=>?_;split at e
  .split at e
   .rename_i a ha
    rw[vw] at e;split at e
    .rename_i Z
     let U:y=n:=beq_iff_eq.mp Z;subst U;rw[e,0];exact ha
    .exact h y c e
   .exact h y c e
  .exact h y c e
def sM {cells:oj (Str×o3)}:∀{names:oj (Str×VT)}{cs:oj (Str×o3)}{y:Str},(∃c,cs.lookup y=u_ c)->∃c,(nB cells names cs).lookup y=u_ c
 | [],_,_,h=>h|(n,k)::r,cs,y,h=>by
  unfold nB;refine sM ?_;split
  .split
   .rw[vw];split
    .exact⟨0⟩
    .exact h
   .exact h
  .exact h
def Kt {cells:oj (Str×o3)}:∀{names:oj (Str×VT)}{cs:oj (Str×o3)}{y:Str},(y,Vv)>names->(∃c,cells.lookup y=u_ c)->∃c,(nB cells names cs).lookup y=u_ c
 | [],_,_,h,_=>nomatch h|(n,k)::r,cs,y,h,U=>by
  unfold nB;rcases Ab.mp h with e|h
  .rw[e,0];refine sM ?_;erw[U,c,U];rw[A6 (),U]
   exact⟨c,by simp[vw]⟩
  .exact Kt h U
def Zf {env:Env}:∀{names:oj (Str×VT)}{cs:oj (Str×o3)},(∀y,(y,Vv)>names->∃c,env.cells.lookup y=u_ c)->
  (VY names cs λx r=>(do
   if x.2== .free then
    let a<-HE env x.1
    pure (GP ((x.1,a)::r))
   else pure (GP r):Sem (ForInStep (oj (Str×o3)))))=(pure (nB env.cells names cs):Sem (oj (Str×o3)))
 | [],cs,_=>rfl|(n,k)::r,cs,h=>by
  rw[UF];let hr:∀y,(y,Vv)>r->∃c,env.cells.lookup y=u_ c:=λy hy=>h y (uh _ hy);unfold nB;by_cases U:(k==Vv)=v_
  .let Z:k= .free:=by simpa using U
   subst Z;erw[h n uj,c,hc];let e:HE env n=pure c:=by unfold HE;rw[hc]
   simp![U,Vc,e,hc,T1];exact Zf hr
  .simp![A4 U,T1];exact Zf hr
def kZ {scope:Vw}{env:Env}(h:∀y,(y,Vv)>scope.names->∃c,env.cells.lookup y=u_ c):HV scope env=pure (nB env.cells scope.names []):=by
 unfold HV;let q:=Zf (cs:= []) h;show(VY scope.names ([]:oj (Str×o3)) (λx r=>(do
   if x.2== .free then
    let a<-HE env x.1
    pure (GP ((x.1,a)::r))
   else pure (GP r):Sem (ForInStep (oj (Str×o3)))))>>=λcs=>pure cs)=_
 rw[q,T1]
def Z0 {env:Env}(hf:env.scope.kind= .function):∀{names:oj (Str×VT)}{x:Str},names.lookup x=u_ .free->env.kindOf x=u_ .cell->
  (names.map λ(n,k)=>if(k==Vv&&env.scope.kind== .function&&env.kindOf n==u_ .cell) then(n,Gg) else(n,k)).lookup x=u_ .cell
 | [],_,h,_=>by simp at h|(n,k)::r,x,h,hc=>by
  let ih:= @Z0 env hf r x;show VB x ((if(k==Vv&&env.scope.kind== .function&&env.kindOf n==u_ .cell)=v_ then(n,Gg) else(n,k))::_)=_
  cases U:x==n with
  |true=>
   simp![vw,U] at h;rw[h,0];let aa:x=n:=beq_iff_eq.mp U;subst aa;rw[A6 (by rw[hf,hc];rfl)]
   simp[vw]
  |false=>
   simp![vw,U] at h;by_cases Z:(k==Vv&&env.scope.kind== .function&&env.kindOf n==u_ .cell)=v_
   .rw[A6 Z];simp![vw,U];exact ih h hc
   .rw[A4 Z];simp![vw,U];exact ih h hc
def wN {env:Env}:∀{names:oj (Str×VT)}{x:Str},(∀y>names,y.2≠ .cell)->
  ((names.map λ(n,k)=>if(k==Vv&&env.scope.kind== .function&&env.kindOf n==u_ .cell) then(n,Gg) else(n,k)).lookup x=u_ .cell\/
   (names.map λ(n,k)=>if(k==Vv&&env.scope.kind== .function&&env.kindOf n==u_ .cell) then(n,Gg) else(n,k)).lookup x=u_ .free)->(x,Vv)>names
 | [],_,_,h=>by simp at h|(n,k)::r,x,hn,h=>by
  let ih:= @wN env r x (λy hy=>hn y (uh _ hy));let g:VB x ((if(k==Vv&&env.scope.kind== .function&&env.kindOf n==u_ .cell)=v_ then(n,Gg) else(n,k))::(r.map λ(n,k)=>if(k==Vv&&env.scope.kind== .function&&env.kindOf n==u_ .cell) then(n,Gg) else(n,k)))=u_ .cell\/
   VB x ((if(k==Vv&&env.scope.kind== .function&&env.kindOf n==u_ .cell)=v_ then(n,Gg) else(n,k))::(r.map λ(n,k)=>if(k==Vv&&env.scope.kind== .function&&env.kindOf n==u_ .cell) then(n,Gg) else(n,k)))=u_ .free:=h
  let aa:k≠ .cell:=hn (n,k) uj;by_cases hc:(k==Vv&&env.scope.kind== .function&&env.kindOf n==u_ .cell)=v_
  .rw[A6 hc] at g;let hk:k= .free:=by
    rw[uF,uF] at hc
    simpa using hc.1.1
   subst hk;cases Z:x==n with
   |true=>
    let U:x=n:=beq_iff_eq.mp Z;subst U;exact uj
   |false=>
    simp![vw,Z] at g;exact uh _ (ih g)
  .rw[A4 hc] at g;cases Z:x==n with
   |true=>
    let U:x=n:=beq_iff_eq.mp Z;subst U;simp![vw,Z] at g;rcases g with g|g
    .exact A8 (uN g) aa
    .rw[show k=Vv from uN g]
     exact uj
   |false=>
    simp![vw,Z] at g;exact uh _ (ih g)
nonrec abbrev blk (X:Cx)(scope:Vw)(Nb:oj Str)(cl:oj (Str×o3))(C:o3)(s₀:o7)(H₀:Hp)(fp:oj o3)(pn:oj (o3×Obj)):Cx:=
 {X with N:=Nb,s₀:=s₀,H₀:=H₀,env:=Ti scope cl C X.env,outer:=X.stack,ex:=fp,fn:=λ_=>Vd,pn:=pn,xe:=λ_ _=>False}
structure LcS (X:Cx)(scope:Vw)(Nb:oj Str)(nt:Nat)(fr:oj Nat):Prop where
 kind:scope.kind= .function
 cell:∀y>scope.names,y.2≠ .cell
 names:∀y>scope.names,y.2= .local->scope.names.lookup y.1=u_ .local
 free:∀y>scope.names,y.2= .free->X.env.kindOf y.1=u_ .cell
 len:↑Nb=nt+↑fr
 fr:∀(k j:Nat) (x:Str),fr[k]? =u_ j->Nb[nt+k]? =u_ x->X.N[j]? =u_ x/\scope.names.lookup x=u_ .free
abbrev OU (nt:Nat)(fr:oj Nat)(σ:St):St:=Rq nt U_++fr.map λj=>(σ[j]?).join
section
variable {pr:o9}{wo:og}{ar:oh}{RR:GM->o7->Prop}{st:o7}
nonrec abbrev nb (pr:o9)(wo:og)(ar:oh)(en:Env)(RR:GM->o7->Prop):o6->o7->Prop:=notedBy (Vt pr wo) ar en λx t=>RR (.error x) t
nonrec abbrev AdN (en:Env)(cs:oj Expr):Sem Bool:=VY cs v_ λc b=>if b=v_ then do let y<-isTrue c en (eval c en);pure (GP y) else pure (GP b)
def AY {el tg aa:Expr}{cs:oj Expr}{sc:Vw}{ps:Pos}{U Z:o6}{en:Env}(J:Nat->o7->Prop)
  (ac:∀k t,J k t->Ve (Vt pr wo) ar (VH U) (λr t1=>match r with
   |none=>RR (.ok .next) t1|some v=>Ve (Vt pr wo) ar (Hr tg U v) (λ_ t2=>Ve (Vt pr wo) ar (Ge tg en v) (λ_ t3=>Ve (Vt pr wo) ar (AdN en cs) (λb t4=>
     if b=v_ then Ve (Vt pr wo) ar (eval el en) (λx t5=>Ve (Vt pr wo) ar (call (.builtin "list.append") [Z,x]) (λ_ t6=>∃m,m<k/\J m t6) (nb pr wo ar en RR) t5) (nb pr wo ar en RR) t4
     else∃m,m<k/\J m t4) (nb pr wo ar en RR) t3) (nb pr wo ar en RR) t2) (nb pr wo ar en RR) t1) (nb pr wo ar en RR) t)
  (k:Nat) (h0:J k st):VN (Vt pr wo) ar (.compLoop (.ListComp el [(tg,aa,cs,(0))] sc ps) 0 U Z en) RR st:=by
 refine codeAny_loop rfl J (λk t hJ=>?_) k h0;show Ve _ ar ((compTurn (.ListComp el [(tg,aa,cs,(0))] sc ps) 0 U Z en).onRaise λx=>do noteFrame x en;theTreesLotGoes x) _ _ t
 rw[compTurn_list];refine wpAny_noted (A7 (HR (A7 (thn (ac k t hJ) λr t1 q1=>?_))));cases r with
 |none=>exact uE q1|some v=>
  refine A7 (thn q1 λ_ t2 q2=>A7 (thn q2 λ_ t3 q3=>A7 (thn q3 λb t4 q4=>?_)));cases b with
  |false=>exact uE [1:q4]|true=>exact A7 (A7 (thn q4 λx t5 q5=>A7 (thn q5 λ_ t6 q6=>uE (uE [1:q6]))))
end
abbrev Aci (X:Cx)(ifs:oj Expr)(t:TT):Prop:=
 ∀(oq:oj (o3×Obj)) (s:o7) (σ:St) (H:Hp) (Q:Bool->Hp->Prop),#[I]->t σ H Q->Ve #[X,X] X.A (AdN X.env ifs) (TP X oq σ Q) X.xe s
abbrev nH:TT:=λ_ H Q=>Q v_ H
def yd {X:Cx}:Aci X [] nH:=λ_ _ _ H _ I h=>wpAny_tests_nil [H:I:h]
def Pj {X:Cx}{c:Expr}{t:TT}(h:PT X c t):Aci X [c] t:=λoq s σ H Q I U=>wpAny_tests_one (h oq s σ H Q I U)
abbrev AJ (D:o3)(J:It)(g:TG)(tc:TT)(te:TE)(σb:St)(H1:Hp)(Q:VK):Prop:=
 ∃(n:Nat) (W:Nat->St->oj V->Hp->Prop),n<=Vh/\W 0 σb [] (upd H1 D (.lst []))/\
  (∀i σ ys H,i<n->W i σ ys H->H D=u_ (.lst ys)->↑ys<=i->J.go i H/\∀x H',J.yld i H x H'->g x σ H' λσ2 H2=>tc σ2 H2 λb H3=>
   if b=v_ then te σ2 H3 λy H4=>H4 D=u_ (.lst ys)/\W (i+1) σ2 (ys++ [y]) (upd H4 D (.lst (ys++ [y]))) else H3 D=u_ (.lst ys)/\W (i+1) σ2 ys H3)/\
  ∀σ ys H,W n σ ys H->H D=u_ (.lst ys)->J.stop n H/\Q (-D) H
abbrev tLC (nt:Nat)(fr:oj Nat)(wi:TI)(g:TG)(tc:TT)(te:TE):TE:=λσ H Q=>wi σ H λJ H1=>∀D,H1 D=U_->AJ D J g tc te (OU nt fr σ) H1 Q
section
variable {X:Cx}{scope:Vw}{Nb:oj Str}{nt:Nat}{fr:oj Nat}
def SB {oq:oj (o3×Obj)}{σ:St}{H:Hp}{s:o7}{fp:oj o3}{C:o3}{h4:o8}{tk:Nat}(S:LcS X scope Nb nt fr)(I:#[I])(hC:C=#[0,s])
  (ah:h4.Ns C λ_=>U_) (Z:∀b o,s.heap.get? b=u_ o->h4.get? b=u_ o) (hf:∀b>fp,Bd X oq H b) (ho:∀b>fp,∃o,s.heap.get? b=u_ o) (ht:0<tk:=by ac_rfl):
  Inv (blk X scope Nb (nB X.env.cells scope.names []) C s H fp (X.pn++oq)) [] (OU nt fr σ) H {s with heap:=h4,toks:=tk}:=by
 subst hC;let sub:∀y c,(nB X.env.cells scope.names []).lookup y=u_ c->X.env.cells.lookup y=u_ c:=qax λy c e=>by simp at e
 let aa:∀y,(y,Vv)>scope.names->X.env.kindOf y=u_ .cell:=λy hy=>S.free _ hy rfl;let ae:∀b o,s.heap.get? b=u_ o->b≠#[0,s]:=λb o e z=>by rw[z] at e;exact A8 (uI e) (vM _)
 let U:∀b,b≠X.env.locals->b∉X.fs->b∉frs X.stack:=λb h1 h2 z=>(Ab.mp (I.stkSub b z)).elim h1 h2;rw[_,(I.ok.mod,S.kind,I.ok.glob,I.ok.blt,uq _,λx y c h1 h2=>I.ok.inj x y c (sub x c h1) (sub y c h2),λx hx=>?_,λx c z=>(by rw[z,0]),I.ok.hd,I.ok.frames,.inl rfl,λb hb=>?_,I.bs,vb I.ok.bsz I.sz,λb o e hb=>?_,λb hb=>?_,I.stack,I.stkFree),1,I.bare,Un.kept Z,[_:ah:λi x v e1 e2 e3=>?_],λx c e=>?_,I.hok.fresh (uq _),λx c e=>I.freeC x c (sub x c e),λp hp=>?_,I.hok.kept Z,?_,ht]
 .let hm:=wN (env:=X.env) S.cell hx;exact Kt hm (I.ok.has x (.inl (aa x hm)))
 .erw[ho b hb,o,e,<-[ae b o e:λx c e'=>(hf b hb).2.2.2.2.1 x c (sub x c e')]]
 .rcases(hf b hb).2.2.2.1 with z|z
  .exact I.ok.noex b o e z
  .exact A8 (Vs (uI e) (vb I.ok.bsz z)) (vM _)
 .exact U b (hf b hb).2.1 (hf b hb).2.2.1
 ·
  let hi:nt<=i:=by
   rcases Hc i nt with z|z
   .unfold OU at e2;rw[UQ (by simpa using z),Rh] at e2
    split at e2<;>cases e2
   .exact z
  obtain⟨k,rfl⟩:∃k,i=nt+k:=[i-nt:()]
  unfold OU at e2;rw[UP (by simp)] at e2
  simp![rB,Nat.add_sub_cancel_left,uK] at e2;cases ej:fr[k]? with
  |none=>rw[ej,0] at e2|some j=>
   rw[ej] at e2;let ac:(σ[j]?).join=u_ v:=uN e2;let af:σ[j]? =u_ (u_ v):=by
    cases q:σ[j]? with
    |none=>rw[q,0] at ac|some z=>rw[q] at ac;exact Aa u_ ac
   erw[S.fr k j x ej e1,n1,n2];let kx:X.env.kindOf x=u_ .cell:=aa x (vU n2);erw[I.loc,m,hn,hl];erw[hl j x v n1 af (.inr (.inl kx)),u,r,l];rw[_,u,r,.inr [.inl (Z0 I.ok.kind n2 kx):?_]];rcases l with⟨z,_⟩|⟨_,c,ec,ad⟩
   .rw[kx,0] at z
   .erw[Kt (cells:=X.env.cells) (cs:= []) (vU n2) [c:ec],c',ag];have:=sub x c' ag;rw[ec,0] at this;erw[ad,o,q,d,<-(c,ag,o,Z c o q,d)]
 .erw[I.cell x c (sub x c e),v,o,q,d,<-(v,o,Z c o q,d)]
 .let ak:p>X.pn++oq:=by simpa using hp
  erw[I.pin p ak,e,n,ne,nf,d,<-(Z _ _ e,n,ae _ _ e,U _ ne nf,d)]
 .show(OU nt fr σ).length=↑Nb;unfold OU;rw[S.len];simp
def ED {tg ac am:Expr}{ao:oj Expr}{wi:TI}{g:TG}{tc:TT}{te:TE}{pos:Pos}{R:o6->o3->GM->o7->Prop}{oq:oj (o3×Obj)}{s:o7}{σ:St}{H:Hp}{Q:VK}(S:LcS X scope Nb nt fr)(ap:X.calm=v_)(hi:PI X tg ac wi)
  (hg:∀cl C s₀ H₀ fp pn,PG (blk X scope Nb cl C s₀ H₀ fp pn) tg g) (hc:∀cl C s₀ H₀ fp pn,Aci (blk X scope Nb cl C s₀ H₀ fp pn) ao tc) (he:∀cl C s₀ H₀ fp pn,PE (blk X scope Nb cl C s₀ H₀ fp pn) am te)
  (I:#[I]) (h:tLC nt fr wi g tc te σ H Q)
  (hR:∀(D C:o3) (H':Hp) (s1:o7) (m:Str->om o6),Inv X oq σ H' s1->s1.heap.Ns C m->Bd X oq H' C->Q (-D) H'->R (-D) C (.ok .next) s1):
  Ve #[X,X] X.A (eval ac X.env) (λx s₁=>Ve #[X,X] X.A (Hz x) (λit s₂=>Ve #[X,X] X.A (tj []) (λay s₃=>
   Ve #[X,X] X.A (tP scope X.env.globals (nB X.env.cells scope.names []) [] X.env.qual U_ .none (u_ X.env)) (λah s₄=>
    VN #[X,X] X.A (.compStart (.ListComp am [(tg,ac,ao,(0))] scope pos) 0 it ay {ah with scope:=relabel scope X.env}) (R ay ah.locals) s₄) X.xe s₃) X.xe s₂) X.xe s₁) X.xe s:=by
 refine thn (hi oq s σ H _ I h) λv s1 h1=>thn h1 λaT s2 h2=>?_;erw[h2,it,fp,tn,J,H2,e,I2,T,aq,f2,q2];subst e;let aA:H2 #[0,s2]=none:=I2.hok.fresh (uq _);erw[q2 _ aA,n,W,hn,w0,step,fin];generalize hD:#[0,s2]=D at*;refine vF ?_;rw[hD];let I3:Inv X oq σ (upd H2 D (.lst [])) {s2 with heap:=s2.heap.push {cls:= .type "list",data:= .seq ([]:oj o6).toArray}}:=by
  have:=I2.lnew (ys:= []) (its:= []) (t':=s2.toks) .nil (uS _);rwa[hD] at this
 refine wpAny_newFunctionEnv S.cell (by intro y hy;simp at hy) (λh4 ae au=>?_) S.kind
 dsimp only at ae au⊢;generalize aB:s2.heap.push {cls:= .type "list",dict:=U_,data:= .seq ([]:oj o6).toArray}=h3 at ae au I3⊢;let hC:h3.objs.size=D+1:=by rw[<-aB,vq,hD]
 let af:∀b o,h3.get? b=u_ o->h4.get? b=u_ o:=λb o e=>au.extBut b o (uY (uI e)) (ud _ e);let aa:∀b o,s2.heap.get? b=u_ o->h3.get? b=u_ o:=λb o e=>by rw[<-aB];exact ud _ e
 let aw:∀b>fp,∃o,s2.heap.get? b=u_ o:=λb U=>let⟨o,e,_⟩:=T.obj _ _ aq b U;[o:e];let aH:∀b>fp,b≠D:=λb U z=>by
  erw[aw b U,o,e];let q:=uI e;rw[z,hD] at q;exact vM _ q
 let f3:∀b>fp,Bd X oq (upd H2 D (.lst [])) b:=λb U=>⟨by rw[qi (aH b U)];exact(f2 b U).1,(f2 b U).2⟩
 let IB:=SB (C:=h3.objs.size) (h4:=h4) (tk:=s2.toks+↑([]:oj (Str×o6))) (fp:=fp) S I3 rfl ae af f3 λb U=>let⟨o,e⟩:=aw b U;[o:aa b o e];generalize Z:blk X scope Nb (nB X.env.cells scope.names []) h3.objs.size {s2 with heap:=h3} (upd H2 D (.lst [])) fp (X.pn++oq)=Xb at IB
 let gB:=hg (nB X.env.cells scope.names []) h3.objs.size {s2 with heap:=h3} (upd H2 D (.lst [])) fp (X.pn++oq)
 let cB:=hc (nB X.env.cells scope.names []) h3.objs.size {s2 with heap:=h3} (upd H2 D (.lst [])) fp (X.pn++oq)
 let eB:=he (nB X.env.cells scope.names []) h3.objs.size {s2 with heap:=h3} (upd H2 D (.lst [])) fp (X.pn++oq)
 rw[Z] at gB cB eB;let xP:Xb.prog=X.prog:=by rw[<-Z]
 let xW:Xb.w=X.w:=by rw[<-Z]
 let xK:Xb.K=X.K:=by rw[<-Z]
 let xA:Xb.A=X.A:=by rw[<-Z]
 let xC:Xb.calm=true:=by rwa[<-Z]
 let xE:Xb.env=Ti scope (nB X.env.cells scope.names []) h3.objs.size X.env:=by rw[<-Z]
 let xX:Xb.xe=λ_ _=>False:=by rw[<-Z]
 let ag:∀{H':Hp},(∀b>fp,H' b=U_)->∀b>fp,Bd Xb [] H' b:=λhn b U=>by
  erw[f2 b U,g1,g2,g3,g4,g5,g6];erw[aw b U,o,e];subst Z;rw[_,hn b U,λz=>?_,λz=>(Ab.mp (I2.stkSub b z)).elim g2 g3,.inl U,λx c ec=>g5 x c (qax (λy c e=>by simp at e) x c ec),λp hp=>g6 p (by simpa using hp)]
  let ad:=uI (aa b o e);let z':b=h3.objs.size:=z;rw[z'] at ad;exact vM _ ad
 let ak:∀s5:o7,s5={s2 with heap:=h4,toks:=s2.toks+↑([]:oj (Str×o6))}->
   VN #[X,X] X.A (.compLoop (.ListComp am [(tg,ac,ao,(0))] scope pos) 0 (-it) (-D) (Ti scope (nB X.env.cells scope.names []) h3.objs.size X.env))
    (R (-D) h3.objs.size) s5:=by
  rintro s5 rfl;refine AY (λk s'=>∃i σ' ys H',Inv Xb [] σ' H' s'/\tn i s'.heap/\(∀b>fp,H' b=U_)/\H' D=u_ (.lst ys)/\i<=n/\k=n-i/\↑ys<=i/\W i σ' ys H') ?_ n
   ((0),OU nt fr σ,[],_,IB,T.keep _ _ _ aq λb U o e=>af b o (aa b o e),λb U=>(f3 b U).1,qg,uS _,1,uq _,w0)
  rintro k s' ⟨i,σ',ys,H',I',aC,aD,aE,aI,rfl,aJ,w'⟩;rcases Hc i n with ad|aK
  .erw[step i σ' ys H' ad w' aE aJ,go,next];let ti:=T.item Xb xP xW xK xC i [] s' σ' H' (λ_ _=>False) I' (ag aD) aC go;rw[xA] at ti;refine vz ti (λr s1 h1=>?_) λ_ _ z=>z.elim;erw[h1,u,rfl,h1];refine vz h1 (λ_ aF aL=>?_) λ_ _ z=>z.elim;erw[aL,x,H5,I5,r5,y5,ax,aM];let aN:=I5.pinned (ag aM) (T.obj _ _ ax);let ga:=gB _ aF σ' H5 x u _ aN r5 (next x H5 y5);rw[xP,xW,xA,xE,xX] at ga;refine vz ga (λ_ s3 aO=>?_) λ_ _ z=>z.elim;erw[aO,σ6,H6,I6,q6];let ca:=cB _ s3 σ6 H6 _ I6 q6;rw[xP,xW,xA,xE,xX] at ca;refine vz ca (λok s4 aP=>?_) λ_ _ z=>z.elim;erw[aP,H7,I7,q7];let al:∀{σ8:St}{H8:Hp}{s8:o7},Inv Xb ([]++oA fp aF.heap) σ8 H8 s8->Inv Xb [] σ8 H8 s8/\tn (i+1) s8.heap/\∀b>fp,H8 b=none:=λ{σ8 H8 s8} I8=>by
    rw[_,I8.unpinned,T.keep _ _ _ ax λb U o e=>(I8.pin (b,o) (uR _ (uR _ (xt U e)))).1,λb U=>?_];erw[T.obj _ _ ax b U,o,e,d,<-(I8.pin (b,o) (uR _ (uR _ (xt U e)))).2.1]
   cases ok with
   |false=>
    rw[A4 uf] at q7⊢;erw[al I7,b1,b2,b3,<-(n-(i+1),(),i+1,σ6,ys,H7,b1,b2,b3,q7.1,ad,1,(),q7.2)]
   |true=>
    rw[A6 rfl] at q7⊢;let ea:=eB _ s4 σ6 H7 _ I7 q7;rw[xP,xW,xA,xE,xX] at ea;refine vz ea (λy s5 h5=>?_) λ_ _ z=>z.elim;erw[h5,yv,H8,I8,r8,aQ,q8];let ma:=jK (X:=Xb) _ s5 σ6 H8 (-D) [yv] (-D) [y] (λ_ H9=>H9=upd H8 D (.lst (ys++ [yv]))) I8 rfl (.cons r8 .nil) (D,ys,yv,1,1,aQ,(),1)
    rw[xP,xW,xA,xX] at ma;refine vz ma (λ_ s6 h6=>?_) λ_ _ z=>z.elim;erw[h6,_,H9,I9,_,rfl];erw[al I9,b1,b2,b3,<-(n-(i+1),(),i+1,σ6,ys++ [yv],_,b1,b2,b3,qg,ad,1,by rw[uw,Ue];omega,q8)]
  .let aG:i=n:=Nat.le_antisymm aI aK;subst aG;erw[fin σ' ys H' w' aE,stop,hq];let td:=T.done Xb xP xW xK xC i [] s' σ' H' (λ_ _=>False) I' (ag aD) aC stop;rw[xA] at td;refine vz td (λr s1 h1=>?_) λ_ _ z=>z.elim;erw[h1,rfl,I6];erw[id I6.loc,m,hm,_];rw[xE] at hm;let aR:H' h3.objs.size=none:=by have:=I6.free;rwa[xE] at this
   let u6:Un (frs X.stack) fp (upd H2 D (.lst [])) H' h3 s1.heap:=by have:=I6.base;subst Z;exact this
   let u2:Un (frs X.stack) fp H2 (upd H2 D (.lst [])) s2.heap h3:=Un.laid (λb o e=>aa b o e) (by rw[hD];exact uq _) aA
   let aS:s1.os=s2.os:=by have:=I6.os;subst Z;exact this
   let hok:HOk X.prog X.w H' s1.heap:=by
    have:=I6.hok;subst Z;exact this
   refine hR D h3.objs.size H' s1 m (I2.call' (s':=s1) (ch:=fp) aS (u2.trans u6) hok I6.bare λb U=>?_) hm (I2.fpOk () aR) hq
   erw[f2 b U,g1,g2,g3,g4,g5,g6,<-(g4,g2,g5,g6)]
 exact codeAny_compStart_list (ak _ rfl) (T.self _ 0 _ _ _ (T.keep _ _ _ aq λb U o e=>af b o (aa b o e)) (ak _ rfl))
def XI {tg U ac:Expr}{ad:oj Expr}{wi:TI}{g:TG}{tc:TT}{te:TE}{pos:Pos}(S:LcS X scope Nb nt fr)(Z:X.calm=v_)(hi:PI X tg U wi)
  (hg:∀cl C s₀ H₀ fp pn,PG (blk X scope Nb cl C s₀ H₀ fp pn) tg g) (hc:∀cl C s₀ H₀ fp pn,Aci (blk X scope Nb cl C s₀ H₀ fp pn) ad tc) (he:∀cl C s₀ H₀ fp pn,PE (blk X scope Nb cl C s₀ H₀ fp pn) ac te)
  (hs:∀x,t_ U X.env x=pure x):PE X (.ListComp ac [(tg,U,ad,(0))] scope pos) (tLC nt fr wi g tc te):=by
 rw[2,Q,I,h];let aa:HV scope X.env=pure (nB X.env.cells scope.names []):=kZ λy hy=>I.ok.has y (.inl (S.free _ hy rfl));rw[eval_ListComp];refine Fg (use:=U_) rfl hs aa S.kind S.names ?_;refine ED (R:=λae C=>compPost #[X,X] X.A X.xe U_ (EP X oq σ Q) ae C) S Z hi hg hc he I h λD C H' s1 m I1 hm fc q=>?_;erw[fc,f0,f1,f2,f3,f4,f5,<-[m:hm:λh' af=>(-D,H',I1.turned (t':=s1.toks) (it:=C) (λb o hb e=>(af.2 b hb).trans e) f0 f1 f3 f4 f5,1,q)]]
def Ky {i:Nat}{y:Str}{tg U Z:Expr}{aa:oj Expr}{wi:TI}{g:TG}{tc:TT}{te:TE}{pos ac py:Pos}(hN:X.N.Nodup)(af:X.N[i]? =u_ y)(hy:Loc X.env.scope y)(S:LcS X scope Nb nt fr)(ad:X.calm=v_)(hi:PI X tg U wi)
  (hg:∀cl C s₀ H₀ fp pn,PG (blk X scope Nb cl C s₀ H₀ fp pn) tg g) (hc:∀cl C s₀ H₀ fp pn,Aci (blk X scope Nb cl C s₀ H₀ fp pn) aa tc) (he:∀cl C s₀ H₀ fp pn,PE (blk X scope Nb cl C s₀ H₀ fp pn) Z te)
  (hs:∀x,t_ U X.env x=pure x) (ag:GV (.ListComp Z [(tg,U,aa,(0))] scope pos) (u_ (.Name y py)) ac.line X.env=pure v_)
  (hf:X.fn y=v_\/X.env.scope.names.lookup y=u_ .local):
  PS X (.Assign [.Name y py] (.ListComp Z [(tg,U,aa,(0))] scope pos) ac) (AcU (tLC nt fr wi g tc te) (YD i)):=by
 rw[2,D,I,h];let ae:HV scope X.env=pure (nB X.env.cells scope.names []):=kZ λy hy=>I.ok.has y (.inl (S.free _ hy rfl));rw[exec_Assign_Name_used _ _ _ _ ag];refine A7 (HR (A7 ?_));show Ve _ X.A (do let _<-comprehension (.ListComp Z [(tg,U,aa,(0))] scope pos) scope X.env _ (tj []) Vd (eval U X.env) (u_ (Ge (.Name y py) X.env))) _ _ s
 refine A7 (vz (Fg (use:=u_ (Ge (.Name y py) X.env)) (Q:=λ_ s'=>SP X oq D .next s') rfl hs ae S.kind S.names ?_) (λ_ s' hq=>uE (uE hq)) λ_ _ e=>e);refine ED (R:=λah C=>compPost #[X,X] X.A X.xe (u_ (Ge (.Name y py) X.env)) (λ_ s'=>SP X oq D .next s') ah C) S ad hi hg hc he I h λA C H' s1 m I1 hm fc q=>?_;erw[fc,f0,f1,f2,f3,f4,f5];show Ve _ X.A (Ge (.Name y py) X.env (-A)) _ _ s1;refine p6 (nQ (v:=-A) I1 hN af hy (show ik (-A) (-A) from rfl) (λs' I' zq=>?_) hf);erw[zq,a,sb,ha]
 let ak:C≠a:=by
  rcases ha with rfl|ha
  .exact f1
  .exact λz=>f4 y a ha z.symm
 refine[m:hm.sameBut sb ak:λh' al=>(_,H',I'.turned (t':=s'.toks) (it:=C) (λb o hb e=>(al.2 b hb).trans e) f0 f1 f3 f4 f5,q)]
end
def IR {X:Cx}{sc:Vw}{x:Str}(U:sc.kind= .function:=by rfl)(Z:∀y>sc.names,y.2≠ .cell:=by decide+kernel)(hn:∀y>sc.names,y.2= .local->sc.names.lookup y.1=u_ .local:=by decide+kernel)
  (hf:∀y>sc.names,y.2≠ .free:=by decide+kernel):LcS X sc [x] 1 []:=(U,Z,hn,λy hy e=>A8 e (hf y hy),1,λk j x h=>by simp at h)
def Nx {X:Cx}{sc:Vw}{Nb:oj Str}{nt:Nat}{fr:oj Nat}(U:Vw)(Z:oj Str)(hX:X.env.scope=U:=by rfl)(hN:X.N=Z:=by rfl)(hk:sc.kind= .function:=by rfl)(hc:∀y>sc.names,y.2≠ .cell:=by decide+kernel)
  (hn:∀y>sc.names,y.2= .local->sc.names.lookup y.1=u_ .local:=by decide+kernel) (hf:∀y>sc.names,y.2= .free->U.names.lookup y.1=u_ .cell:=by decide+kernel) (hl:↑Nb=nt+↑fr:=by rfl)
  (hz:((fr.zip (Nb.drop nt)).all λp=>decide (Z[p.1]? =u_ p.2)&&decide (sc.names.lookup p.2=u_ .free))=true:=by decide+kernel):LcS X sc Nb nt fr:=by
 subst hX hN;rw[_,hk,hc,hn,hf,hl,λk j x h1 h2=>?_];let hm:(fr.zip (Nb.drop nt))[k]? =u_ (j,x):=by
  rw[FT];exact⟨h1,by rwa[List.getElem?_drop]⟩
 let q:=List.all_eq_true.mp hz _ (uX hm);rw[uF] at q;exact[ur q.1:ur q.2]
def AbF {z:Str}{D:o3}{H1:Hp}{te:TE}{tl:St}{Q:VK}(f:Nat->V)(hz:↑z<=Vh)(hD:H1 D=U_)
  (U:∀(i c:Nat) H (R:VK),z.cps[i]? =u_ c->ic H1 H->R (f c) H->te (u_ (.str ⟨#[c]⟩)::tl) H R)
  (hQ:∀H',ic H1 H'->H' D=u_ (.lst (z.cps.toList.map f))->Q (-D) H'):AJ D (Its z) (YD 0) nH te (U_::tl) H1 Q:=by
 rw[_,z.cps.size,λi σ ys H=>(∃w,σ=w::tl)/\ys=(z.cps.toList.take i).map f/\ic H1 H,hz,[[U_:1]:1:qf hD _],?_,?_]
 .rintro i σ ys H hi ⟨⟨w,rfl⟩,rfl,sm⟩ Z hy;rw[_,hi];rintro x H' ⟨rfl,c,hc,rfl⟩;dsimp![YD,nH,GB];rw[A6 rfl];refine U i c H' _ hc sm (Z,[u_ (.str ⟨#[c]⟩):1],?_,?_)
  .rw[vi,show z.cps.toList[i]? =u_ c by simpa using hc]
   simp
  .intro b o e;rw[qi (qk e hD)];exact sm b o e
 .rintro σ ys H ⟨_,rfl,sm⟩ Z;rw[1,hQ H sm ?_];rw[Z,vh (by simp)]
inductive IsT (H:Hp)(p:List V->Prop)(v:V):Prop
 |mk (a:Addr)(vs:List V)(_:v=-a)(_:H a=u_ (¬vs))(_:p vs)
inductive IsC (p:V->Prop)(q:List V->Prop)(vs:List V):Prop
 |mk (v:V)(r:List V)(_:vs=v::r)(_:p v)(_:q r)
mutual
noncomputable def Is (H:Hp):D->V->Prop
 | .non,v=>v= .non| .bl b,v=>v= .bl b| .int i,v=>v= .int i| .str z,v=>v= .str z/\↑z<=Vh| .lst,v=>∃a xs,v= .ref a/\H a=u_ (.lst xs)| .dct,v=>∃a kvs,v= .ref a/\H a=u_ (.dK kvs)| .tup xs,v=>IsT H (IsL H xs) v
noncomputable def IsL (H:Hp):oj D->oj V->Prop
 | [],vs=>vs= []|x::xs,vs=>IsC (Is H x) (IsL H xs) vs
end
structure Tk (H H':Hp):Prop where
 tup:∀b xs,H b=u_ (¬xs)->H' b=u_ (¬xs)
 lst:∀b xs,H b=u_ (.lst xs)->∃ys,H' b=u_ (.lst ys)
 dct:∀b xs,H b=u_ (.dK xs)->∃ys,H' b=u_ (.dK ys)
def ic.tk (s:ic H H'):Tk H H':=[λb xs e=>s b _ e:λb xs e=>[xs:s b _ e]:λb xs e=>[xs:s b _ e]]
def Tk.refl (H:Hp):Tk H H:=(ic.refl H).tk
def Tk.trans (a:Tk H H1)(b:Tk H1 H2):Tk H H2:=⟨λc xs e=>b.tup c xs (a.tup c xs e),λc xs e=>let⟨ys,e1⟩:=a.lst c xs e;b.lst c ys e1,λc xs e=>let⟨ys,e1⟩:=a.dct c xs e;b.dct c ys e1⟩
variable {xs ys:oj V}
def iE.tk (k:iE p H H')(h:H p=u_ (.lst xs))(h':H' p=u_ (.lst ys)):Tk H H':=by
 rw[_,λb zs e=>k b _ e λz=>?_,λb zs e=>?_,λb zs e=>[zs:k b _ e λz=>?_]]
 .rw[z,h,0] at e
 .by_cases z:b=p
  .exact[ys:z▸h']
  .exact[zs:k b _ e z]
 .rw[z,h,0] at e
mutual
theorem Is.mono {H H':Hp}(t:Tk H H'):∀{d:D}{v:V},Is H d v->Is H' d v
 | .non,_,h=>h| .bl _,_,h=>h| .int _,_,h=>h| .str _,_,h=>h| .lst,_,h=>by
  erw[h,a,vs,e,ha];erw[t.lst a vs ha,ys,q,<-(a,ys,e,q)]
 | .dct,_,h=>by
  erw[h,a,vs,e,ha];erw[t.dct a vs ha,ys,q,<-(a,ys,e,q)]
 | .tup xs,_,h=>by
  erw[h,a,vs,e,ha,U,<-(a,vs,e,t.tup a vs ha,IsL.mono t U)]
theorem IsL.mono {H H':Hp}(t:Tk H H'):∀{ds:oj D}{vs:oj V},IsL H ds vs->IsL H' ds vs
 | [],_,h=>h|_::_,_,h=>by
  erw[h,v,r,e,h1,h2,<-(v,r,e,Is.mono t h1,IsL.mono t h2)]
end
def IsL.length {H:Hp}:∀{ds:oj D}{vs:oj V},IsL H ds vs->↑vs=↑ds
 | [],_,h=>by rw[show _= [] from h,0];rfl|_::_,_,h=>by
  erw[h,v,r,rfl,_,h2];rw[um,um,IsL.length h2]
def IsL.get {H:Hp}:∀{ds:oj D}{vs:oj V}{i:Nat}{d:D},IsL H ds vs->ds[i]? =u_ d->∃v,vs[i]? =u_ v/\Is H d v
 | [],_,_,_,_,e=>by simp at e|x::_,_,0,d,h,e=>by
  erw[h,v,r,rfl,h1,_];have:x=d:=by simpa using e
  exact[v:1:this▸h1]
 |_::_,_,i+1,d,h,e=>by
  erw[h,v,r,rfl,_,h2];obtain⟨u,U,e2⟩:=IsL.get (i:=i) (d:=d) h2 (by simpa using e)
  exact⟨u,by simpa using U,e2⟩
def IsL.append {H:Hp}:∀{ds es:oj D}{vs us:oj V},IsL H ds vs->IsL H es us->IsL H (ds++es) (vs++us)
 | [],_,_,_,h,k=>by rw[show _= [] from h,0];exact k|_::_,_,_,_,h,k=>by
  erw[h,v,r,rfl,h1,h2,<-(v,0,h1,IsL.append h2 k)]
def IsL.take {H:Hp}:∀{ds:oj D}{vs:oj V} (n:Nat),IsL H ds vs->IsL H (ds.take n) (vs.take n)
 |_,_,0,_=>by simp[IsL]| [],_,n+1,h=>by rw[show _= [] from h,0];simp[IsL]|_::_,_,n+1,h=>by
  erw[h,v,r,rfl,h1,h2,<-(v,0,h1,IsL.take n h2)]
def IsL.drop {H:Hp}:∀{ds:oj D}{vs:oj V} (n:Nat),IsL H ds vs->IsL H (ds.drop n) (vs.drop n)
 |_,_,0,h=>h| [],_,n+1,h=>by rw[show _= [] from h,0];simp[IsL]|_::_,_,n+1,h=>by
  erw[h,v,r,rfl,h1,h2,<-IsL.drop n h2]
variable {v:V}
def IsL.one {d:D}(h:Is H d v):IsL H [d] [v]:=(v,[],1,h,1)
variable {ds:oj D}
def Is.new {vs:oj V}(h:IsL H ds vs)(U:H p=U_):Is (upd H p (¬vs)) (¬ds) (-p):=
 (p,vs,1,qg,h.mono (qf U _).tk)
abbrev tyD:D->o6
 | .non=> .type "NoneType"| .bl _=> .type "bool"| .int _=> .type "int"| .str _=> .type "str"| .lst=> .type "list"| .dct=> .type "dict"| .tup _=> .type "tuple"
def Is.ty {d:D}(h:Is H d v):Cl K H v (tyD d):=by
 cases d with
 |non=>rw[show v= .non from h,0];exact .non|bl b=>rw[show v= .bl b from h,0];exact .bl b|int i=>rw[show v= .int i from h,0];exact .int i|str z=>
  erw[h,rfl,_,<-!z]
 |lst=>
  erw[h,a,vs,rfl,ha,<-.lst ha]
 |dct=>
  erw[h,a,vs,rfl,ha,<-.dK ha]
 |tup xs=>
  erw[h,a,vs,rfl,ha,_,<-¬ha]
section
variable {X:Cx}
def D0:OpR X (Vn .Gt) (λx y H Q=>∃i j,x= .str i/\y= .str j/\Q (.bl (decide (j.cps.toList<i.cps.toList))) H):=by
 rw[2,x,y,v,u,Q,I,U,Z,h];erw[h,i,j,rfl,rfl,q];erw[U,t,rfl];erw[Z,t',rfl,<-PySem.P.gt_str (Qo I q rfl)]
def Wo (hc:X.calm=v_):YM X (.builtin "sum") (λxs H Q=>∃(p:o3) (ns:oj Int),xs= [-p]/\SqL X.K H p (ns.map V.int)/\Q (.int ns.sum) H):=by
 rw[2,xs,us,Q,I,r,h];erw[h,p,ns,rfl,hp,q];erw[Jc r,u,rfl,ru];rw[ru,0];erw[I.list hp,its,rv,pl,hz];let hi:GH its ns:=CT rv;erw[hi.allInts.items,ys,Z];let U:s.heap.IsList p (intItems ys):=Z▸pl.isList;refine vf (n:=1) I.tk (sum_intListG (I.ok.hd hc) U λh' tk t' hk=>?_);intro htk;let e1:ns=ys.toList.map (·.1):=by
  let q1:=hi.numsOf;rw[<-nums_intItems,<-Z];exact(show numsOf its.toArray.toList=ns from q1).symm
 let e2:preSum (numAt ys) ys.size=ns.sum:=by
  rw[preSum_eq,vh (by simp),e1]
 rw[e2];exact(.int ns.sum,H,I.kept hk,[t':1],q)
inductive Abb (K:PySem.W.Frag)(x:V)(y:V)(H:Hp)(Q:VK):Prop
 |mk (a:_)(b:_)(xs:_)(_:x=-a)(_:y=-b)(_:SqT K H a xs)(_:SqT K H b [])(_:Q (.bl xs.isEmpty) H)
def qaK (Z:X.A.units<Vp):OpR X (Vn .Eq) (Abb X.K):=by
 rw[2,x,y,v,u,Q,I,rx,ry,h];erw[h,a,b,xs,rfl,rfl,ha,hb,q];rw[rx,0];rw[ry,0];erw[I.tuple ha,its,r,p,_];erw[I.tuple hb,U,r2,p2,_];rw[r2,0];refine SeqAt.eq_tupleAt (e:=λ_=>v_) p p2 Z (λj _ h2=>A8 h2 (HS _)) (.bl xs.isEmpty,H,I,?_,q);show GX _=GX _;cases r with
 |nil=>rfl|cons _ _=>simp
inductive LA (K:PySem.W.Frag)(x:V)(y:V)(H:Hp)(Q:VK):Prop
 |mk (a:_)(b:_)(xs:_)(ys:_)(_:x=-a)(_:y=-b)(_:SqT K H a xs)(_:SqT K H b ys)(_:↑xs+↑ys<=Vh)(_:(xs= []->Q (-b) H))(_:(xs≠ []->ys= []->Q (-a) H))(_:(xs≠ []->ys≠ []->∀p,H p=U_->Q (-p) (upd H p (.tup (xs++ys)))))
def YE:OpR X (VM .Add) (LA X.K):=by
 rw[2,x,y,v,u,Q,I,Z,ry,h];erw[h,a,b,xs,ys,rfl,rfl,ha,hb,hz,q0,q1,q2];by_cases U:xs= []
 .rw[Z,0];rw[ry,0];erw[I.tuple ha,its,r1,p1,_];erw[I.tuple hb,aa,r2,p2,_];subst U;rw[r1,0];erw[id p1,[c1,d1,t1,l1],o1,e1,n1,f1];erw[id p2,[c2,d2,t2,l2],o2,e2,n2,f2];simp only at e1 f1 e2 f2;subst e1 f1 e2 f2;exact tF p1.typeIs p2.typeIs TW tG PySem.F.slot_tuple_add UX (UT _ _) (tuple_addW0 a b _ _ n1 n2 d1 d2 l1 l2 rfl) [o1:o2:(-b,H,I,1,q0 rfl)]
 .exact Po oq s σ H (-a) (-b) v u Q I Z ry (a,b,xs,ys,1,1,ha,hb,U,hz,q1 U,q2 U)
end
def Tk.updL (h:H p=u_ (.lst xs)):Tk H (upd H p (.lst ys)):=by
 rw[_,λb zs e=>?_,λb zs e=>?_,λb zs e=>[zs:?_]]
 .rw[qi (λz=>by rw[z,h,0] at e)];exact e
 .by_cases z:b=p
  .exact⟨ys,by rw[z];exact qg⟩
  .exact⟨zs,by rwa[qi z]⟩
 .rw[qi (λz=>by rw[z,h,0] at e)];exact e
def AI {J:It}{A:o3}{H1:Hp}{te:TE}{tl:St}{Q:VK}{ds:oj D}(f:D->D)(hn:↑ds<=Vh)(hA:H1 A=U_)
  (aa:∀i H,ic H1 H->i<↑ds->J.go i H) (hy:∀i H x H' d,ic H1 H->ds[i]? =u_ d->J.yld i H x H'->H'=H/\Is H d x) (Z:∀H,ic H1 H->J.stop ↑ds H)
  (ac:∀d x H (R:VK),d>ds->ic H1 H->Is H d x->(∀y H',ic H H'->Is H' (f d) y->R y H')->te (u_ x::tl) H R)
  (hQ:∀H' ys,ic H1 H'->H' A=u_ (.lst ys)->IsL H' (ds.map f) ys->Q (-A) H'):AJ A J (YD 0) nH te (U_::tl) H1 Q:=by
 rw[_,↑ds,λi σ ys H=>(∃w,σ=w::tl)/\IsL H ((ds.take i).map f) ys/\ic H1 H,hn,[[U_:1]:1:qf hA _],?_,?_]
 .rintro i σ ys H hi ⟨⟨w,rfl⟩,hl,sm⟩ U ae;rw[_,aa i H sm hi,λx H' y=>?_];erw[hy i H x H' ds[i] sm (ug hi) y,rfl,hx];dsimp![YD,nH,GB];rw[A6 rfl];refine ac ds[i] x H' _ (uU hi) sm hx λy' H4 s4 ad=>(s4 _ _ U,[u_ x:1],?_,λb o e=>?_)
  .let t:Tk H4 (upd H4 A (.lst (ys++ [y']))):=Tk.updL (s4 _ _ U);let e:(ds.take (i+1)).map f=(ds.take i).map f++ [f ds[i]]:=by
    rw[vi,ug hi,uA]
    rfl
   rw[e];exact((hl.mono s4.tk).mono t).append (IsL.one (ad.mono t))
  .rw[qi (qk e hA)];exact s4 b o (sm b o e)
 .rintro σ ys H ⟨_,hl,sm⟩ U;rw[_,Z H sm,hQ H ys sm U ?_];rwa[vh (uq _)] at hl
def AH {K:o0}{a A:o3}{H1:Hp}{te:TE}{tl:St}{Q:VK}{ds:oj D}{vs:oj V}(f:D->D)(ha:H1 a=u_ (¬vs))(Z:IsL H1 ds vs)(hn:↑ds<=Vh)(hA:H1 A=U_)
  (U:∀d x H (R:VK),d>ds->ic H1 H->Is H d x->(∀y H',ic H H'->Is H' (f d) y->R y H')->te (u_ x::tl) H R)
  (hQ:∀H' ys,ic H1 H'->H' A=u_ (.lst ys)->IsL H' (ds.map f) ys->Q (-A) H'):AJ A (Itt K a) (YD 0) nH te (U_::tl) H1 Q:=by
 let ln:=↑Z;refine AI f hn hA (λi H sm hi=>(vs,vs[i]'(),SqT.of (sm _ _ ha),ug _)) (λi H x H' d sm hd y=>?_) (λH sm=>[vs:SqT.of (sm _ _ ha):()]) U hQ
 erw[y,rfl,y];erw[Z.get hd,v,e1,e2];let e3:=y vs (SqT.of (sm _ _ ha));rw[e1,0] at e3;exact[1:e2.mono sm.tk]
def Sr {K:o0}{a A:o3}{H1:Hp}{te:TE}{tl:St}{Q:VK}{ds:oj D}{vs:oj V}(f:D->D)(ha:H1 a=u_ (.lst vs))(Z:IsL H1 ds vs)(hn:↑ds<=Vh)(hA:H1 A=U_)
  (U:∀d x H (R:VK),d>ds->ic H1 H->Is H d x->(∀y H',ic H H'->Is H' (f d) y->R y H')->te (u_ x::tl) H R)
  (hQ:∀H' ys,ic H1 H'->H' A=u_ (.lst ys)->IsL H' (ds.map f) ys->Q (-A) H'):AJ A (Itl K a) (YD 0) nH te (U_::tl) H1 Q:=by
 let ln:=↑Z;refine AI f hn hA (λi H sm hi=>(vs,vs[i]'(),SqL.of (sm _ _ ha),ug _)) (λi H x H' d sm hd y=>?_) (λH sm=>[vs:SqL.of (sm _ _ ha):()]) U hQ
 erw[y,rfl,y];erw[Z.get hd,v,e1,e2];let e3:=y vs (SqL.of (sm _ _ ha));rw[e1,0] at e3;exact[1:e2.mono sm.tk]
def IsL.bls {H:Hp}:∀{bs:oj Bool}{vs:oj V},IsL H (bs.map D.bl) vs->vs=bs.map V.bl
 | [],_,h=>h|_::_,_,h=>by
  erw[h,v,r,rfl,h1,h2];rw[IsL.bls h2,show v=_ from h1];rfl
variable {Q:VK}
def Xp {i:Int}{d:D}(h:Is H (¬ds) v)(hi:atI ds i=u_ d)(q:∀x,Is H d x->Q x H):O5 K v (.int i) H Q:=by
 erw[h,a,vs,rfl,ha,U];erw[qau hi,j,h1,h2,h3,h4,h5];erw[U.get h2,x,e1,e2];rw[_,a,vs,i,x,1,1,SqT.of ha,?_,q x e2];let ln:=↑U;unfold atI at hi⊢;rw[ln];cases e:ixN ↑ds i with
 |none=>rw[e,0] at hi|some k=>
  rw[e] at hi;erw[AL e,Z,_];rw[h1,0] at Z;exact e1
abbrev inS (i j:Str):Bool:= !(h_ j i 0 ↑j 1).isEmpty
def SD (j:Str)(c:Nat):inS ⟨#[c]⟩ j=decide (c>j.cps.toList):=StrLaws.found_one j c
def SQ {z:Str}{g:TG}{tb:TS}{E:mY}{σ:St}{H:Hp}(U:Nat->St->Hp->Prop)(h0:U 0 σ H)
  (hs:∀(i c:Nat) σ H,z.cps[i]? =u_ c->U i σ H->g (.str ⟨#[c]⟩) σ H λσ2 H2=>tb {E with nx:=U (i+1),ct:=U (i+1),bk:=E.nx} σ2 H2) (hd:∀σ H,U z.cps.size σ H->E.nx σ H):
  ∃W:Nat->Nat->St->Hp->Prop,(∃m,W 0 m σ H)/\∀i m σ H,W i m σ H->
   ((Its z).stop i H/\E.nx σ H)\/((Its z).go i H/\∃N:St->Hp->Prop,(∀σ' H',N σ' H'->∃m',m'<m/\W (i+1) m' σ' H')/\∀x H',(Its z).yld i H x H'->g x σ H' λσ2 H2=>tb {E with nx:=N,ct:=N,bk:=E.nx} σ2 H2):=by
 rw[_,λi m σ H=>m=z.cps.size-i/\i<=z.cps.size/\U i σ H,(z.cps.size,by simp,uS _,h0)]
 rintro i m σ H ⟨rfl,hi,p⟩;by_cases Z:i<z.cps.size
 .refine .inr (Z,U (i+1),λσ' H' p'=>(z.cps.size-(i+1),(),1,Z,p'),λx H' y=>?_)
  erw[y,rfl,c,hc,rfl,<-hs i c σ _ hc p]
 .let e:i=z.cps.size:=by omega
  exact .inl [e:hd σ H (e▸p)]
def IsL.unsnoc {H:Hp}:∀{ds:oj D}{d:D}{vs:oj V},IsL H (ds++ [d]) vs->∃us x,vs=us++ [x]/\IsL H ds us/\Is H d x
 | [],d,_,h=>by
  erw[h,v,r,rfl,h1,h2];rw[show r= [] from h2,0]
  exact([],v,1,1,h1)
 |e::r,d,_,h=>by
  erw[h,v,q,rfl,h1,h2];erw[IsL.unsnoc h2,us,x,rfl,h3,h4,<-(v::us,x,1,(v,us,1,h1,h3),h4)]
abbrev isStr:D->Bool
 | .str _=>v_|_=>Vd
abbrev Zr:D->Bool
 | .tup _=>v_|_=>Vd
section
variable {K:o0}
def Nz {T U:String}{b:Bool}(h:(Gm T==Gm U)=Vd)(hm:PySem.W.kitMeta U=v_)(Z:(fastBuiltinMro T).map (·.contains (Gm U))=u_ b):PySem.W.kitOne K (.type T) (.type U)=u_ b:=by
 unfold PySem.W.kitOne;rw[A4 (by rw[h];exact uf)]
 show(if PySem.W.kitMeta U=v_ then PySem.W.subIn K (.type T) (.type U) else U_)=u_ b
 rw[A6 hm];exact Z
def BT {T:String}(h:(Gm T==Gm T)=v_):PySem.W.kitOne K (.type T) (.type T)=u_ true:=by
 unfold PySem.W.kitOne;rw[A6 h]
def jY (d:D):PySem.W.kitOne K (tyD d) (.type "str")=u_ (isStr d):=by
 cases d with
 |str z=>exact BT ()|_=>exact Nz (b:=Vd) () () ()
def XA (d:D):PySem.W.kitOne K (tyD d) (.type "tuple")=u_ (Zr d):=by
 cases d with
 |tup z=>exact BT ()|_=>exact Nz (b:=Vd) () () ()
end
def AbA (c k:Nat):decide ((⟨#[c]⟩:Str).cps.toList< [k])=decide (c<k):=by
 rw[ve];simp[FA]
def Abp (c k:Nat):decide ([k]<(⟨#[c]⟩:Str).cps.toList)=decide (k<c):=by
 rw[ve];simp[FA]
def zX {X:Cx}{K:o0}(h:X.K=K):IxR X (O5 K):=by subst h;exact qC
inductive Acq (K:PySem.W.Frag)(R:(It->Hp->Prop))(x:V)(H1:Hp):Prop
 |mk (a:_)(xs:_)(_:x=-a)(_:SqT K H1 a xs)(_:(↑xs<=Vh->R (Itt K a) H1))
abbrev Adf (K:o0)(tl:TE):TI:=λσ H R=>tl σ H λx H1=>Acq K R x H1
def Zi {X:Cx}{tg l:Expr}{tl:TE}(Z:PE X l tl):PI X tg l (Adf X.K tl):=by
 rw[2,R,I,h];refine thn (Z oq s σ H _ I h) λv s1 zq=>?_;erw[zq,x,H1,U,r1,q1];erw[q1,a,xs,e,hq,q];subst e;rw[r1,0];erw[U.tuple hq,its,rv,p,hz];refine Uc (show s1.heap.IsTuple a its.toArray from p) ?_
 rw[_,#[0,s1],[#[0,s1]],_,_,H1,1,U.kept (t':=s1.toks) λb o e=>ud _ e,Kk a _,(_,uH _ rfl,1,1),λb hb=>?_,q hz];let e:b=#[0,s1]:=by simpa using hb
 subst e;exact U.fpOk (uq _) (U.hok.fresh (uq _))
variable {X:Cx}
def ID:YM X (.builtin "len") (λxs H Q=>∃p ys,xs= [-p]/\(SqL X.K H p ys\/SqT X.K H p ys)/\(↑ys<=Vh->Q (.int ↑ys) H)):=by
 rw[2,xs,us,Q,I,r,h];erw[h,p,ys,e,U,q];let hz:↑ys<=sizeLine:=by
  rcases U with U|U
  .exact(I.list U).choose_spec.2.2
  .exact(I.tuple U).choose_spec.2.2
 exact qB oq s σ H xs us Q I r (p,ys,e,U,q hz)
variable {n:Nat}
def Iz (h:n<=↑xs):wr xs U_ (u_ (n:Int))=xs.take n:=by
 unfold wr;rw[HT.sIx_none,HT.sIx_nat,T2 h,HL,Rj]
def X6 (h:n<=↑xs):wr xs (u_ (n:Int)) U_=xs.drop n:=by
 unfold wr;rw[HT.sIx_none,HT.sIx_nat,T2 h];exact vh (by rw[uQ];exact uq _)
end L2
namespace L2
open PySem PySem.Spec PyProof.Rows Builtin Builtin.Str
abbrev m8 (c:Nat):oj Nat->Nat->oj Nat
 | [],_=> []|a::r,i=>if a=c then i::m8 c r (i+1) else m8 c r (i+1)
abbrev ll (c:Nat):Nat->oj Nat->oj (oj Nat)
 |0,L=> [L]|_+1,[]=> [[]]|n+1,a::r=>if a=c then []::ll c n r else match ll c (n+1) r with
  |p::q=>(a::p)::q| []=> [[a]]
abbrev ofL (l:oj Nat):Str:=⟨l.toArray⟩
def yg (z:Str):ofL z.cps.toList=z:=by
 unfold ofL;simp
def JN (c:Nat):∀(n:Nat) (L:oj Nat),∃p q,ll c n L=p::q
 |0,L=>⟨L,[],by simp[ll]⟩|n+1,[]=>⟨[],[],by simp[ll]⟩|n+1,a::r=>by
  by_cases h:a=c
  .exact⟨[],ll c n r,by simp[ll,h]⟩
  .erw[JN c (n+1) r,p,q,e,<-⟨a::p,q,by simp[ll,h,e]⟩]
def Cg {c:Nat}{n:Nat}{r:oj Nat}:∀{p:oj Nat},c∉p->ll c (n+1) (p++c::r)=p::ll c n r
 | [],_=>by simp[ll]|a::p,h=>by
  let h1:a≠c:=λe=>h (by simp[e])
  let U:=Cg (n:=n) (r:=r) (p:=p) (λz=>h (uh _ z));show ll c (n+1) (a::(p++c::r))=_;rw[ll,A4 h1,U]
def Wn {c:Nat}{n:Nat}:∀{p:oj Nat},c∉p->ll c n p= [p]
 | [],_=>by cases n<;>simp[ll]|a::p,h=>by
  let h1:a≠c:=λe=>h (by simp[e])
  cases n with
  |zero=>simp[ll]|succ n=>
   let U:=Wn (n:=n+1) (p:=p) (λz=>h (uh _ z));rw[ll,A4 h1,U]
def Cq (x:Str)(c i:Nat)(h:i<↑x):subAt x ⟨#[c]⟩ i=decide (x.cps.toList[i]? =u_ c):=by
 rw[StrLaws.subAt_eq];let U:i<↑x.cps.toList:=by simpa [G6] using h
 let Z:(x.cps.toList.drop i).take 1= [x.cps.toList[i]]:=by
  rw[vk U]
  rfl
 show((x.cps.toList.drop i).take 1== [c])=_;rw[Z,ug U];generalize x.cps.toList[i]=k;by_cases e:k=c
 .simp[e]
 .simp[e]
def oQ (x:Str)(c n:Nat):∀(m k:Nat) (found:Array Nat) (free:Nat),k+m=↑x+1->free<=k->
  (VY (hW k m) (found,free) (Gn x ⟨#[c]⟩ ↑x n)).run.fst.toList=found.toList++(m8 c (x.cps.toList.drop k) k).take (n-found.size)
 |0,k,found,free,hk,_=>by
  let hl:↑x.cps.toList<=k:=by simp[G6] at hk⊢;omega
  rw[Ut hl];simp[m8]
 |m+1,k,found,free,hk,hf=>by
  rw[List.range'_succ,UF];unfold Gn;let ad:↑x.cps.toList=↑x:=by simp[G6]
  by_cases aa:k<↑x
  .let ac:k<↑x.cps.toList:=by omega
   rw[vk ac];let hs:=Cq x c k aa;rw[ug ac] at hs;by_cases e:x.cps.toList[k]=c
   .let U:subAt x ⟨#[c]⟩ k=true:=by rw[hs,e];simp
    by_cases hn:found.size<n
    .rw[A6 ⟨⟨[hn:hf],by show k+1<=↑x;omega⟩,U⟩]
     let Z:=oQ x c n m (k+1) (found.push k) (k+1) () (uq _)
     show(VY (hW (k+1) m) (found.push k,k+1) (Gn x ⟨#[c]⟩ ↑x n)).run.fst.toList=_;rw[Z];rw[m8,A6 e,Array.toList_push,Rk];obtain⟨j,hj⟩:∃j,n-found.size=j+1:=[n-found.size-1:()]
     rw[hj,T9,show n-(found.size+1)=j by omega]
     simp
    .rw[A4 (λz=>hn z.1.1.1)];let Z:=oQ x c n m (k+1) found free () ()
     show(VY (hW (k+1) m) (found,free) (Gn x ⟨#[c]⟩ ↑x n)).run.fst.toList=_;rw[Z,show n-found.size=0 by omega]
     simp
   .let U:¬subAt x ⟨#[c]⟩ k=true:=by rw[hs];intro z;exact e (uN (ur z))
    rw[A4 (λz=>U z.2)];let Z:=oQ x c n m (k+1) found free () ()
    show(VY (hW (k+1) m) (found,free) (Gn x ⟨#[c]⟩ ↑x n)).run.fst.toList=_;rw[Z,m8,A4 e]
  .rw[A4 (λz=>aa (by have:=z.1.2;show k<↑x;let h1:k+1<=↑x:=this;omega))]
   let Z:=oQ x c n m (k+1) found free () ()
   show(VY (hW (k+1) m) (found,free) (Gn x ⟨#[c]⟩ ↑x n)).run.fst.toList=_;rw[Z];let h1:↑x.cps.toList<=k:=by omega
   rw[Ut h1,Ut ()]
   simp[m8]
def KU (x:Str)(c n:Nat):occurrences x ⟨#[c]⟩ 0 ↑x n=(m8 c x.cps.toList 0).take n:=by
 rw[Fi];have:=oQ x c n (↑x+1) 0 #[] 0 () (uq _)
 simpa using this
abbrev att (p:oj Nat):oj (oj Nat)->oj (oj Nat)
 |q::r=>(p++q)::r| []=> [p]
def LG (x:Str)(c:Nat):∀(m n a b:Nat),a<=b->b+m=↑x->
  Hq x 1 a ((m8 c (x.cps.toList.drop b) b).take n)=(att ((x.cps.toList.drop a).take (b-a)) (ll c n (x.cps.toList.drop b))).map ofL:=by
 let ac:↑x.cps.toList=↑x:=by simp[G6]
 let U:∀i j,strSub x i j=ofL ((x.cps.toList.drop i).take (j-i)):=λi j=>by
  rw[<-yg (strSub x i j),RY]
 intro m
 induction m with
 |zero=>
  intro n a b aa hb;let h1:x.cps.toList.drop b= []:=Ut ()
  rw[h1];let e1:ll c n []= [[]]:=by cases n<;>simp[ll]
  rw[e1];simp![m8,List.take_nil,Hq,att,vJ,uC,UG];rw[U,show ↑x-a=b-a by omega]
 |succ m ih=>
  intro n a b aa hb;let Z:b<↑x.cps.toList:=by omega
  rw[vk Z];cases n with
  |zero=>
   simp![List.take_zero,Hq,ll,att,uC,UG];rw[U,<-vk Z];let e2:(x.cps.toList.drop a).take (↑x-a)=x.cps.toList.drop a:=vh (by rw[uQ];omega)
   let e3:x.cps.toList.drop b=(x.cps.toList.drop a).drop (b-a):=by rw[List.drop_drop];congr 1;omega
   rw[e2,e3,Ru]
  |succ n=>
   by_cases e:x.cps.toList[b]=c
   .rw[m8,A6 e,T9,Hq,ll,A6 e];rw[ih n (b+1) (b+1) (uq _) ()]
    erw[JN c n (x.cps.toList.drop (b+1)),p,q,e2];rw[e2,U];simp[att]
   .rw[m8,A4 e,ih (n+1) a (b+1) () (),ll,A4 e]
    erw[JN c (n+1) (x.cps.toList.drop (b+1)),p,q,e2];rw[e2];simp![att,uC]
    congr 2
    let e3:b+1-a=(b-a)+1:=by omega
    let hx:b-a<↑(x.cps.toList.drop a):=by rw[uQ];omega
    rw[e3,List.take_succ_eq_append_getElem hx];simp[show a+(b-a)=b by omega]
def oC (x:Str)(c n:Nat):partsBetween x (occurrences x ⟨#[c]⟩ 0 ↑x n) 1=(ll c n x.cps.toList).map ofL:=by
 rw[StrLaws.partsBetween_eq,KU];have:=LG x c ↑x n 0 0 (uq _) ()
 rw[HL] at this;rw[this];erw[JN c n x.cps.toList,p,q,e];rw[e];simp[att]
def Wp {c:Nat}:∀{L:oj Nat}{i:Nat},m8 c L i= []->c∉L
 | [],_,_=>by simp|a::r,i,h=>by
  by_cases e:a=c
  .simp[m8,e] at h
  .rw[m8,A4 e] at h;have:=Wp h;simp[U4 e,this]
def zI:∀(l:oj Str) (k:Nat),iw (l.map V.str) (strsFrom k l)
 | [],_=> .nil|x::r,k=> .cons [k:1] (zI r (k+1))
def Wj:∀{l:oj Str}{us:oj o6},iw (l.map V.str) us->∃ps:oj (Str×Tok),us=strValues ps/\ps.map (·.1)=l
 | [],_,.nil=>[[]:1:1]|x::r,_,.cons ⟨t,e⟩ h=>by
  erw[Wj h,ps,U,e2];subst e;exact⟨(x,t)::ps,by rw[U];rfl,by rw[uC,e2]⟩
def kT (z:Str):¬VA z<VA " ":=by
 let h1:VA " "=1:=by decide+kernel
 rw[h1];unfold VA;split
 .omega
 .split<;>omega
def Kv (c:Nat):∀(n:Nat) (L:oj Nat),↑(ll c n L)<=↑L+1
 |0,L=>by simp[ll]|n+1,[]=>by simp[ll]|n+1,a::r=>by
  by_cases h:a=c
  .have:=Kv c n r;simp[ll,h];omega
  .have:=Kv c (n+1) r;erw[JN c (n+1) r,p,q,e];rw[e] at this;simp![ll,A4 h,e];simp at this⊢;omega
abbrev spl (n:Nat)(z:Str):oj Str:=(ll 32 n z.cps.toList).map ofL
def Dk (n:Nat)(z:Str):↑(spl n z)<=↑z+1:=by
 unfold spl;rw[u9];have:=Kv 32 n z.cps.toList
 simpa [G6] using this
def xu:(" ":Str)=⟨#[32]⟩:=by decide+kernel
variable {z:Str}{n:Nat}
def Dj (hn:↑z<=n\/↑z<1\/True)(h:(occurrences z " " 0 ↑z n).isEmpty=v_)(h0:n≠0):spl n z= [z]:=by
 rw[xu,KU,List.isEmpty_iff] at h;let h1:m8 32 z.cps.toList 0= []:=by
  cases e:m8 32 z.cps.toList 0 with
  |nil=>rfl|cons a r=>
   rw[e] at h;obtain⟨k,rfl⟩:∃k,n=k+1:=[n-1:()]
   simp at h
 unfold spl;rw[Wn (Wp h1)];simp[yg]
section
variable {X:Cx}
inductive Aa7 (x:V)(vs:List V)(H:Hp)(Q:VK):Prop
 |mk (z:_)(_:x= !z)(_:vs= [-" "])(_:↑z<=1000)(_:∀p,H p=U_->Q (-p) (upd H p (.lst ((spl (↑z+1) z).map V.str))))
variable {oq:oj (o3×Obj)}{σ:St}{H:Hp}{s:o7}{Q:VK}{ys:oj V}{its:oj o6}{t':Nat}
def xq (I:#[I])(U:iw ys its)(hz:↑ys<=Vh)(q:∀p,H p=U_->Q (-p) (upd H p (.lst ys)))(Z:0<t':=by ac_rfl):
  EP X oq σ Q (.ref #[0,s]) {s with heap:=s.heap.push {cls:= .type "list",data:= .seq its.toArray},toks:=t'}:=
 (.ref #[0,s],_,I.lnew U hz,1,q _ I.fresh)
def BO:MtM X "str.split" Aa7:=by
 rw[2,x,vs,v,us,Q,I,rx,rv,h];erw[h,z,rfl,rfl,hz,q];erw[rx,t,rfl];erw[rv.one,u,rfl,t',rfl];let U:↑z<=sizeLine:=by rw[uD];omega
 let one:spl (↑z+1) z= [z]->∀(T:Nat),0<T->EP X oq σ Q (.ref #[0,s]) {s with heap:=s.heap.push {cls:= .type "list",data:= .seq [VC z t].toArray},toks:=T}:=λe T hT=>by
  rw[e] at q;exact xq (ys:= [V.str z]) I (.cons (show ik (V.str z) _ from[t:1]) .nil) (by show 1<=Vh;decide) q
 cases h1:(decide (↑z<(" ":Str).length)||decide (VA z<VA " ")) with
 |true=>
  refine vP vS (vX _ _ _) vL (Ug _ _) (RZ z " " t t' h1) ?_;let h2:↑z<1:=by
   rw[HK] at h1;rcases h1 with h1|h1
   .exact ur h1
   .exact A8 (ur h1) (kT z)
  refine one ?_ s.toks I.tk;let e:z.cps.toList= []:=vK (by simpa [G6] using h2)
  unfold spl;rw[e,ll];rw[<-yg z,e]
  rfl
 |false=>
  cases Z:(occurrences z " " 0 ↑z (↑z+1)).isEmpty with
  |true=>
   refine vP vS (vX _ _ _) vL (Ug _ _) (FJ z " " t t' h1 () Z) ?_
   exact one (Dj (.inr (.inr trivial)) Z ()) s.toks I.tk
  |false=>
   let hl:=Dk (↑z+1) z;let e:partsBetween z (occurrences z " " 0 ↑z (↑z+1)) (" ":Str).length=spl (↑z+1) z:=by
    rw[xu];exact oC z 32 (↑z+1)
   refine vP vS (vX _ _ _) vL (Ug _ _) (FE z " " t t' h1 () Z U (by rw[e,uD];omega)) ?_
   rw[e];exact xq I (zI _ _) (by rw[u9,uD];omega) q
def Xv (x y:Str)(k:Int)(t u v:Tok)(hk:(decide (k< -(2^63:Int))||decide (k≥2^63))=Vd)(h1:(decide (↑x<↑y)||decide (VA x<VA y))=Vd)(hy:(↑y==0)=Vd)
  (hf:(occurrences x y 0 ↑x (Hd x k)).isEmpty=v_):GQ («str.split» [[.str x t,.str y u,.int k v]:[]]) (RO x t):=by
 erw[rG x y k t u v hk,Z,U];refine .of_wp λprog w A R s h=>?_;rw[U,h1,hy,hf];show Ve _ _ (do rule "str.split.same-object";ret (<-tj [.str x t])) _ _ s
 exact A7 (UU (A7 (TB (uE [0:h]) (by show 1<=Vh;decide))))
def Jy (x y:Str)(k:Int)(t u v:Tok)(hk:(decide (k< -(2^63:Int))||decide (k≥2^63))=Vd)(h1:(decide (↑x<↑y)||decide (VA x<VA y))=v_):
  GQ («str.split» [[.str x t,.str y u,.int k v]:[]]) (RO x t):=by
 erw[rG x y k t u v hk,Z,U];refine .of_wp λprog w A R s h=>?_;rw[U,h1];show Ve _ _ (do rule "str.split.sep-cannot-occur";ret (<-tj [.str x t])) _ _ s
 exact A7 (UU (A7 (TB (uE [0:h]) (by show 1<=Vh;decide))))
inductive O3 (x:V)(vs:List V)(H:Hp)(Q:VK):Prop
 |mk (z:Str)(n:Nat)(_:x= !z)(_:vs= [-" ",.int (n:Int)])(_:↑z<=1000)(_:0<n)(_:n<=1000)(_:∀p,H p=U_->Q (-p) (upd H p (.lst ((spl n z).map V.str))))
def Ew:MtM X "str.split" O3:=by
 rw[2,x,vs,v,us,Q,I,rx,rv,h];erw[h,z,n,rfl,rfl,hz,ac,hn,q];erw[rx,t,rfl];erw[C9 rv,u,u',rfl,[t',rfl],[Z,rfl]];let aa:↑z<=sizeLine:=by rw[uD];omega
 let hk:(decide ((n:Int)< -(2^63:Int))||decide ((n:Int)≥2^63))=false:=by
  rw[ui (),ui ()];rfl
 let U:Hd z (n:Int)=n:=by
  unfold Hd;rw[A4 ()]
  omega
 let one:spl n z= [z]->∀(T:Nat),0<T->EP X oq σ Q (.ref #[0,s]) {s with heap:=s.heap.push {cls:= .type "list",data:= .seq [VC z t].toArray},toks:=T}:=λe T hT=>by
  rw[e] at q;exact xq (ys:= [V.str z]) I (.cons (show ik (V.str z) _ from[t:1]) .nil) (by show 1<=Vh;decide) q
 cases h1:(decide (↑z<(" ":Str).length)||decide (VA z<VA " ")) with
 |true=>
  refine vP vS (vX _ _ _) vL (F.args_str_split_3 _ _ _) (Jy z " " n t t' Z hk h1) ?_;let h2:↑z<1:=by
   rw[HK] at h1;rcases h1 with h1|h1
   .exact ur h1
   .exact A8 (ur h1) (kT z)
  refine one ?_ s.toks I.tk;let e:z.cps.toList= []:=vK (by simpa [G6] using h2)
  obtain⟨j,rfl⟩:∃j,n=j+1:=[n-1:()]
  unfold spl;rw[e,ll];rw[<-yg z,e]
  rfl
 |false=>
  cases hf:(occurrences z " " 0 ↑z (Hd z (n:Int))).isEmpty with
  |true=>
   refine vP vS (vX _ _ _) vL (F.args_str_split_3 _ _ _) (Xv z " " n t t' Z hk h1 () hf) ?_
   rw[U] at hf;exact one (Dj (.inr (.inr trivial)) hf ()) s.toks I.tk
  |false=>
   let hl:=Dk n z;let e:partsBetween z (occurrences z " " 0 ↑z (Hd z (n:Int))) (" ":Str).length=spl n z:=by
    rw[xu,U];exact oC z 32 n
   refine vP vS (vX _ _ _) vL (F.args_str_split_3 _ _ _) (meets_str_split_sep_max z " " n t t' Z hk h1 () hf aa (by rw[e,uD];omega)) ?_
   rw[e];exact xq I (zI _ _) (by rw[u9,uD];omega) q
abbrev xF (c:Nat):oj Nat->oj Nat
 | []=> []|a::r=>if a=c then [] else a::xF c r
def so {c:Nat}:∀{L:oj Nat}{i j:Nat}{r:oj Nat},m8 c L i=j::r->i<=j/\xF c L=L.take (j-i)
 | [],_,_,_,h=>by simp[m8] at h|a::q,i,j,r,h=>by
  by_cases e:a=c
  .rw[m8,A6 e,0] at h;exact⟨uq _,by simp[xF,e]⟩
  .rw[m8,A4 e] at h;erw[so h,h1,h2];rw[_,()]
   rw[xF,A4 e,h2,show j-i=(j-(i+1))+1 by omega,T9]
def zZ {c:Nat}:∀{L:oj Nat},c∉L->xF c L=L
 | [],_=>rfl|a::r,h=>by
  let h1:a≠c:=λe=>h (by simp[e])
  rw[xF,A4 h1,zZ λz=>h (uh _ z)]
abbrev hd (z:Str):Str:=ofL (xF 32 z.cps.toList)
def Ib (I:#[I])(U:iw ys its)(hz:↑ys<=Vh)(q:∀p,H p=U_->Q (-p) (upd H p (¬ys)))(Z:0<t':=by ac_rfl):
  EP X oq σ Q (.ref #[0,s]) {s with heap:=s.heap.push {cls:= .type "tuple",data:= .seq its.toArray},toks:=t'}:=
 (.ref #[0,s],_,I.laid (o:=¬ys) (λ_ _ w=>ud _ w) (uq _) (hz,its,U,Hn _ _),1,q _ I.fresh)
inductive Ac0 (x:V)(vs:List V)(H:Hp)(Q:VK):Prop
 |mk (z:_)(_:x= !z)(_:vs= [-" "])(_:↑z<=1000)(_:∀p a b,H p=U_->Q (-p) (upd H p (-[.str (hd z),!a,!b])))
def Sm:MtM X "str.partition" Ac0:=by
 rw[2,x,vs,v,us,Q,I,rx,rv,h];erw[h,z,rfl,rfl,hz,q];erw[rx,t,rfl];erw[rv.one,u,rfl,t',rfl];let Z:↑z<=sizeLine:=by rw[uD];omega
 refine vP F.slot_str_partition (vX _ _ _) F.entry_str_partition (F.args_str_partition_2 _ _) (meets_str_partition z " " t t' () Z) ?_
 cases U:occurrences z " " 0 ↑z 1 with
 |nil=>
  let h0:hd z=z:=by
   rw[xu,KU] at U;let h1:m8 32 z.cps.toList 0= []:=by
    cases e:m8 32 z.cps.toList 0 with
    |nil=>rfl|cons a r=>rw[e] at U;simp at U
   unfold hd;rw[zZ (Wp h1),yg]
  refine Ib (ys:= [.str (hd z),!tZ,!tZ]) (t':=s.toks+1) I (.cons (show ik (V.str (hd z)) _ from⟨t,by rw[h0]⟩) (.cons (show ik (V.str _) _ from⟨0⟩) (.cons (show ik (V.str _) _ from⟨0⟩) .nil))) (by show 3<=Vh;decide) λp hp=>q p _ _ hp
 |cons i r=>
  let h0:hd z=strSub z 0 i:=by
   rw[xu,KU] at U;cases e:m8 32 z.cps.toList 0 with
   |nil=>rw[e] at U;simp at U|cons a r'=>
    rw[e] at U;have:a=i:=by simp at U;exact U.1
    subst this;erw[so e,_,h2];unfold hd;rw[h2,<-yg (strSub z 0 a),RY,HL]
  refine Ib (ys:= [.str (hd z),-" ",.str _]) (t':=s.toks+1+1) I (.cons (show ik (V.str (hd z)) _ from⟨s.toks,by rw[h0]⟩) (.cons (show ik (V.str _) _ from[t':1]) (.cons (show ik (V.str _) _ from[s.toks+1:1]) .nil))) (by show 3<=Vh;decide) λp hp=>q p _ _ hp
inductive Aba (K:PySem.W.Frag)(x:V)(vs:List V)(H:Hp)(Q:VK):Prop
 |mk (sep:Str)(p:Addr)(l:List Str)(_:x= !sep)(_:vs= [-p])(_:SqL K H p (l.map V.str))(_:(l.map (·.length)).sum+↑l*↑sep<=1000000)(_:Q (.str (Vl sep l)) H)
def qac:MtM X "str.join" (Aba X.K):=by
 rw[2,x,vs,v,us,Q,I,rx,rv,h];erw[h,sep,p,l,rfl,rfl,hp,hz,q];erw[rx,t,rfl];erw[rv.one,u,rfl,ru];rw[ru,0];erw[I.list hp,its,r,pl,hl];erw[Wj r,ps,rfl,e2];let Z:tooLong ((ps.map (·.1)).toArray.foldl (·+ ·.length+↑sep) 0)=false:=by
  rw[e2];have:=rP sep l;rw[this];unfold tooLong;refine ui ?_;rw[uD];omega
 refine vP F.slot_str_join (vX _ _ _) F.entry_str_join (F.args_str_join_2 _ _) (meets_str_join_list sep t p ps Z) [pl.isList:?_];let U:(glued sep (ps.map (·.1))).length<=sizeLine:=rH Z
 match ps,e2,U with
 | [],e2,U=>
  subst e2;exact(U,.str _,H,I.tok _,⟨0⟩,q)
 | [a],e2,_=>
  subst e2;exact(.str _,H,I,[a.2:1],q)
 |a::b::r,e2,U=>
  subst e2;rw[_,U,.str _,H,I.tok _,⟨0⟩];rw[FC];exact q
def IE:YM X (.type "int") (λxs H Q=>∃z n,xs= [!z]/\PySem.intText? z=u_ n/\↑z<=640/\Q (.int n) H):=by
 rw[2,xs,us,Q,I,r,h];erw[h,z,n,rfl,hn,U,q];erw[Jc r,u,rfl,t,rfl,<-PySem.W.KIN.call_text hn U (.int n,H,I.tok _,⟨0⟩,q)]
end
end L2
namespace L2
open PySem PySem.Spec PyProof.Rows
variable {X:Cx}{oq:oj (o3×Obj)}{σ:St}{H:Hp}{s:o7}{h':o8}{t':Nat}{fp:oj o3}
def Inv.turnedL (I:#[I])(k:∀b o,b∉fp->s.heap.get? b=u_ o->h'.get? b=u_ o)(Z:∀b>fp,Bd X oq H b)(ht:0<t':=by ac_rfl):Inv X oq σ H {s with heap:=h',toks:=t'}:=by
 let aa:∀b u,H b=u_ u->b∉fp:=λb u e z=>by
  have:=(Z b z).1;rw[this,0] at e
 let nL:X.env.locals∉fp:=λz=>(Z _ z).2.1 rfl;refine I.step (g':=s.gens) (d':=s.drawn) (ch:=fp) (λb hb=>((Z b hb).2.2.2.1,(Z b hb).2.1,(Z b hb).2.2.2.2.1,(Z b hb).2.2.2.2.2)) (λb o _ _ U e _=>k b o U e) (λb o _ _ U e _=>[o.slots:k b o U e]) (λ_ _ _ _ n=>n)
  (λb o U e=>[o:k b o U e]) (λ_ _ e=>e) (λ_ _ _ e=>e) (λb ps e=>⟨#[],by rw[e];simp⟩) (λm hm=>?_) (λb u e=>?_) I.bare
 .erw[hm,o,es,ep,ho,r,<-(o,es,ep,k _ o nL ho,r)]
 .refine(I.hok b u e).stay (λc v U q=>k c v ?_ q) (λ_ q=>q) λ_ _ q=>q;rcases U with z|z
  .rw[z];exact aa b u e
  .exact aa c _ z
def Inv.handed {X:Cx}{oq:oj (o3×Obj)}{σ:St}{H:Hp}{s:o7}{h':o8}{t':Nat}{fp:oj o3}{ys:oj V}{its:oj o6}(I:#[I])(hf:∀b>fp,Bd X oq H b)(hl:∀b>fp,b<#[0,s])(hv:iw ys its)(hz:↑ys<=Vh)
  (hn:h'.get? #[0,s]=u_ {cls:= .type "tuple",data:= .seq its.toArray}) (hs:h'.objs.size=#[0,s]+1) (k:∀b o,b∉fp->s.heap.get? b=u_ o->h'.get? b=u_ o) (ht:0<t':=by ac_rfl):
  Inv X oq σ (upd H #[0,s] (¬ys)) {s with heap:=h',toks:=t'}/\∀b>fp,Bd X oq (upd H #[0,s] (¬ys)) b:=by
 let I1:Inv X oq σ (upd H #[0,s] (¬ys)) {s with heap:=s.heap.push {cls:= .type "tuple",data:= .seq its.toArray},toks:=t'}:=
  I.laid (o:=¬ys) (λ_ _ w=>ud _ w) (uq _) (hz,its,hv,Hn _ _)
 let U:∀b>fp,Bd X oq (upd H #[0,s] (¬ys)) b:=λb Z=>by
  erw[hf b Z,f0,f1,f2,f3,f4,f5];have:=hl b Z;exact(by rwa[qi (uY this)],f1,f2,f3,f4,f5)
 rw[_,I1.turnedL (h':=h') (t':=t') (λb o Z e=>?_) U,U];rcases Heap.get?_push_cases (show(s.heap.push {cls:= .type "tuple",data:= .seq its.toArray}).get? b=u_ o from e) with⟨rfl,rfl⟩|e'
 .exact hn
 .exact k b o Z e'
abbrev Itz (K:o0)(a b:o3):It:=
 ⟨λi H=>∃xs ys x y,SqT K H a xs/\SqL K H b ys/\xs[i]? =u_ x/\ys[i]? =u_ y,
  λi H v H'=>∃p x y,v= .ref p/\H p=U_/\H'=upd H p (-[x,y])/\(∀xs,SqT K H a xs->xs[i]? =u_ x)/\∀ys,SqL K H b ys->ys[i]? =u_ y,
  λi H=>∃xs,SqT K H a xs/\↑xs=i⟩
abbrev Ite (K:o0)(a:o3)(c:Int):It:=
 ⟨λi H=>∃xs x,SqT K H a xs/\xs[i]? =u_ x,λi H v H'=>∃p x,v= .ref p/\H p=U_/\H'=upd H p (-[.int (c+i),x])/\∀xs,SqT K H a xs->xs[i]? =u_ x,λi H=>∃xs,SqT K H a xs/\↑xs=i⟩
abbrev tnZ (a b z p r i j:o3)(k:Nat)(h:o8):Prop:=
 VD h z p r .none/\Vu h p (-i) (-j)/\(∃u v,Vu h r u v)/\h.IsTupleIter i a k/\h.IsListIter j b k/\AwZ.Apt z p r i j a b
variable {w:og}{K:o0}
def IX {P:o9}{ac:oj Expr}{c:Nat}{tp:Pos}(a b z p r i j:o3):NW P w K (.Tuple ac c tp) (Itz K a b) [z,p,r,i,j] z (tnZ a b z p r i j) where
 mem:=by simp
 obj:=λk h st x hx=>by
  erw[st,h1,h2,[u,v,h3],[o4,e4,c4,d4],[o5,e5,c5,d5],D];simp![uG,uZ,uV] at hx;rcases hx with rfl|rfl|rfl|rfl|rfl
  .exact⟨_,h1,λv z=>by rw[z,0]⟩
  .exact⟨_,h2,λv z=>by rw[z,0]⟩
  .exact⟨_,h3,λv z=>by rw[z,0]⟩
  .exact⟨o4,e4,λv z=>by rw[d4,0] at z⟩
  .exact⟨o5,e5,λv z=>by rw[d5,0] at z⟩
 keep:=λk h h' st kk=>by
  erw[st,h1,h2,[u,v,h3],[o4,e4,r4],[o5,e5,r5],D,<-(kk z (by simp) _ h1,kk p (by simp) _ h2,⟨u,v,kk r (by simp) _ h3⟩,⟨o4,kk i (by simp) _ e4,r4⟩,⟨o5,kk j (by simp) _ e5,r5⟩,D)]
 item:=by
  intro X hP hw hK U k oq s σ H E I hf st hg;subst hP hw hK;erw[hg,xs,ys,x,y,ha,hb,hx,hy];erw[I.tuple ha,its,ra,pa,za];erw[I.list hb,al,rb,pb,zb];erw[ra.get hx,ux,af,ag];erw[rb.get hy,uy,ah,ak];erw[st,h1,h2,[u,v,h3],h4,h5,D];let l1:=uI h1;let l2:=uI h2;let l3:=uI h3;let l4:i<#[0,s]:=by erw[h4,o,e,_,<-uI e]
  let l5:j<#[0,s]:=by erw[h5,o,e,_,<-uI e]
  refine AwZ.zip_go D h1 h2 h3 h4 h5 (show s.heap.IsTuple a its.toArray from pa) pb.isList (x:=ux) (y:=uy) (by simpa using af) (by simpa using ah) λh' g1 g2 g3 g4 g5 g6 g7=>?_
  let g8:Vu h' p (-i) (-j):=g7 _ _ D.pz D.pr D.pi D.pj h2;obtain⟨I1,ad⟩:=I.handed (t':=s.toks) (ys:= [x,y]) (its:= [ux,uy]) hf (λc U=>by
   simp![uG,uZ,uV] at U;rcases U with rfl|rfl|rfl|rfl|rfl<;>assumption) (.cons ag (.cons ak .nil)) (by show 2<=Vh;decide) g5 g6 (λc o U e=>by
    simp![uG,uZ,uV,Va] at U;exact g7 c o U.1 U.2.2.1 U.2.2.2.1 U.2.2.2.2 e)
  rw[0,wpAny_letOwnedTupleGo_zip (s:={s with heap:=h'}) g1 λae z2 s2=>?_]
  let Z:∀c o,c≠z->h'.get? c=u_ o->ae.get? c=u_ o:=λc o U e=>s2.extBut c o U e;rw[_,.ref #[0,s],_,I1.turnedL (fp:= [z]) (h':=ae) (t':=s.toks) (λc o U e=>Z c o (by simpa using U) e) (λc U=>ad c (by simp at U;simp[U])),1,(_,x,y,1,I.fresh,1,λzs aa=>?_,λzs aa=>?_),(z2,Z _ _ D.pz g8,[_:_:Z _ _ D.rz g2],?_,?_,D),λc U=>(ad c U).1]
  .rwa[I.tuple_inj aa ha]
  .rwa[I.list_inj aa hb]
  .erw[g3,o,e,q,<-[o:Z _ _ D.iz e:q]]
  .erw[g4,o,e,q,<-[o:Z _ _ D.jz e:q]]
 done:=by
  intro X hP hw hK U k oq s σ H E I hf st hg;subst hP hw hK;erw[hg,xs,ha,hx];erw[I.tuple ha,its,ra,pa,za];let hl:=↑ra;erw[st,h1,h2,[u,v,h3],h4,h5,D];refine AwZ.zip_stop (A:=X.A) (I.ok.hd U) D h1 h2 h4 (show s.heap.IsTuple a its.toArray from pa) (by simp;omega) λh' kk=>[1:?_]
  exact I.turnedL (t':=s.toks) (λc o U e=>by
   simp![uG,uZ,uV,Va] at U;exact kk c o U.1 U.2.2.1 U.2.2.2.1 U.2.2.2.2 e) hf
 self:=λ_ _ _ _ _ st h=>Fe st.1 h
section
variable {X:Cx}
variable {n:Nat}
def Ab8 {a b:Nat}(ha:a<n)(U:b<n):AwZ.Apt (n+4) (n+2) (n+3) n (n+1) a b:=by
 constructor<;>exact(show _≠((_:Nat)) by omega)
def SR {x:Nat}(h:x=n+4\/x=n+2\/x=n+3\/x=n\/x=n+1):n<=x:=by omega
def Aat {m x:Nat}(hm:m=n+1)(h:x=m\/x=n):n<=x:=by omega
abbrev AeA (K:o0)(ta:TA):TI:=λσ H R=>ta σ H λvs H1=>∃a b xs ys,vs= [-a,-b]/\SqT K H1 a xs/\SqL K H1 b ys/\R (Itz K a b) H1
def Abf {U:oj Expr}{c:Nat}{tp p pos:Pos}{e1 e2:Expr}{ta:TA}(hg:Gl X "zip")(hm:X.mg "zip"=U_)(ha:PA X [e1,e2] ta)(hs:Vi [e1,e2] X.env= [(Vd,eval e1 X.env),(Vd,eval e2 X.env)])(Z:Vi [e2] X.env= [(Vd,eval e2 X.env)]):
  PI X (.Tuple U c tp) (.Call (.Name "zip" p) [e1,e2] [] pos) (AeA X.K ta):=by
 rw[2,R,I,h];refine HD (Z6 I hg hm boot_zip (vy (thn (ha pos oq s σ H _ I h) λus s1 zq=>?_) (by rw[hs,Z]) (by rw[Z];rfl)));erw[zq,vs,H1,I1,r1,q1]
 erw[q1,a,b,xs,ys,e,hA,hB,q];subst e;erw[C9 r1,u,u',rfl,ru,ac];rw[ru,0];rw[ac,0];erw[I1.tuple hA,its,ra,pa,za];erw[I1.list hB,ad,rb,pb,zb];let la:a<#[0,s1]:=by erw[id pa,o,e,_,<-uI e]
 let lb:b<#[0,s1]:=by erw[id pb,o,n,e,_,<-uI e]
 refine AwZ.zip_call (show s1.heap.IsTuple a its.toArray from pa) pb.isList λh2 g1 g2 g3 g4 g5 g6 g7=>?_
 refine Fe (s:={s1 with heap:=h2}) g1 ?_
 rw[_,_,[#[0,s1]+4,#[0,s1]+2,#[0,s1]+3,#[0,s1],#[0,s1]+1],_,_,H1,1,I1.kept (t':=s1.toks) g7,IX a b _ _ _ _ _,(g1,g2,[_:_:g3],g4,g5,?_),λx hx=>?_,q]
 .exact Ab8 la lb
 .let aa:#[0,s1]<=x:=by
   simp![uG,uZ,uV] at hx;exact SR hx
  exact I1.fpOk aa (I1.hok.fresh aa)
abbrev tnE (a e j:o3)(c:Int)(k:Nat)(h:o8):Prop:=(∃old,VV h e j (c+k) old)/\h.IsTupleIter j a k/\e≠j
def Db {P:o9}{aa:oj Expr}{cc:Nat}{tp:Pos}(a e j:o3)(c:Int):NW P w K (.Tuple aa cc tp) (Ite K a c) [e,j] e (tnE a e j c) where
 mem:=by simp
 obj:=λk h st x hx=>by
  erw[st,[Z,h1],[o4,e4,c4,d4],D];simp![uG,uZ,uV] at hx;rcases hx with rfl|rfl
  .exact⟨_,h1,λv z=>by rw[z,0]⟩
  .exact⟨o4,e4,λv z=>by rw[d4,0] at z⟩
 keep:=λk h h' st kk=>by
  erw[st,[Z,h1],[o4,e4,r4],D,<-⟨⟨Z,kk e (by simp) _ h1⟩,⟨o4,kk j (by simp) _ e4,r4⟩,D⟩]
 item:=by
  intro X hP hw hK U k oq s σ H E I hf st hg;subst hP hw hK;erw[hg,xs,x,ha,hx];erw[I.tuple ha,its,ra,pa,za];erw[ra.get hx,ux,af,ag];erw[st,[Z,h1],h4,D];let l1:=uI h1;let l4:j<#[0,s]:=by erw[h4,o,e,_,<-uI e]
  refine AwZ.enum_go h1 h4 (show s.heap.IsTuple a its.toArray from pa) (x:=ux) (by simpa using af) D λh' g1 g3 g5 g6 g7=>?_
  obtain⟨I1,ac⟩:=I.handed (t':=s.toks+1) (ys:= [.int (c+k),x]) (its:= [.int (c+k) s.toks,ux]) hf (λc U=>by
   simp![uG,uZ,uV] at U;rcases U with rfl|rfl<;>assumption) (.cons (show ik (V.int (c+k)) _ from⟨0⟩) (.cons ag .nil)) (by show 2<=Vh;decide) g5 g6 (λc o U e=>by
    simp![uG,uZ,uV,Va] at U;exact g7 c o U.1 U.2 e)
  rw[0,wpAny_letOwnedTupleGo_enum (s:={s with heap:=h',toks:=s.toks+1}) g1 λad z2 s2=>?_]
  let ae:∀c o,c≠e->h'.get? c=u_ o->ad.get? c=u_ o:=λc o U e=>s2.extBut c o U e;rw[_,.ref #[0,s],_,I1.turnedL (fp:= [e]) (h':=ad) (t':=s.toks+1) (λc o U e=>ae c o (by simpa using U) e) (λc U=>ac c (by simp at U;simp[U])),1,(_,x,1,I.fresh,1,λzs ah=>?_),[[ux:?_]:?_:D],λc U=>(ac c U).1]
  .rwa[I.tuple_inj ah ha]
  .let e1:c+((k+1:Nat):Int)=c+(k:Int)+1:=by omega
   rwa[e1]
  .erw[g3,o,e,q,<-[o:ae _ _ (U4 D) e:q]]
 done:=by
  intro X hP hw hK U k oq s σ H E I hf st hg;subst hP hw hK;erw[hg,xs,ha,hx];erw[I.tuple ha,its,ra,pa,za];let hl:=↑ra;erw[st,[Z,h1],h4,D];refine AwZ.enum_stop (A:=X.A) (I.ok.hd U) h1 h4 (show s.heap.IsTuple a its.toArray from pa) (by simp;omega) λh' kk=>[1:?_]
  exact I.turnedL (t':=s.toks) (λc o U e=>by
   simp![uG,uZ,uV,Va] at U;exact kk c o U.2 e) hf
 self:=λ_ _ _ _ _ st h=>by
  erw[st,[Z,h1],_,<-rY h1 h]
abbrev IP (K:o0)(w:og)(a:o3):Prop:=(a==Vy)=Vd/\∃es n,K.lookup a=u_ (.type "dict",U_,.dict es n,#[])/\PySem.W.KeysLit w.params es.toList
inductive Ac1 (K:PySem.W.Frag)(w:World)(x:V)(y:V)(H:Hp)(Q:VK):Prop
 |mk (z:_)(a:_)(r:_)(_:x= !z)(_:y=-a)(_:IP K w a)(_:PySem.W.nsIn K a z=u_ r)(_:Q (.bl (!(r.isSome))) H)
def Pm:OpR X (Vn .NotIn) (Ac1 X.K X.w):=by
 rw[2,x,y,v,u,Q,I,Z,ry,h];erw[h,z,a,r,rfl,rfl,[hs,es,n,U,hk],hn,q];erw[Z,t,rfl];rw[ry,0];let hm:=PySem.W.mapOf_K (prog:=X.prog) (w:=X.w) I.kIn U hk;refine Rc (tL X.prog X.w z t) hs hm (.bl (!(r.isSome)),H,I.tok _,?_,q);rw[PySem.W.find_K U hn]
 rfl
inductive Aes (K:PySem.W.Frag)(w:World)(x:V)(y:V)(H:Hp)(Q:VK):Prop
 |mk (z:_)(a:_)(u:_)(v:_)(_:x=-a)(_:y= !z)(_:IP K w a)(_:PySem.W.nsIn K a z=u_ (u_ u))(_:ik v u)(_:Q v H)
def Ad0:IxR X (Aes X.K X.w):=by
 intro value slice oq s σ H x y v u Q I Z ry h hs;erw[h,z,a,u',v',rfl,rfl,[_,es,n,U,hk],hn,hr,q];erw[ry,t,rfl];rw[Z,0];let hm:=PySem.W.mapOf_K (prog:=X.prog) (w:=X.w) I.kIn U hk;exact Ht hm.typeIs slot_dict_getitem.lookup (FK (tL X.prog X.w z t) hm (PySem.W.find_K U hn) (v',H,I.tok _,hr,q)) hs
end
section
variable {X:Cx}{K:o0}
def DQ {es:oj Expr}{k:Nat}{t:TGs}{n:Nat}{pos:Pos}(Z:X.K=K)(hc:X.calm=v_)(h:PGs X es t)
  (hn:↑(V_ es X.env)=n) (U:(V_ es X.env).findIdx? (·.1)=U_):PG X (.Tuple es k pos) (Adn K n t):=by subst Z;exact Ka hc h hn U
end
def wk {lo:Int}{n:Nat}{L:o3}{H1:Hp}{te:TE}{tl:St}{Q:VK}(C:Nat->oj V->Hp->Prop)(hn:n<=Vh)(h0:C 0 [] (upd H1 L (.lst [])))
  (hs:∀i ys H,i<n->C i ys H->H L=u_ (.lst ys)->↑ys<=i->∀R:VK,(∀y H4,H4 L=u_ (.lst ys)->C (i+1) (ys++ [y]) (upd H4 L (.lst (ys++ [y])))->R y H4)->te (u_ (.int (lo+(i:Int)))::tl) H R)
  (hQ:∀ys H,C n ys H->H L=u_ (.lst ys)->Q (-L) H):AJ L (Itr lo n) (YD 0) nH te (U_::tl) H1 Q:=by
 rw[_,n,λi σ ys H=>(∃x,σ=x::tl)/\C i ys H,hn,[[U_:1]:h0],?_,?_]
 .rintro i σ ys H hi ⟨⟨x,rfl⟩,U⟩ Z hy;rw[_,hi];rintro x' H' ⟨rfl,rfl⟩;dsimp![YD,nH,GB];rw[A6 rfl];exact hs i ys H' hi U Z hy _ λy H4 e c=>[e:⟨0⟩:c]
 .rintro σ ys H ⟨_,U⟩ Z;exact[uq _:hQ ys H U Z]
def AbC {K:o0}{a b A:o3}{H1:Hp}{te:TE}{tl:St}{Q:VK}{xs ys:oj V}(f:Nat->D)(ha:∀H,ic H1 H->SqT K H a xs)(hb:∀H,ic H1 H->SqL K H b ys)(ad:↑xs=↑ys)(hn:↑xs<=Vh)(hA:H1 A=U_)
  (aa:∀i x y H (R:VK),xs[i]? =u_ x->ys[i]? =u_ y->ic H1 H->(∀v H',ic H H'->Is H' (f i) v->R v H')->te (u_ x::u_ y::tl) H R)
  (hQ:∀H' vs,ic H1 H'->H' A=u_ (.lst vs)->L2.IsL H' ((Vq ↑xs).map f) vs->Q (-A) H'):AJ A (Itz K a b) (Adn K 2 (SL (YD 0) (SL (YD 1) Ad2))) nH te (U_::U_::tl) H1 Q:=by
 rw[_,↑xs,λi σ us H=>(∃u v,σ=u::v::tl)/\L2.IsL H ((Vq i).map f) us/\ic H1 H,hn,[[U_:U_:1]:1:qf hA _],?_,?_]
 .rintro i σ us H hi ⟨⟨u,v,rfl⟩,hl,sm⟩ U ae;let hx:xs[i]? =u_ xs[i]:=ug hi;let hy:ys[i]? =u_ (ys[i]'()):=ug _
  rw[_,(xs,ys,_,_,ha H sm,hb H sm,hx,hy),λx H' y=>?_];erw[y,p,x',y',rfl,hp,rfl,e1,e2];let e1:=e1 xs (ha H sm);let e2:=e2 ys (hb H sm);let s2:ic H (upd H p (-[x',y'])):=qf hp _;rw[_,p,0,SqT.of qg,1,x',0,y',0,1];dsimp![nH];rw[A6 rfl];refine aa i x' y' _ _ e1 e2 (sm.trans s2) λy4 H4 Z ac=>(Z _ _ (s2 _ _ U),[_:0],?_,λb o e=>?_)
  .let t:Tk H4 (upd H4 A (.lst (us++ [y4]))):=Tk.updL (Z _ _ (s2 _ _ U));rw[RK,uA];exact((hl.mono (s2.trans Z).tk).mono t).append (IsL.one (ac.mono t))
  .rw[qi (qk e hA)];exact Z b o (s2 b o (sm b o e))
 .rintro σ us H ⟨_,hl,sm⟩ U;exact[[xs:ha H sm:1]:hQ H us sm U hl]
def JU (z:Str)(l:oj Str):inV (!z) (l.map V.str)=decide (z>l):=by
 unfold inV;rw[Hx,U5,Te,vo];constructor
 .rintro⟨x,Z,e⟩;let U:(x==z)=true:=e;rw[beq_iff_eq] at U;exact U▸Z
 .intro h;exact⟨z,h,by show(z==z)=v_;exact beq_self_eq_true z⟩
def YT (l:oj Str):(l.map V.str).all zY=true:=by
 rw[UV,Ua];intro x _
 rfl
inductive Pt where
 |s (z:Str)|n (i:Int)
abbrev Pt.d:Pt->D
 | .s z=> !z| .n i=> .int i
abbrev Pt.t:Pt->Str
 | .s z=>z| .n i=>Vm i
inductive Kd where
 |box|line|words
 deriving DecidableEq
abbrev Kd.t:Kd->Str
 | .box=>"box"| .line=>"line"| .words=>"words"
abbrev BX:oj Str:= ["a","b","c","d","e","f","g","h"]
abbrev FRM:oj (Str×oj Kd):= [("text",[.box,.words]),("self",[.box]),("copy",[.box,.box]),("row",[.box]),("put",[.box,.box]),("join",[.box,.box]),("first",[.box,.box]),("rest",[.box,.box]),
 ("size",[.box,.box]),("cut",[.box,.box,.box]),("glue",[.box,.box,.box]),("ask",[.box,.box]),("has",[.box,.box]),("names",[.box,.box]),("go",[.line]),("like",[.box,.box,.line]),
 ("rowed",[.box,.line]),("none",[.box,.line]),("say",[.box]),("fault",[])]
abbrev Abd (n m:Nat):Kd->Pt->Prop
 | .box,.s z=>z>BX| .line,.n i=>1<=i/\i<=n| .words,.s z=>↑z<=m/\z.cps.toList.all QE=v_|_,_=>False
abbrev Xe (n m:Nat):oj Kd->oj Pt->Prop
 | [],[]=>True|k::ks,p::ps=>Abd n m k p/\Xe n m ks ps|_,_=>False
nonrec abbrev Rw:=Str×oj Pt
abbrev JA (n m:Nat)(r:Rw):Prop:=∃ks,(r.1,ks)>FRM/\Xe n m ks r.2
abbrev txs (r:Rw):oj Str:=r.1::r.2.map Pt.t
abbrev Yt (r:Rw):Str:=Vl " " (txs r)
abbrev rowD (r:Rw):D:=-[.str r.1,.tup (r.2.map Pt.d)]
def xf:∀(x y:Str) (r:oj Str),(Vl " " (x::y::r)).cps.toList=x.cps.toList++32::(Vl " " (y::r)).cps.toList:=by
 intro x y r;show((x.cps++(" ":Str).cps)++(Vl " " (y::r)).cps).toList=_;rw[tK,tK,xu];simp
nonrec abbrev C3 (z:Str):Prop:=32∉z.cps.toList
def KY:∀(l:oj Str) (z:Str) (n:Nat),(∀p>l,C3 p)->(n=0\/C3 z)->spl (↑l+n) (Vl " " (l++ [z]))=l++ [z]
 | [],z,n,_,hz=>by
  show spl (0+n) z= [z];rw[Tc];unfold spl;rcases hz with rfl|hz
  .rw[ll];show [ofL z.cps.toList]= [z];rw[yg]
  .rw[Wn hz];show [ofL z.cps.toList]= [z];rw[yg]
 |p::l,z,n,hl,hz=>by
  let U:=KY l z n (λq Z=>hl q (uh _ Z)) hz;let hp:C3 p:=hl p uj;obtain⟨y,r,e⟩:∃y r,l++ [z]=y::r:=by cases l<;>exact[_:0]
  show spl ((↑l+1)+n) (Vl " " (p::(l++ [z])))=p::(l++ [z]);rw[e] at U⊢;unfold spl at U⊢;rw[xf,show ↑l+1+n=(↑l+n)+1 by omega,Cg hp,uC,U,yg]
def SE (w:Str)(r:oj Str)(h:C3 w):hd (Vl " " (w::r))=w:=by
 let U:∀(p q:oj Nat),32∉p->xF 32 (p++32::q)=p:=by
  intro p
  induction p with
  |nil=>intro q _;simp[xF]|cons a p Z=>
   intro q h;let h1:a≠32:=λe=>h (by simp[e])
   show xF 32 (a::(p++32::q))=a::p;rw[xF,A4 h1,Z q λz=>h (uh _ z)]
 cases r with
 |nil=>
  show ofL (xF 32 w.cps.toList)=w;rw[zZ h,yg]
 |cons y r=>
  unfold hd;rw[xf,U _ _ h,yg]
def BV:∀(l:oj Str),l≠ []->(Vl " " l).length+1=(l.map (·.length)).sum+↑l
 | [],h=>A8 rfl h| [x],_=>by simp[Vl]|x::y::r,_=>by
  let U:=BV (y::r) (by simp)
  let e:(Vl " " (x::y::r)).length=↑x+(1+(Vl " " (y::r)).length):=by
   have:=Aa VI (xf x y r);rw[uw,um] at this;simp![vt] at this;show(Vl " " (x::y::r)).cps.size=_;rw[this];show x.cps.size+((Vl " " (y::r)).cps.size+1)=x.cps.size+(1+(Vl " " (y::r)).cps.size);omega
  rw[e,uC,UN,um];omega
def oR {i:Int}(h1:1<=i)(h2:i<=40):↑(Vm i:Str)<=2/\C3 (Vm i:Str)/\(Vm i:Str).cps.toList.all QE=true:=by
 obtain⟨k,rfl⟩:∃k:Fin 41,i=((k.val:Nat):Int):=⟨[i.toNat:()],by simp;omega⟩
 let U:∀k:Fin 41,↑(Vm ((k.val:Nat):Int):Str)<=2/\decide (C3 (Vm ((k.val:Nat):Int):Str))=v_/\(Vm ((k.val:Nat):Int):Str).cps.toList.all QE=true:=by decide+kernel
 erw[U k,a,b,c,<-[a:ur b:c]]
def qaz {i:Int}(h1:1<=i)(h2:i<=40):PySem.intText? (Vm i:Str)=u_ i:=PySem.W.KIN.num_reads () ()
variable {z:Str}
def NS (h:z>BX):↑z=1/\C3 z/\z.cps.toList.all QE=true:=by
 let U:∀z>BX,↑z=1/\decide (C3 z)=v_/\z.cps.toList.all QE=true:=by decide+kernel
 erw[U z h,a,b,c,<-[a:ur b:c]]
def C8:∀x>FRM,decide (C3 x.1)=v_/\x.1.cps.toList.all QE=true:=by decide+kernel
def SO:∀x>FRM,(decide (Kd.words>x.2)=Vd)\/x=(("text":Str),[Kd.box,Kd.words]):=by decide+kernel
def E7:∀x>FRM,∀y>FRM,x.1=y.1->x=y:=by decide+kernel
variable {n:Nat}
def oz {m:Nat}(hn:n<=40){k:Kd}{p:Pt}(h:Abd n m k p)(U:k≠ .words):C3 p.t:=by
 cases k<;>cases p<;>simp![Abd] at h
 .exact(NS h).2.1
 .exact(oR h.1 ()).2.1
 .exact A8 rfl U
def ZM {n m:Nat}:∀{ks:oj Kd}{ps:oj Pt},Xe n m ks ps->↑ps=↑ks
 | [],[],_=>rfl|_::_,_::_,h=>by rw[um,um,ZM h.2]| [],_::_,h=>h.elim|_::_,[],h=>h.elim
def Kq {n m:Nat}(hn:n<=40):∀{ks:oj Kd}{ps:oj Pt},Xe n m ks ps->Kd.words∉ks->∀p>ps.map Pt.t,C3 p
 | [],[],_,_=>λp U=>by simp at U|_::_,_::_,h,hk=>λp U=>by
  rw[uC] at U;rcases Ab.mp U with rfl|U
  .exact oz hn h.1 λe=>hk (by simp[e])
  .exact Kq hn h.2 (λz=>hk (uh _ z)) p U
 | [],_::_,h,_=>h.elim|_::_,[],h,_=>h.elim
variable {r:Rw}
def So {m:Nat}(h:JA n m r):hd (Yt r)=r.1:=by
 erw[h,ks,U,Z,<-SE _ _ (ur (C8 _ U).1)]
variable {ks:oj Kd}
def Mi {m:Nat}(hn:n<=40)(hk:(r.1,ks)>FRM)(hp:Xe n m ks r.2):spl (if Kd.words>ks then ↑ks else(Yt r).length+1) (Yt r)=txs r:=by
 let hw:C3 r.1:=ur (C8 _ hk).1;by_cases h:Kd.words>ks
 .rw[A6 h];rcases SO _ hk with e|e
  .simp at e;exact A8 h e
  .let e1:ks= [.box,.words]:=Aa Prod.snd e;subst e1;erw[r,w,ps]
   match ps,hp with
   | [p,q],hp=>
    have:=KY [w,p.t] q.t 0 (λz hz=>by
     simp![uG,uZ,uV] at hz;rcases hz with rfl|rfl
     .exact hw
     .exact oz hn hp.1 ()) (.inl rfl)
    exact this
 .rw[A4 h];let hf:∀p>txs r,C3 p:=λp Z=>by
   rcases Ab.mp Z with rfl|Z
   .exact hw
   .exact Kq hn hp h p Z
  rcases rT (txs r) with e|⟨l,z,e⟩
  .simp[txs] at e
  .rw[rW] at e;let U:=BV (txs r) (by simp[txs])
   unfold Yt;rw[e] at hf U⊢;let hl:↑l<=(Vl " " (l++ [z])).length:=by
    rw[uw] at U;simp![um,vn] at U;omega
   have:=KY l z ((Vl " " (l++ [z])).length+1-↑l) (λq hq=>hf q (vO _ hq)) (.inr (hf z (by simp)))
   rw[show ↑l+((Vl " " (l++ [z])).length+1-↑l)=(Vl " " (l++ [z])).length+1 by omega] at this
   exact this
abbrev VE:oj o6:= [.type "ValueError",.type "Exception",.type "BaseException",.type "object"]
abbrev CX1 (P:o9)(w:og):CXT:=λouter H s E e s'=>∃(ea C:o3) (a0:o6) (H':Hp) (B:o8),e= .ref ea/\s'.os=s.os/\VX s'.gens/\0<s'.toks/\Un (frs outer) [] H H' s.heap s'.heap/\HOk P w H' B/\
 RX B outer ea (-C) a0 s'.heap/\(∀b o,s.heap.get? b=u_ o->b∉frs outer->∃o',B.get? b=u_ o')/\E (-ea) (u_ C) H'
variable {h:o8}{C:o3}
set_option tactic.hygienic true in
def Ab3 {bmB:oj o6}{newId:String}(X:K.In h)(q:PySem.W.excIn K C bmB newId=v_):
  ∃bm N nm qn bs hdct sn sub ab col dd k0 k1 k2 k3 k5 mN,h.get? C=u_ (excClassObj nm qn C N bs bm hdct sn sub ab col dd k0 k1 k2 k3 k5 newId)/\h.Ns N mN/\mN "__init__"=U_/\OwnTail h bmB bm:=by
 unfold PySem.W.excIn at q;split at q
 .rename_i dd cd sl ho
  split at q
  .rename_i C' bm k0 k1 k2 k3 n k5 hm hs
   simp![uF,beq_iff_eq,Bool.not_eq_true'] at q;erw[q,[[[[rfl,rfl],U],ht],hok],Z];erw[cd,nm,bs,aa,ns,qn,hd,sn,sub,ab,col,ac];dsimp only at hm U hok Z;subst hm U;obtain⟨l⟩:=sl;simp only at hs;subst hs;exact(bm,ns,nm,qn,bs,hd,sn,sub,ab,col,dd,k0,k1,k2,k3,k5,_,X _ _ ho,.of_isNs (PySem.W.isNs_of_in X hok),PySem.W.nsMap_none_of_in X hok Z,PySem.W.tail_of_in X ht)
  .rw[q,0]
 .rw[q,0]
def sF {h base B:o8}:∀{l:oj Env},h.FunFrames base l->(∀b>frs l,B.get? b=U_)->h.FunFrames B l
 | [],_,_=>trivial|env::r,⟨hk,⟨L,o,hf,hn,ho,hd⟩,hr⟩,hB=>by
  let e:frs (env::r)=L::frs r:=by unfold frs;rw[U3,hf]
  rw[e] at hB;exact[hk:(L,o,hf,hB L uj,ho,hd):sF hr λb U=>hB b (uh _ U)]
abbrev AaC (E:XK)(C:o3)(ta:TE):TS:=λ_ σ H=>La ta AaD σ H λvs H1=>↑vs=1/\∀e,E (-e) (u_ C) H1
def KM {P:o9}{w:og}{K:o0}{mg:Str->om o6}{base:o8}{N:oj Str}{qual:Str}{scope:Vw}{f:o3}{Z:o6}{A:oh}{outer:oj Env}{s₀:o7}{H₀:Hp}{E:XK}
  {x:Str}{C:o3}{np cpos pos:Pos}{aa:Expr}{ta:TE} (hx:PySem.W.excIn K C VE "ValueError.__new__"=v_) (hg:Gl (cxOf (CX1 P w) P w K mg base N qual scope f Z A outer s₀ H₀ E) x) (hm:mg x=u_ (-C))
  (ha:PE (cxOf (CX1 P w) P w K mg base N qual scope f Z A outer s₀ H₀ E) aa ta) (hd:(x==("__debug__":Str))=Vd)
  (hs:Vi [aa] (Vk qual scope #[0,s₀] f Z)= [(Vd,eval aa (Vk qual scope #[0,s₀] f Z))]):
  PS (cxOf (CX1 P w) P w K mg base N qual scope f Z A outer s₀ H₀ E) (.Raise (u_ (.Call (.Name x np) [aa] [] cpos)) U_ pos) (AaC E C ta):=by
 rw[2,D,I,h];erw[Ab3 I.mod.kin hx,bm,Nn,nm,q,bs,hdct,sn,sub,ab,col,dd,k0,k1,k2,k3,k5,mN,hC,hN,aq,T];let hT:bm.contains (.type "BaseException")=true:=T.hasType ()
 refine wpAny_Raise_call_subT (C:=C) (nm:=nm) (q:=q) (N:=Nn) (bs:=bs) (bm:=bm) (hdct:=hdct) (sn:=sn) (sub:=sub) (ab:=ab) (col:=col) (dd:=dd) (k0:=k0) (k1:=k1) (k2:=k2) (k3:=k3) (k5:=k5)
  (mN:=mN) F.excBase_ValueError hT (I.ok.hd rfl) (by show(Vo cpos (Vi [aa] (Vk qual scope #[0,s₀] f Z))).any (·.1)=Vd;rw[hs];rfl) aq (wu I hg hm [1:?_] hd)
 let au:PA (cxOf (CX1 P w) P w K mg base N qual scope f Z A outer s₀ H₀ E) [aa] (La ta AaD):=qb ha qd hs;let hp:=au cpos oq s σ H (λvs H1=>↑vs=1/\∀e,E (-e) (u_ C) H1) I h;show Ve _ _ (evalArgs (-C) v_ (Vo cpos (Vi [aa] (Vk qual scope #[0,s₀] f Z))) []) _ _ s;let aw:Vi [aa] (cxOf (CX1 P w) P w K mg base N qual scope f Z A outer s₀ H₀ E).env= [(Vd,eval aa (Vk qual scope #[0,s₀] f Z))]:=hs;rw[aw] at hp;rw[hs];refine Uj (vz hp (λvs s₂ h₂=>?_) λ_ _ y=>y);erw[h₂,ws,H2,I2,r2,q2];erw[q2,hl,q2];let bk:=I2.bk;let ax:↑vs<=sizeLine:=by rw[<-↑r2,hl];decide
 rw[1,ax,bk _ _ hC,hN.keeps bk,T.keeps bk,λh' e ad=>?_];show Ve (Vt P w) (A.deeper (Vk qual scope #[0,s₀] f Z)) (Tl (Vk qual scope #[0,s₀] f Z) (-e)) (λ_ ag=>CX1 P w outer H₀ s₀ E (-e) ag) (λe' ag=>CX1 P w outer H₀ s₀ E e' ag) _;let ay:(A.deeper (Vk qual scope #[0,s₀] f Z)).frames=u_ (Vk qual scope #[0,s₀] f Z::outer):=I2.ok.frames;let ak:s₂.heap.FunFrames base (Vk qual scope #[0,s₀] f Z::outer):=I2.stack;let ah:∀b>frs (Vk qual scope #[0,s₀] f Z::outer),H2 b=none:=I2.stkFree;let al:frs (Vk qual scope #[0,s₀] f Z::outer)=#[0,s₀]::frs outer:=rfl;let ap:#[0,s₀]<=#[0,s₀]:=I2.ok.above;let U:Un (frs outer) [] H₀ H2 s₀.heap s₂.heap:=I2.base;refine wpAny_leaves_madeW (base:=TI.gone s₂.heap (frs (Vk qual scope #[0,s₀] f Z::outer))) (h:=s₂.heap) (L:=#[0,s₀]) ay rfl (λb o e=>(TI.gone_some e).2) (sF ak λb hb=>TI.gone_none hb) ad λam t af aB _ aA=>?_;let ae:∀b o,b∉frs (Vk qual scope #[0,s₀] f Z::outer)->s₂.heap.get? b=u_ o->am.get? b=u_ o:=λb o hb e=>af.1 b o (by rwa[TI.gone_get hb])
 let slots:∀b o,s₂.heap.get? b=u_ o->(∀vs,o.data≠ .fields vs)->∃sl,am.get? b=u_ {o with slots:=sl}:=λb o e hn=>aA b o (ad.keeps b o e) hn
 let nd:∀b>frs outer,∀o,s₂.heap.get? b=u_ o->∀vs,o.data≠ .fields vs:=λb hb o e=>by
  obtain⟨_,o',e',hn⟩:=ak.mem (show b>(Vk qual scope #[0,s₀] f Z::outer).filterMap (·.frame) from by rw[show(Vk qual scope #[0,s₀] f Z::outer).filterMap (·.frame)=frs (Vk qual scope #[0,s₀] f Z::outer) from rfl,al];exact uh _ hb)
  rw[e] at e';rw[e',0];exact hn
 let ac:∀b o,s₀.heap.get? b=u_ o->b∉frs outer->b∉frs (Vk qual scope #[0,s₀] f Z::outer):=λb o e hb hm=>by
  rw[al] at hm;rcases Ab.mp hm with rfl|hm
  .exact A8 (uI e) (vM _)
  .exact hb hm
 rw[_,e,C,-t,H2,0,I2.os,I2.bare,(by first|exact I2.tk|exact Vs I2.tk (tE _ _)|((try dsimp only);first|assumption|exact Inv.tk (by assumption)|exact tT _|exact Vs (Inv.tk (by assumption)) (by assumption)|exact Nat.add_pos_left (Inv.tk (by assumption)) _|omega)),(?_,?_,U.free,?_,U.tups,U.frzs,U.tbls),?_,af,?_,q2 e]
 .intro b o e1 hn hb hx;exact ae b o (ac b o e1 hb) (U.keep b o e1 hn hb hx)
 .intro b o e1 hn hb hx;erw[U.slot b o e1 hn hb hx,sl,e2];erw[slots b _ e2 (nd b hb _ e2),ao,e3,<-[ao:e3]]
 .intro b o e1 hx;erw[U.there b o e1 hx,o',e2];by_cases hb:b>frs outer
  .erw[slots b _ e2 (nd b hb _ e2),ao,e3,<-[_:e3]]
  .exact[o':ae b o' (ac b o e1 hb) e2]
 .intro b u hb;refine(I2.hok b u hb).stay (λc v hc q=>?_) (λ_ q=>q) λ_ _ q=>q;rw[TI.gone_get]
  .exact q
  .intro hm;let hn:=ah c hm;rcases hc with z|z
   .rw[z,hb,0] at hn
   .rw[z,0] at hn
 .intro b o e1 hb;obtain⟨o',e2⟩:=U.there b o e1 (by simp)
  exact⟨o',by rwa[TI.gone_get (ac b o e1 hb)]⟩
nonrec abbrev Cx.marked (X:Cx)(ee:o3)(xe:o6->o7->Prop):Cx:={X with A:=X.A.mark (u_ (-ee)),calm:=Vd,xe:=xe}
section
variable {X:Cx}{oq:oj (o3×Obj)}{σ:St}{H:Hp}{s:o7}{ee:o3}{xe:o6->o7->Prop}
def Cx.Ok.marked (ok:X.Ok):(X.marked ee xe).Ok:=
 (ok.mod,ok.kind,ok.glob,ok.blt,ok.above,ok.inj,ok.has,ok.cab,(λz=>A8 z uf),ok.frames,ok.stk,ok.exf,ok.bs,ok.bsz,ok.noex,ok.exfs,ok.funs,ok.frf)
def Inv.marked (I:#[I]):Inv (X.marked ee xe) oq σ H s:=(I.ok.marked,I.os,I.bare,I.base,I.loc,I.cell,I.free,I.freeC,I.pin,I.hok,I.len,I.tk)
def Inv.unmarked (ok:X.Ok)(I:Inv (X.marked ee xe) oq σ H s):#[I]:=(ok,I.os,I.bare,I.base,I.loc,I.cell,I.free,I.freeC,I.pin,I.hok,I.len,I.tk)
def SP.unmarked (ok:X.Ok){D:mY}{f:Flow}{s':o7}(h:SP (X.marked ee xe) oq D f s'):SP X oq D f s':=by
 cases f with
 |next=>erw[h,U,H',I,q,<-(U,H',I.unmarked ok,q)]|brk=>erw[h,U,H',I,q,<-(U,H',I.unmarked ok,q)]|cont=>erw[h,U,H',I,q,<-(U,H',I.unmarked ok,q)]|ret u=>erw[h,v,U,H',I,r,q,<-(v,U,H',I.unmarked ok,r,q)]
abbrev Cat (X:Cx)(oq:oj (o3×Obj))(σ:St)(E:XK)(e:o6)(s':o7):Prop:=∃H1 s1,Inv X oq σ H1 s1/\CX1 X.prog X.w X.stack H1 s1 E e s'
def MG {D:mY}{e:o6}{s':o7}{c:Str}{np am:Pos}{Cc C':o3}{b₀:Stmt}{ac:oj Stmt}{ts:TS}(aw:Cat X oq σ (λ_ C H2=>C=u_ Cc/\ts D σ H2) e s')(ad:X.stack=X.env::X.outer/\X.env.frame=u_ X.env.locals)
  (hg:Gl X c) (hm:X.mg c=u_ (-C')) (hx:PySem.W.exmOne X.K (-Cc) (-C')=u_ v_) (hs:∀ee xe,PSs (X.marked ee xe) (b₀::ac) ts) (ax:(c==("__debug__":Str))=Vd):
  Ve #[X,X] X.A (noteFrame e X.env) (λ_ s2=>Ve #[X,X] X.A (setFlight e U_) (λ_ s3=>Ve #[X,X] X.A (handleBy e X.env [.ExceptHandler (u_ (.Name c np)) U_ (b₀::ac) am]) (SP X oq D) X.xe s3) X.xe s2) X.xe s':=by
 erw[aw,H1,s1,I,ea,C,a0,H',B,rfl,ay,ah,htk,U,ao,aa,hold,hC,aA];cases hC;let step:∀hk,B.StaysIn hk->s'.heap.UpToSlots hk->Inv X oq σ H' {s' with heap:=hk}:=by
  intro hk hB hU;let nd:∀b>frs X.stack,∀o,s'.heap.get? b=u_ o->∀vs,o.data≠ .fields vs:=λb hb o e=>by
   obtain⟨_,o',e',hn⟩:=aa.2.2.1.mem (show b>X.stack.filterMap (·.frame) from hb)
   rw[e] at e';rw[e',0];exact hn
  let aB:∀b o o',B.get? b=u_ o'->s'.heap.get? b=u_ o->hk.get? b=u_ o:=λb o o' e1 e2=>by
   have:=aa.1 b o' e1;rw[e2,0] at this;exact hB b o e1
  refine I.call' (s':={s' with heap:=hk}) (ch:= []) ay (?_,?_,U.free,?_,U.tups,U.frzs,U.tbls) (ao.kept λb u e=>hB b u e) ah (λb z=>by simp at z)
  .intro b o e1 hn hb ae;erw[hold b o e1 hb,o',e2,<-aB b o o' e2 (U.keep b o e1 hn hb ae)]
  .intro b o e1 hn hb ae;erw[U.slot b o e1 hn hb ae,sl,e2];erw[hU b _ e2 (nd b hb _ e2),ap,e3,<-[ap:e3]]
  .intro b o e1 ae;by_cases hb:b>frs X.stack
   .erw[U.there b o e1 ae,o',e2];erw[hU b _ e2 (nd b hb _ e2),ap,e3,<-[_:e3]]
   .erw[hold b o e1 hb,o',e2,<-[o':hB b o' e2]]
 rw[ad.1] at aa;let aC:X.A.frames=u_ (X.env::X.outer):=by rw[I.ok.frames,ad.1]
 refine wpAny_looks_onW (base:=B) aC ad.2 aa λh1 ak af=>?_;refine wpAny_landsW ak λh2 Z ag=>?_;let I2:=step h2 Z.1 (af.trans ag);refine wpAny_handleBy_cons (codeAny_handlers_test ?_) (by intro q;rw[q,0])
 refine wu (X:=X.marked ea X.xe) I2.marked hg hm ?_ ax;erw[Z.there,oe,he,aq];let LT:PySem.W.Looks #[X,X] h2 (HY (-ea)) (-Cc):=aq▸(PySem.W.Looks.ld he).andThen .now;refine PySem.W.exm_one I2.kIn LT hx _ _ _ _ (λb o e=>e) ?_;refine codeAny_handlers_suite (lands_againW Z λh3 al au=>?_);let I3:=step h3 al.1 ((af.trans ag).trans au);exact vz (hs ea _ oq _ σ H' D I3.marked aA) (λf s4 h4=>h4.unmarked I.ok) λ_ _ z=>z
end
def Fun.okX {P:o9}{w:og}{K:o0}{mg:Str->om o6}{base:o8}{x qual:Str}{st:Stmt}{f:o3}{fd:Vg}{N ps:oj Str}{k:Nat}{sp:Sp}(F:Fun K x qual st f fd)(S:qv N ps (qj st))(len:∀vs H Q E,sp vs H Q E->↑vs=↑ps)
  (U:∀(cdv:o6) (A:oh) (outer:oj Env) (s:o7) (H:Hp) (vs:oj V) (Q:VK) (E:XK),mB k (A.deeper (Vk qual (qj st) #[0,s] f cdv))->sp vs H Q E->
   ∃t,PSs (cxOf (CX1 P w) P w K mg base N qual (qj st) f cdv A outer s H E) (y9 st) t/\t {nx:=λ_ H'=>Q .non H',rt:=Q} (KK N vs) H):FnOk P w K mg base (CX1 P w) (k+1) f fd ps sp:=by
 erw[F.ex,oc,od,kV,doc,pm,an,cdv,ct,osl,rfl,lk,Z,<-AbT lk Z S len λA outer s H vs Q E hr aa=>U cdv A outer s H vs Q E hr aa]
end L2
namespace HT
open PySem PyProof.Rows
section
variable {prog:o9}{w:og}{A:oh}{E:o6->o7->Prop}{s:o7}
def getItem_tuple_all {t sl:o3}{items:Array o6}{vl vu:o6}{lo hi:om Int}{Q:o6->o7->Prop}(U:GS s.heap t items)(hs:s.heap.IsSliceOf sl vl vu .none)(pl:g_ vl lo)(pu:g_ vu hi)
  (hw:sIx items.size 0 lo=0/\sIx items.size items.size hi=items.size) (h:Q (-t) s):Ve #[w,w] A (VR (-t) (-sl)) Q E s:=by
 erw[id hs,os,aa,ac,ae];let ad:s.TypeIs (-sl) "slice":=[os:aa:ac];unfold VR
 try with_reducible refine VQ ?_
 first|refine A7 (uE ?_)|skip
 refine A7 (rC U.typeIs () ?_)
 refine A7 (vv (name:=Gz "__getitem__") U.typeIs vV
  (vR vV U.typeIs RS ?_ (rK _ _)))
 show Ve _ _ (Re (-t)>>=_) _ _ s;refine A7 (Fo U ?_);refine A7 (GC ad ?_);rw[A6 ()]
 refine A7 (Jo hs pl pu ?_);let Z:((((sIx items.size 0 lo:Nat):Int)==0&&(1:Int)==1&&(sIx items.size items.size hi-sIx items.size 0 lo)==items.size)=v_):=by
  rw[hw.1,hw.2];simp
 show Ve _ _ (if(((sIx items.size 0 lo:Nat):Int)==0&&(1:Int)==1&&(sIx items.size items.size hi-sIx items.size 0 lo)==items.size)=v_ then _ else _) _ _ s
 rw[A6 Z];unfold Pd;refine A7 (A7 (GC U.typeIs (uE ?_)));rw[A6 ()]
 exact A7 (UU (uE [0:uE h]))
end
end HT
namespace L2
open PySem PySem.Spec PyProof.Rows
section
variable {X:Cx}
inductive Acz (K:PySem.W.Frag)(x:V)(lo:Option Int)(hi:Option Int)(H:Hp)(Q:VK):Prop
 |mk (a:_)(xs:_)(_:x=-a)(_:SqT K H a xs)(_:(HT.sIx ↑xs 0 lo=0/\HT.sIx ↑xs ↑xs hi=↑xs->Q (-a) H))(_:(¬(HT.sIx ↑xs 0 lo=0/\HT.sIx ↑xs ↑xs hi=↑xs)->∀p,H p=U_->Q (-p) (upd H p (.tup (wr xs lo hi)))))
def YH:SlR X (Acz X.K):=by
 rw[2,x,v,vl,vu,lo,hi,sl,Q,I,rx,hs,pl,pu,h];erw[h,a,xs,rfl,hx,q1,q2];by_cases Z:HT.sIx ↑xs 0 lo=0/\HT.sIx ↑xs ↑xs hi=↑xs
 .rw[rx,0];erw[I.tuple hx,its,r,ht,hz];let U:its.toArray.size=↑xs:=by rw[uB];exact r.length.symm
  rw[_,"tuple",_,PyProof.Rows.slot_tuple_getitem.lookup,ht.typeIs];exact HT.getItem_tuple_all ht hs pl pu (by rwa[U]) (-a,H,I,1,q1 Z)
 .exact AaW oq s σ H (-a) v vl vu lo hi sl Q I rx hs pl pu (a,xs,1,hx,Z,q2 Z)
inductive O6 (x:V)(vs:List V)(H:Hp)(Q:VK):Prop
 |mk (l:Addr)(xs:List V)(i:Nat)(y:V)(_:x=-l)(_:vs= [.int (i:Int),y])(_:H l=u_ (.lst xs))(_:i<=↑xs)(_:↑xs+1<=1000)(_:Q .non (upd H l (.lst (xs.take i++y::xs.drop i))))
def zy:MtM X "list.insert" O6:=by
 rw[2,x,vs,v,us,Q,I,rx,rv,h];erw[h,l,xs,i,y,rfl,rfl,hH,hi,hz,q];rw[rx,0];erw[C9 rv,u,Z,rfl,[t,rfl],ry];erw[I.lstM hH,z,its,n,r,hl,e];obtain⟨x,hx⟩:∃x:Int,x=(i:Int):=⟨0⟩;rw[<-hx];let U:¬(!(Ri) x)=true:=by
  unfold Ri;simp;omega
 let aa:its.toArray.size<=sizeLine:=by rw[uB];omega
 let g:= @PySem.AutoSeq1.list_insert_list_int_val_1 l its.toArray n x t Z U aa;refine vP F.slot_list_insert [_:e:1] F.entry_list_insert (F.args_list_insert_3 _ _ _) g [e:?_];rw[_,.non,_,I.lset (its':=its.take i++Z::its.drop i) hH e ?_ ((r.take i).append (.cons ry (r.drop i))) ?_,1,q]
 .let hk:(if x<0 then(x+((its.toArray.size:Nat):Int)).toNat else min x.toNat its.toArray.size)=i:=by
   rw[A4 (),uB]
   omega
  show(its.toArray.extract 0 (if x<0 then(x+((its.toArray.size:Nat):Int)).toNat else min x.toNat its.toArray.size)).push Z++its.toArray.extract (if x<0 then(x+((its.toArray.size:Nat):Int)).toNat else min x.toNat its.toArray.size)=_
  rw[hk];apply Array.toList_inj.mp;simp;exact vh (by rw[uQ];exact uq _)
 .rw[uw,um,uM,uQ];rw[uD];omega
end
abbrev Ys (n:Nat):Kd->Str->om Pt
 | .words,z=>u_ (.s z)| .box,z=>if z>BX then u_ (.s z) else U_| .line,z=>((Vq n).find? λi:Nat=>decide ((Vm (1+(i:Int)):Str)=z)).map λi:Nat=> .n (1+(i:Int))
abbrev YB (n:Nat):oj Kd->oj Str->om (oj Pt)
 | [],_=>u_ []|k::ks,z::zs=>match Ys n k z,YB n ks zs with
  |some p,u_ ps=>u_ (p::ps)|_,_=>U_
 |_::_,[]=>U_
abbrev xV (w:Str):om (oj Kd):=(FRM.find? λx=>decide (x.1=w)).map (·.2)
abbrev pcs (ks:oj Kd)(z:Str):oj Str:=spl (if Kd.words>ks then ↑ks else ↑z+1) z
abbrev WG (n:Nat)(z:Str):om Rw:=
 if QB z=v_ then match xV (hd z) with
  |none=>U_|some ks=>if(pcs ks z).length=1+↑ks then(YB n ks ((pcs ks z).drop 1)).map λl=>(hd z,l) else U_
 else U_
variable {ks:oj Kd}
def Zh {w:Str}(h:xV w=u_ ks):(w,ks)>FRM:=by
 unfold xV at h;cases e:FRM.find? λx=>decide (x.1=w) with
 |none=>rw[e,0] at h|some x=>
  rw[e] at h;let U:=V0 e;let hm:=vW e;rw[h,0];have:x.1=w:=ur U;subst this;exact hm
def wy {w:Str}(h:xV w=U_):∀x>FRM,x.1≠w:=by
 unfold xV at h;rw[TY,Uz] at h;intro x U e;exact h x U (uc e)
variable {n:Nat}{z:Str}
def DU {m:Nat}{k:Kd}{p:Pt}(hz:↑z<=m)(ha:z.cps.toList.all QE=v_)(h:Ys n k z=u_ p):Abd n m k p/\p.t=z:=by
 cases k with
 |words=>rw[h,0];exact[[hz:ha]:1]|box=>
  simp![Ys] at h;by_cases U:z>BX
  .rw[A6 U,0] at h;exact[U:1]
  .rw[A4 U,0] at h
 |line=>
  simp![Ys] at h;cases e:(Vq n).find? λi:Nat=>decide ((Vm (1+(i:Int)):Str)=z) with
  |none=>rw[e,0] at h|some i=>
   rw[e,0] at h;let h1:=V0 e;let h2:=List.mem_range.mp (vW e);exact[[():()]:ur h1]
set_option tactic.hygienic true in
def kL {n m:Nat}:∀{ks:oj Kd}{zs:oj Str}{ps:oj Pt},(∀z>zs,↑z<=m/\z.cps.toList.all QE=v_)->↑zs=↑ks->YB n ks zs=u_ ps->Xe n m ks ps/\ps.map Pt.t=zs
 | [],[],ps,_,_,h=>by rw[h,0];exact[trivial:1]| [],_::_,_,_,hl,_=>by simp at hl|_::_,[],_,_,hl,_=>by simp at hl|k::ks,z::zs,ps,hz,hl,h=>by
  unfold YB at h;split at h
  .rename_i p qs h1 h2
   rw[h,0];erw[DU (hz z uj).1 (hz z uj).2 h1,U,Z];obtain⟨b1,b2⟩:=kL (λy hy=>hz y (uh _ hy)) (by simpa using hl) h2
   exact⟨[U:b1],by rw[uC,Z,b2]⟩
  .rw[h,0]
abbrev qaF:oj (oj Nat)->oj Nat
 | []=> []| [x]=>x|x::y::r=>x++32::qaF (y::r)
def CN (x:oj Nat){q:oj (oj Nat)}(U:q≠ []):qaF (x::q)=x++32::qaF q:=by
 cases q with
 |nil=>exact A8 rfl U|cons y r=>rfl
def qag:∀(n:Nat) (L:oj Nat),qaF (ll 32 n L)=L
 |0,L=>by simp[ll,qaF]|n+1,[]=>by simp[ll,qaF]|n+1,a::r=>by
  by_cases h:a=32
  .let U:=qag n r;erw[JN 32 n r,p,q,e];rw[ll,A6 h,CN [] (by rw[e];simp),U,h]
   rfl
  .let U:=qag (n+1) r;erw[JN 32 (n+1) r,p,q,e];rw[e] at U;simp![ll,A4 h,e];cases q with
   |nil=>simp![qaF] at U⊢;rw[U]|cons y t=>
    simp![qaF] at U⊢;rw[UR,U]
def BU:∀l:oj (oj Nat),(Vl " " (l.map ofL)).cps.toList=qaF l
 | []=>rfl| [x]=>by show(ofL x).cps.toList=x;unfold ofL;simp|x::y::r=>by
  let U:=BU (y::r);show(Vl " " (ofL x::ofL y::r.map ofL)).cps.toList=_;rw[xf];let e:(ofL x).cps.toList=x:=by unfold ofL;simp
  rw[e];show x++32::(Vl " " ((y::r).map ofL)).cps.toList=_;rw[U]
  rfl
def Lf (n:Nat)(z:Str):Vl " " (spl n z)=z:=by
 unfold spl;let h:=BU (ll 32 n z.cps.toList);rw[qag] at h;rw[<-yg (Vl " " ((ll 32 n z.cps.toList).map ofL)),h,yg]
def Cf:∀(n:Nat) (L:oj Nat),∃q,ll 32 (n+1) L=xF 32 L::q
 |n,[]=>⟨[],by simp[ll,xF]⟩|n,a::r=>by
  by_cases h:a=32
  .exact⟨ll 32 n r,by simp[ll,xF,h]⟩
  .erw[Cf n r,q,e,<-⟨q,by simp![ll,A4 h,e,xF]⟩]
def Le (n:Nat)(z:Str):∃q,spl (n+1) z=hd z::q:=by
 erw[Cf n z.cps.toList,q,e,<-⟨q.map ofL,by unfold spl hd;rw[e];rfl⟩]
def AX:∀(n:Nat) (L:oj Nat),∀p>ll 32 n L,↑p<=↑L/\∀c>p,c>L
 |0,L=>λp U=>by
  simp[ll] at U;subst U;exact[uq _:λc Z=>Z]
 |n+1,[]=>λp U=>by
  simp[ll] at U;subst U;exact[uq _:λc Z=>Z]
 |n+1,a::r=>λp U=>by
  by_cases h:a=32
  .rw[ll,A6 h] at U;rcases Ab.mp U with rfl|U
   .exact⟨uS _,λc Z=>by simp at Z⟩
   .erw[AX n r p U,h1,h2,<-⟨by simp;omega,λc Z=>uh _ (h2 c Z)⟩]
  .erw[JN 32 (n+1) r,p0,q,e];let ih:=AX (n+1) r;rw[e] at ih;simp![ll,A4 h,e] at U;rcases Ab.mp U with rfl|U
   .erw[ih p0 uj,h1,h2];refine⟨by simp;omega,λc Z=>?_⟩
    rcases Ab.mp Z with rfl|Z
    .exact uj
    .exact uh _ (h2 c Z)
   .erw[ih p (uh _ U),h1,h2,<-⟨by simp;omega,λc Z=>uh _ (h2 c Z)⟩]
def MW {m:Nat}(hz:↑z<=m)(ha:z.cps.toList.all QE=v_):∀p>spl n z,↑p<=m/\p.cps.toList.all QE=true:=by
 intro p U;erw[Af.mp U,q,Z,rfl];erw[AX n z.cps.toList q Z,h1,h2];let e:(ofL q).cps.toList=q:=by unfold ofL;simp
 rw[_,?_,?_]
 .have:↑(ofL q)=↑q:=by unfold ofL G6;simp
  rw[this];have:↑z.cps.toList=↑z:=by simp[G6]
  omega
 .rw[e,Ua];intro c hc;exact List.all_eq_true.mp ha c (h2 c hc)
variable {r:Rw}
set_option tactic.hygienic true in
def Bv (h:WG n z=u_ r):JA n 300 r/\Yt r=z:=by
 unfold WG at h;split at h
 .rename_i ht
  let U:=ht;unfold QB at U;rw[uF,vo] at U;split at h
  .rw[h,0]
  .rename_i ks hk
   split at h
   .rename_i hl
    cases e:YB n ks ((pcs ks z).drop 1) with
    |none=>rw[e,0] at h|some l=>
     rw[e,0] at h;let hm:=Zh hk;let Z:∀p>(pcs ks z).drop 1,↑p<=300/\p.cps.toList.all QE=true:=λp hp=>MW U.1 U.2 p (vQ hp);obtain⟨a1,a2⟩:=kL Z (by rw[uQ,hl];omega) e
     rw[_,[ks:hm:a1]];let aa:∃j,(if Kd.words>ks then ↑ks else ↑z+1)=j+1:=by
      split
      .rename_i hw
       exact⟨↑ks-1,by have:=List.length_pos_iff.mpr (λe=>by rw[e] at hw;simp at hw:ks≠ []);omega⟩
      .exact[↑z:1]
     erw[aa,j,hj];erw[Le j z,q,hq];let hp:pcs ks z=hd z::q:=by unfold pcs;rwa[hj]
     let hb:Vl " " (pcs ks z)=z:=Lf _ z;show Vl " " (hd z::l.map Pt.t)=z;rw[a2];rw[hp] at hb⊢;exact hb
   .rw[h,0]
 .rw[h,0]
end L2
namespace PySem.AwV
open PySem PySem.Calls PyProof.Rows Builtin Builtin.ObjectAttr Builtin.Getset_descriptor PySem.W
structure ExcCls (K:Frag)(C:o3):Prop where
 ga:findIn K (-C) "__getattribute__"=u_ (u_ (.builtin "BaseException.__getattribute__"))
 gt:findIn K (-C) "__getattr__"=u_ U_
 cl:findIn K (-C) "__class__"=u_ (u_ (.builtin "object.__class__"))
 sp:specialIn K (.builtin "object.__class__") "__get__"=u_ (u_ (.builtin "getset_descriptor.__get__"))
 tk:takesIn K (.builtin "object.__class__")=u_ v_
 ob:mroIn K C (.type "object")=u_ v_
 be:mroIn K C (.type "BaseException")=u_ v_
end PySem.AwV
namespace L2
open PySem PySem.Spec PyProof.Rows
section
variable {X:Cx}{oq:oj (o3×Obj)}{σ:St}{H:Hp}{s:o7}
def nK:∀{cs:oj o3}{its:oj o6},iw (cs.map V.ref) its->its=cs.map Vj
 | [],_,h=>by rw[h,0];rfl|c::cs,_,h=>by
  cases h with
  |cons U Z=>
   rw[nK Z,show _=Vj c from U]
   rfl
end
section
variable {X:Cx}
def ZG:∀{ls:oj Str}{its:oj o6},iw (ls.map V.str) its->Tn its ls
 | [],_,h=>by rw[h,0];exact .nil|z::ls,_,h=>by
  cases h with
  |cons U Z=>
   erw[U,t,e];rw[e];exact .cons z t (ZG Z)
def ZH:∀{ls:oj Str}{its:oj o6},Tn its ls->iw (ls.map V.str) its
 |_,_,.nil=> .nil|_,_,.cons x t h=> .cons [t:1] (ZH h)
def qaH:∀{xs:oj V}{us:oj o6},↑xs=↑us->(∀(j:Nat) (x:V) (v:o6),xs[j]? =u_ x->us[j]? =u_ v->ik x v)->iw xs us
 | [],[],_,_=> .nil|x::xs,u::us,hl,h=> .cons (h 0 x u rfl rfl) (qaH (by simpa using hl) λj y v h1 h2=>h (j+1) y v (by simpa using h1) (by simpa using h2))| [],_::_,hl,_=>by simp at hl|_::_,[],hl,_=>by simp at hl
def qaI (hc:X.calm=v_):YM X (.builtin "sorted") (λxs H Q=>∃(d:o3) (kvs:oj (Key×V)) (ls:oj Str),xs= [-d]/\Rd H d (.dK kvs)/\kvs.map (·.1)=ls.map Vf/\↑ls<64/\∀(ms:oj Str) (q:o3),ms.Perm ls->tO ms=v_->H q=U_->Q (-q) (upd H q (.lst (ms.map V.str)))):=by
 rw[2,xs,us,Q,I,r,h];erw[h,d,kvs,ls,rfl,hd,hk,am,q];erw[Jc r,u,rfl,ru];rw[ru,0];erw[Zm I.hok hd,hz,lo,vs,ae,dd];erw[id dd,o,es,ep,ho];let af:s.heap.DictAt (Qc X.prog X.w) d vs ep:=[o:es:ho];let aa:↑vs=↑ls:=by
  let h1:=Aa VI hk;rw[u9,u9] at h1;rw[<-↑ae,h1]
 refine vf (n:=1) I.tk ?_;refine PySem.Calls.call_function_entry kind_sorted plain_sorted entry_sorted (args_sorted1 _) ?_;unfold VW.«sorted»;refine A7 (m:=checkCount "sorted" 1 1 _) (uE ?_);refine A7 (PySem.W.kdu_collect (A:=X.A.in1) (PySem.W.kdl_dict lo) (I.ok.hd hc) af (by rw[aa,uD];omega) λh' tk Z ag U=>?_)
 let hS:Tn Z.toList ls:=by
  refine ZG (qaH (by rw[u9,vt];exact aa.symm.trans U.1.symm) λj x v hx hv=>?_)
  rw[uK] at hx;cases ac:ls[j]? with
  |none=>rw[ac,0] at hx|some z=>
   rw[ac,0] at hx;obtain⟨k,y,e1,e2⟩:=U.2 j v (by rwa[<-UH])
   let e3:(kvs.map (·.1))[j]? =u_ k:=by
    rw[ae.keys,uK,e1]
    rfl
   rw[hk,uK,ac,0] at e3;rcases Qz (show oX (Vf z) v=v_ from e2) with⟨i,t,e4,e5⟩|⟨z',t,e4,e5⟩
   .rw[e4,0]
   .rw[e4,0];exact[t:e5]
 let ah:↑Z.toList=↑ls:=by rw[vt,U.1,aa]
 refine A7 (TB ?_ (by rw[ah,uD];omega))
 let ad:(h'.push (seqObj "list" Z.toList.toArray 0)).get? h'.objs.size=u_ (seqObj "list" Z.toList.toArray 0):=uH _ rfl;refine A7 (VQ (vR slot_list_sort [_:ad:1] entry_list_sort (list_sort_treeK strKind_oneLt ad hS.keysOf (λv₁ v₂ rest e=>keyKind_strs (by rwa[<-e])) () λak a1 a2=>[0:?_]) (args_list_sort _)))
 refine uE [0:?_];erw[sorted_out_str hS a1 a2,ms,b1,b2,b3];erw[sortedHeap_at (out:=(arrOf ak).map (·.2)) ad,e,he];let al:↑ms=↑ls:=b2.length_eq;intro htk;let I':Inv X oq σ H {s with heap:=h',toks:=tk}:=I.kept ag
 rw[_,.ref h'.objs.size,_,I'.laid (t':=tk) (o:= .lst (ms.map V.str)) (λb u w=>?_) (uq _) (?_,_,e,ZH b1,he),1,q ms _ b2 b3 (I'.hok.fresh (uq _))]
 .let hb:=uI w;rw[sortedHeap_old (uY hb) (by rw[size_push'];exact Nat.lt_succ_of_lt hb)]
  exact ud _ w
 .rw[u9,al,uD];omega
def sN (Z:X.calm=v_):YM X (.builtin "sorted") (λxs H Q=>∃(d:o3) (kvs:oj (Key×V)) (ls:oj Str),xs= [-d]/\H d=u_ (.dK kvs)/\kvs.map (·.1)=ls.map Vf/\↑ls<64/\∀(U:oj Str) (q:o3),U.Perm ls->tO U=v_->H q=U_->Q (-q) (upd H q (.lst (U.map V.str)))):=λoq s σ H xs us Q I r ⟨d,kvs,ls,e,hd,h⟩=>qaI Z oq s σ H xs us Q I r (d,kvs,ls,e,.inl hd,h)
abbrev Itd (d:o3)(o:Obj):It:=
 ⟨λi H=>∃kvs,H d=u_ (.frz o (.dK kvs))/\i<↑kvs,λi H x H'=>H'=H/\∀kvs,H d=u_ (.frz o (.dK kvs))->(kvs.map λp=>kV p.1)[i]? =u_ x,λi H=>∃kvs,H d=u_ (.frz o (.dK kvs))/\↑kvs<=i⟩
variable {w:og}
def DV {P:o9}{es:oj GK}{kvs:oj (Key×o6)}(h:Pairs (Qc P w) es kvs):↑es=↑kvs:=↑h
variable {H:Hp}{h:o8}{o:Obj}
def E5 {P:o9}{d:o3}{kvs:oj (Key×V)}{es:Array GK}{ep:Nat}(ok:HOk P w H h)(e:H d=u_ (.frz o (.dK kvs)))(hd:o.data= .dict es ep):
  (d==Vy)=Vd/\∃vs,KV kvs vs/\h.DictAt (Qc P w) d vs ep/\↑vs=es.size/\↑kvs<=sizeLine:=by
 obtain⟨Z,hz,lo,vs,r,o',aa,ac,U,c1,c2,c3,c4,c5⟩:=(show yj P w H h d (.frz o (.dK kvs)) from ok d _ e)
 rw[Z,0] at U;rw[hd,0] at c2;exact(lo,vs,r,(o,es,Z,c1,hd,c3,c4,c5),by rw[<-vt];exact(DV c4).symm,hz)
def EG {k:Key}{v:o6}(h:oX k v=v_):ik (kV k) v:=by
 rcases Qz h with⟨i,t,rfl,rfl⟩|⟨z,t,rfl,rfl⟩
 .exact[t:1]
 .exact[t:1]
variable {K:o0}{tg:Expr}
def Dc {P:o9}(d it:o3){es:Array GK}{ep:Nat}(hd:o.data= .dict es ep):NW P w K tg (Itd d o) [it] it (λi h=>h.IsKeyIter it d i es.size ep) where
 mem:=by simp
 obj:=λi h st b U=>by
  let e:b=it:=by simpa using U
  subst e;erw[st,o,e,c,d,<-⟨o,e,λv z=>by rw[d,0] at z⟩]
 keep:=λi h h' st k=>by
  erw[st,o,e,c,dd,<-(o,k it (by simp) o e,c,dd)]
 item:=by
  intro X hP hw hK hc i oq s σ H E I hf st hg;subst hP hw hK;erw[hg,kvs,hq,hx];erw[E5 I.hok hq hd,lo,vs,r,Z,hl,_];let ae:=↑r;obtain⟨f0,f1,f2,f3,f4,f5⟩:=hf it (by simp)
  obtain⟨⟨k,v⟩,aa⟩:∃p,vs[i]? =u_ p:=[_:ug ()]
  refine wpAny_pyNext_dict_item (by rwa[hl]) Z aa λaf h' hk ac sb=>?_
  let I1:Inv X oq σ H {s with heap:=h'}:=I.turned (t':=s.toks) (λb o U e=>(sb.2 b U).trans e) f0 f1 f3 f4 f5
  erw[id ac,oi,e,c,di];refine⟨af,1,EX (s:={s with heap:=h'}) e c di () (kV k,H,I1,EG hk,[1:λag ad=>?_],by rw[<-hl];exact ac,λb U=>(hf b U).1)⟩
  rw[hq,0] at ad;let e3:(kvs.map (·.1))[i]? =u_ k:=by
   rw[r.keys,uK,aa]
   rfl
  rw[uK] at e3⊢;cases h4:kvs[i]? with
  |none=>rw[h4,0] at e3|some p=>
   rw[h4,0] at e3
   rfl
 done:=by
  intro X hP hw hK hc i oq s σ H E I hf st hg;subst hP hw hK;erw[hg,kvs,hq,hx];erw[E5 I.hok hq hd,lo,vs,r,Z,hl,_];let ae:=↑r;obtain⟨f0,f1,f2,f3,f4,f5⟩:=hf it (by simp)
  exact wpAny_pyNext_dict_end (I.ok.hd hc) (by rwa[hl]) Z (Rs ()) λh' eb=>[1:I.turned (t':=s.toks) (λb o U e=>eb b o U e) f0 f1 f3 f4 f5]
 self:=λ_ _ _ _ _ st h=>wpAny_pyIter_keyiter st h
abbrev Adj (tl:TE):TI:=λσ H R=>tl σ H λx H1=>∃d o kvs,x= .ref d/\H1 d=u_ (.frz o (.dK kvs))/\R (Itd d o) H1
def Pk {tg l:Expr}{tl:TE}(hl:PE X l tl):PI X tg l (Adj tl):=by
 rw[2,R,I,h];refine thn (hl oq s σ H _ I h) λv s1 zq=>?_;erw[zq,x,H1,U,r1,q1];erw[q1,d,o,kvs,rfl,hq,q];rw[r1,0];obtain⟨ho,_,lo,vs,r,o',es,ep,Z,c1,c2,_⟩:=(show yj X.prog X.w H1 s1.heap d (.frz o (.dK kvs)) from U.hok d _ hq)
 rw[ho,0] at Z;erw[E5 U.hok hq c2,lo,vs,r,aa,hl,_];refine wpAny_pyIter_dict lo aa ?_;refine(#[0,s1],[#[0,s1]],_,_,H1,1,U.kept (t':=s1.toks) λb o e=>ud _ e,Dc d _ c2,(_,uH _ rfl,1,by rw[hl];rfl),λb hb=>?_,q)
 let e:b=#[0,s1]:=by simpa using hb
 subst e;exact U.fpOk (uq _) (U.hok.fresh (uq _))
end
end L2
namespace PySem.AwK
open PySem Builtin Builtin.ObjectAttr
def Sn:HZ (.type "list") "keys"=pure none:=by rw[RA,rV];kernel_rfl
section
variable {prog:o9}{w:og}{A:oh}{E:o6->o7->Prop}{s:o7}
def qas:isSubtype (.type "AttributeError") (.type "AttributeError")=pure true:=by rw[isSubtype_type];kernel_rfl
def CA {α:Type}{o:o6}{name U:Str}{Q:α->o7->Prop}(hh:A.handled=U_)(hm:↑U<=Vh)
  (hq:∀h' ac e,(∀b ob,s.heap.get? b=u_ ob->h'.get? b=u_ ob)->(∃oe,h'.get? e=u_ oe/\oe.cls= .type "AttributeError")->E (-e) {s with heap:=h',toks:=ac}):
  Ve #[w,w] A (p7 o name U:Sem α) Q E s:=by
 unfold p7;refine A7 (wpAny_mkStr (A7 ?_) hm);unfold newExc TH;refine A7 (vF ?_ (by show(1:Nat)<=Vh;rw[uD];decide))
 refine A7 (m:=T8 _ _) (HM (a:=G9) (by kernel_rfl) ?_)
 obtain⟨h1,aa⟩:∃h1,h1=s.heap.push {cls:= .type "tuple",data:= .seq #[VC U s.toks]}:=⟨0⟩;let k1:∀b ob,s.heap.get? b=u_ ob->h1.get? b=u_ ob:=λb ob e=>by rw[aa];exact ud _ e
 show Ve #[w,w] A (newObj (.type "AttributeError") (.fields #[.ref #[0,s],.none,.none,.none,.bool Vd,.none,VZ,VZ])) _ E {s with heap:=s.heap.push {cls:= .type "tuple",data:= .seq #[VC U s.toks]},toks:=s.toks+1}
 rw[<-aa];refine vF ?_ (by unfold sizeOk;first|trivial|(rw[uD];simp)|decide)
 obtain⟨h2,Z⟩:∃h2,h2=h1.push {cls:= .type "AttributeError",data:= .fields #[.ref #[0,s],.none,.none,.none,.bool Vd,.none,VZ,VZ]}:=⟨0⟩;let k2:∀b ob,h1.get? b=u_ ob->h2.get? b=u_ ob:=λb ob e=>by rw[Z];exact ud _ e
 let e2:h2.get? h1.objs.size=u_ {cls:= .type "AttributeError",data:= .fields #[.ref #[0,s],.none,.none,.none,.bool Vd,.none,VZ,VZ]}:=by rw[Z];exact uH _ rfl
 show Ve #[w,w] A (do let x<-mkText name;noteAttr (-h1.objs.size) o x;raiseNew (-h1.objs.size)) Q E {s with heap:=h1.push {cls:= .type "AttributeError",data:= .fields #[.ref #[0,s],.none,.none,.none,.bool Vd,.none,VZ,VZ]},toks:=s.toks+1}
 rw[<-Z];let ne:∀b ob,h1.get? b=u_ ob->b≠h1.objs.size:=λb ob e=>uY (uI e);generalize h1.objs.size=e at e2 ne⊢;refine A7 (Fu (A7 ?_));let hT:∀g d t os,((h2,g,d,t,os):o7).TypeIs (-e) "AttributeError":=λ_ _ _ _=>[_:e2:1];unfold noteAttr lacksNameAndObj;refine A7 (A7 (US (hT _ _ _ _) qas ?_));simp![Bool.not_true,UW,if_false];refine A7 (HP e2 ?_);dsimp only;rw[A4 (by simp[VZ,VG]),A4 (by simp[VZ,doubtfulMember,VG])]
 refine uE ?_;rw[A6 rfl];refine A7 (UU (A7 (GC (hT _ _ _ _) ?_)));show Ve #[w,w] A (layMembers e 6 #[VC name (s.toks+1),o]) _ E _;unfold layMembers;refine A7 (HP e2 ?_);dsimp only;refine wpAny_update e2 ?_;let e3:=TX (Rz λvs=>vs.extract 0 6++ #[VC name (s.toks+1),o]) e2 rfl;let k3:∀b ob,b≠e->h2.get? b=u_ ob->(h2.update e (Rz λvs=>vs.extract 0 6++ #[VC name (s.toks+1),o])).get? b=u_ ob:=λb ob hb q=>(tV _ _ (U4 hb)).trans q;exact wpAny_raiseNew_none hh (hq _ _ e (λb ob q=>k3 b ob (ne b ob (k1 b ob q)) (k2 b ob (k1 b ob q))) [_:e3:1])
end
section
variable {prog:o9}{w:og}{A:oh}{E:o6->o7->Prop}{h:o8}{g:Array tQ}{d:Drawn}{t:Nat}{os:OsState}{a:o3}{its:Array o6}{n:Nat}{sl:Array (om o6)}
def Me {tk:Tok}{Q:Fin->o7->Prop}(hh:A.handled=U_)(hx:h.get? a=u_ {cls:= .type "list",dict:=U_,data:= .seq its n,slots:=sl})
  (hq:∀h' U e,(∀b ob,h.get? b=u_ ob->h'.get? b=u_ ob)->(∃Z,h'.get? e=u_ Z/\Z.cls= .type "AttributeError")->E (-e) (h',g,d,U,os)):
  Ve #[w,w] A (VW.«object.__getattribute__» [[-a,.str "keys" tk]:[]]) Q E (h,g,d,t,os):=by
 let hT:((h,g,d,t,os):o7).TypeIs (-a) "list":=[_:hx:1];let f4:=Sn
 repeat (any_goals (first|assumption|wp_step))
 exact CA hh (by rw[uD];decide+kernel) hq
def Sj {tk:Tok}{R:GM->o7->Prop}(hh:A.handled=U_)(Z:h.get? a=u_ {cls:= .type "list",dict:=U_,data:= .seq its n,slots:=sl})
  (hq:∀h' U e,(∀b ob,h.get? b=u_ ob->h'.get? b=u_ ob)->(∃oe,h'.get? e=u_ oe/\oe.cls= .type "AttributeError")->R (.error (-e)) (h',g,d,U,os)):
  VN #[w,w] A (.call (.builtin "list.__getattribute__") [[-a,.str "keys" tk]:[]]) R (h,g,d,t,os):=
 Fa F.slot_list_getattribute.plain F.entry_list_ga (F.slot_list_getattribute.check _ _ _ _ _ _ _ _ (show((h,g,d,t,os):o7).TypeIs (-a) "list" from[_:Z:1]) (F.args_list_getattribute_2 _ _) (Me hh Z hq))
def Si {Q:om o6->o7->Prop}(hh:A.handled=U_)(Z:h.get? a=u_ {cls:= .type "list",dict:=U_,data:= .seq its n,slots:=sl})
  (hq:∀h' U,(∀b ob,h.get? b=u_ ob->h'.get? b=u_ ob)->Q U_ (h',g,d,U,os)):Ve #[w,w] A (getAttr? (-a) "keys") Q E (h,g,d,t,os):=by
 let hT:∀t,((h,g,d,t,os):o7).TypeIs (-a) "list":=λt=>[_:Z:1];unfold getAttr? getAttrBy?;refine A7 (Fu (A7 (UZ ?_)));unfold getAttrBy;refine VQ (A7 (GC (hT _) ?_));rw[F.slot_list_getattribute.lookup];refine A7 (uE ?_);show Ve #[w,w] A (Rl (-a) _ (.type "list") (.builtin "list.__getattribute__") Vd Vd) _ _ _;unfold Rl;refine A7 (m:=hookBefore _) (uE ?_);refine A7 (UZ (VQ ?_));show Ve #[w,w] A (p9 (.builtin "list.__getattribute__") (-a) _) _ _ _;unfold p9;rw[F.slot_list_getattribute.bind];refine A7 (uE (He (Sj hh Z λh' U e k zq=>?_)));erw[zq,oe,e1,e2];let hE:∀t,((h',g,d,t,os):o7).TypeIs (-e) "AttributeError":=λt=>[_:e1:e2];show Ve #[w,w] A (Ro (-a) _ (.type "list") (-e) U_ Vd Vd) _ _ (h',g,d,U,os);unfold Ro;refine A7 (US (hE _) qas ?_);rw[A6 rfl];let lg:hookBehind (.type "list") U_=pure none:=by
  show HZ (.type "list") "__getattr__"=pure U_;rw[RA,rV]
  kernel_rfl
 rw[lg];refine A7 (uE ?_);show Ve #[w,w] A (r6 (-a) _ (-e) Vd Vd) _ _ _;unfold r6;refine Rp ?_;refine A7 (US (hE _) qas ?_);rw[A6 rfl];exact uE (hq h' U k)
end
def kA:entryFor table "dict.update.loop"=u_ VW.«dict.update.loop»:=entryFor_of_fast (by kernel_rfl)
def xp:plainId "dict.update.loop"=true:=by decide+kernel
section
variable {prog:o9}{w:og}{A:oh}{E:o6->o7->Prop}{K:Type}[DecidableEq K]{knd:KeyKind prog w K}
abbrev addAll (cur:oj (K×o6)):oj (K×o6)->oj (K×o6)
 | []=>cur|p::r=>addAll (GF cur p.1 p.2) r
structure Ach (h:o8)(d it:o3)(v:o6)(p:K×o6):Prop where
 at_:∃(t:o3) (o:Obj) (k:o6) (n:Nat),v= .ref t/\t≠d/\t≠it/\h.get? t=u_ o/\o.cls= .type "tuple"/\o.data= .seq #[k,p.2] n/\knd.is p.1 k=v_
def CC (hh:A.handled=U_){d it l:o3}{items:Array o6}{ps:oj (K×o6)}{R:GM->o7->Prop}(au:d≠l)(aw:it≠l)(ac:d≠it)(hn:items.size=↑ps)(hz:2*↑ps<=Vh)(res:o6):
  ∀(m i:Nat) (s:o7) (U:oj (K×o6)),i+m=↑ps->s.heap.IsListIter it l i->s.heap.IsList l items->s.heap.DictOf knd d U->↑U<=i->
  (∀(j:Nat) (v:o6) (p:K×o6),items[j]? =u_ v->ps[j]? =u_ p->Ach (knd:=knd) s.heap d it v p)->
  (∀h' ad,h'.DictOf knd d (addAll U (ps.drop i))->(∀b o,b≠d->b≠it->s.heap.get? b=u_ o->h'.get? b=u_ o)->R (.ok (.ret res)) {s with heap:=h',toks:=ad})->
  VN #[w,w] A (.builtin "dict.update.loop" [[-d,-it,VG i,res]:[]]) R s:=by
 intro m
 induction m with
 |zero=>
  intro i s U hm ae hl hd hc hp hR;refine HU kA ?_;rw[Tg xp _];show Ve _ A.in1 (VH (-it)>>=_) _ _ s;refine A7 (rO (A:=A.in1) hh ae hl (by rw[Array.getElem?_eq_none ()]) λh' eb=>?_)
  let af:h'.DictOf knd d U:=by
   erw[hd,o,es,ep,ho,r,<-(o,es,ep,eb d o ac ho,r)]
  have:=hR h' s.toks (by rwa[List.drop_eq_nil_of_le ()]) λb o aa Z e=>eb b o Z e
  show Ve #[w,w] A.in1 (Dict.addKeywords d []>>=λ_=>ret res) _ _ _;refine A7 (m:=Dict.addKeywords d []) (uE ?_);exact uE this
 |succ m ih=>
  intro i s U hm ae hl hd hc hp hR;refine HU kA ?_;rw[Tg xp _];let hi:i<items.size:=by omega
  let ah:i<↑ps:=by omega
  let hx:items[i]? =u_ items[i]:=Array.getElem?_eq_getElem hi;let ax:ps[i]? =u_ ps[i]:=ug ah;erw[(hp i _ _ hx ax).at_,t,o,k,n,ev,aE,ay,ho,aA,aB,hk];rw[ev] at hx;show Ve _ A.in1 (VH (-it)>>=_) _ _ s;refine A7 (RT (A:=A.in1) ae hl hx λh1 ak ag=>?_);let al:h1.get? t=u_ o:=(ag.2 t ay).trans ho;let hT:(({s with heap:=h1}:o7)).TypeIs (-t) "tuple":=[_:al:aA]
  let am:h1.DictOf knd d U:=hd.sameBut ag ac;dsimp only;refine A7 (VQ (A7 (wpAny_tryCatch ?_)));unfold Dict.pairItems;refine A7 (GC hT ?_);rw[A6 ()]
  refine A7 ?_;unfold T0;refine A7 (HP al ?_);rw[aB];refine uE (uE ?_);show Ve #[w,w] A.in1 (gV [k,ps[i].2] (dictSet d k ps[i].2)) _ _ _;refine VQ (wpAny_dictSet_pairs hk am (λh2 aC ao=>?_) ())
  let ap:h2.IsListIter it l (i+1):=by
   erw[ak,oi,e,c,<-[oi:(ao.2 it (U4 ac)).trans e:c]]
  let keep:∀b ob,b≠d->b≠it->s.heap.get? b=u_ ob->h2.get? b=u_ ob:=λb ob aa Z e=>(ao.2 b aa).trans ((ag.2 b Z).trans e);let aD:h2.IsList l items:=by
   erw[hl,ol,e,c,<-[ol:keep l ol (U4 au) (U4 aw) e:c]]
  refine uE [tR xp _:?_];let aq:↑(GF U ps[i].1 ps[i].2)<=i+1:=by
   unfold GF;split
   .rw[u9];omega
   .rw[uw];show ↑U+1<=i+1;omega
  refine ih (i+1) _ _ () ap aD aC aq (λj v p h1 h2=>?_) λh' ad af kp=>?_
  .erw[(hp j v p h1 h2).at_,t',o',k',n',e1,e2,e3,e4,e5,<-⟨(t',o',k',n',e1,e2,e3,keep t' o' e2 e3 e4,e5)⟩]
  .refine hR h' ad ?_ λb ob aa Z e=>kp b ob aa Z (keep b ob aa Z e);rw[vk ah];exact af
def dict_pairs (hh:A.handled=U_){s:o7}{l:o3}{items:Array o6}{n:Nat}{sl:Array (om o6)}{ps:oj (K×o6)}{Q:o6->o7->Prop}(hl:s.heap.get? l=u_ {cls:= .type "list",dict:=U_,data:= .seq items n,slots:=sl})(hn:items.size=↑ps)(hz:2*↑ps<=Vh)
  (hp:∀(j:Nat) (v:o6) (p:K×o6),items[j]? =u_ v->ps[j]? =u_ p->∃(t:o3) (o:Obj) (k:o6) (n:Nat),v= .ref t/\s.heap.get? t=u_ o/\o.cls= .type "tuple"/\o.data= .seq #[k,p.2] n/\knd.is p.1 k=v_)
  (hQ:∀h' ac,h'.DictOf knd #[0,s] (addAll [] ps)->(∀b o,s.heap.get? b=u_ o->h'.get? b=u_ o)->Q (.ref #[0,s]) {s with heap:=h',toks:=ac}):
  Ve #[w,w] A (call (.type "dict") [-l]) Q E s:=by
 refine Ff (Q₁:=λobj s₁=>obj= .ref #[0,s]/\s₁={s with heap:=s.heap.push {cls:= .type "dict",data:= .dict #[]}}) F.kt_called_dict (F.kt_typeCall_dict_1 _) F.entry_dict_init (kt_code_dict_new _ [1:1]) ?_
 rintro obj s₁ ⟨rfl,rfl⟩;let Z:(s.heap.push {cls:= .type "dict",data:= .dict #[]}).DictOf knd #[0,s] []:=FG s.heap;rw[_,Z.typeIs,F.args_dict_init_2 _ _];unfold VW.«dict.__init__»;refine A7 ?_;unfold pO;refine A7 (wpAny_notOrdered_dict Z.typeIs ?_);refine(show Ve _ _ (pure (#[0,s],[Vj l])) _ _ _ from ?_)
 refine uE ?_;refine(show Ve _ _ (RP "dict.__init__" #[0,s] (-l) [] .none) _ _ _ from ?_)
 unfold RP;let aa:(s.heap.push {cls:= .type "dict",data:= .dict #[]}).get? l=u_ {cls:= .type "list",dict:=U_,data:= .seq items n,slots:=sl}:=ud _ hl;refine A7 (GC (T:="list") [_:aa:1] ?_);rw[A6 ()]
 refine A7 (Si (A:=A.in1.in1) hh aa λh2 am k2=>?_);rw[A6 (show(U_:om o6).isNone=v_ from rfl)]
 let ad:l<#[0,s]:=uI hl;let af:h2.IsList l items:=(_,k2 _ _ aa,1,n,1);refine A7 (UU (A7 (V5 af ?_)));let ae:h2.DictOf knd #[0,s] []:=by
  erw[Z,o,es,ep,ho,r,<-(o,es,ep,k2 _ _ ho,r)]
 let U:#[0,s]<h2.objs.size:=by
  erw[ae,o,es,ep,ho,r,<-uI ho]
 let k1:∀b o,s.heap.get? b=u_ o->h2.get? b=u_ o:=λb o e=>k2 b o (ud _ e);let k3:∀b o,h2.get? b=u_ o->(h2.push {cls:= .type "list_iterator",data:= .fields #[-l,.int 0 0]}).get? b=u_ o:=λb o e=>ud _ e;let ag:(h2.push {cls:= .type "list_iterator",data:= .fields #[-l,.int 0 0]}).IsList l items:=(_,k3 _ _ (k2 _ _ aa),1,n,1);let ah:(h2.push {cls:= .type "list_iterator",data:= .fields #[-l,.int 0 0]}).DictOf knd #[0,s] []:=ae.push _;refine uE [tR xp _:CC (A:=A.in1) hh (d:=#[0,s]) (it:=h2.objs.size) (l:=l) (items:=items) (ps:=ps) (Ub ad) (Ub (HJ ad U)) (uY U) hn hz .none ↑ps 0 _ [] () (_,uH _ rfl,1,1) ag ah (uq _) (λj v p h1 ak=>?_) λh' ac al kp=>?_]
 .erw[hp j v p h1 ak,t,o,k,n',e1,e2,e3,e4,e5];let ht:=uI e2;exact⟨(t,o,k,n',e1,uY ht,uY (HJ ht U),k3 _ _ (k1 _ _ e2),e3,e4,e5)⟩
 .rw[1,hQ h' ac al λb o e=>?_];let hb:=uI e;exact kp b o (uY hb) (uY (HJ hb U)) (k3 _ _ (k1 _ _ e))
end
end PySem.AwK
namespace L2
open PySem PySem.Spec PyProof.Rows
section
variable {X:Cx}
abbrev iJ (ps:oj (Str×V)):oj (Key×V):=ps.map λp=>(Vf p.1,p.2)
def wY (ps:oj (Str×V)):(iJ ps).map (·.1)=(ps.map (·.1)).map Sum.inr:=by
 unfold iJ;rw[uP,uP]
 rfl
def Cr {kvs:oj (Key×o6)}{k:Key}{v:o6}(h:k∉kvs.map (·.1)):GF kvs k v=kvs++ [(k,v)]:=by
 unfold GF;rw[A4];intro q;erw[List.any_eq_true.mp q,p,U,e,<-h (Af.mpr [p:U:ur e])]
def kY:∀{ps U:oj (Key×o6)},((U++ps).map (·.1)).Nodup->AwK.addAll U ps=U++ps
 | [],U,_=>(vJ U).symm|p::r,U,h=>by
  unfold AwK.addAll;let Z:p.1∉U.map (·.1):=by
   rw[uA,uC] at h;intro q;exact(List.nodup_append.mp h).2.2 _ q _ uj rfl
  rw[Cr Z,kY (by rw[V6];exact h),V6]
  rfl
set_option tactic.hygienic true in
def oE {P:o9}{w:og}{H:Hp}{h:o8}(ok:HOk P w H h):∀{ts:oj o3}{ps:oj (Str×V)},↑ts=↑ps->(∀(i:Nat) (t:o3) (p:Str×V),ts[i]? =u_ t->ps[i]? =u_ p->H t=u_ (-[.str p.1,p.2]))->
  ∃pv:oj (Key×o6),KV (iJ ps) pv/\∀(j:Nat) (v:o6) (p:Key×o6),(ts.map Vj)[j]? =u_ v->pv[j]? =u_ p->∃(t:o3) (o:Obj) (k:o6) (n:Nat),v= .ref t/\h.get? t=u_ o/\o.cls= .type "tuple"/\o.data= .seq #[k,p.2] n/\(Qc P w).is p.1 k=v_
 | [],[],_,_=>⟨[],.nil,λj v p e=>by simp at e⟩|t::ts,p::ps,hl,hp=>by
  obtain⟨pv,h1,h2⟩:=oE ok (ts:=ts) (ps:=ps) (by simpa using hl) λi t' p' U e2=>hp (i+1) t' p' (by simpa using U) (by simpa using e2)
  obtain⟨_,its,rv,o,Z,hc,n,hd⟩:=(show yj P w H h t (-[.str p.1,p.2]) from ok t _ (hp 0 t p rfl rfl))
  cases rv with
  |cons r1 rv=>
  cases rv with
  |cons r2 rv=>
  cases rv with
  |nil=>
  erw[r1,tk,rfl]
  rename_i u
  rw[_,(Vf p.1,u)::pv,.cons [1:r2] h1,λj v q U e2=>?_];cases j with
  |zero=>
   simp![uC,List.getElem?_cons_zero,pL] at U e2;subst U e2;exact(t,o,_,n,1,Z,hc,hd,Wb _ _ _ _)
  |succ j=>exact h2 j v q (by simpa using U) (by simpa using e2)
 | [],_::_,hl,_=>by simp at hl|_::_,[],hl,_=>by simp at hl
abbrev Cm (H:Hp)(l:o3)(ps:oj (Str×V)):Prop:=∃ts:oj o3,H l=u_ (.lst (ts.map V.ref))/\↑ts=↑ps/\∀(i:Nat) (t:o3) (p:Str×V),ts[i]? =u_ t->ps[i]? =u_ p->H t=u_ (-[.str p.1,p.2])
def Ir {oq:oj (o3×Obj)}{σ:St}{H:Hp}{s:o7}{l:o3}{ps:oj (Str×V)}{Q:o6->o7->Prop}(hc:X.calm=v_)(I:#[I])(hl:Cm H l ps)(hn:(ps.map (·.1)).Nodup)(hz:↑ps<=1000)
  (h:∀h' U pv,0<U->(∀b o,s.heap.get? b=u_ o->h'.get? b=u_ o)->KV (iJ ps) pv->h'.DictOf (Qc X.prog X.w) #[0,s] pv->Q (.ref #[0,s]) {s with heap:=h',toks:=U}):
  Ve #[X,X] X.A (call (.type "dict") [-l]) Q X.xe s:=by
 erw[hl,ts,e1,e2,e3];obtain⟨_,its,n,rv,ho⟩:=(show yj X.prog X.w H s.heap l (.lst (ts.map V.ref)) from I.hok l _ e1)
 rw[nK rv,0];erw[oE I.hok e2 e3,pv,r,hp];let ad:↑pv=↑ps:=by
  rw[<-↑r];unfold iJ;rw[u9]
 let aa:(pv.map (·.1)).Nodup:=by
  rw[<-r.keys,wY];exact pN _ (λa b ac e=>ac (UB e)) hn
 refine vf (n:=1) I.tk ?_;refine AwK.dict_pairs (knd:=Qc X.prog X.w) (I.ok.hd hc) (ps:=pv) ho (by rw[uB,u9];omega) (by rw[uD];omega) (λj v p h1 h2=>hp j v p (by simpa using h1) h2) λh' U Z kp=>?_
 rw[kY (by simpa using aa),tJ] at Z
 exact λhtk=>h h' U pv htk kp r Z
def Ko (hc:X.calm=v_):YM X (.type "dict") (λxs H Q=>∃(l:o3) (ps:oj (Str×V)),xs= [-l]/\Cm H l ps/\(ps.map (·.1)).Nodup/\↑ps<=1000/\∀q,H q=U_->Q (-q) (upd H q (.dK (iJ ps)))):=by
 rw[2,xs,us,Q,I,r,h];erw[h,l,ps,rfl,hl,hn,hz,q];erw[Jc r,u,rfl,ru];rw[ru,0];refine Ir hc I hl hn hz λh' aa pv htk kp rel dd=>?_;let U:(#[0,s]==Vy)=false:=by
  rw[beq_eq_false_iff_ne];exact Ub I.big
 let Z:↑(iJ ps)<=sizeLine:=by unfold iJ;rw[u9,uD];omega
 exact(.ref #[0,s],_,I.laid kp (uq _) (sL Z U rel dd),1,q _ I.fresh)
def CW (hc:X.calm=v_):YM X (.type "dict") (λxs H Q=>∃(l:o3) (ps:oj (Str×V)),xs= [-l]/\Cm H l ps/\(ps.map (·.1)).Nodup/\↑ps<=1000/\∀q o,H q=U_->Q (-q) (upd H q (.frz o (.dK (iJ ps))))):=by
 rw[2,xs,us,Q,I,r,h];erw[h,l,ps,rfl,hl,hn,hz,q];erw[Jc r,u,rfl,ru];rw[ru,0];refine Ir hc I hl hn hz λh' aa pv htk kp rel dd=>?_;let U:(#[0,s]==Vy)=false:=by
  rw[beq_eq_false_iff_ne];exact Ub I.big
 let Z:↑(iJ ps)<=sizeLine:=by unfold iJ;rw[u9,uD];omega
 erw[id dd,o,es,ep,ho,rr,<-(.ref #[0,s],_,I.laid (o:= .frz o (.dK (iJ ps))) kp (uq _) [ho:sL Z U rel dd],1,q _ o I.fresh)]
end
mutual
noncomputable def nD:D->Bool
 | .non=>v_| .str _=>v_| .int _=>v_| .tup xs=>nL xs|_=>Vd
noncomputable def nL:oj D->Bool
 | []=>v_|x::r=>nD x&&nL r
end
def Eu:∀{xs:oj D}{j:Nat}{x:D},nL xs=v_->xs[j]? =u_ x->nD x=v_
 | [],_,_,_,e=>by simp at e|y::r,0,x,h,e=>by
  let h':nD y=v_/\nL r=true:=by simpa [nL] using h
  have:y=x:=by simpa using e
  exact this▸h'.1
 |y::r,j+1,x,h,e=>by
  let h':nD y=v_/\nL r=true:=by simpa [nL] using h
  exact Eu h'.2 (by simpa using e)
mutual
noncomputable def eqD:D->D->Bool
 | .non,.non=>v_| .str a,.str b=>a==b| .int a,.int b=>a==b| .tup xs,.tup ys=>eqL xs ys|_,_=>Vd
noncomputable def eqL:oj D->oj D->Bool
 | [],[]=>v_|x::r,y::q=>eqD x y&&eqL r q|_,_=>Vd
end
mutual
theorem Zb:∀{d e:D},nD d=v_->(eqD d e=v_↔d=e)
 | .non,e,_=>by cases e<;>simp[eqD]| .str a,e,_=>by cases e<;>simp[eqD]| .int a,e,_=>by cases e<;>simp[eqD]| .tup xs,¬ys,h=>by
  have:=eqXL_iff (xs:=xs) (ys:=ys) (by simpa [nD] using h)
  simp![eqD,this,D.tup.injEq]
 | .tup xs,.non,_=>by simp[eqD]| .tup xs,.bl _,_=>by simp[eqD]| .tup xs,.int _,_=>by simp[eqD]| .tup xs,.str _,_=>by simp[eqD]| .tup xs,.lst,_=>by simp[eqD]| .tup xs,.dct,_=>by simp[eqD]| .bl _,_,h=>by simp[nD] at h| .lst,_,h=>by simp[nD] at h| .dct,_,h=>by simp[nD] at h
theorem eqXL_iff:∀{xs ys:oj D},nL xs=v_->(eqL xs ys=v_↔xs=ys)
 | [],[],_=>by simp[eqL]| [],_::_,_=>by simp[eqL]|_::_,[],_=>by simp[eqL]|x::r,y::q,h=>by
  let h':nD x=v_/\nL r=true:=by simpa [nL] using h
  simp![eqL,uF,Zb h'.1,eqXL_iff h'.2,U6]
end
mutual
theorem Is.detN {H:Hp}:∀{d e:D}{v:V},nD d=v_->nD e=v_->Is H d v->Is H e v->d=e
 | .non,e,v,_,he,h1,h2=>by
  rw[show v= .non from h1,0]
  cases e with
  |non=>rfl|str b=>obtain⟨q,_⟩:=(show V.non=V.str b/\_ from h2);rw[q,0]|int b=>rw[show V.non=V.int b from h2,0]|tup ys=>erw[h2,p,us,q,_];rw[q,0]|_=>simp[nD] at he
 | .str a,e,v,_,he,h1,h2=>by
  obtain⟨rfl,_⟩:=(show v= .str a/\_ from h1)
  cases e with
  |non=>rw[show V.str a=V.non from h2,0]|str b=>obtain⟨q,_⟩:=(show V.str a=V.str b/\_ from h2);rw[q,0];rfl|int b=>rw[show V.str a=V.int b from h2,0]|tup ys=>erw[h2,p,us,q,_];rw[q,0]|_=>simp[nD] at he
 | .int a,e,v,_,he,h1,h2=>by
  rw[show v= .int a from h1,0]
  cases e with
  |non=>rw[show V.int a=V.non from h2,0]|str b=>obtain⟨q,_⟩:=(show V.int a=V.str b/\_ from h2);rw[q,0]|int b=>rw[show V.int a=V.int b from h2,0];rfl|tup ys=>erw[h2,p,us,q,_];rw[q,0]|_=>simp[nD] at he
 | .tup xs,e,v,hd,he,h1,h2=>by
  erw[id h1,p,vs,rfl,hp,hl];cases e with
  |non=>rw[show V.ref p=V.non from h2,0]|str b=>obtain⟨q,_⟩:=(show V.ref p=V.str b/\_ from h2);rw[q,0]|int b=>rw[show V.ref p=V.int b from h2,0]|tup ys=>
   erw[h2,p',us,q,U,Z];rw[q,0];rw[hp,0] at U;rw[IsL.detN (by simpa [nD] using hd) (by simpa [nD] using he) hl Z]
  |_=>simp[nD] at he
 | .bl _,_,_,hd,_,_,_=>by simp[nD] at hd| .lst,_,_,hd,_,_,_=>by simp[nD] at hd| .dct,_,_,hd,_,_,_=>by simp[nD] at hd
theorem IsL.detN {H:Hp}:∀{xs ys:oj D}{vs:oj V},nL xs=v_->nL ys=v_->IsL H xs vs->IsL H ys vs->xs=ys
 | [],[],_,_,_,_,_=>rfl| [],_::_,_,_,_,h1,h2=>by
  rw[show _= [] from h1,0]
  erw[h2,v,r,q,_];rw[q,0]
 |_::_,[],_,_,_,h1,h2=>by
  rw[show _= [] from h2,0]
  erw[h1,v,r,q,_];rw[q,0]
 |x::xs,y::ys,_,hd,he,h1,h2=>by
  erw[h1,v,r,rfl,a1,a2];erw[h2,v',r',q,b1,b2];rw[q,0];let U:nD x=v_/\nL xs=true:=by simpa [nL] using hd
  let Z:nD y=v_/\nL ys=true:=by simpa [nL] using he
  rw[Is.detN U.1 Z.1 a1 b1,IsL.detN U.2 Z.2 a2 b2]
end
def Kw:∀(xs ys:oj D),eqL xs ys=((Vq (min ↑xs ↑ys)).all (λj=>eqD (xs.getD j .non) (ys.getD j .non))&&↑xs==↑ys)
 | [],[]=>by simp[eqL]| [],_::_=>by simp[eqL]|_::_,[]=>by simp[eqL]|x::r,y::q=>by
  let U:=Kw r q;rw[um,um,show min (↑r+1) (↑q+1)=min ↑r ↑q+1 by omega,Rv,vN,UV]
  let e:(Vq (min ↑r ↑q)).all ((λj=>eqD ((x::r).getD j .non) ((y::q).getD j .non))∘rQ)=(Vq (min ↑r ↑q)).all λj=>eqD (r.getD j .non) (q.getD j .non):=by congr 1
  rw[e];let e2:(↑r+1==↑q+1)=(↑r==↑q):=by rw[U5];simp
  rw[e2,Bool.and_assoc,<-U]
  rfl
nonrec abbrev NO:oj D->oj D->Bool:=eqL
def Yq {xs ys:oj D}(h:nL xs=v_):NO xs ys=v_↔xs=ys:=eqXL_iff h
mutual
noncomputable def puD:D->Bool
 | .str _=>v_| .int _=>v_| .tup xs=>puL xs|_=>Vd
noncomputable def puL:oj D->Bool
 | []=>v_|x::r=>puD x&&puL r
end
mutual
theorem O9:∀{d:D},puD d=v_->nD d=v_
 | .str _,_=>rfl| .int _,_=>rfl| .tup xs,h=>puL_n (xs:=xs) h| .non,_=>rfl
theorem puL_n:∀{xs:oj D},puL xs=v_->nL xs=v_
 | [],_=>rfl|x::r,h=>by
  let h':puD x=v_/\puL r=true:=by simpa [puL] using h
  simp![nL,O9 h'.1,puL_n h'.2,Vb]
end
section
variable {X:Cx}{oq:oj (o3×Obj)}{σ:St}{H:Hp}{s:o7}
variable {e:D}{A:oh}
def sG (I:#[I]){u:V}{b:o6}(Z:nD e=v_)(h2:Is H e u)(U:ik u b)(hu:A.units<Vp):VJ A s .none b (eqD .non e):=by
 cases e with
 |non=>
  rw[show u= .non from h2,0]
  rw[U,0];exact f_ _
 |str y=>
  obtain⟨rfl,_⟩:=(show u= .str y/\_ from h2)
  erw[U,t2,rfl,<-rq _ _]
 |int y=>
  rw[show u= .int y from h2,0]
  erw[U,t2,rfl,<-RC _ _]
 |tup ys=>
  erw[id h2,p,us,rfl,hp,hl];rw[U,0];erw[I.tuple (.inl (.of hp)),its,_,q,_,<-pC q hu]
 |_=>simp[nD] at Z
variable {z:Str}
def Ih (I:#[I]){t:Tok}{u:V}{b:o6}(Z:nD e=v_)(h2:Is H e u)(U:ik u b)(hu:A.units<Vp):VJ A s (.str z t) b (eqD (!z) e):=by
 cases e with
 |non=>
  rw[show u= .non from h2,0]
  rw[U,0];exact FU _ _
 |str y=>
  obtain⟨rfl,_⟩:=(show u= .str y/\_ from h2)
  erw[U,t2,rfl,<-Fz _ _ _ _]
 |int y=>
  rw[show u= .int y from h2,0]
  erw[U,t2,rfl,<-Ta _ _ _ _]
 |tup ys=>
  erw[id h2,p,us,rfl,hp,hl];rw[U,0];erw[I.tuple (.inl (.of hp)),its,_,q,_,<-P0 _ _ q hu]
 |_=>simp[nD] at Z
def sH (I:#[I]){z:Int}{t:Tok}{u:V}{b:o6}(Z:nD e=v_)(h2:Is H e u)(U:ik u b)(hu:A.units<Vp):VJ A s (.int z t) b (eqD (.int z) e):=by
 cases e with
 |non=>
  rw[show u= .non from h2,0]
  rw[U,0];exact re _ _
 |str y=>
  obtain⟨rfl,_⟩:=(show u= .str y/\_ from h2)
  erw[U,t2,rfl,<-TD _ _ _ _]
 |int y=>
  rw[show u= .int y from h2,0]
  erw[U,t2,rfl,<-rS _ _ _ _]
 |tup ys=>
  erw[id h2,p,us,rfl,hp,hl];rw[U,0];erw[I.tuple (.inl (.of hp)),its,_,q,_,<-pd _ _ q hu]
 |_=>simp[nD] at Z
def DS {xs ys:oj D}{vs us:oj V}{its its':oj o6}{A:oh}(hd:nL xs=v_)(he:nL ys=v_)(hl:IsL H xs vs)(U:IsL H ys us)(rv:iw vs its)(Z:iw us its')
  (ih:∀x>xs,∀(e:D) (v u:V) (a b:o6),nD x=v_->nD e=v_->Is H x v->Is H e u->ik v a->ik u b->VJ A s a b (eqD x e)):
  ∀j (a1:j<its.toArray.size) (a2:j<its'.toArray.size),VJ A s its.toArray[j] its'.toArray[j] (eqD (xs.getD j .non) (ys.getD j .non)):=λj a1 a2=>by
 let l1:↑its=↑xs:=by rw[<-↑rv,↑hl]
 let l2:↑its'=↑ys:=by rw[<-↑Z,↑U]
 let j1:j<↑xs:=by rw[<-l1];simpa using a1
 let j2:j<↑ys:=by rw[<-l2];simpa using a2
 obtain⟨v1,e1,i1⟩:=hl.get (i:=j) (d:=xs[j]) (by simp[j1])
 obtain⟨v2,e2,i2⟩:=U.get (i:=j) (d:=ys[j]) (by simp[j2])
 erw[rv.get e1,b1,f1,g1];erw[Z.get e2,b2,f2,g2];let k1:its.toArray[j]=b1:=by
  have:=f1;rw[ug (by rwa[l1])] at this
  simpa using this
 let k2:its'.toArray[j]=b2:=by
  have:=f2;rw[ug (by rwa[l2])] at this
  simpa using this
 let d1:xs.getD j .non=xs[j]:=by simp[GN,j1]
 let d2:ys.getD j .non=ys[j]:=by simp[GN,j2]
 rw[k1,k2,d1,d2];exact ih _ (uU j1) _ _ _ _ _ (Eu (j:=j) hd (by simp[j1])) (Eu (j:=j) he (by simp[j2])) i1 i2 g1 g2
def Ig (I:#[I]){xs:oj D}{e:D}{v u:V}{a b:o6}{A:oh}(hd:nD (¬xs)=v_)(he:nD e=v_)(h1:Is H (¬xs) v)(h2:Is H e u)(r1:ik v a)(U:ik u b)(hu:A.units<Vp)
  (ih:∀x>xs,∀(e:D) (v u:V) (a b:o6),nD x=v_->nD e=v_->Is H x v->Is H e u->ik v a->ik u b->VJ A.in1 s a b (eqD x e)):VJ A s a b (eqD (¬xs) e):=by
 erw[id h1,p,vs,rfl,hp,hl];rw[r1,0];erw[I.tuple (.inl (.of hp)),its,rv,q,_];cases e with
 |non=>
  rw[show u= .non from h2,0]
  rw[U,0];exact pc q hu
 |str y=>
  obtain⟨rfl,_⟩:=(show u= .str y/\_ from h2)
  erw[U,t2,rfl,<-pD _ _ q hu]
 |int y=>
  rw[show u= .int y from h2,0]
  erw[U,t2,rfl,<-Pc _ _ q hu]
 |tup ys=>
  by_cases hv:V.ref p=u
  .have:=Is.detN (e:=¬ys) hd he h1 (hv▸h2);subst hv;rw[U,0];rw[<-this,(Zb hd).mpr rfl];exact f_ _
  .erw[id h2,p',us,rfl,ac,Z];rw[U,0];erw[I.tuple (.inl (.of ac)),its',aa,q',_];let l1:↑its=↑xs:=by rw[<-↑rv,↑hl]
   let l2:↑its'=↑ys:=by rw[<-↑aa,↑Z]
   let ad:=R_ (e:=λj=>eqD (xs.getD j .non) (ys.getD j .non)) q q' hu (DS (by simpa [nD] using hd) (by simpa [nD] using he) hl Z rv aa ih)
   let e1:eqD (¬xs) (¬ys)=((Vq (min its.toArray.size its'.toArray.size)).all (λj=>eqD (xs.getD j .non) (ys.getD j .non))&&its.toArray.size==its'.toArray.size):=by
    rw[uB,uB,l1,l2,<-Kw];simp![eqD]
   rw[e1];exact Pa (λz=>hv (by rw[z])) ad
 |_=>simp[nD] at he
def NP (I:#[I]):∀(n:Nat) (d e:D) (v u:V) (a b:o6) (A:oh),dp d<=n->nD d=v_->nD e=v_->Is H d v->Is H e u->ik v a->ik u b->A.units+n<Vp->VJ A s a b (eqD d e):=by
 intro n
 induction n with
 |zero=>
  intro d e v u a b A hn hd Z h1 h2 r1 r2 hu;cases d with
  |non=>
   rw[show v= .non from h1,0]
   rw[r1,0];exact sG I Z h2 r2 hu
  |int z=>
   rw[show v= .int z from h1,0]
   erw[r1,t,rfl,<-sH I Z h2 r2 hu]
  |str z=>simp[dp] at hn|tup xs=>simp[dp] at hn|_=>simp[nD] at hd
 |succ n ih=>
  intro d e v u a b A hn hd Z h1 h2 r1 r2 hu;let U:A.units<cLine:=tD (tE _ _) hu;cases d with
  |non=>
   rw[show v= .non from h1,0]
   rw[r1,0];exact sG I Z h2 r2 U
  |int z=>
   rw[show v= .int z from h1,0]
   erw[r1,t,rfl,<-sH I Z h2 r2 U]
  |str z=>
   obtain⟨rfl,_⟩:=(show v= .str z/\_ from h1)
   erw[r1,t,rfl,<-Ih I Z h2 r2 U]
  |tup xs=>
   let hm:dpL xs<=n:=by
    have:dp (¬xs)=1+dpL xs:=by simp![dp]
    omega
   exact Ig I hd Z h1 h2 r1 r2 U λx hx e v u a b k1 k2 k3 k4 k5 k6=>ih x e v u a b A.in1 ((sJ xs).mp hm x hx) k1 k2 k3 k4 k5 k6 (by rw[vj];omega)
  |_=>simp[nD] at hd
def AbW (I:#[I])(n:Nat)(d e:D)(v u:V)(a b:o6)(A:oh)(hn:dp d<=n)(hd:puD d=v_)(U:puD e=v_)(h1:Is H d v)(h2:Is H e u)(Z:ik v a)(r2:ik u b)(hu:A.units+n<Vp):VJ A s a b (eqD d e):=NP I n d e v u a b A hn (O9 hd) (O9 U) h1 h2 Z r2 hu
end
section
variable {X:Cx}
abbrev trD:D->Bool
 | .str _=>v_| .tup xs=>puL xs|_=>Vd
variable {oq:oj (o3×Obj)}{σ:St}{H:Hp}{s:o7}{A:oh}{ds:oj D}{y:V}{u:o6}
def Acy (I:#[I]){es:oj D}{x:V}{v:o6}(h1:Is H (¬ds) x)(h2:Is H (¬es) y)(hn:nL ds=v_)(aa:nL es=v_)(hd:dpL ds<=60)(rx:ik x v)(ry:ik y u)(hu:A.units+64<Vp):
  rR A s v u (eqL ds es)/\RF A s v u (!(eqL) ds es):=by
 erw[id h1,p,vs,rfl,hp,hl];erw[id h2,p',us,rfl,ac,U];rw[rx,0];rw[ry,0];erw[I.tuple (.inl (.of hp)),its,rv,q,_];erw[I.tuple (.inl (.of ac)),its',Z,q',_];let l1:↑its=↑ds:=by rw[<-↑rv,↑hl]
 let l2:↑its'=↑es:=by rw[<-↑Z,↑U]
 let pe:=DS (A:=A.in1) hn aa hl U rv Z λx hx e v u a b k1 k2 k3 k4 k5 k6=>NP I 60 x e v u a b A.in1 ((sJ ds).mp hd x hx) k1 k2 k3 k4 k5 k6 (by rw[vj];omega)
 let e1:=R_ (e:=λj=>eqD (ds.getD j .non) (es.getD j .non)) q q' () pe
 let e2:=pU (e:=λj=>eqD (ds.getD j .non) (es.getD j .non)) q q' () pe
 rw[uB,uB,l1,l2,<-Kw] at e1 e2;exact[e1:e2]
variable {e:D}
def Aeo (I:#[I]){d:D}{x:V}{v:o6}(h1:Is H d x)(h2:Is H e y)(p1:trD d=v_)(p2:trD e=v_)(hn:dp d<=60)(rx:ik x v)(Z:ik y u)(hu:A.units+64<Vp):
  rR A s v u (eqD d e)/\RF A s v u (!(eqD) d e):=by
 let U:A.units<cLine:=by omega
 cases d with
 |str z=>
  obtain⟨rfl,_⟩:=(show x= .str z/\_ from h1)
  erw[rx,t,rfl];cases e with
  |str w=>
   obtain⟨rfl,_⟩:=(show y= .str w/\_ from h2)
   erw[Z,t2,rfl,<-[R9 _ _ _ _:pk _ _ _ _]]
  |tup ys=>
   erw[id h2,p,us,rfl,hp,hl];rw[Z,0];erw[I.tuple (.inl (.of hp)),its,_,q,_,<-[R1 _ _ q U:p_ _ _ q U]]
  |_=>simp[trD] at p2
 |tup xs=>
  erw[id h1,p,vs,rfl,hp,hl];rw[rx,0];erw[I.tuple (.inl (.of hp)),its,rv,q,_];cases e with
  |str w=>
   obtain⟨rfl,_⟩:=(show y= .str w/\_ from h2)
   erw[Z,t2,rfl,<-[RM _ _ q U:pF _ _ q U]]
  |tup ys=>
   erw[id h2,p',us,rfl,ac,ad];rw[Z,0];let hm:dpL xs<=60:=by
    have:dp (¬xs)=1+dpL xs:=by simp![dp]
    omega
   let aa:=Acy I h1 h2 (puL_n (by simpa [trD] using p1)) (puL_n (by simpa [trD] using p2)) hm (v:=-p) (u:=-p') rfl rfl hu
   rw[show eqD (¬xs) (¬ys)=eqL xs ys by simp![eqD]]
   exact aa
  |_=>simp[trD] at p2
 |_=>simp[trD] at p1
inductive Ac2 (g:Bool->Bool)(x:V)(y:V)(H:Hp)(Q:VK):Prop
 |mk (d e:D)(_:Is H d x)(_:Is H e y)(_:trD d=v_)(_:trD e=v_)(_:dp d<=60)(_:Q (.bl (g (eqD d e))) H)
def D3 (U:X.A.units+64<Vp):OpR X (Vn .Eq) (Ac2 id):=by
 rw[2,x,y,v,u,Q,I,Z,ry,h];erw[h,d,e,h1,h2,p1,p2,hn,q,<-(Aeo I h1 h2 p1 p2 hn Z ry U).1 X.prog X.w X.xe _ (.bl _,H,I,1,q)]
end
variable {X:Cx}
def JX:YM X (.builtin "len") (λxs H Q=>(∃z:Str,xs= [!z]/\↑z<=Vh/\Q (.int ↑z) H)\/∃p ys,xs= [-p]/\(SqL X.K H p ys\/SqT X.K H p ys)/\(↑ys<=Vh->Q (.int ↑ys) H)):=by
 rw[2,xs,us,Q,I,r,h];rcases h with⟨z,e,hz,q⟩|h
 .exact qan oq s σ H xs us Q I r (_,↑z,e,[hz:1],q)
 .exact ID oq s σ H xs us Q I r h
abbrev Ado (K:o0)(n:Nat)(t:TGs):TG:=λv σ H Q=>∃a xs,v= .ref a/\SqL K H a xs/\↑xs=n/\t xs σ H Q
def Pl {X:Cx}{es:oj Expr}{k:Nat}{t:TGs}{n:Nat}{pos:Pos}(hc:X.calm=v_)(h:PGs X es t)
  (hn:↑(V_ es X.env)=n) (U:(V_ es X.env).findIdx? (·.1)=U_):PG X (.Tuple es k pos) (Ado X.K n t):=by
 rw[2,v,u,Q,I,r,Z];erw[Z,a,xs,e1,hq,hl,Z];subst e1;rw[r,0];erw[I.list hq,its,rv,ht,hz];rw[assign_Tuple];refine A7 (HR ?_);unfold unpack;rw[U,hn,<-hl,show ↑xs=its.toArray.size by simp[rv.length]]
 refine A7 (VQ (PySem.W.kun_itemsOf (I.ok.hd hc) ht.isList λh' hx=>?_));let I1:Inv X oq σ H {s with heap:=h'}:=I.kept (t':=s.toks) λb o e=>hx b o (uY (uI e)) e
 exact h oq _ σ H xs _ Q I1 (by simpa using rv) Z
variable {w:og}{K:o0}{mg:Str->om o6}{base:o8}{f:o3}{A:oh}
def Abl {P:o9}{N:oj Str}{qual:Str}{scope:Vw}{cd:o6}{outer:oj Env}{s₀:o7}{H₀:Hp}{E:XK}:
  X8 (CX1 P w) (cxOf (CX1 P w) P w K mg base N qual scope f cd A outer s₀ H₀ E) E:=by
 intro oq σ H s e s' I h;erw[h,ea,C,a0,H',B,rfl,au,ae,htk,aw,al,am,hold,hE];show Ve (Vt P w) (A.deeper (Vk qual scope #[0,s₀] f cd)) (Tl (Vk qual scope #[0,s₀] f cd) (-ea)) (λ_ af=>CX1 P w outer H₀ s₀ E (-ea) af) (λe' af=>CX1 P w outer H₀ s₀ E e' af) _;let ax:(A.deeper (Vk qual scope #[0,s₀] f cd)).frames=u_ (Vk qual scope #[0,s₀] f cd::outer):=I.ok.frames;let ag:frs (Vk qual scope #[0,s₀] f cd::outer)=#[0,s₀]::frs outer:=rfl;let U:Un (frs outer) [] H₀ H s₀.heap s.heap:=I.base;let Z:Un (frs (Vk qual scope #[0,s₀] f cd::outer)) [] H H' s.heap s'.heap:=aw;let aa:RX B (Vk qual scope #[0,s₀] f cd::outer) ea (-C) a0 s'.heap:=am;let ac:∀b o,s.heap.get? b=u_ o->b∉frs (Vk qual scope #[0,s₀] f cd::outer)->∃o',B.get? b=u_ o':=hold;let ay:=aa.2.2.1;let ad:∀b o,s₀.heap.get? b=u_ o->b∉frs outer->b∉frs (Vk qual scope #[0,s₀] f cd::outer):=λb o e hb hm=>by
  rw[ag] at hm;rcases Ab.mp hm with rfl|hm
  .exact A8 (uI e) (vM _)
  .exact hb hm
 let nd:∀b>frs outer,∀o,s'.heap.get? b=u_ o->∀vs,o.data≠ .fields vs:=λb hb o e=>by
  obtain⟨_,o',e',hn⟩:=ay.mem (show b>(Vk qual scope #[0,s₀] f cd::outer).filterMap (·.frame) from by rw[show(Vk qual scope #[0,s₀] f cd::outer).filterMap (·.frame)=frs (Vk qual scope #[0,s₀] f cd::outer) from rfl,ag];exact uh _ hb)
  rw[e] at e';rw[e',0];exact hn
 refine wpAny_leaves_onW (base:=B) (L:=#[0,s₀]) ax rfl aa λaA ah ao=>?_;let aB:∀b o o',B.get? b=u_ o'->s'.heap.get? b=u_ o->aA.get? b=u_ o:=λb o o' e1 e2=>by
  have:=aa.1 b o' e1;rw[e2,0] at this;exact ah.1 b o e1
 rw[_,ea,C,a0,H',B,1,au.trans I.os,ae,htk,(?_,?_,?_,?_,?_,?_,?_),al,ah,?_,hE]
 .intro b o e1 hn hb hx;let e2:=U.keep b o e1 hn hb hx;let ak:=U.free b o e1 hn hx;let ap:=ad b o e1 hb;let e3:=Z.keep b o e2 ak ap hx;erw[ac b o e2 ap,o',e4,<-aB b o o' e4 e3]
 .intro b o e1 hn hb hx;erw[U.slot b o e1 hn hb hx,sl,e2];let ak:=U.free b o e1 hn hx;obtain⟨aC,e3⟩:=Z.slot b _ e2 ak (by rw[ag];exact uh _ hb) hx
  erw[ao b _ e3 (nd b hb _ e3),aq,e4,<-[aq:e4]]
 .intro b o e1 hn hx;erw[U.there b o e1 hx,o',e2,<-Z.free b o' e2 (U.free b o e1 hn hx) hx]
 .intro b o e1 hx;erw[U.there b o e1 hx,o',e2];by_cases hb:b>frs outer
  .erw[Z.there b o' e2 hx,o2,e3];erw[ao b _ e3 (nd b hb _ e3),aq,e4,<-[_:e4]]
  .erw[ac b o' e2 (ad b o e1 hb),o2,e3,<-[o2:ah.1 b o2 e3]]
 .exact λb xs e=>Z.tups b xs (U.tups b xs e)
 .exact λb o u e=>Z.frzs b o u (U.frzs b o u e)
 .intro b ps e;erw[U.tbls b ps e,m1,e1];erw[Z.tbls b _ e1,m2,e2,<-⟨m1++m2,by rwa[<-TJ]⟩]
 .intro b o e1 hb;obtain⟨o',e2⟩:=U.there b o e1 (by simp)
  exact ac b o' e2 (ad b o e1 hb)
def DR:X8 (CX1 X.prog X.w) X E0:=λ_ _ _ _ _ _ _ h=>by
 erw[h,_,_,_,_,_,_,_,_,_,_,_,_,_,z,<-Vx z]
end L2
namespace L2
open PySem PyProof.Rows
variable {H:Hp}{p:o3}
def Tk.updD {xs ys:oj (Key×V)}(h:H p=u_ (.dK xs)):Tk H (upd H p (.dK ys)):=by
 rw[_,λb zs e=>?_,λb zs e=>[zs:?_],λb zs e=>?_]
 .rw[qi (λz=>by rw[z,h,0] at e)];exact e
 .rw[qi (λz=>by rw[z,h,0] at e)];exact e
 .by_cases z:b=p
  .exact⟨ys,by rw[z];exact qg⟩
  .exact⟨zs,by rwa[qi z]⟩
variable {C dx:o3}
def Tk.updI {U dx':o3}{xs ys:oj (Str×V)}(h:H p=u_ (.ins C dx xs)):Tk H (upd H p (.ins U dx' ys)):=
 ⟨λb zs e=>by rw[qi (λz=>by rw[z,h,0] at e)];exact e,λb zs e=>⟨zs,by rw[qi (λz=>by rw[z,h,0] at e)];exact e⟩,λb zs e=>⟨zs,by rw[qi (λz=>by rw[z,h,0] at e)];exact e⟩⟩
section
variable {X:Cx}
inductive O2 (x:V)(vs:List V)(H:Hp)(Q:VK):Prop
 |mk (z y:Str)(_:x= !z)(_:vs= [!y])(_:Q (.bl (GD z y)) H)
def Ev:MtM X "str.startswith" O2:=by
 rw[2,x,vs,v,us,Q,I,U,rv,h];erw[h,z,y,rfl,rfl,q];erw[U,t,rfl];erw[rv.one,u,rfl,t',rfl,<-SC.startswith (.bl (GD z y),H,I,1,q)]
end
def Sv {d A:o3}{o:Obj}{H1:Hp}{tc:TT}{te:TE}{tl:St}{Q:VK}{kvs:oj (Key×V)}{ls:oj Str}(p:Str->Bool)(f:Str->V)(hd:H1 d=u_ (.frz o (.dK kvs)))(hk:kvs.map (·.1)=ls.map Vf)(hn:↑ls<=Vh)(hA:H1 A=U_)
  (Z:∀z H (R:Bool->Hp->Prop),z>ls->ic H1 H->R (p z) H->tc (u_ (!z)::tl) H R)
  (aa:∀z H (R:VK),z>ls->ic H1 H->R (f z) H->te (u_ (!z)::tl) H R)
  (hQ:∀H',ic H1 H'->H' A=u_ (.lst ((ls.filter p).map f))->Q (-A) H'):AJ A (Itd d o) (YD 0) tc te (U_::tl) H1 Q:=by
 let ad:↑kvs=↑ls:=by
  have:=Aa VI hk
  simpa using this
 rw[_,↑ls,λi σ ys H=>(∃w,σ=w::tl)/\ys=((ls.take i).filter p).map f/\ic H1 H,hn,[[U_:1]:1:qf hA _],?_,?_]
 .rintro i σ ys H hi ⟨⟨w,rfl⟩,rfl,sm⟩ U hy;rw[_,[kvs:sm _ _ hd:()]]
  rintro x H' ⟨rfl,hx⟩;let e:=hx kvs (sm _ _ hd);let e2:(kvs.map λp=>kV p.1)[i]? =u_ (V.str ls[i]):=by
   have:(kvs.map λp=>kV p.1)=(kvs.map (·.1)).map kV:=by rw[uP];rfl
   rw[this,hk,uP,uK,ug hi]
   rfl
  rw[e2,0] at e;let et:ls.take (i+1)=ls.take i++ [ls[i]]:=by rw[vi,ug hi];rfl
  let ac:∀ys,ic H1 (upd H' A (.lst ys)):=λys b o' e=>by
   rw[qi (qk e hA)];exact sm _ _ e
  dsimp![YD,GB];refine Z ls[i] H' _ (uU hi) sm ?_;cases hp:p ls[i] with
  |true=>
   refine ky (aa ls[i] H' _ (uU hi) sm (U,⟨0⟩,?_,ac _));rw[et,V1,uA];simp[hp]
  |false=>
   refine iX (U,⟨0⟩,?_,sm);rw[et,V1,uA];simp[hp]
 .rintro σ ys H ⟨_,rfl,sm⟩ U;rw[U1] at U;exact[[kvs:sm _ _ hd:()]:hQ H sm U]
def Sq {K:o0}{a A:o3}{H1:Hp}{te:TE}{tl:St}{Q:VK}{ls:oj Str}(C:Nat->oj V->Hp->Prop)(ha:H1 a=u_ (.lst (ls.map V.str)))(hn:↑ls<=Vh)(hA:H1 A=U_)(h0:C 0 [] (upd H1 A (.lst [])))
  (aa:∀i z ys H,ls[i]? =u_ z->C i ys H->H A=u_ (.lst ys)->H a=u_ (.lst (ls.map V.str))->↑ys<=i->∀R:VK,(∀y H4,H4 A=u_ (.lst ys)->H4 a=u_ (.lst (ls.map V.str))->C (i+1) (ys++ [y]) (upd H4 A (.lst (ys++ [y])))->R y H4)->te (u_ (!z)::tl) H R)
  (hQ:∀ys H,C ↑ls ys H->H A=u_ (.lst ys)->Q (-A) H):AJ A (Itl K a) (YD 0) nH te (U_::tl) H1 Q:=by
 let Z:a≠A:=qk ha hA;refine(↑ls,λi σ ys H=>(∃w,σ=w::tl)/\C i ys H/\H a=u_ (.lst (ls.map V.str)),hn,⟨[U_:1],h0,by rwa[qi Z]⟩,?_,?_)
 .rintro i σ ys H hi ⟨⟨w,rfl⟩,hc,hl⟩ U hy;let e0:(ls.map V.str)[i]? =u_ (V.str ls[i]):=by rw[uK,ug hi];rfl
  rw[_,(_,_,SqL.of hl,e0)];rintro x H' ⟨rfl,hx⟩;let e:=hx _ (SqL.of hl);rw[e0,0] at e;dsimp![YD,nH,GB];rw[A6 rfl];exact aa i ls[i] ys H' (ug hi) hc U hl hy _ λy H4 h4 h5 c4=>(h4,⟨0⟩,c4,by rwa[qi Z])
 .rintro σ ys H ⟨_,hc,hl⟩ U;exact⟨⟨_,SqL.of hl,by simp⟩,hQ ys H hc U⟩
section
variable {X:Cx}{K:o0}{o e:Expr}{es:oj Expr}{to:TE}{t:TA}{name:Str}{apos cpos:Pos}{T id:String}{r:V->oj V->Hp->VK->Prop}
def Abk (hK:X.K=K)(pa:tW T)(slot:Slot T name id)(ad:HY (.builtin id)=pure (.type "method_descriptor"))(hm:MtR X id r)(ho:PE X o to)(ha:PA X (e::es) t)
  (Z:Gb o name X.env (eval o X.env)=eval o X.env)
  (ac:((Vo cpos (Vi (e::es) X.env)).all (λx=> !(x).1)&&(Gh cpos (Gi [] X.env)).all (λx=>x.1.isSome)
   &&decide (↑(e::es)+↑([]:oj Gq)+(if([]:oj Gq).isEmpty then 0 else 1)<30))=v_)
  (aa:(apos.endLine==cpos.line)=v_) (hs:Vi (e::es) X.env=(Vd,eval e X.env)::Vi es X.env) (U:(Vo cpos (Vi es X.env)).any (·.1)=Vd):
  PE X (.Call (.Attribute o name apos) (e::es) [] cpos) (tBM K T r to t):=by
 subst hK;exact YQ pa slot ad hm ho ha Z ac aa hs U
end
section
variable {X:Cx}
def Inv.laidM {oq:oj (o3×Obj)}{σ:St}{H H':Hp}{s:o7}{h':o8}{t':Nat}(I:#[I])(k:∀b u,s.heap.get? b=u_ u->h'.get? b=u_ u)(sm:ic H H')
  (U:∀b o,H b=U_->H' b=u_ o->#[0,s]<=b/\yj X.prog X.w H' h' b o) (Z:0<t'):Inv X oq σ H' {s with heap:=h',toks:=t'}:=by
 refine I.un (λb u q _ _ _=>k b u q,λb u q _ _ _=>[u.slots:k b u q],λb u q n _=>?_,λb u q _=>[u:k b u q],λb xs q=>sm _ _ q,λb u xs q=>sm _ _ q,λb ps q=>⟨#[],by rw[sm _ _ q];simp⟩) (λb u e=>?_) Z
 .cases e:H' b with
  |none=>rfl|some o=>
   exact A8 (uI q) (Nat.not_lt.mpr (U b o n e).1)
 .cases q:H b with
  |none=>exact(U b u q e).2|some o=>
   rw[sm _ _ q,0] at e;exact(I.hok b _ q).stay (λc v _ z=>k c v z) (λc z=>sm _ _ z) λc xs z=>sm _ _ z
end
abbrev NU (ps:oj (o3×oj V))(H:Hp):Hp:=ps.foldl (λh p=>upd h p.1 (.tup p.2)) H
def X1:∀(ps:oj (o3×oj V)) (H:Hp) (b:o3),b∉ps.map (·.1)->NU ps H b=H b
 | [],_,_,_=>rfl|p::r,H,b,h=>by
  show NU r (upd H p.1 (.tup p.2)) b=_;rw[X1 r _ b (λm=>h (uh _ m)),qi (λe=>h (by rw[e];exact uj ..))]
def IL:∀(ps:oj (o3×oj V)) (H:Hp) (p:o3×oj V),(ps.map (·.1)).Nodup->p>ps->NU ps H p.1=u_ (.tup p.2)
 | [],_,_,_,h=>nomatch h|q::r,H,p,hn,h=>by
  let U:=List.nodup_cons.mp hn;show NU r (upd H q.1 (.tup q.2)) p.1=_;rcases Ab.mp h with rfl|h
  .rw[X1 r _ _ U.1,qg]
  .exact IL r _ p U.2 h
abbrev Za (H:Hp)(kvs:oj (Key×V))(ts:oj o3):Prop:=↑ts=↑kvs/\∀(j:Nat) (t:o3) (p:Key×V),ts[j]? =u_ t->kvs[j]? =u_ p->H t=u_ (-[kV p.1,p.2])
inductive Aab (mk:List V->HO)(Q:VK)(x:V)(H1:Hp):Prop
 |mk (d:Addr)(kvs:List (Key×V))(_:x=-d)(_:Rd H1 d (.dK kvs))(_:∀(t:Addr)(ts:List Addr)(H2:Hp),ic H1 H2->H1 t=U_->H2 t=u_ (mk (ts.map V.ref))->Za H2 kvs ts->Q (-t) H2)
abbrev AaH (mk:oj V->HO)(to:TE):TE:=λσ H Q=>to σ H λx H1=>Aab mk Q x H1
def Ww {α β:Type}:∀{as:oj α}{bs:oj β},↑as=↑bs->(as.zip bs).map (·.1)=as
 | [],[],_=>rfl|a::as,b::bs,h=>by
  rw[List.zip_cons_cons,uC,Ww (by simpa using h)]
def Wm {α β:Type}{F:α->β->Prop}:∀{l₁:oj α}{l₂:oj β},Paired F l₁ l₂->∀{j:Nat}{a:α}{b:β},l₁[j]? =u_ a->l₂[j]? =u_ b->F a b
 |_,_,.nil,j,a,b,h,_=>by simp at h|_,_,.cons f r,0,a,b,h1,h2=>by
  rw[h1,0];rw[h2,0];exact f
 |_,_,.cons f r,j+1,a,b,h1,h2=>Wm r (j:=j) (by simpa using h1) (by simpa using h2)
section
variable {X:Cx}{oq:oj (o3×Obj)}{σ:St}{H:Hp}{s:o7}
def CQ {r t:o3}{kvs:oj (Key×V)}{vs:oj (Key×o6)}{as:oj o3}{h1 h2:o8}{tk:Nat}{o:HO}(I:#[I])(U:KV kvs vs)(k2:∀b u,s.heap.get? b=u_ u->h2.get? b=u_ u)(hl:↑as=↑vs)(hz:#[0,s]<=r)
  (hG:PySem.W.KdxG (Qc X.prog X.w) vs r h1 as) (ac:∀a>as,∀u,h1.get? a=u_ u->h2.get? a=u_ u) (ht:#[0,s]<=t) (ad:t∉as) (hu:∃u,o=u) (htk:0<tk)
  (new:∀H',ic H H'->Za H' kvs as->yj X.prog X.w H' h2 t o):
  ∃H',Inv X oq σ H' {s with heap:=h2,toks:=tk}/\ic H H'/\H t=U_/\H' t=u_ o/\Za H' kvs as:=by
 let hn:as.Nodup:=hG.rise.imp λh=>uY h;let hf:∀a>as,H a=none:=λa ha=>I.hok.fresh (vb hz (UC (hG.above a ha)));let aa:H t=none:=I.hok.fresh ht;let ag:↑kvs=↑vs:=↑U
 refine_lift let ps:oj (o3×oj V):=as.zip (kvs.map λp=> [kV p.1,p.2]);?_
 let ef:ps.map (·.1)=as:=Ww (by rw[u9];omega)
 let ae:ic H (NU ps H):=λb u e=>by
  rw[X1 ps H b (by rw[ef];exact λm=>by rw[hf b m,0] at e)]
  exact e
 let sm:ic H (upd (NU ps H) t o):=λb u e=>by
  rw[qi (qk e aa)];exact ae _ _ e
 let it:Za (upd (NU ps H) t o) kvs as:=by
  rw[_,(),λj a p h3 h4=>?_]
  let ma:=uX h3;rw[qi (λe=>ad (by rwa[<-e]))]
  refine IL ps H (a,[kV p.1,p.2]) (by rwa[ef]) ?_
  refine uX (i:=j) ?_;show(as.zip (kvs.map λp=> [kV p.1,p.2]))[j]? =_;rw[FT];exact⟨h3,by rw[uK,h4];rfl⟩
 rw[_,upd (NU ps H) t o,I.laidM k2 sm (λb u e1 e2=>?_) htk,sm,aa,qg,it];by_cases hb:b=t
 .subst hb;rw[qg,0] at e2;exact[ht:new _ sm it]
 .rw[qi hb] at e2;let mb:b>as:=by
   refine RN λm=>?_;rw[X1 ps H b (by rwa[ef]),e1] at e2
   rw[e2,0]
  rw[_,vb hz (UC (hG.above b mb))];erw[List.mem_iff_getElem?.mp mb,j,hj];erw[hG.pairs j b hj,af,kk,x,f1,f2,f3];let Z:j<↑kvs:=by
   have:=(Ag.mp f1).1;omega
  let e5:=it.2 j b kvs[j] hj (ug Z);rw[qi hb,e2,0] at e5;let q1:kvs[j].1=kk:=by
   have:(kvs.map (·.1))[j]? =u_ kk:=by rw[U.keys,uK,f1];rfl
   rw[uK,ug Z] at this;exact uN this
  let q2:ik kvs[j].2 x:=by
   exact(Wm U (ug Z) f1).2
  refine(by show 2<=Vh;decide,[af,x],.cons (by rw[q1];exact EG f2) (.cons q2 .nil),(_,ac b mb _ f3,1,0))
def CU {o:Expr}{to:TE}{apos cpos:Pos}{R:o6->o7->Prop}{Q:VK}(ho:PE X o to)(I:#[I])(U:Gb o "items" X.env (eval o X.env)=eval o X.env)(Z:(apos.endLine==cpos.line)=v_)
  (h:to σ H Q)
  (k:∀(s1:o7) (H1:Hp) (x:V),Inv X oq σ H1 s1->Q x H1->∃(d:o3) (kvs:oj (Key×V)),x= .ref d/\Rd H1 d (.dK kvs)/\R (.ref #[0,s1]) {s1 with heap:=s1.heap.push {cls:= .type "dict_items",data:= .fields #[-d]}}):
  Ve #[X,X] X.A (eval (.Call (.Attribute o "items" apos) [] [] cpos) X.env) R X.xe s:=by
 refine RU U Z (thn (ho oq s σ H _ I h) λv s1 zq=>?_);erw[zq,x,H1,I1,r1,q];erw[k s1 H1 x I1 q,d,kvs,ex,hd,q2];subst ex;rw[r1,0];erw[Zm I1.hok hd,hz,lo,vs,ac,dd];let aa:∀a,Vj d= .ref a->∃ob,s1.heap.get? a=u_ ob/\ob.dict=none:=AW I1 (y:=kV (Gj 0)) (.inl (kvs,Gj 0,hd,1,1));exact("dict","dict.items",Uq,PySem.F.slot_dict_items,PySem.F.type_dict_items,dd.typeIs,aa,vT rfl (PySem.evalArgs_none (Hl PySem.F.slot_dict_items dd.typeIs PySem.F.entry_dict_items (PySem.F.args_dict_items_1 _) (meets_dict_items (Qc X.prog X.w) d lo) [[vs:dd]:q2])))
end
abbrev Np:D->Bool
 | .non=>v_|d=>trD d
section
variable {X:Cx}
inductive Aev (x:V)(y:V)(H:Hp)(Q:VK):Prop
 |mk (d:D)(z:Str)(_:Is H d x)(_:y= !z)(_:↑z<=1000)(_:Np d=v_)(_:dp d<=60)(_:Q (.bl (eqD d (!z))) H)
def Abo (hu:X.A.units+64<Vp):OpR X (Vn .Eq) Aev:=by
 rw[2,x,y,v,u,Q,I,U,Z,h];erw[h,d,z,hd,rfl,hz,hk,hp,q];cases d with
 |non=>
  rw[show x= .non from hd,0]
  exact Qg oq s σ H .non (!z) v u Q I U Z ⟨1,by simpa [eqD] using q⟩
 |str a=>exact D3 hu oq s σ H x _ v u Q I U Z (_,!z,hd,⟨1,by rw[uD];omega⟩,hk,1,hp,q)|tup a=>exact D3 hu oq s σ H x _ v u Q I U Z (_,!z,hd,⟨1,by rw[uD];omega⟩,hk,1,hp,q)|_=>simp[Np,trD] at hk
inductive Aet (K:PySem.W.Frag)(x:V)(y:V)(H:Hp)(Q:VK):Prop
 |mk (d:D)(p:Addr)(ls:List Str)(_:Is H d x)(_:y=-p)(_:(SqL K H p (ls.map V.str)\/SqT K H p (ls.map V.str)))(_:(∀z>ls,↑z<=1000))(_:Np d=v_)(_:dp d<=60)(_:Q (.bl (ls.any λz=>eqD d (!z))) H)
def Fr (us:oj Str):(us.map V.str).all zY=true:=by
 rw[UV,Ua];exact λ_ _=>rfl
def Nl (hu:X.A.units+64<Vp):OpR X (Vn .In) (Aet X.K):=by
 rw[2,x,y,v,u,Q,I,rx,ry,h];erw[h,d,p,ls,hd,rfl,U,ac,hk,hp,q];cases d with
 |non=>
  rw[show x= .non from hd,0]
  refine QP oq s σ H .non _ v u Q I rx ry (p,0,U,1,Fr _,?_);let e:inV .non (ls.map V.str)=ls.any λz=>eqD .non (!z):=by
   unfold inV;rw[Hx]
   rfl
  rwa[A4 uf,e]
 |str a=>
  erw[hd,rfl,_];refine QP oq s σ H _ _ v u Q I rx ry (p,0,U,1,Fr _,?_);let e:inV (!a) (ls.map V.str)=ls.any λz=>eqD (!a) (!z):=by
   unfold inV;rw[Hx];refine Aa (λf=>ls.any f) (funext λz=>?_);show(z==a)=(a==z);rw[U5,beq_iff_eq,beq_iff_eq];exact eq_comm
  rwa[A4 uf,e]
 |tup xs=>
  let e:(ls.any λz=>eqD (¬xs) (!z))=false:=by
   rw[tY];intro z _;simp[eqD]
  rw[e] at q;erw[hd,pa,vs,rfl,ha,hl];rw[rx,0];rw[ry,0];erw[I.tuple (.inl (.of ha)),ad,ae,af,_];let ag:X.A.units<cLine:=by omega
  let Z:∀{its:oj o6},iw (ls.map V.str) its->∀w>its,∀A:oh,A.units+1<Vp->VJ A s w (-pa) false:=by
   intro its r w hw A hA;erw[List.mem_iff_getElem?.mp hw,j,hj];let aa:j<↑ls:=by
    have:=(Ag.mp hj).1;have:=↑r;rw[u9] at this;omega
   obtain⟨u',e1,e2⟩:=r.get (i:=j) (x:=V.str ls[j]) (by rw[uK,ug aa];rfl)
   rw[hj,0] at e1;have:=AbW I 1 (.str ls[j]) (¬xs) (.str ls[j]) (-pa) _ (-pa) A (by simp[dp]) rfl (by simpa [Np,trD,puD] using hk) ⟨1,by have:=ac _ (uU aa);rw[uD];omega⟩ (pa,vs,1,ha,hl) e2 rfl ()
   simpa [eqD] using this
  rcases U with U|U
  .erw[I.list U,its,r,pl,hz];refine RH (λ_=>Vd) pl.isList (λw hw=>Z r w (by simpa using hw) _ ?_) (.bl _,H,I,1,?_)
   .first|omega|(rw[vj];omega)|(rw[vj,vj];omega)|(rw[vj,vj,vj];omega)
   .rw[show its.toArray.any (λ_=>Vd)=Vd by rw[FQ];exact List.any_eq_false.mpr λ_ _=>uf]
    exact q
  .erw[I.tuple U,its,r,pl,hz];refine rF (λ_=>Vd) pl (λw hw=>Z r w (by simpa using hw) _ ?_) (.bl _,H,I,1,?_)
   .first|omega|(rw[vj];omega)|(rw[vj,vj];omega)|(rw[vj,vj,vj];omega)
   .rw[show its.toArray.any (λ_=>Vd)=Vd by rw[FQ];exact List.any_eq_false.mpr λ_ _=>uf]
    exact q
 |_=>simp[Np,trD] at hk
end
end L2
namespace L2
open PySem PySem.Spec PyProof.Rows Builtin Builtin.Str
abbrev AaN (P:o9)(w:og)(K:o0)(mg:Str->om o6)(base:o8)(k:Nat)(tf:TE)(t:TA):TE:=λσ H Q=>tf σ H λv H1=>∃(f:o3) (fd:Vg) (ps:oj Str) (sp:Sp),v= .ref f/\
 FnOk P w K mg base CX0 k f fd ps sp/\Xd K fd ps []/\PySem.W.keepIn K (-f)=v_/\t σ H1 λvs H2=>sp vs H2 Q E0
def LF {X:Cx}{o i e:Expr}{es:oj Expr}{U pos:Pos}{tf:TE}{t:TA}{k:Nat}{P:o9}{w:og}{K:o0}{mg:Str->om o6}{base:o8}(e1:X.prog=P/\X.w=w/\X.K=K/\X.mg=mg/\X.base=base)(hf:PE X (.Subscript o i U) tf)(hr:mB k X.A)(ha:PA X (e::es) t)
  (he:Vi (e::es) X.env=(Vd,eval e X.env)::Vi es X.env) (Z:(Vo pos (Vi es X.env)).any (·.1)=Vd):
  PE X (.Call (.Subscript o i U) (e::es) [] pos) (AaN P w K mg base k tf t):=by
 erw[e1,rfl,rfl,rfl,rfl,rfl];rw[2,Q,I,h];show Ve _ _ (do Ha pos (<-eval (.Subscript o i U) X.env) [] (Vo pos (Vi (e::es) X.env)) (Gh pos (Gi [] X.env))) _ _ s
 refine A7 (thn (hf oq s σ H _ I h) λu s1 zq=>?_);erw[zq,v,H1,I1,rv,f,fd,ps,sp,ev,F,hb,hk,q];subst ev;obtain rfl:u=Vj f:=rv;refine Ux (h₀:=X.base) I1.ok.mod.kin hk (thn (ha pos oq s1 σ H1 _ I1 q) λus s2 ⟨vs,H2,I2,r,q2⟩=>[I2.kIn:?_]) he Z;exact Bt (ds:= []) (dvs:= []) F hr hb .nil qz I2 r (by rw[vJ];exact q2)
def qad (z y:Str)(hi U:Nat):∀(l:oj Nat) (st:Array Nat×Nat),(VY l st (Gn z y hi U)).run.fst.size<=st.fst.size+↑l
 | [],st=>uq _|a::l,st=>by
  rw[UF];unfold Gn;split
  .refine vb (qad z y hi U l _) ?_;simp![Rk,um];omega
  .refine vb (qad z y hi U l _) ?_;simp![um];omega
def Se (z y:Str)(n:Nat):↑(occurrences z y 0 ↑z n)<=↑z+1:=by
 rw[Fi];have:=qad z y ↑z n (hW 0 (↑z+1-0)) (#[],0);rw[vt];refine vb this ?_;simp
abbrev spG (z y:Str):oj Str:=if(decide (↑z<↑y)||decide (VA z<VA y))=v_ then [z] else if(occurrences z y 0 ↑z (↑z+1)).isEmpty=v_ then [z] else partsBetween z (occurrences z y 0 ↑z (↑z+1)) ↑y
def OT (z y:Str):↑(spG z y)<=↑z+2:=by
 unfold spG;let h:=Se z y (↑z+1);split
 .simp
 .split
  .simp
  .simp![partsBetween,u9,List.length_zip,um,uw,vn];omega
variable {z:Str}
def OS {y p:Str}(h:p>spG z y):↑p<=↑z:=by
 unfold spG at h;split at h
 .rw[UA] at h;subst h;exact uq _
 .split at h
  .rw[UA] at h;subst h;exact uq _
  .simp![partsBetween,Af] at h;erw[h,q,_,e];rw[<-e];exact strSub_length_le _ _ _
section
variable {X:Cx}
inductive O4 (x:V)(vs:List V)(H:Hp)(Q:VK):Prop
 |mk (z:_)(y:_)(_:x= !z)(_:vs= [!y])(_:0<↑y)(_:↑z<=1000)(_:∀p,H p=U_->Q (-p) (upd H p (.lst ((spG z y).map V.str))))
def Ex:MtM X "str.split" O4:=by
 rw[2,x,vs,v,us,Q,I,rx,rv,h];erw[h,z,y,rfl,rfl,hy,hz,q];erw[rx,t,rfl];erw[rv.one,u,rfl,t',rfl];let aa:↑z<=sizeLine:=by rw[uD];omega
 let U:(↑y==0)=false:=by simp;omega
 let one:spG z y= [z]->∀(T:Nat),0<T->EP X oq σ Q (.ref #[0,s]) {s with heap:=s.heap.push {cls:= .type "list",data:= .seq [VC z t].toArray},toks:=T}:=λe T hT=>by
  rw[e] at q;exact xq (ys:= [V.str z]) I (.cons (show ik (V.str z) _ from[t:1]) .nil) (by show 1<=Vh;decide) q
 cases h1:(decide (↑z<↑y)||decide (VA z<VA y)) with
 |true=>
  refine vP vS (vX _ _ _) vL (Ug _ _) (RZ z y t t' h1) ?_;exact one (by unfold spG;rw[A6 h1]) s.toks I.tk
 |false=>
  cases Z:(occurrences z y 0 ↑z (↑z+1)).isEmpty with
  |true=>
   refine vP vS (vX _ _ _) vL (Ug _ _) (FJ z y t t' h1 U Z) ?_;exact one (by unfold spG;rw[A4 (by rw[h1];decide),A6 Z]) s.toks I.tk
  |false=>
   let hl:=OT z y;let e:spG z y=partsBetween z (occurrences z y 0 ↑z (↑z+1)) ↑y:=by unfold spG;rw[A4 (by rw[h1];decide),A4 (by rw[Z];decide)]
   rw[e] at q hl;refine vP vS (vX _ _ _) vL (Ug _ _) (FE z y t t' h1 U Z aa (by rw[uD];omega)) ?_
   exact xq I (zI _ _) (by rw[u9,uD];omega) q
inductive Aa9 (K:PySem.W.Frag)(x:V)(vs:List V)(H:Hp)(Q:VK):Prop
 |mk (sep:Str)(p:Addr)(l:List Str)(_:x= !sep)(_:vs= [-p])(_:SqT K H p (l.map V.str))(_:(l.map (·.length)).sum+↑l*↑sep<=1000000)(_:Q (.str (Vl sep l)) H)
def Mf:MtM X "str.join" (Aa9 X.K):=by
 rw[2,x,vs,v,us,Q,I,rx,rv,h];erw[h,sep,p,l,rfl,rfl,hp,hz,q];erw[rx,t,rfl];erw[rv.one,u,rfl,ru];rw[ru,0];erw[I.tuple hp,its,r,pl,hl];erw[Wj r,ps,rfl,e2];let Z:tooLong ((ps.map (·.1)).toArray.foldl (·+ ·.length+↑sep) 0)=false:=by
  rw[e2];have:=rP sep l;rw[this];unfold tooLong;refine ui ?_;rw[uD];omega
 refine vP F.slot_str_join (vX _ _ _) F.entry_str_join (F.args_str_join_2 _ _) (meets_str_join_tuple sep t p ps Z) ⟨(let⟨o,h1,h2,n,h3⟩:=pl;(o,n,h1,h2,h3)),?_⟩;let U:(glued sep (ps.map (·.1))).length<=sizeLine:=rH Z
 match ps,e2,U with
 | [],e2,U=>
  subst e2;exact(U,.str _,H,I.tok _,⟨0⟩,q)
 | [a],e2,_=>
  subst e2;exact(.str _,H,I,[a.2:1],q)
 |a::b::r,e2,U=>
  subst e2;rw[_,U,.str _,H,I.tok _,⟨0⟩];rw[FC];exact q
def AaY:SlR X (λx lo hi H Q=>AdS x lo hi H Q\/Acz X.K x lo hi H Q):=AaX.or YH
end
end L2
namespace L2
open PySem PySem.Spec PyProof.Rows
open Builtin.Int (intBits)
section
variable {X:Cx}
inductive Aeu (K:PySem.W.Frag)(w:World)(x:V)(y:V)(H:Hp)(Q:VK):Prop
 |mk (z:_)(a:_)(r:_)(_:x= !z)(_:y=-a)(_:IP K w a)(_:PySem.W.nsIn K a z=u_ r)(_:Q (.bl r.isSome) H)
def Abn:OpR X (Vn .In) (Aeu X.K X.w):=by
 rw[2,x,y,v,u,Q,I,Z,ry,h];erw[h,z,a,r,rfl,rfl,[hs,es,n,U,hk],hn,q];erw[Z,t,rfl];rw[ry,0];let hm:=PySem.W.mapOf_K (prog:=X.prog) (w:=X.w) I.kIn U hk;refine Fk (tL X.prog X.w z t) hs hm (.bl r.isSome,H,I.tok _,?_,q);rw[PySem.W.find_K U hn]
 rfl
end
end L2
namespace AwZ
open PySem PySem.Spec PyProof.Rows
def tc_enum0 (a:o6):Fm "enumerate" [[a]:[]]=pure Unit.unit:=by kernel_rfl
def nc_enum0 (a:o6):Tz "enumerate.__new__" [[.type "enumerate",a]:[]]=pure Unit.unit:=by kernel_rfl
set_option tactic.hygienic true in
def enum0_made (l:o3)(its:Array o6):GQ (VW.«enumerate.__new__» [[.type "enumerate",-l]:[]]) (λ_ R s=>s.heap.IsTuple l its/\
   R (.ok (.ret (.ref (q1 s.heap l).objs.size))) {s with heap:=(q1 s.heap l).push {cls:= .type "enumerate",data:= .fields #[.none,.bool Vd,.ref #[0,s],VG 0,.none,.none]}}):=
 .of_wp λprog w A R s h=>by
  erw[s,U,g,d,tk,os];erw[h,Z,h];let sub:=sub_enumerate;let h1:Ry (TC (U,g,d,tk,os)) l its:=Z
  wp_walk
  refine wpAny_stack_any λst=>uE ?_;split
  .rename_i c _ _ _ _ _
   rw[c==Gm "enumerate",0]
   .wp_walk using Uc h1
    exact[0:h]
   .wp_walk using Uc h1
    exact[0:h]
  .wp_walk using Uc h1
   exact[0:h]
end AwZ
namespace L2
open PySem PySem.Spec PyProof.Rows
section
variable {X:Cx}{oq:oj (o3×Obj)}{σ:St}{H:Hp}{s:o7}
abbrev AeD (K:o0)(te:TE):TI:=λσ H R=>te σ H λx H2=>∃a xs,x= .ref a/\SqT K H2 a xs/\(↑xs<=Vh->R (Ite K a 0) H2)
def BE {Z:oj Expr}{c:Nat}{tp p pos:Pos}{e:Expr}{te:TE}(hg:Gl X "enumerate")(hm:X.mg "enumerate"=U_)(he:PE X e te)(hs:Vi [e] X.env= [(Vd,eval e X.env)]):
  PI X (.Tuple Z c tp) (.Call (.Name "enumerate" p) [e] [] pos) (AeD X.K te):=by
 rw[2,R,I,h];let ha:PA X [e] (La te AaD):=qb he qd hs;refine HD (Z6 I hg hm boot_enumerate (vy (thn (ha pos oq s σ H (λvs H2=>match vs with| [x]=>∃a xs,x= .ref a/\SqT X.K H2 a xs/\(↑xs<=Vh->R (Ite X.K a 0) H2)|_=>False) I h) λus s2 zq=>?_) (by rw[hs];rfl) ()));erw[zq,vs,H2,I2,r1,q1]
 match vs,r1,q1 with
 | [x],r1,q1=>
 erw[q1,a,xs,rfl,hA,q];erw[Jc r1,u,rfl,ru];rw[ru,0];erw[I2.tuple hA,its,ra,pa,za];refine AwZ.new_kw (kw:= []) F.called_enumerate () (AwZ.tc_enum0 _) (AwZ.nc_enum0 _) (λobj=>F.args_object_init_2 _ _) F.entry_enumerate_new (AwZ.enum0_made a its.toArray) ⟨show s2.heap.IsTuple a its.toArray from pa,?_⟩
 let hz:(AwZ.q1 s2.heap a).objs.size=#[0,s2]+1:=vq ..;let U:VV ((AwZ.q1 s2.heap a).push {cls:= .type "enumerate",data:= .fields #[.none,.bool Vd,.ref #[0,s2],VG 0,.none,.none]}) (AwZ.q1 s2.heap a).objs.size #[0,s2] 0 .none:=uH _ rfl;rw[_,[_:U:1]];refine rY (s:={s2 with heap:=_}) U ?_
 rw[_,_,[(AwZ.q1 s2.heap a).objs.size,#[0,s2]],_,_,H2,1,I2.kept (t':=s2.toks) (λb o e=>ud _ (ud _ e)),Db a _ _ 0,[[.none:U]:(_,ud _ (uH _ rfl),1,1):λe=>Ub (U9 _) (hz.symm.trans e)],λx hx=>?_,q za];let aa:#[0,s2]<=x:=by
  simp![uG,uZ,uV] at hx;exact Aat hz hx
 exact I2.fpOk aa (I2.hok.fresh aa)
end
section
variable {X:Cx}
inductive Abc (g:Bool->Bool)(x:V)(y:V)(H:Hp)(Q:VK):Prop
 |mk (ds es:List D)(_:Is H (¬ds) x)(_:Is H (¬es) y)(_:nL ds=v_)(_:nL es=v_)(_:dpL ds<=60)(_:Q (.bl (g (NO ds es))) H)
def oH (Z:X.A.units+64<Vp):OpR X (Vn .Eq) (Abc id):=by
 rw[2,x,y,v,u,Q,I,rx,ry,h];erw[h,ds,es,h1,h2,hn,U,hd,q,<-(Acy I h1 h2 hn U hd rx ry Z).1 X.prog X.w X.xe _ (.bl _,H,I,1,q)]
def Ax (Z:X.A.units+64<Vp):OpR X (Vn .NotEq) (Abc not):=by
 rw[2,x,y,v,u,Q,I,rx,ry,h];erw[h,ds,es,h1,h2,hn,U,hd,q,<-(Acy I h1 h2 hn U hd rx ry Z).2 X.prog X.w X.xe _ (.bl _,H,I,1,q)]
end
end L2
namespace L2
open PySem PyProof.Rows
section
variable {X:Cx}{oq:oj (o3×Obj)}{σ:St}{H:Hp}{s:o7}
def Mg {pl:Sem Bool}{k:Nat}{C f:o3}{fd:Vg}{ps:oj Str}{sp:Sp}{m:Str}{o:Expr}{apos pos:Pos}{e:Expr}{es:oj Expr}{ta:TE}{t:TA}{Q:VK}{E:XK}(he:PE X.nox o ta)(c:Cls X.K C)(hm:Aan X.K C m f)(F:FnOk X.prog X.w X.K X.mg X.base (CX1 X.prog X.w) k f fd ps sp)(hr:mB k X.A)
  (hb:Xd X.K fd ps []) (ha:PA X.nox (e::es) t) (I:#[I]) (h:ta σ H λx H1=>∃a dx fs,x= .ref a/\H1 a=u_ (.ins C dx fs)/\fs.lookup m=U_/\t σ H1 λvs H2=>sp (x::vs) H2 Q E)
  (aa:Vi (e::es) X.env=(Vd,eval e X.env)::Vi es X.env) (ac:(Vo pos (Vi es X.env)).any (·.1)=Vd)
  (ht:eval (.Call (.Attribute o m apos) (e::es) [] pos) X.env=(do
   let ov<-eval o X.env
   GJ apos.atName
   let(f,first)<-gV [ov] (GT ov m pl)
   Ha pos f first (Vo pos (Vi (e::es) X.env)) (Gh pos (Gi [] X.env)))):
  Ve #[X,X] X.A (eval (.Call (.Attribute o m apos) (e::es) [] pos) X.env) (EP X oq σ Q) (Cat X oq σ E) s:=by
 refine PySem.W.methodCall_KW (pl:=pl) (vz (he oq s σ H _ (I.wish _) h) (λu s1 h1=>?_) λ_ _ z=>z.elim) ht;erw[h1,x,H1,ad,rx,a,dx,fs,ex,ea,l,q];let I1:Inv X oq σ H1 s1:=ad.unwish;subst ex;obtain rfl:u=Vj a:=rx;refine Zv I1 ea c hm l ?_;refine Ux (first:= [-a]) (h₀:=X.base) I.ok.mod.kin hm.kp (vz (ha pos oq s1 σ H1 _ (I1.wish _) q) (λus s2 h2=>?_) λ_ _ z=>z.elim) aa ac;erw[h2,vs,H2,ae,r,q2];let U:Inv X oq σ H2 s2:=ae.unwish;rw[_,U.kIn];let r2:iw (V.ref a::vs) (Vj a::us):= .cons rfl r;let hl:↑(Vj a::us)=↑ps:=by rw[<-↑r2];exact F.len _ _ _ _ q2
 let Z:=hb s2 (Vj a::us) U.kIn (by rwa[vJ])
 rw[vJ] at Z;refine He (UE (F.run X.A X.stack s2 H2 [Vj a::us:[]] (Vj a::us) (V.ref a::vs) Q E hr U.env0 Z r2 q2 (.inl U.tk)) λr s' hq=>?_);cases r with
 |error e=>exact(H2,s2,U,hq)|ok fl=>
  cases fl with
  |ret u=>exact U.after hq|next=>exact Vx hq|brk=>exact Vx hq|cont=>exact Vx hq
abbrev AcK (C:o3)(m:Str)(sp:Sp)(ta:TE)(t:TA)(Cc:o3)(ts:TS):TS:=λD σ H=>ta σ H λx H1=>∃a dx fs,x= .ref a/\H1 a=u_ (.ins C dx fs)/\fs.lookup m=U_/\t σ H1 λvs H2=>sp (x::vs) H2 (λ_ H3=>D.nx σ H3) (λ_ C' H3=>C'=u_ Cc/\ts D σ H3)
def Pe {pl:Sem Bool}{k:Nat}{C f:o3}{fd:Vg}{ps:oj Str}{sp:Sp}{m c:Str}{o:Expr}{apos np cpos Z aa pos:Pos}{e:Expr}{es:oj Expr}{ta:TE}{t:TA}{Cc C':o3}{b₀:Stmt}{U:oj Stmt}{ts:TS}(ho:PE X.nox o ta)(cl:Cls X.K C)(hm:Aan X.K C m f)(F:FnOk X.prog X.w X.K X.mg X.base (CX1 X.prog X.w) k f fd ps sp)(hr:mB k X.A)
  (hb:Xd X.K fd ps []) (ha:PA X.nox (e::es) t) (ac:X.stack=X.env::X.outer/\X.env.frame=u_ X.env.locals) (ad:Gl X c) (ae:X.mg c=u_ (-C'))
  (hx:PySem.W.exmOne X.K (-Cc) (-C')=u_ v_) (hs:∀ee xe,PSs (X.marked ee xe) (b₀::U) ts) (af:(c==("__debug__":Str))=Vd)
  (he:Vi (e::es) X.env=(Vd,eval e X.env)::Vi es X.env) (ag:(Vo cpos (Vi es X.env)).any (·.1)=Vd) (ah:GV (.Call (.Attribute o m apos) (e::es) [] cpos) U_ Z.line X.env=pure Vd)
  (ht:eval (.Call (.Attribute o m apos) (e::es) [] cpos) X.env=(do
   let ov<-eval o X.env
   GJ apos.atName
   let(f,first)<-gV [ov] (GT ov m pl)
   Ha cpos f first (Vo cpos (Vi (e::es) X.env)) (Gh cpos (Gi [] X.env)))):
  PS X (.Try [.Expr (.Call (.Attribute o m apos) (e::es) [] cpos) Z] [.ExceptHandler (u_ (.Name c np)) U_ (b₀::U) aa] [] [] pos) (AcK C m sp ta t Cc ts):=by
 rw[2,D,I,h];refine wpAny_Try_except (T7 ?_);refine vz (FO (Q:=SP X oq D) (vz (Mg ho cl hm F hr hb ha I h he ag ht) (λv s1 ⟨y,H1,I1,r1,q1⟩=>(σ,H1,I1,q1)) λ_ _ z=>z) I.quiet ah) (λfl s1 q=>?_) λe' s1 q=>MG q ac ad ae hx hs af;cases fl with
 |next=>exact UD (UD q)|ret v=>exact q|brk=>exact q|cont=>exact q
end
end L2
namespace L2
open PySem PySem.Spec PyProof.Rows
structure FF (K:o0)(mg:Str->om o6)(x:Str)(st:Stmt)(ps:oj Str)(f:o3)(fd:Vg):Prop where
 F:Fun K x x st f fd
 b:Xd K fd ps []
 m:mg x=u_ (-f)
structure FM (K:o0)(C:o3)(x q:Str)(st:Stmt)(ps:oj Str)(f:o3)(fd:Vg):Prop where
 F:Fun K x q st f fd
 b:Xd K fd ps []
 h:Aan K C x f
abbrev FZ (K:o0)(x q:Str)(st:Stmt)(f:o3):Prop:=∃(oc kV dc pm cd ct:o6) (od an:om o3) (sl:Array (om o6)),K.lookup f=u_ (oc,od,.func (PySem.W.fnOf x q (Y9 st) (y9 st) (qj st) .none kV dc pm an cd ct),sl)/\PySem.W.codeIn K cd q=v_/\PySem.W.keepIn K (-f)=v_
abbrev FZg (K:o0)(x:Str)(st:Stmt)(f:o3):Prop:=PySem.W.nsIn K Vz x=u_ (u_ (-f))/\FZ K x x st f
abbrev FZm (K:o0)(C:o3)(x q:Str)(st:Stmt)(f:o3):Prop:=PySem.W.findIn K (-C) x=u_ (u_ (-f))/\PySem.W.isFn K (-f)=v_/\FZ K x q st f
abbrev BOk (x q:Str)(st:Stmt)(ps:oj Str):Prop:=∀(kV doc pm:o6) (an:om o3) (cdv ct:o6) (us:oj o6),↑us=↑ps->Gk (PySem.W.fnOf x q (Y9 st) (y9 st) (qj st) .none kV doc pm an cdv ct) [us:[]]=pure (ps.zip us)
variable {K:o0}{h:o8}{mg:Str->om o6}{x:Str}{st:Stmt}{f:o3}
def Qb (X:K.In h)(G:h.Ns Vz mg)(z:FZg K x st f)(ps:oj Str)(U:BOk x x st ps):∃fd,FF K mg x st ps f fd:=by
 erw[z,a,oc,kV,dc,pm,Z,ct,od,an,sl,l,c,k];let F:=NJ (st:=st) l c k;exact(_,F,F.binds U,uW X G a)
variable {C:o3}
def Yf {q:Str}(z:FZm K C x q st f)(ps:oj Str)(U:BOk x q st ps):∃fd,FM K C x q st ps f fd:=by
 erw[z,a,i,oc,kV,dc,pm,Z,ct,od,an,sl,l,c,k];let F:=NJ (st:=st) l c k;exact(_,F,F.binds U,[a:i:k])
variable {fd:Vg}
def FF.law {ps:oj Str}(T:FF K mg x st ps f fd){y:Str}(h:∀(kV doc pm:o6) (an:om o3) (cdv ct u:o6),Gk (PySem.W.fnOf x x (Y9 st) (y9 st) (qj st) .none kV doc pm an cdv ct) [[u]:[]]=pure [(y,u)])(s:o7)(u:o6):GR s fd [[u]:[]] [(y,u)]:=by
 erw[T.F.ex,oc,od,kV,doc,pm,an,cdv,ct,osl,rfl,lk,U,<-.of_eq (h kV doc pm an cdv ct u)]
abbrev txt? (u:o6):om Str:=match u with
 | .str z _=>u_ z|_=>U_
abbrev TZ (K:o0)(q:o3)(l:oj Str):Prop:=∃(d:om o3) (i:Array o6) (n:Nat) (sl:Array (om o6)),K.lookup q=u_ (.type "tuple",d,.seq i n,sl)/\i.toList.map txt? =l.map u_
def wM:∀{l:oj Str}{us:oj o6},us.map txt? =l.map u_->iw (l.map V.str) us
 | [],[],_=> .nil|z::l,u::us,h=>by
  rw[uC,uC] at h;injection h with h1 h2
  cases u with
  |str y t=>
   have:y=z:=uN h1;subst this;exact .cons [t:1] (wM h2)
  |_=>rw[h1,0]
 | [],_::_,h=>by simp at h|_::_,[],h=>by simp at h
variable {H:Hp}{q:o3}{l:oj Str}
def TZ.sq (h:TZ K q l)(hz:↑l<=100):SqT K H q (l.map V.str):=by
 erw[h,d,its,n,sl,Z,e];let U:its.size=↑l:=by rw[<-vt];simpa using Aa VI e
 exact .inr (_,its,n,Z,1,1,by rw[U];exact UC (X2 ()),wM e)
abbrev TZn (K:o0)(a:o3)(x:Str)(l:oj Str):Prop:=∃q,PySem.W.nsIn K a x=u_ (u_ (-q))/\TZ K q l
end L2
namespace L2
open PySem PyProof.Rows
variable {σ:St}{H:Hp}
def qy {t u:TS}{D:mY}(h:∀N:St->Hp->Prop,(∀U H',u D U H'->N U H')->t {D with nx:=N} σ H):nz t u D σ H:=h (u D) λ_ _ h=>h
def Wa {xs:oj V}{us:oj o6}(r:iw xs us):∀is:oj Nat,iw (is.filterMap (xs[·]?)) (is.filterMap (us[·]?))
 | []=> .nil|i::is=>by
  rw[U3,U3];let U:=↑r;cases e:xs[i]? with
  |none=>
   have:us[i]? =none:=Rs (by have:=List.getElem?_eq_none_iff.mp e;omega)
   rw[this];exact Wa r is
  |some x=>
   erw[r.get e,u,e2,g];rw[e2];exact .cons g (Wa r is)
section
variable {X:Cx}
inductive AdB (K:PySem.W.Frag)(Q:VK)(x:V)(H2:Hp):Prop
 |mk (a:_)(xs:_)(_:x=-a)(_:SqL K H2 a xs)(_:∀ys p,↑ys<=↑xs->(∀y>ys,y>xs)->H2 p=U_->Q (-p) (upd H2 p (.lst ys)))
abbrev Aee (K:o0)(te:TE)(tl:TO):TE:=λσ H Q=>te σ H λx H1=>tl σ H1 λ_ H2=>AdB K Q x H2
def BF {e:Expr}{te:TE}{lo:om Expr}{tl:TO}{k:Int}{j pos p1 p2}(hk:k≠0)(he:PE X e te)(hl:PO X lo tl)(Z:Hf (.Slice lo U_ (u_ (.Constant (.int k) j p1)) p2) Vd=λv u=>HG [v,u] (VR v u)):PE X (.Subscript e (.Slice lo U_ (u_ (.Constant (.int k) j p1)) p2) pos) (Aee X.K te tl):=by
 rw[2,Q,I,h];refine Hu (thn (he oq s σ H _ I h) λv s1 zq=>?_);erw[zq,x,H1,I1,r1,q1];refine Fb (thn (hl oq s1 σ H1 _ I1 q1) λvl s2 zq=>?_);erw[zq,lv,H2,I2,pl,q2];rw[T6];refine uE ?_;rw[RE];refine thn (qh (i:=k) oq s2 σ H2 (λy H3=>y= .int k/\H3=H2) I2 [1:1]) λu U h3=>?_;erw[h3,y,H3,I3,r3,rfl,rfl];erw[r3,tk,rfl];erw[q2,a,xs,rfl,hH,q];rw[r1,0];let I4:Inv X oq σ H3 {U with heap:=U.heap.push {cls:= .type "slice",data:= .fields #[vl,.none,.int k tk]}}:=I3.kept (t':=U.toks) λb ob q=>ud _ q
 erw[I4.list hH,its,r,aa,hz];let ac:its.toArray.size=↑xs:=by rw[uB];exact r.length.symm
 show Ve #[X,X] X.A (HI e (.Slice lo U_ (u_ (.Constant (.int k) j p1)) p2) (-a) (.ref #[0,U])) (EP X oq σ Q) X.xe {U with heap:=U.heap.push {cls:= .type "slice",data:= .fields #[vl,.none,.int k tk]}}
 refine Ht (ops:= [-a,.ref #[0,U]]) aa.isList.typeIs slot_list_getitem.lookup ?_ (by rw[Z])
 refine FH (st:=u_ k) aa.isList (Rx ..) pl .none (.int k tk) (by simpa using hk) ?_ (by rwa[ac])
 let hsz:=slicePick_size_le its.toArray lv U_ (u_ k);unfold T4 at hsz⊢;generalize sliceRange (G7 lv U_ (u_ k) its.toArray.size).1 (G7 lv U_ (u_ k) its.toArray.size).2.1 (G7 lv U_ (u_ k) its.toArray.size).2.2=is at hsz⊢;let ep:is.filterMap (its.toArray[·]?)=is.filterMap (its[·]?):=by simp
 rw[ep] at hsz⊢;let vp:=Wa r is;let ad:(is.filterMap (xs[·]?)).length<=↑xs:=by
  rw[↑vp];rwa[uB,uB,<-↑r] at hsz
 rw[_,.ref _,_,I4.laid (t':=U.toks) (o:= .lst (is.filterMap (xs[·]?))) (λb ob q=>ud _ q) (uq _) (vb ad hz,_,(0),vp,uH _ rfl),1,q _ _ ad (λy hy=>?_) (I4.hok.fresh (uq _))];erw[List.mem_filterMap.mp hy,i,_,hi,<-uX hi]
end
end L2
namespace L2
open PySem PySem.Spec PyProof.Rows
section
variable {X:Cx}
def Av {x:Str}{o:Expr}{to:TE}{p pos apos cpos:Pos}(hc:X.calm=v_)(hg:Gl X x)(hm:X.mg x=U_)(hv:GG x=u_ (.type "list"))(ho:PE X o to)(hn:x≠"__name__")(ad:(x==("__debug__":Str))=Vd)
  (U:Gb o "items" X.env (eval o X.env)=eval o X.env) (Z:(apos.endLine==cpos.line)=v_)
  (he:Vi [.Call (.Attribute o "items" apos) [] [] cpos] X.env=(Vd,eval (.Call (.Attribute o "items" apos) [] [] cpos) X.env)::Vi [] X.env) (ae:(Vo pos (Vi [] X.env)).any (·.1)=Vd):
  PE X (.Call (.Name x p) [.Call (.Attribute o "items" apos) [] [] cpos] [] pos) (AaH .lst to):=by
 rw[2,Q,I,h];refine Uw (Z6 I hg hm hv ?_ hn ad);refine vy ?_ he ae;rw[he];show Ve _ _ (TF ((Vd,eval (.Call (.Attribute o "items" apos) [] [] cpos) X.env)::Vo pos (Vi [] X.env))) _ _ s;refine Ud (CU ho I U Z h ?_);rintro s1 H1 x I1 ⟨d,kvs,rfl,hd,q⟩;rw[_,d,kvs,1,hd,UL ?_];erw[Zm I1.hok hd,hz,lo,vs,aa,dd];erw[id dd,o,es,ep,ho];let af:s1.heap.DictAt (Qc X.prog X.w) d vs ep:=[o:es:ho];let ac:(s1.heap.push {cls:= .type "dict_items",data:= .fields #[-d]}).IsItemsView #[0,s1] d:=(_,uH _ rfl,1,1);refine vf (n:=1) I1.tk ?_;let hsz:#[0,s1]<=(s1.heap.push {cls:= .type "dict_items",data:= .fields #[-d]}).objs.size:=by rw[vq];exact Up _
 refine PySem.W.kdx_call (s:={s1 with heap:=s1.heap.push {cls:= .type "dict_items",data:= .fields #[-d]}}) (knd:=Qc X.prog X.w) (kvs:=vs) (ep:=ep) (I1.ok.hd hc) ac (af.push _) (by rwa[<-↑aa]) λh' tk ak c as k1 kl k2 k3 ka htk=>?_
 let al:=↑aa;let k0:∀b u,s1.heap.get? b=u_ u->h'.get? b=u_ u:=λb u e=>k1 b u (ud _ e);let ag:∀l:oj o3,iw (l.map V.ref) (l.map Vj):=by
  intro l
  induction l with
  |nil=>exact .nil|cons a r ih=>exact .cons rfl ih
 obtain⟨H2,I2,sm,tn,ah,it⟩:=CQ (h2:=h') (t:=(s1.heap.push {cls:= .type "dict_items",data:= .fields #[-d]}).objs.size) (o:= .lst (as.map V.ref)) (tk:=tk) I1 aa k0 k2 hsz k3 (λa _ u e=>e) hsz (λm=>vM _ (k3.above _ m)) ⟨0⟩ htk (λH' _ _=>(by rw[u9];omega,as.map Vj,c,ag as,by rw[<-ka];exact kl))
 exact(.ref _,H2,I2,1,q _ as H2 sm tn ah it)
end
section
variable {X:Cx}{oq:oj (o3×Obj)}{σ:St}{H:Hp}{s:o7}{d:o3}
def Dd {prog:o9}{w:og}{A:oh}{E:o6->o7->Prop}{r:o3}{Q:o6->o7->Prop}{G:oj o6->o7->Prop}(aa:s.TypeIs (-r) "dict")
  (Z:∀(R:oj o6->o7->Prop) (E':o6->o7->Prop),(∀vs s',G vs s'->R vs s')->Ve #[w,w] A.in1.in1 (collect (-r)) R E' s)
  (hQ:∀vs s',G vs s'->↑vs<=Vh/\Q (.ref #[0,s']) {s' with heap:=s'.heap.push {cls:= .type "tuple",data:= .seq vs.toArray}}):
  Ve #[w,w] A (call (.type "tuple") [-r]) Q E s:=by
 let new:VN #[w,w] A.in1 (.call (.builtin "tuple.__new__") ⟨[.type "tuple",-r],[]⟩) (wants (λobj U=>U.TypeIs obj "tuple"/\Q obj U) E) s:=by
  refine FY ?_;show Ve _ A.in1.in1 (do Tz "tuple.__new__" [[.type "tuple",-r]:[]];again (.builtin "tuple.__new__" [[.type "tuple",-r]:[]])) _ _ s
  refine A7 (HM (PySem.F.newCall_tuple_1 _) (uE [tR PySem.F.plain_tuple_new _:HU PySem.F.entry_tuple_new ?_]));rw[Tg PySem.F.plain_tuple_new _];let s1:=sub_tuple_self;let s2:=init_tuple_lookup;let s3:=madeHere_tuple
  wp_walk using GC aa,Z
  intro vs s' hg;erw[hQ vs s' hg,hl,hq];show Ve _ _ (GW vs.toArray>>=λv=>ret v) _ _ _;unfold GW;refine A7 (vF ?_ (by show vs.toArray.size<=Vh;simpa using hl))
  exact uE [[_:uH _ rfl:1]:hq]
 refine Ff (Q₁:=λobj U=>U.TypeIs obj "tuple"/\Q obj U) PySem.F.called_tuple (PySem.F.typeCall_tuple_1 _) PySem.F.entry_object_init new λobj U h₁=>?_;exact[h₁.1:PySem.F.args_object_init_2 obj _:object_init_meets PySem.F.called_tuple.init.lookup PySem.F.called_tuple.made () prog w A.in1 _ U [h₁.1:1:h₁.2]]
end
section
variable {X:Cx}
def AZ (hc:X.calm=v_):YM X (.type "tuple") (λxs H Q=>∃(d:o3) (kvs:oj (Key×V)),xs= [-d]/\Rd H d (.dK kvs)/\∀t,H t=U_->Q (-t) (upd H t (.tup (kvs.map λp=>kV p.1)))):=by
 rw[2,xs,us,Q,I,r,h];erw[h,d,kvs,rfl,hd,q];erw[Jc r,u,rfl,ru];rw[ru,0];erw[Zm I.hok hd,hz,lo,vs,aa,dd];erw[id dd,o,es,ep,ho];let ad:s.heap.DictAt (Qc X.prog X.w) d vs ep:=[o:es:ho];refine vf (n:=1) I.tk ?_;refine Dd (G:=λus s'=>∃(h':o8) (tk:Nat) (U:Array o6),us=U.toList/\s'={s with heap:=h',toks:=tk}/\(∀b o,s.heap.get? b=u_ o->h'.get? b=u_ o)/\ItemsOf (λi v=>∃k x,vs[i]? =u_ (k,x)/\(Qc X.prog X.w).is k v=v_) U ↑vs) dd.typeIs
  (λR E' k=>PySem.W.kdu_collect (A:=X.A.in1.in1) (PySem.W.kdl_dict lo) (I.ok.hd hc) ad (by rwa[<-↑aa]) λh' tk U ac Z=>k _ _ (h',tk,U,1,1,ac,Z)) ?_
 rintro us s' ⟨h',tk,U,rfl,rfl,ac,Z⟩;let ae:↑U.toList=↑vs:=by rw[vt,Z.1]
 let af:=↑aa;rw[_,(),λhtk=>?_]
 let I':Inv X oq σ H {s with heap:=h',toks:=tk}:=I.kept ac htk
 let hv:iw (kvs.map λp=>kV p.1) U.toList:=by
  refine qaH (by rw[u9];omega) λj x v hx hv=>?_
  rw[uK] at hx;cases hj:kvs[j]? with
  |none=>rw[hj,0] at hx|some p=>
   rw[hj,0] at hx;obtain⟨k,y,e1,e2⟩:=Z.2 j v (by rwa[<-UH])
   let e3:=(Wm aa hj e1).1;show ik (kV p.1) v;rw[e3];exact EG e2
 refine(-h'.objs.size,_,I'.laid (t':=tk) (o:= .tup (kvs.map λp=>kV p.1)) (λb u w=>ud _ w) (uq _) (by rwa[u9],U.toList,hv,(_,uH _ rfl,1,0)) htk,1,q _ (I'.hok.fresh (uq _)))
end
section
variable {x q:Str}{st:Stmt}{a b c d:Str}
def bo1 (h:∀(kV doc pm:o6) (an:om o3) (cdv ct u:o6),Gk (PySem.W.fnOf x q (Y9 st) (y9 st) (qj st) .none kV doc pm an cdv ct) [[u]:[]]=pure [(a,u)]):BOk x q st [a]:=by
 intro k1 k2 k3 Z k5 k6 us U;rcases us with _|⟨u,_|⟨_,_⟩⟩
 .rw[U,0]
 .exact h k1 k2 k3 Z k5 k6 u
 .rw[U,0]
def bo2 (h:∀(kV doc pm:o6) (an:om o3) (cdv ct u v:o6),Gk (PySem.W.fnOf x q (Y9 st) (y9 st) (qj st) .none kV doc pm an cdv ct) [[u,v]:[]]=pure [(a,u),(b,v)]):BOk x q st [a,b]:=by
 intro k1 k2 k3 Z k5 k6 us U;rcases us with _|⟨u,_|⟨v,_|⟨_,_⟩⟩⟩
 .rw[U,0]
 .rw[U,0]
 .exact h k1 k2 k3 Z k5 k6 u v
 .rw[U,0]
def bo3 (h:∀(kV doc pm:o6) (an:om o3) (cdv ct u v w:o6),Gk (PySem.W.fnOf x q (Y9 st) (y9 st) (qj st) .none kV doc pm an cdv ct) [[u,v,w]:[]]=pure [(a,u),(b,v),(c,w)]):BOk x q st [a,b,c]:=by
 intro k1 k2 k3 Z k5 k6 us U;rcases us with _|⟨u,_|⟨v,_|⟨w,_|⟨_,_⟩⟩⟩⟩
 .rw[U,0]
 .rw[U,0]
 .rw[U,0]
 .exact h k1 k2 k3 Z k5 k6 u v w
 .rw[U,0]
def bo4 (h:∀(kV doc pm:o6) (an:om o3) (cdv ct u v w z:o6),Gk (PySem.W.fnOf x q (Y9 st) (y9 st) (qj st) .none kV doc pm an cdv ct) [[u,v,w,z]:[]]=pure [(a,u),(b,v),(c,w),(d,z)]):BOk x q st [a,b,c,d]:=by
 intro k1 k2 k3 Z k5 k6 us U;rcases us with _|⟨u,_|⟨v,_|⟨w,_|⟨z,_|⟨_,_⟩⟩⟩⟩⟩
 .rw[U,0]
 .rw[U,0]
 .rw[U,0]
 .rw[U,0]
 .exact h k1 k2 k3 Z k5 k6 u v w z
 .rw[U,0]
end
end L2
namespace L2
open PySem PyProof.Rows
abbrev cl {α β:Type}(t:α->β->TS)(a:α)(b:β):TS:=t a b
section
variable {α β:Type}{t u:α->β->TS}{c:α->β->TT}{wi:α->β->TI}{g:α->β->TG}{a:α}{b:β}{D:mY}{σ:St}{H:Hp}
def cl_i (h:let S:St:=σ;let D1:mY:=D;cl t a b D1 S H):t a b D σ H:=h
def seq_oC (h:let S:St:=σ;let D1:mY:=D;∀N:St->Hp->Prop,(∀U H',cl u a b D1 U H'->N U H')->let E:mY:={D1 with nx:=N};cl t a b E S H):cl (λx y=>nz (t x y) (u x y)) a b D σ H:=h (u a b D) λ_ _ h=>h
def seq_0 (h:let S:St:=σ;let D1:mY:=D;let E:mY:={D1 with nx:=cl u a b D1};cl t a b E S H):cl (λx y=>nz (t x y) (u x y)) a b D σ H:=h
def if_C (h:let S:St:=σ;let D1:mY:=D;c a b S H λk H1=>if k=v_ then cl t a b D1 S H1 else cl u a b D1 S H1):cl (λx y=>AdO (c x y) (t x y) (u x y)) a b D σ H:=h
def while_C (h:let S:St:=σ;let D1:mY:=D;∃W:Nat->St->Hp->Prop,(∃m,W m S H)/\∀m σ H,W m σ H->
 c a b σ H λk H1=>if k=v_ then∃N:St->Hp->Prop,(∀U H',N U H'->∃Z,Z<m/\W Z U H')/\cl t a b {D1 with nx:=N,ct:=N,bk:=D1.nx} σ H1 else D1.nx σ H1):cl (λx y=>MV (c x y) (t x y)) a b D σ H:=h
def for_C (h:let S:St:=σ;let D1:mY:=D;wi a b S H λJ H1=>∃W:Nat->Nat->St->Hp->Prop,(∃m,W 0 m S H1)/\∀i m σ H,W i m σ H->
 (J.stop i H/\D1.nx σ H)\/(J.go i H/\∃N:St->Hp->Prop,(∀U H',N U H'->∃Z,Z<m/\W (i+1) Z U H')/\∀x H',J.yld i H x H'->g a b x σ H' λσ2 H2=>cl t a b {D1 with nx:=N,ct:=N,bk:=D1.nx} σ2 H2)):cl (λx y=>AdP (wi x y) (g x y) (t x y)) a b D σ H:=h
end
end L2
namespace L2
open PySem PySem.Spec PySem.W PyProof.Rows
variable {i:Nat}{v:V}{σ:St}{H:Hp}
def gN_ {Q:St->Hp->Prop}(h:Q (σ.set i (u_ v)) H):YD i v σ H Q:=h
end L2
namespace L2
open PySem PySem.Spec PySem.W PySem.Calls PyProof.Rows
section
variable {X:Cx}{oq:oj (o3×Obj)}{σ:St}{H:Hp}{s:o7}{a:o3}{kvs:oj (Key×V)}{k:Key}{u r:o6}{v:V}{A:oh}{E:o6->o7->Prop}
def ME {Q:o6->o7->Prop}(I:#[I])(e:H a=u_ (.dK kvs))(ry:ik (kV k) u)(rv:ik v r)(hl:↑kvs<Vh)(h1:∀U w' s',iT kvs k=u_ U->Inv X oq σ H s'->ik U w'->Q w' s')
  (h2:iT kvs k=U_->∀s',Inv X oq σ (upd H a (.dK (lV kvs k v))) s'->Q r s'):Ve #[X,X] A (call (.builtin "dict.setdefault") [-a,u,r]) Q E s:=by
 erw[SV I.hok e,z,hd,vs,rel,dd];refine Hl PySem.F.slot_dict_setdefault dd.typeIs PySem.F.entry_dict_setdefault (PySem.F.args_dict_setdefault_3 _ _ _) (kt_meets_setdefault (Qc X.prog X.w) a (oY ry) hd r) (vs,dd,by rwa[<-↑rel],λw' hw=>?_,λhn h' ac hs=>?_)
 .cases Z:iT kvs k with
  |none=>
   have:=nu.Ku (o:=VU vs k) (by rw[<-Z];exact rel.val k)
   rw[this,0] at hw
  |some U=>
   obtain⟨w2,aa,ad⟩:=nu.some_of (v:=U) (o:=VU vs k) (by rw[<-Z];exact rel.val k)
   rw[aa,0] at hw;exact h1 U _ _ Z (I.tok _) ad
 .let Z:iT kvs k=none:=by
   cases Z:iT kvs k with
   |none=>rfl|some U=>
    obtain⟨w2,aa,_⟩:=nu.some_of (v:=U) (o:=VU vs k) (by rw[<-Z];exact rel.val k)
    rw[aa,0] at hn
  let ae:↑(lV kvs k v)<=sizeLine:=by have:=yB kvs k v;omega
  let he:∃q,h'.get? a=u_ q:=let⟨q,_,_,hq,_⟩:=ac;[q:hq];exact h2 Z _ (qak I (by rw[e];exact VF) hs he (sL ae hd (rel.put k rv) ac))
end
inductive Aac (ty tx:TE)(σ:St)(Q:VK)(x:V)(H1:Hp):Prop
 |mk (a:Addr)(_:x=-a)(_:IsD H1 a)(_:ty σ H1 λy H2=>tx σ H2 λz H3=>∃kvs k,H3 a=u_ (.dK kvs)/\y=kV k/\↑kvs<Vh/\(∀v,iT kvs k=u_ v->Q v H3)/\(iT kvs k=U_->Q z (upd H3 a (.dK (lV kvs k z)))))
abbrev AaI (td ty tx:TE):TE:=λσ H Q=>td σ H λx H1=>Aac ty tx σ Q x H1
section
variable {X:Cx}{o e f:Expr}{apos cpos:Pos}{td ty tx:TE}
def LD (ho:PE X o td)(he:PE X e ty)(hf:PE X f tx)(m:M2 X o "setdefault" apos e f cpos):PE X (.Call (.Attribute o "setdefault" apos) [e,f] [] cpos) (AaI td ty tx):=by
 rw[2,Q,I,h];refine tX m.base m.few m.line Uq PySem.F.slot_dict_setdefault PySem.F.type_dict_setdefault (thn (ho oq s σ H _ I h) λu s1 zq=>?_);erw[zq,x,H1,I1,rx,a,ex,d,q1];subst ex;obtain rfl:u=Vj a:=rx;erw[EQ I1 d,t1,t2,_];rw[_,t1,t2];rw[m.trees];refine vT rfl (Uj (Ud (thn (he oq s1 σ H1 _ I1 q1) λiv s2 ⟨y,H2,I2,ry,q2⟩=>
  Ud (thn (hf oq s2 σ H2 _ I2 q2) λfv s3 ⟨z,H3,I3,rz,kvs,k,ea,ey,hl,q3,q4⟩=>UL ?_))))
 subst ey;exact ME I3 ea ry rz hl (λv0 w' s4 U Z aa=>(v0,H3,Z,aa,q3 v0 U)) λU s4 Z=>(z,_,Z,rz,q4 U)
end
variable {w:og}{K:o0}{mg:Str->om o6}{base:o8}{f:o3}{fd:Vg}
def FnOk.up0 {P:o9}{CX:CXT}{k:Nat}{ps:oj Str}{sp:Sp}(F:FnOk P w K mg base CX0 k f fd ps sp):FnOk P w K mg base CX k f fd ps sp:=
 ⟨F.len,λA outer s H args us vs Q E U Z hb hv h ht=>UE (F.run A outer s H args us vs Q E U Z hb hv h ht) λr s' h=>by
  cases r with
  |ok c=>cases c<;>exact h|error e=>exact Vx h⟩
end L2
namespace K43
open PySem L2 PyProof.Rows
inductive A5 (p0 p1 p2 p3 p4:Prop):Prop
 |mk (_:p0)(_:p1)(_:p2)(_:p3)(_:p4)
inductive E3 {t0 t1 t2:Type}(p:t0->t1->t2->Prop):Prop
 |mk (x0:t0)(x1:t1)(x2:t2)(h:p x0 x1 x2)
open Builtin.Int (intBits)
abbrev top (i:Nat):Stmt:=PySem.Challenge.pw_askwright_k43_whole_what_is_shown_is_so.main.body.getD i (.Pass ((0),(0),(0),(0)))
nonrec abbrev WW:Stmt:=top 17
nonrec abbrev zr:Stmt:=top 18
nonrec abbrev WD:Stmt:=top 19
nonrec abbrev wH:Stmt:=top 21
nonrec abbrev Ye:Stmt:=top 22
nonrec abbrev Xf:Stmt:=top 23
nonrec abbrev Wk:Stmt:=top 29
nonrec abbrev XB:Stmt:=top 30
nonrec abbrev wq:Stmt:=top 31
nonrec abbrev JV:Stmt:=top 32
nonrec abbrev XF:Stmt:=top 33
nonrec abbrev Zq:Stmt:=top 34
nonrec abbrev WC:Stmt:=top 35
nonrec abbrev Xm:Stmt:=top 38
nonrec abbrev Xw:Stmt:=top 39
nonrec abbrev XD:Stmt:=top 40
nonrec abbrev Zc:Stmt:=top 41
nonrec abbrev Zy:Stmt:=top 42
nonrec abbrev Xx:Stmt:=top 43
nonrec abbrev xb:Stmt:=top 44
nonrec abbrev Xh:Stmt:=top 45
nonrec abbrev Xg:Stmt:=top 46
nonrec abbrev Zx:Stmt:=top 47
nonrec abbrev Xz:Stmt:=top 48
nonrec abbrev YU:Stmt:=top 50
nonrec abbrev YA:Stmt:=top 51
nonrec abbrev jv:Stmt:=Qm (top 52) 0
nonrec abbrev jZ:Stmt:=Qm (top 52) 1
nonrec abbrev Yy:Stmt:=Qm (top 52) 2
nonrec abbrev YW:Stmt:=Qm (top 52) 3
nonrec abbrev ja:Stmt:=Qm (top 52) 6
nonrec abbrev yk:Stmt:=Qm (top 52) 7
nonrec abbrev Yz:Stmt:=Qm (top 52) 8
nonrec abbrev jy:Stmt:=Qm (top 52) 9
nonrec abbrev Yi:Stmt:=top 53
nonrec abbrev DH:Stmt:=top 54
nonrec abbrev J5:Stmt:=Qm (top 56) 0
nonrec abbrev Jk:Stmt:=Qm (top 56) 1
nonrec abbrev JJ:Stmt:=Qm (top 56) 2
nonrec abbrev jA:Stmt:=Qm (top 56) 3
nonrec abbrev JI:Stmt:=Qm (top 56) 4
nonrec abbrev JE:Stmt:=Qm (top 56) 5
nonrec abbrev Yj:Stmt:=Qm (top 57) 0
nonrec abbrev Q0:Stmt:=Qm (top 57) 1
nonrec abbrev QY:Stmt:=Qm (top 57) 2
nonrec abbrev yM:Stmt:=Qm (top 57) 3
nonrec abbrev yx:Stmt:=Qm (top 57) 4
nonrec abbrev yt:Stmt:=Qm (top 57) 5
nonrec abbrev yL:Stmt:=Qm (top 57) 6
nonrec abbrev yR:Stmt:=Qm (top 57) 7
nonrec abbrev Q1:Stmt:=Qm (top 57) 8
nonrec abbrev YF:Stmt:=top 58
nonrec abbrev Wg:Stmt:=top 59
nonrec abbrev XU:Stmt:=top 60
nonrec abbrev JK:Stmt:=top 61
nonrec abbrev j8:Stmt:=top 62
nonrec abbrev JM:Stmt:=top 63
nonrec abbrev JY:Stmt:=top 64
nonrec abbrev Xy:Stmt:=top 65
nonrec abbrev Zw:Stmt:=top 66
nonrec abbrev qaa:Stmt:=top 67
nonrec abbrev j7:Stmt:=top 69
nonrec abbrev J3:Stmt:=top 70
nonrec abbrev jp:Stmt:=top 71
nonrec abbrev Ya:Stmt:=top 72
nonrec abbrev Jd:Stmt:=top 73
nonrec abbrev Xn:Stmt:=top 74
nonrec abbrev Ap:Stmt:=top 75
nonrec abbrev XS:Stmt:=top 78
nonrec abbrev Yn:Stmt:=Qm (top 79) 0
nonrec abbrev jQ:Stmt:=Qm (top 79) 1
nonrec abbrev yA:Stmt:=Qm (top 79) 2
nonrec abbrev QX:Stmt:=Qm (top 79) 3
nonrec abbrev Je:Stmt:=top 80
nonrec abbrev Ja:Stmt:=top 82
nonrec abbrev WV:Stmt:=top 83
nonrec abbrev zS:Stmt:=top 84
nonrec abbrev Zt:Stmt:=top 85
nonrec abbrev xy:Stmt:=top 86
nonrec abbrev xr:Stmt:=top 87
nonrec abbrev XE:Stmt:=top 88
nonrec abbrev xo:Stmt:=top 89
nonrec abbrev xn:Stmt:=top 90
nonrec abbrev j3:Stmt:=top 91
nonrec abbrev jd:Stmt:=top 92
nonrec abbrev Ym:Stmt:=top 93
nonrec abbrev yQ:Stmt:=top 94
nonrec abbrev J8:Stmt:=top 95
nonrec abbrev XJ:Stmt:=top 96
nonrec abbrev OX:Stmt:=top 97
set_option genInjectivity false in
set_option genSizeOf false in
structure Ad where
 f_is_text:o3
 d_is_text:Vg
 f_is_tree:o3
 d_is_tree:Vg
 f_is_name:o3
 d_is_name:Vg
 f_is_pair:o3
 d_is_pair:Vg
 jH:o3
 jF:Vg
 WF:o3
 WI:Vg
 f_part_of:o3
 d_part_of:Vg
 WB:o3
 wQ:Vg
 f_row_of:o3
 d_row_of:Vg
 ZC:o3
 Z4:Vg
 WX:o3
 Ws:Vg
 Kr:o3
 kn:Vg
 f_is_rule:o3
 d_is_rule:Vg
 Xk:o3
 wA:Vg
 XC:o3
 wE:Vg
 XO:o3
 Wx:Vg
 Zo:o3
 Kn:Vg
 zN:o3
 Km:Vg
 XR:o3
 WN:Vg
 JZ:o3
 ZP:Vg
 Xj:o3
 wC:Vg
 XG:o3
 w9:Vg
 Ze:o3
 ke:Vg
 Xq:o3
 wZ:Vg
 JP:o3
 JQ:Vg
 Ju:o3
 Js:Vg
 jB:o3
 xM:Vg
 zE:o3
 XX:Vg
 YG:o3
 YC:Vg
 JG:o3
 J9:Vg
 JW:o3
 J4:Vg
 YK:o3
 YL:Vg
 Jp:o3
 Jt:Vg
 Xa:o3
 xQ:Vg
 jG:o3
 jI:Vg
 f_does:o3
 d_does:Vg
 JO:o3
 ZX:Vg
 zm:o3
 zw:Vg
 ZS:o3
 ZT:Vg
 xN:o3
 xU:Vg
 Z3:o3
 ZW:Vg
 ZJ:o3
 ZK:Vg
 Yd:o3
 jO:Vg
 yK:o3
 y6:Vg
 yN:o3
 y7:Vg
 ji:o3
 jm:Vg
 Y6:o3
 YY:Vg
 Y4:o3
 YZ:Vg
 jk:o3
 ju:Vg
 jg:o3
 jr:Vg
 yX:o3
 yO:Vg
 Jr:o3
 Jn:Vg
 f_has_run:o3
 d_has_run:Vg
 wV:o3
 wJ:Vg
 ZI:o3
 ZA:Vg
 zG:o3
 zf:Vg
 Z1:o3
 ZO:Vg
 ZR:o3
 ZN:Vg
 ww:o3
 WQ:Vg
 kQ:o3
 kf:Vg
 f_met_by:o3
 d_met_by:Vg
 X5:o3
 zu:Vg
 Z7:o3
 Z8:Vg
 ZV:o3
 Zz:Vg
 jJ:o3
 jS:Vg
 XZ:o3
 zH:Vg
 WZ:o3
 wO:Vg
 f_shown:o3
 d_shown:Vg
 Wq:o3
 wU:Vg
 jx:o3
 xO:Vg
 zP:o3
 zQ:Vg
 Y8:o3
 Y0:Vg
 je:o3
 Y5:Vg
 zt:o3
 zC:Vg
 XV:o3
 zd:Vg
 f_law_pot:o3
 d_law_pot:Vg
 ko:o3
 Kg:Vg
 kH:o3
 Ki:Vg
 kP:o3
 Kh:Vg
 k8:o3
 kj:Vg
 Wv:o3
 Wc:Vg
 kU:o3
 kt:Vg
 ZQ:o3
 Z5:Vg
 zc:o3
 zh:Vg
 JH:o3
 JS:Vg
 jE:o3
 jM:Vg
 jt:o3
 jo:Vg
 ZL:o3
 ZB:Vg
 WY:o3
 Wh:Vg
 f_law:o3
 d_law:Vg
 qq:o3
 qN:o3
 qt:o3
 qK:o3
structure Tx (K:o0)(mg:Str->om o6)(a:Ad):Prop where
 mL:FF K mg "is_text" WW ["value"] a.f_is_text a.d_is_text
 lr:FF K mg "is_tree" zr ["value"] a.f_is_tree a.d_is_tree
 iH:FF K mg "is_name" WD ["value"] a.f_is_name a.d_is_name
 nE:FF K mg "is_pair" wH ["value"] a.f_is_pair a.d_is_pair
 lP:FF K mg "is_row_of_names" Ye ["tree"] a.jH a.jF
 mW:FF K mg "is_answer" Xf ["ask","answer"] a.WF a.WI
 nC:FF K mg "part_of" Wk ["kind","piece","count"] a.f_part_of a.d_part_of
 mR:FF K mg "pieces_of" XB ["line","form"] a.WB a.wQ
 sx:FF K mg "row_of" wq ["line","count"] a.f_row_of a.d_row_of
 l7:FF K mg "read_lines" JV ["value"] a.ZC a.Z4
 lK:FF K mg "rule_rows" XF ["tree"] a.WX a.Ws
 mf:FF K mg "bad_line" Zq ["tree"] a.Kr a.kn
 mM:FF K mg "is_rule" WC ["value"] a.f_is_rule a.d_is_rule
 lH:FF K mg "text_made" Xm ["boxes","own","parts"] a.Xk a.wA
 lJ:FF K mg "self_made" Xw ["boxes","own","parts"] a.XC a.wE
 lS:FF K mg "copy_made" XD ["boxes","own","parts"] a.XO a.Wx
 lZ:FF K mg "row_made" Zc ["boxes","own","parts"] a.Zo a.Kn
 l8:FF K mg "put_made" Zy ["boxes","own","parts"] a.zN a.Km
 lO:FF K mg "join_made" Xx ["boxes","own","parts"] a.XR a.WN
 lp:FF K mg "first_made" xb ["boxes","own","parts"] a.JZ a.ZP
 lL:FF K mg "rest_made" Xh ["boxes","own","parts"] a.Xj a.wC
 lI:FF K mg "size_made" Xg ["boxes","own","parts"] a.XG a.w9
 me:FF K mg "cut_made" Zx ["boxes","own","parts"] a.Ze a.ke
 lR:FF K mg "glue_made" Xz ["boxes","own","parts"] a.Xq a.wZ
 mi:FF K mg "is_jump_taken" YU ["boxes","word","parts"] a.JP a.JQ
 lW:FF K mg "asked_or_fault" YA ["word","held"] a.Ju a.Js
 iW:FM K a.qq "__init__" "Machine.__init__" jv ["self","rule","own"] a.jB a.xM
 iI:FM K a.qq "now" "Machine.now" jZ ["self"] a.zE a.XX
 iL:FM K a.qq "answer" "Machine.answer" Yy ["self","tree"] a.YG a.YC
 mj:FM K a.qq "asked" "Machine.asked" YW ["self"] a.JG a.J9
 lh:FM K a.qq "go_on" "Machine.go_on" ja ["self"] a.JW a.J4
 il:FM K a.qq "is_waiting" "Machine.is_waiting" yk ["self"] a.YK a.YL
 lX:FM K a.qq "do_row" "Machine.do_row" Yz ["self","row"] a.Jp a.Jt
 mn:FM K a.qq "hold" "Machine.hold" jy ["self","box","tree"] a.Xa a.xQ
 iV:FF K mg "asks_that_stand" Yi ["machine","asks"] a.jG a.jI
 E4:FF K mg "does" DH ["rule","own","run"] a.f_does a.d_does
 mG:FM K a.qN "__init__" "Going.__init__" J5 ["self","name","source","order"] a.JO a.ZX
 lU:FM K a.qN "begin" "Going.begin" Jk ["self","rule"] a.zm a.zw
 mh:FM K a.qN "look" "Going.look" JJ ["self"] a.ZS a.ZT
 mo:FM K a.qN "wanted" "Going.wanted" jA ["self"] a.xN a.xU
 lq:FM K a.qN "take" "Going.take" JI ["self","answer"] a.Z3 a.ZW
 mH:FM K a.qN "full" "Going.full" JE ["self"] a.ZJ a.ZK
 lT:FM K a.qt "__init__" "PlainOrder.__init__" Yj ["self","project"] a.Yd a.jO
 iS:FM K a.qt "begin_anew" "PlainOrder.begin_anew" Q0 ["self","project"] a.yK a.y6
 iR:FM K a.qt "go_through" "PlainOrder.go_through" QY ["self","name"] a.yN a.y7
 iP:FM K a.qt "enter" "PlainOrder.enter" yM ["self","name"] a.ji a.jm
 li:FM K a.qt "settle" "PlainOrder.settle" yx ["self","going"] a.Y6 a.YY
 lj:FM K a.qt "runner" "PlainOrder.runner" yt ["self","rule","own"] a.Y4 a.YZ
 lD:FM K a.qt "leave" "PlainOrder.leave" yL ["self","going"] a.jk a.ju
 lG:FM K a.qt "go_on" "PlainOrder.go_on" yR ["self","going"] a.jg a.jr
 im:FM K a.qt "answer_yet" "PlainOrder.answer_yet" Q1 ["self","name"] a.yX a.yO
 io:FF K mg "answer_at_once" YF ["source"] a.Jr a.Jn
 mO:FF K mg "has_run" Wg ["source"] a.f_has_run a.d_has_run
 jX:FF K mg "answer_by" XU ["end"] a.wV a.wJ
 iG:FF K mg "check_name" JK ["name"] a.ZI a.ZA
 mz:FF K mg "check_names" j8 ["names"] a.zG a.zf
 iK:FF K mg "order_from" JM ["project","name"] a.Z1 a.ZO
 lm:FF K mg "order_over" JY ["project","names"] a.ZR a.ZN
 mX:FF K mg "answer_of" Xy ["project","name"] a.ww a.WQ
 nh:FF K mg "full_run" Zw ["project","name"] a.kQ a.kf
 sE:FF K mg "met_by" qaa ["project","name"] a.f_met_by a.d_met_by
 iO:FF K mg "first_wrong" j7 ["project","paper"] a.X5 a.zu
 iU:FF K mg "first_ends" J3 ["paper"] a.Z7 a.Z8
 mE:FF K mg "wrong_word" jp ["project","ends","earlier","step"] a.ZV a.Zz
 lQ:FF K mg "is_right_answer" Ya ["project","earlier","ask","answer"] a.jJ a.jS
 my:FF K mg "is_full_run" Jd ["source","name","asks","end"] a.XZ a.zH
 mV:FF K mg "is_run_of" Xn ["rule","own","asks","end"] a.WZ a.wO
 na:FF K mg "shown" Ap ["project","paper","name"] a.f_shown a.d_shown
 mU:FF K mg "is_source" XS ["value"] a.Wq a.wU
 lC:FM K a.qK "__init__" "Project.__init__" Yn ["self","sources"] a.jx a.xO
 B7:FM K a.qK "sources" "Project.sources" jQ ["self"] a.zP a.zQ
 ii:FM K a.qK "source_of" "Project.source_of" yA ["self","name"] a.Y8 a.Y0
 iN:FM K a.qK "looked_up" "Project.looked_up" QX ["self","ask"] a.je a.Y5
 mt:FF K mg "longest_row" Je ["names"] a.zt a.zC
 mx:FF K mg "_law_cell_at" Ja ["script","k"] a.XV a.zd
 mq:FF K mg "_law_pot" WV ["cell","salt"] a.f_law_pot a.d_law_pot
 ig:FF K mg "_law_take" zS ["pot","many"] a.ko a.Kg
 iF:FF K mg "_law_word" Zt ["pot","names"] a.kH a.Ki
 nc:FF K mg "_law_line" xy ["pot","names","many","k"] a.kP a.Kh
 mC:FF K mg "_law_rule" xr ["pot","names"] a.k8 a.kj
 mT:FF K mg "_law_maker" XE ["pot","names"] a.Wv a.Wc
 mD:FF K mg "_law_leaf" xo ["pot","names"] a.kU a.kt
 md:FF K mg "_law_source" xn ["pot","names"] a.ZQ a.Z5
 mw:FF K mg "_law_sources" j3 ["script"] a.zc a.zh
 lf:FF K mg "_law_all_steps" jd ["project","names"] a.JH a.JS
 lN:FF K mg "_law_step_spoilt" Ym ["step","pot","names"] a.jE a.jM
 lz:FF K mg "_law_paper_spoilt" yQ ["steps","others","pot","names"] a.jt a.jo
 mF:FF K mg "_law_turned" J8 ["pairs","script"] a.ZL a.ZB
 mS:FF K mg "_law_right" XJ ["project","paper","names"] a.WY a.Wh
 B6:FF K mg "law" OX ["script"] a.f_law a.d_law
 qw:Cls K a.qq
 wx:Mk K a.qq a.jB
 wP:mg "Machine"=u_ (-a.qq)
 Yr:QQ K a.qq "rows"
 W0:QQ K a.qq "rule"
 zn:QQ K a.qq "own"
 Qx:QQ K a.qq "boxes"
 Qp:QQ K a.qq "place"
 yn:QQ K a.qq "done"
 jc:QQ K a.qq "given"
 qP:QQ K a.qq "there"
 qS:Cls K a.qN
 M_Going:Mk K a.qN a.JO
 m_Going:mg "Going"=u_ (-a.qN)
 Yx:QQ K a.qN "name"
 zx:QQ K a.qN "order"
 yJ:QQ K a.qN "made_by"
 Yh:QQ K a.qN "rule_asks"
 qX:QQ K a.qN "rule_run"
 yc:QQ K a.qN "end"
 qA:Cls K a.qt
 M_PlainOrder:Mk K a.qt a.Yd
 m_PlainOrder:mg "PlainOrder"=u_ (-a.qt)
 Qi:QQ K a.qt "given_project"
 QG:QQ K a.qt "stack"
 QA:QQ K a.qt "under_way"
 Qj:QQ K a.qt "full_runs"
 QD:QQ K a.qt "found"
 Q3:Cls K a.qK
 M_Project:Mk K a.qK a.jx
 m_Project:mg "Project"=u_ (-a.qK)
 yh:QQ K a.qK "by_name"
 m_MOST_SIGNS:∃t,mg "MOST_SIGNS"=u_ (.int 300 t)
 m_MOST_PARTS:∃t,mg "MOST_PARTS"=u_ (.int 40 t)
 m_MOST_SIZE:∃t,mg "MOST_SIZE"=u_ (.int 600 t)
 m_MOST_DEPTH:∃t,mg "MOST_DEPTH"=u_ (.int 12 t)
 zR:∃t,mg "MOST_NAME_SIGNS"=u_ (.int 24 t)
 m_LETTERS:∃t,mg "LETTERS"=u_ (.str "abcdefghijklmnopqrstuvwxyz" t)
 m_NAME_SIGNS:∃t,mg "NAME_SIGNS"=u_ (.str "abcdefghijklmnopqrstuvwxyz0123456789./" t)
 m_PERCENT:∃t,mg "PERCENT"=u_ (.int 37 t)
 m_MOST_LINES:∃t,mg "MOST_LINES"=u_ (.int 40 t)
 m_MOST_DONE:∃t,mg "MOST_DONE"=u_ (.int 300 t)
 m_MOST_NAMES:∃t,mg "MOST_NAMES"=u_ (.int 60 t)
 z_ord:mg "ord"=U_
 QN:mg "len"=U_
 qU:mg "isinstance"=U_
 wb:mg "str"=U_
 QW:mg "tuple"=U_
 z_all:mg "all"=U_
 z_int:mg "int"=U_
 Jb:mg "range"=U_
 z_zip:mg "zip"=U_
 z_dict:mg "dict"=U_
 WU:mg "enumerate"=U_
 z_sorted:mg "sorted"=U_
 z_abs:mg "abs"=U_
 z_min:mg "min"=U_
 z_sum:mg "sum"=U_
 z_list:mg "list"=U_
def ki:qv ["value","sign"] ["value"] (qj WW):=()
def yF:qv ["value","size","waiting","pair","part","depth"] ["value"] (qj zr):=()
def Cu:qv ["value"] ["value"] (qj WD):=()
def Ct:qv ["value"] ["value"] (qj wH):=()
def zD:qv ["tree"] ["tree"] (qj Ye):=()
def nX:qv ["ask","answer"] ["ask","answer"] (qj Xf):=()
def kS:qv ["kind","piece","count","numbers"] ["kind","piece","count"] (qj Wk):=()
def nV:qv ["line","form"] ["line","form"] (qj XB):=()
def xm:qv ["line","count","word","form","pieces","parts"] ["line","count"] (qj wq):=()
def YO:qv ["value","rows","line","row"] ["value"] (qj JV):=()
def ZF:qv ["tree","read"] ["tree"] (qj XF):=()
def Ao:qv ["tree"] ["tree"] (qj Zq):=()
def Cs:qv ["value"] ["value"] (qj WC):=()
def nS:qv ["boxes","own","parts"] ["boxes","own","parts"] (qj Xm):=()
def nU:qv ["boxes","own","parts"] ["boxes","own","parts"] (qj Xw):=()
def nY:qv ["boxes","own","parts"] ["boxes","own","parts"] (qj XD):=()
def An:qv ["boxes","own","parts"] ["boxes","own","parts"] (qj Zc):=()
def wG:qv ["boxes","own","parts","row"] ["boxes","own","parts"] (qj Zy):=()
def JC:qv ["boxes","own","parts","one","other"] ["boxes","own","parts"] (qj Xx):=()
def X0:qv ["boxes","own","parts","whole"] ["boxes","own","parts"] (qj xb):=()
def ZU:qv ["boxes","own","parts","whole"] ["boxes","own","parts"] (qj Xh):=()
def nT:qv ["boxes","own","parts"] ["boxes","own","parts"] (qj Xg):=()
def Xl:qv ["boxes","own","parts","whole","between"] ["boxes","own","parts"] (qj Zx):=()
def J6:qv ["boxes","own","parts","row","between"] ["boxes","own","parts"] (qj Xz):=()
def wf:qv ["boxes","word","parts"] ["boxes","word","parts"] (qj YU):=()
def Zu:qv ["word","held"] ["word","held"] (qj YA):=()
def wI:qv ["self","rule","own"] ["self","rule","own"] (qj jv):=()
def W8:qv ["self"] ["self"] (qj jZ):=()
def jL:qv ["self","tree","ask"] ["self","tree"] (qj Yy):=()
def Z9:qv ["self"] ["self"] (qj YW):=()
def wj:qv ["self"] ["self"] (qj ja):=()
def JB:qv ["self"] ["self"] (qj yk):=()
def Yg:qv ["self","row","word","parts"] ["self","row"] (qj Yz):=()
def wF:qv ["self","box","tree"] ["self","box","tree"] (qj jy):=()
def yU:qv ["machine","asks","count","pair"] ["machine","asks"] (qj Yi):=()
def DE:qv ["rule","own","run","machine"] ["rule","own","run"] (qj DH):=()
def KF:qv ["self","name","source","order"] ["self","name","source","order"] (qj J5):=()
def W2:qv ["self","rule"] ["self","rule"] (qj Jk):=()
def qao:qv ["self"] ["self"] (qj JJ):=()
def wK:qv ["self"] ["self"] (qj jA):=()
def KW:qv ["self","answer"] ["self","answer"] (qj JI):=()
def X4:qv ["self","asks"] ["self"] (qj JE):=()
def zK:qv ["self","project"] ["self","project"] (qj Yj):=()
def jP:qv ["self","project"] ["self","project"] (qj Q0):=()
def QS:qv ["self","name","top","missing"] ["self","name"] (qj QY):=()
def Xu:qv ["self","name"] ["self","name"] (qj yM):=()
def xG:qv ["self","going"] ["self","going"] (qj yx):=()
def xH:qv ["self","rule","own"] ["self","rule","own"] (qj yt):=()
def XQ:qv ["self","going"] ["self","going"] (qj yL):=()
def yw:qv ["self","going","ask","answer"] ["self","going"] (qj yR):=()
def yC:qv ["self","name","at_once"] ["self","name"] (qj Q1):=()
def Zj:qv ["source"] ["source"] (qj YF):=()
def Cv:qv ["source"] ["source"] (qj Wg):=()
def n9:qv ["end"] ["end"] (qj XU):=()
def KO:qv ["name"] ["name"] (qj JK):=()
def xI:qv ["names","name"] ["names"] (qj j8):=()
def qai:qv ["project","name"] ["project","name"] (qj JM):=()
def Ji:qv ["project","names","order","name"] ["project","names"] (qj JY):=()
def nZ:qv ["project","name"] ["project","name"] (qj Xy):=()
def WE:qv ["project","name","order"] ["project","name"] (qj Zw):=()
def DD:qv ["project","name"] ["project","name"] (qj qaa):=()
def Q6:qv ["project","paper","ends","earlier","place","step","word"] ["project","paper"] (qj j7):=()
def yV:qv ["paper","ends","name","asks","end"] ["paper"] (qj J3):=()
def YN:qv ["project","ends","earlier","step","name","end","source"] ["project","ends","earlier","step"] (qj jp):=()
def jl:qv ["project","earlier","ask","answer","source"] ["project","earlier","ask","answer"] (qj Ya):=()
def Yp:qv ["source","name","asks","end","rule"] ["source","name","asks","end"] (qj Jd):=()
def ZE:qv ["rule","own","asks","end","machine"] ["rule","own","asks","end"] (qj Xn):=()
def Bq:qv ["project","paper","name","ends"] ["project","paper","name"] (qj Ap):=()
def nW:qv ["value"] ["value"] (qj XS):=()
def yP:qv ["self","sources","by_name","name","source"] ["self","sources"] (qj Yn):=()
def xD:qv ["self","name"] ["self","name"] (qj yA):=()
def xz:qv ["self","ask"] ["self","ask"] (qj QX):=()
def Yo:qv ["names","row","name"] ["names"] (qj Je):=()
def W6:qv ["script","k"] ["script","k"] (qj Ja):=()
def YS:qv ["cell","salt","step","big","k"] ["cell","salt"] (qj WV):=()
def We:qv ["pot","many","digit"] ["pot","many"] (qj zS):=()
def wS:qv ["pot","names","some"] ["pot","names"] (qj Zt):=()
def yz:qv ["pot","names","many","k","words","word","one","two","three","at"] ["pot","names","many","k"] (qj xy):=()
def Jf:qv ["pot","names","body","many","lines"] ["pot","names"] (qj xr):=()
def js:qv ["pot","names","asked","lines"] ["pot","names"] (qj XE):=()
def Wr:qv ["pot","names","kind"] ["pot","names"] (qj xo):=()
def zl:qv ["pot","names","kind"] ["pot","names"] (qj xn):=()
def yl:qv ["script","names","pairs","k","cell"] ["script"] (qj j3):=()
def yq:qv ["project","names","steps","name","met"] ["project","names"] (qj jd):=()
def qV:qv ["step","pot","names","name","asks","end","kind","k","tree","word","asked"] ["step","pot","names"] (qj Ym):=()
def Ql:qv ["steps","others","pot","names","found","kind","at","to","step"] ["steps","others","pot","names"] (qj yQ):=()
def yf:qv ["pairs","script","names","pot","found","k","name"] ["pairs","script"] (qj J8):=()
def Q9:qv ["project","paper","names","wrong","there","name","found","source","with_rule"] ["project","paper","names"] (qj XJ):=()
def jD:qv ["script","pairs","names","project","other","both","turn","pot","paper","step","k","some"] ["script"] (qj OX):=()
structure Ga where
 (boxes asking forms makers br bn ba we:o3)
abbrev Acj:oj Str:= ["ask","has","names","go","like","rowed","none","say","fault"]
structure Fx (K:o0)(w:og)(mg:Str->om o6)(g:Ga)(a:Ad):Prop where
 m_BOXES:mg "BOXES"=u_ (-g.boxes)
 m_ASKING:mg "ASKING"=u_ (-g.asking)
 m_FORMS:mg "FORMS"=u_ (-g.forms)
 m_MAKERS:mg "MAKERS"=u_ (-g.makers)
 boxes:∀H,SqT K H g.boxes (BX.map V.str)
 asking:∀H,SqT K H g.asking [-"ask",-"has",-"names"]
 kd:IP K w g.forms
 forms:∀x>FRM,∃q,PySem.W.nsIn K g.forms x.1=u_ (u_ (-q))/\∀H,SqT K H q (x.2.map λk=>V.str k.t)
 km:IP K w g.makers
 k_text:PySem.W.nsIn K g.makers "text"=u_ (u_ (-a.Xk))
 k_self:PySem.W.nsIn K g.makers "self"=u_ (u_ (-a.XC))
 k_copy:PySem.W.nsIn K g.makers "copy"=u_ (u_ (-a.XO))
 k_row:PySem.W.nsIn K g.makers "row"=u_ (u_ (-a.Zo))
 k_put:PySem.W.nsIn K g.makers "put"=u_ (u_ (-a.zN))
 k_join:PySem.W.nsIn K g.makers "join"=u_ (u_ (-a.XR))
 k_first:PySem.W.nsIn K g.makers "first"=u_ (u_ (-a.JZ))
 k_rest:PySem.W.nsIn K g.makers "rest"=u_ (u_ (-a.Xj))
 k_size:PySem.W.nsIn K g.makers "size"=u_ (u_ (-a.XG))
 k_cut:PySem.W.nsIn K g.makers "cut"=u_ (u_ (-a.Ze))
 k_glue:PySem.W.nsIn K g.makers "glue"=u_ (u_ (-a.Xq))
 k_no:∀z>Acj,PySem.W.nsIn K g.makers z=u_ U_
 none_:∀z,xV z=U_->PySem.W.nsIn K g.forms z=u_ U_
 m_BadRule:mg "BadRule"=u_ (-g.br)
 x_BadRule:PySem.W.excIn K g.br VE "ValueError.__new__"=v_
 m_BadName:mg "BadName"=u_ (-g.bn)
 x_BadName:PySem.W.excIn K g.bn VE "ValueError.__new__"=v_
 m_BadAnswer:mg "BadAnswer"=u_ (-g.ba)
 e_BadAnswer:PySem.W.exmOne K (-g.ba) (-g.ba)=u_ v_
 m_WrightError:mg "WrightError"=u_ (-g.we)
 ew:PySem.W.exmOne K (-g.bn) (-g.we)=u_ v_
 xc:AwV.ExcCls K g.bn
variable {n:Nat}
def yS (h:n<=1000):n<=sizeLine:=UC (X2 h)
def sml (h:Nat.ble n 1000=v_):n<=sizeLine:=yS (Nat.le_of_ble_eq_true h)
def nj (h:n<=16000000):n<=sizeLine:=by rw[uD];omega
def Y2 {α:Type}{xs:oj α}{i:Int}{c:α}(h:atI xs i=u_ c):c>xs:=by
 unfold atI at h;erw[Option.bind_eq_some_iff.mp h,j,_,e,<-uX e]
variable {z:Str}
def AC (h:300<↑z):QB z=false:=by
 unfold QB;rw[ui ()]
 rfl
abbrev Mo:D->Bool
 | .str z=>QB z|_=>Vd
inductive kg:Sp
 |mk (v:_)(d:_)(_:vs= [v])(_:Is H d v)(_:Q (.bl (Mo d)) H)
inductive kh:Sp
 |mk (v:_)(d:_)(_:vs= [v])(_:Is H d v)(_:∀H',ic H H'->Q (.bl (isT d)) H')
abbrev pr (p:D×Nat):D:=-[p.1,.int (p.2:Int)]
variable {i:Nat}
def CH {c:Nat}(h:z.cps[i]? =u_ c)(U:QE c=Vd):QB z=false:=by
 unfold QB;let hm:c>z.cps.toList:=by
  have:z.cps.toList[i]? =u_ c:=by simpa using h
  exact uX this
 have:z.cps.toList.all QE=false:=by
  rw[List.all_eq_false];exact⟨c,hm,by rw[U];exact uf⟩
 rw[this,Tw]
section
variable {P:o9}{w:og}{K:o0}{mg:Str->om o6}{base:o8}{a:Ad}
def kK:#[T,1,a.f_is_text,a.d_is_text,["value"],kg]:=by
 rw[9,T.mL,ki]
 erw[h,v,d,rfl,hv,k];rw[3,%[@qI _ _ _ _ _ _ _ _ #[zA,#[Qr,#[Qd,#[qx,#[qZ,2,rfl],T.qU,vg,#v[pv 0,#[yi,.ty "str",T.wb,V2]]]]],#[Jm,#[qm,qaJ,#[qx,Z2,T.QN,uJ,#v[pv 0]],#[K0,T.m_MOST_SIGNS]]]].pt %[|#[qo,jf]] qr,#[y8,#[Nh,4,pv 0],#[qM,(1),ki.nd],%[|@qI _ _ _ _ _ _ _ _ #[zA,#[qm,DX,pv 1,ql],#[zA,#[qm,D0,pv 1,ql],#[Jm,#[qm,Qg,#[qx,MH,T.z_ord,boot_ord,#v[pv 1]],#[K0,T.m_PERCENT]]]]].pt %[|#[qo,jf]] qr]]|#[qo,jf]]]
 rw[0,v,"str",tyD d,isStr d,1,hv.ty,jY d,0];cases d with
 |str z=>
  erw[hv,rfl,hz];refine iX ?_
  rw[0,z,1,hz,_,0,1,0];refine iY (λc=>?_) (λc=>?_)
  .let c':(300:Int)<(↑z:Int):=ur c;let e:Mo (!z)=false:=AC ()
   rwa[e] at k
  .let c':¬(300:Int)<(↑z:Int):=λq=>c (uc q)
   rw[0,z,1]
   refine_lift let J1_:Nat->L2.St->Hp->Prop:=λi σ H'=>(∃x,σ= [u_ (!z),x])/\H'=H/\(z.cps.toList.take i).all QE=v_;?_
   refine SQ J1_ [⟨0⟩:1:1] ?_ ?_
   .rintro i c σ H' hc ⟨⟨x,rfl⟩,rfl,U⟩;let bad:QE c=Vd->Q (.bl Vd) H':=λe=>by
     let e':Mo (!z)=false:=CH hc e;rwa[e'] at k
    rw[0,_,0,1,0];rw[show decide ((⟨#[c]⟩:Str).cps.toList<(" ":Str).cps.toList)=decide (c<32) from AbA c 32]
    refine iY (λc1=>?_) (λc1=>?_)
    .refine ky (bad ?_);have:=ur c1;unfold QE;rw[ui ()]
     rfl
    .let aa:¬c<32:=λq=>c1 (uc q)
     rw[0,_,0,1,0];rw[show decide (("~":Str).cps.toList<(⟨#[c]⟩:Str).cps.toList)=decide (126<c) from Abp c 126]
     refine iY (λc2=>?_) (λc2=>?_)
     .refine ky (bad ?_);have:=ur c2;unfold QE;rw[ui (p:=c<=126) (),Tw]
      rfl
     .have ac:¬126<c:=λq=>c2 (uc q)
      rw[0,0,1,1,0];refine iY (λc3=>?_) (λc3=>?_)
      .have Z:c=37:=by
        have:=ur c3;have:=V.int.inj this;exact pX this
       exact bad (by subst Z;rfl)
      .have Z:c≠37:=λq=>c3 (uc (by rw[q];rfl))
       rw[_,⟨0⟩,1];rw[vi,show z.cps.toList[i]? =u_ c by simpa using hc,UY,U]
       show(v_&&(QE c&&v_))=v_;unfold QE;rw[uc (),uc (p:=c<=126) (),uc Z]
       rfl
   .rintro σ H' ⟨⟨x,rfl⟩,rfl,U⟩;let e:Mo (!z)=true:=by
     show QB z=v_;unfold QB;rw[vh (by simp)] at U
     rw[U,uc ()]
     rfl
    rwa[e] at k
 |_=>exact ky (ky k)
def BQ {α β:Type}(f:α->β)(xs:oj α)(x:α):(xs++ [x]).map f=xs.map f++ [f x]:=by simp
def Sw {α:Type}(us:oj α)(x:α):(us++ [x])[↑(us++ [x])-1]? =u_ x:=by simp
def Ij {α:Type}(us:oj α)(x:α):(us++ [x]).dropLast=us:=by simp
abbrev Wt (v:V)(d:D)(H:Hp)(L:o3)(m:Nat)(σ:L2.St)(H':Hp):Prop:=
 ∃(n:Nat) (w:oj (D×Nat)) (ws:oj V) (x3 x4 x5:om V),σ= [u_ v,u_ (.int n),u_ (-L),x3,x4,x5]/\ic H H'/\H' L=u_ (.lst ws)/\IsL H' (w.map pr) ws/\G w n=isT d/\n<=600/\↑w<=1+40*n/\m=ndL (w.map (·.1))
def jR:#[T,2,a.f_is_tree,a.d_is_tree,["value"],kh]:=by
 let wD:=#[kK,T];refine T.lr.F.ok yF () (λ_ _ _ _ H vs Q E hr h=>?_)
 erw[h,v,d,rfl,hv,k];rw[3,%[#[qE,(1),yF.nd,qh],#[qE,(2),yF.nd,#[QF,#v[#[qD,#v[pv 0,qh]]]]],#[wm,6,uT,#[BA,3,pv 2,(λ_=>rfl)],%[#[qE,(3),yF.nd,#[Nj,9,uO,UJ,UK,Nu,pv 2,_,_]],#[qE,(4),yF.nd,#[qG,qC,pv 3,qh]],#[qE,2,(5),4,yF.nd,rfl,GU rfl,#[qG,qC,pv 3,qh],_,_],@qI _ _ _ _ _ _ _ _ #[jT,#[Qd,#[qx,#[qZ,2,rfl],T.qU,vg,#v[pv 4,#[yi,.ty "tuple",T.QW,vH]]]],#[YJ,#[qm,DY,#[qx,qan,T.QN,uJ,#v[pv 4]],#[K0,T.m_MOST_PARTS]]]].pt %[#[Nf,2,(1),6,yF.nd,rfl,GL rfl,qh,NE,_]|#[qW,#[YQ,uO,PySem.F.slot_list_extend,PySem.F.type_list_extend,oT,pv 2,#v[#[XI,["below","depth"],[5],Nx (qj zr) ["value","size","waiting","pair","part","depth"],#[Zi,pv 4],(λ_ _ _ _ _ _=>#[qM,(0),(show Vr (["below","depth"]:oj Str) by decide+kernel)]),(λ_ _ _ _ _ _=>#[qD,#v[pv 0,#[qT,QM,pv 1,qh]]])]]]]] %[|#[qI,#[Qd,#[qp,wD,T.mL,#v[pv 4]]],%[|#[Nf,2,(1),6,yF.nd,rfl,GL rfl,#[qT,QM,qh,#[qx,qan,T.QN,uJ,#v[pv 4]]],NE,_]],%[|#[qo,jf]]]]|@qI _ _ _ _ _ _ _ _ #[zA,#[qm,qaJ,pv 5,#[K0,T.m_MOST_DEPTH]],#[Jm,#[qm,qaJ,pv 1,#[K0,T.m_MOST_SIZE]]]].pt %[|#[qo,jf]] qr]]|#[qo,jf]]]
 let no:∀{H':Hp}{w:oj (D×Nat)}{n:Nat},ic H H'->G w n=isT d->G w n=Vd->Q (.bl Vd) H':=λ{H' w n} sm e1 e2=>by
  let q:=k H' sm;rwa[<-e1,e2] at q
 rw[0,(sml rfl),λt1 h1=>[(sml rfl):λL hL=>?_]];let s1:ic H (upd H t1 (-[v,.int 1])):=qf h1 _;let s2:ic H (upd (upd H t1 (-[v,.int 1])) L (.lst [-t1])):=s1.trans (qf hL _);let ak:H L=none:=s1.free hL;let i1:Is (upd H t1 (-[v,.int 1])) (pr (d,1)) (-t1):=Is.new (ds:= [d,.int 1]) (v,0,hv,_,0,1,1) h1
 rw[_,Wt v d H L,(_,(0),[(d,1)],[-t1],U_,U_,U_,1,s2,qg,IsL.one (i1.mono (qf hL _).tk),Aaf d,(),by simp,1)]
 rintro m σ H' ⟨n,w,ws,x3,x4,x5,rfl,sm,hl,hw,hG,hn,am,rfl⟩
 rw[0,!(ws.isEmpty),.inl [ws:SqL.of hl:1]];rcases rT w with rfl|⟨w',⟨e,j⟩,rfl⟩
 .rw[show ws= [] from hw,0]
  refine iX ?_;let q:=k H' sm;rwa[<-hG,AdK hn] at q
 .rw[rW] at*;rw[BQ] at hw;erw[hw.unsnoc,us,x,rfl,hu,hx];let ne:(!(us++ [x]).isEmpty)=true:=by simp
  rw[ne];refine ky ⟨λσ' ao=>∃m',m'<ndL ((w'++ [(e,j)]).map (·.1))/\Wt v d H L m' σ' ao,λ_ _ h=>h,?_⟩;let hm:ndL ((w'++ [(e,j)]).map (·.1))=ndL (w'.map (·.1))+nd e:=by
   rw[BQ,Zg];simp[ndL]
  let aq:↑w'<=40*n:=by
   rw[uw,Ue] at am;omega
  let lu:=↑hu;rw[u9] at lu
  rw[0,.inl [1:_:SqL.of hl],L,_,x,1,1,hl,Sw us x];rw[Ij];let t2:Tk H' (upd H' L (.lst us)):=Tk.updL hl;let U:ic H (upd H' L (.lst us)):=λb o z=>by rw[qi (qk z ak)];exact sm b o z
  let ae:Is (upd H' L (.lst us)) (-[e,.int (j:Int)]) x:=hx.mono t2;let af:IsL (upd H' L (.lst us)) (w'.map pr) us:=hu.mono t2;let Z:upd H' L (.lst us) L=u_ (.lst us):=qg;generalize upd H' L (.lst us)=H2 at t2 U ae af Z⊢;clear t2 hl hx hu sm
  rw[0,Xp (i:=0) ae rfl λy hy=>?_]
  rw[0,Xp (i:=1) ae rfl λy1 ap=>?_];rw[show y1= .int (j:Int) from ap,0]
  show nz _ _ _ _ H2;refine qy λN0 n0=>n0 _ _ ?_;rw[8,BB,bb];let ad:∀(n':Nat) (w2:oj (D×Nat)) (aa:oj V) (H3:Hp),ic H H3->H3 L=u_ (.lst aa)->IsL H3 (w2.map pr) aa->(j<=12->n'<=600->G w2 n'=isT d)->(12<j\/600<n'->isT d=Vd)->↑w2<=1+40*n'->ndL (w2.map (·.1))<ndL ((w'++ [(e,j)]).map (·.1))->
    BB [u_ v,u_ (V.int (n':Int)),u_ (V.ref L),u_ x,u_ y,u_ (V.int (j:Int))] H3:=by
   intro n' w2 aa H3 s3 l3 i3 g3 b3 al m3;let bad:isT d=Vd->Q (.bl Vd) H3:=λe=>by
    let q:=k H3 s3;rwa[e] at q
   refine bb _ _ ?_
   rw[0,_,0,1,0];refine iY (λc=>ky (bad (b3 (.inl ?_)))) (λc=>(0,_,0,1,0,?_))
   .have:=ur c;omega
   .let c':¬(12:Int)<(j:Int):=λq=>c (uc q);refine iY (λc2=>bad (b3 (.inr ?_))) (λc2=>?_)
    .have:=ur c2;omega
    .let au:¬(600:Int)<(n':Int):=λq=>c2 (uc q);exact(_,m3,n',w2,aa,_,_,0,s3,l3,i3,g3 () (),(),al,1)
  rw[0,y,"tuple",tyD e,Zr e,1,hy.ty,XA e,0];cases e with
  |tup xs=>
   refine ky ?_;erw[hy,a0,vs,rfl,ac,ag];let lv:=↑ag
   rw[0,_,↑vs,1,.inr [vs:SqT.of ac:1],_,0,1,0];refine iY (λc=>?_) (λc=>?_)
   .let c':(↑vs:Int)<=40:=ur c
    rw[0,_,0,1]
    rw[0,.inl [1:_:SqL.of Z],0,a0,vs,1,SqT.of ac,λaw A0 ah=>?_];refine AH (tl:= [u_ (.int (j:Int))]) (λd0=>-[d0,.int ((j+1:Nat):Int)]) ac ag (nj ()) ah (λd0 x0 H3 R _ s3 i3 r=>?_) λH3 ys s3 l3 i3=>?_
    .rw[0,0,_,0,1,(sml rfl),λp hp=>?_];exact r _ _ (qf hp _) (Is.new (ds:= [d0,.int ((j+1:Nat):Int)]) (x0,0,i3,_,0,1,1) hp)
    .let ly:=↑i3;rw[u9] at ly;let eA:A0≠L:=λz=>by rw[z,Z,0] at ah
     rw[_,L,A0,us,ys,1,1,s3 _ _ Z,l3,nj ()]
     let t4:Tk H3 (upd H3 L (.lst (us++ys))):=Tk.updL (s3 _ _ Z);let em:(w'++xs.map λd0=>(d0,j+1)).map pr=w'.map pr++xs.map λd0=>-[d0,.int ((j+1:Nat):Int)]:=by
      rw[uA,uP];rfl
     let ef:(w'++xs.map λd0=>(d0,j+1)).map (·.1)=w'.map (·.1)++xs:=by
      rw[uA,uP]
      congr 1
      exact HQ xs
     refine ad (n+1) (w'++xs.map λd0=>(d0,j+1)) (us++ys) _ (λb o z=>by rw[qi (qk z ak)];exact s3 b o (U b o z)) qg (by rw[em];exact((af.mono s3.tk).mono t4).append (i3.mono t4)) (λh1 h2=>?_) (λh=>?_) ?_ ?_
     .rw[<-hG,AdI () h1]
     .rw[<-hG];rcases h with h|h
      .exact NY h
      .exact Acu h
     .rw[uw,u9];omega
     .rw[ef,hm,Zg];simp![nd];omega
   .let c':¬(↑vs:Int)<=40:=λq=>c (uc q)
    rw[0,_,¬xs,1,(show Is _ (¬xs) (-a0) from(a0,vs,1,ac,ag)),0]
    refine iX ?_;refine no U hG (Aag ?_);simp![iZ];rw[ui ()]
    rfl
  |str z=>
   refine iX ?_;erw[hy,rfl,hz]
   rw[0,_,!z,1,[1:hz],0];cases ht:QB z with
   |false=>
    let e1:Mo (!z)=false:=ht;rw[e1];refine iX ?_;refine no U hG (Aag ?_);simp![iZ];exact ht
   |true=>
    let e1:Mo (!z)=true:=ht;rw[e1];refine ky ?_
    rw[0,0,_,↑z,1,[hz:1],_,0,1,_,0,1];let en:(n:Int)+(1+(↑z:Int))=((n+(1+↑z):Nat):Int):=by omega
    show BB [u_ v,u_ (V.int ((n:Int)+(1+(↑z:Int)))),u_ (V.ref L),u_ x,u_ (V.str z),u_ (V.int (j:Int))] _;rw[en];refine ad (n+(1+↑z)) w' us _ U Z af (λh1 h2=>?_) (λh=>?_) () (by rw[hm];simp![nd];omega)
    .rw[<-hG,AdJ ht h1]
    .rw[<-hG];rcases h with h|h
     .exact NY h
     .refine Acv ?_;simp![sz];omega
  |_=>
   refine iX ?_
   exact(0,_,0,hy,0,iX (no U hG (Aag rfl)))
abbrev LET:Str:="abcdefghijklmnopqrstuvwxyz"
abbrev NSG:Str:="abcdefghijklmnopqrstuvwxyz0123456789./"
abbrev nm (z:Str):Bool:=decide (1<=(↑z:Int))&&decide ((↑z:Int)<=24)&&inS ⟨#[z.cps.getD 0 0]⟩ LET&&(z.cps.toList.map λc=>inS ⟨#[c]⟩ NSG).all id
abbrev mK:D->Bool
 | .str z=>nm z|_=>Vd
inductive OC:Sp
 |mk (v:_)(d:_)(_:vs= [v])(_:Is H d v)(_:∀H',ic H H'->Q (.bl (mK d)) H')
def Ca (h:1<=↑z):atI z.cps.toList 0=u_ (z.cps.getD 0 0):=by
 let h':0<z.cps.size:=h;let q:z.cps.toList[0]? =u_ (z.cps.getD 0 0):=by simp[Array.getD,h']
 exact qF q
def Acd (z:Str):(z.cps.toList.map λc=>V.bl (inS ⟨#[c]⟩ NSG))=(z.cps.toList.map λc=>inS ⟨#[c]⟩ NSG).map V.bl:=by
 rw[uP]
 rfl
def BL (h:¬(1<=(↑z:Int)/\(↑z:Int)<=24)):nm z=false:=by
 unfold nm;by_cases h1:1<=(↑z:Int)
 .let h2:¬(↑z:Int)<=24:=λq=>h [h1:q];rw[ui h2];simp
 .rw[ui h1];simp
def BM (h:inS ⟨#[z.cps.getD 0 0]⟩ LET=Vd):nm z=false:=by
 unfold nm;rw[h];simp
def Es (h1:1<=(↑z:Int))(h2:(↑z:Int)<=24)(h:inS ⟨#[z.cps.getD 0 0]⟩ LET=v_):nm z=(z.cps.toList.map λc=>inS ⟨#[c]⟩ NSG).all id:=by
 unfold nm;rw[h,uc h1,uc h2];simp
def Xs:#[T,1,a.f_is_name,a.d_is_name,["value"],OC]:=by
 rw[9,T.iH,Cu]
 erw[h,x,d,rfl,hv,k];rw[3,%[@qI _ _ _ _ _ _ _ _ #[zA,#[Qr,#[Qd,#[qx,#[qZ,2,rfl],T.qU,vg,#v[pv 0,#[yi,.ty "str",T.wb,V2]]]]],#[Jm,#[Qr,#[BC,12,DY,DY,qh,#[qx,Z2,T.QN,uJ,#v[pv 0]],#[K0,T.zR],_]]]].pt %[|#[qo,jf]] qr,#[qI,#[qm,8,oG,#[qG,BY,pv 0,qh],#[Abj,4,_,T.m_LETTERS,_],#[w]],%[|#[qo,jf]],qr]|#[qo,#[qx,#[zi,1,rfl],T.z_all,HW,#v[#[XI,["sign"],[],IR,#[Nh,4,pv 0],(λ_ _ _ _ _ _=>#[qM,(0),(show Vr (["sign"]:oj Str) by decide+kernel)]),(λ_ _ _ _ _ _=>#[Qh,8,DZ,pv 0,#[Abj,4,_,T.m_NAME_SIGNS,_],#[w]])]]]]]]
 rw[0,x,"str",tyD d,isStr d,1,hv.ty,jY d,0];cases hd:isStr d with
 |false=>
  refine ky (ky ?_);have:=k H (ic.refl H);let e:mK d=false:=by cases d<;>first|rfl|simp[isStr] at hd
  rwa[e] at this
 |true=>
  obtain⟨z,rfl⟩:∃z,d= !z:=by cases d<;>simp[isStr] at hd;exact⟨0⟩
  erw[hv,rfl,hz];let k:∀H',ic H H'->Q (.bl (nm z)) H':=k;refine iX ?_
  rw[0,z,1,hz,_,0,1,0];let stop:nm z=Vd->Q (.bl Vd) H:=λe=>by
   have:=k H (ic.refl H);rwa[e] at this
  refine iY (λZ=>?_) (λZ=>?_)
  .let aa:1<=(↑z:Int):=ur Z
   rw[_,_,0,1,0];by_cases U:(↑z:Int)<=24
   .rw[uc U];refine iX ?_
    rw[0,_,_,0,1,hz,Ca (),_,0,1,0]
    cases e:inS ⟨#[z.cps.getD 0 0]⟩ LET with
    |false=>
     let e':(!(h_ ("abcdefghijklmnopqrstuvwxyz":Str) ⟨#[z.cps.getD 0 0]⟩ 0 ("abcdefghijklmnopqrstuvwxyz":Str).length 1).isEmpty)=false:=e;rw[e'];refine ky ?_;exact stop (BM e)
    |true=>
     let e':(!(h_ ("abcdefghijklmnopqrstuvwxyz":Str) ⟨#[z.cps.getD 0 0]⟩ 0 ("abcdefghijklmnopqrstuvwxyz":Str).length 1).isEmpty)=true:=e;rw[e'];refine iX ?_
     rw[0,z,1,λD hD=>?_];refine AbF (λc=> .bl (inS ⟨#[c]⟩ NSG)) (hz) hD (λi c H' R hc sm r=>(0,_,0,1,r)) λH' sm hl=>?_
     rw[_,D,z.cps.toList.map λc=>inS ⟨#[c]⟩ NSG,1,SqL.of (by rw[hl,Acd])]
     have:=k H' sm;rwa[Es aa U e] at this
   .rw[ui U];refine ky ?_;exact stop (BL λq=>U q.2)
  .rw[0];refine ky ?_;exact stop (BL λq=>Z (uc q.1))
end
abbrev Aal:om Pt->D
 |none=> .non|some p=>p.d
inductive Oy:Sp
 |mk (n:Nat)(kd:Kd)(z:Str)(_:vs= [!kd.t,!z,.int (n:Int)])(_:n<=40)(_:↑z<=300)(_:∀(v:V)(H':Hp),ic H H'->Is H' (Aal (Ys n kd z)) v->Q v H')
inductive Dt (K:PySem.W.Frag):Sp
 |mk (z:Str)(ks:List Kd)(q:Addr)(_:vs= [!z,-q])(_:↑z<=300)(_:↑ks<=3)(_:SqT K H q (ks.map λk=>V.str k.t))(_:∀p,H p=U_->Q (-p) (upd H p (.lst ((pcs ks z).map V.str))))
def Qu {c:Bool}{A B:Prop}(h:c=Vd)(b:B):if c=v_ then A else B:=by rw[A4 (by rw[h];exact uf)];exact b
def QK {c:Bool}{A B:Prop}(h:c=v_)(a:A):if c=v_ then A else B:=by rw[A6 h];exact a
def Zn (ks:oj Kd):(ks.map λk=>V.str k.t)=(ks.map Kd.t).map V.str:=by rw[uP];rfl
def IU (ks:oj Kd):inV (-"words") (ks.map λk=>V.str k.t)=decide (Kd.words>ks):=by
 rw[Zn,JU,ve,Af];constructor
 .rintro⟨k,U,e⟩;cases k with|words=>exact U|box=>exact A8 e ()|line=>exact A8 e ()
 .intro h;exact[_:h:1]
def B9:∀x>FRM,↑x.2<=3:=by decide+kernel
def qav (h:z∉BX):Ys n .box z=none:=by
 unfold Ys;exact A4 h
def zo (h:z>BX):Ys n .box z=u_ (.s z):=by
 unfold Ys;exact A6 h
def W4 (h:z∉(Vq n).map λi:Nat=>(Vm (1+(i:Int)):Str)):Ys n .line z=none:=by
 unfold Ys;rw[TY,Uz];intro i hi e;exact h (Af.mpr [i:hi:ur e])
def xY (h:z>(Vq n).map λi:Nat=>(Vm (1+(i:Int)):Str)):∃j:Int,1<=j/\j<=n/\z=(Pt.n j).t/\Ys n .line z=u_ (.n j):=by
 erw[Af.mp h,i,hi,e];unfold Ys;cases e2:(Vq n).find? λi:Nat=>decide ((Vm (1+(i:Int)):Str)=z) with
 |none=>exact A8 (uc e) (List.find?_eq_none.mp e2 i hi)|some j=>
  let h1:=V0 e2;let h2:=List.mem_range.mp (vW e2);exact(1+(j:Int),(),(),(ur h1).symm,by show rA _ _=_;rw[e2];rfl)
section
variable {P:o9}{w:og}{K:o0}{mg:Str->om o6}{base:o8}{a:Ad}{g:Ga}
def Pz:#[C,1,a.f_part_of,a.d_part_of,["kind","piece","count"],Oy]:=by
 rw[9,T.nC,kS]
 erw[h,n,kd,z,rfl,hn,hz,k];rw[3,%[#[qI,#[qm,Qg,pv 0,ql],%[|#[qo,pv 1]],qr],#[qI,#[qm,Qg,pv 0,ql],%[|#[qo,#[ye,#[qm,8,QP,pv 1,#[pe_gR,C.m_BOXES],#[w]],pv 1,qR]]],qr],#[Ky,2,["number"],(1),[],(3),12,kS.nd,rfl,GL rfl,IR,rfl,#[DP,7,_,T.Jb,#v[qh,#[qT,QM,pv 2,qh]],_,_],(λ_ _ _ _ _ _=>#[qM,(0),(show Vr (["number"]:oj Str) by decide+kernel)]),(λ_ _ _ _ _ _=> @yd _),(λ_ _ _ _ _ _=>#[Qa,JF,T.wb,V2,#v[pv 0]]),_,_,_]|#[qo,#[ye,#[qm,8,QP,pv 1,pv 3,#[w]],#[Qa,IE,T.z_int,boot_int,#v[pv 1]],qR]]]]
 rw[0,1,0];cases kd with
 |words=>
  refine QK () [0:?_]
  exact k _ H (ic.refl _) [1:yS ()]
 |box=>
  refine Qu () (0,1,0,?_)
  refine QK () (0,g.boxes,0,.inr (C.boxes _),1,YT _,0,?_)
  rw[A4 uf,JU];refine iY (λc=>?_) (λc=>?_)
  .let Z:z>BX:=ur c;rw[zo Z] at k;exact[0:k _ H (ic.refl _) [1:yS ()]]
  .let Z:z∉BX:=λq=>c (uc q);rw[qav Z] at k;exact k _ H (ic.refl _) rfl
 |line=>
  refine Qu () (0,1,0,?_)
  refine Qu () ?_
  rw[0,_,0,1,(1),(n:Int)+1,1,((),(),(),()),λL hL=>?_]
  rw[show((n:Int)+1-1).toNat=n by omega]
  refine wk (lo:=1) (tl:= []) (λi ys H'=>ys=(Vq i).map (λi:Nat=>V.str (Vm (1+(i:Int))))/\ic H H') (nj ()) [1:qf hL _] ?_ ?_
  .rintro i ys H' hi ⟨rfl,sm⟩ U hy R hR
   rw[0,0,?_,hR _ _ U [?_:?_]]
   .let h1:(1+(i:Int)).natAbs<=41:=by omega
    let h2:=TN (1+(i:Int)).natAbs;omega
   .rw[RK,uA]
    rfl
   .intro b o e;rw[qi (qk e hL)];exact sm b o e
  .rintro ys H' ⟨rfl,sm⟩ U;let hy:(Vq n).map (λi:Nat=>V.str (Vm (1+(i:Int))))=((Vq n).map λi:Nat=>(Vm (1+(i:Int)):Str)).map V.str:=by rw[uP];rfl
   rw[5]
   refine(0,0,L,0,.inl (SqL.of U),1,by rw[hy];exact YT _,0,?_)
   rw[A4 uf,hy,JU];refine iY (λc=>?_) (λc=>?_)
   .erw[xY (ur c),j,j1,j2,rfl,ej];rw[ej] at k;let hj:=oR j1 ()
    exact(0,_,j,1,qaz j1 (),vb hj.1 (),k _ _ sm rfl)
   .rw[W4 λq=>c (uc q)] at k;exact k _ _ sm rfl
def Ei:#[T,1,a.WB,a.wQ,["line","form"],(Dt K)]:=by
 rw[9,T.mR,nV]
 erw[h,z,ks,q,rfl,hz,hk,Z,k];rw[3,%[#[qI,#[qm,8,QP,ql,pv 1,#[w]],%[|#[qo,#[YQ,vc,Uu,Uv,Ew,pv 0,#v[ql,#[qx,qB,T.QN,uJ,#v[pv 1]]]]]],qr]|#[qo,#[YQ,vc,Uu,Uv,BO,pv 0,#v[ql]]]]]
 rw[5]
 refine(0,q,0,.inr Z,1,by rw[Zn];exact YT _,0,?_)
 rw[A4 uf,IU];unfold pcs at k;refine iY (λc=>?_) (λc=>?_)
 .let U:Kd.words>ks:=ur c;rw[A6 U] at k;let h0:0<↑ks:=List.length_pos_iff.mpr λe=>by rw[e] at U;simp at U
  exact(0,1,0,q,0,.inr Z,_,↑ks,1,by rw[u9],(),h0,(),k)
 .let U:Kd.words∉ks:=λz=>c (uc z);rw[A4 U] at k;exact(0,1,0,1,(),k)
abbrev AdX:om Rw->D
 |none=> .non|some r=>rowD r
abbrev Qq (n:Nat):D->om Rw
 | .str z=>WG n z|_=>U_
inductive Ds:Sp
 |mk (v:V)(d:D)(n:Nat)(_:vs= [v,.int (n:Int)])(_:Is H d v)(_:n<=40)(_:∀(v':V)(H':Hp),ic H H'->Is H' (AdX (Qq n d)) v'->Q v' H')
def Cz:∀{d:D},Mo d=Vd->Qq n d=U_
 | .str z,h=>by
  show WG n z=U_;unfold WG;exact A4 (by rw[show QB z=Vd from h];exact uf)
 | .non,_=>rfl| .int _,_=>rfl| .bl _,_=>rfl| .lst,_=>rfl| .dct,_=>rfl| .tup _,_=>rfl
def Og:∀{d:D},Mo d=v_->∃z,d= !z
 | .str z,_=>[z:1]
abbrev Jv (n:Nat)(ks:oj Kd)(zs:oj Str):oj (om Pt):=List.zipWith (Ys n) ks zs
set_option tactic.hygienic true in
def kC {n:Nat}:∀{ks:oj Kd}{zs:oj Str},(Jv n ks zs).any Hk=v_->YB n ks zs=U_
 | [],_,h=>by simp[Jv] at h|_::_,[],h=>by simp[Jv] at h|k::ks,z::zs,h=>by
  rw[Jv,tN,UM,HK] at h;unfold YB;rcases h with h|h
  .rw[Option.isNone_iff_eq_none.mp h]
  .rw[kC h];split
   .rename_i h1 h2;rw[h2,0]
   .rfl
def kc {n:Nat}:∀{ks:oj Kd}{zs:oj Str},↑zs=↑ks->(Jv n ks zs).any Hk=Vd->∃ps,YB n ks zs=u_ ps/\Jv n ks zs=ps.map u_
 | [],[],_,_=>[[]:1:1]| [],_::_,hl,_=>by simp at hl|_::_,[],hl,_=>by simp at hl|k::ks,z::zs,hl,h=>by
  rw[Jv,tN,UM,Bool.or_eq_false_iff] at h;obtain⟨ps,U,e2⟩:=kc (ks:=ks) (zs:=zs) (by simpa using hl) h.2
  cases e:Ys n k z with
  |none=>rw[e] at h;rw[h.1,0]|some p=>
   rw[_,p::ps,?_,?_]
   .unfold YB;rw[e,U]
   .rw[Jv,tN,e,uC]
    congr 1
def MR {H:Hp}:∀{os:oj (om Pt)}{vs:oj V},L2.IsL H (os.map Aal) vs->vs.all zY=v_/\inV .non vs=os.any Hk
 | [],_,h=>by rw[show _= [] from h,0];exact[1:1]|q::ps,_,h=>by
  erw[h,v,r,rfl,h1,h2];erw[MR h2,Z,i2];let U:zY v=v_/\eqV v .non=q.isNone:=by
   cases q with
   |none=>rw[show v= .non from h1,0];exact[1:1]|some q=>
    cases q with
    |s z=>erw[h1,rfl,_,<-[1:1]]|n i=>rw[show v= .int i from h1,0];exact[1:1]
  rw[_,?_,?_]
  .rw[vN,U.1,Z];rfl
  .show(eqV v .non||inV .non r)=_
   rw[U.2,i2];rfl
def DM {α:Type}(l:oj α)(h:α->D)(f:Nat->D)(U:∀i q,l[i]? =u_ q->f i=h q):(Vq ↑l).map f=l.map h:=by
 apply List.ext_getElem
 .simp
 .intro i h1 h2;simp![u9,List.length_range] at h1;simp![List.getElem_map,List.getElem_range];exact U i l[i] (ug h1)
def Eg:#[C,2,a.f_row_of,a.d_row_of,["line","count"],Ds]:=by
 let wD:=#[kK,T];let aa:=#[Pz,T,C];let U:=#[Ei,T];refine T.sx.F.ok xm () (λ_ _ _ _ H vs Q E hr h=>?_)
 erw[h,v,d,n,rfl,hv,hn,k];rw[3,%[#[qI,#[Qr,#[Qd,#[qp,wD,T.mL,#v[pv 0]]]],%[|#[qo,qR]],qr],#[qE,(2),xm.nd,#[qG,qC,#[YQ,vc,PySem.F.slot_str_partition,PySem.F.type_str_partition,Sm,pv 0,#v[ql]],qh]],#[qI,#[qm,8,Pm,pv 2,#[pe_gR,C.m_FORMS],#[w]],%[|#[qo,qR]],qr],#[qE,(3),xm.nd,#[qG,Ad0,#[pe_gR,C.m_FORMS],pv 2]],#[qE,(4),xm.nd,#[qp,U,T.mR,#v[pv 0,pv 3]]],#[qI,#[qm,DW,#[qx,qB,T.QN,uJ,#v[pv 4]],#[qT,QM,qh,#[qx,qB,T.QN,uJ,#v[pv 3]]]],%[|#[qo,qR]],qr],#[qE,(5),xm.nd,#[Qa,Qe,T.QW,vH,#v[#[XI,2,["kind","piece","count"],(2),[1],9,Nx (qj wq) ["line","count","word","form","pieces","parts"],rfl,#[Abf,9,_,T.z_zip,#v[pv 3,#[QZ,Al,pv 4,#[ya,qh],yy]],_,_],(λ_ _ _ _ _ _=>#[DQ,1,K,3,(2),1,rfl,rfl,Qt #[qM,(0),(show Vr (["kind","piece","count"]:oj Str) by decide+kernel)] (Qt #[qM,(1),(show Vr (["kind","piece","count"]:oj Str) by decide+kernel)] xl),_,_]),(λ_ _ _ _ _ _=> @yd _),(λ_ _ _ _ _ _=>#[qp,aa,T.nC,#v[pv 0,pv 1,pv 2]]),_]]]]|#[qo,#[ye,#[qm,8,QP,qR,pv 5,#[w]],qR,#[qD,#v[pv 2,pv 5]]]]]]
 rw[0,v,d,1,hv,0];cases e0:Mo d with
 |false=>
  rw[Cz e0] at k;exact QK rfl (k _ H (ic.refl _) rfl)
 |true=>
 erw[Og e0,z,rfl];erw[hv,rfl,au];let ht:QB z=true:=e0;let hz:↑z<=300:=by
  let Z:=ht;unfold QB at Z;rw[uF,vo] at Z;exact Z.1
 let k:∀(v':V) (H':Hp),ic H H'->Is H' (AdX (WG n z)) v'->Q v' H':=k;refine Qu rfl ?_
 rw[0,1,0,1,(),λt1 x1 x2 g1=>?_]
 rw[_,t1,_,(0),0,1,SqT.of qg,1];let s1:ic H (upd H t1 (-[.str (hd z),!x1,!x2])):=qf g1 _;generalize upd H t1 (-[.str (hd z),!x1,!x2])=H1 at s1⊢;unfold WG at k;rw[A6 ht] at k;cases ef:xV (hd z) with
 |none=>
  rw[ef] at k
  exact(0,hd z,g.forms,0,1,C.kd,C.none_ _ ef,0,QK rfl (k _ _ s1 rfl))
 |some ks=>
 let hk:=Zh ef;rw[ef] at k;simp only at k;erw[C.forms _ hk,q,ah,ac];let hf:↑ks<=3:=B9 _ hk
 rw[0,hd z,g.forms,0,1,C.kd,ah,0];refine Qu rfl ?_
 rw[0,hd z,g.forms,_,-q,1,1,C.kd,ah,1]
 rw[0,0,z,ks,q,1,hz,hf,ac _,λp2 g2=>?_];let s2:ic H1 (upd H1 p2 (.lst ((pcs ks z).map V.str))):=qf g2 _;let e2:(upd H1 p2 (.lst ((pcs ks z).map V.str))) p2=u_ (.lst ((pcs ks z).map V.str)):=qg;generalize upd H1 p2 (.lst ((pcs ks z).map V.str))=H2 at s2 e2⊢
 rw[0,p2,0,.inl (SqL.of e2),0,q,0,.inr (ac _),_,0,1,1,0];by_cases hl:↑(pcs ks z)=1+↑ks
 case neg=>
  rw[A4 hl] at k;refine QK ?_ (k _ _ (s1.trans s2) rfl);rw[u9,u9];show(!(decide) (V.int _=V.int _))=v_;rw[ui]
  .rfl
  .intro q;have:(↑(pcs ks z):Int)=1+(↑ks:Int):=V.int.inj q;omega
 rw[A6 hl] at k;refine Qu ?_ ?_
 .rw[u9,u9,show(↑(pcs ks z):Int)=1+(↑ks:Int) by omega]
  simp
 let af:↑((pcs ks z).drop 1)=↑ks:=by rw[uQ];omega
 let ak:∀p>(pcs ks z).drop 1,↑p<=300:=λp hp=>by
  let Z:=ht;unfold QB at Z;rw[uF,vo] at Z;exact(MW Z.1 Z.2 p (vQ hp)).1
 rw[0,0,0,p2,0,SqL.of e2,λp3 g3=>?_];let al:wr ((pcs ks z).map V.str) (u_ 1) U_=((pcs ks z).drop 1).map V.str:=by
  rw[show(u_ (1:Int))=u_ (((1:Nat)):Int) from rfl,X6 (by rw[u9];omega),FX]
 rw[al];generalize (pcs ks z).drop 1=zs at af ak k⊢;let s3:ic H2 (upd H2 p3 (.lst (zs.map V.str))):=qf g3 _;let e3:(upd H2 p3 (.lst (zs.map V.str))) p3=u_ (.lst (zs.map V.str)):=qg;generalize upd H2 p3 (.lst (zs.map V.str))=H3 at s3 e3⊢;let ao:↑(Jv n ks zs)=↑ks:=by rw[Jv,List.length_zipWith];omega
 rw[_,q,p3,_,0,ac _,SqL.of e3,λA1 gA=>?_];refine AbC (K:=K) (tl:= [u_ (.int (n:Int))]) (xs:=ks.map λk:Kd=>V.str k.t) (ys:=zs.map V.str) (λi=>Aal ((Jv n ks zs).getD i U_)) (λH' _=>ac H') (λH' sm=>SqL.of (sm _ _ e3)) (by simp[af]) (by rw[u9];exact yS ()) gA ?_ ?_
 .intro i x y H4 R hx hy s4 hR;rw[uK] at hx hy;cases ag:ks[i]? with
  |none=>rw[ag,0] at hx|some kd=>
   rw[ag,0] at hx;cases ad:zs[i]? with
   |none=>rw[ad,0] at hy|some z1=>
    rw[ad,0] at hy
    rw[0,0,0,n,kd,z1,1,hn,ak _ (uX ad),λv H5 s5 hv=>hR v H5 s5 ?_];let e:(Jv n ks zs).getD i U_=Ys n kd z1:=by simp[GN,Jv,List.getElem?_zipWith,ag,ad]
    simp![e];exact hv
 intro H5 vs s5 e5 h5;let am:L2.IsL H5 ((Jv n ks zs).map Aal) vs:=by
  rw[u9,<-ao] at h5;rw[DM (Jv n ks zs) Aal _ (λi q1 hi=>by simp[GN,hi])] at h5
  exact h5
 rw[_,A1,vs,1,.inl [SqL.of e5:λt6 g6=>?_]];let s6:ic H5 (upd H5 t6 (¬vs)):=qf g6 _;let i6:Is (upd H5 t6 (¬vs)) (.tup ((Jv n ks zs).map Aal)) (-t6):=Is.new am g6;let e6:(upd H5 t6 (¬vs)) t6=u_ (¬vs):=qg;generalize upd H5 t6 (¬vs)=H6 at s6 i6 e6⊢;erw[MR am,f1,f2];let ae:=s1.trans (s2.trans (s3.trans (s5.trans s6)))
 rw[0,t6,vs,1,.inr (SqT.of e6),1,f1,0];rw[A4 uf,f2];refine iY (λc=>?_) (λc=>?_)
 .rw[kC c] at k;exact k _ _ ae rfl
 .let c':(Jv n ks zs).any Hk=false:=by
   cases h:(Jv n ks zs).any Hk with
   |false=>rfl|true=>exact A8 h c
  erw[kc af c',ps,q1,q2];rw[q1] at k;rw[q2,uP] at i6
  rw[0,0,(sml rfl),λt7 g7=>?_];let ap:↑(hd z)<=sizeLine:=by
   let aq:∀x>FRM,↑x.1<=100:=by decide+kernel
   have:=aq _ hk;exact yS (by simp only at this;omega)
  exact k _ _ (ae.trans (qf g7 _)) (Is.new (ds:= [.str (hd z),.tup (ps.map Pt.d)]) (_,0,[1:ap],_,0,i6,1) g7)
def DT {M:Nat}(hn:n<=40){k:Kd}{p:Pt}(h:Abd n M k p):Ys n k p.t=u_ p:=by
 cases k with
 |words=>
  cases p with
  |s z=>rfl|n i=>rw[h,0]
 |box=>
  cases p with
  |s z=>exact zo h|n i=>rw[h,0]
 |line=>
  cases p with
  |s z=>rw[h,0]|n i=>
   let h1:1<=i/\i<=n:=h;let hm:(Pt.n i).t>(Vq n).map λi:Nat=>(Vm (1+(i:Int)):Str):=Af.mpr ⟨(i-1).toNat,List.mem_range.mpr (),by show(Vm (1+(((i-1).toNat:Nat):Int)):Str)=Vm i;rw[show 1+(((i-1).toNat:Nat):Int)=i by omega]⟩
   erw[xY hm,j,Z,j2,ej,e];rw[e];let b1:=qaz (i:=i) h1.1 ()
   let b2:=qaz (i:=j) Z ()
   let U:(Vm i:Str)=Vm j:=ej;rw[U,b2] at b1;rw[uN b1]
def kz {n M:Nat}(hn:n<=40):∀{ks:oj Kd}{ps:oj Pt},Xe n M ks ps->YB n ks (ps.map Pt.t)=u_ ps
 | [],[],_=>rfl|k::ks,p::ps,h=>by
  rw[uC];unfold YB;rw[DT hn h.1,kz hn h.2]
 | [],_::_,h=>h.elim|_::_,[],h=>h.elim
variable {ks:oj Kd}
def E8 {w:Str}(h:(w,ks)>FRM):xV w=u_ ks:=by
 cases e:xV w with
 |none=>exact A8 rfl (wy e _ h)|some U=>
  have:=E7 _ (Zh e) _ h rfl;rw[(Prod.mk.inj this).2]
variable {r:Rw}
def Cy {M:Nat}(hn:n<=40)(h:JA n M r)(ht:QB (Yt r)=v_):WG n (Yt r)=u_ r:=by
 let hh:=So h;erw[h,ks,Z,U];unfold WG;rw[A6 ht,hh,E8 Z];simp only;let hs:pcs ks (Yt r)=txs r:=Mi hn Z U;let hl:=ZM U;rw[hs,A6 (by unfold txs;rw[um,u9];omega)]
 show rA _ (YB n ks (r.2.map Pt.t))=_;rw[kz hn U]
 rfl
abbrev jV (rs:oj Rw):D:= .tup (rs.map λr=> .str (Yt r))
structure QU (rs:oj Rw):Prop where
 n0:1<=↑rs
 n1:↑rs<=40
 ok:∀r>rs,JA ↑rs 300 r
 tree:isT (jV rs)=v_
def sw:∀{ds:oj D}{d:D},goodL ds=v_->d>ds->iZ d=v_
 |x::xs,d,h,hm=>by
  simp![goodL,uF] at h;rcases Ab.mp hm with rfl|hm
  .exact h.1
  .exact sw h.2 hm
variable {rs:oj Rw}
def QU.text (h:QU rs)(U:r>rs):QB (Yt r)=true:=by
 let h1:=h.tree;unfold isT at h1;rw[uF,uF] at h1;let h2:=h1.1.1;unfold jV at h2;simp![iZ,uF] at h2;have:=sw h2.2 (Af.mpr [r:U:1])
 simpa only [iZ] using this
abbrev Q8:D->om (oj Rw)
 | .tup ds=>if(decide (1<=↑ds)&&decide (↑ds<=40)&&ds.all (λd=>(Qq ↑ds d).isSome)&&isT (¬ds))=v_ then u_ (ds.filterMap (Qq ↑ds)) else U_|_=>U_
def X9 (ds:oj D):Q8 (¬ds)=if(decide (1<=↑ds)&&decide (↑ds<=40)&&ds.all (λd=>(Qq ↑ds d).isSome)&&isT (¬ds))=v_ then u_ (ds.filterMap (Qq ↑ds)) else none:=rfl
def ot {n:Nat}:∀{rs:oj Rw},(∀r>rs,Qq n (.str (Yt r))=u_ r)->(rs.map λr=>D.str (Yt r)).filterMap (Qq n)=rs
 | [],_=>rfl|r::rs,h=>by
  rw[uC,Ul (h r uj),ot λx U=>h x (uh _ U)]
def QU.rowD (h:QU rs)(U:r>rs):Qq ↑rs (.str (Yt r))=u_ r:=Cy h.n1 (h.ok r U) (h.text U)
def QU.read (h:QU rs):Q8 (jV rs)=u_ rs:=by
 let hl:↑(rs.map λr=>D.str (Yt r))=↑rs:=u9 ..;let Z:=h.tree;unfold jV at Z⊢;rw[X9,hl,A6]
 .rw[ot λr U=>h.rowD U]
 .rw[uc h.n0,uc h.n1,Z,List.all_eq_true.mpr]
  .rfl
  .intro d hd;erw[Af.mp hd,r,U,rfl];rw[h.rowD U]
   rfl
abbrev Ad7 (d x y:D):Prop:=(∀rs,Q8 d=u_ rs->x= .tup (rs.map L2.rowD)/\y= .non)/\(Q8 d=U_->∃i:Int,y= .int i)
inductive Ow:Sp
 |mk (v:V)(d:D)(_:vs= [v])(_:Is H d v)(_:∀(u:V)(H':Hp)(x y:D),ic H H'->Ad7 d x y->Is H' (-[x,y]) u->Q u H')
def DL {d x:D}{i:Int}(h:Q8 d=U_):Ad7 d x (.int i):=⟨λrs e=>(by rw[h,0] at e),λ_=>[i:1]⟩
def zq {α:Type}{o:om α}(h:o.isSome=v_):∃x,o=u_ x:=by cases o with|none=>rw[h,0]|some x=>exact[x:1]
variable {ds:oj D}
def DI {d:D}(h1:ds[i]? =u_ d)(h2:Qq n d=u_ r):(ds.take (i+1)).filterMap (Qq n)=(ds.take i).filterMap (Qq n)++ [r]:=by
 rw[vi,h1,List.filterMap_append];simp[h2]
def Bu {n:Nat}:∀{ds:oj D},(∀z>ds,(Qq n z).isSome=v_)->↑(ds.filterMap (Qq n))=↑ds
 | [],_=>rfl|z::ds,h=>by
  erw[zq (h z uj),r,e];rw[Ul e,um,um];exact Aa (·+1) (Bu λy U=>h y (uh _ U))
def Eh:#[C,3,a.ZC,a.Z4,["value"],Ow]:=by
 let yW:=#[jR,T];let aa:=#[Eg,T,C];refine T.l7.F.ok YO () (λ_ _ _ _ H vs Q E hr h=>?_)
 erw[h,v,d,rfl,hv,k];rw[3,%[@qI _ _ _ _ _ _ _ _ #[zA,#[Qr,#[Qd,#[qx,#[qZ,2,rfl],T.qU,vg,#v[pv 0,#[yi,.ty "tuple",T.QW,vH]]]]],#[Jm,#[Qr,#[BC,12,DY,DY,qh,#[qx,qB,T.QN,uJ,#v[pv 0]],#[K0,T.m_MOST_LINES],_]]]].pt %[|#[qo,#[qD,#v[#[qD,qd],qh]]]] qr,#[qE,(1),YO.nd,#[QF,qd]],#[y8,#[Kb,pv 0],#[qM,(2),YO.nd],%[#[qE,(3),YO.nd,#[qp,aa,T.sx,#v[pv 2,#[qx,qB,T.QN,uJ,#v[pv 0]]]]],#[qI,#[qm,yD,pv 3,qR],%[|#[qo,#[qD,#v[#[Qa,Qe,T.QW,vH,#v[pv 1]],#[qT,QM,#[qx,qB,T.QN,uJ,#v[pv 1]],qh]]]]],qr]|#[qW,#[YQ,uO,vY,vZ,jK,pv 1,#v[pv 3]]]]]|#[qo,#[qD,#v[#[Qa,Qe,T.QW,vH,#v[pv 1]],#[ye,#[Qd,#[qp,yW,T.lr,#v[pv 0]]],qR,qh]]]]]]
 rw[0,v,"tuple",_,Zr d,1,hv.ty,XA d,0];let Z:Q8 d=U_->∀(t:o3),H t=U_->∀t2,(upd H t (-[])) t2=U_->Q (-t2) (upd (upd H t (-[])) t2 (-[-t,.int 1])):=λhn t g t2 g2=>
  k _ _ (-[]) (.int 1) ((qf g _).trans (qf g2 _)) (DL hn) (Is.new (ds:= [-[],.int 1]) (_,0,Is.new (ds:= []) rfl g,_,0,1,1) g2)
 cases ht:Zr d with
 |false=>
  let hn:Q8 d=none:=by
   cases d with
   |tup ds=>rw[ht,0]|_=>rfl
  exact ky (ky [(sml rfl):λt g1=>[(sml rfl):λt2 g2=>Z hn t g1 t2 g2]])
 |true=>
 obtain⟨ds,rfl⟩:∃ds,d=¬ds:=by
  cases d with
  |tup ds=>exact[ds:1]|_=>rw[ht,0]
 refine iX ?_;let ad:=hv;erw[ad,va,us,rfl,ha,hu];let ae:↑us=↑ds:=↑hu
 rw[0,va,us,1,.inr (SqT.of ha),_,0,1,0];let no:¬(1<=↑ds/\↑ds<=40/\(∀z>ds,(Qq ↑ds z).isSome=v_)/\isT (¬ds)=v_)->Q8 (¬ds)=none:=λhc=>by
  unfold Q8;refine A4 λz=>hc ?_;simp![uF,vo,Ua] at z;exact(z.1.1.1,z.1.1.2,z.1.2,z.2)
 by_cases c1:1<=↑ds
 case neg=>
  refine Qu (ui ()) [0:?_]
  exact ky [(sml rfl):λt g1=>[(sml rfl):λt2 g2=>Z (no λz=>c1 z.1) t g1 t2 g2]]
 refine QK (uc ()) ?_
 rw[_,_,0,1,0];by_cases c2:↑ds<=40
 case neg=>
  refine QK (by rw[ui ()];rfl) ?_
  exact[(sml rfl):λt g1=>[(sml rfl):λt2 g2=>Z (no λz=>c2 z.2.1) t g1 t2 g2]]
 refine Qu (by rw[uc ()];rfl) ?_
 rw[_,(sml rfl),λL1 g1=>?_]
 rw[0,va,1,[us:SqT.of (qf g1 _ _ _ ha)]]
 refine_lift let J1_:Nat->L2.St->Hp->Prop:=λi σ H'=>i<=↑ds/\(∀z>ds.take i,(Qq ↑ds z).isSome=v_)/\∃(ws:oj V) (x2 x3:om V),σ= [u_ (-va),u_ (-L1),x2,x3]/\H' L1=u_ (.lst ws)/\L2.IsL H' (((ds.take i).filterMap (Qq ↑ds)).map L2.rowD) ws/\ic H H';?_
 refine Zs (K:=K) (a:=va) (xs:=us) J1_
  (uS _,(λz hz=>by simp at hz),[],U_,U_,1,qg,1,qf g1 _) (λi σ H' _ ⟨_,_,_,_,_,_,_,_,sm⟩=>SqT.of (sm _ _ ha)) ?_ ?_
 .rintro i x σ H' hx ⟨ak,U,ws,x2,x3,rfl,e1,hw,sm⟩;let ac:i<↑ds:=by
   erw[Ag.mp hx,h,_];omega
  erw[hu.get (i:=i) (d:=ds[i]) (ug ac),x',af,al];rw[hx,0] at af;let am:↑ws=i:=by
   rw[↑hw,u9,Bu U,uM];omega
  rw[5]
  refine(0,0,va,us,1,.inr (SqT.of (sm _ _ ha)),x,ds[i],↑ds,by rw[ae];rfl,al.mono sm.tk,c2,λv H2 s2 hv=>?_)
  let e2:=s2 _ _ e1;cases er:Qq ↑ds ds[i] with
  |some r=>
   rw[er] at hv;let hv:Is H2 (L2.rowD r) v:=hv;let ad:=hv;erw[ad,ag,ao,rfl,_,_]
   rw[0,1,0];refine Qu (ui λz=>by rw[z,0]) ?_
   rw[0,.inl [1:_:SqL.of e2],0,L1,ws,0,1,e2,X2 ()]
   let t3:Tk H2 (upd H2 L1 (.lst (ws++ [-ag]))):=Tk.updL e2
   rw[_,ac,λz hz=>?_,ws++ [-ag],_,0,qg,?_,λb o e=>?_]
   .rw[vi,ug ac] at hz;rcases Ae.mp hz with hz|hz
    .exact U z hz
    .have:z=ds[i]:=by simpa using hz
     rw[this,er]
     rfl
   .rw[DI (ug ac) er,uA];exact((hw.mono s2.tk).mono t3).append (IsL.one (hv.mono t3))
   .rw[qi (qk e g1)];exact s2 b o (sm b o e)
  |none=>
   rw[er] at hv;rw[show v= .non from hv,0]
   rw[0,1,0];refine QK rfl ?_
   rw[0,L1,ws,1,.inl [SqL.of e2:λt1 g2=>?_]];let s3:ic H2 (upd H2 t1 (¬ws)):=qf g2 _;let i3:Is (upd H2 t1 (¬ws)) (.tup (((ds.take i).filterMap (Qq ↑ds)).map L2.rowD)) (-t1):=Is.new (hw.mono s2.tk) g2
   rw[0,L1,ws,1,.inl (SqL.of (s3 _ _ e2)),_,0,1,(sml rfl),λt4 g4=>?_];exact k _ _ _ (.int _) (sm.trans (s2.trans (s3.trans (qf g4 _)))) (DL (no λz=>by have:=z.2.2.1 _ (uU ac);rw[er,0] at this)) (Is.new (ds:= [.tup (((ds.take i).filterMap (Qq ↑ds)).map L2.rowD),.int _]) (_,0,i3,_,0,1,1) g4)
 .rintro σ H' ⟨ak,U,ws,x2,x3,rfl,e1,hw,sm⟩;rw[ae,U1] at hw U
  rw[0,L1,ws,1,.inl [SqL.of e1:λt1 g2=>?_]];let s2:ic H' (upd H' t1 (¬ws)):=qf g2 _;let i2:Is (upd H' t1 (¬ws)) (.tup ((ds.filterMap (Qq ↑ds)).map L2.rowD)) (-t1):=Is.new hw g2;generalize upd H' t1 (¬ws)=H2 at s2 i2⊢
  rw[0,_,¬ds,1,hv.mono (sm.trans s2).tk,λH3 s3=>?_]
  rw[0];cases hT:isT (¬ds) with
  |true=>
   refine QK rfl [(sml rfl):λt4 g4=>?_];let ah:Q8 (¬ds)=u_ (ds.filterMap (Qq ↑ds)):=by
    rw[X9,A6];rw[uc c1,uc c2,hT,List.all_eq_true.mpr U]
    rfl
   exact k _ _ _ .non (sm.trans (s2.trans (s3.trans (qf g4 _)))) ⟨λrs e=>(by rw[ah,0] at e;exact[1:1]),λe=>(by rw[ah,0] at e)⟩ (Is.new (ds:= [.tup ((ds.filterMap (Qq ↑ds)).map L2.rowD),.non]) (_,0,i2.mono s3.tk,_,0,1,1) g4)
  |false=>
   refine Qu rfl [(sml rfl):λt4 g4=>?_];exact k _ _ _ (.int 1) (sm.trans (s2.trans (s3.trans (qf g4 _)))) (DL (no λz=>by have:=z.2.2.2;rw[hT,0] at this)) (Is.new (ds:= [.tup ((ds.filterMap (Qq ↑ds)).map L2.rowD),.int 1]) (_,0,i2.mono s3.tk,_,0,1,1) g4)
inductive Ou (br:Addr)(vs:List V)(H:Hp)(Q:VK)(E:XK):Prop
 |mk (v:V)(d:D)(_:vs= [v])(_:Is H d v)(_:(∀rs,Q8 d=u_ rs->∀(u:V)(H':Hp),ic H H'->Is H' (.tup (rs.map L2.rowD)) u->Q u H'))(_:(Q8 d=U_->∀(e:Addr)(H':Hp),ic H H'->E (-e) (u_ br) H'))
def Pw (T:Tx K mg a)(C:Fx K w mg g a):FnOk P w K mg base (CX1 P w) 4 a.WX a.Ws ["tree"] (Ou g.br):=by
 let JR:=#[Eh,T,C];refine T.lK.F.okX ZF () (λ_ _ _ _ H _ Q E hr h=>?_)
 erw[h,v,d,rfl,hv,k,kB];rw[3,%[#[qE,(1),ZF.nd,#[qp,JR,T.l7,#v[pv 0]]],#[qI,#[qm,jw,#[qG,qC,pv 1,qh],qR],%[|#[KM,22,C.x_BadRule,_,C.m_BadRule,ql,_,_]],qr]|#[qo,#[qG,qC,pv 1,qh]]]]
 rw[0,v,d,1,hv,λu H1 x y s1 hd Z=>?_]
 rw[0]
 try dsimp![tC]
 refine Xp (i:=1) (d:=y) Z rfl λz hz=>?_;cases U:Q8 d with
 |none=>
  erw[hd.2 U,i,rfl];rw[show z= .int i from hz,0]
  rw[1,0];refine QK (by rw[ui (λz=>by rw[z,0])];rfl) ?_
  exact[1:λe=>kB U e H1 s1]
 |some rs=>
  erw[hd.1 rs U,rfl,rfl];rw[show z= .non from hz,0]
  rw[1,0];refine Qu rfl ?_
  rw[0]
  try dsimp![tC]
  refine Xp (i:=0) (d:= .tup (rs.map L2.rowD)) Z rfl λq hq=>?_;exact k rs U q H1 s1 hq
abbrev kvB (f:Str->V):oj (Key×V):=BX.map λz=>(Vf z,f z)
def Aas {f:Str->V}:∀{zs:oj Str}{z:Str},z>zs->iT (zs.map λz=>((Vf z:Key),f z)) (Vf z)=u_ (f z)
 |y::ys,z,h=>by
  rw[uC];by_cases e:y=z
  .subst e;exact QV rfl
  .let h':z>ys:=by
    rcases Ab.mp h with rfl|h
    .exact A8 rfl e
    .exact h
   have:=Aas (f:=f) h';unfold iT at this⊢;rw[vd];let e2:decide ((Vf y:Key)=Vf z)=false:=ui λq=>e (UB q);simp![e2];exact this
def Ac4 {f:Str->V}{u:V}(h:z>BX):lV (kvB f) (Vf z) u=kvB λy=>if y=z then u else f y:=by
 unfold lV;rw[A6]
 .unfold kvB;rw[uP];refine Ur λy _=>?_;by_cases e:y=z
  .simp[e]
  .simp[e]
 .rw[Te];exact⟨(Vf z,f z),Af.mpr [z:h:1],by simp⟩
abbrev YR (H:Hp)(d:o3)(B:Str->D):Prop:=∃f:Str->V,H d=u_ (.dK (kvB f))/\∀z>BX,Is H (B z) (f z)
abbrev Bp (B:Str->D)(z:Str)(e:D):Str->D:=λy=>if y=z then e else B y
variable {H H':Hp}
def YR.same {d:o3}{B:Str->D}(h:YR H d B)(s:ic H H'):YR H' d B:=let⟨f,e,i⟩:=h;[f:s _ _ e:λz hz=>(i z hz).mono s.tk]
def YR.move {d:o3}{B:Str->D}(h:YR H d B)(t:Tk H H')(e:H' d=H d):YR H' d B:=let⟨f,e1,i⟩:=h;[f:e.trans e1:λz hz=>(i z hz).mono t]
def YR.get {d:o3}{B:Str->D}(h:YR H d B)(hz:z>BX):∃v,mP H d (!z) (u_ v)/\Is H (B z) v:=by
 erw[h,f,e,i];rw[_,f z,?_,i z hz];have:=mP.k (k:=(Vf z:Key)) e;rw[show iT (kvB f) (Vf z)=u_ (f z) from Aas hz] at this
 exact this
variable {e:D}
def YR.put {d:o3}{B:Str->D}{u:V}(h:YR H d B)(hz:z>BX)(U:Is H e u):∃kvs,C6 H d (!z) u (upd H d (.dK kvs))/\YR (upd H d (.dK kvs)) d (Bp B z e)/\Tk H (upd H d (.dK kvs)):=by
 erw[h,f,ed,i];refine(kvB λy=>if y=z then u else f y,.inl (_,Vf z,ed,1,by show ↑BX<Vh;rw[uD];decide,by rw[Ac4 hz]),[_:qg:λy Z=>?_],Tk.updD ed)
 let t:Tk H (upd H d (.dK (kvB λy=>if y=z then u else f y))):=Tk.updD ed
 unfold Bp;by_cases c:y=z
 .rw[A6 c,A6 c];exact U.mono t
 .rw[A4 c,A4 c];exact(i y Z).mono t
abbrev xL:oj D->Bool
 | []=>v_| .str _::r=>xL r|_=>Vd
abbrev xZ:oj D->oj Str
 | .str z::r=>z::xZ r|_=> []
abbrev b0 (ps:oj Pt):Str:=(ps.getD 0 (.s "")).t
abbrev b1 (ps:oj Pt):Str:=(ps.getD 1 (.s "")).t
abbrev b2 (ps:oj Pt):Str:=(ps.getD 2 (.s "")).t
abbrev Ia:D->D
 | .str z=>if ↑z=0 then .non else .str ⟨#[z.cps.getD 0 0]⟩| .tup (x::_)=>x|_=> .non
abbrev O1:D->D
 | .str z=>if ↑z=0 then .non else .str (Hy z (u_ 1) U_)| .tup (_::r)=>¬r|_=> .non
abbrev AbB:D->Nat
 | .str z=>↑z| .tup xs=>↑xs|_=>0
abbrev AdW:D->D->D
 | .tup xs,e=> .tup (xs++ [e])|_,_=> .non
abbrev AbN:D->D->D
 | .str x,.str y=> .str (x++y)|_,_=> .non
abbrev Ad4:D->D->D
 | .str z,.str y=>if ↑y=0 then .non else .tup ((spG z y).map .str)|_,_=> .non
abbrev AbP:D->D->D
 | .tup xs,.str y=>if xL xs=v_ then .str (Vl y (xZ xs)) else .non|_,_=> .non
abbrev made (w:Str)(B:Str->D)(own:Str)(ps:oj Pt):D:=
 if w="text" then .str (b1 ps) else if w="self" then .str own else if w="copy" then B (b1 ps) else if w="row" then .tup [] else
 if w="put" then AdW (B (b0 ps)) (B (b1 ps)) else if w="join" then AbN (B (b0 ps)) (B (b1 ps)) else if w="first" then Ia (B (b1 ps)) else if w="rest" then O1 (B (b1 ps)) else
 if w="size" then .str (Vm ((AbB (B (b1 ps)):Nat):Int)) else if w="cut" then Ad4 (B (b1 ps)) (B (b2 ps)) else AbP (B (b1 ps)) (B (b2 ps))
variable {ps:oj Pt}
def Q2 {m:Nat}{w:Str}(h:JA n m (w,ps))(U:(w,ks)>FRM):Xe n m ks ps:=by
 erw[h,Z,h1,h2];have:=E7 _ h1 _ U rfl;rw[this,0];exact h2
def AcX {m:Nat}(h:Xe n m [.box] ps):∃x,ps= [.s x]/\x>BX:=by
 match ps,h with
 | [.s x],h=>exact[x:1:h.1]| [.n _],h=>exact h.1.elim
def WM {m:Nat}(h:Xe n m [.box,.box] ps):∃x y,ps= [.s x,.s y]/\x>BX/\y>BX:=by
 match ps,h with
 | [.s x,.s y],h=>exact(x,y,1,h.1,h.2.1)| [.n _,_],h=>exact h.1.elim| [.s _,.n _],h=>exact h.2.1.elim
def M5 {m:Nat}(h:Xe n m [.box,.box,.box] ps):∃x y z,ps= [.s x,.s y,.s z]/\x>BX/\y>BX/\z>BX:=by
 match ps,h with
 | [.s x,.s y,.s z],h=>exact(x,y,z,1,h.1,h.2.1,h.2.2.1)| [.n _,_,_],h=>exact h.1.elim| [.s _,.n _,_],h=>exact h.2.1.elim| [.s _,.s _,.n _],h=>exact h.2.2.1.elim
def AcW {m:Nat}(h:Xe n m [.box,.words] ps):∃x y,ps= [.s x,.s y]/\x>BX/\↑y<=m/\y.cps.toList.all QE=true:=by
 match ps,h with
 | [.s x,.s y],h=>exact(x,y,1,h.1,h.2.1)| [.n _,_],h=>exact h.1.elim| [.s _,.n _],h=>exact h.2.1.elim
def AaZ {m:Nat}(h:Xe n m [.box,.line] ps):∃x,∃i:Int,ps= [.s x,.n i]/\x>BX/\1<=i/\i<=n:=by
 match ps,h with
 | [.s x,.n i],h=>exact(x,i,1,h.1,h.2.1)| [.n _,_],h=>exact h.1.elim| [.s _,.s _],h=>exact h.2.1.elim
def Aa0 {m:Nat}(h:Xe n m [.box,.box,.line] ps):∃x y,∃i:Int,ps= [.s x,.s y,.n i]/\x>BX/\y>BX/\1<=i/\i<=n:=by
 match ps,h with
 | [.s x,.s y,.n i],h=>exact(x,y,i,1,h.1,h.2.1,h.2.2.1)| [.n _,_,_],h=>exact h.1.elim| [.s _,.n _,_],h=>exact h.2.1.elim| [.s _,.s _,.s _],h=>exact h.2.2.1.elim
abbrev IO (H:Hp)(t:o3)(ps:oj Pt):Prop:=Is H (.tup (ps.map Pt.d)) (-t)
abbrev Tr (B:Str->D):Prop:=∀z>BX,isT (B z)=v_
inductive XW (w:Str):Sp
 |mk (d t:Addr)(own:Str)(B:Str->D)(ps:List Pt)(n:Nat)(_:vs= [-d,!own,-t])(_:YR H d B)(_:Tr B)(_:↑own<=100)(_:JA n 300 (w,ps))(_:IO H t ps)(_:∀(v:V)(H':Hp),ic H H'->Is H' (made w B own ps) v->Q v H')
variable {Q:VK}
def IG {K:o0}{t:o3}(h:IO H t ps)(e:ps[i]? =u_ (.s z))(q:Q (!z) H):O5 K (-t) (.int (i:Int)) H Q:=
 Xp (d:= !z) h (qF (by rw[uK,e];rfl)) λx U=>by erw[U,rfl,_,<-q]
def xR {d:D}(h:isT d=v_):dp d<=12:=by
 unfold isT at h;rw[uF] at h;exact ur h.2
def ND {d:D}(h:isT d=v_):sz d<=600:=by
 unfold isT at h;rw[uF,uF] at h;exact ur h.1.2
def Y3 {d:D}(h:isT d=v_):AbB d<=600:=by
 let h1:=ND h;cases d with
 |str z=>simp![sz] at h1;show ↑z<=600;omega|tup xs=>
  unfold isT at h;rw[uF,uF] at h;let h2:=h.1.1;simp![iZ,uF] at h2;have:=ur h2.1;show ↑xs<=600;omega
 |_=>exact uS _
def IJ (z y:Str):↑(z++y:Str)=↑z+↑y:=by
 show(z.cps++y.cps).size=z.cps.size+y.cps.size;exact Td
def nI {K:o0}{t d:o3}{B:Str->D}(U:YR H d B)(h:IO H t ps)(e:ps[i]? =u_ (.s z))(hz:z>BX)(q:∀v,Is H (B z) v->Q v H):O5 K (-t) (.int (i:Int)) H (λy H2=>NX Q (-d) y H2):=by
 erw[U.get hz,v,Z,iv,<-IG h e (d,v,1,Z,q v iv)]
def Ps:#[T,1,a.Xk,a.wA,["boxes","own","parts"],(XW "text")]:=by
 rw[9,T.lH,nS]
 erw[h,d,t,own,B,ps,n,rfl,hB,hT,ho,U,Z,k];rw[3,%[|#[qo,#[qG,qC,pv 2,qh]]]]
 erw[AcW (Q2 U ()),x,y,rfl,hx,hy,hs]
 exact⟨0,IG (i:=1) Z rfl (k _ H (ic.refl _) ⟨1,yS (by show ↑y<=1000;omega)⟩)⟩
def Pv:#[T,1,a.XC,a.wE,["boxes","own","parts"],(XW "self")]:=by
 rw[9,T.lJ,nU,Z]
 erw[h,d,t,own,B,ps,n,rfl,hB,hT,ho,U,hp,k];rw[3,%[|#[qo,pv 1]]]
 exact⟨0,k _ H (ic.refl _) ⟨1,yS (by show ↑own<=1000;omega)⟩⟩
def Abq:#[T,1,a.Zo,a.Kn,["boxes","own","parts"],(XW "row")]:=by
 rw[9,T.lZ,An]
 erw[h,d,t,own,B,ps,n,rfl,hB,hT,ho,Z,hp,k];rw[3,%[|#[qo,#[qD,qd]]]]
 exact[(sml rfl):λl U=>k _ _ (qf U _) (Is.new (ds:= []) rfl U)]
def PU:#[T,1,a.XO,a.Wx,["boxes","own","parts"],(XW "copy")]:=by
 rw[9,T.lS,nY,Z]
 erw[h,d,t,own,B,ps,n,rfl,hB,hT,ho,U,hp,k];rw[3,%[|#[qo,#[QC,6,QO Z,pv 0,#[qG,qC,pv 2,qh],(λ_ _=>rfl)]]]]
 erw[WM (Q2 U ()),x,y,rfl,hx,hy]
 rw[0,0];exact nI (i:=1) hB hp rfl hy λv iv=>k _ H (ic.refl _) iv
def Abr:#[T,1,a.zN,a.Km,["boxes","own","parts"],(XW "put")]:=by
 rw[9,T.l8,wG]
 erw[h,d,t,own,B,ps,n,rfl,hB,hT,ho,aa,U,k];rw[3,%[#[qE,(3),wG.nd,#[QC,pv 0,#[qG,qC,pv 2,qh]]],#[qI,#[Qr,#[Qd,#[qx,#[qZ,2,rfl],T.qU,vg,#v[pv 3,#[yi,.ty "tuple",T.QW,vH]]]]],%[|#[qo,qR]],qr]|#[qo,#[qT,YE,pv 3,#[qD,#v[#[QC,pv 0,#[qG,qC,pv 2,qh]]]]]]]]
 erw[WM (Q2 aa ()),x,y,rfl,hx,hy]
 rw[0,0];refine nI (i:=0) hB U rfl hx λv iv=>?_
 rw[0,v,"tuple",tyD (B x),Zr (B x),1,iv.ty,XA _,0];let Z:=Y3 (hT x hx);let k':∀(v:V) (H':Hp),ic H H'->Is H' (AdW (B x) (B y)) v->Q v H':=k;generalize B x=dx at iv k' Z⊢;cases dx with
 |tup xs=>
  refine iX ?_;erw[iv,r,rs,rfl,er,ir]
  rw[0,0,0];refine nI (i:=1) hB U rfl hy λu iu=>?_
  rw[_,(sml rfl),λl hl=>(r,l,rs,[u],1,1,SqT.of (qf hl _ _ _ er),SqT.of qg,?_,λe=>?_,λ_ e=>(by rw[e,0]),λ_ _ p U=>?_)]
  .rw[↑ir];have:↑xs<=600:=Z;exact yS (by show ↑xs+1<=1000;omega)
  .subst e;let e2:xs= []:=vK ir.length.symm;subst e2;exact k' _ _ (qf hl _) (Is.new (ds:= [B y]) (IsL.one iu) hl)
  .let t1:Tk H (upd H l (-[u])):=(qf hl _).tk;exact k' _ _ ((qf hl _).trans (qf U _)) (Is.new (ds:=xs++ [B y]) ((ir.mono t1).append (IsL.one (iu.mono t1))) U)
 |_=>exact ky (k' _ H (ic.refl _) rfl)
def PL:#[T,1,a.XR,a.WN,["boxes","own","parts"],(XW "join")]:=by
 rw[9,T.lO,JC]
 erw[h,d,t,own,B,ps,n,rfl,hB,hT,ho,aa,hp,k];rw[3,%[#[qE,(3),JC.nd,#[QC,pv 0,#[qG,qC,pv 2,qh]]],#[qE,(4),JC.nd,#[QC,pv 0,#[qG,qC,pv 2,qh]]],@qI _ _ _ _ _ _ _ _ #[zA,#[Qr,#[Qd,#[qx,#[qZ,2,rfl],T.qU,vg,#v[pv 3,#[yi,.ty "str",T.wb,V2]]]]],#[Jm,#[Qr,#[Qd,#[qx,#[qZ,2,rfl],T.qU,vg,#v[pv 4,#[yi,.ty "str",T.wb,V2]]]]]]].pt %[|#[qo,qR]] qr|#[qo,#[qT,Qv,pv 3,pv 4]]]]
 erw[WM (Q2 aa ()),x,y,rfl,hx,hy]
 rw[0,0];refine nI (i:=0) hB hp rfl hx λv iv=>?_
 rw[0,0];refine nI (i:=1) hB hp rfl hy λu iu=>?_;let lx:=Y3 (hT x hx);let ly:=Y3 (hT y hy);let U:∀(v:V) (H':Hp),ic H H'->Is H' (AbN (B x) (B y)) v->Q v H':=k;generalize B x=dx at iv U lx⊢;generalize B y=Z at iu U ly⊢
 rw[0,v,"str",tyD dx,isStr dx,1,iv.ty,jY _,0];cases dx with
 |str z=>
  refine iX (0,u,"str",tyD Z,isStr Z,1,iu.ty,jY _,0,?_);cases Z with
  |str z2=>
   refine iX ?_;erw[iv,rfl,_];erw[iu,rfl,_];let h1:↑z<=600:=lx;let h2:↑z2<=600:=ly;exact(0,0,_,0,1,nj (),U _ H (ic.refl _) ⟨1,by rw[show(z++z2).length=↑z+↑z2 from IJ z z2];exact nj ()⟩)
  |_=>exact ky (U _ H (ic.refl _) rfl)
 |_=>exact ky (U _ H (ic.refl _) (by cases Z<;>rfl))
def LY:#[T,1,a.JZ,a.ZP,["boxes","own","parts"],(XW "first")]:=by
 rw[9,T.lp,X0]
 erw[h,d,t,own,B,ps,n,rfl,hB,hT,ho,aa,hp,k];rw[3,%[#[qE,(3),X0.nd,#[QC,pv 0,#[qG,qC,pv 2,qh]]]|#[qo,#[ye,#[qm,qaJ,#[qx,JX,T.QN,uJ,#v[pv 3]],qh],#[qG,zg,pv 3,qh],qR]]]]
 erw[WM (Q2 aa ()),x,y,rfl,hx,hy]
 rw[0,0];refine nI (i:=1) hB hp rfl hy λv Z=>?_;let ly:=Y3 (hT y hy);let hg:=hT y hy;let U:∀(v:V) (H':Hp),ic H H'->Is H' (Ia (B y)) v->Q v H':=k;generalize B y=dy at Z U ly hg⊢;cases dy with
 |str z=>
  erw[Z,rfl,hz]
  rw[0,.inl (z,1,hz,_,0,1,0,?_)];refine iY (λc=>?_) (λc=>?_)
  .let h0:1<=↑z:=by have:=ur c;omega
   let k2:Is H (Ia (!z)) (.str ⟨#[z.cps.getD 0 0]⟩):=by
    show Is H (if ↑z=0 then D.non else _) _
    rw[A4 ()]
    exact⟨1,yS (by show 1<=1000;decide)⟩
   exact[0:.inr (.inr (z,(0),0,1,hz,Ca h0,U _ H (ic.refl _) k2))]
  .let h0:↑z=0:=by
    rcases rh ↑z with e|e
    .exact e
    .exact A8 (uc ()) c
   exact U _ H (ic.refl _) (by show Is H (if ↑z=0 then D.non else _) _;rw[A6 h0];rfl)
 |tup xs=>
  let ac:=Z;erw[ac,r,rs,rfl,er,ir]
  rw[0,.inr (r,rs,1,.inr (SqT.of er),λ_=>(_,0,1,0,?_))];let hl:=↑ir;cases xs with
  |nil=>exact Qu (ui (by rw[hl];decide)) (U _ H (ic.refl _) rfl)|cons e es=>
   refine QK (uc (by rw[hl,um];omega)) ?_
   exact[0:.inr (.inl (Xp (i:=0) (d:=e) Z (qF (j:=0) rfl) λq hq=>U _ H (ic.refl _) hq))]
 |_=>simp[isT,iZ] at hg
def ku:∀xs:oj D,xL xs=xs.all isStr
 | []=>rfl| .str _::r=>by show xL r=_;rw[ku r];rfl| .non::_| .bl _::_| .int _::_| .lst::_| .dct::_| .tup _::_=>rfl
def Bl:∀{xs:oj D},xL xs=v_->xs=(xZ xs).map D.str
 | [],_=>rfl| .str z::r,h=>by
  show D.str z::r=D.str z::(xZ r).map D.str;rw[<-Bl (show xL r=v_ from h)]
def IsL.strs {H:Hp}:∀{l:oj Str}{vs:oj V},L2.IsL H (l.map D.str) vs->vs=l.map V.str
 | [],_,h=>h|_::_,_,h=>by
  erw[h,v,r,rfl,h1,h2];rw[IsL.strs h2,h1.1];rfl
def IsL.ofStrs {H:Hp}:∀{l:oj Str},(∀z>l,↑z<=Vh)->L2.IsL H (l.map D.str) (l.map V.str)
 | [],_=>rfl|z::l,h=>(_,0,[1:h z uj],IsL.ofStrs λy U=>h y (uh _ U))
def Bk:∀(l:oj Str),(l.map (·.length)).sum+↑l=szL (l.map D.str)
 | []=>rfl|z::l=>by
  have:=Bk l;simp![uC,UN,um,szL,sz];omega
def EI (sep:Str):∀(l:oj Str),↑(Vl sep l)<=(l.map (·.length)).sum+↑l*↑sep
 | []=>uS _| [x]=>by simp[Vl]|x::y::r=>by
  let U:=EI sep (y::r);let e:↑(Vl sep (x::y::r))=↑x+↑sep+↑(Vl sep (y::r)):=by
   show((x.cps++sep.cps)++(Vl sep (y::r)).cps).size=_;rw[Td,Td]
   rfl
  rw[e,uC,UN,um,Nat.succ_mul];omega
def Py:#[T,1,a.Xj,a.wC,["boxes","own","parts"],(XW "rest")]:=by
 rw[9,T.lL,ZU]
 erw[h,d,t,own,B,ps,n,rfl,hB,hT,ho,aa,Z,k];rw[3,%[#[qE,(3),ZU.nd,#[QC,pv 0,#[qG,qC,pv 2,qh]]]|#[qo,#[ye,#[qm,qaJ,#[qx,JX,T.QN,uJ,#v[pv 3]],qh],#[QZ,AaY,pv 3,#[ya,qh],yy],qR]]]]
 erw[WM (Q2 aa ()),x,y,rfl,hx,hy]
 rw[0,0];refine nI (i:=1) hB Z rfl hy λv iv=>?_;let ly:=Y3 (hT y hy);let hg:=hT y hy;let U:∀(v:V) (H':Hp),ic H H'->Is H' (O1 (B y)) v->Q v H':=k;generalize B y=dy at iv U ly hg⊢;cases dy with
 |str z=>
  erw[iv,rfl,hz]
  rw[0,.inl (z,1,hz,_,0,1,0,?_)];refine iY (λc=>?_) (λc=>?_)
  .let h0:1<=↑z:=by have:=ur c;omega
   let k2:Is H (O1 (!z)) (.str (Hy z (u_ 1) U_)):=by
    show Is H (if ↑z=0 then D.non else _) _
    rw[A4 ()]
    exact[1:vb (rM z _ _) hz]
   exact[0:0:.inl (z,1,hz,U _ H (ic.refl _) k2)]
  .let h0:↑z=0:=by
    rcases rh ↑z with e|e
    .exact e
    .exact A8 (uc ()) c
   exact U _ H (ic.refl _) (by show Is H (if ↑z=0 then D.non else _) _;rw[A6 h0];rfl)
 |tup xs=>
  let ac:=iv;erw[ac,r,rs,rfl,er,ir]
  rw[0,.inr (r,rs,1,.inr (SqT.of er),λ_=>(_,0,1,0,?_))];let hl:=↑ir;cases xs with
  |nil=>exact Qu (ui (by rw[hl];decide)) (U _ H (ic.refl _) rfl)|cons e es=>
   refine QK (uc (by rw[hl,um];omega)) ?_
   erw[ir,v0,r0,rfl,i0,i1]
   rw[0,0,.inr (r,v0::r0,1,SqT.of er,λh=>?_,λ_ p Z=>?_)]
   .exfalso;have:=h.1;simp[HT.sIx] at this
   .let e1:wr (v0::r0) (u_ 1) U_=r0:=by
     rw[show(u_ (1:Int))=u_ (((1:Nat)):Int) from rfl,X6 (by simp)]
     rfl
    rw[e1];exact U _ _ (qf Z _) (Is.new i1 Z)
 |_=>simp[isT,iZ] at hg
def Pu:#[T,1,a.XG,a.w9,["boxes","own","parts"],(XW "size")]:=by
 rw[9,T.lI,nT]
 erw[h,d,t,own,B,ps,n,rfl,hB,hT,ho,U,hp,k];rw[3,%[|#[qo,#[Qa,JF,T.wb,V2,#v[#[qx,JX,T.QN,uJ,#v[#[QC,pv 0,#[qG,qC,pv 2,qh]]]]]]]]]
 erw[WM (Q2 U ()),x,y,rfl,hx,Z]
 rw[0,0];refine nI (i:=1) hB hp rfl Z λv iv=>?_;let ly:=Y3 (hT y Z);let hg:=hT y Z;let k':∀(v:V) (H':Hp),ic H H'->Is H' (.str (Vm ((AbB (B y):Nat):Int))) v->Q v H':=k;generalize B y=dy at iv k' ly hg⊢;let sm:∀n:Nat,n<=600->((n:Int)).natAbs.log2<1920/\↑((Vm (n:Int):Str))<=sizeLine:=by
  intro n hn;let h2:=TN ((n:Int)).natAbs;exact[():int_text_fits ()]
 cases dy with
 |str z=>
  erw[iv,rfl,hz];let h2:=sm ↑z ly;exact .inl (z,1,hz,0,h2.1,k' _ H (ic.refl _) [1:h2.2])
 |tup xs=>
  let aa:=iv;erw[aa,r,rs,rfl,er,ir];let h2:=sm ↑xs ly;refine .inr (r,rs,1,.inr (SqT.of er),λ_=>[0:?_:?_])
  .rw[↑ir];exact h2.1
  .rw[↑ir];exact k' _ H (ic.refl _) [1:h2.2]
 |_=>simp[isT,iZ] at hg
def Abv:#[T,1,a.Ze,a.ke,["boxes","own","parts"],(XW "cut")]:=by
 rw[9,T.me,Xl]
 erw[h,d,t,own,B,ps,n,rfl,hB,hT,ho,aa,hp,k];rw[3,%[#[qE,(3),Xl.nd,#[QC,pv 0,#[qG,qC,pv 2,qh]]],#[qE,(4),Xl.nd,#[QC,pv 0,#[qG,qC,pv 2,qh]]],@qI _ _ _ _ _ _ _ _ #[zA,#[Qr,#[Qd,#[qx,#[qZ,2,rfl],T.qU,vg,#v[pv 3,#[yi,.ty "str",T.wb,V2]]]]],#[zA,#[Qr,#[Qd,#[qx,#[qZ,2,rfl],T.qU,vg,#v[pv 4,#[yi,.ty "str",T.wb,V2]]]]],#[Jm,#[qm,Qg,pv 4,ql]]]].pt %[|#[qo,qR]] qr|#[qo,#[Qa,Qe,T.QW,vH,#v[#[YQ,vc,Uu,Uv,Ex,pv 3,#v[pv 4]]]]]]]
 erw[M5 (Q2 aa ()),x0,x,y,rfl,ac,hx,hy]
 rw[0,0];refine nI (i:=1) hB hp rfl hx λv iv=>?_
 rw[0,0];refine nI (i:=2) hB hp rfl hy λu iu=>?_;let lx:=Y3 (hT x hx);let ly:=Y3 (hT y hy);let Z:∀(v:V) (H':Hp),ic H H'->Is H' (Ad4 (B x) (B y)) v->Q v H':=k;generalize B x=dx at iv Z lx⊢;generalize B y=dy at iu Z ly⊢
 rw[0,v,"str",tyD dx,isStr dx,1,iv.ty,jY _,0];cases dx with
 |str z=>
  refine iX (0,u,"str",tyD dy,isStr dy,1,iu.ty,jY _,0,?_);cases dy with
  |str U=>
   refine iX ?_;erw[iv,rfl,_];erw[iu,rfl,_];let h1:↑z<=600:=lx;let h2:↑U<=600:=ly
   rw[0,1,0];refine iY (λc=>?_) (λc=>?_)
   .let e:U="":=by have:=ur c;injection this
    subst e;exact Z _ H (ic.refl _) rfl
   .let h3:↑U≠0:=λh=>c (uc (by
     have:U="":=by
      have h4:U.cps= #[]:=Array.eq_empty_of_size_eq_zero h;rw[U,0];simp only at h4;subst h4
      decide+kernel
     rw[this]))
    rw[0,1,0,z,U,1,1,(),(),λp hp=>[p:0:.inl [SqL.of qg:λl hl=>?_]]]
    let s1:ic H (upd H p (.lst ((spG z U).map V.str))):=qf hp _;refine Z _ _ (s1.trans (qf hl _)) ?_;show Is _ (if ↑U=0 then D.non else .tup ((spG z U).map D.str)) _
    rw[A4 h3];exact Is.new (IsL.ofStrs λq hq=>yS (by have:=OS hq;omega)) hl
  |_=>exact ky (Z _ H (ic.refl _) rfl)
 |_=>exact ky (Z _ H (ic.refl _) (by cases dy<;>rfl))
def PP:#[T,1,a.Xq,a.wZ,["boxes","own","parts"],(XW "glue")]:=by
 rw[9,T.lR,J6]
 erw[h,d,t,own,B,ps,n,rfl,hB,hT,ho,ae,hp,k];rw[3,%[#[qE,(3),J6.nd,#[QC,pv 0,#[qG,qC,pv 2,qh]]],#[qE,(4),J6.nd,#[QC,pv 0,#[qG,qC,pv 2,qh]]],@qI _ _ _ _ _ _ _ _ #[zA,#[Qr,#[Qd,#[qx,#[qZ,2,rfl],T.qU,vg,#v[pv 3,#[yi,.ty "tuple",T.QW,vH]]]]],#[Jm,#[Qr,#[Qd,#[qx,#[qZ,2,rfl],T.qU,vg,#v[pv 4,#[yi,.ty "str",T.wb,V2]]]]]]].pt %[|#[qo,qR]] qr,#[qI,#[Qr,#[Qd,#[qx,#[zi,1,rfl],T.z_all,HW,#v[#[XI,["part"],[],IR,#[Zi,pv 3],(λ_ _ _ _ _ _=>#[qM,(0),(show Vr (["part"]:oj Str) by decide+kernel)]),(λ_ _ _ _ _ _=>#[qx,#[qZ,2,rfl],T.qU,vg,#v[pv 0,#[yi,.ty "str",T.wb,V2]]])]]]]],%[|#[qo,qR]],qr]|#[qo,#[YQ,vc,Uh,Ui,Mf,pv 4,#v[pv 3]]]]]
 erw[M5 (Q2 ae ()),x0,x,y,rfl,ah,hx,hy]
 rw[0,0];refine nI (i:=1) hB hp rfl hx λv iv=>?_
 rw[0,0];refine nI (i:=2) hB hp rfl hy λu iu=>?_;let lx:=Y3 (hT x hx);let hg:=hT x hx;let ly:=Y3 (hT y hy);let Z:∀(v:V) (H':Hp),ic H H'->Is H' (AbP (B x) (B y)) v->Q v H':=k;generalize B x=dx at iv Z lx hg⊢;generalize B y=dy at iu Z ly⊢
 rw[0,v,"tuple",tyD dx,Zr dx,1,iv.ty,XA _,0];cases dx with
 |tup xs=>
  refine iX (0,u,"str",tyD dy,isStr dy,1,iu.ty,jY _,0,?_);cases dy with
  |str z2=>
   refine iX ?_;erw[iv,r,rs,rfl,er,ir];erw[iu,rfl,_];let h1:↑xs<=600:=lx;let h2:↑z2<=600:=ly
   rw[0,r,rs,1,SqT.of er,λak A0 af=>?_];refine AH (tl:= []) (λd=> .bl (isStr d)) er ir (nj ()) af (λd0 x0 H3 R al s3 i3 q=>(0,x0,"str",tyD d0,isStr d0,1,i3.ty,jY _,q _ H3 (ic.refl _) rfl)) λH1 ys s1 l1 i1=>?_
   let ey:ys=(xs.map isStr).map V.bl:=IsL.bls (by rwa[uP])
   subst ey
   rw[_,A0,xs.map isStr,1,SqL.of l1,0];let aa:(xs.map isStr).all id=xL xs:=by rw[ku,UV];rfl
   rw[aa];cases U:xL xs with
   |false=>exact ky (Z _ H1 s1 (by show Is H1 (if xL xs=v_ then _ else D.non) _;rw[U];rfl))|true=>
    let ac:=Bl U;let ag:rs=(xZ xs).map V.str:=IsL.strs (by rwa[<-ac])
    let hsz:=ND hg;let ad:=Bk (xZ xs);rw[<-ac] at ad;simp![sz] at hsz;let am:↑(xZ xs)*↑z2<=600*600:=Nat.mul_le_mul () h2
    let hj:=EI z2 (xZ xs);refine iX (0,1,0,z2,r,xZ xs,1,1,SqT.of (by rw[s1 _ _ er,ag]),(),?_)
    refine Z _ H1 s1 ?_;show Is H1 (if xL xs=v_ then .str (Vl z2 (xZ xs)) else D.non) _
    rw[U];exact[1:nj ()]
  |_=>exact ky (Z _ H (ic.refl _) rfl)
 |_=>exact ky (Z _ H (ic.refl _) (by cases dy<;>rfl))
abbrev NA (w:Str)(B:Str->D)(ps:oj Pt):Bool:=if w="like" then eqD (B (b0 ps)) (B (b1 ps)) else if w="rowed" then Zr (B (b0 ps)) else if w="none" then decide (AbB (B (b0 ps))=0) else v_
abbrev JMP:oj Str:= ["go","like","rowed","none"]
abbrev ASK:oj Str:= ["ask","has","names"]
abbrev flt (w:Str):D:=-[-"fault",!w]
abbrev sV (w:Str)(held:D):D:=if w="names" then(if isStr held=v_ then .tup [-"asks",-[-"names",held]] else flt "kind") else if mK held=v_ then .tup [-"asks",-[.str (if w="ask" then "thing" else "has"),held]] else flt "name"
inductive OG:Sp
 |mk (d t:Addr)(w:Str)(B:Str->D)(ps:List Pt)(n:Nat)(_:vs= [-d,!w,-t])(_:YR H d B)(_:Tr B)(_:w>JMP)(_:JA n 300 (w,ps))(_:IO H t ps)(_:Q (.bl (NA w B ps)) H)
inductive Ls:Sp
 |mk (w:Str)(v:V)(d:D)(_:vs= [!w,v])(_:w>ASK)(_:Is H d v)(_:∀(u:V)(H':Hp),ic H H'->Is H' (sV w d) u->Q u H')
mutual
theorem EW:∀{d:D},iZ d=v_->puD d=v_
 | .str _,_=>rfl| .tup xs,h=>by
  simp![iZ,uF] at h;show puL xs=v_;exact goodL_pu h.2
 | .non,h| .bl _,h| .int _,h| .lst,h| .dct,h=>by simp[iZ] at h
theorem goodL_pu:∀{xs:oj D},goodL xs=v_->puL xs=v_
 | [],_=>rfl|x::r,h=>by
  simp![goodL,uF] at h;simp![puL,EW h.1,goodL_pu h.2,Vb]
end
def SG {d:D}(h:iZ d=v_):trD d=true:=by
 cases d with
 |str z=>rfl|tup xs=>exact EW (d:=¬xs) h|_=>simp[iZ] at h
def yp {d:D}(h:isT d=v_):iZ d=true:=by
 unfold isT at h;rw[uF,uF] at h;exact h.1.1
def NC {d:D}(h:isT d=v_):trD d=true:=SG (yp h)
def PK:#[T,1,a.JP,a.JQ,["boxes","word","parts"],OG]:=by
 rw[9,T.mi,wf]
 erw[h,d,t,w,B,ps,n,rfl,hB,hT,hw,Z,hp,k];rw[3,%[#[qI,#[qm,Qg,pv 1,ql],%[|#[qo,#[Qh,#[D3,1,hr.units],#[QC,pv 0,#[qG,qC,pv 2,qh]],#[QC,pv 0,#[qG,qC,pv 2,qh]]]]],qr],#[qI,#[qm,Qg,pv 1,ql],%[|#[qo,#[qx,#[qZ,2,rfl],T.qU,vg,#v[#[QC,pv 0,#[qG,qC,pv 2,qh]],#[yi,.ty "tuple",T.QW,vH]]]]],qr],#[qI,#[qm,Qg,pv 1,ql],%[|#[qo,#[Qh,Qg,#[qx,JX,T.QN,uJ,#v[#[QC,pv 0,#[qG,qC,pv 2,qh]]]],qh]]],qr]|#[qo,jf]]]
 rw[0,1,0];simp![JMP,uG,uL,uV] at hw;rcases hw with rfl|rfl|rfl|rfl
 .refine Qu () ?_
  rw[0,1,0,Qu () ?_]
  rw[0,1,0,Qu () ?_]
  exact k
 .refine QK () ?_
  erw[Aa0 (Q2 Z ()),x,y,i,rfl,U,hy,_]
  rw[0,0]
  try dsimp![tC]
  refine nI (i:=0) hB hp rfl U λv iv=>?_
  rw[0,0]
  try dsimp![tC]
  refine nI (i:=1) hB hp rfl hy λu iu=>?_
  rw[_,B x,B y,iv,iu,NC (hT x U),NC (hT y hy),?_,k]
  .have:=xR (hT x U);omega
 .refine Qu () ?_
  rw[0,1,0,QK () ?_]
  erw[AaZ (Q2 Z ()),x,i,rfl,U,_]
  rw[0,0];refine nI (i:=0) hB hp rfl U λv iv=>?_;exact(v,"tuple",tyD (B x),Zr (B x),1,iv.ty,XA _,k)
 .refine Qu () ?_
  rw[0,1,0,Qu () ?_]
  rw[0,1,0,QK () ?_]
  erw[AaZ (Q2 Z ()),x,i,rfl,U,_]
  rw[0,0];refine nI (i:=0) hB hp rfl U λv iv=>?_;let k':Q (.bl (decide (AbB (B x)=0))) H:=k;let hg:=hT x U;generalize B x=dx at iv k' hg⊢;let hn:∀n:Nat,decide (V.int (n:Int)=V.int 0)=decide (n=0):=λn=>by
   rw[ve];constructor
   .intro h;injection h with h;omega
   .rintro rfl;rfl
  cases dx with
  |str z=>
   erw[iv,rfl,hz];refine .inl (z,1,hz,1,?_);rw[hn];exact k'
  |tup xs=>
   erw[iv,r,rs,rfl,er,ir];refine .inr (r,rs,1,.inr (SqT.of er),λ_=>[1:?_]);rw[hn,↑ir];exact k'
  |_=>simp[isT,iZ] at hg
def L4:#[T,2,a.Ju,a.Js,["word","held"],Ls]:=by
 let QL:=#[Xs,T];rw[9,T.lW,Zu]
 erw[h,w,v,d,rfl,hw,iv,k];rw[3,%[#[qI,#[qm,Qg,pv 0,ql],%[|#[qo,#[ye,#[Qd,#[qx,#[qZ,2,rfl],T.qU,vg,#v[pv 1,#[yi,.ty "str",T.wb,V2]]]],#[qD,#v[ql,#[qD,#v[ql,pv 1]]]],#[qD,#v[ql,ql]]]]],qr],#[qI,#[Qr,#[Qd,#[qp,QL,T.iH,#v[pv 1]]]],%[|#[qo,#[qD,#v[ql,ql]]]],qr]|#[qo,#[qD,#v[ql,#[qD,#v[#[ye,#[qm,Qg,pv 0,ql],ql,ql],pv 1]]]]]]]
 let two:(2:Nat)<=sizeLine:=by decide
 let st:∀{H:Hp} (z:Str),↑z<=100->Is H (!z) (!z):=λz hz=>[1:yS ()]
 let fl:∀(z:Str) (H:Hp) (l:o3),↑z<=100->H l=U_->Is (upd H l (-[-"fault",!z])) (flt z) (-l):=λz H l hz Z=>Is.new (ds:= [-"fault",!z]) (_,0,st _ (),_,0,st _ hz,1) Z
 rw[0,1,0];by_cases c:w="names"
 .subst c;refine QK () ?_
  let ea:sV "names" d=if isStr d=v_ then .tup [-"asks",-[-"names",d]] else flt "kind":=by unfold sV;rw[A6 rfl]
  rw[ea] at k
  rw[0,v,"str",tyD d,isStr d,1,iv.ty,jY _,0];cases hs:isStr d with
  |true=>
   rw[hs] at k;refine ky [0:two:λl Z=>[two:λl2 U=>?_]];let t1:ic H (upd H l (-[-"names",v])):=qf Z _;refine k _ _ (t1.trans (qf U _)) ?_;exact Is.new (ds:= [-"asks",-[-"names",d]]) (_,0,st _ (),_,0,Is.new (ds:= [-"names",d]) (_,0,st _ (),_,0,iv,1) Z,1) U
  |false=>
   rw[hs] at k;exact iX [two:λl Z=>k _ _ (qf Z _) (fl "kind" H l () Z)]
 .refine Qu (ui λh=>c (by injection h)) ?_
  let ea:sV w d=if mK d=v_ then .tup [-"asks",-[.str (if w="ask" then "thing" else "has"),d]] else flt "name":=by unfold sV;rw[A4 c]
  rw[ea] at k
  rw[0,v,d,1,iv,λH1 s1=>[0:?_]];cases hs:mK d with
  |false=>
   rw[hs] at k;exact ky [two:λl Z=>k _ _ (s1.trans (qf Z _)) (fl "name" H1 l () Z)]
  |true=>
   rw[hs] at k;refine iX (0,1,0,?_);let aa:∀z:Str,↑z<=100->z=(if w="ask" then("thing":Str) else "has")->∀l,H1 l=U_->∀l2,(upd H1 l (-[!z,v])) l2=U_->Q (-l2) (upd (upd H1 l (-[!z,v])) l2 (-[-"asks",-l])):=by
    intro z hz ez l Z l2 U;let t1:ic H1 (upd H1 l (-[!z,v])):=qf Z _;refine k _ _ (s1.trans (t1.trans (qf U _))) ?_;rw[<-ez];exact Is.new (ds:= [-"asks",-[!z,d]]) (_,0,st _ (),_,0,Is.new (ds:= [!z,d]) (_,0,st _ hz,_,0,iv.mono s1.tk,1) Z,1) U
   refine iY (λc2=>?_) (λc2=>?_)
   .let e:w="ask":=by have:=ur c2;injection this
    exact⟨0,two,λl Z=>⟨two,λl2 U=>aa "thing" () (by rw[A6 e]) l Z l2 U⟩⟩
   .let e:w≠"ask":=λe=>c2 (uc (by rw[e]))
    exact⟨0,two,λl Z=>⟨two,λl2 U=>aa "has" () (by rw[A4 e]) l Z l2 U⟩⟩
end
structure Mc where
 (x db dg:o3)
 rs:oj Rw
 own:Str
structure Rn where
 B:Str->D
 p:Int
 n:Nat
 gs:oj D
 th:D
abbrev MTH:oj Str:= ["now","answer","asked","lines","copy","go_on","is_waiting","do_row","hold"]
structure Fl (fs:oj (Str×V))(rv ru:V)(own:Str)(db dg:o3)(place:Int)(done:Nat)(tv:V):Prop where
 rows:fs.lookup ("rows":Str)=u_ rv
 rule:fs.lookup ("rule":Str)=u_ ru
 own:fs.lookup ("own":Str)=u_ (!own)
 boxes:fs.lookup ("boxes":Str)=u_ (-db)
 place:fs.lookup ("place":Str)=u_ (.int place)
 done:fs.lookup ("done":Str)=u_ (.int (done:Int))
 given:fs.lookup ("given":Str)=u_ (-dg)
 there:fs.lookup ("there":Str)=u_ tv
 meth:∀m>MTH,fs.lookup m=U_
 len:↑fs<=20
def jq {f:Str}{v:V}:∀{fs:oj (Str×V)}{u:V},fs.lookup f=u_ u->↑(iM f v fs)=↑fs
 |(g,x)::r,u,h=>by
  unfold iM;by_cases c:g=f
  .rw[A6 c];rfl
  .rw[A4 c,um,um];let e:(f==g)=false:=by simp;exact λz=>c z.symm
   rw[vw,e] at h;rw[jq (u:=u) h]
 | [],u,h=>by simp at h
section
variable {fs:oj (Str×V)}{rv ru:V}{own:Str}{db dg:o3}{place:Int}{done:Nat}{tv:V}
def Fl.set_there {u:V}(h:Fl fs rv ru own db dg place done tv):Fl (iM "there" (u) fs) rv ru own db dg place done u:=by
 refine(?_,?_,?_,?_,?_,?_,?_,?_,λm hm=>?_,by rw[jq h.there];exact h.len)
 all_goals rw[qL]
 all_goals first|rw[A6 rfl]|(rw[A4 ()];first|exact h.rows|exact h.rule|exact h.own|exact h.boxes|exact h.place|exact h.done|exact h.given|exact h.there)|(rw[A4 (λe=>by subst e;revert hm;decide+kernel)];exact h.meth m hm)
def Fl.set_place {q:Int}(h:Fl fs rv ru own db dg place done tv):Fl (iM "place" (.int q) fs) rv ru own db dg q done tv:=by
 refine(?_,?_,?_,?_,?_,?_,?_,?_,λm hm=>?_,by rw[jq h.place];exact h.len)
 all_goals rw[qL]
 all_goals first|rw[A6 rfl]|(rw[A4 ()];first|exact h.rows|exact h.rule|exact h.own|exact h.boxes|exact h.place|exact h.done|exact h.given|exact h.there)|(rw[A4 (λe=>by subst e;revert hm;decide+kernel)];exact h.meth m hm)
def Fl.set_done {k:Nat}(h:Fl fs rv ru own db dg place done tv):Fl (iM "done" (.int ((k:Nat):Int)) fs) rv ru own db dg place k tv:=by
 refine(?_,?_,?_,?_,?_,?_,?_,?_,λm hm=>?_,by rw[jq h.done];exact h.len)
 all_goals rw[qL]
 all_goals first|rw[A6 rfl]|(rw[A4 ()];first|exact h.rows|exact h.rule|exact h.own|exact h.boxes|exact h.place|exact h.done|exact h.given|exact h.there)|(rw[A4 (λe=>by subst e;revert hm;decide+kernel)];exact h.meth m hm)
end
abbrev yG (C:o3)(H:Hp)(m:Mc)(r:Rn):Prop:=
 ∃(dx:o3) (fs:oj (Str×V)) (rv ru tv:V) (gv:oj V),H m.x=u_ (.ins C dx fs)/\Fl fs rv ru m.own m.db m.dg r.p r.n tv/\Is H (.tup (m.rs.map rowD)) rv/\Is H (jV m.rs) ru/\YR H m.db r.B/\H m.dg=u_ (.lst gv)/\L2.IsL H r.gs gv/\Is H r.th tv
structure Mv (m:Mc)(H H':Hp):Prop where
 kept:∀b o,H b=u_ o->b≠m.x->b≠m.db->b≠m.dg->H' b=u_ o
 tk:Tk H H'
def Mv.refl (m:Mc)(H:Hp):Mv m H H:=[λ_ _ e _ _ _=>e:Tk.refl H]
variable {H H1 H2:Hp}
def Mv.trans {m:Mc}(h:Mv m H H1)(h2:Mv m H1 H2):Mv m H H2:=[λb o e n1 U Z=>h2.kept b o (h.kept b o e n1 U Z) n1 U Z:h.tk.trans h2.tk]
variable {H':Hp}
def Mv.of {m:Mc}(s:ic H H'):Mv m H H':=[λb o e _ _ _=>s b o e:s.tk]
variable {C:o3}
def yG.same {m:Mc}{r:Rn}(h:yG C H m r)(s:ic H H'):yG C H' m r:=
 let⟨dx,fs,rv,ru,tv,gv,e,f,i,j,b,g,gl,t⟩:=h;(dx,fs,rv,ru,tv,gv,s _ _ e,f,i.mono s.tk,j.mono s.tk,b.same s,s _ _ g,gl.mono s.tk,t.mono s.tk)
variable {dx:o3}
def YR.ne {x db:o3}{fs:oj (Str×V)}{B:Str->D}(e:H x=u_ (.ins C dx fs))(h:YR H db B):db≠x:=λz=>by
 erw[h,f,e2,_];rw[z,e,0] at e2
variable {fs':oj (Str×V)}{rv:V}
def yr {m:Mc}{r:Rn}{fs:oj (Str×V)}{ru tv:V}{U:oj V}(e:H m.x=u_ (.ins C dx fs))(f:Fl fs' rv ru m.own m.db m.dg r.p r.n tv)(i:Is H (.tup (m.rs.map rowD)) rv)(j:Is H (jV m.rs) ru)(b:YR H m.db r.B)(Z:H m.dg=u_ (.lst U))(gl:L2.IsL H r.gs U)(t:Is H r.th tv):
  yG C (upd H m.x (.ins C dx fs')) m r/\Mv m H (upd H m.x (.ins C dx fs')):=by
 let tk:Tk H (upd H m.x (.ins C dx fs')):=Tk.updI e;let n1:m.db≠m.x:=YR.ne e b;let n2:m.dg≠m.x:=λz=>by rw[z,e,0] at Z
 exact⟨(dx,fs',rv,ru,tv,U,qg,f,i.mono tk,j.mono tk,b.move tk (qi n1),by rwa[qi n2],gl.mono tk,t.mono tk),⟨λc o h a1 _ _=>by rwa[qi a1],tk⟩⟩
abbrev QH:D->Bool
 | .tup (.str w::_)=>decide (w="asks")|_=>Vd
abbrev Th (d:D):Prop:=d= .non\/∃w e,d=-[!w,e]
inductive Out where
 |go (B:Str->D)(p:Int)|stop (e:D)
abbrev Out.B (B:Str->D):Out->Str->D
 | .go B' _=>B'| .stop _=>B
abbrev Out.P (p:Int):Out->Int
 | .go _ p'=>p'| .stop _=>p
abbrev Out.T:Out->D
 | .go _ _=> .non| .stop e=>e
abbrev AO (B:Str->D)(z:Str)(e:D)(p:Int):Out:=match e with
 | .non=> .stop (flt "kind")|e=>if isT e=v_ then .go (Bp B z e) (p+1) else .stop (flt "big")
inductive AaS (C:Addr):Sp
 |mk (m:Mc)(r:Rn)(_:vs= [-m.x])(_:yG C H m r)(_:∀v,Is H r.th v->Q v H)
inductive OR (C:Addr):Sp
 |mk (m:Mc)(r:Rn)(_:vs= [-m.x])(_:yG C H m r)(_:∀v H',ic H H'->Is H' (¬r.gs) v->Q v H')
inductive Oo (C:Addr):Sp
 |mk (m:Mc)(r:Rn)(_:vs= [-m.x])(_:yG C H m r)(_:Th r.th)(_:Q (.bl (QH r.th)) H)
inductive OJ (C:Addr):Sp
 |mk (m:Mc)(r:Rn)(z:Str)(v:V)(e:D)(_:vs= [-m.x,!z,v])(_:yG C H m r)(_:r.th= .non)(_:z>BX)(_:Is H e v)(_:∀H',Mv m H H'->yG C H' m ((AO r.B z e r.p).B r.B,(AO r.B z e r.p).P r.p,r.n,r.gs,(AO r.B z e r.p).T)->Q .non H')
section
variable {P:o9}{w:og}{K:o0}{mg:Str->om o6}{base:o8}{a:Ad}{g:Ga}
def oJ:#[T,1,a.zE,a.XX,["self"],(AaS a.qq)]:=by
 rw[9,T.iI,W8,U]
 erw[h,m,r,rfl,[dx,fs,rv,ru,tv,Z,e,f,ir,iu,ib,hg,gl,it],k];rw[3,%[|#[qo,#[qQ,5,pv 0,rfl]]]]
 exact(0,m.x,_,dx,fs,tv,1,e,T.qw,T.qP,f.there,k _ it)
def PZ:#[T,1,a.JG,a.J9,["self"],(OR a.qq)]:=by
 rw[9,T.mj,Z9]
 erw[h,m,r,rfl,[dx,fs,rv,ru,tv,Z,e,f,ir,iu,ib,hg,gl,it],k];rw[3,%[|#[qo,#[Qa,Qe,T.QW,vH,#v[#[qQ,5,pv 0,rfl]]]]]]
 exact(0,m.x,_,dx,fs,0,e,T.qw,T.jc,f.given,m.dg,Z,1,.inl [SqL.of hg:λl U=>k _ _ (qf U _) (Is.new gl U)])
def qay:#[T,1,a.YK,a.YL,["self"],(Oo a.qq)]:=by
 rw[9,T.il,JB]
 erw[h,m,[B,p,n,gs,th],rfl,[dx,fs,rv,ru,tv,gv,e,f,ir,iu,ib,hg,gl,it],U,k];simp only at f ib gl it U k;rw[3,%[|#[qo,#[ze,#[Qh,jw,#[qQ,5,pv 0,rfl],qR],#[Xc,#[Qh,Qg,#[qG,zg,#[qQ,5,pv 0,rfl],qh],ql]]]]]]
 rw[0,m.x,_,dx,fs,tv,1,e,T.qw,T.qP,f.there,1];rcases U with rfl|⟨w1,e1,rfl⟩
 .rw[show tv= .non from it,0]
  exact[0:Qu () k]
 .let Z:=it;erw[Z,t0,us,rfl,et,iu]
  rw[0,QK (by simp) (0,m.x,_,dx,fs,0,e,T.qw,T.qP,f.there,?_)]
  refine .inr (.inl (Xp (i:=0) (d:= !w1) it (qF (j:=0) rfl) λq hq=>?_));erw[hq,rfl,_]
  rw[1];let ew:decide (V.str w1=V.str ("asks":Str))=decide (w1="asks"):=by
   rw[ve];exact⟨λh=>by injection h,λh=>by rw[h]⟩
  rw[ew];exact k
def PN:#[T,3,a.Xa,a.xQ,["self","box","tree"],(OJ a.qq)]:=by
 let yW:=#[jR,T];rw[9,T.mn,wF]
 erw[h,m,[B,p,n,gs,th],z,v,d,rfl,[dx,fs,rv,ru,tv,gv,e,f,ir,iu,ib,hg,gl,it],ac,hz,U,k];simp only at f ib gl it ac k;subst ac;rw[3,%[|#[qI,#[qm,yD,pv 2,qR],%[|#[Qk,#[qD,#v[ql,ql]]]],%[|#[qI,#[Qr,#[Qd,#[qp,yW,T.lr,#v[pv 2]]]],%[|#[Qk,#[qD,#v[ql,ql]]]],%[#[Jh,#[qQ,5,pv 0,rfl],pv 1,pv 2]|#[xg,10,pv 0,qh,si]]]]]]]
 let two:(2:Nat)<=sizeLine:=by decide
 let st:∀{H:Hp} (z:Str),↑z<=100->Is H (!z) (!z):=λz hz=>[1:yS ()]
 let fl:∀(z:Str) (H:Hp) (l:o3),↑z<=100->H l=U_->Is (upd H l (-[-"fault",!z])) (flt z) (-l):=λz H l hz Z=>Is.new (ds:= [-"fault",!z]) (_,0,st _ (),_,0,st _ hz,1) Z
 rw[0,1,0];let aa:↑fs<1000:=by have:=f.len;omega
 by_cases c:d= .non
 .subst c;rw[show v= .non from U,0]
  refine QK () [two:λl Z=>?_]
  let s1:ic H (upd H l (-[-"fault",-"kind"])):=qf Z _
  rw[0,m.x,_,dx,fs,1,s1 _ _ e,T.qw,T.qP,aa];erw[yr (r:=(B,p,n,gs,flt "kind")) (s1 _ _ e) (f.set_there (u:=-l)) (ir.mono s1.tk) (iu.mono s1.tk) (ib.same s1) (s1 _ _ hg) (gl.mono s1.tk) (fl "kind" H l () Z),m1,m2]
  exact k _ ((Mv.of s1).trans m2) m1
 .let hv:v≠ .non:=by
   rintro rfl;cases d with
   |non=>exact c rfl|bl b=>rw[show V.non= .bl b from U,0]|int i=>rw[show V.non= .int i from U,0]|str z=>erw[U,h,_];rw[h,0]|lst=>erw[U,_,_,h,_];rw[h,0]|dct=>erw[U,_,_,h,_];rw[h,0]|tup xs=>erw[U,_,_,h,_];rw[h,0]
  let eo:AO B z d p=if isT d=v_ then .go (Bp B z d) (p+1) else .stop (flt "big"):=by
   cases d with
   |non=>exact A8 rfl c|_=>rfl
  rw[eo] at k;refine Qu (ui hv) ?_
  rw[0,v,d,1,U,λH1 s1=>[0:?_]];cases ht:isT d with
  |false=>
   rw[ht] at k;refine ky [two:λl Z=>?_];let s2:ic H (upd H1 l (-[-"fault",-"big"])):=s1.trans (qf Z _)
   rw[0,m.x,_,dx,fs,1,s2 _ _ e,T.qw,T.qP,aa];erw[yr (r:=(B,p,n,gs,flt "big")) (s2 _ _ e) (f.set_there (u:=-l)) (ir.mono s2.tk) (iu.mono s2.tk) (ib.same s2) (s2 _ _ hg) (gl.mono s2.tk) (fl "big" H1 l () Z),m1,m2]
   exact k _ ((Mv.of s2).trans m2) m1
  |true=>
   rw[ht] at k;refine iX ?_;let ae:=U.mono s1.tk;erw[(ib.same s1).put hz ae,kvs,ad,af,t2];let n1:m.db≠m.x:=YR.ne e ib;let n3:m.dg≠m.db:=λz=>by
    erw[ib,ff,e2,_];rw[z,e2,0] at hg
   let e1:=s1 _ _ e;let e3:(upd H1 m.db (.dK kvs)) m.x=u_ (.ins a.qq dx fs):=by rwa[qi n1.symm]
   rw[0,0,m.x,_,dx,fs,0,e1,T.qw,T.Qx,f.boxes,0,m.db,0,ad]
   rw[0,m.x,_,dx,fs,0,e3,T.qw,T.Qp,f.place,p,(1),1,1,dx,fs,e3,aa];obtain⟨m1,m2⟩:=yr (r:=(Bp B z d,p+1,n,gs,.non)) e3 (f.set_place (q:=p+1)) ((ir.mono s1.tk).mono t2) ((iu.mono s1.tk).mono t2) af (by rw[qi n3];exact s1 _ _ hg) ((gl.mono s1.tk).mono t2) it
   exact k _ ((Mv.of s1).trans (Mv.trans ⟨λb o h _ a2 _=>by rwa[qi a2],t2⟩ m2)) m1
abbrev MKR:oj Str:= ["text","self","copy","row","put","join","first","rest","size","cut","glue"]
abbrev oV (ps:oj Pt):Int:=match ps.getLast? with
 |some (.n i)=>i|_=>0
abbrev mJ (own:Str)(r:Rw)(B:Str->D)(p:Int):Out:=
 if r.1>MKR then AO B (b0 r.2) (made r.1 B own r.2) p else if r.1>ASK then .stop (sV r.1 (B (b1 r.2))) else if r.1="say" then .stop (-[-"said",B (b0 r.2)]) else
 if r.1="fault" then .stop (flt "told") else if NA r.1 B r.2=v_ then .go B (oV r.2) else .go B (p+1)
def AbS:∀x>FRM,x.1>MKR->x.2.head? =u_ .box:=by decide+kernel
def wL:∀x>FRM,x.1>ASK->x.1∉MKR/\x.1>Acj/\x.2= [.box,.box]:=by decide+kernel
def AT:∀x>FRM,x.1="say"->x.2= [.box]:=by decide+kernel
def E6:∀x>FRM,x.1>MKR\/(x.1∉MKR/\x.1>Acj/\(x.1>ASK\/x.1∉ASK/\(x.1="say"\/x.1="fault"\/x.1≠"say"/\x.1≠"fault"/\x.1>JMP))):=by decide+kernel
def SN:∀x>FRM,x.1>JMP->x.2.getLast? =u_ .line:=by decide+kernel
variable {r:Rw}
def Ade {m:Nat}(h:JA n m r)(Z:r.1>MKR):∃z ps,r.2= .s z::ps/\z>BX:=by
 erw[h,ks,hk,U];have:=AbS _ hk Z
 match ks,U,this with
 | .box::ks,U,_=>
  match h2:r.2,U with
  | .s z::ps,U=>exact(z,ps,1,U.1)| .n _::_,U=>exact U.1.elim
def Ke {n m:Nat}:∀{ks:oj Kd}{ps:oj Pt},Xe n m ks ps->ks.getLast? =u_ .line->∃qs i,ps=qs++ [.n i]/\1<=i/\i<=(n:Int)
 | [k],[p],h,e=>by
  rw[e,0];cases p with
  |n i=>exact([],i,1,h.1)|s z=>exact h.1.elim
 |k::k2::ks,p::p2::ps,h,e=>by
  rw[V3] at e;erw[Ke (ks:=k2::ks) (ps:=p2::ps) h.2 e,qs,i,e2,hi,<-(p::qs,i,by rw[e2];rfl,hi)]
 | [k],p::_::_,h,_=>h.2.elim|k::_::_,[p],h,_=>h.2.elim| [],[],_,e=>by rw[e,0]| [],_::_,h,_=>h.elim|_::_,[],h,_=>h.elim
def BW {m:Nat}(h:JA n m r)(U:r.1>JMP):∃qs i,r.2=qs++ [.n i]/\1<=i/\i<=(n:Int)/\oV r.2=i:=by
 erw[h,ks,Z,hp];erw[Ke hp (SN _ Z U),qs,i,e,h1,h2];rw[_,qs,i,e,h1,h2];unfold oV;rw[e,List.getLast?_concat]
inductive Lq (C:Addr):Sp
 |mk (m:Mc)(r:Rn)(rw:Rw)(v:V)(k:Nat)(_:vs= [-m.x,v])(_:yG C H m r)(_:r.th= .non)(_:Tr r.B)(_:↑m.own<=100)(_:JA k 300 rw)(_:Is H (rowD rw) v)(_:∀H',Mv m H H'->yG C H' m ((mJ m.own rw r.B r.p).B r.B,(mJ m.own rw r.B r.p).P r.p,r.n,r.gs,(mJ m.own rw r.B r.p).T)->Q .non H')
variable {x:Str}
def Adc (T:Tx K mg a)(C:Fx K w mg g a)(h:x>MKR):∃f fd,PySem.W.nsIn K g.makers x=u_ (u_ (-f))/\FnOk P w K mg base CX0 1 f fd ["boxes","own","parts"] (XW x)/\Xd K fd ["boxes","own","parts"] []/\PySem.W.keepIn K (-f)=true:=by
 simp![MKR,uG,uL,uV] at h;rcases h with rfl|rfl|rfl|rfl|rfl|rfl|rfl|rfl|rfl|rfl|rfl
 .exact(_,_,C.k_text,Ps T,T.lH.b,T.lH.F.kp)
 .exact(_,_,C.k_self,Pv T,T.lJ.b,T.lJ.F.kp)
 .exact(_,_,C.k_copy,PU T,T.lS.b,T.lS.F.kp)
 .exact(_,_,C.k_row,Abq T,T.lZ.b,T.lZ.F.kp)
 .exact(_,_,C.k_put,Abr T,T.l8.b,T.l8.F.kp)
 .exact(_,_,C.k_join,PL T,T.lO.b,T.lO.F.kp)
 .exact(_,_,C.k_first,LY T,T.lp.b,T.lp.F.kp)
 .exact(_,_,C.k_rest,Py T,T.lL.b,T.lL.F.kp)
 .exact(_,_,C.k_size,Pu T,T.lI.b,T.lI.F.kp)
 .exact(_,_,C.k_cut,Abv T,T.me.b,T.me.F.kp)
 .exact(_,_,C.k_glue,PP T,T.lR.b,T.lR.F.kp)
def L3:#[C,4,a.Jp,a.Jt,["self","row"],(Lq a.qq)]:=by
 let wT:=#[PK,T];let wc:=#[L4,T];let W5:=#[PN,T];rw[9,T.lX,Yg]
 erw[h,m,[B,p,n,gs,th],r,v,nn,rfl,M,ag,hT,ho,ae,iv,k];simp only at ag hT k;subst ag;rw[3,%[#[qE,(2),Yg.nd,#[qG,qC,pv 1,qh]],#[qE,(3),Yg.nd,#[qG,qC,pv 1,qh]]|#[qI,#[qm,8,Abn,pv 2,#[pe_gR,C.m_MAKERS],#[w]],%[|#[qW,#[Qn,pv 0,T.qw,T.mn,W5,#v[#[qG,qC,pv 3,qh],#[LF,9,(1),5,(1,1,1,1,1),#[qG,Ad0,#[pe_gR,C.m_MAKERS],pv 2],hr.mono (),#v[#[qQ,5,pv 0,rfl],#[qQ,5,pv 0,rfl],pv 3],_,_]]]]],%[|#[qI,#[qm,8,QP,pv 2,#[pe_gR,C.m_ASKING],#[w]],%[|#[Qk,#[qp,wc,T.lW,#v[pv 2,#[QC,#[qQ,5,pv 0,rfl],#[qG,qC,pv 3,qh]]]]]],%[|#[qI,#[qm,Qg,pv 2,ql],%[|#[Qk,#[qD,#v[ql,#[QC,#[qQ,5,pv 0,rfl],#[qG,qC,pv 3,qh]]]]]],%[|#[qI,#[qm,Qg,pv 2,ql],%[|#[Qk,#[qD,#v[ql,ql]]]],%[|#[qI,#[Qd,#[qp,wT,T.mi,#v[#[qQ,5,pv 0,rfl],pv 2,pv 3]]],%[|#[Qk,#[qG,qC,pv 3,#[Abh,6,MS,qh]]]],%[|#[xg,10,pv 0,qh,si]]]]]]]]]]]]]
 let two:(2:Nat)<=sizeLine:=by decide
 erw[r,Z,ps];erw[iv,t0,us,rfl,et,iu];erw[iu,v1,u1,rfl,[rfl,au],v2,u2,rfl,i2,e2];rw[show u2= [] from e2,0]
 rw[0,t0,_,(0),0,1,SqT.of et,1]
 rw[0,t0,_,(1),0,1,SqT.of et,1];erw[id i2,t1,aw,rfl,ax,ay];let ad:IO H t1 ps:=i2;let am:=ae;erw[am,ks,hk,hp];let hM:=M;erw[hM,dx,fs,rv,ru,tv,gv,e,f,ir,ij,ib,hg,gl,it];simp only at f ib gl it;let af:↑fs<1000:=by have:=f.len;omega
 rcases E6 _ hk with aa|⟨aa,ao,ac⟩
 .erw[Adc (P:=P) (base:=base) T C aa,fa,fd,hn,hF,hb,ap];erw[Ade ae aa,z,qs,rfl,aq];let eo:mJ m.own (Z,.s z::qs) B p=AO B z (made Z B m.own (.s z::qs)) p:=by unfold mJ;rw[A6 aa];rfl
  rw[eo] at k
  rw[0,Z,g.makers,0,1,C.km,hn,0];refine ky ?_
  rw[0,m.x,dx,fs,1,e,f.meth _ (),0]
  try dsimp![tC]
  refine IG (i:=0) ad rfl ?_
  rw[0,Z,g.makers,_,-fa,1,1,C.km,hn,1,fa,fd,_,XW Z,1,hF,hb,ap]
  rw[0,m.x,_,dx,fs,0,e,T.qw,T.Qx,f.boxes,0,m.x,_,dx,fs,0,e,T.qw,T.zn,f.own,0]
  rw[_,m.db,t1,m.own,B,.s z::qs,nn,1,ib,hT,ho,ae,ad,λv H1 s1 hv=>?_];exact(m,(B,p,n,gs,.non),z,v,0,M.same s1,1,aq,hv,λH2 m2 M2=>k H2 ((Mv.of s1).trans m2) M2)
 .rw[0,Z,g.makers,0,1,C.km,C.k_no _ ao,0];refine iX ?_
  rw[0,g.asking,0,.inr (C.asking _),1,1,0];let ei:inV (!Z) [-"ask",-"has",-"names"]=decide (Z>ASK):=JU (z:=Z) (l:=ASK);rw[A4 uf,ei];rcases ac with U|⟨U,ac⟩
  .refine QK (uc U) ?_;erw[wL _ hk U,_,_,ek];simp only at ek;subst ek;erw[WM hp,z0,z1,rfl,h0,h1];let eo:mJ m.own (Z,[.s z0,.s z1]) B p= .stop (sV Z (B z1)):=by unfold mJ;rw[A4 aa,A6 U];rfl
   rw[eo] at k
   rw[0,0,m.x,_,dx,fs,0,e,T.qw,T.Qx,f.boxes,0]
   try dsimp![tC]
   refine nI (i:=1) ib ad rfl h1 λv hv=>?_
   rw[_,Z,v,B z1,1,U,hv,λu H1 s1 hu=>?_]
   rw[0,m.x,_,dx,fs,1,s1 _ _ e,T.qw,T.qP,af];erw[yr (r:=(B,p,n,gs,sV Z (B z1))) (s1 _ _ e) (f.set_there (u:=u)) (ir.mono s1.tk) (ij.mono s1.tk) (ib.same s1) (s1 _ _ hg) (gl.mono s1.tk) hu,m1,m2,<-k _ ((Mv.of s1).trans m2) m1]
  .refine Qu (ui U) ?_
   rw[0,1,0];let es:∀y:Str,decide (V.str Z=V.str y)=decide (Z=y):=λy=>by
    rw[ve];exact⟨λh=>by injection h,λh=>by rw[h]⟩
   rcases ac with rfl|rfl|⟨hs,hf,hj⟩
   .refine QK (uc rfl) ?_;let ek:=AT _ hk rfl;simp only at ek;subst ek;erw[AcX hp,z0,rfl,h0];let eo:mJ m.own ("say",[.s z0]) B p= .stop (-[-"said",B z0]):=by unfold mJ;rw[A4 aa,A4 U,A6 rfl];rfl
    rw[eo] at k
    rw[0,m.x,_,dx,fs,0,e,T.qw,T.Qx,f.boxes,0]
    try dsimp![tC]
    refine nI (i:=0) ib ad rfl h0 λv hv=>?_
    rw[_,two,λl hl=>?_];let s1:ic H (upd H l (-[-"said",v])):=qf hl _
    rw[0,m.x,_,dx,fs,1,s1 _ _ e,T.qw,T.qP,af];erw[yr (r:=(B,p,n,gs,-[-"said",B z0])) (s1 _ _ e) (f.set_there (u:=-l)) (ir.mono s1.tk) (ij.mono s1.tk) (ib.same s1) (s1 _ _ hg) (gl.mono s1.tk) (Is.new (ds:= [-"said",B z0]) (_,0,[1:yS ()],_,0,hv,1) hl),m1,m2]
    exact k _ ((Mv.of s1).trans m2) m1
   .let ah:¬(("fault":Str)="say"):=by decide+kernel
    refine Qu (ui λh=>ah (by injection h)) ?_
    rw[0,1,0,QK (uc rfl) ?_];let eo:mJ m.own ("fault",ps) B p= .stop (flt "told"):=by unfold mJ;rw[A4 aa,A4 U,A4 ah,A6 rfl]
    rw[eo] at k
    rw[_,two,λl hl=>?_];let s1:ic H (upd H l (-[-"fault",-"told"])):=qf hl _
    rw[0,m.x,_,dx,fs,1,s1 _ _ e,T.qw,T.qP,af];erw[yr (r:=(B,p,n,gs,flt "told")) (s1 _ _ e) (f.set_there (u:=-l)) (ir.mono s1.tk) (ij.mono s1.tk) (ib.same s1) (s1 _ _ hg) (gl.mono s1.tk) (Is.new (ds:= [-"fault",-"told"]) (_,0,[1:yS ()],_,0,[1:yS ()],1) hl),m1,m2]
    exact k _ ((Mv.of s1).trans m2) m1
   .refine Qu (by rw[es];exact ui hs) ?_
    rw[0,1,0,Qu (by rw[es];exact ui hf) ?_]
    let eo:mJ m.own (Z,ps) B p=if NA Z B ps=v_ then .go B (oV ps) else .go B (p+1):=by unfold mJ;rw[A4 aa,A4 U,A4 hs,A4 hf]
    rw[eo] at k;erw[BW ae hj,qs,i,ak,h1,h2,hl];simp only at ak hl
    rw[0,m.x,_,dx,fs,0,e,T.qw,T.Qx,f.boxes,0,0,m.db,t1,Z,B,ps,nn,1,ib,hT,hj,ae,ad,0];cases al:NA Z B ps with
    |true=>
     rw[al] at k;refine ky (0,(1),1,?_);refine Xp (i:= -1) (d:= .int i) ad (by rw[ak,uA];exact qar _ _) λq hq=>?_
     rw[show q= .int i from hq,0]
     rw[0,m.x,_,dx,fs,1,e,T.qw,T.Qp,af];erw[yr (r:=(B,i,n,gs,.non)) e (f.set_place (q:=i)) ir ij ib hg gl it,m1,m2];refine k _ m2 ?_;show yG _ _ _ (B,oV ps,n,gs,.non);rwa[hl]
    |false=>
     rw[al] at k;refine iX (0,m.x,_,dx,fs,0,e,T.qw,T.Qp,f.place,p,(1),1,1,dx,fs,e,af,?_);erw[yr (r:=(B,p+1,n,gs,.non)) e (f.set_place (q:=p+1)) ir ij ib hg gl it,m1,m2,<-k _ m2 m1]
abbrev Jx (rs:oj Rw)(p:Int):Rw:=rs.getD (p.toNat-1) ("fault",[])
abbrev mQ (rs:oj Rw)(own:Str)(gs:oj D):Nat->(Str->D)->Int->Nat->Rn
 |0,B,p,n=>(B,p,n,gs,if GT.gt p (↑rs) then flt "silent" else flt "long")|f+1,B,p,n=>if GT.gt p (↑rs) then(B,p,n,gs,flt "silent") else match mJ own (Jx rs p) B p with
  | .go B' p'=>mQ rs own gs f B' p' (n+1)| .stop e=>(B,p,if QH e=v_ then n else n+1,gs,e)
variable {rs:oj Rw}
def DK {p:Int}(h1:1<=p)(h2:p<=↑rs):rs[p.toNat-1]? =u_ (Jx rs p):=by
 unfold Jx;let h:p.toNat-1<↑rs:=by omega
 simp[GN,h]
def qaq {p:Int}(h1:1<=p)(h2:p<=↑rs):Jx rs p>rs:=uX (DK h1 h2)
variable {e:D}
def KG {B:Str->D}(h:Tr B)(U:isT e=v_):Tr (Bp B z e):=λy Z=>by
 unfold Bp;by_cases c:y=z
 .rwa[A6 c]
 .rw[A4 c];exact h y Z
abbrev Ty (n:Int):Out->Prop
 | .go B p=>Tr B/\1<=p/\p<=n+1| .stop e=>∃w d,e=-[!w,d]
def Mr {B:Str->D}{p n:Int}(h:Tr B)(h1:1<=p)(h2:p<=n):Ty n (AO B z e p):=by
 let U:Ty n (if isT e=v_ then .go (Bp B z e) (p+1) else .stop (flt "big")):=by
  by_cases c:isT e=v_
  .rw[A6 c];exact[KG h c:():()]
  .rw[A4 c];exact[_:0]
 cases e with
 |non=>exact[_:0]|_=>exact U
def S4 (w:Str)(d:D):∃u e,sV w d=-[!u,e]:=by
 unfold sV;split
 .split
  .exact[_:0]
  .exact[_:0]
 .split
  .exact[_:0]
  .exact[_:0]
variable {own:Str}
def At {B:Str->D}{p:Int}(hr:JA n 300 r)(h:Tr B)(h1:1<=p)(h2:p<=n):Ty n (mJ own r B p):=by
 unfold mJ;by_cases U:r.1>MKR
 .rw[A6 U];exact Mr h h1 h2
 rw[A4 U];by_cases Z:r.1>ASK
 .rw[A6 Z];exact S4 _ _
 rw[A4 Z];by_cases c3:r.1="say"
 .rw[A6 c3];exact[_:0]
 rw[A4 c3];by_cases c4:r.1="fault"
 .rw[A6 c4];exact[_:0]
 rw[A4 c4];by_cases c5:NA r.1 B r.2=v_
 .rw[A6 c5];erw[id hr,ks,hk,hp];let hj:r.1>JMP:=by
   rcases E6 _ hk with q|⟨_,_,q|⟨_,q|q|q⟩⟩
   .exact A8 q U
   .exact A8 q Z
   .exact A8 q c3
   .exact A8 q c4
   .exact q.2.2
  erw[BW hr hj,qs,i,_,a1,a2,a3,<-⟨h,by rwa[a3],by rw[a3];omega⟩]
 .rw[A4 c5];exact[h:():()]
inductive OK (C:Addr):Sp
 |mk (m:Mc)(r:Rn)(_:vs= [-m.x])(_:yG C H m r)(_:r.th= .non)(_:Tr r.B)(_:↑m.own<=100)(_:QU m.rs)(_:1<=r.p)(_:r.p<=↑m.rs+1)(_:r.n<=300)(_:∀(H':Hp),Mv m H H'->yG C H' m (mQ m.rs m.own r.gs (300-r.n) r.B r.p r.n)->Q .non H')
def Em:#[C,5,a.JW,a.J4,["self"],(OK a.qq)]:=by
 let wg:=#[L3,T,C];let qY:=#[qay,T];rw[9,T.lh,wj]
 erw[h,[x,db,dg,rs,own],[B0,p0,n0,gs,th],rfl,M0,aw,ax,ho,hR,aE,ay,aF,k];simp only at aw ax ho hR aE ay aF k;subst aw;rw[3,%[|#[wm,6,uT,#[qm,yD,#[qQ,5,pv 0,rfl],qR],%[|#[qI,#[qm,qaJ,#[qQ,5,pv 0,rfl],#[qx,qB,T.QN,uJ,#v[#[qQ,5,pv 0,rfl]]]],%[|#[Qk,#[qD,#v[ql,ql]]]],%[|#[qI,#[qm,Qg,#[qQ,5,pv 0,rfl],#[K0,T.m_MOST_DONE]],%[|#[Qk,#[qD,#v[ql,ql]]]],%[#[qW,#[Qn,pv 0,T.qw,T.lX,wg,#v[#[qG,qC,#[qQ,5,pv 0,rfl],#[qT,Nk,#[qQ,5,pv 0,rfl],qh]]]]]|#[qI,#[Qr,#[Qd,#[QI,pv 0,T.qw,T.il,qY]]],%[|#[xg,10,pv 0,qh,si]],qr]]]]]]]]]
 let two:(2:Nat)<=sizeLine:=by decide
 let n1:=hR.n1;generalize aA:mQ rs own gs (300-n0) B0 p0 n0=res at k
 refine_lift let J1_:Nat->L2.St->Hp->Prop:=λm σ H'=>∃(B:Str->D) (p:Int) (n:Nat) (th:D),σ= [u_ (-x)]/\yG a.qq H' (x,db,dg,rs,own) (B,p,n,gs,th)/\Mv (x,db,dg,rs,own) H H'/\Tr B/\1<=p/\p<=↑rs+1/\n<=300/\((th= .non/\mQ rs own gs (300-n) B p n=res/\m=301-n)\/((∃u e,th=-[!u,e])/\(B,p,n,gs,th)=res/\m=0));?_
 rw[_,J1_,(_,B0,p0,n0,.non,1,M0,Mv.refl _ _,ax,(),(),(),.inl [1:aA:1])]
 rintro m σ H' ⟨B,p,n,th,rfl,M,mv,hT,ad,al,hn,hc⟩;let hM:=M;erw[hM,dx,fs,rv,ru,tv,gv,e,f,ir,ij,ib,hg,gl,it];simp only at e f ir ij ib hg gl it;let aB:↑fs<1000:=by have:=f.len;omega
 rw[0,x,_,dx,fs,tv,1,e,T.qw,T.qP,f.there,1,0];rcases hc with⟨rfl,Z,rfl⟩|⟨⟨u,d,rfl⟩,Z,rfl⟩
 .rw[show tv= .non from it,0]
  let ag:∀{H:Hp},Is H .non .non:=rfl;refine QK () ?_
  rw[_,λσ' H2=>∃(B:Str->D) (p:Int) (n2:Nat) (th:D),σ'= [u_ (-x)]/\yG a.qq H2 (x,db,dg,rs,own) (B,p,n2,gs,th)/\Mv (x,db,dg,rs,own) H H2/\Tr B/\1<=p/\p<=↑rs+1/\n2<=300/\((th= .non/\mQ rs own gs (300-n2) B p n2=res/\n<n2)\/((∃u e,th=-[!u,e])/\(B,p,n2,gs,th)=res)),?_,?_]
  .rintro σ' H2 ⟨B2,p2,n2,aM,rfl,M2,ae,aC,a1,a2,a3,aG⟩;rcases aG with⟨rfl,q1,q2⟩|⟨q0,q1⟩
   .exact(301-n2,(),B2,p2,n2,0,M2,ae,aC,a1,a2,a3,.inl [1:q1:1])
   .exact((0),(),B2,p2,n2,0,M2,ae,aC,a1,a2,a3,.inr [q0:q1:1])
  .let aH:=ir;erw[aH,ta,us,rfl,aI,iu];let aN:↑us=↑rs:=by rw[↑iu,u9]
   let fl:∀(z:Str) (H:Hp) (l:o3),↑z<=100->H l=U_->Is (upd H l (-[-"fault",!z])) (flt z) (-l):=λz H l hz hl=>Is.new (ds:= [-"fault",!z]) (_,0,[1:yS ()],_,0,[1:yS ()],1) hl
   let aa:∀(z:Str),↑z<=100->(B,p,n,gs,flt z)=res->∀l,H' l=U_->(λH2=>∃(B:Str->D) (p:Int) (n2:Nat) (th:D),[u_ (V.ref x)]= [u_ (V.ref x)]/\yG a.qq H2 (x,db,dg,rs,own) (B,p,n2,gs,th)/\Mv (x,db,dg,rs,own) H H2/\Tr B/\1<=p/\p<=↑rs+1/\n2<=300/\((th= .non/\mQ rs own gs (300-n2) B p n2=res/\n<n2)\/((∃u e,th=-[!u,e])/\(B,p,n2,gs,th)=res))) (upd (upd H' l (-[-"fault",!z])) x (.ins a.qq dx (iM "there" (-l) fs))):=by
    intro z hz aJ l hl;let s1:ic H' (upd H' l (-[-"fault",!z])):=qf hl _;erw[yr (m:=(x,db,dg,rs,own)) (r:=(B,p,n,gs,flt z)) (s1 _ _ e) (f.set_there (u:=-l)) (ir.mono s1.tk) (ij.mono s1.tk) (ib.same s1) (s1 _ _ hg) (gl.mono s1.tk) (fl z H' l hz hl),m1,m2,<-(B,p,n,flt z,1,m1,mv.trans ((Mv.of s1).trans m2),hT,ad,al,hn,.inr [[_:0]:aJ])]
   rw[0,x,_,dx,fs,0,e,T.qw,T.Qp,f.place,0,x,_,dx,fs,0,e,T.qw,T.Yr,f.rows,ta,us,1,.inr (SqT.of aI),_,0,1,0];refine iY (λc=>?_) (λc=>?_)
   .let c':GT.gt p (↑rs):=by have:=ur c;omega
    let er:(B,p,n,gs,flt "silent")=res:=by
     rw[<-Z];cases h3:300-n with
     |zero=>unfold mQ;rw[A6 c']|succ q=>unfold mQ;rw[A6 c']
    rw[_,two,λl hl=>?_];let s1:ic H' (upd H' l (-[-"fault",-"silent"])):=qf hl _;exact(0,x,_,dx,fs,1,s1 _ _ e,T.qw,T.qP,aB,aa "silent" () er l hl)
   .let c':¬GT.gt p (↑rs):=λh=>c (uc ())
    rw[0,x,_,dx,fs,0,e,T.qw,T.yn,f.done,1,0];refine iY (λc2=>?_) (λc2=>?_)
    .let e3:n=300:=by have:=ur c2;injection this with h;omega
     let er:(B,p,n,gs,flt "long")=res:=by
      rw[<-Z,e3];show _=mQ rs own gs 0 B p 300;unfold mQ;rw[A4 c']
     rw[_,two,λl hl=>?_];let s1:ic H' (upd H' l (-[-"fault",-"long"])):=qf hl _;exact(0,x,_,dx,fs,1,s1 _ _ e,T.qw,T.qP,aB,aa "long" () er l hl)
    .let e3:n<300:=by
      rcases Hc n 300 with h|h
      .exact h
      .exact A8 (uc (by rw[show n=300 by omega];rfl)) c2
     let am:p<=↑rs:=by omega
     let aD:=hR.ok _ (qaq ad am);let hok:=At (own:=own) aD hT ad am;let U:res=match mJ own (Jx rs p) B p with
       | .go B' p'=>mQ rs own gs (300-(n+1)) B' p' (n+1)| .stop e=>(B,p,if QH e=v_ then n else n+1,gs,e):=by
      rw[<-Z,show 300-n=(300-(n+1))+1 by omega,mQ,A4 c']
     rw[0,x,dx,fs,1,e,f.meth _ ()]
     rw[0,x,_,dx,fs,0,e,T.qw,T.Yr,f.rows,0,x,_,dx,fs,0,e,T.qw,T.Qp,f.place,_,0,1];let aK:atI (rs.map rowD) (p-1)=u_ (rowD (Jx rs p)):=by
      rw[show p-1=((p.toNat-1:Nat):Int) by omega]
      exact qF (by rw[uK,DK ad am];rfl)
     refine Xp (d:=rowD (Jx rs p)) ir aK λq hq=>?_
     rw[_,(x,db,dg,rs,own),(B,p,n,gs,.non),Jx rs p,q,↑rs,1,M,1,hT,ho,aD,hq,λH2 m2 M2=>?_];let aL:=M2;erw[aL,af,ac,aO,aP,aQ,aR,e2,f2,ao,ap,ah,aq,au,ag];simp only at e2 f2 ao ap ah aq au ag;let ak:↑ac<1000:=by have:=f2.len;omega
     let ae:=mv.trans m2;generalize hO:mJ own (Jx rs p) B p=O at hok U M2 ag ah f2;cases O with
     |go B' p'=>
      erw[hok,q1,q2,q3]
      rw[0,x,af,ac,1,e2,f2.meth _ (),_,0,M2,.inl rfl,0]
      refine QK rfl ?_
      rw[0,x,_,af,ac,0,e2,T.qw,T.yn,f2.done,(n:Int),(1),1,1,af,ac,e2,ak];erw[yr (m:=(x,db,dg,rs,own)) (r:=(B',p',n+1,gs,.non)) e2 (f2.set_done (k:=n+1)) ao ap ah aq au ag,m3,m4,<-(B',p',n+1,.non,1,m3,ae.trans m4,q1,q2,q3,(),.inl [1:U.symm:()])]
     |stop d=>
      erw[hok,u,d2,rfl]
      rw[0,x,af,ac,1,e2,f2.meth _ (),_,0,M2,.inr [_:0],0]
      cases hw:QH (-[!u,d2]) with
      |true=>
       simp![hw] at U;refine Qu (by show(!(QH) (-[!u,d2]))=Vd;rw[hw];rfl) ?_
       exact(B,p,n,0,M2,ae,hT,ad,al,hn,.inr [[_:0]:U.symm])
      |false=>
       simp![hw] at U;refine QK (by show(!(QH) (-[!u,d2]))=v_;rw[hw];rfl) ?_
       rw[0,x,_,af,ac,0,e2,T.qw,T.yn,f2.done,(n:Int),(1),1,1,af,ac,e2,ak];erw[yr (m:=(x,db,dg,rs,own)) (r:=(B,p,n+1,gs,-[!u,d2])) e2 (f2.set_done (k:=n+1)) ao ap ah aq au ag,m3,m4,<-(B,p,n+1,0,m3,ae.trans m4,hT,ad,al,(),.inr [[_:0]:U.symm])]
 .have:tv≠ .non:=by erw[it,_,_,h,_];rw[h];exact λz=>by rw[z,0]
  refine Qu (ui this) ?_;refine k H' mv ?_;rw[<-Z];exact M
abbrev emp (z:Str):D:=-[!z,-""]
def Ng {H:Hp}:∀{zs:oj Str}{ys:oj V},L2.IsL H (zs.map emp) ys->∃ts:oj o3,ys=ts.map V.ref/\↑ts=↑zs/\∀(i:Nat) (t:o3) (z:Str),ts[i]? =u_ t->zs[i]? =u_ z->H t=u_ (-[!z,-""])
 | [],_,h=>by
  rw[show _= [] from h,0]
  exact([],1,1,λi t z h=>by simp at h)
 |y::zs,_,h=>by
  erw[h,v,r,rfl,[t,us,rfl,U,v1,u1,rfl,[rfl,_],v2,Z,rfl,[rfl,_],e2],h2];rw[show Z= [] from e2,0]
  erw[Ng h2,ts,rfl,hl,hi];refine(t::ts,1,by rw[um,hl];rfl,λi q z h1 h3=>?_)
  cases i with
  |zero=>
   rw[h1,0];rw[h3,0];exact U
  |succ j=>exact hi j q z (by simpa using h1) (by simpa using h3)
variable {ys:oj V}
def Ph {A:o3}(e:H A=u_ (.lst ys))(h:L2.IsL H (BX.map emp) ys):Cm H A (BX.map λz=>(z,V.str "")):=by
 erw[Ng h,ts,rfl,U,hi];rw[_,ts,e,by rw[U,u9],λi t p h1 h2=>?_]
 rw[uK] at h2;cases hz:BX[i]? with
 |none=>rw[hz,0] at h2|some z=>
  rw[hz,0] at h2;exact hi i t z h1 hz
abbrev B0:Str->D:=λ_=>-""
variable {q:o3}
def SZ (U:H q=U_):YR (upd H q (.dK (iJ (BX.map λz=>(z,V.str ""))))) q B0:=by
 rw[_,λ_=>-"",?_,λz _=>[1:yS ()]]
 rw[qg];unfold iJ kvB;rw[uP]
 rfl
def Aaj:Tr B0:=λ_ _=>(by decide+kernel:isT (-"")=v_)
def MI:((BX.map λz=>(z,V.str "")).map (·.1)).Nodup:=by
 rw[uP];show(BX.map id).Nodup;rw[HQ]
 decide+kernel
def DN (f:Str)(v:V):∀fs:oj (Str×V),↑(iM f v fs)<=↑fs+1
 | []=>uq _|(g,x)::r=>by
  unfold iM;by_cases c:g=f
  .rw[A6 c];simp
  .rw[A4 c];have:=DN f v r;simp![um];omega
abbrev FLD:oj Str:= ["rows","rule","own","boxes","place","done","given","there"]
def Sl:∀m>MTH,m∉FLD:=by decide+kernel
variable {v:V}
def NM {db dg:o3}(U:(iM "there" .non (iM "given" (-dg) (iM "done" (.int 0) (iM "place" (.int 1) (iM "boxes" (-db) (iM "own" (!own) (iM "rule" v (iM "rows" rv [])))))))).length<=20):
  Fl (iM "there" .non (iM "given" (-dg) (iM "done" (.int 0) (iM "place" (.int 1) (iM "boxes" (-db) (iM "own" (!own) (iM "rule" v (iM "rows" rv [])))))))) rv v own db dg 1 0 .non:=by
 rw[_,?_,?_,?_,?_,?_,?_,?_,?_,λm hm=>?_,U]
 .iterate 7 rw[qL,A4 ()]
  rw[qL,A6 rfl]
 .iterate 6 rw[qL,A4 ()]
  rw[qL,A6 rfl]
 .iterate 5 rw[qL,A4 ()]
  rw[qL,A6 rfl]
 .iterate 4 rw[qL,A4 ()]
  rw[qL,A6 rfl]
 .iterate 3 rw[qL,A4 ()]
  rw[qL,A6 rfl]
 .iterate 2 rw[qL,A4 ()]
  rw[qL,A6 rfl]
  rfl
 .rw[qL,A4 (),qL,A6 rfl]
 .rw[qL,A6 rfl]
 .let h:=Sl m hm
  iterate 8 rw[qL,A4 (λe=>h (by rw[e];decide+kernel))]
  rfl
structure Ini (n:Nat)(H:Hp)(C x dx:o3)(fs:oj (Str×V))(H':Hp):Prop where
 len:↑fs<=n
 at':H' x=u_ (.ins C dx fs)
 kept:∀b o,H b=u_ o->b≠x->H' b=u_ o
def Ini.put {x:o3}{fs:oj (Str×V)}(I:Ini n H C x dx fs H')(f:Str)(v:V):Ini (n+1) H C x dx (iM f v fs) (upd H' x (.ins C dx (iM f v fs)))/\Tk H' (upd H' x (.ins C dx (iM f v fs))):=
 ⟨⟨vb (DN f v fs) (V9 I.len),qg,λb o h n=>by rw[qi n];exact I.kept b o h n⟩,Tk.updI I.at'⟩
def Ini.same {x:o3}{fs:oj (Str×V)}(I:Ini n H C x dx fs H')(s:ic H' H2):Ini n H C x dx fs H2:=[I.len:s _ _ I.at':λb o h n=>s _ _ (I.kept b o h n)]
def AbG {K:o0}{b A:o3}{H1:Hp}{te:TE}{tl:L2.St}{Q:VK}(U:∀H,SqT K H b (BX.map V.str))(hA:H1 A=U_)
  (Z:∀(z:Str) H (R:VK),↑z<=Vh->ic H1 H->(∀y H',ic H H'->Is H' (emp z) y->R y H')->te (u_ (!z)::tl) H R)
  (hQ:∀H' ys,ic H1 H'->H' A=u_ (.lst ys)->L2.IsL H' (BX.map emp) ys->Q (-A) H'):AJ A (Itt K b) (YD 0) nH te (U_::tl) H1 Q:=by
 let hl:∀H,L2.IsL H (BX.map D.str) (BX.map V.str):=λH=>IsL.ofStrs λz hz=>yS (by rw[(NS hz).1];decide)
 refine AI (ds:=BX.map D.str) (λd=>match d with| .str z=>emp z|d=>d) (yS ()) hA (λi H sm hi=>(BX.map V.str,(BX.map V.str)[i]'(by simpa using hi),U H,ug _)) (λi H x H' d sm hd y=>?_) (λH sm=>⟨BX.map V.str,U H,by simp⟩) (λd x H R hd sm hx r=>?_) (λH' ys sm e h=>hQ H' ys sm e ?_)
 .erw[y,rfl,y];erw[(hl H').get hd,v,e1,e2];have:=y _ (U H');rw[e1,0] at this;exact[1:e2]
 .erw[Af.mp hd,z,_,rfl];erw[hx,rfl,hz,<-Z z H R hz sm r]
 .rwa[uP] at h
def Mq:∀{d:D},mK d=v_->∃own,d= .str own/\nm own=v_/\↑own<=100
 | .str z,h=>(z,1,h,by
  rcases Hc 24 ↑z with h1|h1
  .rw[show mK (!z)=nm z from rfl,BL (λq=>by omega)] at h
   rw[h,0]
  .omega)
def sU {n:Nat}:∀{ds:oj D},ds.all (λd=>(Qq n d).isSome)=v_->((ds.filterMap (Qq n)).map λr=>D.str (Yt r))=ds/\↑(ds.filterMap (Qq n))=↑ds/\∀r>ds.filterMap (Qq n),JA n 300 r
 | [],_=>⟨1,1,λr h=>by simp at h⟩|d::ds,h=>by
  rw[vN,uF] at h;erw[zq h.1,r,U];erw[sU h.2,i1,i2,i3];cases d with
  |str z=>
   obtain⟨h1,h2⟩:=Bv (show WG n z=u_ r from U)
   rw[Ul U];rw[_,by rw[uC,h2,i1],by rw[um,um,i2],λx Z=>?_]
   rcases Ab.mp Z with rfl|Z
   .exact h1
   .exact i3 x Z
  |_=>rw[U,0]
set_option tactic.hygienic true in
def By:∀{d:D}{rs:oj Rw},Q8 d=u_ rs->QU rs/\d=jV rs
 | .tup ds,rs,h=>by
  rw[X9] at h;split at h
  .rename_i U
   rw[h,0];simp![uF,vo] at U;erw[U,[[h1,h2],h3],h4];erw[sU h3,Z,i2,i3];let e:jV (ds.filterMap (Qq ↑ds))=¬ds:=Aa D.tup Z;exact⟨((),(),λr hr=>by rw[i2];exact i3 r hr,by rwa[e]),e.symm⟩
  .rw[h,0]
inductive qal (C br bn:Addr)(vs:List V)(H:Hp)(Q:VK)(E:XK):Prop
 |mk (x dx:Addr)(v ov:V)(d od:D)(_:vs= [-x,v,ov])(_:H x=u_ (.ins C dx []))(_:Is H d v)(_:Is H od ov)(_:(Q8 d=U_->∀(e:Addr)(H':Hp),(∀b o,H b=u_ o->b≠x->H' b=u_ o)->E (-e) (u_ br) H'))(_:(Q8 d≠U_->mK od=Vd->∀(e:Addr)(H':Hp),(∀b o,H b=u_ o->b≠x->H' b=u_ o)->E (-e) (u_ bn) H'))(_:(∀(rs:List Rw)(own:Str),d=jV rs->QU rs->od= .str own->nm own=v_->↑own<=100->∀(H':Hp)(db dg:Addr),(∀b o,H b=u_ o->b≠x->H' b=u_ o)->H db=U_->H dg=U_->yG C H' (x,db,dg,rs,own) (mQ rs own [] 300 B0 1 0)->Q .non H'))
def KI (T:Tx K mg a)(C:Fx K w mg g a):FnOk P w K mg base (CX1 P w) 6 a.jB a.xM ["self","rule","own"] (qal a.qq g.br g.bn):=by
 let QL:=#[Xs,T];let U:=#[Pw,T,C];let Y7:=#[Em,T,C];refine T.iW.F.okX wI () (λ_ _ _ _ H _ Q E hr h=>?_)
 erw[h,x,dx,v,ov,d,od,rfl,hx,hv,ho,kR,kN,k];rw[3,%[#[Qk,#[qp,16,U,hr.mono (),_,T.lK.m,T.lK.F.kp,T.lK.b,.nil,Abl,#v[pv 1],_,_,_]],#[qI,#[Qr,#[Qd,#[qp,QL,T.iH,#v[pv 2]]]],%[|#[KM,22,C.x_BadName,_,C.m_BadName,ql,_,_]],qr],#[Qk,pv 1],#[Qk,pv 2],#[Qk,#[Qa,#[Ko,1,rfl],T.z_dict,F0,#v[#[XI,["box"],[],IR,#[Zi,#[pe_gR,C.m_BOXES]],(λ_ _ _ _ _ _=>#[qM,(0),(show Vr (["box"]:oj Str) by decide+kernel)]),(λ_ _ _ _ _ _=>#[qD,#v[pv 0,ql]])]]]],#[Qk,qh],#[Qk,qh],#[Qk,#[QF,qd]],#[Qk,qR]|#[qW,#[QI,pv 0,T.qw,T.lh,Y7]]]]
 rw[0,v,d,1,hv,λrs am rv H1 s1 ir=>?_,λhn e H1 s1=>kR hn e H1 λb o h _=>s1 b o h]
 rw[0,x,_,dx,[],1,s1 _ _ hx,T.qw,T.Yr,()]
 let I0:Ini 0 H a.qq x dx [] H1:=[uq _:s1 _ _ hx:λb o h _=>s1 _ _ h];erw[I0.put "rows" rv,I1,t1];let aB:=ir.mono t1;let htk:∀{n:Nat}{fs:oj (Str×V)}{H':Hp},Ini n H a.qq x dx fs H'->Tk H H':=λ{n fs H'} I=>⟨λb xs e=>I.kept b _ e (λz=>by rw[z,hx,0] at e),λb xs e=>⟨_,I.kept b _ e (λz=>by rw[z,hx,0] at e)⟩,λb xs e=>⟨_,I.kept b _ e (λz=>by rw[z,hx,0] at e)⟩⟩
 rw[0,ov,od,1,ho.mono (htk I1),λH3 s3=>[0:?_]];let I3:=I1.same s3;cases ad:mK od with
 |false=>exact ky ⟨1,λe=>kN (by rw[am];simp) ad e H3 I3.kept⟩|true=>
 refine iX ?_;erw[By am,hR,rfl];erw[Mq ad,own,rfl,ad,ao];rw[show ov= .str own from ho.1,0]
 let n1:=hR.n1;let k:=k rs own rfl hR rfl ad ao;let aC:=aB.mono s3.tk
 rw[5]
 refine(0,0,x,_,dx,0,I3.at',T.qw,T.W0,by have:=I3.len;omega,?_)
 erw[I3.put "rule" v,I4,t4];let aD:=aC.mono t4
 rw[5]
 refine(0,0,x,_,dx,0,I4.at',T.qw,T.zn,by have:=I4.len;omega,?_)
 erw[I4.put "own" (!own),I5,t5];let aE:=aD.mono t5
 rw[_,g.boxes,0,C.boxes _,λaP A0 aF=>?_];refine AbG (tl:= []) C.boxes aF (λz H6 R hz s6 r=>[0:(sml rfl):λl hl=>r _ _ (qf hl _) (Is.new (ds:= [!z,-""]) (_,0,[1:hz],_,0,[1:yS ()],1) hl)]) λH6 ys s6 e6 i6=>?_
 rw[_,A0,0,Ph e6 i6,MI,(),λdb aa=>?_]
 let I6:=I5.same s6;let s7:ic H6 (upd H6 db (.dK (iJ (BX.map λz=>(z,V.str ""))))):=qf aa _;let I7:=I6.same s7;let b7:=SZ aa;let aG:=(aE.mono s6.tk).mono s7.tk;let nx:∀b o,H b=u_ o->b≠x->b≠db:=λb o h n=>qk (I6.kept b o h n) aa;let Z:x≠db:=qk I6.at' aa
 rw[5]
 refine(0,x,_,dx,0,I7.at',T.qw,T.Qx,by have:=I7.len;omega,?_)
 erw[I7.put "boxes" (-db),I8,t8];let b8:=b7.move t8 (qi Z.symm);let aH:=aG.mono t8
 rw[5]
 refine(0,x,_,dx,0,I8.at',T.qw,T.Qp,by have:=I8.len;omega,?_)
 erw[I8.put "place" (.int 1),I9,t9];let b9:=b8.move t9 (qi Z.symm);let aI:=aH.mono t9
 rw[5]
 refine(0,x,_,dx,0,I9.at',T.qw,T.yn,by have:=I9.len;omega,?_)
 erw[I9.put "done" (.int 0),ae,ap];let aJ:=b9.move ap (qi Z.symm);let aq:=aI.mono ap
 rw[_,(sml rfl),λdg af=>?_];let ag:=qf af (.lst []);let ah:=ae.same ag;let aK:=aJ.same ag;let au:=aq.mono ag.tk;let ak:dg≠x:=(qk ae.at' af).symm
 rw[5]
 refine(0,x,_,dx,0,ah.at',T.qw,T.jc,by have:=ah.len;omega,?_)
 erw[ah.put "given" (-dg),al,aw];let aL:=aK.move aw (qi Z.symm);let ax:=au.mono aw
 rw[5]
 refine(0,x,_,dx,0,al.at',T.qw,T.qP,by have:=al.len;omega,?_)
 erw[al.put "there" .non,ac,ay];let aM:=aL.move ay (qi Z.symm);let aA:=ax.mono ay;let hl:=ac.len
 rw[0,x,dx,0,ac.at',(NM ()).meth _ ()]
 let aN:Is _ (jV rs) v:=hv.mono (htk ac);let frs:∀{b:o3}{H2:Hp},(∀c o,H c=u_ o->c≠x->H2 c=u_ o)->H2 b=U_->b≠x->H b=none:=λ{b H2} k1 h1 n1=>by
  cases hc:H b with
  |none=>rfl|some o=>rw[k1 b o hc n1,0] at h1
 let aO:∀b o,H b=u_ o->b≠x->b≠dg:=λb o h n=>qk (ae.kept b o h n) af
 rw[5]
 refine((x,db,dg,rs,own),(B0,(1),(0),[],.non),1,(dx,_,rv,v,.non,[],ac.at',NM (),aA,aN,aM,?_,1,1),1,Aaj,ao,hR,Int.le_refl 1,by show(1:Int)<=(↑rs:Int)+1;omega,uS _,λH' m M=>k H' db dg (λb o h n=>m.kept b o (ac.kept b o h n) n (nx b o h n) (aO b o h n)) (frs I6.kept aa Z.symm) (frs ae.kept af ak) M)
 rw[qi ak,qi ak,qg]
abbrev Jw (z:Str):Bool:=z.cps.toList.all QE
def Eo {y:Str}(h:Jw z=v_)(k:Jw y=v_):Jw (z++y)=true:=by
 unfold Jw at*;show(z.cps++y.cps).toList.all QE=v_;rw[tK,UY,h,k];rfl
mutual
noncomputable def lw:D->Bool
 | .str z=>Jw z| .tup xs=>lwL xs|_=>Vd
noncomputable def lwL:oj D->Bool
 | []=>v_|x::r=>lw x&&lwL r
end
def AG (z:Str):↑z=↑z.cps.toList:=by show z.cps.size=_;simp
def EN (h:Jw z=v_)(U:↑z<=300):isT (!z)=true:=by
 let Z:QB z=true:=by
  unfold QB;rwa[uc U,HN]
 let e1:sz (!z)<=600:=by simp![sz];omega
 let e2:dp (!z)<=12:=by simp![dp];omega
 let e3:iZ (!z)=true:=by simp![iZ];exact Z
 unfold isT;rw[e3,uc e1,uc e2]
 rfl
abbrev isP:D->Bool
 | .tup xs=>decide (↑xs=2)|_=>Vd
abbrev se:D->Bool
 | .tup [k,d]=>if eqD k (-"made")=v_ then mK d else(eqD k (-"leaf")||eqD k (-"rule"))&&isT d|_=>Vd
abbrev okS:D->Bool
 | .tup [k,_]=>Np k&&decide (dp k<=60)|_=>v_
inductive Oz:Sp
 |mk (v:_)(d:_)(_:vs= [v])(_:Is H d v)(_:Q (.bl (isP d)) H)
inductive Dp:Sp
 |mk (v:_)(d:_)(_:vs= [v])(_:Is H d v)(_:okS d=v_)(_:∀H',ic H H'->Q (.bl (se d)) H')
inductive OP (K:PySem.W.Frag):Sp
 |mk (q:Addr)(ns:List Int)(k:Int)(_:vs= [-q,.int k])(_:0<=k)(_:SqL K H q (ns.map V.int))(_:∀i:Int,Q (.int i) H)
def lc {b:Bool}{A B:Prop}(U:b=v_)(h:A):if b=v_ then A else B:=by rw[A6 U];exact h
def iQ {b:Bool}{A B:Prop}(U:b=Vd)(h:B):if b=v_ then A else B:=by rw[A4 (by rw[U];exact uf)];exact h
def PD:#[T,1,a.f_is_pair,a.d_is_pair,["value"],Oz]:=by
 rw[9,T.nE,Ct]
 erw[h,v,d,rfl,Z,k];rw[3,%[|#[qo,#[ze,#[qx,#[qZ,2,rfl],T.qU,vg,#v[pv 0,#[yi,.ty "tuple",T.QW,vH]]],#[Xc,#[Qh,Qg,#[qx,JX,T.QN,uJ,#v[pv 0]],qh]]]]]]
 rw[0,v,"tuple",tyD d,Zr d,1,Z.ty,XA d,0];cases ht:Zr d with
 |false=>
  refine iX ?_;let e:isP d=false:=by cases d<;>first|rfl|simp[Zr] at ht
  rwa[e] at k
 |true=>
  obtain⟨xs,rfl⟩:∃xs,d=¬xs:=by cases d<;>simp[Zr] at ht;exact⟨0⟩
  erw[Z,p,us,rfl,hp,U];let lu:=↑U;refine ky [0:.inr (p,us,1,.inr (SqT.of hp),λ_=>[1:?_])];let e:decide (V.int (↑us:Int)=V.int 2)=isP (¬xs):=by
   simp![isP,ve];constructor
   .intro h;have:=V.int.inj h;omega
   .intro h;rw[lu,h]
    rfl
  rwa[<-e] at k
def Ec:#[T,3,a.Wq,a.wU,["value"],Dp]:=by
 let U:=#[PD,T];let QL:=#[Xs,T];let yW:=#[jR,T];rw[9,T.mU,nW]
 erw[h,v,d,rfl,hv,hok,k];rw[3,%[#[qI,#[Qr,#[Qd,#[qp,U,T.nE,#v[pv 0]]]],%[|#[qo,jf]],qr],#[qI,#[qm,#[Abo,1,hr.units],#[qG,qC,pv 0,qh],ql],%[|#[qo,#[qp,QL,T.iH,#v[#[qG,qC,pv 0,qh]]]]],qr]|#[qo,#[ze,#[Qh,8,#[Nl,1,hr.units],#[qG,qC,pv 0,qh],#[qD,#v[ql,ql]],#[w]],#[Xc,#[qp,yW,T.lr,#v[#[qG,qC,pv 0,qh]]]]]]]]
 rw[0,v,0,hv,0];cases hP:isP d with
 |false=>
  refine ky ?_;let e:se d=false:=by
   cases d with
   |tup xs=>
    match xs,hP with
    | [],_=>rfl| [_],_=>rfl| [_,_],h=>simp[isP] at h|_::_::_::_,_=>rfl
   |_=>rfl
  have:=k H (ic.refl _);rwa[e] at this
 |true=>
  refine iX ?_;obtain⟨z,e,rfl⟩:∃z e,d=-[z,e]:=by
   cases d with
   |tup xs=>
    match xs,hP with
    | [],h=>simp[isP] at h| [_],h=>simp[isP] at h| [x,y],_=>exact[x:y:1]|_::_::_::_,h=>simp[isP] at h
   |_=>simp[isP] at hP
  erw[id hv,p,us,rfl,hp,x1,r1,rfl,h1,x2,r2,rfl,h2,h3];rw[show r2= [] from h3,0]
  let Z:Np z=v_/\dp z<=60:=by simpa [okS] using hok
  rw[0,p,_,_,0,1,SqT.of hp,1,z,"made",h1,1,(),Z.1,Z.2,0]
  cases c:eqD z (-"made") with
  |true=>
   refine ky (0,p,_,_,0,1,SqT.of hp,1,x2,e,1,h2,λH' s'=>?_);have:=k H' s';simp![se,c,Vc] at this;exact this
  |false=>
   refine iX (0,p,_,_,0,1,SqT.of hp,1,(sml rfl),λq hq=>?_);let s1:ic H (upd H q (-[-"leaf",-"rule"])):=qf hq _
   rw[_,z,q,["leaf","rule"],h1.mono s1.tk,1,.inr (SqT.of qg),(),Z.1,Z.2,0]
   let e2:(["leaf","rule"]:oj Str).any (λy=>eqD z (!y))=(eqD z (-"leaf")||eqD z (-"rule")):=by simp
   rw[e2];cases c2:(eqD z (-"leaf")||eqD z (-"rule")) with
   |true=>
    refine ky (0,p,_,_,0,1,SqT.of (s1 _ _ hp),1,x2,e,1,h2.mono s1.tk,λH' s'=>?_);have:=k H' (s1.trans s');simp![se,c,c2,HN,UW,if_false] at this;exact this
   |false=>
    refine iX ?_;have:=k _ s1;simp![se,c,c2,rN,UW,if_false] at this;exact this
def PX:#[T,1,a.XV,a.zd,["script","k"],(OP K)]:=by
 rw[9,T.mx,W6]
 erw[h,q,ns,j,rfl,h0,U,k];rw[3,%[#[qI,#[qm,qam,pv 1,#[qx,qB,T.QN,uJ,#v[pv 0]]],%[|#[qo,#[qG,QR,pv 0,pv 1]]],qr]|#[qo,qh]]]
 rw[0,0,q,0,.inl U,_,0,1,0];refine iY (λc=>?_) (λc=>?_)
 .let c':j<(↑(ns.map V.int):Int):=ur c;erw[yT h0 c',v,Z];erw[Af.mp (Y2 Z),i,_,rfl,<-(0,0,q,_,_,0,1,U,Z,k _)]
 .exact k 0
abbrev okN (z:Str):Bool:=(z.cps.toList.map λc=>inS ⟨#[c]⟩ NSG).all id
def Xo (h:nm z=v_):1<=↑z/\↑z<=24:=by
 by_cases c:1<=(↑z:Int)/\(↑z:Int)<=24
 .omega
 .rw[BL c,0] at h
abbrev Nms (zs:oj Str):Prop:=(∀z>zs,nm z=v_)/\zs.Nodup
abbrev qah (d:D):Prop:=(∃k e,d=-[!k,e])/\se d=v_/\lw d=v_/\sz d<=306
abbrev prD (p:Str×D):D:=-[.str p.1,p.2]
abbrev MM (ps:oj (Str×D)):Prop:=Nms (ps.map (·.1))/\∀p>ps,qah p.2
def En (h:okN z=v_):Jw z=true:=by
 unfold Jw;rw[Ua];intro c Z;have:=List.all_eq_true.mp h _ (Af.mpr [c:Z:1]);rw[id,SD] at this;let U:∀c>NSG.cps.toList,QE c=true:=by decide+kernel
 exact U c (ur this)
def Nr (h:nm z=v_):okN z=true:=by
 let U:=Xo h;cases h3:inS ⟨#[z.cps.getD 0 0]⟩ LET with
 |false=>rw[BM h3,0] at h|true=>
  rw[Es () () h3] at h
  exact h
def Lc (h:nm z=v_):qah (-[-"made",!z]):=by
 let U:=Xo h;refine([_:0],?_,?_,by simp![sz,szL];show 1+(("made":Str).length+1+(↑z+1+0))<=306;have:("made":Str).length=4:=rfl;omega)
 .show(if eqD (-"made") (-"made")=v_ then nm z else(eqD (-"made") (-"leaf")||eqD (-"made") (-"rule"))&&isT (!z))=v_
  rw[A6 ()]
  exact h
 .have:Jw "made"=true:=by decide+kernel
  simp![lw,lwL,this,En (Nr h)]
  rfl
def Ld {k:Str}{d:D}(U:k="leaf"\/k="rule")(h:isT d=v_)(Z:lw d=v_)(hz:sz d<=300):qah (-[!k,d]):=by
 let aa:↑k=4:=by rcases U with rfl|rfl<;>rfl
 refine([_:0],?_,?_,by simp![sz,szL];omega)
 .show(if eqD (!k) (-"made")=v_ then mK d else(eqD (!k) (-"leaf")||eqD (!k) (-"rule"))&&isT d)=v_
  let e1:eqD (!k) (-"made")=false:=by rcases U with rfl|rfl<;>decide+kernel
  let e2:(eqD (!k) (-"leaf")||eqD (!k) (-"rule"))=true:=by rcases U with rfl|rfl<;>decide+kernel
  rw[e1,e2,h]
  rfl
 .have:Jw k=true:=by
   rcases U with rfl|rfl<;>decide+kernel
  simp![lw,lwL,this,Z]
  rfl
def Om {d:D}(h:qah d):okS d=true:=by
 erw[h,[k,e,rfl],_];simp[okS,Np,trD,dp]
def Qy (h:↑z<=16000000):Is H (!z) (!z):=[1:nj h]
abbrev qJ (ps:oj (Str×D))(z:Str):D:=((ps.find? λp=>decide (p.1=z)).map (·.2)).getD .non
abbrev zV (vs:oj (Str×V))(z:Str):V:=(iT (iJ vs) (Vf z)).getD .non
def X7 (p:Str×V)(r:oj (Str×V)):iJ (p::r)=(Vf p.1,p.2)::iJ r:=rfl
def CL {H:Hp}{z:Str}:∀{ps:oj (Str×D)}{vs:oj (Str×V)},vs.map (·.1)=ps.map (·.1)->IsL H (ps.map (·.2)) (vs.map (·.2))->z>ps.map (·.1)->iT (iJ vs) (Vf z)=u_ (zV vs z)/\Is H (qJ ps z) (zV vs z)
 | [],_,_,_,h=>nomatch h|p::ps,[],e,_,_=>by simp at e|p::ps,v::vs,e,hi,hz=>by
  simp![uC,U6] at e;erw[hi,u,r,e2,h1,h2];simp![uC,U6] at e2;erw[e2,rfl,rfl];by_cases c:p.1=z
  .let U:v.1=z:=e.1.trans c;let e3:iT (iJ (v::vs)) (Vf z)=u_ v.2:=by
    rw[X7];exact QV (by rw[U])
   let Z:qJ (p::ps) z=p.2:=by simp[qJ,vd,c]
   unfold zV;rw[e3,Z];exact[1:h1]
  .let U:¬v.1=z:=λq=>c (e.1.symm.trans q);let e3:iT (iJ (v::vs)) (Vf z)=iT (iJ vs) (Vf z):=by
    rw[X7];exact QJ (λq=>U (UB q))
   let Z:qJ (p::ps) z=qJ ps z:=by simp[qJ,vd,c]
   let aa:z>ps.map (·.1):=by
    rcases Ab.mp hz with h|h
    .exact A8 h.symm c
    .exact h
   let ih:=CL e.2 h2 aa;unfold zV at*;rw[e3,Z];exact ih
def Wl {z:Str}:∀{vs:oj (Str×V)},z∉vs.map (·.1)->iT (iJ vs) (Vf z)=U_
 | [],_=>rfl|v::vs,h=>by
  rw[X7,QJ (λq=>h (by rw[<-UB q];exact uj ..))]
  exact Wl λm=>h (uh _ m)
def Nd:∀{ps:oj (Str×D)},(ps.map (·.1)).Nodup->(ps.map (·.1)).map (λz=>(z,qJ ps z))=ps
 | [],_=>rfl|p::ps,h=>by
  let h':=List.nodup_cons.mp h;let U:qJ (p::ps) p.1=p.2:=by simp[qJ,vd]
  rw[uC,uC,U]
  congr 1
  refine Eq.trans (Ur λz hz=>?_) (Nd h'.2);have:¬p.1=z:=λq=>h'.1 (by show p.1>_;rwa[q])
  simp[qJ,vd,this]
abbrev Cp (ps:oj (Str×D))(ms:oj Str):oj (Str×D):=ms.map λz=>(z,qJ ps z)
def Kz (ps:oj (Str×D))(U:oj Str):(Cp ps U).map (·.1)=U:=by
 unfold Cp;rw[uP];exact(Ur λ_ _=>rfl).trans (HQ U)
def Bi {ps:oj (Str×D)}{U:oj Str}(hn:(ps.map (·.1)).Nodup)(h:U.Perm (ps.map (·.1))):(Cp ps U).Perm ps:=by
 have:=h.map λz=>(z,qJ ps z);rwa[Nd hn] at this
abbrev ym (C:o3)(H:Hp)(x:o3)(qs:oj (Str×D)):Prop:=∃(dx d:o3) (o:Obj) (vs:oj (Str×V)),H x=u_ (.ins C dx [("by_name",-d)])/\H d=u_ (.frz o (.dK (iJ vs)))/\vs.map (·.1)=qs.map (·.1)/\L2.IsL H (qs.map (·.2)) (vs.map (·.2))
variable {qs:oj (Str×D)}
def ym.same {x:o3}(h:ym C H x qs)(s:ic H H'):ym C H' x qs:=by
 erw[h,dx,d,o,vs,h1,h2,h3,h4,<-(dx,d,o,vs,s _ _ h1,s _ _ h2,h3,h4.mono s.tk)]
abbrev QT (qs:oj (Str×D)):Prop:=MM qs/\tO (qs.map (·.1))=v_/\↑qs<=60
inductive OH (C:Addr):Sp
 |mk (x dx t:Addr)(ps:List (Str×D))(us:List V)(_:vs= [-x,-t])(_:H x=u_ (.ins C dx []))(_:H t=u_ (¬us))(_:L2.IsL H (ps.map prD) us)(_:MM ps)(_:↑ps<=60)(_:∀(qs:List (Str×D))(H':Hp),(∀b o,H b=u_ o->b≠x->H' b=u_ o)->ym C H' x qs->QT qs->qs.Perm ps->Q .non H')
variable {l:oj Str}
def Nms.perm {m:oj Str}(h:Nms m)(p:l.Perm m):Nms l:=[λz hz=>h.1 z (p.mem_iff.mp hz):(p.nodup_iff).mpr h.2]
def NR {ps:oj (Str×D)}{d:D}(hn:(ps.map (·.1)).Nodup)(h:(z,d)>ps):qJ ps z=d:=by
 induction ps with
 |nil=>rw[h,0]|cons p r ih=>
  let U:=List.nodup_cons.mp hn;rcases Ab.mp h with h|h
  .subst h;simp[qJ,vd]
  .have:¬p.1=z:=λq=>U.1 (by show p.1>_;rw[q];exact Af.mpr [_:h:1])
   let Z:=ih U.2 h
   simpa [qJ,vd,this] using Z
def SW {ps:oj (Str×D)}(hn:(ps.map (·.1)).Nodup)(h:z>ps.map (·.1)):(z,qJ ps z)>ps:=by
 erw[Af.mp h,p,U,rfl];rw[NR hn (show(p.1,p.2)>ps from U)]
 exact U
def BG {H:Hp}:∀{ps:oj (Str×D)}{us:oj V},L2.IsL H (ps.map prD) us->∃(ts:oj o3) (vs:oj (Str×V)),us=ts.map V.ref/\↑ts=↑vs/\(∀(i:Nat) (t:o3) (p:Str×V),ts[i]? =u_ t->vs[i]? =u_ p->H t=u_ (-[.str p.1,p.2]))/\vs.map (·.1)=ps.map (·.1)/\L2.IsL H (ps.map (·.2)) (vs.map (·.2))
 | [],us,h=>([],[],h,1,λi t p h=>by simp at h,1,1)|p::r,us,h=>by
  erw[h,v,q,rfl,U,h2];erw[U,t,ws,rfl,Z,x1,r1,rfl,[rfl,hz],x2,r2,rfl,h4,h5];rw[show r2= [] from h5,0]
  erw[BG h2,ts,vs,rfl,e1,e2,e3,e4];rw[_,t::ts,(p.1,x2)::vs,1,by simp[e1],λi t' p' h6 h7=>?_,by simp[e3],(_,0,h4,e4)]
  cases i with
  |zero=>
   rw[h6,0];rw[h7,0];exact Z
  |succ i=>exact e2 i t' p' (by simpa using h6) (by simpa using h7)
def ET (vs:oj (Str×V))(z:Str)(v:V):iJ (vs++ [(z,v)])=iJ vs++ [(Vf z,v)]:=by
 unfold iJ;rw[uA]
 rfl
def Aey {α β:Type}(f:α->β){l:oj α}(h:i<↑l):(l.map f)[i]? =u_ (f l[i]):=by
 rw[uK,ug h]
 rfl
def IZ {α:Type}{l:oj α}(h:i<↑l):l.take (i+1)=l.take i++ [l[i]]:=by
 rw[vi,ug h]
 rfl
def PM:#[T,4,a.jx,a.xO,["self","sources"],(OH a.qK)]:=by
 let QL:=#[Xs,T];let Z:=#[Ec,T];refine T.lC.F.ok yP () (λ_ _ _ _ H vs Q E hr h=>?_)
 erw[h,x,dx,t,ps,us,rfl,hx,ht,aq,hok,aM,k];let hs:=uD;rw[3,%[#[qE,2,(2),4,yP.nd,rfl,GU rfl,xw,_,_],#[y8,#[Kb,pv 1],#[Ka,Qt #[qM,(3),yP.nd] (Qt #[qM,(4),yP.nd] xl)],%[#[qI,#[Qr,#[Qd,#[qp,QL,T.iH,#v[pv 3]]]],%[|j9],qr],#[qI,#[Qr,#[Qd,#[qp,Z,T.mU,#v[pv 4]]]],%[|j9],qr],#[qI,#[wt,#[pc_din,QO hr,pv 3,pv 2]],%[|j9],qr],#[qI,#[qm,Qg,#[qx,IC,T.QN,uJ,#v[pv 2]],#[K0,T.m_MOST_NAMES]],%[|j9],qr]|#[Jh,pv 2,pv 3,pv 4]]]|#[Qk,#[Qa,#[CW,1,rfl],T.z_dict,F0,#v[#[XI,["name","by_name"],[2],Nx (qj Yn) ["self","sources","by_name","name","source"],#[jW,#[qx,#[sN,1,rfl],T.z_sorted,boot_sorted,#v[pv 2]]],(λ_ _ _ _ _ _=>#[qM,(0),(show Vr (["name","by_name"]:oj Str) by decide+kernel)]),(λ_ _ _ _ _ _=>#[qD,#v[pv 0,#[QC,pv 1,pv 0]]])]]]]]]
 intro d hd;let s1:ic H (upd H d (.dK [])):=qf hd _;let aN:d≠x:=λe=>by rw[e,hx,0] at hd
 let au:=↑aq;rw[u9] at au
 rw[5]
 refine⟨0,t,1,[_:SqT.of (s1 _ _ ht)],Zs (K:=K) (a:=t) (xs:=us) (λi σ H'=>∃(vs:oj (Str×V)) (nv sv:om V),σ= [u_ (-x),u_ (-t),u_ (-d),nv,sv]/\ic H H'/\H' d=u_ (.dK (iJ vs))/\vs.map (·.1)=(ps.take i).map (·.1)/\L2.IsL H' ((ps.take i).map (·.2)) (vs.map (·.2)))
  ([],U_,U_,1,s1,qg,1,1) (λi σ H' _ ⟨_,_,_,_,sm,_⟩=>SqT.of (sm _ _ ht)) ?_ ?_⟩
 .rintro i y σ H' hi ⟨vs,nv,sv,rfl,sm,ad,hk,hv⟩;let aO:i<↑us:=(Ag.mp hi).1;let aa:i<↑ps:=by omega
  erw[aq.get (Aey prD aa),v,e1,e2];rw[hi,0] at e1;let aw:=hok.2 _ (uU aa);let aC:nm ps[i].1=true:=hok.1.1 _ (Af.mpr [_:uU aa:1]);erw[aw,[sk,sd,aP],aD,aQ];erw[e2,p,ws,rfl,hp,w1,r1,rfl,[rfl,hz],w2,r2,rfl,h2,h3];rw[show r2= [] from h3,0]
  let aE:=sm _ _ hp
  rw[_,p,0,SqT.of aE,1,_,0,_,0,1]
  rw[0,_,.str ps[i].1,1,[1:hz],λH3 s3=>⟨0,iQ (by simp[mK,aC]) ?_⟩]
  let ax:Is H3 ps[i].2 w2:=h2.mono (sm.trans s3).tk
  rw[0,w2,ps[i].2,1,ax,Om (hok.2 _ (uU aa)),λH4 s4=>⟨0,iQ (by rw[aD];rfl) ?_⟩]
  let ag:=s3.trans s4;let ae:=ag _ _ ad;let nk:ps[i].1∉vs.map (·.1):=by
   rw[hk];let ac:=hok.1.2;let e:ps.map (·.1)=(ps.take i).map (·.1)++ps[i].1::(ps.drop (i+1)).map (·.1):=by
    rw[<-uC (f:=λx:Str×D=>x.1),<-vk aa,<-uA,Ru]
   rw[e,Rr] at ac;exact λm=>ac.2.2 _ m _ (uj ..) rfl
  let ev:=Wl nk;let aF:↑vs=i:=by
   have:=Aa VI hk;rw[u9,u9,uM] at this;omega
  rw[0,0,d,0,mP.k (k:=Vf ps[i].1) ae,0,iQ (by rw[ev];rfl) ?_]
  rw[0,d,0,ae,1,0,iQ (ui λq=>?_) ?_]
  .have:=V.int.inj q;unfold iJ at this;rw[u9] at this;omega
  .let aG:↑(iJ vs)<sizeLine:=by
    unfold iJ;rw[u9];omega
   rw[0,0,0,d,0,C6.k (k:=Vf ps[i].1) ae aG];let tk:Tk H4 (upd H4 d (.dK (lV (iJ vs) (Vf ps[i].1) w2))):=Tk.updD ae
   rw[_,vs++ [(ps[i].1,w2)],_,0,?_,?_,?_,?_]
   .intro b o e;rw[qi (qk e hd)];exact(sm.trans ag) _ _ e
   .rw[qg,KN _ ev,ET]
   .rw[IZ aa,uA,uA,hk]
    rfl
   .rw[IZ aa,uA,uA];exact(((hv.mono ag.tk).mono tk)).append (L2.IsL.one ((ax.mono s4.tk).mono tk))
 .rintro σ H1 ⟨vs,nv,sv,rfl,sm,ad,hk,hv⟩;rw[au,U1] at hk hv;let aF:↑vs=↑ps:=by
   have:=Aa VI hk
   rwa[u9,u9] at this
  let ah:(iJ vs).map (·.1)=(ps.map (·.1)).map Sum.inr:=by rw[wY,hk]
  rw[5]
  refine⟨0,d,iJ vs,ps.map (·.1),1,ad,ah,by rw[u9];omega,λms q U ak hq=>(q,1,[_:SqL.of qg],λA0 al=>?_)⟩
  let s2:ic H1 (upd H1 q (.lst (ms.map V.str))):=qf hq _;let aR:↑ms=↑ps:=by
   have:=U.length_eq
   rwa[u9] at this
  refine Sq (K:=K) (tl:= [u_ (-d)]) (λi ys H'=>∃ts:oj o3,ys=ts.map V.ref/\↑ts=i/\ic H1 H'/\H' A0=u_ (.lst ys)/\∀(j:Nat) (t:o3) (z:Str),ts[j]? =u_ t->ms[j]? =u_ z->H' t=u_ (-[!z,zV vs z])) qg () al
   ([],1,1,s2.trans (qf al _),qg,λj t z h=>by simp at h) ?_ ?_
  .rintro i z ys H' hz ⟨ts,rfl,af,s3,hA,am⟩ _ _ _ R r;let aH:z>ps.map (·.1):=U.mem_iff.mp (uX hz);let lk:=CL hk hv aH
   rw[0,0,0,d,zV vs z,1,?_,(sml rfl),λt2 ao=>?_]
   .have:=mP.k (k:=Vf z) (s3 _ _ ad);rwa[lk.1] at this
   .let s4:=qf ao (-[V.str z,zV vs z]);let aI:t2≠A0:=λe=>by rw[e,hA,0] at ao
    refine r _ _ (s4 _ _ hA) (s4 _ _ (by assumption)) (ts++ [t2],by rw[uA];rfl,by rw[uw,af];rfl,?_,qg,?_)
    .intro b o e;let nb:b≠A0:=qk (s2 _ _ e) al;rw[qi nb];exact s4 _ _ (s3 _ _ e)
    .intro j t z' h1 h2;rcases Hc j i with hj|hj
     .rw[UQ ()] at h1
      have:=am j t z' h1 h2;let nb:t≠A0:=λe=>by rw[e,hA,0] at this
      rw[qi nb];exact s4 _ _ this
     .have aJ:j=i:=by
       have:=(Ag.mp h1).1;rw[uw] at this;have:j<↑ts+1:=this;omega
      subst aJ;rw[hz,0] at h2;rw[UP (),af,Nat.sub_self] at h1
      rw[h1,0];rw[qi aI];exact qg
  .rintro ys H2 ⟨ts,rfl,af,s3,hA,am⟩ _;let ac:=hok.1.2;let aK:ms.Nodup:=U.nodup_iff.mpr ac;let ay:(ms.map λz=>(z,zV vs z)).map (·.1)=ms:=by
    rw[uP];exact(Ur λ_ _=>rfl).trans (HQ ms)
   rw[5]
   refine(A0,ms.map λz=>(z,zV vs z),1,(ts,hA,by rwa[u9],λj t p h1 h2=>?_),by rwa[ay],by rw[u9];omega,λq2 o ap=>?_)
   .rw[uK] at h2;cases h3:ms[j]? with
    |none=>rw[h3,0] at h2|some z=>
     rw[h3,0] at h2;exact am j t z h1 h3
   .let s4:=qf ap (.frz o (.dK (iJ (ms.map λz=>(z,zV vs z)))));let aA:H1 x=u_ (.ins a.qK dx []):=sm _ _ hx;let aB:=s4 _ _ (s3 _ _ aA);let nq:q2≠x:=λe=>by rw[e,s3 _ _ aA,0] at ap
    rw[0,x,a.qK,dx,[],1,aB,T.Q3,T.yh,(by show 0<1000;decide)]
    refine k (Cp ps ms) _ ?_ (dx,q2,o,ms.map λz=>(z,zV vs z),qg,by rw[qi nq];exact qg,by rw[ay,Kz],?_) ⟨[?_:?_],by rwa[Kz],by unfold Cp;rw[u9];omega⟩ (Bi ac U)
    .intro b ob e nb;rw[qi nb];exact s4 _ _ (s3 _ _ (sm _ _ e))
    .let tk:Tk H1 (upd (upd H2 q2 (.frz o (.dK (iJ (ms.map λz=>(z,zV vs z)))))) x (.ins a.qK dx (iM "by_name" (-q2) []))):=(s3.trans s4).tk.trans (Tk.updI aB);let aL:∀l:oj Str,(∀z>l,z>ps.map (·.1))->L2.IsL H1 ((Cp ps l).map (·.2)) ((l.map λz=>(z,zV vs z)).map (·.2)):=by
      intro l
      induction l with
      |nil=>exact λ_=>rfl|cons z r ih=>exact λh=>(_,0,(CL hk hv (h z (uj ..))).2,ih λy hy=>h y (uh _ hy))
     exact(aL ms λz hz=>U.mem_iff.mp hz).mono tk
    .rw[Kz];exact hok.1.perm U
    .intro p hp;exact hok.2 p ((Bi ac U).mem_iff.mp hp)
def E9:VB ("by_name":Str) [(("by_name":Str),v)]=u_ v:=by simp[VB]
def Abe {H:Hp}{qs:oj (Str×D)}{vs:oj (Str×V)}{ts:oj o3}(U:vs.map (·.1)=qs.map (·.1))(hi:L2.IsL H (qs.map (·.2)) (vs.map (·.2)))(Z:↑ts=↑vs)(hz:∀p>qs,↑p.1<=100)
  (ht:∀(j:Nat) (t:o3) (p:Str×V),ts[j]? =u_ t->vs[j]? =u_ p->H t=u_ (-[.str p.1,p.2])):L2.IsL H (qs.map prD) (ts.map V.ref):=by
 induction qs generalizing vs ts with
 |nil=>
  have:vs= []:=by simpa using U
  subst this;have:ts= []:=by simpa using Z
  subst this
  rfl
 |cons q qs ih=>
  cases vs with
  |nil=>simp at U|cons v vs=>
   cases ts with
   |nil=>simp at Z|cons t ts=>
    simp![uC,U6] at U;erw[hi,u,r,e2,h1,h2];simp![uC,U6] at e2;erw[e2,rfl,rfl];let e0:=ht 0 t v rfl rfl;let hq:=hz q (uj ..);refine(_,0,(t,0,e0,(_,0,⟨by rw[U.1],nj ()⟩,_,0,h1,1)),ih U.2 h2 (by simpa using Z) (λp hp=>hz p (uh _ hp)) λj t' p h3 h4=>ht (j+1) t' p (by simpa using h3) (by simpa using h4))
def yE:VB ("source_of":Str) [(("by_name":Str),v)]=none:=by
 have:(("source_of":Str)=="by_name")=false:=by decide+kernel
 simp[VB,this]
inductive wW (C:Addr):Sp
 |mk (x:Addr)(z:Str)(qs:List (Str×D))(_:vs= [-x,!z])(_:ym C H x qs)(_:∀v:V,(z>qs.map (·.1)->Is H (qJ qs z) v)->(z∉qs.map (·.1)->v= .non)->Q v H)
def Yl:#[T,1,a.Y8,a.Y0,["self","name"],(wW a.qK)]:=by
 refine T.ii.F.ok xD () (λ_ _ _ _ H vs Q E Z h=>?_)
 erw[h,x,z,qs,rfl,[dx,d,o,vs,hx,hd,U,hv],k];rw[3,%[|#[qo,#[Ks,7,QO Z,#[qQ,5,pv 0,rfl],pv 1,(1,1,1,1)]]]]
 rw[0,x,a.qK,dx,_,0,hx,T.Q3,T.yh,E9,d,1,.inl [_:.inr [o:hd]],0,_,.inl (_,Vf z,.inr [o:hd],1,1)];refine k _ (λc=>?_) λc=>?_
 .exact(CL U hv c).2
 .rw[Wl (by rwa[U])]
  rfl
abbrev Cw (zs:oj Str):D:= .tup (zs.map D.str)
abbrev Bx (acc:oj Str):oj Str->oj Str
 | []=>acc|z::r=>if isT (Cw (acc++ [z]))=v_ then Bx (acc++ [z]) r else acc
inductive Kl (K:PySem.W.Frag):Sp
 |mk (L:Addr)(zs:List Str)(_:vs= [-L])(_:H L=u_ (.lst (zs.map V.str)))(_:(∀z>zs,↑z<=100))(_:↑zs<=100)(_:∀(v:V)(H':Hp),ic H H'->Is H' (Cw (Bx [] zs)) v->Q v H')
variable {xs:oj V}{Q:VK}
def Ad5 {K:o0}{a:o3}{x:V}(ha:H a=u_ (¬xs))(U:↑xs+1<=Vh)(k:∀p H',ic H H'->H' p=u_ (.tup (xs++ [x]))->Q (-p) H'):
  [x].length<=Vh/\∀q,H q=U_->LA K (-a) (-q) (upd H q (-[x])) Q:=by
 rw[_,sml rfl,λq Z=>?_];let s1:ic H (upd H q (-[x])):=qf Z _;rw[_,a,q,xs,[x],1,1,SqT.of (s1 _ _ ha),SqT.of qg,U,λe=>?_,(λ_ e=>by rw[e,0]),λ_ _ p hp=>?_]
 .refine k q _ s1 ?_;rw[e];exact qg
 .exact k p _ (s1.trans (qf hp _)) qg
variable {zs:oj Str}{p:o3}
def EM (h:H p=u_ (.tup (zs.map V.str)))(hz:∀z>zs,↑z<=100):Is H (Cw zs) (-p):=by
 let U:∀(zs:oj Str),(∀z>zs,↑z<=100)->IsL H (zs.map D.str) (zs.map V.str):=by
  intro zs
  induction zs with
  |nil=>exact λ_=>rfl|cons z r Z=>
   intro h;exact(_,0,⟨1,nj (by have:=h z (uj ..);omega)⟩,Z λy hy=>h y (uh _ hy))
 exact(p,0,h,U zs hz)
def Bw:∀(zs U:oj Str) (z:Str),z>Bx U zs->z>U\/z>zs
 | [],U,z,h=> .inl h|y::r,U,z,h=>by
  unfold Bx at h;split at h
  .rcases Bw r _ z h with h|h
   .rcases Ae.mp h with h|h
    .exact .inl h
    .exact .inr (by rw[Ac.mp h];exact uj ..)
   .exact .inr (uh _ h)
  .exact .inl h
inductive Dv (C:Addr):Sp
 |mk (x t:Addr)(kind text:Str)(qs:List (Str×D))(_:vs= [-x,-t])(_:ym C H x qs)(_:QT qs)(_:H t=u_ (-[!kind,!text]))(_:↑text<=1000)(_:((kind="has"/\Q (.str (if text>qs.map (·.1) then "yes" else "no")) H)\/(kind="names"/\∀(v:V)(H':Hp),ic H H'->Is H' (Cw (Bx [] ((qs.map (·.1)).filter λz=>GD z text))) v->Q v H')))
def SF {vs:oj (Str×V)}(U:vs.map (·.1)=qs.map (·.1))(hi:L2.IsL H (qs.map (·.2)) (vs.map (·.2)))(z:Str):(iT (iJ vs) (Vf z)).isSome=decide (z>qs.map (·.1)):=by
 by_cases c:z>qs.map (·.1)
 .rw[(CL U hi c).1,uc c]
  rfl
 .rw[Wl (by rw[U];exact c),ui c]
  rfl
def CD:#[T,3,a.zt,a.zC,["names"],(Kl K)]:=by
 let yW:=#[jR,T];rw[9,T.mt,Yo]
 erw[h,L,zs,rfl,hL,hz,hn,k];let hs:=uD;rw[3,%[#[qE,(1),Yo.nd,#[qD,qd]],#[y8,#[jW,pv 0],#[qM,(2),Yo.nd],%[#[qI,#[Qr,#[Qd,#[qp,yW,T.lr,#v[#[qT,YE,pv 1,#[qD,#v[pv 2]]]]]]],%[|LB],qr]|#[qE,(1),Yo.nd,#[qT,YE,pv 1,#[qD,#v[pv 2]]]]]]|#[qo,pv 1]]]
 rw[_,(sml rfl),λq hq=>?_];let s1:ic H (upd H q (-[])):=qf hq _
 rw[5]
 refine(0,L,1,[_:SqL.of (s1 _ _ hL)],wp (K:=K) (a:=L) (xs:=zs.map V.str) (λi σ H'=>∃(row:oj Str) (p:o3) (kv:om V),σ= [u_ (-L),u_ (-p),kv]/\H' p=u_ (.tup (row.map V.str))/\ic H H'/\Bx row (zs.drop i)=Bx [] zs/\↑row<=i/\∀z>row,z>zs)
  ([],q,U_,1,qg,s1,1,uq _,λz h=>nomatch h) (λi σ H' _ ⟨_,_,_,_,_,s2,_⟩=>SqL.of (s2 _ _ hL)) ?_ ?_)
 .rintro i x σ H' hi ⟨row,p,kv,rfl,hp,s2,U,hl,hm⟩;let Z:i<↑zs:=by
   have:=(Ag.mp hi).1
   simpa using this
  obtain rfl:x=V.str zs[i]:=by
   rw[uK,ug Z] at hi;exact(uN hi).symm
  let ed:zs.drop i=zs[i]::zs.drop (i+1):=vk Z;rw[ed] at U;rw[show Bx row (zs[i]::zs.drop (i+1))=if isT (Cw (row++ [zs[i]]))=v_ then Bx (row++ [zs[i]]) (zs.drop (i+1)) else row from rfl] at U
  let aa:∀z>row++ [zs[i]],z>zs:=λz h=>by
   rcases Ae.mp h with h|h
   .exact hm z h
   .rw[Ac.mp h];exact uU Z
  let hsz:↑(row.map V.str)+1<=sizeLine:=by rw[u9];omega
  let em:row.map V.str++ [V.str zs[i]]=(row++ [zs[i]]).map V.str:=by simp
  rw[0,0,Ad5 hp hsz λp2 H3 s3 h3=>(_,Cw (row++ [zs[i]]),1,EM (by rw[h3,em]) λz h=>hz z (aa z h),λH4 s4=>[0:?_])]
  cases hT:isT (Cw (row++ [zs[i]])) with
  |false=>
   rw[A4 (by rw[hT];exact uf)] at U
   refine ky [0:k _ H4 ((s2.trans s3).trans s4) ?_];rw[<-U];exact EM (s4 _ _ (s3 _ _ hp)) λz h=>hz z (hm z h)
  |true=>
   rw[A6 hT] at U;refine iX [0:0:Ad5 (s4 _ _ (s3 _ _ hp)) hsz λp5 H5 s5 h5=>?_];exact(row++ [zs[i]],p5,0,by rw[h5,em],((s2.trans s3).trans s4).trans s5,U,by rw[uw];show ↑row+1<=i+1;omega,aa)
 .rintro σ H' ⟨row,p,kv,rfl,hp,s2,U,hl,hm⟩
  rw[0,k _ H' s2 ?_];rw[u9,rZ] at U;rw[<-U];exact EM hp λz h=>hz z (hm z h)
def oK:#[T,4,a.je,a.Y5,["self","ask"],(Dv a.qK)]:=by
 let Z:=#[CD,T];refine T.iN.F.ok xz () (λ_ _ _ _ H vs Q E hr h=>?_)
 erw[h,x,t,kind,text,qs,rfl,[dx,d,o,vs,hx,hd,hk,hv],hT,ht,ad,h];let hs:=uD;rw[3,%[#[qI,#[qm,Qg,#[qG,qC,pv 1,qh],ql],%[|#[qo,#[ye,#[wt,#[pc_din,QO hr,#[qG,qC,pv 1,qh],#[qQ,5,pv 0,rfl]]],ql,ql]]],qr]|#[qo,#[qp,Z,T.mt,#v[#[XI,2,["name","ask"],(1),[1],9,Nx (qj QX) ["self","ask"],rfl,#[Pk,4,#[qQ,5,pv 0,rfl]],(λ_ _ _ _ _ _=>#[qM,(0),(show Vr (["name","ask"]:oj Str) by decide+kernel)]),(λ_ _ _ _ _ _=>#[Pj,3,#[Qd,#[Abk,1,K,11,rfl,vc,PySem.F.slot_str_startswith,PySem.F.type_str_startswith,Ev,pv 0,#v[#[qG,#[zX,1,K,rfl],pv 1,qh]],_,_,_,_,_]]]),(λ_ _ _ _ _ _=>(pv 0)),_]]]]]]
 rw[0,t,_,_,0,1,SqT.of ht,1,1,0];rcases h with⟨rfl,k⟩|⟨rfl,k⟩
 .refine lc (uc rfl) ?_
  rw[0,t,_,_,0,1,SqT.of ht,1,0,x,a.qK,dx,_,0,hx,T.Q3,T.yh,E9,d,0,.inl (_,Vf text,.inr [o:hd],1,1),0];rw[SF hk hv];by_cases c:text>qs.map (·.1)
  .rw[A6 c] at k;exact lc (uc c) k
  .rw[A4 c] at k;exact iQ (ui c) k
 .refine iQ () ?_
  let U:(iJ vs).map (·.1)=(qs.map (·.1)).map Sum.inr:=by rw[wY,hk]
  rw[0,x,a.qK,dx,_,0,hx,T.Q3,T.yh,E9,d,o,0,hd,λA0 aa=>?_];refine Sv (tl:= [u_ (-t)]) (λz=>GD z text) V.str hd U (by rw[u9];have:=hT.2.2;omega) aa (λz H1 R hz s1 r=>?_) (λz H1 R hz s1 r=>[0:r]) λH1 s1 h1=>?_
  .exact(0,1,0,t,_,_,0,1,SqT.of (s1 _ _ ht),1,z,text,1,1,0,r)
  .rw[_,A0,0,h1,λz hz=>?_,?_,λv H2 s2 ac=>k v H2 (s1.trans s2) ac]
   .have:=Xo (hT.1.1.1 z (List.mem_filter.mp hz).1);omega
   .have:=TV (λz=>GD z text) (qs.map (·.1));rw[u9] at this;have:=hT.2.2;omega
abbrev jN:D->Bool
 | .non=>v_|_=>Vd
abbrev XT:D->D
 | .tup [_,d]=>d|d=>d
abbrev Zk (d:D):Prop:=d= .non\/isT d=v_
abbrev Gd (d:D):Prop:=iZ d=v_/\dp d<=20
def AbR:∀z>(["kind","big","told","silent","long","name"]:oj Str),iZ (flt z)=true:=by decide+kernel
def NI (h:z>(["kind","big","told","silent","long","name"]:oj Str)):Gd (flt z):=⟨AbR z h,by show dp (-[-"fault",!z])<=20;simp[dp,dpL]⟩
def AbQ {u:Str}{d:D}(U:QB u=v_)(h:isT d=v_):Gd (-[!u,d]):=by
 let Z:=yp h;let hd:=xR h;rw[_,?_,?_]
 .simp![iZ,goodL,U,Z,Uf]
  rfl
 .simp![dp,dpL];omega
def BZ {u w:Str}{d:D}(U:QB u=v_)(Z:QB w=v_)(h:isT d=v_):Gd (-[!u,-[!w,d]]):=by
 let hg:=yp h;let hd:=xR h;rw[_,?_,?_]
 .simp![iZ,goodL,U,Z,hg,Uf]
  rfl
 .simp![dp,dpL];omega
def O0 {B:Str->D}{p:Int}(hr:JA n 300 r)(h:Tr B)(U:mJ own r B p= .stop e):Gd e:=by
 unfold mJ at U;erw[id hr,ks,hk,hp];erw[r,Z,ps];by_cases c1:Z>MKR
 .rw[A6 c1] at U;simp only at U;generalize made Z B own ps=dm at U;let aa:(if isT dm=v_ then Out.go (Bp B (b0 ps) dm) (p+1) else .stop (flt "big"))= .stop e->Gd e:=by
   intro hq;by_cases c:isT dm=v_
   .rw[A6 c,0] at hq
   .rw[A4 c,0] at hq;exact NI ()
  cases dm with
  |non=>rw[U,0];exact NI ()|_=>exact aa U
 rw[A4 c1] at U;by_cases c2:Z>ASK
 .rw[A6 c2,0] at U;erw[wL _ hk c2,_,_,ek];simp only at ek;subst ek;erw[WM hp,z0,z1,rfl,h0,h1];let hT:=h z1 h1;show Gd (sV Z (B z1));unfold sV;by_cases d1:Z="names"
  .rw[A6 d1];by_cases d2:isStr (B z1)=v_
   .rw[A6 d2];exact BZ () () hT
   .rw[A4 d2];exact NI ()
  .rw[A4 d1];by_cases d2:mK (B z1)=v_
   .rw[A6 d2];refine BZ () ?_ hT
    split<;>decide+kernel
   .rw[A4 d2];exact NI ()
 rw[A4 c2] at U;by_cases c3:Z="say"
 .rw[A6 c3,0] at U;subst c3;let ek:=AT _ hk rfl;simp only at ek;subst ek;erw[AcX hp,z0,rfl,h0,<-AbQ () (h z0 h0)]
 rw[A4 c3] at U;by_cases c4:Z="fault"
 .rw[A6 c4,0] at U;exact NI ()
 rw[A4 c4] at U;by_cases c5:NA Z B ps=v_
 .rw[A6 c5,0] at U
 .rw[A4 c5,0] at U
abbrev mI (rs:oj Rw)(own:Str)(r:Rn)(a:D):Rn:=if jN a=v_ then(r.B,r.p,r.n+1,r.gs++ [-[XT r.th,a]],flt "lack") else mQ rs own (r.gs++ [-[XT r.th,a]]) (300-(r.n+1)) (Bp r.B (b0 (Jx rs r.p).2) a) (r.p+1) (r.n+1)
structure C0 (rs:oj Rw)(r:Rn):Prop where
 tr:Tr r.B
 p1:1<=r.p
 p2:r.p<=↑rs+1
 n:r.n<=300
 gd:Gd r.th
 two:∃w e,r.th=-[!w,e]
 gs:nL r.gs=v_/\dpL r.gs<=30/\↑r.gs<=r.n
 ask:QH r.th=v_->r.p<=↑rs/\(Jx rs r.p).1>ASK/\r.n<300/\∃(u:Str) (d:D),r.th= .tup [-"asks",-[!u,d]]/\u>(["thing","has","names"]:oj Str)/\isT d=v_
mutual
theorem xS:∀{d:D},iZ d=v_->nD d=v_
 | .str _,_=>rfl| .tup xs,h=>by
  simp![iZ,uF] at h;simp![nD];exact goodL_n h.2
 | .non,h=>by simp[iZ] at h| .bl _,h=>by simp[iZ] at h| .int _,h=>by simp[iZ] at h| .lst,h=>by simp[iZ] at h| .dct,h=>by simp[iZ] at h
theorem goodL_n:∀{ds:oj D},goodL ds=v_->nL ds=v_
 | [],_=>rfl|d::ds,h=>by
  simp![goodL,uF] at h;simp![nL];rw[xS h.1,goodL_n h.2]
  rfl
end
def BN:∀{xs ys:oj D},nL xs=v_->nL ys=v_->nL (xs++ys)=v_
 | [],_,_,h=>h|x::xs,ys,h,h2=>by
  simp![nL,uF] at h;simp![UR,nL];rw[h.1,BN h.2 h2]
  rfl
def AU (n:Nat){xs ys:oj D}(h:dpL xs<=n)(h2:dpL ys<=n):dpL (xs++ys)<=n:=by
 rw[sJ] at h h2⊢;intro x U;rcases Ae.mp U with U|U
 .exact h x U
 .exact h2 x U
def Lz {B:Str->D}{p:Int}(hr:JA n 300 r)(h:Tr B)(U:mJ own r B p= .stop e)(Z:QH e=v_):r.1>ASK/\∃(u:Str) (d:D),e= .tup [-"asks",-[!u,d]]/\u>(["thing","has","names"]:oj Str)/\isT d=true:=by
 unfold mJ at U;erw[id hr,ks,hk,hp];erw[r,r1,ps];by_cases c1:r1>MKR
 .rw[A6 c1] at U;simp only at U;generalize made r1 B own ps=dm at U;let aa:(if isT dm=v_ then Out.go (Bp B (b0 ps) dm) (p+1) else .stop (flt "big"))= .stop e->False:=by
   intro hq;by_cases c:isT dm=v_
   .rw[A6 c,0] at hq
   .rw[A4 c,0] at hq;exact A8 Z ()
  cases dm with
  |non=>rw[U,0];exact A8 Z ()|_=>exact(aa U).elim
 rw[A4 c1] at U;by_cases c2:r1>ASK
 .rw[A6 c2,0] at U;rw[_,c2];erw[wL _ hk c2,_,_,ek];simp only at ek;subst ek;erw[WM hp,z0,z1,rfl,h0,h1];let hT:=h z1 h1;let Z:QH (sV r1 (B z1))=true:=Z;show∃u d,sV r1 (B z1)=_/\_;unfold sV at Z⊢;by_cases d1:r1="names"
  .rw[A6 d1] at Z⊢;by_cases d2:isStr (B z1)=v_
   .rw[A6 d2];exact(_,0,(),hT)
   .rw[A4 d2] at Z;exact A8 Z ()
  .rw[A4 d1] at Z⊢;by_cases d2:mK (B z1)=v_
   .rw[A6 d2];exact(_,0,by split<;>decide+kernel,hT)
   .rw[A4 d2] at Z;exact A8 Z ()
 rw[A4 c2] at U;by_cases c3:r1="say"
 .rw[A6 c3,0] at U;exact A8 Z (by simp![QH];exact λh=>A8 (ur h) ())
 rw[A4 c3] at U;by_cases c4:r1="fault"
 .rw[A6 c4,0] at U;exact A8 Z ()
 rw[A4 c4] at U;by_cases c5:NA r1 B ps=v_
 .rw[A6 c5,0] at U
 .rw[A4 c5,0] at U
def Ar {rs:oj Rw}{own:Str}(hR:QU rs):∀(f:Nat) (B:Str->D) (p:Int) (n:Nat) (gs:oj D),f+n=300->Tr B->1<=p->p<=↑rs+1->nL gs=v_/\dpL gs<=30/\↑gs<=n->C0 rs (mQ rs own gs f B p n)
 |0,B,p,n,gs,hf,hT,h1,h2,hg=>by
  let Z:QH (if GT.gt p (↑rs) then flt "silent" else flt "long")=false:=by split<;>decide+kernel
  refine(hT,h1,h2,by show n<=300;omega,?_,?_,hg,λh=>A8 (Z.symm.trans h) ())
  .show Gd (if GT.gt p (↑rs) then flt "silent" else flt "long")
   split
   .exact NI ()
   .exact NI ()
  .show∃w e,(if GT.gt p (↑rs) then flt "silent" else flt "long")=_
   split
   .exact[_:0]
   .exact[_:0]
 |f+1,B,p,n,gs,hf,hT,h1,h2,hg=>by
  unfold mQ;by_cases c:GT.gt p (↑rs)
  .rw[A6 c];exact(hT,h1,h2,by show n<=300;omega,NI (),[_:0],hg,λh=>A8 h (show¬QH (flt "silent")=v_ by decide+kernel))
  .rw[A4 c];let U:=hR.ok _ (qaq h1 ())
   let hok:=At (own:=own) U hT h1 ()
   cases hO:mJ own (Jx rs p) B p with
   |go B' p'=>
    rw[hO] at hok;exact Ar hR f B' p' (n+1) gs () hok.1 hok.2.1 hok.2.2 ⟨hg.1,hg.2.1,by have:=hg.2.2;omega⟩
   |stop e=>
    rw[hO] at hok;simp only;rw[_,hT,h1,h2,?_,O0 U hT hO,hok,[hg.1:hg.2.1:?_],λZ=>?_]
    .show(if QH e=v_ then n else n+1)<=300
     split<;>omega
    .show ↑gs<=(if QH e=v_ then n else n+1)
     have:=hg.2.2;split<;>omega
    .erw[Lz U hT hO Z,a1,u,d,a2,a3,a4];refine(by show p<=↑rs;omega,a1,?_,u,d,a2,a3,a4)
     show(if QH e=v_ then n else n+1)<300
     rw[A6 (show QH e=v_ from Z)]
     omega
def qaC (hR:QU rs){r:Rn}{a:D}(h:C0 rs r)(hw:QH r.th=v_)(ha:Zk a):C0 rs (mI rs own r a):=by
 erw[h.ask hw,k1,k2,k3,u,d,e,k4,k5];let U:nD a=v_/\dp a<=12:=by
  rcases ha with rfl|ha
  .exact⟨1,by simp[dp]⟩
  .exact[xS (yp ha):xR ha]
 let aa:=xR k5;let Z:nL (r.gs++ [D.tup [XT r.th,a]])=v_/\dpL (r.gs++ [D.tup [XT r.th,a]])<=30/\↑(r.gs++ [D.tup [XT r.th,a]])<=r.n+1:=by
  rw[e];show nL (r.gs++ [-[-[!u,d],a]])=v_/\_;rw[_,BN h.gs.1 ?_,AU 30 h.gs.2.1 ?_,?_]
  .simp![nL,nD,xS (yp k5),U.1,Uf]
  .show dpL [-[-[!u,d],a]]<=30;simp![dpL,dp];have:=U.2;omega
  .rw[uw];have:=h.gs.2.2;show ↑r.gs+1<=r.n+1;omega
 unfold mI;cases hn:jN a with
 |true=>
  rw[A6 rfl];exact(h.tr,h.p1,h.p2,by show r.n+1<=300;omega,⟨(by decide+kernel:iZ (flt "lack")=v_),by show dp (-[-"fault",-"lack"])<=20;simp[dp,dpL]⟩,[_:0],Z,λh=>A8 h (show¬QH (flt "lack")=v_ by decide+kernel))
 |false=>
  rw[A4 uf];let hT:isT a=true:=by
   rcases ha with rfl|ha
   .rw[hn,0]
   .exact ha
  refine Ar hR _ _ _ _ _ () (KG h.tr hT) (by have:=h.p1;omega) () Z
def JL {d:D}{u:V}(U:Is H d u)(Z:d≠ .non):u≠ .non:=by
 rintro rfl;cases d with
 |non=>exact Z rfl|bl b=>rw[show V.non= .bl b from U,0]|int i=>rw[show V.non= .int i from U,0]|str z=>erw[U,h,_];rw[h,0]|lst=>erw[U,_,_,h,_];rw[h,0]|dct=>erw[U,_,_,h,_];rw[h,0]|tup xs=>erw[U,_,_,h,_];rw[h,0]
def Ab7 (U:JA n 300 r)(hs:r.1>ASK):∃Z z1,r.2= [.s Z,.s z1]/\Z>BX:=by
 erw[id U,ks,hk,hp];erw[wL _ hk hs,_,_,ek];simp only at ek;subst ek;erw[WM hp,x,y,e,hx,hy,<-(x,y,e,hx)]
abbrev Mp:D->Bool
 | .tup xs=>xs.all mK|_=>Vd
abbrev Bb (u:Str)(a:D):Bool:=if jN a=v_ then decide (u="thing") else if isT a=v_ then(if u="has" then(["yes","no"]:oj Str).any (λz=>eqD a (!z)) else decide (u="thing")||Mp a) else Vd
def KL {u:Str}{a:D}(h:Bb u a=v_):Zk a:=by
 unfold Bb at h;cases hn:jN a with
 |true=>
  cases a with
  |non=>exact .inl rfl|_=>rw[hn,0]
 |false=>
  rw[hn,A4 uf] at h;by_cases c:isT a=v_
  .exact .inr c
  .rw[A4 c,0] at h
inductive Ov:Sp
 |mk (v:V)(d:D)(_:vs= [v])(_:Is H d v)(_:isT d=v_)(_:∀H',ic H H'->Q (.bl (Mp d)) H')
inductive Ll:Sp
 |mk (v1 v2:V)(u:Str)(d a:D)(_:vs= [v1,v2])(_:Is H (-[!u,d]) v1)(_:Is H a v2)(_:∀H',ic H H'->Q (.bl (Bb u a)) H')
inductive MY (C:Addr):Sp
 |mk (m:Mc)(r:Rn)(v:V)(u:Str)(d a:D)(_:vs= [-m.x,v])(_:yG C H m r)(_:C0 m.rs r)(_:r.th=-[-"asks",-[!u,d]])(_:Is H a v)(_:QU m.rs)(_:↑m.own<=100)(_:Bb u a=v_)(_:∀H',Mv m H H'->yG C H' m (mI m.rs m.own r a)->Q .non H')
def Px:#[T,2,a.jH,a.jF,["tree"],Ov]:=by
 let QL:=#[Xs,T];refine T.lP.F.ok zD () (λ_ _ _ _ H vs Q E hr h=>?_)
 erw[h,v,d,rfl,iv,hT,k];rw[3,%[|#[qo,#[ze,#[qx,#[qZ,2,rfl],T.qU,vg,#v[pv 0,#[yi,.ty "tuple",T.QW,vH]]],#[Xc,#[qx,#[zi,1,rfl],T.z_all,HW,#v[#[XI,["part"],[],IR,#[Zi,pv 0],(λ_ _ _ _ _ _=>#[qM,(0),(show Vr (["part"]:oj Str) by decide+kernel)]),(λ_ _ _ _ _ _=>#[qp,QL,T.iH,#v[pv 0]])]]]]]]]]
 rw[0,v,"tuple",tyD d,Zr d,1,iv.ty,XA _];cases d with
 |tup xs=>
  rw[0,ky ?_];erw[iv,a0,vs,rfl,U,Z];let hl:↑xs<=1000:=by
   let hg:=yp hT;simp![iZ,uF] at hg;have:=ur hg.1;omega
  rw[0,a0,vs,1,SqT.of U,λac A0 aa=>?_];refine AH (tl:= []) (λd=> .bl (mK d)) U Z (yS hl) aa (λd0 x0 H3 R ad s3 i3 r=>?_) λH1 ys s1 l1 i1=>?_
  .exact(0,x0,d0,1,i3,λH4 s4=>r _ H4 s4 rfl)
  let ey:ys=(xs.map mK).map V.bl:=IsL.bls (by rwa[uP])
  rw[_,A0,xs.map mK,1,SqL.of (by rw[l1,ey])]
  have:(xs.map mK).all id=Mp (¬xs):=by rw[UV];rfl
  rw[this];exact k H1 s1
 |str z=>exact[0:iX (k H (ic.refl _))]|non=>exact[0:iX (k H (ic.refl _))]|int z=>exact[0:iX (k H (ic.refl _))]|bl z=>exact[0:iX (k H (ic.refl _))]|lst=>exact[0:iX (k H (ic.refl _))]|dct=>exact[0:iX (k H (ic.refl _))]
def LU:#[T,3,a.WF,a.WI,["ask","answer"],Ll]:=by
 let yW:=#[jR,T];let Zp:=#[Px,T];rw[9,T.mW,nX]
 erw[h,v1,v2,u,d,an,rfl,i1,Z,k];rw[3,%[#[qI,#[qm,yD,pv 1,qR],%[|#[qo,#[Qh,Qg,#[qG,zg,pv 0,qh],ql]]],qr],#[qI,#[Qr,#[Qd,#[qp,yW,T.lr,#v[pv 1]]]],%[|#[qo,jf]],qr],#[qI,#[qm,Qg,#[qG,zg,pv 0,qh],ql],%[|#[qo,#[Qh,8,#[Nl,1,hr.units],pv 1,#[qD,#v[ql,ql]],#[w]]]],qr]|#[qo,#[Ac5,7,#[Qh,Qg,#[qG,zg,pv 0,qh],ql],#[Xc,#[qp,Zp,T.lP,#v[pv 1]]]]]]]
 let two:(2:Nat)<=sizeLine:=by decide
 let es:∀y:Str,decide (V.str u=V.str y)=decide (u=y):=λy=>by
  rw[ve];exact⟨λh=>by injection h,λh=>by rw[h]⟩
 let iu:∀{H:Hp}{Q:VK},Is H (-[!u,d]) v1->Q (!u) H->O5 K v1 (.int 0) H Q:=λ{H Q} i q=>Xp (i:=0) (d:= !u) i (qF (j:=0) rfl) λx hx=>by
  erw[hx,rfl,_,<-q]
 rw[0,1,0];unfold Bb at k;by_cases cn:an= .non
 .subst cn;rw[show v2= .non from Z,0]
  refine QK () ?_
  rw[0,.inr (.inl (iu i1 [1:?_]))];rw[es];exact k H (ic.refl _)
 .let aa:v2≠ .non:=JL Z cn;let ac:jN an=false:=by
   cases an with
   |non=>exact A8 rfl cn|_=>rfl
  rw[ac,A4 uf] at k;refine Qu (ui aa) ?_
  rw[0,v2,an,1,Z,λH1 s1=>[0:?_]];by_cases U:isT an=v_
  .rw[A6 U] at k;rw[U];refine iX ?_
   rw[0,.inr (.inl (iu (i1.mono s1.tk) [1:0:?_]))];rw[es];by_cases ch:u="has"
   .rw[A6 ch] at k;refine QK (uc ch) ?_
    rw[0,two,λt1 h1=>?_];let s2:=qf h1 (-[-"yes",-"no"])
    rw[_,an,t1,["yes","no"],(Z.mono s1.tk).mono s2.tk,1,.inr (SqT.of qg),?_,?_,?_,k _ (s1.trans s2)]
    .intro z hz;simp![uG,uZ,uV] at hz;rcases hz with rfl|rfl<;>decide+kernel
    .let hg:=yp U;cases an with
     |non=>rfl|str z=>rfl|tup xs=>
      show puL xs=v_;simp![iZ,uF] at hg;exact goodL_pu hg.2
     |_=>simp[iZ] at hg
    .have:=xR U;omega
   .rw[A4 ch] at k;refine Qu (ui ch) ?_
    rw[0,.inr (.inl (iu (i1.mono s1.tk) [1:?_]))]
    rw[0];rw[es];by_cases ct:u="thing"
    .rw[uc ct] at k⊢;refine ky ?_;exact k _ s1
    .rw[ui ct] at k⊢;refine iX ?_;exact(0,v2,an,1,Z.mono s1.tk,U,λH2 s2=>k H2 (s1.trans s2))
  .rw[A4 U] at k;have:isT an=false:=by
    cases h:isT an with
    |true=>exact A8 h U|false=>rfl
   rw[this];exact ky (k _ s1)
def No:#[C,6,a.YG,a.YC,["self","tree"],(MY a.qq)]:=by
 let qY:=#[qay,T];let U:=#[LU,T];let Y7:=#[Em,T,C];rw[9,T.iL,jL]
 erw[h,m,[B,p,n,gs,th],v,u,d,an,rfl,M,hO,am,iv,hR,aQ,ao,k];rw[3,%[#[qI,#[Qr,#[Qd,#[QI,pv 0,T.qw,T.il,qY]]],%[|j9],qr],#[qE,(2),jL.nd,#[qG,zg,#[qQ,5,pv 0,rfl],qh]],#[qI,#[Qr,#[Qd,#[qp,U,T.mW,#v[pv 2,pv 1]]]],%[|j9],qr],#[qW,#[YQ,uO,vY,vZ,jK,#[qQ,5,pv 0,rfl],#v[#[qD,#v[pv 2,pv 1]]]]],#[xg,10,pv 0,qh,si],#[qI,#[qm,yD,pv 1,qR],%[#[Qk,#[qD,#v[ql,ql]]]|Pf],qr],#[Jh,#[qQ,5,pv 0,rfl],#[qG,zg,#[qG,zg,#[qG,qC,#[qQ,5,pv 0,rfl],#[qT,Nk,#[qQ,5,pv 0,rfl],qh]],qh],qh],pv 1],#[xg,10,pv 0,qh,si],#[Qk,qR]|#[qW,#[QI,pv 0,T.qw,T.lh,Y7]]]]
 simp only at am;subst am;let two:(2:Nat)<=sizeLine:=by decide
 let hw:QH (-[-"asks",-[!u,d]])=true:=by simp[QH]
 erw[hO.ask hw,ag,ae,aR,_];let ah:=hO.p1;let ap:=hO.gs.2.2;let aq:=hO.tr;simp only at ag ae aR ah ap aq;let hM:=M;erw[hM,dx,fs,rv,ru,tv,gv,e,f,ir,ij,ib,hg,gl,it];simp only at f ib gl it;let aS:↑fs<1000:=by have:=f.len;omega
 rw[8,N1,q1]
 rw[0,m.x,dx,fs,1,e,f.meth _ (),m,0,M,.inr [_:0],0]
 refine Qu (by show(!(QH) (-[-"asks",-[!u,d]]))=Vd;rw[hw];rfl) ?_
 refine q1 _ _ ?_;rw[8,N2,q2]
 rw[0,m.x,_,dx,fs,0,e,T.qw,T.qP,f.there,.inr (.inl (Xp (i:=1) it (qF (j:=1) rfl) λq hq=>?_))];refine q2 _ _ ?_;rw[8,N3,q3]
 rw[0,0,q,v,u,d,an,1,hq,iv,λH1 s1=>[0:?_]];rw[ao];refine iX ?_;refine q3 _ _ ?_;rw[8,N4,q4];let ha:=KL ao
 rw[0,m.x,_,dx,fs,0,s1 _ _ e,T.qw,T.jc,f.given,.inl [1:_:SqL.of (s1 _ _ hg)],0,0,two,λt1 h1=>?_];let s2:=qf h1 (-[q,v]);let ip:Is (upd H1 t1 (-[q,v])) (-[-[!u,d],an]) (-t1):=Is.new (ds:= [-[!u,d],an]) (_,0,hq.mono s1.tk,_,0,iv.mono s1.tk,1) h1;let S2:=s1.trans s2;generalize upd H1 t1 (-[q,v])=H2 at s2 ip S2⊢;let bo:↑gv=↑gs:=↑gl;let au:=S2 _ _ hg
 rw[_,m.dg,gv,0,1,au,X2 ()]
 let t3:Tk H2 (upd H2 m.dg (.lst (gv++ [-t1]))):=Tk.updL au;let aT:m.x≠m.dg:=λz=>by rw[<-z,e,0] at hg
 let aw:m.db≠m.dg:=λz=>by
  erw[ib,ff,e2,_];rw[z,hg,0] at e2
 let e3:(upd H2 m.dg (.lst (gv++ [-t1]))) m.x=u_ (.ins a.qq dx fs):=by rw[qi aT];exact S2 _ _ e
 let T3:Tk H (upd H2 m.dg (.lst (gv++ [-t1]))):=S2.tk.trans t3;let ax:=(ib.same S2).move t3 (qi aw);let ay:L2.IsL (upd H2 m.dg (.lst (gv++ [-t1]))) (gs++ [-[-[!u,d],an]]) (gv++ [-t1]):=(gl.mono T3).append (IsL.one (ip.mono t3));let aA:(upd H2 m.dg (.lst (gv++ [-t1]))) m.dg=u_ (.lst (gv++ [-t1])):=qg;let aB:Mv m H (upd H2 m.dg (.lst (gv++ [-t1]))):=⟨λb o h _ _ n3=>by rw[qi n3];exact S2 b o h,T3⟩
 generalize upd H2 m.dg (.lst (gv++ [-t1]))=H3 at t3 e3 T3 ax ay aA aB⊢;refine q4 _ _ ?_;rw[8,N5,q5]
 rw[0,m.x,_,dx,fs,0,e3,T.qw,T.yn,f.done,(n:Int),(1),1,1,dx,fs,e3,aS];erw[yr (r:=(B,p,n+1,gs++ [-[-[!u,d],an]],-[-"asks",-[!u,d]])) e3 (f.set_done (k:=n+1)) (ir.mono T3) (ij.mono T3) ax aA ay (it.mono T3),M4,aC];let ac:=aB.trans aC;let aD:=iv.mono ac.tk;refine q5 _ _ ?_;show nz _ _ _ _ (upd H3 m.x (.ins a.qq dx (iM "done" (.int ((n+1:Nat):Int)) fs)));generalize upd H3 m.x (.ins a.qq dx (iM "done" (.int ((n+1:Nat):Int)) fs))=H4 at M4 aC ac aD⊢;erw[M4,aa,Z,bp,bq,bt,bu,e4,f4,ak,aE,ad,aF,al,aG];simp only at f4 ad al aG;let af:↑Z<1000:=by have:=f4.len;omega
 rw[8,N6,q6]
 rw[0,1,0];by_cases cn:an= .non
 .subst cn;rw[show v= .non from iv,0]
  refine QK () ?_
  rw[_,two,λl hl=>?_];let s5:=qf hl (-[-"fault",-"lack"])
  rw[0,m.x,_,aa,Z,1,s5 _ _ e4,T.qw,T.qP,af];erw[yr (r:=(B,p,n+1,gs++ [-[-[!u,d],.non]],flt "lack")) (s5 _ _ e4) (f4.set_there (u:=-l)) (ak.mono s5.tk) (aE.mono s5.tk) (ad.same s5) (s5 _ _ aF) (al.mono s5.tk) (Is.new (ds:= [-"fault",-"lack"]) (_,0,[1:yS ()],_,0,[1:yS ()],1) hl),m1,m2]
  exact k _ (ac.trans ((Mv.of s5).trans m2)) m1
 .let hT:isT an=true:=ha.resolve_left cn;let aU:v≠ .non:=JL iv cn;let aV:jN an=false:=by
   cases an with
   |non=>exact A8 rfl cn|_=>rfl
  refine Qu (ui aU) ?_;refine q6 _ _ ?_;rw[8,N7,q7];erw[Ab7 (hR.ok _ (qaq ah ag)) ae,z0,z1,aH,aW];let aX:b0 (Jx m.rs p).2=z0:=by rw[aH];rfl
  erw[ad.put aW aD,kvs,aI,aY,t5];let aZ:atI (m.rs.map rowD) (p-1)=u_ (rowD (Jx m.rs p)):=by
   rw[show p-1=((p.toNat-1:Nat):Int) by omega]
   exact qF (by rw[uK,DK ah ag];rfl)
  let a1:m.db≠m.x:=YR.ne e4 ad;let a3:m.dg≠m.db:=aw.symm
  rw[0,0,m.x,_,aa,Z,0,e4,T.qw,T.Qx,f4.boxes,0,m.x,_,aa,Z,0,e4,T.qw,T.Yr,f4.rows,0,m.x,_,aa,Z,0,e4,T.qw,T.Qp,f4.place,_,0,1];refine Xp (d:=rowD (Jx m.rs p)) ak aZ λq5 a4=>?_;refine .inr (.inl (Xp (i:=1) a4 (qF (j:=1) rfl) λq6 aJ=>?_));rw[aH] at aJ;refine .inr (.inl (Xp (i:=0) (d:= !z0) aJ (qF (j:=0) rfl) λq7 a5=>?_));erw[a5,rfl,_]
  rw[_,m.db,0,aI];let e5:(upd H4 m.db (.dK kvs)) m.x=u_ (.ins a.qq aa Z):=by rwa[qi a1.symm]
  refine q7 _ _ ?_;rw[8,N8,q8]
  rw[0,m.x,_,aa,Z,0,e5,T.qw,T.Qp,f4.place,p,(1),1,1,aa,Z,e5,af];obtain⟨M6,a6⟩:=yr (r:=(Bp B z0 an,p+1,n+1,gs++ [-[-[!u,d],an]],-[-"asks",-[!u,d]])) e5 (f4.set_place (q:=p+1)) (ak.mono t5) (aE.mono t5) aY (by rwa[qi a3]) (al.mono t5) (aG.mono t5)
  let aK:=ac.trans (Mv.trans ⟨λb o h _ a2 _=>by rwa[qi a2],t5⟩ a6)
  erw[M6,a7,aL,bv,bw,bx,bA,e6,f6,a8,a9,aM,bb,aN,bc];simp only at f6 aM aN bc;let aO:↑aL<1000:=by have:=f6.len;omega
  refine q8 _ _ ?_;rw[8,N9,q9]
  rw[0,m.x,_,a7,aL,1,e6,T.qw,T.qP,aO];erw[yr (r:=(Bp B z0 an,p+1,n+1,gs++ [-[-[!u,d],an]],.non)) e6 (f6.set_there (u:= .non)) a8 a9 aM bb aN rfl,M7,bd];let aP:=aK.trans bd;erw[id M7,bf,bg,bB,bC,bD,bE,e7,f7,r7];refine q9 _ _ ?_
  rw[5]
  refine(0,m.x,bf,bg,1,e7,f7.meth _ (),m,0,M7,1,KG aq hT,aQ,hR,by show 1<=p+1;omega,by show p+1<=_;omega,by show n+1<=300;omega,λH8 bh M8=>k H8 (aP.trans bh) ?_)
  unfold mI;rw[aV,A4 uf];simp only;rw[aX];exact M8
abbrev lY (H:Hp)(p:o3):Prop:=∃x:Int,H p=u_ (.lst [.int x])/\0<=x
def lY.same (h:lY H p)(s:ic H H'):lY H' p:=by
 erw[h,x,e,r,<-[x:s _ _ e:r]]
def lY.free {l:o3}(h:lY H p)(n:H l=U_):p≠l:=by
 erw[h,x,e,r,<-qk e n]
def lY.tk (h:lY H p)(h':lY H' p)(k:iE p H H'):Tk H H':=by
 erw[h,x,e,_];erw[h',Z,U,_,<-k.tk e U]
inductive Oq:Sp
 |mk (p:Addr)(many:Int)(_:vs= [-p,.int many])(_:lY H p)(_:0<many)(_:many<1073741824)(_:∀(d:Int)(H':Hp),0<=d->d<many->lY H' p->iE p H H'->Q (.int d) H')
inductive Ox:Sp
 |mk (c t:Int)(_:vs= [.int c,.int t])(_:0<=t)(_:t<1000)(_:∀(p:Addr)(H':Hp),H p=U_->ic H H'->lY H' p->Q (-p) H')
def jC:#[T,1,a.ko,a.Kg,["pot","many"],Oq]:=by
 rw[9,T.ig,We]
 erw[h,p,many,rfl,[x,U,hx],hm,Z,k];rw[3,%[#[qE,(2),We.nd,#[qT,xT,#[qG,QR,pv 0,qh],pv 1]],#[BD,6,#[qT,Pn,#[qG,QR,pv 0,qh],pv 1],#[Ni,7,pv 0,qh,Bo,_],_,_,_]|#[qo,pv 2]]]
 rw[0,p,_,_,0,1,SqL.of U,1,0,_,0,1,hm]
 rw[0,p,_,_,0,1,SqL.of U,1,0,_,0,1,[hm:Z],0,p,_,_,0,1,U,1]
 rw[0];refine k _ _ (Ho _ ()) (V4 _ hm) [x/many:qg:Int.ediv_nonneg hx ()] (iE.upd _ _ _)
def Az:#[T,1,a.f_law_pot,a.d_law_pot,["cell","salt"],Ox]:=by
 rw[9,T.mq,YS]
 erw[h,c,t,rfl,h0,h1,k];rw[3,%[#[qI,#[qm,Ac7,#[qx,Ci,T.z_abs,boot_abs,#v[pv 0]],#[qT,Abm,qh,qh]],%[|#[qo,#[QF,#v[#[qx,Ci,T.z_abs,boot_abs,#v[pv 0]]]]]],qr],#[qE,(2),YS.nd,#[qT,xT,#[qT,kJ,#[qT,QM,#[qT,QM,#[qT,xT,pv 0,qh],#[qT,kJ,qh,pv 1]],qh],qh],qh]],#[qE,(3),YS.nd,qh],#[y8,#[Yv,#v[qh]],#[qM,(4),YS.nd],%[#[qE,(2),YS.nd,#[qT,xT,#[qT,QM,#[qT,QM,#[qT,kJ,pv 2,pv 2],#[qT,kJ,qh,pv 4]],qh],qh]]|#[qE,(3),YS.nd,#[qT,QM,#[qT,kJ,pv 3,qh],pv 2]]]]|#[qo,#[QF,#v[pv 3]]]]]
 rw[0,0,_,0,1,[():():()],_,0,1,0]
 refine iY (λ_=>?_) (λ_=>?_)
 .rw[0,0,(sml rfl),λp U=>?_];refine k p _ U (qf U _) [_:qg:?_];split<;>omega
 .rw[0,_,0,1,(by show(0:Int)<2147483647;decide),0,_,0,1,(.inl [():()]),_,0,1,_,0,1,_,0,1,(.inr [():()]),_,0,1,(by show(0:Int)<2147483647;decide),(9),1,(),()]
  refine_lift let J1_:Nat->L2.St->Hp->Prop:=λi σ H'=>E3 λ(x:Int) (b:Int) (kv:om V)=>A5 (σ= [u_ (.int c),u_ (.int t),u_ (.int x),u_ (.int b),kv]) (0<=x) (x<2147483647) (0<=b) (H'=H);?_
  refine xh (n:=9) J1_ (_,_,U_,1,Ho _ (),V4 _ (),(),1) ?_ ?_
  .rintro i σ H' hi ⟨x,b,kv,rfl,aa,ac,hb,rfl⟩;let Z:AcD x x:= .inl [():()]
   rw[0,0,_,0,1,Z,0,_,0,1,(.inl [():()]),_,0,1,_,0,1,_,0,1,(by show(0:Int)<2147483629;decide),0,_,0,1,(.inr [():()]),0,_,0,1]
   let q0:0<=(x*x+40692*(0+(i:Int))+3)%2147483629:=Ho _ ()
   let q1:(x*x+40692*(0+(i:Int))+3)%2147483629<2147483629:=V4 _ ()
   exact(_,_,0,q0,Int.lt_trans q1 (),Int.add_nonneg (Int.mul_nonneg hb ()) q0,1)
  .rintro σ H' ⟨x,b,kv,rfl,aa,ac,hb,rfl⟩;exact[0:(sml rfl):λp U=>k p _ U (qf U _) [_:qg:hb]]
abbrev Nm4 (zs:oj Str):Prop:=1<=↑zs/\↑zs<=20/\∀z>zs,nm z=v_/\↑z<=4
abbrev Wd (n:Nat)(z:Str):Prop:=Jw z=v_/\↑z<=n
def iE.of (s:ic H H'):iE p H H':=λb o e _=>s b o e
def lY.ne_strs {l:o3}(h:lY H p)(e:H l=u_ (.lst (zs.map V.str))):l≠p:=λz=>by
 erw[h,x,e2,_];rw[<-z,e] at e2;cases zs with
 |nil=>rw[e2,0]|cons a r=>simp at e2
inductive On:Sp
 |mk (p L:Addr)(zs:List Str)(_:vs= [-p,-L])(_:lY H p)(_:H L=u_ (.lst (zs.map V.str)))(_:Nm4 zs)(_:∀(z:Str)(H':Hp),Wd 4 z->lY H' p->iE p H H'->Q (!z) H')
inductive OF:Sp
 |mk (p L:Addr)(zs:List Str)(many k:Nat)(_:vs= [-p,-L,.int (many:Int),.int (k:Int)])(_:lY H p)(_:H L=u_ (.lst (zs.map V.str)))(_:Nm4 zs)(_:1<=many)(_:many<=12)(_:k<=12)(_:∀(z:Str)(H':Hp),Wd 20 z->lY H' p->iE p H H'->Q (!z) H')
abbrev FIV:oj Str:= ["","x","b1 g","yes","c/d"]
def AbU:∀z>FIV,Wd 4 z:=by
 have:∀z>FIV,Jw z=v_/\↑z<=4:=by decide+kernel
 exact this
def Nt (h:nm z=v_):Jw z=true:=En (Nr h)
def AcI (h:Nm4 zs):∀z>zs++FIV,Wd 4 z:=λz hz=>by
 rcases Ae.mp hz with h1|h1
 .exact[Nt (h.2.2 z h1).1:(h.2.2 z h1).2]
 .exact AbU z h1
def Wd.cat {m k:Nat}{y:Str}(h:Wd n x)(h':Wd m y)(e:n+m<=k):Wd k (x++y):=⟨Eo h.1 h'.1,by rw[IJ];have:=h.2;have:=h'.2;omega⟩
def EH:∀{l:oj Str},(∀z>l,Jw z=v_)->Wd ((l.map (·.length)).sum+↑l) (Vl " " l)
 | [],_=>[1:uS _]| [z],h=>⟨h z (by simp),by show ↑z<=_;simp⟩|z::y::r,h=>by
  let U:=EH (l:=y::r) λx Z=>h x (uh _ Z);let hz:=h z (by simp)
  let e:=L2.xf z y r;rw[_,?_,?_]
  .show(Vl " " (z::y::r)).cps.toList.all QE=v_;rw[e,UY,vN,show z.cps.toList.all QE=v_ from hz,show(Vl " " (y::r)).cps.toList.all QE=v_ from U.1]
   decide
  .rw[AG,e,uw,um,<-AG,<-AG];let h1:=U.2;simp![uC,UN,um] at h1⊢;omega
abbrev WL:oj Str:= ["ask","ask","ask","has","names","text","text","copy","put","put","join","first","first","rest","size","cut","glue","like","none","rowed","go","say","fault","self"]
nonrec abbrev WTX:Str:="ask ask ask has names text text copy put put join first first rest size cut glue like none rowed"
def Aar:spl ((WTX++(" go say fault self":Str)).length+1) (WTX++(" go say fault self":Str))=WL:=by decide+kernel
def AcH:∀z>WL,Wd 5 z:=by
 have:∀z>WL,Jw z=v_/\↑z<=5:=by decide+kernel
 exact this
def Ace:∀c>("abcdh":Str).cps.toList,QE c=true:=by decide+kernel
def NV {d:Int}(h0:0<=d)(h1:d<5):∃c,atI ("abcdh":Str).cps.toList d=u_ c/\Wd 1 ⟨#[c]⟩:=by
 obtain⟨c,U⟩:=yT (xs:=("abcdh":Str).cps.toList) h0 (by show d<5;exact h1)
 rw[_,c,U,?_,uq _];show [c].all QE=v_;rw[vN,Ace c (Y2 U)]
 rfl
def Abz:∀k:Nat,k<13->Jw (Vm (k:Int):Str)=v_/\↑(Vm (k:Int):Str)<=2:=by decide+kernel
def Ay:#[T,2,a.kH,a.Ki,["pot","names"],On]:=by
 let qH:=#[jC,T];rw[9,T.iF,wS]
 erw[h,p,L,zs,rfl,hP,hL,Z,k];let hs:=uD;let ac:=Z.1;let ad:=Z.2.1;rw[3,%[#[qE,(2),wS.nd,#[qT,Wu,pv 1,#[QF,#v[ql,ql,ql,ql,ql]]]]|#[qo,#[qG,QR,pv 2,#[qp,qH,T.ig,#v[pv 0,#[qx,qB,T.QN,uJ,#v[pv 2]]]]]]]]
 rw[0,(sml rfl),λq hq=>?_];let s1:ic H (upd H q (.lst [-"",-"x",-"b1 g",-"yes",-"c/d"])):=qf hq _
 rw[_,L,q,_,0,1,s1 _ _ hL,qg,(by rw[u9];show _+5<=Vh;omega),λl hl=>?_]
 let s2:=s1.trans (qf hl (.lst (zs.map V.str++ [-"",-"x",-"b1 g",-"yes",-"c/d"])));let U:(upd (upd H q (.lst [-"",-"x",-"b1 g",-"yes",-"c/d"])) l (.lst (zs.map V.str++ [-"",-"x",-"b1 g",-"yes",-"c/d"]))) l=u_ (.lst ((zs++FIV).map V.str)):=by rw[qg,uA];rfl
 generalize upd (upd H q (.lst [-"",-"x",-"b1 g",-"yes",-"c/d"])) l (.lst (zs.map V.str++ [-"",-"x",-"b1 g",-"yes",-"c/d"]))=H2 at s2 U⊢;let P2:=hP.same s2;let l5:↑((zs++FIV).map V.str)=↑zs+5:=by rw[u9,uw];rfl
 rw[5]
 refine(0,0,0,l,0,.inl (SqL.of U),p,0,P2,by rw[l5];omega,by rw[l5];omega,λd H' d0 d1 P3 K3=>?_)
 let aa:=K3 _ _ U (P2.ne_strs U);erw[yT (xs:=(zs++FIV).map V.str) d0 d1,v,hv];erw[Af.mp (Y2 hv),z,hz,rfl,<-(l,_,d,0,1,SqL.of aa,hv,k z H' (AcI Z z hz) P3 ((iE.of s2).trans K3))]
def AdQ {c:Nat}:∀{l:oj Str},(∀z>l,↑z<=c)->(l.map (·.length)).sum<=↑l*c
 | [],_=>by simp|z::r,h=>by
  have:=AdQ λy U=>h y (uh _ U);have:=h z uj;simp![uC,UN,um,FW,Rm];omega
def Ml {K:o0}(hl:↑l<=3)(hz:Wd 5 z)(h:∀z>l,Wd 2 z)(k:∀y H',Wd 20 y->ic H H'->Q (!y) H'):↑((z::l).map V.str)<=Vh/\∀p,H p=U_->Aba K (-" ") [-p] (upd H p (.lst ((z::l).map V.str))) Q:=by
 let hs:=uD;let h1:=AdQ (c:=2) λz hz=>(h z hz).2;let h2:=hz.2;refine⟨by rw[u9,um];omega,λp Z=>(" ",p,z::l,1,1,SqL.of qg,?_,?_)⟩
 .let e:(" ":Str).length=1:=rfl;rw[e];simp![uC,UN,um];omega
 .have:=EH (l:=z::l) λy U=>by
   rcases Ab.mp U with rfl|U
   .exact hz.1
   .exact(h y U).1
  refine k _ _ [this.1:?_] (qf Z _);let h3:=this.2;simp![uC,UN,um] at h3;omega
def PH:#[T,3,a.kP,a.Kh,["pot","names","many","k"],OF]:=by
 let qH:=#[jC,T];let Q5:=#[Ay,T];rw[9,T.nc,yz]
 erw[h,p,L,zs,many,i,rfl,hP,hL,hN,aA,aB,hi,k];rw[3,%[#[qE,(4),yz.nd,ql],#[qE,(5),yz.nd,#[qG,QR,#[YQ,vc,Uu,Uv,BO,#[qT,Qv,pv 4,ql],#v[ql]],#[qp,qH,T.ig,#v[pv 0,qh]]]],#[BD,6,#[XI,["j","pot"],[0],Nx (qj xy) ["pot","names","many","k","words","word","one","two","three","at"],#[Yv,#v[qh]],(λ_ _ _ _ _ _=>#[qM,(0),(show Vr (["j","pot"]:oj Str) by decide+kernel)]),(λ_ _ _ _ _ _=>#[qG,BY,ql,#[qp,qH,T.ig,#v[pv 1,qh]]])],#[Pl,6,rfl,Qt #[qM,(6),yz.nd] (Qt #[qM,(7),yz.nd] (Qt #[qM,(8),yz.nd] xl)),_,_],_,_,_],#[qE,(9),yz.nd,#[Qa,JF,T.wb,V2,#v[#[qx,#[sO,1,rfl],T.z_min,boot_min,#v[pv 2,#[qT,QM,#[qT,QM,pv 3,qh],#[qp,qH,T.ig,#v[pv 0,pv 2]]]]]]]],#[qI,#[qm,Qg,pv 5,ql],%[|#[qo,#[qT,Qv,#[qT,Qv,#[qT,Qv,ql,pv 6],ql],#[qp,Q5,T.iF,#v[pv 0,pv 1]]]]],qr],#[qI,#[qm,8,QP,pv 5,#[QF,#v[ql,ql]],#[w]],%[|#[qo,#[qT,Qv,#[qT,Qv,pv 5,ql],pv 6]]],qr],#[qI,#[qm,Qg,pv 5,ql],%[|#[qo,pv 5]],qr],#[qI,#[qm,Qg,pv 5,ql],%[|#[qo,#[qT,Qv,ql,pv 9]]],qr],#[qI,#[qm,8,QP,pv 5,#[QF,#v[ql,ql]],#[w]],%[|#[qo,#[YQ,vc,Uh,Ui,qac,ql,#v[#[QF,#v[pv 5,pv 6,pv 9]]]]]],qr],#[qI,#[qm,Qg,pv 5,ql],%[|#[qo,#[YQ,vc,Uh,Ui,qac,ql,#v[#[QF,#v[pv 5,pv 6,pv 7,pv 9]]]]]],qr],#[qI,#[qm,8,QP,pv 5,#[QF,#v[ql,ql]],#[w]],%[|#[qo,#[YQ,vc,Uh,Ui,qac,ql,#v[#[QF,#v[pv 5,pv 6,pv 7,pv 8]]]]]],qr]|#[qo,#[YQ,vc,Uh,Ui,qac,ql,#v[#[QF,#v[pv 5,pv 6,pv 7]]]]]]]
 rw[0,_,0,1,(),1,0,1,(),λq hq=>?_]
 rw[show spl _ _=WL from Aar]
 let s1:ic H (upd H q (.lst (WL.map V.str))):=qf hq _;let eq:(upd H q (.lst (WL.map V.str))) q=u_ (.lst (WL.map V.str)):=qg;generalize upd H q (.lst (WL.map V.str))=H1 at s1 eq⊢;let P1:=hP.same s1
 rw[0,p,(24),1,P1,(),(),λd H2 d0 d1 P2 K2=>?_]
 obtain⟨v,hv⟩:=yT (xs:=WL.map V.str) d0 (by show d<24;exact d1)
 erw[Af.mp (Y2 hv),z,hz,rfl]
 rw[_,q,_,d,0,1,SqL.of (K2 _ _ eq (P1.ne_strs eq)),hv];let aa:=AcH z hz;let ak:iE p H H2:=(iE.of s1).trans K2;clear K2 hv hz eq P1 s1 hq
 rw[_,(3),1,(),(),λD hD=>?_]
 refine wk (lo:=0) (tl:= [u_ (-p)]) (λi ys H'=>∃bs:oj Str,ys=bs.map V.str/\↑bs=i/\(∀b>bs,Wd 1 b)/\lY H' p/\(∀b o,H2 b=u_ o->b≠p->H' b=u_ o)) (yS ()) ([],1,1,λb hb=>by simp at hb,P2.same (qf hD _),λb o e _=>qf hD _ _ _ e) ?_ ?_
 .rintro j ys H' hj ⟨bs,rfl,ac,Z,P',K'⟩ ad U R hR
  rw[0,p,(5),1,P',(),(),λd3 H4 e0 e1 P4 K4=>?_]
  erw[NV e0 e1,c,hc,ao]
  rw[_,"abcdh",d3,c,1,1,(),hc]
  let nD:D≠p:=(P2.free hD).symm;refine hR _ H4 (K4 _ _ ad nD) (bs++ [⟨#[c]⟩],by rw[uA];rfl,by rw[uw,ac];rfl,λb hb=>?_,?_,λb o e np=>?_)
  .rcases Ae.mp hb with h|h
   .exact Z b h
   .rw[UA] at h;subst h;exact ao
  .erw[P4,x,e2,h2,<-⟨x,by rwa[qi nD.symm],h2⟩]
  .rw[qi (qk e hD)];exact K4 _ _ (K' b o e np) np
 .rintro ys H' ⟨bs,rfl,ac,Z,P',K'⟩ ad;obtain⟨x1,x2,x3,rfl⟩:∃x1 x2 x3,bs= [x1,x2,x3]:=by
   match bs,ac with
   | [x1,x2,x3],_=>exact(x1,x2,x3,1)
  let h1:Wd 2 x1:=⟨(Z x1 (by simp)).1,by have:=(Z x1 (by simp)).2;omega⟩
  let h2:Wd 2 x2:=⟨(Z x2 (by simp)).1,by have:=(Z x2 (by simp)).2;omega⟩
  let h3:Wd 2 x3:=⟨(Z x3 (by simp)).1,by have:=(Z x3 (by simp)).2;omega⟩
  let KD:iE p H H':=λb o e np=>K' b o (ak b o e np) np
  rw[_,D,0,SqL.of ad,1,_,0,_,0,_,0,1];clear K' ak P2 Z ac ad
  rw[0,0,_,0,1,0,0,p,many,1,P',(),(),λd5 H5 f0 f1 P5 K5=>(_,0,1,_,0,?_)]
  obtain⟨j,ej,ap,aq⟩:∃j:Int,j=(if(i:Int)+5+d5<(many:Int) then(i:Int)+5+d5 else(many:Int))/\1<=j/\j<=12:=⟨0,by split<;>omega,by split<;>omega⟩
  rw[<-ej];obtain⟨jn,rfl⟩:∃n:Nat,j=(n:Int):=[j.toNat:()]
  let al:=Abz jn ()
  let h4:Wd 2 (Vm ((jn:Nat):Int):Str):=al;let af:((jn:Nat):Int).natAbs.log2<1920:=by have:=TN ((jn:Nat):Int).natAbs;omega
  rw[0,af];let ag:iE p H H5:=KD.trans K5;let au:=ag _ _ hL (hP.ne_strs hL);let fin:∀(y:Str) (H':Hp),Wd 20 y->ic H5 H'->Q (!y) H':=λy H' U s'=>k y H' U (P5.same s') (ag.trans (iE.of s'));let two:(2:Nat)<=sizeLine:=by decide
  let bl:Wd 1 " ":=[():uq _]
  let fz:∀{n m:Nat}{x y:Str},Wd n x->Wd m y->n+m<=100->↑x+↑y<=sizeLine:=λhx U h=>nj (by have:=hx.2;have:=U.2;omega)
  let tx:Wd 5 "text ":=[():uq _]
  let go:Wd 3 "go ":=[():uq _]
  clear al ap aq af ej
  rw[0,1,0,iY (λ_=>?_) (λ_=>?_)]
  .let w1:=tx.cat h1 (k:=7) ()
   let w2:=w1.cat bl (k:=8) ()
   rw[0,_,0,1,fz tx h1 (),_,0,1,fz w1 bl (),0,0,p,L,zs,1,P5,au,hN,λy H6 U P6 K6=>?_]
   exact(_,0,1,fz w2 U (),k _ H6 (w2.cat U ()) P6 (ag.trans K6))
  rw[0,two,λl1 aw=>(l1,0,.inl (SqL.of qg),1,1,0,?_)];let ae:=qf aw (.lst ([-"self",-"say"]:oj V));refine iY (λ_=>?_) (λ_=>?_)
  .let w1:=aa.cat bl (k:=6) ()
   exact(0,_,0,1,fz aa bl (),0,_,0,1,fz w1 h1 (),fin _ _ (w1.cat h1 ()) ae)
  rw[0,1,0,iY (λ_=>?_) (λ_=>?_)]
  .exact⟨0,fin _ _ ⟨aa.1,by have:=aa.2;omega⟩ ae⟩
  rw[0,1,0,iY (λ_=>?_) (λ_=>?_)]
  .exact(0,_,0,1,fz go h4 (),fin _ _ (go.cat h4 ()) ae)
  rw[0,two,λl2 ax=>(l2,0,.inl (SqL.of qg),1,1,0,?_)];let ah:=ae.trans (qf ax (.lst ([-"none",-"rowed"]:oj V)));refine iY (λ_=>?_) (λ_=>?_)
  .rw[1,0,0,0];exact Ml (l:= [x1,Vm ((jn:Nat):Int)]) (by simp) aa (λy U=>by simp at U;rcases U with rfl|rfl<;>assumption) λy H' U s'=>fin y H' U (ah.trans s')
  rw[0,1,0,iY (λ_=>?_) (λ_=>?_)]
  .rw[1,0,0,0,0];exact Ml (l:= [x1,x2,Vm ((jn:Nat):Int)]) (by simp) aa (λy U=>by simp at U;rcases U with rfl|rfl|rfl<;>assumption) λy H' U s'=>fin y H' U (ah.trans s')
  rw[0,two,λl3 ay=>(l3,0,.inl (SqL.of qg),1,1,0,?_)];let am:=ah.trans (qf ay (.lst ([-"cut",-"glue"]:oj V)));refine iY (λ_=>?_) (λ_=>?_)
  .rw[1,0,0,0,0];exact Ml (l:= [x1,x2,x3]) (by simp) aa (λy U=>by simp at U;rcases U with rfl|rfl|rfl<;>assumption) λy H' U s'=>fin y H' U (am.trans s')
  .rw[1,0,0,0];exact Ml (l:= [x1,x2]) (by simp) aa (λy U=>by simp at U;rcases U with rfl|rfl<;>assumption) λy H' U s'=>fin y H' U (am.trans s')
abbrev S8 (d:D):Prop:=isT d=v_/\lw d=v_/\sz d<=300
inductive Dm:Sp
 |mk (p L:Addr)(zs:List Str)(_:vs= [-p,-L])(_:lY H p)(_:H L=u_ (.lst (zs.map V.str)))(_:Nm4 zs)(_:∀(v:V)(d:D)(H':Hp),S8 d->Is H' d v->lY H' p->iE p H H'->Q v H')
def IsL.ofStrz {H:Hp}:∀{l:oj Str},(∀z>l,↑z<=1000)->L2.IsL H (l.map D.str) (l.map V.str)
 | [],_=>rfl|z::r,h=>(_,0,[1:yS (h z uj)],IsL.ofStrz λy U=>h y (uh _ U))
def Bj {n:Nat}:∀{l:oj Str},(∀z>l,↑z<=n)->szL (l.map D.str)<=↑l*(n+1)
 | [],_=>by simp[szL]|z::r,h=>by
  have:=Bj (n:=n) λy U=>h y (uh (a:=y) z U);have:=h z uj;simp![uC,szL,sz,um,FW,Rm];omega
def Ey:∀{l:oj Str},(∀z>l,Jw z=v_)->lwL (l.map D.str)=v_
 | [],_=>rfl|z::r,h=>by
  rw[uC,lwL,Ey λy U=>h y (uh _ U),Uf];exact h z uj
def Im:∀l:oj Str,dpL (l.map D.str)<=1
 | []=>by simp[dpL]|z::r=>by have:=Im r;simp![uC,dpL,dp];omega
def sr:∀{l:oj Str},(∀z>l,Wd 300 z)->goodL (l.map D.str)=v_
 | [],_=>rfl|z::r,h=>by
  rw[uC,goodL,sr λy U=>h y (uh _ U),Uf];show QB z=v_;unfold QB;have:=h z uj;rw[uc this.2];exact this.1
def Aav (h:Wd 20 z):S8 (!z):=⟨EN h.1 (by have:=h.2;omega),h.1,by simp![sz];have:=h.2;omega⟩
def Bh (U:↑l<=14)(h:∀z>l,Wd 20 z):S8 (.tup (l.map D.str)):=by
 let h1:=Bj λz hz=>(h z hz).2;let h2:=Im l;let h3:=sr λz hz=>(⟨(h z hz).1,by have:=(h z hz).2;omega⟩:Wd 300 z)
 let e:sz (.tup (l.map D.str))<=300:=by simp![sz];omega
 rw[_,?_,by simpa only [lw] using Ey λz hz=>(h z hz).1,e]
 let e2:dp (.tup (l.map D.str))<=12:=by simp![dp];omega
 unfold isT;rw[uc (show sz (.tup (l.map D.str))<=600 by omega),uc e2]
 simp![iZ];rw[h3,u9,uc (show ↑l<=40 by omega)]
 rfl
def qaw {t:o3}(h:∀z>l,Wd 20 z)(U:H t=U_):Is (upd H t (.tup (l.map V.str))) (.tup (l.map D.str)) (-t):=
 Is.new (IsL.ofStrz λz hz=>by have:=(h z hz).2;omega) U
abbrev MKL (z:Str):oj Str:= ["row h","text b "++z,"ask c b","text a text d ","join a c","put h a","text a ask e d","put h a","text a say e","put h a","say h"]
def Nv (h:Wd 4 z):∀y>MKL z,Wd 20 y:=by
 let U:∀y>(["row h","ask c b","text a text d ","join a c","put h a","text a ask e d","put h a","text a say e","put h a","say h"]:oj Str),Jw y=v_/\↑y<=20:=by decide+kernel
 intro y Z;rcases Ab.mp Z with rfl|Z
 .exact U _ (by simp)
 .rcases Ab.mp Z with rfl|Z
  .exact Wd.cat (n:=7) (m:=4) [():uq _] h ()
  .exact U y (uh _ Z)
def LN:#[T,2,a.Wv,a.Wc,["pot","names"],Dm]:=by
 let qH:=#[jC,T];rw[9,T.mT,js]
 erw[h,p,L,zs,rfl,hP,hL,hN,k];let ac:=hN.1;let ad:=hN.2.1;rw[3,%[#[qE,(2),js.nd,#[qG,QR,pv 1,#[qp,qH,T.ig,#v[pv 0,#[qx,qB,T.QN,uJ,#v[pv 1]]]]]],#[qE,(3),js.nd,#[QF,#v[ql,#[qT,Qv,ql,pv 2],ql,ql,ql,ql]]],#[qE,(3),js.nd,#[qT,Wu,pv 3,#[QF,#v[ql,ql,ql,ql,ql]]]]|#[qo,#[Qa,Qe,T.QW,vH,#v[pv 3]]]]]
 let aa:=hP.ne_strs hL
 rw[5]
 refine(0,0,0,L,0,.inl (SqL.of hL),p,0,hP,by rw[u9];omega,by rw[u9];omega,λd1 H1 a0 a1 P1 K1=>?_)
 erw[yT (xs:=zs.map V.str) a0 a1,v,hv];erw[Af.mp (Y2 hv),z,hz,rfl];let U:Wd 4 z:=[Nt (hN.2.2 z hz).1:(hN.2.2 z hz).2]
 rw[_,L,_,_,0,1,SqL.of (K1 _ _ hL aa),hv];let e7:("text b ":Str).length=7:=by decide+kernel
 rw[0,_,0,1,nj (by have:=U.2;omega),(sml rfl),λZ h1=>?_]
 let q1:=qf h1 (.lst (((MKL z).take 6).map V.str));let e1:(upd H1 Z (.lst (((MKL z).take 6).map V.str))) Z=u_ (.lst (((MKL z).take 6).map V.str)):=qg;show nz _ _ _ _ (upd H1 Z (.lst (((MKL z).take 6).map V.str)));generalize upd H1 Z (.lst (((MKL z).take 6).map V.str))=H2 at q1 e1⊢
 rw[0,(sml rfl),λl2 h2=>?_];let q2:=qf h2 (.lst (((MKL z).drop 6).map V.str))
 rw[_,Z,l2,_,0,1,q2 _ _ e1,qg,nj (by show 6+5<=16000000;decide),λl3 h3=>?_]
 let q3:=q2.trans (qf h3 (.lst ((MKL z).map V.str)))
 rw[0,l3,(MKL z).map V.str,1,.inl [SqL.of qg:λt ht=>?_]];let q4:=qf ht (.tup ((MKL z).map V.str));exact k _ _ _ (Bh (by show 11<=14;decide) (Nv U)) (qaw (Nv U) ht) ((P1.same q1).same (q3.trans q4)) (K1.trans (iE.of (q1.trans (q3.trans q4))))
def Ef:#[T,4,a.k8,a.kj,["pot","names"],Dm]:=by
 let qH:=#[jC,T];let Q5:=#[Ay,T];let U:=#[PH,T];rw[9,T.mC,Jf]
 erw[h,p,L,zs,rfl,hP,hL,hN,k];rw[3,%[#[qE,(2),Jf.nd,#[qT,QM,qh,#[qp,qH,T.ig,#v[pv 0,qh]]]],#[qE,2,(3),4,Jf.nd,rfl,GU rfl,#[qT,QM,pv 2,qh],_,_],#[qE,(4),Jf.nd,#[QF,#v[#[qT,Qv,ql,#[qp,Q5,T.iF,#v[pv 0,pv 1]]],#[qT,Qv,ql,#[qp,Q5,T.iF,#v[pv 0,pv 1]]],ql]]],#[qW,#[YQ,uO,PySem.F.slot_list_extend,PySem.F.type_list_extend,oT,pv 4,#v[#[XI,["k","pot","names","many"],[0,1,3],Nx (qj xr) ["pot","names","body","many","lines"],#[Yv,#v[pv 2]],(λ_ _ _ _ _ _=>#[qM,(0),(show Vr (["k","pot","names","many"]:oj Str) by decide+kernel)]),(λ_ _ _ _ _ _=>#[qp,U,T.nc,#v[pv 1,pv 2,pv 3,pv 0]])]]]]|#[qo,#[Qa,Qe,T.QW,vH,#v[#[qT,Wu,pv 4,#[QF,#v[#[qT,Qv,ql,#[qG,BY,ql,#[qp,qH,T.ig,#v[pv 0,qh]]]]]]]]]]]]
 rw[0,p,(8),1,hP,(),(),λd1 H1 a0 a1 P1 K1=>(_,0,1,?_)]
 obtain⟨nb,ak,aH,aI⟩:∃nb:Nat,1+d1=(nb:Int)/\1<=nb/\nb<=8:=((1+d1).toNat,(),(),())
 let ac:=K1 _ _ hL (hP.ne_strs hL)
 try dsimp only
 rw[ak];clear ak a0 a1
 rw[0,_,0,1];let ta:Wd 7 "text a ":=[():uq _]
 let tb:Wd 7 "text b ":=[():uq _]
 let fz:∀{n m:Nat}{x y:Str},Wd n x->Wd m y->n+m<=100->↑x+↑y<=sizeLine:=λhx Z h=>nj (by have:=hx.2;have:=Z.2;omega)
 rw[0,0,p,L,zs,1,P1,ac,hN,λz1 H5 al P5 K5=>(_,0,1,fz ta al (),?_)]
 let ad:=K5 _ _ ac (P1.ne_strs ac)
 rw[0,0,p,L,zs,1,P5,ad,hN,λz2 H6 am P6 K6=>(_,0,1,fz tb am (),(sml rfl),λl hl=>?_)]
 let aw:=K6 _ _ ad (P5.ne_strs ad);let ao:iE p H H6:=(K1.trans K5).trans K6;let s7:=qf hl (.lst (["text a "++z1,"text b "++z2,"row h"].map V.str));let e7:(upd H6 l (.lst (["text a "++z1,"text b "++z2,"row h"].map V.str))) l=u_ (.lst (["text a "++z1,"text b "++z2,"row h"].map V.str)):=qg;let P7:=P6.same s7;let ae:=s7 _ _ aw;let K7:iE p H (upd H6 l (.lst (["text a "++z1,"text b "++z2,"row h"].map V.str))):=ao.trans (iE.of s7);let aa:∀y>(["text a "++z1,"text b "++z2,"row h"]:oj Str),Wd 20 y:=λy Z=>by
  simp![uG,uL,uV] at Z;rcases Z with rfl|rfl|rfl
  .exact ta.cat al ()
  .exact tb.cat am ()
  .exact[():()]
 show nz _ _ _ _ (upd H6 l (.lst (["text a "++z1,"text b "++z2,"row h"].map V.str)));generalize upd H6 l (.lst (["text a "++z1,"text b "++z2,"row h"].map V.str))=H7 at e7 P7 ae K7⊢;let ax:(["text a "++z1,"text b "++z2,"row h"]:oj Str).length=3:=rfl;generalize (["text a "++z1,"text b "++z2,"row h"]:oj Str)=th at e7 aa ax⊢
 rw[0,.inl [1:_:SqL.of e7]]
 rw[0,nb,1,(),(),λD hD=>?_]
 let nD:D≠p:=(P7.free hD).symm;let nl:l≠p:=P7.ne_strs e7;refine wk (lo:=0) (n:=nb) (tl:= [u_ (-p),u_ (-L),u_ (.int ((nb:Int)+4))]) (λi ys H'=>∃rs:oj Str,ys=rs.map V.str/\↑rs=i/\(∀r>rs,Wd 20 r)/\lY H' p/\(∀b o,H7 b=u_ o->b≠p->H' b=u_ o)) (yS ()) ([],1,1,λb hb=>by simp at hb,P7.same (qf hD _),λb o e _=>qf hD _ _ _ e) ?_ ?_
 .rintro j ys H' hj ⟨rs,rfl,ap,af,P',K'⟩ ag Z R hR;let ay:=K' _ _ ae (P7.ne_strs ae)
  rw[0,0,0,0,p,L,zs,nb+4,j,?_,P',ay,hN,(),(),(),λr H8 aA P8 K8=>?_]
  .rw[show(0:Int)+(j:Int)=(j:Int) by omega,show((nb+4:Nat):Int)=(nb:Int)+4 by omega]
   rfl
  .refine hR _ H8 (K8 _ _ ag nD) (rs++ [r],by rw[uA];rfl,by rw[uw,ap];rfl,λb hb=>?_,?_,λb o e np=>?_)
   .rcases Ae.mp hb with h|h
    .exact af b h
    .rw[UA] at h;subst h;exact aA
   .erw[P8,x,e2,h2,<-⟨x,by rwa[qi nD.symm],h2⟩]
   .rw[qi (qk e hD)];exact K8 _ _ (K' b o e np) np
 .rintro ys H' ⟨rs,rfl,ap,af,P',K'⟩ ag;let e8:=K' _ _ e7 nl
  rw[_,l,D,_,0,1,e8,ag,nj (by rw[u9,u9];omega)]
  let e9:(upd H' l (.lst (th.map V.str++rs.map V.str))) l=u_ (.lst ((th++rs).map V.str)):=by rw[qg,uA]
  let P9:lY (upd H' l (.lst (th.map V.str++rs.map V.str))) p:=by
   erw[P',x,e2,h2,<-⟨x,by rwa[qi nl.symm],h2⟩]
  let K9:iE p H (upd H' l (.lst (th.map V.str++rs.map V.str))):=λb o e np=>by
   rw[qi (qk (ao b o e np) hl)];exact K' b o (K7 b o e np) np
  generalize upd H' l (.lst (th.map V.str++rs.map V.str))=H9 at e9 P9 K9⊢
  rw[0,0,p,(5),1,P9,(),(),λd9 aJ g0 g1 aB aq=>?_]
  erw[NV g0 g1,c9,hc,aC];let aD:=aq _ _ e9 nl
  rw[_,"abcdh",d9,c9,1,1,(),hc,_,0,1,(by show("say ":Str).length+1<=Vh;decide+kernel),(sml rfl),λq1 aE=>?_]
  let au:=qf aE (.lst [.str ("say "++⟨#[c9]⟩)]);let hw:Wd 20 ("say "++⟨#[c9]⟩:Str):=Wd.cat (n:=4) (m:=1) [():uq _] aC ()
  rw[_,l,q1,_,0,1,au _ _ aD,qg,nj (by rw[u9,uw];show _+1<=_;omega),λq2 aF=>?_]
  let aG:=au.trans (qf aF (.lst ((th++rs).map V.str++ [.str ("say "++⟨#[c9]⟩)])))
  rw[_,q2,0,.inl [SqL.of qg:λt ht=>?_]];let ah:=aG.trans (qf ht (.tup ((th++rs).map V.str++ [.str ("say "++⟨#[c9]⟩)])));let all:∀y>th++rs++ [("say "++⟨#[c9]⟩:Str)],Wd 20 y:=λy Z=>by
   rcases Ae.mp Z with Z|Z
   .rcases Ae.mp Z with Z|Z
    .exact aa y Z
    .exact af y Z
   .rw[Ac.mp Z,0];exact hw
  let em:(th++rs).map V.str++ [.str ("say "++⟨#[c9]⟩)]=(th++rs++ [("say "++⟨#[c9]⟩:Str)]).map V.str:=by rw[uA (l₁:=th++rs)];rfl
  rw[em] at ah ht⊢;refine k _ _ _ (Bh (l:=th++rs++ [("say "++⟨#[c9]⟩:Str)]) (by simp![uw,Ue];omega) all) (qaw all ht) (aB.same ah) ((K9.trans aq).trans (iE.of ah))
def IY {y:Str}(hz:Wd 20 z)(U:Wd 20 y):S8 (-[-[!z,-[]],!y]):=by
 let h1:=hz.2;let h2:=U.2;let Z:QB z=true:=by unfold QB;rw[uc (show ↑z<=300 by omega)];exact hz.1
 let g2:QB y=true:=by unfold QB;rw[uc (show ↑y<=300 by omega)];exact U.1
 let e:sz (-[-[!z,-[]],!y])<=300:=by simp![sz,szL];omega
 rw[_,?_,by simp[lw,lwL,hz.1,U.1],e]
 unfold isT;rw[uc (show sz (-[-[!z,-[]],!y])<=600 by omega),uc (show dp (-[-[!z,-[]],!y])<=12 by simp![dp,dpL];omega)]
 simp[iZ,goodL,Z,g2]
inductive Ot:Sp
 |mk (p L:Addr)(zs:List Str)(_:vs= [-p,-L])(_:lY H p)(_:H L=u_ (.lst (zs.map V.str)))(_:Nm4 zs)(_:∀(v:V)(d:D)(H':Hp),qah d->Is H' d v->lY H' p->iE p H H'->Q v H')
def Aaw {k:Str}{d:D}(U:k="leaf"\/k="rule")(h:S8 d):qah (-[!k,d]):=Ld U h.1 h.2.1 h.2.2
def Ol {k:Str}{d:D}(U:k="leaf"\/k="rule")(h:S8 d)(hv:Is H d v)(q:∀t H',ic H H'->Is H' (-[!k,d]) (-t)->qah (-[!k,d])->Q (-t) H'): [V.str k,v].length<=Vh/\∀t,H t=U_->Q (-t) (upd H t (-[!k,v])):=by
 rw[_,sml rfl,λt Z=>q t _ (qf Z _) (Is.new (ds:= [!k,d]) (_,0,[1:?_],_,0,hv,1) Z) (Aaw U h)];rcases U with rfl|rfl<;>decide+kernel
def PJ:#[T,5,a.kU,a.kt,["pot","names"],Dm]:=by
 let qH:=#[jC,T];let Q5:=#[Ay,T];let zT:=#[Ef,T];rw[9,T.mD,Wr]
 erw[h,p,L,zs,rfl,hP,hL,hN,k];let aa:∀{z:Str},Wd 4 z->Wd 20 z:=λh=>⟨h.1,by have:=h.2;omega⟩
 rw[3,%[#[qE,(2),Wr.nd,#[qp,qH,T.ig,#v[pv 0,qh]]],#[qI,#[qm,qam,pv 2,qh],%[|#[qo,#[qp,Q5,T.iF,#v[pv 0,pv 1]]]],qr],#[qI,#[qm,Qg,pv 2,qh],%[|#[qo,#[Qa,Qe,T.QW,vH,#v[#[XI,["k","pot","names"],[0,1],Nx (qj xo) ["pot","names","kind"],#[Yv,#v[#[qp,qH,T.ig,#v[pv 0,qh]]]],(λ_ _ _ _ _ _=>#[qM,(0),(show Vr (["k","pot","names"]:oj Str) by decide+kernel)]),(λ_ _ _ _ _ _=>#[qp,Q5,T.iF,#v[pv 1,pv 2]])]]]]],qr],#[qI,#[qm,Qg,pv 2,qh],%[|#[qo,#[qD,#v[#[qD,#v[#[qp,Q5,T.iF,#v[pv 0,pv 1]],#[qD,qd]]],#[qp,Q5,T.iF,#v[pv 0,pv 1]]]]]],qr],#[qI,#[qm,Qg,pv 2,qh],%[|#[qo,#[qp,zT,T.mC,#v[pv 0,pv 1]]]],qr]|#[qo,#[qD,#v[#[qT,Qv,ql,#[qp,Q5,T.iF,#v[pv 0,pv 1]]],ql,ql]]]]]
 rw[0,p,(6),1,hP,(),(),λd1 H1 a0 a1 P1 K1=>?_]
 let U:=K1 _ _ hL (hP.ne_strs hL)
 rw[0,_,0,1,0,iY (λ_=>?_) (λ_=>?_)]
 .exact(0,0,p,L,zs,1,P1,U,hN,λz H2 hz Z K2=>k _ _ H2 (Aav (aa hz)) ⟨1,nj (by have:=hz.2;omega)⟩ Z (K1.trans K2))
 rw[0,1,0,iY (λ_=>?_) (λ_=>?_)]
 .rw[0,p,(4),1,P1,(),(),λd2 H2 b0 b1 Z K2=>?_]
  let ac:=K2 _ _ U (P1.ne_strs U);obtain⟨n,rfl,hn⟩:∃n:Nat,d2=(n:Int)/\n<4:=[d2.toNat:():()]
  rw[_,n,1,(),(),λD hD=>?_]
  let nD:D≠p:=(Z.free hD).symm;refine wk (lo:=0) (n:=n) (tl:= [u_ (-p),u_ (-L)]) (λi ys H'=>∃rs:oj Str,ys=rs.map V.str/\↑rs=i/\(∀r>rs,Wd 20 r)/\lY H' p/\(∀b o,H2 b=u_ o->b≠p->H' b=u_ o)) (yS ()) ([],1,1,λb hb=>by simp at hb,Z.same (qf hD _),λb o e _=>qf hD _ _ _ e) ?_ ?_
  .rintro j ys H' hj ⟨rs,rfl,af,ad,P',K'⟩ ae hy R hR;let ao:=K' _ _ ac (Z.ne_strs ac)
   rw[0,0,p,L,zs,1,P',ao,hN,λr H8 ap P8 K8=>?_];refine hR _ H8 (K8 _ _ ae nD) (rs++ [r],by rw[uA];rfl,by rw[uw,af];rfl,λb hb=>?_,?_,λb o e np=>?_)
   .rcases Ae.mp hb with h|h
    .exact ad b h
    .rw[UA] at h;subst h;exact aa ap
   .erw[P8,x,e2,h2,<-⟨x,by rwa[qi nD.symm],h2⟩]
   .rw[qi (qk e hD)];exact K8 _ _ (K' b o e np) np
  .rintro ys H' ⟨rs,rfl,af,ad,P',K'⟩ ae
   rw[_,D,0,.inl [SqL.of ae:λt ht=>?_]];let s3:=qf ht (.tup (rs.map V.str));exact k _ _ _ (Bh () ad) (qaw ad ht) (P'.same s3) (λb o e np=>s3 _ _ (K' b o ((K1.trans K2) b o e np) np))
 rw[0,1,0,iY (λ_=>?_) (λ_=>?_)]
 .rw[0,0,p,L,zs,1,P1,U,hN,λz1 H2 ag Z K2=>[uS _:λt0 ah=>[sml rfl:λt1 ak=>?_]]];let ac:=K2 _ _ U (P1.ne_strs U);let s0:=qf ah (.tup ([]:oj V));let s1:=s0.trans (qf ak (-[!z1,-t0]));let i0:Is (upd H2 t0 (-[])) (-[]) (-t0):=Is.new (ds:= []) rfl ah;let i1:Is (upd (upd H2 t0 (-[])) t1 (-[!z1,-t0])) (-[!z1,-[]]) (-t1):=Is.new (ds:= [!z1,-[]]) (_,0,⟨1,nj (by have:=ag.2;omega)⟩,_,0,i0,1) ak
  generalize upd (upd H2 t0 (-[])) t1 (-[!z1,-t0])=H3 at s1 i1⊢;let P3:=Z.same s1
  rw[0,0,p,L,zs,1,P3,s1 _ _ ac,hN,λz2 H4 al P4 K4=>[sml rfl:λt2 am=>?_]];let s2:=qf am (-[-t1,!z2]);refine k _ _ _ (IY (aa ag) (aa al)) (Is.new (ds:= [-[!z1,-[]],!z2]) (_,0,i1.mono (P3.tk P4 K4),_,0,⟨1,nj (by have:=al.2;omega)⟩,1) am) (P4.same s2) ((((K1.trans K2).trans (iE.of s1)).trans K4).trans (iE.of s2))
 rw[0,1,0,iY (λ_=>?_) (λ_=>?_)]
 .exact(0,0,p,L,zs,1,P1,U,hN,λv d H2 hd hv Z K2=>k v d H2 hd hv Z (K1.trans K2))
 .let ta:Wd 7 "text a ":=[():uq _]
  rw[0,0,p,L,zs,1,P1,U,hN,λz H2 hz Z K2=>(_,0,1,nj (by have:=hz.2;have:=ta.2;omega),sml rfl,λt ht=>?_)]
  let all:∀y>(["text a "++z,"ask b a","say b"]:oj Str),Wd 20 y:=λy hy=>by
   simp![uG,uL,uV] at hy;rcases hy with rfl|rfl|rfl
   .exact ta.cat hz ()
   .exact[():()]
   .exact[():()]
  let s2:=qf ht (.tup ((["text a "++z,"ask b a","say b"]:oj Str).map V.str));exact k _ _ _ (Bh (by show 3<=14;decide) all) (qaw all ht) (Z.same s2) ((K1.trans K2).trans (iE.of s2))
def Ea:#[T,6,a.ZQ,a.Z5,["pot","names"],Ot]:=by
 let qH:=#[jC,T];let k9:=#[PJ,T];let zT:=#[Ef,T];let U:=#[LN,T];rw[9,T.md,zl]
 erw[h,p,L,zs,rfl,hP,hL,hN,k];let ae:=hN.1;let af:=hN.2.1;rw[3,%[#[qE,(2),zl.nd,#[qp,qH,T.ig,#v[pv 0,qh]]],#[qI,#[qm,qam,pv 2,qh],%[|#[qo,#[qD,#v[ql,#[qp,k9,T.mD,#v[pv 0,pv 1]]]]]],qr],#[qI,#[qm,qam,pv 2,qh],%[|#[qo,#[qD,#v[ql,#[qp,zT,T.mC,#v[pv 0,pv 1]]]]]],qr],#[qI,#[qm,Qg,pv 2,qh],%[|#[qo,#[qD,#v[ql,#[qp,U,T.mT,#v[pv 0,pv 1]]]]]],qr],@qI _ _ _ _ _ _ _ _ #[jT,#[qm,Qg,pv 2,qh],#[YJ,#[qm,Qg,#[qp,qH,T.ig,#v[pv 0,qh]],qh]]].pt %[|#[qo,#[qD,#v[ql,#[qp,k9,T.mD,#v[pv 0,pv 1]]]]]] qr|#[qo,#[qD,#v[ql,#[qG,QR,pv 1,#[qp,qH,T.ig,#v[pv 0,#[qx,qB,T.QN,uJ,#v[pv 1]]]]]]]]]]
 rw[0,p,(10),1,hP,(),(),λd1 H1 a0 a1 P1 K1=>?_]
 let aa:=K1 _ _ hL (hP.ne_strs hL);let fin:∀{H3 H2:Hp}{kk:Str}{d:D}{v:V},lY H3 p->iE p H H3->kk="leaf"\/kk="rule"->S8 d->Is H2 d v->lY H2 p->iE p H3 H2-> [V.str kk,v].length<=Vh/\∀t,H2 t=U_->Q (-t) (upd H2 t (-[!kk,v])):=λ{H3 H2 kk d v} P3 K3 hk hd Z P2 K2=>
  Ol hk hd Z λt H4 s4 i4 o4=>k _ _ H4 o4 i4 (P2.same s4) ((K3.trans K2).trans (iE.of s4))
 rw[0,_,0,1,0,iY (λ_=>?_) (λ_=>?_)]
 .exact(0,0,p,L,zs,1,P1,aa,hN,λv d H2 hd Z P2 K2=>fin P1 K1 (.inl rfl) hd Z P2 K2)
 rw[0,_,0,1,0,iY (λ_=>?_) (λ_=>?_)]
 .exact(0,0,p,L,zs,1,P1,aa,hN,λv d H2 hd Z P2 K2=>fin P1 K1 (.inr rfl) hd Z P2 K2)
 rw[0,1,0,iY (λ_=>?_) (λ_=>?_)]
 .exact(0,0,p,L,zs,1,P1,aa,hN,λv d H2 hd Z P2 K2=>fin P1 K1 (.inr rfl) hd Z P2 K2)
 show nz _ _ _ _ H1;refine qy λN0 n0=>n0 _ _ ?_;rw[8,BB,bb];let made:∀{H3:Hp},lY H3 p->iE p H H3->BB [u_ (V.ref p),u_ (V.ref L),u_ (V.int d1)] H3:=by
  intro H3 P3 K3;refine bb _ _ ?_;let ac:=K3 _ _ hL (hP.ne_strs hL)
  rw[5]
  refine(0,0,0,L,0,.inl (SqL.of ac),p,0,P3,by rw[u9];omega,by rw[u9];omega,λd2 H4 b0 b1 P4 K4=>?_)
  erw[yT (xs:=zs.map V.str) b0 b1,v,Z];erw[Af.mp (Y2 Z),z,hz,rfl]
  rw[_,L,_,_,0,1,SqL.of (K4 _ _ ac (P3.ne_strs ac)),Z,sml rfl,λt ht=>?_];let s4:=qf ht (-[-"made",!z]);let ad:=hN.2.2 z hz;exact k _ _ _ (Lc ad.1) (Is.new (ds:= [-"made",!z]) (_,0,[1:()],_,0,[1:nj ()],1) ht) (P4.same s4) ((K3.trans K4).trans (iE.of s4))
 rw[0,1,0,iY (λ_=>?_) (λ_=>?_)]
 .rw[0,p,(4),1,P1,(),(),λd2 H2 b0 b1 P2 K2=>[1:0:iY (λ_=>?_) (λ_=>?_)]]
  .exact(0,0,p,L,zs,1,P2,K2 _ _ aa (P1.ne_strs aa),hN,λv d H3 hd Z P3 K3=>fin P2 (K1.trans K2) (.inr rfl) hd Z P3 K3)
  .exact made P2 (K1.trans K2)
 .exact iX (made P1 K1)
def SqL.keepK {K:o0}{a:o3}(e:∀o,H a=u_ o->H' a=u_ o)(h:SqL K H a xs):SqL K H' a xs:=by
 rcases h with(h|⟨o,h⟩)|h
 .exact .inl (.inl (e _ h))
 .exact .inl (.inr [o:e _ h])
 .exact .inr h
abbrev N8:oj Str:= ["a","b1","c/d","e.f","g","h9","k","m/n"]
def Ac9:∀z>N8,nm z=v_/\↑z<=4:=by decide+kernel
def Ada:N8.Nodup:=by decide+kernel
def Sk (h1:1<=n)(h2:n<=8):Nm4 (N8.take n)/\↑(N8.take n)=n:=by
 let e:↑(N8.take n)=n:=by rw[uM];show min n 8=n;omega
 exact[[():():λz hz=>Ac9 z (vG hz)]:e]
def Ce {vs:oj V}:wr vs U_ (u_ (n:Int))=vs.take n:=by
 unfold wr;rw[HT.sIx_none,HT.sIx_nat,HL,Rj];rcases T5 n ↑vs with h|h
 .rw[T2 h]
 .rw[Nat.min_eq_right h,vh (uq _),vh h]
def ES {ns:oj Int}:∀{ys:oj V},(∀y>ys,y>ns.map V.int)->∃U:oj Int,ys=U.map V.int
 | [],_=>[[]:1]|y::r,h=>by
  erw[Af.mp (h y uj),i,_,e];obtain⟨U,e2⟩:=ES (ys:=r) λz hz=>h z (uh _ hz);exact⟨i::U,by rw[e2,<-e];rfl⟩
inductive OD (K:PySem.W.Frag):Sp
 |mk (q:Addr)(ns:List Int)(_:vs= [-q])(_:SqL K H q (ns.map V.int))(_:∀(L:Addr)(ps:List (Str×D))(us:List V)(H':Hp),H L=U_->ic H H'->H' L=u_ (.lst us)->L2.IsL H' (ps.map prD) us->MM ps->↑ps<=8->(∀p>ps,↑p.1<=4)->Q (-L) H')
def KS {K:o0}(h:SqL K H q xs)(s:ic H H'):SqL K H' q xs:=SqL.keepK (λo e=>s _ _ e) h
def LR:#[T,7,a.zc,a.zh,["script"],(OD K)]:=by
 let au:=#[PX,T];let JD:=#[Az,T];let J1:=#[Ea,T];rw[9,T.mw,yl]
 erw[h,q,ns,rfl,hq,k];let hs:=uD;rw[3,%[#[qE,(1),yl.nd,#[QZ,Al,#[QF,#v[ql,ql,ql,ql,ql,ql,ql,ql]],yy,#[ya,#[qT,QM,qh,#[qT,xT,#[qp,au,T.mx,#v[pv 0,qh]],qh]]]]],#[qE,(2),yl.nd,#[QF,qd]],#[y8,#[Yv,#v[#[qx,qB,T.QN,uJ,#v[pv 1]]]],#[qM,(3),yl.nd],%[#[qE,(4),yl.nd,#[qx,#[Wo,1,rfl],T.z_sum,Tv,#v[#[BF,10,(),pv 0,#[ya,#[qT,QM,qh,pv 3]],_]]]]|#[qI,#[qm,DW,#[qT,xT,pv 4,qh],qh],%[|#[qW,#[YQ,uO,vY,vZ,jK,pv 2,#v[#[qD,#v[#[qG,QR,pv 1,pv 3],#[qp,J1,T.md,#v[#[qp,JD,T.mq,#v[pv 4,pv 3]],pv 1]]]]]]]],qr]]]|#[qo,pv 2]]]
 rw[_,sml rfl,λl0 aw=>?_];let s0:=qf aw (.lst (N8.map V.str));let e0:(upd H l0 (.lst (N8.map V.str))) l0=u_ (.lst (N8.map V.str)):=qg;show Df _ (upd H l0 (.lst (N8.map V.str))) _;generalize upd H l0 (.lst (N8.map V.str))=H0 at s0 e0⊢
 rw[0,q,ns,(0),1,(),(KS hq s0),λc=>(_,0,1,(by show(0:Int)<8;decide),_,0,1,?_)]
 let m1:0<=c%8/\c%8<8:=[Ho _ ():V4 _ ()]
 obtain⟨n,hn,ax,ay⟩:∃n:Nat,1+c%8=(n:Int)/\1<=n/\n<=8:=((1+c%8).toNat,(),(),())
 erw[Sk ax ay,hN,aA]
 try dsimp only
 rw[hn]
 rw[0,l0,0,SqL.of e0,λl hl=>?_];rw[Ce,<-Hv];let ak:(N8.take n).Nodup:=pY (FV _ _) Ada;generalize N8.take n=zs at hN aA ak⊢;let s1:=s0.trans (qf hl (.lst (zs.map V.str)));let e1:(upd H0 l (.lst (zs.map V.str))) l=u_ (.lst (zs.map V.str)):=qg;generalize upd H0 l (.lst (zs.map V.str))=H1 at s1 e1⊢
 rw[_,uS _,λL hL=>?_];let s2:=s1.trans (qf hL (.lst ([]:oj V)));let al:H L=none:=s1.free hL;let aB:l≠L:=qk e1 hL;let e2:=qf hL (.lst ([]:oj V)) _ _ e1;let eL:(upd H1 L (.lst [])) L=u_ (.lst []):=qg;generalize upd H1 L (.lst [])=H2 at s2 e2 eL⊢
 rw[0,l,0,.inl (SqL.of e2),↑zs,by rw[u9],(),()]
 refine xh (n:=↑zs) (λi σ H'=>∃(ps:oj (Str×D)) (us:oj V) (x3 x4:om V),σ= [u_ (-q),u_ (-l),u_ (-L),x3,x4]/\ic H H'/\H' l=u_ (.lst (zs.map V.str))/\H' L=u_ (.lst us)/\L2.IsL H' (ps.map prD) us/\(ps.map (·.1)).Sublist (zs.take i)/\∀p>ps,qah p.2) ([],[],U_,U_,1,s2,e2,eL,1,List.nil_sublist _,λp hp=>by simp at hp) ?_ ?_
 .rintro i σ H' hi ⟨ps,us,x3,x4,rfl,sm,el,ag,ad,U,Z⟩;let aI:↑ps<=8:=by
   let h1:=U.length_le;rw[u9,uM] at h1;omega
  let aC:=↑ad;rw[u9] at aC
  rw[0,0,_,0,1,0,q,0,(KS hq sm),λys y0 _ am aD=>?_];erw[ES am,ms,rfl];let sy:=qf aD (.lst (ms.map V.int));let ey:(upd H' y0 (.lst (ms.map V.int))) y0=u_ (.lst (ms.map V.int)):=qg;let aa:=sy _ _ ag;let ac:=sy _ _ el;generalize upd H' y0 (.lst (ms.map V.int))=H3 at sy ey aa ac⊢;let af:=ad.mono sy.tk;let ao:=sm.trans sy
  rw[_,y0,ms,1,SqL.of ey]
  rw[0,_,0,1,(by show(0:Int)<11;decide),1,0,iY (λ_=>?_) (λ_=>?_)]
  .let ah:i<↑zs:=hi
   rw[0,.inl [1:_:SqL.of aa],0,0,l,_,_,V.str zs[i],1,1,SqL.of ac,?_,?_]
   .rw[show(0:Int)+(i:Int)=((i:Nat):Int) by omega]
    exact qF (by rw[uK,ug ah];rfl)
   rw[0,0,_,0,(),(),λp H4 hp s4 P4=>?_]
   let aE:=s4 _ _ ac;let aJ:=s4 _ _ aa;let aK:L≠p:=qk aa hp
   rw[0,p,l,zs,1,P4,aE,hN,λv d H5 hd hv P5 K5=>[sml rfl:λt ht=>?_]];let aF:ic H3 H5:=K5.same s4 hp;let st:=qf ht (-[.str zs[i],v]);let hz:=hN.2.2 _ (uU ah);let ap:Is (upd H5 t (-[.str zs[i],v])) (prD (zs[i],d)) (-t):=Is.new (ds:= [.str zs[i],d]) (_,0,[1:nj ()],_,0,hv,1) ht
   generalize upd H5 t (-[.str zs[i],v])=H6 at st ap⊢;let ae:=aF.trans st;let aq:=ae _ _ aa
   rw[_,L,us,0,1,aq,()]
   let tk:Tk H6 (upd H6 L (.lst (us++ [-t]))):=Tk.updL aq
   rw[_,ps++ [(zs[i],d)],us++ [-t],_,0,λb o e=>?_,?_,qg,?_,?_,λp' aG=>?_]
   .rw[qi (qk e al)];exact ae _ _ (ao _ _ e)
   .rw[qi aB];exact ae _ _ ac
   .rw[uA];exact((af.mono ae.tk).mono tk).append (L2.IsL.one (ap.mono tk))
   .rw[IZ ah,uA];exact U.append (pR _)
   .rcases Ae.mp aG with h|h
    .exact Z p' h
    .rw[Ac.mp h,0];exact hd
  .exact(ps,us,_,0,ao,ac,aa,af,U.trans (by rw[IZ hi];exact List.sublist_append_left _ _),Z)
 .rintro σ H' ⟨ps,us,x3,x4,rfl,sm,el,ag,ad,U,Z⟩;rw[U1] at U;let aH:=U.length_le;rw[u9] at aH;exact[0:k L ps us H' al sm ag ad [[λz hz=>(hN.2.2 z (U.mem hz)).1:ak.sublist U]:Z] () λp hp=>(hN.2.2 p.1 (U.mem (Af.mpr [p:hp:1]))).2]
inductive OQ:Sp
 |mk (v:V)(d:D)(_:vs= [v])(_:Is H d v)(_:∀(u:V)(H':Hp),ic H H'->((Q8 d).isSome=v_->u= .non)->((Q8 d).isSome=Vd->u≠ .non)->Q u H')
inductive Dw:Sp
 |mk (v:V)(d:D)(_:vs= [v])(_:Is H d v)(_:∀H',ic H H'->Q (.bl (Q8 d).isSome) H')
def PY:#[C,4,a.Kr,a.kn,["tree"],OQ]:=by
 let JR:=#[Eh,T,C];rw[9,T.mf,Ao]
 erw[h,v,d,rfl,hv,k];rw[3,%[|#[qo,#[qG,qC,#[qp,JR,T.l7,#v[pv 0]],qh]]]]
 rw[0,v,d,1,hv,λu H' x y s' Z hu=>?_];erw[hu,p,ws,rfl,hp,w1,r1,rfl,h1,w2,r2,rfl,h2,h3];rw[show r2= [] from h3,0]
 rw[_,p,_,_,0,1,SqT.of hp,1,k _ H' s' (λe=>?_) (λe=>?_)]
 .erw[zq e,rs,U];erw[Z.1 rs U,_,rfl,<-h2]
 .let hn:Q8 d=none:=by
   cases hh:Q8 d with
   |none=>rfl|some rs=>rw[hh,0] at e
  erw[Z.2 hn,i,rfl];intro z;rw[z] at h2;rw[show V.non= .int i from h2,0]
def oN:#[C,5,a.f_is_rule,a.d_is_rule,["value"],Dw]:=by
 let U:=#[PY,T,C];rw[9,T.mM,Cs,Z]
 erw[h,v,d,rfl,hv,k];rw[3,%[|#[qo,#[Qh,yD,#[qp,16,U,Z.mono (),_,T.mf.m,T.mf.F.kp,T.mf.b,.nil,qz,#v[pv 0],_,_,_],qR]]]]
 rw[0,v,d,1,hv,λu H' s' h1 h2=>[1:?_]];let e:decide (u=V.non)=(Q8 d).isSome:=by
  cases c:(Q8 d).isSome with
  |true=>rw[h1 c];rfl|false=>exact ui (h2 c)
 have:=k H' s';rwa[<-e] at this
end
def DJ {n:Nat}:∀{ds:oj D},(∀d>ds,(Qq n d).isSome=v_)->↑(ds.filterMap (Qq n))=↑ds/\ds=(ds.filterMap (Qq n)).map (λr=>D.str (Yt r))/\∀r>ds.filterMap (Qq n),JA n 300 r
 | [],_=>[1:1:λr h=>nomatch h]|d::ds,h=>by
  erw[zq (h d uj),r,U];obtain⟨h1,h2,h3⟩:=DJ (n:=n) (ds:=ds) λx Z=>h x (uh _ Z);let hd:d= .str (Yt r)/\JA n 300 r:=by
   cases d with
   |str z=>
    obtain⟨a1,a2⟩:=Bv (show WG n z=u_ r from U)
    exact⟨by rw[a2],a1⟩
   |non=>rw[U,0]|bl b=>rw[U,0]|int i=>rw[U,0]|lst=>rw[U,0]|dct=>rw[U,0]|tup xs=>rw[U,0]
  rw[Ul U];rw[_,by rw[um,um,h1],by rw[uC,<-h2,hd.1],λx Z=>?_]
  rcases Ab.mp Z with rfl|Z
  .exact hd.2
  .exact h3 x Z
variable {rs:oj Rw}
set_option tactic.hygienic true in
def oy {d:D}(h:Q8 d=u_ rs):d=jV rs/\QU rs:=by
 cases d with
 |tup ds=>
  rw[X9] at h;split at h
  .rename_i U
   simp![uF,vo] at U;erw[U,[[c1,c2],Z],c4];rw[h,0];erw[DJ (List.all_eq_true.mp Z),h1,h2,h3];let e:D.tup ds=jV (ds.filterMap (Qq ↑ds)):=by
    unfold jV;rw[<-h2]
   refine⟨e,((),(),?_,by rwa[<-e])⟩
   rwa[h1]
  .rw[h,0]
 |non=>rw[h,0]|bl b=>rw[h,0]|int i=>rw[h,0]|str z=>rw[h,0]|lst=>rw[h,0]|dct=>rw[h,0]
abbrev GMT:oj Str:= ["begin","look","wanted","take","full"]
structure GFl (fs:oj (Str×V))(nv ov mv av rv ev:V):Prop where
 ZD:fs.lookup ("name":Str)=u_ nv
 WO:fs.lookup ("order":Str)=u_ ov
 Y1:fs.lookup ("made_by":Str)=u_ mv
 Yk:fs.lookup ("rule_asks":Str)=u_ av
 Qw:fs.lookup ("rule_run":Str)=u_ rv
 f_end:fs.lookup ("end":Str)=u_ ev
 meth:∀m>GMT,fs.lookup m=U_
 len:↑fs<=20
section
variable {fs:oj (Str×V)}{nv ov mv av rv ev:V}
def GFl.set_made_by {u:V}(h:GFl fs nv ov mv av rv ev):GFl (iM "made_by" u fs) nv ov u av rv ev:=by
 refine(?_,?_,?_,?_,?_,?_,λm hm=>?_,by rw[jq h.Y1];exact h.len)
 all_goals rw[qL]
 all_goals first|rw[A6 rfl]|(rw[A4 ()];first|exact h.ZD|exact h.WO|exact h.Y1|exact h.Yk|exact h.Qw|exact h.f_end)|(rw[A4 (λe=>by subst e;revert hm;decide+kernel)];exact h.meth m hm)
def GFl.set_rule_asks {u:V}(h:GFl fs nv ov mv av rv ev):GFl (iM "rule_asks" u fs) nv ov mv u rv ev:=by
 refine(?_,?_,?_,?_,?_,?_,λm hm=>?_,by rw[jq h.Yk];exact h.len)
 all_goals rw[qL]
 all_goals first|rw[A6 rfl]|(rw[A4 ()];first|exact h.ZD|exact h.WO|exact h.Y1|exact h.Yk|exact h.Qw|exact h.f_end)|(rw[A4 (λe=>by subst e;revert hm;decide+kernel)];exact h.meth m hm)
def GFl.set_rule_run {u:V}(h:GFl fs nv ov mv av rv ev):GFl (iM "rule_run" u fs) nv ov mv av u ev:=by
 refine(?_,?_,?_,?_,?_,?_,λm hm=>?_,by rw[jq h.Qw];exact h.len)
 all_goals rw[qL]
 all_goals first|rw[A6 rfl]|(rw[A4 ()];first|exact h.ZD|exact h.WO|exact h.Y1|exact h.Yk|exact h.Qw|exact h.f_end)|(rw[A4 (λe=>by subst e;revert hm;decide+kernel)];exact h.meth m hm)
def GFl.set_end {u:V}(h:GFl fs nv ov mv av rv ev):GFl (iM "end" u fs) nv ov mv av rv u:=by
 refine(?_,?_,?_,?_,?_,?_,λm hm=>?_,by rw[jq h.f_end];exact h.len)
 all_goals rw[qL]
 all_goals first|rw[A6 rfl]|(rw[A4 ()];first|exact h.ZD|exact h.WO|exact h.Y1|exact h.Yk|exact h.Qw|exact h.f_end)|(rw[A4 (λe=>by subst e;revert hm;decide+kernel)];exact h.meth m hm)
end
structure Gc where
 (x o:o3)
 n:Str
structure Gs where
 mb:D
 ra:oj D
 run:om (Mc×Rn)
 en:D
abbrev W7 (CM:o3)(H:Hp)(x:o3)(rv:V):om (Mc×Rn)->Prop
 |none=>rv= .non|some (m,r)=>rv= .ref m.x/\m.x≠x/\yG CM H m r
abbrev ml (C CM:o3)(H:Hp)(g:Gc)(s:Gs):Prop:=
 ∃(dx:o3) (fs:oj (Str×V)) (mv av rv ev:V),H g.x=u_ (.ins C dx fs)/\GFl fs (!g.n) (-g.o) mv av rv ev/\Is H s.mb mv/\Is H (¬s.ra) av/\W7 CM H g.x rv s.run/\Is H s.en ev
variable {CM:o3}
def W7.same {x:o3}{o:om (Mc×Rn)}(h:W7 CM H x rv o)(s:ic H H'):W7 CM H' x rv o:=by
 cases o with
 |none=>exact h|some p=>exact[h.1:h.2.1:h.2.2.same s]
def ml.same {g:Gc}{s:Gs}(h:ml C CM H g s)(sm:ic H H'):ml C CM H' g s:=by
 erw[h,dx,fs,mv,av,rv,ev,e,f,i,j,k,l,<-(dx,fs,mv,av,rv,ev,sm _ _ e,f,i.mono sm.tk,j.mono sm.tk,k.same sm,l.mono sm.tk)]
def yG.put {m:Mc}{r:Rn}{x:o3}{fs:oj (Str×V)}(h:yG CM H m r)(e:H x=u_ (.ins C dx fs))(n:m.x≠x):yG CM (upd H x (.ins C dx fs')) m r:=by
 erw[h,Z,fm,rv,ru,tv,gv,e1,f,i,j,b,U,gl,t];let tk:Tk H (upd H x (.ins C dx fs')):=Tk.updI e;let n1:m.db≠x:=YR.ne e b;let n2:m.dg≠x:=λz=>by rw[z,e,0] at U
 exact(Z,fm,rv,ru,tv,gv,by rwa[qi n],f,i.mono tk,j.mono tk,b.move tk (qi n1),by rwa[qi n2],gl.mono tk,t.mono tk)
def W7.put {x:o3}{fs:oj (Str×V)}{o:om (Mc×Rn)}(h:W7 CM H x rv o)(e:H x=u_ (.ins C dx fs)):W7 CM (upd H x (.ins C dx fs')) x rv o:=by
 cases o with
 |none=>exact h|some p=>exact[h.1:h.2.1:h.2.2.put e h.2.1]
structure Gv (g:Gc)(H H':Hp):Prop where
 kept:∀b o,H b=u_ o->b≠g.x->H' b=u_ o
 tk:Tk H H'
def W9 {g:Gc}{fs:oj (Str×V)}{mv av ev:V}{s:Gs}(e:H g.x=u_ (.ins C dx fs))(f:GFl fs' (!g.n) (-g.o) mv av rv ev)(i:Is H s.mb mv)(j:Is H (¬s.ra) av)(k:W7 CM H g.x rv s.run)(l:Is H s.en ev):
  ml C CM (upd H g.x (.ins C dx fs')) g s/\Gv g H (upd H g.x (.ins C dx fs')):=by
 let tk:Tk H (upd H g.x (.ins C dx fs')):=Tk.updI e;exact⟨(dx,fs',mv,av,rv,ev,qg,f,i.mono tk,j.mono tk,k.put e,l.mono tk),⟨λb o h n=>by rwa[qi n],tk⟩⟩
abbrev oU (s:Gs)(r:Rn):Gs:=if QH r.th=v_ then s else{s with en:=r.th}
inductive OE (C CM:Addr):Sp
 |mk (g:Gc)(s:Gs)(m:Mc)(r:Rn)(_:vs= [-g.x])(_:ml C CM H g s)(_:s.run=u_ (m,r))(_:Th r.th)(_:∀H',Gv g H H'->ml C CM H' g (oU s r)->Q .non H')
section
variable {P:o9}{w:og}{K:o0}{mg:Str->om o6}{base:o8}{a:Ad}{g:Ga}
def Ek:#[T,2,a.ZS,a.ZT,["self"],(OE a.qN a.qq)]:=by
 let qY:=#[qay,T];let Qs:=#[oJ,T];rw[9,T.mh,qao]
 erw[h,g,st,m,r,rfl,hG,U,aa,k];rw[3,%[|#[qI,#[Qr,#[Qd,#[QI,#[qQ,5,pv 0,rfl],T.qw,T.il,qY]]],%[|#[Qk,#[QI,#[qQ,5,pv 0,rfl],T.qw,T.iI,Qs]]],qr]]]
 erw[id hG,dx,fs,mv,av,rv,ev,e,f,i,j,hR,l];rw[U] at hR;erw[hR,rfl,hn,hM];erw[id hM,dm,fm,ac,ru,tv,gv,em,Z,i1,i2,i3,i4,i5,i6]
 rw[0,g.x,_,dx,fs,0,e,T.qS,T.qX,f.Qw,m.x,dm,fm,1,em,Z.meth _ (),m,r,1,hM,aa,0]
 cases c:QH r.th with
 |true=>
  refine iX (k H [λ_ _ h _=>h:Tk.refl H] ?_);unfold oU;rwa[A6 c]
 |false=>
  refine ky ?_
  rw[0,g.x,_,dx,fs,0,e,T.qS,T.qX,f.Qw,m.x,dm,fm,1,em,Z.meth _ (),m,r,1,hM,λv hv=>?_]
  rw[5]
  refine(0,g.x,_,dx,fs,1,e,T.qS,T.yc,by have:=f.len;omega,?_)
  let hS:oU st r={st with en:=r.th}:=by
   unfold oU;rw[c];exact A4 uf
  obtain⟨m1,m2⟩:=W9 (CM:=a.qq) (s:={st with en:=r.th}) e (f.set_end (u:=v)) i j (by rw[U];exact[1:hn:hM]) hv
  refine k _ m2 ?_;rw[hS];exact m1
inductive Dr (CM:Addr):Sp
 |mk (o:Addr)(v:V)(rs:List Rw)(own:Str)(_:vs= [-o,v,!own])(_:Is H (jV rs) v)(_:QU rs)(_:nm own=v_)(_:∀(mc:Mc)(H':Hp),ic H H'->H mc.x=U_->H mc.db=U_->H mc.dg=U_->mc.rs=rs->mc.own=own->yG CM H' mc (mQ rs own [] 300 B0 1 0)->Q (-mc.x) H')
def Ee:#[C,8,a.Y4,a.YZ,["self","rule","own"],(Dr a.qq)]:=by
 let yo:=#[KI,T,C];rw[9,T.lj,xH]
 erw[h,o,v,rs,own,rfl,hv,hR,hn,k];let hl:=Xo hn;let hI:∀H:Hp,Is H (!own) (!own):=λH=>Qy ()
 rw[3,%[|#[qo,#[XN,T.wx,yo,T.wP,T.iW,DR,#v[pv 1,pv 2]]]]]
 rw[0,0,λx dx hx aa nx=>?_];let Z:ic H (upd (upd H dx (.own x)) x (.ins a.qq dx [])):=λb o h=>by rwa[qi (qk h hx),qi (qk h aa)]
 rw[_,x,dx,v,!own,jV rs,!own,1,qg,hv.mono Z.tk,hI _,λz=>?_,λ_ z=>?_,λU af e1 ac e2 ag ah H' db dg kept ad ae hM=>[1:?_]]
 .rw[hR.read,0] at z
 .have:mK (!own)=true:=hn;rw[this,0] at z
 .let e3:U=rs:=by
   let h1:=hR.read;rw[e1,ac.read] at h1;exact uN h1
  rw[e2,0];subst e3;exact k (x,db,dg,U,own) H' (λb o h=>kept b o (Z b o h) (qk h hx)) hx (Z.free ad) (Z.free ae) rfl rfl hM
abbrev R0 (rs:oj Rw)(n:Str):Rn:=mQ rs n [] 300 B0 1 0
structure MP (H:Hp)(g:Gc)(d:D)(s s':Gs):Prop where
 mb:s'.mb=s.mb
 ra:s'.ra=s.ra
 lack:d= .non->s'.run=U_/\s'.en=flt "lack"
 rule:d≠ .non->Q8 d=U_->s'.run=U_/\s'.en=flt "rule"
 go:∀rs,Q8 d=u_ rs->∃mc:Mc,H mc.x=U_/\H mc.db=U_/\H mc.dg=U_/\mc.rs=rs/\mc.own=g.n/\s'.run=u_ (mc,R0 rs g.n)/\s'.en=if QH (R0 rs g.n).th=v_ then s.en else(R0 rs g.n).th
inductive Lr (C CM CO:Addr):Sp
 |mk (g:Gc)(s:Gs)(v:V)(d:D)(_:vs= [-g.x,v])(_:ml C CM H g s)(_:s.run=U_)(_:nm g.n=v_)(_:Is H d v)(_:(∃dx fs,H g.o=u_ (.ins CO dx fs)/\fs.lookup ("runner":Str)=U_))(_:∀H' s',Gv g H H'->ml C CM H' g s'->MP H g d s s'->Q .non H')
def IN {n:Str}(h:QU rs):C0 rs (R0 rs n):=Ar h 300 B0 1 0 [] rfl Aaj () (by have:=h.n0;omega) ⟨1,by simp[dpL],uq _⟩
def Adz {n:Str}(h:QU rs):Th (R0 rs n).th:= .inr (IN h).two
def BI:#[C,9,a.zm,a.zw,["self","rule"],(Lr a.qN a.qq a.qt)]:=by
 let WJ:=#[oN,T,C];let XM:=#[Ee,T,C];let J7:=#[Ek,T];rw[9,T.lU,W2]
 erw[h,g,st,v,d,rfl,hG,U,hn,hv,[ad,ae,ho,af],k];let hs:=uD;erw[id hG,dx,fs,mv,av,rv,ev,e,f,i,j,hR,l];rw[U] at hR;rw[3,%[|#[qI,#[qm,yD,pv 1,qR],%[|#[Qk,#[qD,#v[ql,ql]]]],%[|#[qI,#[Qr,#[Qd,#[qp,WJ,T.mM,#v[pv 1]]]],%[|#[Qk,#[qD,#v[ql,ql]]]],%[#[Qk,#[Qn,#[qQ,5,pv 0,rfl],T.qA,T.lj,XM,#v[pv 1,#[qQ,5,pv 0,rfl]]]]|#[qW,#[QI,pv 0,T.qS,T.mh,J7]]]]]]]]
 rw[0,1,0];let fl:∀(z:Str) (H:Hp) (l:o3),↑z<=100->H l=U_->Is (upd H l (-[-"fault",!z])) (flt z) (-l):=λz H l hz hl=>Is.new (ds:= [-"fault",!z]) (_,0,Qy (),_,0,Qy (),1) hl
 let aa:↑fs<1000:=by have:=f.len;omega
 let put:∀(z:Str) (t:o3) (H':Hp),↑z<=100->ic H H'->H' t=U_->((d= .non->z="lack")/\(d≠ .non->z="rule"/\Q8 d=U_))->Q .non (upd (upd H' t (-[-"fault",!z])) g.x (.ins a.qN dx (iM "end" (-t) fs))):=λz t H' hz s' ht hd=>by
  let s1:=s'.trans (qf ht (-[-"fault",!z]));obtain⟨m1,m2⟩:=W9 (CM:=a.qq) (g:=g) (s:={st with en:=flt z}) (s1 _ _ e) (f.set_end (u:=-t)) (i.mono s1.tk) (j.mono s1.tk) (by show W7 _ _ _ _ st.run;rwa[U]) (fl z H' t hz ht)
  refine k _ _ [λb o h n=>m2.kept b o (s1 b o h) n:s1.tk.trans m2.tk] m1 (1,1,λh=>⟨U,by rw[hd.1 h]⟩,λh _=>⟨U,by rw[(hd.2 h).1]⟩,λrs h=>?_)
  by_cases c:d= .non
  .rw[c,0] at h
  .rw[(hd.2 c).2,0] at h
 by_cases c:d= .non
 .subst c;rw[show v= .non from hv,0]
  refine lc (uc rfl) [(sml rfl):λt ht=>?_]
  rw[0,g.x,_,dx,fs,1,(qf ht _) _ _ e,T.qS,T.yc,aa];exact put "lack" t H () (ic.refl _) ht [λ_=>rfl:λh=>A8 rfl h]
 .refine iQ (ui (JL hv c)) ?_
  rw[0,v,d,1,hv,λH1 s1=>[0:?_]];cases hd:Q8 d with
  |none=>
   refine ky [(sml rfl):λt ht=>?_]
   rw[0,g.x,_,dx,fs,1,(qf ht _) _ _ (s1 _ _ e),T.qS,T.yc,aa];exact put "rule" t H1 () s1 ht [λh=>A8 h c:λ_=>[1:hd]]
  |some rs=>
   refine iX ?_;erw[oy hd,ed,ac];let e1:=s1 _ _ e
   rw[5]
   refine(0,g.x,_,dx,fs,0,e1,T.qS,T.zx,f.WO,g.o,ad,ae,1,s1 _ _ ho,af,0,0,g.x,_,dx,fs,0,e1,T.qS,T.Yx,f.ZD,g.o,v,rs,g.n,1,by rw[<-ed];exact hv.mono s1.tk,ac,hn,λmc H2 s2 nx nb ng ers ag hM=>?_)
   let e2:=s2 _ _ e1;let Z:=s1.trans s2
   rw[0,g.x,_,dx,fs,1,e2,T.qS,T.qX,aa];let ah:mc.x≠g.x:=(qk e1 nx).symm;erw[W9 (C:=a.qN) (CM:=a.qq) (g:=g) (s:={st with run:=u_ (mc,R0 rs g.n)}) e2 (f.set_rule_run (u:=-mc.x)) (i.mono Z.tk) (j.mono Z.tk) [1:ah:hM] (l.mono Z.tk),m1,m2]
   erw[id m1,ak,al,_,_,_,_,e3,f3,_]
   rw[0,g.x,ak,al,1,e3,f3.meth _ (),g,_,mc,R0 rs g.n,1,m1,1,Adz ac,λH3 v3 G3=>k H3 _ [λb o h n=>v3.kept b o (m2.kept b o (Z b o h) n) n:(Z.tk.trans m2.tk).trans v3.tk] G3 ?_]
   unfold oU
   rw[5]
   refine(by split<;>rfl,by split<;>rfl,λh=>A8 h c,(λ_ h=>by rw[hd,0] at h),λam h=>?_)
   rw[hd,0] at h
   rw[5]
   refine(mc,s1.free nx,s1.free nb,s1.free ng,ers,ag,by split<;>rfl,?_)
   split<;>rfl
inductive zj (C CM:Addr):Sp
 |mk (g:Gc)(s:Gs)(_:vs= [-g.x])(_:ml C CM H g s)(_:((s.run=U_/\∃z,s.mb= .str z/\∀v H',ic H H'->Is H' (-[-"rule",!z]) v->Q v H')\/∃mc r d,s.run=u_ (mc,r)/\r.th= .tup [-"asks",d]/\∀v,Is H d v->Q v H))
abbrev Aa4:om (Mc×Rn)->oj D
 |none=> []|some (_,r)=>r.gs
abbrev MA (s:Gs):D:=-[.tup (s.ra++Aa4 s.run),s.en]
inductive OL (C CM:Addr):Sp
 |mk (g:Gc)(s:Gs)(_:vs= [-g.x])(_:ml C CM H g s)(_:↑s.ra+↑(Aa4 s.run)<=1000)(_:∀v H',ic H H'->Is H' (MA s) v->Q v H')
variable {v:V}{Q:VK}
def jU {K:o0}{xs ys:oj D}{u:V}(U:Is H (¬xs) v)(Z:Is H (¬ys) u)(hl:↑xs+↑ys<=1000)(k:∀p H',ic H H'->Is H' (.tup (xs++ys)) p->Q p H'):LA K v u H Q:=by
 erw[id U,a,vs,rfl,ha,ia];erw[id Z,b,us,rfl,hb,ib];let la:=↑ia;let lb:=↑ib;let hs:=uD;rw[_,a,b,vs,us,1,1,SqT.of ha,SqT.of hb,(),λe=>?_,λ_ e=>?_,λ_ _ p hp=>?_]
 .have:xs= []:=List.length_eq_zero_iff.mp (by rw[e] at la;simpa using la.symm)
  rw[this] at k;exact k _ H (ic.refl _) Z
 .have:ys= []:=List.length_eq_zero_iff.mp (by rw[e] at lb;simpa using lb.symm)
  rw[this,vJ] at k;exact k _ H (ic.refl _) U
 .let n:=qf hp (.tup (vs++us));exact k _ _ n (p,0,qg,(ia.append ib).mono n.tk)
def D6:#[T,2,a.xN,a.xU,["self"],(zj a.qN a.qq)]:=by
 let Qs:=#[oJ,T];rw[9,T.mo,wK]
 erw[h,g,st,rfl,hG,h];let hs:=uD;erw[id hG,dx,fs,mv,av,rv,ev,e,f,i,j,Z,l];rw[3,%[#[qI,#[qm,yD,#[qQ,5,pv 0,rfl],qR],%[|#[qo,#[qD,#v[ql,#[qQ,5,pv 0,rfl]]]]],qr]|#[qo,#[qG,zg,#[QI,#[qQ,5,pv 0,rfl],T.qw,T.iI,Qs],qh]]]]
 rw[0,g.x,_,dx,fs,0,e,T.qS,T.qX,f.Qw,1,0];rcases h with⟨U,z,hz,k⟩|⟨mc,r,d,U,aa,k⟩
 .rw[U] at Z;rw[show rv= .non from Z,0]
  rw[hz] at i;obtain⟨rfl,hl⟩:=(show mv= .str z/\↑z<=Vh from i)
  refine lc (uc rfl) (0,g.x,_,dx,fs,0,e,T.qS,T.yJ,f.Y1,(sml rfl),λt ht=>?_);exact k _ _ (qf ht _) (Is.new (_,0,Qy (),_,0,[1:hl],1) ht)
 .rw[U] at Z;erw[Z,rfl,hn,hM];erw[id hM,dm,fm,ad,ru,tv,gv,em,ac,i1,i2,i3,i4,i5,i6];refine iQ (ui (λz=>by rw[z,0])) ?_
  rw[0,g.x,_,dx,fs,0,e,T.qS,T.qX,f.Qw,mc.x,dm,fm,1,em,ac.meth _ (),mc,r,1,hM,λv hv=>?_]
  rw[aa] at hv;exact .inr (.inl (Xp (i:=1) (d:=d) hv (qF (j:=1) rfl) λq hq=>k q hq))
def PQ:#[T,2,a.ZJ,a.ZK,["self"],(OL a.qN a.qq)]:=by
 let WK:=#[PZ,T];rw[9,T.mH,X4]
 erw[h,g,st,rfl,hG,hl,k];let hs:=uD;erw[id hG,dx,fs,mv,av,rv,ev,e,f,i,j,hR,l];rw[3,%[#[qE,(1),X4.nd,#[ye,#[qm,yD,#[qQ,5,pv 0,rfl],qR],#[qD,qd],#[QI,#[qQ,5,pv 0,rfl],T.qw,T.mj,WK]]]|#[qo,#[qD,#v[#[qT,YE,#[qQ,5,pv 0,rfl],pv 1],#[qQ,5,pv 0,rfl]]]]]]
 let fin:∀(v:V) (H1:Hp),ic H H1->Is H1 (.tup (Aa4 st.run)) v->AcP K (AaA 0) "rule_asks" [u_ (-g.x),u_ v] H1 λx H2=>AaA 1 [u_ (-g.x),u_ v] H2 λy H3=>LA K x y H3 λz H4=>AcP K (AaA 0) "end" [u_ (-g.x),u_ v] H4 λu H5=> [z,u].length<=Vh/\∀p,H5 p=U_->Q (-p) (upd H5 p (-[z,u])):=λv H1 s1 hv=>by
  rw[0,g.x,_,dx,fs,0,s1 _ _ e,T.qS,T.Yh,f.Yk,0];refine jU (j.mono s1.tk) hv hl λz H4 s4 i4=>?_;let Z:=s1.trans s4
  rw[0,g.x,_,dx,fs,0,Z _ _ e,T.qS,T.yc,f.f_end,(sml rfl),λp hp=>?_];let n:=qf hp (-[z,ev]);exact k _ _ (Z.trans n) (Is.new (_,0,i4,_,0,l.mono Z.tk,1) hp)
 rw[0,g.x,_,dx,fs,0,e,T.qS,T.qX,f.Qw,1,0];cases U:st.run with
 |none=>
  rw[U] at hR fin;rw[show rv= .non from hR,0]
  refine lc (uc rfl) [(sml rfl):λt ht=>?_];exact fin _ _ (qf ht _) (Is.new (ds:= []) rfl ht)
 |some p=>
  erw[p,mc,r];rw[U] at hR fin;erw[hR,rfl,hn,hM];erw[id hM,dm,fm,ac,ru,tv,gv,em,aa,i1,i2,i3,i4,i5,i6];refine iQ (ui (λz=>by rw[z,0])) ?_
  rw[0,g.x,_,dx,fs,0,e,T.qS,T.qX,f.Qw,mc.x,dm,fm,1,em,aa.meth _ (),mc,r,1,hM,λv H1 s1 hv=>?_]
  exact fin v H1 s1 hv
structure Gw (g:Gc)(o:om (Mc×Rn))(H H':Hp):Prop where
 kept:∀b ob,H b=u_ ob->b≠g.x->(∀mc r,o=u_ (mc,r)->b≠mc.x/\b≠mc.db/\b≠mc.dg)->H' b=u_ ob
 tk:Tk H H'
inductive zB (C CM CO:Addr):Sp
 |mk (g:Gc)(s:Gs)(v:V)(d:D)(_:vs= [-g.x,v])(_:ml C CM H g s)(_:nm g.n=v_)(_:Is H d v)(_:g.o≠g.x)(_:(∃dx fs,H g.o=u_ (.ins CO dx fs)/\fs.lookup ("runner":Str)=U_))(_:((s.run=U_/\∃z,s.mb= .str z/\∀H' s',Gw g s.run H H'->ml C CM H' g s'->MP H g d {s with ra:= [-[-[-"rule",!z],d]]} s'->Q .non H')\/∃mc r u q,s.run=u_ (mc,r)/\mc.own=g.n/\QU mc.rs/\C0 mc.rs r/\r.th= .tup [-"asks",-[!u,q]]/\Bb u d=v_/\∀H',Gw g s.run H H'->ml C CM H' g (oU {s with run:=u_ (mc,mI mc.rs mc.own r d)} (mI mc.rs mc.own r d))->Q .non H'))
def Adl {g:Gc}{s:Gs}{mc:Mc}{r r':Rn}(h:ml C CM H g s)(Z:s.run=u_ (mc,r))(v:Mv mc H H')(hM:yG CM H' mc r'):ml C CM H' g {s with run:=u_ (mc,r')}:=by
 erw[h,dx,fs,mv,av,rv,ev,e,f,i,j,k,l];rw[Z] at k;erw[k,rfl,hn,hm];erw[id hm,dm,fm,aa,ru,tv,gv,em,ac,i1,i2,i3,U,i5,i6];let n1:g.x≠mc.db:=(YR.ne e i3).symm;let n2:g.x≠mc.dg:=λz=>by rw[<-z,e,0] at U
 exact(dx,fs,mv,av,_,ev,v.kept _ _ e hn.symm n1 n2,f,i.mono v.tk,j.mono v.tk,[1:hn:hM],l.mono v.tk)
def LV:#[C,10,a.Z3,a.ZW,["self","answer"],(zB a.qN a.qq a.qt)]:=by
 let Jl:=#[BI,T,C];let J7:=#[Ek,T];let YI:=#[No,T,C];rw[9,T.lq,KW]
 erw[h,Z,st,v,d,rfl,hG,hn,hv,ao,[ap,aq,ho,au],h];let hs:=uD;erw[id hG,dx,fs,mv,av,rv,ev,e,f,i,j,hR,l];rw[3,%[|#[qI,#[qm,yD,#[qQ,5,pv 0,rfl],qR],%[#[Qk,#[qD,#v[#[qD,#v[#[qD,#v[ql,#[qQ,5,pv 0,rfl]]],pv 1]]]]]|#[qW,#[Qn,pv 0,T.qS,T.lU,Jl,#v[pv 1]]]],%[#[qW,#[Qn,#[qQ,5,pv 0,rfl],T.qw,T.iL,YI,#v[pv 1]]]|#[qW,#[QI,pv 0,T.qS,T.mh,J7]]]]]]
 rw[0,Z.x,_,dx,fs,0,e,T.qS,T.qX,f.Qw,1,0];rcases h with⟨U,z,hz,k⟩|⟨mc,r,u,q,U,aw,ae,af,ag,aa,k⟩
 .rw[U] at hR;rw[show rv= .non from hR,0]
  refine lc (uc rfl) ?_;rw[hz] at i;obtain⟨rfl,hl⟩:=(show mv= .str z/\↑z<=Vh from i)
  let ax:↑fs<1000:=by have:=f.len;omega
  rw[0,Z.x,_,dx,fs,0,e,T.qS,T.yJ,f.Y1,(sml rfl),λt1 ah=>?_];let m1:=qf ah (-[V.str "rule",V.str z]);let k1:Is (upd H t1 (-[V.str "rule",V.str z])) (-[-"rule",!z]) (-t1):=Is.new (_,0,Qy (),_,0,[1:hl],1) ah
  rw[0,(sml rfl),λt2 ak=>?_];let m2:=qf ak (-[V.ref t1,v]);let k2:=Is.new (ds:= [-[-"rule",!z],d]) (_,0,k1,_,0,hv.mono m1.tk,1) ak
  rw[_,(sml rfl),λt3 al=>?_];let m3:=qf al (-[V.ref t2]);let k3:=Is.new (ds:= [-[-[-"rule",!z],d]]) (_,0,k2,1) al;let s3:=(m1.trans m2).trans m3
  rw[0,Z.x,_,dx,fs,1,s3 _ _ e,T.qS,T.Yh,ax];let iz:Is H (!z) (!z):=[1:hl];obtain⟨p1,p2⟩:=W9 (C:=a.qN) (CM:=a.qq) (g:=Z) (s:={st with ra:= [-[-[-"rule",!z],d]]}) (s3 _ _ e) (f.set_rule_asks (u:=-t3)) (by show Is _ st.mb _;rw[hz];exact iz.mono s3.tk) k3 (by show W7 _ _ _ _ st.run;rw[U];rfl) (l.mono s3.tk)
  erw[id p1,ac,ad,_,_,_,_,e3,f3,_];let am:=s3.tk.trans p2.tk
  rw[0,Z.x,ac,ad,1,e3,f3.meth _ (),0,Z,_,v,d,1,p1,U,hn,hv.mono am,(ap,aq,p2.kept _ _ (s3 _ _ ho) ao,au),λH4 s4 v4 G4 b4=>k H4 s4 [λb ob h n _=>v4.kept b ob (p2.kept b ob (s3 b ob h) n) n:am.trans v4.tk] G4 (b4.mb,b4.ra,b4.lack,b4.rule,λrs h=>?_)]
  erw[b4.go rs h,mc,c1,c2,c3,c4];let fr:∀b,upd (upd (upd (upd H t1 (-[V.str "rule",V.str z])) t2 (-[V.ref t1,v])) t3 (-[V.ref t2])) Z.x (.ins a.qN dx (iM "rule_asks" (-t3) fs)) b=U_->H b=none:=λb hb=>by
   cases hc:H b with
   |none=>rfl|some ob=>
    by_cases c:b=Z.x
    .rw[c,qg,0] at hb
    .rw[p2.kept b ob (s3 b ob hc) c,0] at hb
  exact(mc,fr _ c1,fr _ c2,fr _ c3,c4)
 .rw[U] at hR;erw[hR,rfl,aB,hM];erw[id hM,dm,fm,aC,ru,tv,gv,em,ay,i1,i2,i3,i4,i5,i6];refine iQ (ui (λz=>by rw[z,0])) ?_
  let aA:↑mc.own<=100:=by rw[aw];have:=Xo hn;omega
  rw[0,Z.x,_,dx,fs,0,e,T.qS,T.qX,f.Qw,mc.x,dm,fm,1,em,ay.meth _ (),0,mc,r,v,u,q,d,1,hM,af,ag,hv,ae,aA,aa,λH1 v1 M1=>?_]
  .let G1:=Adl hG U v1 M1;erw[id G1,ac,ad,_,_,_,_,e3,f3,_];let hok:=qaC (own:=mc.own) ae af (by rw[ag];show decide (("asks":Str)="asks")=v_;exact uc rfl) (KL aa)
   rw[5]
   refine(0,Z.x,ac,ad,1,e3,f3.meth _ (),Z,_,mc,0,G1,1,.inr hok.two,λH2 v2 G2=>k H2 [λb ob h n1 n2=>v2.kept b ob (v1.kept b ob h (n2 mc r U).1 (n2 mc r U).2.1 (n2 mc r U).2.2) n1:v1.tk.trans v2.tk] G2)
abbrev gfs (n:Str)(o t:o3):oj (Str×V):= [("name",!n),("order",-o),("made_by",.non),("rule_asks",-t),("rule_run",.non),("end",.non)]
def EZ (n:Str)(o t:o3):GFl (gfs n o t) (!n) (-o) .non (-t) .non .non:=by
 rw[1,1,1,1,1,1,?_,(by show 6<=20;decide)]
 intro m hm;simp![GMT,uG,uL,uV] at hm;rcases hm with rfl|rfl|rfl|rfl|rfl<;>rfl
abbrev s0G:Gs:=(.non,[],U_,.non)
inductive Lm (C CM CO:Addr):Sp
 |mk (x dx o:Addr)(n k:Str)(sv:V)(e:D)(_:vs= [-x,!n,sv,-o])(_:H x=u_ (.ins C dx []))(_:Is H (-[!k,e]) sv)(_:nm n=v_)(_:o≠x)(_:(∃dx fs,H o=u_ (.ins CO dx fs)/\fs.lookup ("runner":Str)=U_))(_:∀H' s',(∀b ob,H b=u_ ob->b≠x->H' b=u_ ob)->Tk H H'->ml C CM H' ⟨x,o,n⟩ s'->(k="made"->s'={s0G with mb:=e})->(k≠"made"->MP H ⟨x,o,n⟩ e s0G s')->Q .non H')
def Aam {x:o3}{fs:oj (Str×V)}{P:Hp->Prop}(e:H x=u_ (.ins C dx fs))(h:∀H1,H1 x=u_ (.ins C dx fs')->(∀b ob,H b=u_ ob->b≠x->H1 b=u_ ob)->Tk H H1->P H1):P (upd H x (.ins C dx fs')):=h _ qg (λb ob h n=>by rwa[qi n]) (Tk.updI e)
def LW:#[C,10,a.JO,a.ZX,["self","name","source","order"],(Lm a.qN a.qq a.qt)]:=by
 let Jl:=#[BI,T,C];rw[9,T.mG,KF]
 erw[h,x,dx,o,n,k,sv,d,rfl,hx,aa,hn,nox,[ac,ad,ho,ae],q];let hs:=uD;rw[3,%[#[Qk,pv 1],#[Qk,pv 3],#[Qk,qR],#[Qk,#[qD,qd]],#[Qk,qR],#[Qk,qR]|#[qI,#[qm,Qg,#[qG,qC,pv 2,qh],ql],%[|#[Qk,#[qG,qC,pv 2,qh]]],%[|#[qW,#[Qn,pv 0,T.qS,T.lU,Jl,#v[#[qG,qC,pv 2,qh]]]]]]]]
 rw[0,0,x,_,dx,0,hx,T.qS,T.Yx,()]
 refine Aam (P:=nz _ _ _ _) hx λH1 x1 k1 t1=>?_
 rw[5]
 refine(0,0,x,_,dx,0,x1,T.qS,T.zx,by show 1<1000;decide,?_)
 refine Aam (P:=nz _ _ _ _) x1 λH2 x2 k2 t2=>?_
 rw[5]
 refine(0,x,_,dx,0,x2,T.qS,T.yJ,by show 2<1000;decide,?_)
 refine Aam (P:=nz _ _ _ _) x2 λH3 x3 k3 t3=>?_
 rw[_,sml rfl,λt ht=>?_];let nxt:=(qk x3 ht).symm;let s4:=qf ht (.tup ([]:oj V))
 rw[5]
 refine(0,x,_,dx,0,s4 _ _ x3,T.qS,T.Yh,by show 3<1000;decide,?_)
 refine Aam (P:=nz _ _ _ _) (s4 _ _ x3) λH5 x5 k5 t5=>?_
 rw[5]
 refine(0,x,_,dx,0,x5,T.qS,T.qX,by show 4<1000;decide,?_)
 refine Aam (P:=nz _ _ _ _) x5 λH6 x6 k6 t6=>?_
 rw[5]
 refine(0,x,_,dx,0,x6,T.qS,T.yc,by show 5<1000;decide,?_)
 refine Aam (P:=λH=>_) x6 λH7 U k7 t7=>?_;let kp:∀b ob,H b=u_ ob->b≠x->H7 b=u_ ob:=λb ob h nb=>k7 b ob (k6 b ob (k5 b ob (s4 b ob (k3 b ob (k2 b ob (k1 b ob h nb) nb) nb)) nb) nb) nb;let Z:=(((((t1.trans t2).trans t3).trans s4.tk).trans t5).trans t6).trans t7;let U:H7 x=u_ (.ins a.qN dx (gfs n o t)):=U;let eT:H7 t=u_ (.tup ([]:oj V)):=k7 _ _ (k6 _ _ (k5 _ _ qg nxt) nxt) nxt;let i0:Is H7 (-[]) (-t):=(t,[],1,eT,1);let G0:ml a.qN a.qq H7 ⟨x,o,n⟩ s0G:=(dx,_,_,_,_,_,U,EZ n o t,1,i0,1,1);let af:=aa.mono Z;erw[af,p,ws,rfl,hp,w1,r1,rfl,[rfl,ag],w2,r2,rfl,h2,h3];rw[show r2= [] from h3,0]
 rw[0,p,_,_,0,1,SqT.of hp,1,1,0];by_cases ck:k="made"
 .refine lc (uc (by rw[ck])) (0,p,_,_,0,1,SqT.of hp,1,0,x,_,dx,0,U,T.qS,T.yJ,(by show 6<1000;decide),?_)
  erw[W9 (C:=a.qN) (CM:=a.qq) (g:=[x:o:n]) (s:={s0G with mb:=d}) U ((EZ n o t).set_made_by (u:=w2)) h2 i0 rfl rfl,p1,p2]
  exact q _ _ (λb ob h nb=>p2.kept b ob (kp b ob h nb) nb) (Z.trans p2.tk) p1 (λ_=>rfl) λz=>A8 ck z
 .refine iQ (ui (λz=>ck (V.str.inj z))) ?_
  rw[0,x,dx,0,U,(EZ n o t).meth _ (),0,p,_,_,0,1,SqT.of hp,1,[x:o:n],s0G,w2,d,1,G0,1,hn,h2,(ac,ad,kp _ _ ho nox,ae),λH8 s8 v8 G8 b8=>q H8 s8 (λb ob h nb=>v8.kept b ob (kp b ob h nb) nb) (Z.trans v8.tk) G8 (λz=>A8 z ck) λ_=>(b8.mb,b8.ra,b8.lack,b8.rule,λrs h=>?_)]
  erw[b8.go rs h,mc,c1,c2,c3,c4];let fr:∀b,H7 b=U_->H b=none:=λb hb=>by
   cases hc:H b with
   |none=>rfl|some ob=>
    by_cases c:b=x
    .rw[c,U,0] at hb
    .rw[kp b ob hc c,0] at hb
  exact(mc,fr _ c1,fr _ c2,fr _ c3,c4)
abbrev yZ:D->D
 | .non=>-[-"lack"]| .tup [!k,e]=>if k="leaf" then .tup [-"value",e] else .non|_=> .non
abbrev yb:D->D
 | .tup [!k,e]=>if k="said" then .tup [-"value",e] else -[!k,e]|d=>d
inductive OB:Sp
 |mk (v:V)(d:D)(_:vs= [v])(_:Is H d v)(_:(d= .non\/∃k e,d=-[!k,e]))(_:∀u H',ic H H'->Is H' (yZ d) u->Q u H')
inductive Lv:Sp
 |mk (v:V)(k:Str)(e:D)(_:vs= [v])(_:Is H (-[!k,e]) v)(_:∀u H',ic H H'->Is H' (yb (-[!k,e])) u->Q u H')
def BJ:#[T,1,a.wV,a.wJ,["end"],Lv]:=by
 rw[9,T.jX,n9]
 erw[h,v,k,e,rfl,Z,q];let hs:=uD;let U:=Z;erw[Z,p,ws,rfl,hp,w1,r1,rfl,[rfl,aa],w2,r2,rfl,h2,h3];rw[show r2= [] from h3,0]
 rw[3,%[|#[qo,#[ye,#[qm,Qg,#[qG,qC,pv 0,qh],ql],#[qD,#v[ql,#[qG,qC,pv 0,qh]]],pv 0]]]]
 rw[0,p,_,_,0,1,SqT.of hp,1,1,0];by_cases c:k="said"
 .refine lc (uc (by rw[c])) (0,p,_,_,0,1,SqT.of hp,1,(sml rfl),λt ht=>?_)
  refine q _ _ (qf ht _) ?_;unfold yb
  try dsimp only
  rw[A6 c];exact Is.new (_,0,Qy (),_,0,h2,1) ht
 .refine iQ (ui (λz=>c (V.str.inj z))) [0:q _ H (ic.refl _) ?_];unfold yb
  try dsimp only
  rw[A4 c];exact U
def AA:#[T,1,a.Jr,a.Jn,["source"],OB]:=by
 rw[9,T.io,Zj]
 erw[h,v,d,rfl,Z,hd,q];let hs:=uD;rw[3,%[#[qI,#[qm,yD,pv 0,qR],%[|#[qo,#[qD,#v[ql]]]],qr]|#[qo,#[ye,#[qm,Qg,#[qG,qC,pv 0,qh],ql],#[qD,#v[ql,#[qG,qC,pv 0,qh]]],qR]]]]
 rw[0,1,0];rcases hd with rfl|⟨k,e,rfl⟩
 .rw[show v= .non from Z,0]
  refine lc (uc rfl) [(sml rfl):λt U=>?_];exact q _ _ (qf U _) (Is.new (_,0,Qy (),1) U)
 .erw[Z,p,ws,rfl,hp,w1,r1,rfl,[rfl,aa],w2,r2,rfl,h2,h3];rw[show r2= [] from h3,0]
  refine iQ (ui (λz=>by rw[z,0])) ?_
  rw[0,p,_,_,0,1,SqT.of hp,1,1,0];by_cases c:k="leaf"
  .refine lc (uc (by rw[c])) (0,p,_,_,0,1,SqT.of hp,1,(sml rfl),λt U=>?_)
   refine q _ _ (qf U _) ?_;unfold yZ
   try dsimp only
   rw[A6 c];exact Is.new (_,0,Qy (),_,0,h2,1) U
  .refine iQ (ui (λz=>c (V.str.inj z))) (q _ H (ic.refl _) ?_);unfold yZ
   try dsimp only
   rw[A4 c];exact(rfl:V.non=V.non)
end
structure Sy where
 G:Type
 fin:G->Bool
 want:G->om Str
 own:G->G
 tk:G->om D->G
 stuck:G->Str->G
 said:G->om D
 g0:Str->om G
 once:Str->om D
 lft:G->Nat
 M:Nat
 ns:oj Str
structure Sy.Ok (Y:Sy):Prop where
 fs:∀g m,Y.fin (Y.stuck g m)=v_
 ss:∀g m,Y.said (Y.stuck g m)=U_
 sf:∀g v,Y.said g=u_ v->Y.fin g=v_
 lo:∀g,Y.fin g=Vd->Y.want g=U_->Y.lft (Y.own g)<Y.lft g
 lt:∀g m a,Y.fin g=Vd->Y.want g=u_ m->Y.lft (Y.tk g a)<Y.lft g
 lk:∀g m,Y.fin g=Vd->Y.lft (Y.stuck g m)<Y.lft g
 l0:∀m g,Y.g0 m=u_ g->Y.lft g<=Y.M
 gn:∀m g,Y.g0 m=u_ g->m>Y.ns
namespace Sy
variable {Y:Sy}
nonrec abbrev Orc:=Str->om (om D)
abbrev step (Y:Sy)(f:Orc)(g:Y.G):Y.G:=if Y.fin g=v_ then g else match Y.want g with
 |none=>Y.own g|some m=>match f m with
  |some a=>Y.tk g a|none=>Y.stuck g m
abbrev it (Y:Sy)(f:Orc):Nat->Y.G->Y.G
 |0,g=>g|k+1,g=>it Y f k (step Y f g)
def wn {f:Orc}{g:Y.G}(h:Y.fin g=v_):step Y f g=g:=by unfold step;rw[A6 h]
def wX {f:Orc}{g:Y.G}(h:Y.fin g=v_):∀k,it Y f k g=g
 |0=>rfl|k+1=>by show it Y f k (step Y f g)=g;rw[wn h];exact wX h k
def kW {f:Orc}:∀(k j:Nat) (g:Y.G),it Y f (k+j) g=it Y f j (it Y f k g)
 |0,j,g=>by rw[Tc];rfl|k+1,j,g=>by
  rw[Nat.add_right_comm];show it Y f (k+j) (step Y f g)=_;rw[kW k j]
  rfl
def it_snoc {f:Orc}(k:Nat)(g:Y.G):it Y f (k+1) g=step Y f (it Y f k g):=kW k 1 g
def Bm (h:Y.Ok){f:Orc}{g:Y.G}(U:Y.fin g=Vd):Y.lft (step Y f g)<Y.lft g:=by
 unfold step;rw[U,A4 uf];cases Z:Y.want g with
 |none=>exact h.lo g U Z|some m=>
  show Y.lft (match f m with|some a=>Y.tk g a|none=>Y.stuck g m)<_
  cases f m with
  |some a=>exact h.lt g m a U Z|none=>exact h.lk g m U
def it_end (h:Y.Ok){f:Orc}:∀(k:Nat) (g:Y.G),Y.lft g<=k->Y.fin (it Y f k g)=v_
 |0,g,hl=>by
  show Y.fin g=v_;cases U:Y.fin g with
  |true=>rfl|false=>have:=Bm (f:=f) h U;omega
 |k+1,g,hl=>by
  show Y.fin (it Y f k (step Y f g))=v_;cases U:Y.fin g with
  |true=>rw[wn U,wX U];exact U|false=>exact it_end h k _ (by have:=Bm (f:=f) h U;omega)
variable {j:Nat}
def it_one {f:Orc}{g:Y.G}{k:Nat}(U:Y.fin (it Y f k g)=v_)(Z:Y.fin (it Y f j g)=v_):it Y f k g=it Y f j g:=by
 rcases T5 k j with h|h
 .erw[Hi h,d,rfl];rw[kW,wX U]
 .erw[Hi h,d,rfl];rw[kW,wX Z]
def AN (h:Y.Ok){f f':Orc}(hm:∀m a,f m=u_ a->f' m=u_ a):∀(k:Nat) (g:Y.G),it Y f' k g=it Y f k g\/((∀j,it Y f j (it Y f k g)=it Y f k g)/\Y.said (it Y f k g)=U_)
 |0,g=> .inl rfl|k+1,g=>by
  show it Y f' k (step Y f' g)=it Y f k (step Y f g)\/_;by_cases c:step Y f' g=step Y f g
  .rw[c];exact AN h hm k _
  .right;let Z:Y.fin g=false:=by
    cases Z:Y.fin g with
    |false=>rfl|true=>exact A8 (by rw[wn Z,wn Z]) c
   let e:∃m,step Y f g=Y.stuck g m:=by
    unfold step at c⊢;rw[Z,A4 uf] at c⊢;rw[A4 uf] at c;cases hw:Y.want g with
    |none=>rw[hw] at c;exact A8 rfl c|some m=>
     rw[hw] at c;simp only at c⊢;cases U:f m with
     |none=>exact[m:1]|some a=>rw[U,hm m a U] at c;exact A8 rfl c
   erw[e,m,e];let e2:it Y f (k+1) g=Y.stuck g m:=by
    show it Y f k (step Y f g)=_;rw[e];exact wX (h.fs g m) k
   rw[e2];exact[wX (h.fs g m):h.ss g m]
def AM (h:Y.Ok){f f':Orc}(hm:∀m a,f m=u_ a->f' m=u_ a){k:Nat}{g:Y.G}{v:D}(U:Y.said (it Y f k g)=u_ v):it Y f' k g=it Y f k g:=by
 rcases AN h hm k g with e|⟨_,e⟩
 .exact e
 .rw[U,0] at e
abbrev Fh (Y:Sy):Nat->Orc
 |0,m=>match Y.g0 m with
  |none=>u_ (Y.once m)|some _=>U_
 |h+1,m=>match Y.g0 m with
  |none=>u_ (Y.once m)|some g=>(Y.said (it Y (Fh Y h) Y.M g)).map u_
variable {m:Str}
def wR (h:Y.g0 m=U_):∀k,Fh Y k m=u_ (Y.once m)
 |0=>by simp![Fh,h]|k+1=>by simp![Fh,h]
def Fh_run {g:Y.G}(h:Y.g0 m=u_ g)(k:Nat):Fh Y (k+1) m=(Y.said (it Y (Fh Y k) Y.M g)).map some:=by simp![Fh,h]
def KQ {g:Y.G}(h:Y.g0 m=u_ g):Fh Y 0 m=none:=by simp![Fh,h]
def IQ (h:Y.Ok):∀(k:Nat) (m:Str) (a:om D),Fh Y k m=u_ a->Fh Y (k+1) m=u_ a
 |0,m,a,e=>by
  cases U:Y.g0 m with
  |none=>rw[wR U] at e⊢;exact e|some g=>rw[KQ U,0] at e
 |k+1,m,a,e=>by
  cases U:Y.g0 m with
  |none=>rw[wR U] at e⊢;exact e|some g=>
   rw[Fh_run U] at e⊢;cases Z:Y.said (it Y (Fh Y k) Y.M g) with
   |none=>rw[Z,0] at e|some v=>
    rw[AM h (IQ h k) Z];exact e
def Aah (h:Y.Ok){k:Nat}(U:k<=j){a:om D}(e:Fh Y k m=u_ a):Fh Y j m=u_ a:=by
 erw[Hi U,d,rfl]
 induction d with
 |zero=>exact e|succ d Z=>exact IQ h _ _ _ (Z ())
open Classical in
abbrev F (Y:Sy):Orc:=λm=>if h:∃a k,Fh Y k m=u_ a then u_ (choose h) else U_
def F_iff (h:Y.Ok){a:om D}:F Y m=u_ a↔∃k,Fh Y k m=u_ a:=by
 unfold F;constructor
 .intro e;by_cases c:∃a k,Fh Y k m=u_ a
  .rw[dif_pos c] at e;have:=rf c;rwa[uN e] at this
  .rw[dif_neg c,0] at e
 .rintro⟨k,e⟩;let c:∃a k,Fh Y k m=u_ a:=[a:k:e];rw[dif_pos c];erw[rf c,j,e2];let e3:=Aah h (Nat.le_max_left k j) e;let U:=Aah h (Nat.le_max_right k j) e2;rw[e3] at U;exact U.symm
def F_of (h:Y.Ok){k:Nat}{a:om D}(e:Fh Y k m=u_ a):F Y m=u_ a:=(F_iff h).mpr [k:e]
def F_once (h:Y.Ok)(U:Y.g0 m=U_):F Y m=u_ (Y.once m):=F_of h (wR U 0)
def Di (h:Y.Ok)(g:Y.G):∃k,∀j,k<=j->step Y (Fh Y j) g=step Y (F Y) g:=by
 unfold step;by_cases Z:Y.fin g=v_
 .exact⟨(0),λj _=>by rw[A6 Z,A6 Z]⟩
 .cases hw:Y.want g with
  |none=>exact[(0):λj _=>rfl]|some m=>
   cases U:F Y m with
   |some a=>
    erw[(F_iff h).mp U,k,e,<-⟨k,λj hj=>by simp![Aah h hj e,U]⟩]
   |none=>
    rw[_,(0),λj _=>?_];have:Fh Y j m=none:=by
     cases e:Fh Y j m with
     |none=>rfl|some a=>rw[F_of h e,0] at U
    simp![this,U]
def EJ (h:Y.Ok):∀(n:Nat) (g:Y.G),∃k,∀j,k<=j->it Y (Fh Y j) n g=it Y (F Y) n g
 |0,g=>[(0):λ_ _=>rfl]|n+1,g=>by
  erw[Di h g,k1,h1];erw[EJ h n (step Y (F Y) g),k2,h2];rw[_,max k1 k2,λj U=>?_];show it Y (Fh Y j) n (step Y (Fh Y j) g)=it Y (F Y) n (step Y (F Y) g);rw[h1 j (),h2 j ()]
def F_run (h:Y.Ok){g:Y.G}(Z:Y.g0 m=u_ g):F Y m=(Y.said (it Y (F Y) Y.M g)).map some:=by
 cases hs:Y.said (it Y (F Y) Y.M g) with
 |some v=>
  erw[EJ h Y.M g,k,e];refine F_of h (k:=k+1) ?_;rw[Fh_run Z,e k (uq _),hs]
  rfl
 |none=>
  show F Y m=U_;cases e:F Y m with
  |none=>rfl|some a=>
   erw[(F_iff h).mp e,k,e];cases k with
   |zero=>rw[KQ Z,0] at e|succ k=>
    rw[Fh_run Z] at e;cases U:Y.said (it Y (Fh Y k) Y.M g) with
    |none=>rw[U,0] at e|some v=>
     rw[<-AM h (λm a q=>F_of h q) U,hs,0] at U
abbrev Wt (Y:Sy)(n m:Str):Prop:=∃g k,Y.g0 n=u_ g/\Y.fin (it Y (F Y) k g)=Vd/\Y.want (it Y (F Y) k g)=u_ m
def wt_less (h:Y.Ok){n:Str}(w:Wt Y n m){k:Nat}{a:om D}(e:Fh Y k n=u_ a):∃j b,j<k/\Fh Y j m=u_ b:=by
 erw[w,g,i,hg,hf,hw];cases k with
 |zero=>rw[KQ hg,0] at e|succ k=>
  rw[_,k];rw[Fh_run hg] at e;cases Z:Y.said (it Y (Fh Y k) Y.M g) with
  |none=>rw[Z,0] at e|some v=>
   let U:=h.sf _ _ Z;let eM:=AM h (f':=F Y) (λm a q=>F_of h q) Z;rcases AN h (f:=Fh Y k) (f':=F Y) (λm a q=>F_of h q) i g with ei|⟨ei,es⟩
   .rw[ei] at hf hw;cases hm:Fh Y k m with
    |some b=>exact[b:U9 k:1]|none=>
     let e1:it Y (Fh Y k) (i+1) g=Y.stuck (it Y (Fh Y k) i g) m:=by
      rw[it_snoc];unfold step;rw[hf,A4 uf,hw];simp![hm]
     let e2:Y.fin (it Y (Fh Y k) (i+1) g)=true:=by rw[e1];exact h.fs _ _
     rw[<-it_one e2 U,e1,h.ss,0] at Z
   .let aa:it Y (Fh Y k) (i+Y.M) g=it Y (Fh Y k) i g:=by rw[kW];exact ei _
    let e3:it Y (Fh Y k) (Y.M+i) g=it Y (Fh Y k) Y.M g:=by rw[kW];exact wX U i
    rw[<-e3,Nat.add_comm,aa,es,0] at Z
inductive Wts (Y:Sy):Str->Str->Prop
 |one {n m:Str}:Wt Y n m->Wts Y n m
 |more {n m l:Str}:Wts Y n m->Wt Y m l->Wts Y n l
def IT (h:Y.Ok){n:Str}(w:Wts Y n m):∀{k:Nat}{a:om D},Fh Y k n=u_ a->∃j b,j<k/\Fh Y j m=u_ b:=by
 induction w with
 |one w=>exact λe=>wt_less h w e|more _ w U=>
  intro k a e;erw[U e,j,b,hj,Z];erw[wt_less h w Z,i,c,hi,e2,<-(i,c,(),e2)]
def ow (h:Y.Ok){n:Str}(w:Wts Y n n):F Y n=none:=by
 let U:∀k a,Fh Y k n≠u_ a:=by
  intro k
  induction k using Nat.strongRecOn with
  |_ k Z=>
   intro a e;erw[IT h w e,j,b,hj,e1,<-Z j hj b e1]
 cases e:F Y n with
 |none=>rfl|some a=>
  erw[(F_iff h).mp e,k,e,<-A8 e (U k a)]
structure Ss (Y:Sy) where
 stk:oj (Str×Y.G)
 don:oj (Str×Y.G)
abbrev YV (l:oj (Str×Y.G))(m:Str):om Y.G:=(l.find? λp=>decide (p.1=m)).map (·.2)
abbrev yet (S:Ss Y)(m:Str):om (om (om D)):=if m>S.stk.map (·.1) then u_ U_ else match Y.g0 m with
 |none=>u_ (u_ (Y.once m))|some _=>(YV S.don m).map λg=>(Y.said g).map u_
abbrev nxt (S:Ss Y):Ss Y:=match S.stk with
 | []=>S|(n,g)::r=>if Y.fin g=v_ then[r:S.don++ [(n,g)]] else match Y.want g with
  |none=>[(n,Y.own g)::r:S.don]|some m=>match yet S m with
   |some (u_ a)=>[(n,Y.tk g a)::r:S.don]|some U_=>[(n,Y.stuck g m)::r:S.don]|none=>match Y.g0 m with
    |some g'=>[(m,g')::(n,g)::r:S.don]|none=>S
abbrev nx (S:Ss Y):Nat->Ss Y
 |0=>S|k+1=>nxt (nx S k)
abbrev rest (S:Ss Y):oj Str:=Y.ns.filter λm=>decide (m∉S.stk.map (·.1))&&decide (m∉S.don.map (·.1))
abbrev lfts:oj (Str×Y.G)->Nat
 | []=>0|(_,g)::r=>Y.lft g+1+lfts r
abbrev mu (S:Ss Y):Nat:=lfts S.stk+(Y.M+2)*↑(rest S)
variable {S:Ss Y}
def zk (h:yet S m=U_):m∉S.stk.map (·.1)/\(∃g,Y.g0 m=u_ g)/\m∉S.don.map (·.1):=by
 unfold yet at h;by_cases c:m>S.stk.map (·.1)
 .rw[A6 c,0] at h
 .rw[A4 c] at h;cases U:Y.g0 m with
  |none=>rw[U,0] at h|some g=>
   rw[U] at h;simp![TY] at h;rw[_,c,[g:1],λhm=>?_];erw[Af.mp hm,p,Z,rfl];let h3:(S.don.find? λq=>decide (q.1=p.1))=none:=by simpa [YV] using h
   rw[Uz] at h3;exact h3 p Z (by simp)
variable {l:oj Str}
def KZ {p q:Str->Bool}(hl:m>l)(hp:p m=v_)(hq:q m=Vd)(U:∀x,q x=v_->p x=v_):↑(l.filter q)<↑(l.filter p):=by
 induction l with
 |nil=>rw[hl,0]|cons x r Z=>
  let le:↑(r.filter q)<=↑(r.filter p):=by
   clear Z hl
   induction r with
   |nil=>exact uq _|cons y r Z=>
    rw[U0,U0];cases h1:q y with
    |true=>rw[U y h1,A6 rfl,A6 rfl];simp![um];omega|false=>
     rw[A4 uf];split
     .simp![um];omega
     .exact Z
  rw[U0,U0];rcases Ab.mp hl with rfl|hm
  .rw[hp,hq,A6 rfl,A4 uf,um];omega
  .have:=Z hm;cases h1:q x with
   |true=>rw[U x h1,A6 rfl,A6 rfl];simp![um];omega|false=>
    rw[A4 uf];split
    .simp![um];omega
    .exact this
def nxt_mu (h:Y.Ok)(hs:S.stk≠ []):mu (nxt S)<mu S:=by
 erw[S,stk,don];cases stk with
 |nil=>exact A8 rfl hs|cons p r=>
  erw[p,n,g];let same:∀g',Y.lft g'<Y.lft g->mu (⟨(n,g')::r,don⟩:Ss Y)<mu ⟨(n,g)::r,don⟩:=by
   intro g' hl;show Y.lft g'+1+lfts r+(Y.M+2)*_<Y.lft g+1+lfts r+(Y.M+2)*_;let e:rest (⟨(n,g')::r,don⟩:Ss Y)=rest ⟨(n,g)::r,don⟩:=rfl;rw[e];omega
  unfold nxt;simp only;cases U:Y.fin g with
  |true=>
   rw[A6 rfl];show lfts r+(Y.M+2)*_<Y.lft g+1+lfts r+(Y.M+2)*_;let e:rest (⟨r,don++ [(n,g)]⟩:Ss Y)=rest ⟨(n,g)::r,don⟩:=by
    unfold rest
    congr 1
    funext x
    simp![uA,uC,UG,Ae,uG,uL,uV,<-Bool.decide_and];rw[ve];constructor
    .rintro⟨a,b⟩;exact[λz=>z.elim (λz=>b (.inr z)) a:λz=>b (.inl z)]
    .rintro⟨a,b⟩;exact[λz=>a (.inr z):λz=>z.elim b λz=>a (.inl z)]
   rw[e];omega
  |false=>
   rw[A4 uf];cases hw:Y.want g with
   |none=>exact same _ (h.lo g U hw)|some m=>
    simp only;cases hy:yet ([(n,g)::r:don]:Ss Y) m with
    |some o=>
     cases o with
     |some a=>exact same _ (h.lt g m a U hw)|none=>exact same _ (h.lk g m U)
    |none=>
     simp only;erw[zk hy,h1,[g',Z],h2];rw[Z];show Y.lft g'+1+(Y.lft g+1+lfts r)+(Y.M+2)*↑(rest ([(m,g')::(n,g)::r:don]:Ss Y))<Y.lft g+1+lfts r+(Y.M+2)*↑(rest ([(n,g)::r:don]:Ss Y));let e:↑(rest (⟨(m,g')::(n,g)::r,don⟩:Ss Y))<↑(rest (⟨(n,g)::r,don⟩:Ss Y)):=by
      refine KZ (m:=m) (h.gn m g' Z) ?_ ?_ ?_
      .simp![uF,vo];exact[h1:h2]
      .simp
      .intro x hx;simp![uF,vo] at hx⊢;exact[λz=>hx.1 (uh _ z):hx.2]
     let l0:=h.l0 m g' Z;let e2:=Nat.mul_le_mul_left (Y.M+2) (Nat.succ_le_of_lt e);rw[Nat.mul_succ] at e2;omega
abbrev Chn (Y:Sy):oj (Str×Y.G)->Prop
 | []=>True|(n,g)::r=>(∃s k,Y.g0 n=u_ s/\g=it Y (F Y) k s)/\Chn Y r/\∀p r',r=p::r'->Y.fin p.2=Vd/\Y.want p.2=u_ n
structure SOk (n0:Str)(S:Ss Y):Prop where
 chn:Chn Y S.stk
 nd:(S.stk.map (·.1)++S.don.map (·.1)).Nodup
 don:∀p>S.don,∃s,Y.g0 p.1=u_ s/\p.2=it Y (F Y) Y.M s
 bot:(S.stk.map (·.1)).getLast? =u_ n0\/S.stk= []/\(S.don.map (·.1)).getLast? =u_ n0
def SY {n:Str}{g:Y.G}:∀{r:oj (Str×Y.G)}{m:Str},Chn Y ((n,g)::r)->m>r.map (·.1)->Wts Y m n:=by
 intro r
 induction r generalizing n g with
 |nil=>intro m _ h;rw[h,0]|cons p r ih=>
  intro m hc hm;erw[p,U,g'];erw[hc,_,Z,c3];erw[c3 (U,g') r rfl,f1,w1];erw[Z.1,s,k,hs,hk];let w:Wt Y U n:=(s,k,hs,by rwa[<-hk],by rwa[<-hk])
  rcases Ab.mp hm with rfl|hm
  .exact .one w
  .exact .more (ih Z hm) w
def kE {l:oj (Str×Y.G)}{g:Y.G}(h:YV l m=u_ g):(m,g)>l:=by
 unfold YV at h;cases e:l.find? λp=>decide (p.1=m) with
 |none=>rw[e,0] at h|some p=>
  rw[e] at h;rw[uN h,0];have:=V0 e;let hm:p.1=m:=ur this;rw[<-hm];exact vW e
def Abx (h:Y.Ok){n0:Str}(hs:SOk n0 S):SOk n0 (nxt S):=by
 erw[S,stk,don];cases stk with
 |nil=>exact hs|cons p r=>
  erw[p,n,g];erw[hs,chn,nd,U,bot];erw[chn,[s,k,Z,hk],c2,c3];let on:∀g',Y.fin g=Vd->step Y (F Y) g=g'->SOk n0 (⟨(n,g')::r,don⟩:Ss Y):=by
   intro g' hf e;rw[_,[(s,k+1,Z,?_):c2:c3],nd,U,.inl ?_]
   .rw[it_snoc,<-hk,e]
   .rcases bot with b|⟨b,_⟩
    .exact b
    .rw[b,0]
  unfold nxt;simp only;cases hf:Y.fin g with
  |true=>
   rw[A6 rfl];rw[_,c2,?_,λq hq=>?_,?_]
   .show(r.map (·.1)++(don++ [(n,g)]).map (·.1)).Nodup;let ac:(n::(r.map (·.1)++don.map (·.1))).Nodup:=nd;rw[uA,<-V6];show((r.map (·.1)++don.map (·.1))++ [n]).Nodup;exact(List.perm_append_comm (l₁:= [n]) (l₂:=r.map (·.1)++don.map (·.1))).nodup_iff.mp ac
   .rcases Ae.mp hq with hq|hq
    .exact U q hq
    .rw[Ac.mp hq,0];rw[_,s,Z];show g=_;rw[hk];refine it_one (by rwa[<-hk]) (it_end h _ _ (h.l0 n s Z))
   .rcases bot with b|⟨b,_⟩
    .cases r with
     |nil=>
      right;rw[1];let hn:n=n0:=by simpa using b
      show((don++ [(n,g)]).map (·.1)).getLast? =u_ n0;rw[uA,hn];simp
     |cons q r=>
      left
      simpa [V3] using b
    .rw[b,0]
  |false=>
   rw[A4 uf];let aa:step Y (F Y) g=match Y.want g with
     |none=>Y.own g|some m=>match F Y m with
      |some a=>Y.tk g a|none=>Y.stuck g m:=by
    unfold step;rw[hf,A4 uf]
   cases hw:Y.want g with
   |none=>exact on _ hf (by rw[aa,hw])|some m=>
    rw[hw] at aa;simp only at aa⊢;cases hy:yet ([(n,g)::r:don]:Ss Y) m with
    |some o=>
     let hF:F Y m=o:=by
      unfold yet at hy;by_cases c:m>((n,g)::r).map (·.1)
      .rw[A6 c,0] at hy;let w:Wt Y n m:=(s,k,Z,by rwa[<-hk],by rwa[<-hk])
       rcases Ab.mp c with rfl|hm
       .exact ow h (.one w)
       .exact ow h (.more (SY (g:=g) [(s,k,Z,hk):c2:c3] hm) w)
      .rw[A4 c] at hy;cases hg:Y.g0 m with
       |none=>
        rw[hg,0] at hy;exact F_once h hg
       |some gm=>
        rw[hg] at hy;simp only at hy;cases hd:YV don m with
        |none=>rw[hd,0] at hy|some gd=>
         rw[hd,0] at hy;erw[U _ (kE hd),s',e1,e2];rw[hg,0] at e1;let e3:gd=it Y (F Y) Y.M gm:=e2;rw[F_run h hg,e3]
     cases o with
     |some a=>exact on _ hf (by rw[aa,hF])|none=>exact on _ hf (by rw[aa,hF])
    |none=>
     simp only;erw[zk hy,h1,[g',hg],h2];rw[hg];rw[_,[(g',(0),hg,1):[(s,k,Z,hk):c2:c3]:λq r' e=>?_],?_,U,.inl ?_]
     .rw[e,0];exact[hf:hw]
     .show(m::(((n,g)::r).map (·.1)++don.map (·.1))).Nodup;rw[U7];rw[_,λz=>?_,nd];rcases Ae.mp z with z|z
      .exact h1 z
      .exact h2 z
     .rcases bot with b|⟨b,_⟩
      .show(m::n::r.map (·.1)).getLast? =u_ n0;rwa[V3]
      .rw[b,0]
def nx_ok (h:Y.Ok){n0:Str}{S:Ss Y}(U:SOk n0 S):∀k,SOk n0 (nx S k)
 |0=>U|k+1=>Abx h (nx_ok h U k)
def AD {S:Ss Y}{k:Nat}(h:(nx S k).stk= []):∀j,nx S (k+j)=nx S k
 |0=>rfl|j+1=>by
  show nxt (nx S (k+j))=_;rw[AD h j];unfold nxt;rw[h]
def nx_one {k:Nat}(U:(nx S k).stk= [])(Z:(nx S j).stk= []):nx S k=nx S j:=by
 rcases T5 k j with h|h
 .erw[Hi h,d,rfl,<-(AD U d).symm]
 .erw[Hi h,d,rfl,<-AD Z d]
abbrev S0 (Y:Sy)(n:Str):Ss Y:=match Y.g0 n with
 |none=>[[]:[]]|some g=>[[(n,g)]:[]]
def S0_ok {n:Str}{g:Y.G}(U:Y.g0 n=u_ g):SOk n (S0 Y n):=by
 unfold S0;rw[U];exact(⟨(g,(0),U,1),trivial,λ_ _ e=>by rw[e,0]⟩,by simp,λ_ h=>(by rw[h,0]),.inl rfl)
end Sy
end K43
namespace K43
open PySem L2 PyProof.Rows
abbrev ThS (d:D):Prop:=(∃z,d=flt z)\/(∃e,d= .tup [-"said",e]/\isT e=v_)\/∃(u z:Str),d= .tup [-"asks",-[!u,!z]]/\isT (!z)=v_/\(u="names"\/(u="thing"\/u="has")/\nm z=v_)
def EO {d:D}(h:mK d=v_):∃z,d= .str z/\nm z=true:=by
 cases d with
 |str z=>exact[z:1:h]|_=>rw[h,0]
variable {own:Str}{n:Nat}{r:Rw}{e:D}
def OZ {B:Str->D}{p:Int}(hr:JA n 300 r)(h:Tr B)(U:mJ own r B p= .stop e):ThS e:=by
 unfold mJ at U;erw[id hr,ks,hk,hp];erw[r,Z,ps];by_cases c1:Z>MKR
 .rw[A6 c1] at U;simp only at U;generalize made Z B own ps=dm at U;let aa:(if isT dm=v_ then Out.go (Bp B (b0 ps) dm) (p+1) else .stop (flt "big"))= .stop e->ThS e:=by
   intro hq;by_cases c:isT dm=v_
   .rw[A6 c,0] at hq
   .rw[A4 c,0] at hq;exact .inl ⟨0⟩
  cases dm with
  |non=>rw[U,0];exact .inl ⟨0⟩|_=>exact aa U
 rw[A4 c1] at U;by_cases c2:Z>ASK
 .rw[A6 c2,0] at U;erw[wL _ hk c2,_,_,ek];simp only at ek;subst ek;erw[WM hp,z0,z1,rfl,h0,h1];let hT:=h z1 h1;show ThS (sV Z (B z1));unfold sV;by_cases d1:Z="names"
  .rw[A6 d1];by_cases d2:isStr (B z1)=v_
   .rw[A6 d2];obtain⟨z,ez⟩:∃z,B z1= !z:=by
     cases hb:B z1 with
     |str z=>exact[z:1]|_=>rw[hb,0] at d2
    rw[ez] at hT⊢;exact .inr (.inr (_,z,1,hT,.inl rfl))
   .rw[A4 d2];exact .inl ⟨0⟩
  .rw[A4 d1];by_cases d2:mK (B z1)=v_
   .rw[A6 d2];erw[EO d2,z,ez,hz];rw[ez] at hT⊢;refine .inr (.inr (_,z,1,hT,.inr [?_:hz]));split
    .exact .inl rfl
    .exact .inr rfl
   .rw[A4 d2];exact .inl ⟨0⟩
 rw[A4 c2] at U;by_cases c3:Z="say"
 .rw[A6 c3,0] at U;subst c3;let ek:=AT _ hk rfl;simp only at ek;subst ek;erw[AcX hp,z0,rfl,h0,<-.inr (.inl [0:h z0 h0])]
 rw[A4 c3] at U;by_cases c4:Z="fault"
 .rw[A6 c4,0] at U;exact .inl ⟨0⟩
 rw[A4 c4] at U;by_cases c5:NA Z B ps=v_
 .rw[A6 c5,0] at U
 .rw[A4 c5,0] at U
def Aq {rs:oj Rw}{own:Str}(Z:QU rs):∀(f:Nat) (B:Str->D) (p:Int) (n:Nat) (gs:oj D),Tr B->1<=p->p<=↑rs+1->ThS (mQ rs own gs f B p n).th
 |0,B,p,n,gs,hT,h1,h2=>by
  show ThS (if GT.gt p (↑rs) then flt "silent" else flt "long")
  split<;>exact .inl ⟨0⟩
 |f+1,B,p,n,gs,hT,h1,h2=>by
  unfold mQ;by_cases c:GT.gt p (↑rs)
  .rw[A6 c];exact .inl ⟨0⟩
  .rw[A4 c];let U:=Z.ok _ (qaq h1 ())
   let hok:=At (own:=own) U hT h1 ()
   cases hO:mJ own (Jx rs p) B p with
   |go B' p'=>
    rw[hO] at hok;exact Aq Z f B' p' (n+1) gs hok.1 hok.2.1 hok.2.2
   |stop e=>exact OZ U hT hO
variable {rs:oj Rw}
def S6 (U:QU rs){r:Rn}{a:D}(h:C0 rs r)(Z:QH r.th=v_)(ha:Zk a):ThS (mI rs own r a).th:=by
 erw[h.ask Z,k1,_];unfold mI;cases hn:jN a with
 |true=>rw[A6 rfl];exact .inl ⟨0⟩|false=>
  rw[A4 uf];let hT:isT a=true:=by
   rcases ha with rfl|ha
   .rw[hn,0]
   .exact ha
  exact Aq U _ _ _ _ _ (KG h.tr hT) (by have:=h.p1;omega) ()
def Na {rs:oj Rw}{own:Str}:∀(f:Nat) (B:Str->D) (p:Int) (n:Nat) (gs:oj D),QH (mQ rs own gs f B p n).th=v_->1<=f/\n<=(mQ rs own gs f B p n).n
 |0,B,p,n,gs,h=>by
  let h:QH (if GT.gt p (↑rs) then flt "silent" else flt "long")=true:=h
  split at h<;>exact A8 h ()
 |f+1,B,p,n,gs,h=>by
  rw[_,()]
  unfold mQ at h⊢;by_cases c:GT.gt p (↑rs)
  .rw[A6 c] at h;exact A8 h (show¬QH (flt "silent")=v_ by decide+kernel)
  .rw[A4 c] at h⊢;cases Z:mJ own (Jx rs p) B p with
   |go U p'=>
    rw[Z] at h;have:=(Na f U p' (n+1) gs h).2;show n<=(mQ rs own gs f U p' (n+1)).n;omega
   |stop e=>
    show n<=(if QH e=v_ then n else n+1)
    split<;>omega
def Acc {r:Rn}{a:D}(h:QH (mI rs own r a).th=v_):r.n+1<300/\r.n+1<=(mI rs own r a).n:=by
 unfold mI at h⊢;cases hn:jN a with
 |true=>rw[hn,A6 rfl] at h;exact A8 h (show¬QH (flt "lack")=v_ by decide+kernel)|false=>
  rw[hn,A4 uf] at h;rw[A4 uf];have:=Na _ _ _ _ _ h;exact[():this.2]
structure Gp where
 n:Str
 mb:D
 ra:oj D
 run:om (oj Rw×Rn)
 en:om D
abbrev nA (r:Rn):om D:=if QH r.th=v_ then U_ else u_ r.th
abbrev ni (g:Gp)(d:D):Gp:=if jN d=v_ then{g with en:=u_ (flt "lack")} else match Q8 d with
 |none=>{g with en:=u_ (flt "rule")}
 |some rs=>{g with run:=u_ (rs,R0 rs g.n),en:=nA (R0 rs g.n)}
abbrev yH (g:Gp)(d:D):Gp:=match g.run with
 |none=>ni {g with ra:= [-[-[-"rule",g.mb],d]]} d
 |some (rs,r)=>{g with run:=u_ (rs,mI rs g.n r d),en:=nA (mI rs g.n r d)}
abbrev Yu (g:Gp):D:=match g.run with
 |none=>-[-"rule",g.mb]|some (_,r)=>XT r.th
abbrev Jz (qs:oj (Str×D))(k z:Str):D:=if k="has" then .str (if z>qs.map (·.1) then "yes" else "no") else Cw (Bx [] ((qs.map (·.1)).filter λy=>GD y z))
abbrev mZ (k:Str):Bool:=decide (k="has")||decide (k="names")
abbrev yI (g:Gp):om Str:=match Yu g with
 | .tup [!k,!z]=>if mZ k=v_ then U_ else u_ z|_=>U_
abbrev oF (qs:oj (Str×D))(g:Gp):Gp:=match Yu g with
 | .tup [!k,!z]=>yH g (Jz qs k z)|_=>{g with en:=u_ (flt "name")}
abbrev YX:D->om D
 | .tup [!k,v]=>if k="said" then u_ v else U_|_=>U_
abbrev zO (g:Gp):om D:=g.en.bind YX
abbrev Dg (g:Gp)(m:Str):Gp:={g with en:=u_ (-[-"stuck",!m])}
abbrev AF (g:Gp):Nat:=match g.en with
 |some _=>0|none=>match g.run with
  |none=>302|some (_,r)=>1+(300-r.n)
abbrev g0D (m:Str):D->om Gp
 | .tup [!k,e]=>if k="leaf" then U_ else if k="made" then u_ (m,e,[],U_,U_) else u_ (ni (m,.non,[],U_,U_) e)|_=>U_
abbrev oI:D->om D
 | .tup [.str _,e]=>u_ e|_=>U_
abbrev SyP (qs:oj (Str×D)):Sy:=⟨Gp,λg=>g.en.isSome,yI,oF qs,λg a=>yH g (a.getD .non),Dg,zO,λm=>g0D m (qJ qs m),λm=>oI (qJ qs m),AF,(302),qs.map (·.1)⟩
variable {g:Gp}
def EA (h:g.run=U_)(d:D):g.en=U_->AF (ni g d)<302:=by
 intro U;unfold ni;split
 .show(0:Nat)<302;omega
 .cases Z:Q8 d with
  |none=>show(0:Nat)<302;omega|some rs=>
   show(match nA (R0 rs g.n) with|some _=>0|none=>1+(300-(R0 rs g.n).n))<302
   cases nA (R0 rs g.n) with
   |some d=>show(0:Nat)<302;omega|none=>show(1+(300-(R0 rs g.n).n):Nat)<302;omega
def BS (U:g.en=U_)(d:D):AF (yH g d)<AF g:=by
 unfold yH;cases Z:g.run with
 |none=>
  let e:AF g=302:=by unfold AF;rw[U,Z]
  rw[e];exact EA (g:=(g.n,g.mb,[-[-[-"rule",g.mb],d]],U_,g.en)) rfl d U
 |some p=>
  erw[p,rs,r];let e:AF g=1+(300-r.n):=by unfold AF;rw[U,Z]
  rw[e];show(match nA (mI rs g.n r d) with|some _=>0|none=>1+(300-(mI rs g.n r d).n))<_
  unfold nA;by_cases c:QH (mI rs g.n r d).th=v_
  .rw[A6 c];have:=Acc c;show 1+(300-(mI rs g.n r d).n)<1+(300-r.n);omega
  .rw[A4 c];show 0<1+(300-r.n);omega
variable {qs:oj (Str×D)}{z:Str}
def yY (h:z∉qs.map (·.1)):qJ qs z= .non:=by
 unfold qJ;have:(qs.find? λp=>decide (p.1=z))=none:=by
  rw[Uz];intro p U e;exact h (Af.mpr [p:U:ur e])
 rw[this]
 rfl
def Q7 (qs:oj (Str×D)):(SyP qs).Ok where
 fs:=λ_ _=>rfl
 ss:=λg m=>by
  show YX (-[-"stuck",!m])=U_;unfold YX;exact A4 ()
 sf:=λg v h=>by
  let h:zO g=u_ v:=h;unfold zO at h;show g.en.isSome=v_;cases U:g.en with
  |none=>rw[U,0] at h|some d=>rfl
 lo:=λg Z hw=>by
  let U:g.en=none:=by
   cases U:g.en with
   |none=>rfl|some d=>have Z:g.en.isSome=false:=Z;rw[U,0] at Z
  show AF (oF qs g)<AF g;unfold oF;split
  .exact BS U _
  .have:0<AF g:=by
    unfold AF;rw[U];simp only;split<;>omega
   exact this
 lt:=λg m a Z hw=>by
  let U:g.en=none:=by
   cases U:g.en with
   |none=>rfl|some d=>have Z:g.en.isSome=false:=Z;rw[U,0] at Z
  exact BS U _
 lk:=λg m Z=>by
  let U:g.en=none:=by
   cases U:g.en with
   |none=>rfl|some d=>have Z:g.en.isSome=false:=Z;rw[U,0] at Z
  show 0<AF g;unfold AF;rw[U];simp only;split<;>omega
 l0:=λm g h=>by
  let h:g0D m (qJ qs m)=u_ g:=h;show AF g<=302;unfold g0D at h;split at h
  .split at h
   .rw[h,0]
   .split at h
    .rw[h,0];exact uq _
    .rw[h,0];exact UC (EA rfl _ rfl)
  .rw[h,0]
 gn:=λm g h=>by
  let h:g0D m (qJ qs m)=u_ g:=h;show m>qs.map (·.1);by_cases c:m>qs.map (·.1)
  .exact c
  .rw[yY c,0] at h
abbrev EnS (d:D):Prop:=(∃z,d=flt z)\/(∃e,d= .tup [-"said",e]/\isT e=v_)\/∃z,d=-[-"stuck",!z]
structure GI (g:Gp):Prop where
 n:nm g.n=v_
 run:∀rs r,g.run=u_ (rs,r)->QU rs/\C0 rs r/\ThS r.th/\(g.en=U_->QH r.th=v_)
 no:g.run=U_->g.en=U_->∃z,g.mb= .str z/\nm z=v_
 en:∀d,g.en=u_ d->EnS d
 ra:nL g.ra=v_/\dpL g.ra<=30/\↑g.ra<=1
def AbX {r:Rn}(h:ThS r.th){d:D}(e:nA r=u_ d):EnS d:=by
 unfold nA at e;by_cases c:QH r.th=v_
 .rw[A6 c,0] at e
 .rw[A4 c,0] at e;rcases h with h|h|⟨u,z,h,_⟩
  .exact .inl h
  .exact .inr (.inl h)
  .rw[h] at c;exact A8 (show decide (("asks":Str)="asks")=v_ from uc rfl) c
def Ii {r:Rn}(e:nA r=U_):QH r.th=true:=by
 unfold nA at e;by_cases c:QH r.th=v_
 .exact c
 .rw[A4 c,0] at e
def Acg {n:Str}(h:QU rs):ThS (R0 rs n).th:=Aq h 300 B0 1 0 [] Aaj () (by have:=h.n0;omega)
def NH (d:D)(h1:nm g.n=v_)(h2:g.run=U_)(h3:nL g.ra=v_/\dpL g.ra<=30/\↑g.ra<=1):GI (ni g d):=by
 unfold ni;split
 .exact(h1,λrs r e=>(by rw[show g.run=u_ (rs,r) from e,0] at h2),(λ_ e=>by rw[e,0]),λd e=>by rw[e,0];exact .inl ⟨0⟩,h3)
 .cases Z:Q8 d with
  |none=>exact(h1,λrs r e=>(by rw[show g.run=u_ (rs,r) from e,0] at h2),(λ_ e=>by rw[e,0]),λd e=>by rw[e,0];exact .inl ⟨0⟩,h3)|some rs=>
   let U:=(oy Z).2;exact(h1,λaa r e=>by rw[e,0];exact(U,IN U,Acg U,λe=>Ii e),λe _=>(by rw[e,0]),λd e=>AbX (Acg U) e,h3)
def AQ (h:GI g)(Z:g.en=U_){d:D}(ha:Zk d):GI (yH g d):=by
 unfold yH;cases hr:g.run with
 |none=>
  erw[h.no hr Z,z,hz,_];refine NH d h.n rfl ?_;let U:nD d=v_/\dp d<=12:=by
   rcases ha with rfl|ha
   .exact⟨1,by simp[dp]⟩
   .exact[xS (yp ha):xR ha]
  rw[hz];rw[_,?_,?_,uq _]
  .simp![nL,nD,U.1,Uf]
  .simp![dpL,dp];have:=U.2;omega
 |some p=>
  erw[p,rs,r];erw[h.run rs r hr,k1,k2,k3,k4];let hs:=S6 (own:=g.n) k1 k2 (k4 Z) ha;exact(h.n,λaa r' e=>by rw[e,0];exact(k1,qaC k1 k2 (k4 Z) ha,hs,λe=>Ii e),λe _=>(by rw[e,0]),λd e=>AbX hs e,h.ra)
def NF (h:GI g)(m:Str):GI (Dg g m):=(h.n,λrs r e=>((h.run rs r e).1,(h.run rs r e).2.1,(h.run rs r e).2.2.1,(λz=>by rw[z,0])),(λ_ e=>by rw[e,0]),λd e=>by rw[e,0];exact .inr (.inr [m:1]),h.ra)
set_option tactic.hygienic true in
def ou:∀(zs U:oj Str),isT (Cw U)=v_->isT (Cw (Bx U zs))=v_
 | [],U,h=>h|z::r,U,h=>by
  unfold Bx;split
  .rename_i c;exact ou r _ c
  .exact h
def WT (Z:QT qs){k:Str}(z:Str)(hk:mZ k=v_):isT (Jz qs k z)=v_/\Bb k (Jz qs k z)=true:=by
 unfold Jz;by_cases c:k="has"
 .rw[A6 c,c];split<;>exact[():()]
 .rw[A4 c];let U:isT (Cw (Bx [] ((qs.map (·.1)).filter λy=>GD y z)))=true:=ou _ [] ()
  rw[_,U];let hr:Mp (Cw (Bx [] ((qs.map (·.1)).filter λy=>GD y z)))=true:=by
   show List.all (Tt D.str _) mK=v_;rw[Ua];intro x hx;erw[Af.mp hx,y,hy,rfl];rcases Bw _ _ _ hy with h|h
   .rw[h,0]
   .exact Z.1.1.1 y (List.mem_filter.mp h).1
  unfold Bb;rw[A4 (show¬jN (Cw _)=v_ from uf),A6 U,A4 c,hr,Bool.or_true]
def wl (h:GI g)(he:g.en=U_)(Z:yI g=U_):∃rs r k z,g.run=u_ (rs,r)/\r.th= .tup [-"asks",-[!k,!z]]/\mZ k=v_/\isT (!z)=v_/\oF qs g=yH g (Jz qs k z):=by
 unfold yI at Z;cases hr:g.run with
 |none=>
  erw[h.no hr he,z,hz,_];let e:Yu g=-[-"rule",!z]:=by unfold Yu;rw[hr,hz]
  rw[e] at Z;simp![show mZ "rule"=Vd by decide+kernel,A4 uf] at Z
  rw[Z,0]
 |some p=>
  erw[p,rs,r];erw[h.run rs r hr,k1,k2,k3,k4];let U:=k4 he;rcases k3 with⟨z,e⟩|⟨d,e,_⟩|⟨u,z,e,ht,hu⟩
  .rw[e] at U;exact A8 U (by show¬decide (("fault":Str)="asks")=v_;decide+kernel)
  .rw[e] at U;exact A8 U (by show¬decide (("said":Str)="asks")=v_;decide+kernel)
  .let e2:Yu g=-[!u,!z]:=by unfold Yu;rw[hr];show XT r.th=_;rw[e];rfl
   rw[e2] at Z;simp only at Z;cases hk:mZ u with
   |false=>rw[hk,A4 uf,0] at Z|true=>exact(rs,r,u,z,1,e,hk,ht,by unfold oF;rw[e2])
variable {m:Str}
def kD (h:GI g)(he:g.en=U_)(U:yI g=u_ m):nm m=v_/\((g.run=U_/\g.mb= !m)\/∃rs r,g.run=u_ (rs,r)/\r.th=-[-"asks",-[-"thing",!m]]):=by
 unfold yI at U;cases hr:g.run with
 |none=>
  erw[h.no hr he,z,hz,hn];let e:Yu g=-[-"rule",!z]:=by unfold Yu;rw[hr,hz]
  rw[e] at U;simp![show mZ "rule"=Vd by decide+kernel,A4 uf] at U
  rw[U,0];exact[hn:.inl [1:hz]]
 |some p=>
  erw[p,rs,r];erw[h.run rs r hr,k1,k2,k3,k4];let Z:=k4 he;rcases k3 with⟨z,e⟩|⟨d,e,_⟩|⟨u,z,e,ht,hu⟩
  .rw[e] at Z;exact A8 Z (by show¬decide (("fault":Str)="asks")=v_;decide+kernel)
  .rw[e] at Z;exact A8 Z (by show¬decide (("said":Str)="asks")=v_;decide+kernel)
  .let e2:Yu g=-[!u,!z]:=by unfold Yu;rw[hr];show XT r.th=_;rw[e];rfl
   rw[e2] at U;simp only at U;rcases hu with rfl|⟨rfl|rfl,hn⟩
   .rw[A6 (),0] at U
   .rw[A4 ()] at U
    rw[U,0];exact[hn:.inr (rs,r,1,e)]
   .rw[A6 (),0] at U
def NG (Z:QT qs)(h:GI g)(U:g.en=U_)(hw:yI g=U_):GI (oF qs g):=by
 erw[wl (qs:=qs) h U hw,rs,r,k,z,_,_,hk,_,e];rw[e];exact AQ h U (.inr (WT Z z hk).1)
def Jq (Z:QT qs)(h:m>qs.map (·.1)):nm m=v_/\∃k e,qJ qs m= .tup [!k,e]/\(k="made"->∃z,e= .str z/\nm z=v_)/\(k≠"made"->(k="leaf"\/k="rule")/\isT e=v_):=by
 let hs:=Z.1.2 _ (SW Z.1.1.2 h);erw[hs,[k,e,U],h2,_];let U:qJ qs m=-[!k,e]:=U;let h2:se (qJ qs m)=true:=h2;rw[U] at h2;let e1:se (-[!k,e])=if eqD (!k) (-"made")=v_ then mK e else(eqD (!k) (-"leaf")||eqD (!k) (-"rule"))&&isT e:=rfl
 rw[e1] at h2;let eq:∀y:Str,eqD (!k) (!y)=decide (k=y):=λy=>rfl;rw[eq,eq,eq] at h2;rw[_,Z.1.1.1 m h,k,e,U,λc=>?_,λc=>?_]
 .rw[uc c,A6 rfl] at h2;exact EO h2
 .rwa[ui c,A4 uf,uF,HK,vo,vo] at h2
set_option tactic.hygienic true in
def EY (Z:QT qs)(h:g0D m (qJ qs m)=u_ g):GI g/\g.n=m:=by
 let hm:m>qs.map (·.1):=(Q7 qs).gn m g h;erw[Jq Z hm,hn,k,e,hd,h1,h2];rw[hd] at h;unfold g0D at h;simp only at h;let U:nL ([]:oj D)=v_/\dpL ([]:oj D)<=30/\↑([]:oj D)<=1:=⟨1,by simp[dpL],uS _⟩
 split at h
 .rw[h,0]
 .split at h
  .rename_i c
   rw[h,0];erw[h1 c,z,rfl,hz,<-⟨(hn,λrs r e=>(by rw[e,0]),λ_ _=>[z:1:hz],λd e=>(by rw[e,0]),U),1⟩]
  .rw[h,0];rw[_,NH e hn rfl U];unfold ni;split
   .rfl
   .split<;>rfl
def DG (h:GI g){v:D}(e:zO g=u_ v):isT v=true:=by
 unfold zO at e;cases U:g.en with
 |none=>rw[U,0] at e|some d=>
  rw[U] at e;let e:YX d=u_ v:=e;rcases h.en d U with⟨z,rfl⟩|⟨x,rfl,Z⟩|⟨z,rfl⟩
  .exact A8 e (by unfold YX flt;simp only;rw[A4 ()];exact λh=>by rw[h,0])
  .let e3:YX (-[-"said",x])=u_ x:=by unfold YX;dsimp only;exact A6 rfl
   rw[e3,0] at e;exact Z
  .exact A8 e (by unfold YX;simp only;rw[A4 ()];exact λh=>by rw[h,0])
def MU (g:Gp)(d:D):(yH g d).n=g.n:=by
 unfold yH;split
 .unfold ni;split
  .rfl
  .split<;>rfl
 .rfl
def Ac6 (qs:oj (Str×D))(g:Gp):(oF qs g).n=g.n:=by
 unfold oF;split
 .exact MU _ _
 .rfl
abbrev SGI {qs:oj (Str×D)}(S:Sy.Ss (SyP qs)):Prop:=∀p:Str×Gp,p>S.stk\/p>S.don->GI p.2/\p.2.n=p.1
set_option tactic.hygienic true in
def MQ (hq:QT qs){S:Sy.Ss (SyP qs)}(h:SGI S){a:om D}(e:Sy.yet S m=u_ (u_ a)):Zk (a.getD .non):=by
 unfold Sy.yet at e;split at e
 .rw[e,0]
 .split at e
  .rename_i U
   rw[e,0];let U:g0D m (qJ qs m)=none:=U;show Zk ((oI (qJ qs m)).getD .non);by_cases hm:m>qs.map (·.1)
   .erw[Jq hq hm,hn,k,e,hd,h1,h2];rw[hd] at U⊢;unfold g0D at U;simp only at U;by_cases c:k="leaf"
    .exact .inr (h2 (by rw[c];decide+kernel)).2
    .rw[A4 c] at U;split at U<;>cases U
   .rw[yY hm];exact .inl rfl
  .cases hd:Sy.YV S.don m with
   |none=>rw[hd,0] at e|some g=>
    rw[hd] at e;let e:(zO g).map u_=u_ a:=uN e;cases Z:zO g with
    |none=>rw[Z,0] at e|some v=>
     rw[Z,0] at e;exact .inr (DG (h (m,g) (.inr (Sy.kE hd))).1 Z)
def Er (hq:QT qs){S:Sy.Ss (SyP qs)}(h:SGI S):SGI (Sy.nxt S):=by
 erw[S,stk,don];cases stk with
 |nil=>exact h|cons p r=>
  erw[p,n,g];erw[h (n,g) (.inl uj),Z,hn];let on:∀g':Gp,GI g'->g'.n=n->SGI #[Y,(n,g')::r,don]:=by
   intro g' h1 h2 p U;rcases U with U|U
   .rcases Ab.mp U with rfl|U
    .exact[h1:h2]
    .exact h p (.inl (uh _ U))
   .exact h p (.inr U)
  unfold Sy.nxt;simp only;by_cases hf:(SyP qs).fin g=v_
  .rw[A6 hf];intro p U;rcases U with U|U
   .exact h p (.inl (uh _ U))
   .rcases Ae.mp U with U|U
    .exact h p (.inr U)
    .rw[Ac.mp U,0];exact[Z:hn]
  .rw[A4 hf];let he:Gp.en g=none:=by
    cases he:Gp.en g with
    |none=>rfl|some d=>exact A8 (show(Gp.en g).isSome=v_ by rw[he];rfl) hf
   cases hw:(SyP qs).want g with
   |none=>exact on _ (NG hq Z he hw) ((Ac6 qs g).trans hn)|some m=>
    simp only;cases hy:Sy.yet #[Y,(n,g)::r,don] m with
    |some o=>
     cases o with
     |some a=>exact on _ (AQ Z he (MQ hq h hy)) ((MU _ _).trans hn)|none=>exact on _ (NF Z m) hn
    |none=>
     erw[Sy.zk hy,_,[g',e],_];simp only;rw[e];intro p U;rcases U with U|U
     .rcases Ab.mp U with rfl|U
      .exact EY hq e
      .exact h p (.inl U)
     .exact h p (.inr U)
structure Oc where
 (x dx px ls du dr df:o3)
abbrev ofs (o:Oc):oj (Str×V):= [("given_project",-o.px),("stack",-o.ls),("under_way",-o.du),("full_runs",-o.dr),("found",-o.df)]
abbrev OMT:oj Str:= ["go_through","enter","settle","runner","leave","go_on","answer_yet","begin_anew"]
def Sd (o:Oc):(ofs o).lookup ("given_project":Str)=u_ (-o.px):=rfl
def L7 (o:Oc):(ofs o).lookup ("stack":Str)=u_ (-o.ls):=rfl
def Sb (o:Oc):(ofs o).lookup ("under_way":Str)=u_ (-o.du):=rfl
def L8 (o:Oc):(ofs o).lookup ("full_runs":Str)=u_ (-o.dr):=rfl
def Ma (o:Oc):(ofs o).lookup ("found":Str)=u_ (-o.df):=rfl
def WH (o:Oc):∀m>OMT,(ofs o).lookup m=none:=by
 intro m hm;simp![OMT,uG,uL,uV] at hm;rcases hm with rfl|rfl|rfl|rfl|rfl|rfl|rfl|rfl<;>rfl
structure Kp (L:oj o3)(H H':Hp):Prop where
 kept:∀b ob,H b=u_ ob->b∉L->H' b=u_ ob
 tk:Tk H H'
variable {L:oj o3}{H H':Hp}
def Kp.of (s:ic H H'):Kp L H H':=[λb ob h _=>s b ob h:s.tk]
variable {H1 H2:Hp}
def Kp.trans (h:Kp L H H1)(k:Kp L H1 H2):Kp L H H2:=[λb ob e n=>k.kept b ob (h.kept b ob e n) n:h.tk.trans k.tk]
variable {p:o3}
def Kp.updD {xs ys:oj (Key×V)}(h:H p=u_ (.dK xs))(U:p>L):Kp L H (upd H p (.dK ys)):=⟨λb ob e n=>by have nb:b≠p:=(λz=>n (by rwa[z]));rwa[qi nb],Tk.updD h⟩
def wB {κ:Type}[DecidableEq κ](k j:κ):∀kvs:oj (κ×V),iT (J2 kvs k) j=if j=k then U_ else iT kvs j
 | []=>by show U_=_;split<;>rfl|p::r=>by
  by_cases c:p.1=k
  .rw[Ik c,wB k j r];by_cases d:j=k
   .rw[A6 d,A6 d]
   .rw[A4 d,A4 d,QJ (λz=>d (z.symm.trans c))]
  .rw[Il c];by_cases d:p.1=j
   .rw[QV d,A4 (λz=>c (d.trans z)),QV d]
   .rw[QJ d,wB k j r,QJ d]
variable {C:o3}
def ym.kp {x:o3}(h:ym C H x qs)(k:Kp L H H')(Z:∀p>L,(∃xs,H p=u_ (.lst xs))\/(∃xs,H p=u_ (.dK xs))\/H p=U_):ym C H' x qs:=by
 erw[h,dx,d,o,vs,U,e2,e3,e4];let n1:x∉L:=λz=>by rcases Z x z with⟨_,e⟩|⟨_,e⟩|e<;>rw[e] at U<;>cases U
 let n2:d∉L:=λz=>by rcases Z d z with⟨_,e⟩|⟨_,e⟩|e<;>rw[e] at e2<;>cases e2
 exact(dx,d,o,vs,k.kept _ _ U n1,k.kept _ _ e2 n2,e3,e4.mono k.tk)
structure OAt (CO CP:o3)(H:Hp)(o:Oc)(qs:oj (Str×D)):Prop where
 e:H o.x=u_ (.ins CO o.dx (ofs o))
 p:ym CP H o.px qs
def OAt.kp {CO CP:o3}{o:Oc}(h:OAt CO CP H o qs)(k:Kp L H H')(U:∀p>L,(∃xs,H p=u_ (.lst xs))\/(∃xs,H p=u_ (.dK xs))\/H p=U_):OAt CO CP H' o qs:=by
 rw[_,k.kept _ _ h.e (λz=>?_),h.p.kp k U];let Z:=h.e;rcases U o.x z with⟨_,e⟩|⟨_,e⟩|e<;>rw[e] at Z<;>cases Z
abbrev S7 {qs:oj (Str×D)}(S:Sy.Ss (SyP qs))(uk:oj (Key×V)):Prop:=∀m:Str,(iT uk (Vf m)).isSome=decide (m>S.stk.map (·.1))
abbrev C5 {qs:oj (Str×D)}(H:Hp)(S:Sy.Ss (SyP qs))(fk:oj (Key×V)):Prop:=∀(m:Str) (g:Gp),g0D m (qJ qs m)=u_ g->
 (∀g':Gp,Sy.YV S.don m=u_ g'->∃v,iT fk (Vf m)=u_ v/\Is H (yb (g'.en.getD .non)) v)/\(Sy.YV S.don m=U_->iT fk (Vf m)=U_)
def C5.mono {S:Sy.Ss (SyP qs)}{fk:oj (Key×V)}(h:C5 H S fk)(t:Tk H H'):C5 H' S fk:=λm g U=>⟨λg' e=>let⟨v,a,b⟩:=(h m g U).1 g' e;[v:a:b.mono t],(h m g U).2⟩
abbrev ML:om (om D)->D->Prop
 |some (u_ v),d=>d=-[-"value",v]|some U_,d=>d=-[-"lack"]|none,d=>∃k r,d= .tup (.str k::r)/\k≠"value"/\k≠"lack"
abbrev nrg (d:D):Prop:=∃k r,d= .tup (.str k::r)/\(k="value"\/k="lack"\/k="fault"\/k="stuck")
abbrev Acb (qs:oj (Str×D))(don:oj (Str×Gp))(m:Str):D:=match g0D m (qJ qs m) with
 |none=>yZ (qJ qs m)|some _=>yb (((Sy.YV (Y:=SyP qs) don m).bind λg:Gp=>g.en).getD .non)
abbrev Bc {qs:oj (Str×D)}(H:Hp)(S:Sy.Ss (SyP qs))(m:Str)(v:V):Prop:=match Sy.yet S m with
 |none=>v= .non|some o=>∃d,Is H d v/\ML o d/\(m∉S.stk.map (·.1)->nrg d/\d=Acb qs S.don m)
inductive AaR (CO CP:Addr):Sp
 |mk (o:Oc)(m:Str)(qs:List (Str×D))(S:Sy.Ss (SyP qs))(uk fk:List (Key×V))(_:vs= [-o.x,!m])(_:OAt CO CP H o qs)(_:QT qs)(_:SGI S)(_:H o.du=u_ (.dK uk))(_:S7 S uk)(_:H o.df=u_ (.dK fk))(_:C5 H S fk)(_:↑fk<=100000)(_:(∀p>S.don,(SyP qs).fin p.2=v_))(_:∀(v:V)(H':Hp)(fk':List (Key×V)),Kp [o.df] H H'->H' o.df=u_ (.dK fk')->C5 H' S fk'->↑fk'<=↑fk+1->(Sy.yet S m=U_->↑fk'=↑fk)->Bc H' S m v->Q v H')
inductive DA (CO:Addr):Sp
 |mk (x dx px:Addr)(_:vs= [-x,-px])(_:H x=u_ (.ins CO dx []))(_:∀(o:Oc)(H':Hp),o.x=x->o.dx=dx->o.px=px->(∀b ob,H b=u_ ob->b≠x->H' b=u_ ob)->Tk H H'->H o.ls=U_->H o.du=U_->H o.dr=U_->H o.df=U_-> [o.ls,o.du,o.dr,o.df].Nodup->H' x=u_ (.ins CO dx (ofs o))->H' o.ls=u_ (.lst [])->H' o.du=u_ (.dK [])->H' o.dr=u_ (.dK [])->H' o.df=u_ (.dK [])->Q .non H')
inductive Lk:Sp
 |mk (x:_)(y:_)(_:vs= [x,y])(_:Q .non H)
def LH (U:QT qs)(h:g0D m (qJ qs m)=U_):∃k,yZ (qJ qs m)= .tup k/\ML (u_ (oI (qJ qs m))) (¬k)/\nrg (¬k):=by
 by_cases hm:m>qs.map (·.1)
 .erw[Jq U hm,hn,k,e,hd,h1,h2];rw[hd] at h⊢;unfold g0D at h;simp only at h;by_cases c:k="leaf"
  .rw[_,[-"value",e],?_,1,[_:0:.inl rfl]];unfold yZ;simp only;exact A6 c
  .rw[A4 c] at h;split at h<;>cases h
 .rw[yY hm];exact[0:1:[_:0:.inr (.inl rfl)]]
def Pq (U:QT qs)(h:g0D m (qJ qs m)=u_ g):yZ (qJ qs m)= .non:=by
 erw[Jq U ((Q7 qs).gn m g h),hn,k,e,hd,h1,h2];rw[hd] at h⊢;unfold g0D at h;simp only at h;by_cases c:k="leaf"
 .rw[A6 c,0] at h
 .unfold yZ;simp only;exact A4 c
def Aca (h:GI g)(hf:g.en.isSome=v_):ML ((zO g).map u_) (yb (g.en.getD .non)):=by
 cases Z:g.en with
 |none=>rw[Z,0] at hf|some d=>
  unfold zO;rw[Z];show ML ((YX d).map u_) (yb d);rcases h.en d Z with⟨z,rfl⟩|⟨x,rfl,hx⟩|⟨z,rfl⟩
  .let U:YX (flt z)=none:=by unfold YX flt;dsimp only;exact A4 ()
   let e2:yb (flt z)=flt z:=by unfold yb flt;dsimp only;exact A4 ()
   rw[U,e2];exact("fault",[!z],1,(),())
  .let U:YX (-[-"said",x])=u_ x:=by unfold YX;dsimp only;exact A6 rfl
   let e2:yb (-[-"said",x])=-[-"value",x]:=by unfold yb;dsimp only;exact A6 rfl
   rw[U,e2];exact rfl
  .let U:YX (-[-"stuck",!z])=none:=by unfold YX;dsimp only;exact A4 ()
   let e2:yb (-[-"stuck",!z])=-[-"stuck",!z]:=by unfold yb;dsimp only;exact A4 ()
   rw[U,e2];exact("stuck",[!z],1,(),())
def S5 (h:GI g)(U:g.en.isSome=v_):nrg (yb (g.en.getD .non)):=by
 cases Z:g.en with
 |none=>rw[Z,0] at U|some d=>
  show nrg (yb d);rcases h.en d Z with⟨z,rfl⟩|⟨x,rfl,hx⟩|⟨z,rfl⟩
  .let e2:yb (flt z)=flt z:=by unfold yb flt;dsimp only;exact A4 ()
   rw[e2];exact[_:0:.inr (.inr (.inl rfl))]
  .let e2:yb (-[-"said",x])=-[-"value",x]:=by unfold yb;dsimp only;exact A6 rfl
   rw[e2];exact[_:0:.inl rfl]
  .let e2:yb (-[-"stuck",!z])=-[-"stuck",!z]:=by unfold yb;dsimp only;exact A4 ()
   rw[e2];exact[_:0:.inr (.inr (.inr rfl))]
section
variable {P:o9}{w:og}{K:o0}{mg:Str->om o6}{base:o8}{a:Ad}{g:Ga}
def LS:#[T,1,a.jk,a.ju,["self","going"],Lk]:=by
 rw[9,T.lD,XQ,U]
 erw[h,x,y,rfl,q];rw[3,%[|Pg]]
 exact q
def Sa:#[T,1,a.yK,a.y6,["self","project"],(DA a.qt)]:=by
 rw[9,T.iS,jP]
 erw[h,x,dx,px,rfl,hx,q];let hs:=uD;rw[3,%[#[Qk,pv 1],#[Qk,#[QF,qd]],#[Qk,xw],#[Qk,xw]|#[Qk,xw]]]
 rw[0,0,x,_,dx,0,hx,T.qA,T.Qi,()]
 rw[_,(sml rfl),λZ h1=>?_];let n1:x≠Z:=qk qg h1
 rw[5]
 refine(0,x,_,dx,0,(qi n1).trans qg,T.qA,T.QG,by show 1<1000;decide,?_)
 intro l2 h2;let n2:x≠l2:=qk qg h2
 rw[5]
 refine(0,x,_,dx,0,(qi n2).trans qg,T.qA,T.QA,by show 2<1000;decide,?_)
 intro l3 h3;let n3:x≠l3:=qk qg h3
 rw[5]
 refine(0,x,_,dx,0,(qi n3).trans qg,T.qA,T.Qj,by show 3<1000;decide,?_)
 intro l4 h4;let n4:x≠l4:=qk qg h4
 rw[5]
 refine(0,x,_,dx,0,(qi n4).trans qg,T.qA,T.QD,by show 4<1000;decide,?_)
 rw[qi n1.symm] at h1;let U:l2≠Z:=λz=>by rw[z,qi n1.symm,qg,0] at h2
 let k2:H l2=none:=by rwa[qi n2.symm,qi U,qi n2.symm] at h2
 let aa:l3≠l2:=λz=>by rw[z,qi n2.symm,qg,0] at h3
 let ac:l3≠Z:=λz=>by rw[z,qi n1.symm,qi U.symm,qi n1.symm,qg,0] at h3
 let k3:H l3=none:=by rwa[qi n3.symm,qi aa,qi n3.symm,qi ac,qi n3.symm] at h3
 let ad:l4≠l3:=λz=>by rw[z,qi n3.symm,qg,0] at h4
 let ae:l4≠l2:=λz=>by rw[z,qi n2.symm,qi aa.symm,qi n2.symm,qg,0] at h4
 let af:l4≠Z:=λz=>by rw[z,qi n1.symm,qi ac.symm,qi n1.symm,qi U.symm,qi n1.symm,qg,0] at h4
 let k4:H l4=none:=by rwa[qi n4.symm,qi ad,qi n4.symm,qi ae,qi n4.symm,qi af,qi n4.symm] at h4
 let kp:∀b ob,H b=u_ ob->b≠x->(upd (upd (upd (upd (upd (upd (upd (upd (upd H x (.ins a.qt dx (iM "given_project" (V.ref px) []))) Z (.lst [])) x (.ins a.qt dx (iM "stack" (V.ref Z) (iM "given_project" (V.ref px) [])))) l2 (.dK [])) x (.ins a.qt dx (iM "under_way" (V.ref l2) (iM "stack" (V.ref Z) (iM "given_project" (V.ref px) []))))) l3 (.dK [])) x (.ins a.qt dx (iM "full_runs" (V.ref l3) (iM "under_way" (V.ref l2) (iM "stack" (V.ref Z) (iM "given_project" (V.ref px) [])))))) l4 (.dK [])) x (.ins a.qt dx (iM "found" (V.ref l4) (iM "full_runs" (V.ref l3) (iM "under_way" (V.ref l2) (iM "stack" (V.ref Z) (iM "given_project" (V.ref px) []))))))) b=u_ ob:=λb ob h nb=>by
  rwa[qi nb,qi (qk h k4),qi nb,qi (qk h k3),qi nb,qi (qk h k2),qi nb,qi (qk h h1),qi nb]
 refine q (x,dx,px,Z,l2,l3,l4) _ rfl rfl rfl kp ?_ h1 k2 k3 k4 ?_ ?_ ?_ ?_ ?_ ?_
 .rw[5]
  refine[λb xs e=>kp b _ e (λz=>?_):λb xs e=>[xs:kp b _ e (λz=>?_)]:λb xs e=>[xs:kp b _ e (λz=>?_)]]<;>(rw[z,hx,0] at e)
 .simp![U7,uG,uL,uV,Va,V7,U2,and_true];exact[[U.symm:ac.symm:af.symm]:[aa.symm:ae.symm]:ad.symm]
 .exact qg
 .rw[qi n1.symm,qi af.symm,qi n1.symm,qi ac.symm,qi n1.symm,qi U.symm,qi n1.symm];exact qg
 .rw[qi n2.symm,qi ae.symm,qi n2.symm,qi aa.symm,qi n2.symm];exact qg
 .rw[qi n3.symm,qi ad.symm,qi n3.symm];exact qg
 .rw[qi n4.symm];exact qg
def LM:#[T,2,a.Yd,a.jO,["self","project"],(DA a.qt)]:=by
 let Z:=#[Sa,T];rw[9,T.lT,zK]
 erw[h,x,dx,px,rfl,U,q];rw[3,%[|#[qW,#[Qn,pv 0,T.qA,T.iS,Z,#v[pv 1]]]]]
 exact(0,x,dx,0,U,1,0,x,dx,px,1,U,q)
def D5:#[T,2,a.yX,a.yO,["self","name"],(AaR a.qt a.qK)]:=by
 let qO:=#[Yl,T];let Q4:=#[AA,T];rw[9,T.im,yC]
 erw[h,o,m,qs,S,uk,fk,rfl,hO,hq,hG,ad,hU,ac,hF,hl,aa,k];let hs:=uD;rw[3,%[#[qI,#[wt,#[pc_din,QO hr,pv 1,#[qQ,5,pv 0,rfl]]],%[|#[qo,#[qD,#v[ql]]]],qr],#[qE,(2),yC.nd,#[qp,Q4,T.io,#v[#[Qn,#[qQ,5,pv 0,rfl],T.Q3,T.ii,qO,#v[pv 1]]]]],#[qI,#[qm,jw,pv 2,qR],%[|#[Jh,#[qQ,5,pv 0,rfl],pv 1,pv 2]],qr]|#[qo,#[Ks,7,QO hr,#[qQ,5,pv 0,rfl],pv 1,(1,1,1,1)]]]]
 rw[0,0,o.x,_,o.dx,_,0,hO.e,T.qA,T.QA,Sb o,o.du,0,mP.k (k:=Vf m) ad,0];rw[hU m];by_cases c:m>S.stk.map (·.1)
 .let ey:Sy.yet S m=u_ none:=by unfold Sy.yet;rw[A6 c]
  refine lc (uc c) [(sml rfl):λt ht=>?_];let s1:=qf ht (-[V.str "ring"]);refine k _ _ fk (Kp.of s1) (s1 _ _ ac) (hF.mono s1.tk) (Up _) (λ_=>rfl) ?_;unfold Bc;rw[ey];exact(_,Is.new (ds:= [-"ring"]) (_,0,Qy (),1) ht,("ring",[],1,(),()),λz=>A8 c z)
 refine iQ (ui c) ?_
 rw[0,o.x,_,o.dx,_,0,hO.e,T.qA,T.Qi,Sd o];erw[id hO.p,ae,dp,op,ak,hx,hd,hk,hv]
 rw[_,o.px,ae,0,hx,yE,0,o.px,m,qs,1,hO.p,λv h1 h2=>?_];let af:Is H (qJ qs m) v:=by
  by_cases cm:m>qs.map (·.1)
  .exact h1 cm
  .rw[h2 cm,yY cm];exact rfl
 rw[_,v,qJ qs m,1,af,?_,λu H1 s1 hu=>?_]
 .by_cases cm:m>qs.map (·.1)
  .erw[Jq hq cm,_,k,e,hd,_,<-.inr [k:e:hd]]
  .exact .inl (yY cm)
 let U:=s1 _ _ ac
 rw[0,1,0];cases hg:g0D m (qJ qs m) with
 |none=>
  erw[LH hq hg,l,e1,e2,e3];rw[e1] at hu;let ag:u≠ .non:=JL hu (by intro z;rw[z,0])
  let ey:Sy.yet S m=u_ (u_ (oI (qJ qs m))):=by have Z:=hg;unfold Sy.yet;rw[A4 c,show(SyP qs).g0 m=_ from Z];rfl
  refine lc (by simp[ag]) ?_
  let kp:Kp [o.df] H (upd H1 o.df (.dK (lV fk (Vf m) u))):=(Kp.of s1).trans (Kp.updD U uj)
  rw[0,0,o.x,_,o.dx,_,0,s1 _ _ hO.e,T.qA,T.QD,Ma o,0,o.df,0,C6.k (k:=Vf m) U ()]
  let ah:=hO.kp kp (by intro p hp;rw[Ac.mp hp,0];exact .inr (.inl [_:ac]))
  rw[0,o.x,_,o.dx,_,0,ah.e,T.qA,T.QD,Ma o,o.df,1,.inl [_:.inl qg],0,_,mP.k (k:=Vf m) qg];rw[zJ,A6 rfl];refine k _ _ _ kp qg ?_ (yB _ _ _) (λz=>by rw[ey,0] at z) ?_
  .intro m' g' Z;rw[zJ,A4 (λz=>by injection z with z;rw[z,hg,0] at Z)]
   exact(hF.mono kp.tk) m' g' Z
  .unfold Bc;rw[ey];exact(_,(hu.mono (Tk.updD U)),e2,λ_=>⟨e3,by unfold Acb;rw[hg];exact e1.symm⟩)
 |some g=>
  rw[Pq hq hg] at hu;rw[show u= .non from hu,0]
  refine iQ (by simp) ?_
  rw[0,o.x,_,o.dx,_,0,s1 _ _ hO.e,T.qA,T.QD,Ma o,o.df,1,.inl [_:.inl U],0,_,mP.k (k:=Vf m) U];refine k _ _ fk (Kp.of s1) U (hF.mono s1.tk) (Up _) (λ_=>rfl) ?_;let ey:Sy.yet S m=(Sy.YV S.don m).map λg=>(zO g).map some:=by have Z:=hg;unfold Sy.yet;rw[A4 c,show(SyP qs).g0 m=_ from Z];rfl
  erw[hF m g hg,f1,f2];unfold Bc;rw[ey];cases hd:Sy.YV S.don m with
  |none=>
   rw[f2 hd];exact rfl
  |some g'=>
   erw[f1 g' hd,y,e1,e2];rw[e1];exact(_,e2.mono s1.tk,Aca (hG (m,g') (.inr (Sy.kE hd))).1 (aa (m,g') (Sy.kE hd)),λ_=>⟨S5 (hG (m,g') (.inr (Sy.kE hd))).1 (aa (m,g') (Sy.kE hd)),by unfold Acb;rw[hg,hd];rfl⟩)
structure nG (g:Gc)(s:Gs)(p:Gp):Prop where
 n:g.n=p.n
 mb:s.mb=p.mb
 ra:s.ra=p.ra
 run:(s.run.map λq=>(q.1.rs,q.2))=p.run
 own:∀mc r,s.run=u_ (mc,r)->mc.own=g.n
 en:s.en=p.en.getD .non
abbrev Aak:om (Mc×Rn)->oj o3
 |none=> []|some (mc,_)=> [mc.x,mc.db,mc.dg]
abbrev plc (g:Gc)(s:Gs):oj o3:=g.x::Aak s.run
def nG.none {g:Gc}{s:Gs}{p:Gp}(h:nG g s p)(e:p.run=U_):s.run=none:=by
 have:=h.run;rw[e] at this;cases U:s.run with
 |none=>rfl|some q=>rw[U,0] at this
def nG.some {g:Gc}{s:Gs}{p:Gp}(h:nG g s p){rs:oj Rw}{r:Rn}(e:p.run=u_ (rs,r)):∃mc:Mc,s.run=u_ (mc,r)/\mc.rs=rs/\mc.own=g.n:=by
 have:=h.run;rw[e] at this;cases U:s.run with
 |none=>rw[U,0] at this|some q=>
  erw[q,mc,r'];rw[U,0] at this;exact(mc,1,1,h.own mc r' U)
variable {CM:o3}
def ml.frame {g:Gc}{s:Gs}(h:ml C CM H g s)(U:∀b>plc g s,∀ob,H b=u_ ob->H' b=u_ ob)(t:Tk H H'):ml C CM H' g s:=by
 erw[h,dx,fs,mv,av,rv,ev,e,f,i,j,k,l];rw[_,dx,fs,mv,av,rv,ev,U _ uj _ e,f,i.mono t,j.mono t,?_,l.mono t];cases Z:s.run with
 |none=>rwa[Z] at k|some q=>
  erw[q,mc,r];let hp:plc g s= [g.x,mc.x,mc.db,mc.dg]:=by unfold plc Aak;rw[Z]
  rw[hp] at U;rw[Z] at k;erw[k,k1,k2,dm,fm,aa,ru,tv,gv,em,ac,i1,i2,[bf,ib,jb],i4,i5,i6,<-(k1,k2,dm,fm,aa,ru,tv,gv,U _ (by simp) _ em,ac,i1.mono t,i2.mono t,⟨bf,U _ (by simp) _ ib,λz hz=>(jb z hz).mono t⟩,U _ (by simp) _ i4,i5.mono t,i6.mono t)]
def ml.there {g:Gc}{s:Gs}(h:ml C CM H g s):∀b>plc g s,∃ob,H b=u_ ob:=by
 erw[h,dx,fs,mv,av,rv,ev,e,f,i,j,k,l];intro b U;rcases Ab.mp U with rfl|U
 .exact[_:e]
 .cases Z:s.run with
  |none=>rw[Z,0] at U|some q=>
   erw[q,mc,r];rw[Z] at U k;erw[k,k1,k2,dm,fm,aa,ru,tv,gv,em,ac,i1,i2,[bf,ib,jb],i4,i5,i6];simp![Aak,uG,uL,uV] at U;rcases U with rfl|rfl|rfl
   .exact[_:em]
   .exact[_:ib]
   .exact[_:i4]
def IH {g:Gc}{d:D}{s s':Gs}{p:Gp}(b:MP H g d s s')(h:nG g s p)(Z:p.run=U_)(he:p.en=U_):nG g s' (ni p d)/\∀c>plc g s',c=g.x\/H c=none:=by
 let hr:=h.none Z;let aa:s.en= .non:=by rw[h.en,he];rfl
 let nil:s'.run=U_->∀c>plc g s',c=g.x\/H c=none:=λe c U=>by
  unfold plc at U;rw[e] at U;rcases Ab.mp U with z|z
  .exact .inl z
  .rw[z,0]
 unfold ni;by_cases c:d= .non
 .erw[b.lack c,b1,b2];rw[A6 (by rw[c];rfl)]
  exact⟨(h.n,b.mb.trans h.mb,b.ra.trans h.ra,(by show _=p.run;rw[b1,Z];rfl),(λmc r e=>by rw[b1,0] at e),b2),nil b1⟩
 .rw[A4 (λz=>c (by cases d with|non=>rfl|_=>rw[z,0]))]
  cases hd:Q8 d with
  |none=>
   erw[b.rule c hd,b1,b2,<-⟨(h.n,b.mb.trans h.mb,b.ra.trans h.ra,(by show _=p.run;rw[b1,Z];rfl),(λmc r e=>by rw[b1,0] at e),b2),nil b1⟩]
  |some rs=>
   erw[b.go rs hd,mc,c1,c2,c3,c4,c5,c6,c7];rw[_,(h.n,b.mb.trans h.mb,b.ra.trans h.ra,?_,λac r e=>?_,?_),λc U=>?_]
   .rw[c6];show u_ (mc.rs,R0 rs g.n)=u_ (rs,R0 rs p.n);rw[c4,h.n]
   .rw[c6,0] at e;exact c5
   .rw[c7,h.n,aa];show _=(nA (R0 rs p.n)).getD .non;unfold nA;split<;>rfl
   .unfold plc at U;rw[c6] at U;simp![Aak,uG,uL,uV] at U;rcases U with z|rfl|rfl|rfl
    .exact .inl z
    .exact .inr c1
    .exact .inr c2
    .exact .inr c3
abbrev oo:om (oj Rw×Rn)->oj D
 |none=> []|some (_,r)=>r.gs
abbrev xB (p:Gp):D:=-[.tup (p.ra++oo p.run),p.en.getD .non]
def B8 {g:Gc}{s:Gs}{p:Gp}(h:nG g s p):MA s=xB p:=by
 unfold MA xB;rw[h.ra,h.en];let e:Aa4 s.run=oo p.run:=by
  rw[<-h.run];cases s.run with
  |none=>rfl|some q=>rfl
 rw[e]
def My {p:Gp}(h:GI p):↑p.ra+↑(oo p.run)<=1000:=by
 let h1:=h.ra.2.2;cases U:p.run with
 |none=>show _+0<=1000;omega|some q=>
  erw[q,rs,r];let h2:=(h.run rs r U).2.1;let h3:=h2.gs.2.2;let h4:=h2.n;show _+↑r.gs<=1000;omega
inductive Lp (CO CP CG CM:Addr):Sp
 |mk (o:Oc)(m:Str)(qs:List (Str×D))(xs:List V)(uk:List (Key×V))(p:Gp)(_:vs= [-o.x,!m])(_:OAt CO CP H o qs)(_:QT qs)(_:H o.ls=u_ (.lst xs))(_:↑xs<=100000)(_:H o.du=u_ (.dK uk))(_:↑uk<=100000)(_:g0D m (qJ qs m)=u_ p)(_:∀(g:Gc)(s:Gs)(H':Hp),Kp [o.ls,o.du] H H'->H' o.ls=u_ (.lst (xs++ [-g.x]))->H' o.du=u_ (.dK (lV uk (Vf m) (.bl v_)))->ml CG CM H' g s->nG g s p->g.o=o.x->(∀b>plc g s,H b=U_)->Q .non H')
inductive Dq (CO CP CG CM:Addr):Sp
 |mk (o:Oc)(qs:List (Str×D))(g:Gc)(s:Gs)(p:Gp)(rk fk:List (Key×V))(_:vs= [-o.x,-g.x])(_:OAt CO CP H o qs)(_:ml CG CM H g s)(_:nG g s p)(_:GI p)(_:p.en.isSome=v_)(_:H o.dr=u_ (.dK rk))(_:↑rk<=100000)(_:H o.df=u_ (.dK fk))(_:↑fk<=100000)(_:o.dr≠o.df)(_:o.dr∉plc g s)(_:o.df∉plc g s)(_:∀(v1 v2:V)(H':Hp),Kp [o.dr,o.df] H H'->H' o.dr=u_ (.dK (lV rk (Vf g.n) v1))->Is H' (xB p) v1->H' o.df=u_ (.dK (lV fk (Vf g.n) v2))->Is H' (yb (p.en.getD .non)) v2->Q .non H')
set_option tactic.hygienic true in
def LZ:#[C,12,a.ji,a.jm,["self","name"],(Lp a.qt a.qK a.qN a.qq)]:=by
 let qO:=#[Yl,T];let U:=#[LW,T,C];rw[9,T.iP,Xu]
 erw[h,o,m,qs,xs,uk,p,rfl,hO,hq,Z,aq,aa,au,hp,k];let hs:=uD;rw[3,%[#[qW,#[YQ,uO,vY,vZ,jK,#[qQ,5,pv 0,rfl],#v[#[XN,T.M_Going,U,T.m_Going,T.mG,qz,#v[pv 1,#[Qn,#[qQ,5,pv 0,rfl],T.Q3,T.ii,qO,#v[pv 1]],pv 0]]]]]|#[Jh,#[qQ,5,pv 0,rfl],pv 1,jf]]]
 rw[0,o.x,_,o.dx,_,0,hO.e,T.qA,T.QG,L7 o,.inl [1:_:SqL.of Z]]
 rw[0,0,o.x,_,o.dx,_,0,hO.e,T.qA,T.Qi,Sd o];erw[id hO.p,al,dp,op,aw,hx,hd,hk,hv]
 rw[_,o.px,al,0,hx,yE,0,o.px,m,qs,1,hO.p,λsv h1 h2=>?_];let hm:m>qs.map (·.1):=(Q7 qs).gn m p hp;let ag:=h1 hm;erw[Jq hq hm,hn,kk,e,am,g1,g2];rw[am] at ag hp
 rw[0,λx dx ac ah nx=>?_];let s0:ic H (upd (upd H dx (.own x)) x (.ins a.qN dx [])):=λb o h=>by rwa[qi (qk h ac),qi (qk h ah)]
 let nox:o.x≠x:=qk hO.e ac
 rw[_,x,dx,o.x,m,kk,sv,e,1,qg,ag.mono s0.tk,hn,nox,(_,_,s0 _ _ hO.e,WH o _ ()),λH1 s1 ao ax G1 b1 b2=>[1:?_]]
 let ad:ic H H1:=λb ob h=>ao b ob (s0 b ob h) (qk h ac);let rel:nG ⟨x,o.x,m⟩ s1 p/\∀c>plc ⟨x,o.x,m⟩ s1,H c=none:=by
  unfold g0D at hp;simp only at hp;split at hp
  .rw[hp,0]
  .split at hp
   .rename_i c
    rw[hp,0];let e1:=b1 c;rw[e1]
    rw[_,(1,1,1,1,(λ_ _ z=>by rw[z,0]),1),λc hc=>?_]
    rcases Ab.mp hc with rfl|hc
    .exact ac
    .rw[hc,0]
   .rename_i c
    rw[hp,0];obtain⟨r1,r2⟩:=IH (p:=(m,.non,[],U_,U_)) (b2 c) (1,1,1,1,(λ_ _ z=>by rw[z,0]),1) rfl rfl
    rw[_,r1,λc hc=>?_];rcases r2 c hc with rfl|hc
    .exact ac
    .exact s0.free hc
 rw[_,o.ls,xs,0,1,ad _ _ Z,()]
 let ak:Kp [o.ls,o.du] H1 (upd H1 o.ls (.lst (xs++ [-x]))):=⟨λb ob h n=>by rw[qi (λz=>n (by rw[z];exact uj))];exact h,iE.tk (p:=o.ls) (λb ob h n=>by rwa[qi n]) (ad _ _ Z) qg⟩
 let n1:o.du≠o.ls:=λz=>by rw[z,Z,0] at aa
 let ae:upd H1 o.ls (.lst (xs++ [-x])) o.du=u_ (.dK uk):=by rw[qi n1];exact ad _ _ aa
 let n2:o.x≠o.ls:=λz=>by have:=hO.e;rw[z,Z,0] at this
 let n3:o.x≠o.du:=λz=>by have:=hO.e;rw[z,aa,0] at this
 rw[0,o.x,_,o.dx,_,0,(by rw[qi n2];exact ad _ _ hO.e),T.qA,T.QA,Sb o,0,o.du,0,C6.k (k:=Vf m) ae ()]
 let ap:=((Kp.of (L:= [o.ls,o.du]) ad).trans ak).trans (Kp.updD (ys:=lV uk (Vf m) (.bl v_)) ae (uh _ uj));refine k [x:o.x:m] s1 _ ap (by rw[qi n1.symm];exact qg) qg (G1.frame (λb hb ob h=>?_) ((ak.trans (Kp.updD (ys:=lV uk (Vf m) (.bl v_)) ae (uh _ uj)))).tk) rel.1 rfl rel.2
 let af:=rel.2 b hb;let m1:b≠o.ls:=λz=>by rw[z,Z,0] at af
 let m2:b≠o.du:=λz=>by rw[z,aa,0] at af
 rw[qi m2,qi m1];exact h
def Ed:#[T,3,a.Y6,a.YY,["self","going"],(Dq a.qt a.qK a.qN a.qq)]:=by
 let U:=#[PQ,T];let XH:=#[BJ,T];let X3:=#[LS,T];rw[9,T.li,xG]
 erw[h,o,qs,g,st,p,rk,fk,rfl,hO,hG,hR,hI,ae,ac,ay,af,aA,ag,nr,nf,k];let hs:=uD;rw[3,%[#[Jh,#[qQ,5,pv 0,rfl],#[qQ,5,pv 1,rfl],#[QI,pv 1,T.qS,T.mH,U]],#[Jh,#[qQ,5,pv 0,rfl],#[qQ,5,pv 1,rfl],#[qp,XH,T.jX,#v[#[qQ,5,pv 1,rfl]]]]|#[qW,#[Qn,pv 0,T.qA,T.lD,X3,#v[pv 1]]]]]
 erw[id hG,dx,fs,mv,av,rv,ev,e,f,i,j,aB,l];let aw:o.dr≠g.x:=λz=>nr (by rw[z];exact uj)
 let aC:o.df≠g.x:=λz=>nf (by rw[z];exact uj)
 let ah:o.x≠o.dr:=λz=>by have:=hO.e;rw[z,ac,0] at this
 let ak:o.x≠o.df:=λz=>by have:=hO.e;rw[z,af,0] at this
 let al:↑(Aa4 st.run)=↑(oo p.run):=by
  have:=B8 hR;unfold MA xB at this;simp![D.tup.injEq,U6] at this;have:=this.1;rw[hR.ra] at this;rw[List.append_cancel_left this]
 rw[0,g.x,dx,fs,1,e,f.meth _ (),g,st,1,hG,(by rw[hR.ra,al];exact My hI),λv1 H1 s1 i1=>?_]
 rw[B8 hR] at i1
 rw[0,o.x,_,o.dx,_,0,s1 _ _ hO.e,T.qA,T.Qj,L8 o,0,g.x,_,dx,fs,0,s1 _ _ e,T.qS,T.Yx,f.ZD,o.dr,0,C6.k (k:=Vf g.n) (s1 _ _ ac) ()]
 let ad:Kp [o.dr,o.df] H (upd H1 o.dr (.dK (lV rk (Vf g.n) v1))):=(Kp.of s1).trans (Kp.updD (s1 _ _ ac) uj);generalize Z:upd H1 o.dr (.dK (lV rk (Vf g.n) v1))=H2 at ad⊢;let am:H2 o.dr=u_ (.dK (lV rk (Vf g.n) v1)):=by rw[<-Z];exact qg
 let e2:H2 g.x=u_ (.ins a.qN dx fs):=by rw[<-Z,qi aw.symm];exact s1 _ _ e
 let ao:H2 o.x=u_ (.ins a.qt o.dx (ofs o)):=by rw[<-Z,qi ah];exact s1 _ _ hO.e
 let aa:H2 o.df=u_ (.dK fk):=by rw[<-Z,qi ag.symm];exact s1 _ _ af
 let i2:Is H2 (xB p) v1:=i1.mono (by rw[<-Z];exact Tk.updD (s1 _ _ ac))
 let l2:Is H2 (p.en.getD .non) ev:=by rw[<-hR.en];exact l.mono ad.tk
 obtain⟨kk,ee,ap⟩:∃kk ee,p.en.getD .non=-[!kk,ee]:=by
  cases aq:p.en with
  |none=>rw[aq,0] at ae|some d=>
   rcases hI.en d aq with⟨z,rfl⟩|⟨x,rfl,_⟩|⟨z,rfl⟩
   .exact[_:0]
   .exact[_:0]
   .exact[_:0]
 rw[0,g.x,_,dx,fs,0,e2,T.qS,T.yc,f.f_end,ev,kk,ee,1,(by rwa[<-ap]),λv2 H3 s3 i3=>?_]
 rw[<-ap] at i3
 rw[0,o.x,_,o.dx,_,0,s3 _ _ ao,T.qA,T.QD,Ma o,0,g.x,_,dx,fs,0,s3 _ _ e2,T.qS,T.Yx,f.ZD,o.df,0,C6.k (k:=Vf g.n) (s3 _ _ aa) ()]
 let au:Tk H3 (upd H3 o.df (.dK (lV fk (Vf g.n) v2))):=Tk.updD (s3 _ _ aa);let ax:Kp [o.dr,o.df] H (upd H3 o.df (.dK (lV fk (Vf g.n) v2))):=(ad.trans (Kp.of s3)).trans (Kp.updD (s3 _ _ aa) (uh _ uj))
 rw[0,o.x,o.dx,0,(by rw[qi ak];exact s3 _ _ ao),WH o _ (),0,_,0]
 exact k v1 v2 _ ax (by rw[qi ag];exact s3 _ _ am) (i2.mono (s3.tk.trans au)) qg (i3.mono au)
end
variable {v:V}
def oS:VB ("looked_up":Str) [(("by_name":Str),v)]=none:=by rfl
def AcB (k:Str):inV (V.str k) [V.str "has",V.str "names"]=mZ k:=by
 let h:=JU k ["has","names"];refine h.trans ?_;unfold mZ;rw[<-Bool.decide_or,ve];simp
section
variable {C CM CO:o3}{H:Hp}{g:Gc}{s:Gs}{p:Gp}{Q:VK}{E:XK}
def Oa (G:ml C CM H g s)(R:nG g s p)(I:GI p)(U:p.en=U_)(Z:yI p=u_ m)(k:∀kd v H',ic H H'->mZ kd=Vd->Is H' (-[!kd,!m]) v->Q v H'):zj C CM [-g.x] H Q E:=by
 erw[kD I U Z,hn,h];rw[_,g,s,1,G];rcases h with⟨h1,h2⟩|⟨rs,r,h1,h2⟩
 .exact .inl (R.none h1,m,by rw[R.mb,h2],λv H' s' i=>k _ v H' s' () i)
 .erw[R.some h1,mc,e1,e2,e3,<-.inr (mc,r,_,e1,h2,λv i=>k _ v H (ic.refl _) () i)]
def IV (G:ml C CM H g s)(R:nG g s p)(I:GI p)(U:p.en=U_)(Z:yI p=U_)(k:∀rs r kd z v,p.run=u_ (rs,r)->r.th= .tup [-"asks",-[!kd,!z]]->mZ kd=v_->isT (!z)=v_->oF qs p=yH p (Jz qs kd z)->Is H (-[!kd,!z]) v->Q v H):zj C CM [-g.x] H Q E:=by
 erw[wl (qs:=qs) I U Z,rs,r,kd,z,h1,h2,h3,h4,h5];erw[R.some h1,mc,e1,e2,e3,<-(g,s,1,G,.inr (mc,r,_,e1,h2,λv i=>k rs r kd z v h1 h2 h3 h4 h5 i))]
def De (G:ml C CM H g s)(R:nG g s p)(I:GI p)(he:p.en=U_){d:D}{v:V}(hv:Is H d v)(Z:∀rs r,p.run=u_ (rs,r)->∃u q,r.th= .tup [-"asks",-[!u,q]]/\Bb u d=v_)(aa:g.o≠g.x)(ho:∃dx fs,H g.o=u_ (.ins CO dx fs)/\fs.lookup ("runner":Str)=U_)
  (k:∀H' s',Gw g s.run H H'->ml C CM H' g s'->nG g s' (yH p d)->(∀b>plc g s',b>plc g s\/H b=U_)->Q .non H'):zB C CM CO [-g.x,v] H Q E:=by
 refine(g,s,v,d,1,G,by rw[R.n];exact I.n,hv,aa,ho,?_)
 cases U:p.run with
 |none=>
  erw[I.no U he,z,hz,_];let hr:=R.none U;refine .inl (hr,z,by rw[R.mb,hz],λH' s' w G' b=>?_)
  obtain⟨r1,r2⟩:=IH (p:=(p.n,p.mb,[-[-[-"rule",p.mb],d]],U_,U_)) b (R.n,R.mb,(by show _= [D.tup [-[-"rule",p.mb],d]];rw[hz]),(by show s.run.map _=U_;rw[hr];rfl),R.own,(by show s.en= .non;rw[R.en,he];rfl)) rfl rfl
  refine k H' s' w G' ?_ λc hc=>?_
  .have:yH p d=ni (p.n,p.mb,[-[-[-"rule",p.mb],d]],U_,U_) d:=by
    unfold yH;rw[U];show ni (p.n,p.mb,_,U_,p.en) d=_;rw[he]
   rwa[this]
  .rcases r2 c hc with rfl|h
   .exact .inl uj
   .exact .inr h
 |some q=>
  erw[q,rs,r];erw[R.some U,mc,e1,e2,e3];erw[I.run rs r U,k1,k2,k3,k4];erw[Z rs r U,u,q,h1,h2];subst e2;refine .inr (mc,r,u,q,e1,e3,k1,k2,h1,h2,λH' w G'=>?_);let ee:yH p d={p with run:=u_ (mc.rs,mI mc.rs p.n r d),en:=nA (mI mc.rs p.n r d)}:=by unfold yH;rw[U]
  refine k H' _ w G' ?_ ?_
  .rw[ee,e3,R.n];unfold oU nA;by_cases c:QH (mI mc.rs p.n r d).th=v_
   .rw[A6 c,A6 c];exact(R.n,R.mb,R.ra,1,(λac r' z=>by rw[z,0];exact e3),(by show s.en= .non;rw[R.en,he];rfl))
   .rw[A4 c,A4 c];exact(R.n,R.mb,R.ra,1,(λac r' z=>by rw[z,0];exact e3),1)
  .intro b hb;left;unfold plc at hb⊢;rw[e1];unfold oU at hb;split at hb<;>exact hb
end
abbrev LO (o:Oc):oj o3:= [o.ls,o.du,o.dr,o.df]
structure Bs (CO CP:o3)(H0:Hp)(o:Oc)(qs:oj (Str×D)):Prop where
 oa:OAt CO CP H0 o qs
 ls:∃xs,H0 o.ls=u_ (.lst xs)
 du:∃xs,H0 o.du=u_ (.dK xs)
 dr:∃xs,H0 o.dr=u_ (.dK xs)
 df:∃xs,H0 o.df=u_ (.dK xs)
 nd:(LO o).Nodup
 q:QT qs
section
variable {CO CP:o3}{H0 H H':Hp}{o:Oc}{qs:oj (Str×D)}
def Bs.at (b:Bs CO CP H0 o qs)(k:Kp (LO o) H0 H):OAt CO CP H o qs:=b.oa.kp k (by
 intro p U;simp![LO,uG,uL,uV] at U;rcases U with rfl|rfl|rfl|rfl
 .exact .inl b.ls
 .exact .inr (.inl b.du)
 .exact .inr (.inl b.dr)
 .exact .inr (.inl b.df))
def Bs.new (b:Bs CO CP H0 o qs){c:o3}(h:H0 c=U_):c≠o.x/\c≠o.ls/\c≠o.du/\c≠o.dr/\c≠o.df:=by
 erw[b.ls,_,h1];erw[b.du,_,h2];erw[b.dr,_,h3];erw[b.df,_,h4,<-((qk b.oa.e h).symm,(qk h1 h).symm,(qk h2 h).symm,(qk h3 h).symm,(qk h4 h).symm)]
def Bs.nlo (b:Bs CO CP H0 o qs){c:o3}(h:H0 c=U_):c∉LO o:=by
 erw[b.new h,_,h1,h2,h3,h4];simp![LO,uG,uL,uV,Va];exact(h1,h2,h3,h4)
def AK (b:Bs CO CP H0 o qs)(k:Kp (LO o) H0 H)(h:∀c ob,H c=u_ ob->c∉o.df::L->H' c=u_ ob)(t:Tk H H')(U:∀c>L,H0 c=U_):Kp (LO o) H0 H':=⟨λc ob e n=>h c ob (k.kept c ob e n) (λz=>by
 rcases Ab.mp z with rfl|z
 .exact n (by simp[LO])
 .rw[U c z,0] at e),k.tk.trans t⟩
end
section
variable {qs:oj (Str×D)}{n:Str}{p:Gp}{r don:oj (Str×Gp)}
def Sh (Z:p.en=U_)(hw:yI p=U_):Sy.nxt #[Y,(n,p)::r,don]=[(n,oF qs p)::r:don]:=by
 let hf:(SyP qs).fin p=false:=by show p.en.isSome=Vd;rw[Z];rfl
 let U:(SyP qs).want p=none:=hw;unfold Sy.nxt;simp only;rw[hf,A4 uf,U]
 rfl
def Abw (Z:p.en=U_)(hw:yI p=u_ m){a:om D}(hy:Sy.yet #[Y,(n,p)::r,don] m=u_ (u_ a)):Sy.nxt #[Y,(n,p)::r,don]=[(n,yH p (a.getD .non))::r:don]:=by
 let hf:(SyP qs).fin p=false:=by show p.en.isSome=Vd;rw[Z];rfl
 let U:(SyP qs).want p=u_ m:=hw;unfold Sy.nxt;simp only;rw[hf,A4 uf,U];simp only;rw[hy]
 rfl
def Sf (Z:p.en=U_)(hw:yI p=u_ m)(hy:Sy.yet #[Y,(n,p)::r,don] m=u_ U_):Sy.nxt #[Y,(n,p)::r,don]=[(n,Dg p m)::r:don]:=by
 let hf:(SyP qs).fin p=false:=by show p.en.isSome=Vd;rw[Z];rfl
 let U:(SyP qs).want p=u_ m:=hw;unfold Sy.nxt;simp only;rw[hf,A4 uf,U];simp only;rw[hy]
 rfl
def Mb (he:p.en=U_)(hw:yI p=u_ m)(Z:Sy.yet #[Y,(n,p)::r,don] m=U_):∃p',g0D m (qJ qs m)=u_ p'/\Sy.nxt #[Y,(n,p)::r,don]=[(m,p')::(n,p)::r:don]:=by
 let hf:(SyP qs).fin p=false:=by show p.en.isSome=Vd;rw[he];rfl
 let U:(SyP qs).want p=u_ m:=hw;erw[Sy.zk Z,_,[p',e],_];rw[_,p',e];unfold Sy.nxt;simp only;rw[hf,A4 uf,U];simp only;rw[Z];simp only;rw[e]
def Sg {d:D}(U:p.en=u_ d):Sy.nxt #[Y,(n,p)::r,don]=[r:don++ [(n,p)]]:=by
 let Z:(SyP qs).fin p=true:=by show p.en.isSome=v_;rw[U];rfl
 unfold Sy.nxt;simp only;rw[Z,A6 rfl]
 rfl
end
def CY {d:D}(h:Zk d):Bb "thing" d=true:=by
 unfold Bb;rcases h with rfl|h
 .rfl
 .cases hn:jN d with
  |true=>rfl|false=>
   rw[A4 uf,A6 h,A4 ()]
   rfl
structure Rnd {qs:oj (Str×D)}(CG CM:o3)(H0 H H1:Hp)(o:Oc)(S:Sy.Ss (SyP qs))(L0:oj o3)(g:Gc)(s1:Gs)(n:Str)(p1:Gp)(r:oj (Str×Gp))(fk1:oj (Key×V))(top:Nat):Prop where
 st:∃j,#[Y,(n,p1)::r,S.don]=Sy.nx S j
 len:↑fk1+Sy.mu #[Y,(n,p1)::r,S.don]<=top
 kp:∀b ob,H b=u_ ob->b∉o.df::L0->H1 b=u_ ob
 tk:Tk H H1
 df:H1 o.df=u_ (.dK fk1)
 fd:C5 H1 S fk1
 go:ml CG CM H1 g s1
 rel:nG g s1 p1
 pl:∀b>plc g s1,b>L0\/H b=U_/\H0 b=U_
 gi:SGI #[Y,(n,p1)::r,S.don]
inductive AaU (CO CP CG CM:Addr):Sp
 |mk (H0:Hp)(o:Oc)(qs:List (Str×D))(g:Gc)(s:Gs)(n:Str)(p:Gp)(r don:List (Str×Gp))(uk fk:List (Key×V))(top:Nat)(_:vs= [-o.x,-g.x])(_:Bs CO CP H0 o qs)(_:Kp (LO o) H0 H)(_:H o.du=u_ (.dK uk))(_:S7 #[Y,(n,p)::r,don] uk)(_:(∀q>don,q.2.en.isSome=v_))(_:top<=100000)(_:g.o=o.x)(_:(∀b>plc g s,H0 b=U_))(_:Rnd CG CM H0 H H o #[Y,(n,p)::r,don] (plc g s) g s n p r fk top)(_:∀(v:V)(H':Hp)(s':Gs)(p':Gp)(fk':List (Key×V)),Rnd CG CM H0 H H' o #[Y,(n,p)::r,don] (plc g s) g s' n p' r fk' top->((v= .non/\p'.en.isSome=v_)\/∃m,v= .str m/\p'.en=U_/\yI p'=u_ m/\Sy.yet #[Y,(n,p')::r,don] m=U_)->Q v H')
def Rnd.more {qs:oj (Str×D)}{CG CM CO CP:o3}{H0 H H1 H2 H3:Hp}{o:Oc}{S:Sy.Ss (SyP qs)}{L0:oj o3}{g:Gc}{s1 s3:Gs}{n:Str}{p1 p3:Gp}{r:oj (Str×Gp)}{fk1 Z:oj (Key×V)}{top:Nat}(b:Bs CO CP H0 o qs)(k0:Kp (LO o) H0 H)(hL:∀b>L0,H0 b=U_)(h:Rnd CG CM H0 H H1 o S L0 g s1 n p1 r fk1 top)(k2:Kp [o.df] H1 H2)(f2:H2 o.df=u_ (.dK Z))(d2:C5 H2 S Z)(l2:↑Z<=↑fk1+1)
  (ac:∀b ob,H2 b=u_ ob->b∉plc g s1->H3 b=u_ ob) (t3:Tk H2 H3) (G3:ml CG CM H3 g s3) (R3:nG g s3 p3) (ae:∀b>plc g s3,b>plc g s1\/H2 b=U_) (e:Sy.nxt #[Y,(n,p1)::r,S.don]=[(n,p3)::r:S.don]):
  Rnd CG CM H0 H H3 o S L0 g s3 n p3 r Z top/\Sy.mu #[Y,(n,p3)::r,S.don]<Sy.mu #[Y,(n,p1)::r,S.don]:=by
 let ad:=Sy.nxt_mu (Q7 qs) (S:=#[Y,(n,p1)::r,S.don]) (by intro z;rw[z,0])
 rw[e] at ad;let af:∀b>plc g s1,H0 b=none:=λb hb=>(h.pl b hb).elim (hL b) (·.2);let nf:o.df∉plc g s1:=λz=>(b.new (af _ z)).2.2.2.2 rfl;let ag:∀b ob,H1 b=u_ ob->b∉o.df::plc g s1->H3 b=u_ ob:=λc ob q z=>ac c ob (k2.kept c ob q (λy=>z (by rw[Ac.mp y];exact uj))) (λy=>z (uh _ y))
 refine⟨(?_,by have:=h.len;omega,λc ob q z=>?_,(h.tk.trans k2.tk).trans t3,ac _ _ f2 nf,d2.mono t3,G3,R3,λc hc=>?_,?_),ad⟩
 .erw[h.st,j,hj,<-⟨j+1,by show _=Sy.nxt (Sy.nx S j);rw[<-hj,e]⟩]
 .refine ag c ob (h.kp c ob q z) λy=>?_;rcases Ab.mp y with rfl|y
  .exact z uj
  .rcases h.pl c y with y|⟨y,_⟩
   .exact z (uh _ y)
   .rw[q,0] at y
 .rcases ae c hc with hc|hc
  .exact h.pl c hc
  .let U:H1 c=none:=by
    cases hq:H1 c with
    |none=>rfl|some ob=>
     by_cases y:c=o.df
     .rw[y,f2,0] at hc
     .rw[k2.kept c ob hq (λz=>y (Ac.mp z)),0] at hc
   by_cases c0:c>L0
   .exact .inl c0
   .right;let aa:H c=none:=by
     cases hq:H c with
     |none=>rfl|some ob=>
      by_cases y:c=o.df
      .rw[y,h.df,0] at U
      .rw[h.kp c ob hq (λz=>by rcases Ab.mp z with z|z;exact y z;exact c0 z),0] at U
    rw[_,aa];cases hq:H0 c with
    |none=>rfl|some ob=>
     by_cases y:c>LO o
     .have:=AK b k0 h.kp h.tk hL;simp![LO,uG,uL,uV] at y;let keep:∀x,(∃xs,H0 x=u_ (.lst xs))\/(∃xs,H0 x=u_ (.dK xs))->H1 x≠none:=λx hx hn=>by
       rcases hx with⟨xs,hx⟩|⟨xs,hx⟩
       .erw[this.tk.lst x xs hx,ys,hy];rw[hy,0] at hn
       .erw[this.tk.dct x xs hx,ys,hy];rw[hy,0] at hn
      rcases y with rfl|rfl|rfl|rfl
      .exact A8 U (keep _ (.inl b.ls))
      .exact A8 U (keep _ (.inr b.du))
      .exact A8 U (keep _ (.inr b.dr))
      .exact A8 U (keep _ (.inr b.df))
     .rw[k0.kept c ob hq y,0] at aa
 .have:=Er b.q h.gi;rwa[e] at this
section
variable {P:o9}{w:og}{K:o0}{mg:Str->om o6}{base:o8}{a:Ad}{g:Ga}
def Abu:#[C,11,a.jg,a.jr,["self","going"],(AaU a.qt a.qK a.qN a.qq)]:=by
 let W3:=#[D6,T];let xk:=#[LV,T,C];let yu:=#[oK,T];let Qf:=#[D5,T];rw[9,T.lG,yw]
 erw[h,H0,o,qs,gc,st,n,p,r,don,uk,fk,top,rfl,hB,hK,aK,hU,ap,aX,aq,hL,h0,k];let hs:=uD;rw[3,%[#[wm,6,uT,#[qm,yD,#[qQ,5,pv 1,rfl],qR],%[#[qE,(2),yw.nd,#[QI,pv 1,T.qS,T.mo,W3]],#[qI,#[qm,8,QP,#[qG,qC,pv 2,qh],#[qD,#v[ql,ql]],#[w]],%[#[qW,#[Qn,pv 1,T.qS,T.lq,xk,#v[#[Qn,#[qQ,5,pv 0,rfl],T.Q3,T.iN,yu,#v[pv 2]]]]]|Au],qr],#[qE,(3),yw.nd,#[Qn,pv 0,T.qA,T.im,Qf,#v[#[qG,qC,pv 2,qh]]]],#[qI,#[qm,yD,pv 3,qR],%[|#[qo,#[qG,qC,pv 2,qh]]],qr]|#[qI,#[qm,Qg,#[qG,qC,pv 3,qh],ql],%[|#[qW,#[Qn,pv 1,T.qS,T.lq,xk,#v[#[qG,qC,pv 3,qh]]]]],%[|#[qI,#[qm,Qg,#[qG,qC,pv 3,qh],ql],%[|#[qW,#[Qn,pv 1,T.qS,T.lq,xk,#v[qR]]]],%[|#[Qk,8,pv 1,#[qD,#v[ql,#[qG,qC,pv 2,qh]]],rfl]]]]]]]|#[qo,qR]]]
 refine_lift let J_:Nat->L2.St->Hp->Prop:=λmm σ H1=>∃(s1:Gs) (p1:Gp) (fk1:oj (Key×V)) (u3 u4:om V),σ= [u_ (-o.x),u_ (-gc.x),u3,u4]/\mm=Sy.mu #[Y,(n,p1)::r,don]/\Rnd a.qN a.qq H0 H H1 o #[Y,(n,p)::r,don] (plc gc st) gc s1 n p1 r fk1 top;?_
 rw[_,J_,(_,st,p,fk,U_,U_,1,1,h0)];rintro mm σ H1 ⟨s1,p1,fk1,u3,u4,rfl,rfl,U⟩;let aL:=AK hB hK U.kp U.tk hL;let aa:=hB.at aL;let au:∀b>plc gc s1,H0 b=none:=λb hb=>(U.pl b hb).elim (hL b) (·.2);erw[U.gi (n,p1) (.inl uj),hI,aZ];let hI:GI p1:=hI;let aw:H1 o.du=u_ (.dK uk):=U.kp _ _ aK (λz=>by
  rcases Ab.mp z with z|z
  .have:=hB.nd;simp[LO] at this;exact this.2.1.2 z
  .exact(hB.new (hL _ z)).2.2.1 rfl)
 erw[id U.go,dx,fs,mv,av,rv,ev,e,f,i,j,a1,l];let a2:↑fs<1000:=by have:=f.len;omega
 rw[0,gc.x,_,dx,fs,0,e,T.qS,T.yc,f.f_end,1,0];cases he:p1.en with
 |some d=>
  let l':Is H1 d ev:=by have:=l;rwa[U.rel.en,he] at this
  let aM:d≠ .non:=by rcases hI.en d he with⟨z,rfl⟩|⟨x,rfl,_⟩|⟨z,rfl⟩<;>(intro z;rw[z,0])
  refine iQ (ui (JL l' aM)) ?_;exact k _ H1 s1 p1 fk1 U (.inl ⟨1,by rw[he];rfl⟩)
 |none=>
  let l':Is H1 .non ev:=by have:=l;rwa[U.rel.en,he] at this
  rw[show ev= .non from l',0]
  refine lc (uc rfl) ?_
  rw[_,λσ' H'=>∃m',m'<Sy.mu #[Y,(n,p1)::r,don]/\J_ m' σ' H',λ_ _ h=>h];rw[8,B1,b1];let ax:gc.o≠gc.x:=by rw[aq];exact(hB.new (hL _ uj)).1.symm
  let ak:∀H2:Hp,(∀b ob,H1 b=u_ ob->b∉o.df::plc gc s1->H2 b=u_ ob)->∃dx fs,H2 gc.o=u_ (.ins a.qt dx fs)/\fs.lookup ("runner":Str)=none:=λH2 h2=>(_,_,(by rw[aq];exact h2 _ _ aa.e (λz=>by
   rcases Ab.mp z with z|z
   .have:=aa.e;rw[z,U.df,0] at this
   .exact(hB.new (au _ z)).1 rfl)),WH o _ ())
  cases hw:yI p1 with
  |none=>
   rw[0,gc.x,dx,fs,1,e,f.meth _ ()]
   refine IV (E:=E0) (qs:=qs) U.go U.rel hI he hw λrs rr kd z v ay al ac hz aA hv=>b1 _ _ ?_;rw[8,B2,b2];erw[id hv,q,ws,rfl,hq,w1,r1,rfl,[rfl,aN],w2,r2,rfl,[rfl,aB],h3];rw[show r2= [] from h3,0]
   rw[0,q,_,_,0,1,SqT.of hq,1,(sml rfl),λt ht=>?_];let s2:=qf ht (-[V.str "has",V.str "names"])
   rw[_,t,0,.inr (SqT.of qg),1,1,0];refine lc ((AcB kd).trans ac) ?_;erw[id aa.p,aO,dp,op,a3,hx,hd,hk,a4];let a5:↑z<=300:=by
    have:=yp hz;simp![iZ,QB,uF,vo] at this;exact this.1
   erw[WT hB.q z ac,a6,aP];generalize a7:upd H1 t (-[V.str "has",V.str "names"])=H2 at s2⊢;let fin:∀(u:V) (H3:Hp),ic H2 H3->Is H3 (Jz qs kd z) u->zB a.qN a.qq a.qt [-gc.x,u] H3 (λ_ H4=>∃m',m'<Sy.mu #[Y,(n,p1)::r,don]/\J_ m' [u_ (-o.x),u_ (-gc.x),u_ (-q),u4] H4) E0:=λu H3 s3 hu=>by
    let Z:=s2.trans s3;refine De (U.go.same Z) U.rel hI he hu (λaQ r' e'=>?_) ax (ak H3 λb ob h _=>Z b ob h) λH4 s4 w4 G4 R4 aR=>?_
    .rw[ay] at e';rw[e',0];exact(kd,_,al,aP)
    .rw[<-aA] at R4;let kq:∀b ob,H3 b=u_ ob->b∉plc gc s1->H4 b=u_ ob:=λb ob h n=>w4.kept b ob h (λy=>n (by rw[y];exact uj)) (λmc r' y=>by
      unfold plc at n;rw[y] at n;simp![Aak,uG,uL,uV,Va] at n;exact[n.2.1:n.2.2.1:n.2.2.2])
     erw[U.more hB hK hL (Kp.of Z) (Z _ _ U.df) (U.fd.mono Z.tk) (Up _) kq w4.tk G4 R4 aR (Sh he hw),m1,m2,<-(_,m2,s4,_,fk1,_,0,1,m1)]
   rw[0,gc.x,dx,fs,1,s2 _ _ e,f.meth _ ()]
   rw[0,o.x,_,o.dx,_,0,s2 _ _ aa.e,T.qA,T.Qi,Sd o]
   rw[_,o.px,aO,0,s2 _ _ hx,oS,0,o.px,q,kd,z,qs,1,aa.p.same s2,hB.q,s2 _ _ hq,()]
   let aC:kd="has"\/kd≠"has"/\kd="names":=by
    unfold mZ at ac;by_cases c:kd="has"
    .exact .inl c
    .rw[ui c,TU] at ac;exact .inr [c:ur ac]
   rcases aC with c|⟨c',c⟩
   .refine .inl [c:fin _ H2 (ic.refl _) ?_];unfold Jz;rw[A6 c];exact Qy (by split<;>decide)
   .refine .inr [c:λu H3 s3 hu=>fin u H3 s3 ?_];unfold Jz;rwa[A4 c']
  |some m=>
   erw[kD hI he hw,a8,al]
   rw[0,gc.x,dx,fs,1,e,f.meth _ ()]
   refine Oa (E:=E0) U.go U.rel hI he hw λkd v H2 s2 ac hv=>b1 _ _ ?_;rw[8,B2,b2];erw[id hv,q,ws,rfl,hq,w1,r1,rfl,[rfl,aN],w2,r2,rfl,[rfl,aB],h3];rw[show r2= [] from h3,0]
   rw[0,q,_,_,0,1,SqT.of hq,1,(sml rfl),λt ht=>?_];let s3:=qf ht (-[V.str "has",V.str "names"])
   rw[_,t,0,.inr (SqT.of qg),1,1,0];refine iQ ((AcB kd).trans ac) (b2 _ _ ?_);rw[8,B3,b3];generalize upd H2 t (-[V.str "has",V.str "names"])=H3 at s3⊢;let Z:=s2.trans s3;let aD:=s3 _ _ hq;let aE:SGI #[Y,(n,p1)::r,don]:=U.gi
   rw[0,o.x,o.dx,0,Z _ _ aa.e,WH o _ ()]
   rw[0,q,_,_,0,1,SqT.of aD,1,o,m,qs,#[Y,(n,p1)::r,don],uk,fk1,1,[Z _ _ aa.e:aa.p.same Z],hB.q,aE,Z _ _ aw,hU,Z _ _ U.df,U.fd.mono Z.tk,(by have:=U.len;omega),ap,λu H4 am k4 f4 d4 l4 aS y4=>?_]
   let ad:Kp [o.df] H1 H4:=(Kp.of Z).trans k4;let aF:H4 q=u_ (-[V.str kd,V.str m]):=k4.tk.tup _ _ aD;let aT:o.df∉plc gc s1:=λz=>(hB.new (au _ z)).2.2.2.2 rfl;let G4:ml a.qN a.qq H4 gc s1:=U.go.frame (λb hb ob h=>ad.kept b ob h (λz=>aT (by rwa[<-Ac.mp z]))) ad.tk
   erw[id G4,ao,ae,a9,bb,bc,bd,e4,af,i4,j4,aG,bf];refine b3 _ _ ?_;rw[8,B4,b4]
   rw[0,1,0];unfold Bc at y4;cases hy:Sy.yet #[Y,(n,p1)::r,don] m with
   |none=>
    rw[hy] at y4;rw[show u= .non from y4,0]
    refine lc (uc rfl) (0,q,_,_,0,1,SqT.of aF,1,?_);refine k _ H4 s1 p1 am (U.st,(by rw[aS hy];exact U.len),λb ob h z=>ad.kept b ob (U.kp b ob h z) (λy=>z (by rw[Ac.mp y];exact uj)),U.tk.trans ad.tk,f4,d4,G4,U.rel,U.pl,U.gi) (.inr (m,1,he,hw,hy))
   |some oa=>
    rw[hy] at y4;erw[y4,d,hd,ha,_];let sh:∃kk rr,d= .tup (.str kk::rr):=by
     cases oa with
     |none=>erw[ha,kk,rr,h,_,<-[kk:rr:h]]|some x=>cases x with
      |none=>exact[_:_:ha]|some y=>exact[_:_:ha]
    erw[sh,kk,rr,rfl];erw[id hd,qa,wa,rfl,ag,w1,r1,rfl,[rfl,aY],h3];refine iQ (ui (λz=>by rw[z,0])) (b4 _ _ ?_)
    rw[0,qa,_,_,0,1,SqT.of ag,qF (j:=0) rfl,1,0];let fin:∀(dd:D) (u:V),Is H4 dd u->Zk dd->Sy.nxt #[Y,(n,p1)::r,don]=⟨(n,yH p1 dd)::r,don⟩->zB a.qN a.qq a.qt [-gc.x,u] H4 (λ_ H5=>∃m',m'<Sy.mu #[Y,(n,p1)::r,don]/\J_ m' [u_ (-o.x),u_ (-gc.x),u_ (-q),u_ (-qa)] H5) E0:=λdd u hu hok ah=>by
     refine De G4 U.rel hI he hu (λaQ r' e'=>?_) ax (ak H4 λb ob h n=>ad.kept b ob h (λz=>n (by rw[Ac.mp z];exact uj))) λH5 s5 w5 G5 R5 aU=>?_
     .rcases al with⟨h1,_⟩|⟨rs,rr,h1,h2⟩
      .rw[h1] at e';rw[e',0]
      .rw[h1] at e';rw[e',0];exact("thing",_,h2,CY hok)
     .have kq:∀b ob,H4 b=u_ ob->b∉plc gc s1->H5 b=u_ ob:=λb ob h n=>w5.kept b ob h (λy=>n (by rw[y];exact uj)) (λmc r' y=>by
       unfold plc at n;rw[y] at n;simp![Aak,uG,uL,uV,Va] at n;exact[n.2.1:n.2.2.1:n.2.2.2])
      erw[U.more hB hK hL ad f4 d4 l4 kq w5.tk G5 R5 aU ah,m1,m2,<-(_,m2,s5,_,am,_,0,1,m1)]
    cases oa with
    |some x=>
     let hok:=MQ hB.q aE hy;let ah:=Abw he hw hy;cases x with
     |some y=>
      rw[show D.tup (.str kk::rr)= .tup [-"value",y] from ha,0]
      erw[h3,w5,r5,rfl,h5,h6];rw[show r5= [] from h6,0]
      refine lc (uc rfl) ?_;exact(0,gc.x,ao,ae,1,e4,af.meth _ (),0,qa,_,_,0,1,SqT.of ag,1,fin y w5 h5 hok ah)
     |none=>
      rw[show D.tup (.str kk::rr)= .tup [-"lack"] from ha,0]
      refine iQ () ?_
      rw[0,qa,_,_,0,1,SqT.of ag,qF (j:=0) rfl,1,0];refine lc (uc rfl) ?_;exact(0,gc.x,ao,ae,1,e4,af.meth _ (),fin .non .non rfl hok ah)
    |none=>
     erw[ha,k2,r2,e5,c1,c2];rw[e5,0];refine iQ (ui (λz=>c1 (V.str.inj z))) ?_
     rw[0,qa,_,_,0,1,SqT.of ag,qF (j:=0) rfl,1,0];refine iQ (ui (λz=>c2 (V.str.inj z))) ?_
     rw[0,q,_,_,0,1,SqT.of aF,1,(sml rfl),λt5 aH=>?_];let s5:=qf aH (-[V.str "stuck",V.str m]);let aI:↑ae<1000:=by have:=af.len;omega
     rw[0,gc.x,_,ao,ae,1,s5 _ _ e4,T.qS,T.yc,aI];let aV:=Is.new (H:=H4) (ds:= [-"stuck",!m]) (p:=t5) (_,0,Qy (),_,0,[1:aB],1) aH
     erw[W9 (C:=a.qN) (CM:=a.qq) (g:=gc) (s:={s1 with en:= .tup [-"stuck",!m]}) (s5 _ _ e4) (af.set_end (u:=-t5)) (i4.mono s5.tk) (j4.mono s5.tk) (aG.same s5) aV,g1,g2]
     let aJ:nG gc {s1 with en:= .tup [-"stuck",!m]} (Dg p1 m):=(U.rel.n,U.rel.mb,U.rel.ra,U.rel.run,U.rel.own,1)
     let aW:Kp [o.df] H1 (upd H4 t5 (-[V.str "stuck",V.str m])):=ad.trans (Kp.of s5);obtain⟨m1,m2⟩:=U.more hB hK hL aW (s5 _ _ f4) (d4.mono s5.tk) l4 (λb ob h n=>g2.kept b ob h (λy=>n (by rw[y];exact uj))) g2.tk g1 aJ (λb hb=> .inl hb) (Sf he hw hy)
     exact(_,m2,_,_,am,_,0,1,m1)
abbrev XL (CG CM:o3)(H:Hp)(ox:o3):oj (Gc×Gs)->oj (Str×Gp)->Prop
 | [],[]=>True|q::t,p::l=>ml CG CM H q.1 q.2/\nG q.1 q.2 p.2/\q.1.o=ox/\XL CG CM H ox t l|_,_=>False
abbrev Pi:oj (Gc×Gs)->oj o3
 | []=> []|q::t=>plc q.1 q.2++Pi t
abbrev Sep:oj (Gc×Gs)->Prop
 | []=>True|q::t=>(∀b>plc q.1 q.2,b∉Pi t)/\Sep t
def XL.frame {CG CM ox:o3}{H H':Hp}:∀{st:oj (Gc×Gs)}{l:oj (Str×Gp)},XL CG CM H ox st l->(∀b>Pi st,∀ob,H b=u_ ob->H' b=u_ ob)->Tk H H'->XL CG CM H' ox st l
 | [],[],_,_,_=>trivial| [],_::_,h,_,_=>h.elim|_::_,[],h,_,_=>h.elim|q::t,p::l,⟨h1,h2,h3,h4⟩,hk,tk=>(h1.frame (λb U=>hk b (vO _ U)) tk,h2,h3,XL.frame h4 (λb U=>hk b (uR _ U)) tk)
def XL.there {CG CM ox:o3}{H:Hp}:∀{st:oj (Gc×Gs)}{l:oj (Str×Gp)},XL CG CM H ox st l->∀b>Pi st,∃ob,H b=u_ ob
 | [],[],_=>λb U=>by rw[U,0]| [],_::_,h=>h.elim|_::_,[],h=>h.elim|q::t,p::l,⟨h1,h2,h3,h4⟩=>λb U=>by
  rcases Ae.mp U with U|U
  .exact h1.there b U
  .exact XL.there h4 b U
def XL.len {CG CM ox:o3}{H:Hp}:∀{st:oj (Gc×Gs)}{l:oj (Str×Gp)},XL CG CM H ox st l->↑st=↑l
 | [],[],_=>rfl| [],_::_,h=>h.elim|_::_,[],h=>h.elim|q::t,p::l,⟨h1,h2,h3,h4⟩=>by rw[um,um,XL.len h4]
def BR {Y:Sy}:∀l:oj (Str×Y.G),↑l<=Sy.lfts l
 | []=>uq _|(_,g)::r=>by
  have:=BR r;show ↑r+1<=Y.lft g+1+Sy.lfts r;omega
def Adb (U:QT qs)(n:Str):Sy.mu (Sy.S0 (SyP qs) n)<=20000:=by
 let Z:=U.2.2;let hr:∀S:Sy.Ss (SyP qs),↑(Sy.rest S)<=60:=λS=>by
  let h1:↑(Sy.rest S)<=(qs.map (·.1)).length:=TV _ _;rw[u9] at h1;omega
 unfold Sy.mu;let h2:=hr (Sy.S0 (SyP qs) n);let h3:(SyP qs).M=302:=rfl;rw[h3];let h4:Sy.lfts (Sy.S0 (SyP qs) n).stk<=303:=by
  unfold Sy.S0;cases hg:(SyP qs).g0 n with
  |none=>exact uS _|some g=>
   have:=(Q7 qs).l0 n g hg;show(SyP qs).lft g+1+0<=303;let h3:(SyP qs).M=302:=rfl;omega
 omega
structure OI {qs:oj (Str×D)}(CG CM:o3)(H0 H:Hp)(o:Oc)(n0:Str)(S:Sy.Ss (SyP qs))(st:oj (Gc×Gs))(uk rk fk:oj (Key×V)):Prop where
 kp:Kp (LO o) H0 H
 nx:∃j,S=Sy.nx (Sy.S0 (SyP qs) n0) j
 ls:H o.ls=u_ (.lst (st.reverse.map λq=>V.ref q.1.x))
 du:H o.du=u_ (.dK uk)
 uo:S7 S uk
 ul:↑uk+Sy.mu S<=20001
 dr:H o.dr=u_ (.dK rk)
 rks:rk.map (·.1)=S.don.map λp=>Vf p.1
 rv:L2.IsL H (S.don.map λp=>xB p.2) (rk.map (·.2))
 rl:↑S.don+Sy.mu S<=20001
 df:H o.df=u_ (.dK fk)
 fd:C5 H S fk
 fl:↑fk+Sy.mu S<=20001
 stk:XL CG CM H o.x st S.stk
 new:∀b>Pi st,H0 b=U_
 sep:Sep st
 gi:SGI S
 fin:∀q>S.don,(Gp.en q.2).isSome=v_
 nd:(S.stk.map (·.1)++S.don.map (·.1)).Nodup
def S9 (n:Str)(j:Nat):((Sy.nx (Sy.S0 (SyP qs) n) j).stk.map (·.1)++(Sy.nx (Sy.S0 (SyP qs) n) j).don.map (·.1)).Nodup:=by
 cases U:(SyP qs).g0 n with
 |some g=>exact(Sy.nx_ok (Q7 qs) (Sy.S0_ok U) j).nd|none=>
  let e:Sy.nx (Sy.S0 (SyP qs) n) j=⟨[],[]⟩:=by
   let e0:Sy.S0 (SyP qs) n=⟨[],[]⟩:=by unfold Sy.S0;rw[U]
   rw[e0]
   induction j with
   |zero=>rfl|succ j Z=>show Sy.nxt _=_;rw[Z];rfl
  rw[e];exact U2
inductive Op (CO CP:Addr):Sp
 |mk (o:Oc)(qs:List (Str×D))(n:Str)(_:vs= [-o.x,!n])(_:Bs CO CP H o qs)(_:H o.ls=u_ (.lst []))(_:H o.du=u_ (.dK []))(_:H o.dr=u_ (.dK []))(_:H o.df=u_ (.dK []))(_:∀(H':Hp)(rk uk fk:List (Key×V))(don:List (Str×Gp))(j:Nat),H' o.du=u_ (.dK uk)->S7 #[Y,[],don] uk->H' o.df=u_ (.dK fk)->C5 H' #[Y,[],don] fk->↑fk<=20001->SGI #[Y,[],don]->Kp (LO o) H H'->Sy.nx (Sy.S0 (SyP qs) n) j=⟨[],don⟩->H' o.dr=u_ (.dK rk)->(rk.map (·.1)=don.map λp=>Vf p.1)->L2.IsL H' (don.map λp=>xB p.2) (rk.map (·.2))->(∀p>don,GI p.2/\p.2.en.isSome=v_)->↑don<=20001->Q .non H')
def qar {α:Type}{xs:oj α}{x:α}:atI (xs++ [x]) (-1)=u_ x:=by
 unfold atI ixN;let U:↑(xs++ [x])=↑xs+1:=by simp
 rw[A4 (),A6 ()]
 show(xs++ [x])[(-1+(↑(xs++ [x]):Int)).toNat]? =u_ x;rw[show(-1+(↑(xs++ [x]):Int)).toNat=↑xs by omega]
 simp
def Nq {Y:Sy}(S:Sy.Ss Y)(i:Nat):∀j,Sy.nx S (i+j)=Sy.nx (Sy.nx S i) j
 |0=>rfl|j+1=>by show Sy.nxt (Sy.nx S (i+j))=Sy.nxt (Sy.nx (Sy.nx S i) j);rw[Nq S i j]
def Aby {qs:oj (Str×D)}(S:Sy.Ss (SyP qs)):∀j,Sy.mu (Sy.nx S j)<=Sy.mu S
 |0=>uq _|j+1=>by
  let h:=Aby S j;show Sy.mu (Sy.nxt (Sy.nx S j))<=_;by_cases c:(Sy.nx S j).stk= []
  .let e:Sy.nxt (Sy.nx S j)=Sy.nx S j:=by unfold Sy.nxt;rw[c]
   rwa[e]
  .have:=Sy.nxt_mu (Q7 qs) c;omega
def Pr:#[C,13,a.yN,a.y7,["self","name"],(Op a.qt a.qK)]:=by
 let Qf:=#[D5,T];let jh:=#[LZ,T,C];let zp:=#[Abu,T,C];let Xt:=#[Ed,T];rw[9,T.iR,QS]
 erw[h,o,qs,n,rfl,hB,bF,bo,bG,bH,k];let hs:=uD;let hO:=hB.oa;rw[3,%[#[qI,#[qm,yD,#[Qn,pv 0,T.qA,T.im,Qf,#v[pv 1]],qR],%[|#[qW,#[Qn,pv 0,T.qA,T.iP,jh,#v[pv 1]]]],qr]|#[wm,6,uT,#[BA,3,#[qQ,5,pv 0,rfl],(λ_=>rfl)],%[#[qE,(2),QS.nd,#[qG,QR,#[qQ,5,pv 0,rfl],#[Abh,6,MS,qh]]],#[qE,(3),QS.nd,#[Qn,pv 0,T.qA,T.lG,zp,#v[pv 2]]]|#[qI,#[qm,yD,pv 3,qR],%[#[qW,#[Nj,9,uO,UJ,UK,Nu,#[qQ,5,pv 0,rfl],_,_]],#[qW,#[LE,7,#[qQ,5,pv 0,rfl],#[qQ,5,pv 2,rfl],(1,1,1,1)]]|#[qW,#[Qn,pv 0,T.qA,T.li,Xt,#v[pv 2]]]],%[|#[qW,#[Qn,pv 0,T.qA,T.iP,jh,#v[pv 3]]]]]]]]]
 let bI:=Adb hB.q n;rw[8,N,hN];let bJ:∀(H1:Hp) (S:Sy.Ss (SyP qs)) (st:oj (Gc×Gs)) (uk rk fk:oj (Key×V)),OI a.qN a.qq H H1 o n S st uk rk fk->N [u_ (-o.x),u_ (!n),U_,U_] H1:=by
  intro H1 S st uk rk fk h1;refine hN _ _ ?_
  refine_lift let J_:Nat->L2.St->Hp->Prop:=λmm σ H2=>∃(S:Sy.Ss (SyP qs)) (st:oj (Gc×Gs)) (uk rk fk:oj (Key×V)) (u3 u4:om V),σ= [u_ (-o.x),u_ (!n),u3,u4]/\mm=Sy.mu S/\OI a.qN a.qq H H2 o n S st uk rk fk;?_
  rw[_,J_,(_,S,st,uk,rk,fk,U_,U_,1,1,h1)];clear h1 bo bG bH bF;rintro mm σ H2 ⟨S,st,uk,rk,fk,u3,u4,rfl,rfl,hI⟩;let bp:=hB.at hI.kp
  rw[0,o.x,_,o.dx,_,0,bp.e,T.qA,T.QG,L7 o,_,.inl [_:SqL.of hI.ls:1]];obtain⟨(stk:oj (Str×Gp)),(don:oj (Str×Gp))⟩:=S;let ax:XL a.qN a.qq H2 o.x st stk:=hI.stk;cases st with
  |nil=>
   cases stk with
   |cons p l=>exact ax.elim|nil=>
    refine iQ rfl ?_;erw[hI.nx,j,hj,<-k H2 rk uk fk don j hI.du hI.uo hI.df hI.fd (by have:=hI.fl;omega) hI.gi hI.kp hj.symm hI.dr hI.rks hI.rv (λp hp=>[(hI.gi p (.inr hp)).1:hI.fin p hp]) (by have:=hI.rl;let e:↑(#[Y,[],don].don)=↑don:=rfl;omega)]
  |cons q t=>
   erw[q,gc,gs];cases stk with
   |nil=>exact ax.elim|cons p l=>
    erw[p,U,p];erw[ax,hG,bq,bK,hT];let hG:ml a.qN a.qq H2 gc gs:=hG;let bq:nG gc gs p:=bq;let am:H2 o.ls=u_ (.lst ((t.reverse.map λq=>V.ref q.1.x)++ [V.ref gc.x])):=by
     have:=hI.ls;rwa[V8,uA] at this
    refine lc (by rw[V8,uA];show(!((Tt _ t.reverse)++ [V.ref gc.x]).isEmpty)=v_;simp) ?_
    rw[_,λσ' H'=>∃m',m'<Sy.mu #[Y,(U,p)::l,don]/\J_ m' σ' H',λ_ _ h=>h];rw[8,B1,b1]
    rw[0,o.x,_,o.dx,_,0,bp.e,T.qA,T.QG,L7 o,0,o.ls,_,_,0,1,SqL.of am,qar,b1 _ _ ?_];rw[8,B2,b2];let ao:∀b>plc gc gs,H b=none:=λb Z=>hI.new b (vO _ Z);let ac:∀b>Pi t,H b=none:=λb Z=>hI.new b (uR _ Z);let bL:∃j,#[Y,(U,p)::l,don]=Sy.nx #[Y,(U,p)::l,don] j:=[(0):1]
    rw[0,o.x,o.dx,0,bp.e,WH o _ (),0,H,o,qs,gc,gs,U,p,l,don,uk,fk,(20001),1,hB,hI.kp,hI.du,hI.uo,hI.fin,(),bK,ao,(bL,hI.fl,λ_ _ h _=>h,Tk.refl _,hI.df,hI.fd,hG,bq,λb Z=> .inl Z,hI.gi),λv H3 ak p3 ad hR hv=>?_]
    let aW:Sy.mu #[Y,(U,p3)::l,don]<=Sy.mu #[Y,(U,p)::l,don]:=by
     erw[hR.st,j,hj];let hj:#[Y,(U,p3)::l,don]=Sy.nx #[Y,(U,p)::l,don] j:=hj;rw[hj];exact Aby _ _
    let bM:∃j,#[Y,(U,p3)::l,don]=Sy.nx (Sy.S0 (SyP qs) n) j:=by
     erw[hR.st,j,hj];erw[hI.nx,i,hi];let hj:#[Y,(U,p3)::l,don]=Sy.nx #[Y,(U,p)::l,don] j:=hj;exact⟨i+j,by rwa[Nq,<-hi]⟩
    let ap:Kp (LO o) H H3:=AK hB hI.kp hR.kp hR.tk ao;let ay:=hB.at ap;let aq:∀b>plc gc ak,H b=none:=λb Z=>(hR.pl b Z).elim (ao b) (·.2);let out:∀b,b>LO o->b≠o.df->b∉o.df::plc gc gs:=λb Z hn z=>by
     rcases Ab.mp z with z|z
     .exact hn z
     .exact hB.nlo (ao b z) Z
    let b4:o.ls≠o.du/\o.ls≠o.dr/\o.ls≠o.df/\o.du≠o.dr/\o.du≠o.df/\o.dr≠o.df:=by
     let h:=hB.nd;simp![LO,U7,uG,uL,uV,Va,U2,and_true,V7] at h;exact(h.1.1,h.1.2.1,h.1.2.2,h.2.1.1,h.2.1.2,h.2.2)
    erw[b4,d1,d2,d3,d4,d5,d6];let af:=hR.kp _ _ am (out _ (by simp[LO]) d3)
    let aA:=hR.kp _ _ hI.du (out _ (by simp[LO]) d5)
    let aB:=hR.kp _ _ hI.dr (out _ (by simp[LO]) d6)
    let bt:XL a.qN a.qq H3 o.x t l:=hT.frame (λb Z ob h=>hR.kp b ob h (λz=>by
     rcases Ab.mp z with z|z
     .exact(hB.new (ac b Z)).2.2.2.2 z
     .exact hI.sep.1 b z Z)) hR.tk
    let bu:∀b>plc gc ak,b∉Pi t:=λb Z z=>by
     rcases hR.pl b Z with Z|⟨Z,_⟩
     .exact hI.sep.1 b Z z
     .erw[hT.there b z,ob,e];rw[e,0] at Z
    let b5:GI p3:=(hR.gi (U,p3) (.inl uj)).1;let aX:p3.n=U:=(hR.gi (U,p3) (.inl uj)).2;let bN:=hI.ul;let bO:=hR.len;let b6:=hI.rl;let cp:↑don+Sy.mu #[Y,(U,p)::l,don]<=20001:=b6;let b7:↑ad+Sy.mu #[Y,(U,p3)::l,don]<=20001:=bO;let aC:=Sy.nxt_mu (Q7 qs) (S:=#[Y,(U,p3)::l,don]) (by intro z;rw[z,0])
    let cq:↑rk=↑don:=by
     have:=Aa VI hI.rks;rwa[u9,u9] at this
    let aD:H3 o.df=u_ (.dK ad):=hR.df;let aO:ml a.qN a.qq H3 gc ak:=hR.go;let ag:nG gc ak p3:=hR.rel;let aY:C5 H3 #[Y,(U,p3)::l,don] ad:=hR.fd;let aZ:SGI #[Y,(U,p3)::l,don]:=hR.gi;erw[bM,i3,aP];refine b2 _ _ ?_
    rw[0,1,0];rcases hv with⟨rfl,au⟩|⟨m,rfl,au,hw,hy⟩
    ·
     refine lc (uc rfl) ?_;rw[8,C1,c1];obtain⟨d,hd⟩:∃d,p3.en=u_ d:=by
      cases h:p3.en with
      |none=>rw[h,0] at au|some d=>exact[d:1]
     let ae:=Sg (qs:=qs) (n:=U) (r:=l) (don:=don) hd
     rw[0,o.x,_,o.dx,_,0,ay.e,T.qA,T.QG,L7 o,.inl [1:_:SqL.of af]]
     rw[_,o.ls,_,V.ref gc.x,1,1,af,by simp]
     rw[List.dropLast_concat];let aa:Kp [o.ls,o.du] H3 (upd H3 o.ls (.lst (t.reverse.map λq=>V.ref q.1.x))):=⟨λb ob h n=>by rw[qi (λz=>n (by rw[z];exact uj))];exact h,iE.tk (p:=o.ls) (λb ob h n=>by rwa[qi n]) af qg⟩
     obtain⟨H4,aE⟩:∃H4,H4=upd H3 o.ls (.lst (t.reverse.map λq=>V.ref q.1.x)):=⟨0⟩;rw[<-aE] at aa⊢;refine c1 _ _ ?_;rw[8,C2,c2];let e4:H4 o.x=u_ (.ins a.qt o.dx (ofs o)):=by rw[aE,qi (λz=>by have:=ay.e;rw[z,af,0] at this)];exact ay.e
     let aF:H4 o.ls=u_ (.lst (t.reverse.map λq=>V.ref q.1.x)):=by rw[aE];exact qg
     let al:H4 o.du=u_ (.dK uk):=by rwa[aE,qi d1.symm]
     let bP:∀b,H b=U_->b≠o.ls:=λb Z=>(hB.new Z).2.1;let b8:ml a.qN a.qq H4 gc ak:=aO.frame (λb Z ob h=>by rwa[aE,qi (bP b (aq b Z))]) aa.tk
     erw[id b8,b9,ca,cr,cs,cu,cv,cb,f4,_];let aG:(iT uk (Vf gc.n)).isSome=true:=by
      rw[ag.n,aX];exact(hI.uo U).trans (uc uj)
     obtain⟨uv,cc⟩:∃uv,iT uk (Vf gc.n)=u_ uv:=by
      cases h:iT uk (Vf gc.n) with
      |none=>rw[h,0] at aG|some uv=>exact[uv:1]
     rw[0,o.x,_,o.dx,_,0,e4,T.qA,T.QA,Sb o,o.du,1,.inl [_:.inl al],0,gc.x,_,b9,ca,0,cb,T.qS,T.Yx,f4.ZD,uk,Vf gc.n,uv,al,1,cc];let ah:Kp [o.ls,o.du] H3 (upd H4 o.du (.dK (J2 uk (Vf gc.n)))):=aa.trans (Kp.updD al (uh _ uj));obtain⟨H5,bv⟩:∃H5,H5=upd H4 o.du (.dK (J2 uk (Vf gc.n))):=⟨0⟩;rw[<-bv] at ah⊢;refine c2 _ _ ?_;let bQ:H5 o.du=u_ (.dK (J2 uk (Vf gc.n))):=by rw[bv];exact qg
     let bR:H5 o.ls=u_ (.lst (t.reverse.map λq=>V.ref q.1.x)):=by rwa[bv,qi d1]
     let aH:∀b,H b=U_->b∉ [o.ls,o.du]:=λb Z z=>by
      simp![uG,uL,uV] at z;rcases z with z|z
      .exact(hB.new Z).2.1 z
      .exact(hB.new Z).2.2.1 z
     let cd:ml a.qN a.qq H5 gc ak:=aO.frame (λb Z ob h=>ah.kept b ob h (aH b (aq b Z))) ah.tk;let bS:H5 o.dr=u_ (.dK rk):=ah.kept _ _ aB (by simp![uG,uL,uV,Va];exact[d2.symm:d4.symm])
     let bT:H5 o.df=u_ (.dK ad):=ah.kept _ _ aD (by simp![uG,uL,uV,Va];exact[d3.symm:d5.symm])
     let aQ:∀b,b∉LO o->b∉ [o.ls,o.du]:=λb Z z=>Z (by simp![LO,uG,uL,uV] at z⊢;rcases z with z|z;exact .inl z;exact .inr (.inl z))
     let bw:Kp (LO o) H H5:=[λb ob h n=>ah.kept b ob (ap.kept b ob h n) (aQ b n):ap.tk.trans ah.tk];let bU:=hB.at bw
     rw[0,o.x,o.dx,0,bU.e,WH o _ (),0,o,qs,gc,ak,p3,rk,ad,1,bU,cd,ag,b5,au,bS,(),bT,(),d6,λz=>(hB.new (aq _ z)).2.2.2.1 rfl,λz=>(hB.new (aq _ z)).2.2.2.2 rfl,λv1 v2 H6 aw aI i6 bb j6=>?_]
     let bV:∀b,b∉LO o->b∉ [o.dr,o.df]:=λb Z z=>Z (by simp![LO,uG,uL,uV] at z⊢;rcases z with z|z;exact .inr (.inr (.inl z));exact .inr (.inr (.inr z)))
     let ce:∀b,H b=U_->b∉ [o.dr,o.df]:=λb Z=>bV b (hB.nlo Z);let cf:Kp (LO o) H H6:=[λb ob h n=>aw.kept b ob (bw.kept b ob h n) (bV b n):bw.tk.trans aw.tk];let aJ:Tk H3 H6:=ah.tk.trans aw.tk;let bx:gc.n=U:=ag.n.trans aX;let aR:(#[Y,(U,p3)::l,don].stk.map (·.1)++#[Y,(U,p3)::l,don].don.map (·.1)).Nodup:=by
      rw[aP];exact S9 n i3
     let bc:(U::(l.map (·.1)++don.map (·.1))).Nodup:=aR;let aK:U∉don.map (·.1):=λz=>(List.nodup_cons.mp bc).1 (uR _ z);let bA:U∉l.map (·.1):=λz=>(List.nodup_cons.mp bc).1 (vO _ z);let cg:iT rk (Vf U)=none:=by
      cases h:iT rk (Vf U) with
      |none=>rfl|some v=>
       have h1:=Of h;rw[hI.rks] at h1;erw[Af.mp h1,q,hq,e];injection e with e
       exact A8 (Af.mpr [q:hq:e]) aK
     rw[bx] at aI bb;rw[KN v1 cg] at aI;let bW:↑uk+Sy.mu #[Y,(U,p)::l,don]<=20001:=bN;let cw:=Cb uk (Vf gc.n:Key);let ch:=yB ad (Vf U:Key) v2;let a1:S7 #[Y,l,don++ [(U,p3)]] (J2 uk (Vf gc.n)):=by
      intro m';rw[wB];by_cases c:m'=U
      .rw[A6 (by rw[c,bx]),c]
       exact(ui bA).symm
      .rw[A4 (by rw[bx];exact λz=>c (UB z))]
       refine(hI.uo m').trans ?_;rw[ve];exact⟨λz=>by rcases Ab.mp z with z|z;exact A8 z c;exact z,λz=>uh _ z⟩
     let a2:(rk++ [((Vf U:Key),v1)]).map (·.1)=(don++ [(U,p3)]).map λq:Str×Gp=>(Vf q.1:Key):=by
      rw[uA,uA];have:=hI.rks;rw[this]
      rfl
     let a3:L2.IsL H6 ((don++ [(U,p3)]).map λq:Str×Gp=>xB q.2) ((rk++ [((Vf U:Key),v1)]).map (·.2)):=by
      rw[uA,uA];exact((hI.rv.mono (hR.tk.trans aJ))).append (L2.IsL.one i6)
     let a4:↑(don++ [(U,p3)])=↑don+1:=by rw[uw];rfl
     let a5:∀(m':Str) (g':Gp),g0D m' (qJ qs m')=u_ g'->(∀g2:Gp,Sy.YV (Y:=SyP qs) (don++ [(U,p3)]) m'=u_ g2->∃v,iT (lV ad (Vf U) v2) (Vf m')=u_ v/\Is H6 (yb (g2.en.getD .non)) v)/\(Sy.YV (Y:=SyP qs) (don++ [(U,p3)]) m'=U_->iT (lV ad (Vf U) v2) (Vf m')=U_):=by
      intro m' g' ci;rw[zJ];by_cases c:m'=U
      .have aL:Sy.YV (Y:=SyP qs) (don++ [(U,p3)]) m'=(u_ p3:om Gp):=by
        have e1:(don.find? λq=>decide (q.1=m'))=none:=List.find?_eq_none.mpr λq hq e=>aK (by rw[<-c,<-ur e];exact List.mem_map_of_mem hq)
        have e2:((don++ [(U,p3)]).find? λq:Str×Gp=>decide (q.1=m'))=u_ (U,p3):=by rw[UO,e1,c];simp
        show((don++ [(U,p3)]).find? λq:Str×Gp=>decide (q.1=m')).map (·.2)=u_ p3;rw[e2]
        rfl
       rw[_,λg2 e2=>?_,λz=>?_]
       .have e3:=aL.symm.trans e2;rw[e3,0];rw[A6 (by rw[c])]
        exact[v2:1:j6]
       .have e3:=aL.symm.trans z;rw[e3,0]
      .have aL:Sy.YV (Y:=SyP qs) (don++ [(U,p3)]) m'=Sy.YV (Y:=SyP qs) don m':=by
        have e2:((don++ [(U,p3)]).find? λq:Str×Gp=>decide (q.1=m'))=don.find? λq:Str×Gp=>decide (q.1=m'):=by
         rw[UO];have:([(U,p3)].find? λq:Str×Gp=>decide (q.1=m'))=none:=by simp;exact λz=>c z.symm
         rw[this,Option.or_none]
        show((don++ [(U,p3)]).find? λq:Str×Gp=>decide (q.1=m')).map (·.2)=(don.find? λq:Str×Gp=>decide (q.1=m')).map (·.2);rw[e2]
       rw[A4 (λz=>c (UB z))];let aM:(∀g2:Gp,Sy.YV (Y:=SyP qs) don m'=u_ g2->∃v,iT ad (Vf m')=u_ v/\Is H6 (yb (g2.en.getD .non)) v)/\(Sy.YV (Y:=SyP qs) don m'=U_->iT ad (Vf m')=U_):=(aY.mono aJ) m' g' ci;exact[λg2 e2=>aM.1 g2 (aL.symm.trans e2):λz=>aM.2 (aL.symm.trans z)]
     let a6:XL a.qN a.qq H6 o.x t l:=bt.frame (λb Z ob h=>aw.kept b ob (ah.kept b ob h (aH b (ac b Z))) (ce b (ac b Z))) aJ;let a7:∀q>don++ [(U,p3)],q.2.en.isSome=true:=by
      intro q hq;rcases Ae.mp hq with hq|hq
      .exact hI.fin q hq
      .rw[Ac.mp hq,0];exact au
     let eN:Sy.nx (Sy.S0 (SyP qs) n) (i3+1)=Sy.nxt #[Y,(U,p3)::l,don]:=by show Sy.nxt (Sy.nx _ i3)=_;rw[<-aP]
     let a8:=S9 (qs:=qs) n (i3+1);rw[eN] at a8;let a9:=Er hB.q aZ;let bB:OI a.qN a.qq H H6 o n (Sy.nxt #[Y,(U,p3)::l,don]) t (J2 uk (Vf gc.n)) (rk++ [(Vf U,v1)]) (lV ad (Vf U) v2):=by
      rw[_,cf,[i3+1:eN.symm],aw.kept _ _ bR (by simp![uG,uL,uV,Va];exact[d2:d3]),aw.kept _ _ bQ (by simp![uG,uL,uV,Va];exact[d4:d5]),?_,(),aI,?_,?_,?_,bb,?_,(),?_,ac,hI.sep.2,a9,?_,a8]
      .rwa[ae]
      .rwa[ae]
      .rwa[ae]
      .have e:(Sy.nxt #[Y,(U,p3)::l,don]).don.length=↑don+1:=by rwa[ae]
       omega
      .rwa[ae]
      .rwa[ae]
      .rwa[ae]
     exact(_,Vs aC aW,_,t,_,_,_,_,0,1,bB)
    ·
     refine iQ (ui (λz=>by rw[z,0])) ?_
     erw[Mb (qs:=qs) au hw hy,p',cj,ae];rw[ae] at aC;erw[Sy.zk hy,y1,_,y3];let bX:=BR (Y:=SyP qs) ((U,p3)::l);let aS:↑((U,p3)::l)<=Sy.mu #[Y,(U,p3)::l,don]:=vb bX (tE _ _);let cx:↑t=↑l:=hT.len;let bW:↑uk+Sy.mu #[Y,(U,p)::l,don]<=20001:=bN
     rw[0,o.x,o.dx,0,ay.e,WH o _ (),0,o,m,qs,_,uk,p',1,ay,hB.q,af,?_,aA,(),cj,λgn sn H4 aa aF al bC bD bE aT=>?_]
     .rw[uw,u9,List.length_reverse,Ue];rw[um] at aS;omega
     let aQ:∀b,b∉LO o->b∉ [o.ls,o.du]:=λb Z z=>Z (by simp![LO,uG,uL,uV] at z⊢;rcases z with z|z;exact .inl z;exact .inr (.inl z))
     let ck:Kp (LO o) H H4:=[λb ob h n=>aa.kept b ob (ap.kept b ob h n) (aQ b n):ap.tk.trans aa.tk];let aH:∀b,H b=U_->b∉ [o.ls,o.du]:=λb Z=>aQ b (hB.nlo Z);let aN:∀b>plc gn sn,H b=none:=λb Z=>by
      have h3:=aT b Z;cases h:H b with
      |none=>rfl|some ob=>
       by_cases c:b>LO o
       .simp![LO,uG,uL,uV] at c;rcases c with rfl|rfl|rfl|rfl
        .rw[af,0] at h3
        .rw[aA,0] at h3
        .rw[aB,0] at h3
        .rw[aD,0] at h3
       .rw[ap.kept b ob h c,0] at h3
     rw[_,_,Vs aC aW,[(m,p')::(U,p3)::l:don],(gn,sn)::(gc,ak)::t,lV uk (Vf m) (.bl v_),rk,ad,_,0,1];let ch:=yB uk (Vf m:Key) (.bl v_)
     rw[5]
     refine(ck,⟨i3+1,by show _=Sy.nxt (Sy.nx _ i3);rw[<-aP,ae]⟩,?_,al,?_,(),aa.kept _ _ aB (by simp![uG,uL,uV,Va];exact[d2.symm:d4.symm]),hI.rks,hI.rv.mono (hR.tk.trans aa.tk),?_,aa.kept _ _ aD (by simp![uG,uL,uV,Va];exact[d3.symm:d5.symm]),?_,(),?_,?_,?_,?_,hI.fin,?_)
     .rw[aF,V8,V8,uA,uA]
      rfl
     .intro m';rw[zJ];by_cases c:m'=m
      .rw[A6 (by rw[c])]
       exact(uc (by rw[c];exact uj)).symm
      .rw[A4 (λz=>c (UB z))];refine(hI.uo m').trans ?_;rw[ve];exact⟨λz=>uh _ z,λz=>by rcases Ab.mp z with z|z;exact A8 z c;exact z⟩
     .show ↑don+_<=_;omega
     .exact aY.mono aa.tk
     .exact(bC,bD,bE,aO.frame (λb Z ob h=>aa.kept b ob h (aH b (aq b Z))) aa.tk,ag,bK,bt.frame (λb Z ob h=>aa.kept b ob h (aH b (ac b Z))) aa.tk)
     .intro b Z;rcases Ae.mp Z with Z|Z
      .exact aN b Z
      .rcases Ae.mp Z with Z|Z
       .exact aq b Z
       .exact ac b Z
     .rw[_,λb Z z=>?_,bu,hI.sep.2];let h3:=aT b Z;rcases Ae.mp z with z|z
      .erw[aO.there b z,ob,e];rw[e,0] at h3
      .erw[bt.there b z,ob,e];rw[e,0] at h3
     .have:=Er hB.q aZ;rwa[ae] at this
     .have:=S9 (qs:=qs) n (i3+1);let e:Sy.nx (Sy.S0 (SyP qs) n) (i3+1)=⟨(m,p')::(U,p3)::l,don⟩:=by show Sy.nxt (Sy.nx _ i3)=_;rw[<-aP,ae]
      rwa[e] at this
 let u0:S7 #[Y,[],[]] []:=λm=>by rw[qaf];rfl
 let f0:C5 H #[Y,[],[]] []:=λm g hg=>⟨(λg' e=>by rw[e,0]),λ_=>qaf⟩
 let g0:SGI #[Y,[],[]]:=λp hp=>by rcases hp with hp|hp<;>cases hp
 rw[0,o.x,o.dx,0,hO.e,WH o _ (),0,o,n,qs,#[Y,[],[]],[],[],1,hO,hB.q,g0,bo,u0,bH,f0,(),(λ_ z=>by rw[z,0]),λv H1 fk1 k1 f1 d1 l1 bY y1=>?_]
 let aR:=hB.nd;simp![LO,U7,uG,uL,uV,Va,U2,and_true,V7] at aR;erw[aR,[n1,n2,n3],[n4,n5],n6];let aU:∀b,b≠o.df->b∉ [o.df]:=λb Z z=>Z (Ac.mp z);let aV:Kp (LO o) H H1:=⟨λb ob h z=>k1.kept b ob h (λy=>z (by rw[Ac.mp y];simp[LO])),k1.tk⟩
 let bZ:=hB.at aV;let bd:=k1.kept _ _ bF (aU _ n3);let bf:=k1.kept _ _ bo (aU _ n5);let bg:=k1.kept _ _ bG (aU _ n6)
 rw[1,0];unfold Bc at y1;cases hg:(SyP qs).g0 n with
 |none=>
  let ey:Sy.yet #[Y,[],[]] n=u_ (u_ ((SyP qs).once n)):=by
   unfold Sy.yet;rw[A4 (by intro z;rw[z,0]),hg]
  rw[ey] at y1;erw[y1,d,i1,i2,_];let cm:d≠ .non:=by
   cases h:(SyP qs).once n with
   |none=>rw[h] at i2;intro z;rw[z,0] at i2|some x=>rw[h] at i2;intro z;rw[z,0] at i2
  refine iQ (ui (JL i1 cm)) ?_;let e0:Sy.S0 (SyP qs) n=⟨[],[]⟩:=by unfold Sy.S0;rw[hg]
  rw[e0] at bI;let l1:↑fk1<=0+1:=l1;exact bJ H1 [[]:[]] [] [] [] fk1 (aV,[(0):e0.symm],bd,bf,u0,(by show 0+_<=_;omega),bg,1,1,(by show 0+_<=_;omega),f1,d1,(),trivial,(λb Z=>by rw[Z,0]),trivial,g0,(λq hq=>by rw[hq,0]),U2)
 |some p=>
  let ey:Sy.yet #[Y,[],[]] n=none:=by
   unfold Sy.yet;rw[A4 (by intro z;rw[z,0]),hg]
   rfl
  rw[ey] at y1;rw[show v= .non from y1,0]
  refine lc (uc rfl) ?_;let e0:Sy.S0 (SyP qs) n=⟨[(n,p)],[]⟩:=by unfold Sy.S0;rw[hg]
  rw[e0] at bI;let bY:↑fk1=0:=bY ey
  rw[0,o.x,o.dx,0,bZ.e,WH o _ (),0,o,n,qs,[],[],p,1,bZ,hB.q,bd,(),bf,(),hg,λgn sn H2 k2 am b3 bC bD bE aT=>?_]
  let cn:Kp (LO o) H H2:=⟨λb ob h z=>k2.kept b ob (aV.kept b ob h z) (λy=>z (by simp![LO,uG,uL,uV] at y⊢;rcases y with y|y;exact .inl y;exact .inr (.inl y))),aV.tk.trans k2.tk⟩
  let aN:∀b>plc gn sn,H b=none:=λb Z=>by
   let h3:=aT b Z;cases h:H b with
   |none=>rfl|some ob=>
    by_cases c:b=o.df
    .rw[c,f1,0] at h3
    .rw[k1.kept b ob h (aU b c),0] at h3
  let bh:∀b,b≠o.ls->b≠o.du->b∉ [o.ls,o.du]:=λb h1 h2 z=>by
   simp![uG,uL,uV] at z;rcases z with z|z
   .exact h1 z
   .exact h2 z
  refine bJ H2 [[(n,p)]:[]] [(gn,sn)] (lV [] (Vf n) (.bl v_)) [] fk1 (cn,[(0):e0.symm],am,b3,?_,?_,k2.kept _ _ bg (bh _ (U4 n2) (U4 n4)),1,1,(by show 0+_<=_;omega),k2.kept _ _ f1 (bh _ (U4 n3) (U4 n5)),d1.mono k2.tk,(),(bC,bD,bE,trivial),?_,⟨λb Z z=>(by rw[z,0]),trivial⟩,?_,(λq hq=>by rw[hq,0]),?_)
  .intro m';rw[zJ];by_cases c:m'=n
   .rw[A6 (by rw[c])]
    exact(uc (by rw[c];exact uj)).symm
   .rw[A4 (λz=>c (UB z)),qaf];exact(ui (λz=>c (Ac.mp z))).symm
  .have:=yB [] (Vf n:Key) (.bl v_);rw[vn] at this;omega
  .intro b Z;rcases Ae.mp Z with Z|Z
   .exact aN b Z
   .rw[Z,0]
  .intro q hq;rcases hq with hq|hq
   .rw[Ac.mp hq,0];exact EY hB.q hg
   .rw[hq,0]
  .exact List.nodup_cons.mpr ⟨(λz=>by rw[z,0]),U2⟩
end
namespace Sy
variable {Y:Sy}
end Sy
section
variable {qs qs':oj (Str×D)}
nonrec abbrev FP (qs:oj (Str×D)):Sy.Orc:=Sy.F (SyP qs)
nonrec abbrev itP (qs:oj (Str×D)) (k:Nat) (g:Gp):Gp:=Sy.it (SyP qs) (FP qs) k g
def Oj (g:Gp):Sy.step (SyP qs) (FP qs) g=if g.en.isSome=v_ then g else match yI g with
  |none=>oF qs g|some m=>match FP qs m with
   |some a=>yH g (a.getD .non)|none=>Dg g m:=rfl
abbrev Yc (p:Gp):oj D:=p.ra++runPG' p.run
where runPG':om (oj Rw×Rn)->oj D
 |none=> []|some (_,r)=>r.gs
abbrev GA (g:Gp):Prop:=g.run=U_->g.en=U_->g.ra= []
def qaj {rs:oj Rw}{own:Str}{gs:oj D}:∀(f:Nat) (B:Str->D) (p:Int) (n:Nat),(mQ rs own gs f B p n).gs=gs
 |0,B,p,n=>rfl|f+1,B,p,n=>by
  unfold mQ;by_cases c:GT.gt p (↑rs)
  .rw[A6 c]
  .rw[A4 c];cases Z:mJ own (Jx rs p) B p with|go U p'=>exact qaj f U p' (n+1)|stop e=>rfl
def IK {r:Rn}{a:D}:(mI rs own r a).gs=r.gs++ [-[XT r.th,a]]:=by
 unfold mI;split
 .rfl
 .exact qaj _ _ _ _
def Cj (h:g.run=U_)(d:D):Yc (ni g d)=g.ra/\GA (ni g d):=by
 unfold ni;split
 .rw[_,?_,λ_ z=>by rw[z,0]]
  show g.ra++Yc.runPG' g.run=g.ra;rw[h];exact vJ _
 .cases hd:Q8 d with
  |none=>
   rw[_,?_,λ_ z=>by rw[z,0]]
   show g.ra++Yc.runPG' g.run=g.ra;rw[h];exact vJ _
  |some rs=>
   rw[_,?_,λz=>by rw[z,0]]
   show g.ra++(R0 rs g.n).gs=g.ra;rw[show(R0 rs g.n).gs= [] from qaj _ _ _ _]
   exact vJ _
def WA (ha:GA g)(he:g.en=U_)(d:D):Yc (yH g d)=Yc g++ [-[Yu g,d]]/\GA (yH g d):=by
 unfold yH;cases U:g.run with
 |none=>
  let Z:=ha U he;erw[Cj (g:=(g.n,g.mb,[-[-[-"rule",g.mb],d]],U_,g.en)) rfl d,h1,h2];rw[_,h1.trans ?_,h2];let e1:Yc g= []:=by unfold Yc;rw[Z,U];rfl
  let e2:Yu g=-[-"rule",g.mb]:=by unfold Yu;rw[U]
  rw[e1,e2]
  rfl
 |some p=>
  erw[p,rs,r];rw[_,?_,λz=>by rw[z,0]]
  show g.ra++(mI rs g.n r d).gs=Yc g++_;let e2:Yu g=XT r.th:=by unfold Yu;rw[U]
  let e3:Yc g=g.ra++r.gs:=by unfold Yc;rw[U];rfl
  rw[IK,e2,e3,V6]
def Mx {d:D}(h:g0D m d=u_ g):GA g/\Yc g= []:=by
 unfold g0D at h;split at h
 .split at h
  .rw[h,0]
  .split at h
   .rw[h,0];exact[λ_ _=>rfl:1]
   .rw[h,0];erw[Cj (g:=(m,.non,[],U_,U_)) rfl _,h1,h2,<-[h2:h1]]
 .rw[h,0]
def D4 (Z:QT qs)(U:g0D m (qJ qs m)=U_):Zk ((oI (qJ qs m)).getD .non):=by
 by_cases hm:m>qs.map (·.1)
 .erw[Jq Z hm,hn,k,e,hd,h1,h2];rw[hd] at U⊢;unfold g0D at U;simp only at U;by_cases c:k="leaf"
  .exact .inr (h2 (by rw[c];decide+kernel)).2
  .rw[A4 c] at U;split at U<;>cases U
 .rw[yY hm];exact .inl rfl
def Aj (hq:QT qs){f:Sy.Orc}(hf:∀m a,f m=u_ a->Zk (a.getD .non))(h:GI g)(ha:GA g):GI (Sy.step (SyP qs) f g)/\GA (Sy.step (SyP qs) f g):=by
 let e:Sy.step (SyP qs) f g=if g.en.isSome=v_ then g else match yI g with
  |none=>oF qs g|some m=>match f m with
   |some a=>yH g (a.getD .non)|none=>Dg g m:=rfl
 rw[e];cases U:g.en with
 |some d=>exact[h:ha]|none=>
  simp![tM,A4 uf];cases Z:yI g with
  |none=>
   erw[wl (qs:=qs) h U Z,rs,r,k,z,_,_,hk,_,e];rw[_,NG hq h U Z];show GA (oF qs g);rw[e];exact(WA ha U _).2
  |some m=>
   simp only;cases hm:f m with
   |some a=>exact[AQ h U (hf m a hm):(WA ha U _).2]|none=>exact⟨NF h m,λ_ z=>by rw[z,0]⟩
def Sz (U:QT qs){f:Sy.Orc}(Z:∀m a,f m=u_ a->Zk (a.getD .non)):∀(k:Nat) {g:Gp},GI g->GA g->GI (Sy.it (SyP qs) f k g)/\GA (Sy.it (SyP qs) f k g)
 |0,g,h,ha=>[h:ha]|k+1,g,h,ha=>Sz U Z k (Aj U Z h ha).1 (Aj U Z h ha).2
def Acw (Z:QT qs):∀(k:Nat) (m:Str) (a:om D),Sy.Fh (SyP qs) k m=u_ a->Zk (a.getD .non)
 |0,m,a,h=>by
  cases U:(SyP qs).g0 m with
  |none=>rw[Sy.wR U,0] at h;exact D4 Z U|some g=>rw[Sy.KQ U,0] at h
 |k+1,m,a,h=>by
  cases U:(SyP qs).g0 m with
  |none=>rw[Sy.wR U,0] at h;exact D4 Z U|some g=>
   rw[Sy.Fh_run U] at h;let aa:=Sz Z (Acw Z k) 302 (EY Z U).1 (Mx U).1;cases hs:(SyP qs).said (Sy.it (SyP qs) (Sy.Fh (SyP qs) k) (SyP qs).M g) with
   |none=>rw[hs,0] at h|some v=>
    rw[hs,0] at h;exact .inr (DG aa.1 hs)
def AdL (U:QT qs)(m:Str)(a:om D)(h:FP qs m=u_ a):Zk (a.getD .non):=by
 erw[(Sy.F_iff (Q7 qs)).mp h,k,h,<-Acw U k m a h]
def NB (U:QT qs)(Z:g0D m (qJ qs m)=u_ g)(k:Nat):GI (itP qs k g)/\GA (itP qs k g):=Sz U (AdL U) k (EY U Z).1 (Mx Z).1
end
abbrev Dn (qs:oj (Str×D))(n:Str)(don:oj (Str×Gp)):Prop:=∃j,Sy.nx (Sy.S0 (SyP qs) n) j=[[]:don]
section
variable {qs:oj (Str×D)}{n:Str}{don don':oj (Str×Gp)}
def Ab1 (h:Dn qs n don)(k:Dn qs n don'):don=don':=by
 erw[h,i,hi];erw[k,j,U];let e:=Sy.nx_one (S:=Sy.S0 (SyP qs) n) (k:=i) (j:=j) (by rw[hi]) (by rw[U])
 rw[hi,U] at e;exact Aa Sy.Ss.don e
def Ip (U:g0D n (qJ qs n)=U_)(h:Dn qs n don):don= []:=by
 let e0:Sy.S0 (SyP qs) n=⟨[],[]⟩:=by unfold Sy.S0;rw[show(SyP qs).g0 n=U_ from U]
 exact Ab1 h [(0):e0]
def ST (U:g0D n (qJ qs n)=u_ g)(h:Dn qs n don):Sy.SOk (Y:=SyP qs) n [[]:don]:=by
 erw[h,j,Z];rw[<-Z];exact Sy.nx_ok (Q7 qs) (Sy.S0_ok U) j
def Iq (U:g0D n (qJ qs n)=u_ g)(h:Dn qs n don):(don.map (·.1)).getLast? =u_ n:=by
 rcases(ST U h).bot with b|⟨_,b⟩
 .rw[b,0]
 .exact b
def sK (h:Dn qs n don){p:Str×Gp}(U:p>don):∃s,g0D p.1 (qJ qs p.1)=u_ s/\p.2=Sy.it (SyP qs) (Sy.F (SyP qs)) 302 s:=by
 cases Z:g0D n (qJ qs n) with
 |none=>rw[Ip Z h,0] at U|some g=>exact(ST Z h).don p U
def SU (h:Dn qs n don):(don.map (·.1)).Nodup:=by
 cases U:g0D n (qJ qs n) with
 |none=>rw[Ip U h];exact U2|some g=>exact(ST U h).nd
end
abbrev II (p:Gp):D:= .tup (p.ra++oo p.run)
abbrev C4 (p:Gp):D:=p.en.getD .non
def Mz (p:Gp):xB p=-[II p,C4 p]:=rfl
def Aa5:∀{rk:oj (Key×V)}{don:oj (Str×Gp)},(rk.map (·.1)=don.map λp=>Vf p.1)->∃vs:oj (Str×V),rk=iJ vs/\vs.map (·.1)=don.map (·.1)/\vs.map (·.2)=rk.map (·.2)
 | [],[],_=>([],1,1,1)| [],_::_,h=>by rw[h,0]|_::_,[],h=>by rw[h,0]|(k,v)::r,p::l,h=>by
  injection h with h1 h2
  erw[Aa5 h2,vs,U,e2,e3];rw[_,(p.1,v)::vs,?_,?_,?_]
  .rw[X7,<-U];let h1:k=Vf p.1:=h1;rw[h1]
  .rw[uC,uC,e2]
  .rw[uC,uC,e3]
def Adm {p:Gp}(h:GI p)(U:p.en.isSome=v_):nD (II p)=v_/\dp (II p)<=31/\nD (C4 p)=v_/\dp (C4 p)<=20:=by
 let h1:nL (p.ra++oo p.run)=v_/\dpL (p.ra++oo p.run)<=30:=by
  cases hr:p.run with
  |none=>exact⟨BN h.ra.1 rfl,AU 30 h.ra.2.1 (by simp[dpL,oo])⟩|some q=>
   erw[q,rs,r];let h2:=(h.run rs r hr).2.1.gs;exact[BN h.ra.1 h2.1:AU 30 h.ra.2.1 h2.2.1]
 refine⟨h1.1,by show 1+_<=31;omega,?_⟩
 unfold C4;cases Z:p.en with
 |none=>rw[Z,0] at U|some d=>
  show nD d=v_/\dp d<=20;rcases h.en d Z with⟨z,rfl⟩|⟨x,rfl,hx⟩|⟨z,rfl⟩
  .exact⟨1,by show dp (-[-"fault",!z])<=20;simp[dp,dpL]⟩
  .have:=xR hx;rw[_,?_,?_]
   .simp![nD,nL,xS (yp hx),Uf]
   .simp![dp,dpL];omega
  .exact⟨1,by simp[dp,dpL]⟩
variable {don:oj (Str×Gp)}
def Ab0 {n:Str}(h:Dn qs n don)(hm:g0D m (qJ qs m)=U_\/m>don.map (·.1)):Sy.yet #[Y,[],don] m=u_ (FP qs m):=by
 cases Z:(SyP qs).g0 m with
 |none=>
  unfold Sy.yet;rw[A4 (by intro z;rw[z,0]),Z]
  show u_ (u_ ((SyP qs).once m))=u_ (FP qs m);rw[show FP qs m=_ from Sy.F_once (Q7 qs) Z]
 |some g=>
  rcases hm with hm|hm
  .rw[show(SyP qs).g0 m=U_ from hm,0] at Z
  .erw[Af.mp hm,[U,p],hp,rfl];let hd:Sy.YV (Y:=SyP qs) don U=u_ p:=by
    let aa:=SU h;unfold Sy.YV;have:(don.find? λq=>decide (q.1=U))=u_ (U,p):=by
     clear h hm
     induction don with
     |nil=>rw[hp,0]|cons q r ih=>
      rw[uC,U7] at aa;rcases Ab.mp hp with rfl|hp
      .rw[vd,uc rfl]
      .have ac:q.1≠U:=λz=>aa.1 (by rw[z];exact Af.mpr [_:hp:1])
       rw[vd,ui ac];exact ih hp aa.2
    let e2:(Ra (λq:Str×Gp=>decide (q.1=U)) don).map (·.2)=u_ p:=by rw[this];rfl
    exact e2
   erw[sK h hp,s,e2,e3];let e2:(SyP qs).g0 U=u_ s:=e2;rw[Z,0] at e2;unfold Sy.yet;rw[A4 (by intro z;rw[z,0]),Z]
   show(Sy.YV (Y:=SyP qs) don U).map (λg=>((SyP qs).said g).map u_)=u_ (FP qs U);rw[hd];show u_ (((SyP qs).said p).map u_)=u_ (FP qs U);rw[show FP qs U=_ from Sy.F_run (Q7 qs) Z]
   let e3:p=Sy.it (SyP qs) (Sy.F (SyP qs)) 302 g:=e3;rw[e3]
   rfl
end K43
namespace K43
open PySem L2 PyProof.Rows
structure AdA (CO CP:o3)(H0 H:Hp)(qs:oj (Str×D))(n:Str)(o:Oc)(rk uk fk:oj (Key×V))(don:oj (Str×Gp)):Prop where
 sm:ic H0 H
 oa:OAt CO CP H o qs
 dr:H o.dr=u_ (.dK rk)
 ks:rk.map (·.1)=don.map λp=>Vf p.1
 vs:L2.IsL H (don.map λp=>xB p.2) (rk.map (·.2))
 du:H o.du=u_ (.dK uk)
 uo:S7 #[Y,[],don] uk
 df:H o.df=u_ (.dK fk)
 fd:C5 H #[Y,[],don] fk
 fl:↑fk<=20101
 dn:Dn qs n don
 sg:SGI #[Y,[],don]
 gi:∀p>don,GI p.2/\p.2.en.isSome=v_
 len:↑don<=20001
 new:H0 o.x=U_/\H0 o.dr=U_/\H0 o.du=U_/\H0 o.df=U_
 ne:o.dr≠o.df/\o.du≠o.df
inductive AaV (bn:Addr):Sp
 |mk (z:Str)(_:vs= [!z])(hz:↑z<=1000)(_:nm z=v_->∀H',ic H H'->Q .non H')(_:nm z=Vd->∀(e:Addr)(H':Hp),ic H H'->E_ (-e) (u_ bn) H')
inductive OO:Sp
 |mk (t:_)(z:_)(_:vs= [-t])(_:H t=u_ (-[!z]))(_:nm z=v_)(_:∀H',ic H H'->Q .non H')
inductive OA (CO CP:Addr):Sp
 |mk (px t:Addr)(n:Str)(qs:List (Str×D))(_:vs= [-px,-t])(_:H t=u_ (-[!n]))(_:nm n=v_)(_:ym CP H px qs)(_:QT qs)(_:∀H' o rk uk fk don,o.px=px->AdA CO CP H H' qs n o rk uk fk don->↑fk<=20001->Q (-o.x) H')
inductive OM (CO CP:Addr):Sp
 |mk (px:Addr)(n:Str)(qs:List (Str×D))(_:vs= [-px,!n])(_:nm n=v_)(_:ym CP H px qs)(_:QT qs)(_:∀H' o rk uk fk don,o.px=px->AdA CO CP H H' qs n o rk uk fk don->↑fk<=20001->Q (-o.x) H')
variable {qs:oj (Str×D)}{don:oj (Str×Gp)}
def Io {n:Str}(h:Dn qs n don):g0D n (qJ qs n)=U_\/n>don.map (·.1):=by
 cases U:g0D n (qJ qs n) with
 |none=>exact .inl rfl|some g=>exact .inr (RD (Iq U h))
section
variable {P:o9}{w:og}{K:o0}{mg:Str->om o6}{base:o8}{a:Ad}{g:Ga}
def Nm (T:Tx K mg a)(C:Fx K w mg g a):FnOk P w K mg base (CX1 P w) 2 a.ZI a.ZA ["name"] (AaV g.bn):=by
 let U:=#[Xs,T];refine T.iG.F.okX KO () (λ_ _ _ _ H _ Q E Z h=>?_)
 erw[h,z,rfl,aa,k1,k2];rw[3,%[|#[qI,#[Qr,#[Qd,#[qp,16,U,Z.mono (),_,T.iH.m,T.iH.F.kp,T.iH.b,.nil,qz,#v[pv 0],_,_,_]]],%[|#[KM,22,C.x_BadName,_,C.m_BadName,ql,_,_]],qr]]]
 rw[0,!z,!z,1,Qy (),λH1 s1=>[0:?_]]
 let e:mK (!z)=nm z:=rfl;rw[e];cases hn:nm z with
 |false=>exact ky [1:λe=>k2 hn e H1 s1]|true=>exact iX (k1 hn H1 s1)
def PV:#[C,3,a.zG,a.zf,["names"],OO]:=by
 let JT:=#[Nm,T,C];rw[9,T.mz,xI]
 erw[h,t,z,rfl,Z,hz,k];rw[3,%[|#[y8,#[Kb,pv 0],#[qM,(1),xI.nd],%[|#[qW,#[qp,16,JT,hr.mono (),_,T.iG.m,T.iG.F.kp,T.iG.b,.nil,DR,#v[pv 1],_,_,_]]]]]]
 rw[0,t,1,[_:SqT.of Z]];refine Zs (xs:= [!z]) (λi σ H'=>(∃u,σ= [u_ (-t),u])/\ic H H') [⟨0⟩:ic.refl _] (λi σ H' _ h=>SqT.of (h.2 _ _ Z)) ?_ ?_
 .rintro i x σ H' hx ⟨⟨u,rfl⟩,s1⟩;let U:x= !z:=by
   cases i with
   |zero=>exact(uN hx).symm|succ i=>rw[hx,0]
  subst U;exact(0,z,1,by have:=Xo hz;omega,λ_ H2 s2=>[⟨0⟩:s1.trans s2],λz=>A8 (hz.symm.trans z) Bool.noConfusion)
 .rintro σ H' ⟨_,s1⟩;exact k H' s1
def PF:#[C,14,a.ZR,a.ZN,["project","names"],(OA a.qt a.qK)]:=by
 let au:=#[PV,T,C];let Zd:=#[LM,T];let Jj:=#[Pr,T,C];rw[9,T.lm,Ji]
 erw[h,px,t,n,qs,rfl,ht,hn,hP,hq,k1];rw[3,%[#[qW,#[qp,au,T.mz,#v[pv 1]]],#[qE,(2),Ji.nd,#[XN,T.M_PlainOrder,Zd,T.m_PlainOrder,T.lT,qz,#v[pv 0]]],#[y8,#[Kb,pv 1],#[qM,(3),Ji.nd],%[|#[qW,#[Qn,pv 2,T.qA,T.iR,Jj,#v[pv 3]]]]]|#[qo,pv 2]]]
 rw[8,N1,q1]
 rw[0,t,n,1,ht,hn,λH1 s1=>q1 _ _ ?_];rw[8,N2,q2]
 rw[0,λx dx hx aw nx=>?_];let s0:ic H1 (upd (upd H1 dx (.own x)) x (.ins a.qt dx [])):=λb o h=>by rwa[qi (qk h hx),qi (qk h aw)]
 rw[_,x,dx,px,1,qg,λo H2 eo ax ay kp tk f1 f2 f3 f4 nd ad ae af ag ah=>[1:q2 _ _ ?_]];rw[8,N3,q3];let aA:ic H1 H2:=λb ob h=>kp b ob (s0 b ob h) (qk h hx);let U:=s1.trans aA;let ak:=U _ _ ht;subst eo ax ay;let hB:Bs a.qt a.qK H2 o qs:=([ad:hP.same U],[_:ae],[_:af],[_:ag],[_:ah],nd,hq)
 rw[0,t,1,[_:SqT.of ak]];let fr:∀b,upd (upd H1 o.dx (.own o.x)) o.x (.ins a.qt o.dx []) b=U_->H b=none:=λb Z=>by
  cases e:H b with
  |none=>rfl|some ob=>rw[s0 b ob (s1 b ob e),0] at Z
 refine_lift let J_:Nat->L2.St->Hp->Prop:=λi σ H'=>(∃u,σ= [u_ (-o.px),u_ (-t),u_ (-o.x),u])/\((i=0/\H'=H2)\/(i=1/\∃rk uk fk don,AdA a.qt a.qK H H' qs n o rk uk fk don/\↑fk<=20001));?_
 refine Zs (xs:= [!n]) J_ [⟨0⟩:.inl [1:1]] (λi σ H' _ h=>?_) ?_ ?_
 .rcases h.2 with⟨_,rfl⟩|⟨_,rk,uk,fk,don,h,_⟩
  .exact SqT.of ak
  .exact SqT.of (h.sm _ _ ht)
 .rintro i x' σ H' al ⟨⟨u,rfl⟩,h⟩;let aa:x'= .str n/\i=0:=by
   cases i with
   |zero=>exact[(uN al).symm:1]|succ i=>rw[al,0]
  erw[aa,rfl,rfl];rcases h with⟨_,rfl⟩|⟨z,_⟩
  .rw[0,o.x,o.dx,0,ad,WH o _ (),0,o,qs,n,1,hB,ae,af,ag,ah,λH3 rk uk fk don j am aB ao aC aD aE k3 aF ap aG aH aI aq=>?_]
   let out:∀b,H b≠U_->b∉LO o:=λb Z z=>by
    simp![LO,uG,uL,uV] at z;rcases z with rfl|rfl|rfl|rfl
    .exact Z (fr _ f1)
    .exact Z (fr _ f2)
    .exact Z (fr _ f3)
    .exact Z (fr _ f4)
   let ac:=nd;simp![U7,uG,uL,uV,Va,U2,and_true,V7] at ac;let aa:H o.x=none:=by
    cases e:H o.x with
    |none=>rfl|some ob=>rw[s1 _ _ e,0] at hx
   exact⟨⟨0⟩,.inr (1,rk,uk,fk,don,(λb ob e=>k3.kept b ob (U b ob e) (out b (by rw[e];intro z;rw[z,0])),hB.at k3,ap,aG,aH,am,aB,ao,aC,(),[j:aF],aE,aI,aq,(aa,fr _ f3,fr _ f2,fr _ f4),[ac.2.2:ac.2.1.2]),aD)⟩
  .rw[z,0]
 .rintro σ H' ⟨⟨u,rfl⟩,h⟩;rcases h with⟨z,_⟩|⟨_,rk,uk,fk,don,h,hl⟩
  .rw[z,0]
  .exact q3 _ _ [0:k1 H' o rk uk fk don rfl h hl]
def AB:#[C,15,a.Z1,a.ZO,["project","name"],(OM a.qt a.qK)]:=by
 let U:=#[PF,T,C];rw[9,T.iK,qai,Z]
 erw[h,px,n,qs,rfl,hn,hP,hq,k1];let hs:=uD;rw[3,%[|#[qo,#[qp,16,U,Z.mono (),_,T.lm.m,T.lm.F.kp,T.lm.b,.nil,qz,#v[pv 0,#[qD,#v[pv 1]]],_,_,_]]]]
 rw[0,0,(sml rfl),λt ht=>?_];let s1:=qf ht (-[V.str n]);exact(px,t,n,qs,1,qg,hn,hP.same s1,hq,λH' o rk uk fk don e h hl=>k1 H' o rk uk fk don e (s1.trans h.sm,h.oa,h.dr,h.ks,h.vs,h.du,h.uo,h.df,h.fd,h.fl,h.dn,h.sg,h.gi,h.len,(s1.free h.new.1,s1.free h.new.2.1,s1.free h.new.2.2.1,s1.free h.new.2.2.2),h.ne) hl)
end
def MK (p:Gp):II p= .tup (Yc p):=by
 unfold II Yc;cases p.run with
 |none=>rfl|some q=>rfl
abbrev Aap (qs:oj (Str×D))(x:D):Prop:=∃kd z a,x= .tup [-[!kd,!z],a]/\↑z<=1000/\((mZ kd=v_/\a=Jz qs kd z)\/(mZ kd=Vd/\(kd="thing"\/kd="rule")/\∃y,FP qs z=u_ y/\a=y.getD .non))
variable {g:Gp}{m:Str}
set_option tactic.hygienic true in
def NZ (h:GI g)(U:yI g=u_ m):∃kd,Yu g= .tup [!kd,!m]/\mZ kd=false:=by
 unfold yI at U;split at U
 .rename_i k z e
  by_cases c:mZ k=v_
  .rw[A6 c,0] at U
  .rw[A4 c,0] at U;exact⟨k,e,by simpa using c⟩
 .rw[U,0]
variable {kd:Str}
def Aaq (h:GI g)(he:g.en=U_)(Z:Yu g=-[!kd,!m]):↑m<=1000:=by
 unfold Yu at Z;cases hr:g.run with
 |none=>
  rw[hr] at Z;erw[h.no hr he,z,hz,hn];simp![hz] at Z;rw[Z,0];have:=Xo hn;omega
 |some p=>
  erw[p,rs,r];rw[hr] at Z;erw[h.run rs r hr,_,_,ht,U];let U:=U he;rcases ht with⟨z,e⟩|⟨e1,e,_⟩|⟨u,z,e,hT,_⟩
  .rw[e] at U;exact A8 (show decide (("fault":Str)="asks")=v_ from U) ()
  .rw[e] at U;exact A8 (show decide (("said":Str)="asks")=v_ from U) ()
  .simp![e] at Z;let Z:(D.tup [!u,!z])=-[!kd,!m]:=Z;rw[Z,0];have:=Y3 hT;have:↑m<=600:=this;omega
def AcG (h:GI g)(he:g.en=U_)(U:Yu g=-[!kd,!m])(hk:mZ kd=Vd):kd="thing"\/kd="rule":=by
 unfold Yu at U;cases hr:g.run with
 |none=>
  rw[hr] at U;let U:D.tup [-"rule",g.mb]=-[!kd,!m]:=U;injection U with U
  injection U with U _
  injection U with U
  exact .inr U.symm
 |some p=>
  erw[p,rs,r];rw[hr] at U;let U:XT r.th=-[!kd,!m]:=U;let aa:=(h.run rs r hr).2.2;let Z:=aa.2 he;rcases aa.1 with⟨z,e1⟩|⟨e0,e1,_⟩|⟨u,z,e1,_,hu⟩
  .rw[e1] at Z;exact A8 (show decide (("fault":Str)="asks")=v_ from Z) ()
  .rw[e1] at Z;exact A8 (show decide (("said":Str)="asks")=v_ from Z) ()
  .rw[e1] at U;let U:D.tup [!u,!z]=-[!kd,!m]:=U;rw[U,0];rcases hu with rfl|⟨rfl|rfl,_⟩
   .exact A8 hk ()
   .exact .inl rfl
   .exact A8 hk ()
section
variable {qs:oj (Str×D)}
def AaQ (hq:QT qs)(h:GI g)(ha:GA g)(hF:∀x>Yc g,Aap qs x):∀x>Yc (Sy.step (SyP qs) (FP qs) g),Aap qs x:=by
 let aa:∀{d:D},g.en=U_->(∀kd z,Yu g= .tup [!kd,!z]->(mZ kd=v_/\d=Jz qs kd z)\/(mZ kd=Vd/\(kd="thing"\/kd="rule")/\∃y,FP qs z=u_ y/\d=y.getD .non))->(∃kd z,Yu g=-[!kd,!z])->∀x>Yc (yH g d),Aap qs x:=by
  intro d U h1 ⟨kd,z,e⟩ x Z;rw[(WA ha U d).1] at Z;rcases Ae.mp Z with Z|Z
  .exact hF x Z
  .rw[Ac.mp Z,0];exact(kd,z,d,by rw[e],Aaq h U e,h1 kd z e)
 rw[Oj];cases U:g.en with
 |some d=>exact hF|none=>
  simp![tM,A4 uf];cases hw:yI g with
  |none=>
   erw[wl (qs:=qs) h U hw,rs,r,k,z,ac,ad,hk,_,e];show∀x>Yc (oF qs g),_;rw[e];let hp:Yu g=-[!k,!z]:=by
    unfold Yu;rw[ac];show XT r.th=_;rw[ad]
    rfl
   exact aa U (λkd y e2=>by rw[hp,0] at e2;exact .inl [hk:1]) [k:z:hp]
  |some m=>
   simp only;erw[NZ h hw,kd,hp,hk];cases ae:FP qs m with
   |some a=>exact aa U (λaf y e2=>by rw[hp,0] at e2;exact .inr (hk,AcG h U hp hk,a,ae,1)) [kd:m:hp]|none=>exact hF
def Ad1 (U:QT qs):∀(k:Nat) {g:Gp},GI g->GA g->(∀x>Yc g,Aap qs x)->∀x>Yc (itP qs k g),Aap qs x
 |0,g,h,ha,t=>t|k+1,g,h,ha,t=>by
  erw[Aj U (AdL U) h ha,h1,h2,<-Ad1 U k h1 h2 (AaQ U h ha t)]
def Ab6 (Z:QT qs)(U:g0D m (qJ qs m)=u_ g)(k:Nat):∀x>Yc (itP qs k g),Aap qs x:=
 Ad1 Z k (EY Z U).1 (Mx U).1 (λx hx=>by rw[(Mx U).2,0] at hx)
abbrev Ck (qs:oj (Str×D)) (m:Str):D:=match g0D m (qJ qs m) with
 |none=>yZ (qJ qs m)|some g=>yb ((itP qs 302 g).en.getD .non)
def MB {n:Str}{p:Gp}(h:Dn qs n don)(Z:(m,p)>don):Sy.YV (Y:=SyP qs) don m=u_ p:=by
 let U:=SU h;unfold Sy.YV;have:(don.find? λq=>decide (q.1=m))=u_ (m,p):=by
  clear h
  induction don with
  |nil=>rw[Z,0]|cons q r ih=>
   rw[uC,U7] at U;rcases Ab.mp Z with rfl|Z
   .rw[vd,uc rfl]
   .let aa:q.1≠m:=λz=>U.1 (by rw[z];exact Af.mpr [_:Z:1])
    rw[vd,ui aa];exact ih Z U.2
 let e2:(Ra (λq:Str×Gp=>decide (q.1=m)) don).map (·.2)=u_ p:=by rw[this];rfl
 exact e2
def Adx {n:Str}(h:Dn qs n don)(hm:g0D m (qJ qs m)=U_\/m>don.map (·.1)):Acb qs don m=Ck qs m:=by
 unfold Acb Ck;cases Z:g0D m (qJ qs m) with
 |none=>rfl|some g=>
  rcases hm with hm|hm
  .rw[Z,0] at hm
  .erw[Af.mp hm,[m',p],hp,rfl];erw[sK h hp,s,U,e2];let U:g0D m' (qJ qs m')=u_ s:=U;rw[Z,0] at U;let e2:p=itP qs 302 g:=e2;simp![MB h hp];rw[<-e2]
   rfl
def WR {s:Gp}(U:g0D m (qJ qs m)=u_ s):(itP qs 302 s).en.isSome=true:=Sy.it_end (Y:=SyP qs) (Q7 qs) 302 s ((Q7 qs).l0 m s U)
end
inductive Ln (CP:Addr):Sp
 |mk (px:Addr)(n:Str)(qs:List (Str×D))(gp:Gp)(_:vs= [-px,!n])(_:nm n=v_)(_:ym CP H px qs)(_:QT qs)(_:g0D n (qJ qs n)=u_ gp)(_:∀v H',ic H H'->GI (itP qs 302 gp)->(itP qs 302 gp).en.isSome=v_->Is H' (xB (itP qs 302 gp)) v->Q v H')
inductive Lu (CP:Addr):Sp
 |mk (px:Addr)(n:Str)(qs:List (Str×D))(_:vs= [-px,!n])(_:nm n=v_)(_:ym CP H px qs)(_:QT qs)(_:∀v H',ic H H'->Is H' (Ck qs n) v->nrg (Ck qs n)->Q v H')
section
variable {P:o9}{w:og}{K:o0}{mg:Str->om o6}{base:o8}{a:Ad}{g:Ga}
def LX:#[C,16,a.kQ,a.kf,["project","name"],(Ln a.qK)]:=by
 let Yw:=#[AB,T,C];refine T.nh.F.ok WE () (λ_ _ _ _ H vs Q E hr h=>?_)
 erw[h,px,n,qs,gp,rfl,hn,hP,hq,hg,k];rw[3,%[#[qE,(2),WE.nd,#[qp,Yw,T.iK,#v[pv 0,pv 1]]],#[qI,#[wt,#[oB,5,QO hr,pv 1,#[qQ,5,pv 2,rfl]]],%[|j9],qr]|#[qo,#[QC,#[qQ,5,pv 2,rfl],pv 1]]]]
 rw[8,N1,q1]
 rw[0,0,px,n,qs,1,hn,hP,hq,λH' o rk uk fk don _ h _=>q1 _ _ ?_];erw[Aa5 h.ks,vs,e1,e2,e3];let hk:vs.map (·.1)=(don.map λq=>(q.1,xB q.2)).map (·.1):=by rw[e2,uP];rfl
 let hi:L2.IsL H' ((don.map λq=>(q.1,xB q.2)).map (·.2)) (vs.map (·.2)):=by rw[e3,uP];exact h.vs
 let aa:=h.dr;rw[e1] at aa;let he:=h.oa.e;rw[8,N2,q2]
 rw[0,0,o.x,_,o.dx,_,0,he,T.qA,T.Qj,L8 o,o.dr,0,mP.k (k:=Vf n) aa,0];let hl:=Iq hg h.dn;let Z:=RD hl;erw[Af.mp Z,[m,p],ac,rfl];let ad:m>(don.map λq=>(q.1,xB q.2)).map (·.1):=by rwa[uP]
 erw[CL hk hi ad,l1,l2];let hd:qJ (don.map λq=>(q.1,xB q.2)) m=xB p:=NR (by rw[uP];exact SU h.dn) (Af.mpr [(m,p):ac:1])
 rw[hd] at l2;erw[sK h.dn ac,s0,f1,f2];let f1:g0D m (qJ qs m)=u_ s0:=f1;let hg:g0D m (qJ qs m)=u_ gp:=hg;rw[hg,0] at f1;let f2:p=itP qs 302 gp:=f2;let U:=h.gi _ ac;let U:GI p/\p.en.isSome=true:=U;rw[l1];refine iQ rfl (q2 _ _ ?_)
 rw[0,o.x,_,o.dx,_,0,he,T.qA,T.Qj,L8 o,0,o.dr,0,(by rw[<-l1];exact mP.k (k:=Vf m) aa)]
 rw[f2] at l2 U;exact k _ H' h.sm U.1 U.2 l2
def L5:#[C,16,a.ww,a.WQ,["project","name"],(Lu a.qK)]:=by
 let Yw:=#[AB,T,C];let Qf:=#[D5,T];rw[9,T.mX,nZ]
 erw[h,px,n,qs,rfl,hn,hP,hq,k];rw[3,%[|#[qo,#[Qn,#[qp,Yw,T.iK,#v[pv 0,pv 1]],T.qA,T.im,Qf,#v[pv 1]]]]]
 rw[0,0,px,n,qs,1,hn,hP,hq,λH1 o rk uk fk don _ U hl=>?_]
 rw[_,o.x,o.dx,0,U.oa.e,WH o _ (),0,o,n,qs,#[Y,[],don],uk,fk,1,U.oa,hq,U.sg,U.du,U.uo,U.df,U.fd,(),(λp hp=>(U.gi p hp).2),λv H2 ac k2 f2 d2 l2 _ y2=>?_]
 unfold Bc at y2;rw[Ab0 U.dn (Io U.dn)] at y2;erw[y2,d,hd,ha,hg];obtain⟨aa,Z⟩:=hg (λz=>by rw[z,0])
 let Z:d=Ck qs n:=Z.trans (Adx U.dn (Io U.dn));rw[Z] at hd aa;refine k v H2 (λb ob e=>k2.kept b ob (U.sm b ob e) (λz=>?_)) hd aa;rw[Ac.mp z,U.new.2.2.2,0] at e
inductive AaT (CP:Addr):Sp
 |mk (px:Addr)(n:Str)(qs:List (Str×D))(_:vs= [-px,!n])(_:nm n=v_)(_:ym CP H px qs)(_:QT qs)(_:∀t H' don,ic H H'->H' t=u_ (.tup (don.map λp=>V.str p.1))->Dn qs n don->↑don<=20001->(∀p>don,GI p.2/\p.2.en.isSome=v_)->Q (-t) H')
variable {x:Str}
def AbZ (U:QT qs){n:Str}(h:Dn qs n don)(Z:x>don.map (·.1)):nm x=true:=by
 erw[Af.mp Z,[m,p],hp,rfl];erw[sK h hp,s,e,_,<-U.1.1.1 _ ((Q7 qs).gn _ s e)]
def Abs:#[C,16,a.f_met_by,a.d_met_by,["project","name"],(AaT a.qK)]:=by
 let U:=#[AB,T,C];rw[9,T.sE,DD,Z]
 erw[h,px,n,qs,rfl,hn,hP,hq,k];rw[3,%[|#[qo,#[Qa,#[AZ,1,rfl],T.QW,vH,#v[#[qQ,5,#[qp,16,U,Z.mono (),_,T.iK.m,T.iK.F.kp,T.iK.b,.nil,qz,#v[pv 0,pv 1],_,_,_],rfl]]]]]]
 rw[0,0,px,n,qs,1,hn,hP,hq,λH' o rk uk fk don _ h hl=>?_]
 rw[_,o.x,_,o.dx,_,0,h.oa.e,T.qA,T.Qj,L8 o,o.dr,rk,1,.inl h.dr,λt ht=>?_];refine k t _ don (h.sm.trans (qf ht _)) ?_ h.dn h.len h.gi;rw[qg];let e:(rk.map λp=>kV p.1)=don.map λp=>V.str p.1:=by
  have:=Aa (Tt kV) h.ks;rwa[uP,uP] at this
 rw[e]
end
def Be {r:Rn}{u:Str}{d:D}(h:r.th=-[-"asks",-[!u,d]]):QH r.th=true:=by
 rw[h];exact(show decide (("asks":Str)="asks")=v_ by decide+kernel)
abbrev Hs (src:D)(pre:oj D)(rl:D):Prop:=(src= .tup [-"rule",rl]/\pre= [])\/∃z:Str,src= .tup [-"made",!z]/\pre= [-[-[-"rule",!z],rl]]
abbrev Dh (z:Str):D:=-[-"stuck",!z]
abbrev Aec (z:Str):D:=-[-"asks",-[-"thing",!z]]
inductive CG (rs:List Rw)(own:Str):Rn->List D->Rn->Prop
 |nil (r:Rn):CG rs own r [] r
 |cons {r r':Rn}{a:D}{gs:List D}(u z:Str)(h1:r.th=-[-"asks",-[!u,!z]])(h2:Bb u a=v_)(h3:CG rs own (mI rs own r a) gs r'):CG rs own r (.tup [-[!u,!z],a]::gs) r'
abbrev AdM (r:Rn)(en:D):Prop:=(en=r.th/\QH r.th=Vd/\∀z,en≠Dh z)\/∃z,en=Dh z/\r.th=Aec z
inductive GoR (own:Str)(rl:D)(gs:List D)(en:D):Prop
 |lack (h0:jN rl=v_)(h1:gs= [])(h2:en=flt "lack"):GoR own rl gs en
 |bad (h0:jN rl=Vd)(h1:Q8 rl=U_)(h2:gs= [])(h3:en=flt "rule"):GoR own rl gs en
 |run (rs:List Rw)(r:Rn)(h0:jN rl=Vd)(h1:Q8 rl=u_ rs)(h3:CG rs own (R0 rs own) gs r)(h5:AdM r en):GoR own rl gs en
inductive sZ (src:D)(own:Str)(as:List D)(en:D):Prop
 |wait (z:Str)(h0:src=-[-"made",!z])(h1:as= [])(h2:en=Dh z):sZ src own as en
 |go (pre gs:List D)(rl:D)(h0:Hs src pre rl)(h1:as=pre++gs)(h2:GoR own rl gs en):sZ src own as en
abbrev TrA (qs:oj (Str×D))(f:Sy.Orc)(x:D):Prop:=∃(kd z:Str) (an:D),x= .tup [-[!kd,!z],an]/\((mZ kd=v_/\an=Jz qs kd z)\/(mZ kd=Vd/\∃b,f z=u_ b/\an=b.getD .non))
section
variable {qs:oj (Str×D)}{f:Sy.Orc}
nonrec abbrev Gr (m:Str)(mb:D)(ra:oj D)(rs:oj Rw)(r:Rn):Gp:=(m,mb,ra,u_ (rs,r),nA r)
def qaA (g:Gp):Sy.step (SyP qs) f g=if g.en.isSome=v_ then g else match yI g with
  |none=>oF qs g|some m=>match f m with
   |some b=>yH g (b.getD .non)|none=>Dg g m:=rfl
def kO {r:Rn}{d:D}(h:r.th=-[-"asks",d]):QH r.th=true:=by rw[h];exact(show decide (("asks":Str)="asks")=v_ by decide+kernel)
def Ab4 {m:Str}{mb:D}{ra:oj D}{rs:oj Rw}:∀{gs:oj D}{r r':Rn},CG rs m r gs r'->(∀x>gs,TrA qs f x)->∃k,Sy.it (SyP qs) f k (Gr m mb ra rs r)=Gr m mb ra rs r'
 |_,_,_,.nil r,_=>[(0):1]|_,r,r',.cons (a:=a) (gs:=gs) u z h1 h2 h3,ht=>by
  obtain⟨k,hk⟩:=Ab4 (mb:=mb) (ra:=ra) h3 λx hx=>ht x (uh _ hx);rw[_,k+1];show Sy.it (SyP qs) f k (Sy.step (SyP qs) f (Gr m mb ra rs r))=_;let hw:=kO h1;let e0:(Gr m mb ra rs r).en=none:=by show nA r=U_;unfold nA;rw[A6 hw]
  let e1:Yu (Gr m mb ra rs r)=-[!u,!z]:=by show XT r.th=_;rw[h1];rfl
  erw[ht _ uj,kd,z',an,e2,tr];injection e2 with e2
  injection e2 with e3 e4
  injection e3 with e3
  injection e3 with e5 U
  injection e5 with e5
  injection U with U _
  injection U with U
  injection e4 with e4 _
  subst e5 U e4;let Z:∀b:D,yH (Gr m mb ra rs r) b=Gr m mb ra rs (mI rs m r b):=λb=>rfl;let hs:Sy.step (SyP qs) f (Gr m mb ra rs r)=Gr m mb ra rs (mI rs m r a):=by
   rw[qaA,e0,A4 (by simp)]
   rcases tr with⟨hn,e⟩|⟨hn,b,e,e'⟩
   .have:yI (Gr m mb ra rs r)=none:=by unfold yI;rw[e1];simp![hn,Vc]
    rw[this];show oF qs (Gr m mb ra rs r)=_;unfold oF;rw[e1];show yH _ (Jz qs u z)=_;rw[<-e,Z]
   .have:yI (Gr m mb ra rs r)=u_ z:=by unfold yI;rw[e1];simp![hn];rfl
    rw[this];show(match f z with|some b=>yH (Gr m mb ra rs r) (b.getD .non)|none=>Dg (Gr m mb ra rs r) z)=_
    rw[e];show yH _ (b.getD .non)=_;rw[<-e',Z]
  rw[hs];exact hk
abbrev AtE (g:Gp)(as:oj D)(en:D):Prop:=Yc g=as/\((g.en=u_ en/\∀z,en≠Dh z)\/∃z,en=Dh z/\g.en=U_/\yI g=u_ z)
variable {rs:oj Rw}{en:D}
def Adk {mb:D}{ra:oj D}{r:Rn}(h:AdM r en):AtE (Gr m mb ra rs r) (ra++r.gs) en:=by
 rw[1];rcases h with⟨e,Z,hn⟩|⟨z,e,U⟩
 .exact .inl ⟨by show nA r=_;unfold nA;rw[Z,e];rfl,hn⟩
 .refine .inr (z,e,?_,?_)
  .show nA r=U_;unfold nA;rw[A6 (kO U)]
  .show yI _=_;unfold yI;rw[show Yu (Gr m mb ra rs r)= .tup [-"thing",!z] by show XT r.th=_;rw[U];rfl]
   exact A4 ()
def Ab5 {rs:oj Rw}{own:Str}:∀{gs:oj D}{r r':Rn},CG rs own r gs r'->r'.gs=r.gs++gs
 |_,_,_,.nil r=>by simp|_,r,_,.cons (a:=a) u z h1 h2 h3=>by
  rw[Ab5 h3,IK,h1];simp[XT]
def nJ (m z:Str):yI (m,!z,[],U_,U_)=u_ z:=by
 show(if mZ "rule"=v_ then U_ else u_ z)=u_ z
 exact A4 ()
def NL (w z:Str):flt w≠Dh z:=λh=>by
 injection h with h
 injection h with h _
 injection h with h
 revert h
 decide+kernel
def NT {mb:D}{ra gs:oj D}{rl:D}(U:GoR m rl gs en)(Z:∀x>gs,TrA qs f x):∃k,AtE (Sy.it (SyP qs) f k (ni (m,mb,ra,U_,U_) rl)) (ra++gs) en:=by
 cases U with
 |lack h0 h1 h2=>
  rw[_,(0)];show AtE (ni _ _) _ _;unfold ni;rw[A6 h0,h1,h2];exact[1:.inl [1:NL _]]
 |bad h0 h1 h2 h3=>
  rw[_,(0)];show AtE (ni _ _) _ _;unfold ni;rw[A4 (by rw[h0];simp),h1,h2,h3]
  exact[1:.inl [1:NL _]]
 |run rs r h0 h1 h3 h5=>
  erw[Ab4 (mb:=mb) (ra:=ra) h3 Z,k,hk];let e:ni (m,mb,ra,U_,U_) rl=Gr m mb ra rs (R0 rs m):=by
   unfold ni;rw[A4 (by rw[h0];simp),h1]
  rw[_,k];rw[e,hk];have:=Ab5 h3;rw[show(R0 rs m).gs= [] from qaj _ _ _ _,tJ] at this
  rw[<-this];exact Adk h5
variable {as:oj D}
def AS {src:D}(h0:g0D m src=u_ g)(hf:sZ src m as en)(ht:∀x>as,TrA qs f x):∃k,AtE (Sy.it (SyP qs) f k g) as en:=by
 let made:∀z:Str,src= .tup [-"made",!z]->g=(m,!z,[],U_,U_):=λz e=>by
  rw[e] at h0;unfold g0D at h0
  try dsimp only at h0
  rw[A4 (),A6 rfl] at h0
  exact(uN h0).symm
 cases hf with
 |wait z h1 h2 h3=>
  rw[_,(0)];rw[made z h1,h2];rw[1,.inr (z,h3,1,?_)];exact nJ m z
 |go pre gs rl hs h2 h3=>
  rcases hs with⟨e,Z⟩|⟨z,e,Z⟩
  .rw[e] at h0;unfold g0D at h0
   try dsimp only at h0
   rw[A4 (),A4 ()] at h0
   rw[<-uN h0,h2,Z];exact NT h3 λx hx=>ht x (by rw[h2];exact uR _ hx)
  .rw[made z e,h2,Z];obtain⟨k,hk⟩:=NT (qs:=qs) (f:=f) (mb:= !z) (ra:= [-[-[-"rule",!z],rl]]) h3 λx hx=>ht x (by rw[h2];exact uR _ hx)
   obtain⟨kd,z',an,e2,tr⟩:=ht (-[-[-"rule",!z],rl]) (by rw[h2,Z];exact uj)
   injection e2 with e2
   injection e2 with e3 e4
   injection e3 with e3
   injection e3 with e5 U
   injection e5 with e5
   injection U with U _
   injection U with U
   injection e4 with e4 _
   subst e5 U e4;rw[_,k+1];show AtE (Sy.it (SyP qs) f k (Sy.step (SyP qs) f (m,!z,[],U_,U_))) _ _;let hs:Sy.step (SyP qs) f (m,!z,[],U_,U_)=ni (m,!z,[-[-[-"rule",!z],rl]],U_,U_) rl:=by
    rw[qaA,A4 (by simp),nJ]
    rcases tr with⟨hn,_⟩|⟨hn,b,e8,e9⟩
    .exact A8 hn ()
    .show(match f z with|some b=>yH _ (b.getD .non)|none=>Dg _ z)=_
     rw[e8,e9]
     rfl
   rw[hs];exact hk
end
abbrev Aao (qs ers:oj (Str×D))(kd z:Str)(an:D):Prop:=(kd≠"names"->nm z=v_)/\((mZ kd=v_/\an=Jz qs kd z)\/(mZ kd=Vd/\(kd="thing"\/kd="rule")/\((g0D z (qJ qs z)=U_/\an=(oI (qJ qs z)).getD .non)\/((∃s,g0D z (qJ qs z)=u_ s)/\z>ers.map (·.1)/\qJ ers z=-[-"said",an]))))
nonrec abbrev Pp:=oj (Str×oj D×D)
abbrev mr (ps:Pp):oj (Str×D):=ps.map λs=>(s.1,s.2.2)
structure sX (qs ers es:oj (Str×D))(s:Str×oj D×D):Prop where
 nw:s.1∉ers.map (·.1)
 rn:∃g,g0D s.1 (qJ qs s.1)=u_ g
 an:∀x>s.2.1,∃kd z an,x= .tup [-[!kd,!z],an]/\Aao qs ers kd z an
 fu:sZ (qJ qs s.1) s.1 s.2.1 s.2.2
 st:∀z,s.2.2=Dh z->z>es.map (·.1)/\YX (qJ es z)=U_
abbrev W1 (qs:oj (Str×D))(ps:Pp):Prop:=∀i s,ps[i]? =u_ s->sX qs (mr (ps.take i)) (mr ps) s
variable {z:Str}
def Ie {ps:Pp}(h:z>(mr ps).map (·.1)):∃(j:Nat) (s:Str×oj D×D),ps[j]? =u_ s/\s.1=z/\qJ (mr ps) z=s.2.2:=by
 unfold qJ;cases U:(mr ps).find? (λp=>decide (p.1=z)) with
 |none=>
  erw[Af.mp h,p,Z,e,<-A8 (uc e) (List.find?_eq_none.mp U p Z)]
 |some p=>
  erw[Af.mp (vW U),s,hs,e];erw[List.mem_iff_getElem?.mp hs,j,hj];have:=ur (V0 (p:=λp:Str×D=>decide (p.1=z)) U);subst e;exact(j,s,hj,this,1)
section
variable {qs:oj (Str×D)}{ps:Pp}
def qae (U:g0D m (qJ qs m)=u_ g){k:Nat}(h:(itP qs k g).en.isSome=v_):itP qs 302 g=itP qs k g:=Sy.it_one (Y:=SyP qs) (WR U) h
def Br (U:g0D m (qJ qs m)=u_ g):FP qs m=(zO (itP qs 302 g)).map some:=Sy.F_run (Q7 qs) U
set_option tactic.hygienic true in
def Wz (hp:W1 qs ps):∀(n i:Nat) (s:Str×oj D×D),i<n->ps[i]? =u_ s->(∀x>s.2.1,TrA qs (FP qs) x)/\∀v,s.2.2= .tup [-"said",v]->FP qs s.1=u_ (u_ v)
 |0,_,_,h,_=>A8 h (HS _)|n+1,i,s,h,hi=>by
  let G:=hp i s hi;let ht:∀x>s.2.1,TrA qs (FP qs) x:=λx hx=>by
   erw[G.an x hx,kd,z,an,e,_,Z];rw[_,kd,z,an,e];rcases Z with Z|⟨hn,_,⟨h0,e2⟩|⟨_,hz,e2⟩⟩
   .exact .inl Z
   .exact .inr (hn,_,Sy.F_once (Y:=SyP qs) (Q7 qs) h0,e2)
   .erw[Ie hz,j,s',U,e3,e4];rw[List.getElem?_take] at U;split at U
    .rename_i aa
     have:=(Wz hp n j s' () U).2 an (e4.symm.trans e2)
     exact .inr (hn,_,e3▸this,1)
    .rw[U,0]
  rw[_,ht,λv hv=>?_];erw[G.rn,g,hg];obtain⟨k,_,⟨h1,_⟩|⟨z,h1,_⟩⟩:=AS (f:=FP qs) hg G.fu ht
  .let e:=qae hg (k:=k) (by rw[show(itP qs k g).en=u_ s.2.2 from h1];rfl)
   rw[Br hg,e];unfold zO;rw[show(itP qs k g).en=u_ s.2.2 from h1,hv]
   show(YX (-[-"said",v])).map u_=_;unfold YX
   try dsimp only
   rw[A6 rfl]
   rfl
  .rw[hv] at h1;injection h1 with h1
   injection h1 with h1 _
   injection h1 with h1
   exact A8 h1 ()
def su (Z:W1 qs ps):∀(n h i:Nat) (s:Str×oj D×D),h<n->ps[i]? =u_ s->YX s.2.2=U_->∀b,Sy.Fh (SyP qs) h s.1≠u_ b
 |0,_,_,_,hh,_,_=>A8 hh (HS _)|n+1,h,i,s,hh,hi,hn=>λb hb=>by
  let G:=Z i s hi;erw[G.rn,g,U];obtain⟨k,_,⟨h1,_⟩|⟨z,h1,h2,h3⟩⟩:=AS (f:=FP qs) U G.fu (Wz Z (i+1) i s (U9 _) hi).1
  .let e:=qae U (k:=k) (by rw[show(itP qs k g).en=u_ s.2.2 from h1];rfl)
   let e2:=Sy.F_of (Q7 qs) hb;rw[show Sy.F (SyP qs) s.1=FP qs s.1 from rfl,Br U,e] at e2
   unfold zO at e2;rw[show(itP qs k g).en=u_ s.2.2 from h1] at e2
   rw[show(u_ s.2.2).bind YX=YX s.2.2 from rfl,hn] at e2
   rw[e2,0]
  .obtain⟨j,c,hj,hc⟩:=Sy.wt_less (Q7 qs) (n:=s.1) (m:=z) (g,k,U,by show(itP qs k g).en.isSome=Vd;rw[show(itP qs k g).en=U_ from h2];rfl,h3) hb
   erw[G.st z h1,h4,h5];erw[Ie h4,j',s',h6,h7,h8];rw[h8] at h5;exact su Z n j j' s' () h6 h5 c (h7▸hc)
variable {i:Nat}
def Mu (U:W1 qs ps){s:Str×oj D×D}(hi:ps[i]? =u_ s)(Z:g0D s.1 (qJ qs s.1)=u_ g):C4 (itP qs 302 g)=s.2.2:=by
 let G:=U i s hi;obtain⟨k,_,⟨h1,_⟩|⟨z,h1,h2,h3⟩⟩:=AS (f:=FP qs) Z G.fu (Wz U (i+1) i s (U9 _) hi).1
 .rw[qae Z (k:=k) (by rw[show(itP qs k g).en=u_ s.2.2 from h1];rfl)]
  unfold C4;rw[show(itP qs k g).en=u_ s.2.2 from h1]
  rfl
 .let hz:FP qs z=none:=by
   erw[G.st z h1,h4,h5];erw[Ie h4,j',s',h6,h7,h8];rw[h8] at h5;cases hf:FP qs z with
   |none=>rfl|some b=>
    erw[(Sy.F_iff (Q7 qs)).mp hf,j,hj,<-A8 (h7▸hj) (su U (j+1) j j' s' (U9 _) h6 h5 b)]
  let e:itP qs (k+1) g=Dg (itP qs k g) z:=by
   refine(Sy.it_snoc (Y:=SyP qs) (f:=FP qs) k g).trans ?_;show Sy.step (SyP qs) (FP qs) (itP qs k g)=_;rw[qaA,show(itP qs k g).en=U_ from h2,A4 (by simp),show yI (itP qs k g)=u_ z from h3]
   show(match FP qs z with|some b=>yH _ (b.getD .non)|none=>Dg (itP qs k g) z)=_
   rw[hz]
  rw[qae Z (k:=k+1) (by rw[e];rfl),e,h1]
  rfl
end
abbrev sND:D->Bool
 | .non=>v_| .str _=>v_| .tup xs=>nL xs|_=>Vd
def Aa2:∀{d:D},sND d=v_->nD d=v_
 | .non,_=>rfl| .str _,_=>rfl| .tup xs,h=>by
  let h:nL xs=true:=h;simp![nD,h]
inductive AdV (x:V)(y:V)(H:Hp)(Q:VK):Prop
 |mk (d e:D)(_:Is H d x)(_:Is H e y)(_:sND d=v_)(_:sND e=v_)(_:dp d<=60)(_:Q (.bl (eqD d e)) H)
variable {X:Cx}
def D2 (hu:X.A.units+64<Vp):OpR X (Vn .Eq) AdV:=by
 rw[2,x,y,v,u,Q,I,rx,U,h];let Z:X.A.units<cLine:=by omega
 erw[h,d,e,h1,h2,n1,n2,hp,q];cases d with
 |non=>
  rw[show x= .non from h1,0]
  cases e with
  |non=>
   rw[show y= .non from h2,0]
   exact Qg oq s σ H .non .non v u Q I rx U ⟨1,by simpa [eqD] using q⟩
  |str w=>
   obtain⟨rfl,_⟩:=(show y= .str w/\_ from h2)
   rw[rx,0];erw[U,t2,rfl,<-Pb _ _ X.prog X.w X.xe _ (.bl _,H,I,1,q)]
  |tup ys=>
   erw[id h2,p,us,rfl,hp,hl];rw[rx,0];rw[U,0];erw[I.tuple (.inl (.of hp)),its,_,tq,_,<-pw tq Z X.prog X.w X.xe _ (.bl _,H,I,1,q)]
  |_=>rw[n2,0]
 |str z=>
  obtain⟨rfl,_⟩:=(show x= .str z/\_ from h1)
  erw[rx,t,rfl];cases e with
  |non=>
   rw[show y= .non from h2,0]
   rw[U,0];exact pA _ _ X.prog X.w X.xe _ (.bl _,H,I,1,q)
  |str w=>
   obtain⟨rfl,_⟩:=(show y= .str w/\_ from h2)
   erw[U,t2,rfl,<-R9 _ _ _ _ X.prog X.w X.xe _ (.bl _,H,I,1,q)]
  |tup ys=>
   erw[id h2,p,us,rfl,hp,hl];rw[U,0];erw[I.tuple (.inl (.of hp)),its,_,tq,_,<-R1 _ _ tq Z X.prog X.w X.xe _ (.bl _,H,I,1,q)]
  |_=>rw[n2,0]
 |tup xs=>
  cases e with
  |tup ys=>
   let hm:dpL xs<=60:=by
    have:dp (¬xs)=1+dpL xs:=by simp![dp]
    omega
   rw[show eqD (¬xs) (¬ys)=eqL xs ys by simp![eqD]] at q
   exact(Acy I h1 h2 n1 n2 hm rx U hu).1 X.prog X.w X.xe _ (.bl _,H,I,1,q)
  |non=>
   erw[id h1,p,vs,rfl,hp,hl];rw[rx,0];erw[I.tuple (.inl (.of hp)),its,rv,tq,_];rw[show y= .non from h2,0]
   rw[U,0];exact pW tq Z X.prog X.w X.xe _ (.bl _,H,I,1,q)
  |str w=>
   erw[id h1,p,vs,rfl,hp,hl];rw[rx,0];erw[I.tuple (.inl (.of hp)),its,rv,tq,_];obtain⟨rfl,_⟩:=(show y= .str w/\_ from h2)
   erw[U,t2,rfl,<-RM _ _ tq Z X.prog X.w X.xe _ (.bl _,H,I,1,q)]
  |_=>rw[n2,0]
 |_=>rw[n1,0]
abbrev TbL (H:Hp)(d:o3)(es:oj (Str×D)):Prop:=∃vs:oj (Str×V),H d=u_ (.dK (iJ vs))/\↑vs<=↑es/\(∀z,z>vs.map (·.1)↔z>es.map (·.1))/\∀z>es.map (·.1),∃v,iT (iJ vs) (Vf z)=u_ v/\Is H (qJ es z) v
variable {H H':Hp}
def TbL.same {d:o3}{ps:oj (Str×D)}(h:TbL H d ps)(s:ic H H'):TbL H' d ps:=by
 erw[h,vs,h1,h2,h3,h4,<-(vs,s _ _ h1,h2,h3,λz hz=>by erw[h4 z hz,v,e,i,<-[v:e:i.mono s.tk]])]
variable {es:oj (Str×D)}
def Cd {r:oj (Str×D)}(h:z>es.map (·.1)):qJ (es++r) z=qJ es z:=by
 unfold qJ;rw[UO];cases U:es.find? (λp=>decide (p.1=z)) with
 |none=>
  erw[Af.mp h,p,Z,e,<-A8 (uc e) (List.find?_eq_none.mp U p Z)]
 |some p=>rfl
variable {e:D}
def MD (h:z∉es.map (·.1)):qJ (es++ [(z,e)]) z=e:=by
 unfold qJ;rw[UO,List.find?_eq_none.mpr λp U=>by simpa using λe=>h (Af.mpr [p:U:e])]
 simp
def TbL.skip {d:o3}(e:D)(h:TbL H d es)(hm:m>es.map (·.1)):TbL H d (es++ [(m,e)]):=by
 erw[h,vs,h1,h2,h3,h4];let U:∀z,z>(es++ [(m,e)]).map (·.1)->z>es.map (·.1):=λz hz=>by
  rw[uA] at hz;rcases Ae.mp hz with hz|hz
  .exact hz
  .rw[Ac.mp hz,0];exact hm
 refine(vs,h1,by rw[uw];omega,λz=>(h3 z).trans ⟨λk=>by rw[uA];exact vO _ k,U z⟩,λz hz=>?_)
 erw[h4 z (U z hz),v,Z,e2,<-⟨v,Z,by rwa[Cd (U z hz)]⟩]
variable {v:V}
def TbL.put {d:o3}{vs:oj (Str×V)}(h1:H d=u_ (.dK (iJ vs)))(h2:↑vs<=↑es)(h3:∀z,z>vs.map (·.1)↔z>es.map (·.1))(h4:∀z>es.map (·.1),∃v,iT (iJ vs) (Vf z)=u_ v/\Is H (qJ es z) v)(hm:m∉es.map (·.1))(iv:Is H e v):TbL (upd H d (.dK (lV (iJ vs) (Vf m) v))) d (es++ [(m,e)]):=by
 let U:m∉vs.map (·.1):=λz=>hm ((h3 m).mp z);let Z:lV (iJ vs) (Vf m) v=iJ (vs++ [(m,v)]):=by
  rw[KN _ (Wl U)];unfold iJ;rw[uA]
  rfl
 let tk:=Tk.updD (ys:=lV (iJ vs) (Vf m) v) h1;let aa:∀z,iT (iJ (vs++ [(m,v)])) (Vf z)=(iT (iJ vs) (Vf z)).or (if m=z then u_ v else U_):=λz=>by
  unfold iT iJ;rw[uA,UO];cases((vs.map λp=>((Vf p.1:Key),p.2)).find? λkv=>decide (kv.1=Vf z)) with
  |some p=>rfl|none=>
   by_cases c:m=z
   .simp[c]
   .simp[c]
 refine(vs++ [(m,v)],by rw[qg,Z],by rw[uw,uw];simpa using h2,λz=>?_,λz hz=>?_)
 .rw[uA,uA,Ae,Ae,h3 z];exact Hh
 .rw[aa];by_cases c:z>es.map (·.1)
  .erw[h4 z c,v',e1,e2,<-⟨v',by rw[e1];rfl,by rw[Cd c];exact e2.mono tk⟩]
  .rw[uA] at hz;rcases Ae.mp hz with hz|hz
   .exact A8 hz c
   .rw[Ac.mp hz,0];rw[Wl U,A6 rfl];exact⟨v,1,by rw[MD hm];exact iv.mono tk⟩
def NK {K:o0}{a:o3}{c:Int}{xs:oj V}{g:TG}{tb:TS}{D:mY}{σ:L2.St}{H:Hp}(U:Nat->L2.St->Hp->Prop)(h0:U 0 σ H)(hl:∀i σ H,i<=↑xs->U i σ H->SqT K H a xs)
  (hs:∀i x σ H p,xs[i]? =u_ x->U i σ H->H p=U_->g (-p) σ (upd H p (-[.int (c+i),x])) λσ2 H2=>tb {D with nx:=U (i+1),ct:=U (i+1),bk:=D.nx} σ2 H2) (hd:∀σ H,U ↑xs σ H->D.nx σ H):
  ∃W:Nat->Nat->L2.St->Hp->Prop,(∃m,W 0 m σ H)/\∀i m σ H,W i m σ H->
   ((Ite K a c).stop i H/\D.nx σ H)\/((Ite K a c).go i H/\∃N:L2.St->Hp->Prop,(∀σ' H',N σ' H'->∃m',m'<m/\W (i+1) m' σ' H')/\∀x H',(Ite K a c).yld i H x H'->g x σ H' λσ2 H2=>tb {D with nx:=N,ct:=N,bk:=D.nx} σ2 H2):=by
 rw[_,λi m σ H=>m=↑xs-i/\i<=↑xs/\U i σ H,(↑xs,by simp,uS _,h0)]
 rintro i m σ H ⟨rfl,hi,p⟩;let q:=hl i σ H hi p;by_cases Z:i<↑xs
 .refine .inr ((xs,xs[i],q,by simp[Z]),U (i+1),λσ' H' p'=>(↑xs-(i+1),(),1,Z,p'),λx H' y=>?_)
  erw[y,p2,y2,rfl,hp,rfl,y,<-hs i y2 σ _ p2 (y xs q) p hp]
 .let e:i=↑xs:=by omega
  subst e;exact .inl [[xs:q:1]:hd σ H p]
inductive Dy:Sp
 |mk (v:V)(d:D)(_:vs= [v])(_:Is H d v)(_:(d= .non\/∃k e,d=-[!k,e]))(_:∀H',ic H H'->Q (.bl (jN (yZ d))) H')
inductive Go (rs:List Rw)(own:Str):Rn->List D->Nat->Rn->Prop
 |nil (r:Rn):Go rs own r [] 0 r
 |cons {r r':Rn}{a:D}{gs:List D}{n:Nat}(u z:Str)(h1:r.th=-[-"asks",-[!u,!z]])(h2:Bb u a=v_)(h3:Go rs own (mI rs own r a) gs n r'):Go rs own r (.tup [-[!u,!z],a]::gs) (n+1) r'
 |stop {r:Rn}{a:D}{gs:List D}(u z:Str)(h1:r.th≠ -[-"asks",-[!u,!z]]):Go rs own r (.tup [-[!u,!z],a]::gs) 0 r
def SJ {rs:oj Rw}{own:Str}:∀{gs:oj D}{n:Nat}{r r':Rn},Go rs own r gs n r'->n=↑gs->CG rs own r gs r'
 |_,_,_,_,.nil r,_=> .nil r|_,_,_,_,.cons u z h1 h2 h3,e=> .cons u z h1 h2 (SJ h3 (by simpa using e))|_,_,_,_,.stop u z h1,e=>by simp at e
def MF {rs:oj Rw}{own:Str}:∀{gs:oj D}{n:Nat}{r U Z:Rn},CG rs own r gs U->Go rs own r gs n Z->n=↑gs/\U=Z
 |_,_,_,_,_,.nil r,h=>by rw[h,0];exact[1:1]|_,_,_,_,_,.cons u z h1 h2 h3,h=>by
  cases h with
  |cons u' z' k1 k2 k3=>
   erw[MF h3 k3,e1,e2,<-⟨by rw[e1];rfl,e2⟩]
  |stop u' z' k1=>exact A8 h1 k1
def SI {rs:oj Rw}{own:Str}:∀{gs:oj D}{n:Nat}{r r':Rn},Go rs own r gs n r'->n<=↑gs
 |_,_,_,_,.nil r=>uq _|_,_,_,_,.cons u z h1 h2 h3=>V9 (SI h3)|_,_,_,_,.stop u z h1=>uS _
inductive Os (C:Addr):Sp
 |mk (m:Mc)(r r':Rn)(t:Addr)(us:List V)(gs:List D)(n:Nat)(_:vs= [-m.x,-t])(_:yG C H m r)(_:C0 m.rs r)(_:QU m.rs)(_:↑m.own<=100)(_:H t=u_ (¬us))(_:L2.IsL H gs us)(_:Go m.rs m.own r gs n r')(_:∀H',Mv m H H'->yG C H' m r'->C0 m.rs r'->Q (.int (n:Int)) H')
section
variable {P:o9}{w:og}{K:o0}{mg:Str->om o6}{base:o8}{a:Ad}{g:Ga}
def oO:#[T,2,a.f_has_run,a.d_has_run,["source"],Dy]:=by
 let Q4:=#[AA,T];rw[9,T.mO,Cv]
 erw[h,v,d,rfl,iv,hd,k];let hs:=uD;rw[3,%[|#[qo,#[Qh,yD,#[qp,Q4,T.io,#v[pv 0]],qR]]]]
 rw[0,v,d,1,iv,hd,λu H1 s1 U=>[1:?_]];let e:decide (u=V.non)=jN (yZ d):=by
  cases hd:jN (yZ d) with
  |true=>
   cases Z:yZ d with
   |non=>rw[Z] at U;exact uc U|_=>rw[Z,0] at hd
  |false=>exact ui (JL U λz=>by rw[z,0] at hd)
 rw[e];exact k _ s1
def D8:#[C,8,a.jG,a.jI,["machine","asks"],(Os a.qq)]:=by
 let Qs:=#[oJ,T];let YI:FnOk P w K mg base (CX1 P w) 6 a.YG a.YC ["self","tree"] (MY a.qq):=(No T C).up0;rw[9,T.iV,yU]
 erw[h,m,r0,r',t,us,gs,n,rfl,M0,aq,hR,au,ht,ac,aw,k];let hs:=uD;let ad:↑us=↑gs:=↑ac;rw[3,%[#[y8,#[BE,8,_,T.WU,pv 1,_],#[Ka,Qt #[qM,(2),yU.nd] (Qt #[qM,(3),yU.nd] xl)],%[#[qI,#[qm,#[Ax,1,hr.units],#[QI,pv 0,T.qw,T.iI,Qs],#[qD,#v[ql,#[qG,qC,pv 3,qh]]]],%[|#[qo,pv 2]],qr]|#[Pe,26,pv 0,T.qw,T.iL.h,YI,hr.mono (),T.iL.b,#v[#[qG,qC,pv 3,qh]],[1:1],_,C.m_BadAnswer,C.e_BadAnswer,(λ_ _=>%[|#[qo,pv 2]]),_,_,_,_,_]]]|#[qo,#[qx,qB,T.QN,uJ,#v[pv 1]]]]]
 rw[8,N1,q1]
 rw[0,t,us,1,SqT.of ht,λhsz=>?_]
 refine_lift let J_:Nat->L2.St->Hp->Prop:=λi σ H'=>∃(r:Rn) (x2 x3:om V),σ= [u_ (-m.x),u_ (-t),x2,x3]/\yG a.qq H' m r/\C0 m.rs r/\(∃j,n=i+j/\Go m.rs m.own r (gs.drop i) j r')/\Mv m H H';?_
 refine NK (c:=0) (xs:=us) J_ (r0,_,0,M0,aq,[n:():aw],Mv.refl _ _) (λi σ H' hi ⟨_,_,_,_,_,_,_,mv⟩=>SqT.of (mv.tk.tup _ _ ht)) ?_ ?_
 .rintro i y σ H' p hy ⟨r,x2,x3,rfl,M,hO,⟨jn,ae,hc⟩,mv⟩ hp;let af:i<↑gs:=by rw[<-ad];exact(Ag.mp hy).1
  let ax:gs.drop i=gs[i]::gs.drop (i+1):=vk af;rw[ax] at hc;generalize ay:gs[i]=gi at hc;obtain⟨y',ag,iy⟩:=ac.get (i:=i) (d:=gi) (by rw[ug af,ay])
  rw[hy,0] at ag;let s1:=qf hp (-[.int (0+(i:Int)),y]);let M1:=M.same s1;let aa:=mv.trans (Mv.of s1);let e1:(upd H' p (-[.int (0+(i:Int)),y])) p=u_ (-[.int (0+(i:Int)),y]):=qg;generalize upd H' p (-[.int (0+(i:Int)),y])=H1 at s1 M1 aa e1⊢;let ah:=iy.mono aa.tk;let aA:∃u z an,gi=-[-[!u,!z],an]:=by
   cases hc with
   |cons u z h1 h2 h3=>exact[u:z:0]|stop u z h1=>exact[u:z:0]
  erw[aA,u,z,an,ak];rw[ak] at hc ah;erw[ah,tp,up,rfl,al,v1,r1,rfl,i1,v2,r2,rfl,i2,aB];rw[show r2= [] from aB,0]
  rw[_,p,0,SqT.of e1,1,_,0,_,0,1];show nz _ _ _ _ H1;rw[8,B1,b1];erw[id M1,aC,aD,_,_,_,_,aE,aF,_]
  rw[0,m.x,aC,aD,1,aE,aF.meth _ (),m,r,1,M1,λv5 i5=>?_]
  erw[hO.two,wd,ed,U];rw[U] at i5
  rw[0,tp,_,_,0,1,SqT.of al,qF (j:=0) rfl,sml rfl,λl hl=>?_];let s2:=qf hl (-[-"asks",v1]);let Z:nL [!wd,ed]=true:=by
   have:=xS hO.gd.1;rw[U] at this
   simpa only [nD] using this
  let am:dpL [!wd,ed]<=60:=by
   have:=hO.gd.2;rw[U] at this;simp![dp] at this⊢;omega
  let ao:nL [-"asks",-[!u,!z]]=true:=rfl
  rw[_,[!wd,ed],[-"asks",-[!u,!z]],i5.mono s2.tk,Is.new (ds:= [-"asks",-[!u,!z]]) (_,0,Qy (),_,0,i1,1) hl,Z,ao,am,0]
  let M2:=M1.same s2;let ap:=aa.trans (Mv.of s2);cases hc with
  |cons u' z' h1 h2 h3=>
   rw[U] at h1;let e8: [D.str wd,ed]= [-"asks",-[!u,!z]]:=by injection h1
   rw[(Yq Z).mpr e8];refine iX (b1 _ _ ?_);erw[id M2,aG,aH,_,_,_,_,aI,aJ,_];rw[<-U] at h1
   rw[0,m.x,aG,aH,1,aI,aJ.meth _ (),0,tp,_,_,0,1,SqT.of (s2 _ _ al),qF (j:=1) rfl,m,r,v2,u,!z,an,1,M2,hO,h1,i2.mono s2.tk,hR,au,h2,λH3 aK M3=>?_]
   exact(mI m.rs m.own r an,_,0,M3,qaC hR hO (Be h1) (KL h2),[_:():h3],ap.trans aK)
  |stop u' z' h1=>
   rw[U] at h1;let e8:¬ [D.str wd,ed]= [-"asks",-[!u,!z]]:=λz=>h1 (by rw[z])
   rw[Bool.eq_false_iff.mpr λz=>e8 ((Yq Z).mp z)];refine ky [0:?_];have:=k _ ap M2 hO
   rwa[show(n:Int)=0+(i:Int) by omega] at this
 .rintro σ H' ⟨r,x2,x3,rfl,M,hO,⟨jn,ae,hc⟩,mv⟩;rw[ad,rZ,0] at hc;refine q1 _ _ ?_
  rw[0,t,us,1,.inr (SqT.of (mv.tk.tup _ _ ht))];have:=k _ mv M hO
  rwa[ae] at this
abbrev ny (en:D):Prop:=∃(k:Str) (x:D),en= .tup [!k,x]/\nD x=v_/\dp x<=40/\(k="stuck"->∃z:Str,x= !z)
def ny.nl {k:Str}{x:D}(h:nD x=v_):nL [!k,x]=true:=by simp![nL,nD,h,Vb]
def Lb {k:Str}{x:D}(h:D.tup [!k,x]=Dh z):k="stuck"/\x= !z:=by
 injection h with h
 injection h with h1 h2
 injection h1 with h1
 injection h2 with h2 _
 exact[h1:h2]
def AaP {y:Str}(h:Dh y=Dh z):y=z:=by
 have:=(Lb (k:="stuck") (x:= !y) h).2;injection this
abbrev Acx (x:D):Prop:=∃(u z:Str) (an:D),x= .tup [-[!u,!z],an]/\(u>(["thing","has","names"]:oj Str)->Bb u an=v_)
variable {C dx:o3}{rs:oj Rw}{own:Str}{Q:VK}
def Nw {br bn:o3}{E:XK}{x:o3}(hv:Is H (jV rs) v)(hR:QU rs)(U:nm own=v_)(hx:H x=U_)(aa:H dx=U_)(q:∀(db dg:o3) (H':Hp),H db=U_->H dg=U_->ic H H'->yG C H' (x,db,dg,rs,own) (R0 rs own)->Q .non H'):
  qal C br bn [-x,v,!own] (upd (upd H dx (.own x)) x (.ins C dx [])) Q E:=by
 let Z:ic H (upd (upd H dx (.own x)) x (.ins C dx [])):=λb o h=>by rwa[qi (qk h hx),qi (qk h aa)]
 let hl:=Xo U;rw[_,x,dx,v,!own,jV rs,!own,1,qg,hv.mono Z.tk,Qy (),λh=>?_,λ_ h=>?_,λac ag e1 ad e2 _ _ H1 db dg kept ae af M1=>?_]
 .rw[hR.read,0] at h
 .rw[show mK (!own)=nm own from rfl,U,0] at h
 .rw[e2,0];have:ac=rs:=by
   let h1:=ad.read;rw[<-e1,hR.read] at h1;exact(uN h1).symm
  subst this;exact q db dg H1 (Z.free ae) (Z.free af) (λb o h=>kept b o (Z b o h) (qk h hx)) M1
variable {H1 H2:Hp}
def DF {m:Mc}(s:ic H H1)(v:Mv m H1 H2)(h1:H m.x=U_)(h2:H m.db=U_)(h3:H m.dg=U_):ic H H2:=λb o e=>v.kept b o (s b o e) (qk e h1) (qk e h2) (qk e h3)
def AbO {rs:oj Rw}{own:Str}(U:QU rs):∀(gs:oj D) (r:Rn),C0 rs r->(∀x>gs,Acx x)->∃n r',Go rs own r gs n r'/\C0 rs r'
 | [],r,h,_=>((0),r,.nil r,h)|x::gs,r,h,hx=>by
  erw[hx x uj,u,z,an,rfl,ha];by_cases c:r.th=-[-"asks",-[!u,!z]]
  .let Z:=Be c;erw[h.ask Z,_,_,_,u',d',e,hu,_];rw[c,0] at e;let hb:=ha hu;obtain⟨n,r',h1,h2⟩:=AbO U gs (mI rs own r an) (qaC U h Z (KL hb)) λy hy=>hx y (uh _ hy);exact(n+1,r',.cons u z c hb h1,h2)
  .exact((0),r,.stop u z c,h)
inductive ON:Sp
 |mk (rv:V)(own:Str)(tr ta:Addr)(us:List V)(ev:V)(rs:List Rw)(r:Rn)(gs:List D)(n:Nat)(es:List D)(_:vs= [rv,!own,-tr])(_:Is H (jV rs) rv)(_:QU rs)(_:nm own=v_)(_:H tr=u_ (-[-ta,ev]))(_:H ta=u_ (¬us))(_:L2.IsL H gs us)(_:Go rs own (R0 rs own) gs n r)(_:Is H (¬es) ev)(_:nL es=v_)(_:∀(b:Bool)(H':Hp),ic H H'->(b=v_↔n=↑gs/\QH r.th=Vd/\r.th=¬es)->Q (.bl b) H')
inductive Li:Sp
 |mk (rv:V)(own:Str)(ta:Addr)(us:List V)(ev:V)(rs:List Rw)(gs:List D)(en:D)(_:vs= [rv,!own,-ta,ev])(_:Is H (jV rs) rv)(_:QU rs)(_:nm own=v_)(_:H ta=u_ (¬us))(_:L2.IsL H gs us)(_:∀x>gs,Acx x)(_:Is H en ev)(_:ny en)(_:∀(b:Bool)(H':Hp),ic H H'->(b=v_↔∃r,CG rs own (R0 rs own) gs r/\AdM r en)->Q (.bl b) H')
inductive Dx:Sp
 |mk (sv:V)(own:Str)(ta:Addr)(us:List V)(ev:V)(kk:Str)(e0:D)(as:List D)(en:D)(_:vs= [sv,!own,-ta,ev])(_:Is H (-[!kk,e0]) sv)(_:kk="rule"\/kk="made"/\∃z:Str,e0= !z)(_:nm own=v_)(_:H ta=u_ (¬us))(_:L2.IsL H as us)(_:∀x>as,Acx x)(_:Is H en ev)(_:ny en)(_:∀(b:Bool)(H':Hp),ic H H'->(b=v_↔sZ (-[!kk,e0]) own as en)->Q (.bl b) H')
def PR:#[C,9,a.f_does,a.d_does,["rule","own","run"],ON]:=by
 let Yb:=#[D8,T,C];let yo:=#[KI,T,C];let Qs:=#[oJ,T];let qY:=#[qay,T];rw[9,T.E4,DE]
 erw[h,rv,own,tr,ta,us,ev,rs,r,gs,n,es,rfl,hv,hR,ac,aa,ad,ae,af,ie,ao,k];let hs:=uD;let ax:=Xo ac;let ay:=SI af;rw[3,%[#[qE,(3),DE.nd,#[XN,T.wx,yo,T.wP,T.iW,DR,#v[pv 0,pv 1]]],#[qI,#[qm,qam,#[qp,Yb,T.iV,#v[pv 3,#[qG,qC,pv 2,qh]]],#[qx,qB,T.QN,uJ,#v[#[qG,qC,pv 2,qh]]]],%[|#[qo,jf]],qr]|#[qo,#[ze,#[Abi,4,#[QI,pv 3,T.qw,T.il,qY]],#[Xc,#[Qh,#[oH,1,hr.units],#[QI,pv 3,T.qw,T.iI,Qs],#[qG,qC,pv 2,qh]]]]]]]
 rw[8,N1,q1]
 rw[0,0,λx dx hx ap nx=>Nw hv hR ac hx ap λdb dg H1 aq au s1 M1=>[1:q1 _ _ ?_]];rw[8,N2,q2]
 rw[5]
 refine(0,0,tr,_,_,0,1,SqT.of (s1 _ _ aa),qF (j:=0) rfl,(x,db,dg,rs,own),R0 rs own,r,ta,us,gs,n,1,M1,IN hR,hR,by show ↑own<=100;omega,s1 _ _ ad,ae.mono s1.tk,af,λH2 mv M2 hO=>?_)
 let s2:ic H H2:=DF s1 mv hx aq au
 rw[0,tr,_,_,0,1,SqT.of (s2 _ _ aa),qF (j:=0) rfl,ta,us,1,.inr (SqT.of (s2 _ _ ad)),_,0,1,0];rw[↑ae];by_cases hn:n=↑gs
 .refine iQ (ui ()) (q2 _ _ ?_)
  erw[id M2,ag,ah,_,_,_,_,ak,al,_];erw[hO.two,wd,ed,U]
  rw[0,x,ag,ah,1,ak,al.meth _ (),(x,db,dg,rs,own),r,1,M2,.inr [wd:ed:U]]
  cases hw:QH r.th with
  |true=>
   rw[0,[0:iQ rfl ?_]];exact k Vd _ s2 ⟨λz=>(by rw[z,0]),λz=>by rw[hw] at z;rw[z.2.1,0]⟩
  |false=>
   rw[0]
   rw[0,lc rfl ?_];let Z:nL [!wd,ed]=true:=by
    have:=xS hO.gd.1;rw[U] at this
    simpa only [nD] using this
   let am:dpL [!wd,ed]<=60:=by
    have:=hO.gd.2;rw[U] at this;simp![dp] at this⊢;omega
   rw[0,x,ag,ah,1,ak,al.meth _ (),(x,db,dg,rs,own),r,1,M2,λv5 i5=>?_]
   let aw:=ie.mono s2.tk;rw[U] at i5
   rw[0,tr,_,_,0,1,SqT.of (s2 _ _ aa),qF (j:=1) rfl,_,_,i5,aw,Z,ao,am];refine k _ _ s2 ?_;show NO [!wd,ed] es=v_↔_;rw[Yq Z,U];exact⟨λz=>⟨hn,by rw[<-U];exact hw,by rw[z]⟩,λz=>by injection z.2.2⟩
 .refine lc (uc ()) ?_
  exact k Vd _ s2 ⟨λz=>(by rw[z,0]),λz=>A8 z.1 hn⟩
def LK:#[C,10,a.WZ,a.wO,["rule","own","asks","end"],Li]:=by
 let aa:=#[PR,T,C];let Yb:=#[D8,T,C];let yo:=#[KI,T,C];let Qs:=#[oJ,T];rw[9,T.mV,ZE]
 erw[h,rv,own,ta,us,ev,rs,gs,en,rfl,hv,hR,ad,ae,af,hA,ie,[kk,ex,ee,al,aE,am],k];let hs:=uD;let aF:=Xo ad;erw[AbO hR gs (R0 rs own) (IN hR) hA,n,r,U,aG];let aH:=SI U;rw[ee] at ie;erw[id ie,te,ue,rfl,ag,w1,r1,rfl,[rfl,aI],w2,r2,rfl,ao,ap];rw[show r2= [] from ap,0]
 rw[3,%[#[qI,#[qm,DW,#[qG,qC,pv 3,qh],ql],%[|#[qo,#[qp,aa,T.E4,#v[pv 0,pv 1,#[qD,#v[pv 2,pv 3]]]]]],qr],#[qE,(4),ZE.nd,#[XN,T.wx,yo,T.wP,T.iW,DR,#v[pv 0,pv 1]]]|#[qo,#[ze,#[Qh,Qg,#[qp,Yb,T.iV,#v[pv 4,pv 2]],#[qx,qB,T.QN,uJ,#v[pv 2]]],#[Xc,#[Qh,#[oH,1,hr.units],#[QI,pv 4,T.qw,T.iI,Qs],#[qD,#v[ql,#[qD,#v[ql,#[qG,qC,pv 3,qh]]]]]]]]]]]
 rw[8,N1,q1];by_cases ck:kk="stuck"
 .erw[am ck,z,hz];subst ck hz;erw[ao,rfl,aq]
  rw[0,te,_,_,0,1,SqT.of ag,qF (j:=0) rfl,1,0,iQ (by simp) (q1 _ _ ?_)]
  rw[8,N2,q2]
  rw[0,0,λx dx hx au nx=>Nw hv hR ad hx au λdb dg H1 aw ax s1 M1=>[1:q2 _ _ ?_]]
  rw[5]
  refine(0,0,(x,db,dg,rs,own),R0 rs own,r,ta,us,gs,n,1,M1,IN hR,hR,by show ↑own<=100;omega,s1 _ _ ae,af.mono s1.tk,U,λH2 mv M2 hO=>?_)
  let s2:ic H H2:=DF s1 mv hx aw ax
  rw[0,ta,us,1,.inr (SqT.of (s2 _ _ ae)),1,0];rw[↑af];by_cases hn:n=↑gs
  .refine lc (uc (by rw[hn])) ?_
   erw[id M2,ay,aA,_,_,_,_,aB,aC,_]
   rw[0,x,ay,aA,1,aB,aC.meth _ (),(x,db,dg,rs,own),r,1,M2,λv5 i5=>?_]
   rw[0,te,_,_,0,1,SqT.of (s2 _ _ ag),qF (j:=1) rfl,sml rfl,λt1 h1=>[sml rfl:λt2 h2=>?_]];let n1:=qf h1 (-[V.str "thing",V.str z]);let n2:=qf h2 (-[V.str "asks",V.ref t1]);let j1:=Is.new (ds:= [-"thing",!z]) (_,0,Qy (),_,0,[1:aq],1) h1
   let j2:=Is.new (ds:= [-"asks",-[-"thing",!z]]) (_,0,Qy (),_,0,j1,1) h2
   erw[hO.two,wd,ed,Z];rw[Z] at i5;let ac:nL [!wd,ed]=true:=by
    have:=xS hO.gd.1;rw[Z] at this
    simpa only [nD] using this
   let ah:dpL [!wd,ed]<=60:=by
    have:=hO.gd.2;rw[Z] at this;simp![dp] at this⊢;omega
   rw[_,_,_,i5.mono (n1.trans n2).tk,j2,ac,1,ah];refine k _ _ ((s2.trans n1).trans n2) ?_;show NO [!wd,ed] [-"asks",-[-"thing",!z]]=v_↔_;rw[Yq ac,ee]
   rw[5]
   refine⟨λq=>⟨r,SJ U hn,.inr ⟨z,1,by rw[Z,q];rfl⟩⟩,λ zq=>?_⟩;erw[zq,r0,hc,hE]
   erw[MF hc U,_,rfl];rcases hE with⟨_,_,q⟩|⟨z',q,ak⟩
   .exact A8 rfl (q z)
   .rw[Z,<-AaP (y:=z) q] at ak;exact D.tup.inj ak
  .refine iQ (ui λq=>hn (by injection q with q;omega)) ?_
   refine k Vd _ s2 ⟨λq=>(by rw[q,0]),λ zq=>?_⟩;erw[zq,r0,hc,_]
   exact A8 (MF hc U).1 hn
 .rw[0,te,_,_,0,1,SqT.of ag,qF (j:=0) rfl,1,0,lc (by simpa using ck) ?_]
  rw[0,0,0,0,sml rfl,λtr aD=>?_];let m1:=qf aD (-[-ta,-te])
  rw[_,rv,own,tr,ta,us,-te,rs,r,gs,n,[!kk,ex],1,hv.mono m1.tk,hR,ad,qg,m1 _ _ ae,af.mono m1.tk,U,ie.mono m1.tk,ny.nl al,λb H' s' hb=>k b H' (m1.trans s') (hb.trans ?_)];rw[ee]
  rw[_,λ⟨e1,e2,e3⟩=>[r:SJ U e1:.inl [e3.symm:e2:λz hz=>ck (Lb hz).1]],λ zq=>?_];erw[zq,r0,hc,hE];erw[MF hc U,e1,rfl];rcases hE with⟨e2,e3,_⟩|⟨z,q,_⟩
  .exact[e1:e3:e2.symm]
  .exact A8 (Lb q).1 ck
def El:#[C,11,a.XZ,a.zH,["source","name","asks","end"],Dx]:=by
 let ad:=#[LK,T,C];let WJ:=#[oN,T,C];rw[9,T.my,Yp]
 erw[h,sv,own,ta,us,ev,kk,e0,as,en,rfl,aG,aH,aI,ah,aq,hA,ie,hE,k];let hs:=uD;erw[id hE,kx,ex,ee,aJ,aU,aV];let aa:nL [!kx,ex]=true:=ny.nl aJ;let am:dpL [!kx,ex]<=60:=by
  simp![dpL,dp];omega
 erw[aG,ts,uu,rfl,ap,w1,r1,rfl,[rfl,_],w2,r2,rfl,aA,aK];rw[show r2= [] from aK,0]
 rw[3,%[#[qE,(4),Yp.nd,#[qG,qC,pv 0,qh]],#[qI,#[qm,Qg,#[qG,qC,pv 0,qh],ql],%[#[qI,#[qm,#[qaK,1,hr.units0],pv 2,#[qD,qd]],%[|#[qo,#[Qh,#[oH,1,hr.units],pv 3,#[qD,#v[ql,#[qG,qC,pv 0,qh]]]]]],qr],#[qI,#[qm,#[Ax,1,hr.units],#[qG,qC,#[qG,qC,pv 2,qh],qh],#[qD,#v[ql,#[qG,qC,pv 0,qh]]]],%[|#[qo,jf]],qr],#[qE,(4),Yp.nd,#[qG,qC,#[qG,qC,pv 2,qh],qh]]|#[qE,(2),Yp.nd,#[QZ,YH,pv 2,#[ya,qh],yy]]],qr],#[qI,#[qm,yD,pv 4,qR],%[|#[qo,#[ze,#[Qh,#[qaK,1,hr.units0],pv 2,#[qD,qd]],#[Xc,#[Qh,#[oH,1,hr.units],pv 3,#[qD,#v[ql,ql]]]]]]],qr],#[qI,#[Qr,#[Qd,#[qp,WJ,T.mM,#v[pv 4]]]],%[|#[qo,#[ze,#[Qh,#[qaK,1,hr.units0],pv 2,#[qD,qd]],#[Xc,#[Qh,#[oH,1,hr.units],pv 3,#[qD,#v[ql,ql]]]]]]],qr]|#[qo,#[qp,ad,T.mV,#v[pv 4,pv 1,pv 2,pv 3]]]]]
 rw[8,N1,q1]
 rw[0,ts,_,_,0,1,SqT.of ap,qF (j:=1) rfl,q1 _ _ ?_];rw[8,N2,q2];let aB:∀(ag:V) (rl:D) (gs:oj D) (ae:o3) (us':oj V) (H1:Hp),ic H H1->Is H1 rl ag->H1 ae=u_ (¬us')->L2.IsL H1 gs us'->(∀x>gs,Acx x)->(GoR own rl gs en↔sZ (-[!kk,e0]) own as en)->N2 [u_ (-ts),u_ (!own),u_ (-ae),u_ ev,u_ ag] H1:=by
  intro ag rl gs ae us' H1 s1 ir U ac aL au;refine q2 _ _ ?_;rw[8,N3,q3]
  rw[0,1,0];let aC:∀v r,us'=v::r->¬gs= []:=λv r e z=>by
   have:=↑ac;rw[e,z,0] at this
  cases Z:jN rl with
  |true=>
   let aM:rl= .non:=by
    cases rl with
    |non=>rfl|_=>rw[Z,0]
   rw[aM] at ir;rw[show ag= .non from ir,0]
   refine lc (uc rfl) ?_;let aw:GoR own rl gs en->gs= []/\en=flt "lack":=λq=>by
    cases q with
    |lack h0 h1 h2=>exact[h1:h2]|bad h0 _ _ _=>rw[Z,0] at h0|run _ _ h0 _ _ _=>rw[Z,0] at h0
   let ao:sZ (-[!kk,e0]) own as en↔gs= []/\en=flt "lack":=au.symm.trans [aw:λq=> .lack Z q.1 q.2];cases hu:us' with
   |nil=>
    rw[hu] at U ac;let ax:gs= []:=List.length_eq_zero_iff.mp ac.length.symm
    rw[0,uS _,λt0 h0=>(ae,t0,[],1,1,SqT.of (qf h0 _ _ _ U),SqT.of qg,0,lc rfl ?_)];let m0:=qf h0 (.tup ([]:oj V))
    rw[0,sml rfl,λt1 h1=>?_];let m1:=qf h1 (-[V.str "fault",V.str "lack"]);let i1:=Is.new (ds:= [-"fault",-"lack"]) (_,0,Qy (),_,0,Qy (),1) h1
    let af:=ie.mono ((s1.trans m0).trans m1).tk;rw[ee] at af
    rw[_,_,[-"fault",-"lack"],af,i1,aa,1,am];refine k _ _ ((s1.trans m0).trans m1) ?_;show NO [!kx,ex] [-"fault",-"lack"]=v_↔_;rw[Yq aa,ao,ee];exact⟨λq=>⟨ax,by rw[q];rfl⟩,λq=>D.tup.inj q.2⟩
   |cons v r=>
    let ay:=aC v r hu;rw[hu] at U
    rw[0,uS _,λt0 h0=>(ae,t0,0,1,SqT.of (qf h0 _ _ _ U),SqT.of qg,0,iQ rfl ?_)];exact k Vd _ (s1.trans (qf h0 _)) ⟨λq=>(by rw[q,0]),λq=>A8 (ao.mp q).1 ay⟩
  |false=>
   let aN:ag≠ .non:=JL ir λz=>by rw[z,0] at Z
   refine iQ (ui aN) (q3 _ _ ?_);rw[8,N4,q4]
   rw[0,ag,rl,1,ir,λH2 s2=>[0:?_]];cases ak:Q8 rl with
   |none=>
    refine ky ?_;let aw:GoR own rl gs en->gs= []/\en=flt "rule":=λq=>by
     cases q with
     |lack h0 _ _=>rw[Z,0] at h0|bad _ _ h1 h2=>exact[h1:h2]|run _ _ _ h0 _ _=>rw[ak,0] at h0
    let ao:sZ (-[!kk,e0]) own as en↔gs= []/\en=flt "rule":=au.symm.trans [aw:λq=> .bad Z ak q.1 q.2];cases hu:us' with
    |nil=>
     rw[hu] at U ac;let ax:gs= []:=List.length_eq_zero_iff.mp ac.length.symm
     rw[0,uS _,λt0 h0=>(ae,t0,[],1,1,SqT.of (qf h0 _ _ _ (s2 _ _ U)),SqT.of qg,0,lc rfl ?_)];let m0:=qf h0 (.tup ([]:oj V))
     rw[0,sml rfl,λt1 h1=>?_];let m1:=qf h1 (-[V.str "fault",V.str "rule"]);let i1:=Is.new (ds:= [-"fault",-"rule"]) (_,0,Qy (),_,0,Qy (),1) h1
     let sm:=((s1.trans s2).trans m0).trans m1;let af:=ie.mono sm.tk;rw[ee] at af
     rw[_,_,[-"fault",-"rule"],af,i1,aa,1,am];refine k _ _ sm ?_;show NO [!kx,ex] [-"fault",-"rule"]=v_↔_;rw[Yq aa,ao,ee];exact⟨λq=>⟨ax,by rw[q];rfl⟩,λq=>D.tup.inj q.2⟩
    |cons v r=>
     let ay:=aC v r hu;rw[hu] at U
     rw[0,uS _,λt0 h0=>(ae,t0,0,1,SqT.of (qf h0 _ _ _ (s2 _ _ U)),SqT.of qg,0,iQ rfl ?_)];exact k Vd _ ((s1.trans s2).trans (qf h0 _)) ⟨λq=>(by rw[q,0]),λq=>A8 (ao.mp q).1 ay⟩
   |some rs=>
    refine iX (q4 _ _ ?_);erw[By ak,hR,aD];rw[aD] at ir
    rw[0,0,0,0,ag,own,ae,us',ev,rs,gs,en,1,ir.mono s2.tk,hR,aI,s2 _ _ U,ac.mono s2.tk,aL,ie.mono (s1.trans s2).tk,hE,λb H3 s3 hb=>k b _ ((s1.trans s2).trans s3) (hb.trans (Tp ?_ au))]
    rw[_,λ⟨r,h1,h2⟩=> .run rs r Z ak h1 h2,λq=>?_];cases q with
    |lack h0 _ _=>rw[Z,0] at h0|bad _ h0 _ _=>rw[ak,0] at h0|run aW r h0 h1 h2 h3=>
     rw[ak,0] at h1;exact[r:h2:h3]
 rw[0,ts,_,_,0,1,SqT.of ap,qF (j:=0) rfl,1,0];rcases aH with rfl|⟨rfl,z,rfl⟩
 .refine iQ (ui (λy=>by have:=V.str.inj y;revert this;decide+kernel)) (aB w2 e0 as ta us H (ic.refl _) aA ah aq hA [λq=> .go [] as e0 (.inl [1:1]) rfl q:λq=>?_])
  cases q with
  |wait z h0 _ _=>
   injection h0 with h0
   injection h0 with h0 _
   injection h0 with h0
   exact A8 h0 ()
  |go pre gs rl h0 h1 h2=>
   rcases h0 with⟨h0,rfl⟩|⟨z,h0,_⟩
   .rw[h0,0];rw[tJ] at h1;rwa[h1]
   .injection h0 with h0
    injection h0 with h0 _
    injection h0 with h0
    exact A8 h0 ()
 .erw[aA,rfl,aE];refine lc (uc rfl) ?_;let made:∀{pre:oj D}{rl:D},Hs (-[-"made",!z]) pre rl->pre= [-[-[-"rule",!z],rl]]:=λh0=>by
   rcases h0 with⟨h0,_⟩|⟨z',h0,e⟩
   .injection h0 with h0
    injection h0 with h0 _
    injection h0 with h0
    exact A8 h0 ()
   .rw[h0,0];exact e
  show nz _ _ _ _ H;rw[8,A1,a1];cases as with
  |nil=>
   rw[show us= [] from aq,0]
   rw[0,uS _,λt0 h0=>(ta,t0,[],1,1,SqT.of (qf h0 _ _ _ ah),SqT.of qg,0,lc rfl ?_)];let m0:=qf h0 (.tup ([]:oj V))
   rw[0,0,ts,_,_,0,1,SqT.of (m0 _ _ ap),qF (j:=1) rfl,sml rfl,λt1 h1=>?_];let m1:=qf h1 (-[V.str "stuck",V.str z]);let i1:=Is.new (ds:= [-"stuck",!z]) (_,0,Qy (),_,0,[1:aE],1) h1
   let af:=ie.mono (m0.trans m1).tk;rw[ee] at af
   rw[_,_,[-"stuck",!z],af,i1,aa,1,am];refine k _ _ (m0.trans m1) ?_;show NO [!kx,ex] [-"stuck",!z]=v_↔_;rw[Yq aa,ee]
   rw[_,λq=> .wait z rfl rfl (by rw[q];rfl),λq=>?_]
   cases q with
   |wait z' h0 _ h2=>
    rw[h0,0];exact D.tup.inj h2
   |go pre gs rl h0 h1 h2=>
    rw[made h0,0] at h1
  |cons x1 gs=>
   erw[hA x1 uj,u,z',an,rfl,aX];obtain⟨v1,rr,rfl,i1,aO⟩:=(show∃v1 rr,us=v1::rr/\Is H (-[-[!u,!z'],an]) v1/\L2.IsL H gs rr from by
    erw[aq,v1,rr,e,h1,h2,<-(v1,rr,e,h1,h2)])
   erw[i1,tp,up,rfl,aF,x1,aY,rfl,aP,x2,aQ,rfl,aR,aS];rw[show aQ= [] from aS,0]
   rw[0,uS _,λt0 h0=>(ta,t0,0,1,SqT.of (qf h0 _ _ _ ah),SqT.of qg,0,iQ rfl (a1 _ _ ?_))];let m0:=qf h0 (.tup ([]:oj V));generalize upd H t0 (-[])=H1 at m0⊢;rw[8,A2,a2]
   rw[0,ta,_,_,0,1,SqT.of (m0 _ _ ah),qF (j:=0) rfl,tp,_,_,0,1,SqT.of (m0 _ _ aF),qF (j:=0) rfl]
   rw[0,ts,_,_,0,1,SqT.of (m0 _ _ ap),qF (j:=1) rfl,sml rfl,λt1 h1=>?_];let m1:=qf h1 (-[V.str "rule",V.str z]);let j1:=Is.new (ds:= [-"rule",!z]) (_,0,Qy (),_,0,[1:aE],1) h1
   rw[_,[!u,!z'],[-"rule",!z],aP.mono (m0.trans m1).tk,j1,1,1,by simp[dpL,dp],0]
   let al:=m0.trans m1;by_cases cu:NO [!u,!z'] [-"rule",!z]=v_
   .rw[cu];refine iX (a2 _ _ ?_);let cu:=(Yq (show nL [!u,!z']=v_ from rfl)).mp cu
    rw[cu,0];generalize upd H1 t1 (-[V.str "rule",V.str z])=H2 at al⊢;rw[8,A3,a3]
    rw[0,ta,_,_,0,1,SqT.of (al _ _ ah),qF (j:=0) rfl,tp,_,_,0,1,SqT.of (al _ _ aF),qF (j:=1) rfl,a3 _ _ ?_]
    rw[0,0,ta,0,SqT.of (al _ _ ah),λhw=>?_,λ_ pp hp=>?_]
    .exfalso;let h1:=hw.1;let h1:HT.sIx ↑(_::rr) 0 (u_ ((1:Nat):Int))=0:=h1;rw[HT.sIx_nat] at h1;rw[um] at h1;omega
    .let hc:wr (V.ref tp::rr) (u_ 1) U_=rr:=by
      rw[show(u_ (1:Int))=u_ ((1:Nat):Int) from rfl,X6 (by rw[um];omega)]
      rfl
     rw[hc];let mp:=al.trans (qf hp (¬rr));refine aB x2 an gs pp rr _ mp (aR.mono mp.tk) qg (aO.mono mp.tk) (λx hx=>hA x (uh _ hx)) [λq=> .go [-[-[-"rule",!z],an]] gs an (.inr [z:1:1]) rfl q:λq=>?_];cases q with
     |wait _ _ h0 _=>rw[h0,0]|go pre aT rl h0 h1 h2=>
      rw[made h0,0] at h1;exact h2
   .rw[Bool.eq_false_iff.mpr cu];refine ky (k Vd _ al ⟨λq=>(by rw[q,0]),λq=>?_⟩)
    exfalso;cases q with
    |wait _ _ h0 _=>rw[h0,0]|go pre aT rl h0 h1 h2=>
     rw[made h0,0] at h1;exact cu ((Yq (show nL [-"rule",!z]=v_ from rfl)).mpr rfl)
def AbD {K:o0}{b A:o3}{H1:Hp}{tg:TG}{tc:TT}{te:TE}{tl:L2.St}{Q:VK}{xs:oj V}(C:Nat->oj V->Hp->Prop)(hb:H1 b=u_ (¬xs))(hn:↑xs<=Vh)(h0:C 0 [] (upd H1 A (.lst [])))(hC:∀i ys H,C i ys H->ic H1 H)
  (aa:∀i x ys H U Z,xs[i]? =u_ x->C i ys H->H A=u_ (.lst ys)->tg x (U::Z::tl) H λσ2 H2=>tc σ2 H2 λc H3=>if c=v_ then te σ2 H3 λy H4=>H4 A=u_ (.lst ys)/\(∃u0 u1,σ2=u0::u1::tl)/\C (i+1) (ys++ [y]) (upd H4 A (.lst (ys++ [y]))) else H3 A=u_ (.lst ys)/\(∃u0 u1,σ2=u0::u1::tl)/\C (i+1) ys H3)
  (hQ:∀ys H,C ↑xs ys H->H A=u_ (.lst ys)->Q (-A) H):AJ A (Itt K b) tg tc te (U_::U_::tl) H1 Q:=by
 rw[_,↑xs,λi σ ys H=>(∃U Z,σ=U::Z::tl)/\C i ys H,hn,[[U_:U_:1]:h0],?_,?_]
 .rintro i σ ys H hi ⟨⟨U,Z,rfl⟩,hc⟩ hl hy;let sm:=hC _ _ _ hc;let e0:xs[i]? =u_ xs[i]:=ug hi;rw[_,(_,_,SqT.of (sm _ _ hb),e0)];rintro x H' ⟨rfl,hx⟩;let e:=hx _ (SqT.of (sm _ _ hb));exact aa i x ys H' U Z e hc hl
 .rintro σ ys H ⟨_,hc⟩ hl;exact[[_:SqT.of (hC _ _ _ hc _ _ hb):uq _]:hQ ys H hc hl]
def Ak (Z:QT qs){n:Str}{sv:V}(h1:n>qs.map (·.1)->Is H (qJ qs n) sv)(h2:n∉qs.map (·.1)->sv= .non):∃d,Is H d sv/\(d= .non\/∃k e,d=-[!k,e])/\d=qJ qs n/\jN (yZ d)=(g0D n (qJ qs n)).isSome:=by
 by_cases c:n>qs.map (·.1)
 .erw[Jq Z c,_,kk,e,hd,_];rw[_,_,h1 c,.inr [kk:e:hd],1];rw[hd];unfold yZ g0D
  try dsimp only
  by_cases U:kk="leaf"
  .rw[A6 U,A6 U];rfl
  .rw[A4 U,A4 U];split<;>rfl
 .rw[_,.non,h2 c,.inl rfl,(yY c).symm];cases hg:g0D n (qJ qs n) with|none=>rfl|some s=>exact A8 ((Q7 qs).gn n s hg) c
def Lx {d:D}(h:d= .non\/isT d=v_):sND d=v_/\dp d<=12:=by
 rcases h with rfl|h
 .exact⟨1,by simp[dp]⟩
 .rw[_,?_,xR h];have:=xS (yp h);cases d<;>simp_all [sND,nD,isT,iZ]
inductive kG (CP:Addr):Sp
 |mk (px ed t:Addr)(av:V)(kd z:Str)(an:D)(qs ers:List (Str×D))(_:vs= [-px,-ed,-t,av])(_:H t=u_ (-[!kd,!z]))(_:ym CP H px qs)(_:QT qs)(_:TbL H ed ers)(_:Is H an av)(_:↑z<=1000)(_:an= .non\/isT an=v_)(_:∀x>ers.map (·.1),ny (qJ ers x))(_:∀(b:Bool)(H':Hp),ic H H'->(b=v_↔Aao qs ers kd z an)->Q (.bl b) H')
def CF:#[C,5,a.jJ,a.jS,["project","earlier","ask","answer"],(kG a.qK)]:=by
 let QL:=#[Xs,T];let WP:=#[oO,T];let qO:=#[Yl,T];let yu:=#[oK,T];refine T.lQ.F.ok jl () (λ_ _ _ s H vs Q E hr h=>?_)
 erw[h,px,ed,t,av,kd,z,an,qs,ers,rfl,ht,hP,hq,hT,ia,a1,aL,aM,k];let hs:=uD;erw[Lx aL,aa,a2];let ac:=Aa2 aa;rw[3,%[@qI _ _ _ _ _ _ _ _ #[jT,#[qm,DW,#[qG,qC,pv 2,qh],ql],#[YJ,#[Qr,#[Qd,#[qp,QL,T.iH,#v[#[qG,qC,pv 2,qh]]]]]]].pt %[|#[qo,jf]] qr,#[qI,#[qm,8,QP,#[qG,qC,pv 2,qh],#[qD,#v[ql,ql]],#[w]],%[|#[qo,#[Qh,D2 hr.units,pv 3,#[Qn,pv 0,T.Q3,T.iN,yu,#v[pv 2]]]]],qr],#[qI,#[qm,8,J0,#[qG,qC,pv 2,qh],#[qD,#v[ql,ql]],#[w]],%[|#[qo,jf]],qr],#[qE,(4),jl.nd,#[Qn,pv 0,T.Q3,T.ii,qO,#v[#[qG,qC,pv 2,qh]]]],#[qI,#[Qd,#[qp,WP,T.mO,#v[pv 4]]],%[|#[qo,#[Qh,D2 hr.units,#[Ks,7,QO hr,pv 1,#[qG,qC,pv 2,qh],(1,1,1,1)],#[qD,#v[ql,pv 3]]]]],qr]|#[qo,#[Qh,D2 hr.units,pv 3,#[ye,#[qm,yD,pv 4,qR],qR,#[qG,qC,pv 4,qh]]]]]]
 rw[8,N1,q1];let ap:(kd≠"names"->nm z=v_)->∀H1,ic H H1->N1 [u_ (-px),u_ (-ed),u_ (-t),u_ av,U_] H1:=by
  intro aq H1 s1;refine q1 _ _ ?_;let au:=s1 _ _ ht;let aw:=hP.same s1;let aN:=hT.same s1;let aO:=ia.mono s1.tk;erw[id aw,ax,a3,op,a4,hx,_];rw[8,N2,q2]
  rw[0,t,_,_,0,1,SqT.of au,qF (j:=0) rfl,sml rfl,λl hl=>?_];let m2:=qf hl (-[V.str "has",V.str "names"])
  rw[_,l,0,.inr (SqT.of qg),1,1,0];let s2:=s1.trans m2;let ad:=m2 _ _ au;let ah:=aw.same m2;let ay:=aN.same m2;let ak:=aO.mono m2.tk;let al:=m2 _ _ hx;generalize upd H1 l (-[V.str "has",V.str "names"])=H2 at s2 ad ah ay ak al⊢;cases hk:mZ kd with
  |true=>
   refine lc ((AcB kd).trans hk) ?_
   rw[0,0,px,ax,0,al,oS,0,px,t,kd,z,qs,1,ah,hq,ad,()]
   let aP:=(WT hq z hk).1;let fin:∀(v6:V) (H6:Hp),ic H2 H6->Is H6 (Jz qs kd z) v6->AdV av v6 H6 (λv H'=>Q v H'):=λv6 H6 s6 i6=> .mk an (Jz qs kd z) (ak.mono s6.tk) i6 aa (Lx (.inr aP)).1 () (k _ _ (s2.trans s6) ((Zb ac).trans ⟨λq=>[aq:.inl [hk:q]],λq=>by
    rcases q.2 with q|⟨q,_⟩
    .exact q.2
    .rw[hk,0] at q⟩))
   let aA:kd="has"\/kd≠"has"/\kd="names":=by
    unfold mZ at hk;by_cases c:kd="has"
    .exact .inl c
    .rw[ui c,TU] at hk;exact .inr [c:ur hk]
   rcases aA with c|⟨c',c⟩
   .refine .inl [c:fin _ H2 (ic.refl _) ?_];unfold Jz;rw[A6 c];exact Qy (by split<;>decide)
   .refine .inr [c:λv6 H6 s6 i6=>fin v6 H6 s6 ?_];unfold Jz;rwa[A4 c']
  |false=>
   refine iQ ((AcB kd).trans hk) (q2 _ _ ?_);let U:Aao qs ers kd z an↔(kd="thing"\/kd="rule")/\((g0D z (qJ qs z)=U_/\an=(oI (qJ qs z)).getD .non)\/((∃s,g0D z (qJ qs z)=u_ s)/\z>ers.map (·.1)/\qJ ers z=-[-"said",an])):=by
    rw[_,λq=>?_,λq=>[aq:.inr [hk:q]]];rcases q.2 with⟨q,_⟩|q
    .rw[hk,0] at q
    .exact q.2
   rw[8,N3,q3]
   rw[0,t,_,_,0,1,SqT.of ad,qF (j:=0) rfl,sml rfl,λl2 aQ=>?_];let m3:=qf aQ (-[V.str "thing",V.str "rule"])
   rw[_,l2,0,.inr (SqT.of qg),1,1,0];let aB:inV (V.str kd) [V.str "thing",V.str "rule"]=decide (kd>(["thing","rule"]:oj Str)):=JU kd ["thing","rule"];let s3:=s2.trans m3;let am:=m3 _ _ ad;let aC:=ah.same m3;let aD:=ay.same m3;let aE:=ak.mono m3.tk;let aF:=m3 _ _ al;generalize upd H2 l2 (-[V.str "thing",V.str "rule"])=H3 at s3 am aC aD aE aF⊢;by_cases Z:kd="thing"\/kd="rule"
   .refine iQ (by rw[aB,uc (by rcases Z with rfl|rfl<;>simp)];rfl) (q3 _ _ ?_)
    rw[8,N4,q4]
    rw[0,px,ax,0,aF,yE,0,t,_,_,0,1,SqT.of am,qF (j:=1) rfl,px,z,qs,1,aC,λsv h1 h2=>q4 _ _ ?_];rw[8,N5,q5];erw[Ak hq h1 h2,d,aG,hd,aR,aS]
    rw[0,sv,d,1,aG,hd,λH4 s4=>[0:?_]];rw[aS];let ae:=s3.trans s4;let aT:=s4 _ _ am;let af:=aE.mono s4.tk;cases hg:g0D z (qJ qs z) with
    |some sz=>
     refine lc rfl ?_;rw[hg] at U;erw[aD.same s4,vs,aH,a5,aU,aV]
     rw[0,ed,1,.inl [_:.inl aH],0,t,_,_,0,1,SqT.of aT,qF (j:=1) rfl,_,mP.k (k:=Vf z) aH];let aI:sND (-[-"said",an])=true:=ny.nl ac;by_cases cz:z>ers.map (·.1)
     .erw[aV z cz,v,l1,l2];erw[aM z cz,k1,x1,e1,n1,n2,_];rw[l1]
      rw[0,sml rfl,λt5 h5=>?_];let m5:=qf h5 (-[V.str "said",av]);refine .mk (qJ ers z) (-[-"said",an]) (l2.mono m5.tk) (Is.new (ds:= [-"said",an]) (_,0,Qy (),_,0,af,1) h5) (by rw[e1];exact ny.nl n1) aI (by rw[e1];simp![dp,dpL];omega) (k _ _ (ae.trans m5) ?_)
      rw[Zb (by rw[e1];exact ny.nl n1),U]
      rw[_,λq=>[Z:.inr [⟨0⟩:cz:q]],λq=>?_];rcases q.2 with⟨q,_⟩|q
      .rw[q,0]
      .exact q.2.2
     .rw[Wl (λy=>cz ((aU z).mp y))]
      rw[0,sml rfl,λt5 h5=>?_];let m5:=qf h5 (-[V.str "said",av]);refine .mk .non (-[-"said",an]) rfl (Is.new (ds:= [-"said",an]) (_,0,Qy (),_,0,af,1) h5) rfl aI (by simp[dp]) (k _ _ (ae.trans m5) ?_)
      rw[U]
      rw[_,λq=>by simp[eqD] at q,λq=>?_]
      rcases q.2 with⟨q,_⟩|q
      .rw[q,0]
      .exact A8 q.2.1 cz
    |none=>
     refine iQ rfl (q5 _ _ ?_);rw[hg] at U;let aJ:Aao qs ers kd z an↔an=(oI (qJ qs z)).getD .non:=by
      refine U.trans [λq=>?_:λq=>[Z:.inl [1:q]]];rcases q.2 with q|⟨⟨_,q⟩,_⟩
      .exact q.2
      .rw[q,0]
     let ag:=aG.mono s4.tk
     rw[0,0,1,0];by_cases c:z>qs.map (·.1)
     .erw[Jq hq c,_,kk,e,ao,_,aW];rw[ao] at hg;let aK:kk="leaf":=by
       by_cases ck:kk="leaf"
       .exact ck
       .unfold g0D at hg
        try dsimp only at hg
        rw[A4 ck] at hg;split at hg<;>cases hg
      have hT:=(aW (by rw[aK];decide+kernel)).2
      rw[aR,ao] at ag;erw[ag,ts,us,rfl,aX,w1,r1,rfl,_,w2,r2,rfl,aY,aZ];rw[show r2= [] from aZ,0]
      refine iQ (ui (λz=>by rw[z,0])) ?_
      rw[0,ts,_,_,0,1,SqT.of aX,qF (j:=1) rfl];refine .mk an e af aY aa (Lx (.inr hT)).1 () (k _ _ ae ((Zb ac).trans (Tp ?_ aJ.symm)))
      rw[ao,aK];exact Hh
     .rw[h2 c,0];refine lc (uc rfl) ?_;refine .mk an .non af rfl aa rfl () (k _ _ ae ((Zb ac).trans (Tp ?_ aJ.symm)))
      rw[yY c];exact Hh
   .refine lc (by rw[aB,ui (by simpa using Z)];rfl) ?_
    exact(k Vd _ s3 ⟨λq=>(by rw[q,0]),λq=>A8 (U.mp q).1 Z⟩)
 rw[0,t,_,_,0,1,SqT.of ht,qF (j:=0) rfl,1,0];by_cases ck:kd="names"
 .exact iQ (by simp[ck]) (iQ rfl (ap (λq=>A8 ck q) H (ic.refl _)))
 .refine lc (by simpa using ck) ?_
  rw[0,t,_,_,0,1,SqT.of ht,qF (j:=1) rfl,!z,!z,1,Qy (),λH1 s1=>[0:?_]]
  rw[show mK (!z)=nm z from rfl]
  cases hn:nm z with
  |true=>exact iX (ap (λ_=>hn) H1 s1)|false=>
   refine ky (k Vd _ s1 ⟨λq=>(by rw[q,0]),λq=>?_⟩)
   have:=q.1 ck;rw[hn,0] at this
abbrev RtA (qs ers:oj (Str×D))(x:D):Prop:=∃kd z an,x= .tup [-[!kd,!z],an]/\Aao qs ers kd z an
abbrev rtB (qs ers:oj (Str×D)) (x:D):Bool:= @decide (RtA qs ers x) (FR _)
variable {ers:oj (Str×D)}
def As {x:D}:rtB qs ers x=v_↔RtA qs ers x:= @decide_eq_true_iff _ (FR _)
def Nc {an:D}:Aao qs ers kd z an↔RtA qs ers (-[-[!kd,!z],an]):=⟨λh=>(kd,z,an,1,h),λ⟨_,_,_,e,h⟩=>by rw[e,0];exact h⟩
abbrev C7 (x:D):Prop:=∃(kd z:Str) (an:D),x= .tup [-[!kd,!z],an]/\↑z<=1000/\(an= .non\/isT an=v_)
def Adw (hq:QT qs){x:D}(h:C7 x)(h2:RtA qs ers x):Acx x:=by
 erw[h,kd,z,an,rfl,_,ha];let hr:=Nc.mpr h2;rw[_,kd,z,an,1,λhu=>?_];rcases hr.2 with⟨hh,e⟩|⟨hh,U,_⟩
 .rw[e];exact(WT hq z hh).2
 .let Z:kd="thing":=by
   rcases U with U|U
   .exact U
   .rw[U] at hu;exact A8 hu ()
  subst Z;rcases ha with rfl|ha
  .rfl
  .unfold Bb;cases jN an with|true=>rw[A6 rfl];exact uc rfl|false=>rw[A4 uf,A6 ha,A4 (),uc rfl,Fp]
inductive Lg (CP:Addr):Sp
 |mk (px sd ed ts ta:Addr)(us:List V)(ev:V)(m:Str)(as:List D)(en:D)(qs ers es:List (Str×D))(_:vs= [-px,-sd,-ed,-ts])(_:H ts=u_ (-[!m,-ta,ev]))(_:H ta=u_ (¬us))(_:L2.IsL H as us)(_:Is H en ev)(_:ym CP H px qs)(_:QT qs)(_:TbL H sd es)(_:TbL H ed ers)(_:∀x>as,C7 x)(_:ny en)(_:∀x>ers.map (·.1),ny (qJ ers x))(_:∀x>es.map (·.1),ny (qJ es x))(_:∀(v:V)(H':Hp),ic H H'->(sX qs ers es (m,as,en)->v= .non)->(¬sX qs ers es (m,as,en)->∃w,v= !w)->Q v H')
def LI:#[C,12,a.ZV,a.Zz,["project","ends","earlier","step"],(Lg a.qK)]:=by
 let zW:=#[CF,T,C];let WP:=#[oO,T];let qO:=#[Yl,T];let aM:=#[El,T,C];refine T.mE.F.ok YN () (λ_ _ _ s H vs Q E hr h=>?_)
 erw[h,px,sd,ed,ts,ta,us,ev,m,as,en,qs,ers,es,rfl,ah,ay,ao,ie,hP,hq,hS,hT,aA,aB,aN,aO,k];let hs:=uD;erw[id hP,aP,bq,op,bt,hx,_];let aC:↑us=↑as:=↑ao;let bad:∀(w:Str) (H':Hp),ic H H'->¬sX qs ers es (m,as,en)->Q (!w) H':=λw H' s' hb=>k _ _ s' (λq=>A8 q hb) λ_=>[w:1];rw[3,%[#[qE,(4),YN.nd,#[qG,qC,pv 3,qh]],#[qE,(5),YN.nd,#[qG,qC,pv 3,qh]],#[qE,(6),YN.nd,#[Qn,pv 0,T.Q3,T.ii,qO,#v[pv 4]]],@qI _ _ _ _ _ _ _ _ #[zA,#[wt,#[pc_din,QO hr,pv 4,pv 2]],#[Jm,#[Qr,#[Qd,#[qp,WP,T.mO,#v[pv 6]]]]]].pt %[|#[qo,ql]] qr,#[qI,#[Qr,#[Qd,#[qx,#[zi,1,rfl],T.z_all,HW,#v[#[XI,2,["ask","answer","project","earlier"],(2),[0,2],9,Nx (qj jp) ["project","ends","earlier","step","name","end","source"],rfl,#[Zi,#[qG,qC,pv 3,qh]],(λ_ _ _ _ _ _=>#[DQ,1,K,3,(2),1,rfl,rfl,Qt #[qM,(0),(show Vr (["ask","answer","project","earlier"]:oj Str) by decide+kernel)] (Qt #[qM,(1),(show Vr (["ask","answer","project","earlier"]:oj Str) by decide+kernel)] xl),_,_]),(λ_ _ _ _ _ _=> @yd _),(λ_ _ _ _ _ _=>#[qp,zW,T.lQ,#v[pv 2,pv 3,pv 0,pv 1]]),_]]]]],%[|#[qo,ql]],qr],#[qI,#[Qr,#[Qd,#[qp,aM,T.my,#v[pv 6,pv 4,#[qG,qC,pv 3,qh],pv 5]]]],%[|#[qo,ql]],qr],@qI _ _ _ _ _ _ _ _ #[jT,#[qm,Qg,#[qG,qC,pv 5,qh],ql],@YJ _ _ _ _ #[zA,#[wt,#[oB,5,QO hr,#[qG,qC,pv 5,qh],pv 1]],#[Jm,#[qm,Qg,#[qG,qC,#[QC,pv 1,#[qG,qC,pv 5,qh]],qh],ql]]].pt].pt %[|#[qo,ql]] qr|#[qo,qR]]]
 rw[8,N1,q1]
 rw[0,ts,_,_,0,1,SqT.of ah,qF (j:=0) rfl,q1 _ _ ?_];rw[8,N2,q2]
 rw[0,ts,_,_,0,1,SqT.of ah,qF (j:=2) rfl,q2 _ _ ?_];rw[8,N3,q3]
 rw[0,px,aP,0,hx,yE,0,px,m,qs,1,hP,λsv h1 h2=>q3 _ _ ?_];rw[8,N4,q4];erw[Ak hq h1 h2,d,ap,hd,aQ,aR];erw[id hT,vs,aS,bu,aT,aU]
 rw[0,0,ed,0,mP.k (k:=Vf m) aS,0];by_cases ac:m>ers.map (·.1)
 .erw[aU m ac,v,l1,_];rw[l1];exact lc rfl (bad _ _ (ic.refl _) λq=>q.nw ac)
 rw[Wl (λy=>ac ((aT m).mp y))];refine iQ rfl ?_
 rw[0,sv,d,1,ap,hd,λH1 s1=>[0:?_]];rw[aR];cases hg:g0D m (qJ qs m) with
 |none=>
  refine ky (bad _ _ s1 λq=>?_);erw[q.rn,_,q];rw[show g0D m (qJ qs m)=U_ from hg] at q
  rw[q,0]
 |some sm=>
 refine iX (q4 _ _ ?_);let aV:=(Q7 qs).gn m sm hg;erw[Jq hq aV,aW,kk,e0,ad,aq,ak];let aX:kk="rule"\/kk="made"/\∃z:Str,e0= !z:=by
  by_cases c:kk="made"
  .erw[aq c,z,e,_,<-.inr [c:z:e]]
  .rcases(ak c).1 with c'|c'
   .rw[ad,c'] at hg;unfold g0D at hg
    try dsimp only at hg
    rw[A6 rfl,0] at hg
   .exact .inl c'
 rw[8,N5,q5];let aD:=s1 _ _ ah;let am:=s1 _ _ ay
 rw[0,ts,_,_,0,1,SqT.of aD,qF (j:=1) rfl,ta,us,1,SqT.of am,λaY A0 aE=>?_];refine AbD (tl:= [u_ (-px),u_ (-ed)]) (λi ys H'=>ys=((as.take i).map (rtB qs ers)).map V.bl/\ic H1 H') am aY [1:qf aE _] (λi ys H' h=>h.2) ?_ ?_
 .rintro i x ys H' w0 w1 hx ⟨rfl,s'⟩ aZ;let hi:i<↑as:=by rw[<-aC];exact(Ag.mp hx).1
  erw[ao.get (i:=i) (d:=as[i]) (ug hi),x',aF,ix];rw[hx,0] at aF;erw[aA _ (uU hi),kd,z,an,e,aG,a1];let au:=s1.trans s';rw[e] at ix;erw[ix.mono au.tk,t6,w6,rfl,a2,x7,r7,rfl,i7,x8,r8,rfl,i8,a3];rw[show r8= [] from a3,0]
  erw[i7,t7,w7,rfl,a4,x9,r9,rfl,[rfl,bv],xa,ra,rfl,[rfl,bp],a5];rw[show ra= [] from a5,0]
  rw[_,t6,0,SqT.of a2,1]
  rw[_,_,0,_,0,1]
  try dsimp![YD,nH,GB]
  rw[A6 rfl]
  rw[0,0,0,0,px,ed,t7,x8,kd,z,an,qs,ers,1,a4,hP.same au,hq,hT.same au,i8,aG,a1,aN,λb H3 s3 hb=>?_];let a6:b=rtB qs ers as[i]:=Bool.eq_iff_iff.mpr (hb.trans (Nc.trans (by rw[e];exact As.symm)))
  subst a6
  rw[5]
  refine(s3 _ _ aZ,[_:0],?_,λb o e=>by rw[qi (qk e aE)];exact s3 _ _ (s' _ _ e))
  rw[vi,ug hi,uA,uA]
  rfl
 rintro ys H2 ⟨rfl,s2⟩ a7
 rw[_,A0,0,SqL.of a7];rw[aC,U1];let Z:=s1.trans s2;by_cases U:∀x>as,RtA qs ers x
 .let aw:(as.map (rtB qs ers)).all id=true:=List.all_eq_true.mpr λb hb=>by
   erw[Af.mp hb,x,hx,rfl,<-As.mpr (U x hx)]
  rw[aw]
  rw[0,iX (q5 _ _ ?_)];rw[8,N6,q6];let aH:=Z _ _ ay;let aI:=Z _ _ ah;rw[aQ,ad] at ap
  rw[0,0,0,ts,_,_,0,1,SqT.of aI,qF (j:=1) rfl,0,sv,m,ta,us,ev,kk,e0,as,en,1,ap.mono Z.tk,aX,aW,aH,ao.mono Z.tk,λx hx=>Adw hq (aA x hx) (U x hx),ie.mono Z.tk,aB,λb H3 s3 hb=>[0:?_]];let aa:=Z.trans s3;cases b with
  |false=>
   refine ky (bad _ _ aa λq=>?_);have:=q.fu;rw[show qJ qs (m,as,en).1=_ from ad] at this
   have:=hb.mpr this;rw[this,0]
  |true=>
  refine iX (q6 _ _ ?_);let ae:=hb.mp rfl;rw[<-ad] at ae;rw[8,N7,q7];let a8:=ie.mono aa.tk;erw[id aB,a9,ex,af,_,_,bb];let aJ:=a8;rw[af] at aJ;erw[aJ,te,ue,rfl,ax,v1,r1,rfl,[rfl,_],v2,r2,rfl,bc,bd];rw[show r2= [] from bd,0]
  let iZ:(∀z,en=Dh z->z>es.map (·.1)/\YX (qJ es z)=U_)->sX qs ers es (m,as,en):=λq=>(ac,[sm:hg],U,ae,q);let fin:∀H',ic H H'->sX qs ers es (m,as,en)->Q .non H':=λH' s' hb=>k _ _ s' (λ_=>rfl) λq=>A8 hb q
  rw[0,te,_,_,0,1,SqT.of ax,qF (j:=0) rfl,1,0];by_cases ck:a9="stuck"
  .refine lc (uc (by rw[ck])) ?_
   erw[bb ck,z,hz];subst ck hz;erw[bc,rfl,aG];erw[hS.same aa,bw,aK,bx,bf,bg]
   rw[0,te,_,_,0,1,SqT.of ax,qF (j:=1) rfl,0,sd,0,mP.k (k:=Vf z) aK,0];by_cases cz:z>es.map (·.1)
   .erw[bg z cz,lv,l1,l2];erw[aO z cz,k',x',aL,_,_,_];rw[aL] at l2;erw[l2,tz,uz,ez,bh,y1,z1,rfl,[rfl,_],_];rw[ez] at l1;rw[l1];refine iQ rfl ?_
    rw[0,0,te,_,_,0,1,SqT.of ax,qF (j:=1) rfl,sd,0,(by rw[<-l1];exact mP.k (k:=Vf z) aK),tz,_,_,0,1,SqT.of bh,qF (j:=0) rfl,1,0]
    let ag:YX (qJ es z)=if k'="said" then u_ x' else none:=by rw[aL];rfl
    by_cases al:k'="said"
    .refine lc (uc (by rw[al])) (bad _ _ aa λq=>?_)
     have:=(q.st z af).2;rw[ag,A6 al,0] at this
    .refine iQ (ui (λy=>al (V.str.inj y))) (q7 _ _ (fin _ aa (iZ λz' bo=>?_)));have:z=z':=AaP (af.symm.trans bo);subst this;exact⟨cz,by rw[ag,A4 al]⟩
   .rw[Wl (λy=>cz ((bf z).mp y))];exact lc rfl (bad _ _ aa λq=>cz (q.st z af).1)
  .refine iQ (ui (λy=>ck (V.str.inj y))) (iQ rfl (q7 _ _ (fin _ aa (iZ λz hz=>?_))));exact A8 (Lb (af.symm.trans hz)).1 ck
 .let aw:(as.map (rtB qs ers)).all id=false:=Bool.eq_false_iff.mpr λq=>U λx hx=>As.mp (List.all_eq_true.mp q _ (Af.mpr [x:hx:1]));rw[aw];exact[0:ky (bad _ _ Z λq=>U q.an)]
abbrev stD (s:Str×oj D×D):D:=-[.str s.1,.tup s.2.1,s.2.2]
structure ShS (n:Nat)(s:Str×oj D×D):Prop where
 nl:↑s.1<=1000
 an:∀x>s.2.1,C7 x
 few:↑s.2.1<=400+n
 en:ny s.2.2
def Ic (ps:Pp):↑(mr ps)=↑ps:=by unfold mr;rw[u9]
variable {i:Nat}
def SS {ps:Pp}(hi:i<↑ps):(mr ps)[i]? =u_ (ps[i].1,ps[i].2.2):=by
 unfold mr;rw[uK,ug hi]
 rfl
def Aay (ps:Pp)(i:Nat):(mr ps).take i=mr (ps.take i):=by unfold mr;rw[<-Hv]
variable {n:Nat}
def Id {ps:Pp}(h:∀s>ps,ShS n s):∀x>(mr ps).map (·.1),ny (qJ (mr ps) x):=λx U=>by
 erw[Ie U,j,s,Z,_,e];rw[e];exact(h s (uX Z)).en
inductive Lo:Sp
 |mk (t:Addr)(us:List V)(ps:Pp)(_:vs= [-t])(_:H t=u_ (¬us))(_:L2.IsL H (ps.map stD) us)(_:↑ps<=1000)(_:∀d H',H d=U_->ic H H'->TbL H' d (mr ps)->Q (-d) H')
inductive Dz (CP:Addr):Sp
 |mk (px t:Addr)(us:List V)(qs:List (Str×D))(ps:Pp)(n:Nat)(_:vs= [-px,-t])(_:H t=u_ (¬us))(_:L2.IsL H (ps.map stD) us)(_:ym CP H px qs)(_:QT qs)(_:∀s>ps,ShS n s)(_:↑ps<=1000)(_:∀v H',ic H H'->(W1 qs ps->v= .non)->(¬W1 qs ps->v≠ .non)->Q v H')
abbrev shD (qs:oj (Str×D)) (ps:Pp) (n:Str):D:=if n>(mr ps).map (·.1) then yb (qJ (mr ps) n) else yZ (qJ qs n)
inductive Lh (CP bn:Addr):Sp
 |mk (px t:Addr)(us:List V)(m:Str)(qs:List (Str×D))(ps:Pp)(n:Nat)(_:vs= [-px,-t,!m])(_:H t=u_ (¬us))(_:L2.IsL H (ps.map stD) us)(_:ym CP H px qs)(_:QT qs)(_:∀s>ps,ShS n s)(_:↑ps<=1000)(_:nm m=v_)(_:∀v H',ic H H'->(W1 qs ps->Is H' (shD qs ps m) v)->(¬W1 qs ps->v= .non)->Q v H')
def BH:#[T,1,a.Z7,a.Z8,["paper"],Lo]:=by
 refine T.iU.F.ok yV () (λ_ _ _ _ H vs Q E hr h=>?_)
 erw[h,t,us,ps,rfl,ht,ad,hl,k];let hs:=uD;let ae:↑us=↑ps:=by rw[↑ad,u9]
 rw[3,%[#[qE,(1),yV.nd,xw],#[y8,#[Kb,pv 0],#[Ka,Qt #[qM,(2),yV.nd] (Qt #[qM,(3),yV.nd] (Qt #[qM,(4),yV.nd] xl))],%[|#[qW,#[LD,9,pv 1,pv 2,pv 4,(1,1,1,1)]]]]|#[qo,pv 1]]]
 rw[8,N1,q1];refine λd hd=>q1 _ _ ?_;let m0:=qf hd (.dK ([]:oj (Key×V)));let af:TbL (upd H d (.dK [])) d []:=([],qg,uq _,λ_=>Hh,λz hz=>by rw[hz,0])
 generalize upd H d (.dK [])=H0 at m0 af⊢;rw[8,N2,q2]
 rw[0,t,1,[_:SqT.of (m0 _ _ ht)]]
 refine_lift let J_:Nat->L2.St->Hp->Prop:=λi σ H'=>(∃u2 u3 u4,σ= [u_ (-t),u_ (-d),u2,u3,u4])/\ic H H'/\TbL H' d ((mr ps).take i);?_
 refine Zs (xs:=us) J_ [[_:_:0]:m0:af] (λi σ H' _ h=>SqT.of (h.2.1 _ _ ht)) ?_ ?_
 .rintro i x σ H1 hx ⟨⟨u2,u3,u4,rfl⟩,s1,vs,U,Z,aa,ac⟩;let hi:i<↑ps:=by rw[<-ae];exact(Ag.mp hx).1
  obtain⟨x',ag,ix⟩:=ad.get (i:=i) (d:=stD ps[i]) (by rw[uK,ug hi];rfl)
  rw[hx,0] at ag;erw[ix,tt,ut,rfl,ak,y1,r1,rfl,[rfl,_],y2,r2,rfl,_,y3,r3,rfl,i3,al];rw[show r3= [] from al,0]
  rw[_,tt,0,SqT.of (s1 _ _ ak),1,_,0,_,0,_,0,1];let am:↑vs<=1000:=by
   rw[uM,Ic] at Z;omega
  rw[5]
  refine(0,d,1,.inl [_:.inl U],0,0,iJ vs,Vf ps[i].1,U,1,by unfold iJ;rw[u9];omega,λv hv=>?_,λah=>?_)
  .rw[_,[_:_:0],s1];rw[vi,SS hi];refine TbL.skip _ (vs,U,Z,aa,ac) ((aa _).mp (RN λq=>?_));rw[Wl q,0] at hv
  .rw[_,[_:_:0],λb o e=>?_,?_]
   .rw[qi (qk e hd)];exact s1 _ _ e
   .rw[vi,SS hi];refine TbL.put U Z aa ac (λq=>?_) (i3.mono s1.tk);erw[ac _ q,v,hv,_];rw[hv,0] at ah
 .rintro σ H1 ⟨⟨u2,u3,u4,rfl⟩,s1,hT⟩;refine q2 _ _ [0:k d H1 hd s1 ?_];rwa[ae,<-Ic,U1] at hT
def oP:#[C,13,a.X5,a.zu,["project","paper"],(Dz a.qK)]:=by
 let xi:=#[BH,T];let U:=#[LI,T,C];refine T.iO.F.ok Q6 () (λ_ _ _ s H vs Q E hr h=>?_)
 erw[h,px,t,us,qs,ps,n,rfl,ht,ac,hP,hq,ad,hl,k];let ax:=Id ad;let Z:=uD;let ag:↑us=↑ps:=by rw[↑ac,u9]
 rw[3,%[#[qE,(2),Q6.nd,#[qp,xi,T.iU,#v[pv 1]]],#[qE,(3),Q6.nd,xw],#[y8,#[BE,8,_,T.WU,pv 1,_],#[Ka,Qt #[qM,(4),Q6.nd] (Qt #[qM,(5),Q6.nd] xl)],%[#[qE,(6),Q6.nd,#[qp,U,T.mE,#v[pv 0,pv 2,pv 3,pv 5]]],#[qI,#[qm,jw,pv 6,qR],%[|#[qo,#[qD,#v[pv 4,pv 6]]]],qr]|#[Jh,pv 3,#[qG,qC,pv 5,qh],#[qG,qC,pv 5,qh]]]]|#[qo,qR]]]
 rw[8,N1,q1]
 rw[0,t,us,ps,1,ht,ac,hl,λsd H1 aH s1 hS=>q1 _ _ ?_];rw[8,N2,q2];refine λed ah=>q2 _ _ ?_;let m2:=qf ah (.dK ([]:oj (Key×V)));let ak:TbL (upd H1 ed (.dK [])) ed []:=([],qg,uq _,λ_=>Hh,λz hz=>by rw[hz,0])
 let s2:=s1.trans m2;let ay:=hS.same m2;generalize upd H1 ed (.dK [])=H2 at m2 ak s2 ay⊢;rw[8,N3,q3]
 rw[0,t,us,1,SqT.of (s2 _ _ ht),λhsz=>?_]
 refine_lift let J_:Nat->L2.St->Hp->Prop:=λi σ H'=>(∃u4 u5 u6,σ= [u_ (-px),u_ (-t),u_ (-sd),u_ (-ed),u4,u5,u6])/\ic H1 H'/\TbL H' ed ((mr ps).take i)/\∀j s,j<i->ps[j]? =u_ s->sX qs (mr (ps.take j)) (mr ps) s;?_
 refine NK (c:=0) (xs:=us) J_ ([_:_:0],m2,ak,λj s hj=>A8 hj (HS j)) (λi σ H' hi h=>SqT.of (h.2.1 _ _ (s1 _ _ ht))) ?_ ?_
 .rintro i y σ H' p hy ⟨⟨u4,u5,u6,rfl⟩,s',al,ae⟩ hp;let hi:i<↑ps:=by rw[<-ag];exact(Ag.mp hy).1
  obtain⟨y',am,iy⟩:=ac.get (i:=i) (d:=stD ps[i]) (by rw[uK,ug hi];rfl)
  rw[hy,0] at am;let m4:=qf hp (-[.int (0+(i:Int)),y]);let e4:(upd H' p (-[.int (0+(i:Int)),y])) p=u_ (-[.int (0+(i:Int)),y]):=qg;let s4:=s'.trans m4;let aa:=al.same m4;generalize upd H' p (-[.int (0+(i:Int)),y])=H4 at m4 e4 s4 aa⊢;let ao:=s1.trans s4;erw[iy.mono ao.tk,tt,ut,rfl,af,y1,r1,rfl,[rfl,_],y2,r2,rfl,i2,y3,r3,rfl,i3,aA];rw[show r3= [] from aA,0]
  erw[i2,ta,ua,rfl,aB,aC]
  rw[_,p,0,SqT.of e4,1,_,0,_,0,1];show nz _ _ _ _ H4;rw[8,B1,b1];let ap:=ad _ (uU hi);rw[Aay] at aa
  rw[0,0,0,0,px,sd,ed,tt,ta,ua,y3,ps[i].1,ps[i].2.1,ps[i].2.2,qs,mr (ps.take i),mr ps,1,af,aB,aC,i3,hP.same ao,hq,hS.same s4,aa,ap.an,ap.en,Id λs Z=>ad s (vG Z),ax,λwv H5 s5 aD aE=>b1 _ _ ?_];rw[8,B2,b2]
  rw[0,1,0];let aq:=s4.trans s5;by_cases c:sX qs (mr (ps.take i)) (mr ps) ps[i]
  .rw[aD c,0];refine iQ rfl (b2 _ _ ?_);erw[aa.same s5,vs,au,aw,aF,aG];let aI:↑vs<=1000:=by
    rw[Ic,uM] at aw;omega
   rw[0,tt,_,_,0,1,SqT.of (s5 _ _ af),qF (j:=2) rfl,0,0,tt,_,_,0,1,SqT.of (s5 _ _ af),qF (j:=0) rfl,ed,0,C6.k (k:=Vf ps[i].1) au (by unfold iJ;rw[u9];omega),[_:_:0],λb o e=>?_,?_,λj s hj Z=>?_]
   .rw[qi (qk e ah)];exact aq _ _ e
   .rw[vi,SS hi,Aay];exact TbL.put au aw aF aG c.nw (i3.mono s5.tk)
   .by_cases cj:j<i
    .exact ae j s cj Z
    .have:j=i:=by omega
     subst this;rw[ug hi,0] at Z;exact c
  .erw[aE c,wz,rfl];refine lc rfl ?_
   rw[0,0,sml rfl,λt6 h6=>?_];exact k _ _ ((s1.trans aq).trans (qf h6 _)) (λz=>A8 (z i _ (ug hi)) c) (λ_ z=>by rw[z,0])
 .rintro σ H' ⟨⟨u4,u5,u6,rfl⟩,s',al,ae⟩;refine q3 _ _ (k _ _ (s1.trans s') (λ_=>rfl) λhb=>A8 (λi s Z=>ae i s (by rw[ag];exact(Ag.mp Z).1) Z) hb)
def LJ (T:Tx K mg a)(C:Fx K w mg g a):FnOk P w K mg base (CX1 P w) 14 a.f_shown a.d_shown ["project","paper","name"] (Lh a.qK g.bn):=by
 let JT:=#[Nm,T,C];let Jg:=#[oP,T,C];let xi:=#[BH,T];let XH:=#[BJ,T];let Q4:=#[AA,T];let qO:=#[Yl,T];refine T.na.F.okX Bq () (λ_ _ _ _ H vs Q E Z h=>?_)
 erw[h,px,t,us,m,qs,ps,n,rfl,ht,ad,hP,hq,ae,hl,hn,k];let hs:=uD;let ap:=Xo hn;rw[3,%[#[qW,#[qp,16,JT,Z.mono (),_,T.iG.m,T.iG.F.kp,T.iG.b,.nil,Abl,#v[pv 2],_,_,_]],#[qI,#[qm,jw,#[qp,16,Jg,Z.mono (),_,T.iO.m,T.iO.F.kp,T.iO.b,.nil,qz,#v[pv 0,pv 1],_,_,_],qR],%[|#[qo,qR]],qr],#[qE,(3),Bq.nd,#[qp,16,xi,Z.mono (),_,T.iU.m,T.iU.F.kp,T.iU.b,.nil,qz,#v[pv 1],_,_,_]],#[qI,#[wt,#[pc_din,QO Z,pv 2,pv 3]],%[|#[qo,#[qp,16,XH,Z.mono (),_,T.jX.m,T.jX.F.kp,T.jX.b,.nil,qz,#v[#[QC,6,QO Z,pv 3,pv 2,(λ_ _=>rfl)]],_,_,_]]],qr]|#[qo,#[qp,16,Q4,Z.mono (),_,T.io.m,T.io.F.kp,T.io.b,.nil,qz,#v[#[Qn,20,pv 0,T.Q3,T.ii.h,qO,Z.mono (),T.ii.b,.nil,qz,#v[pv 2],_,_,_]],_,_,_]]]]
 rw[8,N1,q1]
 rw[5]
 refine(0,m,1,(),λ_ H1 s1=>q1 _ _ ?_,λz=>by rw[hn,0] at z)
 rw[8,N2,q2]
 rw[0,0,px,t,us,qs,ps,n,1,s1 _ _ ht,ad.mono s1.tk,hP.same s1,hq,ae,hl,λv H2 s2 h1 h2=>[1:0:?_]];let U:=s1.trans s2;by_cases hg:W1 qs ps
 .rw[h1 hg,0];refine iQ (by simp) (q2 _ _ ?_)
  rw[8,N3,q3]
  rw[0,t,us,ps,1,U _ _ ht,ad.mono U.tk,hl,λsd H3 aq s3 hS=>q3 _ _ ?_];rw[8,N4,q4];let ac:=U.trans s3;erw[id hS,vs,af,au,ah,ak]
  rw[0,0,sd,0,mP.k (k:=Vf m) af,0];by_cases c:m>(mr ps).map (·.1)
  .erw[ak m c,lv,l1,l2];rw[l1];refine lc rfl ?_;erw[Id ae m c,kk,ex,aa,_];rw[aa] at l2
   rw[0,0,sd,0,(by rw[<-l1];exact mP.k (k:=Vf m) af),_,kk,ex,1,l2,λu H4 s4 i4=>k _ _ (ac.trans s4) (λ_=>?_) λq=>A8 hg q]
   unfold shD;rwa[A6 c,aa]
  .rw[Wl (λy=>c ((ah m).mp y))];refine iQ rfl (q4 _ _ ?_);let ag:=hP.same ac;erw[id ag,al,aw,op,ax,hx,_]
   rw[0,px,al,0,hx,yE,0,px,m,qs,1,ag,λsv h1 h2=>?_];erw[Ak hq h1 h2,d,am,hd,ao,_]
   rw[_,sv,d,1,am,hd,λu H4 s4 i4=>k _ _ (ac.trans s4) (λ_=>?_) λq=>A8 hg q];unfold shD;rwa[A4 c,<-ao]
 .let hv:=h2 hg;exact lc (by simpa using hv) (k _ _ U (λq=>A8 q hg) λ_=>rfl)
def EB:∀{l m:oj Str},l.Nodup->(∀x>l,x>m)->↑l<=↑m
 | [],m,_,_=>uS _|x::r,m,hn,hs=>by
  rw[U7] at hn;let U:=hs x uj;let h:=EB (l:=r) (m:=m.erase x) hn.2 (λy Z=>(List.mem_erase_of_ne (λz=>hn.1 (by rwa[<-z]))).mpr (hs y (uh _ Z)))
  rw[List.length_erase_of_mem U] at h;have:0<↑m:=List.length_pos_of_mem U;rw[um];omega
def MJ {p:Gp}(h:GI p):↑(Yc p)<=400:=by
 let h1:=h.ra.2.2;unfold Yc;rw[uw];cases U:p.run with
 |none=>show _+0<=400;omega|some q=>
  erw[q,rs,r];let h2:=(h.run rs r U).2.1;let h3:=h2.gs.2.2;let h4:=h2.n;show _+↑r.gs<=400;omega
abbrev Acf (qs:oj (Str×D))(s:Str×oj D×D):Prop:=∃g,g0D s.1 (qJ qs s.1)=u_ g/\s.2.1=Yc (itP qs 302 g)/\s.2.2=C4 (itP qs 302 g)
def Ah (hq:QT qs){s:Str×oj D×D}(h:Acf qs s):nm s.1=v_/\s.1>qs.map (·.1)/\ShS 0 s:=by
 erw[h,g,e1,e2,e3];let ad:=(Q7 qs).gn _ g e1;let hn:=hq.1.1.1 _ ad;let aa:=(NB hq e1 302).1;let ac:=WR e1;refine(hn,ad,by have:=Xo hn;omega,λx hx=>?_,by rw[e2];exact MJ aa,?_)
 .rw[e2] at hx;erw[Ab6 hq e1 302 x hx,kd,z,an,rfl,ae,hc];rw[_,kd,z,an,1,ae];rcases hc with⟨hk,e⟩|⟨_,_,y,hy,e⟩
  .rw[e];exact .inr (WT hq z hk).1
  .rw[e];exact AdL hq z y hy
 .let Z:=(Adm aa ac).2.2;rw[<-e3] at Z;let hE:EnS s.2.2:=by
   rw[e3];unfold C4;cases he:(itP qs 302 g).en with
   |none=>rw[he,0] at ac|some e=>exact aa.en e he
  let U:∀{k:Str}{x:D},s.2.2= .tup [!k,x]->nD x=v_/\dp x<=40:=λ{k x} e=>by
   rw[e] at Z;simp![nD,nL,uF,dp,dpL] at Z;exact[Z.1.2.1:()]
  rcases hE with⟨z,e⟩|⟨x,e,_⟩|⟨z,e⟩
  .exact(_,_,e,(U e).1,(U e).2,λ_=>[z:1])
  .exact(_,_,e,(U e).1,(U e).2,λq=>A8 q ())
  .exact(_,_,e,(U e).1,(U e).2,λ_=>[z:1])
abbrev StR (qs:oj (Str×D))(R:Pp):Prop:=(∀s>R,Acf qs s)/\(R.map (·.1)).Nodup
def StR.len (U:QT qs){R:Pp}(h:StR qs R):↑R<=60:=by
 have:=EB h.2 (m:=qs.map (·.1)) λz hz=>by
  erw[Af.mp hz,s,Z,rfl,<-(Ah U (h.1 s Z)).2.1]
 rw[u9,u9] at this;have:=U.2.2;omega
abbrev AdZ:D->Str
 | .tup (.str z::_)=>z|_=>""
def Su {K:o0}{b A:o3}{H1:Hp}{tc:TT}{te:TE}{tl:L2.St}{Q:VK}{ds:oj D}{vs:oj V}(p:D->Bool)(f:D->D)(ha:H1 b=u_ (.lst vs))(hl:L2.IsL H1 ds vs)(hn:↑ds<=Vh)(hA:H1 A=U_)
  (aa:∀d x H (R:Bool->Hp->Prop),d>ds->ic H1 H->Is H d x->R (p d) H->tc (u_ x::tl) H R)
  (ac:∀d x H (R:VK),d>ds->p d=v_->ic H1 H->Is H d x->(∀y H',ic H H'->Is H' (f d) y->R y H')->te (u_ x::tl) H R)
  (hQ:∀H' ys,ic H1 H'->H' A=u_ (.lst ys)->L2.IsL H' ((ds.filter p).map f) ys->Q (-A) H'):AJ A (Itl K b) (YD 0) tc te (U_::tl) H1 Q:=by
 let ln:=↑hl;rw[_,↑ds,λi σ ys H=>(∃w,σ=w::tl)/\L2.IsL H (((ds.take i).filter p).map f) ys/\ic H1 H,hn,[[U_:1]:1:qf hA _],?_,?_]
 .rintro i σ ys H hi ⟨⟨w,rfl⟩,U,sm⟩ Z ae;let ad:i<↑vs:=by omega
  rw[_,(vs,vs[i],SqL.of (sm _ _ ha),ug ad)];rintro x H' ⟨rfl,hx⟩;let e:=hx vs (SqL.of (sm _ _ ha));erw[hl.get (ug hi),v,e1,e2];rw[e,0] at e1;let et:ds.take (i+1)=ds.take i++ [ds[i]]:=by rw[vi,ug hi];rfl
  try dsimp![YD,GB]
  refine aa ds[i] x H' _ (uU hi) sm (e2.mono sm.tk) ?_;cases hp:p ds[i] with
  |true=>
   refine ky (ac ds[i] x H' _ (uU hi) hp sm (e2.mono sm.tk) λy H2 s2 iy=>(s2 _ _ Z,⟨0⟩,?_,λc o e=>?_))
   .rw[et,V1,uA];have: [ds[i]].filter p= [ds[i]]:=by simp[hp]
    rw[this];let t:Tk H2 (upd H2 A (.lst (ys++ [y]))):=Tk.updL (s2 _ _ Z);exact((U.mono s2.tk).mono t).append (L2.IsL.one (iy.mono t))
   .rw[qi (qk e hA)];exact s2 _ _ (sm _ _ e)
  |false=>
   refine iX (Z,⟨0⟩,?_,sm);rw[et,V1];have: [ds[i]].filter p= []:=by simp[hp]
   rwa[this,vJ]
 .rintro σ ys H ⟨_,U,sm⟩ Z;rw[U1] at U;exact[[vs:SqL.of (sm _ _ ha):()]:hQ H ys sm Z U]
def YT (l:oj Str):(l.map V.str).all zY=true:=by
 rw[UV,Ua];intro z _
 rfl
def Ai {H:Hp}:∀{zs:oj Str}{vs:oj V},L2.IsL H (zs.map D.str) vs->vs=zs.map V.str
 | [],_,h=>h|z::r,_,h=>by
  erw[h,v,us,rfl,[rfl,_],h2];rw[Ai h2]
  rfl
def AbH (R:Pp):(R.map stD).map (λd=>D.str (AdZ d))=(R.map (·.1)).map D.str:=by
 rw[uP,uP]
 rfl
inductive Lw (CP:Addr):Sp
 |mk (px l:Addr)(zs:List Str)(qs:List (Str×D))(_:vs= [-px,-l])(_:H l=u_ (.lst (zs.map V.str)))(_:∀z>zs,nm z=v_)(_:ym CP H px qs)(_:QT qs)(_:∀r us E H',H r=U_->ic H H'->H' r=u_ (.lst us)->L2.IsL H' (E.map stD) us->StR qs E->Q (-r) H')
abbrev Ad3:D->D
 | .tup (k::_)=>k|d=>d
def SM (ps:oj (Str×D)):(ps.map prD).map Ad3=(ps.map (·.1)).map D.str:=by
 rw[uP,uP]
 rfl
def Ny {K:o0}{a A:o3}{H1:Hp}{te:TE}{tl:L2.St}{Q:VK}{ps:oj (Str×D)}{us:oj V}(ha:H1 a=u_ (.lst us))(hl:L2.IsL H1 (ps.map prD) us)(hn:↑ps<=60)(hA:H1 A=U_)
  (U:∀p x H (R:VK),p>ps->ic H1 H->Is H (prD p) x->(∀y H',ic H H'->Is H' (.str p.1) y->R y H')->te (u_ x::tl) H R)
  (hQ:∀H',ic H1 H'->H' A=u_ (.lst ((ps.map (·.1)).map V.str))->Q (-A) H'):AJ A (Itl K a) (YD 0) nH te (U_::tl) H1 Q:=by
 let hs:=uD;refine Sr (ds:=ps.map prD) Ad3 ha hl (by rw[u9];omega) hA (λd x H R hd s hx r=>?_) λH' ys s Z hy=>hQ H' s ?_
 .erw[Af.mp hd,p,hp,rfl,<-U p x H R hp s hx r]
 .rw[SM] at hy;rw[<-Ai hy];exact Z
abbrev IM (H:Hp)(d:o3)(ps:oj (Str×D)):Prop:=∃vs:oj (Str×V),H d=u_ (.dK (iJ vs))/\vs.map (·.1)=ps.map (·.1)/\L2.IsL H (ps.map (·.2)) (vs.map (·.2))
abbrev Am {β:Type}(ps:oj (Str×β))(z:Str)(e:β):oj (Str×β):=ps.map λp=>if p.1=z then(p.1,e) else p
def OW (vs:oj (Str×V))(z:Str)(v:V)(c:z>vs.map (·.1)):lV (iJ vs) (Vf z) v=iJ (Am vs z v):=by
 unfold lV;rw[A6]
 .unfold iJ Am;rw[uP,uP];refine Ur λp _=>?_;by_cases h:p.1=z
  .simp[h]
  .simp[h]
 .unfold iJ;rw[Hx,Te];erw[Af.mp c,p,U,e,<-⟨p,U,by simp[e]⟩]
def DB {H:Hp}{z:Str}{U:D}{u:V}(Z:Is H U u):∀{ps:oj (Str×D)}{vs:oj (Str×V)},vs.map (·.1)=ps.map (·.1)->L2.IsL H (ps.map (·.2)) (vs.map (·.2))->(Am vs z u).map (·.1)=(Am ps z U).map (·.1)/\L2.IsL H ((Am ps z U).map (·.2)) ((Am vs z u).map (·.2))
 | [],[],_,_=>[1:1]| [],_::_,e,_=>by simp at e|_::_,[],e,_=>by simp at e|p::ps,v::vs,e,h=>by
  simp![uC,U6] at e;erw[h,u',r,e2,h1,h2];simp![uC,U6] at e2;erw[e2,rfl,rfl];erw[DB (z:=z) Z e.2 h2,i1,i2];rw[show Am (p::ps) z U=(if p.1=z then(p.1,U) else p)::Am ps z U from rfl,show Am (v::vs) z u=(if v.1=z then(v.1,u) else v)::Am vs z u from rfl]
  by_cases c:p.1=z
  .rw[A6 c,A6 (e.1.trans c)];rw[_,?_,(_,0,Z,i2)];rw[uC,uC,i1];exact Aa (·::_) e.1
  .rw[A4 c,A4 (λq=>c (e.1.symm.trans q))];rw[_,?_,(_,0,h1,i2)];rw[uC,uC,i1];exact Aa (·::_) e.1
def IM.up {d:o3}{ps:oj (Str×D)}{vs ws:oj (Str×V)}(hd:H d=u_ (.dK (iJ vs)))(h1:ws.map (·.1)=ps.map (·.1))(h2:L2.IsL H (ps.map (·.2)) (ws.map (·.2))):IM (upd H d (.dK (iJ ws))) d ps:=
 (ws,qg,h1,h2.mono (Tk.updD hd))
def qaG {β:Type}(z:Str)(e:β):∀ps:oj (Str×β),(Am ps z e).map (·.1)=ps.map (·.1)
 | []=>rfl|p::r=>by
  rw[show Am (p::r) z e=(if p.1=z then(p.1,e) else p)::Am r z e from rfl,uC,uC,qaG z e r]
  split<;>rfl
def Mn {vs:oj (Str×V)}{ts:oj o3}(h:Za H (iJ vs) ts):↑ts=↑vs/\∀(j:Nat) (t:o3) (p:Str×V),ts[j]? =u_ t->vs[j]? =u_ p->H t=u_ (-[.str p.1,p.2]):=by
 refine⟨by have:=h.1;unfold iJ at this;rwa[u9] at this,λj t p h1 h2=>?_⟩
 have:=h.2 j t (Vf p.1,p.2) h1 (by unfold iJ;rw[uK,h2];rfl)
 exact this
def Mm {ps:oj (Str×D)}{vs:oj (Str×V)}{ts:oj o3}(h:Za H (iJ vs) ts)(U:vs.map (·.1)=ps.map (·.1))(Z:L2.IsL H (ps.map (·.2)) (vs.map (·.2)))(ho:MM ps):L2.IsL H (ps.map prD) (ts.map V.ref):=by
 erw[Mn h,h1,h2,<-Abe U Z h1 (λp hp=>by have:=Xo (ho.1.1 p.1 (Af.mpr [p:hp:1]));omega) h2]
def Aa1 {ps:oj (Str×D)}{d:D}(h:MM ps)(hd:qah d):MM (Am ps z d):=by
 refine⟨by rw[qaG];exact h.1,λp Z=>?_⟩
 erw[Af.mp Z,p0,U,rfl];split
 .exact hd
 .exact h.2 p0 U
inductive Dl (K:PySem.W.Frag):Sp
 |mk (L q:Addr)(ps:List (Str×D))(us:List V)(ns:List Int)(_:vs= [-L,-q])(_:H L=u_ (.lst us))(_:L2.IsL H (ps.map prD) us)(_:MM ps)(_:↑ps<=8)(_:∀p>ps,↑p.1<=4)(_:SqL K H q (ns.map V.int))(_:∀(t:Addr)(rs:List (Str×D))(ws:List V)(H':Hp),ic H H'->H' t=u_ (.lst ws)->L2.IsL H' (rs.map prD) ws->MM rs->↑rs<=8->Q (-t) H')
def EC {A b:o3}{H1:Hp}{te:TE}{Q:VK}{R:Pp}{us:oj V}(hb:H1 b=u_ (.lst us))(hl:L2.IsL H1 (R.map stD) us)(hn:↑R<=1000)(hA:H1 A=U_)
  (Z:∀ts ws s H (U:VK),H ts=u_ (.tup (V.str s::ws))->U (!s) H->te [u_ (-ts)] H U)
  (hQ:∀H',ic H1 H'->H' A=u_ (.lst ((R.map (·.1)).map V.str))->Q (-A) H'):AJ A (Itl K b) (YD 0) nH te [U_] H1 Q:=by
 refine Su (K:=K) (tl:= []) (λ_=>v_) (λd=>D.str (AdZ d)) hb hl (by rw[u9];exact yS hn) hA (λ_ _ _ _ _ _ _ h=>h) (λd x H U hd _ s' ix hR=>?_) λH' ys s' e i=>?_
 .erw[Af.mp hd,s,_,rfl];erw[ix,ts,ws,rfl,aa,w1,r1,rfl,[rfl,hw],_,<-Z ts _ _ H U aa (hR _ H (ic.refl _) [1:hw])]
 .rw[List.filter_eq_self.mpr (λ_ _=>rfl),AbH] at i;have:=Ai i;subst this;exact hQ H' s' e
def L6:#[C,17,a.JH,a.JS,["project","names"],(Lw a.qK)]:=by
 let ac:=#[Abs,T,C];let U:=#[LX,T,C];rw[9,T.lf,yq]
 erw[h,px,l,zs,qs,rfl,hl,aB,hP,hq,k];let hs:=uD;rw[3,%[#[qE,(2),yq.nd,#[QF,qd]],#[y8,#[jW,pv 1],#[qM,(3),yq.nd],%[|#[y8,#[Kb,#[qp,ac,T.sE,#v[pv 0,pv 3]]],#[qM,(4),yq.nd],%[|#[qI,#[qm,8,J0,pv 4,#[XI,["step"],[],IR,#[jW,pv 2],(λ_ _ _ _ _ _=>#[qM,(0),(show Vr (["step"]:oj Str) by decide+kernel)]),(λ_ _ _ _ _ _=>#[qG,#[zX,1,K,rfl],pv 0,qh])],#[w]],%[|#[qW,#[YQ,uO,vY,vZ,jK,pv 2,#v[#[qT,YE,#[qD,#v[pv 4]],#[qp,U,T.nh,#v[pv 0,pv 4]]]]]]],qr]]]]]|#[qo,pv 2]]]
 rw[8,N1,q1]
 rw[_,uS _,λL hL=>q1 _ _ ?_];let m1:=qf hL (.lst ([]:oj V));let e1:upd H L (.lst []) L=u_ (.lst []):=qg;generalize upd H L (.lst [])=H1 at m1 e1⊢;rw[8,N2,q2]
 rw[0,l,1,[_:SqL.of (m1 _ _ hl)]];let p0:StR qs []:=⟨λs hs=>(by rw[hs,0]),U2⟩
 refine_lift let J_:Nat->L2.St->Hp->Prop:=λi σ H'=>∃(us:oj V) (R:Pp) (u3 u4:om V),σ= [u_ (-px),u_ (-l),u_ (-L),u3,u4]/\ic H H'/\H' L=u_ (.lst us)/\L2.IsL H' (R.map stD) us/\StR qs R;?_
 refine wp (K:=K) (a:=l) (xs:=zs.map V.str) J_ ([],[],_,0,m1,e1,1,p0) (λi σ H' _ h=>by erw[h,_,_,_,_,_,s',_,<-SqL.of (s' _ _ hl)]) ?_ ?_
 .rintro i x σ H2 hx ⟨us,R,u3,u4,rfl,s2,eL,ag,hR⟩;erw[Af.mp (uX hx),z,hz,rfl]
  rw[0,0,px,z,qs,1,aB z hz,hP.same s2,hq,λt H3 don s3 ht hD aI aJ=>?_]
  rw[_,t,1,[_:SqT.of ht]];let ap:=s3 _ _ eL;let aC:=s2.trans s3;let aq:=ag.mono s3.tk;clear eL ag s3;let aD:t≠L:=λe=>by rw[e,ap,0] at ht
  refine_lift let J2_:Nat->L2.St->Hp->Prop:=λi σ H'=>∃(us:oj V) (u4:om V) (E:Pp),σ= [u_ (-px),u_ (-l),u_ (-L),u_ (!z),u4]/\ic H H'/\H' t=u_ (.tup (don.map λp=>V.str p.1))/\H' L=u_ (.lst us)/\L2.IsL H' (E.map stD) us/\StR qs E;?_
  refine Zs (K:=K) (a:=t) (xs:=don.map λp=>V.str p.1) J2_ (us,_,R,1,aC,ht,ap,aq,hR) (λi σ H' _ h=>by erw[h,_,_,_,_,_,e,_,<-SqT.of e]) ?_ ?_
  .rintro i2 x2 σ H4 ad ⟨aa,v4,E,rfl,s4,aE,ae,Z,hE⟩;rw[uK] at ad;obtain⟨p,hp,rfl⟩:∃p,don[i2]? =u_ p/\x2=V.str p.1:=by
    cases hp:don[i2]? with
    |none=>rw[hp,0] at ad|some p=>rw[hp,0] at ad;exact[p:1:1]
   let au:=uX hp;erw[sK hD au,gp,eg,af];let af:p.2=itP qs 302 gp:=af;let lE:=hE.len hq;let aK:↑aa=↑E:=by rw[↑Z,u9]
   let aw:=AbZ hq hD (Af.mpr [p:au:1]);let aL:=Xo aw
   rw[0,0,L,1,[_:SqL.of ae],λA0 aF=>?_];refine EC ae Z () aF (λts ws s H' R' aG aH=>(0,ts,_,_,0,1,SqT.of aG,qF (j:=0) rfl,aH)) λH5 s5 eA=>?_
   rw[_,A0,0,.inl (SqL.of eA),1,YT _,0];let ax:inV (V.str p.1) ((E.map (·.1)).map V.str)=decide (p.1>E.map (·.1)):=JU _ _;let al:=s5 _ _ ae;let ak:=Z.mono s5.tk;let am:=s4.trans s5;let ay:=s5 _ _ aE;by_cases ao:p.1>E.map (·.1)
   .refine iQ (by rw[A6 rfl,ax,uc ao];rfl) (aa,_,E,1,am,ay,al,ak,hE)
   .refine lc (by rw[A6 rfl,ax,ui ao];rfl) ?_
    rw[0,.inl [1:_:SqL.of al],0,sml rfl,λt6 h6=>?_];let m6:=qf h6 (-[V.str p.1]);let i6:Is (upd H5 t6 (-[V.str p.1])) (-[.str p.1]) (-t6):=Is.new (ds:= [.str p.1]) (_,0,Qy (),1) h6
    generalize upd H5 t6 (-[V.str p.1])=H6 at m6 i6⊢
    rw[0,0,px,p.1,qs,gp,1,aw,(hP.same am).same m6,hq,eg,λv H7 s7 _ _ iv=>?_];rw[Mz,MK] at iv;refine jU (xs:= [.str p.1]) (ys:= [.tup (Yc (itP qs 302 gp)),C4 (itP qs 302 gp)]) (i6.mono s7.tk) iv (by show 1+2<=1000;decide) λv8 H8 s8 i8=>?_
    let ah:=(m6.trans s7).trans s8;let aA:=ah _ _ al
    rw[_,L,aa,0,1,aA,()]
    let tk:Tk H8 (upd H8 L (.lst (aa++ [v8]))):=Tk.updL aA
    rw[_,aa++ [v8],_,E++ [(p.1,Yc p.2,C4 p.2)],1,λb ob e=>?_,?_,qg,?_,λs hs=>?_,?_]
    .rw[qi (qk e hL)];exact ah _ _ (am _ _ e)
    .rw[qi aD];exact ah _ _ ay
    .rw[uA];refine((ak.mono ah.tk).mono tk).append (L2.IsL.one ?_);show Is _ (stD (p.1,Yc p.2,C4 p.2)) v8;rw[af];exact i8.mono tk
    .rcases Ae.mp hs with hs|hs
     .exact hE.1 s hs
     .rw[Ac.mp hs,0];exact(gp,eg,by rw[af],by rw[af])
    .rw[uA,Rr]
     rw[_,hE.2,by simp,λy hy b hb e=>?_]
     rw[Ac.mp hb,0];rw[e] at hy;exact ao hy
  .rintro σ H4 ⟨aa,v4,E,rfl,s4,_,ae,Z,hE⟩;exact(aa,E,_,0,s4,ae,Z,hE)
 .rintro σ H2 ⟨us,R,u3,u4,rfl,s2,eL,ag,hR⟩;exact q2 _ _ [0:k L us R H2 hL s2 eL ag hR]
def D7:#[T,7,a.ZL,a.ZB,["pairs","script"],(Dl K)]:=by
 let JD:=#[Az,T];let qH:=#[jC,T];let J1:=#[Ea,T];refine T.mF.F.ok yf () (λ_ _ _ s H vs Q E hr h=>?_)
 erw[h,L,q,ps,us,ns,rfl,hL,ak,hok,h8,h4,hq,k];let hs:=uD;rw[3,%[#[Ky,2,["pair"],(1),[],(2),12,yf.nd,rfl,GL rfl,IR,rfl,#[jW,pv 0],(λ_ _ _ _ _ _=>#[qM,(0),(show Vr (["pair"]:oj Str) by decide+kernel)]),(λ_ _ _ _ _ _=> @yd _),(λ_ _ _ _ _ _=>#[qG,#[zX,1,K,rfl],pv 0,qh]),_,_,_],#[qE,(3),yf.nd,#[qp,JD,T.mq,#v[#[qT,QM,#[qx,#[Wo,1,rfl],T.z_sum,Tv,#v[pv 1]],qh],qh]]],#[qE,(4),yf.nd,#[Qa,#[Ko,1,rfl],T.z_dict,F0,#v[pv 0]]],#[y8,#[Yv,#v[#[qT,QM,qh,#[qp,qH,T.ig,#v[pv 3,qh]]]]],#[qM,(5),yf.nd],%[|#[qI,#[qm,qaJ,#[qx,qB,T.QN,uJ,#v[pv 2]],qh],%[#[qE,(6),yf.nd,#[qG,QR,pv 2,#[qp,qH,T.ig,#v[pv 3,#[qx,qB,T.QN,uJ,#v[pv 2]]]]]]|#[Jh,pv 4,pv 6,#[qp,J1,T.md,#v[pv 3,pv 2]]]],qr]]]|#[qo,#[Av,8,rfl,_,T.z_list,boot_list,pv 4,_,_,_,_,_,_]]]]
 rw[8,N1,q1]
 rw[0,L,1,[_:SqL.of hL],λA0 aw=>?_];refine Ny (tl:= []) hL ak () aw (λp y H' R hp s' hy hR=>?_) λH1 s1 al=>q1 _ _ ?_
 .erw[hy,tp,up,rfl,ax,w1,r1,rfl,[rfl,hz],_,<-(0,tp,_,_,0,1,SqT.of ax,qF (j:=0) rfl,hR _ _ (ic.refl _) [1:hz])]
 let ay:=s1 _ _ hL;let am:=ak.mono s1.tk;let aA:=KS hq s1;rw[8,N2,q2]
 rw[0,q,ns,1,aA,_,0,1,ns.sum+11,(90),1,(),(),λp H2 hp s2 P2=>q2 _ _ ?_]
 let aB:=s2 _ _ al;let aC:=s2 _ _ ay;erw[BG (am.mono s2.tk),ts,vs,rfl,e1,e2,e3,e4];let aS:↑vs=↑ps:=by
  have:=Aa VI e3
  rwa[u9,u9] at this
 let ao:A0≠p:=qk al hp;rw[8,N3,q3]
 rw[0,L,vs,1,(ts,aC,e1,e2),(by rw[e3];exact hok.1.2),(),λd2 ac=>q3 _ _ ?_]
 let s3:=qf ac (.dK (iJ vs));let t0:IM (upd H2 d2 (.dK (iJ vs))) d2 ps:=(vs,qg,e3,e4.mono s3.tk);let ae:d2≠p:=λz=>by erw[P2,x,hx,_];rw[z,hx,0] at ac
 let P3:=P2.same s3;generalize upd H2 d2 (.dK (iJ vs))=H3 at s3 t0 P3⊢;rw[8,N4,q4]
 rw[0,p,(2),1,P3,(),(),λj0 H4 a0 b0 P4 K4=>(_,0,1,0,(),(),?_)]
 obtain⟨n,hn⟩:∃n:Nat,1+j0=(n:Int):=[(1+j0).toNat:()]
 try rw[hn]
 refine_lift let J_:Nat->L2.St->Hp->Prop:=λi σ H'=>∃(rs:oj (Str×D)) (v5 v6:om V),σ= [u_ (-L),u_ (-q),u_ (-A0),u_ (-p),u_ (-d2),v5,v6]/\iE p H2 H'/\lY H' p/\IM H' d2 rs/\MM rs/\rs.map (·.1)=ps.map (·.1);?_
 erw[t0,aD,aE,aF,aG];let aH:=P3.tk P4 K4;refine xh (lo:=0) J_ (ps,U_,U_,1,(iE.of s3).trans K4,P4,(aD,K4 _ _ aE ae,aF,aG.mono aH),hok,1) ?_ ?_
 .rintro i σ H5 hi ⟨rs,v5,v6,rfl,K5,P5,⟨ws,hD,Z,ad⟩,aa,U⟩;let af:=K5 _ _ aB ao;let aI:↑ws=↑rs:=by
   have:=Aa VI Z
   rwa[u9,u9] at this
  let aJ:↑rs=↑ps:=by
   have:=Aa VI U
   rwa[u9,u9] at this
  let aT:↑(iJ ws)=↑rs:=by unfold iJ;rwa[u9]
  let ag:((ps.map (·.1)).map V.str).length=↑ps:=by rw[u9,u9]
  rw[0,A0,0,.inl (SqL.of af),_,0,1,0];rw[ag];by_cases c0:↑ps=0
  .exact iQ (ui ()) (rs,_,0,K5,P5,(ws,hD,Z,ad),aa,U)
  refine lc (uc ()) ?_
  show nz _ _ _ _ H5;rw[8,B1,b1]
  rw[0,0,0,A0,0,.inl (SqL.of af),p,0,P5,(by rw[ag];omega),(by rw[ag];omega),λj1 H6 a1 aK P6 K6=>?_]
  erw[yT (xs:=(ps.map (·.1)).map V.str) (i:=j1) a1 aK,x1,ap];erw[Af.mp (Y2 ap),z1,aL,rfl];let aq:=K6 _ _ af ao
  rw[_,A0,_,_,0,1,SqL.of aq,ap,b1 _ _ ?_];let aM:Nm4 (ps.map (·.1)):=⟨by rw[u9];omega,by rw[u9];omega,λz hz=>by
   erw[Af.mp hz,p0,au,rfl,<-[hok.1.1 _ (Af.mpr [p0:au:1]):h4 p0 au]]⟩
  rw[0,0,p,A0,ps.map (·.1),1,P6,aq,aM,λv7 e7 H7 aN i7 P7 K7=>?_];let ah:=K6.trans K7;let h7:H7 d2=u_ (.dK (iJ ws)):=ah _ _ hD ae;let aO:=P5.tk P7 ah;erw[DB (z:=z1) i7 Z (ad.mono aO),f1,f2]
  rw[0,0,d2,0,C6.k (k:=Vf z1) h7 ()]
  rw[OW ws z1 v7 (by rwa[Z,U])]
  rw[5]
  refine(Am rs z1 e7,_,0,λb o e hb=>?_,?_,IM.up h7 f1 f2,Aa1 aa aN,by rwa[qaG])
  .rw[qi (qk e ac)];exact ah _ _ (K5 _ _ e hb) hb
  .erw[P7,x,hx,aP,<-⟨x,by rwa[qi ae.symm],aP⟩]
 .rintro σ H5 ⟨rs,v5,v6,rfl,K5,P5,⟨ws,hD,Z,ad⟩,aa,U⟩;refine q4 _ _ ?_;let aJ:↑rs=↑ps:=by
   have:=Aa VI U
   rwa[u9,u9] at this
  rw[0,d2,iJ ws,1,.inl hD,λt ts H6 s6 _ aQ aR=>?_];exact k t rs _ H6 ((s1.trans (K5.same s2 hp)).trans s6) aQ (Mm aR Z (ad.mono s6.tk) aa) aa ()
variable {as:oj D}
def slt {K:o0}{ta:o3}{us:oj V}(h:H ta=u_ (¬us))(U:L2.IsL H as us)(hn:n<=↑us)(k:∀v H',ic H H'->Is H' (.tup (as.take n)) v->Q v H'):Acz K (-ta) U_ (u_ (n:Int)) H Q:=by
 rw[_,ta,us,1,SqT.of h,λhw=>k _ H (ic.refl _) ?_,λ_ p Z=>?_]
 .have:=hw.2;rw[HT.sIx_nat] at this;rw[vh (by rw[<-↑U];omega)]
  exact(ta,us,1,h,U)
 .rw[Iz hn];exact k _ _ (qf Z _) (Is.new (U.take n) Z)
def sld {K:o0}{ta:o3}{us:oj V}(h:H ta=u_ (¬us))(U:L2.IsL H as us)(hn:n<=↑us)(k:∀v H',ic H H'->Is H' (.tup (as.drop n)) v->Q v H'):Acz K (-ta) (u_ (n:Int)) U_ H Q:=by
 rw[_,ta,us,1,SqT.of h,λhw=>k _ H (ic.refl _) ?_,λ_ p Z=>?_]
 .have:=hw.1;rw[HT.sIx_nat] at this;let h0:n=0\/↑us=0:=by omega
  have:as.drop n=as:=by
   rcases h0 with h0|h0
   .rw[h0];rfl
   .rw[vK (U.length.symm.trans h0)];exact List.drop_nil
  rw[this];exact(ta,us,1,h,U)
 .rw[X6 hn];exact k _ _ (qf Z _) (Is.new (U.drop n) Z)
abbrev TR9:oj D:= [-"",-"x",-[],-[-"x"],.non,-"yes",-[-"a"],-"b1",-"no"]
def Aax:∀d>TR9,d= .non\/isT d=true:=by
 intro d hd;simp![TR9,uG,uL,uV] at hd;rcases hd with rfl|rfl|rfl|rfl|rfl|rfl|rfl|rfl|rfl
 all_goals first|exact .inl rfl|exact .inr ()
abbrev WB2:oj Str:= ["A b",""]
def wb2:∀z>WB2,↑z<=10:=by decide+kernel
abbrev KD5:oj Str:= ["thing","rule","has","names","Thing"]
abbrev FW5:oj Str:= ["told","kind","lack","rule","long"]
def kd5:∀z>KD5,↑z<=10:=by decide+kernel
def fw5:∀z>FW5,↑z<=10:=by decide+kernel
inductive Do:Sp
 |mk (v:V)(p nl:Addr)(zs:List Str)(s:Str×List D×D)(n:Nat)(_:vs= [v,-p,-nl])(_:Is H (stD s) v)(_:ShS n s)(_:lY H p)(_:H nl=u_ (.lst (zs.map V.str)))(_:∀z>zs,↑z<=24)(_:↑zs<=20)(_:n<=10)(_:∀v' s' H',iE p H H'->lY H' p->Is H' (stD s') v'->ShS (n+1) s'->Q v' H')
def C7.mk' {an:D}(h:↑z<=1000)(ha:an= .non\/isT an=v_):C7 (-[-[!kd,!z],an]):=(kd,z,an,1,h,ha)
def ny.mk' {k:Str}{x:D}(h:nD x=v_)(hd:dp x<=40)(U:k="stuck"->∃z:Str,x= !z):ny (-[!k,x]):=(k,x,1,h,hd,U)
variable {en:D}
def KR {U:oj D}(h:ShS n (m,as,en))(ha:∀x>U,C7 x)(Z:↑U<=↑as+1):ShS (n+1) (m,U,en):=(h.nl,ha,by have:↑as<=400+n:=h.few;show ↑U<=_;omega,h.en)
def MZ {U:D}(h:ShS n (m,as,en))(Z:ny U):ShS (n+1) (m,as,U):=(h.nl,h.an,by have:↑as<=400+n:=h.few;show ↑as<=_;omega,Z)
def D9:#[T,2,a.jE,a.jM,["step","pot","names"],Do]:=by
 let qH:=#[jC,T];refine T.lN.F.ok qV () (λ_ A _ _ H vs Q E hr h=>?_)
 erw[h,v,p,nl,zs,[m,as,en],n,rfl,iv,ac,hP,aZ,bE,ca,b5,k];let hs:=uD;let b7:↑as<=400+n:=ac.few;rw[3,%[#[BD,6,pv 0,#[Ka,Qt #[qM,(3),qV.nd] (Qt #[qM,(4),qV.nd] (Qt #[qM,(5),qV.nd] xl))],_,_,_],#[qE,(6),qV.nd,#[qp,qH,T.ig,#v[pv 1,qh]]],#[qE,(7),qV.nd,#[qp,qH,T.ig,#v[pv 1,#[qT,QM,#[qx,qB,T.QN,uJ,#v[pv 4]],qh]]]],#[qE,(8),qV.nd,#[qG,QR,#[QF,#v[ql,ql,#[qD,qd],#[qD,#v[ql]],qR,ql,#[qD,#v[ql]],ql,ql]],#[qp,qH,T.ig,#v[pv 1,qh]]]],#[qE,(9),qV.nd,#[qG,QR,#[qT,Wu,pv 2,#[QF,#v[ql,ql]]],#[qp,qH,T.ig,#v[pv 1,#[qT,QM,#[qx,qB,T.QN,uJ,#v[pv 2]],qh]]]]],#[qE,(10),qV.nd,#[qD,#v[#[qG,QR,#[QF,#v[ql,ql,ql,ql,ql]],#[qp,qH,T.ig,#v[pv 1,qh]]],pv 9]]],#[qI,#[qm,Qg,pv 6,qh],%[|#[qo,#[qD,#v[pv 9,pv 4,pv 5]]]],qr],@qI _ _ _ _ _ _ _ _ #[jT,#[qm,Qg,pv 6,qh],#[YJ,#[qm,qam,pv 7,#[qx,qB,T.QN,uJ,#v[pv 4]]]]].pt %[|#[qo,#[qD,#v[pv 3,#[qT,YE,#[qT,YE,#[QZ,YH,pv 4,yy,#[ya,pv 7]],#[qD,#v[#[qD,#v[#[qG,qC,#[qG,qC,pv 4,pv 7],qh],pv 8]]]]],#[QZ,YH,pv 4,#[ya,#[qT,QM,pv 7,qh]],yy]],pv 5]]]] qr,@qI _ _ _ _ _ _ _ _ #[jT,#[qm,Qg,pv 6,qh],#[YJ,#[qm,qam,pv 7,#[qx,qB,T.QN,uJ,#v[pv 4]]]]].pt %[|#[qo,#[qD,#v[pv 3,#[qT,YE,#[qT,YE,#[QZ,YH,pv 4,yy,#[ya,pv 7]],#[qD,#v[#[qD,#v[pv 10,#[qG,qC,#[qG,qC,pv 4,pv 7],qh]]]]]],#[QZ,YH,pv 4,#[ya,#[qT,QM,pv 7,qh]],yy]],pv 5]]]] qr,@qI _ _ _ _ _ _ _ _ #[jT,#[qm,Qg,pv 6,qh],#[YJ,#[qm,qam,pv 7,#[qx,qB,T.QN,uJ,#v[pv 4]]]]].pt %[|#[qo,#[qD,#v[pv 3,#[qT,YE,#[QZ,YH,pv 4,yy,#[ya,pv 7]],#[QZ,YH,pv 4,#[ya,#[qT,QM,pv 7,qh]],yy]],pv 5]]]] qr,#[qI,#[qm,Qg,pv 6,qh],%[|#[qo,#[qD,#v[pv 3,#[qT,YE,#[qT,YE,#[QZ,YH,pv 4,yy,#[ya,pv 7]],#[qD,#v[#[qD,#v[pv 10,pv 8]]]]],#[QZ,YH,pv 4,#[ya,pv 7],yy]],pv 5]]]],qr],@qI _ _ _ _ _ _ _ _ #[jT,#[qm,Qg,pv 6,qh],#[YJ,#[qm,jw,pv 8,qR]]].pt %[|#[qo,#[qD,#v[pv 3,pv 4,#[qD,#v[ql,pv 8]]]]]] qr,#[qI,#[qm,Qg,pv 6,qh],%[|#[qo,#[qD,#v[pv 3,pv 4,#[qD,#v[ql,#[qG,QR,#[QF,#v[ql,ql,ql,ql,ql]],#[qp,qH,T.ig,#v[pv 1,qh]]]]]]]]],qr],@qI _ _ _ _ _ _ _ _ #[zA,#[qm,Qg,pv 6,qh],#[Jm,#[qm,Qg,pv 7,#[qx,qB,T.QN,uJ,#v[pv 4]]]]].pt %[|#[qo,#[qD,#v[pv 3,#[QZ,YH,pv 4,yy,#[ya,pv 7]],#[qD,#v[ql,pv 9]]]]]] qr|#[qo,#[qD,#v[pv 3,#[QZ,YH,pv 4,yy,#[ya,pv 7]],#[qG,QR,#[QF,#v[#[qD,#v[ql,#[qG,qC,#[qG,qC,pv 4,pv 7],qh]]],#[qD,#v[ql,#[qG,qC,#[qG,qC,#[qG,qC,pv 4,pv 7],qh],qh]]]]],#[qp,qH,T.ig,#v[pv 1,qh]]]]]]]]
 rw[8,N1,q1];erw[id iv,ts,cb,rfl,bF,v1,r1,rfl,[rfl,cc],v2,r2,rfl,i2,ev,r3,rfl,i3,bG];rw[show r3= [] from bG,0]
 erw[id i2,ta,us,rfl,aF,aG];let aG:L2.IsL H as us:=aG;let cd:↑us=↑as:=↑aG;let ae:↑m<=1000:=ac.nl
 rw[0,ts,0,SqT.of bF,1,_,0,_,0,_,0,1,q1 _ _ ?_];rw[8,N2,q2]
 rw[0,p,(9),1,hP,(),(),λkd H1 a1 b1 P1 K1=>q2 _ _ ?_]
 rw[8,N3,q3];let ce:=hP.tk P1 K1;let a3:∀{b:o3}{xs:oj V},H b=u_ (¬xs)->b≠p:=λ{b xs} e z=>by erw[hP,x,hx,_];rw[z,hx,0] at e
 let a5:=K1 _ _ aF (a3 aF)
 rw[0,0,ta,us,1,.inr (SqT.of a5),_,0,1,p,(↑us:Int)+1,1,P1,(),(),λkI H2 a2 b2 P2 K2=>q3 _ _ ?_]
 obtain⟨kk,rfl,am⟩:∃kk:Nat,kI=(kk:Int)/\kk<=↑us:=[kI.toNat:():()]
 let bH:=K1.trans K2;rw[8,N4,q4]
 rw[_,uS _,λt0 h0=>[sml rfl:λt1 h1=>[sml rfl:λt2 h2=>[sml rfl:λl hl=>?_]]]];let m0:=qf h0 (.tup ([]:oj V));let m1:=qf h1 (-[V.str "x"]);let m2:=qf h2 (-[V.str "a"]);let j0:Is _ (-[]) (-t0):=Is.new (ds:= []) (vs:= []) rfl h0;let j1:Is _ (-[-"x"]) (-t1):=Is.new (ds:= [-"x"]) (vs:= [-"x"]) (_,0,Qy (),1) h1
 let j2:Is _ (-[-"a"]) (-t2):=Is.new (ds:= [-"a"]) (vs:= [-"a"]) (_,0,Qy (),1) h2
 let i9:L2.IsL _ TR9 [V.str "",-"x",-t0,-t1,.non,-"yes",-t2,-"b1",-"no"]:=(_,0,Qy (),_,0,Qy (),_,0,(j0.mono m1.tk).mono m2.tk,_,0,j1.mono m2.tk,_,0,1,_,0,Qy (),_,0,j2,_,0,Qy (),_,0,Qy (),1)
 generalize ([V.str "",-"x",-t0,-t1,.non,-"yes",-t2,-"b1",-"no"]:oj V)=L9 at hl i9⊢;let m3:=qf hl (.lst L9);let e3:∀{H0:Hp},upd H0 l (.lst L9) l=u_ (.lst L9):=qg;let aH:=((m0.trans m1).trans m2).trans m3;let aq:=i9.mono m3.tk;let e4:upd (upd (upd (upd H2 t0 (-[])) t1 (-[V.str "x"])) t2 (-[V.str "a"])) l (.lst L9) l=u_ (.lst L9):=qg;generalize upd (upd (upd (upd H2 t0 (-[])) t1 (-[V.str "x"])) t2 (-[V.str "a"])) l (.lst L9)=H3 at aH aq e4⊢;let P3:=P2.same aH;let a7:=bH.trans (iE.of aH);clear m0 m1 m2 m3 j0 j1 j2 i9 e3 h0 h1 h2 hl;let a9:l≠p:=λz=>by
  erw[P3,x,hx,_];rw[z,hx] at e4;have:=↑aq;injection e4 with e4
  injection e4 with e4
  rw[<-e4,0] at this
 rw[0,p,(9),1,P3,(),(),λc9 H4 a4 b4 P4 K4=>?_]
 let l9:↑L9=9:=↑aq;erw[yT (xs:=L9) (i:=c9) a4 (),tv,aR]
 rw[_,l,_,_,0,1,SqL.of (K4 _ _ e4 a9),aR,q4 _ _ ?_];obtain⟨td,bb,bc⟩:∃td,td>TR9/\Is H3 td tv:=by
  erw[List.mem_iff_getElem?.mp (Y2 aR),j,hj];let bd:j<↑TR9:=by rw[<-↑aq];exact(Ag.mp hj).1
  erw[aq.get (ug bd),v',e,i];rw[hj,0] at e;exact[_:uU bd:i]
 let aS:=Aax td bb;let aO:=bc.mono (P3.tk P4 K4);let aT:=a7.trans K4;clear aq e4 aR bb bc aH K4 P3 a7 l9;rw[8,N5,q5];let ax:=aT _ _ aZ (hP.ne_strs aZ)
 rw[0,(sml rfl),λl2 bI=>?_];let m5:=qf bI (.lst [V.str "A b",V.str ""])
 rw[_,nl,l2,_,0,1,m5 _ _ ax,qg,(by rw[u9];show _+2<=Vh;omega),λl3 bJ=>?_]
 let au:=m5.trans (qf bJ (.lst (zs.map V.str++ [V.str "A b",V.str ""])));let e5:(upd (upd H4 l2 (.lst [V.str "A b",V.str ""])) l3 (.lst (zs.map V.str++ [V.str "A b",V.str ""]))) l3=u_ (.lst ((zs++WB2).map V.str)):=by rw[qg,uA];rfl
 generalize upd (upd H4 l2 (.lst [V.str "A b",V.str ""])) l3 (.lst (zs.map V.str++ [V.str "A b",V.str ""]))=H5 at au e5⊢;let P5:=P4.same au;let aP:=au _ _ ax;let l5:↑((zs++WB2).map V.str)=↑zs+2:=by rw[u9,uw];rfl
 rw[5]
 refine(0,0,nl,0,.inl (SqL.of aP),_,0,1,p,(↑(zs.map V.str):Int)+2,1,P5,(),by rw[u9];omega,λcw H6 a6 b6 P6 K6=>?_)
 rw[u9] at b6;obtain⟨wv,aU⟩:=yT (xs:=(zs++WB2).map V.str) (i:=cw) a6 (by rw[l5];omega)
 erw[Af.mp (Y2 aU),wd,bf,rfl];let cg:↑wd<=24:=by
  rcases Ae.mp bf with h|h
  .exact bE wd h
  .have:=wb2 wd h;omega
 rw[_,l3,_,_,0,1,SqL.of (K6 _ _ e5 (P5.ne_strs e5)),aU,q5 _ _ ?_];let bg:=(aT.trans (iE.of au)).trans K6;let aQ:=(aO.mono au.tk).mono (P5.tk P6 K6);clear e5 aP ax m5 aU bf au aT aO l5 P5 K6;rw[8,N6,q6]
 rw[_,sml rfl,λl4 bK=>?_];let m7:=qf bK (.lst (KD5.map V.str));let e7:upd H6 l4 (.lst (KD5.map V.str)) l4=u_ (.lst (KD5.map V.str)):=qg;let P7:=P6.same m7
 rw[0,p,(5),1,P7,(),(),λck H8 a8 b8 P8 K8=>?_]
 erw[yT (xs:=KD5.map V.str) (i:=ck) a8 b8,kv,aV];erw[Af.mp (Y2 aV),kw,bh,rfl];let bL:=kd5 kw bh
 rw[_,l4,_,_,0,1,SqL.of (K8 _ _ e7 (P7.ne_strs e7)),aV,0,sml rfl,λtq bo=>q6 _ _ ?_];let m9:=qf bo (-[V.str kw,V.str wd]);let iq:Is (upd H8 tq (-[V.str kw,V.str wd])) (-[!kw,!wd]) (-tq):=Is.new (ds:= [!kw,!wd]) (_,0,Qy (),_,0,Qy (),1) bo
 let ap:=((aQ.mono m7.tk).mono (P7.tk P8 K8)).mono m9.tk;let P9:=P8.same m9;let aI:=((bg.trans (iE.of m7)).trans K8).trans (iE.of m9);generalize upd H8 tq (-[V.str kw,V.str wd])=H9 at m9 iq ap P9 aI⊢;clear m7 e7 m9 aV bh aQ bg K8 P7 P8 P6;let U:=aI _ _ aF (a3 aF);let bp:=hP.tk P9 aI;let aa:=aG.mono bp;let ah:=i3.mono bp;let fin:∀(mv:Str) (ay:oj D) (aA:D) (av aJ:V) (H':Hp),iE p H9 H'->lY H' p->↑mv<=1000->Is H' (¬ay) av->Is H' aA aJ->ShS (n+1) (mv,ay,aA)-> [V.str mv,av,aJ].length<=Vh/\∀t,H' t=U_->Q (-t) (upd H' t (-[V.str mv,av,aJ])):=λmv ay aA av aJ H' K' P' hl ia ie bM=>[sml rfl:λt ht=>k _ (mv,ay,aA) _ ((aI.trans K').trans (iE.of (qf ht _))) (P'.same (qf ht _)) (Is.new (ds:= [!mv,¬ay,aA]) (_,0,Qy (),_,0,ia,_,0,ie,1) ht) bM]
 let aD:kk<↑us->∃(u z:Str) (an:D) (t6 t7:o3) (v8:V),as[kk]? =u_ (-[-[!u,!z],an])/\us[kk]? =u_ (-t6)/\H9 t6=u_ (-[-t7,v8])/\H9 t7=u_ (-[!u,!z])/\Is H9 (-[!u,!z]) (-t7)/\Is H9 an v8/\↑z<=1000/\(an= .non\/isT an=v_):=λhk=>by
  let aK:kk<↑as:=by omega
  erw[aa.get (i:=kk) (d:=as[kk]) (ug aK),x,hx,ix];erw[ac.an _ (uU aK),u,z,an,e,hz,ha];rw[e] at ix;erw[ix,t6,w6,rfl,ak,x7,r7,rfl,i7,x8,r8,rfl,i8,bN];rw[show r8= [] from bN,0]
  erw[id i7,t7,w7,rfl,aE,x9,r9,rfl,[rfl,bL],xa,ra,rfl,[rfl,b9],bO];rw[show ra= [] from bO,0]
  exact(u,z,an,t6,t7,x8,by rw[ug aK,e],hx,ak,aE,i7,i8,hz,ha)
 let mem:∀{x:D}{i:Nat}{ys aW:oj D},(∀y>ys,C7 y)->(∀y>aW,y>as)->x>as.take i++ys++aW->C7 x:=λ{x i ys aW} hy hz hx=>by
  rcases Ae.mp hx with hx|hx
  .rcases Ae.mp hx with hx|hx
   .exact ac.an x (vG hx)
   .exact hy x hx
  .exact ac.an x (hz x hx)
 let bq:Is H9 (-[!kw,!wd]) (-tq):=iq;let aX:Is H9 (¬as) (-ta):=(ta,us,1,U,aa);let aK:kk<=↑as:=by omega
 rw[8,N7,q7]
 rw[0,1,0,iY (λ_=>?_) (λ_=>q7 _ _ ?_)]
 .exact(0,0,0,fin wd as en _ _ H9 (iE.of (ic.refl _)) P9 () aX ah (by show ↑wd<=1000;omega,ac.an,by show ↑as<=_;omega,ac.en))
 rw[8,N8,q8]
 suffices hN:N8 [u_ (-ts),u_ (-p),u_ (-nl),u_ (!m),u_ (-ta),u_ ev,u_ (.int kd),u_ (.int (kk:Int)),u_ tv,u_ (!wd),u_ (-tq)] H9 by
  rw[0,1,0,iY (λ_=>?_) (λ_=>hN)]
  rw[0,0,ta,us,1,.inr (SqT.of U),_,0,1,0,iY (λal=>?_) (λ_=>hN)];let al:kk<↑us:=by
   have:(kk:Int)<(↑us:Int):=ur al;omega
  erw[aD (),u,z,an,t6,t7,v8,bt,aw,ak,aE,i7,i8,hz,ha]
  rw[0,0,0,0,slt U aa am λvA HA sA iA=>?_]
  rw[0,0,ta,_,_,0,1,SqT.of (sA _ _ U),qF aw,t6,_,_,0,1,SqT.of (sA _ _ ak),qF (j:=0) rfl,0,sml rfl,λtx Z=>[sml rfl:λty af=>?_]];let n1:=qf Z (-[-t7,tv]);let j1:Is _ (-[-[!u,!z],td]) (-tx):=Is.new (ds:= [-[!u,!z],td]) (_,0,i7.mono sA.tk,_,0,ap.mono sA.tk,1) Z;let n2:=qf af (-[V.ref tx]);let j2:Is _ (-[-[-[!u,!z],td]]) (-ty):=Is.new (ds:= [-[-[!u,!z],td]]) (_,0,j1,1) af;refine jU ((iA.mono n1.tk).mono n2.tk) j2 (by rw[uM];simp![um,vn];omega) λvB HB sB iB=>?_
  let ag:=((sA.trans n1).trans n2).trans sB
  rw[0,0,_,0,1,0,sld (n:=kk+1) (ag _ _ U) (aa.mono ag.tk) () λvC HC sC iC=>?_]
  refine jU (iB.mono sC.tk) iC (by rw[uw,uM,uQ];simp![um,vn];omega) λvD ao sD iD=>?_
  let ad:=(ag.trans sC).trans sD;exact⟨0,fin m _ en _ _ ao (iE.of ad) (P9.same ad) ae iD (ah.mono ad.tk) (KR ac (λx hx=>mem (λy hy=>by rw[Ac.mp hy,0];exact C7.mk' hz aS) (λy hy=>vQ hy) hx) (by rw[uw,uw,uM,uQ];simp![um,vn];omega))⟩
 refine q8 _ _ ?_;rw[8,N9,q9]
 suffices hN:N9 [u_ (-ts),u_ (-p),u_ (-nl),u_ (!m),u_ (-ta),u_ ev,u_ (.int kd),u_ (.int (kk:Int)),u_ tv,u_ (!wd),u_ (-tq)] H9 by
  rw[0,1,0,iY (λ_=>?_) (λ_=>hN)]
  rw[0,0,ta,us,1,.inr (SqT.of U),_,0,1,0,iY (λal=>?_) (λ_=>hN)];let al:kk<↑us:=by
   have:(kk:Int)<(↑us:Int):=ur al;omega
  erw[aD (),u,z,an,t6,t7,v8,bt,aw,ak,aE,i7,i8,hz,ha]
  rw[0,0,0,0,slt U aa am λvA HA sA iA=>?_]
  rw[0,0,0,ta,_,_,0,1,SqT.of (sA _ _ U),qF aw,t6,_,_,0,1,SqT.of (sA _ _ ak),qF (j:=1) rfl,sml rfl,λtx Z=>[sml rfl:λty af=>?_]];let n1:=qf Z (-[-tq,v8]);let j1:Is _ (-[-[!kw,!wd],an]) (-tx):=Is.new (ds:= [-[!kw,!wd],an]) (_,0,bq.mono sA.tk,_,0,i8.mono sA.tk,1) Z;let n2:=qf af (-[V.ref tx]);let j2:Is _ (-[-[-[!kw,!wd],an]]) (-ty):=Is.new (ds:= [-[-[!kw,!wd],an]]) (_,0,j1,1) af;refine jU ((iA.mono n1.tk).mono n2.tk) j2 (by rw[uM];simp![um,vn];omega) λvB HB sB iB=>?_
  let ag:=((sA.trans n1).trans n2).trans sB
  rw[0,0,_,0,1,0,sld (n:=kk+1) (ag _ _ U) (aa.mono ag.tk) () λvC HC sC iC=>?_]
  refine jU (iB.mono sC.tk) iC (by rw[uw,uM,uQ];simp![um,vn];omega) λvD ao sD iD=>?_
  let ad:=(ag.trans sC).trans sD;exact⟨0,fin m _ en _ _ ao (iE.of ad) (P9.same ad) ae iD (ah.mono ad.tk) (KR ac (λx hx=>mem (λy hy=>by rw[Ac.mp hy,0];exact C7.mk' () ha) (λy hy=>vQ hy) hx) (by rw[uw,uw,uM,uQ];simp![um,vn];omega))⟩
 refine q9 _ _ ?_;rw[8,bP,bQ]
 suffices hN:bP [u_ (-ts),u_ (-p),u_ (-nl),u_ (!m),u_ (-ta),u_ ev,u_ (.int kd),u_ (.int (kk:Int)),u_ tv,u_ (!wd),u_ (-tq)] H9 by
  rw[0,1,0,iY (λ_=>?_) (λ_=>hN)]
  rw[0,0,ta,us,1,.inr (SqT.of U),_,0,1,0,iY (λal=>?_) (λ_=>hN)];let al:kk<↑us:=by
   have:(kk:Int)<(↑us:Int):=ur al;omega
  rw[0,0,0,0,slt U aa am λvA HA sA iA=>?_]
  rw[0,0,_,0,1,0,sld (n:=kk+1) (sA _ _ U) (aa.mono sA.tk) () λvC HC sC iC=>?_]
  refine jU (iA.mono sC.tk) iC (by rw[uM,uQ];omega) λvD ao sD iD=>?_
  let ad:=(sA.trans sC).trans sD;exact⟨0,fin m _ en _ _ ao (iE.of ad) (P9.same ad) ae iD (ah.mono ad.tk) (KR ac (λx hx=>ac.an x (by
   rcases Ae.mp hx with hx|hx
   .exact vG hx
   .exact vQ hx)) (by rw[uw,uM,uQ];omega))⟩
 refine bQ _ _ ?_;rw[8,ch,bR]
 rw[0,1,0,iY (λ_=>?_) (λ_=>bR _ _ ?_)]
 .rw[0,0,0,0,slt U aa am λvA HA sA iA=>?_]
  rw[0,0,sml rfl,λtx Z=>[sml rfl:λty af=>?_]];let n1:=qf Z (-[-tq,tv]);let j1:Is _ (-[-[!kw,!wd],td]) (-tx):=Is.new (ds:= [-[!kw,!wd],td]) (_,0,bq.mono sA.tk,_,0,ap.mono sA.tk,1) Z;let n2:=qf af (-[V.ref tx]);let j2:Is _ (-[-[-[!kw,!wd],td]]) (-ty):=Is.new (ds:= [-[-[!kw,!wd],td]]) (_,0,j1,1) af;refine jU ((iA.mono n1.tk).mono n2.tk) j2 (by rw[uM];simp![um,vn];omega) λvB HB sB iB=>?_
  let ag:=((sA.trans n1).trans n2).trans sB
  rw[0,0,0,sld (n:=kk) (ag _ _ U) (aa.mono ag.tk) () λvC HC sC iC=>?_]
  refine jU (iB.mono sC.tk) iC (by rw[uw,uM,uQ];simp![um,vn];omega) λvD ao sD iD=>?_
  let ad:=(ag.trans sC).trans sD;exact⟨0,fin m _ en _ _ ao (iE.of ad) (P9.same ad) ae iD (ah.mono ad.tk) (KR ac (λx hx=>mem (λy hy=>by rw[Ac.mp hy,0];exact C7.mk' () aS) (λy hy=>vQ hy) hx) (by rw[uw,uw,uM,uQ];simp![um,vn];omega))⟩
 rw[8,bS,bT];let bU:=Lx aS
 suffices hN:bS [u_ (-ts),u_ (-p),u_ (-nl),u_ (!m),u_ (-ta),u_ ev,u_ (.int kd),u_ (.int (kk:Int)),u_ tv,u_ (!wd),u_ (-tq)] H9 by
  rw[0,1,0,iY (λ_=>?_) (λ_=>hN)]
  rw[0,1,0];by_cases c:tv= .non
  .exact iQ (by simp[c]) hN
  .refine lc (by simpa using c) ?_
   rw[0,0,0,sml rfl,λtx Z=>?_];let n1:=qf Z (-[V.str "said",tv]);let j1:Is _ (-[-"said",td]) (-tx):=Is.new (ds:= [-"said",td]) (_,0,Qy (),_,0,ap,1) Z
   exact fin m as _ _ _ _ (iE.of n1) (P9.same n1) ae (aX.mono n1.tk) j1 (MZ ac (ny.mk' (Aa2 bU.1) () λq=>A8 q ()))
 refine bT _ _ ?_;rw[8,ci,bV]
 rw[0,1,0,iY (λ_=>?_) (λ_=>bV _ _ ?_)]
 .rw[0,0,sml rfl,λl5 bW=>?_];let n1:=qf bW (.lst (FW5.map V.str));let e1:upd H9 l5 (.lst (FW5.map V.str)) l5=u_ (.lst (FW5.map V.str)):=qg;let PA:=P9.same n1
  rw[0,p,(5),1,PA,(),(),λcf HB aB bB PB KB=>?_]
  erw[yT (xs:=FW5.map V.str) (i:=cf) aB bB,fv,bu];erw[Af.mp (Y2 bu),fw,bX,rfl];let cj:=fw5 fw bX
  rw[_,l5,_,_,0,1,SqL.of (KB _ _ e1 (PA.ne_strs e1)),bu,sml rfl,λtx Z=>?_];let n2:=qf Z (-[V.str "fault",V.str fw]);let j1:Is _ (-[-"fault",!fw]) (-tx):=Is.new (ds:= [-"fault",!fw]) (_,0,Qy (),_,0,Qy (),1) Z
  let KA:=((iE.of n1).trans KB).trans (iE.of n2);let PC:=PB.same n2;exact fin m as _ _ _ _ KA PC ae (aX.mono (P9.tk PC KA)) j1 (MZ ac (ny.mk' rfl (by simp[dp]) λq=>A8 q ()))
 rw[8,cm,bY];let stk:(∀(t:o3) (H':Hp),iE p H9 H'->lY H' p->Is H' (-[-"stuck",!wd]) (-t)->∀vA,Is H' (.tup (as.take kk)) vA-> [V.str m,vA,V.ref t].length<=Vh/\∀t',H' t'=U_->Q (-t') (upd H' t' (-[V.str m,vA,V.ref t]))):=λt H' K' P' it vA iA=>fin m _ _ _ _ H' K' P' ae iA it (ae,λx hx=>ac.an x (vG hx),by show(as.take kk).length<=_;rw[uM];omega,ny.mk' rfl (by simp[dp]) λ_=>[wd:1])
 rw[0,1,0,iY (λ_=>?_) (λ_=>?_)]
 .rw[0,0,0,0,slt U aa am λvA HA sA iA=>?_]
  rw[0,sml rfl,λtx Z=>?_];let n1:=qf Z (-[V.str "stuck",V.str wd]);let j1:Is _ (-[-"stuck",!wd]) (-tx):=Is.new (ds:= [-"stuck",!wd]) (_,0,Qy (),_,0,Qy (),1) Z
  exact stk tx _ ((iE.of sA).trans (iE.of n1)) ((P9.same sA).same n1) j1 vA (iA.mono n1.tk)
 rw[0,0,ta,us,1,.inr (SqT.of U),1,0];by_cases c8:kk=↑us
 .refine lc (uc (by rw[c8])) ?_
  rw[0,0,0,0,slt U aa am λvA HA sA iA=>?_]
  rw[0,sml rfl,λtx Z=>?_];let n1:=qf Z (-[V.str "stuck",V.str wd]);let j1:Is _ (-[-"stuck",!wd]) (-tx):=Is.new (ds:= [-"stuck",!wd]) (_,0,Qy (),_,0,Qy (),1) Z
  exact stk tx _ ((iE.of sA).trans (iE.of n1)) ((P9.same sA).same n1) j1 vA (iA.mono n1.tk)
 refine iQ (ui λq=>c8 (by injection q with q;omega)) (bY _ _ ?_)
 erw[aD (),u,z,an,t6,t7,v8,bt,aw,ak,aE,i7,i8,hz,ha]
 rw[0,0,0,0,slt U aa am λvA HA sA iA=>?_]
 rw[0,0,ta,_,_,0,1,SqT.of (sA _ _ U),qF aw,t6,_,_,0,1,SqT.of (sA _ _ ak),qF (j:=0) rfl,sml rfl,λtx Z=>?_];let n1:=qf Z (-[V.str "asks",-t7]);let j1:Is _ (-[-"asks",-[!u,!z]]) (-tx):=Is.new (ds:= [-"asks",-[!u,!z]]) (_,0,Qy (),_,0,i7.mono sA.tk,1) Z
 let aL:=sA.trans n1
 rw[0,0,ta,_,_,0,1,SqT.of (aL _ _ U),qF aw,t6,_,_,0,1,SqT.of (aL _ _ ak),qF (j:=0) rfl,t7,_,_,0,1,SqT.of (aL _ _ aE),qF (j:=1) rfl,sml rfl,λty af=>[sml rfl:λl6 bZ=>?_]];let n2:=qf af (-[V.str "stuck",V.str z]);let j2:Is _ (-[-"stuck",!z]) (-ty):=Is.new (ds:= [-"stuck",!z]) (_,0,Qy (),_,0,Qy (),1) af
 let n3:=qf bZ (.lst [V.ref tx,V.ref ty]);let e6:upd (upd (upd HA tx (-[V.str "asks",-t7])) ty (-[V.str "stuck",V.str z])) l6 (.lst [V.ref tx,V.ref ty]) l6=u_ (.lst [V.ref tx,V.ref ty]):=qg;let aM:=(aL.trans n2).trans n3;let bv:=(j1.mono n2.tk).mono n3.tk;let bw:=j2.mono n3.tk;let aY:=((iA.mono n1.tk).mono n2.tk).mono n3.tk;generalize upd (upd (upd HA tx (-[V.str "asks",-t7])) ty (-[V.str "stuck",V.str z])) l6 (.lst [V.ref tx,V.ref ty])=HB at aM e6 bv bw aY⊢;let PB:=P9.same aM;let bx:l6≠p:=λq=>by
  erw[PB,x,hx,_];rw[q,hx,0] at e6
 rw[0,p,(2),1,PB,(),(),λcE HC aC bC PC KC=>?_]
 let aN:=PB.tk PC KC;let bA:↑(as.take kk)<=400+(n+1):=by rw[uM];omega
 let bD:∀x>as.take kk,C7 x:=λx hx=>ac.an x (vG hx);let b3:cE=0\/cE=1:=by omega
 rcases b3 with rfl|rfl
 .exact(l6,_,_,0,1,SqL.of (KC _ _ e6 bx),qF (j:=0) rfl,fin m _ _ _ _ HC ((iE.of aM).trans KC) PC ae (aY.mono aN) (bv.mono aN) (ae,bD,bA,ny.mk' rfl (by simp[dp,dpL]) λq=>A8 q ()))
 .exact(l6,_,_,0,1,SqL.of (KC _ _ e6 bx),qF (j:=1) rfl,fin m _ _ _ _ HC ((iE.of aM).trans KC) PC ae (aY.mono aN) (bw.mono aN) (ae,bD,bA,ny.mk' rfl (by simp[dp]) λ_=>[z:1]))
def M9 (h:i<n):hZ (i:Int) n=u_ i:=by
 unfold hZ;let h0:¬((i:Int)<0):=by omega
 simp![h0,if_false];simp;omega
variable {ds:oj D}{j:Nat}
def SA {us:oj V}(h:L2.IsL H ds us)(U:j<↑us){d:D}(i:Is H d v):L2.IsL H (ds.take j++d::ds.drop (j+1)) (us.set j v):=by
 rw[List.set_eq_take_append_cons_drop,A6 U];exact(h.take j).append (v,0,i,h.drop (j+1))
def EK {us:oj V}(h:L2.IsL H ds us)(j:Nat):L2.IsL H (ds.take j++ds.drop (j+1)) (us.eraseIdx j):=by
 rw[List.eraseIdx_eq_take_drop_succ];exact(h.take j).append (h.drop (j+1))
def qaD {us:oj V}(h:L2.IsL H ds us)(j:Nat){d:D}(i:Is H d v):L2.IsL H (ds.take j++d::ds.drop j) (us.take j++v::us.drop j):=(h.take j).append (v,0,i,h.drop j)
def Sx (h:j<n):ixN n (j:Int)=u_ j:=by
 unfold ixN;rw[A6 (),A6 ()]
 simp
def Xr (ps:Pp)(i j:Nat)(l:Pp):(ps.take i++(l++ps.drop j)).map stD=(ps.map stD).take i++(l.map stD++(ps.map stD).drop j):=by
 rw[uA,uA,Hv,FX]
def Xi {α:Type}{ps l:oj α}{x:α}(h:x>ps.take i++(l++ps.drop j)):x>ps\/x>l:=by
 rcases Ae.mp h with h|h
 .exact .inl (vG h)
 .rcases Ae.mp h with h|h
  .exact .inr h
  .exact .inl (vQ h)
def ShS.up {m:Nat}{s:Str×oj D×D}(h:ShS n s)(hm:n<=m):ShS m s:=(h.nl,h.an,by have:=h.few;omega,h.en)
variable {p:o3}
def KH {L:o3}{us:oj V}{ps:Pp}(h:lY H p)(e:H L=u_ (.lst us))(i:L2.IsL H (ps.map stD) us):L≠p:=λz=>by
 erw[h,x,U,_];rw[z,U] at e;injection e with e
 injection e with e
 subst e;cases ps with
 |nil=>rw[i,0]|cons s r=>
  erw[i,v,us',e2,Z,_];injection e2 with e2
  subst e2;erw[Z,_,_,e3,_];rw[e3,0]
inductive Lj:Sp
 |mk (L O p nl:Addr)(us ous:List V)(ps os:Pp)(zs:List Str)(n:Nat)(_:vs= [-L,-O,-p,-nl])(_:H L=u_ (.lst us))(_:L2.IsL H (ps.map stD) us)(_:H O=u_ (.lst ous))(_:L2.IsL H (os.map stD) ous)(_:∀s>ps,ShS n s)(_:∀s>os,ShS 0 s)(_:lY H p)(_:H nl=u_ (.lst (zs.map V.str)))(_:∀z>zs,↑z<=24)(_:↑zs<=20)(_:n<=10)(_:↑ps<=200)(_:↑os<=200)(_:∀(L':Addr)(us':List V)(ps':Pp)(H':Hp),iE p H H'->lY H' p->H L'=U_->H' L'=u_ (.lst us')->L2.IsL H' (ps'.map stD) us'->(∀s>ps',ShS (n+1) s)->↑ps'<=↑ps+1->Q (-L') H')
def LL:#[T,3,a.jt,a.jo,["steps","others","pot","names"],Lj]:=by
 let qH:=#[jC,T];let Zl:=#[D9,T];rw[9,T.lz,Ql]
 erw[h,L,O,p,nl,us,ous,ps,os,zs,n,rfl,hL,aw,hO,ae,ag,ax,hP,ay,aG,aH,aA,aS,aT,k];let hs:=uD;let aU:↑us=↑ps:=by rw[↑aw,u9]
 let aR:↑ous=↑os:=by rw[↑ae,u9]
 let ao:=KH hP hO ae;let aJ:=hP.ne_strs ay;rw[3,%[#[qE,(4),Ql.nd,#[Qa,sP,T.z_list,boot_list,#v[pv 0]]],#[qE,(5),Ql.nd,#[qp,qH,T.ig,#v[pv 2,qh]]],#[qI,#[qm,Qg,#[qx,qB,T.QN,uJ,#v[pv 4]],qh],%[|#[qo,#[qT,Wu,pv 4,#[QZ,Al,pv 1,yy,#[ya,qh]]]]],qr],#[qE,(6),Ql.nd,#[qp,qH,T.ig,#v[pv 2,#[qx,qB,T.QN,uJ,#v[pv 4]]]]],#[qE,(7),Ql.nd,#[qp,qH,T.ig,#v[pv 2,#[qT,QM,#[qx,qB,T.QN,uJ,#v[pv 4]],qh]]]],#[qI,#[qm,qam,pv 5,qh],%[|#[BD,6,#[qp,Zl,T.lN,#v[#[qG,QR,pv 4,pv 6],pv 2,pv 3]],#[Ni,7,pv 4,pv 6,Bo,_],_,_,_]],%[|#[qI,#[qm,Qg,pv 5,qh],%[|#[qW,#[YQ,uO,UJ,UK,BP,pv 4,#v[pv 6]]]],%[|#[qI,#[qm,Qg,pv 5,qh],%[|#[qW,#[YQ,uO,Um,Uo,zy,pv 4,#v[pv 7,#[qG,QR,pv 4,pv 6]]]]],%[|#[qI,#[qm,Qg,pv 5,qh],%[#[qE,(8),Ql.nd,#[YQ,uO,UJ,UK,BP,pv 4,#v[pv 6]]]|#[qW,#[YQ,uO,Um,Uo,zy,pv 4,#v[#[qx,#[sO,1,rfl],T.z_min,boot_min,#v[pv 7,#[qx,qB,T.QN,uJ,#v[pv 4]]]],pv 8]]]],%[|#[qI,#[qm,qaJ,#[qx,qB,T.QN,uJ,#v[pv 1]],qh],%[|#[qW,#[YQ,uO,Um,Uo,zy,pv 4,#v[pv 7,#[qG,QR,pv 1,#[qp,qH,T.ig,#v[pv 2,#[qx,qB,T.QN,uJ,#v[pv 1]]]]]]]]],qr]]]]]]]]]|#[qo,pv 4]]]
 rw[8,N1,q1]
 rw[0,L,us,1,.inl (SqL.of hL),λZ ah=>q1 _ _ ?_];let m1:=qf ah (.lst us);let e1:upd H Z (.lst us) Z=u_ (.lst us):=qg;let i1:=aw.mono m1.tk;generalize upd H Z (.lst us)=H1 at m1 e1 i1⊢;let P1:=hP.same m1;let ad:Z≠p:=KH P1 e1 i1;rw[8,N2,q2]
 rw[0,p,(7),1,P1,(),(),λkd H2 a2 b2 P2 K2=>q2 _ _ ?_]
 let ak:=(iE.of m1).trans K2;let e2:=K2 _ _ e1 ad;let i2:=i1.mono (P1.tk P2 K2);clear K2 i1 e1 m1 P1;rw[8,N3,q3]
 rw[0,Z,us,1,.inl (SqL.of e2),1,0];by_cases c0:↑us=0
 .refine lc (uc (by rw[c0];rfl)) ?_
  let aK:=ak _ _ hO ao
  rw[0,0,0,O,ous,1,SqL.of aK,λl hl=>?_];rw[show(u_ (1:Int))=u_ ((1:Nat):Int) from rfl,Ce]
  let m3:=qf hl (.lst (ous.take 1))
  rw[5]
  refine(Z,l,us,ous.take 1,1,1,m3 _ _ e2,qg,by rw[uM];omega,λl2 al=>?_)
  let m4:=qf al (.lst (us++ous.take 1));let aL:us= []:=vK c0;let aa:=(ak.trans (iE.of m3)).trans (iE.of m4);let P4:=(P2.same m3).same m4;refine k l2 (us++ous.take 1) (os.take 1) _ aa P4 ?_ qg ?_ (λs U=>(ax s (vG U)).up (uS _)) (by rw[uM];omega)
  .cases hh:H l2 with
   |none=>rfl|some o=>
    by_cases c:l2=p
    .erw[P2.same m3,x,hx,_];rw[c,hx,0] at al
    .have:=(ak.trans (iE.of m3)) _ _ hh c;rw[al,0] at this
  .rw[Hv];have:=(ae.mono (hP.tk P4 aa)).take 1;rw[aL] at this⊢;exact this
 refine iQ (ui λq=>c0 (by injection q with q;omega)) (q3 _ _ ?_)
 rw[8,N4,q4]
 rw[0,0,Z,us,1,.inl (SqL.of e2),p,(↑us:Int),1,P2,(),(),λaI H3 a3 b3 P3 K3=>q4 _ _ ?_]
 obtain⟨at_,rfl,af⟩:∃n:Nat,aI=(n:Int)/\n<↑us:=[aI.toNat:():()]
 let e3:=K3 _ _ e2 ad;let i3:=i2.mono (P2.tk P3 K3);rw[8,N5,q5]
 rw[0,0,Z,us,1,.inl (SqL.of e3),_,0,1,p,(↑us:Int)+1,1,P3,(),(),λtI H4 a4 b4 P4 K4=>q5 _ _ ?_]
 obtain⟨to,rfl,aB⟩:∃n:Nat,tI=(n:Int)/\n<=↑us:=[tI.toNat:():()]
 let e4:=K4 _ _ e3 ad;let i4:=i3.mono (P3.tk P4 K4);let aa:=(ak.trans K3).trans K4;clear K3 K4 ak e2 e3 i2 i3 P2 P3;obtain⟨y,hy,iy⟩:=i4.get (i:=at_) (d:=stD (ps[at_]'())) (by rw[uK,ug ()];rfl)
 generalize aM:ps[at_]'()=sa at iy
 let ap:sa>ps:=by rw[<-aM];exact uU _
 rw[8,N6,q6];let fin:∀(sv:om V) (aC us':oj V) (ps':Pp) (H':Hp),iE p H H'->lY H' p->H' Z=u_ (.lst aC)->L2.IsL H' (ps'.map stD) us'->(∀s>ps',s>ps\/ShS (n+1) s)->↑us'<=↑ps+1->N6 [u_ (-L),u_ (-O),u_ (-p),u_ (-nl),u_ (-Z),u_ (.int kd),u_ (.int (at_:Int)),u_ (.int (to:Int)),sv] (upd H' Z (.lst us')):=λsv aC us' ps' H' K' P' e' i' aN aV=>by
  refine q6 _ _ [0:k Z us' ps' _ (λb o e hb=>?_) ?_ ah qg (i'.mono (Tk.updL e')) (λs U=>?_) ?_]
  .rw[qi (qk e ah)];exact K' b o e hb
  .erw[P',x,ex,h,<-⟨x,by rwa[qi (U4 ad)],h⟩]
  .rcases aN s U with h|h
   .exact(ag s h).up (Up n)
   .exact h
  .have:=↑i';rw[u9] at this;omega
 rw[0,_,0,1,0,iY (λ_=>?_) (λ_=>?_)]
 .rw[0,0,Z,_,_,0,1,SqL.of e4,qF hy,0,0,y,p,nl,zs,sa,n,1,iy,ag sa ap,P4,aa _ _ ay aJ,aG,aH,aA,λv' s' H5 K5 P5 aO aP=>?_];let e5:=K5 _ _ e4 ad
  rw[0,0,Z,us,(at_:Int),at_,1,1,e5,Sx af];refine fin _ us _ (ps.take at_++([s']++ps.drop (at_+1))) H5 (aa.trans K5) P5 e5 (by rw[Xr];exact SA (i4.mono (P4.tk P5 K5)) af aO) (λs U=>(Xi U).imp id λh=>by rw[Ac.mp h,0];exact aP) (by rw[Fv];omega)
 rw[0,1,0,iY (λ_=>?_) (λ_=>?_)]
 .rw[0,.inl [1:_:SqL.of e4],0,Z,us,_,at_,y,1,1,e4,(),(),M9 af,hy]
  exact fin _ us _ (ps.take at_++([]++ps.drop (at_+1))) H4 aa P4 e4 (by rw[Xr];exact EK i4 at_) (λs U=>(Xi U).imp id λh=>by rw[h,0]) (by rw[rX af];omega)
 rw[0,1,0,iY (λ_=>?_) (λ_=>?_)]
 .rw[0,.inl [1:_:SqL.of e4],0,0,0,Z,_,_,0,1,SqL.of e4,qF hy,Z,us,to,y,1,1,e4,aB,()]
  refine fin _ us _ (ps.take to++([sa]++ps.drop to)) H4 aa P4 e4 (by rw[Xr];exact qaD i4 to iy) (λs U=>(Xi U).imp id λh=>by rw[Ac.mp h,0];exact(ag _ ap).up (Up n)) (by rw[uw,um,uM,uQ];omega)
 rw[0,1,0,iY (λ_=>?_) (λ_=>?_)]
 .show nz _ _ _ _ H4;rw[8,B1,b1]
  rw[0,.inl [1:_:SqL.of e4],0,Z,us,_,at_,y,1,1,e4,(),(),M9 af,hy,b1 _ _ ?_]
  let am:Tk H4 (upd H4 Z (.lst (us.eraseIdx at_))):=Tk.updL e4;let e5:upd H4 Z (.lst (us.eraseIdx at_)) Z=u_ (.lst (us.eraseIdx at_)):=qg;let P5:lY (upd H4 Z (.lst (us.eraseIdx at_))) p:=by
   erw[P4,x,ex,h,<-⟨x,by rwa[qi (U4 ad)],h⟩]
  let K5:iE p H (upd H4 Z (.lst (us.eraseIdx at_))):=λb o e hb=>by
   rw[qi (qk e ah)];exact aa b o e hb
  let aD:∀x>ps.take at_++([]++ps.drop (at_+1)),x>ps:=λx hx=>(Xi hx).elim id λh=>by rw[h,0]
  let i5:L2.IsL (upd H4 Z (.lst (us.eraseIdx at_))) ((ps.take at_++([]++ps.drop (at_+1))).map stD) (us.eraseIdx at_):=by rw[Xr];exact(EK i4 at_).mono am
  generalize ps.take at_++([]++ps.drop (at_+1))=aE at aD i5;let aq:=iy.mono am;let l5:↑(us.eraseIdx at_)=↑us-1:=rX af;generalize us.eraseIdx at_=ac at e5 P5 K5 i5 l5 am aq⊢;generalize upd H4 Z (.lst ac)=H5 at e5 P5 K5 i5 aq⊢;clear am
  rw[0,.inl [1:_:SqL.of e5],0,0,Z,ac,1,.inl (SqL.of e5),_,0];obtain⟨m,hm,aQ⟩:∃m:Nat,(if(↑ac:Int)<(to:Int) then(↑ac:Int) else(to:Int))=(m:Int)/\m<=↑ac:=by
   by_cases c:(↑ac:Int)<(to:Int)
   .exact[↑ac:A6 c:uq _]
   .exact[to:A4 c:()]
  rw[hm]
  rw[0,Z,ac,m,y,1,1,e5,aQ,()]
  refine fin _ ac _ (aE.take m++([sa]++aE.drop m)) H5 K5 P5 e5 (by rw[Xr];exact qaD i5 m aq) (λs U=>(Xi U).imp (aD s) λh=>by rw[Ac.mp h,0];exact(ag _ ap).up (Up n)) (by rw[uw,um,uM,uQ];omega)
 let aF:=aa _ _ hO ao
 rw[0,O,ous,1,.inl (SqL.of aF),_,0,1,0];by_cases c9:↑ous=0
 .refine iQ (ui ()) ?_
  exact q6 _ _ [0:k Z us ps _ aa P4 ah e4 i4 (λs U=>(ag s U).up (Up n)) ()]
 refine lc (uc ()) ?_
 rw[0,.inl [1:_:SqL.of e4],0,0,0,0,O,ous,1,.inl (SqL.of aF),p,(↑ous:Int),1,P4,(),(),λcI H5 a5 b5 P5 K5=>?_]
 obtain⟨c,rfl,hc⟩:∃n:Nat,cI=(n:Int)/\n<↑ous:=[cI.toNat:():()]
 let e5:=K5 _ _ e4 ad;let au:=aa.trans K5;obtain⟨x,hx,ix⟩:=(ae.mono (hP.tk P5 au)).get (i:=c) (d:=stD (os[c]'())) (by rw[uK,ug ()];rfl)
 rw[_,O,_,_,0,1,SqL.of (au _ _ hO ao),qF hx,Z,us,to,x,1,1,e5,aB,()]
 refine fin _ us _ (ps.take to++([os[c]'()]++ps.drop to)) H5 au P5 e5 (by rw[Xr];exact qaD (i4.mono (P4.tk P5 K5)) to ix) (λs U=>(Xi U).imp id λh=>by rw[Ac.mp h,0];exact(ax _ (uU _)).up (uS _)) (by rw[uw,um,uM,uQ];omega)
def AbE {K:o0}{b A:o3}{H1:Hp}{tg:TG}{tc:TT}{te:TE}{tl:L2.St}{Q:VK}{xs:oj V}(C:Nat->oj V->Hp->Prop)(hb:H1 b=u_ (¬xs))(hn:↑xs<=Vh)(h0:C 0 [] (upd H1 A (.lst [])))(hC:∀i ys H,C i ys H->ic H1 H)
  (aa:∀i x ys H U,xs[i]? =u_ x->C i ys H->H A=u_ (.lst ys)->tg x (U::tl) H λσ2 H2=>tc σ2 H2 λc H3=>if c=v_ then te σ2 H3 λy H4=>H4 A=u_ (.lst ys)/\(∃u0,σ2=u0::tl)/\C (i+1) (ys++ [y]) (upd H4 A (.lst (ys++ [y]))) else H3 A=u_ (.lst ys)/\(∃u0,σ2=u0::tl)/\C (i+1) ys H3)
  (hQ:∀ys H,C ↑xs ys H->H A=u_ (.lst ys)->Q (-A) H):AJ A (Itt K b) tg tc te (U_::tl) H1 Q:=by
 rw[_,↑xs,λi σ ys H=>(∃U,σ=U::tl)/\C i ys H,hn,[[U_:1]:h0],?_,?_]
 .rintro i σ ys H hi ⟨⟨U,rfl⟩,Z⟩ hl hy;let sm:=hC _ _ _ Z;let e0:xs[i]? =u_ xs[i]:=ug hi;rw[_,(_,_,SqT.of (sm _ _ hb),e0)];rintro x H' ⟨rfl,hx⟩;let e:=hx _ (SqT.of (sm _ _ hb));exact aa i x ys H' U e Z hl
 .rintro σ ys H ⟨_,Z⟩ hl;exact[[_:SqT.of (hC _ _ _ Z _ _ hb):uq _]:hQ ys H Z hl]
def AR {kk:Str}{ee:D}:g0D m (-[!kk,ee])=U_↔kk="leaf":=by
 unfold g0D;simp only;constructor
 .intro h;by_cases c:kk="leaf"
  .exact c
  .rw[A4 c] at h;split at h<;>cases h
 .intro h;rw[A6 h]
def Ab9 (hq:QT qs)(m:Str):∃k r,Ck qs m= .tup (.str k::r)/\↑k<=10/\nL r=v_/\dpL r<=40/\(k="value"->∃x,r= [x]/\isT x=v_):=by
 let one:∀(k:Str) (x:D),↑k<=10->isT x=v_->∃U r,D.tup [!k,x]= .tup (.str U::r)/\↑U<=10/\nL r=v_/\dpL r<=40/\(U="value"->∃x,r= [x]/\isT x=v_):=λk x hk Z=>by
  have:=xR Z;rw[_,k,[x],1,hk,?_,?_,λ_=>[x:1:Z]]
  .simp![nL,xS (yp Z),Vb]
  .simp![dpL];omega
 let two:∀(k z:Str),↑k<=10->k≠"value"->∃U r,D.tup [!k,!z]= .tup (.str U::r)/\↑U<=10/\nL r=v_/\dpL r<=40/\(U="value"->∃x,r= [x]/\isT x=v_):=λk z hk Z=>(k,[!z],1,hk,1,by simp[dpL,dp],λh=>A8 h Z)
 unfold Ck;cases hg:g0D m (qJ qs m) with
 |none=>
  try dsimp only
  by_cases c:m>qs.map (·.1)
  .erw[Jq hq c,_,k,e,hd,h1,h2];rw[hd] at hg⊢;let hl:k="leaf":=AR.mp hg;let hm:k≠"made":=by rw[hl];decide+kernel
   let e2:yZ (-[!k,e])=-[-"value",e]:=A6 hl;rw[e2];exact one _ e () (h2 hm).2
  .rw[yY c];exact("lack",[],1,(),1,by simp[dpL],λh=>A8 h ())
 |some s=>
  try dsimp only
  let hf:=WR hg;cases he:(itP qs 302 s).en with
  |none=>rw[he,0] at hf|some e=>
   rcases(NB hq hg 302).1.en e he with⟨z,rfl⟩|⟨v,rfl,hv⟩|⟨z,rfl⟩
   .let e2:yb (flt z)=flt z:=by unfold yb flt;dsimp only;exact A4 ()
    show∃k r,yb (flt z)=_/\_;rw[e2];exact two "fault" z () ()
   .let e2:yb (-[-"said",v])=-[-"value",v]:=by unfold yb;dsimp only;exact A6 rfl
    show∃k r,yb (-[-"said",v])=_/\_;rw[e2];exact one _ v () hv
   .let e2:yb (-[-"stuck",!z])=-[-"stuck",!z]:=by unfold yb;dsimp only;exact A4 ()
    show∃k r,yb (-[-"stuck",!z])=_/\_;rw[e2];exact two "stuck" z () ()
set_option tactic.hygienic true in
def S3 {n:Str}{d:D}{g:Gp}(h:g0D n d=u_ g):yZ d= .non:=by
 unfold g0D at h;split at h
 .rename_i k e
  by_cases c:k="leaf"
  .rw[A6 c,0] at h
  .unfold yZ;exact A4 c
 .rw[h,0]
def SH {ps:Pp}(Z:W1 qs ps)(z:Str):(z>(mr ps).map (·.1)/\(∃g,g0D z (qJ qs z)=u_ g)/\shD qs ps z=Ck qs z)\/(z∉(mr ps).map (·.1)/\g0D z (qJ qs z)=U_/\shD qs ps z=Ck qs z)\/(z∉(mr ps).map (·.1)/\(∃g,g0D z (qJ qs z)=u_ g)/\shD qs ps z= .non):=by
 unfold shD;by_cases c:z>(mr ps).map (·.1)
 .erw[Ie c,j,s,hj,e,hd];erw[(Z j s hj).rn,g,U];let he:=Mu Z hj U;rw[e] at U;refine .inl [c:[g:U]:?_];rw[A6 c,hd,<-he];unfold Ck C4;rw[U]
 .rw[A4 c];cases U:g0D z (qJ qs z) with
  |none=>
   refine .inr (.inl [c:1:?_]);unfold Ck;rw[U]
  |some g=>exact .inr (.inr [c:[g:1]:S3 U])
def Adq (R:Pp):(mr R).map (·.1)=R.map (·.1):=by
 unfold mr;rw[uP]
 rfl
inductive Du (CP:Addr):Sp
 |mk (px t nl:Addr)(us:List V)(qs:List (Str×D))(ps:Pp)(zs:List Str)(n:Nat)(_:vs= [-px,-t,-nl])(_:H t=u_ (¬us))(_:L2.IsL H (ps.map stD) us)(_:ym CP H px qs)(_:QT qs)(_:∀s>ps,ShS n s)(_:↑ps<=1000)(_:H nl=u_ (.lst (zs.map V.str)))(_:∀z>zs,nm z=v_)(_:∀H',ic H H'->Q (.bl v_) H')
def Ej:#[C,17,a.WY,a.Wh,["project","paper","names"],(Du a.qK)]:=by
 let U:=#[L5,T,C];let Jg:=#[oP,T,C];let aa:=#[LJ,T,C];let qO:=#[Yl,T];rw[9,T.mS,Q9]
 erw[h,px,t,nl,us,qs,ps,zs,n,rfl,ht,ae,hP,hq,ap,hl,aq,aB,k];let hs:=uD;let au:↑us=↑ps:=by rw[↑ae,u9]
 rw[3,%[#[qE,(3),Q9.nd,#[qp,Jg,T.iO,#v[pv 0,pv 1]]],#[Ky,2,["step"],(1),[],(4),12,Q9.nd,rfl,GL rfl,IR,rfl,#[Zi,pv 1],(λ_ _ _ _ _ _=>#[qM,(0),(show Vr (["step"]:oj Str) by decide+kernel)]),(λ_ _ _ _ _ _=> @yd _),(λ_ _ _ _ _ _=>#[qG,#[zX,1,K,rfl],pv 0,qh]),_,_,_],#[y8,#[jW,pv 2],#[qM,(5),Q9.nd],%[#[qE,(6),Q9.nd,#[qp,16,aa,hr.mono (),_,T.na.m,T.na.F.kp,T.na.b,.nil,DR,#v[pv 0,pv 1,pv 5],_,_,_]],#[qE,(7),Q9.nd,#[Qn,pv 0,T.Q3,T.ii,qO,#v[pv 5]]],#[qE,(8),Q9.nd,#[ze,#[Qh,jw,pv 7,qR],#[Xc,#[Qh,DW,#[qG,qC,pv 7,qh],ql]]]],@qI _ _ _ _ _ _ _ _ #[jT,#[qm,jw,pv 3,qR],#[YJ,#[qm,jw,pv 6,qR]]].pt %[|#[qo,jf]] qr,@qI _ _ _ _ _ _ _ _ #[jT,#[qm,yD,pv 3,qR],#[jT,#[Qd,pv 8],#[YJ,#[qm,Qg,#[Qh,yD,pv 6,qR],#[Qh,8,QP,pv 5,pv 4,#[w]]]]]].pt %[|#[qo,jf]] qr|@qI _ _ _ _ _ _ _ _ #[jT,#[qm,jw,pv 6,qR],#[YJ,#[qm,#[Ax,1,hr.units],pv 6,#[qp,U,T.mX,#v[pv 0,pv 5]]]]].pt %[|#[qo,jf]] qr]]|#[qo,jf]]]
 rw[8,N1,q1]
 rw[0,0,px,t,us,qs,ps,n,1,ht,ae,hP,hq,ap,hl,λwv H1 s1 w1 w2=>q1 _ _ ?_];rw[8,N2,q2];let aw:=s1 _ _ ht
 rw[0,t,us,1,SqT.of aw,λaC A0 ax=>?_];refine AbE (tl:= []) (λi ys H'=>ys=((ps.take i).map (·.1)).map V.str/\ic H1 H') aw aC [1:qf ax _] (λi ys H' h=>h.2) ?_ ?_
 .rintro i x ys H4 w0 hx ⟨rfl,s4⟩ aD;let hi:i<↑ps:=by rw[<-au];exact(Ag.mp hx).1
  obtain⟨x',ay,ix⟩:=ae.get (i:=i) (d:=stD ps[i]) (by rw[uK,ug hi];rfl)
  rw[hx,0] at ay;erw[ix.mono (s1.trans s4).tk,tt,ut,rfl,aE,y1,r1,rfl,[rfl,_],_]
  try dsimp![YD,nH,GB]
  rw[A6 rfl]
  rw[0,tt,_,_,0,1,SqT.of aE,qF (j:=0) rfl,aD,⟨0⟩,?_,λb o e=>?_]
  .rw[vi,ug hi,uA,uA]
   rfl
  .rw[qi (qk e ax)];exact s4 _ _ e
 rintro ys H2 ⟨rfl,s2⟩ eA;rw[au,U1] at eA;refine q2 _ _ ?_;let af:=s1.trans s2;rw[8,N3,q3]
 rw[0,nl,1,[_:SqL.of (af _ _ aq)]]
 refine_lift let J_:Nat->L2.St->Hp->Prop:=λi σ H'=>∃u5 u6 u7 u8:om V,σ= [u_ (-px),u_ (-t),u_ (-nl),u_ wv,u_ (-A0),u5,u6,u7,u8]/\ic H2 H';?_
 refine wp (K:=K) (a:=nl) (xs:=zs.map V.str) J_ (_,_,_,0,ic.refl _) (λi σ H' _ h=>by erw[h,_,_,_,_,_,s',<-SqL.of (s' _ _ (af _ _ aq))]) ?_ ?_
 .rintro i x σ H3 hx ⟨u5,u6,u7,u8,rfl,s3⟩;erw[Af.mp (uX hx),z,hz,rfl];let al:=aB z hz;let aP:=Xo al;let ag:=af.trans s3;show nz _ _ _ _ H3;rw[8,B1,b1]
  rw[0,0,0,px,t,us,z,qs,ps,n,1,ag _ _ ht,ae.mono ag.tk,hP.same ag,hq,ap,hl,al,λfv H4 s4 f1 f2=>b1 _ _ ?_];let aF:=ag.trans s4;let ac:=s3.trans s4;let am:=hP.same aF;erw[id am,aG,aQ,op,aR,aH,_];rw[8,B2,b2]
  rw[0,px,aG,0,aH,yE,0,px,z,qs,1,am,λsv h1 h2=>b2 _ _ ?_];rw[8,B3,b3]
  suffices hN:B3 [u_ (-px),u_ (-t),u_ (-nl),u_ wv,u_ (-A0),u_ (!z),u_ fv,u_ sv,u_ (.bl (g0D z (qJ qs z)).isSome)] H4 by
   by_cases c:z>qs.map (·.1)
   .erw[Jq hq c,_,kk,e,aI,_,_];let iv:=h1 c;rw[aI] at iv hN;erw[iv,ts,us',rfl,aJ,y1,r1,rfl,[rfl,_],_]
    rw[0,1,0,lc (by simp) ?_]
    rw[0,ts,_,_,0,1,SqT.of aJ,qF (j:=0) rfl,1];let e2:(g0D z (-[!kk,e])).isSome= !(decide) (V.str kk=V.str "leaf"):=by
     by_cases ck:kk="leaf"
     .rw[AR.mpr ck,ck];simp
     .cases hg:g0D z (-[!kk,e]) with
      |none=>exact A8 (AR.mp hg) ck|some _=>
       rw[ui (λy=>ck (V.str.inj y))]
       rfl
    rwa[e2] at hN
   .rw[h2 c,0]
    rw[0,1,0,iQ (by simp) ?_]
    let e2:(g0D z (qJ qs z)).isSome=false:=by
     rw[yY c];cases hg:g0D z .non with
     |none=>rfl|some s=>exact A8 ((Q7 qs).gn z s (by show g0D z (qJ qs z)=u_ s;rw[yY c];exact hg)) c
    rwa[e2] at hN
  refine b3 _ _ ?_;let aK:=ac _ _ eA;let aL:inV (V.str z) ((ps.map (·.1)).map V.str)=decide (z>ps.map (·.1)):=JU _ _;let aN:J_ (i+1) [u_ (-px),u_ (-t),u_ (-nl),u_ wv,u_ (-A0),u_ (!z),u_ fv,u_ sv,u_ (.bl (g0D z (qJ qs z)).isSome)] H4:=(_,_,_,0,ac);rw[8,B4,b4];by_cases hg:W1 qs ps
  .rw[w1 hg,0];let i4:=f1 hg
   rw[0,1,0,iQ (by simp) (b4 _ _ ?_)]
   rw[8,B5,b5];let ah:shD qs ps z=Ck qs z->(∃p,fv=-p)/\∃k r,Ck qs z= .tup (.str k::r)/\nL (.str k::r)=v_/\dpL (.str k::r)<=60/\Is H4 (.tup (.str k::r)) fv:=λe=>by
    erw[Ab9 hq z,ak,ar,Z,aS,aM,aO,_];rw[e,Z] at i4;erw[id i4,p4,u4,e4,_,<-([p4:e4],ak,ar,Z,by simp![nL,nD,aM,Vb,HN],by simp![dpL,dp];omega,i4)]
   let ao:((z>(mr ps).map (·.1)\/g0D z (qJ qs z)=U_)/\shD qs ps z=Ck qs z)\/(z∉(mr ps).map (·.1)/\fv= .non):=by
    rcases SH hg z with⟨c,_,e⟩|⟨c,h,e⟩|⟨c,_,e⟩
    .exact .inl [.inl c:e]
    .exact .inl [.inr h:e]
    .rw[e] at i4;exact .inr [c:i4]
   rw[Adq] at ao
   suffices hN:B5 [u_ (-px),u_ (-t),u_ (-nl),u_ .non,u_ (-A0),u_ (!z),u_ fv,u_ sv,u_ (.bl (g0D z (qJ qs z)).isSome)] H4 by
    rw[0,1,0,lc (uc rfl) [0:?_]];cases hw:(g0D z (qJ qs z)).isSome with
    |false=>
     exact[0:iX (iX hN)]
    |true=>
     rw[0,ky (0,1,0,0,A0,0,.inl (SqL.of aK),1,YT _,1,0,iQ ?_ hN)];rw[aL];rcases ao with⟨hc,e⟩|⟨hc,rfl⟩
     .erw[ah e,[p4,rfl],_];let hz:z>ps.map (·.1):=hc.resolve_right λh=>by rw[h,0] at hw
      simp[hz]
     .simp![ui hc];simp
   refine b5 _ _ ?_;rcases ao with⟨hc,e⟩|⟨hc,rfl⟩
   .erw[ah e,[p4,rfl],ak,ar,Z,ad,aA,i4]
    rw[0,1,0,lc (by simp) ?_]
    rw[0,0,0,px,z,qs,1,al,am,hq,λdv H5 s5 i5 _=>?_];rw[Z] at i5
    rw[_,_,_,i4.mono s5.tk,i5,ad,ad,aA,0];rw[(Yq ad).mpr rfl];exact iX (_,_,_,0,ac.trans s5)
   .exact(0,1,0,iQ (by simp) (_,_,_,0,ac))
  .let hw:=w2 hg;rw[f2 hg,0]
   rw[0,1,0,lc (by simpa using hw) (0,1,0,iQ (by simp) (b4 _ _ ?_))]
   rw[8,B5,b5]
   rw[0,1,0,iQ (by simpa using hw) (b5 _ _ ?_)]
   exact(0,1,0,iQ (by simp) (_,_,_,0,ac))
 .rintro σ H3 ⟨u5,u6,u7,u8,rfl,s3⟩;exact q3 _ _ (k H3 (af.trans s3))
abbrev ZZ:oj Str:= ["zz"]
def AcE:∀z>ZZ,nm z=v_/\↑z<=24:=by decide+kernel
def wM {zs:oj Str}:∀{ys:oj V},(∀y>ys,y>zs.map V.str)->∃U:oj Str,ys=U.map V.str/\∀m>U,m>zs
 | [],_=>⟨[],1,λ_ h=>by rw[h,0]⟩|y::r,h=>by
  erw[Af.mp (h y uj),i,hi,e];obtain⟨U,e2,h2⟩:=wM (ys:=r) λz hz=>h z (uh _ hz);exact⟨i::U,by rw[e2,<-e];rfl,λm hm=>by
   rcases Ab.mp hm with rfl|hm
   .exact hi
   .exact h2 m hm⟩
inductive MX (K:PySem.W.Frag):Sp
 |mk (q:Addr)(ns:List Int)(_:vs= [-q])(_:SqL K H q (ns.map V.int))(_:↑ns<=63)(_:∀H',Q (.bl v_) H')
def Abt:#[C,18,a.f_law,a.d_law,["script"],(MX K)]:=by
 let Kx:=#[LR,T];let xJ:=#[PM,T];let JD:=#[Az,T];let qH:=#[jC,T];let ac:=#[D7,T];let xj:=#[L6,T,C];let zL:=#[LL,T];let ad:=#[Ej,T,C];rw[9,T.B6,jD]
 erw[h,q,ns,rfl,hq,bR,k];let hs:=uD;rw[3,%[#[qE,(1),jD.nd,#[qp,Kx,T.mw,#v[pv 0]]],#[qE,(2),jD.nd,#[qT,Wu,#[XI,["pair"],[],IR,#[jW,pv 1],(λ_ _ _ _ _ _=>#[qM,(0),(show Vr (["pair"]:oj Str) by decide+kernel)]),(λ_ _ _ _ _ _=>#[qG,#[zX,1,K,rfl],pv 0,qh])],#[QF,#v[ql]]]],#[qE,(3),jD.nd,#[XN,T.M_Project,xJ,T.m_Project,T.lC,qz,#v[#[Qa,Qe,T.QW,vH,#v[pv 1]]]]],#[qE,(4),jD.nd,#[XN,T.M_Project,xJ,T.m_Project,T.lC,qz,#v[#[Qa,Qe,T.QW,vH,#v[#[qp,ac,T.mF,#v[pv 1,pv 0]]]]]]],#[qE,(5),jD.nd,#[qT,Wu,#[qp,xj,T.lf,#v[pv 3,pv 2]],#[qp,xj,T.lf,#v[pv 4,pv 2]]]],#[y8,#[Yv,#v[qh]],#[qM,(6),jD.nd],%[#[qE,(7),jD.nd,#[qp,JD,T.mq,#v[#[qT,QM,#[qx,#[Wo,1,rfl],T.z_sum,Tv,#v[pv 0]],#[qT,kJ,qh,pv 6]],#[qT,QM,qh,pv 6]]]],#[qE,(8),jD.nd,#[QF,qd]],#[y8,#[jW,pv 5],#[qM,(9),jD.nd],%[|@qI _ _ _ _ _ _ _ _ #[jT,#[qm,qaJ,#[qp,qH,T.ig,#v[pv 7,qh]],qh],@YJ _ _ _ _ #[zA,#[qm,Qg,#[qT,xT,pv 6,qh],qh],#[Jm,#[qm,8,J0,#[qG,qC,pv 9,qh],#[XI,["one"],[],IR,#[jW,pv 8],(λ_ _ _ _ _ _=>#[qM,(0),(show Vr (["one"]:oj Str) by decide+kernel)]),(λ_ _ _ _ _ _=>#[qG,#[zX,1,K,rfl],pv 0,qh])],#[w]]]].pt].pt %[|#[qW,#[YQ,uO,Um,Uo,zy,pv 8,#v[#[qG,QR,#[QF,#v[#[qx,qB,T.QN,uJ,#v[pv 8]],#[qp,qH,T.ig,#v[pv 7,#[qT,QM,#[qx,qB,T.QN,uJ,#v[pv 8]],qh]]]]],#[Qa,IF,T.z_int,boot_int,#v[#[Qh,Qg,#[qT,xT,pv 6,qh],qh]]]],pv 9]]]] qr]],#[y8,#[Yv,#v[#[qT,xT,pv 6,qh]]],#[qM,(10),jD.nd],%[|#[qE,(8),jD.nd,#[qp,zL,T.lz,#v[pv 8,pv 5,pv 7,pv 2]]]]],#[qE,(11),jD.nd,#[BF,10,(),pv 2,#[ya,#[qT,xT,pv 6,qh]],_]]|#[qI,#[Qr,#[Qd,#[qp,ad,T.mS,#v[pv 3,#[Qa,Qe,T.QW,vH,#v[pv 8]],pv 11]]]],%[|#[qo,jf]],qr]]]|#[qo,jf]]]
 rw[8,N2,q2]
 rw[0,q,ns,1,hq,λL ps us H1 bC s1 hL aF hok aY aG=>q2 _ _ ?_];let hq:=KS hq s1;clear bC s1 q2;rw[8,N3,q3]
 rw[0,L,1,[_:SqL.of hL],λA0 aZ=>?_];refine Ny (tl:= []) hL aF () aZ (λp y H' R hp s' hy hR=>?_) λH3 s3 a1=>?_
 .erw[hy,tp,up,rfl,bD,w1,r1,rfl,[rfl,hz],_,<-(0,tp,_,_,0,1,SqT.of bD,qF (j:=0) rfl,hR _ _ (ic.refl _) [1:hz])]
 rw[_,sml rfl,λl1 a2=>?_];let m3:=qf a2 (.lst [V.str "zz"])
 rw[_,A0,l1,_,0,1,m3 _ _ a1,qg,(by rw[u9,u9];show _+1<=Vh;omega),λnl a3=>q3 _ _ ?_]
 let s4:=(s3.trans m3).trans (qf a3 (.lst ((ps.map (·.1)).map V.str++ [V.str "zz"])));obtain⟨zs,ax⟩:∃zs:oj Str,zs=ps.map (·.1)++ZZ:=⟨0⟩;let eN:(upd (upd H3 l1 (.lst [V.str "zz"])) nl (.lst ((ps.map (·.1)).map V.str++ [V.str "zz"]))) nl=u_ (.lst (zs.map V.str)):=by rw[qg,ax,uA];rfl
 let ah:∀z>zs,nm z=v_/\↑z<=24:=λz hz=>by
  rw[ax] at hz;rcases Ae.mp hz with hz|hz
  .erw[Af.mp hz,p,hp,e];have:=aG p hp;rw[e] at this;exact[hok.1.1 z hz:()]
  .exact AcE z hz
 let bE:↑zs<=20:=by
  rw[ax,uw,u9];show _+1<=20;omega
 generalize upd (upd H3 l1 (.lst [V.str "zz"])) nl (.lst ((ps.map (·.1)).map V.str++ [V.str "zz"]))=H4 at s4 eN⊢;let aH:=s4 _ _ hL;let al:=aF.mono s4.tk;let hq:=KS hq s4;clear m3 a1 aZ s3 s4 hL aF ax q3 a2 a3;rw[8,N4,q4]
 rw[0,L,us,1,.inl [SqL.of aH:λt ht=>?_]];let m1:=qf ht (¬us);intro x dx nx am aI;let m2:ic (upd H4 t (¬us)) (upd (upd (upd H4 t (¬us)) dx (.own x)) x (.ins a.qK dx [])):=λb ob e=>by
  rwa[qi (qk e nx),qi (qk e am)]
 let af:=m1.trans m2
 rw[_,x,dx,t,ps,us,1,qg,m2 _ _ qg,al.mono af.tk,hok,(),λqs H5 keep hP hT _=>[1:q4 _ _ ?_]]
 let s5:ic H4 H5:=λb ob e=>keep b ob (af _ _ e) (qk (m1 _ _ e) nx);let a4:=s5 _ _ aH;let aE:=al.mono s5.tk;let hq:=KS hq s5;let a6:=s5 _ _ eN;clear keep m1 m2 af nx am aI s5 aH al ht q4 eN;rw[8,N5,q5]
 rw[0,0,L,q,ps,us,ns,1,a4,aE,hok,aY,aG,hq,λtl rs ws H6 s6 a8 a9 bb bF=>?_]
 rw[_,tl,ws,1,.inl [SqL.of a8:λt ht=>?_]];let m1:=qf ht (¬ws);intro x2 aJ nx am aI;let m2:ic (upd H6 t (¬ws)) (upd (upd (upd H6 t (¬ws)) aJ (.own x2)) x2 (.ins a.qK aJ [])):=λb ob e=>by
  rwa[qi (qk e nx),qi (qk e am)]
 let af:=m1.trans m2
 rw[_,x2,aJ,t,rs,ws,1,qg,m2 _ _ qg,a9.mono af.tk,bb,(),λbG H7 keep bc ay _=>[1:q5 _ _ ?_]]
 let s7:ic H5 H7:=λb ob e=>keep b ob (af _ _ (s6 _ _ e)) (qk (m1 _ _ (s6 _ _ e)) nx);let hP:=hP.same s7;let hq:=KS hq s7;let aA:=s7 _ _ a6;clear keep m1 m2 af nx am aI s7 s6 a4 aE ht q5 a8 a9 bb bF hok aY aG a6;rw[8,N6,q6]
 rw[0,0,x,nl,zs,qs,1,aA,λz hz=>(ah z hz).1,hP,hT,λr1 u1 E1 H8 _ s8 bd aK aL=>?_]
 rw[0,0,x2,nl,zs,bG,1,s8 _ _ aA,λz hz=>(ah z hz).1,bc.same s8,ay,λr2 u2 E2 H9 _ s9 bf aM aN=>?_];let l1:=aL.len hT;let l2:=aN.len ay;let bH:↑u1=↑E1:=by rw[↑aK,u9]
 let bI:↑u2=↑E2:=by rw[↑aM,u9]
 rw[_,r1,r2,u1,u2,1,1,s9 _ _ bd,bf,(),λlb bg=>q6 _ _ ?_]
 let aO:=qf bg (.lst (u1++u2));let eB:upd H9 lb (.lst (u1++u2)) lb=u_ (.lst (u1++u2)):=qg;let iB:L2.IsL (upd H9 lb (.lst (u1++u2))) ((E1++E2).map stD) (u1++u2):=by rw[uA];exact((aK.mono s9.tk).append aM).mono aO.tk
 let hB:∀s>E1++E2,ShS 0 s:=λs aP=>by
  rcases Ae.mp aP with h|h
  .exact(Ah hT (aL.1 s h)).2.2
  .exact(Ah ay (aN.1 s h)).2.2
 let lB:↑(u1++u2)<=120:=by rw[uw];omega
 let ae:=(s8.trans s9).trans aO;generalize upd H9 lb (.lst (u1++u2))=H0 at eB iB ae⊢;generalize u1++u2=ub at eB iB lB⊢;generalize E1++E2=Eb at iB hB⊢;let bS:↑Eb=↑ub:=by rw[↑iB,u9]
 let hP:=hP.same ae;let hq:=KS hq ae;let bJ:=ae _ _ aA;clear ae bc ay s8 s9 bd bf aK aM aL aN l1 l2 bH bI aO q6 bg aA;rw[8,N7,q7]
 rw[_,(12),1,(),()]
 refine_lift let J_:Nat->L2.St->Hp->Prop:=λi σ H'=>∃(v6 v7 v8 v9 Z aa:om V),σ= [u_ (-q),u_ (-L),u_ (-nl),u_ (-x),u_ (-x2),u_ (-lb),v6,v7,v8,v9,Z,aa]/\ic H0 H';?_
 refine xh (n:=12) J_ (_,_,_,_,_,0,ic.refl _) ?_ ?_
 .rintro i σ H1 hi ⟨v6,v7,v8,v9,Z,aa,rfl,s1⟩;let e0:(0+(i:Int))=(i:Int):=by omega
  rw[e0];let bh:=s1 _ _ bJ;let bo:=s1 _ _ eB;let bp:=iB.mono s1.tk;show nz _ _ _ _ H1;rw[8,B1,b1]
  rw[0,q,ns,1,KS hq s1,0,_,0,1,(.inl [():()]),_,0,1,0,_,0,1,_,0,(),(),λp H2 hp s2 P2=>b1 _ _ ?_]
  rw[8,B2,b2]
  rw[_,uS _,λLP aQ=>b2 _ _ ?_];let m3:=qf aQ (.lst ([]:oj V));let e3:upd H2 LP (.lst []) LP=u_ (.lst []):=qg;let P3:=P2.same m3;let aR:=s2 _ _ bh;let aB:=s2 _ _ bo;let bq:=P2.ne_strs aR;let aS:=bp.mono s2.tk;let bt:=KH P2 aB aS;generalize upd H2 LP (.lst [])=H3 at m3 e3 P3⊢;clear bh bo bp;rw[8,B3,b3]
  rw[0,lb,1,[_:SqL.of (m3 _ _ aB)]]
  refine_lift let J2_:Nat->L2.St->Hp->Prop:=λj σ H'=>∃(us:oj V) (pp:Pp) (v9 Z aa:om V),σ= [u_ (-q),u_ (-L),u_ (-nl),u_ (-x),u_ (-x2),u_ (-lb),u_ (.int (i:Int)),u_ (-p),u_ (-LP),v9,Z,aa]/\iE p H2 H'/\lY H' p/\H' LP=u_ (.lst us)/\L2.IsL H' (pp.map stD) us/\(∀s>pp,ShS 0 s)/\↑pp<=j;?_
  refine wp (K:=K) (a:=lb) (xs:=ub) J2_ ([],[],_,_,0,iE.of m3,P3,e3,1,λs h=>(by rw[h,0]),uq _) (λj σ H' _ h=>by erw[h,_,_,_,_,_,_,K',_,<-SqL.of (K' _ _ aB bt)]) ?_ ?_
  .rintro j y σ H4 hy ⟨U,pp,v9,Z,aa,rfl,K4,P4,e4,i4,ao,bK⟩;let hj:j<↑ub:=(Ag.mp hy).1;let bQ:↑U=↑pp:=by rw[↑i4,u9]
   obtain⟨y',bu,iy⟩:=(aS.mono (P2.tk P4 K4)).get (i:=j) (d:=stD (Eb[j]'())) (by rw[uK,ug ()];rfl)
   rw[hy,0] at bu;let bv:=hB _ (uU (show j<↑Eb by omega))
   generalize Eb[j]'()=sj at iy bv
   erw[id iy,ts,bT,rfl,ak,y1,r1,rfl,[rfl,_],_];let aC:LP≠p:=(P2.free aQ).symm;let ins:∀(jj:Nat) (H8:Hp),iE p H2 H8->lY H8 p->H8 LP=u_ (.lst U)->L2.IsL H8 (pp.map stD) U->Is H8 (stD sj) (-ts)->J2_ (j+1) [u_ (-q),u_ (-L),u_ (-nl),u_ (-x),u_ (-x2),u_ (-lb),u_ (.int (i:Int)),u_ (-p),u_ (-LP),u_ (-ts),Z,aa] (upd H8 LP (.lst (U.take jj++V.ref ts::U.drop jj))):=λjj H8 K8 P8 e8 i8 ag=>by
    rw[_,_,pp.take jj++([sj]++pp.drop jj),_,_,0,λb o e hb=>?_,?_,qg,?_,λs aP=>?_,?_]
    .rw[qi (qk e aQ)];exact K8 b o e hb
    .erw[P8,xx,ex,h,<-⟨xx,by rwa[qi (U4 aC)],h⟩]
    .rw[Xr];exact(qaD i8 jj ag).mono (Tk.updL e8)
    .rcases Xi aP with h|h
     .exact ao s h
     .rw[Ac.mp h,0];exact bv
    .rw[uw,uw,uM,uQ];simp![um,vn];omega
   rw[0,p,(3),1,P4,(),(),λc3 H6 a5 b5 P6 K5=>?_]
   let K6:=K4.trans K5;let aT:=P4.tk P6 K5;let e6:=K5 _ _ e4 aC;let i6:=i4.mono aT;let ap:=iy.mono aT;let bw:H6 ts=u_ (.tup (V.str sj.1::r1)):=by
    erw[id ap,_,_,e7,h7,_,<-K5 _ _ ak (λz=>by erw[P4,xx,hx,_];rw[z,hx,0] at ak)]
   clear iy ak i4 e4 K5 aT;let skip:J2_ (j+1) [u_ (-q),u_ (-L),u_ (-nl),u_ (-x),u_ (-x2),u_ (-lb),u_ (.int (i:Int)),u_ (-p),u_ (-LP),u_ (-ts),Z,aa] H6:=(U,pp,_,_,0,K6,P6,e6,i6,ao,())
   rw[_,_,0,1,0,iY (λ_=>?_) (λ_=>skip)]
   rw[5]
   refine(0,_,0,1,by show(0:Int)<4;decide,1,0,iY (λ_=>?_) (λ_=>?_))
   .rw[0,.inl [1:_:SqL.of e6],0,LP,U,1,.inl (SqL.of e6),0,0,LP,U,1,.inl (SqL.of e6),_,0,1,p,(↑U:Int)+1,1,P6,(),(),λcI H7 a7 b7 P7 K7=>[sml rfl:λl hl=>?_]]
    let n7:=qf hl (.lst [V.int (↑U:Int),V.int cI]);let f7:upd H7 l (.lst [V.int (↑U:Int),V.int cI]) l=u_ (.lst [V.int (↑U:Int),V.int cI]):=qg;let e8:=n7 _ _ (K7 _ _ e6 aC);let P8:=P7.same n7;let aq:=K7.trans (iE.of n7);let K8:=K6.trans aq;let au:=P6.tk P8 aq;let i8:=i6.mono au;let ag:=ap.mono au;generalize upd H7 l (.lst [V.int (↑U:Int),V.int cI])=H8 at f7 e8 P8 K8 i8 ag⊢;obtain⟨jj,aU,aV⟩:∃jj:Nat,jj<=↑U/\atI [V.int (↑U:Int),V.int cI] (if decide (V.int ((i:Int)%5)=V.int 4) then 1 else 0)=u_ (.int (jj:Int)):=by
     by_cases ci:V.int ((i:Int)%5)=V.int 4
     .rw[_,cI.toNat,()]
      rw[uc ci];show u_ (V.int cI)=_;rw[show((cI.toNat:Nat):Int)=cI by omega]
     .rw[_,↑U,uq _];rw[ui ci]
      rfl
    rw[0,_,0,1,(by show(0:Int)<5;decide),1,.inr (0,l,_,_,0,1,SqL.of f7,aV,0,LP,U,jj,-ts,1,1,e8,aU,(),?_)]
    exact ins jj H8 K8 P8 e8 i8 ag
   rw[0,ts,_,_,0,1,SqT.of bw,qF (j:=0) rfl,0,LP,1,[_:SqL.of e6],λA9 bL=>?_];refine EC e6 i6 () bL (λts ws s H' R' ak bM=>(0,ts,_,_,0,1,SqT.of ak,qF (j:=0) rfl,bM)) λH5 s5 eA=>?_
   let aW:J2_ (j+1) [u_ (-q),u_ (-L),u_ (-nl),u_ (-x),u_ (-x2),u_ (-lb),u_ (.int (i:Int)),u_ (-p),u_ (-LP),u_ (-ts),Z,aa] H5:=(U,pp,_,_,0,K6.trans (iE.of s5),P6.same s5,s5 _ _ e6,i6.mono s5.tk,ao,())
   rw[_,A9,0,.inl (SqL.of eA),1,YT _,0,iY (λ_=>?_) (λ_=>aW)]
   replace K6:=K6.trans (iE.of s5)
   replace P6:=P6.same s5
   replace e6:=s5 _ _ e6
   replace i6:=i6.mono s5.tk
   replace ap:=ap.mono s5.tk
   rw[0,.inl [1:_:SqL.of e6],0,LP,U,1,.inl (SqL.of e6),0,0,LP,U,1,.inl (SqL.of e6),_,0,1,p,(↑U:Int)+1,1,P6,(),(),λcI H7 a7 b7 P7 K7=>[sml rfl:λl hl=>?_]]
   let n7:=qf hl (.lst [V.int (↑U:Int),V.int cI]);let f7:upd H7 l (.lst [V.int (↑U:Int),V.int cI]) l=u_ (.lst [V.int (↑U:Int),V.int cI]):=qg;let e8:=n7 _ _ (K7 _ _ e6 aC);let P8:=P7.same n7;let aq:=K7.trans (iE.of n7);let K8:=K6.trans aq;let au:=P6.tk P8 aq;let i8:=i6.mono au;let ag:=ap.mono au;generalize upd H7 l (.lst [V.int (↑U:Int),V.int cI])=H8 at f7 e8 P8 K8 i8 ag⊢;obtain⟨jj,aU,aV⟩:∃jj:Nat,jj<=↑U/\atI [V.int (↑U:Int),V.int cI] (if decide (V.int ((i:Int)%5)=V.int 4) then 1 else 0)=u_ (.int (jj:Int)):=by
    by_cases ci:V.int ((i:Int)%5)=V.int 4
    .rw[_,cI.toNat,()]
     rw[uc ci];show u_ (V.int cI)=_;rw[show((cI.toNat:Nat):Int)=cI by omega]
    .rw[_,↑U,uq _];rw[ui ci]
     rfl
   rw[0,_,0,1,(by show(0:Int)<5;decide),1,.inr (0,l,_,_,0,1,SqL.of f7,aV,0,LP,U,jj,-ts,1,1,e8,aU,(),?_)]
   exact ins jj H8 K8 P8 e8 i8 ag
  .rintro σ H4 ⟨U,pp,v9,Z,aa,rfl,K4,P4,e4,i4,ao,bK⟩;refine b3 _ _ ?_;rw[8,B4,b4];obtain⟨m,hm,bU⟩:∃m:Nat,(i:Int)%3=(m:Int)/\m<=2:=[((i:Int)%3).toNat:():()]
   rw[5]
   refine(0,_,0,1,by show(0:Int)<3;decide,?_)
   rw[hm]
   rw[_,m,1,(),()]
   refine_lift let J3_:Nat->L2.St->Hp->Prop:=λj σ H'=>∃(LQ:o3) (us:oj V) (pp:Pp) (v9 Z aa:om V),σ= [u_ (-q),u_ (-L),u_ (-nl),u_ (-x),u_ (-x2),u_ (-lb),u_ (.int (i:Int)),u_ (-p),u_ (-LQ),v9,Z,aa]/\iE p H2 H'/\lY H' p/\H' LQ=u_ (.lst us)/\L2.IsL H' (pp.map stD) us/\(∀s>pp,ShS j s)/\↑pp<=120+j;?_
   refine xh (n:=m) J3_ (LP,U,pp,_,_,0,K4,P4,e4,i4,ao,()) ?_ ?_
   .rintro j σ H5 hj ⟨LQ,aD,aX,v9,Z,aa,rfl,K5,P5,e5,i5,aw,bx⟩
    rw[0,0,0,0,LQ,lb,p,nl,aD,ub,aX,Eb,zs,j,1,e5,i5,K5 _ _ aB bt,aS.mono (P2.tk P5 K5),aw,hB,P5,K5 _ _ aR bq,λz hz=>(ah z hz).2,bE,(),(),(),λL' us' ps' H6 K6 P6 _ e6 i6 h6 l6=>?_]
    exact(L',us',ps',_,_,0,K5.trans K6,P6,e6,i6,h6,())
   .rintro σ H5 ⟨LQ,aD,aX,v9,Z,aa,rfl,K5,P5,e5,i5,aw,bx⟩;refine b4 _ _ ?_;rw[8,B5,b5]
    rw[5]
    refine(0,0,_,0,1,by show(0:Int)<3;decide,0,nl,0,SqL.of (K5 _ _ aR bq),λys y0 _ bA bN=>b5 _ _ ?_)
    erw[wM bA,ms,rfl,bO];let m6:=qf bN (.lst (ms.map V.str));let e7:upd H5 y0 (.lst (ms.map V.str)) y0=u_ (.lst (ms.map V.str)):=qg;generalize upd H5 y0 (.lst (ms.map V.str))=H6 at m6 e7⊢;let bP:ic H1 H6:=(K5.same s2 hp).trans m6;let bB:=s1.trans bP
    rw[5]
    refine(0,0,LQ,aD,1,.inl [SqL.of (m6 _ _ e5):λt ht=>(0,x,t,y0,aD,qs,aX,ms,m,1,qg,(i5.mono m6.tk).mono (qf ht _).tk,(hP.same bB).same (qf ht _),hT,aw,(),qf ht _ _ _ e7,λz hz=>(ah z (bO z hz)).1,λH7 s7=>[0:iX (_,_,_,_,_,0,(bB.trans (qf ht _)).trans s7)])])
 .rintro σ H1 ⟨v6,v7,v8,v9,Z,aa,rfl,s1⟩;exact q7 _ _ (k H1)
end
def AcJ {K:o0}{h:o8}{mg:Str->om o6}(X:K.In h)(G:h.Ns Vz mg){Z aa U ac f1 f2 f3 f4 f5 f6 f7 f8 f9 aV aW aX aY aZ a1 a2 a3 a4 a5 a6 a7 a8 a9 bb bc bd bf bg bh bo bp bq bt bu bv bw bx bA bB bC bD bE bF bG bH bI bJ bK bL bM bN bO bP bQ bR bS bT bU bV bW bX bY bZ b3 b4 b5 b6 b7 b8 b9 ca cb cc cd ce cf cg ch ci cj ck cm cn cp cq cr cs cu cv cw:o3}{t1 t2 t3 t4 t5 t6 t7 t8 t9 cx cy:Tok}
  (aL:#[K,"Machine"]=u_ (u_ (-Z))) (aM:Cls K Z) (aC:PySem.W.makesIn K Z=v_/\PySem.W.keepIn K (-Z)=v_)
  (aP:#[K,"Going"]=u_ (u_ (-aa))) (aQ:Cls K aa) (aK:PySem.W.makesIn K aa=v_/\PySem.W.keepIn K (-aa)=v_)
  (aE:#[K,"PlainOrder"]=u_ (u_ (-U))) (aF:Cls K U) (ag:PySem.W.makesIn K U=v_/\PySem.W.keepIn K (-U)=v_)
  (aN:#[K,"Project"]=u_ (u_ (-ac))) (aO:Cls K ac) (aD:PySem.W.makesIn K ac=v_/\PySem.W.keepIn K (-ac)=v_)
  (h1:FZg K "is_text" WW f1)
  (h2:FZg K "is_tree" zr f2)
  (h3:FZg K "is_name" WD f3)
  (h4:FZg K "is_pair" wH f4)
  (h5:FZg K "is_row_of_names" Ye f5)
  (h6:FZg K "is_answer" Xf f6)
  (h7:FZg K "part_of" Wk f7)
  (h8:FZg K "pieces_of" XB f8)
  (h9:FZg K "row_of" wq f9)
  (h10:FZg K "read_lines" JV aV)
  (h11:FZg K "rule_rows" XF aW)
  (h12:FZg K "bad_line" Zq aX)
  (h13:FZg K "is_rule" WC aY)
  (h14:FZg K "text_made" Xm aZ)
  (cz:FZg K "self_made" Xw a1)
  (cA:FZg K "copy_made" XD a2)
  (cB:FZg K "row_made" Zc a3)
  (cC:FZg K "put_made" Zy a4)
  (cD:FZg K "join_made" Xx a5)
  (cE:FZg K "first_made" xb a6)
  (cF:FZg K "rest_made" Xh a7)
  (cG:FZg K "size_made" Xg a8)
  (cH:FZg K "cut_made" Zx a9)
  (cI:FZg K "glue_made" Xz bb)
  (cJ:FZg K "is_jump_taken" YU bc)
  (cK:FZg K "asked_or_fault" YA bd)
  (aR:FZm K Z "__init__" "Machine.__init__" jv bf)
  (cL:FZm K Z "now" "Machine.now" jZ bg)
  (cM:FZm K Z "answer" "Machine.answer" Yy bh)
  (cN:FZm K Z "asked" "Machine.asked" YW bo)
  (cO:FZm K Z "go_on" "Machine.go_on" ja bp)
  (cP:FZm K Z "is_waiting" "Machine.is_waiting" yk bq)
  (cQ:FZm K Z "do_row" "Machine.do_row" Yz bt)
  (cR:FZm K Z "hold" "Machine.hold" jy bu)
  (cS:FZg K "asks_that_stand" Yi bv)
  (cT:FZg K "does" DH bw)
  (aS:FZm K aa "__init__" "Going.__init__" J5 bx)
  (cU:FZm K aa "begin" "Going.begin" Jk bA)
  (cV:FZm K aa "look" "Going.look" JJ bB)
  (cW:FZm K aa "wanted" "Going.wanted" jA bC)
  (cX:FZm K aa "take" "Going.take" JI bD)
  (cY:FZm K aa "full" "Going.full" JE bE)
  (aT:FZm K U "__init__" "PlainOrder.__init__" Yj bF)
  (cZ:FZm K U "begin_anew" "PlainOrder.begin_anew" Q0 bG)
  (c0:FZm K U "go_through" "PlainOrder.go_through" QY bH)
  (c1:FZm K U "enter" "PlainOrder.enter" yM bI)
  (c2:FZm K U "settle" "PlainOrder.settle" yx bJ)
  (c3:FZm K U "runner" "PlainOrder.runner" yt bK)
  (c4:FZm K U "leave" "PlainOrder.leave" yL bL)
  (c5:FZm K U "go_on" "PlainOrder.go_on" yR bM)
  (c6:FZm K U "answer_yet" "PlainOrder.answer_yet" Q1 bN)
  (c7:FZg K "answer_at_once" YF bO)
  (c8:FZg K "has_run" Wg bP)
  (c9:FZg K "answer_by" XU bQ)
  (da:FZg K "check_name" JK bR)
  (de:FZg K "check_names" j8 bS)
  (dh:FZg K "order_from" JM bT)
  (di:FZg K "order_over" JY bU)
  (dj:FZg K "answer_of" Xy bV)
  (dk:FZg K "full_run" Zw bW)
  (dl:FZg K "met_by" qaa bX)
  (dm:FZg K "first_wrong" j7 bY)
  (dq:FZg K "first_ends" J3 bZ)
  (dt:FZg K "wrong_word" jp b3)
  (dv:FZg K "is_right_answer" Ya b4)
  (dw:FZg K "is_full_run" Jd b5)
  (dy:FZg K "is_run_of" Xn b6)
  (dz:FZg K "shown" Ap b7)
  (dA:FZg K "is_source" XS b8)
  (aU:FZm K ac "__init__" "Project.__init__" Yn b9)
  (dB:FZm K ac "sources" "Project.sources" jQ ca)
  (dC:FZm K ac "source_of" "Project.source_of" yA cb)
  (dD:FZm K ac "looked_up" "Project.looked_up" QX cc)
  (dE:FZg K "longest_row" Je cd)
  (dF:FZg K "_law_cell_at" Ja ce)
  (dG:FZg K "_law_pot" WV cf)
  (dH:FZg K "_law_take" zS cg)
  (dI:FZg K "_law_word" Zt ch)
  (dJ:FZg K "_law_line" xy ci)
  (dL:FZg K "_law_rule" xr cj)
  (dM:FZg K "_law_maker" XE ck)
  (dN:FZg K "_law_leaf" xo cm)
  (dO:FZg K "_law_source" xn cn)
  (dP:FZg K "_law_sources" j3 cp)
  (dQ:FZg K "_law_all_steps" jd cq)
  (dR:FZg K "_law_step_spoilt" Ym cr)
  (dS:FZg K "_law_paper_spoilt" yQ cs)
  (dU:FZg K "_law_turned" J8 cu)
  (dV:FZg K "_law_right" XJ cv)
  (dW:FZg K "law" OX cw)
  (ay:#[K,Z,"rows"])
  (aA:#[K,Z,"rule"])
  (aG:#[K,Z,"own"])
  (ap:#[K,Z,"boxes"])
  (aq:#[K,Z,"place"])
  (aB:#[K,Z,"done"])
  (au:#[K,Z,"given"])
  (aw:#[K,Z,"there"])
  (aI:#[K,aa,"name"])
  (aH:#[K,aa,"order"])
  (ax:#[K,aa,"made_by"])
  (al:#[K,aa,"rule_asks"])
  (ao:#[K,aa,"rule_run"])
  (aJ:#[K,aa,"end"])
  (ad:#[K,U,"given_project"])
  (ah:#[K,U,"stack"])
  (ae:#[K,U,"under_way"])
  (af:#[K,U,"full_runs"])
  (ak:#[K,U,"found"])
  (am:#[K,ac,"by_name"])
  (g1:#[K,"MOST_SIGNS"]=u_ (u_ (.int 300 t1)))
  (g2:#[K,"MOST_PARTS"]=u_ (u_ (.int 40 t2)))
  (g3:#[K,"MOST_SIZE"]=u_ (u_ (.int 600 t3)))
  (g4:#[K,"MOST_DEPTH"]=u_ (u_ (.int 12 t4)))
  (g5:#[K,"MOST_NAME_SIGNS"]=u_ (u_ (.int 24 t5)))
  (g6:#[K,"LETTERS"]=u_ (u_ (.str "abcdefghijklmnopqrstuvwxyz" t6)))
  (g7:#[K,"NAME_SIGNS"]=u_ (u_ (.str "abcdefghijklmnopqrstuvwxyz0123456789./" t7)))
  (g8:#[K,"PERCENT"]=u_ (u_ (.int 37 t8)))
  (g9:#[K,"MOST_LINES"]=u_ (u_ (.int 40 t9)))
  (dX:#[K,"MOST_DONE"]=u_ (u_ (.int 300 cx)))
  (dY:#[K,"MOST_NAMES"]=u_ (u_ (.int 60 cy)))
  (zz:∀x>(["ord","len","isinstance","str","tuple","all","int","range","zip","dict","enumerate","sorted","abs","min","sum","list"]:oj Str),PySem.W.nsIn K Vz x=u_ U_):∃a,Tx K mg a:=by
 rw[6,d1,F1,Qb,h1,["value"]];rw[6,d2,F2,Qb,h2,["value"]];rw[6,d3,F3,Qb,h3,["value"]];rw[6,d4,F4,Qb,h4,["value"]];rw[6,d5,F5,Qb,h5,["tree"]];rw[6,d6,F6,Qb,h6,["ask","answer"]];rw[6,d7,F7,Qb,h7,["kind","piece","count"]];rw[6,d8,F8,Qb,h8,["line","form"]];rw[6,d9,F9,Qb,h9,["line","count"]];rw[6,dZ,d0,Qb,h10,["value"]];rw[6,ea,eb,Qb,h11,["tree"]];rw[6,ec,ef,Qb,h12,["tree"]];rw[6,eg,eh,Qb,h13,["value"]];rw[6,ei,ej,Qb,h14,["boxes","own","parts"]];rw[6,ek,el,Qb,cz,["boxes","own","parts"]];rw[6,em,eo,Qb,cA,["boxes","own","parts"]];rw[6,eq,er,Qb,cB,["boxes","own","parts"]];rw[6,et,eu,Qb,cC,["boxes","own","parts"]];rw[6,ey,ez,Qb,cD,["boxes","own","parts"]];rw[6,eA,eB,Qb,cE,["boxes","own","parts"]];rw[6,eC,eD,Qb,cF,["boxes","own","parts"]];rw[6,eE,eF,Qb,cG,["boxes","own","parts"]];rw[6,eG,eH,Qb,cH,["boxes","own","parts"]];rw[6,eI,eJ,Qb,cI,["boxes","own","parts"]];rw[6,eK,eL,Qb,cJ,["boxes","word","parts"]];rw[6,eM,eN,Qb,cK,["word","held"]];obtain⟨eO,eP⟩:=Yf aR ["self","rule","own"] (by rfl');obtain⟨eQ,eR⟩:=Yf cL ["self"] (by rfl');obtain⟨eS,eT⟩:=Yf cM ["self","tree"] (by rfl');obtain⟨eU,eV⟩:=Yf cN ["self"] (by rfl');obtain⟨eW,eX⟩:=Yf cO ["self"] (by rfl');obtain⟨eY,eZ⟩:=Yf cP ["self"] (by rfl');obtain⟨e1,e2⟩:=Yf cQ ["self","row"] (by rfl');obtain⟨e3,e4⟩:=Yf cR ["self","box","tree"] (by rfl');rw[6,e5,e6,Qb,cS,["machine","asks"]];rw[6,e7,e8,Qb,cT,["rule","own","run"]];obtain⟨e9,fa⟩:=Yf aS ["self","name","source","order"] (by rfl');obtain⟨fb,fc⟩:=Yf cU ["self","rule"] (by rfl');obtain⟨fe,ff⟩:=Yf cV ["self"] (by rfl');obtain⟨fg,fh⟩:=Yf cW ["self"] (by rfl');obtain⟨fi,fj⟩:=Yf cX ["self","answer"] (by rfl');obtain⟨fm,fo⟩:=Yf cY ["self"] (by rfl');obtain⟨fq,ft⟩:=Yf aT ["self","project"] (by rfl');obtain⟨fv,fw⟩:=Yf cZ ["self","project"] (by rfl');obtain⟨fx,fy⟩:=Yf c0 ["self","name"] (by rfl');obtain⟨fz,fA⟩:=Yf c1 ["self","name"] (by rfl');obtain⟨fB,fC⟩:=Yf c2 ["self","going"] (by rfl');obtain⟨fD,fE⟩:=Yf c3 ["self","rule","own"] (by rfl');obtain⟨fF,fG⟩:=Yf c4 ["self","going"] (by rfl');obtain⟨fH,fI⟩:=Yf c5 ["self","going"] (by rfl');obtain⟨fJ,fK⟩:=Yf c6 ["self","name"] (by rfl');rw[6,fL,fM,Qb,c7,["source"]];rw[6,fN,fO,Qb,c8,["source"]];rw[6,fP,fQ,Qb,c9,["end"]];rw[6,fR,fS,Qb,da,["name"]];rw[6,fT,fU,Qb,de,["names"]];rw[6,fV,fW,Qb,dh,["project","name"]];rw[6,fX,fY,Qb,di,["project","names"]];rw[6,fZ,f0,Qb,dj,["project","name"]];rw[6,gb,gc,Qb,dk,["project","name"]];rw[6,ge,gf,Qb,dl,["project","name"]];rw[6,gg,gh,Qb,dm,["project","paper"]];rw[6,gj,gk,Qb,dq,["paper"]];rw[6,gl,gm,Qb,dt,["project","ends","earlier","step"]];rw[6,gq,gr,Qb,dv,["project","earlier","ask","answer"]];rw[6,gu,gv,Qb,dw,["source","name","asks","end"]];rw[6,gw,gx,Qb,dy,["rule","own","asks","end"]];rw[6,gy,gz,Qb,dz,["project","paper","name"]];rw[6,gA,gB,Qb,dA,["value"]];obtain⟨gC,gD⟩:=Yf aU ["self","sources"] (by rfl');obtain⟨gE,gF⟩:=Yf dB ["self"] (by rfl');obtain⟨gG,gH⟩:=Yf dC ["self","name"] (by rfl');obtain⟨gI,gJ⟩:=Yf dD ["self","ask"] (by rfl');rw[6,gK,gL,Qb,dE,["names"]];rw[6,gM,gN,Qb,dF,["script","k"]];rw[6,gO,gP,Qb,dG,["cell","salt"]];rw[6,gQ,gR,Qb,dH,["pot","many"]];rw[6,gS,gT,Qb,dI,["pot","names"]];rw[6,gU,gW,Qb,dJ,["pot","names","many","k"]];rw[6,gX,gY,Qb,dL,["pot","names"]];rw[6,gZ,hb,Qb,dM,["pot","names"]];rw[6,hc,he,Qb,dN,["pot","names"]];rw[6,hf,hg,Qb,dO,["pot","names"]];rw[6,hh,hj,Qb,dP,["script"]];rw[6,hk,hl,Qb,dQ,["project","names"]];rw[6,ho,hp,Qb,dR,["step","pot","names"]];rw[6,hq,hr,Qb,dS,["steps","others","pot","names"]];rw[6,hs,ht,Qb,dU,["pairs","script"]];rw[6,hu,hv,Qb,dV,["project","paper","names"]];rw[6,hw,hy,Qb,dW,["script"]];let z:∀x>(["ord","len","isinstance","str","tuple","all","int","range","zip","dict","enumerate","sorted","abs","min","sum","list"]:oj Str),mg x=none:=λx hx=>PySem.W.mg_none_of X G (zz x hx);simp![uG,uZ,uV,forall_eq_or_imp,forall_eq] at z;erw[z,z1,z2,z3,z4,z5,z6,z7,z8,z9,hA,hB,hC,hD,hE,hF,hG,<-[(f1,d1,f2,d2,f3,d3,f4,d4,f5,d5,f6,d6,f7,d7,f8,d8,f9,d9,aV,dZ,aW,ea,aX,ec,aY,eg,aZ,ei,a1,ek,a2,em,a3,eq,a4,et,a5,ey,a6,eA,a7,eC,a8,eE,a9,eG,bb,eI,bc,eK,bd,eM,bf,eO,bg,eQ,bh,eS,bo,eU,bp,eW,bq,eY,bt,e1,bu,e3,bv,e5,bw,e7,bx,e9,bA,fb,bB,fe,bC,fg,bD,fi,bE,fm,bF,fq,bG,fv,bH,fx,bI,fz,bJ,fB,bK,fD,bL,fF,bM,fH,bN,fJ,bO,fL,bP,fN,bQ,fP,bR,fR,bS,fT,bT,fV,bU,fX,bV,fZ,bW,gb,bX,ge,bY,gg,bZ,gj,b3,gl,b4,gq,b5,gu,b6,gw,b7,gy,b8,gA,b9,gC,ca,gE,cb,gG,cc,gI,cd,gK,ce,gM,cf,gO,cg,gQ,ch,gS,ci,gU,cj,gX,ck,gZ,cm,hc,cn,hf,cp,hh,cq,hk,cr,ho,cs,hq,cu,hs,cv,hu,cw,hw,Z,aa,U,ac):(F1,F2,F3,F4,F5,F6,F7,F8,F9,d0,eb,ef,eh,ej,el,eo,er,eu,ez,eB,eD,eF,eH,eJ,eL,eN,eP,eR,eT,eV,eX,eZ,e2,e4,e6,e8,fa,fc,ff,fh,fj,fo,ft,fw,fy,fA,fC,fE,fG,fI,fK,fM,fO,fQ,fS,fU,fW,fY,f0,gc,gf,gh,gk,gm,gr,gv,gx,gz,gB,gD,gF,gH,gJ,gL,gN,gP,gR,gT,gW,gY,hb,he,hg,hj,hl,hp,hr,ht,hv,hy,aM,(aC.1,aR.1,aR.2.1,aC.2),uW X G aL,ay,aA,aG,ap,aq,aB,au,aw,aQ,(aK.1,aS.1,aS.2.1,aK.2),uW X G aP,aI,aH,ax,al,ao,aJ,aF,(ag.1,aT.1,aT.2.1,ag.2),uW X G aE,ad,ah,ae,af,ak,aO,(aD.1,aU.1,aU.2.1,aD.2),uW X G aN,am,[_:uW X G g1],[_:uW X G g2],[_:uW X G g3],[_:uW X G g4],[_:uW X G g5],[_:uW X G g6],[_:uW X G g7],[_:uW X G g8],[_:uW X G g9],[_:uW X G dX],[_:uW X G dY],z1,z2,z3,z4,z5,z6,z7,z8,z9,hA,hB,hC,hD,hE,hF,hG)]]
variable {K:o0}{h:o8}{mg:Str->om o6}{f:o3}{x:Str}
def mk1 (X:K.In h)(G:h.Ns Vz mg){U:o3}{y:Str}(z:∃m,PySem.W.nsIn K Vz y=u_ (u_ (-m))/\PySem.W.nsIn K U x=u_ (u_ (-m)))(e:mg y=u_ (-f)):PySem.W.nsIn K U x=u_ (u_ (-f)):=by
 erw[z,m,h1,h2];have:=(uW X G h1).symm.trans e;injection this with this
 injection this with this
 rw[<-this];exact h2
abbrev MKP:oj (Str×Str):= [("text","text_made"),("self","self_made"),("copy","copy_made"),("row","row_made"),("put","put_made"),("join","join_made"),("first","first_made"),("rest","rest_made"),("size","size_made"),("cut","cut_made"),("glue","glue_made")]
abbrev AbM (e:GK):om Str:=match e.key with
 | .str x _=>u_ x|_=>U_
variable {a:o3}{n:Nat}
set_option tactic.hygienic true in
def Ku {es:Array GK}(hl:K.lookup a=u_ (.type "dict",U_,.dict es n,#[]))(hk:es.toList.map AbM=FRM.map λx=>u_ x.1)(hz:xV z=U_):PySem.W.nsIn K a z=u_ none:=by
 let h1:∀e>es.toList,∃x t,e.key= .str x t/\x≠z:=by
  intro e Z;let hm:AbM e>es.toList.map AbM:=Af.mpr [e:Z:1];rw[hk] at hm;erw[Af.mp hm,x,hx,ex];let U:=wy hz x hx;unfold AbM at ex;split at ex
  .rename_i y t hy
   rw[ex,0];exact(_,_,hy,U)
  .rw[ex,0]
 unfold PySem.W.nsIn;rw[hl]
 try dsimp only
 let f1:es.toList.find? (λe=>e.key.isStr z)=none:=by
  rw[Uz];intro e Z;erw[h1 e Z,x,t,hx,U];rw[hx];exact λq=>U (ur q)
 let f2:es.toList.any (·.refKey)=false:=by
  rw[tY];intro e Z;erw[h1 e Z,x,t,hx,U];unfold RJ;rw[hx];exact uf
 rw[f1,f2]
 rfl
def Adp {w:og}{K:o0}{h:o8}{mg:Str->om o6}{a:Ad}(T:Tx K mg a)(X:K.In h)(G:h.Ns Vz mg){aB aA aF aM aa U Z aW:o3}{eF eM:Array GK}{nF nM:Nat}
  (gB:#[K,"BOXES"]=u_ (u_ (-aB))) (gA:#[K,"ASKING"]=u_ (u_ (-aA))) (gF:#[K,"FORMS"]=u_ (u_ (-aF))) (gM:#[K,"MAKERS"]=u_ (u_ (-aM)))
  (lB:TZ K aB BX) (lA:TZ K aA ["ask","has","names"]) (lF:K.lookup aF=u_ (.type "dict",U_,.dict eF nF,#[])) (lM:K.lookup aM=u_ (.type "dict",U_,.dict eM nM,#[]))
  (kF:PySem.W.KeysLit w.params eF.toList) (kM:PySem.W.KeysLit w.params eM.toList) (zF:(aF==Vy)=Vd) (zM:(aM==Vy)=Vd)
  (fF:∀x>FRM,TZn K aF x.1 (x.2.map Kd.t)) (fM:∀p>MKP,∃m,PySem.W.nsIn K Vz p.2=u_ (u_ (-m))/\PySem.W.nsIn K aM p.1=u_ (u_ (-m))) (oM:∀z>Acj,PySem.W.nsIn K aM z=u_ U_)
  (kk:eF.toList.map AbM=FRM.map λx=>u_ x.1)
  (g1:#[K,"BadRule"]=u_ (u_ (-aa))) (b1:PySem.W.excIn K aa VE "ValueError.__new__"=v_)
  (g2:#[K,"BadName"]=u_ (u_ (-U))) (b2:PySem.W.excIn K U VE "ValueError.__new__"=v_)
  (g3:#[K,"BadAnswer"]=u_ (u_ (-Z)))
  (e3:PySem.W.exmOne K (-Z) (-Z)=u_ v_)
  (gW:#[K,"WrightError"]=u_ (u_ (-aW)))
  (e2:PySem.W.exmOne K (-U) (-aW)=u_ v_) (x2:AwV.ExcCls K U):∃g,Fx K w mg g a:=by
 rw[_,(aB,aA,aF,aM,aa,U,Z,aW),(uW X G gB,uW X G gA,uW X G gF,uW X G gM,λH=>lB.sq (),λH=>lA.sq (),(zF,eF,nF,lF,kF),λx hx=>?_,(zM,eM,nM,lM,kM),mk1 X G (fM ("text","text_made") ()) T.lH.m,mk1 X G (fM ("self","self_made") ()) T.lJ.m,mk1 X G (fM ("copy","copy_made") ()) T.lS.m,mk1 X G (fM ("row","row_made") ()) T.lZ.m,mk1 X G (fM ("put","put_made") ()) T.l8.m,mk1 X G (fM ("join","join_made") ()) T.lO.m,mk1 X G (fM ("first","first_made") ()) T.lp.m,mk1 X G (fM ("rest","rest_made") ()) T.lL.m,mk1 X G (fM ("size","size_made") ()) T.lI.m,mk1 X G (fM ("cut","cut_made") ()) T.me.m,mk1 X G (fM ("glue","glue_made") ()) T.lR.m,oM,λz hz=>Ku lF kk hz,uW X G g1,b1,uW X G g2,b2,uW X G g3,e3,uW X G gW,e2,x2)]
 erw[fF x hx,q,h1,h2,<-⟨q,h1,λH=>by rw[Zn];exact h2.sq (by rw[u9];exact vb (B9 x hx) ())⟩]
end K43
open PySem PySem.W PyProof.Rows L2
set_option maxRecDepth 100000 in
set_option maxHeartbeats 0 in
theorem PySem.Challenge.cw_askwright_k43_whole_what_is_shown_is_so_holds : PySem.Challenge.rw_askwright_k43_whole_what_is_shown_is_so.Holds := by
 w_on;o_law;k_head;(case hw=>w_witness2)
 k_fill
 refine L2.IW (l:=PySem.Challenge.rw_askwright_k43_whole_what_is_shown_is_so) (n:=63) (k:=18) (x:="script") (CX:=L2.CX0) (sp:=K43.MX) rfl (by decide) rfl ⟨rfl,by decide,by decide⟩ (fun w h Y=>PySem.W.kIn_of Y) ?F ?S ?C
 case F=>
  intro w mg fa h KX G hmg
  let T:∃a,K43.Tx (L2.KOf KX) mg a:=by
   try dsimp only [L2.KOf]
   refine' K43.AcJ KX G ..
   all_goals first|exact(by k_is,_,_,_,_,_,_,_,_,_,by k_is,by k_is,by k_is)|exact(by k_is,by k_is,_,_,_,_,_,_,_,_,_,by k_is,by k_is,by k_is)|(show _=_;k_is)|exact(by k_is,by k_is,by k_is,by k_is)|exact⟨by k_is,by k_is⟩|(intro x hx;simp only [uG,uZ,uV] at hx;rcases hx with rfl|rfl|rfl|rfl|rfl|rfl|rfl|rfl|rfl|rfl|rfl|rfl|rfl|rfl|rfl|rfl<;>k_is)|skip
  erw[T,a,T]
  let C:∃g,K43.Fx (L2.KOf KX) w mg g a:=by
   try dsimp only [L2.KOf] at T⊢
   refine' K43.Adp T KX G (kF:= ?kF) (kM:= ?kM) (fF:= ?fF) (fM:= ?fM) (oM:= ?oM) (kk:= ?kk) (b1:= ?b1) (b2:= ?b2) (e3:= ?e3) (e2:= ?e2) (x2:= ?x2) ..
   all_goals try (first|(show _=u_ (u_ _);k_is)|(show _=u_ (Obj.mk _ _ _ _);k_is)|exact(_,_,_,_,by k_is,rfl))
   (case kF=>(repeat (first|exact trivial|refine[⟨_,_,rfl,rfl⟩:?_])));(case kM=>(repeat (first|exact trivial|refine[(_,_,rfl,rfl):?_])))
   case fF=>
    intro x hx
    unfold FRM at hx
    simp only [uG,uZ,uV] at hx
    rcases hx with rfl|rfl|rfl|rfl|rfl|rfl|rfl|rfl|rfl|rfl|rfl|rfl|rfl|rfl|rfl|rfl|rfl|rfl|rfl|rfl<;>exact(_,by k_is,_,_,_,_,by k_is,rfl)
   case fM=>
    intro x hx
    unfold K43.MKP at hx
    simp only [uG,uZ,uV] at hx
    rcases hx with rfl|rfl|rfl|rfl|rfl|rfl|rfl|rfl|rfl|rfl|rfl<;>exact⟨_,by k_is,by k_is⟩
   case oM=>
    intro x hx
    unfold K43.Acj at hx
    simp only [uG,uZ,uV] at hx
    rcases hx with rfl|rfl|rfl|rfl|rfl|rfl|rfl|rfl|rfl<;>k_is
   (case kk=>rfl);(case b1=>k_exc);(case b2=>k_exc);(case e3=>kts_exm);(case e2=>kts_exm);(case x2=>exact(by k_is,by k_is,by k_is,by k_is,by k_is,by k_is,by k_is))
   all_goals rfl
  erw[C,g,C]
  let e0:=hmg.symm.trans T.B6.m
  rw[e0,0]
  exact(_,T.B6.law (fun _ _ _ _ _ _ _=>rfl),(by erw[T.B6.F.ex,_,_,_,_,_,_,_,_,_,e,_];rw [e];rfl),fun base kb nb=>K43.Abt T C)
 case S=>exact fun w H a ns hl hO hS=>(a,ns,rfl,hS,hl,fun _=>rfl)
 case C=>exact fun _ _ _ _ z=>z
