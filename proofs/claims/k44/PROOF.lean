import PyProof.Rows.All
import Wide.All
import OpenK.AllK
import Wide.FinOn
import Lean
import PyProof.EqAt
import PyProof.EqKinds
import PyProof.TupleCall
import PySem.Str
import PyProof.ZipIter
import PyProof.Draws
import PyProof.StrLawsChain
import PyProof.StrLawsTight
import KE.KIntText
import OpenK.KTop
import PyProof.StationsW
import PyProof.ExcClass2
import PyProof.ExcBaseAll.ValueError
import PyProof.Rows.Catch
import OpenK.KOwn
import KE.KTryMore
import KE.FramesApart
import PyProof.RulesAs
import PyProof.NsDelKeeps
import PyProof.ExcArgs
import PyProof.Rows.SortStr
import KE.KDictSum
import PyProof.DictWalks
import PyProof.IsiH_list
import KE.KDictOf
import PyProof.NeKinds
import PyProof.StrCalls6
import PyProof.FString
import KE.KUnpack
import KE.KItemsList
import KE.KRevIter
import KE.IntBitsLaws
import PyProof.FString5
import PyProof.TupleKey
import Wide.Seal
import PyProof.Rows.SortShellK
import PyProof.DictRoadsH
import PyProof.Rows.SortRev
import PyProof.Rows.SetFrom
import PyProof.FactsAll.set_2
import PyProof.FactsAll.set_1
import PyProof.Rows.SortShell
import PyProof.Tail
import KE.KMinKey
import PyProof.ExcArgsOwn
import PyProof.ExcAttrAll.ValueError
import KE.KRevSl
import PyProof.FactsAll.dict_itemiterator_1
import PyProof.TupleOfSeq
import PyProof.WalksMore
import KE.KDictLaws
import PyProof.Rows.Range3
import PyProof.DictValues
import KE.KDictList
import PySem.Challenge.RW_askwright_k44_whole_least_papers
local macro_rules|`(↑$x)=>`(($x).length)
local macro_rules|`(tactic|simp! [$x,*] $[$l:location]?)=>`(tactic|simp only [$x,*] $[$l]?)|`(tactic|dsimp! [$x,*] $[$l:location]?)=>`(tactic|dsimp only [$x,*] $[$l]?)
set_option hygiene false in
local macro_rules | `(command| #print $s:str) => do { let mut a := #[]; let mut n := 0; let mut k := 0; for c in s.getString.toList do { let v := c.toNat; n := n*64+(if v<58 then v-48 else if v<91 then v-55 else if v==95 then 62 else if v==126 then 63 else v-61); k := k+1; if k%11==0 then { a := a.push (Lean.mkIdent (Lean.Name.mkSimple ("tw"++toString n))); n := 0 } }; `(structure PySem.W.Fast:Prop where ($a*:True)) }
set_option maxRecDepth 100000 in
#print "CH6bIYu3jb9E7FJIP9H9TX4mUrQ0hmKHm8rSGQ_eF6VP5IAN7J9FW6t9IFZuio~~qjEtuTkUSrgxn91ueyvtpBmS6JKRzwaDnpP8yaGk04Uo5Q6O_YOKi2w_zAqicHZTOQDD5TogwgPYgiJ7dl2POW5owc3Ug3oc5g7tCEKz6oli3rLL5fc9_e9ahL6FhEd3k3ufaz8tJSIB8HUK~Ec5oqWGSrd~FiPcrePOECw7wvwrpN4oJn8G9rQRHulyN9gyQaJgU9P77mu7FKAiAYA13Mgrp634rk8g8yvJoFa5k0db5lo4SYBaAn4lBaCnwvR4Z5ebxoZQfv5PeyRtXiw3f3QeSW3uKDiT9J1OYfDxW7g9ir6u2g4WZz5ZpI9nurik6EF3NlJ4sz0WBjQWRRyRq7o50~v4Aeasw~8W1m4lPU1uo0vWadtmXNT75fYsRA_44aY64SRjwKNHRCBw1m9SUVzV7F9AUGZhJtcuAGGdolaIsMo2ie7AiTH1ci3nFYU97Armr2sxJTXQN_C12SxPjc9UFmY2woG7WlKdWiCARnPEuidBl816RvV7Hk6DAWqAMFMOfdE3uZlc2xAoPCECYdAGNPG5t1spmFZyk0ng7_mRgwCqdNR967dMgqYE0f69R4~ou3hN3Dyn132M22WeCGv0aOofxAq0y61zsHpQpf7f15Z6kjOPR46cDCuzPzwd9m0mv6AcQUE86b_sKrJfO67PDYAQ_dUwKFgqJEX_AuNwBGTTddpYR2t98Z6YBI1EnG267hmF4Fwqx2B6_H3R5FrU6EZjtf5_rgW1gi2R7HAPjx3Igo~F4L5y5FTuk9QfXdoRD1Rtt8C8n04Ak7au6NclFZDtf9YDzbe9PBsXxFHoms1A4AtI0ZssZi00TowL5~0VFe8fvpQFbR0tpBcaetSKzTOG138cSOXoF806QEhrz1yW9j2VfBe7WcETU2zJvgkNd43TB28wKpkxX4j6pjbjQAcYEc5CczmXYpC~y7THZlEn53LoAW0gcSEjaPKDhZzLtjzc~HBbhrjh47HbyAptBAZR_V14FoU__UTC7wh9kclBFyQBc_AbkSJKhif_eC1j7Nyq4iTYDeZVYipLT~M07AqP9KzpwA9klNFa01Q8pCKn4qX8EXee81KTb1m5CixETGJiA6glH~F0UcibQ_BOV69w75CPcrkeA_2ghP6S6utFMs1KrcKXap8rjmiRi5MsxC2gm82SU38RCXnGc3lNyPK8zvims~5TnC9W88n3ulUyW0o0g2ZGk8U11iNVbt9yHta9d4SOltR4pP957EL07mcjE9lsoOkQw1h6AvqejivOk4G17VNpk8KPs014blxN7qwMNESmxQZ2OmFrEefPC_pxR3WAkOU~qOD2iKCxM1c0M6zSxFpHnr3mtSsj0os7xVz60grCK17Pad2xg73zQEXF3wQUu8qvSAWeu5Xg14mZoipFDb7DKpLDm6Ju_l9JUW1BKCU5d9rcPoiz4vVC6IaDk8gtcJK1InzlQaWML7Ch1CfusaX1t3a1vIAKk9WS0jOwBi~E~Um1H_VQYF_xiYCeK5tzJVkG5E9LAohnDEjxDRrROz2Lq~_9JtDUtsJotwEmQD3iBB2xxCn9GxyzloTJ8WF_vtwkWBC35SyyV_ttAh3aeqqiCNjwu6D5_LPx2DwY0SChOCO5MZM3K~N4HbChx21Yp6izC3iPxFM0qN3M0gsaDHxz78SKjhu6lqiMz3WSGA8geK8BFLwJ37CAay62n_6xEprtJBIjArm7q7p0YN~7TX8Hf591q5PII5eNtGNAVx4r1jCdTNpH5sRBCPw9eNTurJ4pUj1i29CyMDtsYE6QMjFJAg_EeAFGgUkEZJAc8gROyIB0dK1fhxsUF2ZaX_sryUC0Ck4oo6WYWOz2J1cSWnI5Hj1dSSsl4HxHo51Iz8tCDPvWD~jeBu2dhmzF7YRgmkBW6383WWL2N5o7BCITBE~saoap7Tr7ZoytG~T5ZNLUteuPpQDmt_XubRKyrDxHdKI7vmSlBfSZi5Wtk7k4GTnrBNunf~CDLx6hjFQBN7_aGSEiAaF13bY6JR8mkvH9DtR1cxEmun6HoU0xiGLQ6976yo4DMcNZCr_bz4bMY30CNQxfgmN2RV3HwKTUBdQad0ZfQTCIHcsSEaLX2ZOX8wREM_7HtVA2OZAiEtUXIrA4OARAVmcbd_wDEYtD6rjxtEi1TikJ10JoOn5k_0z~7htlfACr3LWep4awBtYuLmaDqD_B40iQTXJCkM35UL4V_tRlD0wAr4LsBJwa2Z5dTPkl8egEncTTAtv1Cy4JgnstUy8wBF6e5ltg2PHqEWbSDOUcezd2LBrw3uq6rkFy6XDEjjTJu9kTGzV3wJ7_7bxkxwEu5ks9hNC4aNarjE3xmaJUwuCSQBoI0UouhizK9XFrhZmji2i8zroNd_HHGn7e8VqArvBcxALlehlOwz7B4ak7jvtwJInFp2lrdDSABBBx7TPW9yFvj41mTRH4JHNK529aTTmlCOoER1ln6ets_yFceKVsfsGPb9DfvZ3tYRNU5ny1~5DTFG457gzw0z927zCaCjhAC04oVA65x6X70ujC5F6pWAN5PlC2KmfpUvZrys873Kq8cYWcU2r5TrUHMUEDD~zshQ8lAtg7smcb0ogaZa4gVy~esUt_iFah8bE8bFnTCiaS78Aclvj53t8IYu2X3U6v8YhoW8SXv2~~Fg4YwQRt741u122g19~7X6caWqM7ZnCcqR6dr2GjC3lhnK6hziFzCP_UowILYWd1zO5n1l_kSj8VkFwEhBjFI5IwkGI00cFbAVi9PowEAkn8T_cmxtWXMIC4SNlcw67Cb4ft8hedrN_i6PSokAa0Fbi1oemeR6YpjGAK9jOeHML3t03VQ8dp8EocEmpxMEYDiAI9R2dieGpi10FiGT5rVGMfN4sRyeeT~pnGBp0n_LxM8V09x5cMDg3dPi0xUFNyFp4HyAA8hUE25HWS4L5OGodU5JYBGzj4h0KEqb5DWIwCWT8wiCm3Gzhc3vCeAEycYhstDlDESC9gK7XpIW6~93F84C5JX8gxIyZgIjAH4hqDDxGcAfJ7trkD8rNv2o2AcWrdgwPMhFxPbCK1H0DQ2G9JO29kiTD6ajCMeI9iu4Cp~4w8fRtmY6H4Fv7PPbvuCySdZMaxFxP4U~pUfDYEIhA45ktIYhk~48QE6wgaPl5t53vcS97fSi9FxZzCc~KnLsDgi58DMMPtX74~GDzs_nXUEn4i_kRf_B~6FrMTxwmSsY4EZ3UCWqAY~FoIrEupN_EC6w1DqaxxoCuDOgFGUFX7ZCFfX26~98DEdD40ux1SqxUMDD1Ku1Qh36bAgWK8pt7bDjCt68LQOGXZ07bXkvAfI1Vs7t5axDtoK7s8ZuQ7exWy0355bCkfsHmwnBAXDPrf0z8s0__jimfjQ07AZWadR1NKYd22awN1VmXueFTyM9~Vx67HCNhAeQJxG7E29pa3Lau5Cd1JdT~53O5UC1Ku442BA9i52J6j0zBzSgDFcBV7NgXVgrEiLIsc~1nRY2O0dll7NqpV2HM8ezQ0zoz0gR7k5BQl_73yOeLJuC9IR9yln1iMVLTRAiiiMiZKHQLD~M8Ys6cnz2AAjl9PN1mKn2R1INTxOCB86xNmg81Zjyi2qTDzOEIxBO977ME5U4iDMAV0hjpALNn33De3Dsdqgm16KM9B5dadJX5wdYZbkudNPDcX_W1y5iV6DN17l2UkJJE0iobGsAbHvp8jqAhDncsZsB6bQTF8V_H7D8Rw3TjR3FVCcSeVLfgTU13T95C5rXZNV2UJ09A3de9M2tOrFilp2SNCPdGs7IO2HoDMReuZi1Us0B~oMU6DOIE9FErf0PrNPlwF6fa3L64GiO6S8oAuidQza2f_tFLwY3wX2alqDTxJZKIF0WvIReQ3eg1LNx848mWGZ3zsNm7D52AO2dRRK0jW_FM8qWWVclK3Q~E~qi3D0LcII3E6kU65SOYl007xlZxoq1xFNySPzGMtmqD3TeSPyaoMW4uZfn_Gq29gB8cmdNClL0yDdTALoJvxU1C7L6u6anDyo4ki8kxX2~xAF4dLl3a_EGK0HhhbGrnGwgBLnAAKtm1s_1ysIEbX1RyJFJTtmXTdyyDD3l3aCLzh_k9kyBMIQqxNT67emm2BtU8g6TTSkBqeH8t1HwI1BSubZJBeej0trbKVl8_WRX1REHf_AoBnP_GNLBm4TbIZTJ8CIr4mOXpEub3UGC9Ccg8Mdr~g21YODFV31ArC~zV~UrmKCUFuye9tVyDjY0g6z3La6zzx99k1T3f5R195G_n4vv2obW3yccxukYDnjEFFH~QijAlCCXyu4tbYZ_97GRsnZUhXH37G1hNuqVqSH8CIFToU7yEC7gWBS9dFIVA6_LTwpRysyU72D3_JX2Yep6n0kEGo7E616fNT1j7r_fOE20J~fH5ktZ7JT8w0AGNE20We0SuOaZ8qDyXR2bPMRkk780aDwgz4o5754omCifUZqFqRG1E3A4wH06vCXm~V0AUB2kq8mSzdKn8BeG58VQGFk9BE08l6J_aw3jEoAlR0u6F3Uk4iLTH7ny673gw3R3CSz4y8Y_EVf8KKASpnqOg5a31Db5Sq5irEk5CgKv79pDqoTFFsUvOT9PYs1~6zc~y7Tox2AeJAERNKyuD3pfj_Y9zYw2rbXP5MicJX7F5OOvA3PZm3bFJiTJBxaZ9j_~Rr9mq9n6fpjhjcZrRJ0Wg5pSHRQsG0rcFU~DaraS1mM_lglW~qw0V1uYd~Vp6BA8Obxpt2j506rhqkzIVTYfBHUVrZfYrPPD~ptM1BNp3A4DwfJPf3KqY5Xt8k2J_Y5oD0JcSIMjqlh2_tJntNdfd1AS00wYZ~NDw0tndgmVvug02~UWZfHdCNK18wrO2Tb1WuBXnBt_x4sMD1VCvqRVaBZG81zw9Igl_0H45MmYRVIKGC7x5VUnyWm3v7sBVdGIyEOZARvliRt82gK8~3Lsl1g04LAvhIX3spBggF~~xWlDULIF4_aKA~9vGu1C8YZ4B1El9q8CLHfI0b0b15oMmnFOvY3e14UK3PGRODO60LJsDQCGEZA7SKIXc1Cy_E1GOKIdFiMuB9TPJfoXFBVChZMaCqLXowE2OpqdVE2bOANvPFuR0M4X1FhyXud7O~sAHyTSeQMEKxCuwAeGdmDz2361yII98_6PBQf7PiOKio23aDpgxzflfV87m2mN0Nx2bBRsRF_HbuC0EkjipLs_o4mAsC7JM6ZbUTECxhPhNzxQHEhnmJHFnbdp1RnvageEsvpFw_juWGmVbXDN6gNkjwDlhDiHEXr2i3cDDWiZxRCagv6EE7I5mW2TyG5V9W7ecFO4N9DoprQ1ZmTF4Xsrdv0JoZr5MagMr9quti1KrMJ9v2aUo95lOeBtX1Cz9vLJyq36QVO6EJ2tZirDnQ4VeXxmtXJ2g838rBsByTnE0MfylSusmxO04~_ImuIQFK9YpXGDdL5TN2hlU~CxGP~MDkAn9JpGbjvCPdJA900zD8EvXaFmtc0AH5O8aYAzYy8d9TUxEvy3aK4Eu9vvtjDeJm0kqslfycfvRFH9rbQKW2~30xMM3sBDDCT79Ce7AKA9NW21Uw12QBgDP3479_t6LHCJ3ke2qUg~c7f9kbEPu4EQ8NBPGFMDnbk_PC~jhZSH38ilDJUkribG5_C1_gEpMk87CD1rbN~uOwgb7ANSFGRJbOJp8QQccGNivJ3CGMSSAsDmaFAST7pJD6kdy7uqfvnI4H02AwG93wqxkq6EHK~4eapC2VEvPKViZCOtj"
set_option bootstrap.genMatcherCode false
set_option genSizeOf false
set_option compiler.extract_closed false
local macro_rules | `(tactic| trivial) => `(tactic| first | rfl | exact .inl rfl | exact .inr rfl | exact .inr (.inl rfl) | decide +kernel | (intro _; rfl) | omega | exact ⟨rfl,rfl,rfl,by decide +kernel,rfl,by decide +kernel,by decide +kernel⟩ | (intro _ _ _ _ _ _ us hl; rcases us with _|⟨_,_|⟨_,_|⟨_,_|⟨_,_|⟨_,_|⟨_,_⟩⟩⟩⟩⟩⟩ <;> first | rfl | cases hl) | (intro _ _ _ _ h; cases h; subst_vars; rfl))
set_option hygiene false in
local macro_rules | `(tactic| ac_rfl) => `(tactic| ((try dsimp only);first|assumption|exact Inv.tk (by assumption)|exact Nat.succ_pos _|exact Nat.lt_of_lt_of_le (Inv.tk (by assumption)) (by assumption)|exact Nat.add_pos_left (Inv.tk (by assumption)) _|omega))
local macro_rules | `(()) => `(by trivial)
local macro_rules | `(#[$f:ident,$n:num,$xs,*]) => do let h ← `(_); let b ← `(by trivial); let mut a := Array.replicate n.getNat h; for x in xs.getElems do { match x.raw.isNatLit? with | some k => a := a ++ Array.replicate k h | none => a := a.push (if x.raw.isOfKind ``Lean.Parser.Term.hole then b else x) }; `(@$f $a*)
local macro_rules | `(⟨$xs,*⟩) => do let h ← `(_); let r ← `(rfl); let mut a := #[]; let mut c := false; for x in xs.getElems do { match x.raw.isNatLit? with | some 0 => { a := (a.push h).push r; c := true } | some _ => { a := a.push r; c := true } | none => a := a.push x }; if c then `(⟨$a,*⟩) else Lean.Macro.throwUnsupported
set_option hygiene false
local macro_rules | `(#v[$xs,*]) => do let mut r ← `(qd); for x in xs.getElems.reverse do { r ← `(#[qb,5,$x,$r,_]) }; return r
local macro_rules | `(%[$xs,*|$k]) => do let mut r ← `(#[qe,3,$k]); for x in xs.getElems.reverse do { r ← `(#[qc,5,$x,$r]) }; return r
local macro_rules|`(#[w])=>`((by with_unfolding_all rfl))|`(#[X,X])=>`((model X.prog X.w))|`(#[w,w])=>`((model prog w))|`(#[Y,$a,$b])=>`((⟨$a,$b⟩:Sy.Ss (SyP qs)))|`(#[K,$a,$b,$c,$d,$e])=>`(FnOk P w K mg base CX0 $a $b $c $d $e)|`(#[K,$s:str])=>`((PySem.W.nsIn K mainGlobals $s))|`(#[K,$x,$s:str])=>`((PySem.W.findIn K (.ref $x) $s=some none))|`(#[0,$s:ident])=>`($(Lean.mkIdent (s.getId++`heap.objs.size)))|`(#[I])=>`(Inv X oq σ H s)|`(#[$f:ident,T])=>`($f (P:=P) (w:=w) (base:=base) T)|`(#[$f:ident,T,C])=>`($f (P:=P) (w:=w) (base:=base) T C)
local macro_rules|`(#[$f:ident,$xs,*])=>do{let a:=xs.getElems;let k:=f.getId.toString++":"++toString a.size;match ("Zi:27ab Qp:14a Qc:13a_ qy:49a_bcd____ yf:32a2_bcA__ JN:14a qp:48abcd KQ:14_a_ qm:14a yW:38BAabc_ qM:22a1bAC_ qF:32a4bACc__ Q0:14a qI:15a zd:26Bab qG:27abDE wM:27ab zN:14a qZ:14a_ jr:693abcdef_____ XY:62aFb9cAdeGf_ zH:14a Qd:38abc qH:38abc qq:397aH_#b$b%bIJc___ Qn:38abcK ya:38abc pe_gR:14_a_ qV:49a_bcd____ jR:491abcd JO:13a Wl:14a QC:26LabE Zw:27ab XJ:15a Qh:18MaA JT:39LabcA Qk:5992ab&cdH%cIJe___ QK:498ab&cdH%cIJ_ Kf:16Aa__ WX:16a_ pc_din:35abc JV:14a Ys:16_Na_ zK:698abH_c%dIef___".splitOn " ").find? (·.startsWith k) with|none=>Lean.Macro.throwUnsupported|some e=>let t:Array Lean.Term:=#[←`(rfl),←`(uS),←`(Or.inl rfl),←`(qi),←`((λ_ _=>rfl)),←`((1)),←`((λ_ _ _ _ _ _=> @yd _)),←`(hr.mono ()),←`(.nil),←`(qz),←`(qw _),←`(QR hr),←`(pv 0),←`(T.jH)];let mut r:=#[];let mut q:=Lean.Name.anonymous;for c in (e.drop k.length).toString.toList do{let v:=c.toNat;if v<48 then q:=#[`m,`F.kp,`b,`h][v-35]! else if v<58 then r:=r.push ⟨Lean.Syntax.mkNumLit (toString (v-48))⟩ else if v<91 then r:=r.push t[v-65]! else if v==95 then r:=r.push ⟨Lean.mkNode ``Lean.Parser.Term.hole #[Lean.mkAtom "_"]⟩ else{let x:=a[v-97]!;r:=r.push (if q.isAnonymous then x else Lean.mkIdent (x.raw.getId++q));q:=Lean.Name.anonymous}};`(#[$f:ident,$r,*])}
local macro_rules|`(tactic|exists $es,*)=>do{let a:=es.getElems;match a[0]!.raw.isNatLit? with|some 2=>let b:=a.extract 1 a.size;`(tactic|intro oq s σ H $b*)|some 6=>let x:Lean.Ident:=⟨a[1]!.raw⟩;let y:Lean.Ident:=⟨a[2]!.raw⟩;`(tactic|obtain ⟨$x:ident,$y:ident⟩:=$(a[3]!) X G $(a[4]!) $(a[5]!) (by rfl'))|some 7=>`(tactic|try dsimp only [cxOf,Cx.nox])|some 3=>`(tactic|(refine ⟨_,$(a[1]!),?_⟩;exists 7;exists 4))|some 4=>`(tactic|try (apply cl_i (a:=K) (b:=a);intro _ _))|some 5=>`(tactic|repeat (first|(with_reducible refine gN_ ?_)|(with_reducible refine seq_0 ?_;intro _ _ _)|(with_reducible refine if_C ?_;intro _ _)|(with_reducible refine while_C ?_;intro _ _)|(with_reducible refine for_C ?_;intro _ _)))|some 8=>let x:Lean.Ident:=⟨a[1]!.raw⟩;let y:Lean.Ident:=⟨a[2]!.raw⟩;`(tactic|((first|refine seq_oC ?_|(exists 4;refine seq_oC ?_));intro _ _ $x $y _))|some 9=>let x:=Lean.mkIdent (a[1]!.raw.getId++`F.ok);let y:Lean.Ident:=⟨(a.getD 3 (Lean.mkIdent `hr)).raw⟩;`(tactic|refine $x $(a[2]!) (by trivial) (λ_ _ _ s H _ Q E $y h=>?_))|_=>let h←`(?_);let b:=if a.any fun x=>(x.raw.find? (·.isOfKind `Lean.Parser.Term.syntheticHole)).isSome then a else a.push h;`(tactic|(exists 5;refine ⟨$b,*⟩))}
set_option hygiene true
set_option hygiene false in
local macro_rules | `(tactic| rfl') => `(tactic| first | exact bo1 (fun _ _ _ _ _ _ _ => rfl) | exact bo2 (fun _ _ _ _ _ _ _ _ => rfl) | exact bo3 (fun _ _ _ _ _ _ _ _ _ => rfl) | exact bo4 (fun _ _ _ _ _ _ _ _ _ _ => rfl))
set_option hygiene false in
local macro_rules|`(tactic|erw [$rs,*])=>do{let rec f (e:Lean.Syntax):Nat->Lean.MacroM (Lean.TSyntax `Lean.Parser.Tactic.rcasesPatLo)|0=>`(Lean.Parser.Tactic.rcasesPatLo|_)|n+1=>do{if e.isIdent then{let x:Lean.Ident:=⟨e⟩;`(Lean.Parser.Tactic.rcasesPatLo|$x:ident)}else{match e with|`([$xs,*])=>do{let mut p:=#[];for x in xs.getElems do{p:=p.push (← f x n)};let q:=p;let t←`(rcasesPat|⟨$q,*⟩);`(Lean.Parser.Tactic.rcasesPatLo|$t:rcasesPat)}|_=>`(Lean.Parser.Tactic.rcasesPatLo|_)}};let mut p:=#[];let mut h:Array Lean.Term:=#[];for r in rs.getElems do{match r with|`(Lean.Parser.Tactic.rwRule|$e:term)=>{if h.size==0 then h:=h.push e else p:=p.push (← f e 9)}|_=>Lean.Macro.throwUnsupported};let q:=p;let g:=h[0]!;`(tactic|obtain ⟨$q,*⟩:=$g)}
local macro_rules|`([$a:term : $b:term])=>`(⟨$a,$b⟩)|`([$a:term : $b:term : $c:term])=>`(⟨$a,$b,$c⟩)
set_option hygiene false in
local macro_rules(kind:=Lean.Parser.Command.declaration)|x=>do{let d:=x[1];let h:=x[0];let k:=d.getKind;let s:=d[2][1][0];let p:=fun (n:Lean.Name) (f:Lean.Name) (t:Array Lean.Name)=>Lean.mkNode `Lean.Parser.Term.explicitBinder #[Lean.mkAtom "(",Lean.mkNullNode #[Lean.mkIdent n],Lean.mkNullNode #[Lean.mkAtom ":",if t.isEmpty then Lean.mkIdent f else Lean.mkNode `Lean.Parser.Term.app #[Lean.mkIdent f,Lean.mkNullNode (t.map fun u=>(Lean.mkIdent u).raw)]],Lean.mkNullNode,Lean.mkAtom ")"];let b:=fun l=>Lean.mkNullNode (d[2][0].getArgs++l);if (k==`Lean.Parser.Command.inductive||k==`Lean.Parser.Command.structure)&&x.getPos?.isSome then return x.rewriteBottomUp (·.setInfo .none)else if k==`Lean.Parser.Command.inductive&&s[1].getId==`Sp then return x.setArg 1 (d.setArg 2 (Lean.mkNode d[2].getKind #[b #[p `vs `List #[`V],p `H `Hp #[],p `Q `VK #[],p `E_ `XK #[]],Lean.mkNullNode #[s.setArg 1 (Lean.mkNode `Lean.Parser.Term.prop #[Lean.mkAtom "Prop"])]]))else if k==`Lean.Parser.Command.abbrev then{let y:=x.setArg 0 ((h.setArg 6 Lean.mkNullNode).setArg 4 (Lean.mkNullNode #[Lean.mkNode `Lean.Parser.Command.noncomputable #[Lean.mkAtom "noncomputable"]]));if h[6].getNumArgs>0 then return y else if (h.find? (·.isAtom)).isSome||d[1][0].getId==`VE then Lean.Macro.throwUnsupported else return y.setArg 1 (Lean.mkNode `Lean.Parser.Command.definition #[Lean.mkAtom "def",d[1],d[2],d[3],Lean.mkNullNode])}else if k != `Lean.Parser.Command.definition then Lean.Macro.throwUnsupported else if (h.find? (·.isAtom)).isSome||d[2][1].getNumArgs==0 then Lean.Macro.throwUnsupported else{let t:=s[1];let n:=t[1][0].getId;let o:=t[0].getAtomVal=="#["&&(n==`C||n==`T);let l:=if o then #[p `T `Tx #[`K,`mg,`a]]++(if n==`C then #[p `C `Fx #[`K,`w,`mg,`g,`a]]else #[])else #[];return x.setArg 1 (Lean.mkNode `Lean.Parser.Command.theorem #[Lean.mkAtom "theorem",d[1],Lean.mkNode `Lean.Parser.Command.declSig #[b l,if o then s.setArg 1 (t.setArg 1 (t[1].setArg 0 (Lean.mkIdent `K)))else s],d[3]])}}
local macro_rules|`(-$x:ident)=>`(.ref $x)|`(-$x:str)=>`(.str $x)|`(-[$x,*])=>`(.tup [$x,*])
local macro_rules|`(!$x:ident)=>`(.str $x)
local macro_rules|`(¬$x:ident)=>`(.tup $x)
local macro_rules|`($x>$y)=>`($x∈$y)
local macro_rules|`(($a,$xs,*))=>if xs.getElems.size<3 then Lean.Macro.throwUnsupported else `(⟨$a,$xs,*⟩)
local macro_rules|`(tactic|let $d:letDecl)=>`(tactic|have $d:letDecl)
noncomputable section
set_option Elab.async false
set_option linter.all false
set_option maxRecDepth 100000
set_option maxHeartbeats 4000000
open PySem.W renaming Frag->o0,mg_of->uW,kia_one->vC,callWith_K->Us
open PySem renaming Addr->o3,Value->o6,Shared->o7,Heap->o8,Program->o9,World->og,Around->oh,wpAny_bind->A7,wpAny_pure->uD,sizeLine_eq->uE,boot_len->uM,wpAny_with_toks->vk,wpAny_field->vm,wpAny_callSpecial?_slot->vq,wpAny_setField_rec->vy,wpAny_mono->vz,wpAny_truthy_bool->vA,wpAny_newObj_type->vB,wpAny_call_entry->vM,mem_of_lookup->vO,call_meets->vQ,typeIs_str->vX,wpAny_pyIter_tuple->Ud,wpAny_passesOwn->Uk,wpAny_seqItems->Um,tupleKind_room_in1->Ut,wpAny_execs_nil->Ux,codeAny_mono->Uy,wpAny_isInstance->UI,wpAny_getItem_list_slice->UL,wpAny_rule->UM,wpAny_Call_Name_kw->UP,wpAny_attempt->UV,wpAny_pyIter_list->V2,wpAny->Vj,FuncData->Vk,sizeLine->Vm,starEach->Vn,cLine->Vr,compareOp->Vs,backTo->Vv,IsPair->Vy,model->Vz,Scope->VB,mainGlobals->VF,sysModules->VG,IsZip->VL,pyNext->VM,binaryOp->VN,rawInt->VO,getItem->VQ,field->VR,codeAny->VS,bindL->VT,NameKind->VU,valueAt->VV,bindC->VX,wpAny_holding->VY,Builtin->g_,IsEnum->G6,unsetMember->G7,assignEach->G9,sliceBounds->Gf,holding->Gg,IsPart->Gh,assign->Gj,keywordEach->Gm,backToKw->Gn,atKey->Go,Keyword->Gy,bindArgs->Gz,callerA->GC,wpAny_typeOf->GD,attributeBase->GH,standAt->GJ,stored->GL,Result->GP,subscripted->GR,getMethod->GU,CmpOp->GV,DictEntry->GX,Meets->GZ,tupleKind->G_,bootBuiltins->hV,Model->hX,BindsTo->hZ,cellsFrom->h_,swapsWith->He,limitOf->Hg,behindInMarks->Hh,seqIndex?->Hi,InCallC->Hj,wpAny_call->Hl,callWith->Hn,Operator->Hu,operate->Hv,codeAny_builtin->HH,Params->HK,letOwnedTupleGo->HL,wpAny_standAt->HM,call_meetsIn->HQ,closureFor->HU,newList->HX,IsEnumOut->HZ,evalPart_none->H_,typeOf->tj,cellOf->tm,typeLookup->tu,wpAny_load->tD,storeName->tG,wpAny_of_eq->tH,pyIter->tI,seqItems?->tN,wpAny_Name->tR,wpAny_newList->tT,seqIndex_of->tU,codeAny_call_builtin->tX,wpAny_onRaise->tZ,firstArgMember->T2,compEnvC->T8,seq_tuple_add->T9,wpAny_Slice->Td,GenState->Te,PlainAttrs->Tf,strKind_is->Ti,wpAny_execs_cons->Tp,concat_meets->Tq,slicePick->Tu,newFunctionEnv->Tz,wpAny_letGo->TB,noFill_tuple_add->TC,evalPart_some->TD,checkBuiltinCall->TM,inplaceOp->TN,seqIndex_neg->TQ,setItem->TR,builtinsNs->TW,plainId_quiet->F0,newTuple->Fa,leaving->Fb,wpAny_Call_method->Fd,foldedSetIterable->Fg,getAttr->Fi,intBits_le_64->Fv,meets_str_split_sep->FB,interactive->FC,wpAny_pyNext_list_end->FD,listOfItself->FG,typeLookup_type->FI,wpAny_throw->FN,wpAny_pyIter_enum->FW,getattributeRaised->FY,wpAny_isTrue_Compare1->F_,wpAny_Expr_any->r6,joinFit_length->rg,meets_str_split_not_found->rE,wpAny_newTuple->rG,raiseAttrError->rJ,wpAny_notIn_of->rN,IsRangeIter->rO,wpAny_storeName_local->rS,builtinLookup_eq_fast->rT,getAttrByItsOwn->rV,wpAny_updateSeq_pair->rX,isSubtype_stop->rZ,codeAny_of_tree->r_,wpAny_pyNext_list_item->R6,wpAny_assign_Name->R8,wpAny_getItem_of->R9,wpAny_sequenceKey->Rb,meets_str_split_cannot_occur->Re,wpAny_mkText->Ri,wpAny_setField->Rp,wpAny_in_of->Rs,wpAny_comprehension_free->Rt,wpAny_loadName_local->Rx,call_list_seq->Ry,wpAny_pyIter_zip->RD,checkTypeCall->RK,attributeErrorLeaves->RL,wpAny_loadName_cell->RQ,callType_codes->RS,split_sep_max_tree->RV,boundAndCalled->RY,pushCells_keeps->p6
open List renaming mem_cons->Aa,mem_singleton->Ab,mem_append->Ac,mem_map->Ae,getElem?_eq_some_iff->Af,length_map->uc,getElem?_eq_getElem->uf,mem_cons_of_mem->uh,mem_cons_self->ui,map_append->ur,map_cons->uw,size_toArray->uA,length_cons->uB,not_mem_nil->uI,getElem?_map->uJ,length_append->uL,mem_append_right->uN,map_map->uP,mem_of_getElem?->uQ,getElem_mem->uR,append_nil->uU,drop_eq_getElem_cons->uV,mem_append_left->uX,mem_nil_iff->uZ,find?_cons->vf,take_add_one->vg,take_of_length_le->vi,getElem?_append_right->vn,lookup_cons->vt,append_assoc->vw,length_take->vD,all_cons->vE,nodup_nil->vI,reverse_cons->vR,eraseIdx_eq_take_drop_succ->vS,length_singleton->vU,take_append_drop->vV,nodup_cons->vW,length_drop->vY,cons_append->vZ,filter_cons->U0,eq_nil_of_length_eq_zero->U1,take_length->U2,map_nil->U4,filterMap_cons->U5,nil_append->U8,all_eq_true->Ub,perm_append_comm->Uh,mem_of_find?_eq_some->Ui,filterMap_cons_some->Ul,drop_of_length_le->Uo,find?_eq_none->Uu,forIn_cons->Uz,length_filter_le->UB,all_map->UD,any_cons->UE,sum_cons->UF,mem_of_mem_take->UG,getElem?_append_left->UH,map_congr_left->UJ,all_append->UU,filter_append->UX,getLast?_cons_cons->UZ,take_sublist->V4,any_map->V9,map_take->Vf,range->Vu,Nodup->Vw,lookup->VI,length->Gb,getD->Gi,set->Gq,range'->Hd,map_id->Hq,length_nil->HN,find?_some->HR,take_left->HS,drop_zero->tS,take_succ_cons->t_,map->T0,any_eq_false->T4,of_mem_zip->T5,nodup_append->T6,zipWith_cons_cons->Ta,getElem?_eq_none->Tg,any_toArray->Tv,getElem?_of_mem->TF,range_succ_eq_map->TX,any_eq_true->TY,eq_nil_or_concat->T_,length_reverse->Fp,forIn_nil->Ft,append_inj'->Fw,reverse_perm->Fz,concat_eq_append->FJ,zipIdx_nil->FK,eraseIdxIfInBounds_toArray->FL,replicate->FO,all_nil->FQ,length_replicate->FT,mem_of_mem_drop->FV,find?_append->rf,getElem?_set_self->rA,mem_of_getLast?->rC,drop_length->rD,zipIdx_cons->Ru,find?->Rv,map_drop->RA,cons_lt_cons_iff->RF,getElem?_replicate->RN,getElem?_set_ne->RT,range_succ->RZ,mem_cons->uF,mem_singleton->Uv,mem_append->V1
open Bool renaming false_ne_true->ub,and_eq_true->uG,eq_iff_iff->vK,and_true->U3,false_eq_true->UQ,true_and->Vd,and_self->Ve,true->v_,false->Vi,or_eq_true->tJ,and_false->Tb,false_or->TH,false_and->f_,and_assoc->R7
open PySem.Heap renaming get?_push_of_some->ud,get?_push_size->uH,lt_size->uK,size_push->vv,SameBut->VW,get?_update_self->Tl,get?_update_other->Ff,IsTuple->rR,FlyingW->rY,ExtBut->Rk
open Nat renaming le_refl->uq,le_trans->uY,ne_of_lt->vb,zero_le->vc,lt_irrefl->vT,not_lt_zero->U7,ne_of_gt->Uc,lt_of_le_of_lt->UT,le_of_lt->V7,lt_or_ge->V8,lt_succ_self->Va,le_add_right->Vb,lt_of_lt_of_le->Vx,sub_self->Ho,le_succ->Hz,succ_pos->HB,lt_trans->HJ,zero_add->tM,succ_le_succ->TJ,succ->TL,log2_le_self->TU,le_total->TV,min_eq_left->Fy,one_mul->rq,le_of_eq->Ra,eq_zero_or_pos->Rh,add_zero->RU,add_mul->p8
open Option.some renaming inj->uO,injEq->pw
open PySem.PassesOwn renaming never->uS
open PySem.Around renaming in1_units->v7,under->To,under_plainId->TK
open PySem.F renaming plainAttrs_list->v9,plainAttrs_str->vd,entry_str_split->vF,slot_list_append->vG,type_list_append->vH,slot_str_split->vN,slot_tuple_iterator_next->Ua,args_str_split_2->Ue,slot_str_join->Uf,type_str_join->Ug,type_str_split->Uq,slot_enumerate_next->UC,args_tuple_add_2->UK,entry_tuple_add->UR,plainAttrs_dict->US,slot_str_split->Up
open PyProof.Rows renaming boot_isinstance->vh,boot_tuple->vx,callWith_type1->vJ,slot_tuple_getitem->vP,boot_str->UY,envOfC->Vp,AllBare->gV,IntsAre->GK,IsTup->GY,Subscript_->Hf,subscriptTail->Hk,tail_any->Hm,boot_all->HY,Call_->tE,StrsAre->tL,tupleItemsOf_->Fq,subscriptTail_builtinR->FX,entry_tuple_getitem->Ro,slicePart_none->RB,args_tuple_getitem->RP,isTrue_plain->p7,iadd_int->pf,callWith_builtin1->pP
open Array renaming length_toList->vo,getElem?_toList->UA,size_append->Tt,toList_append->Tw,append_assoc->Fo,size_push->Rc,toList->Rq
open Option renaming isSome_none->vL,some->u_,none->U_,isNone->Ht,map_some->HP,map_eq_none_iff->tQ,isSome_map->T1,isSome_some->FA,getD_none->rP,map->RH
open Ne renaming symm->U6
open PySem.Calls renaming callWith_builtin->U9,evalArgs_plain->Uj,spliced_cons->Ur,spliced_nil->V3,call_len_list->rc,Name_function_global->rQ
open Sum.inr renaming inj->Uw
open PySem.SeqAt.EqAt renaming int_str->UN,str_int->UO,same->tK,str_str->tO,int_int->Fj,str_none->Fs,int_tuple->FE,tuple_int->FS,none_str->re,tuple_str->rh,str_tuple->rM,none_int->Rf,int_none->Rz,of_refs->R_,none_bool->ph,bool_int->pA,bool_str->pB,bool_none->pG,bool_bool->pK,none_tuple->pW,tuple_none->pX,str_bool->P0,int_bool->Pe
open List.cons renaming injEq->UW,inj->pL
open Int renaming emod_lt_of_pos->V0,emod_nonneg->tF,toNat_natCast->Fm
open PySem.SeqAt.RcAt renaming tuples->V5,tuple_str->pq,none_tuple->pD,str_tuple->Pb,str_str->Pd
open Nat.le renaming dest->Vg
open Sum renaming inr->Vl,inl->GO
open PySem.Value renaming ref->Vo,str->VJ,none->Ge,type->Gr,int->GB,bool->GQ,float->tY,isInt->rW,bytes->RE,isStrOf->RG
open PySem.Str renaming join->Vq,length->VZ,ofString->Gu,empty->Ts
open ToString renaming toString->Vt
open False renaming elim->VA
open PySem.NameKind renaming free->VC,cell->Gk
open PySem.SeqAt renaming EqAt->VD,RcNeAt->rH,in_listAt->Rj,notIn_listAt->Rl,in_tupleAt->RJ,RcAt->p9
open PySem.Builtin.Str renaming strKind->VH,occurrences->HA
open True renaming intro->VP
open ForIn renaming forIn->V_
open PySem.StrLaws renaming occBody->Gx,partsFrom->HI,joinTotal->FU,glued_eq_join->rB,strSub_toList->rL,occ_eq->RW
open Or renaming inl->GE,inr->GN
open PySem.Txt renaming startswith->GF,slice->HV,slice_le->FH
open Unit renaming unit->GG
open PySem.Builtin.SmallTypes renaming nextOf->GM,ownedTupleIsFree->GS,ownedTupleHandOut->HW
open PySem.Builtin.Tuple renaming tupleExact->GT,tupleItemsOf->RO,tupleIsExact->pN
open ForInStep renaming yield->GW
open PySem.Obj renaming mapSeq->Hr,data_mapFields->FR,mapFields->rK
open PyProof.Rows.IsTup renaming new->Hw
open PySem.Builtin.Slice renaming slicePlaces->HG,sliceAdjust->Fc,sliceApplied->rp,sliceFields->pV,slicePartIndex->Pa
open PySem.Shared renaming heap->tP
open PySem.Code renaming isFrame->tV,frames->RX
open LawfulMonad renaming pure_bind->tW
open Classical renaming choose_spec->Tc,propDecidable->Tj,choose->RM,byContradiction->Pc
open PySem.Builtin.List renaming listTooLong->Tn
open PySem.Heap.IsSliceOf renaming new->Fe
open And renaming left->Fk
open PySem.Heap.SameBut renaming update->Fu
open PySem.SeqAt.RcNeAt renaming tuples->rm,tuple_str->pR,str_str->pU,str_tuple->p_
open PySem.Heap.DictOf renaming new->rn
open PySem.Walks renaming strAscii->rF,strWide->Rg
open List.Pairwise renaming nil->Rm,map->pF
open PySem.Builtin.Dict renaming updateFrom->RI,selfAndRest->pJ
open PySem.DictEntry renaming refKey->pc
open PySem.AutoSeq1 renaming list_extend_list_list_0->pk
open List.Nodup renaming sublist->pC
open PySem.MeetsSeq renaming list_pop_at->pE,list_pop_last->pS
open Int.ofNat renaming inj->pH
open List.Perm renaming trans->pI,swap->pY,refl->pZ
open List.Sublist renaming refl->pM
open PySem.Heap.Ns1 renaming of_empty->pO
open PySem.Heap.IsList renaming push->pQ
open PySem.Builtin.Range renaming rangeSize->pT
nonrec abbrev oj:=List
nonrec abbrev om:=Option
abbrev A4:=@if_neg
abbrev A6:=@if_pos
abbrev A8:=@absurd
abbrev A9:=@congrArg
abbrev ug:=@decide_eq_true
abbrev uj:=@decide_eq_false
abbrev uC:=@of_decide_eq_true
abbrev uT:=@or_false
abbrev ve:=@decide_eq_decide
abbrev vj:=@decide_eq_true_eq
abbrev V6:=@not_false_eq_true
abbrev Vc:=@not_or
abbrev Vh:=@if_true
namespace L2
open PySem PySem.Spec PyProof.Rows
nonrec abbrev Key:=Sum Int Str
abbrev oX:Key->o6->Bool
 | .inl k,v=>rW k v| .inr x,v=>RG x v
abbrev AeL (w:og):Key->Int
 | .inl k=>hashInt k| .inr x=>hashStr w x
def Qw:∀{k:Key}{v:o6},oX k v=v_->(∃i t,k=GO i/\v=GB i t)\/(∃x t,k=Vl x/\v=VJ x t)
 | .inl i,v,h=>by
  erw[Value.isInt_shape (k:=i) (v:=v) h,t,e];exact .inl (i,t,1,e)
 | .inr x,v,h=>by
  erw[Value.isStrOf_shape (x:=x) (v:=v) h,t,e];exact .inr (x,t,1,e)
def EK (i:Int)(t:Tok):oX (.inl i) (.int i t)=true:=by simp[oX,rW]
def EJ (x:Str)(t:Tok):oX (.inr x) (.str x t)=true:=by simp[oX,RG]
def AbU (a b:Int):decide ((GO a:Key)=GO b)=(a==b):=by
 by_cases e:a=b
 .subst e;simp
 .let h:¬(GO a:Key)=GO b:=λq=>e (Sum.inl.inj q);rw[uj h];exact(beq_eq_false_iff_ne.mpr e).symm
def AbR (a b:Str):decide ((Vl a:Key)=Vl b)=decide (a=b):=by
 by_cases e:a=b
 .subst e;simp
 .let h:¬(Vl a:Key)=Vl b:=λq=>e (Uw q);rw[uj h,uj e]
def AbT (a:Int)(b:Str):decide ((GO a:Key)=Vl b)=false:=uj (λq=>nomatch q)
def AbS (a:Str)(b:Int):decide ((Vl a:Key)=GO b)=false:=uj (λq=>nomatch q)
abbrev Qo (prog:o9)(w:og):PySem.KeyKind prog w Key where
 is:=oX
 hash:=AeL w
 inj:=λv a b ha hb=>by
  rcases Qw ha with⟨i,t,rfl,rfl⟩|⟨x,t,rfl,rfl⟩
  .rcases Qw hb with⟨j,u,rfl,e⟩|⟨y,u,rfl,e⟩
   .injection e with e1 _;rw[e1]
   .exact nomatch e
  .rcases Qw hb with⟨j,u,rfl,e⟩|⟨y,u,rfl,e⟩
   .exact nomatch e
   .injection e with e1 _;rw[e1]
 byValue:=λk v h=>by
  rcases Qw h with⟨i,t,rfl,rfl⟩|⟨x,t,rfl,rfl⟩<;>rfl
 pyHash:=λhv h=>by
  rcases Qw hv with⟨i,t,rfl,rfl⟩|⟨x,t,rfl,rfl⟩
  .exact wpAny_pyHash_int h
  .exact wpAny_pyHash_str h
 eqBool:=λhu hv h=>by
  rcases Qw hu with⟨i,t,rfl,rfl⟩|⟨x,t,rfl,rfl⟩
  .rcases Qw hv with⟨j,u,rfl,rfl⟩|⟨y,u,rfl,rfl⟩
   .rw[AbU] at h;exact wpAny_eqBool_int h
   .rw[AbT] at h;exact UN i t y u _ _ _ _ h
  .rcases Qw hv with⟨j,u,rfl,rfl⟩|⟨y,u,rfl,rfl⟩
   .rw[AbS] at h;exact UO x t j u _ _ _ _ h
   .rw[AbR] at h;exact wpAny_eqBool_str h
 «strs»:=λk x t v h=>by
  rcases Qw h with⟨i,u,rfl,e⟩|⟨y,u,rfl,e⟩
  .exact nomatch e
  .injection e with e1 _
   subst e1
   cases v<;>rfl
def Ap (prog:o9)(w:og)(i:Int)(t:Tok):(Qo prog w).is (.inl i) (.int i t)=true:=EK i t
def wm (prog:o9)(w:og)(x:Str)(t:Tok):(Qo prog w).is (.inr x) (.str x t)=true:=EJ x t
inductive V where
 |non|bl (b:Bool)|int (i:Int)|str (x:Str)|byt (b:Array UInt8)|flt (b:UInt64)|ref (a:Addr)|ty (n:String)
 deriving DecidableEq
abbrev ik:V->o6->Prop
 | .non,u=>u=Ge| .bl b,u=>u=GQ b| .int i,u=>∃t,u=GB i t| .str x,u=>∃t,u=VJ x t| .byt b,u=>∃t,u=RE b t| .flt b,u=>∃t,u=tY b t| .ref a,u=>u=Vo a| .ty n,u=>u=Gr n
nonrec abbrev iq:oj V->oj o6->Prop:=Paired ik
variable {xs:oj V}{us:oj o6}
def iq.length (r:iq xs us):↑xs=↑us:=Paired.length r
def iq.get:∀{xs:oj V}{us:oj o6}{i:Nat}{x:V},iq xs us->xs[i]? =u_ x->∃u,us[i]? =u_ u/\ik x u
 |_,_,_,_,.nil,e=>by simp at e|_,_,0,_,.cons r _,e=>by simp at e;subst e;exact[0:r]|_,_,i+1,x,.cons _ t,e=>by
  obtain⟨u,h1,h2⟩:=iq.get (i:=i) (x:=x) t (by simpa using e)
  exact⟨u,by simpa using h1,h2⟩
def iq.set {x:V}{u:o6}(r:ik x u):∀{xs:oj V}{us:oj o6} (i:Nat),iq xs us->iq (xs.set i x) (us.set i u)
 |_,_,_,.nil=> .nil|_,_,0,.cons _ t=> .cons r t|_,_,i+1,.cons q t=> .cons q (iq.set r i t)
def iq.append:∀{xs ys:oj V}{us ws:oj o6},iq xs us->iq ys ws->iq (xs++ys) (us++ws)
 |_,_,_,_,.nil,s=>s|_,_,_,_,.cons r t,s=> .cons r (iq.append t s)
def iq.take:∀{xs:oj V}{us:oj o6} (n:Nat),iq xs us->iq (xs.take n) (us.take n)
 |_,_,0,_=> .nil|_,_,_+1,.nil=> .nil|_,_,n+1,.cons r t=> .cons r (iq.take n t)
def iq.drop:∀{xs:oj V}{us:oj o6} (n:Nat),iq xs us->iq (xs.drop n) (us.drop n)
 |_,_,0,r=>r|_,_,_+1,.nil=> .nil|_,_,n+1,.cons _ t=>iq.drop n t
abbrev nz:om V->om o6->Prop
 |some v,u_ u=>ik v u|none,U_=>True|_,_=>False
abbrev KV {κ:Type}:oj (κ×V)->oj (κ×o6)->Prop:=Paired λ(p:κ×V) (q:κ×o6)=>p.1=q.1/\ik p.2 q.2
abbrev kV:Key->V
 | .inl i=> .int i| .inr x=> !x
inductive HO where
 |lst (xs:List V)
 |tup (xs:List V)
 |dK (kvs:List (Key×V))|dT (kvs:List (List Key×V))
 |set (S:Int->Bool)(n:Nat)
 |ins (C dx:Addr)(fs:List (Str×V))
 |own (x:Addr)
 |xd (fs:List (Str×V))
 |met (f x:Addr)
 |rng (lo hi:Int)
 |frz (o:Obj)(u:HO)
 |tbl (ps:Array Value)
 |ext (φ:Heap->Prop)
nonrec abbrev Hp:=o3->om HO
abbrev upd (H:Hp)(a:o3)(o:HO):Hp:=λb=>if b=a then u_ o else H b
variable {H:Hp}{a:o3}
def qg {o:HO}:upd H a o a=u_ o:=by unfold upd;rw[A6 rfl]
variable {b:o3}
def qj {o:HO}(h:b≠a):upd H a o b=H b:=by unfold upd;rw[A4 h]
def Adj {o u:HO}(h:H a=u_ o)(h':H b=u_ u)(d:o≠u):a≠b:=by
 intro e;subst e;rw[h] at h';exact d (uO h')
def qk {o:HO}(h:H a=u_ o)(h':H b=U_):a≠b:=by
 intro e;subst e;rw[h] at h';cases h'
section
variable (P:o9)(w:og)
abbrev yu (H:Hp)(h:o8)(a:o3):HO->Prop
 | .lst xs=>↑xs<=Vm/\∃(its:oj o6) (n:Nat),iq xs its/\h.get? a=u_ {cls:= .type "list",data:= .seq its.toArray n}| .tup xs=>↑xs<=Vm/\∃its:oj o6,iq xs its/\GY h a its.toArray| .dK kvs=>↑kvs<=Vm/\(a==VG)=Vi/\∃vs,KV kvs vs/\h.DictOf (Qo P w) a vs| .dT kvs=>↑kvs<=Vm/\(a==VG)=Vi/\∃xs:oj (oj Key×o3×o6),
   Paired (λ(p:oj Key×V) (q:oj Key×o3×o6)=>p.1=q.1/\H q.2.1=u_ (.tup (p.1.map kV))/\ik p.2 q.2.2) kvs xs/\
   ∃o es ep,h.get? a=u_ o/\o.ExactDict/\o.data= .dict es ep/\es.toList=xs.map (entryOfKey (G_ (Qo P w)))/\(xs.map (·.1)).Nodup
 | .set S n=>h.SetOf (intKind P w) a S n| .ins C dx fs=>H dx=u_ (.own a)/\↑fs<=1000/\dx≠a/\h.get? a=u_ (PySem.W.instObj C dx)/\
   ∃mA,h.Ns1 dx mA/\(∀f,nz (fs.lookup f) (mA f))/\PySem.Within mA (fs.map (·.1))
 | .own _=>∃o,h.get? a=u_ o| .xd fs=>∃mA,h.Ns1 a mA/\∀f,nz (fs.lookup f) (mA f)| .rng lo hi=>∃t u v,h.get? a=u_ {cls:= .type "range",data:= .fields #[.int lo t,.int hi u,.int 1 v]}| .frz o u=>h.get? a=u_ o/\yu H h a u| .tbl ps=>h.get? a=u_ {cls:= .none,data:= .fields ps}| .met f x=>h.get? a=u_ (PySem.W.methodObj (-f) (-x))| .ext φ=>φ h/\(∃o,h.get? a=u_ o)/\∀h1 h2:o8,φ h1->(∀o,h1.get? a=u_ o->h2.get? a=u_ o)->φ h2
abbrev HOk (H:Hp)(h:o8):Prop:=∀a o,H a=u_ o->yu P w H h a o
end
section
variable {P:o9}{w:og}{H H':Hp}{h h':o8}{a:o3}{o:HO}
def yu.lt (x:yu P w H h a o):a<h.objs.size:=by
 cases o with
 |lst xs=>erw[x,_,_,_,_,e];exact uK e|tup xs=>erw[x,_,_,_,p];exact p.lt|dK kvs=>erw[x,_,_,_,_,o,_,_,e,_];exact uK e|dT kvs=>erw[x,_,_,_,_,o,_,_,e,_];exact uK e|set S n=>erw[x,o,_,_,_,e,_];exact uK e|ins C dx fs=>erw[x,_,_,_,e,_];exact uK e|own y=>erw[x,_,e];exact uK e|xd fs=>erw[x,_,[_,_,_,e,_],_];exact uK e|rng lo hi=>erw[x,_,_,_,e];exact uK e|frz ob u=>erw[x,e,_];exact uK e|tbl ps=>exact uK (show h.get? a=u_ _ from x)|met f y=>exact uK (show h.get? a=u_ _ from x)|ext φ=>erw[x,_,[_,e],_];exact uK e
def Paired.mapP {α β:Type}{F G:α->β->Prop}:∀{l₁:oj α}{l₂:oj β},Paired F l₁ l₂->(∀a b,F a b->G a b)->Paired G l₁ l₂
 |_,_,.nil,_=> .nil|_,_,.cons r t,f=> .cons (f _ _ r) (Paired.mapP t f)
def yu.stay (x:yu P w H h a o)(k:∀b u,(b=a\/H b=u_ (.own a))->h.get? b=u_ u->h'.get? b=u_ u)
  (O:∀b,H b=u_ (.own a)->H' b=u_ (.own a)) (U:∀b xs,H b=u_ (¬xs)->H' b=u_ (¬xs)):yu P w H' h' a o:=by
 induction o with
 |lst xs=>erw[x,z,its,n,r,e];exact(z,its,n,r,k _ _ (.inl rfl) e)|tup xs=>erw[x,z,its,r,ob,e,c];exact(z,its,r,ob,k _ _ (.inl rfl) e,c)|dK kvs=>erw[x,z,y,vs,r,ob,es,ep,e,c];exact(z,y,vs,r,ob,es,ep,k _ _ (.inl rfl) e,c)|dT kvs=>
  erw[x,z,y,xs,r,ob,es,ep,e,c];exact(z,y,xs,Paired.mapP r λp q z=>[z.1:U _ _ z.2.1:z.2.2],ob,es,ep,k _ _ (.inl rfl) e,c)
 |set S n=>erw[x,ob,es,ep,t,e,c];exact(ob,es,ep,t,k _ _ (.inl rfl) e,c)|ins C dx fs=>
  erw[x,d,z,ne,e,mA,[od,es,ep,e2,c],r];exact(O _ d,z,ne,k _ _ (.inl rfl) e,mA,(od,es,ep,k _ _ (.inr d) e2,c),r)
 |own y=>erw[x,ob,e];exact[ob:k _ _ (.inl rfl) e]|xd fs=>erw[x,mA,[od,es,ep,e,c],r];exact[mA:(od,es,ep,k _ _ (.inl rfl) e,c):r]|rng lo hi=>erw[x,t,u,v,e];exact(t,u,v,k _ _ (.inl rfl) e)|frz ob u Z=>erw[x,e,q];exact[k _ _ (.inl rfl) e:Z q]|tbl ps=>
  let e:h.get? a=u_ {cls:= .none,data:= .fields ps}:=x;show h'.get? a=u_ {cls:= .none,data:= .fields ps};exact k a _ (.inl rfl) e
 |met f y=>
  let e:h.get? a=u_ (PySem.W.methodObj (-f) (-y)):=x;show h'.get? a=u_ (PySem.W.methodObj (-f) (-y));exact k a _ (.inl rfl) e
 |ext φ=>erw[x,p,[o,e],st];exact[st _ _ p λo q=>k _ _ (.inl rfl) q:[o:k _ _ (.inl rfl) e]:st]
def HOk.lt (x:HOk P w H h)(e:H a=u_ o):a<h.objs.size:=(x a o e).lt
def HOk.fresh (x:HOk P w H h)(e:h.objs.size<=a):H a=none:=by
 cases q:H a with
 |none=>rfl|some u=>exact A8 (Vx (x.lt q) e) (vT _)
def HOk.kept (x:HOk P w H h)(k:∀b u,h.get? b=u_ u->h'.get? b=u_ u):HOk P w H h':=λa o e=>
 (x a o e).stay (λb u _ q=>k b u q) (λ_ q=>q) λ_ _ q=>q
def HOk.laid (x:HOk P w H h)(k:∀b u,h.get? b=u_ u->h'.get? b=u_ u)(U:h.objs.size<=a)(new:yu P w (upd H a o) h' a o):HOk P w (upd H a o) h':=λb u e=>by
 let hn:=x.fresh U;by_cases O:b=a
 .subst O;rw[qg] at e;cases e;exact new
 .rw[qj O] at e;exact(x b u e).stay (λc v _ q=>k c v q) (λc q=>by rwa[qj (qk q hn)]) λc xs q=>by rw[qj (qk q hn)];exact q
end
abbrev Rd (H:Hp)(a:o3)(u:HO):Prop:=H a=u_ u\/∃o,H a=u_ (.frz o u)
def Rd.of {u:HO}(h:H a=u_ u):Rd H a u:= .inl h
variable {w:og}{h:o8}
def Rd.ok {P:o9}{u:HO}(r:Rd H a u)(x:HOk P w H h):yu P w H h a u:=by
 rcases r with r|⟨o,r⟩
 .exact x a u r
 .erw[x a _ r,_,q];exact q
abbrev Mut:om HO->Prop
 |some (.lst _)=>True|some (.dK _)=>True|some (.dT _)=>True|some (.set _ _)=>True|some (.ins _ _ _)=>True|some (.ext _)=>True|_=>False
section
variable {P:o9}{w:og}{H:Hp}{h h':o8}{x e:o3}{o':HO}
def HOk.write (ok:HOk P w H h)(mu:Mut (H x))(he:e=x\/H e=u_ (.own x))(k:∀b u,b≠e->h.get? b=u_ u->h'.get? b=u_ u)(aa:∃u,h'.get? e=u_ u)
  (new:yu P w (upd H x o') h' x o'):HOk P w (upd H x o') h':=λb u q=>by
 let U:∀c y,H c=u_ (.own y)->c≠x:=λc y r z=>by subst z;rwa[r] at mu
 let Z:∀c xs,H c=u_ (¬xs)->c≠x:=λc xs r z=>by subst z;rwa[r] at mu
 by_cases hb:b=x
 .subst hb;rw[qg] at q;cases q;exact new
 .rw[qj hb] at q;by_cases O:b=e
  .let q':H b=u_ (.own x):=by
    rcases he with z|z
    .exact A8 (O.trans z) hb
    .rwa[O]
   rw[q] at q';cases q';erw[aa,v,hv];exact⟨v,by rwa[O]⟩
  .refine(ok b u q).stay (λc v hc r=>k c v ?_ r) (λc r=>by rwa[qj (U c b r)]) λc xs r=>by rwa[qj (Z c xs r)]
   rcases hc with rfl|hc
   .exact O
   .rintro rfl;rcases he with z|z
    .exact U c b hc z
    .rw[hc] at z;cases z;exact hb rfl
end
structure Un (fs ex:oj o3)(H H':Hp)(h h':o8):Prop where
 keep:∀b o,h.get? b=u_ o->H b=U_->b∉fs->b∉ex->h'.get? b=u_ o
 slot:∀b o,h.get? b=u_ o->H b=U_->b>fs->b∉ex->∃sl,h'.get? b=u_ {o with slots:=sl}
 free:∀b o,h.get? b=u_ o->H b=U_->b∉ex->H' b=U_
 there:∀b o,h.get? b=u_ o->b∉ex->∃o',h'.get? b=u_ o'
 tups:∀b xs,H b=u_ (¬xs)->H' b=u_ (¬xs)
 frzs:∀b o u,H b=u_ (.frz o u)->H' b=u_ (.frz o u)
 tbls:∀b ps,H b=u_ (.tbl ps)->∃more,H' b=u_ (.tbl (ps++more))
section
variable {fs fs' ex ex':oj o3}{H H1 H2:Hp}{h h1 h2 h':o8}{a x e:o3}{o:HO}
def Un.any (u:Un fs ex H H1 h h1){ob:Obj}(q:h.get? b=u_ ob)(n:H b=U_)(O:b∉ex):∃sl,h1.get? b=u_ {ob with slots:=sl}:=by
 by_cases U:b>fs
 .exact u.slot b ob q n U O
 .exact[ob.slots:u.keep b ob q n U O]
def Un.trans (a:Un fs ex H H1 h h1)(b:Un fs ex H1 H2 h1 h2):Un fs ex H H2 h h2 where
 keep:=λc ob q n Z O=>b.keep c ob (a.keep c ob q n Z O) (a.free c ob q n O) Z O
 slot:=λc ob q n Z O=>by
  erw[a.slot c ob q n Z O,sl,U];erw[b.slot c _ U (a.free c ob q n O) Z O,aa,e2];exact[aa:e2]
 free:=λc ob q n O=>by
  erw[a.there c ob q O,o',U];exact b.free c o' U (a.free c ob q n O) O
 there:=λc ob q O=>by
  erw[a.there c ob q O,o',U];exact b.there c o' U O
 tups:=λc xs q=>b.tups c xs (a.tups c xs q)
 frzs:=λc ob xs q=>b.frzs c ob xs (a.frzs c ob xs q)
 tbls:=λc ps q=>by
  erw[a.tbls c ps q,m1,U];erw[b.tbls c _ U,m2,e2];exact⟨m1++m2,by rw[e2,Fo]⟩
def Un.kept (k:∀b u,h.get? b=u_ u->h'.get? b=u_ u):Un fs ex H H h h':=
 (λb ob q _ _ _=>k b ob q,λb ob q _ _ _=>[ob.slots:k b ob q],λ_ _ _ n _=>n,λb ob q _=>[ob:k b ob q],λ_ _ q=>q,λ_ _ _ q=>q,λ_ ps q=>⟨#[],by rw[q];simp⟩)
def Un.refl:Un fs ex H H h h:=Un.kept λ_ _ q=>q
def Un.laid (k:∀b u,h.get? b=u_ u->h'.get? b=u_ u)(O:h.objs.size<=a)(hn:H a=U_):Un fs ex H (upd H a o) h h' where
 keep:=λb u q _ _ _=>k b u q
 slot:=λb u q _ _ _=>[u.slots:k b u q]
 free:=λb u q n _=>by rwa[qj (vb (Vx (uK q) O))]
 there:=λb u q _=>[u:k b u q]
 tups:=λb xs q=>by rwa[qj (qk q hn)]
 frzs:=λb u xs q=>by rwa[qj (qk q hn)]
 tbls:=λb ps q=>⟨#[],by rw[qj (qk q hn),q];simp⟩
def Un.write (mu:Mut (H x))(he:e=x\/H e=u_ (.own x))(k:∀b u,b≠e->h.get? b=u_ u->h'.get? b=u_ u)(U:∃u,h'.get? e=u_ u):Un fs ex H (upd H x o) h h':=by
 let Z:∀b,H b=U_->b≠x:=λb n z=>by subst z;rwa[n] at mu
 let hb:∀b,H b=U_->b≠e:=λb n z=>by
  subst z;rcases he with r|r
  .exact Z b n r
  .rw[n] at r;cases r
 let hm:∀b u,H b=u_ u->¬Mut (u_ u)->b≠x:=λb u q nm z=>by subst z;rw[q] at mu;exact nm mu
 refine(λb u q n _ _=>k b u (hb b n) q,λb u q n _ _=>[u.slots:k b u (hb b n) q],λb u q n _=>by rwa[qj (Z b n)],λb u q _=>?_,
  λb xs q=>by rwa[qj (hm b _ q λz=>z)],λb u xs q=>by rwa[qj (hm b _ q λz=>z)],λb ps q=>⟨#[],by rw[qj (hm b _ q λz=>z),q];simp⟩)
 by_cases O:b=e
 .subst O;exact U
 .exact[u:k b u O q]
end
abbrev trk (h:o8)(H:Hp):oj o3:=(Vu h.objs.size).filter λa=>(H a).isSome
abbrev Mw (h:o8)(H:Hp):o8:=PySem.W.hideAll h (trk h H)
def EY (h:o8)(H:Hp):(Mw h H).objs.size=h.objs.size:=PySem.W.hideAll_size _ _
variable {o:Obj}
def Mu (e:h.get? b=u_ o)(n:H b=U_):(Mw h H).get? b=u_ o:=
 PySem.W.hideAll_get _ e λhm=>by
  let q:(H b).isSome=true:=(List.mem_filter.mp hm).2;rw[n] at q;simp at q
def Sc (e:(Mw h H).get? b=u_ o):h.get? b=u_ o/\H b=none:=by
 let O:h.get? b=u_ o:=PySem.W.of_hideAll (trk h H) e;exists O;cases q:H b with
 |none=>rfl|some x=>
  let hm:b>trk h H:=List.mem_filter.mpr ⟨List.mem_range.mpr (uK O),by simp[q]⟩
  let z:(Mw h H).get? b=none:=PySem.W.hideAll_none (trk h H) hm;rw[z] at e;cases e
structure Mod (K:o0)(mg:Str->om o6)(base:o8):Prop where
 kin:K.In base
 glob:base.Ns VF mg
 blt:∃mb,base.Ns TW mb/\∀x:Str,x≠"__name__"->mb x=hV x
 nolimit:base.NoLimit
structure Cx where
 prog:o9
 w:og
 K:o0
 mg:Str->om o6
 base:o8
 A:oh
 N:oj Str
 s₀:o7
 H₀:Hp
 env:Env
 outer:oj Env
 stack:oj Env
 ex:oj o3
 fn:Str->Bool
 calm:Bool
 pn:oj (o3×Obj)
 xe:o6->o7->Prop
abbrev frs (l:oj Env):oj o3:=l.filterMap (·.frame)
nonrec abbrev Cx.fs (X:Cx):oj o3:=frs X.outer
abbrev Vis (sc:VB)(x:Str):Prop:=sc.names.lookup x=u_ .local\/sc.names.lookup x=u_ .cell\/sc.names.lookup x=u_ .free
abbrev Loc (sc:VB)(x:Str):Prop:=sc.names.lookup x=u_ .local\/sc.names.lookup x=u_ .cell
abbrev AeU (env:Env)(h:o8)(m:Str->om o6)(x:Str)(u:o6):Prop:=
 (env.kindOf x=u_ .local/\m x=u_ u)\/((env.kindOf x=u_ .cell\/env.kindOf x=u_ .free)/\∃c,env.cells.lookup x=u_ c/\h.IsCell c (u_ u))
structure Cx.Ok (X:Cx):Prop where
 mod:Mod X.K X.mg X.base
 kind:X.env.scope.kind= .function
 glob:X.env.globals=VF
 blt:X.env.builtins=TW
 above:X.s₀.heap.objs.size<=X.env.locals
 inj:∀x y c,X.env.cells.lookup x=u_ c->X.env.cells.lookup y=u_ c->x=y
 has:∀x,(X.env.kindOf x=u_ .cell\/X.env.kindOf x=u_ .free)->∃c,X.env.cells.lookup x=u_ c
 cab:∀x c,X.fn x=v_->X.env.cells.lookup x=u_ c->X.s₀.heap.objs.size<=c
 hd:X.calm=v_->X.A.handled=U_
 frames:X.A.frames=u_ X.stack
 stk:X.stack=X.outer\/(X.stack=X.env::X.outer/\X.env.frame=u_ X.env.locals)
 exf:∀b>X.ex,b≠X.env.locals/\∀x c,X.env.cells.lookup x=u_ c->c≠b
 bs:∀b o,X.base.get? b=u_ o->X.s₀.heap.get? b=u_ o/\X.H₀ b=U_
 bsz:X.base.objs.size<=X.s₀.heap.objs.size
 noex:∀b o,X.base.get? b=u_ o->b∉X.ex
 exfs:∀b>X.ex,b∉X.fs
 funs:X.s₀.heap.FunFrames X.base X.outer
 frf:∀b>X.fs,X.H₀ b=U_
structure Inv (X:Cx)(oq:oj (o3×Obj))(σ:oj (om V))(H:Hp)(s:o7):Prop where
 ok:X.Ok
 os:s.os=X.s₀.os
 bare:gV s.gens
 base:Un X.fs X.ex X.H₀ H X.s₀.heap s.heap
 loc:∃m,s.heap.Ns X.env.locals m/\∀(i:Nat) (x:Str) (v:V),X.N[i]? =u_ x->σ[i]? =u_ (u_ v)->Vis X.env.scope x->∃u,ik v u/\AeU X.env s.heap m x u
 cell:∀x c,X.env.cells.lookup x=u_ c->∃v,s.heap.IsCell c v
 free:H X.env.locals=U_
 freeC:∀x c,X.env.cells.lookup x=u_ c->H c=U_
 pin:∀p>X.pn++oq,s.heap.get? p.1=u_ p.2/\H p.1=U_/\p.1≠X.env.locals/\p.1∉X.fs/\∀v,p.2.data≠ .cell v
 hok:HOk X.prog X.w H s.heap
 len:↑σ=↑X.N
 tk:0<s.toks
section
variable {X:Cx}{oq:oj (o3×Obj)}{σ:oj (om V)}{H H':Hp}{s:o7}{h':o8}
def Cx.Ok.nofr (ok:X.Ok)(e:X.base.get? b=u_ o):b∉X.fs:=λO=>by
 have:=(ok.funs.mem O).1;rw[e] at this;cases this
def Inv.bs (I:#[I]):∀b o,X.base.get? b=u_ o->s.heap.get? b=u_ o/\H b=none:=λb o e=>
 [I.base.keep b o (I.ok.bs b o e).1 (I.ok.bs b o e).2 (I.ok.nofr e) (I.ok.noex b o e):I.base.free b o (I.ok.bs b o e).1 (I.ok.bs b o e).2 (I.ok.noex b o e)]
def Inv.bk (I:#[I]):∀b o,X.base.get? b=u_ o->s.heap.get? b=u_ o:=λb o e=>(I.bs b o e).1
def Inv.mod (I:#[I]):Mod X.K X.mg X.base:=I.ok.mod
def Inv.kIn (I:#[I]):X.K.In s.heap:=I.ok.mod.kin.keeps I.bk
def Inv.lt (I:#[I]):X.env.locals<#[0,s]:=let⟨_,hn,_⟩:=I.loc;hn.lt
def Inv.sz (I:#[I]):X.s₀.heap.objs.size<=#[0,s]:=uY I.ok.above (V7 I.lt)
def Inv.nofs (I:#[I])(h:#[0,s]<=a):a∉X.fs:=λO=>by
 erw[I.ok.funs.mem O,_,o,U,_];exact A8 (Vx (uK U) (uY I.sz h)) (vT _)
def Inv.cne (I:#[I]):∀x c,X.env.cells.lookup x=u_ c->c≠X.env.locals:=λx c e z=>by
 erw[I.cell x c e,v,o,Z,hd];erw[I.loc,m,[o',es,ep,O,U,_],_];rw[z,O] at Z;cases Z;rw[U] at hd;cases hd
def Inv.funs (I:#[I]):s.heap.FunFrames X.base X.outer:=by
 let all:∀(l:oj Env),(∀b>frs l,b>X.fs)->X.s₀.heap.FunFrames X.base l->s.heap.FunFrames X.base l:=by
  intro l
  induction l with
  |nil=>intro _ _;trivial|cons env r ih=>
   intro hs hl;erw[hl,hk,[L,o,O,hn,ho,hd],hr];let U:L>X.fs:=hs L (by unfold frs;rw[U5,O];exact ui)
   obtain⟨sl,e⟩:=I.base.slot L o ho (I.ok.frf L U) U λz=>I.ok.exfs L z U;exact⟨hk,(L,_,O,hn,e,hd),ih (λb Z=>hs b (by unfold frs;rw[U5,O];exact uh _ Z)) hr⟩
 exact all X.outer (λ_ Z=>Z) I.ok.funs
def Inv.stack (I:#[I]):s.heap.FunFrames X.base X.stack:=by
 rcases I.ok.stk with e|⟨e,O⟩
 .rw[e];exact I.funs
 .rw[e];erw[I.loc,m,hn,_];refine .cons (by rw[I.ok.kind];decide) O hn ?_ I.funs
  exact Heap.get?_none_of_le (uY I.ok.bsz I.ok.above)
def Inv.stkSub (I:#[I]):∀b>frs X.stack,b>X.env.locals::X.fs:=λb O=>by
 rcases I.ok.stk with e|⟨e,U⟩
 .rw[e] at O;exact uh _ O
 .rw[e] at O;unfold frs at O;rwa[U5,U] at O
def Inv.stkFree (I:#[I]):∀b>frs X.stack,H b=none:=λb O=>by
 rcases Aa.mp (I.stkSub b O) with e|O
 .rw[e];exact I.free
 .erw[I.ok.funs.mem O,_,o,U,_];exact I.base.free b o U (I.ok.frf b O) λz=>I.ok.exfs b z O
def Inv.step {g':Array Te}{t':Nat}{d':Drawn}{ch:oj o3}(I:#[I])
  (U:∀b>ch,(b>X.ex\/X.s₀.heap.objs.size<=b)/\b≠X.env.locals/\(∀x c,X.env.cells.lookup x=u_ c->c≠b)/\∀p>X.pn++oq,p.1≠b)
  (keep:∀b o,b≠X.env.locals->b∉X.fs->b∉ch->s.heap.get? b=u_ o->H b=U_->h'.get? b=u_ o)
  (slot:∀b o,b≠X.env.locals->b>X.fs->b∉ch->s.heap.get? b=u_ o->H b=U_->∃sl,h'.get? b=u_ {o with slots:=sl}) (free:∀b o,b∉ch->s.heap.get? b=u_ o->H b=U_->H' b=U_)
  (there:∀b o,b∉ch->s.heap.get? b=u_ o->∃o',h'.get? b=u_ o')
  (tups:∀b xs,H b=u_ (¬xs)->H' b=u_ (¬xs)) (frzs:∀b o u,H b=u_ (.frz o u)->H' b=u_ (.frz o u)) (tbls:∀b ps,H b=u_ (.tbl ps)->∃more,H' b=u_ (.tbl (ps++more)))
  (ns:∀m,s.heap.Ns X.env.locals m->h'.Ns X.env.locals m) (hok:HOk X.prog X.w H' h') (hg:gV g') (ht:0<t':=by ac_rfl):
  Inv X oq σ H' {s with heap:=h',gens:=g',drawn:=d',toks:=t'}:=by
 let ad:∀b o,X.s₀.heap.get? b=u_ o->b≠X.env.locals:=λb o e=>vb (Vx (uK e) I.ok.above);let ac:∀b o,X.s₀.heap.get? b=u_ o->b∉X.ex->b∉ch:=λb o e O hb=>by
  rcases(U b hb).1 with z|z
  .exact O z
  .exact A8 (Vx (uK e) z) (vT _)
 let Z:∀x c,X.env.cells.lookup x=u_ c->∀v,s.heap.IsCell c v->h'.IsCell c v:=λx c e v ⟨o,ho,hd⟩=>by
  let aa:c∉ch:=λz=>(U c z).2.2.1 x c e rfl;by_cases hc:c>X.fs
  .erw[slot c o (I.cne x c e) hc aa ho (I.freeC x c e),sl,q];exact[_:q:hd]
  .exact[o:keep c o (I.cne x c e) hc aa ho (I.freeC x c e):hd]
 exists I.ok,I.os,hg,(λb o e n hb O=>?_,λb o e n hb O=>?_,λb o e n O=>?_,λb o e O=>?_,λb xs e=>tups b xs (I.base.tups b xs e),λb o xs e=>frzs b o xs (I.base.frzs b o xs e),λb ps e=>?_),?_,λx c e=>?_,?_,λx c e=>?_,λp hp=>?_,hok,I.len,ht
 .exact keep b o (ad b o e) hb (ac b o e O) (I.base.keep b o e n hb O) (I.base.free b o e n O)
 .erw[I.base.slot b o e n hb O,sl,e1];erw[slot b _ (ad b o e) hb (ac b o e O) e1 (I.base.free b o e n O),ae,e2];exact[ae:e2]
 .erw[I.base.there b o e O,o',e1];exact free b o' (ac b o e O) e1 (I.base.free b o e n O)
 .erw[I.base.there b o e O,o',e1];exact there b o' (ac b o e O) e1
 .erw[I.base.tbls b ps e,m1,e1];erw[tbls b _ e1,m2,e2];exact⟨m1++m2,by rw[e2,Fo]⟩
 .erw[I.loc,m,hn,hl];exists m,ns m hn,λi x v e1 e2 e3=>?_;erw[hl i x v e1 e2 e3,u,r,l];exists u,r;rcases l with l|⟨k,c,e,z⟩
  .exact .inl l
  .exact .inr (k,c,e,Z x c e _ z)
 .erw[I.cell x c e,v,z];exact[v:Z x c e v z]
 .erw[I.loc,m,[o,_,_,ho,_],_];exact free _ o (λz=>(U _ z).2.1 rfl) ho I.free
 .erw[I.cell x c e,v,o,ho,hd];exact free c o (λz=>(U c z).2.2.1 x c e rfl) ho (I.freeC x c e)
 .erw[I.pin p hp,e,n,ne,nf,d];let aa:p.1∉ch:=λz=>(U p.1 z).2.2.2 p hp rfl;exact(keep p.1 p.2 ne nf aa e n,free p.1 p.2 aa e n,ne,nf,d)
variable {t':Nat}
def Inv.un (I:#[I])(u:Un X.fs [] H H' s.heap h')(hok:HOk X.prog X.w H' h')(ht:0<t':=by ac_rfl):Inv X oq σ H' {s with heap:=h',toks:=t'}:=by
 erw[id I.loc,m,[o,es,ep,ho,r],_];obtain⟨sl,hL⟩:=u.any ho I.free (by simp)
 exact I.step (g':=s.gens) (d':=s.drawn) (ch:= []) (λ_ z=>nomatch z) (λb o _ U _ e n=>u.keep b o e n U (by simp)) (λb o _ U _ e n=>u.slot b o e n U (by simp)) (λb o _ e n=>u.free b o e n (by simp)) (λb o _ e=>u.there b o e (by simp)) u.tups u.frzs u.tbls (λm' hm=>by
  erw[hm,o',Z,aa,O,r'];rw[ho] at O;cases O;exact(_,Z,aa,hL,r')) hok I.bare
def Inv.call {g':Array Te}{t':Nat}{d':Drawn}{ch:oj o3}(I:#[I])(u:Un (frs X.stack) ch H H' s.heap h')(hok:HOk X.prog X.w H' h')(hg:gV g')
  (U:∀b>ch,(b>X.ex\/X.s₀.heap.objs.size<=b)/\b≠X.env.locals/\(∀x c,X.env.cells.lookup x=u_ c->c≠b)/\∀p>X.pn++oq,p.1≠b) (ht:0<t':=by ac_rfl):
  Inv X oq σ H' {s with heap:=h',gens:=g',drawn:=d',toks:=t'}:=by
 erw[id I.loc,m,[o,es,ep,ho,r],_];obtain⟨sl,hL⟩:=u.any ho I.free λz=>(U _ z).2.1 rfl;exact I.step (ch:=ch) U (λb o hL hb O e n=>u.keep b o e n (λz=>(Aa.mp (I.stkSub b z)).elim hL hb) O) (λb o _ _ O e n=>u.any e n O) (λb o O e n=>u.free b o e n O) (λb o O e=>u.there b o e O) u.tups u.frzs u.tbls (λm' hm=>by
  erw[hm,o',aa,ac,Z,r'];rw[ho] at Z;cases Z;exact(_,aa,ac,hL,r')) hok hg
def Inv.turned {t':Nat}{it:o3}(I:#[I])(k:∀b o,b≠it->s.heap.get? b=u_ o->h'.get? b=u_ o)(hn:H it=U_)(Z:it≠X.env.locals)
  (h1:it>X.ex\/X.s₀.heap.objs.size<=it) (h2:∀x c,X.env.cells.lookup x=u_ c->c≠it) (h3:∀p>X.pn++oq,p.1≠it) (ht:0<t':=by ac_rfl):Inv X oq σ H {s with heap:=h',toks:=t'}:=by
 let U:∀b u,H b=u_ u->b≠it:=λb u e z=>by rw[z,hn] at e;cases e
 refine I.step (g':=s.gens) (d':=s.drawn) (ch:= [it]) (λb hb=>?_) (λb o _ _ O e _=>k b o (λz=>O (by simp[z])) e) (λb o _ _ O e _=>⟨o.slots,k b o (λz=>O (by simp[z])) e⟩) (λ_ _ _ _ n=>n)
  (λb o O e=>⟨o,k b o (λz=>O (by simp[z])) e⟩) (λ_ _ e=>e) (λ_ _ _ e=>e) (λb ps e=>⟨#[],by rw[e];simp⟩) (λm hm=>?_) (λb u e=>?_) I.bare
 .let e:b=it:=by simpa using hb
  subst e;exact(h1,Z,h2,h3)
 .erw[hm,o,es,ep,ho,r];exact(o,es,ep,k _ o (U6 Z) ho,r)
 .refine(I.hok b u e).stay (λc v O q=>k c v ?_ q) (λ_ q=>q) λ_ _ q=>q;rcases O with z|z
  .rw[z];exact U b u e
  .exact U c _ z
def Inv.tok (I:#[I])(t:Nat)(O:0<t:=by ac_rfl):Inv X oq σ H {s with toks:=t}:=I.un (h':=s.heap) (t':=t) Un.refl I.hok
def Inv.kept (I:#[I])(k:∀b u,s.heap.get? b=u_ u->h'.get? b=u_ u)(O:0<t':=by ac_rfl):Inv X oq σ H {s with heap:=h',toks:=t'}:=I.un (Un.kept k) (I.hok.kept k)
def Inv.laid {o:HO}(I:#[I])(k:∀b u,s.heap.get? b=u_ u->h'.get? b=u_ u)(O:#[0,s]<=a)(new:yu X.prog X.w (upd H a o) h' a o)(U:0<t':=by ac_rfl):
  Inv X oq σ (upd H a o) {s with heap:=h',toks:=t'}:=I.un (Un.laid k O (I.hok.fresh O)) (I.hok.laid k O new)
def Inv.write {x e:o3}{o:HO}{t':Nat}(I:#[I])(mu:Mut (H x))(U:e=x\/H e=u_ (.own x))(k:∀b u,b≠e->s.heap.get? b=u_ u->h'.get? b=u_ u)(O:∃u,h'.get? e=u_ u)
  (new:yu X.prog X.w (upd H x o) h' x o) (Z:0<t':=by ac_rfl):Inv X oq σ (upd H x o) {s with heap:=h',toks:=t'}:=I.un (Un.write mu U k O) (I.hok.write mu U k O new)
def Inv.pins_of {O:oj (o3×Obj)}(I:#[I])(h:∀p>O,s.heap.get? p.1=u_ p.2/\H p.1=U_/\p.1≠X.env.locals/\p.1∉X.fs/\∀v,p.2.data≠ .cell v):Inv X O σ H s:=
 (I.ok,I.os,I.bare,I.base,I.loc,I.cell,I.free,I.freeC,λp U=>(Ac.mp U).elim (λz=>I.pin p (uX _ z)) (h p),I.hok,I.len,I.tk)
variable {i j:Nat}{x:Str}
def BH {N:oj Str}(O:N.Nodup)(a:N[i]? =u_ x)(b:N[j]? =u_ x):i=j:=by
 erw[Af.mp a,h1,U];erw[Af.mp b,h2,e2];exact(List.getElem_inj O).mp (U.trans e2.symm)
def nP {M:hX}{A:oh}{E:o6->o7->Prop}{i:Nat}{x:Str}{v:V}{u:o6}{Q:Unit->o7->Prop}(I:#[I])(hN:X.N.Nodup)(hi:X.N[i]? =u_ x)(hx:Loc X.env.scope x)(r:ik v u)
  (h:∀s',Inv X oq (σ.set i (u_ v)) H s'->(∃a,VW a s.heap s'.heap/\(a=X.env.locals\/X.env.cells.lookup x=u_ a))->Q GG s') (hf:X.fn x=v_\/X.env.scope.names.lookup x=u_ .local:=by first|exact .inl rfl|exact .inr rfl|assumption):Vj M A (tG X.env x u) Q E s:=by
 erw[id I.loc,m,hn,hl];let ad:(X.env.scope.kind== .class||(X.env.scope.kind== .module&&X.env.locals !=X.env.globals))=false:=by rw[I.ok.kind];rfl
 let ae:i<↑σ:=by rw[I.len];exact(Af.mp hi).1
 let cne:=I.cne;let U:∀{a:o3}{h':o8},(∃o,s.heap.get? a=u_ o/\H a=U_)->VW a s.heap h'->HOk X.prog X.w H h':=λ{a h'} ha O b ob e=>by
  erw[ha,_,_,aa];refine(I.hok b ob e).stay (λc w' hc q=>(O.2 c ?_).trans q) (λ_ q=>q) λ_ _ q=>q;rintro rfl;rcases hc with rfl|hc
  .rw[aa] at e;cases e
  .rw[aa] at hc;cases hc
 rcases hx with hk|hk
 .refine rS hk hn (λh' al O=>?_) ad;erw[id hn,oL,_,_,am,_];refine h _ (I.ok,I.os,I.bare,(λb o e n hb hx=>?_,λb o e n hb hx=>?_,I.base.free,λb o e hx=>?_,I.base.tups,I.base.frzs,I.base.tbls),[_:al:λj y v' Z e2 e3=>?_],λy c e=>?_,I.free,I.freeC,λp hp=>?_,U [oL:am:I.free] O,by simpa using I.len,by first|exact I.tk|exact HB _) [_:O:.inl rfl]
  .exact(O.2 b (vb (Vx (uK e) I.ok.above))).trans (I.base.keep b o e n hb hx)
  .erw[I.base.slot b o e n hb hx,sl,Z];exact[sl:(O.2 b (vb (Vx (uK e) I.ok.above))).trans Z]
  .erw[I.base.there b o e hx,o',Z];exact[o':(O.2 b (vb (Vx (uK e) I.ok.above))).trans Z]
  .by_cases hj:j=i
   .subst hj;rw[hi] at Z;cases Z;rw[rA ae] at e2;cases e2;exact⟨u,r,.inl ⟨hk,by simp⟩⟩
   .rw[RT (U6 hj)] at e2;erw[hl j y v' Z e2 e3,u',r',q];exists u',r';rcases q with⟨k,e⟩|⟨k,c,e,z⟩
    .refine .inl [k:?_];have:y≠x:=λe=>hj (BH hN Z (e▸hi));simp[this,e]
    .exact .inr (k,c,e,z.sameBut O (cne y c e))
  .erw[I.cell y c e,w',z];exact[w':z.sameBut O (cne y c e)]
  .erw[I.pin p hp,e,n,ne,nf,d];exact((O.2 p.1 ne).trans e,n,ne,nf,d)
 .let ac:X.fn x=true:=by
   rcases hf with z|z
   .exact z
   .rw[z] at hk;cases hk
  erw[I.ok.has x (.inl hk),c,hc];erw[I.cell x c hc,w',z];refine wpAny_storeName_cell I.ok.kind hk hc z (λh' af O=>?_);erw[id z,oc,ag,ah];refine h {s with heap:=h'} (I.ok,I.os,I.bare,(λb o e n hb hx=>?_,λb o e n hb hx=>?_,I.base.free,λb o e hx=>?_,I.base.tups,I.base.frzs,I.base.tbls),[m:hn.sameBut O (U6 (cne x c hc)):λj y v' Z e2 e3=>?_],λy c' e=>?_,I.free,I.freeC,λp hp=>?_,U [oc:ag:I.freeC x c hc] O,by simpa using I.len,by first|exact I.tk|exact HB _) [c:O:.inr hc]
  .exact(O.2 b (vb (Vx (uK e) (I.ok.cab x c ac hc)))).trans (I.base.keep b o e n hb hx)
  .erw[I.base.slot b o e n hb hx,sl,Z];exact[sl:(O.2 b (vb (Vx (uK e) (I.ok.cab x c ac hc)))).trans Z]
  .erw[I.base.there b o e hx,o',Z];exact[o':(O.2 b (vb (Vx (uK e) (I.ok.cab x c ac hc)))).trans Z]
  .by_cases hj:j=i
   .subst hj;rw[hi] at Z;cases Z;rw[rA ae] at e2;cases e2;exact[u:r:.inr (.inl hk,c,hc,af)]
   .rw[RT (U6 hj)] at e2;erw[hl j y v' Z e2 e3,u',r',q];exists u',r';rcases q with q|⟨k,c',e,z'⟩
    .exact .inl q
    .refine .inr (k,c',e,z'.sameBut O ?_);rintro rfl;exact hj (BH hN Z (I.ok.inj _ _ _ e hc▸hi))
  .by_cases ak:c'=c
   .subst ak;exact[_:af]
   .erw[I.cell y c' e,w2,z2];exact[w2:z2.sameBut O ak]
  .erw[I.pin p hp,e,n,ne,nf,d];exists (O.2 p.1 ?_).trans e,n,ne,nf,d;intro q;rw[q,ag] at e;let q':oc=p.2:=uO e;exact d w' (by rwa[<-q'])
def KM {M:hX}{A:oh}{E:o6->o7->Prop}{i:Nat}{x:Str}{v:V}{u:o6}{Q:Unit->o7->Prop}(I:#[I])(O:X.N.Nodup)(hi:X.N[i]? =u_ x)(U:Loc X.env.scope x)(r:ik v u)
  (h:∀s',Inv X oq (σ.set i (u_ v)) H s'->Q GG s') (Z:X.fn x=v_\/X.env.scope.names.lookup x=u_ .local:=by first|exact .inl rfl|exact .inr rfl|assumption):Vj M A (tG X.env x u) Q E s:=
 nP I O hi U r (λs' I' _=>h s' I') Z
def Inv.call' {s':o7}{ch:oj o3}(I:#[I])(U:s'.os=s.os)(u:Un (frs X.stack) ch H H' s.heap s'.heap)(hok:HOk X.prog X.w H' s'.heap)(Z:gV s'.gens)
  (O:∀b>ch,(b>X.ex\/X.s₀.heap.objs.size<=b)/\b≠X.env.locals/\(∀x c,X.env.cells.lookup x=u_ c->c≠b)/\∀p>X.pn++oq,p.1≠b) (ht:0<s'.toks:=by ac_rfl):Inv X oq σ H' s':=by
 erw[s',h',g',d',t',o'];let e:o'=s.os:=U;subst e;exact I.call (g':=g') (t':=t') (d':=d') u hok Z O
end
nonrec abbrev XK:=o6->om o3->Hp->Prop
nonrec abbrev St:=oj (om V)
nonrec abbrev VK:=V->Hp->Prop
nonrec abbrev TE:=St->Hp->VK->Prop
nonrec abbrev TT:=St->Hp->(Bool->Hp->Prop)->Prop
nonrec abbrev TA:=St->Hp->(oj V->Hp->Prop)->Prop
structure nc where
 nx:St->Hp->Prop
 rt:VK
 bk:St->Hp->Prop:=λ_ _=>False
 ct:St->Hp->Prop:=λ_ _=>False
nonrec abbrev TS:=nc->St->Hp->Prop
abbrev EP (X:Cx)(oq:oj (o3×Obj))(σ:St)(Q:VK)(u:o6)(s':o7):Prop:=∃v H',Inv X oq σ H' s'/\ik v u/\Q v H'
abbrev TP (X:Cx)(oq:oj (o3×Obj))(σ:St)(Q:Bool->Hp->Prop)(b:Bool)(s':o7):Prop:=∃H',Inv X oq σ H' s'/\Q b H'
abbrev AP (X:Cx)(oq:oj (o3×Obj))(σ:St)(Q:oj V->Hp->Prop)(us:oj o6)(s':o7):Prop:=∃vs H',Inv X oq σ H' s'/\iq vs us/\Q vs H'
abbrev SP (X:Cx)(oq:oj (o3×Obj))(D:nc)(f:Flow)(s':o7):Prop:=
 match f with
 | .next=>∃σ' H',Inv X oq σ' H' s'/\D.nx σ' H'| .brk=>∃σ' H',Inv X oq σ' H' s'/\D.bk σ' H'| .cont=>∃σ' H',Inv X oq σ' H' s'/\D.ct σ' H'| .ret u=>∃v σ' H',Inv X oq σ' H' s'/\ik v u/\D.rt v H'
abbrev PE (X:Cx)(e:Expr)(t:TE):Prop:=
 ∀(oq:oj (o3×Obj)) (s:o7) (σ:St) (H:Hp) (Q:VK),#[I]->t σ H Q->Vj #[X,X] X.A (eval e X.env) (EP X oq σ Q) X.xe s
abbrev PT (X:Cx)(e:Expr)(t:TT):Prop:=
 ∀(oq:oj (o3×Obj)) (s:o7) (σ:St) (H:Hp) (Q:Bool->Hp->Prop),#[I]->t σ H Q->Vj #[X,X] X.A (isTrue e X.env (eval e X.env)) (TP X oq σ Q) X.xe s
abbrev PW (X:Cx)(e:Expr)(t:TT):Prop:=
 ∀(whole:Sem o6) (oq:oj (o3×Obj)) (s:o7) (σ:St) (H:Hp) (Q:Bool->Hp->Prop),#[I]->t σ H Q->Vj #[X,X] X.A (isTrue e X.env whole) (TP X oq σ Q) X.xe s
variable {X:Cx}
def PW.pt {e:Expr}{t:TT}(h:PW X e t):PT X e t:=h _
abbrev PA (X:Cx)(es:oj Expr)(t:TA):Prop:=
 ∀(pos:Pos) (oq:oj (o3×Obj)) (s:o7) (σ:St) (H:Hp) (Q:oj V->Hp->Prop),#[I]->t σ H Q->Vj #[X,X] X.A (spliced (Vv pos (Vn es X.env))) (AP X oq σ Q) X.xe s
abbrev PS (X:Cx)(st:Stmt)(t:TS):Prop:=
 ∀(oq:oj (o3×Obj)) (s:o7) (σ:St) (H:Hp) (D:nc),#[I]->t D σ H->Vj #[X,X] X.A (exec st X.env) (SP X oq D) X.xe s
abbrev PSs (X:Cx)(st:oj Stmt)(t:TS):Prop:=
 ∀(oq:oj (o3×Obj)) (s:o7) (σ:St) (H:Hp) (D:nc),#[I]->t D σ H->Vj #[X,X] X.A (execs st X.env) (SP X oq D) X.xe s
variable {A:oh}{s:o7}
def thn {α:Type}{t:Sem α}{Q O:α->o7->Prop}{M:hX}{E:o6->o7->Prop}(h:Vj M A t Q E s)(U:∀a s,Q a s->O a s):Vj M A t O E s:=vz h U λ_ _ x=>x
section
variable {X:Cx}
inductive AaB (i:Nat)(σ:St)(H:Hp)(Q:VK):Prop
 |mk (v:_)(_:σ[i]? =u_ (u_ v))(_:Q v H)
abbrev tC (v:V):TE:=λ_ H Q=>Q v H
variable {i:Nat}{x:Str}
def Abm {pos:Pos}(hN:X.N[i]? =u_ x)(hv:Vis X.env.scope x)(hd:(x==("__debug__":Str))=false:=by decide)(Z:(x==("__classdict__":Str))=false:=by decide):PE X (.Name x pos) (AaB i):=by
 exists 2,Q,I,h;erw[h,v,e,h];erw[I.loc,m,hn,hl];erw[hl i x v hN e hv,u,r,l];let fin:EP X oq σ Q u s:=(v,H,I,r,h);rcases l with⟨U,hm⟩|⟨U,c,hc,O⟩
 .exact tR (Rx I.ok.kind U hn hm fin) hd
 .rcases U with U|U
  .exact tR (RQ I.ok.kind U hc O fin) hd
  .exact tR (wpAny_loadName_free I.ok.kind U hc O fin Z) hd
def qi {i j pos}:PE X (.Constant (.int i) j pos) (tC (.int i)):=λ_ _ _ H _ I h=>wpAny_Constant_int (.int i,H,I.tok _,⟨0⟩,h)
def Yr {b j pos}:PE X (.Constant (.bool b) j pos) (tC (.bl b)):=λ_ _ _ H _ I h=>Constant_bool (.bl b,H,I,1,h)
def qR {j pos}:PE X (.Constant .none j pos) (tC .non):=λ_ _ _ H _ I h=>Constant_none (.non,H,I,1,h)
def ql {x j pos}:PE X (.Constant (!x) j pos) (tC (!x)):=λ_ _ _ H _ I h=>Calls.Constant_str (!x,H,I.tok _,⟨0⟩,h)
abbrev Gl (X:Cx)(x:Str):Prop:=X.env.kindOf x=u_ .globalImplicit
def wL {E:o6->o7->Prop}{oq:oj (o3×Obj)}{s:o7}{σ:St}{H:Hp}{x:Str}{u:o6}{pos:Pos}{Q:o6->o7->Prop}(I:#[I])(O:Gl X x)(hm:X.mg x=u_ u)(h:Q u s)
  (hd:(x==("__debug__":Str))=false:=by decide):Vj #[X,X] X.A (eval (.Name x pos) X.env) Q E s:=
 rQ I.ok.kind O (Calls.loadGlobal_global (by rw[I.ok.glob];exact I.mod.glob.keeps I.bk) hm h) hd
def wX {E:o6->o7->Prop}{oq:oj (o3×Obj)}{s:o7}{σ:St}{H:Hp}{x:Str}{u:o6}{pos:Pos}{Q:o6->o7->Prop}(I:#[I])(O:Gl X x)(hm:X.mg x=U_)(U:hV x=u_ u)(h:Q u s)
  (hn:x≠"__name__":=by decide) (hd:(x==("__debug__":Str))=false:=by decide):Vj #[X,X] X.A (eval (.Name x pos) X.env) Q E s:=by
 erw[I.mod.blt,mb,h1,h2];exact rQ I.ok.kind O (Calls.loadGlobal_builtin (by rw[I.ok.glob];exact I.mod.glob.keeps I.bk) hm (by rw[I.ok.blt];exact h1.keeps I.bk) ((h2 x hn).trans U) h) hd
variable {v:V}{u:o6}
def Ai {pos:Pos}(O:Gl X x)(hm:X.mg x=u_ u)(r:ik v u)(hd:(x==("__debug__":Str))=false:=by decide):PE X (.Name x pos) (tC v):=
 λ_ _ _ H _ I h=>wL I O hm (v,H,I,r,h) hd
def yf {x:Str}{v:V}{u:o6}{pos:Pos}(O:Gl X x)(hm:X.mg x=U_)(U:hV x=u_ u)(r:ik v u)(hn:x≠"__name__")(hd:(x==("__debug__":Str))=Vi):PE X (.Name x pos) (tC v):=
 λ_ _ _ H _ I h=>wX I O hm U (v,H,I,r,h) hn hd
variable {a b:Expr}{ta tb:TE}{pos:Pos}
abbrev PC (X:Cx)(op:GV)(a b:Expr)(t:TE):Prop:=
 ∀(oq:oj (o3×Obj)) (s:o7) (σ:St) (H:Hp) (Q:VK),#[I]->t σ H Q->
  Vj #[X,X] X.A (eval a X.env) (λv s₁=>Vj #[X,X] X.A (eval b X.env) (λu s₂=>Vj #[X,X] X.A (Vs op v u) (EP X oq σ Q) X.xe s₂) X.xe s₁) X.xe s
inductive ItB (Q:(Bool->Hp->Prop))(x:V)(H1:Hp):Prop
 |mk (c:_)(_:x= .bl c)(_:Q c H1)
abbrev tB (t:TE):TT:=λσ H Q=>t σ H λx H1=>ItB Q x H1
def WX {O:GV}{t:TE}(h:PC X O a b t)(h1:Hh O b=Vi):PT X (.Compare a [O] [b] pos) (tB t):=by
 exists 2,Q,I,U;refine F_ (thn (h oq s σ H _ I U) λv s1 h1=>thn h1 λu s2 h2=>thn h2 λc s3 zq=>?_) h1;erw[zq,x,H1,Z,r1,q1];erw[q1,d,rfl,q];cases r1;exact vA [H1:Z:q]
def Qc {e:Expr}{t:TE}(h:PE X e t)(U:∀O,isTrue e X.env O=(do let v<-O;GJ e.pos;Gg [v] (truthy v))):PT X e (tB t):=by
 exists 2,Q,I,Z;refine p7 (thn (h oq s σ H _ I Z) λv s1 zq=>?_) (U _);erw[zq,x,H1,I1,r1,q1];erw[q1,d,rfl,q];cases r1;exact vA [H1:I1:q]
variable {tA tB':TT}{rest:oj Expr}
abbrev Aez (t u:TT):TT:=λσ H Q=>t σ H λc H1=>if c=v_ then u σ H1 Q else Q Vi H1
abbrev tOr (t u:TT):TT:=λσ H Q=>t σ H λc H1=>if c=v_ then Q v_ H1 else u σ H1 Q
abbrev Aeu (t:TT):TT:=λσ H Q=>t σ H λc H1=>Q (!(c)) H1
def zN (ha:PT X a tA):PW X (.BoolOp .And [a] pos) tA:=by
 intro O oq s σ H Q I h;refine isTrue_and (thn (ha oq s σ H Q I h) λc s1 e=>?_);cases c with
 |true=>exact isTrue_and_nil e|false=>exact e
def JN (ha:PT X a tA):PW X (.BoolOp .Or [a] pos) tA:=by
 intro O oq s σ H Q I h;refine isTrue_or (thn (ha oq s σ H Q I h) λc s1 e=>?_);cases c with
 |false=>exact isTrue_or_nil e|true=>exact e
def wM (ha:PT X a tA)(U:PW X (.BoolOp .And (b::rest) pos) tB'):PW X (.BoolOp .And (a::b::rest) pos) (Aez tA tB'):=by
 intro Z oq s σ H Q I h;refine isTrue_and (thn (ha oq s σ H _ I h) λc s1 zq=>?_);erw[zq,H1,O,q1];cases c with
 |true=>exact U Z oq s1 σ H1 Q O q1|false=>exact[H1:O:q1]
def Zi (ha:PT X a tA)(U:PW X (.BoolOp .Or (b::rest) pos) tB'):PW X (.BoolOp .Or (a::b::rest) pos) (tOr tA tB'):=by
 intro Z oq s σ H Q I h;refine isTrue_or (thn (ha oq s σ H _ I h) λc s1 zq=>?_);erw[zq,H1,O,q1];cases c with
 |true=>exact[H1:O:q1]|false=>exact U Z oq s1 σ H1 Q O q1
def Qp (ha:PT X a tA):PT X (.UnaryOp .Not a pos) (Aeu tA):=by
 exists 2,Q,I,h;exact isTrue_not (ha oq s σ H (λc H1=>Q (!(c)) H1) I h)
inductive Acz (tb:TE)(σ:St)(Q:VK)(x:V)(H1:Hp):Prop
 |mk (c:_)(_:x= .bl c)(_:if c=v_ then tb σ H1 Q else Q (.bl Vi) H1)
abbrev Ac5 (ta tb:TE):TE:=λσ H Q=>ta σ H λx H1=>Acz tb σ Q x H1
inductive AdN (tb:TE)(σ:St)(Q:VK)(x:V)(H1:Hp):Prop
 |mk (c:_)(_:x= .bl c)(_:if c=v_ then Q (.bl v_) H1 else tb σ H1 Q)
abbrev Aet (ta tb:TE):TE:=λσ H Q=>ta σ H λx H1=>AdN tb σ Q x H1
inductive Acx (Q:VK)(x:V)(H1:Hp):Prop
 |mk (c:_)(_:x= .bl c)(_:Q (.bl (!(c))) H1)
abbrev AcX (ta:TE):TE:=λσ H Q=>ta σ H λx H1=>Acx Q x H1
def XJ {op}{t:TE}(h:PE X a t):PE X (.BoolOp op [a] pos) t:=λoq s σ H Q I O=>BoolOp_one (h oq s σ H Q I O)
def Zw (ha:PE X a ta)(U:PE X (.BoolOp .And (b::rest) pos) tb):PE X (.BoolOp .And (a::b::rest) pos) (Ac5 ta tb):=by
 exists 2,Q,I,h;refine BoolOp_and (thn (ha oq s σ H _ I h) λv s1 zq=>?_);erw[zq,x,H1,O,Z,q1];erw[q1,c,rfl,q1];cases Z;refine vA ?_;cases c with
 |true=>exact U oq s1 σ H1 Q O q1|false=>exact(.bl Vi,H1,O,1,q1)
def Adh (ha:PE X a ta)(U:PE X (.BoolOp .Or (b::rest) pos) tb):PE X (.BoolOp .Or (a::b::rest) pos) (Aet ta tb):=by
 exists 2,Q,I,h;refine BoolOp_or (thn (ha oq s σ H _ I h) λv s1 zq=>?_);erw[zq,x,H1,O,Z,q1];erw[q1,c,rfl,q1];cases Z;refine vA ?_;cases c with
 |false=>exact U oq s1 σ H1 Q O q1|true=>exact(.bl v_,H1,O,1,q1)
def Abn (ha:PE X a ta):PE X (.UnaryOp .Not a pos) (AcX ta):=by
 exists 2,Q,I,h;refine UnaryOp_ (thn (ha oq s σ H _ I h) λv s1 zq=>?_);erw[zq,x,H1,O,U,q1];erw[q1,c,rfl,q1];cases U;exact not_of (vA (.bl (!(c)),H1,O,1,q1))
abbrev tIf (t:TT)(ta tb:TE):TE:=λσ H Q=>t σ H λc H1=>if c=v_ then ta σ H1 Q else tb σ H1 Q
def ya {c:Expr}(U:PT X c tA)(ha:PE X a ta)(Z:PE X b tb):PE X (.IfExp c a b pos) (tIf tA ta tb):=by
 exists 2,Q,I,h;refine wpAny_IfExp (thn (U oq s σ H _ I h) λd s1 zq=>?_);erw[zq,H1,O,q1];cases d with
 |true=>exact ha oq s1 σ H1 Q O q1|false=>exact Z oq s1 σ H1 Q O q1
end
abbrev SqL (K:o0)(H:Hp)(a:o3)(xs:oj V):Prop:=
 Rd H a (.lst xs)\/
  ∃(o:Obj) (its:Array o6) (n:Nat),K.lookup a=u_ o/\o.cls= .type "list"/\o.dict=U_/\o.data= .seq its n/\its.size<=Vm/\iq xs its.toList
abbrev SqT (K:o0)(H:Hp)(a:o3)(xs:oj V):Prop:=
 Rd H a (¬xs)\/
  ∃(o:Obj) (its:Array o6) (n:Nat),K.lookup a=u_ o/\o.cls= .type "tuple"/\o.data= .seq its n/\its.size<=Vm/\iq xs its.toList
abbrev AeS:o6->om V
 | .none=>u_ .non| .bool b=>u_ (.bl b)| .int i _=>u_ (.int i)| .str x _=>u_ (!x)| .bytes b _=>u_ (.byt b)| .float b _=>u_ (.flt b)| .ref a=>u_ (-a)| .type n=>u_ (.ty n)|_=>U_
variable {u:o6}
def ik.abs {x:V}(r:ik x u):AeS u=u_ x:=by
 cases x with
 |non=>cases r;rfl|bl _=>cases r;rfl|int _=>erw[r,t,rfl];rfl|str _=>erw[r,t,rfl];rfl|byt _=>erw[r,t,rfl];rfl|flt _=>erw[r,t,rfl];rfl|ref _=>cases r;rfl|ty _=>cases r;rfl
variable {y:V}
def ik.inj {x:V}(r:ik x u)(q:ik y u):x=y:=uO (r.abs.symm.trans q.abs)
def iq.inj:∀{xs ys:oj V}{us:oj o6},iq xs us->iq ys us->xs=ys
 |_,_,_,.nil,.nil=>rfl|_,_,_,.cons r t,.cons r' t'=>by rw[r.inj r',iq.inj t t']
section
variable {X:Cx}{oq:oj (o3×Obj)}{σ:St}{H:Hp}{s:o7}{a:o3}{xs ys:oj V}
variable {K:o0}
def SqL.of (h:H a=u_ (.lst xs)):SqL K H a xs:= .inl (.inl h)
def SqT.of (h:H a=u_ (¬xs)):SqT K H a xs:= .inl (.inl h)
def Inv.list (I:#[I])(h:SqL X.K H a xs):∃its:oj o6,iq xs its/\PlainL s.heap a its.toArray/\↑xs<=sizeLine:=by
 rcases h with h|⟨o,its,n,O,U,hd,Z,hz,r⟩
 .erw[h.ok I.hok,z,its,n,r,e];exact(its,r,(_,n,e,1,1,1),z)
 .exists its.toList,r,(o,n,I.kIn a o O,U,hd,by simpa using Z)
  let e:=↑r;simp![vo] at e;omega
def Inv.tuple (I:#[I])(h:SqT X.K H a xs):∃its:oj o6,iq xs its/\GY s.heap a its.toArray/\↑xs<=sizeLine:=by
 rcases h with h|⟨o,its,n,O,U,Z,hz,r⟩
 .erw[h.ok I.hok,z,its,r,p];exact(its,r,p,z)
 .exists its.toList,r,(o,I.kIn a o O,U,n,by simpa using Z)
  let e:=↑r;simp![vo] at e;omega
def Inv.list_inj (I:#[I])(h:SqL X.K H a xs)(h':SqL X.K H a ys):xs=ys:=by
 erw[I.list h,its,r,[o,n,e,_,_,d],_];erw[I.list h',its',r',[o',Z,O,_,_,d'],_];rw[e] at O;cases O;rw[d] at d';injection d' with U _
 have:its=its':=by simpa using A9 Rq U
 subst this;exact r.inj r'
def Inv.tuple_inj (I:#[I])(h:SqT X.K H a xs)(h':SqT X.K H a ys):xs=ys:=by
 erw[I.tuple h,its,r,[o,e,_,n,d],_];erw[I.tuple h',its',r',[o',O,_,Z,d'],_];rw[e] at O;cases O;rw[d] at d';injection d' with U _
 have:its=its':=by simpa using A9 Rq U
 subst this;exact r.inj r'
end
nonrec abbrev Cx.wish (X:Cx)(E:o6->o7->Prop):Cx:={X with xe:=E}
nonrec abbrev Cx.nox (X:Cx):Cx:=X.wish λ_ _=>False
def Cx.Ok.wish (ok:X.Ok)(E:o6->o7->Prop):(X.wish E).Ok:=
 (ok.mod,ok.kind,ok.glob,ok.blt,ok.above,ok.inj,ok.has,ok.cab,ok.hd,ok.frames,ok.stk,ok.exf,ok.bs,ok.bsz,ok.noex,ok.exfs,ok.funs,ok.frf)
def Cx.Ok.unwish {E:o6->o7->Prop}(ok:(X.wish E).Ok):X.Ok:=
 (ok.mod,ok.kind,ok.glob,ok.blt,ok.above,ok.inj,ok.has,ok.cab,ok.hd,ok.frames,ok.stk,ok.exf,ok.bs,ok.bsz,ok.noex,ok.exfs,ok.funs,ok.frf)
section
variable {X:Cx}{oq:oj (o3×Obj)}{σ:St}{H:Hp}{s:o7}{E:o6->o7->Prop}
def Inv.wish (I:#[I])(E:o6->o7->Prop):Inv (X.wish E) oq σ H s:=(I.ok.wish E,I.os,I.bare,I.base,I.loc,I.cell,I.free,I.freeC,I.pin,I.hok,I.len,I.tk)
def Inv.unwish (I:Inv (X.wish E) oq σ H s):#[I]:=(I.ok.unwish,I.os,I.bare,I.base,I.loc,I.cell,I.free,I.freeC,I.pin,I.hok,I.len,I.tk)
def SP.unwish {D:nc}{f:Flow}{s':o7}(h:SP (X.wish E) oq D f s'):SP X oq D f s':=by
 cases f with
 |next=>erw[h,O,H',I,q];exact(O,H',I.unwish,q)|brk=>erw[h,O,H',I,q];exact(O,H',I.unwish,q)|cont=>erw[h,O,H',I,q];exact(O,H',I.unwish,q)|ret u=>erw[h,v,O,H',I,r,q];exact(v,O,H',I.unwish,r,q)
def PSs.nox {st:oj Stmt}{t:TS}(h:PSs X.nox st t):PSs X st t:=λoq s σ H D I hw=>
 vz (h oq s σ H D (I.wish _) hw) (λ_ _ q=>q.unwish) λ_ _ z=>VA z
end
section
variable {X:Cx}{st:Stmt}{rest:oj Stmt}{t u:TS}{e:Expr}{te:TE}{pos:Pos}
abbrev AaF:TS:=λD σ H=>D.nx σ H
abbrev nA (t u:TS):TS:=λD σ H=>t {D with nx:=u D} σ H
def qt:PSs X [] AaF:=λ_ _ σ H _ I h=>Ux (σ,H,I,h)
def qc (h1:PS X st t)(h2:PSs X rest u):PSs X (st::rest) (nA t u):=by
 exists 2,D,I,h;refine Tp (thn (h1 oq s σ H {D with nx:=u D} I h) λf s1 q=>?_)
 cases f with
 |next=>
  erw[q,O,H',U,q];exact h2 oq s1 O H' D U q
 |ret v=>exact q|brk=>exact q|cont=>exact q
def qe (h1:PS X st t):PSs X [st] t:=by
 exists 2,D,I,h;refine Tp (thn (h1 oq s σ H D I h) λf s1 q=>?_);cases f with
 |next=>exact Ux q|ret v=>exact q|brk=>exact q|cont=>exact q
abbrev AaO:TS:=λD σ H=>D.bk σ H
abbrev Ac2:TS:=λD σ H=>D.ct σ H
def O8:PS X (.Pass pos) AaF:=λ_ _ σ H _ I h=>wpAny_Pass (σ,H,I,h)
def LE:PS X (.Break pos) AaO:=λ_ _ σ H _ I h=>wpAny_Break (σ,H,I,h)
def Ah:PS X (.Continue pos) Ac2:=λ_ _ σ H _ I h=>wpAny_Continue (σ,H,I,h)
variable {oq:oj (o3×Obj)}{σ:St}
def Inv.quiet (I:#[I]):FC X.env=false:=by simp[FC,I.ok.kind]
abbrev Ac0 (te:TE):TS:=λD σ H=>te σ H λ_ H1=>D.nx σ H1
def qZ (O:PE X e te)(U:He e U_ pos.line X.env=pure Vi):PS X (.Expr e pos) (Ac0 te):=by
 exists 2,D,I,h;exact r6 (thn (O oq s σ H _ I h) λv s1 ⟨x,H1,Z,r1,q1⟩=>(σ,H1,Z,q1)) I.quiet U
abbrev Aes (te:TE):TS:=λD σ H=>te σ H D.rt
def qm (O:PE X e te):PS X (.Return (u_ e) pos) (Aes te):=by
 exists 2,D,I,h;exact wpAny_Return_some (thn (O oq s σ H _ I h) λv s1 ⟨x,H1,U,Z,q1⟩=>(x,σ,H1,U,Z,q1))
abbrev AcV:TS:=λD _ H=>D.rt .non H
def O7:PS X (.Return U_ pos) AcV:=λ_ _ σ H _ I h=>wpAny_Return_none (.non,σ,H,I,1,h)
abbrev Ad0 (c:TT)(t u:TS):TS:=λD σ H=>c σ H λb H1=>if b=v_ then t D σ H1 else u D σ H1
def qH {c:Expr}{a b:oj Stmt}{tc:TT}(U:PT X c tc)(ha:PSs X a t)(Z:PSs X b u):PS X (.If c a b pos) (Ad0 tc t u):=by
 exists 2,D,I,h;refine wpAny_If (thn (U oq s σ H _ I h) λd s1 zq=>?_);erw[zq,H1,O,q1];cases d with
 |true=>exact ha oq s1 σ H1 D O q1|false=>exact Z oq s1 σ H1 D O q1
abbrev AaG:TS:=λ_ _ _=>False
def jZ:PS X st AaG:=λ_ _ _ _ _ _ h=>h.elim
end
nonrec abbrev TG:=V->St->Hp->(St->Hp->Prop)->Prop
nonrec abbrev TGs:=oj V->St->Hp->(St->Hp->Prop)->Prop
abbrev PG (X:Cx)(target:Expr)(t:TG):Prop:=
 ∀(oq:oj (o3×Obj)) (s:o7) (σ:St) (H:Hp) (v:V) (u:o6) (Q:St->Hp->Prop),#[I]->ik v u->t v σ H Q->
  Vj #[X,X] X.A (Gj target X.env u) (λ_ s'=>∃σ' H',Inv X oq σ' H' s'/\Q σ' H') X.xe s
abbrev PGs (X:Cx)(ts:oj Expr)(t:TGs):Prop:=
 ∀(oq:oj (o3×Obj)) (s:o7) (σ:St) (H:Hp) (vs:oj V) (us:oj o6) (Q:St->Hp->Prop),#[I]->iq vs us->t vs σ H Q->
  Vj #[X,X] X.A (assignInOrder ((G9 ts X.env).map (·.2)) us) (λ_ s'=>∃σ' H',Inv X oq σ' H' s'/\Q σ' H') X.xe s
nonrec abbrev AdI:=V->V->V->Hp->(Hp->Prop)->Prop
abbrev Aem (X:Cx)(t:AdI):Prop:=
 ∀(oq:oj (o3×Obj)) (s:o7) (σ:St) (H:Hp) (o i v:V) (ov iv u:o6) (Q:Hp->Prop),#[I]->ik o ov->ik i iv->ik v u->t o i v H Q->
  Vj #[X,X] X.A (TR ov iv u) (λ_ s'=>∃H',Inv X oq σ H' s'/\Q H') X.xe s
nonrec abbrev TIp:=V->V->Hp->VK->Prop
abbrev PIp (X:Cx)(op:Hu)(t:TIp):Prop:=
 ∀(oq:oj (o3×Obj)) (s:o7) (σ:St) (H:Hp) (x y:V) (v u:o6) (Q:VK),#[I]->ik x v->ik y u->t x y H Q->
  Vj #[X,X] X.A (TN op v u) (EP X oq σ Q) X.xe s
section
variable {X:Cx}{pos:Pos}
abbrev YB (i:Nat):TG:=λv σ H Q=>Q (σ.set i (u_ v)) H
def qM {i:Nat}{x:Str}(O:X.N.Nodup)(hi:X.N[i]? =u_ x)(U:Loc X.env.scope x)(Z:X.fn x=v_\/X.env.scope.names.lookup x=u_ .local):PG X (.Name x pos) (YB i):=by
 exists 2,v,u,Q,I,r,h;exact R8 (KM I O hi U r (λs' I'=>(_,H,I',h)) Z)
abbrev Aeg:TGs:=λvs σ H Q=>vs= []/\Q σ H
abbrev SI (t:TG)(u:TGs):TGs:=λvs σ H Q=>∃v r,vs=v::r/\t v σ H λσ' H'=>u r σ' H' Q
def Jz:PGs X [] Aeg:=by
 exists 2,vs,us,Q,I,r,h;erw[h,e,h];subst e;cases r;exact assignInOrder_nil (σ,H,I,h)
def Qz {e:Expr}{es:oj Expr}{t:TG}{u:TGs}(h1:PG X e t)(h2:PGs X es u)
  (O:(G9 (e::es) X.env).map (·.2)=Gj e X.env::(G9 es X.env).map (·.2):=by rfl):PGs X (e::es) (SI t u):=by
 exists 2,vs,us,Q,I,r,h;erw[h,v,vr,U,h];subst U;cases r with
 |cons r Z=>
  rw[O];refine assignInOrder_cons (thn (h1 oq s σ H _ _ _ I r h) λ_ s1 zq=>?_);erw[zq,σ1,H1,I1,q1];exact h2 oq s1 σ1 H1 _ _ Q I1 Z q1
abbrev Adx (K:o0)(n:Nat)(t:TGs):TG:=λv σ H Q=>∃a xs,v= .ref a/\SqT K H a xs/\↑xs=n/\t xs σ H Q
def Kf {es:oj Expr}{k:Nat}{t:TGs}{n:Nat}(Z:X.calm=v_)(h:PGs X es t)
  (hn:↑(G9 es X.env)=n:=by rfl) (O:(G9 es X.env).findIdx? (·.1)=none:=by rfl):PG X (.Tuple es k pos) (Adx X.K n t):=by
 exists 2,v,u,Q,I,r,U;erw[U,a,xs,e1,hq,hl,U];subst e1;cases r;erw[I.tuple hq,its,rv,ht,hz];refine assign_Tuple_tuple (I.ok.hd Z) ht (by simp[hn,<-hl,rv.length]) O λh' hx=>?_
 let I1:Inv X oq σ H {s with heap:=h'}:=I.kept (t':=s.toks) λb o e=>hx b o (vb (uK e)) e
 exact h oq _ σ H xs _ Q I1 (by simpa using rv) U
abbrev AeQ (to ti:TE)(t:AdI):TG:=λv σ H Q=>to σ H λo H1=>ti σ H1 λi H2=>t o i v H2 λH3=>Q σ H3
def Abl {o i:Expr}{to ti:TE}{t:AdI}(U:PE X o to)(hi:PE X i ti)(Z:Aem X t)
  (ha:∀v,Gj (.Subscript o i pos) X.env v=(do
   let ov<-Gg [v] (eval o X.env)
   let O<-Gg [v,ov] (eval i X.env)
   GJ pos
   Gg [v,ov,O] (TR ov O v)
   release [v,ov,O] [])):PG X (.Subscript o i pos) (AeQ to ti t):=by
 exists 2,v,u,Q,I,r,h;rw[ha];refine A7 (VY (thn (U oq s σ H _ I h) λov s1 zq=>?_));erw[zq,x,H1,I1,r1,q1];refine A7 (VY (thn (hi oq s1 σ H1 _ I1 q1) λO s2 zq=>?_));erw[zq,y,H2,I2,r2,q2];refine A7 (HM (A7 (VY (thn (Z oq s2 σ H2 x y v ov O u _ I2 r1 r2 r q2) λ_ s3 zq=>?_))));erw[zq,H3,I3,q3];exact wpAny_release (σ,H3,I3,q3)
abbrev Ac4 (te:TE)(g:TG):TS:=λD σ H=>te σ H λx H1=>g x σ H1 D.nx
def Ni {tg e:Expr}{te:TE}{g:TG}(O:PE X e te)(U:PG X tg g)(Z:swapsWithSole [tg] e pos.line X.env=pure Vi)(hw:swappedStores [tg] e X.env=pure U_)
  (h1:(G9 [tg] X.env).map (·.2)= [Gj tg X.env]):PS X (.Assign [tg] e pos) (Ac4 te g):=by
 exists 2,D,I,h;refine wpAny_Assign_stores (thn (O oq s σ H _ I h) λv s1 zq=>?_) Z hw;erw[zq,x,H1,I1,r1,q1];rw[h1];exact thn (U oq s1 σ H1 x v _ I1 r1 q1) λ_ s2 q=>q
def qF {i:Nat}{x:Str}{e:Expr}{te:TE}{pos':Pos}(O:X.N.Nodup)(hi:X.N[i]? =u_ x)(U:Loc X.env.scope x)(Z:PE X e te)(hs:He e (u_ (.Name x pos')) pos.line X.env=pure Vi)(hf:X.fn x=v_\/X.env.scope.names.lookup x=u_ .local):
  PS X (.Assign [.Name x pos'] e pos) (Ac4 te (YB i)):=by
 exists 2,D,I,h;refine wpAny_Assign_Name (thn (Z oq s σ H _ I h) λv s1 zq=>?_) hs;erw[zq,y,H1,I1,r1,q1];exact KM I1 O hi U r1 (λs2 I2=>(_,H1,I2,q1)) hf
inductive Aey (i:Nat)(te:TE)(ti:TIp)(D:nc)(σ:St)(H:Hp):Prop
 |mk (x:_)(_:σ[i]? =u_ (u_ x))(_:te σ H λy H1=>ti x y H1 λz H2=>D.nx (σ.set i (u_ z)) H2)
def Nh {i:Nat}{x:Str}{e:Expr}{te:TE}{Z:Hu}{ti:TIp}{pos':Pos}(hN:X.N.Nodup)(hi:X.N[i]? =u_ x)(hx:Loc X.env.scope x)(he:PE X e te)(ho:PIp X Z ti)(hf:X.fn x=v_\/X.env.scope.names.lookup x=u_ .local):
  PS X (.AugAssign (.Name x pos') Z e pos) (Aey i te ti):=by
 exists 2,D,I,h;erw[h,v,e1,h];erw[I.loc,m,hn,hl];let aa:Vis X.env.scope x:=by rcases hx with k|k;exact .inl k;exact .inr (.inl k)
 erw[hl i x v hi e1 aa,u,r,l];refine wpAny_AugAssign_Name ?_;let go:Vj #[X,X] X.A (eval e X.env) (λw s₂=>Vj #[X,X] X.A (TN Z u w) (λr s₃=>Vj #[X,X] X.A (tG X.env x r) (λ_=>SP X oq D .next) X.xe s₃) X.xe s₂) X.xe s:=by
  refine thn (he oq s σ H _ I h) λw s1 zq=>?_;erw[zq,y,H1,I1,r1,q1];refine thn (ho oq s1 σ H1 v y u w _ I1 r r1 q1) λz s2 zq=>?_;erw[zq,zv,H2,I2,r2,q2];exact KM I2 hN hi hx r2 (λs3 I3=>(_,H2,I3,q2)) hf
 rcases l with⟨O,hm⟩|⟨O,c,hc,U⟩
 .exact Rx I.ok.kind O hn hm go
 .rcases O with O|O
  .exact RQ I.ok.kind O hc U go
  .rcases hx with k|k
   .have:X.env.scope.names.lookup x=u_ .free:=O;rw[k] at this;cases this
   .have:X.env.scope.names.lookup x=u_ .free:=O;rw[k] at this;cases this
abbrev ipI (f:Int->Int->Int):TIp:=λx y H Q=>∃i j,x= .int i/\y= .int j/\Q (.int (f i j)) H
def NF:PIp X .Add (ipI λi j=>i+j):=by
 exists 2,x,y,v,u,Q,I,O,U,h;erw[h,i,j,Z,e2,q];subst Z;subst e2;erw[O,t,rfl];erw[U,t',rfl];exact iadd_int (.int _,H,I.tok _,⟨0⟩,q)
abbrev MZ (c:TT)(tb:TS):TS:=λD σ H=>∃W:Nat->St->Hp->Prop,(∃m,W m σ H)/\∀m σ H,W m σ H->
 c σ H λb H1=>if b=v_ then∃N:St->Hp->Prop,(∀σ' H',N σ' H'->∃m',m'<m/\W m' σ' H')/\tb {D with nx:=N,ct:=N,bk:=D.nx} σ H1 else D.nx σ H1
def zd {c:Expr}{O:oj Stmt}{tc:TT}{tb:TS}(hp:PassesOwn #[X,X] X.A X.env X.xe)(hc:PT X c tc)(hb:PSs X O tb):PS X (.While c O [] pos) (MZ tc tb):=by
 exists 2,D,I,h;erw[h,W,[m0,w0],U];refine wpAny_While (codeAny_whileLoop (λn s'=>∃σ' H',Inv X oq σ' H' s'/\W n σ' H') ?_ m0 (σ,H,I,w0));rintro n s1 ⟨σ1,H1,I1,w1⟩;refine Uk hp (thn (hc oq s1 σ1 H1 _ I1 (U n σ1 H1 w1)) λb s2 zq=>?_);erw[zq,H2,I2,q2];cases b with
 |true=>
  erw[q2,N,hN,q2];rw[A6 rfl];refine Uk hp (thn (hb oq s2 σ1 H2 _ I2 q2) λf s3 q3=>?_);cases f with
  |next=>
   erw[q3,Z,H3,I3,n3];erw[hN Z H3 n3,m',hm,w3];exact(m',hm,Z,H3,I3,w3)
  |cont=>
   erw[q3,Z,H3,I3,n3];erw[hN Z H3 n3,m',hm,w3];exact(m',hm,Z,H3,I3,w3)
  |brk=>exact q3|ret v=>exact q3
 |false=>
  rw[A4 ub];exact Ux (σ1,H2,I2,q2)
end
structure It where
 go:Nat->Hp->Prop
 yld:Nat->Hp->V->Hp->Prop
 stop:Nat->Hp->Prop
abbrev AZ (X:Cx)(oq:oj (o3×Obj))(H:Hp)(b:o3):Prop:=
 H b=U_/\b≠X.env.locals/\b∉X.fs/\(b>X.ex\/X.s₀.heap.objs.size<=b)/\(∀x c,X.env.cells.lookup x=u_ c->c≠b)/\∀p>X.pn++oq,p.1≠b
variable {oq:oj (o3×Obj)}{σ:St}{H':Hp}
def Inv.fpOk (I:#[I])(O:#[0,s]<=b)(hn:H' b=U_):AZ X oq H' b:=by
 exists hn,Uc (Vx I.lt O),I.nofs O,.inr (uY I.sz O),λx c e z=>?_,λp U z=>?_
 .erw[I.cell x c e,v,q];exact A8 (Vx q.lt (by rwa[z])) (vT _)
 .exact A8 (Vx (uK (I.pin p U).1) (by rwa[z])) (vT _)
structure NV (P:o9)(w:og)(K:o0)(tg:Expr)(J:It)(fp:oj o3)(it:o3)(tn:Nat->o8->Prop):Prop where
 mem:it>fp
 obj:∀i h,tn i h->∀b>fp,∃o,h.get? b=u_ o/\∀v,o.data≠ .cell v
 keep:∀i h h',tn i h->(∀b>fp,∀o,h.get? b=u_ o->h'.get? b=u_ o)->tn i h'
 item:∀(X:Cx),X.prog=P->X.w=w->X.K=K->X.calm=v_->∀(i:Nat) (oq:oj (o3×Obj)) (s:o7) (σ:St) (H:Hp) (E:o6->o7->Prop),#[I]->(∀b>fp,AZ X oq H b)->tn i s.heap->J.go i H->
  Vj (Vz P w) X.A (VM (-it)) (λr s1=>∃u,r=u_ u/\
   Vj (Vz P w) X.A (HL tg (-it) u) (λ_ s2=>∃x H',Inv X oq σ H' s2/\ik x u/\J.yld i H x H'/\tn (i+1) s2.heap/\∀b>fp,H' b=U_) E s1) E s
 done:∀(X:Cx),X.prog=P->X.w=w->X.K=K->X.calm=v_->∀(i:Nat) (oq:oj (o3×Obj)) (s:o7) (σ:St) (H:Hp) (E:o6->o7->Prop),#[I]->(∀b>fp,AZ X oq H b)->tn i s.heap->J.stop i H->
  Vj (Vz P w) X.A (VM (-it)) (λr s1=>r=U_/\Inv X oq σ H s1) E s
 self:∀(A:oh) (i:Nat) (s:o7) (Q:o6->o7->Prop) (E:o6->o7->Prop),tn i s.heap->Q (-it) s->Vj (Vz P w) A (tI (-it)) Q E s
nonrec abbrev TI:=St->Hp->(It->Hp->Prop)->Prop
abbrev PIE (X:Cx)(oq:oj (o3×Obj))(σ:St)(tg:Expr)(R:It->Hp->Prop)(itv:o6)(s2:o7):Prop:=
 ∃(it:o3) (fp:oj o3) (tn:Nat->o8->Prop) (J:It) (H':Hp),itv= .ref it/\Inv X oq σ H' s2/\NV X.prog X.w X.K tg J fp it tn/\tn 0 s2.heap/\(∀b>fp,AZ X oq H' b)/\R J H'
abbrev PI (X:Cx)(tg iter:Expr)(wi:TI):Prop:=
 ∀(oq:oj (o3×Obj)) (s:o7) (σ:St) (H:Hp) (R:It->Hp->Prop),#[I]->wi σ H R->
  Vj #[X,X] X.A (eval iter X.env) (λv s1=>Vj #[X,X] X.A (tI v) (PIE X oq σ tg R) X.xe s1) X.xe s
def E2 {M:hX}{A:oh}{E:o6->o7->Prop}{s:o7}{tg:Expr}{it:o3}{u:o6}{o:Obj}{n:String}{vs:Array o6}{Q:Unit->o7->Prop}(U:s.heap.get? it=u_ o)(Z:o.cls= .type n)(hd:o.data= .fields vs)
  (hn: ["enumerate","zip","dict_itemiterator","dict_reverseitemiterator","odict_iterator","itertools.zip_longest","itertools.pairwise"].contains n=Vi) (O:Q GG s):Vj M A (HL tg (-it) u) Q E s:=by
 unfold HL;cases tg<;>first
  |exact uD O
  |(cases u<;>first
    |exact uD O
    |(refine A7 (tD U ?_)
      rw[Z,hd];show Vj M A (if(["enumerate","zip","dict_itemiterator","dict_reverseitemiterator","odict_iterator","itertools.zip_longest","itertools.pairwise"].contains n&&vs[0]? ==u_ (VO _))=v_ then _ else _) Q E s
      rw[A4 (by intro h;rw[hn,f_] at h;cases h)]
      exact uD O))
abbrev Itl (K:o0)(a:o3):It:=
 ⟨λi H=>∃xs x,SqL K H a xs/\xs[i]? =u_ x,λi H x H'=>H'=H/\∀xs,SqL K H a xs->xs[i]? =u_ x,λi H=>∃xs,SqL K H a xs/\↑xs<=i⟩
abbrev Itt (K:o0)(a:o3):It:=
 ⟨λi H=>∃xs x,SqT K H a xs/\xs[i]? =u_ x,λi H x H'=>H'=H/\∀xs,SqT K H a xs->xs[i]? =u_ x,λi H=>∃xs,SqT K H a xs/\↑xs<=i⟩
abbrev Itr (lo:Int)(n:Nat):It:=[λi _=>i<n:λi H x H'=>H'=H/\x= .int (lo+i):λi _=>n<=i]
variable {K:o0}{tg:Expr}
def C7 {P:o9}(a it:o3):NV P w K tg (Itl K a) [it] it (λi h=>h.IsListIter it a i) where
 mem:=by simp
 obj:=λi h st b O=>by
  let e:b=it:=by simpa using O
  subst e;erw[st,o,e,c,d];exact⟨o,e,λv z=>by rw[d] at z;cases z⟩
 keep:=λi h h' st k=>st.at λo e=>k it (by simp) o e
 item:=by
  intro X hP hw hK hc i oq s σ H E I Z st hg;subst hP hw hK;erw[hg,xs,x,hq,hx];erw[I.list hq,its,rv,p,hz];erw[rv.get hx,u,hu,ru];obtain⟨f0,f1,f2,f3,f4,f5⟩:=Z it (by simp)
  refine R6 st p.isList (x:=u) (by simpa using hu) λh' U sb=>?_
  let I1:Inv X oq σ H {s with heap:=h'}:=I.turned (t':=s.toks) (λb o O e=>(sb.2 b O).trans e) f0 f1 f3 f4 f5
  erw[id U,o,e,c,d];exact⟨u,1,E2 (s:={s with heap:=h'}) e c d () (x,H,I1,ru,⟨1,λys hy=>by rwa[I.list_inj hy hq]⟩,U,λb O=>(Z b O).1)⟩
 done:=by
  intro X hP hw hK hc i oq s σ H E I Z st hg;subst hP hw hK;erw[hg,xs,hq,hx];erw[I.list hq,its,rv,p,hz];obtain⟨f0,f1,f2,f3,f4,f5⟩:=Z it (by simp)
  let hl:=↑rv;exact FD (I.ok.hd hc) st p.isList (by simp;omega) λh' eb=>[1:I.turned (t':=s.toks) (λb o O e=>eb b o O e) f0 f1 f3 f4 f5]
 self:=λ_ _ _ _ _ st h=>wpAny_pyIter_listiter st h
def kj {P:o9}(a it:o3):NV P w K tg (Itt K a) [it] it (λi h=>h.IsTupleIter it a i) where
 mem:=by simp
 obj:=λi h st b O=>by
  let e:b=it:=by simpa using O
  subst e;erw[st,o,e,c,d];exact⟨o,e,λv z=>by rw[d] at z;cases z⟩
 keep:=λi h h' st k=>st.at λo e=>k it (by simp) o e
 item:=by
  intro X hP hw hK hc i oq s σ H E I Z st hg;subst hP hw hK;erw[hg,xs,x,hq,hx];erw[I.tuple hq,its,rv,p,hz];erw[rv.get hx,u,hu,ru];obtain⟨f0,f1,f2,f3,f4,f5⟩:=Z it (by simp)
  refine wpAny_pyNext_tuple_item st (show s.heap.IsTuple a its.toArray from p) (x:=u) (by simpa using hu) λh' U sb=>?_
  let I1:Inv X oq σ H {s with heap:=h'}:=I.turned (t':=s.toks) (λb o O e=>(sb.2 b O).trans e) f0 f1 f3 f4 f5
  erw[id U,o,e,c,d];exact⟨u,1,E2 (s:={s with heap:=h'}) e c d () (x,H,I1,ru,⟨1,λys hy=>by rwa[I.tuple_inj hy hq]⟩,U,λb O=>(Z b O).1)⟩
 done:=by
  intro X hP hw hK hc i oq s σ H E I Z st hg;subst hP hw hK;erw[hg,xs,hq,hx];erw[I.tuple hq,its,rv,p,hz];obtain⟨f0,f1,f2,f3,f4,f5⟩:=Z it (by simp)
  let hl:=↑rv;exact wpAny_pyNext_tuple_end (I.ok.hd hc) st (show s.heap.IsTuple a its.toArray from p) (by simp;omega) λh' eb=>[1:I.turned (t':=s.toks) (λb o O e=>eb b o O e) f0 f1 f3 f4 f5]
 self:=λ_ _ _ _ _ st h=>wpAny_pyIter_tupleiter st h
def Ck {P:o9}(it:o3)(lo:Int)(n:Nat):NV P w K tg (Itr lo n) [it] it (λi h=>rO h it (lo+(i:Nat)*1) ((n:Int)-(i:Nat)) 1) where
 mem:=by simp
 obj:=λi h st b O=>by
  let e:b=it:=by simpa using O
  subst e;exact⟨_,st,λv z=>by
   let z':Data.fields _=Data.cell v:=z;cases z'⟩
 keep:=λi h h' st k=>k it (by simp) _ st
 item:=by
  intro X hP hw hK hc i oq s σ H E I Z st hg;subst hP hw hK;obtain⟨f0,f1,f2,f3,f4,f5⟩:=Z it (by simp)
  let W:=Walks.range (prog:=X.prog) (w:=X.w) (I.ok.hd hc) it lo 1 n;refine vk (n:=1) I.tk (W.item i s _ _ hg st λv h' tk hv U kk=>?_);intro htk;erw[hv,t,rfl];let I1:Inv X oq σ H {s with heap:=h',toks:=tk}:=I.turned (λb o O e=>kk b o (by simpa using O) e) f0 f1 f3 f4 f5
  exists 0,E2 (s:={s with heap:=h',toks:=tk}) (n:="range_iterator") U rfl rfl () (.int (lo+i),H,I1,[t:?_],[1:1],U,λb O=>(Z b O).1)
  rw[Int.mul_one]
 done:=by
  intro X hP hw hK hc i oq s σ H E I Z st hg;subst hP hw hK;obtain⟨f0,f1,f2,f3,f4,f5⟩:=Z it (by simp)
  exact wpAny_pyNext_range_end (I.ok.hd hc) st (by have:n<=i:=hg;omega) λh' eb=>[1:I.turned (t':=s.toks) (λb o O e=>eb b o O e) f0 f1 f3 f4 f5]
 self:=λ_ _ _ _ _ st h=>wpAny_pyIter_rangeiter st h
section
variable {X:Cx}{tg:Expr}
inductive AcE (K:PySem.W.Frag)(R:(It->Hp->Prop))(x:V)(H1:Hp):Prop
 |mk (a:_)(_:x=-a)(_:(∃xs,SqL K H1 a xs))(_:R (Itl K a) H1)
abbrev Adu (K:o0)(tl:TE):TI:=λσ H R=>tl σ H λx H1=>AcE K R x H1
inductive AdR (K:PySem.W.Frag)(R:(It->Hp->Prop))(x:V)(H1:Hp):Prop
 |mk (a:_)(_:x=-a)(_:(∃xs,SqT K H1 a xs))(_:R (Itt K a) H1)
abbrev AeN (K:o0)(tl:TE):TI:=λσ H R=>tl σ H λx H1=>AdR K R x H1
def JV {l:Expr}{tl:TE}(U:PE X l tl):PI X tg l (Adu X.K tl):=by
 exists 2,R,I,h;refine thn (U oq s σ H _ I h) λv s1 zq=>?_;erw[zq,x,H1,O,Z,q1];erw[q1,a,e,[xs,hq],q];subst e;cases Z;erw[O.list hq,its,rv,p,hz];refine V2 p.isList ?_;exists #[0,s1],[#[0,s1]],_,_,H1,1,O.kept (t':=s1.toks) λb o e=>ud _ e,C7 a _,(_,uH _ rfl,1,1),λb hb=>?_,q;let e:b=#[0,s1]:=by simpa using hb
 subst e;exact O.fpOk (uq _) (O.hok.fresh (uq _))
def Wl {l:Expr}{tl:TE}(U:PE X l tl):PI X tg l (AeN X.K tl):=by
 exists 2,R,I,h;refine thn (U oq s σ H _ I h) λv s1 zq=>?_;erw[zq,x,H1,O,Z,q1];erw[q1,a,e,[xs,hq],q];subst e;cases Z;erw[O.tuple hq,its,rv,p,hz];refine Ud (show s1.heap.IsTuple a its.toArray from p) ?_
 exists #[0,s1],[#[0,s1]],_,_,H1,1,O.kept (t':=s1.toks) λb o e=>ud _ e,kj a _,(_,uH _ rfl,1,1),λb hb=>?_,q;let e:b=#[0,s1]:=by simpa using hb
 subst e;exact O.fpOk (uq _) (O.hok.fresh (uq _))
def Bw {oq:oj (o3×Obj)}{σ:St}{H:Hp}{s:o7}{R:It->Hp->Prop}{E:o6->o7->Prop}{lo hi:Int}{t u v:Tok}{tk:Nat}(I:#[I])(h1: -(2^62)<=lo)(h2:lo<2^62)(h3: -(2^62)<=hi)(h4:hi<2^62)
  (q:R (Itr lo (hi-lo).toNat) H) (htk:0<tk:=by ac_rfl):Vj #[X,X] X.A (tI (.ref #[0,s])) (PIE X oq σ tg R) E {s with heap:=s.heap.push {cls:= .type "range",data:= .fields #[.int lo t,.int hi u,.int 1 v]},toks:=tk}:=by
 refine wpAny_pyIter_range (IsRange.new ..) (small_one h1 h2 h3 h4) ?_;let O:Inv X oq σ H {s with heap:=s.heap.push {cls:= .type "range",data:= .fields #[.int lo t,.int hi u,.int 1 v]},toks:=tk}:=I.kept λb o e=>ud _ e
 refine((s.heap.push {cls:= .type "range",data:= .fields #[.int lo t,.int hi u,.int 1 v]}).objs.size,[(s.heap.push {cls:= .type "range",data:= .fields #[.int lo t,.int hi u,.int 1 v]}).objs.size],_,_,H,1,
  O.kept (t':=tk) λb o e=>ud _ e,Ck _ lo (hi-lo).toNat,?_,λb U=>?_,q)
 .let Z:lo+((0:Nat):Int)*1=lo:=by simp
  let e2:(((hi-lo).toNat:Nat):Int)-((0:Nat):Int)=pT lo hi 1:=by rw[rangeSize_one];split<;>omega
  show rO _ _ (lo+((0:Nat):Int)*1) ((((hi-lo).toNat:Nat):Int)-((0:Nat):Int)) 1;rw[Z,e2];exact uH _ rfl
 .let e:b=(s.heap.push {cls:= .type "range",data:= .fields #[.int lo t,.int hi u,.int 1 v]}).objs.size:=by simpa using U
  subst e;exact O.fpOk (uq _) (O.hok.fresh (uq _))
inductive AcD (R:(It->Hp->Prop))(vs:List V)(H1:Hp):Prop
 |mk (j:Int)(_:vs= [.int j])(_: -(2^62)<=j)(_:j<2^62)(_:R (Itr 0 j.toNat) H1)
abbrev Adt (ta:TA):TI:=λσ H R=>ta σ H λvs H1=>AcD R vs H1
inductive AcC (R:(It->Hp->Prop))(vs:List V)(H1:Hp):Prop
 |mk (i j:Int)(_:vs= [.int i,.int j])(_:(-(2^62)<=i/\i<2^62/\ -(2^62)<=j/\j<2^62))(_:R (Itr i (j-i).toNat) H1)
abbrev Ads (ta:TA):TI:=λσ H R=>ta σ H λvs H1=>AcC R vs H1
def Ys {a:Expr}{ta:TA}{p pos:Pos}(O:Gl X "range")(hm:X.mg "range"=U_)(ha:PA X [a] ta)(U:Vn [a] X.env= [(Vi,eval a X.env)]):PI X tg (.Call (.Name "range" p) [a] [] pos) (Adt ta):=by
 exists 2,R,I,h;refine tE (wX I O hm boot_range (vJ (thn (ha pos oq s σ H _ I h) λus s1 zq=>?_) U rfl));erw[zq,vs,H1,Z,r1,q1];erw[q1,j,e,q1,q2,q];subst e;cases r1 with
 |cons r rr=>
  cases rr;erw[r,t,rfl];exact call_range_1 (Bw Z () () q1 q2 (by simpa using q))
def DT {a b:Expr}{ta:TA}{p pos:Pos}(Z:Gl X "range")(hm:X.mg "range"=U_)(ha:PA X [a,b] ta)(hs:Vn [a,b] X.env= [(Vi,eval a X.env),(Vi,eval b X.env)])(O:Vn [b] X.env= [(Vi,eval b X.env)]):
  PI X tg (.Call (.Name "range" p) [a,b] [] pos) (Ads ta):=by
 exists 2,R,I,h;refine tE (wX I Z hm boot_range (vJ (thn (ha pos oq s σ H _ I h) λus s1 zq=>?_) (by rw[hs,O]) (by rw[O];rfl)));erw[zq,vs,H1,I1,r1,q1]
 erw[q1,i,j,e,[q1,q2,q3,q4],q];subst e;cases r1 with
 |cons r U=>
  cases U with
  |cons r' U=>
   cases U;erw[r,t,rfl];erw[r',t',rfl];exact call_range_2 (Bw I1 q1 q2 q3 q4 q)
abbrev Ad1 (wi:TI)(g:TG)(tb:TS):TS:=λD σ H=>wi σ H λJ H1=>∃W:Nat->Nat->St->Hp->Prop,(∃m,W 0 m σ H1)/\∀i m σ H,W i m σ H->
 (J.stop i H/\D.nx σ H)\/(J.go i H/\∃N:St->Hp->Prop,(∀σ' H',N σ' H'->∃m',m'<m/\W (i+1) m' σ' H')/\∀x H',J.yld i H x H'->g x σ H' λσ2 H2=>tb {D with nx:=N,ct:=N,bk:=D.nx} σ2 H2)
abbrev ow (fp:oj o3)(h:o8):oj (o3×Obj):=fp.filterMap λb=>(h.get? b).map λo=>(b,o)
variable {fp:oj o3}
def xl (O:b>fp)(e:h.get? b=u_ o):(b,o)>ow fp h:=List.mem_filterMap.mpr ⟨b,O,by rw[e];rfl⟩
def Er {p:o3×Obj}(O:p>ow fp h):p.1>fp/\h.get? p.1=u_ p.2:=by
 erw[List.mem_filterMap.mp O,b,U,e];cases q:h.get? b with
 |none=>rw[q] at e;cases e|some o=>
  rw[q] at e;let Z:(b,o)=p:=uO e;subst Z;exact[U:q]
def Inv.pinned (I:#[I])(Z:∀b>fp,AZ X oq H b)(ho:∀b>fp,∃o,s.heap.get? b=u_ o/\∀v,o.data≠ .cell v):Inv X (oq++ow fp s.heap) σ H s:=
 I.pins_of λp hp=>(Ac.mp hp).elim (λz=>I.pin p (uN _ z)) λz=>by
  erw[Er z,O,e];erw[Z p.1 O,f0,f1,f2,_];erw[ho p.1 O,o,U,d];rw[e] at U;cases U;exact(e,f0,f1,f2,d)
def Inv.unpinned {pl:oj (o3×Obj)}(I:Inv X (oq++pl) σ H s):#[I]:=I.pins_of λp O=>I.pin p (uN _ (uX _ O))
def yW {O:Expr}{ac:oj Stmt}{wi:TI}{g:TG}{tb:TS}{pos:Pos}(hp:PassesOwn #[X,X] X.A X.env X.xe)(hc:X.calm=v_)(hi:PI X tg O wi)(hg:PG X tg g)(U:PSs X ac tb)
  (hs:∀x,Fg O X.env x=pure x):PS X (.For tg O ac [] pos) (Ad1 wi g tb):=by
 exists 2,D,I,h;refine wpAny_For (thn (hi oq s σ H _ I h) λv s1 h1=>thn h1 λam s2 h2=>?_) hs;erw[h2,it,fp,tn,J,H2,e,I2,T,ah,f2,W,[m0,w0],ae];subst e;let Z:∀{H':Hp},(∀b>fp,H' b=U_)->∀b>fp,AZ X oq H' b:=λhn b U=>[hn b U:(f2 b U).2];refine codeAny_forLoop_any (λn s'=>∃i σ' H',Inv X oq σ' H' s'/\tn i s'.heap/\(∀b>fp,H' b=U_)/\W i n σ' H') ?_ m0 ((0),σ,H2,I2,ah,λb U=>(f2 b U).1,w0);rintro n s3 ⟨i,σ3,H3,I3,af,ag,w3⟩;rcases ae i n σ3 H3 w3 with⟨stop,qn⟩|⟨go,N,hN,step⟩
 .refine Uk hp (thn (T.done X rfl rfl rfl hc i oq s3 σ3 H3 X.xe I3 (Z ag) af stop) λr s4 zq=>?_);erw[zq,hr,I4];subst hr;exact Ux (σ3,H3,I4,qn)
 .refine Uk hp (thn (T.item X rfl rfl rfl hc i oq s3 σ3 H3 X.xe I3 (Z ag) af go) λr s4 zq=>?_);erw[zq,u,hr,h4];subst hr;refine Uk hp (thn h4 λ_ s5 zq=>?_);erw[zq,x,H5,I5,r5,y5,ad,ak];let al:=I5.pinned (Z ak) (T.obj _ _ ad);refine Uk hp (thn (hg _ s5 σ3 H5 x u _ al r5 (step x H5 y5)) λ_ s6 zq=>?_);erw[zq,σ6,H6,I6,q6];refine Uk hp (thn (U _ s6 σ6 H6 _ I6 q6) λf s7 q7=>?_);let aa:∀{σ7:St}{H7:Hp},Inv X (oq++ow fp s5.heap) σ7 H7 s7->N σ7 H7->∃m,m<n/\∃i σ' H',Inv X oq σ' H' s7/\tn i s7.heap/\(∀b>fp,H' b=U_)/\W i m σ' H':=λ{σ7 H7} I7 n7=>by
   erw[hN σ7 H7 n7,m',hm,w7];exists m',hm,i+1,σ7,H7,I7.unpinned,T.keep _ _ _ ad λb U o e=>(I7.pin (b,o) (uN _ (uN _ (xl U e)))).1,λb U=>?_,w7;erw[T.obj _ _ ad b U,o,e,d];exact(I7.pin (b,o) (uN _ (uN _ (xl U e)))).2.1
  cases f with
  |next=>erw[q7,σ7,H7,I7,n7];exact aa I7 n7|cont=>erw[q7,σ7,H7,I7,n7];exact aa I7 n7|brk=>erw[q7,σ7,H7,I7,q7];exact(σ7,H7,I7.unpinned,q7)|ret v=>erw[q7,x7,σ7,H7,I7,r7,q7];exact(x7,σ7,H7,I7.unpinned,r7,q7)
end
def KW {K:o0}{a:o3}{xs:oj V}{g:TG}{tb:TS}{D:nc}{σ:St}{H:Hp}(O:Nat->St->Hp->Prop)(h0:O 0 σ H)(hl:∀i σ H,i<=↑xs->O i σ H->SqL K H a xs)
  (hs:∀i x σ H,xs[i]? =u_ x->O i σ H->g x σ H λZ H2=>tb {D with nx:=O (i+1),ct:=O (i+1),bk:=D.nx} Z H2) (hd:∀σ H,O ↑xs σ H->D.nx σ H):
  ∃W:Nat->Nat->St->Hp->Prop,(∃m,W 0 m σ H)/\∀i m σ H,W i m σ H->
   ((Itl K a).stop i H/\D.nx σ H)\/((Itl K a).go i H/\∃N:St->Hp->Prop,(∀σ' H',N σ' H'->∃m',m'<m/\W (i+1) m' σ' H')/\∀x H',(Itl K a).yld i H x H'->g x σ H' λZ H2=>tb {D with nx:=N,ct:=N,bk:=D.nx} Z H2):=by
 exists λi m σ H=>m=↑xs-i/\i<=↑xs/\O i σ H,(↑xs,by simp,vc _,h0)
 rintro i m σ H ⟨rfl,hi,p⟩;let q:=hl i σ H hi p;by_cases U:i<↑xs
 .refine .inr ((xs,xs[i],q,by simp[U]),O (i+1),λσ' H' p'=>(↑xs-(i+1),(),1,U,p'),λx H' y=>?_)
  erw[y,e,y];subst e;exact hs i x σ _ (y xs q) p
 .let e:i=↑xs:=by omega
  subst e;exact .inl [[xs:q:uq _]:hd σ H p]
def Xi {K:o0}{a:o3}{xs:oj V}{g:TG}{tb:TS}{D:nc}{σ:St}{H:Hp}(O:Nat->St->Hp->Prop)(h0:O 0 σ H)(hl:∀i σ H,i<=↑xs->O i σ H->SqT K H a xs)
  (hs:∀i x σ H,xs[i]? =u_ x->O i σ H->g x σ H λZ H2=>tb {D with nx:=O (i+1),ct:=O (i+1),bk:=D.nx} Z H2) (hd:∀σ H,O ↑xs σ H->D.nx σ H):
  ∃W:Nat->Nat->St->Hp->Prop,(∃m,W 0 m σ H)/\∀i m σ H,W i m σ H->
   ((Itt K a).stop i H/\D.nx σ H)\/((Itt K a).go i H/\∃N:St->Hp->Prop,(∀σ' H',N σ' H'->∃m',m'<m/\W (i+1) m' σ' H')/\∀x H',(Itt K a).yld i H x H'->g x σ H' λZ H2=>tb {D with nx:=N,ct:=N,bk:=D.nx} Z H2):=by
 exists λi m σ H=>m=↑xs-i/\i<=↑xs/\O i σ H,(↑xs,by simp,vc _,h0)
 rintro i m σ H ⟨rfl,hi,p⟩;let q:=hl i σ H hi p;by_cases U:i<↑xs
 .refine .inr ((xs,xs[i],q,by simp[U]),O (i+1),λσ' H' p'=>(↑xs-(i+1),(),1,U,p'),λx H' y=>?_)
  erw[y,e,y];subst e;exact hs i x σ _ (y xs q) p
 .let e:i=↑xs:=by omega
  subst e;exact .inl [[xs:q:uq _]:hd σ H p]
def JS {lo:Int}{n:Nat}{g:TG}{tb:TS}{D:nc}{σ:St}{H:Hp}(O:Nat->St->Hp->Prop)(h0:O 0 σ H)
  (hs:∀i σ H,i<n->O i σ H->g (.int (lo+i)) σ H λZ H2=>tb {D with nx:=O (i+1),ct:=O (i+1),bk:=D.nx} Z H2) (hd:∀σ H,O n σ H->D.nx σ H):
  ∃W:Nat->Nat->St->Hp->Prop,(∃m,W 0 m σ H)/\∀i m σ H,W i m σ H->
   ((Itr lo n).stop i H/\D.nx σ H)\/((Itr lo n).go i H/\∃N:St->Hp->Prop,(∀σ' H',N σ' H'->∃m',m'<m/\W (i+1) m' σ' H')/\∀x H',(Itr lo n).yld i H x H'->g x σ H' λZ H2=>tb {D with nx:=N,ct:=N,bk:=D.nx} Z H2):=by
 exists λi m σ H=>m=n-i/\i<=n/\O i σ H,(n,by simp,vc _,h0)
 rintro i m σ H ⟨rfl,hi,p⟩;by_cases U:i<n
 .refine .inr (U,O (i+1),λσ' H' p'=>(n-(i+1),(),1,U,p'),λx H' y=>?_)
  erw[y,e,y];subst e y;exact hs i σ _ U p
 .let e:i=n:=by omega
  subst e;exact .inl [uq _:hd σ H p]
nonrec abbrev R2:=V->V->Hp->VK->Prop
abbrev OpR (X:Cx)(f:o6->o6->Sem o6)(r:R2):Prop:=
 ∀(oq:oj (o3×Obj)) (s:o7) (σ:St) (H:Hp) (x y:V) (v u:o6) (Q:VK),#[I]->ik x v->ik y u->r x y H Q->
  Vj #[X,X] X.A (f v u) (EP X oq σ Q) X.xe s
abbrev UnR (X:Cx)(f:o6->Sem o6)(r:V->Hp->VK->Prop):Prop:=
 ∀(oq:oj (o3×Obj)) (s:o7) (σ:St) (H:Hp) (x:V) (v:o6) (Q:VK),#[I]->ik x v->r x H Q->
  Vj #[X,X] X.A (f v) (EP X oq σ Q) X.xe s
abbrev YN (X:Cx)(f:o6)(r:oj V->Hp->VK->Prop):Prop:=
 ∀(oq:oj (o3×Obj)) (s:o7) (σ:St) (H:Hp) (xs:oj V) (us:oj o6) (Q:VK),#[I]->iq xs us->r xs H Q->
  Vj #[X,X] X.A (call f us) (EP X oq σ Q) X.xe s
abbrev AeT (X:Cx)(r:V->Hp->(Bool->Hp->Prop)->Prop):Prop:=
 ∀(oq:oj (o3×Obj)) (s:o7) (σ:St) (H:Hp) (x:V) (v:o6) (Q:Bool->Hp->Prop),#[I]->ik x v->r x H Q->
  Vj #[X,X] X.A (truthy v) (TP X oq σ Q) X.xe s
abbrev tOp (r:R2)(ta tb:TE):TE:=λσ H Q=>ta σ H λx H1=>tb σ H1 λy H2=>r x y H2 Q
abbrev tUn (r:V->Hp->VK->Prop)(ta:TE):TE:=λσ H Q=>ta σ H λx H1=>r x H1 Q
inductive rI (C:Int->Int->Prop)(g:Int->Int->V)(x:V)(y:V)(H:Hp)(Q:VK):Prop
 |mk (i:_)(j:_)(_:x= .int i)(_:y= .int j)(_:C i j)(_:Q (g i j) H)
inductive rI0 (g:Int->Int->V)(x:V)(y:V)(H:Hp)(Q:VK):Prop
 |mk (i:_)(j:_)(_:x= .int i)(_:y= .int j)(_:Q (g i j) H)
inductive rU (g:Int->V)(x:V)(H:Hp)(Q:VK):Prop
 |mk (i:_)(_:x= .int i)(_:Q (g i) H)
section
variable {X:Cx}{a b c:Expr}{ta tb tc:TE}{pos:Pos}
def AdG (ha:PE X a ta)(O:PE X b tb){oq:oj (o3×Obj)}{s:o7}{σ:St}{H:Hp}{R:V->V->Hp->Prop}(I:#[I])
  (h:ta σ H λx H1=>tb σ H1 λy H2=>R x y H2) {Q:o6->o7->Prop}{f:o6->o6->Sem o6}
  (U:∀v u s2 x y H2,Inv X oq σ H2 s2->ik x v->ik y u->R x y H2->Vj #[X,X] X.A (f v u) Q X.xe s2):
  Vj #[X,X] X.A (eval a X.env) (λv Z=>Vj #[X,X] X.A (eval b X.env) (λu s₂=>Vj #[X,X] X.A (f v u) Q X.xe s₂) X.xe Z) X.xe s:=by
 refine thn (ha oq s σ H _ I h) λv s1 zq=>?_;erw[zq,x,H1,I1,r1,q1];refine thn (O oq s1 σ H1 _ I1 q1) λu s2 zq=>?_;erw[zq,y,H2,I2,r2,q2];exact U v u s2 x y H2 I2 r1 r2 q2
def Qd {O:Hu}{r:R2}(U:OpR X (VN O) r)(ha:PE X a ta)(Z:PE X b tb):PE X (.BinOp a O b pos) (tOp r ta tb):=by
 exists 2,Q,I,h;exact wpAny_BinOp (AdG ha Z I h λv u s2 x y H2 I2 rx ry q=>U oq s2 σ H2 x y v u Q I2 rx ry q)
def Pi {O:UnaryOp}{r:V->Hp->VK->Prop}(U:UnR X (unaryOp O) r)(ha:PE X a ta):PE X (.UnaryOp O a pos) (tUn r ta):=by
 exists 2,Q,I,h;exact UnaryOp_ (thn (ha oq s σ H _ I h) λv s1 ⟨x,H1,Z,r1,q1⟩=>U oq s1 σ H1 x v Q Z r1 q1)
def opI {f:o6->o6->Sem o6}{C:Int->Int->Prop}{g:Int->Int->Int}
  (rule:∀(i j:Int) (t u:Tok) (s:o7) (Q:o6->o7->Prop) (E:o6->o7->Prop),C i j->Q (.int (g i j) s.toks) {s with toks:=s.toks+1}->Vj #[X,X] X.A (f (.int i t) (.int j u)) Q E s):
  OpR X f (rI C λi j=> .int (g i j)):=by
 exists 2,x,y,v,u,Q,I,O,U,h;erw[h,i,j,rfl,rfl,Z,q];erw[O,t,rfl];erw[U,t',rfl];exact rule i j t t' s _ _ Z (.int (g i j),H,I.tok _,⟨0⟩,q)
def Aed {f:o6->o6->Sem o6}{g:Int->Int->Int}
  (rule:∀(i j:Int) (t u:Tok) (s:o7) (Q:o6->o7->Prop) (E:o6->o7->Prop),Q (.int (g i j) s.toks) {s with toks:=s.toks+1}->Vj #[X,X] X.A (f (.int i t) (.int j u)) Q E s):
  OpR X f (rI0 λi j=> .int (g i j)):=by
 exists 2,x,y,v,u,Q,I,O,U,h;erw[h,i,j,rfl,rfl,q];erw[O,t,rfl];erw[U,t',rfl];exact rule i j t t' s _ _ (.int (g i j),H,I.tok _,⟨0⟩,q)
def AcJ {f:o6->o6->Sem o6}{g:Int->Int->Bool}
  (rule:∀(i j:Int) (t u:Tok) (s:o7) (Q:o6->o7->Prop) (E:o6->o7->Prop),Q (.bool (g i j)) s->Vj #[X,X] X.A (f (.int i t) (.int j u)) Q E s):
  OpR X f (rI0 λi j=> .bl (g i j)):=by
 exists 2,x,y,v,u,Q,I,O,U,h;erw[h,i,j,rfl,rfl,q];erw[O,t,rfl];erw[U,t',rfl];exact rule i j t t' s _ _ (.bl (g i j),H,I,1,q)
abbrev AeX (i j:Int):Prop:=0<j/\j<1073741824
abbrev AeW (i j:Int):Prop:=0<=j/\j<=1000000/\i.natAbs<2^64
abbrev AcM (i j:Int):Prop:=(-(2^64)<i/\i<2^64)\/(-(2^64)<j/\j<2^64)
def AcM.ok {i j:Int}(h:AcM i j):IntMulOk i j:=by
 rcases h with⟨h1,h2⟩|⟨h1,h2⟩
 .exact .of_left (Fv h1 h2)
 .exact .of_right (Fv h1 h2)
def yV:OpR X (VN .Add) (rI0 λi j=> .int (i+j)):=Aed λ_ _ _ _ _ _ _ q=>add_int q
def DZ:OpR X (VN .Sub) (rI0 λi j=> .int (i-j)):=Aed λ_ _ _ _ _ _ _ q=>sub_int q
def oF:OpR X (VN .Mult) (rI AcM λi j=> .int (i*j)):=opI λ_ _ _ _ _ _ _ O q=>mul_int q O.ok
def Pl:OpR X (VN .FloorDiv) (rI AeX λi j=> .int (i/j)):=opI λi j _ _ _ _ _ O q=>by
 let h1:(0:Int)<j:=O.1;let h2:j<1073741824:=O.2;exact floordiv_int () (by rwa[Int.fdiv_eq_ediv_of_nonneg i ()]) (.inl (PyProof.noPylong_small ()))
def kD:OpR X (VN .Mod) (rI (λ_ j=>0<j) λi j=> .int (i%j)):=opI λi j _ _ _ _ _ O q=>by
 let h1:(0:Int)<j:=O;exact mod_int' () (by rwa[Int.fmod_eq_emod_of_nonneg i ()])
def Abs:OpR X (VN .Pow) (rI AeW λi j=> .int (i^j.toNat)):=opI λ_ _ _ _ _ _ _ O q=>pow_int_small O.1 O.2.1 O.2.2 q
def unI {f:o6->Sem o6}{g:Int->Int}
  (rule:∀(i:Int) (t:Tok) (s:o7) (Q:o6->o7->Prop) (E:o6->o7->Prop),Q (.int (g i) s.toks) {s with toks:=s.toks+1}->Vj #[X,X] X.A (f (.int i t)) Q E s):
  UnR X f (rU λi=> .int (g i)):=by
 exists 2,x,v,Q,I,O,h;erw[h,i,rfl,q];erw[O,t,rfl];exact rule i t s _ _ (.int (g i),H,I.tok _,⟨0⟩,q)
def C6:UnR X (unaryOp .USub) (rU λi=> .int (-(i))):=unI λ_ _ _ _ _ q=>neg_int q
abbrev Ad4:V->V->Bool
 | .non,.non=>v_| .non,.int _=>v_| .int _,.non=>v_| .non,.bl _=>v_| .bl _,.non=>v_| .non,.str _=>v_| .str _,.non=>v_
 | .int _,.int _=>v_| .bl _,.bl _=>v_| .str _,.str _=>v_| .byt _,.byt _=>v_
 | .int _,.str _=>v_| .str _,.int _=>v_| .bl _,.str _=>v_| .str _,.bl _=>v_
 |_,_=>Vi
abbrev rEq:R2:=λx y H Q=>Ad4 x y=v_/\Q (.bl (decide (x=y))) H
abbrev rNe:R2:=λx y H Q=>Ad4 x y=v_/\Q (.bl (!(decide) (x=y))) H
def Iu {i j:Int}:decide (V.int i=V.int j)=(i==j):=by
 rw[vK];simp
def NR {i j:Bool}:decide (V.bl i=V.bl j)=(i==j):=by
 rw[vK];simp
def Ir {i j:Str}:decide (V.str i=V.str j)=(i==j):=by
 rw[vK];simp
def Iv {i j:Array UInt8}:decide (V.byt i=V.byt j)=(i.toList==j.toList):=by
 rw[vK];cases i;cases j;simp
variable {Q:VK}
def Ql {k O:Bool}(I:#[I])(q:Q (.bl k) H)(e:k=O):EP X oq σ Q (.bool O) s:=by
 subst e;exact(.bl k,H,I,1,q)
def QL:OpR X (Vs .Eq) rEq:=by
 exists 2,x,y,v,u,Q,I,Z,O,h;erw[h,U,q];cases x with
 |non=>
  cases Z;cases y with
  |non=>cases O;exact PySem.EqNone.eq_none_none (Ql I q (by simp))|bl j=>cases O;exact PySem.EqNone.eq_none_bool (Ql I q (by simp))|int j=>erw[O,t',rfl];exact PySem.EqNone.eq_none_int (Ql I q (by simp))|str j=>erw[O,t',rfl];exact PySem.EqNone.eq_none_str (Ql I q (by simp))|_=>exact A8 (show Vi=v_ from U) ub
 |bl i=>
  cases Z;cases y with
  |non=>cases O;exact PySem.EqNone.eq_bool_none (Ql I q (by simp))|bl j=>cases O;exact eq_bool (Ql I q NR)|str j=>erw[O,t',rfl];exact PySem.EqMixed.eq_bool_str (Ql I q (by simp))|_=>exact A8 (show Vi=v_ from U) ub
 |int i=>
  erw[Z,t,rfl];cases y with
  |non=>cases O;exact PySem.EqNone.eq_int_none (Ql I q (by simp))|int j=>erw[O,t',rfl];exact eq_int (Ql I q Iu)|str j=>erw[O,t',rfl];exact PySem.EqMixed.eq_int_str (Ql I q (by simp))|_=>exact A8 (show Vi=v_ from U) ub
 |str i=>
  erw[Z,t,rfl];cases y with
  |non=>cases O;exact PySem.EqNone.eq_str_none (Ql I q (by simp))|bl j=>cases O;exact PySem.EqMixed.eq_str_bool (Ql I q (by simp))|int j=>erw[O,t',rfl];exact PySem.EqMixed.eq_str_int (Ql I q (by simp))|str j=>erw[O,t',rfl];exact eq_str (Ql I q Ir)|_=>exact A8 (show Vi=v_ from U) ub
 |byt i=>
  erw[Z,t,rfl];cases y with
  |byt j=>erw[O,t',rfl];exact PySem.W.eq_bytes (Ql I q Iv)|_=>exact A8 (show Vi=v_ from U) ub
 |_=>cases y<;>exact A8 (show Vi=v_ from U) ub
def Aj:OpR X (Vs .NotEq) rNe:=by
 exists 2,x,y,v,u,Q,I,Z,O,h;erw[h,U,q];cases x with
 |non=>
  cases Z;cases y with
  |non=>cases O;exact PySem.EqNone.ne_none_none (Ql I q (by simp))|bl j=>cases O;exact PySem.EqNone.ne_none_bool (Ql I q (by simp))|int j=>erw[O,t',rfl];exact PySem.EqNone.ne_none_int (Ql I q (by simp))|str j=>erw[O,t',rfl];exact PySem.EqNone.ne_none_str (Ql I q (by simp))|_=>exact A8 (show Vi=v_ from U) ub
 |bl i=>
  cases Z;cases y with
  |non=>cases O;exact PySem.EqNone.ne_bool_none (Ql I q (by simp))|bl j=>cases O;exact ne_bool (Ql I q (A9 not NR))|str j=>erw[O,t',rfl];exact PySem.EqMixed.ne_bool_str (Ql I q (by simp))|_=>exact A8 (show Vi=v_ from U) ub
 |int i=>
  erw[Z,t,rfl];cases y with
  |non=>cases O;exact PySem.EqNone.ne_int_none (Ql I q (by simp))|int j=>erw[O,t',rfl];exact ne_int (Ql I q (A9 not Iu))|str j=>erw[O,t',rfl];exact PySem.EqMixed.ne_int_str (Ql I q (by simp))|_=>exact A8 (show Vi=v_ from U) ub
 |str i=>
  erw[Z,t,rfl];cases y with
  |non=>cases O;exact PySem.EqNone.ne_str_none (Ql I q (by simp))|bl j=>cases O;exact PySem.EqMixed.ne_str_bool (Ql I q (by simp))|int j=>erw[O,t',rfl];exact PySem.EqMixed.ne_str_int (Ql I q (by simp))|str j=>erw[O,t',rfl];exact ne_str (Ql I q (A9 not Ir))|_=>exact A8 (show Vi=v_ from U) ub
 |byt i=>
  erw[Z,t,rfl];cases y with
  |byt j=>erw[O,t',rfl];exact PySem.W.ne_bytes (Ql I q (A9 not Iv))|_=>exact A8 (show Vi=v_ from U) ub
 |_=>cases y<;>exact A8 (show Vi=v_ from U) ub
def D3:OpR X (Vs .Lt) (rI0 λi j=> .bl (decide (i<j))):=AcJ λ_ _ _ _ _ _ _ q=>lt_int q
def D4:OpR X (Vs .LtE) (rI0 λi j=> .bl (decide (i<=j))):=AcJ λ_ _ _ _ _ _ _ q=>le_int q
def oG:OpR X (Vs .Gt) (rI0 λi j=> .bl (decide (j<i))):=AcJ λ_ _ _ _ _ _ _ q=>gt_int q
def Adi:OpR X (Vs .GtE) (rI0 λi j=> .bl (decide (j<=i))):=AcJ λ_ _ _ _ _ _ _ q=>ge_int q
def D2:OpR X (Vs .Lt) (λx y H Q=>∃i j,x= .str i/\y= .str j/\Q (.bl (decide (i.cps.toList<j.cps.toList))) H):=by
 exists 2,x,y,v,u,Q,I,O,U,h;erw[h,i,j,rfl,rfl,q];erw[O,t,rfl];erw[U,t',rfl];exact lt_str (Ql I q rfl)
def D5:OpR X (Vs .In) (λx y H Q=>∃i j,x= .str i/\y= .str j/\Q (.bl (!(HA j i 0 ↑j 1).isEmpty)) H):=by
 exists 2,x,y,v,u,Q,I,O,U,h;erw[h,i,j,rfl,rfl,q];erw[O,t,rfl];erw[U,t',rfl];exact in_str (Ql I q rfl)
def yH:OpR X (Vs .Is) (λx y H Q=>y= .non/\Q (.bl (decide (x= .non))) H):=by
 exists 2,x,y,v,u,Q,I,O,U,h;erw[h,rfl,q];cases U;refine is_none_gen (Ql I q ?_);cases x<;>first
  |(cases O;rfl)
  |(erw[O,t,rfl];rfl)
def Ju:OpR X (Vs .IsNot) (λx y H Q=>y= .non/\Q (.bl (!(decide) (x= .non))) H):=by
 exists 2,x,y,v,u,Q,I,O,U,h;erw[h,rfl,q];cases U;refine isnot_none_gen (Ql I q ?_);cases x<;>first
  |(cases O;rfl)
  |(erw[O,t,rfl];rfl)
def qw (b:Expr){O:GV}(h:O≠ .In:=by decide)(h2:O≠ .NotIn:=by decide):Hh O b=false:=by
 let U:(O==CmpOp.In)=false:=by cases O<;>first|rfl|exact A8 rfl h
 let e2:(O==CmpOp.NotIn)=false:=by cases O<;>first|rfl|exact A8 rfl h2
 cases b<;>simp[Hh,U,e2]
def Qn {O:GV}{r:R2}(U:OpR X (Vs O) r)(ha:PE X a ta)(Z:PE X b tb)(hm:Hh O b=Vi):PE X (.Compare a [O] [b] pos) (tOp r ta tb):=by
 exists 2,Q,I,h;exact wpAny_Compare1 (AdG ha Z I h λv u s2 x y H2 I2 rx ry q=>U oq s2 σ H2 x y v u Q I2 rx ry q) hm
inductive Acu (Q:(Bool->Hp->Prop))(x:V)(H':Hp):Prop
 |mk (k:_)(_:x= .bl k)(_:Q k H')
abbrev AaC (t:TE):TT:=λσ H Q=>t σ H λx H'=>Acu Q x H'
def qp {O:GV}{r:R2}(U:OpR X (Vs O) r)(ha:PE X a ta)(Z:PE X b tb)(hm:Hh O b=Vi):PT X (.Compare a [O] [b] pos) (AaC (tOp r ta tb)):=by
 exists 2,Q,I,h;refine F_ (thn (ha oq s σ H _ I h) λv s1 ⟨x,H1,I1,r1,q1⟩=>thn (Z oq s1 σ H1 _ I1 q1) λu s2 ⟨y,H2,I2,r2,q2⟩=>
  thn (U oq s2 σ H2 x y v u _ I2 r1 r2 q2) λc s3 ⟨z,H3,I3,r3,k,e,q3⟩=>?_) hm
 subst e;cases r3;exact vA [H3:I3:q3]
abbrev AaM (r r':R2)(ta tb tc:TE):TE:=λσ H Q=>ta σ H λx H1=>tb σ H1 λy H2=>r x y H2 λz H3=>∃k,z= .bl k/\
 (if k=v_ then tc σ H3 λw' H4=>r' y w' H4 Q else Q (.bl Vi) H3)
def By {U O:GV}{r r':R2}(ho:OpR X (Vs U) r)(Z:OpR X (Vs O) r')(ha:PE X a ta)(hb:PE X b tb)(hc:PE X c tc)
  (hm:lastMarks [U,O] [b,c]=Vi):PT X (.Compare a [U,O] [b,c] pos) (AaC (AaM r r' ta tb tc)):=by
 exists 2,Q,I,h;refine isTrue_chain (thn (ha oq s σ H _ I h) λv s1 ⟨x,H1,I1,r1,q1⟩=>test_link (thn (hb oq s1 σ H1 _ I1 q1) λu s2 ⟨y,H2,I2,r2,q2⟩=>
  thn (ho oq s2 σ H2 x y v u _ I2 r1 r2 q2) λd s3 ⟨z,H3,I3,r3,k,e,q3⟩=>?_)) hm
 subst e;cases r3;refine vA ?_;cases k with
 |false=>
  erw[q3,k',e',q'];cases e';exact ite_ff [H3:I3:q']
 |true=>
  refine ite_tt (test_last (thn (hc oq s3 σ H3 _ I3 q3) λw' s4 ⟨z',H4,I4,r4,q4⟩=>thn (Z oq s4 σ H4 y z' u w' _ I4 r2 r4 q4) λd' s5 zq=>?_));erw[zq,z2,H5,I5,r5,k2,e2,q5];subst e2;cases r5;exact vA [H5:I5:q5]
abbrev Aek (K:o0)(x:V)(H:Hp)(k:Bool):Prop:=
 match x with
 | .non=>k=Vi| .bl b=>k=b| .int i=>k=(i !=0)| .str y=>↑y<=Vm/\k=((↑y:Int) !=0)| .byt y=>y.size<=Vm/\k=((y.size:Int) !=0)| .ref p=>(∃xs,SqL K H p xs/\k= !(xs.isEmpty))\/(∃xs,SqT K H p xs/\k= !(xs.isEmpty))\/∃kvs,H p=u_ (.dK kvs)/\k= !(kvs.isEmpty)|_=>False
def CN {κ:Type}{kvs:oj (κ×V)}{vs:oj (κ×o6)}(r:KV kvs vs):(!(vs.isEmpty))= !(kvs.isEmpty):=by
 cases r<;>rfl
variable {its:oj o6}
def kG (r:iq xs its):(!(its.toArray.isEmpty))= !(xs.isEmpty):=by
 cases r<;>simp
def ZS:(Vm:Nat)<2^63:=by rw[uE];decide
def Aax:AeT X (λx H Q=>∃k,Aek X.K x H k/\Q k H):=by
 exists 2,x,v,Q,I,Z,h;erw[h,k,e,q];let hl:=ZS;let hs:Vm=16777216:=uE;cases x with
 |non=>
  cases Z;let O:k=false:=e;subst O;exact truthy_none [H:I:q]
 |bl b=>
  cases Z;let O:k=b:=e;subst O;exact vA [H:I:q]
 |int i=>
  erw[Z,t,rfl];let O:k=(i !=0):=e;subst O;exact PySem.P.truthy_int [H:I:q]
 |str y=>
  erw[Z,t,rfl];obtain⟨hy,O⟩:↑y<=Vm/\k=((↑y:Int) !=0):=e;subst O;exact PySem.P.truthy_str () [H:I.tok _:q]
 |byt y=>
  erw[Z,t,rfl];obtain⟨hy,O⟩:y.size<=Vm/\k=((y.size:Int) !=0):=e;subst O;exact PySem.W.truthy_bytes () [H:I.tok _:q]
 |ref p=>
  cases Z;let O:(∃xs,SqL X.K H p xs/\k= !(xs.isEmpty))\/(∃xs,SqT X.K H p xs/\k= !(xs.isEmpty))\/∃kvs,H p=u_ (.dK kvs)/\k= !(kvs.isEmpty):=e;rcases O with⟨xs,hx,O⟩|⟨xs,hx,O⟩|⟨kvs,hx,O⟩
  .subst O;erw[I.list hx,its,r,pl,hz];let U:=↑r;exact wpAny_truthy_list pl.isList (by simp![uA];omega) ⟨H,I.tok _,by rwa[kG r]⟩
  .subst O;erw[I.tuple hx,its,r,pl,hz];let U:=↑r;exact truthy_tuple pl (by simp![uA];omega) ⟨H,I.tok _,by rwa[kG r]⟩
  .subst O;obtain⟨hz,hS,vs,r,m⟩:↑kvs<=Vm/\(p==VG)=Vi/\∃vs,KV kvs vs/\s.heap.DictOf (Qo X.prog X.w) p vs:=I.hok p _ hx;let U:↑kvs=↑vs:=Paired.length r;exact wpAny_truthy_dict hS m () ⟨H,I.tok _,by rwa[CN r]⟩
 |_=>exact(show False from e).elim
def Bx (ha:PE X a ta)(U:∀O,isTrue a X.env O=(do let v<-O;GJ a.pos;Gg [v] (truthy v))):
  PT X a (λσ H Q=>ta σ H λx H'=>∃k,Aek X.K x H' k/\Q k H'):=by
 exists 2,Q,I,h;exact p7 (thn (ha oq s σ H _ I h) λv s1 ⟨x,H1,Z,r1,q1⟩=>Aax oq s1 σ H1 x v Q Z r1 q1) (U _)
def Qv:OpR X (VN .Add) (λx y H Q=>∃i j,x= .str i/\y= .str j/\↑i+↑j<=Vm/\Q (.str (i++j)) H):=by
 exists 2,x,y,v,u,Q,I,O,U,h;erw[h,i,j,rfl,rfl,hz,q];erw[O,t,rfl];erw[U,t',rfl];exact vk (n:=1) I.tk (add_str (λt' tk htk=>(.str (i++j),H,I.tok _,⟨0⟩,q)) hz)
def jX {x:V}(r:iq [x] us):∃u,us= [u]/\ik x u:=by
 cases r with
 |cons O U=>cases U;exact[0:O]
def IX {x:V}(r:iq [x,y] us):∃u O,us= [u,O]/\ik x u/\ik y O:=by
 cases r with
 |cons U Z=>
  cases Z with
  |cons r3 r4=>cases r4;exact(_,0,U,r3)
def Ce:YN X (.builtin "abs") (λxs H Q=>∃i,xs= [.int i]/\Q (.int (if i<0 then-(i) else i)) H):=by
 exists 2,xs,us,Q,I,r,h;erw[h,i,rfl,q];erw[jX r,u,rfl,t,rfl];exact vk (n:=1) I.tk (call_abs_int λu tk htk=>(.int (if i<0 then-(i) else i),H,I.tok _,⟨0⟩,q))
def sI (U:X.calm=v_):YN X (.builtin "min") (λxs H Q=>∃i j,xs= [.int i,.int j]/\Q (.int (if j<i then j else i)) H):=by
 exists 2,xs,us,Q,I,r,h;erw[h,i,j,rfl,q];erw[IX r,u,Z,rfl,[t,rfl],[t',rfl]];refine vk (n:=1) I.tk (min_two_ints (I.ok.hd U) λh' tk k htk=>(_,H,I.kept k,?_,q));by_cases O:j<i
 .rw[A6 O,A6 O];exact⟨0⟩
 .rw[A4 O,A4 O];exact⟨0⟩
def IF:YN X (.type "int") (λxs H Q=>(∃i,xs= [.int i]/\Q (.int i) H)\/∃k,xs= [.bl k]/\Q (.int (if k then 1 else 0)) H):=by
 exists 2,xs,us,Q,I,r,h;rcases h with⟨i,rfl,q⟩|⟨k,rfl,q⟩
 .erw[jX r,u,rfl,t,rfl];exact call_int_int (.int i,H,I,⟨0⟩,q)
 .erw[jX r,u,rfl,O];cases O;exact call_int_bool (.int (if k then 1 else 0),H,I.tok _,⟨0⟩,q)
def J9:YN X (.type "str") (λxs H Q=>∃i,xs= [.int i]/\i.natAbs.log2<1920/\Q (.str (Vt i)) H):=by
 exists 2,xs,us,Q,I,r,h;erw[h,i,rfl,hz,q];erw[jX r,u,rfl,t,rfl];exact PySem.P.str_of_int hz (.str _,H,I.tok _,⟨0⟩,q)
def MI:YN X (.builtin "ord") (λxs H Q=>∃x,xs= [!x]/\↑x=1/\Q (.int (x.cps.getD 0 0:Nat)) H):=by
 exists 2,xs,us,Q,I,r,h;erw[h,x,rfl,hz,q];erw[jX r,u,rfl,t,rfl];exact ord_of_one hz (.int _,H,I.tok _,⟨0⟩,q)
abbrev AeV (K:o0)(x:V)(H:Hp)(n:Nat):Prop:=
 match x with
 | .str y=>↑y<=Vm/\n=↑y| .byt y=>y.size<=Vm/\n=y.size| .ref p=>(∃xs,SqL K H p xs/\n=↑xs)\/∃xs,SqT K H p xs/\n=↑xs|_=>False
def KO:YN X (.builtin "len") (λxs H Q=>∃x n,xs= [x]/\AeV X.K x H n/\Q (.int n) H):=by
 exists 2,xs,us,Q,I,r,h;erw[h,x,n,rfl,e,q];erw[jX r,u,rfl,Z];let hl:=ZS;let hs:Vm=16777216:=uE;cases x with
 |str y=>
  erw[Z,t,rfl];obtain⟨hy,U⟩:↑y<=Vm/\n=↑y:=e;subst U;exact len_str () (.int _,H,I.tok _,⟨0⟩,q)
 |byt y=>
  erw[Z,t,rfl];obtain⟨hy,U⟩:y.size<=Vm/\n=y.size:=e;subst U;exact PySem.W.len_bytes () (.int _,H,I.tok _,⟨0⟩,q)
 |ref p=>
  cases Z;let U:(∃xs,SqL X.K H p xs/\n=↑xs)\/∃xs,SqT X.K H p xs/\n=↑xs:=e;rcases U with⟨xs,hx,U⟩|⟨xs,hx,U⟩
  .subst U;erw[I.list hx,its,r',pl,hz];let O:=↑r';exact rc pl.isList (by simp![uA];omega) (.int ↑xs,H,I.tok _,⟨_,by simp![uA];rw[O]⟩,q)
  .subst U;erw[I.tuple hx,its,r',pl,hz];let O:=↑r';exact len_tuple pl (by simp![uA];omega) (.int ↑xs,H,I.tok _,⟨_,by simp![uA];rw[O]⟩,q)
 |_=>exact(show False from e).elim
end
structure Aaa (h:o8)(x dx C:o3)(mA:Str->om o6):Prop where
 obj:h.get? x=u_ (PySem.W.instObj C dx)
 ns:h.Ns1 dx mA
 ne:dx≠x
variable {dx:o3}
def ED {mA:Str->om o6}(n:h.Ns1 dx mA):∃od,h.get? dx=u_ od/\∀name,PySem.W.lookIn name od=u_ (mA name):=by
 erw[n,o,es,ep,U,hd,Z,_,hm];exists o,U,λname=>?_;let e:=hm name;unfold nsFind findBy at e;rw[<-Array.find?_toList] at e;unfold PySem.W.lookIn;rw[hd];dsimp only;split
 .rename_i y q
  rw[q] at e;exact A9 u_ e
 .rename_i q
  rw[q] at e;let a:es.toList.any (·.refKey)=false:=by
   rw[T4];intro y hy;erw[Z y (Array.mem_toList_iff.mp hy),z,t,O];simp[pc,O]
  let a':¬es.toList.any (·.refKey)=true:=by rw[a];exact ub
  rw[A4 a'];exact A9 u_ e
variable {C:o3}
def Aaa.look {x:o3}{mA:Str->om o6}(I:Aaa h x dx C mA):∃od,PySem.W.InstAt h x (PySem.W.instObj C dx) C (u_ od)/\∀name,PySem.W.lookIn name od=u_ (mA name):=
 let⟨od,ho,hl⟩:=ED I.ns
 [od:(I.obj,1,1,ho):hl]
section
variable {prog:o9}{w:og}{A:oh}{E:o6->o7->Prop}{s:o7}{K:o0}{x dx C f:o3}{mA:Str->om o6}{name:Str}{v:o6}
def SH {O:Bool}{Q:o6->o7->Prop}(X:K.In s.heap)(I:Aaa s.heap x dx C mA)(Z:PySem.W.plainGet K C name=v_)(hh:PySem.W.hasDictIn K C=v_)
  (ha:PySem.W.findIn K (-C) name=u_ U_) (hv:mA name=u_ v) (U:PySem.W.handedIn v=v_) (h:Q v {s with toks:=s.toks+1}):
  Vj #[w,w] A (Fi (-x) name O) Q E s:=by
 erw[I.look,od,J,hl];exact PySem.W.get_value X J (PySem.W.plainGet_of Z).1 (PySem.W.findObj_own hh ha rfl (by rw[hl,hv])) U h
def Mx {pl:Sem Bool}{Q:o6×oj o6->o7->Prop}(X:K.In s.heap)(I:Aaa s.heap x dx C mA)(O:PySem.W.plainGet K C name=v_)
  (U:PySem.W.findIn K (-C) name=u_ (u_ (-f))) (Z:PySem.W.isFn K (-f)=v_) (hv:mA name=U_) (h:Q (-f,[-x]) s):
  Vj #[w,w] A (GU (-x) name pl) Q E s:=by
 erw[I.look,od,J,hl];exact PySem.W.method_fn X J (PySem.W.plainGet_of O).1 (PySem.W.plainGet_of O).2 U (beq_iff_eq.mp Z) (by show(PySem.W.lookIn name od).map (·.isSome)=u_ Vi;rw[hl,hv];rfl) h
def OT {ns:oj Str}{Q:Unit->o7->Prop}(X:K.In s.heap)(I:Aaa s.heap x dx C mA)
  (hs:PySem.W.findIn K (-C) "__setattr__"=u_ (u_ (.builtin "object.__setattr__"))) (hp:PySem.W.plainOver K C=v_) (ht:PySem.W.takerIn K C name=u_ U_) (hh:PySem.W.hasDictIn K C=v_)
  (hw:PySem.Within mA ns) (hsz:↑ns<=Vm)
  (h:∀h',Aaa h' x dx C (λy=>if y=name then u_ v else mA y)->VW dx s.heap h'->Q GG {s with heap:=h',toks:=s.toks+2}):
  Vj #[w,w] A (setAttr (-x) name v) Q E s:=by
 erw[I.look,od,J,hl];refine PySem.W.set_plain X J hs (PySem.W.osa_open (s:={s with toks:=s.toks+1}) (r:=U_) X J hp ht λb=>?_)
 erw[PySem.W.any_some hh,cd,hc,Z];let hx:s.heap.get? x=u_ (-C,u_ dx,.plain,#[]):=I.obj;refine A7 (uD (A7 (A7 (wpAny_loadPart hx (A7 (PySem.W.Looks.here (s:={s with toks:=s.toks+1}) (PySem.W.looks_clsIn X hc) ?_))))))
 rw[Z];refine uD (a:=u_ dx) (A7 (uD (A7 ?_)));refine wpAny_nsSet1 (s:={s with toks:=s.toks+1}) I.ns λh' O U=>?_
 erw[O.count (PySem.Within.cons name v hw),oD,ae,af,aa,ac,ad];refine A7 (wpAny_lookBehind aa (by rw[ac];exact pastItsLine_dict (uY ad (by rw[uB];omega))) ?_)
 exact uD (h _ [(U.2 _ (U6 I.ne)).trans I.obj:O:I.ne] U)
def Mm {R:GP->o7->Prop}{vs:oj o6}{kw:oj (Str×o6)}(X:K.In s.heap)(hm:PySem.W.makesIn K C=v_)
  (hi:PySem.W.findIn K (-C) "__init__"=u_ (u_ (-f))) (O:PySem.W.typeIn K (-f)=u_ (.type "function"))
  (h:VS #[w,w] (A.under (.builtin "type.__call__" [.ref C::vs:kw])) (.call (-f) [.ref (#[0,s]+1)::vs:kw]) (PySem.W.InitBack (#[0,s]+1) R)
   {s with heap:=(s.heap.push PySem.W.emptyDict).push (PySem.W.instObj C #[0,s])}):
  VS #[w,w] A (.call (-C) [vs:kw]) R s:=by
 erw[s,U,g,d,t,os];exact PySem.W.make_core (PySem.W.makes_of X hm) (PySem.W.looks_findIn X hi) (λself=>PySem.W.bind_fn X self O) (.inl rfl) h
end
abbrev iK (f:Str)(v:V):oj (Str×V)->oj (Str×V)
 | []=> [(f,v)]|(g,x)::r=>if g=f then(g,v)::r else(g,x)::iK f v r
def qK (f g:Str)(v:V):∀fs:oj (Str×V),(iK f v fs).lookup g=if g=f then u_ v else fs.lookup g
 | []=>by
  show VI g [(f,v)]=_;by_cases h:g=f
  .let O:(g==f)=true:=beq_iff_eq.mpr h;simp![VI,O,A6 h]
  .let O:(g==f)=false:=beq_eq_false_iff_ne.mpr h;simp![VI,O,A4 h]
 |(k,x)::r=>by
  let Z:=qK f g v r;rw[show iK f v ((k,x)::r)=(if k=f then(k,v)::r else(k,x)::iK f v r) from rfl]
  by_cases U:k=f
  .rw[A6 U];by_cases h:g=k
   .let O:(g==k)=true:=beq_iff_eq.mpr h;simp![VI,O,A6 (h.trans U)]
   .let O:(g==k)=false:=beq_eq_false_iff_ne.mpr h;simp![VI,O,A4 (λe:g=f=>h (e.trans U.symm))]
  .rw[A4 U];by_cases h:g=k
   .let O:(g==k)=true:=beq_iff_eq.mpr h;simp![VI,O,A4 (λe:g=f=>U (h.symm.trans e))]
   .let O:(g==k)=false:=beq_eq_false_iff_ne.mpr h;simp![VI,O];exact Z
def wJ (f:Str)(v:V):∀fs:oj (Str×V),f>(iK f v fs).map (·.1)/\∀g,g>fs.map (·.1)->g>(iK f v fs).map (·.1)
 | []=>⟨by simp[iK],λg h=>by simp at h⟩|(k,x)::r=>by
  erw[wJ f v r,U,Z];rw[show iK f v ((k,x)::r)=(if k=f then(k,v)::r else(k,x)::iK f v r) from rfl]
  by_cases O:k=f
  .rw[A6 O];subst O;exact⟨by simp,λg h=>by simpa using h⟩
  .rw[A4 O];exists ?_,λg h=>?_
   .rw[uw];exact uh _ U
   .rw[uw] at h⊢;rcases Aa.mp h with e|e
    .exact Aa.mpr (.inl e)
    .exact uh _ (Z g e)
def WG (f:Str)(v:V):∀fs:oj (Str×V),↑(iK f v fs)<=↑fs+1
 | []=>by simp[iK]|(k,x)::r=>by
  let U:=WG f v r;rw[show iK f v ((k,x)::r)=(if k=f then(k,v)::r else(k,x)::iK f v r) from rfl]
  by_cases O:k=f
  .rw[A6 O,uB,uB];omega
  .rw[A4 O,uB,uB];omega
variable {v:V}
def nz.some_of {o:om o6}(r:nz (u_ v) o):∃u,o=u_ u/\ik v u:=by
 cases o with
 |none=>exact(show False from r).elim|some u=>exact[u:1:r]
def nz.qar {o:om o6}(r:nz U_ o):o=none:=by
 cases o with
 |none=>rfl|some u=>exact(show False from r).elim
def EZ (r:ik v u):PySem.W.handedIn u=true:=by
 cases v with
 |non=>cases(show u=Ge from r);rfl|bl b=>cases(show u=GQ b from r);rfl|int i=>obtain⟨t,e⟩:=(show∃t,u=GB i t from r);cases e;rfl|str x=>obtain⟨t,e⟩:=(show∃t,u=VJ x t from r);cases e;rfl|byt b=>obtain⟨t,e⟩:=(show∃t,u=RE b t from r);cases e;rfl|flt b=>obtain⟨t,e⟩:=(show∃t,u=tY b t from r);cases e;rfl|ref a=>cases(show u=Vo a from r);rfl|ty n=>cases(show u=Gr n from r);rfl
section
variable {P:o9}{w:og}{H H':Hp}{h h':o8}{a C dx:o3}{fs fs':oj (Str×V)}
def Kw (hok:HOk P w H h)(e:H a=u_ (.ins C dx fs)):∃mA,Aaa h a dx C mA/\(∀f,nz (fs.lookup f) (mA f))/\PySem.Within mA (fs.map (·.1))/\↑fs<=1000/\H dx=u_ (.own a):=by
 obtain⟨d,z,ne,ob,mA,n,r,q⟩:=(show yu P w H h a (.ins C dx fs) from hok a _ e)
 exact(mA,[ob:n:ne],r,q,z,d)
end
structure Cls (K:o0)(C:o3):Prop where
 pg:PySem.W.plainGet K C Ts=v_
 hd:PySem.W.hasDictIn K C=v_
 po:PySem.W.plainOver K C=v_
 sa:PySem.W.findIn K (-C) "__setattr__"=u_ (u_ (.builtin "object.__setattr__"))
def Cls.get (c:Cls K C)(f:Str):PySem.W.plainGet K C f=true:=c.pg
abbrev QM (K:o0)(C:o3)(f:Str):Prop:=PySem.W.findIn K (-C) f=u_ U_
def QM.taker {f:Str}(n:QM K C f):PySem.W.takerIn K C f=u_ none:=by
 unfold PySem.W.takerIn;rw[show PySem.W.findIn K (-C) f=u_ U_ from n]
 rfl
structure Aap (K:o0)(C:o3)(m:Str)(f:o3):Prop where
 at_:PySem.W.findIn K (-C) m=u_ (u_ (-f))
 fn:PySem.W.isFn K (-f)=v_
 kp:PySem.W.keepIn K (-f)=v_
section
variable {X:Cx}{oq:oj (o3×Obj)}{σ:St}{H:Hp}{s:o7}{a C dx:o3}{fs:oj (Str×V)}{f:Str}{v:V}{A:oh}{E:o6->o7->Prop}
def Kc {b:Bool}{Q:o6->o7->Prop}(I:#[I])(e:H a=u_ (.ins C dx fs))(c:Cls X.K C)(n:QM X.K C f)(l:fs.lookup f=u_ v)
  (h:∀u s',Inv X oq σ H s'->ik v u->Q u s'):Vj #[X,X] A (Fi (-a) f b) Q E s:=by
 erw[Kw I.hok e,mA,O,r,_,_,_];obtain⟨u,U,ru⟩:=nz.some_of (v:=v) (o:=mA f) (by rw[<-l];exact r f)
 exact SH I.kIn O (c.get f) c.hd n U (EZ ru) (h u _ (I.tok _) ru)
def Zj {m:Str}{g:o3}{pl:Sem Bool}{Q:o6×oj o6->o7->Prop}(I:#[I])(e:H a=u_ (.ins C dx fs))(c:Cls X.K C)(k:Aap X.K C m g)(l:fs.lookup m=U_)
  (h:Q (-g,[-a]) s):Vj #[X,X] A (GU (-a) m pl) Q E s:=by
 erw[Kw I.hok e,mA,O,r,_,_,_];let hn:mA m=none:=nz.qar (by rw[<-l];exact r m)
 exact Mx I.kIn O (c.get m) k.at_ k.fn hn h
def kE {y:V}{u:o6}{Q:Unit->o7->Prop}(I:#[I])(e:H a=u_ (.ins C dx fs))(c:Cls X.K C)(n:QM X.K C f)(hl:↑fs<1000)(ry:ik y u)
  (h:∀s',Inv X oq σ (upd H a (.ins C dx (iK f y fs))) s'->Q GG s'):Vj #[X,X] A (setAttr (-a) f u) Q E s:=by
 erw[Kw I.hok e,mA,O,r,wi,_,Z];let hz:(fs.map (·.1)).length<=sizeLine:=by rw[uc,uE];omega
 refine OT I.kIn O c.sa c.po n.taker c.hd wi hz λh' U sb=>h _ ?_;let hd:∃o,h'.get? dx=u_ o:=let⟨o,_,_,e',_⟩:=U.ns;[o:e'];refine I.write (x:=a) (e:=dx) (by rw[e];exact VP) (.inr Z) (λb q hb z=>(sb.2 b hb).trans z) hd ?_
 refine(by rwa[qj O.ne],?_,O.ne,U.obj,_,U.ns,λg=>?_,λg hg=>?_)
 .have:=WG f y fs;omega
 .show nz ((iK f y fs).lookup g) (if g=f then u_ u else mA g)
  rw[qK];by_cases q:g=f
  .rwa[A6 q,A6 q]
  .rw[A4 q,A4 q];exact r g
 .by_cases q:g=f
  .rw[q];exact(wJ f y fs).1
  .refine(wJ f y fs).2 g (wi g λz=>hg ?_);show(if g=f then u_ u else mA g)=U_
   rw[A4 q];exact z
def Inv.made (I:#[I]):Inv X oq σ (upd (upd H #[0,s] (.own (#[0,s]+1))) (#[0,s]+1) (.ins C #[0,s] []))
  {s with heap:=(s.heap.push PySem.W.emptyDict).push (PySem.W.instObj C #[0,s])}:=by
 let O:(s.heap.push PySem.W.emptyDict).get? #[0,s]=u_ PySem.W.emptyDict:=uH s.heap rfl;let e2:((s.heap.push PySem.W.emptyDict).push (PySem.W.instObj C #[0,s])).get? (#[0,s]+1)=u_ (PySem.W.instObj C #[0,s]):=by
  have:=uH (s.heap.push PySem.W.emptyDict) (o:=PySem.W.instObj C #[0,s]) rfl
  rwa[vv] at this
 let e3:(s.heap.push PySem.W.emptyDict).Ns #[0,s] (λ_=>U_):=(PySem.W.emptyDict,#[],_,O,1,(λe U=>A8 U (by simp)),λ_=>rfl)
 let Z:=I.laid (a:=#[0,s]) (o:= .own (#[0,s]+1)) (h':=s.heap.push PySem.W.emptyDict) (t':=s.toks) (λb u q=>ud _ q) (uq _) [_:O];refine Z.laid (a:=#[0,s]+1) (o:= .ins C #[0,s] []) (t':=s.toks) (λb u q=>ud _ q) (Ra (vv _ _)) ?_;let ne:#[0,s]≠#[0,s]+1:=vb (Va _);refine(by rw[qj ne,qg],vc _,ne,e2,λ_=>U_,(pO e3).at λo q=>ud _ q,λ_=>VP,λy hy=>A8 rfl hy)
def SZ {prog:o9}{w:og}{env:Env}{e:Expr}{f:Str}{pos:Pos}{s:o7}{Q:o6->o7->Prop}(O:GH e f env (eval e env)=eval e env)
  (h:Vj #[w,w] A (eval e env) (λo U=>Vj #[w,w] A (Fi o f v_) Q E U) E s):Vj #[w,w] A (eval (.Attribute e f pos) env) Q E s:=
 Attribute_any_ h (by rw[arm_eval_Attribute,O])
end
inductive AdO (K:PySem.W.Frag)(f:Str)(Q:VK)(x:V)(H1:Hp):Prop
 |mk (a:_)(C:_)(dx:_)(fs:_)(v:_)(_:x=-a)(_:H1 a=u_ (.ins C dx fs))(_:Cls K C)(_:QM K C f)(_:fs.lookup f=u_ v)(_:Q v H1)
abbrev AcZ (K:o0)(ta:TE)(f:Str):TE:=λσ H Q=>ta σ H λx H1=>AdO K f Q x H1
inductive AdQ (K:PySem.W.Frag)(f:Str)(D:nc)(σ:St)(y:V)(x:V)(H2:Hp):Prop
 |mk (a:_)(C:_)(dx:_)(fs:_)(_:x=-a)(_:H2 a=u_ (.ins C dx fs))(_:Cls K C)(_:QM K C f)(_:↑fs<1000)(_:D.nx σ (upd H2 a (.ins C dx (iK f y fs))))
abbrev AeA (K:o0)(ta tv:TE)(f:Str):TS:=λD σ H=>tv σ H λy H1=>ta σ H1 λx H2=>AdQ K f D σ y x H2
abbrev Aeo (X:Cx)(op:Hu)(rd:V->V->Hp->VK->Prop):Prop:=
 ∀(oq:oj (o3×Obj)) (s:o7) (σ:St) (H:Hp) (x y:V) (u v:o6) (Q:VK),#[I]->ik x u->ik y v->rd x y H Q->Vj #[X,X] X.A (TN op u v) (EP X oq σ Q) X.xe s
inductive MR (K:PySem.W.Frag)(tv:TE)(rd:V->V->Hp->VK->Prop)(f:Str)(D:nc)(σ:St)(x:V)(H1:Hp):Prop
 |mk (a:_)(C:_)(dx:_)(fs:_)(v:_)(_:x=-a)(_:H1 a=u_ (.ins C dx fs))(_:Cls K C)(_:QM K C f)(_:fs.lookup f=u_ v)(_:tv σ H1 λy H2=>rd v y H2 λz H3=>∃dx' fs',H3 a=u_ (.ins C dx' fs')/\↑fs'<1000/\D.nx σ (upd H3 a (.ins C dx' (iK f z fs'))))
abbrev OV (K:o0)(ta tv:TE)(rd:V->V->Hp->VK->Prop)(f:Str):TS:=λD σ H=>ta σ H λx H1=>MR K tv rd f D σ x H1
section
variable {X:Cx}{o e value:Expr}{f:Str}{pos pos' tpos:Pos}{ta tv:TE}
def qP (O:PE X e ta)(U:GH e f X.env (eval e X.env)=eval e X.env):PE X (.Attribute e f pos) (AcZ X.K ta f):=by
 exists 2,Q,I,h;refine SZ U (thn (O oq s σ H _ I h) λu s1 zq=>?_);erw[zq,x,H1,Z,rx,a,C,dx,fs,v,ex,ea,c,n,l,q];subst ex;obtain rfl:u=Vo a:=rx;exact Kc Z ea c n l λu' s2 I2 ru=>(v,H1,I2,ru,q)
def Qh (ha:PE X o ta)(O:PE X value tv)(U:He value (u_ (.Attribute o f pos')) pos.line X.env=pure Vi):PS X (.Assign [.Attribute o f pos'] value pos) (AeA X.K ta tv f):=by
 exists 2,D,I,h;refine plainObj_wpAny_Assign_Attribute (thn (O oq s σ H _ I h) λu s1 ⟨y,H1,Z,ry,q⟩=>thn (ha oq s1 σ H1 _ Z q) λov s2 zq=>?_) U;erw[zq,x,H2,I2,rx,a,C,dx,fs,ex,ea,c,n,l,q2];subst ex;obtain rfl:ov=Vo a:=rx;exact kE I2 ea c n l ry λs3 I3=>(σ,_,I3,q2)
def JE {Z:Hu}{rd:V->V->Hp->VK->Prop}(ha:PE X o ta)(hv:PE X value tv)(O:Aeo X Z rd):PS X (.AugAssign (.Attribute o f tpos) Z value pos) (OV X.K ta tv rd f):=by
 exists 2,D,I,h;refine wpAny_AugAssign_AttributeAny (thn (ha oq s σ H _ I h) λov s1 zq=>?_);erw[zq,x,H1,I1,rx,a,C,dx,fs,v,ex,ea,c,n,l,q];subst ex;obtain rfl:ov=Vo a:=rx;refine Kc I1 ea c n l λu s2 I2 ru=>thn (hv oq s2 σ H1 _ I2 q) λw3 s3 ⟨y,H2,I3,ry,q3⟩=>thn (O oq s3 σ H2 v y u w3 _ I3 ru ry q3) λw4 s4 zq=>?_;erw[zq,z,H3,I4,rz,dx',fs',U,l',q4];exact kE I4 U c n l' rz λs5 I5=>(σ,_,I5,q4)
inductive AeJ (x:V)(y:V)(H:Hp)(Q:VK):Prop
 |mk (i:_)(j:_)(_:x= .int i)(_:y= .int j)(_:Q (.int (i+j)) H)
def sj:Aeo X .Add AeJ:=by
 rintro oq s σ H x y u v Q I O U ⟨i,j,rfl,rfl,q⟩;obtain⟨t,rfl⟩:=(show∃t,u=GB i t from O)
 obtain⟨t',rfl⟩:=(show∃t',v=GB j t' from U)
 exact pf (.int (i+j),H,I.tok _,⟨0⟩,q)
end
section
variable {X:Cx}{oq:oj (o3×Obj)}{σ:St}{H:Hp}{s:o7}{A:oh}{E:o6->o7->Prop}{Q:o6->o7->Prop}{c:o6}{b:Bool}
inductive Ci (K:PySem.W.Frag)(H:Hp):V->Value->Prop where
 |non:Ci K H .non (.type "NoneType")
 |bl (x:Bool):Ci K H (.bl x) (.type "bool")
 |int (i:Int):Ci K H (.int i) (.type "int")
 |str (x:Str):Ci K H (!x) (.type "str")
 |flt (x:UInt64):Ci K H (.flt x) (.type "float")
 |lst {a:Addr}{xs:List V}(e:H a=u_ (.lst xs)):Ci K H (-a) (.type "list")
 |frz {a:Addr}{o:Obj}{xs:List V}(e:H a=u_ (.frz o (.lst xs))):Ci K H (-a) (.type "list")
 |tup {a:Addr}{xs:List V}(e:H a=u_ (¬xs)):Ci K H (-a) (.type "tuple")
 |dK {a:Addr}{kvs:List (Key×V)}(e:H a=u_ (.dK kvs)):Ci K H (-a) (.type "dict")
 |dT {a:Addr}{kvs:List (List Key×V)}(e:H a=u_ (.dT kvs)):Ci K H (-a) (.type "dict")
 |ins {a C dx:Addr}{fs:List (Str×V)}(e:H a=u_ (.ins C dx fs))(cl:Cls K C)(ha:PySem.W.findIn K (-C) "__class__"=u_ (u_ (.builtin "object.__class__")))
   (hn:PySem.W.specialIn K (.builtin "object.__class__") "__get__"=u_ (u_ (.builtin "getset_descriptor.__get__"))) (htk:PySem.W.takesIn K (.builtin "object.__class__")=u_ v_)
   (hm:PySem.W.mroIn K C (.type "object")=u_ v_):Ci K H (-a) (-C)
def EQ {x:V}{t:o6}(I:#[I])(U:ik x u)(ty:Ci X.K H x t)(e:PySem.W.kitOne X.K t c=u_ b)(h:∀tk,Q (.bool b) {s with toks:=tk}):
  Vj #[X,X] A (call (.builtin "isinstance") [u,c]) Q E s:=by
 cases ty with
 |non=>cases(show u=Ge from U);exact vC PySem.W.kitx_none I.kIn VP e (λz=>nomatch z) h|bl y=>cases(show u=GQ y from U);exact vC PySem.W.kitx_bool I.kIn VP e (λz=>nomatch z) h|int i=>obtain⟨t,q⟩:=(show∃t,u=GB i t from U);cases q;exact vC PySem.W.kitx_int I.kIn VP e (λz=>nomatch z) h|str y=>obtain⟨t,q⟩:=(show∃t,u=VJ y t from U);cases q;exact vC PySem.W.kitx_str I.kIn VP e (λz=>nomatch z) h|flt y=>obtain⟨t,q⟩:=(show∃t,u=tY y t from U);cases q;exact vC PySem.W.kitx_float I.kIn VP e (λz=>nomatch z) h| @lst a xs ea=>
  cases(show u=Vo a from U)
  obtain⟨_,_,n,_,h1⟩:=(show yu X.prog X.w H s.heap a (.lst xs) from I.hok a _ ea)
  exact vC PySem.W.kitx_list I.kIn [_:h1:1] e (λz=>nomatch z) h
 | @frz a ob xs ea=>
  cases(show u=Vo a from U)
  obtain⟨_,_,_,n,_,h1⟩:=(show yu X.prog X.w H s.heap a (.frz ob (.lst xs)) from I.hok a _ ea)
  exact vC PySem.W.kitx_list I.kIn [_:h1:1] e (λz=>nomatch z) h
 | @tup a xs ea=>
  cases(show u=Vo a from U)
  obtain⟨_,_,_,p⟩:=(show yu X.prog X.w H s.heap a (¬xs) from I.hok a _ ea)
  erw[p,o,h1,h2,_];exact vC PySem.W.kitx_tuple I.kIn [o:h1:h2] e (λz=>nomatch z) h
 | @dK a kvs ea=>
  cases(show u=Vo a from U)
  obtain⟨_,_,vs,_,p⟩:=(show yu X.prog X.w H s.heap a (.dK kvs) from I.hok a _ ea)
  erw[p,o,es,ep,h1,h2,_];exact vC PySem.W.kitx_dict I.kIn [o:h1:h2.1] e (λz=>nomatch z) h
 | @dT a kvs ea=>
  cases(show u=Vo a from U)
  obtain⟨_,_,xs,_,o,es,ep,h1,h2,_⟩:=(show yu X.prog X.w H s.heap a (.dT kvs) from I.hok a _ ea)
  exact vC PySem.W.kitx_dict I.kIn [o:h1:h2.1] e (λz=>nomatch z) h
 | @ins a C dx fs ea cl ha hn htk hm=>
  cases(show u=Vo a from U)
  erw[Kw I.hok ea,mA,O,_];erw[O.look,od,J,_];exact vC (PySem.W.kitx_own (cl.get _) cl.hd ha hn htk hm) I.kIn J e (λz=>nomatch z) h
end
structure mD (k:Nat)(A:oh):Prop where
 hd:A.handled=U_
 dp:A.depth+3*k+5<recursionLimit
 un:A.units+16*k+200<Vr
variable {j:Nat}
def mD.mono {k:Nat}(r:mD k A)(h:j<=k):mD j A:=⟨r.hd,by have:=r.dp;omega,by have:=r.un;omega⟩
def mD.deeper {k:Nat}(r:mD (k+1) A)(env:Env):mD k (A.deeper env):=
 ⟨r.hd,by have:=r.dp;show A.depth+1+3*k+5<_;omega,by have:=r.un;show A.units+3+16*k+200<_;omega⟩
def CK {kw:oj (Str×o6)}:(A.under (.builtin "type.__call__" [.ref C::us:kw])).depth=A.depth+1:=by
 first|rfl|simp[To,Code.weight,Code.isCreation,Code.isGuard,Code.isCaller,RX,tV,guardIds]
def CJ {kw:oj (Str×o6)}:(A.under (.builtin "type.__call__" [.ref C::us:kw])).units=A.units+1:=by
 first|rfl|simp[To,Code.cUnits,RX,tV]
def mD.make {k:Nat}(r:mD (k+1) A)(C:o3)(us:oj o6)(kw:oj (Str×o6)):mD k (A.under (.builtin "type.__call__" [.ref C::us:kw])):=
 ⟨r.hd,by have:=r.dp;rw[CK];omega,by have:=r.un;rw[CJ];omega⟩
def mD.depth {k:Nat}(r:mD k A):A.depth<recursionLimit:=by have:=r.dp;omega
def mD.units {k:Nat}(r:mD k A):A.units+64<cLine:=by have:=r.un;omega
def mD.units0 {k:Nat}(r:mD k A):A.units<cLine:=by have:=r.un;omega
abbrev AaE:TA:=λ_ H Q=>Q [] H
abbrev Lc (ta:TE)(tr:TA):TA:=λσ H Q=>ta σ H λx H1=>tr σ H1 λxs H2=>Q (x::xs) H2
section
variable {X:Cx}{e:Expr}{es:oj Expr}{te:TE}{t:TA}{pos:Pos}
def qd:PA X [] AaE:=λ_ _ _ _ H Q I h=>V3 ([],H,I,.nil,h)
def qb (ha:PE X e te)(O:PA X es t)(U:Vn (e::es) X.env=(Vi,eval e X.env)::Vn es X.env:=by rfl):PA X (e::es) (Lc te t):=by
 intro pos oq s σ H Q I h;rw[U];show Vj _ _ (spliced ((Vi,eval e X.env)::Vv pos (Vn es X.env))) _ _ s;refine Ur (thn (ha oq s σ H _ I h) λu s1 zq=>?_);erw[zq,x,H1,Z,r1,q1];exact thn (O pos oq s1 σ H1 _ Z q1) λus s2 ⟨xs,H2,I2,r2,q2⟩=>(x::xs,H2,I2,.cons r1 r2,q2)
abbrev Aeq (t:TA):TE:=λσ H Q=>t σ H λxs H1=>↑xs<=Vm/\∀p,H1 p=U_->Q (-p) (upd H1 p (¬xs))
abbrev Aev (t:TA):TE:=λσ H Q=>t σ H λxs H1=>↑xs<=Vm/\∀p,H1 p=U_->Q (-p) (upd H1 p (.lst xs))
def qI {x1}(h:PA X es t):PE X (.Tuple es x1 pos) (Aeq t):=by
 exists 2,Q,I,U;refine wpAny_Tuple_spliced (thn (h pos oq s σ H _ I U) λus s1 ⟨xs,H1,O,r,z,q⟩=>⟨by rwa[<-↑r],?_⟩)
 let Z:H1 #[0,s1]=none:=O.hok.fresh (uq _);exists .ref #[0,s1],upd H1 #[0,s1] (¬xs),O.laid (t':=s1.toks) (λb u e=>ud _ e) (uq _) ?_,1,q _ Z;exact(z,us,r,(_,uH _ rfl,1,0))
def Q0 (h:PA X es t):PE X (.List es pos) (Aev t):=by
 exists 2,Q,I,U;refine wpAny_List_spliced (thn (h pos oq s σ H _ I U) λus s1 ⟨xs,H1,O,r,z,q⟩=>⟨by rwa[<-↑r],?_⟩)
 let Z:H1 #[0,s1]=none:=O.hok.fresh (uq _);exists .ref #[0,s1],upd H1 #[0,s1] (.lst xs),O.laid (t':=s1.toks) (λb u e=>ud _ e) (uq _) ?_,1,q _ Z;exact(z,us,(0),r,uH _ rfl)
end
nonrec abbrev Sp:=oj V->Hp->VK->XK->Prop
nonrec abbrev CXT:=oj Env->Hp->o7->XK->o6->o7->Prop
structure Aai (P:o9)(w:og)(K:o0)(mg:Str->om o6)(base:o8)(A:oh)(outer:oj Env)(s:o7)(H:Hp):Prop where
 frames:A.frames=u_ outer
 mod:Mod K mg base
 bs:∀b o,base.get? b=u_ o->s.heap.get? b=u_ o/\H b=U_
 bsz:base.objs.size<=#[0,s]
 funs:s.heap.FunFrames base outer
 frf:∀b>frs outer,H b=U_
 hok:HOk P w H s.heap
 bare:gV s.gens
abbrev CE (outer:oj Env)(P:o9)(w:og)(H:Hp)(s:o7)(Q:VK)(u:o6)(s':o7):Prop:=
 ∃v H',s'.os=s.os/\gV s'.gens/\0<s'.toks/\Un (frs outer) [] H H' s.heap s'.heap/\HOk P w H' s'.heap/\ik v u/\Q v H'
abbrev CR (CX:CXT)(outer:oj Env)(P:o9)(w:og)(H:Hp)(s:o7)(Q:VK)(E:XK)(r:GP)(s':o7):Prop:=
 match r with
 | .ok (.ret u)=>CE outer P w H s Q u s'| .ok _=>False| .error e=>CX outer H s E e s'
structure FnOk (P:o9)(w:og)(K:o0)(mg:Str->om o6)(base:o8)(CX:CXT)(k:Nat)(f:o3)(fd:Vk)(ps:oj Str)(sp:Sp):Prop where
 len:∀vs H Q E,sp vs H Q E->↑vs=↑ps
 run:∀(A:oh) (outer:oj Env) (s:o7) (H:Hp) (args:Args) (us:oj o6) (vs:oj V) (Q:VK) (E:XK),mD k A->Aai P w K mg base A outer s H->hZ s fd args (ps.zip us)->iq vs us->sp vs H Q E->(0<s.toks\/∃x r,ps=x::r/\fd.scope.names.lookup x=u_ .local)->
  VS (Vz P w) A (.call (-f) args) (CR CX outer P w H s Q E) s
variable {mg:Str->om o6}{base:o8}
def Aai.make {P:o9}{outer:oj Env}(e:Aai P w K mg base A outer s H)(C:o3)(us:oj o6)(kw:oj (Str×o6)):
  Aai P w K mg base (A.under (.builtin "type.__call__" [.ref C::us:kw])) outer s H:=(by first|exact e.frames|(simpa [To,Code.envs,tV,pushEnvs] using e.frames),e.mod,e.bs,e.bsz,e.funs,e.frf,e.hok,e.bare)
section
variable {X:Cx}{oq:oj (o3×Obj)}{σ:St}{H:Hp}{s s':o7}
def Inv.env0 (I:#[I]):Aai X.prog X.w X.K X.mg X.base X.A X.stack s H:=
 (I.ok.frames,I.ok.mod,I.bs,uY I.ok.bsz I.sz,I.stack,I.stkFree,I.hok,I.bare)
variable {Q:VK}
def Inv.after (I:#[I])(h:CE X.stack X.prog X.w H s Q u s'):EP X oq σ Q u s':=by
 erw[h,v,H',os,bare,htk,un,hok,r,q];erw[s',U,g,d,t,O];obtain rfl:O=s.os:=os;exact(v,H',I.call (h':=U) (g':=g) (d':=d) (t':=t) (ch:= []) un hok bare (λb z=>A8 z (by simp)),r,q)
end
abbrev Ac3 (sp:Sp)(dvs:oj V)(E:XK)(t:TA):TE:=λσ H Q=>t σ H λvs H1=>sp (vs++dvs) H1 Q E
inductive Acy (C:Addr)(m:Str)(sp:Sp)(dvs:List V)(E:XK)(t:TA)(σ:St)(Q:VK)(x:V)(H1:Hp):Prop
 |mk (a:_)(dx:_)(fs:_)(_:x=-a)(_:H1 a=u_ (.ins C dx fs))(_:fs.lookup m=U_)(_:t σ H1 λvs H2=>sp (x::(vs++dvs)) H2 Q E)
abbrev AaH (C:o3)(m:Str)(sp:Sp)(dvs:oj V)(E:XK)(ta:TE)(t:TA):TE:=λσ H Q=>ta σ H λx H1=>Acy C m sp dvs E t σ Q x H1
abbrev AcY (C:o3)(sp:Sp)(dvs:oj V)(E:XK)(t:TA):TE:=λσ H Q=>t σ H λvs H1=>∀x dx,H1 x=U_->H1 dx=U_->dx≠x->
 sp (.ref x::(vs++dvs)) (upd (upd H1 dx (.own x)) x (.ins C dx [])) (λv H2=>v= .non/\Q (-x) H2) E
abbrev Xe (K:o0)(fd:Vk)(ps:oj Str)(ds:oj o6):Prop:=
 ∀(s:o7) (us:oj o6),K.In s.heap->↑(us++ds)=↑ps->hZ s fd [us:[]] (ps.zip (us++ds))
variable {fd:Vk}
def Xe.all {ps:oj Str}(h:∀us:oj o6,↑us=↑ps->Gz fd [us:[]]=pure (ps.zip us)):Xe K fd ps []:=λs us _ O=>by
 rw[uU] at O⊢;exact .of_eq (h us O)
abbrev XS (CX:CXT)(X:Cx)(E:XK):Prop:=∀(oq:oj (o3×Obj)) (σ:St) (H:Hp) (s:o7) (e:o6) (s':o7),#[I]->CX X.stack H s E e s'->X.xe e s'
section
variable {X:Cx}{CX:CXT}{k:Nat}{f C:o3}{fd:Vk}{ps:oj Str}{sp:Sp}{dvs:oj V}{ds:oj o6}{E:XK}{x m:Str}{p pos apos:Pos}{e o:Expr}{es:oj Expr}{ta:TE}{t:TA}
def Bp {oq:oj (o3×Obj)}{σ:St}{H:Hp}{s:o7}{Q:VK}{us:oj o6}{vs:oj V}(F:FnOk X.prog X.w X.K X.mg X.base CX k f fd ps sp)(Z:mD k X.A)(hb:Xe X.K fd ps ds)(hd:iq dvs ds)(hx:XS CX X E)
  (I:#[I]) (r:iq vs us) (h:sp (vs++dvs) H Q E):Vj #[X,X] X.A (call (-f) us) (EP X oq σ Q) X.xe s:=by
 let U:iq (vs++dvs) (us++ds):=r.append hd;let hl:↑(us++ds)=↑ps:=by rw[<-↑U];exact F.len _ _ _ _ h
 refine Hl (Uy (F.run X.A X.stack s H [us:[]] (us++ds) (vs++dvs) Q E Z I.env0 (hb s us I.kIn hl) U h (.inl I.tk)) λr s' O=>?_);cases r with
 |error e=>exact hx oq σ H s e s' I O|ok fl=>
  cases fl with
  |ret u=>exact I.after O|next=>exact VA O|brk=>exact VA O|cont=>exact VA O
def qq (F:FnOk X.prog X.w X.K X.mg X.base CX k f fd ps sp)(hr:mD k X.A)(hg:Gl X x)(hm:X.mg x=u_ (-f))(hk:PySem.W.keepIn X.K (-f)=v_)(hb:Xe X.K fd ps ds)(hd:iq dvs ds)(hx:XS CX X E)
  (ha:PA X (e::es) t) (O:(x==("__debug__":Str))=Vi) (he:Vn (e::es) X.env=(Vi,eval e X.env)::Vn es X.env) (U:(Vv pos (Vn es X.env)).any (·.1)=Vi):
  PE X (.Call (.Name x p) (e::es) [] pos) (Ac3 sp dvs E t):=by
 exists 2,Q,I,h;refine UP (wL I hg hm ?_ O);refine Us (h₀:=X.base) I.ok.mod.kin hk (thn (ha pos oq s σ H _ I h) λus s1 ⟨vs,H1,Z,r,q⟩=>[Z.kIn:?_]) he U;exact Bp F hr hb hd hx Z r q
def Qk {pl:Sem Bool}(he:PE X o ta)(c:Cls X.K C)(hm:Aap X.K C m f)(F:FnOk X.prog X.w X.K X.mg X.base CX k f fd ps sp)(hr:mD k X.A)(hb:Xe X.K fd ps ds)(hd:iq dvs ds)(hx:XS CX X E)(ha:PA X (e::es) t)
  (O:Vn (e::es) X.env=(Vi,eval e X.env)::Vn es X.env) (U:(Vv pos (Vn es X.env)).any (·.1)=Vi)
  (ht:eval (.Call (.Attribute o m apos) (e::es) [] pos) X.env=(do
   let ov<-eval o X.env
   GJ apos.atName
   let(f,first)<-Gg [ov] (GU ov m pl)
   Hn pos f first (Vv pos (Vn (e::es) X.env)) (Gn pos (Gm [] X.env)))):
  PE X (.Call (.Attribute o m apos) (e::es) [] pos) (AaH C m sp dvs E ta t):=by
 exists 2,Q,I,h;refine PySem.W.methodCall_KW (pl:=pl) (thn (he oq s σ H _ I h) λu s1 zq=>?_) ht;erw[zq,x,H1,Z,rx,a,dx,fs,ex,ea,l,q];subst ex;obtain rfl:u=Vo a:=rx;refine Zj Z ea c hm l ?_;refine Us (first:= [-a]) (h₀:=X.base) I.ok.mod.kin hm.kp (thn (ha pos oq s1 σ H1 _ Z q) λus s2 ⟨vs,H2,I2,r,q2⟩=>[I2.kIn:?_]) O U;exact Bp (us:= .ref a::us) (vs:= .ref a::vs) F hr hb hd hx I2 (.cons rfl r) q2
def QK {pl:Sem Bool}(U:PE X o ta)(c:Cls X.K C)(hm:Aap X.K C m f)(F:FnOk X.prog X.w X.K X.mg X.base CX k f fd ps sp)(Z:mD k X.A)(hb:Xe X.K fd ps ds)(hd:iq dvs ds)(hx:XS CX X E)
  (ht:eval (.Call (.Attribute o m apos) [] [] pos) X.env=(do
   let ov<-eval o X.env
   GJ apos.atName
   let(f,first)<-Gg [ov] (GU ov m pl)
   Hn pos f first (Vv pos (Vn [] X.env)) (Gn pos (Gm [] X.env)))):
  PE X (.Call (.Attribute o m apos) [] [] pos) (AaH C m sp dvs E ta AaE):=by
 exists 2,Q,I,h;refine PySem.W.methodCall_KW (pl:=pl) (thn (U oq s σ H _ I h) λu s1 zq=>?_) ht;erw[zq,x,H1,O,rx,a,dx,fs,ex,ea,l,q];subst ex;obtain rfl:u=Vo a:=rx;refine Zj O ea c hm l ?_;exact PySem.W.callWith_K0 (first:= [-a]) O.kIn hm.kp (Bp (us:= [-a]) (vs:= [-a]) F Z hb hd hx O (.cons rfl .nil) q)
structure Mk (K:o0)(C f:o3):Prop where
 makes:PySem.W.makesIn K C=v_
 init:PySem.W.findIn K (-C) "__init__"=u_ (u_ (-f))
 fn:PySem.W.isFn K (-f)=v_
 kp:PySem.W.keepIn K (-C)=v_
def LC {oq:oj (o3×Obj)}{σ:St}{H:Hp}{s:o7}{Q:VK}{us:oj o6}{vs:oj V}(M:Mk X.K C f)(F:FnOk X.prog X.w X.K X.mg X.base CX k f fd ps sp)(hr:mD (k+1) X.A)(hb:Xe X.K fd ps ds)(hd:iq dvs ds)
  (hx:XS CX X E) (I:#[I]) (r:iq vs us)
  (h:∀x dx,H x=U_->H dx=U_->dx≠x->sp (.ref x::(vs++dvs)) (upd (upd H dx (.own x)) x (.ins C dx [])) (λv H2=>v= .non/\Q (-x) H2) E):
  Vj #[X,X] X.A (call (-C) us) (EP X oq σ Q) X.xe s:=by
 let Z:=h (#[0,s]+1) #[0,s] (I.hok.fresh (Hz _)) (I.hok.fresh (uq _)) (vb (Va _));let U:=Inv.made (C:=C) I;let r2:iq (V.ref (#[0,s]+1)::(vs++dvs)) (Vo (#[0,s]+1)::(us++ds)):= .cons rfl (r.append hd);let hl:↑(Vo (#[0,s]+1)::us++ds)=↑ps:=by
  let e:=↑r2;rw[F.len _ _ _ _ Z] at e;exact e.symm
 refine Hl (Mm (f:=f) I.kIn M.makes M.init (beq_iff_eq.mp M.fn) (Uy (F.run _ X.stack _ _ [Vo (#[0,s]+1)::us:[]] (Vo (#[0,s]+1)::(us++ds)) _ _ E (hr.make C us [])
  (U.env0.make C us []) (hb _ (Vo (#[0,s]+1)::us) U.kIn hl) r2 Z (.inl U.tk)) λr s' O=>?_))
 cases r with
 |error e=>exact hx oq σ _ _ e s' U O|ok fl=>
  cases fl with
  |ret u=>
   erw[U.after O,v,H',I3,rv,ev,q3];subst ev;exact[rv:(V.ref (#[0,s]+1),H',I3,1,q3)]
  |next=>exact VA O|brk=>exact VA O|cont=>exact VA O
def zK (M:Mk X.K C f)(F:FnOk X.prog X.w X.K X.mg X.base CX k f fd ps sp)(hr:mD (k+1) X.A)(hg:Gl X x)(hm:X.mg x=u_ (-C))(hb:Xe X.K fd ps ds)(hd:iq dvs ds)(hx:XS CX X E)
  (ha:PA X (e::es) t) (O:(x==("__debug__":Str))=Vi) (he:Vn (e::es) X.env=(Vi,eval e X.env)::Vn es X.env) (U:(Vv pos (Vn es X.env)).any (·.1)=Vi):
  PE X (.Call (.Name x p) (e::es) [] pos) (AcY C sp dvs E t):=by
 exists 2,Q,I,h;refine UP (wL I hg hm ?_ O);refine Us (h₀:=X.base) I.ok.mod.kin M.kp (thn (ha pos oq s σ H _ I h) λus s1 ⟨vs,H1,Z,r,q⟩=>[Z.kIn:?_]) he U;exact LC M F hr hb hd hx Z r q
end
structure qu (N P:oj Str)(sc:VB):Prop where
 kind:sc.kind= .function
 co:sc.isCoroutine=Vi
 gen:sc.isGenerator=Vi
 nd:N.Nodup
 pre:N.take ↑P=P
 par:∀x>P,sc.names.lookup x=u_ .local\/sc.names.lookup x=u_ .cell
 nofree:∀y>sc.names,y.2≠ .free
def sK {kindOf:Str->om VU}{x:Str}:∀{binds:oj (Str×o6)}{m:Str->om o6},(∀v,(x,v)∉binds)->VT kindOf binds m x=m x
 | [],_,_=>rfl|(n,v)::r,m,h=>by
  unfold VT;rw[sK λw O=>h w (uh _ O)];split
  .have:x≠n:=by rintro rfl;exact h v ui
   simp[this]
  .rfl
def sM {kindOf:Str->om VU}{x:Str}:∀{binds:oj (Str×o6)}{m:Str->om o6},(∀v,(x,v)∉binds)->VX kindOf binds m x=m x
 | [],_,_=>rfl|(n,v)::r,m,h=>by
  unfold VX;rw[sM λw O=>h w (uh _ O)];split
  .rfl
  .have:x≠n:=by rintro rfl;exact h v ui
   simp[this]
def sL {kindOf:Str->om VU}{x:Str}{v:o6}:∀{P:oj Str}{vs:oj o6}{i:Nat}{m:Str->om o6},P.Nodup->P[i]? =u_ x->vs[i]? =u_ v->kindOf x=u_ .local->
  VT kindOf (P.zip vs) m x=u_ v
 | [],_,_,_,_,h,_,_=>by simp at h|_::_,[],_,_,_,_,h,_=>by simp at h|p::P,w::vs,0,m,nd,h1,h2,hk=>by
  simp at h1 h2;subst h1;subst h2;show VT kindOf ((p,w)::P.zip vs) m p=_;unfold VT;rw[sK λv O=>(List.nodup_cons.mp nd).1 (T5 O).1,A6 hk];simp
 |p::P,w::vs,i+1,m,nd,h1,h2,hk=>by
  show VT kindOf ((p,w)::P.zip vs) m x=_;unfold VT;exact sL (i:=i) (List.nodup_cons.mp nd).2 (by simpa using h1) (by simpa using h2) hk
def sN {kindOf:Str->om VU}{x:Str}{v:o6}:∀{P:oj Str}{vs:oj o6}{i:Nat}{m:Str->om o6},P.Nodup->P[i]? =u_ x->vs[i]? =u_ v->kindOf x≠u_ .local->
  VX kindOf (P.zip vs) m x=u_ v
 | [],_,_,_,_,h,_,_=>by simp at h|_::_,[],_,_,_,_,h,_=>by simp at h|p::P,w::vs,0,m,nd,h1,h2,hk=>by
  simp at h1 h2;subst h1;subst h2;show VX kindOf ((p,w)::P.zip vs) m p=_;unfold VX;rw[sM λv O=>(List.nodup_cons.mp nd).1 (T5 O).1,A4 hk];simp
 |p::P,w::vs,i+1,m,nd,h1,h2,hk=>by
  show VX kindOf ((p,w)::P.zip vs) m x=_;unfold VX;exact sN (i:=i) (List.nodup_cons.mp nd).2 (by simpa using h1) (by simpa using h2) hk
abbrev qan (N:oj Str)(vs:oj V):St:=vs.map u_++FO (↑N-↑vs) U_
abbrev cxOf (CX:CXT)(P:o9)(w:og)(K:o0)(mg:Str->om o6)(base:o8)(N:oj Str)(qual:Str)(scope:VB)(f:o3)(cd:o6)(A:oh)(outer:oj Env)(s:o7)(H:Hp)(E:XK):Cx where
 prog:=P
 w:=w
 K:=K
 mg:=mg
 base:=base
 A:=A.deeper (Vp qual scope #[0,s] f cd)
 N:=N
 s₀:=s
 H₀:=H
 env:=Vp qual scope #[0,s] f cd
 outer:=outer
 stack:=Vp qual scope #[0,s] f cd::outer
 ex:= []
 calm:=v_
 fn:=λ_=>v_
 pn:= []
 xe:=λe s'=>Vj (Vz P w) (A.deeper (Vp qual scope #[0,s] f cd)) (Fb (Vp qual scope #[0,s] f cd) e) (λ_ s''=>CX outer H s E e s'') (λe' s''=>CX outer H s E e' s'') s'
variable {n:Nat}{x:Str}
def Cd {sc:VB}(h:sc.names.lookup x=u_ .cell):∃c,(h_ n sc.names []).lookup x=u_ c:=by
 let q:=PySem.W.cellsFrom_some sc.names n [] (.inl h);exact Option.isSome_iff_exists.mp q
def EV {CX:CXT}{P:o9}{w:og}{K:o0}{mg:Str->om o6}{base:o8}{N ps:oj Str}{qual:Str}{scope:VB}{f:o3}{cd:o6}{A:oh}{outer:oj Env}{s s1:o7}{H:Hp}{E:XK}{us:oj o6}{vs:oj V}
  (S:qu N ps scope) (hd:A.handled=U_) (O:Aai P w K mg base A outer s H) (hl:↑vs=↑ps) (r:iq vs us)
  (x:Hj s #[0,s] (VT (Vp qual scope #[0,s] f cd).kindOf (ps.zip us) λ_=>U_) (h_ (#[0,s]+1) scope.names []) (VX (Vp qual scope #[0,s] f cd).kindOf (ps.zip us) λ_=>U_) s1) (ac:0<s1.toks):
  Inv (cxOf CX P w K mg base N qual scope f cd A outer s H E) [] (qan N vs) H s1:=by
 let ad:↑ps<=↑N:=by have:=A9 Gb S.pre;rw[vD] at this;omega
 erw[x.done,h1,tk,rfl,hk];let U:∀b:o3,b∉(cxOf CX P w K mg base N qual scope f cd A outer s H E).ex:=λb z=>A8 (show b>([]:oj o3) from z) (by simp)
 exists (O.mod,S.kind,1,1,uq _,λy z c h1 h2=>?_,λy Z=>?_,λy c _ h=>?_,λ_=>hd,Around.frames_deeper O.frames,.inr [1:1],λb z=>A8 z (U b),O.bs,O.bsz,λb _ _=>U b,λb z=>A8 z (U b),O.funs,O.frf),1,O.bare,Un.kept hk,[_:x.toInCall.ns:λi y v h1 h2 h3=>?_],λy c h=>[_:x.cell y c h],O.hok.fresh (uq _),λy c h=>?_,λp hp=>A8 (show p>([]:oj (o3×Obj)) from hp) (by simp),O.hok.kept hk,?_,ac
 .exact name_of_addr x.apart (vO h1) (vO h2)
 .let Z:scope.names.lookup y=u_ .cell\/scope.names.lookup y=u_ .free:=Z;rcases Z with Z|Z
  .exact Cd Z
  .exact A8 rfl (S.nofree _ (vO Z))
 .exact V7 (x.above y c (vO h))
 .let hi:i<↑vs:=by
   unfold qan at h2;by_cases hi:i<↑vs
   .exact hi
   .rw[vn (by simpa using hi)] at h2
    rw[RN] at h2;split at h2<;>cases h2
  let ha:vs[i]? =u_ v:=by
   unfold qan at h2;rw[UH (by simpa using hi),uJ] at h2
   cases e:vs[i]? with
   |none=>rw[e] at h2;cases h2|some a=>rw[e] at h2;cases h2;rfl
  erw[r.get ha,u,hu,rv];let hp:ps[i]? =u_ y:=by
   rwa[<-S.pre,List.getElem?_take_of_lt ()]
  let aa:ps.Nodup:=by rw[<-S.pre];exact S.nd.sublist (V4 _ _)
  exists u,rv;rcases S.par y (uQ hp) with k|k
  .exact .inl [k:sL aa hp hu k]
  .erw[Cd (n:=#[0,s]+1) k,c,e];refine .inr (.inl k,c,e,?_);let q:=x.cell y c e;rw[sN aa hp hu (by show scope.names.lookup y≠_;rw[k];decide)] at q
   exact q
 .exact O.hok.fresh (V7 (x.above y c (vO h)))
 .unfold qan;show _=↑N;rw[uL,uc,FT];omega
def AT {M:hX}{A:oh}{E:o6->o7->Prop}{s₀ s:o7}{m Z:Str->om o6}{env:Env}(f:Str×o6->PUnit->Sem (ForInStep PUnit))(hf:∀n v u,f (n,v) u=(do tG env n v;pure (.yield ⟨⟩)))(O:env.scope.kind= .function)
  (n:Str) (v:o6) (r:oj (Str×o6)) (Q:PUnit->o7->Prop) (x:Hj s₀ env.locals m env.cells Z s) (hl:env.kindOf n=u_ .local)
  (aa:∀x>r,env.kindOf x.1=u_ .local\/(env.kindOf x.1=u_ .cell/\(env.cells.lookup x.1).isSome=v_))
  (h:∀s',Hj s₀ env.locals (VT env.kindOf ((n,v)::r) m) env.cells (VX env.kindOf ((n,v)::r) Z) s'->0<s'.toks->Q ⟨⟩ s'):Vj M A (V_ ((n,v)::r) ⟨⟩ f) Q E s:=by
 rw[Uz,hf];refine A7 (A7 (rS hl x.toInCall.ns (λh' ac U=>uD ?_) (by rw[O];rfl)))
 let x1:Hj s₀ env.locals (λy=>if y=n then u_ v else m y) env.cells Z {s with heap:=h',toks:=s.toks+1}:=by
  exists (?_,ac,λb o e=>?_,x.toInCall.fresh),λk c hc=>?_,x.apart,x.above
  .erw[x.toInCall.same,h₁,tk,rfl];exact[h':0]
  .have:=x.toInCall.keep b o e;exact U.extBut b o (vb (Vx (uK e) x.toInCall.fresh)) (x.toInCall.keep b o e)
  .exact(x.cell k c hc).sameBut U (Uc (x.above k c (mem_of_lookup hc)))
 refine vk (n:=1) (TJ (vc _)) (wpAny_bindParams f hf O r _ _ _ _ x1 aa λs' y h1=>h s' ?_ h1);unfold VT VX;rw[A6 hl,A6 hl];exact y
def Ew {M:hX}{A:oh}{E:o6->o7->Prop}{s:o7}{scope:VB}{globals:o3}{binds:oj (Str×o6)}{qual:Str}{func:om o3}{O:o6}{builtins:o3}{Q:Env->o7->Prop}
  (Z:scope.kind= .function)
  (aa:∀x>binds,scope.names.lookup x.1=u_ .local\/(scope.names.lookup x.1=u_ .cell/\((h_ (#[0,s]+1) scope.names []).lookup x.1).isSome=v_))
  (htk:0<s.toks\/∃n v r,binds=(n,v)::r/\scope.names.lookup n=u_ .local)
  (hq:∀en,en=newEnv scope #[0,s] globals (h_ (#[0,s]+1) scope.names []) qual func O U_ builtins->
   ∀s',Hj s en.locals (VT en.kindOf binds λ_=>U_) en.cells (VX en.kindOf binds λ_=>U_) s'->0<s'.toks->Q en s'):
  Vj M A (Tz scope globals [] binds qual func O U_ builtins) Q E s:=by
 rcases htk with htk|⟨n,v,r,rfl,hl⟩
 .exact vk (n:=1) htk (wpAny_newFunctionEnv_cells Z aa λenv he s' x h1=>hq env he s' x h1)
 .simp![Tz,vL,UQ,if_false];refine A7 (wpAny_alloc ?_);refine A7 (wpAny_layCells _ (λname kind cells=>by cases ac:kind==Gk<;>simp[ac]) _ _ _ _ ?_)
  let U:=cellsFrom_ok scope.names (s.heap.push {cls:= .type "frame",data:= .dict #[]}) (#[0,s]+1) [] [λ_ _ hm=>(nomatch hm):Rm] (by rw[vv];exact uq _);rw[vv] at U;rw[show({s with heap:=s.heap.push {cls:= .type "frame",data:= .dict #[]}}:o7).heap.objs.size=#[0,s]+1 from vv ..]
  exact A7 (AT (s₀:=s) (env:=newEnv scope #[0,s] globals (h_ (#[0,s]+1) scope.names []) qual func O U_ builtins)
   _ (λ_ _ _=>rfl) Z n v r _
   ((⟨_,_,by rfl⟩,(Heap.Ns.new s.heap (.type "frame")).keeps (p6 _ _),λb o e=>p6 _ _ b o (ud _ e),uq _),
    λm c hc=>(U.empty m c (mem_of_lookup hc)).1,U.apart,λn c hm=>(U.empty n c hm).2)
   hl (λy hy=>aa y (uh _ hy)) λs' x h1=>uD (hq _ rfl s' x h1))
def Ab4 {CX:CXT}{P:o9}{w:og}{K:o0}{mg:Str->om o6}{base:o8}{k:Nat}{f:o3}{name qual:Str}{O:Arguments}{U:oj Stmt}{scope:VB}{dV kV doc pm cdv ct oc:o6}{an od:om o3}
  {osl:Array (om o6)}{N ps:oj Str}{sp:Sp} (lk:K.lookup f=u_ (oc,od,.func (PySem.W.fnOf name qual O U scope dV kV doc pm an cdv ct),osl)) (ae:PySem.W.codeIn K cdv qual=v_) (S:qu N ps scope)
  (len:∀vs H Q E,sp vs H Q E->↑vs=↑ps)
  (Z:∀(A:oh) (outer:oj Env) (s:o7) (H:Hp) (vs:oj V) (Q:VK) (E:XK),mD k (A.deeper (Vp qual scope #[0,s] f cdv))->sp vs H Q E->
   ∃t,PSs (cxOf CX P w K mg base N qual scope f cdv A outer s H E) U t/\t {nx:=λ_ H'=>Q .non H',rt:=Q} (qan N vs) H):
  FnOk P w K mg base CX (k+1) f (PySem.W.fnOf name qual O U scope dV kV doc pm an cdv ct) ps sp:=by
 exists len,λA outer s H args us vs Q E hr e0 hb r ac htk=>?_;let hl:=len _ _ _ _ ac;let KX:K.In s.heap:=e0.mod.kin.keeps λb o e=>(e0.bs b o e).1;let af:s.heap.NoLimit:=e0.mod.nolimit.keeps λb o e=>(e0.bs b o e).1;let aa:∀y>ps.zip us,scope.names.lookup y.1=u_ .local\/(scope.names.lookup y.1=u_ .cell/\((h_ (#[0,s]+1) scope.names []).lookup y.1).isSome=v_):=λ⟨n,v⟩ hy=>by
  rcases S.par n (T5 hy).1 with q|q
  .exact .inl q
  .exact .inr [q:PySem.W.cellsFrom_some _ _ _ (.inl q)]
 let ad:0<s.toks\/∃n v r,ps.zip us=(n,v)::r/\scope.names.lookup n=u_ .local:=by
  rcases htk with h|⟨y,q,e,hy⟩
  .exact .inl h
  .have:↑us=↑ps:=by rwa[<-↑r]
   subst e
   match us,this with
   |u::us',_=>exact .inr (y,u,q.zip us',1,hy)
 refine codeAny_call_function hr.depth (KX _ _ lk) rfl S.co S.gen rfl (PySem.W.codeRec_of KX ae) (hb _ _ _ _ ?_);refine Ew S.kind aa ad λenv he s1 x ag=>?_;subst he;exists af.keeps x.toInCall.keep,codeAny_func ?_;erw[Z A outer s H vs Q E (hr.deeper _) ac,t,ht,hq];let I:Inv (cxOf CX P w K mg base N qual scope f cdv A outer s H E) [] (qan N vs) H s1:=EV S hr.hd e0 hl r x ag;refine vz (ht [] s1 (qan N vs) H _ I hq) (λfl s' hs=>?_) λe s' hs=>hs;let fin:∀{σ':St}{H':Hp}{v:V}{u:o6},Inv (cxOf CX P w K mg base N qual scope f cdv A outer s H E) [] σ' H' s'->ik v u->Q v H'->CE outer P w H s Q u s':=
  λ{σ' H' v u} J rv q=>(v,H',J.os,J.bare,J.tk,J.base,J.hok,rv,q)
 cases fl with
 |ret u=>
  erw[hs,v,σ',H',J,rv,q];exact fin J rv q
 |next=>
  erw[hs,σ',H',J,q];exact fin (v:=V.non) (u:=Ge) J rfl q
 |brk=>
  erw[hs,_,_,_,q];exact VA q
 |cont=>
  erw[hs,_,_,_,q];exact VA q
section
variable {X:Cx}{x:Str}{p pos:Pos}{e:Expr}{es:oj Expr}{t:TA}{id T:String}{r:oj V->Hp->VK->Prop}
abbrev tCB (r:oj V->Hp->VK->Prop)(t:TA):TE:=λσ H Q=>t σ H λvs H1=>r vs H1 Q
def qy (Z:YN X (.builtin id) r)(hg:Gl X x)(hm:X.mg x=U_)(hv:hV x=u_ (.builtin id))(ha:PA X (e::es) t)(hn:x≠"__name__")(O:(x==("__debug__":Str))=Vi)
  (he:Vn (e::es) X.env=(Vi,eval e X.env)::Vn es X.env) (U:(Vv pos (Vn es X.env)).any (·.1)=Vi):PE X (.Call (.Name x p) (e::es) [] pos) (tCB r t):=by
 exists 2,Q,I,h;refine UP (wX I hg hm hv ?_ hn O);exact pP (thn (ha pos oq s σ H _ I h) λus s1 ⟨vs,H1,I1,r1,q1⟩=>Z oq s1 σ H1 vs us Q I1 r1 q1) he U
def qV (Z:YN X (.type T) r)(hg:Gl X x)(hm:X.mg x=U_)(hv:hV x=u_ (.type T))(ha:PA X (e::es) t)(hn:x≠"__name__")(O:(x==("__debug__":Str))=Vi)
  (he:Vn (e::es) X.env=(Vi,eval e X.env)::Vn es X.env) (U:(Vv pos (Vn es X.env)).any (·.1)=Vi):PE X (.Call (.Name x p) (e::es) [] pos) (tCB r t):=by
 exists 2,Q,I,h;refine UP (wX I hg hm hv ?_ hn O);exact vJ (thn (ha pos oq s σ H _ I h) λus s1 ⟨vs,H1,I1,r1,q1⟩=>Z oq s1 σ H1 vs us Q I1 r1 q1) he U
end
end L2
namespace HT
open PySem PyProof.Rows
section
variable {prog:o9}{w:og}{A:oh}{E:o6->o7->Prop}{s:o7}
def cat_tup {t b:o3}{vs ws:oj o6}{Q:o6->o7->Prop}(ht:GY s.heap t vs.toArray)(hb:GY s.heap b ws.toArray)(hv:vs≠ [])
  (h1:ws= []->Q (-t) s) (h2:ws≠ []->Q (.ref #[0,s]) {s with heap:=s.heap.push {cls:= .type "tuple",data:= .seq (vs++ws).toArray}})
  (hsz:↑vs+↑ws<=Vm):Vj #[w,w] A (VN .Add (-t) (-b)) Q E s:=by
 erw[id ht,[cls,dd,data,sl],ho,hc,n,hd];erw[id hb,[ae,U,ad,Z],O,aa,n2,ac];simp only at hc hd aa ac;subst hc hd aa ac;let e:vs.toArray++ws.toArray=(vs++ws).toArray:=by simp
 by_cases hw:ws= []
 .exact Tq [_:ho:1] [_:O:1] TC T9 PySem.F.slot_tuple_add UR (UK _ _)
   (tuple_addW1 t b vs.toArray ws.toArray n n2 dd U sl Z (by simpa using hv) (by simp[hw])) [ho:O:h1 hw]
 .refine Tq [_:ho:1] [_:O:1] TC T9 PySem.F.slot_tuple_add UR (UK _ _)
   (tuple_addW2 t b vs.toArray ws.toArray n n2 dd U sl Z (by simpa using hv) (by simpa using hw) (by rwa[uA,uA])) [ho:O:?_]
  rw[e];exact h2 hw
abbrev sIx (n d:Nat):om Int->Nat
 |none=>d|some v=>if v<0 then(v+(n:Int)).toNat else min v.toNat n
def sIx_none (n d:Nat):sIx n d U_=d:=rfl
def sIx_nat (n d k:Nat):sIx n d (u_ (k:Int))=min k n:=by
 show(if(k:Int)<0 then((k:Int)+(n:Int)).toNat else min (k:Int).toNat n)=min k n
 rw[A4 (),Fm]
def Aa5 (n d:Nat)(hd:d<=n)(o:om Int):sIx n d o<=n:=by
 cases o with
 |none=>exact hd|some v=>
  show(if v<0 then(v+(n:Int)).toNat else min v.toNat n)<=n
  by_cases O:v<0
  .rw[A6 O];omega
  .rw[A4 O];exact Nat.min_le_right _ _
def Iz (v:Int)(n d:Nat):(if v<0 then max (v+(n:Int)) 0 else min v (n:Int))=((sIx n d (u_ v):Nat):Int):=by
 show(if v<0 then max (v+(n:Int)) 0 else min v (n:Int))=(((if v<0 then(v+(n:Int)).toNat else min v.toNat n):Nat):Int)
 by_cases O:v<0
 .simp![A6 O];omega
 .simp![A4 O];omega
def CW (lo hi:om Int)(n:Nat):Fc lo hi 1 (n:Int)=(((sIx n 0 lo:Nat):Int),((sIx n n hi:Nat):Int)):=by
 let h1:¬((1:Int)<0):=by omega
 unfold Fc;simp![h1,if_false];refine Prod.ext ?_ ?_
 .cases lo with|none=>rfl|some v=>exact Iz v n 0
 .cases hi with|none=>rfl|some v=>exact Iz v n n
def CA (i j:Nat):HG (i:Int) (j:Int) 1=j-i:=by
 unfold HG;let h1:GT.gt (1:Int) 0:=by omega
 simp![h1,Vh,Int.ediv_one];split<;>omega
def kL {v:o6}{o:om Int}{Q:om Int->o7->Prop}(p:Gh v o)(h:Q o s):Vj #[w,w] A (Pa v) Q E s:=by
 cases p with
 |none=>exact RB h|int i t=>exact slicePart_int h
def Jd {sl:o3}{Z vu:o6}{lo hi:om Int}{n:Nat}{Q:Int×Int×Nat->o7->Prop}(hs:s.heap.IsSliceOf sl Z vu .none)(pl:Gh Z lo)(pu:Gh vu hi)
  (h:Q (((sIx n 0 lo:Nat):Int),1,sIx n n hi-sIx n 0 lo) s):Vj #[w,w] A (rp (-sl) (pure (n:Int))) Q E s:=by
 erw[id hs,os,O,aa,U];unfold rp pV;refine A7 (A7 (vm O U (x:=Z) rfl (A7 (vm O U (x:=vu) rfl (A7 (vm O U (x:= .none) rfl (uD ?_)))))));refine A7 (RB ?_);show Vj _ _ (if((1:Int)==0)=v_ then _ else _) _ _ s
 rw[A4 ()]
 refine A7 (kL pl (A7 (kL pu (A7 (uD ?_)))));show Vj _ _ (match Fc lo hi 1 (n:Int) with|(lo,hi)=>pure (lo,(1:Int),HG lo hi 1)) _ _ s
 rw[CW lo hi n];show Vj _ _ (pure (((sIx n 0 lo:Nat):Int),(1:Int),HG ((sIx n 0 lo:Nat):Int) ((sIx n n hi:Nat):Int) 1)) _ _ s;rw[CA];exact uD h
def LF (xs:Array o6)(i k:Nat):((Vu k).filterMap λ(m:Nat)=>xs[((i:Int)+(m:Int)*1).toNat]?).toArray=((xs.toList.drop i).take k).toArray:=by
 let e:(λ(m:Nat)=>xs[((i:Int)+(m:Int)*1).toNat]?)=λm=>xs[i+m]? :=by
  funext m
  have:((i:Int)+(m:Int)*1).toNat=i+m:=by omega
  rw[this]
 rw[e];have:=pick_run xs i k;rw[List.filterMap_map] at this;let e2:((λx=>xs[x]?)∘λx=>i+x)=λm=>xs[i+m]? :=rfl;rw[e2] at this;rw[this]
def getItem_tuple_cut {t sl:o3}{items:Array o6}{vl vu:o6}{lo hi:om Int}{Q:o6->o7->Prop}(U:GY s.heap t items)(hs:s.heap.IsSliceOf sl vl vu .none)(pl:Gh vl lo)(pu:Gh vu hi)
  (hw:¬(sIx items.size 0 lo=0/\sIx items.size items.size hi=items.size))
  (h:Q (.ref #[0,s]) {s with heap:=s.heap.push {cls:= .type "tuple",data:= .seq ((items.toList.drop (sIx items.size 0 lo)).take (sIx items.size items.size hi-sIx items.size 0 lo)).toArray}})
  (hsz:items.size<=Vm):Vj #[w,w] A (VQ (-t) (-sl)) Q E s:=by
 let O:sizeOk (.seq ((items.toList.drop (sIx items.size 0 lo)).take (sIx items.size items.size hi-sIx items.size 0 lo)).toArray):=by
  show((items.toList.drop (sIx items.size 0 lo)).take (sIx items.size items.size hi-sIx items.size 0 lo)).toArray.size<=Vm;rw[uA,vD,vY,vo];omega
 let hj:sIx items.size items.size hi<=items.size:=Aa5 _ _ (uq _) hi;erw[id hs,os,Z,aa,ae];let ac:s.TypeIs (-sl) "slice":=[os:Z:aa];unfold VQ
 try with_reducible refine VY ?_
 first|refine A7 (uD ?_)|skip
 refine A7 (Rb U.typeIs () ?_)
 refine A7 (vq (name:=Gu "__getitem__") U.typeIs vP
  (vM vP U.typeIs Ro ?_ (RP _ _)))
 show Vj _ _ (RO (-t)>>=_) _ _ s;refine A7 (Fq U ?_);refine A7 (GD ac ?_);rw[A6 ()]
 refine A7 (Jd hs pl pu ?_);let ad:¬((((sIx items.size 0 lo:Nat):Int)==0&&(1:Int)==1&&(sIx items.size items.size hi-sIx items.size 0 lo)==items.size)=v_):=by
  intro q;rw[uG,uG] at q;let q1:((sIx items.size 0 lo:Nat):Int)=0:=eq_of_beq q.1.1;let q2:sIx items.size items.size hi-sIx items.size 0 lo=items.size:=eq_of_beq q.2;exact hw [():()]
 show Vj _ _ (if(((sIx items.size 0 lo:Nat):Int)==0&&(1:Int)==1&&(sIx items.size items.size hi-sIx items.size 0 lo)==items.size)=v_ then _ else _) _ _ s
 rw[A4 ad,LF]
 first
  |exact A7 (m:=GT _) (vB (uD ⟨0,uD h⟩) O)
  |exact A7 (m:=GT _) (vB (A7 (uD (uD ⟨0,uD h⟩))) O)
  |exact A7 (A7 (m:=GT _) (vB (uD (uD ⟨0,uD h⟩)) O))
  |exact A7 (A7 (m:=GT _) (vB (uD ⟨0,uD h⟩) O))
end
end HT
namespace L2
open PySem PySem.Spec PyProof.Rows
nonrec abbrev TO:=St->Hp->(om Int->Hp->Prop)->Prop
abbrev PO (X:Cx)(e:om Expr)(t:TO):Prop:=
 ∀(oq:oj (o3×Obj)) (s:o7) (σ:St) (H:Hp) (Q:om Int->Hp->Prop),#[I]->t σ H Q->
  Vj #[X,X] X.A (evalPart e X.env) (λu s'=>∃o H',Inv X oq σ H' s'/\Gh u o/\Q o H') X.xe s
abbrev De:TO:=λ_ H Q=>Q U_ H
inductive Acw (Q:(Option Int->Hp->Prop))(x:V)(H1:Hp):Prop
 |mk (i:_)(_:x= .int i)(_:Q (u_ i) H1)
abbrev AcW (t:TE):TO:=λσ H Q=>t σ H λx H1=>Acw Q x H1
def CQ {ns:oj Int}:∀{us:oj o6},iq (ns.map V.int) us->GK us ns:=by
 induction ns with
 |nil=>intro us r;rw[U4] at r;cases r;exact .nil|cons n ns O=>
  intro us r;rw[uw] at r;cases r with
  |cons U Z=>
   erw[U,t,e];subst e;exact .cons n t (O Z)
section
variable {X:Cx}{e:Expr}{te:TE}{lo hi:om Expr}{tl th:TO}{pos p2:Pos}
def XG:PO X U_ De:=by
 exists 2,Q,I,h;rw[H_];exact uD (U_,H,I,.none,h)
def JO (h:PE X e te):PO X (u_ e) (AcW te):=by
 exists 2,Q,I,O;rw[TD];refine thn (h oq s σ H _ I O) λu s1 zq=>?_;erw[zq,x,H1,U,Z,q1];erw[q1,i,rfl,q];erw[Z,t,rfl];exact(u_ i,H1,U,.int i t,q)
abbrev SlR (X:Cx)(r:V->om Int->om Int->Hp->VK->Prop):Prop:=
 ∀(oq:oj (o3×Obj)) (s:o7) (σ:St) (H:Hp) (x:V) (v vl vu:o6) (lo hi:om Int) (sl:o3) (Q:VK),#[I]->ik x v->s.heap.IsSliceOf sl vl vu .none->Gh vl lo->Gh vu hi->r x lo hi H Q->
  ∃T id,tu (.type T) "__getitem__"=pure (u_ (.builtin id))/\s.TypeIs v T/\Vj #[X,X] X.A (VQ v (-sl)) (EP X oq σ Q) X.xe s
def SlR.or {r r':V->om Int->om Int->Hp->VK->Prop}(h:SlR X r)(h':SlR X r'):SlR X (λx lo hi H Q=>r x lo hi H Q\/r' x lo hi H Q):=by
 exists 2,x,v,O,U,lo,hi,sl,Q,I,Z,hs,pl,pu,q;rcases q with q|q
 .exact h oq s σ H x v O U lo hi sl Q I Z hs pl pu q
 .exact h' oq s σ H x v O U lo hi sl Q I Z hs pl pu q
abbrev tSl (r:V->om Int->om Int->Hp->VK->Prop)(te:TE)(tl th:TO):TE:=λσ H Q=>te σ H λx H1=>tl σ H1 λl H2=>th σ H2 λu H3=>r x l u H3 Q
def jR {r:V->om Int->om Int->Hp->VK->Prop}(hr:SlR X r)(he:PE X e te)(hl:PO X lo tl)(hu:PO X hi th):PE X (.Subscript e (.Slice lo hi U_ p2) pos) (tSl r te tl th):=by
 exists 2,Q,I,h;refine Hf (thn (he oq s σ H _ I h) λv s1 zq=>?_);erw[zq,x,H1,I1,r1,q1];refine Td (thn (hl oq s1 σ H1 _ I1 q1) λU s2 ⟨l,H2,I2,pl,q2⟩=>thn (hu oq s2 σ H2 _ I2 q2) λZ O zq=>?_);erw[zq,u,H3,I3,pu,q3];rw[H_];refine uD ?_;let I4:Inv X oq σ H3 {O with heap:=O.heap.push {cls:= .type "slice",data:= .fields #[U,Z,.none]}}:=I3.kept (t':=O.toks) λb ob q=>ud _ q
 erw[hr oq {O with heap:=O.heap.push {cls:= .type "slice",data:= .fields #[U,Z,.none]}} σ H3 x v U Z l u #[0,O] Q I4 r1 (Fe ..) pl pu q3,T,id,hT,ht,hg]
 show Vj #[X,X] X.A (Hk e (.Slice lo hi U_ p2) v (.ref #[0,O])) (EP X oq σ Q) X.xe {O with heap:=O.heap.push {cls:= .type "slice",data:= .fields #[U,Z,.none]}}
 exact Hm (ops:= [.ref #[0,O],v]) ht hT hg #[w]
abbrev AO (xs:oj V)(lo hi:om Int):oj V:=(xs.drop (HT.sIx ↑xs 0 lo)).take (HT.sIx ↑xs ↑xs hi-HT.sIx ↑xs 0 lo)
def wt (xs:oj V)(lo hi:om Int):↑(AO xs lo hi)<=↑xs:=by
 unfold AO;rw[vD,vY];omega
inductive AeC (K:PySem.W.Frag)(x:V)(lo:Option Int)(hi:Option Int)(H:Hp)(Q:VK):Prop
 |mk (a:_)(xs:_)(_:x=-a)(_:SqT K H a xs)(_:¬(HT.sIx ↑xs 0 lo=0/\HT.sIx ↑xs ↑xs hi=↑xs))(_:∀p,H p=U_->Q (-p) (upd H p (.tup (AO xs lo hi))))
def AaZ:SlR X (AeC X.K):=by
 exists 2,x,v,vl,vu,lo,hi,sl,Q,I,Z,hs,pl,pu,h;erw[h,a,xs,rfl,hx,hw,q];cases Z;erw[I.tuple hx,its,r,U,hz];let O:its.toArray.size=↑xs:=by rw[uA];exact r.length.symm
 exists "tuple",_,PyProof.Rows.slot_tuple_getitem.lookup,U.typeIs;refine HT.getItem_tuple_cut U hs pl pu (by rwa[O]) ?_ (by rwa[O])
 rw[O];exists .ref #[0,s],_,I.laid (t':=s.toks) (o:= .tup (AO xs lo hi)) (λb ob q=>ud _ q) (uq _) ?_,1,q _ (I.hok.fresh (uq _));exact(uY (wt xs lo hi) hz,_,(r.drop (HT.sIx ↑xs 0 lo)).take (HT.sIx ↑xs ↑xs hi-HT.sIx ↑xs 0 lo),Hw _ _)
inductive Adf (K:PySem.W.Frag)(x:V)(y:V)(H:Hp)(Q:VK):Prop
 |mk (a:_)(b:_)(xs:_)(ys:_)(_:x=-a)(_:y=-b)(_:SqT K H a xs)(_:SqT K H b ys)(_:xs≠ [])(_:↑xs+↑ys<=Vm)(_:(ys= []->Q (-a) H))(_:(ys≠ []->∀p,H p=U_->Q (-p) (upd H p (.tup (xs++ys)))))
variable {xs:oj V}{us:oj o6}
def iq.nil_iff (r:iq xs us):us= []↔xs= []:=by
 cases r with
 |nil=>simp|cons _ _=>simp
def Pm:OpR X (VN .Add) (Adf X.K):=by
 exists 2,x,y,v,u,Q,I,rx,ry,h;erw[h,a,b,xs,ys,rfl,rfl,ha,hb,hx,hz,q1,q2];cases rx;cases ry;erw[I.tuple ha,its,U,p1,_];erw[I.tuple hb,Z,O,p2,_];refine HT.cat_tup p1 p2 (λz=>hx (U.nil_iff.mp z)) (λz=>(-a,H,I,1,q1 (O.nil_iff.mp z))) (λz=>?_) (by rwa[<-↑U,<-↑O])
 exists .ref #[0,s],_,I.laid (t':=s.toks) (o:= .tup (xs++ys)) (λb ob q=>ud _ q) (uq _) ?_,1,q2 (λw=>z (O.nil_iff.mpr w)) _ (I.hok.fresh (uq _));exact(by rwa[uL],_,U.append O,Hw _ _)
end
abbrev ixN (n:Nat)(i:Int):om Nat:=if 0<=i then(if i<n then u_ i.toNat else U_) else if-(n:Int)<=i then u_ (i+n).toNat else U_
abbrev atI {α:Type}(xs:oj α)(i:Int):om α:=(ixN ↑xs i).bind λj=>xs[j]?
variable {n j:Nat}
def Aw {i:Int}(h:ixN n i=u_ j):Hi i n=u_ j/\j<n/\ -(n:Int)<=i/\i<n:=by
 unfold ixN at h;by_cases h0:0<=i
 .rw[A6 h0] at h;by_cases h1:i<n
  .rw[A6 h1] at h;let e:i.toNat=j:=uO h;exact(by rw[tU h0 h1,e],(),(),h1)
  .rw[A4 h1] at h;cases h
 .rw[A4 h0] at h;by_cases h1: -(n:Int)<=i
  .rw[A6 h1] at h;let e:(i+n).toNat=j:=uO h;exact(by rw[TQ () h1,e],(),h1,())
  .rw[A4 h1] at h;cases h
def KK {α:Type}{xs:oj α}{i:Int}{v:α}(h:atI xs i=u_ v):∃j,Hi i ↑xs=u_ j/\xs[j]? =u_ v/\j<↑xs/\ -(↑xs:Int)<=i/\i<↑xs:=by
 unfold atI at h;cases e:ixN ↑xs i with
 |none=>rw[e] at h;cases h|some j=>
  rw[e] at h;erw[Aw e,h1,h2,h3,h4];exact(j,h1,h,h2,h3,h4)
def qD {α:Type}{xs:oj α}{v:α}(h:xs[j]? =u_ v):atI xs (j:Int)=u_ v:=by
 let O:j<↑xs:=(Af.mp h).1;let e:ixN ↑xs (j:Int)=u_ j:=by
  unfold ixN;rw[A6 (),A6 ()];simp
 unfold atI;rw[e];exact h
def qaa {α:Type}(xs:oj α)(v:α):atI (xs++ [v]) (-1)=u_ v:=by
 let O:↑(xs++ [v])=↑xs+1:=by simp
 let e:ixN ↑(xs++ [v]) (-1)=u_ ↑xs:=by
  unfold ixN;rw[O,A4 (),A6 ()]
  congr 1
  omega
 unfold atI;rw[e];show(xs++ [v])[↑xs]? =u_ v;simp
abbrev Tm (b:Expr):Prop:=∀o i,GR b Vi o i=Hv [o,i] (VQ o i)
abbrev IxR (X:Cx)(r:R2):Prop:=
 ∀(value slice:Expr) (oq:oj (o3×Obj)) (s:o7) (σ:St) (H:Hp) (x y:V) (v u:o6) (Q:VK),#[I]->ik x v->ik y u->r x y H Q->
  GR slice Vi v u=Hv [v,u] (VQ v u)->Vj #[X,X] X.A (Hk value slice v u) (EP X oq σ Q) X.xe s
abbrev MtR (X:Cx)(id:String)(r:V->oj V->Hp->VK->Prop):Prop:=
 ∀(oq:oj (o3×Obj)) (s:o7) (σ:St) (H:Hp) (x:V) (xs:oj V) (v:o6) (us:oj o6) (Q:VK),#[I]->ik x v->iq xs us->r x xs H Q->
  Vj #[X,X] X.A (call (.builtin id) (v::us)) (EP X oq σ Q) X.xe s
section
variable {X:Cx}{a b:Expr}{ta tb:TE}{pos:Pos}
def IxR.or {r r':R2}(h:IxR X r)(h':IxR X r'):IxR X (λx y H Q=>r x y H Q\/r' x y H Q):=by
 intro value slice oq s σ H x y v u Q I O U q Z;rcases q with q|q
 .exact h value slice oq s σ H x y v u Q I O U q Z
 .exact h' value slice oq s σ H x y v u Q I O U q Z
def qG {r:R2}(O:IxR X r)(ha:PE X a ta)(U:PE X b tb)(Z:Tm b):PE X (.Subscript a b pos) (tOp r ta tb):=by
 exists 2,Q,I,h;exact Hf (AdG ha U I h λv u s2 x y H2 I2 rx ry q=>O a b oq s2 σ H2 x y v u Q I2 rx ry q (Z _ _))
inductive Ad9 (K:PySem.W.Frag)(x:V)(y:V)(H:Hp)(Q:VK):Prop
 |mk (p:_)(xs:_)(i:_)(v:_)(_:x=-p)(_:y= .int i)(_:SqL K H p xs)(_:atI xs i=u_ v)(_:Q v H)
inductive O4 (K:PySem.W.Frag)(x:V)(y:V)(H:Hp)(Q:VK):Prop
 |mk (p:_)(xs:_)(i:_)(v:_)(_:x=-p)(_:y= .int i)(_:SqT K H p xs)(_:atI xs i=u_ v)(_:Q v H)
inductive Ad8 (x:V)(y:V)(H:Hp)(Q:VK):Prop
 |mk (z:_)(i:_)(c:_)(_:x= !z)(_:y= .int i)(_:↑z<=Vm)(_:atI z.cps.toList i=u_ c)(_:Q (.str ⟨#[c]⟩) H)
def Yb:IxR X (Ad9 X.K):=by
 intro value slice oq s σ H x y v u Q I rx ry h Z;erw[h,p,xs,i,z,rfl,rfl,hq,he,q];cases rx;erw[ry,t,rfl];erw[I.list hq,its,r,pl,hz];erw[KK he,j,h1,h2,h3,h4,h5];erw[r.get h2,w,ew,O];let hl:=↑r;let hn:=ZS;let fin:EP X oq σ Q w s:=(z,H,I,O,q);by_cases h0:0<=i
 .let U:i.toNat=j:=by
   rw[tU h0 h5] at h1;exact uO h1
  exact item_listR pl.isList h0 () (by rw[U];simpa using ew) fin Z
 .let U:(i+(its.toArray.size:Int)).toNat=j:=by
   rw[TQ () h4] at h1
   rw[uA,<-hl];exact uO h1
  exact FX (x:=w) pl.isList.typeIs slot_list_getitem.lookup
   (wpAny_getItem_list_neg (Q:=λr s'=>r=w/\EP X oq σ Q r s') pl.isList () (by rw[uA]<;>omega) () (by rw[U];simpa using ew) [1:fin]) Z
def qA:IxR X (O4 X.K):=by
 intro value slice oq s σ H x y v u Q I U Z h hs;erw[h,p,xs,i,z,rfl,rfl,hq,he,q];cases U;erw[Z,t,rfl];erw[I.tuple hq,its,r,pl,hz];erw[KK he,j,h1,h2,h3,h4,h5];erw[r.get h2,w,ew,O];let hl:=↑r;let hn:=ZS;let fin:EP X oq σ Q w s:=(z,H,I,O,q);exact FX (x:=w) pl.typeIs slot_tuple_getitem.lookup
  (getItem_tuple (j:=j) (Q:=λr s'=>r=w/\EP X oq σ Q r s') pl () () (by rwa[uA,<-hl]) (by simpa using ew) [1:fin]) hs
def BT:IxR X Ad8:=by
 intro value slice oq s σ H x y v u Q I O U h Z;erw[h,z,i,c,rfl,rfl,hz,he,q];erw[O,t,rfl];erw[U,t',rfl];erw[KK he,j,h1,h2,h3,h4,h5];let hl:↑z.cps.toList=↑z:=by simp[VZ]
 rw[hl] at h1 h4 h5;let hn:=ZS;exact Hm (vX s z t) slot_str_getitem.lookup (getItem_str (c:=c) (by
  let e1:decide (i< -(2^63:Int))=false:=uj ()
  let e2:decide (i≥2^63)=false:=uj ()
  rw[e1,e2,Bool.or_false]) (by rw[h1];simpa using h2) (.str ⟨#[c]⟩,H,I.tok _,⟨0⟩,q)) Z
abbrev rIx (K:o0):R2:=λx y H Q=>Ad9 K x y H Q\/O4 K x y H Q\/Ad8 x y H Q
def XR:IxR X (rIx X.K):=Yb.or (qA.or BT)
def CI (its:oj o6)(n j:Nat)(u:o6):Hr (·.setIfInBounds j u) {cls:= .type "list",data:= .seq its.toArray n}={cls:= .type "list",data:= .seq (its.set j u).toArray n}:=by
 simp[Hr]
def Inv.lst {oq:oj (o3×Obj)}{σ:St}{H:Hp}{s:o7}{p:o3}{xs:oj V}(I:#[I])(h:H p=u_ (.lst xs)):
  ∃(its:oj o6) (n:Nat),iq xs its/\s.heap.get? p=u_ {cls:= .type "list",data:= .seq its.toArray n}/\↑xs<=sizeLine:=by
 erw[I.hok p _ h,z,its,n,r,e];exact(its,n,r,e,z)
def Inv.lstUpd {oq:oj (o3×Obj)}{σ:St}{H:Hp}{s:o7}{p:o3}{xs ys:oj V}{its its':oj o6}{n O:Nat}{f:Obj->Obj}(I:#[I])(h:H p=u_ (.lst xs))
  (Z:s.heap.get? p=u_ {cls:= .type "list",data:= .seq its.toArray n}) (U:f {cls:= .type "list",data:= .seq its.toArray n}={cls:= .type "list",data:= .seq its'.toArray O}) (r:iq ys its') (hz:↑ys<=Vm) (t:Nat) (ht:0<t:=by ac_rfl):
  Inv X oq σ (upd H p (.lst ys)) {s with heap:=s.heap.update p f,toks:=t}:=by
 let e:(s.heap.update p f).get? p=u_ {cls:= .type "list",data:= .seq its'.toArray O}:=by
  rw[Tl f Z (by rw[U]<;>rfl),U]
 refine I.write (x:=p) (e:=p) (by rw[h];trivial) (.inl rfl) (λb u hb q=>(Ff _ _ (U6 hb)).trans q) [_:e] ?_
 exact(hz,its',O,r,e)
inductive Ada (o:V)(i:V)(v:V)(H:Hp)(Q:(Hp->Prop)):Prop
 |mk (p:_)(xs:_)(k:_)(j:_)(_:o=-p)(_:i= .int k)(_:H p=u_ (.lst xs))(_:ixN ↑xs k=u_ j)(_:Q (upd H p (.lst (xs.set j v))))
def Lz:Aem X Ada:=by
 exists 2,o,i,v,ov,iv,u,Q,I,ro,ri,rv,h;erw[h,p,xs,k,j,rfl,rfl,hp,hj,q];cases ro;erw[ri,t,rfl];erw[I.lst hp,its,n,r,O,hz];erw[Aw hj,h1,h2,h3,h4];let U:=↑r;let hn:=ZS;let I':Inv X oq σ (upd H p (.lst (xs.set j v))) {s with heap:=s.heap.update p (Hr (·.setIfInBounds j u))}:=
  I.lstUpd hp O (CI its n j u) (r.set rv j) (by rwa[List.length_set]) s.toks
 by_cases h0:0<=k
 .let Z:k.toNat=j:=by
   rw[tU h0 h4] at h1;exact uO h1
  exact PySem.W.ki_setAt O h0 () (by rwa[uA,<-U]) (by rw[Z];exact[_:I':q])
 .let Z:(k+(its.toArray.size:Int)).toNat=j:=by
   rw[TQ () h3] at h1
   rw[uA,<-U];exact uO h1
  exact PySem.W.ki_setBack O () (by rwa[uA,<-U]) () (by rw[Z];exact[_:I':q])
def nQ (lo hi:om Int)(n:Nat):(Gf lo hi U_ n).1=((HT.sIx n 0 lo:Nat):Int)/\(Gf lo hi U_ n).2.1=((HT.sIx n n hi:Nat):Int)/\(Gf lo hi U_ n).2.2=1:=by
 exists ?_,?_,1
 .cases lo with
  |none=>simp[Gf,HT.sIx]|some i=>
   simp![Gf,HT.sIx,rP,show GT.gt (1:Int) 0 by decide,Vh]
   by_cases h:i<0
   .simp![h,Vh]<;>omega
   .simp![h,if_false]<;>omega
 .cases hi with
  |none=>simp[Gf,HT.sIx]|some i=>
   simp![Gf,HT.sIx,rP,show GT.gt (1:Int) 0 by decide,Vh]
   by_cases h:i<0
   .simp![h,Vh]<;>omega
   .simp![h,if_false]<;>omega
def KJ (its:oj o6)(lo hi:om Int):Tu its.toArray lo hi U_=((its.drop (HT.sIx ↑its 0 lo)).take (HT.sIx ↑its ↑its hi-HT.sIx ↑its 0 lo)).toArray:=by
 erw[nQ lo hi its.toArray.size,h1,h2,h3];unfold Tu;rw[h1,h2,h3];simp![sliceRange_one,pick_run,uA]<;>rfl
inductive AeD (K:PySem.W.Frag)(x:V)(lo:Option Int)(hi:Option Int)(H:Hp)(Q:VK):Prop
 |mk (a:_)(xs:_)(_:x=-a)(_:SqL K H a xs)(_:∀p,H p=U_->Q (-p) (upd H p (.lst (AO xs lo hi))))
def wk:SlR X (AeD X.K):=by
 exists 2,x,v,vl,vu,lo,hi,sl,Q,I,Z,hs,pl,pu,h;erw[h,a,xs,rfl,hx,q];cases Z;erw[I.list hx,its,r,U,hz];let O:=↑r;exists "list",_,slot_list_getitem.lookup,U.isList.typeIs;refine UL U.isList hs pl pu .none (by simp) ?_ (by rw[uA]<;>omega)
 rw[KJ,<-O];exists .ref #[0,s],_,I.laid (t':=s.toks) (o:= .lst (AO xs lo hi)) (λb ob q=>ud _ q) (uq _) ?_,1,q _ (I.hok.fresh (uq _));exact(uY (wt xs lo hi) hz,_,(0),(r.drop (HT.sIx ↑xs 0 lo)).take (HT.sIx ↑xs ↑xs hi-HT.sIx ↑xs 0 lo),uH _ rfl)
abbrev zW:V->Bool
 | .non=>v_| .bl _=>v_| .int _=>v_| .str _=>v_|_=>Vi
abbrev eqV:V->V->Bool
 | .non,.non=>v_| .bl a,.bl b=>a==b| .bl a,.int b=>(if a then 1 else 0)==b| .int a,.bl b=>a==(if b then 1 else 0)| .int a,.int b=>a==b| .str a,.str b=>a==b|_,_=>Vi
variable {A:oh}{s:o7}{y:V}{u:o6}
def Ab6 {x:V}{v:o6}(U:ik y u)(O:ik x v)(fy:zW y=v_)(Z:zW x=v_):VD A s u v (eqV y x):=by
 cases y with
 |non=>
  cases U;cases x with
  |non=>cases O;exact tK _|bl b=>cases O;exact ph b|int b=>erw[O,t,rfl];exact Rf b t|str b=>erw[O,t,rfl];exact re b t|_=>exact A8 (show Vi=v_ from Z) ub
 |bl a=>
  cases U;cases x with
  |non=>cases O;exact pG a|bl b=>cases O;exact pK a b|int b=>erw[O,t,rfl];exact pA a b t|str b=>erw[O,t,rfl];exact pB a b t|_=>exact A8 (show Vi=v_ from Z) ub
 |int a=>
  erw[U,t',rfl];cases x with
  |non=>cases O;exact Rz a t'|bl b=>cases O;exact Pe a t' b|int b=>erw[O,t,rfl];exact Fj a t' b t|str b=>erw[O,t,rfl];exact UN a t' b t|_=>exact A8 (show Vi=v_ from Z) ub
 |str a=>
  erw[U,t',rfl];cases x with
  |non=>cases O;exact Fs a t'|bl b=>cases O;exact P0 a t' b|int b=>erw[O,t,rfl];exact UO a t' b t|str b=>erw[O,t,rfl];exact tO a t' b t|_=>exact A8 (show Vi=v_ from Z) ub
 |_=>exact A8 (show Vi=v_ from fy) ub
abbrev eqU (x:V)(u:o6):Bool:=match u with
 | .none=>eqV .non x| .bool b=>eqV (.bl b) x| .int i _=>eqV (.int i) x| .str z _=>eqV (!z) x|_=>Vi
def NN {x:V}(r:ik y u)(f:zW y=v_):eqU x u=eqV y x:=by
 cases y with
 |non=>cases r;rfl|bl b=>cases r;rfl|int i=>erw[r,t,rfl];rfl|str z=>erw[r,t,rfl];rfl|_=>exact A8 (show Vi=v_ from f) ub
def WV {x:V}:∀{xs:oj V}{us:oj o6},iq xs us->xs.all zW=v_->us.any (eqU x)=xs.any λy=>eqV y x
 |_,_,.nil,_=>rfl|y::xs,u::us,.cons r t,f=>by
  rw[vE,uG] at f;rw[UE,UE,NN r f.1,WV t f.2]
def zg {A:oh}{s:o7}{x:V}{v:o6}(U:ik x v)(Z:zW x=v_):∀{xs:oj V}{us:oj o6},iq xs us->xs.all zW=v_->∀u>us,VD A s u v (eqU x u)
 |_,_,.nil,_=>λu O=>by cases O|y::xs,u::us,.cons r t,f=>λu' O=>by
  rw[vE,uG] at f;rcases Aa.mp O with rfl|O
  .rw[NN r f.1];exact Ab6 r U f.1 Z
  .exact zg U Z t f.2 u' O
abbrev inV (x:V)(xs:oj V):Bool:=xs.any λy=>eqV y x
inductive rIn (K:PySem.W.Frag)(neg:Bool)(x:V)(y:V)(H:Hp)(Q:VK):Prop
 |mk (p:_)(xs:_)(_:y=-p)(_:(SqL K H p xs\/SqT K H p xs))(_:zW x=v_)(_:xs.all zW=v_)(_:Q (.bl (if neg then !(inV) x xs else inV x xs)) H)
def QN:OpR X (Vs .In) (rIn X.K Vi):=by
 exists 2,x,y,v,u,Q,I,Z,ry,h;erw[h,p,xs,rfl,O,fx,fs,q];cases ry;rcases O with O|O
 .erw[I.list O,its,r,pl,hz];refine Rj (eqU x) pl.isList (λw U=>zg Z fx r fs w (by simpa using U)) (.bl _,H,I,1,?_)
  rw[show its.toArray.any (eqU x)=its.any (eqU x) by simp,WV r fs]
  exact q
 .erw[I.tuple O,its,r,pl,hz];refine RJ (eqU x) pl (λw U=>zg Z fx r fs w (by simpa using U)) (.bl _,H,I,1,?_)
  rw[show its.toArray.any (eqU x)=its.any (eqU x) by simp,WV r fs]
  exact q
def J6:OpR X (Vs .NotIn) (rIn X.K v_):=by
 exists 2,x,y,v,u,Q,I,Z,ry,h;erw[h,p,xs,rfl,O,fx,fs,q];cases ry;rcases O with O|O
 .erw[I.list O,its,r,pl,hz];refine Rl (eqU x) pl.isList (λw U=>zg Z fx r fs w (by simpa using U)) (.bl _,H,I,1,?_)
  rw[show its.toArray.any (eqU x)=its.any (eqU x) by simp,WV r fs]
  exact q
 .erw[I.tuple O,its,r,pl,hz];refine SeqAt.notIn_tupleAt (eqU x) pl (λw U=>zg Z fx r fs w (by simpa using U)) (.bl _,H,I,1,?_)
  rw[show its.toArray.any (eqU x)=its.any (eqU x) by simp,WV r fs]
  exact q
def oE:OpR X (Vs .NotIn) (λx y H Q=>∃i j,x= .str i/\y= .str j/\Q (.bl (!(!(HA j i 0 ↑j 1).isEmpty))) H):=by
 exists 2,x,y,v,u,Q,I,O,U,h;erw[h,i,j,rfl,rfl,q];erw[O,t,rfl];erw[U,t',rfl];exact notIn_str (.bl _,H,I,1,q)
def qJ:YN X (.builtin "len") (λxs H Q=>∃p ys,xs= [-p]/\(SqL X.K H p ys\/SqT X.K H p ys)/\Q (.int ↑ys) H):=by
 exists 2,xs,us,Q,I,r,h;erw[h,p,ys,rfl,U,q];erw[jX r,u,rfl,Z];cases Z;let hn:=ZS;rcases U with U|U
 .erw[I.list U,its,r',pl,hz];let O:=↑r';exact rc pl.isList (by simp![uA]<;>omega) (.int ↑ys,H,I.tok _,⟨s.toks+1,by rw[uA,O]⟩,q)
 .erw[I.tuple U,its,r',pl,hz];let O:=↑r';exact len_tuple pl (by simp![uA]<;>omega) (.int ↑ys,H,I.tok _,⟨s.toks+1,by rw[uA,O]⟩,q)
def ZZ:YN X (.builtin "len") (λxs H Q=>∃z,xs= [!z]/\↑z<=Vm/\Q (.int ↑z) H):=by
 exists 2,xs,us,Q,I,r,h;erw[h,z,rfl,hz,q];erw[jX r,u,rfl,t,rfl];let hn:=ZS;exact len_str () (.int ↑z,H,I.tok _,⟨0⟩,q)
def sJ:YN X (.type "list") (λxs H Q=>∃p ys,xs= [-p]/\(SqL X.K H p ys\/SqT X.K H p ys)/\∀l,H l=U_->Q (-l) (upd H l (.lst ys))):=by
 exists 2,xs,us,Q,I,r,h;erw[h,p,ys,rfl,U,q];erw[jX r,u,rfl,rx];cases rx;let fin:∀(its:oj o6),iq ys its->↑ys<=Vm->∀(h':o8) (O:Nat),(∀b o',s.heap.get? b=u_ o'->h'.get? b=u_ o')->
   h'.get? #[0,s]=u_ {cls:= .type "list",dict:=U_,data:= .seq its.toArray O,slots:= #[]}->EP X oq σ Q (.ref #[0,s]) {s with heap:=h'}:=λits r' hz h' O kp e=>
  (.ref #[0,s],_,I.laid (t':=s.toks) kp (uq _) (show yu X.prog X.w _ h' _ (.lst ys) from(hz,its,O,r',e)),1,q _ (I.hok.fresh (uq _)))
 rcases U with U|U
 .erw[I.list U,its,r',pl,hz];let Z:=↑r';erw[pl.isList,o,ho,hc,n,hd];exact Ry p (.inl rfl) ho hc hd (λh' O kp e=>fin its r' hz h' O kp e) (by simp![uA]<;>omega)
 .erw[I.tuple U,its,r',pl,hz];let Z:=↑r';erw[pl,o,ho,hc,n,hd];exact Ry p (.inr rfl) ho hc hd (λh' O kp e=>fin its r' hz h' O kp e) (by simp![uA]<;>omega)
def qU:YN X (.type "tuple") (λxs H Q=>∃p ys,xs= [-p]/\((SqL X.K H p ys/\∀l,H l=U_->Q (-l) (upd H l (¬ys)))\/(SqT X.K H p ys/\Q (-p) H))):=by
 exists 2,xs,us,Q,I,r,h;erw[h,p,ys,rfl,h];erw[jX r,u,rfl,rx];cases rx;rcases h with⟨O,q⟩|⟨O,q⟩
 .erw[I.list O,its,r',pl,hz];let U:=↑r';refine call_tuple_list pl.isList (λh' kp=>?_) (by simp![uA]<;>omega)
  let Z:Inv X oq σ H {s with heap:=h'}:=I.kept (t':=s.toks) kp
  let I2:Inv X oq σ (upd H h'.objs.size (¬ys)) {s with heap:=h'.push {cls:= .type "tuple",data:= .seq its.toArray}}:=
   Z.laid (t':=s.toks) (λb o e=>ud _ e) (uq _) (show yu X.prog X.w _ _ _ (¬ys) from(hz,its,r',Hw _ _))
  exact(-h'.objs.size,_,I2,1,q _ (Z.hok.fresh (uq _)))
 .erw[I.tuple O,its,r',pl,hz];exact call_tuple_same pl (-p,H,I,1,q)
abbrev tyV (K:o0)(T:String)(x:V)(H:Hp):Prop:=match x with
 | .str _=>T="str"| .int _=>T="int"| .ref p=>(T="list"/\∃xs,SqL K H p xs)\/(T="tuple"/\∃o,K.lookup p=u_ o/\o.cls= .type "tuple"/\o.dict=U_)\/
   (T="dict"/\((∃kvs,H p=u_ (.dK kvs))\/∃kvs,H p=u_ (.dT kvs)))\/(T="set"/\∃S n,H p=u_ (.set S n))
 |_=>False
variable {oq:oj (o3×Obj)}{σ:St}{H:Hp}
def MX {T:String}{x:V}{v:o6}(I:#[I])(r:ik x v)(ty:tyV X.K T x H):
  s.TypeIs v T/\∀a,v= .ref a->∃ob,s.heap.get? a=u_ ob/\ob.dict=none:=by
 cases x with
 |str z=>
  erw[r,t,rfl];cases(show T="str" from ty)
  exact[vX s z t:λ_ e=>nomatch e]
 |int i=>
  erw[r,t,rfl];cases(show T="int" from ty)
  exact[typeIs_int s i t:λ_ e=>nomatch e]
 |ref p=>
  cases r;rcases ty with⟨rfl,xs,U⟩|⟨rfl,o,O,Z,hd⟩|⟨rfl,O⟩|⟨rfl,S,n,O⟩
  .erw[I.list U,its,_,pl,_];exists pl.isList.typeIs,λa e=>?_;cases e;erw[pl,o,n,e,c,hd,_];exact[o:e:hd]
  .exists [o:I.kIn p o O:Z],λa e=>?_;cases e;exact[o:I.kIn _ o O:hd]
  .let z:∃o,s.heap.get? p=u_ o/\o.ExactDict:=by
    rcases O with⟨kvs,O⟩|⟨kvs,O⟩
    .erw[I.hok p _ O,_,_,_,_,o,_,_,e,ex,_];exact[o:e:ex]
    .erw[I.hok p _ O,_,_,_,_,o,_,_,e,ex,_];exact[o:e:ex]
   erw[z,o,e,ex];exists [o:e:ex.1],λa e2=>?_;cases e2;exact[o:e:ex.2.1]
  .erw[I.hok p _ O,o,_,_,_,e,ex,_];exists [o:e:ex.1],λa e2=>?_;cases e2;exact[o:e:ex.2.1]
 |_=>exact VA ty
abbrev Aex (K:o0)(T:String)(r:V->oj V->Hp->VK->Prop)(to:TE):TE:=λσ H Q=>to σ H λx H1=>tyV K T x H1/\r x [] H1 Q
abbrev tBM (K:o0)(T:String)(r:V->oj V->Hp->VK->Prop)(to:TE)(t:TA):TE:=λσ H Q=>to σ H λx H1=>tyV K T x H1/\t σ H1 λxs H2=>r x xs H2 Q
variable {o e:Expr}{es:oj Expr}{to:TE}{t:TA}{name:Str}{apos cpos:Pos}{T id:String}{r:V->oj V->Hp->VK->Prop}
def Nl (pa:Tf T)(slot:Slot T name id)(Z:tj (.builtin id)=pure (.type "method_descriptor"))(hm:MtR X id r)(ho:PE X o to)
  (O:GH o name X.env (eval o X.env)=eval o X.env) (U:(apos.endLine==cpos.line)=v_):PE X (.Call (.Attribute o name apos) [] [] cpos) (Aex X.K T r to):=by
 exists 2,Q,I,h;refine wpAny_Call_method0_late O U (thn (ho oq s σ H _ I h) λv s1 zq=>?_);erw[zq,x,H1,I1,r1,ty,q1];erw[MX I1 r1 ty,h1,h2];exact(T,id,pa,slot,Z,h1,h2,U9 rfl (PySem.evalArgs_none (hm oq s1 σ H1 x [] v [] Q I1 r1 .nil q1)))
def jr (pa:Tf T)(slot:Slot T name id)(ac:tj (.builtin id)=pure (.type "method_descriptor"))(hm:MtR X id r)(ho:PE X o to)(ha:PA X (e::es) t)
  (U:GH o name X.env (eval o X.env)=eval o X.env:=by rfl)
  (aa:((Vv cpos (Vn (e::es) X.env)).all (λx=> !(x).1)&&(Gn cpos (Gm [] X.env)).all (λx=>x.1.isSome)
   &&decide (↑(e::es)+↑([]:oj Gy)+(if([]:oj Gy).isEmpty then 0 else 1)<30))=true:=by rfl)
  (Z:(apos.endLine==cpos.line)=true:=by rfl) (hs:Vn (e::es) X.env=(Vi,eval e X.env)::Vn es X.env:=by rfl) (O:(Vv cpos (Vn es X.env)).any (·.1)=false:=by rfl):
  PE X (.Call (.Attribute o name apos) (e::es) [] cpos) (tBM X.K T r to t):=by
 exists 2,Q,I,h;refine wpAny_Call_method_late U aa Z rfl (thn (ho oq s σ H _ I h) λv s1 zq=>?_);erw[zq,x,H1,I1,r1,ty,q1];erw[MX I1 r1 ty,h1,h2];exists T,id,pa,slot,ac,h1,h2;let hA:=ha cpos oq s1 σ H1 _ I1 q1;rw[hs] at hA⊢;refine U9 (by show(Vi||(Vv cpos (Vn es X.env)).any (·.1))=Vi;rw[O]<;>rfl) (Uj ?_)
 exact thn hA λus s2 ⟨vs,H2,I2,r2,q2⟩=>hm oq s2 σ H2 x vs v us Q I2 r1 r2 q2
end
abbrev MtM (X:Cx)(id:String)(r:V->oj V->Hp->VK->Prop):Prop:=
 ∀(oq:oj (o3×Obj)) (s:o7) (σ:St) (H:Hp) (x:V) (xs:oj V) (v:o6) (us:oj o6) (Q:VK),#[I]->ik x v->iq xs us->r x xs H Q->
  Vj #[X,X] X.A (call (.builtin id) (v::us)) (EP X oq σ Q) X.xe s
def iq.one:∀{x:V}{us:oj o6},iq [x] us->∃u,us= [u]/\ik x u
 |_,_,.cons r .nil=>[0:r]
def iq.zero:∀{us:oj o6},iq [] us->us= []
 |_,.nil=>rfl
variable {xs:oj V}{us:oj o6}
def iq.dropLast (h:iq xs us):iq xs.dropLast us.dropLast:=by
 induction h with
 |nil=>exact .nil|cons r t O=>
  cases t with
  |nil=>exact .nil|cons q t'=>exact .cons r O
def iq.eraseIdx:∀{xs:oj V}{us:oj o6} (i:Nat),iq xs us->iq (xs.eraseIdx i) (us.eraseIdx i)
 |_,_,_,.nil=> .nil|_,_,0,.cons _ t=>t|_,_,i+1,.cons r t=> .cons r (iq.eraseIdx i t)
def CT {α:Type}(l:oj α):l.eraseIdx (↑l-1)=l.dropLast:=by
 induction l with
 |nil=>rfl|cons a r O=>
  cases r with
  |nil=>rfl|cons b r=>
   let e:↑(a::b::r)-1=(↑(b::r)-1)+1:=by
    let h1:↑(a::b::r)=↑r+2:=rfl;let h2:↑(b::r)=↑r+1:=rfl;omega
   rw[e,List.eraseIdx_cons_succ,O]
   all_goals rfl
def oW {α:Type}:∀(l:oj α) (i:Nat),↑(l.eraseIdx i)<=↑l
 | [],_=>uq _|_::_,0=>Hz _|_::r,i+1=>TJ (oW r i)
section
variable {X:Cx}{oq:oj (o3×Obj)}{σ:St}{H:Hp}{s:o7}{l b:o3}{xs ys zs:oj V}
def Inv.lset {its its':oj o6}{n:Nat}{f:Array o6->Array o6}{t':Nat}(I:#[I])(O:H l=u_ (.lst xs))
  (e:s.heap.get? l=u_ {cls:= .type "list",data:= .seq its.toArray n}) (U:f its.toArray=its'.toArray) (Z:iq ys its') (hz:↑ys<=Vm) (ht:0<t':=by ac_rfl):
  Inv X oq σ (upd H l (.lst ys)) {s with heap:=s.heap.update l (Hr f),toks:=t'}:=by
 let q:=PySem.IsL.update e f;rw[U] at q;refine I.write (x:=l) (e:=l) (by rw[O];exact trivial) (.inl rfl) (λb' u hb hu=>(Ff s.heap (Hr f) (U6 hb)).trans hu) [_:q] ?_
 exact(hz,its',_,Z,q)
variable {its:oj o6}{t':Nat}
def Inv.lnew (I:#[I])(O:iq ys its)(hz:↑ys<=Vm)(U:0<t':=by ac_rfl):
  Inv X oq σ (upd H #[0,s] (.lst ys)) {s with heap:=s.heap.push {cls:= .type "list",data:= .seq its.toArray},toks:=t'}:=
 I.laid (λ_ _ q=>ud _ q) (uq _) (hz,its,(0),O,uH _ rfl)
def Inv.fresh (I:#[I]):H #[0,s]=none:=I.hok.fresh (uq _)
def Inv.lstM (I:#[I])(O:H l=u_ (.lst xs)):↑xs<=Vm/\∃(its:oj o6) (n:Nat),iq xs its/\↑xs=↑its/\s.heap.get? l=u_ {cls:= .type "list",data:= .seq its.toArray n}:=by
 erw[I.hok l _ O,z,its,n,r,e];exact(z,its,n,r,↑r,e)
def Mf (h:n<=Vm):Tn n=false:=by
 unfold Tn;exact uj ()
end
section
variable {X:Cx}
inductive DP (x:V)(vs:List V)(H:Hp)(Q:VK):Prop
 |mk (l:_)(xs:_)(y:_)(_:x=-l)(_:vs= [y])(_:H l=u_ (.lst xs))(_:↑xs<Vm)(_:Q .non (upd H l (.lst (xs++ [y]))))
def Y5:MtM X "list.append" DP:=by
 exists 2,x,vs,v,us,Q,I,U,rv,h;erw[h,l,xs,y,rfl,rfl,O,hz,q];cases U;erw[rv.one,u,rfl,ru];erw[I.lstM O,z,its,n,r,Z,e];refine vQ F.slot_list_append [_:e:1] F.entry_list_append (F.args_list_append_2 _ _) (PySem.list_append l its.toArray n u (by rw[uA];omega)) [e:?_]
 exists .non,_,I.lset (its':=its++ [u]) O e (by simp) (r.append (.cons ru .nil)) ?_,1,q
 rw[uL,vU];omega
inductive O5 (x:V)(vs:List V)(H:Hp)(Q:VK):Prop
 |mk (l:_)(b:_)(xs:_)(zs:_)(_:x=-l)(_:vs= [-b])(_:H l=u_ (.lst xs))(_:H b=u_ (.lst zs))(_:↑xs+↑zs<=Vm)(_:Q .non (upd H l (.lst (xs++zs))))
def oS:MtM X "list.extend" O5:=by
 exists 2,x,vs,v,us,Q,I,rx,rv,h;erw[h,l,b,xs,zs,rfl,rfl,Z,hB,hz,q];cases rx;erw[rv.one,u,rfl,ru];cases ru;erw[I.lstM Z,z,its,n,r,hl,e];erw[I.lstM hB,z2,O,n2,r2,aa,e2];let hsz:its.toArray.size+O.toArray.size<=sizeLine:=by rw[uA,uA];omega
 let U:¬(!(its.toArray.isEmpty)&&Tn (its.toArray.size+O.toArray.size))=true:=by
  rw[Mf hsz,Tb];exact ub
 refine vQ F.slot_list_extend [_:e:1] F.entry_list_extend (F.args_list_extend_2 _ _)
  (pk l its.toArray n b O.toArray n2 U (by rw[uA];omega) ()) [e:e2:?_]
 exists .non,_,I.lset (its':=its++O) Z e (by simp) (r.append r2) ?_,1,q
 rw[uL];omega
inductive AeE (x:V)(vs:List V)(H:Hp)(Q:VK):Prop
 |mk (l:_)(xs:_)(y:_)(_:x=-l)(_:vs= [])(_:H l=u_ (.lst xs))(_:xs[↑xs-1]? =u_ y)(_:Q y (upd H l (.lst xs.dropLast)))
def Nw:MtM X "list.pop" AeE:=by
 exists 2,x,vs,v,us,Q,I,rx,rv,h;erw[h,l,xs,y,rfl,rfl,Z,hy,q];cases rx;let O:=rv.zero;subst O;erw[I.lstM Z,z,its,n,r,hl,e];erw[r.get hy,u,hu,ru];let U:its.toArray[its.toArray.size-1]? =u_ u:=by
  show its.toArray[↑its-1]? =u_ u;rwa[<-UA,<-hl]
 refine vQ F.slot_list_pop [_:e:1] F.entry_list_pop (F.args_list_pop_1 _) (pS l its.toArray n u U (by rw[uA];omega)) [e:?_]
 exists y,_,I.lset (its':=its.dropLast) Z e ?_ r.dropLast ?_,ru,q
 .show its.toArray.eraseIdxIfInBounds (its.toArray.size-1)=its.dropLast.toArray;rw[uA,FL,CT]
 .rw[List.length_dropLast];omega
inductive Abd (x:V)(vs:List V)(H:Hp)(Q:VK):Prop
 |mk (l:_)(xs:_)(i:_)(k:_)(y:_)(_:x=-l)(_:vs= [.int i])(_:H l=u_ (.lst xs))(_: -(2^63)<=i)(_:i<2^63)(_:Hi i ↑xs=u_ k)(_:xs[k]? =u_ y)(_:Q y (upd H l (.lst (xs.eraseIdx k))))
def Mh:MtM X "list.pop" Abd:=by
 exists 2,x,vs,v,us,Q,I,Z,rv,h;erw[h,l,xs,i,k,y,rfl,rfl,U,h1,h2,hk,hy,q];cases Z;erw[rv.one,u,rfl,ru];erw[ru,t,rfl];erw[I.lstM U,z,its,n,r,hl,e];erw[r.get hy,w,hw,O];refine vQ F.slot_list_pop [_:e:1] F.entry_list_pop (F.args_list_pop_2 _ _)
  (pE l its.toArray n i t k w (fitsIndex_both h1 h2) (by rwa[uA,<-hl]) (by rwa[<-UA]) (by rw[uA];omega)) [e:?_]
 exists y,_,I.lset (its':=its.eraseIdx k) U e ?_ (r.eraseIdx k) ?_,O,q
 .show its.toArray.eraseIdxIfInBounds k=(its.eraseIdx k).toArray;rw[FL]
 .have:=oW xs k;omega
inductive Aea (x:V)(y:V)(H:Hp)(Q:VK):Prop
 |mk (l:_)(b:_)(xs:_)(zs:_)(_:x=-l)(_:y=-b)(_:H l=u_ (.lst xs))(_:H b=u_ (.lst zs))(_:↑xs+↑zs<=Vm)(_:∀p,H p=U_->Q (-p) (upd H p (.lst (xs++zs))))
def WI:OpR X (VN .Add) Aea:=by
 exists 2,x,y,v,u,Q,I,U,Z,h;erw[h,l,b,xs,zs,rfl,rfl,hH,hB,hz,q];cases U;cases Z;erw[I.lstM hH,z,its,n,r,hl,e];erw[I.lstM hB,z2,O,n2,r2,aa,e2];refine PySem.P.add_list e e2 ?_ (by rw[uA,uA];omega)
 let ea:its.toArray++O.toArray=(its++O).toArray:=by simp
 rw[ea];exact(.ref _,_,I.lnew (t':=s.toks) (r.append r2) (by rw[uL];omega),1,q _ I.fresh)
end
section
variable {prog:o9}{w:og}{A:oh}{E:o6->o7->Prop}{s:o7}
set_option maxRecDepth 100000 in
end
section
variable {κ:Type}[DecidableEq κ]
abbrev iV (kvs:oj (κ×V))(k:κ):om V:=(kvs.find? λkv=>decide (kv.1=k)).map (·.2)
abbrev lW (kvs:oj (κ×V))(k:κ)(v:V):oj (κ×V):=
 if(kvs.any λkv=>decide (kv.1=k))=v_ then kvs.map (λkv=>if kv.1=k then(kv.1,v) else kv) else kvs++ [(k,v)]
abbrev J8 (kvs:oj (κ×V))(k:κ):oj (κ×V):=kvs.filter λkv=>decide (kv.1≠k)
def KF {k:κ}:iV ([]:oj (κ×V)) k=none:=rfl
def QW {p:κ×V}{r:oj (κ×V)}{k:κ}(e:p.1=k):iV (p::r) k=u_ p.2:=by simp[iV,vf,e]
def QJ {p:κ×V}{r:oj (κ×V)}{k:κ}(e:¬p.1=k):iV (p::r) k=iV r k:=by simp[iV,vf,e]
def xn (k:κ):∀kvs:oj (κ×V),(kvs.any λkv=>decide (kv.1=k))=(iV kvs k).isSome
 | []=>rfl|p::r=>by
  rw[UE];by_cases e:p.1=k
  .simp![QW e,ug e,Bool.true_or,FA]
  .rw[QJ e,uj e,TH];exact xn k r
def Bb (k j:κ)(y:V):∀kvs:oj (κ×V),iV (kvs.map λkv=>if kv.1=k then(kv.1,y) else kv) j=(iV kvs j).map λx=>if j=k then y else x
 | []=>rfl|p::r=>by
  let O:=Bb k j y r;rw[uw];by_cases h:p.1=k
  .rw[A6 h];by_cases e:p.1=j
   .rw[QW (p:=(p.1,y)) e,QW e,HP,A6 (e.symm.trans h)]
   .rw[QJ (p:=(p.1,y)) e,QJ e,O]
  .rw[A4 h];by_cases e:p.1=j
   .rw[QW (p:=p) e,QW e,HP,A4 (λz=>h (e.trans z))]
   .rw[QJ (p:=p) e,QJ e,O]
def nN (k j:κ)(y:V):∀kvs:oj (κ×V),iV kvs k=U_->iV (kvs++ [(k,y)]) j=if j=k then u_ y else iV kvs j
 | [],_=>by
  by_cases e:k=j
  .rw[A6 e.symm];exact QW (p:=(k,y)) e
  .rw[A4 (λz=>e z.symm)];exact QJ (p:=(k,y)) e
 |p::r,hn=>by
  rw[vZ];let O:¬p.1=k:=λz=>by rw[QW z] at hn;cases hn
  rw[QJ O] at hn;let U:=nN k j y r hn;by_cases e:p.1=j
  .rw[QW e,QW e,A4 (λz=>O (e.trans z))]
  .rw[QJ e,QJ e,U]
def zc (kvs:oj (κ×V))(k j:κ)(y:V):iV (lW kvs k y) j=if j=k then u_ y else iV kvs j:=by
 unfold lW;by_cases a:(kvs.any λkv=>decide (kv.1=k))=v_
 .rw[A6 a,Bb];rw[xn] at a;by_cases e:j=k
  .erw[Option.isSome_iff_exists.mp a,x,O];rw[A6 e,e,O,HP,A6 rfl]
  .rw[A4 e];cases iV kvs j with|none=>rfl|some x=>rw[HP,A4 e]
 .rw[A4 a];refine nN k j y kvs ?_;rw[xn] at a;cases q:iV kvs k with|none=>rfl|some x=>rw[q] at a;exact(a rfl).elim
def yp (kvs:oj (κ×V))(k:κ)(v:V):↑(lW kvs k v)<=↑kvs+1:=by
 unfold lW;split
 .rw[uc];omega
 .rw[uL,uB,HN];omega
variable {kvs:oj (κ×V)}
def qae {k:κ}(v:V)(h:iV kvs k=U_):lW kvs k v=kvs++ [(k,v)]:=by
 unfold lW;rw[xn,h];exact A4 ()
def nz.isSome_eq {o:om V}{u:om o6}(r:nz o u):o.isSome=u.isSome:=by
 cases o with
 |none=>cases u with
  |none=>rfl|some _=>exact(show False from r).elim
 |some _=>cases u with
  |none=>exact(show False from r).elim|some _=>rfl
def nz.getD {o:om V}{u:om o6}{d:V}{d':o6}(r:nz o u)(rd:ik d d'):ik (o.getD d) (u.getD d'):=by
 cases o with
 |none=>cases u with
  |none=>exact rd|some _=>exact(show False from r).elim
 |some _=>cases u with
  |none=>exact(show False from r).elim|some _=>exact r
variable {vs:oj (κ×o6)}
def KV.val (r:KV kvs vs)(k:κ):nz (iV kvs k) (VV vs k):=by
 unfold KV at r
 induction r with
 |nil=>exact VP| @cons p q ps qs h t ih=>
  erw[h,h1,h2];by_cases e:p.1=k
  .let O:q.1=k:=h1.symm.trans e;let b:VV (q::qs) k=u_ q.2:=by simp[VV,vf,O]
   rwa[QW e,b]
  .let O:¬q.1=k:=λz=>e (h1.trans z);let b:VV (q::qs) k=VV qs k:=by simp[VV,vf,O]
   rw[QJ e,b];exact ih
def KV.any (r:KV kvs vs)(k:κ):(kvs.any λkv=>decide (kv.1=k))=vs.any λkv=>decide (kv.1=k):=by
 unfold KV at r
 induction r with
 |nil=>rfl|cons h t O=>rw[UE,UE,O,h.1]
variable {y:V}{u:o6}
def KV.repl (r:KV kvs vs)(k:κ)(O:ik y u):
  KV (kvs.map λkv=>if kv.1=k then(kv.1,y) else kv) (vs.map λkv=>if kv.1=k then(kv.1,u) else kv):=by
 unfold KV at r⊢
 induction r with
 |nil=>exact .nil| @cons p q ps qs h t ih=>
  rw[uw,uw];refine .cons ?_ ih;erw[h,h1,h2];by_cases e:p.1=k
  .rw[A6 e,A6 (h1.symm.trans e)];exact[h1:O]
  .rw[A4 e,A4 (λz=>e (h1.trans z))];exact[h1:h2]
def KV.put (r:KV kvs vs)(k:κ)(O:ik y u):KV (lW kvs k y) (GL vs k u):=by
 unfold lW GL;rw[r.any k];by_cases e:(vs.any λkv=>decide (kv.1=k))=v_
 .rw[A6 e,A6 e];exact r.repl k O
 .rw[A4 e,A4 e];exact Paired.snoc r [1:O]
def KV.drop (r:KV kvs vs)(k:κ):KV (J8 kvs k) (without vs k):=by
 unfold KV at r⊢;unfold J8 without
 induction r with
 |nil=>exact .nil| @cons p q ps qs h t ih=>
  erw[h,h1,h2];rw[U0,U0];by_cases e:p.1=k
  .let a:¬decide (p.1≠k)=true:=by simp[e]
   let b:¬decide (q.1≠k)=true:=by simp[h1.symm.trans e]
   rw[A4 a,A4 b];exact ih
  .let O:¬q.1=k:=λz=>e (h1.trans z);let a:decide (p.1≠k)=true:=by simp[e]
   let b:decide (q.1≠k)=true:=by simp[O]
   rw[A6 a,A6 b];exact .cons [h1:h2] ih
def KV.keys (r:KV kvs vs):kvs.map (·.1)=vs.map (·.1):=by
 unfold KV at r
 induction r with
 |nil=>rfl|cons h t O=>rw[uw,uw,O,h.1]
def KV.length (r:KV kvs vs):↑kvs=↑vs:=Paired.length r
def B8 (kvs:oj (κ×V))(k:κ):↑(J8 kvs k)<=↑kvs:=UB _ _
end
variable {w:og}{u:o6}
def oY {P:o9}{k:Key}(r:ik (kV k) u):(Qo P w).is k u=true:=by
 cases k with
 |inl i=>obtain⟨t,e⟩:=(show∃t,u=GB i t from r);subst e;exact Ap P w i t|inr x=>obtain⟨t,e⟩:=(show∃t,u=VJ x t from r);subst e;exact wm P w x t
def oZ {P:o9}{w:og}:∀{ks:oj Key}{us:oj o6},iq (ks.map kV) us->ItemsAre (Qo P w) ks us
 | [],_,r=>by rw[U4] at r;cases r;exact .nil|k::ks,_,r=>by
  rw[uw] at r;cases r with
  |cons h t=>exact .cons (oY h) (oZ t)
nonrec abbrev KT (H:Hp):oj (oj Key×V)->oj (oj Key×o3×o6)->Prop:=Paired λp q=>p.1=q.1/\H q.2.1=u_ (.tup (p.1.map kV))/\ik p.2 q.2.2
variable {H:Hp}
def KT.val {kvs:oj (oj Key×V)}{xs:oj (oj Key×o3×o6)}(r:KT H kvs xs)(k:oj Key):nz (iV kvs k) ((Go xs k).map (·.2)):=by
 induction r with
 |nil=>exact VP| @cons p q ps qs h t ih=>
  erw[h,h1,_,h2];by_cases e:p.1=k
  .let O:q.1=k:=h1.symm.trans e;let b:Go (q::qs) k=u_ q.2:=by simp[Go,vf,O]
   rwa[QW e,b]
  .let O:¬q.1=k:=λz=>e (h1.trans z);let b:Go (q::qs) k=Go qs k:=by simp[Go,vf,O]
   rw[QJ e,b];exact ih
variable {y:V}
def KT.repl {kvs:oj (oj Key×V)}{xs:oj (oj Key×o3×o6)}(r:KT H kvs xs)(k:oj Key)(O:ik y u):
  KT H (kvs.map λkv=>if kv.1=k then(kv.1,y) else kv) (xs.map (putAt k u)):=by
 induction r with
 |nil=>exact .nil| @cons p q ps qs h t ih=>
  rw[uw,uw];refine .cons ?_ ih;erw[h,h1,h2,h3];unfold putAt;by_cases e:p.1=k
  .rw[A6 e,A6 (h1.symm.trans e)];exact[h1:h2:O]
  .rw[A4 e,A4 (λz=>e (h1.trans z))];exact[h1:h2:h3]
variable {b:o3}
def KT.put {kvs:oj (oj Key×V)}{xs:oj (oj Key×o3×o6)}(r:KT H kvs xs)(k:oj Key)(U:H b=u_ (.tup (k.map kV)))(O:ik y u):
  KT H (lW kvs k y) (storedH xs k b u):=by
 let e:(kvs.any λkv=>decide (kv.1=k))=(Go xs k).isSome:=by
  rw[xn,(r.val k).isSome_eq,T1]
 unfold lW storedH;rw[e];by_cases q:(Go xs k).isSome=v_
 .rw[A6 q,A6 q];exact r.repl k O
 .rw[A4 q,A4 q];exact Paired.snoc r [1:U:O]
variable {H':Hp}
def KT.keeps {kvs:oj (oj Key×V)}{xs:oj (oj Key×o3×o6)}(r:KT H kvs xs)(O:∀b ys,H b=u_ (¬ys)->H' b=u_ (¬ys)):KT H' kvs xs:=
 Paired.mapP r λ_ _ z=>[z.1:O _ _ z.2.1:z.2.2]
section
variable {P:o9}{w:og}{H:Hp}{h:o8}{a:o3}
def Aba {u:HO}(ok:HOk P w H h)(e:Rd H a u):yu P w H h a u:=e.ok ok
def Kt {kvs:oj (Key×V)}(ok:HOk P w H h)(e:Rd H a (.dK kvs)):↑kvs<=Vm/\(a==VG)=Vi/\∃vs,KV kvs vs/\h.DictOf (Qo P w) a vs:=
 show yu P w H h a (.dK kvs) from Aba ok e
def ME {kvs:oj (Key×V)}(ok:HOk P w H h)(e:H a=u_ (.dK kvs)):↑kvs<=Vm/\(a==VG)=Vi/\∃vs,KV kvs vs/\h.DictOf (Qo P w) a vs:=Kt ok (.inl e)
def kZ {ks:oj Key}(ok:HOk P w H h)(e:H a=u_ (.tup (ks.map kV))):(G_ (Qo P w)).is h ks a:=by
 obtain⟨_,its,r,o,h1,h2,n,h3⟩:=(show yu P w H h a (.tup (ks.map kV)) from ok a _ e)
 exact(o,its.toArray,n,h1,h2,h3,by simpa using oZ r)
def AF {kvs:oj (oj Key×V)}(ok:HOk P w H h)(e:Rd H a (.dT kvs)):↑kvs<=Vm/\(a==VG)=Vi/\
  ∃xs,KT H kvs xs/\h.DictOfH (G_ (Qo P w)) a xs:=by
 obtain⟨z,y,xs,r,o,es,ep,h1,h2,h3,h4,h5⟩:=(show yu P w H h a (.dT kvs) from Aba ok e)
 exists z,y,xs,r,o,es,ep,h1,h2,h3,h4,λx O=>?_,h5;let all:∀{l:oj (oj Key×V)}{m:oj (oj Key×o3×o6)},KT H l m->∀x>m,(G_ (Qo P w)).is h x.1 x.2.1:=by
  intro l m q
  induction q with
  |nil=>intro x O;exact nomatch O| @cons p q ps qs hq t ih=>
   intro x O;rcases Aa.mp O with e|O
   .subst e;exact kZ ok (by rw[<-hq.1];exact hq.2.1)
   .exact ih x O
 exact all r x O
def AdD {kvs:oj (oj Key×V)}(ok:HOk P w H h)(e:H a=u_ (.dT kvs)):↑kvs<=Vm/\(a==VG)=Vi/\
  ∃xs,KT H kvs xs/\h.DictOfH (G_ (Qo P w)) a xs:=AF ok (.inl e)
end
abbrev mO (H:Hp)(a:o3)(y:V)(r:om V):Prop:=
 (∃kvs k,Rd H a (.dK kvs)/\y=kV k/\r=iV kvs k)\/∃kvs k b,Rd H a (.dT kvs)/\y= .ref b/\H b=u_ (.tup (k.map kV))/\r=iV kvs k
abbrev IP (H:Hp)(a:o3)(y v:V)(H':Hp):Prop:=
 (∃kvs k,H a=u_ (.dK kvs)/\y=kV k/\↑kvs<Vm/\H'=upd H a (.dK (lW kvs k v)))\/
 ∃kvs k b,H a=u_ (.dT kvs)/\y= .ref b/\H b=u_ (.tup (k.map kV))/\↑kvs<Vm/\H'=upd H a (.dT (lW kvs k v))
def mO.k {H:Hp}{a:o3}{kvs:oj (Key×V)}{k:Key}(e:H a=u_ (.dK kvs)):mO H a (kV k) (iV kvs k):= .inl (kvs,k,.inl e,1,1)
def IP.k {H:Hp}{a:o3}{kvs:oj (Key×V)}{k:Key}{v:V}(e:H a=u_ (.dK kvs))(O:↑kvs<Vm):IP H a (kV k) v (upd H a (.dK (lW kvs k v))):= .inl (kvs,k,e,1,O,1)
section
variable {X:Cx}{oq:oj (o3×Obj)}{σ:St}{H:Hp}{s:o7}{a:o3}{y v:V}{u r:o6}{o:om V}{A:oh}{E:o6->o7->Prop}
def Inv.big (I:#[I]):VG<#[0,s]:=by
 let h:VF<#[0,s]:=(I.mod.glob.keeps I.bk).lt;exact HJ () h
def Iy {Q:o6->o7->Prop}(hu:A.units+1<Vr)(I:#[I])(g:mO H a y (u_ v))(ry:ik y u)(h:∀U s',Inv X oq σ H s'->ik v U->Q U s'):
  Vj #[X,X] A (VQ (-a) u) Q E s:=by
 rcases g with⟨kvs,k,e,Z,l⟩|⟨kvs,k,b,e,Z,eb,l⟩
 .subst Z;erw[Kt I.hok e,z,hd,vs,rel,dd];obtain⟨U,hw,O⟩:=nz.some_of (v:=v) (o:=VV vs k) (by rw[l];exact rel.val k)
  exact R9 (oY ry) dd.mapOf hw (h U _ (I.tok _) O)
 .subst Z;cases(show u=Vo b from ry)
  erw[AF I.hok e,z,hd,xs,rel,dd];obtain⟨U,hw,O⟩:=nz.some_of (v:=v) (o:=(Go xs k).map (·.2)) (by rw[l];exact rel.val k)
  erw[Option.map_eq_some_iff.mp hw,p,hp,aa];refine wpAny_getItem_heap (Ut hu) (kZ I.hok eb) dd hp ?_;rw[aa];exact h U _ (I.tok _) O
def AeR {Q:o6->o7->Prop}(Z:A.units+1<Vr)(I:#[I])(g:mO H a y o)(U:ik y u)(h:∀s',Inv X oq σ H s'->Q (.bool o.isSome) s'):
  Vj #[X,X] A (Vs .In u (-a)) Q E s:=by
 rcases g with⟨kvs,k,e,O,l⟩|⟨kvs,k,b,e,O,eb,l⟩
 .subst O;erw[Kt I.hok e,z,hd,vs,rel,dd];refine Rs (oY U) hd dd.mapOf ?_;rw[<-(rel.val k).isSome_eq,<-l];exact h _ (I.tok _)
 .subst O;cases(show u=Vo b from U)
  erw[AF I.hok e,z,hd,xs,rel,dd];refine wpAny_in_heap (Ut Z) (kZ I.hok eb) hd dd ?_;let q:=(rel.val k).isSome_eq;rw[T1] at q;rw[<-q,<-l];exact h _ (I.tok _)
def SX {Q:o6->o7->Prop}(Z:A.units+1<Vr)(I:#[I])(g:mO H a y o)(U:ik y u)(h:∀s',Inv X oq σ H s'->Q (.bool (!(o.isSome))) s'):
  Vj #[X,X] A (Vs .NotIn u (-a)) Q E s:=by
 rcases g with⟨kvs,k,e,O,l⟩|⟨kvs,k,b,e,O,eb,l⟩
 .subst O;erw[Kt I.hok e,z,hd,vs,rel,dd];refine rN (oY U) hd dd.mapOf ?_;rw[<-(rel.val k).isSome_eq,<-l];exact h _ (I.tok _)
 .subst O;cases(show u=Vo b from U)
  erw[AF I.hok e,z,hd,xs,rel,dd];refine wpAny_notIn_heap (Ut Z) (kZ I.hok eb) hd dd ?_;let q:=(rel.val k).isSome_eq;rw[T1] at q;rw[<-q,<-l];exact h _ (I.tok _)
variable {h':o8}{t':Nat}
def KP {ob:HO}(I:#[I])(mu:Mut (H a))(O:VW a s.heap h')(U:∃q,h'.get? a=u_ q)(new:yu X.prog X.w (upd H a ob) h' a ob)(ht:0<t':=by ac_rfl):
  Inv X oq σ (upd H a ob) {s with heap:=h',toks:=t'}:=
 I.write (x:=a) (e:=a) mu (.inl rfl) (λb q Z z=>(O.2 b Z).trans z) U new
def sC {P:o9}{kvs:oj (Key×V)}{vs:oj (Key×o6)}(z:↑kvs<=Vm)(hd:(a==VG)=Vi)(rel:KV kvs vs)(dd:h'.DictOf (Qo P w) a vs):
  yu P w H' h' a (.dK kvs):=(z,hd,vs,rel,dd)
def Ix {Q:Unit->o7->Prop}(hu:A.units+1<Vr)(I:#[I])(g:IP H a y v H')(ry:ik y u)(rv:ik v r)(h:∀s',Inv X oq σ H' s'->Q GG s'):
  Vj #[X,X] A (TR (-a) u r) Q E s:=by
 rcases g with⟨kvs,k,e,Z,l,eH⟩|⟨kvs,k,b,e,Z,eb,l,eH⟩
 .subst Z eH;erw[ME I.hok e,z,hd,vs,rel,dd];let hz:↑vs<=sizeLine:=by rwa[<-↑rel]
  let hl:↑(lW kvs k v)<=sizeLine:=by have:=yp kvs k v;omega
  refine wpAny_setItem_pairs (hsz:=hz) (oY ry) dd λh' O hs=>h _ ?_;let he:∃q,h'.get? a=u_ q:=let⟨q,_,_,U,_⟩:=O;[q:U];exact KP I (by rw[e];exact VP) hs he (sC hl hd (rel.put k rv) O)
 .subst Z eH;cases(show u=Vo b from ry)
  erw[AdD I.hok e,z,hd,xs,rel,dd];let hz:↑xs<=sizeLine:=by rwa[<-Paired.length rel]
  let hl:↑(lW kvs k v)<=sizeLine:=by have:=yp kvs k v;omega
  refine wpAny_setItem_heap (hsz:=hz) (Ut hu) (kZ I.hok eb) dd λh' O hs=>h _ ?_;erw[O,q,es,ep,U,h2,h3,h4,_,h5];refine KP I (by rw[e];exact VP) hs [q:U] (hl,hd,_,(rel.put k eb rv).keeps λc ys ec=>?_,q,es,ep,U,h2,h3,h4,h5)
  rw[qj (Adj ec e (λz=>nomatch z))];exact ec
end
section
variable {X:Cx}{oq:oj (o3×Obj)}{σ:St}{H:Hp}{s:o7}{a:o3}{kvs:oj (Key×V)}{k:Key}{u:o6}{A:oh}{E:o6->o7->Prop}
def AdE {v:V}{more:oj o6}{Q:o6->o7->Prop}(I:#[I])(e:H a=u_ (.dK kvs))(Z:ik (kV k) u)(l:iV kvs k=u_ v)(hm:more= []\/∃x,more= [x])
  (h:∀O s',Inv X oq σ (upd H a (.dK (J8 kvs k))) s'->ik v O->Q O s'):Vj #[X,X] A (call (.builtin "dict.pop") (.ref a::u::more)) Q E s:=by
 erw[ME I.hok e,z,hd,vs,rel,dd];obtain⟨O,hw,aa⟩:=nz.some_of (v:=v) (o:=VV vs k) (by rw[<-l];exact rel.val k)
 let hp:(keyPart u).isSome=true:=by
  cases k with
  |inl i=>obtain⟨t,q⟩:=(show∃t,u=GB i t from Z);subst q;rfl|inr x=>obtain⟨t,q⟩:=(show∃t,u=VJ x t from Z);subst q;rfl
 let ha:argsOk "dict.pop" ⟨.ref a::u::more,[]⟩:=by
  rcases hm with q|⟨x,q⟩
  .subst q;exact PySem.F.args_dict_pop_2 _ _
  .subst q;exact PySem.F.args_dict_pop_3 _ _ _
 refine HQ PySem.F.slot_dict_pop dd.typeIs PySem.F.entry_dict_pop ha (meets_dict_pop_there (Qo X.prog X.w) a (oY Z) more hm hp)
  (vs,O,dd,by rwa[<-↑rel],hw,λh' U hs=>h O _ ?_ aa)
 let he:∃q,h'.get? a=u_ q:=let⟨q,_,_,hq,_⟩:=U;[q:hq];exact KP I (by rw[e];exact VP) hs he (sC (uY (B8 kvs k) z) hd (rel.drop k) U)
def AdF {Q:o6->o7->Prop}(I:#[I])(e:Rd H a (.dK kvs))(h:∀t s',Inv X oq σ H s'->Q (.int ↑kvs t) s'):Vj #[X,X] A (call (.builtin "len") [-a]) Q E s:=by
 erw[Kt I.hok e,z,hd,vs,rel,dd];refine call_len_dict hd dd (by rw[<-↑rel];rw[uE] at z;omega) ?_
 rw[<-↑rel];exact h _ _ (I.tok _)
end
abbrev Aen (i:Expr):Prop:=∀ov iv,GR i Vi ov iv=Hv [ov,iv] (VQ ov iv)
def Oh {prog:o9}{w:og}{A:oh}{E:o6->o7->Prop}{s:o7}{env:Env}{value slice:Expr}{pos:Pos}{T id:String}{Q:o6->o7->Prop}
  (hl:tu (.type T) "__getitem__"=pure (u_ (.builtin id))) (hs:Aen slice)
  (h:Vj #[w,w] A (eval value env) (λo Z=>Vj #[w,w] A (eval slice env) (λi O=>O.TypeIs o T/\Vj #[w,w] A (VQ o i) Q E O) E Z) E s):
  Vj #[w,w] A (eval (.Subscript value slice pos) env) Q E s:=by
 refine Hf (vz h (λo Z h₁=>vz h₁ (λi O U=>?_) λ_ _ x=>x) λ_ _ x=>x);erw[U,hT,U];unfold Hk;refine A7 ?_;rw[getitemInPython_of_ne hT.not_modules];refine A7 (wpAny_specialOf hT hl ?_);let fin:Vj #[w,w] A (GR slice Vi o i) (λr s₃=>Vj #[w,w] A (letTemporaryGo value o r>>=λ_=>pure r) Q E s₃) E O:=by
  rw[hs o i];exact wpAny_operating (vz U (λr s₃ h₃=>A7 (wpAny_letTemporaryGo (uD h₃))) λ_ _ x=>x)
 first
  |exact uD (A7 fin)
  |exact A7 (uD (A7 fin))
  |exact A7 fin
variable {X:Cx}{oq:oj (o3×Obj)}{σ:St}{s:o7}{a:o3}
def AJ {o:om V}(I:#[I])(g:mO H a y o):s.TypeIs (-a) "dict":=by
 rcases g with⟨kvs,k,e,_,_⟩|⟨kvs,k,b,e,_,_,_⟩
 .erw[Kt I.hok e,_,_,vs,_,dd];exact dd.typeIs
 .erw[AF I.hok e,_,_,xs,_,dd];exact dd.typeIs
inductive NW (Q:VK)(x:V)(y:V)(H2:Hp):Prop
 |mk (a:_)(v:_)(_:x=-a)(_:mO H2 a y (u_ v))(_:Q v H2)
abbrev Ac1 (td ty:TE):TE:=λσ H Q=>td σ H λx H1=>ty σ H1 λy H2=>NW Q x y H2
inductive AdP (Q:VK)(y:V)(x:V)(H2:Hp):Prop
 |mk (a:_)(o:_)(_:x=-a)(_:mO H2 a y o)(_:Q (.bl o.isSome) H2)
abbrev Aew (ty td:TE):TE:=λσ H Q=>ty σ H λy H1=>td σ H1 λx H2=>AdP Q y x H2
inductive MQ (Q:VK)(y:V)(x:V)(H2:Hp):Prop
 |mk (a:_)(o:_)(_:x=-a)(_:mO H2 a y o)(_:Q (.bl (!(o.isSome))) H2)
abbrev Og (ty td:TE):TE:=λσ H Q=>ty σ H λy H1=>td σ H1 λx H2=>MQ Q y x H2
inductive AcA (D:nc)(σ:St)(v:V)(x:V)(y:V)(H3:Hp):Prop
 |mk (a:_)(H4:_)(_:x=-a)(_:IP H3 a y v H4)(_:D.nx σ H4)
abbrev Ac8 (td ty tv:TE):TS:=λD σ H=>tv σ H λv H1=>td σ H1 λx H2=>ty σ H2 λy H3=>AcA D σ v x y H3
section
variable {X:Cx}{o i e value:Expr}{pos pos' tpos:Pos}{td ty tv:TE}
def QC (Z:X.A.units+1<Vr)(ho:PE X o td)(hi:PE X i ty)(hs:Aen i):PE X (.Subscript o i pos) (Ac1 td ty):=by
 exists 2,Q,I,h;refine Oh PySem.F.slot_dict_getitem.lookup hs (thn (ho oq s σ H _ I h) λu s1 ⟨x,H1,I1,rx,q1⟩=>thn (hi oq s1 σ H1 _ I1 q1) λiv s2 zq=>?_);erw[zq,y,H2,U,ry,a,v,ex,g,q2];subst ex;obtain rfl:u=Vo a:=rx;exact[AJ U g:Iy Z U g ry λw' s3 I3 O=>(v,H2,I3,O,q2)]
def pc_din (O:X.A.units+1<Vr)(hi:PE X i ty)(U:PE X o td):PC X .In i o (Aew ty td):=by
 exists 2,Q,I,h;refine thn (hi oq s σ H _ I h) λiv s1 ⟨y,H1,Z,ry,q1⟩=>thn (U oq s1 σ H1 _ Z q1) λu s2 zq=>?_;erw[zq,x,H2,I2,rx,a,ov,ex,g,q2];subst ex;obtain rfl:u=Vo a:=rx;exact AeR O I2 g ry λs3 I3=>(.bl ov.isSome,H2,I3,1,q2)
def oy (O:X.A.units+1<Vr)(hi:PE X i ty)(U:PE X o td):PC X .NotIn i o (Og ty td):=by
 exists 2,Q,I,h;refine thn (hi oq s σ H _ I h) λiv s1 ⟨y,H1,Z,ry,q1⟩=>thn (U oq s1 σ H1 _ Z q1) λu s2 zq=>?_;erw[zq,x,H2,I2,rx,a,ov,ex,g,q2];subst ex;obtain rfl:u=Vo a:=rx;exact SX O I2 g ry λs3 I3=>(.bl (!(ov.isSome)),H2,I3,1,q2)
def JT (O:X.A.units+1<Vr)(U:PE X o td)(hi:PE X i ty)(Z:PE X value tv)(hs:He value (u_ (.Subscript o i pos')) pos.line X.env=pure Vi):
  PS X (.Assign [.Subscript o i pos'] value pos) (Ac8 td ty tv):=by
 exists 2,D,I,h;refine wpAny_Assign_Subscript (thn (Z oq s σ H _ I h) λr s1 ⟨v,H1,I1,rv,q1⟩=>thn (U oq s1 σ H1 _ I1 q1) λu s2 ⟨x,H2,I2,rx,q2⟩=>thn (hi oq s2 σ H2 _ I2 q2) λiv s3 zq=>?_) hs;erw[zq,y,H3,I3,ry,a,H4,ex,g,q3];subst ex;obtain rfl:u=Vo a:=rx;exact Ix O I3 g ry rv λs4 I4=>(σ,H4,I4,q3)
end
def MF {P:o9}(h:o8)(O:VG<h.objs.size):yu P w H (h.push {cls:= .type "dict",data:= .dict #[]}) h.objs.size (.dK []):=
 (vc _,beq_eq_false_iff_ne.mpr (U6 (vb O)),[],.nil,rn h)
abbrev AaK:TE:=λ_ H Q=>∀p,H p=U_->Q (-p) (upd H p (.dK []))
section
variable {X:Cx}{pos:Pos}
def xo:PE X (.Dict [] [] pos) AaK:=λoq s σ H Q I h=>
 wpAny_Dict_empty (.ref #[0,s],_,I.laid (a:=#[0,s]) (o:= .dK []) (t':=s.toks) (λ_ _ q=>ud _ q) (uq _) (MF s.heap I.big),1,h _ (I.hok.fresh (uq _)))
end
structure M1 (X:Cx)(o:Expr)(m:Str)(apos:Pos)(e:Expr)(cpos:Pos):Prop where
 base:GH o m X.env (eval o X.env)=eval o X.env
 few:((Vv cpos (Vn [e] X.env)).all (λx=> !(x).1)&&(Gn cpos (Gm [] X.env)).all (λx=>x.1.isSome)
  &&decide (↑([e]:oj Expr)+↑([]:oj Gy)+(if([]:oj Gy).isEmpty then 0 else 1)<30))=v_
 line:(apos.endLine==cpos.line)=v_
 trees:Vv cpos (Vn [e] X.env)= [(Vi,eval e X.env)]
structure M2 (X:Cx)(o:Expr)(m:Str)(apos:Pos)(e f:Expr)(cpos:Pos):Prop where
 base:GH o m X.env (eval o X.env)=eval o X.env
 few:((Vv cpos (Vn [e,f] X.env)).all (λx=> !(x).1)&&(Gn cpos (Gm [] X.env)).all (λx=>x.1.isSome)
  &&decide (↑([e,f]:oj Expr)+↑([]:oj Gy)+(if([]:oj Gy).isEmpty then 0 else 1)<30))=v_
 line:(apos.endLine==cpos.line)=v_
 trees:Vv cpos (Vn [e,f] X.env)= [(Vi,eval e X.env),(Vi,eval f X.env)]
abbrev IsD (H:Hp)(a:o3):Prop:=(∃kvs,Rd H a (.dK kvs))\/∃kvs,Rd H a (.dT kvs)
def EU (I:#[I])(d:IsD H a):
  s.TypeIs (-a) "dict"/\(∀b,Vo a= .ref b->∃ob,s.heap.get? b=u_ ob/\ob.dict=U_)/\(a==VG)=false:=by
 rcases d with⟨kvs,e⟩|⟨kvs,e⟩
 .erw[Kt I.hok e,_,hd,vs,_,dd];exists dd.typeIs,λb q=>?_,hd;cases q;erw[dd,ob,_,_,h1,h2,_];exact[ob:h1:h2.2.1]
 .erw[AF I.hok e,_,hd,xs,_,dd];exists dd.typeIs,λb q=>?_,hd;cases q;erw[dd,ob,_,_,h1,h2,_];exact[ob:h1:h2.2.1]
section
variable {X:Cx}{oq:oj (o3×Obj)}{σ:St}{H:Hp}{s:o7}{a:o3}{y d:V}{u r:o6}{o:om V}{A:oh}{E:o6->o7->Prop}
def Acd {Q:o6->o7->Prop}(hu:A.units+1<Vr)(I:#[I])(g:mO H a y o)(U:ik y u)(h:∀Z s',Inv X oq σ H s'->ik (o.getD .non) Z->Q Z s'):
  Vj #[X,X] A (call (.builtin "dict.get") [-a,u]) Q E s:=by
 rcases g with⟨kvs,k,e,O,l⟩|⟨kvs,k,b,e,O,eb,l⟩
 .subst O;erw[Kt I.hok e,z,hd,vs,rel,dd];refine HQ PySem.F.slot_dict_get dd.typeIs PySem.F.entry_dict_get (PySem.F.args_dict_get_2 _ _) (meets_dict_get (Qo X.prog X.w) a (oY U) hd) [_:dd.mapOf:h _ _ (I.tok _) ?_];rw[l];exact(rel.val k).getD rfl
 .subst O;cases(show u=Vo b from U)
  erw[AF I.hok e,z,hd,xs,rel,dd];refine HQ PySem.F.slot_dict_get dd.typeIs PySem.F.entry_dict_get (PySem.F.args_dict_get_2 _ _) (meetsH_dict_get (G_ (Qo X.prog X.w)) a b hd) (Ut hu,k,xs,kZ I.hok eb,dd,h _ _ (I.tok _) ?_);rw[l];exact(rel.val k).getD rfl
end
inductive Aad (ty:TE)(σ:St)(Q:VK)(x:V)(H1:Hp):Prop
 |mk (a:_)(_:x=-a)(_:IsD H1 a)(_:ty σ H1 λy H2=>∃o,mO H2 a y o/\Q (o.getD .non) H2)
abbrev AaL (td ty:TE):TE:=λσ H Q=>td σ H λx H1=>Aad ty σ Q x H1
inductive Aac (ty:TE)(σ:St)(Q:VK)(x:V)(H1:Hp):Prop
 |mk (a:_)(_:x=-a)(_:IsD H1 a)(_:ty σ H1 λy H2=>∃kvs k v,H2 a=u_ (.dK kvs)/\y=kV k/\iV kvs k=u_ v/\Q v (upd H2 a (.dK (J8 kvs k))))
abbrev AaJ (td ty:TE):TE:=λσ H Q=>td σ H λx H1=>Aac ty σ Q x H1
section
variable {X:Cx}{o e f:Expr}{apos cpos:Pos}{td ty tx:TE}
def KR (Z:X.A.units+1<Vr)(ho:PE X o td)(he:PE X e ty)(m:M1 X o "get" apos e cpos):PE X (.Call (.Attribute o "get" apos) [e] [] cpos) (AaL td ty):=by
 exists 2,Q,I,h;refine Fd m.base m.few m.line US PySem.F.slot_dict_get PySem.F.type_dict_get (thn (ho oq s σ H _ I h) λu s1 zq=>?_);erw[zq,x,H1,U,rx,a,ex,d,q1];subst ex;obtain rfl:u=Vo a:=rx;erw[EU U d,t1,t2,_];exists t1,t2;rw[m.trees];refine U9 rfl (Uj (Ur (thn (he oq s1 σ H1 _ U q1) λiv s2 ⟨y,H2,I2,ry,ov,g,q2⟩=>V3 ?_)));exact Acd Z I2 g ry λw' s3 I3 O=>(_,H2,I3,O,q2)
def LI (Z:PE X o td)(he:PE X e ty)(m:M1 X o "pop" apos e cpos):PE X (.Call (.Attribute o "pop" apos) [e] [] cpos) (AaJ td ty):=by
 exists 2,Q,I,h;refine Fd m.base m.few m.line US PySem.F.slot_dict_pop PySem.F.type_dict_pop (thn (Z oq s σ H _ I h) λu s1 zq=>?_);erw[zq,x,H1,U,rx,a,ex,d,q1];subst ex;obtain rfl:u=Vo a:=rx;erw[EU U d,t1,t2,_];exists t1,t2;rw[m.trees];refine U9 rfl (Uj (Ur (thn (he oq s1 σ H1 _ U q1) λiv s2 ⟨y,H2,I2,ry,kvs,k,v,ea,ey,l,q2⟩=>V3 ?_)));subst ey;exact AdE I2 ea ry l (.inl rfl) λw' s3 I3 O=>(v,_,I3,O,q2)
end
end L2
namespace Att
open PySem PySem.W PySem.Calls PyProof.Rows
variable {h:o8}
def Ww {P:HK}:∀(ns:oj Int) (vs:oj o6),WellAll P h vs (ns.map WData.int)->GK vs ns:=by
 intro ns
 induction ns with
 |nil=>
  intro vs w;rw[U4] at w;cases w;exact .nil
 |cons n ns O=>
  intro vs w;rw[uw] at w;cases w with
  |cons a b=>
   cases a;exact .cons _ _ (O _ b)
def DB {l:OpenLaw}{n:Nat}(hn:l.most=u_ n){P:HK}{h:o8}{args:oj WData}{O:oj o6}
  (U:l.row.toRowW.claim.pre args=v_) (ac:WellAll P h O args):
  ∃a vs ns,O= [Vo a]/\args= [WData.list (ns.map WData.int)]/\h.get? a=u_ {cls:= .type "list",data:= .seq vs.toArray}/\GK vs ns/\↑ns<=n:=by
 let ad:WShape.hasAll [] args [.list .int]=true:=(pre_splitW U).1;let hc:l.pre.holds [] {args:=args}=true:=(pre_splitW U).2;erw[hasAllW_cons ad,d,r,rfl,h1,h2];obtain rfl:=hasAllW_nil h2;erw[hasW_list h1,xs,rfl,h3];erw[items_int h3,ns,rfl];let Z:↑ns<=n:=by
  unfold OpenLaw.pre at hc;let h4:(WTm.not (.lt (.lit (.int (n:Int))) (.len (.arg 0)))).holds [] {args:= [.list (ns.map .int)]}=true:=by
   let h4:=(holds_andW hc).1;rwa[hn] at h4
  let h5:=condW_of h4 (w_not (w_lt w_lit (w_len_list (w_arg rfl))));rw[uc] at h5;refine Nat.le_of_not_lt λq=>?_;let q':(n:Int)<((↑ns:Nat):Int):=by omega
  first
   |(rw[ug q'] at h5;exact A8 h5 ())
   |(simp at h5;omega)
 cases ac with
 |cons w1 w2=>
  cases w2;cases w1 with
  |list ho aa=>exact(_,_,ns,1,1,ho,Ww ns _ aa,Z)
def DR (l:OpenLaw)(args:oj WData):l.row.toRowW.claim.post args (.bool v_) args=true:=
 postW_of (r:=l.row.toRowW) (X:=(v_==v_))
  (show WShape.has [] (.bool v_) .bool=v_ by first|rfl|decide|simp[WShape.has,WShape.arms,WShape.armsAll])
  (show(WTm.eq .res (.lit (.bool v_))).value [] {args:=args,res:=u_ (.bool v_),after:=args}=u_ (.bool (v_==v_)) from w_eq_bool (w_res rfl) w_lit) rfl
def attach_call {l:OpenLaw}{n:Nat}{q:o9}{O:oj Str}{XP:(Str->om o6)->o8->Prop}{YP:og->o8->Prop}{d:DefRec}
  (hn:l.most=u_ n) (ad:d.params.defaults= [])
  (call:∀(w:og) (s₀ U:o7) (mg mb:Str->om o6) (fa:o3) (o:Obj) (pm cd doc:o6) (a:o3) (vs:oj o6) (ns:oj Int),
   Ground q O [] XP w s₀ mg mb U.heap->YP w U.heap->
   U.heap.get? fa=u_ o->o.data= .func (docDef d.name d.params d.body d.scope pm cd doc)->U.heap.CodeRec cd d.name->mg d.name=u_ (-fa)->
   U.heap.get? a=u_ {cls:= .type "list",data:= .seq vs.toArray}->GK vs ns->↑ns<=n->U.gens= #[]->
   VS (Vz l.prog w) GC (.call (-fa) [[-a]:[]]) (λr s'=>r= .ok (.ret (.bool v_))/\OldK U.heap s'.heap/\s'.os=U.os/\gV s'.gens) U):
  WalkO q O XP YP l.row.toRowW d [] (λf vs=>PySem.call f vs):=by
 intro w s₀ U mg mb G Y fa o pm cd doc dV kV ho hd ae hD af hg args ag as hpre hlay hrd hwl hlo;obtain rfl:dV= .none:=Dflts.none hD ad;obtain rfl:kV= .none:=Dflts.noKw hD;erw[DB hn hpre hwl,a,vs,ns,rfl,rfl,aa,Z,ac];refine enter_call (Uy (call w s₀ U mg mb fa o pm cd doc a vs ns G Y ho (fd_plain hd) ae af aa Z ac hg) λr s' hq=>?_);erw[hq,rfl,h2,h3,h4];exact(.inl (.bool v_,.bool v_,[],1,λ_=>rfl,.bool v_,DR l _,λ_=>[Rm:λ_ hm=>(nomatch hm)]),h2,h3,h4)
end Att
namespace L2
open PySem PySem.Spec PyProof.Rows
def nK:∀{vs:oj o6}{ns:oj Int},GK vs ns->iq (ns.map V.int) vs
 |_,_,.nil=> .nil|_,_,.cons n t h=> .cons [t:1] (nK h)
abbrev AcL (H:Hp):Prop:=∀b,H b=U_\/∃o xs,H b=u_ (.frz o (.lst xs))
def Mo {P:o9}{w:og}{K:o0}{mg mb:Str->om o6}{CX:CXT}{k:Nat}{fa a:o3}{fd:Vk}{x:Str}{sp:Sp}{O:o7}{vs:oj o6}{ns:oj Int}
  (KX:K.In O.heap) (ae:O.heap.Ns VF mg) (Z:O.heap.Ns TW mb) (am:∀x:Str,x≠"__name__"->mb x=hV x) (af:O.heap.NoLimit) (hg:O.gens= #[])
  (ha:O.heap.get? a=u_ {cls:= .type "list",data:= .seq vs.toArray}) (hi:GK vs ns) (hl:↑ns<=Vm) (hr:mD k GC)
  (F:∀base:o8,K.In base->base.Ns VF mg->FnOk P w K mg base CX k fa fd [x] sp) (ad:∀(s:o7) (u:o6),hZ s fd [[u]:[]] [(x,u)])
  (ag:fd.scope.names.lookup x=u_ .local) (ao:∀H:Hp,AcL H->SqL K H a (ns.map V.int)->sp [-a] H (λv _=>v= .bl v_) λ_ _ _=>False)
  (ap:∀H e s',CX [] H O (λ_ _ _=>False) e s'->False):
  VS (Vz P w) GC (.call (-fa) [[-a]:[]]) (λr s'=>r= .ok (.ret (.bool v_))/\OldK O.heap s'.heap/\s'.os=O.os/\gV s'.gens) O:=by
 let rv:=nK hi;let ah:=↑hi;let ac:∀H:Hp,AcL H->SqL K H a (ns.map V.int)->HOk P w H O.heap->(∀b,H b≠U_->b=a)->(H a≠U_->K.lookup a=U_)->
   VS (Vz P w) GC (.call (-fa) [[-a]:[]]) (λr s'=>r= .ok (.ret (.bool v_))/\OldK O.heap s'.heap/\s'.os=O.os/\gV s'.gens) O:=by
  intro H hO hS hok hA hK;let U:∀{b:o3}{o:Obj},O.heap.get? b=u_ o->H b=U_->(Mw O.heap H).get? b=u_ o:=λe n=>Mu e n;let aq:∀{b:o3}{o:Obj}{es:Array GX}{ep:Nat},O.heap.get? b=u_ o->o.data= .dict es ep->H b=none:=λ{b o es ep} e d=>by
   cases q:H b with
   |none=>rfl|some u=>
    let e':b=a:=hA b (by rw[q];simp)
    subst e';rw[ha] at e;cases e;let d':Data.seq vs.toArray _=Data.dict es ep:=d;cases d'
  let aa:∀{b:o3}{m:Str->om o6},O.heap.Ns b m->(Mw O.heap H).Ns b m:=λ{b m} ⟨o,es,ep,e,d,r⟩=>(o,es,ep,U e (aq e d),d,r);let ak:K.In (Mw O.heap H):=λb o e=>U (KX b o e) (by
   cases q:H b with
   |none=>rfl|some u=>
    let e':b=a:=hA b (by rw[q];simp)
    subst e';rw[hK (by rw[q];simp)] at e;cases e)
  let hM:Mod K mg (Mw O.heap H):=(ak,aa ae,[mb:aa Z:am],let⟨mc,h1,h2⟩:=af;[mc:aa h1:h2]);let e0:Aai P w K mg (Mw O.heap H) GC [] O H:=(1,hM,λb o e=>Sc e,Ra (EY _ _),trivial,λb Z=>A8 (show b>([]:oj o3) from Z) (by simp),hok,.of_eq hg)
  refine Uy ((F _ ak (aa ae)).run GC [] O H [[-a]:[]] [-a] [-a] _ _ hr e0 (ad O (-a)) (.cons rfl .nil) (ao H hO hS) (.inr [_:0:ag])) λr s' h=>?_;cases r with
  |error e=>exact(ap H e s' h).elim|ok fl=>
   cases fl with
   |next=>exact VA h|brk=>exact VA h|cont=>exact VA h|ret u=>
    erw[h,v,H',os,bare,htk,un,al,r',q];let q':v= .bl true:=q;subst q';obtain rfl:u=GQ true:=r';exists 1,OldK.of_keep λb o e=>?_,os,bare;cases q:H b with
    |none=>exact un.keep b o e q (by intro z;exact A8 (show b>([]:oj o3) from z) (by simp)) (by simp)|some u=>
     rcases hO b with z|⟨ob,xs,z⟩
     .rw[q] at z;cases z
     .have z2:=un.frzs b ob _ z;erw[hok b _ z,e1,_];erw[al b _ z2,e2,_];rw[e] at e1;cases e1;exact e2
 cases hk:K.lookup a with
 |some o=>
  let e:=KX a o hk;rw[ha] at e;cases e;refine ac (λ_=>U_) (λ_=> .inl rfl) (.inr (_,vs.toArray,_,hk,1,1,1,by rwa[uA,ah],by simpa using rv)) (λb u z=>by have z':(U_:om HO)=u_ u:=z;cases z') (λb z=>A8 rfl z) λz=>A8 rfl z
 |none=>
  refine ac (λb=>if b=a then u_ (.frz {cls:= .type "list",data:= .seq vs.toArray} (.lst (ns.map V.int))) else U_) (λb=>?_) (.inl (.inr [{cls:= .type "list",data:= .seq vs.toArray}:A6 rfl])) (λb u z=>?_) (λb z=>?_) λ_=>hk
  .by_cases Z:b=a
   .exact .inr [_:_:A6 Z]
   .exact .inl (A4 Z)
  .by_cases Z:b=a
   .let z':=(A6 Z).symm.trans z;cases z';subst Z;exact(ha,by rwa[uc],vs,_,rv,ha)
   .let z':=(A4 Z).symm.trans z;cases z'
  .by_cases Z:b=a
   .exact Z
   .exact A8 (A4 Z) z
nonrec abbrev KOf {K:o0}{h:o8}(_:K.In h):o0:=K
def Oa {l:PySem.W.OpenLaw}{n k:Nat}{q:o9}{U:oj Str}{XP:(Str->om o6)->o8->Prop}{YP:og->o8->Prop}{d:DefRec}{K:HK->o0}{CX:og->CXT}{sp:og->Sp}{x:Str}
  (hn:l.most=u_ n) (ad:n<=Vm) (ae:d.params.defaults= []) (hr:mD k GC)
  (hY:∀(w:og) (h:o8),YP w h->(K w.params).In h)
  (F:∀(w:og) (mg:Str->om o6) (fa:o3) (h:o8),(K w.params).In h->h.Ns VF mg->mg d.name=u_ (-fa)->
   ∃fd:Vk,(∀(s:o7) (u:o6),hZ s fd [[u]:[]] [(x,u)])/\fd.scope.names.lookup x=u_ .local/\
    ∀base:o8,(K w.params).In base->base.Ns VF mg->FnOk l.prog w (K w.params) mg base (CX w) k fa fd [x] (sp w))
  (af:∀(w:og) (H:Hp) (a:o3) (ns:oj Int),↑ns<=n->AcL H->SqL (K w.params) H a (ns.map V.int)->sp w [-a] H (λv _=>v= .bl v_) λ_ _ _=>False)
  (ag:∀(w:og) (H:Hp) (s:o7) (e:o6) (s':o7),CX w [] H s (λ_ _ _=>False) e s'->False):
  PySem.W.WalkO q U XP YP l.row.toRowW d [] (λf vs=>PySem.call f vs):=by
 refine Att.attach_call hn ae λw s₀ s₁ mg mb fa o pm cd doc a vs ns G Y ho hd ak ah aa Z O hg=>?_;let KX:=hY w _ Y;erw[F w mg fa _ KX G.T.g ah,fd,hb,ac,hF];exact Mo KX G.T.g G.T.b G.T.builtins G.T.nolimit hg aa Z (uY O ad) hr hF hb ac (λH hO hS=>af w H a ns O hO hS) λH e s'=>ag w H s₁ e s'
def IV {l:PySem.W.OpenLaw}{n k:Nat}{q:o9}{O:oj Str}{XP:(Str->om o6)->o8->Prop}{YP:og->o8->Prop}{d:DefRec}{K:HK->o0}{CX:CXT}{sp:o0->Sp}{x:Str}
  (hn:l.most=u_ n) (U:n<=Vm) (Z:d.params.defaults= []) (hr:mD k GC)
  (hY:∀(w:og) (h:o8),YP w h->(K w.params).In h)
  (F:∀(w:og) (mg:Str->om o6) (fa:o3) (h:o8),(K w.params).In h->h.Ns VF mg->mg d.name=u_ (-fa)->
   ∃fd:Vk,(∀(s:o7) (u:o6),hZ s fd [[u]:[]] [(x,u)])/\fd.scope.names.lookup x=u_ .local/\
    ∀base:o8,(K w.params).In base->base.Ns VF mg->FnOk l.prog w (K w.params) mg base CX k fa fd [x] (sp (K w.params)))
  (aa:∀(K:o0) (H:Hp) (a:o3) (ns:oj Int),↑ns<=n->AcL H->SqL K H a (ns.map V.int)->sp K [-a] H (λv _=>v= .bl v_) λ_ _ _=>False)
  (ac:∀(H:Hp) (s:o7) (e:o6) (s':o7),CX [] H s (λ_ _ _=>False) e s'->False):
  PySem.W.WalkO q O XP YP l.row.toRowW d [] (λf vs=>PySem.call f vs):=
 Oa (K:=K) (CX:=λ_=>CX) (sp:=λw=>sp (K w.params)) hn U Z hr hY F (λw H a ns h1 h2 h3=>aa (K w.params) H a ns h1 h2 h3) λ_ H s e s'=>ac H s e s'
abbrev Qj (s:Stmt)(j:Nat):Stmt:=match s with
 | .ClassDef _ _ _ body _ _ _ _ _ _ _=>body.getD j (.Pass ((0),(0),(0),(0)))|_=> .Pass ((0),(0),(0),(0))
abbrev YM (s:Stmt):Arguments:=match s with
 | .FunctionDef _ a _ _ _ _ _ _ _ _=>a|_=>{posonlyargs:= [],args:= [],vararg:=U_,kwonlyargs:= [],kw_defaults:= [],kwarg:=U_,defaults:= []}
abbrev Yf (s:Stmt):oj Stmt:=match s with
 | .FunctionDef _ _ b _ _ _ _ _ _ _=>b|_=> []
abbrev qh (s:Stmt):Scope:=match s with
 | .FunctionDef _ _ _ _ _ _ sc _ _ _=>sc|_=>{kind:= .function,names:= [],isGenerator:=Vi,isCoroutine:=Vi}
nonrec abbrev CX0:CXT:=λ_ _ _ _ _ _=>False
nonrec abbrev E0:XK:=λ_ _ _=>False
variable {X:Cx}
def qz:XS CX0 X E0:=λ_ _ _ _ _ _ _ h=>h.elim
structure Fun (K:o0)(x qual:Str)(st:Stmt)(f:o3)(fd:Vk):Prop where
 ex:∃(oc:o6) (od:om o3) (kV doc pm:o6) (an:om o3) (cdv ct:o6) (osl:Array (om o6)),
  fd=PySem.W.fnOf x qual (YM st) (Yf st) (qh st) .none kV doc pm an cdv ct/\K.lookup f=u_ (oc,od,.func fd,osl)/\PySem.W.codeIn K cdv qual=v_
 kp:PySem.W.keepIn K (-f)=v_
section
variable {P:o9}{w:og}{K:o0}{mg:Str->om o6}{base:o8}
def Fun.ok {x qual:Str}{st:Stmt}{f:o3}{fd:Vk}{N ps:oj Str}{k:Nat}{sp:Sp}(F:Fun K x qual st f fd)(S:qu N ps (qh st))(len:∀vs H Q E,sp vs H Q E->↑vs=↑ps)
  (O:∀(cdv:o6) (A:oh) (outer:oj Env) (s:o7) (H:Hp) (vs:oj V) (Q:VK) (E:XK),mD k (A.deeper (Vp qual (qh st) #[0,s] f cdv))->sp vs H Q E->
   ∃t,PSs (cxOf CX0 P w K mg base N qual (qh st) f cdv A outer s H E).nox (Yf st) t/\t {nx:=λ_ H'=>Q .non H',rt:=Q} (qan N vs) H):FnOk P w K mg base CX0 (k+1) f fd ps sp:=by
 erw[F.ex,oc,od,kV,doc,pm,an,cdv,ct,osl,rfl,lk,U];refine Ab4 lk U S len λA outer s H vs Q E hr Z=>?_;erw[O cdv A outer s H vs Q E hr Z,t,h,q];exact[t:h.nox:q]
def Fun.binds {x qual:Str}{st:Stmt}{f:o3}{fd:Vk}{ps:oj Str}(F:Fun K x qual st f fd)
  (h:∀(kV doc pm:o6) (an:om o3) (cdv ct:o6) (us:oj o6),↑us=↑ps->Gz (PySem.W.fnOf x qual (YM st) (Yf st) (qh st) .none kV doc pm an cdv ct) [us:[]]=pure (ps.zip us)):Xe K fd ps []:=by
 erw[F.ex,oc,od,kV,doc,pm,an,cdv,ct,osl,rfl,lk,O];exact .all (h kV doc pm an cdv ct)
def NK {x qual:Str}{st:Stmt}{f:o3}{oc:o6}{od an:om o3}{osl:Array (om o6)}{kV doc pm cdv ct:o6}(l:K.lookup f=u_ (oc,od,.func (PySem.W.fnOf x qual (YM st) (Yf st) (qh st) .none kV doc pm an cdv ct),osl))
  (c:PySem.W.codeIn K cdv qual=v_) (k:PySem.W.keepIn K (-f)=v_):Fun K x qual st f (PySem.W.fnOf x qual (YM st) (Yf st) (qh st) .none kV doc pm an cdv ct):=[(oc,od,kV,doc,pm,an,cdv,ct,osl,1,l,c):k]
end
variable {A:oh}
def QR {k:Nat}(O:mD k A):A.units+1<cLine:=UT (Nat.add_le_add_left (by decide:1<=64) _) O.units
variable {n:Nat}
def zn (h:n<=1000):n<sizeLine:=UT h ()
section
variable {X:Cx}
def pv (i:Nat){x:Str}{pos:Pos}(U:X.N[i]? =u_ x:=by rfl)(Z:Vis X.env.scope x:=by first|exact GE rfl|exact GN (GE rfl)|exact GN (GN rfl))(hd:(x==("__debug__":Str))=false:=by decide)
  (O:(x==("__classdict__":Str))=false:=by decide):PE X (.Name x pos) (AaB i):=Abm U Z hd O
def IC:YN X (.builtin "len") (λxs H Q=>∃a kvs,xs= [V.ref a]/\H a=u_ (.dK kvs)/\Q (.int ↑kvs) H):=by
 exists 2,xs,us,Q,I,r,h;erw[h,a,kvs,rfl,ha,q];erw[jX r,u,rfl,ru];cases ru;exact AdF I (.inl ha) λt s' O=>(.int ↑kvs,H,O,[t:1],q)
end
def iX {A B:Prop}(h:B):if Vi=v_ then A else B:=by
 rw[A4 ub];exact h
def lD {A B:Prop}(h:A):if v_=v_ then A else B:=by
 rw[A6 rfl];exact h
def mi {c A B:Prop}[Decidable c](h1:c->A)(h2:¬(c)->B):if c then A else B:=by
 by_cases h:c
 .rw[A6 h];exact h1 h
 .rw[A4 h];exact h2 h
abbrev ic (H H':Hp):Prop:=∀b o,H b=u_ o->H' b=u_ o
def ic.refl (H:Hp):ic H H:=λ_ _ h=>h
variable {H H1 H2:Hp}
def ic.trans (a:ic H H1)(b:ic H1 H2):ic H H2:=λc o h=>b c o (a c o h)
variable {H':Hp}
def ic.free (e:ic H H'){l:o3}(h:H' l=Option.none):H l=Option.none:=by
 cases q:H l with
 |none=>rfl|some o=>
  rw[e l o q] at h;cases h
section
variable {κ:Type}[DecidableEq κ]
variable {kvs:oj (κ×V)}{v:V}
def Oe {k:κ}(h:iV kvs k=u_ v):k>kvs.map (·.1):=by
 let q:(kvs.any λkv=>decide (kv.1=k))=true:=by
  rw[xn,h]
  all_goals rfl
 erw[List.any_eq_true.mp q,p,O,e];exact Ae.mpr [p:O:uC e]
def Il {p:κ×V}{r:oj (κ×V)}{k:κ}(e:p.1=k):J8 (p::r) k=J8 r k:=by
 unfold J8;rw[U0,A4 (by simp[e])]
def Im {p:κ×V}{r:oj (κ×V)}{k:κ}(e:¬p.1=k):J8 (p::r) k=p::J8 r k:=by
 unfold J8;rw[U0,A6 (by simp[e])]
end
end L2
namespace L2
open PySem
inductive D where
 |non|bl (b:Bool)|int (i:Int)|str (z:Str)|lst|dct|tup (xs:List D)
abbrev QD (c:Nat):Bool:=decide (32<=c)&&decide (c<=126)&&decide (c≠37)
abbrev QA (z:Str):Bool:=decide (↑z<=300)&&z.cps.toList.all QD
mutual
noncomputable def ky:D->Bool
 | .str z=>QA z| .tup xs=>decide (↑xs<=40)&&goodL xs|_=>Vi
noncomputable def goodL:oj D->Bool
 | []=>v_|x::r=>ky x&&goodL r
end
mutual
noncomputable def sz:D->Nat
 | .str z=>↑z+1| .tup xs=>1+szL xs|_=>0
noncomputable def szL:oj D->Nat
 | []=>0|x::r=>sz x+szL r
end
mutual
noncomputable def dp:D->Nat
 | .str _=>1| .tup xs=>1+dpL xs|_=>0
noncomputable def dpL:oj D->Nat
 | []=>0|x::r=>max (dp x) (dpL r)
end
mutual
noncomputable def nd:D->Nat
 | .tup xs=>1+ndL xs|_=>1
noncomputable def ndL:oj D->Nat
 | []=>0|x::r=>nd x+ndL r
end
abbrev isT (d:D):Bool:=ky d&&decide (sz d<=600)&&decide (dp d<=12)
def Ze:∀(xs ys:oj D),szL (xs++ys)=szL xs+szL ys
 | [],ys=>by simp[szL]|x::r,ys=>by simp![vZ,szL,Ze r ys];omega
def Zd:∀(xs ys:oj D),ndL (xs++ys)=ndL xs+ndL ys
 | [],ys=>by simp[ndL]|x::r,ys=>by simp![vZ,ndL,Zd r ys];omega
def wV {k:Nat}:∀(xs:oj D),dpL xs<=k↔∀x>xs,dp x<=k
 | []=>by simp[dpL]|x::r=>by
  let U:=wV (k:=k) r;let e:dpL (x::r)=max (dp x) (dpL r):=by simp![dpL]
  rw[e];constructor
  .intro h y O;rcases Aa.mp O with rfl|O
   .omega
   .exact U.mp () y O
  .intro h;let h1:=h x ui;let h2:=U.mpr λy O=>h y (uh _ O);omega
def Ab9 {d:D}(h:ky d=v_):1<=dp d:=by
 cases d<;>simp_all [ky,dp]
abbrev wOk (w:oj (D×Nat)):Bool:=w.all λp=>ky p.1&&decide (p.2+dp p.1<=13)
abbrev wSz (w:oj (D×Nat)):Nat:=szL (w.map (·.1))
abbrev G (w:oj (D×Nat))(n:Nat):Bool:=wOk w&&decide (n+wSz w<=600)
def Aae (d:D):G [(d,1)] 0=isT d:=by
 simp![G,wOk,wSz,isT,vE,FQ,uw,U4,szL,U3,tM,RU];let e:decide (1+dp d<=13)=decide (dp d<=12):=by
  rw[ve];omega
 rw[e];cases ky d<;>cases decide (sz d<=600)<;>cases decide (dp d<=12)<;>rfl
variable {n:Nat}
def AdV (h:n<=600):G [] n=true:=by simp[G,wOk,wSz,szL,h]
def sS (w:oj (D×Nat))(d:D)(k n:Nat):G (w++ [(d,k)]) n=(wOk w&&(ky d&&decide (k+dp d<=13))&&decide (n+(wSz w+sz d)<=600)):=by
 simp![G,wOk,wSz,UU,vE,FQ,U3,ur,uw,U4,Ze,szL,RU]
 rfl
def Aaf {w:oj (D×Nat)}{d:D}{k:Nat}(h:ky d=Vi):G (w++ [(d,k)]) n=false:=by
 rw[sS,h];simp
def NY {w:oj (D×Nat)}{d:D}{k:Nat}(h:12<k):G (w++ [(d,k)]) n=false:=by
 rw[sS];cases O:ky d with
 |false=>simp|true=>
  have:=Ab9 O;let e:decide (k+dp d<=13)=false:=uj ()
  rw[e];simp
def AcG {w:oj (D×Nat)}{d:D}{k:Nat}(h:600<n+sz d):G (w++ [(d,k)]) n=false:=by
 rw[sS];let e:decide (n+(wSz w+sz d)<=600)=false:=uj ()
 rw[e];simp
def AcF {w:oj (D×Nat)}{xs:oj D}{k:Nat}(h:600<n+1):G (w++ [(¬xs,k)]) n=false:=AcG (by simp![sz];omega)
def Od (xs:oj D)(k:Nat):wOk (xs.map λx=>(x,k+1))=(goodL xs&&xs.all λx=>decide (k+1+dp x<=13)):=by
 induction xs with
 |nil=>rfl|cons x r O=>
  simp![uw,wOk,vE,goodL] at O⊢;rw[O];cases ky x<;>cases decide (k+1+dp x<=13)<;>cases goodL r<;>simp
def Ob (xs:oj D)(k:Nat):wSz (xs.map λx=>(x,k+1))=szL xs:=by
 unfold wSz;rw[uP]
 congr 1
 induction xs with
 |nil=>rfl|cons x r O=>simp![uw,O];rfl
def AdT {w:oj (D×Nat)}{xs:oj D}{k:Nat}(U:↑xs<=40)(hk:k<=12):G (w++ [(¬xs,k)]) n=G (w++xs.map λx=>(x,k+1)) (n+1):=by
 rw[sS];unfold G;let Z:wOk (w++xs.map λx=>(x,k+1))=(wOk w&&wOk (xs.map λx=>(x,k+1))):=by unfold wOk;rw[UU]
 let e2:wSz (w++xs.map λx=>(x,k+1))=wSz w+szL xs:=by
  have:=Ob xs k;unfold wSz at this⊢;rw[ur,Ze,this]
 let e3:decide (k+dp (¬xs)<=13)=xs.all λx=>decide (k+1+dp x<=13):=by
  let q:=wV (k:=12-k) xs;let e0:dp (¬xs)=1+dpL xs:=by simp![dp]
  rw[e0,vK];constructor
  .intro h;let h:=uC h;refine List.all_eq_true.mpr λx O=>ug ?_;let h2:=q.mp () x O
   omega
  .intro h;refine ug ?_;let h2:=q.mpr λx O=>by
    let h3:=uC (List.all_eq_true.mp h x O);omega
   omega
 rw[Z,e2,e3,Od];let e4:ky (¬xs)=goodL xs:=by simp![ky,ug U,Vd]
 let e5:decide (n+(wSz w+sz (¬xs))<=600)=decide (n+1+(wSz w+szL xs)<=600):=by
  rw[ve];simp![sz];omega
 rw[e4,e5]
variable {z:Str}
def AdU {w:oj (D×Nat)}{k:Nat}(O:QA z=v_)(hk:k<=12):G (w++ [(!z,k)]) n=G w (n+(1+↑z)):=by
 rw[sS];unfold G;let U:ky (!z)=true:=by simp![ky,O]
 let e3:decide (k+dp (!z)<=13)=true:=ug (by simp![dp];omega)
 let Z:decide (n+(wSz w+sz (!z))<=600)=decide (n+(1+↑z)+wSz w<=600):=by
  rw[ve];simp![sz];omega
 rw[U,e3,Z];simp
end L2
namespace AwZ
open PySem PyProof.Rows
open PySem.AutoSeq1 (wpAny_loadPart')
section
variable {prog:o9}{w:og}{A:oh}{E:o6->o7->Prop}{s:o7}
def AaA {j t:o3}{i:Nat}{its:Array o6}{x:o6}{Q:o6->o7->Prop}(U:s.heap.IsTupleIter j t i)(gt:s.heap.IsTuple t its)(gx:its[i]? =u_ x)
  (q:∀h2,h2.IsTupleIter j t (i+1)->VW j s.heap h2->Q x {s with heap:=h2}):Vj #[w,w] A (GM (-j)) Q E s:=by
 erw[id U,u,O,cu,du];erw[gt,ut,Z,_,nt,aa];unfold GM;refine A7 (vq (name:=Gu "__next__") U.typeIs Ua
  (vM Ua U.typeIs F.entry_tuple_iterator_next ?_ (F.args_tuple_iterator_next_1 _)))
 show Vj _ _ (VR (-j) 0>>=_) _ _ s;refine A7 (vm O du (x:=-t) rfl ?_);show Vj _ _ (if(Vo t==Ge)=v_ then _ else _) _ _ s
 rw[A4 (show¬(Vo t==Ge)=v_ from ub)]
 show Vj _ _ (VR (-j) 1>>=_) _ _ s;refine A7 (vm O du (x:= .int i 0) rfl ?_);show Vj _ _ (tN (-t)>>=_) _ _ s;refine A7 (Um Z aa ?_);simp![Fm,gx];refine A7 (Rp O du (by simp) (uD [x:1:uD (q _ ?_ (Fu ..))]))
 exact(_,Tl _ O (Obj.isFreed_of_fields (FR du _)),(Obj.cls_mapFields ..).trans cu,by rw[FR du];simp[VO])
def nO {j t:o3}{i:Nat}{its:Array o6}{Q:o6->o7->Prop}(hh:A.handled=U_)(O:s.heap.IsTupleIter j t i)(gt:s.heap.IsTuple t its)(gx:its[i]? =U_)
  (q:∀h2 e,Rk j s.heap h2->(∃u,h2.get? e=u_ u/\u.cls= .type "StopIteration")->E (-e) {s with heap:=h2}):Vj #[w,w] A (GM (-j)) Q E s:=by
 erw[id O,u,U,cu,du];erw[gt,ut,Z,_,nt,aa];unfold GM;refine A7 (vq (name:=Gu "__next__") O.typeIs Ua
  (vM Ua O.typeIs F.entry_tuple_iterator_next ?_ (F.args_tuple_iterator_next_1 _)))
 show Vj _ _ (VR (-j) 0>>=_) _ _ s;refine A7 (vm U du (x:=-t) rfl ?_);show Vj _ _ (if(Vo t==Ge)=v_ then _ else _) _ _ s
 rw[A4 (show¬(Vo t==Ge)=v_ from ub)]
 show Vj _ _ (VR (-j) 1>>=_) _ _ s;refine A7 (vm U du (x:= .int i 0) rfl ?_);show Vj _ _ (tN (-t)>>=_) _ _ s;refine A7 (Um Z aa ?_);simp![Fm,gx];refine A7 (UM (A7 (Rp U du (by simp) ?_)))
 show Vj _ _ (newExc (.type "StopIteration") []>>=_) _ _ _;refine A7 ?_;simp![newExc,Fa];refine A7 (vB ?_ (by size_fits))
 refine A7 (m:=T2 _ _) (tH (a:=Ge) (by first|rfl|(simp![T2];rfl)) ?_)
 refine vB ?_ (by size_fits)
 simp![raiseNew];refine A7 (wpAny_handled ?_)
 first|rw[show A.in1.handled=U_ from hh]|rw[hh]
 refine A7 (uD (FN ?_));exact q _ _ (((Fu ..).extBut.push _).push _) [_:uH _ rfl:1]
structure Apt (z p r i j a b:o3):Prop where
 pz:p≠z
 rz:r≠z
 iz:i≠z
 jz:j≠z
 pr:p≠r
 pi:p≠i
 pj:p≠j
 ri:r≠i
 rj:r≠j
 ij:i≠j
 az:a≠z
 ar:a≠r
 ai:a≠i
 aj:a≠j
 bz:b≠z
 br:b≠r
 bi:b≠i
 bj:b≠j
def AcN {z p r i j a b:o3}{k:Nat}{xs ys:Array o6}{x y u v:o6}{Q:o6->o7->Prop}(D:Apt z p r i j a b)
  (hz:VL s.heap z p r .none) (hp:Vy s.heap p (-i) (-j)) (hr:Vy s.heap r u v)
  (hi:s.heap.IsTupleIter i a k) (hj:s.heap.IsListIter j b k) (ha:s.heap.IsTuple a xs) (hb:s.heap.IsList b ys) (hx:xs[k]? =u_ x) (hy:ys[k]? =u_ y)
  (q:∀h2,VL h2 z p r (VO #[0,s])->Vy h2 r x y->h2.IsTupleIter i a (k+1)->h2.IsListIter j b (k+1)->Vy h2 #[0,s] x y->h2.objs.size=#[0,s]+1->
   (∀c o,c≠z->c≠r->c≠i->c≠j->s.heap.get? c=u_ o->h2.get? c=u_ o)->Q (.ref #[0,s]) {s with heap:=h2}):
  Vj #[w,w] A (g_.«zip.__next__» [[-z]:[]]) (λfin t=>∃v,fin= .done (.ret v)/\Q v t) E s:=by
 show Vj _ _ (VR (-z) 2>>=_) _ _ _;refine A7 (vm hz rfl (x:= .bool Vi) rfl ?_);show Vj _ _ (VR (-z) 3>>=_) _ _ _;refine A7 (vm hz rfl (x:=-p) rfl ?_);refine A7 (Um hp rfl ?_);show Vj _ _ (GS (-z)>>=_) _ _ s;refine A7 ?_;unfold GS;refine A7 (vm hz rfl (x:= .none) rfl (uD ?_));simp![Vh];refine A7 (UM ?_);refine A7 (vm hz rfl (x:=-r) rfl ?_);refine A7 (vy hz (by simp) λh1 z1 s1=>?_)
 replace z1:VL h1 z p r .ellipsis:=z1
 refine A7 ?_;simp![Ru,FK,Uz,Ft];refine A7 (A7 (tZ ?_));show Vj _ _ (GM (-i)>>=_) _ _ _;refine A7 (AaA (hi.extBut s1.extBut D.iz) (ha.extBut s1.extBut D.az) hx λh2 i2 s2=>uD ?_);let r2:Vy h2 r u v:=s2.extBut _ _ D.ri (s1.extBut _ _ D.rz hr);refine A7 (Um r2 rfl ?_);refine A7 (rX r2 λh3 r3 U=>?_)
 replace r3:Vy h3 r x v:=r3
 refine A7 (TB (uD ?_));refine A7 (A7 (tZ ?_));show Vj _ _ (GM (-j)>>=_) _ _ _;refine A7 (wpAny_nextOf_list_item (((hj.extBut s1.extBut D.jz).extBut s2.extBut D.ij.symm).extBut U.extBut D.rj.symm)
  (((hb.extBut s1.extBut D.bz).extBut s2.extBut D.bi).extBut U.extBut D.br) hy λh4 j4 Z=>uD ?_)
 let r4:Vy h4 r x v:=Z.extBut _ _ D.rj r3;refine A7 (Um r4 rfl ?_);refine A7 (rX r4 λh5 r5 s5=>?_)
 replace r5:Vy h5 r x y:=r5
 refine A7 (TB (uD (uD ?_)));refine A7 (Um r5 rfl ?_);refine A7 (rG ?_);let sz:h5.objs.size=#[0,s]:=by rw[s5.1,Z.1,U.1,s2.1,s1.1]
 let z5:VL h5 z p r .ellipsis:=s5.extBut _ _ D.rz.symm (Z.extBut _ _ D.jz.symm (U.extBut _ _ D.rz.symm (s2.extBut _ _ D.iz.symm z1)));let k5:∀c o,c≠z->c≠r->c≠i->c≠j->s.heap.get? c=u_ o->h5.get? c=u_ o:=λc o O c2 c3 c4 e=>
  s5.extBut _ _ c2 (Z.extBut _ _ c4 (U.extBut _ _ c2 (s2.extBut _ _ c3 (s1.extBut _ _ O e))))
 let i5:h5.IsTupleIter i a (k+1):=((i2.extBut U.extBut D.ri.symm).extBut Z.extBut D.ij).extBut s5.extBut D.ri.symm;let j5:h5.IsListIter j b (k+1):=j4.extBut s5.extBut D.rj.symm;let aa:z<h5.objs.size:=uK z5;show Vj _ _ (HW (-z) (-h5.objs.size)>>=_) _ _ _;refine A7 ?_;unfold HW;let z6:VL (h5.push {cls:= .type "tuple",data:= .seq #[x,y]}) z p r .ellipsis:=ud _ z5;refine A7 (vy z6 (by simp) λh7 z7 s7=>?_)
 replace z7:VL h7 z p r (VO h5.objs.size):=z7
 refine vy z7 (by simp) λh8 z8 s8=>?_
 replace z8:VL h8 z p r (VO h5.objs.size):=z8
 let up:∀c o,c≠z->h5.get? c=u_ o->h8.get? c=u_ o:=λc o O e=>s8.extBut _ _ O (s7.extBut _ _ O (ud _ e));let t8:Vy h8 h5.objs.size x y:=s8.extBut _ _ (Uc aa) (s7.extBut _ _ (Uc aa) (uH _ rfl));let n8:h8.objs.size=h5.objs.size+1:=by rw[s8.1,s7.1,vv]
 rw[sz] at z8 t8 n8;refine uD [0:?_];show Q (-h5.objs.size) _;rw[sz];exact q h8 z8 (up _ _ D.rz r5) (by erw[i5,o,e,g];exact[o:up _ o D.iz e:g]) (j5.at λo e=>up _ o D.jz e) t8 n8 λc o O c2 c3 c4 e=>up c o O (k5 c o O c2 c3 c4 e)
def zip_go {z p r i j a b:o3}{k:Nat}{xs ys:Array o6}{x y u v:o6}{Q:om o6->o7->Prop}(D:Apt z p r i j a b)
  (hz:VL s.heap z p r .none) (U:Vy s.heap p (-i) (-j)) (Z:Vy s.heap r u v)
  (hi:s.heap.IsTupleIter i a k) (hj:s.heap.IsListIter j b k) (ha:s.heap.IsTuple a xs) (hb:s.heap.IsList b ys) (hx:xs[k]? =u_ x) (hy:ys[k]? =u_ y)
  (q:∀h2,VL h2 z p r (VO #[0,s])->Vy h2 r x y->h2.IsTupleIter i a (k+1)->h2.IsListIter j b (k+1)->Vy h2 #[0,s] x y->h2.objs.size=#[0,s]+1->
   (∀c o,c≠z->c≠r->c≠i->c≠j->s.heap.get? c=u_ o->h2.get? c=u_ o)->Q (u_ (.ref #[0,s])) {s with heap:=h2}):
  Vj #[w,w] A (VM (-z)) Q E s:=by
 let O:s.TypeIs (-z) "zip":=[_:hz:1];unfold VM;exact A7 (UV (vq (name:=Gu "__next__") O F.slot_zip_next
  (vM F.slot_zip_next O F.entry_zip_next (AcN D hz U Z hi hj ha hb hx hy λh2 b1 b2 b3 b4 b5 b6 b7=>uD (q h2 b1 b2 b3 b4 b5 b6 b7)) (F.args_zip_next_1 _))))
def zip_stop {z p r i j a b:o3}{k:Nat}{xs:Array o6}{Q:om o6->o7->Prop}(hh:A.handled=U_)(D:Apt z p r i j a b)
  (hz:VL s.heap z p r .none) (hp:Vy s.heap p (-i) (-j)) (hi:s.heap.IsTupleIter i a k) (ha:s.heap.IsTuple a xs) (hx:xs[k]? =U_)
  (q:∀h2,(∀c o,c≠z->c≠r->c≠i->c≠j->s.heap.get? c=u_ o->h2.get? c=u_ o)->Q U_ {s with heap:=h2}):Vj #[w,w] A (VM (-z)) Q E s:=by
 let Z:s.TypeIs (-z) "zip":=[_:hz:1];unfold VM;refine A7 (UV (vq (name:=Gu "__next__") Z F.slot_zip_next
  (vM F.slot_zip_next Z F.entry_zip_next ?_ (F.args_zip_next_1 _))))
 show Vj _ _ (VR (-z) 2>>=_) _ _ _;refine A7 (vm hz rfl (x:= .bool Vi) rfl ?_);show Vj _ _ (VR (-z) 3>>=_) _ _ _;refine A7 (vm hz rfl (x:=-p) rfl ?_);refine A7 (Um hp rfl ?_);show Vj _ _ (GS (-z)>>=_) _ _ s;refine A7 ?_;unfold GS;refine A7 (vm hz rfl (x:= .none) rfl (uD ?_));simp![Vh];refine A7 (UM ?_);refine A7 (vm hz rfl (x:=-r) rfl ?_);refine A7 (vy hz (by simp) λh1 O s1=>?_)
 replace O:VL h1 z p r .ellipsis:=O
 refine A7 ?_;simp![Ru,FK,Uz,Ft];refine A7 (A7 (tZ ?_));show Vj _ _ (GM (-i)>>=_) _ _ _;refine A7 (nO hh (hi.extBut s1.extBut D.iz) (ha.extBut s1.extBut D.az) hx λh2 e s2 he=>?_);erw[he,oe,U,ce];let z2:VL h2 z p r .ellipsis:=s2 _ _ D.iz.symm O;let ez:e≠z:=λx=>by subst x;rw[z2] at U;cases U;simp at ce
 refine vy z2 (by simp) λh3 _ s3=>?_
 refine A7 (UI (T:="StopIteration") (b:=v_) [oe:s3.extBut _ _ ez U:ce] rZ ?_);exact uD (q _ λc o c1 _ c3 _ x=>s3.extBut _ _ c1 (s2 _ _ c3 (s1.extBut _ _ c1 x)))
nonrec abbrev q1 (h:o8)(a:o3):o8:=h.push {cls:= .type "tuple_iterator",data:= .fields #[-a,.int 0 0]}
nonrec abbrev q2 (h:o8)(a b:o3):o8:=(q1 h a).push {cls:= .type "list_iterator",data:= .fields #[-b,.int 0 0]}
nonrec abbrev q3 (h:o8)(a b:o3):o8:=(q2 h a b).push {cls:= .type "tuple",data:= .seq #[-h.objs.size,.ref (q1 h a).objs.size]}
nonrec abbrev q4 (h:o8)(a b:o3):o8:=(q3 h a b).push {cls:= .type "tuple",data:= .seq #[.none,.none]}
nonrec abbrev q5 (h:o8)(a b:o3):o8:=(q4 h a b).push {cls:= .type "zip",data:= .fields #[.none,.bool Vi,.bool Vi,.ref (q2 h a b).objs.size,.ref (q3 h a b).objs.size]}
def IR (a b:o3)(xs ys:Array o6):GZ (g_.«zip.__new__» [[.type "zip",-a,-b]:[]]) (λ_ R s=>s.heap.IsTuple a xs/\s.heap.IsList b ys/\R (.ok (.ret (.ref (q4 s.heap a b).objs.size))) {s with heap:=q5 s.heap a b}):=
 .of_wp λprog w A R s h=>by
  erw[s,O,g,d,tk,os];erw[h,ha,U,h];let sub:=sub_zip;let h1:rR (tP (O,g,d,tk,os)) a xs:=ha;let h2:Heap.IsList (tP (O.push {cls:= .type "tuple_iterator",data:= .fields #[-a,.int 0 0]},g,d,tk,os)) b ys:=pQ U _
  wp_walk using Ud h1,V2 h2
  exact[0:h]
def zip_call {a b:o3}{xs ys:Array o6}{Q:o6->o7->Prop}(ha:s.heap.IsTuple a xs)(hb:s.heap.IsList b ys)
  (h:∀h2,VL h2 (#[0,s]+4) (#[0,s]+2) (#[0,s]+3) .none->Vy h2 (#[0,s]+2) (.ref #[0,s]) (.ref (#[0,s]+1))->
   Vy h2 (#[0,s]+3) .none .none->h2.IsTupleIter #[0,s] a 0->h2.IsListIter (#[0,s]+1) b 0->h2.objs.size=#[0,s]+5->
   (∀c o,s.heap.get? c=u_ o->h2.get? c=u_ o)->Q (.ref (#[0,s]+4)) {s with heap:=h2}):Vj #[w,w] A (call (.type "zip") [-a,-b]) Q E s:=by
 refine callType_new F.called_zip () (F.typeCall_zip_2 _ _) (F.newCall_zip_2 _ _) (λobj=>F.args_object_init_3 obj _ _) F.entry_zip_new (IR a b xs ys) [ha:hb:?_]
 let O:(q1 s.heap a).objs.size=#[0,s]+1:=vv ..;let U:(q2 s.heap a b).objs.size=#[0,s]+2:=by rw[vv,O]
 let Z:(q3 s.heap a b).objs.size=#[0,s]+3:=by rw[vv,U]
 let z4:(q4 s.heap a b).objs.size=#[0,s]+4:=by rw[vv,Z]
 let z5:(q5 s.heap a b).objs.size=#[0,s]+5:=by rw[vv,z4]
 let g5:(q5 s.heap a b).get? (q4 s.heap a b).objs.size=u_ _:=uH _ rfl;let g4:(q5 s.heap a b).get? (q3 s.heap a b).objs.size=u_ _:=ud _ (uH _ rfl);let g3:(q5 s.heap a b).get? (q2 s.heap a b).objs.size=u_ _:=ud _ (ud _ (uH _ rfl));let g2:(q5 s.heap a b).get? (q1 s.heap a).objs.size=u_ _:=ud _ (ud _ (ud _ (uH _ rfl)));let g1:(q5 s.heap a b).get? #[0,s]=u_ _:=ud _ (ud _ (ud _ (ud _ (uH _ rfl))));show _/\_;rw[U,Z,z4] at g5;rw[O,U] at g3;rw[Z] at g4;rw[O] at g2;rw[z4];exact[[_:g5:1]:h _ g5 g3 g4 (_,g1,1,1) (_,g2,1,1) z5 λc o x=>ud _ (ud _ (ud _ (ud _ (ud _ x))))]
def AdB {e j t:o3}{i:Nat}{c:Int}{its:Array o6}{x O:o6}{Q:o6->o7->Prop}(he:G6 s.heap e j c O)(gj:s.heap.IsTupleIter j t i)(gt:s.heap.IsTuple t its)(gx:its[i]? =u_ x)(ej:e≠j)
  (q:∀h2,HZ h2 e j (c+1) x #[0,s]->h2.IsTupleIter j t (i+1)->h2.get? #[0,s]=u_ {cls:= .type "tuple",data:= .seq #[.int c s.toks,x]}->h2.objs.size=#[0,s]+1->
   (∀b o,b≠e->b≠j->s.heap.get? b=u_ o->h2.get? b=u_ o)->Q (.ref #[0,s]) {s with heap:=h2,toks:=s.toks+1}):
  Vj #[w,w] A (g_.«enumerate.__next__» [[-e]:[]]) (λfin t=>∃v,fin= .done (.ret v)/\Q v t) E s:=by
 erw[s,U,g,d,tk,os];show Vj _ _ (VR (-e) 2>>=_) _ _ _;refine A7 (vm he rfl (x:=-j) rfl ?_);refine A7 (AaA gj gt gx λh1 j1 s1=>?_)
 replace s1:VW j U h1:=s1
 let e1:G6 h1 e j c O:=(s1.2 e ej).trans he;show Vj _ _ (VR (-e) 3>>=_) _ _ (h1,g,d,tk,os);refine A7 (vm e1 rfl (x:=VO c) rfl ?_);show Vj _ _ (VR (-e) 4>>=_) _ _ (h1,g,d,tk,os);refine A7 (vm e1 rfl (x:= .none) rfl ?_);show Vj _ _ (mkInt c>>=_) _ _ (h1,g,d,tk,os);refine A7 (wpAny_mkInt ?_);show Vj _ _ (setField (-e) 3 (VO (c+1))>>=_) _ _ (h1,g,d,tk+1,os);refine A7 (vy e1 (by simp) λh2 e2 s2=>?_)
 replace s2:VW e h1 h2:=s2
 replace e2:G6 h2 e j (c+1) O:=e2
 show Vj _ _ (setField (-e) 4 .none>>=_) _ _ (h2,g,d,tk+1,os);refine A7 (vy e2 (by simp) λh3 e3 Z=>?_)
 replace Z:VW e h2 h3:=Z
 replace e3:G6 h3 e j (c+1) O:=e3
 show Vj _ _ (Fa [.int c tk,x]>>=_) _ _ (h3,g,d,tk+1,os);refine A7 (rG ?_);let e4:G6 (h3.push {cls:= .type "tuple",data:= .seq #[.int c tk,x]}) e j (c+1) O:=ud _ e3;generalize hg:h3.push {cls:= .type "tuple",data:= .seq #[.int c tk,x]}=h4 at e4;let sz:h3.objs.size=U.objs.size:=by rw[Z.1,s2.1,s1.1]
 let el:e<U.objs.size:=uK he;let t4:h4.get? U.objs.size=u_ {cls:= .type "tuple",data:= .seq #[.int c tk,x]}:=by rw[<-hg,<-sz];exact uH _ rfl
 let n4:h4.objs.size=U.objs.size+1:=by rw[<-hg,vv,sz]
 let k4:∀b o,b≠e->b≠j->U.get? b=u_ o->h4.get? b=u_ o:=λb o be bj y=>by
  rw[<-hg];exact ud _ (Z.extBut b o be (s2.extBut b o be (s1.extBut b o bj y)))
 let j4:h4.IsTupleIter j t (i+1):=by
  erw[j1,o,y,r];exact⟨o,by rw[<-hg];exact ud _ (Z.extBut j o (U6 ej) (s2.extBut j o (U6 ej) y)),r⟩
 show Vj _ _ (GS (-e)>>=_) _ _ (h4,g,d,tk+1,os);rw[sz];clear hg e3 Z e2 s2 e1 s1 j1 sz h3 h2 h1;refine A7 ?_;unfold GS;refine A7 (vm e4 rfl (x:= .none) rfl (uD ?_));simp![Vh];refine A7 (UM ?_);refine A7 (vm e4 rfl (x:=O) rfl ?_);refine A7 (vy e4 (by simp) λh5 e5 s5=>?_)
 replace s5:VW e h4 h5:=s5
 replace e5:G6 h5 e j (c+1) x:=e5
 show Vj _ _ (HW (-e) (-U.objs.size)>>=_) _ _ (h5,g,d,tk+1,os);refine A7 ?_;unfold HW;refine A7 (vy e5 (by simp) λh6 e6 s6=>?_)
 replace s6:VW e h5 h6:=s6
 replace e6:HZ h6 e j (c+1) x U.objs.size:=e6
 refine vy e6 (by simp) λh7 e7 s7=>?_
 replace s7:VW e h6 h7:=s7
 replace e7:HZ h7 e j (c+1) x U.objs.size:=e7
 let up:∀b o,b≠e->h4.get? b=u_ o->h7.get? b=u_ o:=λb o be y=>s7.extBut b o be (s6.extBut b o be (s5.extBut b o be y));refine A7 (TB (uD [0:q h7 e7 ?_ (up _ _ (Uc el) t4) ?_ λb o be bj y=>up b o be (k4 b o be bj y)]))
 .erw[j4,o,y,r];exact[o:up j o (U6 ej) y:r]
 .rw[s7.1,s6.1,s5.1,n4]
def enum_go {e j t:o3}{i:Nat}{c:Int}{its:Array o6}{x O:o6}{Q:om o6->o7->Prop}(U:G6 s.heap e j c O)(Z:s.heap.IsTupleIter j t i)(gt:s.heap.IsTuple t its)(gx:its[i]? =u_ x)(ej:e≠j)
  (q:∀h2,HZ h2 e j (c+1) x #[0,s]->h2.IsTupleIter j t (i+1)->h2.get? #[0,s]=u_ {cls:= .type "tuple",data:= .seq #[.int c s.toks,x]}->h2.objs.size=#[0,s]+1->
   (∀b o,b≠e->b≠j->s.heap.get? b=u_ o->h2.get? b=u_ o)->Q (u_ (.ref #[0,s])) {s with heap:=h2,toks:=s.toks+1}):Vj #[w,w] A (VM (-e)) Q E s:=by
 let te:s.TypeIs (-e) "enumerate":=[_:U:1];unfold VM;exact A7 (UV (vq (name:=Gu "__next__") te UC
  (vM UC te F.entry_enumerate_next (AdB U Z gt gx ej λh2 b1 b2 b3 b4 b5=>uD (q h2 b1 b2 b3 b4 b5)) (F.args_enumerate_next_1 _))))
def enum_stop {e j t:o3}{i:Nat}{c:Int}{its:Array o6}{O:o6}{Q:om o6->o7->Prop}(Z:A.handled=U_)(U:G6 s.heap e j c O)(gj:s.heap.IsTupleIter j t i)(gt:s.heap.IsTuple t its)(gx:its[i]? =U_)
  (q:∀h2,Rk j s.heap h2->Q U_ {s with heap:=h2}):Vj #[w,w] A (VM (-e)) Q E s:=by
 let te:s.TypeIs (-e) "enumerate":=[_:U:1];unfold VM;refine A7 (UV (vq (name:=Gu "__next__") te UC
  (vM UC te F.entry_enumerate_next ?_ (F.args_enumerate_next_1 _))))
 show Vj _ _ (VR (-e) 2>>=_) _ _ _;refine A7 (vm U rfl (x:=-j) rfl ?_);refine A7 (nO Z gj gt gx λh2 y s2 hy=>?_);erw[hy,o,g,c];refine A7 (UI (T:="StopIteration") (b:=v_) [o:g:c] rZ ?_);exact uD (q _ s2)
def Aep (T:String)(args:oj o6)(kw:oj (Str×o6)):(Code.builtin "type.__call__" [.type T::args:kw]).weight=0:=rfl
def new_kw {T U:String}{Bn:g_}{args:oj o6}{kw:oj (Str×o6)}{S:PySem.Spec}{Q:o6->o7->Prop}(O:TypeCalled T U "object.__init__")
  (af:(u_ U !=u_ "object.__new__")=v_) (ag:RK T [args:kw]=pure GG) (aa:TM U [.type T::args:kw]=pure GG)
  (hok:∀obj,argsOk "object.__init__" [obj::args:kw]) (en:entryFor table U=u_ Bn) (g:GZ (Bn [.type T::args:kw]) S)
  (h:S A.in1 (wants (λobj s1=>s1.TypeIs obj T/\Q obj s1) E) s):Vj #[w,w] A (call (.type T) args kw) Q E s:=by
 erw[O.mro,c,tl,hm];let ac:=O.made;let ae:=O.sub;refine Hl (r_ ?_);show Vj _ _ (callAny (.type T) _) _ _ _;refine uD [Code.quiet_builtin _ ():HH F.entry_type_call ?_]
 rw[Around.under_plain (Aep T args kw) (units_type_call_type T args kw)];let g1:=O.notType;let g2:=O.canCreate
 repeat (any_goals (first|assumption|wp_step))
 refine Uy (tX O.plain en (tH aa (g prog w A.in1 _ s h))) λr s1 hr=>?_;cases r with
 |error e=>exact hr|ok fl=>
  cases fl with
  |ret obj=>
   erw[hr,hT,hq];let ah:=O.init.lookup;let ak:=O.init.bind obj
   repeat (any_goals (first|assumption|wp_step))
   let gi:GZ (g_.«object.__init__» ⟨obj::args,kw⟩) (λ_ R s=>s.TypeIs obj T/\R (.ok (.ret .none)) s):=by
    refine Meets.of_wp λprog w A R s hs=>?_;erw[hs,hT,hq];cases hc:(!(args.isEmpty)|| !(kw.isEmpty)) with
    |false=>
     show Vj _ _ (if(!(args.isEmpty)|| !(kw.isEmpty))=v_ then _ else _) _ _ _
     rw[A4 (by rw[hc];exact ub)]
     exact uD [0:hq]
    |true=>
     repeat (any_goals (first|assumption|wp_step))
     exact[0:hq]
   refine Uy (tX O.init.plain F.entry_object_init (O.init.check _ _ _ _ _ _ _ _ hT (hok obj) (gi prog w A.in1 (wants (λr s2=>r= .none/\Q obj s2) E) s1 [hT:1:hq]))) λr2 s2 Z=>?_;cases r2 with
   |error e=>exact Z|ok ad=>
    cases ad with
    |ret r=>
     erw[Z,rfl,hq]
     repeat (any_goals (first|assumption|wp_step))
    |_=>exact Z.elim
  |_=>exact hr.elim
end
end AwZ
namespace L2
open PySem PySem.Spec PyProof.Rows
abbrev Its (x:Str):It:=⟨λi _=>i<x.cps.size,λi H v H'=>H'=H/\∃c,x.cps[i]? =u_ c/\v= .str ⟨#[c]⟩,λi _=>i=x.cps.size⟩
variable {w:og}{K:o0}{tg:Expr}{x:Str}
def Bc {P:o9}{t:Tok}{it:o3}(ty:String)(O:ty="str_ascii_iterator"\/ty="str_iterator"):
  NV P w K tg (Its x) [it] it (λi h=>h.IsStrIter it ty x t i) where
 mem:=by simp
 obj:=λi h st b U=>by
  let e:b=it:=by simpa using U
  subst e;erw[st,o,e,c,d];exact⟨o,e,λv z=>by rw[d] at z;cases z⟩
 keep:=λi h h' st k=>by
  erw[st,o,e,r];exact⟨o,k it (by simp) o e,r⟩
 item:=by
  intro X hP hw hK Z i oq s σ H E I hf st hg;subst hP hw hK;obtain⟨f0,f1,f2,f3,f4,f5⟩:=hf it (by simp)
  let W:Walks X.prog X.w X.A it [it] [it] x.cps.size (SignAt x) (λi h=>h.IsStrIter it ty x t i):=by
   rcases O with rfl|rfl
   .exact rF (I.ok.hd Z) it x t
   .exact Rg (I.ok.hd Z) it x t
  refine vk (n:=1) I.tk (W.item i s _ _ hg st λv h' tk hv aa kk=>?_);intro htk;erw[hv,c,u,hx,rfl];let I1:Inv X oq σ H {s with heap:=h',toks:=tk}:=I.turned (λb o U e=>kk b o (by simpa using U) e) f0 f1 f3 f4 f5
  erw[id aa,o,e,c',d];refine⟨0,E2 (s:={s with heap:=h',toks:=tk}) e c' d (by rcases O with rfl|rfl<;>decide) ⟨.str ⟨#[c]⟩,H,I1,[u:1],⟨1,c,hx,1⟩,aa,λb U=>(hf b U).1⟩⟩
 done:=by
  intro X hP hw hK Z i oq s σ H E I hf st hg;subst hP hw hK;let ac:i=x.cps.size:=hg;subst ac;obtain⟨f0,f1,f2,f3,f4,f5⟩:=hf it (by simp)
  let W:Walks X.prog X.w X.A it [it] [it] x.cps.size (SignAt x) (λi h=>h.IsStrIter it ty x t i):=by
   rcases O with rfl|rfl
   .exact rF (I.ok.hd Z) it x t
   .exact Rg (I.ok.hd Z) it x t
  exact vk (n:=1) I.tk (W.done s _ _ st λh' tk kk htk=>⟨1,I.turned (λb o U e=>kk b o (by simpa using U) e) f0 f1 f3 f4 f5⟩)
 self:=λ_ _ _ _ _ st h=>by
  rcases O with rfl|rfl
  .exact wpAny_pyIter_striter_ascii st h
  .exact wpAny_pyIter_striter_wide st h
section
variable {X:Cx}{tg:Expr}
inductive AdS (R:(It->Hp->Prop))(x:V)(H1:Hp):Prop
 |mk (z:_)(_:x= !z)(_:R (Its z) H1)
abbrev AeO (tl:TE):TI:=λσ H R=>tl σ H λx H1=>AdS R x H1
def Nk {l:Expr}{tl:TE}(U:PE X l tl):PI X tg l (AeO tl):=by
 exists 2,R,I,h;refine thn (U oq s σ H _ I h) λv s1 zq=>?_;erw[zq,x,H1,O,Z,q1];erw[q1,z,e,q];subst e;erw[Z,t,rfl];let fp:∀(o:Obj),∀b> [#[0,s1]],AZ X oq H1 b:=λo b hb=>by
  let e:b=#[0,s1]:=by simpa using hb
  subst e;exact O.fpOk (uq _) (O.hok.fresh (uq _))
 cases ha:z.cps.all (·<128)
 .refine wpAny_pyIter_wide ha ?_;exact(#[0,s1],[#[0,s1]],_,_,H1,1,O.kept (t':=s1.toks) λb o e=>ud _ e,Bc "str_iterator" (.inr rfl),(_,uH _ rfl,1,1),fp default,q)
 .refine wpAny_pyIter_ascii ha ?_;exact(#[0,s1],[#[0,s1]],_,_,H1,1,O.kept (t':=s1.toks) λb o e=>ud _ e,Bc "str_ascii_iterator" (.inl rfl),(_,uH _ rfl,1,1),fp default,q)
inductive Ad6 (x:V)(lo:Option Int)(hi:Option Int)(H:Hp)(Q:VK):Prop
 |mk (z:_)(_:x= !z)(_:↑z<=Vm)(_:Q (.str (HV z lo hi)) H)
abbrev Cl:o6->om (Int×Tok)
 | .int i t=>u_ (i,t)|_=>U_
def Aa0:SlR X Ad6:=by
 exists 2,x,v,O,U,lo,hi,sl,Q,I,rx,hs,pl,pu,h;erw[h,z,rfl,hz,q];erw[rx,t,rfl];exists "str",_,F.slot_str_getitem.lookup,vX _ _ _;let Z:O=partValue (Cl O)/\lo=(Cl O).map (·.1):=by cases pl<;>exact[1:1]
 let hu:U=partValue (Cl U)/\hi=(Cl U).map (·.1):=by cases pu<;>exact[1:1]
 erw[hs,o,e1,e2,e3];refine vk (n:=1) I.tk ?_;refine wpAny_getItem_str_slice (l:=Cl O) (u:=Cl U) (st:=U_) (o,e1,e2,by rw[e3,<-Z.1,<-hu.1];rfl) rfl ?_
 refine post_val_or_str [?_:λt' k=>?_]
 .exact uY (FH z _ _) hz
 .intro htk;exact(.str (HV z lo hi),H,I.tok k,⟨t',by rw[Z.2,hu.2];rfl⟩,q)
def qX {K:o0}(U:X.K=K):YN X (.builtin "isinstance") (λxs H Q=>∃x T t b,xs= [x,.ty T]/\Ci K H x t/\PySem.W.kitOne K t (.type T)=u_ b/\Q (.bl b) H):=by
 exists 2,xs,us,Q,I,r,h;erw[h,x,T,t,b,rfl,ty,e,q];erw[IX r,u,Z,rfl,ru,O];cases O;subst U;exact vk (n:=1) I.tk (EQ I ru ty e λtk htk=>(.bl b,H,I.tok tk,1,q))
def sQ:∀bs:oj Bool,(Vu ↑bs).all (λi=>bs.getD i v_)=bs.all id
 | []=>rfl|b::r=>by
  rw[uB,TX,vE,UD,vE];let e:(Vu ↑r).all ((λi=>(b::r).getD i v_)∘TL)=(Vu ↑r).all λi=>r.getD i true:=by
   congr 1
  rw[e,sQ r]
  rfl
def zy (hc:X.calm=v_):YN X (.builtin "all") (λxs H Q=>∃(p:o3) (bs:oj Bool),xs= [-p]/\SqL X.K H p (bs.map V.bl)/\Q (.bl (bs.all id)) H):=by
 exists 2,xs,us,Q,I,r,h;erw[h,p,bs,rfl,hp,q];erw[jX r,u,rfl,ru];cases ru;erw[I.list hp,its,rv,pl,hz];let aa:p<#[0,s]:=by erw[pl,o,n,e,_];exact uK e
 refine vk (n:=1) I.tk ?_;refine call_all_walk (V2 pl.isList ?_);let up:∀b o,s.heap.get? b=u_ o->(s.heap.push {cls:= .type "list_iterator",data:= .fields #[-p,.int 0 0]}).get? b=u_ o:=λb o e=>ud _ e;let hl:↑its=↑bs:=by have:=↑rv;simpa using this.symm
 exists #[0,s],_,_,_,_,_,λi=>bs.getD i v_,1,Walks.list (show X.A.in1.handled=U_ from I.ok.hd hc) #[0,s] p (vb aa) its.toArray,[(_,uH _ rfl,1,1):pl.isList.push _],?_,?_
 .intro i v s' Q' E' hv hQ;let O:its[i]? =u_ v:=by simpa using hv
  let hi:i<↑its:=(Af.mp O).1;obtain⟨u,e1,e2⟩:=rv.get (i:=i) (x:= .bl (bs[i]'())) (by simp[show i<bs.length by omega])
  rw[O] at e1;cases e1;cases e2;have:bs.getD i v_=bs[i]'():=by simp[Gi,show i<bs.length by omega]
  let U:Q' (bs.getD i v_) s':=hQ;rw[this] at U;exact vA U
 .intro h' tk kk htk;let Z:(Vu its.toArray.size).all (λi=>bs.getD i v_)=bs.all id:=by
   rw[uA,hl];exact sQ bs
  rw[Z];let I1:=I.kept (t':=s.toks) (h':=s.heap.push {cls:= .type "list_iterator",data:= .fields #[-p,.int 0 0]}) up;let ac:=I.fpOk (uq _) (I.hok.fresh (uq #[0,s]));erw[ac,f0,f1,f2,f3,f4,f5];exact(.bl (bs.all id),H,I1.turned (it:=#[0,s]) (λb o hb e=>kk b o (by simpa using hb) e) f0 f1 f3 f4 f5,1,q)
end
section
variable {X:Cx}
def KQ {x:Str}{i:Int}{pos:Pos}(O:Gl X x)(hm:∃t,X.mg x=u_ (.int i t))(hd:(x==("__debug__":Str))=Vi):PE X (.Name x pos) (tC (.int i)):=by
 erw[hm,t,hm];exact Ai O hm [t:1] hd
def Abo {x z:Str}{pos:Pos}(O:Gl X x)(hm:∃t,X.mg x=u_ (.str z t))(hd:(x==("__debug__":Str))=Vi):PE X (.Name x pos) (tC (!z)):=by
 erw[hm,t,hm];exact Ai O hm [t:1] hd
def pe_gR {x:Str}{a:o3}{pos:Pos}(O:Gl X x)(hm:X.mg x=u_ (-a))(hd:(x==("__debug__":Str))=Vi):PE X (.Name x pos) (tC (-a)):=Ai O hm rfl hd
end
variable {H:Hp}{p:o3}
def qf (h:H p=U_)(o:HO):ic H (upd H p o):=λb u q=>by rw[qj (qk q h)];exact q
abbrev iW (p:o3)(H H':Hp):Prop:=∀b o,H b=u_ o->b≠p->H' b=u_ o
variable {H1 H2:Hp}
def iW.trans (a:iW p H H1)(b:iW p H1 H2):iW p H H2:=λc o h n=>b c o (a c o h n) n
def iW.upd (p:o3)(H:Hp)(o:HO):iW p H (L2.upd H p o):=λb u h n=>by rw[qj n];exact h
variable {H':Hp}
def iW.same (k:iW p H1 H')(s:ic H H1)(n:H p=U_):ic H H':=λb o h=>k b o (s b o h) (qk h n)
def xk {α:Type}{xs:oj α}{i:Int}(h0:0<=i)(h1:i<↑xs):∃c,atI xs i=u_ c:=by
 obtain⟨n,rfl⟩:∃n:Nat,i=(n:Int):=[i.toNat:()]
 let hn:n<↑xs:=by omega
 exact[xs[n]:qD (uf hn)]
abbrev nC (cells:oj (Str×o3)):oj (Str×VU)->oj (Str×o3)->oj (Str×o3)
 | [],cs=>cs|(n,k)::r,cs=>nC cells r (if k== .free then(match cells.lookup n with|some a=>(n,a)::cs|none=>cs) else cs)
def qal {cells:oj (Str×o3)}:∀{names:oj (Str×VU)}{cs:oj (Str×o3)},(∀y c,cs.lookup y=u_ c->cells.lookup y=u_ c)->∀y c,(nC cells names cs).lookup y=u_ c->cells.lookup y=u_ c
 | [],_,h=>h|(n,k)::r,cs,h=>by
  unfold nC;refine qal λy c e=>?_;split at e
  .split at e
   .rename_i a ha
    rw[vt] at e;split at e
    .rename_i U
     let O:y=n:=beq_iff_eq.mp U;subst O;cases e;exact ha
    .exact h y c e
   .exact h y c e
  .exact h y c e
def sE {cells:oj (Str×o3)}:∀{names:oj (Str×VU)}{cs:oj (Str×o3)}{y:Str},(∃c,cs.lookup y=u_ c)->∃c,(nC cells names cs).lookup y=u_ c
 | [],_,_,h=>h|(n,k)::r,cs,y,h=>by
  unfold nC;refine sE ?_;split
  .split
   .rw[vt];split
    .exact⟨0⟩
    .exact h
   .exact h
  .exact h
def Ks {cells:oj (Str×o3)}:∀{names:oj (Str×VU)}{cs:oj (Str×o3)}{y:Str},(y,VC)>names->(∃c,cells.lookup y=u_ c)->∃c,(nC cells names cs).lookup y=u_ c
 | [],_,_,h,_=>nomatch h|(n,k)::r,cs,y,h,O=>by
  unfold nC;rcases Aa.mp h with e|h
  .cases e;refine sE ?_;erw[O,c,O];rw[A6 (),O]
   exact⟨c,by simp[vt]⟩
  .exact Ks h O
def zU {env:Env}:∀{names:oj (Str×VU)}{cs:oj (Str×o3)},(∀y,(y,VC)>names->∃c,env.cells.lookup y=u_ c)->
  (V_ names cs λx r=>(do
   if x.2== .free then
    let a<-tm env x.1
    pure (GW ((x.1,a)::r))
   else pure (GW r):Sem (ForInStep (oj (Str×o3)))))=(pure (nC env.cells names cs):Sem (oj (Str×o3)))
 | [],cs,_=>rfl|(n,k)::r,cs,h=>by
  rw[Uz];let Z:∀y,(y,VC)>r->∃c,env.cells.lookup y=u_ c:=λy hy=>h y (uh _ hy);unfold nC;by_cases O:(k==VC)=v_
  .let U:k= .free:=by simpa using O
   subst U;erw[h n ui,c,hc];let e:tm env n=pure c:=by unfold tm;rw[hc]
   simp![O,Vh,e,hc,tW];exact zU Z
  .simp![A4 O,tW];exact zU Z
def Ke {scope:VB}{env:Env}(h:∀y,(y,VC)>scope.names->∃c,env.cells.lookup y=u_ c):HU scope env=pure (nC env.cells scope.names []):=by
 unfold HU;let q:=zU (cs:= []) h;show(V_ scope.names ([]:oj (Str×o3)) (λx r=>(do
   if x.2== .free then
    let a<-tm env x.1
    pure (GW ((x.1,a)::r))
   else pure (GW r):Sem (ForInStep (oj (Str×o3)))))>>=λcs=>pure cs)=_
 rw[q,tW]
def ZC {env:Env}(hf:env.scope.kind= .function):∀{names:oj (Str×VU)}{x:Str},names.lookup x=u_ .free->env.kindOf x=u_ .cell->
  (names.map λ(n,k)=>if(k==VC&&env.scope.kind== .function&&env.kindOf n==u_ .cell) then(n,Gk) else(n,k)).lookup x=u_ .cell
 | [],_,h,_=>by simp at h|(n,k)::r,x,h,hc=>by
  let ih:= @ZC env hf r x;show VI x ((if(k==VC&&env.scope.kind== .function&&env.kindOf n==u_ .cell)=v_ then(n,Gk) else(n,k))::_)=_
  cases O:x==n with
  |true=>
   simp![vt,O] at h;cases h;let Z:x=n:=beq_iff_eq.mp O;subst Z;rw[A6 (by rw[hf,hc];rfl)]
   simp[vt]
  |false=>
   simp![vt,O] at h;by_cases U:(k==VC&&env.scope.kind== .function&&env.kindOf n==u_ .cell)=v_
   .rw[A6 U];simp![vt,O];exact ih h hc
   .rw[A4 U];simp![vt,O];exact ih h hc
def WF {env:Env}:∀{names:oj (Str×VU)}{x:Str},(∀y>names,y.2≠ .cell)->
  ((names.map λ(n,k)=>if(k==VC&&env.scope.kind== .function&&env.kindOf n==u_ .cell) then(n,Gk) else(n,k)).lookup x=u_ .cell\/
   (names.map λ(n,k)=>if(k==VC&&env.scope.kind== .function&&env.kindOf n==u_ .cell) then(n,Gk) else(n,k)).lookup x=u_ .free)->(x,VC)>names
 | [],_,_,h=>by simp at h|(n,k)::r,x,hn,h=>by
  let ih:= @WF env r x (λy hy=>hn y (uh _ hy));let g:VI x ((if(k==VC&&env.scope.kind== .function&&env.kindOf n==u_ .cell)=v_ then(n,Gk) else(n,k))::(r.map λ(n,k)=>if(k==VC&&env.scope.kind== .function&&env.kindOf n==u_ .cell) then(n,Gk) else(n,k)))=u_ .cell\/
   VI x ((if(k==VC&&env.scope.kind== .function&&env.kindOf n==u_ .cell)=v_ then(n,Gk) else(n,k))::(r.map λ(n,k)=>if(k==VC&&env.scope.kind== .function&&env.kindOf n==u_ .cell) then(n,Gk) else(n,k)))=u_ .free:=h
  let aa:k≠ .cell:=hn (n,k) ui;by_cases Z:(k==VC&&env.scope.kind== .function&&env.kindOf n==u_ .cell)=v_
  .rw[A6 Z] at g;let hk:k= .free:=by
    rw[uG,uG] at Z
    simpa using Z.1.1
   subst hk;cases U:x==n with
   |true=>
    let O:x=n:=beq_iff_eq.mp U;subst O;exact ui
   |false=>
    simp![vt,U] at g;exact uh _ (ih g)
  .rw[A4 Z] at g;cases U:x==n with
   |true=>
    let O:x=n:=beq_iff_eq.mp U;subst O;simp![vt,U] at g;rcases g with g|g
    .exact A8 (uO g) aa
    .rw[show k=VC from uO g]
     exact ui
   |false=>
    simp![vt,U] at g;exact uh _ (ih g)
nonrec abbrev blk (X:Cx)(scope:VB)(Nb:oj Str)(cl:oj (Str×o3))(C:o3)(s₀:o7)(H₀:Hp)(fp:oj o3)(pn:oj (o3×Obj)):Cx:=
 {X with N:=Nb,s₀:=s₀,H₀:=H₀,env:=T8 scope cl C X.env,outer:=X.stack,ex:=fp,fn:=λ_=>Vi,pn:=pn,xe:=λ_ _=>False}
structure LcS (X:Cx)(scope:VB)(Nb:oj Str)(nt:Nat)(fr:oj Nat):Prop where
 kind:scope.kind= .function
 cell:∀y>scope.names,y.2≠ .cell
 names:∀y>scope.names,y.2= .local->scope.names.lookup y.1=u_ .local
 free:∀y>scope.names,y.2= .free->X.env.kindOf y.1=u_ .cell
 len:↑Nb=nt+↑fr
 fr:∀(k j:Nat) (x:Str),fr[k]? =u_ j->Nb[nt+k]? =u_ x->X.N[j]? =u_ x/\scope.names.lookup x=u_ .free
abbrev OS (nt:Nat)(fr:oj Nat)(σ:St):St:=FO nt U_++fr.map λj=>(σ[j]?).join
section
variable {pr:o9}{wo:og}{ar:oh}{RR:GP->o7->Prop}{st:o7}
nonrec abbrev nb (pr:o9)(wo:og)(ar:oh)(en:Env)(RR:GP->o7->Prop):o6->o7->Prop:=notedBy (Vz pr wo) ar en λx t=>RR (.error x) t
nonrec abbrev AdZ (en:Env)(cs:oj Expr):Sem Bool:=V_ cs v_ λc b=>if b=v_ then do let y<-isTrue c en (eval c en);pure (GW y) else pure (GW b)
def AQ {el tg Z:Expr}{cs:oj Expr}{sc:VB}{ps:Pos}{O U:o6}{en:Env}(J:Nat->o7->Prop)
  (aa:∀k t,J k t->Vj (Vz pr wo) ar (VM O) (λr t1=>match r with
   |none=>RR (.ok .next) t1|some v=>Vj (Vz pr wo) ar (HL tg O v) (λ_ t2=>Vj (Vz pr wo) ar (Gj tg en v) (λ_ t3=>Vj (Vz pr wo) ar (AdZ en cs) (λb t4=>
     if b=v_ then Vj (Vz pr wo) ar (eval el en) (λx t5=>Vj (Vz pr wo) ar (call (.builtin "list.append") [U,x]) (λ_ t6=>∃m,m<k/\J m t6) (nb pr wo ar en RR) t5) (nb pr wo ar en RR) t4
     else∃m,m<k/\J m t4) (nb pr wo ar en RR) t3) (nb pr wo ar en RR) t2) (nb pr wo ar en RR) t1) (nb pr wo ar en RR) t)
  (k:Nat) (h0:J k st):VS (Vz pr wo) ar (.compLoop (.ListComp el [(tg,Z,cs,(0))] sc ps) 0 O U en) RR st:=by
 refine codeAny_loop rfl J (λk t hJ=>?_) k h0;show Vj _ ar ((compTurn (.ListComp el [(tg,Z,cs,(0))] sc ps) 0 O U en).onRaise λx=>do noteFrame x en;theTreesLotGoes x) _ _ t
 rw[compTurn_list];refine wpAny_noted (A7 (HM (A7 (thn (aa k t hJ) λr t1 q1=>?_))));cases r with
 |none=>exact uD q1|some v=>
  refine A7 (thn q1 λ_ t2 q2=>A7 (thn q2 λ_ t3 q3=>A7 (thn q3 λb t4 q4=>?_)));cases b with
  |false=>exact uD [1:q4]|true=>exact A7 (A7 (thn q4 λx t5 q5=>A7 (thn q5 λ_ t6 q6=>uD (uD [1:q6]))))
end
abbrev Acs (X:Cx)(ifs:oj Expr)(t:TT):Prop:=
 ∀(oq:oj (o3×Obj)) (s:o7) (σ:St) (H:Hp) (Q:Bool->Hp->Prop),#[I]->t σ H Q->Vj #[X,X] X.A (AdZ X.env ifs) (TP X oq σ Q) X.xe s
abbrev nH:TT:=λ_ H Q=>Q v_ H
def yd {X:Cx}:Acs X [] nH:=λ_ _ _ H _ I h=>wpAny_tests_nil [H:I:h]
def DS {X:Cx}{c:Expr}{t:TT}(h:PT X c t):Acs X [c] t:=λoq s σ H Q I O=>wpAny_tests_one (h oq s σ H Q I O)
abbrev Au (D:o3)(J:It)(g:TG)(tc:TT)(te:TE)(σb:St)(H1:Hp)(Q:VK):Prop:=
 ∃(n:Nat) (W:Nat->St->oj V->Hp->Prop),n<=Vm/\W 0 σb [] (upd H1 D (.lst []))/\
  (∀i σ ys H,i<n->W i σ ys H->H D=u_ (.lst ys)->↑ys<=i->J.go i H/\∀x H',J.yld i H x H'->g x σ H' λσ2 H2=>tc σ2 H2 λb H3=>
   if b=v_ then te σ2 H3 λy H4=>H4 D=u_ (.lst ys)/\W (i+1) σ2 (ys++ [y]) (upd H4 D (.lst (ys++ [y]))) else H3 D=u_ (.lst ys)/\W (i+1) σ2 ys H3)/\
  ∀σ ys H,W n σ ys H->H D=u_ (.lst ys)->J.stop n H/\Q (-D) H
abbrev tLC (nt:Nat)(fr:oj Nat)(wi:TI)(g:TG)(tc:TT)(te:TE):TE:=λσ H Q=>wi σ H λJ H1=>∀D,H1 D=U_->Au D J g tc te (OS nt fr σ) H1 Q
section
variable {X:Cx}{scope:VB}{Nb:oj Str}{nt:Nat}{fr:oj Nat}
def Sz {oq:oj (o3×Obj)}{σ:St}{H:Hp}{s:o7}{fp:oj o3}{C:o3}{h4:o8}{tk:Nat}(S:LcS X scope Nb nt fr)(I:#[I])(hC:C=#[0,s])
  (ag:h4.Ns C λ_=>U_) (U:∀b o,s.heap.get? b=u_ o->h4.get? b=u_ o) (hf:∀b>fp,AZ X oq H b) (ho:∀b>fp,∃o,s.heap.get? b=u_ o) (ht:0<tk:=by ac_rfl):
  Inv (blk X scope Nb (nC X.env.cells scope.names []) C s H fp (X.pn++oq)) [] (OS nt fr σ) H {s with heap:=h4,toks:=tk}:=by
 subst hC;let sub:∀y c,(nC X.env.cells scope.names []).lookup y=u_ c->X.env.cells.lookup y=u_ c:=qal λy c e=>by simp at e
 let Z:∀y,(y,VC)>scope.names->X.env.kindOf y=u_ .cell:=λy hy=>S.free _ hy rfl;let ad:∀b o,s.heap.get? b=u_ o->b≠#[0,s]:=λb o e z=>by rw[z] at e;exact A8 (uK e) (vT _)
 let O:∀b,b≠X.env.locals->b∉X.fs->b∉frs X.stack:=λb h1 h2 z=>(Aa.mp (I.stkSub b z)).elim h1 h2;exists (I.ok.mod,S.kind,I.ok.glob,I.ok.blt,uq _,λx y c h1 h2=>I.ok.inj x y c (sub x c h1) (sub y c h2),λx hx=>?_,λx c z=>(by cases z),I.ok.hd,I.ok.frames,.inl rfl,λb hb=>?_,I.bs,uY I.ok.bsz I.sz,λb o e hb=>?_,λb hb=>?_,I.stack,I.stkFree),1,I.bare,Un.kept U,[_:ag:λi x v e1 e2 e3=>?_],λx c e=>?_,I.hok.fresh (uq _),λx c e=>I.freeC x c (sub x c e),λp hp=>?_,I.hok.kept U,?_,ht
 .let hm:=WF (env:=X.env) S.cell hx;exact Ks hm (I.ok.has x (.inl (Z x hm)))
 .erw[ho b hb,o,e];exact[ad b o e:λx c e'=>(hf b hb).2.2.2.2.1 x c (sub x c e')]
 .rcases(hf b hb).2.2.2.1 with z|z
  .exact I.ok.noex b o e z
  .exact A8 (Vx (uK e) (uY I.ok.bsz z)) (vT _)
 .exact O b (hf b hb).2.1 (hf b hb).2.2.1
 ·
  let hi:nt<=i:=by
   rcases V8 i nt with z|z
   .unfold OS at e2;rw[UH (by simpa using z),RN] at e2
    split at e2<;>cases e2
   .exact z
  obtain⟨k,rfl⟩:∃k,i=nt+k:=[i-nt:()]
  unfold OS at e2;rw[vn (by simp)] at e2
  simp![FT,Nat.add_sub_cancel_left,uJ] at e2;cases ej:fr[k]? with
  |none=>rw[ej] at e2;cases e2|some j=>
   rw[ej] at e2;let aa:(σ[j]?).join=u_ v:=uO e2;let ae:σ[j]? =u_ (u_ v):=by
    cases q:σ[j]? with
    |none=>rw[q] at aa;cases aa|some z=>rw[q] at aa;exact A9 u_ aa
   erw[S.fr k j x ej e1,n1,n2];let kx:X.env.kindOf x=u_ .cell:=Z x (vO n2);erw[I.loc,m,hn,hl];erw[hl j x v n1 ae (.inr (.inl kx)),u,r,l];exists u,r,.inr [.inl (ZC I.ok.kind n2 kx):?_];rcases l with⟨z,_⟩|⟨_,c,ec,ac⟩
   .rw[kx] at z;cases z
   .erw[Ks (cells:=X.env.cells) (cs:= []) (vO n2) [c:ec],c',af];have:=sub x c' af;rw[ec] at this;cases this;erw[ac,o,q,d];exact(c,af,o,U c o q,d)
 .erw[I.cell x c (sub x c e),v,o,q,d];exact(v,o,U c o q,d)
 .let ah:p>X.pn++oq:=by simpa using hp
  erw[I.pin p ah,e,n,ne,nf,d];exact(U _ _ e,n,ad _ _ e,O _ ne nf,d)
 .show(OS nt fr σ).length=↑Nb;unfold OS;rw[S.len];simp
def EI {tg aa al:Expr}{am:oj Expr}{wi:TI}{g:TG}{tc:TT}{te:TE}{pos:Pos}{R:o6->o3->GP->o7->Prop}{oq:oj (o3×Obj)}{s:o7}{σ:St}{H:Hp}{Q:VK}(S:LcS X scope Nb nt fr)(ao:X.calm=v_)(hi:PI X tg aa wi)
  (hg:∀cl C s₀ H₀ fp pn,PG (blk X scope Nb cl C s₀ H₀ fp pn) tg g) (hc:∀cl C s₀ H₀ fp pn,Acs (blk X scope Nb cl C s₀ H₀ fp pn) am tc) (he:∀cl C s₀ H₀ fp pn,PE (blk X scope Nb cl C s₀ H₀ fp pn) al te)
  (I:#[I]) (h:tLC nt fr wi g tc te σ H Q)
  (hR:∀(D C:o3) (H':Hp) (s1:o7) (m:Str->om o6),Inv X oq σ H' s1->s1.heap.Ns C m->AZ X oq H' C->Q (-D) H'->R (-D) C (.ok .next) s1):
  Vj #[X,X] X.A (eval aa X.env) (λx s₁=>Vj #[X,X] X.A (tI x) (λit s₂=>Vj #[X,X] X.A (HX []) (λax s₃=>
   Vj #[X,X] X.A (Tz scope X.env.globals (nC X.env.cells scope.names []) [] X.env.qual U_ .none (u_ X.env)) (λag s₄=>
    VS #[X,X] X.A (.compStart (.ListComp al [(tg,aa,am,(0))] scope pos) 0 it ax {ag with scope:=relabel scope X.env}) (R ax ag.locals) s₄) X.xe s₃) X.xe s₂) X.xe s₁) X.xe s:=by
 refine thn (hi oq s σ H _ I h) λv s1 h1=>thn h1 λaS s2 h2=>?_;erw[h2,it,fp,tn,J,H2,e,I2,T,ap,f2,q2];subst e;let ay:H2 #[0,s2]=none:=I2.hok.fresh (uq _);erw[q2 _ ay,n,W,hn,w0,step,fin];generalize hD:#[0,s2]=D at*;refine vB ?_;rw[hD];let I3:Inv X oq σ (upd H2 D (.lst [])) {s2 with heap:=s2.heap.push {cls:= .type "list",data:= .seq ([]:oj o6).toArray}}:=by
  have:=I2.lnew (ys:= []) (its:= []) (t':=s2.toks) .nil (vc _);rwa[hD] at this
 refine wpAny_newFunctionEnv S.cell (by intro y hy;simp at hy) (λh4 ad aq=>?_) S.kind
 dsimp only at ad aq⊢;generalize aA:s2.heap.push {cls:= .type "list",dict:=U_,data:= .seq ([]:oj o6).toArray}=h3 at ad aq I3⊢;let hC:h3.objs.size=D+1:=by rw[<-aA,vv,hD]
 let ae:∀b o,h3.get? b=u_ o->h4.get? b=u_ o:=λb o e=>aq.extBut b o (vb (uK e)) (ud _ e);let Z:∀b o,s2.heap.get? b=u_ o->h3.get? b=u_ o:=λb o e=>by rw[<-aA];exact ud _ e
 let au:∀b>fp,∃o,s2.heap.get? b=u_ o:=λb O=>let⟨o,e,_⟩:=T.obj _ _ ap b O;[o:e];let aG:∀b>fp,b≠D:=λb O z=>by
  erw[au b O,o,e];let q:=uK e;rw[z,hD] at q;exact vT _ q
 let f3:∀b>fp,AZ X oq (upd H2 D (.lst [])) b:=λb O=>⟨by rw[qj (aG b O)];exact(f2 b O).1,(f2 b O).2⟩
 let IB:=Sz (C:=h3.objs.size) (h4:=h4) (tk:=s2.toks+↑([]:oj (Str×o6))) (fp:=fp) S I3 rfl ad ae f3 λb O=>let⟨o,e⟩:=au b O;[o:Z b o e];generalize U:blk X scope Nb (nC X.env.cells scope.names []) h3.objs.size {s2 with heap:=h3} (upd H2 D (.lst [])) fp (X.pn++oq)=Xb at IB
 let gB:=hg (nC X.env.cells scope.names []) h3.objs.size {s2 with heap:=h3} (upd H2 D (.lst [])) fp (X.pn++oq)
 let cB:=hc (nC X.env.cells scope.names []) h3.objs.size {s2 with heap:=h3} (upd H2 D (.lst [])) fp (X.pn++oq)
 let eB:=he (nC X.env.cells scope.names []) h3.objs.size {s2 with heap:=h3} (upd H2 D (.lst [])) fp (X.pn++oq)
 rw[U] at gB cB eB;let xP:Xb.prog=X.prog:=by rw[<-U]
 let xW:Xb.w=X.w:=by rw[<-U]
 let xK:Xb.K=X.K:=by rw[<-U]
 let xA:Xb.A=X.A:=by rw[<-U]
 let xC:Xb.calm=true:=by rwa[<-U]
 let xE:Xb.env=T8 scope (nC X.env.cells scope.names []) h3.objs.size X.env:=by rw[<-U]
 let xX:Xb.xe=λ_ _=>False:=by rw[<-U]
 let af:∀{H':Hp},(∀b>fp,H' b=U_)->∀b>fp,AZ Xb [] H' b:=λhn b O=>by
  erw[f2 b O,g1,g2,g3,g4,g5,g6];erw[au b O,o,e];subst U;exists hn b O,λz=>?_,λz=>(Aa.mp (I2.stkSub b z)).elim g2 g3,.inl O,λx c ec=>g5 x c (qal (λy c e=>by simp at e) x c ec),λp hp=>g6 p (by simpa using hp)
  let ac:=uK (Z b o e);let z':b=h3.objs.size:=z;rw[z'] at ac;exact vT _ ac
 let ah:∀s5:o7,s5={s2 with heap:=h4,toks:=s2.toks+↑([]:oj (Str×o6))}->
   VS #[X,X] X.A (.compLoop (.ListComp al [(tg,aa,am,(0))] scope pos) 0 (-it) (-D) (T8 scope (nC X.env.cells scope.names []) h3.objs.size X.env))
    (R (-D) h3.objs.size) s5:=by
  rintro s5 rfl;refine AQ (λk s'=>∃i σ' ys H',Inv Xb [] σ' H' s'/\tn i s'.heap/\(∀b>fp,H' b=U_)/\H' D=u_ (.lst ys)/\i<=n/\k=n-i/\↑ys<=i/\W i σ' ys H') ?_ n
   ((0),OS nt fr σ,[],_,IB,T.keep _ _ _ ap λb O o e=>ae b o (Z b o e),λb O=>(f3 b O).1,qg,vc _,1,uq _,w0)
  rintro k s' ⟨i,σ',ys,H',I',aB,aC,aD,aH,rfl,aI,w'⟩;rcases V8 i n with ac|aJ
  .erw[step i σ' ys H' ac w' aD aI,go,next];let ti:=T.item Xb xP xW xK xC i [] s' σ' H' (λ_ _=>False) I' (af aC) aB go;rw[xA] at ti;refine vz ti (λr s1 h1=>?_) λ_ _ z=>z.elim;erw[h1,u,rfl,h1];refine vz h1 (λ_ aE aK=>?_) λ_ _ z=>z.elim;erw[aK,x,H5,I5,r5,y5,aw,aL];let aM:=I5.pinned (af aL) (T.obj _ _ aw);let ga:=gB _ aE σ' H5 x u _ aM r5 (next x H5 y5);rw[xP,xW,xA,xE,xX] at ga;refine vz ga (λ_ s3 aN=>?_) λ_ _ z=>z.elim;erw[aN,σ6,H6,I6,q6];let ca:=cB _ s3 σ6 H6 _ I6 q6;rw[xP,xW,xA,xE,xX] at ca;refine vz ca (λok s4 aO=>?_) λ_ _ z=>z.elim;erw[aO,H7,I7,q7];let ak:∀{σ8:St}{H8:Hp}{s8:o7},Inv Xb ([]++ow fp aE.heap) σ8 H8 s8->Inv Xb [] σ8 H8 s8/\tn (i+1) s8.heap/\∀b>fp,H8 b=none:=λ{σ8 H8 s8} I8=>by
    exists I8.unpinned,T.keep _ _ _ aw λb O o e=>(I8.pin (b,o) (uN _ (uN _ (xl O e)))).1,λb O=>?_;erw[T.obj _ _ aw b O,o,e,d];exact(I8.pin (b,o) (uN _ (uN _ (xl O e)))).2.1
   cases ok with
   |false=>
    rw[A4 ub] at q7⊢;erw[ak I7,b1,b2,b3];exact(n-(i+1),(),i+1,σ6,ys,H7,b1,b2,b3,q7.1,ac,1,(),q7.2)
   |true=>
    rw[A6 rfl] at q7⊢;let ea:=eB _ s4 σ6 H7 _ I7 q7;rw[xP,xW,xA,xE,xX] at ea;refine vz ea (λy s5 h5=>?_) λ_ _ z=>z.elim;erw[h5,yv,H8,I8,r8,aP,q8];let ma:=Y5 (X:=Xb) _ s5 σ6 H8 (-D) [yv] (-D) [y] (λ_ H9=>H9=upd H8 D (.lst (ys++ [yv]))) I8 rfl (.cons r8 .nil) (D,ys,yv,1,1,aP,(),1)
    rw[xP,xW,xA,xX] at ma;refine vz ma (λ_ s6 h6=>?_) λ_ _ z=>z.elim;erw[h6,_,H9,I9,_,rfl];erw[ak I9,b1,b2,b3];exact(n-(i+1),(),i+1,σ6,ys++ [yv],_,b1,b2,b3,qg,ac,1,by rw[uL,vU];omega,q8)
  .let aF:i=n:=Nat.le_antisymm aH aJ;subst aF;erw[fin σ' ys H' w' aD,stop,hq];let td:=T.done Xb xP xW xK xC i [] s' σ' H' (λ_ _=>False) I' (af aC) aB stop;rw[xA] at td;refine vz td (λr s1 h1=>?_) λ_ _ z=>z.elim;erw[h1,rfl,I6];erw[id I6.loc,m,hm,_];rw[xE] at hm;let aQ:H' h3.objs.size=none:=by have:=I6.free;rwa[xE] at this
   let u6:Un (frs X.stack) fp (upd H2 D (.lst [])) H' h3 s1.heap:=by have:=I6.base;subst U;exact this
   let u2:Un (frs X.stack) fp H2 (upd H2 D (.lst [])) s2.heap h3:=Un.laid (λb o e=>Z b o e) (by rw[hD];exact uq _) ay
   let aR:s1.os=s2.os:=by have:=I6.os;subst U;exact this
   let hok:HOk X.prog X.w H' s1.heap:=by
    have:=I6.hok;subst U;exact this
   refine hR D h3.objs.size H' s1 m (I2.call' (s':=s1) (ch:=fp) aR (u2.trans u6) hok I6.bare λb O=>?_) hm (I2.fpOk () aQ) hq
   erw[f2 b O,g1,g2,g3,g4,g5,g6];exact(g4,g2,g5,g6)
 exact codeAny_compStart_list (ah _ rfl) (T.self _ 0 _ _ _ (T.keep _ _ _ ap λb O o e=>ae b o (Z b o e)) (ah _ rfl))
def XY {tg O aa:Expr}{ac:oj Expr}{wi:TI}{g:TG}{tc:TT}{te:TE}{pos:Pos}(S:LcS X scope Nb nt fr)(U:X.calm=v_)(hi:PI X tg O wi)
  (hg:∀cl C s₀ H₀ fp pn,PG (blk X scope Nb cl C s₀ H₀ fp pn) tg g) (hc:∀cl C s₀ H₀ fp pn,Acs (blk X scope Nb cl C s₀ H₀ fp pn) ac tc) (he:∀cl C s₀ H₀ fp pn,PE (blk X scope Nb cl C s₀ H₀ fp pn) aa te)
  (hs:∀x,Fg O X.env x=pure x):PE X (.ListComp aa [(tg,O,ac,(0))] scope pos) (tLC nt fr wi g tc te):=by
 exists 2,Q,I,h;let Z:HU scope X.env=pure (nC X.env.cells scope.names []):=Ke λy hy=>I.ok.has y (.inl (S.free _ hy rfl));rw[eval_ListComp];refine Rt (use:=U_) rfl hs Z S.kind S.names ?_;refine EI (R:=λad C=>compPost #[X,X] X.A X.xe U_ (EP X oq σ Q) ad C) S U hi hg hc he I h λD C H' s1 m I1 hm fc q=>?_;erw[fc,f0,f1,f2,f3,f4,f5];exact[m:hm:λh' ae=>(-D,H',I1.turned (t':=s1.toks) (it:=C) (λb o hb e=>(ae.2 b hb).trans e) f0 f1 f3 f4 f5,1,q)]
def wj {i:Nat}{y:Str}{tg O U:Expr}{Z:oj Expr}{wi:TI}{g:TG}{tc:TT}{te:TE}{pos aa py:Pos}(hN:X.N.Nodup)(ae:X.N[i]? =u_ y)(hy:Loc X.env.scope y)(S:LcS X scope Nb nt fr)(ac:X.calm=v_)(hi:PI X tg O wi)
  (hg:∀cl C s₀ H₀ fp pn,PG (blk X scope Nb cl C s₀ H₀ fp pn) tg g) (hc:∀cl C s₀ H₀ fp pn,Acs (blk X scope Nb cl C s₀ H₀ fp pn) Z tc) (he:∀cl C s₀ H₀ fp pn,PE (blk X scope Nb cl C s₀ H₀ fp pn) U te)
  (hs:∀x,Fg O X.env x=pure x) (af:He (.ListComp U [(tg,O,Z,(0))] scope pos) (u_ (.Name y py)) aa.line X.env=pure v_)
  (hf:X.fn y=v_\/X.env.scope.names.lookup y=u_ .local):
  PS X (.Assign [.Name y py] (.ListComp U [(tg,O,Z,(0))] scope pos) aa) (Ac4 (tLC nt fr wi g tc te) (YB i)):=by
 exists 2,D,I,h;let ad:HU scope X.env=pure (nC X.env.cells scope.names []):=Ke λy hy=>I.ok.has y (.inl (S.free _ hy rfl));rw[exec_Assign_Name_used _ _ _ _ af];refine A7 (HM (A7 ?_));show Vj _ X.A (do let _<-comprehension (.ListComp U [(tg,O,Z,(0))] scope pos) scope X.env _ (HX []) Vi (eval O X.env) (u_ (Gj (.Name y py) X.env))) _ _ s
 refine A7 (vz (Rt (use:=u_ (Gj (.Name y py) X.env)) (Q:=λ_ s'=>SP X oq D .next s') rfl hs ad S.kind S.names ?_) (λ_ s' hq=>uD (uD hq)) λ_ _ e=>e);refine EI (R:=λag C=>compPost #[X,X] X.A X.xe (u_ (Gj (.Name y py) X.env)) (λ_ s'=>SP X oq D .next s') ag C) S ac hi hg hc he I h λA C H' s1 m I1 hm fc q=>?_;erw[fc,f0,f1,f2,f3,f4,f5];show Vj _ X.A (Gj (.Name y py) X.env (-A)) _ _ s1;refine R8 (nP (v:=-A) I1 hN ae hy (show ik (-A) (-A) from rfl) (λs' I' zq=>?_) hf);erw[zq,a,sb,ha]
 let ah:C≠a:=by
  rcases ha with rfl|ha
  .exact f1
  .exact λz=>f4 y a ha z.symm
 refine[m:hm.sameBut sb ah:λh' ak=>(_,H',I'.turned (t':=s'.toks) (it:=C) (λb o hb e=>(ak.2 b hb).trans e) f0 f1 f3 f4 f5,q)]
end
def Nz {X:Cx}{sc:VB}{x:Str}(O:sc.kind= .function:=by rfl)(U:∀y>sc.names,y.2≠ .cell:=by decide+kernel)(hn:∀y>sc.names,y.2= .local->sc.names.lookup y.1=u_ .local:=by decide+kernel)
  (Z:∀y>sc.names,y.2≠ .free:=by decide+kernel):LcS X sc [x] 1 []:=(O,U,hn,λy hy e=>A8 e (Z y hy),1,λk j x h=>by simp at h)
def IQ {X:Cx}{sc:VB}{Nb:oj Str}{nt:Nat}{fr:oj Nat}(O:VB)(U:oj Str)(Z:X.env.scope=O:=by rfl)(hN:X.N=U:=by rfl)(hk:sc.kind= .function:=by rfl)(hc:∀y>sc.names,y.2≠ .cell:=by decide+kernel)
  (hn:∀y>sc.names,y.2= .local->sc.names.lookup y.1=u_ .local:=by decide+kernel) (hf:∀y>sc.names,y.2= .free->O.names.lookup y.1=u_ .cell:=by decide+kernel) (hl:↑Nb=nt+↑fr:=by rfl)
  (hz:((fr.zip (Nb.drop nt)).all λp=>decide (U[p.1]? =u_ p.2)&&decide (sc.names.lookup p.2=u_ .free))=true:=by decide+kernel):LcS X sc Nb nt fr:=by
 subst Z hN;exists hk,hc,hn,hf,hl,λk j x h1 h2=>?_;let hm:(fr.zip (Nb.drop nt))[k]? =u_ (j,x):=by
  rw[List.getElem?_zip_eq_some];exact⟨h1,by rwa[List.getElem?_drop]⟩
 let q:=List.all_eq_true.mp hz _ (uQ hm);rw[uG] at q;exact[uC q.1:uC q.2]
def AbM {z:Str}{D:o3}{H1:Hp}{te:TE}{tl:St}{Q:VK}(f:Nat->V)(hz:↑z<=Vm)(Z:H1 D=U_)
  (O:∀(i c:Nat) H (R:VK),z.cps[i]? =u_ c->ic H1 H->R (f c) H->te (u_ (.str ⟨#[c]⟩)::tl) H R)
  (hQ:∀H',ic H1 H'->H' D=u_ (.lst (z.cps.toList.map f))->Q (-D) H'):Au D (Its z) (YB 0) nH te (U_::tl) H1 Q:=by
 exists z.cps.size,λi σ ys H=>(∃w,σ=w::tl)/\ys=(z.cps.toList.take i).map f/\ic H1 H,hz,[[U_:1]:1:qf Z _],?_,?_
 .rintro i σ ys H hi ⟨⟨w,rfl⟩,rfl,sm⟩ U hy;exists hi;rintro x H' ⟨rfl,c,hc,rfl⟩;dsimp![YB,nH,Gq];rw[A6 rfl];refine O i c H' _ hc sm (U,[u_ (.str ⟨#[c]⟩):1],?_,?_)
  .rw[vg,show z.cps.toList[i]? =u_ c by simpa using hc]
   simp
  .intro b o e;rw[qj (qk e Z)];exact sm b o e
 .rintro σ ys H ⟨_,rfl,sm⟩ U;exists 1,hQ H sm ?_;rw[U,vi (by simp)]
inductive IsT (H:Hp)(p:List V->Prop)(v:V):Prop
 |mk (a:Addr)(vs:List V)(_:v=-a)(_:H a=u_ (¬vs))(_:p vs)
inductive IsC (p:V->Prop)(q:List V->Prop)(vs:List V):Prop
 |mk (v:V)(r:List V)(_:vs=v::r)(_:p v)(_:q r)
mutual
noncomputable def Is (H:Hp):D->V->Prop
 | .non,v=>v= .non| .bl b,v=>v= .bl b| .int i,v=>v= .int i| .str z,v=>v= .str z/\↑z<=Vm| .lst,v=>∃a xs,v= .ref a/\H a=u_ (.lst xs)| .dct,v=>∃a kvs,v= .ref a/\H a=u_ (.dK kvs)| .tup xs,v=>IsT H (IsL H xs) v
noncomputable def IsL (H:Hp):oj D->oj V->Prop
 | [],vs=>vs= []|x::xs,vs=>IsC (Is H x) (IsL H xs) vs
end
structure Tk (H H':Hp):Prop where
 tup:∀b xs,H b=u_ (¬xs)->H' b=u_ (¬xs)
 lst:∀b xs,H b=u_ (.lst xs)->∃ys,H' b=u_ (.lst ys)
 dct:∀b xs,H b=u_ (.dK xs)->∃ys,H' b=u_ (.dK ys)
def ic.tk (s:ic H H'):Tk H H':=[λb xs e=>s b _ e:λb xs e=>[xs:s b _ e]:λb xs e=>[xs:s b _ e]]
def Tk.refl (H:Hp):Tk H H:=(ic.refl H).tk
def Tk.trans (a:Tk H H1)(b:Tk H1 H2):Tk H H2:=⟨λc xs e=>b.tup c xs (a.tup c xs e),λc xs e=>let⟨ys,e1⟩:=a.lst c xs e;b.lst c ys e1,λc xs e=>let⟨ys,e1⟩:=a.dct c xs e;b.dct c ys e1⟩
variable {xs ys:oj V}
def iW.tk (k:iW p H H')(h:H p=u_ (.lst xs))(h':H' p=u_ (.lst ys)):Tk H H':=by
 exists λb zs e=>k b _ e λz=>?_,λb zs e=>?_,λb zs e=>[zs:k b _ e λz=>?_]
 .rw[z,h] at e;cases e
 .by_cases z:b=p
  .exact[ys:z▸h']
  .exact[zs:k b _ e z]
 .rw[z,h] at e;cases e
mutual
theorem Is.mono {H H':Hp}(t:Tk H H'):∀{d:D}{v:V},Is H d v->Is H' d v
 | .non,_,h=>h| .bl _,_,h=>h| .int _,_,h=>h| .str _,_,h=>h| .lst,_,h=>by
  erw[h,a,vs,e,ha];erw[t.lst a vs ha,ys,q];exact(a,ys,e,q)
 | .dct,_,h=>by
  erw[h,a,vs,e,ha];erw[t.dct a vs ha,ys,q];exact(a,ys,e,q)
 | .tup xs,_,h=>by
  erw[h,a,vs,e,ha,O];exact(a,vs,e,t.tup a vs ha,IsL.mono t O)
theorem IsL.mono {H H':Hp}(t:Tk H H'):∀{ds:oj D}{vs:oj V},IsL H ds vs->IsL H' ds vs
 | [],_,h=>h|_::_,_,h=>by
  erw[h,v,r,e,h1,h2];exact(v,r,e,Is.mono t h1,IsL.mono t h2)
end
def IsL.length {H:Hp}:∀{ds:oj D}{vs:oj V},IsL H ds vs->↑vs=↑ds
 | [],_,h=>by cases(show _= [] from h);rfl|_::_,_,h=>by
  erw[h,v,r,rfl,_,h2];rw[uB,uB,IsL.length h2]
def IsL.get {H:Hp}:∀{ds:oj D}{vs:oj V}{i:Nat}{d:D},IsL H ds vs->ds[i]? =u_ d->∃v,vs[i]? =u_ v/\Is H d v
 | [],_,_,_,_,e=>by simp at e|x::_,_,0,d,h,e=>by
  erw[h,v,r,rfl,h1,_];have:x=d:=by simpa using e
  exact[v:1:this▸h1]
 |_::_,_,i+1,d,h,e=>by
  erw[h,v,r,rfl,_,h2];obtain⟨u,O,e2⟩:=IsL.get (i:=i) (d:=d) h2 (by simpa using e)
  exact⟨u,by simpa using O,e2⟩
def IsL.append {H:Hp}:∀{ds es:oj D}{vs us:oj V},IsL H ds vs->IsL H es us->IsL H (ds++es) (vs++us)
 | [],_,_,_,h,k=>by cases(show _= [] from h);exact k|_::_,_,_,_,h,k=>by
  erw[h,v,r,rfl,h1,h2];exact(v,0,h1,IsL.append h2 k)
variable {v:V}
def IsL.one {d:D}(h:Is H d v):IsL H [d] [v]:=(v,[],1,h,1)
variable {ds:oj D}
def Is.new {vs:oj V}(h:IsL H ds vs)(O:H p=U_):Is (upd H p (¬vs)) (¬ds) (-p):=
 (p,vs,1,qg,h.mono (qf O _).tk)
abbrev tyD:D->o6
 | .non=> .type "NoneType"| .bl _=> .type "bool"| .int _=> .type "int"| .str _=> .type "str"| .lst=> .type "list"| .dct=> .type "dict"| .tup _=> .type "tuple"
def Is.ty {d:D}(h:Is H d v):Ci K H v (tyD d):=by
 cases d with
 |non=>cases(show v= .non from h);exact .non|bl b=>cases(show v= .bl b from h);exact .bl b|int i=>cases(show v= .int i from h);exact .int i|str z=>
  erw[h,rfl,_];exact !z
 |lst=>
  erw[h,a,vs,rfl,ha];exact .lst ha
 |dct=>
  erw[h,a,vs,rfl,ha];exact .dK ha
 |tup xs=>
  erw[h,a,vs,rfl,ha,_];exact ¬ha
section
variable {X:Cx}
def D6:OpR X (Vs .Gt) (λx y H Q=>∃i j,x= .str i/\y= .str j/\Q (.bl (decide (j.cps.toList<i.cps.toList))) H):=by
 exists 2,x,y,v,u,Q,I,O,U,h;erw[h,i,j,rfl,rfl,q];erw[O,t,rfl];erw[U,t',rfl];exact PySem.P.gt_str (Ql I q rfl)
def sG (Z:X.calm=v_):YN X (.builtin "sum") (λxs H Q=>∃(p:o3) (ns:oj Int),xs= [-p]/\SqL X.K H p (ns.map V.int)/\Q (.int ns.sum) H):=by
 exists 2,xs,us,Q,I,r,h;erw[h,p,ns,rfl,hp,q];erw[jX r,u,rfl,ru];cases ru;erw[I.list hp,its,rv,pl,hz];let hi:GK its ns:=CQ rv;erw[hi.allInts.items,ys,U];let O:s.heap.IsList p (intItems ys):=U▸pl.isList;refine vk (n:=1) I.tk (sum_intListG (I.ok.hd Z) O λh' tk t' hk=>?_);intro htk;let e1:ns=ys.toList.map (·.1):=by
  let q1:=hi.numsOf;rw[<-nums_intItems,<-U];exact(show numsOf its.toArray.toList=ns from q1).symm
 let e2:preSum (numAt ys) ys.size=ns.sum:=by
  rw[preSum_eq,vi (by simp),e1]
 rw[e2];exact(.int ns.sum,H,I.kept hk,[t':1],q)
inductive Abh (K:PySem.W.Frag)(x:V)(y:V)(H:Hp)(Q:VK):Prop
 |mk (a:_)(b:_)(xs:_)(_:x=-a)(_:y=-b)(_:SqT K H a xs)(_:SqT K H b [])(_:Q (.bl xs.isEmpty) H)
def qay (U:X.A.units<Vr):OpR X (Vs .Eq) (Abh X.K):=by
 exists 2,x,y,v,u,Q,I,Z,ry,h;erw[h,a,b,xs,rfl,rfl,ha,hb,q];cases Z;cases ry;erw[I.tuple ha,its,r,p,_];erw[I.tuple hb,O,r2,p2,_];cases r2;refine SeqAt.eq_tupleAt (e:=λ_=>v_) p p2 U (λj _ h2=>A8 h2 (U7 _)) (.bl xs.isEmpty,H,I,?_,q);show GQ _=GQ _;cases r with
 |nil=>rfl|cons _ _=>simp
inductive DO (K:PySem.W.Frag)(x:V)(y:V)(H:Hp)(Q:VK):Prop
 |mk (a:_)(b:_)(xs:_)(ys:_)(_:x=-a)(_:y=-b)(_:SqT K H a xs)(_:SqT K H b ys)(_:↑xs+↑ys<=Vm)(_:(xs= []->Q (-b) H))(_:(xs≠ []->ys= []->Q (-a) H))(_:(xs≠ []->ys≠ []->∀p,H p=U_->Q (-p) (upd H p (.tup (xs++ys)))))
def Zm:OpR X (VN .Add) (DO X.K):=by
 exists 2,x,y,v,u,Q,I,U,Z,h;erw[h,a,b,xs,ys,rfl,rfl,ha,hb,hz,q0,q1,q2];by_cases O:xs= []
 .cases U;cases Z;erw[I.tuple ha,its,r1,p1,_];erw[I.tuple hb,aa,r2,p2,_];subst O;cases r1;erw[id p1,[c1,d1,t1,l1],o1,e1,n1,f1];erw[id p2,[c2,d2,t2,l2],o2,e2,n2,f2];simp only at e1 f1 e2 f2;subst e1 f1 e2 f2;exact Tq p1.typeIs p2.typeIs TC T9 PySem.F.slot_tuple_add UR (UK _ _) (tuple_addW0 a b _ _ n1 n2 d1 d2 l1 l2 rfl) [o1:o2:(-b,H,I,1,q0 rfl)]
 .exact Pm oq s σ H (-a) (-b) v u Q I U Z (a,b,xs,ys,1,1,ha,hb,O,hz,q1 O,q2 O)
end
def Tk.updL (h:H p=u_ (.lst xs)):Tk H (upd H p (.lst ys)):=by
 exists λb zs e=>?_,λb zs e=>?_,λb zs e=>[zs:?_]
 .rw[qj (λz=>by rw[z,h] at e;cases e)];exact e
 .by_cases z:b=p
  .exact⟨ys,by rw[z];exact qg⟩
  .exact⟨zs,by rwa[qj z]⟩
 .rw[qj (λz=>by rw[z,h] at e;cases e)];exact e
def At {J:It}{A:o3}{H1:Hp}{te:TE}{tl:St}{Q:VK}{ds:oj D}(f:D->D)(hn:↑ds<=Vm)(hA:H1 A=U_)
  (aa:∀i H,ic H1 H->i<↑ds->J.go i H) (hy:∀i H x H' d,ic H1 H->ds[i]? =u_ d->J.yld i H x H'->H'=H/\Is H d x) (U:∀H,ic H1 H->J.stop ↑ds H)
  (ac:∀d x H (R:VK),d>ds->ic H1 H->Is H d x->(∀y H',ic H H'->Is H' (f d) y->R y H')->te (u_ x::tl) H R)
  (hQ:∀H' ys,ic H1 H'->H' A=u_ (.lst ys)->IsL H' (ds.map f) ys->Q (-A) H'):Au A J (YB 0) nH te (U_::tl) H1 Q:=by
 exists ↑ds,λi σ ys H=>(∃w,σ=w::tl)/\IsL H ((ds.take i).map f) ys/\ic H1 H,hn,[[U_:1]:1:qf hA _],?_,?_
 .rintro i σ ys H hi ⟨⟨w,rfl⟩,Z,sm⟩ O ae;exists aa i H sm hi,λx H' y=>?_;erw[hy i H x H' ds[i] sm (uf hi) y,rfl,hx];dsimp![YB,nH,Gq];rw[A6 rfl];refine ac ds[i] x H' _ (uR hi) sm hx λy' H4 s4 ad=>(s4 _ _ O,[u_ x:1],?_,λb o e=>?_)
  .let t:Tk H4 (upd H4 A (.lst (ys++ [y']))):=Tk.updL (s4 _ _ O);let e:(ds.take (i+1)).map f=(ds.take i).map f++ [f ds[i]]:=by
    rw[vg,uf hi,ur]
    rfl
   rw[e];exact((Z.mono s4.tk).mono t).append (IsL.one (ad.mono t))
  .rw[qj (qk e hA)];exact s4 b o (sm b o e)
 .rintro σ ys H ⟨_,Z,sm⟩ O;exists U H sm,hQ H ys sm O ?_;rwa[vi (uq _)] at Z
def As {K:o0}{a A:o3}{H1:Hp}{te:TE}{tl:St}{Q:VK}{ds:oj D}{vs:oj V}(f:D->D)(ha:H1 a=u_ (¬vs))(U:IsL H1 ds vs)(hn:↑ds<=Vm)(Z:H1 A=U_)
  (O:∀d x H (R:VK),d>ds->ic H1 H->Is H d x->(∀y H',ic H H'->Is H' (f d) y->R y H')->te (u_ x::tl) H R)
  (hQ:∀H' ys,ic H1 H'->H' A=u_ (.lst ys)->IsL H' (ds.map f) ys->Q (-A) H'):Au A (Itt K a) (YB 0) nH te (U_::tl) H1 Q:=by
 let ln:=↑U;refine At f hn Z (λi H sm hi=>(vs,vs[i]'(),SqT.of (sm _ _ ha),uf _)) (λi H x H' d sm hd y=>?_) (λH sm=>[vs:SqT.of (sm _ _ ha):()]) O hQ
 erw[y,rfl,y];erw[U.get hd,v,e1,e2];let e3:=y vs (SqT.of (sm _ _ ha));rw[e1] at e3;cases e3;exact[1:e2.mono sm.tk]
def Su {K:o0}{a A:o3}{H1:Hp}{te:TE}{tl:St}{Q:VK}{ds:oj D}{vs:oj V}(f:D->D)(ha:H1 a=u_ (.lst vs))(U:IsL H1 ds vs)(hn:↑ds<=Vm)(Z:H1 A=U_)
  (O:∀d x H (R:VK),d>ds->ic H1 H->Is H d x->(∀y H',ic H H'->Is H' (f d) y->R y H')->te (u_ x::tl) H R)
  (hQ:∀H' ys,ic H1 H'->H' A=u_ (.lst ys)->IsL H' (ds.map f) ys->Q (-A) H'):Au A (Itl K a) (YB 0) nH te (U_::tl) H1 Q:=by
 let ln:=↑U;refine At f hn Z (λi H sm hi=>(vs,vs[i]'(),SqL.of (sm _ _ ha),uf _)) (λi H x H' d sm hd y=>?_) (λH sm=>[vs:SqL.of (sm _ _ ha):()]) O hQ
 erw[y,rfl,y];erw[U.get hd,v,e1,e2];let e3:=y vs (SqL.of (sm _ _ ha));rw[e1] at e3;cases e3;exact[1:e2.mono sm.tk]
def IsL.bls {H:Hp}:∀{bs:oj Bool}{vs:oj V},IsL H (bs.map D.bl) vs->vs=bs.map V.bl
 | [],_,h=>h|_::_,_,h=>by
  erw[h,v,r,rfl,h1,h2];rw[IsL.bls h2,show v=_ from h1];rfl
variable {Q:VK}
def xT {i:Int}{d:D}(h:Is H (¬ds) v)(hi:atI ds i=u_ d)(q:∀x,Is H d x->Q x H):O4 K v (.int i) H Q:=by
 erw[h,a,vs,rfl,ha,O];erw[KK hi,j,h1,h2,h3,h4,h5];erw[O.get h2,x,Z,e2];exists a,vs,i,x,1,1,SqT.of ha,?_,q x e2;let ln:=↑O;unfold atI at hi⊢;rw[ln];cases e:ixN ↑ds i with
 |none=>rw[e] at hi;cases hi|some k=>
  rw[e] at hi;erw[Aw e,U,_];rw[h1] at U;cases U;exact Z
abbrev inS (i j:Str):Bool:= !(HA j i 0 ↑j 1).isEmpty
def SD (j:Str)(c:Nat):inS ⟨#[c]⟩ j=decide (c>j.cps.toList):=StrLaws.found_one j c
def SN {z:Str}{g:TG}{tb:TS}{E:nc}{σ:St}{H:Hp}(O:Nat->St->Hp->Prop)(h0:O 0 σ H)
  (hs:∀(i c:Nat) σ H,z.cps[i]? =u_ c->O i σ H->g (.str ⟨#[c]⟩) σ H λZ H2=>tb {E with nx:=O (i+1),ct:=O (i+1),bk:=E.nx} Z H2) (hd:∀σ H,O z.cps.size σ H->E.nx σ H):
  ∃W:Nat->Nat->St->Hp->Prop,(∃m,W 0 m σ H)/\∀i m σ H,W i m σ H->
   ((Its z).stop i H/\E.nx σ H)\/((Its z).go i H/\∃N:St->Hp->Prop,(∀σ' H',N σ' H'->∃m',m'<m/\W (i+1) m' σ' H')/\∀x H',(Its z).yld i H x H'->g x σ H' λZ H2=>tb {E with nx:=N,ct:=N,bk:=E.nx} Z H2):=by
 exists λi m σ H=>m=z.cps.size-i/\i<=z.cps.size/\O i σ H,(z.cps.size,by simp,vc _,h0)
 rintro i m σ H ⟨rfl,hi,p⟩;by_cases U:i<z.cps.size
 .refine .inr (U,O (i+1),λσ' H' p'=>(z.cps.size-(i+1),(),1,U,p'),λx H' y=>?_)
  erw[y,rfl,c,hc,rfl];exact hs i c σ _ hc p
 .let e:i=z.cps.size:=by omega
  exact .inl [e:hd σ H (e▸p)]
def IsL.unsnoc {H:Hp}:∀{ds:oj D}{d:D}{vs:oj V},IsL H (ds++ [d]) vs->∃us x,vs=us++ [x]/\IsL H ds us/\Is H d x
 | [],d,_,h=>by
  erw[h,v,r,rfl,h1,h2];cases(show r= [] from h2)
  exact([],v,1,1,h1)
 |e::r,d,_,h=>by
  erw[h,v,q,rfl,h1,h2];erw[IsL.unsnoc h2,us,x,rfl,h3,h4];exact(v::us,x,1,(v,us,1,h1,h3),h4)
abbrev isStr:D->Bool
 | .str _=>v_|_=>Vi
abbrev Zf:D->Bool
 | .tup _=>v_|_=>Vi
section
variable {K:o0}
def NA {T U:String}{b:Bool}(h:(Gr T==Gr U)=Vi)(hm:PySem.W.kitMeta U=v_)(O:(fastBuiltinMro T).map (·.contains (Gr U))=u_ b):PySem.W.kitOne K (.type T) (.type U)=u_ b:=by
 unfold PySem.W.kitOne;rw[A4 (by rw[h];exact ub)]
 show(if PySem.W.kitMeta U=v_ then PySem.W.subIn K (.type T) (.type U) else U_)=u_ b
 rw[A6 hm];exact O
def BP {T:String}(h:(Gr T==Gr T)=v_):PySem.W.kitOne K (.type T) (.type T)=u_ true:=by
 unfold PySem.W.kitOne;rw[A6 h]
def j7 (d:D):PySem.W.kitOne K (tyD d) (.type "str")=u_ (isStr d):=by
 cases d with
 |str z=>exact BP ()|_=>exact NA (b:=Vi) () () ()
def Xq (d:D):PySem.W.kitOne K (tyD d) (.type "tuple")=u_ (Zf d):=by
 cases d with
 |tup z=>exact BP ()|_=>exact NA (b:=Vi) () () ()
end
def AbH (c k:Nat):decide ((⟨#[c]⟩:Str).cps.toList< [k])=decide (c<k):=by
 rw[ve];simp[RF]
def Abv (c k:Nat):decide ([k]<(⟨#[c]⟩:Str).cps.toList)=decide (k<c):=by
 rw[ve];simp[RF]
def KA {X:Cx}{K:o0}(h:X.K=K):IxR X (O4 K):=by subst h;exact qA
inductive AcB (K:PySem.W.Frag)(R:(It->Hp->Prop))(x:V)(H1:Hp):Prop
 |mk (a:_)(xs:_)(_:x=-a)(_:SqT K H1 a xs)(_:(↑xs<=Vm->R (Itt K a) H1))
abbrev Adr (K:o0)(tl:TE):TI:=λσ H R=>tl σ H λx H1=>AcB K R x H1
def zH {X:Cx}{tg l:Expr}{tl:TE}(U:PE X l tl):PI X tg l (Adr X.K tl):=by
 exists 2,R,I,h;refine thn (U oq s σ H _ I h) λv s1 zq=>?_;erw[zq,x,H1,O,Z,q1];erw[q1,a,xs,e,hq,q];subst e;cases Z;erw[O.tuple hq,its,rv,p,hz];refine Ud (show s1.heap.IsTuple a its.toArray from p) ?_
 exists #[0,s1],[#[0,s1]],_,_,H1,1,O.kept (t':=s1.toks) λb o e=>ud _ e,kj a _,(_,uH _ rfl,1,1),λb hb=>?_,q hz;let e:b=#[0,s1]:=by simpa using hb
 subst e;exact O.fpOk (uq _) (O.hok.fresh (uq _))
variable {X:Cx}
def ID:YN X (.builtin "len") (λxs H Q=>∃p ys,xs= [-p]/\(SqL X.K H p ys\/SqT X.K H p ys)/\(↑ys<=Vm->Q (.int ↑ys) H)):=by
 exists 2,xs,us,Q,I,r,h;erw[h,p,ys,e,O,q];let hz:↑ys<=sizeLine:=by
  rcases O with O|O
  .exact(I.list O).choose_spec.2.2
  .exact(I.tuple O).choose_spec.2.2
 exact qJ oq s σ H xs us Q I r (p,ys,e,O,q hz)
variable {n:Nat}
def zm (h:n<=↑xs):AO xs (u_ (n:Int)) U_=xs.drop n:=by
 unfold AO;rw[HT.sIx_none,HT.sIx_nat,Fy h];exact vi (by rw[vY];exact uq _)
end L2
namespace L2
open PySem PySem.Spec PyProof.Rows Builtin Builtin.Str
abbrev nh (c:Nat):oj Nat->Nat->oj Nat
 | [],_=> []|a::r,i=>if a=c then i::nh c r (i+1) else nh c r (i+1)
abbrev lh (c:Nat):Nat->oj Nat->oj (oj Nat)
 |0,L=> [L]|_+1,[]=> [[]]|n+1,a::r=>if a=c then []::lh c n r else match lh c (n+1) r with
  |p::q=>(a::p)::q| []=> [[a]]
abbrev ofL (l:oj Nat):Str:=⟨l.toArray⟩
def Q8 (z:Str):ofL z.cps.toList=z:=by
 unfold ofL;simp
def J0 (c:Nat):∀(n:Nat) (L:oj Nat),∃p q,lh c n L=p::q
 |0,L=>⟨L,[],by simp[lh]⟩|n+1,[]=>⟨[],[],by simp[lh]⟩|n+1,a::r=>by
  by_cases h:a=c
  .exact⟨[],lh c n r,by simp[lh,h]⟩
  .erw[J0 c (n+1) r,p,q,e];exact⟨a::p,q,by simp[lh,h,e]⟩
def Cb {c:Nat}{n:Nat}{r:oj Nat}:∀{p:oj Nat},c∉p->lh c (n+1) (p++c::r)=p::lh c n r
 | [],_=>by simp[lh]|a::p,h=>by
  let h1:a≠c:=λe=>h (by simp[e])
  let O:=Cb (n:=n) (r:=r) (p:=p) (λz=>h (uh _ z));show lh c (n+1) (a::(p++c::r))=_;rw[lh,A4 h1,O]
def wK {c:Nat}{n:Nat}:∀{p:oj Nat},c∉p->lh c n p= [p]
 | [],_=>by cases n<;>simp[lh]|a::p,h=>by
  let h1:a≠c:=λe=>h (by simp[e])
  cases n with
  |zero=>simp[lh]|succ n=>
   let O:=wK (n:=n+1) (p:=p) (λz=>h (uh _ z));rw[lh,A4 h1,O]
def Cn (x:Str)(c i:Nat)(h:i<↑x):subAt x ⟨#[c]⟩ i=decide (x.cps.toList[i]? =u_ c):=by
 rw[StrLaws.subAt_eq];let O:i<↑x.cps.toList:=by simpa [VZ] using h
 let U:(x.cps.toList.drop i).take 1= [x.cps.toList[i]]:=by
  rw[uV O]
  rfl
 show((x.cps.toList.drop i).take 1== [c])=_;rw[U,uf O];generalize x.cps.toList[i]=k;by_cases e:k=c
 .simp[e]
 .simp[e]
def oP (x:Str)(c n:Nat):∀(m k:Nat) (found:Array Nat) (free:Nat),k+m=↑x+1->free<=k->
  (V_ (Hd k m) (found,free) (Gx x ⟨#[c]⟩ ↑x n)).run.fst.toList=found.toList++(nh c (x.cps.toList.drop k) k).take (n-found.size)
 |0,k,found,free,hk,_=>by
  let hl:↑x.cps.toList<=k:=by simp[VZ] at hk⊢;omega
  rw[Uo hl];simp[nh]
 |m+1,k,found,free,hk,hf=>by
  rw[List.range'_succ,Uz];unfold Gx;let ac:↑x.cps.toList=↑x:=by simp[VZ]
  by_cases Z:k<↑x
  .let aa:k<↑x.cps.toList:=by omega
   rw[uV aa];let hs:=Cn x c k Z;rw[uf aa] at hs;by_cases e:x.cps.toList[k]=c
   .let O:subAt x ⟨#[c]⟩ k=true:=by rw[hs,e];simp
    by_cases hn:found.size<n
    .rw[A6 ⟨⟨[hn:hf],by show k+1<=↑x;omega⟩,O⟩]
     let U:=oP x c n m (k+1) (found.push k) (k+1) () (uq _)
     show(V_ (Hd (k+1) m) (found.push k,k+1) (Gx x ⟨#[c]⟩ ↑x n)).run.fst.toList=_;rw[U];rw[nh,A6 e,Array.toList_push,Rc];obtain⟨j,hj⟩:∃j,n-found.size=j+1:=[n-found.size-1:()]
     rw[hj,t_,show n-(found.size+1)=j by omega]
     simp
    .rw[A4 (λz=>hn z.1.1.1)];let U:=oP x c n m (k+1) found free () ()
     show(V_ (Hd (k+1) m) (found,free) (Gx x ⟨#[c]⟩ ↑x n)).run.fst.toList=_;rw[U,show n-found.size=0 by omega]
     simp
   .let O:¬subAt x ⟨#[c]⟩ k=true:=by rw[hs];intro z;exact e (uO (uC z))
    rw[A4 (λz=>O z.2)];let U:=oP x c n m (k+1) found free () ()
    show(V_ (Hd (k+1) m) (found,free) (Gx x ⟨#[c]⟩ ↑x n)).run.fst.toList=_;rw[U,nh,A4 e]
  .rw[A4 (λz=>Z (by have:=z.1.2;show k<↑x;let h1:k+1<=↑x:=this;omega))]
   let U:=oP x c n m (k+1) found free () ()
   show(V_ (Hd (k+1) m) (found,free) (Gx x ⟨#[c]⟩ ↑x n)).run.fst.toList=_;rw[U];let h1:↑x.cps.toList<=k:=by omega
   rw[Uo h1,Uo ()]
   simp[nh]
def qai (x:Str)(c n:Nat):occurrences x ⟨#[c]⟩ 0 ↑x n=(nh c x.cps.toList 0).take n:=by
 rw[RW];have:=oP x c n (↑x+1) 0 #[] 0 () (uq _)
 simpa using this
abbrev att (p:oj Nat):oj (oj Nat)->oj (oj Nat)
 |q::r=>(p++q)::r| []=> [p]
def LK (x:Str)(c:Nat):∀(m n a b:Nat),a<=b->b+m=↑x->
  HI x 1 a ((nh c (x.cps.toList.drop b) b).take n)=(att ((x.cps.toList.drop a).take (b-a)) (lh c n (x.cps.toList.drop b))).map ofL:=by
 let aa:↑x.cps.toList=↑x:=by simp[VZ]
 let O:∀i j,strSub x i j=ofL ((x.cps.toList.drop i).take (j-i)):=λi j=>by
  rw[<-Q8 (strSub x i j),rL]
 intro m
 induction m with
 |zero=>
  intro n a b Z hb;let h1:x.cps.toList.drop b= []:=Uo ()
  rw[h1];let e1:lh c n []= [[]]:=by cases n<;>simp[lh]
  rw[e1];simp![nh,List.take_nil,HI,att,uU,uw,U4];rw[O,show ↑x-a=b-a by omega]
 |succ m ih=>
  intro n a b Z hb;let U:b<↑x.cps.toList:=by omega
  rw[uV U];cases n with
  |zero=>
   simp![List.take_zero,HI,lh,att,uw,U4];rw[O,<-uV U];let e2:(x.cps.toList.drop a).take (↑x-a)=x.cps.toList.drop a:=vi (by rw[vY];omega)
   let e3:x.cps.toList.drop b=(x.cps.toList.drop a).drop (b-a):=by rw[List.drop_drop];congr 1;omega
   rw[e2,e3,vV]
  |succ n=>
   by_cases e:x.cps.toList[b]=c
   .rw[nh,A6 e,t_,HI,lh,A6 e];rw[ih n (b+1) (b+1) (uq _) ()]
    erw[J0 c n (x.cps.toList.drop (b+1)),p,q,e2];rw[e2,O];simp[att]
   .rw[nh,A4 e,ih (n+1) a (b+1) () (),lh,A4 e]
    erw[J0 c (n+1) (x.cps.toList.drop (b+1)),p,q,e2];rw[e2];simp![att,uw]
    congr 2
    let e3:b+1-a=(b-a)+1:=by omega
    let hx:b-a<↑(x.cps.toList.drop a):=by rw[vY];omega
    rw[e3,List.take_succ_eq_append_getElem hx];simp[show a+(b-a)=b by omega]
def oA (x:Str)(c n:Nat):partsBetween x (occurrences x ⟨#[c]⟩ 0 ↑x n) 1=(lh c n x.cps.toList).map ofL:=by
 rw[StrLaws.partsBetween_eq,qai];have:=LK x c ↑x n 0 0 (uq _) ()
 rw[tS] at this;rw[this];erw[J0 c n x.cps.toList,p,q,e];rw[e];simp[att]
def wG {c:Nat}:∀{L:oj Nat}{i:Nat},nh c L i= []->c∉L
 | [],_,_=>by simp|a::r,i,h=>by
  by_cases e:a=c
  .simp[nh,e] at h
  .rw[nh,A4 e] at h;have:=wG h;simp[U6 e,this]
def zo:∀(l:oj Str) (k:Nat),iq (l.map V.str) (strsFrom k l)
 | [],_=> .nil|x::r,k=> .cons [k:1] (zo r (k+1))
def wN:∀{l:oj Str}{us:oj o6},iq (l.map V.str) us->∃ps:oj (Str×Tok),us=strValues ps/\ps.map (·.1)=l
 | [],_,.nil=>[[]:1:1]|x::r,_,.cons ⟨t,e⟩ h=>by
  erw[wN h,ps,O,e2];subst e;exact⟨(x,t)::ps,by rw[O];rfl,by rw[uw,e2]⟩
def kn (z:Str):¬VH z<VH " ":=by
 let h1:VH " "=1:=by decide+kernel
 rw[h1];unfold VH;split
 .omega
 .split<;>omega
def qaz (c:Nat):∀(n:Nat) (L:oj Nat),↑(lh c n L)<=↑L+1
 |0,L=>by simp[lh]|n+1,[]=>by simp[lh]|n+1,a::r=>by
  by_cases h:a=c
  .have:=qaz c n r;simp[lh,h];omega
  .have:=qaz c (n+1) r;erw[J0 c (n+1) r,p,q,e];rw[e] at this;simp![lh,A4 h,e];simp at this⊢;omega
abbrev spl (n:Nat)(z:Str):oj Str:=(lh 32 n z.cps.toList).map ofL
def Dk (n:Nat)(z:Str):↑(spl n z)<=↑z+1:=by
 unfold spl;rw[uc];have:=qaz 32 n z.cps.toList
 simpa [VZ] using this
def xi:(" ":Str)=⟨#[32]⟩:=by decide+kernel
variable {z:Str}{n:Nat}
def Dj (hn:↑z<=n\/↑z<1\/True)(h:(occurrences z " " 0 ↑z n).isEmpty=v_)(h0:n≠0):spl n z= [z]:=by
 rw[xi,qai,List.isEmpty_iff] at h;let h1:nh 32 z.cps.toList 0= []:=by
  cases e:nh 32 z.cps.toList 0 with
  |nil=>rfl|cons a r=>
   rw[e] at h;obtain⟨k,rfl⟩:∃k,n=k+1:=[n-1:()]
   simp at h
 unfold spl;rw[wK (wG h1)];simp[Q8]
section
variable {X:Cx}
inductive Abc (x:V)(vs:List V)(H:Hp)(Q:VK):Prop
 |mk (z:_)(_:x= !z)(_:vs= [-" "])(_:↑z<=1000)(_:∀p,H p=U_->Q (-p) (upd H p (.lst ((spl (↑z+1) z).map V.str))))
variable {oq:oj (o3×Obj)}{σ:St}{H:Hp}{s:o7}{Q:VK}{ys:oj V}{its:oj o6}{t':Nat}
def xp (I:#[I])(O:iq ys its)(hz:↑ys<=Vm)(q:∀p,H p=U_->Q (-p) (upd H p (.lst ys)))(U:0<t':=by ac_rfl):
  EP X oq σ Q (.ref #[0,s]) {s with heap:=s.heap.push {cls:= .type "list",data:= .seq its.toArray},toks:=t'}:=
 (.ref #[0,s],_,I.lnew O hz,1,q _ I.fresh)
def BL:MtM X "str.split" Abc:=by
 exists 2,x,vs,v,us,Q,I,Z,rv,h;erw[h,z,rfl,rfl,hz,q];erw[Z,t,rfl];erw[rv.one,u,rfl,t',rfl];let O:↑z<=sizeLine:=by rw[uE];omega
 let one:spl (↑z+1) z= [z]->∀(T:Nat),0<T->EP X oq σ Q (.ref #[0,s]) {s with heap:=s.heap.push {cls:= .type "list",data:= .seq [VJ z t].toArray},toks:=T}:=λe T hT=>by
  rw[e] at q;exact xp (ys:= [V.str z]) I (.cons (show ik (V.str z) _ from[t:1]) .nil) (by show 1<=Vm;decide) q
 cases h1:(decide (↑z<(" ":Str).length)||decide (VH z<VH " ")) with
 |true=>
  refine vQ vN (vX _ _ _) vF (Ue _ _) (Re z " " t t' h1) ?_;let h2:↑z<1:=by
   rw[tJ] at h1;rcases h1 with h1|h1
   .exact uC h1
   .exact A8 (uC h1) (kn z)
  refine one ?_ s.toks I.tk;let e:z.cps.toList= []:=U1 (by simpa [VZ] using h2)
  unfold spl;rw[e,lh];rw[<-Q8 z,e]
  rfl
 |false=>
  cases U:(occurrences z " " 0 ↑z (↑z+1)).isEmpty with
  |true=>
   refine vQ vN (vX _ _ _) vF (Ue _ _) (rE z " " t t' h1 () U) ?_
   exact one (Dj (.inr (.inr trivial)) U ()) s.toks I.tk
  |false=>
   let hl:=Dk (↑z+1) z;let e:partsBetween z (occurrences z " " 0 ↑z (↑z+1)) (" ":Str).length=spl (↑z+1) z:=by
    rw[xi];exact oA z 32 (↑z+1)
   refine vQ vN (vX _ _ _) vF (Ue _ _) (FB z " " t t' h1 () U O (by rw[e,uE];omega)) ?_
   rw[e];exact xp I (zo _ _) (by rw[uc,uE];omega) q
def Xp (x y:Str)(k:Int)(t u v:Tok)(Z:(decide (k< -(2^63:Int))||decide (k≥2^63))=Vi)(h1:(decide (↑x<↑y)||decide (VH x<VH y))=Vi)(hy:(↑y==0)=Vi)
  (hf:(occurrences x y 0 ↑x (Hg x k)).isEmpty=v_):GZ («str.split» [[.str x t,.str y u,.int k v]:[]]) (FG x t):=by
 erw[RV x y k t u v Z,U,O];refine .of_wp λprog w A R s h=>?_;rw[O,h1,hy,hf];show Vj _ _ (do rule "str.split.same-object";ret (<-HX [.str x t])) _ _ s
 exact A7 (UM (A7 (tT (uD [0:h]) (by show 1<=Vm;decide))))
def Jl (x y:Str)(k:Int)(t u v:Tok)(Z:(decide (k< -(2^63:Int))||decide (k≥2^63))=Vi)(h1:(decide (↑x<↑y)||decide (VH x<VH y))=v_):
  GZ («str.split» [[.str x t,.str y u,.int k v]:[]]) (FG x t):=by
 erw[RV x y k t u v Z,U,O];refine .of_wp λprog w A R s h=>?_;rw[O,h1];show Vj _ _ (do rule "str.split.sep-cannot-occur";ret (<-HX [.str x t])) _ _ s
 exact A7 (UM (A7 (tT (uD [0:h]) (by show 1<=Vm;decide))))
inductive O2 (x:V)(vs:List V)(H:Hp)(Q:VK):Prop
 |mk (z:Str)(n:Nat)(_:x= !z)(_:vs= [-" ",.int (n:Int)])(_:↑z<=1000)(_:0<n)(_:n<=1000)(_:∀p,H p=U_->Q (-p) (upd H p (.lst ((spl n z).map V.str))))
def Ez:MtM X "str.split" O2:=by
 exists 2,x,vs,v,us,Q,I,rx,rv,h;erw[h,z,n,rfl,rfl,hz,ac,hn,q];erw[rx,t,rfl];erw[IX rv,u,u',rfl,[t',rfl],[U,rfl]];let aa:↑z<=sizeLine:=by rw[uE];omega
 let hk:(decide ((n:Int)< -(2^63:Int))||decide ((n:Int)≥2^63))=false:=by
  rw[uj (),uj ()];rfl
 let O:Hg z (n:Int)=n:=by
  unfold Hg;rw[A4 ()]
  omega
 let one:spl n z= [z]->∀(T:Nat),0<T->EP X oq σ Q (.ref #[0,s]) {s with heap:=s.heap.push {cls:= .type "list",data:= .seq [VJ z t].toArray},toks:=T}:=λe T hT=>by
  rw[e] at q;exact xp (ys:= [V.str z]) I (.cons (show ik (V.str z) _ from[t:1]) .nil) (by show 1<=Vm;decide) q
 cases h1:(decide (↑z<(" ":Str).length)||decide (VH z<VH " ")) with
 |true=>
  refine vQ vN (vX _ _ _) vF (F.args_str_split_3 _ _ _) (Jl z " " n t t' U hk h1) ?_;let h2:↑z<1:=by
   rw[tJ] at h1;rcases h1 with h1|h1
   .exact uC h1
   .exact A8 (uC h1) (kn z)
  refine one ?_ s.toks I.tk;let e:z.cps.toList= []:=U1 (by simpa [VZ] using h2)
  obtain⟨j,rfl⟩:∃j,n=j+1:=[n-1:()]
  unfold spl;rw[e,lh];rw[<-Q8 z,e]
  rfl
 |false=>
  cases Z:(occurrences z " " 0 ↑z (Hg z (n:Int))).isEmpty with
  |true=>
   refine vQ vN (vX _ _ _) vF (F.args_str_split_3 _ _ _) (Xp z " " n t t' U hk h1 () Z) ?_
   rw[O] at Z;exact one (Dj (.inr (.inr trivial)) Z ()) s.toks I.tk
  |false=>
   let hl:=Dk n z;let e:partsBetween z (occurrences z " " 0 ↑z (Hg z (n:Int))) (" ":Str).length=spl n z:=by
    rw[xi,O];exact oA z 32 n
   refine vQ vN (vX _ _ _) vF (F.args_str_split_3 _ _ _) (meets_str_split_sep_max z " " n t t' U hk h1 () Z aa (by rw[e,uE];omega)) ?_
   rw[e];exact xp I (zo _ _) (by rw[uc,uE];omega) q
abbrev xx (c:Nat):oj Nat->oj Nat
 | []=> []|a::r=>if a=c then [] else a::xx c r
def so {c:Nat}:∀{L:oj Nat}{i j:Nat}{r:oj Nat},nh c L i=j::r->i<=j/\xx c L=L.take (j-i)
 | [],_,_,_,h=>by simp[nh] at h|a::q,i,j,r,h=>by
  by_cases e:a=c
  .rw[nh,A6 e] at h;cases h;exact⟨uq _,by simp[xx,e]⟩
  .rw[nh,A4 e] at h;erw[so h,h1,h2];exists ()
   rw[xx,A4 e,h2,show j-i=(j-(i+1))+1 by omega,t_]
def zL {c:Nat}:∀{L:oj Nat},c∉L->xx c L=L
 | [],_=>rfl|a::r,h=>by
  let h1:a≠c:=λe=>h (by simp[e])
  rw[xx,A4 h1,zL λz=>h (uh _ z)]
abbrev hd (z:Str):Str:=ofL (xx 32 z.cps.toList)
def Id (I:#[I])(O:iq ys its)(hz:↑ys<=Vm)(q:∀p,H p=U_->Q (-p) (upd H p (¬ys)))(U:0<t':=by ac_rfl):
  EP X oq σ Q (.ref #[0,s]) {s with heap:=s.heap.push {cls:= .type "tuple",data:= .seq its.toArray},toks:=t'}:=
 (.ref #[0,s],_,I.laid (o:=¬ys) (λ_ _ w=>ud _ w) (uq _) (hz,its,O,Hw _ _),1,q _ I.fresh)
inductive Adb (x:V)(vs:List V)(H:Hp)(Q:VK):Prop
 |mk (z:_)(_:x= !z)(_:vs= [-" "])(_:↑z<=1000)(_:∀p a b,H p=U_->Q (-p) (upd H p (-[.str (hd z),!a,!b])))
def Sn:MtM X "str.partition" Adb:=by
 exists 2,x,vs,v,us,Q,I,rx,rv,h;erw[h,z,rfl,rfl,hz,q];erw[rx,t,rfl];erw[rv.one,u,rfl,t',rfl];let U:↑z<=sizeLine:=by rw[uE];omega
 refine vQ F.slot_str_partition (vX _ _ _) F.entry_str_partition (F.args_str_partition_2 _ _) (meets_str_partition z " " t t' () U) ?_
 cases O:occurrences z " " 0 ↑z 1 with
 |nil=>
  let h0:hd z=z:=by
   rw[xi,qai] at O;let h1:nh 32 z.cps.toList 0= []:=by
    cases e:nh 32 z.cps.toList 0 with
    |nil=>rfl|cons a r=>rw[e] at O;simp at O
   unfold hd;rw[zL (wG h1),Q8]
  refine Id (ys:= [.str (hd z),!Ts,!Ts]) (t':=s.toks+1) I (.cons (show ik (V.str (hd z)) _ from⟨t,by rw[h0]⟩) (.cons (show ik (V.str _) _ from⟨0⟩) (.cons (show ik (V.str _) _ from⟨0⟩) .nil))) (by show 3<=Vm;decide) λp Z=>q p _ _ Z
 |cons i r=>
  let h0:hd z=strSub z 0 i:=by
   rw[xi,qai] at O;cases e:nh 32 z.cps.toList 0 with
   |nil=>rw[e] at O;simp at O|cons a r'=>
    rw[e] at O;have:a=i:=by simp at O;exact O.1
    subst this;erw[so e,_,h2];unfold hd;rw[h2,<-Q8 (strSub z 0 a),rL,tS]
  refine Id (ys:= [.str (hd z),-" ",.str _]) (t':=s.toks+1+1) I (.cons (show ik (V.str (hd z)) _ from⟨s.toks,by rw[h0]⟩) (.cons (show ik (V.str _) _ from[t':1]) (.cons (show ik (V.str _) _ from[s.toks+1:1]) .nil))) (by show 3<=Vm;decide) λp Z=>q p _ _ Z
inductive Abf (K:PySem.W.Frag)(x:V)(vs:List V)(H:Hp)(Q:VK):Prop
 |mk (sep:Str)(p:Addr)(l:List Str)(_:x= !sep)(_:vs= [-p])(_:SqL K H p (l.map V.str))(_:(l.map (·.length)).sum+↑l*↑sep<=1000000)(_:Q (.str (Vq sep l)) H)
def qas:MtM X "str.join" (Abf X.K):=by
 exists 2,x,vs,v,us,Q,I,Z,rv,h;erw[h,sep,p,l,rfl,rfl,hp,hz,q];erw[Z,t,rfl];erw[rv.one,u,rfl,ru];cases ru;erw[I.list hp,its,r,pl,hl];erw[wN r,ps,rfl,e2];let U:tooLong ((ps.map (·.1)).toArray.foldl (·+ ·.length+↑sep) 0)=false:=by
  rw[e2];have:=FU sep l;rw[this];unfold tooLong;refine uj ?_;rw[uE];omega
 refine vQ F.slot_str_join (vX _ _ _) F.entry_str_join (F.args_str_join_2 _ _) (meets_str_join_list sep t p ps U) [pl.isList:?_];let O:(glued sep (ps.map (·.1))).length<=sizeLine:=rg U
 match ps,e2,O with
 | [],e2,O=>
  subst e2;exact(O,.str _,H,I.tok _,⟨0⟩,q)
 | [a],e2,_=>
  subst e2;exact(.str _,H,I,[a.2:1],q)
 |a::b::r,e2,O=>
  subst e2;exists O,.str _,H,I.tok _,⟨0⟩;rw[rB];exact q
def IE:YN X (.type "int") (λxs H Q=>∃z n,xs= [!z]/\PySem.intText? z=u_ n/\↑z<=640/\Q (.int n) H):=by
 exists 2,xs,us,Q,I,r,h;erw[h,z,n,rfl,hn,O,q];erw[jX r,u,rfl,t,rfl];exact PySem.W.KIN.call_text hn O (.int n,H,I.tok _,⟨0⟩,q)
end
end L2
namespace L2
open PySem PySem.Spec PyProof.Rows
variable {X:Cx}{oq:oj (o3×Obj)}{σ:St}{H:Hp}{s:o7}{h':o8}{t':Nat}{fp:oj o3}
def Inv.turnedL (I:#[I])(k:∀b o,b∉fp->s.heap.get? b=u_ o->h'.get? b=u_ o)(U:∀b>fp,AZ X oq H b)(ht:0<t':=by ac_rfl):Inv X oq σ H {s with heap:=h',toks:=t'}:=by
 let Z:∀b u,H b=u_ u->b∉fp:=λb u e z=>by
  have:=(U b z).1;rw[this] at e;cases e
 let nL:X.env.locals∉fp:=λz=>(U _ z).2.1 rfl;refine I.step (g':=s.gens) (d':=s.drawn) (ch:=fp) (λb hb=>((U b hb).2.2.2.1,(U b hb).2.1,(U b hb).2.2.2.2.1,(U b hb).2.2.2.2.2)) (λb o _ _ O e _=>k b o O e) (λb o _ _ O e _=>[o.slots:k b o O e]) (λ_ _ _ _ n=>n)
  (λb o O e=>[o:k b o O e]) (λ_ _ e=>e) (λ_ _ _ e=>e) (λb ps e=>⟨#[],by rw[e];simp⟩) (λm hm=>?_) (λb u e=>?_) I.bare
 .erw[hm,o,es,ep,ho,r];exact(o,es,ep,k _ o nL ho,r)
 .refine(I.hok b u e).stay (λc v O q=>k c v ?_ q) (λ_ q=>q) λ_ _ q=>q;rcases O with z|z
  .rw[z];exact Z b u e
  .exact Z c _ z
def Inv.handed {X:Cx}{oq:oj (o3×Obj)}{σ:St}{H:Hp}{s:o7}{h':o8}{t':Nat}{fp:oj o3}{ys:oj V}{its:oj o6}(I:#[I])(Z:∀b>fp,AZ X oq H b)(hl:∀b>fp,b<#[0,s])(hv:iq ys its)(hz:↑ys<=Vm)
  (hn:h'.get? #[0,s]=u_ {cls:= .type "tuple",data:= .seq its.toArray}) (hs:h'.objs.size=#[0,s]+1) (k:∀b o,b∉fp->s.heap.get? b=u_ o->h'.get? b=u_ o) (ht:0<t':=by ac_rfl):
  Inv X oq σ (upd H #[0,s] (¬ys)) {s with heap:=h',toks:=t'}/\∀b>fp,AZ X oq (upd H #[0,s] (¬ys)) b:=by
 let I1:Inv X oq σ (upd H #[0,s] (¬ys)) {s with heap:=s.heap.push {cls:= .type "tuple",data:= .seq its.toArray},toks:=t'}:=
  I.laid (o:=¬ys) (λ_ _ w=>ud _ w) (uq _) (hz,its,hv,Hw _ _)
 let O:∀b>fp,AZ X oq (upd H #[0,s] (¬ys)) b:=λb U=>by
  erw[Z b U,f0,f1,f2,f3,f4,f5];have:=hl b U;exact(by rwa[qj (vb this)],f1,f2,f3,f4,f5)
 exists I1.turnedL (h':=h') (t':=t') (λb o U e=>?_) O,O;rcases Heap.get?_push_cases (show(s.heap.push {cls:= .type "tuple",data:= .seq its.toArray}).get? b=u_ o from e) with⟨rfl,rfl⟩|e'
 .exact hn
 .exact k b o U e'
abbrev Itz (K:o0)(a b:o3):It:=
 ⟨λi H=>∃xs ys x y,SqT K H a xs/\SqL K H b ys/\xs[i]? =u_ x/\ys[i]? =u_ y,
  λi H v H'=>∃p x y,v= .ref p/\H p=U_/\H'=upd H p (-[x,y])/\(∀xs,SqT K H a xs->xs[i]? =u_ x)/\∀ys,SqL K H b ys->ys[i]? =u_ y,
  λi H=>∃xs,SqT K H a xs/\↑xs=i⟩
abbrev Ite (K:o0)(a:o3)(c:Int):It:=
 ⟨λi H=>∃xs x,SqT K H a xs/\xs[i]? =u_ x,λi H v H'=>∃p x,v= .ref p/\H p=U_/\H'=upd H p (-[.int (c+i),x])/\∀xs,SqT K H a xs->xs[i]? =u_ x,λi H=>∃xs,SqT K H a xs/\↑xs=i⟩
abbrev tnZ (a b z p r i j:o3)(k:Nat)(h:o8):Prop:=
 VL h z p r .none/\Vy h p (-i) (-j)/\(∃u v,Vy h r u v)/\h.IsTupleIter i a k/\h.IsListIter j b k/\AwZ.Apt z p r i j a b
variable {w:og}{K:o0}
def IY {P:o9}{aa:oj Expr}{c:Nat}{tp:Pos}(a b z p r i j:o3):NV P w K (.Tuple aa c tp) (Itz K a b) [z,p,r,i,j] z (tnZ a b z p r i j) where
 mem:=by simp
 obj:=λk h st x hx=>by
  erw[st,h1,h2,[u,v,h3],[o4,e4,c4,d4],[o5,e5,c5,d5],D];simp![uF,uZ,uT] at hx;rcases hx with rfl|rfl|rfl|rfl|rfl
  .exact⟨_,h1,λv z=>by cases z⟩
  .exact⟨_,h2,λv z=>by cases z⟩
  .exact⟨_,h3,λv z=>by cases z⟩
  .exact⟨o4,e4,λv z=>by rw[d4] at z;cases z⟩
  .exact⟨o5,e5,λv z=>by rw[d5] at z;cases z⟩
 keep:=λk h h' st kk=>by
  erw[st,h1,h2,[u,v,h3],[o4,e4,r4],[o5,e5,r5],D];exact(kk z (by simp) _ h1,kk p (by simp) _ h2,⟨u,v,kk r (by simp) _ h3⟩,⟨o4,kk i (by simp) _ e4,r4⟩,⟨o5,kk j (by simp) _ e5,r5⟩,D)
 item:=by
  intro X hP hw hK O k oq s σ H E I hf st hg;subst hP hw hK;erw[hg,xs,ys,x,y,ha,hb,hx,hy];erw[I.tuple ha,its,ra,pa,za];erw[I.list hb,ak,rb,pb,zb];erw[ra.get hx,ux,ae,af];erw[rb.get hy,uy,ag,ah];erw[st,h1,h2,[u,v,h3],h4,h5,D];let l1:=uK h1;let l2:=uK h2;let l3:=uK h3;let l4:i<#[0,s]:=by erw[h4,o,e,_];exact uK e
  let l5:j<#[0,s]:=by erw[h5,o,e,_];exact uK e
  refine AwZ.zip_go D h1 h2 h3 h4 h5 (show s.heap.IsTuple a its.toArray from pa) pb.isList (x:=ux) (y:=uy) (by simpa using ae) (by simpa using ag) λh' g1 g2 g3 g4 g5 g6 g7=>?_
  let g8:Vy h' p (-i) (-j):=g7 _ _ D.pz D.pr D.pi D.pj h2;obtain⟨I1,ac⟩:=I.handed (t':=s.toks) (ys:= [x,y]) (its:= [ux,uy]) hf (λc O=>by
   simp![uF,uZ,uT] at O;rcases O with rfl|rfl|rfl|rfl|rfl<;>assumption) (.cons af (.cons ah .nil)) (by show 2<=Vm;decide) g5 g6 (λc o O e=>by
    simp![uF,uZ,uT,Vc] at O;exact g7 c o O.1 O.2.2.1 O.2.2.2.1 O.2.2.2.2 e)
  exists 0,wpAny_letOwnedTupleGo_zip (s:={s with heap:=h'}) g1 λad z2 s2=>?_
  let U:∀c o,c≠z->h'.get? c=u_ o->ad.get? c=u_ o:=λc o O e=>s2.extBut c o O e;exists .ref #[0,s],_,I1.turnedL (fp:= [z]) (h':=ad) (t':=s.toks) (λc o O e=>U c o (by simpa using O) e) (λc O=>ac c (by simp at O;simp[O])),1,(_,x,y,1,I.fresh,1,λzs Z=>?_,λzs Z=>?_),(z2,U _ _ D.pz g8,[_:_:U _ _ D.rz g2],?_,?_,D),λc O=>(ac c O).1
  .rwa[I.tuple_inj Z ha]
  .rwa[I.list_inj Z hb]
  .erw[g3,o,e,q];exact[o:U _ _ D.iz e:q]
  .erw[g4,o,e,q];exact[o:U _ _ D.jz e:q]
 done:=by
  intro X hP hw hK O k oq s σ H E I hf st hg;subst hP hw hK;erw[hg,xs,ha,hx];erw[I.tuple ha,its,ra,pa,za];let hl:=↑ra;erw[st,h1,h2,[u,v,h3],h4,h5,D];refine AwZ.zip_stop (A:=X.A) (I.ok.hd O) D h1 h2 h4 (show s.heap.IsTuple a its.toArray from pa) (by simp;omega) λh' kk=>[1:?_]
  exact I.turnedL (t':=s.toks) (λc o O e=>by
   simp![uF,uZ,uT,Vc] at O;exact kk c o O.1 O.2.2.1 O.2.2.2.1 O.2.2.2.2 e) hf
 self:=λ_ _ _ _ _ st h=>RD st.1 h
section
variable {X:Cx}
variable {n:Nat}
def Aci {a b:Nat}(ha:a<n)(O:b<n):AwZ.Apt (n+4) (n+2) (n+3) n (n+1) a b:=by
 constructor<;>exact(show _≠((_:Nat)) by omega)
def SO {x:Nat}(h:x=n+4\/x=n+2\/x=n+3\/x=n\/x=n+1):n<=x:=by omega
def Aaw {m x:Nat}(hm:m=n+1)(h:x=m\/x=n):n<=x:=by omega
abbrev AeM (K:o0)(ta:TA):TI:=λσ H R=>ta σ H λvs H1=>∃a b xs ys,vs= [-a,-b]/\SqT K H1 a xs/\SqL K H1 b ys/\R (Itz K a b) H1
def Abk {O:oj Expr}{c:Nat}{tp p pos:Pos}{e1 e2:Expr}{ta:TA}(hg:Gl X "zip")(hm:X.mg "zip"=U_)(ha:PA X [e1,e2] ta)(hs:Vn [e1,e2] X.env= [(Vi,eval e1 X.env),(Vi,eval e2 X.env)])(U:Vn [e2] X.env= [(Vi,eval e2 X.env)]):
  PI X (.Tuple O c tp) (.Call (.Name "zip" p) [e1,e2] [] pos) (AeM X.K ta):=by
 exists 2,R,I,h;refine tE (wX I hg hm boot_zip (vJ (thn (ha pos oq s σ H _ I h) λus s1 zq=>?_) (by rw[hs,U]) (by rw[U];rfl)));erw[zq,vs,H1,Z,r1,q1]
 erw[q1,a,b,xs,ys,e,hA,hB,q];subst e;erw[IX r1,u,u',rfl,ru,ac];cases ru;cases ac;erw[Z.tuple hA,its,ra,pa,za];erw[Z.list hB,ad,rb,pb,zb];let la:a<#[0,s1]:=by erw[id pa,o,e,_];exact uK e
 let lb:b<#[0,s1]:=by erw[id pb,o,n,e,_];exact uK e
 refine AwZ.zip_call (show s1.heap.IsTuple a its.toArray from pa) pb.isList λh2 g1 g2 g3 g4 g5 g6 g7=>?_
 refine RD (s:={s1 with heap:=h2}) g1 ?_
 exists _,[#[0,s1]+4,#[0,s1]+2,#[0,s1]+3,#[0,s1],#[0,s1]+1],_,_,H1,1,Z.kept (t':=s1.toks) g7,IY a b _ _ _ _ _,(g1,g2,[_:_:g3],g4,g5,?_),λx hx=>?_,q
 .exact Aci la lb
 .let aa:#[0,s1]<=x:=by
   simp![uF,uZ,uT] at hx;exact SO hx
  exact Z.fpOk aa (Z.hok.fresh aa)
abbrev tnE (a e j:o3)(c:Int)(k:Nat)(h:o8):Prop:=(∃old,G6 h e j (c+k) old)/\h.IsTupleIter j a k/\e≠j
def C8 {P:o9}{aa:oj Expr}{cc:Nat}{tp:Pos}(a e j:o3)(c:Int):NV P w K (.Tuple aa cc tp) (Ite K a c) [e,j] e (tnE a e j c) where
 mem:=by simp
 obj:=λk h st x Z=>by
  erw[st,[U,h1],[o4,e4,c4,d4],D];simp![uF,uZ,uT] at Z;rcases Z with rfl|rfl
  .exact⟨_,h1,λv z=>by cases z⟩
  .exact⟨o4,e4,λv z=>by rw[d4] at z;cases z⟩
 keep:=λk h h' st kk=>by
  erw[st,[U,h1],[o4,e4,r4],D];exact⟨⟨U,kk e (by simp) _ h1⟩,⟨o4,kk j (by simp) _ e4,r4⟩,D⟩
 item:=by
  intro X hP hw hK O k oq s σ H E I hf st hg;subst hP hw hK;erw[hg,xs,x,ha,Z];erw[I.tuple ha,its,ra,pa,za];erw[ra.get Z,ux,af,ag];erw[st,[U,h1],h4,D];let l1:=uK h1;let l4:j<#[0,s]:=by erw[h4,o,e,_];exact uK e
  refine AwZ.enum_go h1 h4 (show s.heap.IsTuple a its.toArray from pa) (x:=ux) (by simpa using af) D λh' g1 g3 g5 g6 g7=>?_
  obtain⟨I1,ac⟩:=I.handed (t':=s.toks+1) (ys:= [.int (c+k),x]) (its:= [.int (c+k) s.toks,ux]) hf (λc O=>by
   simp![uF,uZ,uT] at O;rcases O with rfl|rfl<;>assumption) (.cons (show ik (V.int (c+k)) _ from⟨0⟩) (.cons ag .nil)) (by show 2<=Vm;decide) g5 g6 (λc o O e=>by
    simp![uF,uZ,uT,Vc] at O;exact g7 c o O.1 O.2 e)
  exists 0,wpAny_letOwnedTupleGo_enum (s:={s with heap:=h',toks:=s.toks+1}) g1 λad z2 s2=>?_
  let ae:∀c o,c≠e->h'.get? c=u_ o->ad.get? c=u_ o:=λc o O e=>s2.extBut c o O e;exists .ref #[0,s],_,I1.turnedL (fp:= [e]) (h':=ad) (t':=s.toks+1) (λc o O e=>ae c o (by simpa using O) e) (λc O=>ac c (by simp at O;simp[O])),1,(_,x,1,I.fresh,1,λzs ah=>?_),[[ux:?_]:?_:D],λc O=>(ac c O).1
  .rwa[I.tuple_inj ah ha]
  .let e1:c+((k+1:Nat):Int)=c+(k:Int)+1:=by omega
   rwa[e1]
  .erw[g3,o,e,q];exact[o:ae _ _ (U6 D) e:q]
 done:=by
  intro X hP hw hK O k oq s σ H E I hf st hg;subst hP hw hK;erw[hg,xs,ha,Z];erw[I.tuple ha,its,ra,pa,za];let hl:=↑ra;erw[st,[U,h1],h4,D];refine AwZ.enum_stop (A:=X.A) (I.ok.hd O) h1 h4 (show s.heap.IsTuple a its.toArray from pa) (by simp;omega) λh' kk=>[1:?_]
  exact I.turnedL (t':=s.toks) (λc o O e=>by
   simp![uF,uZ,uT,Vc] at O;exact kk c o O.2 e) hf
 self:=λ_ _ _ _ _ st h=>by
  erw[st,[U,h1],_];exact FW h1 h
abbrev IN (K:o0)(w:og)(a:o3):Prop:=(a==VG)=Vi/\∃es n,K.lookup a=u_ (.type "dict",U_,.dict es n,#[])/\PySem.W.KeysLit w.params es.toList
inductive Adc (K:PySem.W.Frag)(w:World)(x:V)(y:V)(H:Hp)(Q:VK):Prop
 |mk (z:_)(a:_)(r:_)(_:x= !z)(_:y=-a)(_:IN K w a)(_:PySem.W.nsIn K a z=u_ r)(_:Q (.bl (!(r.isSome))) H)
def Pk:OpR X (Vs .NotIn) (Adc X.K X.w):=by
 exists 2,x,y,v,u,Q,I,U,Z,h;erw[h,z,a,r,rfl,rfl,[hs,es,n,O,hk],hn,q];erw[U,t,rfl];cases Z;let hm:=PySem.W.mapOf_K (prog:=X.prog) (w:=X.w) I.kIn O hk;refine rN (Ti X.prog X.w z t) hs hm (.bl (!(r.isSome)),H,I.tok _,?_,q);rw[PySem.W.find_K O hn]
 rfl
inductive AeF (K:PySem.W.Frag)(w:World)(x:V)(y:V)(H:Hp)(Q:VK):Prop
 |mk (z:_)(a:_)(u:_)(v:_)(_:x=-a)(_:y= !z)(_:IN K w a)(_:PySem.W.nsIn K a z=u_ (u_ u))(_:ik v u)(_:Q v H)
def Aee:IxR X (AeF X.K X.w):=by
 intro value slice oq s σ H x y v u Q I U Z h hs;erw[h,z,a,u',v',rfl,rfl,[_,es,n,O,hk],hn,hr,q];erw[Z,t,rfl];cases U;let hm:=PySem.W.mapOf_K (prog:=X.prog) (w:=X.w) I.kIn O hk;exact Hm hm.typeIs slot_dict_getitem.lookup (R9 (Ti X.prog X.w z t) hm (PySem.W.find_K O hn) (v',H,I.tok _,hr,q)) hs
end
section
variable {X:Cx}{K:o0}
def DU {es:oj Expr}{k:Nat}{t:TGs}{n:Nat}{pos:Pos}(U:X.K=K)(Z:X.calm=v_)(h:PGs X es t)
  (hn:↑(G9 es X.env)=n) (O:(G9 es X.env).findIdx? (·.1)=U_):PG X (.Tuple es k pos) (Adx K n t):=by subst U;exact Kf Z h hn O
end
def Z8 {lo:Int}{n:Nat}{L:o3}{H1:Hp}{te:TE}{tl:St}{Q:VK}(C:Nat->oj V->Hp->Prop)(hn:n<=Vm)(h0:C 0 [] (upd H1 L (.lst [])))
  (Z:∀i ys H,i<n->C i ys H->H L=u_ (.lst ys)->↑ys<=i->∀R:VK,(∀y H4,H4 L=u_ (.lst ys)->C (i+1) (ys++ [y]) (upd H4 L (.lst (ys++ [y])))->R y H4)->te (u_ (.int (lo+(i:Int)))::tl) H R)
  (hQ:∀ys H,C n ys H->H L=u_ (.lst ys)->Q (-L) H):Au L (Itr lo n) (YB 0) nH te (U_::tl) H1 Q:=by
 exists n,λi σ ys H=>(∃x,σ=x::tl)/\C i ys H,hn,[[U_:1]:h0],?_,?_
 .rintro i σ ys H hi ⟨⟨x,rfl⟩,O⟩ U hy;exists hi;rintro x' H' ⟨rfl,rfl⟩;dsimp![YB,nH,Gq];rw[A6 rfl];exact Z i ys H' hi O U hy _ λy H4 e c=>[e:⟨0⟩:c]
 .rintro σ ys H ⟨_,O⟩ U;exact[uq _:hQ ys H O U]
def AbJ {K:o0}{a b A:o3}{H1:Hp}{te:TE}{tl:St}{Q:VK}{xs ys:oj V}(f:Nat->D)(ha:∀H,ic H1 H->SqT K H a xs)(hb:∀H,ic H1 H->SqL K H b ys)(ac:↑xs=↑ys)(hn:↑xs<=Vm)(hA:H1 A=U_)
  (Z:∀i x y H (R:VK),xs[i]? =u_ x->ys[i]? =u_ y->ic H1 H->(∀v H',ic H H'->Is H' (f i) v->R v H')->te (u_ x::u_ y::tl) H R)
  (hQ:∀H' vs,ic H1 H'->H' A=u_ (.lst vs)->L2.IsL H' ((Vu ↑xs).map f) vs->Q (-A) H'):Au A (Itz K a b) (Adx K 2 (SI (YB 0) (SI (YB 1) Aeg))) nH te (U_::U_::tl) H1 Q:=by
 exists ↑xs,λi σ us H=>(∃u v,σ=u::v::tl)/\L2.IsL H ((Vu i).map f) us/\ic H1 H,hn,[[U_:U_:1]:1:qf hA _],?_,?_
 .rintro i σ us H hi ⟨⟨u,v,rfl⟩,hl,sm⟩ O ad;let hx:xs[i]? =u_ xs[i]:=uf hi;let hy:ys[i]? =u_ (ys[i]'()):=uf _
  exists (xs,ys,_,_,ha H sm,hb H sm,hx,hy),λx H' y=>?_;erw[y,p,x',y',rfl,hp,rfl,e1,e2];let e1:=e1 xs (ha H sm);let e2:=e2 ys (hb H sm);let s2:ic H (upd H p (-[x',y'])):=qf hp _;exists p,0,SqT.of qg,1,x',0,y',0,1;dsimp![nH];rw[A6 rfl];refine Z i x' y' _ _ e1 e2 (sm.trans s2) λy4 H4 U aa=>(U _ _ (s2 _ _ O),[_:0],?_,λb o e=>?_)
  .let t:Tk H4 (upd H4 A (.lst (us++ [y4]))):=Tk.updL (U _ _ (s2 _ _ O));rw[RZ,ur];exact((hl.mono (s2.trans U).tk).mono t).append (IsL.one (aa.mono t))
  .rw[qj (qk e hA)];exact U b o (s2 b o (sm b o e))
 .rintro σ us H ⟨_,hl,sm⟩ O;exact[[xs:ha H sm:1]:hQ H us sm O hl]
def jM (z:Str)(l:oj Str):inV (!z) (l.map V.str)=decide (z>l):=by
 unfold inV;rw[V9,vK,TY,vj];constructor
 .rintro⟨x,U,e⟩;let O:(x==z)=true:=e;rw[beq_iff_eq] at O;exact O▸U
 .intro h;exact⟨z,h,by show(z==z)=v_;exact beq_self_eq_true z⟩
def jy (l:oj Str):(l.map V.str).all zW=true:=by
 rw[UD,Ub];intro x _
 rfl
inductive Pt where
 |s (z:Str)|n (i:Int)
abbrev Pt.d:Pt->D
 | .s z=> !z| .n i=> .int i
abbrev Pt.t:Pt->Str
 | .s z=>z| .n i=>Vt i
inductive Kd where
 |box|line|words
 deriving DecidableEq
abbrev Kd.t:Kd->Str
 | .box=>"box"| .line=>"line"| .words=>"words"
abbrev BX:oj Str:= ["a","b","c","d","e","f","g","h"]
abbrev FRM:oj (Str×oj Kd):= [("text",[.box,.words]),("self",[.box]),("copy",[.box,.box]),("row",[.box]),("put",[.box,.box]),("join",[.box,.box]),("first",[.box,.box]),("rest",[.box,.box]),
 ("size",[.box,.box]),("cut",[.box,.box,.box]),("glue",[.box,.box,.box]),("ask",[.box,.box]),("has",[.box,.box]),("names",[.box,.box]),("go",[.line]),("like",[.box,.box,.line]),
 ("rowed",[.box,.line]),("none",[.box,.line]),("say",[.box]),("fault",[])]
abbrev Abj (n m:Nat):Kd->Pt->Prop
 | .box,.s z=>z>BX| .line,.n i=>1<=i/\i<=n| .words,.s z=>↑z<=m/\z.cps.toList.all QD=v_|_,_=>False
abbrev xZ (n m:Nat):oj Kd->oj Pt->Prop
 | [],[]=>True|k::ks,p::ps=>Abj n m k p/\xZ n m ks ps|_,_=>False
nonrec abbrev Rw:=Str×oj Pt
abbrev Jn (n m:Nat)(r:Rw):Prop:=∃ks,(r.1,ks)>FRM/\xZ n m ks r.2
abbrev txs (r:Rw):oj Str:=r.1::r.2.map Pt.t
abbrev Yp (r:Rw):Str:=Vq " " (txs r)
abbrev rowD (r:Rw):D:=-[.str r.1,.tup (r.2.map Pt.d)]
def Jx:∀(x y:Str) (r:oj Str),(Vq " " (x::y::r)).cps.toList=x.cps.toList++32::(Vq " " (y::r)).cps.toList:=by
 intro x y r;show((x.cps++(" ":Str).cps)++(Vq " " (y::r)).cps).toList=_;rw[Tw,Tw,xi];simp
nonrec abbrev CY (z:Str):Prop:=32∉z.cps.toList
def qac:∀(l:oj Str) (z:Str) (n:Nat),(∀p>l,CY p)->(n=0\/CY z)->spl (↑l+n) (Vq " " (l++ [z]))=l++ [z]
 | [],z,n,_,hz=>by
  show spl (0+n) z= [z];rw[tM];unfold spl;rcases hz with rfl|hz
  .rw[lh];show [ofL z.cps.toList]= [z];rw[Q8]
  .rw[wK hz];show [ofL z.cps.toList]= [z];rw[Q8]
 |p::l,z,n,hl,hz=>by
  let O:=qac l z n (λq U=>hl q (uh _ U)) hz;let Z:CY p:=hl p ui;obtain⟨y,r,e⟩:∃y r,l++ [z]=y::r:=by cases l<;>exact[_:0]
  show spl ((↑l+1)+n) (Vq " " (p::(l++ [z])))=p::(l++ [z]);rw[e] at O⊢;unfold spl at O⊢;rw[Jx,show ↑l+1+n=(↑l+n)+1 by omega,Cb Z,uw,O,Q8]
def SF (w:Str)(r:oj Str)(h:CY w):hd (Vq " " (w::r))=w:=by
 let O:∀(p q:oj Nat),32∉p->xx 32 (p++32::q)=p:=by
  intro p
  induction p with
  |nil=>intro q _;simp[xx]|cons a p U=>
   intro q h;let h1:a≠32:=λe=>h (by simp[e])
   show xx 32 (a::(p++32::q))=a::p;rw[xx,A4 h1,U q λz=>h (uh _ z)]
 cases r with
 |nil=>
  show ofL (xx 32 w.cps.toList)=w;rw[zL h,Q8]
 |cons y r=>
  unfold hd;rw[Jx,O _ _ h,Q8]
def BR:∀(l:oj Str),l≠ []->(Vq " " l).length+1=(l.map (·.length)).sum+↑l
 | [],h=>A8 rfl h| [x],_=>by simp[Vq]|x::y::r,_=>by
  let O:=BR (y::r) (by simp)
  let e:(Vq " " (x::y::r)).length=↑x+(1+(Vq " " (y::r)).length):=by
   have:=A9 Gb (Jx x y r);rw[uL,uB] at this;simp![vo] at this;show(Vq " " (x::y::r)).cps.size=_;rw[this];show x.cps.size+((Vq " " (y::r)).cps.size+1)=x.cps.size+(1+(Vq " " (y::r)).cps.size);omega
  rw[e,uw,UF,uB];omega
def oQ {i:Int}(h1:1<=i)(h2:i<=40):↑(Vt i:Str)<=2/\CY (Vt i:Str)/\(Vt i:Str).cps.toList.all QD=true:=by
 obtain⟨k,rfl⟩:∃k:Fin 41,i=((k.val:Nat):Int):=⟨[i.toNat:()],by simp;omega⟩
 let O:∀k:Fin 41,↑(Vt ((k.val:Nat):Int):Str)<=2/\decide (CY (Vt ((k.val:Nat):Int):Str))=v_/\(Vt ((k.val:Nat):Int):Str).cps.toList.all QD=true:=by decide+kernel
 erw[O k,a,b,c];exact[a:uC b:c]
def qav {i:Int}(h1:1<=i)(h2:i<=40):PySem.intText? (Vt i:Str)=u_ i:=PySem.W.KIN.num_reads () ()
variable {z:Str}
def NS (h:z>BX):↑z=1/\CY z/\z.cps.toList.all QD=true:=by
 let O:∀z>BX,↑z=1/\decide (CY z)=v_/\z.cps.toList.all QD=true:=by decide+kernel
 erw[O z h,a,b,c];exact[a:uC b:c]
def C4:∀x>FRM,decide (CY x.1)=v_/\x.1.cps.toList.all QD=true:=by decide+kernel
def SM:∀x>FRM,(decide (Kd.words>x.2)=Vi)\/x=(("text":Str),[Kd.box,Kd.words]):=by decide+kernel
def E9:∀x>FRM,∀y>FRM,x.1=y.1->x=y:=by decide+kernel
variable {n:Nat}
def ou {m:Nat}(hn:n<=40){k:Kd}{p:Pt}(h:Abj n m k p)(O:k≠ .words):CY p.t:=by
 cases k<;>cases p<;>simp![Abj] at h
 .exact(NS h).2.1
 .exact(oQ h.1 ()).2.1
 .exact A8 rfl O
def Zr {n m:Nat}:∀{ks:oj Kd}{ps:oj Pt},xZ n m ks ps->↑ps=↑ks
 | [],[],_=>rfl|_::_,_::_,h=>by rw[uB,uB,Zr h.2]| [],_::_,h=>h.elim|_::_,[],h=>h.elim
def kU {n m:Nat}(hn:n<=40):∀{ks:oj Kd}{ps:oj Pt},xZ n m ks ps->Kd.words∉ks->∀p>ps.map Pt.t,CY p
 | [],[],_,_=>λp O=>by simp at O|_::_,_::_,h,hk=>λp O=>by
  rw[uw] at O;rcases Aa.mp O with rfl|O
  .exact ou hn h.1 λe=>hk (by simp[e])
  .exact kU hn h.2 (λz=>hk (uh _ z)) p O
 | [],_::_,h,_=>h.elim|_::_,[],h,_=>h.elim
variable {r:Rw}
def Sq {m:Nat}(h:Jn n m r):hd (Yp r)=r.1:=by
 erw[h,ks,O,U];exact SF _ _ (uC (C4 _ O).1)
variable {ks:oj Kd}
def Mn {m:Nat}(hn:n<=40)(hk:(r.1,ks)>FRM)(Z:xZ n m ks r.2):spl (if Kd.words>ks then ↑ks else(Yp r).length+1) (Yp r)=txs r:=by
 let hw:CY r.1:=uC (C4 _ hk).1;by_cases h:Kd.words>ks
 .rw[A6 h];rcases SM _ hk with e|e
  .simp at e;exact A8 h e
  .let e1:ks= [.box,.words]:=A9 Prod.snd e;subst e1;erw[r,w,ps]
   match ps,Z with
   | [p,q],Z=>
    have:=qac [w,p.t] q.t 0 (λz hz=>by
     simp![uF,uZ,uT] at hz;rcases hz with rfl|rfl
     .exact hw
     .exact ou hn Z.1 ()) (.inl rfl)
    exact this
 .rw[A4 h];let hf:∀p>txs r,CY p:=λp U=>by
   rcases Aa.mp U with rfl|U
   .exact hw
   .exact kU hn Z h p U
  rcases T_ (txs r) with e|⟨l,z,e⟩
  .simp[txs] at e
  .rw[FJ] at e;let O:=BR (txs r) (by simp[txs])
   unfold Yp;rw[e] at hf O⊢;let hl:↑l<=(Vq " " (l++ [z])).length:=by
    rw[uL] at O;simp![uB,HN] at O;omega
   have:=qac l z ((Vq " " (l++ [z])).length+1-↑l) (λq hq=>hf q (uX _ hq)) (.inr (hf z (by simp)))
   rw[show ↑l+((Vq " " (l++ [z])).length+1-↑l)=(Vq " " (l++ [z])).length+1 by omega] at this
   exact this
abbrev VE:oj o6:= [.type "ValueError",.type "Exception",.type "BaseException",.type "object"]
abbrev CX1 (P:o9)(w:og):CXT:=λouter H s E e s'=>∃(ea C:o3) (a0:o6) (H':Hp) (B:o8),e= .ref ea/\s'.os=s.os/\gV s'.gens/\0<s'.toks/\Un (frs outer) [] H H' s.heap s'.heap/\HOk P w H' B/\
 rY B outer ea (-C) a0 s'.heap/\(∀b o,s.heap.get? b=u_ o->b∉frs outer->∃o',B.get? b=u_ o')/\E (-ea) (u_ C) H'
variable {h:o8}{C:o3}
def Ace {bmB:oj o6}{newId:String}(X:K.In h)(q:PySem.W.excIn K C bmB newId=v_):
  ∃bm N nm Z bs hdct sn sub ab col dd k0 k1 k2 k3 k5 mN,h.get? C=u_ (excClassObj nm Z C N bs bm hdct sn sub ab col dd k0 k1 k2 k3 k5 newId)/\h.Ns N mN/\mN "__init__"=U_/\OwnTail h bmB bm:=by
 unfold PySem.W.excIn at q;split at q
 .rename_i dd cd sl ho
  split at q
  .rename_i C' bm k0 k1 k2 k3 n k5 hm hs
   simp![uG,beq_iff_eq,Bool.not_eq_true'] at q;erw[q,[[[[rfl,rfl],O],ht],hok],U];erw[cd,nm,bs,aa,ns,Z,hd,sn,sub,ab,col,ac];dsimp only at hm O hok U;subst hm O;obtain⟨l⟩:=sl;simp only at hs;subst hs;exact(bm,ns,nm,Z,bs,hd,sn,sub,ab,col,dd,k0,k1,k2,k3,k5,_,X _ _ ho,.of_isNs (PySem.W.isNs_of_in X hok),PySem.W.nsMap_none_of_in X hok U,PySem.W.tail_of_in X ht)
  .cases q
 .cases q
def sx {h base B:o8}:∀{l:oj Env},h.FunFrames base l->(∀b>frs l,B.get? b=U_)->h.FunFrames B l
 | [],_,_=>trivial|env::r,⟨hk,⟨L,o,hf,hn,ho,hd⟩,hr⟩,hB=>by
  let e:frs (env::r)=L::frs r:=by unfold frs;rw[U5,hf]
  rw[e] at hB;exact[hk:(L,o,hf,hB L ui,ho,hd):sx hr λb O=>hB b (uh _ O)]
abbrev AaD (E:XK)(C:o3)(ta:TE):TS:=λ_ σ H=>Lc ta AaE σ H λvs H1=>↑vs=1/\∀e,E (-e) (u_ C) H1
def qaf {P:o9}{w:og}{K:o0}{mg:Str->om o6}{base:o8}{N:oj Str}{qual:Str}{scope:VB}{f:o3}{U:o6}{A:oh}{outer:oj Env}{s₀:o7}{H₀:Hp}{E:XK}
  {x:Str}{C:o3}{np cpos pos:Pos}{aa:Expr}{ta:TE} (hx:PySem.W.excIn K C VE "ValueError.__new__"=v_) (hg:Gl (cxOf (CX1 P w) P w K mg base N qual scope f U A outer s₀ H₀ E) x) (hm:mg x=u_ (-C))
  (ha:PE (cxOf (CX1 P w) P w K mg base N qual scope f U A outer s₀ H₀ E) aa ta) (hd:(x==("__debug__":Str))=Vi)
  (hs:Vn [aa] (Vp qual scope #[0,s₀] f U)= [(Vi,eval aa (Vp qual scope #[0,s₀] f U))]):
  PS (cxOf (CX1 P w) P w K mg base N qual scope f U A outer s₀ H₀ E) (.Raise (u_ (.Call (.Name x np) [aa] [] cpos)) U_ pos) (AaD E C ta):=by
 exists 2,D,I,h;erw[Ace I.mod.kin hx,bm,Nn,nm,q,bs,hdct,sn,sub,ab,col,dd,k0,k1,k2,k3,k5,mN,hC,hN,aq,T];let hT:bm.contains (.type "BaseException")=true:=T.hasType ()
 refine wpAny_Raise_call_subT (C:=C) (nm:=nm) (q:=q) (N:=Nn) (bs:=bs) (bm:=bm) (hdct:=hdct) (sn:=sn) (sub:=sub) (ab:=ab) (col:=col) (dd:=dd) (k0:=k0) (k1:=k1) (k2:=k2) (k3:=k3) (k5:=k5)
  (mN:=mN) F.excBase_ValueError hT (I.ok.hd rfl) (by show(Vv cpos (Vn [aa] (Vp qual scope #[0,s₀] f U))).any (·.1)=Vi;rw[hs];rfl) aq (wL I hg hm [1:?_] hd)
 let au:PA (cxOf (CX1 P w) P w K mg base N qual scope f U A outer s₀ H₀ E) [aa] (Lc ta AaE):=qb ha qd hs;let hp:=au cpos oq s σ H (λvs H1=>↑vs=1/\∀e,E (-e) (u_ C) H1) I h;show Vj _ _ (evalArgs (-C) v_ (Vv cpos (Vn [aa] (Vp qual scope #[0,s₀] f U))) []) _ _ s;let aw:Vn [aa] (cxOf (CX1 P w) P w K mg base N qual scope f U A outer s₀ H₀ E).env= [(Vi,eval aa (Vp qual scope #[0,s₀] f U))]:=hs;rw[aw] at hp;rw[hs];refine Uj (vz hp (λvs s₂ h₂=>?_) λ_ _ y=>y);erw[h₂,ws,H2,I2,r2,q2];erw[q2,hl,q2];let bk:=I2.bk;let ax:↑vs<=sizeLine:=by rw[<-↑r2,hl];decide
 exists 1,ax,bk _ _ hC,hN.keeps bk,T.keeps bk,λh' e ad=>?_;show Vj (Vz P w) (A.deeper (Vp qual scope #[0,s₀] f U)) (Fb (Vp qual scope #[0,s₀] f U) (-e)) (λ_ ag=>CX1 P w outer H₀ s₀ E (-e) ag) (λe' ag=>CX1 P w outer H₀ s₀ E e' ag) _;let ay:(A.deeper (Vp qual scope #[0,s₀] f U)).frames=u_ (Vp qual scope #[0,s₀] f U::outer):=I2.ok.frames;let ak:s₂.heap.FunFrames base (Vp qual scope #[0,s₀] f U::outer):=I2.stack;let ah:∀b>frs (Vp qual scope #[0,s₀] f U::outer),H2 b=none:=I2.stkFree;let al:frs (Vp qual scope #[0,s₀] f U::outer)=#[0,s₀]::frs outer:=rfl;let ap:#[0,s₀]<=#[0,s₀]:=I2.ok.above;let O:Un (frs outer) [] H₀ H2 s₀.heap s₂.heap:=I2.base;refine wpAny_leaves_madeW (base:=TI.gone s₂.heap (frs (Vp qual scope #[0,s₀] f U::outer))) (h:=s₂.heap) (L:=#[0,s₀]) ay rfl (λb o e=>(TI.gone_some e).2) (sx ak λb Z=>TI.gone_none Z) ad λam t af aB _ aA=>?_;let ae:∀b o,b∉frs (Vp qual scope #[0,s₀] f U::outer)->s₂.heap.get? b=u_ o->am.get? b=u_ o:=λb o Z e=>af.1 b o (by rwa[TI.gone_get Z])
 let slots:∀b o,s₂.heap.get? b=u_ o->(∀vs,o.data≠ .fields vs)->∃sl,am.get? b=u_ {o with slots:=sl}:=λb o e hn=>aA b o (ad.keeps b o e) hn
 let nd:∀b>frs outer,∀o,s₂.heap.get? b=u_ o->∀vs,o.data≠ .fields vs:=λb Z o e=>by
  obtain⟨_,o',e',hn⟩:=ak.mem (show b>(Vp qual scope #[0,s₀] f U::outer).filterMap (·.frame) from by rw[show(Vp qual scope #[0,s₀] f U::outer).filterMap (·.frame)=frs (Vp qual scope #[0,s₀] f U::outer) from rfl,al];exact uh _ Z)
  rw[e] at e';cases e';exact hn
 let ac:∀b o,s₀.heap.get? b=u_ o->b∉frs outer->b∉frs (Vp qual scope #[0,s₀] f U::outer):=λb o e Z hm=>by
  rw[al] at hm;rcases Aa.mp hm with rfl|hm
  .exact A8 (uK e) (vT _)
  .exact Z hm
 exists e,C,-t,H2,0,I2.os,I2.bare,(by first|exact I2.tk|exact Vx I2.tk (Vb _ _)|((try dsimp only);first|assumption|exact Inv.tk (by assumption)|exact HB _|exact Vx (Inv.tk (by assumption)) (by assumption)|exact Nat.add_pos_left (Inv.tk (by assumption)) _|omega)),(?_,?_,O.free,?_,O.tups,O.frzs,O.tbls),?_,af,?_,q2 e
 .intro b o e1 hn Z hx;exact ae b o (ac b o e1 Z) (O.keep b o e1 hn Z hx)
 .intro b o e1 hn Z hx;erw[O.slot b o e1 hn Z hx,sl,e2];erw[slots b _ e2 (nd b Z _ e2),ao,e3];exact[ao:e3]
 .intro b o e1 hx;erw[O.there b o e1 hx,o',e2];by_cases Z:b>frs outer
  .erw[slots b _ e2 (nd b Z _ e2),ao,e3];exact[_:e3]
  .exact[o':ae b o' (ac b o e1 Z) e2]
 .intro b u Z;refine(I2.hok b u Z).stay (λc v hc q=>?_) (λ_ q=>q) λ_ _ q=>q;rw[TI.gone_get]
  .exact q
  .intro hm;let hn:=ah c hm;rcases hc with z|z
   .rw[z,Z] at hn;cases hn
   .rw[z] at hn;cases hn
 .intro b o e1 Z;obtain⟨o',e2⟩:=O.there b o e1 (by simp)
  exact⟨o',by rwa[TI.gone_get (ac b o e1 Z)]⟩
nonrec abbrev Cx.marked (X:Cx)(ee:o3)(xe:o6->o7->Prop):Cx:={X with A:=X.A.mark (u_ (-ee)),calm:=Vi,xe:=xe}
section
variable {X:Cx}{oq:oj (o3×Obj)}{σ:St}{H:Hp}{s:o7}{ee:o3}{xe:o6->o7->Prop}
def Cx.Ok.marked (ok:X.Ok):(X.marked ee xe).Ok:=
 (ok.mod,ok.kind,ok.glob,ok.blt,ok.above,ok.inj,ok.has,ok.cab,(λz=>A8 z ub),ok.frames,ok.stk,ok.exf,ok.bs,ok.bsz,ok.noex,ok.exfs,ok.funs,ok.frf)
def Inv.marked (I:#[I]):Inv (X.marked ee xe) oq σ H s:=(I.ok.marked,I.os,I.bare,I.base,I.loc,I.cell,I.free,I.freeC,I.pin,I.hok,I.len,I.tk)
def Inv.unmarked (ok:X.Ok)(I:Inv (X.marked ee xe) oq σ H s):#[I]:=(ok,I.os,I.bare,I.base,I.loc,I.cell,I.free,I.freeC,I.pin,I.hok,I.len,I.tk)
def SP.unmarked (ok:X.Ok){D:nc}{f:Flow}{s':o7}(h:SP (X.marked ee xe) oq D f s'):SP X oq D f s':=by
 cases f with
 |next=>erw[h,O,H',I,q];exact(O,H',I.unmarked ok,q)|brk=>erw[h,O,H',I,q];exact(O,H',I.unmarked ok,q)|cont=>erw[h,O,H',I,q];exact(O,H',I.unmarked ok,q)|ret u=>erw[h,v,O,H',I,r,q];exact(v,O,H',I.unmarked ok,r,q)
abbrev Cat (X:Cx)(oq:oj (o3×Obj))(σ:St)(E:XK)(e:o6)(s':o7):Prop:=∃H1 s1,Inv X oq σ H1 s1/\CX1 X.prog X.w X.stack H1 s1 E e s'
def MH {D:nc}{e:o6}{s':o7}{c:Str}{np al:Pos}{Cc C':o3}{b₀:Stmt}{aa:oj Stmt}{ts:TS}(au:Cat X oq σ (λ_ C H2=>C=u_ Cc/\ts D σ H2) e s')(ac:X.stack=X.env::X.outer/\X.env.frame=u_ X.env.locals)
  (hg:Gl X c) (hm:X.mg c=u_ (-C')) (hx:PySem.W.exmOne X.K (-Cc) (-C')=u_ v_) (hs:∀ee xe,PSs (X.marked ee xe) (b₀::aa) ts) (aw:(c==("__debug__":Str))=Vi):
  Vj #[X,X] X.A (noteFrame e X.env) (λ_ s2=>Vj #[X,X] X.A (setFlight e U_) (λ_ s3=>Vj #[X,X] X.A (handleBy e X.env [.ExceptHandler (u_ (.Name c np)) U_ (b₀::aa) al]) (SP X oq D) X.xe s3) X.xe s2) X.xe s':=by
 erw[au,H1,s1,I,ea,C,a0,H',B,rfl,ax,ag,htk,O,am,Z,hold,hC,ay];cases hC;let step:∀hk,B.StaysIn hk->s'.heap.UpToSlots hk->Inv X oq σ H' {s' with heap:=hk}:=by
  intro hk hB hU;let nd:∀b>frs X.stack,∀o,s'.heap.get? b=u_ o->∀vs,o.data≠ .fields vs:=λb hb o e=>by
   obtain⟨_,o',e',hn⟩:=Z.2.2.1.mem (show b>X.stack.filterMap (·.frame) from hb)
   rw[e] at e';cases e';exact hn
  let aA:∀b o o',B.get? b=u_ o'->s'.heap.get? b=u_ o->hk.get? b=u_ o:=λb o o' e1 e2=>by
   have:=Z.1 b o' e1;rw[e2] at this;cases this;exact hB b o e1
  refine I.call' (s':={s' with heap:=hk}) (ch:= []) ax (?_,?_,O.free,?_,O.tups,O.frzs,O.tbls) (am.kept λb u e=>hB b u e) ag (λb z=>by simp at z)
  .intro b o e1 hn hb ad;erw[hold b o e1 hb,o',e2];exact aA b o o' e2 (O.keep b o e1 hn hb ad)
  .intro b o e1 hn hb ad;erw[O.slot b o e1 hn hb ad,sl,e2];erw[hU b _ e2 (nd b hb _ e2),ao,e3];exact[ao:e3]
  .intro b o e1 ad;by_cases hb:b>frs X.stack
   .erw[O.there b o e1 ad,o',e2];erw[hU b _ e2 (nd b hb _ e2),ao,e3];exact[_:e3]
   .erw[hold b o e1 hb,o',e2];exact[o':hB b o' e2]
 rw[ac.1] at Z;let aB:X.A.frames=u_ (X.env::X.outer):=by rw[I.ok.frames,ac.1]
 refine wpAny_looks_onW (base:=B) aB ac.2 Z λh1 ah ae=>?_;refine wpAny_landsW ah λh2 U af=>?_;let I2:=step h2 U.1 (ae.trans af);refine wpAny_handleBy_cons (codeAny_handlers_test ?_) (by intro q;cases q)
 refine wL (X:=X.marked ea X.xe) I2.marked hg hm ?_ aw;erw[U.there,oe,he,ap];let LT:PySem.W.Looks #[X,X] h2 (tj (-ea)) (-Cc):=ap▸(PySem.W.Looks.ld he).andThen .now;refine PySem.W.exm_one I2.kIn LT hx _ _ _ _ (λb o e=>e) ?_;refine codeAny_handlers_suite (lands_againW U λh3 ak aq=>?_);let I3:=step h3 ak.1 ((ae.trans af).trans aq);exact vz (hs ea _ oq _ σ H' D I3.marked ay) (λf s4 h4=>h4.unmarked I.ok) λ_ _ z=>z
end
def Fun.okX {P:o9}{w:og}{K:o0}{mg:Str->om o6}{base:o8}{x qual:Str}{st:Stmt}{f:o3}{fd:Vk}{N ps:oj Str}{k:Nat}{sp:Sp}(F:Fun K x qual st f fd)(S:qu N ps (qh st))(len:∀vs H Q E,sp vs H Q E->↑vs=↑ps)
  (O:∀(cdv:o6) (A:oh) (outer:oj Env) (s:o7) (H:Hp) (vs:oj V) (Q:VK) (E:XK),mD k (A.deeper (Vp qual (qh st) #[0,s] f cdv))->sp vs H Q E->
   ∃t,PSs (cxOf (CX1 P w) P w K mg base N qual (qh st) f cdv A outer s H E) (Yf st) t/\t {nx:=λ_ H'=>Q .non H',rt:=Q} (qan N vs) H):FnOk P w K mg base (CX1 P w) (k+1) f fd ps sp:=by
 erw[F.ex,oc,od,kV,doc,pm,an,cdv,ct,osl,rfl,lk,U];exact Ab4 lk U S len λA outer s H vs Q E hr Z=>O cdv A outer s H vs Q E hr Z
end L2
namespace HT
open PySem PyProof.Rows
section
variable {prog:o9}{w:og}{A:oh}{E:o6->o7->Prop}{s:o7}
def getItem_tuple_all {t sl:o3}{items:Array o6}{vl vu:o6}{lo hi:om Int}{Q:o6->o7->Prop}(O:GY s.heap t items)(hs:s.heap.IsSliceOf sl vl vu .none)(pl:Gh vl lo)(pu:Gh vu hi)
  (hw:sIx items.size 0 lo=0/\sIx items.size items.size hi=items.size) (h:Q (-t) s):Vj #[w,w] A (VQ (-t) (-sl)) Q E s:=by
 erw[id hs,os,Z,aa,ad];let ac:s.TypeIs (-sl) "slice":=[os:Z:aa];unfold VQ
 try with_reducible refine VY ?_
 first|refine A7 (uD ?_)|skip
 refine A7 (Rb O.typeIs () ?_)
 refine A7 (vq (name:=Gu "__getitem__") O.typeIs vP
  (vM vP O.typeIs Ro ?_ (RP _ _)))
 show Vj _ _ (RO (-t)>>=_) _ _ s;refine A7 (Fq O ?_);refine A7 (GD ac ?_);rw[A6 ()]
 refine A7 (Jd hs pl pu ?_);let U:((((sIx items.size 0 lo:Nat):Int)==0&&(1:Int)==1&&(sIx items.size items.size hi-sIx items.size 0 lo)==items.size)=v_):=by
  rw[hw.1,hw.2];simp
 show Vj _ _ (if(((sIx items.size 0 lo:Nat):Int)==0&&(1:Int)==1&&(sIx items.size items.size hi-sIx items.size 0 lo)==items.size)=v_ then _ else _) _ _ s
 rw[A6 U];unfold pN;refine A7 (A7 (GD O.typeIs (uD ?_)));rw[A6 ()]
 exact A7 (UM (uD [0:uD h]))
end
end HT
namespace L2
open PySem PySem.Spec PyProof.Rows
section
variable {X:Cx}
inductive Ad7 (K:PySem.W.Frag)(x:V)(lo:Option Int)(hi:Option Int)(H:Hp)(Q:VK):Prop
 |mk (a:_)(xs:_)(_:x=-a)(_:SqT K H a xs)(_:(HT.sIx ↑xs 0 lo=0/\HT.sIx ↑xs ↑xs hi=↑xs->Q (-a) H))(_:(¬(HT.sIx ↑xs 0 lo=0/\HT.sIx ↑xs ↑xs hi=↑xs)->∀p,H p=U_->Q (-p) (upd H p (.tup (AO xs lo hi)))))
def DA:SlR X (Ad7 X.K):=by
 exists 2,x,v,vl,vu,lo,hi,sl,Q,I,Z,hs,pl,pu,h;erw[h,a,xs,rfl,hx,q1,q2];by_cases U:HT.sIx ↑xs 0 lo=0/\HT.sIx ↑xs ↑xs hi=↑xs
 .cases Z;erw[I.tuple hx,its,r,ht,hz];let O:its.toArray.size=↑xs:=by rw[uA];exact r.length.symm
  exists "tuple",_,PyProof.Rows.slot_tuple_getitem.lookup,ht.typeIs;exact HT.getItem_tuple_all ht hs pl pu (by rwa[O]) (-a,H,I,1,q1 U)
 .exact AaZ oq s σ H (-a) v vl vu lo hi sl Q I Z hs pl pu (a,xs,1,hx,U,q2 U)
end
abbrev Yt (n:Nat):Kd->Str->om Pt
 | .words,z=>u_ (.s z)| .box,z=>if z>BX then u_ (.s z) else U_| .line,z=>((Vu n).find? λi:Nat=>decide ((Vt (1+(i:Int)):Str)=z)).map λi:Nat=> .n (1+(i:Int))
abbrev YD (n:Nat):oj Kd->oj Str->om (oj Pt)
 | [],_=>u_ []|k::ks,z::zs=>match Yt n k z,YD n ks zs with
  |some p,u_ ps=>u_ (p::ps)|_,_=>U_
 |_::_,[]=>U_
abbrev xG (w:Str):om (oj Kd):=(FRM.find? λx=>decide (x.1=w)).map (·.2)
abbrev pcs (ks:oj Kd)(z:Str):oj Str:=spl (if Kd.words>ks then ↑ks else ↑z+1) z
abbrev wy (n:Nat)(z:Str):om Rw:=
 if QA z=v_ then match xG (hd z) with
  |none=>U_|some ks=>if(pcs ks z).length=1+↑ks then(YD n ks ((pcs ks z).drop 1)).map λl=>(hd z,l) else U_
 else U_
variable {ks:oj Kd}
def zY {w:Str}(h:xG w=u_ ks):(w,ks)>FRM:=by
 unfold xG at h;cases e:FRM.find? λx=>decide (x.1=w) with
 |none=>rw[e] at h;cases h|some x=>
  rw[e] at h;let O:=HR e;let hm:=Ui e;cases h;have:x.1=w:=uC O;subst this;exact hm
def WK {w:Str}(h:xG w=U_):∀x>FRM,x.1≠w:=by
 unfold xG at h;rw[tQ,Uu] at h;intro x O e;exact h x O (ug e)
variable {n:Nat}{z:Str}
def DX {m:Nat}{k:Kd}{p:Pt}(hz:↑z<=m)(ha:z.cps.toList.all QD=v_)(h:Yt n k z=u_ p):Abj n m k p/\p.t=z:=by
 cases k with
 |words=>cases h;exact[[hz:ha]:1]|box=>
  simp![Yt] at h;by_cases O:z>BX
  .rw[A6 O] at h;cases h;exact[O:1]
  .rw[A4 O] at h;cases h
 |line=>
  simp![Yt] at h;cases e:(Vu n).find? λi:Nat=>decide ((Vt (1+(i:Int)):Str)=z) with
  |none=>rw[e] at h;cases h|some i=>
   rw[e] at h;cases h;let h1:=HR e;let h2:=List.mem_range.mp (Ui e);exact[[():()]:uC h1]
def kK {n m:Nat}:∀{ks:oj Kd}{zs:oj Str}{ps:oj Pt},(∀z>zs,↑z<=m/\z.cps.toList.all QD=v_)->↑zs=↑ks->YD n ks zs=u_ ps->xZ n m ks ps/\ps.map Pt.t=zs
 | [],[],ps,_,_,h=>by cases h;exact[trivial:1]| [],_::_,_,_,hl,_=>by simp at hl|_::_,[],_,_,hl,_=>by simp at hl|k::ks,z::zs,ps,hz,hl,h=>by
  unfold YD at h;split at h
  .rename_i p qs h1 h2
   cases h;erw[DX (hz z ui).1 (hz z ui).2 h1,O,U];obtain⟨b1,b2⟩:=kK (λy Z=>hz y (uh _ Z)) (by simpa using hl) h2
   exact⟨[O:b1],by rw[uw,U,b2]⟩
  .cases h
abbrev KH:oj (oj Nat)->oj Nat
 | []=> []| [x]=>x|x::y::r=>x++32::KH (y::r)
def CL (x:oj Nat){q:oj (oj Nat)}(O:q≠ []):KH (x::q)=x++32::KH q:=by
 cases q with
 |nil=>exact A8 rfl O|cons y r=>rfl
def KY:∀(n:Nat) (L:oj Nat),KH (lh 32 n L)=L
 |0,L=>by simp[lh,KH]|n+1,[]=>by simp[lh,KH]|n+1,a::r=>by
  by_cases h:a=32
  .let O:=KY n r;erw[J0 32 n r,p,q,e];rw[lh,A6 h,CL [] (by rw[e];simp),O,h]
   rfl
  .let O:=KY (n+1) r;erw[J0 32 (n+1) r,p,q,e];rw[e] at O;simp![lh,A4 h,e];cases q with
   |nil=>simp![KH] at O⊢;rw[O]|cons y t=>
    simp![KH] at O⊢;rw[vZ,O]
def BQ:∀l:oj (oj Nat),(Vq " " (l.map ofL)).cps.toList=KH l
 | []=>rfl| [x]=>by show(ofL x).cps.toList=x;unfold ofL;simp|x::y::r=>by
  let O:=BQ (y::r);show(Vq " " (ofL x::ofL y::r.map ofL)).cps.toList=_;rw[Jx];let e:(ofL x).cps.toList=x:=by unfold ofL;simp
  rw[e];show x++32::(Vq " " ((y::r).map ofL)).cps.toList=_;rw[O]
  rfl
def Lh (n:Nat)(z:Str):Vq " " (spl n z)=z:=by
 unfold spl;let h:=BQ (lh 32 n z.cps.toList);rw[KY] at h;rw[<-Q8 (Vq " " ((lh 32 n z.cps.toList).map ofL)),h,Q8]
def Ca:∀(n:Nat) (L:oj Nat),∃q,lh 32 (n+1) L=xx 32 L::q
 |n,[]=>⟨[],by simp[lh,xx]⟩|n,a::r=>by
  by_cases h:a=32
  .exact⟨lh 32 n r,by simp[lh,xx,h]⟩
  .erw[Ca n r,q,e];exact⟨q,by simp![lh,A4 h,e,xx]⟩
def Lg (n:Nat)(z:Str):∃q,spl (n+1) z=hd z::q:=by
 erw[Ca n z.cps.toList,q,e];exact⟨q.map ofL,by unfold spl hd;rw[e];rfl⟩
def AN:∀(n:Nat) (L:oj Nat),∀p>lh 32 n L,↑p<=↑L/\∀c>p,c>L
 |0,L=>λp O=>by
  simp[lh] at O;subst O;exact[uq _:λc U=>U]
 |n+1,[]=>λp O=>by
  simp[lh] at O;subst O;exact[uq _:λc U=>U]
 |n+1,a::r=>λp O=>by
  by_cases h:a=32
  .rw[lh,A6 h] at O;rcases Aa.mp O with rfl|O
   .exact⟨vc _,λc U=>by simp at U⟩
   .erw[AN n r p O,h1,h2];exact⟨by simp;omega,λc U=>uh _ (h2 c U)⟩
  .erw[J0 32 (n+1) r,p0,q,e];let Z:=AN (n+1) r;rw[e] at Z;simp![lh,A4 h,e] at O;rcases Aa.mp O with rfl|O
   .erw[Z p0 ui,h1,h2];refine⟨by simp;omega,λc U=>?_⟩
    rcases Aa.mp U with rfl|U
    .exact ui
    .exact uh _ (h2 c U)
   .erw[Z p (uh _ O),h1,h2];exact⟨by simp;omega,λc U=>uh _ (h2 c U)⟩
def M5 {m:Nat}(hz:↑z<=m)(ha:z.cps.toList.all QD=v_):∀p>spl n z,↑p<=m/\p.cps.toList.all QD=true:=by
 intro p O;erw[Ae.mp O,q,U,rfl];erw[AN n z.cps.toList q U,h1,h2];let e:(ofL q).cps.toList=q:=by unfold ofL;simp
 exists ?_,?_
 .have:↑(ofL q)=↑q:=by unfold ofL VZ;simp
  rw[this];have:↑z.cps.toList=↑z:=by simp[VZ]
  omega
 .rw[e,Ub];intro c Z;exact List.all_eq_true.mp ha c (h2 c Z)
variable {r:Rw}
def Br (h:wy n z=u_ r):Jn n 300 r/\Yp r=z:=by
 unfold wy at h;split at h
 .rename_i ht
  let O:=ht;unfold QA at O;rw[uG,vj] at O;split at h
  .cases h
  .rename_i ks hk
   split at h
   .rename_i hl
    cases e:YD n ks ((pcs ks z).drop 1) with
    |none=>rw[e] at h;cases h|some l=>
     rw[e] at h;cases h;let hm:=zY hk;let U:∀p>(pcs ks z).drop 1,↑p<=300/\p.cps.toList.all QD=true:=λp Z=>M5 O.1 O.2 p (FV Z);obtain⟨a1,a2⟩:=kK U (by rw[vY,hl];omega) e
     exists [ks:hm:a1];let aa:∃j,(if Kd.words>ks then ↑ks else ↑z+1)=j+1:=by
      split
      .rename_i hw
       exact⟨↑ks-1,by have:=List.length_pos_iff.mpr (λe=>by rw[e] at hw;simp at hw:ks≠ []);omega⟩
      .exact[↑z:1]
     erw[aa,j,hj];erw[Lg j z,q,hq];let Z:pcs ks z=hd z::q:=by unfold pcs;rwa[hj]
     let hb:Vq " " (pcs ks z)=z:=Lh _ z;show Vq " " (hd z::l.map Pt.t)=z;rw[a2];rw[Z] at hb⊢;exact hb
   .cases h
 .cases h
end L2
namespace PySem.AwV
open PySem PySem.Calls PyProof.Rows Builtin Builtin.ObjectAttr Builtin.Getset_descriptor PySem.W
structure ExcCls (K:Frag)(C:o3):Prop where
 ga:findIn K (-C) "__getattribute__"=u_ (u_ (.builtin "BaseException.__getattribute__"))
 gt:findIn K (-C) "__getattr__"=u_ U_
 cl:findIn K (-C) "__class__"=u_ (u_ (.builtin "object.__class__"))
 sp:specialIn K (.builtin "object.__class__") "__get__"=u_ (u_ (.builtin "getset_descriptor.__get__"))
 tk:takesIn K (.builtin "object.__class__")=u_ v_
 ob:mroIn K C (.type "object")=u_ v_
 be:mroIn K C (.type "BaseException")=u_ v_
end PySem.AwV
namespace L2
open PySem PySem.Spec PyProof.Rows
section
variable {X:Cx}{oq:oj (o3×Obj)}{σ:St}{H:Hp}{s:o7}
def nJ:∀{cs:oj o3}{its:oj o6},iq (cs.map V.ref) its->its=cs.map Vo
 | [],_,h=>by cases h;rfl|c::cs,_,h=>by
  cases h with
  |cons O U=>
   rw[nJ U,show _=Vo c from O]
   rfl
end
section
variable {X:Cx}
def ZA:∀{ls:oj Str}{its:oj o6},iq (ls.map V.str) its->tL its ls
 | [],_,h=>by cases h;exact .nil|z::ls,_,h=>by
  cases h with
  |cons O U=>
   erw[O,t,e];rw[e];exact .cons z t (ZA U)
def ZE:∀{ls:oj Str}{its:oj o6},tL its ls->iq (ls.map V.str) its
 |_,_,.nil=> .nil|_,_,.cons x t h=> .cons [t:1] (ZE h)
def qaw:∀{xs:oj V}{us:oj o6},↑xs=↑us->(∀(j:Nat) (x:V) (v:o6),xs[j]? =u_ x->us[j]? =u_ v->ik x v)->iq xs us
 | [],[],_,_=> .nil|x::xs,u::us,hl,h=> .cons (h 0 x u rfl rfl) (qaw (by simpa using hl) λj y v h1 h2=>h (j+1) y v (by simpa using h1) (by simpa using h2))| [],_::_,hl,_=>by simp at hl|_::_,[],hl,_=>by simp at hl
def sH (hc:X.calm=v_):YN X (.builtin "sorted") (λxs H Q=>∃(d:o3) (kvs:oj (Key×V)) (ls:oj Str),xs= [-d]/\H d=u_ (.dK kvs)/\kvs.map (·.1)=ls.map Vl/\↑ls<64/\∀(Z:oj Str) (q:o3),Z.Perm ls->sortedS Z=v_->H q=U_->Q (-q) (upd H q (.lst (Z.map V.str)))):=by
 exists 2,xs,us,Q,I,r,h;erw[h,d,kvs,ls,rfl,hd,hk,am,q];erw[jX r,u,rfl,ru];cases ru;erw[ME I.hok hd,hz,lo,vs,ae,dd];erw[id dd,o,es,ep,ho];let af:s.heap.DictAt (Qo X.prog X.w) d vs ep:=[o:es:ho];let aa:↑vs=↑ls:=by
  let h1:=A9 Gb hk;rw[uc,uc] at h1;rw[<-↑ae,h1]
 refine vk (n:=1) I.tk ?_;refine PySem.Calls.call_function_entry kind_sorted plain_sorted entry_sorted (args_sorted1 _) ?_;unfold g_.«sorted»;refine A7 (m:=checkCount "sorted" 1 1 _) (uD ?_);refine A7 (PySem.W.kdu_collect (A:=X.A.in1) (PySem.W.kdl_dict lo) (I.ok.hd hc) af (by rw[aa,uE];omega) λh' tk U ag O=>?_)
 let hS:tL U.toList ls:=by
  refine ZA (qaw (by rw[uc,vo];exact aa.symm.trans O.1.symm) λj x v hx hv=>?_)
  rw[uJ] at hx;cases ac:ls[j]? with
  |none=>rw[ac] at hx;cases hx|some z=>
   rw[ac] at hx;cases hx;obtain⟨k,y,e1,e2⟩:=O.2 j v (by rwa[<-UA])
   let e3:(kvs.map (·.1))[j]? =u_ k:=by
    rw[ae.keys,uJ,e1]
    rfl
   rw[hk,uJ,ac] at e3;cases e3;rcases Qw (show oX (Vl z) v=v_ from e2) with⟨i,t,e4,e5⟩|⟨z',t,e4,e5⟩
   .cases e4
   .cases e4;exact[t:e5]
 let ah:↑U.toList=↑ls:=by rw[vo,O.1,aa]
 refine A7 (tT ?_ (by rw[ah,uE];omega))
 let ad:(h'.push (seqObj "list" U.toList.toArray 0)).get? h'.objs.size=u_ (seqObj "list" U.toList.toArray 0):=uH _ rfl;refine A7 (VY (vM slot_list_sort [_:ad:1] entry_list_sort (list_sort_treeK strKind_oneLt ad hS.keysOf (λv₁ v₂ rest e=>keyKind_strs (by rwa[<-e])) () λak a1 a2=>[0:?_]) (args_list_sort _)))
 refine uD [0:?_];erw[sorted_out_str hS a1 a2,Z,b1,b2,b3];erw[sortedHeap_at (out:=(arrOf ak).map (·.2)) ad,e,he];let al:↑Z=↑ls:=b2.length_eq;intro htk;let I':Inv X oq σ H {s with heap:=h',toks:=tk}:=I.kept ag
 exists .ref h'.objs.size,_,I'.laid (t':=tk) (o:= .lst (Z.map V.str)) (λb u w=>?_) (uq _) (?_,_,e,ZE b1,he),1,q Z _ b2 b3 (I'.hok.fresh (uq _))
 .let hb:=uK w;rw[sortedHeap_old (vb hb) (by rw[size_push'];exact Nat.lt_succ_of_lt hb)]
  exact ud _ w
 .rw[uc,al,uE];omega
abbrev Itd (d:o3)(o:Obj):It:=
 ⟨λi H=>∃kvs,H d=u_ (.frz o (.dK kvs))/\i<↑kvs,λi H x H'=>H'=H/\∀kvs,H d=u_ (.frz o (.dK kvs))->(kvs.map λp=>kV p.1)[i]? =u_ x,λi H=>∃kvs,H d=u_ (.frz o (.dK kvs))/\↑kvs<=i⟩
variable {w:og}
def DY {P:o9}{es:oj GX}{kvs:oj (Key×o6)}(h:Pairs (Qo P w) es kvs):↑es=↑kvs:=↑h
variable {H:Hp}{h:o8}{o:Obj}{es:Array GX}
def E7 {P:o9}{d:o3}{kvs:oj (Key×V)}{ep:Nat}(ok:HOk P w H h)(e:H d=u_ (.frz o (.dK kvs)))(hd:o.data= .dict es ep):
  (d==VG)=Vi/\∃vs,KV kvs vs/\h.DictAt (Qo P w) d vs ep/\↑vs=es.size/\↑kvs<=sizeLine:=by
 obtain⟨U,hz,lo,vs,r,o',aa,ac,O,c1,Z,c3,c4,c5⟩:=(show yu P w H h d (.frz o (.dK kvs)) from ok d _ e)
 rw[U] at O;cases O;rw[hd] at Z;cases Z;exact(lo,vs,r,(o,es,U,c1,hd,c3,c4,c5),by rw[<-vo];exact(DY c4).symm,hz)
def NB {k:Key}{v:o6}(h:oX k v=v_):ik (kV k) v:=by
 rcases Qw h with⟨i,t,rfl,rfl⟩|⟨z,t,rfl,rfl⟩
 .exact[t:1]
 .exact[t:1]
variable {K:o0}{tg:Expr}
def C9 {P:o9}(d it:o3){ep:Nat}(hd:o.data= .dict es ep):NV P w K tg (Itd d o) [it] it (λi h=>h.IsKeyIter it d i es.size ep) where
 mem:=by simp
 obj:=λi h st b O=>by
  let e:b=it:=by simpa using O
  subst e;erw[st,o,e,c,d];exact⟨o,e,λv z=>by rw[d] at z;cases z⟩
 keep:=λi h h' st k=>by
  erw[st,o,e,c,dd];exact(o,k it (by simp) o e,c,dd)
 item:=by
  intro X hP hw hK hc i oq s σ H E I hf st hg;subst hP hw hK;erw[hg,kvs,hq,hx];erw[E7 I.hok hq hd,lo,vs,r,U,hl,_];let ad:=↑r;obtain⟨f0,f1,f2,f3,f4,f5⟩:=hf it (by simp)
  obtain⟨⟨k,v⟩,Z⟩:∃p,vs[i]? =u_ p:=[_:uf ()]
  refine wpAny_pyNext_dict_item (by rwa[hl]) U Z λae h' hk aa sb=>?_
  let I1:Inv X oq σ H {s with heap:=h'}:=I.turned (t':=s.toks) (λb o O e=>(sb.2 b O).trans e) f0 f1 f3 f4 f5
  erw[id aa,oi,e,c,di];refine⟨ae,1,E2 (s:={s with heap:=h'}) e c di () (kV k,H,I1,NB hk,[1:λaf ac=>?_],by rw[<-hl];exact aa,λb O=>(hf b O).1)⟩
  rw[hq] at ac;cases ac;let e3:(kvs.map (·.1))[i]? =u_ k:=by
   rw[r.keys,uJ,Z]
   rfl
  rw[uJ] at e3⊢;cases h4:kvs[i]? with
  |none=>rw[h4] at e3;cases e3|some p=>
   rw[h4] at e3;cases e3
   rfl
 done:=by
  intro X hP hw hK hc i oq s σ H E I hf st hg;subst hP hw hK;erw[hg,kvs,hq,hx];erw[E7 I.hok hq hd,lo,vs,r,U,hl,_];let ad:=↑r;obtain⟨f0,f1,f2,f3,f4,f5⟩:=hf it (by simp)
  exact wpAny_pyNext_dict_end (I.ok.hd hc) (by rwa[hl]) U (Tg ()) λh' eb=>[1:I.turned (t':=s.toks) (λb o O e=>eb b o O e) f0 f1 f3 f4 f5]
 self:=λ_ _ _ _ _ st h=>wpAny_pyIter_keyiter st h
abbrev Adv (tl:TE):TI:=λσ H R=>tl σ H λx H1=>∃d o kvs,x= .ref d/\H1 d=u_ (.frz o (.dK kvs))/\R (Itd d o) H1
def Pg {tg l:Expr}{tl:TE}(Z:PE X l tl):PI X tg l (Adv tl):=by
 exists 2,R,I,h;refine thn (Z oq s σ H _ I h) λv s1 zq=>?_;erw[zq,x,H1,O,r1,q1];erw[q1,d,o,kvs,rfl,hq,q];cases r1;obtain⟨ho,_,lo,vs,r,o',es,ep,U,c1,c2,_⟩:=(show yu X.prog X.w H1 s1.heap d (.frz o (.dK kvs)) from O.hok d _ hq)
 rw[ho] at U;cases U;erw[E7 O.hok hq c2,lo,vs,r,aa,Z,_];refine wpAny_pyIter_dict lo aa ?_;refine(#[0,s1],[#[0,s1]],_,_,H1,1,O.kept (t':=s1.toks) λb o e=>ud _ e,C9 d _ c2,(_,uH _ rfl,1,by rw[Z];rfl),λb hb=>?_,q)
 let e:b=#[0,s1]:=by simpa using hb
 subst e;exact O.fpOk (uq _) (O.hok.fresh (uq _))
end
end L2
namespace PySem.AwK
open PySem Builtin Builtin.ObjectAttr
def So:tu (.type "list") "keys"=pure none:=by rw[FI,rT];kernel_rfl
section
variable {prog:o9}{w:og}{A:oh}{E:o6->o7->Prop}{s:o7}
def KI:isSubtype (.type "AttributeError") (.type "AttributeError")=pure true:=by rw[isSubtype_type];kernel_rfl
def Cz {α:Type}{o:o6}{name O:Str}{Q:α->o7->Prop}(hh:A.handled=U_)(hm:↑O<=Vm)
  (hq:∀h' aa e,(∀b ob,s.heap.get? b=u_ ob->h'.get? b=u_ ob)->(∃oe,h'.get? e=u_ oe/\oe.cls= .type "AttributeError")->E (-e) {s with heap:=h',toks:=aa}):
  Vj #[w,w] A (rJ o name O:Sem α) Q E s:=by
 unfold rJ;refine A7 (wpAny_mkStr (A7 ?_) hm);unfold newExc Fa;refine A7 (vB ?_ (by show(1:Nat)<=Vm;rw[uE];decide))
 refine A7 (m:=T2 _ _) (tH (a:=Ge) (by kernel_rfl) ?_)
 obtain⟨h1,Z⟩:∃h1,h1=s.heap.push {cls:= .type "tuple",data:= .seq #[VJ O s.toks]}:=⟨0⟩;let k1:∀b ob,s.heap.get? b=u_ ob->h1.get? b=u_ ob:=λb ob e=>by rw[Z];exact ud _ e
 show Vj #[w,w] A (newObj (.type "AttributeError") (.fields #[.ref #[0,s],.none,.none,.none,.bool Vi,.none,G7,G7])) _ E {s with heap:=s.heap.push {cls:= .type "tuple",data:= .seq #[VJ O s.toks]},toks:=s.toks+1}
 rw[<-Z];refine vB ?_ (by unfold sizeOk;first|trivial|(rw[uE];simp)|decide)
 obtain⟨h2,U⟩:∃h2,h2=h1.push {cls:= .type "AttributeError",data:= .fields #[.ref #[0,s],.none,.none,.none,.bool Vi,.none,G7,G7]}:=⟨0⟩;let k2:∀b ob,h1.get? b=u_ ob->h2.get? b=u_ ob:=λb ob e=>by rw[U];exact ud _ e
 let e2:h2.get? h1.objs.size=u_ {cls:= .type "AttributeError",data:= .fields #[.ref #[0,s],.none,.none,.none,.bool Vi,.none,G7,G7]}:=by rw[U];exact uH _ rfl
 show Vj #[w,w] A (do let x<-mkText name;noteAttr (-h1.objs.size) o x;raiseNew (-h1.objs.size)) Q E {s with heap:=h1.push {cls:= .type "AttributeError",data:= .fields #[.ref #[0,s],.none,.none,.none,.bool Vi,.none,G7,G7]},toks:=s.toks+1}
 rw[<-U];let ne:∀b ob,h1.get? b=u_ ob->b≠h1.objs.size:=λb ob e=>vb (uK e);generalize h1.objs.size=e at e2 ne⊢;refine A7 (Ri (A7 ?_));let hT:∀g d t os,((h2,g,d,t,os):o7).TypeIs (-e) "AttributeError":=λ_ _ _ _=>[_:e2:1];unfold noteAttr lacksNameAndObj;refine A7 (A7 (UI (hT _ _ _ _) KI ?_));simp![Bool.not_true,UQ,if_false];refine A7 (tD e2 ?_);dsimp only;rw[A4 (by simp[G7,VO]),A4 (by simp[G7,doubtfulMember,VO])]
 refine uD ?_;rw[A6 rfl];refine A7 (UM (A7 (GD (hT _ _ _ _) ?_)));show Vj #[w,w] A (layMembers e 6 #[VJ name (s.toks+1),o]) _ E _;unfold layMembers;refine A7 (tD e2 ?_);dsimp only;refine wpAny_update e2 ?_;let e3:=Tl (rK λvs=>vs.extract 0 6++ #[VJ name (s.toks+1),o]) e2 rfl;let k3:∀b ob,b≠e->h2.get? b=u_ ob->(h2.update e (rK λvs=>vs.extract 0 6++ #[VJ name (s.toks+1),o])).get? b=u_ ob:=λb ob hb q=>(Ff _ _ (U6 hb)).trans q;exact wpAny_raiseNew_none hh (hq _ _ e (λb ob q=>k3 b ob (ne b ob (k1 b ob q)) (k2 b ob (k1 b ob q))) [_:e3:1])
end
section
variable {prog:o9}{w:og}{A:oh}{E:o6->o7->Prop}{h:o8}{g:Array Te}{d:Drawn}{t:Nat}{os:OsState}{a:o3}{its:Array o6}{n:Nat}{sl:Array (om o6)}
def Mg {tk:Tok}{Q:Fin->o7->Prop}(Z:A.handled=U_)(hx:h.get? a=u_ {cls:= .type "list",dict:=U_,data:= .seq its n,slots:=sl})
  (hq:∀h' O e,(∀b ob,h.get? b=u_ ob->h'.get? b=u_ ob)->(∃U,h'.get? e=u_ U/\U.cls= .type "AttributeError")->E (-e) (h',g,d,O,os)):
  Vj #[w,w] A (g_.«object.__getattribute__» [[-a,.str "keys" tk]:[]]) Q E (h,g,d,t,os):=by
 let hT:((h,g,d,t,os):o7).TypeIs (-a) "list":=[_:hx:1];let f4:=So
 repeat (any_goals (first|assumption|wp_step))
 exact Cz Z (by rw[uE];decide+kernel) hq
def Sk {tk:Tok}{R:GP->o7->Prop}(hh:A.handled=U_)(U:h.get? a=u_ {cls:= .type "list",dict:=U_,data:= .seq its n,slots:=sl})
  (hq:∀h' O e,(∀b ob,h.get? b=u_ ob->h'.get? b=u_ ob)->(∃Z,h'.get? e=u_ Z/\Z.cls= .type "AttributeError")->R (.error (-e)) (h',g,d,O,os)):
  VS #[w,w] A (.call (.builtin "list.__getattribute__") [[-a,.str "keys" tk]:[]]) R (h,g,d,t,os):=
 tX F.slot_list_getattribute.plain F.entry_list_ga (F.slot_list_getattribute.check _ _ _ _ _ _ _ _ (show((h,g,d,t,os):o7).TypeIs (-a) "list" from[_:U:1]) (F.args_list_getattribute_2 _ _) (Mg hh U hq))
def Sj {Q:om o6->o7->Prop}(hh:A.handled=U_)(U:h.get? a=u_ {cls:= .type "list",dict:=U_,data:= .seq its n,slots:=sl})
  (hq:∀h' O,(∀b ob,h.get? b=u_ ob->h'.get? b=u_ ob)->Q U_ (h',g,d,O,os)):Vj #[w,w] A (getAttr? (-a) "keys") Q E (h,g,d,t,os):=by
 let hT:∀t,((h,g,d,t,os):o7).TypeIs (-a) "list":=λt=>[_:U:1];unfold getAttr? getAttrBy?;refine A7 (Ri (A7 (UV ?_)));unfold getAttrBy;refine VY (A7 (GD (hT _) ?_));rw[F.slot_list_getattribute.lookup];refine A7 (uD ?_);show Vj #[w,w] A (rV (-a) _ (.type "list") (.builtin "list.__getattribute__") Vi Vi) _ _ _;unfold rV;refine A7 (m:=hookBefore _) (uD ?_);refine A7 (UV (VY ?_));show Vj #[w,w] A (RY (.builtin "list.__getattribute__") (-a) _) _ _ _;unfold RY;rw[F.slot_list_getattribute.bind];refine A7 (uD (Hl (Sk hh U λh' O e k zq=>?_)));erw[zq,oe,e1,e2];let Z:∀t,((h',g,d,t,os):o7).TypeIs (-e) "AttributeError":=λt=>[_:e1:e2];show Vj #[w,w] A (FY (-a) _ (.type "list") (-e) U_ Vi Vi) _ _ (h',g,d,O,os);unfold FY;refine A7 (UI (Z _) KI ?_);rw[A6 rfl];let lg:hookBehind (.type "list") U_=pure none:=by
  show tu (.type "list") "__getattr__"=pure U_;rw[FI,rT]
  kernel_rfl
 rw[lg];refine A7 (uD ?_);show Vj #[w,w] A (RL (-a) _ (-e) Vi Vi) _ _ _;unfold RL;refine FN ?_;refine A7 (UI (Z _) KI ?_);rw[A6 rfl];exact uD (hq h' O k)
end
def kf:entryFor table "dict.update.loop"=u_ g_.«dict.update.loop»:=entryFor_of_fast (by kernel_rfl)
def xq:plainId "dict.update.loop"=true:=by decide+kernel
section
variable {prog:o9}{w:og}{A:oh}{E:o6->o7->Prop}{K:Type}[DecidableEq K]{knd:KeyKind prog w K}
abbrev addAll (cur:oj (K×o6)):oj (K×o6)->oj (K×o6)
 | []=>cur|p::r=>addAll (GL cur p.1 p.2) r
structure Acr (h:o8)(d it:o3)(v:o6)(p:K×o6):Prop where
 at_:∃(t:o3) (o:Obj) (k:o6) (n:Nat),v= .ref t/\t≠d/\t≠it/\h.get? t=u_ o/\o.cls= .type "tuple"/\o.data= .seq #[k,p.2] n/\knd.is p.1 k=v_
def CB (hh:A.handled=U_){d it l:o3}{items:Array o6}{ps:oj (K×o6)}{R:GP->o7->Prop}(aq:d≠l)(au:it≠l)(aa:d≠it)(hn:items.size=↑ps)(hz:2*↑ps<=Vm)(res:o6):
  ∀(m i:Nat) (s:o7) (O:oj (K×o6)),i+m=↑ps->s.heap.IsListIter it l i->s.heap.IsList l items->s.heap.DictOf knd d O->↑O<=i->
  (∀(j:Nat) (v:o6) (p:K×o6),items[j]? =u_ v->ps[j]? =u_ p->Acr (knd:=knd) s.heap d it v p)->
  (∀h' ac,h'.DictOf knd d (addAll O (ps.drop i))->(∀b o,b≠d->b≠it->s.heap.get? b=u_ o->h'.get? b=u_ o)->R (.ok (.ret res)) {s with heap:=h',toks:=ac})->
  VS #[w,w] A (.builtin "dict.update.loop" [[-d,-it,VO i,res]:[]]) R s:=by
 intro m
 induction m with
 |zero=>
  intro i s O hm ad hl hd hc hp hR;refine HH kf ?_;rw[TK xq _];show Vj _ A.in1 (VM (-it)>>=_) _ _ s;refine A7 (FD (A:=A.in1) hh ad hl (by rw[Array.getElem?_eq_none ()]) λh' eb=>?_)
  let ae:h'.DictOf knd d O:=by
   erw[hd,o,es,ep,ho,r];exact(o,es,ep,eb d o aa ho,r)
  have:=hR h' s.toks (by rwa[List.drop_eq_nil_of_le ()]) λb o Z U e=>eb b o U e
  show Vj #[w,w] A.in1 (Dict.addKeywords d []>>=λ_=>ret res) _ _ _;refine A7 (m:=Dict.addKeywords d []) (uD ?_);exact uD this
 |succ m ih=>
  intro i s O hm ad hl hd hc hp hR;refine HH kf ?_;rw[TK xq _];let hi:i<items.size:=by omega
  let ag:i<↑ps:=by omega
  let hx:items[i]? =u_ items[i]:=Array.getElem?_eq_getElem hi;let aw:ps[i]? =u_ ps[i]:=uf ag;erw[(hp i _ _ hx aw).at_,t,o,k,n,ev,aD,ax,ho,ay,aA,hk];rw[ev] at hx;show Vj _ A.in1 (VM (-it)>>=_) _ _ s;refine A7 (R6 (A:=A.in1) ad hl hx λh1 ah af=>?_);let ak:h1.get? t=u_ o:=(af.2 t ax).trans ho;let hT:(({s with heap:=h1}:o7)).TypeIs (-t) "tuple":=[_:ak:ay]
  let al:h1.DictOf knd d O:=hd.sameBut af aa;dsimp only;refine A7 (VY (A7 (wpAny_tryCatch ?_)));unfold Dict.pairItems;refine A7 (GD hT ?_);rw[A6 ()]
  refine A7 ?_;unfold tN;refine A7 (tD ak ?_);rw[aA];refine uD (uD ?_);show Vj #[w,w] A.in1 (Gg [k,ps[i].2] (dictSet d k ps[i].2)) _ _ _;refine VY (wpAny_dictSet_pairs hk al (λh2 aB am=>?_) ())
  let ao:h2.IsListIter it l (i+1):=by
   erw[ah,oi,e,c];exact[oi:(am.2 it (U6 aa)).trans e:c]
  let keep:∀b ob,b≠d->b≠it->s.heap.get? b=u_ ob->h2.get? b=u_ ob:=λb ob Z U e=>(am.2 b Z).trans ((af.2 b U).trans e);let aC:h2.IsList l items:=by
   erw[hl,ol,e,c];exact[ol:keep l ol (U6 aq) (U6 au) e:c]
  refine uD [F0 xq _:?_];let ap:↑(GL O ps[i].1 ps[i].2)<=i+1:=by
   unfold GL;split
   .rw[uc];omega
   .rw[uL];show ↑O+1<=i+1;omega
  refine ih (i+1) _ _ () ao aC aB ap (λj v p h1 h2=>?_) λh' ac ae kp=>?_
  .erw[(hp j v p h1 h2).at_,t',o',k',n',e1,e2,e3,e4,e5];exact⟨(t',o',k',n',e1,e2,e3,keep t' o' e2 e3 e4,e5)⟩
  .refine hR h' ac ?_ λb ob Z U e=>kp b ob Z U (keep b ob Z U e);rw[uV ag];exact ae
def dict_pairs (hh:A.handled=U_){s:o7}{l:o3}{items:Array o6}{n:Nat}{sl:Array (om o6)}{ps:oj (K×o6)}{Q:o6->o7->Prop}(hl:s.heap.get? l=u_ {cls:= .type "list",dict:=U_,data:= .seq items n,slots:=sl})(hn:items.size=↑ps)(hz:2*↑ps<=Vm)
  (hp:∀(j:Nat) (v:o6) (p:K×o6),items[j]? =u_ v->ps[j]? =u_ p->∃(t:o3) (o:Obj) (k:o6) (n:Nat),v= .ref t/\s.heap.get? t=u_ o/\o.cls= .type "tuple"/\o.data= .seq #[k,p.2] n/\knd.is p.1 k=v_)
  (hQ:∀h' aa,h'.DictOf knd #[0,s] (addAll [] ps)->(∀b o,s.heap.get? b=u_ o->h'.get? b=u_ o)->Q (.ref #[0,s]) {s with heap:=h',toks:=aa}):
  Vj #[w,w] A (call (.type "dict") [-l]) Q E s:=by
 refine RS (Q₁:=λobj s₁=>obj= .ref #[0,s]/\s₁={s with heap:=s.heap.push {cls:= .type "dict",data:= .dict #[]}}) F.kt_called_dict (F.kt_typeCall_dict_1 _) F.entry_dict_init (kt_code_dict_new _ [1:1]) ?_
 rintro obj s₁ ⟨rfl,rfl⟩;let U:(s.heap.push {cls:= .type "dict",data:= .dict #[]}).DictOf knd #[0,s] []:=rn s.heap;exists U.typeIs,F.args_dict_init_2 _ _;unfold g_.«dict.__init__»;refine A7 ?_;unfold pJ;refine A7 (wpAny_notOrdered_dict U.typeIs ?_);refine(show Vj _ _ (pure (#[0,s],[Vo l])) _ _ _ from ?_)
 refine uD ?_;refine(show Vj _ _ (RI "dict.__init__" #[0,s] (-l) [] .none) _ _ _ from ?_)
 unfold RI;let Z:(s.heap.push {cls:= .type "dict",data:= .dict #[]}).get? l=u_ {cls:= .type "list",dict:=U_,data:= .seq items n,slots:=sl}:=ud _ hl;refine A7 (GD (T:="list") [_:Z:1] ?_);rw[A6 ()]
 refine A7 (Sj (A:=A.in1.in1) hh Z λh2 al k2=>?_);rw[A6 (show(U_:om o6).isNone=v_ from rfl)]
 let ac:l<#[0,s]:=uK hl;let ae:h2.IsList l items:=(_,k2 _ _ Z,1,n,1);refine A7 (UM (A7 (V2 ae ?_)));let ad:h2.DictOf knd #[0,s] []:=by
  erw[U,o,es,ep,ho,r];exact(o,es,ep,k2 _ _ ho,r)
 let O:#[0,s]<h2.objs.size:=by
  erw[ad,o,es,ep,ho,r];exact uK ho
 let k1:∀b o,s.heap.get? b=u_ o->h2.get? b=u_ o:=λb o e=>k2 b o (ud _ e);let k3:∀b o,h2.get? b=u_ o->(h2.push {cls:= .type "list_iterator",data:= .fields #[-l,.int 0 0]}).get? b=u_ o:=λb o e=>ud _ e;let af:(h2.push {cls:= .type "list_iterator",data:= .fields #[-l,.int 0 0]}).IsList l items:=(_,k3 _ _ (k2 _ _ Z),1,n,1);let ag:(h2.push {cls:= .type "list_iterator",data:= .fields #[-l,.int 0 0]}).DictOf knd #[0,s] []:=ad.push _;refine uD [F0 xq _:CB (A:=A.in1) hh (d:=#[0,s]) (it:=h2.objs.size) (l:=l) (items:=items) (ps:=ps) (Uc ac) (Uc (HJ ac O)) (vb O) hn hz .none ↑ps 0 _ [] () (_,uH _ rfl,1,1) af ag (uq _) (λj v p h1 ah=>?_) λh' aa ak kp=>?_]
 .erw[hp j v p h1 ah,t,o,k,n',e1,e2,e3,e4,e5];let ht:=uK e2;exact⟨(t,o,k,n',e1,vb ht,vb (HJ ht O),k3 _ _ (k1 _ _ e2),e3,e4,e5)⟩
 .exists 1,hQ h' aa ak λb o e=>?_;let hb:=uK e;exact kp b o (vb hb) (vb (HJ hb O)) (k3 _ _ (k1 _ _ e))
end
end PySem.AwK
namespace L2
open PySem PySem.Spec PyProof.Rows
section
variable {X:Cx}
abbrev li (ps:oj (Str×V)):oj (Key×V):=ps.map λp=>(Vl p.1,p.2)
def WN (ps:oj (Str×V)):(li ps).map (·.1)=(ps.map (·.1)).map Sum.inr:=by
 unfold li;rw[uP,uP]
 rfl
def Co {kvs:oj (Key×o6)}{k:Key}{v:o6}(h:k∉kvs.map (·.1)):GL kvs k v=kvs++ [(k,v)]:=by
 unfold GL;rw[A4];intro q;erw[List.any_eq_true.mp q,p,O,e];exact h (Ae.mpr [p:O:uC e])
def Ko:∀{ps O:oj (Key×o6)},((O++ps).map (·.1)).Nodup->AwK.addAll O ps=O++ps
 | [],O,_=>(uU O).symm|p::r,O,h=>by
  unfold AwK.addAll;let U:p.1∉O.map (·.1):=by
   rw[ur,uw] at h;intro q;exact(List.nodup_append.mp h).2.2 _ q _ ui rfl
  rw[Co U,Ko (by rw[vw];exact h),vw]
  rfl
def oB {P:o9}{w:og}{H:Hp}{h:o8}(ok:HOk P w H h):∀{ts:oj o3}{ps:oj (Str×V)},↑ts=↑ps->(∀(i:Nat) (t:o3) (p:Str×V),ts[i]? =u_ t->ps[i]? =u_ p->H t=u_ (-[.str p.1,p.2]))->
  ∃pv:oj (Key×o6),KV (li ps) pv/\∀(j:Nat) (v:o6) (p:Key×o6),(ts.map Vo)[j]? =u_ v->pv[j]? =u_ p->∃(t:o3) (o:Obj) (k:o6) (n:Nat),v= .ref t/\h.get? t=u_ o/\o.cls= .type "tuple"/\o.data= .seq #[k,p.2] n/\(Qo P w).is p.1 k=v_
 | [],[],_,_=>⟨[],.nil,λj v p e=>by simp at e⟩|t::ts,p::ps,hl,hp=>by
  obtain⟨pv,h1,h2⟩:=oB ok (ts:=ts) (ps:=ps) (by simpa using hl) λi t' p' O e2=>hp (i+1) t' p' (by simpa using O) (by simpa using e2)
  obtain⟨_,its,rv,o,U,Z,n,hd⟩:=(show yu P w H h t (-[.str p.1,p.2]) from ok t _ (hp 0 t p rfl rfl))
  cases rv with
  |cons r1 rv=>
  cases rv with
  |cons r2 rv=>
  cases rv with
  |nil=>
  erw[r1,tk,rfl]
  rename_i u
  exists (Vl p.1,u)::pv,.cons [1:r2] h1,λj v q O e2=>?_;cases j with
  |zero=>
   simp![uw,List.getElem?_cons_zero,pw] at O e2;subst O e2;exact(t,o,_,n,1,U,Z,hd,wm _ _ _ _)
  |succ j=>exact h2 j v q (by simpa using O) (by simpa using e2)
 | [],_::_,hl,_=>by simp at hl|_::_,[],hl,_=>by simp at hl
abbrev Cj (H:Hp)(l:o3)(ps:oj (Str×V)):Prop:=∃ts:oj o3,H l=u_ (.lst (ts.map V.ref))/\↑ts=↑ps/\∀(i:Nat) (t:o3) (p:Str×V),ts[i]? =u_ t->ps[i]? =u_ p->H t=u_ (-[.str p.1,p.2])
def Iq {oq:oj (o3×Obj)}{σ:St}{H:Hp}{s:o7}{l:o3}{ps:oj (Str×V)}{Q:o6->o7->Prop}(hc:X.calm=v_)(I:#[I])(hl:Cj H l ps)(hn:(ps.map (·.1)).Nodup)(hz:↑ps<=1000)
  (h:∀h' O pv,0<O->(∀b o,s.heap.get? b=u_ o->h'.get? b=u_ o)->KV (li ps) pv->h'.DictOf (Qo X.prog X.w) #[0,s] pv->Q (.ref #[0,s]) {s with heap:=h',toks:=O}):
  Vj #[X,X] X.A (call (.type "dict") [-l]) Q X.xe s:=by
 erw[hl,ts,e1,e2,e3];obtain⟨_,its,n,rv,ho⟩:=(show yu X.prog X.w H s.heap l (.lst (ts.map V.ref)) from I.hok l _ e1)
 cases nJ rv;erw[oB I.hok e2 e3,pv,r,hp];let ac:↑pv=↑ps:=by
  rw[<-↑r];unfold li;rw[uc]
 let Z:(pv.map (·.1)).Nodup:=by
  rw[<-r.keys,WN];exact pF _ (λa b aa e=>aa (Uw e)) hn
 refine vk (n:=1) I.tk ?_;refine AwK.dict_pairs (knd:=Qo X.prog X.w) (I.ok.hd hc) (ps:=pv) ho (by rw[uA,uc];omega) (by rw[uE];omega) (λj v p h1 h2=>hp j v p (by simpa using h1) h2) λh' O U kp=>?_
 rw[Ko (by simpa using Z),U8] at U
 exact λhtk=>h h' O pv htk kp r U
def CU (Z:X.calm=v_):YN X (.type "dict") (λxs H Q=>∃(l:o3) (ps:oj (Str×V)),xs= [-l]/\Cj H l ps/\(ps.map (·.1)).Nodup/\↑ps<=1000/\∀q,H q=U_->Q (-q) (upd H q (.dK (li ps)))):=by
 exists 2,xs,us,Q,I,r,h;erw[h,l,ps,rfl,hl,hn,hz,q];erw[jX r,u,rfl,ru];cases ru;refine Iq Z I hl hn hz λh' aa pv htk kp rel dd=>?_;let O:(#[0,s]==VG)=false:=by
  rw[beq_eq_false_iff_ne];exact Uc I.big
 let U:↑(li ps)<=sizeLine:=by unfold li;rw[uc,uE];omega
 exact(.ref #[0,s],_,I.laid kp (uq _) (sC U O rel dd),1,q _ I.fresh)
def CV (Z:X.calm=v_):YN X (.type "dict") (λxs H Q=>∃(l:o3) (ps:oj (Str×V)),xs= [-l]/\Cj H l ps/\(ps.map (·.1)).Nodup/\↑ps<=1000/\∀q o,H q=U_->Q (-q) (upd H q (.frz o (.dK (li ps))))):=by
 exists 2,xs,us,Q,I,r,h;erw[h,l,ps,rfl,hl,hn,hz,q];erw[jX r,u,rfl,ru];cases ru;refine Iq Z I hl hn hz λh' aa pv htk kp rel dd=>?_;let O:(#[0,s]==VG)=false:=by
  rw[beq_eq_false_iff_ne];exact Uc I.big
 let U:↑(li ps)<=sizeLine:=by unfold li;rw[uc,uE];omega
 erw[id dd,o,es,ep,ho,rr];exact(.ref #[0,s],_,I.laid (o:= .frz o (.dK (li ps))) kp (uq _) [ho:sC U O rel dd],1,q _ o I.fresh)
end
mutual
noncomputable def puD:D->Bool
 | .str _=>v_| .int _=>v_| .tup xs=>puL xs|_=>Vi
noncomputable def puL:oj D->Bool
 | []=>v_|x::r=>puD x&&puL r
end
mutual
noncomputable def eqD:D->D->Bool
 | .str a,.str b=>a==b| .int a,.int b=>a==b| .tup xs,.tup ys=>eqL xs ys|_,_=>Vi
noncomputable def eqL:oj D->oj D->Bool
 | [],[]=>v_|x::r,y::q=>eqD x y&&eqL r q|_,_=>Vi
end
mutual
theorem AE:∀{d e:D},puD d=v_->(eqD d e=v_↔d=e)
 | .str a,e,_=>by cases e<;>simp[eqD]| .int a,e,_=>by cases e<;>simp[eqD]| .tup xs,¬ys,h=>by
  have:=eqL_iff (xs:=xs) (ys:=ys) (by simpa [puD] using h)
  simp![eqD,this,D.tup.injEq]
 | .tup xs,.non,_=>by simp[eqD]| .tup xs,.bl _,_=>by simp[eqD]| .tup xs,.int _,_=>by simp[eqD]| .tup xs,.str _,_=>by simp[eqD]| .tup xs,.lst,_=>by simp[eqD]| .tup xs,.dct,_=>by simp[eqD]| .non,_,h=>by simp[puD] at h| .bl _,_,h=>by simp[puD] at h| .lst,_,h=>by simp[puD] at h| .dct,_,h=>by simp[puD] at h
theorem eqL_iff:∀{xs ys:oj D},puL xs=v_->(eqL xs ys=v_↔xs=ys)
 | [],[],_=>by simp[eqL]| [],_::_,_=>by simp[eqL]|_::_,[],_=>by simp[eqL]|x::r,y::q,h=>by
  let h':puD x=v_/\puL r=true:=by simpa [puL] using h
  simp![eqL,uG,AE h'.1,eqL_iff h'.2,UW]
end
mutual
theorem Is.det {H:Hp}:∀{d e:D}{v:V},puD d=v_->puD e=v_->Is H d v->Is H e v->d=e
 | .str a,e,v,_,he,h1,h2=>by
  obtain⟨rfl,_⟩:=(show v= .str a/\_ from h1)
  cases e with
  |str b=>obtain⟨q,_⟩:=(show V.str a=V.str b/\_ from h2);cases q;rfl|int b=>cases(show V.str a=V.int b from h2)|tup ys=>erw[h2,p,us,q,_];cases q|_=>simp[puD] at he
 | .int a,e,v,_,he,h1,h2=>by
  cases(show v= .int a from h1)
  cases e with
  |str b=>obtain⟨q,_⟩:=(show V.int a=V.str b/\_ from h2);cases q|int b=>cases(show V.int a=V.int b from h2);rfl|tup ys=>erw[h2,p,us,q,_];cases q|_=>simp[puD] at he
 | .tup xs,e,v,hd,he,h1,h2=>by
  erw[h1,p,vs,rfl,Z,hl];cases e with
  |str b=>obtain⟨q,_⟩:=(show V.ref p=V.str b/\_ from h2);cases q|int b=>cases(show V.ref p=V.int b from h2)|tup ys=>
   erw[h2,p',us,q,O,U];cases q;rw[Z] at O;cases O;rw[IsL.det (by simpa [puD] using hd) (by simpa [puD] using he) hl U]
  |_=>simp[puD] at he
 | .non,_,_,hd,_,_,_=>by simp[puD] at hd| .bl _,_,_,hd,_,_,_=>by simp[puD] at hd| .lst,_,_,hd,_,_,_=>by simp[puD] at hd| .dct,_,_,hd,_,_,_=>by simp[puD] at hd
theorem IsL.det {H:Hp}:∀{xs ys:oj D}{vs:oj V},puL xs=v_->puL ys=v_->IsL H xs vs->IsL H ys vs->xs=ys
 | [],[],_,_,_,_,_=>rfl| [],_::_,_,_,_,h1,h2=>by
  cases(show _= [] from h1)
  erw[h2,v,r,q,_];cases q
 |_::_,[],_,_,_,h1,h2=>by
  cases(show _= [] from h2)
  erw[h1,v,r,q,_];cases q
 |x::xs,y::ys,_,hd,he,h1,h2=>by
  erw[h1,v,r,rfl,Z,a2];erw[h2,v',r',q,b1,b2];cases q;let O:puD x=v_/\puL xs=true:=by simpa [puL] using hd
  let U:puD y=v_/\puL ys=true:=by simpa [puL] using he
  rw[Is.det O.1 U.1 Z b1,IsL.det O.2 U.2 a2 b2]
end
def AD:∀(xs ys:oj D),eqL xs ys=((Vu (min ↑xs ↑ys)).all (λj=>eqD (xs.getD j .non) (ys.getD j .non))&&↑xs==↑ys)
 | [],[]=>by simp[eqL]| [],_::_=>by simp[eqL]|_::_,[]=>by simp[eqL]|x::r,y::q=>by
  let O:=AD r q;rw[uB,uB,show min (↑r+1) (↑q+1)=min ↑r ↑q+1 by omega,TX,vE,UD]
  let e:(Vu (min ↑r ↑q)).all ((λj=>eqD ((x::r).getD j .non) ((y::q).getD j .non))∘TL)=(Vu (min ↑r ↑q)).all λj=>eqD (r.getD j .non) (q.getD j .non):=by congr 1
  rw[e];let e2:(↑r+1==↑q+1)=(↑r==↑q):=by rw[vK];simp
  rw[e2,R7,<-O]
  rfl
section
variable {X:Cx}{oq:oj (o3×Obj)}{σ:St}{H:Hp}{s:o7}
variable {z:Str}{e:D}{A:oh}
def MB (I:#[I]){t:Tok}{u:V}{b:o6}(U:puD e=v_)(h2:Is H e u)(O:ik u b)(Z:A.units<Vr):VD A s (.str z t) b (eqD (!z) e):=by
 cases e with
 |str y=>
  obtain⟨rfl,_⟩:=(show u= .str y/\_ from h2)
  erw[O,t2,rfl];exact tO _ _ _ _
 |int y=>
  cases(show u= .int y from h2)
  erw[O,t2,rfl];exact UO _ _ _ _
 |tup ys=>
  erw[id h2,p,us,rfl,hp,hl];cases O;erw[I.tuple (.inl (.of hp)),its,_,q,_];exact rM _ _ q Z
 |_=>simp[puD] at U
def B7 (I:#[I]){z:Int}{t:Tok}{u:V}{b:o6}(U:puD e=v_)(h2:Is H e u)(O:ik u b)(Z:A.units<Vr):VD A s (.int z t) b (eqD (.int z) e):=by
 cases e with
 |str y=>
  obtain⟨rfl,_⟩:=(show u= .str y/\_ from h2)
  erw[O,t2,rfl];exact UN _ _ _ _
 |int y=>
  cases(show u= .int y from h2)
  erw[O,t2,rfl];exact Fj _ _ _ _
 |tup ys=>
  erw[id h2,p,us,rfl,hp,hl];cases O;erw[I.tuple (.inl (.of hp)),its,_,q,_];exact FE _ _ q Z
 |_=>simp[puD] at U
def wY:∀{xs:oj D}{j:Nat}{x:D},puL xs=v_->xs[j]? =u_ x->puD x=v_
 | [],_,_,_,e=>by simp at e|y::r,0,x,h,e=>by
  let h':puD y=v_/\puL r=true:=by simpa [puL] using h
  have:y=x:=by simpa using e
  exact this▸h'.1
 |y::r,j+1,x,h,e=>by
  let h':puD y=v_/\puL r=true:=by simpa [puL] using h
  exact wY h'.2 (by simpa using e)
def MA (I:#[I]){xs:oj D}{e:D}{v u:V}{a b:o6}{A:oh}(hd:puD (¬xs)=v_)(he:puD e=v_)(h1:Is H (¬xs) v)(h2:Is H e u)(r1:ik v a)(r2:ik u b)(hu:A.units<Vr)
  (ih:∀x>xs,∀(e:D) (v u:V) (a b:o6),puD x=v_->puD e=v_->Is H x v->Is H e u->ik v a->ik u b->VD A.in1 s a b (eqD x e)):VD A s a b (eqD (¬xs) e):=by
 erw[id h1,p,vs,rfl,hp,hl];cases r1;erw[I.tuple (.inl (.of hp)),its,rv,q,_];cases e with
 |str y=>
  obtain⟨rfl,_⟩:=(show u= .str y/\_ from h2)
  erw[r2,t2,rfl];exact rh _ _ q hu
 |int y=>
  cases(show u= .int y from h2)
  erw[r2,t2,rfl];exact FS _ _ q hu
 |tup ys=>
  by_cases hv:V.ref p=u
  .have:=Is.det (e:=¬ys) hd he h1 (hv▸h2);subst hv;cases r2;rw[<-this,(AE hd).mpr rfl];exact tK _
  .erw[id h2,p',us,rfl,aa,O];cases r2;erw[I.tuple (.inl (.of aa)),its',U,q',_];let l1:↑its=↑xs:=by rw[<-↑rv,↑hl]
   let l2:↑its'=↑ys:=by rw[<-↑U,↑O]
   let ac:puL xs=true:=by simpa [puD] using hd
   let ad:puL ys=true:=by simpa [puD] using he
   let ae:=V5 (e:=λj=>eqD (xs.getD j .non) (ys.getD j .non)) q q' hu λj a1 a2=>by
    let Z:j<↑xs:=by rw[<-l1];simpa using a1
    let j2:j<↑ys:=by rw[<-l2];simpa using a2
    obtain⟨v1,e1,i1⟩:=hl.get (i:=j) (d:=xs[j]) (by simp[Z])
    obtain⟨v2,e2,i2⟩:=O.get (i:=j) (d:=ys[j]) (by simp[j2])
    erw[rv.get e1,b1,f1,g1];erw[U.get e2,b2,f2,g2];let k1:its.toArray[j]=b1:=by
     have:=f1;rw[uf (by rwa[l1])] at this
     simpa using this
    let k2:its'.toArray[j]=b2:=by
     have:=f2;rw[uf (by rwa[l2])] at this
     simpa using this
    let d1:xs.getD j .non=xs[j]:=by simp[Gi,Z]
    let d2:ys.getD j .non=ys[j]:=by simp[Gi,j2]
    show VD _ s _ _ (eqD (xs.getD j .non) (ys.getD j .non));rw[k1,k2,d1,d2];exact ih _ (uR Z) _ _ _ _ _ (wY (j:=j) ac (by simp[Z])) (wY (j:=j) ad (by simp[j2])) i1 i2 g1 g2
   let e1:eqD (¬xs) (¬ys)=((Vu (min its.toArray.size its'.toArray.size)).all (λj=>eqD (xs.getD j .non) (ys.getD j .non))&&its.toArray.size==its'.toArray.size):=by
    rw[uA,uA,l1,l2,<-AD];simp![eqD]
   rw[e1];exact R_ (λz=>hv (by rw[z])) ae
 |_=>simp[puD] at he
def NP (I:#[I]):∀(n:Nat) (d e:D) (v u:V) (a b:o6) (A:oh),dp d<=n->puD d=v_->puD e=v_->Is H d v->Is H e u->ik v a->ik u b->A.units+n<Vr->VD A s a b (eqD d e):=by
 intro n
 induction n with
 |zero=>
  intro d e v u a b A hn hd U h1 h2 Z r2 hu;cases d with
  |int z=>
   cases(show v= .int z from h1)
   erw[Z,t,rfl];exact B7 I U h2 r2 hu
  |str z=>simp[dp] at hn|tup xs=>simp[dp] at hn|_=>simp[puD] at hd
 |succ n ih=>
  intro d e v u a b A hn hd U h1 h2 Z r2 hu;let O:A.units<cLine:=UT (Vb _ _) hu;cases d with
  |int z=>
   cases(show v= .int z from h1)
   erw[Z,t,rfl];exact B7 I U h2 r2 O
  |str z=>
   obtain⟨rfl,_⟩:=(show v= .str z/\_ from h1)
   erw[Z,t,rfl];exact MB I U h2 r2 O
  |tup xs=>
   let hm:dpL xs<=n:=by
    have:dp (¬xs)=1+dpL xs:=by simp![dp]
    omega
   exact MA I hd U h1 h2 Z r2 O λx hx e v u a b k1 k2 k3 k4 k5 k6=>ih x e v u a b A.in1 ((wV xs).mp hm x hx) k1 k2 k3 k4 k5 k6 (by rw[v7];omega)
  |_=>simp[puD] at hd
end
section
variable {X:Cx}
abbrev trD:D->Bool
 | .str _=>v_| .tup xs=>puL xs|_=>Vi
def MY {d:D}(h:trD d=v_):puD d=true:=by
 cases d<;>simp_all [trD,puD]
variable {oq:oj (o3×Obj)}{σ:St}{H:Hp}{s:o7}{A:oh}{n:Nat}{its:oj o6}
def LL (I:#[I]){xs ys:oj D}{vs us:oj V}{its':oj o6}(hn:dpL xs<=n)(hd:puL xs=v_)(he:puL ys=v_)(hl:IsL H xs vs)(O:IsL H ys us)(rv:iq vs its)(U:iq us its')(hu:A.units+n<Vr):
  ∀j (a1:j<its.toArray.size) (a2:j<its'.toArray.size),VD A s its.toArray[j] its'.toArray[j] (eqD (xs.getD j .non) (ys.getD j .non)):=λj a1 a2=>by
 let l1:↑its=↑xs:=by rw[<-↑rv,↑hl]
 let l2:↑its'=↑ys:=by rw[<-↑U,↑O]
 let Z:j<↑xs:=by rw[<-l1];simpa using a1
 let j2:j<↑ys:=by rw[<-l2];simpa using a2
 obtain⟨v1,e1,i1⟩:=hl.get (i:=j) (d:=xs[j]) (by simp[Z])
 obtain⟨v2,e2,i2⟩:=O.get (i:=j) (d:=ys[j]) (by simp[j2])
 erw[rv.get e1,b1,f1,g1];erw[U.get e2,b2,f2,g2];let k1:its.toArray[j]=b1:=by
  have:=f1;rw[uf (by rwa[l1])] at this
  simpa using this
 let k2:its'.toArray[j]=b2:=by
  have:=f2;rw[uf (by rwa[l2])] at this
  simpa using this
 let d1:xs.getD j .non=xs[j]:=by simp[Gi,Z]
 let d2:ys.getD j .non=ys[j]:=by simp[Gi,j2]
 rw[k1,k2,d1,d2];exact NP I n _ _ _ _ _ _ A ((wV xs).mp hn _ (uR Z)) (wY (j:=j) hd (by simp[Z])) (wY (j:=j) he (by simp[j2])) i1 i2 g1 g2 hu
variable {e:D}{y:V}{u:o6}
def AeB (I:#[I]){d:D}{x:V}{v:o6}(h1:Is H d x)(h2:Is H e y)(p1:trD d=v_)(p2:trD e=v_)(hn:dp d<=60)(rx:ik x v)(ry:ik y u)(hu:A.units+64<Vr):
  p9 A s v u (eqD d e)/\rH A s v u (!(eqD) d e):=by
 let O:A.units<cLine:=by omega
 cases d with
 |str z=>
  obtain⟨rfl,_⟩:=(show x= .str z/\_ from h1)
  erw[rx,t,rfl];cases e with
  |str w=>
   obtain⟨rfl,_⟩:=(show y= .str w/\_ from h2)
   erw[ry,t2,rfl];exact[Pd _ _ _ _:pU _ _ _ _]
  |tup ys=>
   erw[id h2,p,us,rfl,hp,hl];cases ry;erw[I.tuple (.inl (.of hp)),its,_,q,_];exact[Pb _ _ q O:p_ _ _ q O]
  |_=>simp[trD] at p2
 |tup xs=>
  erw[id h1,p,vs,rfl,hp,hl];cases rx;erw[I.tuple (.inl (.of hp)),its,rv,q,_];cases e with
  |str w=>
   obtain⟨rfl,_⟩:=(show y= .str w/\_ from h2)
   erw[ry,t2,rfl];exact[pq _ _ q O:pR _ _ q O]
  |tup ys=>
   erw[id h2,p',us,rfl,aa,U];cases ry;erw[I.tuple (.inl (.of aa)),its',Z,q',_];let hm:dpL xs<=60:=by
    have:dp (¬xs)=1+dpL xs:=by simp![dp]
    omega
   let l1:↑its=↑xs:=by rw[<-↑rv,↑hl]
   let l2:↑its'=↑ys:=by rw[<-↑Z,↑U]
   let pe:=LL I (A:=A.in1) hm (by simpa [trD] using p1) (by simpa [trD] using p2) hl U rv Z (by rw[v7];omega)
   let e1:eqD (¬xs) (¬ys)=((Vu (min its.toArray.size its'.toArray.size)).all (λj=>eqD (xs.getD j .non) (ys.getD j .non))&&its.toArray.size==its'.toArray.size):=by
    rw[uA,uA,l1,l2,<-AD];simp![eqD]
   rw[e1];exact[V5 q q' O pe:rm q q' O pe]
  |_=>simp[trD] at p2
 |_=>simp[trD] at p1
inductive Ade (g:Bool->Bool)(x:V)(y:V)(H:Hp)(Q:VK):Prop
 |mk (d e:D)(_:Is H d x)(_:Is H e y)(_:trD d=v_)(_:trD e=v_)(_:dp d<=60)(_:Q (.bl (g (eqD d e))) H)
def BC (O:X.A.units+64<Vr):OpR X (Vs .Eq) (Ade id):=by
 exists 2,x,y,v,u,Q,I,U,Z,h;erw[h,d,e,h1,h2,p1,p2,hn,q];exact(AeB I h1 h2 p1 p2 hn U Z O).1 X.prog X.w X.xe _ (.bl _,H,I,1,q)
end
variable {X:Cx}
def JL:YN X (.builtin "len") (λxs H Q=>(∃z:Str,xs= [!z]/\↑z<=Vm/\Q (.int ↑z) H)\/∃p ys,xs= [-p]/\(SqL X.K H p ys\/SqT X.K H p ys)/\(↑ys<=Vm->Q (.int ↑ys) H)):=by
 exists 2,xs,us,Q,I,r,h;rcases h with⟨z,e,hz,q⟩|h
 .exact KO oq s σ H xs us Q I r (_,↑z,e,[hz:1],q)
 .exact ID oq s σ H xs us Q I r h
abbrev Ady (K:o0)(n:Nat)(t:TGs):TG:=λv σ H Q=>∃a xs,v= .ref a/\SqL K H a xs/\↑xs=n/\t xs σ H Q
def Ph {X:Cx}{es:oj Expr}{k:Nat}{t:TGs}{n:Nat}{pos:Pos}(Z:X.calm=v_)(h:PGs X es t)
  (hn:↑(G9 es X.env)=n) (O:(G9 es X.env).findIdx? (·.1)=U_):PG X (.Tuple es k pos) (Ady X.K n t):=by
 exists 2,v,u,Q,I,r,U;erw[U,a,xs,e1,hq,hl,U];subst e1;cases r;erw[I.list hq,its,rv,ht,hz];rw[assign_Tuple];refine A7 (HM ?_);unfold unpack;rw[O,hn,<-hl,show ↑xs=its.toArray.size by simp[rv.length]]
 refine A7 (VY (PySem.W.kun_itemsOf (I.ok.hd Z) ht.isList λh' hx=>?_));let I1:Inv X oq σ H {s with heap:=h'}:=I.kept (t':=s.toks) λb o e=>hx b o (vb (uK e)) e
 exact h oq _ σ H xs _ Q I1 (by simpa using rv) U
variable {w:og}{K:o0}{mg:Str->om o6}{base:o8}{f:o3}{A:oh}
def Abq {P:o9}{N:oj Str}{qual:Str}{scope:VB}{cd:o6}{outer:oj Env}{s₀:o7}{H₀:Hp}{E:XK}:
  XS (CX1 P w) (cxOf (CX1 P w) P w K mg base N qual scope f cd A outer s₀ H₀ E) E:=by
 intro oq σ H s e s' I h;erw[h,ea,C,a0,H',B,rfl,au,ae,htk,aw,al,am,hold,hE];show Vj (Vz P w) (A.deeper (Vp qual scope #[0,s₀] f cd)) (Fb (Vp qual scope #[0,s₀] f cd) (-ea)) (λ_ af=>CX1 P w outer H₀ s₀ E (-ea) af) (λe' af=>CX1 P w outer H₀ s₀ E e' af) _;let ax:(A.deeper (Vp qual scope #[0,s₀] f cd)).frames=u_ (Vp qual scope #[0,s₀] f cd::outer):=I.ok.frames;let ag:frs (Vp qual scope #[0,s₀] f cd::outer)=#[0,s₀]::frs outer:=rfl;let O:Un (frs outer) [] H₀ H s₀.heap s.heap:=I.base;let U:Un (frs (Vp qual scope #[0,s₀] f cd::outer)) [] H H' s.heap s'.heap:=aw;let aa:rY B (Vp qual scope #[0,s₀] f cd::outer) ea (-C) a0 s'.heap:=am;let ac:∀b o,s.heap.get? b=u_ o->b∉frs (Vp qual scope #[0,s₀] f cd::outer)->∃o',B.get? b=u_ o':=hold;let ay:=aa.2.2.1;let ad:∀b o,s₀.heap.get? b=u_ o->b∉frs outer->b∉frs (Vp qual scope #[0,s₀] f cd::outer):=λb o e hb hm=>by
  rw[ag] at hm;rcases Aa.mp hm with rfl|hm
  .exact A8 (uK e) (vT _)
  .exact hb hm
 let nd:∀b>frs outer,∀o,s'.heap.get? b=u_ o->∀vs,o.data≠ .fields vs:=λb hb o e=>by
  obtain⟨_,o',e',hn⟩:=ay.mem (show b>(Vp qual scope #[0,s₀] f cd::outer).filterMap (·.frame) from by rw[show(Vp qual scope #[0,s₀] f cd::outer).filterMap (·.frame)=frs (Vp qual scope #[0,s₀] f cd::outer) from rfl,ag];exact uh _ hb)
  rw[e] at e';cases e';exact hn
 refine wpAny_leaves_onW (base:=B) (L:=#[0,s₀]) ax rfl aa λaA ah ao=>?_;let aB:∀b o o',B.get? b=u_ o'->s'.heap.get? b=u_ o->aA.get? b=u_ o:=λb o o' Z e2=>by
  have:=aa.1 b o' Z;rw[e2] at this;cases this;exact ah.1 b o Z
 exists ea,C,a0,H',B,1,au.trans I.os,ae,htk,(?_,?_,?_,?_,?_,?_,?_),al,ah,?_,hE
 .intro b o Z hn hb hx;let e2:=O.keep b o Z hn hb hx;let ak:=O.free b o Z hn hx;let ap:=ad b o Z hb;let e3:=U.keep b o e2 ak ap hx;erw[ac b o e2 ap,o',e4];exact aB b o o' e4 e3
 .intro b o Z hn hb hx;erw[O.slot b o Z hn hb hx,sl,e2];let ak:=O.free b o Z hn hx;obtain⟨aC,e3⟩:=U.slot b _ e2 ak (by rw[ag];exact uh _ hb) hx
  erw[ao b _ e3 (nd b hb _ e3),aq,e4];exact[aq:e4]
 .intro b o Z hn hx;erw[O.there b o Z hx,o',e2];exact U.free b o' e2 (O.free b o Z hn hx) hx
 .intro b o Z hx;erw[O.there b o Z hx,o',e2];by_cases hb:b>frs outer
  .erw[U.there b o' e2 hx,o2,e3];erw[ao b _ e3 (nd b hb _ e3),aq,e4];exact[_:e4]
  .erw[ac b o' e2 (ad b o Z hb),o2,e3];exact[o2:ah.1 b o2 e3]
 .exact λb xs e=>U.tups b xs (O.tups b xs e)
 .exact λb o u e=>U.frzs b o u (O.frzs b o u e)
 .intro b ps e;erw[O.tbls b ps e,m1,Z];erw[U.tbls b _ Z,m2,e2];exact⟨m1++m2,by rwa[<-Fo]⟩
 .intro b o Z hb;obtain⟨o',e2⟩:=O.there b o Z (by simp)
  exact ac b o' e2 (ad b o Z hb)
def oz:XS (CX1 X.prog X.w) X E0:=λ_ _ _ _ _ _ _ h=>by
 erw[h,_,_,_,_,_,_,_,_,_,_,_,_,_,z];exact VA z
end L2
namespace L2
open PySem PyProof.Rows
variable {H:Hp}{p:o3}
def Tk.updD {xs ys:oj (Key×V)}(h:H p=u_ (.dK xs)):Tk H (upd H p (.dK ys)):=by
 exists λb zs e=>?_,λb zs e=>[zs:?_],λb zs e=>?_
 .rw[qj (λz=>by rw[z,h] at e;cases e)];exact e
 .rw[qj (λz=>by rw[z,h] at e;cases e)];exact e
 .by_cases z:b=p
  .exact⟨ys,by rw[z];exact qg⟩
  .exact⟨zs,by rwa[qj z]⟩
variable {C dx:o3}
def Tk.updI {O dx':o3}{xs ys:oj (Str×V)}(h:H p=u_ (.ins C dx xs)):Tk H (upd H p (.ins O dx' ys)):=
 ⟨λb zs e=>by rw[qj (λz=>by rw[z,h] at e;cases e)];exact e,λb zs e=>⟨zs,by rw[qj (λz=>by rw[z,h] at e;cases e)];exact e⟩,λb zs e=>⟨zs,by rw[qj (λz=>by rw[z,h] at e;cases e)];exact e⟩⟩
section
variable {X:Cx}
inductive O1 (x:V)(vs:List V)(H:Hp)(Q:VK):Prop
 |mk (z y:Str)(_:x= !z)(_:vs= [!y])(_:Q (.bl (GF z y)) H)
def Ey:MtM X "str.startswith" O1:=by
 exists 2,x,vs,v,us,Q,I,O,rv,h;erw[h,z,y,rfl,rfl,q];erw[O,t,rfl];erw[rv.one,u,rfl,t',rfl];exact SC.startswith (.bl (GF z y),H,I,1,q)
end
def Sv {d A:o3}{o:Obj}{H1:Hp}{tc:TT}{te:TE}{tl:St}{Q:VK}{kvs:oj (Key×V)}{ls:oj Str}(p:Str->Bool)(f:Str->V)(hd:H1 d=u_ (.frz o (.dK kvs)))(hk:kvs.map (·.1)=ls.map Vl)(hn:↑ls<=Vm)(hA:H1 A=U_)
  (U:∀z H (R:Bool->Hp->Prop),z>ls->ic H1 H->R (p z) H->tc (u_ (!z)::tl) H R)
  (Z:∀z H (R:VK),z>ls->ic H1 H->R (f z) H->te (u_ (!z)::tl) H R)
  (hQ:∀H',ic H1 H'->H' A=u_ (.lst ((ls.filter p).map f))->Q (-A) H'):Au A (Itd d o) (YB 0) tc te (U_::tl) H1 Q:=by
 let ac:↑kvs=↑ls:=by
  have:=A9 Gb hk
  simpa using this
 exists ↑ls,λi σ ys H=>(∃w,σ=w::tl)/\ys=((ls.take i).filter p).map f/\ic H1 H,hn,[[U_:1]:1:qf hA _],?_,?_
 .rintro i σ ys H hi ⟨⟨w,rfl⟩,rfl,sm⟩ O hy;exists [kvs:sm _ _ hd:()]
  rintro x H' ⟨rfl,hx⟩;let e:=hx kvs (sm _ _ hd);let e2:(kvs.map λp=>kV p.1)[i]? =u_ (V.str ls[i]):=by
   have:(kvs.map λp=>kV p.1)=(kvs.map (·.1)).map kV:=by rw[uP];rfl
   rw[this,hk,uP,uJ,uf hi]
   rfl
  rw[e2] at e;cases e;let et:ls.take (i+1)=ls.take i++ [ls[i]]:=by rw[vg,uf hi];rfl
  let aa:∀ys,ic H1 (upd H' A (.lst ys)):=λys b o' e=>by
   rw[qj (qk e hA)];exact sm _ _ e
  dsimp![YB,Gq];refine U ls[i] H' _ (uR hi) sm ?_;cases hp:p ls[i] with
  |true=>
   refine lD (Z ls[i] H' _ (uR hi) sm (O,⟨0⟩,?_,aa _));rw[et,UX,ur];simp[hp]
  |false=>
   refine iX (O,⟨0⟩,?_,sm);rw[et,UX,ur];simp[hp]
 .rintro σ ys H ⟨_,rfl,sm⟩ O;rw[U2] at O;exact[[kvs:sm _ _ hd:()]:hQ H sm O]
def Sr {K:o0}{a A:o3}{H1:Hp}{te:TE}{tl:St}{Q:VK}{ls:oj Str}(C:Nat->oj V->Hp->Prop)(ha:H1 a=u_ (.lst (ls.map V.str)))(hn:↑ls<=Vm)(hA:H1 A=U_)(h0:C 0 [] (upd H1 A (.lst [])))
  (aa:∀i z ys H,ls[i]? =u_ z->C i ys H->H A=u_ (.lst ys)->H a=u_ (.lst (ls.map V.str))->↑ys<=i->∀R:VK,(∀y H4,H4 A=u_ (.lst ys)->H4 a=u_ (.lst (ls.map V.str))->C (i+1) (ys++ [y]) (upd H4 A (.lst (ys++ [y])))->R y H4)->te (u_ (!z)::tl) H R)
  (hQ:∀ys H,C ↑ls ys H->H A=u_ (.lst ys)->Q (-A) H):Au A (Itl K a) (YB 0) nH te (U_::tl) H1 Q:=by
 let U:a≠A:=qk ha hA;refine(↑ls,λi σ ys H=>(∃w,σ=w::tl)/\C i ys H/\H a=u_ (.lst (ls.map V.str)),hn,⟨[U_:1],h0,by rwa[qj U]⟩,?_,?_)
 .rintro i σ ys H hi ⟨⟨w,rfl⟩,hc,Z⟩ O hy;let e0:(ls.map V.str)[i]? =u_ (V.str ls[i]):=by rw[uJ,uf hi];rfl
  exists (_,_,SqL.of Z,e0);rintro x H' ⟨rfl,hx⟩;let e:=hx _ (SqL.of Z);rw[e0] at e;cases e;dsimp![YB,nH,Gq];rw[A6 rfl];exact aa i ls[i] ys H' (uf hi) hc O Z hy _ λy H4 h4 h5 c4=>(h4,⟨0⟩,c4,by rwa[qj U])
 .rintro σ ys H ⟨_,hc,Z⟩ O;exact⟨⟨_,SqL.of Z,by simp⟩,hQ ys H hc O⟩
section
variable {X:Cx}{K:o0}{o e:Expr}{es:oj Expr}{to:TE}{t:TA}{name:Str}{apos cpos:Pos}{T id:String}{r:V->oj V->Hp->VK->Prop}
def Abp (hK:X.K=K)(pa:Tf T)(slot:Slot T name id)(ac:tj (.builtin id)=pure (.type "method_descriptor"))(hm:MtR X id r)(ho:PE X o to)(ha:PA X (e::es) t)
  (U:GH o name X.env (eval o X.env)=eval o X.env)
  (aa:((Vv cpos (Vn (e::es) X.env)).all (λx=> !(x).1)&&(Gn cpos (Gm [] X.env)).all (λx=>x.1.isSome)
   &&decide (↑(e::es)+↑([]:oj Gy)+(if([]:oj Gy).isEmpty then 0 else 1)<30))=v_)
  (Z:(apos.endLine==cpos.line)=v_) (hs:Vn (e::es) X.env=(Vi,eval e X.env)::Vn es X.env) (O:(Vv cpos (Vn es X.env)).any (·.1)=Vi):
  PE X (.Call (.Attribute o name apos) (e::es) [] cpos) (tBM K T r to t):=by
 subst hK;exact jr pa slot ac hm ho ha U aa Z hs O
end
def oC {α β:Type}{F:α->β->Prop}:∀{l₁:oj α}{l₂:oj β},Paired F l₁ l₂->∀{j:Nat}{a:α}{b:β},l₁[j]? =u_ a->l₂[j]? =u_ b->F a b
 |_,_,.nil,j,a,b,h,_=>by simp at h|_,_,.cons f r,0,a,b,h1,h2=>by
  cases h1;cases h2;exact f
 |_,_,.cons f r,j+1,a,b,h1,h2=>oC r (j:=j) (by simpa using h1) (by simpa using h2)
abbrev Nr:D->Bool
 | .non=>v_|d=>trD d
section
variable {X:Cx}
inductive AeI (x:V)(y:V)(H:Hp)(Q:VK):Prop
 |mk (d:D)(z:Str)(_:Is H d x)(_:y= !z)(_:↑z<=1000)(_:Nr d=v_)(_:dp d<=60)(_:Q (.bl (eqD d (!z))) H)
def Abu (hu:X.A.units+64<Vr):OpR X (Vs .Eq) AeI:=by
 exists 2,x,y,v,u,Q,I,O,U,h;erw[h,d,z,hd,rfl,hz,Z,hp,q];cases d with
 |non=>
  cases(show x= .non from hd)
  exact QL oq s σ H .non (!z) v u Q I O U ⟨1,by simpa [eqD] using q⟩
 |str a=>exact BC hu oq s σ H x _ v u Q I O U (_,!z,hd,⟨1,by rw[uE];omega⟩,Z,1,hp,q)|tup a=>exact BC hu oq s σ H x _ v u Q I O U (_,!z,hd,⟨1,by rw[uE];omega⟩,Z,1,hp,q)|_=>simp[Nr,trD] at Z
inductive AeG (K:PySem.W.Frag)(x:V)(y:V)(H:Hp)(Q:VK):Prop
 |mk (d:D)(p:Addr)(ls:List Str)(_:Is H d x)(_:y=-p)(_:(SqL K H p (ls.map V.str)\/SqT K H p (ls.map V.str)))(_:(∀z>ls,↑z<=1000))(_:Nr d=v_)(_:dp d<=60)(_:Q (.bl (ls.any λz=>eqD d (!z))) H)
def Ib (us:oj Str):(us.map V.str).all zW=true:=by
 rw[UD,Ub];exact λ_ _=>rfl
def Nm (hu:X.A.units+64<Vr):OpR X (Vs .In) (AeG X.K):=by
 exists 2,x,y,v,u,Q,I,rx,ry,h;erw[h,d,p,ls,hd,rfl,O,ac,hk,hp,q];cases d with
 |non=>
  cases(show x= .non from hd)
  refine QN oq s σ H .non _ v u Q I rx ry (p,0,O,1,Ib _,?_);let e:inV .non (ls.map V.str)=ls.any λz=>eqD .non (!z):=by
   unfold inV;rw[V9]
   rfl
  rwa[A4 ub,e]
 |str a=>
  erw[hd,rfl,_];refine QN oq s σ H _ _ v u Q I rx ry (p,0,O,1,Ib _,?_);let e:inV (!a) (ls.map V.str)=ls.any λz=>eqD (!a) (!z):=by
   unfold inV;rw[V9];refine A9 (λf=>ls.any f) (funext λz=>?_);show(z==a)=(a==z);rw[vK,beq_iff_eq,beq_iff_eq];exact eq_comm
  rwa[A4 ub,e]
 |tup xs=>
  let e:(ls.any λz=>eqD (¬xs) (!z))=false:=by
   rw[T4];intro z _;simp[eqD]
  rw[e] at q;erw[hd,pa,vs,rfl,ha,hl];cases rx;cases ry;erw[I.tuple (.inl (.of ha)),ad,ae,af,_];let ag:X.A.units<cLine:=by omega
  let U:∀{its:oj o6},iq (ls.map V.str) its->∀w>its,∀A:oh,A.units+1<Vr->VD A s w (-pa) false:=by
   intro its r w Z A hA;erw[List.mem_iff_getElem?.mp Z,j,hj];let aa:j<↑ls:=by
    have:=(Af.mp hj).1;have:=↑r;rw[uc] at this;omega
   obtain⟨u',e1,e2⟩:=r.get (i:=j) (x:=V.str ls[j]) (by rw[uJ,uf aa];rfl)
   rw[hj] at e1;cases e1;have:=NP I 1 (.str ls[j]) (¬xs) (.str ls[j]) (-pa) _ (-pa) A (by simp[dp]) rfl (by simpa [Nr,trD,puD] using hk) ⟨1,by have:=ac _ (uR aa);rw[uE];omega⟩ (pa,vs,1,ha,hl) e2 rfl ()
   simpa [eqD] using this
  rcases O with O|O
  .erw[I.list O,its,r,pl,hz];refine Rj (λ_=>Vi) pl.isList (λw Z=>U r w (by simpa using Z) _ ?_) (.bl _,H,I,1,?_)
   .first|omega|(rw[v7];omega)|(rw[v7,v7];omega)|(rw[v7,v7,v7];omega)
   .rw[show its.toArray.any (λ_=>Vi)=Vi by rw[Tv];exact List.any_eq_false.mpr λ_ _=>ub]
    exact q
  .erw[I.tuple O,its,r,pl,hz];refine RJ (λ_=>Vi) pl (λw Z=>U r w (by simpa using Z) _ ?_) (.bl _,H,I,1,?_)
   .first|omega|(rw[v7];omega)|(rw[v7,v7];omega)|(rw[v7,v7,v7];omega)
   .rw[show its.toArray.any (λ_=>Vi)=Vi by rw[Tv];exact List.any_eq_false.mpr λ_ _=>ub]
    exact q
 |_=>simp[Nr,trD] at hk
end
section
variable {X:Cx}{oq:oj (o3×Obj)}{σ:St}{H:Hp}{s:o7}
def NE {H:Hp}:∀{ds:oj D}{us:oj V}{j:Nat}{u:V},IsL H ds us->us[j]? =u_ u->∃d,ds[j]? =u_ d/\Is H d u
 | [],us,j,u,h,e=>by cases(show us= [] from h);simp at e|d::r,us,j,u,h,e=>by
  erw[h,v,q,rfl,h1,h2];cases j with
  |zero=>cases e;exact[d:1:h1]|succ j=>exact NE (ds:=r) h2 (by simpa using e)
end
end L2
namespace L2
open PySem PySem.Spec PyProof.Rows Builtin Builtin.Str
abbrev AaN (P:o9)(w:og)(K:o0)(mg:Str->om o6)(base:o8)(k:Nat)(tf:TE)(t:TA):TE:=λσ H Q=>tf σ H λv H1=>∃(f:o3) (fd:Vk) (ps:oj Str) (sp:Sp),v= .ref f/\
 FnOk P w K mg base CX0 k f fd ps sp/\Xe K fd ps []/\PySem.W.keepIn K (-f)=v_/\t σ H1 λvs H2=>sp vs H2 Q E0
def LJ {X:Cx}{o i e:Expr}{es:oj Expr}{O pos:Pos}{Z:TE}{t:TA}{k:Nat}{P:o9}{w:og}{K:o0}{mg:Str->om o6}{base:o8}(e1:X.prog=P/\X.w=w/\X.K=K/\X.mg=mg/\X.base=base)(hf:PE X (.Subscript o i O) Z)(hr:mD k X.A)(ha:PA X (e::es) t)
  (he:Vn (e::es) X.env=(Vi,eval e X.env)::Vn es X.env) (U:(Vv pos (Vn es X.env)).any (·.1)=Vi):
  PE X (.Call (.Subscript o i O) (e::es) [] pos) (AaN P w K mg base k Z t):=by
 erw[e1,rfl,rfl,rfl,rfl,rfl];exists 2,Q,I,h;show Vj _ _ (do Hn pos (<-eval (.Subscript o i O) X.env) [] (Vv pos (Vn (e::es) X.env)) (Gn pos (Gm [] X.env))) _ _ s
 refine A7 (thn (hf oq s σ H _ I h) λu s1 zq=>?_);erw[zq,v,H1,I1,rv,f,fd,ps,sp,ev,F,hb,hk,q];subst ev;obtain rfl:u=Vo f:=rv;refine Us (h₀:=X.base) I1.ok.mod.kin hk (thn (ha pos oq s1 σ H1 _ I1 q) λus s2 ⟨vs,H2,I2,r,q2⟩=>[I2.kIn:?_]) he U;exact Bp (ds:= []) (dvs:= []) F hr hb .nil qz I2 r (by rw[uU];exact q2)
def qag (z y:Str)(hi O:Nat):∀(l:oj Nat) (st:Array Nat×Nat),(V_ l st (Gx z y hi O)).run.fst.size<=st.fst.size+↑l
 | [],st=>uq _|a::l,st=>by
  rw[Uz];unfold Gx;split
  .refine uY (qag z y hi O l _) ?_;simp![Rc,uB];omega
  .refine uY (qag z y hi O l _) ?_;simp![uB];omega
def Se (z y:Str)(n:Nat):↑(occurrences z y 0 ↑z n)<=↑z+1:=by
 rw[RW];have:=qag z y ↑z n (Hd 0 (↑z+1-0)) (#[],0);rw[vo];refine uY this ?_;simp
abbrev spG (z y:Str):oj Str:=if(decide (↑z<↑y)||decide (VH z<VH y))=v_ then [z] else if(occurrences z y 0 ↑z (↑z+1)).isEmpty=v_ then [z] else partsBetween z (occurrences z y 0 ↑z (↑z+1)) ↑y
def OR (z y:Str):↑(spG z y)<=↑z+2:=by
 unfold spG;let h:=Se z y (↑z+1);split
 .simp
 .split
  .simp
  .simp![partsBetween,uc,List.length_zip,uB,uL,HN];omega
variable {z:Str}
def OQ {y p:Str}(h:p>spG z y):↑p<=↑z:=by
 unfold spG at h;split at h
 .rw[Uv] at h;subst h;exact uq _
 .split at h
  .rw[Uv] at h;subst h;exact uq _
  .simp![partsBetween,Ae] at h;erw[h,q,_,e];rw[<-e];exact strSub_length_le _ _ _
section
variable {X:Cx}
inductive O3 (x:V)(vs:List V)(H:Hp)(Q:VK):Prop
 |mk (z:_)(y:_)(_:x= !z)(_:vs= [!y])(_:0<↑y)(_:↑z<=1000)(_:∀p,H p=U_->Q (-p) (upd H p (.lst ((spG z y).map V.str))))
def EA:MtM X "str.split" O3:=by
 exists 2,x,vs,v,us,Q,I,rx,rv,h;erw[h,z,y,rfl,rfl,hy,hz,q];erw[rx,t,rfl];erw[rv.one,u,rfl,t',rfl];let Z:↑z<=sizeLine:=by rw[uE];omega
 let O:(↑y==0)=false:=by simp;omega
 let one:spG z y= [z]->∀(T:Nat),0<T->EP X oq σ Q (.ref #[0,s]) {s with heap:=s.heap.push {cls:= .type "list",data:= .seq [VJ z t].toArray},toks:=T}:=λe T hT=>by
  rw[e] at q;exact xp (ys:= [V.str z]) I (.cons (show ik (V.str z) _ from[t:1]) .nil) (by show 1<=Vm;decide) q
 cases h1:(decide (↑z<↑y)||decide (VH z<VH y)) with
 |true=>
  refine vQ vN (vX _ _ _) vF (Ue _ _) (Re z y t t' h1) ?_;exact one (by unfold spG;rw[A6 h1]) s.toks I.tk
 |false=>
  cases U:(occurrences z y 0 ↑z (↑z+1)).isEmpty with
  |true=>
   refine vQ vN (vX _ _ _) vF (Ue _ _) (rE z y t t' h1 O U) ?_;exact one (by unfold spG;rw[A4 (by rw[h1];decide),A6 U]) s.toks I.tk
  |false=>
   let hl:=OR z y;let e:spG z y=partsBetween z (occurrences z y 0 ↑z (↑z+1)) ↑y:=by unfold spG;rw[A4 (by rw[h1];decide),A4 (by rw[U];decide)]
   rw[e] at q hl;refine vQ vN (vX _ _ _) vF (Ue _ _) (FB z y t t' h1 O U Z (by rw[uE];omega)) ?_
   exact xp I (zo _ _) (by rw[uc,uE];omega) q
inductive Abe (K:PySem.W.Frag)(x:V)(vs:List V)(H:Hp)(Q:VK):Prop
 |mk (sep:Str)(p:Addr)(l:List Str)(_:x= !sep)(_:vs= [-p])(_:SqT K H p (l.map V.str))(_:(l.map (·.length)).sum+↑l*↑sep<=1000000)(_:Q (.str (Vq sep l)) H)
def Mi:MtM X "str.join" (Abe X.K):=by
 exists 2,x,vs,v,us,Q,I,Z,rv,h;erw[h,sep,p,l,rfl,rfl,hp,hz,q];erw[Z,t,rfl];erw[rv.one,u,rfl,ru];cases ru;erw[I.tuple hp,its,r,pl,hl];erw[wN r,ps,rfl,e2];let U:tooLong ((ps.map (·.1)).toArray.foldl (·+ ·.length+↑sep) 0)=false:=by
  rw[e2];have:=FU sep l;rw[this];unfold tooLong;refine uj ?_;rw[uE];omega
 refine vQ F.slot_str_join (vX _ _ _) F.entry_str_join (F.args_str_join_2 _ _) (meets_str_join_tuple sep t p ps U) ⟨(let⟨o,h1,h2,n,h3⟩:=pl;(o,n,h1,h2,h3)),?_⟩;let O:(glued sep (ps.map (·.1))).length<=sizeLine:=rg U
 match ps,e2,O with
 | [],e2,O=>
  subst e2;exact(O,.str _,H,I.tok _,⟨0⟩,q)
 | [a],e2,_=>
  subst e2;exact(.str _,H,I,[a.2:1],q)
 |a::b::r,e2,O=>
  subst e2;exists O,.str _,H,I.tok _,⟨0⟩;rw[rB];exact q
def Aa1:SlR X (λx lo hi H Q=>Ad6 x lo hi H Q\/Ad7 X.K x lo hi H Q):=Aa0.or DA
end
end L2
namespace L2
open PySem PySem.Spec PyProof.Rows
open Builtin.Int (intBits)
section
variable {X:Cx}
inductive AeH (K:PySem.W.Frag)(w:World)(x:V)(y:V)(H:Hp)(Q:VK):Prop
 |mk (z:_)(a:_)(r:_)(_:x= !z)(_:y=-a)(_:IN K w a)(_:PySem.W.nsIn K a z=u_ r)(_:Q (.bl r.isSome) H)
def Abt:OpR X (Vs .In) (AeH X.K X.w):=by
 exists 2,x,y,v,u,Q,I,U,Z,h;erw[h,z,a,r,rfl,rfl,[hs,es,n,O,hk],hn,q];erw[U,t,rfl];cases Z;let hm:=PySem.W.mapOf_K (prog:=X.prog) (w:=X.w) I.kIn O hk;refine Rs (Ti X.prog X.w z t) hs hm (.bl r.isSome,H,I.tok _,?_,q);rw[PySem.W.find_K O hn]
 rfl
end
end L2
namespace L2
open PySem PySem.Spec PyProof.Rows
mutual
noncomputable def nD:D->Bool
 | .non=>v_| .str _=>v_| .int _=>v_| .tup xs=>nL xs|_=>Vi
noncomputable def nL:oj D->Bool
 | []=>v_|x::r=>nD x&&nL r
end
def Ex:∀{xs:oj D}{j:Nat}{x:D},nL xs=v_->xs[j]? =u_ x->nD x=v_
 | [],_,_,_,e=>by simp at e|y::r,0,x,h,e=>by
  let h':nD y=v_/\nL r=true:=by simpa [nL] using h
  have:y=x:=by simpa using e
  exact this▸h'.1
 |y::r,j+1,x,h,e=>by
  let h':nD y=v_/\nL r=true:=by simpa [nL] using h
  exact Ex h'.2 (by simpa using e)
end L2
namespace AwZ
open PySem PySem.Spec PyProof.Rows
def tc_enum0 (a:o6):RK "enumerate" [[a]:[]]=pure Unit.unit:=by kernel_rfl
def nc_enum0 (a:o6):TM "enumerate.__new__" [[.type "enumerate",a]:[]]=pure Unit.unit:=by kernel_rfl
def enum0_made (l:o3)(its:Array o6):GZ (g_.«enumerate.__new__» [[.type "enumerate",-l]:[]]) (λ_ R s=>s.heap.IsTuple l its/\
   R (.ok (.ret (.ref (q1 s.heap l).objs.size))) {s with heap:=(q1 s.heap l).push {cls:= .type "enumerate",data:= .fields #[.none,.bool Vi,.ref #[0,s],VO 0,.none,.none]}}):=
 .of_wp λprog w A R s h=>by
  erw[s,O,g,d,tk,os];erw[h,U,h];let sub:=sub_enumerate;let h1:rR (tP (O,g,d,tk,os)) l its:=U
  wp_walk
  refine wpAny_stack_any λst=>uD ?_;split
  .rename_i c _ _ _ _ _
   cases(c==Gr "enumerate")
   .wp_walk using Ud h1
    exact[0:h]
   .wp_walk using Ud h1
    exact[0:h]
  .wp_walk using Ud h1
   exact[0:h]
end AwZ
namespace L2
open PySem PySem.Spec PyProof.Rows
section
variable {X:Cx}{oq:oj (o3×Obj)}{σ:St}{H:Hp}{s:o7}
abbrev AeP (K:o0)(te:TE):TI:=λσ H R=>te σ H λx H2=>∃a xs,x= .ref a/\SqT K H2 a xs/\(↑xs<=Vm->R (Ite K a 0) H2)
def Bz {U:oj Expr}{c:Nat}{tp p pos:Pos}{e:Expr}{te:TE}(hg:Gl X "enumerate")(hm:X.mg "enumerate"=U_)(he:PE X e te)(hs:Vn [e] X.env= [(Vi,eval e X.env)]):
  PI X (.Tuple U c tp) (.Call (.Name "enumerate" p) [e] [] pos) (AeP X.K te):=by
 exists 2,R,I,h;let ha:PA X [e] (Lc te AaE):=qb he qd hs;refine tE (wX I hg hm boot_enumerate (vJ (thn (ha pos oq s σ H (λvs H2=>match vs with| [x]=>∃a xs,x= .ref a/\SqT X.K H2 a xs/\(↑xs<=Vm->R (Ite X.K a 0) H2)|_=>False) I h) λus s2 zq=>?_) (by rw[hs];rfl) ()));erw[zq,vs,H2,I2,r1,q1]
 match vs,r1,q1 with
 | [x],r1,q1=>
 erw[q1,a,xs,rfl,hA,q];erw[jX r1,u,rfl,ru];cases ru;erw[I2.tuple hA,its,ra,pa,za];refine AwZ.new_kw (kw:= []) F.called_enumerate () (AwZ.tc_enum0 _) (AwZ.nc_enum0 _) (λobj=>F.args_object_init_2 _ _) F.entry_enumerate_new (AwZ.enum0_made a its.toArray) ⟨show s2.heap.IsTuple a its.toArray from pa,?_⟩
 let hz:(AwZ.q1 s2.heap a).objs.size=#[0,s2]+1:=vv ..;let O:G6 ((AwZ.q1 s2.heap a).push {cls:= .type "enumerate",data:= .fields #[.none,.bool Vi,.ref #[0,s2],VO 0,.none,.none]}) (AwZ.q1 s2.heap a).objs.size #[0,s2] 0 .none:=uH _ rfl;exists [_:O:1];refine FW (s:={s2 with heap:=_}) O ?_
 exists _,[(AwZ.q1 s2.heap a).objs.size,#[0,s2]],_,_,H2,1,I2.kept (t':=s2.toks) (λb o e=>ud _ (ud _ e)),C8 a _ _ 0,[[.none:O]:(_,ud _ (uH _ rfl),1,1):λe=>Uc (Va _) (hz.symm.trans e)],λx hx=>?_,q za;let Z:#[0,s2]<=x:=by
  simp![uF,uZ,uT] at hx;exact Aaw hz hx
 exact I2.fpOk Z (I2.hok.fresh Z)
mutual
noncomputable def eqN:D->D->Bool
 | .non,.non=>v_| .str a,.str b=>a==b| .int a,.int b=>a==b| .tup xs,.tup ys=>eqNL xs ys|_,_=>Vi
noncomputable def eqNL:oj D->oj D->Bool
 | [],[]=>v_|x::r,y::q=>eqN x y&&eqNL r q|_,_=>Vi
end
mutual
theorem qaB:∀{d e:D},nD d=v_->(eqN d e=v_↔d=e)
 | .non,e,_=>by cases e<;>simp[eqN]| .str a,e,_=>by cases e<;>simp[eqN]| .int a,e,_=>by cases e<;>simp[eqN]| .tup xs,¬ys,h=>by
  have:=eqNL_iff (xs:=xs) (ys:=ys) (by simpa [nD] using h)
  simp![eqN,this,D.tup.injEq]
 | .tup xs,.non,_=>by simp[eqN]| .tup xs,.bl _,_=>by simp[eqN]| .tup xs,.int _,_=>by simp[eqN]| .tup xs,.str _,_=>by simp[eqN]| .tup xs,.lst,_=>by simp[eqN]| .tup xs,.dct,_=>by simp[eqN]| .bl _,_,h=>by simp[nD] at h| .lst,_,h=>by simp[nD] at h| .dct,_,h=>by simp[nD] at h
theorem eqNL_iff:∀{xs ys:oj D},nL xs=v_->(eqNL xs ys=v_↔xs=ys)
 | [],[],_=>by simp[eqNL]| [],_::_,_=>by simp[eqNL]|_::_,[],_=>by simp[eqNL]|x::r,y::q,h=>by
  let h':nD x=v_/\nL r=true:=by simpa [nL] using h
  simp![eqNL,uG,qaB h'.1,eqNL_iff h'.2,UW]
end
mutual
theorem Is.detN {H:Hp}:∀{d e:D}{v:V},nD d=v_->nD e=v_->Is H d v->Is H e v->d=e
 | .non,e,v,_,he,h1,h2=>by
  cases(show v= .non from h1)
  cases e with
  |non=>rfl|str b=>obtain⟨q,_⟩:=(show V.non=V.str b/\_ from h2);cases q|int b=>cases(show V.non=V.int b from h2)|tup ys=>erw[h2,p,us,q,_];cases q|_=>simp[nD] at he
 | .str a,e,v,_,he,h1,h2=>by
  obtain⟨rfl,_⟩:=(show v= .str a/\_ from h1)
  cases e with
  |non=>cases(show V.str a=V.non from h2)|str b=>obtain⟨q,_⟩:=(show V.str a=V.str b/\_ from h2);cases q;rfl|int b=>cases(show V.str a=V.int b from h2)|tup ys=>erw[h2,p,us,q,_];cases q|_=>simp[nD] at he
 | .int a,e,v,_,he,h1,h2=>by
  cases(show v= .int a from h1)
  cases e with
  |non=>cases(show V.int a=V.non from h2)|str b=>obtain⟨q,_⟩:=(show V.int a=V.str b/\_ from h2);cases q|int b=>cases(show V.int a=V.int b from h2);rfl|tup ys=>erw[h2,p,us,q,_];cases q|_=>simp[nD] at he
 | .tup xs,e,v,hd,he,h1,h2=>by
  erw[id h1,p,vs,rfl,Z,hl];cases e with
  |non=>cases(show V.ref p=V.non from h2)|str b=>obtain⟨q,_⟩:=(show V.ref p=V.str b/\_ from h2);cases q|int b=>cases(show V.ref p=V.int b from h2)|tup ys=>
   erw[h2,p',us,q,O,U];cases q;rw[Z] at O;cases O;rw[IsL.detN (by simpa [nD] using hd) (by simpa [nD] using he) hl U]
  |_=>simp[nD] at he
 | .bl _,_,_,hd,_,_,_=>by simp[nD] at hd| .lst,_,_,hd,_,_,_=>by simp[nD] at hd| .dct,_,_,hd,_,_,_=>by simp[nD] at hd
theorem IsL.detN {H:Hp}:∀{xs ys:oj D}{vs:oj V},nL xs=v_->nL ys=v_->IsL H xs vs->IsL H ys vs->xs=ys
 | [],[],_,_,_,_,_=>rfl| [],_::_,_,_,_,h1,h2=>by
  cases(show _= [] from h1)
  erw[h2,v,r,q,_];cases q
 |_::_,[],_,_,_,h1,h2=>by
  cases(show _= [] from h2)
  erw[h1,v,r,q,_];cases q
 |x::xs,y::ys,_,hd,he,h1,h2=>by
  erw[h1,v,r,rfl,Z,a2];erw[h2,v',r',q,b1,b2];cases q;let O:nD x=v_/\nL xs=true:=by simpa [nL] using hd
  let U:nD y=v_/\nL ys=true:=by simpa [nL] using he
  rw[Is.detN O.1 U.1 Z b1,IsL.detN O.2 U.2 a2 b2]
end
def Ku:∀(xs ys:oj D),eqNL xs ys=((Vu (min ↑xs ↑ys)).all (λj=>eqN (xs.getD j .non) (ys.getD j .non))&&↑xs==↑ys)
 | [],[]=>by simp[eqNL]| [],_::_=>by simp[eqNL]|_::_,[]=>by simp[eqNL]|x::r,y::q=>by
  let O:=Ku r q;rw[uB,uB,show min (↑r+1) (↑q+1)=min ↑r ↑q+1 by omega,TX,vE,UD]
  let e:(Vu (min ↑r ↑q)).all ((λj=>eqN ((x::r).getD j .non) ((y::q).getD j .non))∘TL)=(Vu (min ↑r ↑q)).all λj=>eqN (r.getD j .non) (q.getD j .non):=by congr 1
  rw[e];let e2:(↑r+1==↑q+1)=(↑r==↑q):=by rw[vK];simp
  rw[e2,R7,<-O]
  rfl
variable {e:D}{A:oh}
def sA (I:#[I]){u:V}{b:o6}(U:nD e=v_)(h2:Is H e u)(O:ik u b)(Z:A.units<Vr):VD A s .none b (eqN .non e):=by
 cases e with
 |non=>
  cases(show u= .non from h2)
  cases O;exact tK _
 |str y=>
  obtain⟨rfl,_⟩:=(show u= .str y/\_ from h2)
  erw[O,t2,rfl];exact re _ _
 |int y=>
  cases(show u= .int y from h2)
  erw[O,t2,rfl];exact Rf _ _
 |tup ys=>
  erw[id h2,p,us,rfl,hp,hl];cases O;erw[I.tuple (.inl (.of hp)),its,_,q,_];exact pW q Z
 |_=>simp[nD] at U
variable {z:Str}
def Ii (I:#[I]){t:Tok}{u:V}{b:o6}(U:nD e=v_)(h2:Is H e u)(O:ik u b)(Z:A.units<Vr):VD A s (.str z t) b (eqN (!z) e):=by
 cases e with
 |non=>
  cases(show u= .non from h2)
  cases O;exact Fs _ _
 |str y=>
  obtain⟨rfl,_⟩:=(show u= .str y/\_ from h2)
  erw[O,t2,rfl];exact tO _ _ _ _
 |int y=>
  cases(show u= .int y from h2)
  erw[O,t2,rfl];exact UO _ _ _ _
 |tup ys=>
  erw[id h2,p,us,rfl,hp,hl];cases O;erw[I.tuple (.inl (.of hp)),its,_,q,_];exact rM _ _ q Z
 |_=>simp[nD] at U
def sB (I:#[I]){z:Int}{t:Tok}{u:V}{b:o6}(U:nD e=v_)(h2:Is H e u)(O:ik u b)(Z:A.units<Vr):VD A s (.int z t) b (eqN (.int z) e):=by
 cases e with
 |non=>
  cases(show u= .non from h2)
  cases O;exact Rz _ _
 |str y=>
  obtain⟨rfl,_⟩:=(show u= .str y/\_ from h2)
  erw[O,t2,rfl];exact UN _ _ _ _
 |int y=>
  cases(show u= .int y from h2)
  erw[O,t2,rfl];exact Fj _ _ _ _
 |tup ys=>
  erw[id h2,p,us,rfl,hp,hl];cases O;erw[I.tuple (.inl (.of hp)),its,_,q,_];exact FE _ _ q Z
 |_=>simp[nD] at U
def DV {xs ys:oj D}{vs us:oj V}{its its':oj o6}{A:oh}(hd:nL xs=v_)(he:nL ys=v_)(hl:IsL H xs vs)(O:IsL H ys us)(rv:iq vs its)(U:iq us its')
  (ih:∀x>xs,∀(e:D) (v u:V) (a b:o6),nD x=v_->nD e=v_->Is H x v->Is H e u->ik v a->ik u b->VD A s a b (eqN x e)):
  ∀j (a1:j<its.toArray.size) (a2:j<its'.toArray.size),VD A s its.toArray[j] its'.toArray[j] (eqN (xs.getD j .non) (ys.getD j .non)):=λj a1 a2=>by
 let l1:↑its=↑xs:=by rw[<-↑rv,↑hl]
 let l2:↑its'=↑ys:=by rw[<-↑U,↑O]
 let Z:j<↑xs:=by rw[<-l1];simpa using a1
 let j2:j<↑ys:=by rw[<-l2];simpa using a2
 obtain⟨v1,e1,i1⟩:=hl.get (i:=j) (d:=xs[j]) (by simp[Z])
 obtain⟨v2,e2,i2⟩:=O.get (i:=j) (d:=ys[j]) (by simp[j2])
 erw[rv.get e1,b1,f1,g1];erw[U.get e2,b2,f2,g2];let k1:its.toArray[j]=b1:=by
  have:=f1;rw[uf (by rwa[l1])] at this
  simpa using this
 let k2:its'.toArray[j]=b2:=by
  have:=f2;rw[uf (by rwa[l2])] at this
  simpa using this
 let d1:xs.getD j .non=xs[j]:=by simp[Gi,Z]
 let d2:ys.getD j .non=ys[j]:=by simp[Gi,j2]
 rw[k1,k2,d1,d2];exact ih _ (uR Z) _ _ _ _ _ (Ex (j:=j) hd (by simp[Z])) (Ex (j:=j) he (by simp[j2])) i1 i2 g1 g2
def Ih (I:#[I]){xs:oj D}{e:D}{v u:V}{a b:o6}{A:oh}(hd:nD (¬xs)=v_)(he:nD e=v_)(h1:Is H (¬xs) v)(h2:Is H e u)(r1:ik v a)(O:ik u b)(hu:A.units<Vr)
  (ih:∀x>xs,∀(e:D) (v u:V) (a b:o6),nD x=v_->nD e=v_->Is H x v->Is H e u->ik v a->ik u b->VD A.in1 s a b (eqN x e)):VD A s a b (eqN (¬xs) e):=by
 erw[id h1,p,vs,rfl,hp,hl];cases r1;erw[I.tuple (.inl (.of hp)),its,rv,q,_];cases e with
 |non=>
  cases(show u= .non from h2)
  cases O;exact pX q hu
 |str y=>
  obtain⟨rfl,_⟩:=(show u= .str y/\_ from h2)
  erw[O,t2,rfl];exact rh _ _ q hu
 |int y=>
  cases(show u= .int y from h2)
  erw[O,t2,rfl];exact FS _ _ q hu
 |tup ys=>
  by_cases hv:V.ref p=u
  .have:=Is.detN (e:=¬ys) hd he h1 (hv▸h2);subst hv;cases O;rw[<-this,(qaB hd).mpr rfl];exact tK _
  .erw[id h2,p',us,rfl,aa,U];cases O;erw[I.tuple (.inl (.of aa)),its',Z,q',_];let l1:↑its=↑xs:=by rw[<-↑rv,↑hl]
   let l2:↑its'=↑ys:=by rw[<-↑Z,↑U]
   let ac:=V5 (e:=λj=>eqN (xs.getD j .non) (ys.getD j .non)) q q' hu (DV (by simpa [nD] using hd) (by simpa [nD] using he) hl U rv Z ih)
   let e1:eqN (¬xs) (¬ys)=((Vu (min its.toArray.size its'.toArray.size)).all (λj=>eqN (xs.getD j .non) (ys.getD j .non))&&its.toArray.size==its'.toArray.size):=by
    rw[uA,uA,l1,l2,<-Ku];simp![eqN]
   rw[e1];exact R_ (λz=>hv (by rw[z])) ac
 |_=>simp[nD] at he
def NO (I:#[I]):∀(n:Nat) (d e:D) (v u:V) (a b:o6) (A:oh),dp d<=n->nD d=v_->nD e=v_->Is H d v->Is H e u->ik v a->ik u b->A.units+n<Vr->VD A s a b (eqN d e):=by
 intro n
 induction n with
 |zero=>
  intro d e v u a b A hn hd U h1 h2 Z r2 hu;cases d with
  |non=>
   cases(show v= .non from h1)
   cases Z;exact sA I U h2 r2 hu
  |int z=>
   cases(show v= .int z from h1)
   erw[Z,t,rfl];exact sB I U h2 r2 hu
  |str z=>simp[dp] at hn|tup xs=>simp[dp] at hn|_=>simp[nD] at hd
 |succ n ih=>
  intro d e v u a b A hn hd U h1 h2 Z r2 hu;let O:A.units<cLine:=UT (Vb _ _) hu;cases d with
  |non=>
   cases(show v= .non from h1)
   cases Z;exact sA I U h2 r2 O
  |int z=>
   cases(show v= .int z from h1)
   erw[Z,t,rfl];exact sB I U h2 r2 O
  |str z=>
   obtain⟨rfl,_⟩:=(show v= .str z/\_ from h1)
   erw[Z,t,rfl];exact Ii I U h2 r2 O
  |tup xs=>
   let hm:dpL xs<=n:=by
    have:dp (¬xs)=1+dpL xs:=by simp![dp]
    omega
   exact Ih I hd U h1 h2 Z r2 O λx hx e v u a b k1 k2 k3 k4 k5 k6=>ih x e v u a b A.in1 ((wV xs).mp hm x hx) k1 k2 k3 k4 k5 k6 (by rw[v7];omega)
  |_=>simp[nD] at hd
inductive Abi (g:Bool->Bool)(x:V)(y:V)(H:Hp)(Q:VK):Prop
 |mk (ds es:List D)(_:Is H (¬ds) x)(_:Is H (¬es) y)(_:nL ds=v_)(_:nL es=v_)(_:dpL ds<=60)(_:Q (.bl (g (eqNL ds es))) H)
variable {ds:oj D}{y:V}{u:o6}
def Ad5 (I:#[I]){es:oj D}{x:V}{v:o6}(h1:Is H (¬ds) x)(h2:Is H (¬es) y)(hn:nL ds=v_)(Z:nL es=v_)(hd:dpL ds<=60)(rx:ik x v)(ry:ik y u)(hu:X.A.units+64<Vr):
  p9 X.A s v u (eqNL ds es)/\rH X.A s v u (!(eqNL) ds es):=by
 erw[id h1,p,vs,rfl,hp,hl];erw[id h2,p',us,rfl,aa,O];cases rx;cases ry;erw[I.tuple (.inl (.of hp)),its,rv,q,_];erw[I.tuple (.inl (.of aa)),its',U,q',_];let l1:↑its=↑ds:=by rw[<-↑rv,↑hl]
 let l2:↑its'=↑es:=by rw[<-↑U,↑O]
 let pe:=DV (A:=X.A.in1) hn Z hl O rv U λx hx e v u a b k1 k2 k3 k4 k5 k6=>NO I 60 x e v u a b X.A.in1 ((wV ds).mp hd x hx) k1 k2 k3 k4 k5 k6 (by rw[v7];omega)
 let e1:=V5 (e:=λj=>eqN (ds.getD j .non) (es.getD j .non)) q q' () pe
 let e2:=rm (e:=λj=>eqN (ds.getD j .non) (es.getD j .non)) q q' () pe
 rw[uA,uA,l1,l2,<-Ku] at e1 e2;exact[e1:e2]
def kY (U:X.A.units+64<Vr):OpR X (Vs .Eq) (Abi id):=by
 exists 2,x,y,v,u,Q,I,Z,ry,h;erw[h,ds,es,h1,h2,hn,O,hd,q];exact(Ad5 I h1 h2 hn O hd Z ry U).1 X.prog X.w X.xe _ (.bl _,H,I,1,q)
def WU (U:X.A.units+64<Vr):OpR X (Vs .NotEq) (Abi not):=by
 exists 2,x,y,v,u,Q,I,Z,ry,h;erw[h,ds,es,h1,h2,hn,O,hd,q];exact(Ad5 I h1 h2 hn O hd Z ry U).2 X.prog X.w X.xe _ (.bl _,H,I,1,q)
end
end L2
namespace L2
open PySem PyProof.Rows
section
variable {X:Cx}{oq:oj (o3×Obj)}{σ:St}{H:Hp}{s:o7}
def Ml {pl:Sem Bool}{k:Nat}{C f:o3}{fd:Vk}{ps:oj Str}{sp:Sp}{m:Str}{o:Expr}{apos pos:Pos}{e:Expr}{es:oj Expr}{ta:TE}{t:TA}{Q:VK}{E:XK}(he:PE X.nox o ta)(c:Cls X.K C)(hm:Aap X.K C m f)(F:FnOk X.prog X.w X.K X.mg X.base (CX1 X.prog X.w) k f fd ps sp)(hr:mD k X.A)
  (hb:Xe X.K fd ps []) (ha:PA X.nox (e::es) t) (I:#[I]) (h:ta σ H λx H1=>∃a dx fs,x= .ref a/\H1 a=u_ (.ins C dx fs)/\fs.lookup m=U_/\t σ H1 λvs H2=>sp (x::vs) H2 Q E)
  (aa:Vn (e::es) X.env=(Vi,eval e X.env)::Vn es X.env) (ac:(Vv pos (Vn es X.env)).any (·.1)=Vi)
  (ht:eval (.Call (.Attribute o m apos) (e::es) [] pos) X.env=(do
   let ov<-eval o X.env
   GJ apos.atName
   let(f,first)<-Gg [ov] (GU ov m pl)
   Hn pos f first (Vv pos (Vn (e::es) X.env)) (Gn pos (Gm [] X.env)))):
  Vj #[X,X] X.A (eval (.Call (.Attribute o m apos) (e::es) [] pos) X.env) (EP X oq σ Q) (Cat X oq σ E) s:=by
 refine PySem.W.methodCall_KW (pl:=pl) (vz (he oq s σ H _ (I.wish _) h) (λu s1 h1=>?_) λ_ _ z=>z.elim) ht;erw[h1,x,H1,ad,rx,a,dx,fs,ex,ea,l,q];let I1:Inv X oq σ H1 s1:=ad.unwish;subst ex;obtain rfl:u=Vo a:=rx;refine Zj I1 ea c hm l ?_;refine Us (first:= [-a]) (h₀:=X.base) I.ok.mod.kin hm.kp (vz (ha pos oq s1 σ H1 _ (I1.wish _) q) (λus s2 h2=>?_) λ_ _ z=>z.elim) aa ac;erw[h2,vs,H2,ae,r,q2];let O:Inv X oq σ H2 s2:=ae.unwish;exists O.kIn;let r2:iq (V.ref a::vs) (Vo a::us):= .cons rfl r;let hl:↑(Vo a::us)=↑ps:=by rw[<-↑r2];exact F.len _ _ _ _ q2
 let U:=hb s2 (Vo a::us) O.kIn (by rwa[uU])
 rw[uU] at U;refine Hl (Uy (F.run X.A X.stack s2 H2 [Vo a::us:[]] (Vo a::us) (V.ref a::vs) Q E hr O.env0 U r2 q2 (.inl O.tk)) λr s' Z=>?_);cases r with
 |error e=>exact(H2,s2,O,Z)|ok fl=>
  cases fl with
  |ret u=>exact O.after Z|next=>exact VA Z|brk=>exact VA Z|cont=>exact VA Z
abbrev AcT (C:o3)(m:Str)(sp:Sp)(ta:TE)(t:TA)(Cc:o3)(ts:TS):TS:=λD σ H=>ta σ H λx H1=>∃a dx fs,x= .ref a/\H1 a=u_ (.ins C dx fs)/\fs.lookup m=U_/\t σ H1 λvs H2=>sp (x::vs) H2 (λ_ H3=>D.nx σ H3) (λ_ C' H3=>C'=u_ Cc/\ts D σ H3)
def O6 {pl:Sem Bool}{k:Nat}{C f:o3}{fd:Vk}{ps:oj Str}{sp:Sp}{m c:Str}{o:Expr}{apos np cpos U Z pos:Pos}{e:Expr}{es:oj Expr}{ta:TE}{t:TA}{Cc C':o3}{b₀:Stmt}{O:oj Stmt}{ts:TS}(ho:PE X.nox o ta)(cl:Cls X.K C)(hm:Aap X.K C m f)(F:FnOk X.prog X.w X.K X.mg X.base (CX1 X.prog X.w) k f fd ps sp)(hr:mD k X.A)
  (hb:Xe X.K fd ps []) (ha:PA X.nox (e::es) t) (aa:X.stack=X.env::X.outer/\X.env.frame=u_ X.env.locals) (ac:Gl X c) (ad:X.mg c=u_ (-C'))
  (hx:PySem.W.exmOne X.K (-Cc) (-C')=u_ v_) (hs:∀ee xe,PSs (X.marked ee xe) (b₀::O) ts) (ae:(c==("__debug__":Str))=Vi)
  (he:Vn (e::es) X.env=(Vi,eval e X.env)::Vn es X.env) (af:(Vv cpos (Vn es X.env)).any (·.1)=Vi) (ag:He (.Call (.Attribute o m apos) (e::es) [] cpos) U_ U.line X.env=pure Vi)
  (ht:eval (.Call (.Attribute o m apos) (e::es) [] cpos) X.env=(do
   let ov<-eval o X.env
   GJ apos.atName
   let(f,first)<-Gg [ov] (GU ov m pl)
   Hn cpos f first (Vv cpos (Vn (e::es) X.env)) (Gn cpos (Gm [] X.env)))):
  PS X (.Try [.Expr (.Call (.Attribute o m apos) (e::es) [] cpos) U] [.ExceptHandler (u_ (.Name c np)) U_ (b₀::O) Z] [] [] pos) (AcT C m sp ta t Cc ts):=by
 exists 2,D,I,h;refine wpAny_Try_except (Tp ?_);refine vz (r6 (Q:=SP X oq D) (vz (Ml ho cl hm F hr hb ha I h he af ht) (λv s1 ⟨y,H1,I1,r1,q1⟩=>(σ,H1,I1,q1)) λ_ _ z=>z) I.quiet ag) (λfl s1 q=>?_) λe' s1 q=>MH q aa ac ad hx hs ae;cases fl with
 |next=>exact Ux (Ux q)|ret v=>exact q|brk=>exact q|cont=>exact q
end
end L2
namespace L2
open PySem PySem.Spec PyProof.Rows
structure FF (K:o0)(mg:Str->om o6)(x:Str)(st:Stmt)(ps:oj Str)(f:o3)(fd:Vk):Prop where
 F:Fun K x x st f fd
 b:Xe K fd ps []
 m:mg x=u_ (-f)
structure FM (K:o0)(C:o3)(x q:Str)(st:Stmt)(ps:oj Str)(f:o3)(fd:Vk):Prop where
 F:Fun K x q st f fd
 b:Xe K fd ps []
 h:Aap K C x f
abbrev FZ (K:o0)(x q:Str)(st:Stmt)(f:o3):Prop:=∃(oc kV dc pm cd ct:o6) (od an:om o3) (sl:Array (om o6)),K.lookup f=u_ (oc,od,.func (PySem.W.fnOf x q (YM st) (Yf st) (qh st) .none kV dc pm an cd ct),sl)/\PySem.W.codeIn K cd q=v_/\PySem.W.keepIn K (-f)=v_
abbrev FZg (K:o0)(x:Str)(st:Stmt)(f:o3):Prop:=PySem.W.nsIn K VF x=u_ (u_ (-f))/\FZ K x x st f
abbrev FZm (K:o0)(C:o3)(x q:Str)(st:Stmt)(f:o3):Prop:=PySem.W.findIn K (-C) x=u_ (u_ (-f))/\PySem.W.isFn K (-f)=v_/\FZ K x q st f
abbrev BOk (x q:Str)(st:Stmt)(ps:oj Str):Prop:=∀(kV doc pm:o6) (an:om o3) (cdv ct:o6) (us:oj o6),↑us=↑ps->Gz (PySem.W.fnOf x q (YM st) (Yf st) (qh st) .none kV doc pm an cdv ct) [us:[]]=pure (ps.zip us)
variable {K:o0}{h:o8}{mg:Str->om o6}{x:Str}{st:Stmt}{f:o3}
def Qb (X:K.In h)(G:h.Ns VF mg)(z:FZg K x st f)(ps:oj Str)(O:BOk x x st ps):∃fd,FF K mg x st ps f fd:=by
 erw[z,a,oc,kV,dc,pm,U,ct,od,an,sl,l,c,k];let F:=NK (st:=st) l c k;exact(_,F,F.binds O,uW X G a)
variable {C:o3}
def yX {q:Str}(z:FZm K C x q st f)(ps:oj Str)(O:BOk x q st ps):∃fd,FM K C x q st ps f fd:=by
 erw[z,a,i,oc,kV,dc,pm,U,ct,od,an,sl,l,c,k];let F:=NK (st:=st) l c k;exact(_,F,F.binds O,[a:i:k])
variable {fd:Vk}
def FF.law {ps:oj Str}(T:FF K mg x st ps f fd){y:Str}(h:∀(kV doc pm:o6) (an:om o3) (cdv ct u:o6),Gz (PySem.W.fnOf x x (YM st) (Yf st) (qh st) .none kV doc pm an cdv ct) [[u]:[]]=pure [(y,u)])(s:o7)(u:o6):hZ s fd [[u]:[]] [(y,u)]:=by
 erw[T.F.ex,oc,od,kV,doc,pm,an,cdv,ct,osl,rfl,lk,O];exact .of_eq (h kV doc pm an cdv ct u)
abbrev txt? (u:o6):om Str:=match u with
 | .str z _=>u_ z|_=>U_
abbrev TZ (K:o0)(q:o3)(l:oj Str):Prop:=∃(d:om o3) (i:Array o6) (n:Nat) (sl:Array (om o6)),K.lookup q=u_ (.type "tuple",d,.seq i n,sl)/\i.toList.map txt? =l.map u_
def Df:∀{l:oj Str}{us:oj o6},us.map txt? =l.map u_->iq (l.map V.str) us
 | [],[],_=> .nil|z::l,u::us,h=>by
  rw[uw,uw] at h;injection h with h1 h2
  cases u with
  |str y t=>
   have:y=z:=uO h1;subst this;exact .cons [t:1] (Df h2)
  |_=>cases h1
 | [],_::_,h=>by simp at h|_::_,[],h=>by simp at h
variable {H:Hp}{q:o3}{l:oj Str}
def TZ.sq (h:TZ K q l)(hz:↑l<=100):SqT K H q (l.map V.str):=by
 erw[h,d,its,n,sl,U,e];let O:its.size=↑l:=by rw[<-vo];simpa using A9 Gb e
 exact .inr (_,its,n,U,1,1,by rw[O];exact V7 (zn ()),Df e)
abbrev TZn (K:o0)(a:o3)(x:Str)(l:oj Str):Prop:=∃q,PySem.W.nsIn K a x=u_ (u_ (-q))/\TZ K q l
section
variable {X:Cx}
def Ba:∀{xs:oj V}{us:oj o6},iq xs us->iq xs.reverse us.reverse
 |_,_,.nil=> .nil|_,_,.cons h t=>by
  rw[vR,vR];exact(Ba t).append (.cons h .nil)
end
end L2
namespace L2
open PySem PyProof.Rows
variable {σ:St}{H:Hp}
def qC {t u:TS}{D:nc}(h:∀N:St->Hp->Prop,(∀O H',u D O H'->N O H')->t {D with nx:=N} σ H):nA t u D σ H:=h (u D) λ_ _ h=>h
def wE {xs:oj V}{us:oj o6}(r:iq xs us):∀is:oj Nat,iq (is.filterMap (xs[·]?)) (is.filterMap (us[·]?))
 | []=> .nil|i::is=>by
  rw[U5,U5];let O:=↑r;cases e:xs[i]? with
  |none=>
   have:us[i]? =none:=Tg (by have:=List.getElem?_eq_none_iff.mp e;omega)
   rw[this];exact wE r is
  |some x=>
   erw[r.get e,u,e2,g];rw[e2];exact .cons g (wE r is)
section
variable {X:Cx}
inductive AdM (K:PySem.W.Frag)(Q:VK)(x:V)(H2:Hp):Prop
 |mk (a:_)(xs:_)(_:x=-a)(_:SqL K H2 a xs)(_:∀ys p,↑ys<=↑xs->(∀y>ys,y>xs)->H2 p=U_->Q (-p) (upd H2 p (.lst ys)))
abbrev Aer (K:o0)(te:TE)(tl:TO):TE:=λσ H Q=>te σ H λx H1=>tl σ H1 λ_ H2=>AdM K Q x H2
def LG {e:Expr}{te:TE}{lo:om Expr}{tl:TO}{k:Int}{j pos p1 p2}(hk:k≠0)(he:PE X e te)(hl:PO X lo tl)(U:GR (.Slice lo U_ (u_ (.Constant (.int k) j p1)) p2) Vi=λv u=>Hv [v,u] (VQ v u)):PE X (.Subscript e (.Slice lo U_ (u_ (.Constant (.int k) j p1)) p2) pos) (Aer X.K te tl):=by
 exists 2,Q,I,h;refine Hf (thn (he oq s σ H _ I h) λv s1 zq=>?_);erw[zq,x,H1,I1,r1,q1];refine Td (thn (hl oq s1 σ H1 _ I1 q1) λvl s2 zq=>?_);erw[zq,lv,H2,I2,pl,q2];rw[H_];refine uD ?_;rw[TD];refine thn (qi (i:=k) oq s2 σ H2 (λy H3=>y= .int k/\H3=H2) I2 [1:1]) λu O h3=>?_;erw[h3,y,H3,I3,r3,rfl,rfl];erw[r3,tk,rfl];erw[q2,a,xs,rfl,hH,q];cases r1;let I4:Inv X oq σ H3 {O with heap:=O.heap.push {cls:= .type "slice",data:= .fields #[vl,.none,.int k tk]}}:=I3.kept (t':=O.toks) λb ob q=>ud _ q
 erw[I4.list hH,its,r,Z,hz];let aa:its.toArray.size=↑xs:=by rw[uA];exact r.length.symm
 show Vj #[X,X] X.A (Hk e (.Slice lo U_ (u_ (.Constant (.int k) j p1)) p2) (-a) (.ref #[0,O])) (EP X oq σ Q) X.xe {O with heap:=O.heap.push {cls:= .type "slice",data:= .fields #[vl,.none,.int k tk]}}
 refine Hm (ops:= [-a,.ref #[0,O]]) Z.isList.typeIs slot_list_getitem.lookup ?_ (by rw[U])
 refine UL (st:=u_ k) Z.isList (Fe ..) pl .none (.int k tk) (by simpa using hk) ?_ (by rwa[aa])
 let hsz:=slicePick_size_le its.toArray lv U_ (u_ k);unfold Tu at hsz⊢;generalize sliceRange (Gf lv U_ (u_ k) its.toArray.size).1 (Gf lv U_ (u_ k) its.toArray.size).2.1 (Gf lv U_ (u_ k) its.toArray.size).2.2=is at hsz⊢;let ep:is.filterMap (its.toArray[·]?)=is.filterMap (its[·]?):=by simp
 rw[ep] at hsz⊢;let vp:=wE r is;let ac:(is.filterMap (xs[·]?)).length<=↑xs:=by
  rw[↑vp];rwa[uA,uA,<-↑r] at hsz
 exists .ref _,_,I4.laid (t':=O.toks) (o:= .lst (is.filterMap (xs[·]?))) (λb ob q=>ud _ q) (uq _) (uY ac hz,_,(0),vp,uH _ rfl),1,q _ _ ac (λy hy=>?_) (I4.hok.fresh (uq _));erw[List.mem_filterMap.mp hy,i,_,hi];exact uQ hi
end
end L2
namespace L2
open PySem PySem.Spec PyProof.Rows
section
variable {X:Cx}
inductive Acv (K:PySem.W.Frag)(Q:VK)(x:V)(H1:Hp):Prop
 |mk (a:_)(xs:_)(_:x=-a)(_:SqL K H1 a xs)(_:∀p,H1 p=U_->Q (-p) (upd H1 p (.lst xs.reverse)))
abbrev AcU (K:o0)(te:TE):TE:=λσ H Q=>te σ H λx H1=>Acv K Q x H1
def Pj {e:Expr}{te:TE}{pos p2:Pos}{e1:Expr}{t1:TE}(he:PE X e te)(h1:PE X e1 t1)(ht:∀σ H Q,Q (.int (-1)) H->t1 σ H Q)(O:GR (.Slice U_ U_ (u_ e1) p2) Vi=λv u=>Hv [v,u] (VQ v u)):PE X (.Subscript e (.Slice U_ U_ (u_ e1) p2) pos) (AcU X.K te):=by
 exists 2,Q,I,h;refine Hf (thn (he oq s σ H _ I h) λv s1 zq=>?_);erw[zq,x,H1,I1,r1,q1];refine Td ?_;rw[H_];refine uD ?_;refine uD ?_;rw[TD];refine thn (h1 oq s1 σ H1 _ I1 (ht σ H1 (λy H2=>y= .int (-1)/\H2=H1) [1:1])) λu s2 h2=>?_;erw[h2,y,H2,I2,r2,rfl,rfl];erw[r2,tk,rfl];erw[q1,a,xs,rfl,hH,q];cases r1;let I4:Inv X oq σ H2 {s2 with heap:=s2.heap.push {cls:= .type "slice",data:= .fields #[.none,.none,.int (-1) tk]}}:=I2.kept (t':=s2.toks) λb ob q=>ud _ q
 erw[I4.list hH,its,r,U,hz];let Z:its.toArray.size=↑xs:=by rw[uA];exact r.length.symm
 show Vj #[X,X] X.A (Hk e (.Slice U_ U_ (u_ e1) p2) (-a) (.ref #[0,s2])) (EP X oq σ Q) X.xe {s2 with heap:=s2.heap.push {cls:= .type "slice",data:= .fields #[.none,.none,.int (-1) tk]}}
 refine Hm (ops:= [-a,.ref #[0,s2]]) U.isList.typeIs slot_list_getitem.lookup ?_ (by rw[O])
 refine UL (lo:=U_) (st:=u_ (-1)) U.isList (Fe ..) .none .none (.int (-1) tk) () ?_ (by rwa[Z])
 rw[PySem.W.krv_pick];refine(.ref _,_,I4.laid (t':=s2.toks) (o:= .lst xs.reverse) (λb ob q=>ud _ q) (uq _) (by rwa[Fp],its.reverse,(0),Ba r,uH _ rfl),1,q _ (I4.hok.fresh (uq _)))
end
section
variable {X:Cx}{oq:oj (o3×Obj)}{σ:St}{H:Hp}{s:o7}{d:o3}
def Da {prog:o9}{w:og}{A:oh}{E:o6->o7->Prop}{r:o3}{Q:o6->o7->Prop}{G:oj o6->o7->Prop}(Z:s.TypeIs (-r) "dict")
  (U:∀(R:oj o6->o7->Prop) (E':o6->o7->Prop),(∀vs s',G vs s'->R vs s')->Vj #[w,w] A.in1.in1 (collect (-r)) R E' s)
  (hQ:∀vs s',G vs s'->↑vs<=Vm/\Q (.ref #[0,s']) {s' with heap:=s'.heap.push {cls:= .type "tuple",data:= .seq vs.toArray}}):
  Vj #[w,w] A (call (.type "tuple") [-r]) Q E s:=by
 let new:VS #[w,w] A.in1 (.call (.builtin "tuple.__new__") ⟨[.type "tuple",-r],[]⟩) (wants (λobj O=>O.TypeIs obj "tuple"/\Q obj O) E) s:=by
  refine r_ ?_;show Vj _ A.in1.in1 (do TM "tuple.__new__" [[.type "tuple",-r]:[]];again (.builtin "tuple.__new__" [[.type "tuple",-r]:[]])) _ _ s
  refine A7 (tH (PySem.F.newCall_tuple_1 _) (uD [F0 PySem.F.plain_tuple_new _:HH PySem.F.entry_tuple_new ?_]));rw[TK PySem.F.plain_tuple_new _];let s1:=sub_tuple_self;let s2:=init_tuple_lookup;let s3:=madeHere_tuple
  wp_walk using GD Z,U
  intro vs s' hg;erw[hQ vs s' hg,hl,hq];show Vj _ _ (GT vs.toArray>>=λv=>ret v) _ _ _;unfold GT;refine A7 (vB ?_ (by show vs.toArray.size<=Vm;simpa using hl))
  exact uD [[_:uH _ rfl:1]:hq]
 refine RS (Q₁:=λobj O=>O.TypeIs obj "tuple"/\Q obj O) PySem.F.called_tuple (PySem.F.typeCall_tuple_1 _) PySem.F.entry_object_init new λobj O h₁=>?_;exact[h₁.1:PySem.F.args_object_init_2 obj _:object_init_meets PySem.F.called_tuple.init.lookup PySem.F.called_tuple.made () prog w A.in1 _ O [h₁.1:1:h₁.2]]
end
section
variable {X:Cx}
def AS (hc:X.calm=v_):YN X (.type "tuple") (λxs H Q=>∃(d:o3) (kvs:oj (Key×V)),xs= [-d]/\Rd H d (.dK kvs)/\∀t,H t=U_->Q (-t) (upd H t (.tup (kvs.map λp=>kV p.1)))):=by
 exists 2,xs,us,Q,I,r,h;erw[h,d,kvs,rfl,hd,q];erw[jX r,u,rfl,ru];cases ru;erw[Kt I.hok hd,hz,lo,vs,Z,dd];erw[id dd,o,es,ep,ho];let ac:s.heap.DictAt (Qo X.prog X.w) d vs ep:=[o:es:ho];refine vk (n:=1) I.tk ?_;refine Da (G:=λus s'=>∃(h':o8) (tk:Nat) (O:Array o6),us=O.toList/\s'={s with heap:=h',toks:=tk}/\(∀b o,s.heap.get? b=u_ o->h'.get? b=u_ o)/\ItemsOf (λi v=>∃k x,vs[i]? =u_ (k,x)/\(Qo X.prog X.w).is k v=v_) O ↑vs) dd.typeIs
  (λR E' k=>PySem.W.kdu_collect (A:=X.A.in1.in1) (PySem.W.kdl_dict lo) (I.ok.hd hc) ac (by rwa[<-↑Z]) λh' tk O aa U=>k _ _ (h',tk,O,1,1,aa,U)) ?_
 rintro us s' ⟨h',tk,O,rfl,rfl,aa,U⟩;let ad:↑O.toList=↑vs:=by rw[vo,U.1]
 let ae:=↑Z;exists (),λhtk=>?_
 let I':Inv X oq σ H {s with heap:=h',toks:=tk}:=I.kept aa htk
 let hv:iq (kvs.map λp=>kV p.1) O.toList:=by
  refine qaw (by rw[uc];omega) λj x v hx hv=>?_
  rw[uJ] at hx;cases hj:kvs[j]? with
  |none=>rw[hj] at hx;cases hx|some p=>
   rw[hj] at hx;cases hx;obtain⟨k,y,e1,e2⟩:=U.2 j v (by rwa[<-UA])
   let e3:=(oC Z hj e1).1;show ik (kV p.1) v;rw[e3];exact NB e2
 refine(-h'.objs.size,_,I'.laid (t':=tk) (o:= .tup (kvs.map λp=>kV p.1)) (λb u w=>ud _ w) (uq _) (by rwa[uc],O.toList,hv,(_,uH _ rfl,1,0)) htk,1,q _ (I'.hok.fresh (uq _)))
end
section
variable {x q:Str}{st:Stmt}{a b c d:Str}
def bo1 (h:∀(kV doc pm:o6) (an:om o3) (cdv ct u:o6),Gz (PySem.W.fnOf x q (YM st) (Yf st) (qh st) .none kV doc pm an cdv ct) [[u]:[]]=pure [(a,u)]):BOk x q st [a]:=by
 intro k1 k2 k3 U k5 Z us O;rcases us with _|⟨u,_|⟨_,_⟩⟩
 .cases O
 .exact h k1 k2 k3 U k5 Z u
 .cases O
def bo2 (h:∀(kV doc pm:o6) (an:om o3) (cdv ct u v:o6),Gz (PySem.W.fnOf x q (YM st) (Yf st) (qh st) .none kV doc pm an cdv ct) [[u,v]:[]]=pure [(a,u),(b,v)]):BOk x q st [a,b]:=by
 intro k1 k2 k3 U k5 Z us O;rcases us with _|⟨u,_|⟨v,_|⟨_,_⟩⟩⟩
 .cases O
 .cases O
 .exact h k1 k2 k3 U k5 Z u v
 .cases O
def bo3 (h:∀(kV doc pm:o6) (an:om o3) (cdv ct u v w:o6),Gz (PySem.W.fnOf x q (YM st) (Yf st) (qh st) .none kV doc pm an cdv ct) [[u,v,w]:[]]=pure [(a,u),(b,v),(c,w)]):BOk x q st [a,b,c]:=by
 intro k1 k2 k3 U k5 Z us O;rcases us with _|⟨u,_|⟨v,_|⟨w,_|⟨_,_⟩⟩⟩⟩
 .cases O
 .cases O
 .cases O
 .exact h k1 k2 k3 U k5 Z u v w
 .cases O
def bo4 (h:∀(kV doc pm:o6) (an:om o3) (cdv ct u v w z:o6),Gz (PySem.W.fnOf x q (YM st) (Yf st) (qh st) .none kV doc pm an cdv ct) [[u,v,w,z]:[]]=pure [(a,u),(b,v),(c,w),(d,z)]):BOk x q st [a,b,c,d]:=by
 intro k1 k2 k3 U k5 Z us O;rcases us with _|⟨u,_|⟨v,_|⟨w,_|⟨z,_|⟨_,_⟩⟩⟩⟩⟩
 .cases O
 .cases O
 .cases O
 .cases O
 .exact h k1 k2 k3 U k5 Z u v w z
 .cases O
end
end L2
namespace L2
open PySem PyProof.Rows
abbrev cl {α β:Type}(t:α->β->TS)(a:α)(b:β):TS:=t a b
section
variable {α β:Type}{t u:α->β->TS}{c:α->β->TT}{wi:α->β->TI}{g:α->β->TG}{a:α}{b:β}{D:nc}{σ:St}{H:Hp}
def cl_i (h:let S:St:=σ;let D1:nc:=D;cl t a b D1 S H):t a b D σ H:=h
def seq_oC (h:let S:St:=σ;let D1:nc:=D;∀N:St->Hp->Prop,(∀O H',cl u a b D1 O H'->N O H')->let E:nc:={D1 with nx:=N};cl t a b E S H):cl (λx y=>nA (t x y) (u x y)) a b D σ H:=h (u a b D) λ_ _ h=>h
def seq_0 (h:let S:St:=σ;let D1:nc:=D;let E:nc:={D1 with nx:=cl u a b D1};cl t a b E S H):cl (λx y=>nA (t x y) (u x y)) a b D σ H:=h
def if_C (h:let S:St:=σ;let D1:nc:=D;c a b S H λk H1=>if k=v_ then cl t a b D1 S H1 else cl u a b D1 S H1):cl (λx y=>Ad0 (c x y) (t x y) (u x y)) a b D σ H:=h
def while_C (h:let S:St:=σ;let D1:nc:=D;∃W:Nat->St->Hp->Prop,(∃m,W m S H)/\∀m σ H,W m σ H->
 c a b σ H λk H1=>if k=v_ then∃N:St->Hp->Prop,(∀O H',N O H'->∃U,U<m/\W U O H')/\cl t a b {D1 with nx:=N,ct:=N,bk:=D1.nx} σ H1 else D1.nx σ H1):cl (λx y=>MZ (c x y) (t x y)) a b D σ H:=h
def for_C (h:let S:St:=σ;let D1:nc:=D;wi a b S H λJ H1=>∃W:Nat->Nat->St->Hp->Prop,(∃m,W 0 m S H1)/\∀i m σ H,W i m σ H->
 (J.stop i H/\D1.nx σ H)\/(J.go i H/\∃N:St->Hp->Prop,(∀O H',N O H'->∃U,U<m/\W (i+1) U O H')/\∀x H',J.yld i H x H'->g a b x σ H' λZ H2=>cl t a b {D1 with nx:=N,ct:=N,bk:=D1.nx} Z H2)):cl (λx y=>Ad1 (wi x y) (g x y) (t x y)) a b D σ H:=h
end
end L2
namespace L2
open PySem PySem.Spec PySem.W PyProof.Rows
variable {i:Nat}{v:V}{σ:St}{H:Hp}
def gN_ {Q:St->Hp->Prop}(h:Q (σ.set i (u_ v)) H):YB i v σ H Q:=h
end L2
namespace L2
open PySem PySem.Spec PySem.W PySem.Calls PyProof.Rows
section
variable {X:Cx}{oq:oj (o3×Obj)}{σ:St}{H:Hp}{s:o7}{a:o3}{kvs:oj (Key×V)}{k:Key}{u r:o6}{v:V}{A:oh}{E:o6->o7->Prop}
def MG {Q:o6->o7->Prop}(I:#[I])(e:H a=u_ (.dK kvs))(ry:ik (kV k) u)(rv:ik v r)(hl:↑kvs<Vm)(h1:∀O w' s',iV kvs k=u_ O->Inv X oq σ H s'->ik O w'->Q w' s')
  (h2:iV kvs k=U_->∀s',Inv X oq σ (upd H a (.dK (lW kvs k v))) s'->Q r s'):Vj #[X,X] A (call (.builtin "dict.setdefault") [-a,u,r]) Q E s:=by
 erw[ME I.hok e,z,hd,vs,rel,dd];refine HQ PySem.F.slot_dict_setdefault dd.typeIs PySem.F.entry_dict_setdefault (PySem.F.args_dict_setdefault_3 _ _ _) (kt_meets_setdefault (Qo X.prog X.w) a (oY ry) hd r) (vs,dd,by rwa[<-↑rel],λw' hw=>?_,λhn h' aa hs=>?_)
 .cases U:iV kvs k with
  |none=>
   have:=nz.qar (o:=VV vs k) (by rw[<-U];exact rel.val k)
   rw[this] at hw;cases hw
  |some O=>
   obtain⟨w2,Z,ac⟩:=nz.some_of (v:=O) (o:=VV vs k) (by rw[<-U];exact rel.val k)
   rw[Z] at hw;cases hw;exact h1 O _ _ U (I.tok _) ac
 .let U:iV kvs k=none:=by
   cases U:iV kvs k with
   |none=>rfl|some O=>
    obtain⟨w2,Z,_⟩:=nz.some_of (v:=O) (o:=VV vs k) (by rw[<-U];exact rel.val k)
    rw[Z] at hn;cases hn
  let ad:↑(lW kvs k v)<=sizeLine:=by have:=yp kvs k v;omega
  let he:∃q,h'.get? a=u_ q:=let⟨q,_,_,hq,_⟩:=aa;[q:hq];exact h2 U _ (KP I (by rw[e];exact VP) hs he (sC ad hd (rel.put k rv) aa))
end
inductive Aab (ty tx:TE)(σ:St)(Q:VK)(x:V)(H1:Hp):Prop
 |mk (a:Addr)(_:x=-a)(_:IsD H1 a)(_:ty σ H1 λy H2=>tx σ H2 λz H3=>∃kvs k,H3 a=u_ (.dK kvs)/\y=kV k/\↑kvs<Vm/\(∀v,iV kvs k=u_ v->Q v H3)/\(iV kvs k=U_->Q z (upd H3 a (.dK (lW kvs k z)))))
abbrev AaI (td ty tx:TE):TE:=λσ H Q=>td σ H λx H1=>Aab ty tx σ Q x H1
section
variable {X:Cx}{o e f:Expr}{apos cpos:Pos}{td ty tx:TE}
def LH (ho:PE X o td)(he:PE X e ty)(hf:PE X f tx)(m:M2 X o "setdefault" apos e f cpos):PE X (.Call (.Attribute o "setdefault" apos) [e,f] [] cpos) (AaI td ty tx):=by
 exists 2,Q,I,h;refine Fd m.base m.few m.line US PySem.F.slot_dict_setdefault PySem.F.type_dict_setdefault (thn (ho oq s σ H _ I h) λu s1 zq=>?_);erw[zq,x,H1,I1,rx,a,ex,d,q1];subst ex;obtain rfl:u=Vo a:=rx;erw[EU I1 d,t1,t2,_];exists t1,t2;rw[m.trees];refine U9 rfl (Uj (Ur (thn (he oq s1 σ H1 _ I1 q1) λiv s2 ⟨y,H2,I2,ry,q2⟩=>
  Ur (thn (hf oq s2 σ H2 _ I2 q2) λfv s3 ⟨z,H3,I3,rz,kvs,k,ea,ey,hl,q3,q4⟩=>V3 ?_))))
 subst ey;exact MG I3 ea ry rz hl (λv0 w' s4 O U Z=>(v0,H3,U,Z,q3 v0 O)) λO s4 U=>(z,_,U,rz,q4 O)
end
variable {w:og}{K:o0}{mg:Str->om o6}{base:o8}{f:o3}{fd:Vk}
def FnOk.up0 {P:o9}{CX:CXT}{k:Nat}{ps:oj Str}{sp:Sp}(F:FnOk P w K mg base CX0 k f fd ps sp):FnOk P w K mg base CX k f fd ps sp:=
 ⟨F.len,λA outer s H args us vs Q E O U Z hv h ht=>Uy (F.run A outer s H args us vs Q E O U Z hv h ht) λr s' h=>by
  cases r with
  |ok c=>cases c<;>exact h|error e=>exact VA h⟩
end L2
namespace L2
open PySem PyProof.Rows
section
variable {X:Cx}
inductive DN (K:PySem.W.Frag)(x:V)(y:V)(H:Hp)(Q:VK):Prop
 |mk (d:D)(p:Addr)(ds:List D)(us:List V)(_:Is H d x)(_:y=-p)(_:SqL K H p us)(_:IsL H ds us)(_:nD d=v_)(_:(∀e>ds,(∃xs,e=¬xs)/\nD e=v_/\dp e<=60))(_:Q (.bl (!(ds.any λe=>eqN e d))) H)
def D0 (hu:X.A.units+64<Vr):OpR X (Vs .NotIn) (DN X.K):=by
 exists 2,x,y,v,u,Q,I,rx,ry,h;erw[h,d,p,ds,us,hd,rfl,hp,hl,pd,aa,q];cases ry;erw[I.list hp,its,r,pl,hz];let lr:=↑r;let ll:=↑hl;let ac:∀(j:Nat) (w:o6),its[j]? =u_ w->∃e u,ds[j]? =u_ e/\Is H e u/\ik u w:=by
  intro j w hj;let ad:j<↑us:=by
   have:=(Af.mp hj).1;omega
  erw[r.get (i:=j) (uf ad),u',U,e2];rw[hj] at U;cases U;erw[NE hl (uf ad),e,O,hi];exact(e,_,O,hi,e2)
 refine_lift let f:o6->Bool:=λw=>open Classical in if h:∃e u,((∃xs,e=D.tup xs)/\nD e=v_)/\Is H e u/\ik u w then eqN (RM h) d else Vi;?_
 let hf:∀(w:o6) (e:D) (u:V),((∃xs,e=D.tup xs)/\nD e=v_)->Is H e u->ik u w->f w=eqN e d:=λw e u O hi hr=>by
  let h:∃e u,((∃xs,e=D.tup xs)/\nD e=v_)/\Is H e u/\ik u w:=(e,u,O,hi,hr);let e0:f w=eqN (RM h) d:=dif_pos h;erw[Tc h,u2,c1,c2,c3];let Z:∀{e:D}{u:V},(∃xs,e=D.tup xs)->Is H e u->ik u w->∃b,u= .ref b/\w=-b:=by
   rintro e u ⟨xs,rfl⟩ h r;erw[h,b,us,rfl,_];cases r;exact[b:1:1]
  erw[Z O.1 hi hr,b1,rfl,U];erw[Z c1.1 c2 c3,b2,rfl,e2];rw[U] at e2;cases e2;rw[e0,Is.detN c1.2 O.2 c2 hi]
 let ae:its.toArray.any f=ds.any λe=>eqN e d:=by
  let em:its.map f=ds.map λe=>eqN e d:=by
   apply List.ext_getElem?;intro j;rw[uJ,uJ];cases hj:its[j]? with
   |none=>
    have:ds[j]? =none:=Tg (by have:=List.getElem?_eq_none_iff.mp hj;omega)
    rw[this]
    rfl
   |some w=>
    erw[ac j w hj,e,u,U,e2,e3];rw[U];let O:=aa e (uQ U);exact A9 u_ (hf w e u [O.1:O.2.1] e2 e3)
  let U:its.toArray.any f=(its.map f).any id:=by
   rw[V9,Tv]
   rfl
  rw[U,em,V9]
  rfl
 refine Rl f pl.isList (λw hw=>?_) (.bl _,H,I,1,by rwa[ae])
 obtain⟨j,hj⟩:=List.mem_iff_getElem?.mp (show w>its by simpa using hw)
 erw[ac j w hj,e,u,U,e2,e3];let O:=aa e (uQ U);rw[hf w e u [O.1:O.2.1] e2 e3];exact NO I 60 e d u x w v X.A.in1 O.2.2 O.2.1 pd e2 hd e3 rx (by rw[v7];omega)
end
end L2
namespace K44
open PySem L2 PyProof.Rows
inductive A5 (p0 p1 p2 p3 p4:Prop):Prop
 |mk (_:p0)(_:p1)(_:p2)(_:p3)(_:p4)
inductive E3 {t0 t1 t2:Type}(p:t0->t1->t2->Prop):Prop
 |mk (x0:t0)(x1:t1)(x2:t2)(h:p x0 x1 x2)
open Builtin.Int (intBits)
abbrev top (i:Nat):Stmt:=PySem.Challenge.pw_askwright_k44_whole_least_papers.main.body.getD i (.Pass ((0),(0),(0),(0)))
nonrec abbrev w8:Stmt:=top 17
nonrec abbrev zC:Stmt:=top 18
nonrec abbrev wu:Stmt:=top 19
nonrec abbrev wx:Stmt:=top 21
nonrec abbrev Yc:Stmt:=top 22
nonrec abbrev XH:Stmt:=top 23
nonrec abbrev wQ:Stmt:=top 29
nonrec abbrev Xr:Stmt:=top 30
nonrec abbrev wc:Stmt:=top 31
nonrec abbrev JC:Stmt:=top 32
nonrec abbrev XI:Stmt:=top 33
nonrec abbrev zS:Stmt:=top 34
nonrec abbrev wD:Stmt:=top 35
nonrec abbrev Xl:Stmt:=top 38
nonrec abbrev Xk:Stmt:=top 39
nonrec abbrev Xs:Stmt:=top 40
nonrec abbrev zD:Stmt:=top 41
nonrec abbrev Zq:Stmt:=top 42
nonrec abbrev XC:Stmt:=top 43
nonrec abbrev JF:Stmt:=top 44
nonrec abbrev Xz:Stmt:=top 45
nonrec abbrev XE:Stmt:=top 46
nonrec abbrev zG:Stmt:=top 47
nonrec abbrev Xy:Stmt:=top 48
nonrec abbrev YL:Stmt:=top 50
nonrec abbrev Yw:Stmt:=top 51
nonrec abbrev jo:Stmt:=Qj (top 52) 0
nonrec abbrev jL:Stmt:=Qj (top 52) 1
nonrec abbrev YC:Stmt:=Qj (top 52) 2
nonrec abbrev YV:Stmt:=Qj (top 52) 3
nonrec abbrev Y6:Stmt:=Qj (top 52) 6
nonrec abbrev ye:Stmt:=Qj (top 52) 7
nonrec abbrev Yz:Stmt:=Qj (top 52) 8
nonrec abbrev jm:Stmt:=Qj (top 52) 9
nonrec abbrev y6:Stmt:=top 53
nonrec abbrev DG:Stmt:=top 54
nonrec abbrev xg:Stmt:=Qj (top 56) 0
nonrec abbrev jU:Stmt:=Qj (top 56) 1
nonrec abbrev xf:Stmt:=Qj (top 56) 2
nonrec abbrev jp:Stmt:=Qj (top 56) 3
nonrec abbrev JI:Stmt:=Qj (top 56) 4
nonrec abbrev JY:Stmt:=Qj (top 56) 5
nonrec abbrev Ye:Stmt:=Qj (top 57) 0
nonrec abbrev QX:Stmt:=Qj (top 57) 1
nonrec abbrev QZ:Stmt:=Qj (top 57) 2
nonrec abbrev yO:Stmt:=Qj (top 57) 3
nonrec abbrev yx:Stmt:=Qj (top 57) 4
nonrec abbrev yq:Stmt:=Qj (top 57) 5
nonrec abbrev yP:Stmt:=Qj (top 57) 6
nonrec abbrev yM:Stmt:=Qj (top 57) 7
nonrec abbrev QV:Stmt:=Qj (top 57) 8
nonrec abbrev Yv:Stmt:=top 58
nonrec abbrev Wa:Stmt:=top 59
nonrec abbrev Xw:Stmt:=top 60
nonrec abbrev JK:Stmt:=top 61
nonrec abbrev jP:Stmt:=top 62
nonrec abbrev Jq:Stmt:=top 63
nonrec abbrev J2:Stmt:=top 64
nonrec abbrev XA:Stmt:=top 65
nonrec abbrev Zb:Stmt:=top 66
nonrec abbrev KN:Stmt:=top 67
nonrec abbrev jW:Stmt:=top 69
nonrec abbrev JP:Stmt:=top 70
nonrec abbrev Y9:Stmt:=top 71
nonrec abbrev Ya:Stmt:=top 72
nonrec abbrev jG:Stmt:=top 73
nonrec abbrev Xn:Stmt:=top 74
nonrec abbrev sZ:Stmt:=top 75
nonrec abbrev xY:Stmt:=top 78
nonrec abbrev Yl:Stmt:=Qj (top 79) 0
nonrec abbrev js:Stmt:=Qj (top 79) 1
nonrec abbrev yr:Stmt:=Qj (top 79) 2
nonrec abbrev QY:Stmt:=Qj (top 79) 3
nonrec abbrev jV:Stmt:=top 80
nonrec abbrev jI:Stmt:=top 82
nonrec abbrev WT:Stmt:=top 83
nonrec abbrev zV:Stmt:=top 84
nonrec abbrev Za:Stmt:=top 85
nonrec abbrev xj:Stmt:=top 86
nonrec abbrev xm:Stmt:=top 87
nonrec abbrev Xh:Stmt:=top 88
nonrec abbrev xr:Stmt:=top 89
nonrec abbrev J3:Stmt:=top 90
nonrec abbrev j9:Stmt:=top 91
nonrec abbrev Y7:Stmt:=top 92
nonrec abbrev JX:Stmt:=top 93
nonrec abbrev YU:Stmt:=top 94
nonrec abbrev YY:Stmt:=top 95
nonrec abbrev OU:Stmt:=top 96
set_option genInjectivity false in
set_option genSizeOf false in
structure Ad where
 f_is_text:o3
 d_is_text:Vk
 f_is_tree:o3
 d_is_tree:Vk
 f_is_name:o3
 d_is_name:Vk
 f_is_pair:o3
 d_is_pair:Vk
 jE:o3
 jA:Vk
 We:o3
 wU:Vk
 f_part_of:o3
 d_part_of:Vk
 WA:o3
 WD:Vk
 f_row_of:o3
 d_row_of:Vk
 Zx:o3
 ZX:Vk
 Wc:o3
 wl:Vk
 kX:o3
 Kg:Vk
 f_is_rule:o3
 d_is_rule:Vk
 XB:o3
 wB:Vk
 Xv:o3
 Wo:Vk
 Xj:o3
 wH:Vk
 Zh:o3
 Kb:Vk
 zO:o3
 Ki:Vk
 xS:o3
 Wm:Vk
 J5:o3
 ZQ:Vk
 Xx:o3
 wC:Vk
 Xd:o3
 Wp:Vk
 Zc:o3
 kl:Vk
 Xg:o3
 wn:Vk
 Js:o3
 Jw:Vk
 Jf:o3
 Je:Vk
 jl:o3
 xR:Vk
 zi:o3
 XV:Vk
 Yu:o3
 Yx:Vk
 JB:o3
 Jt:Vk
 Jy:o3
 JW:Vk
 YF:o3
 YE:Vk
 Jk:o3
 Ja:Vk
 xH:o3
 xJ:Vk
 jt:o3
 jB:Vk
 f_does:o3
 d_does:Vk
 JZ:o3
 ZO:Vk
 zr:o3
 XL:Vk
 ZD:o3
 ZI:Vk
 xQ:o3
 xN:Vk
 ZV:o3
 Zt:Vk
 ZG:o3
 ZJ:Vk
 Yh:o3
 ju:Vk
 yQ:o3
 yF:Vk
 yI:o3
 yR:Vk
 jd:o3
 Y8:Vk
 YW:o3
 YZ:Vk
 Y4:o3
 Y2:Vk
 ja:o3
 je:Vk
 jf:o3
 jc:Vk
 yK:o3
 yJ:Vk
 Jc:o3
 Ji:Vk
 f_has_run:o3
 d_has_run:Vk
 w9:o3
 WM:Vk
 ZF:o3
 ZU:Vk
 XM:o3
 X7:Vk
 ZL:o3
 Zy:Vk
 ZN:o3
 ZY:Vk
 WY:o3
 wp:Vk
 kt:o3
 Km:Vk
 f_met_by:o3
 d_met_by:Vk
 X1:o3
 XX:Vk
 ZM:o3
 ZH:Vk
 Zz:o3
 ZW:Vk
 jF:o3
 jx:Vk
 X5:o3
 XU:Vk
 wZ:o3
 Wu:Vk
 f_shown:o3
 d_shown:Vk
 Wj:o3
 ww:Vk
 jq:o3
 xL:Vk
 zR:o3
 Zp:Vk
 YK:o3
 YS:Vk
 Y3:o3
 Y0:Vk
 XN:o3
 zB:Vk
 X6:o3
 XT:Vk
 f_law_pot:o3
 d_law_pot:Vk
 k9:o3
 kg:Vk
 Kk:o3
 Kh:Vk
 kz:o3
 Ka:Vk
 kh:o3
 ko:Vk
 Wq:o3
 Wb:Vk
 kO:o3
 k8:Vk
 ZR:o3
 Z1:Vk
 zq:o3
 zw:Vk
 xh:o3
 JU:Vk
 Z0:o3
 ZK:Vk
 J1:o3
 J4:Vk
 WR:o3
 WQ:Vk
 f_law:o3
 d_law:Vk
 qo:o3
 qL:o3
 qr:o3
 qE:o3
structure Tx (K:o0)(mg:Str->om o6)(a:Ad):Prop where
 mS:FF K mg "is_text" w8 ["value"] a.f_is_text a.d_is_text
 iE:FF K mg "is_tree" zC ["value"] a.f_is_tree a.d_is_tree
 iw:FF K mg "is_name" wu ["value"] a.f_is_name a.d_is_name
 mr:FF K mg "is_pair" wx ["value"] a.f_is_pair a.d_is_pair
 iG:FF K mg "is_row_of_names" Yc ["tree"] a.jE a.jA
 m9:FF K mg "is_answer" XH ["ask","answer"] a.We a.wU
 nE:FF K mg "part_of" wQ ["kind","piece","count"] a.f_part_of a.d_part_of
 mX:FF K mg "pieces_of" Xr ["line","form"] a.WA a.WD
 sw:FF K mg "row_of" wc ["line","count"] a.f_row_of a.d_row_of
 lY:FF K mg "read_lines" JC ["value"] a.Zx a.ZX
 lJ:FF K mg "rule_rows" XI ["tree"] a.Wc a.wl
 l8:FF K mg "bad_line" zS ["tree"] a.kX a.Kg
 mT:FF K mg "is_rule" wD ["value"] a.f_is_rule a.d_is_rule
 lG:FF K mg "text_made" Xl ["boxes","own","parts"] a.XB a.wB
 lI:FF K mg "self_made" Xk ["boxes","own","parts"] a.Xv a.Wo
 lP:FF K mg "copy_made" Xs ["boxes","own","parts"] a.Xj a.wH
 lX:FF K mg "row_made" zD ["boxes","own","parts"] a.Zh a.Kb
 lZ:FF K mg "put_made" Zq ["boxes","own","parts"] a.zO a.Ki
 lL:FF K mg "join_made" XC ["boxes","own","parts"] a.xS a.Wm
 lm:FF K mg "first_made" JF ["boxes","own","parts"] a.J5 a.ZQ
 lK:FF K mg "rest_made" Xz ["boxes","own","parts"] a.Xx a.wC
 lH:FF K mg "size_made" XE ["boxes","own","parts"] a.Xd a.Wp
 l6:FF K mg "cut_made" zG ["boxes","own","parts"] a.Zc a.kl
 lO:FF K mg "glue_made" Xy ["boxes","own","parts"] a.Xg a.wn
 mf:FF K mg "is_jump_taken" YL ["boxes","word","parts"] a.Js a.Jw
 lU:FF K mg "asked_or_fault" Yw ["word","held"] a.Jf a.Je
 iU:FM K a.qo "__init__" "Machine.__init__" jo ["self","rule","own"] a.jl a.xR
 iF:FM K a.qo "now" "Machine.now" jL ["self"] a.zi a.XV
 iJ:FM K a.qo "answer" "Machine.answer" YC ["self","tree"] a.Yu a.Yx
 mh:FM K a.qo "asked" "Machine.asked" YV ["self"] a.JB a.Jt
 jK:FM K a.qo "go_on" "Machine.go_on" Y6 ["self"] a.Jy a.JW
 il:FM K a.qo "is_waiting" "Machine.is_waiting" ye ["self"] a.YF a.YE
 lV:FM K a.qo "do_row" "Machine.do_row" Yz ["self","row"] a.Jk a.Ja
 mo:FM K a.qo "hold" "Machine.hold" jm ["self","box","tree"] a.xH a.xJ
 iT:FF K mg "asks_that_stand" y6 ["machine","asks"] a.jt a.jB
 E6:FF K mg "does" DG ["rule","own","run"] a.f_does a.d_does
 mK:FM K a.qL "__init__" "Going.__init__" xg ["self","name","source","order"] a.JZ a.ZO
 lS:FM K a.qL "begin" "Going.begin" jU ["self","rule"] a.zr a.XL
 l9:FM K a.qL "look" "Going.look" xf ["self"] a.ZD a.ZI
 mq:FM K a.qL "wanted" "Going.wanted" jp ["self"] a.xQ a.xN
 lp:FM K a.qL "take" "Going.take" JI ["self","answer"] a.ZV a.Zt
 mL:FM K a.qL "full" "Going.full" JY ["self"] a.ZG a.ZJ
 lQ:FM K a.qr "__init__" "PlainOrder.__init__" Ye ["self","project"] a.Yh a.ju
 iA:FM K a.qr "begin_anew" "PlainOrder.begin_anew" QX ["self","project"] a.yQ a.yF
 iR:FM K a.qr "go_through" "PlainOrder.go_through" QZ ["self","name"] a.yI a.yR
 iP:FM K a.qr "enter" "PlainOrder.enter" yO ["self","name"] a.jd a.Y8
 lc:FM K a.qr "settle" "PlainOrder.settle" yx ["self","going"] a.YW a.YZ
 lf:FM K a.qr "runner" "PlainOrder.runner" yq ["self","rule","own"] a.Y4 a.Y2
 lq:FM K a.qr "leave" "PlainOrder.leave" yP ["self","going"] a.ja a.je
 lz:FM K a.qr "go_on" "PlainOrder.go_on" yM ["self","going"] a.jf a.jc
 im:FM K a.qr "answer_yet" "PlainOrder.answer_yet" QV ["self","name"] a.yK a.yJ
 io:FF K mg "answer_at_once" Yv ["source"] a.Jc a.Ji
 mU:FF K mg "has_run" Wa ["source"] a.f_has_run a.d_has_run
 iY:FF K mg "answer_by" Xw ["end"] a.w9 a.WM
 iD:FF K mg "check_name" JK ["name"] a.ZF a.ZU
 mC:FF K mg "check_names" jP ["names"] a.XM a.X7
 iI:FF K mg "order_from" Jq ["project","name"] a.ZL a.Zy
 lj:FF K mg "order_over" J2 ["project","names"] a.ZN a.ZY
 na:FF K mg "answer_of" XA ["project","name"] a.WY a.wp
 mG:FF K mg "full_run" Zb ["project","name"] a.kt a.Km
 nj:FF K mg "met_by" KN ["project","name"] a.f_met_by a.d_met_by
 iN:FF K mg "first_wrong" jW ["project","paper"] a.X1 a.XX
 iS:FF K mg "first_ends" JP ["paper"] a.ZM a.ZH
 mH:FF K mg "wrong_word" Y9 ["project","ends","earlier","step"] a.Zz a.ZW
 lN:FF K mg "is_right_answer" Ya ["project","earlier","ask","answer"] a.jF a.jx
 mB:FF K mg "is_full_run" jG ["source","name","asks","end"] a.X5 a.XU
 m8:FF K mg "is_run_of" Xn ["rule","own","asks","end"] a.wZ a.Wu
 iH:FF K mg "shown" sZ ["project","paper","name"] a.f_shown a.d_shown
 m7:FF K mg "is_source" xY ["value"] a.Wj a.ww
 mn:FM K a.qE "__init__" "Project.__init__" Yl ["self","sources"] a.jq a.xL
 BW:FM K a.qE "sources" "Project.sources" js ["self"] a.zR a.Zp
 ig:FM K a.qE "source_of" "Project.source_of" yr ["self","name"] a.YK a.YS
 iL:FM K a.qE "looked_up" "Project.looked_up" QY ["self","ask"] a.Y3 a.Y0
 mx:FF K mg "longest_row" jV ["names"] a.XN a.zB
 mz:FF K mg "_law_cell_at" jI ["script","k"] a.X6 a.XT
 mR:FF K mg "_law_pot" WT ["cell","salt"] a.f_law_pot a.d_law_pot
 ii:FF K mg "_law_take" zV ["pot","many"] a.k9 a.kg
 iB:FF K mg "_law_word" Za ["pot","names"] a.Kk a.Kh
 nu:FF K mg "_law_line" xj ["pot","names","many","k"] a.kz a.Ka
 mE:FF K mg "_law_rule" xm ["pot","names"] a.kh a.ko
 mZ:FF K mg "_law_maker" Xh ["pot","names"] a.Wq a.Wb
 mF:FF K mg "_law_leaf" xr ["pot","names"] a.kO a.k8
 mI:FF K mg "_law_source" J3 ["pot","names"] a.ZR a.Z1
 my:FF K mg "_law_sources" j9 ["script"] a.zq a.zw
 me:FF K mg "_law_all_steps" Y7 ["project","names"] a.xh a.JU
 mJ:FF K mg "_law_in_row" JX ["project","steps"] a.Z0 a.ZK
 iZ:FF K mg "_law_drawn_row" YU ["steps","pot"] a.J1 a.J4
 mY:FF K mg "_law_right" YY ["project","name","every","pot"] a.WR a.WQ
 BV:FF K mg "law" OU ["script"] a.f_law a.d_law
 qv:Cls K a.qo
 Wh:Mk K a.qo a.jl
 WS:mg "Machine"=u_ (-a.qo)
 Yk:QM K a.qo "rows"
 W9:QM K a.qo "rule"
 zt:QM K a.qo "own"
 Qx:QM K a.qo "boxes"
 Qm:QM K a.qo "place"
 yj:QM K a.qo "done"
 YT:QM K a.qo "given"
 qN:QM K a.qo "there"
 qQ:Cls K a.qL
 M_Going:Mk K a.qL a.JZ
 m_Going:mg "Going"=u_ (-a.qL)
 Yq:QM K a.qL "name"
 X2:QM K a.qL "order"
 yE:QM K a.qL "made_by"
 y8:QM K a.qL "rule_asks"
 qW:QM K a.qL "rule_run"
 Q7:QM K a.qL "end"
 qx:Cls K a.qr
 M_PlainOrder:Mk K a.qr a.Yh
 m_PlainOrder:mg "PlainOrder"=u_ (-a.qr)
 Qf:QM K a.qr "given_project"
 QF:QM K a.qr "stack"
 Qy:QM K a.qr "under_way"
 Qg:QM K a.qr "full_runs"
 QG:QM K a.qr "found"
 Q4:Cls K a.qE
 M_Project:Mk K a.qE a.jq
 m_Project:mg "Project"=u_ (-a.qE)
 Q9:QM K a.qE "by_name"
 m_MOST_SIGNS:∃t,mg "MOST_SIGNS"=u_ (.int 300 t)
 m_MOST_PARTS:∃t,mg "MOST_PARTS"=u_ (.int 40 t)
 m_MOST_SIZE:∃t,mg "MOST_SIZE"=u_ (.int 600 t)
 m_MOST_DEPTH:∃t,mg "MOST_DEPTH"=u_ (.int 12 t)
 Zo:∃t,mg "MOST_NAME_SIGNS"=u_ (.int 24 t)
 m_LETTERS:∃t,mg "LETTERS"=u_ (.str "abcdefghijklmnopqrstuvwxyz" t)
 m_NAME_SIGNS:∃t,mg "NAME_SIGNS"=u_ (.str "abcdefghijklmnopqrstuvwxyz0123456789./" t)
 m_PERCENT:∃t,mg "PERCENT"=u_ (.int 37 t)
 m_MOST_LINES:∃t,mg "MOST_LINES"=u_ (.int 40 t)
 m_MOST_DONE:∃t,mg "MOST_DONE"=u_ (.int 300 t)
 m_MOST_NAMES:∃t,mg "MOST_NAMES"=u_ (.int 60 t)
 z_ord:mg "ord"=U_
 yi:mg "len"=U_
 qT:mg "isinstance"=U_
 Z3:mg "str"=U_
 QB:mg "tuple"=U_
 z_all:mg "all"=U_
 z_int:mg "int"=U_
 jH:mg "range"=U_
 z_zip:mg "zip"=U_
 z_dict:mg "dict"=U_
 Wy:mg "enumerate"=U_
 z_sorted:mg "sorted"=U_
 z_abs:mg "abs"=U_
 z_min:mg "min"=U_
 z_sum:mg "sum"=U_
 z_list:mg "list"=U_
def kH:qu ["value","sign"] ["value"] (qh w8):=()
def yz:qu ["value","size","waiting","pair","part","depth"] ["value"] (qh zC):=()
def Ct:qu ["value"] ["value"] (qh wu):=()
def Cs:qu ["value"] ["value"] (qh wx):=()
def zf:qu ["tree"] ["tree"] (qh Yc):=()
def nW:qu ["ask","answer"] ["ask","answer"] (qh XH):=()
def ki:qu ["kind","piece","count","numbers"] ["kind","piece","count"] (qh wQ):=()
def nU:qu ["line","form"] ["line","form"] (qh Xr):=()
def JD:qu ["line","count","word","form","pieces","parts"] ["line","count"] (qh wc):=()
def YI:qu ["value","rows","line","row"] ["value"] (qh JC):=()
def Zs:qu ["tree","read"] ["tree"] (qh XI):=()
def sY:qu ["tree"] ["tree"] (qh zS):=()
def Cr:qu ["value"] ["value"] (qh wD):=()
def nR:qu ["boxes","own","parts"] ["boxes","own","parts"] (qh Xl):=()
def nT:qu ["boxes","own","parts"] ["boxes","own","parts"] (qh Xk):=()
def nX:qu ["boxes","own","parts"] ["boxes","own","parts"] (qh Xs):=()
def sX:qu ["boxes","own","parts"] ["boxes","own","parts"] (qh zD):=()
def WW:qu ["boxes","own","parts","row"] ["boxes","own","parts"] (qh Zq):=()
def JQ:qu ["boxes","own","parts","one","other"] ["boxes","own","parts"] (qh XC):=()
def X3:qu ["boxes","own","parts","whole"] ["boxes","own","parts"] (qh JF):=()
def ZP:qu ["boxes","own","parts","whole"] ["boxes","own","parts"] (qh Xz):=()
def nS:qu ["boxes","own","parts"] ["boxes","own","parts"] (qh XE):=()
def XD:qu ["boxes","own","parts","whole","between"] ["boxes","own","parts"] (qh zG):=()
def JG:qu ["boxes","own","parts","row","between"] ["boxes","own","parts"] (qh Xy):=()
def Z6:qu ["boxes","word","parts"] ["boxes","word","parts"] (qh YL):=()
def zI:qu ["word","held"] ["word","held"] (qh Yw):=()
def Wk:qu ["self","rule","own"] ["self","rule","own"] (qh jo):=()
def W7:qu ["self"] ["self"] (qh jL):=()
def jv:qu ["self","tree","ask"] ["self","tree"] (qh YC):=()
def Z5:qu ["self"] ["self"] (qh YV):=()
def Z2:qu ["self"] ["self"] (qh Y6):=()
def JR:qu ["self"] ["self"] (qh ye):=()
def y9:qu ["self","row","word","parts"] ["self","row"] (qh Yz):=()
def wP:qu ["self","box","tree"] ["self","box","tree"] (qh jm):=()
def yN:qu ["machine","asks","count","pair"] ["machine","asks"] (qh y6):=()
def DD:qu ["rule","own","run","machine"] ["rule","own","run"] (qh DG):=()
def KZ:qu ["self","name","source","order"] ["self","name","source","order"] (qh xg):=()
def W5:qu ["self","rule"] ["self","rule"] (qh jU):=()
def qam:qu ["self"] ["self"] (qh xf):=()
def wR:qu ["self"] ["self"] (qh jp):=()
def qao:qu ["self","answer"] ["self","answer"] (qh JI):=()
def zp:qu ["self","asks"] ["self"] (qh JY):=()
def zu:qu ["self","project"] ["self","project"] (qh Ye):=()
def jC:qu ["self","project"] ["self","project"] (qh QX):=()
def QO:qu ["self","name","top","missing"] ["self","name"] (qh QZ):=()
def xU:qu ["self","name"] ["self","name"] (qh yO):=()
def xt:qu ["self","going"] ["self","going"] (qh yx):=()
def xw:qu ["self","rule","own"] ["self","rule","own"] (qh yq):=()
def Xf:qu ["self","going"] ["self","going"] (qh yP):=()
def yw:qu ["self","going","ask","answer"] ["self","going"] (qh yM):=()
def yy:qu ["self","name","at_once"] ["self","name"] (qh QV):=()
def Zl:qu ["source"] ["source"] (qh Yv):=()
def Cu:qu ["source"] ["source"] (qh Wa):=()
def nZ:qu ["end"] ["end"] (qh Xw):=()
def Kv:qu ["name"] ["name"] (qh JK):=()
def xO:qu ["names","name"] ["names"] (qh jP):=()
def qax:qu ["project","name"] ["project","name"] (qh Jq):=()
def jJ:qu ["project","names","order","name"] ["project","names"] (qh J2):=()
def nY:qu ["project","name"] ["project","name"] (qh XA):=()
def WC:qu ["project","name","order"] ["project","name"] (qh Zb):=()
def DC:qu ["project","name"] ["project","name"] (qh KN):=()
def Q6:qu ["project","paper","ends","earlier","place","step","word"] ["project","paper"] (qh jW):=()
def yS:qu ["paper","ends","name","asks","end"] ["paper"] (qh JP):=()
def YG:qu ["project","ends","earlier","step","name","end","source"] ["project","ends","earlier","step"] (qh Y9):=()
def jg:qu ["project","earlier","ask","answer","source"] ["project","earlier","ask","answer"] (qh Ya):=()
def Yj:qu ["source","name","asks","end","rule"] ["source","name","asks","end"] (qh jG):=()
def Zu:qu ["rule","own","asks","end","machine"] ["rule","own","asks","end"] (qh Xn):=()
def Bo:qu ["project","paper","name","ends"] ["project","paper","name"] (qh sZ):=()
def nV:qu ["value"] ["value"] (qh xY):=()
def yT:qu ["self","sources","by_name","name","source"] ["self","sources"] (qh Yl):=()
def xD:qu ["self","name"] ["self","name"] (qh yr):=()
def xv:qu ["self","ask"] ["self","ask"] (qh QY):=()
def Ym:qu ["names","row","name"] ["names"] (qh jV):=()
def W6:qu ["script","k"] ["script","k"] (qh jI):=()
def YJ:qu ["cell","salt","step","big","k"] ["cell","salt"] (qh WT):=()
def WJ:qu ["pot","many","digit"] ["pot","many"] (qh zV):=()
def W1:qu ["pot","names","some"] ["pot","names"] (qh Za):=()
def yt:qu ["pot","names","many","k","words","word","one","two","three","at"] ["pot","names","many","k"] (qh xj):=()
def j0:qu ["pot","names","body","many","lines"] ["pot","names"] (qh xm):=()
def jh:qu ["pot","names","asked","lines"] ["pot","names"] (qh Xh):=()
def Wg:qu ["pot","names","kind"] ["pot","names"] (qh xr):=()
def zj:qu ["pot","names","kind"] ["pot","names"] (qh J3):=()
def yh:qu ["script","names","pairs","k","cell"] ["script"] (qh j9):=()
def ym:qu ["project","names","steps","name","met"] ["project","names"] (qh Y7):=()
def yc:qu ["project","steps","there","place","ask","answer","source"] ["project","steps"] (qh JX):=()
def Yy:qu ["steps","pot","left","found"] ["steps","pot"] (qh YU):=()
def QU:qu ["project","name","every","pot","due","steps","k","more","row","good","found"] ["project","name","every","pot"] (qh YY):=()
def Zv:qu ["script","pairs","project","names","every","pot","k","name"] ["script"] (qh OU):=()
structure Ga where
 (boxes asking forms makers br bn ba we:o3)
abbrev Act:oj Str:= ["ask","has","names","go","like","rowed","none","say","fault"]
structure Fx (K:o0)(w:og)(mg:Str->om o6)(g:Ga)(a:Ad):Prop where
 m_BOXES:mg "BOXES"=u_ (-g.boxes)
 m_ASKING:mg "ASKING"=u_ (-g.asking)
 m_FORMS:mg "FORMS"=u_ (-g.forms)
 m_MAKERS:mg "MAKERS"=u_ (-g.makers)
 boxes:∀H,SqT K H g.boxes (BX.map V.str)
 asking:∀H,SqT K H g.asking [-"ask",-"has",-"names"]
 kd:IN K w g.forms
 forms:∀x>FRM,∃q,PySem.W.nsIn K g.forms x.1=u_ (u_ (-q))/\∀H,SqT K H q (x.2.map λk=>V.str k.t)
 km:IN K w g.makers
 k_text:PySem.W.nsIn K g.makers "text"=u_ (u_ (-a.XB))
 k_self:PySem.W.nsIn K g.makers "self"=u_ (u_ (-a.Xv))
 k_copy:PySem.W.nsIn K g.makers "copy"=u_ (u_ (-a.Xj))
 k_row:PySem.W.nsIn K g.makers "row"=u_ (u_ (-a.Zh))
 k_put:PySem.W.nsIn K g.makers "put"=u_ (u_ (-a.zO))
 k_join:PySem.W.nsIn K g.makers "join"=u_ (u_ (-a.xS))
 k_first:PySem.W.nsIn K g.makers "first"=u_ (u_ (-a.J5))
 k_rest:PySem.W.nsIn K g.makers "rest"=u_ (u_ (-a.Xx))
 k_size:PySem.W.nsIn K g.makers "size"=u_ (u_ (-a.Xd))
 k_cut:PySem.W.nsIn K g.makers "cut"=u_ (u_ (-a.Zc))
 k_glue:PySem.W.nsIn K g.makers "glue"=u_ (u_ (-a.Xg))
 k_no:∀z>Act,PySem.W.nsIn K g.makers z=u_ U_
 none_:∀z,xG z=U_->PySem.W.nsIn K g.forms z=u_ U_
 m_BadRule:mg "BadRule"=u_ (-g.br)
 x_BadRule:PySem.W.excIn K g.br VE "ValueError.__new__"=v_
 m_BadName:mg "BadName"=u_ (-g.bn)
 x_BadName:PySem.W.excIn K g.bn VE "ValueError.__new__"=v_
 m_BadAnswer:mg "BadAnswer"=u_ (-g.ba)
 e_BadAnswer:PySem.W.exmOne K (-g.ba) (-g.ba)=u_ v_
 m_WrightError:mg "WrightError"=u_ (-g.we)
 ew:PySem.W.exmOne K (-g.bn) (-g.we)=u_ v_
 xc:AwV.ExcCls K g.bn
variable {n:Nat}
def yC (h:n<=1000):n<=sizeLine:=V7 (zn h)
def sml (h:Nat.ble n 1000=v_):n<=sizeLine:=yC (Nat.le_of_ble_eq_true h)
def nB (h:n<=16000000):n<=sizeLine:=by rw[uE];omega
def zE {α:Type}{xs:oj α}{i:Int}{c:α}(h:atI xs i=u_ c):c>xs:=by
 unfold atI at h;erw[Option.bind_eq_some_iff.mp h,j,_,e];exact uQ e
variable {z:Str}
def An (h:300<↑z):QA z=false:=by
 unfold QA;rw[uj ()]
 rfl
abbrev Mq:D->Bool
 | .str z=>QA z|_=>Vi
inductive kP:Sp
 |mk (v:_)(d:_)(_:vs= [v])(_:Is H d v)(_:Q (.bl (Mq d)) H)
inductive kT:Sp
 |mk (v:_)(d:_)(_:vs= [v])(_:Is H d v)(_:∀H',ic H H'->Q (.bl (isT d)) H')
abbrev pr (p:D×Nat):D:=-[p.1,.int (p.2:Int)]
variable {i:Nat}
def CH {c:Nat}(h:z.cps[i]? =u_ c)(O:QD c=Vi):QA z=false:=by
 unfold QA;let hm:c>z.cps.toList:=by
  have:z.cps.toList[i]? =u_ c:=by simpa using h
  exact uQ this
 have:z.cps.toList.all QD=false:=by
  rw[List.all_eq_false];exact⟨c,hm,by rw[O];exact ub⟩
 rw[this,Tb]
section
variable {P:o9}{w:og}{K:o0}{mg:Str->om o6}{base:o8}{a:Ad}
def kA:#[T,1,a.f_is_text,a.d_is_text,["value"],kP]:=by
 exists 9,T.mS,kH
 erw[h,v,d,rfl,hv,k];exists 3,%[@qH _ _ _ _ _ _ _ _ #[Zi,#[Qp,#[Qc,#[qy,#[qX,2,rfl],T.qT,vh,#v[pv 0,#[yf,.ty "str",T.Z3,UY]]]]],#[JN,#[qp,oG,#[qy,ZZ,T.yi,uM,#v[pv 0]],#[KQ,T.m_MOST_SIGNS],qw _]]].pt %[|#[qm,Yr]] qt,#[yW,#[Nk,4,pv 0],#[qM,(1),kH.nd],%[|@qH _ _ _ _ _ _ _ _ #[Zi,#[qp,D2,pv 1,ql,qw _],#[Zi,#[qp,D6,pv 1,ql,qw _],#[JN,#[qp,QL,#[qy,MI,T.z_ord,boot_ord,#v[pv 1]],#[KQ,T.m_PERCENT],qw _]]]].pt %[|#[qm,Yr]] qt]]|#[qm,Yr]]
 exists 0,v,"str",tyD d,isStr d,1,hv.ty,j7 d,0;cases d with
 |str z=>
  erw[hv,rfl,hz];refine iX ?_
  exists 0,z,1,hz,_,0,1,0;refine mi (λc=>?_) (λc=>?_)
  .let c':(300:Int)<(↑z:Int):=uC c;let e:Mq (!z)=false:=An ()
   rwa[e] at k
  .let c':¬(300:Int)<(↑z:Int):=λq=>c (ug q)
   exists 0,z,1
   refine_lift let J1_:Nat->L2.St->Hp->Prop:=λi σ H'=>(∃x,σ= [u_ (!z),x])/\H'=H/\(z.cps.toList.take i).all QD=v_;?_
   refine SN J1_ [⟨0⟩:1:1] ?_ ?_
   .rintro i c σ H' hc ⟨⟨x,rfl⟩,rfl,O⟩;let bad:QD c=Vi->Q (.bl Vi) H':=λe=>by
     let e':Mq (!z)=false:=CH hc e;rwa[e'] at k
    exists 0,_,0,1,0;rw[show decide ((⟨#[c]⟩:Str).cps.toList<(" ":Str).cps.toList)=decide (c<32) from AbH c 32]
    refine mi (λZ=>?_) (λZ=>?_)
    .refine lD (bad ?_);have:=uC Z;unfold QD;rw[uj ()]
     rfl
    .let aa:¬c<32:=λq=>Z (ug q)
     exists 0,_,0,1,0;rw[show decide (("~":Str).cps.toList<(⟨#[c]⟩:Str).cps.toList)=decide (126<c) from Abv c 126]
     refine mi (λc2=>?_) (λc2=>?_)
     .refine lD (bad ?_);have:=uC c2;unfold QD;rw[uj (p:=c<=126) (),Tb]
      rfl
     .have ac:¬126<c:=λq=>c2 (ug q)
      exists 0,0,1,1,0;refine mi (λc3=>?_) (λc3=>?_)
      .have U:c=37:=by
        have:=uC c3;have:=V.int.inj this;exact pH this
       exact bad (by subst U;rfl)
      .have U:c≠37:=λq=>c3 (ug (by rw[q];rfl))
       exists ⟨0⟩,1;rw[vg,show z.cps.toList[i]? =u_ c by simpa using hc,UU,O]
       show(v_&&(QD c&&v_))=v_;unfold QD;rw[ug (),ug (p:=c<=126) (),ug U]
       rfl
   .rintro σ H' ⟨⟨x,rfl⟩,rfl,O⟩;let e:Mq (!z)=true:=by
     show QA z=v_;unfold QA;rw[vi (by simp)] at O
     rw[O,ug ()]
     rfl
    rwa[e] at k
 |_=>exact lD (lD k)
def BM {α β:Type}(f:α->β)(xs:oj α)(x:α):(xs++ [x]).map f=xs.map f++ [f x]:=by simp
def Sw {α:Type}(us:oj α)(x:α):(us++ [x])[↑(us++ [x])-1]? =u_ x:=by simp
def Ik {α:Type}(us:oj α)(x:α):(us++ [x]).dropLast=us:=by simp
abbrev Wt (v:V)(d:D)(H:Hp)(L:o3)(m:Nat)(σ:L2.St)(H':Hp):Prop:=
 ∃(n:Nat) (w:oj (D×Nat)) (ws:oj V) (x3 x4 x5:om V),σ= [u_ v,u_ (.int n),u_ (-L),x3,x4,x5]/\ic H H'/\H' L=u_ (.lst ws)/\IsL H' (w.map pr) ws/\G w n=isT d/\n<=600/\↑w<=1+40*n/\m=ndL (w.map (·.1))
def jD:#[T,2,a.f_is_tree,a.d_is_tree,["value"],kT]:=by
 let Wz:=#[kA,T];refine T.iE.F.ok yz () (λ_ _ _ _ H vs Q E hr h=>?_)
 erw[h,v,d,rfl,hv,k];exists 3,%[#[qF,(1),yz.nd,qi],#[qF,(2),yz.nd,#[Q0,#v[#[qI,#v[pv 0,qi]]]]],#[zd,#[Bx,3,pv 2,(λ_=>rfl)],%[#[qF,(3),yz.nd,#[Nl,9,v9,PySem.F.slot_list_pop,PySem.F.type_list_pop,Nw,pv 2,_,_]],#[qF,(4),yz.nd,#[qG,qA,pv 3]],#[qF,2,(5),4,yz.nd,rfl,GN rfl,#[qG,qA,pv 3],_,_],@qH _ _ _ _ _ _ _ _ #[wM,#[Qc,#[qy,#[qX,2,rfl],T.qT,vh,#v[pv 4,#[yf,.ty "tuple",T.QB,vx]]]],#[zN,#[qp,D4,#[qy,KO,T.yi,uM,#v[pv 4]],#[KQ,T.m_MOST_PARTS],qw _]]].pt %[#[Nh,2,(1),6,yz.nd,rfl,GE rfl,qi,NF,_]|#[qZ,#[jr,v9,PySem.F.slot_list_extend,PySem.F.type_list_extend,oS,pv 2,#v[#[XY,["below","depth"],[5],IQ (qh zC) ["value","size","waiting","pair","part","depth"],#[zH,pv 4],(λ_ _ _ _ _ _=>#[qM,(0),(show Vw (["below","depth"]:oj Str) by decide+kernel)]),(λ_ _ _ _ _ _=>#[qI,#v[pv 0,#[Qd,yV,pv 1,qi]]])]]]]] %[|#[qH,#[Qc,#[qq,Wz,T.mS,#v[pv 4]]],%[|#[Nh,2,(1),6,yz.nd,rfl,GE rfl,#[Qd,yV,qi,#[qy,KO,T.yi,uM,#v[pv 4]]],NF,_]],%[|#[qm,Yr]]]]|@qH _ _ _ _ _ _ _ _ #[Zi,#[qp,oG,pv 5,#[KQ,T.m_MOST_DEPTH],qw _],#[JN,#[qp,oG,pv 1,#[KQ,T.m_MOST_SIZE],qw _]]].pt %[|#[qm,Yr]] qt]]|#[qm,Yr]]
 let no:∀{H':Hp}{w:oj (D×Nat)}{n:Nat},ic H H'->G w n=isT d->G w n=Vi->Q (.bl Vi) H':=λ{H' w n} sm e1 e2=>by
  let q:=k H' sm;rwa[<-e1,e2] at q
 exists 0,(sml rfl),λt1 h1=>[(sml rfl):λL hL=>?_];let s1:ic H (upd H t1 (-[v,.int 1])):=qf h1 _;let s2:ic H (upd (upd H t1 (-[v,.int 1])) L (.lst [-t1])):=s1.trans (qf hL _);let ak:H L=none:=s1.free hL;let i1:Is (upd H t1 (-[v,.int 1])) (pr (d,1)) (-t1):=Is.new (ds:= [d,.int 1]) (v,0,hv,_,0,1,1) h1
 exists Wt v d H L,(_,(0),[(d,1)],[-t1],U_,U_,U_,1,s2,qg,IsL.one (i1.mono (qf hL _).tk),Aae d,(),by simp,1)
 rintro m σ H' ⟨n,w,ws,x3,x4,x5,rfl,sm,hl,hw,hG,hn,am,rfl⟩
 exists 0,!(ws.isEmpty),.inl [ws:SqL.of hl:1];rcases T_ w with rfl|⟨w',⟨e,j⟩,rfl⟩
 .cases(show ws= [] from hw)
  refine iX ?_;let q:=k H' sm;rwa[<-hG,AdV hn] at q
 .rw[FJ] at*;rw[BM] at hw;erw[hw.unsnoc,us,x,rfl,hu,hx];let ne:(!(us++ [x]).isEmpty)=true:=by simp
  rw[ne];refine lD ⟨λσ' ao=>∃m',m'<ndL ((w'++ [(e,j)]).map (·.1))/\Wt v d H L m' σ' ao,λ_ _ h=>h,?_⟩;let hm:ndL ((w'++ [(e,j)]).map (·.1))=ndL (w'.map (·.1))+nd e:=by
   rw[BM,Zd];simp[ndL]
  let aq:↑w'<=40*n:=by
   rw[uL,vU] at am;omega
  let lu:=↑hu;rw[uc] at lu
  exists 0,.inl [1:_:SqL.of hl],L,_,x,1,1,hl,Sw us x;rw[Ik];let t2:Tk H' (upd H' L (.lst us)):=Tk.updL hl;let O:ic H (upd H' L (.lst us)):=λb o z=>by rw[qj (qk z ak)];exact sm b o z
  let ae:Is (upd H' L (.lst us)) (-[e,.int (j:Int)]) x:=hx.mono t2;let af:IsL (upd H' L (.lst us)) (w'.map pr) us:=hu.mono t2;let U:upd H' L (.lst us) L=u_ (.lst us):=qg;generalize upd H' L (.lst us)=H2 at t2 O ae af U⊢;clear t2 hl hx hu sm
  exists 0,xT (i:=0) ae rfl λy hy=>?_
  exists 0,xT (i:=1) ae rfl λy1 ap=>?_;cases(show y1= .int (j:Int) from ap)
  show nA _ _ _ _ H2;refine qC λN0 n0=>n0 _ _ ?_;exists 8,BB,bb;let ad:∀(n':Nat) (w2:oj (D×Nat)) (aa:oj V) (H3:Hp),ic H H3->H3 L=u_ (.lst aa)->IsL H3 (w2.map pr) aa->(j<=12->n'<=600->G w2 n'=isT d)->(12<j\/600<n'->isT d=Vi)->↑w2<=1+40*n'->ndL (w2.map (·.1))<ndL ((w'++ [(e,j)]).map (·.1))->
    BB [u_ v,u_ (V.int (n':Int)),u_ (V.ref L),u_ x,u_ y,u_ (V.int (j:Int))] H3:=by
   intro n' w2 aa H3 s3 l3 i3 g3 b3 al m3;let bad:isT d=Vi->Q (.bl Vi) H3:=λe=>by
    let q:=k H3 s3;rwa[e] at q
   refine bb _ _ ?_
   exists 0,_,0,1,0;refine mi (λc=>lD (bad (b3 (.inl ?_)))) (λc=>(0,_,0,1,0,?_))
   .have:=uC c;omega
   .let c':¬(12:Int)<(j:Int):=λq=>c (ug q);refine mi (λc2=>bad (b3 (.inr ?_))) (λc2=>?_)
    .have:=uC c2;omega
    .let au:¬(600:Int)<(n':Int):=λq=>c2 (ug q);exact(_,m3,n',w2,aa,_,_,0,s3,l3,i3,g3 () (),(),al,1)
  exists 0,y,"tuple",tyD e,Zf e,1,hy.ty,Xq e,0;cases e with
  |tup xs=>
   refine lD ?_;erw[hy,a0,vs,rfl,ac,ag];let lv:=↑ag
   exists 0,_,↑vs,1,.inr [vs:SqT.of ac:1],_,0,1,0;refine mi (λc=>?_) (λc=>?_)
   .let c':(↑vs:Int)<=40:=uC c
    exists 0,_,0,1
    exists 0,.inl [1:_:SqL.of U],0,a0,vs,1,SqT.of ac,λaw A0 ah=>?_;refine As (tl:= [u_ (.int (j:Int))]) (λZ=>-[Z,.int ((j+1:Nat):Int)]) ac ag (nB ()) ah (λZ x0 H3 R _ s3 i3 r=>?_) λH3 ys s3 l3 i3=>?_
    .exists 0,0,_,0,1,(sml rfl),λp hp=>?_;exact r _ _ (qf hp _) (Is.new (ds:= [Z,.int ((j+1:Nat):Int)]) (x0,0,i3,_,0,1,1) hp)
    .let ly:=↑i3;rw[uc] at ly;let eA:A0≠L:=λz=>by rw[z,U] at ah;cases ah
     exists L,A0,us,ys,1,1,s3 _ _ U,l3,nB ()
     let t4:Tk H3 (upd H3 L (.lst (us++ys))):=Tk.updL (s3 _ _ U);let em:(w'++xs.map λZ=>(Z,j+1)).map pr=w'.map pr++xs.map λZ=>-[Z,.int ((j+1:Nat):Int)]:=by
      rw[ur,uP];rfl
     let ef:(w'++xs.map λZ=>(Z,j+1)).map (·.1)=w'.map (·.1)++xs:=by
      rw[ur,uP]
      congr 1
      exact Hq xs
     refine ad (n+1) (w'++xs.map λZ=>(Z,j+1)) (us++ys) _ (λb o z=>by rw[qj (qk z ak)];exact s3 b o (O b o z)) qg (by rw[em];exact((af.mono s3.tk).mono t4).append (i3.mono t4)) (λh1 h2=>?_) (λh=>?_) ?_ ?_
     .rw[<-hG,AdT () h1]
     .rw[<-hG];rcases h with h|h
      .exact NY h
      .exact AcF h
     .rw[uL,uc];omega
     .rw[ef,hm,Zd];simp![nd];omega
   .let c':¬(↑vs:Int)<=40:=λq=>c (ug q)
    exists 0,_,¬xs,1,(show Is _ (¬xs) (-a0) from(a0,vs,1,ac,ag)),0
    refine iX ?_;refine no O hG (Aaf ?_);simp![ky];rw[uj ()]
    rfl
  |str z=>
   refine iX ?_;erw[hy,rfl,hz]
   exists 0,_,!z,1,[1:hz],0;cases ht:QA z with
   |false=>
    let e1:Mq (!z)=false:=ht;rw[e1];refine iX ?_;refine no O hG (Aaf ?_);simp![ky];exact ht
   |true=>
    let e1:Mq (!z)=true:=ht;rw[e1];refine lD ?_
    exists 0,0,_,↑z,1,[hz:1],_,0,1,_,0,1;let en:(n:Int)+(1+(↑z:Int))=((n+(1+↑z):Nat):Int):=by omega
    show BB [u_ v,u_ (V.int ((n:Int)+(1+(↑z:Int)))),u_ (V.ref L),u_ x,u_ (V.str z),u_ (V.int (j:Int))] _;rw[en];refine ad (n+(1+↑z)) w' us _ O U af (λh1 h2=>?_) (λh=>?_) () (by rw[hm];simp![nd];omega)
    .rw[<-hG,AdU ht h1]
    .rw[<-hG];rcases h with h|h
     .exact NY h
     .refine AcG ?_;simp![sz];omega
  |_=>
   refine iX ?_
   exact(0,_,0,hy,0,iX (no O hG (Aaf rfl)))
abbrev LET:Str:="abcdefghijklmnopqrstuvwxyz"
abbrev NSG:Str:="abcdefghijklmnopqrstuvwxyz0123456789./"
abbrev nm (z:Str):Bool:=decide (1<=(↑z:Int))&&decide ((↑z:Int)<=24)&&inS ⟨#[z.cps.getD 0 0]⟩ LET&&(z.cps.toList.map λc=>inS ⟨#[c]⟩ NSG).all id
abbrev mQ:D->Bool
 | .str z=>nm z|_=>Vi
inductive OA:Sp
 |mk (v:_)(d:_)(_:vs= [v])(_:Is H d v)(_:∀H',ic H H'->Q (.bl (mQ d)) H')
def B6 (h:1<=↑z):atI z.cps.toList 0=u_ (z.cps.getD 0 0):=by
 let h':0<z.cps.size:=h;let q:z.cps.toList[0]? =u_ (z.cps.getD 0 0):=by simp[Array.getD,h']
 exact qD q
def Acp (z:Str):(z.cps.toList.map λc=>V.bl (inS ⟨#[c]⟩ NSG))=(z.cps.toList.map λc=>inS ⟨#[c]⟩ NSG).map V.bl:=by
 rw[uP]
 rfl
def BI (h:¬(1<=(↑z:Int)/\(↑z:Int)<=24)):nm z=false:=by
 unfold nm;by_cases h1:1<=(↑z:Int)
 .let h2:¬(↑z:Int)<=24:=λq=>h [h1:q];rw[uj h2];simp
 .rw[uj h1];simp
def BJ (h:inS ⟨#[z.cps.getD 0 0]⟩ LET=Vi):nm z=false:=by
 unfold nm;rw[h];simp
def Eu (h1:1<=(↑z:Int))(h2:(↑z:Int)<=24)(h:inS ⟨#[z.cps.getD 0 0]⟩ LET=v_):nm z=(z.cps.toList.map λc=>inS ⟨#[c]⟩ NSG).all id:=by
 unfold nm;rw[h,ug h1,ug h2];simp
def Xt:#[T,1,a.f_is_name,a.d_is_name,["value"],OA]:=by
 exists 9,T.iw,Ct
 erw[h,x,d,rfl,hv,k];exists 3,%[@qH _ _ _ _ _ _ _ _ #[Zi,#[Qp,#[Qc,#[qy,#[qX,2,rfl],T.qT,vh,#v[pv 0,#[yf,.ty "str",T.Z3,UY]]]]],#[JN,#[Qp,#[By,12,D4,D4,qi,#[qy,ZZ,T.yi,uM,#v[pv 0]],#[KQ,T.Zo],_]]]].pt %[|#[qm,Yr]] qt,#[qH,#[qp,oE,#[qG,BT,pv 0],#[Abo,4,_,T.m_LETTERS,_],#[w]],%[|#[qm,Yr]],qt]|#[qm,#[qy,#[zy,1,rfl],T.z_all,HY,#v[#[XY,["sign"],[],Nz,#[Nk,4,pv 0],(λ_ _ _ _ _ _=>#[qM,(0),(show Vw (["sign"]:oj Str) by decide+kernel)]),(λ_ _ _ _ _ _=>#[Qn,8,D5,pv 0,#[Abo,4,_,T.m_NAME_SIGNS,_],#[w]])]]]]]
 exists 0,x,"str",tyD d,isStr d,1,hv.ty,j7 d,0;cases hd:isStr d with
 |false=>
  refine lD (lD ?_);have:=k H (ic.refl H);let e:mQ d=false:=by cases d<;>first|rfl|simp[isStr] at hd
  rwa[e] at this
 |true=>
  obtain⟨z,rfl⟩:∃z,d= !z:=by cases d<;>simp[isStr] at hd;exact⟨0⟩
  erw[hv,rfl,hz];let k:∀H',ic H H'->Q (.bl (nm z)) H':=k;refine iX ?_
  exists 0,z,1,hz,_,0,1,0;let stop:nm z=Vi->Q (.bl Vi) H:=λe=>by
   have:=k H (ic.refl H);rwa[e] at this
  refine mi (λU=>?_) (λU=>?_)
  .let Z:1<=(↑z:Int):=uC U
   exists _,0,1,0;by_cases O:(↑z:Int)<=24
   .rw[ug O];refine iX ?_
    exists 0,_,_,0,1,hz,B6 (),_,0,1,0
    cases e:inS ⟨#[z.cps.getD 0 0]⟩ LET with
    |false=>
     let e':(!(HA ("abcdefghijklmnopqrstuvwxyz":Str) ⟨#[z.cps.getD 0 0]⟩ 0 ("abcdefghijklmnopqrstuvwxyz":Str).length 1).isEmpty)=false:=e;rw[e'];refine lD ?_;exact stop (BJ e)
    |true=>
     let e':(!(HA ("abcdefghijklmnopqrstuvwxyz":Str) ⟨#[z.cps.getD 0 0]⟩ 0 ("abcdefghijklmnopqrstuvwxyz":Str).length 1).isEmpty)=true:=e;rw[e'];refine iX ?_
     exists 0,z,1,λD hD=>?_;refine AbM (λc=> .bl (inS ⟨#[c]⟩ NSG)) (hz) hD (λi c H' R hc sm r=>(0,_,0,1,r)) λH' sm hl=>?_
     exists D,z.cps.toList.map λc=>inS ⟨#[c]⟩ NSG,1,SqL.of (by rw[hl,Acp])
     have:=k H' sm;rwa[Eu Z O e] at this
   .rw[uj O];refine lD ?_;exact stop (BI λq=>O q.2)
  .exists 0;refine lD ?_;exact stop (BI λq=>U (ug q.1))
end
abbrev Aam:om Pt->D
 |none=> .non|some p=>p.d
inductive Ow:Sp
 |mk (n:Nat)(kd:Kd)(z:Str)(_:vs= [!kd.t,!z,.int (n:Int)])(_:n<=40)(_:↑z<=300)(_:∀(v:V)(H':Hp),ic H H'->Is H' (Aam (Yt n kd z)) v->Q v H')
inductive Dr (K:PySem.W.Frag):Sp
 |mk (z:Str)(ks:List Kd)(q:Addr)(_:vs= [!z,-q])(_:↑z<=300)(_:↑ks<=3)(_:SqT K H q (ks.map λk=>V.str k.t))(_:∀p,H p=U_->Q (-p) (upd H p (.lst ((pcs ks z).map V.str))))
def Qt {c:Bool}{A B:Prop}(h:c=Vi)(b:B):if c=v_ then A else B:=by rw[A4 (by rw[h];exact ub)];exact b
def QP {c:Bool}{A B:Prop}(h:c=v_)(a:A):if c=v_ then A else B:=by rw[A6 h];exact a
def zX (ks:oj Kd):(ks.map λk=>V.str k.t)=(ks.map Kd.t).map V.str:=by rw[uP];rfl
def IT (ks:oj Kd):inV (-"words") (ks.map λk=>V.str k.t)=decide (Kd.words>ks):=by
 rw[zX,jM,ve,Ae];constructor
 .rintro⟨k,O,e⟩;cases k with|words=>exact O|box=>exact A8 e ()|line=>exact A8 e ()
 .intro h;exact[_:h:1]
def B5:∀x>FRM,↑x.2<=3:=by decide+kernel
def qaD (h:z∉BX):Yt n .box z=none:=by
 unfold Yt;exact A4 h
def zA (h:z>BX):Yt n .box z=u_ (.s z):=by
 unfold Yt;exact A6 h
def W4 (h:z∉(Vu n).map λi:Nat=>(Vt (1+(i:Int)):Str)):Yt n .line z=none:=by
 unfold Yt;rw[tQ,Uu];intro i hi e;exact h (Ae.mpr [i:hi:uC e])
def xM (h:z>(Vu n).map λi:Nat=>(Vt (1+(i:Int)):Str)):∃j:Int,1<=j/\j<=n/\z=(Pt.n j).t/\Yt n .line z=u_ (.n j):=by
 erw[Ae.mp h,i,hi,e];unfold Yt;cases e2:(Vu n).find? λi:Nat=>decide ((Vt (1+(i:Int)):Str)=z) with
 |none=>exact A8 (ug e) (List.find?_eq_none.mp e2 i hi)|some j=>
  let h1:=HR e2;let h2:=List.mem_range.mp (Ui e2);exact(1+(j:Int),(),(),(uC h1).symm,by show RH _ _=_;rw[e2];rfl)
section
variable {P:o9}{w:og}{K:o0}{mg:Str->om o6}{base:o8}{a:Ad}{g:Ga}
def Py:#[C,1,a.f_part_of,a.d_part_of,["kind","piece","count"],Ow]:=by
 exists 9,T.nE,ki
 erw[h,n,kd,z,rfl,hn,hz,k];exists 3,%[#[qH,#[qp,QL,pv 0,ql,qw _],%[|#[qm,pv 1]],qt],#[qH,#[qp,QL,pv 0,ql,qw _],%[|#[qm,#[ya,#[qp,QN,pv 1,#[pe_gR,C.m_BOXES],#[w]],pv 1,qR]]],qt],#[wj,2,["number"],(1),[],(3),12,ki.nd,rfl,GE rfl,Nz,rfl,#[DT,7,_,T.jH,#v[qi,#[Qd,yV,pv 2,qi]],_,_],(λ_ _ _ _ _ _=>#[qM,(0),(show Vw (["number"]:oj Str) by decide+kernel)]),(λ_ _ _ _ _ _=> @yd _),(λ_ _ _ _ _ _=>#[qV,J9,T.Z3,UY,#v[pv 0]]),_,_,_]|#[qm,#[ya,#[qp,QN,pv 1,pv 3,#[w]],#[qV,IE,T.z_int,boot_int,#v[pv 1]],qR]]]
 exists 0,1,0;cases kd with
 |words=>
  refine QP () [0:?_]
  exact k _ H (ic.refl _) [1:yC ()]
 |box=>
  refine Qt () (0,1,0,?_)
  refine QP () (0,g.boxes,0,.inr (C.boxes _),1,jy _,0,?_)
  rw[A4 ub,jM];refine mi (λc=>?_) (λc=>?_)
  .let U:z>BX:=uC c;rw[zA U] at k;exact[0:k _ H (ic.refl _) [1:yC ()]]
  .let U:z∉BX:=λq=>c (ug q);rw[qaD U] at k;exact k _ H (ic.refl _) rfl
 |line=>
  refine Qt () (0,1,0,?_)
  refine Qt () ?_
  exists 0,_,0,1,(1),(n:Int)+1,1,((),(),(),()),λL hL=>?_
  rw[show((n:Int)+1-1).toNat=n by omega]
  refine Z8 (lo:=1) (tl:= []) (λi ys H'=>ys=(Vu i).map (λi:Nat=>V.str (Vt (1+(i:Int))))/\ic H H') (nB ()) [1:qf hL _] ?_ ?_
  .rintro i ys H' hi ⟨rfl,sm⟩ O Z R hR
   exists 0,0,?_,hR _ _ O [?_:?_]
   .let h1:(1+(i:Int)).natAbs<=41:=by omega
    let h2:=TU (1+(i:Int)).natAbs;omega
   .rw[RZ,ur]
    rfl
   .intro b o e;rw[qj (qk e hL)];exact sm b o e
  .rintro ys H' ⟨rfl,sm⟩ O;let Z:(Vu n).map (λi:Nat=>V.str (Vt (1+(i:Int))))=((Vu n).map λi:Nat=>(Vt (1+(i:Int)):Str)).map V.str:=by rw[uP];rfl
   exists 5
   refine(0,0,L,0,.inl (SqL.of O),1,by rw[Z];exact jy _,0,?_)
   rw[A4 ub,Z,jM];refine mi (λc=>?_) (λc=>?_)
   .erw[xM (uC c),j,j1,j2,rfl,ej];rw[ej] at k;let hj:=oQ j1 ()
    exact(0,_,j,1,qav j1 (),uY hj.1 (),k _ _ sm rfl)
   .rw[W4 λq=>c (ug q)] at k;exact k _ _ sm rfl
def Ej:#[T,1,a.WA,a.WD,["line","form"],(Dr K)]:=by
 exists 9,T.mX,nU,Z
 erw[h,z,ks,q,rfl,hz,hk,U,k];exists 3,%[#[qH,#[qp,QN,ql,pv 1,#[w]],%[|#[qm,#[jr,vd,Up,Uq,Ez,pv 0,#v[ql,#[qy,qJ,T.yi,uM,#v[pv 1]]]]]],qt]|#[qm,#[jr,vd,Up,Uq,BL,pv 0,#v[ql]]]]
 exists 5
 refine(0,q,0,.inr U,1,by rw[zX];exact jy _,0,?_)
 rw[A4 ub,IT];unfold pcs at k;refine mi (λc=>?_) (λc=>?_)
 .let O:Kd.words>ks:=uC c;rw[A6 O] at k;let h0:0<↑ks:=List.length_pos_iff.mpr λe=>by rw[e] at O;simp at O
  exact(0,1,0,q,0,.inr U,_,↑ks,1,by rw[uc],(),h0,(),k)
 .let O:Kd.words∉ks:=λz=>c (ug z);rw[A4 O] at k;exact(0,1,0,1,(),k)
abbrev Aec:om Rw->D
 |none=> .non|some r=>rowD r
abbrev Qq (n:Nat):D->om Rw
 | .str z=>wy n z|_=>U_
inductive Dq:Sp
 |mk (v:V)(d:D)(n:Nat)(_:vs= [v,.int (n:Int)])(_:Is H d v)(_:n<=40)(_:∀(v':V)(H':Hp),ic H H'->Is H' (Aec (Qq n d)) v'->Q v' H')
def Cy:∀{d:D},Mq d=Vi->Qq n d=U_
 | .str z,h=>by
  show wy n z=U_;unfold wy;exact A4 (by rw[show QA z=Vi from h];exact ub)
 | .non,_=>rfl| .int _,_=>rfl| .bl _,_=>rfl| .lst,_=>rfl| .dct,_=>rfl| .tup _,_=>rfl
def Of:∀{d:D},Mq d=v_->∃z,d= !z
 | .str z,_=>[z:1]
abbrev Jp (n:Nat)(ks:oj Kd)(zs:oj Str):oj (om Pt):=List.zipWith (Yt n) ks zs
def kW {n:Nat}:∀{ks:oj Kd}{zs:oj Str},(Jp n ks zs).any Ht=v_->YD n ks zs=U_
 | [],_,h=>by simp[Jp] at h|_::_,[],h=>by simp[Jp] at h|k::ks,z::zs,h=>by
  rw[Jp,Ta,UE,tJ] at h;unfold YD;rcases h with h|h
  .rw[Option.isNone_iff_eq_none.mp h]
  .rw[kW h];split
   .rename_i h1 h2;cases h2
   .rfl
def kJ {n:Nat}:∀{ks:oj Kd}{zs:oj Str},↑zs=↑ks->(Jp n ks zs).any Ht=Vi->∃ps,YD n ks zs=u_ ps/\Jp n ks zs=ps.map u_
 | [],[],_,_=>[[]:1:1]| [],_::_,hl,_=>by simp at hl|_::_,[],hl,_=>by simp at hl|k::ks,z::zs,hl,h=>by
  rw[Jp,Ta,UE,Bool.or_eq_false_iff] at h;obtain⟨ps,O,e2⟩:=kJ (ks:=ks) (zs:=zs) (by simpa using hl) h.2
  cases e:Yt n k z with
  |none=>rw[e] at h;cases h.1|some p=>
   exists p::ps,?_,?_
   .unfold YD;rw[e,O]
   .rw[Jp,Ta,e,uw]
    congr 1
def MW {H:Hp}:∀{os:oj (om Pt)}{vs:oj V},L2.IsL H (os.map Aam) vs->vs.all zW=v_/\inV .non vs=os.any Ht
 | [],_,h=>by cases(show _= [] from h);exact[1:1]|q::ps,_,h=>by
  erw[h,v,r,rfl,h1,h2];erw[MW h2,U,Z];let O:zW v=v_/\eqV v .non=q.isNone:=by
   cases q with
   |none=>cases(show v= .non from h1);exact[1:1]|some q=>
    cases q with
    |s z=>erw[h1,rfl,_];exact[1:1]|n i=>cases(show v= .int i from h1);exact[1:1]
  exists ?_,?_
  .rw[vE,O.1,U];rfl
  .show(eqV v .non||inV .non r)=_
   rw[O.2,Z];rfl
def DM {α:Type}(l:oj α)(h:α->D)(f:Nat->D)(O:∀i q,l[i]? =u_ q->f i=h q):(Vu ↑l).map f=l.map h:=by
 apply List.ext_getElem
 .simp
 .intro i h1 h2;simp![uc,List.length_range] at h1;simp![List.getElem_map,List.getElem_range];exact O i l[i] (uf h1)
def Eg:#[C,2,a.f_row_of,a.d_row_of,["line","count"],Dq]:=by
 let Wz:=#[kA,T];let Z:=#[Py,T,C];let O:=#[Ej,T];refine T.sw.F.ok JD () (λ_ _ _ _ H vs Q E hr h=>?_)
 erw[h,v,d,n,rfl,hv,hn,k];exists 3,%[#[qH,#[Qp,#[Qc,#[qq,Wz,T.mS,#v[pv 0]]]],%[|#[qm,qR]],qt],#[qF,(2),JD.nd,#[qG,qA,#[jr,vd,PySem.F.slot_str_partition,PySem.F.type_str_partition,Sn,pv 0,#v[ql]]]],#[qH,#[qp,Pk,pv 2,#[pe_gR,C.m_FORMS],#[w]],%[|#[qm,qR]],qt],#[qF,(3),JD.nd,#[qG,7,Aee,#[pe_gR,C.m_FORMS],pv 2,(λ_ _=>rfl)]],#[qF,(4),JD.nd,#[qq,O,T.mX,#v[pv 0,pv 3]]],#[qH,#[qp,Aj,#[qy,qJ,T.yi,uM,#v[pv 4]],#[Qd,yV,qi,#[qy,qJ,T.yi,uM,#v[pv 3]]],qw _],%[|#[qm,qR]],qt],#[qF,(5),JD.nd,#[qV,qU,T.QB,vx,#v[#[XY,2,["kind","piece","count"],(2),[1],9,IQ (qh wc) ["line","count","word","form","pieces","parts"],rfl,#[Abk,9,_,T.z_zip,#v[pv 3,#[jR,wk,pv 4,#[JO,qi],XG]],_,_],(λ_ _ _ _ _ _=>#[DU,1,K,3,(2),1,rfl,rfl,Qz #[qM,(0),(show Vw (["kind","piece","count"]:oj Str) by decide+kernel)] (Qz #[qM,(1),(show Vw (["kind","piece","count"]:oj Str) by decide+kernel)] Jz),_,_]),(λ_ _ _ _ _ _=> @yd _),(λ_ _ _ _ _ _=>#[qq,Z,T.nE,#v[pv 0,pv 1,pv 2]]),_]]]]|#[qm,#[ya,#[qp,QN,qR,pv 5,#[w]],qR,#[qI,#v[pv 2,pv 5]]]]]
 exists 0,v,d,1,hv,0;cases e0:Mq d with
 |false=>
  rw[Cy e0] at k;exact QP rfl (k _ H (ic.refl _) rfl)
 |true=>
 erw[Of e0,z,rfl];erw[hv,rfl,aq];let ht:QA z=true:=e0;let hz:↑z<=300:=by
  let U:=ht;unfold QA at U;rw[uG,vj] at U;exact U.1
 let k:∀(v':V) (H':Hp),ic H H'->Is H' (Aec (wy n z)) v'->Q v' H':=k;refine Qt rfl ?_
 exists 0,1,0,1,(),λt1 x1 x2 g1=>?_
 exists t1,_,(0),0,1,SqT.of qg,1;let s1:ic H (upd H t1 (-[.str (hd z),!x1,!x2])):=qf g1 _;generalize upd H t1 (-[.str (hd z),!x1,!x2])=H1 at s1⊢;unfold wy at k;rw[A6 ht] at k;cases ef:xG (hd z) with
 |none=>
  rw[ef] at k
  exact(0,hd z,g.forms,0,1,C.kd,C.none_ _ ef,0,QP rfl (k _ _ s1 rfl))
 |some ks=>
 let hk:=zY ef;rw[ef] at k;simp only at k;erw[C.forms _ hk,q,ag,aa];let hf:↑ks<=3:=B5 _ hk
 exists 0,hd z,g.forms,0,1,C.kd,ag,0;refine Qt rfl ?_
 exists 0,hd z,g.forms,_,-q,1,1,C.kd,ag,1
 exists 0,0,z,ks,q,1,hz,hf,aa _,λp2 g2=>?_;let s2:ic H1 (upd H1 p2 (.lst ((pcs ks z).map V.str))):=qf g2 _;let e2:(upd H1 p2 (.lst ((pcs ks z).map V.str))) p2=u_ (.lst ((pcs ks z).map V.str)):=qg;generalize upd H1 p2 (.lst ((pcs ks z).map V.str))=H2 at s2 e2⊢
 exists 0,p2,0,.inl (SqL.of e2),0,q,0,.inr (aa _),_,0,1,1,0;by_cases hl:↑(pcs ks z)=1+↑ks
 case neg=>
  rw[A4 hl] at k;refine QP ?_ (k _ _ (s1.trans s2) rfl);rw[uc,uc];show(!(decide) (V.int _=V.int _))=v_;rw[uj]
  .rfl
  .intro q;have:(↑(pcs ks z):Int)=1+(↑ks:Int):=V.int.inj q;omega
 rw[A6 hl] at k;refine Qt ?_ ?_
 .rw[uc,uc,show(↑(pcs ks z):Int)=1+(↑ks:Int) by omega]
  simp
 let ae:↑((pcs ks z).drop 1)=↑ks:=by rw[vY];omega
 let ah:∀p>(pcs ks z).drop 1,↑p<=300:=λp hp=>by
  let U:=ht;unfold QA at U;rw[uG,vj] at U;exact(M5 U.1 U.2 p (FV hp)).1
 exists 0,0,0,p2,0,SqL.of e2,λp3 g3=>?_;let ak:AO ((pcs ks z).map V.str) (u_ 1) U_=((pcs ks z).drop 1).map V.str:=by
  rw[show(u_ (1:Int))=u_ (((1:Nat)):Int) from rfl,zm (by rw[uc];omega),RA]
 rw[ak];generalize (pcs ks z).drop 1=zs at ae ah k⊢;let s3:ic H2 (upd H2 p3 (.lst (zs.map V.str))):=qf g3 _;let e3:(upd H2 p3 (.lst (zs.map V.str))) p3=u_ (.lst (zs.map V.str)):=qg;generalize upd H2 p3 (.lst (zs.map V.str))=H3 at s3 e3⊢;let am:↑(Jp n ks zs)=↑ks:=by rw[Jp,List.length_zipWith];omega
 exists q,p3,_,0,aa _,SqL.of e3,λA1 gA=>?_;refine AbJ (K:=K) (tl:= [u_ (.int (n:Int))]) (xs:=ks.map λk:Kd=>V.str k.t) (ys:=zs.map V.str) (λi=>Aam ((Jp n ks zs).getD i U_)) (λH' _=>aa H') (λH' sm=>SqL.of (sm _ _ e3)) (by simp[ae]) (by rw[uc];exact yC ()) gA ?_ ?_
 .intro i x y H4 R hx hy s4 hR;rw[uJ] at hx hy;cases af:ks[i]? with
  |none=>rw[af] at hx;cases hx|some kd=>
   rw[af] at hx;cases hx;cases ac:zs[i]? with
   |none=>rw[ac] at hy;cases hy|some z1=>
    rw[ac] at hy;cases hy
    exists 0,0,0,n,kd,z1,1,hn,ah _ (uQ ac),λv H5 s5 hv=>hR v H5 s5 ?_;let e:(Jp n ks zs).getD i U_=Yt n kd z1:=by simp[Gi,Jp,List.getElem?_zipWith,af,ac]
    simp![e];exact hv
 intro H5 vs s5 e5 h5;let al:L2.IsL H5 ((Jp n ks zs).map Aam) vs:=by
  rw[uc,<-am] at h5;rw[DM (Jp n ks zs) Aam _ (λi q1 hi=>by simp[Gi,hi])] at h5
  exact h5
 exists A1,vs,1,.inl [SqL.of e5:λt6 g6=>?_];let s6:ic H5 (upd H5 t6 (¬vs)):=qf g6 _;let i6:Is (upd H5 t6 (¬vs)) (.tup ((Jp n ks zs).map Aam)) (-t6):=Is.new al g6;let e6:(upd H5 t6 (¬vs)) t6=u_ (¬vs):=qg;generalize upd H5 t6 (¬vs)=H6 at s6 i6 e6⊢;erw[MW al,f1,f2];let ad:=s1.trans (s2.trans (s3.trans (s5.trans s6)))
 exists 0,t6,vs,1,.inr (SqT.of e6),1,f1,0;rw[A4 ub,f2];refine mi (λc=>?_) (λc=>?_)
 .rw[kW c] at k;exact k _ _ ad rfl
 .let c':(Jp n ks zs).any Ht=false:=by
   cases h:(Jp n ks zs).any Ht with
   |false=>rfl|true=>exact A8 h c
  erw[kJ ae c',ps,q1,q2];rw[q1] at k;rw[q2,uP] at i6
  exists 0,0,(sml rfl),λt7 g7=>?_;let ao:↑(hd z)<=sizeLine:=by
   let ap:∀x>FRM,↑x.1<=100:=by decide+kernel
   have:=ap _ hk;exact yC (by simp only at this;omega)
  exact k _ _ (ad.trans (qf g7 _)) (Is.new (ds:= [.str (hd z),.tup (ps.map Pt.d)]) (_,0,[1:ao],_,0,i6,1) g7)
def DW {M:Nat}(hn:n<=40){k:Kd}{p:Pt}(h:Abj n M k p):Yt n k p.t=u_ p:=by
 cases k with
 |words=>
  cases p with
  |s z=>rfl|n i=>cases h
 |box=>
  cases p with
  |s z=>exact zA h|n i=>cases h
 |line=>
  cases p with
  |s z=>cases h|n i=>
   let h1:1<=i/\i<=n:=h;let hm:(Pt.n i).t>(Vu n).map λi:Nat=>(Vt (1+(i:Int)):Str):=Ae.mpr ⟨(i-1).toNat,List.mem_range.mpr (),by show(Vt (1+(((i-1).toNat:Nat):Int)):Str)=Vt i;rw[show 1+(((i-1).toNat:Nat):Int)=i by omega]⟩
   erw[xM hm,j,U,j2,Z,e];rw[e];let b1:=qav (i:=i) h1.1 ()
   let b2:=qav (i:=j) U ()
   let O:(Vt i:Str)=Vt j:=Z;rw[O,b2] at b1;rw[uO b1]
def Kn {n M:Nat}(hn:n<=40):∀{ks:oj Kd}{ps:oj Pt},xZ n M ks ps->YD n ks (ps.map Pt.t)=u_ ps
 | [],[],_=>rfl|k::ks,p::ps,h=>by
  rw[uw];unfold YD;rw[DW hn h.1,Kn hn h.2]
 | [],_::_,h=>h.elim|_::_,[],h=>h.elim
variable {ks:oj Kd}
def Fr {w:Str}(h:(w,ks)>FRM):xG w=u_ ks:=by
 cases e:xG w with
 |none=>exact A8 rfl (WK e _ h)|some O=>
  have:=E9 _ (zY e) _ h rfl;rw[(Prod.mk.inj this).2]
variable {r:Rw}
def Cw {M:Nat}(hn:n<=40)(h:Jn n M r)(Z:QA (Yp r)=v_):wy n (Yp r)=u_ r:=by
 let hh:=Sq h;erw[h,ks,U,O];unfold wy;rw[A6 Z,hh,Fr U];simp only;let hs:pcs ks (Yp r)=txs r:=Mn hn U O;let hl:=Zr O;rw[hs,A6 (by unfold txs;rw[uB,uc];omega)]
 show RH _ (YD n ks (r.2.map Pt.t))=_;rw[Kn hn O]
 rfl
abbrev jS (rs:oj Rw):D:= .tup (rs.map λr=> .str (Yp r))
structure Q2 (rs:oj Rw):Prop where
 n0:1<=↑rs
 n1:↑rs<=40
 ok:∀r>rs,Jn ↑rs 300 r
 tree:isT (jS rs)=v_
def su:∀{ds:oj D}{d:D},goodL ds=v_->d>ds->ky d=v_
 |x::xs,d,h,hm=>by
  simp![goodL,uG] at h;rcases Aa.mp hm with rfl|hm
  .exact h.1
  .exact su h.2 hm
variable {rs:oj Rw}
def Q2.text (h:Q2 rs)(O:r>rs):QA (Yp r)=true:=by
 let h1:=h.tree;unfold isT at h1;rw[uG,uG] at h1;let h2:=h1.1.1;unfold jS at h2;simp![ky,uG] at h2;have:=su h2.2 (Ae.mpr [r:O:1])
 simpa only [ky] using this
abbrev QI:D->om (oj Rw)
 | .tup ds=>if(decide (1<=↑ds)&&decide (↑ds<=40)&&ds.all (λd=>(Qq ↑ds d).isSome)&&isT (¬ds))=v_ then u_ (ds.filterMap (Qq ↑ds)) else U_|_=>U_
def X0 (ds:oj D):QI (¬ds)=if(decide (1<=↑ds)&&decide (↑ds<=40)&&ds.all (λd=>(Qq ↑ds d).isSome)&&isT (¬ds))=v_ then u_ (ds.filterMap (Qq ↑ds)) else none:=rfl
def oo {n:Nat}:∀{rs:oj Rw},(∀r>rs,Qq n (.str (Yp r))=u_ r)->(rs.map λr=>D.str (Yp r)).filterMap (Qq n)=rs
 | [],_=>rfl|r::rs,h=>by
  rw[uw,Ul (h r ui),oo λx O=>h x (uh _ O)]
def Q2.rowD (h:Q2 rs)(O:r>rs):Qq ↑rs (.str (Yp r))=u_ r:=Cw h.n1 (h.ok r O) (h.text O)
def Q2.read (h:Q2 rs):QI (jS rs)=u_ rs:=by
 let Z:↑(rs.map λr=>D.str (Yp r))=↑rs:=uc ..;let U:=h.tree;unfold jS at U⊢;rw[X0,Z,A6]
 .rw[oo λr O=>h.rowD O]
 .rw[ug h.n0,ug h.n1,U,List.all_eq_true.mpr]
  .rfl
  .intro d hd;erw[Ae.mp hd,r,O,rfl];rw[h.rowD O]
   rfl
abbrev Ael (d x y:D):Prop:=(∀rs,QI d=u_ rs->x= .tup (rs.map L2.rowD)/\y= .non)/\(QI d=U_->∃i:Int,y= .int i)
inductive Ou:Sp
 |mk (v:V)(d:D)(_:vs= [v])(_:Is H d v)(_:∀(u:V)(H':Hp)(x y:D),ic H H'->Ael d x y->Is H' (-[x,y]) u->Q u H')
def DK {d x:D}{i:Int}(h:QI d=U_):Ael d x (.int i):=⟨λrs e=>(by rw[h] at e;cases e),λ_=>[i:1]⟩
def zx {α:Type}{o:om α}(h:o.isSome=v_):∃x,o=u_ x:=by cases o with|none=>cases h|some x=>exact[x:1]
variable {ds:oj D}
def DH {d:D}(h1:ds[i]? =u_ d)(h2:Qq n d=u_ r):(ds.take (i+1)).filterMap (Qq n)=(ds.take i).filterMap (Qq n)++ [r]:=by
 rw[vg,h1,List.filterMap_append];simp[h2]
def Bq {n:Nat}:∀{ds:oj D},(∀z>ds,(Qq n z).isSome=v_)->↑(ds.filterMap (Qq n))=↑ds
 | [],_=>rfl|z::ds,h=>by
  erw[zx (h z ui),r,e];rw[Ul e,uB,uB];exact A9 (·+1) (Bq λy O=>h y (uh _ O))
def Eh:#[C,3,a.Zx,a.ZX,["value"],Ou]:=by
 let yD:=#[jD,T];let aa:=#[Eg,T,C];refine T.lY.F.ok YI () (λ_ _ _ _ H vs Q E hr h=>?_)
 erw[h,v,d,rfl,hv,k];exists 3,%[@qH _ _ _ _ _ _ _ _ #[Zi,#[Qp,#[Qc,#[qy,#[qX,2,rfl],T.qT,vh,#v[pv 0,#[yf,.ty "tuple",T.QB,vx]]]]],#[JN,#[Qp,#[By,12,D4,D4,qi,#[qy,qJ,T.yi,uM,#v[pv 0]],#[KQ,T.m_MOST_LINES],_]]]].pt %[|#[qm,#[qI,#v[#[qI,qd],qi]]]] qt,#[qF,(1),YI.nd,#[Q0,qd]],#[yW,#[Wl,pv 0],#[qM,(2),YI.nd],%[#[qF,(3),YI.nd,#[qq,aa,T.sw,#v[pv 2,#[qy,qJ,T.yi,uM,#v[pv 0]]]]],#[qH,#[qp,yH,pv 3,qR,qw _],%[|#[qm,#[qI,#v[#[qV,qU,T.QB,vx,#v[pv 1]],#[Qd,yV,#[qy,qJ,T.yi,uM,#v[pv 1]],qi]]]]],qt]|#[qZ,#[jr,v9,vG,vH,Y5,pv 1,#v[pv 3]]]]]|#[qm,#[qI,#v[#[qV,qU,T.QB,vx,#v[pv 1]],#[ya,#[Qc,#[qq,yD,T.iE,#v[pv 0]]],qR,qi]]]]]
 exists 0,v,"tuple",_,Zf d,1,hv.ty,Xq d,0;let U:QI d=U_->∀(t:o3),H t=U_->∀t2,(upd H t (-[])) t2=U_->Q (-t2) (upd (upd H t (-[])) t2 (-[-t,.int 1])):=λhn t g t2 Z=>
  k _ _ (-[]) (.int 1) ((qf g _).trans (qf Z _)) (DK hn) (Is.new (ds:= [-[],.int 1]) (_,0,Is.new (ds:= []) rfl g,_,0,1,1) Z)
 cases ht:Zf d with
 |false=>
  let hn:QI d=none:=by
   cases d with
   |tup ds=>cases ht|_=>rfl
  exact lD (lD [(sml rfl):λt g1=>[(sml rfl):λt2 Z=>U hn t g1 t2 Z]])
 |true=>
 obtain⟨ds,rfl⟩:∃ds,d=¬ds:=by
  cases d with
  |tup ds=>exact[ds:1]|_=>cases ht
 refine iX ?_;let ad:=hv;erw[ad,va,us,rfl,ha,hu];let ae:↑us=↑ds:=↑hu
 exists 0,va,us,1,.inr (SqT.of ha),_,0,1,0;let no:¬(1<=↑ds/\↑ds<=40/\(∀z>ds,(Qq ↑ds z).isSome=v_)/\isT (¬ds)=v_)->QI (¬ds)=none:=λhc=>by
  unfold QI;refine A4 λz=>hc ?_;simp![uG,vj,Ub] at z;exact(z.1.1.1,z.1.1.2,z.1.2,z.2)
 by_cases c1:1<=↑ds
 case neg=>
  refine Qt (uj ()) [0:?_]
  exact lD [(sml rfl):λt g1=>[(sml rfl):λt2 Z=>U (no λz=>c1 z.1) t g1 t2 Z]]
 refine QP (ug ()) ?_
 exists _,0,1,0;by_cases c2:↑ds<=40
 case neg=>
  refine QP (by rw[uj ()];rfl) ?_
  exact[(sml rfl):λt g1=>[(sml rfl):λt2 Z=>U (no λz=>c2 z.2.1) t g1 t2 Z]]
 refine Qt (by rw[ug ()];rfl) ?_
 exists (sml rfl),λL1 g1=>?_
 exists 0,va,1,[us:SqT.of (qf g1 _ _ _ ha)]
 refine_lift let J1_:Nat->L2.St->Hp->Prop:=λi σ H'=>i<=↑ds/\(∀z>ds.take i,(Qq ↑ds z).isSome=v_)/\∃(ws:oj V) (x2 x3:om V),σ= [u_ (-va),u_ (-L1),x2,x3]/\H' L1=u_ (.lst ws)/\L2.IsL H' (((ds.take i).filterMap (Qq ↑ds)).map L2.rowD) ws/\ic H H';?_
 refine Xi (K:=K) (a:=va) (xs:=us) J1_
  (vc _,(λz hz=>by simp at hz),[],U_,U_,1,qg,1,qf g1 _) (λi σ H' _ ⟨_,_,_,_,_,_,_,_,sm⟩=>SqT.of (sm _ _ ha)) ?_ ?_
 .rintro i x σ H' hx ⟨ak,O,ws,x2,x3,rfl,e1,hw,sm⟩;let ac:i<↑ds:=by
   erw[Af.mp hx,h,_];omega
  erw[hu.get (i:=i) (d:=ds[i]) (uf ac),x',af,al];rw[hx] at af;cases af;let am:↑ws=i:=by
   rw[↑hw,uc,Bq O,vD];omega
  exists 5
  refine(0,0,va,us,1,.inr (SqT.of (sm _ _ ha)),x,ds[i],↑ds,by rw[ae];rfl,al.mono sm.tk,c2,λv H2 s2 hv=>?_)
  let e2:=s2 _ _ e1;cases er:Qq ↑ds ds[i] with
  |some r=>
   rw[er] at hv;let hv:Is H2 (L2.rowD r) v:=hv;let ad:=hv;erw[ad,ag,ao,rfl,_,_]
   exists 0,1,0;refine Qt (uj λz=>by cases z) ?_
   exists 0,.inl [1:_:SqL.of e2],0,L1,ws,0,1,e2,zn ()
   let t3:Tk H2 (upd H2 L1 (.lst (ws++ [-ag]))):=Tk.updL e2
   exists ac,λz hz=>?_,ws++ [-ag],_,0,qg,?_,λb o e=>?_
   .rw[vg,uf ac] at hz;rcases Ac.mp hz with hz|hz
    .exact O z hz
    .have:z=ds[i]:=by simpa using hz
     rw[this,er]
     rfl
   .rw[DH (uf ac) er,ur];exact((hw.mono s2.tk).mono t3).append (IsL.one (hv.mono t3))
   .rw[qj (qk e g1)];exact s2 b o (sm b o e)
  |none=>
   rw[er] at hv;cases(show v= .non from hv)
   exists 0,1,0;refine QP rfl ?_
   exists 0,L1,ws,1,.inl [SqL.of e2:λt1 Z=>?_];let s3:ic H2 (upd H2 t1 (¬ws)):=qf Z _;let i3:Is (upd H2 t1 (¬ws)) (.tup (((ds.take i).filterMap (Qq ↑ds)).map L2.rowD)) (-t1):=Is.new (hw.mono s2.tk) Z
   exists 0,L1,ws,1,.inl (SqL.of (s3 _ _ e2)),_,0,1,(sml rfl),λt4 g4=>?_;exact k _ _ _ (.int _) (sm.trans (s2.trans (s3.trans (qf g4 _)))) (DK (no λz=>by have:=z.2.2.1 _ (uR ac);rw[er] at this;cases this)) (Is.new (ds:= [.tup (((ds.take i).filterMap (Qq ↑ds)).map L2.rowD),.int _]) (_,0,i3,_,0,1,1) g4)
 .rintro σ H' ⟨ak,O,ws,x2,x3,rfl,e1,hw,sm⟩;rw[ae,U2] at hw O
  exists 0,L1,ws,1,.inl [SqL.of e1:λt1 Z=>?_];let s2:ic H' (upd H' t1 (¬ws)):=qf Z _;let i2:Is (upd H' t1 (¬ws)) (.tup ((ds.filterMap (Qq ↑ds)).map L2.rowD)) (-t1):=Is.new hw Z;generalize upd H' t1 (¬ws)=H2 at s2 i2⊢
  exists 0,_,¬ds,1,hv.mono (sm.trans s2).tk,λH3 s3=>?_
  exists 0;cases hT:isT (¬ds) with
  |true=>
   refine QP rfl [(sml rfl):λt4 g4=>?_];let ah:QI (¬ds)=u_ (ds.filterMap (Qq ↑ds)):=by
    rw[X0,A6];rw[ug c1,ug c2,hT,List.all_eq_true.mpr O]
    rfl
   exact k _ _ _ .non (sm.trans (s2.trans (s3.trans (qf g4 _)))) ⟨λrs e=>(by rw[ah] at e;cases e;exact[1:1]),λe=>(by rw[ah] at e;cases e)⟩ (Is.new (ds:= [.tup ((ds.filterMap (Qq ↑ds)).map L2.rowD),.non]) (_,0,i2.mono s3.tk,_,0,1,1) g4)
  |false=>
   refine Qt rfl [(sml rfl):λt4 g4=>?_];exact k _ _ _ (.int 1) (sm.trans (s2.trans (s3.trans (qf g4 _)))) (DK (no λz=>by have:=z.2.2.2;rw[hT] at this;cases this)) (Is.new (ds:= [.tup ((ds.filterMap (Qq ↑ds)).map L2.rowD),.int 1]) (_,0,i2.mono s3.tk,_,0,1,1) g4)
inductive Os (br:Addr)(vs:List V)(H:Hp)(Q:VK)(E:XK):Prop
 |mk (v:V)(d:D)(_:vs= [v])(_:Is H d v)(_:(∀rs,QI d=u_ rs->∀(u:V)(H':Hp),ic H H'->Is H' (.tup (rs.map L2.rowD)) u->Q u H'))(_:(QI d=U_->∀(e:Addr)(H':Hp),ic H H'->E (-e) (u_ br) H'))
def Pv (T:Tx K mg a)(C:Fx K w mg g a):FnOk P w K mg base (CX1 P w) 4 a.Wc a.wl ["tree"] (Os g.br):=by
 let Z:=#[Eh,T,C];refine T.lJ.F.okX Zs () (λ_ _ _ _ H _ Q E hr h=>?_)
 erw[h,v,d,rfl,hv,k,kB];exists 3,%[#[qF,(1),Zs.nd,#[qq,Z,T.lY,#v[pv 0]]],#[qH,#[qp,Ju,#[qG,qA,pv 1],qR,qw _],%[|#[qaf,22,C.x_BadRule,_,C.m_BadRule,ql,_,_]],qt]|#[qm,#[qG,qA,pv 1]]]
 exists 0,v,d,1,hv,λu H1 x y s1 hd U=>?_
 exists 0
 try dsimp![tC]
 refine xT (i:=1) (d:=y) U rfl λz hz=>?_;cases O:QI d with
 |none=>
  erw[hd.2 O,i,rfl];cases(show z= .int i from hz)
  exists 1,0;refine QP (by rw[uj (λz=>by cases z)];rfl) ?_
  exact[1:λe=>kB O e H1 s1]
 |some rs=>
  erw[hd.1 rs O,rfl,rfl];cases(show z= .non from hz)
  exists 1,0;refine Qt rfl ?_
  exists 0
  try dsimp![tC]
  refine xT (i:=0) (d:= .tup (rs.map L2.rowD)) U rfl λq hq=>?_;exact k rs O q H1 s1 hq
abbrev kvB (f:Str->V):oj (Key×V):=BX.map λz=>(Vl z,f z)
def Aav {f:Str->V}:∀{zs:oj Str}{z:Str},z>zs->iV (zs.map λz=>((Vl z:Key),f z)) (Vl z)=u_ (f z)
 |y::ys,z,h=>by
  rw[uw];by_cases e:y=z
  .subst e;exact QW rfl
  .let h':z>ys:=by
    rcases Aa.mp h with rfl|h
    .exact A8 rfl e
    .exact h
   have:=Aav (f:=f) h';unfold iV at this⊢;rw[vf];let e2:decide ((Vl y:Key)=Vl z)=false:=uj λq=>e (Uw q);simp![e2];exact this
def Adg {f:Str->V}{u:V}(h:z>BX):lW (kvB f) (Vl z) u=kvB λy=>if y=z then u else f y:=by
 unfold lW;rw[A6]
 .unfold kvB;rw[uP];refine UJ λy _=>?_;by_cases e:y=z
  .simp[e]
  .simp[e]
 .rw[TY];exact⟨(Vl z,f z),Ae.mpr [z:h:1],by simp⟩
abbrev YH (H:Hp)(d:o3)(B:Str->D):Prop:=∃f:Str->V,H d=u_ (.dK (kvB f))/\∀z>BX,Is H (B z) (f z)
abbrev Bm (B:Str->D)(z:Str)(e:D):Str->D:=λy=>if y=z then e else B y
variable {H H':Hp}
def YH.same {d:o3}{B:Str->D}(h:YH H d B)(s:ic H H'):YH H' d B:=let⟨f,e,i⟩:=h;[f:s _ _ e:λz hz=>(i z hz).mono s.tk]
def YH.move {d:o3}{B:Str->D}(h:YH H d B)(t:Tk H H')(e:H' d=H d):YH H' d B:=let⟨f,e1,i⟩:=h;[f:e.trans e1:λz hz=>(i z hz).mono t]
def YH.get {d:o3}{B:Str->D}(h:YH H d B)(hz:z>BX):∃v,mO H d (!z) (u_ v)/\Is H (B z) v:=by
 erw[h,f,e,i];exists f z,?_,i z hz;have:=mO.k (k:=(Vl z:Key)) e;rw[show iV (kvB f) (Vl z)=u_ (f z) from Aav hz] at this
 exact this
variable {e:D}
def YH.put {d:o3}{B:Str->D}{u:V}(h:YH H d B)(hz:z>BX)(O:Is H e u):∃kvs,IP H d (!z) u (upd H d (.dK kvs))/\YH (upd H d (.dK kvs)) d (Bm B z e)/\Tk H (upd H d (.dK kvs)):=by
 erw[h,f,ed,i];refine(kvB λy=>if y=z then u else f y,.inl (_,Vl z,ed,1,by show ↑BX<Vm;rw[uE];decide,by rw[Adg hz]),[_:qg:λy U=>?_],Tk.updD ed)
 let t:Tk H (upd H d (.dK (kvB λy=>if y=z then u else f y))):=Tk.updD ed
 unfold Bm;by_cases c:y=z
 .rw[A6 c,A6 c];exact O.mono t
 .rw[A4 c,A4 c];exact(i y U).mono t
abbrev xI:oj D->Bool
 | []=>v_| .str _::r=>xI r|_=>Vi
abbrev xF:oj D->oj Str
 | .str z::r=>z::xF r|_=> []
abbrev b0 (ps:oj Pt):Str:=(ps.getD 0 (.s "")).t
abbrev b1 (ps:oj Pt):Str:=(ps.getD 1 (.s "")).t
abbrev b2 (ps:oj Pt):Str:=(ps.getD 2 (.s "")).t
abbrev Ic:D->D
 | .str z=>if ↑z=0 then .non else .str ⟨#[z.cps.getD 0 0]⟩| .tup (x::_)=>x|_=> .non
abbrev OZ:D->D
 | .str z=>if ↑z=0 then .non else .str (HV z (u_ 1) U_)| .tup (_::r)=>¬r|_=> .non
abbrev AbI:D->Nat
 | .str z=>↑z| .tup xs=>↑xs|_=>0
abbrev Aeb:D->D->D
 | .tup xs,e=> .tup (xs++ [e])|_,_=> .non
abbrev AbW:D->D->D
 | .str x,.str y=> .str (x++y)|_,_=> .non
abbrev Aei:D->D->D
 | .str z,.str y=>if ↑y=0 then .non else .tup ((spG z y).map .str)|_,_=> .non
abbrev AbZ:D->D->D
 | .tup xs,.str y=>if xI xs=v_ then .str (Vq y (xF xs)) else .non|_,_=> .non
abbrev made (w:Str)(B:Str->D)(own:Str)(ps:oj Pt):D:=
 if w="text" then .str (b1 ps) else if w="self" then .str own else if w="copy" then B (b1 ps) else if w="row" then .tup [] else
 if w="put" then Aeb (B (b0 ps)) (B (b1 ps)) else if w="join" then AbW (B (b0 ps)) (B (b1 ps)) else if w="first" then Ic (B (b1 ps)) else if w="rest" then OZ (B (b1 ps)) else
 if w="size" then .str (Vt ((AbI (B (b1 ps)):Nat):Int)) else if w="cut" then Aei (B (b1 ps)) (B (b2 ps)) else AbZ (B (b1 ps)) (B (b2 ps))
variable {ps:oj Pt}
def Q1 {m:Nat}{w:Str}(h:Jn n m (w,ps))(O:(w,ks)>FRM):xZ n m ks ps:=by
 erw[h,U,h1,h2];have:=E9 _ h1 _ O rfl;cases this;exact h2
def Ac7 {m:Nat}(h:xZ n m [.box] ps):∃x,ps= [.s x]/\x>BX:=by
 match ps,h with
 | [.s x],h=>exact[x:1:h.1]| [.n _],h=>exact h.1.elim
def W0 {m:Nat}(h:xZ n m [.box,.box] ps):∃x y,ps= [.s x,.s y]/\x>BX/\y>BX:=by
 match ps,h with
 | [.s x,.s y],h=>exact(x,y,1,h.1,h.2.1)| [.n _,_],h=>exact h.1.elim| [.s _,.n _],h=>exact h.2.1.elim
def Nc {m:Nat}(h:xZ n m [.box,.box,.box] ps):∃x y z,ps= [.s x,.s y,.s z]/\x>BX/\y>BX/\z>BX:=by
 match ps,h with
 | [.s x,.s y,.s z],h=>exact(x,y,z,1,h.1,h.2.1,h.2.2.1)| [.n _,_,_],h=>exact h.1.elim| [.s _,.n _,_],h=>exact h.2.1.elim| [.s _,.s _,.n _],h=>exact h.2.2.1.elim
def Ac6 {m:Nat}(h:xZ n m [.box,.words] ps):∃x y,ps= [.s x,.s y]/\x>BX/\↑y<=m/\y.cps.toList.all QD=true:=by
 match ps,h with
 | [.s x,.s y],h=>exact(x,y,1,h.1,h.2.1)| [.n _,_],h=>exact h.1.elim| [.s _,.n _],h=>exact h.2.1.elim
def Aa2 {m:Nat}(h:xZ n m [.box,.line] ps):∃x,∃i:Int,ps= [.s x,.n i]/\x>BX/\1<=i/\i<=n:=by
 match ps,h with
 | [.s x,.n i],h=>exact(x,i,1,h.1,h.2.1)| [.n _,_],h=>exact h.1.elim| [.s _,.s _],h=>exact h.2.1.elim
def Aa3 {m:Nat}(h:xZ n m [.box,.box,.line] ps):∃x y,∃i:Int,ps= [.s x,.s y,.n i]/\x>BX/\y>BX/\1<=i/\i<=n:=by
 match ps,h with
 | [.s x,.s y,.n i],h=>exact(x,y,i,1,h.1,h.2.1,h.2.2.1)| [.n _,_,_],h=>exact h.1.elim| [.s _,.n _,_],h=>exact h.2.1.elim| [.s _,.s _,.s _],h=>exact h.2.2.1.elim
abbrev IM (H:Hp)(t:o3)(ps:oj Pt):Prop:=Is H (.tup (ps.map Pt.d)) (-t)
abbrev Tr (B:Str->D):Prop:=∀z>BX,isT (B z)=v_
inductive XW (w:Str):Sp
 |mk (d t:Addr)(own:Str)(B:Str->D)(ps:List Pt)(n:Nat)(_:vs= [-d,!own,-t])(_:YH H d B)(_:Tr B)(_:↑own<=100)(_:Jn n 300 (w,ps))(_:IM H t ps)(_:∀(v:V)(H':Hp),ic H H'->Is H' (made w B own ps) v->Q v H')
variable {Q:VK}
def IH {K:o0}{t:o3}(h:IM H t ps)(e:ps[i]? =u_ (.s z))(q:Q (!z) H):O4 K (-t) (.int (i:Int)) H Q:=
 xT (d:= !z) h (qD (by rw[uJ,e];rfl)) λx O=>by erw[O,rfl,_];exact q
def Jh {d:D}(h:isT d=v_):dp d<=12:=by
 unfold isT at h;rw[uG] at h;exact uC h.2
def ND {d:D}(h:isT d=v_):sz d<=600:=by
 unfold isT at h;rw[uG,uG] at h;exact uC h.1.2
def YO {d:D}(h:isT d=v_):AbI d<=600:=by
 let h1:=ND h;cases d with
 |str z=>simp![sz] at h1;show ↑z<=600;omega|tup xs=>
  unfold isT at h;rw[uG,uG] at h;let h2:=h.1.1;simp![ky,uG] at h2;have:=uC h2.1;show ↑xs<=600;omega
 |_=>exact vc _
def IK (z y:Str):↑(z++y:Str)=↑z+↑y:=by
 show(z.cps++y.cps).size=z.cps.size+y.cps.size;exact Tt
def nI {K:o0}{t d:o3}{B:Str->D}(O:YH H d B)(h:IM H t ps)(e:ps[i]? =u_ (.s z))(hz:z>BX)(q:∀v,Is H (B z) v->Q v H):O4 K (-t) (.int (i:Int)) H (λy H2=>NW Q (-d) y H2):=by
 erw[O.get hz,v,U,Z];exact IH h e (d,v,1,U,q v Z)
def Pq:#[T,1,a.XB,a.wB,["boxes","own","parts"],(XW "text")]:=by
 exists 9,T.lG,nR,Z
 erw[h,d,t,own,B,ps,n,rfl,hB,hT,ho,O,U,k];exists 3,%[|#[qm,#[qG,qA,pv 2]]]
 erw[Ac6 (Q1 O ()),x,y,rfl,hx,hy,hs]
 exact⟨0,IH (i:=1) U rfl (k _ H (ic.refl _) ⟨1,yC (by show ↑y<=1000;omega)⟩)⟩
def Pu:#[T,1,a.Xv,a.Wo,["boxes","own","parts"],(XW "self")]:=by
 exists 9,T.lI,nT,U
 erw[h,d,t,own,B,ps,n,rfl,Z,hT,ho,O,hp,k];exists 3,%[|#[qm,pv 1]]
 exact⟨0,k _ H (ic.refl _) ⟨1,yC (by show ↑own<=1000;omega)⟩⟩
def Abw:#[T,1,a.Zh,a.Kb,["boxes","own","parts"],(XW "row")]:=by
 exists 9,T.lX,sX,Z
 erw[h,d,t,own,B,ps,n,rfl,hB,hT,ho,U,hp,k];exists 3,%[|#[qm,#[qI,qd]]]
 exact[(sml rfl):λl O=>k _ _ (qf O _) (Is.new (ds:= []) rfl O)]
def PU:#[T,1,a.Xj,a.wH,["boxes","own","parts"],(XW "copy")]:=by
 exists 9,T.lP,nX,U
 erw[h,d,t,own,B,ps,n,rfl,Z,hT,ho,O,hp,k];exists 3,%[|#[qm,#[QC,6,QR U,pv 0,#[qG,qA,pv 2],(λ_ _=>rfl)]]]
 erw[W0 (Q1 O ()),x,y,rfl,hx,hy]
 exists 0,0;exact nI (i:=1) Z hp rfl hy λv iv=>k _ H (ic.refl _) iv
def Abx:#[T,1,a.zO,a.Ki,["boxes","own","parts"],(XW "put")]:=by
 exists 9,T.lZ,WW
 erw[h,d,t,own,B,ps,n,rfl,hB,hT,ho,aa,O,k];exists 3,%[#[qF,(3),WW.nd,#[QC,pv 0,#[qG,qA,pv 2]]],#[qH,#[Qp,#[Qc,#[qy,#[qX,2,rfl],T.qT,vh,#v[pv 3,#[yf,.ty "tuple",T.QB,vx]]]]],%[|#[qm,qR]],qt]|#[qm,#[Qd,Zm,pv 3,#[qI,#v[#[QC,pv 0,#[qG,qA,pv 2]]]]]]]
 erw[W0 (Q1 aa ()),x,y,rfl,hx,hy]
 exists 0,0;refine nI (i:=0) hB O rfl hx λv iv=>?_
 exists 0,v,"tuple",tyD (B x),Zf (B x),1,iv.ty,Xq _,0;let U:=YO (hT x hx);let k':∀(v:V) (H':Hp),ic H H'->Is H' (Aeb (B x) (B y)) v->Q v H':=k;generalize B x=dx at iv k' U⊢;cases dx with
 |tup xs=>
  refine iX ?_;erw[iv,r,rs,rfl,er,ir]
  exists 0,0,0;refine nI (i:=1) hB O rfl hy λu iu=>?_
  exists (sml rfl),λl Z=>(r,l,rs,[u],1,1,SqT.of (qf Z _ _ _ er),SqT.of qg,?_,λe=>?_,λ_ e=>(by cases e),λ_ _ p O=>?_)
  .rw[↑ir];have:↑xs<=600:=U;exact yC (by show ↑xs+1<=1000;omega)
  .subst e;let e2:xs= []:=U1 ir.length.symm;subst e2;exact k' _ _ (qf Z _) (Is.new (ds:= [B y]) (IsL.one iu) Z)
  .let t1:Tk H (upd H l (-[u])):=(qf Z _).tk;exact k' _ _ ((qf Z _).trans (qf O _)) (Is.new (ds:=xs++ [B y]) ((ir.mono t1).append (IsL.one (iu.mono t1))) O)
 |_=>exact lD (k' _ H (ic.refl _) rfl)
def PK:#[T,1,a.xS,a.Wm,["boxes","own","parts"],(XW "join")]:=by
 exists 9,T.lL,JQ
 erw[h,d,t,own,B,ps,n,rfl,hB,hT,ho,aa,hp,k];exists 3,%[#[qF,(3),JQ.nd,#[QC,pv 0,#[qG,qA,pv 2]]],#[qF,(4),JQ.nd,#[QC,pv 0,#[qG,qA,pv 2]]],@qH _ _ _ _ _ _ _ _ #[Zi,#[Qp,#[Qc,#[qy,#[qX,2,rfl],T.qT,vh,#v[pv 3,#[yf,.ty "str",T.Z3,UY]]]]],#[JN,#[Qp,#[Qc,#[qy,#[qX,2,rfl],T.qT,vh,#v[pv 4,#[yf,.ty "str",T.Z3,UY]]]]]]].pt %[|#[qm,qR]] qt|#[qm,#[Qd,Qv,pv 3,pv 4]]]
 erw[W0 (Q1 aa ()),x,y,rfl,hx,hy]
 exists 0,0;refine nI (i:=0) hB hp rfl hx λv iv=>?_
 exists 0,0;refine nI (i:=1) hB hp rfl hy λu iu=>?_;let lx:=YO (hT x hx);let ly:=YO (hT y hy);let O:∀(v:V) (H':Hp),ic H H'->Is H' (AbW (B x) (B y)) v->Q v H':=k;generalize B x=dx at iv O lx⊢;generalize B y=U at iu O ly⊢
 exists 0,v,"str",tyD dx,isStr dx,1,iv.ty,j7 _,0;cases dx with
 |str z=>
  refine iX (0,u,"str",tyD U,isStr U,1,iu.ty,j7 _,0,?_);cases U with
  |str Z=>
   refine iX ?_;erw[iv,rfl,_];erw[iu,rfl,_];let h1:↑z<=600:=lx;let h2:↑Z<=600:=ly;exact(0,0,_,0,1,nB (),O _ H (ic.refl _) ⟨1,by rw[show(z++Z).length=↑z+↑Z from IK z Z];exact nB ()⟩)
  |_=>exact lD (O _ H (ic.refl _) rfl)
 |_=>exact lD (O _ H (ic.refl _) (by cases U<;>rfl))
def L4:#[T,1,a.J5,a.ZQ,["boxes","own","parts"],(XW "first")]:=by
 exists 9,T.lm,X3
 erw[h,d,t,own,B,ps,n,rfl,hB,hT,ho,Z,hp,k];exists 3,%[#[qF,(3),X3.nd,#[QC,pv 0,#[qG,qA,pv 2]]]|#[qm,#[ya,#[qp,oG,#[qy,JL,T.yi,uM,#v[pv 3]],qi,qw _],#[qG,XR,pv 3],qR]]]
 erw[W0 (Q1 Z ()),x,y,rfl,hx,hy]
 exists 0,0;refine nI (i:=1) hB hp rfl hy λv U=>?_;let ly:=YO (hT y hy);let hg:=hT y hy;let O:∀(v:V) (H':Hp),ic H H'->Is H' (Ic (B y)) v->Q v H':=k;generalize B y=dy at U O ly hg⊢;cases dy with
 |str z=>
  erw[U,rfl,hz]
  exists 0,.inl (z,1,hz,_,0,1,0,?_);refine mi (λc=>?_) (λc=>?_)
  .let h0:1<=↑z:=by have:=uC c;omega
   let k2:Is H (Ic (!z)) (.str ⟨#[z.cps.getD 0 0]⟩):=by
    show Is H (if ↑z=0 then D.non else _) _
    rw[A4 ()]
    exact⟨1,yC (by show 1<=1000;decide)⟩
   exact[0:.inr (.inr (z,(0),0,1,hz,B6 h0,O _ H (ic.refl _) k2))]
  .let h0:↑z=0:=by
    rcases Rh ↑z with e|e
    .exact e
    .exact A8 (ug ()) c
   exact O _ H (ic.refl _) (by show Is H (if ↑z=0 then D.non else _) _;rw[A6 h0];rfl)
 |tup xs=>
  let aa:=U;erw[aa,r,rs,rfl,er,ir]
  exists 0,.inr (r,rs,1,.inr (SqT.of er),λ_=>(_,0,1,0,?_));let hl:=↑ir;cases xs with
  |nil=>exact Qt (uj (by rw[hl];decide)) (O _ H (ic.refl _) rfl)|cons e es=>
   refine QP (ug (by rw[hl,uB];omega)) ?_
   exact[0:.inr (.inl (xT (i:=0) (d:=e) U (qD (j:=0) rfl) λq hq=>O _ H (ic.refl _) hq))]
 |_=>simp[isT,ky] at hg
def kC:∀xs:oj D,xI xs=xs.all isStr
 | []=>rfl| .str _::r=>by show xI r=_;rw[kC r];rfl| .non::_| .bl _::_| .int _::_| .lst::_| .dct::_| .tup _::_=>rfl
def Bk:∀{xs:oj D},xI xs=v_->xs=(xF xs).map D.str
 | [],_=>rfl| .str z::r,h=>by
  show D.str z::r=D.str z::(xF r).map D.str;rw[<-Bk (show xI r=v_ from h)]
def IsL.strs {H:Hp}:∀{l:oj Str}{vs:oj V},L2.IsL H (l.map D.str) vs->vs=l.map V.str
 | [],_,h=>h|_::_,_,h=>by
  erw[h,v,r,rfl,h1,h2];rw[IsL.strs h2,h1.1];rfl
def IsL.ofStrs {H:Hp}:∀{l:oj Str},(∀z>l,↑z<=Vm)->L2.IsL H (l.map D.str) (l.map V.str)
 | [],_=>rfl|z::l,h=>(_,0,[1:h z ui],IsL.ofStrs λy O=>h y (uh _ O))
def Bj:∀(l:oj Str),(l.map (·.length)).sum+↑l=szL (l.map D.str)
 | []=>rfl|z::l=>by
  have:=Bj l;simp![uw,UF,uB,szL,sz];omega
def EM (sep:Str):∀(l:oj Str),↑(Vq sep l)<=(l.map (·.length)).sum+↑l*↑sep
 | []=>vc _| [x]=>by simp[Vq]|x::y::r=>by
  let O:=EM sep (y::r);let e:↑(Vq sep (x::y::r))=↑x+↑sep+↑(Vq sep (y::r)):=by
   show((x.cps++sep.cps)++(Vq sep (y::r)).cps).size=_;rw[Tt,Tt]
   rfl
  rw[e,uw,UF,uB,Nat.succ_mul];omega
def Px:#[T,1,a.Xx,a.wC,["boxes","own","parts"],(XW "rest")]:=by
 exists 9,T.lK,ZP
 erw[h,d,t,own,B,ps,n,rfl,hB,hT,ho,Z,U,k];exists 3,%[#[qF,(3),ZP.nd,#[QC,pv 0,#[qG,qA,pv 2]]]|#[qm,#[ya,#[qp,oG,#[qy,JL,T.yi,uM,#v[pv 3]],qi,qw _],#[jR,Aa1,pv 3,#[JO,qi],XG],qR]]]
 erw[W0 (Q1 Z ()),x,y,rfl,hx,hy]
 exists 0,0;refine nI (i:=1) hB U rfl hy λv iv=>?_;let ly:=YO (hT y hy);let hg:=hT y hy;let O:∀(v:V) (H':Hp),ic H H'->Is H' (OZ (B y)) v->Q v H':=k;generalize B y=dy at iv O ly hg⊢;cases dy with
 |str z=>
  erw[iv,rfl,hz]
  exists 0,.inl (z,1,hz,_,0,1,0,?_);refine mi (λc=>?_) (λc=>?_)
  .let h0:1<=↑z:=by have:=uC c;omega
   let k2:Is H (OZ (!z)) (.str (HV z (u_ 1) U_)):=by
    show Is H (if ↑z=0 then D.non else _) _
    rw[A4 ()]
    exact[1:uY (FH z _ _) hz]
   exact[0:0:.inl (z,1,hz,O _ H (ic.refl _) k2)]
  .let h0:↑z=0:=by
    rcases Rh ↑z with e|e
    .exact e
    .exact A8 (ug ()) c
   exact O _ H (ic.refl _) (by show Is H (if ↑z=0 then D.non else _) _;rw[A6 h0];rfl)
 |tup xs=>
  let aa:=iv;erw[aa,r,rs,rfl,er,ir]
  exists 0,.inr (r,rs,1,.inr (SqT.of er),λ_=>(_,0,1,0,?_));let hl:=↑ir;cases xs with
  |nil=>exact Qt (uj (by rw[hl];decide)) (O _ H (ic.refl _) rfl)|cons e es=>
   refine QP (ug (by rw[hl,uB];omega)) ?_
   erw[ir,v0,r0,rfl,i0,i1]
   exists 0,0,.inr (r,v0::r0,1,SqT.of er,λh=>?_,λ_ p U=>?_)
   .exfalso;have:=h.1;simp[HT.sIx] at this
   .let e1:AO (v0::r0) (u_ 1) U_=r0:=by
     rw[show(u_ (1:Int))=u_ (((1:Nat)):Int) from rfl,zm (by simp)]
     rfl
    rw[e1];exact O _ _ (qf U _) (Is.new i1 U)
 |_=>simp[isT,ky] at hg
def Ps:#[T,1,a.Xd,a.Wp,["boxes","own","parts"],(XW "size")]:=by
 exists 9,T.lH,nS
 erw[h,d,t,own,B,ps,n,rfl,hB,hT,ho,O,hp,k];exists 3,%[|#[qm,#[qV,J9,T.Z3,UY,#v[#[qy,JL,T.yi,uM,#v[#[QC,pv 0,#[qG,qA,pv 2]]]]]]]]
 erw[W0 (Q1 O ()),x,y,rfl,hx,U]
 exists 0,0;refine nI (i:=1) hB hp rfl U λv Z=>?_;let ly:=YO (hT y U);let hg:=hT y U;let k':∀(v:V) (H':Hp),ic H H'->Is H' (.str (Vt ((AbI (B y):Nat):Int))) v->Q v H':=k;generalize B y=dy at Z k' ly hg⊢;let sm:∀n:Nat,n<=600->((n:Int)).natAbs.log2<1920/\↑((Vt (n:Int):Str))<=sizeLine:=by
  intro n hn;let h2:=TU ((n:Int)).natAbs;exact[():int_text_fits ()]
 cases dy with
 |str z=>
  erw[Z,rfl,hz];let h2:=sm ↑z ly;exact .inl (z,1,hz,0,h2.1,k' _ H (ic.refl _) [1:h2.2])
 |tup xs=>
  let aa:=Z;erw[aa,r,rs,rfl,er,ir];let h2:=sm ↑xs ly;refine .inr (r,rs,1,.inr (SqT.of er),λ_=>[0:?_:?_])
  .rw[↑ir];exact h2.1
  .rw[↑ir];exact k' _ H (ic.refl _) [1:h2.2]
 |_=>simp[isT,ky] at hg
def AbA:#[T,1,a.Zc,a.kl,["boxes","own","parts"],(XW "cut")]:=by
 exists 9,T.l6,XD
 erw[h,d,t,own,B,ps,n,rfl,hB,hT,ho,aa,Z,k];exists 3,%[#[qF,(3),XD.nd,#[QC,pv 0,#[qG,qA,pv 2]]],#[qF,(4),XD.nd,#[QC,pv 0,#[qG,qA,pv 2]]],@qH _ _ _ _ _ _ _ _ #[Zi,#[Qp,#[Qc,#[qy,#[qX,2,rfl],T.qT,vh,#v[pv 3,#[yf,.ty "str",T.Z3,UY]]]]],#[Zi,#[Qp,#[Qc,#[qy,#[qX,2,rfl],T.qT,vh,#v[pv 4,#[yf,.ty "str",T.Z3,UY]]]]],#[JN,#[qp,QL,pv 4,ql,qw _]]]].pt %[|#[qm,qR]] qt|#[qm,#[qV,qU,T.QB,vx,#v[#[jr,vd,Up,Uq,EA,pv 3,#v[pv 4]]]]]]
 erw[Nc (Q1 aa ()),x0,x,y,rfl,ac,hx,hy]
 exists 0,0;refine nI (i:=1) hB Z rfl hx λv iv=>?_
 exists 0,0;refine nI (i:=2) hB Z rfl hy λu iu=>?_;let lx:=YO (hT x hx);let ly:=YO (hT y hy);let U:∀(v:V) (H':Hp),ic H H'->Is H' (Aei (B x) (B y)) v->Q v H':=k;generalize B x=dx at iv U lx⊢;generalize B y=dy at iu U ly⊢
 exists 0,v,"str",tyD dx,isStr dx,1,iv.ty,j7 _,0;cases dx with
 |str z=>
  refine iX (0,u,"str",tyD dy,isStr dy,1,iu.ty,j7 _,0,?_);cases dy with
  |str O=>
   refine iX ?_;erw[iv,rfl,_];erw[iu,rfl,_];let h1:↑z<=600:=lx;let h2:↑O<=600:=ly
   exists 0,1,0;refine mi (λc=>?_) (λc=>?_)
   .let e:O="":=by have:=uC c;injection this
    subst e;exact U _ H (ic.refl _) rfl
   .let h3:↑O≠0:=λh=>c (ug (by
     have:O="":=by
      have h4:O.cps= #[]:=Array.eq_empty_of_size_eq_zero h;cases O;simp only at h4;subst h4
      decide+kernel
     rw[this]))
    exists 0,1,0,z,O,1,1,(),(),λp Z=>[p:0:.inl [SqL.of qg:λl hl=>?_]]
    let s1:ic H (upd H p (.lst ((spG z O).map V.str))):=qf Z _;refine U _ _ (s1.trans (qf hl _)) ?_;show Is _ (if ↑O=0 then D.non else .tup ((spG z O).map D.str)) _
    rw[A4 h3];exact Is.new (IsL.ofStrs λq hq=>yC (by have:=OQ hq;omega)) hl
  |_=>exact lD (U _ H (ic.refl _) rfl)
 |_=>exact lD (U _ H (ic.refl _) (by cases dy<;>rfl))
def PN:#[T,1,a.Xg,a.wn,["boxes","own","parts"],(XW "glue")]:=by
 exists 9,T.lO,JG
 erw[h,d,t,own,B,ps,n,rfl,hB,hT,ho,ae,hp,k];exists 3,%[#[qF,(3),JG.nd,#[QC,pv 0,#[qG,qA,pv 2]]],#[qF,(4),JG.nd,#[QC,pv 0,#[qG,qA,pv 2]]],@qH _ _ _ _ _ _ _ _ #[Zi,#[Qp,#[Qc,#[qy,#[qX,2,rfl],T.qT,vh,#v[pv 3,#[yf,.ty "tuple",T.QB,vx]]]]],#[JN,#[Qp,#[Qc,#[qy,#[qX,2,rfl],T.qT,vh,#v[pv 4,#[yf,.ty "str",T.Z3,UY]]]]]]].pt %[|#[qm,qR]] qt,#[qH,#[Qp,#[Qc,#[qy,#[zy,1,rfl],T.z_all,HY,#v[#[XY,["part"],[],Nz,#[zH,pv 3],(λ_ _ _ _ _ _=>#[qM,(0),(show Vw (["part"]:oj Str) by decide+kernel)]),(λ_ _ _ _ _ _=>#[qy,#[qX,2,rfl],T.qT,vh,#v[pv 0,#[yf,.ty "str",T.Z3,UY]]])]]]]],%[|#[qm,qR]],qt]|#[qm,#[jr,vd,Uf,Ug,Mi,pv 4,#v[pv 3]]]]
 erw[Nc (Q1 ae ()),x0,x,y,rfl,ah,hx,hy]
 exists 0,0;refine nI (i:=1) hB hp rfl hx λv iv=>?_
 exists 0,0;refine nI (i:=2) hB hp rfl hy λu iu=>?_;let lx:=YO (hT x hx);let hg:=hT x hx;let ly:=YO (hT y hy);let U:∀(v:V) (H':Hp),ic H H'->Is H' (AbZ (B x) (B y)) v->Q v H':=k;generalize B x=dx at iv U lx hg⊢;generalize B y=dy at iu U ly⊢
 exists 0,v,"tuple",tyD dx,Zf dx,1,iv.ty,Xq _,0;cases dx with
 |tup xs=>
  refine iX (0,u,"str",tyD dy,isStr dy,1,iu.ty,j7 _,0,?_);cases dy with
  |str Z=>
   refine iX ?_;erw[iv,r,rs,rfl,er,ir];erw[iu,rfl,_];let h1:↑xs<=600:=lx;let h2:↑Z<=600:=ly
   exists 0,r,rs,1,SqT.of er,λak A0 af=>?_;refine As (tl:= []) (λd=> .bl (isStr d)) er ir (nB ()) af (λd0 x0 H3 R al s3 i3 q=>(0,x0,"str",tyD d0,isStr d0,1,i3.ty,j7 _,q _ H3 (ic.refl _) rfl)) λH1 ys s1 l1 i1=>?_
   let ey:ys=(xs.map isStr).map V.bl:=IsL.bls (by rwa[uP])
   subst ey
   exists A0,xs.map isStr,1,SqL.of l1,0;let aa:(xs.map isStr).all id=xI xs:=by rw[kC,UD];rfl
   rw[aa];cases O:xI xs with
   |false=>exact lD (U _ H1 s1 (by show Is H1 (if xI xs=v_ then _ else D.non) _;rw[O];rfl))|true=>
    let ac:=Bk O;let ag:rs=(xF xs).map V.str:=IsL.strs (by rwa[<-ac])
    let hsz:=ND hg;let ad:=Bj (xF xs);rw[<-ac] at ad;simp![sz] at hsz;let am:↑(xF xs)*↑Z<=600*600:=Nat.mul_le_mul () h2
    let hj:=EM Z (xF xs);refine iX (0,1,0,Z,r,xF xs,1,1,SqT.of (by rw[s1 _ _ er,ag]),(),?_)
    refine U _ H1 s1 ?_;show Is H1 (if xI xs=v_ then .str (Vq Z (xF xs)) else D.non) _
    rw[O];exact[1:nB ()]
  |_=>exact lD (U _ H (ic.refl _) rfl)
 |_=>exact lD (U _ H (ic.refl _) (by cases dy<;>rfl))
abbrev NC (w:Str)(B:Str->D)(ps:oj Pt):Bool:=if w="like" then eqD (B (b0 ps)) (B (b1 ps)) else if w="rowed" then Zf (B (b0 ps)) else if w="none" then decide (AbI (B (b0 ps))=0) else v_
abbrev JMP:oj Str:= ["go","like","rowed","none"]
abbrev ASK:oj Str:= ["ask","has","names"]
abbrev flt (w:Str):D:=-[-"fault",!w]
abbrev sP (w:Str)(held:D):D:=if w="names" then(if isStr held=v_ then .tup [-"asks",-[-"names",held]] else flt "kind") else if mQ held=v_ then .tup [-"asks",-[.str (if w="ask" then "thing" else "has"),held]] else flt "name"
inductive OE:Sp
 |mk (d t:Addr)(w:Str)(B:Str->D)(ps:List Pt)(n:Nat)(_:vs= [-d,!w,-t])(_:YH H d B)(_:Tr B)(_:w>JMP)(_:Jn n 300 (w,ps))(_:IM H t ps)(_:Q (.bl (NC w B ps)) H)
inductive Lv:Sp
 |mk (w:Str)(v:V)(d:D)(_:vs= [!w,v])(_:w>ASK)(_:Is H d v)(_:∀(u:V)(H':Hp),ic H H'->Is H' (sP w d) u->Q u H')
mutual
theorem E1:∀{d:D},ky d=v_->puD d=v_
 | .str _,_=>rfl| .tup xs,h=>by
  simp![ky,uG] at h;show puL xs=v_;exact goodL_pu h.2
 | .non,h| .bl _,h| .int _,h| .lst,h| .dct,h=>by simp[ky] at h
theorem goodL_pu:∀{xs:oj D},goodL xs=v_->puL xs=v_
 | [],_=>rfl|x::r,h=>by
  simp![goodL,uG] at h;simp![puL,E1 h.1,goodL_pu h.2,Ve]
end
def SG {d:D}(h:ky d=v_):trD d=true:=by
 cases d with
 |str z=>rfl|tup xs=>exact E1 (d:=¬xs) h|_=>simp[ky] at h
def yl {d:D}(h:isT d=v_):ky d=true:=by
 unfold isT at h;rw[uG,uG] at h;exact h.1.1
def se {d:D}(h:isT d=v_):trD d=true:=SG (yl h)
def PJ:#[T,1,a.Js,a.Jw,["boxes","word","parts"],OE]:=by
 exists 9,T.mf,Z6
 erw[h,d,t,w,B,ps,n,rfl,hB,hT,hw,U,hp,k];exists 3,%[#[qH,#[qp,QL,pv 1,ql,qw _],%[|#[qm,#[Qn,#[BC,1,hr.units],#[QC,pv 0,#[qG,qA,pv 2]],#[QC,pv 0,#[qG,qA,pv 2]]]]],qt],#[qH,#[qp,QL,pv 1,ql,qw _],%[|#[qm,#[qy,#[qX,2,rfl],T.qT,vh,#v[#[QC,pv 0,#[qG,qA,pv 2]],#[yf,.ty "tuple",T.QB,vx]]]]],qt],#[qH,#[qp,QL,pv 1,ql,qw _],%[|#[qm,#[Qn,QL,#[qy,JL,T.yi,uM,#v[#[QC,pv 0,#[qG,qA,pv 2]]]],qi]]],qt]|#[qm,Yr]]
 exists 0,1,0;simp![JMP,uF,uI,uT] at hw;rcases hw with rfl|rfl|rfl|rfl
 .refine Qt () ?_
  exists 0,1,0,Qt () ?_
  exists 0,1,0,Qt () ?_
  exact k
 .refine QP () ?_
  erw[Aa3 (Q1 U ()),x,y,i,rfl,O,hy,_]
  exists 0,0
  try dsimp![tC]
  refine nI (i:=0) hB hp rfl O λv Z=>?_
  exists 0,0
  try dsimp![tC]
  refine nI (i:=1) hB hp rfl hy λu iu=>?_
  exists B x,B y,Z,iu,se (hT x O),se (hT y hy),?_,k
  .have:=Jh (hT x O);omega
 .refine Qt () ?_
  exists 0,1,0,QP () ?_
  erw[Aa2 (Q1 U ()),x,i,rfl,O,_]
  exists 0,0;refine nI (i:=0) hB hp rfl O λv Z=>?_;exact(v,"tuple",tyD (B x),Zf (B x),1,Z.ty,Xq _,k)
 .refine Qt () ?_
  exists 0,1,0,Qt () ?_
  exists 0,1,0,QP () ?_
  erw[Aa2 (Q1 U ()),x,i,rfl,O,_]
  exists 0,0;refine nI (i:=0) hB hp rfl O λv Z=>?_;let k':Q (.bl (decide (AbI (B x)=0))) H:=k;let hg:=hT x O;generalize B x=dx at Z k' hg⊢;let hn:∀n:Nat,decide (V.int (n:Int)=V.int 0)=decide (n=0):=λn=>by
   rw[ve];constructor
   .intro h;injection h with h;omega
   .rintro rfl;rfl
  cases dx with
  |str z=>
   erw[Z,rfl,hz];refine .inl (z,1,hz,1,?_);rw[hn];exact k'
  |tup xs=>
   erw[Z,r,rs,rfl,er,ir];refine .inr (r,rs,1,.inr (SqT.of er),λ_=>[1:?_]);rw[hn,↑ir];exact k'
  |_=>simp[isT,ky] at hg
def L7:#[T,2,a.Jf,a.Je,["word","held"],Lv]:=by
 let QQ:=#[Xt,T];exists 9,T.lU,zI
 erw[h,w,v,d,rfl,hw,iv,k];exists 3,%[#[qH,#[qp,QL,pv 0,ql,qw _],%[|#[qm,#[ya,#[Qc,#[qy,#[qX,2,rfl],T.qT,vh,#v[pv 1,#[yf,.ty "str",T.Z3,UY]]]],#[qI,#v[ql,#[qI,#v[ql,pv 1]]]],#[qI,#v[ql,ql]]]]],qt],#[qH,#[Qp,#[Qc,#[qq,QQ,T.iw,#v[pv 1]]]],%[|#[qm,#[qI,#v[ql,ql]]]],qt]|#[qm,#[qI,#v[ql,#[qI,#v[#[ya,#[qp,QL,pv 0,ql,qw _],ql,ql],pv 1]]]]]]
 let two:(2:Nat)<=sizeLine:=by decide
 let st:∀{H:Hp} (z:Str),↑z<=100->Is H (!z) (!z):=λz hz=>[1:yC ()]
 let fl:∀(z:Str) (H:Hp) (l:o3),↑z<=100->H l=U_->Is (upd H l (-[-"fault",!z])) (flt z) (-l):=λz H l hz U=>Is.new (ds:= [-"fault",!z]) (_,0,st _ (),_,0,st _ hz,1) U
 exists 0,1,0;by_cases c:w="names"
 .subst c;refine QP () ?_
  let ea:sP "names" d=if isStr d=v_ then .tup [-"asks",-[-"names",d]] else flt "kind":=by unfold sP;rw[A6 rfl]
  rw[ea] at k
  exists 0,v,"str",tyD d,isStr d,1,iv.ty,j7 _,0;cases Z:isStr d with
  |true=>
   rw[Z] at k;refine lD [0:two:λl U=>[two:λl2 O=>?_]];let t1:ic H (upd H l (-[-"names",v])):=qf U _;refine k _ _ (t1.trans (qf O _)) ?_;exact Is.new (ds:= [-"asks",-[-"names",d]]) (_,0,st _ (),_,0,Is.new (ds:= [-"names",d]) (_,0,st _ (),_,0,iv,1) U,1) O
  |false=>
   rw[Z] at k;exact iX [two:λl U=>k _ _ (qf U _) (fl "kind" H l () U)]
 .refine Qt (uj λh=>c (by injection h)) ?_
  let ea:sP w d=if mQ d=v_ then .tup [-"asks",-[.str (if w="ask" then "thing" else "has"),d]] else flt "name":=by unfold sP;rw[A4 c]
  rw[ea] at k
  exists 0,v,d,1,iv,λH1 s1=>[0:?_];cases Z:mQ d with
  |false=>
   rw[Z] at k;exact lD [two:λl U=>k _ _ (s1.trans (qf U _)) (fl "name" H1 l () U)]
  |true=>
   rw[Z] at k;refine iX (0,1,0,?_);let aa:∀z:Str,↑z<=100->z=(if w="ask" then("thing":Str) else "has")->∀l,H1 l=U_->∀l2,(upd H1 l (-[!z,v])) l2=U_->Q (-l2) (upd (upd H1 l (-[!z,v])) l2 (-[-"asks",-l])):=by
    intro z hz ez l U l2 O;let t1:ic H1 (upd H1 l (-[!z,v])):=qf U _;refine k _ _ (s1.trans (t1.trans (qf O _))) ?_;rw[<-ez];exact Is.new (ds:= [-"asks",-[!z,d]]) (_,0,st _ (),_,0,Is.new (ds:= [!z,d]) (_,0,st _ hz,_,0,iv.mono s1.tk,1) U,1) O
   refine mi (λc2=>?_) (λc2=>?_)
   .let e:w="ask":=by have:=uC c2;injection this
    exact⟨0,two,λl U=>⟨two,λl2 O=>aa "thing" () (by rw[A6 e]) l U l2 O⟩⟩
   .let e:w≠"ask":=λe=>c2 (ug (by rw[e]))
    exact⟨0,two,λl U=>⟨two,λl2 O=>aa "has" () (by rw[A4 e]) l U l2 O⟩⟩
end
structure Mc where
 (x db dg:o3)
 rs:oj Rw
 own:Str
structure Rn where
 B:Str->D
 p:Int
 n:Nat
 gs:oj D
 th:D
abbrev MTH:oj Str:= ["now","answer","asked","lines","copy","go_on","is_waiting","do_row","hold"]
structure Fl (fs:oj (Str×V))(rv ru:V)(own:Str)(db dg:o3)(place:Int)(done:Nat)(tv:V):Prop where
 rows:fs.lookup ("rows":Str)=u_ rv
 rule:fs.lookup ("rule":Str)=u_ ru
 own:fs.lookup ("own":Str)=u_ (!own)
 boxes:fs.lookup ("boxes":Str)=u_ (-db)
 place:fs.lookup ("place":Str)=u_ (.int place)
 done:fs.lookup ("done":Str)=u_ (.int (done:Int))
 given:fs.lookup ("given":Str)=u_ (-dg)
 there:fs.lookup ("there":Str)=u_ tv
 meth:∀m>MTH,fs.lookup m=U_
 len:↑fs<=20
def jk {f:Str}{v:V}:∀{fs:oj (Str×V)}{u:V},fs.lookup f=u_ u->↑(iK f v fs)=↑fs
 |(g,x)::r,u,h=>by
  unfold iK;by_cases c:g=f
  .rw[A6 c];rfl
  .rw[A4 c,uB,uB];let e:(f==g)=false:=by simp;exact λz=>c z.symm
   rw[vt,e] at h;rw[jk (u:=u) h]
 | [],u,h=>by simp at h
section
variable {fs:oj (Str×V)}{rv ru:V}{own:Str}{db dg:o3}{place:Int}{done:Nat}{tv:V}
def Fl.set_there {u:V}(h:Fl fs rv ru own db dg place done tv):Fl (iK "there" (u) fs) rv ru own db dg place done u:=by
 refine(?_,?_,?_,?_,?_,?_,?_,?_,λm hm=>?_,by rw[jk h.there];exact h.len)
 all_goals rw[qK]
 all_goals first|rw[A6 rfl]|(rw[A4 ()];first|exact h.rows|exact h.rule|exact h.own|exact h.boxes|exact h.place|exact h.done|exact h.given|exact h.there)|(rw[A4 (λe=>by subst e;revert hm;decide+kernel)];exact h.meth m hm)
def Fl.set_place {q:Int}(h:Fl fs rv ru own db dg place done tv):Fl (iK "place" (.int q) fs) rv ru own db dg q done tv:=by
 refine(?_,?_,?_,?_,?_,?_,?_,?_,λm hm=>?_,by rw[jk h.place];exact h.len)
 all_goals rw[qK]
 all_goals first|rw[A6 rfl]|(rw[A4 ()];first|exact h.rows|exact h.rule|exact h.own|exact h.boxes|exact h.place|exact h.done|exact h.given|exact h.there)|(rw[A4 (λe=>by subst e;revert hm;decide+kernel)];exact h.meth m hm)
def Fl.set_done {k:Nat}(h:Fl fs rv ru own db dg place done tv):Fl (iK "done" (.int ((k:Nat):Int)) fs) rv ru own db dg place k tv:=by
 refine(?_,?_,?_,?_,?_,?_,?_,?_,λm hm=>?_,by rw[jk h.done];exact h.len)
 all_goals rw[qK]
 all_goals first|rw[A6 rfl]|(rw[A4 ()];first|exact h.rows|exact h.rule|exact h.own|exact h.boxes|exact h.place|exact h.done|exact h.given|exact h.there)|(rw[A4 (λe=>by subst e;revert hm;decide+kernel)];exact h.meth m hm)
end
abbrev yB (C:o3)(H:Hp)(m:Mc)(r:Rn):Prop:=
 ∃(dx:o3) (fs:oj (Str×V)) (rv ru tv:V) (gv:oj V),H m.x=u_ (.ins C dx fs)/\Fl fs rv ru m.own m.db m.dg r.p r.n tv/\Is H (.tup (m.rs.map rowD)) rv/\Is H (jS m.rs) ru/\YH H m.db r.B/\H m.dg=u_ (.lst gv)/\L2.IsL H r.gs gv/\Is H r.th tv
structure Mv (m:Mc)(H H':Hp):Prop where
 kept:∀b o,H b=u_ o->b≠m.x->b≠m.db->b≠m.dg->H' b=u_ o
 tk:Tk H H'
def Mv.refl (m:Mc)(H:Hp):Mv m H H:=[λ_ _ e _ _ _=>e:Tk.refl H]
variable {H H1 H2:Hp}
def Mv.trans {m:Mc}(h:Mv m H H1)(h2:Mv m H1 H2):Mv m H H2:=[λb o e n1 O U=>h2.kept b o (h.kept b o e n1 O U) n1 O U:h.tk.trans h2.tk]
variable {H':Hp}
def Mv.of {m:Mc}(s:ic H H'):Mv m H H':=[λb o e _ _ _=>s b o e:s.tk]
variable {C:o3}
def yB.same {m:Mc}{r:Rn}(h:yB C H m r)(s:ic H H'):yB C H' m r:=
 let⟨dx,fs,rv,ru,tv,gv,e,f,i,j,b,g,gl,t⟩:=h;(dx,fs,rv,ru,tv,gv,s _ _ e,f,i.mono s.tk,j.mono s.tk,b.same s,s _ _ g,gl.mono s.tk,t.mono s.tk)
variable {dx:o3}
def YH.ne {x db:o3}{fs:oj (Str×V)}{B:Str->D}(e:H x=u_ (.ins C dx fs))(h:YH H db B):db≠x:=λz=>by
 erw[h,f,e2,_];rw[z,e] at e2;cases e2
variable {fs':oj (Str×V)}{rv:V}
def yo {m:Mc}{r:Rn}{fs:oj (Str×V)}{ru tv:V}{O:oj V}(e:H m.x=u_ (.ins C dx fs))(f:Fl fs' rv ru m.own m.db m.dg r.p r.n tv)(i:Is H (.tup (m.rs.map rowD)) rv)(j:Is H (jS m.rs) ru)(b:YH H m.db r.B)(U:H m.dg=u_ (.lst O))(Z:L2.IsL H r.gs O)(t:Is H r.th tv):
  yB C (upd H m.x (.ins C dx fs')) m r/\Mv m H (upd H m.x (.ins C dx fs')):=by
 let tk:Tk H (upd H m.x (.ins C dx fs')):=Tk.updI e;let n1:m.db≠m.x:=YH.ne e b;let n2:m.dg≠m.x:=λz=>by rw[z,e] at U;cases U
 exact⟨(dx,fs',rv,ru,tv,O,qg,f,i.mono tk,j.mono tk,b.move tk (qj n1),by rwa[qj n2],Z.mono tk,t.mono tk),⟨λc o h a1 _ _=>by rwa[qj a1],tk⟩⟩
abbrev QH:D->Bool
 | .tup (.str w::_)=>decide (w="asks")|_=>Vi
abbrev Th (d:D):Prop:=d= .non\/∃w e,d=-[!w,e]
inductive Out where
 |go (B:Str->D)(p:Int)|stop (e:D)
abbrev Out.B (B:Str->D):Out->Str->D
 | .go B' _=>B'| .stop _=>B
abbrev Out.P (p:Int):Out->Int
 | .go _ p'=>p'| .stop _=>p
abbrev Out.T:Out->D
 | .go _ _=> .non| .stop e=>e
abbrev Az (B:Str->D)(z:Str)(e:D)(p:Int):Out:=match e with
 | .non=> .stop (flt "kind")|e=>if isT e=v_ then .go (Bm B z e) (p+1) else .stop (flt "big")
inductive AaV (C:Addr):Sp
 |mk (m:Mc)(r:Rn)(_:vs= [-m.x])(_:yB C H m r)(_:∀v,Is H r.th v->Q v H)
inductive OP (C:Addr):Sp
 |mk (m:Mc)(r:Rn)(_:vs= [-m.x])(_:yB C H m r)(_:∀v H',ic H H'->Is H' (¬r.gs) v->Q v H')
inductive Om (C:Addr):Sp
 |mk (m:Mc)(r:Rn)(_:vs= [-m.x])(_:yB C H m r)(_:Th r.th)(_:Q (.bl (QH r.th)) H)
inductive OG (C:Addr):Sp
 |mk (m:Mc)(r:Rn)(z:Str)(v:V)(e:D)(_:vs= [-m.x,!z,v])(_:yB C H m r)(_:r.th= .non)(_:z>BX)(_:Is H e v)(_:∀H',Mv m H H'->yB C H' m ((Az r.B z e r.p).B r.B,(Az r.B z e r.p).P r.p,r.n,r.gs,(Az r.B z e r.p).T)->Q .non H')
section
variable {P:o9}{w:og}{K:o0}{mg:Str->om o6}{base:o8}{a:Ad}{g:Ga}
def oI:#[T,1,a.zi,a.XV,["self"],(AaV a.qo)]:=by
 exists 9,T.iF,W7,O
 erw[h,m,r,rfl,[dx,fs,rv,ru,tv,U,e,f,Z,iu,ib,hg,gl,it],k];exists 3,%[|#[qm,#[qP,5,pv 0,rfl]]]
 exact(0,m.x,_,dx,fs,tv,1,e,T.qv,T.qN,f.there,k _ it)
def PZ:#[T,1,a.JB,a.Jt,["self"],(OP a.qo)]:=by
 exists 9,T.mh,Z5
 erw[h,m,r,rfl,[dx,fs,rv,ru,tv,U,e,f,ir,iu,ib,Z,gl,it],k];exists 3,%[|#[qm,#[qV,qU,T.QB,vx,#v[#[qP,5,pv 0,rfl]]]]]
 exact(0,m.x,_,dx,fs,0,e,T.qv,T.YT,f.given,m.dg,U,1,.inl [SqL.of Z:λl O=>k _ _ (qf O _) (Is.new gl O)])
def qau:#[T,1,a.YF,a.YE,["self"],(Om a.qo)]:=by
 exists 9,T.il,JR
 erw[h,m,[B,p,n,gs,th],rfl,[dx,fs,rv,ru,tv,gv,e,f,ir,Z,ib,hg,gl,it],O,k];simp only at f ib gl it O k;exists 3,%[|#[qm,#[Zw,#[Qn,Ju,#[qP,5,pv 0,rfl],qR],#[XJ,#[Qn,QL,#[qG,XR,#[qP,5,pv 0,rfl]],ql]]]]]
 exists 0,m.x,_,dx,fs,tv,1,e,T.qv,T.qN,f.there,1;rcases O with rfl|⟨w1,e1,rfl⟩
 .cases(show tv= .non from it)
  exact[0:Qt () k]
 .let U:=it;erw[U,t0,us,rfl,et,Z]
  exists 0,QP (by simp) (0,m.x,_,dx,fs,0,e,T.qv,T.qN,f.there,?_)
  refine .inr (.inl (xT (i:=0) (d:= !w1) it (qD (j:=0) rfl) λq hq=>?_));erw[hq,rfl,_]
  exists 1;let ew:decide (V.str w1=V.str ("asks":Str))=decide (w1="asks"):=by
   rw[ve];exact⟨λh=>by injection h,λh=>by rw[h]⟩
  rw[ew];exact k
def PM:#[T,3,a.xH,a.xJ,["self","box","tree"],(OG a.qo)]:=by
 let yD:=#[jD,T];exists 9,T.mo,wP
 erw[h,m,[B,p,n,gs,th],z,v,d,rfl,[dx,fs,rv,ru,tv,gv,e,f,ir,iu,ib,hg,gl,it],aa,hz,O,k];simp only at f ib gl it aa k;subst aa;exists 3,%[|#[qH,#[qp,yH,pv 2,qR,qw _],%[|#[Qh,#[qI,#v[ql,ql]]]],%[|#[qH,#[Qp,#[Qc,#[qq,yD,T.iE,#v[pv 2]]]],%[|#[Qh,#[qI,#v[ql,ql]]]],%[#[JT,#[qP,5,pv 0,rfl],pv 1,pv 2]|#[JE,10,pv 0,qi,sj]]]]]]
 let two:(2:Nat)<=sizeLine:=by decide
 let st:∀{H:Hp} (z:Str),↑z<=100->Is H (!z) (!z):=λz hz=>[1:yC ()]
 let fl:∀(z:Str) (H:Hp) (l:o3),↑z<=100->H l=U_->Is (upd H l (-[-"fault",!z])) (flt z) (-l):=λz H l hz U=>Is.new (ds:= [-"fault",!z]) (_,0,st _ (),_,0,st _ hz,1) U
 exists 0,1,0;let Z:↑fs<1000:=by have:=f.len;omega
 by_cases c:d= .non
 .subst c;cases(show v= .non from O)
  refine QP () [two:λl U=>?_]
  let s1:ic H (upd H l (-[-"fault",-"kind"])):=qf U _
  exists 0,m.x,_,dx,fs,1,s1 _ _ e,T.qv,T.qN,Z;erw[yo (r:=(B,p,n,gs,flt "kind")) (s1 _ _ e) (f.set_there (u:=-l)) (ir.mono s1.tk) (iu.mono s1.tk) (ib.same s1) (s1 _ _ hg) (gl.mono s1.tk) (fl "kind" H l () U),m1,m2]
  exact k _ ((Mv.of s1).trans m2) m1
 .let hv:v≠ .non:=by
   rintro rfl;cases d with
   |non=>exact c rfl|bl b=>cases(show V.non= .bl b from O)|int i=>cases(show V.non= .int i from O)|str z=>erw[O,h,_];cases h|lst=>erw[O,_,_,h,_];cases h|dct=>erw[O,_,_,h,_];cases h|tup xs=>erw[O,_,_,h,_];cases h
  let eo:Az B z d p=if isT d=v_ then .go (Bm B z d) (p+1) else .stop (flt "big"):=by
   cases d with
   |non=>exact A8 rfl c|_=>rfl
  rw[eo] at k;refine Qt (uj hv) ?_
  exists 0,v,d,1,O,λH1 s1=>[0:?_];cases ht:isT d with
  |false=>
   rw[ht] at k;refine lD [two:λl U=>?_];let s2:ic H (upd H1 l (-[-"fault",-"big"])):=s1.trans (qf U _)
   exists 0,m.x,_,dx,fs,1,s2 _ _ e,T.qv,T.qN,Z;erw[yo (r:=(B,p,n,gs,flt "big")) (s2 _ _ e) (f.set_there (u:=-l)) (ir.mono s2.tk) (iu.mono s2.tk) (ib.same s2) (s2 _ _ hg) (gl.mono s2.tk) (fl "big" H1 l () U),m1,m2]
   exact k _ ((Mv.of s2).trans m2) m1
  |true=>
   rw[ht] at k;refine iX ?_;let ad:=O.mono s1.tk;erw[(ib.same s1).put hz ad,kvs,ac,ae,t2];let n1:m.db≠m.x:=YH.ne e ib;let n3:m.dg≠m.db:=λz=>by
    erw[ib,ff,e2,_];rw[z,e2] at hg;cases hg
   let e1:=s1 _ _ e;let e3:(upd H1 m.db (.dK kvs)) m.x=u_ (.ins a.qo dx fs):=by rwa[qj n1.symm]
   exists 0,0,m.x,_,dx,fs,0,e1,T.qv,T.Qx,f.boxes,0,m.db,0,ac
   exists 0,m.x,_,dx,fs,0,e3,T.qv,T.Qm,f.place,p,(1),1,1,dx,fs,e3,Z;obtain⟨m1,m2⟩:=yo (r:=(Bm B z d,p+1,n,gs,.non)) e3 (f.set_place (q:=p+1)) ((ir.mono s1.tk).mono t2) ((iu.mono s1.tk).mono t2) ae (by rw[qj n3];exact s1 _ _ hg) ((gl.mono s1.tk).mono t2) it
   exact k _ ((Mv.of s1).trans (Mv.trans ⟨λb o h _ a2 _=>by rwa[qj a2],t2⟩ m2)) m1
abbrev MKR:oj Str:= ["text","self","copy","row","put","join","first","rest","size","cut","glue"]
abbrev oV (ps:oj Pt):Int:=match ps.getLast? with
 |some (.n i)=>i|_=>0
abbrev mM (own:Str)(r:Rw)(B:Str->D)(p:Int):Out:=
 if r.1>MKR then Az B (b0 r.2) (made r.1 B own r.2) p else if r.1>ASK then .stop (sP r.1 (B (b1 r.2))) else if r.1="say" then .stop (-[-"said",B (b0 r.2)]) else
 if r.1="fault" then .stop (flt "told") else if NC r.1 B r.2=v_ then .go B (oV r.2) else .go B (p+1)
def Ab3:∀x>FRM,x.1>MKR->x.2.head? =u_ .box:=by decide+kernel
def Wf:∀x>FRM,x.1>ASK->x.1∉MKR/\x.1>Act/\x.2= [.box,.box]:=by decide+kernel
def AC:∀x>FRM,x.1="say"->x.2= [.box]:=by decide+kernel
def E8:∀x>FRM,x.1>MKR\/(x.1∉MKR/\x.1>Act/\(x.1>ASK\/x.1∉ASK/\(x.1="say"\/x.1="fault"\/x.1≠"say"/\x.1≠"fault"/\x.1>JMP))):=by decide+kernel
def SL:∀x>FRM,x.1>JMP->x.2.getLast? =u_ .line:=by decide+kernel
variable {r:Rw}
def Ado {m:Nat}(h:Jn n m r)(U:r.1>MKR):∃z ps,r.2= .s z::ps/\z>BX:=by
 erw[h,ks,Z,O];have:=Ab3 _ Z U
 match ks,O,this with
 | .box::ks,O,_=>
  match h2:r.2,O with
  | .s z::ps,O=>exact(z,ps,1,O.1)| .n _::_,O=>exact O.1.elim
def Kj {n m:Nat}:∀{ks:oj Kd}{ps:oj Pt},xZ n m ks ps->ks.getLast? =u_ .line->∃qs i,ps=qs++ [.n i]/\1<=i/\i<=(n:Int)
 | [k],[p],h,e=>by
  cases e;cases p with
  |n i=>exact([],i,1,h.1)|s z=>exact h.1.elim
 |k::k2::ks,p::p2::ps,h,e=>by
  rw[UZ] at e;erw[Kj (ks:=k2::ks) (ps:=p2::ps) h.2 e,qs,i,e2,hi];exact(p::qs,i,by rw[e2];rfl,hi)
 | [k],p::_::_,h,_=>h.2.elim|k::_::_,[p],h,_=>h.2.elim| [],[],_,e=>by cases e| [],_::_,h,_=>h.elim|_::_,[],h,_=>h.elim
def BS {m:Nat}(h:Jn n m r)(O:r.1>JMP):∃qs i,r.2=qs++ [.n i]/\1<=i/\i<=(n:Int)/\oV r.2=i:=by
 erw[h,ks,U,Z];erw[Kj Z (SL _ U O),qs,i,e,h1,h2];exists qs,i,e,h1,h2;unfold oV;rw[e,List.getLast?_concat]
inductive Ls (C:Addr):Sp
 |mk (m:Mc)(r:Rn)(rw:Rw)(v:V)(k:Nat)(_:vs= [-m.x,v])(_:yB C H m r)(_:r.th= .non)(_:Tr r.B)(_:↑m.own<=100)(_:Jn k 300 rw)(_:Is H (rowD rw) v)(_:∀H',Mv m H H'->yB C H' m ((mM m.own rw r.B r.p).B r.B,(mM m.own rw r.B r.p).P r.p,r.n,r.gs,(mM m.own rw r.B r.p).T)->Q .non H')
variable {x:Str}
def Adn (T:Tx K mg a)(C:Fx K w mg g a)(h:x>MKR):∃f fd,PySem.W.nsIn K g.makers x=u_ (u_ (-f))/\FnOk P w K mg base CX0 1 f fd ["boxes","own","parts"] (XW x)/\Xe K fd ["boxes","own","parts"] []/\PySem.W.keepIn K (-f)=true:=by
 simp![MKR,uF,uI,uT] at h;rcases h with rfl|rfl|rfl|rfl|rfl|rfl|rfl|rfl|rfl|rfl|rfl
 .exact(_,_,C.k_text,Pq T,T.lG.b,T.lG.F.kp)
 .exact(_,_,C.k_self,Pu T,T.lI.b,T.lI.F.kp)
 .exact(_,_,C.k_copy,PU T,T.lP.b,T.lP.F.kp)
 .exact(_,_,C.k_row,Abw T,T.lX.b,T.lX.F.kp)
 .exact(_,_,C.k_put,Abx T,T.lZ.b,T.lZ.F.kp)
 .exact(_,_,C.k_join,PK T,T.lL.b,T.lL.F.kp)
 .exact(_,_,C.k_first,L4 T,T.lm.b,T.lm.F.kp)
 .exact(_,_,C.k_rest,Px T,T.lK.b,T.lK.F.kp)
 .exact(_,_,C.k_size,Ps T,T.lH.b,T.lH.F.kp)
 .exact(_,_,C.k_cut,AbA T,T.l6.b,T.l6.F.kp)
 .exact(_,_,C.k_glue,PN T,T.lO.b,T.lO.F.kp)
def L6:#[C,4,a.Jk,a.Ja,["self","row"],(Ls a.qo)]:=by
 let wW:=#[PJ,T];let Z7:=#[L7,T];let W3:=#[PM,T];exists 9,T.lV,y9
 erw[h,m,[B,p,n,gs,th],r,v,nn,rfl,M,af,hT,ho,ad,iv,k];simp only at af hT k;subst af;exists 3,%[#[qF,(2),y9.nd,#[qG,qA,pv 1]],#[qF,(3),y9.nd,#[qG,qA,pv 1]]|#[qH,#[qp,Abt,pv 2,#[pe_gR,C.m_MAKERS],#[w]],%[|#[qZ,#[Qk,pv 0,T.qv,T.mo,W3,#v[#[qG,qA,pv 3],#[LJ,9,(1),5,⟨1,1,1,1,1⟩,#[qG,7,Aee,#[pe_gR,C.m_MAKERS],pv 2,(λ_ _=>rfl)],hr.mono (),#v[#[qP,5,pv 0,rfl],#[qP,5,pv 0,rfl],pv 3],_,_]]]]],%[|#[qH,#[qp,QN,pv 2,#[pe_gR,C.m_ASKING],#[w]],%[|#[Qh,#[qq,Z7,T.lU,#v[pv 2,#[QC,#[qP,5,pv 0,rfl],#[qG,qA,pv 3]]]]]],%[|#[qH,#[qp,QL,pv 2,ql,qw _],%[|#[Qh,#[qI,#v[ql,#[QC,#[qP,5,pv 0,rfl],#[qG,qA,pv 3]]]]]],%[|#[qH,#[qp,QL,pv 2,ql,qw _],%[|#[Qh,#[qI,#v[ql,ql]]]],%[|#[qH,#[Qc,#[qq,wW,T.mf,#v[#[qP,5,pv 0,rfl],pv 2,pv 3]]],%[|#[Qh,#[qG,7,qA,pv 3,#[Pi,6,C6,qi],(λ_ _=>rfl)]]],%[|#[JE,10,pv 0,qi,sj]]]]]]]]]]]]
 let two:(2:Nat)<=sizeLine:=by decide
 erw[r,U,ps];erw[iv,t0,us,rfl,et,iu];erw[iu,v1,u1,rfl,[rfl,aq],v2,u2,rfl,i2,e2];cases(show u2= [] from e2)
 exists 0,t0,_,(0),0,1,SqT.of et,1
 exists 0,t0,_,(1),0,1,SqT.of et,1;erw[id i2,t1,au,rfl,aw,ax];let ac:IM H t1 ps:=i2;let al:=ad;erw[al,ks,hk,hp];let hM:=M;erw[hM,dx,fs,rv,ru,tv,gv,e,f,ir,ij,ib,hg,gl,it];simp only at f ib gl it;let ae:↑fs<1000:=by have:=f.len;omega
 rcases E8 _ hk with Z|⟨Z,am,aa⟩
 .erw[Adn (P:=P) (base:=base) T C Z,fa,fd,hn,hF,hb,ao];erw[Ado ad Z,z,qs,rfl,ap];let eo:mM m.own (U,.s z::qs) B p=Az B z (made U B m.own (.s z::qs)) p:=by unfold mM;rw[A6 Z];rfl
  rw[eo] at k
  exists 0,U,g.makers,0,1,C.km,hn,0;refine lD ?_
  exists 0,m.x,dx,fs,1,e,f.meth _ (),0
  try dsimp![tC]
  refine IH (i:=0) ac rfl ?_
  exists 0,U,g.makers,_,-fa,1,1,C.km,hn,1,fa,fd,_,XW U,1,hF,hb,ao
  exists 0,m.x,_,dx,fs,0,e,T.qv,T.Qx,f.boxes,0,m.x,_,dx,fs,0,e,T.qv,T.zt,f.own,0
  exists m.db,t1,m.own,B,.s z::qs,nn,1,ib,hT,ho,ad,ac,λv H1 s1 hv=>?_;exact(m,(B,p,n,gs,.non),z,v,0,M.same s1,1,ap,hv,λH2 m2 M2=>k H2 ((Mv.of s1).trans m2) M2)
 .exists 0,U,g.makers,0,1,C.km,C.k_no _ am,0;refine iX ?_
  exists 0,g.asking,0,.inr (C.asking _),1,1,0;let ei:inV (!U) [-"ask",-"has",-"names"]=decide (U>ASK):=jM (z:=U) (l:=ASK);rw[A4 ub,ei];rcases aa with O|⟨O,aa⟩
  .refine QP (ug O) ?_;erw[Wf _ hk O,_,_,ek];simp only at ek;subst ek;erw[W0 hp,z0,z1,rfl,h0,h1];let eo:mM m.own (U,[.s z0,.s z1]) B p= .stop (sP U (B z1)):=by unfold mM;rw[A4 Z,A6 O];rfl
   rw[eo] at k
   exists 0,0,m.x,_,dx,fs,0,e,T.qv,T.Qx,f.boxes,0
   try dsimp![tC]
   refine nI (i:=1) ib ac rfl h1 λv hv=>?_
   exists U,v,B z1,1,O,hv,λu H1 s1 hu=>?_
   exists 0,m.x,_,dx,fs,1,s1 _ _ e,T.qv,T.qN,ae;erw[yo (r:=(B,p,n,gs,sP U (B z1))) (s1 _ _ e) (f.set_there (u:=u)) (ir.mono s1.tk) (ij.mono s1.tk) (ib.same s1) (s1 _ _ hg) (gl.mono s1.tk) hu,m1,m2];exact k _ ((Mv.of s1).trans m2) m1
  .refine Qt (uj O) ?_
   exists 0,1,0;let es:∀y:Str,decide (V.str U=V.str y)=decide (U=y):=λy=>by
    rw[ve];exact⟨λh=>by injection h,λh=>by rw[h]⟩
   rcases aa with rfl|rfl|⟨hs,hf,hj⟩
   .refine QP (ug rfl) ?_;let ek:=AC _ hk rfl;simp only at ek;subst ek;erw[Ac7 hp,z0,rfl,h0];let eo:mM m.own ("say",[.s z0]) B p= .stop (-[-"said",B z0]):=by unfold mM;rw[A4 Z,A4 O,A6 rfl];rfl
    rw[eo] at k
    exists 0,m.x,_,dx,fs,0,e,T.qv,T.Qx,f.boxes,0
    try dsimp![tC]
    refine nI (i:=0) ib ac rfl h0 λv hv=>?_
    exists two,λl hl=>?_;let s1:ic H (upd H l (-[-"said",v])):=qf hl _
    exists 0,m.x,_,dx,fs,1,s1 _ _ e,T.qv,T.qN,ae;erw[yo (r:=(B,p,n,gs,-[-"said",B z0])) (s1 _ _ e) (f.set_there (u:=-l)) (ir.mono s1.tk) (ij.mono s1.tk) (ib.same s1) (s1 _ _ hg) (gl.mono s1.tk) (Is.new (ds:= [-"said",B z0]) (_,0,[1:yC ()],_,0,hv,1) hl),m1,m2]
    exact k _ ((Mv.of s1).trans m2) m1
   .let ag:¬(("fault":Str)="say"):=by decide+kernel
    refine Qt (uj λh=>ag (by injection h)) ?_
    exists 0,1,0,QP (ug rfl) ?_;let eo:mM m.own ("fault",ps) B p= .stop (flt "told"):=by unfold mM;rw[A4 Z,A4 O,A4 ag,A6 rfl]
    rw[eo] at k
    exists two,λl hl=>?_;let s1:ic H (upd H l (-[-"fault",-"told"])):=qf hl _
    exists 0,m.x,_,dx,fs,1,s1 _ _ e,T.qv,T.qN,ae;erw[yo (r:=(B,p,n,gs,flt "told")) (s1 _ _ e) (f.set_there (u:=-l)) (ir.mono s1.tk) (ij.mono s1.tk) (ib.same s1) (s1 _ _ hg) (gl.mono s1.tk) (Is.new (ds:= [-"fault",-"told"]) (_,0,[1:yC ()],_,0,[1:yC ()],1) hl),m1,m2]
    exact k _ ((Mv.of s1).trans m2) m1
   .refine Qt (by rw[es];exact uj hs) ?_
    exists 0,1,0,Qt (by rw[es];exact uj hf) ?_
    let eo:mM m.own (U,ps) B p=if NC U B ps=v_ then .go B (oV ps) else .go B (p+1):=by unfold mM;rw[A4 Z,A4 O,A4 hs,A4 hf]
    rw[eo] at k;erw[BS ad hj,qs,i,ah,h1,h2,hl];simp only at ah hl
    exists 0,m.x,_,dx,fs,0,e,T.qv,T.Qx,f.boxes,0,0,m.db,t1,U,B,ps,nn,1,ib,hT,hj,ad,ac,0;cases ak:NC U B ps with
    |true=>
     rw[ak] at k;refine lD (0,(1),1,?_);refine xT (i:= -1) (d:= .int i) ac (by rw[ah,ur];exact qaa _ _) λq hq=>?_
     cases(show q= .int i from hq)
     exists 0,m.x,_,dx,fs,1,e,T.qv,T.Qm,ae;erw[yo (r:=(B,i,n,gs,.non)) e (f.set_place (q:=i)) ir ij ib hg gl it,m1,m2];refine k _ m2 ?_;show yB _ _ _ (B,oV ps,n,gs,.non);rwa[hl]
    |false=>
     rw[ak] at k;refine iX (0,m.x,_,dx,fs,0,e,T.qv,T.Qm,f.place,p,(1),1,1,dx,fs,e,ae,?_);erw[yo (r:=(B,p+1,n,gs,.non)) e (f.set_place (q:=p+1)) ir ij ib hg gl it,m1,m2];exact k _ m2 m1
abbrev Jo (rs:oj Rw)(p:Int):Rw:=rs.getD (p.toNat-1) ("fault",[])
abbrev mW (rs:oj Rw)(own:Str)(gs:oj D):Nat->(Str->D)->Int->Nat->Rn
 |0,B,p,n=>(B,p,n,gs,if GT.gt p ↑rs then flt "silent" else flt "long")|f+1,B,p,n=>if GT.gt p ↑rs then(B,p,n,gs,flt "silent") else match mM own (Jo rs p) B p with
  | .go B' p'=>mW rs own gs f B' p' (n+1)| .stop e=>(B,p,if QH e=v_ then n else n+1,gs,e)
variable {rs:oj Rw}
def DJ {p:Int}(h1:1<=p)(h2:p<=↑rs):rs[p.toNat-1]? =u_ (Jo rs p):=by
 unfold Jo;let h:p.toNat-1<↑rs:=by omega
 simp[Gi,h]
def qak {p:Int}(h1:1<=p)(h2:p<=↑rs):Jo rs p>rs:=uQ (DJ h1 h2)
variable {e:D}
def qab {B:Str->D}(h:Tr B)(O:isT e=v_):Tr (Bm B z e):=λy U=>by
 unfold Bm;by_cases c:y=z
 .rwa[A6 c]
 .rw[A4 c];exact h y U
abbrev Ty (n:Int):Out->Prop
 | .go B p=>Tr B/\1<=p/\p<=n+1| .stop e=>∃w d,e=-[!w,d]
def Mt {B:Str->D}{p n:Int}(h:Tr B)(h1:1<=p)(h2:p<=n):Ty n (Az B z e p):=by
 let O:Ty n (if isT e=v_ then .go (Bm B z e) (p+1) else .stop (flt "big")):=by
  by_cases c:isT e=v_
  .rw[A6 c];exact[qab h c:():()]
  .rw[A4 c];exact[_:0]
 cases e with
 |non=>exact[_:0]|_=>exact O
def S4 (w:Str)(d:D):∃u e,sP w d=-[!u,e]:=by
 unfold sP;split
 .split
  .exact[_:0]
  .exact[_:0]
 .split
  .exact[_:0]
  .exact[_:0]
variable {own:Str}
def Ag {B:Str->D}{p:Int}(hr:Jn n 300 r)(h:Tr B)(h1:1<=p)(h2:p<=n):Ty n (mM own r B p):=by
 unfold mM;by_cases O:r.1>MKR
 .rw[A6 O];exact Mt h h1 h2
 rw[A4 O];by_cases U:r.1>ASK
 .rw[A6 U];exact S4 _ _
 rw[A4 U];by_cases Z:r.1="say"
 .rw[A6 Z];exact[_:0]
 rw[A4 Z];by_cases c4:r.1="fault"
 .rw[A6 c4];exact[_:0]
 rw[A4 c4];by_cases c5:NC r.1 B r.2=v_
 .rw[A6 c5];erw[id hr,ks,hk,hp];let hj:r.1>JMP:=by
   rcases E8 _ hk with q|⟨_,_,q|⟨_,q|q|q⟩⟩
   .exact A8 q O
   .exact A8 q U
   .exact A8 q Z
   .exact A8 q c4
   .exact q.2.2
  erw[BS hr hj,qs,i,_,a1,a2,a3];exact⟨h,by rwa[a3],by rw[a3];omega⟩
 .rw[A4 c5];exact[h:():()]
inductive OH (C:Addr):Sp
 |mk (m:Mc)(r:Rn)(_:vs= [-m.x])(_:yB C H m r)(_:r.th= .non)(_:Tr r.B)(_:↑m.own<=100)(_:Q2 m.rs)(_:1<=r.p)(_:r.p<=↑m.rs+1)(_:r.n<=300)(_:∀(H':Hp),Mv m H H'->yB C H' m (mW m.rs m.own r.gs (300-r.n) r.B r.p r.n)->Q .non H')
def En:#[C,5,a.Jy,a.JW,["self"],(OH a.qo)]:=by
 let Z4:=#[L6,T,C];let qY:=#[qau,T];exists 9,T.jK,Z2
 erw[h,[x,db,dg,rs,own],[B0,p0,n0,gs,th],rfl,M0,aw,ax,ho,hR,aE,ay,aF,k];simp only at aw ax ho hR aE ay aF k;subst aw;exists 3,%[|#[zd,#[qp,yH,#[qP,5,pv 0,rfl],qR,qw _],%[|#[qH,#[qp,oG,#[qP,5,pv 0,rfl],#[qy,qJ,T.yi,uM,#v[#[qP,5,pv 0,rfl]]],qw _],%[|#[Qh,#[qI,#v[ql,ql]]]],%[|#[qH,#[qp,QL,#[qP,5,pv 0,rfl],#[KQ,T.m_MOST_DONE],qw _],%[|#[Qh,#[qI,#v[ql,ql]]]],%[#[qZ,#[Qk,pv 0,T.qv,T.lV,Z4,#v[#[qG,7,qA,#[qP,5,pv 0,rfl],#[Qd,DZ,#[qP,5,pv 0,rfl],qi],(λ_ _=>rfl)]]]]|#[qH,#[Qp,#[Qc,#[QK,pv 0,T.qv,T.il,qY]]],%[|#[JE,10,pv 0,qi,sj]],qt]]]]]]]]
 let two:(2:Nat)<=sizeLine:=by decide
 let n1:=hR.n1;generalize aA:mW rs own gs (300-n0) B0 p0 n0=res at k
 refine_lift let J1_:Nat->L2.St->Hp->Prop:=λm σ H'=>∃(B:Str->D) (p:Int) (n:Nat) (th:D),σ= [u_ (-x)]/\yB a.qo H' (x,db,dg,rs,own) (B,p,n,gs,th)/\Mv (x,db,dg,rs,own) H H'/\Tr B/\1<=p/\p<=↑rs+1/\n<=300/\((th= .non/\mW rs own gs (300-n) B p n=res/\m=301-n)\/((∃u e,th=-[!u,e])/\(B,p,n,gs,th)=res/\m=0));?_
 exists J1_,(_,B0,p0,n0,.non,1,M0,Mv.refl _ _,ax,(),(),(),.inl [1:aA:1])
 rintro m σ H' ⟨B,p,n,th,rfl,M,mv,hT,ad,al,hn,hc⟩;let hM:=M;erw[hM,dx,fs,rv,ru,tv,gv,e,f,ir,ij,ib,hg,gl,it];simp only at e f ir ij ib hg gl it;let aB:↑fs<1000:=by have:=f.len;omega
 exists 0,x,_,dx,fs,tv,1,e,T.qv,T.qN,f.there,1,0;rcases hc with⟨rfl,Z,rfl⟩|⟨⟨u,d,rfl⟩,Z,rfl⟩
 .cases(show tv= .non from it)
  let ag:∀{H:Hp},Is H .non .non:=rfl;refine QP () ?_
  exists λσ' H2=>∃(B:Str->D) (p:Int) (n2:Nat) (th:D),σ'= [u_ (-x)]/\yB a.qo H2 (x,db,dg,rs,own) (B,p,n2,gs,th)/\Mv (x,db,dg,rs,own) H H2/\Tr B/\1<=p/\p<=↑rs+1/\n2<=300/\((th= .non/\mW rs own gs (300-n2) B p n2=res/\n<n2)\/((∃u e,th=-[!u,e])/\(B,p,n2,gs,th)=res)),?_,?_
  .rintro σ' H2 ⟨B2,p2,n2,aM,rfl,M2,ae,aC,a1,a2,a3,aG⟩;rcases aG with⟨rfl,q1,q2⟩|⟨q0,q1⟩
   .exact(301-n2,(),B2,p2,n2,0,M2,ae,aC,a1,a2,a3,.inl [1:q1:1])
   .exact((0),(),B2,p2,n2,0,M2,ae,aC,a1,a2,a3,.inr [q0:q1:1])
  .let aH:=ir;erw[aH,ta,us,rfl,aI,iu];let aN:↑us=↑rs:=by rw[↑iu,uc]
   let fl:∀(z:Str) (H:Hp) (l:o3),↑z<=100->H l=U_->Is (upd H l (-[-"fault",!z])) (flt z) (-l):=λz H l hz hl=>Is.new (ds:= [-"fault",!z]) (_,0,[1:yC ()],_,0,[1:yC ()],1) hl
   let aa:∀(z:Str),↑z<=100->(B,p,n,gs,flt z)=res->∀l,H' l=U_->(λH2=>∃(B:Str->D) (p:Int) (n2:Nat) (th:D),[u_ (V.ref x)]= [u_ (V.ref x)]/\yB a.qo H2 (x,db,dg,rs,own) (B,p,n2,gs,th)/\Mv (x,db,dg,rs,own) H H2/\Tr B/\1<=p/\p<=↑rs+1/\n2<=300/\((th= .non/\mW rs own gs (300-n2) B p n2=res/\n<n2)\/((∃u e,th=-[!u,e])/\(B,p,n2,gs,th)=res))) (upd (upd H' l (-[-"fault",!z])) x (.ins a.qo dx (iK "there" (-l) fs))):=by
    intro z hz aJ l hl;let s1:ic H' (upd H' l (-[-"fault",!z])):=qf hl _;erw[yo (m:=(x,db,dg,rs,own)) (r:=(B,p,n,gs,flt z)) (s1 _ _ e) (f.set_there (u:=-l)) (ir.mono s1.tk) (ij.mono s1.tk) (ib.same s1) (s1 _ _ hg) (gl.mono s1.tk) (fl z H' l hz hl),m1,m2];exact(B,p,n,flt z,1,m1,mv.trans ((Mv.of s1).trans m2),hT,ad,al,hn,.inr [[_:0]:aJ])
   exists 0,x,_,dx,fs,0,e,T.qv,T.Qm,f.place,0,x,_,dx,fs,0,e,T.qv,T.Yk,f.rows,ta,us,1,.inr (SqT.of aI),_,0,1,0;refine mi (λc=>?_) (λc=>?_)
   .let c':GT.gt p ↑rs:=by have:=uC c;omega
    let er:(B,p,n,gs,flt "silent")=res:=by
     rw[<-Z];cases h3:300-n with
     |zero=>unfold mW;rw[A6 c']|succ q=>unfold mW;rw[A6 c']
    exists two,λl hl=>?_;let s1:ic H' (upd H' l (-[-"fault",-"silent"])):=qf hl _;exact(0,x,_,dx,fs,1,s1 _ _ e,T.qv,T.qN,aB,aa "silent" () er l hl)
   .let c':¬GT.gt p ↑rs:=λh=>c (ug ())
    exists 0,x,_,dx,fs,0,e,T.qv,T.yj,f.done,1,0;refine mi (λc2=>?_) (λc2=>?_)
    .let e3:n=300:=by have:=uC c2;injection this with h;omega
     let er:(B,p,n,gs,flt "long")=res:=by
      rw[<-Z,e3];show _=mW rs own gs 0 B p 300;unfold mW;rw[A4 c']
     exists two,λl hl=>?_;let s1:ic H' (upd H' l (-[-"fault",-"long"])):=qf hl _;exact(0,x,_,dx,fs,1,s1 _ _ e,T.qv,T.qN,aB,aa "long" () er l hl)
    .let e3:n<300:=by
      rcases V8 n 300 with h|h
      .exact h
      .exact A8 (ug (by rw[show n=300 by omega];rfl)) c2
     let am:p<=↑rs:=by omega
     let aD:=hR.ok _ (qak ad am);let hok:=Ag (own:=own) aD hT ad am;let U:res=match mM own (Jo rs p) B p with
       | .go B' p'=>mW rs own gs (300-(n+1)) B' p' (n+1)| .stop e=>(B,p,if QH e=v_ then n else n+1,gs,e):=by
      rw[<-Z,show 300-n=(300-(n+1))+1 by omega,mW,A4 c']
     exists 0,x,dx,fs,1,e,f.meth _ ()
     exists 0,x,_,dx,fs,0,e,T.qv,T.Yk,f.rows,0,x,_,dx,fs,0,e,T.qv,T.Qm,f.place,_,0,1;let aK:atI (rs.map rowD) (p-1)=u_ (rowD (Jo rs p)):=by
      rw[show p-1=((p.toNat-1:Nat):Int) by omega]
      exact qD (by rw[uJ,DJ ad am];rfl)
     refine xT (d:=rowD (Jo rs p)) ir aK λq hq=>?_
     exists (x,db,dg,rs,own),(B,p,n,gs,.non),Jo rs p,q,↑rs,1,M,1,hT,ho,aD,hq,λH2 m2 M2=>?_;let aL:=M2;erw[aL,af,ac,aO,aP,aQ,aR,e2,f2,ao,ap,ah,aq,au,ag];simp only at e2 f2 ao ap ah aq au ag;let ak:↑ac<1000:=by have:=f2.len;omega
     let ae:=mv.trans m2;generalize hO:mM own (Jo rs p) B p=O at hok U M2 ag ah f2;cases O with
     |go B' p'=>
      erw[hok,q1,q2,q3]
      exists 0,x,af,ac,1,e2,f2.meth _ (),_,0,M2,.inl rfl,0
      refine QP rfl ?_
      exists 0,x,_,af,ac,0,e2,T.qv,T.yj,f2.done,(n:Int),(1),1,1,af,ac,e2,ak;erw[yo (m:=(x,db,dg,rs,own)) (r:=(B',p',n+1,gs,.non)) e2 (f2.set_done (k:=n+1)) ao ap ah aq au ag,m3,m4];exact(B',p',n+1,.non,1,m3,ae.trans m4,q1,q2,q3,(),.inl [1:U.symm:()])
     |stop d=>
      erw[hok,u,d2,rfl]
      exists 0,x,af,ac,1,e2,f2.meth _ (),_,0,M2,.inr [_:0],0
      cases hw:QH (-[!u,d2]) with
      |true=>
       simp![hw] at U;refine Qt (by show(!(QH) (-[!u,d2]))=Vi;rw[hw];rfl) ?_
       exact(B,p,n,0,M2,ae,hT,ad,al,hn,.inr [[_:0]:U.symm])
      |false=>
       simp![hw] at U;refine QP (by show(!(QH) (-[!u,d2]))=v_;rw[hw];rfl) ?_
       exists 0,x,_,af,ac,0,e2,T.qv,T.yj,f2.done,(n:Int),(1),1,1,af,ac,e2,ak;erw[yo (m:=(x,db,dg,rs,own)) (r:=(B,p,n+1,gs,-[!u,d2])) e2 (f2.set_done (k:=n+1)) ao ap ah aq au ag,m3,m4];exact(B,p,n+1,0,m3,ae.trans m4,hT,ad,al,(),.inr [[_:0]:U.symm])
 .have:tv≠ .non:=by erw[it,_,_,h,_];rw[h];exact λz=>by cases z
  refine Qt (uj this) ?_;refine k H' mv ?_;rw[<-Z];exact M
abbrev emp (z:Str):D:=-[!z,-""]
def Nj {H:Hp}:∀{zs:oj Str}{ys:oj V},L2.IsL H (zs.map emp) ys->∃ts:oj o3,ys=ts.map V.ref/\↑ts=↑zs/\∀(i:Nat) (t:o3) (z:Str),ts[i]? =u_ t->zs[i]? =u_ z->H t=u_ (-[!z,-""])
 | [],_,h=>by
  cases(show _= [] from h)
  exact([],1,1,λi t z h=>by simp at h)
 |y::zs,_,h=>by
  erw[h,v,r,rfl,[t,us,rfl,O,v1,u1,rfl,[rfl,_],v2,U,rfl,[rfl,_],e2],h2];cases(show U= [] from e2)
  erw[Nj h2,ts,rfl,Z,hi];refine(t::ts,1,by rw[uB,Z];rfl,λi q z h1 h3=>?_)
  cases i with
  |zero=>
   cases h1;cases h3;exact O
  |succ j=>exact hi j q z (by simpa using h1) (by simpa using h3)
variable {ys:oj V}
def O9 {A:o3}(e:H A=u_ (.lst ys))(h:L2.IsL H (BX.map emp) ys):Cj H A (BX.map λz=>(z,V.str "")):=by
 erw[Nj h,ts,rfl,O,hi];exists ts,e,by rw[O,uc],λi t p h1 h2=>?_
 rw[uJ] at h2;cases hz:BX[i]? with
 |none=>rw[hz] at h2;cases h2|some z=>
  rw[hz] at h2;cases h2;exact hi i t z h1 hz
abbrev B0:Str->D:=λ_=>-""
variable {q:o3}
def SY (O:H q=U_):YH (upd H q (.dK (li (BX.map λz=>(z,V.str ""))))) q B0:=by
 exists λ_=>-"",?_,λz _=>[1:yC ()]
 rw[qg];unfold li kvB;rw[uP]
 rfl
def Aaj:Tr B0:=λ_ _=>(by decide+kernel:isT (-"")=v_)
def MJ:((BX.map λz=>(z,V.str "")).map (·.1)).Nodup:=by
 rw[uP];show(BX.map id).Nodup;rw[Hq]
 decide+kernel
def DQ (f:Str)(v:V):∀fs:oj (Str×V),↑(iK f v fs)<=↑fs+1
 | []=>uq _|(g,x)::r=>by
  unfold iK;by_cases c:g=f
  .rw[A6 c];simp
  .rw[A4 c];have:=DQ f v r;simp![uB];omega
abbrev FLD:oj Str:= ["rows","rule","own","boxes","place","done","given","there"]
def Sm:∀m>MTH,m∉FLD:=by decide+kernel
variable {v:V}
def NM {db dg:o3}(O:(iK "there" .non (iK "given" (-dg) (iK "done" (.int 0) (iK "place" (.int 1) (iK "boxes" (-db) (iK "own" (!own) (iK "rule" v (iK "rows" rv [])))))))).length<=20):
  Fl (iK "there" .non (iK "given" (-dg) (iK "done" (.int 0) (iK "place" (.int 1) (iK "boxes" (-db) (iK "own" (!own) (iK "rule" v (iK "rows" rv [])))))))) rv v own db dg 1 0 .non:=by
 exists ?_,?_,?_,?_,?_,?_,?_,?_,λm hm=>?_,O
 .iterate 7 rw[qK,A4 ()]
  rw[qK,A6 rfl]
 .iterate 6 rw[qK,A4 ()]
  rw[qK,A6 rfl]
 .iterate 5 rw[qK,A4 ()]
  rw[qK,A6 rfl]
 .iterate 4 rw[qK,A4 ()]
  rw[qK,A6 rfl]
 .iterate 3 rw[qK,A4 ()]
  rw[qK,A6 rfl]
 .iterate 2 rw[qK,A4 ()]
  rw[qK,A6 rfl]
  rfl
 .rw[qK,A4 (),qK,A6 rfl]
 .rw[qK,A6 rfl]
 .let h:=Sm m hm
  iterate 8 rw[qK,A4 (λe=>h (by rw[e];decide+kernel))]
  rfl
structure Ini (n:Nat)(H:Hp)(C x dx:o3)(fs:oj (Str×V))(H':Hp):Prop where
 len:↑fs<=n
 at':H' x=u_ (.ins C dx fs)
 kept:∀b o,H b=u_ o->b≠x->H' b=u_ o
def Ini.put {x:o3}{fs:oj (Str×V)}(I:Ini n H C x dx fs H')(f:Str)(v:V):Ini (n+1) H C x dx (iK f v fs) (upd H' x (.ins C dx (iK f v fs)))/\Tk H' (upd H' x (.ins C dx (iK f v fs))):=
 ⟨⟨uY (DQ f v fs) (TJ I.len),qg,λb o h n=>by rw[qj n];exact I.kept b o h n⟩,Tk.updI I.at'⟩
def Ini.same {x:o3}{fs:oj (Str×V)}(I:Ini n H C x dx fs H')(s:ic H' H2):Ini n H C x dx fs H2:=[I.len:s _ _ I.at':λb o h n=>s _ _ (I.kept b o h n)]
def AbO {K:o0}{b A:o3}{H1:Hp}{te:TE}{tl:L2.St}{Q:VK}(O:∀H,SqT K H b (BX.map V.str))(Z:H1 A=U_)
  (U:∀(z:Str) H (R:VK),↑z<=Vm->ic H1 H->(∀y H',ic H H'->Is H' (emp z) y->R y H')->te (u_ (!z)::tl) H R)
  (hQ:∀H' ys,ic H1 H'->H' A=u_ (.lst ys)->L2.IsL H' (BX.map emp) ys->Q (-A) H'):Au A (Itt K b) (YB 0) nH te (U_::tl) H1 Q:=by
 let hl:∀H,L2.IsL H (BX.map D.str) (BX.map V.str):=λH=>IsL.ofStrs λz hz=>yC (by rw[(NS hz).1];decide)
 refine At (ds:=BX.map D.str) (λd=>match d with| .str z=>emp z|d=>d) (yC ()) Z (λi H sm hi=>(BX.map V.str,(BX.map V.str)[i]'(by simpa using hi),O H,uf _)) (λi H x H' d sm hd y=>?_) (λH sm=>⟨BX.map V.str,O H,by simp⟩) (λd x H R hd sm hx r=>?_) (λH' ys sm e h=>hQ H' ys sm e ?_)
 .erw[y,rfl,y];erw[(hl H').get hd,v,e1,e2];have:=y _ (O H');rw[e1] at this;cases this;exact[1:e2]
 .erw[Ae.mp hd,z,_,rfl];erw[hx,rfl,hz];exact U z H R hz sm r
 .rwa[uP] at h
def Ms:∀{d:D},mQ d=v_->∃own,d= .str own/\nm own=v_/\↑own<=100
 | .str z,h=>(z,1,h,by
  rcases V8 24 ↑z with h1|h1
  .rw[show mQ (!z)=nm z from rfl,BI (λq=>by omega)] at h
   cases h
  .omega)
def sO {n:Nat}:∀{ds:oj D},ds.all (λd=>(Qq n d).isSome)=v_->((ds.filterMap (Qq n)).map λr=>D.str (Yp r))=ds/\↑(ds.filterMap (Qq n))=↑ds/\∀r>ds.filterMap (Qq n),Jn n 300 r
 | [],_=>⟨1,1,λr h=>by simp at h⟩|d::ds,h=>by
  rw[vE,uG] at h;erw[zx h.1,r,O];erw[sO h.2,Z,i2,i3];cases d with
  |str z=>
   obtain⟨h1,h2⟩:=Br (show wy n z=u_ r from O)
   rw[Ul O];exists by rw[uw,h2,Z],by rw[uB,uB,i2],λx U=>?_
   rcases Aa.mp U with rfl|U
   .exact h1
   .exact i3 x U
  |_=>cases O
def Bv:∀{d:D}{rs:oj Rw},QI d=u_ rs->Q2 rs/\d=jS rs
 | .tup ds,rs,h=>by
  rw[X0] at h;split at h
  .rename_i O
   cases h;simp![uG,vj] at O;erw[O,[[h1,h2],h3],h4];erw[sO h3,U,Z,i3];let e:jS (ds.filterMap (Qq ↑ds))=¬ds:=A9 D.tup U;exact⟨((),(),λr hr=>by rw[Z];exact i3 r hr,by rwa[e]),e.symm⟩
  .cases h
inductive Ky (C br bn:Addr)(vs:List V)(H:Hp)(Q:VK)(E:XK):Prop
 |mk (x dx:Addr)(v ov:V)(d od:D)(_:vs= [-x,v,ov])(_:H x=u_ (.ins C dx []))(_:Is H d v)(_:Is H od ov)(_:(QI d=U_->∀(e:Addr)(H':Hp),(∀b o,H b=u_ o->b≠x->H' b=u_ o)->E (-e) (u_ br) H'))(_:(QI d≠U_->mQ od=Vi->∀(e:Addr)(H':Hp),(∀b o,H b=u_ o->b≠x->H' b=u_ o)->E (-e) (u_ bn) H'))(_:(∀(rs:List Rw)(own:Str),d=jS rs->Q2 rs->od= .str own->nm own=v_->↑own<=100->∀(H':Hp)(db dg:Addr),(∀b o,H b=u_ o->b≠x->H' b=u_ o)->H db=U_->H dg=U_->yB C H' (x,db,dg,rs,own) (mW rs own [] 300 B0 1 0)->Q .non H'))
def KU (T:Tx K mg a)(C:Fx K w mg g a):FnOk P w K mg base (CX1 P w) 6 a.jl a.xR ["self","rule","own"] (Ky a.qo g.br g.bn):=by
 let QQ:=#[Xt,T];let O:=#[Pv,T,C];let YX:=#[En,T,C];refine T.iU.F.okX Wk () (λ_ _ _ _ H _ Q E hr h=>?_)
 erw[h,x,dx,v,ov,d,od,rfl,hx,hv,ho,kR,kN,k];exists 3,%[#[Qh,#[qq,16,O,hr.mono (),_,T.lJ.m,T.lJ.F.kp,T.lJ.b,.nil,Abq,#v[pv 1],_,_,_]],#[qH,#[Qp,#[Qc,#[qq,QQ,T.iw,#v[pv 2]]]],%[|#[qaf,22,C.x_BadName,_,C.m_BadName,ql,_,_]],qt],#[Qh,pv 1],#[Qh,pv 2],#[Qh,#[qV,#[CU,1,rfl],T.z_dict,boot_dict,#v[#[XY,["box"],[],Nz,#[zH,#[pe_gR,C.m_BOXES]],(λ_ _ _ _ _ _=>#[qM,(0),(show Vw (["box"]:oj Str) by decide+kernel)]),(λ_ _ _ _ _ _=>#[qI,#v[pv 0,ql]])]]]],#[Qh,qi],#[Qh,qi],#[Qh,#[Q0,qd]],#[Qh,qR]|#[qZ,#[QK,pv 0,T.qv,T.jK,YX]]]
 exists 0,v,d,1,hv,λrs al rv H1 s1 ir=>?_,λhn e H1 s1=>kR hn e H1 λb o h _=>s1 b o h
 exists 0,x,_,dx,[],1,s1 _ _ hx,T.qv,T.Yk,()
 let I0:Ini 0 H a.qo x dx [] H1:=[uq _:s1 _ _ hx:λb o h _=>s1 _ _ h];erw[I0.put "rows" rv,I1,t1];let aA:=ir.mono t1;let htk:∀{n:Nat}{fs:oj (Str×V)}{H':Hp},Ini n H a.qo x dx fs H'->Tk H H':=λ{n fs H'} I=>⟨λb xs e=>I.kept b _ e (λz=>by rw[z,hx] at e;cases e),λb xs e=>⟨_,I.kept b _ e (λz=>by rw[z,hx] at e;cases e)⟩,λb xs e=>⟨_,I.kept b _ e (λz=>by rw[z,hx] at e;cases e)⟩⟩
 exists 0,ov,od,1,ho.mono (htk I1),λH3 s3=>[0:?_];let I3:=I1.same s3;cases ac:mQ od with
 |false=>exact lD ⟨1,λe=>kN (by rw[al];simp) ac e H3 I3.kept⟩|true=>
 refine iX ?_;erw[Bv al,hR,rfl];erw[Ms ac,own,rfl,ac,am];cases(show ov= .str own from ho.1)
 let n1:=hR.n1;let k:=k rs own rfl hR rfl ac am;let aB:=aA.mono s3.tk
 exists 5
 refine(0,0,x,_,dx,0,I3.at',T.qv,T.W9,by have:=I3.len;omega,?_)
 erw[I3.put "rule" v,I4,t4];let aC:=aB.mono t4
 exists 5
 refine(0,0,x,_,dx,0,I4.at',T.qv,T.zt,by have:=I4.len;omega,?_)
 erw[I4.put "own" (!own),I5,t5];let aD:=aC.mono t5
 exists g.boxes,0,C.boxes _,λaO A0 aE=>?_;refine AbO (tl:= []) C.boxes aE (λz H6 R hz s6 r=>[0:(sml rfl):λl hl=>r _ _ (qf hl _) (Is.new (ds:= [!z,-""]) (_,0,[1:hz],_,0,[1:yC ()],1) hl)]) λH6 ys s6 e6 i6=>?_
 exists A0,0,O9 e6 i6,MJ,(),λdb Z=>?_
 let I6:=I5.same s6;let s7:ic H6 (upd H6 db (.dK (li (BX.map λz=>(z,V.str ""))))):=qf Z _;let I7:=I6.same s7;let b7:=SY Z;let aF:=(aD.mono s6.tk).mono s7.tk;let nx:∀b o,H b=u_ o->b≠x->b≠db:=λb o h n=>qk (I6.kept b o h n) Z;let U:x≠db:=qk I6.at' Z
 exists 5
 refine(0,x,_,dx,0,I7.at',T.qv,T.Qx,by have:=I7.len;omega,?_)
 erw[I7.put "boxes" (-db),I8,t8];let b8:=b7.move t8 (qj U.symm);let aG:=aF.mono t8
 exists 5
 refine(0,x,_,dx,0,I8.at',T.qv,T.Qm,by have:=I8.len;omega,?_)
 erw[I8.put "place" (.int 1),I9,t9];let b9:=b8.move t9 (qj U.symm);let aH:=aG.mono t9
 exists 5
 refine(0,x,_,dx,0,I9.at',T.qv,T.yj,by have:=I9.len;omega,?_)
 erw[I9.put "done" (.int 0),ad,ao];let aI:=b9.move ao (qj U.symm);let ap:=aH.mono ao
 exists (sml rfl),λdg ae=>?_;let af:=qf ae (.lst []);let ag:=ad.same af;let aJ:=aI.same af;let aq:=ap.mono af.tk;let ah:dg≠x:=(qk ad.at' ae).symm
 exists 5
 refine(0,x,_,dx,0,ag.at',T.qv,T.YT,by have:=ag.len;omega,?_)
 erw[ag.put "given" (-dg),ak,au];let aK:=aJ.move au (qj U.symm);let aw:=aq.mono au
 exists 5
 refine(0,x,_,dx,0,ak.at',T.qv,T.qN,by have:=ak.len;omega,?_)
 erw[ak.put "there" .non,aa,ax];let aL:=aK.move ax (qj U.symm);let ay:=aw.mono ax;let hl:=aa.len
 exists 0,x,dx,0,aa.at',(NM ()).meth _ ()
 let aM:Is _ (jS rs) v:=hv.mono (htk aa);let frs:∀{b:o3}{H2:Hp},(∀c o,H c=u_ o->c≠x->H2 c=u_ o)->H2 b=U_->b≠x->H b=none:=λ{b H2} k1 h1 n1=>by
  cases hc:H b with
  |none=>rfl|some o=>rw[k1 b o hc n1] at h1;cases h1
 let aN:∀b o,H b=u_ o->b≠x->b≠dg:=λb o h n=>qk (ad.kept b o h n) ae
 exists 5
 refine((x,db,dg,rs,own),(B0,(1),(0),[],.non),1,(dx,_,rv,v,.non,[],aa.at',NM (),ay,aM,aL,?_,1,1),1,Aaj,am,hR,Int.le_refl 1,by show(1:Int)<=(↑rs:Int)+1;omega,vc _,λH' m M=>k H' db dg (λb o h n=>m.kept b o (aa.kept b o h n) n (nx b o h n) (aN b o h n)) (frs I6.kept Z U.symm) (frs ad.kept ae ah) M)
 rw[qj ah,qj ah,qg]
abbrev Jm (z:Str):Bool:=z.cps.toList.all QD
def Ep {y:Str}(h:Jm z=v_)(k:Jm y=v_):Jm (z++y)=true:=by
 unfold Jm at*;show(z.cps++y.cps).toList.all QD=v_;rw[Tw,UU,h,k];rfl
mutual
noncomputable def lw:D->Bool
 | .str z=>Jm z| .tup xs=>lwL xs|_=>Vi
noncomputable def lwL:oj D->Bool
 | []=>v_|x::r=>lw x&&lwL r
end
def Ar (z:Str):↑z=↑z.cps.toList:=by show z.cps.size=_;simp
def ES (h:Jm z=v_)(O:↑z<=300):isT (!z)=true:=by
 let U:QA z=true:=by
  unfold QA;rwa[ug O,Vd]
 let Z:sz (!z)<=600:=by simp![sz];omega
 let e2:dp (!z)<=12:=by simp![dp];omega
 let e3:ky (!z)=true:=by simp![ky];exact U
 unfold isT;rw[e3,ug Z,ug e2]
 rfl
abbrev isP:D->Bool
 | .tup xs=>decide (↑xs=2)|_=>Vi
abbrev si:D->Bool
 | .tup [k,d]=>if eqD k (-"made")=v_ then mQ d else(eqD k (-"leaf")||eqD k (-"rule"))&&isT d|_=>Vi
abbrev okS:D->Bool
 | .tup [k,_]=>Nr k&&decide (dp k<=60)|_=>v_
inductive Ox:Sp
 |mk (v:_)(d:_)(_:vs= [v])(_:Is H d v)(_:Q (.bl (isP d)) H)
inductive Dm:Sp
 |mk (v:_)(d:_)(_:vs= [v])(_:Is H d v)(_:okS d=v_)(_:∀H',ic H H'->Q (.bl (si d)) H')
inductive ON (K:PySem.W.Frag):Sp
 |mk (q:Addr)(ns:List Int)(k:Int)(_:vs= [-q,.int k])(_:0<=k)(_:SqL K H q (ns.map V.int))(_:∀i:Int,Q (.int i) H)
def lC {b:Bool}{A B:Prop}(O:b=v_)(h:A):if b=v_ then A else B:=by rw[A6 O];exact h
def iO {b:Bool}{A B:Prop}(O:b=Vi)(h:B):if b=v_ then A else B:=by rw[A4 (by rw[O];exact ub)];exact h
def Pz:#[T,1,a.f_is_pair,a.d_is_pair,["value"],Ox]:=by
 exists 9,T.mr,Cs
 erw[h,v,d,rfl,U,k];exists 3,%[|#[qm,#[Zw,#[qy,#[qX,2,rfl],T.qT,vh,#v[pv 0,#[yf,.ty "tuple",T.QB,vx]]],#[XJ,#[Qn,QL,#[qy,JL,T.yi,uM,#v[pv 0]],qi]]]]]
 exists 0,v,"tuple",tyD d,Zf d,1,U.ty,Xq d,0;cases Z:Zf d with
 |false=>
  refine iX ?_;let e:isP d=false:=by cases d<;>first|rfl|simp[Zf] at Z
  rwa[e] at k
 |true=>
  obtain⟨xs,rfl⟩:∃xs,d=¬xs:=by cases d<;>simp[Zf] at Z;exact⟨0⟩
  erw[U,p,us,rfl,hp,O];let lu:=↑O;refine lD [0:.inr (p,us,1,.inr (SqT.of hp),λ_=>[1:?_])];let e:decide (V.int (↑us:Int)=V.int 2)=isP (¬xs):=by
   simp![isP,ve];constructor
   .intro h;have:=V.int.inj h;omega
   .intro h;rw[lu,h]
    rfl
  rwa[<-e] at k
def Ec:#[T,3,a.Wj,a.ww,["value"],Dm]:=by
 let O:=#[Pz,T];let QQ:=#[Xt,T];let yD:=#[jD,T];exists 9,T.m7,nV,Z
 erw[h,v,d,rfl,hv,hok,k];exists 3,%[#[qH,#[Qp,#[Qc,#[qq,16,O,Z.mono (),_,T.mr.m,T.mr.F.kp,T.mr.b,.nil,qz,#v[pv 0],_,_,_]]],%[|#[qm,Yr]],qt],#[qH,#[qp,#[Abu,1,Z.units],#[qG,qA,pv 0],ql,qw _],%[|#[qm,#[qq,16,QQ,Z.mono (),_,T.iw.m,T.iw.F.kp,T.iw.b,.nil,qz,#v[#[qG,qA,pv 0]],_,_,_]]],qt]|#[qm,#[Zw,#[Qn,8,#[Nm,1,Z.units],#[qG,qA,pv 0],#[qI,#v[ql,ql]],#[w]],#[XJ,#[qq,16,yD,Z.mono (),_,T.iE.m,T.iE.F.kp,T.iE.b,.nil,qz,#v[#[qG,qA,pv 0]],_,_,_]]]]]
 exists 0,v,0,hv,0;cases hP:isP d with
 |false=>
  refine lD ?_;let e:si d=false:=by
   cases d with
   |tup xs=>
    match xs,hP with
    | [],_=>rfl| [_],_=>rfl| [_,_],h=>simp[isP] at h|_::_::_::_,_=>rfl
   |_=>rfl
  have:=k H (ic.refl _);rwa[e] at this
 |true=>
  refine iX ?_;obtain⟨z,e,rfl⟩:∃z e,d=-[z,e]:=by
   cases d with
   |tup xs=>
    match xs,hP with
    | [],h=>simp[isP] at h| [_],h=>simp[isP] at h| [x,y],_=>exact[x:y:1]|_::_::_::_,h=>simp[isP] at h
   |_=>simp[isP] at hP
  erw[id hv,p,us,rfl,hp,x1,r1,rfl,h1,x2,r2,rfl,h2,h3];cases(show r2= [] from h3)
  let U:Nr z=v_/\dp z<=60:=by simpa [okS] using hok
  exists 0,p,_,_,0,1,SqT.of hp,1,z,"made",h1,1,(),U.1,U.2,0
  cases c:eqD z (-"made") with
  |true=>
   refine lD (0,p,_,_,0,1,SqT.of hp,1,x2,e,1,h2,λH' s'=>?_);have:=k H' s';simp![si,c,Vh] at this;exact this
  |false=>
   refine iX (0,p,_,_,0,1,SqT.of hp,1,(sml rfl),λq hq=>?_);let s1:ic H (upd H q (-[-"leaf",-"rule"])):=qf hq _
   exists z,q,["leaf","rule"],h1.mono s1.tk,1,.inr (SqT.of qg),(),U.1,U.2,0
   let e2:(["leaf","rule"]:oj Str).any (λy=>eqD z (!y))=(eqD z (-"leaf")||eqD z (-"rule")):=by simp
   rw[e2];cases c2:(eqD z (-"leaf")||eqD z (-"rule")) with
   |true=>
    refine lD (0,p,_,_,0,1,SqT.of (s1 _ _ hp),1,x2,e,1,h2.mono s1.tk,λH' s'=>?_);have:=k H' (s1.trans s');simp![si,c,c2,Vd,UQ,if_false] at this;exact this
   |false=>
    refine iX ?_;have:=k _ s1;simp![si,c,c2,f_,UQ,if_false] at this;exact this
def PX:#[T,1,a.X6,a.XT,["script","k"],(ON K)]:=by
 exists 9,T.mz,W6
 erw[h,q,ns,j,rfl,h0,O,k];exists 3,%[#[qH,#[qp,D3,pv 1,#[qy,qJ,T.yi,uM,#v[pv 0]],qw _],%[|#[qm,#[qG,7,Yb,pv 0,pv 1,(λ_ _=>rfl)]]],qt]|#[qm,qi]]
 exists 0,0,q,0,.inl O,_,0,1,0;refine mi (λc=>?_) (λc=>?_)
 .let Z:j<(↑(ns.map V.int):Int):=uC c;erw[xk h0 Z,v,U];erw[Ae.mp (zE U),i,_,rfl];exact(0,0,q,_,_,0,1,O,U,k _)
 .exact k 0
abbrev okN (z:Str):Bool:=(z.cps.toList.map λc=>inS ⟨#[c]⟩ NSG).all id
def XO (h:nm z=v_):1<=↑z/\↑z<=24:=by
 by_cases c:1<=(↑z:Int)/\(↑z:Int)<=24
 .omega
 .rw[BI c] at h;cases h
abbrev Nms (zs:oj Str):Prop:=(∀z>zs,nm z=v_)/\zs.Nodup
abbrev sR (d:D):Prop:=(∃k e,d=-[!k,e])/\si d=v_/\lw d=v_/\sz d<=306
abbrev prD (p:Str×D):D:=-[.str p.1,p.2]
abbrev AdK (ps:oj (Str×D)):Prop:=Nms (ps.map (·.1))/\∀p>ps,sR p.2
def Eo (h:okN z=v_):Jm z=true:=by
 unfold Jm;rw[Ub];intro c U;have:=List.all_eq_true.mp h _ (Ae.mpr [c:U:1]);rw[id,SD] at this;let O:∀c>NSG.cps.toList,QD c=true:=by decide+kernel
 exact O c (uC this)
def Nu (h:nm z=v_):okN z=true:=by
 let O:=XO h;cases h3:inS ⟨#[z.cps.getD 0 0]⟩ LET with
 |false=>rw[BJ h3] at h;cases h|true=>
  rw[Eu () () h3] at h
  exact h
def Le (h:nm z=v_):sR (-[-"made",!z]):=by
 let O:=XO h;refine([_:0],?_,?_,by simp![sz,szL];show 1+(("made":Str).length+1+(↑z+1+0))<=306;have:("made":Str).length=4:=rfl;omega)
 .show(if eqD (-"made") (-"made")=v_ then nm z else(eqD (-"made") (-"leaf")||eqD (-"made") (-"rule"))&&isT (!z))=v_
  rw[A6 ()]
  exact h
 .have:Jm "made"=true:=by decide+kernel
  simp![lw,lwL,this,Eo (Nu h)]
  rfl
def Lf {k:Str}{d:D}(O:k="leaf"\/k="rule")(h:isT d=v_)(U:lw d=v_)(hz:sz d<=300):sR (-[!k,d]):=by
 let Z:↑k=4:=by rcases O with rfl|rfl<;>rfl
 refine([_:0],?_,?_,by simp![sz,szL];omega)
 .show(if eqD (!k) (-"made")=v_ then mQ d else(eqD (!k) (-"leaf")||eqD (!k) (-"rule"))&&isT d)=v_
  let e1:eqD (!k) (-"made")=false:=by rcases O with rfl|rfl<;>decide+kernel
  let e2:(eqD (!k) (-"leaf")||eqD (!k) (-"rule"))=true:=by rcases O with rfl|rfl<;>decide+kernel
  rw[e1,e2,h]
  rfl
 .have:Jm k=true:=by
   rcases O with rfl|rfl<;>decide+kernel
  simp![lw,lwL,this,U]
  rfl
def Oj {d:D}(h:sR d):okS d=true:=by
 erw[h,[k,e,rfl],_];simp[okS,Nr,trD,dp]
def yU (h:↑z<=16000000):Is H (!z) (!z):=[1:nB h]
abbrev qB (ps:oj (Str×D))(z:Str):D:=((ps.find? λp=>decide (p.1=z)).map (·.2)).getD .non
abbrev zQ (vs:oj (Str×V))(z:Str):V:=(iV (li vs) (Vl z)).getD .non
def zl (p:Str×V)(r:oj (Str×V)):li (p::r)=(Vl p.1,p.2)::li r:=rfl
def Kx {H:Hp}{z:Str}:∀{ps:oj (Str×D)}{vs:oj (Str×V)},vs.map (·.1)=ps.map (·.1)->IsL H (ps.map (·.2)) (vs.map (·.2))->z>ps.map (·.1)->iV (li vs) (Vl z)=u_ (zQ vs z)/\Is H (qB ps z) (zQ vs z)
 | [],_,_,_,h=>nomatch h|p::ps,[],e,_,_=>by simp at e|p::ps,v::vs,e,hi,hz=>by
  simp![uw,UW] at e;erw[hi,u,r,e2,h1,h2];simp![uw,UW] at e2;erw[e2,rfl,rfl];by_cases c:p.1=z
  .let O:v.1=z:=e.1.trans c;let e3:iV (li (v::vs)) (Vl z)=u_ v.2:=by
    rw[zl];exact QW (by rw[O])
   let U:qB (p::ps) z=p.2:=by simp[qB,vf,c]
   unfold zQ;rw[e3,U];exact[1:h1]
  .let O:¬v.1=z:=λq=>c (e.1.symm.trans q);let e3:iV (li (v::vs)) (Vl z)=iV (li vs) (Vl z):=by
    rw[zl];exact QJ (λq=>O (Uw q))
   let U:qB (p::ps) z=qB ps z:=by simp[qB,vf,c]
   let Z:z>ps.map (·.1):=by
    rcases Aa.mp hz with h|h
    .exact A8 h.symm c
    .exact h
   let ih:=Kx e.2 h2 Z;unfold zQ at*;rw[e3,U];exact ih
def oU {z:Str}:∀{vs:oj (Str×V)},z∉vs.map (·.1)->iV (li vs) (Vl z)=U_
 | [],_=>rfl|v::vs,h=>by
  rw[zl,QJ (λq=>h (by rw[<-Uw q];exact ui ..))]
  exact oU λm=>h (uh _ m)
def Nf:∀{ps:oj (Str×D)},(ps.map (·.1)).Nodup->(ps.map (·.1)).map (λz=>(z,qB ps z))=ps
 | [],_=>rfl|p::ps,h=>by
  let h':=List.nodup_cons.mp h;let O:qB (p::ps) p.1=p.2:=by simp[qB,vf]
  rw[uw,uw,O]
  congr 1
  refine Eq.trans (UJ λz hz=>?_) (Nf h'.2);have:¬p.1=z:=λq=>h'.1 (by show p.1>_;rwa[q])
  simp[qB,vf,this]
abbrev Cm (ps:oj (Str×D))(ms:oj Str):oj (Str×D):=ms.map λz=>(z,qB ps z)
def Kz (ps:oj (Str×D))(O:oj Str):(Cm ps O).map (·.1)=O:=by
 unfold Cm;rw[uP];exact(UJ λ_ _=>rfl).trans (Hq O)
def Bh {ps:oj (Str×D)}{O:oj Str}(hn:(ps.map (·.1)).Nodup)(h:O.Perm (ps.map (·.1))):(Cm ps O).Perm ps:=by
 have:=h.map λz=>(z,qB ps z);rwa[Nf hn] at this
abbrev QT (C:o3)(H:Hp)(x:o3)(qs:oj (Str×D)):Prop:=∃(dx d:o3) (o:Obj) (vs:oj (Str×V)),H x=u_ (.ins C dx [("by_name",-d)])/\H d=u_ (.frz o (.dK (li vs)))/\vs.map (·.1)=qs.map (·.1)/\L2.IsL H (qs.map (·.2)) (vs.map (·.2))
variable {qs:oj (Str×D)}
def QT.same {x:o3}(h:QT C H x qs)(s:ic H H'):QT C H' x qs:=by
 erw[h,dx,d,o,vs,h1,h2,h3,h4];exact(dx,d,o,vs,s _ _ h1,s _ _ h2,h3,h4.mono s.tk)
abbrev Qa (qs:oj (Str×D)):Prop:=AdK qs/\sortedS (qs.map (·.1))=v_/\↑qs<=60
inductive OF (C:Addr):Sp
 |mk (x dx t:Addr)(ps:List (Str×D))(us:List V)(_:vs= [-x,-t])(_:H x=u_ (.ins C dx []))(_:H t=u_ (¬us))(_:L2.IsL H (ps.map prD) us)(_:AdK ps)(_:↑ps<=60)(_:∀(qs:List (Str×D))(H':Hp),(∀b o,H b=u_ o->b≠x->H' b=u_ o)->QT C H' x qs->Qa qs->qs.Perm ps->Q .non H')
variable {l:oj Str}
def Nms.perm {m:oj Str}(h:Nms m)(p:l.Perm m):Nms l:=[λz hz=>h.1 z (p.mem_iff.mp hz):(p.nodup_iff).mpr h.2]
def sD {ps:oj (Str×D)}{d:D}(hn:(ps.map (·.1)).Nodup)(h:(z,d)>ps):qB ps z=d:=by
 induction ps with
 |nil=>cases h|cons p r Z=>
  let O:=List.nodup_cons.mp hn;rcases Aa.mp h with h|h
  .subst h;simp[qB,vf]
  .have:¬p.1=z:=λq=>O.1 (by show p.1>_;rw[q];exact Ae.mpr [_:h:1])
   let U:=Z O.2 h
   simpa [qB,vf,this] using U
def SW {ps:oj (Str×D)}(hn:(ps.map (·.1)).Nodup)(h:z>ps.map (·.1)):(z,qB ps z)>ps:=by
 erw[Ae.mp h,p,O,rfl];rw[sD hn (show(p.1,p.2)>ps from O)]
 exact O
def EX (vs:oj (Str×V))(z:Str)(v:V):li (vs++ [(z,v)])=li vs++ [(Vl z,v)]:=by
 unfold li;rw[ur]
 rfl
def AeK {α β:Type}(f:α->β){l:oj α}(h:i<↑l):(l.map f)[i]? =u_ (f l[i]):=by
 rw[uJ,uf h]
 rfl
def Lb {α:Type}{l:oj α}(h:i<↑l):l.take (i+1)=l.take i++ [l[i]]:=by
 rw[vg,uf h]
 rfl
def PL:#[T,4,a.jq,a.xL,["self","sources"],(OF a.qE)]:=by
 let QQ:=#[Xt,T];let U:=#[Ec,T];refine T.mn.F.ok yT () (λ_ _ _ _ H vs Q E hr h=>?_)
 erw[h,x,dx,t,ps,us,rfl,hx,ht,ap,hok,aL,k];let hs:=uE;exists 3,%[#[qF,2,(2),4,yT.nd,rfl,GN rfl,xo,_,_],#[yW,#[Wl,pv 1],#[Kf,Qz #[qM,(3),yT.nd] (Qz #[qM,(4),yT.nd] Jz)],%[#[qH,#[Qp,#[Qc,#[qq,QQ,T.iw,#v[pv 3]]]],%[|jZ],qt],#[qH,#[Qp,#[Qc,#[qq,U,T.m7,#v[pv 4]]]],%[|jZ],qt],#[qH,#[WX,#[pc_din,QR hr,pv 3,pv 2]],%[|jZ],qt],#[qH,#[qp,QL,#[qy,IC,T.yi,uM,#v[pv 2]],#[KQ,T.m_MOST_NAMES],qw _],%[|jZ],qt]|#[JT,pv 2,pv 3,pv 4]]]|#[Qh,#[qV,#[CV,1,rfl],T.z_dict,boot_dict,#v[#[XY,["name","by_name"],[2],IQ (qh Yl) ["self","sources","by_name","name","source"],#[JV,#[qy,#[sH,1,rfl],T.z_sorted,boot_sorted,#v[pv 2]]],(λ_ _ _ _ _ _=>#[qM,(0),(show Vw (["name","by_name"]:oj Str) by decide+kernel)]),(λ_ _ _ _ _ _=>#[qI,#v[pv 0,#[QC,pv 1,pv 0]]])]]]]]
 intro d hd;let s1:ic H (upd H d (.dK [])):=qf hd _;let aM:d≠x:=λe=>by rw[e,hx] at hd;cases hd
 let aq:=↑ap;rw[uc] at aq
 exists 5
 refine⟨0,t,1,[_:SqT.of (s1 _ _ ht)],Xi (K:=K) (a:=t) (xs:=us) (λi σ H'=>∃(vs:oj (Str×V)) (nv sv:om V),σ= [u_ (-x),u_ (-t),u_ (-d),nv,sv]/\ic H H'/\H' d=u_ (.dK (li vs))/\vs.map (·.1)=(ps.take i).map (·.1)/\L2.IsL H' ((ps.take i).map (·.2)) (vs.map (·.2)))
  ([],U_,U_,1,s1,qg,1,1) (λi σ H' _ ⟨_,_,_,_,sm,_⟩=>SqT.of (sm _ _ ht)) ?_ ?_⟩
 .rintro i y σ H' hi ⟨vs,nv,sv,rfl,sm,ac,hk,hv⟩;let aN:i<↑us:=(Af.mp hi).1;let Z:i<↑ps:=by omega
  erw[ap.get (AeK prD Z),v,e1,e2];rw[hi] at e1;cases e1;let au:=hok.2 _ (uR Z);let aB:nm ps[i].1=true:=hok.1.1 _ (Ae.mpr [_:uR Z:1]);erw[au,[sk,sd,aO],aC,aP];erw[e2,p,ws,rfl,hp,w1,r1,rfl,[rfl,hz],w2,r2,rfl,h2,h3];cases(show r2= [] from h3)
  let aD:=sm _ _ hp
  exists p,0,SqT.of aD,1,_,0,_,0,1
  exists 0,_,.str ps[i].1,1,[1:hz],λH3 s3=>⟨0,iO (by simp[mQ,aB]) ?_⟩
  let aw:Is H3 ps[i].2 w2:=h2.mono (sm.trans s3).tk
  exists 0,w2,ps[i].2,1,aw,Oj (hok.2 _ (uR Z)),λH4 s4=>⟨0,iO (by rw[aC];rfl) ?_⟩
  let af:=s3.trans s4;let ad:=af _ _ ac;let nk:ps[i].1∉vs.map (·.1):=by
   rw[hk];let aa:=hok.1.2;let e:ps.map (·.1)=(ps.take i).map (·.1)++ps[i].1::(ps.drop (i+1)).map (·.1):=by
    rw[<-uw (f:=λx:Str×D=>x.1),<-uV Z,<-ur,vV]
   rw[e,T6] at aa;exact λm=>aa.2.2 _ m _ (ui ..) rfl
  let ev:=oU nk;let aE:↑vs=i:=by
   have:=A9 Gb hk;rw[uc,uc,vD] at this;omega
  exists 0,0,d,0,mO.k (k:=Vl ps[i].1) ad,0,iO (by rw[ev];rfl) ?_
  exists 0,d,0,ad,1,0,iO (uj λq=>?_) ?_
  .have:=V.int.inj q;unfold li at this;rw[uc] at this;omega
  .let aF:↑(li vs)<sizeLine:=by
    unfold li;rw[uc];omega
   exists 0,0,0,d,0,IP.k (k:=Vl ps[i].1) ad aF;let tk:Tk H4 (upd H4 d (.dK (lW (li vs) (Vl ps[i].1) w2))):=Tk.updD ad
   exists vs++ [(ps[i].1,w2)],_,0,?_,?_,?_,?_
   .intro b o e;rw[qj (qk e hd)];exact(sm.trans af) _ _ e
   .rw[qg,qae _ ev,EX]
   .rw[Lb Z,ur,ur,hk]
    rfl
   .rw[Lb Z,ur,ur];exact(((hv.mono af.tk).mono tk)).append (L2.IsL.one ((aw.mono s4.tk).mono tk))
 .rintro σ H1 ⟨vs,nv,sv,rfl,sm,ac,hk,hv⟩;rw[aq,U2] at hk hv;let aE:↑vs=↑ps:=by
   have:=A9 Gb hk
   rwa[uc,uc] at this
  let ag:(li vs).map (·.1)=(ps.map (·.1)).map Sum.inr:=by rw[WN,hk]
  exists 5
  refine⟨0,d,li vs,ps.map (·.1),1,ac,ag,by rw[uc];omega,λms q O ah hq=>(q,1,[_:SqL.of qg],λA0 ak=>?_)⟩
  let s2:ic H1 (upd H1 q (.lst (ms.map V.str))):=qf hq _;let aQ:↑ms=↑ps:=by
   have:=O.length_eq
   rwa[uc] at this
  refine Sr (K:=K) (tl:= [u_ (-d)]) (λi ys H'=>∃ts:oj o3,ys=ts.map V.ref/\↑ts=i/\ic H1 H'/\H' A0=u_ (.lst ys)/\∀(j:Nat) (t:o3) (z:Str),ts[j]? =u_ t->ms[j]? =u_ z->H' t=u_ (-[!z,zQ vs z])) qg () ak
   ([],1,1,s2.trans (qf ak _),qg,λj t z h=>by simp at h) ?_ ?_
  .rintro i z ys H' hz ⟨ts,rfl,ae,s3,hA,al⟩ _ _ _ R r;let aG:z>ps.map (·.1):=O.mem_iff.mp (uQ hz);let lk:=Kx hk hv aG
   exists 0,0,0,d,zQ vs z,1,?_,(sml rfl),λt2 am=>?_
   .have:=mO.k (k:=Vl z) (s3 _ _ ac);rwa[lk.1] at this
   .let s4:=qf am (-[V.str z,zQ vs z]);let aH:t2≠A0:=λe=>by rw[e,hA] at am;cases am
    refine r _ _ (s4 _ _ hA) (s4 _ _ (by assumption)) (ts++ [t2],by rw[ur];rfl,by rw[uL,ae];rfl,?_,qg,?_)
    .intro b o e;let nb:b≠A0:=qk (s2 _ _ e) ak;rw[qj nb];exact s4 _ _ (s3 _ _ e)
    .intro j t z' h1 h2;rcases V8 j i with hj|hj
     .rw[UH ()] at h1
      have:=al j t z' h1 h2;let nb:t≠A0:=λe=>by rw[e,hA] at this;cases this
      rw[qj nb];exact s4 _ _ this
     .have aI:j=i:=by
       have:=(Af.mp h1).1;rw[uL] at this;have:j<↑ts+1:=this;omega
      subst aI;rw[hz] at h2;cases h2;rw[vn (),ae,Ho] at h1
      cases h1;rw[qj aH];exact qg
  .rintro ys H2 ⟨ts,rfl,ae,s3,hA,al⟩ _;let aa:=hok.1.2;let aJ:ms.Nodup:=O.nodup_iff.mpr aa;let ax:(ms.map λz=>(z,zQ vs z)).map (·.1)=ms:=by
    rw[uP];exact(UJ λ_ _=>rfl).trans (Hq ms)
   exists 5
   refine(A0,ms.map λz=>(z,zQ vs z),1,(ts,hA,by rwa[uc],λj t p h1 h2=>?_),by rwa[ax],by rw[uc];omega,λq2 o ao=>?_)
   .rw[uJ] at h2;cases h3:ms[j]? with
    |none=>rw[h3] at h2;cases h2|some z=>
     rw[h3] at h2;cases h2;exact al j t z h1 h3
   .let s4:=qf ao (.frz o (.dK (li (ms.map λz=>(z,zQ vs z)))));let ay:H1 x=u_ (.ins a.qE dx []):=sm _ _ hx;let aA:=s4 _ _ (s3 _ _ ay);let nq:q2≠x:=λe=>by rw[e,s3 _ _ ay] at ao;cases ao
    exists 0,x,a.qE,dx,[],1,aA,T.Q4,T.Q9,(by show 0<1000;decide)
    refine k (Cm ps ms) _ ?_ (dx,q2,o,ms.map λz=>(z,zQ vs z),qg,by rw[qj nq];exact qg,by rw[ax,Kz],?_) ⟨[?_:?_],by rwa[Kz],by unfold Cm;rw[uc];omega⟩ (Bh aa O)
    .intro b ob e nb;rw[qj nb];exact s4 _ _ (s3 _ _ (sm _ _ e))
    .let tk:Tk H1 (upd (upd H2 q2 (.frz o (.dK (li (ms.map λz=>(z,zQ vs z)))))) x (.ins a.qE dx (iK "by_name" (-q2) []))):=(s3.trans s4).tk.trans (Tk.updI aA);let aK:∀l:oj Str,(∀z>l,z>ps.map (·.1))->L2.IsL H1 ((Cm ps l).map (·.2)) ((l.map λz=>(z,zQ vs z)).map (·.2)):=by
      intro l
      induction l with
      |nil=>exact λ_=>rfl|cons z r ih=>exact λh=>(_,0,(Kx hk hv (h z (ui ..))).2,ih λy hy=>h y (uh _ hy))
     exact(aK ms λz hz=>O.mem_iff.mp hz).mono tk
    .rw[Kz];exact hok.1.perm O
    .intro p hp;exact hok.2 p ((Bh aa O).mem_iff.mp hp)
def Ia:VI ("by_name":Str) [(("by_name":Str),v)]=u_ v:=by simp[VI]
def yA:VI ("source_of":Str) [(("by_name":Str),v)]=none:=by
 have:(("source_of":Str)=="by_name")=false:=by decide+kernel
 simp[VI,this]
inductive Wi (C:Addr):Sp
 |mk (x:Addr)(z:Str)(qs:List (Str×D))(_:vs= [-x,!z])(_:QT C H x qs)(_:∀v:V,(z>qs.map (·.1)->Is H (qB qs z) v)->(z∉qs.map (·.1)->v= .non)->Q v H)
def Yd:#[T,1,a.YK,a.YS,["self","name"],(Wi a.qE)]:=by
 refine T.ig.F.ok xD () (λ_ _ _ _ H vs Q E U h=>?_)
 erw[h,x,z,qs,rfl,[dx,d,o,vs,Z,hd,O,hv],k];exists 3,%[|#[qm,#[KR,7,QR U,#[qP,5,pv 0,rfl],pv 1,(1,1,1,1)]]]
 exists 0,x,a.qE,dx,_,0,Z,T.Q4,T.Q9,Ia,d,1,.inl [_:.inr [o:hd]],0,_,.inl (_,Vl z,.inr [o:hd],1,1);refine k _ (λc=>?_) λc=>?_
 .exact(Kx O hv c).2
 .rw[oU (by rwa[O])]
  rfl
abbrev Cv (zs:oj Str):D:= .tup (zs.map D.str)
abbrev Bu (acc:oj Str):oj Str->oj Str
 | []=>acc|z::r=>if isT (Cv (acc++ [z]))=v_ then Bu (acc++ [z]) r else acc
inductive Kl (K:PySem.W.Frag):Sp
 |mk (L:Addr)(zs:List Str)(_:vs= [-L])(_:H L=u_ (.lst (zs.map V.str)))(_:(∀z>zs,↑z<=100))(_:↑zs<=100)(_:∀(v:V)(H':Hp),ic H H'->Is H' (Cv (Bu [] zs)) v->Q v H')
variable {xs:oj V}{Q:VK}
def Aej {K:o0}{a:o3}{x:V}(ha:H a=u_ (¬xs))(O:↑xs+1<=Vm)(k:∀p H',ic H H'->H' p=u_ (.tup (xs++ [x]))->Q (-p) H'):
  [x].length<=Vm/\∀q,H q=U_->DO K (-a) (-q) (upd H q (-[x])) Q:=by
 exists sml rfl,λq U=>?_;let s1:ic H (upd H q (-[x])):=qf U _;exists a,q,xs,[x],1,1,SqT.of (s1 _ _ ha),SqT.of qg,O,λe=>?_,(λ_ e=>by cases e),λ_ _ p Z=>?_
 .refine k q _ s1 ?_;rw[e];exact qg
 .exact k p _ (s1.trans (qf Z _)) qg
variable {zs:oj Str}{p:o3}
def ER (h:H p=u_ (.tup (zs.map V.str)))(hz:∀z>zs,↑z<=100):Is H (Cv zs) (-p):=by
 let O:∀(zs:oj Str),(∀z>zs,↑z<=100)->IsL H (zs.map D.str) (zs.map V.str):=by
  intro zs
  induction zs with
  |nil=>exact λ_=>rfl|cons z r U=>
   intro h;exact(_,0,⟨1,nB (by have:=h z (ui ..);omega)⟩,U λy Z=>h y (uh _ Z))
 exact(p,0,h,O zs hz)
def Bt:∀(zs O:oj Str) (z:Str),z>Bu O zs->z>O\/z>zs
 | [],O,z,h=> .inl h|y::r,O,z,h=>by
  unfold Bu at h;split at h
  .rcases Bt r _ z h with h|h
   .rcases Ac.mp h with h|h
    .exact .inl h
    .exact .inr (by rw[Ab.mp h];exact ui ..)
   .exact .inr (uh _ h)
  .exact .inl h
inductive Dt (C:Addr):Sp
 |mk (x t:Addr)(kind text:Str)(qs:List (Str×D))(_:vs= [-x,-t])(_:QT C H x qs)(_:Qa qs)(_:H t=u_ (-[!kind,!text]))(_:↑text<=1000)(_:((kind="has"/\Q (.str (if text>qs.map (·.1) then "yes" else "no")) H)\/(kind="names"/\∀(v:V)(H':Hp),ic H H'->Is H' (Cv (Bu [] ((qs.map (·.1)).filter λz=>GF z text))) v->Q v H')))
def AA {vs:oj (Str×V)}(O:vs.map (·.1)=qs.map (·.1))(hi:L2.IsL H (qs.map (·.2)) (vs.map (·.2)))(z:Str):(iV (li vs) (Vl z)).isSome=decide (z>qs.map (·.1)):=by
 by_cases c:z>qs.map (·.1)
 .rw[(Kx O hi c).1,ug c]
  rfl
 .rw[oU (by rw[O];exact c),uj c]
  rfl
def CD:#[T,3,a.XN,a.zB,["names"],(Kl K)]:=by
 let yD:=#[jD,T];exists 9,T.mx,Ym
 erw[h,L,zs,rfl,hL,hz,hn,k];let hs:=uE;exists 3,%[#[qF,(1),Ym.nd,#[qI,qd]],#[yW,#[JV,pv 0],#[qM,(2),Ym.nd],%[#[qH,#[Qp,#[Qc,#[qq,yD,T.iE,#v[#[Qd,Zm,pv 1,#[qI,#v[pv 2]]]]]]],%[|LE],qt]|#[qF,(1),Ym.nd,#[Qd,Zm,pv 1,#[qI,#v[pv 2]]]]]]|#[qm,pv 1]]
 exists (sml rfl),λq hq=>?_;let s1:ic H (upd H q (-[])):=qf hq _
 exists 5
 refine(0,L,1,[_:SqL.of (s1 _ _ hL)],KW (K:=K) (a:=L) (xs:=zs.map V.str) (λi σ H'=>∃(row:oj Str) (p:o3) (kv:om V),σ= [u_ (-L),u_ (-p),kv]/\H' p=u_ (.tup (row.map V.str))/\ic H H'/\Bu row (zs.drop i)=Bu [] zs/\↑row<=i/\∀z>row,z>zs)
  ([],q,U_,1,qg,s1,1,uq _,λz h=>nomatch h) (λi σ H' _ ⟨_,_,_,_,_,s2,_⟩=>SqL.of (s2 _ _ hL)) ?_ ?_)
 .rintro i x σ H' hi ⟨row,p,kv,rfl,Z,s2,O,hl,hm⟩;let U:i<↑zs:=by
   have:=(Af.mp hi).1
   simpa using this
  obtain rfl:x=V.str zs[i]:=by
   rw[uJ,uf U] at hi;exact(uO hi).symm
  let ed:zs.drop i=zs[i]::zs.drop (i+1):=uV U;rw[ed] at O;rw[show Bu row (zs[i]::zs.drop (i+1))=if isT (Cv (row++ [zs[i]]))=v_ then Bu (row++ [zs[i]]) (zs.drop (i+1)) else row from rfl] at O
  let aa:∀z>row++ [zs[i]],z>zs:=λz h=>by
   rcases Ac.mp h with h|h
   .exact hm z h
   .rw[Ab.mp h];exact uR U
  let hsz:↑(row.map V.str)+1<=sizeLine:=by rw[uc];omega
  let em:row.map V.str++ [V.str zs[i]]=(row++ [zs[i]]).map V.str:=by simp
  exists 0,0,Aej Z hsz λp2 H3 s3 h3=>(_,Cv (row++ [zs[i]]),1,ER (by rw[h3,em]) λz h=>hz z (aa z h),λH4 s4=>[0:?_])
  cases hT:isT (Cv (row++ [zs[i]])) with
  |false=>
   rw[A4 (by rw[hT];exact ub)] at O
   refine lD [0:k _ H4 ((s2.trans s3).trans s4) ?_];rw[<-O];exact ER (s4 _ _ (s3 _ _ Z)) λz h=>hz z (hm z h)
  |true=>
   rw[A6 hT] at O;refine iX [0:0:Aej (s4 _ _ (s3 _ _ Z)) hsz λp5 H5 s5 h5=>?_];exact(row++ [zs[i]],p5,0,by rw[h5,em],((s2.trans s3).trans s4).trans s5,O,by rw[uL];show ↑row+1<=i+1;omega,aa)
 .rintro σ H' ⟨row,p,kv,rfl,Z,s2,O,hl,hm⟩
  exists 0,k _ H' s2 ?_;rw[uc,rD] at O;rw[<-O];exact ER Z λz h=>hz z (hm z h)
def oJ:#[T,4,a.Y3,a.Y0,["self","ask"],(Dt a.qE)]:=by
 let U:=#[CD,T];refine T.iL.F.ok xv () (λ_ _ _ _ H vs Q E hr h=>?_)
 erw[h,x,t,kind,text,qs,rfl,[dx,d,o,vs,hx,hd,hk,hv],Z,ht,ad,h];let hs:=uE;exists 3,%[#[qH,#[qp,QL,#[qG,qA,pv 1],ql,qw _],%[|#[qm,#[ya,#[WX,#[pc_din,QR hr,#[qG,qA,pv 1],#[qP,5,pv 0,rfl]]],ql,ql]]],qt]|#[qm,#[qq,U,T.mx,#v[#[XY,2,["name","ask"],(1),[1],9,IQ (qh QY) ["self","ask"],rfl,#[Pg,4,#[qP,5,pv 0,rfl]],(λ_ _ _ _ _ _=>#[qM,(0),(show Vw (["name","ask"]:oj Str) by decide+kernel)]),(λ_ _ _ _ _ _=>#[DS,3,#[Qc,#[Abp,1,K,11,rfl,vd,PySem.F.slot_str_startswith,PySem.F.type_str_startswith,Ey,pv 0,#v[#[qG,#[KA,1,K,rfl],pv 1]],_,_,_,_,_]]]),(λ_ _ _ _ _ _=>(pv 0)),_]]]]]
 exists 0,t,_,_,0,1,SqT.of ht,1,1,0;rcases h with⟨rfl,k⟩|⟨rfl,k⟩
 .refine lC (ug rfl) ?_
  exists 0,t,_,_,0,1,SqT.of ht,1,0,x,a.qE,dx,_,0,hx,T.Q4,T.Q9,Ia,d,0,.inl (_,Vl text,.inr [o:hd],1,1),0;rw[AA hk hv];by_cases c:text>qs.map (·.1)
  .rw[A6 c] at k;exact lC (ug c) k
  .rw[A4 c] at k;exact iO (uj c) k
 .refine iO () ?_
  let O:(li vs).map (·.1)=(qs.map (·.1)).map Sum.inr:=by rw[WN,hk]
  exists 0,x,a.qE,dx,_,0,hx,T.Q4,T.Q9,Ia,d,o,0,hd,λA0 aa=>?_;refine Sv (tl:= [u_ (-t)]) (λz=>GF z text) V.str hd O (by rw[uc];have:=Z.2.2;omega) aa (λz H1 R hz s1 r=>?_) (λz H1 R hz s1 r=>[0:r]) λH1 s1 h1=>?_
  .exact(0,1,0,t,_,_,0,1,SqT.of (s1 _ _ ht),1,z,text,1,1,0,r)
  .exists A0,0,h1,λz hz=>?_,?_,λv H2 s2 ac=>k v H2 (s1.trans s2) ac
   .have:=XO (Z.1.1.1 z (List.mem_filter.mp hz).1);omega
   .have:=UB (λz=>GF z text) (qs.map (·.1));rw[uc] at this;have:=Z.2.2;omega
abbrev yZ:D->Bool
 | .non=>v_|_=>Vi
abbrev xu:D->D
 | .tup [_,d]=>d|d=>d
abbrev X4 (d:D):Prop:=d= .non\/isT d=v_
abbrev Gd (d:D):Prop:=ky d=v_/\dp d<=20
def Ab2:∀z>(["kind","big","told","silent","long","name"]:oj Str),ky (flt z)=true:=by decide+kernel
def NJ (h:z>(["kind","big","told","silent","long","name"]:oj Str)):Gd (flt z):=⟨Ab2 z h,by show dp (-[-"fault",!z])<=20;simp[dp,dpL]⟩
def Ab1 {u:Str}{d:D}(O:QA u=v_)(h:isT d=v_):Gd (-[!u,d]):=by
 let U:=yl h;let hd:=Jh h;exists ?_,?_
 .simp![ky,goodL,O,U,U3]
  rfl
 .simp![dp,dpL];omega
def BU {u w:Str}{d:D}(O:QA u=v_)(U:QA w=v_)(h:isT d=v_):Gd (-[!u,-[!w,d]]):=by
 let Z:=yl h;let hd:=Jh h;exists ?_,?_
 .simp![ky,goodL,O,U,Z,U3]
  rfl
 .simp![dp,dpL];omega
def OY {B:Str->D}{p:Int}(hr:Jn n 300 r)(h:Tr B)(O:mM own r B p= .stop e):Gd e:=by
 unfold mM at O;erw[id hr,ks,hk,hp];erw[r,U,ps];by_cases c1:U>MKR
 .rw[A6 c1] at O;simp only at O;generalize made U B own ps=dm at O;let aa:(if isT dm=v_ then Out.go (Bm B (b0 ps) dm) (p+1) else .stop (flt "big"))= .stop e->Gd e:=by
   intro hq;by_cases c:isT dm=v_
   .rw[A6 c] at hq;cases hq
   .rw[A4 c] at hq;cases hq;exact NJ ()
  cases dm with
  |non=>cases O;exact NJ ()|_=>exact aa O
 rw[A4 c1] at O;by_cases c2:U>ASK
 .rw[A6 c2] at O;cases O;erw[Wf _ hk c2,_,_,Z];simp only at Z;subst Z;erw[W0 hp,z0,z1,rfl,h0,h1];let hT:=h z1 h1;show Gd (sP U (B z1));unfold sP;by_cases d1:U="names"
  .rw[A6 d1];by_cases d2:isStr (B z1)=v_
   .rw[A6 d2];exact BU () () hT
   .rw[A4 d2];exact NJ ()
  .rw[A4 d1];by_cases d2:mQ (B z1)=v_
   .rw[A6 d2];refine BU () ?_ hT
    split<;>decide+kernel
   .rw[A4 d2];exact NJ ()
 rw[A4 c2] at O;by_cases c3:U="say"
 .rw[A6 c3] at O;cases O;subst c3;let Z:=AC _ hk rfl;simp only at Z;subst Z;erw[Ac7 hp,z0,rfl,h0];exact Ab1 () (h z0 h0)
 rw[A4 c3] at O;by_cases c4:U="fault"
 .rw[A6 c4] at O;cases O;exact NJ ()
 rw[A4 c4] at O;by_cases c5:NC U B ps=v_
 .rw[A6 c5] at O;cases O
 .rw[A4 c5] at O;cases O
abbrev mw (rs:oj Rw)(own:Str)(r:Rn)(a:D):Rn:=if yZ a=v_ then(r.B,r.p,r.n+1,r.gs++ [-[xu r.th,a]],flt "lack") else mW rs own (r.gs++ [-[xu r.th,a]]) (300-(r.n+1)) (Bm r.B (b0 (Jo rs r.p).2) a) (r.p+1) (r.n+1)
structure CZ (rs:oj Rw)(r:Rn):Prop where
 tr:Tr r.B
 p1:1<=r.p
 p2:r.p<=↑rs+1
 n:r.n<=300
 gd:Gd r.th
 two:∃w e,r.th=-[!w,e]
 gs:nL r.gs=v_/\dpL r.gs<=30/\↑r.gs<=r.n
 ask:QH r.th=v_->r.p<=↑rs/\(Jo rs r.p).1>ASK/\r.n<300/\∃(u:Str) (d:D),r.th= .tup [-"asks",-[!u,d]]/\u>(["thing","has","names"]:oj Str)/\isT d=v_
mutual
theorem X9:∀{d:D},ky d=v_->nD d=v_
 | .str _,_=>rfl| .tup xs,h=>by
  simp![ky,uG] at h;simp![nD];exact goodL_n h.2
 | .non,h=>by simp[ky] at h| .bl _,h=>by simp[ky] at h| .int _,h=>by simp[ky] at h| .lst,h=>by simp[ky] at h| .dct,h=>by simp[ky] at h
theorem goodL_n:∀{ds:oj D},goodL ds=v_->nL ds=v_
 | [],_=>rfl|d::ds,h=>by
  simp![goodL,uG] at h;simp![nL];rw[X9 h.1,goodL_n h.2]
  rfl
end
def BK:∀{xs ys:oj D},nL xs=v_->nL ys=v_->nL (xs++ys)=v_
 | [],_,_,h=>h|x::xs,ys,h,h2=>by
  simp![nL,uG] at h;simp![vZ,nL];rw[h.1,BK h.2 h2]
  rfl
def AG (n:Nat){xs ys:oj D}(h:dpL xs<=n)(h2:dpL ys<=n):dpL (xs++ys)<=n:=by
 rw[wV] at h h2⊢;intro x O;rcases Ac.mp O with O|O
 .exact h x O
 .exact h2 x O
def LD {B:Str->D}{p:Int}(hr:Jn n 300 r)(h:Tr B)(O:mM own r B p= .stop e)(U:QH e=v_):r.1>ASK/\∃(u:Str) (d:D),e= .tup [-"asks",-[!u,d]]/\u>(["thing","has","names"]:oj Str)/\isT d=true:=by
 unfold mM at O;erw[id hr,ks,hk,hp];erw[r,Z,ps];by_cases c1:Z>MKR
 .rw[A6 c1] at O;simp only at O;generalize made Z B own ps=dm at O;let aa:(if isT dm=v_ then Out.go (Bm B (b0 ps) dm) (p+1) else .stop (flt "big"))= .stop e->False:=by
   intro hq;by_cases c:isT dm=v_
   .rw[A6 c] at hq;cases hq
   .rw[A4 c] at hq;cases hq;exact A8 U ()
  cases dm with
  |non=>cases O;exact A8 U ()|_=>exact(aa O).elim
 rw[A4 c1] at O;by_cases c2:Z>ASK
 .rw[A6 c2] at O;cases O;exists c2;erw[Wf _ hk c2,_,_,ek];simp only at ek;subst ek;erw[W0 hp,z0,z1,rfl,h0,h1];let hT:=h z1 h1;let U:QH (sP Z (B z1))=true:=U;show∃u d,sP Z (B z1)=_/\_;unfold sP at U⊢;by_cases d1:Z="names"
  .rw[A6 d1] at U⊢;by_cases d2:isStr (B z1)=v_
   .rw[A6 d2];exact(_,0,(),hT)
   .rw[A4 d2] at U;exact A8 U ()
  .rw[A4 d1] at U⊢;by_cases d2:mQ (B z1)=v_
   .rw[A6 d2];exact(_,0,by split<;>decide+kernel,hT)
   .rw[A4 d2] at U;exact A8 U ()
 rw[A4 c2] at O;by_cases c3:Z="say"
 .rw[A6 c3] at O;cases O;exact A8 U (by simp![QH];exact λh=>A8 (uC h) ())
 rw[A4 c3] at O;by_cases c4:Z="fault"
 .rw[A6 c4] at O;cases O;exact A8 U ()
 rw[A4 c4] at O;by_cases c5:NC Z B ps=v_
 .rw[A6 c5] at O;cases O
 .rw[A4 c5] at O;cases O
def wr {rs:oj Rw}{own:Str}(hR:Q2 rs):∀(f:Nat) (B:Str->D) (p:Int) (n:Nat) (gs:oj D),f+n=300->Tr B->1<=p->p<=↑rs+1->nL gs=v_/\dpL gs<=30/\↑gs<=n->CZ rs (mW rs own gs f B p n)
 |0,B,p,n,gs,hf,hT,h1,h2,hg=>by
  let U:QH (if GT.gt p ↑rs then flt "silent" else flt "long")=false:=by split<;>decide+kernel
  refine(hT,h1,h2,by show n<=300;omega,?_,?_,hg,λh=>A8 (U.symm.trans h) ())
  .show Gd (if GT.gt p ↑rs then flt "silent" else flt "long")
   split
   .exact NJ ()
   .exact NJ ()
  .show∃w e,(if GT.gt p ↑rs then flt "silent" else flt "long")=_
   split
   .exact[_:0]
   .exact[_:0]
 |f+1,B,p,n,gs,hf,hT,h1,h2,hg=>by
  unfold mW;by_cases c:GT.gt p ↑rs
  .rw[A6 c];exact(hT,h1,h2,by show n<=300;omega,NJ (),[_:0],hg,λh=>A8 h (show¬QH (flt "silent")=v_ by decide+kernel))
  .rw[A4 c];let O:=hR.ok _ (qak h1 ())
   let hok:=Ag (own:=own) O hT h1 ()
   cases Z:mM own (Jo rs p) B p with
   |go B' p'=>
    rw[Z] at hok;exact wr hR f B' p' (n+1) gs () hok.1 hok.2.1 hok.2.2 ⟨hg.1,hg.2.1,by have:=hg.2.2;omega⟩
   |stop e=>
    rw[Z] at hok;simp only;exists hT,h1,h2,?_,OY O hT Z,hok,[hg.1:hg.2.1:?_],λU=>?_
    .show(if QH e=v_ then n else n+1)<=300
     split<;>omega
    .show ↑gs<=(if QH e=v_ then n else n+1)
     have:=hg.2.2;split<;>omega
    .erw[LD O hT Z U,a1,u,d,a2,a3,a4];refine(by show p<=↑rs;omega,a1,?_,u,d,a2,a3,a4)
     show(if QH e=v_ then n else n+1)<300
     rw[A6 (show QH e=v_ from U)]
     omega
def AU (Z:Q2 rs){r:Rn}{a:D}(h:CZ rs r)(hw:QH r.th=v_)(ha:X4 a):CZ rs (mw rs own r a):=by
 erw[h.ask hw,k1,k2,k3,u,d,e,k4,k5];let O:nD a=v_/\dp a<=12:=by
  rcases ha with rfl|ha
  .exact⟨1,by simp[dp]⟩
  .exact[X9 (yl ha):Jh ha]
 let aa:=Jh k5;let U:nL (r.gs++ [D.tup [xu r.th,a]])=v_/\dpL (r.gs++ [D.tup [xu r.th,a]])<=30/\↑(r.gs++ [D.tup [xu r.th,a]])<=r.n+1:=by
  rw[e];show nL (r.gs++ [-[-[!u,d],a]])=v_/\_;exists BK h.gs.1 ?_,AG 30 h.gs.2.1 ?_,?_
  .simp![nL,nD,X9 (yl k5),O.1,U3]
  .show dpL [-[-[!u,d],a]]<=30;simp![dpL,dp];have:=O.2;omega
  .rw[uL];have:=h.gs.2.2;show ↑r.gs+1<=r.n+1;omega
 unfold mw;cases hn:yZ a with
 |true=>
  rw[A6 rfl];exact(h.tr,h.p1,h.p2,by show r.n+1<=300;omega,⟨(by decide+kernel:ky (flt "lack")=v_),by show dp (-[-"fault",-"lack"])<=20;simp[dp,dpL]⟩,[_:0],U,λh=>A8 h (show¬QH (flt "lack")=v_ by decide+kernel))
 |false=>
  rw[A4 ub];let hT:isT a=true:=by
   rcases ha with rfl|ha
   .cases hn
   .exact ha
  refine wr Z _ _ _ _ _ () (qab h.tr hT) (by have:=h.p1;omega) () U
def jQ {d:D}{u:V}(O:Is H d u)(U:d≠ .non):u≠ .non:=by
 rintro rfl;cases d with
 |non=>exact U rfl|bl b=>cases(show V.non= .bl b from O)|int i=>cases(show V.non= .int i from O)|str z=>erw[O,h,_];cases h|lst=>erw[O,_,_,h,_];cases h|dct=>erw[O,_,_,h,_];cases h|tup xs=>erw[O,_,_,h,_];cases h
def Ach (O:Jn n 300 r)(hs:r.1>ASK):∃U z1,r.2= [.s U,.s z1]/\U>BX:=by
 erw[id O,ks,hk,hp];erw[Wf _ hk hs,_,_,Z];simp only at Z;subst Z;erw[W0 hp,x,y,e,hx,hy];exact(x,y,e,hx)
abbrev Mr:D->Bool
 | .tup xs=>xs.all mQ|_=>Vi
abbrev AX (u:Str)(a:D):Bool:=if yZ a=v_ then decide (u="thing") else if isT a=v_ then(if u="has" then(["yes","no"]:oj Str).any (λz=>eqD a (!z)) else decide (u="thing")||Mr a) else Vi
def AW {u:Str}{a:D}(h:AX u a=v_):X4 a:=by
 unfold AX at h;cases hn:yZ a with
 |true=>
  cases a with
  |non=>exact .inl rfl|_=>cases hn
 |false=>
  rw[hn,A4 ub] at h;by_cases c:isT a=v_
  .exact .inr c
  .rw[A4 c] at h;cases h
inductive Ot:Sp
 |mk (v:V)(d:D)(_:vs= [v])(_:Is H d v)(_:isT d=v_)(_:∀H',ic H H'->Q (.bl (Mr d)) H')
inductive Lm:Sp
 |mk (v1 v2:V)(u:Str)(d a:D)(_:vs= [v1,v2])(_:Is H (-[!u,d]) v1)(_:Is H a v2)(_:∀H',ic H H'->Q (.bl (AX u a)) H')
inductive Na (C:Addr):Sp
 |mk (m:Mc)(r:Rn)(v:V)(u:Str)(d a:D)(_:vs= [-m.x,v])(_:yB C H m r)(_:CZ m.rs r)(_:r.th=-[-"asks",-[!u,d]])(_:Is H a v)(_:Q2 m.rs)(_:↑m.own<=100)(_:AX u a=v_)(_:∀H',Mv m H H'->yB C H' m (mw m.rs m.own r a)->Q .non H')
def Pw:#[T,2,a.jE,a.jA,["tree"],Ot]:=by
 let QQ:=#[Xt,T];refine T.iG.F.ok zf () (λ_ _ _ _ H vs Q E hr h=>?_)
 erw[h,v,d,rfl,iv,hT,k];exists 3,%[|#[qm,#[Zw,#[qy,#[qX,2,rfl],T.qT,vh,#v[pv 0,#[yf,.ty "tuple",T.QB,vx]]],#[XJ,#[qy,#[zy,1,rfl],T.z_all,HY,#v[#[XY,["part"],[],Nz,#[zH,pv 0],(λ_ _ _ _ _ _=>#[qM,(0),(show Vw (["part"]:oj Str) by decide+kernel)]),(λ_ _ _ _ _ _=>#[qq,QQ,T.iw,#v[pv 0]])]]]]]]]
 exists 0,v,"tuple",tyD d,Zf d,1,iv.ty,Xq _;cases d with
 |tup xs=>
  exists 0,lD ?_;erw[iv,a0,vs,rfl,O,U];let hl:↑xs<=1000:=by
   let hg:=yl hT;simp![ky,uG] at hg;have:=uC hg.1;omega
  exists 0,a0,vs,1,SqT.of O,λaa A0 Z=>?_;refine As (tl:= []) (λd=> .bl (mQ d)) O U (yC hl) Z (λd0 x0 H3 R ac s3 i3 r=>?_) λH1 ys s1 l1 i1=>?_
  .exact(0,x0,d0,1,i3,λH4 s4=>r _ H4 s4 rfl)
  let ey:ys=(xs.map mQ).map V.bl:=IsL.bls (by rwa[uP])
  exists A0,xs.map mQ,1,SqL.of (by rw[l1,ey])
  have:(xs.map mQ).all id=Mr (¬xs):=by rw[UD];rfl
  rw[this];exact k H1 s1
 |str z=>exact[0:iX (k H (ic.refl _))]|non=>exact[0:iX (k H (ic.refl _))]|int z=>exact[0:iX (k H (ic.refl _))]|bl z=>exact[0:iX (k H (ic.refl _))]|lst=>exact[0:iX (k H (ic.refl _))]|dct=>exact[0:iX (k H (ic.refl _))]
def LX:#[T,3,a.We,a.wU,["ask","answer"],Lm]:=by
 let yD:=#[jD,T];let zP:=#[Pw,T];exists 9,T.m9,nW,Z
 erw[h,v1,v2,u,d,an,rfl,i1,U,k];exists 3,%[#[qH,#[qp,yH,pv 1,qR,qw _],%[|#[qm,#[Qn,QL,#[qG,XR,pv 0],ql]]],qt],#[qH,#[Qp,#[Qc,#[qq,16,yD,Z.mono (),_,T.iE.m,T.iE.F.kp,T.iE.b,.nil,qz,#v[pv 1],_,_,_]]],%[|#[qm,Yr]],qt],#[qH,#[qp,QL,#[qG,XR,pv 0],ql,qw _],%[|#[qm,#[Qn,8,#[Nm,1,Z.units],pv 1,#[qI,#v[ql,ql]],#[w]]]],qt]|#[qm,#[Adh,7,#[Qn,QL,#[qG,XR,pv 0],ql],#[XJ,#[qq,16,zP,Z.mono (),_,T.iG.m,T.iG.F.kp,T.iG.b,.nil,qz,#v[pv 1],_,_,_]]]]]
 let two:(2:Nat)<=sizeLine:=by decide
 let es:∀y:Str,decide (V.str u=V.str y)=decide (u=y):=λy=>by
  rw[ve];exact⟨λh=>by injection h,λh=>by rw[h]⟩
 let iu:∀{H:Hp}{Q:VK},Is H (-[!u,d]) v1->Q (!u) H->O4 K v1 (.int 0) H Q:=λ{H Q} i q=>xT (i:=0) (d:= !u) i (qD (j:=0) rfl) λx hx=>by
  erw[hx,rfl,_];exact q
 exists 0,1,0;unfold AX at k;by_cases cn:an= .non
 .subst cn;cases(show v2= .non from U)
  refine QP () ?_
  exists 0,.inr (.inl (iu i1 [1:?_]));rw[es];exact k H (ic.refl _)
 .let aa:v2≠ .non:=jQ U cn;let ac:yZ an=false:=by
   cases an with
   |non=>exact A8 rfl cn|_=>rfl
  rw[ac,A4 ub] at k;refine Qt (uj aa) ?_
  exists 0,v2,an,1,U,λH1 s1=>[0:?_];by_cases O:isT an=v_
  .rw[A6 O] at k;rw[O];refine iX ?_
   exists 0,.inr (.inl (iu (i1.mono s1.tk) [1:0:?_]));rw[es];by_cases ch:u="has"
   .rw[A6 ch] at k;refine QP (ug ch) ?_
    exists 0,two,λt1 h1=>?_;let s2:=qf h1 (-[-"yes",-"no"])
    exists an,t1,["yes","no"],(U.mono s1.tk).mono s2.tk,1,.inr (SqT.of qg),?_,?_,?_,k _ (s1.trans s2)
    .intro z hz;simp![uF,uZ,uT] at hz;rcases hz with rfl|rfl<;>decide+kernel
    .let hg:=yl O;cases an with
     |non=>rfl|str z=>rfl|tup xs=>
      show puL xs=v_;simp![ky,uG] at hg;exact goodL_pu hg.2
     |_=>simp[ky] at hg
    .have:=Jh O;omega
   .rw[A4 ch] at k;refine Qt (uj ch) ?_
    exists 0,.inr (.inl (iu (i1.mono s1.tk) [1:?_]))
    exists 0;rw[es];by_cases ct:u="thing"
    .rw[ug ct] at k⊢;refine lD ?_;exact k _ s1
    .rw[uj ct] at k⊢;refine iX ?_;exact(0,v2,an,1,U.mono s1.tk,O,λH2 s2=>k H2 (s1.trans s2))
  .rw[A4 O] at k;have:isT an=false:=by
    cases h:isT an with
    |true=>exact A8 h O|false=>rfl
   rw[this];exact lD (k _ s1)
def Nq:#[C,6,a.Yu,a.Yx,["self","tree"],(Na a.qo)]:=by
 let qY:=#[qau,T];let O:=#[LX,T];let YX:=#[En,T,C];exists 9,T.iJ,jv
 erw[h,m,[B,p,n,gs,th],v,u,d,an,rfl,M,hO,al,iv,hR,aP,am,k];exists 3,%[#[qH,#[Qp,#[Qc,#[QK,pv 0,T.qv,T.il,qY]]],%[|jZ],qt],#[qF,(2),jv.nd,#[qG,XR,#[qP,5,pv 0,rfl]]],#[qH,#[Qp,#[Qc,#[qq,O,T.m9,#v[pv 2,pv 1]]]],%[|jZ],qt],#[qZ,#[jr,v9,vG,vH,Y5,#[qP,5,pv 0,rfl],#v[#[qI,#v[pv 2,pv 1]]]]],#[JE,10,pv 0,qi,sj],#[qH,#[qp,yH,pv 1,qR,qw _],%[#[Qh,#[qI,#v[ql,ql]]]|O7],qt],#[JT,#[qP,5,pv 0,rfl],#[qG,XR,#[qG,XR,#[qG,7,qA,#[qP,5,pv 0,rfl],#[Qd,DZ,#[qP,5,pv 0,rfl],qi],(λ_ _=>rfl)]]],pv 1],#[JE,10,pv 0,qi,sj],#[Qh,qR]|#[qZ,#[QK,pv 0,T.qv,T.jK,YX]]]
 simp only at al;subst al;let two:(2:Nat)<=sizeLine:=by decide
 let hw:QH (-[-"asks",-[!u,d]])=true:=by simp[QH]
 erw[hO.ask hw,af,ad,aQ,_];let ag:=hO.p1;let ao:=hO.gs.2.2;let ap:=hO.tr;simp only at af ad aQ ag ao ap;let hM:=M;erw[hM,dx,fs,rv,ru,tv,gv,e,f,ir,ij,ib,hg,gl,it];simp only at f ib gl it;let aR:↑fs<1000:=by have:=f.len;omega
 exists 8,N1,q1
 exists 0,m.x,dx,fs,1,e,f.meth _ (),m,0,M,.inr [_:0],0
 refine Qt (by show(!(QH) (-[-"asks",-[!u,d]]))=Vi;rw[hw];rfl) ?_
 refine q1 _ _ ?_;exists 8,N2,q2
 exists 0,m.x,_,dx,fs,0,e,T.qv,T.qN,f.there,.inr (.inl (xT (i:=1) it (qD (j:=1) rfl) λq hq=>?_));refine q2 _ _ ?_;exists 8,N3,q3
 exists 0,0,q,v,u,d,an,1,hq,iv,λH1 s1=>[0:?_];rw[am];refine iX ?_;refine q3 _ _ ?_;exists 8,N4,q4;let ha:=AW am
 exists 0,m.x,_,dx,fs,0,s1 _ _ e,T.qv,T.YT,f.given,.inl [1:_:SqL.of (s1 _ _ hg)],0,0,two,λt1 h1=>?_;let s2:=qf h1 (-[q,v]);let ip:Is (upd H1 t1 (-[q,v])) (-[-[!u,d],an]) (-t1):=Is.new (ds:= [-[!u,d],an]) (_,0,hq.mono s1.tk,_,0,iv.mono s1.tk,1) h1;let S2:=s1.trans s2;generalize upd H1 t1 (-[q,v])=H2 at s2 ip S2⊢;let bo:↑gv=↑gs:=↑gl;let aq:=S2 _ _ hg
 exists m.dg,gv,0,1,aq,zn ()
 let t3:Tk H2 (upd H2 m.dg (.lst (gv++ [-t1]))):=Tk.updL aq;let aS:m.x≠m.dg:=λz=>by rw[<-z,e] at hg;cases hg
 let au:m.db≠m.dg:=λz=>by
  erw[ib,ff,e2,_];rw[z,hg] at e2;cases e2
 let e3:(upd H2 m.dg (.lst (gv++ [-t1]))) m.x=u_ (.ins a.qo dx fs):=by rw[qj aS];exact S2 _ _ e
 let T3:Tk H (upd H2 m.dg (.lst (gv++ [-t1]))):=S2.tk.trans t3;let aw:=(ib.same S2).move t3 (qj au);let ax:L2.IsL (upd H2 m.dg (.lst (gv++ [-t1]))) (gs++ [-[-[!u,d],an]]) (gv++ [-t1]):=(gl.mono T3).append (IsL.one (ip.mono t3));let ay:(upd H2 m.dg (.lst (gv++ [-t1]))) m.dg=u_ (.lst (gv++ [-t1])):=qg;let aA:Mv m H (upd H2 m.dg (.lst (gv++ [-t1]))):=⟨λb o h _ _ n3=>by rw[qj n3];exact S2 b o h,T3⟩
 generalize upd H2 m.dg (.lst (gv++ [-t1]))=H3 at t3 e3 T3 aw ax ay aA⊢;refine q4 _ _ ?_;exists 8,N5,q5
 exists 0,m.x,_,dx,fs,0,e3,T.qv,T.yj,f.done,(n:Int),(1),1,1,dx,fs,e3,aR;erw[yo (r:=(B,p,n+1,gs++ [-[-[!u,d],an]],-[-"asks",-[!u,d]])) e3 (f.set_done (k:=n+1)) (ir.mono T3) (ij.mono T3) aw ay ax (it.mono T3),M4,aB];let aa:=aA.trans aB;let aC:=iv.mono aa.tk;refine q5 _ _ ?_;show nA _ _ _ _ (upd H3 m.x (.ins a.qo dx (iK "done" (.int ((n+1:Nat):Int)) fs)));generalize upd H3 m.x (.ins a.qo dx (iK "done" (.int ((n+1:Nat):Int)) fs))=H4 at M4 aB aa aC⊢;erw[M4,Z,U,bp,bq,bt,bu,e4,f4,ah,aD,ac,aE,ak,aF];simp only at f4 ac ak aF;let ae:↑U<1000:=by have:=f4.len;omega
 exists 8,N6,q6
 exists 0,1,0;by_cases cn:an= .non
 .subst cn;cases(show v= .non from iv)
  refine QP () ?_
  exists two,λl hl=>?_;let s5:=qf hl (-[-"fault",-"lack"])
  exists 0,m.x,_,Z,U,1,s5 _ _ e4,T.qv,T.qN,ae;erw[yo (r:=(B,p,n+1,gs++ [-[-[!u,d],.non]],flt "lack")) (s5 _ _ e4) (f4.set_there (u:=-l)) (ah.mono s5.tk) (aD.mono s5.tk) (ac.same s5) (s5 _ _ aE) (ak.mono s5.tk) (Is.new (ds:= [-"fault",-"lack"]) (_,0,[1:yC ()],_,0,[1:yC ()],1) hl),m1,m2]
  exact k _ (aa.trans ((Mv.of s5).trans m2)) m1
 .let hT:isT an=true:=ha.resolve_left cn;let aT:v≠ .non:=jQ iv cn;let aU:yZ an=false:=by
   cases an with
   |non=>exact A8 rfl cn|_=>rfl
  refine Qt (uj aT) ?_;refine q6 _ _ ?_;exists 8,N7,q7;erw[Ach (hR.ok _ (qak ag af)) ad,z0,z1,aG,aV];let aW:b0 (Jo m.rs p).2=z0:=by rw[aG];rfl
  erw[ac.put aV aC,kvs,aH,aX,t5];let aY:atI (m.rs.map rowD) (p-1)=u_ (rowD (Jo m.rs p)):=by
   rw[show p-1=((p.toNat-1:Nat):Int) by omega]
   exact qD (by rw[uJ,DJ ag af];rfl)
  let aZ:m.db≠m.x:=YH.ne e4 ac;let a1:m.dg≠m.db:=au.symm
  exists 0,0,m.x,_,Z,U,0,e4,T.qv,T.Qx,f4.boxes,0,m.x,_,Z,U,0,e4,T.qv,T.Yk,f4.rows,0,m.x,_,Z,U,0,e4,T.qv,T.Qm,f4.place,_,0,1;refine xT (d:=rowD (Jo m.rs p)) ah aY λq5 a3=>?_;refine .inr (.inl (xT (i:=1) a3 (qD (j:=1) rfl) λq6 aI=>?_));rw[aG] at aI;refine .inr (.inl (xT (i:=0) (d:= !z0) aI (qD (j:=0) rfl) λq7 a4=>?_));erw[a4,rfl,_]
  exists m.db,0,aH;let e5:(upd H4 m.db (.dK kvs)) m.x=u_ (.ins a.qo Z U):=by rwa[qj aZ.symm]
  refine q7 _ _ ?_;exists 8,N8,q8
  exists 0,m.x,_,Z,U,0,e5,T.qv,T.Qm,f4.place,p,(1),1,1,Z,U,e5,ae;obtain⟨M6,a5⟩:=yo (r:=(Bm B z0 an,p+1,n+1,gs++ [-[-[!u,d],an]],-[-"asks",-[!u,d]])) e5 (f4.set_place (q:=p+1)) (ah.mono t5) (aD.mono t5) aX (by rwa[qj a1]) (ak.mono t5) (aF.mono t5)
  let aJ:=aa.trans (Mv.trans ⟨λb o h _ a2 _=>by rwa[qj a2],t5⟩ a5)
  erw[M6,a6,aK,bv,bw,bx,bA,e6,f6,a7,a8,aL,a9,aM,bb];simp only at f6 aL aM bb;let aN:↑aK<1000:=by have:=f6.len;omega
  refine q8 _ _ ?_;exists 8,N9,q9
  exists 0,m.x,_,a6,aK,1,e6,T.qv,T.qN,aN;erw[yo (r:=(Bm B z0 an,p+1,n+1,gs++ [-[-[!u,d],an]],.non)) e6 (f6.set_there (u:= .non)) a7 a8 aL a9 aM rfl,M7,bc];let aO:=aJ.trans bc;erw[id M7,bd,bg,bB,bC,bD,bE,e7,f7,r7];refine q9 _ _ ?_
  exists 5
  refine(0,m.x,bd,bg,1,e7,f7.meth _ (),m,0,M7,1,qab ap hT,aP,hR,by show 1<=p+1;omega,by show p+1<=_;omega,by show n+1<=300;omega,λH8 bh M8=>k H8 (aO.trans bh) ?_)
  unfold mw;rw[aU,A4 ub];simp only;rw[aW];exact M8
abbrev md (H:Hp)(p:o3):Prop:=∃x:Int,H p=u_ (.lst [.int x])/\0<=x
def md.same (h:md H p)(s:ic H H'):md H' p:=by
 erw[h,x,e,r];exact[x:s _ _ e:r]
def md.free {l:o3}(h:md H p)(n:H l=U_):p≠l:=by
 erw[h,x,e,r];exact qk e n
def md.tk (h:md H p)(h':md H' p)(k:iW p H H'):Tk H H':=by
 erw[h,x,e,_];erw[h',U,O,_];exact k.tk e O
inductive Oo:Sp
 |mk (p:Addr)(many:Int)(_:vs= [-p,.int many])(_:md H p)(_:0<many)(_:many<1073741824)(_:∀(d:Int)(H':Hp),0<=d->d<many->md H' p->iW p H H'->Q (.int d) H')
inductive Ov:Sp
 |mk (c t:Int)(_:vs= [.int c,.int t])(_:0<=t)(_:t<1000)(_:∀(p:Addr)(H':Hp),H p=U_->ic H H'->md H' p->Q (-p) H')
def JJ:#[T,1,a.k9,a.kg,["pot","many"],Oo]:=by
 exists 9,T.ii,WJ
 erw[h,p,many,rfl,[x,O,Z],hm,U,k];exists 3,%[#[qF,(2),WJ.nd,#[Qd,kD,#[qG,Yb,pv 0],pv 1]],#[Ni,6,#[Qd,Pl,#[qG,Yb,pv 0],pv 1],#[Abl,7,pv 0,qi,Lz,_],_,_,_]|#[qm,pv 2]]
 exists 0,p,_,_,0,1,SqL.of O,1,0,_,0,1,hm
 exists 0,p,_,_,0,1,SqL.of O,1,0,_,0,1,[hm:U],0,p,_,_,0,1,O,1
 exists 0;refine k _ _ (tF _ ()) (V0 _ hm) [x/many:qg:Int.ediv_nonneg Z ()] (iW.upd _ _ _)
def Ei:#[T,1,a.f_law_pot,a.d_law_pot,["cell","salt"],Ov]:=by
 exists 9,T.mR,YJ
 erw[h,c,t,rfl,h0,h1,k];exists 3,%[#[qH,#[qp,Adi,#[qy,Ce,T.z_abs,boot_abs,#v[pv 0]],#[Qd,Abs,qi,qi],qw _],%[|#[qm,#[Q0,#v[#[qy,Ce,T.z_abs,boot_abs,#v[pv 0]]]]]],qt],#[qF,(2),YJ.nd,#[Qd,kD,#[Qd,oF,#[Qd,yV,#[Qd,yV,#[Qd,kD,pv 0,qi],#[Qd,oF,qi,pv 1]],qi],qi],qi]],#[qF,(3),YJ.nd,qi],#[yW,#[Ys,#v[qi]],#[qM,(4),YJ.nd],%[#[qF,(2),YJ.nd,#[Qd,kD,#[Qd,yV,#[Qd,yV,#[Qd,oF,pv 2,pv 2],#[Qd,oF,qi,pv 4]],qi],qi]]|#[qF,(3),YJ.nd,#[Qd,yV,#[Qd,oF,pv 3,qi],pv 2]]]]|#[qm,#[Q0,#v[pv 3]]]]
 exists 0,0,_,0,1,[():():()],_,0,1,0
 refine mi (λ_=>?_) (λ_=>?_)
 .exists 0,0,(sml rfl),λp O=>?_;refine k p _ O (qf O _) [_:qg:?_];split<;>omega
 .exists 0,_,0,1,(by show(0:Int)<2147483647;decide),0,_,0,1,(.inl [():()]),_,0,1,_,0,1,_,0,1,(.inr [():()]),_,0,1,(by show(0:Int)<2147483647;decide),(9),1,(),()
  refine_lift let J1_:Nat->L2.St->Hp->Prop:=λi σ H'=>E3 λ(x:Int) (b:Int) (kv:om V)=>A5 (σ= [u_ (.int c),u_ (.int t),u_ (.int x),u_ (.int b),kv]) (0<=x) (x<2147483647) (0<=b) (H'=H);?_
  refine JS (n:=9) J1_ (_,_,U_,1,tF _ (),V0 _ (),(),1) ?_ ?_
  .rintro i σ H' hi ⟨x,b,kv,rfl,Z,aa,hb,rfl⟩;let U:AcM x x:= .inl [():()]
   exists 0,0,_,0,1,U,0,_,0,1,(.inl [():()]),_,0,1,_,0,1,_,0,1,(by show(0:Int)<2147483629;decide),0,_,0,1,(.inr [():()]),0,_,0,1
   let q0:0<=(x*x+40692*(0+(i:Int))+3)%2147483629:=tF _ ()
   let q1:(x*x+40692*(0+(i:Int))+3)%2147483629<2147483629:=V0 _ ()
   exact(_,_,0,q0,Int.lt_trans q1 (),Int.add_nonneg (Int.mul_nonneg hb ()) q0,1)
  .rintro σ H' ⟨x,b,kv,rfl,Z,aa,hb,rfl⟩;exact[0:(sml rfl):λp O=>k p _ O (qf O _) [_:qg:hb]]
abbrev Nm4 (zs:oj Str):Prop:=1<=↑zs/\↑zs<=20/\∀z>zs,nm z=v_/\↑z<=4
abbrev Wd (n:Nat)(z:Str):Prop:=Jm z=v_/\↑z<=n
def iW.of (s:ic H H'):iW p H H':=λb o e _=>s b o e
def md.ne_strs {l:o3}(h:md H p)(e:H l=u_ (.lst (zs.map V.str))):l≠p:=λz=>by
 erw[h,x,e2,_];rw[<-z,e] at e2;cases zs with
 |nil=>cases e2|cons a r=>simp at e2
inductive Ol:Sp
 |mk (p L:Addr)(zs:List Str)(_:vs= [-p,-L])(_:md H p)(_:H L=u_ (.lst (zs.map V.str)))(_:Nm4 zs)(_:∀(z:Str)(H':Hp),Wd 4 z->md H' p->iW p H H'->Q (!z) H')
inductive OD:Sp
 |mk (p L:Addr)(zs:List Str)(many k:Nat)(_:vs= [-p,-L,.int (many:Int),.int (k:Int)])(_:md H p)(_:H L=u_ (.lst (zs.map V.str)))(_:Nm4 zs)(_:1<=many)(_:many<=12)(_:k<=12)(_:∀(z:Str)(H':Hp),Wd 20 z->md H' p->iW p H H'->Q (!z) H')
abbrev FIV:oj Str:= ["","x","b1 g","yes","c/d"]
def Ab5:∀z>FIV,Wd 4 z:=by
 have:∀z>FIV,Jm z=v_/\↑z<=4:=by decide+kernel
 exact this
def Nv (h:nm z=v_):Jm z=true:=Eo (Nu h)
def AcR (h:Nm4 zs):∀z>zs++FIV,Wd 4 z:=λz hz=>by
 rcases Ac.mp hz with h1|h1
 .exact[Nv (h.2.2 z h1).1:(h.2.2 z h1).2]
 .exact Ab5 z h1
def Wd.cat {m k:Nat}{y:Str}(h:Wd n x)(h':Wd m y)(e:n+m<=k):Wd k (x++y):=⟨Ep h.1 h'.1,by rw[IK];have:=h.2;have:=h'.2;omega⟩
def EL:∀{l:oj Str},(∀z>l,Jm z=v_)->Wd ((l.map (·.length)).sum+↑l) (Vq " " l)
 | [],_=>[1:vc _]| [z],h=>⟨h z (by simp),by show ↑z<=_;simp⟩|z::y::r,h=>by
  let O:=EL (l:=y::r) λx U=>h x (uh _ U);let hz:=h z (by simp)
  let e:=L2.Jx z y r;exists ?_,?_
  .show(Vq " " (z::y::r)).cps.toList.all QD=v_;rw[e,UU,vE,show z.cps.toList.all QD=v_ from hz,show(Vq " " (y::r)).cps.toList.all QD=v_ from O.1]
   decide
  .rw[Ar,e,uL,uB,<-Ar,<-Ar];let h1:=O.2;simp![uw,UF,uB] at h1⊢;omega
abbrev WL:oj Str:= ["ask","ask","ask","has","names","text","text","copy","put","put","join","first","first","rest","size","cut","glue","like","none","rowed","go","say","fault","self"]
nonrec abbrev WTX:Str:="ask ask ask has names text text copy put put join first first rest size cut glue like none rowed"
def Aau:spl ((WTX++(" go say fault self":Str)).length+1) (WTX++(" go say fault self":Str))=WL:=by decide+kernel
def AcQ:∀z>WL,Wd 5 z:=by
 have:∀z>WL,Jm z=v_/\↑z<=5:=by decide+kernel
 exact this
def Acq:∀c>("abcdh":Str).cps.toList,QD c=true:=by decide+kernel
def NU {d:Int}(h0:0<=d)(h1:d<5):∃c,atI ("abcdh":Str).cps.toList d=u_ c/\Wd 1 ⟨#[c]⟩:=by
 obtain⟨c,O⟩:=xk (xs:=("abcdh":Str).cps.toList) h0 (by show d<5;exact h1)
 exists c,O,?_,uq _;show [c].all QD=v_;rw[vE,Acq c (zE O)]
 rfl
def AbF:∀k:Nat,k<13->Jm (Vt (k:Int):Str)=v_/\↑(Vt (k:Int):Str)<=2:=by decide+kernel
def Ak:#[T,2,a.Kk,a.Kh,["pot","names"],Ol]:=by
 let qS:=#[JJ,T];exists 9,T.iB,W1
 erw[h,p,L,zs,rfl,hP,hL,U,k];let hs:=uE;let aa:=U.1;let ac:=U.2.1;exists 3,%[#[qF,(2),W1.nd,#[Qd,WI,pv 1,#[Q0,#v[ql,ql,ql,ql,ql]]]]|#[qm,#[qG,7,Yb,pv 2,#[qq,qS,T.ii,#v[pv 0,#[qy,qJ,T.yi,uM,#v[pv 2]]]],(λ_ _=>rfl)]]]
 exists 0,(sml rfl),λq hq=>?_;let s1:ic H (upd H q (.lst [-"",-"x",-"b1 g",-"yes",-"c/d"])):=qf hq _
 exists L,q,_,0,1,s1 _ _ hL,qg,(by rw[uc];show _+5<=Vm;omega),λl hl=>?_
 let s2:=s1.trans (qf hl (.lst (zs.map V.str++ [-"",-"x",-"b1 g",-"yes",-"c/d"])));let O:(upd (upd H q (.lst [-"",-"x",-"b1 g",-"yes",-"c/d"])) l (.lst (zs.map V.str++ [-"",-"x",-"b1 g",-"yes",-"c/d"]))) l=u_ (.lst ((zs++FIV).map V.str)):=by rw[qg,ur];rfl
 generalize upd (upd H q (.lst [-"",-"x",-"b1 g",-"yes",-"c/d"])) l (.lst (zs.map V.str++ [-"",-"x",-"b1 g",-"yes",-"c/d"]))=H2 at s2 O⊢;let P2:=hP.same s2;let l5:↑((zs++FIV).map V.str)=↑zs+5:=by rw[uc,uL];rfl
 exists 5
 refine(0,0,0,l,0,.inl (SqL.of O),p,0,P2,by rw[l5];omega,by rw[l5];omega,λd H' d0 d1 P3 K3=>?_)
 let Z:=K3 _ _ O (P2.ne_strs O);erw[xk (xs:=(zs++FIV).map V.str) d0 d1,v,hv];erw[Ae.mp (zE hv),z,hz,rfl];exact(l,_,d,0,1,SqL.of Z,hv,k z H' (AcR U z hz) P3 ((iW.of s2).trans K3))
def Ad2 {c:Nat}:∀{l:oj Str},(∀z>l,↑z<=c)->(l.map (·.length)).sum<=↑l*c
 | [],_=>by simp|z::r,h=>by
  have:=Ad2 λy O=>h y (uh _ O);have:=h z ui;simp![uw,UF,uB,p8,rq];omega
def Mp {K:o0}(Z:↑l<=3)(hz:Wd 5 z)(h:∀z>l,Wd 2 z)(k:∀y H',Wd 20 y->ic H H'->Q (!y) H'):↑((z::l).map V.str)<=Vm/\∀p,H p=U_->Abf K (-" ") [-p] (upd H p (.lst ((z::l).map V.str))) Q:=by
 let hs:=uE;let h1:=Ad2 (c:=2) λz hz=>(h z hz).2;let h2:=hz.2;refine⟨by rw[uc,uB];omega,λp U=>(" ",p,z::l,1,1,SqL.of qg,?_,?_)⟩
 .let e:(" ":Str).length=1:=rfl;rw[e];simp![uw,UF,uB];omega
 .have:=EL (l:=z::l) λy O=>by
   rcases Aa.mp O with rfl|O
   .exact hz.1
   .exact(h y O).1
  refine k _ _ [this.1:?_] (qf U _);let h3:=this.2;simp![uw,UF,uB] at h3;omega
def PF:#[T,3,a.kz,a.Ka,["pot","names","many","k"],OD]:=by
 let qS:=#[JJ,T];let Q5:=#[Ak,T];exists 9,T.nu,yt
 erw[h,p,L,zs,many,i,rfl,hP,hL,hN,ay,aA,hi,k];exists 3,%[#[qF,(4),yt.nd,ql],#[qF,(5),yt.nd,#[qG,7,Yb,#[jr,vd,Up,Uq,BL,#[Qd,Qv,pv 4,ql],#v[ql]],#[qq,qS,T.ii,#v[pv 0,qi]],(λ_ _=>rfl)]],#[Ni,6,#[XY,["j","pot"],[0],IQ (qh xj) ["pot","names","many","k","words","word","one","two","three","at"],#[Ys,#v[qi]],(λ_ _ _ _ _ _=>#[qM,(0),(show Vw (["j","pot"]:oj Str) by decide+kernel)]),(λ_ _ _ _ _ _=>#[qG,7,BT,ql,#[qq,qS,T.ii,#v[pv 1,qi]],(λ_ _=>rfl)])],#[Ph,6,rfl,Qz #[qM,(6),yt.nd] (Qz #[qM,(7),yt.nd] (Qz #[qM,(8),yt.nd] Jz)),_,_],_,_,_],#[qF,(9),yt.nd,#[qV,J9,T.Z3,UY,#v[#[qy,#[sI,1,rfl],T.z_min,boot_min,#v[pv 2,#[Qd,yV,#[Qd,yV,pv 3,qi],#[qq,qS,T.ii,#v[pv 0,pv 2]]]]]]]],#[qH,#[qp,QL,pv 5,ql,qw _],%[|#[qm,#[Qd,Qv,#[Qd,Qv,#[Qd,Qv,ql,pv 6],ql],#[qq,Q5,T.iB,#v[pv 0,pv 1]]]]],qt],#[qH,#[qp,QN,pv 5,#[Q0,#v[ql,ql]],#[w]],%[|#[qm,#[Qd,Qv,#[Qd,Qv,pv 5,ql],pv 6]]],qt],#[qH,#[qp,QL,pv 5,ql,qw _],%[|#[qm,pv 5]],qt],#[qH,#[qp,QL,pv 5,ql,qw _],%[|#[qm,#[Qd,Qv,ql,pv 9]]],qt],#[qH,#[qp,QN,pv 5,#[Q0,#v[ql,ql]],#[w]],%[|#[qm,#[jr,vd,Uf,Ug,qas,ql,#v[#[Q0,#v[pv 5,pv 6,pv 9]]]]]],qt],#[qH,#[qp,QL,pv 5,ql,qw _],%[|#[qm,#[jr,vd,Uf,Ug,qas,ql,#v[#[Q0,#v[pv 5,pv 6,pv 7,pv 9]]]]]],qt],#[qH,#[qp,QN,pv 5,#[Q0,#v[ql,ql]],#[w]],%[|#[qm,#[jr,vd,Uf,Ug,qas,ql,#v[#[Q0,#v[pv 5,pv 6,pv 7,pv 8]]]]]],qt]|#[qm,#[jr,vd,Uf,Ug,qas,ql,#v[#[Q0,#v[pv 5,pv 6,pv 7]]]]]]
 exists 0,_,0,1,(),1,0,1,(),λq hq=>?_
 rw[show spl _ _=WL from Aau]
 let s1:ic H (upd H q (.lst (WL.map V.str))):=qf hq _;let eq:(upd H q (.lst (WL.map V.str))) q=u_ (.lst (WL.map V.str)):=qg;generalize upd H q (.lst (WL.map V.str))=H1 at s1 eq⊢;let P1:=hP.same s1
 exists 0,p,(24),1,P1,(),(),λd H2 d0 d1 P2 K2=>?_
 obtain⟨v,hv⟩:=xk (xs:=WL.map V.str) d0 (by show d<24;exact d1)
 erw[Ae.mp (zE hv),z,hz,rfl]
 exists q,_,d,0,1,SqL.of (K2 _ _ eq (P1.ne_strs eq)),hv;let Z:=AcQ z hz;let ah:iW p H H2:=(iW.of s1).trans K2;clear K2 hv hz eq P1 s1 hq
 exists (3),1,(),(),λD hD=>?_
 refine Z8 (lo:=0) (tl:= [u_ (-p)]) (λi ys H'=>∃bs:oj Str,ys=bs.map V.str/\↑bs=i/\(∀b>bs,Wd 1 b)/\md H' p/\(∀b o,H2 b=u_ o->b≠p->H' b=u_ o)) (yC ()) ([],1,1,λb hb=>by simp at hb,P2.same (qf hD _),λb o e _=>qf hD _ _ _ e) ?_ ?_
 .rintro j ys H' hj ⟨bs,rfl,aa,U,P',K'⟩ ac O R hR
  exists 0,p,(5),1,P',(),(),λd3 H4 e0 e1 P4 K4=>?_
  erw[NU e0 e1,c,hc,am]
  exists "abcdh",d3,c,1,1,(),hc
  let nD:D≠p:=(P2.free hD).symm;refine hR _ H4 (K4 _ _ ac nD) (bs++ [⟨#[c]⟩],by rw[ur];rfl,by rw[uL,aa];rfl,λb hb=>?_,?_,λb o e np=>?_)
  .rcases Ac.mp hb with h|h
   .exact U b h
   .rw[Uv] at h;subst h;exact am
  .erw[P4,x,e2,h2];exact⟨x,by rwa[qj nD.symm],h2⟩
  .rw[qj (qk e hD)];exact K4 _ _ (K' b o e np) np
 .rintro ys H' ⟨bs,rfl,aa,U,P',K'⟩ ac;obtain⟨x1,x2,x3,rfl⟩:∃x1 x2 x3,bs= [x1,x2,x3]:=by
   match bs,aa with
   | [x1,x2,x3],_=>exact(x1,x2,x3,1)
  let h1:Wd 2 x1:=⟨(U x1 (by simp)).1,by have:=(U x1 (by simp)).2;omega⟩
  let h2:Wd 2 x2:=⟨(U x2 (by simp)).1,by have:=(U x2 (by simp)).2;omega⟩
  let h3:Wd 2 x3:=⟨(U x3 (by simp)).1,by have:=(U x3 (by simp)).2;omega⟩
  let KD:iW p H H':=λb o e np=>K' b o (ah b o e np) np
  exists D,0,SqL.of ac,1,_,0,_,0,_,0,1;clear K' ah P2 U aa ac
  exists 0,0,_,0,1,0,0,p,many,1,P',(),(),λd5 H5 f0 f1 P5 K5=>(_,0,1,_,0,?_)
  obtain⟨j,ej,ao,ap⟩:∃j:Int,j=(if(i:Int)+5+d5<(many:Int) then(i:Int)+5+d5 else(many:Int))/\1<=j/\j<=12:=⟨0,by split<;>omega,by split<;>omega⟩
  rw[<-ej];obtain⟨jn,rfl⟩:∃n:Nat,j=(n:Int):=[j.toNat:()]
  let ak:=AbF jn ()
  let h4:Wd 2 (Vt ((jn:Nat):Int):Str):=ak;let ae:((jn:Nat):Int).natAbs.log2<1920:=by have:=TU ((jn:Nat):Int).natAbs;omega
  exists 0,ae;let af:iW p H H5:=KD.trans K5;let aq:=af _ _ hL (hP.ne_strs hL);let fin:∀(y:Str) (H':Hp),Wd 20 y->ic H5 H'->Q (!y) H':=λy H' O s'=>k y H' O (P5.same s') (af.trans (iW.of s'));let two:(2:Nat)<=sizeLine:=by decide
  let bl:Wd 1 " ":=[():uq _]
  let fz:∀{n m:Nat}{x y:Str},Wd n x->Wd m y->n+m<=100->↑x+↑y<=sizeLine:=λhx O h=>nB (by have:=hx.2;have:=O.2;omega)
  let tx:Wd 5 "text ":=[():uq _]
  let go:Wd 3 "go ":=[():uq _]
  clear ak ao ap ae ej
  exists 0,1,0,mi (λ_=>?_) (λ_=>?_)
  .let w1:=tx.cat h1 (k:=7) ()
   let w2:=w1.cat bl (k:=8) ()
   exists 0,_,0,1,fz tx h1 (),_,0,1,fz w1 bl (),0,0,p,L,zs,1,P5,aq,hN,λy H6 O P6 K6=>?_
   exact(_,0,1,fz w2 O (),k _ H6 (w2.cat O ()) P6 (af.trans K6))
  exists 0,two,λl1 au=>(l1,0,.inl (SqL.of qg),1,1,0,?_);let ad:=qf au (.lst ([-"self",-"say"]:oj V));refine mi (λ_=>?_) (λ_=>?_)
  .let w1:=Z.cat bl (k:=6) ()
   exact(0,_,0,1,fz Z bl (),0,_,0,1,fz w1 h1 (),fin _ _ (w1.cat h1 ()) ad)
  exists 0,1,0,mi (λ_=>?_) (λ_=>?_)
  .exact⟨0,fin _ _ ⟨Z.1,by have:=Z.2;omega⟩ ad⟩
  exists 0,1,0,mi (λ_=>?_) (λ_=>?_)
  .exact(0,_,0,1,fz go h4 (),fin _ _ (go.cat h4 ()) ad)
  exists 0,two,λl2 aw=>(l2,0,.inl (SqL.of qg),1,1,0,?_);let ag:=ad.trans (qf aw (.lst ([-"none",-"rowed"]:oj V)));refine mi (λ_=>?_) (λ_=>?_)
  .exists 1,0,0,0;exact Mp (l:= [x1,Vt ((jn:Nat):Int)]) (by simp) Z (λy O=>by simp at O;rcases O with rfl|rfl<;>assumption) λy H' O s'=>fin y H' O (ag.trans s')
  exists 0,1,0,mi (λ_=>?_) (λ_=>?_)
  .exists 1,0,0,0,0;exact Mp (l:= [x1,x2,Vt ((jn:Nat):Int)]) (by simp) Z (λy O=>by simp at O;rcases O with rfl|rfl|rfl<;>assumption) λy H' O s'=>fin y H' O (ag.trans s')
  exists 0,two,λl3 ax=>(l3,0,.inl (SqL.of qg),1,1,0,?_);let al:=ag.trans (qf ax (.lst ([-"cut",-"glue"]:oj V)));refine mi (λ_=>?_) (λ_=>?_)
  .exists 1,0,0,0,0;exact Mp (l:= [x1,x2,x3]) (by simp) Z (λy O=>by simp at O;rcases O with rfl|rfl|rfl<;>assumption) λy H' O s'=>fin y H' O (al.trans s')
  .exists 1,0,0,0;exact Mp (l:= [x1,x2]) (by simp) Z (λy O=>by simp at O;rcases O with rfl|rfl<;>assumption) λy H' O s'=>fin y H' O (al.trans s')
abbrev S7 (d:D):Prop:=isT d=v_/\lw d=v_/\sz d<=300
inductive Dl:Sp
 |mk (p L:Addr)(zs:List Str)(_:vs= [-p,-L])(_:md H p)(_:H L=u_ (.lst (zs.map V.str)))(_:Nm4 zs)(_:∀(v:V)(d:D)(H':Hp),S7 d->Is H' d v->md H' p->iW p H H'->Q v H')
def IsL.ofStrz {H:Hp}:∀{l:oj Str},(∀z>l,↑z<=1000)->L2.IsL H (l.map D.str) (l.map V.str)
 | [],_=>rfl|z::r,h=>(_,0,[1:yC (h z ui)],IsL.ofStrz λy O=>h y (uh _ O))
def Bi {n:Nat}:∀{l:oj Str},(∀z>l,↑z<=n)->szL (l.map D.str)<=↑l*(n+1)
 | [],_=>by simp[szL]|z::r,h=>by
  have:=Bi (n:=n) λy O=>h y (uh (a:=y) z O);have:=h z ui;simp![uw,szL,sz,uB,p8,rq];omega
def EC:∀{l:oj Str},(∀z>l,Jm z=v_)->lwL (l.map D.str)=v_
 | [],_=>rfl|z::r,h=>by
  rw[uw,lwL,EC λy O=>h y (uh _ O),U3];exact h z ui
def Io:∀l:oj Str,dpL (l.map D.str)<=1
 | []=>by simp[dpL]|z::r=>by have:=Io r;simp![uw,dpL,dp];omega
def sr:∀{l:oj Str},(∀z>l,Wd 300 z)->goodL (l.map D.str)=v_
 | [],_=>rfl|z::r,h=>by
  rw[uw,goodL,sr λy O=>h y (uh _ O),U3];show QA z=v_;unfold QA;have:=h z ui;rw[ug this.2];exact this.1
def Aay (h:Wd 20 z):S7 (!z):=⟨ES h.1 (by have:=h.2;omega),h.1,by simp![sz];have:=h.2;omega⟩
def Be (O:↑l<=14)(h:∀z>l,Wd 20 z):S7 (.tup (l.map D.str)):=by
 let h1:=Bi λz hz=>(h z hz).2;let h2:=Io l;let h3:=sr λz hz=>(⟨(h z hz).1,by have:=(h z hz).2;omega⟩:Wd 300 z)
 let e:sz (.tup (l.map D.str))<=300:=by simp![sz];omega
 exists ?_,by simpa only [lw] using EC λz hz=>(h z hz).1,e
 let e2:dp (.tup (l.map D.str))<=12:=by simp![dp];omega
 unfold isT;rw[ug (show sz (.tup (l.map D.str))<=600 by omega),ug e2]
 simp![ky];rw[h3,uc,ug (show ↑l<=40 by omega)]
 rfl
def qaj {t:o3}(h:∀z>l,Wd 20 z)(O:H t=U_):Is (upd H t (.tup (l.map V.str))) (.tup (l.map D.str)) (-t):=
 Is.new (IsL.ofStrz λz hz=>by have:=(h z hz).2;omega) O
abbrev MKL (z:Str):oj Str:= ["row h","text b "++z,"ask c b","text a text d ","join a c","put h a","text a ask e d","put h a","text a say e","put h a","say h"]
def Nx (h:Wd 4 z):∀y>MKL z,Wd 20 y:=by
 let O:∀y>(["row h","ask c b","text a text d ","join a c","put h a","text a ask e d","put h a","text a say e","put h a","say h"]:oj Str),Jm y=v_/\↑y<=20:=by decide+kernel
 intro y U;rcases Aa.mp U with rfl|U
 .exact O _ (by simp)
 .rcases Aa.mp U with rfl|U
  .exact Wd.cat (n:=7) (m:=4) [():uq _] h ()
  .exact O y (uh _ U)
def LU:#[T,2,a.Wq,a.Wb,["pot","names"],Dl]:=by
 let qS:=#[JJ,T];exists 9,T.mZ,jh
 erw[h,p,L,zs,rfl,hP,Z,U,k];let ac:=U.1;let ad:=U.2.1;exists 3,%[#[qF,(2),jh.nd,#[qG,7,Yb,pv 1,#[qq,qS,T.ii,#v[pv 0,#[qy,qJ,T.yi,uM,#v[pv 1]]]],(λ_ _=>rfl)]],#[qF,(3),jh.nd,#[Q0,#v[ql,#[Qd,Qv,ql,pv 2],ql,ql,ql,ql]]],#[qF,(3),jh.nd,#[Qd,WI,pv 3,#[Q0,#v[ql,ql,ql,ql,ql]]]]|#[qm,#[qV,qU,T.QB,vx,#v[pv 3]]]]
 let aa:=hP.ne_strs Z
 exists 5
 refine(0,0,0,L,0,.inl (SqL.of Z),p,0,hP,by rw[uc];omega,by rw[uc];omega,λd1 H1 a0 a1 P1 K1=>?_)
 erw[xk (xs:=zs.map V.str) a0 a1,v,hv];erw[Ae.mp (zE hv),z,hz,rfl];let O:Wd 4 z:=[Nv (U.2.2 z hz).1:(U.2.2 z hz).2]
 exists L,_,_,0,1,SqL.of (K1 _ _ Z aa),hv;let e7:("text b ":Str).length=7:=by decide+kernel
 exists 0,_,0,1,nB (by have:=O.2;omega),(sml rfl),λl1 h1=>?_
 let q1:=qf h1 (.lst (((MKL z).take 6).map V.str));let e1:(upd H1 l1 (.lst (((MKL z).take 6).map V.str))) l1=u_ (.lst (((MKL z).take 6).map V.str)):=qg;show nA _ _ _ _ (upd H1 l1 (.lst (((MKL z).take 6).map V.str)));generalize upd H1 l1 (.lst (((MKL z).take 6).map V.str))=H2 at q1 e1⊢
 exists 0,(sml rfl),λl2 h2=>?_;let q2:=qf h2 (.lst (((MKL z).drop 6).map V.str))
 exists l1,l2,_,0,1,q2 _ _ e1,qg,nB (by show 6+5<=16000000;decide),λl3 h3=>?_
 let q3:=q2.trans (qf h3 (.lst ((MKL z).map V.str)))
 exists 0,l3,(MKL z).map V.str,1,.inl [SqL.of qg:λt ht=>?_];let q4:=qf ht (.tup ((MKL z).map V.str));exact k _ _ _ (Be (by show 11<=14;decide) (Nx O)) (qaj (Nx O) ht) ((P1.same q1).same (q3.trans q4)) (K1.trans (iW.of (q1.trans (q3.trans q4))))
def Ef:#[T,4,a.kh,a.ko,["pot","names"],Dl]:=by
 let qS:=#[JJ,T];let Q5:=#[Ak,T];let O:=#[PF,T];exists 9,T.mE,j0
 erw[h,p,L,zs,rfl,hP,hL,hN,k];exists 3,%[#[qF,(2),j0.nd,#[Qd,yV,qi,#[qq,qS,T.ii,#v[pv 0,qi]]]],#[qF,2,(3),4,j0.nd,rfl,GN rfl,#[Qd,yV,pv 2,qi],_,_],#[qF,(4),j0.nd,#[Q0,#v[#[Qd,Qv,ql,#[qq,Q5,T.iB,#v[pv 0,pv 1]]],#[Qd,Qv,ql,#[qq,Q5,T.iB,#v[pv 0,pv 1]]],ql]]],#[qZ,#[jr,v9,PySem.F.slot_list_extend,PySem.F.type_list_extend,oS,pv 4,#v[#[XY,["k","pot","names","many"],[0,1,3],IQ (qh xm) ["pot","names","body","many","lines"],#[Ys,#v[pv 2]],(λ_ _ _ _ _ _=>#[qM,(0),(show Vw (["k","pot","names","many"]:oj Str) by decide+kernel)]),(λ_ _ _ _ _ _=>#[qq,O,T.nu,#v[pv 1,pv 2,pv 3,pv 0]])]]]]|#[qm,#[qV,qU,T.QB,vx,#v[#[Qd,WI,pv 4,#[Q0,#v[#[Qd,Qv,ql,#[qG,7,BT,ql,#[qq,qS,T.ii,#v[pv 0,qi]],(λ_ _=>rfl)]]]]]]]]]
 exists 0,p,(8),1,hP,(),(),λd1 H1 a0 a1 P1 K1=>(_,0,1,?_)
 obtain⟨nb,ah,aG,aH⟩:∃nb:Nat,1+d1=(nb:Int)/\1<=nb/\nb<=8:=((1+d1).toNat,(),(),())
 let aa:=K1 _ _ hL (hP.ne_strs hL)
 try dsimp only
 rw[ah];clear ah a0 a1
 exists 0,_,0,1;let ta:Wd 7 "text a ":=[():uq _]
 let tb:Wd 7 "text b ":=[():uq _]
 let fz:∀{n m:Nat}{x y:Str},Wd n x->Wd m y->n+m<=100->↑x+↑y<=sizeLine:=λhx U h=>nB (by have:=hx.2;have:=U.2;omega)
 exists 0,0,p,L,zs,1,P1,aa,hN,λz1 H5 ak P5 K5=>(_,0,1,fz ta ak (),?_)
 let ac:=K5 _ _ aa (P1.ne_strs aa)
 exists 0,0,p,L,zs,1,P5,ac,hN,λz2 H6 al P6 K6=>(_,0,1,fz tb al (),(sml rfl),λl hl=>?_)
 let au:=K6 _ _ ac (P5.ne_strs ac);let am:iW p H H6:=(K1.trans K5).trans K6;let s7:=qf hl (.lst (["text a "++z1,"text b "++z2,"row h"].map V.str));let e7:(upd H6 l (.lst (["text a "++z1,"text b "++z2,"row h"].map V.str))) l=u_ (.lst (["text a "++z1,"text b "++z2,"row h"].map V.str)):=qg;let P7:=P6.same s7;let ad:=s7 _ _ au;let K7:iW p H (upd H6 l (.lst (["text a "++z1,"text b "++z2,"row h"].map V.str))):=am.trans (iW.of s7);let Z:∀y>(["text a "++z1,"text b "++z2,"row h"]:oj Str),Wd 20 y:=λy U=>by
  simp![uF,uI,uT] at U;rcases U with rfl|rfl|rfl
  .exact ta.cat ak ()
  .exact tb.cat al ()
  .exact[():()]
 show nA _ _ _ _ (upd H6 l (.lst (["text a "++z1,"text b "++z2,"row h"].map V.str)));generalize upd H6 l (.lst (["text a "++z1,"text b "++z2,"row h"].map V.str))=H7 at e7 P7 ad K7⊢;let aw:(["text a "++z1,"text b "++z2,"row h"]:oj Str).length=3:=rfl;generalize (["text a "++z1,"text b "++z2,"row h"]:oj Str)=th at e7 Z aw⊢
 exists 0,.inl [1:_:SqL.of e7]
 exists 0,nb,1,(),(),λD hD=>?_
 let nD:D≠p:=(P7.free hD).symm;let nl:l≠p:=P7.ne_strs e7;refine Z8 (lo:=0) (n:=nb) (tl:= [u_ (-p),u_ (-L),u_ (.int ((nb:Int)+4))]) (λi ys H'=>∃rs:oj Str,ys=rs.map V.str/\↑rs=i/\(∀r>rs,Wd 20 r)/\md H' p/\(∀b o,H7 b=u_ o->b≠p->H' b=u_ o)) (yC ()) ([],1,1,λb hb=>by simp at hb,P7.same (qf hD _),λb o e _=>qf hD _ _ _ e) ?_ ?_
 .rintro j ys H' hj ⟨rs,rfl,ao,ae,P',K'⟩ af U R hR;let ax:=K' _ _ ad (P7.ne_strs ad)
  exists 0,0,0,0,p,L,zs,nb+4,j,?_,P',ax,hN,(),(),(),λr H8 ay P8 K8=>?_
  .rw[show(0:Int)+(j:Int)=(j:Int) by omega,show((nb+4:Nat):Int)=(nb:Int)+4 by omega]
   rfl
  .refine hR _ H8 (K8 _ _ af nD) (rs++ [r],by rw[ur];rfl,by rw[uL,ao];rfl,λb hb=>?_,?_,λb o e np=>?_)
   .rcases Ac.mp hb with h|h
    .exact ae b h
    .rw[Uv] at h;subst h;exact ay
   .erw[P8,x,e2,h2];exact⟨x,by rwa[qj nD.symm],h2⟩
   .rw[qj (qk e hD)];exact K8 _ _ (K' b o e np) np
 .rintro ys H' ⟨rs,rfl,ao,ae,P',K'⟩ af;let e8:=K' _ _ e7 nl
  exists l,D,_,0,1,e8,af,nB (by rw[uc,uc];omega)
  let e9:(upd H' l (.lst (th.map V.str++rs.map V.str))) l=u_ (.lst ((th++rs).map V.str)):=by rw[qg,ur]
  let P9:md (upd H' l (.lst (th.map V.str++rs.map V.str))) p:=by
   erw[P',x,e2,h2];exact⟨x,by rwa[qj nl.symm],h2⟩
  let K9:iW p H (upd H' l (.lst (th.map V.str++rs.map V.str))):=λb o e np=>by
   rw[qj (qk (am b o e np) hl)];exact K' b o (K7 b o e np) np
  generalize upd H' l (.lst (th.map V.str++rs.map V.str))=H9 at e9 P9 K9⊢
  exists 0,0,p,(5),1,P9,(),(),λd9 aI g0 g1 aA ap=>?_
  erw[NU g0 g1,c9,hc,aB];let aC:=ap _ _ e9 nl
  exists "abcdh",d9,c9,1,1,(),hc,_,0,1,(by show("say ":Str).length+1<=Vm;decide+kernel),(sml rfl),λq1 aD=>?_
  let aq:=qf aD (.lst [.str ("say "++⟨#[c9]⟩)]);let hw:Wd 20 ("say "++⟨#[c9]⟩:Str):=Wd.cat (n:=4) (m:=1) [():uq _] aB ()
  exists l,q1,_,0,1,aq _ _ aC,qg,nB (by rw[uc,uL];show _+1<=_;omega),λq2 aE=>?_
  let aF:=aq.trans (qf aE (.lst ((th++rs).map V.str++ [.str ("say "++⟨#[c9]⟩)])))
  exists q2,0,.inl [SqL.of qg:λt ht=>?_];let ag:=aF.trans (qf ht (.tup ((th++rs).map V.str++ [.str ("say "++⟨#[c9]⟩)])));let all:∀y>th++rs++ [("say "++⟨#[c9]⟩:Str)],Wd 20 y:=λy U=>by
   rcases Ac.mp U with U|U
   .rcases Ac.mp U with U|U
    .exact Z y U
    .exact ae y U
   .cases Ab.mp U;exact hw
  let em:(th++rs).map V.str++ [.str ("say "++⟨#[c9]⟩)]=(th++rs++ [("say "++⟨#[c9]⟩:Str)]).map V.str:=by rw[ur (l₁:=th++rs)];rfl
  rw[em] at ag ht⊢;refine k _ _ _ (Be (l:=th++rs++ [("say "++⟨#[c9]⟩:Str)]) (by simp![uL,vU];omega) all) (qaj all ht) (aA.same ag) ((K9.trans ap).trans (iW.of ag))
def JH {y:Str}(hz:Wd 20 z)(O:Wd 20 y):S7 (-[-[!z,-[]],!y]):=by
 let h1:=hz.2;let h2:=O.2;let U:QA z=true:=by unfold QA;rw[ug (show ↑z<=300 by omega)];exact hz.1
 let Z:QA y=true:=by unfold QA;rw[ug (show ↑y<=300 by omega)];exact O.1
 let e:sz (-[-[!z,-[]],!y])<=300:=by simp![sz,szL];omega
 exists ?_,by simp[lw,lwL,hz.1,O.1],e
 unfold isT;rw[ug (show sz (-[-[!z,-[]],!y])<=600 by omega),ug (show dp (-[-[!z,-[]],!y])<=12 by simp![dp,dpL];omega)]
 simp[ky,goodL,U,Z]
inductive Oq:Sp
 |mk (p L:Addr)(zs:List Str)(_:vs= [-p,-L])(_:md H p)(_:H L=u_ (.lst (zs.map V.str)))(_:Nm4 zs)(_:∀(v:V)(d:D)(H':Hp),sR d->Is H' d v->md H' p->iW p H H'->Q v H')
def Aaz {k:Str}{d:D}(O:k="leaf"\/k="rule")(h:S7 d):sR (-[!k,d]):=Lf O h.1 h.2.1 h.2.2
def Oi {k:Str}{d:D}(O:k="leaf"\/k="rule")(h:S7 d)(Z:Is H d v)(q:∀t H',ic H H'->Is H' (-[!k,d]) (-t)->sR (-[!k,d])->Q (-t) H'): [V.str k,v].length<=Vm/\∀t,H t=U_->Q (-t) (upd H t (-[!k,v])):=by
 exists sml rfl,λt U=>q t _ (qf U _) (Is.new (ds:= [!k,d]) (_,0,[1:?_],_,0,Z,1) U) (Aaz O h);rcases O with rfl|rfl<;>decide+kernel
def PH:#[T,5,a.kO,a.k8,["pot","names"],Dl]:=by
 let qS:=#[JJ,T];let Q5:=#[Ak,T];let Zn:=#[Ef,T];exists 9,T.mF,Wg
 erw[h,p,L,zs,rfl,hP,hL,hN,k];let aa:∀{z:Str},Wd 4 z->Wd 20 z:=λh=>⟨h.1,by have:=h.2;omega⟩
 exists 3,%[#[qF,(2),Wg.nd,#[qq,qS,T.ii,#v[pv 0,qi]]],#[qH,#[qp,D3,pv 2,qi,qw _],%[|#[qm,#[qq,Q5,T.iB,#v[pv 0,pv 1]]]],qt],#[qH,#[qp,QL,pv 2,qi,qw _],%[|#[qm,#[qV,qU,T.QB,vx,#v[#[XY,["k","pot","names"],[0,1],IQ (qh xr) ["pot","names","kind"],#[Ys,#v[#[qq,qS,T.ii,#v[pv 0,qi]]]],(λ_ _ _ _ _ _=>#[qM,(0),(show Vw (["k","pot","names"]:oj Str) by decide+kernel)]),(λ_ _ _ _ _ _=>#[qq,Q5,T.iB,#v[pv 1,pv 2]])]]]]],qt],#[qH,#[qp,QL,pv 2,qi,qw _],%[|#[qm,#[qI,#v[#[qI,#v[#[qq,Q5,T.iB,#v[pv 0,pv 1]],#[qI,qd]]],#[qq,Q5,T.iB,#v[pv 0,pv 1]]]]]],qt],#[qH,#[qp,QL,pv 2,qi,qw _],%[|#[qm,#[qq,Zn,T.mE,#v[pv 0,pv 1]]]],qt]|#[qm,#[qI,#v[#[Qd,Qv,ql,#[qq,Q5,T.iB,#v[pv 0,pv 1]]],ql,ql]]]]
 exists 0,p,(6),1,hP,(),(),λd1 H1 a0 a1 P1 K1=>?_
 let O:=K1 _ _ hL (hP.ne_strs hL)
 exists 0,_,0,1,0,mi (λ_=>?_) (λ_=>?_)
 .exact(0,0,p,L,zs,1,P1,O,hN,λz H2 hz U Z=>k _ _ H2 (Aay (aa hz)) ⟨1,nB (by have:=hz.2;omega)⟩ U (K1.trans Z))
 exists 0,1,0,mi (λ_=>?_) (λ_=>?_)
 .exists 0,p,(4),1,P1,(),(),λd2 H2 b0 b1 U Z=>?_
  let ac:=Z _ _ O (P1.ne_strs O);obtain⟨n,rfl,hn⟩:∃n:Nat,d2=(n:Int)/\n<4:=[d2.toNat:():()]
  exists n,1,(),(),λD hD=>?_
  let nD:D≠p:=(U.free hD).symm;refine Z8 (lo:=0) (n:=n) (tl:= [u_ (-p),u_ (-L)]) (λi ys H'=>∃rs:oj Str,ys=rs.map V.str/\↑rs=i/\(∀r>rs,Wd 20 r)/\md H' p/\(∀b o,H2 b=u_ o->b≠p->H' b=u_ o)) (yC ()) ([],1,1,λb hb=>by simp at hb,U.same (qf hD _),λb o e _=>qf hD _ _ _ e) ?_ ?_
  .rintro j ys H' hj ⟨rs,rfl,af,ad,P',K'⟩ ae hy R hR;let ao:=K' _ _ ac (U.ne_strs ac)
   exists 0,0,p,L,zs,1,P',ao,hN,λr H8 ap P8 K8=>?_;refine hR _ H8 (K8 _ _ ae nD) (rs++ [r],by rw[ur];rfl,by rw[uL,af];rfl,λb hb=>?_,?_,λb o e np=>?_)
   .rcases Ac.mp hb with h|h
    .exact ad b h
    .rw[Uv] at h;subst h;exact aa ap
   .erw[P8,x,e2,h2];exact⟨x,by rwa[qj nD.symm],h2⟩
   .rw[qj (qk e hD)];exact K8 _ _ (K' b o e np) np
  .rintro ys H' ⟨rs,rfl,af,ad,P',K'⟩ ae
   exists D,0,.inl [SqL.of ae:λt ht=>?_];let s3:=qf ht (.tup (rs.map V.str));exact k _ _ _ (Be () ad) (qaj ad ht) (P'.same s3) (λb o e np=>s3 _ _ (K' b o ((K1.trans Z) b o e np) np))
 exists 0,1,0,mi (λ_=>?_) (λ_=>?_)
 .exists 0,0,p,L,zs,1,P1,O,hN,λz1 H2 ag U Z=>[vc _:λt0 ah=>[sml rfl:λt1 ak=>?_]];let ac:=Z _ _ O (P1.ne_strs O);let s0:=qf ah (.tup ([]:oj V));let s1:=s0.trans (qf ak (-[!z1,-t0]));let i0:Is (upd H2 t0 (-[])) (-[]) (-t0):=Is.new (ds:= []) rfl ah;let i1:Is (upd (upd H2 t0 (-[])) t1 (-[!z1,-t0])) (-[!z1,-[]]) (-t1):=Is.new (ds:= [!z1,-[]]) (_,0,⟨1,nB (by have:=ag.2;omega)⟩,_,0,i0,1) ak
  generalize upd (upd H2 t0 (-[])) t1 (-[!z1,-t0])=H3 at s1 i1⊢;let P3:=U.same s1
  exists 0,0,p,L,zs,1,P3,s1 _ _ ac,hN,λz2 H4 al P4 K4=>[sml rfl:λt2 am=>?_];let s2:=qf am (-[-t1,!z2]);refine k _ _ _ (JH (aa ag) (aa al)) (Is.new (ds:= [-[!z1,-[]],!z2]) (_,0,i1.mono (P3.tk P4 K4),_,0,⟨1,nB (by have:=al.2;omega)⟩,1) am) (P4.same s2) ((((K1.trans Z).trans (iW.of s1)).trans K4).trans (iW.of s2))
 exists 0,1,0,mi (λ_=>?_) (λ_=>?_)
 .exact(0,0,p,L,zs,1,P1,O,hN,λv d H2 hd hv U Z=>k v d H2 hd hv U (K1.trans Z))
 .let ta:Wd 7 "text a ":=[():uq _]
  exists 0,0,p,L,zs,1,P1,O,hN,λz H2 hz U Z=>(_,0,1,nB (by have:=hz.2;have:=ta.2;omega),sml rfl,λt ht=>?_)
  let all:∀y>(["text a "++z,"ask b a","say b"]:oj Str),Wd 20 y:=λy hy=>by
   simp![uF,uI,uT] at hy;rcases hy with rfl|rfl|rfl
   .exact ta.cat hz ()
   .exact[():()]
   .exact[():()]
  let s2:=qf ht (.tup ((["text a "++z,"ask b a","say b"]:oj Str).map V.str));exact k _ _ _ (Be (by show 3<=14;decide) all) (qaj all ht) (U.same s2) ((K1.trans Z).trans (iW.of s2))
def Pr:#[T,6,a.ZR,a.Z1,["pot","names"],Oq]:=by
 let qS:=#[JJ,T];let kQ:=#[PH,T];let Zn:=#[Ef,T];let O:=#[LU,T];exists 9,T.mI,zj
 erw[h,p,L,zs,rfl,hP,hL,hN,k];let ad:=hN.1;let ae:=hN.2.1;exists 3,%[#[qF,(2),zj.nd,#[qq,qS,T.ii,#v[pv 0,qi]]],#[qH,#[qp,D3,pv 2,qi,qw _],%[|#[qm,#[qI,#v[ql,#[qq,kQ,T.mF,#v[pv 0,pv 1]]]]]],qt],#[qH,#[qp,D3,pv 2,qi,qw _],%[|#[qm,#[qI,#v[ql,#[qq,Zn,T.mE,#v[pv 0,pv 1]]]]]],qt],#[qH,#[qp,QL,pv 2,qi,qw _],%[|#[qm,#[qI,#v[ql,#[qq,O,T.mZ,#v[pv 0,pv 1]]]]]],qt],@qH _ _ _ _ _ _ _ _ #[wM,#[qp,QL,pv 2,qi,qw _],#[zN,#[qp,QL,#[qq,qS,T.ii,#v[pv 0,qi]],qi,qw _]]].pt %[|#[qm,#[qI,#v[ql,#[qq,kQ,T.mF,#v[pv 0,pv 1]]]]]] qt|#[qm,#[qI,#v[ql,#[qG,7,Yb,pv 1,#[qq,qS,T.ii,#v[pv 0,#[qy,qJ,T.yi,uM,#v[pv 1]]]],(λ_ _=>rfl)]]]]]
 exists 0,p,(10),1,hP,(),(),λd1 H1 a0 a1 P1 K1=>?_
 let Z:=K1 _ _ hL (hP.ne_strs hL);let fin:∀{H3 H2:Hp}{kk:Str}{d:D}{v:V},md H3 p->iW p H H3->kk="leaf"\/kk="rule"->S7 d->Is H2 d v->md H2 p->iW p H3 H2-> [V.str kk,v].length<=Vm/\∀t,H2 t=U_->Q (-t) (upd H2 t (-[!kk,v])):=λ{H3 H2 kk d v} P3 K3 hk hd U P2 K2=>
  Oi hk hd U λt H4 s4 i4 o4=>k _ _ H4 o4 i4 (P2.same s4) ((K3.trans K2).trans (iW.of s4))
 exists 0,_,0,1,0,mi (λ_=>?_) (λ_=>?_)
 .exact(0,0,p,L,zs,1,P1,Z,hN,λv d H2 hd U P2 K2=>fin P1 K1 (.inl rfl) hd U P2 K2)
 exists 0,_,0,1,0,mi (λ_=>?_) (λ_=>?_)
 .exact(0,0,p,L,zs,1,P1,Z,hN,λv d H2 hd U P2 K2=>fin P1 K1 (.inr rfl) hd U P2 K2)
 exists 0,1,0,mi (λ_=>?_) (λ_=>?_)
 .exact(0,0,p,L,zs,1,P1,Z,hN,λv d H2 hd U P2 K2=>fin P1 K1 (.inr rfl) hd U P2 K2)
 show nA _ _ _ _ H1;refine qC λN0 n0=>n0 _ _ ?_;exists 8,BB,bb;let made:∀{H3:Hp},md H3 p->iW p H H3->BB [u_ (V.ref p),u_ (V.ref L),u_ (V.int d1)] H3:=by
  intro H3 P3 K3;refine bb _ _ ?_;let aa:=K3 _ _ hL (hP.ne_strs hL)
  exists 5
  refine(0,0,0,L,0,.inl (SqL.of aa),p,0,P3,by rw[uc];omega,by rw[uc];omega,λd2 H4 b0 b1 P4 K4=>?_)
  erw[xk (xs:=zs.map V.str) b0 b1,v,U];erw[Ae.mp (zE U),z,hz,rfl]
  exists L,_,_,0,1,SqL.of (K4 _ _ aa (P3.ne_strs aa)),U,sml rfl,λt ht=>?_;let s4:=qf ht (-[-"made",!z]);let ac:=hN.2.2 z hz;exact k _ _ _ (Le ac.1) (Is.new (ds:= [-"made",!z]) (_,0,[1:()],_,0,[1:nB ()],1) ht) (P4.same s4) ((K3.trans K4).trans (iW.of s4))
 exists 0,1,0,mi (λ_=>?_) (λ_=>?_)
 .exists 0,p,(4),1,P1,(),(),λd2 H2 b0 b1 P2 K2=>[1:0:mi (λ_=>?_) (λ_=>?_)]
  .exact(0,0,p,L,zs,1,P2,K2 _ _ Z (P1.ne_strs Z),hN,λv d H3 hd U P3 K3=>fin P2 (K1.trans K2) (.inr rfl) hd U P3 K3)
  .exact made P2 (K1.trans K2)
 .exact iX (made P1 K1)
def SqL.keepK {K:o0}{a:o3}(e:∀o,H a=u_ o->H' a=u_ o)(h:SqL K H a xs):SqL K H' a xs:=by
 rcases h with(h|⟨o,h⟩)|h
 .exact .inl (.inl (e _ h))
 .exact .inl (.inr [o:e _ h])
 .exact .inr h
abbrev N8:oj Str:= ["a","b1","c/d","e.f","g","h9","k","m/n"]
def Adk:∀z>N8,nm z=v_/\↑z<=4:=by decide+kernel
def Adl:N8.Nodup:=by decide+kernel
def Sl (h1:1<=n)(h2:n<=8):Nm4 (N8.take n)/\↑(N8.take n)=n:=by
 let e:↑(N8.take n)=n:=by rw[vD];show min n 8=n;omega
 exact[[():():λz hz=>Adk z (UG hz)]:e]
def KS {vs:oj V}:AO vs U_ (u_ (n:Int))=vs.take n:=by
 unfold AO;rw[HT.sIx_none,HT.sIx_nat,tS,Nat.sub_zero];rcases TV n ↑vs with h|h
 .rw[Fy h]
 .rw[Nat.min_eq_right h,vi (uq _),vi h]
def EW {ns:oj Int}:∀{ys:oj V},(∀y>ys,y>ns.map V.int)->∃O:oj Int,ys=O.map V.int
 | [],_=>[[]:1]|y::r,h=>by
  erw[Ae.mp (h y ui),i,_,e];obtain⟨O,e2⟩:=EW (ys:=r) λz hz=>h z (uh _ hz);exact⟨i::O,by rw[e2,<-e];rfl⟩
inductive OB (K:PySem.W.Frag):Sp
 |mk (q:Addr)(ns:List Int)(_:vs= [-q])(_:SqL K H q (ns.map V.int))(_:∀(L:Addr)(ps:List (Str×D))(us:List V)(H':Hp),H L=U_->ic H H'->H' L=u_ (.lst us)->L2.IsL H' (ps.map prD) us->AdK ps->↑ps<=8->Q (-L) H')
def Cp {K:o0}(h:SqL K H q xs)(s:ic H H'):SqL K H' q xs:=SqL.keepK (λo e=>s _ _ e) h
def LV:#[T,7,a.zq,a.zw,["script"],(OB K)]:=by
 let au:=#[PX,T];let WH:=#[Ei,T];let U:=#[Pr,T];exists 9,T.my,yh
 erw[h,q,ns,rfl,hq,k];let hs:=uE;exists 3,%[#[qF,(1),yh.nd,#[jR,wk,#[Q0,#v[ql,ql,ql,ql,ql,ql,ql,ql]],XG,#[JO,#[Qd,yV,qi,#[Qd,kD,#[qq,au,T.mz,#v[pv 0,qi]],qi]]]]],#[qF,(2),yh.nd,#[Q0,qd]],#[yW,#[Ys,#v[#[qy,qJ,T.yi,uM,#v[pv 1]]]],#[qM,(3),yh.nd],%[#[qF,(4),yh.nd,#[qy,#[sG,1,rfl],T.z_sum,boot_sum,#v[#[LG,10,(),pv 0,#[JO,#[Qd,yV,qi,pv 3]],_]]]]|#[qH,#[qp,Aj,#[Qd,kD,pv 4,qi],qi,qw _],%[|#[qZ,#[jr,v9,vG,vH,Y5,pv 2,#v[#[qI,#v[#[qG,7,Yb,pv 1,pv 3,(λ_ _=>rfl)],#[qq,U,T.mI,#v[#[qq,WH,T.mR,#v[pv 4,pv 3]],pv 1]]]]]]]],qt]]]|#[qm,pv 2]]
 exists sml rfl,λl0 aw=>?_;let s0:=qf aw (.lst (N8.map V.str));let e0:(upd H l0 (.lst (N8.map V.str))) l0=u_ (.lst (N8.map V.str)):=qg;show De _ (upd H l0 (.lst (N8.map V.str))) _;generalize upd H l0 (.lst (N8.map V.str))=H0 at s0 e0⊢
 exists 0,q,ns,(0),1,(),(Cp hq s0),λc=>(_,0,1,(by show(0:Int)<8;decide),_,0,1,?_)
 let m1:0<=c%8/\c%8<8:=[tF _ ():V0 _ ()]
 obtain⟨n,hn,ax,ay⟩:∃n:Nat,1+c%8=(n:Int)/\1<=n/\n<=8:=((1+c%8).toNat,(),(),())
 erw[Sl ax ay,hN,aA]
 try dsimp only
 rw[hn]
 exists 0,l0,0,SqL.of e0,λl hl=>?_;rw[KS,<-Vf];let ak:(N8.take n).Nodup:=pC (V4 _ _) Adl;generalize N8.take n=zs at hN aA ak⊢;let s1:=s0.trans (qf hl (.lst (zs.map V.str)));let e1:(upd H0 l (.lst (zs.map V.str))) l=u_ (.lst (zs.map V.str)):=qg;generalize upd H0 l (.lst (zs.map V.str))=H1 at s1 e1⊢
 exists vc _,λL hL=>?_;let s2:=s1.trans (qf hL (.lst ([]:oj V)));let al:H L=none:=s1.free hL;let aB:l≠L:=qk e1 hL;let e2:=qf hL (.lst ([]:oj V)) _ _ e1;let eL:(upd H1 L (.lst [])) L=u_ (.lst []):=qg;generalize upd H1 L (.lst [])=H2 at s2 e2 eL⊢
 exists 0,l,0,.inl (SqL.of e2),↑zs,by rw[uc],(),()
 refine JS (n:=↑zs) (λi σ H'=>∃(ps:oj (Str×D)) (us:oj V) (x3 x4:om V),σ= [u_ (-q),u_ (-l),u_ (-L),x3,x4]/\ic H H'/\H' l=u_ (.lst (zs.map V.str))/\H' L=u_ (.lst us)/\L2.IsL H' (ps.map prD) us/\(ps.map (·.1)).Sublist (zs.take i)/\∀p>ps,sR p.2) ([],[],U_,U_,1,s2,e2,eL,1,List.nil_sublist _,λp hp=>by simp at hp) ?_ ?_
 .rintro i σ H' hi ⟨ps,us,x3,x4,rfl,sm,el,ag,ad,O,Z⟩;let aI:↑ps<=8:=by
   let h1:=O.length_le;rw[uc,vD] at h1;omega
  let aC:=↑ad;rw[uc] at aC
  exists 0,0,_,0,1,0,q,0,(Cp hq sm),λys y0 _ am aD=>?_;erw[EW am,ms,rfl];let sy:=qf aD (.lst (ms.map V.int));let ey:(upd H' y0 (.lst (ms.map V.int))) y0=u_ (.lst (ms.map V.int)):=qg;let aa:=sy _ _ ag;let ac:=sy _ _ el;generalize upd H' y0 (.lst (ms.map V.int))=H3 at sy ey aa ac⊢;let af:=ad.mono sy.tk;let ao:=sm.trans sy
  exists y0,ms,1,SqL.of ey
  exists 0,_,0,1,(by show(0:Int)<11;decide),1,0,mi (λ_=>?_) (λ_=>?_)
  .let ah:i<↑zs:=hi
   exists 0,.inl [1:_:SqL.of aa],0,0,l,_,_,V.str zs[i],1,1,SqL.of ac,?_,?_
   .rw[show(0:Int)+(i:Int)=((i:Nat):Int) by omega]
    exact qD (by rw[uJ,uf ah];rfl)
   exists 0,0,_,0,(),(),λp H4 hp s4 P4=>?_
   let aE:=s4 _ _ ac;let aJ:=s4 _ _ aa;let aK:L≠p:=qk aa hp
   exists 0,p,l,zs,1,P4,aE,hN,λv d H5 hd hv P5 K5=>[sml rfl:λt ht=>?_];let aF:ic H3 H5:=K5.same s4 hp;let st:=qf ht (-[.str zs[i],v]);let hz:=hN.2.2 _ (uR ah);let ap:Is (upd H5 t (-[.str zs[i],v])) (prD (zs[i],d)) (-t):=Is.new (ds:= [.str zs[i],d]) (_,0,[1:nB ()],_,0,hv,1) ht
   generalize upd H5 t (-[.str zs[i],v])=H6 at st ap⊢;let ae:=aF.trans st;let aq:=ae _ _ aa
   exists L,us,0,1,aq,()
   let tk:Tk H6 (upd H6 L (.lst (us++ [-t]))):=Tk.updL aq
   exists ps++ [(zs[i],d)],us++ [-t],_,0,λb o e=>?_,?_,qg,?_,?_,λp' aG=>?_
   .rw[qj (qk e al)];exact ae _ _ (ao _ _ e)
   .rw[qj aB];exact ae _ _ ac
   .rw[ur];exact((af.mono ae.tk).mono tk).append (L2.IsL.one (ap.mono tk))
   .rw[Lb ah,ur];exact O.append (pM _)
   .rcases Ac.mp aG with h|h
    .exact Z p' h
    .cases Ab.mp h;exact hd
  .exact(ps,us,_,0,ao,ac,aa,af,O.trans (by rw[Lb hi];exact List.sublist_append_left _ _),Z)
 .rintro σ H' ⟨ps,us,x3,x4,rfl,sm,el,ag,ad,O,Z⟩;rw[U2] at O;let aH:=O.length_le;rw[uc] at aH;exact[0:k L ps us H' al sm ag ad [[λz hz=>(hN.2.2 z (O.mem hz)).1:ak.sublist O]:Z] ()]
inductive OO:Sp
 |mk (v:V)(d:D)(_:vs= [v])(_:Is H d v)(_:∀(u:V)(H':Hp),ic H H'->((QI d).isSome=v_->u= .non)->((QI d).isSome=Vi->u≠ .non)->Q u H')
inductive Du:Sp
 |mk (v:V)(d:D)(_:vs= [v])(_:Is H d v)(_:∀H',ic H H'->Q (.bl (QI d).isSome) H')
def PY:#[C,4,a.kX,a.Kg,["tree"],OO]:=by
 let Z:=#[Eh,T,C];exists 9,T.l8,sY
 erw[h,v,d,rfl,hv,k];exists 3,%[|#[qm,#[qG,qA,#[qq,Z,T.lY,#v[pv 0]]]]]
 exists 0,v,d,1,hv,λu H' x y s' U hu=>?_;erw[hu,p,ws,rfl,hp,w1,r1,rfl,h1,w2,r2,rfl,h2,h3];cases(show r2= [] from h3)
 exists p,_,_,0,1,SqT.of hp,1,k _ H' s' (λe=>?_) (λe=>?_)
 .erw[zx e,rs,O];erw[U.1 rs O,_,rfl];exact h2
 .let hn:QI d=none:=by
   cases hh:QI d with
   |none=>rfl|some rs=>rw[hh] at e;cases e
  erw[U.2 hn,i,rfl];intro z;rw[z] at h2;cases(show V.non= .int i from h2)
def oK:#[C,5,a.f_is_rule,a.d_is_rule,["value"],Du]:=by
 let O:=#[PY,T,C];exists 9,T.mT,Cr,U
 erw[h,v,d,rfl,Z,k];exists 3,%[|#[qm,#[Qn,yH,#[qq,16,O,U.mono (),_,T.l8.m,T.l8.F.kp,T.l8.b,.nil,qz,#v[pv 0],_,_,_],qR]]]
 exists 0,v,d,1,Z,λu H' s' h1 h2=>[1:?_];let e:decide (u=V.non)=(QI d).isSome:=by
  cases c:(QI d).isSome with
  |true=>rw[h1 c];rfl|false=>exact uj (h2 c)
 have:=k H' s';rwa[<-e] at this
end
def DI {n:Nat}:∀{ds:oj D},(∀d>ds,(Qq n d).isSome=v_)->↑(ds.filterMap (Qq n))=↑ds/\ds=(ds.filterMap (Qq n)).map (λr=>D.str (Yp r))/\∀r>ds.filterMap (Qq n),Jn n 300 r
 | [],_=>[1:1:λr h=>nomatch h]|d::ds,h=>by
  erw[zx (h d ui),r,O];obtain⟨h1,h2,h3⟩:=DI (n:=n) (ds:=ds) λx U=>h x (uh _ U);let hd:d= .str (Yp r)/\Jn n 300 r:=by
   cases d with
   |str z=>
    obtain⟨Z,a2⟩:=Br (show wy n z=u_ r from O)
    exact⟨by rw[a2],Z⟩
   |non=>cases O|bl b=>cases O|int i=>cases O|lst=>cases O|dct=>cases O|tup xs=>cases O
  rw[Ul O];exists by rw[uB,uB,h1],by rw[uw,<-h2,hd.1],λx U=>?_
  rcases Aa.mp U with rfl|U
  .exact hd.2
  .exact h3 x U
variable {rs:oj Rw}
def wA {d:D}(h:QI d=u_ rs):d=jS rs/\Q2 rs:=by
 cases d with
 |tup ds=>
  rw[X0] at h;split at h
  .rename_i O
   simp![uG,vj] at O;erw[O,[[c1,c2],U],Z];cases h;erw[DI (List.all_eq_true.mp U),h1,h2,h3];let e:D.tup ds=jS (ds.filterMap (Qq ↑ds)):=by
    unfold jS;rw[<-h2]
   refine⟨e,((),(),?_,by rwa[<-e])⟩
   rwa[h1]
  .cases h
 |non=>cases h|bl b=>cases h|int i=>cases h|str z=>cases h|lst=>cases h|dct=>cases h
abbrev GMT:oj Str:= ["begin","look","wanted","take","full"]
structure GFl (fs:oj (Str×V))(nv ov mv av rv ev:V):Prop where
 ZB:fs.lookup ("name":Str)=u_ nv
 WE:fs.lookup ("order":Str)=u_ ov
 YR:fs.lookup ("made_by":Str)=u_ mv
 yY:fs.lookup ("rule_asks":Str)=u_ av
 Qu:fs.lookup ("rule_run":Str)=u_ rv
 f_end:fs.lookup ("end":Str)=u_ ev
 meth:∀m>GMT,fs.lookup m=U_
 len:↑fs<=20
section
variable {fs:oj (Str×V)}{nv ov mv av rv ev:V}
def GFl.set_made_by {u:V}(h:GFl fs nv ov mv av rv ev):GFl (iK "made_by" u fs) nv ov u av rv ev:=by
 refine(?_,?_,?_,?_,?_,?_,λm hm=>?_,by rw[jk h.YR];exact h.len)
 all_goals rw[qK]
 all_goals first|rw[A6 rfl]|(rw[A4 ()];first|exact h.ZB|exact h.WE|exact h.YR|exact h.yY|exact h.Qu|exact h.f_end)|(rw[A4 (λe=>by subst e;revert hm;decide+kernel)];exact h.meth m hm)
def GFl.set_rule_asks {u:V}(h:GFl fs nv ov mv av rv ev):GFl (iK "rule_asks" u fs) nv ov mv u rv ev:=by
 refine(?_,?_,?_,?_,?_,?_,λm hm=>?_,by rw[jk h.yY];exact h.len)
 all_goals rw[qK]
 all_goals first|rw[A6 rfl]|(rw[A4 ()];first|exact h.ZB|exact h.WE|exact h.YR|exact h.yY|exact h.Qu|exact h.f_end)|(rw[A4 (λe=>by subst e;revert hm;decide+kernel)];exact h.meth m hm)
def GFl.set_rule_run {u:V}(h:GFl fs nv ov mv av rv ev):GFl (iK "rule_run" u fs) nv ov mv av u ev:=by
 refine(?_,?_,?_,?_,?_,?_,λm hm=>?_,by rw[jk h.Qu];exact h.len)
 all_goals rw[qK]
 all_goals first|rw[A6 rfl]|(rw[A4 ()];first|exact h.ZB|exact h.WE|exact h.YR|exact h.yY|exact h.Qu|exact h.f_end)|(rw[A4 (λe=>by subst e;revert hm;decide+kernel)];exact h.meth m hm)
def GFl.set_end {u:V}(h:GFl fs nv ov mv av rv ev):GFl (iK "end" u fs) nv ov mv av rv u:=by
 refine(?_,?_,?_,?_,?_,?_,λm hm=>?_,by rw[jk h.f_end];exact h.len)
 all_goals rw[qK]
 all_goals first|rw[A6 rfl]|(rw[A4 ()];first|exact h.ZB|exact h.WE|exact h.YR|exact h.yY|exact h.Qu|exact h.f_end)|(rw[A4 (λe=>by subst e;revert hm;decide+kernel)];exact h.meth m hm)
end
structure Gc where
 (x o:o3)
 n:Str
structure Gs where
 mb:D
 ra:oj D
 run:om (Mc×Rn)
 en:D
abbrev W8 (CM:o3)(H:Hp)(x:o3)(rv:V):om (Mc×Rn)->Prop
 |none=>rv= .non|some (m,r)=>rv= .ref m.x/\m.x≠x/\yB CM H m r
abbrev mj (C CM:o3)(H:Hp)(g:Gc)(s:Gs):Prop:=
 ∃(dx:o3) (fs:oj (Str×V)) (mv av rv ev:V),H g.x=u_ (.ins C dx fs)/\GFl fs (!g.n) (-g.o) mv av rv ev/\Is H s.mb mv/\Is H (¬s.ra) av/\W8 CM H g.x rv s.run/\Is H s.en ev
variable {CM:o3}
def W8.same {x:o3}{o:om (Mc×Rn)}(h:W8 CM H x rv o)(s:ic H H'):W8 CM H' x rv o:=by
 cases o with
 |none=>exact h|some p=>exact[h.1:h.2.1:h.2.2.same s]
def mj.same {g:Gc}{s:Gs}(h:mj C CM H g s)(sm:ic H H'):mj C CM H' g s:=by
 erw[h,dx,fs,mv,av,rv,ev,e,f,i,j,k,l];exact(dx,fs,mv,av,rv,ev,sm _ _ e,f,i.mono sm.tk,j.mono sm.tk,k.same sm,l.mono sm.tk)
def yB.put {m:Mc}{r:Rn}{x:o3}{fs:oj (Str×V)}(h:yB CM H m r)(e:H x=u_ (.ins C dx fs))(n:m.x≠x):yB CM (upd H x (.ins C dx fs')) m r:=by
 erw[h,U,Z,rv,ru,tv,gv,e1,f,i,j,b,O,gl,t];let tk:Tk H (upd H x (.ins C dx fs')):=Tk.updI e;let n1:m.db≠x:=YH.ne e b;let n2:m.dg≠x:=λz=>by rw[z,e] at O;cases O
 exact(U,Z,rv,ru,tv,gv,by rwa[qj n],f,i.mono tk,j.mono tk,b.move tk (qj n1),by rwa[qj n2],gl.mono tk,t.mono tk)
def W8.put {x:o3}{fs:oj (Str×V)}{o:om (Mc×Rn)}(h:W8 CM H x rv o)(e:H x=u_ (.ins C dx fs)):W8 CM (upd H x (.ins C dx fs')) x rv o:=by
 cases o with
 |none=>exact h|some p=>exact[h.1:h.2.1:h.2.2.put e h.2.1]
structure Gv (g:Gc)(H H':Hp):Prop where
 kept:∀b o,H b=u_ o->b≠g.x->H' b=u_ o
 tk:Tk H H'
def ku {g:Gc}{fs:oj (Str×V)}{mv av ev:V}{s:Gs}(e:H g.x=u_ (.ins C dx fs))(f:GFl fs' (!g.n) (-g.o) mv av rv ev)(i:Is H s.mb mv)(j:Is H (¬s.ra) av)(k:W8 CM H g.x rv s.run)(l:Is H s.en ev):
  mj C CM (upd H g.x (.ins C dx fs')) g s/\Gv g H (upd H g.x (.ins C dx fs')):=by
 let tk:Tk H (upd H g.x (.ins C dx fs')):=Tk.updI e;exact⟨(dx,fs',mv,av,rv,ev,qg,f,i.mono tk,j.mono tk,k.put e,l.mono tk),⟨λb o h n=>by rwa[qj n],tk⟩⟩
abbrev oT (s:Gs)(r:Rn):Gs:=if QH r.th=v_ then s else{s with en:=r.th}
inductive OC (C CM:Addr):Sp
 |mk (g:Gc)(s:Gs)(m:Mc)(r:Rn)(_:vs= [-g.x])(_:mj C CM H g s)(_:s.run=u_ (m,r))(_:Th r.th)(_:∀H',Gv g H H'->mj C CM H' g (oT s r)->Q .non H')
section
variable {P:o9}{w:og}{K:o0}{mg:Str->om o6}{base:o8}{a:Ad}{g:Ga}
def El:#[T,2,a.ZD,a.ZI,["self"],(OC a.qL a.qo)]:=by
 let qY:=#[qau,T];let Qr:=#[oI,T];exists 9,T.l9,qam
 erw[h,g,st,m,r,rfl,hG,O,aa,k];exists 3,%[|#[qH,#[Qp,#[Qc,#[QK,#[qP,5,pv 0,rfl],T.qv,T.il,qY]]],%[|#[Qh,#[QK,#[qP,5,pv 0,rfl],T.qv,T.iF,Qr]]],qt]]
 erw[id hG,dx,fs,mv,av,rv,ev,e,f,i,j,hR,l];rw[O] at hR;erw[hR,rfl,hn,Z];erw[id Z,dm,fm,ac,ru,tv,gv,em,U,i1,i2,i3,i4,i5,i6]
 exists 0,g.x,_,dx,fs,0,e,T.qQ,T.qW,f.Qu,m.x,dm,fm,1,em,U.meth _ (),m,r,1,Z,aa,0
 cases c:QH r.th with
 |true=>
  refine iX (k H [λ_ _ h _=>h:Tk.refl H] ?_);unfold oT;rwa[A6 c]
 |false=>
  refine lD ?_
  exists 0,g.x,_,dx,fs,0,e,T.qQ,T.qW,f.Qu,m.x,dm,fm,1,em,U.meth _ (),m,r,1,Z,λv hv=>?_
  exists 5
  refine(0,g.x,_,dx,fs,1,e,T.qQ,T.Q7,by have:=f.len;omega,?_)
  let hS:oT st r={st with en:=r.th}:=by
   unfold oT;rw[c];exact A4 ub
  obtain⟨m1,m2⟩:=ku (CM:=a.qo) (s:={st with en:=r.th}) e (f.set_end (u:=v)) i j (by rw[O];exact[1:hn:Z]) hv
  refine k _ m2 ?_;rw[hS];exact m1
inductive Dp (CM:Addr):Sp
 |mk (o:Addr)(v:V)(rs:List Rw)(own:Str)(_:vs= [-o,v,!own])(_:Is H (jS rs) v)(_:Q2 rs)(_:nm own=v_)(_:∀(mc:Mc)(H':Hp),ic H H'->H mc.x=U_->H mc.db=U_->H mc.dg=U_->mc.rs=rs->mc.own=own->yB CM H' mc (mW rs own [] 300 B0 1 0)->Q (-mc.x) H')
def Ee:#[C,8,a.Y4,a.Y2,["self","rule","own"],(Dp a.qo)]:=by
 let yg:=#[KU,T,C];exists 9,T.lf,xw
 erw[h,o,v,rs,own,rfl,hv,hR,hn,k];let hl:=XO hn;let hI:∀H:Hp,Is H (!own) (!own):=λH=>yU ()
 exists 3,%[|#[qm,#[zK,T.Wh,yg,T.WS,T.iU,oz,#v[pv 1,pv 2]]]]
 exists 0,0,λx dx Z aa nx=>?_;let U:ic H (upd (upd H dx (.own x)) x (.ins a.qo dx [])):=λb o h=>by rwa[qj (qk h Z),qj (qk h aa)]
 exists x,dx,v,!own,jS rs,!own,1,qg,hv.mono U.tk,hI _,λz=>?_,λ_ z=>?_,λO af e1 ac e2 ag ah H' db dg kept ad ae hM=>[1:?_]
 .rw[hR.read] at z;cases z
 .have:mQ (!own)=true:=hn;rw[this] at z;cases z
 .let e3:O=rs:=by
   let h1:=hR.read;rw[e1,ac.read] at h1;exact uO h1
  cases e2;subst e3;exact k (x,db,dg,O,own) H' (λb o h=>kept b o (U b o h) (qk h Z)) Z (U.free ad) (U.free ae) rfl rfl hM
abbrev R0 (rs:oj Rw)(n:Str):Rn:=mW rs n [] 300 B0 1 0
structure MT (H:Hp)(g:Gc)(d:D)(s s':Gs):Prop where
 mb:s'.mb=s.mb
 ra:s'.ra=s.ra
 lack:d= .non->s'.run=U_/\s'.en=flt "lack"
 rule:d≠ .non->QI d=U_->s'.run=U_/\s'.en=flt "rule"
 go:∀rs,QI d=u_ rs->∃mc:Mc,H mc.x=U_/\H mc.db=U_/\H mc.dg=U_/\mc.rs=rs/\mc.own=g.n/\s'.run=u_ (mc,R0 rs g.n)/\s'.en=if QH (R0 rs g.n).th=v_ then s.en else(R0 rs g.n).th
inductive Lu (C CM CO:Addr):Sp
 |mk (g:Gc)(s:Gs)(v:V)(d:D)(_:vs= [-g.x,v])(_:mj C CM H g s)(_:s.run=U_)(_:nm g.n=v_)(_:Is H d v)(_:(∃dx fs,H g.o=u_ (.ins CO dx fs)/\fs.lookup ("runner":Str)=U_))(_:∀H' s',Gv g H H'->mj C CM H' g s'->MT H g d s s'->Q .non H')
def MP {n:Str}(h:Q2 rs):CZ rs (R0 rs n):=wr h 300 B0 1 0 [] rfl Aaj () (by have:=h.n0;omega) ⟨1,by simp[dpL],uq _⟩
def AdJ {n:Str}(h:Q2 rs):Th (R0 rs n).th:= .inr (MP h).two
def BF:#[C,9,a.zr,a.XL,["self","rule"],(Lu a.qL a.qo a.qr)]:=by
 let wT:=#[oK,T,C];let Xc:=#[Ee,T,C];let Jv:=#[El,T];exists 9,T.lS,W5
 erw[h,g,st,v,d,rfl,hG,O,hn,hv,[ad,ae,ho,af],k];let hs:=uE;erw[id hG,dx,fs,mv,av,rv,ev,e,f,i,j,hR,l];rw[O] at hR;exists 3,%[|#[qH,#[qp,yH,pv 1,qR,qw _],%[|#[Qh,#[qI,#v[ql,ql]]]],%[|#[qH,#[Qp,#[Qc,#[qq,wT,T.mT,#v[pv 1]]]],%[|#[Qh,#[qI,#v[ql,ql]]]],%[#[Qh,#[Qk,#[qP,5,pv 0,rfl],T.qx,T.lf,Xc,#v[pv 1,#[qP,5,pv 0,rfl]]]]|#[qZ,#[QK,pv 0,T.qQ,T.l9,Jv]]]]]]]
 exists 0,1,0;let fl:∀(z:Str) (H:Hp) (l:o3),↑z<=100->H l=U_->Is (upd H l (-[-"fault",!z])) (flt z) (-l):=λz H l hz hl=>Is.new (ds:= [-"fault",!z]) (_,0,yU (),_,0,yU (),1) hl
 let aa:↑fs<1000:=by have:=f.len;omega
 let put:∀(z:Str) (t:o3) (H':Hp),↑z<=100->ic H H'->H' t=U_->((d= .non->z="lack")/\(d≠ .non->z="rule"/\QI d=U_))->Q .non (upd (upd H' t (-[-"fault",!z])) g.x (.ins a.qL dx (iK "end" (-t) fs))):=λz t H' hz s' Z hd=>by
  let s1:=s'.trans (qf Z (-[-"fault",!z]));obtain⟨m1,m2⟩:=ku (CM:=a.qo) (g:=g) (s:={st with en:=flt z}) (s1 _ _ e) (f.set_end (u:=-t)) (i.mono s1.tk) (j.mono s1.tk) (by show W8 _ _ _ _ st.run;rwa[O]) (fl z H' t hz Z)
  refine k _ _ [λb o h n=>m2.kept b o (s1 b o h) n:s1.tk.trans m2.tk] m1 (1,1,λh=>⟨O,by rw[hd.1 h]⟩,λh _=>⟨O,by rw[(hd.2 h).1]⟩,λrs h=>?_)
  by_cases c:d= .non
  .rw[c] at h;cases h
  .rw[(hd.2 c).2] at h;cases h
 by_cases c:d= .non
 .subst c;cases(show v= .non from hv)
  refine lC (ug rfl) [(sml rfl):λt Z=>?_]
  exists 0,g.x,_,dx,fs,1,(qf Z _) _ _ e,T.qQ,T.Q7,aa;exact put "lack" t H () (ic.refl _) Z [λ_=>rfl:λh=>A8 rfl h]
 .refine iO (uj (jQ hv c)) ?_
  exists 0,v,d,1,hv,λH1 s1=>[0:?_];cases hd:QI d with
  |none=>
   refine lD [(sml rfl):λt Z=>?_]
   exists 0,g.x,_,dx,fs,1,(qf Z _) _ _ (s1 _ _ e),T.qQ,T.Q7,aa;exact put "rule" t H1 () s1 Z [λh=>A8 h c:λ_=>[1:hd]]
  |some rs=>
   refine iX ?_;erw[wA hd,ed,ac];let e1:=s1 _ _ e
   exists 5
   refine(0,g.x,_,dx,fs,0,e1,T.qQ,T.X2,f.WE,g.o,ad,ae,1,s1 _ _ ho,af,0,0,g.x,_,dx,fs,0,e1,T.qQ,T.Yq,f.ZB,g.o,v,rs,g.n,1,by rw[<-ed];exact hv.mono s1.tk,ac,hn,λmc H2 s2 nx nb ng ers ag hM=>?_)
   let e2:=s2 _ _ e1;let U:=s1.trans s2
   exists 0,g.x,_,dx,fs,1,e2,T.qQ,T.qW,aa;let ah:mc.x≠g.x:=(qk e1 nx).symm;erw[ku (C:=a.qL) (CM:=a.qo) (g:=g) (s:={st with run:=u_ (mc,R0 rs g.n)}) e2 (f.set_rule_run (u:=-mc.x)) (i.mono U.tk) (j.mono U.tk) [1:ah:hM] (l.mono U.tk),m1,m2]
   erw[id m1,ak,al,_,_,_,_,e3,f3,_]
   exists 0,g.x,ak,al,1,e3,f3.meth _ (),g,_,mc,R0 rs g.n,1,m1,1,AdJ ac,λH3 v3 G3=>k H3 _ [λb o h n=>v3.kept b o (m2.kept b o (U b o h) n) n:(U.tk.trans m2.tk).trans v3.tk] G3 ?_
   unfold oT
   exists 5
   refine(by split<;>rfl,by split<;>rfl,λh=>A8 h c,(λ_ h=>by rw[hd] at h;cases h),λam h=>?_)
   rw[hd] at h;cases h
   exists 5
   refine(mc,s1.free nx,s1.free nb,s1.free ng,ers,ag,by split<;>rfl,?_)
   split<;>rfl
inductive zh (C CM:Addr):Sp
 |mk (g:Gc)(s:Gs)(_:vs= [-g.x])(_:mj C CM H g s)(_:((s.run=U_/\∃z,s.mb= .str z/\∀v H',ic H H'->Is H' (-[-"rule",!z]) v->Q v H')\/∃mc r d,s.run=u_ (mc,r)/\r.th= .tup [-"asks",d]/\∀v,Is H d v->Q v H))
abbrev Aa7:om (Mc×Rn)->oj D
 |none=> []|some (_,r)=>r.gs
abbrev Mz (s:Gs):D:=-[.tup (s.ra++Aa7 s.run),s.en]
inductive OJ (C CM:Addr):Sp
 |mk (g:Gc)(s:Gs)(_:vs= [-g.x])(_:mj C CM H g s)(_:↑s.ra+↑(Aa7 s.run)<=1000)(_:∀v H',ic H H'->Is H' (Mz s) v->Q v H')
variable {v:V}{Q:VK}
def AR {K:o0}{xs ys:oj D}{u:V}(O:Is H (¬xs) v)(U:Is H (¬ys) u)(hl:↑xs+↑ys<=1000)(k:∀p H',ic H H'->Is H' (.tup (xs++ys)) p->Q p H'):DO K v u H Q:=by
 erw[id O,a,vs,rfl,ha,Z];erw[id U,b,us,rfl,hb,ib];let la:=↑Z;let lb:=↑ib;let hs:=uE;exists a,b,vs,us,1,1,SqT.of ha,SqT.of hb,(),λe=>?_,λ_ e=>?_,λ_ _ p hp=>?_
 .have:xs= []:=List.length_eq_zero_iff.mp (by rw[e] at la;simpa using la.symm)
  rw[this] at k;exact k _ H (ic.refl _) U
 .have:ys= []:=List.length_eq_zero_iff.mp (by rw[e] at lb;simpa using lb.symm)
  rw[this,uU] at k;exact k _ H (ic.refl _) O
 .let n:=qf hp (.tup (vs++us));exact k _ _ n (p,0,qg,(Z.append ib).mono n.tk)
def Ea:#[T,2,a.xQ,a.xN,["self"],(zh a.qL a.qo)]:=by
 let Qr:=#[oI,T];exists 9,T.mq,wR
 erw[h,g,st,rfl,hG,h];let hs:=uE;erw[id hG,dx,fs,mv,av,rv,ev,e,f,i,j,U,l];exists 3,%[#[qH,#[qp,yH,#[qP,5,pv 0,rfl],qR,qw _],%[|#[qm,#[qI,#v[ql,#[qP,5,pv 0,rfl]]]]],qt]|#[qm,#[qG,XR,#[QK,#[qP,5,pv 0,rfl],T.qv,T.iF,Qr]]]]
 exists 0,g.x,_,dx,fs,0,e,T.qQ,T.qW,f.Qu,1,0;rcases h with⟨O,z,hz,k⟩|⟨mc,r,d,O,Z,k⟩
 .rw[O] at U;cases(show rv= .non from U)
  rw[hz] at i;obtain⟨rfl,hl⟩:=(show mv= .str z/\↑z<=Vm from i)
  refine lC (ug rfl) (0,g.x,_,dx,fs,0,e,T.qQ,T.yE,f.YR,(sml rfl),λt ht=>?_);exact k _ _ (qf ht _) (Is.new (_,0,yU (),_,0,[1:hl],1) ht)
 .rw[O] at U;erw[U,rfl,hn,hM];erw[id hM,dm,fm,ac,ru,tv,gv,em,aa,i1,i2,i3,i4,i5,i6];refine iO (uj (λz=>by cases z)) ?_
  exists 0,g.x,_,dx,fs,0,e,T.qQ,T.qW,f.Qu,mc.x,dm,fm,1,em,aa.meth _ (),mc,r,1,hM,λv hv=>?_
  rw[Z] at hv;exact .inr (.inl (xT (i:=1) (d:=d) hv (qD (j:=1) rfl) λq hq=>k q hq))
def PP:#[T,2,a.ZG,a.ZJ,["self"],(OJ a.qL a.qo)]:=by
 let WZ:=#[PZ,T];exists 9,T.mL,zp
 erw[h,g,st,rfl,hG,hl,k];let hs:=uE;erw[id hG,dx,fs,mv,av,rv,ev,e,f,i,j,Z,l];exists 3,%[#[qF,(1),zp.nd,#[ya,#[qp,yH,#[qP,5,pv 0,rfl],qR,qw _],#[qI,qd],#[QK,#[qP,5,pv 0,rfl],T.qv,T.mh,WZ]]]|#[qm,#[qI,#v[#[Qd,Zm,#[qP,5,pv 0,rfl],pv 1],#[qP,5,pv 0,rfl]]]]]
 let fin:∀(v:V) (H1:Hp),ic H H1->Is H1 (.tup (Aa7 st.run)) v->AcZ K (AaB 0) "rule_asks" [u_ (-g.x),u_ v] H1 λx H2=>AaB 1 [u_ (-g.x),u_ v] H2 λy H3=>DO K x y H3 λz H4=>AcZ K (AaB 0) "end" [u_ (-g.x),u_ v] H4 λu H5=> [z,u].length<=Vm/\∀p,H5 p=U_->Q (-p) (upd H5 p (-[z,u])):=λv H1 s1 hv=>by
  exists 0,g.x,_,dx,fs,0,s1 _ _ e,T.qQ,T.y8,f.yY,0;refine AR (j.mono s1.tk) hv hl λz H4 s4 i4=>?_;let U:=s1.trans s4
  exists 0,g.x,_,dx,fs,0,U _ _ e,T.qQ,T.Q7,f.f_end,(sml rfl),λp hp=>?_;let n:=qf hp (-[z,ev]);exact k _ _ (U.trans n) (Is.new (_,0,i4,_,0,l.mono U.tk,1) hp)
 exists 0,g.x,_,dx,fs,0,e,T.qQ,T.qW,f.Qu,1,0;cases O:st.run with
 |none=>
  rw[O] at Z fin;cases(show rv= .non from Z)
  refine lC (ug rfl) [(sml rfl):λt ht=>?_];exact fin _ _ (qf ht _) (Is.new (ds:= []) rfl ht)
 |some p=>
  erw[p,mc,r];rw[O] at Z fin;erw[Z,rfl,hn,hM];erw[id hM,dm,fm,ac,ru,tv,gv,em,aa,i1,i2,i3,i4,i5,i6];refine iO (uj (λz=>by cases z)) ?_
  exists 0,g.x,_,dx,fs,0,e,T.qQ,T.qW,f.Qu,mc.x,dm,fm,1,em,aa.meth _ (),mc,r,1,hM,λv H1 s1 hv=>?_
  exact fin v H1 s1 hv
structure Gw (g:Gc)(o:om (Mc×Rn))(H H':Hp):Prop where
 kept:∀b ob,H b=u_ ob->b≠g.x->(∀mc r,o=u_ (mc,r)->b≠mc.x/\b≠mc.db/\b≠mc.dg)->H' b=u_ ob
 tk:Tk H H'
inductive X8 (C CM CO:Addr):Sp
 |mk (g:Gc)(s:Gs)(v:V)(d:D)(_:vs= [-g.x,v])(_:mj C CM H g s)(_:nm g.n=v_)(_:Is H d v)(_:g.o≠g.x)(_:(∃dx fs,H g.o=u_ (.ins CO dx fs)/\fs.lookup ("runner":Str)=U_))(_:((s.run=U_/\∃z,s.mb= .str z/\∀H' s',Gw g s.run H H'->mj C CM H' g s'->MT H g d {s with ra:= [-[-[-"rule",!z],d]]} s'->Q .non H')\/∃mc r u q,s.run=u_ (mc,r)/\mc.own=g.n/\Q2 mc.rs/\CZ mc.rs r/\r.th= .tup [-"asks",-[!u,q]]/\AX u d=v_/\∀H',Gw g s.run H H'->mj C CM H' g (oT {s with run:=u_ (mc,mw mc.rs mc.own r d)} (mw mc.rs mc.own r d))->Q .non H'))
def Adw {g:Gc}{s:Gs}{mc:Mc}{r r':Rn}(h:mj C CM H g s)(U:s.run=u_ (mc,r))(v:Mv mc H H')(Z:yB CM H' mc r'):mj C CM H' g {s with run:=u_ (mc,r')}:=by
 erw[h,dx,fs,mv,av,rv,ev,e,f,i,j,k,l];rw[U] at k;erw[k,rfl,hn,hm];erw[id hm,dm,fm,aa,ru,tv,gv,em,ac,i1,i2,i3,O,i5,i6];let n1:g.x≠mc.db:=(YH.ne e i3).symm;let n2:g.x≠mc.dg:=λz=>by rw[<-z,e] at O;cases O
 exact(dx,fs,mv,av,_,ev,v.kept _ _ e hn.symm n1 n2,f,i.mono v.tk,j.mono v.tk,[1:hn:Z],l.mono v.tk)
def LZ:#[C,10,a.ZV,a.Zt,["self","answer"],(X8 a.qL a.qo a.qr)]:=by
 let j8:=#[BF,T,C];let Jv:=#[El,T];let YA:=#[Nq,T,C];exists 9,T.lp,qao
 erw[h,U,st,v,d,rfl,hG,hn,hv,am,[ao,ap,ho,aq],h];let hs:=uE;erw[id hG,dx,fs,mv,av,rv,ev,e,f,i,j,hR,l];exists 3,%[|#[qH,#[qp,yH,#[qP,5,pv 0,rfl],qR,qw _],%[#[Qh,#[qI,#v[#[qI,#v[#[qI,#v[ql,#[qP,5,pv 0,rfl]]],pv 1]]]]]|#[qZ,#[Qk,pv 0,T.qQ,T.lS,j8,#v[pv 1]]]],%[#[qZ,#[Qk,#[qP,5,pv 0,rfl],T.qv,T.iJ,YA,#v[pv 1]]]|#[qZ,#[QK,pv 0,T.qQ,T.l9,Jv]]]]]
 exists 0,U.x,_,dx,fs,0,e,T.qQ,T.qW,f.Qu,1,0;rcases h with⟨O,z,hz,k⟩|⟨mc,r,u,q,O,au,ad,ae,af,Z,k⟩
 .rw[O] at hR;cases(show rv= .non from hR)
  refine lC (ug rfl) ?_;rw[hz] at i;obtain⟨rfl,hl⟩:=(show mv= .str z/\↑z<=Vm from i)
  let aw:↑fs<1000:=by have:=f.len;omega
  exists 0,U.x,_,dx,fs,0,e,T.qQ,T.yE,f.YR,(sml rfl),λt1 ag=>?_;let m1:=qf ag (-[V.str "rule",V.str z]);let k1:Is (upd H t1 (-[V.str "rule",V.str z])) (-[-"rule",!z]) (-t1):=Is.new (_,0,yU (),_,0,[1:hl],1) ag
  exists 0,(sml rfl),λt2 ah=>?_;let m2:=qf ah (-[V.ref t1,v]);let k2:=Is.new (ds:= [-[-"rule",!z],d]) (_,0,k1,_,0,hv.mono m1.tk,1) ah
  exists (sml rfl),λt3 ak=>?_;let m3:=qf ak (-[V.ref t2]);let k3:=Is.new (ds:= [-[-[-"rule",!z],d]]) (_,0,k2,1) ak;let s3:=(m1.trans m2).trans m3
  exists 0,U.x,_,dx,fs,1,s3 _ _ e,T.qQ,T.y8,aw;let iz:Is H (!z) (!z):=[1:hl];obtain⟨p1,p2⟩:=ku (C:=a.qL) (CM:=a.qo) (g:=U) (s:={st with ra:= [-[-[-"rule",!z],d]]}) (s3 _ _ e) (f.set_rule_asks (u:=-t3)) (by show Is _ st.mb _;rw[hz];exact iz.mono s3.tk) k3 (by show W8 _ _ _ _ st.run;rw[O];rfl) (l.mono s3.tk)
  erw[id p1,aa,ac,_,_,_,_,e3,f3,_];let al:=s3.tk.trans p2.tk
  exists 0,U.x,aa,ac,1,e3,f3.meth _ (),0,U,_,v,d,1,p1,O,hn,hv.mono al,(ao,ap,p2.kept _ _ (s3 _ _ ho) am,aq),λH4 s4 v4 G4 b4=>k H4 s4 [λb ob h n _=>v4.kept b ob (p2.kept b ob (s3 b ob h) n) n:al.trans v4.tk] G4 (b4.mb,b4.ra,b4.lack,b4.rule,λrs h=>?_)
  erw[b4.go rs h,mc,c1,c2,c3,c4];let fr:∀b,upd (upd (upd (upd H t1 (-[V.str "rule",V.str z])) t2 (-[V.ref t1,v])) t3 (-[V.ref t2])) U.x (.ins a.qL dx (iK "rule_asks" (-t3) fs)) b=U_->H b=none:=λb hb=>by
   cases hc:H b with
   |none=>rfl|some ob=>
    by_cases c:b=U.x
    .rw[c,qg] at hb;cases hb
    .rw[p2.kept b ob (s3 b ob hc) c] at hb;cases hb
  exact(mc,fr _ c1,fr _ c2,fr _ c3,c4)
 .rw[O] at hR;erw[hR,rfl,aA,hM];erw[id hM,dm,fm,aB,ru,tv,gv,em,ax,i1,i2,i3,i4,i5,i6];refine iO (uj (λz=>by cases z)) ?_
  let ay:↑mc.own<=100:=by rw[au];have:=XO hn;omega
  exists 0,U.x,_,dx,fs,0,e,T.qQ,T.qW,f.Qu,mc.x,dm,fm,1,em,ax.meth _ (),0,mc,r,v,u,q,d,1,hM,ae,af,hv,ad,ay,Z,λH1 v1 M1=>?_
  .let G1:=Adw hG O v1 M1;erw[id G1,aa,ac,_,_,_,_,e3,f3,_];let hok:=AU (own:=mc.own) ad ae (by rw[af];show decide (("asks":Str)="asks")=v_;exact ug rfl) (AW Z)
   exists 5
   refine(0,U.x,aa,ac,1,e3,f3.meth _ (),U,_,mc,0,G1,1,.inr hok.two,λH2 v2 G2=>k H2 [λb ob h n1 n2=>v2.kept b ob (v1.kept b ob h (n2 mc r O).1 (n2 mc r O).2.1 (n2 mc r O).2.2) n1:v1.tk.trans v2.tk] G2)
abbrev gfs (n:Str)(o t:o3):oj (Str×V):= [("name",!n),("order",-o),("made_by",.non),("rule_asks",-t),("rule_run",.non),("end",.non)]
def E5 (n:Str)(o t:o3):GFl (gfs n o t) (!n) (-o) .non (-t) .non .non:=by
 exists 1,1,1,1,1,1,?_,(by show 6<=20;decide)
 intro m hm;simp![GMT,uF,uI,uT] at hm;rcases hm with rfl|rfl|rfl|rfl|rfl<;>rfl
abbrev s0G:Gs:=(.non,[],U_,.non)
inductive Lo (C CM CO:Addr):Sp
 |mk (x dx o:Addr)(n k:Str)(sv:V)(e:D)(_:vs= [-x,!n,sv,-o])(_:H x=u_ (.ins C dx []))(_:Is H (-[!k,e]) sv)(_:nm n=v_)(_:o≠x)(_:(∃dx fs,H o=u_ (.ins CO dx fs)/\fs.lookup ("runner":Str)=U_))(_:∀H' s',(∀b ob,H b=u_ ob->b≠x->H' b=u_ ob)->Tk H H'->mj C CM H' ⟨x,o,n⟩ s'->(k="made"->s'={s0G with mb:=e})->(k≠"made"->MT H ⟨x,o,n⟩ e s0G s')->Q .non H')
def Aao {x:o3}{fs:oj (Str×V)}{P:Hp->Prop}(e:H x=u_ (.ins C dx fs))(h:∀H1,H1 x=u_ (.ins C dx fs')->(∀b ob,H b=u_ ob->b≠x->H1 b=u_ ob)->Tk H H1->P H1):P (upd H x (.ins C dx fs')):=h _ qg (λb ob h n=>by rwa[qj n]) (Tk.updI e)
def L3:#[C,10,a.JZ,a.ZO,["self","name","source","order"],(Lo a.qL a.qo a.qr)]:=by
 let j8:=#[BF,T,C];exists 9,T.mK,KZ
 erw[h,x,dx,o,n,k,sv,d,rfl,hx,aa,hn,nox,[ac,ad,ho,ae],q];let hs:=uE;exists 3,%[#[Qh,pv 1],#[Qh,pv 3],#[Qh,qR],#[Qh,#[qI,qd]],#[Qh,qR],#[Qh,qR]|#[qH,#[qp,QL,#[qG,qA,pv 2],ql,qw _],%[|#[Qh,#[qG,qA,pv 2]]],%[|#[qZ,#[Qk,pv 0,T.qQ,T.lS,j8,#v[#[qG,qA,pv 2]]]]]]]
 exists 0,0,x,_,dx,0,hx,T.qQ,T.Yq,()
 refine Aao (P:=nA _ _ _ _) hx λH1 x1 k1 t1=>?_
 exists 5
 refine(0,0,x,_,dx,0,x1,T.qQ,T.X2,by show 1<1000;decide,?_)
 refine Aao (P:=nA _ _ _ _) x1 λH2 x2 k2 t2=>?_
 exists 5
 refine(0,x,_,dx,0,x2,T.qQ,T.yE,by show 2<1000;decide,?_)
 refine Aao (P:=nA _ _ _ _) x2 λH3 x3 k3 t3=>?_
 exists sml rfl,λt ht=>?_;let nxt:=(qk x3 ht).symm;let s4:=qf ht (.tup ([]:oj V))
 exists 5
 refine(0,x,_,dx,0,s4 _ _ x3,T.qQ,T.y8,by show 3<1000;decide,?_)
 refine Aao (P:=nA _ _ _ _) (s4 _ _ x3) λH5 x5 k5 t5=>?_
 exists 5
 refine(0,x,_,dx,0,x5,T.qQ,T.qW,by show 4<1000;decide,?_)
 refine Aao (P:=nA _ _ _ _) x5 λH6 x6 k6 t6=>?_
 exists 5
 refine(0,x,_,dx,0,x6,T.qQ,T.Q7,by show 5<1000;decide,?_)
 refine Aao (P:=λH=>_) x6 λZ O k7 t7=>?_;let kp:∀b ob,H b=u_ ob->b≠x->Z b=u_ ob:=λb ob h nb=>k7 b ob (k6 b ob (k5 b ob (s4 b ob (k3 b ob (k2 b ob (k1 b ob h nb) nb) nb)) nb) nb) nb;let U:=(((((t1.trans t2).trans t3).trans s4.tk).trans t5).trans t6).trans t7;let O:Z x=u_ (.ins a.qL dx (gfs n o t)):=O;let eT:Z t=u_ (.tup ([]:oj V)):=k7 _ _ (k6 _ _ (k5 _ _ qg nxt) nxt) nxt;let i0:Is Z (-[]) (-t):=(t,[],1,eT,1);let G0:mj a.qL a.qo Z ⟨x,o,n⟩ s0G:=(dx,_,_,_,_,_,O,E5 n o t,1,i0,1,1);let af:=aa.mono U;erw[af,p,ws,rfl,hp,w1,r1,rfl,[rfl,ag],w2,r2,rfl,h2,h3];cases(show r2= [] from h3)
 exists 0,p,_,_,0,1,SqT.of hp,1,1,0;by_cases ck:k="made"
 .refine lC (ug (by rw[ck])) (0,p,_,_,0,1,SqT.of hp,1,0,x,_,dx,0,O,T.qQ,T.yE,(by show 6<1000;decide),?_)
  erw[ku (C:=a.qL) (CM:=a.qo) (g:=[x:o:n]) (s:={s0G with mb:=d}) O ((E5 n o t).set_made_by (u:=w2)) h2 i0 rfl rfl,p1,p2]
  exact q _ _ (λb ob h nb=>p2.kept b ob (kp b ob h nb) nb) (U.trans p2.tk) p1 (λ_=>rfl) λz=>A8 ck z
 .refine iO (uj (λz=>ck (V.str.inj z))) ?_
  exists 0,x,dx,0,O,(E5 n o t).meth _ (),0,p,_,_,0,1,SqT.of hp,1,[x:o:n],s0G,w2,d,1,G0,1,hn,h2,(ac,ad,kp _ _ ho nox,ae),λH8 s8 v8 G8 b8=>q H8 s8 (λb ob h nb=>v8.kept b ob (kp b ob h nb) nb) (U.trans v8.tk) G8 (λz=>A8 z ck) λ_=>(b8.mb,b8.ra,b8.lack,b8.rule,λrs h=>?_)
  erw[b8.go rs h,mc,c1,c2,c3,c4];let fr:∀b,Z b=U_->H b=none:=λb hb=>by
   cases hc:H b with
   |none=>rfl|some ob=>
    by_cases c:b=x
    .rw[c,O] at hb;cases hb
    .rw[kp b ob hc c] at hb;cases hb
  exact(mc,fr _ c1,fr _ c2,fr _ c3,c4)
abbrev yL:D->D
 | .non=>-[-"lack"]| .tup [!k,e]=>if k="leaf" then .tup [-"value",e] else .non|_=> .non
abbrev QE:D->D
 | .tup [!k,e]=>if k="said" then .tup [-"value",e] else -[!k,e]|d=>d
inductive Oz:Sp
 |mk (v:V)(d:D)(_:vs= [v])(_:Is H d v)(_:(d= .non\/∃k e,d=-[!k,e]))(_:∀u H',ic H H'->Is H' (yL d) u->Q u H')
inductive Lx:Sp
 |mk (v:V)(k:Str)(e:D)(_:vs= [v])(_:Is H (-[!k,e]) v)(_:∀u H',ic H H'->Is H' (QE (-[!k,e])) u->Q u H')
def BG:#[T,1,a.w9,a.WM,["end"],Lx]:=by
 exists 9,T.iY,nZ
 erw[h,v,k,e,rfl,U,q];let hs:=uE;let O:=U;erw[U,p,ws,rfl,Z,w1,r1,rfl,[rfl,aa],w2,r2,rfl,h2,h3];cases(show r2= [] from h3)
 exists 3,%[|#[qm,#[ya,#[qp,QL,#[qG,qA,pv 0],ql,qw _],#[qI,#v[ql,#[qG,qA,pv 0]]],pv 0]]]
 exists 0,p,_,_,0,1,SqT.of Z,1,1,0;by_cases c:k="said"
 .refine lC (ug (by rw[c])) (0,p,_,_,0,1,SqT.of Z,1,(sml rfl),λt ht=>?_)
  refine q _ _ (qf ht _) ?_;unfold QE
  try dsimp only
  rw[A6 c];exact Is.new (_,0,yU (),_,0,h2,1) ht
 .refine iO (uj (λz=>c (V.str.inj z))) [0:q _ H (ic.refl _) ?_];unfold QE
  try dsimp only
  rw[A4 c];exact O
def Al:#[T,1,a.Jc,a.Ji,["source"],Oz]:=by
 exists 9,T.io,Zl
 erw[h,v,d,rfl,U,hd,q];let hs:=uE;exists 3,%[#[qH,#[qp,yH,pv 0,qR,qw _],%[|#[qm,#[qI,#v[ql]]]],qt]|#[qm,#[ya,#[qp,QL,#[qG,qA,pv 0],ql,qw _],#[qI,#v[ql,#[qG,qA,pv 0]]],qR]]]
 exists 0,1,0;rcases hd with rfl|⟨k,e,rfl⟩
 .cases(show v= .non from U)
  refine lC (ug rfl) [(sml rfl):λt O=>?_];exact q _ _ (qf O _) (Is.new (_,0,yU (),1) O)
 .erw[U,p,ws,rfl,Z,w1,r1,rfl,[rfl,aa],w2,r2,rfl,h2,h3];cases(show r2= [] from h3)
  refine iO (uj (λz=>by cases z)) ?_
  exists 0,p,_,_,0,1,SqT.of Z,1,1,0;by_cases c:k="leaf"
  .refine lC (ug (by rw[c])) (0,p,_,_,0,1,SqT.of Z,1,(sml rfl),λt O=>?_)
   refine q _ _ (qf O _) ?_;unfold yL
   try dsimp only
   rw[A6 c];exact Is.new (_,0,yU (),_,0,h2,1) O
  .refine iO (uj (λz=>c (V.str.inj z))) (q _ H (ic.refl _) ?_);unfold yL
   try dsimp only
   rw[A4 c];exact(rfl:V.non=V.non)
end
structure Sy where
 G:Type
 fin:G->Bool
 want:G->om Str
 own:G->G
 tk:G->om D->G
 stuck:G->Str->G
 said:G->om D
 g0:Str->om G
 once:Str->om D
 lft:G->Nat
 M:Nat
 ns:oj Str
structure Sy.Ok (Y:Sy):Prop where
 fs:∀g m,Y.fin (Y.stuck g m)=v_
 ss:∀g m,Y.said (Y.stuck g m)=U_
 sf:∀g v,Y.said g=u_ v->Y.fin g=v_
 lo:∀g,Y.fin g=Vi->Y.want g=U_->Y.lft (Y.own g)<Y.lft g
 lt:∀g m a,Y.fin g=Vi->Y.want g=u_ m->Y.lft (Y.tk g a)<Y.lft g
 lk:∀g m,Y.fin g=Vi->Y.lft (Y.stuck g m)<Y.lft g
 l0:∀m g,Y.g0 m=u_ g->Y.lft g<=Y.M
 gn:∀m g,Y.g0 m=u_ g->m>Y.ns
namespace Sy
variable {Y:Sy}
nonrec abbrev Orc:=Str->om (om D)
abbrev step (Y:Sy)(f:Orc)(g:Y.G):Y.G:=if Y.fin g=v_ then g else match Y.want g with
 |none=>Y.own g|some m=>match f m with
  |some a=>Y.tk g a|none=>Y.stuck g m
abbrev it (Y:Sy)(f:Orc):Nat->Y.G->Y.G
 |0,g=>g|k+1,g=>it Y f k (step Y f g)
def wb {f:Orc}{g:Y.G}(h:Y.fin g=v_):step Y f g=g:=by unfold step;rw[A6 h]
def ZT {f:Orc}{g:Y.G}(h:Y.fin g=v_):∀k,it Y f k g=g
 |0=>rfl|k+1=>by show it Y f k (step Y f g)=g;rw[wb h];exact ZT h k
def Wr {f:Orc}:∀(k j:Nat) (g:Y.G),it Y f (k+j) g=it Y f j (it Y f k g)
 |0,j,g=>by rw[tM];rfl|k+1,j,g=>by
  rw[Nat.add_right_comm];show it Y f (k+j) (step Y f g)=_;rw[Wr k j]
  rfl
def XF {f:Orc}(k:Nat)(g:Y.G):it Y f (k+1) g=step Y f (it Y f k g):=Wr k 1 g
def Bl (h:Y.Ok){f:Orc}{g:Y.G}(O:Y.fin g=Vi):Y.lft (step Y f g)<Y.lft g:=by
 unfold step;rw[O,A4 ub];cases U:Y.want g with
 |none=>exact h.lo g O U|some m=>
  show Y.lft (match f m with|some a=>Y.tk g a|none=>Y.stuck g m)<_
  cases f m with
  |some a=>exact h.lt g m a O U|none=>exact h.lk g m O
def Wx (h:Y.Ok){f:Orc}:∀(k:Nat) (g:Y.G),Y.lft g<=k->Y.fin (it Y f k g)=v_
 |0,g,hl=>by
  show Y.fin g=v_;cases O:Y.fin g with
  |true=>rfl|false=>have:=Bl (f:=f) h O;omega
 |k+1,g,hl=>by
  show Y.fin (it Y f k (step Y f g))=v_;cases O:Y.fin g with
  |true=>rw[wb O,ZT O];exact O|false=>exact Wx h k _ (by have:=Bl (f:=f) h O;omega)
variable {j:Nat}
def it_one {f:Orc}{g:Y.G}{k:Nat}(O:Y.fin (it Y f k g)=v_)(U:Y.fin (it Y f j g)=v_):it Y f k g=it Y f j g:=by
 rcases TV k j with h|h
 .erw[Vg h,d,rfl];rw[Wr,ZT O]
 .erw[Vg h,d,rfl];rw[Wr,ZT U]
def Ay (h:Y.Ok){f f':Orc}(hm:∀m a,f m=u_ a->f' m=u_ a):∀(k:Nat) (g:Y.G),it Y f' k g=it Y f k g\/((∀j,it Y f j (it Y f k g)=it Y f k g)/\Y.said (it Y f k g)=U_)
 |0,g=> .inl rfl|k+1,g=>by
  show it Y f' k (step Y f' g)=it Y f k (step Y f g)\/_;by_cases c:step Y f' g=step Y f g
  .rw[c];exact Ay h hm k _
  .right;let U:Y.fin g=false:=by
    cases U:Y.fin g with
    |false=>rfl|true=>exact A8 (by rw[wb U,wb U]) c
   let e:∃m,step Y f g=Y.stuck g m:=by
    unfold step at c⊢;rw[U,A4 ub] at c⊢;rw[A4 ub] at c;cases Z:Y.want g with
    |none=>rw[Z] at c;exact A8 rfl c|some m=>
     rw[Z] at c;simp only at c⊢;cases O:f m with
     |none=>exact[m:1]|some a=>rw[O,hm m a O] at c;exact A8 rfl c
   erw[e,m,e];let e2:it Y f (k+1) g=Y.stuck g m:=by
    show it Y f k (step Y f g)=_;rw[e];exact ZT (h.fs g m) k
   rw[e2];exact[ZT (h.fs g m):h.ss g m]
def Ax (h:Y.Ok){f f':Orc}(hm:∀m a,f m=u_ a->f' m=u_ a){k:Nat}{g:Y.G}{v:D}(O:Y.said (it Y f k g)=u_ v):it Y f' k g=it Y f k g:=by
 rcases Ay h hm k g with e|⟨_,e⟩
 .exact e
 .rw[O] at e;cases e
abbrev Fh (Y:Sy):Nat->Orc
 |0,m=>match Y.g0 m with
  |none=>u_ (Y.once m)|some _=>U_
 |h+1,m=>match Y.g0 m with
  |none=>u_ (Y.once m)|some g=>(Y.said (it Y (Fh Y h) Y.M g)).map u_
variable {m:Str}
def wq (h:Y.g0 m=U_):∀k,Fh Y k m=u_ (Y.once m)
 |0=>by simp![Fh,h]|k+1=>by simp![Fh,h]
def Fh_run {g:Y.G}(h:Y.g0 m=u_ g)(k:Nat):Fh Y (k+1) m=(Y.said (it Y (Fh Y k) Y.M g)).map some:=by simp![Fh,h]
def KB {g:Y.G}(h:Y.g0 m=u_ g):Fh Y 0 m=none:=by simp![Fh,h]
def IO (h:Y.Ok):∀(k:Nat) (m:Str) (a:om D),Fh Y k m=u_ a->Fh Y (k+1) m=u_ a
 |0,m,a,e=>by
  cases O:Y.g0 m with
  |none=>rw[wq O] at e⊢;exact e|some g=>rw[KB O] at e;cases e
 |k+1,m,a,e=>by
  cases O:Y.g0 m with
  |none=>rw[wq O] at e⊢;exact e|some g=>
   rw[Fh_run O] at e⊢;cases U:Y.said (it Y (Fh Y k) Y.M g) with
   |none=>rw[U] at e;cases e|some v=>
    rw[Ax h (IO h k) U];exact e
def Aag (h:Y.Ok){k:Nat}(O:k<=j){a:om D}(e:Fh Y k m=u_ a):Fh Y j m=u_ a:=by
 erw[Vg O,d,rfl]
 induction d with
 |zero=>exact e|succ d U=>exact IO h _ _ _ (U ())
open Classical in
abbrev F (Y:Sy):Orc:=λm=>if h:∃a k,Fh Y k m=u_ a then u_ (choose h) else U_
def F_iff (h:Y.Ok){a:om D}:F Y m=u_ a↔∃k,Fh Y k m=u_ a:=by
 unfold F;constructor
 .intro e;by_cases c:∃a k,Fh Y k m=u_ a
  .rw[dif_pos c] at e;have:=Tc c;rwa[uO e] at this
  .rw[dif_neg c] at e;cases e
 .rintro⟨k,e⟩;let c:∃a k,Fh Y k m=u_ a:=[a:k:e];rw[dif_pos c];erw[Tc c,j,e2];let e3:=Aag h (Nat.le_max_left k j) e;let O:=Aag h (Nat.le_max_right k j) e2;rw[e3] at O;exact O.symm
def Aaq (h:Y.Ok){k:Nat}{a:om D}(e:Fh Y k m=u_ a):F Y m=u_ a:=(F_iff h).mpr [k:e]
def F_once (h:Y.Ok)(O:Y.g0 m=U_):F Y m=u_ (Y.once m):=Aaq h (wq O 0)
def Dh (h:Y.Ok)(g:Y.G):∃k,∀j,k<=j->step Y (Fh Y j) g=step Y (F Y) g:=by
 unfold step;by_cases U:Y.fin g=v_
 .exact⟨(0),λj _=>by rw[A6 U,A6 U]⟩
 .cases hw:Y.want g with
  |none=>exact[(0):λj _=>rfl]|some m=>
   cases O:F Y m with
   |some a=>
    erw[(F_iff h).mp O,k,e];exact⟨k,λj Z=>by simp![Aag h Z e,O]⟩
   |none=>
    exists (0),λj _=>?_;have:Fh Y j m=none:=by
     cases e:Fh Y j m with
     |none=>rfl|some a=>rw[Aaq h e] at O;cases O
    simp![this,O]
def EN (h:Y.Ok):∀(n:Nat) (g:Y.G),∃k,∀j,k<=j->it Y (Fh Y j) n g=it Y (F Y) n g
 |0,g=>[(0):λ_ _=>rfl]|n+1,g=>by
  erw[Dh h g,k1,h1];erw[EN h n (step Y (F Y) g),k2,h2];exists max k1 k2,λj O=>?_;show it Y (Fh Y j) n (step Y (Fh Y j) g)=it Y (F Y) n (step Y (F Y) g);rw[h1 j (),h2 j ()]
def F_run (h:Y.Ok){g:Y.G}(U:Y.g0 m=u_ g):F Y m=(Y.said (it Y (F Y) Y.M g)).map some:=by
 cases Z:Y.said (it Y (F Y) Y.M g) with
 |some v=>
  erw[EN h Y.M g,k,e];refine Aaq h (k:=k+1) ?_;rw[Fh_run U,e k (uq _),Z]
  rfl
 |none=>
  show F Y m=U_;cases e:F Y m with
  |none=>rfl|some a=>
   erw[(F_iff h).mp e,k,e];cases k with
   |zero=>rw[KB U] at e;cases e|succ k=>
    rw[Fh_run U] at e;cases O:Y.said (it Y (Fh Y k) Y.M g) with
    |none=>rw[O] at e;cases e|some v=>
     rw[<-Ax h (λm a q=>Aaq h q) O,Z] at O;cases O
abbrev Wt (Y:Sy)(n m:Str):Prop:=∃g k,Y.g0 n=u_ g/\Y.fin (it Y (F Y) k g)=Vi/\Y.want (it Y (F Y) k g)=u_ m
def C3 (h:Y.Ok){n:Str}(w:Wt Y n m){k:Nat}{a:om D}(e:Fh Y k n=u_ a):∃j b,j<k/\Fh Y j m=u_ b:=by
 erw[w,g,i,hg,hf,hw];cases k with
 |zero=>rw[KB hg] at e;cases e|succ k=>
  exists k;rw[Fh_run hg] at e;cases U:Y.said (it Y (Fh Y k) Y.M g) with
  |none=>rw[U] at e;cases e|some v=>
   let O:=h.sf _ _ U;let eM:=Ax h (f':=F Y) (λm a q=>Aaq h q) U;rcases Ay h (f:=Fh Y k) (f':=F Y) (λm a q=>Aaq h q) i g with ei|⟨ei,es⟩
   .rw[ei] at hf hw;cases hm:Fh Y k m with
    |some b=>exact[b:Va k:1]|none=>
     let e1:it Y (Fh Y k) (i+1) g=Y.stuck (it Y (Fh Y k) i g) m:=by
      rw[XF];unfold step;rw[hf,A4 ub,hw];simp![hm]
     let e2:Y.fin (it Y (Fh Y k) (i+1) g)=true:=by rw[e1];exact h.fs _ _
     rw[<-it_one e2 O,e1,h.ss] at U;cases U
   .let Z:it Y (Fh Y k) (i+Y.M) g=it Y (Fh Y k) i g:=by rw[Wr];exact ei _
    let e3:it Y (Fh Y k) (Y.M+i) g=it Y (Fh Y k) Y.M g:=by rw[Wr];exact ZT O i
    rw[<-e3,Nat.add_comm,Z,es] at U;cases U
inductive Wts (Y:Sy):Str->Str->Prop
 |one {n m:Str}:Wt Y n m->Wts Y n m
 |more {n m l:Str}:Wts Y n m->Wt Y m l->Wts Y n l
def IS (h:Y.Ok){n:Str}(w:Wts Y n m):∀{k:Nat}{a:om D},Fh Y k n=u_ a->∃j b,j<k/\Fh Y j m=u_ b:=by
 induction w with
 |one w=>exact λe=>C3 h w e|more _ w O=>
  intro k a e;erw[O e,j,b,Z,U];erw[C3 h w U,i,c,hi,e2];exact(i,c,(),e2)
def XQ (h:Y.Ok){n:Str}(w:Wts Y n n):F Y n=none:=by
 let O:∀k a,Fh Y k n≠u_ a:=by
  intro k
  induction k using Nat.strongRecOn with
  |_ k U=>
   intro a e;erw[IS h w e,j,b,Z,e1];exact U j Z b e1
 cases e:F Y n with
 |none=>rfl|some a=>
  erw[(F_iff h).mp e,k,e];exact A8 e (O k a)
structure Ss (Y:Sy) where
 stk:oj (Str×Y.G)
 don:oj (Str×Y.G)
abbrev Yn (l:oj (Str×Y.G))(m:Str):om Y.G:=(l.find? λp=>decide (p.1=m)).map (·.2)
abbrev yet (S:Ss Y)(m:Str):om (om (om D)):=if m>S.stk.map (·.1) then u_ U_ else match Y.g0 m with
 |none=>u_ (u_ (Y.once m))|some _=>(Yn S.don m).map λg=>(Y.said g).map u_
abbrev nxt (S:Ss Y):Ss Y:=match S.stk with
 | []=>S|(n,g)::r=>if Y.fin g=v_ then[r:S.don++ [(n,g)]] else match Y.want g with
  |none=>[(n,Y.own g)::r:S.don]|some m=>match yet S m with
   |some (u_ a)=>[(n,Y.tk g a)::r:S.don]|some U_=>[(n,Y.stuck g m)::r:S.don]|none=>match Y.g0 m with
    |some g'=>[(m,g')::(n,g)::r:S.don]|none=>S
abbrev nx (S:Ss Y):Nat->Ss Y
 |0=>S|k+1=>nxt (nx S k)
abbrev rest (S:Ss Y):oj Str:=Y.ns.filter λm=>decide (m∉S.stk.map (·.1))&&decide (m∉S.don.map (·.1))
abbrev lfts:oj (Str×Y.G)->Nat
 | []=>0|(_,g)::r=>Y.lft g+1+lfts r
abbrev mu (S:Ss Y):Nat:=lfts S.stk+(Y.M+2)*↑(rest S)
variable {S:Ss Y}
def jj (h:yet S m=U_):m∉S.stk.map (·.1)/\(∃g,Y.g0 m=u_ g)/\m∉S.don.map (·.1):=by
 unfold yet at h;by_cases c:m>S.stk.map (·.1)
 .rw[A6 c] at h;cases h
 .rw[A4 c] at h;cases O:Y.g0 m with
  |none=>rw[O] at h;cases h|some g=>
   rw[O] at h;simp![tQ] at h;exists c,[g:1],λhm=>?_;erw[Ae.mp hm,p,U,rfl];let h3:(S.don.find? λq=>decide (q.1=p.1))=none:=by simpa [Yn] using h
   rw[Uu] at h3;exact h3 p U (by simp)
variable {l:oj Str}
def qaq {p q:Str->Bool}(Z:m>l)(hp:p m=v_)(hq:q m=Vi)(O:∀x,q x=v_->p x=v_):↑(l.filter q)<↑(l.filter p):=by
 induction l with
 |nil=>cases Z|cons x r U=>
  let le:↑(r.filter q)<=↑(r.filter p):=by
   clear U Z
   induction r with
   |nil=>exact uq _|cons y r U=>
    rw[U0,U0];cases h1:q y with
    |true=>rw[O y h1,A6 rfl,A6 rfl];simp![uB];omega|false=>
     rw[A4 ub];split
     .simp![uB];omega
     .exact U
  rw[U0,U0];rcases Aa.mp Z with rfl|hm
  .rw[hp,hq,A6 rfl,A4 ub,uB];omega
  .have:=U hm;cases h1:q x with
   |true=>rw[O x h1,A6 rfl,A6 rfl];simp![uB];omega|false=>
    rw[A4 ub];split
    .simp![uB];omega
    .exact this
def nxt_mu (h:Y.Ok)(hs:S.stk≠ []):mu (nxt S)<mu S:=by
 erw[S,stk,don];cases stk with
 |nil=>exact A8 rfl hs|cons p r=>
  erw[p,n,g];let same:∀g',Y.lft g'<Y.lft g->mu (⟨(n,g')::r,don⟩:Ss Y)<mu ⟨(n,g)::r,don⟩:=by
   intro g' hl;show Y.lft g'+1+lfts r+(Y.M+2)*_<Y.lft g+1+lfts r+(Y.M+2)*_;let e:rest (⟨(n,g')::r,don⟩:Ss Y)=rest ⟨(n,g)::r,don⟩:=rfl;rw[e];omega
  unfold nxt;simp only;cases O:Y.fin g with
  |true=>
   rw[A6 rfl];show lfts r+(Y.M+2)*_<Y.lft g+1+lfts r+(Y.M+2)*_;let e:rest (⟨r,don++ [(n,g)]⟩:Ss Y)=rest ⟨(n,g)::r,don⟩:=by
    unfold rest
    congr 1
    funext x
    simp![ur,uw,U4,V1,uF,uI,uT,<-Bool.decide_and];rw[ve];constructor
    .rintro⟨a,b⟩;exact[λz=>z.elim (λz=>b (.inr z)) a:λz=>b (.inl z)]
    .rintro⟨a,b⟩;exact[λz=>a (.inr z):λz=>z.elim b λz=>a (.inl z)]
   rw[e];omega
  |false=>
   rw[A4 ub];cases hw:Y.want g with
   |none=>exact same _ (h.lo g O hw)|some m=>
    simp only;cases hy:yet ([(n,g)::r:don]:Ss Y) m with
    |some o=>
     cases o with
     |some a=>exact same _ (h.lt g m a O hw)|none=>exact same _ (h.lk g m O)
    |none=>
     simp only;erw[jj hy,h1,[g',U],h2];rw[U];show Y.lft g'+1+(Y.lft g+1+lfts r)+(Y.M+2)*↑(rest ([(m,g')::(n,g)::r:don]:Ss Y))<Y.lft g+1+lfts r+(Y.M+2)*↑(rest ([(n,g)::r:don]:Ss Y));let e:↑(rest (⟨(m,g')::(n,g)::r,don⟩:Ss Y))<↑(rest (⟨(n,g)::r,don⟩:Ss Y)):=by
      refine qaq (m:=m) (h.gn m g' U) ?_ ?_ ?_
      .simp![uG,vj];exact[h1:h2]
      .simp
      .intro x Z;simp![uG,vj] at Z⊢;exact[λz=>Z.1 (uh _ z):Z.2]
     let l0:=h.l0 m g' U;let e2:=Nat.mul_le_mul_left (Y.M+2) (Nat.succ_le_of_lt e);rw[Nat.mul_succ] at e2;omega
abbrev Chn (Y:Sy):oj (Str×Y.G)->Prop
 | []=>True|(n,g)::r=>(∃s k,Y.g0 n=u_ s/\g=it Y (F Y) k s)/\Chn Y r/\∀p r',r=p::r'->Y.fin p.2=Vi/\Y.want p.2=u_ n
structure SOk (n0:Str)(S:Ss Y):Prop where
 chn:Chn Y S.stk
 nd:(S.stk.map (·.1)++S.don.map (·.1)).Nodup
 don:∀p>S.don,∃s,Y.g0 p.1=u_ s/\p.2=it Y (F Y) Y.M s
 bot:(S.stk.map (·.1)).getLast? =u_ n0\/S.stk= []/\(S.don.map (·.1)).getLast? =u_ n0
def IA {n:Str}{g:Y.G}:∀{r:oj (Str×Y.G)}{m:Str},Chn Y ((n,g)::r)->m>r.map (·.1)->Wts Y m n:=by
 intro r
 induction r generalizing n g with
 |nil=>intro m _ h;cases h|cons p r ih=>
  intro m hc hm;erw[p,O,g'];erw[hc,_,U,c3];erw[c3 (O,g') r rfl,f1,w1];erw[U.1,s,k,hs,Z];let w:Wt Y O n:=(s,k,hs,by rwa[<-Z],by rwa[<-Z])
  rcases Aa.mp hm with rfl|hm
  .exact .one w
  .exact .more (ih U hm) w
def XZ {l:oj (Str×Y.G)}{g:Y.G}(h:Yn l m=u_ g):(m,g)>l:=by
 unfold Yn at h;cases e:l.find? λp=>decide (p.1=m) with
 |none=>rw[e] at h;cases h|some p=>
  rw[e] at h;cases uO h;have:=HR e;let hm:p.1=m:=uC this;rw[<-hm];exact Ui e
variable {n0:Str}
def AbC (h:Y.Ok)(hs:SOk n0 S):SOk n0 (nxt S):=by
 erw[S,stk,don];cases stk with
 |nil=>exact hs|cons p r=>
  erw[p,n,g];erw[hs,chn,nd,O,bot];erw[chn,[s,k,U,hk],c2,c3];let on:∀g',Y.fin g=Vi->step Y (F Y) g=g'->SOk n0 (⟨(n,g')::r,don⟩:Ss Y):=by
   intro g' hf e;exists [(s,k+1,U,?_):c2:c3],nd,O,.inl ?_
   .rw[XF,<-hk,e]
   .rcases bot with b|⟨b,_⟩
    .exact b
    .cases b
  unfold nxt;simp only;cases hf:Y.fin g with
  |true=>
   rw[A6 rfl];exists c2,?_,λq hq=>?_,?_
   .show(r.map (·.1)++(don++ [(n,g)]).map (·.1)).Nodup;let ac:(n::(r.map (·.1)++don.map (·.1))).Nodup:=nd;rw[ur,<-vw];show((r.map (·.1)++don.map (·.1))++ [n]).Nodup;exact(Uh (l₁:= [n]) (l₂:=r.map (·.1)++don.map (·.1))).nodup_iff.mp ac
   .rcases Ac.mp hq with hq|hq
    .exact O q hq
    .cases Ab.mp hq;exists s,U;show g=_;rw[hk];refine it_one (by rwa[<-hk]) (Wx h _ _ (h.l0 n s U))
   .rcases bot with b|⟨b,_⟩
    .cases r with
     |nil=>
      right;exists 1;let hn:n=n0:=by simpa using b
      show((don++ [(n,g)]).map (·.1)).getLast? =u_ n0;rw[ur,hn];simp
     |cons q r=>
      left
      simpa [UZ] using b
    .cases b
  |false=>
   rw[A4 ub];let aa:step Y (F Y) g=match Y.want g with
     |none=>Y.own g|some m=>match F Y m with
      |some a=>Y.tk g a|none=>Y.stuck g m:=by
    unfold step;rw[hf,A4 ub]
   cases hw:Y.want g with
   |none=>exact on _ hf (by rw[aa,hw])|some m=>
    rw[hw] at aa;simp only at aa⊢;cases Z:yet ([(n,g)::r:don]:Ss Y) m with
    |some o=>
     let hF:F Y m=o:=by
      unfold yet at Z;by_cases c:m>((n,g)::r).map (·.1)
      .rw[A6 c] at Z;cases Z;let w:Wt Y n m:=(s,k,U,by rwa[<-hk],by rwa[<-hk])
       rcases Aa.mp c with rfl|hm
       .exact XQ h (.one w)
       .exact XQ h (.more (IA (g:=g) [(s,k,U,hk):c2:c3] hm) w)
      .rw[A4 c] at Z;cases hg:Y.g0 m with
       |none=>
        rw[hg] at Z;cases Z;exact F_once h hg
       |some gm=>
        rw[hg] at Z;simp only at Z;cases hd:Yn don m with
        |none=>rw[hd] at Z;cases Z|some gd=>
         rw[hd] at Z;cases Z;erw[O _ (XZ hd),s',e1,e2];rw[hg] at e1;cases e1;let e3:gd=it Y (F Y) Y.M gm:=e2;rw[F_run h hg,e3]
     cases o with
     |some a=>exact on _ hf (by rw[aa,hF])|none=>exact on _ hf (by rw[aa,hF])
    |none=>
     simp only;erw[jj Z,h1,[g',hg],h2];rw[hg];exists [(g',(0),hg,1):[(s,k,U,hk):c2:c3]:λq r' e=>?_],?_,O,.inl ?_
     .cases e;exact[hf:hw]
     .show(m::(((n,g)::r).map (·.1)++don.map (·.1))).Nodup;rw[vW];exists λz=>?_,nd;rcases Ac.mp z with z|z
      .exact h1 z
      .exact h2 z
     .rcases bot with b|⟨b,_⟩
      .show(m::n::r.map (·.1)).getLast? =u_ n0;rwa[UZ]
      .cases b
def nx_ok (h:Y.Ok){n0:Str}{S:Ss Y}(O:SOk n0 S):∀k,SOk n0 (nx S k)
 |0=>O|k+1=>AbC h (nx_ok h O k)
def Ao {S:Ss Y}{k:Nat}(h:(nx S k).stk= []):∀j,nx S (k+j)=nx S k
 |0=>rfl|j+1=>by
  show nxt (nx S (k+j))=_;rw[Ao h j];unfold nxt;rw[h]
def nx_one {k:Nat}(O:(nx S k).stk= [])(U:(nx S j).stk= []):nx S k=nx S j:=by
 rcases TV k j with h|h
 .erw[Vg h,d,rfl];exact(Ao O d).symm
 .erw[Vg h,d,rfl];exact Ao U d
abbrev S0 (Y:Sy)(n:Str):Ss Y:=match Y.g0 n with
 |none=>[[]:[]]|some g=>[[(n,g)]:[]]
def S0_ok {n:Str}{g:Y.G}(O:Y.g0 n=u_ g):SOk n (S0 Y n):=by
 unfold S0;rw[O];exact(⟨(g,(0),O,1),trivial,λ_ _ e=>by cases e⟩,by simp,λ_ h=>(by cases h),.inl rfl)
end Sy
end K44
namespace K44
open PySem L2 PyProof.Rows
abbrev ThS (d:D):Prop:=(∃z,d=flt z)\/(∃e,d= .tup [-"said",e]/\isT e=v_)\/∃(u z:Str),d= .tup [-"asks",-[!u,!z]]/\isT (!z)=v_/\(u="names"\/(u="thing"\/u="has")/\nm z=v_)
def ET {d:D}(h:mQ d=v_):∃z,d= .str z/\nm z=true:=by
 cases d with
 |str z=>exact[z:1:h]|_=>cases h
variable {own:Str}{n:Nat}{r:Rw}{e:D}
def OX {B:Str->D}{p:Int}(hr:Jn n 300 r)(h:Tr B)(O:mM own r B p= .stop e):ThS e:=by
 unfold mM at O;erw[id hr,ks,hk,hp];erw[r,U,ps];by_cases c1:U>MKR
 .rw[A6 c1] at O;simp only at O;generalize made U B own ps=dm at O;let aa:(if isT dm=v_ then Out.go (Bm B (b0 ps) dm) (p+1) else .stop (flt "big"))= .stop e->ThS e:=by
   intro hq;by_cases c:isT dm=v_
   .rw[A6 c] at hq;cases hq
   .rw[A4 c] at hq;cases hq;exact .inl ⟨0⟩
  cases dm with
  |non=>cases O;exact .inl ⟨0⟩|_=>exact aa O
 rw[A4 c1] at O;by_cases c2:U>ASK
 .rw[A6 c2] at O;cases O;erw[Wf _ hk c2,_,_,ek];simp only at ek;subst ek;erw[W0 hp,z0,z1,rfl,h0,h1];let hT:=h z1 h1;show ThS (sP U (B z1));unfold sP;by_cases d1:U="names"
  .rw[A6 d1];by_cases Z:isStr (B z1)=v_
   .rw[A6 Z];obtain⟨z,ez⟩:∃z,B z1= !z:=by
     cases hb:B z1 with
     |str z=>exact[z:1]|_=>rw[hb] at Z;cases Z
    rw[ez] at hT⊢;exact .inr (.inr (_,z,1,hT,.inl rfl))
   .rw[A4 Z];exact .inl ⟨0⟩
  .rw[A4 d1];by_cases Z:mQ (B z1)=v_
   .rw[A6 Z];erw[ET Z,z,ez,hz];rw[ez] at hT⊢;refine .inr (.inr (_,z,1,hT,.inr [?_:hz]));split
    .exact .inl rfl
    .exact .inr rfl
   .rw[A4 Z];exact .inl ⟨0⟩
 rw[A4 c2] at O;by_cases c3:U="say"
 .rw[A6 c3] at O;cases O;subst c3;let ek:=AC _ hk rfl;simp only at ek;subst ek;erw[Ac7 hp,z0,rfl,h0];exact .inr (.inl [0:h z0 h0])
 rw[A4 c3] at O;by_cases c4:U="fault"
 .rw[A6 c4] at O;cases O;exact .inl ⟨0⟩
 rw[A4 c4] at O;by_cases c5:NC U B ps=v_
 .rw[A6 c5] at O;cases O
 .rw[A4 c5] at O;cases O
def wh {rs:oj Rw}{own:Str}(U:Q2 rs):∀(f:Nat) (B:Str->D) (p:Int) (n:Nat) (gs:oj D),Tr B->1<=p->p<=↑rs+1->ThS (mW rs own gs f B p n).th
 |0,B,p,n,gs,hT,h1,h2=>by
  show ThS (if GT.gt p ↑rs then flt "silent" else flt "long")
  split<;>exact .inl ⟨0⟩
 |f+1,B,p,n,gs,hT,h1,h2=>by
  unfold mW;by_cases c:GT.gt p ↑rs
  .rw[A6 c];exact .inl ⟨0⟩
  .rw[A4 c];let O:=U.ok _ (qak h1 ())
   let hok:=Ag (own:=own) O hT h1 ()
   cases Z:mM own (Jo rs p) B p with
   |go B' p'=>
    rw[Z] at hok;exact wh U f B' p' (n+1) gs hok.1 hok.2.1 hok.2.2
   |stop e=>exact OX O hT Z
variable {rs:oj Rw}
def IL (O:Q2 rs){r:Rn}{a:D}(h:CZ rs r)(U:QH r.th=v_)(ha:X4 a):ThS (mw rs own r a).th:=by
 erw[h.ask U,k1,_];unfold mw;cases hn:yZ a with
 |true=>rw[A6 rfl];exact .inl ⟨0⟩|false=>
  rw[A4 ub];let Z:isT a=true:=by
   rcases ha with rfl|ha
   .cases hn
   .exact ha
  exact wh O _ _ _ _ _ (qab h.tr Z) (by have:=h.p1;omega) ()
def Nd {rs:oj Rw}{own:Str}:∀(f:Nat) (B:Str->D) (p:Int) (n:Nat) (gs:oj D),QH (mW rs own gs f B p n).th=v_->1<=f/\n<=(mW rs own gs f B p n).n
 |0,B,p,n,gs,h=>by
  let h:QH (if GT.gt p ↑rs then flt "silent" else flt "long")=true:=h
  split at h<;>exact A8 h ()
 |f+1,B,p,n,gs,h=>by
  exists ()
  unfold mW at h⊢;by_cases c:GT.gt p ↑rs
  .rw[A6 c] at h;exact A8 h (show¬QH (flt "silent")=v_ by decide+kernel)
  .rw[A4 c] at h⊢;cases U:mM own (Jo rs p) B p with
   |go O p'=>
    rw[U] at h;have:=(Nd f O p' (n+1) gs h).2;show n<=(mW rs own gs f O p' (n+1)).n;omega
   |stop e=>
    show n<=(if QH e=v_ then n else n+1)
    split<;>omega
def Acm {r:Rn}{a:D}(h:QH (mw rs own r a).th=v_):r.n+1<300/\r.n+1<=(mw rs own r a).n:=by
 unfold mw at h⊢;cases hn:yZ a with
 |true=>rw[hn,A6 rfl] at h;exact A8 h (show¬QH (flt "lack")=v_ by decide+kernel)|false=>
  rw[hn,A4 ub] at h;rw[A4 ub];have:=Nd _ _ _ _ _ h;exact[():this.2]
structure Gp where
 n:Str
 mb:D
 ra:oj D
 run:om (oj Rw×Rn)
 en:om D
abbrev ny (r:Rn):om D:=if QH r.th=v_ then U_ else u_ r.th
abbrev mt (g:Gp)(d:D):Gp:=if yZ d=v_ then{g with en:=u_ (flt "lack")} else match QI d with
 |none=>{g with en:=u_ (flt "rule")}
 |some rs=>{g with run:=u_ (rs,R0 rs g.n),en:=ny (R0 rs g.n)}
abbrev QS (g:Gp)(d:D):Gp:=match g.run with
 |none=>mt {g with ra:= [-[-[-"rule",g.mb],d]]} d
 |some (rs,r)=>{g with run:=u_ (rs,mw rs g.n r d),en:=ny (mw rs g.n r d)}
abbrev yb (g:Gp):D:=match g.run with
 |none=>-[-"rule",g.mb]|some (_,r)=>xu r.th
abbrev xy (qs:oj (Str×D))(k z:Str):D:=if k="has" then .str (if z>qs.map (·.1) then "yes" else "no") else Cv (Bu [] ((qs.map (·.1)).filter λy=>GF y z))
abbrev ml (k:Str):Bool:=decide (k="has")||decide (k="names")
abbrev yk (g:Gp):om Str:=match yb g with
 | .tup [!k,!z]=>if ml k=v_ then U_ else u_ z|_=>U_
abbrev nw (qs:oj (Str×D))(g:Gp):Gp:=match yb g with
 | .tup [!k,!z]=>QS g (xy qs k z)|_=>{g with en:=u_ (flt "name")}
abbrev j3:D->om D
 | .tup [!k,v]=>if k="said" then u_ v else U_|_=>U_
abbrev xz (g:Gp):om D:=g.en.bind j3
abbrev Ld (g:Gp)(m:Str):Gp:={g with en:=u_ (-[-"stuck",!m])}
abbrev Aq (g:Gp):Nat:=match g.en with
 |some _=>0|none=>match g.run with
  |none=>302|some (_,r)=>1+(300-r.n)
abbrev g0D (m:Str):D->om Gp
 | .tup [!k,e]=>if k="leaf" then U_ else if k="made" then u_ (m,e,[],U_,U_) else u_ (mt (m,.non,[],U_,U_) e)|_=>U_
abbrev oH:D->om D
 | .tup [.str _,e]=>u_ e|_=>U_
abbrev SyP (qs:oj (Str×D)):Sy:=⟨Gp,λg=>g.en.isSome,yk,nw qs,λg a=>QS g (a.getD .non),Ld,xz,λm=>g0D m (qB qs m),λm=>oH (qB qs m),Aq,(302),qs.map (·.1)⟩
variable {g:Gp}
def EE (h:g.run=U_)(d:D):g.en=U_->Aq (mt g d)<302:=by
 intro O;unfold mt;split
 .show(0:Nat)<302;omega
 .cases U:QI d with
  |none=>show(0:Nat)<302;omega|some rs=>
   show(match ny (R0 rs g.n) with|some _=>0|none=>1+(300-(R0 rs g.n).n))<302
   cases ny (R0 rs g.n) with
   |some d=>show(0:Nat)<302;omega|none=>show(1+(300-(R0 rs g.n).n):Nat)<302;omega
def BO (O:g.en=U_)(d:D):Aq (QS g d)<Aq g:=by
 unfold QS;cases U:g.run with
 |none=>
  let e:Aq g=302:=by unfold Aq;rw[O,U]
  rw[e];exact EE (g:=(g.n,g.mb,[-[-[-"rule",g.mb],d]],U_,g.en)) rfl d O
 |some p=>
  erw[p,rs,r];let e:Aq g=1+(300-r.n):=by unfold Aq;rw[O,U]
  rw[e];show(match ny (mw rs g.n r d) with|some _=>0|none=>1+(300-(mw rs g.n r d).n))<_
  unfold ny;by_cases c:QH (mw rs g.n r d).th=v_
  .rw[A6 c];have:=Acm c;show 1+(300-(mw rs g.n r d).n)<1+(300-r.n);omega
  .rw[A4 c];show 0<1+(300-r.n);omega
variable {qs:oj (Str×D)}{z:Str}
def Yi (h:z∉qs.map (·.1)):qB qs z= .non:=by
 unfold qB;have:(qs.find? λp=>decide (p.1=z))=none:=by
  rw[Uu];intro p O e;exact h (Ae.mpr [p:O:uC e])
 rw[this]
 rfl
def Qs (qs:oj (Str×D)):(SyP qs).Ok where
 fs:=λ_ _=>rfl
 ss:=λg m=>by
  show j3 (-[-"stuck",!m])=U_;unfold j3;exact A4 ()
 sf:=λg v h=>by
  let h:xz g=u_ v:=h;unfold xz at h;show g.en.isSome=v_;cases O:g.en with
  |none=>rw[O] at h;cases h|some d=>rfl
 lo:=λg U Z=>by
  let O:g.en=none:=by
   cases O:g.en with
   |none=>rfl|some d=>have U:g.en.isSome=false:=U;rw[O] at U;cases U
  show Aq (nw qs g)<Aq g;unfold nw;split
  .exact BO O _
  .have:0<Aq g:=by
    unfold Aq;rw[O];simp only;split<;>omega
   exact this
 lt:=λg m a U Z=>by
  let O:g.en=none:=by
   cases O:g.en with
   |none=>rfl|some d=>have U:g.en.isSome=false:=U;rw[O] at U;cases U
  exact BO O _
 lk:=λg m U=>by
  let O:g.en=none:=by
   cases O:g.en with
   |none=>rfl|some d=>have U:g.en.isSome=false:=U;rw[O] at U;cases U
  show 0<Aq g;unfold Aq;rw[O];simp only;split<;>omega
 l0:=λm g h=>by
  let h:g0D m (qB qs m)=u_ g:=h;show Aq g<=302;unfold g0D at h;split at h
  .split at h
   .cases h
   .split at h
    .cases h;exact uq _
    .cases h;exact V7 (EE rfl _ rfl)
  .cases h
 gn:=λm g h=>by
  let h:g0D m (qB qs m)=u_ g:=h;show m>qs.map (·.1);by_cases c:m>qs.map (·.1)
  .exact c
  .rw[Yi c] at h;cases h
abbrev EnS (d:D):Prop:=(∃z,d=flt z)\/(∃e,d= .tup [-"said",e]/\isT e=v_)\/∃z,d=-[-"stuck",!z]
structure GI (g:Gp):Prop where
 n:nm g.n=v_
 run:∀rs r,g.run=u_ (rs,r)->Q2 rs/\CZ rs r/\ThS r.th/\(g.en=U_->QH r.th=v_)
 no:g.run=U_->g.en=U_->∃z,g.mb= .str z/\nm z=v_
 en:∀d,g.en=u_ d->EnS d
 ra:nL g.ra=v_/\dpL g.ra<=30/\↑g.ra<=1
def Ab8 {r:Rn}(h:ThS r.th){d:D}(e:ny r=u_ d):EnS d:=by
 unfold ny at e;by_cases c:QH r.th=v_
 .rw[A6 c] at e;cases e
 .rw[A4 c] at e;cases e;rcases h with h|h|⟨u,z,h,_⟩
  .exact .inl h
  .exact .inr (.inl h)
  .rw[h] at c;exact A8 (show decide (("asks":Str)="asks")=v_ from ug rfl) c
def Ij {r:Rn}(e:ny r=U_):QH r.th=true:=by
 unfold ny at e;by_cases c:QH r.th=v_
 .exact c
 .rw[A4 c] at e;cases e
def S9 {n:Str}(h:Q2 rs):ThS (R0 rs n).th:=wh h 300 B0 1 0 [] Aaj () (by have:=h.n0;omega)
def NI (d:D)(h1:nm g.n=v_)(h2:g.run=U_)(h3:nL g.ra=v_/\dpL g.ra<=30/\↑g.ra<=1):GI (mt g d):=by
 unfold mt;split
 .exact(h1,λrs r e=>(by rw[show g.run=u_ (rs,r) from e] at h2;cases h2),(λ_ e=>by cases e),λd e=>by cases e;exact .inl ⟨0⟩,h3)
 .cases U:QI d with
  |none=>exact(h1,λrs r e=>(by rw[show g.run=u_ (rs,r) from e] at h2;cases h2),(λ_ e=>by cases e),λd e=>by cases e;exact .inl ⟨0⟩,h3)|some rs=>
   let O:=(wA U).2;exact(h1,λZ r e=>by cases e;exact(O,MP O,S9 O,λe=>Ij e),λe _=>(by cases e),λd e=>Ab8 (S9 O) e,h3)
def AB (h:GI g)(U:g.en=U_){d:D}(ha:X4 d):GI (QS g d):=by
 unfold QS;cases Z:g.run with
 |none=>
  erw[h.no Z U,z,hz,_];refine NI d h.n rfl ?_;let O:nD d=v_/\dp d<=12:=by
   rcases ha with rfl|ha
   .exact⟨1,by simp[dp]⟩
   .exact[X9 (yl ha):Jh ha]
  rw[hz];exists ?_,?_,uq _
  .simp![nL,nD,O.1,U3]
  .simp![dpL,dp];have:=O.2;omega
 |some p=>
  erw[p,rs,r];erw[h.run rs r Z,k1,k2,k3,k4];let hs:=IL (own:=g.n) k1 k2 (k4 U) ha;exact(h.n,λaa r' e=>by cases e;exact(k1,AU k1 k2 (k4 U) ha,hs,λe=>Ij e),λe _=>(by cases e),λd e=>Ab8 hs e,h.ra)
def NH (h:GI g)(m:Str):GI (Ld g m):=(h.n,λrs r e=>((h.run rs r e).1,(h.run rs r e).2.1,(h.run rs r e).2.2.1,(λz=>by cases z)),(λ_ e=>by cases e),λd e=>by cases e;exact .inr (.inr [m:1]),h.ra)
def ot:∀(zs O:oj Str),isT (Cv O)=v_->isT (Cv (Bu O zs))=v_
 | [],O,h=>h|z::r,O,h=>by
  unfold Bu;split
  .rename_i c;exact ot r _ c
  .exact h
def wS (U:Qa qs){k:Str}(z:Str)(hk:ml k=v_):isT (xy qs k z)=v_/\AX k (xy qs k z)=true:=by
 unfold xy;by_cases c:k="has"
 .rw[A6 c,c];split<;>exact[():()]
 .rw[A4 c];let O:isT (Cv (Bu [] ((qs.map (·.1)).filter λy=>GF y z)))=true:=ot _ [] ()
  exists O;let Z:Mr (Cv (Bu [] ((qs.map (·.1)).filter λy=>GF y z)))=true:=by
   show List.all (T0 D.str _) mQ=v_;rw[Ub];intro x hx;erw[Ae.mp hx,y,hy,rfl];rcases Bt _ _ _ hy with h|h
   .cases h
   .exact U.1.1.1 y (List.mem_filter.mp h).1
  unfold AX;rw[A4 (show¬yZ (Cv _)=v_ from ub),A6 O,A4 c,Z,Bool.or_true]
def jN (h:GI g)(he:g.en=U_)(U:yk g=U_):∃rs r k z,g.run=u_ (rs,r)/\r.th= .tup [-"asks",-[!k,!z]]/\ml k=v_/\isT (!z)=v_/\nw qs g=QS g (xy qs k z):=by
 unfold yk at U;cases Z:g.run with
 |none=>
  erw[h.no Z he,z,hz,_];let e:yb g=-[-"rule",!z]:=by unfold yb;rw[Z,hz]
  rw[e] at U;simp![show ml "rule"=Vi by decide+kernel,A4 ub] at U
  cases U
 |some p=>
  erw[p,rs,r];erw[h.run rs r Z,k1,k2,k3,k4];let O:=k4 he;rcases k3 with⟨z,e⟩|⟨d,e,_⟩|⟨u,z,e,ht,hu⟩
  .rw[e] at O;exact A8 O (by show¬decide (("fault":Str)="asks")=v_;decide+kernel)
  .rw[e] at O;exact A8 O (by show¬decide (("said":Str)="asks")=v_;decide+kernel)
  .let e2:yb g=-[!u,!z]:=by unfold yb;rw[Z];show xu r.th=_;rw[e];rfl
   rw[e2] at U;simp only at U;cases hk:ml u with
   |false=>rw[hk,A4 ub] at U;cases U|true=>exact(rs,r,u,z,1,e,hk,ht,by unfold nw;rw[e2])
variable {m:Str}
def kr (h:GI g)(he:g.en=U_)(O:yk g=u_ m):nm m=v_/\((g.run=U_/\g.mb= !m)\/∃rs r,g.run=u_ (rs,r)/\r.th=-[-"asks",-[-"thing",!m]]):=by
 unfold yk at O;cases Z:g.run with
 |none=>
  erw[h.no Z he,z,hz,hn];let e:yb g=-[-"rule",!z]:=by unfold yb;rw[Z,hz]
  rw[e] at O;simp![show ml "rule"=Vi by decide+kernel,A4 ub] at O
  cases O;exact[hn:.inl [1:hz]]
 |some p=>
  erw[p,rs,r];erw[h.run rs r Z,k1,k2,k3,k4];let U:=k4 he;rcases k3 with⟨z,e⟩|⟨d,e,_⟩|⟨u,z,e,ht,hu⟩
  .rw[e] at U;exact A8 U (by show¬decide (("fault":Str)="asks")=v_;decide+kernel)
  .rw[e] at U;exact A8 U (by show¬decide (("said":Str)="asks")=v_;decide+kernel)
  .let e2:yb g=-[!u,!z]:=by unfold yb;rw[Z];show xu r.th=_;rw[e];rfl
   rw[e2] at O;simp only at O;rcases hu with rfl|⟨rfl|rfl,hn⟩
   .rw[A6 ()] at O;cases O
   .rw[A4 ()] at O
    cases O;exact[hn:.inr (rs,r,1,e)]
   .rw[A6 ()] at O;cases O
def E4 (U:Qa qs)(h:GI g)(O:g.en=U_)(Z:yk g=U_):GI (nw qs g):=by
 erw[jN (qs:=qs) h O Z,rs,r,k,z,_,_,hk,_,e];rw[e];exact AB h O (.inr (wS U z hk).1)
def Jg (U:Qa qs)(h:m>qs.map (·.1)):nm m=v_/\∃k e,qB qs m= .tup [!k,e]/\(k="made"->∃z,e= .str z/\nm z=v_)/\(k≠"made"->(k="leaf"\/k="rule")/\isT e=v_):=by
 let hs:=U.1.2 _ (SW U.1.1.2 h);erw[hs,[k,e,O],h2,_];let O:qB qs m=-[!k,e]:=O;let h2:si (qB qs m)=true:=h2;rw[O] at h2;let e1:si (-[!k,e])=if eqD (!k) (-"made")=v_ then mQ e else(eqD (!k) (-"leaf")||eqD (!k) (-"rule"))&&isT e:=rfl
 rw[e1] at h2;let Z:∀y:Str,eqD (!k) (!y)=decide (k=y):=λy=>rfl;rw[Z,Z,Z] at h2;exists U.1.1.1 m h,k,e,O,λc=>?_,λc=>?_
 .rw[ug c,A6 rfl] at h2;exact ET h2
 .rwa[uj c,A4 ub,uG,tJ,vj,vj] at h2
def Kr (U:Qa qs)(h:g0D m (qB qs m)=u_ g):GI g/\g.n=m:=by
 let hm:m>qs.map (·.1):=(Qs qs).gn m g h;erw[Jg U hm,hn,k,e,hd,h1,h2];rw[hd] at h;unfold g0D at h;simp only at h;let O:nL ([]:oj D)=v_/\dpL ([]:oj D)<=30/\↑([]:oj D)<=1:=⟨1,by simp[dpL],vc _⟩
 split at h
 .cases h
 .split at h
  .rename_i c
   cases h;erw[h1 c,z,rfl,hz];exact⟨(hn,λrs r e=>(by cases e),λ_ _=>[z:1:hz],λd e=>(by cases e),O),1⟩
  .cases h;exists NI e hn rfl O;unfold mt;split
   .rfl
   .split<;>rfl
def DF (h:GI g){v:D}(e:xz g=u_ v):isT v=true:=by
 unfold xz at e;cases O:g.en with
 |none=>rw[O] at e;cases e|some d=>
  rw[O] at e;let e:j3 d=u_ v:=e;rcases h.en d O with⟨z,rfl⟩|⟨x,rfl,U⟩|⟨z,rfl⟩
  .exact A8 e (by unfold j3 flt;simp only;rw[A4 ()];exact λh=>by cases h)
  .let e3:j3 (-[-"said",x])=u_ x:=by unfold j3;dsimp only;exact A6 rfl
   rw[e3] at e;cases e;exact U
  .exact A8 e (by unfold j3;simp only;rw[A4 ()];exact λh=>by cases h)
def Dc (g:Gp)(d:D):(QS g d).n=g.n:=by
 unfold QS;split
 .unfold mt;split
  .rfl
  .split<;>rfl
 .rfl
def Abr (qs:oj (Str×D))(g:Gp):(nw qs g).n=g.n:=by
 unfold nw;split
 .exact Dc _ _
 .rfl
abbrev SGI {qs:oj (Str×D)}(S:Sy.Ss (SyP qs)):Prop:=∀p:Str×Gp,p>S.stk\/p>S.don->GI p.2/\p.2.n=p.1
def MV (Z:Qa qs){S:Sy.Ss (SyP qs)}(h:SGI S){a:om D}(e:Sy.yet S m=u_ (u_ a)):X4 (a.getD .non):=by
 unfold Sy.yet at e;split at e
 .cases e
 .split at e
  .rename_i O
   cases e;let O:g0D m (qB qs m)=none:=O;show X4 ((oH (qB qs m)).getD .non);by_cases hm:m>qs.map (·.1)
   .erw[Jg Z hm,hn,k,e,hd,h1,h2];rw[hd] at O⊢;unfold g0D at O;simp only at O;by_cases c:k="leaf"
    .exact .inr (h2 (by rw[c];decide+kernel)).2
    .rw[A4 c] at O;split at O<;>cases O
   .rw[Yi hm];exact .inl rfl
  .cases hd:Sy.Yn S.don m with
   |none=>rw[hd] at e;cases e|some g=>
    rw[hd] at e;let e:(xz g).map u_=u_ a:=uO e;cases U:xz g with
    |none=>rw[U] at e;cases e|some v=>
     rw[U] at e;cases e;exact .inr (DF (h (m,g) (.inr (Sy.XZ hd))).1 U)
def Et (hq:Qa qs){S:Sy.Ss (SyP qs)}(h:SGI S):SGI (Sy.nxt S):=by
 erw[S,stk,don];cases stk with
 |nil=>exact h|cons p r=>
  erw[p,n,g];erw[h (n,g) (.inl ui),U,hn];let on:∀g':Gp,GI g'->g'.n=n->SGI #[Y,(n,g')::r,don]:=by
   intro g' h1 h2 p O;rcases O with O|O
   .rcases Aa.mp O with rfl|O
    .exact[h1:h2]
    .exact h p (.inl (uh _ O))
   .exact h p (.inr O)
  unfold Sy.nxt;simp only;by_cases hf:(SyP qs).fin g=v_
  .rw[A6 hf];intro p O;rcases O with O|O
   .exact h p (.inl (uh _ O))
   .rcases Ac.mp O with O|O
    .exact h p (.inr O)
    .cases Ab.mp O;exact[U:hn]
  .rw[A4 hf];let Z:Gp.en g=none:=by
    cases Z:Gp.en g with
    |none=>rfl|some d=>exact A8 (show(Gp.en g).isSome=v_ by rw[Z];rfl) hf
   cases hw:(SyP qs).want g with
   |none=>exact on _ (E4 hq U Z hw) ((Abr qs g).trans hn)|some m=>
    simp only;cases hy:Sy.yet #[Y,(n,g)::r,don] m with
    |some o=>
     cases o with
     |some a=>exact on _ (AB U Z (MV hq h hy)) ((Dc _ _).trans hn)|none=>exact on _ (NH U m) hn
    |none=>
     erw[Sy.jj hy,_,[g',e],_];simp only;rw[e];intro p O;rcases O with O|O
     .rcases Aa.mp O with rfl|O
      .exact Kr hq e
      .exact h p (.inl O)
     .exact h p (.inr O)
structure Oc where
 (x dx px ls du dr df:o3)
abbrev ofs (o:Oc):oj (Str×V):= [("given_project",-o.px),("stack",-o.ls),("under_way",-o.du),("full_runs",-o.dr),("found",-o.df)]
abbrev OMT:oj Str:= ["go_through","enter","settle","runner","leave","go_on","answer_yet","begin_anew"]
def Sd (o:Oc):(ofs o).lookup ("given_project":Str)=u_ (-o.px):=rfl
def Ma (o:Oc):(ofs o).lookup ("stack":Str)=u_ (-o.ls):=rfl
def Sb (o:Oc):(ofs o).lookup ("under_way":Str)=u_ (-o.du):=rfl
def Mb (o:Oc):(ofs o).lookup ("full_runs":Str)=u_ (-o.dr):=rfl
def Md (o:Oc):(ofs o).lookup ("found":Str)=u_ (-o.df):=rfl
def wI (o:Oc):∀m>OMT,(ofs o).lookup m=none:=by
 intro m hm;simp![OMT,uF,uI,uT] at hm;rcases hm with rfl|rfl|rfl|rfl|rfl|rfl|rfl|rfl<;>rfl
structure Kp (L:oj o3)(H H':Hp):Prop where
 kept:∀b ob,H b=u_ ob->b∉L->H' b=u_ ob
 tk:Tk H H'
variable {L:oj o3}{H H':Hp}
def Kp.of (s:ic H H'):Kp L H H':=[λb ob h _=>s b ob h:s.tk]
variable {H1 H2:Hp}
def Kp.trans (h:Kp L H H1)(k:Kp L H1 H2):Kp L H H2:=[λb ob e n=>k.kept b ob (h.kept b ob e n) n:h.tk.trans k.tk]
variable {p:o3}
def Kp.updD {xs ys:oj (Key×V)}(h:H p=u_ (.dK xs))(O:p>L):Kp L H (upd H p (.dK ys)):=⟨λb ob e n=>by have nb:b≠p:=(λz=>n (by rwa[z]));rwa[qj nb],Tk.updD h⟩
def wF {κ:Type}[DecidableEq κ](k j:κ):∀kvs:oj (κ×V),iV (J8 kvs k) j=if j=k then U_ else iV kvs j
 | []=>by show U_=_;split<;>rfl|p::r=>by
  by_cases c:p.1=k
  .rw[Il c,wF k j r];by_cases d:j=k
   .rw[A6 d,A6 d]
   .rw[A4 d,A4 d,QJ (λz=>d (z.symm.trans c))]
  .rw[Im c];by_cases d:p.1=j
   .rw[QW d,A4 (λz=>c (d.trans z)),QW d]
   .rw[QJ d,wF k j r,QJ d]
variable {C:o3}
def QT.kp {x:o3}(h:QT C H x qs)(k:Kp L H H')(U:∀p>L,(∃xs,H p=u_ (.lst xs))\/(∃xs,H p=u_ (.dK xs))\/H p=U_):QT C H' x qs:=by
 erw[h,dx,d,o,vs,O,e2,e3,Z];let n1:x∉L:=λz=>by rcases U x z with⟨_,e⟩|⟨_,e⟩|e<;>rw[e] at O<;>cases O
 let n2:d∉L:=λz=>by rcases U d z with⟨_,e⟩|⟨_,e⟩|e<;>rw[e] at e2<;>cases e2
 exact(dx,d,o,vs,k.kept _ _ O n1,k.kept _ _ e2 n2,e3,Z.mono k.tk)
structure OAt (CO CP:o3)(H:Hp)(o:Oc)(qs:oj (Str×D)):Prop where
 e:H o.x=u_ (.ins CO o.dx (ofs o))
 p:QT CP H o.px qs
def OAt.kp {CO CP:o3}{o:Oc}(h:OAt CO CP H o qs)(k:Kp L H H')(O:∀p>L,(∃xs,H p=u_ (.lst xs))\/(∃xs,H p=u_ (.dK xs))\/H p=U_):OAt CO CP H' o qs:=by
 exists k.kept _ _ h.e (λz=>?_),h.p.kp k O;let U:=h.e;rcases O o.x z with⟨_,e⟩|⟨_,e⟩|e<;>rw[e] at U<;>cases U
abbrev S6 {qs:oj (Str×D)}(S:Sy.Ss (SyP qs))(uk:oj (Key×V)):Prop:=∀m:Str,(iV uk (Vl m)).isSome=decide (m>S.stk.map (·.1))
abbrev C0 {qs:oj (Str×D)}(H:Hp)(S:Sy.Ss (SyP qs))(fk:oj (Key×V)):Prop:=∀(m:Str) (g:Gp),g0D m (qB qs m)=u_ g->
 (∀g':Gp,Sy.Yn S.don m=u_ g'->∃v,iV fk (Vl m)=u_ v/\Is H (QE (g'.en.getD .non)) v)/\(Sy.Yn S.don m=U_->iV fk (Vl m)=U_)
def C0.mono {S:Sy.Ss (SyP qs)}{fk:oj (Key×V)}(h:C0 H S fk)(t:Tk H H'):C0 H' S fk:=λm g O=>⟨λg' e=>let⟨v,a,b⟩:=(h m g O).1 g' e;[v:a:b.mono t],(h m g O).2⟩
abbrev MN:om (om D)->D->Prop
 |some (u_ v),d=>d=-[-"value",v]|some U_,d=>d=-[-"lack"]|none,d=>∃k r,d= .tup (.str k::r)/\k≠"value"/\k≠"lack"
abbrev nrg (d:D):Prop:=∃k r,d= .tup (.str k::r)/\(k="value"\/k="lack"\/k="fault"\/k="stuck")
abbrev Acl (qs:oj (Str×D))(don:oj (Str×Gp))(m:Str):D:=match g0D m (qB qs m) with
 |none=>yL (qB qs m)|some _=>QE (((Sy.Yn (Y:=SyP qs) don m).bind λg:Gp=>g.en).getD .non)
abbrev AY {qs:oj (Str×D)}(H:Hp)(S:Sy.Ss (SyP qs))(m:Str)(v:V):Prop:=match Sy.yet S m with
 |none=>v= .non|some o=>∃d,Is H d v/\MN o d/\(m∉S.stk.map (·.1)->nrg d/\d=Acl qs S.don m)
inductive AaU (CO CP:Addr):Sp
 |mk (o:Oc)(m:Str)(qs:List (Str×D))(S:Sy.Ss (SyP qs))(uk fk:List (Key×V))(_:vs= [-o.x,!m])(_:OAt CO CP H o qs)(_:Qa qs)(_:SGI S)(_:H o.du=u_ (.dK uk))(_:S6 S uk)(_:H o.df=u_ (.dK fk))(_:C0 H S fk)(_:↑fk<=100000)(_:(∀p>S.don,(SyP qs).fin p.2=v_))(_:∀(v:V)(H':Hp)(fk':List (Key×V)),Kp [o.df] H H'->H' o.df=u_ (.dK fk')->C0 H' S fk'->↑fk'<=↑fk+1->(Sy.yet S m=U_->↑fk'=↑fk)->AY H' S m v->Q v H')
inductive Dz (CO:Addr):Sp
 |mk (x dx px:Addr)(_:vs= [-x,-px])(_:H x=u_ (.ins CO dx []))(_:∀(o:Oc)(H':Hp),o.x=x->o.dx=dx->o.px=px->(∀b ob,H b=u_ ob->b≠x->H' b=u_ ob)->Tk H H'->H o.ls=U_->H o.du=U_->H o.dr=U_->H o.df=U_-> [o.ls,o.du,o.dr,o.df].Nodup->H' x=u_ (.ins CO dx (ofs o))->H' o.ls=u_ (.lst [])->H' o.du=u_ (.dK [])->H' o.dr=u_ (.dK [])->H' o.df=u_ (.dK [])->Q .non H')
inductive Ll:Sp
 |mk (x:_)(y:_)(_:vs= [x,y])(_:Q .non H)
def LN (O:Qa qs)(h:g0D m (qB qs m)=U_):∃k,yL (qB qs m)= .tup k/\MN (u_ (oH (qB qs m))) (¬k)/\nrg (¬k):=by
 by_cases hm:m>qs.map (·.1)
 .erw[Jg O hm,hn,k,e,hd,h1,h2];rw[hd] at h⊢;unfold g0D at h;simp only at h;by_cases c:k="leaf"
  .exists [-"value",e],?_,1,[_:0:.inl rfl];unfold yL;simp only;exact A6 c
  .rw[A4 c] at h;split at h<;>cases h
 .rw[Yi hm];exact[0:1:[_:0:.inr (.inl rfl)]]
def Pn (O:Qa qs)(h:g0D m (qB qs m)=u_ g):yL (qB qs m)= .non:=by
 erw[Jg O ((Qs qs).gn m g h),hn,k,e,hd,h1,h2];rw[hd] at h⊢;unfold g0D at h;simp only at h;by_cases c:k="leaf"
 .rw[A6 c] at h;cases h
 .unfold yL;simp only;exact A4 c
def Ack (h:GI g)(Z:g.en.isSome=v_):MN ((xz g).map u_) (QE (g.en.getD .non)):=by
 cases U:g.en with
 |none=>rw[U] at Z;cases Z|some d=>
  unfold xz;rw[U];show MN ((j3 d).map u_) (QE d);rcases h.en d U with⟨z,rfl⟩|⟨x,rfl,hx⟩|⟨z,rfl⟩
  .let O:j3 (flt z)=none:=by unfold j3 flt;dsimp only;exact A4 ()
   let e2:QE (flt z)=flt z:=by unfold QE flt;dsimp only;exact A4 ()
   rw[O,e2];exact("fault",[!z],1,(),())
  .let O:j3 (-[-"said",x])=u_ x:=by unfold j3;dsimp only;exact A6 rfl
   let e2:QE (-[-"said",x])=-[-"value",x]:=by unfold QE;dsimp only;exact A6 rfl
   rw[O,e2];exact rfl
  .let O:j3 (-[-"stuck",!z])=none:=by unfold j3;dsimp only;exact A4 ()
   let e2:QE (-[-"stuck",!z])=-[-"stuck",!z]:=by unfold QE;dsimp only;exact A4 ()
   rw[O,e2];exact("stuck",[!z],1,(),())
def S5 (h:GI g)(O:g.en.isSome=v_):nrg (QE (g.en.getD .non)):=by
 cases U:g.en with
 |none=>rw[U] at O;cases O|some d=>
  show nrg (QE d);rcases h.en d U with⟨z,rfl⟩|⟨x,rfl,Z⟩|⟨z,rfl⟩
  .let e2:QE (flt z)=flt z:=by unfold QE flt;dsimp only;exact A4 ()
   rw[e2];exact[_:0:.inr (.inr (.inl rfl))]
  .let e2:QE (-[-"said",x])=-[-"value",x]:=by unfold QE;dsimp only;exact A6 rfl
   rw[e2];exact[_:0:.inl rfl]
  .let e2:QE (-[-"stuck",!z])=-[-"stuck",!z]:=by unfold QE;dsimp only;exact A4 ()
   rw[e2];exact[_:0:.inr (.inr (.inr rfl))]
section
variable {P:o9}{w:og}{K:o0}{mg:Str->om o6}{base:o8}{a:Ad}{g:Ga}
def LW:#[T,1,a.ja,a.je,["self","going"],Ll]:=by
 exists 9,T.lq,Xf,O
 erw[h,x,y,rfl,q];exists 3,%[|O8]
 exact q
def Sa:#[T,1,a.yQ,a.yF,["self","project"],(Dz a.qr)]:=by
 exists 9,T.iA,jC
 erw[h,x,dx,px,rfl,hx,q];let hs:=uE;exists 3,%[#[Qh,pv 1],#[Qh,#[Q0,qd]],#[Qh,xo],#[Qh,xo]|#[Qh,xo]]
 exists 0,0,x,_,dx,0,hx,T.qx,T.Qf,()
 exists (sml rfl),λl1 h1=>?_;let n1:x≠l1:=qk qg h1
 exists 5
 refine(0,x,_,dx,0,(qj n1).trans qg,T.qx,T.QF,by show 1<1000;decide,?_)
 intro l2 h2;let U:x≠l2:=qk qg h2
 exists 5
 refine(0,x,_,dx,0,(qj U).trans qg,T.qx,T.Qy,by show 2<1000;decide,?_)
 intro Z h3;let n3:x≠Z:=qk qg h3
 exists 5
 refine(0,x,_,dx,0,(qj n3).trans qg,T.qx,T.Qg,by show 3<1000;decide,?_)
 intro l4 h4;let n4:x≠l4:=qk qg h4
 exists 5
 refine(0,x,_,dx,0,(qj n4).trans qg,T.qx,T.QG,by show 4<1000;decide,?_)
 rw[qj n1.symm] at h1;let O:l2≠l1:=λz=>by rw[z,qj n1.symm,qg] at h2;cases h2
 let k2:H l2=none:=by rwa[qj U.symm,qj O,qj U.symm] at h2
 let aa:Z≠l2:=λz=>by rw[z,qj U.symm,qg] at h3;cases h3
 let ac:Z≠l1:=λz=>by rw[z,qj n1.symm,qj O.symm,qj n1.symm,qg] at h3;cases h3
 let k3:H Z=none:=by rwa[qj n3.symm,qj aa,qj n3.symm,qj ac,qj n3.symm] at h3
 let ad:l4≠Z:=λz=>by rw[z,qj n3.symm,qg] at h4;cases h4
 let ae:l4≠l2:=λz=>by rw[z,qj U.symm,qj aa.symm,qj U.symm,qg] at h4;cases h4
 let af:l4≠l1:=λz=>by rw[z,qj n1.symm,qj ac.symm,qj n1.symm,qj O.symm,qj n1.symm,qg] at h4;cases h4
 let k4:H l4=none:=by rwa[qj n4.symm,qj ad,qj n4.symm,qj ae,qj n4.symm,qj af,qj n4.symm] at h4
 let kp:∀b ob,H b=u_ ob->b≠x->(upd (upd (upd (upd (upd (upd (upd (upd (upd H x (.ins a.qr dx (iK "given_project" (V.ref px) []))) l1 (.lst [])) x (.ins a.qr dx (iK "stack" (V.ref l1) (iK "given_project" (V.ref px) [])))) l2 (.dK [])) x (.ins a.qr dx (iK "under_way" (V.ref l2) (iK "stack" (V.ref l1) (iK "given_project" (V.ref px) []))))) Z (.dK [])) x (.ins a.qr dx (iK "full_runs" (V.ref Z) (iK "under_way" (V.ref l2) (iK "stack" (V.ref l1) (iK "given_project" (V.ref px) [])))))) l4 (.dK [])) x (.ins a.qr dx (iK "found" (V.ref l4) (iK "full_runs" (V.ref Z) (iK "under_way" (V.ref l2) (iK "stack" (V.ref l1) (iK "given_project" (V.ref px) []))))))) b=u_ ob:=λb ob h nb=>by
  rwa[qj nb,qj (qk h k4),qj nb,qj (qk h k3),qj nb,qj (qk h k2),qj nb,qj (qk h h1),qj nb]
 refine q (x,dx,px,l1,l2,Z,l4) _ rfl rfl rfl kp ?_ h1 k2 k3 k4 ?_ ?_ ?_ ?_ ?_ ?_
 .exists 5
  refine[λb xs e=>kp b _ e (λz=>?_):λb xs e=>[xs:kp b _ e (λz=>?_)]:λb xs e=>[xs:kp b _ e (λz=>?_)]]<;>(rw[z,hx] at e;cases e)
 .simp![vW,uF,uI,uT,Vc,V6,vI,and_true];exact[[O.symm:ac.symm:af.symm]:[aa.symm:ae.symm]:ad.symm]
 .exact qg
 .rw[qj n1.symm,qj af.symm,qj n1.symm,qj ac.symm,qj n1.symm,qj O.symm,qj n1.symm];exact qg
 .rw[qj U.symm,qj ae.symm,qj U.symm,qj aa.symm,qj U.symm];exact qg
 .rw[qj n3.symm,qj ad.symm,qj n3.symm];exact qg
 .rw[qj n4.symm];exact qg
def LS:#[T,2,a.Yh,a.ju,["self","project"],(Dz a.qr)]:=by
 let U:=#[Sa,T];exists 9,T.lQ,zu,Z
 erw[h,x,dx,px,rfl,O,q];exists 3,%[|#[qZ,#[Qk,20,pv 0,T.qx,T.iA.h,U,Z.mono (),T.iA.b,.nil,qz,#v[pv 1],_,_,_]]]
 exact(0,x,dx,0,O,1,0,x,dx,px,1,O,q)
def D9:#[T,2,a.yK,a.yJ,["self","name"],(AaU a.qr a.qE)]:=by
 let qO:=#[Yd,T];let Q3:=#[Al,T];exists 9,T.im,yy
 erw[h,o,m,qs,S,uk,fk,rfl,hO,hq,hG,ac,hU,aa,hF,hl,Z,k];let hs:=uE;exists 3,%[#[qH,#[WX,#[pc_din,QR hr,pv 1,#[qP,5,pv 0,rfl]]],%[|#[qm,#[qI,#v[ql]]]],qt],#[qF,(2),yy.nd,#[qq,Q3,T.io,#v[#[Qk,#[qP,5,pv 0,rfl],T.Q4,T.ig,qO,#v[pv 1]]]]],#[qH,#[qp,Ju,pv 2,qR,qw _],%[|#[JT,#[qP,5,pv 0,rfl],pv 1,pv 2]],qt]|#[qm,#[KR,7,QR hr,#[qP,5,pv 0,rfl],pv 1,(1,1,1,1)]]]
 exists 0,0,o.x,_,o.dx,_,0,hO.e,T.qx,T.Qy,Sb o,o.du,0,mO.k (k:=Vl m) ac,0;rw[hU m];by_cases c:m>S.stk.map (·.1)
 .let ey:Sy.yet S m=u_ none:=by unfold Sy.yet;rw[A6 c]
  refine lC (ug c) [(sml rfl):λt ht=>?_];let s1:=qf ht (-[V.str "ring"]);refine k _ _ fk (Kp.of s1) (s1 _ _ aa) (hF.mono s1.tk) (Hz _) (λ_=>rfl) ?_;unfold AY;rw[ey];exact(_,Is.new (ds:= [-"ring"]) (_,0,yU (),1) ht,("ring",[],1,(),()),λz=>A8 c z)
 refine iO (uj c) ?_
 exists 0,o.x,_,o.dx,_,0,hO.e,T.qx,T.Qf,Sd o;erw[id hO.p,ad,dp,op,ah,hx,hd,hk,hv]
 exists o.px,ad,0,hx,yA,0,o.px,m,qs,1,hO.p,λv h1 h2=>?_;let ae:Is H (qB qs m) v:=by
  by_cases cm:m>qs.map (·.1)
  .exact h1 cm
  .rw[h2 cm,Yi cm];exact rfl
 exists v,qB qs m,1,ae,?_,λu H1 s1 hu=>?_
 .by_cases cm:m>qs.map (·.1)
  .erw[Jg hq cm,_,k,e,hd,_];exact .inr [k:e:hd]
  .exact .inl (Yi cm)
 let O:=s1 _ _ aa
 exists 0,1,0;cases hg:g0D m (qB qs m) with
 |none=>
  erw[LN hq hg,l,e1,e2,e3];rw[e1] at hu;let af:u≠ .non:=jQ hu (by intro z;cases z)
  let ey:Sy.yet S m=u_ (u_ (oH (qB qs m))):=by have U:=hg;unfold Sy.yet;rw[A4 c,show(SyP qs).g0 m=_ from U];rfl
  refine lC (by simp[af]) ?_
  let kp:Kp [o.df] H (upd H1 o.df (.dK (lW fk (Vl m) u))):=(Kp.of s1).trans (Kp.updD O ui)
  exists 0,0,o.x,_,o.dx,_,0,s1 _ _ hO.e,T.qx,T.QG,Md o,0,o.df,0,IP.k (k:=Vl m) O ()
  let ag:=hO.kp kp (by intro p hp;cases Ab.mp hp;exact .inr (.inl [_:aa]))
  exists 0,o.x,_,o.dx,_,0,ag.e,T.qx,T.QG,Md o,o.df,1,.inl [_:.inl qg],0,_,mO.k (k:=Vl m) qg;rw[zc,A6 rfl];refine k _ _ _ kp qg ?_ (yp _ _ _) (λz=>by rw[ey] at z;cases z) ?_
  .intro m' g' U;rw[zc,A4 (λz=>by injection z with z;rw[z,hg] at U;cases U)]
   exact(hF.mono kp.tk) m' g' U
  .unfold AY;rw[ey];exact(_,(hu.mono (Tk.updD O)),e2,λ_=>⟨e3,by unfold Acl;rw[hg];exact e1.symm⟩)
 |some g=>
  rw[Pn hq hg] at hu;cases(show u= .non from hu)
  refine iO (by simp) ?_
  exists 0,o.x,_,o.dx,_,0,s1 _ _ hO.e,T.qx,T.QG,Md o,o.df,1,.inl [_:.inl O],0,_,mO.k (k:=Vl m) O;refine k _ _ fk (Kp.of s1) O (hF.mono s1.tk) (Hz _) (λ_=>rfl) ?_;let ey:Sy.yet S m=(Sy.Yn S.don m).map λg=>(xz g).map some:=by have U:=hg;unfold Sy.yet;rw[A4 c,show(SyP qs).g0 m=_ from U];rfl
  erw[hF m g hg,f1,f2];unfold AY;rw[ey];cases hd:Sy.Yn S.don m with
  |none=>
   rw[f2 hd];exact rfl
  |some g'=>
   erw[f1 g' hd,y,e1,e2];rw[e1];exact(_,e2.mono s1.tk,Ack (hG (m,g') (.inr (Sy.XZ hd))).1 (Z (m,g') (Sy.XZ hd)),λ_=>⟨S5 (hG (m,g') (.inr (Sy.XZ hd))).1 (Z (m,g') (Sy.XZ hd)),by unfold Acl;rw[hg,hd];rfl⟩)
structure nG (g:Gc)(s:Gs)(p:Gp):Prop where
 n:g.n=p.n
 mb:s.mb=p.mb
 ra:s.ra=p.ra
 run:(s.run.map λq=>(q.1.rs,q.2))=p.run
 own:∀mc r,s.run=u_ (mc,r)->mc.own=g.n
 en:s.en=p.en.getD .non
abbrev Aal:om (Mc×Rn)->oj o3
 |none=> []|some (mc,_)=> [mc.x,mc.db,mc.dg]
abbrev plc (g:Gc)(s:Gs):oj o3:=g.x::Aal s.run
def nG.none {g:Gc}{s:Gs}{p:Gp}(h:nG g s p)(e:p.run=U_):s.run=none:=by
 have:=h.run;rw[e] at this;cases O:s.run with
 |none=>rfl|some q=>rw[O] at this;cases this
def nG.some {g:Gc}{s:Gs}{p:Gp}(h:nG g s p){rs:oj Rw}{r:Rn}(e:p.run=u_ (rs,r)):∃mc:Mc,s.run=u_ (mc,r)/\mc.rs=rs/\mc.own=g.n:=by
 have:=h.run;rw[e] at this;cases O:s.run with
 |none=>rw[O] at this;cases this|some q=>
  erw[q,mc,r'];rw[O] at this;cases this;exact(mc,1,1,h.own mc r' O)
variable {CM:o3}
def mj.frame {g:Gc}{s:Gs}(h:mj C CM H g s)(O:∀b>plc g s,∀ob,H b=u_ ob->H' b=u_ ob)(t:Tk H H'):mj C CM H' g s:=by
 erw[h,dx,fs,mv,av,rv,ev,e,f,i,j,k,l];exists dx,fs,mv,av,rv,ev,O _ ui _ e,f,i.mono t,j.mono t,?_,l.mono t;cases U:s.run with
 |none=>rwa[U] at k|some q=>
  erw[q,mc,r];let hp:plc g s= [g.x,mc.x,mc.db,mc.dg]:=by unfold plc Aal;rw[U]
  rw[hp] at O;rw[U] at k;erw[k,k1,k2,dm,fm,Z,ru,tv,gv,em,aa,i1,i2,[bf,ib,jb],i4,i5,i6];exact(k1,k2,dm,fm,Z,ru,tv,gv,O _ (by simp) _ em,aa,i1.mono t,i2.mono t,⟨bf,O _ (by simp) _ ib,λz hz=>(jb z hz).mono t⟩,O _ (by simp) _ i4,i5.mono t,i6.mono t)
def mj.there {g:Gc}{s:Gs}(h:mj C CM H g s):∀b>plc g s,∃ob,H b=u_ ob:=by
 erw[h,dx,fs,mv,av,rv,ev,e,f,i,j,k,l];intro b O;rcases Aa.mp O with rfl|O
 .exact[_:e]
 .cases U:s.run with
  |none=>rw[U] at O;cases O|some q=>
   erw[q,mc,r];rw[U] at O k;erw[k,k1,k2,dm,fm,Z,ru,tv,gv,em,aa,i1,i2,[bf,ib,jb],i4,i5,i6];simp![Aal,uF,uI,uT] at O;rcases O with rfl|rfl|rfl
   .exact[_:em]
   .exact[_:ib]
   .exact[_:i4]
def II {g:Gc}{d:D}{s s':Gs}{p:Gp}(b:MT H g d s s')(h:nG g s p)(U:p.run=U_)(he:p.en=U_):nG g s' (mt p d)/\∀c>plc g s',c=g.x\/H c=none:=by
 let hr:=h.none U;let Z:s.en= .non:=by rw[h.en,he];rfl
 let nil:s'.run=U_->∀c>plc g s',c=g.x\/H c=none:=λe c O=>by
  unfold plc at O;rw[e] at O;rcases Aa.mp O with z|z
  .exact .inl z
  .cases z
 unfold mt;by_cases c:d= .non
 .erw[b.lack c,b1,b2];rw[A6 (by rw[c];rfl)]
  exact⟨(h.n,b.mb.trans h.mb,b.ra.trans h.ra,(by show _=p.run;rw[b1,U];rfl),(λmc r e=>by rw[b1] at e;cases e),b2),nil b1⟩
 .rw[A4 (λz=>c (by cases d with|non=>rfl|_=>cases z))]
  cases hd:QI d with
  |none=>
   erw[b.rule c hd,b1,b2];exact⟨(h.n,b.mb.trans h.mb,b.ra.trans h.ra,(by show _=p.run;rw[b1,U];rfl),(λmc r e=>by rw[b1] at e;cases e),b2),nil b1⟩
  |some rs=>
   erw[b.go rs hd,mc,c1,c2,c3,c4,c5,c6,c7];exists (h.n,b.mb.trans h.mb,b.ra.trans h.ra,?_,λaa r e=>?_,?_),λc O=>?_
   .rw[c6];show u_ (mc.rs,R0 rs g.n)=u_ (rs,R0 rs p.n);rw[c4,h.n]
   .rw[c6] at e;cases e;exact c5
   .rw[c7,h.n,Z];show _=(ny (R0 rs p.n)).getD .non;unfold ny;split<;>rfl
   .unfold plc at O;rw[c6] at O;simp![Aal,uF,uI,uT] at O;rcases O with z|rfl|rfl|rfl
    .exact .inl z
    .exact .inr c1
    .exact .inr c2
    .exact .inr c3
abbrev n9:om (oj Rw×Rn)->oj D
 |none=> []|some (_,r)=>r.gs
abbrev xB (p:Gp):D:=-[.tup (p.ra++n9 p.run),p.en.getD .non]
def BY {g:Gc}{s:Gs}{p:Gp}(h:nG g s p):Mz s=xB p:=by
 unfold Mz xB;rw[h.ra,h.en];let e:Aa7 s.run=n9 p.run:=by
  rw[<-h.run];cases s.run with
  |none=>rfl|some q=>rfl
 rw[e]
def My {p:Gp}(h:GI p):↑p.ra+↑(n9 p.run)<=1000:=by
 let h1:=h.ra.2.2;cases O:p.run with
 |none=>show _+0<=1000;omega|some q=>
  erw[q,rs,r];let h2:=(h.run rs r O).2.1;let h3:=h2.gs.2.2;let h4:=h2.n;show _+↑r.gs<=1000;omega
inductive Lr (CO CP CG CM:Addr):Sp
 |mk (o:Oc)(m:Str)(qs:List (Str×D))(xs:List V)(uk:List (Key×V))(p:Gp)(_:vs= [-o.x,!m])(_:OAt CO CP H o qs)(_:Qa qs)(_:H o.ls=u_ (.lst xs))(_:↑xs<=100000)(_:H o.du=u_ (.dK uk))(_:↑uk<=100000)(_:g0D m (qB qs m)=u_ p)(_:∀(g:Gc)(s:Gs)(H':Hp),Kp [o.ls,o.du] H H'->H' o.ls=u_ (.lst (xs++ [-g.x]))->H' o.du=u_ (.dK (lW uk (Vl m) (.bl v_)))->mj CG CM H' g s->nG g s p->g.o=o.x->(∀b>plc g s,H b=U_)->Q .non H')
inductive Do (CO CP CG CM:Addr):Sp
 |mk (o:Oc)(qs:List (Str×D))(g:Gc)(s:Gs)(p:Gp)(rk fk:List (Key×V))(_:vs= [-o.x,-g.x])(_:OAt CO CP H o qs)(_:mj CG CM H g s)(_:nG g s p)(_:GI p)(_:p.en.isSome=v_)(_:H o.dr=u_ (.dK rk))(_:↑rk<=100000)(_:H o.df=u_ (.dK fk))(_:↑fk<=100000)(_:o.dr≠o.df)(_:o.dr∉plc g s)(_:o.df∉plc g s)(_:∀(v1 v2:V)(H':Hp),Kp [o.dr,o.df] H H'->H' o.dr=u_ (.dK (lW rk (Vl g.n) v1))->Is H' (xB p) v1->H' o.df=u_ (.dK (lW fk (Vl g.n) v2))->Is H' (QE (p.en.getD .non)) v2->Q .non H')
def L5:#[C,12,a.jd,a.Y8,["self","name"],(Lr a.qr a.qE a.qL a.qo)]:=by
 let qO:=#[Yd,T];let O:=#[L3,T,C];exists 9,T.iP,xU
 erw[h,o,m,qs,xs,uk,p,rfl,hO,hq,U,ap,Z,aq,hp,k];let hs:=uE;exists 3,%[#[qZ,#[jr,v9,vG,vH,Y5,#[qP,5,pv 0,rfl],#v[#[zK,T.M_Going,O,T.m_Going,T.mK,qz,#v[pv 1,#[Qk,#[qP,5,pv 0,rfl],T.Q4,T.ig,qO,#v[pv 1]],pv 0]]]]]|#[JT,#[qP,5,pv 0,rfl],pv 1,Yr]]
 exists 0,o.x,_,o.dx,_,0,hO.e,T.qx,T.QF,Ma o,.inl [1:_:SqL.of U]
 exists 0,0,o.x,_,o.dx,_,0,hO.e,T.qx,T.Qf,Sd o;erw[id hO.p,ak,dp,op,au,hx,hd,hk,hv]
 exists o.px,ak,0,hx,yA,0,o.px,m,qs,1,hO.p,λsv h1 h2=>?_;let hm:m>qs.map (·.1):=(Qs qs).gn m p hp;let af:=h1 hm;erw[Jg hq hm,hn,kk,e,al,g1,g2];rw[al] at af hp
 exists 0,λx dx aa ag nx=>?_;let s0:ic H (upd (upd H dx (.own x)) x (.ins a.qL dx [])):=λb o h=>by rwa[qj (qk h aa),qj (qk h ag)]
 let nox:o.x≠x:=qk hO.e aa
 exists x,dx,o.x,m,kk,sv,e,1,qg,af.mono s0.tk,hn,nox,(_,_,s0 _ _ hO.e,wI o _ ()),λH1 s1 am aw G1 b1 b2=>[1:?_]
 let ac:ic H H1:=λb ob h=>am b ob (s0 b ob h) (qk h aa);let rel:nG ⟨x,o.x,m⟩ s1 p/\∀c>plc ⟨x,o.x,m⟩ s1,H c=none:=by
  unfold g0D at hp;simp only at hp;split at hp
  .cases hp
  .split at hp
   .rename_i c
    cases hp;let e1:=b1 c;rw[e1]
    exists (1,1,1,1,(λ_ _ z=>by cases z),1),λc hc=>?_
    rcases Aa.mp hc with rfl|hc
    .exact aa
    .cases hc
   .rename_i c
    cases hp;obtain⟨r1,r2⟩:=II (p:=(m,.non,[],U_,U_)) (b2 c) (1,1,1,1,(λ_ _ z=>by cases z),1) rfl rfl
    exists r1,λc hc=>?_;rcases r2 c hc with rfl|hc
    .exact aa
    .exact s0.free hc
 exists o.ls,xs,0,1,ac _ _ U,()
 let ah:Kp [o.ls,o.du] H1 (upd H1 o.ls (.lst (xs++ [-x]))):=⟨λb ob h n=>by rw[qj (λz=>n (by rw[z];exact ui))];exact h,iW.tk (p:=o.ls) (λb ob h n=>by rwa[qj n]) (ac _ _ U) qg⟩
 let n1:o.du≠o.ls:=λz=>by rw[z,U] at Z;cases Z
 let ad:upd H1 o.ls (.lst (xs++ [-x])) o.du=u_ (.dK uk):=by rw[qj n1];exact ac _ _ Z
 let n2:o.x≠o.ls:=λz=>by have:=hO.e;rw[z,U] at this;cases this
 let n3:o.x≠o.du:=λz=>by have:=hO.e;rw[z,Z] at this;cases this
 exists 0,o.x,_,o.dx,_,0,(by rw[qj n2];exact ac _ _ hO.e),T.qx,T.Qy,Sb o,0,o.du,0,IP.k (k:=Vl m) ad ()
 let ao:=((Kp.of (L:= [o.ls,o.du]) ac).trans ah).trans (Kp.updD (ys:=lW uk (Vl m) (.bl v_)) ad (uh _ ui));refine k [x:o.x:m] s1 _ ao (by rw[qj n1.symm];exact qg) qg (G1.frame (λb hb ob h=>?_) ((ah.trans (Kp.updD (ys:=lW uk (Vl m) (.bl v_)) ad (uh _ ui)))).tk) rel.1 rfl rel.2
 let ae:=rel.2 b hb;let m1:b≠o.ls:=λz=>by rw[z,U] at ae;cases ae
 let m2:b≠o.du:=λz=>by rw[z,Z] at ae;cases ae
 rw[qj m2,qj m1];exact h
def Ed:#[T,3,a.YW,a.YZ,["self","going"],(Do a.qr a.qE a.qL a.qo)]:=by
 let O:=#[PP,T];let xV:=#[BG,T];let ze:=#[LW,T];exists 9,T.lc,xt
 erw[h,o,qs,g,st,p,rk,fk,rfl,hO,hG,hR,hI,ad,aa,ax,ae,ay,af,nr,nf,k];let hs:=uE;exists 3,%[#[JT,#[qP,5,pv 0,rfl],#[qP,5,pv 1,rfl],#[QK,pv 1,T.qQ,T.mL,O]],#[JT,#[qP,5,pv 0,rfl],#[qP,5,pv 1,rfl],#[qq,xV,T.iY,#v[#[qP,5,pv 1,rfl]]]]|#[qZ,#[Qk,pv 0,T.qx,T.lq,ze,#v[pv 1]]]]
 erw[id hG,dx,fs,mv,av,rv,ev,e,f,i,j,aA,l];let au:o.dr≠g.x:=λz=>nr (by rw[z];exact ui)
 let aB:o.df≠g.x:=λz=>nf (by rw[z];exact ui)
 let ag:o.x≠o.dr:=λz=>by have:=hO.e;rw[z,aa] at this;cases this
 let ah:o.x≠o.df:=λz=>by have:=hO.e;rw[z,ae] at this;cases this
 let ak:↑(Aa7 st.run)=↑(n9 p.run):=by
  have:=BY hR;unfold Mz xB at this;simp![D.tup.injEq,UW] at this;have:=this.1;rw[hR.ra] at this;rw[List.append_cancel_left this]
 exists 0,g.x,dx,fs,1,e,f.meth _ (),g,st,1,hG,(by rw[hR.ra,ak];exact My hI),λv1 H1 s1 i1=>?_
 rw[BY hR] at i1
 exists 0,o.x,_,o.dx,_,0,s1 _ _ hO.e,T.qx,T.Qg,Mb o,0,g.x,_,dx,fs,0,s1 _ _ e,T.qQ,T.Yq,f.ZB,o.dr,0,IP.k (k:=Vl g.n) (s1 _ _ aa) ()
 let ac:Kp [o.dr,o.df] H (upd H1 o.dr (.dK (lW rk (Vl g.n) v1))):=(Kp.of s1).trans (Kp.updD (s1 _ _ aa) ui);generalize U:upd H1 o.dr (.dK (lW rk (Vl g.n) v1))=H2 at ac⊢;let al:H2 o.dr=u_ (.dK (lW rk (Vl g.n) v1)):=by rw[<-U];exact qg
 let e2:H2 g.x=u_ (.ins a.qL dx fs):=by rw[<-U,qj au.symm];exact s1 _ _ e
 let am:H2 o.x=u_ (.ins a.qr o.dx (ofs o)):=by rw[<-U,qj ag];exact s1 _ _ hO.e
 let Z:H2 o.df=u_ (.dK fk):=by rw[<-U,qj af.symm];exact s1 _ _ ae
 let i2:Is H2 (xB p) v1:=i1.mono (by rw[<-U];exact Tk.updD (s1 _ _ aa))
 let l2:Is H2 (p.en.getD .non) ev:=by rw[<-hR.en];exact l.mono ac.tk
 obtain⟨kk,ee,ao⟩:∃kk ee,p.en.getD .non=-[!kk,ee]:=by
  cases ap:p.en with
  |none=>rw[ap] at ad;cases ad|some d=>
   rcases hI.en d ap with⟨z,rfl⟩|⟨x,rfl,_⟩|⟨z,rfl⟩
   .exact[_:0]
   .exact[_:0]
   .exact[_:0]
 exists 0,g.x,_,dx,fs,0,e2,T.qQ,T.Q7,f.f_end,ev,kk,ee,1,(by rwa[<-ao]),λv2 H3 s3 i3=>?_
 rw[<-ao] at i3
 exists 0,o.x,_,o.dx,_,0,s3 _ _ am,T.qx,T.QG,Md o,0,g.x,_,dx,fs,0,s3 _ _ e2,T.qQ,T.Yq,f.ZB,o.df,0,IP.k (k:=Vl g.n) (s3 _ _ Z) ()
 let aq:Tk H3 (upd H3 o.df (.dK (lW fk (Vl g.n) v2))):=Tk.updD (s3 _ _ Z);let aw:Kp [o.dr,o.df] H (upd H3 o.df (.dK (lW fk (Vl g.n) v2))):=(ac.trans (Kp.of s3)).trans (Kp.updD (s3 _ _ Z) (uh _ ui))
 exists 0,o.x,o.dx,0,(by rw[qj ah];exact s3 _ _ am),wI o _ (),0,_,0
 exact k v1 v2 _ aw (by rw[qj af];exact s3 _ _ al) (i2.mono (s3.tk.trans aq)) qg (i3.mono aq)
end
variable {v:V}
def oR:VI ("looked_up":Str) [(("by_name":Str),v)]=none:=by rfl
def AbX (k:Str):inV (V.str k) [V.str "has",V.str "names"]=ml k:=by
 let h:=jM k ["has","names"];refine h.trans ?_;unfold ml;rw[<-Bool.decide_or,ve];simp
section
variable {C CM CO:o3}{H:Hp}{g:Gc}{s:Gs}{p:Gp}{Q:VK}{E:XK}
def NZ (G:mj C CM H g s)(R:nG g s p)(I:GI p)(O:p.en=U_)(U:yk p=u_ m)(k:∀kd v H',ic H H'->ml kd=Vi->Is H' (-[!kd,!m]) v->Q v H'):zh C CM [-g.x] H Q E:=by
 erw[kr I O U,hn,h];exists g,s,1,G;rcases h with⟨h1,h2⟩|⟨rs,r,h1,h2⟩
 .exact .inl (R.none h1,m,by rw[R.mb,h2],λv H' s' i=>k _ v H' s' () i)
 .erw[R.some h1,mc,Z,e2,e3];exact .inr (mc,r,_,Z,h2,λv i=>k _ v H (ic.refl _) () i)
def IU (G:mj C CM H g s)(R:nG g s p)(I:GI p)(O:p.en=U_)(U:yk p=U_)(k:∀rs r kd z v,p.run=u_ (rs,r)->r.th= .tup [-"asks",-[!kd,!z]]->ml kd=v_->isT (!z)=v_->nw qs p=QS p (xy qs kd z)->Is H (-[!kd,!z]) v->Q v H):zh C CM [-g.x] H Q E:=by
 erw[jN (qs:=qs) I O U,rs,r,kd,z,h1,h2,h3,h4,h5];erw[R.some h1,mc,Z,e2,e3];exact(g,s,1,G,.inr (mc,r,_,Z,h2,λv i=>k rs r kd z v h1 h2 h3 h4 h5 i))
def Db (G:mj C CM H g s)(R:nG g s p)(I:GI p)(Z:p.en=U_){d:D}{v:V}(hv:Is H d v)(U:∀rs r,p.run=u_ (rs,r)->∃u q,r.th= .tup [-"asks",-[!u,q]]/\AX u d=v_)(aa:g.o≠g.x)(ho:∃dx fs,H g.o=u_ (.ins CO dx fs)/\fs.lookup ("runner":Str)=U_)
  (k:∀H' s',Gw g s.run H H'->mj C CM H' g s'->nG g s' (QS p d)->(∀b>plc g s',b>plc g s\/H b=U_)->Q .non H'):X8 C CM CO [-g.x,v] H Q E:=by
 refine(g,s,v,d,1,G,by rw[R.n];exact I.n,hv,aa,ho,?_)
 cases O:p.run with
 |none=>
  erw[I.no O Z,z,hz,_];let hr:=R.none O;refine .inl (hr,z,by rw[R.mb,hz],λH' s' w G' b=>?_)
  obtain⟨r1,r2⟩:=II (p:=(p.n,p.mb,[-[-[-"rule",p.mb],d]],U_,U_)) b (R.n,R.mb,(by show _= [D.tup [-[-"rule",p.mb],d]];rw[hz]),(by show s.run.map _=U_;rw[hr];rfl),R.own,(by show s.en= .non;rw[R.en,Z];rfl)) rfl rfl
  refine k H' s' w G' ?_ λc hc=>?_
  .have:QS p d=mt (p.n,p.mb,[-[-[-"rule",p.mb],d]],U_,U_) d:=by
    unfold QS;rw[O];show mt (p.n,p.mb,_,U_,p.en) d=_;rw[Z]
   rwa[this]
  .rcases r2 c hc with rfl|h
   .exact .inl ui
   .exact .inr h
 |some q=>
  erw[q,rs,r];erw[R.some O,mc,e1,e2,e3];erw[I.run rs r O,k1,k2,k3,k4];erw[U rs r O,u,q,h1,h2];subst e2;refine .inr (mc,r,u,q,e1,e3,k1,k2,h1,h2,λH' w G'=>?_);let ee:QS p d={p with run:=u_ (mc.rs,mw mc.rs p.n r d),en:=ny (mw mc.rs p.n r d)}:=by unfold QS;rw[O]
  refine k H' _ w G' ?_ ?_
  .rw[ee,e3,R.n];unfold oT ny;by_cases c:QH (mw mc.rs p.n r d).th=v_
   .rw[A6 c,A6 c];exact(R.n,R.mb,R.ra,1,(λac r' z=>by cases z;exact e3),(by show s.en= .non;rw[R.en,Z];rfl))
   .rw[A4 c,A4 c];exact(R.n,R.mb,R.ra,1,(λac r' z=>by cases z;exact e3),1)
  .intro b hb;left;unfold plc at hb⊢;rw[e1];unfold oT at hb;split at hb<;>exact hb
end
abbrev LO (o:Oc):oj o3:= [o.ls,o.du,o.dr,o.df]
structure Bs (CO CP:o3)(H0:Hp)(o:Oc)(qs:oj (Str×D)):Prop where
 oa:OAt CO CP H0 o qs
 ls:∃xs,H0 o.ls=u_ (.lst xs)
 du:∃xs,H0 o.du=u_ (.dK xs)
 dr:∃xs,H0 o.dr=u_ (.dK xs)
 df:∃xs,H0 o.df=u_ (.dK xs)
 nd:(LO o).Nodup
 q:Qa qs
section
variable {CO CP:o3}{H0 H H':Hp}{o:Oc}{qs:oj (Str×D)}
def Bs.at (b:Bs CO CP H0 o qs)(k:Kp (LO o) H0 H):OAt CO CP H o qs:=b.oa.kp k (by
 intro p O;simp![LO,uF,uI,uT] at O;rcases O with rfl|rfl|rfl|rfl
 .exact .inl b.ls
 .exact .inr (.inl b.du)
 .exact .inr (.inl b.dr)
 .exact .inr (.inl b.df))
def Bs.new (b:Bs CO CP H0 o qs){c:o3}(h:H0 c=U_):c≠o.x/\c≠o.ls/\c≠o.du/\c≠o.dr/\c≠o.df:=by
 erw[b.ls,_,h1];erw[b.du,_,h2];erw[b.dr,_,h3];erw[b.df,_,h4];exact((qk b.oa.e h).symm,(qk h1 h).symm,(qk h2 h).symm,(qk h3 h).symm,(qk h4 h).symm)
def Bs.nlo (b:Bs CO CP H0 o qs){c:o3}(h:H0 c=U_):c∉LO o:=by
 erw[b.new h,_,h1,h2,h3,h4];simp![LO,uF,uI,uT,Vc];exact(h1,h2,h3,h4)
def Av (b:Bs CO CP H0 o qs)(k:Kp (LO o) H0 H)(h:∀c ob,H c=u_ ob->c∉o.df::L->H' c=u_ ob)(t:Tk H H')(O:∀c>L,H0 c=U_):Kp (LO o) H0 H':=⟨λc ob e n=>h c ob (k.kept c ob e n) (λz=>by
 rcases Aa.mp z with rfl|z
 .exact n (by simp[LO])
 .rw[O c z] at e;cases e),k.tk.trans t⟩
end
section
variable {qs:oj (Str×D)}{n:Str}{p:Gp}{r don:oj (Str×Gp)}
def Sh (U:p.en=U_)(Z:yk p=U_):Sy.nxt #[Y,(n,p)::r,don]=[(n,nw qs p)::r:don]:=by
 let hf:(SyP qs).fin p=false:=by show p.en.isSome=Vi;rw[U];rfl
 let O:(SyP qs).want p=none:=Z;unfold Sy.nxt;simp only;rw[hf,A4 ub,O]
 rfl
def AbB (U:p.en=U_)(Z:yk p=u_ m){a:om D}(hy:Sy.yet #[Y,(n,p)::r,don] m=u_ (u_ a)):Sy.nxt #[Y,(n,p)::r,don]=[(n,QS p (a.getD .non))::r:don]:=by
 let hf:(SyP qs).fin p=false:=by show p.en.isSome=Vi;rw[U];rfl
 let O:(SyP qs).want p=u_ m:=Z;unfold Sy.nxt;simp only;rw[hf,A4 ub,O];simp only;rw[hy]
 rfl
def Sf (U:p.en=U_)(Z:yk p=u_ m)(hy:Sy.yet #[Y,(n,p)::r,don] m=u_ U_):Sy.nxt #[Y,(n,p)::r,don]=[(n,Ld p m)::r:don]:=by
 let hf:(SyP qs).fin p=false:=by show p.en.isSome=Vi;rw[U];rfl
 let O:(SyP qs).want p=u_ m:=Z;unfold Sy.nxt;simp only;rw[hf,A4 ub,O];simp only;rw[hy]
 rfl
def Me (Z:p.en=U_)(hw:yk p=u_ m)(U:Sy.yet #[Y,(n,p)::r,don] m=U_):∃p',g0D m (qB qs m)=u_ p'/\Sy.nxt #[Y,(n,p)::r,don]=[(m,p')::(n,p)::r:don]:=by
 let hf:(SyP qs).fin p=false:=by show p.en.isSome=Vi;rw[Z];rfl
 let O:(SyP qs).want p=u_ m:=hw;erw[Sy.jj U,_,[p',e],_];exists p',e;unfold Sy.nxt;simp only;rw[hf,A4 ub,O];simp only;rw[U];simp only;rw[e]
def Sg {d:D}(O:p.en=u_ d):Sy.nxt #[Y,(n,p)::r,don]=[r:don++ [(n,p)]]:=by
 let U:(SyP qs).fin p=true:=by show p.en.isSome=v_;rw[O];rfl
 unfold Sy.nxt;simp only;rw[U,A6 rfl]
 rfl
end
def kS {d:D}(h:X4 d):AX "thing" d=true:=by
 unfold AX;rcases h with rfl|h
 .rfl
 .cases hn:yZ d with
  |true=>rfl|false=>
   rw[A4 ub,A6 h,A4 ()]
   rfl
structure Rnd {qs:oj (Str×D)}(CG CM:o3)(H0 H H1:Hp)(o:Oc)(S:Sy.Ss (SyP qs))(L0:oj o3)(g:Gc)(s1:Gs)(n:Str)(p1:Gp)(r:oj (Str×Gp))(fk1:oj (Key×V))(top:Nat):Prop where
 st:∃j,#[Y,(n,p1)::r,S.don]=Sy.nx S j
 len:↑fk1+Sy.mu #[Y,(n,p1)::r,S.don]<=top
 kp:∀b ob,H b=u_ ob->b∉o.df::L0->H1 b=u_ ob
 tk:Tk H H1
 df:H1 o.df=u_ (.dK fk1)
 fd:C0 H1 S fk1
 go:mj CG CM H1 g s1
 rel:nG g s1 p1
 pl:∀b>plc g s1,b>L0\/H b=U_/\H0 b=U_
 gi:SGI #[Y,(n,p1)::r,S.don]
inductive AaX (CO CP CG CM:Addr):Sp
 |mk (H0:Hp)(o:Oc)(qs:List (Str×D))(g:Gc)(s:Gs)(n:Str)(p:Gp)(r don:List (Str×Gp))(uk fk:List (Key×V))(top:Nat)(_:vs= [-o.x,-g.x])(_:Bs CO CP H0 o qs)(_:Kp (LO o) H0 H)(_:H o.du=u_ (.dK uk))(_:S6 #[Y,(n,p)::r,don] uk)(_:(∀q>don,q.2.en.isSome=v_))(_:top<=100000)(_:g.o=o.x)(_:(∀b>plc g s,H0 b=U_))(_:Rnd CG CM H0 H H o #[Y,(n,p)::r,don] (plc g s) g s n p r fk top)(_:∀(v:V)(H':Hp)(s':Gs)(p':Gp)(fk':List (Key×V)),Rnd CG CM H0 H H' o #[Y,(n,p)::r,don] (plc g s) g s' n p' r fk' top->((v= .non/\p'.en.isSome=v_)\/∃m,v= .str m/\p'.en=U_/\yk p'=u_ m/\Sy.yet #[Y,(n,p')::r,don] m=U_)->Q v H')
def Rnd.more {qs:oj (Str×D)}{CG CM CO CP:o3}{H0 H H1 H2 H3:Hp}{o:Oc}{S:Sy.Ss (SyP qs)}{L0:oj o3}{g:Gc}{s1 s3:Gs}{n:Str}{p1 p3:Gp}{r:oj (Str×Gp)}{fk1 U:oj (Key×V)}{top:Nat}(b:Bs CO CP H0 o qs)(k0:Kp (LO o) H0 H)(hL:∀b>L0,H0 b=U_)(h:Rnd CG CM H0 H H1 o S L0 g s1 n p1 r fk1 top)(k2:Kp [o.df] H1 H2)(f2:H2 o.df=u_ (.dK U))(d2:C0 H2 S U)(l2:↑U<=↑fk1+1)
  (ac:∀b ob,H2 b=u_ ob->b∉plc g s1->H3 b=u_ ob) (t3:Tk H2 H3) (G3:mj CG CM H3 g s3) (R3:nG g s3 p3) (ae:∀b>plc g s3,b>plc g s1\/H2 b=U_) (e:Sy.nxt #[Y,(n,p1)::r,S.don]=[(n,p3)::r:S.don]):
  Rnd CG CM H0 H H3 o S L0 g s3 n p3 r U top/\Sy.mu #[Y,(n,p3)::r,S.don]<Sy.mu #[Y,(n,p1)::r,S.don]:=by
 let ad:=Sy.nxt_mu (Qs qs) (S:=#[Y,(n,p1)::r,S.don]) (by intro z;cases z)
 rw[e] at ad;let af:∀b>plc g s1,H0 b=none:=λb hb=>(h.pl b hb).elim (hL b) (·.2);let nf:o.df∉plc g s1:=λz=>(b.new (af _ z)).2.2.2.2 rfl;let ag:∀b ob,H1 b=u_ ob->b∉o.df::plc g s1->H3 b=u_ ob:=λc ob q z=>ac c ob (k2.kept c ob q (λy=>z (by rw[Ab.mp y];exact ui))) (λy=>z (uh _ y))
 refine⟨(?_,by have:=h.len;omega,λc ob q z=>?_,(h.tk.trans k2.tk).trans t3,ac _ _ f2 nf,d2.mono t3,G3,R3,λc Z=>?_,?_),ad⟩
 .erw[h.st,j,hj];exact⟨j+1,by show _=Sy.nxt (Sy.nx S j);rw[<-hj,e]⟩
 .refine ag c ob (h.kp c ob q z) λy=>?_;rcases Aa.mp y with rfl|y
  .exact z ui
  .rcases h.pl c y with y|⟨y,_⟩
   .exact z (uh _ y)
   .rw[q] at y;cases y
 .rcases ae c Z with Z|Z
  .exact h.pl c Z
  .let O:H1 c=none:=by
    cases hq:H1 c with
    |none=>rfl|some ob=>
     by_cases y:c=o.df
     .rw[y,f2] at Z;cases Z
     .rw[k2.kept c ob hq (λz=>y (Ab.mp z))] at Z;cases Z
   by_cases c0:c>L0
   .exact .inl c0
   .right;let aa:H c=none:=by
     cases hq:H c with
     |none=>rfl|some ob=>
      by_cases y:c=o.df
      .rw[y,h.df] at O;cases O
      .rw[h.kp c ob hq (λz=>by rcases Aa.mp z with z|z;exact y z;exact c0 z)] at O;cases O
    exists aa;cases hq:H0 c with
    |none=>rfl|some ob=>
     by_cases y:c>LO o
     .have:=Av b k0 h.kp h.tk hL;simp![LO,uF,uI,uT] at y;let keep:∀x,(∃xs,H0 x=u_ (.lst xs))\/(∃xs,H0 x=u_ (.dK xs))->H1 x≠none:=λx hx hn=>by
       rcases hx with⟨xs,hx⟩|⟨xs,hx⟩
       .erw[this.tk.lst x xs hx,ys,hy];rw[hy] at hn;cases hn
       .erw[this.tk.dct x xs hx,ys,hy];rw[hy] at hn;cases hn
      rcases y with rfl|rfl|rfl|rfl
      .exact A8 O (keep _ (.inl b.ls))
      .exact A8 O (keep _ (.inr b.du))
      .exact A8 O (keep _ (.inr b.dr))
      .exact A8 O (keep _ (.inr b.df))
     .rw[k0.kept c ob hq y] at aa;cases aa
 .have:=Et b.q h.gi;rwa[e] at this
section
variable {P:o9}{w:og}{K:o0}{mg:Str->om o6}{base:o8}{a:Ad}{g:Ga}
def Abz:#[C,11,a.jf,a.jc,["self","going"],(AaX a.qr a.qE a.qL a.qo)]:=by
 let kc:=#[Ea,T];let JM:=#[LZ,T,C];let yn:=#[oJ,T];let Qe:=#[D9,T];exists 9,T.lz,yw
 erw[h,H0,o,qs,Z,st,n,p,r,don,uk,fk,top,rfl,hB,hK,aK,hU,ap,aX,aq,hL,h0,k];let hs:=uE;exists 3,%[#[zd,#[qp,yH,#[qP,5,pv 1,rfl],qR,qw _],%[#[qF,(2),yw.nd,#[QK,pv 1,T.qQ,T.mq,kc]],#[qH,#[qp,QN,#[qG,qA,pv 2],#[qI,#v[ql,ql]],#[w]],%[#[qZ,#[Qk,pv 1,T.qQ,T.lp,JM,#v[#[Qk,#[qP,5,pv 0,rfl],T.Q4,T.iL,yn,#v[pv 2]]]]]|Ah],qt],#[qF,(3),yw.nd,#[Qk,pv 0,T.qx,T.im,Qe,#v[#[qG,qA,pv 2]]]],#[qH,#[qp,yH,pv 3,qR,qw _],%[|#[qm,#[qG,qA,pv 2]]],qt]|#[qH,#[qp,QL,#[qG,qA,pv 3],ql,qw _],%[|#[qZ,#[Qk,pv 1,T.qQ,T.lp,JM,#v[#[qG,qA,pv 3]]]]],%[|#[qH,#[qp,QL,#[qG,qA,pv 3],ql,qw _],%[|#[qZ,#[Qk,pv 1,T.qQ,T.lp,JM,#v[qR]]]],%[|#[Qh,8,pv 1,#[qI,#v[ql,#[qG,qA,pv 2]]],rfl]]]]]]]|#[qm,qR]]
 refine_lift let J_:Nat->L2.St->Hp->Prop:=λmm σ H1=>∃(s1:Gs) (p1:Gp) (fk1:oj (Key×V)) (u3 u4:om V),σ= [u_ (-o.x),u_ (-Z.x),u3,u4]/\mm=Sy.mu #[Y,(n,p1)::r,don]/\Rnd a.qL a.qo H0 H H1 o #[Y,(n,p)::r,don] (plc Z st) Z s1 n p1 r fk1 top;?_
 exists J_,(_,st,p,fk,U_,U_,1,1,h0);rintro mm σ H1 ⟨s1,p1,fk1,u3,u4,rfl,rfl,O⟩;let aL:=Av hB hK O.kp O.tk hL;let aa:=hB.at aL;let au:∀b>plc Z s1,H0 b=none:=λb hb=>(O.pl b hb).elim (hL b) (·.2);erw[O.gi (n,p1) (.inl ui),hI,aZ];let hI:GI p1:=hI;let aw:H1 o.du=u_ (.dK uk):=O.kp _ _ aK (λz=>by
  rcases Aa.mp z with z|z
  .have:=hB.nd;simp[LO] at this;exact this.2.1.2 z
  .exact(hB.new (hL _ z)).2.2.1 rfl)
 erw[id O.go,dx,fs,mv,av,rv,ev,e,f,i,j,a1,l];let a2:↑fs<1000:=by have:=f.len;omega
 exists 0,Z.x,_,dx,fs,0,e,T.qQ,T.Q7,f.f_end,1,0;cases he:p1.en with
 |some d=>
  let l':Is H1 d ev:=by have:=l;rwa[O.rel.en,he] at this
  let aM:d≠ .non:=by rcases hI.en d he with⟨z,rfl⟩|⟨x,rfl,_⟩|⟨z,rfl⟩<;>(intro z;cases z)
  refine iO (uj (jQ l' aM)) ?_;exact k _ H1 s1 p1 fk1 O (.inl ⟨1,by rw[he];rfl⟩)
 |none=>
  let l':Is H1 .non ev:=by have:=l;rwa[O.rel.en,he] at this
  cases(show ev= .non from l')
  refine lC (ug rfl) ?_
  exists λσ' H'=>∃m',m'<Sy.mu #[Y,(n,p1)::r,don]/\J_ m' σ' H',λ_ _ h=>h;exists 8,B1,b1;let ax:Z.o≠Z.x:=by rw[aq];exact(hB.new (hL _ ui)).1.symm
  let ak:∀H2:Hp,(∀b ob,H1 b=u_ ob->b∉o.df::plc Z s1->H2 b=u_ ob)->∃dx fs,H2 Z.o=u_ (.ins a.qr dx fs)/\fs.lookup ("runner":Str)=none:=λH2 h2=>(_,_,(by rw[aq];exact h2 _ _ aa.e (λz=>by
   rcases Aa.mp z with z|z
   .have:=aa.e;rw[z,O.df] at this;cases this
   .exact(hB.new (au _ z)).1 rfl)),wI o _ ())
  cases hw:yk p1 with
  |none=>
   exists 0,Z.x,dx,fs,1,e,f.meth _ ()
   refine IU (E:=E0) (qs:=qs) O.go O.rel hI he hw λrs rr kd z v ay al ac hz aA hv=>b1 _ _ ?_;exists 8,B2,b2;erw[id hv,q,ws,rfl,hq,w1,r1,rfl,[rfl,aN],w2,r2,rfl,[rfl,aB],h3];cases(show r2= [] from h3)
   exists 0,q,_,_,0,1,SqT.of hq,1,(sml rfl),λt ht=>?_;let s2:=qf ht (-[V.str "has",V.str "names"])
   exists t,0,.inr (SqT.of qg),1,1,0;refine lC ((AbX kd).trans ac) ?_;erw[id aa.p,aO,dp,op,a3,hx,hd,hk,a4];let a5:↑z<=300:=by
    have:=yl hz;simp![ky,QA,uG,vj] at this;exact this.1
   erw[wS hB.q z ac,a6,aP];generalize a7:upd H1 t (-[V.str "has",V.str "names"])=H2 at s2⊢;let fin:∀(u:V) (H3:Hp),ic H2 H3->Is H3 (xy qs kd z) u->X8 a.qL a.qo a.qr [-Z.x,u] H3 (λ_ H4=>∃m',m'<Sy.mu #[Y,(n,p1)::r,don]/\J_ m' [u_ (-o.x),u_ (-Z.x),u_ (-q),u4] H4) E0:=λu H3 s3 hu=>by
    let U:=s2.trans s3;refine Db (O.go.same U) O.rel hI he hu (λaQ r' e'=>?_) ax (ak H3 λb ob h _=>U b ob h) λH4 s4 w4 G4 R4 aR=>?_
    .rw[ay] at e';cases e';exact(kd,_,al,aP)
    .rw[<-aA] at R4;let kq:∀b ob,H3 b=u_ ob->b∉plc Z s1->H4 b=u_ ob:=λb ob h n=>w4.kept b ob h (λy=>n (by rw[y];exact ui)) (λmc r' y=>by
      unfold plc at n;rw[y] at n;simp![Aal,uF,uI,uT,Vc] at n;exact[n.2.1:n.2.2.1:n.2.2.2])
     erw[O.more hB hK hL (Kp.of U) (U _ _ O.df) (O.fd.mono U.tk) (Hz _) kq w4.tk G4 R4 aR (Sh he hw),m1,m2];exact(_,m2,s4,_,fk1,_,0,1,m1)
   exists 0,Z.x,dx,fs,1,s2 _ _ e,f.meth _ ()
   exists 0,o.x,_,o.dx,_,0,s2 _ _ aa.e,T.qx,T.Qf,Sd o
   exists o.px,aO,0,s2 _ _ hx,oR,0,o.px,q,kd,z,qs,1,aa.p.same s2,hB.q,s2 _ _ hq,()
   let aC:kd="has"\/kd≠"has"/\kd="names":=by
    unfold ml at ac;by_cases c:kd="has"
    .exact .inl c
    .rw[uj c,TH] at ac;exact .inr [c:uC ac]
   rcases aC with c|⟨c',c⟩
   .refine .inl [c:fin _ H2 (ic.refl _) ?_];unfold xy;rw[A6 c];exact yU (by split<;>decide)
   .refine .inr [c:λu H3 s3 hu=>fin u H3 s3 ?_];unfold xy;rwa[A4 c']
  |some m=>
   erw[kr hI he hw,a8,al]
   exists 0,Z.x,dx,fs,1,e,f.meth _ ()
   refine NZ (E:=E0) O.go O.rel hI he hw λkd v H2 s2 ac hv=>b1 _ _ ?_;exists 8,B2,b2;erw[id hv,q,ws,rfl,hq,w1,r1,rfl,[rfl,aN],w2,r2,rfl,[rfl,aB],h3];cases(show r2= [] from h3)
   exists 0,q,_,_,0,1,SqT.of hq,1,(sml rfl),λt ht=>?_;let s3:=qf ht (-[V.str "has",V.str "names"])
   exists t,0,.inr (SqT.of qg),1,1,0;refine iO ((AbX kd).trans ac) (b2 _ _ ?_);exists 8,B3,b3;generalize upd H2 t (-[V.str "has",V.str "names"])=H3 at s3⊢;let U:=s2.trans s3;let aD:=s3 _ _ hq;let aE:SGI #[Y,(n,p1)::r,don]:=O.gi
   exists 0,o.x,o.dx,0,U _ _ aa.e,wI o _ ()
   exists 0,q,_,_,0,1,SqT.of aD,1,o,m,qs,#[Y,(n,p1)::r,don],uk,fk1,1,[U _ _ aa.e:aa.p.same U],hB.q,aE,U _ _ aw,hU,U _ _ O.df,O.fd.mono U.tk,(by have:=O.len;omega),ap,λu H4 am k4 f4 d4 l4 aS y4=>?_
   let ad:Kp [o.df] H1 H4:=(Kp.of U).trans k4;let aF:H4 q=u_ (-[V.str kd,V.str m]):=k4.tk.tup _ _ aD;let aT:o.df∉plc Z s1:=λz=>(hB.new (au _ z)).2.2.2.2 rfl;let G4:mj a.qL a.qo H4 Z s1:=O.go.frame (λb hb ob h=>ad.kept b ob h (λz=>aT (by rwa[<-Ab.mp z]))) ad.tk
   erw[id G4,ao,ae,a9,bb,bc,bd,e4,af,i4,j4,aG,bg];refine b3 _ _ ?_;exists 8,B4,b4
   exists 0,1,0;unfold AY at y4;cases hy:Sy.yet #[Y,(n,p1)::r,don] m with
   |none=>
    rw[hy] at y4;cases(show u= .non from y4)
    refine lC (ug rfl) (0,q,_,_,0,1,SqT.of aF,1,?_);refine k _ H4 s1 p1 am (O.st,(by rw[aS hy];exact O.len),λb ob h z=>ad.kept b ob (O.kp b ob h z) (λy=>z (by rw[Ab.mp y];exact ui)),O.tk.trans ad.tk,f4,d4,G4,O.rel,O.pl,O.gi) (.inr (m,1,he,hw,hy))
   |some oa=>
    rw[hy] at y4;erw[y4,d,hd,ha,_];let sh:∃kk rr,d= .tup (.str kk::rr):=by
     cases oa with
     |none=>erw[ha,kk,rr,h,_];exact[kk:rr:h]|some x=>cases x with
      |none=>exact[_:_:ha]|some y=>exact[_:_:ha]
    erw[sh,kk,rr,rfl];erw[id hd,qa,wa,rfl,ag,w1,r1,rfl,[rfl,aY],h3];refine iO (uj (λz=>by cases z)) (b4 _ _ ?_)
    exists 0,qa,_,_,0,1,SqT.of ag,qD (j:=0) rfl,1,0;let fin:∀(dd:D) (u:V),Is H4 dd u->X4 dd->Sy.nxt #[Y,(n,p1)::r,don]=⟨(n,QS p1 dd)::r,don⟩->X8 a.qL a.qo a.qr [-Z.x,u] H4 (λ_ H5=>∃m',m'<Sy.mu #[Y,(n,p1)::r,don]/\J_ m' [u_ (-o.x),u_ (-Z.x),u_ (-q),u_ (-qa)] H5) E0:=λdd u hu hok ah=>by
     refine Db G4 O.rel hI he hu (λaQ r' e'=>?_) ax (ak H4 λb ob h n=>ad.kept b ob h (λz=>n (by rw[Ab.mp z];exact ui))) λH5 s5 w5 G5 R5 aU=>?_
     .rcases al with⟨h1,_⟩|⟨rs,rr,h1,h2⟩
      .rw[h1] at e';cases e'
      .rw[h1] at e';cases e';exact("thing",_,h2,kS hok)
     .have kq:∀b ob,H4 b=u_ ob->b∉plc Z s1->H5 b=u_ ob:=λb ob h n=>w5.kept b ob h (λy=>n (by rw[y];exact ui)) (λmc r' y=>by
       unfold plc at n;rw[y] at n;simp![Aal,uF,uI,uT,Vc] at n;exact[n.2.1:n.2.2.1:n.2.2.2])
      erw[O.more hB hK hL ad f4 d4 l4 kq w5.tk G5 R5 aU ah,m1,m2];exact(_,m2,s5,_,am,_,0,1,m1)
    cases oa with
    |some x=>
     let hok:=MV hB.q aE hy;let ah:=AbB he hw hy;cases x with
     |some y=>
      cases(show D.tup (.str kk::rr)= .tup [-"value",y] from ha)
      erw[h3,w5,r5,rfl,h5,h6];cases(show r5= [] from h6)
      refine lC (ug rfl) ?_;exact(0,Z.x,ao,ae,1,e4,af.meth _ (),0,qa,_,_,0,1,SqT.of ag,1,fin y w5 h5 hok ah)
     |none=>
      cases(show D.tup (.str kk::rr)= .tup [-"lack"] from ha)
      refine iO () ?_
      exists 0,qa,_,_,0,1,SqT.of ag,qD (j:=0) rfl,1,0;refine lC (ug rfl) ?_;exact(0,Z.x,ao,ae,1,e4,af.meth _ (),fin .non .non rfl hok ah)
    |none=>
     erw[ha,k2,r2,e5,c1,c2];cases e5;refine iO (uj (λz=>c1 (V.str.inj z))) ?_
     exists 0,qa,_,_,0,1,SqT.of ag,qD (j:=0) rfl,1,0;refine iO (uj (λz=>c2 (V.str.inj z))) ?_
     exists 0,q,_,_,0,1,SqT.of aF,1,(sml rfl),λt5 aH=>?_;let s5:=qf aH (-[V.str "stuck",V.str m]);let aI:↑ae<1000:=by have:=af.len;omega
     exists 0,Z.x,_,ao,ae,1,s5 _ _ e4,T.qQ,T.Q7,aI;let aV:=Is.new (H:=H4) (ds:= [-"stuck",!m]) (p:=t5) (_,0,yU (),_,0,[1:aB],1) aH
     erw[ku (C:=a.qL) (CM:=a.qo) (g:=Z) (s:={s1 with en:= .tup [-"stuck",!m]}) (s5 _ _ e4) (af.set_end (u:=-t5)) (i4.mono s5.tk) (j4.mono s5.tk) (aG.same s5) aV,g1,g2]
     let aJ:nG Z {s1 with en:= .tup [-"stuck",!m]} (Ld p1 m):=(O.rel.n,O.rel.mb,O.rel.ra,O.rel.run,O.rel.own,1)
     let aW:Kp [o.df] H1 (upd H4 t5 (-[V.str "stuck",V.str m])):=ad.trans (Kp.of s5);obtain⟨m1,m2⟩:=O.more hB hK hL aW (s5 _ _ f4) (d4.mono s5.tk) l4 (λb ob h n=>g2.kept b ob h (λy=>n (by rw[y];exact ui))) g2.tk g1 aJ (λb hb=> .inl hb) (Sf he hw hy)
     exact(_,m2,_,_,am,_,0,1,m1)
abbrev Xu (CG CM:o3)(H:Hp)(ox:o3):oj (Gc×Gs)->oj (Str×Gp)->Prop
 | [],[]=>True|q::t,p::l=>mj CG CM H q.1 q.2/\nG q.1 q.2 p.2/\q.1.o=ox/\Xu CG CM H ox t l|_,_=>False
abbrev Pf:oj (Gc×Gs)->oj o3
 | []=> []|q::t=>plc q.1 q.2++Pf t
abbrev Sep:oj (Gc×Gs)->Prop
 | []=>True|q::t=>(∀b>plc q.1 q.2,b∉Pf t)/\Sep t
def Xu.frame {CG CM ox:o3}{H H':Hp}:∀{st:oj (Gc×Gs)}{l:oj (Str×Gp)},Xu CG CM H ox st l->(∀b>Pf st,∀ob,H b=u_ ob->H' b=u_ ob)->Tk H H'->Xu CG CM H' ox st l
 | [],[],_,_,_=>trivial| [],_::_,h,_,_=>h.elim|_::_,[],h,_,_=>h.elim|q::t,p::l,⟨h1,h2,h3,h4⟩,hk,tk=>(h1.frame (λb O=>hk b (uX _ O)) tk,h2,h3,Xu.frame h4 (λb O=>hk b (uN _ O)) tk)
def Xu.there {CG CM ox:o3}{H:Hp}:∀{st:oj (Gc×Gs)}{l:oj (Str×Gp)},Xu CG CM H ox st l->∀b>Pf st,∃ob,H b=u_ ob
 | [],[],_=>λb O=>by cases O| [],_::_,h=>h.elim|_::_,[],h=>h.elim|q::t,p::l,⟨h1,h2,h3,h4⟩=>λb O=>by
  rcases Ac.mp O with O|O
  .exact h1.there b O
  .exact Xu.there h4 b O
def Xu.len {CG CM ox:o3}{H:Hp}:∀{st:oj (Gc×Gs)}{l:oj (Str×Gp)},Xu CG CM H ox st l->↑st=↑l
 | [],[],_=>rfl| [],_::_,h=>h.elim|_::_,[],h=>h.elim|q::t,p::l,⟨h1,h2,h3,h4⟩=>by rw[uB,uB,Xu.len h4]
def BN {Y:Sy}:∀l:oj (Str×Y.G),↑l<=Sy.lfts l
 | []=>uq _|(_,g)::r=>by
  have:=BN r;show ↑r+1<=Y.lft g+1+Sy.lfts r;omega
def Adm (O:Qa qs)(n:Str):Sy.mu (Sy.S0 (SyP qs) n)<=20000:=by
 let U:=O.2.2;let Z:∀S:Sy.Ss (SyP qs),↑(Sy.rest S)<=60:=λS=>by
  let h1:↑(Sy.rest S)<=(qs.map (·.1)).length:=UB _ _;rw[uc] at h1;omega
 unfold Sy.mu;let h2:=Z (Sy.S0 (SyP qs) n);let h3:(SyP qs).M=302:=rfl;rw[h3];let h4:Sy.lfts (Sy.S0 (SyP qs) n).stk<=303:=by
  unfold Sy.S0;cases hg:(SyP qs).g0 n with
  |none=>exact vc _|some g=>
   have:=(Qs qs).l0 n g hg;show(SyP qs).lft g+1+0<=303;let h3:(SyP qs).M=302:=rfl;omega
 omega
structure OI {qs:oj (Str×D)}(CG CM:o3)(H0 H:Hp)(o:Oc)(n0:Str)(S:Sy.Ss (SyP qs))(st:oj (Gc×Gs))(uk rk fk:oj (Key×V)):Prop where
 kp:Kp (LO o) H0 H
 nx:∃j,S=Sy.nx (Sy.S0 (SyP qs) n0) j
 ls:H o.ls=u_ (.lst (st.reverse.map λq=>V.ref q.1.x))
 du:H o.du=u_ (.dK uk)
 uo:S6 S uk
 ul:↑uk+Sy.mu S<=20001
 dr:H o.dr=u_ (.dK rk)
 rks:rk.map (·.1)=S.don.map λp=>Vl p.1
 rv:L2.IsL H (S.don.map λp=>xB p.2) (rk.map (·.2))
 rl:↑S.don+Sy.mu S<=20001
 df:H o.df=u_ (.dK fk)
 fd:C0 H S fk
 fl:↑fk+Sy.mu S<=20001
 stk:Xu CG CM H o.x st S.stk
 new:∀b>Pf st,H0 b=U_
 sep:Sep st
 gi:SGI S
 fin:∀q>S.don,(Gp.en q.2).isSome=v_
 nd:(S.stk.map (·.1)++S.don.map (·.1)).Nodup
def S8 (n:Str)(j:Nat):((Sy.nx (Sy.S0 (SyP qs) n) j).stk.map (·.1)++(Sy.nx (Sy.S0 (SyP qs) n) j).don.map (·.1)).Nodup:=by
 cases O:(SyP qs).g0 n with
 |some g=>exact(Sy.nx_ok (Qs qs) (Sy.S0_ok O) j).nd|none=>
  let e:Sy.nx (Sy.S0 (SyP qs) n) j=⟨[],[]⟩:=by
   let U:Sy.S0 (SyP qs) n=⟨[],[]⟩:=by unfold Sy.S0;rw[O]
   rw[U]
   induction j with
   |zero=>rfl|succ j Z=>show Sy.nxt _=_;rw[Z];rfl
  rw[e];exact vI
inductive On (CO CP:Addr):Sp
 |mk (o:Oc)(qs:List (Str×D))(n:Str)(_:vs= [-o.x,!n])(_:Bs CO CP H o qs)(_:H o.ls=u_ (.lst []))(_:H o.du=u_ (.dK []))(_:H o.dr=u_ (.dK []))(_:H o.df=u_ (.dK []))(_:∀(H':Hp)(rk uk fk:List (Key×V))(don:List (Str×Gp))(j:Nat),H' o.du=u_ (.dK uk)->S6 #[Y,[],don] uk->H' o.df=u_ (.dK fk)->C0 H' #[Y,[],don] fk->↑fk<=20001->SGI #[Y,[],don]->Kp (LO o) H H'->Sy.nx (Sy.S0 (SyP qs) n) j=⟨[],don⟩->H' o.dr=u_ (.dK rk)->(rk.map (·.1)=don.map λp=>Vl p.1)->L2.IsL H' (don.map λp=>xB p.2) (rk.map (·.2))->(∀p>don,GI p.2/\p.2.en.isSome=v_)->↑don<=20001->Q .non H')
def qaa {α:Type}{xs:oj α}{x:α}:atI (xs++ [x]) (-1)=u_ x:=by
 unfold atI ixN;let O:↑(xs++ [x])=↑xs+1:=by simp
 rw[A4 (),A6 ()]
 show(xs++ [x])[(-1+(↑(xs++ [x]):Int)).toNat]? =u_ x;rw[show(-1+(↑(xs++ [x]):Int)).toNat=↑xs by omega]
 simp
def Nt {Y:Sy}(S:Sy.Ss Y)(i:Nat):∀j,Sy.nx S (i+j)=Sy.nx (Sy.nx S i) j
 |0=>rfl|j+1=>by show Sy.nxt (Sy.nx S (i+j))=Sy.nxt (Sy.nx (Sy.nx S i) j);rw[Nt S i j]
def AbE {qs:oj (Str×D)}(S:Sy.Ss (SyP qs)):∀j,Sy.mu (Sy.nx S j)<=Sy.mu S
 |0=>uq _|j+1=>by
  let h:=AbE S j;show Sy.mu (Sy.nxt (Sy.nx S j))<=_;by_cases c:(Sy.nx S j).stk= []
  .let e:Sy.nxt (Sy.nx S j)=Sy.nx S j:=by unfold Sy.nxt;rw[c]
   rwa[e]
  .have:=Sy.nxt_mu (Qs qs) c;omega
def Po:#[C,13,a.yI,a.yR,["self","name"],(On a.qr a.qE)]:=by
 let Qe:=#[D9,T];let ji:=#[L5,T,C];let zk:=#[Abz,T,C];let Xm:=#[Ed,T];exists 9,T.iR,QO
 erw[h,o,qs,n,rfl,hB,bF,bo,bG,bH,k];let hs:=uE;let hO:=hB.oa;exists 3,%[#[qH,#[qp,yH,#[Qk,pv 0,T.qx,T.im,Qe,#v[pv 1]],qR,qw _],%[|#[qZ,#[Qk,pv 0,T.qx,T.iP,ji,#v[pv 1]]]],qt]|#[zd,#[Bx,3,#[qP,5,pv 0,rfl],(λ_=>rfl)],%[#[qF,(2),QO.nd,#[qG,7,Yb,#[qP,5,pv 0,rfl],#[Pi,6,C6,qi],(λ_ _=>rfl)]],#[qF,(3),QO.nd,#[Qk,pv 0,T.qx,T.lz,zk,#v[pv 2]]]|#[qH,#[qp,yH,pv 3,qR,qw _],%[#[qZ,#[Nl,9,v9,PySem.F.slot_list_pop,PySem.F.type_list_pop,Nw,#[qP,5,pv 0,rfl],_,_]],#[qZ,#[LI,7,#[qP,5,pv 0,rfl],#[qP,5,pv 2,rfl],(1,1,1,1)]]|#[qZ,#[Qk,pv 0,T.qx,T.lc,Xm,#v[pv 2]]]],%[|#[qZ,#[Qk,pv 0,T.qx,T.iP,ji,#v[pv 3]]]]]]]]
 let bI:=Adm hB.q n;exists 8,N,hN;let bJ:∀(H1:Hp) (S:Sy.Ss (SyP qs)) (st:oj (Gc×Gs)) (uk rk fk:oj (Key×V)),OI a.qL a.qo H H1 o n S st uk rk fk->N [u_ (-o.x),u_ (!n),U_,U_] H1:=by
  intro H1 S st uk rk fk h1;refine hN _ _ ?_
  refine_lift let J_:Nat->L2.St->Hp->Prop:=λmm σ H2=>∃(S:Sy.Ss (SyP qs)) (st:oj (Gc×Gs)) (uk rk fk:oj (Key×V)) (u3 u4:om V),σ= [u_ (-o.x),u_ (!n),u3,u4]/\mm=Sy.mu S/\OI a.qL a.qo H H2 o n S st uk rk fk;?_
  exists J_,(_,S,st,uk,rk,fk,U_,U_,1,1,h1);clear h1 bo bG bH bF;rintro mm σ H2 ⟨S,st,uk,rk,fk,u3,u4,rfl,rfl,Z⟩;let bp:=hB.at Z.kp
  exists 0,o.x,_,o.dx,_,0,bp.e,T.qx,T.QF,Ma o,_,.inl [_:SqL.of Z.ls:1];obtain⟨(stk:oj (Str×Gp)),(don:oj (Str×Gp))⟩:=S;let ax:Xu a.qL a.qo H2 o.x st stk:=Z.stk;cases st with
  |nil=>
   cases stk with
   |cons p l=>exact ax.elim|nil=>
    refine iO rfl ?_;erw[Z.nx,j,hj];exact k H2 rk uk fk don j Z.du Z.uo Z.df Z.fd (by have:=Z.fl;omega) Z.gi Z.kp hj.symm Z.dr Z.rks Z.rv (λp hp=>[(Z.gi p (.inr hp)).1:Z.fin p hp]) (by have:=Z.rl;let e:↑(#[Y,[],don].don)=↑don:=rfl;omega)
  |cons q t=>
   erw[q,gc,gs];cases stk with
   |nil=>exact ax.elim|cons p l=>
    erw[p,O,p];erw[ax,hG,bq,bK,hT];let hG:mj a.qL a.qo H2 gc gs:=hG;let bq:nG gc gs p:=bq;let am:H2 o.ls=u_ (.lst ((t.reverse.map λq=>V.ref q.1.x)++ [V.ref gc.x])):=by
     have:=Z.ls;rwa[vR,ur] at this
    refine lC (by rw[vR,ur];show(!((T0 _ t.reverse)++ [V.ref gc.x]).isEmpty)=v_;simp) ?_
    exists λσ' H'=>∃m',m'<Sy.mu #[Y,(O,p)::l,don]/\J_ m' σ' H',λ_ _ h=>h;exists 8,B1,b1
    exists 0,o.x,_,o.dx,_,0,bp.e,T.qx,T.QF,Ma o,0,o.ls,_,_,0,1,SqL.of am,qaa,b1 _ _ ?_;exists 8,B2,b2;let ao:∀b>plc gc gs,H b=none:=λb U=>Z.new b (uX _ U);let ac:∀b>Pf t,H b=none:=λb U=>Z.new b (uN _ U);let bL:∃j,#[Y,(O,p)::l,don]=Sy.nx #[Y,(O,p)::l,don] j:=[(0):1]
    exists 0,o.x,o.dx,0,bp.e,wI o _ (),0,H,o,qs,gc,gs,O,p,l,don,uk,fk,(20001),1,hB,Z.kp,Z.du,Z.uo,Z.fin,(),bK,ao,(bL,Z.fl,λ_ _ h _=>h,Tk.refl _,Z.df,Z.fd,hG,bq,λb U=> .inl U,Z.gi),λv H3 ak p3 ad hR hv=>?_
    let aV:Sy.mu #[Y,(O,p3)::l,don]<=Sy.mu #[Y,(O,p)::l,don]:=by
     erw[hR.st,j,hj];let hj:#[Y,(O,p3)::l,don]=Sy.nx #[Y,(O,p)::l,don] j:=hj;rw[hj];exact AbE _ _
    let bM:∃j,#[Y,(O,p3)::l,don]=Sy.nx (Sy.S0 (SyP qs) n) j:=by
     erw[hR.st,j,hj];erw[Z.nx,i,hi];let hj:#[Y,(O,p3)::l,don]=Sy.nx #[Y,(O,p)::l,don] j:=hj;exact⟨i+j,by rwa[Nt,<-hi]⟩
    let ap:Kp (LO o) H H3:=Av hB Z.kp hR.kp hR.tk ao;let ay:=hB.at ap;let aq:∀b>plc gc ak,H b=none:=λb U=>(hR.pl b U).elim (ao b) (·.2);let out:∀b,b>LO o->b≠o.df->b∉o.df::plc gc gs:=λb U hn z=>by
     rcases Aa.mp z with z|z
     .exact hn z
     .exact hB.nlo (ao b z) U
    let b4:o.ls≠o.du/\o.ls≠o.dr/\o.ls≠o.df/\o.du≠o.dr/\o.du≠o.df/\o.dr≠o.df:=by
     let h:=hB.nd;simp![LO,vW,uF,uI,uT,Vc,vI,and_true,V6] at h;exact(h.1.1,h.1.2.1,h.1.2.2,h.2.1.1,h.2.1.2,h.2.2)
    erw[b4,d1,d2,d3,d4,d5,d6];let af:=hR.kp _ _ am (out _ (by simp[LO]) d3)
    let aA:=hR.kp _ _ Z.du (out _ (by simp[LO]) d5)
    let aB:=hR.kp _ _ Z.dr (out _ (by simp[LO]) d6)
    let bt:Xu a.qL a.qo H3 o.x t l:=hT.frame (λb U ob h=>hR.kp b ob h (λz=>by
     rcases Aa.mp z with z|z
     .exact(hB.new (ac b U)).2.2.2.2 z
     .exact Z.sep.1 b z U)) hR.tk
    let bu:∀b>plc gc ak,b∉Pf t:=λb U z=>by
     rcases hR.pl b U with U|⟨U,_⟩
     .exact Z.sep.1 b U z
     .erw[hT.there b z,ob,e];rw[e] at U;cases U
    let b5:GI p3:=(hR.gi (O,p3) (.inl ui)).1;let aW:p3.n=O:=(hR.gi (O,p3) (.inl ui)).2;let bN:=Z.ul;let bO:=hR.len;let b6:=Z.rl;let cp:↑don+Sy.mu #[Y,(O,p)::l,don]<=20001:=b6;let b7:↑ad+Sy.mu #[Y,(O,p3)::l,don]<=20001:=bO;let aC:=Sy.nxt_mu (Qs qs) (S:=#[Y,(O,p3)::l,don]) (by intro z;cases z)
    let cq:↑rk=↑don:=by
     have:=A9 Gb Z.rks;rwa[uc,uc] at this
    let aD:H3 o.df=u_ (.dK ad):=hR.df;let aO:mj a.qL a.qo H3 gc ak:=hR.go;let ag:nG gc ak p3:=hR.rel;let aX:C0 H3 #[Y,(O,p3)::l,don] ad:=hR.fd;let aY:SGI #[Y,(O,p3)::l,don]:=hR.gi;erw[bM,i3,aP];refine b2 _ _ ?_
    exists 0,1,0;rcases hv with⟨rfl,au⟩|⟨m,rfl,au,hw,hy⟩
    ·
     refine lC (ug rfl) ?_;exists 8,C1,c1;obtain⟨d,hd⟩:∃d,p3.en=u_ d:=by
      cases h:p3.en with
      |none=>rw[h] at au;cases au|some d=>exact[d:1]
     let ae:=Sg (qs:=qs) (n:=O) (r:=l) (don:=don) hd
     exists 0,o.x,_,o.dx,_,0,ay.e,T.qx,T.QF,Ma o,.inl [1:_:SqL.of af]
     exists o.ls,_,V.ref gc.x,1,1,af,by simp
     rw[List.dropLast_concat];let aa:Kp [o.ls,o.du] H3 (upd H3 o.ls (.lst (t.reverse.map λq=>V.ref q.1.x))):=⟨λb ob h n=>by rw[qj (λz=>n (by rw[z];exact ui))];exact h,iW.tk (p:=o.ls) (λb ob h n=>by rwa[qj n]) af qg⟩
     obtain⟨H4,aE⟩:∃H4,H4=upd H3 o.ls (.lst (t.reverse.map λq=>V.ref q.1.x)):=⟨0⟩;rw[<-aE] at aa⊢;refine c1 _ _ ?_;exists 8,C2,c2;let e4:H4 o.x=u_ (.ins a.qr o.dx (ofs o)):=by rw[aE,qj (λz=>by have:=ay.e;rw[z,af] at this;cases this)];exact ay.e
     let aF:H4 o.ls=u_ (.lst (t.reverse.map λq=>V.ref q.1.x)):=by rw[aE];exact qg
     let al:H4 o.du=u_ (.dK uk):=by rwa[aE,qj d1.symm]
     let bP:∀b,H b=U_->b≠o.ls:=λb U=>(hB.new U).2.1;let b8:mj a.qL a.qo H4 gc ak:=aO.frame (λb U ob h=>by rwa[aE,qj (bP b (aq b U))]) aa.tk
     erw[id b8,b9,ca,cr,cs,cu,cv,cb,f4,_];let aG:(iV uk (Vl gc.n)).isSome=true:=by
      rw[ag.n,aW];exact(Z.uo O).trans (ug ui)
     obtain⟨uv,cc⟩:∃uv,iV uk (Vl gc.n)=u_ uv:=by
      cases h:iV uk (Vl gc.n) with
      |none=>rw[h] at aG;cases aG|some uv=>exact[uv:1]
     exists 0,o.x,_,o.dx,_,0,e4,T.qx,T.Qy,Sb o,o.du,1,.inl [_:.inl al],0,gc.x,_,b9,ca,0,cb,T.qQ,T.Yq,f4.ZB,uk,Vl gc.n,uv,al,1,cc;let ah:Kp [o.ls,o.du] H3 (upd H4 o.du (.dK (J8 uk (Vl gc.n)))):=aa.trans (Kp.updD al (uh _ ui));obtain⟨H5,bv⟩:∃H5,H5=upd H4 o.du (.dK (J8 uk (Vl gc.n))):=⟨0⟩;rw[<-bv] at ah⊢;refine c2 _ _ ?_;let bQ:H5 o.du=u_ (.dK (J8 uk (Vl gc.n))):=by rw[bv];exact qg
     let bR:H5 o.ls=u_ (.lst (t.reverse.map λq=>V.ref q.1.x)):=by rwa[bv,qj d1]
     let aH:∀b,H b=U_->b∉ [o.ls,o.du]:=λb U z=>by
      simp![uF,uI,uT] at z;rcases z with z|z
      .exact(hB.new U).2.1 z
      .exact(hB.new U).2.2.1 z
     let cd:mj a.qL a.qo H5 gc ak:=aO.frame (λb U ob h=>ah.kept b ob h (aH b (aq b U))) ah.tk;let bS:H5 o.dr=u_ (.dK rk):=ah.kept _ _ aB (by simp![uF,uI,uT,Vc];exact[d2.symm:d4.symm])
     let bT:H5 o.df=u_ (.dK ad):=ah.kept _ _ aD (by simp![uF,uI,uT,Vc];exact[d3.symm:d5.symm])
     let aQ:∀b,b∉LO o->b∉ [o.ls,o.du]:=λb U z=>U (by simp![LO,uF,uI,uT] at z⊢;rcases z with z|z;exact .inl z;exact .inr (.inl z))
     let bw:Kp (LO o) H H5:=[λb ob h n=>ah.kept b ob (ap.kept b ob h n) (aQ b n):ap.tk.trans ah.tk];let bU:=hB.at bw
     exists 0,o.x,o.dx,0,bU.e,wI o _ (),0,o,qs,gc,ak,p3,rk,ad,1,bU,cd,ag,b5,au,bS,(),bT,(),d6,λz=>(hB.new (aq _ z)).2.2.2.1 rfl,λz=>(hB.new (aq _ z)).2.2.2.2 rfl,λv1 v2 H6 aw aI i6 aZ j6=>?_
     let bV:∀b,b∉LO o->b∉ [o.dr,o.df]:=λb U z=>U (by simp![LO,uF,uI,uT] at z⊢;rcases z with z|z;exact .inr (.inr (.inl z));exact .inr (.inr (.inr z)))
     let ce:∀b,H b=U_->b∉ [o.dr,o.df]:=λb U=>bV b (hB.nlo U);let cf:Kp (LO o) H H6:=[λb ob h n=>aw.kept b ob (bw.kept b ob h n) (bV b n):bw.tk.trans aw.tk];let aJ:Tk H3 H6:=ah.tk.trans aw.tk;let bx:gc.n=O:=ag.n.trans aW;let aR:(#[Y,(O,p3)::l,don].stk.map (·.1)++#[Y,(O,p3)::l,don].don.map (·.1)).Nodup:=by
      rw[aP];exact S8 n i3
     let bb:(O::(l.map (·.1)++don.map (·.1))).Nodup:=aR;let aK:O∉don.map (·.1):=λz=>(List.nodup_cons.mp bb).1 (uN _ z);let bA:O∉l.map (·.1):=λz=>(List.nodup_cons.mp bb).1 (uX _ z);let cg:iV rk (Vl O)=none:=by
      cases h:iV rk (Vl O) with
      |none=>rfl|some v=>
       have h1:=Oe h;rw[Z.rks] at h1;erw[Ae.mp h1,q,hq,e];injection e with e
       exact A8 (Ae.mpr [q:hq:e]) aK
     rw[bx] at aI aZ;rw[qae v1 cg] at aI;let bW:↑uk+Sy.mu #[Y,(O,p)::l,don]<=20001:=bN;let cw:=B8 uk (Vl gc.n:Key);let ch:=yp ad (Vl O:Key) v2;let a1:S6 #[Y,l,don++ [(O,p3)]] (J8 uk (Vl gc.n)):=by
      intro m';rw[wF];by_cases c:m'=O
      .rw[A6 (by rw[c,bx]),c]
       exact(uj bA).symm
      .rw[A4 (by rw[bx];exact λz=>c (Uw z))]
       refine(Z.uo m').trans ?_;rw[ve];exact⟨λz=>by rcases Aa.mp z with z|z;exact A8 z c;exact z,λz=>uh _ z⟩
     let a2:(rk++ [((Vl O:Key),v1)]).map (·.1)=(don++ [(O,p3)]).map λq:Str×Gp=>(Vl q.1:Key):=by
      rw[ur,ur];have:=Z.rks;rw[this]
      rfl
     let a3:L2.IsL H6 ((don++ [(O,p3)]).map λq:Str×Gp=>xB q.2) ((rk++ [((Vl O:Key),v1)]).map (·.2)):=by
      rw[ur,ur];exact((Z.rv.mono (hR.tk.trans aJ))).append (L2.IsL.one i6)
     let a4:↑(don++ [(O,p3)])=↑don+1:=by rw[uL];rfl
     let a5:∀(m':Str) (g':Gp),g0D m' (qB qs m')=u_ g'->(∀g2:Gp,Sy.Yn (Y:=SyP qs) (don++ [(O,p3)]) m'=u_ g2->∃v,iV (lW ad (Vl O) v2) (Vl m')=u_ v/\Is H6 (QE (g2.en.getD .non)) v)/\(Sy.Yn (Y:=SyP qs) (don++ [(O,p3)]) m'=U_->iV (lW ad (Vl O) v2) (Vl m')=U_):=by
      intro m' g' ci;rw[zc];by_cases c:m'=O
      .have aL:Sy.Yn (Y:=SyP qs) (don++ [(O,p3)]) m'=(u_ p3:om Gp):=by
        have e1:(don.find? λq=>decide (q.1=m'))=none:=List.find?_eq_none.mpr λq hq e=>aK (by rw[<-c,<-uC e];exact List.mem_map_of_mem hq)
        have e2:((don++ [(O,p3)]).find? λq:Str×Gp=>decide (q.1=m'))=u_ (O,p3):=by rw[rf,e1,c];simp
        show((don++ [(O,p3)]).find? λq:Str×Gp=>decide (q.1=m')).map (·.2)=u_ p3;rw[e2]
        rfl
       exists λg2 e2=>?_,λz=>?_
       .have e3:=aL.symm.trans e2;cases e3;rw[A6 (by rw[c])]
        exact[v2:1:j6]
       .have e3:=aL.symm.trans z;cases e3
      .have aL:Sy.Yn (Y:=SyP qs) (don++ [(O,p3)]) m'=Sy.Yn (Y:=SyP qs) don m':=by
        have e2:((don++ [(O,p3)]).find? λq:Str×Gp=>decide (q.1=m'))=don.find? λq:Str×Gp=>decide (q.1=m'):=by
         rw[rf];have:([(O,p3)].find? λq:Str×Gp=>decide (q.1=m'))=none:=by simp;exact λz=>c z.symm
         rw[this,Option.or_none]
        show((don++ [(O,p3)]).find? λq:Str×Gp=>decide (q.1=m')).map (·.2)=(don.find? λq:Str×Gp=>decide (q.1=m')).map (·.2);rw[e2]
       rw[A4 (λz=>c (Uw z))];let aM:(∀g2:Gp,Sy.Yn (Y:=SyP qs) don m'=u_ g2->∃v,iV ad (Vl m')=u_ v/\Is H6 (QE (g2.en.getD .non)) v)/\(Sy.Yn (Y:=SyP qs) don m'=U_->iV ad (Vl m')=U_):=(aX.mono aJ) m' g' ci;exact[λg2 e2=>aM.1 g2 (aL.symm.trans e2):λz=>aM.2 (aL.symm.trans z)]
     let a6:Xu a.qL a.qo H6 o.x t l:=bt.frame (λb U ob h=>aw.kept b ob (ah.kept b ob h (aH b (ac b U))) (ce b (ac b U))) aJ;let a7:∀q>don++ [(O,p3)],q.2.en.isSome=true:=by
      intro q hq;rcases Ac.mp hq with hq|hq
      .exact Z.fin q hq
      .cases Ab.mp hq;exact au
     let eN:Sy.nx (Sy.S0 (SyP qs) n) (i3+1)=Sy.nxt #[Y,(O,p3)::l,don]:=by show Sy.nxt (Sy.nx _ i3)=_;rw[<-aP]
     let a8:=S8 (qs:=qs) n (i3+1);rw[eN] at a8;let a9:=Et hB.q aY;let bB:OI a.qL a.qo H H6 o n (Sy.nxt #[Y,(O,p3)::l,don]) t (J8 uk (Vl gc.n)) (rk++ [(Vl O,v1)]) (lW ad (Vl O) v2):=by
      exists cf,[i3+1:eN.symm],aw.kept _ _ bR (by simp![uF,uI,uT,Vc];exact[d2:d3]),aw.kept _ _ bQ (by simp![uF,uI,uT,Vc];exact[d4:d5]),?_,(),aI,?_,?_,?_,aZ,?_,(),?_,ac,Z.sep.2,a9,?_,a8
      .rwa[ae]
      .rwa[ae]
      .rwa[ae]
      .have e:(Sy.nxt #[Y,(O,p3)::l,don]).don.length=↑don+1:=by rwa[ae]
       omega
      .rwa[ae]
      .rwa[ae]
      .rwa[ae]
     exact(_,Vx aC aV,_,t,_,_,_,_,0,1,bB)
    ·
     refine iO (uj (λz=>by cases z)) ?_
     erw[Me (qs:=qs) au hw hy,p',cj,ae];rw[ae] at aC;erw[Sy.jj hy,y1,_,y3];let bX:=BN (Y:=SyP qs) ((O,p3)::l);let aS:↑((O,p3)::l)<=Sy.mu #[Y,(O,p3)::l,don]:=uY bX (Vb _ _);let cx:↑t=↑l:=hT.len;let bW:↑uk+Sy.mu #[Y,(O,p)::l,don]<=20001:=bN
     exists 0,o.x,o.dx,0,ay.e,wI o _ (),0,o,m,qs,_,uk,p',1,ay,hB.q,af,?_,aA,(),cj,λgn sn H4 aa aF al bC bD bE aT=>?_
     .rw[uL,uc,Fp,vU];rw[uB] at aS;omega
     let aQ:∀b,b∉LO o->b∉ [o.ls,o.du]:=λb U z=>U (by simp![LO,uF,uI,uT] at z⊢;rcases z with z|z;exact .inl z;exact .inr (.inl z))
     let ck:Kp (LO o) H H4:=[λb ob h n=>aa.kept b ob (ap.kept b ob h n) (aQ b n):ap.tk.trans aa.tk];let aH:∀b,H b=U_->b∉ [o.ls,o.du]:=λb U=>aQ b (hB.nlo U);let aN:∀b>plc gn sn,H b=none:=λb U=>by
      have h3:=aT b U;cases h:H b with
      |none=>rfl|some ob=>
       by_cases c:b>LO o
       .simp![LO,uF,uI,uT] at c;rcases c with rfl|rfl|rfl|rfl
        .rw[af] at h3;cases h3
        .rw[aA] at h3;cases h3
        .rw[aB] at h3;cases h3
        .rw[aD] at h3;cases h3
       .rw[ap.kept b ob h c] at h3;cases h3
     exists _,Vx aC aV,[(m,p')::(O,p3)::l:don],(gn,sn)::(gc,ak)::t,lW uk (Vl m) (.bl v_),rk,ad,_,0,1;let ch:=yp uk (Vl m:Key) (.bl v_)
     exists 5
     refine(ck,⟨i3+1,by show _=Sy.nxt (Sy.nx _ i3);rw[<-aP,ae]⟩,?_,al,?_,(),aa.kept _ _ aB (by simp![uF,uI,uT,Vc];exact[d2.symm:d4.symm]),Z.rks,Z.rv.mono (hR.tk.trans aa.tk),?_,aa.kept _ _ aD (by simp![uF,uI,uT,Vc];exact[d3.symm:d5.symm]),?_,(),?_,?_,?_,?_,Z.fin,?_)
     .rw[aF,vR,vR,ur,ur]
      rfl
     .intro m';rw[zc];by_cases c:m'=m
      .rw[A6 (by rw[c])]
       exact(ug (by rw[c];exact ui)).symm
      .rw[A4 (λz=>c (Uw z))];refine(Z.uo m').trans ?_;rw[ve];exact⟨λz=>uh _ z,λz=>by rcases Aa.mp z with z|z;exact A8 z c;exact z⟩
     .show ↑don+_<=_;omega
     .exact aX.mono aa.tk
     .exact(bC,bD,bE,aO.frame (λb U ob h=>aa.kept b ob h (aH b (aq b U))) aa.tk,ag,bK,bt.frame (λb U ob h=>aa.kept b ob h (aH b (ac b U))) aa.tk)
     .intro b U;rcases Ac.mp U with U|U
      .exact aN b U
      .rcases Ac.mp U with U|U
       .exact aq b U
       .exact ac b U
     .exists λb U z=>?_,bu,Z.sep.2;let h3:=aT b U;rcases Ac.mp z with z|z
      .erw[aO.there b z,ob,e];rw[e] at h3;cases h3
      .erw[bt.there b z,ob,e];rw[e] at h3;cases h3
     .have:=Et hB.q aY;rwa[ae] at this
     .have:=S8 (qs:=qs) n (i3+1);let e:Sy.nx (Sy.S0 (SyP qs) n) (i3+1)=⟨(m,p')::(O,p3)::l,don⟩:=by show Sy.nxt (Sy.nx _ i3)=_;rw[<-aP,ae]
      rwa[e] at this
 let u0:S6 #[Y,[],[]] []:=λm=>by rw[KF];rfl
 let f0:C0 H #[Y,[],[]] []:=λm g hg=>⟨(λg' e=>by cases e),λ_=>KF⟩
 let g0:SGI #[Y,[],[]]:=λp hp=>by rcases hp with hp|hp<;>cases hp
 exists 0,o.x,o.dx,0,hO.e,wI o _ (),0,o,n,qs,#[Y,[],[]],[],[],1,hO,hB.q,g0,bo,u0,bH,f0,(),(λ_ z=>by cases z),λv H1 fk1 k1 f1 d1 l1 bY y1=>?_
 let aR:=hB.nd;simp![LO,vW,uF,uI,uT,Vc,vI,and_true,V6] at aR;erw[aR,[n1,n2,n3],[n4,n5],n6];let nin:∀b,b≠o.df->b∉ [o.df]:=λb U z=>U (Ab.mp z);let aU:Kp (LO o) H H1:=⟨λb ob h z=>k1.kept b ob h (λy=>z (by rw[Ab.mp y];simp[LO])),k1.tk⟩
 let bZ:=hB.at aU;let bc:=k1.kept _ _ bF (nin _ n3);let bd:=k1.kept _ _ bo (nin _ n5);let bg:=k1.kept _ _ bG (nin _ n6)
 exists 1,0;unfold AY at y1;cases hg:(SyP qs).g0 n with
 |none=>
  let ey:Sy.yet #[Y,[],[]] n=u_ (u_ ((SyP qs).once n)):=by
   unfold Sy.yet;rw[A4 (by intro z;cases z),hg]
  rw[ey] at y1;erw[y1,d,i1,i2,_];let cm:d≠ .non:=by
   cases h:(SyP qs).once n with
   |none=>rw[h] at i2;intro z;rw[z] at i2;cases i2|some x=>rw[h] at i2;intro z;rw[z] at i2;cases i2
  refine iO (uj (jQ i1 cm)) ?_;let e0:Sy.S0 (SyP qs) n=⟨[],[]⟩:=by unfold Sy.S0;rw[hg]
  rw[e0] at bI;let l1:↑fk1<=0+1:=l1;exact bJ H1 [[]:[]] [] [] [] fk1 (aU,[(0):e0.symm],bc,bd,u0,(by show 0+_<=_;omega),bg,1,1,(by show 0+_<=_;omega),f1,d1,(),trivial,(λb U=>by cases U),trivial,g0,(λq hq=>by cases hq),vI)
 |some p=>
  let ey:Sy.yet #[Y,[],[]] n=none:=by
   unfold Sy.yet;rw[A4 (by intro z;cases z),hg]
   rfl
  rw[ey] at y1;cases(show v= .non from y1)
  refine lC (ug rfl) ?_;let e0:Sy.S0 (SyP qs) n=⟨[(n,p)],[]⟩:=by unfold Sy.S0;rw[hg]
  rw[e0] at bI;let bY:↑fk1=0:=bY ey
  exists 0,o.x,o.dx,0,bZ.e,wI o _ (),0,o,n,qs,[],[],p,1,bZ,hB.q,bc,(),bd,(),hg,λgn sn H2 k2 am b3 bC bD bE aT=>?_
  let cn:Kp (LO o) H H2:=⟨λb ob h z=>k2.kept b ob (aU.kept b ob h z) (λy=>z (by simp![LO,uF,uI,uT] at y⊢;rcases y with y|y;exact .inl y;exact .inr (.inl y))),aU.tk.trans k2.tk⟩
  let aN:∀b>plc gn sn,H b=none:=λb U=>by
   let h3:=aT b U;cases h:H b with
   |none=>rfl|some ob=>
    by_cases c:b=o.df
    .rw[c,f1] at h3;cases h3
    .rw[k1.kept b ob h (nin b c)] at h3;cases h3
  let bh:∀b,b≠o.ls->b≠o.du->b∉ [o.ls,o.du]:=λb h1 h2 z=>by
   simp![uF,uI,uT] at z;rcases z with z|z
   .exact h1 z
   .exact h2 z
  refine bJ H2 [[(n,p)]:[]] [(gn,sn)] (lW [] (Vl n) (.bl v_)) [] fk1 (cn,[(0):e0.symm],am,b3,?_,?_,k2.kept _ _ bg (bh _ (U6 n2) (U6 n4)),1,1,(by show 0+_<=_;omega),k2.kept _ _ f1 (bh _ (U6 n3) (U6 n5)),d1.mono k2.tk,(),(bC,bD,bE,trivial),?_,⟨λb U z=>(by cases z),trivial⟩,?_,(λq hq=>by cases hq),?_)
  .intro m';rw[zc];by_cases c:m'=n
   .rw[A6 (by rw[c])]
    exact(ug (by rw[c];exact ui)).symm
   .rw[A4 (λz=>c (Uw z)),KF];exact(uj (λz=>c (Ab.mp z))).symm
  .have:=yp [] (Vl n:Key) (.bl v_);rw[HN] at this;omega
  .intro b U;rcases Ac.mp U with U|U
   .exact aN b U
   .cases U
  .intro q hq;rcases hq with hq|hq
   .cases Ab.mp hq;exact Kr hB.q hg
   .cases hq
  .exact List.nodup_cons.mpr ⟨(λz=>by cases z),vI⟩
end
namespace Sy
variable {Y:Sy}
variable {n0:Str}
def Aas (h:Y.Ok){n:Str}{g:Y.G}{r don:oj (Str×Y.G)}(hs:SOk n0 ([(n,g)::r:don]:Ss Y))(hf:Y.fin g=Vi)(hw:Y.want g=u_ m){o:om (om D)}(O:yet ([(n,g)::r:don]:Ss Y) m=u_ o):F Y m=o:=by
 erw[hs,[[s,k,U,hk],c2,c3],nd,Z,bot];unfold yet at O;by_cases c:m>((n,g)::r).map (·.1)
 .rw[A6 c] at O;cases O;let w:Wt Y n m:=(s,k,U,by rwa[<-hk],by rwa[<-hk])
  rcases Aa.mp c with rfl|hm
  .exact XQ h (.one w)
  .exact XQ h (.more (IA (g:=g) [(s,k,U,hk):c2:c3] hm) w)
 .rw[A4 c] at O;cases hg:Y.g0 m with
  |none=>
   rw[hg] at O;cases O;exact F_once h hg
  |some gm=>
   rw[hg] at O;simp only at O;cases hd:Yn don m with
   |none=>rw[hd] at O;cases O|some gd=>
    rw[hd] at O;cases O;erw[Z _ (XZ hd),s',e1,e2];rw[hg] at e1;cases e1;let e3:gd=it Y (F Y) Y.M gm:=e2;rw[F_run h hg,e3]
abbrev NX (Y:Sy)(ns:oj Str)(n:Str)(g:Y.G):Prop:=∃s k,Y.g0 n=u_ s/\g=it Y (F Y) k s/\∀i,i<k->Y.fin (it Y (F Y) i s)=Vi->∀m,Y.want (it Y (F Y) i s)=u_ m->Y.g0 m=U_\/m>ns
def NX.more {ns O:oj Str}{n:Str}{g:Y.G}(h:NX Y ns n g)(hn:∀m>ns,m>O):NX Y O n g:=by
 erw[h,s,k,h1,h2,h3];exact(s,k,h1,h2,λi hi U m Z=>(h3 i hi U m Z).imp id (hn m))
abbrev Y1 (S:Ss Y):oj Str:=S.stk.map (·.1)++S.don.map (·.1)
abbrev Clo (S:Ss Y):Prop:=∀p,p>S.stk\/p>S.don->NX Y (Y1 S) p.1 p.2
variable {S:Ss Y}
def Si (h:Y.Ok)(hs:SOk n0 S)(c:Clo S):Clo (nxt S):=by
 erw[S,stk,don];cases stk with
 |nil=>exact c|cons p r=>
  erw[p,n,g];let c0:=c (n,g) (.inl ui);let on:∀g',Y.fin g=Vi->step Y (F Y) g=g'->(∀m,Y.want g=u_ m->Y.g0 m=U_\/m>Y1 (⟨(n,g)::r,don⟩:Ss Y))->Clo (⟨(n,g')::r,don⟩:Ss Y):=by
   intro g' hf e hm p O;let U:∀m>Y1 (⟨(n,g)::r,don⟩:Ss Y),m>Y1 (⟨(n,g')::r,don⟩:Ss Y):=λm hm=>hm;let top:NX Y (Y1 (⟨(n,g')::r,don⟩:Ss Y)) n g':=by
    erw[c0,s,k,h1,h2,h3];let h2:g=it Y (F Y) k s:=h2;exists s,k+1,h1,by rw[XF,<-h2,e],λi hi aa m hw=>?_
    by_cases ci:i<k
    .exact(h3 i ci aa m hw).imp id (U m)
    .have:i=k:=by omega
     subst this;rw[<-h2] at hw;exact(hm m hw).imp id (U m)
   rcases O with O|O
   .rcases Aa.mp O with rfl|O
    .exact top
    .exact(c p (.inl (uh _ O))).more U
   .exact(c p (.inr O)).more U
  unfold nxt;simp only;cases hf:Y.fin g with
  |true=>
   rw[A6 rfl];let U:∀m>Y1 (⟨(n,g)::r,don⟩:Ss Y),m>Y1 (⟨r,don++ [(n,g)]⟩:Ss Y):=by
    intro m hm;unfold Y1 at hm⊢;simp![uw,ur,U4,vZ,uF,V1,uI,uT] at hm⊢;rcases hm with hm|hm|hm
    .exact .inr (.inr hm)
    .exact .inl hm
    .exact .inr (.inl hm)
   intro p O;rcases O with O|O
   .exact(c p (.inl (uh _ O))).more U
   .rcases Ac.mp O with O|O
    .exact(c p (.inr O)).more U
    .cases Ab.mp O;exact c0.more U
  |false=>
   rw[A4 ub];let Z:step Y (F Y) g=match Y.want g with
     |none=>Y.own g|some m=>match F Y m with
      |some a=>Y.tk g a|none=>Y.stuck g m:=by
    unfold step;rw[hf,A4 ub]
    all_goals rfl
   cases hw:Y.want g with
   |none=>exact on _ hf (by rw[Z,hw]) λm z=>by rw[hw] at z;cases z|some m=>
    rw[hw] at Z;simp only at Z⊢;cases hy:yet ([(n,g)::r:don]:Ss Y) m with
    |some o=>
     let hF:=Aas h hs hf hw hy;let hm:∀m',Y.want g=u_ m'->Y.g0 m'=U_\/m'>Y1 (⟨(n,g)::r,don⟩:Ss Y):=by
      intro m' z;rw[hw] at z;cases z;unfold yet at hy;by_cases cm:m>((n,g)::r).map (·.1)
      .exact .inr (uX _ cm)
      .rw[A4 cm] at hy;cases hg:Y.g0 m with
       |none=>exact .inl rfl|some gm=>
        rw[hg] at hy;simp only at hy;cases hd:Yn don m with
        |none=>rw[hd] at hy;cases hy|some gd=>exact .inr (uN _ (Ae.mpr [_:XZ hd:1]))
     cases o with
     |some a=>exact on _ hf (by rw[Z,hF]) hm|none=>exact on _ hf (by rw[Z,hF]) hm
    |none=>
     simp only;erw[jj hy,h1,[g',hg],h2];rw[hg];let U:∀m'>Y1 (⟨(n,g)::r,don⟩:Ss Y),m'>Y1 (⟨(m,g')::(n,g)::r,don⟩:Ss Y):=λm' hm=>uh _ hm;intro p O;rcases O with O|O
     .rcases Aa.mp O with rfl|O
      .exact(g',(0),hg,1,λi hi=>A8 hi (U7 i))
      .exact(c p (.inl O)).more U
     .exact(c p (.inr O)).more U
def nx_clo (h:Y.Ok){n0:Str}{S:Ss Y}(O:SOk n0 S)(c:Clo S):∀k,Clo (nx S k)
 |0=>c|k+1=>Si h (nx_ok h O k) (nx_clo h O c k)
def S0_clo {n:Str}{g:Y.G}(U:Y.g0 n=u_ g):Clo (S0 Y n):=by
 unfold S0;rw[U];intro p O;rcases O with O|O
 .cases Ab.mp O;exact(g,(0),U,1,λi hi=>A8 hi (U7 i))
 .cases O
variable {i:Nat}
def end_clo (h:Y.Ok){g0:Y.G}(U:Y.g0 n0=u_ g0){k:Nat}{don:oj (Str×Y.G)}(hk:nx (S0 Y n0) k=[[]:don]){p:Str×Y.G}(hp:p>don){s:Y.G}(Z:Y.g0 p.1=u_ s)(hf:Y.fin (it Y (F Y) i s)=Vi)(hw:Y.want (it Y (F Y) i s)=u_ m):Y.g0 m=U_\/m>don.map (·.1):=by
 let c:=nx_clo h (S0_ok U) (S0_clo U) k;let ok:=nx_ok h (S0_ok U) k;rw[hk] at c ok;erw[c p (.inr hp),s',k',h1,h2,h3];rw[Z] at h1;cases h1;erw[ok.don p hp,s2,e1,e2];rw[Z] at e1;cases e1;let O:Y.fin (it Y (F Y) k' s)=true:=by
  rw[<-h2,e2];exact Wx h _ _ (h.l0 _ _ Z)
 let aa:i<k':=by
  rcases V8 i k' with z|z
  .exact z
  .erw[Vg z,d,rfl];rw[Wr,ZT O,O] at hf;cases hf
 rcases h3 i aa hf m hw with z|z
 .exact .inl z
 .exact .inr (by simpa [Y1] using z)
end Sy
section
variable {qs qs':oj (Str×D)}
nonrec abbrev FP (qs:oj (Str×D)):Sy.Orc:=Sy.F (SyP qs)
nonrec abbrev itP (qs:oj (Str×D)) (k:Nat) (g:Gp):Gp:=Sy.it (SyP qs) (FP qs) k g
def Xo (g:Gp):Sy.step (SyP qs) (FP qs) g=if g.en.isSome=v_ then g else match yk g with
  |none=>nw qs g|some m=>match FP qs m with
   |some a=>QS g (a.getD .non)|none=>Ld g m:=rfl
abbrev Qi (p:Gp):oj D:=p.ra++runPG' p.run
where runPG':om (oj Rw×Rn)->oj D
 |none=> []|some (_,r)=>r.gs
abbrev GA (g:Gp):Prop:=g.run=U_->g.en=U_->g.ra= []
def wO {rs:oj Rw}{own:Str}{gs:oj D}:∀(f:Nat) (B:Str->D) (p:Int) (n:Nat),(mW rs own gs f B p n).gs=gs
 |0,B,p,n=>rfl|f+1,B,p,n=>by
  unfold mW;by_cases c:GT.gt p ↑rs
  .rw[A6 c]
  .rw[A4 c];cases U:mM own (Jo rs p) B p with|go O p'=>exact wO f O p' (n+1)|stop e=>rfl
def AV {r:Rn}{a:D}:(mw rs own r a).gs=r.gs++ [-[xu r.th,a]]:=by
 unfold mw;split
 .rfl
 .exact wO _ _ _ _
def Cf (h:g.run=U_)(d:D):Qi (mt g d)=g.ra/\GA (mt g d):=by
 unfold mt;split
 .exists ?_,λ_ z=>by cases z
  show g.ra++Qi.runPG' g.run=g.ra;rw[h];exact uU _
 .cases hd:QI d with
  |none=>
   exists ?_,λ_ z=>by cases z
   show g.ra++Qi.runPG' g.run=g.ra;rw[h];exact uU _
  |some rs=>
   exists ?_,λz=>by cases z
   show g.ra++(R0 rs g.n).gs=g.ra;rw[show(R0 rs g.n).gs= [] from wO _ _ _ _]
   exact uU _
def YQ (ha:GA g)(Z:g.en=U_)(d:D):Qi (QS g d)=Qi g++ [-[yb g,d]]/\GA (QS g d):=by
 unfold QS;cases O:g.run with
 |none=>
  let U:=ha O Z;erw[Cf (g:=(g.n,g.mb,[-[-[-"rule",g.mb],d]],U_,g.en)) rfl d,h1,h2];exists h1.trans ?_,h2;let e1:Qi g= []:=by unfold Qi;rw[U,O];rfl
  let e2:yb g=-[-"rule",g.mb]:=by unfold yb;rw[O]
  rw[e1,e2]
  rfl
 |some p=>
  erw[p,rs,r];exists ?_,λz=>by cases z
  show g.ra++(mw rs g.n r d).gs=Qi g++_;let e2:yb g=xu r.th:=by unfold yb;rw[O]
  let e3:Qi g=g.ra++r.gs:=by unfold Qi;rw[O];rfl
  rw[AV,e2,e3,vw]
def ke {d:D}(h:g0D m d=u_ g):GA g/\Qi g= []:=by
 unfold g0D at h;split at h
 .split at h
  .cases h
  .split at h
   .cases h;exact[λ_ _=>rfl:1]
   .cases h;erw[Cf (g:=(m,.non,[],U_,U_)) rfl _,h1,h2];exact[h2:h1]
 .cases h
def D8 (U:Qa qs)(O:g0D m (qB qs m)=U_):X4 ((oH (qB qs m)).getD .non):=by
 by_cases hm:m>qs.map (·.1)
 .erw[Jg U hm,hn,k,e,hd,h1,h2];rw[hd] at O⊢;unfold g0D at O;simp only at O;by_cases c:k="leaf"
  .exact .inr (h2 (by rw[c];decide+kernel)).2
  .rw[A4 c] at O;split at O<;>cases O
 .rw[Yi hm];exact .inl rfl
def zZ (Z:Qa qs){f:Sy.Orc}(hf:∀m a,f m=u_ a->X4 (a.getD .non))(h:GI g)(ha:GA g):GI (Sy.step (SyP qs) f g)/\GA (Sy.step (SyP qs) f g):=by
 let e:Sy.step (SyP qs) f g=if g.en.isSome=v_ then g else match yk g with
  |none=>nw qs g|some m=>match f m with
   |some a=>QS g (a.getD .non)|none=>Ld g m:=rfl
 rw[e];cases O:g.en with
 |some d=>exact[h:ha]|none=>
  simp![vL,A4 ub];cases U:yk g with
  |none=>
   erw[jN (qs:=qs) h O U,rs,r,k,z,_,_,hk,_,e];exists E4 Z h O U;show GA (nw qs g);rw[e];exact(YQ ha O _).2
  |some m=>
   simp only;cases hm:f m with
   |some a=>exact[AB h O (hf m a hm):(YQ ha O _).2]|none=>exact⟨NH h m,λ_ z=>by cases z⟩
def Sx (O:Qa qs){f:Sy.Orc}(U:∀m a,f m=u_ a->X4 (a.getD .non)):∀(k:Nat) {g:Gp},GI g->GA g->GI (Sy.it (SyP qs) f k g)/\GA (Sy.it (SyP qs) f k g)
 |0,g,h,ha=>[h:ha]|k+1,g,h,ha=>Sx O U k (zZ O U h ha).1 (zZ O U h ha).2
def AcH (U:Qa qs):∀(k:Nat) (m:Str) (a:om D),Sy.Fh (SyP qs) k m=u_ a->X4 (a.getD .non)
 |0,m,a,h=>by
  cases O:(SyP qs).g0 m with
  |none=>rw[Sy.wq O] at h;cases h;exact D8 U O|some g=>rw[Sy.KB O] at h;cases h
 |k+1,m,a,h=>by
  cases O:(SyP qs).g0 m with
  |none=>rw[Sy.wq O] at h;cases h;exact D8 U O|some g=>
   rw[Sy.Fh_run O] at h;let Z:=Sx U (AcH U k) 302 (Kr U O).1 (ke O).1;cases hs:(SyP qs).said (Sy.it (SyP qs) (Sy.Fh (SyP qs) k) (SyP qs).M g) with
   |none=>rw[hs] at h;cases h|some v=>
    rw[hs] at h;cases h;exact .inr (DF Z.1 hs)
def Aah (O:Qa qs)(m:Str)(a:om D)(h:FP qs m=u_ a):X4 (a.getD .non):=by
 erw[(Sy.F_iff (Qs qs)).mp h,k,h];exact AcH O k m a h
def Jj (O:Qa qs)(U:g0D m (qB qs m)=u_ g)(k:Nat):GI (itP qs k g)/\GA (itP qs k g):=Sx O (Aah O) k (Kr O U).1 (ke U).1
def Di (ha:GA g):∃l,Qi (Sy.step (SyP qs) (FP qs) g)=Qi g++l:=by
 rw[Xo];cases O:g.en with
 |some d=>exact[[]:(uU _).symm]|none=>
  simp![vL,A4 ub];cases U:yk g with
  |none=>
   show∃l,Qi (nw qs g)=_;unfold nw;split
   .exact[_:(YQ ha O _).1]
   .exact[[]:(uU _).symm]
  |some m=>
   simp only;cases FP qs m with
   |some a=>exact[_:(YQ ha O _).1]|none=>exact[[]:(uU _).symm]
end
abbrev Dn (qs:oj (Str×D))(n:Str)(don:oj (Str×Gp)):Prop:=∃j,Sy.nx (Sy.S0 (SyP qs) n) j=[[]:don]
section
variable {qs:oj (Str×D)}{n:Str}{don don':oj (Str×Gp)}
def Acb (h:Dn qs n don)(k:Dn qs n don'):don=don':=by
 erw[h,i,hi];erw[k,j,O];let e:=Sy.nx_one (S:=Sy.S0 (SyP qs) n) (k:=i) (j:=j) (by rw[hi]) (by rw[O])
 rw[hi,O] at e;exact A9 Sy.Ss.don e
def WB (O:g0D n (qB qs n)=U_)(h:Dn qs n don):don= []:=by
 let U:Sy.S0 (SyP qs) n=⟨[],[]⟩:=by unfold Sy.S0;rw[show(SyP qs).g0 n=U_ from O]
 exact Acb h [(0):U]
def SV (O:g0D n (qB qs n)=u_ g)(h:Dn qs n don):Sy.SOk (Y:=SyP qs) n [[]:don]:=by
 erw[h,j,U];rw[<-U];exact Sy.nx_ok (Qs qs) (Sy.S0_ok O) j
def Ip (O:g0D n (qB qs n)=u_ g)(h:Dn qs n don):(don.map (·.1)).getLast? =u_ n:=by
 rcases(SV O h).bot with b|⟨_,b⟩
 .cases b
 .exact b
def Jb (h:Dn qs n don){p:Str×Gp}(O:p>don):∃s,g0D p.1 (qB qs p.1)=u_ s/\p.2=Sy.it (SyP qs) (Sy.F (SyP qs)) 302 s:=by
 cases U:g0D n (qB qs n) with
 |none=>rw[WB U h] at O;cases O|some g=>exact(SV U h).don p O
def MD (h:Dn qs n don):(don.map (·.1)).Nodup:=by
 cases O:g0D n (qB qs n) with
 |none=>rw[WB O h];exact vI|some g=>exact(SV O h).nd
end
abbrev IJ (p:Gp):D:= .tup (p.ra++n9 p.run)
abbrev mV (p:Gp):D:=p.en.getD .non
def BZ (p:Gp):xB p=-[IJ p,mV p]:=rfl
def Aa9:∀{rk:oj (Key×V)}{don:oj (Str×Gp)},(rk.map (·.1)=don.map λp=>Vl p.1)->∃vs:oj (Str×V),rk=li vs/\vs.map (·.1)=don.map (·.1)/\vs.map (·.2)=rk.map (·.2)
 | [],[],_=>([],1,1,1)| [],_::_,h=>by cases h|_::_,[],h=>by cases h|(k,v)::r,p::l,h=>by
  injection h with h1 h2
  erw[Aa9 h2,vs,O,e2,e3];exists (p.1,v)::vs,?_,?_,?_
  .rw[zl,<-O];let h1:k=Vl p.1:=h1;rw[h1]
  .rw[uw,uw,e2]
  .rw[uw,uw,e3]
def Ab0 {p:Gp}(h:GI p)(O:p.en.isSome=v_):nD (IJ p)=v_/\dp (IJ p)<=31/\nD (mV p)=v_/\dp (mV p)<=20:=by
 let h1:nL (p.ra++n9 p.run)=v_/\dpL (p.ra++n9 p.run)<=30:=by
  cases hr:p.run with
  |none=>exact⟨BK h.ra.1 rfl,AG 30 h.ra.2.1 (by simp[dpL,n9])⟩|some q=>
   erw[q,rs,r];let h2:=(h.run rs r hr).2.1.gs;exact[BK h.ra.1 h2.1:AG 30 h.ra.2.1 h2.2.1]
 refine⟨h1.1,by show 1+_<=31;omega,?_⟩
 unfold mV;cases U:p.en with
 |none=>rw[U] at O;cases O|some d=>
  show nD d=v_/\dp d<=20;rcases h.en d U with⟨z,rfl⟩|⟨x,rfl,Z⟩|⟨z,rfl⟩
  .exact⟨1,by show dp (-[-"fault",!z])<=20;simp[dp,dpL]⟩
  .have:=Jh Z;exists ?_,?_
   .simp![nD,nL,X9 (yl Z),U3]
   .simp![dp,dpL];omega
  .exact⟨1,by simp[dp,dpL]⟩
variable {don:oj (Str×Gp)}
def Aca {n:Str}(h:Dn qs n don)(hm:g0D m (qB qs m)=U_\/m>don.map (·.1)):Sy.yet #[Y,[],don] m=u_ (FP qs m):=by
 cases U:(SyP qs).g0 m with
 |none=>
  unfold Sy.yet;rw[A4 (by intro z;cases z),U]
  show u_ (u_ ((SyP qs).once m))=u_ (FP qs m);rw[show FP qs m=_ from Sy.F_once (Qs qs) U]
 |some g=>
  rcases hm with hm|hm
  .rw[show(SyP qs).g0 m=U_ from hm] at U;cases U
  .erw[Ae.mp hm,[O,p],hp,rfl];let hd:Sy.Yn (Y:=SyP qs) don O=u_ p:=by
    let Z:=MD h;unfold Sy.Yn;have:(don.find? λq=>decide (q.1=O))=u_ (O,p):=by
     clear h hm
     induction don with
     |nil=>cases hp|cons q r ih=>
      rw[uw,vW] at Z;rcases Aa.mp hp with rfl|hp
      .rw[vf,ug rfl]
      .have aa:q.1≠O:=λz=>Z.1 (by rw[z];exact Ae.mpr [_:hp:1])
       rw[vf,uj aa];exact ih hp Z.2
    let e2:(Rv (λq:Str×Gp=>decide (q.1=O)) don).map (·.2)=u_ p:=by rw[this];rfl
    exact e2
   erw[Jb h hp,s,e2,e3];let e2:(SyP qs).g0 O=u_ s:=e2;rw[U] at e2;cases e2;unfold Sy.yet;rw[A4 (by intro z;cases z),U]
   show(Sy.Yn (Y:=SyP qs) don O).map (λg=>((SyP qs).said g).map u_)=u_ (FP qs O);rw[hd];show u_ (((SyP qs).said p).map u_)=u_ (FP qs O);rw[show FP qs O=_ from Sy.F_run (Qs qs) U]
   let e3:p=Sy.it (SyP qs) (Sy.F (SyP qs)) 302 g:=e3;rw[e3]
   rfl
end K44
namespace K44
open PySem L2 PyProof.Rows
structure AdL (CO CP:o3)(H0 H:Hp)(qs:oj (Str×D))(n:Str)(o:Oc)(rk uk fk:oj (Key×V))(don:oj (Str×Gp)):Prop where
 sm:ic H0 H
 oa:OAt CO CP H o qs
 dr:H o.dr=u_ (.dK rk)
 ks:rk.map (·.1)=don.map λp=>Vl p.1
 vs:L2.IsL H (don.map λp=>xB p.2) (rk.map (·.2))
 du:H o.du=u_ (.dK uk)
 uo:S6 #[Y,[],don] uk
 df:H o.df=u_ (.dK fk)
 fd:C0 H #[Y,[],don] fk
 fl:↑fk<=20101
 dn:Dn qs n don
 sg:SGI #[Y,[],don]
 gi:∀p>don,GI p.2/\p.2.en.isSome=v_
 len:↑don<=20001
 new:H0 o.x=U_/\H0 o.dr=U_/\H0 o.du=U_/\H0 o.df=U_
 ne:o.dr≠o.df/\o.du≠o.df
inductive AaY (bn:Addr):Sp
 |mk (z:Str)(_:vs= [!z])(hz:↑z<=1000)(_:nm z=v_->∀H',ic H H'->Q .non H')(_:nm z=Vi->∀(e:Addr)(H':Hp),ic H H'->E_ (-e) (u_ bn) H')
inductive OM:Sp
 |mk (t:_)(z:_)(_:vs= [-t])(_:H t=u_ (-[!z]))(_:nm z=v_)(_:∀H',ic H H'->Q .non H')
inductive Oy (CO CP:Addr):Sp
 |mk (px t:Addr)(n:Str)(qs:List (Str×D))(_:vs= [-px,-t])(_:H t=u_ (-[!n]))(_:nm n=v_)(_:QT CP H px qs)(_:Qa qs)(_:∀H' o rk uk fk don,o.px=px->AdL CO CP H H' qs n o rk uk fk don->↑fk<=20001->Q (-o.x) H')
inductive OK (CO CP:Addr):Sp
 |mk (px:Addr)(n:Str)(qs:List (Str×D))(_:vs= [-px,!n])(_:nm n=v_)(_:QT CP H px qs)(_:Qa qs)(_:∀H' o rk uk fk don,o.px=px->AdL CO CP H H' qs n o rk uk fk don->↑fk<=20001->Q (-o.x) H')
variable {qs:oj (Str×D)}{don:oj (Str×Gp)}
def AI {n:Str}(h:Dn qs n don):g0D n (qB qs n)=U_\/n>don.map (·.1):=by
 cases O:g0D n (qB qs n) with
 |none=>exact .inl rfl|some g=>exact .inr (rC (Ip O h))
section
variable {P:o9}{w:og}{K:o0}{mg:Str->om o6}{base:o8}{a:Ad}{g:Ga}
def Np (T:Tx K mg a)(C:Fx K w mg g a):FnOk P w K mg base (CX1 P w) 2 a.ZF a.ZU ["name"] (AaY g.bn):=by
 let O:=#[Xt,T];refine T.iD.F.okX Kv () (λ_ _ _ _ H _ Q E U h=>?_)
 erw[h,z,rfl,Z,k1,k2];exists 3,%[|#[qH,#[Qp,#[Qc,#[qq,16,O,U.mono (),_,T.iw.m,T.iw.F.kp,T.iw.b,.nil,qz,#v[pv 0],_,_,_]]],%[|#[qaf,22,C.x_BadName,_,C.m_BadName,ql,_,_]],qt]]
 exists 0,!z,!z,1,yU (),λH1 s1=>[0:?_]
 let e:mQ (!z)=nm z:=rfl;rw[e];cases hn:nm z with
 |false=>exact lD [1:λe=>k2 hn e H1 s1]|true=>exact iX (k1 hn H1 s1)
def PV:#[C,3,a.XM,a.X7,["names"],OM]:=by
 let Jr:=#[Np,T,C];exists 9,T.mC,xO
 erw[h,t,z,rfl,U,hz,k];exists 3,%[|#[yW,#[Wl,pv 0],#[qM,(1),xO.nd],%[|#[qZ,#[qq,16,Jr,hr.mono (),_,T.iD.m,T.iD.F.kp,T.iD.b,.nil,oz,#v[pv 1],_,_,_]]]]]
 exists 0,t,1,[_:SqT.of U];refine Xi (xs:= [!z]) (λi σ H'=>(∃u,σ= [u_ (-t),u])/\ic H H') [⟨0⟩:ic.refl _] (λi σ H' _ h=>SqT.of (h.2 _ _ U)) ?_ ?_
 .rintro i x σ H' Z ⟨⟨u,rfl⟩,s1⟩;let O:x= !z:=by
   cases i with
   |zero=>exact(uO Z).symm|succ i=>cases Z
  subst O;exact(0,z,1,by have:=XO hz;omega,λ_ H2 s2=>[⟨0⟩:s1.trans s2],λz=>A8 (hz.symm.trans z) Bool.noConfusion)
 .rintro σ H' ⟨_,s1⟩;exact k H' s1
def PD:#[C,14,a.ZN,a.ZY,["project","names"],(Oy a.qr a.qE)]:=by
 let KL:=#[PV,T,C];let Zg:=#[LS,T];let jT:=#[Po,T,C];exists 9,T.lj,jJ
 erw[h,px,t,n,qs,rfl,ht,hn,hP,hq,k1];exists 3,%[#[qZ,#[qq,KL,T.mC,#v[pv 1]]],#[qF,(2),jJ.nd,#[zK,T.M_PlainOrder,Zg,T.m_PlainOrder,T.lQ,qz,#v[pv 0]]],#[yW,#[Wl,pv 1],#[qM,(3),jJ.nd],%[|#[qZ,#[Qk,pv 2,T.qx,T.iR,jT,#v[pv 3]]]]]|#[qm,pv 2]]
 exists 8,N1,q1
 exists 0,t,n,1,ht,hn,λH1 s1=>q1 _ _ ?_;exists 8,N2,q2
 exists 0,λx dx hx aq nx=>?_;let s0:ic H1 (upd (upd H1 dx (.own x)) x (.ins a.qr dx [])):=λb o h=>by rwa[qj (qk h hx),qj (qk h aq)]
 exists x,dx,px,1,qg,λo H2 eo au aw kp tk f1 f2 f3 f4 nd ac ad ae af ag=>[1:q2 _ _ ?_];exists 8,N3,q3;let ax:ic H1 H2:=λb ob h=>kp b ob (s0 b ob h) (qk h hx);let O:=s1.trans ax;let ah:=O _ _ ht;subst eo au aw;let hB:Bs a.qr a.qE H2 o qs:=([ac:hP.same O],[_:ad],[_:ae],[_:af],[_:ag],nd,hq)
 exists 0,t,1,[_:SqT.of ah];let fr:∀b,upd (upd H1 o.dx (.own o.x)) o.x (.ins a.qr o.dx []) b=U_->H b=none:=λb U=>by
  cases e:H b with
  |none=>rfl|some ob=>rw[s0 b ob (s1 b ob e)] at U;cases U
 refine_lift let J_:Nat->L2.St->Hp->Prop:=λi σ H'=>(∃u,σ= [u_ (-o.px),u_ (-t),u_ (-o.x),u])/\((i=0/\H'=H2)\/(i=1/\∃rk uk fk don,AdL a.qr a.qE H H' qs n o rk uk fk don/\↑fk<=20001));?_
 refine Xi (xs:= [!n]) J_ [⟨0⟩:.inl [1:1]] (λi σ H' _ h=>?_) ?_ ?_
 .rcases h.2 with⟨_,rfl⟩|⟨_,rk,uk,fk,don,h,_⟩
  .exact SqT.of ah
  .exact SqT.of (h.sm _ _ ht)
 .rintro i x' σ H' ak ⟨⟨u,rfl⟩,h⟩;let Z:x'= .str n/\i=0:=by
   cases i with
   |zero=>exact[(uO ak).symm:1]|succ i=>cases ak
  erw[Z,rfl,rfl];rcases h with⟨_,rfl⟩|⟨z,_⟩
  .exists 0,o.x,o.dx,0,ac,wI o _ (),0,o,qs,n,1,hB,ad,ae,af,ag,λH3 rk uk fk don j al ay am aA aB aC k3 aD ao aE aF aG ap=>?_
   let out:∀b,H b≠U_->b∉LO o:=λb U z=>by
    simp![LO,uF,uI,uT] at z;rcases z with rfl|rfl|rfl|rfl
    .exact U (fr _ f1)
    .exact U (fr _ f2)
    .exact U (fr _ f3)
    .exact U (fr _ f4)
   let aa:=nd;simp![vW,uF,uI,uT,Vc,vI,and_true,V6] at aa;let Z:H o.x=none:=by
    cases e:H o.x with
    |none=>rfl|some ob=>rw[s1 _ _ e] at hx;cases hx
   exact⟨⟨0⟩,.inr (1,rk,uk,fk,don,(λb ob e=>k3.kept b ob (O b ob e) (out b (by rw[e];intro z;cases z)),hB.at k3,ao,aE,aF,al,ay,am,aA,(),[j:aD],aC,aG,ap,(Z,fr _ f3,fr _ f2,fr _ f4),[aa.2.2:aa.2.1.2]),aB)⟩
  .cases z
 .rintro σ H' ⟨⟨u,rfl⟩,h⟩;rcases h with⟨z,_⟩|⟨_,rk,uk,fk,don,h,hl⟩
  .cases z
  .exact q3 _ _ [0:k1 H' o rk uk fk don rfl h hl]
def Am:#[C,15,a.ZL,a.Zy,["project","name"],(OK a.qr a.qE)]:=by
 let O:=#[PD,T,C];exists 9,T.iI,qax,U
 erw[h,px,n,qs,rfl,hn,Z,hq,k1];let hs:=uE;exists 3,%[|#[qm,#[qq,16,O,U.mono (),_,T.lj.m,T.lj.F.kp,T.lj.b,.nil,qz,#v[pv 0,#[qI,#v[pv 1]]],_,_,_]]]
 exists 0,0,(sml rfl),λt ht=>?_;let s1:=qf ht (-[V.str n]);exact(px,t,n,qs,1,qg,hn,Z.same s1,hq,λH' o rk uk fk don e h hl=>k1 H' o rk uk fk don e (s1.trans h.sm,h.oa,h.dr,h.ks,h.vs,h.du,h.uo,h.df,h.fd,h.fl,h.dn,h.sg,h.gi,h.len,(s1.free h.new.1,s1.free h.new.2.1,s1.free h.new.2.2.1,s1.free h.new.2.2.2),h.ne) hl)
end
def wf (p:Gp):IJ p= .tup (Qi p):=by
 unfold IJ Qi;cases p.run with
 |none=>rfl|some q=>rfl
abbrev Aar (qs:oj (Str×D))(x:D):Prop:=∃kd z a,x= .tup [-[!kd,!z],a]/\↑z<=1000/\((ml kd=v_/\a=xy qs kd z)\/(ml kd=Vi/\(kd="thing"\/kd="rule")/\∃y,FP qs z=u_ y/\a=y.getD .non))
variable {g:Gp}{m:Str}
def KG (h:GI g)(O:yk g=u_ m):∃kd,yb g= .tup [!kd,!m]/\ml kd=false:=by
 unfold yk at O;split at O
 .rename_i k z e
  by_cases c:ml k=v_
  .rw[A6 c] at O;cases O
  .rw[A4 c] at O;cases O;exact⟨k,e,by simpa using c⟩
 .cases O
variable {kd:Str}
def Aat (h:GI g)(he:g.en=U_)(U:yb g=-[!kd,!m]):↑m<=1000:=by
 unfold yb at U;cases Z:g.run with
 |none=>
  rw[Z] at U;erw[h.no Z he,z,hz,hn];simp![hz] at U;cases U;have:=XO hn;omega
 |some p=>
  erw[p,rs,r];rw[Z] at U;erw[h.run rs r Z,_,_,ht,O];let O:=O he;rcases ht with⟨z,e⟩|⟨e1,e,_⟩|⟨u,z,e,hT,_⟩
  .rw[e] at O;exact A8 (show decide (("fault":Str)="asks")=v_ from O) ()
  .rw[e] at O;exact A8 (show decide (("said":Str)="asks")=v_ from O) ()
  .simp![e] at U;let U:(D.tup [!u,!z])=-[!kd,!m]:=U;cases U;have:=YO hT;have:↑m<=600:=this;omega
def AcP (h:GI g)(he:g.en=U_)(O:yb g=-[!kd,!m])(hk:ml kd=Vi):kd="thing"\/kd="rule":=by
 unfold yb at O;cases hr:g.run with
 |none=>
  rw[hr] at O;let O:D.tup [-"rule",g.mb]=-[!kd,!m]:=O;injection O with O
  injection O with O _
  injection O with O
  exact .inr O.symm
 |some p=>
  erw[p,rs,r];rw[hr] at O;let O:xu r.th=-[!kd,!m]:=O;let Z:=(h.run rs r hr).2.2;let U:=Z.2 he;rcases Z.1 with⟨z,e1⟩|⟨e0,e1,_⟩|⟨u,z,e1,_,hu⟩
  .rw[e1] at U;exact A8 (show decide (("fault":Str)="asks")=v_ from U) ()
  .rw[e1] at U;exact A8 (show decide (("said":Str)="asks")=v_ from U) ()
  .rw[e1] at O;let O:D.tup [!u,!z]=-[!kd,!m]:=O;cases O;rcases hu with rfl|⟨rfl|rfl,_⟩
   .exact A8 hk ()
   .exact .inl rfl
   .exact A8 hk ()
section
variable {qs:oj (Str×D)}
def AaT (hq:Qa qs)(h:GI g)(ha:GA g)(hF:∀x>Qi g,Aar qs x):∀x>Qi (Sy.step (SyP qs) (FP qs) g),Aar qs x:=by
 let aa:∀{d:D},g.en=U_->(∀kd z,yb g= .tup [!kd,!z]->(ml kd=v_/\d=xy qs kd z)\/(ml kd=Vi/\(kd="thing"\/kd="rule")/\∃y,FP qs z=u_ y/\d=y.getD .non))->(∃kd z,yb g=-[!kd,!z])->∀x>Qi (QS g d),Aar qs x:=by
  intro d O h1 ⟨kd,z,e⟩ x U;rw[(YQ ha O d).1] at U;rcases Ac.mp U with U|U
  .exact hF x U
  .cases Ab.mp U;exact(kd,z,d,by rw[e],Aat h O e,h1 kd z e)
 rw[Xo];cases O:g.en with
 |some d=>exact hF|none=>
  simp![vL,A4 ub];cases hw:yk g with
  |none=>
   erw[jN (qs:=qs) h O hw,rs,r,k,z,ac,ad,hk,_,e];show∀x>Qi (nw qs g),_;rw[e];let Z:yb g=-[!k,!z]:=by
    unfold yb;rw[ac];show xu r.th=_;rw[ad]
    rfl
   exact aa O (λkd y e2=>by rw[Z] at e2;cases e2;exact .inl [hk:1]) [k:z:Z]
  |some m=>
   simp only;erw[KG h hw,kd,Z,hk];cases ae:FP qs m with
   |some a=>exact aa O (λaf y e2=>by rw[Z] at e2;cases e2;exact .inr (hk,AcP h O Z hk,a,ae,1)) [kd:m:Z]|none=>exact hF
def Aef (O:Qa qs):∀(k:Nat) {g:Gp},GI g->GA g->(∀x>Qi g,Aar qs x)->∀x>Qi (itP qs k g),Aar qs x
 |0,g,h,ha,t=>t|k+1,g,h,ha,t=>by
  erw[zZ O (Aah O) h ha,h1,h2];exact Aef O k h1 h2 (AaT O h ha t)
def Acg (U:Qa qs)(O:g0D m (qB qs m)=u_ g)(k:Nat):∀x>Qi (itP qs k g),Aar qs x:=
 Aef U k (Kr U O).1 (ke O).1 (λx Z=>by rw[(ke O).2] at Z;cases Z)
abbrev Cg (qs:oj (Str×D)) (m:Str):D:=match g0D m (qB qs m) with
 |none=>yL (qB qs m)|some g=>QE ((itP qs 302 g).en.getD .non)
def MC {n:Str}{p:Gp}(h:Dn qs n don)(U:(m,p)>don):Sy.Yn (Y:=SyP qs) don m=u_ p:=by
 let O:=MD h;unfold Sy.Yn;have:(don.find? λq=>decide (q.1=m))=u_ (m,p):=by
  clear h
  induction don with
  |nil=>cases U|cons q r ih=>
   rw[uw,vW] at O;rcases Aa.mp U with rfl|U
   .rw[vf,ug rfl]
   .let Z:q.1≠m:=λz=>O.1 (by rw[z];exact Ae.mpr [_:U:1])
    rw[vf,uj Z];exact ih U O.2
 let e2:(Rv (λq:Str×Gp=>decide (q.1=m)) don).map (·.2)=u_ p:=by rw[this];rfl
 exact e2
def AdH {n:Str}(h:Dn qs n don)(hm:g0D m (qB qs m)=U_\/m>don.map (·.1)):Acl qs don m=Cg qs m:=by
 unfold Acl Cg;cases U:g0D m (qB qs m) with
 |none=>rfl|some g=>
  rcases hm with hm|hm
  .rw[U] at hm;cases hm
  .erw[Ae.mp hm,[Z,p],hp,rfl];erw[Jb h hp,s,O,e2];let O:g0D Z (qB qs Z)=u_ s:=O;rw[U] at O;cases O;let e2:p=itP qs 302 g:=e2;simp![MC h hp];rw[<-e2]
   rfl
abbrev Ad3 (d:D):om Str:=match d with
 | .tup [!k,!m]=>if k="stuck" then u_ m else U_|_=>U_
variable {e:D}{x:Str}
def Bg (h:ThS e):e≠ -[-"stuck",!x]:=by
 intro z;rcases h with⟨y,rfl⟩|⟨y,rfl,_⟩|⟨u,y,rfl,_⟩
 .injection z with z;injection z with z _;injection z with z;revert z;decide+kernel
 .injection z with z;injection z with z _;injection z with z;revert z;decide+kernel
 .injection z with z;injection z with z _;injection z with z;revert z;decide+kernel
def Ab7 {r:Rn}(h:ThS r.th)(k:ny r=u_ e):ThS e:=by
 unfold ny at k;by_cases c:QH r.th=v_
 .rw[A6 c] at k;cases k
 .rw[A4 c] at k;cases k;exact h
def NT {d:D}(k:(mt g d).en=u_ e):ThS e:=by
 unfold mt at k;split at k
 .cases k;exact .inl ⟨0⟩
 .cases O:QI d with|none=>rw[O] at k;cases k;exact .inl ⟨0⟩|some rs=>rw[O] at k;exact Ab7 (S9 (wA O).2) k
def Dd {d:D}(h:GI g)(U:g.en=U_)(ha:X4 d)(k:(QS g d).en=u_ e):ThS e:=by
 unfold QS at k;cases O:g.run with
 |none=>rw[O] at k;exact NT k|some p=>
  erw[p,rs,r];rw[O] at k;erw[h.run rs r O,h1,h2,h3,h4];exact Ab7 (IL h1 h2 (h4 U) ha) k
def Dg (hq:Qa qs){m x:Str}{s:Gp}(U:g0D m (qB qs m)=u_ s):∀k,(itP qs k s).en=u_ (-[-"stuck",!x])->∃i,(itP qs i s).en=U_/\yk (itP qs i s)=u_ x/\FP qs x=U_
 |0,O=>by
  let O:s.en=u_ _:=O;unfold g0D at U;split at U
  .split at U
   .cases U
   .split at U
    .cases U;cases O
    .cases U;exact A8 rfl (Bg (NT O))
  .cases U
 |k+1,O=>by
  let e0:itP qs (k+1) s=Sy.step (SyP qs) (FP qs) (itP qs k s):=Sy.XF (Y:=SyP qs) k s;rw[e0,Xo] at O;erw[Jj hq U k,gi,ga];cases Z:(itP qs k s).en with
  |some d=>
   rw[Z] at O;simp![FA,Vh] at O;exact Dg hq U k O
  |none=>
   rw[Z] at O;simp![vL,A4 ub] at O;cases hw:yk (itP qs k s) with
   |none=>
    rw[hw] at O;erw[jN (qs:=qs) gi Z hw,rs,r,k',z,ad,ae,aa,_,e];let O:(nw qs (itP qs k s)).en=_:=O;let ac:=E4 hq gi Z hw;rw[e] at O ac;exact A8 rfl (Bg (Dd gi Z (.inr (wS hq z aa).1) O))
   |some m'=>
    rw[hw] at O;simp only at O;cases hF:FP qs m' with
    |some a=>
     rw[hF] at O;exact A8 rfl (Bg (Dd gi Z (Aah hq _ _ hF) O))
    |none=>
     rw[hF] at O;let O:u_ (D.tup [-"stuck",!m'])=u_ (-[-"stuck",!x]):=O;cases O;exact(k,Z,hw,hF)
def AaQ (h:EnS e)(k:Ad3 (QE e)=u_ x):e=-[-"stuck",!x]:=by
 rcases h with⟨z,rfl⟩|⟨y,rfl,_⟩|⟨z,rfl⟩
 .let e2:QE (flt z)=flt z:=by unfold QE flt;dsimp only;exact A4 ()
  rw[e2] at k;let k:(if("fault":Str)="stuck" then u_ z else U_)=u_ x:=k
  rw[A4 ()] at k
  cases k
 .let e2:QE (-[-"said",y])=-[-"value",y]:=by unfold QE;dsimp only;exact A6 rfl
  rw[e2] at k;cases y with
  |str w=>
   let k:(if("value":Str)="stuck" then u_ w else U_)=u_ x:=k
   rw[A4 ()] at k
   cases k
  |_=>cases k
 .let e2:QE (-[-"stuck",!z])=-[-"stuck",!z]:=by unfold QE;dsimp only;exact A4 ()
  rw[e2] at k;let k:(if("stuck":Str)="stuck" then u_ z else U_)=u_ x:=k
  rw[A6 rfl] at k;cases k
  rfl
def yG {s:Gp}(O:g0D m (qB qs m)=u_ s):(itP qs 302 s).en.isSome=true:=Sy.Wx (Y:=SyP qs) (Qs qs) 302 s ((Qs qs).l0 m s O)
def AaP (hq:Qa qs){n:Str}(h:Dn qs n don)(hm:m>don.map (·.1))(Z:Ad3 (Cg qs m)=u_ x):x>don.map (·.1):=by
 erw[Ae.mp hm,[m',p],hp,rfl];erw[Jb h hp,s,O,e2];let O:g0D m' (qB qs m')=u_ s:=O;unfold Cg at Z;rw[O] at Z;simp only at Z;let hf:=yG O;cases he:(itP qs 302 s).en with
 |none=>rw[he] at hf;cases hf|some e=>
  rw[he] at Z;let ee:=AaQ ((Jj hq O 302).1.en e he) Z;rw[ee] at he;erw[Dg hq O 302 he,i,h1,h2,h3];let U:∃g,g0D n (qB qs n)=u_ g:=by
   cases c:g0D n (qB qs n) with
   |none=>rw[WB c h] at hp;cases hp|some g=>exact[g:1]
  erw[U,g0,U];erw[h,j,hj];let fi:(SyP qs).fin (Sy.it (SyP qs) (Sy.F (SyP qs)) i s)=false:=by
   show(itP qs i s).en.isSome=Vi;rw[h1]
   rfl
  rcases Sy.end_clo (Qs qs) U hj hp O (i:=i) (m:=x) fi h2 with c|c
  .rw[show FP qs x=_ from Sy.F_once (Qs qs) c] at h3
   cases h3
  .exact c
end
inductive Lp (CP:Addr):Sp
 |mk (px:Addr)(n:Str)(qs:List (Str×D))(gp:Gp)(_:vs= [-px,!n])(_:nm n=v_)(_:QT CP H px qs)(_:Qa qs)(_:g0D n (qB qs n)=u_ gp)(_:∀v H',ic H H'->GI (itP qs 302 gp)->(itP qs 302 gp).en.isSome=v_->Is H' (xB (itP qs 302 gp)) v->Q v H')
inductive Lw (CP:Addr):Sp
 |mk (px:Addr)(n:Str)(qs:List (Str×D))(_:vs= [-px,!n])(_:nm n=v_)(_:QT CP H px qs)(_:Qa qs)(_:∀v H',ic H H'->Is H' (Cg qs n) v->nrg (Cg qs n)->Q v H')
section
variable {P:o9}{w:og}{K:o0}{mg:Str->om o6}{base:o8}{a:Ad}{g:Ga}
def BD:#[C,16,a.kt,a.Km,["project","name"],(Lp a.qE)]:=by
 let Yo:=#[Am,T,C];refine T.mG.F.ok WC () (λ_ _ _ _ H vs Q E hr h=>?_)
 erw[h,px,n,qs,gp,rfl,hn,hP,hq,hg,k];exists 3,%[#[qF,(2),WC.nd,#[qq,Yo,T.iI,#v[pv 0,pv 1]]],#[qH,#[WX,#[oy,5,QR hr,pv 1,#[qP,5,pv 2,rfl]]],%[|jZ],qt]|#[qm,#[QC,#[qP,5,pv 2,rfl],pv 1]]]
 exists 8,N1,q1
 exists 0,0,px,n,qs,1,hn,hP,hq,λH' o rk uk fk don _ h _=>q1 _ _ ?_;erw[Aa9 h.ks,vs,e1,e2,e3];let hk:vs.map (·.1)=(don.map λq=>(q.1,xB q.2)).map (·.1):=by rw[e2,uP];rfl
 let hi:L2.IsL H' ((don.map λq=>(q.1,xB q.2)).map (·.2)) (vs.map (·.2)):=by rw[e3,uP];exact h.vs
 let Z:=h.dr;rw[e1] at Z;let he:=h.oa.e;exists 8,N2,q2
 exists 0,0,o.x,_,o.dx,_,0,he,T.qx,T.Qg,Mb o,o.dr,0,mO.k (k:=Vl n) Z,0;let hl:=Ip hg h.dn;let U:=rC hl;erw[Ae.mp U,[m,p],aa,rfl];let ac:m>(don.map λq=>(q.1,xB q.2)).map (·.1):=by rwa[uP]
 erw[Kx hk hi ac,l1,l2];let hd:qB (don.map λq=>(q.1,xB q.2)) m=xB p:=sD (by rw[uP];exact MD h.dn) (Ae.mpr [(m,p):aa:1])
 rw[hd] at l2;erw[Jb h.dn aa,s0,f1,f2];let f1:g0D m (qB qs m)=u_ s0:=f1;let hg:g0D m (qB qs m)=u_ gp:=hg;rw[hg] at f1;cases f1;let f2:p=itP qs 302 gp:=f2;let O:=h.gi _ aa;let O:GI p/\p.en.isSome=true:=O;rw[l1];refine iO rfl (q2 _ _ ?_)
 exists 0,o.x,_,o.dx,_,0,he,T.qx,T.Qg,Mb o,0,o.dr,0,(by rw[<-l1];exact mO.k (k:=Vl m) Z)
 rw[f2] at l2 O;exact k _ H' h.sm O.1 O.2 l2
def L8:#[C,16,a.WY,a.wp,["project","name"],(Lw a.qE)]:=by
 let Yo:=#[Am,T,C];let Qe:=#[D9,T];exists 9,T.na,nY
 erw[h,px,n,qs,rfl,hn,hP,hq,k];exists 3,%[|#[qm,#[Qk,#[qq,Yo,T.iI,#v[pv 0,pv 1]],T.qx,T.im,Qe,#v[pv 1]]]]
 exists 0,0,px,n,qs,1,hn,hP,hq,λH1 o rk uk fk don _ O hl=>?_
 exists o.x,o.dx,0,O.oa.e,wI o _ (),0,o,n,qs,#[Y,[],don],uk,fk,1,O.oa,hq,O.sg,O.du,O.uo,O.df,O.fd,(),(λp hp=>(O.gi p hp).2),λv H2 aa k2 f2 d2 l2 _ y2=>?_
 unfold AY at y2;rw[Aca O.dn (AI O.dn)] at y2;erw[y2,d,hd,ha,hg];obtain⟨Z,U⟩:=hg (λz=>by cases z)
 let U:d=Cg qs n:=U.trans (AdH O.dn (AI O.dn));rw[U] at hd Z;refine k v H2 (λb ob e=>k2.kept b ob (O.sm b ob e) (λz=>?_)) hd Z;rw[Ab.mp z,O.new.2.2.2] at e;cases e
inductive AaW (CP:Addr):Sp
 |mk (px:Addr)(n:Str)(qs:List (Str×D))(_:vs= [-px,!n])(_:nm n=v_)(_:QT CP H px qs)(_:Qa qs)(_:∀t H' don,ic H H'->H' t=u_ (.tup (don.map λp=>V.str p.1))->Dn qs n don->↑don<=20001->(∀p>don,GI p.2/\p.2.en.isSome=v_)->Q (-t) H')
variable {x:Str}
def NQ (O:Qa qs){n:Str}(h:Dn qs n don)(U:x>don.map (·.1)):nm x=true:=by
 erw[Ae.mp U,[m,p],Z,rfl];erw[Jb h Z,s,e,_];exact O.1.1.1 _ ((Qs qs).gn _ s e)
def No:#[C,16,a.f_met_by,a.d_met_by,["project","name"],(AaW a.qE)]:=by
 let O:=#[Am,T,C];exists 9,T.nj,DC,U
 erw[h,px,n,qs,rfl,hn,Z,hq,k];exists 3,%[|#[qm,#[qV,#[AS,1,rfl],T.QB,vx,#v[#[qP,5,#[qq,16,O,U.mono (),_,T.iI.m,T.iI.F.kp,T.iI.b,.nil,qz,#v[pv 0,pv 1],_,_,_],rfl]]]]]
 exists 0,0,px,n,qs,1,hn,Z,hq,λH' o rk uk fk don _ h hl=>?_
 exists o.x,_,o.dx,_,0,h.oa.e,T.qx,T.Qg,Mb o,o.dr,rk,1,.inl h.dr,λt ht=>?_;refine k t _ don (h.sm.trans (qf ht _)) ?_ h.dn h.len h.gi;rw[qg];let e:(rk.map λp=>kV p.1)=don.map λp=>V.str p.1:=by
  have:=A9 (T0 kV) h.ks;rwa[uP,uP] at this
 rw[e]
end
inductive Ch (rs:List Rw)(own:Str):Rn->List D->Rn->Prop
 |nil (r:Rn):Ch rs own r [] r
 |cons {r r':Rn}{a:D}{as:List D}(u:Str)(d:D)(h1:r.th=-[-"asks",-[!u,d]])(h2:AX u a=v_)(h3:Ch rs own (mw rs own r a) as r'):Ch rs own r (a::as) r'
variable {rs:oj Rw}{own:Str}
def Ch.snoc {a:D}{r O:Rn}{as:oj D}(h:Ch rs own r as O)(u:Str)(d:D)(h1:O.th=-[-"asks",-[!u,d]])(h2:AX u a=v_):Ch rs own r (as++ [a]) (mw rs own O a):=by
 induction h with
 |nil r=>exact .cons u d h1 h2 (.nil _)|cons U d' k1 k2 _ Z=>exact .cons U d' k1 k2 (Z h1)
def IW {r:Rn}{u:Str}{d:D}(h:r.th=-[-"asks",-[!u,d]]):QH r.th=true:=by
 rw[h];show decide (("asks":Str)="asks")=v_;exact ug rfl
abbrev AcK:D->D
 | .tup [_,a]=>a|_=> .non
abbrev RC (g:Gp):Prop:=∀rs r,g.run=u_ (rs,r)->Ch rs g.n (R0 rs g.n) (r.gs.map AcK) r
def Ng (h:g.run=U_)(d:D):RC (mt g d):=by
 intro rs r e;by_cases hn:yZ d=v_
 .let U:mt g d={g with en:=u_ (flt "lack")}:=A6 hn
  rw[U] at e;exact A8 (h.symm.trans e) (by intro z;cases z)
 .cases Z:QI d with
  |none=>
   let U:mt g d={g with en:=u_ (flt "rule")}:=by unfold mt;rw[A4 hn,Z]
   rw[U] at e;exact A8 (h.symm.trans e) (by intro z;cases z)
  |some O=>
   let U:mt g d={g with run:=u_ (O,R0 O g.n),en:=ny (R0 O g.n)}:=by unfold mt;rw[A4 hn,Z]
   rw[U] at e⊢;cases e;have:(R0 rs g.n).gs= []:=wO _ _ _ _;show Ch rs g.n (R0 rs g.n) ((R0 rs g.n).gs.map AcK) (R0 rs g.n);rw[this];exact .nil _
def DL {d:D}(O:RC g)(U:∀rs r,g.run=u_ (rs,r)->∃u e,r.th= .tup [-"asks",-[!u,e]]/\AX u d=v_):RC (QS g d):=by
 cases h:g.run with
 |none=>
  let e:QS g d=mt {g with ra:= [-[-[-"rule",g.mb],d]]} d:=by unfold QS;rw[h]
  rw[e];exact Ng (g:={g with ra:= [-[-[-"rule",g.mb],d]]}) h d
 |some p=>
  erw[p,rs,r];let Z:QS g d={g with run:=u_ (rs,mw rs g.n r d),en:=ny (mw rs g.n r d)}:=by unfold QS;rw[h]
  rw[Z];intro aa r' e;cases e;erw[U rs r h,u,x,h1,h2];have:=(O rs r h).snoc u x h1 h2;show Ch rs g.n (R0 rs g.n) ((mw rs g.n r d).gs.map AcK) (mw rs g.n r d);rw[AV,ur];exact this
section
variable {qs:oj (Str×D)}
def O0 (hq:Qa qs)(h:GI g)(hc:RC g):RC (Sy.step (SyP qs) (FP qs) g):=by
 rw[Xo];cases he:g.en with
 |some d=>exact hc|none=>
  simp![vL,A4 ub];cases hw:yk g with
  |none=>
   erw[jN (qs:=qs) h he hw,rs,r,k,z,aa,ac,hk,_,e];show RC (nw qs g);rw[e];exact DL hc λae r' e'=>by
    rw[aa] at e';cases e';exact(k,_,ac,(wS hq z hk).2)
  |some m=>
   simp only;cases hF:FP qs m with
   |none=>exact λrs r e=>hc rs r e|some y=>
    refine DL hc λrs r e=>?_;erw[KG h hw,kd,U,hk];let Z:=(h.run rs r e).2.2;unfold yb at U;rw[e] at U;let U:xu r.th=-[!kd,!m]:=U;let O:=Z.2 he;rcases Z.1 with⟨z,e1⟩|⟨e0,e1,_⟩|⟨u,z,e1,_,hu⟩
    .rw[e1] at O;exact A8 (show decide (("fault":Str)="asks")=v_ from O) ()
    .rw[e1] at O;exact A8 (show decide (("said":Str)="asks")=v_ from O) ()
    .rw[e1] at U;let U:D.tup [!u,!z]=-[!kd,!m]:=U;cases U;let ad:kd="thing":=by
      rcases hu with rfl|⟨rfl|rfl,_⟩
      .exact A8 hk ()
      .rfl
      .exact A8 hk ()
     subst ad;exact(_,_,e1,kS (Aah hq _ _ hF))
def Abb (O:Qa qs):∀(k:Nat) {g:Gp},GI g->GA g->RC g->RC (itP qs k g)
 |0,g,h,ha,t=>t|k+1,g,h,ha,t=>by
  erw[zZ O (Aah O) h ha,h1,h2];exact Abb O k h1 h2 (O0 O h t)
def Ac9 {d:D}(h:g0D m d=u_ g):RC g:=by
 unfold g0D at h;split at h
 .split at h
  .cases h
  .split at h
   .cases h;intro rs r e;cases e
   .cases h;exact Ng rfl _
 .cases h
def Aa6 (U:Qa qs)(O:g0D m (qB qs m)=u_ g)(k:Nat):RC (itP qs k g):=Abb U k (Kr U O).1 (ke O).1 (Ac9 O)
abbrev mP (z:Str):D:=-[-"stuck",!z]
abbrev AcI (z:Str):D:=-[-"asks",-[-"thing",!z]]
abbrev Hs (src:D)(pre:oj D)(rl:D):Prop:=(src= .tup [-"rule",rl]/\pre= [])\/∃z:Str,src= .tup [-"made",!z]/\pre= [-[-[-"rule",!z],rl]]
inductive IG (src:D)(p:Gp):Prop
 |wait (z:Str)(h0:src=-[-"made",!z])(h1:p.mb= !z)(h2:p.run=U_)(h3:p.ra= [])(h4:p.en=U_\/p.en=u_ (mP z)):IG src p
 |lack (pre:List D)(rl:D)(h0:Hs src pre rl)(h1:p.ra=pre)(h2:p.run=U_)(h3:yZ rl=v_)(h4:p.en=u_ (flt "lack")):IG src p
 |bad (pre:List D)(rl:D)(h0:Hs src pre rl)(h1:p.ra=pre)(h2:p.run=U_)(h3:yZ rl=Vi)(h5:QI rl=U_)(h4:p.en=u_ (flt "rule")):IG src p
 |run (pre:List D)(rl:D)(rs:List Rw)(r:Rn)(h0:Hs src pre rl)(h1:p.ra=pre)(h2:p.run=u_ (rs,r))(h3:yZ rl=Vi)(h5:QI rl=u_ rs)(h4:p.en=ny r\/∃z,p.en=u_ (mP z)/\r.th=AcI z):IG src p
variable {src:D}
def NG {pre:oj D}{rl:D}(h:g.run=U_)(hs:Hs src pre rl)(hp:g.ra=pre):IG src (mt g rl)/\(mt g rl).n=g.n:=by
 cases hn:yZ rl with
 |true=>
  let O:mt g rl={g with en:=u_ (flt "lack")}:=A6 hn
  rw[O];exact[.lack pre rl hs hp h hn rfl:1]
 |false=>
  let U:¬yZ rl=true:=by rw[hn];exact ub
  cases Z:QI rl with
  |none=>
   let O:mt g rl={g with en:=u_ (flt "rule")}:=by unfold mt;rw[A4 U,Z]
   rw[O];exact[.bad pre rl hs hp h hn Z rfl:1]
  |some rs=>
   let O:mt g rl={g with run:=u_ (rs,R0 rs g.n),en:=ny (R0 rs g.n)}:=by unfold mt;rw[A4 U,Z]
   rw[O];exact[.run pre rl rs _ hs hp rfl hn Z (.inl rfl):1]
def Adq (Z:Qa qs)(h:g0D m (qB qs m)=u_ g):IG (qB qs m) g:=by
 let hm:m>qs.map (·.1):=(Qs qs).gn m g h;erw[Jg Z hm,_,k,e,hd,h1,h2];rw[hd] at h⊢;let h:(if k="leaf" then U_ else if k="made" then u_ ((m,e,[],U_,U_):Gp) else u_ (mt (m,.non,[],U_,U_) e))=u_ g:=h
 by_cases U:k="leaf"
 .rw[A6 U] at h;cases h
 rw[A4 U] at h;by_cases O:k="made"
 .rw[A6 O] at h;cases h;erw[h1 O,z,rfl,_];subst O;exact .wait z rfl rfl rfl rfl (.inl rfl)
 .rw[A4 O] at h;cases h;let hk:k="rule":=by
   rcases(h2 O).1 with h|h
   .exact A8 h U
   .exact h
  subst hk;exact(NG (g:=(m,.non,[],U_,U_)) rfl (.inl [1:1]) rfl).1
def SE (hq:Qa qs)(h:GI g)(hi:IG src g):IG src (Sy.step (SyP qs) (FP qs) g):=by
 rw[Xo];cases he:g.en with
 |some d=>exact hi|none=>
  simp![vL,A4 ub];cases hi with
  |lack pre rl h0 h1 h2 h3 h4=>rw[he] at h4;cases h4|bad pre rl h0 h1 h2 h3 h5 h4=>rw[he] at h4;cases h4|wait z h0 h1 h2 h3 h4=>
   let hw:yk g=u_ z:=by
    unfold yk yb;rw[h2]
    try dsimp only
    rw[h1]
    try dsimp only
    exact A4 ()
   rw[hw]
   try dsimp only
   cases hF:FP qs z with
   |none=>exact .wait z h0 h1 h2 h3 (.inr rfl)|some y=>
    let e:QS g (y.getD .non)=mt {g with ra:= [-[-[-"rule",g.mb],y.getD .non]]} (y.getD .non):=by unfold QS;rw[h2]
    show IG src (QS g (y.getD .non));rw[e];exact(NG (g:={g with ra:= [-[-[-"rule",g.mb],y.getD .non]]}) h2 (.inr ⟨z,h0,by rw[h1]⟩) rfl).1
  |run pre rl rs r h0 h1 h2 h3 h5 h4=>
   let tk:∀d,IG src (QS g d):=λd=>by
    let e:QS g d={g with run:=u_ (rs,mw rs g.n r d),en:=ny (mw rs g.n r d)}:=by unfold QS;rw[h2]
    rw[e];exact .run pre rl rs _ h0 h1 rfl h3 h5 (.inl rfl)
   cases hw:yk g with
   |none=>
    erw[jN (qs:=qs) h he hw,aa,r',k,z,ac,ad,hk,_,e];show IG src (nw qs g);rw[e];exact tk _
   |some m=>
    try dsimp only
    cases hF:FP qs m with
    |some y=>exact tk _|none=>
     erw[KG h hw,kd,U,hk];let Z:=(h.run rs r h2).2.2;unfold yb at U;rw[h2] at U;let U:xu r.th=-[!kd,!m]:=U;let O:=Z.2 he;refine .run pre rl rs r h0 h1 h2 h3 h5 (.inr [m:1:?_]);rcases Z.1 with⟨z,e1⟩|⟨e0,e1,_⟩|⟨u,z,e1,_,hu⟩
     .rw[e1] at O;exact A8 (show decide (("fault":Str)="asks")=v_ from O) ()
     .rw[e1] at O;exact A8 (show decide (("said":Str)="asks")=v_ from O) ()
     .rw[e1] at U⊢;let U:D.tup [!u,!z]=-[!kd,!m]:=U;cases U;rcases hu with rfl|⟨rfl|rfl,_⟩
      .exact A8 hk ()
      .rfl
      .exact A8 hk ()
def AaR (g:Gp):(Sy.step (SyP qs) (FP qs) g).n=g.n:=by
 rw[Xo];split
 .rfl
 .split
  .exact Abr qs g
  .split
   .exact Dc g _
   .rfl
def AbY (O:Qa qs){src:D}:∀(k:Nat) {g:Gp},GI g->GA g->IG src g->IG src (itP qs k g)/\(itP qs k g).n=g.n
 |0,g,h,ha,t=>[t:1]|k+1,g,h,ha,t=>by
  erw[zZ O (Aah O) h ha,h1,h2];erw[AbY O k h1 h2 (SE O h t),U,Z];exact[U:Z.trans (AaR g)]
inductive Fn (qs:List (Str×D))(m:Str)(src:D)(as:List D)(en:D):Prop
 |wait (z:Str)(h0:src=-[-"made",!z])(h1:as= [])(h2:en=mP z):Fn qs m src as en
 |lack (pre:List D)(rl:D)(h0:Hs src pre rl)(h1:as=pre)(h3:yZ rl=v_)(h4:en=flt "lack"):Fn qs m src as en
 |bad (pre:List D)(rl:D)(h0:Hs src pre rl)(h1:as=pre)(h3:yZ rl=Vi)(h5:QI rl=U_)(h4:en=flt "rule"):Fn qs m src as en
 |run (pre:List D)(rl:D)(rs:List Rw)(r:Rn)(h0:Hs src pre rl)(h1:as=pre++r.gs)(h3:yZ rl=Vi)(h5:QI rl=u_ rs)(h6:Ch rs m (R0 rs m) (r.gs.map AcK) r)(h7:CZ rs r)(h8:ThS r.th)(h4:en=r.th\/∃z,en=mP z/\r.th=AcI z):Fn qs m src as en
def SQ (hq:Qa qs)(Z:g0D m (qB qs m)=u_ g):Fn qs m (qB qs m) (Qi (itP qs 302 g)) (mV (itP qs 302 g)):=by
 erw[Kr hq Z,hG,hn];erw[AbY hq 302 hG (ke Z).1 (Adq hq Z),hi,aa];let O:=yG Z;let ac:=Aa6 hq Z 302;let U:=(Jj hq Z 302).1;generalize itP qs 302 g=p at hi aa O ac U;unfold mV Qi;cases hi with
 |wait z h0 h1 h2 h3 h4=>
  rcases h4 with h4|h4
  .rw[h4] at O;cases O
  .rw[h2,h3,h4];exact .wait z h0 rfl rfl
 |lack pre rl h0 h1 h2 h3 h4=>
  rw[h2,h4,h1];exact .lack pre rl h0 (uU _) h3 rfl
 |bad pre rl h0 h1 h2 h3 h5 h4=>
  rw[h2,h4,h1];exact .bad pre rl h0 (uU _) h3 h5 rfl
 |run pre rl rs r h0 h1 h2 h3 h5 h4=>
  let hc:=ac rs r h2;rw[aa,hn] at hc;let hO:=(U.run rs r h2).2.1;let ad:=(U.run rs r h2).2.2.1;rw[h2,h1];refine .run pre rl rs r h0 rfl h3 h5 hc hO ad ?_;rcases h4 with h4|⟨z,h4,h6⟩
  .rw[h4] at O⊢;unfold ny at O⊢;by_cases c:QH r.th=v_
   .rw[A6 c] at O;cases O
   .rw[A4 c];exact .inl rfl
  .rw[h4];exact .inr [z:1:h6]
end
namespace Sy
variable {Y:Sy}
abbrev Bf (l:oj (Str×Y.G))(n:Str)(g:Y.G):Prop:=∃g',(g=g'\/∃m,g=Y.stuck g' m)/\NX Y (l.map (·.1)) n g'
def Bf.more {l O:oj (Str×Y.G)}{n:Str}{g:Y.G}(h:Bf l n g)(hn:∀p>l,p>O):Bf O n g:=by
 erw[h,g',h1,h2];exists g',h1,h2.more λm hm=>?_;erw[Ae.mp hm,p,U,rfl];exact Ae.mpr [p:hn p U:1]
structure Bfs (S:Ss Y):Prop where
 st:∀p>S.stk,Bf S.don p.1 p.2
 dn:∀l1 p l2,S.don=l1++p::l2->Bf l1 p.1 p.2
def Cq {α:Type}{l l1 l2:oj α}{x p:α}(h:l++ [x]=l1++p::l2):(l=l1/\x=p)\/∃O,l=l1++p::O:=by
 rcases T_ l2 with rfl|⟨O,y,rfl⟩
 .exact .inl (Fw h rfl|>.imp id λz=>(pL z).1)
 .right;exists O;have:l++ [x]=(l1++p::O)++ [y]:=by rw[h];simp
  exact(Fw this rfl).1
variable {n0:Str}{S:Ss Y}
def AbD (h:Y.Ok)(hs:SOk n0 S)(c:Bfs S):Bfs (nxt S):=by
 erw[S,stk,don];cases stk with
 |nil=>exact c|cons p r=>
  erw[p,n,g];let c0:=c.st (n,g) ui;let put:∀g',Bf don n g'->Bfs (⟨(n,g')::r,don⟩:Ss Y):=λg' hb=>⟨λp Z=>by
   rcases Aa.mp Z with rfl|Z
   .exact hb
   .exact c.st p (uh _ Z),c.dn⟩
  let c1:Y.fin g=Vi->NX Y (don.map (·.1)) n g:=λO=>by
   erw[c0,g1,h1,h2];rcases h1 with h1|⟨m,h1⟩
   .let h1:g=g1:=h1;rwa[h1]
   .let h1:g=Y.stuck g1 m:=h1;rw[h1,h.fs g1 m] at O;cases O
  let on:∀g',Y.fin g=Vi->step Y (F Y) g=g'->(∀m,Y.want g=u_ m->Y.g0 m=U_\/m>don.map (·.1))->Bf don n g':=by
   intro g' O e hm;erw[c1 O,s,k,h1,h2,h3];exists g',.inl rfl,s,k+1,h1,by rw[XF,<-h2,e],λi hi ac m hw=>?_
   by_cases ci:i<k
   .exact h3 i ci ac m hw
   .have:i=k:=by omega
    subst this;rw[<-h2] at hw;exact hm m hw
  unfold nxt;simp only;cases O:Y.fin g with
  |true=>
   rw[A6 rfl];exists λp Z=>(c.st p (uh _ Z)).more λq hq=>uX _ hq,λl1 p l2 e=>?_;rcases Cq e with⟨rfl,rfl⟩|⟨l3,e⟩
   .exact c0
   .exact c.dn l1 p l3 e
  |false=>
   rw[A4 ub];let aa:step Y (F Y) g=match Y.want g with
     |none=>Y.own g|some m=>match F Y m with
      |some a=>Y.tk g a|none=>Y.stuck g m:=by
    unfold step;rw[O,A4 ub]
    all_goals rfl
   cases hw:Y.want g with
   |none=>exact put _ (on _ O (by rw[aa,hw]) λm z=>by rw[hw] at z;cases z)|some m=>
    rw[hw] at aa;simp only at aa⊢;cases U:yet ([(n,g)::r:don]:Ss Y) m with
    |some o=>
     cases o with
     |some a=>
      have hF:=Aas h hs O hw U;refine put _ (on _ O (by rw[aa,hF]) λm' z=>?_)
      rw[hw] at z;cases z;unfold yet at U;by_cases cm:m>((n,g)::r).map (·.1)
      .rw[A6 cm] at U;cases U
      .rw[A4 cm] at U;cases hg:Y.g0 m with
       |none=>exact .inl rfl|some gm=>
        rw[hg] at U;simp only at U;cases hd:Yn don m with
        |none=>rw[hd] at U;cases U|some gd=>exact .inr (Ae.mpr [_:XZ hd:1])
     |none=>exact put _ [g:.inr [m:1]:c1 O]
    |none=>
     simp only;erw[jj U,h1,[g',hg],h2];rw[hg];exists λp Z=>?_,c.dn;rcases Aa.mp Z with rfl|Z
     .exact(_,.inl rfl,g',(0),hg,1,λi hi=>A8 hi (U7 i))
     .exact c.st p Z
def nx_bf (h:Y.Ok){n0:Str}{S:Ss Y}(O:SOk n0 S)(c:Bfs S):∀k,Bfs (nx S k)
 |0=>c|k+1=>AbD h (nx_ok h O k) (nx_bf h O c k)
def S0_bf {n:Str}{g:Y.G}(O:Y.g0 n=u_ g):Bfs (S0 Y n):=by
 unfold S0;rw[O];exists λp U=>?_,λl1 p l2 e=>?_
 .cases Ab.mp U;exact(_,.inl rfl,g,(0),O,1,λi hi=>A8 hi (U7 i))
 .let e: []=l1++p::l2:=e;simp at e
end Sy
section
variable {qs:oj (Str×D)}
def AaS (ha:GA g):∀x>Qi (Sy.step (SyP qs) (FP qs) g),x>Qi g\/(g.en=U_/\∃d,x=-[yb g,d]):=by
 let U:∀d,g.en=U_->∀x>Qi (QS g d),x>Qi g\/(g.en=U_/\∃d,x=-[yb g,d]):=by
  intro d Z x O;rw[(YQ ha Z d).1] at O;rcases Ac.mp O with O|O
  .exact .inl O
  .cases Ab.mp O;exact .inr [Z:d:1]
 rw[Xo];cases Z:g.en with
 |some d=>exact λx O=> .inl O|none=>
  simp![vL,A4 ub];let U:∀d,∀x>Qi (QS g d),x>Qi g\/(True/\∃d,x=-[yb g,d]):=λd x O=>(U d Z x O).imp id λz=>[trivial:z.2];cases hw:yk g with
  |none=>
   show∀x>Qi (nw qs g),_;unfold nw;split
   .exact U _
   .exact λx O=> .inl O
  |some m=>
   simp only;cases FP qs m with
   |some a=>exact U _|none=>exact λx O=> .inl O
def Adp (U:Qa qs):∀(k:Nat) {g:Gp},GI g->GA g->∀x>Qi (itP qs k g),x>Qi g\/∃i,i<k/\(itP qs i g).en=U_/\∃d,x=-[yb (itP qs i g),d]
 |0,g,h,ha=>λx O=> .inl O|k+1,g,h,ha=>by
  erw[zZ U (Aah U) h ha,h1,h2];intro x O;rcases Adp U k h1 h2 x O with O|⟨i,hi,hd⟩
  .rcases AaS ha x O with O|O
   .exact .inl O
   .exact .inr [(0):HB k:O]
  .exact .inr [i+1:Nat.succ_lt_succ hi:hd]
variable {z:Str}{an:D}
def ML (hq:Qa qs){n:Str}{l1 l2:oj (Str×Gp)}{p:Str×Gp}(h:Dn qs n don)(e:don=l1++p::l2)(U:D.tup [-[!kd,!z],an]>Qi p.2)(hk:ml kd=Vi):g0D z (qB qs z)=U_\/z>l1.map (·.1):=by
 let hp:p>don:=by rw[e];simp
 erw[Jb h hp,s,Z,e2];cases hg:g0D n (qB qs n) with
 |none=>rw[WB hg h] at hp;cases hp|some g=>
  erw[id h,j,hj];let hb:=Sy.nx_bf (Qs qs) (Sy.S0_ok hg) (Sy.S0_bf hg) j;rw[hj] at hb;erw[hb.dn l1 p l2 e,g',O,s',k,h1,h2,h3];let h1:g0D p.1 (qB qs p.1)=u_ s':=h1;rw[Z] at h1;cases h1;let ea:Qi p.2=Qi (itP qs k s):=by
   let h2:g'=itP qs k s:=h2;rcases O with O|⟨m,O⟩
   .rw[O,h2]
   .let O:p.2=Ld g' m:=O;rw[O,h2]
    rfl
  rw[ea] at U;rcases Adp hq k (Kr hq Z).1 (ke Z).1 _ U with U|⟨i,aa,hi,d,hd⟩
  .rw[(ke Z).2] at U;cases U
  .let hw:yk (itP qs i s)=u_ z:=by
    let hd:yb (itP qs i s)=-[!kd,!z]:=by
     injection hd with hd
     injection hd with hd _
     exact hd.symm
    unfold yk;rw[hd];show(if ml kd=v_ then U_ else u_ z)=u_ z
    rw[hk,A4 ub]
   exact h3 i aa (by show(itP qs i s).en.isSome=Vi;rw[hi];rfl) z hw
def AcO (h:GI g)(he:g.en=U_)(O:yb g=-[!kd,!m])(hk:kd≠"names"):nm m=true:=by
 unfold yb at O;cases hr:g.run with
 |none=>
  rw[hr] at O;let O:D.tup [-"rule",g.mb]=-[!kd,!m]:=O;erw[h.no hr he,z,hz,hn];rw[hz] at O;cases O;exact hn
 |some p=>
  erw[p,rs,r];rw[hr] at O;let O:xu r.th=-[!kd,!m]:=O;let Z:=(h.run rs r hr).2.2;let U:=Z.2 he;rcases Z.1 with⟨z,e1⟩|⟨e0,e1,_⟩|⟨u,z,e1,_,hu⟩
  .rw[e1] at U;exact A8 (show decide (("fault":Str)="asks")=v_ from U) ()
  .rw[e1] at U;exact A8 (show decide (("said":Str)="asks")=v_ from U) ()
  .rw[e1] at O;let O:D.tup [!u,!z]=-[!kd,!m]:=O;cases O;rcases hu with rfl|⟨_,hn⟩
   .exact A8 rfl hk
   .exact hn
def S3 (Z:Qa qs){s:Gp}(O:g0D m (qB qs m)=u_ s)(U:D.tup [-[!kd,!z],an]>Qi (itP qs 302 s))(hk:kd≠"names"):nm z=true:=by
 rcases Adp Z 302 (Kr Z O).1 (ke O).1 _ U with U|⟨i,_,hi,d,hd⟩
 .rw[(ke O).2] at U;cases U
 .injection hd with hd
  injection hd with hd _
  exact AcO (Jj Z O i).1 hi hd.symm hk
end
abbrev MU (qs ers:oj (Str×D))(kd z:Str)(an:D):Prop:=(kd≠"names"->nm z=v_)/\((ml kd=v_/\an=xy qs kd z)\/(ml kd=Vi/\(kd="thing"\/kd="rule")/\((g0D z (qB qs z)=U_/\an=(oH (qB qs z)).getD .non)\/((∃s,g0D z (qB qs z)=u_ s)/\z>ers.map (·.1)/\qB ers z= .tup [-"said",an]/\isT an=v_))))
structure Rst (qs ers es:oj (Str×D))(m:Str)(as:oj D)(en:D):Prop where
 nin:m∉ers.map (·.1)
 run:∃s,g0D m (qB qs m)=u_ s
 asks:∀x>as,∃kd z an,x= .tup [-[!kd,!z],an]/\↑z<=1000/\MU qs ers kd z an
 fin:Fn qs m (qB qs m) as en
 few:↑as<=400
 nd:nL as=v_/\dpL as<=30/\nD en=v_/\dp en<=20
 stk:∀z,en=mP z->z>es.map (·.1)/\∃k x,qB es z= .tup [!k,x]/\k≠"said"
nonrec abbrev Pp:=oj (Str×oj D×D)
abbrev lT (ps:Pp):oj (Str×D):=ps.map λs=>(s.1,s.2.2)
abbrev stD (s:Str×oj D×D):D:=-[.str s.1,.tup s.2.1,s.2.2]
abbrev iQ (don:oj (Str×Gp)):Pp:=don.map λq=>(q.1,Qi q.2,mV q.2)
def SR (don:oj (Str×Gp)):(lT (iQ don)).map (·.1)=don.map (·.1):=by
 unfold lT iQ;rw[uP,uP]
 rfl
def MK {p:Gp}(h:GI p):↑(Qi p)<=400:=by
 let h1:=h.ra.2.2;unfold Qi;rw[uL];cases O:p.run with
 |none=>show _+0<=400;omega|some q=>
  erw[q,rs,r];let h2:=(h.run rs r O).2.1;let h3:=h2.gs.2.2;let h4:=h2.n;show _+↑r.gs<=400;omega
abbrev Aak (qs ers:oj (Str×D))(kd z:Str)(an:D):Prop:=(kd="thing"\/kd="rule")/\nm z=v_/\(∃s,g0D z (qB qs z)=u_ s)/\isT an=v_/\(z∉ers.map (·.1)\/(z>ers.map (·.1)/\∃y,qB ers z=mP y))
variable {ers:oj (Str×D)}{z:Str}{an:D}
def MM (h:Aak qs ers kd z an):¬MU qs ers kd z an:=by
 erw[h,hk,_,[s,hg],_,U];rintro⟨_,⟨hh,_⟩|⟨_,_,⟨h0,_⟩|⟨_,Z,hd,_⟩⟩⟩
 .rcases hk with rfl|rfl
  .exact A8 hh ()
  .exact A8 hh ()
 .rw[h0] at hg;cases hg
 .rcases U with U|⟨_,y,O⟩
  .exact U Z
  .rw[hd] at O;unfold mP at O;injection O with O
   injection O with O _
   injection O with O
   exact A8 O ()
abbrev AdX (qs ers es:oj (Str×D))(m:Str)(as:oj D)(en:D):Prop:=m∉ers.map (·.1)/\(∃s,g0D m (qB qs m)=u_ s)/\(((∀x>as,∃kd z an,x= .tup [-[!kd,!z],an]/\↑z<=1000/\(MU qs ers kd z an\/Aak qs ers kd z an))/\∃kd z an,D.tup [-[!kd,!z],an]>as/\Aak qs ers kd z an)\/∃es',Rst qs ers es' m as en/\EnS en/\∃z,en=mP z/\(z∉es.map (·.1)\/(z>es.map (·.1)/\∃x,qB es z=-[-"said",x])))
end K44
namespace K44
open PySem L2 PyProof.Rows
inductive Abg (x:V)(y:V)(H:Hp)(Q:VK):Prop
 |same (d:D)(h0:Is H d x)(h1:Is H d y)(h2:d= .non\/trD d=v_)(h3:dp d<=60)(h4:Q (.bl v_) H):Abg x y H Q
 |tt (ds es:List D)(h0:Is H (¬ds) x)(h1:Is H (¬es) y)(h2:nL ds=v_)(h3:nL es=v_)(h4:dpL ds<=60)(h5:eqNL ds es=Vi)(h6:Q (.bl Vi) H):Abg x y H Q
 |nt (p:Addr)(us:List V)(h0:x= .non)(h1:y=-p)(h2:H p=u_ (¬us))(h3:Q (.bl Vi) H):Abg x y H Q
variable {X:Cx}
def D7 (hu:X.A.units+64<Vr):OpR X (Vs .Eq) Abg:=by
 exists 2,x,y,v,u,Q,I,O,U,h;let Z:X.A.units<cLine:=by omega
 rcases h with⟨d,h1,h2,rfl|hd,hp,q⟩|⟨ds,es,h1,h2,h3,h4,h5,h6,q⟩|⟨p,us,rfl,rfl,hp,q⟩
 .cases(show x= .non from h1)
  cases(show y= .non from h2)
  exact QL oq s σ H .non .non v u Q I O U ⟨1,by simpa using q⟩
 .refine BC hu oq s σ H x y v u Q I O U (d,d,h1,h2,hd,hd,hp,?_);rwa[(AE (MY hd)).mpr rfl]
 .refine kY hu oq s σ H x y v u Q I O U (ds,es,h1,h2,h3,h4,h5,?_);rwa[h6]
 .cases O;cases U;erw[I.tuple (.inl (.of hp)),its,_,tq,_];exact pD tq Z X.prog X.w X.xe _ (.bl Vi,H,I,1,q)
def NL {K:o0}{a:o3}{c:Int}{xs:oj V}{g:TG}{tb:TS}{D:nc}{σ:L2.St}{H:Hp}(O:Nat->L2.St->Hp->Prop)(h0:O 0 σ H)(hl:∀i σ H,i<=↑xs->O i σ H->SqT K H a xs)
  (hs:∀i x σ H p,xs[i]? =u_ x->O i σ H->H p=U_->g (-p) σ (upd H p (-[.int (c+i),x])) λZ H2=>tb {D with nx:=O (i+1),ct:=O (i+1),bk:=D.nx} Z H2) (hd:∀σ H,O ↑xs σ H->D.nx σ H):
  ∃W:Nat->Nat->L2.St->Hp->Prop,(∃m,W 0 m σ H)/\∀i m σ H,W i m σ H->
   ((Ite K a c).stop i H/\D.nx σ H)\/((Ite K a c).go i H/\∃N:L2.St->Hp->Prop,(∀σ' H',N σ' H'->∃m',m'<m/\W (i+1) m' σ' H')/\∀x H',(Ite K a c).yld i H x H'->g x σ H' λZ H2=>tb {D with nx:=N,ct:=N,bk:=D.nx} Z H2):=by
 exists λi m σ H=>m=↑xs-i/\i<=↑xs/\O i σ H,(↑xs,by simp,vc _,h0)
 rintro i m σ H ⟨rfl,hi,p⟩;let q:=hl i σ H hi p;by_cases U:i<↑xs
 .refine .inr ((xs,xs[i],q,by simp[U]),O (i+1),λσ' H' p'=>(↑xs-(i+1),(),1,U,p'),λx H' y=>?_)
  erw[y,p2,y2,rfl,hp,rfl,y];exact hs i y2 σ _ p2 (y xs q) p hp
 .let e:i=↑xs:=by omega
  subst e;exact .inl [[xs:q:1]:hd σ H p]
inductive Dw:Sp
 |mk (v:V)(d:D)(_:vs= [v])(_:Is H d v)(_:(d= .non\/∃k e,d=-[!k,e]))(_:∀H',ic H H'->Q (.bl (yZ (yL d))) H')
inductive CG (rs:List Rw)(own:Str):Rn->List D->Rn->Prop
 |nil (r:Rn):CG rs own r [] r
 |cons {r r':Rn}{a:D}{gs:List D}(u:Str)(d:D)(h1:r.th=-[-"asks",-[!u,d]])(h2:AX u a=v_)(h3:CG rs own (mw rs own r a) gs r'):CG rs own r (.tup [-[!u,d],a]::gs) r'
def Acf {rs:oj Rw}{own:Str}:∀{as:oj D}{r r':Rn},Ch rs own r as r'->∃gs,r'.gs=r.gs++gs/\CG rs own r gs r'
 |_,_,_,.nil r=>⟨[],by simp,.nil r⟩|_,r,_,.cons (a:=a) u d h1 h2 h3=>by
  erw[Acf h3,gs,e,h];exists .tup [-[!u,d],a]::gs,?_,.cons u d h1 h2 h;rw[e,AV,h1];simp[xu]
inductive Op (C:Addr):Sp
 |mk (m:Mc)(r r':Rn)(t:Addr)(us:List V)(gs:List D)(_:vs= [-m.x,-t])(_:yB C H m r)(_:CZ m.rs r)(_:Q2 m.rs)(_:↑m.own<=100)(_:H t=u_ (¬us))(_:L2.IsL H gs us)(_:CG m.rs m.own r gs r')(_:∀H',Mv m H H'->yB C H' m r'->CZ m.rs r'->Q (.int (↑gs:Int)) H')
abbrev AdW (r:Rn)(en:D):Prop:=(en=r.th/\QH r.th=Vi/\∃k x,en= .tup [!k,x]/\k≠"stuck")\/∃z,en=mP z/\r.th=AcI z
inductive OL:Sp
 |mk (rv:V)(own:Str)(tr ta:Addr)(us:List V)(ev:V)(rs:List Rw)(r:Rn)(gs:List D)(_:vs= [rv,!own,-tr])(_:Is H (jS rs) rv)(_:Q2 rs)(_:nm own=v_)(_:H tr=u_ (-[-ta,ev]))(_:H ta=u_ (¬us))(_:L2.IsL H gs us)(_:CG rs own (R0 rs own) gs r)(_:Is H r.th ev)(_:QH r.th=Vi)(_:∀H',ic H H'->Q (.bl v_) H')
inductive Lk:Sp
 |mk (rv:V)(own:Str)(ta:Addr)(us:List V)(ev:V)(rs:List Rw)(r:Rn)(gs:List D)(en:D)(_:vs= [rv,!own,-ta,ev])(_:Is H (jS rs) rv)(_:Q2 rs)(_:nm own=v_)(_:H ta=u_ (¬us))(_:L2.IsL H gs us)(_:CG rs own (R0 rs own) gs r)(_:Is H en ev)(_:AdW r en)(_:∀H',ic H H'->Q (.bl v_) H')
inductive Dv:Sp
 |mk (sv:V)(own:Str)(ta:Addr)(us:List V)(ev:V)(qs:List (Str×D))(src:D)(as:List D)(en:D)(_:vs= [sv,!own,-ta,ev])(_:Is H src sv)(_:nm own=v_)(_:H ta=u_ (¬us))(_:L2.IsL H as us)(_:Fn qs own src as en)(_:Is H en ev)(_:EnS en)(_:nD en=v_/\dp en<=20)(_:∀H',ic H H'->Q (.bl v_) H')
section
variable {P:o9}{w:og}{K:o0}{mg:Str->om o6}{base:o8}{a:Ad}{g:Ga}
def oN:#[T,2,a.f_has_run,a.d_has_run,["source"],Dw]:=by
 let Z:=#[Al,T];exists 9,T.mU,Cu
 erw[h,v,d,rfl,iv,hd,k];let hs:=uE;exists 3,%[|#[qm,#[Qn,yH,#[qq,Z,T.io,#v[pv 0]],qR]]]
 exists 0,v,d,1,iv,hd,λu H1 s1 O=>[1:?_];let e:decide (u=V.non)=yZ (yL d):=by
  cases hd:yZ (yL d) with
  |true=>
   cases U:yL d with
   |non=>rw[U] at O;exact ug O|_=>rw[U] at hd;cases hd
  |false=>exact uj (jQ O λz=>by rw[z] at hd;cases hd)
 rw[e];exact k _ s1
def Eb:#[C,8,a.jt,a.jB,["machine","asks"],(Op a.qo)]:=by
 let Qr:=#[oI,T];let YA:FnOk P w K mg base (CX1 P w) 6 a.Yu a.Yx ["self","tree"] (Na a.qo):=(Nq T C).up0;exists 9,T.iT,yN
 erw[h,m,r0,r',t,us,gs,rfl,M0,ah,hR,ak,ht,ac,al,k];let hs:=uE;let U:↑us=↑gs:=↑ac;exists 3,%[#[yW,#[Bz,8,_,T.Wy,pv 1,_],#[Kf,Qz #[qM,(2),yN.nd] (Qz #[qM,(3),yN.nd] Jz)],%[#[qH,#[qp,#[WU,1,hr.units],#[QK,pv 0,T.qv,T.iF,Qr],#[qI,#v[ql,#[qG,qA,pv 3]]],qw _],%[|#[qm,pv 2]],qt]|#[O6,26,pv 0,T.qv,T.iJ.h,YA,hr.mono (),T.iJ.b,#v[#[qG,qA,pv 3]],[1:1],_,C.m_BadAnswer,C.e_BadAnswer,(λ_ _=>%[|#[qm,pv 2]]),_,_,_,_,_]]]|#[qm,#[qy,qJ,T.yi,uM,#v[pv 1]]]]
 exists 8,N1,q1
 exists 0,t,us,1,SqT.of ht,λhsz=>?_
 refine_lift let J_:Nat->L2.St->Hp->Prop:=λi σ H'=>∃(r:Rn) (x2 x3:om V),σ= [u_ (-m.x),u_ (-t),x2,x3]/\yB a.qo H' m r/\CZ m.rs r/\CG m.rs m.own r (gs.drop i) r'/\Mv m H H';?_
 refine NL (c:=0) (xs:=us) J_ (r0,_,0,M0,ah,al,Mv.refl _ _) (λi σ H' hi ⟨_,_,_,_,_,_,_,mv⟩=>SqT.of (mv.tk.tup _ _ ht)) ?_ ?_
 .rintro i y σ H' p hy ⟨r,x2,x3,rfl,M,hO,hc,mv⟩ hp;let ad:i<↑gs:=by rw[<-U];exact(Af.mp hy).1
  let am:gs.drop i=gs[i]::gs.drop (i+1):=uV ad;rw[am] at hc;generalize ao:gs[i]=gi at hc;obtain⟨y',ae,iy⟩:=ac.get (i:=i) (d:=gi) (by rw[uf ad,ao])
  rw[hy] at ae;cases ae;let s1:=qf hp (-[.int (0+(i:Int)),y]);let M1:=M.same s1;let Z:=mv.trans (Mv.of s1);let e1:(upd H' p (-[.int (0+(i:Int)),y])) p=u_ (-[.int (0+(i:Int)),y]):=qg;generalize upd H' p (-[.int (0+(i:Int)),y])=H1 at s1 M1 Z e1⊢;let ap:=iy.mono Z.tk;cases hc with
  |cons u d h1 h2 h3=>
   rename_i an
   erw[ap,tp,up,rfl,af,v1,r1,rfl,i1,v2,r2,rfl,i2,aq];cases(show r2= [] from aq)
   exists p,0,SqT.of e1,1,_,0,_,0,1;show nA _ _ _ _ H1;exists 8,B1,b1;erw[id M1,au,aw,_,_,_,_,ax,ay,_]
   exists 0,m.x,au,aw,1,ax,ay.meth _ (),m,r,1,M1,λv5 i5=>?_
   rw[h1] at i5
   exists 0,tp,_,_,0,1,SqT.of af,qD (j:=0) rfl,sml rfl,λl hl=>?_;let s2:=qf hl (-[-"asks",v1]);let aa:=hO.gd;rw[h1] at aa;let O:=X9 aa.1;let ag:dpL [-"asks",-[!u,d]]<=60:=by
    have:=aa.2;simp![dp] at this⊢;omega
   simp![nD] at O
   exists [-"asks",-[!u,d]],[-"asks",-[!u,d]],i5.mono s2.tk,Is.new (ds:= [-"asks",-[!u,d]]) (_,0,yU (),_,0,i1,1) hl,O,O,ag,0
   rw[(eqNL_iff O).mpr rfl];refine iX (b1 _ _ ?_);let M2:=M1.same s2;let aA:=Z.trans (Mv.of s2);erw[id M2,aB,aC,_,_,_,_,aD,aE,_]
   exists 0,m.x,aB,aC,1,aD,aE.meth _ (),0,tp,_,_,0,1,SqT.of (s2 _ _ af),qD (j:=1) rfl,m,r,v2,u,d,an,1,M2,hO,h1,i2.mono s2.tk,hR,ak,h2,λH3 aF M3=>?_
   exact(mw m.rs m.own r an,_,0,M3,AU hR hO (IW h1) (AW h2),h3,aA.trans aF)
 .rintro σ H' ⟨r,x2,x3,rfl,M,hO,hc,mv⟩;rw[U,rD] at hc;cases hc;refine q1 _ _ ?_
  exists 0,t,us,1,.inr (SqT.of (mv.tk.tup _ _ ht));rw[U];exact k _ mv M hO
variable {C dx:o3}{H:Hp}{v:V}{rs:oj Rw}{own:Str}{Q:VK}
def Ny {br bn:o3}{E:XK}{x:o3}(hv:Is H (jS rs) v)(hR:Q2 rs)(O:nm own=v_)(hx:H x=U_)(Z:H dx=U_)(q:∀(db dg:o3) (H':Hp),H db=U_->H dg=U_->ic H H'->yB C H' (x,db,dg,rs,own) (R0 rs own)->Q .non H'):
  Ky C br bn [-x,v,!own] (upd (upd H dx (.own x)) x (.ins C dx [])) Q E:=by
 let U:ic H (upd (upd H dx (.own x)) x (.ins C dx [])):=λb o h=>by rwa[qj (qk h hx),qj (qk h Z)]
 let hl:=XO O;exists x,dx,v,!own,jS rs,!own,1,qg,hv.mono U.tk,yU (),λh=>?_,λ_ h=>?_,λaa af e1 ac e2 _ _ H1 db dg kept ad ae M1=>?_
 .rw[hR.read] at h;cases h
 .rw[show mQ (!own)=nm own from rfl,O] at h;cases h
 .cases e2;have:aa=rs:=by
   let h1:=ac.read;rw[<-e1,hR.read] at h1;exact(uO h1).symm
  subst this;exact q db dg H1 (U.free ad) (U.free ae) (λb o h=>kept b o (U b o h) (qk h hx)) M1
variable {H1 H2:Hp}
def DE {m:Mc}(s:ic H H1)(v:Mv m H1 H2)(h1:H m.x=U_)(h2:H m.db=U_)(h3:H m.dg=U_):ic H H2:=λb o e=>v.kept b o (s b o e) (qk e h1) (qk e h2) (qk e h3)
def PR:#[C,9,a.f_does,a.d_does,["rule","own","run"],OL]:=by
 let Yg:=#[Eb,T,C];let yg:=#[KU,T,C];let Qr:=#[oI,T];let qY:=#[qau,T];exists 9,T.E6,DD
 erw[h,rv,own,tr,ta,us,ev,rs,r,gs,rfl,hv,hR,aa,Z,ac,ad,am,ie,hw,k];let hs:=uE;let au:=XO aa;exists 3,%[#[qF,(3),DD.nd,#[zK,T.Wh,yg,T.WS,T.iU,oz,#v[pv 0,pv 1]]],#[qH,#[qp,D3,#[qq,Yg,T.iT,#v[pv 3,#[qG,qA,pv 2]]],#[qy,qJ,T.yi,uM,#v[#[qG,qA,pv 2]]],qw _],%[|#[qm,Yr]],qt]|#[qm,#[Zw,#[Abn,4,#[QK,pv 3,T.qv,T.il,qY]],#[XJ,#[Qn,#[kY,1,hr.units],#[QK,pv 3,T.qv,T.iF,Qr],#[qG,qA,pv 2]]]]]]
 exists 8,N1,q1
 exists 0,0,λx dx hx ao nx=>Ny hv hR aa hx ao λdb dg H1 ap aq s1 M1=>[1:q1 _ _ ?_];exists 8,N2,q2
 exists 5
 refine(0,0,tr,_,_,0,1,SqT.of (s1 _ _ Z),qD (j:=0) rfl,(x,db,dg,rs,own),R0 rs own,r,ta,us,gs,1,M1,MP hR,hR,by show ↑own<=100;omega,s1 _ _ ac,ad.mono s1.tk,am,λH2 mv M2 hO=>?_)
 let s2:ic H H2:=DE s1 mv hx ap aq
 exists 0,tr,_,_,0,1,SqT.of (s2 _ _ Z),qD (j:=0) rfl,ta,us,1,.inr (SqT.of (s2 _ _ ac)),_,0,1,0;rw[↑ad];refine iO (uj ()) (q2 _ _ ?_)
 erw[id M2,ae,af,_,_,_,_,ag,ah,_];erw[hO.two,wd,ed,U]
 exists 0,x,ae,af,1,ag,ah.meth _ (),(x,db,dg,rs,own),r,1,M2,.inr [wd:ed:U]
 rw[hw]
 exists 0
 exists 0,lC rfl ?_;let O:nL [!wd,ed]=true:=by
  have:=X9 hO.gd.1;rw[U] at this
  simpa only [nD] using this
 let ak:dpL [!wd,ed]<=60:=by
  have:=hO.gd.2;rw[U] at this;simp![dp] at this⊢;omega
 exists 0,x,ae,af,1,ag,ah.meth _ (),(x,db,dg,rs,own),r,1,M2,λv5 i5=>?_
 let al:=ie.mono s2.tk;rw[U] at i5 al
 exists 0,tr,_,_,0,1,SqT.of (s2 _ _ Z),qD (j:=1) rfl,_,_,i5,al,O,O,ak;rw[(eqNL_iff O).mpr rfl];exact k _ s2
def LR:#[C,10,a.wZ,a.Wu,["rule","own","asks","end"],Lk]:=by
 let O:=#[PR,T,C];let Yg:=#[Eb,T,C];let yg:=#[KU,T,C];let Qr:=#[oI,T];exists 9,T.m8,Zu
 erw[h,rv,own,ta,us,ev,rs,r,gs,en,rfl,hv,hR,Z,aa,ac,ad,ie,hE,k];let hs:=uE;let ay:=XO Z;exists 3,%[#[qH,#[qp,Aj,#[qG,qA,pv 3],ql,qw _],%[|#[qm,#[qq,O,T.E6,#v[pv 0,pv 1,#[qI,#v[pv 2,pv 3]]]]]],qt],#[qF,(4),Zu.nd,#[zK,T.Wh,yg,T.WS,T.iU,oz,#v[pv 0,pv 1]]]|#[qm,#[Zw,#[Qn,QL,#[qq,Yg,T.iT,#v[pv 4,pv 2]],#[qy,qJ,T.yi,uM,#v[pv 2]]],#[XJ,#[Qn,#[kY,1,hr.units],#[QK,pv 4,T.qv,T.iF,Qr],#[qI,#v[ql,#[qI,#v[ql,#[qG,qA,pv 3]]]]]]]]]]
 exists 8,N1,q1;rcases hE with⟨e0,hw,kk,ex,ee,hk⟩|⟨z,ee,ae⟩
 .rw[ee] at ie;erw[id ie,te,ue,rfl,U,w1,r1,rfl,[rfl,af],ag]
  exists 0,te,_,_,0,1,SqT.of U,qD (j:=0) rfl,1,0,lC (by simpa using hk) ?_
  exists 0,0,0,0,sml rfl,λtr ah=>?_;let m1:=qf ah (-[-ta,-te])
  exists rv,own,tr,ta,us,-te,rs,r,gs,1,hv.mono m1.tk,hR,Z,qg,m1 _ _ aa,ac.mono m1.tk,ad,?_,hw,λH' s'=>k H' (m1.trans s');rw[<-e0,ee];exact ie.mono m1.tk
 .rw[ee] at ie;erw[id ie,te,ue,rfl,U,w1,r1,rfl,[rfl,af],w2,r2,rfl,[rfl,ak],al];cases(show r2= [] from al)
  exists 0,te,_,_,0,1,SqT.of U,qD (j:=0) rfl,1,0,iO (by simp) (q1 _ _ ?_)
  exists 8,N2,q2
  exists 0,0,λx dx hx am nx=>Ny hv hR Z hx am λdb dg H1 ao ap s1 M1=>[1:q2 _ _ ?_]
  exists 5
  refine(0,0,(x,db,dg,rs,own),R0 rs own,r,ta,us,gs,1,M1,MP hR,hR,by show ↑own<=100;omega,s1 _ _ aa,ac.mono s1.tk,ad,λH2 mv M2 hO=>?_)
  let s2:ic H H2:=DE s1 mv hx ao ap
  exists 0,ta,us,1,.inr (SqT.of (s2 _ _ aa)),1,0;rw[↑ac];refine lC (ug rfl) ?_;erw[id M2,aq,au,_,_,_,_,aw,ax,_]
  exists 0,x,aq,au,1,aw,ax.meth _ (),(x,db,dg,rs,own),r,1,M2,λv5 i5=>?_
  exists 0,te,_,_,0,1,SqT.of (s2 _ _ U),qD (j:=1) rfl,sml rfl,λt1 h1=>[sml rfl:λt2 h2=>?_];let n1:=qf h1 (-[V.str "thing",V.str z]);let n2:=qf h2 (-[V.str "asks",V.ref t1]);let j1:=Is.new (ds:= [-"thing",!z]) (_,0,yU (),_,0,[1:ak],1) h1
  let j2:=Is.new (ds:= [-"asks",-[-"thing",!z]]) (_,0,yU (),_,0,j1,1) h2
  rw[ae] at i5;let nl:nL [-"asks",-[-"thing",!z]]=true:=rfl
  exists _,_,i5.mono (n1.trans n2).tk,j2,nl,nl,by simp[dpL,dp]
  rw[(eqNL_iff nl).mpr rfl];exact k _ ((s2.trans n1).trans n2)
inductive GoR (own:Str)(rl:D)(gs:List D)(en:D):Prop
 |lack (h0:yZ rl=v_)(h1:gs= [])(h2:en=flt "lack"):GoR own rl gs en
 |bad (h0:yZ rl=Vi)(h1:QI rl=U_)(h2:gs= [])(h3:en=flt "rule"):GoR own rl gs en
 |run (rs:List Rw)(r:Rn)(h0:yZ rl=Vi)(h1:QI rl=u_ rs)(h3:CG rs own (R0 rs own) gs r)(h5:AdW r en):GoR own rl gs en
def AdC {r:Rn}{en:D}(h8:ThS r.th)(O:EnS en)(h4:en=r.th\/∃z,en=mP z/\r.th=AcI z):AdW r en:=by
 rcases h4 with h4|h4
 .left;rcases O with⟨z,e⟩|⟨x,e,_⟩|⟨z,e⟩
  .exact(h4,by rw[<-h4,e];exact(show decide (("fault":Str)="asks")=Vi by decide+kernel),_,_,e,())
  .exact(h4,by rw[<-h4,e];exact(show decide (("said":Str)="asks")=Vi by decide+kernel),_,_,e,())
  .rw[h4] at e;exact A8 e (Bg h8)
 .exact .inr h4
variable {qs:oj (Str×D)}{src:D}
def AdA {as:oj D}{en:D}(h:Fn qs own src as en)(O:EnS en):(∃z:Str,src= .tup [-"made",!z]/\as= []/\en=mP z)\/∃pre gs rl,Hs src pre rl/\as=pre++gs/\GoR own rl gs en:=by
 cases h with
 |wait z h0 h1 h2=>exact .inl (z,h0,h1,h2)|lack pre rl h0 h1 h3 h4=>exact .inr (pre,[],rl,h0,by rwa[uU],.lack h3 rfl h4)|bad pre rl h0 h1 h3 h5 h4=>exact .inr (pre,[],rl,h0,by rwa[uU],.bad h3 h5 rfl h4)|run pre rl rs r h0 h1 h3 h5 h6 h7 h8 h4=>
  erw[Acf h6,gs,e,U];rw[show(R0 rs own).gs= [] from wO _ _ _ _,U8] at e
  rw[e] at h1;exact .inr (pre,gs,rl,h0,h1,.run rs r h3 h5 U (AdC h8 O h4))
def Em:#[C,11,a.X5,a.XU,["source","name","asks","end"],Dv]:=by
 let U:=#[LR,T,C];let wT:=#[oK,T,C];exists 9,T.mB,Yj
 erw[h,sv,own,ta,us,ev,qs,src,as,en,rfl,aw,aA,ad,ae,hF,ie,hE,aK,k];let hs:=uE;let two:=AdA hF hE;let O:∃kk e,src=-[!kk,e]:=by
  rcases two with⟨z,h,_⟩|⟨_,_,_,⟨h,_⟩|⟨z,h,_⟩,_⟩
  .exact[_:_:h]
  .exact[_:_:h]
  .exact[_:_:h]
 erw[O,kk,e0,O];rw[O] at aw;erw[aw,ts,uu,rfl,am,w1,r1,rfl,[rfl,_],w2,r2,rfl,ap,aB];cases(show r2= [] from aB)
 exists 3,%[#[qF,(4),Yj.nd,#[qG,qA,pv 0]],#[qH,#[qp,QL,#[qG,qA,pv 0],ql,qw _],%[#[qH,#[qp,#[qay,1,hr.units0],pv 2,#[qI,qd],qw _],%[|#[qm,#[Qn,#[kY,1,hr.units],pv 3,#[qI,#v[ql,#[qG,qA,pv 0]]]]]],qt],#[qH,#[qp,#[WU,1,hr.units],#[qG,qA,#[qG,qA,pv 2]],#[qI,#v[ql,#[qG,qA,pv 0]]],qw _],%[|#[qm,Yr]],qt],#[qF,(4),Yj.nd,#[qG,qA,#[qG,qA,pv 2]]]|#[qF,(2),Yj.nd,#[jR,DA,pv 2,#[JO,qi],XG]]],qt],#[qH,#[qp,yH,pv 4,qR,qw _],%[|#[qm,#[Zw,#[Qn,#[qay,1,hr.units0],pv 2,#[qI,qd]],#[XJ,#[Qn,#[kY,1,hr.units],pv 3,#[qI,#v[ql,ql]]]]]]],qt],#[qH,#[Qp,#[Qc,#[qq,wT,T.mT,#v[pv 4]]]],%[|#[qm,#[Zw,#[Qn,#[qay,1,hr.units0],pv 2,#[qI,qd]],#[XJ,#[Qn,#[kY,1,hr.units],pv 3,#[qI,#v[ql,ql]]]]]]],qt]|#[qm,#[qq,U,T.m8,#v[pv 4,pv 1,pv 2,pv 3]]]]
 exists 8,N1,q1
 exists 0,ts,_,_,0,1,SqT.of am,qD (j:=1) rfl,q1 _ _ ?_;exists 8,N2,q2;let ax:∀(Z:V) (rl:D) (gs:oj D) (af:o3) (ag:oj V) (H1:Hp),ic H H1->Is H1 rl Z->H1 af=u_ (¬ag)->L2.IsL H1 gs ag->GoR own rl gs en->N2 [u_ (-ts),u_ (!own),u_ (-af),u_ ev,u_ Z] H1:=by
  intro Z rl gs af ag H1 s1 ir ah aa ao;refine q2 _ _ ?_;exists 8,N3,q3
  exists 0,1,0;cases ao with
  |lack h0 h1 h2=>
   let aC:rl= .non:=by
    cases rl with
    |non=>rfl|_=>cases h0
   rw[aC] at ir;cases(show Z= .non from ir)
   refine lC (ug rfl) ?_;rw[h1] at aa;cases(show ag= [] from aa)
   exists 0,vc _,λt0 h0=>(af,t0,[],1,1,SqT.of (qf h0 _ _ _ ah),SqT.of qg,0,lC rfl ?_);let m0:=qf h0 (.tup ([]:oj V))
   exists 0,sml rfl,λt1 h1=>?_;let m1:=qf h1 (-[V.str "fault",V.str "lack"]);let i1:=Is.new (ds:= [-"fault",-"lack"]) (_,0,yU (),_,0,yU (),1) h1
   let ac:=ie.mono ((s1.trans m0).trans m1).tk;rw[h2] at ac
   exists [-"fault",-"lack"],[-"fault",-"lack"],ac,i1,1,1,by simp[dpL,dp]
   rw[(eqNL_iff (show nL [-"fault",-"lack"]=v_ from rfl)).mpr rfl]
   exact k _ ((s1.trans m0).trans m1)
  |bad h0 h1 h2 h3=>
   let aq:Z≠ .non:=jQ ir λz=>by rw[z] at h0;cases h0
   refine iO (uj aq) (q3 _ _ ?_);exists 8,N4,q4
   exists 0,Z,rl,1,ir,λH2 s2=>[0:?_];rw[h1];refine lD ?_;rw[h2] at aa;cases(show ag= [] from aa)
   exists 0,vc _,λt0 h0=>(af,t0,[],1,1,SqT.of (qf h0 _ _ _ (s2 _ _ ah)),SqT.of qg,0,lC rfl ?_);let m0:=qf h0 (.tup ([]:oj V))
   exists 0,sml rfl,λt1 h1=>?_;let m1:=qf h1 (-[V.str "fault",V.str "rule"]);let i1:=Is.new (ds:= [-"fault",-"rule"]) (_,0,yU (),_,0,yU (),1) h1
   let sm:=((s1.trans s2).trans m0).trans m1;let ac:=ie.mono sm.tk;rw[h3] at ac
   exists [-"fault",-"rule"],[-"fault",-"rule"],ac,i1,1,1,by simp[dpL,dp]
   rw[(eqNL_iff (show nL [-"fault",-"rule"]=v_ from rfl)).mpr rfl]
   exact k _ sm
  |run rs r h0 h1 h3 h5=>
   let aq:Z≠ .non:=jQ ir λz=>by rw[z] at h0;cases h0
   refine iO (uj aq) (q3 _ _ ?_);exists 8,N4,q4
   exists 0,Z,rl,1,ir,λH2 s2=>[0:?_];rw[h1];refine iX (q4 _ _ ?_);erw[Bv h1,hR,aD];rw[aD] at ir;exact(0,0,0,0,Z,own,af,ag,ev,rs,r,gs,en,1,ir.mono s2.tk,hR,aA,s2 _ _ ah,aa.mono s2.tk,h3,ie.mono (s1.trans s2).tk,h5,λH3 s3=>k _ ((s1.trans s2).trans s3))
 exists 0,ts,_,_,0,1,SqT.of am,qD (j:=0) rfl,1,0;rcases two with⟨z,h,ha,aE⟩|⟨pre,gs,rl,⟨h,ak⟩|⟨z,h,ak⟩,ha,ao⟩
 .rw[O] at h;cases h;erw[ap,rfl,au];refine lC (ug rfl) ?_;rw[ha] at ae;cases(show us= [] from ae)
  show nA _ _ _ _ H;exists 8,A1,a1
  exists 0,vc _,λt0 h0=>(ta,t0,[],1,1,SqT.of (qf h0 _ _ _ ad),SqT.of qg,0,lC rfl ?_);let m0:=qf h0 (.tup ([]:oj V))
  exists 0,0,ts,_,_,0,1,SqT.of (m0 _ _ am),qD (j:=1) rfl,sml rfl,λt1 h1=>?_;let m1:=qf h1 (-[V.str "stuck",V.str z]);let i1:=Is.new (ds:= [-"stuck",!z]) (_,0,yU (),_,0,[1:au],1) h1
  let ac:=ie.mono (m0.trans m1).tk;rw[aE] at ac
  exists [-"stuck",!z],[-"stuck",!z],ac,i1,1,1,by simp[dpL,dp]
  rw[(eqNL_iff (show nL [-"stuck",!z]=v_ from rfl)).mpr rfl]
  exact k _ (m0.trans m1)
 .rw[O] at h;cases h;rw[ak,U8] at ha;rw[ha] at ae;refine iO (uj (λy=>by have:=V.str.inj y;revert this;decide+kernel)) (ax w2 _ gs ta us H (ic.refl _) ap ad ae ao)
 .rw[O] at h;cases h;erw[ap,rfl,au];rw[ha,ak] at ae;obtain⟨v1,rr,rfl,i1,aF⟩:=(show∃v1 rr,us=v1::rr/\Is H (-[-[-"rule",!z],rl]) v1/\L2.IsL H gs rr from by
   erw[ae,v1,rr,e,h1,h2];exact(v1,rr,e,h1,h2))
  erw[i1,tp,up,rfl,ay,x1,aL,rfl,aG,x2,aH,rfl,aI,aJ];cases(show aH= [] from aJ)
  refine lC (ug rfl) ?_;show nA _ _ _ _ H;exists 8,A1,a1
  exists 0,vc _,λt0 h0=>(ta,t0,0,1,SqT.of (qf h0 _ _ _ ad),SqT.of qg,0,iO rfl (a1 _ _ ?_));let m0:=qf h0 (.tup ([]:oj V));generalize upd H t0 (-[])=H1 at m0⊢;exists 8,A2,a2
  exists 0,ta,_,_,0,1,SqT.of (m0 _ _ ad),qD (j:=0) rfl,tp,_,_,0,1,SqT.of (m0 _ _ ay),qD (j:=0) rfl
  exists 0,ts,_,_,0,1,SqT.of (m0 _ _ am),qD (j:=1) rfl,sml rfl,λt1 h1=>?_;let m1:=qf h1 (-[V.str "rule",V.str z]);let j1:=Is.new (ds:= [-"rule",!z]) (_,0,yU (),_,0,[1:au],1) h1
  exists [-"rule",!z],[-"rule",!z],aG.mono (m0.trans m1).tk,j1,1,1,by simp[dpL,dp],0
  rw[(eqNL_iff (show nL [-"rule",!z]=v_ from rfl)).mpr rfl]
  refine iX (a2 _ _ ?_);let al:=m0.trans m1;generalize upd H1 t1 (-[V.str "rule",V.str z])=H2 at al⊢;exists 8,A3,a3
  exists 0,ta,_,_,0,1,SqT.of (al _ _ ad),qD (j:=0) rfl,tp,_,_,0,1,SqT.of (al _ _ ay),qD (j:=1) rfl,a3 _ _ ?_
  exists 0,0,ta,0,SqT.of (al _ _ ad),λhw=>?_,λ_ pp hp=>?_
  .exfalso;let h1:=hw.1;let h1:HT.sIx ↑(_::rr) 0 (u_ ((1:Nat):Int))=0:=h1;rw[HT.sIx_nat] at h1;rw[uB] at h1;omega
  .let hc:AO (V.ref tp::rr) (u_ 1) U_=rr:=by
    rw[show(u_ (1:Int))=u_ ((1:Nat):Int) from rfl,zm (by rw[uB];omega)]
    rfl
   rw[hc];let mp:=al.trans (qf hp (¬rr));exact ax x2 rl gs pp rr _ mp (aI.mono mp.tk) qg (aF.mono mp.tk) ao
def AbK {K:o0}{b A:o3}{H1:Hp}{tg:TG}{tc:TT}{te:TE}{tl:L2.St}{Q:VK}{xs:oj V}(C:Nat->oj V->Hp->Prop)(hb:H1 b=u_ (¬xs))(hn:↑xs<=Vm)(h0:C 0 [] (upd H1 A (.lst [])))(hC:∀i ys H,C i ys H->ic H1 H)
  (aa:∀i x ys H O U,xs[i]? =u_ x->C i ys H->H A=u_ (.lst ys)->tg x (O::U::tl) H λσ2 H2=>tc σ2 H2 λc H3=>if c=v_ then te σ2 H3 λy H4=>H4 A=u_ (.lst ys)/\(∃u0 u1,σ2=u0::u1::tl)/\C (i+1) (ys++ [y]) (upd H4 A (.lst (ys++ [y]))) else H3 A=u_ (.lst ys)/\(∃u0 u1,σ2=u0::u1::tl)/\C (i+1) ys H3)
  (hQ:∀ys H,C ↑xs ys H->H A=u_ (.lst ys)->Q (-A) H):Au A (Itt K b) tg tc te (U_::U_::tl) H1 Q:=by
 exists ↑xs,λi σ ys H=>(∃O U,σ=O::U::tl)/\C i ys H,hn,[[U_:U_:1]:h0],?_,?_
 .rintro i σ ys H hi ⟨⟨O,U,rfl⟩,Z⟩ hl hy;let sm:=hC _ _ _ Z;let e0:xs[i]? =u_ xs[i]:=uf hi;exists (_,_,SqT.of (sm _ _ hb),e0);rintro x H' ⟨rfl,hx⟩;let e:=hx _ (SqT.of (sm _ _ hb));exact aa i x ys H' O U e Z hl
 .rintro σ ys H ⟨_,Z⟩ hl;exact[[_:SqT.of (hC _ _ _ Z _ _ hb):uq _]:hQ ys H Z hl]
abbrev Xa (H:Hp)(d:o3)(ps:oj (Str×D)):Prop:=∃vs:oj (Str×V),H d=u_ (.dK (li vs))/\vs.map (·.1)=ps.map (·.1)/\L2.IsL H (ps.map (·.2)) (vs.map (·.2))
variable {H':Hp}
def Xa.same {d:o3}{ps:oj (Str×D)}(h:Xa H d ps)(s:ic H H'):Xa H' d ps:=by
 erw[h,vs,h1,h2,h3];exact(vs,s _ _ h1,h2,h3.mono s.tk)
abbrev AdY (qs ers:oj (Str×D))(kd z:Str)(an:D)(b:Bool):Prop:=(MU qs ers kd z an/\b=v_)\/(Aak qs ers kd z an/\b=Vi)
inductive kI (CP:Addr):Sp
 |mk (px ed t:Addr)(av:V)(kd z:Str)(an:D)(qs ers:List (Str×D))(b:Bool)(_:vs= [-px,-ed,-t,av])(_:H t=u_ (-[!kd,!z]))(_:QT CP H px qs)(_:Qa qs)(_:Xa H ed ers)(_:Is H an av)(_:↑z<=1000)(_:AdY qs ers kd z an b)(_:∀H',ic H H'->Q (.bl b) H')
inductive Li (CP:Addr):Sp
 |mk (px sd ed ts ta:Addr)(us:List V)(ev:V)(m:Str)(as:List D)(en:D)(qs ers es:List (Str×D))(b:Bool)(_:vs= [-px,-sd,-ed,-ts])(_:H ts=u_ (-[!m,-ta,ev]))(_:H ta=u_ (¬us))(_:L2.IsL H as us)(_:Is H en ev)(_:QT CP H px qs)(_:Qa qs)(_:Xa H sd es)(_:Xa H ed ers)(_:nm m=v_)(_:(Rst qs ers es m as en/\EnS en/\b=v_)\/(AdX qs ers es m as en/\b=Vi))(_:∀v H',ic H H'->(b=v_->v= .non)->(b=Vi->∃w,v= !w)->Q v H')
def sW (U:Qa qs){n:Str}{sv:V}(h1:n>qs.map (·.1)->Is H (qB qs n) sv)(h2:n∉qs.map (·.1)->sv= .non):∃d,Is H d sv/\(d= .non\/∃k e,d=-[!k,e])/\d=qB qs n/\yZ (yL d)=(g0D n (qB qs n)).isSome:=by
 by_cases c:n>qs.map (·.1)
 .erw[Jg U c,_,kk,e,hd,_];exists _,h1 c,.inr [kk:e:hd],1;rw[hd];unfold yL g0D
  try dsimp only
  by_cases O:kk="leaf"
  .rw[A6 O,A6 O];rfl
  .rw[A4 O,A4 O];split<;>rfl
 .exists .non,h2 c,.inl rfl,(Yi c).symm;cases Z:g0D n (qB qs n) with|none=>rfl|some s=>exact A8 ((Qs qs).gn n s Z) c
def CF:#[C,5,a.jF,a.jx,["project","earlier","ask","answer"],(kI a.qE)]:=by
 let QQ:=#[Xt,T];let W2:=#[oN,T];let qO:=#[Yd,T];let yn:=#[oJ,T];refine T.lN.F.ok jg () (λ_ _ _ s H vs Q E hr h=>?_)
 erw[h,px,ed,t,av,kd,z,an,qs,ers,b,rfl,ht,hP,hq,hT,ia,a2,hA,k];let hs:=uE;exists 3,%[@qH _ _ _ _ _ _ _ _ #[wM,#[qp,Aj,#[qG,qA,pv 2],ql,qw _],#[zN,#[Qp,#[Qc,#[qq,QQ,T.iw,#v[#[qG,qA,pv 2]]]]]]].pt %[|#[qm,Yr]] qt,#[qH,#[qp,QN,#[qG,qA,pv 2],#[qI,#v[ql,ql]],#[w]],%[|#[qm,#[Qn,D7 hr.units,pv 3,#[Qk,pv 0,T.Q4,T.iL,yn,#v[pv 2]]]]],qt],#[qH,#[qp,J6,#[qG,qA,pv 2],#[qI,#v[ql,ql]],#[w]],%[|#[qm,Yr]],qt],#[qF,(4),jg.nd,#[Qk,pv 0,T.Q4,T.ig,qO,#v[#[qG,qA,pv 2]]]],#[qH,#[Qc,#[qq,W2,T.mU,#v[pv 4]]],%[|#[qm,#[Qn,D7 hr.units,#[KR,7,QR hr,pv 1,#[qG,qA,pv 2],(1,1,1,1)],#[qI,#v[ql,pv 3]]]]],qt]|#[qm,#[Qn,D7 hr.units,pv 3,#[ya,#[qp,yH,pv 4,qR,qw _],qR,#[qG,qA,pv 4]]]]]
 exists 8,N1,q1;let aM:kd≠"names"->nm z=true:=by
  rcases hA with⟨h,_⟩|⟨⟨_,h,_⟩,_⟩
  .exact h.1
  .exact λ_=>h
 let au:∀H1,ic H H1->N1 [u_ (-px),u_ (-ed),u_ (-t),u_ av,U_] H1:=by
  intro H1 s1;refine q1 _ _ ?_;let aw:=s1 _ _ ht;let ax:=hP.same s1;let aN:=hT.same s1;let aO:=ia.mono s1.tk;erw[id ax,ay,a3,op,a4,hx,_];exists 8,N2,q2
  exists 0,t,_,_,0,1,SqT.of aw,qD (j:=0) rfl,sml rfl,λl hl=>?_;let m2:=qf hl (-[V.str "has",V.str "names"])
  exists l,0,.inr (SqT.of qg),1,1,0;let s2:=s1.trans m2;let ad:=m2 _ _ aw;let af:=ax.same m2;let aA:=aN.same m2;let ag:=aO.mono m2.tk;let ah:=m2 _ _ hx;generalize upd H1 l (-[V.str "has",V.str "names"])=H2 at s2 ad af aA ag ah⊢;let rest:ml kd=Vi->(kd="thing"\/kd="rule")->(g0D z (qB qs z)=U_->an=(oH (qB qs z)).getD .non/\b=v_)->(∀s,g0D z (qB qs z)=u_ s->(b=v_/\z>ers.map (·.1)/\qB ers z= .tup [-"said",an]/\isT an=v_)\/(b=Vi/\isT an=v_/\(z∉ers.map (·.1)\/(z>ers.map (·.1)/\∃y,qB ers z=mP y))))->N2 [u_ (-px),u_ (-ed),u_ (-t),u_ av,U_] H2:=by
   intro hk Z aP aB;refine q2 _ _ ?_;exists 8,N3,q3
   exists 0,t,_,_,0,1,SqT.of ad,qD (j:=0) rfl,sml rfl,λl2 aQ=>?_;let m3:=qf aQ (-[V.str "thing",V.str "rule"])
   exists l2,0,.inr (SqT.of qg),1,1,0;let aR:inV (V.str kd) [V.str "thing",V.str "rule"]=decide (kd>(["thing","rule"]:oj Str)):=jM kd ["thing","rule"];refine iO (by rw[aR,ug (by rcases Z with rfl|rfl<;>simp)];rfl) (q3 _ _ ?_)
   let s3:=s2.trans m3;let ak:=m3 _ _ ad;let aC:=af.same m3;let aD:=aA.same m3;let al:=ag.mono m3.tk;let aE:=m3 _ _ ah;generalize upd H2 l2 (-[V.str "thing",V.str "rule"])=H3 at s3 ak aC aD al aE⊢;exists 8,N4,q4
   exists 0,px,ay,0,aE,yA,0,t,_,_,0,1,SqT.of ak,qD (j:=1) rfl,px,z,qs,1,aC,λsv h1 h2=>q4 _ _ ?_;exists 8,N5,q5;erw[sW hq h1 h2,d,aF,hd,aS,aT]
   exists 0,sv,d,1,aF,hd,λH4 s4=>[0:?_];rw[aT];let ac:=s3.trans s4;cases O:g0D z (qB qs z) with
   |some sz=>
    refine lC rfl ?_;erw[aD.same s4,vs,aa,aG,aU];let am:=s4 _ _ ak;let U:=al.mono s4.tk;by_cases cz:z>ers.map (·.1)
    .erw[Kx aG aU cz,l1,l2];rcases aB sz O with⟨rfl,_,aH,hT⟩|⟨aV,ao,hn⟩
     .rw[aH] at l2
      exists 0,ed,1,.inl [_:.inl aa],0,t,_,_,0,1,SqT.of am,qD (j:=1) rfl,_,mO.k (k:=Vl z) aa;rw[l1]
      exists 0,sml rfl,λt5 h5=>?_;let m5:=qf h5 (-[V.str "said",av]);let aI:=Jh hT;refine .same (-[-"said",an]) (l2.mono m5.tk) (Is.new (ds:= [-"said",an]) (_,0,yU (),_,0,U,1) h5) (.inr ?_) (by simp![dp,dpL];omega) (k _ (ac.trans m5))
      have h1:=MY (se hT);show puL [-"said",an]=v_;simp![puL,puD,h1,Ve]
     .rcases hn with hn|⟨_,y,hy⟩
      .exact A8 cz hn
      subst aV;rw[hy] at l2
      exists 0,ed,1,.inl [_:.inl aa],0,t,_,_,0,1,SqT.of am,qD (j:=1) rfl,_,mO.k (k:=Vl z) aa;rw[l1]
      exists 0,sml rfl,λt5 h5=>?_;let m5:=qf h5 (-[V.str "said",av]);refine .tt [-"stuck",!y] [-"said",an] (l2.mono m5.tk) (Is.new (ds:= [-"said",an]) (_,0,yU (),_,0,U,1) h5) rfl ?_ (by simp![dpL,dp];decide) ?_ (k _ (ac.trans m5))
      .have:=X9 (yl ao);simp![nL,nD,this,Ve]
      .simp![eqNL,eqN];rw[show(("stuck":Str)=="said")=Vi from by decide+kernel,f_]
    .rcases aB sz O with⟨_,hn,_⟩|⟨rfl,_⟩
     .exact A8 hn cz
     .exists 0,ed,1,.inl [_:.inl aa],0,t,_,_,0,1,SqT.of am,qD (j:=1) rfl,_,mO.k (k:=Vl z) aa;rw[oU (by rw[aG];exact cz)]
      exists 0,sml rfl,λt5 h5=>?_;exact .nt t5 _ rfl rfl qg (k _ (ac.trans (qf h5 _)))
   |none=>
    erw[aP O,ha,rfl];refine iO rfl (q5 _ _ ?_);let U:=al.mono s4.tk;let ae:=aF.mono s4.tk
    exists 0,0,1,0;by_cases c:z>qs.map (·.1)
    .erw[Jg hq c,_,kk,e,ap,_,aW];rw[ap] at O;let aJ:kk="leaf":=by
      by_cases ck:kk="leaf"
      .exact ck
      .unfold g0D at O
       try dsimp only at O
       rw[A4 ck] at O;split at O<;>cases O
     let hT:=(aW (by rw[aJ];decide+kernel)).2
     let aI:=Jh hT;rw[aS,ap] at ae;erw[ae,ts,us,rfl,aX,w1,r1,rfl,_,w2,r2,rfl,aY,aZ];cases(show r2= [] from aZ)
     refine iO (uj (λz=>by cases z)) ?_
     exists 0,ts,_,_,0,1,SqT.of aX,qD (j:=1) rfl;let aq:an=e:=by
      rw[ha,ap,aJ]
      rfl
     rw[aq] at U;exact .same e U aY (.inr (se hT)) () (k _ ac)
    .cases h2 c;refine lC (ug rfl) ?_;let aq:an= .non:=by rw[ha,Yi c];rfl
     rw[aq] at U;exact .same .non U rfl (.inl rfl) (by simp[dp]) (k _ ac)
  rcases hA with⟨⟨_,⟨hk,ha⟩|⟨hk,Z,hc⟩⟩,rfl⟩|⟨⟨Z,_,⟨sz,O⟩,ao,a1⟩,rfl⟩
  .refine lC ((AbX kd).trans hk) ?_
   exists 0,0,px,ay,0,ah,oR,0,px,t,kd,z,qs,1,af,hq,ad,()
   let aK:=(wS hq z hk).1;let aI:=Jh aK;let fin:∀(v6:V) (H6:Hp),ic H2 H6->Is H6 (xy qs kd z) v6->Abg av v6 H6 (λv H'=>Q v H'):=λv6 H6 s6 i6=> .same (xy qs kd z) (by rw[<-ha];exact ag.mono s6.tk) i6 (.inr (se aK)) () (k _ (s2.trans s6))
   let aL:kd="has"\/kd≠"has"/\kd="names":=by
    unfold ml at hk;by_cases c:kd="has"
    .exact .inl c
    .rw[uj c,TH] at hk;exact .inr [c:uC hk]
   rcases aL with c|⟨c',c⟩
   .refine .inl [c:fin _ H2 (ic.refl _) ?_];unfold xy;rw[A6 c];exact yU (by split<;>decide)
   .refine .inr [c:λv6 H6 s6 i6=>fin v6 H6 s6 ?_];unfold xy;rwa[A4 c']
  .refine iO ((AbX kd).trans hk) (rest hk Z (λh0=>?_) λs O=> .inl ?_)
   .rcases hc with⟨_,h⟩|⟨⟨s,O⟩,_⟩
    .exact[h:1]
    .rw[h0] at O;cases O
   .rcases hc with⟨h,_⟩|⟨_,h1,h2,h3⟩
    .rw[O] at h;cases h
    .exact(1,h1,h2,h3)
  .let hk:ml kd=false:=by rcases Z with rfl|rfl<;>decide+kernel
   refine iO ((AbX kd).trans hk) (rest hk Z (λh0=>?_) λs O=> .inr [1:ao:a1]);rw[O] at h0;cases h0
 exists 0,t,_,_,0,1,SqT.of ht,qD (j:=0) rfl,1,0;by_cases ck:kd="names"
 .exact iO (by simp[ck]) (iO rfl (au H (ic.refl _)))
 .refine lC (by simpa using ck) ?_
  exists 0,t,_,_,0,1,SqT.of ht,qD (j:=1) rfl,!z,!z,1,yU (),λH1 s1=>[0:?_]
  let e:mQ (!z)=true:=aM ck;rw[e];exact iX (au H1 s1)
def Acn {bs:oj Bool}(h:∀b>bs,b=v_):bs.all id=true:=List.all_eq_true.mpr h
def Aco {bs:oj Bool}(h:Vi>bs):bs.all id=false:=by
 cases e:bs.all id with
 |false=>rfl|true=>exact A8 (List.all_eq_true.mp e Vi h) ()
abbrev RtA (qs ers:oj (Str×D))(x:D):Prop:=∃kd z an,x= .tup [-[!kd,!z],an]/\MU qs ers kd z an
abbrev rtB (qs ers:oj (Str×D)) (x:D):Bool:= @decide (RtA qs ers x) (Tj _)
variable {ers:oj (Str×D)}{kd z:Str}{an:D}
def OW (h:MU qs ers kd z an):rtB qs ers (-[-[!kd,!z],an])=true:=by
 exact@ug _ (Tj _) (kd,z,an,1,h)
def Aa8 (h:Aak qs ers kd z an):rtB qs ers (-[-[!kd,!z],an])=false:=by
 refine@uj _ (Tj _) λ zq=>?_;erw[zq,O,Z,U,e,h'];cases e;exact MM h h'
def LP:#[C,12,a.Zz,a.ZW,["project","ends","earlier","step"],(Li a.qE)]:=by
 let zJ:=#[CF,T,C];let W2:=#[oN,T];let qO:=#[Yd,T];let aM:=#[Em,T,C];refine T.mH.F.ok YG () (λ_ _ _ s H vs Q E hr h=>?_)
 erw[h,px,sd,ed,ts,ta,us,ev,m,as,en,qs,ers,es,b,rfl,ae,aw,ag,ie,hP,hq,hS,hT,ax,hc,k];let hs:=uE;let bc:=XO ax;let ay:m∉ers.map (·.1):=by
  rcases hc with⟨h,_⟩|⟨h,_⟩
  .exact h.nin
  .exact h.1
 let aA:∃s,g0D m (qB qs m)=u_ s:=by
  rcases hc with⟨h,_⟩|⟨h,_⟩
  .exact h.run
  .exact h.2.1
 let ah:∀x>as,∃kd z an,x= .tup [-[!kd,!z],an]/\↑z<=1000/\AdY qs ers kd z an (rtB qs ers x):=by
  let right:∀{U},Rst qs ers U m as en->∀x>as,∃kd z an,x= .tup [-[!kd,!z],an]/\↑z<=1000/\AdY qs ers kd z an (rtB qs ers x):=λh x hx=>by
   erw[h.asks x hx,kd,z,an,rfl,hl,hA];exact(kd,z,an,1,hl,.inl [hA:OW hA])
  rcases hc with⟨h,_⟩|⟨⟨_,_,⟨h,_⟩|⟨U,h,_⟩⟩,_⟩
  .exact right h
  .intro x hx;obtain⟨kd,z,an,rfl,hl,hA|hA⟩:=h x hx
   .exact(kd,z,an,1,hl,.inl [hA:OW hA])
   .exact(kd,z,an,1,hl,.inr [hA:Aa8 hA])
  .exact right h
 erw[id hP,aN,bd,op,bg,hx,_];let aB:↑us=↑as:=↑ag;exists 3,%[#[qF,(4),YG.nd,#[qG,qA,pv 3]],#[qF,(5),YG.nd,#[qG,qA,pv 3]],#[qF,(6),YG.nd,#[Qk,pv 0,T.Q4,T.ig,qO,#v[pv 4]]],@qH _ _ _ _ _ _ _ _ #[Zi,#[WX,#[pc_din,QR hr,pv 4,pv 2]],#[JN,#[Qp,#[Qc,#[qq,W2,T.mU,#v[pv 6]]]]]].pt %[|#[qm,ql]] qt,#[qH,#[Qp,#[Qc,#[qy,#[zy,1,rfl],T.z_all,HY,#v[#[XY,2,["ask","answer","project","earlier"],(2),[0,2],9,IQ (qh Y9) ["project","ends","earlier","step","name","end","source"],rfl,#[zH,#[qG,qA,pv 3]],(λ_ _ _ _ _ _=>#[DU,1,K,3,(2),1,rfl,rfl,Qz #[qM,(0),(show Vw (["ask","answer","project","earlier"]:oj Str) by decide+kernel)] (Qz #[qM,(1),(show Vw (["ask","answer","project","earlier"]:oj Str) by decide+kernel)] Jz),_,_]),(λ_ _ _ _ _ _=> @yd _),(λ_ _ _ _ _ _=>#[qq,zJ,T.lN,#v[pv 2,pv 3,pv 0,pv 1]]),_]]]]],%[|#[qm,ql]],qt],#[qH,#[Qp,#[Qc,#[qq,aM,T.mB,#v[pv 6,pv 4,#[qG,qA,pv 3],pv 5]]]],%[|#[qm,ql]],qt],@qH _ _ _ _ _ _ _ _ #[wM,#[qp,QL,#[qG,qA,pv 5],ql,qw _],@zN _ _ _ _ #[Zi,#[WX,#[oy,5,QR hr,#[qG,qA,pv 5],pv 1]],#[JN,#[qp,QL,#[qG,qA,#[QC,pv 1,#[qG,qA,pv 5]]],ql,qw _]]].pt].pt %[|#[qm,ql]] qt|#[qm,qR]]
 exists 8,N1,q1
 exists 0,ts,_,_,0,1,SqT.of ae,qD (j:=0) rfl,q1 _ _ ?_;exists 8,N2,q2
 exists 0,ts,_,_,0,1,SqT.of ae,qD (j:=2) rfl,q2 _ _ ?_;exists 8,N3,q3
 exists 0,px,aN,0,hx,yA,0,px,m,qs,1,hP,λsv h1 h2=>q3 _ _ ?_;exists 8,N4,q4;erw[sW hq h1 h2,d,aC,hd,aO,aP];erw[id hT,vs,aQ,aR,aS]
 exists 0,0,ed,0,mO.k (k:=Vl m) aQ,0;rw[AA aR aS m];refine iO (uj ay) ?_
 exists 0,sv,d,1,aC,hd,λH1 s1=>[0:?_];erw[aA,sm,hg];rw[aP,hg];refine iX (q4 _ _ ?_);exists 8,N5,q5;let aD:=s1 _ _ ae;let af:=s1 _ _ aw
 exists 0,ts,_,_,0,1,SqT.of aD,qD (j:=1) rfl,ta,us,1,SqT.of af,λaT A0 aE=>?_;refine AbK (tl:= [u_ (-px),u_ (-ed)]) (λi ys H'=>ys=((as.take i).map (rtB qs ers)).map V.bl/\ic H1 H') af aT [1:qf aE _] (λi ys H' h=>h.2) ?_ ?_
 .rintro i x ys H' w0 w1 hx ⟨rfl,s'⟩ aU;let hi:i<↑as:=by rw[<-aB];exact(Af.mp hx).1
  erw[ag.get (i:=i) (d:=as[i]) (uf hi),x',aF,ix];rw[hx] at aF;cases aF;erw[ah _ (uR hi),kd,z,an,e,aG,O];let ak:=s1.trans s';rw[e] at ix;erw[ix.mono ak.tk,t6,w6,rfl,aV,x7,r7,rfl,i7,x8,r8,rfl,i8,aW];cases(show r8= [] from aW)
  erw[i7,t7,w7,rfl,aX,x9,r9,rfl,[rfl,bh],xa,ra,rfl,[rfl,bb],aY];cases(show ra= [] from aY)
  exists t6,0,SqT.of aV,1
  exists _,0,_,0,1
  try dsimp![YB,nH,Gq]
  rw[A6 rfl]
  exists 0,0,0,0,px,ed,t7,x8,kd,z,an,qs,ers,0,aX,hP.same ak,hq,hT.same ak,i8,aG,O,λH3 s3=>?_
  exists 5
  refine(s3 _ _ aU,[_:0],?_,λb o e=>by rw[qj (qk e aE)];exact s3 _ _ (s' _ _ e))
  rw[vg,uf hi,ur,ur]
  rfl
 rintro ys H2 ⟨rfl,s2⟩ aZ
 exists A0,0,SqL.of aZ;rw[aB,U2];let aa:=s1.trans s2;let al:((as.map (rtB qs ers)).all id=Vi/\b=Vi)\/((as.map (rtB qs ers)).all id=v_/\∃U,Rst qs ers U m as en/\EnS en/\((b=v_/\U=es)\/(b=Vi/\∃z,en=mP z/\(z∉es.map (·.1)\/(z>es.map (·.1)/\∃x,qB es z=-[-"said",x]))))):=by
  let right:∀{U},Rst qs ers U m as en->(as.map (rtB qs ers)).all id=true:=λh=>Acn λb Z=>by
   erw[Ae.mp Z,x,hx,rfl];erw[h.asks x hx,kd,z,an,rfl,_,hA];exact OW hA
  rcases hc with⟨h,hE,Z⟩|⟨⟨_,_,⟨_,kd,z,an,a1,hW⟩|⟨U,h,hE,hz⟩⟩,Z⟩
  .exact .inr (right h,es,h,hE,.inl [Z:1])
  .exact .inl [Aco (Ae.mpr [_:a1:Aa8 hW]):Z]
  .exact .inr (right h,U,h,hE,.inr [Z:hz])
 rcases al with⟨e0,rfl⟩|⟨e0,U,hR,hE,O⟩
 .rw[e0];exact⟨0,lD (k _ _ aa (λz=>by cases z) λ_=>⟨0⟩)⟩
 rw[e0]
 exists 0,iX (q5 _ _ ?_);exists 8,N6,q6;let aH:=aa _ _ aw;let aI:=aa _ _ ae
 exists 0,0,0,ts,_,_,0,1,SqT.of aI,qD (j:=1) rfl,0,sv,m,ta,us,ev,qs,qB qs m,as,en,1,(by rw[<-aO];exact aC.mono aa.tk),ax,aH,ag.mono aa.tk,hR.fin,ie.mono aa.tk,hE,[hR.nd.2.2.1:hR.nd.2.2.2],λH3 s3=>[0:iX (q6 _ _ ?_)]
 exists 8,N7,q7;let ac:=aa.trans s3;let a2:=ie.mono ac.tk;let a3:∃kk x,en=-[!kk,x]:=by
  rcases hE with⟨z,e⟩|⟨x,e,_⟩|⟨z,e⟩
  .exact[_:_:e]
  .exact[_:_:e]
  .exact[_:_:e]
 erw[a3,kk,ex,ad];let aJ:=a2;rw[ad] at aJ;erw[aJ,te,ue,rfl,am,v1,r1,rfl,[rfl,_],v2,r2,rfl,a4,a5];cases(show r2= [] from a5)
 exists 0,te,_,_,0,1,SqT.of am,qD (j:=0) rfl,1,0;by_cases ck:kk="stuck"
 .refine lC (ug (by rw[ck])) ?_
  obtain⟨z,hz⟩:∃z,en=mP z:=by
   rcases hE with⟨z,e⟩|⟨x,e,_⟩|⟨z,e⟩
   .rw[ad] at e;injection e with e
    injection e with e _
    injection e with e
    rw[ck] at e;exact A8 e ()
   .rw[ad] at e;injection e with e
    injection e with e _
    injection e with e
    rw[ck] at e;exact A8 e ()
   .exact[z:e]
  let ao:=hz;rw[ad] at hz;unfold mP at hz;cases hz;erw[a4,rfl,aG];erw[hS.same ac,bo,aK,aL,a6]
  exists 0,te,_,_,0,1,SqT.of am,qD (j:=1) rfl,0,sd,0,mO.k (k:=Vl z) aK,0;by_cases cz:z>es.map (·.1)
  .erw[Kx aL a6 cz,l1,l2];let ap:∃k' x',qB es z= .tup [!k',x']/\(b=v_/\k'≠"said"\/b=Vi/\k'="said"):=by
    rcases O with⟨Z,rfl⟩|⟨Z,z',aq,au⟩
    .erw[hR.stk z ao,_,k',x',e1,e2];exact(k',x',e1,.inl [Z:e2])
    .rw[ao] at aq;unfold mP at aq;cases aq;rcases au with au|⟨_,x,e⟩
     .exact A8 cz au
     .exact(_,x,e,.inr [Z:1])
   erw[ap,k',x',ap,a7];rw[ap] at l2;erw[l2,tz,uz,ez,a8,y1,z1,rfl,[rfl,_],_];rw[ez] at l1;rw[l1];refine iO rfl ?_
   exists 0,0,te,_,_,0,1,SqT.of am,qD (j:=1) rfl,sd,0,(by rw[<-l1];exact mO.k (k:=Vl z) aK),tz,_,_,0,1,SqT.of a8,qD (j:=0) rfl,1,0
   rcases a7 with⟨rfl,a9⟩|⟨rfl,rfl⟩
   .exact iO (uj (λy=>a9 (V.str.inj y))) (q7 _ _ (k _ _ ac (λ_=>rfl) λz=>by cases z))
   .exact lC (ug rfl) (k _ _ ac (λz=>by cases z) λ_=>⟨0⟩)
  .rw[oU (by rw[aL];exact cz)]
   let Z:b=false:=by
    rcases O with⟨_,rfl⟩|⟨Z,_⟩
    .exact A8 (hR.stk z ao).1 cz
    .exact Z
   subst Z;exact lC rfl (k _ _ ac (λz=>by cases z) λ_=>⟨0⟩)
 .let Z:b=true:=by
   rcases O with⟨Z,_⟩|⟨_,z,hz,_⟩
   .exact Z
   .rw[ad] at hz;unfold mP at hz;cases hz;exact A8 rfl ck
  exact iO (uj (λy=>ck (V.str.inj y))) (iO rfl (q7 _ _ (k _ _ ac (λ_=>rfl) λz=>by rw[Z] at z;cases z)))
inductive Lq:Sp
 |mk (t:Addr)(us:List V)(ps:Pp)(_:vs= [-t])(_:H t=u_ (¬us))(_:L2.IsL H (ps.map stD) us)(_:((lT ps).map (·.1)).Nodup)(_:↑ps<=1000)(_:∀d H',H d=U_->ic H H'->Xa H' d (lT ps)->Q (-d) H')
abbrev GdS (qs:oj (Str×D))(ps:Pp)(i:Nat)(s:Str×oj D×D):Prop:=Rst qs ((lT ps).take i) (lT ps) s.1 s.2.1 s.2.2/\EnS s.2.2
abbrev PpB (qs:oj (Str×D))(ps:Pp)(b:Bool):Prop:=↑ps<=1000/\(∀s>ps,nm s.1=v_)/\((lT ps).map (·.1)).Nodup/\(∀i s,ps[i]? =u_ s->(∀j s',j<i->ps[j]? =u_ s'->GdS qs ps j s')->GdS qs ps i s\/AdX qs ((lT ps).take i) (lT ps) s.1 s.2.1 s.2.2)/\(b=v_↔∀i s,ps[i]? =u_ s->GdS qs ps i s)
inductive Dx (CP:Addr):Sp
 |mk (px t:Addr)(us:List V)(qs:List (Str×D))(ps:Pp)(b:Bool)(_:vs= [-px,-t])(_:H t=u_ (¬us))(_:L2.IsL H (ps.map stD) us)(_:QT CP H px qs)(_:Qa qs)(_:PpB qs ps b)(_:∀v H',ic H H'->(b=v_->v= .non)->(b=Vi->v≠ .non)->Q v H')
abbrev shD (qs:oj (Str×D)) (ps:Pp) (n:Str):D:=if n>(lT ps).map (·.1) then QE (qB (lT ps) n) else yL (qB qs n)
inductive Lj (CP bn:Addr):Sp
 |mk (px t:Addr)(us:List V)(n:Str)(qs:List (Str×D))(ps:Pp)(b:Bool)(_:vs= [-px,-t,!n])(_:H t=u_ (¬us))(_:L2.IsL H (ps.map stD) us)(_:QT CP H px qs)(_:Qa qs)(_:PpB qs ps b)(_:↑n<=1000)(_:nm n=v_->∀v H',ic H H'->Is H' (if b=v_ then shD qs ps n else .non) v->Q v H')(_:nm n=Vi->∀(e:Addr)(H':Hp),ic H H'->E_ (-e) (u_ bn) H')
def Ie (ps:Pp):↑(lT ps)=↑ps:=by unfold lT;rw[uc]
variable {i:Nat}
def ST {ps:Pp}(hi:i<↑ps):(lT ps)[i]? =u_ (ps[i].1,ps[i].2.2):=by
 unfold lT;rw[uJ,uf hi]
 rfl
def SS {ps:Pp}(hi:i<↑ps)(O:((lT ps).map (·.1)).Nodup):ps[i].1∉((lT ps).take i).map (·.1):=by
 intro z;erw[Af.mp (ST hi),U,Z];have:=O;rw[<-vV i (lT ps),uV U,ur,T6] at this;exact this.2.2 _ z _ (by rw[uw,Z];exact ui) rfl
variable {m:Str}{e:D}
def Xa.put {d:o3}{es:oj (Str×D)}{vs:oj (Str×V)}(h1:H d=u_ (.dK (li vs)))(h2:vs.map (·.1)=es.map (·.1))(h3:L2.IsL H (es.map (·.2)) (vs.map (·.2)))(hm:m∉es.map (·.1))(U:Is H e v):Xa (upd H d (.dK (lW (li vs) (Vl m) v))) d (es++ [(m,e)]):=by
 let O:lW (li vs) (Vl m) v=li (vs++ [(m,v)]):=by
  rw[qae _ (oU (by rwa[h2]))]
  unfold li;rw[ur]
  rfl
 let tk:=Tk.updD (ys:=lW (li vs) (Vl m) v) h1;exists vs++ [(m,v)],by rw[qg,O],?_,?_
 .rw[ur,ur,h2]
  rfl
 .rw[ur,ur];exact(h3.mono tk).append (L2.IsL.one (U.mono tk))
def BE:#[T,1,a.ZM,a.ZH,["paper"],Lq]:=by
 refine T.iS.F.ok yS () (λ_ _ _ _ H vs Q E hr h=>?_)
 erw[h,t,us,ps,rfl,ht,Z,af,hl,k];let hs:=uE;let aa:↑us=↑ps:=by rw[↑Z,uc]
 exists 3,%[#[qF,(1),yS.nd,xo],#[yW,#[Wl,pv 0],#[Kf,Qz #[qM,(2),yS.nd] (Qz #[qM,(3),yS.nd] (Qz #[qM,(4),yS.nd] Jz))],%[|#[qZ,#[LH,9,pv 1,pv 2,pv 4,(1,1,1,1)]]]]|#[qm,pv 1]]
 exists 8,N1,q1;refine λd hd=>q1 _ _ ?_;let m0:=qf hd (.dK ([]:oj (Key×V)));let ac:Xa (upd H d (.dK [])) d []:=([],qg,1,1);generalize upd H d (.dK [])=H0 at m0 ac⊢;exists 8,N2,q2
 exists 0,t,1,[_:SqT.of (m0 _ _ ht)]
 refine_lift let J_:Nat->L2.St->Hp->Prop:=λi σ H'=>(∃u2 u3 u4,σ= [u_ (-t),u_ (-d),u2,u3,u4])/\ic H H'/\Xa H' d ((lT ps).take i);?_
 refine Xi (xs:=us) J_ [[_:_:0]:m0:ac] (λi σ H' _ h=>SqT.of (h.2.1 _ _ ht)) ?_ ?_
 .rintro i x σ H1 hx ⟨⟨u2,u3,u4,rfl⟩,s1,vs,O,U,ag⟩;let hi:i<↑ps:=by rw[<-aa];exact(Af.mp hx).1
  obtain⟨x',ad,ix⟩:=Z.get (i:=i) (d:=stD ps[i]) (by rw[uJ,uf hi];rfl)
  rw[hx] at ad;cases ad;erw[ix,tt,ut,rfl,ah,y1,r1,rfl,[rfl,_],y2,r2,rfl,_,y3,r3,rfl,i3,ak];cases(show r3= [] from ak)
  exists tt,0,SqT.of (s1 _ _ ah),1,_,0,_,0,_,0,1;let ae:=SS hi af;let al:↑vs<=1000:=by
   have:=A9 Gb U;rw[uc,uc,vD,Ie] at this;omega
  exists 5
  refine(0,d,1,.inl [_:.inl O],0,0,li vs,Vl ps[i].1,O,1,by unfold li;rw[uc];omega,λv hv=>?_,λ_=>?_)
  .rw[oU (by rwa[U])] at hv
   cases hv
  .exists [_:_:0],λb o e=>?_,?_
   .rw[qj (qk e hd)];exact s1 _ _ e
   .have:=Xa.put O U ag ae (i3.mono s1.tk);rw[vg,ST hi];exact this
 .rintro σ H1 ⟨⟨u2,u3,u4,rfl⟩,s1,hT⟩;refine q2 _ _ [0:k d H1 hd s1 ?_];rwa[aa,<-Ie,U2] at hT
def oO:#[C,13,a.X1,a.XX,["project","paper"],(Dx a.qE)]:=by
 let J7:=#[BE,T];let O:=#[LP,T,C];refine T.iN.F.ok Q6 () (λ_ _ _ s H vs Q E hr h=>?_)
 erw[h,px,t,us,qs,ps,b,rfl,ht,Z,hP,hq,[hl,aw,ad,hB,ae],k];let hs:=uE;let af:↑us=↑ps:=by rw[↑Z,uc]
 exists 3,%[#[qF,(2),Q6.nd,#[qq,J7,T.iS,#v[pv 1]]],#[qF,(3),Q6.nd,xo],#[yW,#[Bz,8,_,T.Wy,pv 1,_],#[Kf,Qz #[qM,(4),Q6.nd] (Qz #[qM,(5),Q6.nd] Jz)],%[#[qF,(6),Q6.nd,#[qq,O,T.mH,#v[pv 0,pv 2,pv 3,pv 5]]],#[qH,#[qp,Ju,pv 6,qR,qw _],%[|#[qm,#[qI,#v[pv 4,pv 6]]]],qt]|#[JT,pv 3,#[qG,qA,pv 5],#[qG,qA,pv 5]]]]|#[qm,qR]]
 exists 8,N1,q1
 exists 0,t,us,ps,1,ht,Z,ad,hl,λsd H1 aI s1 hS=>q1 _ _ ?_;exists 8,N2,q2;refine λed ag=>q2 _ _ ?_;let m2:=qf ag (.dK ([]:oj (Key×V)));let ah:Xa (upd H1 ed (.dK [])) ed []:=([],qg,1,1);let s2:=s1.trans m2;let ax:=hS.same m2;generalize upd H1 ed (.dK [])=H2 at m2 ah s2 ax⊢;exists 8,N3,q3
 exists 0,t,us,1,SqT.of (s2 _ _ ht),λhsz=>?_
 refine_lift let J_:Nat->L2.St->Hp->Prop:=λi σ H'=>(∃u4 u5 u6,σ= [u_ (-px),u_ (-t),u_ (-sd),u_ (-ed),u4,u5,u6])/\ic H1 H'/\Xa H' ed ((lT ps).take i)/\∀j s,j<i->ps[j]? =u_ s->GdS qs ps j s;?_
 refine NL (c:=0) (xs:=us) J_ ([_:_:0],m2,ah,λj s hj=>A8 hj (U7 j)) (λi σ H' hi h=>SqT.of (h.2.1 _ _ (s1 _ _ ht))) ?_ ?_
 .rintro i y σ H' p hy ⟨⟨u4,u5,u6,rfl⟩,s',ak,U⟩ hp;let hi:i<↑ps:=by rw[<-af];exact(Af.mp hy).1
  obtain⟨y',al,iy⟩:=Z.get (i:=i) (d:=stD ps[i]) (by rw[uJ,uf hi];rfl)
  rw[hy] at al;cases al;let m4:=qf hp (-[.int (0+(i:Int)),y]);let e4:(upd H' p (-[.int (0+(i:Int)),y])) p=u_ (-[.int (0+(i:Int)),y]):=qg;let s4:=s'.trans m4;let aa:=ak.same m4;generalize upd H' p (-[.int (0+(i:Int)),y])=H4 at m4 e4 s4 aa⊢;let am:=s1.trans s4;erw[iy.mono am.tk,tt,ut,rfl,ac,y1,r1,rfl,[rfl,_],y2,r2,rfl,i2,y3,r3,rfl,i3,ay];cases(show r3= [] from ay)
  erw[i2,ta,ua,rfl,aA,aB]
  exists p,0,SqT.of e4,1,_,0,_,0,1;show nA _ _ _ _ H4;exists 8,B1,b1;let aC:=SS hi ad;obtain⟨bi,aD,ao⟩:∃bi:Bool,((Rst qs ((lT ps).take i) (lT ps) ps[i].1 ps[i].2.1 ps[i].2.2/\EnS ps[i].2.2/\bi=v_)\/(AdX qs ((lT ps).take i) (lT ps) ps[i].1 ps[i].2.1 ps[i].2.2/\bi=Vi))/\(bi=v_->GdS qs ps i ps[i])/\(bi=Vi->b=Vi):=by
   by_cases c:GdS qs ps i ps[i]
   .exact(v_,.inl [c.1:c.2:1],λ_=>c,λz=>by cases z)
   .exists Vi,.inr [(hB i _ (uf hi) U).resolve_left c:1],λz=>(by cases z),λ_=>?_
    cases b with
    |false=>rfl|true=>exact A8 (ae.mp rfl i _ (uf hi)) c
  exists 0,0,0,0,px,sd,ed,tt,ta,ua,y3,ps[i].1,ps[i].2.1,ps[i].2.2,qs,(lT ps).take i,lT ps,bi,1,ac,aA,aB,i3,hP.same am,hq,hS.same s4,aa,aw _ (uR hi),aD,λwv H5 s5 aE aF=>b1 _ _ ?_;exists 8,B2,b2
  exists 0,1,0;let ap:=s4.trans s5;cases bi with
  |false=>
   erw[aF rfl,wz,rfl];let aG:=ao.2 rfl;subst aG;refine lC rfl ?_
   exists 0,0,sml rfl,λt6 h6=>?_;exact k _ _ ((s1.trans ap).trans (qf h6 _)) (λz=>by cases z) (λ_ z=>by cases z)
  |true=>
   cases aE rfl;refine iO rfl (b2 _ _ ?_);erw[aa.same s5,vs,aq,au,aH];let aJ:↑vs<=1000:=by
    have:=A9 Gb au;rw[uc,uc,vD,Ie] at this;omega
   exists 0,tt,_,_,0,1,SqT.of (s5 _ _ ac),qD (j:=2) rfl,0,0,tt,_,_,0,1,SqT.of (s5 _ _ ac),qD (j:=0) rfl,ed,0,IP.k (k:=Vl ps[i].1) aq (by unfold li;rw[uc];omega),[_:_:0],λb o e=>?_,?_,λj s hj hs=>?_
   .rw[qj (qk e ag)];exact ap _ _ e
   .have:=Xa.put aq au aH aC (i3.mono s5.tk);rw[vg,ST hi];exact this
   .by_cases cj:j<i
    .exact U j s cj hs
    .have:j=i:=by omega
     subst this;rw[uf hi] at hs;cases hs;exact ao.1 rfl
 .rintro σ H' ⟨⟨u4,u5,u6,rfl⟩,s',ak,U⟩;refine q3 _ _ (k _ _ (s1.trans s') (λ_=>rfl) λhb=>?_);have:b=true:=ae.mpr λi s hs=>U i s (by rw[af];exact(Af.mp hs).1) hs
  rw[this] at hb;cases hb
end
def EF:∀{l m:oj Str},l.Nodup->(∀x>l,x>m)->↑l<=↑m
 | [],m,_,_=>vc _|x::r,m,hn,hs=>by
  rw[vW] at hn;let O:=hs x ui;let h:=EF (l:=r) (m:=m.erase x) hn.2 (λy U=>(List.mem_erase_of_ne (λz=>hn.1 (by rwa[<-z]))).mpr (hs y (uh _ U)))
  rw[List.length_erase_of_mem O] at h;have:0<↑m:=List.length_pos_of_mem O;rw[uB];omega
section
variable {α:Type}{f:α->Str}
abbrev ddA (f:α->Str):oj α->oj α->oj α
 |acc,[]=>acc|acc,x::r=>if f x>acc.map f then ddA f acc r else ddA f (acc++ [x]) r
def WP:∀(x O y:oj α),ddA f O (x++y)=ddA f (ddA f O x) y
 | [],O,y=>rfl|x::r,O,y=>by
  show(if f x>O.map f then ddA f O (r++y) else ddA f (O++ [x]) (r++y))=ddA f (if f x>O.map f then ddA f O r else ddA f (O++ [x]) r) y
  by_cases c:f x>O.map f
  .rw[A6 c,A6 c];exact WP r O y
  .rw[A4 c,A4 c];exact WP r _ y
def AL:∀(l O:oj α),((O++l).map f).Nodup->ddA f O l=O++l
 | [],O,_=>(uU O).symm|x::r,O,h=>by
  let h':=h;rw[ur,uw,T6] at h';let c:f x∉O.map f:=λz=>h'.2.2 _ z _ ui rfl;show(if f x>O.map f then ddA f O r else ddA f (O++ [x]) r)=_
  rw[A4 c,AL r (O++ [x]) (by rw[vw];exact h),vw]
  rfl
def B9:∀(l O:oj α),(O.map f).Nodup->((ddA f O l).map f).Nodup
 | [],O,h=>h|x::r,O,h=>by
  show((if f x>O.map f then ddA f O r else ddA f (O++ [x]) r).map f).Nodup
  by_cases c:f x>O.map f
  .rw[A6 c];exact B9 r O h
  .rw[A4 c];refine B9 r _ ?_;rw[ur];exact(Uh (l₁:= [f x]) (l₂:=O.map f)).nodup_iff.mp (List.nodup_cons.mpr [c:h])
def Ws:∀(l O:oj α) (x:α),x>ddA f O l->x>O\/x>l
 | [],O,x,h=> .inl h|y::r,O,x,h=>by
  let h:x>(if f y>O.map f then ddA f O r else ddA f (O++ [y]) r):=h
  by_cases c:f y>O.map f
  .rw[A6 c] at h;exact(Ws r O x h).imp id (uh _)
  .rw[A4 c] at h;rcases Ws r _ x h with h|h
   .rcases Ac.mp h with h|h
    .exact .inl h
    .cases Ab.mp h;exact .inr ui
   .exact .inr (uh _ h)
def AK:∀(l O:oj α),∃t,ddA f O l=O++t
 | [],O=>[[]:(uU O).symm]|x::r,O=>by
  show∃t,(if f x>O.map f then ddA f O r else ddA f (O++ [x]) r)=O++t
  by_cases c:f x>O.map f
  .rw[A6 c];exact AK r O
  .rw[A4 c];erw[AK r (O++ [x]),t,e];exact⟨x::t,by rw[e,vw];rfl⟩
def K0:∀(l O:oj α) (z:Str),z>O.map f\/z>l.map f->z>(ddA f O l).map f
 | [],O,z,h=>by
  rcases h with h|h
  .exact h
  .cases h
 |x::r,O,z,h=>by
  show z>(if f x>O.map f then ddA f O r else ddA f (O++ [x]) r).map f
  by_cases c:f x>O.map f
  .rw[A6 c];refine K0 r O z ?_;rcases h with h|h
   .exact .inl h
   .rw[uw] at h;rcases Aa.mp h with rfl|h
    .exact .inl c
    .exact .inr h
  .rw[A4 c];refine K0 r _ z ?_;rw[ur];rcases h with h|h
   .exact .inl (uX _ h)
   .rw[uw] at h;rcases Aa.mp h with rfl|h
    .exact .inl (uN _ ui)
    .exact .inr h
def Iw:∀(l O:oj α) (i:Nat) (s:α),(ddA f O l)[i]? =u_ s->i<↑O\/∃l1 l2,l=l1++s::l2/\f s∉O.map f/\f s∉l1.map f/\(ddA f O l).take i=ddA f O l1
 | [],O,i,s,h=> .inl (Af.mp h).1|x::r,O,i,s,h=>by
  let e:ddA f O (x::r)=if f x>O.map f then ddA f O r else ddA f (O++ [x]) r:=rfl
  by_cases c:f x>O.map f
  .rw[e,A6 c] at h⊢;rcases Iw r O i s h with h|⟨l1,l2,U,e2,e3,Z⟩
   .exact .inl h
   .refine .inr (x::l1,l2,by rw[U];rfl,e2,λz=>?_,?_)
    .rw[uw] at z;rcases Aa.mp z with z|z
     .exact e2 (by rw[z];exact c)
     .exact e3 z
    .rw[Z];exact(A6 c).symm
  .rw[e,A4 c] at h⊢;rcases Iw r (O++ [x]) i s h with h'|⟨l1,l2,U,e2,e3,Z⟩
   .erw[AK (f:=f) r (O++ [x]),t,et];rw[uL,vU] at h';by_cases ci:i<↑O
    .exact .inl ci
    .let hi:i=↑O:=by omega
     right;rw[et] at h⊢;let hx:s=x:=by
      rw[hi,vw,vn (uq _),Ho] at h;exact(uO h).symm
     refine([],r,by rw[hx];rfl,by rw[hx];exact c,λz=>(by cases z),?_)
     rw[hi,vw,HS]
     rfl
   .rw[ur] at e2;refine .inr (x::l1,l2,by rw[U];rfl,λz=>e2 (uX _ z),λz=>?_,?_)
    .rw[uw] at z;rcases Aa.mp z with z|z
     .exact e2 (uN _ (by rw[z];exact ui))
     .exact e3 z
    .rw[Z];exact(A4 c).symm
end
abbrev jw (qs:oj (Str×D))(s:Str×oj D×D):Prop:=∃g,g0D s.1 (qB qs s.1)=u_ g/\s.2.1=Qi (itP qs 302 g)/\s.2.2=mV (itP qs 302 g)
structure Pap (qs:oj (Str×D))(R:Pp):Prop where
 tr:∀s>R,jw qs s
 nd:(R.map (·.1)).Nodup
 bf:∀l1 s l2,R=l1++s::l2->∀kd z an,D.tup [-[!kd,!z],an]>s.2.1->ml kd=Vi->g0D z (qB qs z)=U_\/z>l1.map (·.1)
 sk:∀s>R,∀z,s.2.2=mP z->z>R.map (·.1)
def zT (R:Pp):(lT R).map (·.1)=R.map (·.1):=by
 unfold lT;rw[uP]
 rfl
variable {qs:oj (Str×D)}{don:oj (Str×Gp)}
def Wv (hq:Qa qs){n:Str}(h:Dn qs n don):Pap qs (iQ don):=by
 let O:(iQ don).map (·.1)=don.map (·.1):=by rw[<-zT,SR]
 refine(λs hs=>?_,by rw[O];exact MD h,λl1 s l2 e kd z an hx hk=>?_,λs hs z hz=>?_)
 .erw[Ae.mp hs,p,Z,rfl];erw[Jb h Z,g,U,e2];let e2:p.2=itP qs 302 g:=e2;exact(g,U,by show Qi p.2=_;rw[e2],by show mV p.2=_;rw[e2])
 .unfold iQ at e;erw[List.map_eq_append_iff.mp e,d1,aa,U,e2,e3];erw[List.map_eq_cons_iff.mp e3,p,d2,e4,e5,e6];subst e5;have:=ML hq h (l1:=d1) (p:=p) (l2:=d2) (by rw[U,e4]) hx hk
  rw[<-e2,uP];exact this
 .erw[Ae.mp hs,p,Z,rfl];erw[Jb h Z,g,U,e2];let e2:p.2=itP qs 302 g:=e2;let hz:mV p.2=mP z:=hz;rw[O];refine AaP hq h (Ae.mpr [p:Z:1]) ?_;let e3:Cg qs p.1=QE (mV p.2):=by
   unfold Cg;rw[U,e2]
   rfl
  rw[e3,hz]
  rfl
variable {R:Pp}
def Pap.put {S:Pp}(U:Pap qs R)(O:Pap qs S):Pap qs (ddA (·.1) [] (R++S)):=by
 let has:∀z,z>R.map (·.1)\/z>S.map (·.1)->z>(ddA (λs:Str×oj D×D=>s.1) [] (R++S)).map (·.1):=λz hz=>K0 _ _ z (.inr (by rw[ur];exact Ac.mpr hz))
 exists λs Z=>?_,B9 _ _ vI,λl1 s l2 e kd z an hx hk=>?_,λs Z z hz=>?_
 .rcases Ws _ _ _ Z with h|h
  .cases h
  .rcases Ac.mp h with h|h
   .exact U.tr s h
   .exact O.tr s h
 .let hi:(ddA (λs:Str×oj D×D=>s.1) [] (R++S))[↑l1]? =u_ s:=by rw[e,vn (uq _),Ho];rfl
  rcases Iw _ _ _ _ hi with h|⟨k1,k2,e1,_,e3,e4⟩
  .exact A8 h (U7 _)
  .rw[e,HS] at e4;let aa:g0D z (qB qs z)=U_\/z>k1.map (·.1):=by
    rcases List.append_eq_append_iff.mp e1 with⟨a',h1,h2⟩|⟨c',h1,h2⟩
    .exact(O.bf a' s k2 h2 kd z an hx hk).imp id λh=>by rw[h1,ur];exact uN _ h
    .cases c' with
     |nil=>exact(O.bf [] s k2 h2.symm kd z an hx hk).imp id λh=>by cases h|cons c cr=>
      have ac:s=c/\k2=cr++S:=by
       injection h2 with h3 h4
       exact[h3:h4]
      rw[<-ac.1] at h1;exact U.bf k1 s cr h1 kd z an hx hk
   refine aa.imp id λh=>?_;rw[e4];exact K0 _ _ z (.inr h)
 .rcases Ws _ _ _ Z with h|h
  .cases h
  .rcases Ac.mp h with h|h
   .exact has z (.inl (U.sk s h z hz))
   .exact has z (.inr (O.sk s h z hz))
def wg (U:Qa qs){s:Str×oj D×D}(h:jw qs s):EnS s.2.2/\nm s.1=v_/\QE s.2.2=Cg qs s.1:=by
 erw[h,g,O,_,e2];let Z:=yG O;exists ?_,U.1.1.1 _ ((Qs qs).gn _ g O),?_
 .rw[e2];unfold mV;cases he:(itP qs 302 g).en with|none=>rw[he] at Z;cases Z|some e=>exact(Jj U O 302).1.en e he
 .rw[e2];unfold Cg mV;rw[O]
section
variable {qs:oj (Str×D)}
def SB {l:Pp}(O:(l.map (·.1)).Nodup){s:Str×oj D×D}(U:s>l):qB (lT l) s.1=s.2.2:=sD (by rwa[zT]) (Ae.mpr [s:U:1])
variable {z:Str}{g:Gp}
def LA (hq:Qa qs){y:om D}(ez:g0D z (qB qs z)=u_ g)(hF:FP qs z=u_ y):∃v,y=u_ v/\mV (itP qs 302 g)= .tup [-"said",v]/\isT v=true:=by
 let U:FP qs z=(xz (itP qs 302 g)).map some:=Sy.F_run (Qs qs) ez;rw[hF] at U;cases O:xz (itP qs 302 g) with
 |none=>rw[O] at U;cases U|some v=>
  rw[O] at U;let ac:=(Jj hq ez 302).1;let aa:=yG ez;exists v,uO U;unfold xz at O;unfold mV;cases Z:(itP qs 302 g).en with
  |none=>rw[Z] at aa;cases aa|some e=>
   rw[Z] at O;let O:j3 e=u_ v:=O;rcases ac.en e Z with⟨y,rfl⟩|⟨y,rfl,hy⟩|⟨y,rfl⟩
   .have:j3 (flt y)=none:=(show(if("fault":Str)="said" then u_ (D.str y) else U_)=U_ from A4 ())
    rw[this] at O;cases O
   .have:j3 (-[-"said",y])=u_ y:=(show(if("said":Str)="said" then u_ y else U_)=u_ y from A6 rfl)
    rw[this] at O;cases O;exact[1:hy]
   .have:j3 (-[-"stuck",!y])=none:=(show(if("stuck":Str)="said" then u_ (D.str y) else U_)=U_ from A4 ())
    rw[this] at O;cases O
def Z9 (hq:Qa qs){s:Str×oj D×D}(h:jw qs s){l:Pp}(hl:∀x>l,jw qs x)(hn:(l.map (·.1)).Nodup){x:D}(hx:x>s.2.1):∃kd z an,x= .tup [-[!kd,!z],an]/\↑z<=1000/\((MU qs (lT l) kd z an/\(ml kd=Vi->g0D z (qB qs z)=U_\/z>l.map (·.1)))\/(Aak qs (lT l) kd z an/\ml kd=Vi/\(∃g,g0D z (qB qs z)=u_ g)/\z∉l.map (·.1))):=by
 erw[h,g,e1,ea,ee];rw[ea] at hx;erw[Acg hq e1 302 x hx,kd,z,an,rfl,ad,hc];exists kd,z,an,1,ad;let O:kd≠"names"->nm z=true:=λhk=>S3 hq e1 hx hk;rcases hc with hc|⟨hk,U,y,hF,ha⟩
 .exact .inl ⟨[O:.inl hc],λh0=>by rw[hc.1] at h0;cases h0⟩
 .cases Z:g0D z (qB qs z) with
  |none=>
   refine .inl [[O:.inr [hk:U:.inl [Z:?_]]]:λ_=> .inl rfl];let aa:FP qs z=u_ (oH (qB qs z)):=Sy.F_once (Qs qs) Z;rw[hF] at aa;cases aa;exact ha
  |some gz=>
   erw[LA hq Z hF,v,rfl,ae,hv];let ha:an=v:=ha;by_cases c:z>l.map (·.1)
   .refine .inl ⟨⟨O,.inr ⟨hk,U,.inr ([gz:Z],by rwa[zT],?_,by rwa[ha])⟩⟩,λ_=> .inr c⟩
    erw[Ae.mp c,sz,ac,rfl];erw[hl sz ac,ag,ez,_,af];rw[Z] at ez;cases ez;rw[SB hn ac,af,ae,ha]
   .exact .inr ((U,O (by rcases U with rfl|rfl<;>decide+kernel),[gz:Z],by rwa[ha],.inl (by rwa[zT])),hk,[gz:1],c)
def IZ (hq:Qa qs){s sz:Str×oj D×D}(h:jw qs s)(hz:s.2.2=mP z)(hs:jw qs sz)(e:sz.1=z):∃k x,sz.2.2= .tup [!k,x]/\k≠"said":=by
 erw[h,g,e1,ea,ee];let Z:=yG e1;rw[ee] at hz;let he:(itP qs 302 g).en=u_ (-[-"stuck",!z]):=by
  unfold mV at hz;cases O:(itP qs 302 g).en with
  |none=>rw[O] at Z;cases Z|some e=>rw[O] at hz;exact A9 u_ hz
 erw[Dg hq e1 302 he,_,_,_,ac];erw[hs,gz,ez,_,ad];rw[ad];let U:FP qs sz.1=(xz (itP qs 302 gz)).map some:=Sy.F_run (Qs qs) ez;rw[e,ac] at U;let ae:=(Jj hq ez 302).1;let aa:=yG ez;unfold mV;cases O:(itP qs 302 gz).en with
 |none=>rw[O] at aa;cases aa|some e=>
  rcases ae.en e O with⟨y,rfl⟩|⟨y,rfl,hy⟩|⟨y,rfl⟩
  .exact["fault":0:()]
  .have:xz (itP qs 302 gz)=u_ y:=by unfold xz;rw[O];show(if("said":Str)="said" then u_ y else U_)=u_ y;exact A6 rfl
   rw[this] at U;cases U
  .exact["stuck":0:()]
abbrev BfR (qs:oj (Str×D))(R:Pp):Prop:=∀l1 s l2,R=l1++s::l2->∀kd z an,D.tup [-[!kd,!z],an]>s.2.1->ml kd=Vi->g0D z (qB qs z)=U_\/z>l1.map (·.1)
abbrev SkR (R:Pp):Prop:=∀s>R,∀z,s.2.2=mP z->z>R.map (·.1)
def La (ps:Pp)(i:Nat):(lT ps).take i=lT (ps.take i):=by unfold lT;rw[<-Vf]
def jY (O:Qa qs)(tr:∀s>R,jw qs s)(nd:(R.map (·.1)).Nodup):↑R<=60:=by
 have:=EF nd (m:=qs.map (·.1)) λx U=>by
  erw[Ae.mp U,s,Z,rfl];erw[tr s Z,g,e1,_];exact(Qs qs).gn _ g e1
 rw[uc,uc] at this;exact uY this O.2.2
variable {ers:oj (Str×D)}
def Kq (hq:Qa qs){s:Str×oj D×D}(h:jw qs s){es:oj (Str×D)}(Z:s.1∉ers.map (·.1))(ha:∀x>s.2.1,∃kd z an,x= .tup [-[!kd,!z],an]/\↑z<=1000/\MU qs ers kd z an)(hs:∀z,s.2.2=mP z->z>es.map (·.1)/\∃k x,qB es z= .tup [!k,x]/\k≠"said"):Rst qs ers es s.1 s.2.1 s.2.2:=by
 erw[h,g,U,ea,ee];let O:=(Jj hq U 302).1;let aa:=yG U;exists Z,[g:U],ha,?_,?_,?_,hs
 .rw[ea,ee];exact SQ hq U
 .rw[ea];exact MK O
 .have:=Ab0 O aa;rw[wf,<-ea] at this;erw[this,a1,a2,a3,a4];simp![nD] at a1;simp![dp] at a2;exact(a1,(),by rwa[ee],by rwa[ee])
def sT (Z:Qa qs)(tr:∀s>R,jw qs s)(nd:(R.map (·.1)).Nodup){b:Bool}(hb:b=v_↔(BfR qs R/\SkR R)):PpB qs R b:=by
 let ap:=jY Z tr nd;let ag:((lT R).map (·.1)).Nodup:=by rw[zT];exact nd
 let ac:∀i,((R.take i).map (·.1)).Nodup:=λi=>nd.sublist ((V4 i R).map _);let ad:∀i,∀s>R.take i,jw qs s:=λi s hs=>tr s (UG hs);let parts:∀{i s},R[i]? =u_ s->R=R.take i++s::R.drop (i+1):=λ{i s} hs=>by
  erw[Af.mp hs,hi,al];rw[<-al,<-uV hi,vV]
 let ni:∀{i s},R[i]? =u_ s->s.1∉((lT R).take i).map (·.1):=λ{i s} hs=>by
  erw[Af.mp hs,hi,rfl];exact SS hi ag
 let ah:∀{s},s>R->∀z,s.2.2=mP z->z>R.map (·.1)->z>(lT R).map (·.1)/\∃k x,qB (lT R) z= .tup [!k,x]/\k≠"said":=λ{s} hs z hz aa=>by
  refine⟨by rwa[zT],?_⟩
  erw[Ae.mp aa,sz,ak,rfl];rw[SB nd ak];exact IZ Z (tr s hs) hz (tr sz ak) rfl
 exists (),λs hs=>(wg Z (tr s hs)).2.1,ag,λi s hi _=>?_,hb.trans [λhc i s hi=>?_:λhg=>[λl1 s l2 e kd z an hx hk=>?_:λs hs z hz=>?_]]
 .let U:=uQ hi;let hT:=tr s U;let hE:=(wg Z hT).1;let O:=ni hi;rw[La] at O⊢;unfold GdS;rw[La];by_cases ca:∃kd z an,D.tup [-[!kd,!z],an]>s.2.1/\Aak qs (lT (R.take i)) kd z an
  .erw[hT,g,e1,_];refine .inr [O:[g:e1]:.inl [λx hx=>?_:ca]];erw[Z9 Z (tr s U) (ad i) (ac i) hx,kd,z,an,e,hl,hc];exact(kd,z,an,e,hl,hc.imp Fk Fk)
  .let hA:∀x>s.2.1,∃kd z an,x= .tup [-[!kd,!z],an]/\↑z<=1000/\MU qs (lT (R.take i)) kd z an:=λx hx=>by
    erw[Z9 Z hT (ad i) (ac i) hx,kd,z,an,e,hl,hc];rcases hc with hc|hc
    .exact(kd,z,an,e,hl,hc.1)
    .exact A8 (kd,z,an,by rwa[<-e],hc.1) ca
   by_cases ck:∃z,s.2.2=mP z/\z∉R.map (·.1)
   .erw[ck,z,hz,am];erw[id hT,g,e1,_];refine .inr ⟨O,[g:e1],.inr ([(z,mP z)],Kq Z hT O hA (λy hy=>?_),hE,z,hz,.inl (by rwa[zT]))⟩
    rw[hz] at hy;unfold mP at hy;cases hy;exact(ui,"stuck",!z,sD (List.nodup_cons.mpr [uI:vI]) ui,())
   .exact .inl [Kq Z hT O hA λz hz=>ah U z hz (Pc λh=>ck [z:hz:h]):hE]
 .let U:=uQ hi;let hT:=tr s U;let O:=ni hi;unfold GdS;rw[La] at O⊢;exists Kq Z hT O (λx hx=>?_) λz hz=>ah U z hz (hc.2 s U z hz),(wg Z hT).1;erw[Z9 Z hT (ad i) (ac i) hx,kd,z,an,e,hl,ae];rcases ae with ae|⟨_,hk,⟨g,hg⟩,hn⟩
  .exact(kd,z,an,e,hl,ae.1)
  .rcases hc.1 _ s _ (parts hi) kd z an (by rwa[<-e]) hk with h0|h0
   .rw[h0] at hg;cases hg
   .exact A8 h0 hn
 .let hi:R[↑l1]? =u_ s:=by rw[e,vn (uq _),Ho];rfl
  let af:=(hg _ s hi).1;rw[La] at af;let ao:R.take ↑l1=l1:=by rw[e,HS]
  rw[ao] at af;erw[af.asks _ hx,aq,z',au,e',_,hA];cases e';rcases hA.2 with⟨hh,_⟩|⟨_,_,⟨h0,_⟩|⟨_,aa,_⟩⟩
  .rw[hk] at hh;cases hh
  .exact .inl h0
  .rw[zT] at aa;exact .inr aa
 .erw[TF hs,i,hi];have:=((hg i s hi).1.stk z hz).1
  rwa[zT] at this
end
namespace Sy
variable {Y:Sy}
variable {S:Ss Y}{m:Str}
def Es (h:m>Y1 S):m>Y1 (nxt S):=by
 erw[S,stk,don];cases stk with
 |nil=>exact h|cons p r=>
  erw[p,n,g];unfold nxt;simp only;split
  .unfold Y1 at h⊢;simp![uw,ur,U4,vZ,uF,V1,uI,uT] at h⊢;rcases h with h|h|h
   .exact .inr (.inr h)
   .exact .inl h
   .exact .inr (.inl h)
  .split
   .exact h
   .split
    .exact h
    .exact h
    .split
     .exact uh _ h
     .exact h
abbrev Wn (Y:Sy)(q m:Str):Prop:=∃s k,Y.g0 q=u_ s/\Y.fin (it Y (F Y) k s)=Vi/\Y.want (it Y (F Y) k s)=u_ m
abbrev Wtd (n0:Str)(S:Ss Y):Prop:=∀m>Y1 S,m=n0\/∃q>Y1 S,q≠m/\Wn Y q m
variable {n0:Str}
def nxt_wtd (h:Y.Ok)(c:Clo S)(w:Wtd n0 S):Wtd n0 (nxt S):=by
 let O:∀m>Y1 (nxt S),m>Y1 S\/∃q>Y1 S,q≠m/\Wn Y q m:=by
  erw[S,stk,don];cases stk with
  |nil=>exact λm hm=> .inl hm|cons p r=>
   erw[p,n,g];let c0:NX Y (Y1 (⟨(n,g)::r,don⟩:Ss Y)) n g:=c (n,g) (.inl ui);intro m hm;unfold nxt at hm;simp only at hm;cases U:Y.fin g with
   |true=>
    rw[U,A6 rfl] at hm;left;unfold Y1 at hm⊢;simp![uw,ur,U4,vZ,uF,V1,uI,uT] at hm⊢;rcases hm with h|h|h
    .exact .inr (.inl h)
    .exact .inr (.inr h)
    .exact .inl h
   |false=>
    rw[U,A4 ub] at hm;cases Z:Y.want g with
    |none=>rw[Z] at hm;exact .inl hm|some m'=>
     rw[Z] at hm;simp only at hm;cases hy:yet ([(n,g)::r:don]:Ss Y) m' with
     |some o=>
      rw[hy] at hm;cases o<;>exact .inl hm
     |none=>
      rw[hy] at hm;simp only at hm;erw[jj hy,h1,[g',hg],h2];rw[hg] at hm;rcases Aa.mp hm with rfl|hm
      .erw[c0,s,k,e1,e2,_];exact .inr (n,ui,λz=>h1 (by rw[<-z];exact ui),s,k,e1,by rw[<-e2];exact U,by rw[<-e2];exact Z)
      .exact .inl hm
 intro m hm;rcases O m hm with h1|⟨q,hq,h1⟩
 .rcases w m h1 with h2|⟨q,hq,h2⟩
  .exact .inl h2
  .exact .inr [q:Es hq:h2]
 .exact .inr [q:Es hq:h1]
end Sy
section
variable {qs:oj (Str×D)}
def EO (O:Qa qs){m:Str}{g:Gp}(U:g0D m (qB qs m)=u_ g)(k:Nat):∀j,∀x>Qi (itP qs k g),x>Qi (itP qs (k+j) g)
 |0,x,hx=>hx|j+1,x,hx=>by
  erw[Di (qs:=qs) (Jj O U (k+j)).2,l,e];have:itP qs (k+(j+1)) g=Sy.step (SyP qs) (FP qs) (itP qs (k+j) g):=Sy.XF (Y:=SyP qs) (f:=FP qs) (k+j) g;rw[this,e];exact uX _ (EO O U k j x hx)
variable {m:Str}
def C5 (hq:Qa qs){q:Str}(hW:Sy.Wn (SyP qs) q m){O:Gp}(Z:g0D q (qB qs q)=u_ O):(∃kd an,ml kd=Vi/\D.tup [-[!kd,!m],an]>Qi (itP qs 302 O))\/mV (itP qs 302 O)=mP m:=by
 erw[hW,s,k,e1,e2,e3];let e1:g0D q (qB qs q)=u_ s:=e1;rw[Z] at e1;cases e1;let he:(itP qs k O).en=none:=by
  let e2:(itP qs k O).en.isSome=false:=e2;cases h:(itP qs k O).en with
  |none=>rfl|some _=>rw[h] at e2;cases e2
 let e3:yk (itP qs k O)=u_ m:=e3;erw[Jj hq Z k,ad,ae];erw[KG ad e3,kd,hp,hk];let es:itP qs (k+1) O=Sy.step (SyP qs) (FP qs) (itP qs k O):=Sy.XF (Y:=SyP qs) (f:=FP qs) k O;let U:Sy.step (SyP qs) (FP qs) (itP qs k O)=match FP qs m with
  |some a=>QS (itP qs k O) (a.getD .non)|none=>Ld (itP qs k O) m:=by
  let e:Sy.step (SyP qs) (FP qs) (itP qs k O)=if(itP qs k O).en.isSome=v_ then itP qs k O else match yk (itP qs k O) with
   |none=>nw qs (itP qs k O)|some m=>match FP qs m with
    |some a=>QS (itP qs k O) (a.getD .non)|none=>Ld (itP qs k O) m:=rfl
  rw[e,he,e3]
  rfl
 let aa:=(Qs qs).l0 q O Z;let ac:∀j,302<=j->itP qs 302 O=itP qs j O:=λj hj=>Sy.it_one (Sy.Wx (Qs qs) 302 O aa) (Sy.Wx (Qs qs) j O (uY aa hj));cases hF:FP qs m with
 |some y=>
  rw[hF] at U;left;exists kd,y.getD .non,hk;rw[ac (k+1+302) ()]
  refine EO hq Z (k+1) 302 _ ?_;rw[es,U,(YQ ae he _).1,hp];exact uN _ (Ab.mpr rfl)
 |none=>
  rw[hF] at U;right;let e5:itP qs 302 O=itP qs (k+1) O:=Sy.it_one (Sy.Wx (Qs qs) 302 O aa) (by show(itP qs (k+1) O).en.isSome=v_;rw[es,U];rfl)
  rw[e5,es,U]
  rfl
def SU (hq:Qa qs){n:Str}(h:Dn qs n don)(hm:m>don.map (·.1)):m=n\/∃p>don,p.1≠m/\Sy.Wn (SyP qs) p.1 m:=by
 cases U:g0D n (qB qs n) with
 |none=>rw[WB U h] at hm;cases hm|some g=>
  erw[id h,j,hj];let Z:∀j,Sy.Wtd n (Sy.nx (Sy.S0 (SyP qs) n) j):=by
   intro j
   induction j with
   |zero=>
    intro m hm;left;let e:Sy.nx (Sy.S0 (SyP qs) n) 0=⟨[(n,g)],[]⟩:=by show Sy.S0 (SyP qs) n=_;unfold Sy.S0;rw[show(SyP qs).g0 n=u_ g from U]
    rw[e] at hm;exact Ab.mp hm
   |succ j ih=>exact Sy.nxt_wtd (Qs qs) (Sy.nx_clo (Qs qs) (Sy.S0_ok U) (Sy.S0_clo U) j) ih
  have:=Z j;rw[hj] at this;rcases this m (by unfold Sy.Y1;exact uN _ hm) with h1|⟨q,O,h1⟩
  .exact .inl h1
  .let O:q>don.map (·.1):=O;erw[Ae.mp O,p,hp,rfl];exact .inr [p:hp:h1]
structure MS (qs:oj (Str×D))(R:Pp):Prop where
 tr:∀s>R,jw qs s
 nd:(R.map (·.1)).Nodup
 sk:SkR R
def Pap.clsR (h:Pap qs R):MS qs R:=[h.tr:h.nd:h.sk]
def Pap.bfr (h:Pap qs R):BfR qs R:=h.bf
def MS.perm {T:Pp}(h:MS qs R)(p:T.Perm R):MS qs T:=[λs O=>h.tr s (p.mem_iff.mp O):(p.map _).nodup_iff.mpr h.nd:λs O z hz=>(p.map _).mem_iff.mpr (h.sk s (p.mem_iff.mp O) z hz)]
def MS.pp (O:Qa qs)(h:MS qs R){b:Bool}(U:b=v_↔BfR qs R):PpB qs R b:=sT O h.tr h.nd (U.trans [λx=>[x:h.sk]:Fk])
def MS.sh (U:Qa qs)(h:MS qs R){n:Str}(hn:n>R.map (·.1)):shD qs R n=Cg qs n:=by
 unfold shD;rw[A6 (by rwa[zT])]
 erw[Ae.mp hn,s,O,rfl];rw[SB h.nd O];exact(wg U (h.tr s O)).2.2
variable {g:Gp}
def S1 {n:Str}{d:D}(h:g0D n d=u_ g):yL d= .non:=by
 unfold g0D at h;split at h
 .rename_i k e
  by_cases c:k="leaf"
  .rw[A6 c] at h;cases h
  .unfold yL;exact A4 c
 .cases h
def Bd {s s':Str×oj D×D}(h:jw qs s)(h':jw qs s')(e:s.1=s'.1):s=s':=by
 erw[s,n,as,en];erw[s',n',aa,ac];let e:n=n':=e;subst e;erw[h,g,e1,e2,e3];erw[h',g',O,U,Z];let e1:g0D n (qB qs n)=u_ g:=e1;let O:g0D n (qB qs n)=u_ g':=O;rw[e1] at O;cases O;let e2:as=_:=e2;let e3:en=_:=e3;let U:aa=_:=U;let Z:ac=_:=Z;rw[e2,e3,U,Z]
def Acc (hq:Qa qs){n:Str}(h:Dn qs n don)(hg:g0D n (qB qs n)=u_ g){k:Nat}(hk:k<↑don):∃b,PpB qs ((iQ don).eraseIdx k) b/\(b=v_->shD qs ((iQ don).eraseIdx k) n= .non):=by
 let hP:=Wv hq h;let ac:k<↑(iQ don):=by unfold iQ;rwa[uc]
 let tr:∀s>(iQ don).eraseIdx k,jw qs s:=λs hs=>hP.tr s (List.mem_of_mem_eraseIdx hs);let nd:(((iQ don).eraseIdx k).map (·.1)).Nodup:=hP.nd.sublist ((List.eraseIdx_sublist _ _).map _);let ad:(iQ don).map (·.1)=don.map (·.1):=by rw[<-zT,SR]
 let ae:((iQ don).map (·.1))[k]? =u_ don[k].1:=by rw[ad,uJ,uf hk];rfl
 let U:don[k].1∉((iQ don).eraseIdx k).map (·.1):=λz=>by
  erw[Ae.mp z,s,hs,e];erw[List.mem_eraseIdx_iff_getElem?.mp hs,i,Z,hi];have:k=i:=(List.getElem?_inj (by rwa[uc]) hP.nd).mp (by rw[ae,uJ,hi];exact A9 u_ e.symm)
  exact Z this.symm
 by_cases c:don[k].1=n
 .obtain⟨b,hb⟩:∃b:Bool,b=v_↔(BfR qs ((iQ don).eraseIdx k)/\SkR ((iQ don).eraseIdx k)):=by
   by_cases cc:BfR qs ((iQ don).eraseIdx k)/\SkR ((iQ don).eraseIdx k)
   .exact[v_:λ_=>cc:λ_=>rfl]
   .exact⟨Vi,λz=>(by cases z),λz=>A8 z cc⟩
  exists b,sT hq tr nd hb,λ_=>?_;unfold shD;rw[A4 (by rwa[zT,<-c])]
  exact S1 hg
 .exists Vi,sT hq tr nd ⟨λz=>(by cases z),λhc=>?_⟩,λz=>by cases z
  exfalso;let hm:don[k].1>don.map (·.1):=Ae.mpr [_:uR hk:1];rcases SU hq h hm with h1|⟨p,hp,Z,hW⟩
  .exact c h1
  erw[Jb h (uR hk),gm,em,_];erw[Jb h hp,gp,ep,O];let O:p.2=itP qs 302 gp:=O;let aa:((p.1,Qi p.2,mV p.2):Str×oj D×D)>(iQ don).eraseIdx k:=by
   erw[TF hp,i,hi];refine List.mem_eraseIdx_iff_getElem?.mpr [i:λe=>?_:?_]
   .subst e;rw[uf hk] at hi;cases hi;exact Z rfl
   .unfold iQ;rw[uJ,hi]
    rfl
  rcases C5 hq hW ep with⟨kd,an,af,ha⟩|he
  .erw[List.append_of_mem aa,l1,l2,e];rcases hc.1 l1 _ l2 e kd _ an (by show _>Qi p.2;rwa[O]) af with h0|h0
   .let em:g0D don[k].1 (qB qs don[k].1)=u_ gm:=em;rw[h0] at em;cases em
   .exact U (by rw[e,ur];exact uX _ h0)
  .exact U (hc.2 _ aa _ (by show mV p.2=_;rw[O];exact he))
def AM {α:Type}{f:α->Str}:∀(l O:oj α),(l.map f).Nodup->ddA f O l=O++l.filter λx=>decide (f x∉O.map f)
 | [],O,_=>(uU O).symm|x::r,O,h=>by
  rw[uw,vW] at h;show(if f x>O.map f then ddA f O r else ddA f (O++ [x]) r)=_
  by_cases c:f x>O.map f
  .rw[A6 c,AM r O h.2,List.filter_cons_of_neg (by simpa using c)]
  .rw[A4 c,AM r _ h.2,List.filter_cons_of_pos (by simpa using c),vw]
   let e:r.filter (λy=>decide (f y∉(O++ [x]).map f))=r.filter λy=>decide (f y∉O.map f):=by
    refine List.filter_congr λy U=>?_;rw[ve,ur,V1];exists λz w=>z (.inl w),λz w=>?_;rcases w with w|w
    .exact z w
    .let w:f y=f x:=Ab.mp w;exact h.1 (by rw[<-w];exact Ae.mpr [y:U:1])
   rw[e]
   rfl
abbrev EB (S E:Pp):Pp:=E.filter λs=>decide (s.1∉S.map (·.1))
def Mj {S E:Pp}(O:Pap qs S)(U:Pap qs E):Pap qs (S++EB S E):=by
 have:=O.put U;rw[WP,AL S [] (by rw[U8];exact O.nd),U8,AM E S U.nd] at this
 exact this
def SA {S:Pp}(U:∀s>S,jw qs s)(hn:∀s>S,nD (stD s)=v_){s:Str×oj D×D}(Z:jw qs s):((S.map stD).any λe=>eqN e (stD s))=decide (s.1>S.map (·.1)):=by
 rw[V9,vK,TY,vj];constructor
 .rintro⟨s',O,e⟩;let e:eqN (stD s') (stD s)=true:=e;let e:=(qaB (hn s' O)).mp e;unfold stD at e;injection e with e
  injection e with e _
  injection e with e
  exact Ae.mpr [s':O:e]
 .intro h;erw[Ae.mp h,s',O,e];exists s',O;show eqN (stD s') (stD s)=v_;rw[Bd (U s' O) Z e];exact(qaB (by rw[<-Bd (U s' O) Z e];exact hn s' O)).mpr rfl
def sU (hq:Qa qs){s:Str×oj D×D}(h:jw qs s):nD (stD s)=v_/\dp (stD s)<=60:=by
 erw[h,g,O,ea,ee];have:=Ab0 (Jj hq O 302).1 (yG O);rw[wf,<-ea] at this;erw[this,U,a2,Z,a4];rw[<-ee] at Z a4;unfold stD;exists ?_,?_
 .simp![nD,nL,U3,Vd,uG];simp![nD] at U;exact[U:Z]
 .simp![dp,dpL] at a2⊢;omega
end
abbrev Aan:D->Str
 | .tup (.str z::_)=>z|_=>""
def EG {K:o0}{b A:o3}{H1:Hp}{tc:TT}{te:TE}{tl:L2.St}{Q:VK}{ds:oj D}{vs:oj V}(p:D->Bool)(f:D->D)(ha:H1 b=u_ (.lst vs))(hl:L2.IsL H1 ds vs)(hn:↑ds<=Vm)(hA:H1 A=U_)
  (Z:∀d x H (R:Bool->Hp->Prop),d>ds->ic H1 H->Is H d x->R (p d) H->tc (u_ x::tl) H R)
  (aa:∀d x H (R:VK),d>ds->p d=v_->ic H1 H->Is H d x->(∀y H',ic H H'->Is H' (f d) y->R y H')->te (u_ x::tl) H R)
  (hQ:∀H' ys,ic H1 H'->H' A=u_ (.lst ys)->L2.IsL H' ((ds.filter p).map f) ys->Q (-A) H'):Au A (Itl K b) (YB 0) tc te (U_::tl) H1 Q:=by
 let ln:=↑hl;exists ↑ds,λi σ ys H=>(∃w,σ=w::tl)/\L2.IsL H (((ds.take i).filter p).map f) ys/\ic H1 H,hn,[[U_:1]:1:qf hA _],?_,?_
 .rintro i σ ys H hi ⟨⟨w,rfl⟩,O,sm⟩ U ad;let ac:i<↑vs:=by omega
  exists (vs,vs[i],SqL.of (sm _ _ ha),uf ac);rintro x H' ⟨rfl,hx⟩;let e:=hx vs (SqL.of (sm _ _ ha));erw[hl.get (uf hi),v,e1,e2];rw[e] at e1;cases e1;let et:ds.take (i+1)=ds.take i++ [ds[i]]:=by rw[vg,uf hi];rfl
  try dsimp![YB,Gq]
  refine Z ds[i] x H' _ (uR hi) sm (e2.mono sm.tk) ?_;cases hp:p ds[i] with
  |true=>
   refine lD (aa ds[i] x H' _ (uR hi) hp sm (e2.mono sm.tk) λy H2 s2 iy=>(s2 _ _ U,⟨0⟩,?_,λc o e=>?_))
   .rw[et,UX,ur];have: [ds[i]].filter p= [ds[i]]:=by simp[hp]
    rw[this];let t:Tk H2 (upd H2 A (.lst (ys++ [y]))):=Tk.updL (s2 _ _ U);exact((O.mono s2.tk).mono t).append (L2.IsL.one (iy.mono t))
   .rw[qj (qk e hA)];exact s2 _ _ (sm _ _ e)
  |false=>
   refine iX (U,⟨0⟩,?_,sm);rw[et,UX];have: [ds[i]].filter p= []:=by simp[hp]
   rwa[this,uU]
 .rintro σ ys H ⟨_,O,sm⟩ U;rw[U2] at O;exact[[vs:SqL.of (sm _ _ ha):()]:hQ H ys sm U O]
def BA {α β:Type}{f:α->β}{es m:oj β}(h:es.Perm m):∀l:oj α,m=l.map f->∃R:oj α,R.Perm l/\es=R.map f:=by
 induction h with
 |nil=>
  intro l e;cases l with
  |nil=>exact[[]:pZ _:1]|cons _ _=>cases e
 |cons x h ih=>
  intro l e;cases l with
  |nil=>cases e|cons y l=>
   rw[uw] at e;injection e with O e2
   erw[ih l e2,R,h1,h2];exact⟨y::R,h1.cons y,by rw[uw,O,h2]⟩
 |swap x y l'=>
  intro l e
  match l,e with
  | [],e=>cases e| [_],e=>cases e|b::c::l,e=>
   rw[uw,uw] at e;injection e with O e2
   injection e2 with e2 e3
   exact⟨c::b::l,pY ..,by rw[uw,uw,<-O,<-e2,e3]⟩
 |trans h1 h2 U Z=>
  intro l e;erw[Z l e,R2,a1,a2];erw[U R2 a2,R1,b1,b2];exact[R1:b1.trans a1:b2]
def jy (l:oj Str):(l.map V.str).all zW=true:=by
 rw[UD,Ub];intro z _
 rfl
def sV {H:Hp}:∀{zs:oj Str}{vs:oj V},L2.IsL H (zs.map D.str) vs->vs=zs.map V.str
 | [],_,h=>h|z::r,_,h=>by
  erw[h,v,us,rfl,[rfl,_],h2];rw[sV h2]
  rfl
inductive Dy:Sp
 |mk (l p:Addr)(us:List V)(ds:List D)(_:vs= [-l,-p])(_:H l=u_ (.lst us))(_:L2.IsL H ds us)(_:md H p)(_:↑ds<=100)(_:∀r ws es H',H r=U_->iW p H H'->md H' p->H' r=u_ (.lst ws)->L2.IsL H' es ws->es.Perm ds->Q (-r) H')
variable {i n:Nat}
def Aa4 (h:i<n):Hi (i:Int) n=u_ i:=by
 unfold Hi;let h0:¬((i:Int)<0):=by omega
 simp![h0,if_false];simp;omega
variable {ds:oj D}
def CS {es:oj D}(hi:i<↑ds):(ds.eraseIdx i++(es++ [ds[i]])).Perm (ds++es):=by
 let h1:ds.Perm (ds[i]::ds.eraseIdx i):=by
  have:=vV i ds;rw[vS]
  conv=>lhs;rw[<-this,uV hi]
  exact List.perm_middle
 refine pI ?_ (h1.symm.append_right es);rw[<-vw];exact Uh
def IsL.erase {H:Hp}:∀{ds:oj D}{us:oj V} (i:Nat),L2.IsL H ds us->L2.IsL H (ds.eraseIdx i) (us.eraseIdx i)
 | [],_,i,h=>by
  cases(show _= [] from h)
  simp
  rfl
 |d::r,_,i,h=>by
  erw[h,v,us,rfl,h1,h2];cases i with
  |zero=>exact h2|succ i=>exact(v,0,h1,IsL.erase i h2)
def AbQ (s:Str×oj D×D):Aan (stD s)=s.1:=rfl
def AbP (R:Pp):(R.map stD).map (λd=>D.str (Aan d))=(R.map (·.1)).map D.str:=by
 rw[uP,uP]
 rfl
inductive Ly (CP:Addr):Sp
 |mk (px l:Addr)(zs:List Str)(qs:List (Str×D))(_:vs= [-px,-l])(_:H l=u_ (.lst (zs.map V.str)))(_:∀z>zs,nm z=v_)(_:QT CP H px qs)(_:Qa qs)(_:∀r us E H',H r=U_->ic H H'->H' r=u_ (.lst us)->L2.IsL H' (E.map stD) us->Pap qs E->Q (-r) H')
inductive Ln (CP:Addr):Sp
 |mk (px l:Addr)(us:List V)(R:Pp)(qs:List (Str×D))(_:vs= [-px,-l])(_:H l=u_ (.lst us))(_:L2.IsL H (R.map stD) us)(_:QT CP H px qs)(_:Qa qs)(_:∀s>R,jw qs s)(_:(R.map (·.1)).Nodup)(_:∀b H',ic H H'->(b=v_↔BfR qs R)->Q (.bl b) H')
section
variable {P:o9}{w:og}{K:o0}{mg:Str->om o6}{base:o8}{a:Ad}{g:Ga}
def LQ (T:Tx K mg a)(C:Fx K w mg g a):FnOk P w K mg base (CX1 P w) 14 a.f_shown a.d_shown ["project","paper","name"] (Lj a.qE g.bn):=by
 let Jr:=#[Np,T,C];let jO:=#[oO,T,C];let J7:=#[BE,T];let xV:=#[BG,T];let Q3:=#[Al,T];let qO:=#[Yd,T];refine T.iH.F.okX Bo () (λ_ _ _ s H vs Q E U h=>?_)
 erw[h,px,t,us,n,qs,ps,b,rfl,ht,ac,hP,hq,hB,al,k,k2];let hs:=uE;exists 3,%[#[qZ,#[qq,16,Jr,U.mono (),_,T.iD.m,T.iD.F.kp,T.iD.b,.nil,Abq,#v[pv 2],_,_,_]],#[qH,#[qp,Ju,#[qq,16,jO,U.mono (),_,T.iN.m,T.iN.F.kp,T.iN.b,.nil,qz,#v[pv 0,pv 1],_,_,_],qR,qw _],%[|#[qm,qR]],qt],#[qF,(3),Bo.nd,#[qq,16,J7,U.mono (),_,T.iS.m,T.iS.F.kp,T.iS.b,.nil,qz,#v[pv 1],_,_,_]],#[qH,#[WX,#[pc_din,QR U,pv 2,pv 3]],%[|#[qm,#[qq,16,xV,U.mono (),_,T.iY.m,T.iY.F.kp,T.iY.b,.nil,qz,#v[#[QC,6,QR U,pv 3,pv 2,(λ_ _=>rfl)]],_,_,_]]],qt]|#[qm,#[qq,16,Q3,U.mono (),_,T.io.m,T.io.F.kp,T.io.b,.nil,qz,#v[#[Qk,20,pv 0,T.Q4,T.ig.h,qO,U.mono (),T.ig.b,.nil,qz,#v[pv 2],_,_,_]],_,_,_]]]
 exists 8,N1,q1
 exists 0,n,1,al,λhn H1 s1=>q1 _ _ ?_,k2;exists 8,N2,q2
 exists 0,0,px,t,us,qs,ps,b,1,s1 _ _ ht,ac.mono s1.tk,hP.same s1,hq,hB,λv H2 s2 h1 h2=>[1:0:?_];let O:=s1.trans s2;cases b with
 |false=>
  let hv:=h2 rfl;exact lC (by simpa using hv) (k hn _ _ O rfl)
 |true=>
  cases h1 rfl;refine iO (by simp) (q2 _ _ ?_)
  exists 8,N3,q3;erw[hB,hl,ay,ad,am]
  exists 0,t,us,ps,1,O _ _ ht,ac.mono O.tk,ad,hl,λsd H3 aA s3 hS=>q3 _ _ ?_;exists 8,N4,q4;let aa:=O.trans s3;erw[id hS,vs,ae,af,ag]
  exists 0,0,sd,0,mO.k (k:=Vl n) ae,0;rw[AA af ag n];by_cases c:n>(lT ps).map (·.1)
  .refine lC (ug c) ?_;erw[Kx af ag c,l1,l2];let ao:∃kk x,qB (lT ps) n=-[!kk,x]:=by
    erw[Ae.mp c,[m,e],ah,rfl];rw[sD ad ah];erw[Ae.mp ah,s,ap,aq];erw[TF ap,i,hi];have:=(am.2.mp rfl i s hi).2;cases aq;rcases this with⟨z,e⟩|⟨x,e,_⟩|⟨z,e⟩
    .exact[_:_:e]
    .exact[_:_:e]
    .exact[_:_:e]
   erw[ao,kk,ex,Z];rw[Z] at l2
   exists 0,0,sd,0,(by rw[<-l1];exact mO.k (k:=Vl n) ae),_,kk,ex,1,l2,λu H4 s4 i4=>k hn _ _ (aa.trans s4) ?_
   rw[A6 rfl];unfold shD;rwa[A6 c,Z]
  .refine iO (uj c) (q4 _ _ ?_);let ak:=hP.same aa;erw[id ak,au,aB,op,aC,hx,_]
   exists 0,px,au,0,hx,yA,0,px,n,qs,1,ak,λsv h1 h2=>?_;erw[sW hq h1 h2,d,aw,hd,ax,_]
   exists sv,d,1,aw,hd,λu H4 s4 i4=>k hn _ _ (aa.trans s4) ?_;rw[A6 rfl];unfold shD;rw[A4 c,<-ax];exact i4
def PQ:#[T,2,a.J1,a.J4,["steps","pot"],Dy]:=by
 let qS:=#[JJ,T];exists 9,T.iZ,Yy
 erw[h,l,p,us,ds,rfl,hl,aI,hP,aL,k];let hs:=uE;exists 3,%[#[qF,(2),Yy.nd,#[qV,sJ,T.z_list,boot_list,#v[pv 0]]],#[qF,(3),Yy.nd,#[Q0,qd]],#[zd,#[qp,oG,#[qy,qJ,T.yi,uM,#v[pv 2]],qi,qw _],%[|#[qZ,#[jr,v9,vG,vH,Y5,pv 3,#v[#[jr,v9,PySem.F.slot_list_pop,PySem.F.type_list_pop,Mh,pv 2,#v[#[qq,qS,T.ii,#v[pv 1,#[qy,qJ,T.yi,uM,#v[pv 2]]]]]]]]]]]|#[qm,pv 3]]
 exists 8,N1,q1
 exists 0,l,us,1,.inl (SqL.of hl),λU af=>q1 _ _ ?_;let m1:=qf af (.lst us);let e1:upd H U (.lst us) U=u_ (.lst us):=qg;let i1:=aI.mono m1.tk;generalize upd H U (.lst us)=H1 at m1 e1 i1⊢;exists 8,N2,q2
 exists vc _,λLB ag=>q2 _ _ ?_;let m2:=qf ag (.lst ([]:oj V));let e2:upd H1 LB (.lst []) LB=u_ (.lst []):=qg;let aw:=m2 _ _ e1;let ax:U≠LB:=qk e1 ag;let ay:=i1.mono m2.tk;let ah:=m1.trans m2;let ac:H LB=none:=m1.free ag;generalize upd H1 LB (.lst [])=H2 at m2 e2 aw ay ah⊢;let aA:U≠p:=(hP.free af).symm;let aB:LB≠p:=(hP.free ac).symm;exists 8,N3,q3
 refine_lift let J_:Nat->L2.St->Hp->Prop:=λmm σ H'=>∃(O Z:oj V) (aa ad:oj D),σ= [u_ (-l),u_ (-p),u_ (-U),u_ (-LB)]/\mm=↑O/\iW p H H'/\md H' p/\H' U=u_ (.lst O)/\L2.IsL H' aa O/\H' LB=u_ (.lst Z)/\L2.IsL H' ad Z/\(aa++ad).Perm ds;?_
 exists J_,(_,us,[],ds,[],1,1,iW.of ah,hP.same ah,aw,ay,e2,1,by rw[uU])
 rintro mm σ H3 ⟨O,Z,aa,ad,rfl,rfl,K3,P3,ae,ak,al,am,hp⟩;let aJ:=hp.length_eq;rw[uL] at aJ;let l1:=↑ak;let l2:=↑am
 exists 0,U,O,1,.inl (SqL.of ae),_,0,1,0;by_cases c0:↑O=0
 .refine iO (uj ()) (q3 _ _ [0:?_])
  let ed:aa= []:=U1 ()
  rw[ed,U8] at hp;exact k LB Z ad H3 ac K3 P3 al am hp
 .refine lC (ug ()) ?_
  exists λσ' H'=>∃m',m'<↑O/\J_ m' σ' H',λ_ _ h=>h
  exists 0,.inl [1:_:SqL.of al],0,.inl [1:_:SqL.of ae],0,0,U,O,1,.inl (SqL.of ae),p,(↑O:Int),1,P3,(),(),λc H4 h0 h1 P4 K4=>?_
  obtain⟨n,rfl,hn⟩:∃n:Nat,c=(n:Int)/\n<↑O:=[c.toNat:():()]
  let aC:n<↑aa:=by omega
  let ao:=P3.tk P4 K4;let aD:=K4 _ _ ae aA;let aK:=K4 _ _ al aB;erw[(ak.mono ao).get (i:=n) (d:=aa[n]) (uf aC),y,hy,iy]
  exists U,O,_,n,y,1,1,aD,(),(),Aa4 hn,hy
  let ap:Tk H4 (upd H4 U (.lst (O.eraseIdx n))):=Tk.updL aD;let aE:upd H4 U (.lst (O.eraseIdx n)) U=u_ (.lst (O.eraseIdx n)):=qg;let aq:upd H4 U (.lst (O.eraseIdx n)) LB=u_ (.lst Z):=by rwa[qj (U6 ax)]
  let P5:md (upd H4 U (.lst (O.eraseIdx n))) p:=by
   erw[P4,x,ex,h];exact⟨x,by rwa[qj (U6 aA)],h⟩
  let K5:iW p H (upd H4 U (.lst (O.eraseIdx n))):=λb o e hb=>by
   rw[qj (qk e af)];exact(K3.trans K4) b o e hb
  let aF:=(IsL.erase n (ak.mono ao)).mono ap;let aG:=((am.mono ao).mono ap);let aH:=iy.mono ap;show DP _ _ (upd H4 U (.lst (O.eraseIdx n))) _;generalize upd H4 U (.lst (O.eraseIdx n))=H5 at aE aq P5 K5 aF aG aH⊢
  exists LB,Z,0,1,aq,()
  let au:Tk H5 (upd H5 LB (.lst (Z++ [y]))):=Tk.updL aq
  exists _,?_,O.eraseIdx n,Z++ [y],aa.eraseIdx n,ad++ [aa[n]],1,1,λb o e hb=>?_,?_,?_,aF.mono au,qg,(aG.mono au).append (L2.IsL.one (aH.mono au)),(CS aC).trans hp
  .rw[List.length_eraseIdx_of_lt hn];omega
  .rw[qj (qk e ac)];exact K5 b o e hb
  .erw[P5,x,ex,h];exact⟨x,by rwa[qj (U6 aB)],h⟩
  .rw[qj ax];exact aE
def EH {A b:o3}{H1:Hp}{te:TE}{Q:VK}{R:Pp}{us:oj V}(hb:H1 b=u_ (.lst us))(hl:L2.IsL H1 (R.map stD) us)(hn:↑R<=1000)(hA:H1 A=U_)
  (U:∀ts ws s H (O:VK),H ts=u_ (.tup (V.str s::ws))->O (!s) H->te [u_ (-ts)] H O)
  (hQ:∀H',ic H1 H'->H' A=u_ (.lst ((R.map (·.1)).map V.str))->Q (-A) H'):Au A (Itl K b) (YB 0) nH te [U_] H1 Q:=by
 refine EG (K:=K) (tl:= []) (λ_=>v_) (λd=>D.str (Aan d)) hb hl (by rw[uc];exact yC hn) hA (λ_ _ _ _ _ _ _ h=>h) (λd x H O hd _ s' ix hR=>?_) λH' ys s' e i=>?_
 .erw[Ae.mp hd,s,_,rfl];erw[ix,ts,ws,rfl,Z,w1,r1,rfl,[rfl,hw],_];exact U ts _ _ H O Z (hR _ H (ic.refl _) [1:hw])
 .rw[List.filter_eq_self.mpr (λ_ _=>rfl),AbP] at i;have:=sV i;subst this;exact hQ H' s' e
def L9:#[C,17,a.xh,a.JU,["project","names"],(Ly a.qE)]:=by
 let aD:=#[No,T,C];let Zk:=#[BD,T,C];exists 9,T.me,ym
 erw[h,px,l,zs,qs,rfl,hl,aE,hP,hq,k];let hs:=uE;exists 3,%[#[qF,(2),ym.nd,#[Q0,qd]],#[yW,#[JV,pv 1],#[qM,(3),ym.nd],%[|#[yW,#[Wl,#[qq,aD,T.nj,#v[pv 0,pv 3]]],#[qM,(4),ym.nd],%[|#[qH,#[qp,J6,pv 4,#[XY,["step"],[],Nz,#[JV,pv 2],(λ_ _ _ _ _ _=>#[qM,(0),(show Vw (["step"]:oj Str) by decide+kernel)]),(λ_ _ _ _ _ _=>#[qG,#[KA,1,K,rfl],pv 0])],#[w]],%[|#[qZ,#[jr,v9,vG,vH,Y5,pv 2,#v[#[Qd,Zm,#[qI,#v[pv 4]],#[qq,Zk,T.mG,#v[pv 0,pv 4]]]]]]],qt]]]]]|#[qm,pv 2]]
 exists 8,N1,q1
 exists vc _,λL hL=>q1 _ _ ?_;let m1:=qf hL (.lst ([]:oj V));let e1:upd H L (.lst []) L=u_ (.lst []):=qg;generalize upd H L (.lst [])=H1 at m1 e1⊢;exists 8,N2,q2
 exists 0,l,1,[_:SqL.of (m1 _ _ hl)];let p0:Pap qs []:=(λs hs=>(by cases hs),vI,λl1 s l2 e=>(by simp at e),λs hs=>by cases hs)
 refine_lift let J_:Nat->L2.St->Hp->Prop:=λi σ H'=>∃(us:oj V) (R:Pp) (u3 u4:om V),σ= [u_ (-px),u_ (-l),u_ (-L),u3,u4]/\ic H H'/\H' L=u_ (.lst us)/\L2.IsL H' (R.map stD) us/\Pap qs R;?_
 refine KW (K:=K) (a:=l) (xs:=zs.map V.str) J_ ([],[],_,0,m1,e1,1,p0) (λi σ H' _ h=>by erw[h,_,_,_,_,_,s',_];exact SqL.of (s' _ _ hl)) ?_ ?_
 .rintro i x σ H2 hx ⟨us,R,u3,u4,rfl,s2,eL,ad,hR⟩;erw[Ae.mp (uQ hx),z,hz,rfl]
  exists 0,0,px,z,qs,1,aE z hz,hP.same s2,hq,λt H3 don s3 ht hD aN aO=>?_
  exists t,1,[_:SqT.of ht];let ap:=s3 _ _ eL;let aF:=s2.trans s3;let aq:=ad.mono s3.tk;clear eL ad s3;let aG:t≠L:=λe=>by rw[e,ap] at ht;cases ht
  let hO:=Wv hq hD
  refine_lift let f:Str×oj D×D->Str:=λs=>s.1;?_
  let aH:ddA f [] R=R:=by have:=AL (f:=f) R [] (by rw[U8];exact hR.nd);rwa[U8] at this
  refine_lift let J2_:Nat->L2.St->Hp->Prop:=λi σ H'=>∃(us:oj V) (u4:om V),σ= [u_ (-px),u_ (-l),u_ (-L),u_ (!z),u4]/\ic H H'/\H' t=u_ (.tup (don.map λp=>V.str p.1))/\H' L=u_ (.lst us)/\L2.IsL H' ((ddA f R ((iQ don).take i)).map stD) us;?_
  refine Xi (K:=K) (a:=t) (xs:=don.map λp=>V.str p.1) J2_ (us,0,aF,ht,ap,aq) (λi σ H' _ h=>by erw[h,_,_,_,_,e,_];exact SqT.of e) ?_ ?_
  .rintro Z x2 σ H4 aa ⟨U,v4,rfl,s4,aI,ac,O⟩;rw[uJ] at aa;obtain⟨p,hp,rfl⟩:∃p,don[Z]? =u_ p/\x2=V.str p.1:=by
    cases hp:don[Z]? with
    |none=>rw[hp] at aa;cases aa|some p=>rw[hp] at aa;cases aa;exact[p:1:1]
   let au:=uQ hp;erw[Jb hD au,gp,eg,ah];let ah:p.2=itP qs 302 gp:=ah;let ak:(iQ don).take (Z+1)=(iQ don).take Z++ [(p.1,Qi p.2,mV p.2)]:=by
    rw[vg];unfold iQ;rw[uJ,hp]
    rfl
   let al:ddA f R ((iQ don).take (Z+1))=if p.1>(ddA f R ((iQ don).take Z)).map f then ddA f R ((iQ don).take Z) else ddA f R ((iQ don).take Z)++ [(p.1,Qi p.2,mV p.2)]:=by
    rw[ak,WP]
    rfl
   let aw:∀s>ddA f R ((iQ don).take Z),jw qs s:=λs aJ=>by
    rcases Ws _ _ _ aJ with h|h
    .exact hR.tr s h
    .exact hO.tr s (UG h)
   let ax:((ddA f R ((iQ don).take Z)).map f).Nodup:=B9 _ _ hR.nd;generalize ddA f R ((iQ don).take Z)=E at O al aw ax;let lE:=jY hq aw ax;let aP:↑U=↑E:=by rw[↑O,uc]
   let ay:=NQ hq hD (Ae.mpr [p:au:1]);let aQ:=XO ay
   exists 0,0,L,1,[_:SqL.of ac],λA0 aK=>?_;refine EH ac O () aK (λts ws s H' R' aL aM=>(0,ts,_,_,0,1,SqT.of aL,qD (j:=0) rfl,aM)) λH5 s5 eA=>?_
   exists A0,0,.inl (SqL.of eA),1,jy _,0;let aA:inV (V.str p.1) ((E.map (·.1)).map V.str)=decide (p.1>E.map f):=jM _ _;let am:=s5 _ _ ac;let ag:=O.mono s5.tk;let ao:=s4.trans s5;let aB:=s5 _ _ aI;by_cases ae:p.1>E.map f
   .refine iO (by rw[A6 rfl,aA,ug ae];rfl) (U,0,ao,aB,am,?_)
    rwa[al,A6 ae]
   .refine lC (by rw[A6 rfl,aA,uj ae];rfl) ?_
    exists 0,.inl [1:_:SqL.of am],0,sml rfl,λt6 h6=>?_;let m6:=qf h6 (-[V.str p.1]);let i6:Is (upd H5 t6 (-[V.str p.1])) (-[.str p.1]) (-t6):=Is.new (ds:= [.str p.1]) (_,0,yU (),1) h6
    generalize upd H5 t6 (-[V.str p.1])=H6 at m6 i6⊢
    exists 0,0,px,p.1,qs,gp,1,ay,(hP.same ao).same m6,hq,eg,λv H7 s7 _ _ iv=>?_;rw[BZ,wf] at iv;refine AR (xs:= [.str p.1]) (ys:= [.tup (Qi (itP qs 302 gp)),mV (itP qs 302 gp)]) (i6.mono s7.tk) iv (by show 1+2<=1000;decide) λv8 H8 s8 i8=>?_
    let af:=(m6.trans s7).trans s8;let aC:=af _ _ am
    exists L,U,0,1,aC,()
    let tk:Tk H8 (upd H8 L (.lst (U++ [v8]))):=Tk.updL aC
    exists U++ [v8],0,λb ob e=>?_,?_,qg,?_
    .rw[qj (qk e hL)];exact af _ _ (ao _ _ e)
    .rw[qj aG];exact af _ _ aB
    .rw[al,A4 ae,ur];refine((ag.mono af.tk).mono tk).append (L2.IsL.one ?_);show Is _ (stD (p.1,Qi p.2,mV p.2)) v8;rw[ah];exact i8.mono tk
  .rintro σ H4 ⟨U,v4,rfl,s4,_,ac,O⟩
   exists U,_,_,0,s4,ac,O;let ak:(iQ don).take ↑(don.map λp=>V.str p.1)=iQ don:=vi (by unfold iQ;rw[uc,uc];exact uq _)
   rw[ak];have:=hR.put hO;rwa[WP,aH] at this
 .rintro σ H2 ⟨us,R,u3,u4,rfl,s2,eL,ad,hR⟩;exact q2 _ _ [0:k L us R H2 hL s2 eL ad hR]
def LY:#[T,2,a.Z0,a.ZK,["project","steps"],(Ln a.qE)]:=by
 let qO:=#[Yd,T];exists 9,T.mJ,yc
 erw[h,px,l,us,R,qs,rfl,hl,ah,hP,hq,ak,aw,k];let hs:=uE;let lR:=jY hq ak aw;let aM:↑us=↑R:=by rw[↑ah,uc]
 exists 3,%[#[wj,2,["step"],(1),[],(2),12,yc.nd,rfl,GE rfl,Nz,rfl,#[JV,pv 1],(λ_ _ _ _ _ _=>#[qM,(0),(show Vw (["step"]:oj Str) by decide+kernel)]),(λ_ _ _ _ _ _=> @yd _),(λ_ _ _ _ _ _=>#[qG,#[KA,1,K,rfl],pv 0]),_,_,_],#[yW,#[Ys,#v[#[qy,qJ,T.yi,uM,#v[pv 1]]]],#[qM,(3),yc.nd],%[|#[yW,#[Wl,#[qG,qA,#[qG,7,Yb,pv 1,pv 3,(λ_ _=>rfl)]]],#[Kf,Qz #[qM,(4),yc.nd] (Qz #[qM,(5),yc.nd] Jz)],%[#[qF,(6),yc.nd,#[Qk,pv 0,T.Q4,T.ig,qO,#v[#[qG,qA,pv 4]]]]|@qH _ _ _ _ _ _ _ _ #[wM,#[qp,QN,#[qG,qA,pv 4],#[Q0,#v[ql,ql]],#[w]],#[wM,#[qp,Ju,pv 6,qR,qw _],#[zN,#[qp,Aj,#[qG,qA,pv 6],ql,qw _]]]].pt %[|#[qH,#[qp,J6,#[qG,qA,pv 4],#[jR,wk,pv 2,XG,#[JO,pv 3]],#[w]],%[|#[qm,Yr]],qt]] qt]]]]|#[qm,Yr]]
 exists 8,N1,q1
 exists 0,l,1,[_:SqL.of hl],λA0 aN=>?_;refine EH hl ah () aN (λts ws s H' R' al aO=>(0,ts,_,_,0,1,SqT.of al,qD (j:=0) rfl,aO)) λH1 s1 eA=>q1 _ _ ?_
 exists 8,N2,q2
 exists 0,l,us,1,.inl (SqL.of (s1 _ _ hl)),↑R,(by rw[aM]),(),()
 refine_lift let J_:Nat->L2.St->Hp->Prop:=λi σ H'=>∃(u3 u4 u5 u6:om V),σ= [u_ (-px),u_ (-l),u_ (-A0),u3,u4,u5,u6]/\ic H1 H'/\∀j s,j<i->R[j]? =u_ s->∀kd z an,D.tup [-[!kd,!z],an]>s.2.1->ml kd=Vi->g0D z (qB qs z)=U_\/z>(R.take j).map (·.1);?_
 refine JS (n:=↑R) J_ (_,_,_,0,ic.refl _,λj s hj=>A8 hj (U7 j)) ?_ ?_
 .rintro i σ H2 hi ⟨u3,u4,u5,u6,rfl,s2,hJ⟩;let e0:(0+(i:Int))=(i:Int):=by omega
  rw[e0];let am:=s1.trans s2;obtain⟨st,aa⟩:∃st,R[i]? =u_ st:=[_:uf hi];let ax:=uQ aa;let hT:=ak st ax;obtain⟨x,hx,ix⟩:=ah.get (i:=i) (d:=stD st) (by rw[uJ,aa];rfl)
  erw[ix,ts,ut,rfl,al,y1,r1,rfl,[rfl,_],y2,r2,rfl,[ta,ua,rfl,ay,aA],y3,r3,rfl,_,aP];cases(show r3= [] from aP)
  exists 0,0,l,_,_,0,1,SqL.of (am _ _ hl),qD hx,ts,_,_,0,1,SqT.of (am _ _ al),qD (j:=1) rfl,ta,1,[_:SqT.of (am _ _ ay)];let aB:↑ua=↑st.2.1:=↑aA;let aQ:((R.take i).map (·.1)).Nodup:=aw.sublist ((V4 i R).map _);let aR:∀s>R.take i,jw qs s:=λs U=>ak s (UG U)
  refine_lift let J2_:Nat->L2.St->Hp->Prop:=λj σ H'=>∃(u4 u5 u6:om V),σ= [u_ (-px),u_ (-l),u_ (-A0),u_ (.int (i:Int)),u4,u5,u6]/\ic H1 H'/\∀kd z an,D.tup [-[!kd,!z],an]>st.2.1.take j->ml kd=Vi->g0D z (qB qs z)=U_\/z>(R.take i).map (·.1);?_
  refine Xi (K:=K) (a:=ta) (xs:=ua) J2_ (_,_,0,s2,λkd z an aS=>(by cases aS)) (λj σ H' _ h=>by erw[h,_,_,_,_,s',_];exact SqT.of ((s1.trans s') _ _ ay)) ?_ ?_
  .rintro j x7 σ H3 aC ⟨v4,v5,v6,rfl,s3,ac⟩;let hj:j<↑st.2.1:=by rw[<-aB];exact(Af.mp aC).1
   erw[aA.get (i:=j) (d:=st.2.1[j]) (uf hj),a6,af,aD];rw[aC] at af;cases af;erw[Z9 hq hT aR aQ (uR hj),kd,z,an,e,a7,hc];let aE:=s1.trans s3;rw[e] at aD;erw[aD.mono aE.tk,t6,w6,rfl,aT,x8,r8,rfl,i8,x9,r9,rfl,i9,aU];cases(show r9= [] from aU)
   erw[i8,t7,w7,rfl,ao,xa,ra,rfl,[rfl,a8],xb,rb,rfl,[rfl,a5],aV];cases(show rb= [] from aV)
   exists t6,0,SqT.of aT,1,_,0,_,0,1;let ap:st.2.1.take (j+1)=st.2.1.take j++ [-[-[!kd,!z],an]]:=by rw[vg,uf hj,e];rfl
   let go:(ml kd=Vi->g0D z (qB qs z)=U_\/z>(R.take i).map (·.1))->∀ad z' aq,D.tup [-[!ad,!z'],aq]>st.2.1.take (j+1)->ml ad=Vi->g0D z' (qB qs z')=U_\/z'>(R.take i).map (·.1):=λh1 ad z' aq O aF=>by
    rw[ap] at O;rcases Ac.mp O with O|O
    .exact ac ad z' aq O aF
    .cases Ab.mp O;exact h1 aF
   show nA _ _ _ _ H3;exists 8,B1,b1;let aG:=hP.same aE;erw[id aG,aW,a9,op,bb,aX,_]
   exists 0,px,aW,0,aX,yA,0,t7,_,_,0,1,SqT.of ao,qD (j:=1) rfl,px,z,qs,1,aG,λsv h1 h2=>b1 _ _ ?_
   exists 0,t7,_,_,0,1,SqT.of ao,qD (j:=0) rfl,sml rfl,λl3 aY=>?_;let m4:=qf aY (.lst [V.str "thing",V.str "rule"])
   exists l3,0,.inl (SqL.of qg),1,1,0;let s4:=s3.trans m4;let aH:=s1.trans s4;let ag:=m4 _ _ ao;let aI:z>qs.map (·.1)->Is (upd H3 l3 (.lst [V.str "thing",V.str "rule"])) (qB qs z) sv:=λh=>(h1 h).mono m4.tk;generalize upd H3 l3 (.lst [V.str "thing",V.str "rule"])=H4 at s4 aH ag aI⊢;let aJ:inV (V.str kd) [V.str "thing",V.str "rule"]=decide (kd>(["thing","rule"]:oj Str)):=jM kd ["thing","rule"];cases Z:ml kd with
   |true=>
    let aZ:kd∉(["thing","rule"]:oj Str):=λh=>by
     simp![uF,uI,uT] at h;rcases h with rfl|rfl
     .exact A8 Z ()
     .exact A8 Z ()
    refine iO (by rw[A4 ub,aJ,uj aZ]) (iO rfl (_,_,0,s4,go λh=>?_))
    rw[Z] at h;cases h
   |false=>
    let a1:kd="thing"\/kd="rule":=by
     rcases hc with⟨hA,_⟩|⟨hW,_⟩
     .rcases hA.2 with⟨hh,_⟩|⟨_,h,_⟩
      .rw[Z] at hh;cases hh
      .exact h
     .exact hW.1
    refine lC (by rw[A4 ub,aJ,ug (by rcases a1 with rfl|rfl<;>simp)]) ?_
    exists 0,1,0;by_cases c:z>qs.map (·.1)
    .erw[Jg hq c,_,kk,e',au,_];let aK:=aI c;rw[au] at aK;erw[aK,tv,uv,rfl,a2,w1,bc,rfl,[rfl,_],w2,bd,rfl,_,bg];refine lC (by simp) ?_
     exists 0,tv,_,_,0,1,SqT.of a2,qD (j:=0) rfl,1,0;by_cases cl:kk="leaf"
     .refine iO (by rw[cl];simp) (_,_,0,s4,go λ_=> .inl ?_)
      rw[au];exact(show(if kk="leaf" then U_ else _)=_ from A6 cl)
     .refine lC (by simpa using cl) ?_
      have hg:∃g,g0D z (qB qs z)=u_ g:=by
       rw[au];by_cases cm:kk="made"
       .exact⟨_,(show(if kk="leaf" then U_ else if kk="made" then u_ _ else u_ _)=_ from(A4 cl).trans (A6 cm))⟩
       .exact⟨_,(show(if kk="leaf" then U_ else if kk="made" then u_ _ else u_ _)=_ from(A4 cl).trans (A4 cm))⟩
      exists 0,t7,_,_,0,1,SqT.of ag,qD (j:=1) rfl,0,0,0,A0,0,SqL.of (s4 _ _ eA),λq5 a3=>?_;let aL:AO ((R.map (·.1)).map V.str) U_ (u_ (i:Int))=((R.take i).map (·.1)).map V.str:=by rw[KS,<-Vf,<-Vf]
      rw[aL];let m5:=qf a3 (.lst (((R.take i).map (·.1)).map V.str))
      exists q5,0,.inl (SqL.of qg),1,jy _,0;let O:inV (V.str z) (((R.take i).map (·.1)).map V.str)=decide (z>(R.take i).map (·.1)):=jM _ _;by_cases cz:z>(R.take i).map (·.1)
      .exact iO (by rw[A6 rfl,O,ug cz];rfl) (_,_,0,s4.trans m5,go λ_=> .inr cz)
      .refine lC (by rw[A6 rfl,O,uj cz];rfl) (k Vi _ (aH.trans m5) ⟨λz=>(by cases z),λhb=>?_⟩)
       have ae:R=R.take i++st::R.drop (i+1):=by
        erw[Af.mp aa,a4,e2];rw[<-e2,<-uV a4,vV]
       rcases hb _ st _ ae kd z an (by rw[<-e];exact uR hj) Z with h0|h0
       .erw[hg,g,hg];rw[h0] at hg;cases hg
       .exact A8 h0 cz
    .cases h2 c;refine iO (by simp) (iO rfl (_,_,0,s4,go λ_=> .inl ?_))
     rw[Yi c]
     rfl
  .rintro σ H3 ⟨v4,v5,v6,rfl,s3,ac⟩
   exists _,_,_,0,s3,λj s hj U kd z an O Z=>?_;by_cases cj:j<i
   .exact hJ j s cj U kd z an O Z
   .have:j=i:=by omega
    subst this;rw[aa] at U;cases U;rw[aB,U2] at ac;exact ac kd z an O Z
 .rintro σ H2 ⟨u3,u4,u5,u6,rfl,s2,hJ⟩;refine q2 _ _ (k v_ H2 (s1.trans s2) [λ_ l1 s l2 e kd z an O Z=>?_:λ_=>rfl]);let hi:R[↑l1]? =u_ s:=by rw[e,vn (uq _),Ho];rfl
  have:=hJ ↑l1 s (Af.mp hi).1 hi kd z an O Z;let ap:R.take ↑l1=l1:=by rw[e,HS]
  rwa[ap] at this
def LM {K:o0}(h:X.K=K):OpR X (VN .Add) (DO K):=by subst h;exact Zm
def CC {K:o0}(h:X.K=K)(O:X.A.units+64<Vr):OpR X (Vs .NotIn) (DN K):=by subst h;exact D0 O
def AbL {K:o0}{b A:o3}{H1:Hp}{tg:TG}{tc:TT}{te:TE}{tl:L2.St}{Q:VK}{xs:oj V}(C:Nat->oj V->Hp->Prop)(hb:H1 b=u_ (¬xs))(hn:↑xs<=Vm)(h0:C 0 [] (upd H1 A (.lst [])))(hC:∀i ys H,C i ys H->ic H1 H)
  (aa:∀i x ys H O,xs[i]? =u_ x->C i ys H->H A=u_ (.lst ys)->tg x (O::tl) H λZ H2=>tc Z H2 λc H3=>if c=v_ then te Z H3 λy H4=>H4 A=u_ (.lst ys)/\(∃u0,Z=u0::tl)/\C (i+1) (ys++ [y]) (upd H4 A (.lst (ys++ [y]))) else H3 A=u_ (.lst ys)/\(∃u0,Z=u0::tl)/\C (i+1) ys H3)
  (hQ:∀ys H,C ↑xs ys H->H A=u_ (.lst ys)->Q (-A) H):Au A (Itt K b) tg tc te (U_::tl) H1 Q:=by
 exists ↑xs,λi σ ys H=>(∃O,σ=O::tl)/\C i ys H,hn,[[U_:1]:h0],?_,?_
 .rintro i σ ys H hi ⟨⟨O,rfl⟩,U⟩ hl hy;let sm:=hC _ _ _ U;let e0:xs[i]? =u_ xs[i]:=uf hi;exists (_,_,SqT.of (sm _ _ hb),e0);rintro x H' ⟨rfl,hx⟩;let e:=hx _ (SqT.of (sm _ _ hb));exact aa i x ys H' O e U hl
 .rintro σ ys H ⟨_,U⟩ hl;exact[[_:SqT.of (hC _ _ _ U _ _ hb):uq _]:hQ ys H U hl]
variable {m:Str}
def SJ {kk:Str}{ee:D}:g0D m (-[!kk,ee])=U_↔kk="leaf":=by
 unfold g0D;simp only;constructor
 .intro h;by_cases c:kk="leaf"
  .exact c
  .rw[A4 c] at h;split at h<;>cases h
 .intro h;rw[A6 h]
def Acj (hq:Qa qs)(m:Str):∃k r,Cg qs m= .tup (.str k::r)/\↑k<=10/\nL r=v_/\dpL r<=40/\(k="value"->∃x,r= [x]/\isT x=v_):=by
 let one:∀(k:Str) (x:D),↑k<=10->isT x=v_->∃O r,D.tup [!k,x]= .tup (.str O::r)/\↑O<=10/\nL r=v_/\dpL r<=40/\(O="value"->∃x,r= [x]/\isT x=v_):=λk x hk U=>by
  have:=Jh U;exists k,[x],1,hk,?_,?_,λ_=>[x:1:U]
  .simp![nL,X9 (yl U),Ve]
  .simp![dpL];omega
 let two:∀(k z:Str),↑k<=10->k≠"value"->∃O r,D.tup [!k,!z]= .tup (.str O::r)/\↑O<=10/\nL r=v_/\dpL r<=40/\(O="value"->∃x,r= [x]/\isT x=v_):=λk z hk U=>(k,[!z],1,hk,1,by simp[dpL,dp],λh=>A8 h U)
 unfold Cg;cases Z:g0D m (qB qs m) with
 |none=>
  try dsimp only
  by_cases c:m>qs.map (·.1)
  .erw[Jg hq c,_,k,e,hd,h1,h2];rw[hd] at Z⊢;let hl:k="leaf":=SJ.mp Z;let hm:k≠"made":=by rw[hl];decide+kernel
   let e2:yL (-[!k,e])=-[-"value",e]:=A6 hl;rw[e2];exact one _ e () (h2 hm).2
  .rw[Yi c];exact("lack",[],1,(),1,by simp[dpL],λh=>A8 h ())
 |some s=>
  try dsimp only
  let hf:=yG Z;cases he:(itP qs 302 s).en with
  |none=>rw[he] at hf;cases hf|some e=>
   rcases(Jj hq Z 302).1.en e he with⟨z,rfl⟩|⟨v,rfl,hv⟩|⟨z,rfl⟩
   .let e2:QE (flt z)=flt z:=by unfold QE flt;dsimp only;exact A4 ()
    show∃k r,QE (flt z)=_/\_;rw[e2];exact two "fault" z () ()
   .let e2:QE (-[-"said",v])=-[-"value",v]:=by unfold QE;dsimp only;exact A6 rfl
    show∃k r,QE (-[-"said",v])=_/\_;rw[e2];exact one _ v () hv
   .let e2:QE (-[-"stuck",!z])=-[-"stuck",!z]:=by unfold QE;dsimp only;exact A4 ()
    show∃k r,QE (-[-"stuck",!z])=_/\_;rw[e2];exact two "stuck" z () ()
inductive Ds (CP:Addr):Sp
 |mk (px le p:Addr)(n:Str)(ue:List V)(E:Pp)(qs:List (Str×D))(gn:Gp)(_:vs= [-px,!n,-le,-p])(_:H le=u_ (.lst ue))(_:L2.IsL H (E.map stD) ue)(_:QT CP H px qs)(_:Qa qs)(_:Pap qs E)(_:g0D n (qB qs n)=u_ gn)(_:md H p)(_:∀H',iW p H H'->md H' p->Q (.bl v_) H')
abbrev MO (qs:oj (Str×D))(n:Str)(H:Hp)(v:V):Prop:=∃l us T,v= .ref l/\H l=u_ (.lst us)/\L2.IsL H (T.map stD) us/\MS qs T/\n>T.map (·.1)
variable {H H':Hp}{v:V}
def MO.same {n:Str}(h:MO qs n H v)(s:ic H H'):MO qs n H' v:=by
 erw[h,l,us,T,e,h1,h2,h3];exact(l,us,T,e,s _ _ h1,h2.mono s.tk,h3)
def AH {n:Str}(h:Dn qs n don){g:Gp}(O:g0D n (qB qs n)=u_ g):n>don.map (·.1):=by
 rcases AI h with h0|h0
 .rw[O] at h0;cases h0
 .exact h0
def Ig {α β:Type}(f:α->β)(l:oj α)(i:Nat):(l.eraseIdx i).map f=(l.map f).eraseIdx i:=by rw[vS,vS,ur,Vf,RA]
def AbG (S E:Pp):(E.map stD).filter (λd=>decide (Aan d∉S.map (·.1)))=(EB S E).map stD:=by
 unfold EB;rw[List.filter_map]
 rfl
def IsL.rev {us:oj V}(h:L2.IsL H ds us):L2.IsL H ds.reverse us.reverse:=by
 induction ds generalizing us with
 |nil=>cases(show us= [] from h);rfl|cons d r O=>
  erw[h,v,ws,rfl,h1,h2];rw[vR,vR];exact(O h2).append (L2.IsL.one h1)
def Ek:#[C,17,a.WR,a.WQ,["project","name","every","pot"],(Ds a.qE)]:=by
 let cT:=#[No,T,C];let Zk:=#[BD,T,C];let ae:=#[L8,T,C];let JA:=#[PQ,T];let aa:=#[LY,T];let jO:=#[oO,T,C];let aM:=#[LQ,T,C];refine T.mY.F.ok QU () (λ_ _ _ s H vs Q E hr h=>?_)
 erw[h,px,le,p,n,ue,Ev,qs,gn,rfl,bP,bQ,hP,U,hE,hg,hp,k];let hs:=uE;let ah:nm n=true:=U.1.1.1 _ ((Qs qs).gn _ gn hg);let di:=XO ah;erw[Acj U n,ak,ar,ao,dj,cU,dh,_];let O:nL (.str ak::ar)=true:=by simp![nL,nD,cU,Ve,Vd]
 let ax:dpL (.str ak::ar)<=60:=by simp![dpL,dp];omega
 exists 3,%[#[qF,(4),QU.nd,#[qq,ae,T.na,#v[pv 0,pv 1]]],#[qF,2,(5),4,QU.nd,rfl,GN rfl,#[XY,["met","project"],[0],IQ (qh YY) ["project","name","every","pot","due","steps","k","more","row","good","found"],#[zH,#[qq,cT,T.nj,#v[pv 0,pv 1]]],(λ_ _ _ _ _ _=>#[qM,(0),(show Vw (["met","project"]:oj Str) by decide+kernel)]),(λ_ _ _ _ _ _=>#[Qd,LM (K:=K) rfl,#[qI,#v[pv 0]],#[qq,Zk,T.mG,#v[pv 1,pv 0]]])],_,_],#[qH,#[qp,#[WU,1,hr.units],#[qq,16,aM,hr.mono (),_,T.iH.m,T.iH.F.kp,T.iH.b,.nil,oz,#v[pv 0,#[qV,qU,T.QB,vx,#v[pv 5]],pv 1],_,_,_],pv 4,qw _],%[|#[qm,Yr]],qt],#[yW,#[Ys,#v[#[qy,qJ,T.yi,uM,#v[pv 5]]]],#[qM,(6),QU.nd],%[|#[qH,#[qp,Ju,#[qq,16,aM,hr.mono (),_,T.iH.m,T.iH.F.kp,T.iH.b,.nil,oz,#v[pv 0,#[qV,qU,T.QB,vx,#v[#[Qd,WI,#[jR,wk,pv 5,XG,#[JO,pv 6]],#[jR,wk,pv 5,#[JO,#[Qd,yV,pv 6,qi]],XG]]]],pv 1],_,_,_],qR,qw _],%[|#[qm,Yr]],qt]]],#[wj,2,["step","steps"],(1),[5],(7),12,QU.nd,rfl,GE rfl,IQ (qh YY) ["project","name","every","pot","due","steps","k","more","row","good","found"],rfl,#[JV,pv 2],(λ_ _ _ _ _ _=>#[qM,(0),(show Vw (["step","steps"]:oj Str) by decide+kernel)]),(λ_ _ _ _ _ _=>#[DS,3,#[qp,CC (K:=K) rfl (by exact hr.units),pv 0,pv 1,#[w]]]),(λ_ _ _ _ _ _=>(pv 0)),_,_,_],#[qH,#[qp,#[WU,1,hr.units],#[qq,16,aM,hr.mono (),_,T.iH.m,T.iH.F.kp,T.iH.b,.nil,oz,#v[pv 0,#[qV,qU,T.QB,vx,#v[#[Qd,WI,pv 5,pv 7]]],pv 1],_,_,_],pv 4,qw _],%[|#[qm,Yr]],qt],#[yW,#[JV,#[Q0,#v[#[qq,JA,T.iZ,#v[pv 5,pv 3]],#[Pj,7,pv 5,#[Pi,6,C6,qi],(λ_ _ _ h=>[(1):1:h]),_],#[qq,JA,T.iZ,#v[#[Qd,WI,pv 5,pv 7],pv 3]],#[Qd,WI,pv 7,pv 5]]]],#[qM,(8),QU.nd],%[#[qF,(9),QU.nd,#[qq,aa,T.mJ,#v[pv 0,pv 8]]],#[qH,#[qp,Aj,#[Qn,yH,#[qq,jO,T.iN,#v[pv 0,#[qV,qU,T.QB,vx,#v[pv 8]]]],qR],pv 9,qw _],%[|#[qm,Yr]],qt],#[qF,(10),QU.nd,#[qq,16,aM,hr.mono (),_,T.iH.m,T.iH.F.kp,T.iH.b,.nil,oz,#v[pv 0,#[qV,qU,T.QB,vx,#v[pv 8]],pv 1],_,_,_]]|@qH _ _ _ _ _ _ _ _ #[Zi,#[qp,Aj,#[Qn,Ju,pv 10,qR],pv 9,qw _],@JN _ _ _ _ #[wM,#[Qc,pv 9],#[zN,#[qp,#[WU,1,hr.units],pv 10,pv 4,qw _]]].pt].pt %[|#[qm,Yr]] qt]]|#[qm,Yr]]
 exists 8,N1,q1
 exists 0,0,px,n,qs,1,ah,hP,U,λdv H1 s1 i1 _=>q1 _ _ ?_;rw[ao] at i1;exists 8,N2,q2
 exists 0,0,px,n,qs,1,ah,hP.same s1,U,λt H2 don s2 ht hD dk dl=>?_;let hO:=Wv U hD;let cV:(iQ don).map (·.1)=don.map (·.1):=by rw[<-zT,SR]
 let bR:↑(iQ don)=↑don:=by unfold iQ;rw[uc]
 let dm:=jY U hO.tr hO.nd
 exists t,0,SqT.of ht,λbS A0 aN=>?_;let aO:=s1.trans s2;refine AbL (tl:= [u_ (-px)]) (λi ys H'=>L2.IsL H' (((iQ don).take i).map stD) ys/\ic H2 H') ht bS [1:qf aN _] (λi ys H' h=>h.2) ?_ ?_
 .rintro i x2 ys H4 w0 ay ⟨cW,s4⟩ cX;rw[uJ] at ay;obtain⟨pp,bT,rfl⟩:∃pp,don[i]? =u_ pp/\x2=V.str pp.1:=by
   cases hp:don[i]? with
   |none=>rw[hp] at ay;cases ay|some p=>rw[hp] at ay;cases ay;exact[p:1:1]
  let bU:=uQ bT;erw[Jb hD bU,gp,eg,a6];let a6:pp.2=itP qs 302 gp:=a6;let bV:=NQ U hD (Ae.mpr [pp:bU:1]);let dq:=XO bV;let aP:(iQ don).take (i+1)=(iQ don).take i++ [(pp.1,Qi pp.2,mV pp.2)]:=by
   rw[vg];unfold iQ;rw[uJ,bT]
   rfl
  let aQ:=aO.trans s4
  try dsimp![YB,nH,Gq]
  rw[A6 rfl]
  exists 0,sml rfl,λt6 h6=>?_;let m6:=qf h6 (-[V.str pp.1]);let i6:Is (upd H4 t6 (-[V.str pp.1])) (-[.str pp.1]) (-t6):=Is.new (ds:= [.str pp.1]) (_,0,yU (),1) h6
  generalize upd H4 t6 (-[V.str pp.1])=H6 at m6 i6⊢
  exists 0,0,px,pp.1,qs,gp,1,bV,(hP.same aQ).same m6,U,eg,λv H7 s7 _ _ iv=>?_;rw[BZ,wf] at iv;refine AR (xs:= [.str pp.1]) (ys:= [.tup (Qi (itP qs 302 gp)),mV (itP qs 302 gp)]) (i6.mono s7.tk) iv (by show 1+2<=1000;decide) λv8 H8 s8 i8=>?_
  let a7:=(m6.trans s7).trans s8;let bW:=a7 _ _ cX;let tk:Tk H8 (upd H8 A0 (.lst (ys++ [v8]))):=Tk.updL bW
  exists bW,⟨0⟩,?_,λb ob e=>?_
  .rw[aP,ur];refine((cW.mono a7.tk).mono tk).append (L2.IsL.one ?_);show Is _ (stD (pp.1,Qi pp.2,mV pp.2)) v8;rw[a6];exact i8.mono tk
  .rw[qj (qk e aN)];exact a7 _ _ (s4 _ _ e)
 rintro us H3 ⟨aA,a8⟩ eS;let aP:(iQ don).take ↑(don.map λp=>V.str p.1)=iQ don:=vi (by rw[uc,bR];exact uq _)
 rw[aP] at aA;refine q2 _ _ ?_;let aq:=aO.trans a8;let bX:H A0=none:=aO.free aN;let bY:A0≠p:=(hp.free bX).symm;let aX:=aq _ _ bP;let aY:=bQ.mono aq.tk;let a9:=hP.same aq;let bZ:=hp.same aq;let bb:=i1.mono (s2.trans a8).tk;let ag:n>(iQ don).map (·.1):=by rw[cV];exact AH hD hg
 let cY:↑us=↑don:=by rw[↑aA,uc,bR]
 clear s2 a8 aO aN bS ht aP i1 bP bQ hP q1 q2;exists 8,N3,q3;let aZ:=hO.clsR.pp U (b:=v_) [λ_=>hO.bfr:λ_=>rfl];let bc:=hO.clsR.sh U ag;rw[ao] at bc
 exists 0,0,A0,us,1,.inl [SqL.of eS:λta af=>?_];let ma:=qf af (¬us)
 exists 0,px,ta,us,n,qs,iQ don,v_,1,qg,aA.mono ma.tk,a9.same ma,U,aZ,(),λ_ v2 H4 s4 i2=>?_,λh=>A8 (ah.symm.trans h) ()
 rw[A6 rfl,bc] at i2;let ac:=ma.trans s4
 exists 0,_,_,i2,bb.mono ac.tk,O,O,ax,0;rw[(eqNL_iff O).mpr rfl];refine iO rfl (q3 _ _ ?_);let aQ:=aq.trans ac;let aB:=ac _ _ eS;let aC:=aA.mono ac.tk;let a1:=ac _ _ aX;let a2:=aY.mono ac.tk;let bd:=a9.same ac;let b4:=bZ.same ac;let b5:=bb.mono ac.tk;clear ma s4 ac aq eS aA aX aY a9 bZ bb af i2 q3 aZ;exists 8,N4,q4
 exists 0,A0,us,1,.inl (SqL.of aB),↑don,(by rw[cY]),(),()
 refine_lift let J4_:Nat->L2.St->Hp->Prop:=λi σ H'=>∃(u6:om V),σ= [u_ (-px),u_ (!n),u_ (-le),u_ (-p),u_ dv,u_ (-A0),u6,U_,U_,U_,U_]/\ic H4 H';?_
 refine JS (n:=↑don) J4_ [0:ic.refl _] ?_ ?_
 .rintro i σ H5 hi ⟨u6,rfl,s5⟩;let e0:(0+(i:Int))=(i:Int):=by omega
  rw[e0];erw[Acc U hD hg hi,b,hb,cZ]
  exists 0,0,0,0,A0,0,SqL.of (s5 _ _ aB),λq1 aR=>?_;rw[KS];let n1:=qf aR (.lst (us.take i));let f1:upd H5 q1 (.lst (us.take i)) q1=u_ (.lst (us.take i)):=qg;generalize upd H5 q1 (.lst (us.take i))=Ha at n1 f1⊢
  exists 0,0,_,0,1,0,A0,0,SqL.of (n1 _ _ (s5 _ _ aB)),λq2 aD=>?_;rw[show((i:Int)+1)=((i+1:Nat):Int) from rfl,zm ()]
  let n2:=qf aD (.lst (us.drop (i+1)));let f2:upd Ha q2 (.lst (us.drop (i+1))) q2=u_ (.lst (us.drop (i+1))):=qg;let b6:=n2 _ _ f1;let b7:=n1.trans n2;show Aea _ _ (upd Ha q2 (.lst (us.drop (i+1)))) _;generalize upd Ha q2 (.lst (us.drop (i+1)))=Hb at n2 f2 b6 b7⊢
  exists 5
  refine(q1,q2,_,0,1,b6,f2,by rw[vD,vY];omega,λq3 aS=>?_)
  rw[<-vS];let n3:=qf aS (.lst (us.eraseIdx i));let f3:upd Hb q3 (.lst (us.eraseIdx i)) q3=u_ (.lst (us.eraseIdx i)):=qg;let b8:=b7.trans n3;generalize upd Hb q3 (.lst (us.eraseIdx i))=Hc at n3 f3 b8⊢
  exists q3,0,.inl [SqL.of f3:λta af=>?_];let ma:=qf af (.tup (us.eraseIdx i));let bg:=(s5.trans b8).trans ma;let ie:L2.IsL (upd Hc ta (.tup (us.eraseIdx i))) (((iQ don).eraseIdx i).map stD) (us.eraseIdx i):=by rw[Ig];exact IsL.erase i (aC.mono bg.tk)
  exists 0,px,ta,us.eraseIdx i,n,qs,(iQ don).eraseIdx i,b,1,qg,ie,bd.same bg,U,hb,(),λ_ v2 H6 s6 i2=>?_,λh=>A8 (ah.symm.trans h) ()
  let hv:v2= .non:=by
   cases b with
   |false=>rwa[A4 ub] at i2|true=>rwa[A6 rfl,cZ rfl] at i2
  subst hv;exact[1:0:iO rfl [0:bg.trans s6]]
 rintro σ H5 ⟨u6,rfl,s5⟩;refine q4 _ _ ?_;let b9:=aQ.trans s5;let bh:=s5 _ _ aB;let aE:=aC.mono s5.tk;let aF:=s5 _ _ a1;let a3:=a2.mono s5.tk;let ca:=bd.same s5;let bo:=b4.same s5;let cb:=b5.mono s5.tk;clear aQ s5 aB aC a1 a2 bd b4 b5 q4;exists 8,N5,q5;let lE:=jY U hE.tr hE.nd;let cc:∀s>iQ don,nD (stD s)=true:=λs c0=>(sU U (hO.tr s c0)).1
 exists 0,le,1,[_:SqL.of aF],λA1 bp=>?_;refine EG (tl:= [u_ (-A0)]) (λd=>decide (Aan d∉(iQ don).map (·.1))) id aF a3 (by rw[uc];omega) bp (λdd y H' Rr c1 s' iy hR=>?_) (λdd y H' Rr _ _ s' iy hR=>[0:hR y H' (ic.refl _) iy]) λH6 um s6 eM iM=>?_
 .erw[Ae.mp c1,ss,cd,rfl]
  exists 0,0,stD ss,A0,(iQ don).map stD,us,iy,1,SqL.of (s' _ _ bh),aE.mono s'.tk,(sU U (hE.tr ss cd)).1,λe he=>?_,0,?_
  .erw[Ae.mp he,s0,c2,rfl];exact[⟨0⟩:sU U (hO.tr s0 c2)]
  .rw[SA hO.tr cc (hE.tr ss cd)];let e:(!(decide) (ss.1>(iQ don).map (·.1)))=decide (Aan (stD ss)∉(iQ don).map (·.1)):=by rw[AbQ,decide_not]
   rwa[<-e] at hR
 rw[Hq,AbG] at iM;refine q5 _ _ ?_;let hM:=Mj hO hE;let ce:=b9.trans s6;let bq:=s6 _ _ bh;let aG:=aE.mono s6.tk;let bt:=ca.same s6;let cf:=bo.same s6;let bu:=cb.mono s6.tk;let cg:A1≠p:=(bo.free bp).symm;let ch:↑(EB (iQ don) Ev)<=60:=uY (UB _ _) lE;let dt:↑um<=60:=by rwa[↑iM,uc]
 generalize EB (iQ don) Ev=M at hM iM ch;let aH:=hM.clsR.sh U (n:=n) (by rw[ur];exact uX _ ag)
 rw[ao] at aH;let a4:=hM.clsR.pp U (b:=v_) [λ_=>hM.bfr:λ_=>rfl];clear b9 s6 bh aE aF a3 ca bo cb bp q5 cc hE lE;exists 8,N6,q6
 exists 0,0,0,A0,A1,_,0,1,bq,eM,(),λq1 aR=>?_
 let n1:=qf aR (.lst (us++um));let f1:upd H6 q1 (.lst (us++um)) q1=u_ (.lst (us++um)):=qg;let al:L2.IsL (upd H6 q1 (.lst (us++um))) ((iQ don++M).map stD) (us++um):=by rw[ur];exact(aG.mono n1.tk).append (iM.mono n1.tk)
 generalize upd H6 q1 (.lst (us++um))=Ha at n1 f1 al⊢
 exists q1,0,.inl [SqL.of f1:λta af=>?_];let ma:=qf af (.tup (us++um));let bv:=n1.trans ma
 exists 0,px,ta,us++um,n,qs,iQ don++M,v_,1,qg,al.mono ma.tk,bt.same bv,U,a4,(),λ_ v2 H7 s7 i2=>?_,λh=>A8 (ah.symm.trans h) ()
 rw[A6 rfl,aH] at i2;let ad:=bv.trans s7
 exists 0,_,_,i2,bu.mono ad.tk,O,O,ax,0;rw[(eqNL_iff O).mpr rfl];refine iO rfl (q6 _ _ ?_);let ci:=ce.trans ad;let bw:=ad _ _ bq;let aI:=aG.mono ad.tk;let cj:=ad _ _ eM;let ck:=iM.mono ad.tk;let au:=bt.same ad;let aJ:=cf.same ad;let cm:=bu.mono ad.tk;clear n1 f1 al ma bv s7 i2 ad ce bq aG eM iM bt cf bu aR af q6 a4 aH bc;exists 8,N7,q7
 exists 5
 refine(0,0,A0,p,us,0,bw,aI,aJ,by rw[uc];omega,λr1 w1 dw H8 cn K8 P8 e8 i8 cp=>?_)
 erw[BA cp _ rfl,R1,bx,rfl];let aT:=aJ.tk P8 K8;let cq:r1≠p:=(aJ.free cn).symm;let bA:=K8 _ _ bw bY;let aK:=aI.mono aT;let cr:=K8 _ _ cj cg;let cs:=ck.mono aT;let cu:=cm.mono aT;let bB:∀{Hx Hy:Hp},QT a.qE Hx px qs->md Hx p->md Hy p->iW p Hx Hy->QT a.qE Hy px qs:=λ{Hx Hy} c3 cv c4 hK=>by
  erw[id cv,y0,ey,_];erw[c3,dx,dd,o,vs,e1,e2,e3,e4];exact(dx,dd,o,vs,hK _ _ e1 (λz=>by rw[z,ey] at e1;cases e1),hK _ _ e2 (λz=>by rw[z,ey] at e2;cases e2),e3,e4.mono (cv.tk c4 hK))
 let cw:=bB au aJ P8 K8;let cx:=(iW.of ci).trans K8;clear ci bw aI cj ck au aJ cm aT K8 cp cn
 exists 0,A0,us,1,SqL.of bA,λq2 aD=>?_;let n2:=qf aD (.lst us.reverse);let f2:upd H8 q2 (.lst us.reverse) q2=u_ (.lst us.reverse):=qg;let bC:L2.IsL (upd H8 q2 (.lst us.reverse)) ((iQ don).reverse.map stD) us.reverse:=by rw[List.map_reverse];exact(IsL.rev aK).mono n2.tk
 let cy:q2≠p:=(P8.free aD).symm;let aU:=n2 _ _ bA;let ap:=aK.mono n2.tk;let aV:=n2 _ _ cr;let aW:=cs.mono n2.tk;let e9:=n2 _ _ e8;let i9:=i8.mono n2.tk;let bD:=cu.mono n2.tk;let bE:=cw.same n2;let P9:=P8.same n2;let bF:=cx.trans (iW.of n2);generalize upd H8 q2 (.lst us.reverse)=H9 at n2 f2 bC aU ap aV aW e9 i9 bD bE P9 bF⊢;clear n2 bA aK cr cs e8 i8 cu cw P8 cx aD
 exists 0,0,A0,A1,_,0,1,aU,aV,(),λq3 aS=>[0:?_]
 let n3:=qf aS (.lst (us++um));let f3:upd H9 q3 (.lst (us++um)) q3=u_ (.lst (us++um)):=qg;let al:L2.IsL (upd H9 q3 (.lst (us++um))) ((iQ don++M).map stD) (us++um):=by rw[ur];exact(ap.mono n3.tk).append (aW.mono n3.tk)
 show Dy _ (upd H9 q3 (.lst (us++um))) _ _;generalize upd H9 q3 (.lst (us++um))=Hb at n3 f3 al⊢;let PB:=P9.same n3
 exists 5
 refine(q3,p,_,0,f3,al,PB,by rw[uc,uL];have:=jY U hM.tr hM.nd;rw[uL] at this;omega,λr4 w4 dy HC cz KC PC eC iC cA=>?_)
 erw[BA cA _ rfl,R4,bG,rfl];let cB:=PB.tk PC KC;let aw:=n3.tk.trans cB;let c5:r4≠p:=(PB.free cz).symm;let cC:=KC _ _ (n3 _ _ aU) bY;let a5:=ap.mono aw;let cD:=KC _ _ (n3 _ _ aV) cg;let cE:=aW.mono aw;let cF:=KC _ _ (n3 _ _ e9) cq;let cG:=i9.mono aw;let cH:=KC _ _ (n3 _ _ f2) cy;let cI:=bC.mono aw;let cJ:=bD.mono aw;let cK:=bB (bE.same n3) PB PC KC;let cL:=(bF.trans (iW.of n3)).trans KC;clear n3 f3 al PB cB aw aU ap aV aW e9 i9 f2 bC bD bE P9 bF aS KC cA cz c5 cq cy
 exists 0,0,A1,A0,_,0,1,cD,cC,(),λq5 cM=>?_
 let n5:=qf cM (.lst (um++us));let f5:upd HC q5 (.lst (um++us)) q5=u_ (.lst (um++us)):=qg;let bH:L2.IsL (upd HC q5 (.lst (um++us))) ((M++iQ don).map stD) (um++us):=by rw[ur];exact(cE.mono n5.tk).append (a5.mono n5.tk)
 generalize upd HC q5 (.lst (um++us))=HD at n5 f5 bH⊢
 exists sml rfl,λl4 cN=>?_;let n6:=qf cN (.lst [V.ref r1,V.ref q2,V.ref r4,V.ref q5]);let f6:upd HD l4 (.lst [V.ref r1,V.ref q2,V.ref r4,V.ref q5]) l4=u_ (.lst [V.ref r1,V.ref q2,V.ref r4,V.ref q5]):=qg;let Z:=n5.trans n6;let bI:n>(iQ don++M).map (·.1):=by rw[ur];exact uX _ ag
 let aL:∀v> [V.ref r1,V.ref q2,V.ref r4,V.ref q5],MO qs n (upd HD l4 (.lst [V.ref r1,V.ref q2,V.ref r4,V.ref q5])) v:=by
  intro v hv;simp![uF,uI,uT] at hv;rcases hv with rfl|rfl|rfl|rfl
  .exact(r1,w1,R1,1,Z _ _ cF,cG.mono Z.tk,hO.clsR.perm bx,(bx.map _).mem_iff.mpr ag)
  .exact(q2,_,0,Z _ _ cH,cI.mono Z.tk,hO.clsR.perm (Fz _),((Fz (iQ don)).map _).mem_iff.mpr ag)
  .exact(r4,w4,R4,1,Z _ _ eC,iC.mono Z.tk,hM.clsR.perm bG,(bG.map _).mem_iff.mpr bI)
  .exact(q5,_,0,n6 _ _ f5,bH.mono n6.tk,hM.clsR.perm Uh,((Uh (l₁:=M) (l₂:=iQ don)).map _).mem_iff.mpr bI)
 let cO:=cK.same Z;let cP:=cJ.mono Z.tk;let PE:=PC.same Z;let cQ:=cL.trans (iW.of Z);generalize upd HD l4 (.lst [V.ref r1,V.ref q2,V.ref r4,V.ref q5])=HE at f6 aL cO cP PE cQ⊢;clear n5 n6 Z f5 bH cC a5 cD cE cF cG cH cI cJ cK cL PC eC iC cM cN bx bG bI bB
 exists l4,1,[_:SqL.of f6]
 refine_lift let J7_:Nat->L2.St->Hp->Prop:=λi σ H'=>∃(u8 u9 bJ:om V),σ= [u_ (-px),u_ (!n),u_ (-le),u_ (-p),u_ dv,u_ (-A0),u6,u_ (-A1),u8,u9,bJ]/\ic HE H';?_
 refine KW (K:=K) (a:=l4) (xs:= [V.ref r1,V.ref q2,V.ref r4,V.ref q5]) J7_ (_,_,0,ic.refl _) (λi σ H' _ h=>by erw[h,_,_,_,_,s'];exact SqL.of (s' _ _ f6)) ?_ ?_
 .rintro i y7 σ H7 c6 ⟨u8,u9,bJ,rfl,s7⟩;erw[(aL y7 (uQ c6)).same s7,l7,am,T7,rfl,bK,bL,hC,c7];show nA _ _ _ _ H7;exists 8,B1,b1;let au:=cO.same s7
  exists 0,0,px,l7,am,T7,qs,1,bK,bL,au,U,hC.tr,hC.nd,λb H8 s8 hb=>b1 _ _ ?_;let cR:=hC.pp U hb;exists 8,B2,b2
  exists 0,0,l7,am,1,.inl [SqL.of (s8 _ _ bK):λta af=>?_];let ma:=qf af (¬am);let bM:=s8.trans ma
  exists px,ta,am,qs,T7,b,1,qg,bL.mono bM.tk,au.same bM,U,cR,λv1 H9 s9 c8 c9=>(1,0,1,0,?_);let ev:decide (v1= .non)=b:=by
   cases b with
   |true=>exact ug (c8 rfl)|false=>exact uj (c9 rfl)
  refine iO ?_ (b2 _ _ ?_)
  .show(!(decide) (V.bl (decide (v1=V.non))=V.bl b))=Vi;rw[ev,ug rfl]
   rfl
  let cS:=bM.trans s9;exists 8,B3,b3
  exists 0,0,l7,am,1,.inl [SqL.of (cS _ _ bK):λtb da=>?_];let mb:=qf da (¬am);let bN:=cS.trans mb
  exists 0,px,tb,am,n,qs,T7,b,1,qg,bL.mono bN.tk,au.same bN,U,cR,(),λ_ v2 HF sF i2=>b3 _ _ ?_,λh=>A8 (ah.symm.trans h) ()
  let de:=bN.trans sF;let bO:=s7.trans de
  exists 0,1,0,1,0;cases b with
  |false=>
   rw[A4 ub] at i2;cases(show v2= .non from i2)
   exact iO rfl [0:0:iO rfl (iO rfl (_,_,0,bO))]
  |true=>
   rw[A6 rfl,hC.sh U c7,ao] at i2;erw[id i2,tz,uz,rfl,dz,hz];refine iO ?_ [0:0:lC rfl ?_]
   .show(!(decide) (V.bl (!(decide) (V.ref tz=V.non))=V.bl v_))=Vi;rw[uj (show¬V.ref tz=V.non from λz=>by cases z)]
    rfl
   .exists 0,0,_,_,i2,cP.mono bO.tk,O,O,ax,0;rw[(eqNL_iff O).mpr rfl];exact iO rfl (_,_,0,bO)
 .rintro σ HF ⟨u8,u9,bJ,rfl,sF⟩;exact q7 _ _ (k HF (cQ.trans (iW.of sF)) (PE.same sF))
abbrev Aeh:D->D
 | .tup (k::_)=>k|d=>d
def SK (ps:oj (Str×D)):(ps.map prD).map Aeh=(ps.map (·.1)).map D.str:=by
 rw[uP,uP]
 rfl
def AbN {K:o0}{a A:o3}{H1:Hp}{te:TE}{tl:L2.St}{Q:VK}{ps:oj (Str×D)}{us:oj V}(ha:H1 a=u_ (.lst us))(hl:L2.IsL H1 (ps.map prD) us)(hn:↑ps<=60)(hA:H1 A=U_)
  (O:∀p x H (R:VK),p>ps->ic H1 H->Is H (prD p) x->(∀y H',ic H H'->Is H' (.str p.1) y->R y H')->te (u_ x::tl) H R)
  (hQ:∀H',ic H1 H'->H' A=u_ (.lst ((ps.map (·.1)).map V.str))->Q (-A) H'):Au A (Itl K a) (YB 0) nH te (U_::tl) H1 Q:=by
 let hs:=uE;refine Su (ds:=ps.map prD) Aeh ha hl (by rw[uc];omega) hA (λd x H R hd s hx r=>?_) λH' ys s U Z=>hQ H' s ?_
 .erw[Ae.mp hd,p,hp,rfl];exact O p x H R hp s hx r
 .rw[SK] at Z;rw[<-sV Z];exact U
inductive M9 (K:PySem.W.Frag):Sp
 |mk (q:Addr)(ns:List Int)(_:vs= [-q])(_:SqL K H q (ns.map V.int))(_:↑ns<=63)(_:∀H',Q (.bl v_) H')
def Aby:#[C,18,a.f_law,a.d_law,["script"],(M9 K)]:=by
 let aB:=#[LV,T];let ka:=#[PL,T];let WH:=#[Ei,T];let qS:=#[JJ,T];let WO:=#[L9,T,C];let O:=#[Ek,T,C];refine T.BV.F.ok Zv () (λ_ _ _ s H vs Q E hr h=>?_)
 erw[h,q,ns,rfl,U,aO,k];let hs:=uE;exists 3,%[#[qF,(1),Zv.nd,#[qq,aB,T.my,#v[pv 0]]],#[qF,(2),Zv.nd,#[zK,T.M_Project,ka,T.m_Project,T.mn,qz,#v[#[qV,qU,T.QB,vx,#v[pv 1]]]]],#[wj,2,["pair"],(1),[],(3),12,Zv.nd,rfl,GE rfl,Nz,rfl,#[JV,pv 1],(λ_ _ _ _ _ _=>#[qM,(0),(show Vw (["pair"]:oj Str) by decide+kernel)]),(λ_ _ _ _ _ _=> @yd _),(λ_ _ _ _ _ _=>#[qG,#[KA,1,K,rfl],pv 0]),_,_,_],#[qF,(4),Zv.nd,#[qq,WO,T.me,#v[pv 2,pv 3]]],#[qF,(5),Zv.nd,#[qq,WH,T.mR,#v[#[Qd,yV,#[qy,#[sG,1,rfl],T.z_sum,boot_sum,#v[pv 0]],qi],qi]]],#[yW,#[Ys,#v[#[qy,#[sI,1,rfl],T.z_min,boot_min,#v[qi,#[qy,qJ,T.yi,uM,#v[pv 4]]]]]],#[qM,(6),Zv.nd],%[#[qF,(7),Zv.nd,#[qG,qA,#[qG,7,Yb,pv 4,#[qG,7,Yb,#[Q0,#v[#[Qd,DZ,#[qy,qJ,T.yi,uM,#v[pv 4]],qi],#[qq,qS,T.ii,#v[pv 5,#[qy,qJ,T.yi,uM,#v[pv 4]]]]]],#[qV,IF,T.z_int,boot_int,#v[#[Qn,oG,pv 6,qi]]],(λ_ _=>rfl)],(λ_ _=>rfl)]]]|#[qH,#[Qp,#[Qc,#[qq,O,T.mY,#v[pv 2,pv 7,pv 4,pv 5]]]],%[|#[qm,Yr]],qt]]]|#[qm,Yr]]
 exists 8,N2,q2
 exists 0,q,ns,1,U,λL ps us H1 aP s1 hL af hok aQ=>q2 _ _ ?_;let U:=Cp U s1;exists 8,N3,q3
 exists 0,L,us,1,.inl [SqL.of hL:λt ht=>?_];let m1:=qf ht (¬us);intro x dx nx ao aC;let m2:ic (upd H1 t (¬us)) (upd (upd (upd H1 t (¬us)) dx (.own x)) x (.ins a.qE dx [])):=λb ob e=>by
  rwa[qj (qk e nx),qj (qk e ao)]
 let ag:=m1.trans m2
 exists x,dx,t,ps,us,1,qg,m2 _ _ qg,af.mono ag.tk,hok,(),λqs H2 keep hP hT aD=>[1:q3 _ _ ?_]
 let s2:ic H1 H2:=λb ob e=>keep b ob (ag _ _ e) (qk (m1 _ _ e) nx);let ah:=s2 _ _ hL;let ac:=af.mono s2.tk;let U:=Cp U s2;clear keep m1 m2 ag nx ao aC s2 hL af ht;exists 8,N4,q4
 exists 0,L,1,[_:SqL.of ah],λA0 ap=>?_;refine AbN (tl:= []) ah ac () ap (λp y H' R hp s' hy hR=>?_) λH3 s3 aq=>?_
 .erw[hy,tp,up,rfl,aE,w1,r1,rfl,[rfl,hz],_];exact(0,tp,_,_,0,1,SqT.of aE,qD (j:=0) rfl,hR _ _ (ic.refl _) [1:hz])
 refine q4 _ _ ?_;let ak:=hP.same s3;let U:=Cp U s3;clear hP s3 ap ah ac q4;exists 8,N5,q5
 exists 0,0,x,A0,ps.map (·.1),qs,1,aq,λz hz=>hok.1.1 z hz,ak,hT,λle ue Ev H4 aN s4 al am hE=>q5 _ _ ?_;let au:=ak.same s4;let U:=Cp U s4;let aR:=jY hT hE.tr hE.nd;let aS:↑ue=↑Ev:=by rw[↑am,uc]
 clear ak s4 aq q5;exists 8,N6,q6
 exists 0,q,ns,1,U,_,0,1,ns.sum+5,(70),1,(),(),λp H5 hp s5 P5=>q6 _ _ ?_
 let aw:le≠p:=(qk al hp);let ad:=s5 _ _ al;let ae:=am.mono s5.tk;let aF:=au.same s5;clear au al am s5 hp q6 U;exists 8,N7,q7;obtain⟨m,hm,aG⟩:∃m:Nat,(if(↑ue:Int)<3 then(↑ue:Int) else 3)=(m:Int)/\(0<m->0<↑ue):=by
  by_cases c:(↑ue:Int)<3
  .exact[↑ue:A6 c:id]
  .exact⟨(3),A4 c,λ_=>by omega⟩
 let aT:m<=3:=by
  by_cases c:(↑ue:Int)<3
  .rw[A6 c] at hm;omega
  .rw[A4 c] at hm;omega
 exists 0,le,ue,1,.inl (SqL.of ad),(3),0;rw[hm]
 exists m,1,(),()
 refine_lift let J_:Nat->L2.St->Hp->Prop:=λi σ H'=>∃(u6 u7:om V),σ= [u_ (-q),u_ (-L),u_ (-x),u_ (-A0),u_ (-le),u_ (-p),u6,u7]/\iW p H5 H'/\md H' p;?_
 let aH:∀{Hx Hy:Hp},QT a.qE Hx x qs->md Hx p->md Hy p->iW p Hx Hy->QT a.qE Hy x qs:=λ{Hx Hy} aI ax aJ hK=>by
  erw[id ax,y0,ey,_];erw[aI,dx,dd,o,vs,e1,e2,e3,e4];exact(dx,dd,o,vs,hK _ _ e1 (λz=>by rw[z,ey] at e1;cases e1),hK _ _ e2 (λz=>by rw[z,ey] at e2;cases e2),e3,e4.mono (ax.tk aJ hK))
 refine JS (n:=m) J_ (_,0,iW.of (ic.refl _),P5) ?_ ?_
 .rintro i σ H6 hi ⟨u6,u7,rfl,K6,P6⟩;let e0:(0+(i:Int))=(i:Int):=by omega
  rw[e0];let h0:=aG ()
  let Z:=K6 _ _ ad aw;show nA _ _ _ _ H6;exists 8,B1,b1
  exists 0,0,le,ue,1,.inl (SqL.of Z),_,0,1,0,0,le,ue,1,.inl (SqL.of Z),p,(↑ue:Int),1,P6,(),(),λc H7 c0 c1 P7 K7=>[sml rfl:λl hl=>?_]
  let n7:=qf hl (.lst [V.int ((↑ue:Int)-1),V.int c]);let f7:upd H7 l (.lst [V.int ((↑ue:Int)-1),V.int c]) l=u_ (.lst [V.int ((↑ue:Int)-1),V.int c]):=qg;let aa:=n7 _ _ (K7 _ _ Z aw);let P8:=P7.same n7;let K8:=(K6.trans K7).trans (iW.of n7);generalize upd H7 l (.lst [V.int ((↑ue:Int)-1),V.int c])=H8 at n7 f7 aa P8 K8⊢;obtain⟨j,hj,aK⟩:∃j:Nat,j<↑ue/\atI [V.int ((↑ue:Int)-1),V.int c] (if decide (GT.gt (i:Int) 0) then 1 else 0)=u_ (.int (j:Int)):=by
   by_cases ci:GT.gt (i:Int) 0
   .exists c.toNat,()
    rw[ug ci];show u_ (V.int c)=_;rw[show((c.toNat:Nat):Int)=c by omega]
   .exists ↑ue-1,()
    rw[uj ci];show u_ (V.int ((↑ue:Int)-1))=_;rw[show((↑ue-1:Nat):Int)=(↑ue:Int)-1 by omega]
  let ay:j<↑Ev:=by omega
  let aA:=P5.tk P8 K8;obtain⟨y,hy,iy⟩:=(ae.mono aA).get (i:=j) (d:=stD Ev[j]) (by rw[uJ,uf ay];rfl)
  erw[iy,ts,ut,rfl,aL,y1,r1,rfl,[rfl,_],_]
  exists 0,_,0,1,.inr (0,l,_,_,0,1,SqL.of f7,aK,le,_,_,0,1,SqL.of aa,qD hy,ts,_,_,0,1,SqT.of aL,qD (j:=0) rfl,b1 _ _ ?_);erw[hE.tr _ (uR ay),gn,aM,_]
  exists 5
  refine(0,0,0,0,x,le,p,Ev[j].1,ue,Ev,qs,gn,1,aa,ae.mono aA,aH aF P5 P8 K8,hT,hE,aM,P8,λH9 K9 P9=>[0:iX (_,0,K8.trans K9,P9)])
 .rintro σ H6 ⟨u6,u7,rfl,K6,P6⟩;exact q7 _ _ (k H6)
end
end K44
namespace K44
open PySem L2 PyProof.Rows
def AcS {K:o0}{h:o8}{mg:Str->om o6}(X:K.In h)(G:h.Ns VF mg){U Z O aa f1 f2 f3 f4 f5 f6 f7 f8 f9 aU aV aW aX aY aZ a1 a2 a3 a4 a5 a6 a7 a8 a9 bb bc bd bg bh bo bp bq bt bu bv bw bx bA bB bC bD bE bF bG bH bI bJ bK bL bM bN bO bP bQ bR bS bT bU bV bW bX bY bZ b3 b4 b5 b6 b7 b8 b9 ca cb cc cd ce cf cg ch ci cj ck cm cn cp cq cr cs cu cv:o3}{t1 t2 t3 t4 t5 t6 t7 t8 t9 cw cx:Tok}
  (aK:#[K,"Machine"]=u_ (u_ (-U))) (aL:Cls K U) (aB:PySem.W.makesIn K U=v_/\PySem.W.keepIn K (-U)=v_)
  (aO:#[K,"Going"]=u_ (u_ (-Z))) (aP:Cls K Z) (aJ:PySem.W.makesIn K Z=v_/\PySem.W.keepIn K (-Z)=v_)
  (aD:#[K,"PlainOrder"]=u_ (u_ (-O))) (aE:Cls K O) (af:PySem.W.makesIn K O=v_/\PySem.W.keepIn K (-O)=v_)
  (aM:#[K,"Project"]=u_ (u_ (-aa))) (aN:Cls K aa) (aC:PySem.W.makesIn K aa=v_/\PySem.W.keepIn K (-aa)=v_)
  (h1:FZg K "is_text" w8 f1)
  (h2:FZg K "is_tree" zC f2)
  (h3:FZg K "is_name" wu f3)
  (h4:FZg K "is_pair" wx f4)
  (h5:FZg K "is_row_of_names" Yc f5)
  (h6:FZg K "is_answer" XH f6)
  (h7:FZg K "part_of" wQ f7)
  (h8:FZg K "pieces_of" Xr f8)
  (h9:FZg K "row_of" wc f9)
  (h10:FZg K "read_lines" JC aU)
  (h11:FZg K "rule_rows" XI aV)
  (h12:FZg K "bad_line" zS aW)
  (h13:FZg K "is_rule" wD aX)
  (cy:FZg K "text_made" Xl aY)
  (cz:FZg K "self_made" Xk aZ)
  (cA:FZg K "copy_made" Xs a1)
  (cB:FZg K "row_made" zD a2)
  (cC:FZg K "put_made" Zq a3)
  (cD:FZg K "join_made" XC a4)
  (cE:FZg K "first_made" JF a5)
  (cF:FZg K "rest_made" Xz a6)
  (cG:FZg K "size_made" XE a7)
  (cH:FZg K "cut_made" zG a8)
  (cI:FZg K "glue_made" Xy a9)
  (cJ:FZg K "is_jump_taken" YL bb)
  (cK:FZg K "asked_or_fault" Yw bc)
  (aQ:FZm K U "__init__" "Machine.__init__" jo bd)
  (cL:FZm K U "now" "Machine.now" jL bg)
  (cM:FZm K U "answer" "Machine.answer" YC bh)
  (cN:FZm K U "asked" "Machine.asked" YV bo)
  (cO:FZm K U "go_on" "Machine.go_on" Y6 bp)
  (cP:FZm K U "is_waiting" "Machine.is_waiting" ye bq)
  (cQ:FZm K U "do_row" "Machine.do_row" Yz bt)
  (cR:FZm K U "hold" "Machine.hold" jm bu)
  (cS:FZg K "asks_that_stand" y6 bv)
  (cT:FZg K "does" DG bw)
  (aR:FZm K Z "__init__" "Going.__init__" xg bx)
  (cU:FZm K Z "begin" "Going.begin" jU bA)
  (cV:FZm K Z "look" "Going.look" xf bB)
  (cW:FZm K Z "wanted" "Going.wanted" jp bC)
  (cX:FZm K Z "take" "Going.take" JI bD)
  (cY:FZm K Z "full" "Going.full" JY bE)
  (aS:FZm K O "__init__" "PlainOrder.__init__" Ye bF)
  (cZ:FZm K O "begin_anew" "PlainOrder.begin_anew" QX bG)
  (c0:FZm K O "go_through" "PlainOrder.go_through" QZ bH)
  (c1:FZm K O "enter" "PlainOrder.enter" yO bI)
  (c2:FZm K O "settle" "PlainOrder.settle" yx bJ)
  (c3:FZm K O "runner" "PlainOrder.runner" yq bK)
  (c4:FZm K O "leave" "PlainOrder.leave" yP bL)
  (c5:FZm K O "go_on" "PlainOrder.go_on" yM bM)
  (c6:FZm K O "answer_yet" "PlainOrder.answer_yet" QV bN)
  (c7:FZg K "answer_at_once" Yv bO)
  (c8:FZg K "has_run" Wa bP)
  (c9:FZg K "answer_by" Xw bQ)
  (da:FZg K "check_name" JK bR)
  (de:FZg K "check_names" jP bS)
  (dh:FZg K "order_from" Jq bT)
  (di:FZg K "order_over" J2 bU)
  (dj:FZg K "answer_of" XA bV)
  (dk:FZg K "full_run" Zb bW)
  (dl:FZg K "met_by" KN bX)
  (dm:FZg K "first_wrong" jW bY)
  (dq:FZg K "first_ends" JP bZ)
  (dt:FZg K "wrong_word" Y9 b3)
  (dv:FZg K "is_right_answer" Ya b4)
  (dw:FZg K "is_full_run" jG b5)
  (dy:FZg K "is_run_of" Xn b6)
  (dz:FZg K "shown" sZ b7)
  (dA:FZg K "is_source" xY b8)
  (aT:FZm K aa "__init__" "Project.__init__" Yl b9)
  (dB:FZm K aa "sources" "Project.sources" js ca)
  (dC:FZm K aa "source_of" "Project.source_of" yr cb)
  (dD:FZm K aa "looked_up" "Project.looked_up" QY cc)
  (dE:FZg K "longest_row" jV cd)
  (dF:FZg K "_law_cell_at" jI ce)
  (dG:FZg K "_law_pot" WT cf)
  (dH:FZg K "_law_take" zV cg)
  (dI:FZg K "_law_word" Za ch)
  (dJ:FZg K "_law_line" xj ci)
  (dL:FZg K "_law_rule" xm cj)
  (dM:FZg K "_law_maker" Xh ck)
  (dN:FZg K "_law_leaf" xr cm)
  (dO:FZg K "_law_source" J3 cn)
  (dP:FZg K "_law_sources" j9 cp)
  (dQ:FZg K "_law_all_steps" Y7 cq)
  (dR:FZg K "_law_in_row" JX cr)
  (dS:FZg K "_law_drawn_row" YU cs)
  (dU:FZg K "_law_right" YY cu)
  (dV:FZg K "law" OU cv)
  (ax:#[K,U,"rows"])
  (ay:#[K,U,"rule"])
  (aF:#[K,U,"own"])
  (ao:#[K,U,"boxes"])
  (ap:#[K,U,"place"])
  (aA:#[K,U,"done"])
  (aq:#[K,U,"given"])
  (au:#[K,U,"there"])
  (aH:#[K,Z,"name"])
  (aG:#[K,Z,"order"])
  (aw:#[K,Z,"made_by"])
  (ak:#[K,Z,"rule_asks"])
  (am:#[K,Z,"rule_run"])
  (aI:#[K,Z,"end"])
  (ac:#[K,O,"given_project"])
  (ag:#[K,O,"stack"])
  (ad:#[K,O,"under_way"])
  (ae:#[K,O,"full_runs"])
  (ah:#[K,O,"found"])
  (al:#[K,aa,"by_name"])
  (g1:#[K,"MOST_SIGNS"]=u_ (u_ (.int 300 t1)))
  (g2:#[K,"MOST_PARTS"]=u_ (u_ (.int 40 t2)))
  (g3:#[K,"MOST_SIZE"]=u_ (u_ (.int 600 t3)))
  (g4:#[K,"MOST_DEPTH"]=u_ (u_ (.int 12 t4)))
  (g5:#[K,"MOST_NAME_SIGNS"]=u_ (u_ (.int 24 t5)))
  (g6:#[K,"LETTERS"]=u_ (u_ (.str "abcdefghijklmnopqrstuvwxyz" t6)))
  (g7:#[K,"NAME_SIGNS"]=u_ (u_ (.str "abcdefghijklmnopqrstuvwxyz0123456789./" t7)))
  (g8:#[K,"PERCENT"]=u_ (u_ (.int 37 t8)))
  (g9:#[K,"MOST_LINES"]=u_ (u_ (.int 40 t9)))
  (dW:#[K,"MOST_DONE"]=u_ (u_ (.int 300 cw)))
  (dX:#[K,"MOST_NAMES"]=u_ (u_ (.int 60 cx)))
  (zz:∀x>(["ord","len","isinstance","str","tuple","all","int","range","zip","dict","enumerate","sorted","abs","min","sum","list"]:oj Str),PySem.W.nsIn K VF x=u_ U_):∃a,Tx K mg a:=by
 exists 6,d1,F1,Qb,h1,["value"];exists 6,d2,F2,Qb,h2,["value"];exists 6,d3,F3,Qb,h3,["value"];exists 6,d4,F4,Qb,h4,["value"];exists 6,d5,F5,Qb,h5,["tree"];exists 6,d6,F6,Qb,h6,["ask","answer"];exists 6,d7,F7,Qb,h7,["kind","piece","count"];exists 6,d8,F8,Qb,h8,["line","form"];exists 6,d9,F9,Qb,h9,["line","count"];exists 6,dY,dZ,Qb,h10,["value"];exists 6,d0,ea,Qb,h11,["tree"];exists 6,eb,ec,Qb,h12,["tree"];exists 6,ef,eg,Qb,h13,["value"];exists 6,eh,ei,Qb,cy,["boxes","own","parts"];exists 6,ej,ek,Qb,cz,["boxes","own","parts"];exists 6,el,em,Qb,cA,["boxes","own","parts"];exists 6,eo,eq,Qb,cB,["boxes","own","parts"];exists 6,er,et,Qb,cC,["boxes","own","parts"];exists 6,eu,ey,Qb,cD,["boxes","own","parts"];exists 6,ez,eA,Qb,cE,["boxes","own","parts"];exists 6,eB,eC,Qb,cF,["boxes","own","parts"];exists 6,eD,eE,Qb,cG,["boxes","own","parts"];exists 6,eF,eG,Qb,cH,["boxes","own","parts"];exists 6,eH,eI,Qb,cI,["boxes","own","parts"];exists 6,eJ,eK,Qb,cJ,["boxes","word","parts"];exists 6,eL,eM,Qb,cK,["word","held"];obtain⟨eN,eO⟩:=yX aQ ["self","rule","own"] (by rfl');obtain⟨eP,eQ⟩:=yX cL ["self"] (by rfl');obtain⟨eR,eS⟩:=yX cM ["self","tree"] (by rfl');obtain⟨eT,eU⟩:=yX cN ["self"] (by rfl');obtain⟨eV,eW⟩:=yX cO ["self"] (by rfl');obtain⟨eX,eY⟩:=yX cP ["self"] (by rfl');obtain⟨eZ,e0⟩:=yX cQ ["self","row"] (by rfl');obtain⟨e1,e2⟩:=yX cR ["self","box","tree"] (by rfl');exists 6,e3,e4,Qb,cS,["machine","asks"];exists 6,e5,e6,Qb,cT,["rule","own","run"];obtain⟨e7,e8⟩:=yX aR ["self","name","source","order"] (by rfl');obtain⟨e9,fa⟩:=yX cU ["self","rule"] (by rfl');obtain⟨fb,fc⟩:=yX cV ["self"] (by rfl');obtain⟨fe,ff⟩:=yX cW ["self"] (by rfl');obtain⟨fg,fh⟩:=yX cX ["self","answer"] (by rfl');obtain⟨fi,fj⟩:=yX cY ["self"] (by rfl');obtain⟨fm,fo⟩:=yX aS ["self","project"] (by rfl');obtain⟨fq,ft⟩:=yX cZ ["self","project"] (by rfl');obtain⟨fu,fv⟩:=yX c0 ["self","name"] (by rfl');obtain⟨fw,fx⟩:=yX c1 ["self","name"] (by rfl');obtain⟨fy,fz⟩:=yX c2 ["self","going"] (by rfl');obtain⟨fA,fB⟩:=yX c3 ["self","rule","own"] (by rfl');obtain⟨fC,fD⟩:=yX c4 ["self","going"] (by rfl');obtain⟨fE,fF⟩:=yX c5 ["self","going"] (by rfl');obtain⟨fG,fH⟩:=yX c6 ["self","name"] (by rfl');exists 6,fI,fJ,Qb,c7,["source"];exists 6,fK,fL,Qb,c8,["source"];exists 6,fM,fN,Qb,c9,["end"];exists 6,fO,fP,Qb,da,["name"];exists 6,fQ,fR,Qb,de,["names"];exists 6,fS,fT,Qb,dh,["project","name"];exists 6,fU,fV,Qb,di,["project","names"];exists 6,fW,fX,Qb,dj,["project","name"];exists 6,fY,fZ,Qb,dk,["project","name"];exists 6,f0,gb,Qb,dl,["project","name"];exists 6,gc,ge,Qb,dm,["project","paper"];exists 6,gf,gg,Qb,dq,["paper"];exists 6,gh,gj,Qb,dt,["project","ends","earlier","step"];exists 6,gk,gl,Qb,dv,["project","earlier","ask","answer"];exists 6,gm,gq,Qb,dw,["source","name","asks","end"];exists 6,gr,gu,Qb,dy,["rule","own","asks","end"];exists 6,gv,gw,Qb,dz,["project","paper","name"];exists 6,gx,gy,Qb,dA,["value"];obtain⟨gz,gA⟩:=yX aT ["self","sources"] (by rfl');obtain⟨gB,gC⟩:=yX dB ["self"] (by rfl');obtain⟨gD,gE⟩:=yX dC ["self","name"] (by rfl');obtain⟨gF,gG⟩:=yX dD ["self","ask"] (by rfl');exists 6,gH,gI,Qb,dE,["names"];exists 6,gJ,gK,Qb,dF,["script","k"];exists 6,gL,gM,Qb,dG,["cell","salt"];exists 6,gN,gO,Qb,dH,["pot","many"];exists 6,gP,gQ,Qb,dI,["pot","names"];exists 6,gR,gS,Qb,dJ,["pot","names","many","k"];exists 6,gT,gU,Qb,dL,["pot","names"];exists 6,gW,gX,Qb,dM,["pot","names"];exists 6,gY,gZ,Qb,dN,["pot","names"];exists 6,hb,hc,Qb,dO,["pot","names"];exists 6,he,hf,Qb,dP,["script"];exists 6,hg,hh,Qb,dQ,["project","names"];exists 6,hj,hk,Qb,dR,["project","steps"];exists 6,hl,ho,Qb,dS,["steps","pot"];exists 6,hp,hq,Qb,dU,["project","name","every","pot"];exists 6,hr,hs,Qb,dV,["script"];let z:∀x>(["ord","len","isinstance","str","tuple","all","int","range","zip","dict","enumerate","sorted","abs","min","sum","list"]:oj Str),mg x=none:=λx hx=>PySem.W.mg_none_of X G (zz x hx);simp![uF,uZ,uT,forall_eq_or_imp,forall_eq] at z;erw[z,z1,z2,z3,z4,z5,z6,z7,z8,z9,ht,hu,hv,hw,hy,hA,hB];exact[(f1,d1,f2,d2,f3,d3,f4,d4,f5,d5,f6,d6,f7,d7,f8,d8,f9,d9,aU,dY,aV,d0,aW,eb,aX,ef,aY,eh,aZ,ej,a1,el,a2,eo,a3,er,a4,eu,a5,ez,a6,eB,a7,eD,a8,eF,a9,eH,bb,eJ,bc,eL,bd,eN,bg,eP,bh,eR,bo,eT,bp,eV,bq,eX,bt,eZ,bu,e1,bv,e3,bw,e5,bx,e7,bA,e9,bB,fb,bC,fe,bD,fg,bE,fi,bF,fm,bG,fq,bH,fu,bI,fw,bJ,fy,bK,fA,bL,fC,bM,fE,bN,fG,bO,fI,bP,fK,bQ,fM,bR,fO,bS,fQ,bT,fS,bU,fU,bV,fW,bW,fY,bX,f0,bY,gc,bZ,gf,b3,gh,b4,gk,b5,gm,b6,gr,b7,gv,b8,gx,b9,gz,ca,gB,cb,gD,cc,gF,cd,gH,ce,gJ,cf,gL,cg,gN,ch,gP,ci,gR,cj,gT,ck,gW,cm,gY,cn,hb,cp,he,cq,hg,cr,hj,cs,hl,cu,hp,cv,hr,U,Z,O,aa):(F1,F2,F3,F4,F5,F6,F7,F8,F9,dZ,ea,ec,eg,ei,ek,em,eq,et,ey,eA,eC,eE,eG,eI,eK,eM,eO,eQ,eS,eU,eW,eY,e0,e2,e4,e6,e8,fa,fc,ff,fh,fj,fo,ft,fv,fx,fz,fB,fD,fF,fH,fJ,fL,fN,fP,fR,fT,fV,fX,fZ,gb,ge,gg,gj,gl,gq,gu,gw,gy,gA,gC,gE,gG,gI,gK,gM,gO,gQ,gS,gU,gX,gZ,hc,hf,hh,hk,ho,hq,hs,aL,(aB.1,aQ.1,aQ.2.1,aB.2),uW X G aK,ax,ay,aF,ao,ap,aA,aq,au,aP,(aJ.1,aR.1,aR.2.1,aJ.2),uW X G aO,aH,aG,aw,ak,am,aI,aE,(af.1,aS.1,aS.2.1,af.2),uW X G aD,ac,ag,ad,ae,ah,aN,(aC.1,aT.1,aT.2.1,aC.2),uW X G aM,al,[_:uW X G g1],[_:uW X G g2],[_:uW X G g3],[_:uW X G g4],[_:uW X G g5],[_:uW X G g6],[_:uW X G g7],[_:uW X G g8],[_:uW X G g9],[_:uW X G dW],[_:uW X G dX],z1,z2,z3,z4,z5,z6,z7,z8,z9,ht,hu,hv,hw,hy,hA,hB)]
variable {K:o0}{h:o8}{mg:Str->om o6}{f:o3}{x:Str}
def mk1 (X:K.In h)(G:h.Ns VF mg){O:o3}{y:Str}(z:∃m,PySem.W.nsIn K VF y=u_ (u_ (-m))/\PySem.W.nsIn K O x=u_ (u_ (-m)))(e:mg y=u_ (-f)):PySem.W.nsIn K O x=u_ (u_ (-f)):=by
 erw[z,m,h1,h2];have:=(uW X G h1).symm.trans e;injection this with this
 injection this with this
 rw[<-this];exact h2
abbrev MKP:oj (Str×Str):= [("text","text_made"),("self","self_made"),("copy","copy_made"),("row","row_made"),("put","put_made"),("join","join_made"),("first","first_made"),("rest","rest_made"),("size","size_made"),("cut","cut_made"),("glue","glue_made")]
abbrev AbV (e:GX):om Str:=match e.key with
 | .str x _=>u_ x|_=>U_
variable {a:o3}{es:Array GX}{n:Nat}{z:Str}
def qar (hl:K.lookup a=u_ (.type "dict",U_,.dict es n,#[]))(hk:es.toList.map AbV=FRM.map λx=>u_ x.1)(hz:xG z=U_):PySem.W.nsIn K a z=u_ none:=by
 let h1:∀e>es.toList,∃x t,e.key= .str x t/\x≠z:=by
  intro e U;let hm:AbV e>es.toList.map AbV:=Ae.mpr [e:U:1];rw[hk] at hm;erw[Ae.mp hm,x,Z,ex];let O:=WK hz x Z;unfold AbV at ex;split at ex
  .rename_i y t hy
   cases ex;exact(_,_,hy,O)
  .cases ex
 unfold PySem.W.nsIn;rw[hl]
 try dsimp only
 let f1:es.toList.find? (λe=>e.key.isStr z)=none:=by
  rw[Uu];intro e U;erw[h1 e U,x,t,Z,O];rw[Z];exact λq=>O (uC q)
 let f2:es.toList.any (·.refKey)=false:=by
  rw[T4];intro e U;erw[h1 e U,x,t,Z,O];unfold pc;rw[Z];exact ub
 rw[f1,f2]
 rfl
def Adz {w:og}{K:o0}{h:o8}{mg:Str->om o6}{a:Ad}(T:Tx K mg a)(X:K.In h)(G:h.Ns VF mg){aB aA aF aM Z O U aW:o3}{eF eM:Array GX}{nF nM:Nat}
  (gB:#[K,"BOXES"]=u_ (u_ (-aB))) (gA:#[K,"ASKING"]=u_ (u_ (-aA))) (gF:#[K,"FORMS"]=u_ (u_ (-aF))) (gM:#[K,"MAKERS"]=u_ (u_ (-aM)))
  (lB:TZ K aB BX) (lA:TZ K aA ["ask","has","names"]) (lF:K.lookup aF=u_ (.type "dict",U_,.dict eF nF,#[])) (lM:K.lookup aM=u_ (.type "dict",U_,.dict eM nM,#[]))
  (kF:PySem.W.KeysLit w.params eF.toList) (kM:PySem.W.KeysLit w.params eM.toList) (zF:(aF==VG)=Vi) (zM:(aM==VG)=Vi)
  (fF:∀x>FRM,TZn K aF x.1 (x.2.map Kd.t)) (fM:∀p>MKP,∃m,PySem.W.nsIn K VF p.2=u_ (u_ (-m))/\PySem.W.nsIn K aM p.1=u_ (u_ (-m))) (oM:∀z>Act,PySem.W.nsIn K aM z=u_ U_)
  (kk:eF.toList.map AbV=FRM.map λx=>u_ x.1)
  (g1:#[K,"BadRule"]=u_ (u_ (-Z))) (b1:PySem.W.excIn K Z VE "ValueError.__new__"=v_)
  (g2:#[K,"BadName"]=u_ (u_ (-O))) (b2:PySem.W.excIn K O VE "ValueError.__new__"=v_)
  (g3:#[K,"BadAnswer"]=u_ (u_ (-U)))
  (e3:PySem.W.exmOne K (-U) (-U)=u_ v_)
  (gW:#[K,"WrightError"]=u_ (u_ (-aW)))
  (e2:PySem.W.exmOne K (-O) (-aW)=u_ v_) (x2:AwV.ExcCls K O):∃g,Fx K w mg g a:=by
 exists (aB,aA,aF,aM,Z,O,U,aW),(uW X G gB,uW X G gA,uW X G gF,uW X G gM,λH=>lB.sq (),λH=>lA.sq (),(zF,eF,nF,lF,kF),λx hx=>?_,(zM,eM,nM,lM,kM),mk1 X G (fM ("text","text_made") ()) T.lG.m,mk1 X G (fM ("self","self_made") ()) T.lI.m,mk1 X G (fM ("copy","copy_made") ()) T.lP.m,mk1 X G (fM ("row","row_made") ()) T.lX.m,mk1 X G (fM ("put","put_made") ()) T.lZ.m,mk1 X G (fM ("join","join_made") ()) T.lL.m,mk1 X G (fM ("first","first_made") ()) T.lm.m,mk1 X G (fM ("rest","rest_made") ()) T.lK.m,mk1 X G (fM ("size","size_made") ()) T.lH.m,mk1 X G (fM ("cut","cut_made") ()) T.l6.m,mk1 X G (fM ("glue","glue_made") ()) T.lO.m,oM,λz hz=>qar lF kk hz,uW X G g1,b1,uW X G g2,b2,uW X G g3,e3,uW X G gW,e2,x2)
 erw[fF x hx,q,h1,h2];exact⟨q,h1,λH=>by rw[zX];exact h2.sq (by rw[uc];exact uY (B5 x hx) ())⟩
end K44
open PySem PySem.W PyProof.Rows L2
set_option maxRecDepth 100000 in
set_option maxHeartbeats 0 in
theorem PySem.Challenge.cw_askwright_k44_whole_least_papers_holds : PySem.Challenge.rw_askwright_k44_whole_least_papers.Holds := by
 w_on;o_law;k_head;(case hw=>w_witness2)
 k_fill
 refine L2.IV (l:=PySem.Challenge.rw_askwright_k44_whole_least_papers) (n:=63) (k:=18) (x:="script") (CX:=L2.CX0) (sp:=K44.M9) rfl (by decide) rfl ⟨rfl,by decide,by decide⟩ (fun w h Y=>PySem.W.kIn_of Y) ?F ?S ?C
 case F=>
  intro w mg fa h KX G hmg
  let T:∃a,K44.Tx (L2.KOf KX) mg a:=by
   try dsimp only [L2.KOf]
   refine' K44.AcS KX G ..
   all_goals first|exact(by k_is,_,_,_,_,_,_,_,_,_,by k_is,by k_is,by k_is)|exact(by k_is,by k_is,_,_,_,_,_,_,_,_,_,by k_is,by k_is,by k_is)|(show _=_;k_is)|exact(by k_is,by k_is,by k_is,by k_is)|exact⟨by k_is,by k_is⟩|(intro x hx;simp only [uF,uZ,uT] at hx;rcases hx with rfl|rfl|rfl|rfl|rfl|rfl|rfl|rfl|rfl|rfl|rfl|rfl|rfl|rfl|rfl|rfl<;>k_is)|skip
  erw[T,a,T]
  let C:∃g,K44.Fx (L2.KOf KX) w mg g a:=by
   try dsimp only [L2.KOf] at T⊢
   refine' K44.Adz T KX G (kF:= ?kF) (kM:= ?kM) (fF:= ?fF) (fM:= ?fM) (oM:= ?oM) (kk:= ?kk) (b1:= ?b1) (b2:= ?b2) (e3:= ?e3) (e2:= ?e2) (x2:= ?x2) ..
   all_goals try (first|(show _=u_ (u_ _);k_is)|(show _=u_ (Obj.mk _ _ _ _);k_is)|exact(_,_,_,_,by k_is,rfl))
   (case kF=>(repeat (first|exact trivial|refine[⟨_,_,rfl,rfl⟩:?_])));(case kM=>(repeat (first|exact trivial|refine[(_,_,rfl,rfl):?_])))
   case fF=>
    intro x hx
    unfold FRM at hx
    simp only [uF,uZ,uT] at hx
    rcases hx with rfl|rfl|rfl|rfl|rfl|rfl|rfl|rfl|rfl|rfl|rfl|rfl|rfl|rfl|rfl|rfl|rfl|rfl|rfl|rfl<;>exact(_,by k_is,_,_,_,_,by k_is,rfl)
   case fM=>
    intro x hx
    unfold K44.MKP at hx
    simp only [uF,uZ,uT] at hx
    rcases hx with rfl|rfl|rfl|rfl|rfl|rfl|rfl|rfl|rfl|rfl|rfl<;>exact⟨_,by k_is,by k_is⟩
   case oM=>
    intro x hx
    unfold K44.Act at hx
    simp only [uF,uZ,uT] at hx
    rcases hx with rfl|rfl|rfl|rfl|rfl|rfl|rfl|rfl|rfl<;>k_is
   (case kk=>rfl);(case b1=>k_exc);(case b2=>k_exc);(case e3=>kts_exm);(case e2=>kts_exm);(case x2=>exact(by k_is,by k_is,by k_is,by k_is,by k_is,by k_is,by k_is))
   all_goals rfl
  erw[C,g,C]
  let e0:=hmg.symm.trans T.BV.m
  cases e0
  exact(_,T.BV.law (fun _ _ _ _ _ _ _=>rfl),(by erw[T.BV.F.ex,_,_,_,_,_,_,_,_,_,e,_];rw [e];rfl),fun base kb nb=>K44.Aby T C)
 case S=>exact fun w H a ns hl hO hS=>(a,ns,rfl,hS,hl,fun _=>rfl)
 case C=>exact fun _ _ _ _ z=>z
